import PyProof.Rows.All
import Wide.All
import OpenK.AllK
import Wide.FinOn
import Lean
import PyProof.EqAt
import PyProof.EqKinds
import PyProof.TupleCall
import PyProof.NeKinds
import PyProof.FactsAll.tuple_2
import PyProof.FactsAll.str_0
import PyProof.FactsAll.str_1
import PyProof.FactsAll.str_2
import PyProof.FactsAll.str_3
import PyProof.Rows.MinMaxN
import PyProof.Rows.SumAny
import PyProof.Rows.SetFrom
import PyProof.ReprRoads
import PyProof.Rows.StrKeys3
import PyProof.CallFns
import KE.KSortTup
import KE.KDictSum
import PySem.Challenge.RW_treewithin_k14_whole_dates_by_order
local macro_rules | `(tactic| omega) => `(tactic| lia)
open PySem renaming wpAny_bind -> Aa, wpAny_pure -> Ae, wpAny_field -> AG, wpAny_callSpecial?_slot -> AI, wpAny_holding -> AX, wpAny_setField_rec -> AZ, Value -> A4, wpAny_call_entry -> A6, wpAny_seqItems -> Bi, wpAny_newObj_type -> Bl, wpAny_Call_Name_kw -> Bq, Expr -> Bu, Addr -> BA, mem_of_lookup -> BG, wpAny_typeOf -> BQ, wpAny_typeNameOfWhole_keyiter -> BR, Str -> BW, wpAny_truthy_bool -> BX, wpAny_mono -> B4, wpAny_passesOwn -> Cf, wpAny_typeNameOf_keyiter -> Cm, wpAny_attempt -> Cn, wpAny_getItem_str_slice -> Co, wpAny_of_eq -> Cq, wpAny_pyIter_list -> CA, wpAny_rule -> CG, wpAny_newTuple -> CH, Pos -> CJ, wpAny_isInstance -> CK, Shared -> C8, wpAny_pyIter_enum -> C9, wpAny_notOrdered_dict -> Dk, wpAny_updateSeq_pair -> Dy, wpAny_letGo -> Dz, wpAny_updateSeq -> DG, wpAny_specialOf -> DH, wpAny_execs_nil -> DJ, wpAny_setField -> D5, wpAny_pyIter_tuple -> D6, wpAny_letOwnedTupleGo_enum -> D7, wpAny_sequenceKey -> Ef, wpAny_dictEntries -> Eg, wpAny_standAt -> Ek, wpAny_onRaise -> El, wpAny_comprehension_free -> Em, wpAny_pyIter_zip -> Es, wpAny_dictEpoch -> EU, wpAny_listPart -> Fd, Heap -> Ft, Obj -> FI, call -> FN
open PySem.W renaming Frag -> Ab, mg_none_of -> AE, nsIn -> A3, kia_one -> A9, kitOne -> Bp, fnOf -> BP, keepIn -> DY, codeIn -> DZ, methodObj -> Eb, kitx_list -> Ec, kitx_dict -> Ed, cellsFrom_some -> EG, instObj -> ER, OpenLaw -> ES, lookIn -> E7, findIn -> E8, kitx_tuple -> Fq, plainGet -> FC
open List renaming getElem?_eq_getElem -> Ad, size_toArray -> Af, length_map -> Ag, length_append -> Ah, getElem?_map -> Aj, replicate -> Ak, getElem?_eq_some_iff -> Al, getD_eq_getElem?_getD -> Am, map_cons -> Ar, length_cons -> Au, range -> Av, mem_range -> Ax, mem_filter -> AB, mem_map -> AD, mem_cons -> AH, map_map -> AM, getElem?_append_right -> AN, getElem?_append_left -> AR, mem_append_right -> AU, getElem?_eq_none -> AV, mem_cons_of_mem -> AY, mem_singleton -> A1, mem_of_getElem? -> A5, map_append -> A8, find?_cons -> Bb, append_assoc -> Bc, not_mem_nil -> Bj, lookup_cons -> Bk, drop_eq_getElem_cons -> Bm, length_replicate -> Bo, mem_cons_self -> Br, mem_append -> Bs, forIn_cons -> Bt, replicate_succ -> Bv, filterMap_cons -> Bw, getElem?_replicate -> BC, map_congr_left -> BH, getElem?_range -> BI, pairwise_cons -> BN, length -> BS, getElem?_set_ne -> BU, flatten_cons -> B1, ext_getElem? -> B2, length_set -> B5, mergeSort_perm -> B7, any_cons -> Ca, length_take -> Cc, length_filter_le -> Ce, filter_congr -> Ci, getElem?_set_self -> Cs, countP_append -> Ct, countP_eq_length_filter -> Cu, getElem?_toArray -> Cz, pairwise_map -> CB, length_range -> CC, idxOf_lt_length_of_mem -> CD, mem_append_left -> CI, filter_cons -> CM, pairwise_iff_getElem -> CN, length_reverse -> CP, range_succ -> CV, append_nil -> CW, take_of_length_le -> Dd, reverse_cons -> De, pairwise_lt_range -> Df, nodup_append -> Dg, replicate_append_replicate -> Di, length_drop -> Dq, all_eq_true -> Dr, getElem_toArray -> DA, eq_nil_of_length_eq_zero -> DB, nodup_cons -> DL, nil_append -> DM, length_nil -> DN, countP_map -> DP, reverse_append -> DR, any_eq_false -> Eh, length_erase_of_mem -> En, pairwise_mergeSort -> Ew, map_fst_zip -> Ex, map -> Ey, length_eq_zero_iff -> Ez, getElem_mem -> EA, drop_length -> EB, countP_cons -> EC, any_eq_true -> ED, map_nil -> EL, length_pos_of_mem -> EM, drop_eq_nil_of_le -> EN, of_mem_zip -> EW, length_singleton -> EY, filterMap_append -> EZ, take_succ -> Fg, nodup_nil -> Fh, getElem?_of_mem -> Fi, getElem_of_mem -> Fm, countP_eq_zero -> Fo, map_set -> FA
open PySem.Heap renaming get?_push_of_some -> Ai, lt_size -> An, get?_push_size -> Ap, SameBut -> BE, get?_update_self -> Cv, size_push -> CF, get?_update_other -> C4, ExtBut -> FK
open Nat renaming le_refl -> Ao, lt_of_lt_of_le -> Ay, zero_add -> Az, ne_of_lt -> AA, add_assoc -> AL, lt_irrefl -> AO, le_trans -> AQ, le_add_right -> A7, zero_le -> Bx, add_sub_cancel_left -> BZ, le_of_lt -> Dc, le_of_ble_eq_true -> Dl, strongRecOn -> DK, lt_of_le_of_lt -> D8, lt_succ_self -> Eu, sub_zero -> EK, sub_sub -> Fe, mul_le_mul -> Ff, succ_mul -> Fy, lt_or_ge -> Fz
open Bool renaming false_eq_true -> Aq, and_eq_true -> AJ, false_ne_true -> A2, not_true -> Cb, and_false -> Cp, false_and -> D9, not_false -> Fj
open PySem.Value renaming ref -> Aw, none -> Bh, bool -> BL, type -> Cr, int -> DW, str -> FE
open PyProof.Rows renaming callWith_type1 -> AW, slot_tuple_getitem -> Bg
open PySem.PassesOwn renaming never -> Ba
open Int renaming toNat_natCast -> Bd, emod_lt_of_pos -> BO, emod_nonneg -> B6, le_refl -> Cj, eq_ofNat_of_zero_le -> EE, zero_add -> EO
open PySem.NameKind renaming free -> Be, cell -> Fp
open PySem.Calls renaming spliced_cons -> Bf, spliced_nil -> BF, callWith_builtin -> C7, Name_function_global -> D4, evalArgs_plain -> Fb
open False renaming elim -> Bn
open PySem.F renaming slot_dict_keyiterator_next -> Bz, plainAttrs_list -> BV, slot_zip_next -> B3, slot_tuple_iterator_next -> Cd, slot_enumerate_next -> Cw, args_tuple_add_2 -> CS, slot_list_getattribute -> CT, entry_tuple_add -> CZ, slot_zip_getattribute -> C1, slot_tuple_add -> C5, args_zip_next_1 -> C6, slot_dict_get -> Dj, entry_zip_next -> Dm, args_dict_keyiterator_next_1 -> Dn, entry_dict_keyiterator_next -> Du, args_list_extend_2 -> Dv, args_tuple_iterator_next_1 -> DC, entry_list_extend -> DQ, entry_tuple_iterator_next -> DV, slot_list_extend -> D3, args_dict_get_3 -> Ep, args_enumerate_next_1 -> Er, entry_dict_get -> EH, entry_enumerate_next -> EI
open Ne renaming symm -> BD
open Option renaming map_some -> BJ, getD_none -> Et, isSome_map -> Fx
open True renaming intro -> BK
open PySem.AutoSeq1 renaming wpAny_loadPart' -> BM, sub_tuple_tuple -> Dp, sub_tuple_list -> Dw, sub_list_tuple -> Dx, sub_list_list -> DE, idx_int -> EJ
open PySem.Str renaming ofString -> B8, length_append -> C3
open Or renaming inr -> B9, inl -> Cy
open ForInStep renaming yield -> Cg
open PySem.Obj renaming mapSeq -> Ck, data_mapFields -> CY, isFreed_of_fields -> EX
open Array renaming getElem?_eq_getElem -> CO, getElem?_eq_none -> Dh, length_toList -> DS, size_append -> Ei, getElem?_toList -> E6, forIn_toList -> Fu
open Sum renaming inl -> CU, inr -> Ea
open And renaming right -> C2
open Sum.inl renaming inj -> Ds
open PySem.Txt renaming slice_le -> DT, slice -> Eo
open PySem.SeqAt.RcNeAt renaming lists_lengths -> D1, lists -> Fs
open PySem.SeqAt renaming EqAt -> D2
open PySem.EqBoolInt renaming of_rcne -> Ee, of_rc -> ET
open PySem.SeqAt.RcAt renaming lists_lengths -> Ej, lists -> FG
open PySem.Data renaming seq -> E9
open PySem.Around renaming under_plainId -> Fc
open PySem.Flow renaming ret -> Fv
open PySem.Fin renaming done -> Fw
open PySem.IsL renaming isList -> FH
open Sum.inr renaming inj -> FJ
set_option compiler.extract_closed false
set_option Elab.async false
set_option linter.all false
set_option maxRecDepth 100000
set_option maxHeartbeats 1000000
open Option renaming none→bd
open PyProof.Rows renaming boot_str→tt,envOfC→EQ,AllBare→GE
open PySem renaming Value→bn,Addr→ci,wpAny→cr,Shared→db,model→f8,starEach→ga,mainGlobals→ii,Expr→im,eval→kt,swapsWith→lm,Heap→lw,tupleKind→mo,behindInMarks→nw,bootBuiltins→pc,cLine→pr,compareOp→py,attributeBase→r6,Scope→r9,sysModules→sn,binaryOp→ss,holding→sw,rawInt→sB,Stmt→sK,call_meets→t0,Program→ul,Builtin→ut,typeLookup→u8,sliceBounds→v4,setField→wf,ZipApart→wn,IntMulOk→wp,World→wv,tupleKind_room_in1→ww,NameKind→wE,backTo→wP,assignEach→wS,PassesOwn→wT,assign→zn,IsPair→BT,Around→Ch,setItem→Da,codeAny→Db,pyNext→Ev,builtinsNs→Fa,storedH→FB,getItem→FM,plainId_quiet→FS,FuncData→Gc,post_val_or_str→GM,letOwnedTupleGo→GT,codeAny_builtin→Ix
local macro_rules | `(∅)=>`(by omega)
local macro_rules | `(⋯)=>`(by decide)
open PySem PySem.Spec PyProof.Rows
abbrev O.{u}(α:Type u):=List α
namespace L2
end L2
namespace My
end My
namespace PL
end PL
namespace FL
end FL
open L2 My PL FL
namespace L2
abbrev Key:=Sum Int Str
def qT:Key->bn->Bool
 | .inl k,v=>Value.isInt k v
 | .inr x,v=>Value.isStrOf x v
def YS(w:wv):Key->Int
 | .inl k=>hashInt k
 | .inr x=>hashStr w x
def bz:∀{k:Key}{v:bn},qT k v=true->(∃i t,k=CU i/\v=DW i t)\/(∃x t,k=Ea x/\v=FE x t)
 | .inl i,v,h=>by
  obtain⟨t,e⟩:=Value.isInt_shape (k:=i) (v:=v) h;exact .inl ⟨i,t,rfl,e⟩
 | .inr x,v,h=>by
  obtain⟨t,e⟩:=Value.isStrOf_shape (x:=x) (v:=v) h;exact .inr ⟨x,t,rfl,e⟩
def GO(i:Int)(t:Tok):qT (.inl i) (.int i t)=true:=by simp[qT,Value.isInt]
def GN(x:Str)(t:Tok):qT (.inr x) (.str x t)=true:=by simp[qT,Value.isStrOf]
def Rq(a b:Int):decide ((CU a:Key)=CU b)=(a==b):=by
 by_cases e:a=b
 ·subst e;simp
 ·have h:¬(CU a:Key)=CU b:=λq=>e (Ds q);rw[decide_eq_false h];exact(beq_eq_false_iff_ne.mpr e).symm
def Rn(a b:Str):decide ((Ea a:Key)=Ea b)=decide (a=b):=by
 by_cases e:a=b
 ·subst e;simp
 ·have h:¬(Ea a:Key)=Ea b:=λq=>e (FJ q);rw[decide_eq_false h,decide_eq_false e]
def Rp(a:Int)(b:Str):decide ((CU a:Key)=Ea b)=false:=decide_eq_false (λq=>nomatch q)
def Ro(a:Str)(b:Int):decide ((Ea a:Key)=CU b)=false:=decide_eq_false (λq=>nomatch q)
def aU(prog:ul)(w:wv):PySem.KeyKind prog w Key where
 is:=qT
 hash:=YS w
 inj:=λv a b ha hb=>by
  rcases bz ha with⟨i,t,rfl,rfl⟩ | ⟨x,t,rfl,rfl⟩
  ·rcases bz hb with⟨j,u,rfl,e⟩ | ⟨y,u,rfl,e⟩
   ·injection e with e1 _;rw[e1]
   ·exact nomatch e
  ·rcases bz hb with⟨j,u,rfl,e⟩ | ⟨y,u,rfl,e⟩
   ·exact nomatch e
   ·injection e with e1 _;rw[e1]
 byValue:=λk v h=>by
  rcases bz h with⟨i,t,rfl,rfl⟩ | ⟨x,t,rfl,rfl⟩ <;> rfl
 pyHash:=λhv h=>by
  rcases bz hv with⟨i,t,rfl,rfl⟩ | ⟨x,t,rfl,rfl⟩
  ·exact wpAny_pyHash_int h
  ·exact wpAny_pyHash_str h
 eqBool:=λhu hv h=>by
  rcases bz hu with⟨i,t,rfl,rfl⟩ | ⟨x,t,rfl,rfl⟩
  ·rcases bz hv with⟨j,u,rfl,rfl⟩ | ⟨y,u,rfl,rfl⟩
   ·rw[Rq]at h;exact wpAny_eqBool_int h
   ·rw[Rp]at h;exact D2.int_str i t y u _ _ _ _ h
  ·rcases bz hv with⟨j,u,rfl,rfl⟩ | ⟨y,u,rfl,rfl⟩
   ·rw[Ro]at h;exact D2.str_int x t j u _ _ _ _ h
   ·rw[Rn]at h;exact wpAny_eqBool_str h
 «strs»:=λk x t v h=>by
  rcases bz h with⟨i,u,rfl,e⟩ | ⟨y,u,rfl,e⟩
  ·exact nomatch e
  ·injection e with e1 _;subst e1;cases v <;> rfl
def vG(prog:ul)(w:wv)(i:Int)(t:Tok):(aU prog w).is (.inl i) (.int i t)=true:=GO i t
def vF(prog:ul)(w:wv)(x:Str)(t:Tok):(aU prog w).is (.inr x) (.str x t)=true:=GN x t
end L2
variable{us:O A4}{u:A4}{a b e:BA}{P:PySem.Program}{w:PySem.World}{h h':Ft}{α β:Type}{ob:FI}
namespace L2
inductive V where
 | aK | bl (b:Bool) | int (i:Int) | str (x:Str) | Ss (b:Array UInt8) | Tb (b:UInt64) | ref (a:ci) | ty (n:String)
 deriving DecidableEq
def RelV:V->bn->Prop
 | .aK,u=>u=Bh
 | .bl b,u=>u=BL b
 | .int i,u=>∃t,u=DW i t
 | .str x,u=>∃t,u=FE x t
 | .Ss b,u=>∃t,u=Value.bytes b t
 | .Tb b,u=>∃t,u=Value.float b t
 | .ref a,u=>u=Aw a
 | .ty n,u=>u=Cr n
abbrev Vals:O V->O bn->Prop:=Paired RelV
def Vals.length{xs:O V}(r:Vals xs us):xs.length=us.length:=Paired.length r
theorem Vals.get:∀{xs:O V}{us:O bn}{i:Nat}{x:V},Vals xs us->xs[i]?=some x->∃u,us[i]?=some u/\RelV x u
 | _,_,_,_,.nil,e=>by simp at e
 | _,_,0,_,.cons r _,e=>by simp at e;subst e;exact⟨_,rfl,r⟩
 | _,_,i+1,x,.cons _ t,e=>by
  obtain⟨u,h1,h2⟩:=Vals.get (i:=i) (x:=x) t (by simpa using e);exact⟨u,by simpa using h1,h2⟩
theorem Vals.set{x:V}(r:RelV x u):∀{xs:O V}{us:O bn} (i:Nat),Vals xs us->Vals (xs.set i x) (us.set i u)
 | _,_,_,.nil=>.nil
 | _,_,0,.cons _ t=>.cons r t
 | _,_,i+1,.cons q t=>.cons q (Vals.set r i t)
theorem Vals.append:∀{xs ys:O V}{us ws:O bn},Vals xs us->Vals ys ws->Vals (xs++ys) (us++ws)
 | _,_,_,_,.nil,s=>s
 | _,_,_,_,.cons r t,s=>.cons r (Vals.append t s)
theorem Vals.take:∀{xs:O V}{us:O bn} (n:Nat),Vals xs us->Vals (xs.take n) (us.take n)
 | _,_,0,_=>.nil
 | _,_,_+1,.nil=>.nil
 | _,_,n+1,.cons r t=>.cons r (Vals.take n t)
theorem Vals.drop:∀{xs:O V}{us:O bn} (n:Nat),Vals xs us->Vals (xs.drop n) (us.drop n)
 | _,_,0,r=>r
 | _,_,_+1,.nil=>.nil
 | _,_,n+1,.cons _ t=>Vals.drop n t
def mN:Option V->Option bn->Prop
 | some v,some u=>RelV v u
 | none,bd=>True
 | _,_=>False
def KV{κ:Type}:O (κ×V)->O (κ×bn)->Prop:=Paired λ(p:κ×V) (q:κ×bn)=>p.1=q.1/\RelV p.2 q.2
def kV:Key->V
 | .inl i=>.int i
 | .inr x=>.str x
inductive HO where
 | lst (xs:List V)
 | tup (xs:List V)
 | dK (kvs:List (Key×V)) | dT (kvs:List (List Key×V))
 | set (S:Int->Bool) (n:Nat)
 | ins (C dx:ci) (fs:List (Str×V))
 | own (x:ci)
 | xd (fs:List (Str×V))
 | met (f x:ci)
 | Yw (lo hi:Int)
 | bQ (o:Obj) (u:HO)
 | HY (ps:Array bn)
 | ext (φ:lw->Prop)
abbrev Hp:=ci->Option HO
def upd(H:Hp)(a:ci)(o:HO):Hp:=λb=>if b=a then some o else H b
def aE{H:Hp}{o:HO}:upd H a o a=some o:=by unfold upd;rw[if_pos rfl]
def ar{H:Hp}{o:HO}(h:b≠a):upd H a o b=H b:=by unfold upd;rw[if_neg h]
def zB{H:Hp}{o u:HO}(h:H a=some o)(h':H b=some u)(d:o≠u):a≠b:=by
 intro e;subst e;rw[h]at h';exact d (Option.some.inj h')
def bb{H:Hp}{o:HO}(h:H a=some o)(h':H b=bd):a≠b:=by
 intro e;subst e;rw[h]at h';cases h'
section
variable(P:ul)(w:wv)
def aR(H:Hp)(h:lw)(a:ci):HO->Prop
 | .lst xs=>xs.length<=sizeLine/\∃(aj:O bn) (n:Nat),Vals xs aj/\h.get? a=some {cls:=.type "list",data:=.seq aj.toArray n}
 | .tup xs=>xs.length<=sizeLine/\∃aj:O bn,Vals xs aj/\IsTup h a aj.toArray
 | .dK kvs=>kvs.length<=sizeLine/\(a==sn)=false/\∃vs,KV kvs vs/\h.DictOf (aU P w) a vs
 | .dT kvs=>kvs.length<=sizeLine/\(a==sn)=false/\∃xs:O (O Key×ci×bn),
   Paired (λ(p:O Key×V) (q:O Key×ci×bn)=>p.1=q.1/\H q.2.1=some (.tup (p.1.map kV))/\RelV p.2 q.2.2) kvs xs/\
   ∃o es ep,h.get? a=some o/\o.ExactDict/\o.data=.dict es ep/\es.toList=xs.map (entryOfKey (mo (aU P w)))/\(xs.map (·.1)).Nodup
 | .set S n=>h.SetOf (intKind P w) a S n
 | .ins C dx fs=>H dx=some (.own a)/\fs.length<=1000/\dx≠a/\h.get? a=some (ER C dx)/\
   ∃mA,h.Ns1 dx mA/\(∀f,mN (fs.lookup f) (mA f))/\PySem.Within mA (fs.map (·.1))
 | .own _=>∃o,h.get? a=some o
 | .xd fs=>∃mA,h.Ns1 a mA/\∀f,mN (fs.lookup f) (mA f)
 | .Yw lo hi=>∃t u v,h.get? a=some {cls:=.type "range",data:=.fields #[.int lo t,.int hi u,.int 1 v]}
 | .bQ o u=>h.get? a=some o/\aR H h a u
 | .HY ps=>h.get? a=some {cls:=.none,data:=.fields ps}
 | .met f x=>h.get? a=some (Eb (.ref f) (.ref x))
 | .ext φ=>φ h/\(∃o,h.get? a=some o)/\∀h1 h2:lw,φ h1->(∀o,h1.get? a=some o->h2.get? a=some o)->φ h2
def jd(H:Hp)(h:lw):Prop:=∀a o,H a=some o->aR P w H h a o
end
section
variable{H H':Hp}{o:HO}
def aR.lt(x:aR P w H h a o):a < h.objs.size:=by
 cases o with
 | lst xs=>obtain⟨_,_,_,_,e⟩:=x;exact An e
 | tup xs=>obtain⟨_,_,_,p⟩:=x;exact p.lt
 | dK kvs=>obtain⟨_,_,_,_,o,_,_,e,_⟩:=x;exact An e
 | dT kvs=>obtain⟨_,_,_,_,o,_,_,e,_⟩:=x;exact An e
 | set S n=>obtain⟨o,_,_,_,e,_⟩:=x;exact An e
 | ins C dx fs=>obtain⟨_,_,_,e,_⟩:=x;exact An e
 | own y=>obtain⟨_,e⟩:=x;exact An e
 | xd fs=>obtain⟨_,⟨_,_,_,e,_⟩,_⟩:=x;exact An e
 | Yw lo hi=>obtain⟨_,_,_,e⟩:=x;exact An e
 | bQ ob u=>obtain⟨e,_⟩:=x;exact An e
 | HY ps=>exact An (show h.get? a=some _ from x)
 | met f y=>exact An (show h.get? a=some _ from x)
 | ext φ=>obtain⟨_,⟨_,e⟩,_⟩:=x;exact An e
theorem Paired.Rc{F G:α->β->Prop}:∀{l₁:List α}{l₂:List β},Paired F l₁ l₂->(∀a b,F a b->G a b)->Paired G l₁ l₂
 | _,_,.nil,_=>.nil
 | _,_,.cons r t,f=>.cons (f _ _ r) (Paired.Rc t f)
def aR.rS(x:aR P w H h a o)(k:∀b u,(b=a\/H b=some (.own a))->h.get? b=some u->h'.get? b=some u)
  (ho:∀b,H b=some (.own a)->H' b=some (.own a)) (ht:∀b xs,H b=some (.tup xs)->H' b=some (.tup xs)):aR P w H' h' a o:=by
 induction o with
 | lst xs=>obtain⟨z,aj,n,r,e⟩:=x;exact⟨z,aj,n,r,k _ _ (.inl rfl) e⟩
 | tup xs=>obtain⟨z,aj,r,ob,e,c⟩:=x;exact⟨z,aj,r,ob,k _ _ (.inl rfl) e,c⟩
 | dK kvs=>obtain⟨z,y,vs,r,ob,es,ep,e,c⟩:=x;exact⟨z,y,vs,r,ob,es,ep,k _ _ (.inl rfl) e,c⟩
 | dT kvs=>
  obtain⟨z,y,xs,r,ob,es,ep,e,c⟩:=x;exact⟨z,y,xs,Paired.Rc r λp q z=>⟨z.1,ht _ _ z.2.1,z.2.2⟩,ob,es,ep,k _ _ (.inl rfl) e,c⟩
 | set S n=>obtain⟨ob,es,ep,t,e,c⟩:=x;exact⟨ob,es,ep,t,k _ _ (.inl rfl) e,c⟩
 | ins C dx fs=>
  obtain⟨d,z,ne,e,mA,⟨od,es,ep,e2,c⟩,r⟩:=x;exact⟨ho _ d,z,ne,k _ _ (.inl rfl) e,mA,⟨od,es,ep,k _ _ (.inr d) e2,c⟩,r⟩
 | own y=>obtain⟨ob,e⟩:=x;exact⟨ob,k _ _ (.inl rfl) e⟩
 | xd fs=>obtain⟨mA,⟨od,es,ep,e,c⟩,r⟩:=x;exact⟨mA,⟨od,es,ep,k _ _ (.inl rfl) e,c⟩,r⟩
 | Yw lo hi=>obtain⟨t,u,v,e⟩:=x;exact⟨t,u,v,k _ _ (.inl rfl) e⟩
 | bQ ob u ih=>obtain⟨e,q⟩:=x;exact⟨k _ _ (.inl rfl) e,ih q⟩
 | HY ps=>
  have e:h.get? a=some {cls:=.none,data:=.fields ps}:=x;show h'.get? a=some {cls:=.none,data:=.fields ps};exact k a _ (.inl rfl) e
 | met f y=>
  have e:h.get? a=some (Eb (.ref f) (.ref y)):=x;show h'.get? a=some (Eb (.ref f) (.ref y));exact k a _ (.inl rfl) e
 | ext φ=>obtain⟨p,⟨o,e⟩,st⟩:=x;exact⟨st _ _ p λo q=>k _ _ (.inl rfl) q,⟨o,k _ _ (.inl rfl) e⟩,st⟩
def jd.lt(x:jd P w H h)(e:H a=some o):a < h.objs.size:=(x a o e).lt
def jd.fresh(x:jd P w H h)(e:h.objs.size<=a):H a=bd:=by
 cases q:H a with
 | none=>rfl
 | some u=>exact absurd (Ay (x.lt q) e) (AO _)
def jd.kept(x:jd P w H h)(k:∀b u,h.get? b=some u->h'.get? b=some u):jd P w H h':=λa o e=>
 (x a o e).rS (λb u _ q=>k b u q) (λ_ q=>q) λ_ _ q=>q
def jd.laid(x:jd P w H h)(k:∀b u,h.get? b=some u->h'.get? b=some u)(hp:h.objs.size<=a)(new:aR P w (upd H a o) h' a o):jd P w (upd H a o) h':=λb u e=>by
 have hn:=x.fresh hp;by_cases hb:b=a
 ·subst hb;rw[aE]at e;cases e;exact new
 ·rw[ar hb]at e;exact(x b u e).rS (λc v _ q=>k c v q) (λc q=>by rw[ar (bb q hn)];exact q) λc xs q=>by rw[ar (bb q hn)];exact q
end
def Rd(H:Hp)(a:ci)(u:HO):Prop:=H a=some u\/∃o,H a=some (.bQ o u)
def Rd.ok{H:Hp}{u:HO}(r:Rd H a u)(x:jd P w H h):aR P w H h a u:=by
 rcases r with r | ⟨o,r⟩
 ·exact x a u r
 ·obtain⟨_,q⟩:=x a _ r;exact q
def WE:Option HO->Prop
 | some (.lst _)=>True
 | some (.dK _)=>True
 | some (.dT _)=>True
 | some (.set _ _)=>True
 | some (.ins _ _ _)=>True
 | some (.ext _)=>True
 | _=>False
section
variable{H:Hp}{x:ci}{o':HO}
def jd.write(ok:jd P w H h)(mu:WE (H x))(he:e=x\/H e=some (.own x))(k:∀b u,b≠e->h.get? b=some u->h'.get? b=some u)(S3:∃u,h'.get? e=some u)
  (new:aR P w (upd H x o') h' x o'):jd P w (upd H x o') h':=λb u q=>by
 have MU:∀c y,H c=some (.own y)->c≠x:=λc y r z=>by subst z;rw[r]at mu;exact mu
 have YF:∀c xs,H c=some (.tup xs)->c≠x:=λc xs r z=>by subst z;rw[r]at mu;exact mu
 by_cases hb:b=x
 ·subst hb;rw[aE]at q;cases q;exact new
 ·rw[ar hb]at q;by_cases RM:b=e
  ·have q':H b=some (.own x):=by
    rcases he with z | z
    ·exact absurd (RM.trans z) hb
    ·rw[RM];exact z
   rw[q]at q';cases q';obtain⟨v,hv⟩:=S3;exact⟨v,by rw[RM];exact hv⟩
  ·refine(ok b u q).rS (λc v hc r=>k c v ?_ r) (λc r=>by rw[ar (MU c b r)];exact r) λc xs r=>by rw[ar (YF c xs r)];exact r
   rcases hc with rfl | hc
   ·exact RM
   ·rintro rfl;rcases he with z | z
    ·exact MU c b hc z
    ·rw[hc]at z;cases z;exact hb rfl
end
structure Un(fs ex:List ci)(H H':Hp)(h h':lw):Prop where
 keep:∀b o,h.get? b=some o->H b=bd->b∉fs->b∉ex->h'.get? b=some o
 slot:∀b o,h.get? b=some o->H b=bd->b∈fs->b∉ex->∃sl,h'.get? b=some {o with slots:=sl}
 free:∀b o,h.get? b=some o->H b=bd->b∉ex->H' b=bd
 there:∀b o,h.get? b=some o->b∉ex->∃o',h'.get? b=some o'
 cR:∀b xs,H b=some (.tup xs)->H' b=some (.tup xs)
 pd:∀b o u,H b=some (.bQ o u)->H' b=some (.bQ o u)
 rO:∀b ps,H b=some (.HY ps)->∃more,H' b=some (.HY (ps++more))
section
variable{fs ex:O ci}{H H1:Hp}{h1:lw}{x:ci}{o:HO}
def Un.any(u:Un fs ex H H1 h h1)(q:h.get? b=some ob)(n:H b=bd)(hx:b∉ex):∃sl,h1.get? b=some {ob with slots:=sl}:=by
 by_cases hb:b∈fs
 ·exact u.slot b ob q n hb hx
 ·exact⟨ob.slots,u.keep b ob q n hb hx⟩
def Un.kept(k:∀b u,h.get? b=some u->h'.get? b=some u):Un fs ex H H h h':=
 ⟨λb ob q _ _ _=>k b ob q,λb ob q _ _ _=>⟨ob.slots,k b ob q⟩,λ_ _ _ n _=>n,λb ob q _=>⟨ob,k b ob q⟩,λ_ _ q=>q,λ_ _ _ q=>q,λ_ ps q=>⟨#[],by rw[q];simp⟩⟩
def Un.refl:Un fs ex H H h h:=Un.kept λ_ _ q=>q
def Un.laid(k:∀b u,h.get? b=some u->h'.get? b=some u)(hp:h.objs.size<=a)(hn:H a=bd):Un fs ex H (upd H a o) h h' where
 keep:=λb u q _ _ _=>k b u q
 slot:=λb u q _ _ _=>⟨u.slots,k b u q⟩
 free:=λb u q n _=>by rw[ar (AA (Ay (An q) hp))];exact n
 there:=λb u q _=>⟨u,k b u q⟩
 cR:=λb xs q=>by rw[ar (bb q hn)];exact q
 pd:=λb u xs q=>by rw[ar (bb q hn)];exact q
 rO:=λb ps q=>⟨#[],by rw[ar (bb q hn),q];simp⟩
def Un.write(mu:WE (H x))(he:e=x\/H e=some (.own x))(k:∀b u,b≠e->h.get? b=some u->h'.get? b=some u)(S3:∃u,h'.get? e=some u):Un fs ex H (upd H x o) h h':=by
 have hx:∀b,H b=bd->b≠x:=λb n z=>by subst z;rw[n]at mu;exact mu
 have hb:∀b,H b=bd->b≠e:=λb n z=>by
  subst z;rcases he with r | r
  ·exact hx b n r
  ·rw[n]at r;cases r
 have hm:∀b u,H b=some u->¬WE (some u)->b≠x:=λb u q nm z=>by subst z;rw[q]at mu;exact nm mu
 refine⟨λb u q n _ _=>k b u (hb b n) q,λb u q n _ _=>⟨u.slots,k b u (hb b n) q⟩,λb u q n _=>by rw[ar (hx b n)];exact n,λb u q _=>?_,
  λb xs q=>by rw[ar (hm b _ q λz=>z)];exact q,λb u xs q=>by rw[ar (hm b _ q λz=>z)];exact q,λb ps q=>⟨#[],by rw[ar (hm b _ q λz=>z),q];simp⟩⟩
 by_cases RM:b=e
 ·subst RM;exact S3
 ·exact⟨u,k b u RM q⟩
end
def WU(h:lw)(H:Hp):O ci:=(Av h.objs.size).filter λa=>(H a).isSome
def tF(h:lw)(H:Hp):lw:=PySem.W.hideAll h (WU h H)
def GZ(h:lw)(H:Hp):(tF h H).objs.size=h.objs.size:=PySem.W.hideAll_size _ _
def JR{H:Hp}{o:Obj}(e:h.get? b=some o)(n:H b=bd):(tF h H).get? b=some o:=
 PySem.W.hideAll_get _ e λhm=>by
  have q:=(AB.mp hm).2;rw[n]at q;simp at q
def MJ{H:Hp}{o:Obj}(e:(tF h H).get? b=some o):h.get? b=some o/\H b=bd:=by
 have e':=PySem.W.of_hideAll (WU h H) e;refine⟨e',?_⟩;cases q:H b with
 | none=>rfl
 | some x=>
  have hm:b∈WU h H:=AB.mpr ⟨Ax.mpr (An e'),by simp[q]⟩;have z:(tF h H).get? b=bd:=PySem.W.hideAll_none (WU h H) hm;rw[z]at e;cases e
def Og(g h:lw)(L:ci):O (ci×Obj):=(Av h.objs.size).filterMap λa=>if a=L\/(g.get? a).isSome=true then bd else (h.get? a).map λo=>(a,o)
def rest(g h:lw)(L d:ci):O (ci×Obj):=(Og g h L).filter λp=>decide (p.1≠d)
end L2
variable{H H':L2.Hp}{o:FI}{Z:O (BA×FI)}{s s':C8}{g':Array PySem.GenState}{ch:O BA}{it:BA}{i j:Nat}{M:PySem.Model}{A:PySem.Around}{E:A4->C8->Prop}{v:L2.V}{Q:Unit->C8->Prop}
namespace L2
structure Mod(K:Ab)(mg:Str->Option bn)(base:lw):Prop where
 YR:K.In base
 glob:base.Ns ii mg
 blt:∃mb,base.Ns Fa mb/\∀x:Str,x≠"__name__"->mb x=pc x
 nolimit:base.NoLimit
 bm:∃bm ob,mg "__builtins__"=some (.ref bm)/\bm≠Fa/\base.get? bm=some ob/\ob.cls=.type "module"/\ob.dict=some Fa/\ob.data=.plain
structure Cx where
 prog:ul
 w:wv
 K:Ab
 mg:Str->Option bn
 base:lw
 A:Ch
 N:List Str
 s₀:db
 H₀:Hp
 env:Env
 outer:List Env
 stack:List Env
 ex:List ci
 fn:Str->Bool
 calm:Bool
 pn:List (ci×Obj)
 xe:bn->db->Prop
abbrev iG(x:Str):Prop:=(x==("__debug__":Str))=false
abbrev w5(x:Str):Prop:=(x==("__classdict__":Str))=false
abbrev fX(X:Cx)(e:im)(es:O im):Prop:=ga (e::es) X.env=(false,kt e X.env)::ga es X.env
abbrev kJ(X:Cx)(p:Pos)(es:O im):Prop:=(wP p (ga es X.env)).any (·.1)=false
abbrev qC(X:Cx)(e:im):Prop:=∀x,foldedSetIterable e X.env x=pure x
abbrev Tq(X:Cx)(p:Pos)(l:O im):Prop:=((wP p (ga l X.env)).all (λx=>!x.1)&&(backToKw p (keywordEach [] X.env)).all (λx=>x.1.isSome)&&decide (l.length+([]:O Keyword).length+(if ([]:O Keyword).isEmpty then 0 else 1) < 30))=true
abbrev Lq(p q:Pos):Prop:=(p.endLine==q.line)=true
abbrev K6(X:Cx)(y:Str):Prop:=X.fn y=true\/X.env.scope.names.lookup y=some .local
def HF(l:O Env):O ci:=l.filterMap (·.frame)
abbrev Cx.fs(X:Cx):O ci:=HF X.outer
def uL(sc:r9)(x:Str):Prop:=sc.names.lookup x=some .local\/sc.names.lookup x=some .cell\/sc.names.lookup x=some .free
def Loc(sc:r9)(x:Str):Prop:=sc.names.lookup x=some .local\/sc.names.lookup x=some .cell
def Look(env:Env)(h:lw)(m:Str->Option bn)(x:Str)(u:bn):Prop:=
 (env.kindOf x=some .local/\m x=some u)\/((env.kindOf x=some .cell\/env.kindOf x=some .free)/\∃c,env.cells.lookup x=some c/\h.IsCell c (some u))
structure Cx.Ok(X:Cx):Prop where
 mod:Mod X.K X.mg X.base
 kind:X.env.scope.kind=.function
 glob:X.env.globals=ii
 blt:X.env.builtins=Fa
 above:X.s₀.heap.objs.size<=X.env.locals
 inj:∀x y c,X.env.cells.lookup x=some c->X.env.cells.lookup y=some c->x=y
 has:∀x,(X.env.kindOf x=some .cell\/X.env.kindOf x=some .free)->∃c,X.env.cells.lookup x=some c
 Wx:∀x c,X.fn x=true->X.env.cells.lookup x=some c->X.s₀.heap.objs.size<=c
 hd:X.calm=true->X.A.handled=bd
 frames:X.A.frames=some X.stack
 WX:X.stack=X.outer\/(X.stack=X.env::X.outer/\X.env.frame=some X.env.locals)
 exf:∀b∈X.ex,b≠X.env.locals/\∀x c,X.env.cells.lookup x=some c->c≠b
 bs:∀b o,X.base.get? b=some o->X.s₀.heap.get? b=some o/\X.H₀ b=bd
 PF:X.base.objs.size<=X.s₀.heap.objs.size
 Jf:∀b o,X.base.get? b=some o->b∉X.ex
 Ka:∀b∈X.ex,b∉X.fs
 o9:X.s₀.heap.FunFrames X.base X.outer
 S8:∀b∈X.fs,X.H₀ b=bd
structure Inv(X:Cx)(Z:List (ci×Obj))(σ:List (Option V))(H:Hp)(s:db):Prop where
 ok:X.Ok
 os:s.os=X.s₀.os
 bare:GE s.gens
 base:Un X.fs X.ex X.H₀ H X.s₀.heap s.heap
 loc:∃m,s.heap.Ns X.env.locals m/\∀(i:Nat) (x:Str) (v:V),X.N[i]?=some x->σ[i]?=some (some v)->uL X.env.scope x->∃u,RelV v u/\Look X.env s.heap m x u
 cell:∀x c,X.env.cells.lookup x=some c->∃v,s.heap.IsCell c v
 free:H X.env.locals=bd
 iB:∀x c,X.env.cells.lookup x=some c->H c=bd
 pin:∀p∈X.pn++Z,s.heap.get? p.1=some p.2/\H p.1=bd/\p.1≠X.env.locals/\p.1∉X.fs/\∀v,p.2.data≠.cell v
 aY:jd X.prog X.w H s.heap
 len:σ.length=X.N.length
section
variable{X:Cx}{σ:O (Option V)}
def Cx.Ok.YH(ok:X.Ok)(e:X.base.get? b=some o):b∉X.fs:=λhb=>by
 have:=(ok.o9.mem hb).1;rw[e]at this;cases this
def Inv.bs(I:Inv X Z σ H s):∀b o,X.base.get? b=some o->s.heap.get? b=some o/\H b=bd:=λb o e=>
 ⟨I.base.keep b o (I.ok.bs b o e).1 (I.ok.bs b o e).2 (I.ok.YH e) (I.ok.Jf b o e),I.base.free b o (I.ok.bs b o e).1 (I.ok.bs b o e).2 (I.ok.Jf b o e)⟩
def Inv.bk(I:Inv X Z σ H s):∀b o,X.base.get? b=some o->s.heap.get? b=some o:=λb o e=>(I.bs b o e).1
def Inv.mod(I:Inv X Z σ H s):Mod X.K X.mg X.base:=I.ok.mod
def Inv.qU(I:Inv X Z σ H s):X.K.In s.heap:=I.ok.mod.YR.keeps I.bk
def Inv.lt(I:Inv X Z σ H s):X.env.locals < s.heap.objs.size:=let ⟨_,hn,_⟩:=I.loc;hn.lt
def Inv.sz(I:Inv X Z σ H s):X.s₀.heap.objs.size<=s.heap.objs.size:=AQ I.ok.above (Dc I.lt)
def Inv.YG(I:Inv X Z σ H s)(h:s.heap.objs.size<=a):a∉X.fs:=λhb=>by
 obtain⟨_,o,ho,_⟩:=I.ok.o9.mem hb;exact absurd (Ay (An ho) (AQ I.sz h)) (AO _)
def Inv.So(I:Inv X Z σ H s):∀x c,X.env.cells.lookup x=some c->c≠X.env.locals:=λx c e z=>by
 obtain⟨v,o,ho,hd⟩:=I.cell x c e;obtain⟨m,⟨o',es,ep,RI,Zr,_⟩,_⟩:=I.loc;rw[z,RI]at ho;cases ho;rw[Zr]at hd;cases hd
def Inv.o9(I:Inv X Z σ H s):s.heap.FunFrames X.base X.outer:=by
 have all:∀(l:O Env),(∀b∈HF l,b∈X.fs)->X.s₀.heap.FunFrames X.base l->s.heap.FunFrames X.base l:=by
  intro l
  induction l with
  | nil=>intro _ _;trivial
  | cons env r ih=>
   intro hs hl;obtain⟨hk,⟨L,o,hf,hn,ho,hd⟩,hr⟩:=hl;have hL:=hs L (by unfold HF;rw[Bw,hf];exact Br);obtain⟨sl,e⟩:=I.base.slot L o ho (I.ok.S8 L hL) hL λz=>I.ok.Ka L z hL;exact⟨hk,⟨L,_,hf,hn,e,hd⟩,ih (λb hb=>hs b (by unfold HF;rw[Bw,hf];exact AY _ hb)) hr⟩
 exact all X.outer (λ_ hb=>hb) I.ok.o9
def Inv.stack(I:Inv X Z σ H s):s.heap.FunFrames X.base X.stack:=by
 rcases I.ok.WX with e | ⟨e,hf⟩
 ·rw[e];exact I.o9
 ·rw[e];obtain⟨m,hn,_⟩:=I.loc;refine .cons (by rw[I.ok.kind];decide) hf hn ?_ I.o9;exact Heap.get?_none_of_le (AQ I.ok.PF I.ok.above)
def Inv.xk(I:Inv X Z σ H s):∀b∈HF X.stack,b∈X.env.locals::X.fs:=λb hb=>by
 rcases I.ok.WX with e | ⟨e,hf⟩
 ·rw[e]at hb;exact AY _ hb
 ·rw[e]at hb;unfold HF at hb;rw[Bw,hf]at hb;exact hb
def Inv.zb(I:Inv X Z σ H s):∀b∈HF X.stack,H b=bd:=λb hb=>by
 rcases AH.mp (I.xk b hb) with e | hb
 ·rw[e];exact I.free
 ·obtain⟨_,o,ho,_⟩:=I.ok.o9.mem hb;exact I.base.free b o ho (I.ok.S8 b hb) λz=>I.ok.Ka b z hb
def Inv.step{t':Nat}{d':Drawn}(I:Inv X Z σ H s)
  (Ll:∀b∈ch,(b∈X.ex\/X.s₀.heap.objs.size<=b)/\b≠X.env.locals/\(∀x c,X.env.cells.lookup x=some c->c≠b)/\∀p∈X.pn++Z,p.1≠b)
  (keep:∀b o,b≠X.env.locals->b∉X.fs->b∉ch->s.heap.get? b=some o->H b=bd->h'.get? b=some o)
  (slot:∀b o,b≠X.env.locals->b∈X.fs->b∉ch->s.heap.get? b=some o->H b=bd->∃sl,h'.get? b=some {o with slots:=sl}) (free:∀b o,b∉ch->s.heap.get? b=some o->H b=bd->H' b=bd)
  (there:∀b o,b∉ch->s.heap.get? b=some o->∃o',h'.get? b=some o')
  (cR:∀b xs,H b=some (.tup xs)->H' b=some (.tup xs)) (pd:∀b o u,H b=some (.bQ o u)->H' b=some (.bQ o u)) (rO:∀b ps,H b=some (.HY ps)->∃more,H' b=some (.HY (ps++more)))
  (ns:∀m,s.heap.Ns X.env.locals m->h'.Ns X.env.locals m) (aY:jd X.prog X.w H' h') (hg:GE g') :
  Inv X Z σ H' {s with heap:=h',gens:=g',drawn:=d',toks:=t'}:=by
 have neL:∀b o,X.s₀.heap.get? b=some o->b≠X.env.locals:=λb o e=>AA (Ay (An e) I.ok.above);have Xb:∀b o,X.s₀.heap.get? b=some o->b∉X.ex->b∉ch:=λb o e hx hb=>by
  rcases (Ll b hb).1 with z | z
  ·exact hx z
  ·exact absurd (Ay (An e) z) (AO _)
 have Ý:∀x c,X.env.cells.lookup x=some c->∀v,s.heap.IsCell c v->h'.IsCell c v:=λx c e v ⟨o,ho,hd⟩=>by
  have U9:c∉ch:=λz=>(Ll c z).2.2.1 x c e rfl;by_cases hc:c∈X.fs
  ·obtain⟨sl,q⟩:=slot c o (I.So x c e) hc U9 ho (I.iB x c e);exact⟨_,q,hd⟩
  ·exact⟨o,keep c o (I.So x c e) hc U9 ho (I.iB x c e),hd⟩
 refine⟨I.ok,I.os,hg,⟨λb o e n hb hx=>?_,λb o e n hb hx=>?_,λb o e n hx=>?_,λb o e hx=>?_,λb xs e=>cR b xs (I.base.cR b xs e),λb o xs e=>pd b o xs (I.base.pd b o xs e),λb ps e=>?_⟩,?_,λx c e=>?_,?_,λx c e=>?_,λp hp=>?_,aY,I.len⟩
 ·exact keep b o (neL b o e) hb (Xb b o e hx) (I.base.keep b o e n hb hx) (I.base.free b o e n hx)
 ·obtain⟨sl,e1⟩:=I.base.slot b o e n hb hx;obtain⟨sl',e2⟩:=slot b _ (neL b o e) hb (Xb b o e hx) e1 (I.base.free b o e n hx);exact⟨sl',e2⟩
 ·obtain⟨o',e1⟩:=I.base.there b o e hx;exact free b o' (Xb b o e hx) e1 (I.base.free b o e n hx)
 ·obtain⟨o',e1⟩:=I.base.there b o e hx;exact there b o' (Xb b o e hx) e1
 ·obtain⟨m1,e1⟩:=I.base.rO b ps e;obtain⟨m2,e2⟩:=rO b _ e1;exact⟨m1++m2,by rw[e2,Array.append_assoc]⟩
 ·obtain⟨m,hn,hl⟩:=I.loc;refine⟨m,ns m hn,λi x v e1 e2 e3=>?_⟩;obtain⟨u,r,l⟩:=hl i x v e1 e2 e3;refine⟨u,r,?_⟩;rcases l with l | ⟨k,c,e,z⟩
  ·exact .inl l
  ·exact .inr ⟨k,c,e,Ý x c e _ z⟩
 ·obtain⟨v,z⟩:=I.cell x c e;exact⟨v,Ý x c e v z⟩
 ·obtain⟨m,⟨o,_,_,ho,_⟩,_⟩:=I.loc;exact free _ o (λz=>(Ll _ z).2.1 rfl) ho I.free
 ·obtain⟨v,o,ho,hd⟩:=I.cell x c e;exact free c o (λz=>(Ll c z).2.2.1 x c e rfl) ho (I.iB x c e)
 ·obtain⟨e,n,ne,nf,d⟩:=I.pin p hp;have U9:p.1∉ch:=λz=>(Ll p.1 z).2.2.2 p hp rfl;exact⟨keep p.1 p.2 ne nf U9 e n,free p.1 p.2 U9 e n,ne,nf,d⟩
def Inv.un{t':Nat}(I:Inv X Z σ H s)(u:Un X.fs [] H H' s.heap h')(aY:jd X.prog X.w H' h'):Inv X Z σ H' {s with heap:=h',toks:=t'}:=by
 obtain⟨m,⟨o,es,ep,ho,r⟩,_⟩:=id I.loc;obtain⟨sl,hL⟩:=u.any ho I.free (by simp);exact I.step (g':=s.gens) (d':=s.drawn) (ch:=[]) (λ_ z=>nomatch z) (λb o _ hb _ e n=>u.keep b o e n hb (by simp)) (λb o _ hb _ e n=>u.slot b o e n hb (by simp)) (λb o _ e n=>u.free b o e n (by simp)) (λb o _ e=>u.there b o e (by simp)) u.cR u.pd u.rO (λm' hm=>by
  obtain⟨o',XM,XN,RI,r'⟩:=hm;rw[ho]at RI;cases RI;exact⟨_,XM,XN,hL,r'⟩) aY I.bare
def Inv.call{t':Nat}{d':Drawn}(I:Inv X Z σ H s)(u:Un (HF X.stack) ch H H' s.heap h')(aY:jd X.prog X.w H' h')(hg:GE g')
  (Ll:∀b∈ch,(b∈X.ex\/X.s₀.heap.objs.size<=b)/\b≠X.env.locals/\(∀x c,X.env.cells.lookup x=some c->c≠b)/\∀p∈X.pn++Z,p.1≠b) :
  Inv X Z σ H' {s with heap:=h',gens:=g',drawn:=d',toks:=t'}:=by
 obtain⟨m,⟨o,es,ep,ho,r⟩,_⟩:=id I.loc;obtain⟨sl,hL⟩:=u.any ho I.free λz=>(Ll _ z).2.1 rfl;exact I.step (ch:=ch) Ll (λb o hL hb hc e n=>u.keep b o e n (λz=>(AH.mp (I.xk b z)).elim hL hb) hc) (λb o _ _ hc e n=>u.any e n hc) (λb o hc e n=>u.free b o e n hc) (λb o hc e=>u.there b o e hc) u.cR u.pd u.rO (λm' hm=>by
  obtain⟨o',XM,XN,RI,r'⟩:=hm;rw[ho]at RI;cases RI;exact⟨_,XM,XN,hL,r'⟩) aY hg
def Inv.turned{t':Nat}(I:Inv X Z σ H s)(k:∀b o,b≠it->s.heap.get? b=some o->h'.get? b=some o)(hn:H it=bd)(hL:it≠X.env.locals)
  (h1:it∈X.ex\/X.s₀.heap.objs.size<=it) (h2:∀x c,X.env.cells.lookup x=some c->c≠it) (h3:∀p∈X.pn++Z,p.1≠it):Inv X Z σ H {s with heap:=h',toks:=t'}:=by
 have OU:∀b u,H b=some u->b≠it:=λb u e z=>by rw[z,hn]at e;cases e
 refine I.step (g':=s.gens) (d':=s.drawn) (ch:=[it]) (λb hb=>?_) (λb o _ _ hc e _=>k b o (λz=>hc (by simp[z])) e) (λb o _ _ hc e _=>⟨o.slots,k b o (λz=>hc (by simp[z])) e⟩) (λ_ _ _ _ n=>n)
  (λb o hc e=>⟨o,k b o (λz=>hc (by simp[z])) e⟩) (λ_ _ e=>e) (λ_ _ _ e=>e) (λb ps e=>⟨#[],by rw[e];simp⟩) (λm hm=>?_) (λb u e=>?_) I.bare
 ·have e:b=it:=by simpa using hb
  subst e;exact⟨h1,hL,h2,h3⟩
 ·obtain⟨o,es,ep,ho,r⟩:=hm;exact⟨o,es,ep,k _ o (BD hL) ho,r⟩
 ·refine(I.aY b u e).rS (λc v hc q=>k c v ?_ q) (λ_ q=>q) λ_ _ q=>q;rcases hc with z | z
  ·rw[z];exact OU b u e
  ·exact OU c _ z
def Inv.tok(I:Inv X Z σ H s)(t:Nat):Inv X Z σ H {s with toks:=t}:=I.un (h':=s.heap) (t':=t) Un.refl I.aY
def Inv.kept{t':Nat}(I:Inv X Z σ H s)(k:∀b u,s.heap.get? b=some u->h'.get? b=some u):Inv X Z σ H {s with heap:=h',toks:=t'}:=I.un (Un.kept k) (I.aY.kept k)
def Inv.laid{o:HO}{t':Nat}(I:Inv X Z σ H s)(k:∀b u,s.heap.get? b=some u->h'.get? b=some u)(hp:s.heap.objs.size<=a)(new:aR X.prog X.w (upd H a o) h' a o) :
  Inv X Z σ (upd H a o) {s with heap:=h',toks:=t'}:=I.un (Un.laid k hp (I.aY.fresh hp)) (I.aY.laid k hp new)
def Inv.write{x:ci}{o:HO}{t':Nat}(I:Inv X Z σ H s)(mu:WE (H x))(he:e=x\/H e=some (.own x))(k:∀b u,b≠e->s.heap.get? b=some u->h'.get? b=some u)(S3:∃u,h'.get? e=some u)
  (new:aR X.prog X.w (upd H x o) h' x o):Inv X Z σ (upd H x o) {s with heap:=h',toks:=t'}:=I.un (Un.write mu he k S3) (I.aY.write mu he k S3 new)
def Inv.zq{vn:O (ci×Obj)}(I:Inv X Z σ H s)(h:∀p∈vn,s.heap.get? p.1=some p.2/\H p.1=bd/\p.1≠X.env.locals/\p.1∉X.fs/\∀v,p.2.data≠.cell v):Inv X vn σ H s:=
 ⟨I.ok,I.os,I.bare,I.base,I.loc,I.cell,I.free,I.iB,λp hp=>(Bs.mp hp).elim (λz=>I.pin p (CI _ z)) (h p),I.aY,I.len⟩
def vD{N:O Str}(hN:N.Nodup){x:Str}(a:N[i]?=some x)(b:N[j]?=some x):i=j:=by
 obtain⟨h1,e1⟩:=Al.mp a;obtain⟨h2,e2⟩:=Al.mp b;exact(List.getElem_inj hN).mp (e1.trans e2.symm)
def qF{x:Str}(I:Inv X Z σ H s)(hN:X.N.Nodup)(hi:X.N[i]?=some x)(hx:Loc X.env.scope x)(r:RelV v u)
  (h:∀s',Inv X Z (σ.set i (some v)) H s'->(∃a,BE a s.heap s'.heap/\(a=X.env.locals\/X.env.cells.lookup x=some a))->Q () s') (hf:K6 X x:=by first | exact .inl rfl | exact .inr rfl | assumption):cr M A (storeName X.env x u) Q E s:=by
 obtain⟨m,hn,hl⟩:=id I.loc;have Zs:(X.env.scope.kind==.class||(X.env.scope.kind==.module&&X.env.locals != X.env.globals))=false:=by rw[I.ok.kind];rfl
 have VE:i < σ.length:=by rw[I.len];exact(Al.mp hi).1
 have So:=I.So;have Ó:∀{a:ci}{h':lw},(∃o,s.heap.get? a=some o/\H a=bd)->BE a s.heap h'->jd X.prog X.w H h':=λ{a h'} ha hs b ob e=>by
  obtain⟨_,_,Pd⟩:=ha;refine(I.aY b ob e).rS (λc w' hc q=>(hs.2 c ?_).trans q) (λ_ q=>q) λ_ _ q=>q;rintro rfl;rcases hc with rfl | hc
  ·rw[Pd]at e;cases e
  ·rw[Pd]at hc;cases hc
 rcases hx with hk | hk
 ·refine wpAny_storeName_local hk hn (λh' hn' hs=>?_) Zs;obtain⟨oL,_,_,hoL,_⟩:=id hn;refine h _ ⟨I.ok,I.os,I.bare,⟨λb o e n hb hx=>?_,λb o e n hb hx=>?_,I.base.free,λb o e hx=>?_,I.base.cR,I.base.pd,I.base.rO⟩,⟨_,hn',λj y v' e1 e2 e3=>?_⟩,λy c e=>?_,I.free,I.iB,λp hp=>?_,Ó ⟨oL,hoL,I.free⟩ hs,by simpa using I.len⟩ ⟨_,hs,.inl rfl⟩
  ·exact(hs.2 b (AA (Ay (An e) I.ok.above))).trans (I.base.keep b o e n hb hx)
  ·obtain⟨sl,e1⟩:=I.base.slot b o e n hb hx;exact⟨sl,(hs.2 b (AA (Ay (An e) I.ok.above))).trans e1⟩
  ·obtain⟨o',e1⟩:=I.base.there b o e hx;exact⟨o',(hs.2 b (AA (Ay (An e) I.ok.above))).trans e1⟩
  ·by_cases hj:j=i
   ·subst hj;rw[hi]at e1;cases e1;rw[Cs VE]at e2;cases e2;exact⟨u,r,.inl ⟨hk,by simp⟩⟩
   ·rw[BU (BD hj)]at e2;obtain⟨u',r',q⟩:=hl j y v' e1 e2 e3;refine⟨u',r',?_⟩;rcases q with⟨k,e⟩ | ⟨k,c,e,z⟩
    ·refine .inl ⟨k,?_⟩;have:y≠x:=λe=>hj (vD hN e1 (e▸hi));simp[this,e]
    ·exact .inr ⟨k,c,e,z.sameBut hs (So y c e)⟩
  ·obtain⟨w',z⟩:=I.cell y c e;exact⟨w',z.sameBut hs (So y c e)⟩
  ·obtain⟨e,n,ne,nf,d⟩:=I.pin p hp;exact⟨(hs.2 p.1 ne).trans e,n,ne,nf,d⟩
 ·have VI:X.fn x=true:=by
   rcases hf with z | z
   ·exact z
   ·rw[z]at hk;cases hk
  obtain⟨c,hc⟩:=I.ok.has x (.inl hk);obtain⟨w',z⟩:=I.cell x c hc;refine wpAny_storeName_cell I.ok.kind hk hc z (λh' S4 hs=>?_);obtain⟨oc,hoc,Zb⟩:=id z;refine h {s with heap:=h'} ⟨I.ok,I.os,I.bare,⟨λb o e n hb hx=>?_,λb o e n hb hx=>?_,I.base.free,λb o e hx=>?_,I.base.cR,I.base.pd,I.base.rO⟩,⟨m,hn.sameBut hs (BD (So x c hc)),λj y v' e1 e2 e3=>?_⟩,λy c' e=>?_,I.free,I.iB,λp hp=>?_,Ó ⟨oc,hoc,I.iB x c hc⟩ hs,by simpa using I.len⟩ ⟨c,hs,.inr hc⟩
  ·exact(hs.2 b (AA (Ay (An e) (I.ok.Wx x c VI hc)))).trans (I.base.keep b o e n hb hx)
  ·obtain⟨sl,e1⟩:=I.base.slot b o e n hb hx;exact⟨sl,(hs.2 b (AA (Ay (An e) (I.ok.Wx x c VI hc)))).trans e1⟩
  ·obtain⟨o',e1⟩:=I.base.there b o e hx;exact⟨o',(hs.2 b (AA (Ay (An e) (I.ok.Wx x c VI hc)))).trans e1⟩
  ·by_cases hj:j=i
   ·subst hj;rw[hi]at e1;cases e1;rw[Cs VE]at e2;cases e2;exact⟨u,r,.inr ⟨.inl hk,c,hc,S4⟩⟩
   ·rw[BU (BD hj)]at e2;obtain⟨u',r',q⟩:=hl j y v' e1 e2 e3;refine⟨u',r',?_⟩;rcases q with q | ⟨k,c',e,z'⟩
    ·exact .inl q
    ·refine .inr ⟨k,c',e,z'.sameBut hs ?_⟩;rintro rfl;exact hj (vD hN e1 (I.ok.inj _ _ _ e hc▸hi))
  ·by_cases hcc:c'=c
   ·subst hcc;exact⟨_,S4⟩
   ·obtain⟨w2,z2⟩:=I.cell y c' e;exact⟨w2,z2.sameBut hs hcc⟩
  ·obtain⟨e,n,ne,nf,d⟩:=I.pin p hp;refine⟨(hs.2 p.1 ?_).trans e,n,ne,nf,d⟩;intro q;rw[q,hoc]at e;have q':oc=p.2:=Option.some.inj e;exact d w' (by rw[<- q'];exact Zb)
def u4{x:Str}(I:Inv X Z σ H s)(hN:X.N.Nodup)(hi:X.N[i]?=some x)(hx:Loc X.env.scope x)(r:RelV v u)
  (h:∀s',Inv X Z (σ.set i (some v)) H s'->Q () s') (hf:K6 X x:=by first | exact .inl rfl | exact .inr rfl | assumption):cr M A (storeName X.env x u) Q E s:=
 qF I hN hi hx r (λs' I' _=>h s' I') hf
def Inv.Ww(I:Inv X Z σ H s)(ho:s'.os=s.os)(u:Un (HF X.stack) ch H H' s.heap s'.heap)(aY:jd X.prog X.w H' s'.heap)(hg:GE s'.gens)
  (Ll:∀b∈ch,(b∈X.ex\/X.s₀.heap.objs.size<=b)/\b≠X.env.locals/\(∀x c,X.env.cells.lookup x=some c->c≠b)/\∀p∈X.pn++Z,p.1≠b):Inv X Z σ H' s':=by
 obtain⟨h',g',d',t',o'⟩:=s';have e:o'=s.os:=ho;subst e;exact I.call (g':=g') (t':=t') (d':=d') u aY hg Ll
end
abbrev XK:=bn->Option ci->Hp->Prop
abbrev St:=O (Option V)
abbrev VK:=V->Hp->Prop
abbrev TE:=St->Hp->VK->Prop
abbrev TT:=St->Hp->(Bool->Hp->Prop)->Prop
abbrev TA:=St->Hp->(O V->Hp->Prop)->Prop
structure Ends where
 nx:St->Hp->Prop
 rt:VK
 bk:St->Hp->Prop:=λ_ _=>False
 ct:St->Hp->Prop:=λ_ _=>False
abbrev TS:=Ends->St->Hp->Prop
def EP(X:Cx)(Z:O (ci×Obj))(σ:St)(Q:VK)(u:bn)(s':db):Prop:=∃v H',Inv X Z σ H' s'/\RelV v u/\Q v H'
def TP(X:Cx)(Z:O (ci×Obj))(σ:St)(Q:Bool->Hp->Prop)(b:Bool)(s':db):Prop:=∃H',Inv X Z σ H' s'/\Q b H'
def AP(X:Cx)(Z:O (ci×Obj))(σ:St)(Q:O V->Hp->Prop)(us:O bn)(s':db):Prop:=∃vs H',Inv X Z σ H' s'/\Vals vs us/\Q vs H'
def SP(X:Cx)(Z:O (ci×Obj))(D:Ends)(f:Flow)(s':db):Prop:=
 match f with
 | .next=>∃σ' H',Inv X Z σ' H' s'/\D.nx σ' H'
 | .brk=>∃σ' H',Inv X Z σ' H' s'/\D.bk σ' H'
 | .cont=>∃σ' H',Inv X Z σ' H' s'/\D.ct σ' H'
 | .ret u=>∃v σ' H',Inv X Z σ' H' s'/\RelV v u/\D.rt v H'
def PE(X:Cx)(e:im)(t:TE):Prop:=
 ∀(Z:O (ci×Obj)) (s:db) (σ:St) (H:Hp) (Q:VK),Inv X Z σ H s->t σ H Q->cr (f8 X.prog X.w) X.A (kt e X.env) (EP X Z σ Q) X.xe s
def PT(X:Cx)(e:im)(t:TT):Prop:=
 ∀(Z:O (ci×Obj)) (s:db) (σ:St) (H:Hp) (Q:Bool->Hp->Prop),Inv X Z σ H s->t σ H Q->cr (f8 X.prog X.w) X.A (isTrue e X.env (kt e X.env)) (TP X Z σ Q) X.xe s
def PW(X:Cx)(e:im)(t:TT):Prop:=
 ∀(Å:Sem bn) (Z:O (ci×Obj)) (s:db) (σ:St) (H:Hp) (Q:Bool->Hp->Prop),Inv X Z σ H s->t σ H Q->cr (f8 X.prog X.w) X.A (isTrue e X.env Å) (TP X Z σ Q) X.xe s
def PW.pt{X:Cx}{e:im}{t:TT}(h:PW X e t):PT X e t:=h _
def PA(X:Cx)(es:O im)(t:TA):Prop:=
 ∀(pos:Pos) (Z:O (ci×Obj)) (s:db) (σ:St) (H:Hp) (Q:O V->Hp->Prop),Inv X Z σ H s->t σ H Q->cr (f8 X.prog X.w) X.A (spliced (wP pos (ga es X.env))) (AP X Z σ Q) X.xe s
def PS(X:Cx)(st:sK)(t:TS):Prop:=
 ∀(Z:O (ci×Obj)) (s:db) (σ:St) (H:Hp) (D:Ends),Inv X Z σ H s->t D σ H->cr (f8 X.prog X.w) X.A (exec st X.env) (SP X Z D) X.xe s
def nV(X:Cx)(st:O sK)(t:TS):Prop:=
 ∀(Z:O (ci×Obj)) (s:db) (σ:St) (H:Hp) (D:Ends),Inv X Z σ H s->t D σ H->cr (f8 X.prog X.w) X.A (execs st X.env) (SP X Z D) X.xe s
def bh{t:Sem α}{Q Q':α->db->Prop}(h:cr M A t Q E s)(hQ:∀a s,Q a s->Q' a s):cr M A t Q' E s:=B4 h hQ λ_ _ x=>x
end L2
variable{x:BW}{a:Bu}{X:L2.Cx}{σ:L2.St}{Q:A4->C8->Prop}{ta tb:L2.TE}{R:L2.V->L2.V->L2.Hp->Prop}{op:PySem.CmpOp}
namespace L2
section
def bin{b:im}(ha:PE X a ta)(hb:PE X b tb)(I:Inv X Z σ H s)(h:ta σ H λx H1=>tb σ H1 λy H2=>R x y H2){Q:α->db->Prop}{f:bn->bn->Sem α}
  (hf:∀v u s2 x y H2,Inv X Z σ H2 s2->RelV x v->RelV y u->R x y H2->cr (f8 X.prog X.w) X.A (f v u) Q X.xe s2) :
  cr (f8 X.prog X.w) X.A (kt a X.env) (λv s₁=>cr (f8 X.prog X.w) X.A (kt b X.env) (λu s₂=>cr (f8 X.prog X.w) X.A (f v u) Q X.xe s₂) X.xe s₁) X.xe s:=by
 refine bh (ha Z s σ H _ I h) λv s1 ⟨x,H1,I1,r1,q1⟩=>?_;refine bh (hb Z s1 σ H1 _ I1 q1) λu s2 ⟨y,H2,I2,r2,q2⟩=>?_;exact hf v u s2 x y H2 I2 r1 r2 q2
def T4(i:Nat):TE:=λσ H Q=>∃v,σ[i]?=some (some v)/\Q v H
def tC(v:V):TE:=λ_ H Q=>Q v H
def cL{pos:Pos}(hN:X.N[i]?=some x)(hv:uL X.env.scope x)(hd:iG x:=by decide)(gB:w5 x:=by decide):PE X (.Name x pos) (T4 i):=by
 intro Z s σ H Q I h;obtain⟨v,e,h⟩:=h;obtain⟨m,hn,hl⟩:=I.loc;obtain⟨u,r,l⟩:=hl i x v hN e hv;have Á:EP X Z σ Q u s:=⟨v,H,I,r,h⟩;rcases l with⟨hk,hm⟩ | ⟨hk,c,hc,Pf⟩
 ·exact wpAny_Name (wpAny_loadName_local I.ok.kind hk hn hm Á) hd
 ·rcases hk with hk | hk
  ·exact wpAny_Name (wpAny_loadName_cell I.ok.kind hk hc Pf Á) hd
  ·exact wpAny_Name (wpAny_loadName_free I.ok.kind hk hc Pf Á gB) hd
def xw{i j pos}:PE X (.Constant (.int i) j pos) (tC (.int i)):=λ_ _ _ H _ I h=>wpAny_Constant_int ⟨.int i,H,I.tok _,⟨_,rfl⟩,h⟩
def UT{b j pos}:PE X (.Constant (.bool b) j pos) (tC (.bl b)):=λ_ _ _ H _ I h=>Constant_bool ⟨.bl b,H,I,rfl,h⟩
def QL{j pos}:PE X (.Constant .none j pos) (tC .aK):=λ_ _ _ H _ I h=>Constant_none ⟨.aK,H,I,rfl,h⟩
def QI{x j pos}:PE X (.Constant (.str x) j pos) (tC (.str x)):=λ_ _ _ H _ I h=>Calls.Constant_str ⟨.str x,H,I.tok _,⟨_,rfl⟩,h⟩
def Gl(X:Cx)(x:Str):Prop:=X.env.kindOf x=some .globalImplicit
def M7{pos:Pos}(I:Inv X Z σ H s)(hg:Gl X x)(hm:X.mg x=some u)(h:Q u s)
  (hd:iG x:=by decide):cr (f8 X.prog X.w) X.A (kt (.Name x pos) X.env) Q E s:=
 D4 I.ok.kind hg (Calls.loadGlobal_global (by rw[I.ok.glob];exact I.mod.glob.keeps I.bk) hm h) hd
def eZ{pos:Pos}(I:Inv X Z σ H s)(hg:Gl X x)(hm:X.mg x=bd)(hv:pc x=some u)(h:Q u s)
  (hn:x≠"__name__":=by decide) (hd:iG x:=by decide):cr (f8 X.prog X.w) X.A (kt (.Name x pos) X.env) Q E s:=by
 obtain⟨mb,h1,h2⟩:=I.mod.blt;exact D4 I.ok.kind hg (Calls.loadGlobal_builtin (by rw[I.ok.glob];exact I.mod.glob.keeps I.bk) hm (by rw[I.ok.blt];exact h1.keeps I.bk) ((h2 x hn).trans hv) h) hd
def Mq{pos:Pos}(hg:Gl X x)(hm:X.mg x=bd)(hv:pc x=some u)(r:RelV v u)(hn:x≠"__name__":=by decide)(hd:iG x:=by decide):PE X (.Name x pos) (tC v):=
 λ_ _ _ H _ I h=>eZ I hg hm hv ⟨v,H,I,r,h⟩ hn hd
variable{b:im}{pos:Pos}
def PC(X:Cx)(op:CmpOp)(a b:im)(t:TE):Prop:=
 ∀(Z:O (ci×Obj)) (s:db) (σ:St) (H:Hp) (Q:VK),Inv X Z σ H s->t σ H Q->
  cr (f8 X.prog X.w) X.A (kt a X.env) (λv s₁=>cr (f8 X.prog X.w) X.A (kt b X.env) (λu s₂=>cr (f8 X.prog X.w) X.A (py op v u) (EP X Z σ Q) X.xe s₂) X.xe s₁) X.xe s
def tB(t:TE):TT:=λσ H Q=>t σ H λx H1=>∃c,x=.bl c/\Q c H1
def QD{t:TE}(h:PC X op a b t)(h1:nw op b=false:=by first | exact U6 _ ⋯ ⋯ | rfl):PT X (.Compare a [op] [b] pos) (tB t):=by
 intro Z s σ H Q I hw;refine wpAny_isTrue_Compare1 (bh (h Z s σ H _ I hw) λv s1 h1=>bh h1 λu s2 h2=>bh h2 λc s3 ⟨x,H1,I1,r1,q1⟩=>?_) h1;obtain⟨d,rfl,q⟩:=q1;cases r1;exact BX ⟨H1,I1,q⟩
variable{tA WW:TT}{rest:O im}
def Ye(t u:TT):TT:=λσ H Q=>t σ H λc H1=>if c=true then u σ H1 Q else Q false H1
def tOr(t u:TT):TT:=λσ H Q=>t σ H λc H1=>if c=true then Q true H1 else u σ H1 Q
def X8(t:TT):TT:=λσ H Q=>t σ H λc H1=>Q (!c) H1
def Ma(ha:PT X a tA):PW X (.BoolOp .And [a] pos) tA:=by
 intro wh Z s σ H Q I h;refine isTrue_and (bh (ha Z s σ H Q I h) λc s1 e=>?_);cases c with
 | true=>exact isTrue_and_nil e
 | false=>exact e
def Qz(ha:PT X a tA):PW X (.BoolOp .Or [a] pos) tA:=by
 intro wh Z s σ H Q I h;refine isTrue_or (bh (ha Z s σ H Q I h) λc s1 e=>?_);cases c with
 | false=>exact isTrue_or_nil e
 | true=>exact e
def QA(ha:PT X a tA)(hb:PW X (.BoolOp .And (b::rest) pos) WW):PW X (.BoolOp .And (a::b::rest) pos) (Ye tA WW):=by
 intro wh Z s σ H Q I h;refine isTrue_and (bh (ha Z s σ H _ I h) λc s1 ⟨H1,I1,q1⟩=>?_);cases c with
 | true=>exact hb wh Z s1 σ H1 Q I1 q1
 | false=>exact⟨H1,I1,q1⟩
def UN(ha:PT X a tA)(hb:PW X (.BoolOp .Or (b::rest) pos) WW):PW X (.BoolOp .Or (a::b::rest) pos) (tOr tA WW):=by
 intro wh Z s σ H Q I h;refine isTrue_or (bh (ha Z s σ H _ I h) λc s1 ⟨H1,I1,q1⟩=>?_);cases c with
 | true=>exact⟨H1,I1,q1⟩
 | false=>exact hb wh Z s1 σ H1 Q I1 q1
def QC(ha:PT X a tA):PT X (.UnaryOp .Not a pos) (X8 tA):=by
 intro Z s σ H Q I h;exact isTrue_not (ha Z s σ H (λc H1=>Q (!c) H1) I h)
def Uk(ta tb:TE):TE:=λσ H Q=>ta σ H λx H1=>∃c,x=.bl c/\if c=true then tb σ H1 Q else Q (.bl false) H1
def T8(ta:TE):TE:=λσ H Q=>ta σ H λx H1=>∃c,x=.bl c/\Q (.bl (!c)) H1
def QJ{op}{t:TE}(h:PE X a t):PE X (.BoolOp op [a] pos) t:=λZ s σ H Q I hw=>BoolOp_one (h Z s σ H Q I hw)
def QN(ha:PE X a ta)(hb:PE X (.BoolOp .And (b::rest) pos) tb):PE X (.BoolOp .And (a::b::rest) pos) (Uk ta tb):=by
 intro Z s σ H Q I h;refine BoolOp_and (bh (ha Z s σ H _ I h) λv s1 ⟨x,H1,I1,r1,q1⟩=>?_);obtain⟨c,rfl,q1⟩:=q1;cases r1;refine BX ?_;cases c with
 | true=>exact hb Z s1 σ H1 Q I1 q1
 | false=>exact⟨.bl false,H1,I1,rfl,q1⟩
def QK(ha:PE X a ta):PE X (.UnaryOp .Not a pos) (T8 ta):=by
 intro Z s σ H Q I h;refine UnaryOp_ (bh (ha Z s σ H _ I h) λv s1 ⟨x,H1,I1,r1,q1⟩=>?_);obtain⟨c,rfl,q1⟩:=q1;cases r1;exact not_of (BX ⟨.bl (!c),H1,I1,rfl,q1⟩)
def tIf(t:TT)(ta tb:TE):TE:=λσ H Q=>t σ H λc H1=>if c=true then ta σ H1 Q else tb σ H1 Q
def IL{c:im}(hc:PT X c tA)(ha:PE X a ta)(hb:PE X b tb):PE X (.IfExp c a b pos) (tIf tA ta tb):=by
 intro Z s σ H Q I h;refine wpAny_IfExp (bh (hc Z s σ H _ I h) λd s1 ⟨H1,I1,q1⟩=>?_);cases d with
 | true=>exact ha Z s1 σ H1 Q I1 q1
 | false=>exact hb Z s1 σ H1 Q I1 q1
end
end L2
variable{xs ys:O L2.V}{e tg:Bu}{y:L2.V}{D:L2.Ends}{te to:L2.TE}{es:O Bu}{n:Nat}{Ú iD:CJ}{body:O PySem.Stmt}
namespace L2
def b9(K:Ab)(H:Hp)(a:ci)(xs:O V):Prop:=
 Rd H a (.lst xs)\/
  ∃(o:Obj) (aj:Array bn) (n:Nat),K.lookup a=some o/\o.cls=.type "list"/\o.dict=bd/\o.data=.seq aj n/\aj.size<=sizeLine/\Vals xs aj.toList
def cS(K:Ab)(H:Hp)(a:ci)(xs:O V):Prop:=
 Rd H a (.tup xs)\/
  ∃(o:Obj) (aj:Array bn) (n:Nat),K.lookup a=some o/\o.cls=.type "tuple"/\o.data=.seq aj n/\aj.size<=sizeLine/\Vals xs aj.toList
def ZZ:bn->Option V
 | .none=>some .aK
 | .bool b=>some (.bl b)
 | .int i _=>some (.int i)
 | .str x _=>some (.str x)
 | .bytes b _=>some (.Ss b)
 | .float b _=>some (.Tb b)
 | .ref a=>some (.ref a)
 | .type n=>some (.ty n)
 | _=>bd
def RelV.abs{x:V}(r:RelV x u):ZZ u=some x:=by
 cases x with
 | aK=>cases r;rfl
 | bl _=>cases r;rfl
 | int _=>obtain⟨t,rfl⟩:=r;rfl
 | str _=>obtain⟨t,rfl⟩:=r;rfl
 | Ss _=>obtain⟨t,rfl⟩:=r;rfl
 | Tb _=>obtain⟨t,rfl⟩:=r;rfl
 | ref _=>cases r;rfl
 | ty _=>cases r;rfl
def RelV.inj{x:V}(r:RelV x u)(q:RelV y u):x=y:=Option.some.inj (r.abs.symm.trans q.abs)
theorem Vals.inj:∀{xs ys:O V}{us:O bn},Vals xs us->Vals ys us->xs=ys
 | _,_,_,.nil,.nil=>rfl
 | _,_,_,.cons r t,.cons r' t'=>by rw[r.inj r',Vals.inj t t']
section
variable{a:ci}
def b9.of{K:Ab}(h:H a=some (.lst xs)):b9 K H a xs:=.inl (.inl h)
def cS.of{K:Ab}(h:H a=some (.tup xs)):cS K H a xs:=.inl (.inl h)
theorem Inv.list(I:Inv X Z σ H s)(h:b9 X.K H a xs):∃aj:O bn,Vals xs aj/\PlainL s.heap a aj.toArray/\xs.length<=sizeLine:=by
 rcases h with h | ⟨o,aj,n,hk,hc,hd,hs,hz,r⟩
 ·obtain⟨z,aj,n,r,e⟩:=h.ok I.aY;exact⟨aj,r,⟨_,n,e,rfl,rfl,rfl⟩,z⟩
 ·refine⟨aj.toList,r,⟨o,n,I.qU a o hk,hc,hd,by simpa using hs⟩,?_⟩;have e:=r.length;simp only[DS]at e;omega
theorem Inv.tuple(I:Inv X Z σ H s)(h:cS X.K H a xs):∃aj:O bn,Vals xs aj/\IsTup s.heap a aj.toArray/\xs.length<=sizeLine:=by
 rcases h with h | ⟨o,aj,n,hk,hc,hs,hz,r⟩
 ·obtain⟨z,aj,r,p⟩:=h.ok I.aY;exact⟨aj,r,p,z⟩
 ·refine⟨aj.toList,r,⟨o,I.qU a o hk,hc,n,by simpa using hs⟩,?_⟩;have e:=r.length;simp only[DS]at e;omega
def Inv.vK(I:Inv X Z σ H s)(h:b9 X.K H a xs)(h':b9 X.K H a ys):xs=ys:=by
 obtain⟨aj,r,⟨o,n,e,_,_,d⟩,_⟩:=I.list h;obtain⟨its',r',⟨o',n',e',_,_,d'⟩,_⟩:=I.list h';rw[e]at e';cases e';rw[d]at d';injection d' with d1 _;have:aj=its':=by simpa using congrArg Array.toList d1
 subst this;exact r.inj r'
def Inv.je(I:Inv X Z σ H s)(h:cS X.K H a xs)(h':cS X.K H a ys):xs=ys:=by
 obtain⟨aj,r,⟨o,e,_,n,d⟩,_⟩:=I.tuple h;obtain⟨its',r',⟨o',e',_,n',d'⟩,_⟩:=I.tuple h';rw[e]at e';cases e';rw[d]at d';injection d' with d1 _;have:aj=its':=by simpa using congrArg Array.toList d1
 subst this;exact r.inj r'
end
abbrev Cx.pS(X:Cx)(E:bn->db->Prop):Cx:={X with xe:=E}
abbrev Cx.OT(X:Cx):Cx:=X.pS λ_ _=>False
def Cx.Ok.pS(ok:X.Ok)(E:bn->db->Prop):(X.pS E).Ok:=
 ⟨ok.mod,ok.kind,ok.glob,ok.blt,ok.above,ok.inj,ok.has,ok.Wx,ok.hd,ok.frames,ok.WX,ok.exf,ok.bs,ok.PF,ok.Jf,ok.Ka,ok.o9,ok.S8⟩
def Cx.Ok.iL(ok:(X.pS E).Ok):X.Ok:=
 ⟨ok.mod,ok.kind,ok.glob,ok.blt,ok.above,ok.inj,ok.has,ok.Wx,ok.hd,ok.frames,ok.WX,ok.exf,ok.bs,ok.PF,ok.Jf,ok.Ka,ok.o9,ok.S8⟩
section
def Inv.pS(I:Inv X Z σ H s)(E:bn->db->Prop):Inv (X.pS E) Z σ H s:=⟨I.ok.pS E,I.os,I.bare,I.base,I.loc,I.cell,I.free,I.iB,I.pin,I.aY,I.len⟩
def Inv.iL(I:Inv (X.pS E) Z σ H s):Inv X Z σ H s:=⟨I.ok.iL,I.os,I.bare,I.base,I.loc,I.cell,I.free,I.iB,I.pin,I.aY,I.len⟩
def SP.iL{f:Flow}(h:SP (X.pS E) Z D f s'):SP X Z D f s':=by
 cases f with
 | next=>obtain⟨σ',H',I,q⟩:=h;exact⟨σ',H',I.iL,q⟩
 | brk=>obtain⟨σ',H',I,q⟩:=h;exact⟨σ',H',I.iL,q⟩
 | cont=>obtain⟨σ',H',I,q⟩:=h;exact⟨σ',H',I.iL,q⟩
 | ret u=>obtain⟨v,σ',H',I,r,q⟩:=h;exact⟨v,σ',H',I.iL,r,q⟩
def nV.OT{st:O sK}{t:TS}(h:nV X.OT st t):nV X st t:=λZ s σ H D I hw=>
 B4 (h Z s σ H D (I.pS _) hw) (λ_ _ q=>q.iL) λ_ _ z=>Bn z
end
section
variable{st:sK}{rest:O sK}{t u:TS}{pos:Pos}
def T9:TS:=λD σ H=>D.nx σ H
def X6(t u:TS):TS:=λD σ H=>t {D with nx:=u D} σ H
def se:nV X [] T9:=λ_ _ σ H _ I h=>DJ ⟨σ,H,I,h⟩
def vi(h1:PS X st t)(h2:nV X rest u):nV X (st::rest) (X6 t u):=by
 intro Z s σ H D I h;refine wpAny_execs_cons (bh (h1 Z s σ H {D with nx:=u D} I h) λf s1 q=>?_);cases f with
 | next=>
  obtain⟨σ',H',I',q⟩:=q;exact h2 Z s1 σ' H' D I' q
 | ret v=>exact q
 | brk=>exact q
 | cont=>exact q
def Mb(h1:PS X st t):nV X [st] t:=by
 intro Z s σ H D I h;refine wpAny_execs_cons (bh (h1 Z s σ H D I h) λf s1 q=>?_);cases f with
 | next=>exact DJ q
 | ret v=>exact q
 | brk=>exact q
 | cont=>exact q
def Ue:TS:=λD σ H=>D.ct σ H
def vk:PS X (.Continue pos) Ue:=λ_ _ σ H _ I h=>wpAny_Continue ⟨σ,H,I,h⟩
def Inv.quiet(I:Inv X Z σ H s):interactive X.env=false:=by simp[interactive,I.ok.kind]
def Ub(te:TE):TS:=λD σ H=>te σ H λ_ H1=>D.nx σ H1
def nJ(he:PE X e te)(hs:lm e bd pos.line X.env=pure false:=by rfl):PS X (.Expr e pos) (Ub te):=by
 intro Z s σ H D I h;exact wpAny_Expr_any (bh (he Z s σ H _ I h) λv s1 ⟨x,H1,I1,r1,q1⟩=>⟨σ,H1,I1,q1⟩) I.quiet hs
def X7(te:TE):TS:=λD σ H=>te σ H D.rt
def sh(he:PE X e te):PS X (.Return (some e) pos) (X7 te):=by
 intro Z s σ H D I h;exact wpAny_Return_some (bh (he Z s σ H _ I h) λv s1 ⟨x,H1,I1,r1,q1⟩=>⟨x,σ,H1,I1,r1,q1⟩)
def Yb(c:TT)(t u:TS):TS:=λD σ H=>c σ H λb H1=>if b=true then t D σ H1 else u D σ H1
def IC{c:im}{a b:O sK}{tc:TT}(hc:PT X c tc)(ha:nV X a t)(hb:nV X b u):PS X (.If c a b pos) (Yb tc t u):=by
 intro Z s σ H D I h;refine wpAny_If (bh (hc Z s σ H _ I h) λd s1 ⟨H1,I1,q1⟩=>?_);cases d with
 | true=>exact ha Z s1 σ H1 D I1 q1
 | false=>exact hb Z s1 σ H1 D I1 q1
def P7:TS:=λ_ _ _=>False
end
abbrev TG:=V->St->Hp->(St->Hp->Prop)->Prop
abbrev SI:=O V->St->Hp->(St->Hp->Prop)->Prop
def PG(X:Cx)(Ê:im)(t:TG):Prop:=
 ∀(Z:O (ci×Obj)) (s:db) (σ:St) (H:Hp) (v:V) (u:bn) (Q:St->Hp->Prop),Inv X Z σ H s->RelV v u->t v σ H Q->
  cr (f8 X.prog X.w) X.A (zn Ê X.env u) (λ_ s'=>∃σ' H',Inv X Z σ' H' s'/\Q σ' H') X.xe s
def XU(X:Cx)(ts:O im)(t:SI):Prop:=
 ∀(Z:O (ci×Obj)) (s:db) (σ:St) (H:Hp) (vs:O V) (us:O bn) (Q:St->Hp->Prop),Inv X Z σ H s->Vals vs us->t vs σ H Q->
  cr (f8 X.prog X.w) X.A (assignInOrder ((wS ts X.env).map (·.2)) us) (λ_ s'=>∃σ' H',Inv X Z σ' H' s'/\Q σ' H') X.xe s
abbrev yW:=V->V->V->Hp->(Hp->Prop)->Prop
def yX(X:Cx)(t:yW):Prop:=
 ∀(Z:O (ci×Obj)) (s:db) (σ:St) (H:Hp) (o i v:V) (ov iv u:bn) (Q:Hp->Prop),Inv X Z σ H s->RelV o ov->RelV i iv->RelV v u->t o i v H Q->
  cr (f8 X.prog X.w) X.A (Da ov iv u) (λ_ s'=>∃H',Inv X Z σ H' s'/\Q H') X.xe s
abbrev WA:=V->V->Hp->VK->Prop
def Z3(X:Cx)(op:Operator)(t:WA):Prop:=
 ∀(Z:O (ci×Obj)) (s:db) (σ:St) (H:Hp) (x y:V) (v u:bn) (Q:VK),Inv X Z σ H s->RelV x v->RelV y u->t x y H Q->
  cr (f8 X.prog X.w) X.A (inplaceOp op v u) (EP X Z σ Q) X.xe s
section
variable{pos:Pos}
def cP(i:Nat):TG:=λv σ H Q=>Q (σ.set i (some v)) H
def Mj(hN:X.N.Nodup)(hi:X.N[i]?=some x)(hx:Loc X.env.scope x)(hf:K6 X x:=by first | exact .inl rfl | exact .inr rfl | assumption):PG X (.Name x pos) (cP i):=by
 intro Z s σ H v u Q I r h;exact wpAny_assign_Name (u4 I hN hi hx r (λs' I'=>⟨_,H,I',h⟩) hf)
def NG:SI:=λvs σ H Q=>vs=[]/\Q σ H
def lF(t:TG)(u:SI):SI:=λvs σ H Q=>∃v r,vs=v::r/\t v σ H λσ' H'=>u r σ' H' Q
def eG:XU X [] NG:=by
 intro Z s σ H vs us Q I r h;obtain⟨e,h⟩:=h;subst e;cases r;exact assignInOrder_nil ⟨σ,H,I,h⟩
def aQ{t:TG}{u:SI}(h1:PG X e t)(h2:XU X es u)
  (hs:(wS (e::es) X.env).map (·.2)=zn e X.env::(wS es X.env).map (·.2):=by rfl):XU X (e::es) (lF t u):=by
 intro Z s σ H vs us Q I r h;obtain⟨v,vr,e1,h⟩:=h;subst e1;cases r with
 | cons r rr=>
  rw[hs];refine assignInOrder_cons (bh (h1 Z s σ H _ _ _ I r h) λ_ s1 ⟨σ1,H1,I1,q1⟩=>?_);exact h2 Z s1 σ1 H1 _ _ Q I1 rr q1
def NF(K:Ab)(n:Nat)(t:SI):TG:=λv σ H Q=>∃a xs,v=.ref a/\cS K H a xs/\xs.length=n/\t xs σ H Q
def gM{k:Nat}{t:SI}(hc:X.calm=true)(h:XU X es t)
  (hn:(wS es X.env).length=n:=by rfl) (vY:(wS es X.env).findIdx? (·.1)=bd:=by rfl):PG X (.Tuple es k pos) (NF X.K n t):=by
 intro Z s σ H v u Q I r hw;obtain⟨a,xs,e1,hq,hl,hw⟩:=hw;subst e1;cases r;obtain⟨aj,rv,ht,hz⟩:=I.tuple hq;refine assign_Tuple_tuple (I.ok.hd hc) ht (by simp[hn,<- hl,rv.length]) vY λh' hx=>?_;have I1:Inv X Z σ H {s with heap:=h'}:=I.kept (t':=s.toks) λb o e=>hx b o (AA (An e)) e;exact h Z _ σ H xs _ Q I1 (by simpa using rv) hw
def ZF(to ti:TE)(t:yW):TG:=λv σ H Q=>to σ H λo H1=>ti σ H1 λi H2=>t o i v H2 λH3=>Q σ H3
def QH{o i:im}{ti:TE}{t:yW}(ho:PE X o to)(hi:PE X i ti)(hs:yX X t)
  (ha:∀v,zn (.Subscript o i pos) X.env v=(do
   let ov <- sw [v] (kt o X.env)
   let iv <- sw [v,ov] (kt i X.env)
   standAt pos
   sw [v,ov,iv] (Da ov iv v)
   release [v,ov,iv] []):=by intro _;rfl):PG X (.Subscript o i pos) (ZF to ti t):=by
 intro Z s σ H v u Q I r h;refine Aa (AX (bh (ho Z s σ H _ I h) λov s1 ⟨x,H1,I1,r1,q1⟩=>?_));refine Aa (AX (bh (hi Z s1 σ H1 _ I1 q1) λiv s2 ⟨y,H2,I2,r2,q2⟩=>?_));refine Aa (Ek (Aa (AX (bh (hs Z s2 σ H2 x y v ov iv u _ I2 r1 r2 r q2) λ_ s3 ⟨H3,I3,q3⟩=>?_))));exact wpAny_release ⟨σ,H3,I3,q3⟩
def P9(te:TE)(g:TG):TS:=λD σ H=>te σ H λx H1=>g x σ H1 D.nx
def IE{g:TG}(he:PE X e te)(hg:PG X tg g)(hs:swapsWithSole [tg] e pos.line X.env=pure false:=by rfl)(hw:swappedStores [tg] e X.env=pure bd:=by rfl)
  (h1:(wS [tg] X.env).map (·.2)=[zn tg X.env]:=by rfl):PS X (.Assign [tg] e pos) (P9 te g):=by
 intro Z s σ H D I h;refine wpAny_Assign_stores (bh (he Z s σ H _ I h) λv s1 ⟨x,H1,I1,r1,q1⟩=>?_) hs hw;rw[h1];exact bh (hg Z s1 σ H1 x v _ I1 r1 q1) λ_ s2 q=>q
def sf(hN:X.N.Nodup)(hi:X.N[i]?=some x)(hx:Loc X.env.scope x)(he:PE X e te)(hs:lm e (some (.Name x Ú)) pos.line X.env=pure false:=by rfl)(hf:K6 X x:=by first | exact .inl rfl | exact .inr rfl | assumption) :
  PS X (.Assign [.Name x Ú] e pos) (P9 te (cP i)):=by
 intro Z s σ H D I h;refine wpAny_Assign_Name (bh (he Z s σ H _ I h) λv s1 ⟨y,H1,I1,r1,q1⟩=>?_) hs;exact u4 I1 hN hi hx r1 (λs2 I2=>⟨_,H1,I2,q1⟩) hf
def Uj(to ti te:TE)(LK:V->V->Hp->VK->Prop)(WV:WA)(LI:yW):TS:=λD σ H=>to σ H λo H1=>ti σ H1 λi H2=>LK o i H2 λx H3=>te σ H3 λy H4=>WV x y H4 λz H5=>LI o i z H5 λH6=>D.nx σ H6
def WD(X:Cx)(t:V->V->Hp->VK->Prop):Prop:=
 ∀(Z:O (ci×Obj)) (s:db) (σ:St) (H:Hp) (o i:V) (ov iv:bn) (Q:VK),Inv X Z σ H s->RelV o ov->RelV i iv->t o i H Q->
  cr (f8 X.prog X.w) X.A (FM ov iv) (EP X Z σ Q) X.xe s
def Md{o i:im}{ti:TE}{LK:V->V->Hp->VK->Prop}{WV:WA}{LI:yW}{op:Operator}(ho:PE X o to)(hi:PE X i ti)(hg:WD X LK)(he:PE X e te)(hp:Z3 X op WV)(hs:yX X LI)
  (ha:∀ov iv new,augStore i ov iv new=(do sw [new,ov,iv] (Da ov iv new);release [new,ov,iv] [];pure .next):=by intros;rfl):PS X (.AugAssign (.Subscript o i iD) op e pos) (Uj to ti te LK WV LI):=by
 intro Z s σ H D I h;refine wpAny_AugAssign_SubscriptAny (bh (ho Z s σ H _ I h) λov s1 ⟨x1,H1,I1,r1,q1⟩=>?_) ha;refine bh (hi Z s1 σ H1 _ I1 q1) λiv s2 ⟨x2,H2,I2,r2,q2⟩=>?_;refine bh (hg Z s2 σ H2 x1 x2 ov iv _ I2 r1 r2 q2) λÍ s3 ⟨x3,H3,I3,r3,q3⟩=>?_;refine bh (he Z s3 σ H3 _ I3 q3) λv s4 ⟨x4,H4,I4,r4,q4⟩=>?_;refine bh (hp Z s4 σ H4 x3 x4 Í v _ I4 r3 r4 q4) λnew s5 ⟨x5,H5,I5,r5,q5⟩=>?_;exact bh (hs Z s5 σ H5 x1 x2 x5 ov iv new _ I5 r1 r2 r5 q5) λ_ s6 ⟨H6,I6,q6⟩=>⟨σ,H6,I6,q6⟩
def ipI(f:Int->Int->Int):WA:=λx y H Q=>∃i j,x=.int i/\y=.int j/\Q (.int (f i j)) H
def Rz:Z3 X .Add (ipI λi j=>i+j):=by
 intro Z s σ H x y v u Q I r1 r2 h;obtain⟨i,j,e1,e2,q⟩:=h;subst e1;subst e2;obtain⟨t,rfl⟩:=r1;obtain⟨t',rfl⟩:=r2;exact iadd_int ⟨.int _,H,I.tok _,⟨_,rfl⟩,q⟩
end
section
variable{pos:Pos}
def P6(c:TT)(tb:TS):TS:=λD σ H=>∃W:Nat->St->Hp->Prop,(∃m,W m σ H)/\∀m σ H,W m σ H->
 c σ H λb H1=>if b=true then ∃N:St->Hp->Prop,(∀σ' H',N σ' H'->∃m',m' < m/\W m' σ' H')/\tb {D with nx:=N,ct:=N,bk:=D.nx} σ H1 else D.nx σ H1
def IB{c:im}{tc:TT}{tb:TS}(hp:wT (f8 X.prog X.w) X.A X.env X.xe)(hc:PT X c tc)(hb:nV X body tb):PS X (.While c body [] pos) (P6 tc tb):=by
 intro Z s σ H D I h;obtain⟨W,⟨m0,w0⟩,Ð⟩:=h;refine wpAny_While (codeAny_whileLoop (λn s'=>∃σ' H',Inv X Z σ' H' s'/\W n σ' H') ?_ m0 ⟨σ,H,I,w0⟩);rintro n s1 ⟨σ1,H1,I1,w1⟩;refine Cf hp (bh (hc Z s1 σ1 H1 _ I1 (Ð n σ1 H1 w1)) λb s2 ⟨H2,I2,q2⟩=>?_);cases b with
 | true=>
  obtain⟨N,hN,q2⟩:=q2;refine Cf hp (bh (hb Z s2 σ1 H2 _ I2 q2) λf s3 q3=>?_);cases f with
  | next=>
   obtain⟨σ3,H3,I3,n3⟩:=q3;obtain⟨m',hm,w3⟩:=hN σ3 H3 n3;exact⟨m',hm,σ3,H3,I3,w3⟩
  | cont=>
   obtain⟨σ3,H3,I3,n3⟩:=q3;obtain⟨m',hm,w3⟩:=hN σ3 H3 n3;exact⟨m',hm,σ3,H3,I3,w3⟩
  | brk=>exact q3
  | ret v=>exact q3
 | false=>
  exact DJ ⟨σ1,H2,I2,q2⟩
end
structure It where
 go:Nat->Hp->Prop
 OA:Nat->Hp->V->Hp->Prop
 stop:Nat->Hp->Prop
def qB(X:Cx)(Z:O (ci×Obj))(H:Hp)(b:ci):Prop:=
 H b=bd/\b≠X.env.locals/\b∉X.fs/\(b∈X.ex\/X.s₀.heap.objs.size<=b)/\(∀x c,X.env.cells.lookup x=some c->c≠b)/\∀p∈X.pn++Z,p.1≠b
def Inv.wu(I:Inv X Z σ H s)(hb:s.heap.objs.size<=b)(hn:H' b=bd):qB X Z H' b:=by
 refine⟨hn,Nat.ne_of_gt (Ay I.lt hb),I.YG hb,.inr (AQ I.sz hb),λx c e z=>?_,λp hp z=>?_⟩
 ·obtain⟨v,q⟩:=I.cell x c e;exact absurd (Ay q.lt (by rw[z];exact hb)) (AO _)
 ·exact absurd (Ay (An (I.pin p hp).1) (by rw[z];exact hb)) (AO _)
structure Turn(P:ul)(w:wv)(K:Ab)(tg:im)(J:It)(fp:List ci)(it:ci)(tn:Nat->lw->Prop):Prop where
 mem:it∈fp
 obj:∀i h,tn i h->∀b∈fp,∃o,h.get? b=some o/\∀v,o.data≠.cell v
 keep:∀i h h',tn i h->(∀b∈fp,∀o,h.get? b=some o->h'.get? b=some o)->tn i h'
 item:∀(X:Cx),X.prog=P->X.w=w->X.K=K->X.calm=true->∀(i:Nat) (Z:List (ci×Obj)) (s:db) (σ:St) (H:Hp) (E:bn->db->Prop),Inv X Z σ H s->(∀b∈fp,qB X Z H b)->tn i s.heap->J.go i H->
  cr (f8 P w) X.A (Ev (.ref it)) (λr s1=>∃u,r=some u/\
   cr (f8 P w) X.A (GT tg (.ref it) u) (λ_ s2=>∃x H',Inv X Z σ H' s2/\RelV x u/\J.OA i H x H'/\tn (i+1) s2.heap/\∀b∈fp,H' b=bd) E s1) E s
 done:∀(X:Cx),X.prog=P->X.w=w->X.K=K->X.calm=true->∀(i:Nat) (Z:List (ci×Obj)) (s:db) (σ:St) (H:Hp) (E:bn->db->Prop),Inv X Z σ H s->(∀b∈fp,qB X Z H b)->tn i s.heap->J.stop i H->
  cr (f8 P w) X.A (Ev (.ref it)) (λr s1=>r=bd/\Inv X Z σ H s1) E s
 self:∀(A:Ch) (i:Nat) (s:db) (Q:bn->db->Prop) (E:bn->db->Prop),tn i s.heap->Q (.ref it) s->cr (f8 P w) A (pyIter (.ref it)) Q E s
abbrev TI:=St->Hp->(It->Hp->Prop)->Prop
def Z4(X:Cx)(Z:O (ci×Obj))(σ:St)(tg:im)(R:It->Hp->Prop)(Xg:bn)(s2:db):Prop:=
 ∃(it:ci) (fp:O ci) (tn:Nat->lw->Prop) (J:It) (H':Hp),Xg=.ref it/\Inv X Z σ H' s2/\Turn X.prog X.w X.K tg J fp it tn/\tn 0 s2.heap/\(∀b∈fp,qB X Z H' b)/\R J H'
def PI(X:Cx)(tg iter:im)(wi:TI):Prop:=
 ∀(Z:O (ci×Obj)) (s:db) (σ:St) (H:Hp) (R:It->Hp->Prop),Inv X Z σ H s->wi σ H R->
  cr (f8 X.prog X.w) X.A (kt iter X.env) (λv s1=>cr (f8 X.prog X.w) X.A (pyIter v) (Z4 X Z σ tg R) X.xe s1) X.xe s
def wj{n:String}{vs:Array bn}{Q:Unit->db->Prop}(ho:s.heap.get? it=some o)(hc:o.cls=.type n)(hd:o.data=.fields vs)
  (hn:["enumerate","zip","dict_itemiterator","dict_reverseitemiterator","odict_iterator","itertools.zip_longest","itertools.pairwise"].contains n=false) (hQ:Q () s):cr M A (GT tg (.ref it) u) Q E s:=by
 unfold GT;cases tg <;> first
  | exact Ae hQ
  | (cases u <;> first
    | exact Ae hQ
    | (
      refine Aa (wpAny_load ho ?_);rw[hc,hd];show cr M A (if (["enumerate","zip","dict_itemiterator","dict_reverseitemiterator","odict_iterator","itertools.zip_longest","itertools.pairwise"].contains n&&vs[0]?==some (sB _))=true then _ else _) Q E s;rw[if_neg (by intro h;rw[hn,D9]at h;cases h)];exact Ae hQ))
def Itl(K:Ab)(a:ci):It:=
 ⟨λi H=>∃xs x,b9 K H a xs/\xs[i]?=some x,λi H x H'=>H'=H/\∀xs,b9 K H a xs->xs[i]?=some x,λi H=>∃xs,b9 K H a xs/\xs.length<=i⟩
def Itt(K:Ab)(a:ci):It:=
 ⟨λi H=>∃xs x,cS K H a xs/\xs[i]?=some x,λi H x H'=>H'=H/\∀xs,cS K H a xs->xs[i]?=some x,λi H=>∃xs,cS K H a xs/\xs.length<=i⟩
def XX(lo:Int)(n:Nat):It:=⟨λi _=>i < n,λi H x H'=>H'=H/\x=.int (lo+i),λi _=>n<=i⟩
theorem Ge{K:Ab}(a it:ci):Turn P w K tg (Itl K a) [it] it (λi h=>h.IsListIter it a i) where
 mem:=by simp
 obj:=λi h st b hb=>by
  have e:b=it:=by simpa using hb
  subst e;obtain⟨o,e,c,d⟩:=st;exact⟨o,e,λv z=>by rw[d]at z;cases z⟩
 keep:=λi h h' st k=>st.at λo e=>k it (by simp) o e
 item:=by
  intro X hP hw hK hc i Z s σ H E I hf st hg;subst hP hw hK;obtain⟨xs,x,hq,hx⟩:=hg;obtain⟨aj,rv,p,hz⟩:=I.list hq;obtain⟨u,hu,ru⟩:=rv.get hx;obtain⟨f0,f1,f2,f3,f4,f5⟩:=hf it (by simp);refine wpAny_pyNext_list_item st p.isList (x:=u) (by simpa using hu) λh' zd sb=>?_;have I1:Inv X Z σ H {s with heap:=h'}:=I.turned (t':=s.toks) (λb o hb e=>(sb.2 b hb).trans e) f0 f1 f3 f4 f5;obtain⟨o,e,c,d⟩:=id zd;exact⟨u,rfl,wj (s:={s with heap:=h'}) e c d ⋯ ⟨x,H,I1,ru,⟨rfl,λys hy=>by rw[I.vK hy hq];exact hx⟩,zd,λb hb=>(hf b hb).1⟩⟩
 done:=by
  intro X hP hw hK hc i Z s σ H E I hf st hg;subst hP hw hK;obtain⟨xs,hq,hx⟩:=hg;obtain⟨aj,rv,p,hz⟩:=I.list hq;obtain⟨f0,f1,f2,f3,f4,f5⟩:=hf it (by simp);have hl:=rv.length;exact wpAny_pyNext_list_end (I.ok.hd hc) st p.isList (by simp;omega) λh' eb=>⟨rfl,I.turned (t':=s.toks) (λb o hb e=>eb b o hb e) f0 f1 f3 f4 f5⟩
 self:=λ_ _ _ _ _ st h=>wpAny_pyIter_listiter st h
theorem xg{K:Ab}(a it:ci):Turn P w K tg (Itt K a) [it] it (λi h=>h.IsTupleIter it a i) where
 mem:=by simp
 obj:=λi h st b hb=>by
  have e:b=it:=by simpa using hb
  subst e;obtain⟨o,e,c,d⟩:=st;exact⟨o,e,λv z=>by rw[d]at z;cases z⟩
 keep:=λi h h' st k=>st.at λo e=>k it (by simp) o e
 item:=by
  intro X hP hw hK hc i Z s σ H E I hf st hg;subst hP hw hK;obtain⟨xs,x,hq,hx⟩:=hg;obtain⟨aj,rv,p,hz⟩:=I.tuple hq;obtain⟨u,hu,ru⟩:=rv.get hx;obtain⟨f0,f1,f2,f3,f4,f5⟩:=hf it (by simp);refine wpAny_pyNext_tuple_item st (show s.heap.IsTuple a aj.toArray from p) (x:=u) (by simpa using hu) λh' zd sb=>?_;have I1:Inv X Z σ H {s with heap:=h'}:=I.turned (t':=s.toks) (λb o hb e=>(sb.2 b hb).trans e) f0 f1 f3 f4 f5;obtain⟨o,e,c,d⟩:=id zd;exact⟨u,rfl,wj (s:={s with heap:=h'}) e c d ⋯ ⟨x,H,I1,ru,⟨rfl,λys hy=>by rw[I.je hy hq];exact hx⟩,zd,λb hb=>(hf b hb).1⟩⟩
 done:=by
  intro X hP hw hK hc i Z s σ H E I hf st hg;subst hP hw hK;obtain⟨xs,hq,hx⟩:=hg;obtain⟨aj,rv,p,hz⟩:=I.tuple hq;obtain⟨f0,f1,f2,f3,f4,f5⟩:=hf it (by simp);have hl:=rv.length;exact wpAny_pyNext_tuple_end (I.ok.hd hc) st (show s.heap.IsTuple a aj.toArray from p) (by simp;omega) λh' eb=>⟨rfl,I.turned (t':=s.toks) (λb o hb e=>eb b o hb e) f0 f1 f3 f4 f5⟩
 self:=λ_ _ _ _ _ st h=>wpAny_pyIter_tupleiter st h
theorem xh{K:Ab}(it:ci)(lo:Int)(n:Nat):Turn P w K tg (XX lo n) [it] it (λi h=>IsRangeIter h it (lo+(i:Nat)*1) ((n:Int)-(i:Nat)) 1) where
 mem:=by simp
 obj:=λi h st b hb=>by
  have e:b=it:=by simpa using hb
  subst e;exact⟨_,st,λv z=>by
   have z':=z;cases z'⟩
 keep:=λi h h' st k=>k it (by simp) _ st
 item:=by
  intro X hP hw hK hc i Z s σ H E I hf st hg;subst hP hw hK;obtain⟨f0,f1,f2,f3,f4,f5⟩:=hf it (by simp);have W:=Walks.range (prog:=X.prog) (w:=X.w) (I.ok.hd hc) it lo 1 n;refine W.item i s _ _ hg st λv h' tk hv zd kk=>?_;obtain⟨t,rfl⟩:=hv;have I1:Inv X Z σ H {s with heap:=h',toks:=tk}:=I.turned (λb o hb e=>kk b o (by simpa using hb) e) f0 f1 f3 f4 f5;refine⟨_,rfl,wj (s:={s with heap:=h',toks:=tk}) (n:="range_iterator") zd rfl rfl ⋯ ⟨.int (lo+i),H,I1,⟨t,?_⟩,⟨rfl,rfl⟩,zd,λb hb=>(hf b hb).1⟩⟩;rw[Int.mul_one]
 done:=by
  intro X hP hw hK hc i Z s σ H E I hf st hg;obtain⟨f0,f1,f2,f3,f4,f5⟩:=hf it (by simp);exact wpAny_pyNext_range_end (I.ok.hd hc) st (by have:n<=i:=hg;omega) λh' eb=>⟨rfl,I.turned (t':=s.toks) (λb o hb e=>eb b o hb e) f0 f1 f3 f4 f5⟩
 self:=λ_ _ _ _ _ st h=>wpAny_pyIter_rangeiter st h
end L2
variable{p:CJ}{fp:O BA}{iter:Bu}{wi:L2.TI}
namespace L2
section
theorem Ip{R:It->Hp->Prop}{lo hi:Int}{t u v:Tok}{tk:Nat}(I:Inv X Z σ H s)(h1:-(2 ^ 62)<=lo)(h2:lo < 2 ^ 62)(h3:-(2 ^ 62)<=hi)(h4:hi < 2 ^ 62)
  (q:R (XX lo (hi-lo).toNat) H):cr (f8 X.prog X.w) X.A (pyIter (.ref s.heap.objs.size)) (Z4 X Z σ tg R) E {s with heap:=s.heap.push {cls:=.type "range",data:=.fields #[.int lo t,.int hi u,.int 1 v]},toks:=tk}:=by
 refine wpAny_pyIter_range (IsRange.new ..) (small_one h1 h2 h3 h4) ?_;have I1:Inv X Z σ H {s with heap:=s.heap.push {cls:=.type "range",data:=.fields #[.int lo t,.int hi u,.int 1 v]},toks:=tk}:=I.kept λb o e=>Ai _ e;refine⟨(s.heap.push {cls:=.type "range",data:=.fields #[.int lo t,.int hi u,.int 1 v]}).objs.size,[(s.heap.push {cls:=.type "range",data:=.fields #[.int lo t,.int hi u,.int 1 v]}).objs.size],_,_,H,rfl,
  I1.kept (t':=tk) λb o e=>Ai _ e,xh _ lo (hi-lo).toNat,?_,λb hb=>?_,q⟩
 ·have e1:lo+((0:Nat):Int)*1=lo:=by simp
  have e2:(((hi-lo).toNat:Nat):Int)-((0:Nat):Int)=Builtin.Range.rangeSize lo hi 1:=by rw[rangeSize_one];split <;> omega
  show IsRangeIter _ _ (lo+((0:Nat):Int)*1) ((((hi-lo).toNat:Nat):Int)-((0:Nat):Int)) 1;rw[e1,e2];exact Ap _ rfl
 ·have e:b=(s.heap.push {cls:=.type "range",data:=.fields #[.int lo t,.int hi u,.int 1 v]}).objs.size:=by simpa using hb
  subst e;exact I1.wu (Ao _) (I1.aY.fresh (Ao _))
def Vq(ta:TA):TI:=λσ H R=>ta σ H λvs H1=>∃j:Int,vs=[.int j]/\-(2 ^ 62)<=j/\j < 2 ^ 62/\R (XX 0 j.toNat) H1
theorem Gx{ta:TA}{pos:Pos}(hg:Gl X "range")(hm:X.mg "range"=bd)(ha:PA X [a] ta)(hs:ga [a] X.env=[(false,kt a X.env)]:=by rfl):PI X tg (.Call (.Name "range" p) [a] [] pos) (Vq ta):=by
 intro Z s σ H R I h;refine Call_ (eZ I hg hm boot_range (AW (bh (ha pos Z s σ H _ I h) λus s1 ⟨vs,H1,I1,r1,q1⟩=>?_) hs rfl));obtain⟨j,e,q1,q2,q⟩:=q1;subst e;cases r1 with
 | cons r rr=>
  cases rr;obtain⟨t,rfl⟩:=r;exact call_range_1 (Ip I1 ∅ ∅ q1 q2 (by simpa using q))
def Yc(wi:TI)(g:TG)(tb:TS):TS:=λD σ H=>wi σ H λJ H1=>∃W:Nat->Nat->St->Hp->Prop,(∃m,W 0 m σ H1)/\∀i m σ H,W i m σ H->
 (J.stop i H/\D.nx σ H)\/(J.go i H/\∃N:St->Hp->Prop,(∀σ' H',N σ' H'->∃m',m' < m/\W (i+1) m' σ' H')/\∀x H',J.OA i H x H'->g x σ H' λσ2 H2=>tb {D with nx:=N,ct:=N,bk:=D.nx} σ2 H2)
def mh(fp:O ci)(h:lw):O (ci×Obj):=fp.filterMap λb=>(h.get? b).map λo=>(b,o)
def gQ(hb:b∈fp)(e:h.get? b=some o):(b,o)∈mh fp h:=List.mem_filterMap.mpr ⟨b,hb,by rw[e];rfl⟩
def GA{p:ci×Obj}(hp:p∈mh fp h):p.1∈fp/\h.get? p.1=some p.2:=by
 obtain⟨b,hb,e⟩:=List.mem_filterMap.mp hp;cases q:h.get? b with
 | none=>rw[q]at e;cases e
 | some o=>
  rw[q]at e;have e':=Option.some.inj e;subst e';exact⟨hb,q⟩
def Inv.pinned(I:Inv X Z σ H s)(hf:∀b∈fp,qB X Z H b)(ho:∀b∈fp,∃o,s.heap.get? b=some o/\∀v,o.data≠.cell v):Inv X (Z++mh fp s.heap) σ H s:=
 I.zq λp hp=>(Bs.mp hp).elim (λz=>I.pin p (AU _ z)) λz=>by
  obtain⟨hb,e⟩:=GA z;obtain⟨f0,f1,f2,_⟩:=hf p.1 hb;obtain⟨o,e',d⟩:=ho p.1 hb;rw[e]at e';cases e';exact⟨e,f0,f1,f2,d⟩
def Inv.iM{pl:O (ci×Obj)}(I:Inv X (Z++pl) σ H s):Inv X Z σ H s:=I.zq λp hp=>I.pin p (AU _ (CI _ hp))
def ID{g:TG}{tb:TS}{pos:Pos}(hp:wT (f8 X.prog X.w) X.A X.env X.xe)(hc:X.calm=true)(hi:PI X tg iter wi)(hg:PG X tg g)(hb:nV X body tb)
  (hs:qC X iter:=by intro _;rfl):PS X (.For tg iter body [] pos) (Yc wi g tb):=by
 intro Z s σ H D I h;refine wpAny_For (bh (hi Z s σ H _ I h) λv s1 h1=>bh h1 λXg s2 h2=>?_) hs;obtain⟨it,fp,tn,J,H2,e,I2,T,LR,f2,W,⟨m0,w0⟩,Ð⟩:=h2;subst e;have Qc:∀{H':Hp},(∀b∈fp,H' b=bd)->∀b∈fp,qB X Z H' b:=λhn b hb=>⟨hn b hb,(f2 b hb).2⟩;refine codeAny_forLoop_any (λn s'=>∃i σ' H',Inv X Z σ' H' s'/\tn i s'.heap/\(∀b∈fp,H' b=bd)/\W i n σ' H') ?_ m0 ⟨0,σ,H2,I2,LR,λb hb=>(f2 b hb).1,w0⟩;rintro n s3 ⟨i,σ3,H3,I3,Um,VT,w3⟩;rcases Ð i n σ3 H3 w3 with⟨stop,qn⟩ | ⟨go,N,hN,step⟩
 ·refine Cf hp (bh (T.done X rfl rfl rfl hc i Z s3 σ3 H3 X.xe I3 (Qc VT) Um stop) λr s4 ⟨hr,I4⟩=>?_);subst hr;exact DJ ⟨σ3,H3,I4,qn⟩
 ·refine Cf hp (bh (T.item X rfl rfl rfl hc i Z s3 σ3 H3 X.xe I3 (Qc VT) Um go) λr s4 ⟨u,hr,h4⟩=>?_);subst hr;refine Cf hp (bh h4 λ_ s5 ⟨x,H5,I5,r5,y5,Qe,ZI⟩=>?_);have Z6:=I5.pinned (Qc ZI) (T.obj _ _ Qe);refine Cf hp (bh (hg _ s5 σ3 H5 x u _ Z6 r5 (step x H5 y5)) λ_ s6 ⟨σ6,H6,I6,q6⟩=>?_);refine Cf hp (bh (hb _ s6 σ6 H6 _ I6 q6) λf s7 q7=>?_);have again:∀{σ7:St}{H7:Hp},Inv X (Z++mh fp s5.heap) σ7 H7 s7->N σ7 H7->∃m,m < n/\∃i σ' H',Inv X Z σ' H' s7/\tn i s7.heap/\(∀b∈fp,H' b=bd)/\W i m σ' H':=λ{σ7 H7} I7 n7=>by
   obtain⟨m',hm,w7⟩:=hN σ7 H7 n7;refine⟨m',hm,i+1,σ7,H7,I7.iM,T.keep _ _ _ Qe λb hb o e=>(I7.pin (b,o) (AU _ (AU _ (gQ hb e)))).1,λb hb=>?_,w7⟩;obtain⟨o,e,d⟩:=T.obj _ _ Qe b hb;exact(I7.pin (b,o) (AU _ (AU _ (gQ hb e)))).2.1
  cases f with
  | next=>obtain⟨σ7,H7,I7,n7⟩:=q7;exact again I7 n7
  | cont=>obtain⟨σ7,H7,I7,n7⟩:=q7;exact again I7 n7
  | brk=>obtain⟨σ7,H7,I7,q7⟩:=q7;exact⟨σ7,H7,I7.iM,q7⟩
  | ret v=>obtain⟨x7,σ7,H7,I7,r7,q7⟩:=q7;exact⟨x7,σ7,H7,I7.iM,r7,q7⟩
end
end L2
variable{i:Int}{g:Int->Int->Int}{aj:O A4}
namespace L2
abbrev R2:=V->V->Hp->VK->Prop
def gF(X:Cx)(f:bn->bn->Sem bn)(r:R2):Prop:=
 ∀(Z:O (ci×Obj)) (s:db) (σ:St) (H:Hp) (x y:V) (v u:bn) (Q:VK),Inv X Z σ H s->RelV x v->RelV y u->r x y H Q->
  cr (f8 X.prog X.w) X.A (f v u) (EP X Z σ Q) X.xe s
def Z0(X:Cx)(f:bn->Sem bn)(r:V->Hp->VK->Prop):Prop:=
 ∀(Z:O (ci×Obj)) (s:db) (σ:St) (H:Hp) (x:V) (v:bn) (Q:VK),Inv X Z σ H s->RelV x v->r x H Q->
  cr (f8 X.prog X.w) X.A (f v) (EP X Z σ Q) X.xe s
def bt(X:Cx)(f:bn)(r:O V->Hp->VK->Prop):Prop:=
 ∀(Z:O (ci×Obj)) (s:db) (σ:St) (H:Hp) (xs:O V) (us:O bn) (Q:VK),Inv X Z σ H s->Vals xs us->r xs H Q->
  cr (f8 X.prog X.w) X.A (call f us) (EP X Z σ Q) X.xe s
def Z1(X:Cx)(r:V->Hp->(Bool->Hp->Prop)->Prop):Prop:=
 ∀(Z:O (ci×Obj)) (s:db) (σ:St) (H:Hp) (x:V) (v:bn) (Q:Bool->Hp->Prop),Inv X Z σ H s->RelV x v->r x H Q->
  cr (f8 X.prog X.w) X.A (truthy v) (TP X Z σ Q) X.xe s
def OC(r:R2)(ta tb:TE):TE:=λσ H Q=>ta σ H λx H1=>tb σ H1 λy H2=>r x y H2 Q
def tUn(r:V->Hp->VK->Prop)(ta:TE):TE:=λσ H Q=>ta σ H λx H1=>r x H1 Q
def rI(C:Int->Int->Prop)(g:Int->Int->V):R2:=λx y H Q=>∃i j,x=.int i/\y=.int j/\C i j/\Q (g i j) H
def L6(g:Int->Int->V):R2:=λx y H Q=>∃i j,x=.int i/\y=.int j/\Q (g i j) H
def rU(g:Int->V):V->Hp->VK->Prop:=λx H Q=>∃i,x=.int i/\Q (g i) H
section
variable{b:im}{pos:Pos}
def Su(ha:PE X a ta)(hb:PE X b tb)(I:Inv X Z σ H s)
  (h:ta σ H λx H1=>tb σ H1 λy H2=>R x y H2) {f:bn->bn->Sem bn}
  (hf:∀v u s2 x y H2,Inv X Z σ H2 s2->RelV x v->RelV y u->R x y H2->cr (f8 X.prog X.w) X.A (f v u) Q X.xe s2) :
  cr (f8 X.prog X.w) X.A (kt a X.env) (λv s₁=>cr (f8 X.prog X.w) X.A (kt b X.env) (λu s₂=>cr (f8 X.prog X.w) X.A (f v u) Q X.xe s₂) X.xe s₁) X.xe s:=by
 refine bh (ha Z s σ H _ I h) λv s1 ⟨x,H1,I1,r1,q1⟩=>?_;refine bh (hb Z s1 σ H1 _ I1 q1) λu s2 ⟨y,H2,I2,r2,q2⟩=>?_;exact hf v u s2 x y H2 I2 r1 r2 q2
def zr{op:Operator}{r:R2}(ho:gF X (ss op) r)(ha:PE X a ta)(hb:PE X b tb):PE X (.BinOp a op b pos) (OC r ta tb):=by
 intro Z s σ H Q I h;exact wpAny_BinOp (Su ha hb I h λv u s2 x y H2 I2 rx ry q=>ho Z s2 σ H2 x y v u Q I2 rx ry q)
def UQ{op:UnaryOp}{r:V->Hp->VK->Prop}(ho:Z0 X (unaryOp op) r)(ha:PE X a ta):PE X (.UnaryOp op a pos) (tUn r ta):=by
 intro Z s σ H Q I h;exact UnaryOp_ (bh (ha Z s σ H _ I h) λv s1 ⟨x,H1,I1,r1,q1⟩=>ho Z s1 σ H1 x v Q I1 r1 q1)
def W6{f:bn->bn->Sem bn}{C:Int->Int->Prop}
  (rule:∀(i j:Int) (t u:Tok) (s:db) (Q:bn->db->Prop) (E:bn->db->Prop),C i j->Q (.int (g i j) s.toks) {s with toks:=s.toks+1}->cr (f8 X.prog X.w) X.A (f (.int i t) (.int j u)) Q E s) :
  gF X f (rI C λi j=>.int (g i j)):=by
 intro Z s σ H x y v u Q I rx ry h;obtain⟨i,j,rfl,rfl,hc,q⟩:=h;obtain⟨t,rfl⟩:=rx;obtain⟨t',rfl⟩:=ry;exact rule i j t t' s _ _ hc ⟨.int (g i j),H,I.tok _,⟨_,rfl⟩,q⟩
def U2{f:bn->bn->Sem bn}
  (rule:∀(i j:Int) (t u:Tok) (s:db) (Q:bn->db->Prop) (E:bn->db->Prop),Q (.int (g i j) s.toks) {s with toks:=s.toks+1}->cr (f8 X.prog X.w) X.A (f (.int i t) (.int j u)) Q E s) :
  gF X f (L6 λi j=>.int (g i j)):=by
 intro Z s σ H x y v u Q I rx ry h;obtain⟨i,j,rfl,rfl,q⟩:=h;obtain⟨t,rfl⟩:=rx;obtain⟨t',rfl⟩:=ry;exact rule i j t t' s _ _ ⟨.int (g i j),H,I.tok _,⟨_,rfl⟩,q⟩
def MH{f:bn->bn->Sem bn}{g:Int->Int->Bool}
  (rule:∀(i j:Int) (t u:Tok) (s:db) (Q:bn->db->Prop) (E:bn->db->Prop),Q (.bool (g i j)) s->cr (f8 X.prog X.w) X.A (f (.int i t) (.int j u)) Q E s) :
  gF X f (L6 λi j=>.bl (g i j)):=by
 intro Z s σ H x y v u Q I rx ry h;obtain⟨i,j,rfl,rfl,q⟩:=h;obtain⟨t,rfl⟩:=rx;obtain⟨t',rfl⟩:=ry;exact rule i j t t' s _ _ ⟨.bl (g i j),H,I,rfl,q⟩
def Oz(i j:Int):Prop:=0 < j/\j < 1073741824
def La(i j:Int):Prop:=0<=j/\j<=1000000/\i.natAbs < 2 ^ 64
def Oy(i j:Int):Prop:=(-(2 ^ 64) < i/\i < 2 ^ 64)\/(-(2 ^ 64) < j/\j < 2 ^ 64)
def Oy.ok{j:Int}(h:Oy i j):wp i j:=by
 rcases h with⟨h1,h2⟩ | ⟨h1,h2⟩
 ·exact .of_left (intBits_le_64 h1 h2)
 ·exact .of_right (intBits_le_64 h1 h2)
def Q0:gF X (ss .Add) (L6 λi j=>.int (i+j)):=U2 λ_ _ _ _ _ _ _ q=>add_int q
def QR:gF X (ss .Sub) (L6 λi j=>.int (i-j)):=U2 λ_ _ _ _ _ _ _ q=>sub_int q
theorem Mz:gF X (ss .FloorDiv) (rI Oz λi j=>.int (i / j)):=W6 λi j _ _ _ _ _ hc q=>by
 have h1:(0:Int) < j:=hc.1;have h2:j < 1073741824:=hc.2;exact floordiv_int ∅ (by rw[Int.fdiv_eq_ediv_of_nonneg i ∅];exact q) (.inl (PyProof.noPylong_small ∅))
theorem QW:gF X (ss .Mod) (rI (λ_ j=>0 < j) λi j=>.int (i % j)):=W6 λi j _ _ _ _ _ hc q=>by
 have h1:(0:Int) < j:=hc;exact mod_int' ∅ (by rw[Int.fmod_eq_emod_of_nonneg i ∅];exact q)
def QT:gF X (ss .Pow) (rI La λi j=>.int (i ^ j.toNat)):=W6 λ_ _ _ _ _ _ _ hc q=>pow_int_small hc.1 hc.2.1 hc.2.2 q
def unI{f:bn->Sem bn}{g:Int->Int}
  (rule:∀(i:Int) (t:Tok) (s:db) (Q:bn->db->Prop) (E:bn->db->Prop),Q (.int (g i) s.toks) {s with toks:=s.toks+1}->cr (f8 X.prog X.w) X.A (f (.int i t)) Q E s) :
  Z0 X f (rU λi=>.int (g i)):=by
 intro Z s σ H x v Q I rx h;obtain⟨i,rfl,q⟩:=h;obtain⟨t,rfl⟩:=rx;exact rule i t s _ _ ⟨.int (g i),H,I.tok _,⟨_,rfl⟩,q⟩
def P1:Z0 X (unaryOp .USub) (rU λi=>.int (-i)):=unI λ_ _ _ _ _ q=>neg_int q
end
section
variable{b c:im}{pos:Pos}
def RV{Q:VK}{k k':Bool}(I:Inv X Z σ H s)(q:Q (.bl k) H)(e:k=k'):EP X Z σ Q (.bool k') s:=by
 subst e;exact⟨.bl k,H,I,rfl,q⟩
def UY:gF X (py .Lt) (L6 λi j=>.bl (decide (i < j))):=MH λ_ _ _ _ _ _ _ q=>lt_int q
def UZ:gF X (py .LtE) (L6 λi j=>.bl (decide (i<=j))):=MH λ_ _ _ _ _ _ _ q=>le_int q
def U0:gF X (py .Gt) (L6 λi j=>.bl (decide (j < i))):=MH λ_ _ _ _ _ _ _ q=>gt_int q
def U1:gF X (py .GtE) (L6 λi j=>.bl (decide (j<=i))):=MH λ_ _ _ _ _ _ _ q=>ge_int q
def QX:gF X (py .Is) (λx y H Q=>y=.aK/\Q (.bl (decide (x=.aK))) H):=by
 intro Z s σ H x y v u Q I rx ry h;obtain⟨rfl,q⟩:=h;cases ry;refine is_none_gen (RV I q ?_);cases x <;> first
  | (cases rx;rfl)
  | (obtain⟨t,rfl⟩:=rx;rfl)
def gF.or{f:bn->bn->Sem bn}{r r':R2}(h:gF X f r)(h':gF X f r'):gF X f (λx y H Q=>r x y H Q\/r' x y H Q):=by
 intro Z s σ H x y v u Q I rx ry q;rcases q with q | q
 ·exact h Z s σ H x y v u Q I rx ry q
 ·exact h' Z s σ H x y v u Q I rx ry q
def ke(b:im)(h:op≠.In:=by decide)(h2:op≠.NotIn:=by decide):nw op b=false:=by
 have e1:(op==CmpOp.In)=false:=by cases op <;> first | rfl | exact absurd rfl h
 have e2:(op==CmpOp.NotIn)=false:=by cases op <;> first | rfl | exact absurd rfl h2
 cases b <;> simp[nw,e1,e2]
def si{r:R2}(ho:gF X (py op) r)(ha:PE X a ta)(hb:PE X b tb)(hm:nw op b=false):PE X (.Compare a [op] [b] pos) (OC r ta tb):=by
 intro Z s σ H Q I h;exact wpAny_Compare1 (Su ha hb I h λv u s2 x y H2 I2 rx ry q=>ho Z s2 σ H2 x y v u Q I2 rx ry q) hm
def T6(t:TE):TT:=λσ H Q=>t σ H λx H'=>∃k,x=.bl k/\Q k H'
def nI{r:R2}(ho:gF X (py op) r)(ha:PE X a ta)(hb:PE X b tb)(hm:nw op b=false):PT X (.Compare a [op] [b] pos) (T6 (OC r ta tb)):=by
 intro Z s σ H Q I h;refine wpAny_isTrue_Compare1 (bh (ha Z s σ H _ I h) λv s1 ⟨x,H1,I1,r1,q1⟩=>bh (hb Z s1 σ H1 _ I1 q1) λu s2 ⟨y,H2,I2,r2,q2⟩=>
  bh (ho Z s2 σ H2 x y v u _ I2 r1 r2 q2) λc s3 ⟨z,H3,I3,r3,k,e,q3⟩=>?_) hm
 subst e;cases r3;exact BX ⟨H3,I3,q3⟩
def SH(K:Ab)(x:V)(H:Hp)(k:Bool):Prop:=
 match x with
 | .aK=>k=false
 | .bl b=>k=b
 | .int i=>k=(i != 0)
 | .str y=>y.length<=sizeLine/\k=((y.length:Int) != 0)
 | .Ss y=>y.size<=sizeLine/\k=((y.size:Int) != 0)
 | .ref p=>(∃xs,b9 K H p xs/\k=!xs.isEmpty)\/(∃xs,cS K H p xs/\k=!xs.isEmpty)\/∃kvs,H p=some (.dK kvs)/\k=!kvs.isEmpty
 | _=>False
def xZ{κ:Type}{kvs:O (κ×V)}{vs:O (κ×bn)}(r:KV kvs vs):(!vs.isEmpty)=!kvs.isEmpty:=by
 cases r <;> rfl
def oV(r:Vals xs aj):(!aj.toArray.isEmpty)=!xs.isEmpty:=by
 cases r <;> simp
def sR:(sizeLine:Nat) < 2 ^ 63:=by rw[sizeLine_eq];decide
theorem P4:Z1 X (λx H Q=>∃k,SH X.K x H k/\Q k H):=by
 intro Z s σ H x v Q I rx h;obtain⟨k,e,q⟩:=h;have hs:=sizeLine_eq;cases x with
 | aK=>
  cases rx;have e':=e;subst e';exact truthy_none ⟨H,I,q⟩
 | bl b=>
  cases rx;have e':=e;subst e';exact BX ⟨H,I,q⟩
 | int i=>
  obtain⟨t,rfl⟩:=rx;have e':=e;subst e';exact PySem.P.truthy_int ⟨H,I,q⟩
 | str y=>
  obtain⟨t,rfl⟩:=rx;obtain⟨hy,e'⟩:y.length<=sizeLine/\k=((y.length:Int) != 0):=e;subst e';exact PySem.P.truthy_str ∅ ⟨H,I.tok _,q⟩
 | Ss y=>
  obtain⟨t,rfl⟩:=rx;obtain⟨hy,e'⟩:y.size<=sizeLine/\k=((y.size:Int) != 0):=e;subst e';exact PySem.W.truthy_bytes ∅ ⟨H,I.tok _,q⟩
 | ref p=>
  cases rx;have e':=e;rcases e' with⟨xs,hx,e'⟩ | ⟨xs,hx,e'⟩ | ⟨kvs,hx,e'⟩
  ·subst e';obtain⟨aj,r,pl,hz⟩:=I.list hx;have Â:=r.length;exact wpAny_truthy_list pl.isList (by simp only[Af];omega) ⟨H,I.tok _,by rw[oV r];exact q⟩
  ·subst e';obtain⟨aj,r,pl,hz⟩:=I.tuple hx;have Â:=r.length;exact truthy_tuple pl (by simp only[Af];omega) ⟨H,I.tok _,by rw[oV r];exact q⟩
  ·subst e';obtain⟨hz,hS,vs,r,m⟩:kvs.length<=sizeLine/\(p==sn)=false/\∃vs,KV kvs vs/\s.heap.DictOf (aU X.prog X.w) p vs:=I.aY p _ hx;have Â:=Paired.length r;exact wpAny_truthy_dict hS m ∅ ⟨H,I.tok _,by rw[xZ r];exact q⟩
 | _=>exact(show False from e).elim
def IA(ha:PE X a ta)(he:∀Å,isTrue a X.env Å=(do let v <- Å;standAt a.pos;sw [v] (truthy v))) :
  PT X a (λσ H Q=>ta σ H λx H'=>∃k,SH X.K x H' k/\Q k H'):=by
 intro Z s σ H Q I h;exact isTrue_plain (bh (ha Z s σ H _ I h) λv s1 ⟨x,H1,I1,r1,q1⟩=>P4 Z s1 σ H1 x v Q I1 r1 q1) (he _)
def xA:gF X (ss .Add) (λx y H Q=>∃i j,x=.str i/\y=.str j/\i.length+j.length<=sizeLine/\Q (.str (i++j)) H):=by
 intro Z s σ H x y v u Q I rx ry h;obtain⟨i,j,rfl,rfl,hz,q⟩:=h;obtain⟨t,rfl⟩:=rx;obtain⟨t',rfl⟩:=ry;exact add_str (λt' tk=>⟨.str (i++j),H,I.tok _,⟨_,rfl⟩,q⟩) hz
def vals1{x:V}(r:Vals [x] us):∃u,us=[u]/\RelV x u:=by
 cases r with
 | cons r1 r2=>cases r2;exact⟨_,rfl,r1⟩
def vals2{x:V}(r:Vals [x,y] us):∃u w',us=[u,w']/\RelV x u/\RelV y w':=by
 cases r with
 | cons r1 r2=>
  cases r2 with
  | cons r3 r4=>cases r4;exact⟨_,_,rfl,r1,r3⟩
def KL:bt X (.builtin "abs") (λxs H Q=>∃i,xs=[.int i]/\Q (.int (if i < 0 then -i else i)) H):=by
 intro Z s σ H xs us Q I r h;obtain⟨i,rfl,q⟩:=h;obtain⟨u,rfl,t,rfl⟩:=vals1 r;exact call_abs_int λu tk=>⟨.int (if i < 0 then -i else i),H,I.tok _,⟨_,rfl⟩,q⟩
def Hl(hc:X.calm=true):bt X (.builtin "max") (λxs H Q=>∃i j,xs=[.int i,.int j]/\Q (.int (if j > i then j else i)) H):=by
 intro Z s σ H xs us Q I r h;obtain⟨i,j,rfl,q⟩:=h;obtain⟨u,w',rfl,⟨t,rfl⟩,⟨t',rfl⟩⟩:=vals2 r;refine max_two_ints (I.ok.hd hc) λh' tk k=>⟨_,H,I.kept k,?_,q⟩;by_cases hj:j > i
 ·rw[if_pos hj,if_pos hj];exact⟨_,rfl⟩
 ·rw[if_neg hj,if_neg hj];exact⟨_,rfl⟩
def Hk(hc:X.calm=true):bt X (.builtin "min") (λxs H Q=>∃i j,xs=[.int i,.int j]/\Q (.int (if j < i then j else i)) H):=by
 intro Z s σ H xs us Q I r h;obtain⟨i,j,rfl,q⟩:=h;obtain⟨u,w',rfl,⟨t,rfl⟩,⟨t',rfl⟩⟩:=vals2 r;refine min_two_ints (I.ok.hd hc) λh' tk k=>⟨_,H,I.kept k,?_,q⟩;by_cases hj:j < i
 ·rw[if_pos hj,if_pos hj];exact⟨_,rfl⟩
 ·rw[if_neg hj,if_neg hj];exact⟨_,rfl⟩
def Hq:bt X (.type "int") (λxs H Q=>(∃i,xs=[.int i]/\Q (.int i) H)\/∃k,xs=[.bl k]/\Q (.int (if k then 1 else 0)) H):=by
 intro Z s σ H xs us Q I r h;rcases h with⟨i,rfl,q⟩ | ⟨k,rfl,q⟩
 ·obtain⟨u,rfl,t,rfl⟩:=vals1 r;exact call_int_int ⟨.int i,H,I,⟨_,rfl⟩,q⟩
 ·obtain⟨u,rfl,r1⟩:=vals1 r;cases r1;exact call_int_bool ⟨.int (if k then 1 else 0),H,I.tok _,⟨_,rfl⟩,q⟩
def WH(K:Ab)(x:V)(H:Hp)(n:Nat):Prop:=
 match x with
 | .str y=>y.length<=sizeLine/\n=y.length
 | .Ss y=>y.size<=sizeLine/\n=y.size
 | .ref p=>(∃xs,b9 K H p xs/\n=xs.length)\/∃xs,cS K H p xs/\n=xs.length
 | _=>False
theorem KJ:bt X (.builtin "len") (λxs H Q=>∃x n,xs=[x]/\WH X.K x H n/\Q (.int n) H):=by
 intro Z s σ H xs us Q I r h;obtain⟨x,n,rfl,e,q⟩:=h;obtain⟨u,rfl,rx⟩:=vals1 r;have hs:=sizeLine_eq;cases x with
 | str y=>
  obtain⟨t,rfl⟩:=rx;obtain⟨hy,e'⟩:y.length<=sizeLine/\n=y.length:=e;subst e';exact len_str ∅ ⟨.int _,H,I.tok _,⟨_,rfl⟩,q⟩
 | Ss y=>
  obtain⟨t,rfl⟩:=rx;obtain⟨hy,e'⟩:y.size<=sizeLine/\n=y.size:=e;subst e';exact PySem.W.len_bytes ∅ ⟨.int _,H,I.tok _,⟨_,rfl⟩,q⟩
 | ref p=>
  cases rx;have e':=e;rcases e' with⟨xs,hx,e'⟩ | ⟨xs,hx,e'⟩
  ·subst e';obtain⟨aj,r',pl,hz⟩:=I.list hx;have Â:=r'.length;exact Calls.call_len_list pl.isList (by simp only[Af];omega) ⟨.int xs.length,H,I.tok _,⟨_,by simp only[Af];rw[Â]⟩,q⟩
  ·subst e';obtain⟨aj,r',pl,hz⟩:=I.tuple hx;have Â:=r'.length;exact len_tuple pl (by simp only[Af];omega) ⟨.int xs.length,H,I.tok _,⟨_,by simp only[Af];rw[Â]⟩,q⟩
 | _=>exact(show False from e).elim
end
end L2
variable{a:BA}{mA:BW->Option A4}
namespace L2
structure SK(h:lw)(x dx C:ci)(mA:Str->Option bn):Prop where
 obj:h.get? x=some (ER C dx)
 ns:h.Ns1 dx mA
 ne:dx≠x
def GJ{dx:ci}(n:h.Ns1 dx mA):∃od,h.get? dx=some od/\∀name,E7 name od=some (mA name):=by
 obtain⟨o,es,ep,ho,hd,hk,_,hm⟩:=n;refine⟨o,ho,λname=>?_⟩;have e:=hm name;unfold nsFind findBy at e;rw[<- Array.find?_toList]at e;unfold E7;rw[hd];dsimp only
 split
 ·rename_i y q;rw[q]at e;exact congrArg some e
 ·rename_i q;rw[q]at e;have a:es.toList.any (·.refKey)=false:=by
   rw[Eh];intro y hy;obtain⟨z,t,Zi⟩:=hk y (Array.mem_toList_iff.mp hy);simp[DictEntry.refKey,Zi]
  have a':¬es.toList.any (·.refKey)=true:=by rw[a];exact A2
  rw[if_neg a'];exact congrArg some e
def SK.look{x dx C:ci}(I:SK h x dx C mA):∃od,PySem.W.InstAt h x (ER C dx) C (some od)/\∀name,E7 name od=some (mA name):=
 let ⟨od,ho,hl⟩:=GJ I.ns
 ⟨od,⟨I.obj,rfl,rfl,ho⟩,hl⟩
def mN.some_of{o:Option bn}(r:mN (some v) o):∃u,o=some u/\RelV v u:=by
 cases o with
 | none=>exact(show False from r).elim
 | some u=>exact⟨u,rfl,r⟩
section
variable{C dx:ci}{fs:O (Str×V)}
def Nq(aY:jd P w H h)(e:H a=some (.ins C dx fs)):∃mA,SK h a dx C mA/\(∀f,mN (fs.lookup f) (mA f))/\PySem.Within mA (fs.map (·.1))/\fs.length<=1000/\H dx=some (.own a):=by
 obtain⟨d,z,ne,ob,mA,n,r,q⟩:=(show aR P w H h a (.ins C dx fs) from aY a _ e);exact⟨mA,⟨ob,n,ne⟩,r,q,z,d⟩
end
structure WO(K:Ab)(C:ci):Prop where
 pg:FC K C Str.empty=true
 hd:PySem.W.hasDictIn K C=true
 po:PySem.W.plainOver K C=true
 sa:E8 K (.ref C) "__setattr__"=some (some (.builtin "object.__setattr__"))
def WO.get{K:Ab}{C:ci}(c:WO K C)(f:Str):FC K C f=true:=c.pg
def K5(K:Ab)(C:ci)(f:Str):Prop:=E8 K (.ref C) f=some bd
section
variable{c:bn}{b:Bool}
inductive jO(K:Ab)(H:Hp):V->bn->Prop where
 | aK:jO K H .aK (.type "NoneType")
 | bl (x:Bool):jO K H (.bl x) (.type "bool")
 | int (i:Int):jO K H (.int i) (.type "int")
 | str (x:Str):jO K H (.str x) (.type "str")
 | Tb (x:UInt64):jO K H (.Tb x) (.type "float")
 | lst {a:ci}{xs:List V} (e:H a=some (.lst xs)):jO K H (.ref a) (.type "list")
 | bQ {a:ci}{o:Obj}{xs:List V} (e:H a=some (.bQ o (.lst xs))):jO K H (.ref a) (.type "list")
 | tup {a:ci}{xs:List V} (e:H a=some (.tup xs)):jO K H (.ref a) (.type "tuple")
 | dK {a:ci}{kvs:List (Key×V)} (e:H a=some (.dK kvs)):jO K H (.ref a) (.type "dict")
 | dT {a:ci}{kvs:List (List Key×V)} (e:H a=some (.dT kvs)):jO K H (.ref a) (.type "dict")
 | ins {a C dx:ci}{fs:List (Str×V)} (e:H a=some (.ins C dx fs)) (cl:WO K C) (ha:E8 K (.ref C) "__class__"=some (some (.builtin "object.__class__")))
   (hn:PySem.W.specialIn K (.builtin "object.__class__") "__get__"=some (some (.builtin "getset_descriptor.__get__"))) (htk:PySem.W.takesIn K (.builtin "object.__class__")=some true)
   (hm:PySem.W.mroIn K C (.type "object")=some true):jO K H (.ref a) (.ref C)
def GS{x:V}{t:bn}(I:Inv X Z σ H s)(rx:RelV x u)(ty:jO X.K H x t)(e:Bp X.K t c=some b)(h:∀tk,Q (.bool b) {s with toks:=tk}) :
  cr (f8 X.prog X.w) A (call (.builtin "isinstance") [u,c]) Q E s:=by
 cases ty with
 | aK=>cases (show u=Bh from rx);exact A9 PySem.W.kitx_none I.qU BK e (λz=>nomatch z) h
 | bl y=>cases (show u=BL y from rx);exact A9 PySem.W.kitx_bool I.qU BK e (λz=>nomatch z) h
 | int i=>obtain⟨t,q⟩:=(show ∃t,u=DW i t from rx);cases q;exact A9 PySem.W.kitx_int I.qU BK e (λz=>nomatch z) h
 | str y=>obtain⟨t,q⟩:=(show ∃t,u=FE y t from rx);cases q;exact A9 PySem.W.kitx_str I.qU BK e (λz=>nomatch z) h
 | Tb y=>obtain⟨t,q⟩:=(show ∃t,u=Value.float y t from rx);cases q;exact A9 PySem.W.kitx_float I.qU BK e (λz=>nomatch z) h
 | @lst a xs ea=>
  cases (show u=Aw a from rx);obtain⟨_,_,n,_,h1⟩:=(show aR X.prog X.w H s.heap a (.lst xs) from I.aY a _ ea);exact A9 Ec I.qU ⟨_,h1,rfl⟩ e (λz=>nomatch z) h
 | @bQ a ob xs ea=>
  cases (show u=Aw a from rx);obtain⟨_,_,_,n,_,h1⟩:=(show aR X.prog X.w H s.heap a (.bQ ob (.lst xs)) from I.aY a _ ea);exact A9 Ec I.qU ⟨_,h1,rfl⟩ e (λz=>nomatch z) h
 | @tup a xs ea=>
  cases (show u=Aw a from rx);obtain⟨_,_,_,p⟩:=(show aR X.prog X.w H s.heap a (.tup xs) from I.aY a _ ea);obtain⟨o,h1,h2,_⟩:=p;exact A9 Fq I.qU ⟨o,h1,h2⟩ e (λz=>nomatch z) h
 | @dK a kvs ea=>
  cases (show u=Aw a from rx);obtain⟨_,_,vs,_,p⟩:=(show aR X.prog X.w H s.heap a (.dK kvs) from I.aY a _ ea);obtain⟨o,es,ep,h1,h2,_⟩:=p;exact A9 Ed I.qU ⟨o,h1,h2.1⟩ e (λz=>nomatch z) h
 | @dT a kvs ea=>
  cases (show u=Aw a from rx);obtain⟨_,_,xs,_,o,es,ep,h1,h2,_⟩:=(show aR X.prog X.w H s.heap a (.dT kvs) from I.aY a _ ea);exact A9 Ed I.qU ⟨o,h1,h2.1⟩ e (λz=>nomatch z) h
 | @ins a C dx fs ea cl ha hn htk hm=>
  cases (show u=Aw a from rx);obtain⟨mA,O_,_⟩:=Nq I.aY ea;obtain⟨od,J,_⟩:=O_.look;exact A9 (PySem.W.kitx_own (cl.get _) cl.hd ha hn htk hm) I.qU J e (λz=>nomatch z) h
end
end L2
variable{v É pm dM ct oc:A4}{vs:O L2.V}{mg:BW->Option A4}{base:Ft}{fd:PySem.FuncData}{ps:O BW}{Ã:CJ}{sc scope:PySem.Scope}{qual:BW}{an od:Option BA}{Mv:Array (Option A4)}
namespace L2
structure d4(k:Nat)(A:Ch):Prop where
 hd:A.handled=bd
 dp:A.depth+3*k+5 < recursionLimit
 un:A.units+16*k+200 < pr
 gd:A.guards=some []
theorem d4.mono{k:Nat}(r:d4 k A)(h:j<=k):d4 j A:=⟨r.hd,by have:=r.dp;omega,by have:=r.un;omega,r.gd⟩
theorem d4.deeper{k:Nat}(r:d4 (k+1) A)(env:Env):d4 k (A.deeper env):=
 ⟨r.hd,by have:=r.dp;show A.depth+1+3*k+5 < _;omega,by have:=r.un;show A.units+3+16*k+200 < _;omega,r.gd⟩
theorem d4.depth{k:Nat}(r:d4 k A):A.depth < recursionLimit:=by have:=r.dp;omega
def X9:TA:=λ_ H Q=>Q [] H
def Ug(ta:TE)(tr:TA):TA:=λσ H Q=>ta σ H λx H1=>tr σ H1 λxs H2=>Q (x::xs) H2
section
variable{t:TA}{pos:Pos}
def cA:PA X [] X9:=λ_ _ _ _ H Q I h=>BF ⟨[],H,I,.nil,h⟩
def a8(ha:PE X e te)(hr:PA X es t)(hs:fX X e es:=by rfl):PA X (e::es) (Ug te t):=by
 intro pos Z s σ H Q I h;rw[hs];refine Bf (bh (ha Z s σ H _ I h) λu s1 ⟨x,H1,I1,r1,q1⟩=>?_);exact bh (hr pos Z s1 σ H1 _ I1 q1) λus s2 ⟨xs,H2,I2,r2,q2⟩=>⟨x::xs,H2,I2,.cons r1 r2,q2⟩
end
abbrev Sp:=O V->Hp->VK->XK->Prop
abbrev K9:=O Env->Hp->db->XK->bn->db->Prop
structure Ov(P:ul)(w:wv)(K:Ab)(mg:Str->Option bn)(base:lw)(A:Ch)(outer:List Env)(s:db)(H:Hp):Prop where
 frames:A.frames=some outer
 mod:Mod K mg base
 bs:∀b o,base.get? b=some o->s.heap.get? b=some o/\H b=bd
 PF:base.objs.size<=s.heap.objs.size
 o9:s.heap.FunFrames base outer
 S8:∀b∈HF outer,H b=bd
 aY:jd P w H s.heap
 bare:GE s.gens
def CE(outer:O Env)(P:ul)(w:wv)(H:Hp)(s:db)(Q:VK)(u:bn)(s':db):Prop:=
 ∃v H',s'.os=s.os/\GE s'.gens/\Un (HF outer) [] H H' s.heap s'.heap/\jd P w H' s'.heap/\RelV v u/\Q v H'
def CR(CX:K9)(outer:O Env)(P:ul)(w:wv)(H:Hp)(s:db)(Q:VK)(E:XK)(r:Result)(s':db):Prop:=
 match r with
 | .ok (.ret u)=>CE outer P w H s Q u s'
 | .ok _=>False
 | .error e=>CX outer H s E e s'
structure fy(P:ul)(w:wv)(K:Ab)(mg:Str->Option bn)(base:lw)(CX:K9)(k:Nat)(f:ci)(fd:Gc)(ps:List Str)(sp:Sp):Prop where
 len:∀vs H Q E,sp vs H Q E->vs.length=ps.length
 run:∀(A:Ch) (outer:List Env) (s:db) (H:Hp) (args:Args) (us:List bn) (vs:List V) (Q:VK) (E:XK),d4 k A->Ov P w K mg base A outer s H->BindsTo s fd args (ps.zip us)->Vals vs us->sp vs H Q E->
  Db (f8 P w) A (.call (.ref f) args) (CR CX outer P w H s Q E) s
def fy.imp{K:Ab}{CX:K9}{k:Nat}{f:ci}{sp sp':Sp}(F:fy P w K mg base CX k f fd ps sp)
  (h:∀vs H Q E,sp' vs H Q E->sp vs H Q E):fy P w K mg base CX k f fd ps sp':=
 ⟨λvs H Q E q=>F.len vs H Q E (h _ _ _ _ q),λA outer s H args us vs Q E hr he hb hv hs=>F.run A outer s H args us vs Q E hr he hb hv (h _ _ _ _ hs)⟩
section
def Inv.ZU(I:Inv X Z σ H s):Ov X.prog X.w X.K X.mg X.base X.A X.stack s H:=
 ⟨I.ok.frames,I.ok.mod,I.bs,AQ I.ok.PF I.sz,I.stack,I.zb,I.aY,I.bare⟩
def Inv.after{Q:VK}(I:Inv X Z σ H s)(h:CE X.stack X.prog X.w H s Q u s'):EP X Z σ Q u s':=by
 obtain⟨v,H',os,bare,un,aY,r,q⟩:=h;obtain⟨hh,g,d,t,os'⟩:=s';obtain rfl:os'=s.os:=os;exact⟨v,H',I.call (h':=hh) (g':=g) (d':=d) (t':=t) (ch:=[]) un aY bare (λb z=>absurd z (by simp)),r,q⟩
end
def Binds(K:Ab)(fd:Gc)(ps:O Str)(ds:O bn):Prop:=
 ∀(s:db) (us:O bn),K.In s.heap->(us++ds).length=ps.length->BindsTo s fd ⟨us,[]⟩ (ps.zip (us++ds))
def Binds.all{K:Ab}(h:∀us:O bn,us.length=ps.length->bindArgs fd ⟨us,[]⟩=pure (ps.zip us)):Binds K fd ps []:=λs us _ hl=>by
 rw[CW]at hl ⊢;exact .of_eq (h us hl)
def Passes(CX:K9)(X:Cx)(E:XK):Prop:=∀(Z:O (ci×Obj)) (σ:St) (H:Hp) (s:db) (e:bn) (s':db),Inv X Z σ H s->CX X.stack H s E e s'->X.xe e s'
section
variable{CX:K9}{k:Nat}{f:ci}{sp:Sp}{dvs:O V}{ds:O bn}{E:XK}
def Qm{Q:VK}(F:fy X.prog X.w X.K X.mg X.base CX k f fd ps sp)(hr:d4 k X.A)(hb:Binds X.K fd ps ds)(hd:Vals dvs ds)(hx:Passes CX X E)
  (I:Inv X Z σ H s) (r:Vals vs us) (h:sp (vs++dvs) H Q E):cr (f8 X.prog X.w) X.A (call (.ref f) us) (EP X Z σ Q) X.xe s:=by
 have r2:Vals (vs++dvs) (us++ds):=r.append hd;have hl:(us++ds).length=ps.length:=by rw[<- r2.length];exact F.len _ _ _ _ h
 refine wpAny_call (codeAny_mono (F.run X.A X.stack s H ⟨us,[]⟩ (us++ds) (vs++dvs) Q E hr I.ZU (hb s us I.qU hl) r2 h) λr s' hq=>?_);cases r with
 | error e=>exact hx Z σ H s e s' I hq
 | ok fl=>
  cases fl with
  | ret u=>exact I.after hq
  | next=>exact Bn hq
  | brk=>exact Bn hq
  | cont=>exact Bn hq
end
structure cy(N P:List Str)(sc:r9):Prop where
 kind:sc.kind=.function
 co:sc.isCoroutine=false
 gen:sc.isGenerator=false
 nd:N.Nodup
 pre:N.take P.length=P
 par:∀x∈P,sc.names.lookup x=some .local\/sc.names.lookup x=some .cell
 Q4:∀y∈sc.names,y.2≠.free
theorem rm{kindOf:Str->Option wE}:∀{binds:O (Str×bn)}{m:Str->Option bn},(∀v,(x,v)∉binds)->bindL kindOf binds m x=m x
 | [],_,_=>rfl
 | (n,v)::r,m,h=>by
  unfold bindL;rw[rm λw hw=>h w (AY _ hw)]
  split
  ·have:x≠n:=by rintro rfl;exact h v Br
   simp[this]
  ·rfl
theorem rA{kindOf:Str->Option wE}:∀{binds:O (Str×bn)}{m:Str->Option bn},(∀v,(x,v)∉binds)->bindC kindOf binds m x=m x
 | [],_,_=>rfl
 | (n,v)::r,m,h=>by
  unfold bindC;rw[rA λw hw=>h w (AY _ hw)]
  split
  ·rfl
  ·have:x≠n:=by rintro rfl;exact h v Br
   simp[this]
theorem rq{kindOf:Str->Option wE}:∀{P:O Str}{vs:O bn}{i:Nat}{m:Str->Option bn},P.Nodup->P[i]?=some x->vs[i]?=some v->kindOf x=some .local->
  bindL kindOf (P.zip vs) m x=some v
 | [],_,_,_,_,h,_,_=>by simp at h
 | _::_,[],_,_,_,_,h,_=>by simp at h
 | p::P,w::vs,0,m,nd,h1,h2,hk=>by
  simp at h1 h2;subst h1;subst h2;show bindL kindOf ((p,w)::P.zip vs) m p=_;unfold bindL;rw[rm λv hv=>(DL.mp nd).1 (EW hv).1,if_pos hk];simp
 | p::P,w::vs,i+1,m,nd,h1,h2,hk=>by
  show bindL kindOf ((p,w)::P.zip vs) m x=_;unfold bindL;exact rq (i:=i) (DL.mp nd).2 (by simpa using h1) (by simpa using h2) hk
theorem rB{kindOf:Str->Option wE}:∀{P:O Str}{vs:O bn}{i:Nat}{m:Str->Option bn},P.Nodup->P[i]?=some x->vs[i]?=some v->kindOf x≠some .local->
  bindC kindOf (P.zip vs) m x=some v
 | [],_,_,_,_,h,_,_=>by simp at h
 | _::_,[],_,_,_,_,h,_=>by simp at h
 | p::P,w::vs,0,m,nd,h1,h2,hk=>by
  simp at h1 h2;subst h1;subst h2;show bindC kindOf ((p,w)::P.zip vs) m p=_;unfold bindC;rw[rA λv hv=>(DL.mp nd).1 (EW hv).1,if_neg hk];simp
 | p::P,w::vs,i+1,m,nd,h1,h2,hk=>by
  show bindC kindOf ((p,w)::P.zip vs) m x=_;unfold bindC;exact rB (i:=i) (DL.mp nd).2 (by simpa using h1) (by simpa using h2) hk
def start(N:O Str)(vs:O V):St:=vs.map some++Ak (N.length-vs.length) bd
def qp(CX:K9)(P:ul)(w:wv)(K:Ab)(mg:Str->Option bn)(base:lw)(N:O Str)(qual:Str)(scope:r9)(f:ci)(cd:bn)(A:Ch)(outer:O Env)(s:db)(H:Hp)(E:XK):Cx where
 prog:=P
 w:=w
 K:=K
 mg:=mg
 base:=base
 A:=A.deeper (EQ qual scope s.heap.objs.size f cd)
 N:=N
 s₀:=s
 H₀:=H
 env:=EQ qual scope s.heap.objs.size f cd
 outer:=outer
 stack:=EQ qual scope s.heap.objs.size f cd::outer
 ex:=[]
 calm:=true
 fn:=λ_=>true
 pn:=[]
 xe:=λe s'=>cr (f8 P w) (A.deeper (EQ qual scope s.heap.objs.size f cd)) (leaving (EQ qual scope s.heap.objs.size f cd) e) (λ_ Uv=>CX outer H s E e Uv) (λe' Uv=>CX outer H s E e' Uv) s'
def wN(h:sc.names.lookup x=some .cell):∃c,(cellsFrom n sc.names []).lookup x=some c:=by
 have q:=EG sc.names n [] (.inl h);exact Option.isSome_iff_exists.mp q
theorem GV{CX:K9}{K:Ab}{N:O Str}{f:ci}{cd:bn}{outer:O Env}{s1:db}{E:XK}
  (S:cy N ps scope) (hd:A.handled=bd) (e0:Ov P w K mg base A outer s H) (hl:vs.length=ps.length) (r:Vals vs us)
  (x:InCallC s s.heap.objs.size (bindL (EQ qual scope s.heap.objs.size f cd).kindOf (ps.zip us) λ_=>bd) (cellsFrom (s.heap.objs.size+1) scope.names []) (bindC (EQ qual scope s.heap.objs.size f cd).kindOf (ps.zip us) λ_=>bd) s1) :
  Inv (qp CX P w K mg base N qual scope f cd A outer s H E) [] (start N vs) H s1:=by
 have cI:ps.length<=N.length:=by have:=congrArg BS S.pre;rw[Cc]at this;omega
 obtain⟨h1,tk,rfl,hk⟩:=x.done;have U7:∀b:ci,b∉(qp CX P w K mg base N qual scope f cd A outer s H E).ex:=λb z=>absurd (show b∈([]:O ci) from z) (by simp);refine⟨⟨e0.mod,S.kind,rfl,rfl,Ao _,λy z c h1 h2=>?_,λy hy=>?_,λy c _ h=>?_,λ_=>hd,Around.frames_deeper e0.frames,.inr ⟨rfl,rfl⟩,λb z=>absurd z (U7 b),e0.bs,e0.PF,λb _ _=>U7 b,λb z=>absurd z (U7 b),e0.o9,e0.S8⟩,
  rfl,e0.bare,Un.kept hk,⟨_,x.toInCall.ns,λi y v h1 h2 h3=>?_⟩,λy c h=>⟨_,x.cell y c h⟩,e0.aY.fresh (Ao _),λy c h=>?_,λp hp=>absurd (show p∈([]:O (ci×Obj)) from hp) (by simp),e0.aY.kept hk,?_⟩
 ·exact name_of_addr x.apart (BG h1) (BG h2)
 ·rcases hy with hy | hy
  ·exact wN hy
  ·exact absurd rfl (S.Q4 _ (BG hy))
 ·exact Dc (x.above y c (BG h))
 ·have hi:i < vs.length:=by
   unfold start at h2;by_cases hi:i < vs.length
   ·exact hi
   ·rw[AN (by simpa using hi)]at h2;rw[BC]at h2
    split at h2 <;> cases h2
  have ha:vs[i]?=some v:=by
   unfold start at h2;rw[AR (by simpa using hi),Aj]at h2;cases e:vs[i]? with
   | none=>rw[e]at h2;cases h2
   | some a=>rw[e]at h2;cases h2;rfl
  obtain⟨u,hu,rv⟩:=r.get ha;have hp:ps[i]?=some y:=by
   rw[<- S.pre,List.getElem?_take_of_lt ∅];exact h1
  have ndP:ps.Nodup:=by rw[<- S.pre];exact S.nd.sublist (List.take_sublist _ _)
  refine⟨u,rv,?_⟩;rcases S.par y (A5 hp) with k | k
  ·exact .inl ⟨k,rq ndP hp hu k⟩
  ·obtain⟨c,e⟩:=wN (n:=s.heap.objs.size+1) k;refine .inr ⟨.inl k,c,e,?_⟩;have q:=x.cell y c e;rw[rB ndP hp hu (by show scope.names.lookup y≠_;rw[k];decide)]at q;exact q
 ·exact e0.aY.fresh (Dc (x.above y c (BG h)))
 ·unfold start;show _=N.length;rw[Ah,Ag,Bo];omega
def VZ{CX:K9}{K:Ab}{k:Nat}{f:ci}{name:Str}{params:Arguments}{dV kV:bn}{N:O Str}{sp:Sp}(lk:K.lookup f=some ⟨oc,od,.func (BP name qual params body scope dV kV É pm an dM ct),Mv⟩)(gB:DZ K dM qual=true)(S:cy N ps scope)
  (len:∀vs H Q E,sp vs H Q E->vs.length=ps.length)
  (JU:∀(A:Ch) (outer:O Env) (s:db) (H:Hp) (vs:O V) (Q:VK) (E:XK),d4 k (A.deeper (EQ qual scope s.heap.objs.size f dM))->sp vs H Q E->
   ∃t,nV (qp CX P w K mg base N qual scope f dM A outer s H E) body t/\t {nx:=λ_ H'=>Q .aK H',rt:=Q} (start N vs) H) :
  fy P w K mg base CX (k+1) f (BP name qual params body scope dV kV É pm an dM ct) ps sp:=by
 refine⟨len,λA outer s H args us vs Q E hr e0 hb r Lh=>?_⟩;have hl:=len _ _ _ _ Lh;have KX:K.In s.heap:=e0.mod.YR.keeps λb o e=>(e0.bs b o e).1;have lim:s.heap.NoLimit:=e0.mod.nolimit.keeps λb o e=>(e0.bs b o e).1;have VC:∀y∈ps.zip us,scope.names.lookup y.1=some .local\/(scope.names.lookup y.1=some .cell/\((cellsFrom (s.heap.objs.size+1) scope.names []).lookup y.1).isSome=true):=λ⟨n,v⟩ hy=>by
  rcases S.par n (EW hy).1 with q | q
  ·exact .inl q
  ·exact .inr ⟨q,EG _ _ _ (.inl q)⟩
 refine codeAny_call_function hr.depth (KX _ _ lk) rfl S.co S.gen rfl (PySem.W.codeRec_of KX gB) (hb _ _ _ _ ?_);refine wpAny_newFunctionEnv_cells S.kind VC λenv he s1 x=>?_;subst he;refine⟨lim.keeps x.toInCall.keep,codeAny_func ?_⟩;obtain⟨t,ht,hq⟩:=JU A outer s H vs Q E (hr.deeper _) Lh;have I:Inv (qp CX P w K mg base N qual scope f dM A outer s H E) [] (start N vs) H s1:=GV S hr.hd e0 hl r x;refine B4 (ht [] s1 (start N vs) H _ I hq) (λfl s' hs=>?_) λe s' hs=>hs;have Á:∀{σ':St}{H':Hp}{v:V}{u:bn},Inv (qp CX P w K mg base N qual scope f dM A outer s H E) [] σ' H' s'->RelV v u->Q v H'->CE outer P w H s Q u s':=
  λ{σ' H' v u} J rv q=>⟨v,H',J.os,J.bare,J.base,J.aY,rv,q⟩
 cases fl with
 | ret u=>
  obtain⟨v,σ',H',J,rv,q⟩:=hs;exact Á J rv q
 | next=>
  obtain⟨σ',H',J,q⟩:=hs;exact Á (v:=V.aK) (u:=Bh) J rfl q
 | brk=>
  obtain⟨_,_,_,q⟩:=hs;exact Bn q
 | cont=>
  obtain⟨_,_,_,q⟩:=hs;exact Bn q
end L2
variable{T:String}
namespace L2
section
variable{pos:Pos}{t:TA}{id:String}{r:O V->Hp->VK->Prop}
def tCB(r:O V->Hp->VK->Prop)(t:TA):TE:=λσ H Q=>t σ H λvs H1=>r vs H1 Q
def eW(hc:bt X (.builtin id) r)(hg:Gl X x)(hm:X.mg x=bd)(hv:pc x=some (.builtin id))(ha:PA X (e::es) t)(hn:x≠"__name__":=by decide)(lA:iG x:=by decide)
  (he:fX X e es:=by rfl) (cI:kJ X pos es:=by rfl):PE X (.Call (.Name x p) (e::es) [] pos) (tCB r t):=by
 intro Z s σ H Q I h;refine Bq (eZ I hg hm hv ?_ hn lA);exact PyProof.Rows.callWith_builtin1 (bh (ha pos Z s σ H _ I h) λus s1 ⟨vs,H1,I1,r1,q1⟩=>hc Z s1 σ H1 vs us Q I1 r1 q1) he cI
def jk(hc:bt X (.type T) r)(hg:Gl X x)(hm:X.mg x=bd)(hv:pc x=some (.type T))(ha:PA X (e::es) t)(hn:x≠"__name__":=by decide)(lA:iG x:=by decide)
  (he:fX X e es:=by rfl) (cI:kJ X pos es:=by rfl):PE X (.Call (.Name x p) (e::es) [] pos) (tCB r t):=by
 intro Z s σ H Q I h;refine Bq (eZ I hg hm hv ?_ hn lA);exact AW (bh (ha pos Z s σ H _ I h) λus s1 ⟨vs,H1,I1,r1,q1⟩=>hc Z s1 σ H1 vs us Q I1 r1 q1) he cI
end
end L2
variable{hi:Option Int}{prog:PySem.Program}{vl vu:A4}{items:Array A4}
namespace HT
open PySem PyProof.Rows
section
def N6{t:ci}{vs ws:O bn}(ht:IsTup s.heap t vs.toArray)(hb:IsTup s.heap b ws.toArray)(hv:vs≠[])
  (h1:ws=[]->Q (.ref t) s) (h2:ws≠[]->Q (.ref s.heap.objs.size) {s with heap:=s.heap.push {cls:=.type "tuple",data:=.seq (vs++ws).toArray}})
  (hsz:vs.length+ws.length<=sizeLine):cr (f8 prog w) A (ss .Add (.ref t) (.ref b)) Q E s:=by
 obtain⟨⟨cls,dd,data,sl⟩,ho,hc,n,hd⟩:=id ht;obtain⟨⟨Wt,Wq,data2,SS⟩,Li,Pg,n2,Õ⟩:=id hb;simp only at hc hd Pg Õ;subst hc hd Pg Õ;have e:vs.toArray++ws.toArray=(vs++ws).toArray:=by simp
 by_cases hw:ws=[]
 ·exact concat_meets ⟨_,ho,rfl⟩ ⟨_,Li,rfl⟩ noFill_tuple_add seq_tuple_add C5 CZ (CS _ _)
   (tuple_addW1 t b vs.toArray ws.toArray n n2 dd Wq sl SS (by simpa using hv) (by simp[hw])) ⟨ho,Li,h1 hw⟩
 ·refine concat_meets ⟨_,ho,rfl⟩ ⟨_,Li,rfl⟩ noFill_tuple_add seq_tuple_add C5 CZ (CS _ _)
   (tuple_addW2 t b vs.toArray ws.toArray n n2 dd Wq sl SS (by simpa using hv) (by simpa using hw) (by rw[Af,Af];exact hsz)) ⟨ho,Li,?_⟩
  rw[e];exact h2 hw
def cT(n d:Nat):Option Int->Nat
 | none=>d
 | some v=>if v < 0 then (v+(n:Int)).toNat else min v.toNat n
theorem FZ(v:Int)(n d:Nat):(if v < 0 then max (v+(n:Int)) 0 else min v (n:Int))=((cT n d (some v):Nat):Int):=by
 show(if v < 0 then max (v+(n:Int)) 0 else min v (n:Int))=(((if v < 0 then (v+(n:Int)).toNat else min v.toNat n):Nat):Int);by_cases hv:v < 0
 ·simp only[if_pos hv];omega
 ·simp only[if_neg hv];omega
theorem yR(lo hi:Option Int)(n:Nat):Builtin.Slice.sliceAdjust lo hi 1 (n:Int)=(((cT n 0 lo:Nat):Int),((cT n n hi:Nat):Int)):=by
 have h1:¬((1:Int) < 0):=by omega
 unfold Builtin.Slice.sliceAdjust;refine Prod.ext ?_ ?_
 ·cases lo with
  | none=>rfl
  | some v=>exact FZ v n 0
 ·cases hi with
  | none=>rfl
  | some v=>exact FZ v n n
theorem xu(i j:Nat):Builtin.Slice.slicePlaces (i:Int) (j:Int) 1=j-i:=by
 unfold Builtin.Slice.slicePlaces;have h1:(1:Int) > 0:=by omega
 split <;> omega
def og{o:Option Int}{Q:Option Int->db->Prop}(p:IsPart v o)(h:Q o s):cr (f8 prog w) A (Builtin.Slice.slicePartIndex v) Q E s:=by
 cases p with
 | none=>exact slicePart_none h
 | int i t=>exact slicePart_int h
def f7{sl:ci}{lo:Option Int}{Q:Int×Int×Nat->db->Prop}(hs:s.heap.IsSliceOf sl vl vu .none)(pl:IsPart vl lo)(pu:IsPart vu hi)
  (h:Q (((cT n 0 lo:Nat):Int),1,cT n n hi-cT n 0 lo) s):cr (f8 prog w) A (Builtin.Slice.sliceApplied (.ref sl) (pure (n:Int))) Q E s:=by
 obtain⟨os,vZ,JS,zS⟩:=id hs;refine Aa (Aa (AG vZ zS (x:=vl) rfl (Aa (AG vZ zS (x:=vu) rfl (Aa (AG vZ zS (x:=.none) rfl (Ae ?_)))))));refine Aa (slicePart_none ?_);refine Aa (og pl (Aa (og pu (Aa (Ae ?_)))));show cr _ _ (match Builtin.Slice.sliceAdjust lo hi 1 (n:Int) with | (lo,hi)=>pure (lo,(1:Int),Builtin.Slice.slicePlaces lo hi 1)) _ _ s;rw[yR lo hi n];show cr _ _ (pure (((cT n 0 lo:Nat):Int),(1:Int),Builtin.Slice.slicePlaces ((cT n 0 lo:Nat):Int) ((cT n n hi:Nat):Int) 1)) _ _ s;rw[xu];exact Ae h
theorem IH(xs:Array bn)(i k:Nat):((Av k).filterMap λ(m:Nat)=>xs[((i:Int)+(m:Int)*1).toNat]?).toArray=((xs.toList.drop i).take k).toArray:=by
 have e:(λ(m:Nat)=>xs[((i:Int)+(m:Int)*1).toNat]?)=λm=>xs[i+m]?:=by
  funext m;have:((i:Int)+(m:Int)*1).toNat=i+m:=by omega
  rw[this]
 rw[e];have:=pick_run xs i k;rw[List.filterMap_map]at this;have e2:((λx=>xs[x]?)∘λx=>i+x)=λm=>xs[i+m]?:=rfl;rw[e2]at this;rw[this]
theorem lB{t sl:ci}{lo:Option Int}(ht:IsTup s.heap t items)(hs:s.heap.IsSliceOf sl vl vu .none)(pl:IsPart vl lo)(pu:IsPart vu hi)
  (hw:¬(cT items.size 0 lo=0/\cT items.size items.size hi=items.size))
  (h:Q (.ref s.heap.objs.size) {s with heap:=s.heap.push {cls:=.type "tuple",data:=.seq ((items.toList.drop (cT items.size 0 lo)).take (cT items.size items.size hi-cT items.size 0 lo)).toArray}})
  (hsz:items.size<=sizeLine):cr (f8 prog w) A (FM (.ref t) (.ref sl)) Q E s:=by
 have zP:sizeOk (.seq ((items.toList.drop (cT items.size 0 lo)).take (cT items.size items.size hi-cT items.size 0 lo)).toArray):=by
  show((items.toList.drop (cT items.size 0 lo)).take (cT items.size items.size hi-cT items.size 0 lo)).toArray.size<=sizeLine;rw[Af,Cc,Dq,DS];omega
 obtain⟨os,vZ,JS,zS⟩:=id hs;have S6:s.TypeIs (.ref sl) "slice":=⟨os,vZ,JS⟩;unfold FM
 try with_reducible refine AX ?_
 first | refine Aa (Ae ?_) | skip
 refine Aa (Ef ht.typeIs ⋯ ?_);refine Aa (AI (name:=B8 "__getitem__") ht.typeIs Bg
  (A6 Bg ht.typeIs entry_tuple_getitem ?_ (args_tuple_getitem _ _)))
 show cr _ _ (Builtin.Tuple.tupleItemsOf (.ref t) >>= _) _ _ s;refine Aa (tupleItemsOf_ ht ?_);refine Aa (BQ S6 ?_);refine Aa (f7 hs pl pu ?_);have hno:¬((((cT items.size 0 lo:Nat):Int)==0&&(1:Int)==1&&(cT items.size items.size hi-cT items.size 0 lo)==items.size)=true):=by
  intro q;rw[AJ,AJ]at q;have q1:=eq_of_beq q.1.1;have q2:=eq_of_beq q.2;exact hw ⟨by omega,by omega⟩
 show cr _ _ (if (((cT items.size 0 lo:Nat):Int)==0&&(1:Int)==1&&(cT items.size items.size hi-cT items.size 0 lo)==items.size)=true then _ else _) _ _ s;rw[if_neg hno,IH]
 first
  | exact Aa (m:=Builtin.Tuple.tupleExact _) (Bl (Ae ⟨_,rfl,Ae h⟩) zP)
  | exact Aa (m:=Builtin.Tuple.tupleExact _) (Bl (Aa (Ae (Ae ⟨_,rfl,Ae h⟩))) zP)
  | exact Aa (Aa (m:=Builtin.Tuple.tupleExact _) (Bl (Ae (Ae ⟨_,rfl,Ae h⟩)) zP))
  | exact Aa (Aa (m:=Builtin.Tuple.tupleExact _) (Bl (Ae ⟨_,rfl,Ae h⟩) zP))
end
end HT
variable{ns:O Int}{p2:CJ}
namespace L2
abbrev TO:=St->Hp->(Option Int->Hp->Prop)->Prop
def PO(X:Cx)(e:Option im)(t:TO):Prop:=
 ∀(Z:O (ci×Obj)) (s:db) (σ:St) (H:Hp) (Q:Option Int->Hp->Prop),Inv X Z σ H s->t σ H Q->
  cr (f8 X.prog X.w) X.A (evalPart e X.env) (λu s'=>∃o H',Inv X Z σ H' s'/\IsPart u o/\Q o H') X.xe s
def LM:TO:=λ_ H Q=>Q bd H
def T7(t:TE):TO:=λσ H Q=>t σ H λx H1=>∃i,x=.int i/\Q (some i) H1
def intsAre_of:∀{us:O bn},Vals (ns.map V.int) us->IntsAre us ns:=by
 induction ns with
 | nil=>intro us r;rw[EL]at r;cases r;exact .nil
 | cons n ns ih=>
  intro us r;rw[Ar]at r;cases r with
  | cons r1 r2=>
   obtain⟨t,e⟩:=r1;subst e;exact .cons n t (ih r2)
section
variable{lo hi:Option im}{tl th:TO}{pos:Pos}
def Mh:PO X bd LM:=by
 intro Z s σ H Q I h;exact Ae ⟨bd,H,I,.none,h⟩
def Mg(h:PE X e te):PO X (some e) (T7 te):=by
 intro Z s σ H Q I hw;refine bh (h Z s σ H _ I hw) λu s1 ⟨x,H1,I1,r1,q1⟩=>?_;obtain⟨i,rfl,q⟩:=q1;obtain⟨t,rfl⟩:=r1;exact⟨some i,H1,I1,.int i t,q⟩
def WB(X:Cx)(r:V->Option Int->Option Int->Hp->VK->Prop):Prop:=
 ∀(Z:O (ci×Obj)) (s:db) (σ:St) (H:Hp) (x:V) (v vl vu:bn) (lo hi:Option Int) (sl:ci) (Q:VK),Inv X Z σ H s->RelV x v->s.heap.IsSliceOf sl vl vu .none->IsPart vl lo->IsPart vu hi->r x lo hi H Q->
  ∃T id,u8 (.type T) "__getitem__"=pure (some (.builtin id))/\s.TypeIs v T/\cr (f8 X.prog X.w) X.A (FM v (.ref sl)) (EP X Z σ Q) X.xe s
def tSl(r:V->Option Int->Option Int->Hp->VK->Prop)(te:TE)(tl th:TO):TE:=λσ H Q=>te σ H λx H1=>tl σ H1 λl H2=>th σ H2 λu H3=>r x l u H3 Q
def vo{r:V->Option Int->Option Int->Hp->VK->Prop}(hr:WB X r)(he:PE X e te)(hl:PO X lo tl)(hu:PO X hi th):PE X (.Subscript e (.Slice lo hi bd p2) pos) (tSl r te tl th):=by
 intro Z s σ H Q I h;refine Subscript_ (bh (he Z s σ H _ I h) λv s1 ⟨x,H1,I1,r1,q1⟩=>?_);refine wpAny_Slice (bh (hl Z s1 σ H1 _ I1 q1) λvl s2 ⟨l,H2,I2,pl,q2⟩=>bh (hu Z s2 σ H2 _ I2 q2) λvu s3 ⟨u,H3,I3,pu,q3⟩=>?_);rw[evalPart_none];refine Ae ?_;have I4:Inv X Z σ H3 {s3 with heap:=s3.heap.push {cls:=.type "slice",data:=.fields #[vl,vu,.none]}}:=I3.kept (t':=s3.toks) λb ob q=>Ai _ q;obtain⟨T,id,hT,ht,hg⟩:=hr Z {s3 with heap:=s3.heap.push {cls:=.type "slice",data:=.fields #[vl,vu,.none]}} σ H3 x v vl vu l u s3.heap.objs.size Q I4 r1 (Heap.IsSliceOf.new ..) pl pu q3;show cr (f8 X.prog X.w) X.A (subscriptTail e (.Slice lo hi bd p2) v (.ref s3.heap.objs.size)) (EP X Z σ Q) X.xe {s3 with heap:=s3.heap.push {cls:=.type "slice",data:=.fields #[vl,vu,.none]}};exact tail_any (ops:=[.ref s3.heap.objs.size,v]) ht hT hg (by with_unfolding_all rfl)
def ue(xs:O V)(lo hi:Option Int):O V:=(xs.drop (HT.cT xs.length 0 lo)).take (HT.cT xs.length xs.length hi-HT.cT xs.length 0 lo)
theorem m8(xs:O V)(lo hi:Option Int):(ue xs lo hi).length<=xs.length:=by
 unfold ue;rw[Cc,Dq];omega
def Yy(K:Ab):V->Option Int->Option Int->Hp->VK->Prop:=λx lo hi H Q=>∃a xs,x=.ref a/\cS K H a xs/\
 ¬(HT.cT xs.length 0 lo=0/\HT.cT xs.length xs.length hi=xs.length)/\∀p,H p=bd->Q (.ref p) (upd H p (.tup (ue xs lo hi)))
def Qg:WB X (Yy X.K):=by
 intro Z s σ H x v vl vu lo hi sl Q I rx hs pl pu h;obtain⟨a,xs,rfl,hx,hw,q⟩:=h;cases rx;obtain⟨aj,r,ht,hz⟩:=I.tuple hx;have Â:aj.toArray.size=xs.length:=by rw[Af];exact r.length.symm
 refine⟨"tuple",_,Bg.lookup,ht.typeIs,?_⟩;refine HT.lB ht hs pl pu (by rw[Â];exact hw) ?_ (by rw[Â];exact hz);rw[Â];refine⟨.ref s.heap.objs.size,_,I.laid (t':=s.toks) (o:=.tup (ue xs lo hi)) (λb ob q=>Ai _ q) (Ao _) ?_,rfl,q _ (I.aY.fresh (Ao _))⟩;exact⟨AQ (m8 xs lo hi) hz,_,(r.drop (HT.cT xs.length 0 lo)).take (HT.cT xs.length xs.length hi-HT.cT xs.length 0 lo),IsTup.new _ _⟩
def OM(K:Ab):R2:=λx y H Q=>∃a b xs ys,x=.ref a/\y=.ref b/\cS K H a xs/\cS K H b ys/\xs≠[]/\xs.length+ys.length<=sizeLine/\
 (ys=[]->Q (.ref a) H)/\(ys≠[]->∀p,H p=bd->Q (.ref p) (upd H p (.tup (xs++ys))))
def Vals.gP(r:Vals xs us):us=[]↔xs=[]:=by
 cases r with
 | nil=>simp
 | cons _ _=>simp
def zA:gF X (ss .Add) (OM X.K):=by
 intro Z s σ H x y v u Q I rx ry h;obtain⟨a,b,xs,ys,rfl,rfl,ha,hb,hx,hz,q1,q2⟩:=h;cases rx;cases ry;obtain⟨aj,r1,p1,_⟩:=I.tuple ha;obtain⟨bj,r2,p2,_⟩:=I.tuple hb;refine HT.N6 p1 p2 (λz=>hx (r1.gP.mp z)) (λz=>⟨.ref a,H,I,rfl,q1 (r2.gP.mp z)⟩) (λz=>?_) (by rw[<- r1.length,<- r2.length];exact hz);refine⟨.ref s.heap.objs.size,_,I.laid (t':=s.toks) (o:=.tup (xs++ys)) (λb ob q=>Ai _ q) (Ao _) ?_,rfl,q2 (λw=>z (r2.gP.mpr w)) _ (I.aY.fresh (Ao _))⟩;exact⟨by rw[Ah];exact hz,_,r1.append r2,IsTup.new _ _⟩
end
end L2
variable{its':O A4}
namespace L2
def uJ(n:Nat)(i:Int):Option Nat:=if 0<=i then (if i < n then some i.toNat else bd) else if -(n:Int)<=i then some (i+n).toNat else bd
def df(xs:List α)(i:Int):Option α:=(uJ xs.length i).bind λj=>xs[j]?
theorem zJ(h:uJ n i=some j):seqIndex? i n=some j/\j < n/\-(n:Int)<=i/\i < n:=by
 unfold uJ at h;by_cases h0:0<=i
 ·rw[if_pos h0]at h;by_cases h1:i < n
  ·rw[if_pos h1]at h;have e:=Option.some.inj h;exact⟨by rw[seqIndex_of h0 h1,e],by omega,by omega,h1⟩
  ·rw[if_neg h1]at h;cases h
 ·rw[if_neg h0]at h;by_cases h1:-(n:Int)<=i
  ·rw[if_pos h1]at h;have e:=Option.some.inj h;exact⟨by rw[seqIndex_neg ∅ h1,e],by omega,h1,by omega⟩
  ·rw[if_neg h1]at h;cases h
def uq{xs:List α}{v:α}(h:df xs i=some v):∃j,seqIndex? i xs.length=some j/\xs[j]?=some v/\j < xs.length/\-(xs.length:Int)<=i/\i < xs.length:=by
 unfold df at h;cases e:uJ xs.length i with
 | none=>rw[e]at h;cases h
 | some j=>
  rw[e]at h;obtain⟨h1,h2,h3,h4⟩:=zJ e;exact⟨j,h1,h,h2,h3,h4⟩
theorem eN{xs:List α}{v:α}(h:xs[j]?=some v):df xs (j:Int)=some v:=by
 have hj:=(Al.mp h).1;have e:uJ xs.length (j:Int)=some j:=by
  unfold uJ;rw[if_pos ∅,if_pos ∅];simp
 unfold df;rw[e];exact h
def uE(b:im):Prop:=∀o i,subscripted b false o i=operate [o,i] (FM o i)
def Ln(X:Cx)(r:R2):Prop:=
 ∀(value slice:im) (Z:O (ci×Obj)) (s:db) (σ:St) (H:Hp) (x y:V) (v u:bn) (Q:VK),Inv X Z σ H s->RelV x v->RelV y u->r x y H Q->
  subscripted slice false v u=operate [v,u] (FM v u)->cr (f8 X.prog X.w) X.A (subscriptTail value slice v u) (EP X Z σ Q) X.xe s
def XW(X:Cx)(id:String)(r:V->O V->Hp->VK->Prop):Prop:=
 ∀(Z:O (ci×Obj)) (s:db) (σ:St) (H:Hp) (x:V) (xs:O V) (v:bn) (us:O bn) (Q:VK),Inv X Z σ H s->RelV x v->Vals xs us->r x xs H Q->
  cr (f8 X.prog X.w) X.A (call (.builtin id) (v::us)) (EP X Z σ Q) X.xe s
section
variable{X:Cx}{a b:im}{ta tb:TE}{pos:Pos}
def Ln.or{r r':R2}(h:Ln X r)(h':Ln X r'):Ln X (λx y H Q=>r x y H Q\/r' x y H Q):=by
 intro value slice Z s σ H x y v u Q I rx ry q hs;rcases q with q | q
 ·exact h value slice Z s σ H x y v u Q I rx ry q hs
 ·exact h' value slice Z s σ H x y v u Q I rx ry q hs
def OO{r:R2}(hr:Ln X r)(ha:PE X a ta)(hb:PE X b tb)(hs:uE b):PE X (.Subscript a b pos) (OC r ta tb):=by
 intro Z s σ H Q I h;exact Subscript_ (Su ha hb I h λv u s2 x y H2 I2 rx ry q=>hr a b Z s2 σ H2 x y v u Q I2 rx ry q (hs _ _))
def UD(K:Ab):R2:=λx y H Q=>∃p xs i v,x=.ref p/\y=.int i/\b9 K H p xs/\df xs i=some v/\Q v H
def UC(K:Ab):R2:=λx y H Q=>∃p xs i v,x=.ref p/\y=.int i/\cS K H p xs/\df xs i=some v/\Q v H
def Qu:R2:=λx y H Q=>∃z i c,x=.str z/\y=.int i/\z.length<=sizeLine/\df z.cps.toList i=some c/\Q (.str ⟨#[c]⟩) H
theorem Nj:Ln X (UD X.K):=by
 intro value slice Z s σ H x y v u Q I rx ry h hs;obtain⟨p,xs,i,z,rfl,rfl,hq,he,q⟩:=h;cases rx;obtain⟨t,rfl⟩:=ry;obtain⟨aj,r,pl,hz⟩:=I.list hq;obtain⟨j,h1,h2,h3,h4,h5⟩:=uq he;obtain⟨w,ew,ve⟩:=r.get h2;have hl:=r.length;have hn:=sR;have Á:EP X Z σ Q w s:=⟨z,H,I,ve,q⟩;by_cases h0:0<=i
 ·have hj:i.toNat=j:=by
   rw[seqIndex_of h0 h5]at h1;exact Option.some.inj h1
  exact item_listR pl.isList h0 ∅ (by rw[hj];simpa using ew) Á hs
 ·have hj:(i+(aj.toArray.size:Int)).toNat=j:=by
   rw[seqIndex_neg ∅ h4]at h1;rw[Af,<- hl];exact Option.some.inj h1
  exact subscriptTail_builtinR (x:=w) pl.isList.typeIs slot_list_getitem.lookup
   (wpAny_getItem_list_neg (Q:=λr s'=>r=w/\EP X Z σ Q r s') pl.isList ∅ (by rw[Af] <;> omega) ∅ (by rw[hj];simpa using ew) ⟨rfl,Á⟩) hs
theorem Ru:Ln X (UC X.K):=by
 intro value slice Z s σ H x y v u Q I rx ry h hs;obtain⟨p,xs,i,z,rfl,rfl,hq,he,q⟩:=h;cases rx;obtain⟨t,rfl⟩:=ry;obtain⟨aj,r,pl,hz⟩:=I.tuple hq;obtain⟨j,h1,h2,h3,h4,h5⟩:=uq he;obtain⟨w,ew,ve⟩:=r.get h2;have hl:=r.length;have hn:=sR;have Á:EP X Z σ Q w s:=⟨z,H,I,ve,q⟩;exact subscriptTail_builtinR (x:=w) pl.typeIs slot_tuple_getitem.lookup
  (getItem_tuple (j:=j) (Q:=λr s'=>r=w/\EP X Z σ Q r s') pl ∅ ∅ (by rw[Af,<- hl];exact h1) (by simpa using ew) ⟨rfl,Á⟩) hs
theorem JD:Ln X Qu:=by
 intro value slice Z s σ H x y v u Q I rx ry h hs;obtain⟨z,i,c,rfl,rfl,hz,he,q⟩:=h;obtain⟨t,rfl⟩:=rx;obtain⟨t',rfl⟩:=ry;obtain⟨j,h1,h2,h3,h4,h5⟩:=uq he;have hl:z.cps.toList.length=z.length:=by simp[Str.length]
 rw[hl]at h1 h4 h5;have hn:=sR;exact tail_any (typeIs_str s z t) slot_str_getitem.lookup (getItem_str (c:=c) (by
  have e1:decide (i < -(2 ^ 63:Int))=false:=decide_eq_false ∅;have e2:decide (i≥2 ^ 63)=false:=decide_eq_false ∅;rw[e1,e2,Bool.or_false]) (by rw[h1];simpa using h2) ⟨.str ⟨#[c]⟩,H,I.tok _,⟨_,rfl⟩,q⟩) hs
def rIx(K:Ab):R2:=λx y H Q=>UD K x y H Q\/UC K x y H Q\/Qu x y H Q
def Rv:Ln X (rIx X.K):=Nj.or (Ru.or JD)
def xN(aj:O bn)(n j:Nat)(u:bn):Ck (·.setIfInBounds j u) {cls:=.type "list",data:=.seq aj.toArray n}={cls:=.type "list",data:=.seq (aj.set j u).toArray n}:=by
 simp[Ck]
def Inv.lst{Z:O (ci×Obj)}{σ:St}{H:Hp}{s:db}{p:ci}{xs:O V}(I:Inv X Z σ H s)(h:H p=some (.lst xs)) :
  ∃(aj:O bn) (n:Nat),Vals xs aj/\s.heap.get? p=some {cls:=.type "list",data:=.seq aj.toArray n}/\xs.length<=sizeLine:=by
 obtain⟨z,aj,n,r,e⟩:=I.aY p _ h;exact⟨aj,n,r,e,z⟩
def Inv.Rg{p:ci}{n':Nat}{f:Obj->Obj}(I:Inv X Z σ H s)(h:H p=some (.lst xs))
  (ho:s.heap.get? p=some {cls:=.type "list",data:=.seq aj.toArray n}) (hf:f {cls:=.type "list",data:=.seq aj.toArray n}={cls:=.type "list",data:=.seq its'.toArray n'}) (r:Vals ys its') (hz:ys.length<=sizeLine) (t:Nat) :
  Inv X Z σ (upd H p (.lst ys)) {s with heap:=s.heap.update p f,toks:=t}:=by
 have e:(s.heap.update p f).get? p=some {cls:=.type "list",data:=.seq its'.toArray n'}:=by
  rw[Cv f ho (by rw[hf] <;> rfl),hf]
 refine I.write (x:=p) (e:=p) (by rw[h];trivial) (.inl rfl) (λb u hb q=>(C4 _ _ (BD hb)).trans q) ⟨_,e⟩ ?_;exact⟨hz,its',n',r,e⟩
def UA:V->V->V->Hp->(Hp->Prop)->Prop:=λo i v H Q=>∃p xs k j,o=.ref p/\i=.int k/\H p=some (.lst xs)/\uJ xs.length k=some j/\Q (upd H p (.lst (xs.set j v)))
theorem set_list:yX X UA:=by
 intro Z s σ H o i v ov iv u Q I ro ri rv h;obtain⟨p,xs,k,j,rfl,rfl,hp,hj,q⟩:=h;cases ro;obtain⟨t,rfl⟩:=ri;obtain⟨aj,n,r,ho,hz⟩:=I.lst hp;obtain⟨h1,h2,h3,h4⟩:=zJ hj;have hl:=r.length;have hn:=sR;have I':Inv X Z σ (upd H p (.lst (xs.set j v))) {s with heap:=s.heap.update p (Ck (·.setIfInBounds j u))}:=
  I.Rg hp ho (xN aj n j u) (r.set rv j) (by rw[B5];exact hz) s.toks
 by_cases h0:0<=k
 ·have hk:k.toNat=j:=by
   rw[seqIndex_of h0 h4]at h1;exact Option.some.inj h1
  exact PySem.W.ki_setAt ho h0 ∅ (by rw[Af,<- hl];exact h4) (by rw[hk];exact⟨_,I',q⟩)
 ·have hk:(k+(aj.toArray.size:Int)).toNat=j:=by
   rw[seqIndex_neg ∅ h3]at h1;rw[Af,<- hl];exact Option.some.inj h1
  exact PySem.W.ki_setBack ho ∅ (by rw[Af,<- hl];exact h3) ∅ (by rw[hk];exact⟨_,I',q⟩)
theorem rV(lo hi:Option Int)(n:Nat):(v4 lo hi bd n).1=((HT.cT n 0 lo:Nat):Int)/\(v4 lo hi bd n).2.1=((HT.cT n n hi:Nat):Int)/\(v4 lo hi bd n).2.2=1:=by
 refine⟨?_,?_,rfl⟩
 ·cases lo with
  | none=>simp[v4,HT.cT]
  | some i=>
   simp only[v4,HT.cT,Et,show(1:Int) > 0 by decide,if_true];by_cases h:i < 0
   ·simp only[h,if_true] <;> omega
   ·simp only[h,if_false] <;> omega
 ·cases hi with
  | none=>simp[v4,HT.cT]
  | some i=>
   simp only[v4,HT.cT,Et,show(1:Int) > 0 by decide,if_true];by_cases h:i < 0
   ·simp only[h,if_true] <;> omega
   ·simp only[h,if_false] <;> omega
def pV(aj:O bn)(lo hi:Option Int):slicePick aj.toArray lo hi bd=((aj.drop (HT.cT aj.length 0 lo)).take (HT.cT aj.length aj.length hi-HT.cT aj.length 0 lo)).toArray:=by
 obtain⟨h1,h2,h3⟩:=rV lo hi aj.toArray.size;unfold slicePick;rw[h1,h2,h3];simp only[sliceRange_one,pick_run,Af] <;> rfl
def YA(K:Ab):V->Option Int->Option Int->Hp->VK->Prop:=λx lo hi H Q=>∃a xs,x=.ref a/\b9 K H a xs/\∀p,H p=bd->Q (.ref p) (upd H p (.lst (ue xs lo hi)))
theorem WY:WB X (YA X.K):=by
 intro Z s σ H x v vl vu lo hi sl Q I rx hs pl pu h;obtain⟨a,xs,rfl,hx,q⟩:=h;cases rx;obtain⟨aj,r,ht,hz⟩:=I.list hx;have Â:=r.length;refine⟨"list",_,slot_list_getitem.lookup,ht.isList.typeIs,?_⟩;refine wpAny_getItem_list_slice ht.isList hs pl pu .none (by simp) ?_ (by rw[Af] <;> omega);rw[pV,<- Â];refine⟨.ref s.heap.objs.size,_,I.laid (t':=s.toks) (o:=.lst (ue xs lo hi)) (λb ob q=>Ai _ q) (Ao _) ?_,rfl,q _ (I.aY.fresh (Ao _))⟩;exact⟨AQ (m8 xs lo hi) hz,_,0,(r.drop (HT.cT xs.length 0 lo)).take (HT.cT xs.length xs.length hi-HT.cT xs.length 0 lo),Ap _ rfl⟩
theorem uf:bt X (.type "list") (λxs H Q=>∃p ys,xs=[.ref p]/\(b9 X.K H p ys\/cS X.K H p ys)/\∀l,H l=bd->Q (.ref l) (upd H l (.lst ys))):=by
 intro Z s σ H xs us Q I r h;obtain⟨p,ys,rfl,hq,q⟩:=h;obtain⟨u,rfl,rx⟩:=vals1 r;cases rx;have Á:∀(aj:O bn),Vals ys aj->ys.length<=sizeLine->∀(h':lw) (c':Nat),(∀b o',s.heap.get? b=some o'->h'.get? b=some o')->
   h'.get? s.heap.objs.size=some {cls:=.type "list",dict:=bd,data:=.seq aj.toArray c',slots:=#[]}->EP X Z σ Q (.ref s.heap.objs.size) {s with heap:=h'}:=λaj r' hz h' c' kp e=>
  ⟨.ref s.heap.objs.size,_,I.laid (t':=s.toks) kp (Ao _) (show aR X.prog X.w _ h' _ (.lst ys) from⟨hz,aj,c',r',e⟩),rfl,q _ (I.aY.fresh (Ao _))⟩
 rcases hq with hq | hq
 ·obtain⟨aj,r',pl,hz⟩:=I.list hq;have Â:=r'.length;obtain⟨o,ho,hc,n,hd⟩:=pl.isList;exact call_list_seq p (.inl rfl) ho hc hd (λh' c' kp e=>Á aj r' hz h' c' kp e) (by simp only[Af] <;> omega)
 ·obtain⟨aj,r',pl,hz⟩:=I.tuple hq;have Â:=r'.length;obtain⟨o,ho,hc,n,hd⟩:=pl;exact call_list_seq p (.inr rfl) ho hc hd (λh' c' kp e=>Á aj r' hz h' c' kp e) (by simp only[Af] <;> omega)
theorem qr:bt X (.type "tuple") (λxs H Q=>∃p ys,xs=[.ref p]/\((b9 X.K H p ys/\∀l,H l=bd->Q (.ref l) (upd H l (.tup ys)))\/(cS X.K H p ys/\Q (.ref p) H))):=by
 intro Z s σ H xs us Q I r h;obtain⟨p,ys,rfl,h⟩:=h;obtain⟨u,rfl,rx⟩:=vals1 r;cases rx;rcases h with⟨hq,q⟩ | ⟨hq,q⟩
 ·obtain⟨aj,r',pl,hz⟩:=I.list hq;have Â:=r'.length;refine call_tuple_list pl.isList (λh' kp=>?_) (by simp only[Af] <;> omega);have I1:Inv X Z σ H {s with heap:=h'}:=I.kept (t':=s.toks) kp;have I2:Inv X Z σ (upd H h'.objs.size (.tup ys)) {s with heap:=h'.push {cls:=.type "tuple",data:=.seq aj.toArray}}:=
   I1.laid (t':=s.toks) (λb o e=>Ai _ e) (Ao _) (show aR X.prog X.w _ _ _ (.tup ys) from⟨hz,aj,r',IsTup.new _ _⟩)
  exact⟨.ref h'.objs.size,_,I2,rfl,q _ (I1.aY.fresh (Ao _))⟩
 ·obtain⟨aj,r',pl,hz⟩:=I.tuple hq;exact call_tuple_same pl ⟨.ref p,H,I,rfl,q⟩
def X4(K:Ab)(T:String)(x:V)(H:Hp):Prop:=match x with
 | .str _=>T="str"
 | .int _=>T="int"
 | .ref p=>(T="list"/\∃xs,b9 K H p xs)\/(T="tuple"/\∃o,K.lookup p=some o/\o.cls=.type "tuple"/\o.dict=bd)\/
   (T="dict"/\((∃kvs,H p=some (.dK kvs))\/∃kvs,H p=some (.dT kvs)))\/(T="set"/\∃S n,H p=some (.set S n))
 | _=>False
def HV{x:V}(I:Inv X Z σ H s)(r:RelV x v)(ty:X4 X.K T x H) :
  s.TypeIs v T/\∀a,v=.ref a->∃ob,s.heap.get? a=some ob/\ob.dict=bd:=by
 cases x with
 | str z=>
  obtain⟨t,rfl⟩:=r;cases (show T="str" from ty);exact⟨typeIs_str s z t,λ_ e=>nomatch e⟩
 | int i=>
  obtain⟨t,rfl⟩:=r;cases (show T="int" from ty);exact⟨typeIs_int s i t,λ_ e=>nomatch e⟩
 | ref p=>
  cases r;rcases ty with⟨rfl,xs,hq⟩ | ⟨rfl,o,hk,hc,hd⟩ | ⟨rfl,hk⟩ | ⟨rfl,S,n,hk⟩
  ·obtain⟨aj,_,pl,_⟩:=I.list hq;refine⟨pl.isList.typeIs,λa e=>?_⟩;cases e;obtain⟨o,n,e,c,hd,_⟩:=pl;exact⟨o,e,hd⟩
  ·refine⟨⟨o,I.qU p o hk,hc⟩,λa e=>?_⟩;cases e;exact⟨o,I.qU _ o hk,hd⟩
  ·have z:∃o,s.heap.get? p=some o/\o.ExactDict:=by
    rcases hk with⟨kvs,hk⟩ | ⟨kvs,hk⟩
    ·obtain⟨_,_,_,_,o,_,_,e,ex,_⟩:=I.aY p _ hk;exact⟨o,e,ex⟩
    ·obtain⟨_,_,_,_,o,_,_,e,ex,_⟩:=I.aY p _ hk;exact⟨o,e,ex⟩
   obtain⟨o,e,ex⟩:=z;refine⟨⟨o,e,ex.1⟩,λa e2=>?_⟩;cases e2;exact⟨o,e,ex.2.1⟩
  ·obtain⟨o,_,_,_,e,ex,_⟩:=I.aY p _ hk;refine⟨⟨o,e,ex.1⟩,λa e2=>?_⟩;cases e2;exact⟨o,e,ex.2.1⟩
 | _=>exact Bn ty
def Ui(K:Ab)(T:String)(r:V->O V->Hp->VK->Prop)(to:TE):TE:=λσ H Q=>to σ H λx H1=>X4 K T x H1/\r x [] H1 Q
def tBM(K:Ab)(T:String)(r:V->O V->Hp->VK->Prop)(to:TE)(t:TA):TE:=λσ H Q=>to σ H λx H1=>X4 K T x H1/\t σ H1 λxs H2=>r x xs H2 Q
variable{o e:im}{es:O im}{to:TE}{t:TA}{name:Str}{Ã bE:Pos}{T id:String}{r:V->O V->Hp->VK->Prop}
def QM(pa:PlainAttrs T)(slot:Slot T name id)(RG:typeOf (.builtin id)=pure (.type "method_descriptor"))(hm:XW X id r)(ho:PE X o to)
  (dX:r6 o name X.env (kt o X.env)=kt o X.env:=by rfl) (dW:Lq Ã bE:=by rfl):PE X (.Call (.Attribute o name Ã) [] [] bE) (Ui X.K T r to):=by
 intro Z s σ H Q I h;refine wpAny_Call_method0_late dX dW (bh (ho Z s σ H _ I h) λv s1 ⟨x,H1,I1,r1,ty,q1⟩=>?_);obtain⟨h1,h2⟩:=HV I1 r1 ty;exact⟨T,id,pa,slot,RG,h1,h2,C7 rfl (PySem.evalArgs_none (hm Z s1 σ H1 x [] v [] Q I1 r1 .nil q1))⟩
def US(pa:PlainAttrs T)(slot:Slot T name id)(RG:typeOf (.builtin id)=pure (.type "method_descriptor"))(hm:XW X id r)(ho:PE X o to)(ha:PA X (e::es) t)
  (dX:r6 o name X.env (kt o X.env)=kt o X.env:=by rfl)
  (o7:Tq X bE (e::es):=by rfl)
  (dW:Lq Ã bE:=by rfl) (hs:fX X e es:=by rfl) (fe:kJ X bE es:=by rfl) :
  PE X (.Call (.Attribute o name Ã) (e::es) [] bE) (tBM X.K T r to t):=by
 intro Z s σ H Q I h;refine wpAny_Call_method_late dX o7 dW rfl (bh (ho Z s σ H _ I h) λv s1 ⟨x,H1,I1,r1,ty,q1⟩=>?_);obtain⟨h1,h2⟩:=HV I1 r1 ty;refine⟨T,id,pa,slot,RG,h1,h2,?_⟩;have hA:=ha bE Z s1 σ H1 _ I1 q1;rw[hs]at hA ⊢;refine C7 (by show(false||(wP bE (ga es X.env)).any (·.1))=false;rw[fe] <;> rfl) (Fb ?_);exact bh hA λus s2 ⟨vs,H2,I2,r2,q2⟩=>hm Z s2 σ H2 x vs v us Q I2 r1 r2 q2
end
end L2
variable{l:BA}
namespace L2
def Hy(X:Cx)(id:String)(r:V->O V->Hp->VK->Prop):Prop:=
 ∀(Z:O (ci×Obj)) (s:db) (σ:St) (H:Hp) (x:V) (xs:O V) (v:bn) (us:O bn) (Q:VK),Inv X Z σ H s->RelV x v->Vals xs us->r x xs H Q->
  cr (f8 X.prog X.w) X.A (call (.builtin id) (v::us)) (EP X Z σ Q) X.xe s
def Vals.one:∀{x:V}{us:O bn},Vals [x] us->∃u,us=[u]/\RelV x u
 | _,_,.cons r .nil=>⟨_,rfl,r⟩
def Vals.zero:∀{us:O bn},Vals [] us->us=[]
 | _,.nil=>rfl
def Vals.dropLast(h:Vals xs us):Vals xs.dropLast us.dropLast:=by
 induction h with
 | nil=>exact .nil
 | cons r t ih=>
  cases t with
  | nil=>exact .nil
  | cons q t'=>exact .cons r ih
theorem Vals.rep(h:Vals xs us):∀k:Nat,Vals (Ak k xs).flatten (Ak k us).flatten
 | 0=>.nil
 | k+1=>by
  rw[Bv,Bv,B1,B1];exact Vals.append h (Vals.rep h k)
theorem yn(l:List α):l.eraseIdx (l.length-1)=l.dropLast:=by
 induction l with
 | nil=>rfl
 | cons a r ih=>
  cases r with
  | nil=>rfl
  | cons b r=>
   have e:(a::b::r).length-1=((b::r).length-1)+1:=by
    have h1:(a::b::r).length=r.length+2:=rfl;have h2:(b::r).length=r.length+1:=rfl;omega
   rw[e,List.eraseIdx_cons_succ,ih]
   all_goals rfl
theorem foldl_rep(aj:O bn):∀(k:Nat) (acc:O bn),
  List.foldl (λx1 x2=>x1++x2) acc.toArray (Ak k aj.toArray)=(acc++(Ak k aj).flatten).toArray
 | 0,acc=>by simp
 | k+1,acc=>by
  have e:acc.toArray++aj.toArray=(acc++aj).toArray:=by simp
  have e2:(acc++aj)++(Ak k aj).flatten=acc++(Ak (k+1) aj).flatten:=by
   rw[Bv,B1,Bc]
  rw[<- e2,<- foldl_rep aj k (acc++aj),<- e,Bv,List.foldl_cons]
section
def Inv.xO{f:Array bn->Array bn}{t':Nat}(I:Inv X Z σ H s)(hH:H l=some (.lst xs))
  (e:s.heap.get? l=some {cls:=.type "list",data:=.seq aj.toArray n}) (hf:f aj.toArray=its'.toArray) (hv:Vals ys its') (hz:ys.length<=sizeLine) :
  Inv X Z σ (upd H l (.lst ys)) {s with heap:=s.heap.update l (Ck f),toks:=t'}:=by
 have q:=PySem.IsL.update e f;rw[hf]at q;refine I.write (x:=l) (e:=l) (by rw[hH];exact trivial) (.inl rfl) (λb' u hb hu=>(C4 s.heap (Ck f) (BD hb)).trans hu) ⟨_,q⟩ ?_;exact⟨hz,its',_,hv,q⟩
def Inv.Rh{t':Nat}(I:Inv X Z σ H s)(hv:Vals ys aj)(hz:ys.length<=sizeLine) :
  Inv X Z σ (upd H s.heap.objs.size (.lst ys)) {s with heap:=s.heap.push {cls:=.type "list",data:=.seq aj.toArray},toks:=t'}:=
 I.laid (λ_ _ q=>Ai _ q) (Ao _) ⟨hz,aj,0,hv,Ap _ rfl⟩
def Inv.fresh(I:Inv X Z σ H s):H s.heap.objs.size=bd:=I.aY.fresh (Ao _)
def Inv.mm(I:Inv X Z σ H s)(hH:H l=some (.lst xs)):xs.length<=sizeLine/\∃(aj:O bn) (n:Nat),Vals xs aj/\xs.length=aj.length/\s.heap.get? l=some {cls:=.type "list",data:=.seq aj.toArray n}:=by
 obtain⟨z,aj,n,r,e⟩:=I.aY l _ hH;exact⟨z,aj,n,r,r.length,e⟩
theorem gh(h:n<=sizeLine):Builtin.List.listTooLong n=false:=by
 exact decide_eq_false ∅
end
section
def L9:V->O V->Hp->VK->Prop:=λx vs H Q=>∃l xs y,x=.ref l/\vs=[y]/\H l=some (.lst xs)/\xs.length < sizeLine/\Q .aK (upd H l (.lst (xs++[y])))
theorem GD:Hy X "list.append" L9:=by
 intro Z s σ H x vs v us Q I rx rv h;obtain⟨l,xs,y,rfl,rfl,hH,hz,q⟩:=h;cases rx;obtain⟨u,rfl,ru⟩:=rv.one;obtain⟨z,aj,n,r,hl,e⟩:=I.mm hH;refine t0 F.slot_list_append ⟨_,e,rfl⟩ F.entry_list_append (F.args_list_append_2 _ _) (PySem.list_append l aj.toArray n u (by rw[Af];omega)) ⟨e,?_⟩;refine⟨.aK,_,I.xO (its':=aj++[u]) hH e (by simp) (r.append (.cons ru .nil)) ?_,rfl,q⟩;rw[Ah,EY];omega
def L7:V->O V->Hp->VK->Prop:=λx vs H Q=>∃l b xs zs,x=.ref l/\vs=[.ref b]/\H l=some (.lst xs)/\H b=some (.lst zs)/\xs.length+zs.length<=sizeLine/\Q .aK (upd H l (.lst (xs++zs)))
theorem SV:Hy X "list.extend" L7:=by
 intro Z s σ H x vs v us Q I rx rv h;obtain⟨l,b,xs,zs,rfl,rfl,hH,hB,hz,q⟩:=h;cases rx;obtain⟨u,rfl,ru⟩:=rv.one;cases ru;obtain⟨z,aj,n,r,hl,e⟩:=I.mm hH;obtain⟨z2,bj,n2,r2,Lj,e2⟩:=I.mm hB;have hsz:aj.toArray.size+bj.toArray.size<=sizeLine:=by rw[Af,Af];omega
 have o6:¬(!aj.toArray.isEmpty&&Builtin.List.listTooLong (aj.toArray.size+bj.toArray.size))=true:=by
  rw[gh hsz,Cp];exact A2
 refine t0 D3 ⟨_,e,rfl⟩ DQ (Dv _ _)
  (AutoSeq1.list_extend_list_list_0 l aj.toArray n b bj.toArray n2 o6 (by rw[Af];omega) ∅) ⟨e,e2,?_⟩
 refine⟨.aK,_,I.xO (its':=aj++bj) hH e (by simp) (r.append r2) ?_,rfl,q⟩;rw[Ah];omega
def YC:V->O V->Hp->VK->Prop:=λx vs H Q=>∃l xs y,x=.ref l/\vs=[]/\H l=some (.lst xs)/\xs[xs.length-1]?=some y/\Q y (upd H l (.lst xs.dropLast))
theorem Q9:Hy X "list.pop" YC:=by
 intro Z s σ H x vs v us Q I rx rv h;obtain⟨l,xs,y,rfl,rfl,hH,hy,q⟩:=h;cases rx;have hus:=rv.zero;subst hus;obtain⟨z,aj,n,r,hl,e⟩:=I.mm hH;obtain⟨u,hu,ru⟩:=r.get hy;have RC:aj.toArray[aj.toArray.size-1]?=some u:=by
  show aj.toArray[aj.length-1]?=some u;rw[<- E6,<- hl];exact hu
 refine t0 F.slot_list_pop ⟨_,e,rfl⟩ F.entry_list_pop (F.args_list_pop_1 _) (MeetsSeq.list_pop_last l aj.toArray n u RC (by rw[Af];omega)) ⟨e,?_⟩;refine⟨y,_,I.xO (its':=aj.dropLast) hH e ?_ r.dropLast ?_,ru,q⟩
 ·rw[Af,List.eraseIdxIfInBounds_toArray,yn]
 ·rw[List.length_dropLast];omega
def YD:R2:=λx y H Q=>∃l b xs zs,x=.ref l/\y=.ref b/\H l=some (.lst xs)/\H b=some (.lst zs)/\xs.length+zs.length<=sizeLine/\∀p,H p=bd->Q (.ref p) (upd H p (.lst (xs++zs)))
theorem QZ:gF X (ss .Add) YD:=by
 intro Z s σ H x y v u Q I rx ry h;obtain⟨l,b,xs,zs,rfl,rfl,hH,hB,hz,q⟩:=h;cases rx;cases ry;obtain⟨z,aj,n,r,hl,e⟩:=I.mm hH;obtain⟨z2,bj,n2,r2,Lj,e2⟩:=I.mm hB;refine PySem.P.add_list e e2 ?_ (by rw[Af,Af];omega);have ea:aj.toArray++bj.toArray=(aj++bj).toArray:=by simp
 rw[ea];exact⟨.ref _,_,I.Rh (t':=s.toks) (r.append r2) (by rw[Ah];omega),rfl,q _ I.fresh⟩
def YB:R2:=λx y H Q=>∃l k xs,x=.ref l/\y=.int k/\H l=some (.lst xs)/\-(2 ^ 63)<=k/\k < 2 ^ 63/\xs.length*k.toNat<=sizeLine/\
 ∀p,H p=bd->Q (.ref p) (upd H p (.lst (Ak k.toNat xs).flatten))
def len_rep(xs:List α)(k:Nat):(Ak k xs).flatten.length=k*xs.length:=by
 induction k with
 | zero=>simp
 | succ k ih=>rw[Bv,B1,Ah,ih,Fy,Nat.add_comm]
theorem QS:gF X (ss .Mult) YB:=by
 intro Z s σ H x y v u Q I rx ry h;obtain⟨l,k,xs,rfl,rfl,hH,h1,h2,hz,q⟩:=h;cases rx;obtain⟨t,rfl⟩:=ry;obtain⟨z,aj,n,r,hl,e⟩:=I.mm hH;have Â:aj.toArray.size*k.toNat<=sizeLine:=by rw[Af,<- hl];exact hz
 have Zt:¬aj.toArray.size*k.toNat > (2 ^ 63-1) / 8:=by
  have:(sizeLine:Nat)<=(2 ^ 63-1) / 8:=by decide
  omega
 have Zo:¬(!Builtin.List.listFitsIndex k)=true:=by
  rw[fitsIndex_both h1 h2];exact A2
 have o6:¬Builtin.List.listTooLong (aj.toArray.size*k.toNat)=true:=by
  rw[gh Â];exact A2
 have v5:List.foldl (λx1 x2=>x1++x2) #[] (Ak (if aj.toArray.isEmpty=true then 0 else k.toNat) aj.toArray)=(Ak k.toNat aj).flatten.toArray:=by
  have f0:∀m:Nat,List.foldl (λx1 x2=>x1++x2) #[] (Ak m aj.toArray)=(Ak m aj).flatten.toArray:=λm=>by
   have:=foldl_rep aj m [];exact this
  rw[f0];cases aj with
  | nil=>simp
  | cons a r'=>rw[if_neg (by simp)]
 refine wpAny_binaryOp_repeat_ref (T:="list") (U:="int") ⋯ ⟨_,e,rfl⟩ (λs'=>typeIs_int s' k t) noFill_list_mul F.fills_int_mul F.slot_int_rmul repeat_list F.slot_int_index.lookup
  (t0 F.slot_int_rmul (typeIs_int s k t) F.entry_int_rmul (F.args_int_rmul_2 _ _) (int___rmul___int_list k t l aj.toArray n)
   ⟨e,rfl,⟨_,e,rfl⟩,t0 F.slot_list_mul ⟨_,e,rfl⟩ F.entry_list_mul (F.args_list_mul_2 _ _) (AutoListH.list___mul___list_int_3 l aj.toArray n k t Zo Zt o6) ⟨e,?_⟩⟩)
 rw[v5];exact⟨.ref _,_,I.Rh (t':=s.toks) (r.rep k.toNat) (by rw[len_rep,Nat.mul_comm];exact hz),rfl,q _ I.fresh⟩
end
section
def Gi(aj bj:O bn)(a c:Nat):aj.toArray.extract 0 a++bj.toArray++aj.toArray.extract c aj.toArray.size=(aj.take a++bj++aj.drop c).toArray:=by
 apply Array.toList_inj.mp
 first
  | (
    simp;exact Dd (by simp))
  | simp[Dd]
  | simp
theorem yM{a c:Nat}(S5:a<=c)(hc:c<=n):v4 (some (a:Int)) (some (c:Int)) bd n=((a:Int),(c:Int),1):=by
 simp only[v4,Et];have h1:¬((a:Int) < 0):=by omega
 have h2:¬((c:Int) < 0):=by omega
 congr 1
 ·omega
 ·congr 1;omega
set_option maxRecDepth 100000 in
theorem pW{l b sl:ci}{items new:Array bn}{n n2:Nat}{vl vu:bn}{a c:Nat}{Q:Unit->db->Prop}
  (e:s.heap.get? l=some {cls:=.type "list",data:=.seq items n}) (e2:s.heap.get? b=some {cls:=.type "list",data:=.seq new n2}) (JO:l≠b)
  (hs:s.heap.IsSliceOf sl vl vu .none) (pl:IsPart vl (some (a:Int))) (pu:IsPart vu (some (c:Int))) (S5:a<=c) (hc:c<=items.size)
  (hsz:items.size+new.size<=sizeLine) (h:Q () {s with heap:=s.heap.update l (Ck λxs=>xs.extract 0 a++new++xs.extract c xs.size)}) :
  cr (f8 prog w) A (Da (.ref l) (.ref sl) (.ref b)) Q E s:=by
 have hl:s.heap.IsList l items:=FH e;have hb:s.heap.IsList b new:=FH e2;obtain⟨os,vZ,JS,zS⟩:=id hs;have S6:s.TypeIs (.ref sl) "slice":=⟨os,vZ,JS⟩;have Vx:¬((rawPart bd==sB 0)=true):=A2;have JM:Builtin.List.listSameRef (.ref l) (.ref b)=false:=by
  unfold Builtin.List.listSameRef;exact beq_eq_false_iff_ne.mpr JO
 have Zd:(max (a:Int) (c:Int)).toNat=c:=by omega
 have ya:((λxs:Array bn=>xs.extract 0 a++new++xs.extract c xs.size) items).size<=sizeLine+1:=by
  simp only[Ei,Array.size_extract];omega
 unfold Da
 try with_reducible refine AX ?_
 first | refine Aa (Ae ?_) | skip
 refine Aa (Ef hl.typeIs ⋯ ?_);refine Aa (AI (name:=B8 "__setitem__") hl.typeIs slot_list_setitem
  (A6 slot_list_setitem hl.typeIs entry_list_setitem ?_ (args_list_setitem _ _ _)))
 show cr _ _ (Builtin.List.listSubscript? (.ref sl) >>= _) _ _ s;refine Aa ?_;unfold Builtin.List.listSubscript?;refine Aa (DH S6 slice_no_index ?_);simp only[Option.isNone_none,if_true];refine Ae ?_;show cr _ _ (typeOf (.ref sl) >>= _) _ _ s;refine Aa (BQ S6 ?_)
 first
  | rw[if_neg ⋯]
  | refine PySem.W.KFB.if_not ⋯ ?_
 rw[listSliceParts_eq];refine Aa (Aa (AG vZ zS (x:=.none) rfl (Aa (Fd .none ?_))));rw[if_neg Vx];refine Aa (AG vZ zS (x:=vl) rfl (Aa (Fd pl ?_)));refine Aa (AG vZ zS (x:=vu) rfl (Aa (Fd pu (Ae ?_))))
 first
  | simp only[JM,Aq,if_false]
  | refine PySem.W.KFB.if_not JM ?_
  | (
    dsimp only;rw[if_neg (by rw[JM];exact A2)])
 refine Aa (m:=Builtin.List.listAllItems (.ref b) "must assign iterable to extended slice") ?_;unfold Builtin.List.listAllItems;refine Aa (BQ hb.typeIs ?_)
 first
  | refine PySem.W.KFB.if_so ⋯ ?_
  | rw[if_pos ⋯]
  | simp only[beq_self_eq_true,Bool.true_or,if_true]
 unfold Builtin.List.listItems;refine Aa (Bi e2 rfl (Ae ?_));refine Aa (Aa (Bi e rfl (Ae ?_)));refine Aa (Cq ((sliceIndices_raw (some (a:Int)) (some (c:Int)) bd items.size (by simp)).trans (congrArg (pure:Int×Int×Int->Sem (Int×Int×Int)) (yM S5 hc))) ?_);show cr _ _ (if ((1:Int)==1)=true then _ else _) _ _ s;rw[if_pos ⋯];refine Aa (CG ?_)
 first
  | simp only[gh hsz,Aq,if_false]
  | refine PySem.W.KFB.if_not (gh hsz) ?_
 first | refine Aa (Ae ?_) | skip
 show cr _ _ (updateSeq l (λxs=>xs.extract 0 ((a:Int)).toNat++new++xs.extract (max (a:Int) (c:Int)).toNat xs.size) >>= _) _ _ s;rw[Zd,Bd];refine Aa (DG (hz:=AQ (A7 _ _) hsz) (_hz':=ya) e rfl ?_);refine Aa (Dz ?_)
 first
  | exact Aa (Ae (Ae ⟨.none,rfl,Ae h⟩))
  | exact Ae ⟨.none,rfl,Ae h⟩
end
section
theorem Gm{sl:ci}{a c:Int}{Q:Unit->db->Prop}(I:Inv X Z σ H s)
  (hH:H l=some (.lst xs)) (hB:H b=some (.lst ys)) (JO:l≠b) (hs:s.heap.IsSliceOf sl vl vu .none) (ra:RelV (.int a) vl) (rc:RelV (.int c) vu) (h0:0<=a) (S5:a<=c) (hc:c<=xs.length)
  (hz:xs.length+ys.length<=sizeLine) (h:∀s',Inv X Z σ (upd H l (.lst (xs.take a.toNat++ys++xs.drop c.toNat))) s'->Q () s') :
  cr (f8 X.prog X.w) X.A (Da (.ref l) (.ref sl) (.ref b)) Q X.xe s:=by
 obtain⟨ta,rfl⟩:=ra;obtain⟨tc,rfl⟩:=rc;obtain⟨z,aj,n,r,hl,e⟩:=I.mm hH;obtain⟨z2,bj,n2,r2,Lj,e2⟩:=I.mm hB;obtain⟨a',rfl⟩:=EE h0;obtain⟨c',rfl⟩:=EE (Int.le_trans h0 S5);simp only[Bd]at h;refine pW (a:=a') (c:=c') e e2 JO hs (.int _ _) (.int _ _) ∅ (by rw[Af];omega) (by rw[Af,Af];omega) (h _ ?_);refine I.xO (its':=aj.take a'++bj++aj.drop c') (t':=s.toks) hH e ?_ (Vals.append (Vals.append (r.take _) r2) (r.drop _)) ?_
 ·exact Gi aj bj a' c'
 ·rw[Ah,Ah,Cc,Dq];omega
end
end L2
variable{xs:O (O L2.Key×BA×A4)}{o:Option L2.V}{v d:L2.V}{kvs:O (O L2.Key×L2.V)}{env:PySem.Env}{value:Bu}{OB:O (L2.TE×L2.TE)}{Ç:O (Option Bu)}{Æ:O Bu}{bE:CJ}
namespace L2
section
variable{κ:Type}[DecidableEq κ]
def fN(kvs:O (κ×V))(k:κ):Option V:=(kvs.find? λkv=>decide (kv.1=k)).map (·.2)
def putK(kvs:O (κ×V))(k:κ)(v:V):O (κ×V):=
 if (kvs.any λkv=>decide (kv.1=k))=true then kvs.map (λkv=>if kv.1=k then (kv.1,v) else kv) else kvs++[(k,v)]
def iJ{p:κ×V}{r:O (κ×V)}{k:κ}(e:p.1=k):fN (p::r) k=some p.2:=by simp[fN,Bb,e]
def iK{p:κ×V}{r:O (κ×V)}{k:κ}(e:¬p.1=k):fN (p::r) k=fN r k:=by simp[fN,Bb,e]
theorem kN(k:κ):∀kvs:O (κ×V),(kvs.any λkv=>decide (kv.1=k))=(fN kvs k).isSome
 | []=>rfl
 | p::r=>by
  rw[Ca];by_cases e:p.1=k
  ·simp only[iJ e,decide_eq_true e,Bool.true_or,Option.isSome_some]
  ·rw[iK e,decide_eq_false e,Bool.false_or];exact kN k r
theorem iR(kvs:O (κ×V))(k:κ)(v:V):(putK kvs k v).length<=kvs.length+1:=by
 unfold putK
 split
 ·rw[Ag];omega
 ·rw[Ah,Au,DN];omega
def mN.mB{u:Option bn}(r:mN o u):o.isSome=u.isSome:=by
 cases o with
 | none=>cases u with
  | none=>rfl
  | some _=>exact(show False from r).elim
 | some _=>cases u with
  | none=>exact(show False from r).elim
  | some _=>rfl
def mN.getD{u:Option bn}{d':bn}(r:mN o u)(rd:RelV d d'):RelV (o.getD d) (u.getD d'):=by
 cases o with
 | none=>cases u with
  | none=>exact rd
  | some _=>exact(show False from r).elim
 | some _=>cases u with
  | none=>exact(show False from r).elim
  | some _=>exact r
def KV.val{kvs:O (κ×V)}{vs:O (κ×bn)}(r:KV kvs vs)(k:κ):mN (fN kvs k) (valueAt vs k):=by
 unfold KV at r
 induction r with
 | nil=>exact BK
 | @cons p q ps qs h t ih=>
  obtain⟨h1,h2⟩:=h;by_cases e:p.1=k
  ·have e':q.1=k:=h1.symm.trans e;have b:valueAt (q::qs) k=some q.2:=by simp[valueAt,Bb,e']
   rw[iJ e,b];exact h2
  ·have e':¬q.1=k:=λz=>e (h1.trans z);have b:valueAt (q::qs) k=valueAt qs k:=by simp[valueAt,Bb,e']
   rw[iK e,b];exact ih
def KV.any{kvs:O (κ×V)}{vs:O (κ×bn)}(r:KV kvs vs)(k:κ):(kvs.any λkv=>decide (kv.1=k))=vs.any λkv=>decide (kv.1=k):=by
 induction r with
 | nil=>rfl
 | cons h t ih=>rw[Ca,Ca,ih,h.1]
def KV.Qo{kvs:O (κ×V)}{vs:O (κ×bn)}(r:KV kvs vs)(k:κ)(ry:RelV y u) :
  KV (kvs.map λkv=>if kv.1=k then (kv.1,y) else kv) (vs.map λkv=>if kv.1=k then (kv.1,u) else kv):=by
 induction r with
 | nil=>exact .nil
 | @cons p q ps qs h t ih=>
  rw[Ar,Ar];refine .cons ?_ ih;obtain⟨h1,h2⟩:=h;by_cases e:p.1=k
  ·rw[if_pos e,if_pos (h1.symm.trans e)];exact⟨h1,ry⟩
  ·rw[if_neg e,if_neg (λz=>e (h1.trans z))];exact⟨h1,h2⟩
def KV.put{kvs:O (κ×V)}{vs:O (κ×bn)}(r:KV kvs vs)(k:κ)(ry:RelV y u):KV (putK kvs k y) (stored vs k u):=by
 unfold putK stored;rw[r.any k];by_cases e:(vs.any λkv=>decide (kv.1=k))=true
 ·rw[if_pos e,if_pos e];exact r.Qo k ry
 ·rw[if_neg e,if_neg e];exact Paired.snoc r ⟨rfl,ry⟩
def KV.length{kvs:O (κ×V)}{vs:O (κ×bn)}(r:KV kvs vs):kvs.length=vs.length:=Paired.length r
end
def oT{k:Key}(r:RelV (kV k) u):(aU P w).is k u=true:=by
 cases k with
 | inl i=>obtain⟨t,e⟩:=(show ∃t,u=DW i t from r);subst e;exact vG P w i t
 | inr x=>obtain⟨t,e⟩:=(show ∃t,u=FE x t from r);subst e;exact vF P w x t
theorem qV:∀{ks:O Key}{us:O bn},Vals (ks.map kV) us->ItemsAre (aU P w) ks us
 | [],_,r=>by rw[EL]at r;cases r;exact .nil
 | k::ks,_,r=>by
  rw[Ar]at r;cases r with
  | cons h t=>exact .cons (oT h) (qV t)
abbrev KT(H:Hp):O (O Key×V)->O (O Key×ci×bn)->Prop:=Paired λp q=>p.1=q.1/\H q.2.1=some (.tup (p.1.map kV))/\RelV p.2 q.2.2
def KT.val(r:KT H kvs xs)(k:O Key):mN (fN kvs k) ((atKey xs k).map (·.2)):=by
 induction r with
 | nil=>exact BK
 | @cons p q ps qs h t ih=>
  obtain⟨h1,_,h2⟩:=h;by_cases e:p.1=k
  ·have e':q.1=k:=h1.symm.trans e;have b:atKey (q::qs) k=some q.2:=by simp[atKey,Bb,e']
   rw[iJ e,b];exact h2
  ·have e':¬q.1=k:=λz=>e (h1.trans z);have b:atKey (q::qs) k=atKey qs k:=by simp[atKey,Bb,e']
   rw[iK e,b];exact ih
def KT.Qo(r:KT H kvs xs)(k:O Key)(ry:RelV y u) :
  KT H (kvs.map λkv=>if kv.1=k then (kv.1,y) else kv) (xs.map (putAt k u)):=by
 induction r with
 | nil=>exact .nil
 | @cons p q ps qs h t ih=>
  rw[Ar,Ar];refine .cons ?_ ih;obtain⟨h1,h2,h3⟩:=h;unfold putAt;by_cases e:p.1=k
  ·rw[if_pos e,if_pos (h1.symm.trans e)];exact⟨h1,h2,ry⟩
  ·rw[if_neg e,if_neg (λz=>e (h1.trans z))];exact⟨h1,h2,h3⟩
def KT.put(r:KT H kvs xs)(k:O Key)(hb:H b=some (.tup (k.map kV)))(ry:RelV y u) :
  KT H (putK kvs k y) (FB xs k b u):=by
 have e:(kvs.any λkv=>decide (kv.1=k))=(atKey xs k).isSome:=by
  rw[kN,(r.val k).mB,Fx]
 unfold putK FB;rw[e];by_cases q:(atKey xs k).isSome=true
 ·rw[if_pos q,if_pos q];exact r.Qo k ry
 ·rw[if_neg q,if_neg q];exact Paired.snoc r ⟨rfl,hb,ry⟩
def KT.keeps(r:KT H kvs xs)(ht:∀b ys,H b=some (.tup ys)->H' b=some (.tup ys)):KT H' kvs xs:=
 Paired.Rc r λ_ _ z=>⟨z.1,ht _ _ z.2.1,z.2.2⟩
section
def OJ{u:HO}(ok:jd P w H h)(e:Rd H a u):aR P w H h a u:=e.ok ok
def lM{kvs:O (Key×V)}(ok:jd P w H h)(e:Rd H a (.dK kvs)):kvs.length<=sizeLine/\(a==sn)=false/\∃vs,KV kvs vs/\h.DictOf (aU P w) a vs:=
 show aR P w H h a (.dK kvs) from OJ ok e
def Pu{kvs:O (Key×V)}(ok:jd P w H h)(e:H a=some (.dK kvs)):kvs.length<=sizeLine/\(a==sn)=false/\∃vs,KV kvs vs/\h.DictOf (aU P w) a vs:=lM ok (.inl e)
def mx{ks:O Key}(ok:jd P w H h)(e:H a=some (.tup (ks.map kV))):(mo (aU P w)).is h ks a:=by
 obtain⟨_,aj,r,o,h1,h2,n,h3⟩:=(show aR P w H h a (.tup (ks.map kV)) from ok a _ e);exact⟨o,aj.toArray,n,h1,h2,h3,by simpa using qV r⟩
def lL(ok:jd P w H h)(e:Rd H a (.dT kvs)):kvs.length<=sizeLine/\(a==sn)=false/\
  ∃xs,KT H kvs xs/\h.DictOfH (mo (aU P w)) a xs:=by
 obtain⟨z,y,xs,r,o,es,ep,h1,h2,h3,h4,h5⟩:=(show aR P w H h a (.dT kvs) from OJ ok e);refine⟨z,y,xs,r,o,es,ep,h1,h2,h3,h4,λx hx=>?_,h5⟩;have all:∀{l:O (O Key×V)}{m:O (O Key×ci×bn)},KT H l m->∀x∈m,(mo (aU P w)).is h x.1 x.2.1:=by
  intro l m q
  induction q with
  | nil=>intro x hx;exact nomatch hx
  | @cons p q ps qs hq t ih=>
   intro x hx;rcases AH.mp hx with e | hx
   ·subst e;exact mx ok (by rw[<- hq.1];exact hq.2.1)
   ·exact ih x hx
 exact all r x hx
def Wo(ok:jd P w H h)(e:H a=some (.dT kvs)):kvs.length<=sizeLine/\(a==sn)=false/\
  ∃xs,KT H kvs xs/\h.DictOfH (mo (aU P w)) a xs:=lL ok (.inl e)
end
def mO(H:Hp)(a:ci)(y:V)(r:Option V):Prop:=
 (∃kvs k,Rd H a (.dK kvs)/\y=kV k/\r=fN kvs k)\/∃kvs k b,Rd H a (.dT kvs)/\y=.ref b/\H b=some (.tup (k.map kV))/\r=fN kvs k
def K8(H:Hp)(a:ci)(y v:V)(H':Hp):Prop:=
 (∃kvs k,H a=some (.dK kvs)/\y=kV k/\kvs.length < sizeLine/\H'=upd H a (.dK (putK kvs k v)))\/
 ∃kvs k b,H a=some (.dT kvs)/\y=.ref b/\H b=some (.tup (k.map kV))/\kvs.length < sizeLine/\H'=upd H a (.dT (putK kvs k v))
theorem mO.k{kvs:O (Key×V)}{k:Key}(e:H a=some (.dK kvs)):mO H a (kV k) (fN kvs k):=.inl ⟨kvs,k,.inl e,rfl,rfl⟩
theorem K8.k{kvs:O (Key×V)}{k:Key}(e:H a=some (.dK kvs))(hl:kvs.length < sizeLine):K8 H a (kV k) v (upd H a (.dK (putK kvs k v))):=.inl ⟨kvs,k,e,rfl,hl,rfl⟩
section
variable{r:bn}
def Inv.big(I:Inv X Z σ H s):sn < s.heap.objs.size:=by
 have h:=(I.mod.glob.keeps I.bk).lt;exact Nat.lt_trans ⋯ h
def Hh(hu:A.units+1 < pr)(I:Inv X Z σ H s)(g:mO H a y (some v))(ry:RelV y u)(h:∀w' s',Inv X Z σ H s'->RelV v w'->Q w' s') :
  cr (f8 X.prog X.w) A (FM (.ref a) u) Q E s:=by
 rcases g with⟨kvs,k,e,ey,l⟩ | ⟨kvs,k,b,e,ey,eb,l⟩
 ·subst ey;obtain⟨z,hd,vs,Ë,dd⟩:=lM I.aY e;obtain⟨w',hw,ve⟩:=mN.some_of (v:=v) (o:=valueAt vs k) (by rw[l];exact Ë.val k);exact wpAny_getItem_of (oT ry) dd.mapOf hw (h w' _ (I.tok _) ve)
 ·subst ey;cases (show u=Aw b from ry);obtain⟨z,hd,xs,Ë,dd⟩:=lL I.aY e;obtain⟨w',hw,ve⟩:=mN.some_of (v:=v) (o:=(atKey xs k).map (·.2)) (by rw[l];exact Ë.val k);obtain⟨p,hp,yb⟩:=Option.map_eq_some_iff.mp hw;refine wpAny_getItem_heap (ww hu) (mx I.aY eb) dd hp ?_;rw[yb];exact h w' _ (I.tok _) ve
def ZW(hu:A.units+1 < pr)(I:Inv X Z σ H s)(g:mO H a y o)(ry:RelV y u)(h:∀s',Inv X Z σ H s'->Q (.bool o.isSome) s') :
  cr (f8 X.prog X.w) A (py .In u (.ref a)) Q E s:=by
 rcases g with⟨kvs,k,e,ey,l⟩ | ⟨kvs,k,b,e,ey,eb,l⟩
 ·subst ey;obtain⟨z,hd,vs,Ë,dd⟩:=lM I.aY e;refine wpAny_in_of (oT ry) hd dd.mapOf ?_;rw[<- (Ë.val k).mB,<- l];exact h _ (I.tok _)
 ·subst ey;cases (show u=Aw b from ry);obtain⟨z,hd,xs,Ë,dd⟩:=lL I.aY e;refine wpAny_in_heap (ww hu) (mx I.aY eb) hd dd ?_;have q:=(Ë.val k).mB;rw[Fx]at q;rw[<- q,<- l];exact h _ (I.tok _)
def uc{t':Nat}{ob:HO}(I:Inv X Z σ H s)(mu:WE (H a))(hs:BE a s.heap h')(he:∃q,h'.get? a=some q)(new:aR X.prog X.w (upd H a ob) h' a ob) :
  Inv X Z σ (upd H a ob) {s with heap:=h',toks:=t'}:=
 I.write (x:=a) (e:=a) mu (.inl rfl) (λb q hb z=>(hs.2 b hb).trans z) he new
def Ku{kvs:O (Key×V)}{vs:O (Key×bn)}(z:kvs.length<=sizeLine)(hd:(a==sn)=false)(Ë:KV kvs vs)(dd:h'.DictOf (aU P w) a vs) :
  aR P w H' h' a (.dK kvs):=⟨z,hd,vs,Ë,dd⟩
theorem Hg{Q:Unit->db->Prop}(hu:A.units+1 < pr)(I:Inv X Z σ H s)(g:K8 H a y v H')(ry:RelV y u)(rv:RelV v r)(h:∀s',Inv X Z σ H' s'->Q () s') :
  cr (f8 X.prog X.w) A (Da (.ref a) u r) Q E s:=by
 rcases g with⟨kvs,k,e,ey,l,eH⟩ | ⟨kvs,k,b,e,ey,eb,l,eH⟩
 ·subst ey eH;obtain⟨z,hd,vs,Ë,dd⟩:=Pu I.aY e;have hz:vs.length<=sizeLine:=by rw[<- Ë.length];exact z
  have hl:(putK kvs k v).length<=sizeLine:=by have:=iR kvs k v;omega
  refine wpAny_setItem_pairs (hsz:=hz) (oT ry) dd λh' Sl hs=>h _ ?_;have he:∃q,h'.get? a=some q:=let ⟨q,_,_,hq,_⟩:=Sl;⟨q,hq⟩;exact uc I (by rw[e];exact BK) hs he (Ku hl hd (Ë.put k rv) Sl)
 ·subst ey eH;cases (show u=Aw b from ry);obtain⟨z,hd,xs,Ë,dd⟩:=Wo I.aY e;have hz:xs.length<=sizeLine:=by rw[<- Paired.length Ë];exact z
  have hl:(putK kvs k v).length<=sizeLine:=by have:=iR kvs k v;omega
  refine wpAny_setItem_heap (hsz:=hz) (ww hu) (mx I.aY eb) dd λh' Sl hs=>h _ ?_;obtain⟨q,es,ep,hq,h2,h3,h4,_,h5⟩:=Sl;refine uc I (by rw[e];exact BK) hs ⟨q,hq⟩ ⟨hl,hd,_,(Ë.put k eb rv).keeps λc ys ec=>?_,q,es,ep,hq,h2,h3,h4,h5⟩;rw[ar (zB ec e (λz=>nomatch z))];exact ec
end
def Oo(i:im):Prop:=∀ov iv,subscripted i false ov iv=operate [ov,iv] (FM ov iv)
def LO{slice:im}{pos:Pos}{id:String}
  (hl:u8 (.type T) "__getitem__"=pure (some (.builtin id))) (hs:Oo slice)
  (h:cr (f8 prog w) A (kt value env) (λo s₁=>cr (f8 prog w) A (kt slice env) (λi s₂=>s₂.TypeIs o T/\cr (f8 prog w) A (FM o i) Q E s₂) E s₁) E s) :
  cr (f8 prog w) A (kt (.Subscript value slice pos) env) Q E s:=by
 refine Subscript_ (B4 h (λo s₁ h₁=>B4 h₁ (λi s₂ h₂=>?_) λ_ _ x=>x) λ_ _ x=>x);obtain⟨hT,h₂⟩:=h₂;refine Aa ?_;refine Aa (DH hT hl ?_);have Á:cr (f8 prog w) A (subscripted slice false o i) (λr s₃=>cr (f8 prog w) A (letTemporaryGo value o r >>= λ_=>pure r) Q E s₃) E s₂:=by
  rw[hs o i];exact wpAny_operating (B4 h₂ (λr s₃ h₃=>Aa (wpAny_letTemporaryGo (Ae h₃))) λ_ _ x=>x)
 first
  | exact Ae (Aa Á)
  | exact Aa (Ae (Aa Á))
  | exact Aa Á
def wJ(I:Inv X Z σ H s)(g:mO H a y o):s.TypeIs (.ref a) "dict":=by
 rcases g with⟨kvs,k,e,_,_⟩ | ⟨kvs,k,b,e,_,_,_⟩
 ·obtain⟨_,_,vs,_,dd⟩:=lM I.aY e;exact dd.typeIs
 ·obtain⟨_,_,xs,_,dd⟩:=lL I.aY e;exact dd.typeIs
def Ud(td ty:TE):TE:=λσ H Q=>td σ H λx H1=>ty σ H1 λy H2=>∃a v,x=.ref a/\mO H2 a y (some v)/\Q v H2
def Yd(ty td:TE):TE:=λσ H Q=>ty σ H λy H1=>td σ H1 λx H2=>∃a o,x=.ref a/\mO H2 a y o/\Q (.bl o.isSome) H2
def Ut(td ty tv:TE):TS:=λD σ H=>tv σ H λv H1=>td σ H1 λx H2=>ty σ H2 λy H3=>∃a H4,x=.ref a/\K8 H3 a y v H4/\D.nx σ H4
section
variable{o i:im}{pos:Pos}{td ty tv:TE}
def zu(hu:X.A.units+1 < pr)(ho:PE X o td)(hi:PE X i ty)(hs:Oo i):PE X (.Subscript o i pos) (Ud td ty):=by
 intro Z s σ H Q I h;refine LO PySem.F.slot_dict_getitem.lookup hs (bh (ho Z s σ H _ I h) λu s1 ⟨x,H1,I1,rx,q1⟩=>bh (hi Z s1 σ H1 _ I1 q1) λiv s2 ⟨y,H2,I2,ry,a,v,ex,g,q2⟩=>?_);subst ex;obtain rfl:u=Aw a:=rx;exact⟨wJ I2 g,Hh hu I2 g ry λw' s3 I3 ve=>⟨v,H2,I3,ve,q2⟩⟩
def QO(hu:X.A.units+1 < pr)(hi:PE X i ty)(ho:PE X o td):PC X .In i o (Yd ty td):=by
 intro Z s σ H Q I h;refine bh (hi Z s σ H _ I h) λiv s1 ⟨y,H1,I1,ry,q1⟩=>bh (ho Z s1 σ H1 _ I1 q1) λu s2 ⟨x,H2,I2,rx,a,ov,ex,g,q2⟩=>?_;subst ex;obtain rfl:u=Aw a:=rx;exact ZW hu I2 g ry λs3 I3=>⟨.bl ov.isSome,H2,I3,rfl,q2⟩
def Mc(hu:X.A.units+1 < pr)(ho:PE X o td)(hi:PE X i ty)(hv:PE X value tv)(hs:lm value (some (.Subscript o i Ú)) pos.line X.env=pure false) :
  PS X (.Assign [.Subscript o i Ú] value pos) (Ut td ty tv):=by
 intro Z s σ H D I h;refine wpAny_Assign_Subscript (bh (hv Z s σ H _ I h) λr s1 ⟨v,H1,I1,rv,q1⟩=>bh (ho Z s1 σ H1 _ I1 q1) λu s2 ⟨x,H2,I2,rx,q2⟩=>bh (hi Z s2 σ H2 _ I2 q2) λiv s3 ⟨y,H3,I3,ry,a,H4,ex,g,q3⟩=>?_) hs;subst ex;obtain rfl:u=Aw a:=rx;exact Hg hu I3 g ry rv λs4 I4=>⟨σ,H4,I4,q3⟩
end
def Kv(h:lw)(hb:sn < h.objs.size):aR P w H (h.push {cls:=.type "dict",data:=.dict #[]}) h.objs.size (.dK []):=
 ⟨Bx _,beq_eq_false_iff_ne.mpr (BD (AA hb)),[],.nil,Heap.DictOf.new h⟩
def rQ:O (TE×TE)->St->Hp->(O (V×V)->Hp->Prop)->Prop
 | [],_,H,Q=>Q [] H
 | (tk,tv)::r,σ,H,Q=>tk σ H λx H1=>tv σ H1 λy H2=>rQ r σ H2 λps H3=>Q ((x,y)::ps) H3
abbrev VV:O (V×V)->O (bn×bn)->Prop:=Paired λp q=>RelV p.1 q.1/\RelV p.2 q.2
def WC(X:Cx)(pos:Pos)(Ç:O (Option im))(Æ:O im)(OB:O (TE×TE)):Prop:=
 ∀(Z:O (ci×Obj)) (s:db) (σ:St) (H:Hp) (Q:O (V×V)->Hp->Prop),Inv X Z σ H s->rQ OB σ H Q->
  cr (f8 X.prog X.w) X.A (evalPairs (pairTrees Ç Æ X.env pos)) (λvs s'=>∃ps H',Inv X Z σ H' s'/\VV ps vs/\Q ps H') X.xe s
def Me{pos:Pos}:WC X pos [] [] []:=λZ s σ H Q I h=>pairTrees_nil_walk ⟨[],H,I,.nil,h⟩
def IG{pos:Pos}{k v:im}{ks:O (Option im)}{vs:O im}{tk tv:TE}(hk:PE X k tk)(hv:PE X v tv)(hr:WC X pos ks vs OB) :
  WC X pos (some k::ks) (v::vs) ((tk,tv)::OB):=λZ s σ H Q I h=>
 pairTrees_cons_walk (bh (hk Z s σ H _ I h) λu s1 ⟨x,H1,I1,rx,q1⟩=>bh (hv Z s1 σ H1 _ I1 q1) λw2 s2 ⟨y,H2,I2,ry,q2⟩=>
  bh (hr Z s2 σ H2 _ I2 q2) λws s3 ⟨ps,H3,I3,Ë,q3⟩=>⟨(x,y)::ps,H3,I3,.cons ⟨rx,ry⟩ Ë,q3⟩)
def cj(kvs more:O (Key×V)):O (Key×V):=more.foldl (λacc kv=>putK acc kv.1 kv.2) kvs
def KV.merge:∀{more:O (Key×V)}{rs:O (Key×bn)}{kvs:O (Key×V)}{vs:O (Key×bn)},KV more rs->KV kvs vs->KV (cj kvs more) (merged vs rs):=by
 intro more rs kvs vs r
 induction r generalizing kvs vs with
 | nil=>intro q;exact q
 | @cons p q ps qs h t ih=>
  intro r0;have e:KV (putK kvs p.1 p.2) (stored vs q.1 q.2):=by
   have:=r0.put p.1 h.2;rw[<- h.1];exact this
  exact ih e
theorem jS:∀(more kvs:O (Key×V)),(cj kvs more).length<=kvs.length+more.length
 | [],kvs=>by show kvs.length<=kvs.length+0;omega
 | p::r,kvs=>by
  have h1:=jS r (putK kvs p.1 p.2);have h2:=iR kvs p.1 p.2;show(cj (putK kvs p.1 p.2) r).length<=_;rw[Au];omega
theorem pH{P:ul}{w:wv}:∀{kvs:O (Key×V)}{ws:O (bn×bn)},VV (kvs.map λkv=>(kV kv.1,kv.2)) ws->∃rs,Carries (aU P w) ws rs/\KV kvs rs
 | [],_,r=>by rw[EL]at r;cases r;exact⟨[],BK,.nil⟩
 | p::kvs,_,r=>by
  rw[Ar]at r;cases r with
  | @cons a b as bs h t=>
   obtain⟨rs,c,q⟩:=pH (P:=P) (w:=w) t;obtain⟨b1,b2⟩:=b;exact⟨(p.1,b2)::rs,⟨oT h.1,rfl,c⟩,.cons ⟨rfl,h.2⟩ q⟩
def Uc(OB:O (TE×TE)):TE:=λσ H Q=>∀p,H p=bd->rQ OB σ (upd H p (.dK [])) λps H2=>H2 p=some (.dK [])/\∃kvs:O (Key×V),ps=kvs.map (λkv=>(kV kv.1,kv.2))/\kvs.length<=15/\Q (.ref p) (upd H2 p (.dK (cj [] kvs)))
theorem Mo{pos:Pos}(h:WC X pos Ç Æ OB)(JV:Ç.all (·.isSome)=true)(hl:Ç.length=Æ.length)(h0:Ç≠[])
  (ZA:Ç.length<=15):PE X (.Dict Ç Æ pos) (Uc OB):=by
 intro Z s σ H Q I q;have hn:=I.aY.fresh (Ao s.heap.objs.size);have I1:=I.laid (a:=s.heap.objs.size) (o:=.dK []) (h':=s.heap.push {cls:=.type "dict",data:=.dict #[]}) (t':=s.toks) (λ_ _ q=>Ai _ q) (Ao _) (Kv s.heap I.big);refine wpAny_Dict_walk (knd:=aU X.prog X.w) JV hl h0 ZA (bh (h Z _ σ _ _ I1 (q _ hn)) λws s2 ⟨ps,H2,I2,Ë,e,kvs,ep,lk,q2⟩=>?_);subst ep;obtain⟨rs,c,rk⟩:=pH (P:=X.prog) (w:=X.w) Ë;obtain⟨z,hd,vs0,r0,dd⟩:=Pu I2.aY e;cases r0;refine⟨rs,c,dd,λh' Sl hs=>⟨.ref s.heap.objs.size,_,?_,rfl,q2⟩⟩;have hz:(cj [] kvs).length<=sizeLine:=by
  have h1:=jS kvs [];rw[DN]at h1;rw[sizeLine_eq];omega
 have he:∃q,h'.get? s.heap.objs.size=some q:=let ⟨q,_,_,hq,_⟩:=Sl;⟨q,hq⟩;exact uc I2 (by rw[e];exact BK) hs he (Ku hz hd (rk.merge .nil) Sl)
structure M2(X:Cx)(o:im)(m:Str)(Ã:Pos)(e f:im)(bE:Pos):Prop where
 base:r6 o m X.env (kt o X.env)=kt o X.env
 RX:((wP bE (ga [e,f] X.env)).all (λx=>!x.1)&&(backToKw bE (keywordEach [] X.env)).all (λx=>x.1.isSome)
  && decide (([e,f]:List im).length+([]:List Keyword).length+(if ([]:List Keyword).isEmpty then 0 else 1) < 30))=true
 line:(Ã.endLine==bE.line)=true
 trees:wP bE (ga [e,f] X.env)=[(false,kt e X.env),(false,kt f X.env)]
def XY(H:Hp)(a:ci):Prop:=(∃kvs,Rd H a (.dK kvs))\/∃kvs,Rd H a (.dT kvs)
def Ry(I:Inv X Z σ H s)(d:XY H a) :
  s.TypeIs (.ref a) "dict"/\(∀b,Aw a=.ref b->∃ob,s.heap.get? b=some ob/\ob.dict=bd)/\(a==sn)=false:=by
 rcases d with⟨kvs,e⟩ | ⟨kvs,e⟩
 ·obtain⟨_,hd,vs,_,dd⟩:=lM I.aY e;refine⟨dd.typeIs,λb q=>?_,hd⟩;cases q;obtain⟨ob,_,_,h1,h2,_⟩:=dd;exact⟨ob,h1,h2.2.1⟩
 ·obtain⟨_,hd,xs,_,dd⟩:=lL I.aY e;refine⟨dd.typeIs,λb q=>?_,hd⟩;cases q;obtain⟨ob,_,_,h1,h2,_⟩:=dd;exact⟨ob,h1,h2.2.1⟩
section
variable{r:bn}
def Sn(hu:A.units+1 < pr)(I:Inv X Z σ H s)(g:mO H a y o)(ry:RelV y u)(rd:RelV d r)(h:∀w' s',Inv X Z σ H s'->RelV (o.getD d) w'->Q w' s') :
  cr (f8 X.prog X.w) A (call (.builtin "dict.get") [.ref a,u,r]) Q E s:=by
 rcases g with⟨kvs,k,e,ey,l⟩ | ⟨kvs,k,b,e,ey,eb,l⟩
 ·subst ey;obtain⟨z,hd,vs,Ë,dd⟩:=lM I.aY e;refine call_meetsIn Dj dd.typeIs EH (Ep _ _ _) (meets_dict_get_default (aU X.prog X.w) a (oT ry) hd r) ⟨_,dd.mapOf,h _ _ (I.tok _) ?_⟩;rw[l];exact(Ë.val k).getD rd
 ·subst ey;cases (show u=Aw b from ry);obtain⟨z,hd,xs,Ë,dd⟩:=lL I.aY e;refine call_meetsIn Dj dd.typeIs EH (Ep _ _ _) (meetsH_dict_get_default (mo (aU X.prog X.w)) a b hd r) ⟨ww hu,k,xs,mx I.aY eb,dd,h _ _ (I.tok _) ?_⟩;rw[l];exact(Ë.val k).getD rd
end
def P8(td ty tx:TE):TE:=λσ H Q=>td σ H λx H1=>∃a,x=.ref a/\XY H1 a/\ty σ H1 λy H2=>tx σ H2 λz H3=>∃o,mO H3 a y o/\Q (o.getD z) H3
section
variable{o f:im}{td ty tx:TE}
def IP(hu:X.A.units+1 < pr)(ho:PE X o td)(he:PE X e ty)(hf:PE X f tx)(m:M2 X o "get" Ã e f bE):PE X (.Call (.Attribute o "get" Ã) [e,f] [] bE) (P8 td ty tx):=by
 intro Z s σ H Q I h;refine wpAny_Call_method m.base m.RX m.line PySem.F.plainAttrs_dict Dj PySem.F.type_dict_get (bh (ho Z s σ H _ I h) λu s1 ⟨x,H1,I1,rx,a,ex,d,q1⟩=>?_);subst ex;obtain rfl:u=Aw a:=rx;obtain⟨t1,t2,_⟩:=Ry I1 d;refine⟨t1,t2,?_⟩;rw[m.trees];refine C7 rfl (Fb (Bf (bh (he Z s1 σ H1 _ I1 q1) λiv s2 ⟨y,H2,I2,ry,q2⟩=>
  Bf (bh (hf Z s2 σ H2 _ I2 q2) λfv s3 ⟨z,H3,I3,rz,ov,g,q3⟩=>BF ?_))))
 exact Sn hu I3 g ry rz λw' s4 I4 ve=>⟨_,H3,I4,ve,q3⟩
end
end L2
variable{d:PySem.DefRec}{Ô:O BW}{XP:(BW->Option A4)->Ft->Prop}{YP:PySem.World->Ft->Prop}
namespace Att
open PySem PySem.W PySem.Calls PyProof.Rows
def nu{P:Params}:∀(ns:O Int) (vs:O bn),WellAll P h vs (ns.map WData.int)->IntsAre vs ns:=by
 intro ns
 induction ns with
 | nil=>
  intro vs w;cases w;exact .nil
 | cons n ns ih=>
  intro vs w;cases w with
  | cons a b=>
   cases a;exact .cons _ _ (ih _ b)
theorem Gn{l:OpenLaw}(hn:l.most=some n){P:Params}{args:O WData}{Þ:O bn}
  (Nx:l.row.toRowW.claim.pre args=true) (Y0:WellAll P h Þ args) :
  ∃a vs ns,Þ=[Aw a]/\args=[WData.list (ns.map WData.int)]/\h.get? a=some {cls:=.type "list",data:=.seq vs.toArray}/\IntsAre vs ns/\ns.length<=n:=by
 have hsh:=(pre_splitW Nx).1;have hc:l.pre.holds [] {args:=args}=true:=(pre_splitW Nx).2;obtain⟨d,r,rfl,h1,h2⟩:=hasAllW_cons hsh;obtain rfl:=hasAllW_nil h2;obtain⟨xs,rfl,h3⟩:=hasW_list h1;obtain⟨ns,rfl⟩:=items_int h3;have Â:ns.length<=n:=by
  unfold OpenLaw.pre at hc;have h4:(WTm.not (.lt (.lit (.int (n:Int))) (.len (.arg 0)))).holds [] {args:=[.list (ns.map .int)]}=true:=by
   have h4:=(holds_andW hc).1;rw[hn]at h4;exact h4
  have h5:=condW_of h4 (w_not (w_lt w_lit (w_len_list (w_arg rfl))));refine Nat.le_of_not_lt λq=>?_
  first
   | (rw[decide_eq_true q']at h5;exact absurd h5 ⋯)
   | (simp at h5;omega)
 cases Y0 with
 | cons w1 w2=>
  cases w2;cases w1 with
  | list ho JV=>exact⟨_,_,ns,rfl,rfl,ho,nu ns _ JV,Â⟩
def Gv(l:OpenLaw)(args:O WData):l.row.toRowW.claim.post args (.bool true) args=true:=
 postW_of (r:=l.row.toRowW) (X:=(true==true))
  (show WShape.has [] (.bool true) .bool=true by first | rfl | decide | simp[WShape.has,WShape.arms,WShape.armsAll])
  (show(WTm.eq .res (.lit (.bool true))).value [] {args:=args,res:=some (.bool true),after:=args}=some (.bool (true==true)) from w_eq_bool (w_res rfl) w_lit) rfl
def wQ{l:OpenLaw}{q:ul}
  (hn:l.most=some n) (VL:d.params.defaults=[])
  (call:∀(w:wv) (s₀ s₁:db) (mg mb:Str->Option bn) (fa:ci) (o:Obj) (pm cd É:bn) (a:ci) (vs:O bn) (ns:O Int),
   Ground q Ô [] XP w s₀ mg mb s₁.heap->YP w s₁.heap->
   s₁.heap.get? fa=some o->o.data=.func (docDef d.name d.params d.body d.scope pm cd É)->s₁.heap.CodeRec cd d.name->mg d.name=some (.ref fa)->
   s₁.heap.get? a=some {cls:=.type "list",data:=.seq vs.toArray}->IntsAre vs ns->ns.length<=n->s₁.gens=#[]->
   Db (f8 l.prog w) callerA (.call (.ref fa) ⟨[.ref a],[]⟩) (λr s'=>r=.ok (.ret (.bool true))/\OldK s₁.heap s'.heap/\s'.os=s₁.os/\GE s'.gens) s₁) :
  WalkO q Ô XP YP l.row.toRowW d [] (λf vs=>FN f vs):=by
 intro w s₀ s₁ mg mb G Y fa o pm cd É dV kV ho hd gB hD hmg hg args Þ as Nx acT hrd Y0 hlo;obtain rfl:dV=.none:=Dflts.none hD VL;obtain rfl:kV=.none:=Dflts.noKw hD;obtain⟨a,vs,ns,rfl,rfl,RH,Ø,Â⟩:=Gn hn Nx Y0;refine enter_call (codeAny_mono (call w s₀ s₁ mg mb fa o pm cd É a vs ns G Y ho (fd_plain hd) gB hmg RH Ø Â hg) λr s' hq=>?_);obtain⟨rfl,h2,h3,h4⟩:=hq;exact⟨.inl ⟨.bool true,.bool true,[],rfl,λ_=>rfl,.bool true,Gv l _,λ_=>⟨List.Pairwise.nil,λ_ hm=>(nomatch hm)⟩⟩,h2,h3,h4⟩
end Att
variable{k:Nat}
namespace L2
theorem lY:∀{vs:O bn}{ns:O Int},IntsAre vs ns->Vals (ns.map V.int) vs
 | _,_,.nil=>.nil
 | _,_,.cons n t h=>.cons ⟨t,rfl⟩ (lY h)
def Om(H:Hp):Prop:=∀b,H b=bd\/∃o xs,H b=some (.bQ o (.lst xs))
def Jr{K:Ab}{mb:Str->Option bn}{CX:K9}{fa:ci}{sp:Sp}{s₁:db}{vs:O bn}
  (KX:K.In s₁.heap) (hns:s₁.heap.Ns ii mg) (hb:s₁.heap.Ns Fa mb) (hbb:∀x:Str,x≠"__name__"->mb x=pc x) (Zg:s₁.heap.NoLimit) (hbm:∃bm ob,mg "__builtins__"=some (.ref bm)/\bm≠Fa/\s₁.heap.get? bm=some ob/\ob.cls=.type "module"/\ob.dict=some Fa/\ob.data=.plain) (hg:s₁.gens=#[])
  (ha:s₁.heap.get? a=some {cls:=.type "list",data:=.seq vs.toArray}) (hi:IntsAre vs ns) (hl:ns.length<=sizeLine) (hr:d4 k callerA)
  (F:∀base:lw,K.In base->base.Ns ii mg->fy P w K mg base CX k fa fd [x] sp) (VM:∀(s:db) (u:bn),BindsTo s fd ⟨[u],[]⟩ [(x,u)])
  (Lh:∀H:Hp,Om H->b9 K H a (ns.map V.int)->sp [.ref a] H (λv _=>v=.bl true) λ_ _ _=>False)
  (Zy:∀H e s',CX [] H s₁ (λ_ _ _=>False) e s'->False) :
  Db (f8 P w) callerA (.call (.ref fa) ⟨[.ref a],[]⟩) (λr s'=>r=.ok (.ret (.bool true))/\OldK s₁.heap s'.heap/\s'.os=s₁.os/\GE s'.gens) s₁:=by
 have rv:=lY hi;have YK:=hi.length;have ä:∀H:Hp,Om H->b9 K H a (ns.map V.int)->jd P w H s₁.heap->(∀b,H b≠bd->b=a)->(H a≠bd->K.lookup a=bd)->
   Db (f8 P w) callerA (.call (.ref fa) ⟨[.ref a],[]⟩) (λr s'=>r=.ok (.ret (.bool true))/\OldK s₁.heap s'.heap/\s'.os=s₁.os/\GE s'.gens) s₁:=by
  intro H hO hS aY hA hK;have uk:∀{b:ci}{o:Obj},s₁.heap.get? b=some o->H b=bd->(tF s₁.heap H).get? b=some o:=λe n=>JR e n;have U7:∀{b:ci}{o:Obj}{es:Array DictEntry}{ep:Nat},s₁.heap.get? b=some o->o.data=.dict es ep->H b=bd:=λ{b o es ep} e d=>by
   cases q:H b with
   | none=>rfl
   | some u=>
    have e':b=a:=hA b (by rw[q];simp);subst e';rw[ha]at e;cases e;have d':E9 vs.toArray _=Data.dict es ep:=d;cases d'
  have Xa:∀{b:ci}{m:Str->Option bn},s₁.heap.Ns b m->(tF s₁.heap H).Ns b m:=λ{b m} ⟨o,es,ep,e,d,r⟩=>⟨o,es,ep,uk e (U7 e d),d,r⟩;have hKb:K.In (tF s₁.heap H):=λb o e=>uk (KX b o e) (by
   cases q:H b with
   | none=>rfl
   | some u=>
    have e':b=a:=hA b (by rw[q];simp);subst e';rw[hK (by rw[q];simp)]at e;cases e)
  have hM:Mod K mg (tF s₁.heap H):=⟨hKb,Xa hns,⟨mb,Xa hb,hbb⟩,let ⟨mc,h1,h2⟩:=Zg;⟨mc,Xa h1,h2⟩,let ⟨bm,ob,h1,h2,h3,h4,h5,h6⟩:=hbm;⟨bm,ob,h1,h2,uk h3 (by
   cases q:H bm with
   | none=>rfl
   | some u=>
    have e':bm=a:=hA bm (by rw[q];simp);subst e';rw[ha]at h3;cases h3;cases h6),h4,h5,h6⟩⟩
  have e0:Ov P w K mg (tF s₁.heap H) callerA [] s₁ H:=⟨rfl,hM,λb o e=>MJ e,Nat.le_of_eq (GZ _ _),trivial,λb hb=>absurd (show b∈([]:O ci) from hb) (by simp),aY,.of_eq hg⟩;refine codeAny_mono ((F _ hKb (Xa hns)).run callerA [] s₁ H ⟨[.ref a],[]⟩ [.ref a] [.ref a] _ _ hr e0 (VM s₁ (.ref a)) (.cons rfl .nil) (Lh H hO hS)) λr s' h=>?_;cases r with
  | error e=>exact(Zy H e s' h).elim
  | ok fl=>
   cases fl with
   | next=>exact Bn h
   | brk=>exact Bn h
   | cont=>exact Bn h
   | ret u=>
    obtain⟨v,H',os,bare,un,Za,r',q⟩:=h;have q':v=.bl true:=q;subst q';obtain rfl:u=BL true:=r';refine⟨rfl,OldK.of_keep λb o e=>?_,os,bare⟩;cases q:H b with
    | none=>exact un.keep b o e q (by intro z;exact absurd (show b∈([]:O ci) from z) (by simp)) (by simp)
    | some u=>
     rcases hO b with z | ⟨ob,xs,z⟩
     ·rw[q]at z;cases z
     ·have z2:=un.pd b ob _ z;obtain⟨e1,_⟩:=aY b _ z;obtain⟨e2,_⟩:=Za b _ z2;rw[e]at e1;cases e1;exact e2
 cases hk:K.lookup a with
 | some o=>
  have e:=KX a o hk;rw[ha]at e;cases e;refine ä (λ_=>bd) (λ_=>.inl rfl) (.inr ⟨_,vs.toArray,_,hk,rfl,rfl,rfl,by rw[Af,YK];exact hl,by simpa using rv⟩) (λb u z=>by have z':(bd:Option HO)=some u:=z;cases z') (λb z=>absurd rfl z) λz=>absurd rfl z
 | none=>
  refine ä (λb=>if b=a then some (.bQ {cls:=.type "list",data:=.seq vs.toArray} (.lst (ns.map V.int))) else bd) (λb=>?_) (.inl (.inr ⟨{cls:=.type "list",data:=.seq vs.toArray},if_pos rfl⟩)) (λb u z=>?_) (λb z=>?_) λ_=>hk
  ·by_cases hb:b=a
   ·exact .inr ⟨_,_,if_pos hb⟩
   ·exact .inl (if_neg hb)
  ·by_cases hb:b=a
   ·have z':=(if_pos hb).symm.trans z;cases z';subst hb;exact⟨ha,by rw[Ag];exact hl,vs,_,rv,ha⟩
   ·have z':=(if_neg hb).symm.trans z;cases z'
  ·by_cases hb:b=a
   ·exact hb
   ·exact absurd (if_neg hb) z
def LA{l:ES}{q:ul}{K:Params->Ab}{CX:wv->K9}{sp:wv->Sp}
  (hn:l.most=some n) (hn2:n<=sizeLine) (VL:d.params.defaults=[]) (hr:d4 k callerA)
  (hY:∀(w:wv) (h:lw),YP w h->(K w.params).In h)
  (F:∀(w:wv) (mg:Str->Option bn) (fa:ci) (h:lw),(K w.params).In h->h.Ns ii mg->mg d.name=some (.ref fa)->
   ∃fd:Gc,(∀(s:db) (u:bn),BindsTo s fd ⟨[u],[]⟩ [(x,u)])/\
    ∀base:lw,(K w.params).In base->base.Ns ii mg->fy l.prog w (K w.params) mg base (CX w) k fa fd [x] (sp w))
  (Lh:∀(w:wv) (H:Hp) (a:ci) (ns:O Int),ns.length<=n->Om H->b9 (K w.params) H a (ns.map V.int)->sp w [.ref a] H (λv _=>v=.bl true) λ_ _ _=>False)
  (Zy:∀(w:wv) (H:Hp) (s:db) (e:bn) (s':db),CX w [] H s (λ_ _ _=>False) e s'->False) :
  PySem.W.WalkO q Ô XP YP l.row.toRowW d [] (λf vs=>FN f vs):=by
 refine Att.wQ hn VL λw s₀ s₁ mg mb fa o pm cd É a vs ns G Y ho hd gB hmg RH Ø Â hg=>?_;have KX:=hY w _ Y;obtain⟨fd,hb,hF⟩:=F w mg fa _ KX G.T.g hmg;exact Jr KX G.T.g G.T.b G.T.builtins G.T.nolimit G.T.bmain hg RH Ø (AQ Â hn2) hr hF hb (λH hO hS=>Lh w H a ns Â hO hS) λH e s'=>Zy w H s₁ e s'
end L2
variable{B:Prop}
namespace L2
def dI(s:sK):Arguments:=match s with
 | .FunctionDef _ a _ _ _ _ _ _ _ _=>a
 | _=>{posonlyargs:=[],args:=[],vararg:=bd,kwonlyargs:=[],kw_defaults:=[],kwarg:=bd,defaults:=[]}
def b0(s:sK):O sK:=match s with
 | .FunctionDef _ _ b _ _ _ _ _ _ _=>b
 | _=>[]
def ay(s:sK):r9:=match s with
 | .FunctionDef _ _ _ _ _ _ sc _ _ _=>sc
 | _=>{kind:=.function,names:=[],isGenerator:=false,isCoroutine:=false}
abbrev pP:K9:=λ_ _ _ _ _ _=>False
abbrev E0:XK:=λ_ _ _=>False
def UU:Passes pP X E0:=λ_ _ _ _ _ _ _ h=>h.elim
structure Lo(K:Ab)(x qual:Str)(st:sK)(f:ci)(fd:Gc):Prop where
 ex:∃(oc:bn) (od:Option ci) (kV É pm:bn) (an:Option ci) (dM ct:bn) (Mv:Array (Option bn)),
  fd=BP x qual (dI st) (b0 st) (ay st) .none kV É pm an dM ct/\K.lookup f=some ⟨oc,od,.func fd,Mv⟩/\DZ K dM qual=true
 kp:DY K (.ref f)=true
section
variable{K:Ab}
def Lo.ok{st:sK}{f:ci}{N:O Str}{sp:Sp}(F:Lo K x qual st f fd)(S:cy N ps (ay st))(len:∀vs H Q E,sp vs H Q E->vs.length=ps.length)
  (JU:∀(dM:bn) (A:Ch) (outer:O Env) (s:db) (H:Hp) (vs:O V) (Q:VK) (E:XK),d4 k (A.deeper (EQ qual (ay st) s.heap.objs.size f dM))->sp vs H Q E->
   ∃t,nV (qp pP P w K mg base N qual (ay st) f dM A outer s H E).OT (b0 st) t/\t {nx:=λ_ H'=>Q .aK H',rt:=Q} (start N vs) H):fy P w K mg base pP (k+1) f fd ps sp:=by
 obtain⟨oc,od,kV,É,pm,an,dM,ct,Mv,rfl,lk,gB⟩:=F.ex;refine VZ lk gB S len λA outer s H vs Q E hr Lh=>?_;obtain⟨t,h,q⟩:=JU dM A outer s H vs Q E hr Lh;exact⟨t,h.OT,q⟩
def Lo.binds{st:sK}{f:ci}(F:Lo K x qual st f fd)
  (h:∀(kV É pm:bn) (an:Option ci) (dM ct:bn) (us:O bn),us.length=ps.length->bindArgs (BP x qual (dI st) (b0 st) (ay st) .none kV É pm an dM ct) ⟨us,[]⟩=pure (ps.zip us)):Binds K fd ps []:=by
 obtain⟨oc,od,kV,É,pm,an,dM,ct,Mv,rfl,lk,gB⟩:=F.ex;exact .all (h kV É pm an dM ct)
def RT{st:sK}{f:ci}{kV:bn}(l:K.lookup f=some ⟨oc,od,.func (BP x qual (dI st) (b0 st) (ay st) .none kV É pm an dM ct),Mv⟩)
  (c:DZ K dM qual=true) (k:DY K (.ref f)=true):Lo K x qual st f (BP x qual (dI st) (b0 st) (ay st) .none kV É pm an dM ct):=⟨⟨oc,od,kV,É,pm,an,dM,ct,Mv,rfl,l,c⟩,k⟩
end
def Gj(h:n<=1000):n < sizeLine:=D8 h ⋯
def vX{A:Prop}(h:B):if false=true then A else B:=by
 exact h
def vW{A:Prop}(h:A):if true=true then A else B:=by
 exact h
def iu(H H':Hp):Prop:=∀b o,H b=some o->H' b=some o
def iu.refl(H:Hp):iu H H:=λ_ _ h=>h
end L2
variable{a b:Nat}{H2:L2.Hp}{R:PySem.Result->C8->Prop}{Xs:PySem.Scope}{N':O BW}{ix:O (Option Nat)}{Ä:Bu}{Ì:O Bu}{px kS:CJ}
namespace L2
def Xd{o:Obj}(e:h.get? b=some o):b < h.objs.size:=An e
def neN(h:a≠b):a≠b:=h
def ltN(h:a < b):a < b:=h
def PB{c:Nat}{v:Option bn}(q:h.IsCell c v):c < h.objs.size:=q.lt
structure a9(Xs:r9)(N:List Str)(sc:r9)(N':List Str)(ix:List (Option Nat)):Prop where
 kind:sc.kind=.function
 nc:∀y∈sc.names,y.2≠.cell
 loc:∀y∈sc.names,y.2=.local->sc.names.lookup y.1=some .local
 fr:∀y∈sc.names,y.2=.free->(Xs.names.lookup y.1=some .cell\/Xs.names.lookup y.1=some .free)
 nd:N'.Nodup
 len:ix.length=N'.length
 map:((ix.zip N').all λp=>match p.1 with | none=>true | some j=>decide (N[j]?=some p.2)&&decide (sc.names.lookup p.2=some .free))=true
def a9.at{N:O Str}(S:a9 Xs N sc N' ix){i:Nat}(h1:ix[i]?=some (some j))(h2:N'[i]?=some x) :
  N[j]?=some x/\sc.names.lookup x=some .free:=by
 have hm:((some j,x):Option Nat×Str)∈ix.zip N':=by
  refine A5 (i:=i) ?_;rw[List.getElem?_zip_eq_some];exact⟨h1,h2⟩
 have q:=Dr.mp S.map _ hm;simp only[AJ,decide_eq_true_eq]at q;exact q
def lQ(ix:O (Option Nat))(σ:St):St:=ix.map λo=>match o with | some j=>(σ[j]?).getD bd | none=>bd
def eD(X:Cx)(sc:r9)(N':O Str)(cl:O (Str×ci))(C:ci)(s2:db)(H2:Hp)(fp:O ci):Cx where
 prog:=X.prog
 w:=X.w
 K:=X.K
 mg:=X.mg
 base:=X.base
 A:=X.A
 N:=N'
 s₀:=s2
 H₀:=H2
 env:=compEnvC sc cl C X.env
 outer:=X.stack
 stack:=X.stack
 ex:=fp
 calm:=X.calm
 fn:=λ_=>false
 pn:=[]
 xe:=λ_ _=>False
theorem kC:∀(names:O (Str×wE)) (cs:O (Str×ci)),(∀y∈names,y.2=.free->∃c,env.cells.lookup y.1=some c)->
  ∃cl,(forIn names cs λ(x:Str×wE) (c:O (Str×ci))=>(match x with | (name,kind)=>do
    let c <- if (kind==Be)=true then do let a <- cellOf env name;pure ((name,a)::c) else pure c
    pure (Cg c):Sem (ForInStep (O (Str×ci)))))=pure cl/\(∀x c,cl.lookup x=some c->cs.lookup x=some c\/(env.cells.lookup x=some c/\(x,Be)∈names))/\(∀x,((x,Be)∈names\/(∃c,cs.lookup x=some c))->∃c,cl.lookup x=some c)
 | [],cs,_=>⟨cs,rfl,λ_ _ h=>.inl h,λx h=>h.elim (λz=>nomatch z) λz=>z⟩
 | (n,k)::r,cs,h=>by
  by_cases hk:k=.free
  ·subst hk;obtain⟨c,hc⟩:=h (n,.free) Br rfl;obtain⟨cl,e,h1,h2⟩:=kC r ((n,c)::cs) λy hy=>h y (AY _ hy);refine⟨cl,?_,λx d hd=>?_,λx hx=>?_⟩
   ·rw[Bt,<- e];simp only[beq_self_eq_true,if_true,cellOf,hc,pure_bind]
   ·rcases h1 x d hd with z | ⟨z1,z2⟩
    ·rw[Bk]at z;by_cases hx:(x==n)=true
     ·rw[hx]at z;have qh:x=n:=eq_of_beq hx;subst qh;cases z;exact .inr ⟨hc,Br⟩
     ·have qh:(x==n)=false:=by simpa using hx
      rw[qh]at z;exact .inl z
    ·exact .inr ⟨z1,AY _ z2⟩
   ·refine h2 x ?_;rcases hx with hx | ⟨d,hd⟩
    ·rcases AH.mp hx with z | z
     ·injection z with z1 _;subst z1;exact .inr ⟨c,by rw[Bk];simp⟩
     ·exact .inl z
    ·by_cases hx:(x==n)=true
     ·exact .inr ⟨c,by rw[Bk,hx]⟩
     ·have qh:(x==n)=false:=by simpa using hx
      exact .inr ⟨d,by rw[Bk,qh];exact hd⟩
  ·obtain⟨cl,e,h1,h2⟩:=kC r cs λy hy=>h y (AY _ hy);refine⟨cl,?_,λx d hd=>?_,λx hx=>?_⟩
   ·have hb:(k==Be)=false:=by simpa using hk
    rw[Bt,<- e];simp only[hb,Aq,if_false,pure_bind]
   ·rcases h1 x d hd with z | ⟨z1,z2⟩
    ·exact .inl z
    ·exact .inr ⟨z1,AY _ z2⟩
   ·refine h2 x ?_;rcases hx with hx | hx
    ·rcases AH.mp hx with z | z
     ·injection z with _ z2;exact absurd z2.symm hk
     ·exact .inl z
    ·exact .inr hx
def jW(h:∀y∈sc.names,y.2=.free->∃c,env.cells.lookup y.1=some c) :
  ∃cl,closureFor sc env=pure cl/\(∀x c,cl.lookup x=some c->env.cells.lookup x=some c/\(x,Be)∈sc.names)/\(∀x,(x,Be)∈sc.names->∃c,cl.lookup x=some c):=by
 obtain⟨cl,e,h1,h2⟩:=kC (env:=env) sc.names [] h;refine⟨cl,?_,λx c hc=>(h1 x c hc).resolve_left (λz=>nomatch z),λx hx=>h2 x (.inl hx)⟩;unfold closureFor;have e':(forIn sc.names ([]:O (Str×ci)) λx r=>(match x with | (name,kind)=>if (kind==Be)=true then do let a <- cellOf env name;pure (Cg ((name,a)::r)) else pure (Cg r):Sem (ForInStep (O (Str×ci)))))=pure cl:=by
  rw[<- e]
  first
   | rfl
   | (
     congr 1;funext x r;obtain⟨n,k⟩:=x;by_cases hk:(k==Be)=true
     ·simp only[hk,if_true,pure_bind]
     ·simp only[hk,if_false,pure_bind,Aq])
   | simp only[pure_bind]
 simpa using e'
theorem eY{env:Env}:∀{names:O (Str×wE)}{x:Str},
  (names.map λ(n,k)=>if (k==Be&&env.scope.kind==.function&&env.kindOf n==some .cell) then (n,Fp) else (n,k)).lookup x =
   (names.lookup x).map λk=>if (k==Be&&env.scope.kind==.function&&env.kindOf x==some .cell) then Fp else k
 | [],_=>rfl
 | (n,k)::r,x=>by
  have ih:=@eY env r x;show List.lookup x ((if (k==Be&&env.scope.kind==.function&&env.kindOf n==some .cell)=true then (n,Fp) else (n,k))::_)=_;cases hx:x==n with
  | true=>
   have e:=eq_of_beq hx;subst e;by_cases hc:(k==Be&&env.scope.kind==.function&&env.kindOf x==some .cell)=true
   ·rw[if_pos hc,Bk,Bk,hx];simp only[BJ,hc,if_true]
   ·rw[if_neg hc,Bk,Bk,hx];simp only[BJ,hc,if_false];simp
  | false=>
   by_cases hc:(k==Be&&env.scope.kind==.function&&env.kindOf n==some .cell)=true
   ·rw[if_pos hc,Bk,Bk,hx];exact ih
   ·rw[if_neg hc,Bk,Bk,hx];exact ih
def Tp(X:Cx)(Ì:O im)(t:TT):Prop:=
 ∀(Z:O (ci×Obj)) (s:db) (σ:St) (H:Hp) (Q:Bool->Hp->Prop),Inv X Z σ H s->t σ H Q->
  cr (f8 X.prog X.w) X.A (forIn Ì true λc r=>if r=true then do let ok <- isTrue c X.env (kt c X.env);pure (Cg ok) else pure (Cg r)) (TP X Z σ Q) X.xe s
def Yf:TT:=λ_ H Q=>Q true H
def Ml:Tp X [] Yf:=λZ s σ H Q I h=>by
 exact Ae ⟨H,I,h⟩
def Mk{c:im}{t:TT}(hc:PT X c t):Tp X [c] t:=λZ s σ H Q I h=>by
 rw[Bt];simp only[if_true,bind_assoc,pure_bind];refine Aa (bh (hc Z s σ H Q I h) λb s1 q=>?_);exact Ae q
def Ya(ix:O (Option Nat))(wi:TI)(g:TG)(tf:TT)(te:TE):TE:=λσ H Q=>wi σ H λJ H1=>∀D,H1 D=bd->∃W:Nat->Nat->St->O V->Hp->Prop,
 (∃m,W 0 m (lQ ix σ) [] (upd H1 D (.lst [])))/\∀i m σ' ys H,W i m σ' ys H->H D=some (.lst ys)/\
  ((J.stop i H/\Q (.ref D) H)\/(J.go i H/\∀x H',J.OA i H x H'->g x σ' H' λσ2 H2=>tf σ2 H2 λb H3=>
   if b=true then te σ2 H3 λy H4=>H4 D=some (.lst ys)/\ys.length+1<=sizeLine/\∃m',m' < m/\W (i+1) m' σ2 (ys++[y]) (upd H4 D (.lst (ys++[y]))) else ∃m',m' < m/\W (i+1) m' σ2 ys H3))
def jM{Ê:im}{pos:Pos}{it acc:bn}(I:Nat->db->Prop)
  (Ð:∀n s,I n s->cr (f8 prog w) A (Ev it) (λr s₁=>match r with
   | none=>R (.ok .next) s₁
   | some v=>cr (f8 prog w) A (GT Ê it v) (λ_ OD=>cr (f8 prog w) A (zn Ê env v) (λ_ s₂=>
     cr (f8 prog w) A (forIn Ì true λc r=>if r=true then do let ok <- isTrue c env (kt c env);pure (Cg ok) else pure (Cg r)) (λok s₃=>
      if ok=true then cr (f8 prog w) A (kt Ä env) (λx s₄=>
       cr (f8 prog w) A (call (.builtin "list.append") [acc,x]) (λ_ s₅=>∃m,m < n/\I m s₅) (λ_ _=>False) s₄) (λ_ _=>False) s₃
      else ∃m,m < n/\I m s₃) (λ_ _=>False) s₂) (λ_ _=>False) OD) (λ_ _=>False) s₁) (λ_ _=>False) s)
  (n:Nat) (h:I n s) :
  Db (f8 prog w) A (.compLoop (.ListComp Ä [⟨Ê,iter,Ì,0⟩] scope pos) 0 it acc env) R s:=by
 refine codeAny_loop rfl I (λn s hI=>?_) n h;refine wpAny_noted ?_;rw[compTurn_list];refine Aa (Ek (Aa (B4 (Ð n s hI) (λr s₁ h₁=>?_) λ_ _ h'=>h'.elim)));cases r with
 | none=>exact Ae h₁
 | some v=>
  refine Aa (B4 h₁ (λ_ OD Vs=>?_) λ_ _ h'=>h'.elim);refine Aa (B4 Vs (λ_ s₂ h₂=>Aa (B4 h₂ (λok s₃ h₃=>?_) λ_ _ h'=>h'.elim)) λ_ _ h'=>h'.elim);cases ok with
  | false=>exact Ae ⟨rfl,h₃⟩
  | true=>
   have Vr:cr (f8 prog w) A (kt Ä env) (λx s₄=>
       cr (f8 prog w) A (call (.builtin "list.append") [acc,x]) (λ_ s₅=>∃m,m < n/\I m s₅) (λ_ _=>False) s₄) (λ_ _=>False) s₃:=h₃
   exact Aa (Aa (B4 Vr (λx s₄ h₄=>Aa (B4 h₄ (λ_ s₅ h₅=>Ae (Ae ⟨rfl,h₅⟩)) λ_ _ h'=>h'.elim)) λ_ _ h'=>h'.elim))
section
variable{pos:Pos}{g:TG}{tf:TT}
structure WQ(X:Cx)(Z:List (ci×Obj))(H:Hp)(C:ci):Prop where
 hn:H C=bd
 hL:C≠X.env.locals
 ab:X.s₀.heap.objs.size<=C
 cl:∀x c,X.env.cells.lookup x=some c->c≠C
 pn:∀p∈X.pn++Z,p.1≠C
theorem zF(hc:X.calm=true)(S:a9 X.env.scope X.N sc N' ix)
  (hg:∀cl C s2 H2 fp,PG (eD X sc N' cl C s2 H2 fp) tg g) (hf:∀cl C s2 H2 fp,Tp (eD X sc N' cl C s2 H2 fp) Ì tf) (he:∀cl C s2 H2 fp,PE (eD X sc N' cl C s2 H2 fp) Ä te) {s2:db}{cl:O (Str×ci)} (o8:∀x c,cl.lookup x=some c->X.env.cells.lookup x=some c/\(x,Be)∈sc.names) (G0:∀x,(x,Be)∈sc.names->∃c,cl.lookup x=some c) {tn:Nat->lw->Prop}{J:It}{Q:VK} (I2:Inv X Z σ H2 s2) (T:Turn X.prog X.w X.K tg J fp it tn) (LR:tn 0 s2.heap) (f2:∀b∈fp,qB X Z H2 b)
  (hW:∀D,H2 D=bd->∃W:Nat->Nat->St->O V->Hp->Prop,
   (∃m,W 0 m (lQ ix σ) [] (upd H2 D (.lst [])))/\∀i m σ' ys H,W i m σ' ys H->H D=some (.lst ys)/\
    ((J.stop i H/\Q (.ref D) H)\/(J.go i H/\∀x H',J.OA i H x H'->g x σ' H' λσ2 H2=>tf σ2 H2 λb H3=>
     if b=true then te σ2 H3 λy H4=>H4 D=some (.lst ys)/\ys.length+1<=sizeLine/\∃m',m' < m/\W (i+1) m' σ2 (ys++[y]) (upd H4 D (.lst (ys++[y]))) else ∃m',m' < m/\W (i+1) m' σ2 ys H3)))
  {RR:bn->ci->Result->db->Prop}{E:bn->db->Prop}
  (hRR:∀D C m s' H',Inv X Z σ H' s'->Q (.ref D) H'->s'.heap.Ns C m->WQ X Z H' C->RR (.ref D) C (.ok .next) s') :
  cr (f8 X.prog X.w) X.A (newList []) (λacc s₃=>cr (f8 X.prog X.w) X.A (newFunctionEnv sc X.env.globals cl [] X.env.qual bd .none (some X.env)) (λWv s₄=>
   Db (f8 X.prog X.w) X.A (.compStart (.ListComp Ä [⟨tg,iter,Ì,0⟩] sc pos) 0 (.ref it) acc {Wv with scope:=relabel sc X.env}) (RR acc Wv.locals) s₄) E s₃) E s2:=by
 refine Bl (wpAny_newFunctionEnv S.nc (by intro y hy;simp at hy) (λh₁ yd tD=>?_) S.kind);generalize Zw:s2.heap.push {cls:=.type "list",dict:=bd,data:=.seq ([]:O bn).toArray}=G2 at yd tD ⊢;have hC:G2.objs.size=s2.heap.objs.size+1:=by rw[<- Zw,CF]
 obtain⟨D,hD⟩:∃D:Nat,s2.heap.objs.size=D:=⟨_,rfl⟩;obtain⟨C,hCC⟩:∃C:Nat,G2.objs.size=C:=⟨_,rfl⟩;simp only[hD,hCC]at yd tD hC ⊢;have hDC:D≠C:=by omega
 have Í:∀b o,s2.heap.get? b=some o->h₁.get? b=some o:=λb o e=>by
  have hb:=Xd e;exact tD.extBut b o (neN ∅) (Ai _ (Zw▸Ai _ e))
 have VN:h₁.get? D=some {cls:=.type "list",data:=.seq ([]:O bn).toArray}:=by
  refine tD.extBut D _ hDC (Ai _ ?_);rw[<- Zw,<- hD];exact Ap _ rfl
 have hD2:H2 D=bd:=I2.aY.fresh ∅;have hC2:H2 C=bd:=I2.aY.fresh ∅;obtain⟨W,⟨m0,w0⟩,Ð⟩:=hW D hD2;have Py:∀x c,cl.lookup x=some c->∃v,s2.heap.IsCell c v:=λx c e=>I2.cell x c (o8 x c e).1;have ZX:∀x c,cl.lookup x=some c->c < D:=λx c e=>by
  obtain⟨v,q⟩:=Py x c e;have:=PB q;exact ltN ∅
 have ZK:∀b∈fp,b < D:=λb hb=>by
  obtain⟨o,e,_⟩:=T.obj 0 _ LR b hb;have:=Xd e;exact ltN ∅
 have Yok:(eD X sc N' cl C s2 H2 fp).Ok:=by
  refine⟨I2.ok.mod,S.kind,I2.ok.glob,I2.ok.blt,?_,?_,?_,?_,I2.ok.hd,I2.ok.frames,.inl rfl,?_,I2.bs,?_,?_,?_,I2.stack,I2.zb⟩
  ·show s2.heap.objs.size<=C;omega
  ·intro x y c e1 e2;exact I2.ok.inj x y c (o8 x c e1).1 (o8 y c e2).1
  ·intro x hx;have qh:(relabel sc X.env).names.lookup x=some .cell\/(relabel sc X.env).names.lookup x=some .free:=hx;unfold relabel at qh;rw[eY]at qh;cases q:sc.names.lookup x with
   | none=>rw[q]at qh;simp at qh
   | some k=>
    have hm:=BG q;by_cases hk:k=.free
    ·subst hk;exact G0 x hm
    ·have hk2:k≠.cell:=S.nc _ hm;rw[q]at qh;have hb:(k==Be)=false:=by simpa using hk
     simp only[BJ,hb,D9,Aq,if_false]at qh;rcases qh with z | z
     ·exact absurd (Option.some.inj z) hk2
     ·exact absurd (Option.some.inj z) hk
  ·intro x c VI;exact absurd VI A2
  ·intro b hb;refine⟨?_,λx c e z=>(f2 b hb).2.2.2.2.1 x c (o8 x c e).1 z⟩;show b≠C;have:=ltN (ZK b hb);exact neN ∅
  ·exact AQ I2.ok.PF I2.sz
  ·intro b o e hb;rcases (f2 b hb).2.2.2.1 with z | z
   ·exact I2.ok.Jf b o e z
   ·have h1:=Xd (h:=X.base) e;have h2:=I2.ok.PF;omega
  ·intro b hb z;rcases AH.mp (I2.xk b z) with q | q
   ·exact(f2 b hb).2.1 q
   ·exact(f2 b hb).2.2.1 q
 have un0:Un (HF X.stack) fp H2 (upd H2 D (.lst [])) s2.heap h₁:=Un.laid Í ∅ hD2;have Y9:jd X.prog X.w (upd H2 D (.lst [])) h₁:=I2.aY.laid Í ∅ ⟨Bx _,[],0,.nil,VN⟩;have IY:∀tk,Inv (eD X sc N' cl C s2 H2 fp) [] (lQ ix σ) (upd H2 D (.lst [])) {s2 with heap:=h₁,toks:=tk}:=λtk=>by
  refine⟨Yok,rfl,I2.bare,un0,⟨_,yd,λi x v e1 e2 e3=>?_⟩,λx c e=>?_,?_,λx c e=>?_,λp hp=>absurd (show p∈([]:O (ci×Obj)) from hp) (by simp),Y9,?_⟩
  ·have nA:N'[i]?=some x:=e1;unfold lQ at e2;rw[Aj]at e2;cases q:ix[i]? with
   | none=>rw[q]at e2;cases e2
   | some o=>
    cases o with
    | none=>rw[q]at e2;cases e2
    | some j=>
     rw[q]at e2;have XQ:(σ[j]?).getD bd=some v:=Option.some.inj e2;have e4:σ[j]?=some (some v):=by
      cases z:σ[j]? with
      | none=>rw[z]at XQ;cases XQ
      | some y=>rw[z]at XQ;exact congrArg some XQ
     obtain⟨a1,a2⟩:=S.at q nA;have Vz:=BG a2;have hk:=S.fr _ Vz rfl;obtain⟨m,_,hl⟩:=I2.loc;obtain⟨u,r,l⟩:=hl j x v a1 e4 (.inr hk);refine⟨u,r,.inr ⟨?_,?_⟩⟩
     ·show(relabel sc X.env).names.lookup x=some .cell\/(relabel sc X.env).names.lookup x=some .free;unfold relabel;rw[eY,a2];by_cases hb:(X.env.scope.kind==.function&&X.env.kindOf x==some .cell)=true
      ·left
       simp only[BJ,beq_self_eq_true,Bool.true_and,hb,if_true]
      ·right
       simp only[BJ,beq_self_eq_true,Bool.true_and,hb,if_false,Aq]
     ·obtain⟨c,hcx⟩:=G0 x Vz;have hcX:=(o8 x c hcx).1;refine⟨c,hcx,?_⟩;rcases l with⟨k,_⟩ | ⟨k,c',e',z⟩
      ·have k':X.env.scope.names.lookup x=some .local:=k;rcases hk with y | y <;> rw[k']at y <;> cases y
      ·rw[hcX]at e';cases e';obtain⟨o,ho,hd⟩:=z;exact⟨o,Í _ _ ho,hd⟩
  ·obtain⟨v,o,ho,hd⟩:=Py x c e;exact⟨v,o,Í _ _ ho,hd⟩
  ·show upd H2 D (.lst []) C=bd;rw[ar (BD hDC)];exact hC2
  ·have jH:=ltN (ZX x c e);show upd H2 D (.lst []) c=bd;rw[ar (neN ∅)];exact I2.iB x c (o8 x c e).1
  ·unfold lQ;rw[Ag];exact S.len
 have ZJ:∀{vn:O (ci×Obj)}{H':Hp},(∀b∈fp,H' b=bd)->(∀p∈vn,p.1∉fp)->∀b∈fp,qB (eD X sc N' cl C s2 H2 fp) vn H' b:=λhn hp b hb=>by
  refine⟨hn b hb,?_,?_,.inl hb,λx c e z=>(f2 b hb).2.2.2.2.1 x c (o8 x c e).1 z,λp Y7 z=>?_⟩
  ·show b≠C;have:=ltN (ZK b hb);exact neN ∅
  ·exact Yok.Ka b hb
  ·have Y6:p∈([]:O (ci×Obj))++_:=Y7;exact hp p Y6 (z▸hb)
 have ã:∀s₃:db,s₃={s2 with heap:=h₁,toks:=s2.toks+([]:O (Str×bn)).length}->
   Db (f8 X.prog X.w) X.A (.compLoop (.ListComp Ä [⟨tg,iter,Ì,0⟩] sc pos) 0 (.ref it) (.ref D) (compEnvC sc cl C X.env)) (RR (.ref D) C) s₃:=by
  rintro s₃ rfl;refine jM (λn s'=>∃i σ' ys H',Inv (eD X sc N' cl C s2 H2 fp) [] σ' H' s'/\tn i s'.heap/\(∀b∈fp,H' b=bd)/\W i n σ' ys H') ?_ m0
   ⟨0,_,[],_,IY _,T.keep _ _ _ LR (λb _ o e=>Í b o e),λb hb=>by rw[ar (AA (ZK b hb))];exact(f2 b hb).1,w0⟩
  rintro n s3 ⟨i,σ3,ys,H3,I3,Um,VT,w3⟩;obtain⟨hDl,w3⟩:=Ð i n σ3 ys H3 w3;rcases w3 with⟨stop,qn⟩ | ⟨go,step⟩
  ·refine bh (T.done (eD X sc N' cl C s2 H2 fp) rfl rfl rfl hc i [] s3 σ3 H3 _ I3 (ZJ VT (by simp)) Um stop) λr s4 ⟨hr,I4⟩=>?_;subst hr;obtain⟨m,hn,_⟩:=I4.loc;refine hRR D C m s4 H3 (I2.Ww (ch:=fp) I4.os I4.base I4.aY I4.bare λb hb=>?_) qn hn ?_
   ·obtain⟨a0,a1,a2,a3,a4,a5⟩:=f2 b hb;exact⟨a3,a1,a4,a5⟩
   ·refine⟨I4.free,?_,?_,λx c e z=>?_,λp hp z=>?_⟩
    ·have:=ltN I2.lt;exact neN ∅
    ·have:=I2.sz;omega
    ·obtain⟨v,q⟩:=I2.cell x c e;have:=PB q;exact neN (a:=c) (b:=C) ∅ z
    ·have:=Xd (I2.pin p hp).1;exact neN (a:=p.1) (b:=C) ∅ z
  ·refine bh (T.item (eD X sc N' cl C s2 H2 fp) rfl rfl rfl hc i [] s3 σ3 H3 (λ_ _=>False) I3 (ZJ VT (by simp)) Um go) λr s4 ⟨u,hr,h4⟩=>?_;subst hr;refine bh h4 λ_ s5 ⟨x,H5,I5,r5,y5,Qe,ZI⟩=>?_;have Z6:=I5.pinned (ZJ ZI (by simp)) (T.obj _ _ Qe);refine bh (hg _ _ _ _ _ _ s5 σ3 H5 x u _ Z6 r5 (step x H5 y5)) λ_ s6 ⟨σ6,H6,I6,q6⟩=>?_;refine bh (hf _ _ _ _ _ _ s6 σ6 H6 _ I6 q6) λb s7 ⟨H7,I7,q7⟩=>?_;have Jx:∀{s8:db}{σ8:St}{H8:Hp},Inv (eD X sc N' cl C s2 H2 fp) ([]++mh fp s5.heap) σ8 H8 s8->tn (i+1) s8.heap/\∀b∈fp,H8 b=bd:=λ{s8 σ8 H8} I8=>by
    refine⟨T.keep _ _ _ Qe λb hb o e=>(I8.pin (b,o) (AU _ (AU _ (gQ hb e)))).1,λb hb=>?_⟩;obtain⟨o,e,d⟩:=T.obj _ _ Qe b hb;exact(I8.pin (b,o) (AU _ (AU _ (gQ hb e)))).2.1
   cases b with
   | false=>
    have q7':=q7;obtain⟨m',hm,w7⟩:=q7';obtain⟨t7,fr7⟩:=Jx I7;exact⟨m',hm,i+1,σ6,ys,H7,I7.iM,t7,fr7,w7⟩
   | true=>
    refine bh (he _ _ _ _ _ _ s7 σ6 H7 _ I7 q7) λyv s8 ⟨y,H8,I8,r8,hD8,hz8,m',hm,w8⟩=>?_;obtain⟨z,aj,k,rv,hl8,e8⟩:=I8.mm hD8;obtain⟨t8,fr8⟩:=Jx I8;refine wpAny_list_append_plain (s:=s8) (items:=aj.toArray) (hsz:=by rw[Af];omega) ⟨_,e8⟩ λh9 hl9 hs9=>?_;obtain⟨k9,e9⟩:=hl9;have hv9:=Vals.append rv (.cons r8 .nil);have I9:Inv (eD X sc N' cl C s2 H2 fp) ([]++mh fp s5.heap) σ6 (upd H8 D (.lst (ys++[y]))) {s8 with heap:=h9,toks:=s8.toks}:=by
     refine I8.write (x:=D) (e:=D) (by rw[hD8];exact trivial) (.inl rfl) (λb u hb hu=>(hs9.2 b hb).trans hu) ⟨_,e9⟩ ?_;refine⟨by rw[Ah,EY];exact hz8,aj++[yv],k9,hv9,?_⟩;rw[e9];simp
    obtain⟨t9,fr9⟩:=Jx I9;exact⟨m',hm,i+1,σ6,_,_,I9.iM,t9,fr9,w8⟩
 exact codeAny_compStart_list (ã _ rfl) (T.self _ 0 _ _ _ (T.keep _ _ _ LR λb _ o e=>Í b o e) (ã _ rfl))
def UR(hc:X.calm=true)(S:a9 X.env.scope X.N sc N' ix)(hi:PI X tg iter wi)
  (hg:∀cl C s2 H2 fp,PG (eD X sc N' cl C s2 H2 fp) tg g) (hf:∀cl C s2 H2 fp,Tp (eD X sc N' cl C s2 H2 fp) Ì tf) (he:∀cl C s2 H2 fp,PE (eD X sc N' cl C s2 H2 fp) Ä te)
  (hs:qC X iter:=by intro _;rfl):PE X (.ListComp Ä [⟨tg,iter,Ì,0⟩] sc pos) (Ya ix wi g tf te):=by
 intro Z s σ H Q I h;have yf:∀y∈sc.names,y.2=.free->∃c,X.env.cells.lookup y.1=some c:=λy hy hk=>I.ok.has y.1 (S.fr y hy hk);obtain⟨cl,JT,o8,G0⟩:=jW yf;refine Em (use:=bd) rfl hs JT S.kind S.loc (bh (hi Z s σ H _ I h) λv s1 h1=>bh h1 λXg s2 h2=>?_);obtain⟨it,fp,tn,J,H2,rfl,I2,T,LR,f2,hW⟩:=h2;refine zF (RR:=λacc C=>compPost (f8 X.prog X.w) X.A X.xe bd (EP X Z σ Q) acc C) hc S hg hf he o8 G0 I2 T LR f2 hW λD C m s' H' I' q hn F=>?_;refine⟨m,hn,λh' Y5=>⟨.ref D,H',?_,rfl,q⟩⟩;exact I'.turned (it:=C) (t':=s'.toks) (λb o hb e=>(Y5.2 b hb).trans e) F.hn F.hL (.inr F.ab) F.cl F.pn
def vj{i:Nat}(hc:X.calm=true)(hN:X.N.Nodup)(ye:X.N[i]?=some x)(hx:X.env.scope.names.lookup x=some .local)(S:a9 X.env.scope X.N sc N' ix)(hi:PI X tg iter wi)
  (hg:∀cl C s2 H2 fp,PG (eD X sc N' cl C s2 H2 fp) tg g) (hf:∀cl C s2 H2 fp,Tp (eD X sc N' cl C s2 H2 fp) Ì tf) (he:∀cl C s2 H2 fp,PE (eD X sc N' cl C s2 H2 fp) Ä te)
  (oZ:lm (.ListComp Ä [⟨tg,iter,Ì,0⟩] sc pos) (some (.Name x px)) kS.line X.env=pure true:=by rfl)
  (hs:qC X iter:=by intro _;rfl):PS X (.Assign [.Name x px] (.ListComp Ä [⟨tg,iter,Ì,0⟩] sc pos) kS) (P9 (Ya ix wi g tf te) (cP i)):=by
 intro Z s σ H D0 I h;rw[exec_Assign_Name_used _ _ _ _ oZ];refine Aa (Ek (Aa ?_));show cr _ X.A (do let _ <- comprehension (.ListComp Ä [⟨tg,iter,Ì,0⟩] sc pos) sc X.env _ (newList []) false (kt iter X.env) (some (zn (.Name x px) X.env))) _ _ s;have yf:∀y∈sc.names,y.2=.free->∃c,X.env.cells.lookup y.1=some c:=λy hy hk=>I.ok.has y.1 (S.fr y hy hk);obtain⟨cl,JT,o8,G0⟩:=jW yf;refine Aa (B4 (Em (use:=some (zn (.Name x px) X.env)) (Q:=λ_ s'=>SP X Z D0 .next s') rfl hs JT S.kind S.loc (bh (hi Z s σ H _ I h) λv s1 h1=>bh h1 λXg s2 h2=>?_)) (λ_ s' hq=>Ae (Ae hq)) λ_ _ e=>e);obtain⟨it,fp,tn,J,H2,rfl,I2,T,LR,f2,hW⟩:=h2;refine zF (RR:=λacc C=>compPost (f8 X.prog X.w) X.A X.xe (some (zn (.Name x px) X.env)) (λ_ s'=>SP X Z D0 .next s') acc C) (Q:=λx H1=>cP i x σ H1 D0.nx) hc S hg hf he o8 G0 I2 T LR f2 hW λD C m s' H' I' q hn F=>?_;show cr _ X.A (zn (.Name x px) X.env (.ref D)) _ _ _;refine wpAny_assign_Name (qF (v:=.ref D) I' hN ye (.inl hx) rfl (λUv I'' Y3=>?_) (.inr hx));obtain⟨a,Y3,ha⟩:=Y3;have haC:C≠a:=by
  rcases ha with z | z
  ·rw[z];exact F.hL
  ·exact BD (F.cl _ _ z)
 refine⟨m,hn.sameBut Y3 haC,λh' Y5=>⟨_,H',?_,q⟩⟩;exact I''.turned (it:=C) (t':=Uv.toks) (λb o hb e=>(Y5.2 b hb).trans e) F.hn F.hL (.inr F.ab) F.cl F.pn
end
end L2
variable{a o b:Bu}{tl:L2.TE}
namespace L2
section
def m9:bt X (.builtin "isinstance") (λxs H Q=>∃x c t b,xs=[x,.ty c]/\jO X.K H x t/\Bp X.K t (.type c)=some b/\Q (.bl b) H):=by
 intro Z s σ H xs us Q I r h;obtain⟨x,c,t,b,rfl,ty,hk,q⟩:=h;obtain⟨u,w',rfl,ru,ve⟩:=vals2 r;cases (show w'=Cr c from ve);exact GS I ru ty hk λtk=>⟨.bl b,H,I.tok _,rfl,q⟩
def Gz(hu:X.A.units < pr):gF X (py .NotEq) (λx y H Q=>∃p q xs,x=.ref p/\y=.ref q/\b9 X.K H p xs/\b9 X.K H q []/\Q (.bl (!xs.isEmpty)) H):=by
 intro Z s σ H x y v u Q I rx ry h;obtain⟨p,q,xs,rfl,rfl,hp,hq,k⟩:=h;cases rx;cases ry;obtain⟨aj,r,pl,hz⟩:=I.list hp;obtain⟨bj,r2,UP,hz2⟩:=I.list hq;cases r2;cases xs with
 | nil=>
  cases r;refine Ee (Fs (e:=λ_=>true) pl.isList UP.isList rfl hu λj h1=>absurd h1 (by simp)) ?_;exact⟨.bl false,H,I,rfl,k⟩
 | cons y ys=>
  have hl:=r.length;refine Ee (D1 pl.isList UP.isList (by simp at hl ⊢;intro z;subst z;simp at hl) hu) ?_;exact⟨.bl true,H,I,rfl,k⟩
def wO{bs:O Bool}:∀{us:O bn},Vals (bs.map V.bl) us->us=bs.map BL:=by
 induction bs with
 | nil=>intro us r;rw[EL]at r;cases r;rfl
 | cons n ns ih=>
  intro us r;cases r with
  | cons r1 r2=>
   cases r1;rw[ih r2];rfl
def yL(hc:X.calm=true):bt X (.builtin "all") (λxs H Q=>∃(p:ci) (bs:O Bool),xs=[.ref p]/\b9 X.K H p (bs.map V.bl)/\Q (.bl (bs.all id)) H):=by
 intro Z s σ H xs us Q I r h;obtain⟨p,bs,rfl,hp,q⟩:=h;obtain⟨u,rfl,ru⟩:=vals1 r;cases ru;obtain⟨aj,rv,pl,hz⟩:=I.list hp;have eb:=wO rv;subst eb;have hl:=pl.isList;have jH:p < s.heap.objs.size:=by obtain⟨_,e,_⟩:=hl;exact An e
 refine call_all_walk (CA hl ?_);refine⟨s.heap.objs.size,[s.heap.objs.size,p],[s.heap.objs.size],(bs.map BL).toArray.size,_,_,λi=>(bs[i]?).getD true,rfl,Walks.list (A:=X.A.in1) (I.ok.hd hc) _ p (AA jH) (bs.map BL).toArray,
  ⟨⟨_,Ap _ rfl,rfl,rfl⟩,hl.push _⟩,λi v s' Q' E' hP hQ=>?_,λh' tk hk=>?_⟩
 ·have JW:(bs.map BL)[i]?=some v:=by simpa using hP
  rw[Aj]at JW;cases e:bs[i]? with
  | none=>rw[e]at JW;cases JW
  | some b=>
   rw[e]at JW;cases JW;simp only[e,Option.getD_some]at hQ;exact BX hQ
 ·have e:((Av (bs.map BL).toArray.size).all λi=>(bs[i]?).getD true)=bs.all id:=by
   rw[Af,Ag];exact LSm.range_all bs
  rw[e];exact⟨.bl (bs.all id),H,I.kept (LSm.kept_iter hk),rfl,q⟩
def yK(hc:X.calm=true):bt X (.builtin "any") (λxs H Q=>∃(p:ci) (bs:O Bool),xs=[.ref p]/\b9 X.K H p (bs.map V.bl)/\Q (.bl (bs.any id)) H):=by
 intro Z s σ H xs us Q I r h;obtain⟨p,bs,rfl,hp,q⟩:=h;obtain⟨u,rfl,ru⟩:=vals1 r;cases ru;obtain⟨aj,rv,pl,hz⟩:=I.list hp;have eb:=wO rv;subst eb;have hl:=pl.isList;have jH:p < s.heap.objs.size:=by obtain⟨_,e,_⟩:=hl;exact An e
 refine call_any_walk (CA hl ?_);refine⟨s.heap.objs.size,[s.heap.objs.size,p],[s.heap.objs.size],(bs.map BL).toArray.size,_,_,λi=>(bs[i]?).getD false,rfl,Walks.list (A:=X.A.in1) (I.ok.hd hc) _ p (AA jH) (bs.map BL).toArray,
  ⟨⟨_,Ap _ rfl,rfl,rfl⟩,hl.push _⟩,λi v s' Q' E' hP hQ=>?_,λh' tk hk=>?_⟩
 ·have JW:(bs.map BL)[i]?=some v:=by simpa using hP
  rw[Aj]at JW;cases e:bs[i]? with
  | none=>rw[e]at JW;cases JW
  | some b=>
   rw[e]at JW;cases JW;simp only[e,Option.getD_some]at hQ;exact BX hQ
 ·have e:((Av (bs.map BL).toArray.size).any λi=>(bs[i]?).getD false)=bs.any id:=by
   rw[Af,Ag];exact LSm.range_any bs
  rw[e];exact⟨.bl (bs.any id),H,I.kept (LSm.kept_iter hk),rfl,q⟩
def nj(l:ci)(items:Array bn)(n:Nat)(b:ci)(fc:Array bn)(n2:Nat)(dd:Option ci)(sl:Array (Option bn))(hs0:¬(!items.isEmpty&&Builtin.List.listTooLong (items.size+fc.size))=true)(qi:items.size<=sizeLine)(lV:items.size+fc.size<=sizeLine+1) :
  Meets (ut.«list.extend» ⟨[.ref l,.ref b],[]⟩) (λ_ R s=>s.heap.get? l=some {cls:=.type "list",dict:=bd,data:=.seq items n,slots:=#[]}/\s.heap.get? b=some {cls:=.type "tuple",dict:=dd,data:=.seq fc n2,slots:=sl}/\R (.ok (.ret Bh)) {s with heap:=s.heap.update l (Ck λx=>x++fc),toks:=s.toks}):=
 .of_wp λprog w A R s h=>by
  obtain⟨hp,g,d,tk,os⟩:=s;obtain⟨hl,hb,h⟩:=h;have f1:=EJ;have f2:=Dp;have f3:=DE;have f4:=Dw;have f5:=Dx;have ya:(items++fc).size<=sizeLine+1:=by rw[Ei];exact lV
  wp_walk using (DG hl rfl (hz:=qi) (_hz':=ya)),BM hl,BM hb;exact⟨_,rfl,h⟩
def Iv(K:Ab):V->O V->Hp->VK->Prop:=λx vs H Q=>∃l b xs zs,x=.ref l/\vs=[.ref b]/\H l=some (.lst xs)/\cS K H b zs/\xs.length+zs.length<=sizeLine/\Q .aK (upd H l (.lst (xs++zs)))
theorem xG:Hy X "list.extend" (Iv X.K):=by
 intro Z s σ H x vs v us Q I rx rv h;obtain⟨l,b,xs,zs,rfl,rfl,hH,hB,hz,q⟩:=h;cases rx;obtain⟨u,rfl,ru⟩:=rv.one;cases ru;obtain⟨z,aj,n,r,hl,e⟩:=I.mm hH;obtain⟨bj,r2,⟨⟨cls,dd,data,sl⟩,e2,hc,n2,hd⟩,z2⟩:=I.tuple hB;simp only at hc hd;subst hc hd;have Lj:=r2.length;have hsz:aj.toArray.size+bj.toArray.size<=sizeLine:=by rw[Af,Af];omega
 have o6:¬(!aj.toArray.isEmpty&&Builtin.List.listTooLong (aj.toArray.size+bj.toArray.size))=true:=by
  rw[gh hsz,Cp];exact A2
 refine t0 D3 ⟨_,e,rfl⟩ DQ (Dv _ _)
  (nj l aj.toArray n b bj.toArray n2 dd sl o6 (by rw[Af];omega) ∅) ⟨e,e2,?_⟩
 refine⟨.aK,_,I.xO (its':=aj++bj) hH e (by simp) (r.append r2) ?_,rfl,q⟩;rw[Ah];omega
end
section
variable{lo hi:im}{th:TE}{pos:Pos}
def RS(to tl th:TE):TG:=λv σ H Q=>to σ H λx H1=>tl σ H1 λi H2=>th σ H2 λj H3=>∃l b xs ys a c,x=.ref l/\v=.ref b/\i=.int a/\j=.int c/\H3 l=some (.lst xs)/\H3 b=some (.lst ys)/\l≠b/\0<=a/\a<=c/\c<=xs.length/\xs.length+ys.length<=sizeLine/\
 Q σ (upd H3 l (.lst (xs.take a.toNat++ys++xs.drop c.toNat)))
def IK(ho:PE X o to)(hl:PE X lo tl)(hh:PE X hi th)
  (ha:∀v,zn (.Subscript o (.Slice (some lo) (some hi) bd p2) pos) X.env v=(do
   let ov <- sw [v] (kt o X.env)
   let iv <- sw [v,ov] (kt (.Slice (some lo) (some hi) bd p2) X.env)
   standAt pos
   sw [v,ov,iv] (Da ov iv v)
   release [iv,v,ov] []):=by intro _;rfl):PG X (.Subscript o (.Slice (some lo) (some hi) bd p2) pos) (RS to tl th):=by
 intro Z s σ H v u Q I r h;refine Aa (AX (bh (ho Z s σ H _ I h) λov s1 ⟨x,H1,I1,r1,q1⟩=>?_));refine Aa (AX (wpAny_Slice ?_));rw[evalPart_some,evalPart_some,evalPart_none];refine bh (hl Z s1 σ H1 _ I1 q1) λvl s2 ⟨i,H2,I2,r2,q2⟩=>bh (hh Z s2 σ H2 _ I2 q2) λvu s3 ⟨j,H3,I3,r3,q3⟩=>Ae ?_;obtain⟨l,b,xs,ys,a,c,rfl,rfl,rfl,rfl,hH,hB,JO,h0,S5,hc,hz,q⟩:=q3;cases r;cases r1;have I4:Inv X Z σ H3 {s3 with heap:=s3.heap.push {cls:=.type "slice",data:=.fields #[vl,vu,.none]}}:=I3.kept (t':=s3.toks) λb ob q=>Ai _ q;refine Aa (Ek (Aa (AX (Gm I4 hH hB JO (Heap.IsSliceOf.new ..) r2 r3 h0 S5 hc hz λs' I'=>?_))));exact wpAny_release ⟨σ,_,I',q⟩
end
end L2
variable{k':Nat}
namespace L2
def lT(l:ci)(H H':Hp):Prop:=∀b u,b≠l->H b=some u->H' b=some u
def iO{p:ci}(h:H p=bd)(o:HO):iu H (upd H p o):=λb u q=>by rw[ar (bb q h)];exact q
def Gp{p:ci}(o:HO):lT p H (upd H p o):=λb u n q=>by rw[ar n];exact q
def jF(H:Hp)(o:HO)(Q:VK):Prop:=∀p H',iu H H'->H' p=some o->H p=bd->Q (.ref p) H'
def jF.at{o:HO}{Q:VK}(h:jF H o Q)(p:ci)(hp:H p=bd):Q (.ref p) (upd H p o):=h p _ (iO hp o) aE hp
def uV(H:Hp)(l:ci)(o:HO)(Q:Hp->Prop):Prop:=∀H',lT l H H'->H' l=some o->Q H'
def uV.at{o:HO}{Q:Hp->Prop}(h:uV H l o Q):Q (upd H l o):=h _ (Gp o) aE
def gF.mono{f:bn->bn->Sem bn}{r r':R2}(h:gF X f r)(hr:∀x y H Q,r' x y H Q->r x y H Q):gF X f r':=λZ s σ H x y v u Q I rx ry q=>h Z s σ H x y v u Q I rx ry (hr _ _ _ _ q)
def bt.mono{f:bn}{r r':O V->Hp->VK->Prop}(h:bt X f r)(hr:∀xs H Q,r' xs H Q->r xs H Q):bt X f r':=λZ s σ H xs us Q I rx q=>h Z s σ H xs us Q I rx (hr _ _ _ q)
def Hy.mono{id:String}{r r':V->O V->Hp->VK->Prop}(h:Hy X id r)(hr:∀x xs H Q,r' x xs H Q->r x xs H Q):Hy X id r':=λZ s σ H x xs v us Q I rx rv q=>h Z s σ H x xs v us Q I rx rv (hr _ _ _ _ q)
def yX.mono{r r':yW}(h:yX X r)(hr:∀o i v H Q,r' o i v H Q->r o i v H Q):yX X r':=λZ s σ H o i v ov iv u Q I ro ri rv q=>h Z s σ H o i v ov iv u Q I ro ri rv (hr _ _ _ _ _ q)
section
variable{t:TA}{pos:Pos}
def T5(t:TA):TE:=λσ H Q=>t σ H λxs H1=>xs.length<=sizeLine/\jF H1 (.tup xs) Q
def Ua(t:TA):TE:=λσ H Q=>t σ H λxs H1=>xs.length<=sizeLine/\jF H1 (.lst xs) Q
def Mm{x1}(h:PA X es t):PE X (.Tuple es x1 pos) (T5 t):=by
 intro Z s σ H Q I hq;refine wpAny_Tuple_spliced (bh (h pos Z s σ H _ I hq) λus s1 ⟨xs,H1,I1,r,z,q⟩=>⟨by rw[<- r.length];exact z,?_⟩);have hf:=I1.aY.fresh (Ao _);refine⟨.ref s1.heap.objs.size,upd H1 s1.heap.objs.size (.tup xs),I1.laid (t':=s1.toks) (λb u e=>Ai _ e) (Ao _) ?_,rfl,q.at _ hf⟩;exact⟨z,us,r,⟨_,Ap _ rfl,rfl,_,rfl⟩⟩
def Mn(h:PA X es t):PE X (.List es pos) (Ua t):=by
 intro Z s σ H Q I hq;refine wpAny_List_spliced (bh (h pos Z s σ H _ I hq) λus s1 ⟨xs,H1,I1,r,z,q⟩=>⟨by rw[<- r.length];exact z,?_⟩);have hf:=I1.aY.fresh (Ao _);refine⟨.ref s1.heap.objs.size,upd H1 s1.heap.objs.size (.lst xs),I1.laid (t':=s1.toks) (λb u e=>Ai _ e) (Ao _) ?_,rfl,q.at _ hf⟩;exact⟨z,us,0,r,Ap _ rfl⟩
def OK(K:Ab):R2:=λx y H Q=>match x with
 | .int i=>∃j,y=.int j/\Q (.int (i+j)) H
 | .str i=>∃j,y=.str j/\i.length+j.length<=sizeLine/\Q (.str (i++j)) H
 | .ref a=>(∃b xs zs,y=.ref b/\H a=some (.lst xs)/\H b=some (.lst zs)/\xs.length+zs.length<=sizeLine/\jF H (.lst (xs++zs)) Q)\/OM K x y H Q
 | _=>False
def MF:gF X (ss .Add) (OK X.K):=by
 refine((Q0.or xA).or (QZ.or zA)).mono λx y H Q h=>?_;cases x with
 | int i=>obtain⟨j,rfl,q⟩:=h;exact .inl (.inl ⟨i,j,rfl,rfl,q⟩)
 | str i=>obtain⟨j,rfl,hl,q⟩:=h;exact .inl (.inr ⟨i,j,rfl,rfl,hl,q⟩)
 | ref a=>
  rcases h with⟨b,xs,zs,rfl,h1,h2,hz,q⟩ | h
  ·exact .inr (.inl ⟨a,b,xs,zs,rfl,rfl,h1,h2,hz,λp hp=>q.at p hp⟩)
  ·exact .inr (.inr h)
 | _=>exact h.elim
def Mx:gF X (ss .Mult) (rI wp λi j=>.int (i*j)):=W6 λ_ _ _ _ _ _ _ hc q=>mul_int q hc
def yH:bt X (.type "list") (λxs H Q=>∃p ys,xs=[.ref p]/\(b9 X.K H p ys\/cS X.K H p ys)/\jF H (.lst ys) Q):=uf.mono λxs H Q ⟨p,ys,e,h,q⟩=>⟨p,ys,e,h,λl hl=>q.at l hl⟩
def Iw:V->O V->Hp->VK->Prop:=λx vs H Q=>∃l xs y,x=.ref l/\vs=[y]/\H l=some (.lst xs)/\xs.length < sizeLine/\uV H l (.lst (xs++[y])) (Q .aK)
def xH:Hy X "list.append" Iw:=GD.mono λx xs H Q ⟨l,ys,y,e1,e2,h,hz,q⟩=>⟨l,ys,y,e1,e2,h,hz,q.at⟩
def Gs(K:Ab):V->O V->Hp->VK->Prop:=λx vs H Q=>∃l b xs zs,x=.ref l/\vs=[.ref b]/\H l=some (.lst xs)/\cS K H b zs/\xs.length+zs.length<=sizeLine/\uV H l (.lst (xs++zs)) (Q .aK)
def vE:Hy X "list.extend" (Gs X.K):=xG.mono λx xs H Q ⟨l,b,ys,zs,e1,e2,h1,h2,hz,q⟩=>⟨l,b,ys,zs,e1,e2,h1,h2,hz,q.at⟩
def UB:V->O V->Hp->VK->Prop:=λx vs H Q=>∃l xs y,x=.ref l/\vs=[]/\H l=some (.lst (xs++[y]))/\uV H l (.lst xs) (Q y)
def MX:Hy X "list.pop" UB:=Q9.mono λx xs H Q ⟨l,ys,y,e1,e2,h,q⟩=>⟨l,ys++[y],y,e1,e2,h,by simp,by rw[List.dropLast_concat];exact q.at⟩
def Qr:yW:=λo i v H Q=>∃p xs k j,o=.ref p/\i=.int k/\H p=some (.lst xs)/\uJ xs.length k=some j/\uV H p (.lst (xs.set j v)) Q
def qI:yX X Qr:=set_list.mono λo i v H Q ⟨p,xs,k,j,e1,e2,h,hj,q⟩=>⟨p,xs,k,j,e1,e2,h,hj,q.at⟩
end
section
variable(K:Ab)(hK:X.K=K){t:TA}{pos:Pos}{name:Str}{SY:String}{r:V->O V->Hp->VK->Prop}
include hK
def Ni:Ln X (rIx K):=hK▸Rv
def MD:gF X (ss .Add) (OK K):=hK▸MF
def Qt(K:Ab):O V->Hp->VK->Prop:=λxs H Q=>∃x n,xs=[x]/\WH K x H n/\Q (.int n) H
def rj:bt X (.builtin "len") (Qt K):=hK▸KJ
def Iu(K:Ab):O V->Hp->VK->Prop:=λxs H Q=>∃p ys,xs=[.ref p]/\(b9 K H p ys\/cS K H p ys)/\jF H (.lst ys) Q
def yG:bt X (.type "list") (Iu K):=hK▸yH
def UM(K:Ab):O V->Hp->VK->Prop:=λxs H Q=>∃(p:ci) (bs:O Bool),xs=[.ref p]/\b9 K H p (bs.map V.bl)/\Q (.bl (bs.all id)) H
def Hu(hc:X.calm=true):bt X (.builtin "all") (UM K):=hK▸yL hc
def UL(K:Ab):O V->Hp->VK->Prop:=λxs H Q=>∃(p:ci) (bs:O Bool),xs=[.ref p]/\b9 K H p (bs.map V.bl)/\Q (.bl (bs.any id)) H
def Ht(hc:X.calm=true):bt X (.builtin "any") (UL K):=hK▸yK hc
def Qs(K:Ab):R2:=λx y H Q=>∃p q xs,x=.ref p/\y=.ref q/\b9 K H p xs/\b9 K H q []/\Q (.bl (!xs.isEmpty)) H
def xx(hu:X.A.units < pr):gF X (py .NotEq) (Qs K):=hK▸Gz hu
def X5(K:Ab)(ta:TE):TT:=λσ H Q=>ta σ H λx H'=>∃k,SH K x H' k/\Q k H'
def qN(ha:PE X a ta)(he:∀Å,isTrue a X.env Å=(do let v <- Å;standAt a.pos;sw [v] (truthy v))):PT X a (X5 K ta):=hK▸IA ha he
def Mp(pa:PlainAttrs T)(slot:Slot T name SY)(RG:typeOf (.builtin SY)=pure (.type "method_descriptor"))(hm:XW X SY r)(ho:PE X o to)
  (dX:r6 o name X.env (kt o X.env)=kt o X.env:=by rfl) (dW:Lq Ã bE:=by rfl):PE X (.Call (.Attribute o name Ã) [] [] bE) (Ui K T r to):=hK▸QM pa slot RG hm ho dX dW
def so(pa:PlainAttrs T)(slot:Slot T name SY)(RG:typeOf (.builtin SY)=pure (.type "method_descriptor"))(hm:XW X SY r)(ho:PE X o to)(ha:PA X (e::es) t)
  (dX:r6 o name X.env (kt o X.env)=kt o X.env:=by rfl)
  (o7:Tq X bE (e::es):=by rfl)
  (dW:Lq Ã bE:=by rfl) (hs:fX X e es:=by rfl) (fe:kJ X bE es:=by rfl) :
  PE X (.Call (.Attribute o name Ã) (e::es) [] bE) (tBM K T r to t):=hK▸US pa slot RG hm ho ha dX o7 dW hs fe
omit hK
end
structure Ox(P:ul)(w:wv)(K:Ab)(mg:Str->Option bn)(base:lw)(x:Str)(k:Nat)(ps:List Str)(sp:Sp) where
 f:ci
 fd:Gc
 ok:fy P w K mg base pP k f fd ps sp
 bi:Binds K fd ps []
 kp:DY K (.ref f)=true
 at':mg x=some (.ref f)
section
variable{sp:Sp}{pos:Pos}{t:TA}
def Uh(sp:Sp)(t:TA):TE:=λσ H Q=>t σ H λvs H1=>sp vs H1 Q E0
def IQ(G:Ox X.prog X.w X.K X.mg X.base x k ps sp)(hr:d4 k' X.A)(hk:k<=k')(hg:Gl X x)(ha:PA X (e::es) t)(lA:iG x:=by decide)
  (he:fX X e es:=by rfl) (cI:kJ X pos es:=by rfl) :
  PE X (.Call (.Name x p) (e::es) [] pos) (Uh sp t):=by
 intro Z s σ H Q I h;refine Bq (M7 I hg G.at' ?_ lA);refine PySem.W.callWith_K (h₀:=X.base) I.ok.mod.YR G.kp (bh (ha pos Z s σ H _ I h) λus s1 ⟨vs,H1,I1,r,q⟩=>⟨I1.qU,?_⟩) he cI;refine Qm (dvs:=[]) (ds:=[]) G.ok (hr.mono hk) G.bi .nil UU I1 r ?_;rw[CW];exact q
end
section
theorem KY{xs:List α}(h0:0<=i)(h1:i < xs.length):∃v,df xs i=some v/\xs[i.toNat]?=some v:=by
 have hk:i.toNat < xs.length:=by omega
 have q:=eN (by rw[Ad hk]);have e:((i.toNat:Nat):Int)=i:=by omega
 rw[e]at q;exact⟨_,q,by rw[Ad hk]⟩
def OV{j:Int}(h1:-18446744073709551616 < i)(h2:i < 18446744073709551616):wp i j:=Oy.ok (.inl ⟨h1,h2⟩)
def mul_r{j:Int}(h1:-18446744073709551616 < j)(h2:j < 18446744073709551616):wp i j:=Oy.ok (.inr ⟨h1,h2⟩)
end
def br(h:n<=1000):n<=sizeLine:=Dc (Gj h)
section
variable(K:Ab)(hK:X.K=K)
include hK
def Yz:V->Option Int->Option Int->Hp->VK->Prop:=λx lo hi H Q=>∃z,x=.str z/\z.length<=sizeLine/\Q (.str (Eo z lo hi)) H
omit hK in
def Qh:WB X Yz:=by
 intro Z s σ H x v vl vu lo hi sl Q I rx hs pl pu h;obtain⟨z,rfl,hz,q⟩:=h;obtain⟨t,rfl⟩:=rx;refine⟨"str",_,F.slot_str_getitem.lookup,typeIs_str _ _ _,?_⟩;obtain⟨os,vZ,JS,zS⟩:=hs;have Á:∀t' k,EP X Z σ Q (.str (Eo z lo hi) t') {s with toks:=k}:=λt' k=>⟨.str (Eo z lo hi),H,I.tok _,⟨_,rfl⟩,q⟩;cases pl with
 | none=>
  cases pu with
  | none=>exact Co (l:=bd) (u:=bd) (st:=bd) ⟨os,vZ,JS,zS⟩ rfl (GM ⟨AQ (DT z _ _) hz,Á⟩)
  | int j uj=>exact Co (l:=bd) (u:=some (j,uj)) (st:=bd) ⟨os,vZ,JS,zS⟩ rfl (GM ⟨AQ (DT z _ _) hz,Á⟩)
 | int i ui=>
  cases pu with
  | none=>exact Co (l:=some (i,ui)) (u:=bd) (st:=bd) ⟨os,vZ,JS,zS⟩ rfl (GM ⟨AQ (DT z _ _) hz,Á⟩)
  | int j uj=>exact Co (l:=some (i,ui)) (u:=some (j,uj)) (st:=bd) ⟨os,vZ,JS,zS⟩ rfl (GM ⟨AQ (DT z _ _) hz,Á⟩)
end
section
variable(K:Ab)(hK:X.K=K)
include hK
def Qv(K:Ab):R2:=λx y H Q=>∃p q xs,x=.ref p/\y=.ref q/\b9 K H p xs/\b9 K H q []/\Q (.bl xs.isEmpty) H
def xy(hu:X.A.units < pr):gF X (py .Eq) (Qv K):=by
 subst hK;intro Z s σ H x y v u Q I rx ry h;obtain⟨p,q,xs,rfl,rfl,hp,hq,k⟩:=h;cases rx;cases ry;obtain⟨aj,r,pl,hz⟩:=I.list hp;obtain⟨bj,r2,UP,hz2⟩:=I.list hq;cases r2;cases xs with
 | nil=>
  cases r;refine ET (FG (e:=λ_=>true) pl.isList UP.isList rfl hu λj h1=>absurd h1 (by simp)) ?_;exact⟨.bl true,H,I,rfl,k⟩
 | cons y ys=>
  have hl:=r.length;refine ET (Ej pl.isList UP.isList (by simp at hl ⊢;intro z;subst z;simp at hl) hu) ?_;exact⟨.bl false,H,I,rfl,k⟩
omit hK
end
end L2
variable{p1:CJ}
namespace L2
theorem Vals.vg:∀{xs:O V}{us:O bn},Vals xs us->Vals xs.reverse us.reverse
 | _,_,.nil=>.nil
 | _,_,.cons h t=>by rw[De,De];exact(Vals.vg t).append (.cons h .nil)
def Ri:u8 (.type "list_reverseiterator") (B8 "__len__")=pure bd:=by kernel_rfl
def M4:u8 (.type "list_reverseiterator") (B8 "__length_hint__")=pure (some (.builtin "list_reverseiterator.__length_hint__")):=by kernel_rfl
def LU:splitId "list_reverseiterator.__length_hint__"=some ("list_reverseiterator","__length_hint__"):=by kernel_rfl
def LN:isSubtype (.type "list_reverseiterator") (.type "list_reverseiterator")=pure true:=by kernel_rfl
def JQ{r:ci}{Q:Bool->db->Prop}(h:s.heap.IsRevIter r l i)(q:Q false s):cr (f8 prog w) A (Builtin.List.listLengthHint (Aw r)) Q E s:=by
 refine Aa (DH h.typeIs Ri ?_);refine Aa (DH h.typeIs M4 ?_);dsimp only;rw[LU];dsimp only;refine Aa (CK h.typeIs LN ?_);rw[if_neg ⋯];exact Ae q
def qa{r S:ci}(hA:A.handled=bd)(h:s.heap.IsRevIter r l (items.size-1))(hl:s.heap.IsList l items)(JO:l≠r)(Zv:S≠r)(hSl:S≠l)(hz:items.size<=sizeLine)
  (hS:s.heap.get? S=some {cls:=Cr "list",data:=E9 #[]})
  (q:∀(h':lw) (tk:Nat) (acc:Array bn) (c:Nat),(∀b o,b≠S->b≠r->s.heap.get? b=some o->h'.get? b=some o)->h'.get? S=some {cls:=Cr "list",data:=E9 acc c}->ItemsOf (λi v=>items[items.size-1-i]?=some v) acc items.size->R (.ok (.ret .none)) {s with heap:=h',toks:=tk}) :
  cr (f8 prog w) A.in1 (ut.«list.__init__» {pos:=[Aw S,Aw r]})
   (λÁ s'=>match Á with | Fw f=>R (Except.ok f) s' | Fin.again c'=>c'.quiet=true/\Db (f8 prog w) A c' R s') (λe s'=>R (Except.error e) s') s:=by
 unfold ut.«list.__init__»;refine Aa (wpAny_listItems hS rfl ?_);refine Aa ?_;refine DG hS rfl ?_ (by simp) (by simp);refine Aa (Dz ?_);have k1:∀b o,b≠S->s.heap.get? b=some o->(s.heap.update S (Ck λ_=>#[])).get? b=some o:=λb o hb e=>by rw[C4 _ _ (BD hb)];exact e
 have hS1:=Cv (Ck λ_=>#[]) hS rfl;generalize s.heap.update S (Ck λ_=>#[])=h1 at k1 hS1 ⊢;have Xk:h1.IsRevIter r l (items.size-1):=let ⟨o,e,p⟩:=h;⟨o,k1 _ _ (BD Zv) e,p⟩;have Zh:h1.IsList l items:=let ⟨o,e,p⟩:=hl;⟨o,k1 _ _ (BD hSl) e,p⟩;unfold Builtin.List.listExtendWith;refine Aa (BQ (T:="list_reverseiterator") Xk.typeIs ?_);rw[if_neg (by
  have e1:Builtin.List.listSameRef (Aw S) (Aw r)=false:=by
   unfold Builtin.List.listSameRef;simpa using Zv
  rw[e1];decide)]
 refine Aa (wpAny_pyIter_revIter Xk ?_);refine Aa (AX (JQ Xk ?_));rw[if_neg ⋯];refine Ae ⟨FS F.plain_extend_loop _,?_⟩;refine codeAny_extend_loopS (Walks.toS (Walks.listRev (A:=A.in1) hA r l JO items)) hz S (by simp[Zv,hSl]) .none items.size 0 _ #[] _ (EK _) (Bx _) ⟨Bx _,by simpa using Xk,Zh⟩ hS1 (ItemsOf.nil _) ?_;intro s' acc c mv e io;rw[mv.eq_with];exact q s'.heap s'.toks acc c (λb o n1 n2 e'=>mv.heap b o (by simp[n1,n2]) (k1 b o n1 e')) e io
def qt{r:ci}(hA:A.handled=bd)(h:s.heap.IsRevIter r l (items.size-1))(hl:s.heap.IsList l items)(JO:l≠r)(hz:items.size<=sizeLine)
  (q:∀(h':lw) (tk:Nat) (acc:Array bn) (c:Nat),(∀b o,b≠r->s.heap.get? b=some o->h'.get? b=some o)->h'.get? s.heap.objs.size=some {cls:=Cr "list",data:=E9 acc c}->ItemsOf (λi v=>items[items.size-1-i]?=some v) acc items.size->Q (.ref s.heap.objs.size) {s with heap:=h',toks:=tk}) :
  cr (f8 prog w) A (call (Cr "list") [Aw r]) Q E s:=by
 have lr:=let ⟨_,e,_⟩:=h;An e;have ll:=let ⟨_,e,_⟩:=hl;An e;refine callType_codes F.called_list (F.typeCall_list_1 _) F.entry_list_init (code_list_new (Q₁:=λv s₁=>v=.ref s.heap.objs.size/\s₁={s with heap:=s.heap.push {cls:=Cr "list",data:=E9 #[]}}) _ ⟨rfl,rfl⟩) ?_;rintro obj s₁ ⟨rfl,rfl⟩;refine⟨⟨_,Ap _ rfl,rfl⟩,F.args_list_init_2 _ _,?_⟩;have kp:∀b o,s.heap.get? b=some o->(s.heap.push {cls:=Cr "list",data:=E9 #[]}).get? b=some o:=λb o e=>Ai _ e;refine qa (A:=A.in1) (items:=items) (l:=l) hA (let ⟨o,e,p⟩:=h;⟨o,kp _ _ e,p⟩) (let ⟨o,e,p⟩:=hl;⟨o,kp _ _ e,p⟩) JO (λz=>by rw[z]at lr;exact AO _ lr) (λz=>by rw[z]at ll;exact AO _ ll) hz (Ap _ rfl) ?_;intro h' tk acc c k e io;exact⟨rfl,q h' tk acc c (λb o n e'=>k b o (λz=>by rw[z]at e';exact AO _ (An e')) n (kp b o e')) e io⟩
def tLR(K:Ab)(te:TE):TE:=λσ H Q=>te σ H λx H1=>∃p ys,x=.ref p/\b9 K H1 p ys/\jF H1 (.lst ys.reverse) Q
section
variable(K:Ab)(hK:X.K=K){q1 q2:Pos}
include hK
theorem xv(hc:X.calm=true)(Zn:Gl X "list")(Zf:X.mg "list"=bd)(Zm:Gl X "reversed")(Ze:X.mg "reversed"=bd)(he:PE X e te)
  (qi:ga [.Call (.Name "reversed" q1) [e] [] q2] X.env=(false,kt (.Call (.Name "reversed" q1) [e] [] q2) X.env)::ga [] X.env:=by rfl) (lV:fX X e []:=by rfl) :
  PE X (.Call (.Name "list" p1) [.Call (.Name "reversed" q1) [e] [] q2] [] p2) (tLR K te):=by
 intro Z s σ H Q I h;subst hK;refine Bq (eZ I Zn Zf boot_list ?_ ⋯ ⋯);refine AW ?_ qi rfl;refine Bf ?_;refine Bq (eZ I Zm Ze boot_reversed ?_ ⋯ ⋯);refine AW ?_ lV rfl;rw[lV];refine Bf (bh (he Z s σ H _ I h) λu s1 ⟨x,H1,I1,r1,pa,ys,ex,hS,q⟩=>BF ?_);subst ex;cases r1;obtain⟨aj,rv,pl,hz⟩:=I1.list hS;have Â:=rv.length;have lp:=let ⟨_,e,_⟩:=pl.isList;An e;refine call_reversed_list pl.isList ?_;refine BF ?_;have kp:∀b o,s1.heap.get? b=some o->(s1.heap.push (revObj pa (aj.toArray.size-1))).get? b=some o:=λb o e=>Ai _ e;refine qt (items:=aj.toArray) (l:=pa) (r:=s1.heap.objs.size) (I1.ok.hd hc) ⟨_,Ap _ rfl,rfl,rfl⟩ (let ⟨o,e,p⟩:=pl.isList;⟨o,kp _ _ e,p⟩) (λz=>by rw[z]at lp;exact AO _ lp) (by rw[Af];omega) ?_;intro h' tk acc c k e io;have kk:∀b o,s1.heap.get? b=some o->h'.get? b=some o:=λb o eb=>k b o (λz=>by rw[z]at eb;exact AO _ (An eb)) (kp b o eb);have ea:acc=aj.reverse.toArray:=by
  obtain⟨z1,z2⟩:=io;apply Array.ext
  ·rw[z1,Af,Af,CP]
  ·intro j h1 h2;have:=z2 j acc[j] (CO h1);rw[Af]at this;have hj:j < aj.length:=by rw[z1,Af]at h1;exact h1
   rw[Cz]at this;have e3:aj.reverse[j]?=some acc[j]:=by rw[List.getElem?_reverse hj];exact this
   rw[DA];exact(Option.some.inj (((Ad (by rw[CP];exact hj)).symm.trans e3))).symm
 subst ea;have lV:s1.heap.objs.size<=(s1.heap.push (revObj pa (aj.toArray.size-1))).objs.size:=by simp[Heap.push]
 refine⟨.ref _,upd H1 _ (.lst ys.reverse),I1.laid (t':=tk) kk lV ?_,rfl,q.at _ (I1.aY.fresh lV)⟩;exact⟨by rw[CP];exact hz,aj.reverse,c,rv.vg,e⟩
end
end L2
variable{y:BW}
namespace My
def Wd(x:Str):Prop:=1<=x.length/\x.length<=8/\∀c∈x.cps.toList,97<=c/\c < 123
def Part(x:Str)(n:Nat):Prop:=x.length<=n/\∀c∈x.cps.toList,97<=c/\c < 123
theorem Part.append{m:Nat}(a:Part x m)(b:Part y n):Part (x++y) (m+n):=by
 refine⟨?_,λc hc=>?_⟩
 ·rw[C3];have:=a.1;have:=b.1;omega
 ·rw[Str.cps_append,Array.toList_append]at hc;rcases Bs.mp hc with h | h
  ·exact a.2 c h
  ·exact b.2 c h
theorem qb{d st:Int}(h:st=1\/st=3\/st=5\/st=7\/st=9\/st=11)(hn:n<=26):((Av n).map λk:Nat=>some (97+((d+st*(0+(k:Int))) % 26).toNat)).Nodup:=by
 unfold List.Nodup;rw[CB];refine List.Pairwise.imp_of_mem ?_ Df;intro a b ha hb NA hz;have hb':=Ax.mp hb;have ya:=Option.some.inj hz;rcases h with rfl | rfl | rfl | rfl | rfl | rfl <;> omega
def sH{g:α->β}{l:List α}(h:(l.map g).Nodup):l.Nodup:=(CB.mp h).imp λh e=>h (congrArg g e)
def Ga(x y:Str)(c:Nat):(x++⟨#[c]⟩++y).cps[x.length]?=some c:=by
 show((x.cps++#[c])++y.cps)[x.cps.size]?=some c;rw[Array.getElem?_append_left (by simp),Array.getElem?_append_right (Ao _)];simp
def xP:∀k:_root_.Fin 26,df ("abcdefghijklmnopqrstuvwxyz":Str).cps.toList (k.val:Int)=some (97+k.val):=by decide +kernel
theorem GK{n:Int}(h0:0<=n)(h1:n < 26):df ("abcdefghijklmnopqrstuvwxyz":Str).cps.toList n=some (97+n.toNat):=by
 have e:=xP ⟨n.toNat,by omega⟩;have e2:((n.toNat:Nat):Int)=n:=by omega
 rw[e2]at e;exact e
def I0{c:Nat}(h0:97<=c)(h1:c < 123):Part ⟨#[c]⟩ 1:=by
 refine⟨Ao _,λd hd=>?_⟩;have:d=c:=by simpa using hd
 subst this;exact⟨h0,h1⟩
inductive Tr where
 | leaf (x:Str)
 | node (l r:Tr)
def Tr.au:Tr->O Str
 | .leaf x=>[x]
 | .node l r=>l.au++r.au
def Tr.size:Tr->Nat
 | .leaf _=>1
 | .node l r=>l.size+r.size+1
def Tr.depth:Tr->Nat
 | .leaf _=>0
 | .node l r=>max l.depth r.depth+1
def Tr.Ws(t:Tr):Prop:=∀x∈t.au,Wd x
theorem Tr.gY:∀t:Tr,1<=t.au.length
 | .leaf _=>Ao _
 | .node l r=>by have:=l.gY;show 1<=(l.au++r.au).length;rw[Ah];omega
theorem Tr.pD:∀t:Tr,t.depth < t.au.length
 | .leaf _=>Eu 0
 | .node l r=>by
  have h1:=l.pD;have h2:=r.pD;have h3:=l.gY;have h4:=r.gY;show max l.depth r.depth+1 < (l.au++r.au).length;rw[Ah];omega
theorem Tr.size_eq:∀t:Tr,t.size+1=2*t.au.length
 | .leaf _=>rfl
 | .node l r=>by
  have h1:=l.size_eq;have h2:=r.size_eq;show l.size+r.size+1+1=2*(l.au++r.au).length;rw[Ah];omega
def dh(ts:O Tr):Nat:=(ts.map Tr.size).sum
def eE(a b:O Tr):dh (a++b)=dh a+dh b:=by unfold dh;rw[A8,List.sum_append]
def md(t:Tr):dh [t]=t.size:=by simp[dh]
theorem Tr.size_pos:∀t:Tr,1<=t.size
 | .leaf _=>Ao _
 | .node l r=>by show 1<=l.size+r.size+1;omega
theorem qS:∀ts:O Tr,ts.length<=dh ts
 | []=>Ao _
 | t::r=>by have:=qS r;have:=t.size_pos;show r.length+1<=t.size+dh r;omega
def Tr.post:Tr->O Tr
 | .leaf x=>[.leaf x]
 | .node l r=>l.post++r.post++[.node l r]
def Tr.iP:∀t:Tr,t.post.length=t.size
 | .leaf _=>rfl
 | .node l r=>by show(l.post++r.post++[_]).length=l.size+r.size+1;rw[Ah,Ah,l.iP,r.iP];rfl
def gc(ts:O Tr):O Tr:=(ts.map Tr.post).flatten
def gL(a b:O Tr):gc (a++b)=gc a++gc b:=by unfold gc;rw[A8,List.flatten_append]
def mf(t:Tr):gc [t]=t.post:=by simp[gc]
def Gu(t u:Tr):gc [t,u]=t.post++u.post:=by simp[gc]
inductive Ent where
 | word (x:Str)
 | pair (a b:Nat)
def Tr.nd:Tr->Nat->O Ent
 | .leaf x,_=>[.word x]
 | .node l r,o=>l.nd o++r.nd (o+l.size)++[.pair (o+l.size-1) (o+l.size+r.size-1)]
def Tr.aZ:∀(t:Tr) (o:Nat),(t.nd o).length=t.size
 | .leaf _,_=>rfl
 | .node l r,o=>by show(l.nd o++r.nd (o+l.size)++[_]).length=l.size+r.size+1;rw[Ah,Ah,l.aZ,r.aZ];rfl
def run:O Tr->O Ent->O Nat->Option (O Ent×O Nat)
 | [],À,ls=>some (À,ls)
 | .leaf x::k,À,ls=>run k (À++[.word x]) (À.length::ls)
 | .node _ _::k,À,b::a::ls=>run k (À++[.pair a b]) (À.length::ls)
 | .node _ _::_,_,_=>bd
theorem oq:∀(t:Tr) (k:O Tr) (À:O Ent) (ls:O Nat),run (t.post++k) À ls=run k (À++t.nd À.length) ((À.length+t.size-1)::ls)
 | .leaf x,k,À,ls=>rfl
 | .node l r,k,À,ls=>by
  have e1:(Tr.node l r).post++k=l.post++(r.post++(Tr.node l r::k)):=by show l.post++r.post++[_]++k=_;simp
  rw[e1,oq l,oq r];have e2:(À++l.nd À.length).length=À.length+l.size:=by rw[Ah,l.aZ]
  rw[e2];show run k _ _=run k _ _;have e3:(À++l.nd À.length++r.nd (À.length+l.size)).length=À.length+(Tr.node l r).size-1:=by
   rw[Ah,Ah,l.aZ,r.aZ];show _=À.length+(l.size+r.size+1)-1;omega
  rw[e3];have e4:À++(Tr.node l r).nd À.length=À++l.nd À.length++r.nd (À.length+l.size)++[.pair (À.length+l.size-1) (À.length+l.size+r.size-1)]:=by
   show À++(l.nd À.length++r.nd (À.length+l.size)++[_])=_;simp
  rw[e4]
def Gq(t:Tr):run t.post [] []=some (t.nd 0,[t.size-1]):=by
 have:=oq t [] [] [];rw[CW]at this;rw[this];show some ([]++t.nd 0,[0+t.size-1])=_;simp
end My
variable{xs:O L2.V}{x:A4}{σ:L2.St}{i:Nat}
namespace L2
def fC{t:ci}(h:s.heap.IsTupleIter it t i)(ht:s.heap.IsTuple t items)(hx:items[i]?=some x)
  (q:∀h':lw,h'.IsTupleIter it t (i+1)->BE it s.heap h'->Q x {s with heap:=h'}):cr (f8 prog w) A (Builtin.SmallTypes.nextOf (.ref it)) Q E s:=by
 unfold Builtin.SmallTypes.nextOf;refine Aa (AI h.typeIs Cd (A6 Cd h.typeIs DV ?_ (DC _)));obtain⟨o,ho,hc,hd⟩:=id h;obtain⟨ot,Y8,htc,n,Y1⟩:=id ht;show cr _ _ (field (.ref it) 0 >>= λseq=>_) _ _ s;refine Aa (AG ho hd rfl ?_);refine Aa (AG ho hd rfl ?_);refine Aa (Bi Y8 Y1 ?_);show cr _ _ (match items[i]? with | some x=>(do wf (.ref it) 1 (sB ((i:Int)+1));ret x) | none=>_) _ _ s;rw[hx];refine Aa (D5 ho hd (show 1 < 2 by decide) ?_);refine Ae ⟨x,rfl,Ae (q _ ⟨_,Cv _ ho (by rw[EX (CY hd _)]),by rw[Obj.cls_mapFields];exact hc,by rw[CY hd];rfl⟩ (BE.update ..))⟩
def LP{Q:α->db->Prop}(hA:A.handled=bd)
  (q:∀(h':lw) (e:ci),(∀b o,s.heap.get? b=some o->h'.get? b=some o)->(∃o,h'.get? e=some o/\o.cls=.type "StopIteration")->E (.ref e) {s with heap:=h'}):cr (f8 prog w) A (Builtin.SmallTypes.stopIteration (α:=α)) Q E s:=by
 refine Aa ?_;refine Aa (CH ?_ (by show 0<=sizeLine;decide));refine Aa (Cq (a:=Bh) rfl ?_);refine Bl ?_ (sizeOk_excFields ..);unfold raiseNew;refine Aa (wpAny_handled ?_);rw[hA];refine wpAny_throw (q _ _ (λb o e=>Ai _ (Ai _ e)) ⟨_,Ap _ rfl,rfl⟩)
def gj{t:ci}(hA:A.handled=bd)(h:s.heap.IsTupleIter it t i)(ht:s.heap.IsTuple t items)(hx:items[i]?=bd)
  (q:∀(h':lw) (e:ci),FK it s.heap h'->(∃o,h'.get? e=some o/\o.cls=.type "StopIteration")->E (.ref e) {s with heap:=h'}):cr (f8 prog w) A (Builtin.SmallTypes.nextOf (.ref it)) Q E s:=by
 unfold Builtin.SmallTypes.nextOf;refine Aa (AI h.typeIs Cd (A6 Cd h.typeIs DV ?_ (DC _)));obtain⟨o,ho,hc,hd⟩:=id h;obtain⟨ot,Y8,htc,n,Y1⟩:=id ht;show cr _ _ (field (.ref it) 0 >>= λseq=>_) _ _ s;refine Aa (AG ho hd rfl ?_);refine Aa (AG ho hd rfl ?_);refine Aa (Bi Y8 Y1 ?_);show cr _ _ (match items[i]? with | some x=>(do wf (.ref it) 1 (sB ((i:Int)+1));ret x) | none=>(do rule _;wf (.ref it) 0 .none;Builtin.SmallTypes.stopIteration)) _ _ s;rw[hx];refine Aa (CG ?_);refine Aa (D5 ho hd (show 0 < 2 by decide) ?_);refine LP (A:=A.in1) hA λh' e k ex=>q h' e (λb o n eb=>k b o ?_) ex;rw[(BE.update _ _ _).2 b n];exact eb
def Inv.n9{t':Nat}{a:ci}{o:HO}(I:Inv X Z σ H s)(hf:∀b∈ch,qB X Z H b)(k:∀b u,b∉ch->s.heap.get? b=some u->h'.get? b=some u)
  (hp:s.heap.objs.size<=a) (new:aR X.prog X.w (upd H a o) h' a o):Inv X Z σ (upd H a o) {s with heap:=h',toks:=t'}:=by
 have hn:=I.aY.fresh hp;have OU:∀b u,H b=some u->b∉ch:=λb u e z=>by rw[(hf b z).1]at e;cases e
 have nL:X.env.locals∉ch:=λz=>(hf _ z).2.1 rfl;refine I.step (g':=s.gens) (d':=s.drawn) (ch:=ch) (λb hb=>⟨(hf b hb).2.2.2.1,(hf b hb).2.1,(hf b hb).2.2.2.2.1,(hf b hb).2.2.2.2.2⟩) (λb u _ _ hc e _=>k b u hc e) (λb u _ _ hc e _=>⟨u.slots,k b u hc e⟩)
  (λb u _ e n=>by rw[ar (AA (Ay (An e) hp))];exact n) (λb u hc e=>⟨u,k b u hc e⟩) (λb xs e=>by rw[ar (bb e hn)];exact e) (λb u xs e=>by rw[ar (bb e hn)];exact e)
  (λb ps e=>⟨#[],by rw[ar (bb e hn),e];simp⟩) (λm hm=>?_) (λb u e=>?_) I.bare
 ·obtain⟨o',es,ep,ho,r⟩:=hm;exact⟨o',es,ep,k _ o' nL ho,r⟩
 ·by_cases hb:b=a
  ·subst hb;rw[aE]at e;cases e;exact new
  ·rw[ar hb]at e;refine(I.aY b u e).rS (λc v hc q=>k c v ?_ q) (λc q=>by rw[ar (bb q hn)];exact q) λc xs q=>by rw[ar (bb q hn)];exact q
   rcases hc with z | z
   ·rw[z];exact OU b u e
   ·exact OU c _ z
def Inv.rM{t':Nat}(I:Inv X Z σ H s)(hf:∀b∈ch,qB X Z H b)(k:∀b u,b∉ch->s.heap.get? b=some u->h'.get? b=some u) :
  Inv X Z σ H {s with heap:=h',toks:=t'}:=by
 have OU:∀b u,H b=some u->b∉ch:=λb u e z=>by rw[(hf b z).1]at e;cases e
 have nL:X.env.locals∉ch:=λz=>(hf _ z).2.1 rfl;refine I.step (g':=s.gens) (d':=s.drawn) (ch:=ch) (λb hb=>⟨(hf b hb).2.2.2.1,(hf b hb).2.1,(hf b hb).2.2.2.2.1,(hf b hb).2.2.2.2.2⟩) (λb u _ _ hc e _=>k b u hc e) (λb u _ _ hc e _=>⟨u.slots,k b u hc e⟩)
  (λ_ _ _ _ n=>n) (λb u hc e=>⟨u,k b u hc e⟩) (λ_ _ e=>e) (λ_ _ _ e=>e) (λb ps e=>⟨#[],by rw[e];simp⟩) (λm hm=>?_) (λb u e=>?_) I.bare
 ·obtain⟨o',es,ep,ho,r⟩:=hm;exact⟨o',es,ep,k _ o' nL ho,r⟩
 ·refine(I.aY b u e).rS (λc v hc q=>k c v ?_ q) (λ_ q=>q) λ_ _ q=>q;rcases hc with z | z
  ·rw[z];exact OU b u e
  ·exact OU c _ z
def iI(h:Vals xs us):∀{i:Nat}{x:V},xs[i]?=some x->∃u,us[i]?=some u/\RelV x u:=by
 induction h with
 | nil=>intro i x e;simp at e
 | cons r t ih=>
  intro i x e;cases i with
  | zero=>simp at e;subst e;exact⟨_,rfl,r⟩
  | succ i=>exact ih (by simpa using e)
end L2
variable{e:BA}{Í:A4}{Ñ:O Bu}{kk:Nat}
namespace L2
def ny{E:bn->db->Prop}{t:ci}(HE:e≠it)(Xj:t≠e)(zO:t≠it)
  (hz:IsEnum s.heap e it i Í) (hi:s.heap.IsTupleIter it t i) (ht:s.heap.IsTuple t items) (hx:items[i]?=some x)
  (q:∀(h':lw) (tk:Nat),IsEnumOut h' e it (i+1:Nat) x s.heap.objs.size->h'.IsTupleIter it t (i+1)->BT h' s.heap.objs.size (.int i s.toks) x->(∀c o,c≠e->c≠it->s.heap.get? c=some o->h'.get? c=some o)->Q (.ref s.heap.objs.size) {s with heap:=h',toks:=tk}) :
  cr (f8 prog w) A (ut.«enumerate.__next__» {pos:=[.ref e]}) (λÁ s'=>∃v,Á=Fw (Fv v)/\Q v s') E s:=by
 show cr _ _ (field (.ref e) 2 >>= λr=>_) _ _ s;refine Aa (AG hz rfl rfl ?_);refine Aa (fC hi ht hx λh1 j1 b1=>?_);have z1:=(b1.2 _ HE).trans hz;refine Aa (AG z1 rfl rfl ?_);refine Aa (AG z1 rfl rfl ?_);refine Aa (wpAny_mkInt ?_);refine Aa (AZ z1 (show 3 < 6 by decide) λh2 z2 b2=>?_);refine Aa (AZ z2 (show 4 < 6 by decide) λh3 z3 b3=>?_);have Yk:=b3.1.trans (b2.1.trans b1.1);have È:∀b,b≠e->b≠it->h3.get? b=s.heap.get? b:=λb n1 n2=>(b3.2 b n1).trans ((b2.2 b n1).trans (b1.2 b n2));refine Aa (CH ?_ (by show 2<=sizeLine;decide));have kp:∀b o,h3.get? b=some o->(h3.push {cls:=.type "tuple",data:=.seq [DW i s.toks,x].toArray}).get? b=some o:=λb o e=>Ai _ e;have GC:(h3.push {cls:=.type "tuple",data:=.seq [DW i s.toks,x].toArray}).get? h3.objs.size=some {cls:=.type "tuple",data:=.seq #[.int i s.toks,x]}:=Ap _ rfl;generalize h3.push {cls:=.type "tuple",data:=.seq [DW i s.toks,x].toArray}=h4 at kp GC ⊢;have z4:h4.get? e=some {cls:=.type "enumerate",data:=.fields #[.none,.bool false,.ref it,sB (i+1),.none,Í]}:=kp _ _ z3;refine Aa ?_;refine Aa (AG z4 rfl rfl ?_);refine Ae ?_;refine Aa (CG ?_);refine Aa (AG z4 rfl rfl ?_);refine Aa (AZ z4 (show 5 < 6 by decide) λh5 z5 b5=>?_);refine Aa ?_;refine Aa (AZ z5 (show 0 < 6 by decide) λh6 z6 b6=>?_);refine AZ z6 (show 1 < 6 by decide) λh7 z7 b7=>?_;refine Aa (Dz ?_);have RO:∀b,b≠e->h7.get? b=h4.get? b:=λb n=>(b7.2 b n).trans ((b6.2 b n).trans (b5.2 b n));have ne:s.heap.objs.size≠e:=λz=>by have:=An hz;rw[<- z]at this;exact AO _ this
 refine Ae ⟨.ref h3.objs.size,rfl,?_⟩;rw[Yk]at z7 GC ⊢;refine q h7 _ ?_ ?_ ?_ ?_
 ·exact z7
 ·obtain⟨o,eo,p⟩:=j1;refine⟨o,?_,p⟩;rw[RO _ (BD HE)];exact kp _ _ ((b3.2 _ (BD HE)).trans ((b2.2 _ (BD HE)).trans eo))
 ·rw[BT,RO _ ne];exact GC
 ·intro c o n1 n2 ec;rw[RO _ n1];exact kp _ _ ((È _ n1 n2).trans ec)
def pC{t:ci}{Q:PySem.Fin->db->Prop}(hA:A.handled=bd)
  (hz:IsEnum s.heap e it i Í) (hi:s.heap.IsTupleIter it t i) (ht:s.heap.IsTuple t items) (hx:items[i]?=bd)
  (q:∀(h':lw) (x:ci),(∀c o,c≠it->s.heap.get? c=some o->h'.get? c=some o)->(∃o,h'.get? x=some o/\o.cls=.type "StopIteration")->E (.ref x) {s with heap:=h'}) :
  cr (f8 prog w) A (ut.«enumerate.__next__» {pos:=[.ref e]}) Q E s:=by
 show cr _ _ (field (.ref e) 2 >>= λr=>_) _ _ s;refine Aa (AG hz rfl rfl ?_);exact Aa (gj hA hi ht hx λh' x k ex=>q h' x (λc o n e'=>k c o n e') ex)
def kT{t:ci}{Q:Option bn->db->Prop}(HE:e≠it)(Xj:t≠e)(zO:t≠it)
  (hz:IsEnum s.heap e it i Í) (hi:s.heap.IsTupleIter it t i) (ht:s.heap.IsTuple t items) (hx:items[i]?=some x)
  (q:∀(h':lw) (tk:Nat),IsEnumOut h' e it (i+1:Nat) x s.heap.objs.size->h'.IsTupleIter it t (i+1)->BT h' s.heap.objs.size (.int i s.toks) x->(∀c o,c≠e->c≠it->s.heap.get? c=some o->h'.get? c=some o)->Q (some (.ref s.heap.objs.size)) {s with heap:=h',toks:=tk}) :
  cr (f8 prog w) A (Ev (.ref e)) Q E s:=by
 have ty:s.TypeIs (.ref e) "enumerate":=⟨_,hz,rfl⟩;refine Aa (Cn (AI ty Cw (A6 Cw ty EI ?_ (Er _))));exact ny HE Xj zO hz hi ht hx λh' tk a b c d=>Ae (q h' tk a b c d)
def me{t:ci}{Q:Option bn->db->Prop}(hA:A.handled=bd)
  (hz:IsEnum s.heap e it i Í) (hi:s.heap.IsTupleIter it t i) (ht:s.heap.IsTuple t items) (hx:items[i]?=bd)
  (q:∀h':lw,(∀c o,c≠it->s.heap.get? c=some o->h'.get? c=some o)->Q bd {s with heap:=h'}) :
  cr (f8 prog w) A (Ev (.ref e)) Q E s:=by
 have ty:s.TypeIs (.ref e) "enumerate":=⟨_,hz,rfl⟩;refine Aa (Cn (AI ty Cw (A6 Cw ty EI ?_ (Er _))));refine pC (A:=A.in1) hA hz hi ht hx λh' x k ex=>?_;obtain⟨o,eo,hc⟩:=ex;refine Aa (CK (T:="StopIteration") ⟨o,eo,hc⟩ isSubtype_stop ?_);exact Ae (q h' k)
def ng(t:ci)(items:Array bn):Meets (ut.«enumerate.__new__» {pos:=[.type "enumerate",.ref t]}) (λ_ R s=>s.heap.IsTuple t items/\
  ∀h':lw,IsEnum h' (s.heap.objs.size+1) s.heap.objs.size (0:Nat) .none->h'.IsTupleIter s.heap.objs.size t 0->(∀b o,s.heap.get? b=some o->h'.get? b=some o)->R (.ok (.ret (.ref (s.heap.objs.size+1)))) {s with heap:=h'}):=
 .of_wp λprog w A R s h=>by
  obtain⟨h1,q⟩:=h;refine Aa ?_;refine Aa (Cq (a:=true) rfl ?_);refine Aa (Cq sub_enumerate ?_);refine Ae ?_;refine Aa ?_;refine Aa (wpAny_stack_any λst=>Ae ?_);have Á:cr (f8 prog w) A.in1 (pyIter (.ref t) >>= λit=>(Builtin.SmallTypes.newRecord (.type "enumerate") (Builtin.SmallTypes.ownedTupleFields++[it,sB 0,.none,.none]) >>= λr=>ret r)) (λÁ s'=>∃v,Á=Fw (Fv v)/\R (Except.ok (Fv v)) s') (λe s'=>R (Except.error e) s') s:=by
   refine Aa (D6 h1 ?_);have k1:∀b o,s.heap.get? b=some o->(s.heap.push {cls:=.type "tuple_iterator",data:=.fields #[.ref t,.int 0 0]}).get? b=some o:=λb o e=>Ai _ e;have g1:(s.heap.push {cls:=.type "tuple_iterator",data:=.fields #[.ref t,.int 0 0]}).get? s.heap.objs.size=some {cls:=.type "tuple_iterator",data:=.fields #[.ref t,.int 0 0]}:=Ap _ rfl;have z1:(s.heap.push {cls:=.type "tuple_iterator",data:=.fields #[.ref t,.int 0 0]}).objs.size=s.heap.objs.size+1:=CF ..;generalize s.heap.push {cls:=.type "tuple_iterator",data:=.fields #[.ref t,.int 0 0]}=tE at k1 g1 z1 ⊢;show cr _ _ (newObj (.type "enumerate") (.fields #[.none,.bool false,.ref s.heap.objs.size,sB 0,.none,.none]) >>= λr=>ret r) _ _ _;refine Aa (Bl ?_ (by simp[sizeOk];decide));have g2:(tE.push {cls:=.type "enumerate",data:=.fields #[.none,.bool false,.ref s.heap.objs.size,sB 0,.none,.none]}).get? tE.objs.size=some {cls:=.type "enumerate",data:=.fields #[.none,.bool false,.ref s.heap.objs.size,sB 0,.none,.none]}:=Ap _ rfl;refine Ae ⟨.ref tE.objs.size,rfl,?_⟩;rw[z1]at g2 ⊢;exact q _ g2 ⟨_,Ai _ g1,rfl,rfl⟩ λb o e=>Ai _ (k1 _ _ e)
  refine wpAny_ite_split (λ_=>?_) (λ_=>?_)
  ·exact Aa (Cq (a:=(Aw t,bd)) rfl Á)
  ·exact Aa (Cq (a:=(Aw t,bd)) rfl Á)
def yI{t:ci}(h1:s.heap.IsTuple t items)
  (q:∀h':lw,IsEnum h' (s.heap.objs.size+1) s.heap.objs.size (0:Nat) .none->h'.IsTupleIter s.heap.objs.size t 0->(∀b o,s.heap.get? b=some o->h'.get? b=some o)->Q (.ref (s.heap.objs.size+1)) {s with heap:=h'}) :
  cr (f8 prog w) A (call (.type "enumerate") [.ref t]) Q E s:=
 callType_new F.called_enumerate ⋯ (F.typeCall_enumerate_1 _) (F.newCall_enumerate_1 _) (λo=>F.args_object_init_2 o _) F.entry_enumerate_new (ng t items) ⟨h1,λh' z i k=>⟨⟨_,z,rfl⟩,q h' z i k⟩⟩
def Ite(K:Ab)(a:ci):It where
 go:=λi H=>∃xs x,cS K H a xs/\xs[i]?=some x
 OA:=λi H v H'=>∃p x,v=.ref p/\H p=bd/\H'=upd H p (.tup [.int i,x])/\∀xs,cS K H a xs->xs[i]?=some x
 stop:=λi H=>∃xs,cS K H a xs/\xs.length<=i
theorem Gf{K:Ab}{pos:Pos}{t:ci}(HE:e≠it)(Xj:t≠e)(zO:t≠it):Turn P w K (.Tuple Ñ kk pos) (Ite K t) [e,it] e (λi h=>(∃Í,IsEnum h e it (i:Nat) Í)/\h.IsTupleIter it t i) where
 mem:=by simp
 obj:=λi h st b hb=>by
  simp only[AH,Bj,or_false]at hb;rcases hb with rfl | rfl
  ·obtain⟨⟨_,e⟩,_⟩:=st;exact⟨_,e,λv z=>by cases z⟩
  ·obtain⟨_,⟨o,e,_,d⟩⟩:=st;exact⟨o,e,λv z=>by rw[d]at z;cases z⟩
 keep:=λi h h' st k=>⟨let ⟨o,e'⟩:=st.1;⟨o,k e (by simp) _ e'⟩,let ⟨o,e',p⟩:=st.2;⟨o,k it (by simp) _ e',p⟩⟩
 item:=by
  intro X hP hw hK hc i Z s σ H E I hf st hg;subst hP hw hK;obtain⟨xs,x,hx,gx⟩:=hg;obtain⟨aj,rx,tx,_⟩:=I.tuple hx;obtain⟨u,gu,ru⟩:=iI rx gx;obtain⟨⟨Í,hz⟩,hi⟩:=st;refine kT HE Xj zO hz hi tx (by simpa using gu) λh' tk zo j np k=>?_;refine⟨_,rfl,?_⟩;refine D7 zo λh2 z2 b2=>?_;have le:=An hz;have li:=let ⟨_,e',_⟩:=hi;An e';have lt:∀b∈[e,it],b < s.heap.objs.size:=λb hb=>by
   simp only[AH,Bj,or_false]at hb;rcases hb with rfl | rfl
   ·exact le
   ·exact li
  have nz:s.heap.objs.size≠e:=λz=>AO _ (by have:=le;rw[<- z]at this;exact this);have Vh:∀b o,b∉[e,it]->s.heap.get? b=some o->h2.get? b=some o:=λb o hb e'=>by
   have ya:b≠e:=λq=>hb (by simp[q]);rw[b2.2 b ya];exact k b o ya (λq=>hb (by simp[q])) e'
  have U5:h2.get? s.heap.objs.size=some {cls:=.type "tuple",data:=.seq #[.int i s.toks,u]}:=(b2.2 _ nz).trans np;have VH:=I.aY.fresh (Ao s.heap.objs.size);refine⟨.ref s.heap.objs.size,upd H s.heap.objs.size (.tup [.int i,x]),I.n9 (t':=tk) hf Vh (Ao _) ⟨by show 2<=sizeLine;decide,[.int i s.toks,u],.cons ⟨_,rfl⟩ (.cons ru .nil),⟨_,U5,rfl,_,rfl⟩⟩,rfl,⟨_,x,rfl,VH,rfl,λZ8 h'=>by rw[I.je h' hx];exact gx⟩,⟨⟨_,z2⟩,let ⟨o,e',p⟩:=j;⟨o,(b2.2 _ (BD HE)).trans e',p⟩⟩,λb hb=>?_⟩;rw[ar (AA (lt b hb))];exact(hf b hb).1
 done:=by
  intro X hP hw hK hc i Z s σ H E I hf st hg;subst hP hw hK;obtain⟨xs,hx,hl⟩:=hg;obtain⟨aj,rx,tx,_⟩:=I.tuple hx;have el:=rx.length;obtain⟨⟨Í,hz⟩,hi⟩:=st;refine me (I.ok.hd hc) hz hi tx (by simp;omega) λh' k=>⟨rfl,I.rM (t':=s.toks) hf λb o hb e'=>k b o (λz=>hb (by simp[z])) e'⟩
 self:=λA i s Q E st h=>let ⟨_,e'⟩:=st.1;C9 e' h
end L2
namespace My
def K2(l:O V)(i:Nat):Ent->O V
 | .word _=>l
 | .pair a b=>(l.set a (.int i)).set b (.int i)
def ah:O Ent->Nat->O V->O V
 | [],_,l=>l
 | e::es,i,l=>ah es (i+1) (K2 l i e)
theorem uv:∀(es:O Ent) (e:Ent) (i:Nat) (l:O V),ah (es++[e]) i l=K2 (ah es i l) (i+es.length) e
 | [],e,i,l=>rfl
 | x::es,e,i,l=>by
  show ah (es++[e]) (i+1) (K2 l i x)=K2 (ah es (i+1) (K2 l i x)) (i+(es.length+1)) e;rw[uv es e];congr 1;omega
def Oh(l:O V)(i:Nat)(e:Ent):(K2 l i e).length=l.length:=by cases e with
 | word=>rfl
 | pair=>show((l.set _ _).set _ _).length=_;rw[B5,B5]
theorem yP:∀(es:O Ent) (i:Nat) (l:O V),(ah es i l).length=l.length
 | [],_,_=>rfl
 | e::es,i,l=>by show(ah es (i+1) (K2 l i e)).length=_;rw[yP es,Oh]
end My
namespace L2
def UH(K:Ab):V->V->Hp->VK->Prop:=λo i H Q=>∃p xs k x,o=.ref p/\i=.int k/\b9 K H p xs/\0<=k/\k < 1000/\xs[k.toNat]?=some x/\Q x H
theorem JZ(K:Ab)(hK:X.K=K):WD X (UH K):=λZ s σ H o i ov iv Q I ro ri h=>by
 obtain⟨p,xs,k,x,rfl,rfl,hp,k0,k1,hx,q⟩:=h;subst hK;cases ro;obtain⟨t,rfl⟩:=ri;obtain⟨aj,r,pl,hz⟩:=I.list hp;obtain⟨u,gu,ru⟩:=iI r hx;exact wpAny_getItem_list pl.isList k0 ∅ (by simpa using gu) ⟨x,H,I,ru,q⟩
end L2
variable{x:BW}
namespace My
theorem HM{c:Nat}(a:Part x 1)(b:Part y 6)(h0:97<=c)(h1:c < 123):Wd (x++⟨#[c]⟩++y):=by
 have q:=(a.append (I0 h0 h1)).append b;refine⟨?_,q.1,q.2⟩;rw[C3,C3];show 1<=x.length+1+y.length;omega
end My
namespace L2
def Z5(lo:Int)(n:Nat):It:=⟨λi _=>i < n,λi H x H'=>H'=H/\x=.int (lo-i),λi _=>n<=i⟩
theorem uX{K:Ab}(it:ci)(lo:Int)(n:Nat):Turn P w K tg (Z5 lo n) [it] it (λi h=>IsRangeIter h it (lo+(i:Nat)*(-1)) ((n:Int)-(i:Nat)) (-1)) where
 mem:=by simp
 obj:=λi h st b hb=>by
  have e:b=it:=by simpa using hb
  subst e;exact⟨_,st,λv z=>by
   have z':=z;cases z'⟩
 keep:=λi h h' st k=>k it (by simp) _ st
 item:=by
  intro X hP hw hK hc i Z s σ H E I hf st hg;subst hP hw hK;obtain⟨f0,f1,f2,f3,f4,f5⟩:=hf it (by simp);have W:=Walks.range (prog:=X.prog) (w:=X.w) (I.ok.hd hc) it lo (-1) n;refine W.item i s _ _ hg st λv h' tk hv zd kk=>?_;obtain⟨t,rfl⟩:=hv;have I1:Inv X Z σ H {s with heap:=h',toks:=tk}:=I.turned (λb o hb e=>kk b o (by simpa using hb) e) f0 f1 f3 f4 f5;refine⟨_,rfl,wj (s:={s with heap:=h',toks:=tk}) (n:="range_iterator") zd rfl rfl ⋯ ⟨.int (lo-i),H,I1,⟨t,?_⟩,⟨rfl,rfl⟩,zd,λb hb=>(hf b hb).1⟩⟩;rw[show lo+(i:Int)*(-1)=lo-i by omega]
 done:=by
  intro X hP hw hK hc i Z s σ H E I hf st hg;obtain⟨f0,f1,f2,f3,f4,f5⟩:=hf it (by simp);exact wpAny_pyNext_range_end (I.ok.hd hc) st (by have:n<=i:=hg;omega) λh' eb=>⟨rfl,I.turned (t':=s.toks) (λb o hb e=>eb b o hb e) f0 f1 f3 f4 f5⟩
 self:=λ_ _ _ _ _ st h=>wpAny_pyIter_rangeiter st h
section
theorem Gr{σ:St}{R:It->Hp->Prop}{lo hi:Int}{t u v:Tok}{tk:Nat}(I:Inv X Z σ H s)(h1:-(2 ^ 62)<=lo)(h2:lo < 2 ^ 62)(h3:-(2 ^ 62)<=hi)(h4:hi < 2 ^ 62)
  (q:R (Z5 lo (lo-hi).toNat) H):cr (f8 X.prog X.w) X.A (pyIter (.ref s.heap.objs.size)) (Z4 X Z σ tg R) E {s with heap:=s.heap.push {cls:=.type "range",data:=.fields #[.int lo t,.int hi u,.int (-1) v]},toks:=tk}:=by
 refine wpAny_pyIter_range (IsRange.new ..) (PySem.W.small_down h1 h2 h3 h4) ?_;have I1:Inv X Z σ H {s with heap:=s.heap.push {cls:=.type "range",data:=.fields #[.int lo t,.int hi u,.int (-1) v]},toks:=tk}:=I.kept λb o e=>Ai _ e;refine⟨(s.heap.push {cls:=.type "range",data:=.fields #[.int lo t,.int hi u,.int (-1) v]}).objs.size,[(s.heap.push {cls:=.type "range",data:=.fields #[.int lo t,.int hi u,.int (-1) v]}).objs.size],_,_,H,rfl,
  I1.kept (t':=tk) λb o e=>Ai _ e,uX _ lo (lo-hi).toNat,?_,λb hb=>?_,q⟩
 ·have e1:lo+((0:Nat):Int)*(-1)=lo:=by simp
  have e2:(((lo-hi).toNat:Nat):Int)-((0:Nat):Int)=Builtin.Range.rangeSize lo hi (-1):=by rw[PySem.W.rangeSize_down];split <;> omega
  show IsRangeIter _ _ (lo+((0:Nat):Int)*(-1)) ((((lo-hi).toNat:Nat):Int)-((0:Nat):Int)) (-1);rw[e1,e2];exact Ap _ rfl
 ·have e:b=(s.heap.push {cls:=.type "range",data:=.fields #[.int lo t,.int hi u,.int (-1) v]}).objs.size:=by simpa using hb
  subst e;exact I1.wu (Ao _) (I1.aY.fresh (Ao _))
def Vp(ta:TA):TI:=λσ H R=>ta σ H λvs H1=>∃i j:Int,vs=[.int i,.int j,.int (-1)]/\(-(2 ^ 62)<=i/\i < 2 ^ 62/\-(2 ^ 62)<=j/\j < 2 ^ 62)/\R (Z5 i (i-j).toNat) H1
def Gw{c:im}{ta:TA}{pos:Pos}(hg:Gl X "range")(hm:X.mg "range"=bd)(ha:PA X [a,b,c] ta)(hs:ga [a,b,c] X.env=[(false,kt a X.env),(false,kt b X.env),(false,kt c X.env)]:=by rfl)(lV:ga [b,c] X.env=[(false,kt b X.env),(false,kt c X.env)]:=by rfl) :
  PI X tg (.Call (.Name "range" p) [a,b,c] [] pos) (Vp ta):=by
 intro Z s σ H R I h;refine Call_ (eZ I hg hm boot_range (AW (bh (ha pos Z s σ H _ I h) λus s1 ⟨vs,H1,I1,r1,q1⟩=>?_) (by show ga _ _=_;rw[hs,lV]) (by rw[lV];rfl)));obtain⟨i,j,e,⟨q1,q2,q3,q4⟩,q⟩:=q1;subst e;cases r1 with
 | cons r rr=>
  cases rr with
  | cons r' rr=>
   cases rr with
   | cons r'' rr=>
    cases rr;obtain⟨t,rfl⟩:=r;obtain⟨t',rfl⟩:=r';obtain⟨t'',rfl⟩:=r'';refine call_range_3 ⋯ (Gr I1 q1 q2 q3 q4 q) (.inl ?_);unfold Builtin.divisionGoesByPylong;have e1:decide ((if ((-1:Int)==0)=true then 0 else (-1:Int).natAbs.log2 / 30+1) > 300)=false:=by decide
    simp only[e1,D9]
end
def WJ(K:Ab)(a:ci):It where
 go:=λi H=>∃xs x,b9 K H a xs/\xs[i]?=some x
 OA:=λi H v H'=>∃p x,v=.ref p/\H p=bd/\H'=upd H p (.tup [.int i,x])/\∀xs,b9 K H a xs->xs[i]?=some x
 stop:=λi H=>∃xs,b9 K H a xs/\xs.length<=i
theorem xi{K:Ab}{pos:Pos}{t:ci}(HE:e≠it):Turn P w K (.Tuple Ñ kk pos) (WJ K t) [e,it] e (λi h=>(∃Í,IsEnum h e it (i:Nat) Í)/\h.IsListIter it t i) where
 mem:=by simp
 obj:=λi h st b hb=>by
  simp only[AH,Bj,or_false]at hb;rcases hb with rfl | rfl
  ·obtain⟨⟨_,e⟩,_⟩:=st;exact⟨_,e,λv z=>by cases z⟩
  ·obtain⟨_,⟨o,e,_,d⟩⟩:=st;exact⟨o,e,λv z=>by rw[d]at z;cases z⟩
 keep:=λi h h' st k=>⟨let ⟨o,e'⟩:=st.1;⟨o,k e (by simp) _ e'⟩,let ⟨o,e',p⟩:=st.2;⟨o,k it (by simp) _ e',p⟩⟩
 item:=by
  intro X hP hw hK hc i Z s σ H E I hf st hg;subst hP hw hK;obtain⟨xs,x,hx,gx⟩:=hg;obtain⟨aj,rx,tx,_⟩:=I.list hx;obtain⟨u,gu,ru⟩:=iI rx gx;obtain⟨⟨Í,hz⟩,hi⟩:=st;refine wpAny_pyNext_enum_item hz hi tx.isList (by simpa using gu) HE λh' zo j np _ k=>?_;refine⟨_,rfl,?_⟩;refine D7 zo λh2 z2 b2=>?_;have le:=An hz;have li:=let ⟨_,e',_⟩:=hi;An e';have lt:∀b∈[e,it],b < s.heap.objs.size:=λb hb=>by
   simp only[AH,Bj,or_false]at hb;rcases hb with rfl | rfl
   ·exact le
   ·exact li
  have nz:s.heap.objs.size≠e:=λz=>AO _ (by have:=le;rw[<- z]at this;exact this);have Vh:∀b o,b∉[e,it]->s.heap.get? b=some o->h2.get? b=some o:=λb o hb e'=>by
   have ya:b≠e:=λq=>hb (by simp[q]);rw[b2.2 b ya];exact k b o ya (λq=>hb (by simp[q])) e'
  have U5:h2.get? s.heap.objs.size=some {cls:=.type "tuple",data:=.seq #[.int i s.toks,u]}:=(b2.2 _ nz).trans np;have VH:=I.aY.fresh (Ao s.heap.objs.size);refine⟨.ref s.heap.objs.size,upd H s.heap.objs.size (.tup [.int i,x]),I.n9 (t':=s.toks+1) hf Vh (Ao _) ⟨by show 2<=sizeLine;decide,[.int i s.toks,u],.cons ⟨_,rfl⟩ (.cons ru .nil),⟨_,U5,rfl,_,rfl⟩⟩,rfl,⟨_,x,rfl,VH,rfl,λZ8 h'=>by rw[I.vK h' hx];exact gx⟩,⟨⟨_,z2⟩,let ⟨o,e',p⟩:=j;⟨o,(b2.2 _ (BD HE)).trans e',p⟩⟩,λb hb=>?_⟩;rw[ar (AA (lt b hb))];exact(hf b hb).1
 done:=by
  intro X hP hw hK hc i Z s σ H E I hf st hg;subst hP hw hK;obtain⟨xs,hx,hl⟩:=hg;obtain⟨aj,rx,tx,_⟩:=I.list hx;have el:=rx.length;obtain⟨⟨Í,hz⟩,hi⟩:=st;refine wpAny_pyNext_enum_end (I.ok.hd hc) hz hi tx.isList (by simp;omega) λh' k=>⟨rfl,I.rM (t':=s.toks) hf λb o hb e'=>k b o (λz=>hb (by simp[z])) e'⟩
 self:=λA i s Q E st h=>let ⟨_,e'⟩:=st.1;C9 e' h
end L2
namespace My
def en:Tr->Nat->Nat->Ent
 | .leaf x,_,_=>.word x
 | .node l r,o,j=>if j < l.size then en l o j else if j < l.size+r.size then en r (o+l.size) (j-l.size) else .pair (o+l.size-1) (o+l.size+r.size-1)
def up:Tr->Nat->Nat->O Nat->O Nat
 | .leaf _,o,_,ab=>o::ab
 | .node l r,o,j,ab=>if j < l.size then up l o j ((o+l.size+r.size)::ab) else if j < l.size+r.size then up r (o+l.size) (j-l.size) ((o+l.size+r.size)::ab) else (o+l.size+r.size)::ab
def eO:Tr->Nat->Nat->V->V
 | .leaf _,_,_,p=>p
 | .node l r,o,j,p=>if j < l.size then eO l o j (.int (o+l.size+r.size:Nat)) else if j < l.size+r.size then eO r (o+l.size) (j-l.size) (.int (o+l.size+r.size:Nat)) else p
def be:Tr->Nat->Nat->O Nat
 | .leaf _,o,_=>[o]
 | .node l r,o,j=>if j < l.size then be l o j else if j < l.size+r.size then be r (o+l.size) (j-l.size) else be l o (l.size-1)++be r (o+l.size) (r.size-1)
theorem iQ:∀(t:Tr) (o j:Nat),j < t.size->(t.nd o)[j]?=some (en t o j)
 | .leaf x,o,j,h=>by
  have:j=0:=by have:j < 1:=h;omega
  subst this;rfl
 | .node l r,o,j,h=>by
  have es:(Tr.node l r).size=l.size+r.size+1:=rfl;have hn:(Tr.node l r).nd o=l.nd o++r.nd (o+l.size)++[.pair (o+l.size-1) (o+l.size+r.size-1)]:=rfl;have ln:=l.aZ o;have rn:=r.aZ (o+l.size);unfold en;by_cases c1:j < l.size
  ·rw[if_pos c1,hn,Bc,AR ∅];exact iQ l o j c1
  ·rw[if_neg c1];by_cases c2:j < l.size+r.size
   ·rw[if_pos c2,hn,Bc,AN ∅,AR ∅,ln];exact iQ r _ _ ∅
   ·rw[if_neg c2,hn,AN (by rw[Ah];omega),Ah,ln,rn];have:j-(l.size+r.size)=0:=by omega
    rw[this];rfl
theorem KR:∀(t:Tr) (o j:Nat),j < t.size->(∃x,en t o j=.word x/\be t o j=[o+j])\/∃a b,en t o j=.pair (o+a) (o+b)/\a < j/\b < j/\be t o j=be t o a++be t o b
 | .leaf x,o,j,h=>by
  have:j=0:=by have:j < 1:=h;omega
  subst this;exact .inl ⟨x,rfl,rfl⟩
 | .node l r,o,j,h=>by
  have es:(Tr.node l r).size=l.size+r.size+1:=rfl;have lp:=l.size_pos;have rp:=r.size_pos;by_cases c1:j < l.size
  ·have e1:en (.node l r) o j=en l o j:=by rw[en,if_pos c1]
   have e2:∀k,k < l.size->be (.node l r) o k=be l o k:=λk hk=>by rw[be,if_pos hk]
   rw[e1];rcases KR l o j c1 with⟨x,q1,q2⟩ | ⟨a,b,q1,q2,q3,q4⟩
   ·exact .inl ⟨x,q1,by rw[e2 j c1];exact q2⟩
   ·exact .inr ⟨a,b,q1,q2,q3,by rw[e2 j c1,e2 a ∅,e2 b ∅];exact q4⟩
  ·by_cases c2:j < l.size+r.size
   ·have e1:en (.node l r) o j=en r (o+l.size) (j-l.size):=by rw[en,if_neg c1,if_pos c2]
    have e2:∀k,k < r.size->be (.node l r) o (l.size+k)=be r (o+l.size) k:=λk hk=>by
     rw[be,if_neg ∅,if_pos ∅];congr 1;omega
    have ej:j=l.size+(j-l.size):=by omega
    rw[e1];rcases KR r (o+l.size) (j-l.size) ∅ with⟨x,q1,q2⟩ | ⟨a,b,q1,q2,q3,q4⟩
    ·refine .inl ⟨x,q1,?_⟩;rw[ej,e2 _ ∅,q2];congr 1;omega
    ·refine .inr ⟨l.size+a,l.size+b,?_,by omega,by omega,?_⟩
     ·rw[q1,AL,AL]
     ·rw[e2 a ∅,e2 b ∅,ej,e2 _ ∅,q4]
   ·have ej:j=l.size+r.size:=by omega
    refine .inr ⟨l.size-1,l.size+r.size-1,?_,by omega,by omega,?_⟩
    ·rw[en,if_neg c1,if_neg c2];congr 1 <;> omega
    ·rw[be,if_neg c1,if_neg c2,be,if_pos ∅,be,if_neg ∅,if_pos ∅];congr 2;omega
theorem j5:∀(t:Tr) (o j:Nat) (p:V) (ab:O Nat),j < t.size->(j=t.size-1/\eO t o j p=p/\up t o j ab=(o+j)::ab)\/∃a,j < a/\a < t.size/\eO t o j p=.int (o+a:Nat)/\up t o j ab=(o+j)::up t o a ab
 | .leaf x,o,j,p,ab,h=>by
  have:j=0:=by have:j < 1:=h;omega
  subst this;exact .inl ⟨rfl,rfl,rfl⟩
 | .node l r,o,j,p,ab,h=>by
  have es:(Tr.node l r).size=l.size+r.size+1:=rfl;have lp:=l.size_pos;have rp:=r.size_pos;have er:up (.node l r) o (l.size+r.size) ab=(o+l.size+r.size)::ab:=by rw[up,if_neg ∅,if_neg ∅]
  by_cases c1:j < l.size
  ·have e1:eO (.node l r) o j p=eO l o j (.int (o+l.size+r.size:Nat)):=by rw[eO,if_pos c1]
   have e2:∀k,k < l.size->up (.node l r) o k ab=up l o k ((o+l.size+r.size)::ab):=λk hk=>by rw[up,if_pos hk]
   rw[e1,e2 j c1];rcases j5 l o j (.int (o+l.size+r.size:Nat)) ((o+l.size+r.size)::ab) c1 with⟨q1,q2,q3⟩ | ⟨a,q1,q2,q3,q4⟩
   ·refine .inr ⟨l.size+r.size,by omega,by omega,by rw[q2,AL],by rw[q3,er]⟩
   ·exact .inr ⟨a,q1,by omega,q3,by rw[q4,e2 a q2]⟩
  ·by_cases c2:j < l.size+r.size
   ·have e1:eO (.node l r) o j p=eO r (o+l.size) (j-l.size) (.int (o+l.size+r.size:Nat)):=by rw[eO,if_neg c1,if_pos c2]
    have e2:∀k,k < r.size->up (.node l r) o (l.size+k) ab=up r (o+l.size) k ((o+l.size+r.size)::ab):=λk hk=>by
     rw[up,if_neg ∅,if_pos ∅];congr 1;omega
    obtain⟨i,rfl⟩:∃i,j=l.size+i:=⟨j-l.size,by omega⟩;have ei:l.size+i-l.size=i:=by omega
    rw[e1,e2 i ∅,ei];rcases j5 r (o+l.size) i (.int (o+l.size+r.size:Nat)) ((o+l.size+r.size)::ab) ∅ with⟨q1,q2,q3⟩ | ⟨a,q1,q2,q3,q4⟩
    ·refine .inr ⟨l.size+r.size,by omega,by omega,by rw[q2,AL],by rw[q3,er,AL]⟩
    ·exact .inr ⟨l.size+a,by omega,by omega,by rw[q3,AL],by rw[q4,e2 a q2,AL]⟩
   ·have ej:j=l.size+r.size:=by omega
    refine .inl ⟨by omega,by rw[eO,if_neg c1,if_neg c2],?_⟩;rw[ej,er,AL]
def jX:Tr->Nat->V->O V
 | .leaf _,_,p=>[p]
 | .node l r,o,p=>jX l o (.int (o+l.size+r.size:Nat))++jX r (o+l.size) (.int (o+l.size+r.size:Nat))++[p]
theorem ip:∀(t:Tr) (o:Nat) (p:V),(jX t o p).length=t.size
 | .leaf _,_,_=>rfl
 | .node l r,o,p=>by
  unfold jX;rw[Ah,Ah,ip l,ip r];rfl
theorem F2(t:Tr)(o:Nat)(p q:V)(A B:O V):(A++jX t o p++B).set (A.length+t.size-1) q=A++jX t o q++B:=by
 have key:∃I,jX t o p=I++[p]/\jX t o q=I++[q]:=by
  cases t with
  | leaf _=>exact⟨[],rfl,rfl⟩
  | node l r=>exact⟨_,rfl,rfl⟩
 obtain⟨I,e1,e2⟩:=key;have h1:=ip t o p;rw[e1,Ah]at h1;have dY:I.length+1=t.size:=h1;rw[e1,e2];have ei:A.length+t.size-1=(A++I).length:=by rw[Ah];omega
 rw[ei,show A++(I++[p])++B=(A++I)++p::B by simp,List.set_append_right _ _ (Ao _),Nat.sub_self];simp
theorem K1:∀(es fs:O Ent) (i:Nat) (l:O V),ah (es++fs) i l=ah fs (i+es.length) (ah es i l)
 | [],fs,i,l=>rfl
 | e::es,fs,i,l=>by
  show ah (es++fs) (i+1) (K2 l i e)=ah fs (i+(es.length+1)) (ah es (i+1) (K2 l i e));rw[K1 es fs];congr 1;omega
theorem yQ:∀(t:Tr) (A B:O V),ah (t.nd A.length) A.length (A++Ak t.size .aK++B)=A++jX t A.length .aK++B
 | .leaf x,A,B=>rfl
 | .node l r,A,B=>by
  have es:(Tr.node l r).size=l.size+r.size+1:=rfl;have hn:(Tr.node l r).nd A.length=l.nd A.length++r.nd (A.length+l.size)++[.pair (A.length+l.size-1) (A.length+l.size+r.size-1)]:=rfl;have ln:=l.aZ A.length;have rn:=r.aZ (A.length+l.size);have h1:=yQ l A (Ak r.size .aK++([V.aK]++B));have e0:A++Ak (Tr.node l r).size V.aK++B=A++Ak l.size .aK++(Ak r.size .aK++([V.aK]++B)):=by
   rw[es,<- Di,<- Di];simp only[Bc];rfl
  rw[hn,uv,K1,e0,h1,ln];have la:(A++jX l A.length V.aK).length=A.length+l.size:=by rw[Ah,ip]
  have h2:=yQ r (A++jX l A.length V.aK) ([V.aK]++B);rw[la]at h2;have e1:A++jX l A.length V.aK++(Ak r.size V.aK++([V.aK]++B))=A++jX l A.length V.aK++Ak r.size V.aK++([V.aK]++B):=by simp[Bc]
  rw[e1,h2,Ah,ln,rn];show((_:O V).set (A.length+l.size-1) _).set (A.length+l.size+r.size-1) _=_;have s1:=F2 l A.length .aK (.int (A.length+(l.size+r.size):Nat)) A (jX r (A.length+l.size) V.aK++([V.aK]++B));have e2:A++jX l A.length V.aK++jX r (A.length+l.size) V.aK++([V.aK]++B)=A++jX l A.length V.aK++(jX r (A.length+l.size) V.aK++([V.aK]++B)):=by simp[Bc]
  rw[e2,s1];have lb:(A++jX l A.length (V.int (A.length+(l.size+r.size):Nat))).length=A.length+l.size:=by rw[Ah,ip]
  have s2:=F2 r (A.length+l.size) .aK (.int (A.length+(l.size+r.size):Nat)) (A++jX l A.length (V.int (A.length+(l.size+r.size):Nat))) ([V.aK]++B);rw[lb]at s2;have e3:A++jX l A.length (V.int (A.length+(l.size+r.size):Nat))++(jX r (A.length+l.size) V.aK++([V.aK]++B))=A++jX l A.length (V.int (A.length+(l.size+r.size):Nat))++jX r (A.length+l.size) V.aK++([V.aK]++B):=by simp[Bc]
  rw[e3,s2];have e4:jX (.node l r) A.length .aK=jX l A.length (.int (A.length+l.size+r.size:Nat))++jX r (A.length+l.size) (.int (A.length+l.size+r.size:Nat))++[.aK]:=rfl;rw[e4,AL A.length l.size r.size];simp[Bc]
theorem ur:∀(t:Tr) (o j:Nat) (p:V),j < t.size->(jX t o p)[j]?=some (eO t o j p)
 | .leaf x,o,j,p,h=>by
  have:j=0:=by have:j < 1:=h;omega
  subst this;rfl
 | .node l r,o,j,p,h=>by
  have es:(Tr.node l r).size=l.size+r.size+1:=rfl;have ln:=ip l o (.int (o+l.size+r.size:Nat));have rn:=ip r (o+l.size) (.int (o+l.size+r.size:Nat));unfold jX eO;by_cases c1:j < l.size
  ·rw[if_pos c1,Bc,AR ∅];exact ur l _ _ _ c1
  ·rw[if_neg c1];by_cases c2:j < l.size+r.size
   ·rw[if_pos c2,Bc,AN ∅,AR ∅,ln];exact ur r _ _ _ ∅
   ·rw[if_neg c2,AN (by rw[Ah];omega),Ah,ln,rn];have:j-(l.size+r.size)=0:=by omega
    rw[this];rfl
def SD(t:Tr)(h:j < t.size):(ah (t.nd 0) 0 (Ak t.size .aK))[j]?=some (eO t 0 j .aK):=by
 have q:=yQ t [] [];have e:([]:O V)++Ak t.size .aK++[]=Ak t.size .aK:=by simp
 have e2:([]:O V)++jX t ([]:O V).length .aK++[]=jX t 0 .aK:=by simp
 rw[e,e2]at q;have q':ah (t.nd 0) 0 (Ak t.size .aK)=jX t 0 .aK:=q;rw[q'];exact ur t 0 j .aK h
end My
variable{H1:L2.Hp}
namespace PL
section
variable{K:Ab}
def Ou(K:Ab)(H:Hp)(a:ci)(xs:O V):Prop:=(∃o,H a=some (.bQ o (.lst xs)))\/
  ∃(o:Obj) (aj:Array bn) (n:Nat),K.lookup a=some o/\o.cls=.type "list"/\o.dict=bd/\o.data=.seq aj n/\aj.size<=sizeLine/\Vals xs aj.toList
def Ou.sq{a:ci}(h:Ou K H a xs):b9 K H a xs:=h.elim (λh=>.inl (.inr h)) .inr
structure aW(K:Ab)(H H':Hp):Prop where
 t:∀p vs,H p=some (.tup vs)->H' p=some (.tup vs)
 z:∀p o u,H p=some (.bQ o u)->H' p=some (.bQ o u)
def aW.f{H H':Hp}(t:aW K H H')(p:ci)(vs:O V)(h:Ou K H p vs):Ou K H' p vs:=h.elim (λ⟨o,h⟩=>.inl ⟨o,t.z _ _ _ h⟩) .inr
def aW.refl(H:Hp):aW K H H:=⟨λ_ _ h=>h,λ_ _ _ h=>h⟩
def aW.trans(a:aW K H H1)(b:aW K H1 H2):aW K H H2:=⟨λp vs h=>b.t p vs (a.t p vs h),λp o w h=>b.z p o w (a.z p o w h)⟩
def _root_.L2.iu.cU(s:iu H H'):aW K H H':=⟨λp vs h=>s _ _ h,λp o u h=>s _ _ h⟩
inductive PV where
 | aK | bl (b:Bool) | int (i:Int) | str (x:Str) | tup (l:List PV) | ref (n:Nat) | ty (n:String) | cl (l:List PV) | dv (ks vs:List PV) | ob (ns:List Str) (l:List PV)
def kP:Key->PV
 | .inl i=>.int i
 | .inr x=>.str x
inductive PO where
 | lst (xs:List PV) | dk (kvs:List (Key×PV)) | dt (kvs:List (List Key×PV)) | opq (φ:List V->Prop)
abbrev PH:=O PO
abbrev uM:=O (Option PV)
mutual
inductive VR(K:Ab)(ι:List ci)(H:Hp):V->PV->Prop
 | aK:VR K ι H .aK .aK
 | bl (b:Bool):VR K ι H (.bl b) (.bl b)
 | int (i:Int):VR K ι H (.int i) (.int i)
 | str (x:Str):VR K ι H (.str x) (.str x)
 | ty (n:String):VR K ι H (.ty n) (.ty n)
 | tup {p:ci}{vs:List V}{l:List PV} (h:H p=some (.tup vs)) (r:az K ι H vs l):VR K ι H (.ref p) (.tup l)
 | ref {n:Nat}{a:ci} (h:ι[n]?=some a):VR K ι H (.ref a) (.ref n)
 | cl {a:ci}{vs:List V}{l:List PV} (h:Ou K H a vs) (r:az K ι H vs l):VR K ι H (.ref a) (.cl l)
 | dk {a:ci}{o:Obj}{kvs:List (Key×V)}{ks l:List PV} (h:H a=some (.bQ o (.dK kvs))) (e:ks=kvs.map λkv=>kP kv.1) (r:az K ι H (kvs.map (·.2)) l):VR K ι H (.ref a) (.dv ks l)
 | dt {a:ci}{o:Obj}{kvs:List (List Key×V)}{ks l:List PV} (h:H a=some (.bQ o (.dT kvs))) (e:ks=kvs.map λkv=>.tup (kv.1.map kP)) (r:az K ι H (kvs.map (·.2)) l):VR K ι H (.ref a) (.dv ks l)
 | ob {a C dx:ci}{o:Obj}{fs:List (Str×V)}{ns:List Str}{l:List PV} (h:H a=some (.bQ o (.ins C dx fs))) (c:WO K C) (na:∀f∈ns,K5 K C f) (e:ns=fs.map (·.1)) (r:az K ι H (fs.map (·.2)) l):VR K ι H (.ref a) (.ob ns l)
inductive az(K:Ab)(ι:List ci)(H:Hp):List V->List PV->Prop
 | nil:az K ι H [] []
 | cons {v:V}{p:PV}{vs:List V}{ps:List PV} (r:VR K ι H v p) (t:az K ι H vs ps):az K ι H (v::vs) (p::ps)
end
section
variable{ι ι':O ci}{H H':Hp}
mutual
theorem VR.mono(ht:aW K H H')(hi:∀(n:Nat) (a:ci),ι[n]?=some a->ι'[n]?=some a):∀{v:V}{p:PV},VR K ι H v p->VR K ι' H' v p
 | _,_,.aK=>.aK
 | _,_,.bl b=>.bl b
 | _,_,.int i=>.int i
 | _,_,.str x=>.str x
 | _,_,.ty n=>.ty n
 | _,_,.tup h r=>.tup (ht.t _ _ h) (az.mono ht hi r)
 | _,_,.cl h r=>.cl (ht.f _ _ h) (az.mono ht hi r)
 | _,_,.dk h e r=>.dk (ht.z _ _ _ h) e (az.mono ht hi r)
 | _,_,.dt h e r=>.dt (ht.z _ _ _ h) e (az.mono ht hi r)
 | _,_,.ob h c na e r=>.ob (ht.z _ _ _ h) c na e (az.mono ht hi r)
 | _,_,.ref h=>.ref (hi _ _ h)
theorem az.mono(ht:aW K H H')(hi:∀(n:Nat) (a:ci),ι[n]?=some a->ι'[n]?=some a):∀{vs:O V}{ps:O PV},az K ι H vs ps->az K ι' H' vs ps
 | _,_,.nil=>.nil
 | _,_,.cons r t=>.cons (VR.mono ht hi r) (az.mono ht hi t)
end
theorem az.length:∀{vs:O V}{ps:O PV},az K ι H vs ps->vs.length=ps.length
 | _,_,.nil=>rfl
 | _,_,.cons _ t=>by rw[Au,Au,az.length t]
theorem az.get:∀{vs:O V}{ps:O PV}{i:Nat}{p:PV},az K ι H vs ps->ps[i]?=some p->∃v,vs[i]?=some v/\VR K ι H v p
 | _,_,_,_,.nil,e=>by simp at e
 | _,_,0,_,.cons r _,e=>by simp at e;subst e;exact⟨_,rfl,r⟩
 | _,_,i+1,p,.cons _ t,e=>by
  obtain⟨v,h1,h2⟩:=az.get (i:=i) (p:=p) t (by simpa using e);exact⟨v,by simpa using h1,h2⟩
theorem az.set{p:PV}(r:VR K ι H v p):∀{vs:O V}{ps:O PV} (i:Nat),az K ι H vs ps->az K ι H (vs.set i v) (ps.set i p)
 | _,_,_,.nil=>.nil
 | _,_,0,.cons _ t=>.cons r t
 | _,_,i+1,.cons q t=>.cons q (az.set r i t)
theorem az.append:∀{xs ys:O V}{us ws:O PV},az K ι H xs us->az K ι H ys ws->az K ι H (xs++ys) (us++ws)
 | _,_,_,_,.nil,s=>s
 | _,_,_,_,.cons r t,s=>.cons r (az.append t s)
theorem az.take:∀{xs:O V}{us:O PV} (n:Nat),az K ι H xs us->az K ι H (xs.take n) (us.take n)
 | _,_,0,_=>.nil
 | _,_,_+1,.nil=>.nil
 | _,_,n+1,.cons r t=>.cons r (az.take n t)
theorem az.drop:∀{xs:O V}{us:O PV} (n:Nat),az K ι H xs us->az K ι H (xs.drop n) (us.drop n)
 | _,_,0,r=>r
 | _,_,_+1,.nil=>.nil
 | _,_,n+1,.cons _ t=>az.drop n t
theorem az.reverse:∀{xs:O V}{us:O PV},az K ι H xs us->az K ι H xs.reverse us.reverse
 | _,_,.nil=>.nil
 | _,_,.cons r t=>by rw[De,De];exact(az.reverse t).append (.cons r .nil)
def az.one{v:V}{p:PV}(r:VR K ι H v p):az K ι H [v] [p]:=.cons r .nil
end
structure Go(ι ι':List ci)(H H':Hp):Prop where
 ext:∃m,ι'=ι++m
 new:∀a,a∈ι'->a∉ι->H a=bd
 keep:∀a o,a∉ι->H a=some o->H' a=some o
def Go.refl(ι:O ci)(H:Hp):Go ι ι H H:=⟨⟨[],by simp⟩,λa h n=>absurd h n,λ_ _ _ h=>h⟩
def OR(K:Ab)(ι:O ci)(H:Hp)(a:ci):PO->Prop
 | .lst xs=>∃vs,H a=some (.lst vs)/\az K ι H vs xs
 | .dk kvs=>∃vs:O (Key×V),H a=some (.dK vs)/\vs.map (·.1)=kvs.map (·.1)/\az K ι H (vs.map (·.2)) (kvs.map (·.2))
 | .dt kvs=>∃vs:O (O Key×V),H a=some (.dT vs)/\vs.map (·.1)=kvs.map (·.1)/\az K ι H (vs.map (·.2)) (kvs.map (·.2))
 | .opq φ=>∃vs,H a=some (.lst vs)/\φ vs
structure HR(K:Ab)(ι:List ci)(H:Hp)(h:PH):Prop where
 nd:ι.Nodup
 len:ι.length=h.length
 obj:∀(n:Nat) (a:ci) (o:PO),ι[n]?=some a->h[n]?=some o->OR K ι H a o
end
end PL
variable{e:Bu}
namespace PL
section
variable{K:Ab}
abbrev QV:=PV->PH->Prop
structure ME where
 run:uM->PH->QV->Prop
 mono:∀{ps h}{Q Q':QV},(∀v h',Q v h'->Q' v h')->run ps h Q->run ps h Q'
structure MT where
 run:uM->PH->(Bool->PH->Prop)->Prop
 mono:∀{ps h}{Q Q':Bool->PH->Prop},(∀v h',Q v h'->Q' v h')->run ps h Q->run ps h Q'
structure MA where
 run:uM->PH->(List PV->PH->Prop)->Prop
 mono:∀{ps h}{Q Q':List PV->PH->Prop},(∀v h',Q v h'->Q' v h')->run ps h Q->run ps h Q'
structure ML where
 run:uM->PH->(List PV->PH->Prop)->Prop
 mono:∀{ps h}{Q Q':List PV->PH->Prop},(∀v h',Q v h'->Q' v h')->run ps h Q->run ps h Q'
structure Src where
 items:List PV
 ok:PH->Prop
 fz:Bool
structure MI where
 run:uM->PH->(Src->PH->Prop)->Prop
 mono:∀{ps h}{Q Q':Src->PH->Prop},(∀v h',Q v h'->Q' v h')->run ps h Q->run ps h Q'
structure PD where
 nx:uM->PH->Prop
 rt:QV
 bk:uM->PH->Prop
 ct:uM->PH->Prop
structure PD.Le(D D':PD):Prop where
 nx:∀ps h,D.nx ps h->D'.nx ps h
 rt:∀v h,D.rt v h->D'.rt v h
 bk:∀ps h,D.bk ps h->D'.bk ps h
 ct:∀ps h,D.ct ps h->D'.ct ps h
structure MS where
 run:PD->uM->PH->Prop
 mono:∀{D D' ps h},PD.Le D D'->run D ps h->run D' ps h
structure MG where
 run:PV->uM->PH->(uM->PH->Prop)->Prop
 mono:∀{v ps h}{Q Q':uM->PH->Prop},(∀ps h,Q ps h->Q' ps h)->run v ps h Q->run v ps h Q'
def pQ(K:Ab)(ι:O ci)(H:Hp)(Q:VK):QV:=λp h'=>∀ι' v H',Go ι ι' H H'->HR K ι' H' h'->VR K ι' H' v p->Q v H'
def PE.imp{t t':TE}(h:PE X e t)(f:∀σ H Q,t' σ H Q->t σ H Q):PE X e t':=λZ s σ H Q I q=>h Z s σ H Q I (f _ _ _ q)
def PT.imp{t t':TT}(h:PT X e t)(f:∀σ H Q,t' σ H Q->t σ H Q):PT X e t':=λZ s σ H Q I q=>h Z s σ H Q I (f _ _ _ q)
def PW.imp{t t':TT}(h:PW X e t)(f:∀σ H Q,t' σ H Q->t σ H Q):PW X e t':=λw Z s σ H Q I q=>h w Z s σ H Q I (f _ _ _ q)
def PA.imp{e:O im}{t t':TA}(h:PA X e t)(f:∀σ H Q,t' σ H Q->t σ H Q):PA X e t':=λpos Z s σ H Q I q=>h pos Z s σ H Q I (f _ _ _ q)
def PS.imp{e:sK}{t t':TS}(h:PS X e t)(f:∀D σ H,t' D σ H->t D σ H):PS X e t':=λZ s σ H D I q=>h Z s σ H D I (f _ _ _ q)
def nV.imp{e:O sK}{t t':TS}(h:nV X e t)(f:∀D σ H,t' D σ H->t D σ H):nV X e t':=λZ s σ H D I q=>h Z s σ H D I (f _ _ _ q)
def PG.imp{t t':TG}(h:PG X e t)(f:∀v σ H Q,t' v σ H Q->t v σ H Q):PG X e t':=λZ s σ H v u Q I r q=>h Z s σ H v u Q I r (f _ _ _ _ q)
def PI.imp{t t':TI}(h:PI X tg e t)(f:∀σ H Q,t' σ H Q->t σ H Q):PI X tg e t':=λZ s σ H R I q=>h Z s σ H R I (f _ _ _ q)
section
abbrev P2:=PV->PV->PH->QV->Prop
structure M2 where
 f:P2
 mono:∀{x y h}{Q Q':QV},(∀v h',Q v h'->Q' v h')->f x y h Q->f x y h Q'
def M2.Ok(K:Ab)(r:R2)(m:M2):Prop:=∀{ι H h u v x y Q},HR K ι H h->VR K ι H u x->VR K ι H v y->m.f x y h (pQ K ι H Q)->r u v H Q
end
end
end PL
variable{ι:O BA}
namespace PL
section
variable{K:Ab}
section
def iT:∀{vs:O V}{l:O PV},az K ι H vs l->(!l.isEmpty)=!vs.isEmpty
 | _,_,.nil=>rfl
 | _,_,.cons _ _=>rfl
structure MQ where
 run:uM->PH->(Src->PH->Prop)->Prop
 mono:∀{ps h}{Q Q':Src->PH->Prop},(∀v h',Q v h'->Q' v h')->run ps h Q->run ps h Q'
end
end
section
structure MGs where
 run:List PV->uM->PH->(uM->PH->Prop)->Prop
 mono:∀{v ps h}{Q Q':uM->PH->Prop},(∀ps h,Q ps h->Q' ps h)->run v ps h Q->run v ps h Q'
end
section
variable{K:Ab}
section
structure rF where
 f:List PV->PH->QV->Prop
 mono:∀{l h}{Q Q':QV},(∀v h',Q v h'->Q' v h')->f l h Q->f l h Q'
def rF.Ok(K:Ab)(r:O V->Hp->VK->Prop)(m:rF):Prop:=∀{ι H h vs l Q},HR K ι H h->az K ι H vs l->m.f l h (pQ K ι H Q)->r vs H Q
end
end
end PL
variable{g':Int->Int->L2.V}{g:Int->Int->PL.PV}
namespace PL
section
variable{K:Ab}
def aI(g:Int->Int->PV):M2:=⟨λx y h Q=>match x,y with | .int i,.int j=>Q (g i j) h | _,_=>False,λf q=>by
 revert q
 split
 ·exact f _ _
 ·exact λz=>z⟩
def SG(C:Int->Int->Prop)(g:Int->Int->PV):M2:=⟨λx y h Q=>match x,y with | .int i,.int j=>C i j/\Q (g i j) h | _,_=>False,λf q=>by
 revert q
 split
 ·exact λq=>⟨q.1,f _ _ q.2⟩
 ·exact λz=>z⟩
def wX(hg:∀ι H i j,VR K ι H (g' i j) (g i j)):M2.Ok K (L6 g') (aI g):=by
 intro ι H h u v x y Q hr hu hv q;unfold aI at q;dsimp only at q;revert q
 split
 ·intro q;cases hu;cases hv;exact⟨_,_,rfl,rfl,q ι _ H (Go.refl _ _) hr (hg _ _ _ _)⟩
 ·exact Bn
def uw{C:Int->Int->Prop}(hg:∀ι H i j,VR K ι H (g' i j) (g i j)):M2.Ok K (rI C g') (SG C g):=by
 intro ι H h u v x y Q hr hu hv q;unfold SG at q;dsimp only at q;revert q
 split
 ·intro q;cases hu;cases hv;exact⟨_,_,rfl,rfl,q.1,q.2 ι _ H (Go.refl _ _) hr (hg _ _ _ _)⟩
 ·exact Bn
def ox:=aI λi j=>.int (i-j)
def mj:=SG wp λi j=>.int (i*j)
def oDiv:=SG Oz λi j=>.int (i / j)
def oMod:=SG (λ_ j=>0 < j) λi j=>.int (i % j)
def vB:=SG La λi j=>.int (i ^ j.toNat)
def oLt:=aI λi j=>.bl (decide (i < j))
def oLe:=aI λi j=>.bl (decide (i<=j))
def Q1:=aI λi j=>.bl (decide (j < i))
def W9:=aI λi j=>.bl (decide (j<=i))
section
def az.gP:∀{vs:O V}{l:O PV},az K ι H vs l->(vs=[]↔l=[])
 | _,_,.nil=>by simp
 | _,_,.cons _ _=>by simp
end
mutual
def PV.dat:PV->Bool
 | .tup l=>qo l
 | .ref _=>false
 | .ty _=>false
 | .cl _=>false
 | .dv _ _=>false
 | .ob _ _=>false
 | _=>true
def qo:O PV->Bool
 | []=>true
 | x::l=>x.dat&&qo l
end
end
section
variable{K:Ab}
section
def PV.lx:PV->Bool
 | .aK=>true
 | _=>false
def GB:M2:=⟨λx y h Q=>match y with | .aK=>Q (.bl x.lx) h | _=>False,λf q=>by
 revert q
 split
 ·exact f _ _
 ·exact λz=>z⟩
def GU{x:PV}(h:VR K ι H v x):decide (v=.aK)=x.lx:=by cases h <;> simp[PV.lx]
def MN:M2.Ok K (λx y H Q=>y=.aK/\Q (.bl (decide (x=.aK))) H) GB:=by
 intro ι H h u v x y Q hr hu hv q;cases hv with
 | aK=>exact⟨rfl,q ι _ H (Go.refl _ _) hr (by rw[GU hu];exact .bl _)⟩
 | _=>exact q.elim
end
end
end PL
variable{l:O PL.PV}
namespace PL
section
variable{K:Ab}
section
def Io{v':V}{w:bn}(h:RelV v w)(h':RelV v' w):v=v':=Option.some.inj (h.abs.symm.trans h'.abs)
end
section
variable{c:im}
def mIx(a:MQ)(b:ME):ME:=⟨λps h Q=>a.run ps h λS h1=>b.run ps h1 λy h2=>match y with
 | .int k=>S.ok h2/\match df S.items k with | some v=>Q v h2 | none=>False
 | _=>False,λf q=>a.mono (λ_ _ q=>b.mono (λ_ _ q=>by
  revert q
  split
  ·rintro⟨q0,q⟩;refine⟨q0,?_⟩;revert q
   split
   ·exact f _ _
   ·exact λz=>z
  ·exact λz=>z) q) q⟩
def az.df(r:az K ι H vs l){k:Int}{p:PV}(e:L2.df l k=some p):∃v,L2.df vs k=some v/\VR K ι H v p:=by
 unfold L2.df at e ⊢;rw[r.length];cases z:uJ l.length k with
 | none=>rw[z]at e;cases e
 | some j=>
  rw[z]at e;exact r.get e
def Je:M2:=⟨λx y h Q=>match x,y with
 | .str z,.int k=>z.length<=sizeLine/\match L2.df z.cps.toList k with | some c=>Q (.str ⟨#[c]⟩) h | none=>False
 | _,_=>False,λf q=>by
  revert q
  split
  ·rintro⟨q0,q⟩;refine⟨q0,?_⟩;revert q
   split
   ·exact f _ _
   ·exact λz=>z
  ·exact λz=>z⟩
def MM:M2.Ok K Qu Je:=by
 intro ι H h u v x y Q hr hu hv q;unfold Je at q;dsimp only at q;revert q
 split
 ·rename_i z k;rintro⟨q0,q⟩;cases hu;cases hv;cases e:L2.df z.cps.toList k with
  | none=>rw[e]at q;exact q.elim
  | some c=>rw[e]at q;exact⟨z,k,c,rfl,rfl,q0,e,q ι _ H (Go.refl _ _) hr (.str _)⟩
 ·exact Bn
def il:rF:=⟨λl h Q=>match l with
 | [.str y]=>y.length<=sizeLine/\Q (.int y.length) h
 | [.tup l]=>Q (.int l.length) h
 | [.cl l]=>Q (.int l.length) h
 | [.ref n]=>match h[n]? with
  | some (.lst xs)=>Q (.int xs.length) h
  | _=>False
 | _=>False,λf q=>by
  revert q
  split
  ·exact λq=>⟨q.1,f _ _ q.2⟩
  ·exact f _ _
  ·exact f _ _
  ·split
   ·exact f _ _
   ·exact λz=>z
  ·exact λz=>z⟩
def Oa(K:Ab):rF.Ok K (Qt K) il:=by
 intro ι H h vs l Q hr hv q;unfold il at q;dsimp only at q;revert q
 split
 ·intro q;cases hv with
  | cons x t=>cases t;cases x;exact⟨_,_,rfl,⟨q.1,rfl⟩,q.2 ι _ H (Go.refl _ _) hr (.int _)⟩
 ·intro q;cases hv with
  | cons x t=>
   cases t;cases x with
   | tup e r=>exact⟨_,_,rfl,.inr ⟨_,cS.of e,r.length.symm⟩,q ι _ H (Go.refl _ _) hr (.int _)⟩
 ·intro q;cases hv with
  | cons x t=>
   cases t;cases x with
   | cl e r=>exact⟨_,_,rfl,.inl ⟨_,e.sq,r.length.symm⟩,q ι _ H (Go.refl _ _) hr (.int _)⟩
 ·rename_i n;cases hv with
  | cons x t=>
   cases t;cases x with
   | @ref _ a e=>
   split
   ·rename_i xs hn;intro q;obtain⟨ws,e1,e2⟩:=hr.obj n a _ e hn;exact⟨_,_,rfl,.inl ⟨ws,b9.of e1,e2.length.symm⟩,q ι _ H (Go.refl _ _) hr (.int _)⟩
   ·exact Bn
 ·exact Bn
inductive Kd where
 | str | tup | int | bool
def Kd.name:Kd->String
 | .str=>"str" | .tup=>"tuple" | .int=>"int" | .bool=>"bool"
def Kd.is:Kd->PV->Bool
 | .str,.str _=>true
 | .tup,.tup _=>true
 | .int,.int _=>true
 | .int,.bl _=>true
 | .bool,.bl _=>true
 | _,_=>false
def UE(K:Ab):O V->Hp->VK->Prop:=λxs H Q=>∃x c t b,xs=[x,.ty c]/\(jO K H x t\/(t=.type "tuple"/\∃a vs,x=.ref a/\cS K H a vs))/\Bp K t (.type c)=some b/\Q (.bl b) H
def Hn(K:Ab)(hK:X.K=K):bt X (.builtin "isinstance") (UE K):=by
 subst hK;intro Z s σ H xs us Q I r h;obtain⟨x,c,t,b,rfl,ty | ⟨rfl,a,vs,rfl,hT⟩,e,q⟩:=h
 ·exact m9 Z s σ H _ us Q I r ⟨x,c,t,b,rfl,ty,e,q⟩
 ·obtain⟨u,w,rfl,r1,r2⟩:=vals2 r;cases r1;cases r2;obtain⟨aj,_,⟨o,h1,h2,_⟩,_⟩:=I.tuple hT;exact A9 Fq I.qU ⟨o,h1,h2⟩ e (λz=>nomatch z) λtk=>⟨.bl b,H,I.tok _,rfl,q⟩
def nN(K:Ab):(∀k:Kd,Bp K (.type "NoneType") (.type k.name)=some false)/\(∀k:Kd,Bp K (.type "list") (.type k.name)=some false)/\(∀k:Kd,Bp K (.type "dict") (.type k.name)=some false):=
 ⟨λk=>by cases k <;> kernel_rfl,λk=>by cases k <;> kernel_rfl,λk=>by cases k <;> kernel_rfl⟩
def Rm(K:Ab)(b:Bool)(k:Kd):Bp K (.type "bool") (.type k.name)=some (k.is (.bl b)):=by cases k <;> kernel_rfl
def Nd(K:Ab)(b:Int)(k:Kd):Bp K (.type "int") (.type k.name)=some (k.is (.int b)):=by cases k <;> kernel_rfl
def Nc(K:Ab)(b:Str)(k:Kd):Bp K (.type "str") (.type k.name)=some (k.is (.str b)):=by cases k <;> kernel_rfl
def Nb(K:Ab)(b:O PV)(k:Kd):Bp K (.type "tuple") (.type k.name)=some (k.is (.tup b)):=by cases k <;> kernel_rfl
def KW:rF:=⟨λl h Q=>match l with | [.int i]=>Q (.int (if i < 0 then -i else i)) h | _=>False,λf q=>by
 revert q
 split
 ·exact f _ _
 ·exact λz=>z⟩
def Oc:rF.Ok K (λxs H Q=>∃i,xs=[.int i]/\Q (.int (if i < 0 then -i else i)) H) KW:=by
 intro ι H h vs l Q hr hv q;unfold KW at q;dsimp only at q;revert q
 split
 ·intro q;cases hv with
  | cons x t=>cases t;cases x;exact⟨_,rfl,q ι _ H (Go.refl _ _) hr (.int _)⟩
 ·exact Bn
def um:rF:=⟨λl h Q=>match l with | [.int i]=>Q (.int i) h | [.bl k]=>Q (.int (if k then 1 else 0)) h | _=>False,λf q=>by
 revert q
 split
 ·exact f _ _
 ·exact f _ _
 ·exact λz=>z⟩
def Ob:rF.Ok K (λxs H Q=>(∃i,xs=[.int i]/\Q (.int i) H)\/∃k,xs=[.bl k]/\Q (.int (if k then 1 else 0)) H) um:=by
 intro ι H h vs l Q hr hv q;unfold um at q;dsimp only at q;revert q
 split
 ·intro q;cases hv with
  | cons x t=>cases t;cases x;exact .inl ⟨_,rfl,q ι _ H (Go.refl _ _) hr (.int _)⟩
 ·intro q;cases hv with
  | cons x t=>cases t;cases x;exact .inr ⟨_,rfl,q ι _ H (Go.refl _ _) hr (.int _)⟩
 ·exact Bn
def KU:rF:=⟨λl h Q=>match l with | [.int i,.int j]=>Q (.int (if j > i then j else i)) h | _=>False,λf q=>by
 revert q
 split
 ·exact f _ _
 ·exact λz=>z⟩
def KS:rF:=⟨λl h Q=>match l with | [.int i,.int j]=>Q (.int (if j < i then j else i)) h | _=>False,λf q=>by
 revert q
 split
 ·exact f _ _
 ·exact λz=>z⟩
def N9:rF.Ok K (λxs H Q=>∃i j,xs=[.int i,.int j]/\Q (.int (if j > i then j else i)) H) KU:=by
 intro ι H h vs l Q hr hv q;unfold KU at q;dsimp only at q;revert q
 split
 ·intro q;cases hv with
  | cons x t=>cases t with
   | cons y t=>cases t;cases x;cases y;exact⟨_,_,rfl,q ι _ H (Go.refl _ _) hr (.int _)⟩
 ·exact Bn
def N8:rF.Ok K (λxs H Q=>∃i j,xs=[.int i,.int j]/\Q (.int (if j < i then j else i)) H) KS:=by
 intro ι H h vs l Q hr hv q;unfold KS at q;dsimp only at q;revert q
 split
 ·intro q;cases hv with
  | cons x t=>cases t with
   | cons y t=>cases t;cases x;cases y;exact⟨_,_,rfl,q ι _ H (Go.refl _ _) hr (.int _)⟩
 ·exact Bn
end
end
section
variable{K:Ab}
section
def Iq(K:Ab):O V->Hp->VK->Prop:=λxs H Q=>∃p ys,xs=[.ref p]/\((b9 K H p ys/\jF H (.tup ys) Q)\/(cS K H p ys/\Q (.ref p) H))
def Hj(K:Ab)(hK:X.K=K):bt X (.type "tuple") (Iq K):=by
 subst hK;exact qr.mono λxs H Q ⟨p,ys,e,h⟩=>⟨p,ys,e,h.imp (λ⟨h1,h2⟩=>⟨h1,λl hl=>h2.at l hl⟩) λz=>z⟩
theorem mL:∀{bs:O Bool}{vs:O V},az K ι H vs (bs.map PV.bl)->vs=bs.map V.bl
 | [],_,h=>by cases h;rfl
 | b::bs,_,h=>by
  cases h with
  | cons x t=>cases x;rw[mL t];rfl
structure MQL where
 run:uM->PH->(Src->PH->Prop)->Prop
 mono:∀{ps h}{Q Q':Src->PH->Prop},(∀v h',Q v h'->Q' v h')->run ps h Q->run ps h Q'
structure MO where
 run:uM->PH->(Option Int->PH->Prop)->Prop
 mono:∀{ps h}{Q Q':Option Int->PH->Prop},(∀v h',Q v h'->Q' v h')->run ps h Q->run ps h Q'
def PO.imp{e:Option im}{t t':TO}(h:L2.PO X e t)(f:∀σ H Q,t' σ H Q->t σ H Q):L2.PO X e t':=λZ s σ H Q I q=>h Z s σ H Q I (f _ _ _ q)
def wL(xs:O PV)(lo hi:Option Int):O PV:=(xs.drop (HT.cT xs.length 0 lo)).take (HT.cT xs.length xs.length hi-HT.cT xs.length 0 lo)
def az.cut(r:az K ι H vs l)(lo hi:Option Int):az K ι H (ue vs lo hi) (wL l lo hi):=by
 unfold ue wL;rw[r.length];exact(r.drop _).take _
end
end
end PL
variable{e1:Bu}{t1:L2.TE}{tp:CJ}
namespace PL
section
variable{K:Ab}
section
variable{c:im}
def iA(lo:Int)(n:Nat):O PV:=(Av n).map λ(i:Nat)=>.int (lo+(i:Int))
def ju(lo:Int)(n:Nat):(iA lo n).length=n:=by unfold iA;simp
def mE{lo:Int}{p:PV}(h:(iA lo n)[i]?=some p):i < n/\p=.int (lo+i):=by
 unfold iA at h;rw[Aj]at h;cases z:(Av n)[i]? with
 | none=>rw[z]at h;cases h
 | some k=>
  rw[z]at h;obtain⟨h1,h2⟩:=Al.mp z;simp at h1 h2;subst h2;exact⟨h1,(Option.some.inj h).symm⟩
def m7(lo:Int)(n:Nat):O PV:=(Av n).map λ(i:Nat)=>.int (lo-(i:Int))
def q9(lo:Int)(n:Nat):(m7 lo n).length=n:=by unfold m7;simp
def rf{lo:Int}{p:PV}(h:(m7 lo n)[i]?=some p):i < n/\p=.int (lo-i):=by
 unfold m7 at h;rw[Aj]at h;cases z:(Av n)[i]? with
 | none=>rw[z]at h;cases h
 | some k=>
  rw[z]at h;obtain⟨h1,h2⟩:=Al.mp z;simp at h1 h2;subst h2;exact⟨h1,(Option.some.inj h).symm⟩
def LX(i:Int):Prop:=-(2 ^ 62)<=i/\i < 2 ^ 62
def Xc(m:MA):MI:=⟨λps h Q=>m.run ps h λl h1=>match l with | [.int j]=>LX j/\Q ⟨iA 0 j.toNat,λ_=>True,false⟩ h1 | _=>False,λf q=>m.mono (λl h1 q=>by
 revert q
 split
 ·exact λq=>⟨q.1,f _ _ q.2⟩
 ·exact λz=>z) q⟩
def cz(k:Nat):O PV->O PV
 | []=>[]
 | x::l=>.tup [.int (k:Int),x]::cz (k+1) l
theorem bu:∀(k:Nat) (l:O PV),(cz k l).length=l.length
 | _,[]=>rfl
 | k,x::l=>by rw[cz,Au,Au,bu]
theorem dA:∀{k:Nat}{l:O PV}{i:Nat}{p:PV},(cz k l)[i]?=some p->∃x,l[i]?=some x/\p=.tup [.int ((k+i:Nat):Int),x]
 | _,[],_,_,h=>by simp[cz]at h
 | k,x::l,0,p,h=>by simp[cz]at h;subst h;exact⟨x,rfl,by simp⟩
 | k,x::l,i+1,p,h=>by
  obtain⟨y,h1,h2⟩:=dA (k:=k+1) (l:=l) (i:=i) (p:=p) (by simpa[cz]using h);exact⟨y,by simpa using h1,by rw[h2,show k+1+i=k+(i+1) by omega]⟩
def RA(K:Ab)(t1:TE):TI:=λσ H R=>t1 σ H λx H1=>∃a,x=.ref a/\(((∃xs,b9 K H1 a xs)/\R (WJ K a) H1)\/((∃xs,cS K H1 a xs)/\R (Ite K a) H1))
def II{X:Cx}(K:Ab)(hK:X.K=K)(hg:Gl X "enumerate")(hm:X.mg "enumerate"=bd)(h1:PE X e1 t1)
  (qi:fX X e1 []:=by rfl):PI X (.Tuple Ñ kk tp) (.Call (.Name "enumerate" p1) [e1] [] p2) (RA K t1):=by
 subst hK;intro Z s σ H R I h;refine Bq (eZ I hg hm boot_enumerate ?_ ⋯ ⋯);refine AW ?_ qi rfl;rw[qi];refine Bf (bh (h1 Z s σ H _ I h) λu1 s1 ⟨x,H1,I1,r1,a,ex,hh⟩=>BF ?_);subst ex;cases r1;have d1:s1.heap.objs.size+1≠s1.heap.objs.size:=Nat.succ_ne_self _;rcases hh with⟨⟨xs,hx⟩,q⟩ | ⟨⟨xs,hx⟩,q⟩
 ·obtain⟨aj,rx,tx,_⟩:=I1.list hx;refine call_enumerate_list tx.isList λh' ze hi _ k=>?_;refine C9 ze ?_;refine⟨_,_,_,_,H1,rfl,I1.kept (t':=s1.toks) k,xi d1,⟨⟨_,ze⟩,hi⟩,λc hc=>?_,q⟩;have Ö:s1.heap.objs.size<=c:=by
   simp only[AH,Bj,or_false]at hc;rcases hc with rfl | rfl
   ·exact A7 _ _
   ·exact Ao _
  exact I1.wu Ö (I1.aY.fresh Ö)
 ·obtain⟨aj,rx,tx,_⟩:=I1.tuple hx;have l1:=let ⟨_,e,_⟩:=tx;An e;refine yI tx λh' ze hi k=>?_;refine C9 ze ?_;refine⟨_,_,_,_,H1,rfl,I1.kept (t':=s1.toks) k,Gf d1 (AA (Ay l1 (A7 _ 1))) (AA l1),⟨⟨_,ze⟩,hi⟩,λc hc=>?_,q⟩;have Ö:s1.heap.objs.size<=c:=by
   simp only[AH,Bj,or_false]at hc;rcases hc with rfl | rfl
   ·exact A7 _ _
   ·exact Ao _
  exact I1.wu Ö (I1.aY.fresh Ö)
def iH:O PV->O PV->O PV
 | x::l,y::m=>.tup [x,y]::iH l m
 | _,_=>[]
theorem nY:∀{l m:O PV}{i:Nat}{p:PV},(iH l m)[i]?=some p->∃x y,l[i]?=some x/\m[i]?=some y/\p=.tup [x,y]
 | [],m,i,p,h=>by simp[iH]at h
 | x::l,[],i,p,h=>by simp[iH]at h
 | x::l,y::m,0,p,h=>by simp[iH]at h;subst h;exact⟨x,y,rfl,rfl,rfl⟩
 | x::l,y::m,i+1,p,h=>by
  obtain⟨u,w,h1,h2,h3⟩:=nY (l:=l) (m:=m) (i:=i) (p:=p) (by simpa[iH]using h);exact⟨u,w,by simpa using h1,by simpa using h2,h3⟩
end
end
section
variable{K:Ab}
section
def O8:M2:=aI λi j=>.int (i+j)
def Vl{g:Int->Int->Int}:M2.Ok K (ipI g) (aI λi j=>.int (g i j)):=by
 intro ι H h u v x y Q hr hu hv q;unfold aI at q;dsimp only at q;revert q
 split
 ·intro q;cases hu;cases hv;exact⟨_,_,rfl,rfl,q ι _ H (Go.refl _ _) hr (.int _)⟩
 ·exact Bn
end
end
end PL
variable{p3 p4:CJ}
namespace PL
section
variable{K:Ab}
section
structure JC(X:Cx)(K:Ab)(op:CmpOp)(b:im)(m:M2):Prop where
 p:∃r,gF X (py op) r/\M2.Ok K r m
 k:nw op b=false
def zH:JC X K .Lt b oLt:=⟨⟨_,UY,wX λ_ _ _ _=>.bl _⟩,ke _⟩
def Vj:JC X K .LtE b oLe:=⟨⟨_,UZ,wX λ_ _ _ _=>.bl _⟩,ke _⟩
def JB:JC X K .Gt b Q1:=⟨⟨_,U0,wX λ_ _ _ _=>.bl _⟩,ke _⟩
def Vk:JC X K .GtE b W9:=⟨⟨_,U1,wX λ_ _ _ _=>.bl _⟩,ke _⟩
def xY:JC X K .Is b GB:=⟨⟨_,QX,MN⟩,ke _⟩
end
end
theorem wK:∀{l:O PV},qo l=true↔∀x∈l,x.dat=true
 | []=>by simp[qo]
 | x::l=>by rw[qo,AJ,wK];simp
section
variable{K:Ab}
section
variable{c:im}
def Kj(h:az K ι H vs l):vs.isEmpty=l.isEmpty:=by cases h <;> rfl
def az.rep(h:az K ι H vs l):∀k:Nat,az K ι H (Ak k vs).flatten (Ak k l).flatten
 | 0=>.nil
 | k+1=>by
  rw[Bv,Bv,B1,B1];exact h.append (h.rep k)
def Ir:V->O V->Hp->VK->Prop:=λx vs H Q=>∃(l:ci) (ns:O Int) (k:Int),x=.ref l/\vs=[.int k]/\H l=some (.lst (ns.map V.int))/\k∈ns/\uV H l (.lst ((ns.erase k).map V.int)) (Q .aK)
theorem ints_get:∀{us:O bn}{ns:O Int},IntsAre us ns->∀(i:Nat) (hi:i < us.length),∃n t,ns[i]?=some n/\us[i]=.int n t
 | _,_,.nil,i,hi=>by simp at hi
 | _,_,.cons _ _ r,i,hi=>by
  cases i with
  | zero=>exact⟨_,_,rfl,rfl⟩
  | succ i=>exact ints_get r i (by simpa using hi)
theorem JK{k:Int}:∀{ns:O Int}{m:Nat},ns[m]?=some k->ns.idxOf k<=m
 | [],m,h=>by simp at h
 | a::ns,0,h=>by
  have:a=k:=by simpa using h
  subst this;simp
 | a::ns,m+1,h=>by
  have:=JK (ns:=ns) (m:=m) (by simpa using h);rw[List.idxOf_cons];by_cases c:a=k
  ·have:(a==k)=true:=by simpa using c
   rw[this];exact Bx _
  ·have c2:(a==k)=false:=by simpa using c
   rw[c2];exact Nat.succ_le_succ this
theorem qZ(f:α->β):∀(l:List α) (j:Nat),(l.eraseIdx j).map f=(l.map f).eraseIdx j
 | [],_=>rfl
 | a::l,0=>rfl
 | a::l,j+1=>by
  show f a::(l.eraseIdx j).map f=f a::(l.map f).eraseIdx j;rw[qZ f l j]
def YT(k:Int):bn->Bool
 | .int a _=>a==k
 | _=>false
def pT(r:Vals vs us):∀j,Vals (vs.eraseIdx j) (us.eraseIdx j):=by
 induction r with
 | nil=>intro j;exact .nil
 | cons h r ih=>
  intro j;cases j with
  | zero=>exact r
  | succ j=>exact .cons h (ih j)
theorem xF:Hy X "list.remove" Ir:=by
 intro Z s σ H x vs v us Q I rx rv h;obtain⟨l,ns,k,rfl,rfl,hH,hk,q⟩:=h;cases rx;obtain⟨u,rfl,ru⟩:=rv.one;obtain⟨t,rfl⟩:=ru;obtain⟨z,aj,n,r,hl,e⟩:=I.mm hH;have hi:=intsAre_of r;have Â:ns.length=aj.length:=by rw[Ag]at hl;omega
 have hj:=CD hk;have hej:ns.erase k=ns.eraseIdx (ns.idxOf k):=by rw[List.erase_eq_eraseIdx_of_idxOf rfl]
 refine t0 F.slot_list_remove ⟨_,e,rfl⟩ F.entry_list_remove (F.args_list_remove_2 _ _) (MeetsSeq.list_remove l aj.toArray n (.int k t) (YT k) (λy hy=>?_) (ns.idxOf k) (by rw[Af];omega) ?_ (λm hm jH=>?_) (by rw[Af];omega)) ⟨e,?_⟩
 ·have RC:y∈aj:=by simpa using hy
  obtain⟨i,Pb⟩:=Fi RC;obtain⟨h1,h2⟩:=Al.mp Pb;obtain⟨n',t',g1,g2⟩:=ints_get hi i h1;rw[<- h2,g2];exact MeetsSeq.EqGives.int _ _ _ _
 ·have h1:ns.idxOf k < aj.length:=by omega
  obtain⟨n',t',g1,g2⟩:=ints_get hi (ns.idxOf k) h1;have g3:ns[ns.idxOf k]?=some k:=by rw[Ad hj,List.getElem_idxOf hj]
  rw[g3]at g1;cases g1;rw[DA,g2];simp[YT]
 ·have h1:m < aj.length:=by rw[Af]at hm;exact hm
  obtain⟨n',t',g1,g2⟩:=ints_get hi m h1;rw[DA,g2];have:n'≠k:=λz=>by
   subst z;have:=JK g1;omega
  simp[YT,this]
 ·refine⟨.aK,_,I.xO (its':=aj.eraseIdx (ns.idxOf k)) (ys:=(ns.erase k).map V.int) hH e (by simp[Array.toList_eraseIdxIfInBounds,<- Array.toList_inj]) ?_ ?_,rfl,q.at⟩
  ·rw[hej,qZ];exact pT r _
  ·rw[hej,Ag,List.length_eraseIdx]
   split <;> omega
theorem ly:∀{ns:O Int}{vs:O V},az K ι H vs (ns.map PV.int)->vs=ns.map V.int
 | [],_,h=>by cases h;rfl
 | b::bs,_,h=>by
  cases h with
  | cons x t=>cases x;rw[ly t];rfl
theorem lz(ι:O ci)(H:Hp):∀ns:O Int,az K ι H (ns.map V.int) (ns.map PV.int)
 | []=>.nil
 | n::ns=>.cons (.int n) (lz ι H ns)
def Qq(K:Ab):O V->Hp->VK->Prop:=λxs H Q=>∃(p:ci) (ns:O Int),xs=[.ref p]/\b9 K H p (ns.map V.int)/\ns.length < 64/\∀ms:O Int,ms.Perm ns->ms.Pairwise (·<=·)->jF H (.lst (ms.map V.int)) Q
theorem yF(K:Ab)(hK:X.K=K):bt X (.builtin "sorted") (Qq K):=by
 subst hK;intro Z s σ H xs us Q I r h;obtain⟨p,ns,rfl,hq,h64,q⟩:=h;obtain⟨u,rfl,rx⟩:=vals1 r;cases rx;obtain⟨aj,r',pl,hz⟩:=I.list hq;have hi:=intsAre_of r';have hl:=r'.length;rw[Ag]at hl hz;refine PyProof.Rows.sorted_ints pl.isList hi ∅ λout ms a1 a2 a3=>?_;obtain⟨e,he⟩:=sortedAll_at s.heap aj out;refine⟨.ref (s.heap.objs.size+1),_,I.laid (t':=s.toks) (λ_ _=>sortedAll_old) (Nat.le_succ _) (show aR X.prog X.w _ _ _ (.lst (ms.map V.int)) from⟨?_,out.toList,e,lY a1,?_⟩),rfl,(q ms a2 a3).at _ (I.aY.fresh (Nat.le_succ _))⟩
 ·rw[Ag,a2.length_eq];exact hz
 ·rw[Array.toArray_toList];exact he
end
end
end PL
variable{xs:Array A4}{a:BA}{o:FI}{name:BW}
namespace L2
def km{Q:Option bn->db->Prop}
  (hx:s.heap.get? a=some o) (hc:o.cls=.type "list") (iW:o.data=.seq xs k) (hd:o.dict=bd) (zR:u8 (.type "list") name=pure bd) (v8:(["__module__","__name__","__qualname__","__doc__","__annotations__"]:O Str).contains name=false) (hA:A.handled=bd)
  (h:∀h' tk e,Heap.NewExcOf s.heap h' e "AttributeError"->Q bd {s with heap:=h',toks:=tk}) (hsz:name.length+100<=sizeLine:=by size_fits) :
  cr (f8 prog w) A (getAttr? (.ref a) name) Q E s:=by
 obtain⟨c,dct,dat,sl⟩:=o;simp only at hc iW hd;subst hc iW hd;obtain⟨hp,g,d,tk,os⟩:=s;have hT:∀LJ,(⟨hp,g,d,LJ,os⟩:db).TypeIs (.ref a) "list":=λ_=>⟨_,hx,rfl⟩;have f1:=sub_AttributeError;have f3:=CT.lookup;have f4:=CT.bind (.ref a);have f5:=am_list_getattr_none
 repeat (any_goals (first | assumption | exact hT _ | ((with_reducible show cr _ _ (call (Value.builtin "list.__getattribute__") _ _) _ _ _);refine t0 CT (hT _) am_entry_list_getattribute (F.args_list_getattribute_2 _ _) (meets_getattribute_miss_list a xs k sl name _ zR v8 hsz) ⟨hx,hA,λh' LJ e qh=>?_⟩) | wp_step))
 obtain⟨t',u',he⟩:=qh.there;unfold getattributeRaised
 repeat (any_goals (first | assumption | wp_step))
 exact h _ _ _ qh.of
end L2
variable{b d:BA}{v:A4}
namespace L2
def bZ:entryFor table "dict.update.loop"=some ut.«dict.update.loop»:=entryFor_of_fast (by kernel_rfl)
def a7:plainId "dict.update.loop"=true:=by decide +kernel
section
variable{K:Type}[DecidableEq K]{knd:KeyKind prog w K}
def uF(knd:KeyKind prog w K)(h:lw)(it d:ci)(v:bn)(x:O K×ci×bn):Prop:=
 ∃pa o n,v=.ref pa/\pa≠it/\pa≠d/\x.2.1≠it/\x.2.1≠d/\h.get? pa=some o/\o.cls=.type "tuple"/\o.data=.seq #[.ref x.2.1,x.2.2] n/\(mo knd).is h x.1 x.2.1
def rN{k:O K}(x:(mo knd).is h k b)(kp:∀o,h.get? b=some o->h'.get? b=some o):(mo knd).is h' k b:=by
 obtain⟨o,aj,n,h1,h2⟩:=x;exact⟨o,aj,n,kp _ h1,h2⟩
def uF.keep{x:O K×ci×bn}(p:uF knd h it d v x)(kp:∀b o,b≠it->b≠d->h.get? b=some o->h'.get? b=some o):uF knd h' it d v x:=by
 obtain⟨pa,o,n,e,n1,n2,n3,n4,h1,h2,h3,h4⟩:=p;exact⟨pa,o,n,e,n1,n2,n3,n4,kp _ _ n1 n2 h1,h2,h3,rN h4 λo q=>kp _ _ n3 n4 q⟩
def t4{xs:O (O K×ci×bn)}(m:h.DictOfH (mo knd) d xs)(hd:d≠it)(hx:∀x∈xs,x.2.1≠it)(kp:∀b o,b≠it->h.get? b=some o->h'.get? b=some o):h'.DictOfH (mo knd) d xs:=by
 obtain⟨o,es,ep,ho,hc,Zr,he,Zk,hn⟩:=m;exact⟨o,es,ep,kp _ _ hd ho,hc,Zr,he,λx q=>rN (Zk x q) λo z=>kp _ _ (hx x q) z,hn⟩
def uZ{xs:O (O K×ci×bn)}{k:O K}(hx:∀x∈xs,x.2.1≠it)(hb:b≠it):∀x∈FB xs k b v,x.2.1≠it:=by
 intro x q;unfold FB at q
 split at q
 ·obtain⟨y,hy,rfl⟩:=AD.mp q;have e:(putAt k v y).2.1=y.2.1:=by unfold putAt;split <;> rfl
  rw[e];exact hx y hy
 ·rcases Bs.mp q with q | q
  ·exact hx x q
  ·rw[A1.mp q];exact hb
def u0{xs:O (O K×ci×bn)}{k:O K}:(FB xs k b v).length<=xs.length+1:=by
 unfold FB
 split <;> simp
theorem uU(hA:A.handled=bd)(hu:A.units+1 < pr){l:ci}(hz:items.size+items.size<=sizeLine)(Zp:d≠it)(hli:l≠it)(hld:l≠d) :
  ∀(k i:Nat) (ys xs:O (O K×ci×bn)) (s:db),items.size-i=k->i<=items.size->ys.length=items.size-i->xs.length<=i->s.heap.IsListIter it l i->s.heap.IsList l items->s.heap.DictOfH (mo knd) d xs->(∀x∈xs,x.2.1≠it)->
   (∀j x,ys[j]?=some x->∃v,items[i+j]?=some v/\uF knd s.heap it d v x)->
   (∀h' tk,h'.DictOfH (mo knd) d (ys.foldl (λa y=>FB a y.1 y.2.1 y.2.2) xs)->(∀b o,b≠it->b≠d->s.heap.get? b=some o->h'.get? b=some o)->R (.ok (.ret .none)) {s with heap:=h',toks:=tk})->
   Db (f8 prog w) A (.builtin "dict.update.loop" ⟨[.ref d,.ref it,sB i,.none],[]⟩) R s:=by
 intro k
 induction k with
 | zero=>
  intro i ys xs s hk hi hy hxl Û hl hd hx hp q;have e0:ys=[]:=DB ∅;subst e0;refine Ix bZ ?_;refine Aa (wpAny_pyNext_list_end (A:=A.in1) hA Û hl (by rw[Dh];omega) λh' ex=>?_);have kp:=ex;exact Aa (Ae (Ae (q h' s.toks (t4 hd Zp hx kp) λb o n1 _ e=>kp b o n1 e)))
 | succ k ih=>
  intro i ys xs s hk hi hy hxl Û hl hd hx hp q
  match ys,hy,hp,q with
  | [],hy,_,_=>exact absurd hy (by simp only[DN];omega)
  | y::ys,hy,hp,q=>
  obtain⟨v,hv,pa⟩:=hp 0 y rfl;refine Ix bZ ?_;refine Aa (wpAny_pyNext_list_item Û hl (by simpa using hv) λh1 Zj sb=>?_);have sW:∀b o,b≠it->s.heap.get? b=some o->h1.get? b=some o:=λb o hb e=>(sb.2 b hb).trans e;have pa1:=pa.keep λb o n1 _ e=>sW b o n1 e;have Zq:=t4 hd Zp hx sW;have Zh:h1.IsList l items:=let ⟨o,e,p⟩:=hl;⟨o,sW _ _ hli e,p⟩;obtain⟨p,o,n,rfl,n1,n2,n3,n4,g1,g2,g3,g4⟩:=pa1;refine Aa (AX (Aa (wpAny_tryCatch ?_)));refine Aa (BQ (T:="tuple") ⟨_,g1,g2⟩ ?_);refine Aa (Bi g1 g3 (Ae ?_));refine AX (wpAny_dictSet_heap (knd:=mo knd) (ww hu) g4 Zq (λh2 Õ Yt=>?_) ∅);have O3:∀b o,b≠d->h1.get? b=some o->h2.get? b=some o:=λb o hb e=>(Yt.2 b hb).trans e;refine Ae ⟨FS a7 _,?_⟩;have kp:∀b o,b≠it->b≠d->s.heap.get? b=some o->h2.get? b=some o:=λb o a1 a2 e=>O3 _ _ a2 (sW _ _ a1 e);refine ih (i+1) ys (FB xs y.1 y.2.1 y.2.2) _ ∅ ∅ (by rw[Au]at hy;omega) (AQ u0 ∅) ?_ ?_ Õ (uZ hx n3) (λj x hj=>?_) (λh' tk dd k3=>?_)
  ·obtain⟨o',e1,e2⟩:=Zj;exact⟨o',O3 _ _ (BD Zp) e1,e2⟩
  ·obtain⟨o',e1,e2⟩:=Zh;exact⟨o',O3 _ _ hld e1,e2⟩
  ·obtain⟨v',h3,h4⟩:=hp (j+1) x hj;exact⟨v',by rw[show i+1+j=i+(j+1) by omega];exact h3,h4.keep kp⟩
  ·exact q h' tk dd λb o a1 a2 e=>k3 b o a1 a2 (kp b o a1 a2 e)
end
def sP:u8 (.type "list") (B8 "keys")=pure bd:=am_miss_of_fast (by decide +kernel)
section
variable{K:Type}[DecidableEq K]{knd:KeyKind prog w K}
theorem nC{l:ci}{ys:O (O K×ci×bn)}(hA:A.handled=bd)(hu:A.units+2 < pr)(ho:s.heap.get? l=some o)(hc:o.cls=.type "list")(iW:o.data=.seq items n)(hd:o.dict=bd)
  (hz:items.size+items.size<=sizeLine) (hy:ys.length=items.size)
  (hp:∀(j:Nat) (x:O K×ci×bn),ys[j]?=some x->∃(pa:ci) (op:Obj) (m:Nat),items[j]?=some (Aw pa)/\s.heap.get? pa=some op/\op.cls=.type "tuple"/\op.data=.seq #[Aw x.2.1,x.2.2] m/\(mo knd).is s.heap x.1 x.2.1)
  (q:∀h' tk,(∀b o,s.heap.get? b=some o->h'.get? b=some o)->h'.DictOfH (mo knd) s.heap.objs.size (ys.foldl (λa y=>FB a y.1 y.2.1 y.2.2) [])->Q (.ref s.heap.objs.size) {s with heap:=h',toks:=tk}) :
  cr (f8 prog w) A (call (.type "dict") [.ref l]) Q E s:=by
 refine callType_codes (Q₁:=λobj s₁=>obj=.ref s.heap.objs.size/\s₁={s with heap:=s.heap.push {cls:=.type "dict",data:=.dict #[]}}) F.kt_called_dict (F.kt_typeCall_dict_1 _) F.entry_dict_init (kt_code_dict_new _ ⟨rfl,rfl⟩) ?_;rintro obj s₁ ⟨rfl,rfl⟩;have O4:∀b o,s.heap.get? b=some o->(s.heap.push {cls:=.type "dict",data:=.dict #[]}).get? b=some o:=λb o e=>Ai _ e;have v5:(s.heap.push {cls:=.type "dict",data:=.dict #[]}).DictOf knd s.heap.objs.size []:=Heap.DictOf.new s.heap;have Vy:(s.heap.push {cls:=.type "dict",data:=.dict #[]}).DictOfH (mo knd) s.heap.objs.size []:=⟨_,#[],0,Ap _ rfl,⟨rfl,rfl,rfl⟩,rfl,rfl,λx hx=>absurd hx (Bj),Fh⟩;have ls:∀b o,s.heap.get? b=some o->b≠s.heap.objs.size:=λb o e z=>by subst z;exact AO _ (An e)
 refine⟨v5.typeIs,F.args_dict_init_2 _ _,?_⟩;refine Aa ?_;refine Aa (Dk v5.typeIs ?_);refine Ae ?_;refine Aa (BQ (T:="list") ⟨_,O4 _ _ ho,hc⟩ ?_);refine Aa (km (O4 _ _ ho) hc iW hd sP (by decide +kernel) hA (λh1 tk e nx=>?_) ⋯);refine Aa (CG (Aa ?_));refine CA (items:=items) ⟨_,nx.keeps _ _ (O4 _ _ ho),hc,n,iW⟩ ?_;have hsz:=An (nx.keeps _ _ (Ap s.heap rfl));have sW:∀b o,s.heap.get? b=some o->(h1.push {cls:=.type "list_iterator",data:=.fields #[.ref l,.int 0 0]}).get? b=some o:=λb o e=>Ai _ (nx.keeps _ _ (O4 _ _ e));have ni:∀b o,s.heap.get? b=some o->b≠h1.objs.size:=λb o e z=>by
  have h3:=An e;subst z;exact AO _ (Nat.lt_trans h3 hsz)
 refine Ae ⟨FS a7 _,?_⟩;refine uU (A:=A.in1) (knd:=knd) hA (by show A.units+1+1 < _;omega) (items:=items) (d:=s.heap.objs.size) (it:=h1.objs.size) (l:=l) hz (AA hsz) (ni _ _ ho) (ls _ _ ho) items.size 0 ys [] _ (EK _) (Bx _) (by rw[hy];rfl) (Ao _)
  ⟨_,Ap _ rfl,rfl,rfl⟩ ⟨_,sW _ _ ho,hc,n,iW⟩ ?_ (λx hx=>nomatch hx) (λj x hj=>?_) (λh' LJ dd kp=>?_)
 ·refine t4 (it:=h1.objs.size) Vy (AA hsz) (λx hx=>nomatch hx) λb o _ e=>Ai _ (nx.keeps _ _ e)
 ·obtain⟨pa,op,m,e1,e2,e3,e4,e5⟩:=hp j x hj;have kb:∃ob,s.heap.get? x.2.1=some ob:=let ⟨ob,_,_,z,_⟩:=e5;⟨ob,z⟩;obtain⟨ob,eb⟩:=kb;exact⟨.ref pa,by rw[Az];exact e1,pa,op,m,rfl,ni _ _ e2,ls _ _ e2,ni _ _ eb,ls _ _ eb,sW _ _ e2,e3,e4,rN e5 λo z=>sW _ _ z⟩
 ·exact⟨rfl,q h' LJ (λb o e=>kp b o (ni _ _ e) (ls _ _ e) (sW _ _ e)) dd⟩
end
structure Pz where
 pa:ci
 k:List Key
 b:ci
 v:V
def Pz.At(H:Hp)(z:Pz):Prop:=H z.pa=some (.tup [.ref z.b,z.v])/\H z.b=some (.tup (z.k.map kV))
def Qw(K:Ab):O V->Hp->VK->Prop:=λxs H Q=>∃(p:ci) (zs:O Pz),xs=[.ref p]/\b9 K H p (zs.map λz=>.ref z.pa)/\(∀z∈zs,z.At H)/\(zs.map (·.k)).Nodup/\zs.length<=1000/\jF H (.dT (zs.map λz=>(z.k,z.v))) Q
theorem mV{K:Type}[DecidableEq K]:∀(ys xs:O (K×ci×bn)),((xs++ys).map (·.1)).Nodup->ys.foldl (λa y=>FB a y.1 y.2.1 y.2.2) xs=xs++ys
 | [],xs,_=>by simp
 | y::ys,xs,h=>by
  have hn:atKey xs y.1=bd:=by
   cases e:atKey xs y.1 with
   | none=>rfl
   | some p=>
    exfalso;rw[A8,Ar]at h;have h2:=(Dg.mp h).2.2;have hm:y.1∈xs.map (·.1):=by
     by_cases hc:y.1∈xs.map (·.1)
     ·exact hc
     ·rw[atKey_none_of_get (λj q hj=>?_)]at e
      ·cases e
      ·exact hc (AD.mpr ⟨_,A5 hj,rfl⟩)
    exact h2 _ hm _ Br rfl
  rw[List.foldl_cons,storedH_new hn,mV ys (xs++[(y.1,y.2.1,y.2.2)]) (by simpa using h)];simp
section
theorem yJ(K:Ab)(hK:X.K=K)(hc:X.calm=true)(hu:X.A.units+2 < pr):bt X (.type "dict") (Qw K):=by
 subst hK;intro Z s σ H xs us Q I r h;obtain⟨p,zs,rfl,hq,hz,hn,hl,q⟩:=h;obtain⟨u,rfl,rx⟩:=vals1 r;cases rx;obtain⟨aj,rv,pl,hsz⟩:=I.list hq;obtain⟨o,n,ho,S4,hd,iW⟩:=pl;have Ù:∀(zs:O Pz) (aj:O bn),(∀z∈zs,z.At H)->Vals (zs.map λz=>V.ref z.pa) aj->∃ys:O (O Key×ci×bn),ys.map (·.1)=zs.map (·.k)/\KT H (zs.map λz=>(z.k,z.v)) ys/\
   ∀(j:Nat) (x:O Key×ci×bn),ys[j]?=some x->∃(pa:ci) (op:Obj) (m:Nat),aj[j]?=some (Aw pa)/\s.heap.get? pa=some op/\op.cls=.type "tuple"/\op.data=.seq #[Aw x.2.1,x.2.2] m/\(mo (aU X.prog X.w)).is s.heap x.1 x.2.1:=by
  intro zs
  induction zs with
  | nil=>intro aj _ _;exact⟨[],rfl,.nil,λj x h=>by simp at h⟩
  | cons z zs ih=>
   intro aj ha hv;cases hv with
   | @cons _ u _ us ru Yu=>
   cases ru;obtain⟨ys,e1,e2,e3⟩:=ih us (λy hy=>ha y (AY _ hy)) Yu;obtain⟨a1,a2⟩:=ha z Br;obtain⟨_,its',r',op,h1,h2,m,h3⟩:=(show aR X.prog X.w H s.heap z.pa (.tup [.ref z.b,z.v]) from I.aY _ _ a1);obtain⟨w,rfl,ve⟩:∃w,its'=[Aw z.b,w]/\RelV z.v w:=by
    cases r' with
    | cons q1 q2=>cases q1;cases q2 with
     | cons q3 q4=>cases q4;exact⟨_,rfl,q3⟩
   refine⟨(z.k,z.b,w)::ys,by rw[Ar,Ar,e1],.cons ⟨rfl,a2,ve⟩ e2,λj x hj=>?_⟩;cases j with
   | zero=>
    cases hj;exact⟨z.pa,op,m,rfl,h1,h2,h3,mx I.aY a2⟩
   | succ j=>exact e3 j x hj
 obtain⟨ys,e1,e2,e3⟩:=Ù zs aj hz rv;have Â:=rv.length;rw[Ag]at Â;have Xi:ys.length=zs.length:=by have:=congrArg BS e1;simpa using this
 have hs:(1000:Nat)+1000<=sizeLine:=by decide
 refine nC (knd:=aU X.prog X.w) (items:=aj.toArray) (ys:=ys) (I.ok.hd hc) hu ho S4 iW hd (by rw[Af];omega) (by rw[Af];omega) (λj x hj=>?_) (λh' tk kp dd=>?_)
 ·obtain⟨pa,op,m,g1,g2⟩:=e3 j x hj;exact⟨pa,op,m,by rw[Cz];exact g1,g2⟩
 ·rw[mV ys [] (by rw[DM,e1];exact hn),DM]at dd;obtain⟨od,es,ep,Xl,h2,h3,h4,_,h5⟩:=dd;have RL:=beq_eq_false_iff_ne.mpr (BD (AA I.big));have fr:=I.aY.fresh (Ao s.heap.objs.size);refine⟨.ref s.heap.objs.size,_,I.laid (t':=tk) kp (Ao _) (show aR X.prog X.w (upd H s.heap.objs.size (.dT (zs.map λz=>(z.k,z.v)))) h' _ (.dT _) from⟨?_,RL,ys,?_,od,es,ep,Xl,h2,h3,h4,h5⟩),rfl,q.at _ fr⟩
  ·rw[Ag];exact AQ hl ⋯
  ·refine e2.keeps λc xs ec=>?_;rw[ar (λz=>by subst z;rw[fr]at ec;cases ec)];exact ec
end
end L2
variable{es:Array PySem.DictEntry}{ep:Nat}
namespace L2
section
def Ol(h:lw)(d:ci)(es:Array DictEntry)(ep:Nat):Prop:=∃o,h.get? d=some o/\o.ExactDict/\o.data=.dict es ep
theorem Ji{Q:Option bn->db->Prop}(Û:s.heap.IsKeyIter it d i es.size ep)(hm:Ol s.heap d es ep)(hi:i < es.size)
  (q:∀h',h'.IsKeyIter it d (i+1) es.size ep->BE it s.heap h'->Q (some es[i].key) {s with heap:=h'}):cr (f8 prog w) A (Ev (.ref it)) Q E s:=by
 have ty:=Û.typeIs;obtain⟨o,ho,hc,hd⟩:=id Û;obtain⟨od,Ny,-,Nz⟩:=hm;have VF:(s.heap.update it (Obj.mapFields (·.setIfInBounds 1 (sB ((i:Int)+1))))).IsKeyIter it d (i+1) es.size ep:=⟨_,Cv _ ho (EX (CY hd _)),(Obj.cls_mapFields ..).trans hc,by rw[CY hd];simp[sB]⟩;refine Aa (Cn (AI (name:=B8 "__next__") ty Bz (A6 Bz ty Du ?_ (Dn _))));refine Aa (Ae (Aa (Aa ?_)))
 first | refine Aa (BR ty (Ae ?_)) | refine Aa (Cm ty (Ae ?_))
 refine Aa (wpAny_fieldsOf ho hd ?_);show cr _ _ (if (Aw d==Bh)=true then _ else _) _ _ s;rw[if_neg (λz:(Aw d==Bh)=true=>A2 z)];refine Aa (Ae (Aa (Eg Ny Nz ?_)));rw[if_neg (by simp)];refine Aa (Ae (Aa (EU Ny Nz ?_)));rw[if_neg (by simp)];refine Ae ?_;have i0:¬((i:Int) < 0):=by omega
 simp only[i0,if_false,Bd,CO hi];refine Aa ?_
 first | refine Aa (BR ty (Ae ?_)) | refine Aa (Cm ty (Ae ?_))
 refine Aa (wpAny_isOneOf_keyiter ty ?_);show cr _ _ (wf (.ref it) 1 (sB ((i:Int)+1)) >>= _) _ _ s;refine Aa (D5 ho hd (by simp) (Aa (AX (Aa (wpAny_isOneOf_keyiter (s:={s with heap:=s.heap.update it (Obj.mapFields (·.setIfInBounds 1 (sB ((i:Int)+1))))}) VF.typeIs ?_)))));exact Ae (Ae ⟨_,rfl,Ae (q _ VF (BE.update ..))⟩)
theorem NU{Q:Option bn->db->Prop}(hh:A.handled=bd)(Û:s.heap.IsKeyIter it d i es.size ep)(hm:Ol s.heap d es ep)(hi:es.size<=i)
  (q:∀h',FK it s.heap h'->Q bd {s with heap:=h'}):cr (f8 prog w) A (Ev (.ref it)) Q E s:=by
 have ty:=Û.typeIs;obtain⟨o,ho,hc,hd⟩:=id Û;obtain⟨od,Ny,-,Nz⟩:=hm;refine Aa (Cn (AI (name:=B8 "__next__") ty Bz (A6 Bz ty Du ?_ (Dn _))));refine Aa (Ae (Aa (Aa ?_)))
 first | refine Aa (BR ty (Ae ?_)) | refine Aa (Cm ty (Ae ?_))
 refine Aa (wpAny_fieldsOf ho hd ?_);show cr _ _ (if (Aw d==Bh)=true then _ else _) _ _ s;rw[if_neg (λz:(Aw d==Bh)=true=>A2 z)];refine Aa (Ae (Aa (Eg Ny Nz ?_)));rw[if_neg (by simp)];refine Aa (Ae (Aa (EU Ny Nz ?_)));rw[if_neg (by simp)];refine Ae ?_;have i0:¬((i:Int) < 0):=by omega
 simp only[i0,if_false,Bd,Dh hi];refine Aa ?_
 first | refine Aa (BR ty (Ae ?_)) | refine Aa (Cm ty (Ae ?_))
 show cr _ _ (wf (.ref it) 0 .none >>= _) _ _ s;refine Aa (D5 ho hd (by simp) ?_);refine Aa ?_;refine Aa (Bl (Aa (m:=firstArgMember _ _) (Cq (a:=Bh) (by first | rfl | (simp only[firstArgMember];rfl)) (Bl ?_ (by size_fits)))) (by size_fits));unfold raiseNew;refine Aa (wpAny_handled ?_);rw[show A.in1.handled=bd from hh];refine Aa (Ae (wpAny_throw ?_));refine Aa (CK (T:="StopIteration") (b:=true) ⟨_,Ap _ rfl,rfl⟩ isSubtype_stop ?_);exact Ae (q _ (((BE.update ..).extBut.push _).push _))
def JE(hs:(d==sn)=false)(hm:Ol s.heap d es ep)
  (q:Q (.ref s.heap.objs.size) {s with heap:=s.heap.push {cls:=.type "dict_keyiterator",data:=.fields #[.ref d,.int 0 0,.int es.size 0,.int ep 0]}}):cr (f8 prog w) A (pyIter (.ref d)) Q E s:=by
 obtain⟨od,Ny,hx,Nz⟩:=hm;have ty:s.TypeIs (.ref d) "dict":=⟨_,Ny,hx.1⟩;refine wpAny_pyIter_slot ty F.slot_dict_iter (A6 F.slot_dict_iter ty F.entry_dict_iter ?_ (F.args_dict_iter_1 _));refine Aa ?_;refine Aa (Dk ty ?_);refine Ae ?_;show cr _ _ (Builtin.Dict.showsAll d >>= _) _ _ s;unfold Builtin.Dict.showsAll;rw[if_neg (by rw[hs];exact A2)];refine Aa (Ae (Aa (Eg Ny Nz (Aa (EU Ny Nz ?_)))));exact Aa (Bl (Ae ⟨_,rfl,"dict_keyiterator",_,⟨_,Ap _ rfl,rfl⟩,Bz.lookup,q⟩))
end
end L2
variable{u:L2.HO}
namespace L2
section
variable{σ:St}
def Inv.freeze(I:Inv X Z σ H s)(e:H a=some (.dT kvs)):∃o,Inv X Z σ (upd H a (.bQ o (.dT kvs))) s:=by
 obtain⟨z,hs,xs,r,o,es,ep,h1,h2,h3,h4,h5⟩:=(show aR X.prog X.w H s.heap a (.dT kvs) from I.aY a _ e);refine⟨o,?_⟩;have q:=I.write (x:=a) (e:=a) (o:=.bQ o (.dT kvs)) (h':=s.heap) (t':=s.toks) (by rw[e];exact BK) (.inl rfl) (λb u _ z=>z) ⟨o,h1⟩
  ⟨h1,z,hs,xs,KT.keeps r λb ys eb=>by rw[ar (zB eb e (λz=>nomatch z))];exact eb,o,es,ep,h1,h2,h3,h4,h5⟩
 exact q
def Inv.P5(I:Inv X Z σ H s)(e:H a=some (.bQ o u))(h0:∀o u,X.H₀ a≠some (.bQ o u))(hu:aR X.prog X.w (upd H a u) s.heap a u)(aY:jd X.prog X.w (upd H a u) s.heap):Inv X Z σ (upd H a u) s:=by
 have ne:∀b v,H b=v->v≠some (.bQ o u)->b≠a:=λb v q n z=>by subst z;exact n (q.symm.trans e)
 refine⟨I.ok,I.os,I.bare,⟨I.base.keep,I.base.slot,λb ob q n hx=>?_,I.base.there,λb xs q=>?_,λb ob xs q=>?_,λb ps q=>?_⟩,I.loc,I.cell,?_,λx c q=>?_,λp hp=>?_,aY,I.len⟩
 ·have:=I.base.free b ob q n hx;rw[ar (ne b _ this (by simp))];exact this
 ·have:=I.base.cR b xs q;rw[ar (ne b _ this (by simp))];exact this
 ·have:=I.base.pd b ob xs q;have hb:b≠a:=λz=>by subst z;exact h0 _ _ q
  rw[ar hb];exact this
 ·obtain⟨m,this⟩:=I.base.rO b ps q;exact⟨m,by rw[ar (ne b _ this (by simp))];exact this⟩
 ·rw[ar (ne _ _ I.free (by simp))];exact I.free
 ·rw[ar (ne _ _ (I.iB x c q) (by simp))];exact I.iB x c q
 ·obtain⟨p1,p2,p3⟩:=I.pin p hp;exact⟨p1,by rw[ar (ne _ _ p2 (by simp))];exact p2,p3⟩
def JN(ok:jd P w H h)(e:H a=some (.bQ o u)):jd P w (upd H a u) h:=λb u' q=>by
 have ne:∀c v,H c=some v->v≠.bQ o u->upd H a u c=some v:=λc v z n=>by
  rw[ar (λy=>by subst y;rw[e]at z;cases z;exact n rfl)];exact z
 by_cases hb:b=a
 ·subst hb;rw[aE]at q;cases q;exact aR.rS (ok b _ e).2 (λ_ _ _ z=>z) (λc z=>ne c _ z (by simp)) λc xs z=>ne c _ z (by simp)
 ·rw[ar hb]at q;exact aR.rS (ok b _ q) (λ_ _ _ z=>z) (λc z=>ne c _ z (by simp)) λc xs z=>ne c _ z (by simp)
end
def WK(a:ci)(o:Obj):It:=
 ⟨λi H=>∃kvs,H a=some (.bQ o (.dT kvs))/\i < kvs.length,λi H x H'=>H'=H/\∀kvs,H a=some (.bQ o (.dT kvs))->∃b k v,x=.ref b/\kvs[i]?=some (k,v)/\H b=some (.tup (k.map kV)),λi H=>∃kvs,H a=some (.bQ o (.dT kvs))/\kvs.length<=i⟩
theorem J1(x:aR P w H h a (.bQ o (.dT kvs)))(hd:o.data=.dict es ep) :
  Ol h a es ep/\es.size=kvs.length/\∀(i:Nat) (hi:i < es.size),∃b k v,es[i].key=.ref b/\kvs[i]?=some (k,v)/\H b=some (.tup (k.map kV)):=by
 obtain⟨e,z,hs,xs,r,o',XM,XN,h1,h2,h3,h4,h5⟩:=x;rw[e]at h1;cases h1;rw[hd]at h3;cases h3;have hl:es.size=xs.length:=by have:=congrArg BS h4;simpa using this
 refine⟨⟨o,e,h2,hd⟩,hl.trans (Paired.length r).symm,λi hi=>?_⟩;have hx:xs[i]?=some (xs[i]'∅):=Ad _;have pg:∀{l:O (O Key×V)}{m:O (O Key×ci×bn)}{i:Nat}{q:O Key×ci×bn},KT H l m->m[i]?=some q->∃v,l[i]?=some (q.1,v)/\H q.2.1=some (.tup (q.1.map kV)):=by
  intro l m i q t
  induction t generalizing i with
  | nil=>intro h;simp at h
  | @cons p q' ps qs hq t ih=>
   intro h;cases i with
   | zero=>
    cases h;obtain⟨p1,p2⟩:=p;have e1:=hq.1;subst e1;exact⟨p2,rfl,hq.2.1⟩
   | succ i=>exact ih (by simpa using h)
 obtain⟨v,g1,g2⟩:=pg r hx;refine⟨_,_,v,?_,g1,g2⟩;have:es[i]=entryOfKey (mo (aU P w)) (xs[i]'∅):=by
  have h6:es.toList[i]?=some (entryOfKey (mo (aU P w)) (xs[i]'∅)):=by rw[h4,Aj,hx];rfl
  rw[E6,CO hi]at h6;exact Option.some.inj h6
 rw[this];rfl
theorem Gg{K:Ab}(a it:ci)(o:Obj)(hd:o.data=.dict es ep):Turn P w K tg (WK a o) [it] it (λi h=>h.IsKeyIter it a i es.size ep) where
 mem:=by simp
 obj:=λi h st b hb=>by
  have e:b=it:=by simpa using hb
  subst e;obtain⟨o,e,c,d⟩:=st;exact⟨o,e,λv z=>by rw[d]at z;cases z⟩
 keep:=λi h h' st k=>st.at λo e=>k it (by simp) o e
 item:=by
  intro X hP hw hK hc i Z s σ H E I hf st hg;subst hP hw hK;obtain⟨kvs,hq,hx⟩:=hg;obtain⟨æ,hl,ky⟩:=J1 (I.aY a _ hq) hd;obtain⟨b,k,v,k1,k2,k3⟩:=ky i ∅;obtain⟨f0,f1,f2,f3,f4,f5⟩:=hf it (by simp);refine Ji st æ ∅ λh' zd sb=>?_;have I1:Inv X Z σ H {s with heap:=h'}:=I.turned (t':=s.toks) (λb o hb e=>(sb.2 b hb).trans e) f0 f1 f3 f4 f5;obtain⟨oi,e,c,d⟩:=id zd;refine⟨_,rfl,wj (s:={s with heap:=h'}) e c d ⋯ ⟨.ref b,H,I1,k1,⟨rfl,λacg Xl=>?_⟩,zd,λb hb=>(hf b hb).1⟩⟩;rw[hq]at Xl;cases Xl;exact⟨b,k,v,rfl,k2,k3⟩
 done:=by
  intro X hP hw hK hc i Z s σ H E I hf st hg;obtain⟨kvs,hq,hx⟩:=hg;obtain⟨æ,hl,ky⟩:=J1 (I.aY a _ hq) hd;obtain⟨f0,f1,f2,f3,f4,f5⟩:=hf it (by simp);exact NU (I.ok.hd hc) st æ ∅ λh' eb=>⟨rfl,I.turned (t':=s.toks) (λb o hb e=>eb b o hb e) f0 f1 f3 f4 f5⟩
 self:=λ_ _ _ _ _ st h=>wpAny_pyIter_keyiter st h
def RB(tl:TE):TI:=λσ H R=>tl σ H λx H1=>∃a o kvs,x=.ref a/\H1 a=some (.bQ o (.dT kvs))/\R (WK a o) H1
def IJ{l:im}(hl:PE X l tl):PI X tg l (RB tl):=by
 intro Z s σ H R I h;refine bh (hl Z s σ H _ I h) λv s1 ⟨x,H1,I1,r1,q1⟩=>?_;obtain⟨a,o,kvs,e,hq,q⟩:=q1;subst e;cases r1;obtain⟨eo,z,hs,xs,r,o',es,ep,h1,h2,h3,h4,h5⟩:=(show aR X.prog X.w H1 s1.heap a (.bQ o (.dT kvs)) from I1.aY a _ hq);rw[eo]at h1;cases h1;refine JE hs ⟨o,eo,h2,h3⟩ ?_;refine⟨s1.heap.objs.size,[s1.heap.objs.size],_,_,H1,rfl,I1.kept (t':=s1.toks) λb o e=>Ai _ e,Gg a _ o h3,⟨_,Ap _ rfl,rfl,rfl⟩,λb hb=>?_,q⟩;have e:b=s1.heap.objs.size:=by simpa using hb
 subst e;exact I1.wu (Ao _) (I1.aY.fresh (Ao _))
end L2
variable{o:L2.HO}{v:PL.PV}{ws:O (BW×L2.V)}{φ:O L2.V->Prop}
noncomputable section
namespace FL
section
variable{K:Ab}
structure W(α:Type) where
 run:(α->Prop)->Prop
 mono:∀{Q Q':α->Prop},(∀a,Q a->Q' a)->run Q->run Q'
namespace W
variable{α β γ:Type}
def ext'{a b:W α}(h:∀Q,a.run Q↔b.run Q):a=b:=by
 cases a;cases b;congr;funext Q;exact propext (h Q)
noncomputable def ret(a:α):W α:=⟨λQ=>Q a,λh q=>h _ q⟩
noncomputable def bind(w:W α)(k:α->W β):W β:=⟨λQ=>w.run λa=>(k a).run Q,λh q=>w.mono (λa q=>(k a).mono h q) q⟩
def fail:W α:=⟨λ_=>False,λ_ q=>q⟩
def eB(p:Prop)(w:W α):W α:=⟨λQ=>p/\w.run Q,λh q=>⟨q.1,w.mono h q.2⟩⟩
def any(p:α->Prop):W α:=⟨λQ=>∀a,p a->Q a,λh q a pa=>h a (q a pa)⟩
def Lf:Option α->W α
 | some a=>ret a
 | none=>fail
@[simp] theorem af(a:α)(k:α->W β):bind (ret a) k=k a:=(rfl)
@[simp] theorem bind_assoc(w:W α)(f:α->W β)(g:β->W γ):bind (bind w f) g=bind w λa=>bind (f a) g:=(rfl)
@[simp] theorem Wy(w:W α):bind w ret=w:=(rfl)
@[simp] theorem Td(k:α->W β):bind fail k=fail:=(rfl)
@[simp] theorem ag(a:α)(Q:α->Prop):(ret a).run Q=Q a:=(rfl)
@[simp] theorem run_bind(w:W α)(k:α->W β)(Q:β->Prop):(bind w k).run Q=w.run λa=>(k a).run Q:=(rfl)
@[simp] theorem Uw(Q:α->Prop):(fail:W α).run Q=False:=(rfl)
@[simp] theorem W0(p Q:α->Prop):(any p).run Q=∀a,p a->Q a:=(rfl)
@[simp] theorem L0(p:Prop)(w:W α)(Q:α->Prop):(eB p w).run Q=(p/\w.run Q):=(rfl)
@[simp] theorem KA(p:Prop)(w:W α)(k:α->W β):bind (eB p w) k=eB p (bind w k):=(rfl)
def ax{p:Prop}{w:W α}(h:p):eB p w=w:=ext' λQ=>⟨λq=>q.2,λq=>⟨h,q⟩⟩
@[simp] theorem Wu{w:W α}:eB True w=w:=ax trivial
@[simp] theorem aN(a:α):Lf (some a)=ret a:=(rfl)
@[simp] theorem U4:Lf (bd:Option α)=fail:=(rfl)
end W
inductive FD where
 | v (p:PV) | o (b:ci) (l:List PV)
def Pn:O (Str×FD)->O ci
 | []=>[]
 | (_,.v _)::l=>Pn l
 | (_,.o b _)::l=>b::Pn l
inductive K7(K:Ab)(H:Hp):List (Str×V)->List (Str×FD)->Prop
 | nil:K7 K H [] []
 | v {n:Str}{u:V}{p:PV}{ws:List (Str×V)}{fd:List (Str×FD)} (r:VR K [] H u p) (t:K7 K H ws fd):K7 K H ((n,u)::ws) ((n,.v p)::fd)
 | o {n:Str}{b:ci}{vs:List V}{l:List PV}{ws:List (Str×V)}{fd:List (Str×FD)} (e:H b=some (.lst vs)) (r:az K [] H vs l) (t:K7 K H ws fd):K7 K H ((n,.ref b)::ws) ((n,.o b l)::fd)
inductive SL where
 | val (v:PV) | adr (b:ci) (us:List V) (ps:List PV) (fz:List (ci×Obj)) | ol (q:Option ci) (l:List PV) | W7 (bs:List ci) (ls:List (List PV)) | od (kvs:List (Key×PV)) | ot (kvs:List (List Key×PV)) | j9 (φ:List V->Prop) | ob (q C:ci) (fd:List (Str×FD))
abbrev bf:=O (Option SL)
def Ts(H:Hp)(fz:O (ci×Obj)):Prop:=∀p∈fz,∃u,H p.1=some (.bQ p.2 u)
def Ts.tk{fz:O (ci×Obj)}(h:Ts H fz)(t:aW K H H'):Ts H' fz:=λp hp=>let ⟨u,e⟩:=h p hp;⟨u,t.z _ _ _ e⟩
def _root_.L2.HO.nt:HO->Bool
 | .HY _=>false
 | _=>true
def _root_.L2.HO.ow:HO->Bool
 | .lst _=>true
 | .dK _=>true
 | .dT _=>true
 | .ins _ _ _=>true
 | _=>false
def OQ(h:o.ow=true):o.nt=true:=by cases o <;> first | rfl | cases h
def UX(k:aR P w H h a o)(e:h.get? a=some ob)(ho:o.ow=true)(vs:Array bn):ob.data≠.fields vs:=by
 cases o with
 | lst xs=>obtain⟨_,_,_,_,q⟩:=k;rw[e]at q;cases q;nofun
 | dK xs=>obtain⟨_,_,_,_,o,_,_,q,_,q2,_⟩:=k;rw[e]at q;cases q;rw[q2];nofun
 | dT xs=>obtain⟨_,_,_,_,o,_,_,q,_,q2,_⟩:=k;rw[e]at q;cases q;rw[q2];nofun
 | ins C dx fs=>obtain⟨_,_,_,q,_⟩:=k;rw[e]at q;cases q;nofun
 | _=>cases ho
class cG where
 ts:List (ci×Str)
def FzC(H:Hp)(c:bn)(q:Str):Prop:=∃a o u vs t,c=.ref a/\H a=some (.bQ o u)/\o.data=.fields vs/\vs[1]?=some (.str q t)
variable[cG]
def TB(H:Hp):Prop:=∀p∈cG.ts,∃ps,H p.1=some (.HY ps)/\TriplesOk ps.toList/\∀pos c,codeAmong pos ps.toList=some c->FzC H c p.2
def TB.mono(h:TB H)(h1:∀a ps,H a=some (.HY ps)->H' a=some (.HY ps))(h2:∀a o u vs,H a=some (.bQ o u)->o.data=.fields vs->∃u,H' a=some (.bQ o u)):TB H':=λp hp=>by
 obtain⟨ps,e,q,k⟩:=h p hp;refine⟨ps,h1 _ _ e,q,λpos c z=>?_⟩;obtain⟨a,o,u,vs,t,e1,e2,e3,e4⟩:=k pos c z;obtain⟨u',e5⟩:=h2 a o u vs e2 e3;exact⟨a,o,u',vs,t,e1,e5,e3,e4⟩
def TB.same(h:TB H)(s:iu H H'):TB H':=h.mono (λa _ z=>s a _ z) λa _ _ _ z _=>⟨_,s a _ z⟩
def TB.P5(t:TB H)(k:jd P w H h)(e:H a=some (.bQ ob o))(ho:o.ow=true):TB (upd H a o):=
 t.mono (λb _ z=>by rw[ar (λy=>by subst y;rw[e]at z;cases z)];exact z) λb o' u vs z d=>⟨u,by
  rw[ar (λy=>by subst y;rw[e]at z;cases z;exact UX (k b _ e).2 (k b _ e).1 ho vs d)];exact z⟩
def TB.zl{ob:HO}(h:TB H)(s:lT a H H')(e:H a=some ob)(n1:ob.nt=true)(n2:∀o u,ob≠.bQ o u):TB H':=
 h.mono (λb _ z=>s b _ (λy=>by subst y;rw[e]at z;cases z;cases n1) z) λb _ _ _ z _=>⟨_,s b _ (λy=>by subst y;rw[e]at z;cases z;exact n2 _ _ rfl) z⟩
def SL.own:SL->Bool
 | .val _=>false
 | .adr _ _ _ _=>false
 | _=>true
def SL.O9:SL->O ci
 | .W7 bs _=>bs
 | .ob _ _ fd=>Pn fd
 | _=>[]
def SL.has(s:SL)(x a:ci):Prop:=a=x\/a∈s.O9
def iC(K:Ab)(H:Hp)(a:ci):SL->Prop
 | .val _=>False
 | .adr b us ps fz=>a=b/\az K [] H us ps/\Ts H fz
 | .W7 bs ls=>H a=some (.lst (bs.map V.ref))/\a∉bs/\bs.Nodup/\bs.length=ls.length/\∀(j:Nat) (b:ci) (l:O PV),bs[j]?=some b->ls[j]?=some l->∃ws,H b=some (.lst ws)/\az K [] H ws l
 | .ol q l=>(∀b,q=some b->a=b)/\∃vs,H a=some (.lst vs)/\az K [] H vs l
 | .od kvs=>∃vs:O (Key×V),H a=some (.dK vs)/\vs.map (·.1)=kvs.map (·.1)/\az K [] H (vs.map (·.2)) (kvs.map (·.2))
 | .ot kvs=>∃vs:O (O Key×V),H a=some (.dT vs)/\vs.map (·.1)=kvs.map (·.1)/\az K [] H (vs.map (·.2)) (kvs.map (·.2))
 | .j9 φ=>∃vs,H a=some (.lst vs)/\φ vs
 | .ob q C fd=>a=q/\WO K C/\(∀p∈fd,K5 K C p.1)/\a∉Pn fd/\(Pn fd).Nodup/\∃dx ws,H a=some (.ins C dx ws)/\K7 K H ws fd
def rE(K:Ab)(H:Hp)(u:V)(s:SL):Prop:=(∃v,s=.val v/\VR K [] H u v)\/∃a,u=.ref a/\iC K H a s
def cn(σ:L2.St)(fs:bf)(a:ci):Prop:=∃(i:Nat) (s:SL) (x:ci),fs[i]?=some (some s)/\s.own=true/\σ[i]?=some (some (.ref x))/\s.has x a
def fK(σ:L2.St)(fs:bf)(φ:O V->Prop)(a:ci):Prop:=∃i:Nat,fs[i]?=some (some (.j9 φ))/\σ[i]?=some (some (.ref a))
structure aM(K:Ab)(H:Hp)(σ:L2.St)(fs:bf):Prop where
 len:σ.length=fs.length
 at':∀(i:Nat) (s:SL),fs[i]?=some (some s)->∃u,σ[i]?=some (some u)/\rE K H u s
 nd:∀(i j:Nat) (s t:SL) (x y a:ci),fs[i]?=some (some s)->fs[j]?=some (some t)->s.own=true->t.own=true->σ[i]?=some (some (.ref x))->σ[j]?=some (some (.ref y))->s.has x a->t.has y a->i=j
 tb:TB H
structure bU(σ:L2.St)(fs:bf)(H:Hp)(σ':L2.St)(bc:bf)(H':Hp):Prop where
 keep:∀a o,H a=some o->¬cn σ fs a->(o.nt=true->H' a=some o)/\¬cn σ' bc a
 there:∀a,H' a=bd->H a=bd
 pk:∀a φ,fK σ fs φ a->fK σ' bc φ a\/(¬cn σ' bc a/\∃vs,H' a=some (.lst vs)/\φ vs)
structure cp(σ:L2.St)(fs:bf)(H H':Hp):Prop where
 keep:∀a o,H a=some o->(∀φ,¬fK σ fs φ a)->(nt:o.nt=true:=by rfl)->H' a=some o
 there:∀a,H' a=bd->H a=bd
section
variable{σ σ' σ1 σ2:L2.St}{fs bc J2 cq:bf}{H H' H1 H2:Hp}
def fK.sD(p:fK σ fs φ a):cn σ fs a:=let ⟨i,e1,e2⟩:=p;⟨i,_,_,e1,rfl,e2,.inl rfl⟩
def cp.refl:cp σ fs H H:=⟨λ_ _ h _ _=>h,λ_ h=>h⟩
def cp.trans(a:cp σ fs H H1)(b:cp σ fs H1 H2):cp σ fs H H2:=⟨λx o h n t=>b.keep x o (a.keep x o h n t) n t,λx h=>a.there x (b.there x h)⟩
def cp.f(g:cp σ fs H H'):bU σ fs H σ fs H':=⟨λa o h n=>⟨λt=>g.keep a o h (λφ p=>n p.sD) t,n⟩,g.there,λa φ p=>.inl p⟩
def cp.oS(g:cp σ fs H H')(h:H a=some o)(n:¬cn σ fs a)(t:o.nt=true:=by rfl):H' a=some o:=g.keep a o h (λφ p=>n p.sD) t
def cp.same(h:iu H H'):cp σ fs H H':=⟨λa o e _ _=>h a o e,λa e=>(by
 cases z:H a with
 | none=>rfl
 | some o=>rw[h a o z]at e;cases e)⟩
def K7.ex{fd:O (Str×FD)}(h:K7 K H ws fd){c:ci}(hc:c∈Pn fd):∃vs,H c=some (.lst vs):=by
 induction h with
 | nil=>cases hc
 | v r t ih=>exact ih hc
 | @o n b vs l ws fd e r t ih=>
  rcases AH.mp (show c∈b::Pn fd from hc) with rfl | hc
  ·exact⟨vs,e⟩
  ·exact ih hc
def iC.ex{c:ci}{s:SL}(h:iC K H a s)(ho:s.own=true)(hc:s.has a c):∃o,H c=some o/\(∀vs,o≠.tup vs)/\(∀ob u,o≠.bQ ob u)/\o.ow=true:=by
 cases s with
 | val _=>exact h.elim
 | adr _ _ _ _=>cases ho
 | ol q l=>obtain⟨_,vs,e,_⟩:=h;rcases hc with rfl | hc;exact⟨_,e,by simp,by simp,rfl⟩;cases hc
 | W7 bs ls=>
  obtain⟨e,_,_,hl,hb⟩:=h;rcases hc with rfl | hc
  ·exact⟨_,e,by simp,by simp,rfl⟩
  ·obtain⟨j,hj⟩:=Fi (show c∈bs from hc);have h1:=(Al.mp hj).1;obtain⟨ws,e,_⟩:=hb j c _ hj (Ad (by rw[<- hl];exact h1));exact⟨_,e,by simp,by simp,rfl⟩
 | od l=>obtain⟨vs,e,_⟩:=h;rcases hc with rfl | hc;exact⟨_,e,by simp,by simp,rfl⟩;cases hc
 | ot l=>obtain⟨vs,e,_⟩:=h;rcases hc with rfl | hc;exact⟨_,e,by simp,by simp,rfl⟩;cases hc
 | j9 l=>obtain⟨vs,e,_⟩:=h;rcases hc with rfl | hc;exact⟨_,e,by simp,by simp,rfl⟩;cases hc
 | ob q C fd=>
  obtain⟨_,_,_,_,_,dx,ws,e,r⟩:=h;rcases hc with rfl | hc
  ·exact⟨_,e,by simp,by simp,rfl⟩
  ·obtain⟨vs,e⟩:=r.ex hc;exact⟨_,e,by simp,by simp,rfl⟩
def aM.ownAt(s:aM K H σ fs){t:SL}(h1:fs[i]?=some (some t))(h2:t.own=true)(h3:σ[i]?=some (some (.ref a))):iC K H a t:=by
 obtain⟨u,e,r⟩:=s.at' i t h1;rw[h3]at e;cases e;rcases r with⟨v,rfl,_⟩ | ⟨b,e,r⟩
 ·cases h2
 ·cases e;exact r
def aM.sD(s:aM K H σ fs)(h:cn σ fs a):∃o,H a=some o/\(∀vs,o≠.tup vs)/\(∀ob u,o≠.bQ ob u)/\o.ow=true:=by
 obtain⟨i,t,x,h1,h2,h3,h4⟩:=h;exact(s.ownAt h1 h2 h3).ex h2 h4
def aM.noOwn(s:aM K H σ fs)(h:H a=bd):¬cn σ fs a:=λz=>by
 obtain⟨o,e,_⟩:=s.sD z;rw[h]at e;cases e
def aM.Q5(s:aM K H σ fs)(h:H a=some (.tup vs)):¬cn σ fs a:=λz=>by
 obtain⟨o,e,n,_⟩:=s.sD z;rw[h]at e;cases e;exact n vs rfl
def aM.Q6(s:aM K H σ fs)(h:H a=some (.bQ ob u)):¬cn σ fs a:=λz=>by
 obtain⟨o,e,_,n,_⟩:=s.sD z;rw[h]at e;cases e;exact n ob u rfl
def bU.refl:bU σ fs H σ fs H:=⟨λ_ _ h n=>⟨λ_=>h,n⟩,λ_ h=>h,λ_ _ h=>.inl h⟩
def bU.MU(a:bU σ fs H σ1 J2 H1)(b:bU σ1 J2 H1 σ2 cq H2){x:ci}(h:H x=some o)(n:¬cn σ fs x):¬cn σ2 cq x:=by
 have n1:=(a.keep x o h n).2;cases z:H1 x with
 | none=>rw[a.there x z]at h;cases h
 | some o1=>exact(b.keep x o1 z n1).2
def bU.trans(a:bU σ fs H σ1 J2 H1)(b:bU σ1 J2 H1 σ2 cq H2):bU σ fs H σ2 cq H2:=
 ⟨λx o h n=>⟨λt=>let ⟨h1,n1⟩:=a.keep x o h n;(b.keep x o (h1 t) n1).1 t,a.MU b h n⟩,λx h=>a.there x (b.there x h),λx φ h=>(a.pk x φ h).elim (b.pk x φ) λ⟨n,vs,e,p⟩=>.inr (let ⟨h1,n1⟩:=b.keep x _ e n;⟨n1,vs,h1 rfl,p⟩)⟩
def bU.cR(g:bU σ fs H σ' bc H')(s:aM K H σ fs):aW K H H':=
 ⟨λa vs h=>(g.keep a _ h (s.Q5 h)).1 rfl,λa o u h=>(g.keep a _ h (s.Q6 h)).1 rfl⟩
def VR.tk{u:V}(t:aW K H H')(r:VR K [] H u v):VR K [] H' u v:=r.mono t λ_ _ e=>e
def az.tk{u:O V}{v:O PV}(t:aW K H H')(r:az K [] H u v):az K [] H' u v:=r.mono t λ_ _ e=>e
def bU.vr(g:bU σ fs H σ' bc H')(s:aM K H σ fs){u:V}(r:VR K [] H u v):VR K [] H' u v:=VR.tk (g.cR s) r
def cp.cR(g:cp σ fs H H')(s:aM K H σ fs):aW K H H':=g.f.cR s
def cp.vr(g:cp σ fs H H')(s:aM K H σ fs){u:V}(r:VR K [] H u v):VR K [] H' u v:=VR.tk (g.cR s) r
def cp.Hz(g:cp σ fs H H')(s:aM K H σ fs){u:O V}{v:O PV}(r:az K [] H u v):az K [] H' u v:=az.tk (g.cR s) r
def K7.mono{fd:O (Str×FD)}(t:aW K H H')(h:K7 K H ws fd)(e:∀c vs,c∈Pn fd->H c=some (.lst vs)->H' c=some (.lst vs)):K7 K H' ws fd:=by
 induction h with
 | nil=>exact .nil
 | v r _ ih=>exact .v (VR.tk t r) (ih e)
 | @o n b vs l ws fd q r _ ih=>exact .o (e b vs (.head _) q) (az.tk t r) (ih λc vs hc=>e c vs (.tail _ hc))
def iC.mono{s:SL}(t:aW K H H')(e:∀c o,s.own=true->s.has a c->H c=some o->o.nt=true->H' c=some o)(h:iC K H a s):iC K H' a s:=by
 cases s with
 | val _=>exact h
 | adr _ _ _ _=>exact⟨h.1,az.tk t h.2.1,h.2.2.tk t⟩
 | ol _ l=>obtain⟨z,vs,q,r⟩:=h;exact⟨z,vs,e _ _ rfl (.inl rfl) q rfl,az.tk t r⟩
 | W7 bs ls=>
  obtain⟨z,h1,h2,h3,h4⟩:=h;refine⟨e _ _ rfl (.inl rfl) z rfl,h1,h2,h3,λj b l hb hl=>?_⟩;obtain⟨ws,q,r⟩:=h4 j b l hb hl;exact⟨ws,e _ _ rfl (.inr (A5 hb)) q rfl,az.tk t r⟩
 | od l=>obtain⟨vs,q,k,r⟩:=h;exact⟨vs,e _ _ rfl (.inl rfl) q rfl,k,az.tk t r⟩
 | ot l=>obtain⟨vs,q,k,r⟩:=h;exact⟨vs,e _ _ rfl (.inl rfl) q rfl,k,az.tk t r⟩
 | j9 φ=>obtain⟨vs,q,k⟩:=h;exact⟨vs,e _ _ rfl (.inl rfl) q rfl,k⟩
 | ob q C fd=>obtain⟨h0,h1,h2,h3,h4,dx,ws,q,r⟩:=h;exact⟨h0,h1,h2,h3,h4,dx,ws,e _ _ rfl (.inl rfl) q rfl,r.mono t λc vs hc q=>e c _ rfl (.inr hc) q rfl⟩
def rE.mono{u:V}{s:SL}(t:aW K H H')(e:∀x a o,u=.ref x->s.own=true->s.has x a->H a=some o->o.nt=true->H' a=some o)(h:rE K H u s):rE K H' u s:=by
 rcases h with⟨v,q,r⟩ | ⟨a,q,r⟩
 ·exact .inl ⟨v,q,VR.tk t r⟩
 ·exact .inr ⟨a,q,r.mono t (λc o z y w nt=>e a c o q z y w nt)⟩
def aM.same(s:aM K H σ fs)(h:iu H H'):aM K H' σ fs:=⟨s.len,λi t e=>let ⟨u,h1,h2⟩:=s.at' i t e;⟨u,h1,h2.mono h.cU (λ_ a o _ _ _ z _=>h a o z)⟩,s.nd,s.tb.same h⟩
def bU.same(h:iu H H')(s:aM K H σ fs):bU σ fs H σ fs H':=⟨λa o e n=>⟨λ_=>h a o e,n⟩,λa e=>(by
 cases z:H a with
 | none=>rfl
 | some o=>rw[h a o z]at e;cases e),λa φ p=>.inl p⟩
inductive fw:bf->bf->Prop
 | nil:fw [] []
 | drop {s:Option SL}{a b:bf} (h:fw a b):fw (s::a) (bd::b)
 | keep {s:Option SL}{a b:bf} (h:fw a b):fw (s::a) (s::b)
theorem fw.at{a b:bf}(h:fw a b):∀(i:Nat) (s:SL),b[i]?=some (some s)->a[i]?=some (some s):=by
 induction h with
 | nil=>intro i s e;simp at e
 | drop h ih=>intro i s e;cases i with | zero=>simp at e | succ i=>simp at e ⊢;exact ih i s e
 | keep h ih=>intro i s e;cases i with | zero=>simpa using e | succ i=>simp at e ⊢;exact ih i s e
theorem fw.length{a b:bf}(h:fw a b):a.length=b.length:=by induction h <;> simp_all
theorem fw.refl:∀a:bf,fw a a
 | []=>.nil
 | _::a=>.keep (fw.refl a)
def aM.le(s:aM K H σ fs)(h:fw fs bc):aM K H σ bc:=⟨s.len.trans h.length,λi t e=>s.at' i t (h.at i t e),λi j t u x y a e1 e2=>s.nd i j t u x y a (h.at i t e1) (h.at j u e2),s.tb⟩
def cn.le(h:fw fs bc)(o:cn σ bc a):cn σ fs a:=let ⟨i,t,x,e1,e2,e3⟩:=o;⟨i,t,x,h.at i t e1,e2,e3⟩
def bU.le(s:aM K H σ fs)(h:fw fs bc):bU σ fs H σ bc H:=⟨λa o e n=>⟨λ_=>e,λz=>n (z.le h)⟩,λ_ e=>e,λa φ p=>by
 obtain⟨i,e1,e2⟩:=p;by_cases c:cn σ bc a
 ·obtain⟨j,t,x,c1,c2,c3,c4⟩:=c;have ij:=s.nd i j _ t a x a e1 (h.at j t c1) rfl c2 e2 c3 (.inl rfl) c4;subst ij;have:=h.at i t c1;rw[e1]at this;cases this;exact .inl ⟨i,c1,e2⟩
 ·obtain⟨vs,q,r⟩:=s.ownAt e1 rfl e2;exact .inr ⟨c,vs,q,r⟩⟩
def bV{l:O (Option α)}{x y:α}(h:(l.set i (some x))[j]?=some (some y)):(j=i/\y=x)\/(j≠i/\l[j]?=some (some y)):=by
 by_cases c:j=i
 ·subst c;rw[List.getElem?_set]at h;simp at h;exact .inl ⟨rfl,h.2.symm⟩
 ·rw[BU (λz=>c z.symm)]at h;exact .inr ⟨c,h⟩
def bO{l:List α}{x:α}(h:i < l.length):(l.set i x)[i]?=some x:=by rw[List.getElem?_set];simp[h]
def aG{l:List α}{x:α}(h:j≠i):(l.set i x)[j]?=l[j]?:=BU (λz=>h z.symm)
def aM.put(s:aM K H σ fs){u:V}{t:SL}(hr:rE K H u t)(hf:∀x a,u=.ref x->t.own=true->t.has x a->∀(j:Nat) (w:SL) (y:ci),j≠i->fs[j]?=some (some w)->w.own=true->σ[j]?=some (some (.ref y))->¬w.has y a):aM K H (σ.set i (some u)) (fs.set i (some t)):=by
 refine⟨by simp[s.len],λj w e=>?_,λj k w x b1 b2 a e1 e2 o1 o2 q1 q2 z1 z2=>?_,s.tb⟩
 ·rcases bV e with⟨rfl,rfl⟩ | ⟨n,e⟩
  ·have hl:j < σ.length:=by
    have:=(Al.mp e).1;rw[B5]at this;rw[s.len];exact this
   exact⟨u,bO hl,hr⟩
  ·obtain⟨v,h1,h2⟩:=s.at' j w e;exact⟨v,by rw[aG n];exact h1,h2⟩
 ·rcases bV e1 with⟨y1,y2⟩ | ⟨n1,f1⟩ <;> rcases bV e2 with⟨y3,y4⟩ | ⟨n2,f2⟩
  ·exact y1.trans y3.symm
  ·subst y1;subst y2;rw[aG n2]at q2;have hl:j < σ.length:=by have:=(Al.mp q1).1;simpa using this
   rw[bO hl]at q1;cases q1;exact absurd z2 (hf _ a rfl o1 z1 k x b2 n2 f2 o2 q2)
  ·subst y3;subst y4;rw[aG n1]at q1;have hl:k < σ.length:=by have:=(Al.mp q2).1;simpa using this
   rw[bO hl]at q2;cases q2;exact absurd z1 (hf _ a rfl o2 z2 j w b1 n1 f1 o1 q1)
  ·rw[aG n1]at q1;rw[aG n2]at q2;exact s.nd j k w x b1 b2 a f1 f2 o1 o2 q1 q2 z1 z2
def aM.fm(s:aM K H σ fs){u:V}(hr:VR K [] H u v)(i:Nat):aM K H (σ.set i (some u)) (fs.set i (some (.val v))):=s.put (.inl ⟨v,rfl,hr⟩) λ_ _ _ z=>by cases z
def vv{u:V}{t:SL}(o:cn (σ.set i (some u)) (fs.set i (some t)) a)(hl:σ.length=fs.length):cn σ fs a\/∃x,u=.ref x/\t.own=true/\t.has x a:=by
 obtain⟨j,w,x,e1,e2,e3,e4⟩:=o;rcases bV e1 with⟨rfl,rfl⟩ | ⟨n,e1⟩
 ·have h2:j < σ.length:=by have:=(Al.mp e3).1;simpa using this
  rw[bO h2]at e3;cases e3;exact .inr ⟨x,rfl,e2,e4⟩
 ·rw[aG n]at e3;exact .inl ⟨j,w,x,e1,e2,e3,e4⟩
def zp(s:aM K H σ fs){u:V}{t:SL}(p:fK σ fs φ a)(hu:∀x,u=.ref x->t.own=true->t.has x a->t=.j9 φ):fK (σ.set i (some u)) (fs.set i (some t)) φ a\/¬cn (σ.set i (some u)) (fs.set i (some t)) a:=by
 obtain⟨j,e1,e2⟩:=p;by_cases c:j=i
 ·subst c;by_cases c2:∃x,u=.ref x/\t.own=true/\t.has x a
  ·obtain⟨x,c3,c4,c5⟩:=c2;have hl:=(Al.mp e2).1;have Lj:=(Al.mp e1).1;have et:=hu x c3 c4 c5;subst et;rcases c5 with rfl | c5
   ·exact .inl ⟨j,by rw[bO Lj],by rw[bO hl,c3]⟩
   ·cases c5
  ·refine .inr λo=>?_;obtain⟨k,w,y,q1,q2,q3,q4⟩:=o;rcases bV q1 with⟨rfl,rfl⟩ | ⟨n,q1⟩
   ·have hl:=(Al.mp e2).1;rw[bO hl]at q3;cases q3;exact c2 ⟨y,rfl,q2,q4⟩
   ·rw[aG n]at q3;exact n (s.nd k j w _ y a a q1 e1 q2 rfl q3 e2 q4 (.inl rfl))
 ·exact .inl ⟨j,by rw[aG c];exact e1,by rw[aG c];exact e2⟩
def bU.fm(s:aM K H σ fs)(u:V)(v:PV)(i:Nat):bU σ fs H (σ.set i (some u)) (fs.set i (some (.val v))) H:=
 ⟨λa o e n=>⟨λ_=>e,λz=>(vv z s.len).elim n λ⟨_,_,z,_⟩=>by cases z⟩,λ_ e=>e,λa φ p=>(zp s p (λ_ _ z=>by cases z)).imp id λn=>⟨n,by
  obtain⟨j,e1,e2⟩:=p;obtain⟨vs,q,r⟩:=s.ownAt e1 rfl e2;exact⟨vs,q,r⟩⟩⟩
def aM.Iy(s:aM K H σ fs){t:SL}(hr:iC K H a t)(hn:∀c,t.has a c->¬cn σ fs c)(i:Nat):aM K H (σ.set i (some (.ref a))) (fs.set i (some t)):=s.put (.inr ⟨a,rfl,hr⟩) λx c e _ hc j w y n e1 e2 e3 z=>by
 cases e;exact hn c hc ⟨j,w,y,e1,e2,e3,z⟩
def tH{t:SL}(hi:t.O9=[]){c:ci}(h:t.has a c):c=a:=by
 rcases h with h | h
 ·exact h
 ·rw[hi]at h;cases h
def aM.sd(s:aM K H σ fs){t:SL}(hr:iC K H a t)(hn:¬cn σ fs a)(i:Nat)(hi:t.O9=[]:=by rfl):aM K H (σ.set i (some (.ref a))) (fs.set i (some t)):=s.Iy hr (λc hc=>by rw[tH hi hc];exact hn) i
def bU.Iy(s:aM K H1 σ fs)(g:bU σ fs H σ fs H1){t:SL}(hn:∀c,t.has a c->¬cn σ fs c)(h0:∀c,t.has a c->H c=bd)(i:Nat):bU σ fs H (σ.set i (some (.ref a))) (fs.set i (some t)) H1:=by
 refine⟨λb o e n=>⟨(g.keep b o e n).1,λz=>(vv z s.len).elim n λ⟨x,z,_,y⟩=>?_⟩,g.there,λb φ p=>?_⟩
 ·cases z;rw[h0 b y]at e;cases e
 ·obtain⟨j,e1,e2⟩:=p;obtain⟨vs,q,r⟩:=s.ownAt e1 rfl e2;refine(zp (t:=t) s ⟨j,e1,e2⟩ (λx z o y=>?_)).imp id λn=>⟨n,vs,q,r⟩;cases z;exact absurd ⟨j,_,_,e1,rfl,e2,.inl rfl⟩ (hn b y)
def bU.sd(s:aM K H1 σ fs)(g:bU σ fs H σ fs H1){t:SL}(hn:¬cn σ fs a)(h0:H a=bd)(i:Nat)(hi:t.O9=[]:=by rfl):bU σ fs H (σ.set i (some (.ref a))) (fs.set i (some t)) H1:=bU.Iy s g (λc hc=>by rw[tH hi hc];exact hn) (λc hc=>by rw[tH hi hc];exact h0) i
def vz(s:aM K H σ fs){t t':SL}{c:ci}(e1:fs[i]?=some (some t))(o:t.own=true)(np:∀φ,t≠.j9 φ)(e2:σ[i]?=some (some (.ref a)))(hc:t.has a c)(S4:t'.has a c)(v9:∀b,t'.has a b->t.has a b)(o':t'.own=true)(sx:lT c H H')(ht:aW K H H'->iC K H' a t'):aM K H' σ (fs.set i (some t'))/\bU σ fs H σ (fs.set i (some t')) H':=by
 have oa:=s.ownAt e1 o e2;obtain⟨ob,q,n1,n2,n3⟩:=oa.ex o hc;have tk:aW K H H':=⟨λb vs z=>sx b _ (λy=>by subst y;rw[q]at z;cases z;exact n1 _ rfl) z,λb o u z=>sx b _ (λy=>by subst y;rw[q]at z;cases z;exact n2 _ _ rfl) z⟩;have oa':=ht tk;have hi:i < fs.length:=(Al.mp e1).1;have Ms:∀b,cn σ (fs.set i (some t')) b->cn σ fs b:=λb z=>by
  obtain⟨j,w,x,z1,z2,z3,z4⟩:=z;rcases bV z1 with⟨rfl,rfl⟩ | ⟨n,z1⟩
  ·rw[e2]at z3;cases z3;exact⟨j,t,a,e1,o,e2,v9 b z4⟩
  ·exact⟨j,w,x,z1,z2,z3,z4⟩
 refine⟨⟨by simp[s.len],λj w e=>?_,λj k w x b1 b2 b z1 z2 o1 o2 q1 q2 y1 y2=>?_,s.tb.zl sx q (OQ n3) n2⟩,⟨λb ob e n=>⟨λ_=>sx b ob (λz=>by subst z;exact n ⟨i,t,a,e1,o,e2,hc⟩) e,λz=>n (Ms b z)⟩,λb e=>?_,λb φ p=>?_⟩⟩
 ·rcases bV e with⟨rfl,rfl⟩ | ⟨n,e⟩
  ·exact⟨_,e2,.inr ⟨a,rfl,oa'⟩⟩
  ·obtain⟨u,h1,h2⟩:=s.at' j w e;refine⟨u,h1,h2.mono tk (λx b ob eb ow hb z _=>sx b ob (λy=>?_) z)⟩;subst y;subst eb;exact n (s.nd j i w t x a b e e1 ow o h1 e2 hb hc)
 ·have f:∀{j:Nat}{w:SL}{y:ci},(fs.set i (some t'))[j]?=some (some w)->w.own=true->σ[j]?=some (some (.ref y))->w.has y b->∃w',fs[j]?=some (some w')/\w'.own=true/\w'.has y b:=λ{j w y} z ow qy hy=>by
   rcases bV z with⟨rfl,rfl⟩ | ⟨n,z⟩
   ·rw[e2]at qy;cases qy;exact⟨t,e1,o,v9 b hy⟩
   ·exact⟨w,z,ow,hy⟩
  obtain⟨w',a1,a2,a3⟩:=f z1 o1 q1 y1;obtain⟨x',c1,c2,c3⟩:=f z2 o2 q2 y2;exact s.nd j k w' x' b1 b2 b a1 c1 a2 c2 q1 q2 a3 c3
 ·cases z:H b with
  | none=>rfl
  | some ob=>
   by_cases cc:b=c
   ·subst cc;obtain⟨o2,y,_⟩:=oa'.ex o' S4;rw[e]at y;cases y
   ·rw[sx b ob cc z]at e;cases e
 ·obtain⟨j,p1,p2⟩:=p;have ji:j≠i:=λz=>by subst z;rw[e1]at p1;cases p1;exact np φ rfl
  exact .inl ⟨j,by rw[aG ji];exact p1,p2⟩
def ka(s:aM K H σ fs){t t':SL}(e1:fs[i]?=some (some t))(o:t.own=true)(np:∀φ,t≠.j9 φ)(e2:σ[i]?=some (some (.ref a)))(sx:lT a H H')(ht:aW K H H'->iC K H' a t')(hi:t'.O9=t.O9:=by rfl)(o':t'.own=true:=by rfl):aM K H' σ (fs.set i (some t'))/\bU σ fs H σ (fs.set i (some t')) H':=
 vz s e1 o np e2 (.inl rfl) (.inl rfl) (λb h=>by unfold SL.has at h ⊢;rw[hi]at h;exact h) o' sx ht
end
end
end FL
open FL.W renaming bind→am,ret→ap,run_bind→ev,ag→kw,af→lc,ax→tz,ext'→xz,aN→Fk
local macro_rules | `($a\$b)=>`(am (ap $a) $b)
variable{u:L2.V}{o b:Bu}{fs bc:FL.bf}{es:O Bu}{σ':L2.St}{wa wb wc:FL.W PL.PV}{wl:FL.W (O PL.PV)}
namespace FL
section
variable[cG]
variable{K:Ab}
def fE(K:Ab)(fs:bf)(w:W PV):TE:=λσ H Q=>aM K H σ fs/\w.run λv=>∀u H',cp σ fs H H'->aM K H' σ fs->VR K [] H' u v->Q u H'
def fT(K:Ab)(fs:bf)(w:W Bool):TT:=λσ H Q=>aM K H σ fs/\w.run λb=>∀H',cp σ fs H H'->aM K H' σ fs->Q b H'
def fO(K:Ab)(fs:bf)(w:W (Option Int)):TO:=λσ H Q=>aM K H σ fs/\w.run λb=>∀H',cp σ fs H H'->aM K H' σ fs->Q b H'
def fL(K:Ab)(fs:bf)(w:W (O PV)):TE:=λσ H Q=>aM K H σ fs/\w.run λl=>∀a vs H',cp σ fs H H'->aM K H' σ fs->H a=bd->H' a=some (.lst vs)->az K [] H' vs l->Q (.ref a) H'
def SJ(K:Ab)(H:Hp)(u:V)(l:O PV):Prop:=∃a vs,u=.ref a/\(Ou K H a vs\/H a=some (.tup vs))/\az K [] H vs l
def Oj(K:Ab)(σ:L2.St)(fs:bf)(H:Hp)(u:V)(l:O PV):Prop:=SJ K H u l\/∃a,u=.ref a/\((¬cn σ fs a/\∃vs,H a=some (.lst vs)/\az K [] H vs l)\/∃(i:Nat) (q:Option ci),fs[i]?=some (some (.ol q l))/\σ[i]?=some (some (.ref a)))
def fQ(K:Ab)(fs:bf)(w:W (O PV)):TE:=λσ H Q=>aM K H σ fs/\w.run λl=>∀u H',cp σ fs H H'->aM K H' σ fs->Oj K σ fs H' u l->Q u H'
def fI(K:Ab)(fs:bf)(w:W (O PV)):TE:=λσ H Q=>aM K H σ fs/\w.run λl=>∀u H',cp σ fs H H'->aM K H' σ fs->SJ K H' u l->Q u H'
inductive AK where
 | v | p (φ:List V->Prop) | f (a:ci) (us:List V) (ps:List PV) (fz:List (ci×Obj))
inductive d6(K:Ab)(σ:L2.St)(fs:bf)(H:Hp):List V->List AK->List PV->Prop
 | nil:d6 K σ fs H [] [] []
 | v {u:V}{x:PV}{vs:List V}{ks:List AK}{l:List PV} (r:VR K [] H u x) (t:d6 K σ fs H vs ks l):d6 K σ fs H (u::vs) (.v::ks) (x::l)
 | p {a:ci}{φ:List V->Prop}{vs:List V}{ks:List AK}{l:List PV} (r:fK σ fs φ a) (t:d6 K σ fs H vs ks l):d6 K σ fs H (.ref a::vs) (.p φ::ks) l
 | f {a:ci}{us vs:List V}{ps:List PV}{fz:List (ci×Obj)}{ks:List AK}{l:List PV} (r:az K [] H us ps) (z:Ts H fz) (t:d6 K σ fs H vs ks l):d6 K σ fs H (.ref a::vs) (.f a us ps fz::ks) l
def fA(K:Ab)(fs:bf)(ks:O AK)(w:W (O PV)):TA:=λσ H Q=>aM K H σ fs/\w.run λl=>∀vs H',cp σ fs H H'->aM K H' σ fs->d6 K σ fs H' vs ks l->Q vs H'
structure EF(X:Cx)(K:Ab)(fs:bf)(e:im)(w:W PV):Prop where p:PE X e (fE K fs w)
structure LF(X:Cx)(K:Ab)(fs:bf)(e:im)(w:W (List PV)):Prop where p:PE X e (fL K fs w)
structure QF(X:Cx)(K:Ab)(fs:bf)(e:im)(w:W (List PV)):Prop where p:PE X e (fQ K fs w)
structure IF(X:Cx)(K:Ab)(fs:bf)(e:im)(w:W (List PV)):Prop where p:PE X e (fI K fs w)
structure TF(X:Cx)(K:Ab)(fs:bf)(e:im)(w:W Bool):Prop where p:PT X e (fT K fs w)
structure uC(X:Cx)(K:Ab)(fs:bf)(e:im)(w:W Bool):Prop where p:PW X e (fT K fs w)
structure OF(X:Cx)(K:Ab)(fs:bf)(e:Option im)(w:W (Option Int)):Prop where p:L2.PO X e (fO K fs w)
structure AF(X:Cx)(K:Ab)(fs:bf)(es:List im)(ks:List AK){R:Type}(B:(List PV->W R)->W R):Prop where
 p:∃w:W (List PV),PA X es (fA K fs ks w)/\∀k,B k=am w k
section
def SJ.tk(t:aW K H H')(h:SJ K H u l):SJ K H' u l:=by
 obtain⟨a,vs,e,q,r⟩:=h;exact⟨a,vs,e,q.imp (t.f _ _) (t.t _ _),az.tk t r⟩
def Oj.go(h:Oj K σ fs H u l)(s:aM K H σ fs)(g:cp σ fs H H'):Oj K σ fs H' u l:=by
 rcases h with h | ⟨a,e,⟨n,vs,q,r⟩ | q⟩
 ·exact .inl (h.tk (g.cR s))
 ·exact .inr ⟨a,e,.inl ⟨n,vs,(g.oS q n),g.Hz s r⟩⟩
 ·exact .inr ⟨a,e,.inr q⟩
def Oj.sq(h:Oj K σ fs H u l)(s:aM K H σ fs):∃a vs,u=.ref a/\(b9 K H a vs\/cS K H a vs)/\az K [] H vs l:=by
 rcases h with⟨a,vs,e,q,r⟩ | ⟨a,e,⟨n,vs,q,r⟩ | ⟨i,_,q1,q2⟩⟩
 ·exact⟨a,vs,e,q.elim (λq=>.inl q.sq) λq=>.inr (cS.of q),r⟩
 ·exact⟨a,vs,e,.inl (b9.of q),r⟩
 ·obtain⟨_,vs,q,r⟩:=s.ownAt q1 rfl q2;exact⟨a,vs,e,.inl (b9.of q),r⟩
end
section
variable{a c:im}{rest:O im}{pos:Pos}{w:W PV}
def ae(i:Nat)(hs:fs[i]?=some (some (.val v)):=by rfl)(hN:X.N[i]?=some x:=by rfl)(hv:uL X.env.scope x:=by first | exact Cy rfl | exact B9 (Cy rfl) | exact B9 (B9 rfl))(hd:iG x:=by decide)(gB:w5 x:=by decide):EF X K fs (.Name x pos) (.ret v):=
 ⟨PE.imp (cL hN hv hd gB) λσ H Q ⟨sr,q⟩=>by
  obtain⟨u,e1,r⟩:=sr.at' i _ hs;rcases r with⟨w,e,r⟩ | ⟨a,_,r⟩
  ·cases e;exact⟨u,e1,q u H .refl sr r⟩
  ·exact r.elim⟩
def Xu{v:V}{p:PV}(hv:∀H,VR K [] H v p)(h:PE X e (tC v)):EF X K fs e (.ret p):=⟨PE.imp h λσ H Q ⟨sr,q⟩=>q v H .refl sr (hv _)⟩
def ai{i j}:EF X K fs (.Constant (.int i) j pos) (.ret (.int i)):=Xu (λ_=>.int i) xw
def wD{b j}:EF X K fs (.Constant (.bool b) j pos) (.ret (.bl b)):=Xu (λ_=>.bl b) UT
def FU{j}:EF X K fs (.Constant .none j pos) (.ret .aK):=Xu (λ_=>.aK) QL
def mX{x j}:EF X K fs (.Constant (.str x) j pos) (.ret (.str x)):=Xu (λ_=>.str x) QI
def of2(m:M2)(x y:PV):W PV:=⟨λQ=>m.f x y [] λz h=>h=[]/\Q z,λf q=>m.mono (λ_ _ q=>⟨q.1,f _ q.2⟩) q⟩
def hr0(H:Hp):HR K [] H []:=⟨Fh,rfl,λn a o e _=>by simp at e⟩
def pq0{Q:VK}{z:PV}{h:PH}(sr:aM K H σ fs)(q:h=[]/\∀u H',cp σ fs H H'->aM K H' σ fs->VR K [] H' u z->Q u H'):pQ K [] H Q z h:=λι' v H' g r x=>by
 obtain⟨e,q⟩:=q;subst e;have:ι'=[]:=DB r.len;subst this;have sm:iu H H':=λa o z=>g.keep a o (by simp) z;exact q v H' (cp.same sm) (sr.same sm) x
def Ja{r:R2}{m:M2}(hm:M2.Ok K r m){Q:VK}{v:V}{x y:PV}(sr:aM K H σ fs)(hu:VR K [] H u x)(hv:VR K [] H v y)(q:(of2 m x y).run λz=>∀u H',cp σ fs H H'->aM K H' σ fs->VR K [] H' u z->Q u H'):r u v H Q:=
 hm (hr0 H) hu hv (m.mono (λz h q=>pq0 sr q) q)
def zY{r:R2}{m:M2}(hm:M2.Ok K r m):∀σ H Q,fE K fs (.bind wa λx=>.bind wb λy=>of2 m x y) σ H Q->OC r (fE K fs wa) (fE K fs wb) σ H Q:=λσ H Q ⟨sr,q⟩=>
 ⟨sr,wa.mono (λx q1 u1 H1 g1 s1 v1=>⟨s1,wb.mono (λy q2 u2 H2 g2 s2 v2=>Ja hm s2 (g2.vr s1 v1) v2 ((of2 m x y).mono (λz q u3 H3 g3 s3 v3=>q u3 H3 ((g1.trans g2).trans g3) s3 v3) q2)) q1⟩) q⟩
def Kl{op:Operator}{r:R2}{m:M2}(ho:gF X (ss op) r)(hm:M2.Ok K r m)(ha:EF X K fs a wa)(hb:EF X K fs b wb):EF X K fs (.BinOp a op b pos) (.bind wa λx=>.bind wb λy=>of2 m x y):=⟨PE.imp (zr ho ha.p hb.p) (zY hm)⟩
def lJ(ha:EF X K fs a wa)(hb:EF X K fs b wb):EF X K fs (.BinOp a .Sub b pos) (.bind wa λx=>.bind wb λy=>of2 ox x y):=Kl QR (wX λ_ _ _ _=>.int _) ha hb
def mY(ha:EF X K fs a wa)(hb:EF X K fs b wb):EF X K fs (.BinOp a .Mult b pos) (.bind wa λx=>.bind wb λy=>of2 mj x y):=Kl Mx (uw λ_ _ _ _=>.int _) ha hb
def Pr(ha:EF X K fs a wa)(hb:EF X K fs b wb):EF X K fs (.BinOp a .FloorDiv b pos) (.bind wa λx=>.bind wb λy=>of2 oDiv x y):=Kl Mz (uw λ_ _ _ _=>.int _) ha hb
def lK(ha:EF X K fs a wa)(hb:EF X K fs b wb):EF X K fs (.BinOp a .Mod b pos) (.bind wa λx=>.bind wb λy=>of2 oMod x y):=Kl QW (uw λ_ _ _ _=>.int _) ha hb
def Kk(ha:EF X K fs a wa)(hb:EF X K fs b wb):EF X K fs (.BinOp a .Pow b pos) (.bind wa λx=>.bind wb λy=>of2 vB x y):=Kl QT (uw λ_ _ _ _=>.int _) ha hb
def MV:PV->W PV
 | .int i=>.ret (.int (-i))
 | _=>.fail
def Pq(ha:EF X K fs a wa):EF X K fs (.UnaryOp .USub a pos) (.bind wa MV):=⟨PE.imp (UQ P1 ha.p) λσ H Q ⟨sr,q⟩=>⟨sr,wa.mono (λx q1 u1 H1 g1 s1 v1=>by
 cases v1 with
 | int i=>exact⟨_,rfl,q1 _ H1 g1 s1 (.int _)⟩
 | _=>exact q1.elim) q⟩⟩
def Sz:PV->W Bool
 | .bl b=>.ret b
 | _=>.fail
def mZ{m:M2}(hc:JC X K op b m)(ha:EF X K fs a wa)(hb:EF X K fs b wb):EF X K fs (.Compare a [op] [b] pos) (.bind wa λx=>.bind wb λy=>of2 m x y):=let ⟨_,h1,h2⟩:=hc.p;⟨PE.imp (si h1 ha.p hb.p hc.k) (zY h2)⟩
def V5{w:W PV}:∀σ H Q,fT K fs (.bind w Sz) σ H Q->(fE K fs w) σ H λx H'=>∃k,x=.bl k/\Q k H':=λσ H Q ⟨sr,q⟩=>⟨sr,w.mono (λx q1 u1 H1 g1 s1 v1=>by
 cases v1 with
 | bl b=>exact⟨b,rfl,q1 H1 g1 s1⟩
 | _=>exact q1.elim) q⟩
def cV{m:M2}(hc:JC X K op b m)(ha:EF X K fs a wa)(hb:EF X K fs b wb):TF X K fs (.Compare a [op] [b] pos) (.bind wa λx=>.bind wb λy=>.bind (of2 m x y) Sz):=let ⟨_,h1,h2⟩:=hc.p
 ⟨PT.imp (nI h1 ha.p hb.p hc.k) λσ H Q q=>zY h2 σ H _ (V5 (w:=.bind wa λx=>.bind wb λy=>of2 m x y) σ H Q q)⟩
def KC(z:PV)(w:W PV):W PV:=match z with
 | .bl true=>w
 | .bl false=>.ret (.bl false)
 | _=>.fail
def Oe(x:PV)(w:W PV):W PV:=match x with
 | .bl true=>w
 | .bl false=>.ret (.bl false)
 | _=>.fail
def Q3:PV->W PV
 | .bl b=>.ret (.bl (!b))
 | _=>.fail
def Kq(ha:EF X K fs a wa)(hb:EF X K fs (.BoolOp .And (b::rest) pos) wb):EF X K fs (.BoolOp .And (a::b::rest) pos) (.bind wa λx=>Oe x wb):=⟨PE.imp (QN ha.p hb.p) λσ H Q ⟨sr,q⟩=>⟨sr,wa.mono (λx q1 u1 H1 g1 s1 v1=>by
 cases v1 with
 | bl k=>
  cases k with
  | true=>exact⟨true,rfl,by rw[if_pos rfl];exact⟨s1,wb.mono (λ_ q u H' g s v=>q u H' (g1.trans g) s v) q1⟩⟩
  | false=>exact⟨false,rfl,by rw[if_neg A2];exact q1 _ H1 g1 s1 (.bl _)⟩
 | _=>exact q1.elim) q⟩⟩
def Pp{op}(h:EF X K fs a wa):EF X K fs (.BoolOp op [a] pos) wa:=⟨QJ h.p⟩
def We(ha:EF X K fs a wa):EF X K fs (.UnaryOp .Not a pos) (.bind wa Q3):=⟨PE.imp (QK ha.p) λσ H Q ⟨sr,q⟩=>⟨sr,wa.mono (λx q1 u1 H1 g1 s1 v1=>by
 cases v1 with
 | bl k=>exact⟨_,rfl,q1 _ H1 g1 s1 (.bl _)⟩
 | _=>exact q1.elim) q⟩⟩
variable{ta tb tc:W Bool}
def kO(h:TF X K fs a ta):uC X K fs (.BoolOp .And [a] pos) ta:=⟨Ma h.p⟩
def l9(h:TF X K fs a ta):uC X K fs (.BoolOp .Or [a] pos) ta:=⟨Qz h.p⟩
def n8(ha:TF X K fs a ta)(hb:uC X K fs (.BoolOp .And (b::rest) pos) tb):uC X K fs (.BoolOp .And (a::b::rest) pos) (.bind ta λk=>if k=true then tb else .ret false):=⟨PW.imp (QA ha.p hb.p) λσ H Q ⟨sr,q⟩=>⟨sr,ta.mono (λk q1 H1 g1 s1=>by
 cases k with
 | true=>exact vW ⟨s1,tb.mono (λ_ q H' g s=>q H' (g1.trans g) s) q1⟩
 | false=>exact vX (q1 H1 g1 s1)) q⟩⟩
def qD(ha:TF X K fs a ta)(hb:uC X K fs (.BoolOp .Or (b::rest) pos) tb):uC X K fs (.BoolOp .Or (a::b::rest) pos) (.bind ta λk=>if k=true then .ret true else tb):=⟨PW.imp (UN ha.p hb.p) λσ H Q ⟨sr,q⟩=>⟨sr,ta.mono (λk q1 H1 g1 s1=>by
 cases k with
 | true=>exact vW (q1 H1 g1 s1)
 | false=>exact vX ⟨s1,tb.mono (λ_ q H' g s=>q H' (g1.trans g) s) q1⟩) q⟩⟩
def uC.t(h:uC X K fs a ta):TF X K fs a ta:=⟨PW.pt h.p⟩
def mQ(ha:TF X K fs a ta):TF X K fs (.UnaryOp .Not a pos) (.bind ta λk=>.ret (!k)):=⟨PT.imp (QC ha.p) λσ H Q ⟨sr,q⟩=>⟨sr,q⟩⟩
def Hb(hc:TF X K fs c tc)(ha:EF X K fs a wa)(hb:EF X K fs b wb):EF X K fs (.IfExp c a b pos) (.bind tc λk=>if k=true then wa else wb):=⟨PE.imp (IL hc.p ha.p hb.p) λσ H Q ⟨sr,q⟩=>⟨sr,tc.mono (λk q1 H1 g1 s1=>by
 cases k with
 | true=>exact vW ⟨s1,wa.mono (λ_ q u H' g s v=>q u H' (g1.trans g) s v) q1⟩
 | false=>exact vX ⟨s1,wb.mono (λ_ q u H' g s v=>q u H' (g1.trans g) s v) q1⟩) q⟩⟩
def dq:PV->W Bool
 | .aK=>.ret false
 | .bl b=>.ret b
 | .int i=>.ret (i != 0)
 | .str y=>.eB (y.length<=sizeLine) (.ret ((y.length:Int) != 0))
 | .tup l=>.ret (!l.isEmpty)
 | .cl l=>.ret (!l.isEmpty)
 | _=>.fail
def cF(hK:X.K=K)(ha:EF X K fs a wa)(he:∀Å,isTrue a X.env Å=(do let v <- Å;standAt a.pos;sw [v] (truthy v))):TF X K fs a (.bind wa dq):=⟨PT.imp (qN K hK ha.p he) λσ H Q ⟨sr,q⟩=>⟨sr,wa.mono (λx q1 u1 H1 g1 s1 v1=>by
 cases v1 with
 | aK=>exact⟨false,rfl,q1 H1 g1 s1⟩
 | bl b=>exact⟨b,rfl,q1 H1 g1 s1⟩
 | int i=>exact⟨_,rfl,q1 H1 g1 s1⟩
 | str y=>exact⟨_,⟨q1.1,rfl⟩,q1.2 H1 g1 s1⟩
 | ty _=>exact q1.elim
 | dk _ _ _=>exact q1.elim
 | dt _ _ _=>exact q1.elim
 | ob _ _ _ _ _=>exact q1.elim
 | ref _=>exact q1.elim
 | @tup p vs l e rs=>
  refine⟨!vs.isEmpty,.inr (.inl ⟨_,cS.of e,rfl⟩),?_⟩;rw[<- iT rs];exact q1 H1 g1 s1
 | @cl p vs l e rs=>
  refine⟨!vs.isEmpty,.inl ⟨_,e.sq,rfl⟩,?_⟩;rw[<- iT rs];exact q1 H1 g1 s1) q⟩⟩
def TY(hK:X.K=K)(ha:QF X K fs a wl)(he:∀Å,isTrue a X.env Å=(do let v <- Å;standAt a.pos;sw [v] (truthy v))):TF X K fs a (.bind wl λl=>.ret (!l.isEmpty)):=⟨PT.imp (qN K hK ha.p he) λσ H Q ⟨sr,q⟩=>⟨sr,wl.mono (λl q1 u1 H1 g1 s1 v1=>by
 obtain⟨b,vs,rfl,h,rs⟩:=v1.sq s1;refine⟨!vs.isEmpty,?_,?_⟩
 ·exact h.elim (λh=>.inl ⟨_,h,rfl⟩) λh=>.inr (.inl ⟨_,h,rfl⟩)
 ·rw[<- iT rs];exact q1 H1 g1 s1) q⟩⟩
variable{R:Type}{ks:O AK}{B:(O PV->W R)->W R}
def aw:AF X K fs [] [] (R:=R) (λk=>k []):=⟨.ret [],PA.imp cA λσ H Q ⟨sr,q⟩=>q [] H .refl sr .nil,λk=>rfl⟩
def aq(ha:EF X K fs e w)(hr:AF X K fs es ks B)(hs:fX X e es:=by rfl):AF X K fs (e::es) (.v::ks) (λk=>.bind w λx=>B λl=>k (x::l)):=by
 obtain⟨wr,hp,hB⟩:=hr.p;refine⟨.bind w λx=>.bind wr λl=>.ret (x::l),PA.imp (a8 ha.p hp hs) λσ H Q ⟨sr,q⟩=>?_,λk=>?_⟩
 ·exact⟨sr,w.mono (λx q1 u1 H1 g1 s1 v1=>⟨s1,wr.mono (λl q2 vs H2 g2 s2 v2=>q2 _ H2 (g1.trans g2) s2 (.v (g2.vr s1 v1) v2)) q1⟩) q⟩
 ·have:(λx=>B λl=>k (x::l))=λx=>am wr λl=>k (x::l):=funext λx=>hB _;rw[this];rfl
def dm(i:Nat)(hr:AF X K fs es ks B)(hs:fs[i]?=some (some (.j9 φ)):=by rfl)(hN:X.N[i]?=some x:=by rfl)(hv:uL X.env.scope x:=by first | exact Cy rfl | exact B9 (Cy rfl) | exact B9 (B9 rfl))(hd:iG x:=by decide)(gB:w5 x:=by decide)
  (vY:ga (.Name x pos::es) X.env=(false,kt (.Name x pos) X.env)::ga es X.env:=by rfl):AF X K fs (.Name x pos::es) (.p φ::ks) B:=by
 obtain⟨wr,hp,hB⟩:=hr.p;refine⟨wr,PA.imp (a8 (cL hN hv hd gB) hp vY) λσ H Q ⟨sr,q⟩=>?_,hB⟩;obtain⟨u,e1,r⟩:=sr.at' i _ hs;rcases r with⟨v,e,_⟩ | ⟨a,e,r⟩
 ·cases e
 ·subst e;exact⟨_,e1,sr,wr.mono (λl q2 vs H2 g2 s2 v2=>q2 _ H2 g2 s2 (.p ⟨i,hs,e1⟩ v2)) q⟩
theorem d6.Hz:∀{vs:O V}{n:Nat}{l:O PV},d6 K σ fs H vs (Ak n .v) l->az K [] H vs l/\l.length=n
 | _,0,_,.nil=>⟨.nil,rfl⟩
 | _,n+1,_,.v r t=>⟨.cons r (d6.Hz t).1,by rw[Au,(d6.Hz t).2]⟩
def Wa{x1}{B:(O PV->W PV)->W PV}(h:AF X K fs es (Ak n .v) B)(hn:n<=1000:=by decide):EF X K fs (.Tuple es x1 pos) (B λl=>.ret (.tup l)):=by
 obtain⟨w,hp,hB⟩:=h.p;rw[hB];refine⟨PE.imp (Mm hp) λσ H Q ⟨sr,q⟩=>⟨sr,w.mono (λl q1 vs H1 g1 s1 v1=>?_) q⟩⟩;obtain⟨v2,hl⟩:=v1.Hz;refine⟨by rw[v2.length,hl];exact br hn,λp H2 s2 e2 n2=>?_⟩;exact q1 _ H2 (g1.trans (cp.same s2)) (s1.same s2) (.tup e2 (az.tk s2.cU v2))
def O0{B:(O PV->W (O PV))->W (O PV)}(h:AF X K fs es (Ak n .v) B)(hn:n<=1000:=by decide):LF X K fs (.List es pos) (B λl=>.ret l):=by
 obtain⟨w,hp,hB⟩:=h.p;rw[hB];refine⟨PE.imp (Mn hp) λσ H Q ⟨sr,q⟩=>⟨sr,w.mono (λl q1 vs H1 g1 s1 v1=>?_) q⟩⟩;obtain⟨v2,hl⟩:=v1.Hz;refine⟨by rw[v2.length,hl];exact br hn,λp H2 s2 e2 n2=>?_⟩;exact q1 _ _ H2 (g1.trans (cp.same s2)) (s1.same s2) (g1.there p n2) e2 (az.tk s2.cU v2)
end
end
end FL
namespace L2
def Inv.zU{σ:St}(I:Inv X Z σ H s)(e:H a=some (.lst vs)):∃o,Inv X Z σ (upd H a (.bQ o (.lst vs))) s:=by
 obtain⟨z,aj,n,r,h1⟩:=(show aR X.prog X.w H s.heap a (.lst vs) from I.aY a _ e);exact⟨_,I.write (x:=a) (e:=a) (o:=.bQ _ (.lst vs)) (h':=s.heap) (t':=s.toks) (by rw[e];exact BK) (.inl rfl) (λb u _ z=>z) ⟨_,h1⟩ ⟨h1,z,aj,n,r,h1⟩⟩
def Inv.zV{σ:St}{kvs:O (Key×V)}(I:Inv X Z σ H s)(e:H a=some (.dK kvs)):∃o,Inv X Z σ (upd H a (.bQ o (.dK kvs))) s:=by
 obtain⟨z,hs,vs,r,o,es,ep,h1,h2⟩:=(show aR X.prog X.w H s.heap a (.dK kvs) from I.aY a _ e);exact⟨o,I.write (x:=a) (e:=a) (o:=.bQ o (.dK kvs)) (h':=s.heap) (t':=s.toks) (by rw[e];exact BK) (.inl rfl) (λb u _ z=>z) ⟨o,h1⟩ ⟨h1,z,hs,vs,r,o,es,ep,h1,h2⟩⟩
end L2
variable{t:FL.SL}{ks:O FL.AK}{B:(O PL.PV->FL.W PL.PV)->FL.W PL.PV}{q0:Option BA}
namespace FL
section
variable[cG]
variable{K:Ab}
section
def nG(o':HO)(e:H a=some (.lst vs)):aW K H (upd H a o'):=⟨λb ws q=>by rw[ar (zB q e (by intro z;cases z))];exact q,λb o u q=>by rw[ar (zB q e (by intro z;cases z))];exact q⟩
def N2(kvs:O (Key×PV)):PV:=.dv (kvs.map λkv=>kP kv.1) (kvs.map (·.2))
def Kr(kvs:O (O Key×PV)):PV:=.dv (kvs.map λkv=>.tup (kv.1.map kP)) (kvs.map (·.2))
def eS{oh:HO}(o':HO)(e:H a=some oh)(n1:∀vs,oh≠.tup vs)(n2:∀o u,oh≠.bQ o u):aW K H (upd H a o'):=⟨λb ws q=>by rw[ar (λz=>by subst z;rw[e]at q;cases q;exact n1 _ rfl)];exact q,λb o u q=>by rw[ar (λz=>by subst z;rw[e]at q;cases q;exact n2 _ _ rfl)];exact q⟩
def O5{vs:O (O Key×V)}{kvs:O (O Key×PV)}(h:vs.map (·.1)=kvs.map (·.1)):(kvs.map λkv=>PV.tup (kv.1.map kP))=vs.map λkv=>PV.tup (kv.1.map kP):=by
 have:=congrArg (Ey λk:O Key=>PV.tup (k.map kP)) h;rw[AM,AM]at this;exact this.symm
def O6{vs:O (Key×V)}{kvs:O (Key×PV)}(h:vs.map (·.1)=kvs.map (·.1)):(kvs.map λkv=>kP kv.1)=vs.map λkv=>kP kv.1:=by
 have:=congrArg (Ey kP) h;rw[AM,AM]at this;exact this.symm
def SL.bw:SL->Bool
 | .ol _ _=>true
 | .od _=>true
 | .ot _=>true
 | _=>false
def SL.bv:SL->PV
 | .ol _ l=>.cl l
 | .od kvs=>N2 kvs
 | .ot kvs=>Kr kvs
 | _=>.aK
def SL.KN(h:t.bw=true):t.own=true:=by cases t <;> first | rfl | cases h
def VS(I:Inv X Z σ' H s)(oa:iC K H a t)(hb:t.bw=true):∃ob o,H a=some o/\(∀vs,o≠.tup vs)/\(∀ob u,o≠.bQ ob u)/\Inv X Z σ' (upd H a (.bQ ob o)) s/\VR K [] (upd H a (.bQ ob o)) (.ref a) t.bv:=by
 cases t with
 | ol q l=>
  obtain⟨_,vs,e,r⟩:=oa;obtain⟨ob,I2⟩:=I.zU e;exact⟨ob,_,e,by simp,by simp,I2,.cl (.inl ⟨ob,aE⟩) (az.tk (eS _ e (by simp) (by simp)) r)⟩
 | od l=>
  obtain⟨vs,e,k,r⟩:=oa;obtain⟨ob,I2⟩:=I.zV e;exact⟨ob,_,e,by simp,by simp,I2,.dk aE (O6 k) (az.tk (eS _ e (by simp) (by simp)) r)⟩
 | ot l=>
  obtain⟨vs,e,k,r⟩:=oa;obtain⟨ob,I2⟩:=I.freeze e;exact⟨ob,_,e,by simp,by simp,I2,.dt aE (O5 k) (az.tk (eS _ e (by simp) (by simp)) r)⟩
 | _=>cases hb
def aM.VQ{o u:HO}(sr:aM K H σ fs)(hs:fs[i]?=some (some t))(ho:t.own=true)(e1:σ[i]?=some (some (.ref a)))(h1:H a=some o)(n1:∀vs,o≠.tup vs)(n2:∀ob u,o≠.bQ ob u)(vr:VR K [] (upd H a u) (.ref a) v):aM K (upd H a u) σ (fs.set i (some (.val v))):=by
 have nt:o.nt=true:=by
  obtain⟨o',z1,_,_,z2⟩:=(sr.ownAt hs ho e1).ex ho (.inl rfl);rw[h1]at z1;cases z1;exact OQ z2
 refine⟨by simp[sr.len],λj t' z=>?_,λj k t' u b1 b2 b z1 z2 o1 o2=>?_,sr.tb.zl (λb o n z=>by rw[ar n];exact z) h1 nt n2⟩
 ·rcases bV z with⟨rfl,rfl⟩ | ⟨n,z⟩
  ·exact⟨_,e1,.inl ⟨_,rfl,vr⟩⟩
  ·obtain⟨u,k1,k2⟩:=sr.at' j t' z;exact⟨u,k1,k2.mono (eS _ h1 n1 n2) (λx b o eb ow hb zz _=>by
    subst eb;rw[ar (λy=>by subst y;exact n (sr.nd j i t' _ x b b z hs ow ho k1 e1 hb (.inl rfl)))];exact zz)⟩
 ·rcases bV z1 with⟨rfl,rfl⟩ | ⟨n1,z1⟩
  ·cases o1
  ·rcases bV z2 with⟨rfl,rfl⟩ | ⟨n2,z2⟩
   ·cases o2
   ·exact sr.nd j k t' u b1 b2 b z1 z2 o1 o2
def aM.side(s:aM K H σ fs)(n:¬cn σ fs a)(e:H a=some (.lst vs))(o':HO):aM K (upd H a o') σ fs:=⟨s.len,λi t q=>by
 obtain⟨u,h1,h2⟩:=s.at' i t q;exact⟨u,h1,h2.mono (nG o' e) (λx b o eb ow hb z _=>by subst eb;rw[ar (λy:b=a=>n ⟨i,t,x,q,ow,h1,y▸hb⟩)];exact z)⟩,s.nd,s.tb.zl (λb o n z=>by rw[ar n];exact z) e rfl (by simp)⟩
def cp.side(g:cp σ fs H H1)(h0:H a=bd)(o':HO):cp σ fs H (upd H1 a o'):=⟨λb o e n t=>by rw[ar (bb e h0)];exact g.keep b o e n t,λb e=>by
 by_cases c:b=a
 ·subst c;exact h0
 ·rw[ar c]at e;exact g.there b e⟩
end
section
variable{a:im}{pos:Pos}{w:W PV}
def FV(h:LF X K fs e wl):EF X K fs e (.bind wl λl=>.ret (.cl l)):=⟨λZ s σ H Q I ⟨sr,q⟩=>by
 refine bh (h.p Z s σ H (λu H1=>∃a vs l,u=.ref a/\cp σ fs H H1/\aM K H1 σ fs/\H a=bd/\H1 a=some (.lst vs)/\az K [] H1 vs l/\∀u H',cp σ fs H H'->aM K H' σ fs->VR K [] H' u (.cl l)->Q u H') I ⟨sr,wl.mono (λl q1 a vs H1 g1 s1 n e v=>⟨a,vs,l,rfl,g1,s1,n,e,v,q1⟩) q⟩) λu s1 ⟨v,H1,I1,r1,a,vs,l,e,g1,Uu,n,ea,vr,q1⟩=>?_;subst e;obtain⟨ob,I2⟩:=I1.zU ea;exact⟨.ref a,_,I2,r1,q1 _ _ (g1.side n _) (Uu.side (λz=>sr.noOwn n z) ea _) (.cl (.inl ⟨ob,aE⟩) (az.tk (nG _ ea) vr))⟩⟩
def aB:PV->W (O PV)
 | .tup l=>.ret l
 | .cl l=>.ret l
 | _=>.fail
def bB(h:EF X K fs e w):IF X K fs e (.bind w aB):=⟨PE.imp h.p λσ H Q ⟨sr,q⟩=>⟨sr,w.mono (λx q1 u1 H1 g1 s1 v1=>by
 cases v1 with
 | tup e r=>exact q1 _ H1 g1 s1 ⟨_,_,rfl,.inr e,r⟩
 | cl e r=>exact q1 _ H1 g1 s1 ⟨_,_,rfl,.inl e,r⟩
 | _=>exact q1.elim) q⟩⟩
def zM(h:LF X K fs e wl):IF X K fs e wl:=bB (FV h)
theorem IF.q(h:IF X K fs e wl):QF X K fs e wl:=⟨PE.imp h.p λσ H Q ⟨sr,q⟩=>⟨sr,wl.mono (λl q1 u1 H1 g1 s1 v1=>q1 u1 H1 g1 s1 (.inl v1)) q⟩⟩
def aF(h:EF X K fs e w):QF X K fs e (.bind w aB):=(bB h).q
def f9(h:LF X K fs e wl):QF X K fs e wl:=⟨PE.imp h.p λσ H Q ⟨sr,q⟩=>⟨sr,wl.mono (λl q1 a vs H1 g1 s1 n e v=>q1 _ H1 g1 s1 (.inr ⟨a,rfl,.inl ⟨sr.noOwn n,vs,e,v⟩⟩)) q⟩⟩
def cf(i:Nat)(hs:fs[i]?=some (some (.ol q0 l)):=by rfl)(hN:X.N[i]?=some x:=by rfl)(hv:uL X.env.scope x:=by first | exact Cy rfl | exact B9 (Cy rfl) | exact B9 (B9 rfl))(hd:iG x:=by decide)(gB:w5 x:=by decide):QF X K fs (.Name x pos) (.ret l):=
 ⟨PE.imp (cL hN hv hd gB) λσ H Q ⟨sr,q⟩=>by
  obtain⟨u,e1,r⟩:=sr.at' i _ hs;rcases r with⟨w,e,r⟩ | ⟨a,e,r⟩
  ·cases e
  ·subst e;exact⟨_,e1,q _ H .refl sr (.inr ⟨a,rfl,.inr ⟨i,q0,hs,e1⟩⟩)⟩⟩
def zI(l:O PV):PV->W PV
 | .int i=>.Lf (df l i)
 | _=>.fail
def aP(hK:X.K=K)(ha:QF X K fs a wl)(hb:EF X K fs b wb)(hs:uE b:=by exact λ_ _=>rfl):EF X K fs (.Subscript a b pos) (.bind wl λl=>.bind wb λy=>zI l y):=⟨PE.imp (OO (Ni K hK) ha.p hb.p hs) λσ H Q ⟨sr,q⟩=>⟨sr,wl.mono (λl q1 u1 H1 g1 s1 v1=>⟨s1,wb.mono (λy q2 u2 H2 g2 s2 v2=>by
 cases v2 with
 | int i=>
  have q2:(W.Lf (df l i)).run _:=q2;cases z:df l i with
  | none=>rw[z]at q2;exact q2.elim
  | some x=>
   rw[z]at q2;obtain⟨ad,vs,rfl,h,rs⟩:=(v1.go s1 g2).sq s2;obtain⟨v,e1,e2⟩:=az.df rs z;have q3:=q2 v H2 (g1.trans g2) s2 e2;exact h.elim (λh=>.inl ⟨ad,vs,i,v,rfl,rfl,h,e1,q3⟩) λh=>.inr (.inl ⟨ad,vs,i,v,rfl,rfl,h,e1,q3⟩)
 | _=>exact q2.elim) q1⟩) q⟩⟩
def Wi(ha:EF X K fs a wa)(hb:EF X K fs b wb)(hs:uE b):EF X K fs (.Subscript a b pos) (.bind wa λx=>.bind wb λy=>of2 Je x y):=⟨PE.imp (OO JD ha.p hb.p hs) (zY MM)⟩
def pX(m:rF)(l:O PV):W PV:=⟨λQ=>m.f l [] λz h=>h=[]/\Q z,λf q=>m.mono (λ_ _ q=>⟨q.1,f _ q.2⟩) q⟩
section
variable{id:String}{r:O V->Hp->VK->Prop}
def Jb{m:rF}(hm:rF.Ok K r m){Q:VK}{us:O V}(sr:aM K H σ fs)(hu:az K [] H us l)(q:(pX m l).run λz=>∀u H',cp σ fs H H'->aM K H' σ fs->VR K [] H' u z->Q u H'):r us H Q:=hm (hr0 H) hu (m.mono (λz h q=>pq0 sr q) q)
def nU{m:rF}(hc:bt X (.builtin id) r)(hB:rF.Ok K r m)(hg:Gl X x)(hm:X.mg x=bd)(hv:pc x=some (.builtin id))(ha:AF X K fs (e::es) (Ak n .v) B)(hn:x≠"__name__":=by decide)(lA:iG x:=by decide)
  (he:fX X e es:=by rfl) (cI:kJ X pos es:=by rfl):EF X K fs (.Call (.Name x p) (e::es) [] pos) (B (pX m)):=by
 obtain⟨w,hp,Zz⟩:=ha.p;rw[Zz];exact⟨PE.imp (eW hc hg hm hv hp hn lA he cI) λσ H Q ⟨sr,q⟩=>⟨sr,w.mono (λl q1 vs H1 g1 s1 v1=>Jb hB s1 v1.Hz.1 ((pX m l).mono (λz q u H' g s v=>q u H' (g1.trans g) s v) q1)) q⟩⟩
def Ko{m:rF}(hc:bt X (.type id) r)(hB:rF.Ok K r m)(hg:Gl X x)(hm:X.mg x=bd)(hv:pc x=some (.type id))(ha:AF X K fs (e::es) (Ak n .v) B)(hn:x≠"__name__":=by decide)(lA:iG x:=by decide)
  (he:fX X e es:=by rfl) (cI:kJ X pos es:=by rfl):EF X K fs (.Call (.Name x p) (e::es) [] pos) (B (pX m)):=by
 obtain⟨w,hp,Zz⟩:=ha.p;rw[Zz];exact⟨PE.imp (jk hc hg hm hv hp hn lA he cI) λσ H Q ⟨sr,q⟩=>⟨sr,w.mono (λl q1 vs H1 g1 s1 v1=>Jb hB s1 v1.Hz.1 ((pX m l).mono (λz q u H' g s v=>q u H' (g1.trans g) s v) q1)) q⟩⟩
def CQ(K:Ab)(r:O V->Hp->VK->Prop)(m:O PV->W PV):Prop:=∀{fs:bf}{σ:L2.St}{H:Hp}{Q:VK}{u:V}{l:O PV},aM K H σ fs->Oj K σ fs H u l->((m l).run λz=>∀u H',cp σ fs H H'->aM K H' σ fs->VR K [] H' u z->Q u H')->r [u] H Q
def CL(K:Ab)(r:O V->Hp->VK->Prop)(m:O PV->W (O PV)):Prop:=∀{fs:bf}{σ:L2.St}{H:Hp}{Q:VK}{u:V}{l:O PV},aM K H σ fs->Oj K σ fs H u l->((m l).run λz=>∀a vs H',cp σ fs H H'->aM K H' σ fs->H a=bd->H' a=some (.lst vs)->az K [] H' vs z->Q (.ref a) H')->r [u] H Q
def Kp{m:O PV->W PV}(hc:bt X (.builtin id) r)(hB:CQ K r m)(hg:Gl X x)(hm:X.mg x=bd)(hv:pc x=some (.builtin id))(ha:QF X K fs e wl)(hn:x≠"__name__":=by decide)(lA:iG x:=by decide)
  (he:fX X e []:=by rfl) (cI:kJ X pos []:=by rfl):EF X K fs (.Call (.Name x p) [e] [] pos) (.bind wl m):=⟨PE.imp (eW hc hg hm hv (a8 ha.p cA he) hn lA he cI) λσ H Q ⟨sr,q⟩=>⟨sr,wl.mono (λl q1 u H1 g1 s1 v1=>hB s1 v1 ((m l).mono (λz q u H' g s v=>q u H' (g1.trans g) s v) q1)) q⟩⟩
def Hc{m:O PV->W PV}(hc:bt X (.type id) r)(hB:CQ K r m)(hg:Gl X x)(hm:X.mg x=bd)(hv:pc x=some (.type id))(ha:QF X K fs e wl)(hn:x≠"__name__":=by decide)(lA:iG x:=by decide)
  (he:fX X e []:=by rfl) (cI:kJ X pos []:=by rfl):EF X K fs (.Call (.Name x p) [e] [] pos) (.bind wl m):=⟨PE.imp (jk hc hg hm hv (a8 ha.p cA he) hn lA he cI) λσ H Q ⟨sr,q⟩=>⟨sr,wl.mono (λl q1 u H1 g1 s1 v1=>hB s1 v1 ((m l).mono (λz q u H' g s v=>q u H' (g1.trans g) s v) q1)) q⟩⟩
def Xf{m:O PV->W (O PV)}(hc:bt X (.builtin id) r)(hB:CL K r m)(hg:Gl X x)(hm:X.mg x=bd)(hv:pc x=some (.builtin id))(ha:QF X K fs e wl)(hn:x≠"__name__":=by decide)(lA:iG x:=by decide)
  (he:fX X e []:=by rfl) (cI:kJ X pos []:=by rfl):LF X K fs (.Call (.Name x p) [e] [] pos) (.bind wl m):=⟨PE.imp (eW hc hg hm hv (a8 ha.p cA he) hn lA he cI) λσ H Q ⟨sr,q⟩=>⟨sr,wl.mono (λl q1 u H1 g1 s1 v1=>hB s1 v1 ((m l).mono (λz q a vs H' g s n e v=>q a vs H' (g1.trans g) s (g1.there a n) e v) q1)) q⟩⟩
def Ju{m:O PV->W (O PV)}(hc:bt X (.type id) r)(hB:CL K r m)(hg:Gl X x)(hm:X.mg x=bd)(hv:pc x=some (.type id))(ha:QF X K fs e wl)(hn:x≠"__name__":=by decide)(lA:iG x:=by decide)
  (he:fX X e []:=by rfl) (cI:kJ X pos []:=by rfl):LF X K fs (.Call (.Name x p) [e] [] pos) (.bind wl m):=⟨PE.imp (jk hc hg hm hv (a8 ha.p cA he) hn lA he cI) λσ H Q ⟨sr,q⟩=>⟨sr,wl.mono (λl q1 u H1 g1 s1 v1=>hB s1 v1 ((m l).mono (λz q a vs H' g s n e v=>q a vs H' (g1.trans g) s (g1.there a n) e v) q1)) q⟩⟩
end
def qc(l:O PV):W PV:=.ret (.int l.length)
def M6(K:Ab):CQ K (Qt K) qc:=λ{fs σ H Q u l} s v q=>by
 obtain⟨a,vs,rfl,h,rs⟩:=v.sq s;refine⟨_,vs.length,rfl,?_,?_⟩
 ·exact h.elim (λh=>.inl ⟨_,h,rfl⟩) λh=>.inr ⟨_,h,rfl⟩
 ·rw[rs.length];exact q _ H .refl s (.int _)
def ma(l:O PV):W PV:=.ret (.tup l)
def LH(K:Ab):CQ K (Iq K) ma:=λ{fs σ H Q u l} s v q=>by
 have fresh:∀{a:ci}{vs:O V},b9 K H a vs->az K [] H vs l->Iq K [.ref a] H Q:=λ{a vs} h rs=>⟨a,vs,rfl,.inl ⟨h,λp H2 s2 e2 n2=>q _ H2 (cp.same s2) (s.same s2) (.tup e2 (az.tk s2.cU rs))⟩⟩;rcases v with⟨a,vs,rfl,h | h,rs⟩ | ⟨a,rfl,⟨n,vs,h,rs⟩ | ⟨i,_,q1,q2⟩⟩
 ·exact fresh h.sq rs
 ·exact⟨a,vs,rfl,.inr ⟨cS.of h,q _ H .refl s (.tup h rs)⟩⟩
 ·exact fresh (b9.of h) rs
 ·obtain⟨_,vs,h,rs⟩:=s.ownAt q1 rfl q2;exact fresh (b9.of h) rs
end
end
end FL
variable{R:Type}
namespace FL
section
variable[cG]
variable{K:Ab}
def uD(vs:O V)(ks:O AK)(φ:O V->Prop)(a:ci):Prop:=∃i:Nat,ks[i]?=some (.p φ)/\vs[i]?=some (.ref a)
structure WM(vs:List V)(ks:List AK)(H H':Hp):Prop where
 keep:∀a o,H a=some o->(∀φ,¬uD vs ks φ a)->(nt:o.nt=true:=by rfl)->H' a=some o
 tb:TB H'
 there:∀a,H' a=bd->H a=bd
 QE:∀a φ,uD vs ks φ a->∃ws,H' a=some (.lst ws)/\φ ws
inductive fY(K:Ab)(H:Hp):List V->List AK->List PV->Prop
 | nil:fY K H [] [] []
 | v {u:V}{x:PV}{vs:List V}{ks:List AK}{l:List PV} (r:VR K [] H u x) (t:fY K H vs ks l):fY K H (u::vs) (.v::ks) (x::l)
 | p {a:ci}{φ:List V->Prop}{ws vs:List V}{ks:List AK}{l:List PV} (e:H a=some (.lst ws)) (r:φ ws) (t:fY K H vs ks l):fY K H (.ref a::vs) (.p φ::ks) l
 | f {a:ci}{us vs:List V}{ps:List PV}{fz:List (ci×Obj)}{ks:List AK}{l:List PV} (r:az K [] H us ps) (z:Ts H fz) (t:fY K H vs ks l):fY K H (.ref a::vs) (.f a us ps fz::ks) l
def HA(K:Ab)(ks:O AK)(m:O PV->W PV):Sp:=λvs H Q _=>TB H/\∃l,fY K H vs ks l/\(m l).run λv=>∀u H',WM vs ks H H'->VR K [] H' u v->Q u H'
def va(K:Ab)(ks:O AK)(m:O PV->W (O PV)):Sp:=λvs H Q _=>TB H/\∃l,fY K H vs ks l/\(m l).run λz=>∀a ws H',WM vs ks H H'->H a=bd->H' a=some (.lst ws)->az K [] H' ws z->Q (.ref a) H'
def w9(R:Type):Nat->Type
 | 0=>W R
 | n+1=>PV->w9 R n
def lZ:(n:Nat)->w9 R n->O PV->W R
 | 0,m,[]=>m
 | n+1,m,x::l=>lZ n (m x) l
 | 0,_,_::_=>.fail
 | _+1,_,[]=>.fail
section
def d6.j9(h:d6 K σ fs H vs ks l)(p:uD vs ks φ a):fK σ fs φ a:=by
 obtain⟨i,e1,e2⟩:=p
 induction h generalizing i with
 | nil=>simp at e1
 | v r t ih=>cases i with | zero=>simp at e1 | succ i=>exact ih i (by simpa using e1) (by simpa using e2)
 | p r t ih=>
  cases i with
  | zero=>simp at e1 e2;subst e1;subst e2;exact r
  | succ i=>exact ih i (by simpa using e1) (by simpa using e2)
 | f r z t ih=>cases i with | zero=>simp at e1 | succ i=>exact ih i (by simpa using e1) (by simpa using e2)
def d6.c(h:d6 K σ fs H vs ks l)(s:aM K H σ fs):fY K H vs ks l:=by
 induction h with
 | nil=>exact .nil
 | v r t ih=>exact .v r ih
 | p r t ih=>
  obtain⟨i,e1,e2⟩:=r;obtain⟨ws,q,x⟩:=s.ownAt e1 rfl e2;exact .p q x ih
 | f r z t ih=>exact .f r z ih
def WM.caller(g:WM vs ks H H')(h:d6 K σ fs H vs ks l)(s:aM K H σ fs):aM K H' σ fs/\cp σ fs H H':=by
 have gf:cp σ fs H H':=⟨λa o e n t=>g.keep a o e (λφ p=>n φ (h.j9 p)) t,g.there⟩;have tk:=gf.cR s;refine⟨⟨s.len,λi t e=>?_,s.nd,g.tb⟩,gf⟩;obtain⟨u,h1,h2⟩:=s.at' i t e;refine⟨u,h1,?_⟩;rcases h2 with⟨v,q,r⟩ | ⟨a,q,r⟩
 ·exact .inl ⟨v,q,VR.tk tk r⟩
 ·subst q;refine .inr ⟨a,rfl,?_⟩;by_cases c:(∃φ,uD vs ks φ a)/\t.own=true
  ·obtain⟨⟨φ,p⟩,ow⟩:=c;obtain⟨j,e1,e2⟩:=h.j9 p;have ij:=s.nd i j t _ a a a e e1 ow rfl h1 e2 (.inl rfl) (.inl rfl);subst ij;rw[e]at e1;cases e1;exact g.QE a φ p
  ·refine r.mono tk (λb o ow hb z nt=>g.keep b o z (λφ p=>?_) nt);obtain⟨j,e1,e2⟩:=h.j9 p;have ij:=s.nd i j t _ a b b e e1 ow rfl h1 e2 hb (.inl rfl);subst ij;rw[h1]at e2;cases e2;exact c ⟨⟨φ,p⟩,ow⟩
end
section
variable{pos:Pos}
def Sf{m:O PV->W PV}(G:Ox X.prog X.w X.K X.mg X.base x k ps (HA K ks m))(hr:d4 k' X.A)(hk:k<=k')(hg:Gl X x)(ha:AF X K fs (e::es) ks B)(lA:iG x:=by decide)
  (he:fX X e es:=by rfl) (cI:kJ X pos es:=by rfl):EF X K fs (.Call (.Name x p) (e::es) [] pos) (B m):=by
 obtain⟨w,hp,hB⟩:=ha.p;rw[hB];exact⟨PE.imp (IQ G hr hk hg hp lA he cI) λσ H Q ⟨sr,q⟩=>⟨sr,w.mono (λl q1 vs H1 g1 s1 v1=>⟨s1.tb,l,v1.c s1,(m l).mono (λz q2 u H2 g2 r2=>let ⟨s2,g3⟩:=g2.caller v1 s1;q2 u H2 (g1.trans g3) s2 r2) q1⟩) q⟩⟩
def Rl{m:O PV->W (O PV)}{B:(O PV->W (O PV))->W (O PV)}(G:Ox X.prog X.w X.K X.mg X.base x k ps (va K ks m))(hr:d4 k' X.A)(hk:k<=k')(hg:Gl X x)(ha:AF X K fs (e::es) ks B)(lA:iG x:=by decide)
  (he:fX X e es:=by rfl) (cI:kJ X pos es:=by rfl):LF X K fs (.Call (.Name x p) (e::es) [] pos) (B m):=by
 obtain⟨w,hp,hB⟩:=ha.p;rw[hB];exact⟨PE.imp (IQ G hr hk hg hp lA he cI) λσ H Q ⟨sr,q⟩=>⟨sr,w.mono (λl q1 vs H1 g1 s1 v1=>⟨s1.tb,l,v1.c s1,(m l).mono (λz q2 a ws H2 g2 n2 e2 r2=>let ⟨s2,g3⟩:=g2.caller v1 s1;q2 a ws H2 (g1.trans g3) s2 (g1.there a n2) e2 r2) q1⟩) q⟩⟩
end
end
end FL
variable{x:Bool}{T:Type}{p':CJ}
namespace FL
section
variable[cG]
variable{K:Ab}
inductive End where
 | nx (fs:bf) | nc (fs:bf) | ct (fs:bf) | rt (v:PV) | rl (l:List PV) | bk (fs:bf) | ro (v:PV) (a:ci) (l:List PV)
def uG(σ:L2.St)(fs:bf)(H:Hp)(a:ci):Prop:=H a=bd\/∃(i:Nat) (s:SL) (x:ci),fs[i]?=some (some s)/\s.own=true/\(∀φ,s≠.j9 φ)/\σ[i]?=some (some (.ref x))/\s.has x a
def bG(K:Ab)(x:Bool)(σ:L2.St)(fs:bf)(H:Hp)(D:Ends):End->Prop
 | .nx bc=>x=false->∀σ' H',bU σ fs H σ' bc H'->aM K H' σ' bc->D.nx σ' H'
 | .nc bc=>∀σ' H',bU σ fs H σ' bc H'->aM K H' σ' bc->(x=false->D.nx σ' H')/\D.ct σ' H'
 | .ct bc=>∀σ' H',bU σ fs H σ' bc H'->aM K H' σ' bc->D.ct σ' H'
 | .bk bc=>∀σ' H',bU σ fs H σ' bc H'->aM K H' σ' bc->D.bk σ' H'
 | .rt v=>∀u σ' bc H',bU σ fs H σ' bc H'->aM K H' σ' bc->VR K [] H' u v->D.rt u H'
 | .ro v a l=>∀u σ' bc H',bU σ fs H σ' bc H'->aM K H' σ' bc->(∃i:Nat,bc[i]?=some (some (.ol (some a) l)))->VR K [] H' u v->D.rt u H'
 | .rl l=>∀a ws σ' bc H',bU σ fs H σ' bc H'->aM K H' σ' bc->uG σ fs H a->H' a=some (.lst ws)->az K [] H' ws l->D.rt (.ref a) H'
def fS(K:Ab)(x:Bool)(fs:bf)(w:W T)(out:T->End):TS:=λD σ H=>aM K H σ fs/\w.run λt=>bG K x σ fs H D (out t)
structure SF(X:Cx)(K:Ab)(x:Bool)(fs:bf)(Qb:List sK){T:Type}(w:W T)(out:T->End):Prop where p:nV X Qb (fS K x fs w out)
section
variable{σ1:L2.St}{J2:bf}
def uG.go(g:bU σ fs H σ1 J2 H1)(s:aM K H σ fs)(s1:aM K H1 σ1 J2)(h:uG σ1 J2 H1 a):uG σ fs H a:=by
 rcases h with h | ⟨i,t,x,e1,e2,np,e3,e4⟩
 ·exact .inl (g.there a h)
 ·cases z:H a with
  | none=>exact .inl z
  | some o=>
   by_cases c:cn σ fs a
   ·obtain⟨j,t',y,c1,c2,c3,c4⟩:=c;by_cases d:∃φ,t'=.j9 φ
    ·obtain⟨φ,rfl⟩:=d;rcases c4 with rfl | c4
     ·rcases g.pk a φ ⟨j,c1,c3⟩ with⟨k,k1,k2⟩ | ⟨n,_⟩
      ·have:=s1.nd i k t _ x a a e1 k1 e2 rfl e3 k2 e4 (.inl rfl);subst this;rw[e1]at k1;cases k1;exact absurd rfl (np φ)
      ·exact absurd ⟨i,t,x,e1,e2,e3,e4⟩ n
     ·cases c4
    ·exact .inr ⟨j,t',y,c1,c2,λφ e=>d ⟨φ,e⟩,c3,c4⟩
   ·exact absurd ⟨i,t,x,e1,e2,e3,e4⟩ (g.keep a o z c).2
def bG.go(g:bU σ fs H σ1 J2 H1)(s:aM K H σ fs)(s1:aM K H1 σ1 J2){E:End}(h:bG K x σ fs H D E):bG K x σ1 J2 H1 D E:=by
 cases E with
 | nx bc=>exact λhx σ' H' g' s'=>h hx σ' H' (g.trans g') s'
 | nc bc=>exact λσ' H' g' s'=>h σ' H' (g.trans g') s'
 | bk bc=>exact λσ' H' g' s'=>h σ' H' (g.trans g') s'
 | ct bc=>exact λσ' H' g' s'=>h σ' H' (g.trans g') s'
 | rt v=>exact λu σ' bc H' g' s' r=>h u σ' bc H' (g.trans g') s' r
 | ro v a l=>exact λu σ' bc H' g' s' o r=>h u σ' bc H' (g.trans g') s' o r
 | rl l=>exact λa ws σ' bc H' g' s' f e r=>h a ws σ' bc H' (g.trans g') s' (f.go g s s1) e r
def bG.exit{D':Ends}(h1:D'.rt=D.rt)(h2:D'.ct=D.ct)(h3:D'.bk=D.bk){E:End}(h:bG K x σ fs H D E):bG K true σ fs H D' E:=by
 cases E with
 | nx bc=>exact λhx=>nomatch hx
 | nc bc=>exact λσ' H' g' s'=>⟨λhx=>(nomatch hx),h2▸(h σ' H' g' s').2⟩
 | bk bc=>exact λσ' H' g' s'=>h3▸h σ' H' g' s'
 | ct bc=>exact λσ' H' g' s'=>h2▸h σ' H' g' s'
 | rt v=>exact λu σ' bc H' g' s' r=>h1▸h u σ' bc H' g' s' r
 | ro v a l=>exact λu σ' bc H' g' s' o r=>h1▸h u σ' bc H' g' s' o r
 | rl l=>exact λa ws σ' bc H' g' s' f e r=>h1▸h a ws σ' bc H' g' s' f e r
end
section
variable{X:Cx}{a b c e o:im}{pos p:Pos}{fs bc:bf}{st:sK}{Qb rest sa sb:O sK}{T T1:Type}{w wk:W T}{out:T->End}{we:W PV}{wl:W (O PV)}{x:Bool}
def End.zK:End->Prop
 | .rt _=>True
 | .rl _=>True
 | .ro _ _ _=>True
 | _=>False
def bG.YE{D':Ends}{y:Bool}{E:End}(ho:E.zK)(e:D'.rt=D.rt)(h:bG K x σ fs H D E):bG K y σ fs H D' E:=by
 cases E with
 | rt v=>exact λu σ' bc H' g s r=>e▸h u σ' bc H' g s r
 | rl v=>exact λa ws σ' bc H' g s f ea r=>e▸h a ws σ' bc H' g s f ea r
 | ro v a l=>exact λu σ' bc H' g s o r=>e▸h u σ' bc H' g s o r
 | _=>exact ho.elim
def uW(X:Cx)(K:Ab)(x:Bool)(rest:O sK){T:Type}(out:T->End):TS:=λD σ H=>∃bc w',SF X K x bc rest w' out/\fS K x bc w' out D σ H
def L1:nV X rest (uW X K x rest out):=λZ s σ H D I ⟨bc,w',h,q⟩=>h.p Z s σ H D I q
def Jk:nV X rest P7:=λ_ _ _ _ _ _ h=>h.elim
def SF.step{t:TS}(h:PS X st t)(hq:∀D σ H,fS K x fs w out D σ H->t {D with nx:=uW X K x rest out D} σ H):SF X K x fs (st::rest) w out:=⟨nV.imp (vi h L1) λD σ H q=>hq D σ H q⟩
def SF.last{t:TS}(h:PS X st t)(hq:∀D σ H,fS K x fs w out D σ H->t {D with nx:=λ_ _=>False} σ H):SF X K x fs (st::rest) w out:=⟨nV.imp (vi h Jk) λD σ H q=>hq D σ H q⟩
def SF.nil{t:T}(h:out t=.nx bc)(hl:fw fs bc):SF X K false fs [] (.ret t) out:=⟨nV.imp se λD σ H ⟨sr,q⟩=>by
 have q:bG K false σ fs H D (out t):=q;rw[h]at q;exact q rfl σ H (bU.le sr hl) (sr.le hl)⟩
def SF.jE{t:T}(h:out t=.nc bc)(hl:fw fs bc):SF X K false fs [] (.ret t) out:=⟨nV.imp se λD σ H ⟨sr,q⟩=>by
 have q:bG K false σ fs H D (out t):=q;rw[h]at q;exact(q σ H (bU.le sr hl) (sr.le hl)).1 rfl⟩
def SF.cont{t:T}(h:out t=.nc bc\/out t=.ct bc)(hl:fw fs bc):SF X K x fs (.Continue pos::rest) (.ret t) out:=SF.last vk λD σ H ⟨sr,q⟩=>by
 have q:bG K x σ fs H D (out t):=q;rcases h with h | h
 ·rw[h]at q;exact(q σ H (bU.le sr hl) (sr.le hl)).2
 ·rw[h]at q;exact q σ H (bU.le sr hl) (sr.le hl)
def SF.ret{k:PV->T}(he:EF X K fs e we)(h:∀v,out (k v)=.rt v):SF X K x fs (.Return (some e) pos::rest) (.bind we λv=>.ret (k v)) out:=SF.last (sh he.p) λD σ H ⟨sr,q⟩=>⟨sr,we.mono (λv q1 u H1 g1 s1 v1=>by
 have q1:bG K x σ fs H D (out (k v)):=q1;rw[h]at q1;exact q1 u σ fs H1 g1.f s1 v1) q⟩
def SF.fP{out:PV->End}(he:EF X K fs e we)(h:∀v,out v=.rt v):SF X K x fs (.Return (some e) pos::rest) we out:=SF.ret (k:=λv=>v) he h
def SF.Yx{k:O PV->T}(he:LF X K fs e wl)(h:∀l,out (k l)=.rl l):SF X K x fs (.Return (some e) pos::rest) (.bind wl λl=>.ret (k l)) out:=SF.last (sh he.p) λD σ H ⟨sr,q⟩=>⟨sr,wl.mono (λl q1 a ws H1 g1 s1 n e v1=>by
 have q1:bG K x σ fs H D (out (k l)):=q1;rw[h]at q1;exact q1 a ws σ fs H1 g1.f s1 (.inl n) e v1) q⟩
def SF.qK{out:O PV->End}(he:LF X K fs e wl)(h:∀v,out v=.rl v):SF X K x fs (.Return (some e) pos::rest) wl out:=SF.Yx (k:=λv=>v) he h
def SF.Qn(i:Nat){t:T}(hs:fs[i]?=some (some (.ol q0 l)))(h:out t=.rl l)(hN:X.N[i]?=some y:=by rfl)(hv:uL X.env.scope y:=by first | exact Cy rfl | exact B9 (Cy rfl) | exact B9 (B9 rfl))(hd:iG y:=by decide)(gB:w5 y:=by decide):SF X K x fs (.Return (some (.Name y p)) pos::rest) (.ret t) out:=SF.last (sh (cL hN hv hd gB)) λD σ H ⟨sr,q⟩=>by
 have q:bG K x σ fs H D (out t):=q;rw[h]at q;obtain⟨u,e1,r⟩:=sr.at' i _ hs;rcases r with⟨v,e,_⟩ | ⟨a,e,r⟩
 ·cases e
 ·subst e;obtain⟨_,ws,q1,q2⟩:=r;exact⟨_,e1,q a ws σ fs H .refl sr (.inr ⟨i,_,_,hs,rfl,by simp,e1,.inl rfl⟩) q1 q2⟩
def SF.Ux(i:Nat){ad:ci}{k:PV->T}(hs:fs[i]?=some (some (.ol (some ad) l)))(he:EF X K fs e we)(h:∀v,out (k v)=.ro v ad l):SF X K x fs (.Return (some e) pos::rest) (.bind we λv=>.ret (k v)) out:=SF.last (sh he.p) λD σ H ⟨sr,q⟩=>⟨sr,we.mono (λv q1 u H1 g1 s1 v1=>by
 have q1:bG K x σ fs H D (out (k v)):=q1;rw[h]at q1;exact q1 u σ fs H1 g1.f s1 ⟨i,hs⟩ v1) q⟩
def SF.expr{k:PV->W T}(he:EF X K fs e we)(hr:∀v,SF X K x fs rest (k v) out)(hs:lm e bd pos.line X.env=pure false:=by rfl):SF X K x fs (.Expr e pos::rest) (.bind we k) out:=SF.step (nJ he.p hs) λD σ H ⟨sr,q⟩=>
 ⟨sr,we.mono (λv q1 u H1 g1 s1 v1=>⟨fs,k v,hr v,s1,(k v).mono (λt q2=>q2.go g1.f sr s1) q1⟩) q⟩
def SF.set{k:PV->W T}(hN:X.N.Nodup)(hi:X.N[i]?=some y)(hx:Loc X.env.scope y)(he:EF X K fs e we)(hr:∀v,SF X K x (fs.set i (some (.val v))) rest (k v) out)(hs:lm e (some (.Name y p')) pos.line X.env=pure false:=by rfl)
  (hf:K6 X y:=by first | exact .inl rfl | exact .inr rfl | assumption):SF X K x fs (.Assign [.Name y p'] e pos::rest) (.bind we k) out:=SF.step (sf hN hi hx he.p hs hf) λD σ H ⟨sr,q⟩=>
 ⟨sr,we.mono (λv q1 u H1 g1 s1 v1=>⟨_,k v,hr v,s1.fm v1 i,(k v).mono (λt q2=>q2.go (g1.f.trans (bU.fm s1 u v i)) sr (s1.fm v1 i)) q1⟩) q⟩
def SF.Ys{k:O PV->W T}(hN:X.N.Nodup)(hi:X.N[i]?=some y)(hx:Loc X.env.scope y)(he:LF X K fs e wl)(hr:∀l,SF X K x (fs.set i (some (.ol bd l))) rest (k l) out)(hs:lm e (some (.Name y p')) pos.line X.env=pure false:=by rfl)
  (hf:K6 X y:=by first | exact .inl rfl | exact .inr rfl | assumption):SF X K x fs (.Assign [.Name y p'] e pos::rest) (.bind wl k) out:=SF.step (sf hN hi hx he.p hs hf) λD σ H ⟨sr,q⟩=>by
 refine⟨sr,wl.mono (λl q1 a ws H1 g1 s1 n e v1=>?_) q⟩;have no:=sr.noOwn n;have s2:=s1.sd (t:=.ol bd l) ⟨by simp,ws,e,v1⟩ no i;exact⟨_,k l,hr l,s2,(k l).mono (λt q2=>q2.go (bU.sd s1 g1.f no n i) sr s2) q1⟩
def SF.bQ(i:Nat){t:SL}(hs:fs[i]?=some (some t))(hr:SF X K x (fs.set i (some (.val t.bv))) Qb w out)(hb:t.bw=true:=by rfl):SF X K x fs Qb w out:=⟨λZ s σ H D I ⟨sr,q⟩=>by
 obtain⟨u,e1,r⟩:=sr.at' i _ hs;have ho:=SL.KN hb;rcases r with⟨v,e,_⟩ | ⟨a,e,oa⟩
 ·subst e;cases hb
 ·subst e;obtain⟨ob,o,h1,n1,n2,I2,vr⟩:=VS I oa hb;have ow:∀b,cn σ (fs.set i (some (.val t.bv))) b->cn σ fs b:=λb z=>by
   obtain⟨j,t,x,z1,z2,z3,z4⟩:=z;rcases bV z1 with⟨rfl,rfl⟩ | ⟨n,z1⟩
   ·cases z2
   ·exact⟨j,t,x,z1,z2,z3,z4⟩
  have s2:=sr.VQ hs ho e1 h1 n1 n2 vr;have g2:bU σ fs H σ (fs.set i (some (.val t.bv))) (upd H a (.bQ ob o)):=by
   refine⟨λb o z n=>⟨?_,λy=>n (ow b y)⟩,λb z=>?_,λb φ z=>?_⟩
   ·intro _;rw[ar (λy=>by subst y;exact n ⟨i,_,_,hs,ho,e1,.inl rfl⟩)];exact z
   ·by_cases c:b=a
    ·subst c;rw[aE]at z;cases z
    ·rw[ar c]at z;exact z
   ·obtain⟨j,z1,z2⟩:=z;have:j≠i:=λy=>by subst y;rw[hs]at z1;cases z1;cases hb
    exact .inl ⟨j,by rw[aG this];exact z1,z2⟩
  exact hr.p Z s σ _ D I2 ⟨s2,w.mono (λt q3=>q3.go g2 sr s2) q⟩⟩
variable{tc:W Bool}
def SF.Xh(hc:TF X K fs c tc)(ha:SF X K x fs sa w out)(hb:SF X K x fs sb wk out):SF X K x fs [.If c sa sb pos] (.bind tc λb=>if b=true then w else wk) out:=⟨nV.imp (Mb (IC hc.p ha.p hb.p)) λD σ H ⟨sr,q⟩=>⟨sr,tc.mono (λk q1 H1 g1 s1=>by
 cases k with
 | true=>exact vW ⟨s1,w.mono (λt q2=>q2.go g1.f sr s1) q1⟩
 | false=>exact vX ⟨s1,wk.mono (λt q2=>q2.go g1.f sr s1) q1⟩) q⟩⟩
def SF.Nu(hc:TF X K fs c tc)(ha:SF X K true fs sa w out)(hb:SF X K x fs rest wk out):SF X K x fs (.If c sa [] pos::rest) (.bind tc λb=>if b=true then w else wk) out:=SF.step (IC hc.p ha.p se) λD σ H ⟨sr,q⟩=>⟨sr,tc.mono (λk q1 H1 g1 s1=>by
 cases k with
 | true=>exact vW ⟨s1,w.mono (λt q2=>bG.exit (D:=D) (D':={D with nx:=uW X K x rest out D}) rfl rfl rfl (q2.go g1.f sr s1)) q1⟩
 | false=>exact vX ⟨fs,wk,hb,s1,wk.mono (λt q2=>q2.go g1.f sr s1) q1⟩) q⟩
def SO(X:Cx)(K:Ab)(x:Bool)(rest:O sK){T:Type}(w:W T)(out:T->End):End->Prop
 | .nx bc=>SF X K x bc rest w out
 | .nc bc=>False
 | .bk bc=>∃t,w=.ret t/\out t=.bk bc
 | .ct bc=>∃t,w=.ret t/\(out t=.ct bc\/out t=.nc bc)
 | .rt v=>∃t,w=.ret t/\out t=.rt v
 | .rl l=>∃t,w=.ret t/\out t=.rl l
 | .ro v a l=>∃t,w=.ret t/\out t=.ro v a l
def SO.r{E:End}(sr:aM K H σ fs)(h:SO X K x rest w out E)(q:w.run λt=>bG K x σ fs H D (out t)):bG K false σ fs H {D with nx:=uW X K x rest out D} E:=by
 cases E with
 | nx bc=>exact λ_ σ' H' g' s'=>⟨bc,w,h,s',w.mono (λt q2=>q2.go g' sr s') q⟩
 | nc bc=>exact h.elim
 | bk bc=>
  obtain⟨t,rfl,h⟩:=h;have q:bG K x σ fs H D (out t):=q;rw[h]at q;exact q
 | ct bc=>
  obtain⟨t,rfl,h⟩:=h;have q:bG K x σ fs H D (out t):=q;rcases h with h | h
  ·rw[h]at q;exact q
  ·rw[h]at q;exact λσ' H' g s=>(q σ' H' g s).2
 | rt v=>
  obtain⟨t,rfl,h⟩:=h;have q:bG K x σ fs H D (out t):=q;rw[h]at q;exact q
 | rl v=>
  obtain⟨t,rfl,h⟩:=h;have q:bG K x σ fs H D (out t):=q;rw[h]at q;exact q
 | ro v a l=>
  obtain⟨t,rfl,h⟩:=h;have q:bG K x σ fs H D (out t):=q;rw[h]at q;exact q
variable{w1 w2:W T1}{out1:T1->End}{k:T1->W T}
def SF.YW(hc:TF X K fs c tc)(ha:SF X K false fs sa w1 out1)(hb:SF X K false fs sb w2 out1)(hr:∀t,SO X K x rest (k t) out (out1 t)):SF X K x fs (.If c sa sb pos::rest) (.bind tc λb=>.bind (if b=true then w1 else w2) k) out:=SF.step (IC hc.p ha.p hb.p) λD σ H ⟨sr,q⟩=>⟨sr,tc.mono (λb q1 H1 g1 s1=>by
 have Á:∀t,(k t).run (λt=>bG K x σ fs H D (out t))->bG K false σ fs H {D with nx:=uW X K x rest out D} (out1 t):=λt q=>(hr t).r sr q;cases b with
 | true=>exact vW ⟨s1,w1.mono (λt q2=>(Á t q2).go g1.f sr s1) q1⟩
 | false=>exact vX ⟨s1,w2.mono (λt q2=>(Á t q2).go g1.f sr s1) q1⟩) q⟩
end
end
end FL
variable{is:O Nat}
namespace FL
section
variable[cG]
variable{K:Ab}
def JF(K:Ab)(H:Hp)(J:It)(l:O PV):Prop:=l.length<=sizeLine/\∀H',aW K H H'->(∀(i:Nat) (p:PV),l[i]?=some p->J.go i H'/\∀x H2,J.OA i H' x H2->iu H' H2/\VR K [] H2 x p)/\J.stop l.length H'
def JF.tk{J:It}(t:aW K H H')(h:JF K H J l):JF K H' J l:=⟨h.1,λH2 t2=>h.2 H2 (aW.trans t t2)⟩
def fIt(K:Ab)(fs:bf)(w:W (O PV)):TI:=λσ H R=>aM K H σ fs/\w.run λl=>∀J H',cp σ fs H H'->aM K H' σ fs->JF K H' J l->R J H'
structure nW(X:Cx)(K:Ab)(fs:bf)(tg e:im)(w:W (List PV)):Prop where p:PI X tg e (fIt K fs w)
section
variable{a c:im}{pos:Pos}
def Oq{ad:ci}(h:Ou K H ad vs)(r:az K [] H vs l)(hz:l.length<=sizeLine):JF K H (Itl K ad) l:=⟨hz,λH' t=>by
 have e1:=(t.f _ _ h).sq;have e2:=az.tk t r;refine⟨λi p hp=>?_,vs,e1,by rw[e2.length];exact Ao _⟩;obtain⟨v,h3,h4⟩:=e2.get hp;refine⟨⟨vs,v,e1,h3⟩,λx H3 y=>?_⟩;obtain⟨rfl,y⟩:=y;have:=y vs e1;rw[h3]at this;cases this;exact⟨iu.refl _,h4⟩⟩
def SM{ad:ci}(h:H ad=some (.tup vs))(r:az K [] H vs l)(hz:l.length<=sizeLine):JF K H (Itt K ad) l:=⟨hz,λH' t=>by
 have e1:=cS.of (K:=K) (t.t _ _ h);have e2:=az.tk t r;refine⟨λi p hp=>?_,vs,e1,by rw[e2.length];exact Ao _⟩;obtain⟨v,h3,h4⟩:=e2.get hp;refine⟨⟨vs,v,e1,h3⟩,λx H3 y=>?_⟩;obtain⟨rfl,y⟩:=y;have:=y vs e1;rw[h3]at this;cases this;exact⟨iu.refl _,h4⟩⟩
def bN(hK:X.K=K)(h:IF X K fs e wl):nW X K fs tg e wl:=⟨by
 subst hK;intro Z s σ H R I ⟨sr,q⟩;refine bh (h.p Z s σ H (λu H1=>∃l,SJ X.K H1 u l/\∀J,JF X.K H1 J l->R J H1) I ⟨sr,wl.mono (λl q1 u H1 g1 s1 v1=>⟨l,v1,λJ j=>q1 J H1 g1 s1 j⟩) q⟩) λv s1 ⟨x,H1,I1,r1,l,⟨ad,vs,e,hh,rs⟩,q1⟩=>?_;subst e;cases r1;rcases hh with hh | hh
 ·obtain⟨aj,rv,pl,hz⟩:=I1.list hh.sq;refine CA pl.isList ?_;refine⟨s1.heap.objs.size,[s1.heap.objs.size],_,_,H1,rfl,I1.kept (t':=s1.toks) λb o e=>Ai _ e,Ge ad _,⟨_,Ap _ rfl,rfl,rfl⟩,λb hb=>?_,q1 _ (Oq hh rs (by rw[<- rs.length];exact hz))⟩;have e:b=s1.heap.objs.size:=by simpa using hb
  subst e;exact I1.wu (Ao _) (I1.aY.fresh (Ao _))
 ·obtain⟨aj,rv,pl,hz⟩:=I1.tuple (cS.of hh);refine D6 (show s1.heap.IsTuple ad aj.toArray from pl) ?_;refine⟨s1.heap.objs.size,[s1.heap.objs.size],_,_,H1,rfl,I1.kept (t':=s1.toks) λb o e=>Ai _ e,xg ad _,⟨_,Ap _ rfl,rfl,rfl⟩,λb hb=>?_,q1 _ (SM hh rs (by rw[<- rs.length];exact hz))⟩;have e:b=s1.heap.objs.size:=by simpa using hb
  subst e;exact I1.wu (Ao _) (I1.aY.fresh (Ao _))⟩
def okN(i j:Int):Prop:=-(2 ^ 62)<=i/\i < 2 ^ 62/\-(2 ^ 62)<=j/\j < 2 ^ 62/\(j-i).toNat<=sizeLine
def mR:PV->W (O PV)
 | .int j=>.eB (okN 0 j) (.ret (iA 0 j.toNat))
 | _=>.fail
def Im:PV->PV->PV->W (O PV)
 | .int i,.int j,.int k=>.eB (k = -1/\okN j i) (.ret (m7 i (i-j).toNat))
 | _,_,_=>.fail
def SN(lo:Int)(n:Nat)(hz:n<=sizeLine):JF K H (XX lo n) (iA lo n):=⟨by rw[ju];exact hz,λH' t=>⟨λi p hp=>by
  obtain⟨h1,rfl⟩:=mE hp;refine⟨h1,λx H2 y=>?_⟩;obtain⟨rfl,rfl⟩:=y;exact⟨iu.refl _,.int _⟩,by show n<=(iA lo n).length;rw[ju];exact Ao _⟩⟩
theorem jq(hg:Gl X "range")(hm:X.mg "range"=bd)(ha:EF X K fs a wa)(hs:ga [a] X.env=[(false,kt a X.env)]:=by rfl):nW X K fs tg (.Call (.Name "range" p) [a] [] pos) (.bind wa mR):=
 ⟨PI.imp (Gx hg hm (a8 ha.p cA hs) hs) λσ H R ⟨sr,q⟩=>⟨sr,wa.mono (λx q1 u1 H1 g1 s1 v1=>by
  cases v1 with
  | int j=>exact⟨_,rfl,q1.1.2.2.1,q1.1.2.2.2.1,q1.2 _ H1 g1 s1 (SN _ _ (by have:=q1.1.2.2.2.2;omega))⟩
  | _=>exact q1.elim) q⟩⟩
def Nl(hg:Gl X "range")(hm:X.mg "range"=bd)(ha:EF X K fs a wa)(hb:EF X K fs b wb)(hc:EF X K fs c wc)(hs:ga [a,b,c] X.env=[(false,kt a X.env),(false,kt b X.env),(false,kt c X.env)]:=by rfl)(lV:ga [b,c] X.env=[(false,kt b X.env),(false,kt c X.env)]:=by rfl)(Y4:ga [c] X.env=[(false,kt c X.env)]:=by rfl):nW X K fs tg (.Call (.Name "range" p) [a,b,c] [] pos) (.bind wa λx=>.bind wb λy=>.bind wc λz=>Im x y z):=
 ⟨PI.imp (Gw hg hm (a8 ha.p (a8 hb.p (a8 hc.p cA Y4) (by show ga _ _=_;rw[lV,Y4])) (by show ga _ _=_;rw[hs,lV])) hs lV) λσ H R ⟨sr,q⟩=>⟨sr,wa.mono (λx q1 u1 H1 g1 s1 v1=>⟨s1,wb.mono (λy q2 u2 H2 g2 s2 v2=>⟨s2,wc.mono (λz q3 u3 H3 g3 s3 v3=>by
  cases v1 with
  | int i=>
   cases v2 with
   | int j=>
    cases v3 with
    | int k=>
     obtain⟨⟨rfl,k1,k2,k3,k4,k5⟩,q3⟩:=q3;refine⟨_,_,rfl,⟨k3,k4,k1,k2⟩,q3 _ H3 ((g1.trans g2).trans g3) s3 ⟨by rw[q9];exact k5,λH' t=>⟨λi p hp=>?_,?_⟩⟩⟩
     ·obtain⟨h1,rfl⟩:=rf hp;refine⟨h1,λx H2 y=>?_⟩;obtain⟨rfl,rfl⟩:=y;exact⟨iu.refl _,.int _⟩
     ·exact Nat.le_of_eq (q9 _ _).symm
    | _=>exact q3.elim
   | _=>exact q3.elim
  | _=>exact q3.elim) q2⟩) q1⟩) q⟩⟩
def jr(hK:X.K=K)(hg:Gl X "enumerate")(hm:X.mg "enumerate"=bd)(h:IF X K fs e wl)(qi:fX X e []:=by rfl):nW X K fs (.Tuple Ñ kk tp) (.Call (.Name "enumerate" p1) [e] [] p2) (.bind wl λl=>.eB (l.length<=sizeLine) (.ret (cz 0 l))):=
 ⟨PI.imp (II K hK hg hm h.p qi) λσ H R ⟨sr,q⟩=>⟨sr,wl.mono (λl q1 u1 H1 g1 s1 v1=>by
  obtain⟨ad,vs,rfl,hh,rs⟩:=v1;have yl:∀{H':Hp}{i:Nat}{x v:V}{y:PV}{pp:ci},H' pp=bd->VR K [] H' v y->iu H' (upd H' pp (.tup [.int (i:Int),v]))/\VR K [] (upd H' pp (.tup [.int (i:Int),v])) (.ref pp) (.tup [.int ((0+i:Nat):Int),y]):=λ{H' i x v y pp} hn h4=>
   have sm:=iO hn (.tup [.int (i:Int),v])
   ⟨sm,.tup aE (.cons (by rw[Az];exact .int _) (.cons (VR.tk sm.cU h4) .nil))⟩
  refine⟨ad,rfl,?_⟩;rcases hh with hh | hh
  ·refine .inl ⟨⟨vs,hh.sq⟩,q1.2 _ H1 g1 s1 ⟨by rw[bu];exact q1.1,λH' t=>⟨λi p hp=>?_,vs,(t.f _ _ hh).sq,by rw[rs.length,bu];exact Ao _⟩⟩⟩;obtain⟨y,hy,rfl⟩:=dA hp;obtain⟨v,h3,h4⟩:=(az.tk t rs).get hy;refine⟨⟨vs,v,(t.f _ _ hh).sq,h3⟩,λx H3 z=>?_⟩;obtain⟨pp,x0,rfl,hn,rfl,hz⟩:=z;have:=hz vs (t.f _ _ hh).sq;rw[h3]at this;cases this;exact yl (x:=.aK) hn h4
  ·refine .inr ⟨⟨vs,cS.of hh⟩,q1.2 _ H1 g1 s1 ⟨by rw[bu];exact q1.1,λH' t=>⟨λi p hp=>?_,vs,cS.of (t.t _ _ hh),by rw[rs.length,bu];exact Ao _⟩⟩⟩;obtain⟨y,hy,rfl⟩:=dA hp;obtain⟨v,h3,h4⟩:=(az.tk t rs).get hy;refine⟨⟨vs,v,cS.of (t.t _ _ hh),h3⟩,λx H3 z=>?_⟩;obtain⟨pp,x0,rfl,hn,rfl,hz⟩:=z;have:=hz vs (cS.of (t.t _ _ hh));rw[h3]at this;cases this;exact yl (x:=.aK) hn h4) q⟩⟩
end
def oo:O Nat->O V->L2.St->L2.St
 | i::is,u::us,σ=>oo is us (σ.set i (some u))
 | _,_,σ=>σ
def fG(K:Ab)(fs:bf)(is:O Nat)(wt:PV->W T)(cq:T->bf):TG:=λv σ H Q=>∃p,aM K H σ fs/\VR K [] H v p/\(wt p).run λt=>∀us,bU σ fs H (oo is us σ) (cq t) H->aM K H (oo is us σ) (cq t)->Q (oo is us σ) H
structure GF(X:Cx)(K:Ab)(fs:bf)(tg:im)(is:List Nat){T:Type}(wt:PV->W T)(cq:T->bf):Prop where p:PG X tg (fG K fs is wt cq)
def HU:PV->W (PV×PV)
 | .tup [a,b]=>.ret (a,b)
 | _=>.fail
section
def RQ(h:PG X tg (cP i)):GF X K fs tg [i] .ret (λp=>fs.set i (some (.val p))):=⟨PG.imp h λv σ H Q ⟨p,sr,r,q⟩=>q [v] (bU.fm sr v p i) (sr.fm r i)⟩
def RP(hK:X.K=K)(h:PG X tg (NF X.K 2 (lF (cP i) (lF (cP j) NG)))):GF X K fs tg [i,j] HU (λt=>(fs.set i (some (.val t.1))).set j (some (.val t.2))):=⟨PG.imp h λv σ H Q ⟨p,sr,r,q⟩=>by
 unfold HU at q
 split at q
 ·cases r with
  | tup e rs=>
   cases rs with
   | cons ra t=>
   cases t with
   | cons rb t=>
   cases t;have s1:=sr.fm ra i;exact⟨_,_,rfl,cS.of e,rfl,_,_,rfl,_,_,rfl,rfl,q [_,_] ((bU.fm sr _ _ i).trans (bU.fm s1 _ _ j)) (s1.fm rb j)⟩
 ·exact q.elim⟩
end
section
variable{S T:Type}
def dZ:O PV->S->(PV->S->W S)->W S
 | [],s,_=>.ret s
 | x::r,s,f=>.bind (f x s) λs'=>dZ r s' f
inductive Lp(S T:Type) where
 | go (s:S) | out (t:T)
def jK:O PV->S->(PV->S->W (Lp S T))->W (Lp S T)
 | [],s,_=>.ret (.go s)
 | x::r,s,f=>.bind (f x s) λo=>match o with
  | .go s'=>jK r s' f
  | .out t=>.ret (.out t)
def JY(k:S->W T)(inj:R->T):Lp S R->W T
 | .go s=>k s
 | .out r=>.ret (inj r)
@[simp] theorem ZD(k:S->W T)(inj:R->T)(s:S):JY k inj (.go s)=k s:=(rfl)
@[simp] theorem Xm(k:S->W T)(inj:R->T)(r:R):JY k inj (.out r)=.ret (inj r):=(rfl)
def Xe(hd:S->bf)(out:R->End):Lp S R->End
 | .go s=>.nc (hd s)
 | .out r=>out r
def jZ(c:S->W Bool)(b:S->W S):Nat->S->W S
 | 0,_=>.fail
 | n+1,s=>.bind (c s) λk=>if k=true then .bind (b s) (jZ c b n) else .ret s
def nZ(c:S->W Bool)(b:S->W S)(s:S):W S:=⟨λQ=>∃n,(jZ c b n s).run Q,λh ⟨n,q⟩=>⟨n,(jZ c b n s).mono h q⟩⟩
end
section
variable{c:im}{rest:O sK}{pos:Pos}{S T T2:Type}{hd:S->bf}{s0:S}{wt:PV->W T2}{cq:S->T2->bf}{k:S->W T}{out:T->End}{R:Type}{inj:R->T}
theorem SF.for{f:PV->S->W S}{wb:T2->S->W S}(hp:wT (f8 X.prog X.w) X.A X.env X.xe)(hc:X.calm=true)(hi:nW X K fs tg iter wl)(hl:fw fs (hd s0))(hg:∀s,GF X K (hd s) tg is wt (cq s))(hf:∀p s,f p s=.bind (wt p) λt=>wb t s)
  (hb:∀s t,SF X K false (cq s t) body (wb t s) λs'=>.nc (hd s')) (hr:∀s,SF X K x (hd s) rest (k s) out) (hs:qC X iter:=by intro _;rfl) :
  SF X K x fs (.For tg iter body [] pos::rest) (.bind wl λl=>.bind (dZ l s0 f) k) out:=by
 refine SF.step (ID (g:=λv σ H Q=>∃s,fG K (hd s) is wt (cq s) v σ H Q) (tb:=λD σ H=>∃s t,fS K false (cq s t) (wb t s) (λs'=>.nc (hd s')) D σ H) hp hc hi.p (λZ s σ H v u Q I r ⟨s1,q⟩=>(hg s1).p Z s σ H v u Q I r q) (λZ s σ H D I ⟨s1,t1,q⟩=>(hb s1 t1).p Z s σ H D I q) hs) λD σ H ⟨sr,q⟩=>?_;refine⟨sr,wl.mono (λl q1 J H1 g1 s1 jf=>?_) q⟩;refine⟨λi m σ' H'=>∃s,aM K H' σ' (hd s)/\bU σ fs H σ' (hd s) H'/\JF K H' J l/\m=l.length-i/\i<=l.length/\(dZ (l.drop i) s f).run λs'=>(k s').run λt=>bG K x σ fs H D (out t),⟨l.length,s0,s1.le hl,g1.f.trans (bU.le s1 hl),jf,by simp,Bx _,by simpa using q1⟩,?_⟩;rintro i m σ2 H2 ⟨s,s2,g2,Nh,rfl,hi,q2⟩;obtain⟨j1,j2⟩:=Nh.2 H2 (aW.refl H2);by_cases jH:i < l.length
 ·obtain⟨go,yl⟩:=j1 i _ (Ad jH);have ed:=Bm jH;rw[ed]at q2;refine .inr ⟨go,λσ3 H3=>∃s',aM K H3 σ3 (hd s')/\bU σ fs H σ3 (hd s') H3/\JF K H3 J l/\(dZ (l.drop (i+1)) s' f).run λs'=>(k s').run λt=>bG K x σ fs H D (out t),λσ3 H3 ⟨s',a1,a2,a3,a4⟩=>⟨l.length-(i+1),by omega,s',a1,a2,a3,rfl,jH,a4⟩,λv H3 y=>?_⟩;obtain⟨sm,vx⟩:=yl v H3 y;have q2:(f l[i] s).run λs'=>(dZ (l.drop (i+1)) s' f).run λs'=>(k s').run λt=>bG K x σ fs H D (out t):=q2;rw[hf]at q2;have s3:=s2.same sm;have g3:=g2.trans (bU.same sm s2);refine⟨s,_,s3,vx,(wt l[i]).mono (λt q4 us g4 s4=>?_) q2⟩;refine⟨s,t,s4,(wb t s).mono (λs' q5 σ5 H5 g5 s5=>?_) q4⟩;have Á:∃s',aM K H5 σ5 (hd s')/\bU σ fs H σ5 (hd s') H5/\JF K H5 J l/\(dZ (l.drop (i+1)) s' f).run λs'=>(k s').run λt=>bG K x σ fs H D (out t):=⟨s',s5,(g3.trans g4).trans g5,Nh.tk (aW.trans sm.cU (aW.trans (g4.cR s3) (g5.cR s4))),q5⟩;exact⟨λ_=>Á,Á⟩
 ·have e:i=l.length:=by omega
  subst e;rw[EB]at q2;exact .inl ⟨j2,hd s,k s,hr s,s2,(k s).mono (λt q3=>q3.go g2 sr s2) q2⟩
theorem SF.jK{f:PV->S->W (Lp S R)}{wb:T2->S->W (Lp S R)}(hp:wT (f8 X.prog X.w) X.A X.env X.xe)(hc:X.calm=true)(hi:nW X K fs tg iter wl)(hl:fw fs (hd s0))(hg:∀s,GF X K (hd s) tg is wt (cq s))(hf:∀p s,f p s=.bind (wt p) λt=>wb t s)
  (ho:∀t,(out (inj t)).zK)
  (hb:∀s t,SF X K false (cq s t) body (wb t s) (Xe hd λr=>out (inj r))) (hr:∀s,SF X K x (hd s) rest (k s) out) (hs:qC X iter:=by intro _;rfl) :
  SF X K x fs (.For tg iter body [] pos::rest) (.bind wl λl=>.bind (FL.jK l s0 f) (JY k inj)) out:=by
 refine SF.step (ID (g:=λv σ H Q=>∃s,fG K (hd s) is wt (cq s) v σ H Q) (tb:=λD σ H=>∃s t,fS K false (cq s t) (wb t s) (Xe hd λr=>out (inj r)) D σ H) hp hc hi.p (λZ s σ H v u Q I r ⟨s1,q⟩=>(hg s1).p Z s σ H v u Q I r q) (λZ s σ H D I ⟨s1,t1,q⟩=>(hb s1 t1).p Z s σ H D I q) hs) λD σ H ⟨sr,q⟩=>?_;refine⟨sr,wl.mono (λl q1 J H1 g1 s1 jf=>?_) q⟩;have lo:∀(D':Ends) (y:Bool) (t:R),D'.rt=D.rt->bG K x σ fs H D (out (inj t))->bG K y σ fs H D' (out (inj t)):=λD' y t e h=>bG.YE (ho t) e h;refine⟨λi m σ' H'=>∃s,aM K H' σ' (hd s)/\bU σ fs H σ' (hd s) H'/\JF K H' J l/\m=l.length-i/\i<=l.length/\(FL.jK (l.drop i) s f).run λo=>(JY k inj o).run λt=>bG K x σ fs H D (out t),⟨l.length,s0,s1.le hl,g1.f.trans (bU.le s1 hl),jf,by simp,Bx _,by simpa using q1⟩,?_⟩;rintro i m σ2 H2 ⟨s,s2,g2,Nh,rfl,hi,q2⟩;obtain⟨j1,j2⟩:=Nh.2 H2 (aW.refl H2);by_cases jH:i < l.length
 ·obtain⟨go,yl⟩:=j1 i _ (Ad jH);have ed:=Bm jH;rw[ed]at q2;refine .inr ⟨go,λσ3 H3=>∃s',aM K H3 σ3 (hd s')/\bU σ fs H σ3 (hd s') H3/\JF K H3 J l/\(FL.jK (l.drop (i+1)) s' f).run λo=>(JY k inj o).run λt=>bG K x σ fs H D (out t),λσ3 H3 ⟨s',a1,a2,a3,a4⟩=>⟨l.length-(i+1),by omega,s',a1,a2,a3,rfl,jH,a4⟩,λv H3 y=>?_⟩;obtain⟨sm,vx⟩:=yl v H3 y;have q2:(f l[i] s).run λo=>(match o with | .go s'=>FL.jK (l.drop (i+1)) s' f | .out t=>ap (.out t)).run λo=>(JY k inj o).run λt=>bG K x σ fs H D (out t):=q2;rw[hf]at q2;have s3:=s2.same sm;have g3:=g2.trans (bU.same sm s2);refine⟨s,_,s3,vx,(wt l[i]).mono (λt q4 us g4 s4=>?_) q2⟩;refine⟨s,t,s4,(wb t s).mono (λo q5=>?_) q4⟩;cases o with
  | out t5=>
   refine bG.go (g3.trans g4) sr s4 (lo _ false t5 ?_ q5);rfl
  | go s'=>
   intro σ5 H5 g5 s5;have Á:∃s',aM K H5 σ5 (hd s')/\bU σ fs H σ5 (hd s') H5/\JF K H5 J l/\(FL.jK (l.drop (i+1)) s' f).run λo=>(JY k inj o).run λt=>bG K x σ fs H D (out t):=⟨s',s5,(g3.trans g4).trans g5,Nh.tk (aW.trans sm.cU (aW.trans (g4.cR s3) (g5.cR s4))),q5⟩;exact⟨λ_=>Á,Á⟩
 ·have e:i=l.length:=by omega
  subst e;rw[EB]at q2;exact .inl ⟨j2,hd s,k s,hr s,s2,(k s).mono (λt q3=>q3.go g2 sr s2) q2⟩
def SF.HN{cw:S->W Bool}{b:S->W S}(hp:wT (f8 X.prog X.w) X.A X.env X.xe)(hl:fw fs (hd s0))(hc:∀s,TF X K (hd s) c (cw s))(hb:∀s,SF X K false (hd s) body (b s) λs'=>.nc (hd s'))(hr:∀s,SF X K x (hd s) rest (k s) out) :
  SF X K x fs (.While c body [] pos::rest) (.bind (nZ cw b s0) k) out:=by
 refine SF.step (IB (tc:=λσ H Q=>∃s,fT K (hd s) (cw s) σ H Q) (tb:=λD σ H=>∃s,fS K false (hd s) (b s) (λs'=>.nc (hd s')) D σ H) hp (λZ s σ H Q I ⟨s1,q⟩=>(hc s1).p Z s σ H Q I q) (λZ s σ H D I ⟨s1,q⟩=>(hb s1).p Z s σ H D I q)) λD σ H ⟨sr,n,q⟩=>?_;refine⟨λm σ' H'=>∃s,aM K H' σ' (hd s)/\bU σ fs H σ' (hd s) H'/\(jZ cw b m s).run λs'=>(k s').run λt=>bG K x σ fs H D (out t),⟨n,s0,sr.le hl,bU.le sr hl,q⟩,?_⟩;rintro m σ1 H1 ⟨s,s1,g1,q1⟩;cases m with
 | zero=>exact q1.elim
 | succ m=>
  refine⟨s,s1,(cw s).mono (λkk q2 H2 g2 s2=>?_) q1⟩;cases kk with
  | false=>
   refine vX ?_;exact⟨hd s,k s,hr s,s2,(k s).mono (λt q3=>q3.go (g1.trans g2.f) sr s2) q2⟩
  | true=>
   refine vW ?_;refine⟨λσ3 H3=>∃s,aM K H3 σ3 (hd s)/\bU σ fs H σ3 (hd s) H3/\(jZ cw b m s).run λs'=>(k s').run λt=>bG K x σ fs H D (out t),λσ3 H3 a=>⟨m,Eu m,a⟩,s,s2,(b s).mono (λs' q5 σ5 H5 g5 s5=>?_) q2⟩;have Á:∃s,aM K H5 σ5 (hd s)/\bU σ fs H σ5 (hd s) H5/\(jZ cw b m s).run λs'=>(k s').run λt=>bG K x σ fs H D (out t):=⟨s',s5,(g1.trans g2.f).trans g5,q5⟩;exact⟨λ_=>Á,Á⟩
end
end
end FL
variable{f:PL.PV->FL.W (Option PL.PV)}{kL:FL.bf}
namespace FL
section
variable[cG]
variable{K:Ab}
def gA:O PV->(PV->W (Option PV))->W (O PV)
 | [],_=>.ret []
 | x::r,f=>.bind (f x) λo=>.bind (gA r f) λl=>.ret (o.toList++l)
def cv:O PV->(PV->W PV)->W (O PV)
 | [],_=>.ret []
 | x::r,f=>.bind (f x) λy=>.bind (cv r f) λl=>.ret (y::l)
theorem sJ(f:PV->W PV):∀l,cv l f=gA l λp=>.bind (f p) λv=>.ret (some v)
 | []=>rfl
 | x::r=>by
  show am (f x) (λy=>am (cv r f) λl=>ap (y::l))=am (f x) λy=>am (gA r _) λl=>ap (y::l);rw[sJ f r]
def bq(ix:O (Option Nat))(fs:bf):bf:=ix.map λo=>match o with | some j=>(fs[j]?).getD bd | none=>bd
section
def lR{s:SL}(h:(bq ix fs)[i]?=some (some s)):∃j,ix[i]?=some (some j)/\fs[j]?=some (some s):=by
 unfold bq at h;rw[Aj]at h;cases q:ix[i]? with
 | none=>rw[q]at h;cases h
 | some o=>
  rw[q]at h;cases o with
  | none=>cases h
  | some j=>
   refine⟨j,rfl,?_⟩;have h:(fs[j]?).getD bd=some s:=Option.some.inj h;cases z:fs[j]? with
   | none=>rw[z]at h;cases h
   | some y=>rw[z]at h;exact congrArg some h
def jA(h:ix[i]?=some (some j))(e:σ[j]?=some (some u)):(lQ ix σ)[i]?=some (some u):=by
 unfold lQ;rw[Aj,h];show some ((σ[j]?).getD bd)=_;rw[e];rfl
def aM.eD(s:aM K H σ fs)(inj:∀i i' j:Nat,ix[i]?=some (some j)->ix[i']?=some (some j)->i=i'):aM K H (lQ ix σ) (bq ix fs):=by
 refine⟨by unfold lQ bq;simp,λi t e=>?_,λi i' t u x y a e1 e2 o1 o2 q1 q2 z1 z2=>?_,s.tb⟩
 ·obtain⟨j,h1,h2⟩:=lR e;obtain⟨u,h3,h4⟩:=s.at' j t h2;exact⟨u,jA h1 h3,h4⟩
 ·obtain⟨j,h1,h2⟩:=lR e1;obtain⟨j',dY,qW⟩:=lR e2;obtain⟨u1,h3,_⟩:=s.at' j t h2;obtain⟨u2,JX,_⟩:=s.at' j' u qW;rw[jA h1 h3]at q1;rw[jA dY JX]at q2;cases q1;cases q2;have:=s.nd j j' t u x y a h2 qW o1 o2 h3 JX z1 z2;subst this;exact inj i i' j h1 dY
structure Ot(ix:List (Option Nat))(σ:L2.St)(fs:bf)(σ':L2.St)(bc:bf):Prop where
 own:∀(i:Nat) (t:SL),bc[i]?=some (some t)->t.own=true->∃j,ix[i]?=some (some j)/\fs[j]?=some (some t)/\σ'[i]?=σ[j]?
def Ot.sD(h:Ot ix σ fs σ' bc)(o:cn σ' bc a):cn σ fs a:=by
 obtain⟨i,t,x,e1,e2,e3,e4⟩:=o;obtain⟨j,h1,h2,h3⟩:=h.own i t e1 e2;exact⟨j,t,x,h2,e2,h3▸e3,e4⟩
def Ot.j9(h:Ot ix σ fs σ' bc)(o:fK σ' bc φ a):fK σ fs φ a:=by
 obtain⟨i,e1,e3⟩:=o;obtain⟨j,h1,h2,h3⟩:=h.own i _ e1 rfl;exact⟨j,h2,h3▸e3⟩
def Ot.out(h:Ot ix σ fs σ' bc)(s:aM K H1 σ fs)(g:cp σ' bc H1 H2)(s2:aM K H2 σ' bc):aM K H2 σ fs/\cp σ fs H1 H2:=by
 have gf:cp σ fs H1 H2:=⟨λa o e n t=>g.keep a o e (λφ z=>n φ (h.j9 z)) t,g.there⟩;refine⟨⟨s.len,λj t e=>?_,s.nd,s2.tb⟩,gf⟩;obtain⟨u,h1,h2⟩:=s.at' j t e;refine⟨u,h1,?_⟩;have tk:=gf.cR s;rcases h2 with⟨v,q,r⟩ | ⟨a,q,r⟩
 ·exact .inl ⟨v,q,VR.tk tk r⟩
 ·subst q;refine .inr ⟨a,rfl,?_⟩;by_cases c:∃b,t.own=true/\t.has a b/\cn σ' bc b
  ·obtain⟨b,ow,hb,i,t',x,c1,c2,c3,c4⟩:=c;obtain⟨j',k1,k2,k3⟩:=h.own i t' c1 c2;have jj:=s.nd j j' t t' a x b e k2 ow c2 h1 (k3▸c3) hb c4;subst jj;rw[e]at k2;cases k2;exact s2.ownAt c1 c2 (k3.trans h1)
  ·exact r.mono tk (λb o ow hb z nt=>g.oS z (λy=>c ⟨b,ow,hb,y⟩) nt)
theorem oj:∀{is:O Nat}{us:O V}{σ:L2.St}{i:Nat},i∉is->(oo is us σ)[i]?=σ[i]?
 | [],us,σ,i,_=>by cases us <;> rfl
 | j::is,[],σ,i,_=>rfl
 | j::is,u::us,σ,i,h=>by
  rw[oo,oj (λz=>h (AY _ z))];exact aG (λz=>h (by rw[z];exact Br))
end
section
variable{T2:Type}{wt:PV->W T2}{cq:T2->bf}{tf:T2->W Bool}{te:T2->W PV}
structure FF(X:Cx)(K:Ab)(fs:bf)(Ì:List im)(w:W Bool):Prop where p:Tp X Ì (fT K fs w)
def J6:FF X K fs [] (.ret true):=⟨λZ s σ H Q I ⟨sr,q⟩=>Ml Z s σ H Q I (q H .refl sr)⟩
def tQ{c:im}{w:W Bool}(h:TF X K fs c w):FF X K fs [c] w:=⟨Mk h.p⟩
def qA(is:O Nat)(kL:bf)(cq:T2->bf):Prop:=∀t,(cq t).length=kL.length/\∀(i:Nat) (s:SL),(cq t)[i]?=some (some s)->(i∈is/\s.own=false)\/(i∉is/\kL[i]?=some (some s))
theorem J9(S:a9 X.env.scope X.N sc N' ix)(hb:kL=bq ix fs)(hf:∀p,f p=.bind (wt p) λt=>.bind (tf t) λk=>if k=true then .bind (te t) λv=>.ret (some v) else .ret bd)(hl:qA is kL cq)(hr:∀t,fw (cq t) kL)(v9:∀j∈is,ix[j]?=some bd) :
  ∀σ H Q,fL K fs (.bind wl λl=>gA l f) σ H Q->Ya ix (fIt K fs wl) (λv σ H Q=>fG K kL is wt cq v σ H Q) (λσ H Q=>∃t,fT K (cq t) (tf t) σ H Q) (λσ H Q=>∃t,fE K (cq t) (te t) σ H Q) σ H Q:=by
 subst hb;rintro σ H Q ⟨sr,q⟩;refine⟨sr,wl.mono (λl q1 J H1 g1 s1 jf D hD=>?_) q⟩;have inj:∀i i' j:Nat,ix[i]?=some (some j)->ix[i']?=some (some j)->i=i':=λi i' j h1 h2=>by
  have hi:i < N'.length:=by rw[<- S.len];exact(Al.mp h1).1
  have ye:i' < N'.length:=by rw[<- S.len];exact(Al.mp h2).1
  have e1:=(S.at h1 (Ad hi)).1;have e2:=(S.at h2 (Ad ye)).1;rw[e1]at e2;exact(List.getElem_inj S.nd).mp (Option.some.inj e2)
 have nD:=s1.noOwn hD;refine⟨λi m σ' ys H'=>∃acc,aM K H' σ fs/\cp σ fs H H'/\aM K H' σ' (bq ix fs)/\Ot ix σ fs σ' (bq ix fs)/\JF K H' J l/\H' D=some (.lst ys)/\az K [] H' ys acc/\acc.length<=i/\m=l.length-i/\i<=l.length/\
  (gA (l.drop i) f).run λr=>∀a vs H',cp σ fs H H'->aM K H' σ fs->H a=bd->H' a=some (.lst vs)->az K [] H' vs (acc++r)->Q (.ref a) H',⟨l.length,[],?_⟩,?_⟩
 ·have sm:=iO hD (.lst []);refine⟨s1.same sm,g1.trans (cp.same sm),(s1.same sm).eD inj,⟨λi t e o=>?_⟩,jf.tk sm.cU,aE,.nil,Bx _,by simp,Bx _,by simpa using q1⟩;obtain⟨j,h1,h2⟩:=lR e;obtain⟨u,h3,_⟩:=s1.at' j t h2;exact⟨j,h1,h2,by rw[jA h1 h3,h3]⟩
 rintro i m σ2 ys H2 ⟨acc,sO,gO,s2,O9,Nh,hy,vy,VN,rfl,hi,q2⟩;refine⟨hy,?_⟩;obtain⟨j1,j2⟩:=Nh.2 H2 (aW.refl H2);by_cases jH:i < l.length
 ·obtain⟨go,yl⟩:=j1 i _ (Ad jH);have ed:=Bm jH;rw[ed]at q2;refine .inr ⟨go,λv H3 y=>?_⟩;obtain⟨sm,vx⟩:=yl v H3 y;have q2:(f l[i]).run λo=>(gA (l.drop (i+1)) f).run λr=>∀a vs H',cp σ fs H H'->aM K H' σ fs->H a=bd->H' a=some (.lst vs)->az K [] H' vs (acc++(o.toList++r))->Q (.ref a) H':=q2;rw[hf]at q2;have s3:=s2.same sm;have sO3:=sO.same sm;have gO3:=gO.trans (cp.same sm);have hy3:=sm _ _ hy;have vy3:=az.tk sm.cU vy;have jf3:=Nh.tk sm.cU;refine⟨_,s3,vx,(wt l[i]).mono (λt q4 us g4 s4=>?_) q2⟩;have Nr:Ot ix σ fs (oo is us σ2) (cq t):=⟨λj u e o=>by
   rcases (hl t).2 j u e with⟨_,z⟩ | ⟨n,z⟩
   ·rw[z]at o;cases o
   ·obtain⟨j',k1,k2,k3⟩:=O9.own j u z o;exact⟨j',k1,k2,by rw[oj n];exact k3⟩⟩
  refine⟨t,s4,(tf t).mono (λkk q5 H5 g5 s5=>?_) q4⟩;obtain⟨sO5,ZH⟩:=Nr.out sO3 g5 s5;have gO5:=gO3.trans ZH;have tk5:=g5.cR s4;have nD4:¬cn (oo is us σ2) (cq t) D:=λz=>nD (Nr.sD z);have hy5:=g5.oS hy3 nD4;have vy5:=az.tk tk5 vy3;have jf5:=jf3.tk (g5.cR s4);have Ò:∀{H6:Hp},aM K H6 (oo is us σ2) (cq t)->aM K H6 (oo is us σ2) (bq ix fs)/\Ot ix σ fs (oo is us σ2) (bq ix fs):=λ{H6} z=>⟨z.le (hr t),⟨λj u e o=>Nr.own j u ((hr t).at j u e) o⟩⟩;cases kk with
  | false=>
   refine vX ⟨l.length-(i+1),by omega,acc,sO5,gO5,(Ò s5).1,(Ò s5).2,jf5,hy5,vy5,by omega,rfl,jH,?_⟩;exact q5
  | true=>
   refine vW ⟨t,s5,(te t).mono (λv6 q6 u6 H6 g6 s6 v6'=>?_) q5⟩;obtain⟨sO6,ZG⟩:=Nr.out sO5 g6 s6;have gO6:=gO5.trans ZG;have tk6:=g6.cR s5;have Vu:=g6.oS hy5 nD4;have Z9:=az.tk tk6 vy5;have tkD:=nG (K:=K) (.lst (ys++[u6])) Vu;have hD0:=g1.there D hD;refine⟨Vu,by rw[Z9.length];have:=Nh.1;omega,l.length-(i+1),by omega,acc++[v6],sO6.side nD Vu _,gO6.side hD0 _,((Ò s6).1).side (λz=>nD ((Ò s6).2.sD z)) Vu _,(Ò s6).2,(jf5.tk (g6.cR s5)).tk (nG _ Vu),aE,az.tk tkD (Z9.append (.cons v6' .nil)),by rw[Ah];simp;omega,rfl,jH,?_⟩;refine(gA (l.drop (i+1)) f).mono (λr q7 a vs H7 g7 s7 n e v7=>q7 a vs H7 g7 s7 n e ?_) q6;simpa using v7
 ·have e:i=l.length:=by omega
  subst e;rw[EB]at q2;exact .inl ⟨j2,q2 D ys H2 gO sO (g1.there D hD) hy (by simpa using vy)⟩
end
end
end FL
namespace L2
def nk(l:ci)(items:Array bn)(n:Nat)(b:ci)(fc:Array bn)(n2:Nat)(sl:Array (Option bn))(hc0:¬(!items.isEmpty&&Builtin.List.listTooLong (items.size+fc.size))=true)(hc1:items.size<=sizeLine)(lV:items.size+fc.size<=sizeLine+1) :
  Meets (ut.«list.extend» ⟨[.ref l,.ref b],[]⟩) (λ_ R s=>s.heap.get? l=some {cls:=.type "list",dict:=bd,data:=.seq items n,slots:=#[]}/\s.heap.get? b=some {cls:=.type "list",dict:=bd,data:=.seq fc n2,slots:=sl}/\R (.ok (.ret Bh)) {s with heap:=s.heap.update l (Ck λx=>x++fc),toks:=s.toks}):=
 .of_wp λprog w A R s h=>by
  obtain⟨hp,g,d,tk,os⟩:=s;obtain⟨hl,hb,h⟩:=h;have f1:=EJ;have f2:=Dp;have f3:=DE;have f4:=Dw;have f5:=Dx;have ya:(items++fc).size<=sizeLine+1:=by rw[Ei];exact lV
  wp_walk using (DG hl rfl (hz:=hc1) (_hz':=ya)),BM hl,BM hb;exact⟨_,rfl,h⟩
def UI(K:Ab):V->O V->Hp->VK->Prop:=λx vs H Q=>∃l b xs zs,x=.ref l/\vs=[.ref b]/\H l=some (.lst xs)/\(b9 K H b zs\/cS K H b zs)/\xs.length+zs.length<=sizeLine/\uV H l (.lst (xs++zs)) (Q .aK)
theorem MZ(K:Ab)(hK:X.K=K):Hy X "list.extend" (UI K):=by
 subst hK;intro Z s σ H x vs v us Q I rx rv h;obtain⟨l,b,xs,zs,rfl,rfl,hH,hB | hB,hz,q⟩:=h
 ·cases rx;obtain⟨u,rfl,ru⟩:=rv.one;cases ru;obtain⟨z,aj,n,r,hl,e⟩:=I.mm hH;obtain⟨bj,r2,⟨⟨cls,dd,data,sl⟩,n2,e2,hc,hd,iW⟩,z2⟩:=I.list hB;simp only at hc hd iW;subst hc hd iW;have Lj:=r2.length;have hsz:aj.toArray.size+bj.toArray.size<=sizeLine:=by rw[Af,Af];omega
  have o6:¬(!aj.toArray.isEmpty&&Builtin.List.listTooLong (aj.toArray.size+bj.toArray.size))=true:=by
   rw[gh hsz,Cp];exact A2
  refine t0 D3 ⟨_,e,rfl⟩ DQ (Dv _ _)
   (nk l aj.toArray n b bj.toArray n2 sl o6 (by rw[Af];omega) ∅) ⟨e,e2,?_⟩
  refine⟨.aK,_,I.xO (its':=aj++bj) hH e (by simp) (r.append r2) ?_,rfl,q.at⟩;rw[Ah];omega
 ·exact vE Z s σ H _ _ v us Q I rx rv ⟨l,b,xs,zs,rfl,rfl,hH,hB,hz,q⟩
end L2
variable{wi we:FL.W PL.PV}{ei:Bu}
namespace FL
section
variable[cG]
variable{K:Ab}
section
variable{pos:Pos}{T2:Type}{wt:PV->W T2}{cq:T2->bf}{tf:T2->W Bool}{te:T2->W PV}
def Rk(hc:X.calm=true)(S:a9 X.env.scope X.N sc N' ix)(hi:nW X K fs tg iter wl)(hg:∀cl C s2 H2 fp,GF (eD X sc N' cl C s2 H2 fp) K (bq ix fs) tg is wt cq)(VG:∀cl C s2 H2 fp t,FF (eD X sc N' cl C s2 H2 fp) K (cq t) Ì (tf t))(he:∀cl C s2 H2 fp t,EF (eD X sc N' cl C s2 H2 fp) K (cq t) Ä (te t))
  (hf:∀p,f p=.bind (wt p) λt=>.bind (tf t) λk=>if k=true then .bind (te t) λv=>.ret (some v) else .ret bd) (hl:qA is (bq ix fs) cq/\∀t,fw (cq t) (bq ix fs)) (v9:∀j∈is,ix[j]?=some bd) (hs:qC X iter:=by intro _;rfl) :
  LF X K fs (.ListComp Ä [⟨tg,iter,Ì,0⟩] sc pos) (.bind wl λl=>gA l f):=
 ⟨PE.imp (UR hc S hi.p (λcl C s2 H2 fp=>(hg cl C s2 H2 fp).p) (λcl C s2 H2 fp Z s σ H Q I ⟨t,q⟩=>(VG cl C s2 H2 fp t).p Z s σ H Q I q) (λcl C s2 H2 fp Z s σ H Q I ⟨t,q⟩=>(he cl C s2 H2 fp t).p Z s σ H Q I q) hs) (J9 S rfl hf hl.1 hl.2 v9)⟩
def OZ{f:PV->W PV}(hc:X.calm=true)(S:a9 X.env.scope X.N sc N' ix)(hi:nW X K fs tg iter wl)(hg:∀cl C s2 H2 fp,GF (eD X sc N' cl C s2 H2 fp) K (bq ix fs) tg is wt cq)(he:∀cl C s2 H2 fp t,EF (eD X sc N' cl C s2 H2 fp) K (cq t) Ä (te t))
  (hf:∀p,f p=.bind (wt p) te) (hl:qA is (bq ix fs) cq/\∀t,fw (cq t) (bq ix fs)) (v9:∀j∈is,ix[j]?=some bd) (hs:qC X iter:=by intro _;rfl) :
  LF X K fs (.ListComp Ä [⟨tg,iter,[],0⟩] sc pos) (.bind wl λl=>cv l f):=by
 have:(λl=>cv l f)=λl=>gA l λp=>.bind (wt p) λt=>.bind (.ret true) λk=>if k=true then .bind (te t) λv=>.ret (some v) else .ret bd:=funext λl=>by
  rw[sJ];congr 1;funext p;rw[hf];rfl
 rw[this];exact Rk (tf:=λ_=>.ret true) hc S hi hg (λ_ _ _ _ _ _=>J6) he (λp=>rfl) hl v9 hs
def SF.OH{rest:O sK}{out:T->End}{k:O PV->W T}(hc:X.calm=true)(hN:X.N.Nodup)(ye:X.N[i]?=some y)(hx:X.env.scope.names.lookup y=some .local)(S:a9 X.env.scope X.N sc N' ix)(hi:nW X K fs tg iter wl)(hg:∀cl C s2 H2 fp,GF (eD X sc N' cl C s2 H2 fp) K (bq ix fs) tg is wt cq)(VG:∀cl C s2 H2 fp t,FF (eD X sc N' cl C s2 H2 fp) K (cq t) Ì (tf t))(he:∀cl C s2 H2 fp t,EF (eD X sc N' cl C s2 H2 fp) K (cq t) Ä (te t))
  (hf:∀p,f p=.bind (wt p) λt=>.bind (tf t) λk=>if k=true then .bind (te t) λv=>.ret (some v) else .ret bd) (hl:qA is (bq ix fs) cq/\∀t,fw (cq t) (bq ix fs)) (v9:∀j∈is,ix[j]?=some bd) (hr:∀l,SF X K x (fs.set i (some (.ol bd l))) rest (k l) out)
  (oZ:lm (.ListComp Ä [⟨tg,iter,Ì,0⟩] sc pos) (some (.Name y px)) kS.line X.env=pure true:=by rfl) (hs:qC X iter:=by intro _;rfl) :
  SF X K x fs (.Assign [.Name y px] (.ListComp Ä [⟨tg,iter,Ì,0⟩] sc pos) kS::rest) (.bind (.bind wl λl=>gA l f) k) out:=
 SF.step (vj hc hN ye hx S hi.p (λcl C s2 H2 fp=>(hg cl C s2 H2 fp).p) (λcl C s2 H2 fp Z s σ H Q I ⟨t,q⟩=>(VG cl C s2 H2 fp t).p Z s σ H Q I q) (λcl C s2 H2 fp Z s σ H Q I ⟨t,q⟩=>(he cl C s2 H2 fp t).p Z s σ H Q I q) oZ hs) λD σ H ⟨sr,q⟩=>
  J9 (K:=K) S rfl hf hl.1 hl.2 v9 σ H _ ⟨sr,(am wl λl=>gA l f).mono (λl q1 a ws H1 g1 s1 n e v1=>by
   have no:=sr.noOwn n;have s2:=s1.sd (t:=.ol bd l) ⟨by simp,ws,e,v1⟩ no i;exact⟨_,k l,hr l,s2,(k l).mono (λt q2=>q2.go (bU.sd s1 g1.f no n i) sr s2) q1⟩) q⟩
theorem sT:∀{l:bf}{i:Nat} (s:Option SL),l[i]?=some bd->fw (l.set i s) l
 | [],_,_,h=>by simp at h
 | x::l,0,s,h=>by
  simp at h;subst h;exact .drop (fw.refl l)
 | x::l,i+1,s,h=>by
  rw[List.set_cons_succ];exact .keep (sT s (by simpa using h))
def fw.trans{a b c:bf}(h1:fw a b)(h2:fw b c):fw a c:=by
 induction h1 generalizing c with
 | nil=>exact h2
 | drop h ih=>cases h2 with | drop h2=>exact .drop (ih h2) | keep h2=>exact .drop (ih h2)
 | keep h ih=>cases h2 with | drop h2=>exact .drop (ih h2) | keep h2=>exact .keep (ih h2)
def oP{l:bf}{is:O Nat}(hl:l.length=kL.length/\∀(j:Nat) (s:SL),l[j]?=some (some s)->(j∈is/\s.own=false)\/(j∉is/\kL[j]?=some (some s)))(hi:kL[i]?=some bd) :
  (l.set i (some (.val v))).length=kL.length/\∀(j:Nat) (s:SL),(l.set i (some (.val v)))[j]?=some (some s)->(j∈is++[i]/\s.own=false)\/(j∉is++[i]/\kL[j]?=some (some s)):=by
 refine⟨by rw[B5];exact hl.1,λj s e=>?_⟩;rcases bV e with⟨rfl,rfl⟩ | ⟨n,e⟩
 ·exact .inl ⟨by simp,rfl⟩
 ·rcases hl.2 j s e with⟨h1,h2⟩ | ⟨h1,h2⟩
  ·exact .inl ⟨by simp[h1],h2⟩
  ·exact .inr ⟨by simp[h1,n],h2⟩
def OX(kL:bf):kL.length=kL.length/\∀(j:Nat) (s:SL),kL[j]?=some (some s)->(j∈([]:O Nat)/\s.own=false)\/(j∉([]:O Nat)/\kL[j]?=some (some s)):=⟨rfl,λj s e=>.inr ⟨by simp,e⟩⟩
def Jq(hi:kL[i]?=some bd):qA [i] kL (λp=>kL.set i (some (.val p)))/\∀t,fw (kL.set i (some (.val t))) kL:=⟨λt=>oP (is:=[]) (OX kL) hi,λt=>sT _ hi⟩
def Ih{l:bf}{s:Option SL}(h:l[j]?=some bd)(n:j≠i):(l.set i s)[j]?=some bd:=by rw[aG n];exact h
def M8(hi:kL[i]?=some bd)(hj:kL[j]?=some bd)(n:j≠i):qA [i,j] kL (λt:PV×PV=>(kL.set i (some (.val t.1))).set j (some (.val t.2)))/\∀t:PV×PV,fw ((kL.set i (some (.val t.1))).set j (some (.val t.2))) kL:=
 ⟨λt=>oP (is:=[i]) (oP (is:=[]) (OX kL) hi) hj,λt=>(sT _ (Ih hj n)).trans (sT _ hi)⟩
end
section
variable{rest:O sK}{pos:Pos}{T:Type}{out:T->End}
def cg(sr:aM K H σ fs)(hs:fs[i]?=some (some (.ol q0 l))):∃a ws,σ[i]?=some (some (.ref a))/\H a=some (.lst ws)/\az K [] H ws l:=by
 obtain⟨u,e1,r⟩:=sr.at' i _ hs;rcases r with⟨v,e,_⟩ | ⟨a,e,z,ws,q1,q2⟩
 ·cases e
 ·subst e;exact⟨a,ws,e1,q1,q2⟩
def gN{uH:O V}{l':O PV}(sr:aM K H σ fs)(hs:fs[i]?=some (some (.ol q0 l)))(e1:σ[i]?=some (some (.ref a)))(sx:lT a H H')(h':H' a=some (.lst uH))(r:az K [] H uH l'):aM K H' σ (fs.set i (some (.ol q0 l')))/\bU σ fs H σ (fs.set i (some (.ol q0 l'))) H':=
 ka (t':=.ol q0 l') sr hs rfl (by simp) e1 sx λtk=>⟨(sr.ownAt hs rfl e1).1,uH,h',az.tk tk r⟩
def mM(l:O PV)(v:PV):W (O PV):=.eB (l.length < sizeLine) (.ret (l++[v]))
theorem SF.append(i:Nat){k:O PV->W T}(hs:fs[i]?=some (some (.ol q0 l)))(hK:X.K=K)(hN:X.N[i]?=some y)(hv:uL X.env.scope y)(he:EF X K fs e we)(hr:∀l',SF X K x (fs.set i (some (.ol q0 l'))) rest (k l') out)
  (hd:iG y:=by decide) (gB:w5 y:=by decide) (dX:r6 (.Name y p) "append" X.env (kt (.Name y p) X.env)=kt (.Name y p) X.env:=by rfl)
  (o7:Tq X bE [e]:=by rfl)
  (dW:Lq Ã bE:=by rfl) (vY:fX X e []:=by rfl) (fe:kJ X bE []:=by rfl)
  (oZ:lm (.Call (.Attribute (.Name y p) "append" Ã) [e] [] bE) bd pos.line X.env=pure false:=by rfl) :
  SF X K x fs (.Expr (.Call (.Attribute (.Name y p) "append" Ã) [e] [] bE) pos::rest) (.bind we λv=>.bind (mM l v) k) out:=
 SF.step (nJ (so K hK BV PySem.F.slot_list_append PySem.F.type_list_append xH (cL hN hv hd gB) (a8 he.p cA vY) dX o7 dW vY fe) oZ) λD σ H ⟨sr,q⟩=>by
  obtain⟨a,ws,e1,h1,r1⟩:=cg sr hs;refine⟨_,e1,.inl ⟨rfl,_,b9.of h1⟩,sr,we.mono (λv q1 u H1 g1 s1 v1=>?_) q⟩;obtain⟨a',uH,nA,dY,qL⟩:=cg s1 hs;rw[e1]at nA;cases nA;refine⟨a,uH,u,rfl,rfl,dY,by rw[qL.length];exact q1.1,λH2 sx h2=>?_⟩;obtain⟨s2,g2⟩:=gN s1 hs e1 sx h2 (qL.append (.one v1));exact⟨_,k _,hr _,s2,(k _).mono (λt q2=>q2.go (g1.f.trans g2) sr s2) q1.2⟩
def R0(l m:O PV):W (O PV):=.eB (l.length+m.length<=sizeLine) (.ret (l++m))
theorem SF.extend(i:Nat){k:O PV->W T}(hs:fs[i]?=some (some (.ol q0 l)))(hK:X.K=K)(hN:X.N[i]?=some y)(hv:uL X.env.scope y)(he:QF X K fs e wl)(hr:∀l',SF X K x (fs.set i (some (.ol q0 l'))) rest (k l') out)
  (hd:iG y:=by decide) (gB:w5 y:=by decide) (dX:r6 (.Name y p) "extend" X.env (kt (.Name y p) X.env)=kt (.Name y p) X.env:=by rfl)
  (o7:Tq X bE [e]:=by rfl)
  (dW:Lq Ã bE:=by rfl) (vY:fX X e []:=by rfl) (fe:kJ X bE []:=by rfl)
  (oZ:lm (.Call (.Attribute (.Name y p) "extend" Ã) [e] [] bE) bd pos.line X.env=pure false:=by rfl) :
  SF X K x fs (.Expr (.Call (.Attribute (.Name y p) "extend" Ã) [e] [] bE) pos::rest) (.bind wl λm=>.bind (R0 l m) k) out:=
 SF.step (nJ (so K hK BV PySem.F.slot_list_extend PySem.F.type_list_extend (MZ K hK) (cL hN hv hd gB) (a8 he.p cA vY) dX o7 dW vY fe) oZ) λD σ H ⟨sr,q⟩=>by
  obtain⟨a,ws,e1,h1,r1⟩:=cg sr hs;refine⟨_,e1,.inl ⟨rfl,_,b9.of h1⟩,sr,wl.mono (λm q1 u H1 g1 s1 v1=>?_) q⟩;obtain⟨a',uH,nA,dY,qL⟩:=cg s1 hs;rw[e1]at nA;cases nA;obtain⟨b,zs,rfl,hb,rb⟩:=v1.sq s1;refine⟨a,b,uH,zs,rfl,rfl,dY,hb,by rw[qL.length,rb.length];exact q1.1,λH2 sx h2=>?_⟩;obtain⟨s2,g2⟩:=gN s1 hs e1 sx h2 (qL.append rb);exact⟨_,k _,hr _,s2,(k _).mono (λt q2=>q2.go (g1.f.trans g2) sr s2) q1.2⟩
def vm(l:O PV):W (O PV×PV):=match l.getLast? with
 | some v=>.ret (l.dropLast,v)
 | none=>.fail
def Ic{l:O PV}(h:l.getLast?=some v):l=l.dropLast++[v]:=by
 rw[List.getLast?_eq_some_iff]at h;obtain⟨ys,rfl⟩:=h;simp
theorem az.snoc:∀{ws:O V}{l:O PV}{v:PV},az K [] H ws (l++[v])->∃SQ u,ws=SQ++[u]/\az K [] H SQ l/\VR K [] H u v
 | _,[],_,.cons r .nil=>⟨[],_,rfl,.nil,r⟩
 | _,x::l,v,.cons r t=>by
  obtain⟨SQ,u,rfl,h1,h2⟩:=az.snoc t;exact⟨_::SQ,u,rfl,.cons r h1,h2⟩
def SF.xr(i j:Nat){z:Str}{k:O PV×PV->W T}(hs:fs[i]?=some (some (.ol q0 l)))(hij:j≠i)(hK:X.K=K)(hN:X.N[i]?=some y)(hv:uL X.env.scope y)(hNd:X.N.Nodup)(hj:X.N[j]?=some z)(hx:Loc X.env.scope z)(hr:∀t:O PV×PV,SF X K x ((fs.set i (some (.ol q0 t.1))).set j (some (.val t.2))) rest (k t) out)
  (hd:iG y:=by decide) (gB:w5 y:=by decide) (dX:r6 (.Name y p) "pop" X.env (kt (.Name y p) X.env)=kt (.Name y p) X.env:=by rfl) (dW:Lq Ã bE:=by rfl)
  (oZ:lm (.Call (.Attribute (.Name y p) "pop" Ã) [] [] bE) (some (.Name z p')) pos.line X.env=pure false:=by rfl) (hf:K6 X z:=by first | exact .inl rfl | exact .inr rfl | assumption) :
  SF X K x fs (.Assign [.Name z p'] (.Call (.Attribute (.Name y p) "pop" Ã) [] [] bE) pos::rest) (.bind (vm l) k) out:=
 SF.step (sf hNd hj hx (Mp K hK BV PySem.F.slot_list_pop PySem.F.type_list_pop MX (cL hN hv hd gB) dX dW) oZ hf) λD σ H ⟨sr,q⟩=>by
  obtain⟨a,ws,e1,h1,r1⟩:=cg sr hs;have q:(vm l).run λt=>(k t).run λt=>bG K x σ fs H D (out t):=q;unfold vm at q;cases hl:l.getLast? with
  | none=>rw[hl]at q;exact q.elim
  | some v=>
   rw[hl]at q;have el:=Ic hl;rw[el]at r1;obtain⟨SQ,u,rfl,r0,ru⟩:=az.snoc r1;refine⟨_,e1,.inl ⟨rfl,_,b9.of h1⟩,a,SQ,u,rfl,rfl,h1,λH2 sx h2=>?_⟩;obtain⟨s2,g2⟩:=gN sr hs e1 sx h2 r0;have ru2:VR K [] H2 u v:=g2.vr sr ru;have s3:=s2.fm ru2 j;exact⟨_,k _,hr (l.dropLast,v),s3,(k _).mono (λt q2=>q2.go (g2.trans (bU.fm s2 _ _ j)) sr s3) q⟩
def jB(l:O PV)(i v:PV):W (O PV):=match i with
 | .int k=>match uJ l.length k with
  | some j=>.ret (l.set j v)
  | none=>.fail
 | _=>.fail
def SF.Ii(i:Nat){k:O PV->W T}(hs:fs[i]?=some (some (.ol q0 l)))(hN:X.N[i]?=some y)(hv:uL X.env.scope y)(he:EF X K fs e we)(hi:EF X K fs ei wi)(hr:∀l',SF X K x (fs.set i (some (.ol q0 l'))) rest (k l') out)
  (ha:∀v,zn (.Subscript (.Name y p) ei iD) X.env v=(do
   let ov <- sw [v] (kt (.Name y p) X.env)
   let iv <- sw [v,ov] (kt ei X.env)
   standAt iD
   sw [v,ov,iv] (Da ov iv v)
   release [v,ov,iv] []):=by intro _;rfl)
  (hd:iG y:=by decide) (gB:w5 y:=by decide) (Y2:swapsWithSole [.Subscript (.Name y p) ei iD] e pos.line X.env=pure false:=by rfl) (hw:swappedStores [.Subscript (.Name y p) ei iD] e X.env=pure bd:=by rfl)
  (h1:(wS [.Subscript (.Name y p) ei iD] X.env).map (·.2)=[zn (.Subscript (.Name y p) ei iD) X.env]:=by rfl) :
  SF X K x fs (.Assign [.Subscript (.Name y p) ei iD] e pos::rest) (.bind we λv=>.bind wi λn=>.bind (jB l n v) k) out:=
 SF.step (IE he.p (QH (cL hN hv hd gB) hi.p qI ha) Y2 hw h1) λD σ H ⟨sr,q⟩=>by
  refine⟨sr,we.mono (λv q1 u H1 g1 s1 v1=>?_) q⟩;obtain⟨a,ws,e1,h1,r1⟩:=cg s1 hs;refine⟨_,e1,s1,wi.mono (λn q2 u2 H2 g2 s2 v2=>?_) q1⟩;obtain⟨a',uH,nA,dY,qL⟩:=cg s2 hs;rw[e1]at nA;cases nA;cases v2 with
  | int kk=>
   have q2:(match uJ l.length kk with | some j=>ap (l.set j v) | none=>W.fail).run _:=q2;cases hj:uJ l.length kk with
   | none=>rw[hj]at q2;exact q2.elim
   | some j=>
    rw[hj]at q2;refine⟨a,uH,kk,j,rfl,rfl,dY,by rw[qL.length];exact hj,λH3 sx h3=>?_⟩;obtain⟨s3,g3⟩:=gN s2 hs e1 sx h3 (qL.set (g2.vr s1 v1) j);exact⟨_,k _,hr _,s3,(k _).mono (λt q3=>q3.go ((g1.trans g2).f.trans g3) sr s3) q2⟩
  | _=>exact q2.elim
end
end
end FL
variable{x:BW}
namespace FL
section
variable[cG]
variable{K:Ab}
def ft:O AK->O PV->bf
 | [],_=>[]
 | .v::ks,x::l=>some (.val x)::ft ks l
 | .v::_,[]=>[]
 | .p φ::ks,l=>some (.j9 φ)::ft ks l
 | .f a us ps fz::ks,l=>some (.adr a us ps fz)::ft ks l
def qv(ks:O AK)(l:O PV)(n:Nat):bf:=ft ks l++Ak (n-ks.length) bd
def yY(ks:O AK):Prop:=∀i j:Nat,(∃φ,ks[i]?=some (.p φ))->(∃φ,ks[j]?=some (.p φ))->i=j
theorem gG:∀{n:Nat}{m:w9 R n}{l:O PV}{Q:R->Prop},(lZ n m l).run Q->l.length=n
 | 0,_,[],_,_=>rfl
 | 0,_,_::_,_,h=>h.elim
 | n+1,_,[],_,h=>h.elim
 | n+1,m,x::l,Q,h=>by rw[Au,gG (n:=n) (m:=m x) h]
section
theorem fY.len(h:fY K H vs ks l):vs.length=ks.length:=by induction h <;> simp_all
def fY.slot(h:fY K H vs ks l):(ft ks l).length=vs.length/\∀(i:Nat) (s:SL),(ft ks l)[i]?=some (some s)->∃u,vs[i]?=some u/\rE K H u s/\(s.own=true->∃φ,s=.j9 φ/\ks[i]?=some (.p φ)):=by
 induction h with
 | nil=>exact⟨rfl,λi s e=>by simp[ft]at e⟩
 | @v u x vs ks l r t ih=>
  refine⟨by simp[ft,ih.1],λi s e=>?_⟩;cases i with
  | zero=>simp[ft]at e;subst e;exact⟨u,rfl,.inl ⟨x,rfl,r⟩,λz=>by cases z⟩
  | succ i=>simp[ft]at e;obtain⟨w,h1,h2,h3⟩:=ih.2 i s e;exact⟨w,by simpa using h1,h2,by simpa using h3⟩
 | @p a φ ws vs ks l e0 r t ih=>
  refine⟨by simp[ft,ih.1],λi s e=>?_⟩;cases i with
  | zero=>simp[ft]at e;subst e;exact⟨_,rfl,.inr ⟨a,rfl,ws,e0,r⟩,λ_=>⟨φ,rfl,rfl⟩⟩
  | succ i=>simp[ft]at e;obtain⟨w,h1,h2,h3⟩:=ih.2 i s e;exact⟨w,by simpa using h1,h2,by simpa using h3⟩
 | @f a us vs ps fz ks l r z t ih=>
  refine⟨by simp[ft,ih.1],λi s e=>?_⟩;cases i with
  | zero=>simp[ft]at e;subst e;exact⟨_,rfl,.inr ⟨a,rfl,rfl,r,z⟩,λz=>by cases z⟩
  | succ i=>simp[ft]at e;obtain⟨w,h1,h2,h3⟩:=ih.2 i s e;exact⟨w,by simpa using h1,h2,by simpa using h3⟩
def fY.QE(h:fY K H vs ks l)(e:ks[i]?=some (.p φ)):(ft ks l)[i]?=some (some (.j9 φ)):=by
 induction h generalizing i with
 | nil=>simp at e
 | v r t ih=>cases i with | zero=>simp at e | succ i=>simp[ft];exact ih (by simpa using e)
 | p e0 r t ih=>cases i with | zero=>simp at e;subst e;rfl | succ i=>simp[ft];exact ih (by simpa using e)
 | f r z t ih=>cases i with | zero=>simp at e | succ i=>simp[ft];exact ih (by simpa using e)
theorem lS{s:SL}(h:(qv ks l n)[i]?=some (some s)):(ft ks l)[i]?=some (some s):=by
 unfold qv at h;by_cases c:i < (ft ks l).length
 ·rw[AR c]at h;exact h
 ·rw[AN ∅,BC]at h
  split at h <;> cases h
def jg{N:O Str}(h:vs[i]?=some u):(L2.start N vs)[i]?=some (some u):=by
 unfold L2.start;rw[AR (by rw[Ag];exact(Al.mp h).1),Aj,h];rfl
def qG{N:O Str}(h:(L2.start N vs)[i]?=some (some u)):vs[i]?=some u:=by
 unfold L2.start at h;by_cases c:i < vs.length
 ·rw[AR (by simpa using c),Aj]at h;cases z:vs[i]? with
  | none=>rw[z]at h;cases h
  | some q=>rw[z]at h;cases h;rfl
 ·rw[AN (by simpa using c),BC]at h
  split at h <;> cases h
def fY.beg(h:fY K H vs ks l)(tb:TB H)(one:yY ks)(N:O Str):aM K H (L2.start N vs) (qv ks l N.length):=by
 obtain⟨hl,hs⟩:=h.slot;refine⟨?_,λi s e=>?_,λi j s t x y a e1 e2 o1 o2 q1 q2 z1 z2=>?_,tb⟩
 ·unfold L2.start qv;rw[Ah,Ah,Ag,hl,Bo,Bo,h.len]
 ·obtain⟨u,h1,h2,_⟩:=hs i s (lS e);exact⟨u,jg h1,h2⟩
 ·obtain⟨_,_,_,h3⟩:=hs i s (lS e1);obtain⟨_,_,_,h4⟩:=hs j t (lS e2);obtain⟨φ,_,k1⟩:=h3 o1;obtain⟨ψ,_,k2⟩:=h4 o2;exact one i j ⟨φ,k1⟩ ⟨ψ,k2⟩
def fY.go(h:fY K H vs ks l){N:O Str}(g:bU (L2.start N vs) (qv ks l N.length) H σ' bc H')(s':aM K H' σ' bc):WM vs ks H H':=by
 obtain⟨hl,hs⟩:=h.slot;refine⟨λa o e n=>(g.keep a o e λz=>?_).1,s'.tb,g.there,λa φ p=>?_⟩
 ·obtain⟨i,s,x,e1,e2,e3,e4⟩:=z;obtain⟨u,h1,h2,h3⟩:=hs i s (lS e1);obtain⟨φ,rfl,k⟩:=h3 e2;rcases e4 with rfl | e4
  ·exact n φ ⟨i,k,qG e3⟩
  ·cases e4
 ·obtain⟨i,e1,e2⟩:=p;have e3:=h.QE e1;have hi:=(Al.mp e3).1;have e4:(qv ks l N.length)[i]?=some (some (.j9 φ)):=by unfold qv;rw[AR hi];exact e3
  rcases g.pk a φ ⟨i,e4,jg e2⟩ with⟨j,k1,k2⟩ | ⟨_,k⟩
  ·exact s'.ownAt k1 rfl k2
  ·exact k
end
section
variable{st:sK}{f:ci}{N:O Str}
def ZN{m:w9 PV n}(Fn:Lo K x qual st f fd)(S:cy N ps (ay st))(RJ:ks.length=ps.length)(one:yY ks)
  (Î:∀l:O PV,l.length=n->∀(dM:bn) (A:Ch) (outer:O Env) (s:db) (H:Hp) (E:XK),d4 k (A.deeper (EQ qual (ay st) s.heap.objs.size f dM))->SF (qp pP P w K mg base N qual (ay st) f dM A outer s H E).OT K false (qv ks l N.length) (b0 st) (lZ n m l) .rt) :
  fy P w K mg base pP (k+1) f fd ps (HA K ks (lZ n m)):=by
 refine Fn.ok S (λvs H Q E h=>?_) (λdM A outer s H vs Q E hr h=>?_)
 ·obtain⟨_,l,h,_⟩:=h;rw[h.len];exact RJ
 obtain⟨tb,l,h,q⟩:=h;refine⟨_,(Î l (gG q) dM A outer s H E hr).p,h.beg tb one N,(lZ n m l).mono (λv q1 u σ' bc H' g s' r=>q1 u H' (h.go g s') r) q⟩
def fnL{m:w9 (O PV) n}(Fn:Lo K x qual st f fd)(S:cy N ps (ay st))(RJ:ks.length=ps.length)(one:yY ks)
  (Î:∀l:O PV,l.length=n->∀(dM:bn) (A:Ch) (outer:O Env) (s:db) (H:Hp) (E:XK),d4 k (A.deeper (EQ qual (ay st) s.heap.objs.size f dM))->SF (qp pP P w K mg base N qual (ay st) f dM A outer s H E).OT K false (qv ks l N.length) (b0 st) (lZ n m l) .rl) :
  fy P w K mg base pP (k+1) f fd ps (va K ks (lZ n m)):=by
 refine Fn.ok S (λvs H Q E h=>?_) (λdM A outer s H vs Q E hr h=>?_)
 ·obtain⟨_,l,h,_⟩:=h;rw[h.len];exact RJ
 obtain⟨tb,l,h,q⟩:=h;have sr:=h.beg tb one N;refine⟨_,(Î l (gG q) dM A outer s H E hr).p,sr,(lZ n m l).mono (λz q1 a ws σ' bc H' g s' fr e r=>q1 a ws H' (h.go g s') ?_ e r) q⟩;rcases fr with fr | ⟨i,t,x,e1,e2,np,e3,e4⟩
 ·exact fr
 ·obtain⟨_,_,_,h3⟩:=h.slot.2 i t (lS e1);obtain⟨φ,e,_⟩:=h3 e2;exact absurd e (np φ)
end
def sG:yY []:=λi j ⟨_,h⟩=>by simp at h
def vA(h:yY ks):yY (.v::ks):=λi j ⟨φ,a⟩ ⟨ψ,b⟩=>by
 cases i with
 | zero=>simp at a
 | succ i=>
  cases j with
  | zero=>simp at b
  | succ j=>rw[h i j ⟨φ,by simpa using a⟩ ⟨ψ,by simpa using b⟩]
end
end FL
namespace L2
def UK(K:Ab):R2:=λx y H Q=>∃a b xs zs,x=.ref a/\y=.ref b/\b9 K H a xs/\b9 K H b zs/\xs.length+zs.length<=sizeLine/\jF H (.lst (xs++zs)) Q
theorem MC(K:Ab)(hK:X.K=K):gF X (ss .Add) (UK K):=by
 subst hK;intro Z s σ H x y v u Q I rx ry h;obtain⟨l,b,xs,zs,rfl,rfl,hH,hB,hz,q⟩:=h;cases rx;cases ry;obtain⟨aj,r,⟨⟨cls,dd,data,sl⟩,n,ho,hc,hd,iW⟩,_⟩:=I.list hH;obtain⟨bj,r2,⟨⟨Wt,Wq,data2,SS⟩,n2,Li,Pg,Õ,Pe⟩,_⟩:=I.list hB;simp only at hc hd iW Pg Õ Pe;subst hc hd iW Pg Õ Pe;have e:aj.toArray++bj.toArray=(aj++bj).toArray:=by simp
 have hl:=r.length;have Lj:=r2.length;refine concat_meets ⟨_,ho,rfl⟩ ⟨_,Li,rfl⟩ noFill_list_add seq_list_add PySem.F.slot_list_add PySem.F.entry_list_add (PySem.F.args_list_add_2 _ _) (list_addW l b aj.toArray bj.toArray n n2 bd bd sl SS (by simp;omega)) ⟨ho,Li,?_⟩;rw[e];exact⟨.ref _,_,I.Rh (t':=s.toks) (r.append r2) (by rw[Ah];omega),rfl,q.at _ I.fresh⟩
end L2
variable{hi:FL.W (Option Int)}{neg:Bool}
namespace FL
section
variable[cG]
variable{K:Ab}
section
variable{a c:im}{pos:Pos}{w:W PV}{wm:W (O PV)}
def KI(l m:O PV):W (O PV):=.eB (l.length+m.length<=sizeLine) (.ret (l++m))
def fQL(K:Ab)(fs:bf)(w:W (O PV)):TE:=λσ H Q=>aM K H σ fs/\w.run λl=>∀u H',cp σ fs H H'->aM K H' σ fs->Oj K σ fs H' u l->(∀XZ,cp σ fs H' XZ->aM K XZ σ fs->∃a vs,u=.ref a/\b9 K XZ a vs/\az K [] XZ vs l)->Q u H'
structure F7(X:Cx)(K:Ab)(fs:bf)(e:im)(w:W (List PV)):Prop where p:PE X e (fQL K fs w)
def gK(h:LF X K fs e wl):F7 X K fs e wl:=⟨PE.imp h.p λσ H Q ⟨sr,q⟩=>⟨sr,wl.mono (λl q1 a vs H1 g1 s1 n e v=>q1 _ H1 g1 s1 (.inr ⟨a,rfl,.inl ⟨sr.noOwn n,vs,e,v⟩⟩) λH2 g2 s2=>⟨a,vs,rfl,b9.of (g2.oS e (sr.noOwn n)),g2.Hz s1 v⟩) q⟩⟩
def xo(i:Nat)(hs:fs[i]?=some (some (.ol q0 l)):=by rfl)(hN:X.N[i]?=some x:=by rfl)(hv:uL X.env.scope x:=by first | exact Cy rfl | exact B9 (Cy rfl) | exact B9 (B9 rfl))(hd:iG x:=by decide)(gB:w5 x:=by decide):F7 X K fs (.Name x pos) (.ret l):=
 ⟨PE.imp (cL hN hv hd gB) λσ H Q ⟨sr,q⟩=>by
  obtain⟨a,ws,e1,h1,r1⟩:=cg sr hs;refine⟨_,e1,q _ H .refl sr (.inr ⟨a,rfl,.inr ⟨i,q0,hs,e1⟩⟩) λH2 g2 s2=>?_⟩;obtain⟨a',uH,nA,dY,qL⟩:=cg s2 hs;rw[e1]at nA;cases nA;exact⟨a,uH,rfl,b9.of dY,qL⟩⟩
def Rf:PV->W (O PV)
 | .cl l=>.ret l
 | _=>.fail
def Qy(h:EF X K fs e w):F7 X K fs e (.bind w Rf):=⟨PE.imp h.p λσ H Q ⟨sr,q⟩=>⟨sr,w.mono (λx q1 u1 H1 g1 s1 v1=>by
 cases v1 with
 | cl e r=>exact q1 _ H1 g1 s1 (.inl ⟨_,_,rfl,.inl e,r⟩) λH2 g2 s2=>⟨_,_,rfl,((g2.cR s1).f _ _ e).sq,g2.Hz s1 r⟩
 | _=>exact q1.elim) q⟩⟩
def O2(hK:X.K=K)(ha:F7 X K fs a wl)(hb:F7 X K fs b wm):LF X K fs (.BinOp a .Add b pos) (.bind wl λl=>.bind wm λm=>KI l m):=⟨PE.imp (zr (MC K hK) ha.p hb.p) λσ H Q ⟨sr,q⟩=>⟨sr,wl.mono (λl q1 u1 H1 g1 s1 _ v1=>⟨s1,wm.mono (λm q2 u2 H2 g2 s2 _ v2=>by
 obtain⟨a,vs,rfl,h1,r1⟩:=v1 H2 g2 s2;obtain⟨b,ws,rfl,h2,r2⟩:=v2 H2 .refl s2;refine⟨a,b,vs,ws,rfl,rfl,h1,h2,by rw[r1.length,r2.length];exact q2.1,λp H3 s3 h3 n3=>?_⟩;have gg:=g1.trans g2;exact q2.2 p _ H3 (gg.trans (cp.same s3)) (s2.same s3) (gg.there p n3) h3 (az.tk s3.cU (r1.append r2))) q1⟩) q⟩⟩
def Jj{Q:VK}(g1:cp σ fs H H1)(s1:aM K H1 σ fs)(r:az K [] H1 vs l)(q:∀a vs H',cp σ fs H H'->aM K H' σ fs->H a=bd->H' a=some (.lst vs)->az K [] H' vs l->Q (.ref a) H'):jF H1 (.lst vs) Q:=λp H2 s2 h2 n2=>q p vs H2 (g1.trans (cp.same s2)) (s1.same s2) (g1.there p n2) h2 (az.tk s2.cU r)
def Jo(K:Ab):CL K (Iu K) .ret:=λ{fs σ H Q u l} s v q=>by
 obtain⟨a,vs,rfl,h,rs⟩:=v.sq s;exact⟨a,vs,rfl,h,Jj .refl s rs q⟩
def Jt(hK:X.K=K)(hg:Gl X "list")(hm:X.mg "list"=bd)(ha:QF X K fs e wl)(he:fX X e []:=by rfl)(cI:kJ X pos []:=by rfl):LF X K fs (.Call (.Name "list" p) [e] [] pos) wl:=Ju (m:=.ret) (yG K hK) (Jo K) hg hm boot_list ha ⋯ ⋯ he cI
def dH(hK:X.K=K)(hg:Gl X "tuple")(hm:X.mg "tuple"=bd)(ha:QF X K fs e wl)(he:fX X e []:=by rfl)(cI:kJ X pos []:=by rfl):EF X K fs (.Call (.Name "tuple" p) [e] [] pos) (.bind wl ma):=Hc (Hj K hK) (LH K) hg hm boot_tuple ha ⋯ ⋯ he cI
def kq(hK:X.K=K)(hg:Gl X "len")(hm:X.mg "len"=bd)(ha:QF X K fs e wl)(he:fX X e []:=by rfl)(cI:kJ X pos []:=by rfl):EF X K fs (.Call (.Name "len" p) [e] [] pos) (.bind wl qc):=Kp (rj K hK) (M6 K) hg hm boot_len ha ⋯ ⋯ he cI
def K3(ha:EF X K fs e w)(he:ga [e] X.env=(false,kt e X.env)::ga [] X.env):AF X K fs [e] (Ak 1 .v) (R:=R) (λk=>.bind w λx=>k [x]):=aq ha aw he
def gE(hK:X.K=K)(hg:Gl X "len")(hm:X.mg "len"=bd)(ha:EF X K fs e w)(he:fX X e []:=by rfl)(cI:kJ X pos []:=by rfl):EF X K fs (.Call (.Name "len" p) [e] [] pos) (.bind w λx=>pX il [x]):=nU (n:=1) (rj K hK) (Oa K) hg hm boot_len (K3 ha he) ⋯ ⋯ he cI
def Wm(hg:Gl X "abs")(hm:X.mg "abs"=bd)(ha:EF X K fs e w)(he:fX X e []:=by rfl)(cI:kJ X pos []:=by rfl):EF X K fs (.Call (.Name "abs" p) [e] [] pos) (.bind w λx=>pX KW [x]):=nU (n:=1) KL Oc hg hm boot_abs (K3 ha he) ⋯ ⋯ he cI
def tU(hg:Gl X "int")(hm:X.mg "int"=bd)(ha:EF X K fs e w)(he:fX X e []:=by rfl)(cI:kJ X pos []:=by rfl):EF X K fs (.Call (.Name "int" p) [e] [] pos) (.bind w λx=>pX um [x]):=Ko (n:=1) Hq Ob hg hm boot_int (K3 ha he) ⋯ ⋯ he cI
def Wg(hc:X.calm=true)(hg:Gl X "max")(hm:X.mg "max"=bd)(ha:EF X K fs a wa)(hb:EF X K fs b wb)(he:ga [a,b] X.env=(false,kt a X.env)::ga [b] X.env:=by rfl)(VJ:fX X b []:=by rfl)(cI:(wP pos (ga [b] X.env)).any (·.1)=false:=by rfl):EF X K fs (.Call (.Name "max" p) [a,b] [] pos) (.bind wa λx=>.bind wb λy=>pX KU [x,y]):=nU (n:=2) (Hl hc) N9 hg hm boot_max (aq ha (aq hb aw VJ) he) ⋯ ⋯ he cI
def Wf(hc:X.calm=true)(hg:Gl X "min")(hm:X.mg "min"=bd)(ha:EF X K fs a wa)(hb:EF X K fs b wb)(he:ga [a,b] X.env=(false,kt a X.env)::ga [b] X.env:=by rfl)(VJ:fX X b []:=by rfl)(cI:(wP pos (ga [b] X.env)).any (·.1)=false:=by rfl):EF X K fs (.Call (.Name "min" p) [a,b] [] pos) (.bind wa λx=>.bind wb λy=>pX KS [x,y]):=nU (n:=2) (Hk hc) N8 hg hm boot_min (aq ha (aq hb aw VJ) he) ⋯ ⋯ he cI
def Vd(hK:X.K=K)(hc:X.calm=true)(Zn:Gl X "list")(Zf:X.mg "list"=bd)(Zm:Gl X "reversed")(Ze:X.mg "reversed"=bd)(he:F7 X K fs e wl)
  (qi:ga [.Call (.Name "reversed" p3) [e] [] p4] X.env=(false,kt (.Call (.Name "reversed" p3) [e] [] p4) X.env)::ga [] X.env:=by rfl) (lV:fX X e []:=by rfl) :
  LF X K fs (.Call (.Name "list" p1) [.Call (.Name "reversed" p3) [e] [] p4] [] p2) (.bind wl λl=>.ret l.reverse):=⟨PE.imp (xv K hK hc Zn Zf Zm Ze he.p qi lV) λσ H Q ⟨sr,q⟩=>⟨sr,wl.mono (λl q1 u1 H1 g1 s1 _ v1=>by
 obtain⟨a,vs,rfl,h1,r1⟩:=v1 H1 .refl s1;exact⟨a,vs,rfl,h1,Jj g1 s1 r1.reverse q1⟩) q⟩⟩
def Tg:O PV->W (O Bool)
 | []=>.ret []
 | .bl b::r=>.bind (Tg r) λl=>.ret (b::l)
 | _=>.fail
theorem ug:∀{l:O PV}{Q:O Bool->Prop},(Tg l).run Q->∃bs:O Bool,l=bs.map PV.bl/\Q bs
 | [],Q,h=>⟨[],rfl,h⟩
 | .bl b::r,Q,h=>by
  obtain⟨bs,e,q⟩:=ug (l:=r) h;exact⟨b::bs,by rw[e];rfl,q⟩
 | .aK::r,Q,h=>h.elim
 | .int _::r,Q,h=>h.elim
 | .str _::r,Q,h=>h.elim
 | .tup _::r,Q,h=>h.elim
 | .ref _::r,Q,h=>h.elim
 | .ty _::r,Q,h=>h.elim
 | .cl _::r,Q,h=>h.elim
@[simp] theorem uh:∀bs:O Bool,Tg (bs.map PV.bl)=.ret bs
 | []=>rfl
 | b::bs=>by
  show am (Tg (bs.map PV.bl)) _=_;rw[uh bs];rfl
def Hw(l:O PV):W PV:=.bind (Tg l) λbs=>.ret (.bl (bs.all id))
def K0(l:O PV):W PV:=.bind (Tg l) λbs=>.ret (.bl (bs.any id))
def Pt(hK:X.K=K)(hc:X.calm=true)(hg:Gl X "all")(hm:X.mg "all"=bd)(ha:F7 X K fs e wl)(he:fX X e []:=by rfl)(cI:kJ X pos []:=by rfl):EF X K fs (.Call (.Name "all" p) [e] [] pos) (.bind wl Hw):=⟨PE.imp (eW (Hu K hK hc) hg hm boot_all (a8 ha.p cA he) ⋯ ⋯ he cI) λσ H Q ⟨sr,q⟩=>⟨sr,wl.mono (λl q1 u1 H1 g1 s1 _ v1=>by
 obtain⟨bs,e,q2⟩:=ug (l:=l) q1;obtain⟨a,vs,rfl,h1,r1⟩:=v1 H1 .refl s1;rw[e]at r1;have:=mL r1;subst this;exact⟨a,bs,rfl,h1,q2 _ H1 g1 s1 (.bl _)⟩) q⟩⟩
def Wl(hK:X.K=K)(hc:X.calm=true)(hg:Gl X "any")(hm:X.mg "any"=bd)(ha:F7 X K fs e wl)(he:fX X e []:=by rfl)(cI:kJ X pos []:=by rfl):EF X K fs (.Call (.Name "any" p) [e] [] pos) (.bind wl K0):=⟨PE.imp (eW (Ht K hK hc) hg hm boot_any (a8 ha.p cA he) ⋯ ⋯ he cI) λσ H Q ⟨sr,q⟩=>⟨sr,wl.mono (λl q1 u1 H1 g1 s1 _ v1=>by
 obtain⟨bs,e,q2⟩:=ug (l:=l) q1;obtain⟨a,vs,rfl,h1,r1⟩:=v1 H1 .refl s1;rw[e]at r1;have:=mL r1;subst this;exact⟨a,bs,rfl,h1,q2 _ H1 g1 s1 (.bl _)⟩) q⟩⟩
def dQ(k:Kd)(x:PV):W PV:=match x with
 | .ref _=>.fail
 | .ty _=>.fail
 | .ob _ _=>.fail
 | x=>.ret (.bl (k.is x))
def OL(K:Ab):O V->Hp->VK->Prop:=λxs H Q=>∃x c t b,xs=[x,.ty c]/\(jO K H x t\/(t=.type "tuple"/\∃a vs,x=.ref a/\cS K H a vs)\/(t=.type "list"/\∃a vs,x=.ref a/\b9 K H a vs)\/(t=.type "dict"/\∃a,x=.ref a/\XY H a))/\Bp K t (.type c)=some b/\Q (.bl b) H
def Ho(hK:X.K=K):bt X (.builtin "isinstance") (OL K):=by
 subst hK;intro Z s σ H xs us Q I r h;obtain⟨x,c,t,b,rfl,ty | ty | ⟨rfl,a,vs,rfl,hL⟩ | ⟨rfl,a,rfl,hD⟩,e,q⟩:=h
 ·exact m9 Z s σ H _ us Q I r ⟨x,c,t,b,rfl,ty,e,q⟩
 ·exact Hn X.K rfl Z s σ H _ us Q I r ⟨x,c,t,b,rfl,.inr ty,e,q⟩
 ·obtain⟨u,w,rfl,r1,r2⟩:=vals2 r;cases r1;cases r2;obtain⟨aj,_,⟨o,n,h1,h2,_⟩,_⟩:=I.list hL;exact A9 Ec I.qU ⟨o,h1,h2⟩ e (λz=>nomatch z) λtk=>⟨.bl b,H,I.tok _,rfl,q⟩
 ·obtain⟨u,w,rfl,r1,r2⟩:=vals2 r;cases r1;cases r2;have:∃o,s.heap.get? a=some o/\o.cls=.type "dict":=by
   rcases hD with⟨kvs,e⟩ | ⟨kvs,e⟩
   ·obtain⟨_,_,vs,_,o,_,_,h1,h2,_⟩:=lM I.aY e;exact⟨o,h1,h2.1⟩
   ·obtain⟨_,_,xs,_,o,_,_,h1,h2,_⟩:=lL I.aY e;exact⟨o,h1,h2.1⟩
  obtain⟨o,h1,h2⟩:=this;exact A9 Ed I.qU ⟨o,h1,h2⟩ e (λz=>nomatch z) λtk=>⟨.bl b,H,I.tok _,rfl,q⟩
def dc(hK:X.K=K)(k:Kd)(hg:Gl X "isinstance")(hm:X.mg "isinstance"=bd)(ha:EF X K fs a wa)(hgx:Gl X x)(hmx:X.mg x=bd)(hv:pc x=some (.type k.name))(hn:x≠"__name__":=by decide)(hd:iG x:=by decide)
  (he:ga [a,.Name x p2] X.env=(false,kt a X.env)::ga [.Name x p2] X.env:=by rfl) (VJ:ga [Expr.Name x p2] X.env=(false,kt (.Name x p2) X.env)::ga [] X.env:=by rfl)
  (cI:(wP pos (ga [Expr.Name x p2] X.env)).any (·.1)=false:=by rfl):EF X K fs (.Call (.Name "isinstance" p) [a,.Name x p2] [] pos) (.bind wa (dQ k)):=
 ⟨PE.imp (eW (Ho hK) hg hm boot_isinstance (a8 ha.p (a8 (Mq (v:=.ty k.name) hgx hmx hv rfl hn hd) cA VJ) he) ⋯ ⋯ he cI) λσ H Q ⟨sr,q⟩=>⟨sr,wa.mono (λx q1 u1 H1 g1 s1 v1=>by
  have Á:∀{t:bn}{y:PV},jO K H1 u1 t->Bp K t (.type k.name)=some (k.is y)->Q (.bl (k.is y)) H1->OL K [u1,.ty k.name] H1 Q:=λty e q=>⟨_,_,_,_,rfl,.inl ty,e,q⟩;cases v1 with
  | aK=>exact Á (y:=.aK) .aK (by rw[(nN K).1 k];cases k <;> rfl) (q1 _ H1 g1 s1 (.bl _))
  | bl b=>exact Á (.bl b) (Rm K b k) (q1 _ H1 g1 s1 (.bl _))
  | int b=>exact Á (.int b) (Nd K b k) (q1 _ H1 g1 s1 (.bl _))
  | str b=>exact Á (.str b) (Nc K b k) (q1 _ H1 g1 s1 (.bl _))
  | ty n=>exact q1.elim
  | ref n=>exact q1.elim
  | ob _ _ _ _ _=>exact q1.elim
  | @dk a o kvs ks l e k1 r=>exact⟨_,_,_,_,rfl,.inr (.inr (.inr ⟨rfl,_,rfl,.inl ⟨_,.inr ⟨_,e⟩⟩⟩)),(show _=some (k.is (.dv ks l)) by rw[(nN K).2.2 k];cases k <;> rfl),q1 _ H1 g1 s1 (.bl _)⟩
  | @dt a o kvs ks l e k1 r=>exact⟨_,_,_,_,rfl,.inr (.inr (.inr ⟨rfl,_,rfl,.inr ⟨_,.inr ⟨_,e⟩⟩⟩)),(show _=some (k.is (.dv ks l)) by rw[(nN K).2.2 k];cases k <;> rfl),q1 _ H1 g1 s1 (.bl _)⟩
  | @cl p vs l e r=>exact⟨_,_,_,_,rfl,.inr (.inr (.inl ⟨rfl,_,_,rfl,e.sq⟩)),(show _=some (k.is (.cl l)) by rw[(nN K).2.1 k];cases k <;> rfl),q1 _ H1 g1 s1 (.bl _)⟩
  | @tup p vs l e r=>exact⟨_,_,_,_,rfl,.inr (.inl ⟨rfl,_,_,rfl,cS.of e⟩),Nb K _ k,q1 _ H1 g1 s1 (.bl _)⟩) q⟩⟩
def L3(l:O PV):PV->W (O PV)
 | .int k=>.eB (-(2 ^ 63)<=k/\k < 2 ^ 63/\l.length*k.toNat<=sizeLine) (.ret (Ak k.toNat l).flatten)
 | _=>.fail
def Ve(ha:LF X K fs a wl)(hb:EF X K fs b wb):LF X K fs (.BinOp a .Mult b pos) (.bind wl λl=>.bind wb λy=>L3 l y):=⟨PE.imp (zr QS ha.p hb.p) λσ H Q ⟨sr,q⟩=>⟨sr,wl.mono (λl q1 a vs H1 g1 s1 n e v=>⟨s1,wb.mono (λy q2 u2 H2 g2 s2 v2=>by
 cases v2 with
 | int k=>
  have no:=sr.noOwn n;have e2:=(g2.oS e no);have r2:=g2.Hz s1 v;refine⟨a,k,vs,rfl,rfl,e2,q2.1.1,q2.1.2.1,by rw[r2.length];exact q2.1.2.2,λp hp=>?_⟩;have sm:=iO hp (.lst (Ak k.toNat vs).flatten);have gg:=g1.trans g2;exact q2.2 p _ _ (gg.trans (cp.same sm)) (s2.same sm) (gg.there p hp) aE (az.tk sm.cU (r2.rep k.toNat))
 | _=>exact q2.elim) q1⟩) q⟩⟩
def part:PV->W (Option Int)
 | .int i=>.ret (some i)
 | _=>.fail
def Jd:OF X K fs bd (.ret bd):=⟨PO.imp Mh λσ H Q ⟨sr,q⟩=>q H .refl sr⟩
def Jc(h:EF X K fs e w):OF X K fs (some e) (.bind w part):=⟨PO.imp (Mg h.p) λσ H Q ⟨sr,q⟩=>⟨sr,w.mono (λx q1 u1 H1 g1 s1 v1=>by
 cases v1 with
 | int i=>exact⟨_,rfl,q1 H1 g1 s1⟩
 | _=>exact q1.elim) q⟩⟩
variable{el eh:Option im}{lo:W (Option Int)}
def Uq(x:PV)(i j:Option Int):W PV:=match x with
 | .str z=>.eB (z.length<=sizeLine) (.ret (.str (Eo z i j)))
 | _=>.fail
def Wc(he:EF X K fs e w)(hl:OF X K fs el lo)(hh:OF X K fs eh hi):EF X K fs (.Subscript e (.Slice el eh bd p2) pos) (.bind w λx=>.bind lo λi=>.bind hi λj=>Uq x i j):=⟨PE.imp (vo Qh he.p hl.p hh.p) λσ H Q ⟨sr,q⟩=>⟨sr,w.mono (λx q1 u1 H1 g1 s1 v1=>⟨s1,lo.mono (λi q2 H2 g2 s2=>⟨s2,hi.mono (λj q3 H3 g3 s3=>by
 cases v1 with
 | str z=>exact⟨_,rfl,q3.1,q3.2 _ H3 ((g1.trans g2).trans g3) s3 (.str _)⟩
 | _=>exact q3.elim) q2⟩) q1⟩) q⟩⟩
def mW(h:F7 X K fs e wl):∀σ H Q,fE K fs (.bind wl λl=>.ret (.bl (if neg then !l.isEmpty else l.isEmpty))) σ H Q->OC (λx y H Q=>∃p q xs,x=.ref p/\y=.ref q/\b9 K H p xs/\b9 K H q []/\Q (.bl (if neg then !xs.isEmpty else xs.isEmpty)) H) (fQL K fs wl) (fL K fs (.ret [])) σ H Q:=λσ H Q ⟨sr,q⟩=>
 ⟨sr,wl.mono (λl q1 u1 H1 g1 s1 _ v1=>⟨s1,λa2 vs2 H2 g2 s2 n2 e2 r2=>by
  cases r2;obtain⟨a,vs,rfl,h1,r1⟩:=v1 H2 g2 s2;refine⟨a,a2,vs,rfl,rfl,h1,b9.of e2,?_⟩;rw[Kj r1];exact q1 _ H2 (g1.trans g2) s2 (.bl _)⟩) q⟩
def OY:LF X K fs (.List [] pos) (.ret []):=O0 (n:=0) aw
theorem aa3(hK:X.K=K)(hu:X.A.units+200 < pr)(h:F7 X K fs e wl)(hk:nw .Eq (.List [] p2)=false:=by rfl):EF X K fs (.Compare e [.Eq] [.List [] p2] pos) (.bind wl λl=>.ret (.bl l.isEmpty)):=⟨PE.imp (si (xy K hK ∅) h.p OY.p hk) (mW (neg:=false) h)⟩
theorem TZ(hK:X.K=K)(hu:X.A.units+200 < pr)(h:F7 X K fs e wl)(hk:nw .NotEq (.List [] p2)=false:=by rfl):TF X K fs (.Compare e [.NotEq] [.List [] p2] pos) (.bind wl λl=>.ret (!l.isEmpty)):=⟨PT.imp (nI (xx K hK ∅) h.p OY.p hk) λσ H Q q=>mW (neg:=true) h σ H _ (V5 (w:=.bind wl λl=>.ret (.bl (!l.isEmpty))) σ H Q q)⟩
def oW:O PV->W (O Int)
 | []=>.ret []
 | .int i::r=>.bind (oW r) λl=>.ret (i::l)
 | _=>.fail
theorem mC:∀{l:O PV}{Q:O Int->Prop},(oW l).run Q->∃ns:O Int,l=ns.map PV.int/\Q ns
 | [],Q,h=>⟨[],rfl,h⟩
 | .int b::r,Q,h=>by
  obtain⟨bs,e,q⟩:=mC (l:=r) h;exact⟨b::bs,by rw[e];rfl,q⟩
 | .aK::r,Q,h=>h.elim
 | .bl _::r,Q,h=>h.elim
 | .str _::r,Q,h=>h.elim
 | .tup _::r,Q,h=>h.elim
 | .ref _::r,Q,h=>h.elim
 | .ty _::r,Q,h=>h.elim
 | .cl _::r,Q,h=>h.elim
@[simp] theorem jt:∀bs:O Int,oW (bs.map PV.int)=.ret bs
 | []=>rfl
 | b::bs=>by
  show am (oW (bs.map PV.int)) _=_;rw[jt bs];rfl
end
end
section
variable[cG]
variable{K:Ab}
abbrev b2(m:M2)(wa wb:W PV):W PV:=.bind wa λx=>.bind wb λy=>of2 m x y
abbrev t2(m:M2)(wa wb:W PV):W Bool:=.bind wa λx=>.bind wb λy=>.bind (of2 m x y) Sz
abbrev c1(m:rF)(w:W PV):W PV:=.bind w λx=>pX m [x]
abbrev cE(wl:W (O PV))(wb:W PV):W PV:=.bind wl λl=>.bind wb λy=>zI l y
abbrev HZ(a b:W Bool):W Bool:=.bind a λk=>if k=true then b else .ret false
abbrev SR(a b:W Bool):W Bool:=.bind a λk=>if k=true then .ret true else b
abbrev uY(a:W Bool):W Bool:=.bind a λk=>.ret (!k)
abbrev g9{α:Type}(t:W Bool)(a b:W α):W α:=.bind t λk=>if k=true then a else b
section
variable{a c:im}{rest:O sK}{pos:Pos}{S T T2:Type}{hd:S->bf}{s0:S}{w:W PV}{wt:PV->W T2}{cq:S->T2->bf}{k:S->W T}{out:T->End}{x:Bool}
def SF.G7{f:PV->S->W S}(hp:wT (f8 X.prog X.w) X.A X.env X.xe)(hc:X.calm=true)(hi:nW X K fs tg iter wl)(hl:fw fs (hd s0))(hg:PG X tg (cP i))(hb:∀s p,SF X K false ((hd s).set i (some (.val p))) body (f p s) λs'=>.nc (hd s'))(hr:∀s,SF X K x (hd s) rest (k s) out)(hs:qC X iter:=by intro _;rfl) :
  SF X K x fs (.For tg iter body [] pos::rest) (.bind wl λl=>.bind (dZ l s0 f) k) out:=SF.for (wt:=.ret) (wb:=λp s=>f p s) hp hc hi hl (λs=>RQ hg) (λ_ _=>rfl) hb hr hs
def SF.RU{wb:T2->S->W S}(hp:wT (f8 X.prog X.w) X.A X.env X.xe)(hc:X.calm=true)(hi:nW X K fs tg iter wl)(hl:fw fs (hd s0))(hg:∀s,GF X K (hd s) tg is wt (cq s))(hb:∀s t,SF X K false (cq s t) body (wb t s) λs'=>.nc (hd s'))(hr:∀s,SF X K x (hd s) rest (k s) out)(hs:qC X iter:=by intro _;rfl) :
  SF X K x fs (.For tg iter body [] pos::rest) (.bind wl λl=>.bind (dZ l s0 λp s=>.bind (wt p) λt=>wb t s) k) out:=SF.for hp hc hi hl hg (λ_ _=>rfl) hb hr hs
def SF.VX{inj:R->T}{f:PV->S->W (Lp S R)}(hp:wT (f8 X.prog X.w) X.A X.env X.xe)(hc:X.calm=true)(hi:nW X K fs tg iter wl)(hl:fw fs (hd s0))(hg:PG X tg (cP i))(ho:∀t,(out (inj t)).zK)(hb:∀s p,SF X K false ((hd s).set i (some (.val p))) body (f p s) (Xe hd λr=>out (inj r)))(hr:∀s,SF X K x (hd s) rest (k s) out)(hs:qC X iter:=by intro _;rfl) :
  SF X K x fs (.For tg iter body [] pos::rest) (.bind wl λl=>.bind (FL.jK l s0 f) (JY k inj)) out:=SF.jK (wt:=.ret) (wb:=λp s=>f p s) hp hc hi hl (λs=>RQ hg) (λ_ _=>rfl) ho hb hr hs
def SF.VW{inj:R->T}{wb:T2->S->W (Lp S R)}(hp:wT (f8 X.prog X.w) X.A X.env X.xe)(hc:X.calm=true)(hi:nW X K fs tg iter wl)(hl:fw fs (hd s0))(hg:∀s,GF X K (hd s) tg is wt (cq s))(ho:∀t,(out (inj t)).zK)(hb:∀s t,SF X K false (cq s t) body (wb t s) (Xe hd λr=>out (inj r)))(hr:∀s,SF X K x (hd s) rest (k s) out)(hs:qC X iter:=by intro _;rfl) :
  SF X K x fs (.For tg iter body [] pos::rest) (.bind wl λl=>.bind (FL.jK l s0 λp s=>.bind (wt p) λt=>wb t s) (JY k inj)) out:=SF.jK hp hc hi hl hg (λ_ _=>rfl) ho hb hr hs
def HX(l:O PV):W (O PV):=.eB (qo l=true) (.ret l)
mutual
theorem VR.lO{ι:O ci}{H H':Hp}(t:∀p vs,H p=some (.tup vs)->H' p=some (.tup vs)):∀{v:V}{q:PV},VR K ι H v q->q.dat=true->VR K [] H' v q
 | _,_,.aK,_=>.aK
 | _,_,.bl b,_=>.bl b
 | _,_,.int i,_=>.int i
 | _,_,.str x,_=>.str x
 | _,_,.ty n,h=>by rw[PV.dat]at h;cases h
 | _,_,.tup e r,h=>.tup (t _ _ e) (az.lO t r (by rw[PV.dat]at h;exact h))
 | _,_,.cl e r,h=>by rw[PV.dat]at h;cases h
 | _,_,.dk _ _ _,h=>by rw[PV.dat]at h;cases h
 | _,_,.dt _ _ _,h=>by rw[PV.dat]at h;cases h
 | _,_,.ob _ _ _ _ _,h=>by rw[PV.dat]at h;cases h
 | _,_,.ref e,h=>by rw[PV.dat]at h;cases h
theorem az.lO{ι:O ci}{H H':Hp}(t:∀p vs,H p=some (.tup vs)->H' p=some (.tup vs)):∀{v:O V}{q:O PV},az K ι H v q->qo q=true->az K [] H' v q
 | _,_,.nil,_=>.nil
 | _,_,.cons r s,h=>by
  rw[qo,AJ]at h;exact .cons (VR.lO t r h.1) (az.lO t s h.2)
end
def bor(I:Inv X Z σ H s)(sr:aM K H σ fs)(hs:fs[i]?=some (some t))(hb:t.bw=true):∃a o ob,Inv X Z σ (upd H a (.bQ ob o)) s/\aM K (upd H a (.bQ ob o)) σ (fs.set i (some (.val t.bv)))/\
  ∀σ' s' H1,Inv X Z σ' H1 s'->cp σ (fs.set i (some (.val t.bv))) (upd H a (.bQ ob o)) H1->aM K H1 σ (fs.set i (some (.val t.bv)))->Inv X Z σ' (upd H1 a o) s'/\cp σ fs H (upd H1 a o)/\aM K (upd H1 a o) σ fs/\(∀p vs,H1 p=some (.tup vs)->upd H1 a o p=some (.tup vs))/\∀p vs,p≠a->H1 p=some (.lst vs)->upd H1 a o p=some (.lst vs):=by
 have ho:=SL.KN hb;obtain⟨u,e1,⟨v,e,_⟩ | ⟨a,e,oa⟩⟩:=sr.at' i _ hs
 ·subst e;cases hb
 subst e;obtain⟨ob,o,h1,n1,n2,I2,vr⟩:=VS I oa hb;have h0:∀o u,X.H₀ a≠some (.bQ o u):=λo u z=>by
  have:=I.base.pd a o u z;rw[h1]at this;exact n2 _ _ (Option.some.inj this)
 refine⟨a,o,ob,I2,sr.VQ hs ho e1 h1 n1 n2 vr,λσ' s' H1 J g s1=>?_⟩;have pf:∀φ b,fK σ (fs.set i (some (.val t.bv))) φ b->fK σ fs φ b:=λφ b ⟨j,z1,z3⟩=>by
  rcases bV z1 with⟨_,z⟩ | ⟨n,z1⟩
  ·cases z
  ·exact⟨j,z1,z3⟩
 have npa:∀φ,¬fK σ fs φ a:=λφ ⟨j,z1,z3⟩=>by
  have:=sr.nd j i _ _ a a a z1 hs rfl ho z3 e1 (.inl rfl) (.inl rfl);subst this;rw[hs]at z1;cases z1;cases hb
 have e2:=g.keep a _ aE λφ p=>npa φ (pf φ a p);have hk:=JN J.aY e2;have ow:o.ow=true:=by
  obtain⟨o',z1,_,_,z2⟩:=oa.ex ho (.inl rfl);rw[h1]at z1;cases z1;exact z2
 have ge:cp σ fs H (upd H1 a o):=by
  refine⟨λb o z n nt=>?_,λb z=>?_⟩
  ·by_cases c:b=a
   ·subst c;rw[h1]at z;cases z;exact aE
   ·rw[ar c];exact g.keep b o (by rw[ar c];exact z) (λφ p=>n φ (pf φ b p)) nt
  ·by_cases c:b=a
   ·subst c;rw[aE]at z;cases z
   ·rw[ar c]at z;have:=g.there b z;rw[ar c]at this;exact this
 refine⟨J.P5 e2 h0 (hk a _ aE) hk,ge,⟨sr.len,λj t z=>?_,sr.nd,s1.tb.P5 J.aY e2 ow⟩,λp vs z=>?_,λp vs n z=>by rw[ar n];exact z⟩
 ·obtain⟨u,k1,k2⟩:=sr.at' j t z;refine⟨u,k1,?_⟩;by_cases c:∃φ,t=.j9 φ
  ·obtain⟨φ,rfl⟩:=c;have ji:j≠i:=λy=>by subst y;rw[hs]at z;cases z;cases hb
   rcases k2 with⟨v,y,_⟩ | ⟨b,rfl,_⟩
   ·cases y
   ·obtain⟨vs,y1,y2⟩:=s1.ownAt (t:=.j9 φ) (i:=j) (by rw[aG ji];exact z) rfl k1;refine .inr ⟨b,rfl,vs,?_,y2⟩;rw[ar (λy=>by subst y;exact npa φ ⟨j,z,k1⟩)];exact y1
  ·refine k2.mono (ge.cR sr) (λx b o eb ow hb zz nt=>ge.keep b o zz (λφ ⟨j',p1,p3⟩=>?_) nt);subst eb;have:=sr.nd j j' t _ x b b z p1 ow rfl k1 p3 hb (.inl rfl);subst this;rw[z]at p1;cases p1;exact c ⟨φ,rfl⟩
 ·rw[ar (λy=>by subst y;rw[e2]at z;cases z)];exact z
end
end
end FL
variable{G:O Int->Prop}
namespace FL
section
variable[cG]
variable{K:Ab}
def Uo(K:Ab)(m:O PV->O PV->W (PV×O PV)):Sp:=λvs H Q _=>TB H/\∃a HP ws lo l,vs=.ref a::HP/\H a=some (.lst ws)/\az K [] H ws lo/\az K [] H HP l/\(m lo l).run λt=>∀u uH H',(∀c o,c≠a->H c=some o->o.nt=true->H' c=some o)->TB H'->(∀b,H' b=bd->H b=bd)->H' a=some (.lst uH)->az K [] H' uH t.2->VR K [] H' u t.1->Q u H'
section
variable{st:sK}{f:ci}{N:O Str}
def KQ(a:ci)(lo l:O PV)(n:Nat):bf:=some (.ol (some a) lo)::(l.map λv=>some (SL.val v))++Ak (n-1-l.length) bd
def az.slot(r:az K [] H vs l){s:SL}(h:(l.map λv=>some (SL.val v))[i]?=some (some s)):∃u v,vs[i]?=some u/\s=.val v/\VR K [] H u v:=by
 rw[Aj]at h;cases e:l[i]? with
 | none=>rw[e]at h;cases h
 | some v=>
  rw[e]at h;obtain⟨u,h1,h2⟩:=r.get e;cases h;exact⟨u,v,h1,rfl,h2⟩
theorem fnO{m:O PV->w9 (PV×O PV) n}(Fn:Lo K x qual st f fd)(S:cy N ps (ay st))(hn:n+1=ps.length)
  (Î:∀(a:ci) (lo l:O PV),l.length=n->∀(dM:bn) (A:Ch) (outer:O Env) (s:db) (H:Hp) (E:XK),d4 k (A.deeper (EQ qual (ay st) s.heap.objs.size f dM))->SF (qp pP P w K mg base N qual (ay st) f dM A outer s H E).OT K false (KQ a lo l N.length) (b0 st) (lZ n (m lo) l) λt=>.ro t.1 a t.2) :
  fy P w K mg base pP (k+1) f fd ps (Uo K λlo l=>lZ n (m lo) l):=by
 refine Fn.ok S (λvs H Q E h=>?_) (λdM A outer s H vs Q E hr h=>?_)
 ·obtain⟨_,a,HP,ws,lo,l,rfl,_,_,r,q⟩:=h;rw[Au,r.length,gG q];exact hn
 obtain⟨tb,a,HP,ws,lo,l,rfl,ha,ve,r,q⟩:=h;have hl:=gG q;have hr2:=r.length;have NC:∀{i:Nat}{s:SL},(KQ a lo l N.length)[i]?=some (some s)->(i=0/\s=.ol (some a) lo)\/∃j u v,i=j+1/\HP[j]?=some u/\s=.val v/\VR K [] H u v:=λ{i s} e=>by
  unfold KQ at e;cases i with
  | zero=>simp at e;exact .inl ⟨rfl,e.symm⟩
  | succ j=>
   rw[List.cons_append,List.getElem?_cons_succ]at e;by_cases c:j < l.length
   ·rw[AR (by simpa using c)]at e;obtain⟨u,v,h1,h2,h3⟩:=az.slot r e;exact .inr ⟨j,u,v,rfl,h1,h2,h3⟩
   ·rw[AN (by simpa using c),BC]at e
    split at e <;> cases e
 have sr:aM K H (L2.start N (.ref a::HP)) (KQ a lo l N.length):=by
  refine⟨?_,λi s e=>?_,λi j s t x y b e1 e2 o1 o2 q1 q2 _ _=>?_,tb⟩
  ·unfold L2.start KQ;rw[Ah,Ag,Bo,Ah,Au,Au,Ag,Bo];omega
  ·rcases NC e with⟨rfl,rfl⟩ | ⟨j,u,v,rfl,h1,rfl,h3⟩
   ·exact⟨.ref a,jg rfl,.inr ⟨a,rfl,λb z=>Option.some.inj z,ws,ha,ve⟩⟩
   ·exact⟨u,jg (by simpa using h1),.inl ⟨v,rfl,h3⟩⟩
  ·rcases NC e1 with⟨rfl,rfl⟩ | ⟨j1,u,v,rfl,h1,rfl,h3⟩
   ·rcases NC e2 with⟨rfl,rfl⟩ | ⟨j1,u,v,rfl,h1,rfl,h3⟩
    ·rfl
    ·cases o2
   ·cases o1
 refine⟨_,(Î a lo l hl dM A outer s H E hr).p,sr,(lZ n (m lo) l).mono (λt q1 u σ' bc H' g s' ho rv=>?_) q⟩;obtain⟨i,e⟩:=ho;obtain⟨u',e',r'⟩:=s'.at' i _ e;rcases r' with⟨v,z,_⟩ | ⟨b,rfl,hb,uH,h1,h2⟩
 ·cases z
 have hba:=hb a rfl;subst hba;refine q1 u uH H' (λc o nc e=>(g.keep c o e λz=>?_).1) s'.tb g.there h1 h2 rv;obtain⟨j,t',x,z1,z2,z3,z4⟩:=z;rcases NC z1 with⟨rfl,rfl⟩ | ⟨j1,u,v,rfl,_,rfl,_⟩
 ·have:=qG z3;simp at this;rcases z4 with rfl | z4
  ·exact nc this.symm
  ·cases z4
 ·cases z2
def kI(G:O Int->Prop):O V->Prop:=λws=>∃ns:O Int,ws=ns.map V.int/\G ns
def QG{m:O PV->O PV->W (PV×O PV)}{mp:O PV->W PV}(F:fy P w K mg base pP k f fd ps (Uo K m))(hm:∀ns l Q,G ns->(mp l).run Q->(m (ns.map PV.int) l).run λt=>Q t.1/\∃Q2:O Int,t.2=Q2.map PV.int/\G Q2) :
  fy P w K mg base pP k f fd ps (HA K (.p (kI G)::Ak n .v) mp):=F.imp λvs H Q E h=>by
 obtain⟨tb,l,ha,q⟩:=h;cases ha with
 | @p a φ ws vs ks l e r t=>
  obtain⟨ns,rfl,hG⟩:=r;have tv:∀{n:Nat}{vs:O V}{l:O PV},fY K H vs (Ak n .v) l->az K [] H vs l:=by
   intro n
   induction n with
   | zero=>intro vs l h;cases h;exact .nil
   | succ n ih=>intro vs l h;cases h with | v r t=>exact .cons r (ih t)
  refine⟨tb,a,vs,ns.map V.int,ns.map PV.int,l,rfl,e,lz _ _ ns,tv t,(m _ _).mono (λt q1 u uH H' sx tb' hth e' r' rv=>?_) (hm ns l _ hG q)⟩;obtain⟨q1,Q2,et,hG'⟩:=q1;rw[et]at r';have:=ly r';subst this;refine q1 u H' ⟨λb o eb nb nt=>sx b o (λz=>?_) eb nt,tb',hth,λb φ p=>?_⟩ rv
  ·subst z;exact nb _ ⟨0,rfl,rfl⟩
  ·obtain⟨i,e1,e2⟩:=p;cases i with
   | zero=>simp at e1 e2;subst e1;subst e2;exact⟨_,e',Q2,rfl,hG'⟩
   | succ i=>
    simp at e1;rw[BC]at e1
    split at e1 <;> simp at e1
end
section
variable{Qb:O sK}{T:Type}{w:W T}{out:T->End}{x:Bool}
def UO(G:O Int->Prop)(l:O PV)(w:W T):W T:=.eB (∃ns:O Int,l=ns.map PV.int/\G ns) w
def SF.j9(i:Nat)(hs:fs[i]?=some (some (.ol bd l)))(hr:SF X K x (fs.set i (some (.j9 (kI G)))) Qb w out):SF X K x fs Qb (UO G l w) out:=⟨λZ s σ H D I ⟨sr,q⟩=>by
 obtain⟨⟨ns,el,hG⟩,q⟩:=q;obtain⟨a,ws,e1,h1,r1⟩:=cg sr hs;subst el;have:=ly r1;subst this;obtain⟨s2,g2⟩:=ka (t':=.j9 (kI G)) sr hs rfl (by simp) e1 (λ_ _ _ z=>z:lT a H H) λtk=>⟨_,h1,ns,rfl,hG⟩;exact hr.p Z s σ H D I ⟨s2,w.mono (λt q2=>q2.go g2 sr s2) q⟩⟩
end
end
section
variable[cG]
variable{K:Ab}
abbrev SA(wa wb:W PV):W PV:=.bind wa λx=>Oe x wb
abbrev NI(wl:W (O PV)):W PV:=.bind wl λl=>.ret (.cl l)
abbrev sV(t:W Bool)(w:W PV):W (Option PV):=.bind t λk=>if k=true then .bind w λv=>.ret (some v) else .ret bd
section
variable{c:im}{pos:Pos}{W':W PV}{WL:W (O PV)}
def NZ{m:O PV->W PV}(G:Ox X.prog X.w X.K X.mg X.base x k ps (HA K ks m))(hr:d4 k' X.A)(hk:k<=k')(hg:Gl X x)(ha:AF X K fs (e::es) ks B)(hW:W'=B m)(lA:iG x:=by decide)
  (he:fX X e es:=by rfl) (cI:kJ X pos es:=by rfl):EF X K fs (.Call (.Name x p) (e::es) [] pos) W':=hW▸Sf G hr hk hg ha lA he cI
def Na{m:O PV->W (O PV)}{B:(O PV->W (O PV))->W (O PV)}(G:Ox X.prog X.w X.K X.mg X.base x k ps (va K ks m))(hr:d4 k' X.A)(hk:k<=k')(hg:Gl X x)(ha:AF X K fs (e::es) ks B)(hW:WL=B m)(lA:iG x:=by decide)
  (he:fX X e es:=by rfl) (cI:kJ X pos es:=by rfl):LF X K fs (.Call (.Name x p) (e::es) [] pos) WL:=hW▸Rl G hr hk hg ha lA he cI
def ck{x1}(h:AF X K fs es (Ak n .v) B)(hW:W'=B λl=>.ret (.tup l))(hn:n<=1000:=by decide):EF X K fs (.Tuple es x1 pos) W':=hW▸Wa h hn
def bT{B:(O PV->W (O PV))->W (O PV)}(h:AF X K fs es (Ak n .v) B)(hW:WL=B λl=>.ret l)(hn:n<=1000:=by decide):LF X K fs (.List es pos) WL:=hW▸O0 h hn
variable{T2:Type}{wt:PV->W T2}{cq:T2->bf}{tf:T2->W Bool}{te:T2->W PV}
def gZ{f:PV->W PV}(hc:X.calm=true)(S:a9 X.env.scope X.N sc N' ix)(hi:nW X K fs tg iter wl)(hg:∀cl C s2 H2 fp,PG (eD X sc N' cl C s2 H2 fp) tg (cP i))(he:∀cl C s2 H2 fp t,EF (eD X sc N' cl C s2 H2 fp) K ((bq ix fs).set i (some (.val t))) Ä (f t))(h0:ix[i]?=some bd)(hs:qC X iter:=by intro _;rfl) :
  LF X K fs (.ListComp Ä [⟨tg,iter,[],0⟩] sc pos) (.bind wl λl=>cv l f):=
 have h1:(bq ix fs)[i]?=some bd:=by unfold bq;rw[Aj,h0];rfl
 OZ hc S hi (λcl C s2 H2 fp=>RQ (hg cl C s2 H2 fp)) he (λ_=>rfl) (Jq h1) (λj hj=>by rw[A1]at hj;subst hj;exact h0) hs
def vP{tf:PV->W Bool}{te:PV->W PV}(hc:X.calm=true)(S:a9 X.env.scope X.N sc N' ix)(hi:nW X K fs tg iter wl)(hg:∀cl C s2 H2 fp,PG (eD X sc N' cl C s2 H2 fp) tg (cP i))(hf:∀cl C s2 H2 fp t,TF (eD X sc N' cl C s2 H2 fp) K ((bq ix fs).set i (some (.val t))) c (tf t))(he:∀cl C s2 H2 fp t,EF (eD X sc N' cl C s2 H2 fp) K ((bq ix fs).set i (some (.val t))) Ä (te t))(h0:ix[i]?=some bd)(hs:qC X iter:=by intro _;rfl) :
  LF X K fs (.ListComp Ä [⟨tg,iter,[c],0⟩] sc pos) (.bind wl λl=>gA l λp=>sV (tf p) (te p)):=
 have h1:(bq ix fs)[i]?=some bd:=by unfold bq;rw[Aj,h0];rfl
 Rk (wt:=.ret) (tf:=tf) (te:=te) hc S hi (λcl C s2 H2 fp=>RQ (hg cl C s2 H2 fp)) (λcl C s2 H2 fp t=>tQ (hf cl C s2 H2 fp t)) he (λ_=>rfl) (Jq h1) (λj hj=>by rw[A1]at hj;subst hj;exact h0) hs
def Js(hc:X.calm=true)(S:a9 X.env.scope X.N sc N' ix)(hi:nW X K fs tg iter wl)(hg:∀cl C s2 H2 fp,GF (eD X sc N' cl C s2 H2 fp) K (bq ix fs) tg is wt cq)(he:∀cl C s2 H2 fp t,EF (eD X sc N' cl C s2 H2 fp) K (cq t) Ä (te t))
  (hl:qA is (bq ix fs) cq/\∀t,fw (cq t) (bq ix fs)) (v9:∀j∈is,ix[j]?=some bd) (hs:qC X iter:=by intro _;rfl) :
  LF X K fs (.ListComp Ä [⟨tg,iter,[],0⟩] sc pos) (.bind wl λl=>cv l λp=>.bind (wt p) te):=OZ hc S hi hg he (λ_=>rfl) hl v9 hs
def O1(hc:X.calm=true)(S:a9 X.env.scope X.N sc N' ix)(hi:nW X K fs tg iter wl)(hg:∀cl C s2 H2 fp,GF (eD X sc N' cl C s2 H2 fp) K (bq ix fs) tg is wt cq)(hf:∀cl C s2 H2 fp t,TF (eD X sc N' cl C s2 H2 fp) K (cq t) c (tf t))(he:∀cl C s2 H2 fp t,EF (eD X sc N' cl C s2 H2 fp) K (cq t) Ä (te t))
  (hl:qA is (bq ix fs) cq/\∀t,fw (cq t) (bq ix fs)) (v9:∀j∈is,ix[j]?=some bd) (hs:qC X iter:=by intro _;rfl) :
  LF X K fs (.ListComp Ä [⟨tg,iter,[c],0⟩] sc pos) (.bind wl λl=>gA l λp=>.bind (wt p) λt=>sV (tf t) (te t)):=Rk hc S hi hg (λcl C s2 H2 fp t=>tQ (hf cl C s2 H2 fp t)) he (λ_=>rfl) hl v9 hs
variable{rest:O sK}{T:Type}{out:T->End}{x0:Bool}{kk:O PV->W T}
def SF.xn{tf:PV->W Bool}{te:PV->W PV}(hc:X.calm=true)(hN:X.N.Nodup)(ye:X.N[i]?=some y)(hx:X.env.scope.names.lookup y=some .local)(S:a9 X.env.scope X.N sc N' ix)(hi:nW X K fs tg iter wl)(hg:∀cl C s2 H2 fp,PG (eD X sc N' cl C s2 H2 fp) tg (cP j))(hf:∀cl C s2 H2 fp t,TF (eD X sc N' cl C s2 H2 fp) K ((bq ix fs).set j (some (.val t))) c (tf t))(he:∀cl C s2 H2 fp t,EF (eD X sc N' cl C s2 H2 fp) K ((bq ix fs).set j (some (.val t))) Ä (te t))(h0:ix[j]?=some bd)(hr:∀l,SF X K x0 (fs.set i (some (.ol bd l))) rest (kk l) out)
  (oZ:lm (.ListComp Ä [⟨tg,iter,[c],0⟩] sc pos) (some (.Name y px)) kS.line X.env=pure true:=by rfl) (hs:qC X iter:=by intro _;rfl) :
  SF X K x0 fs (.Assign [.Name y px] (.ListComp Ä [⟨tg,iter,[c],0⟩] sc pos) kS::rest) (.bind (.bind wl λl=>gA l λp=>sV (tf p) (te p)) kk) out:=
 have h1:(bq ix fs)[j]?=some bd:=by unfold bq;rw[Aj,h0];rfl
 SF.OH (wt:=.ret) (tf:=tf) (te:=te) hc hN ye hx S hi (λcl C s2 H2 fp=>RQ (hg cl C s2 H2 fp)) (λcl C s2 H2 fp t=>tQ (hf cl C s2 H2 fp t)) he (λ_=>rfl) (Jq h1) (λm hj=>by rw[A1]at hj;subst hj;exact h0) hr oZ hs
def M3{wt:PV->W T2}{te:T2->W PV}:(λl=>cv l λp=>.bind (wt p) te)=λl=>gA l λp=>.bind (wt p) λt=>.bind (.ret true) λk=>if k=true then .bind (te t) λv=>.ret (some v) else .ret bd:=funext λl=>by
 rw[sJ];rfl
def SF.LZ(hc:X.calm=true)(hN:X.N.Nodup)(ye:X.N[i]?=some y)(hx:X.env.scope.names.lookup y=some .local)(S:a9 X.env.scope X.N sc N' ix)(hi:nW X K fs tg iter wl)(hg:∀cl C s2 H2 fp,GF (eD X sc N' cl C s2 H2 fp) K (bq ix fs) tg is wt cq)(he:∀cl C s2 H2 fp t,EF (eD X sc N' cl C s2 H2 fp) K (cq t) Ä (te t))
  (hl:qA is (bq ix fs) cq/\∀t,fw (cq t) (bq ix fs)) (v9:∀j∈is,ix[j]?=some bd) (hr:∀l,SF X K x0 (fs.set i (some (.ol bd l))) rest (kk l) out)
  (oZ:lm (.ListComp Ä [⟨tg,iter,[],0⟩] sc pos) (some (.Name y px)) kS.line X.env=pure true:=by rfl) (hs:qC X iter:=by intro _;rfl) :
  SF X K x0 fs (.Assign [.Name y px] (.ListComp Ä [⟨tg,iter,[],0⟩] sc pos) kS::rest) (.bind (.bind wl λl=>cv l λp=>.bind (wt p) te) kk) out:=by
 rw[M3];exact SF.OH (tf:=λ_=>.ret true) hc hN ye hx S hi hg (λ_ _ _ _ _ _=>J6) he (λp=>rfl) hl v9 hr oZ hs
def SF.zk{f:PV->W PV}(hc:X.calm=true)(hN:X.N.Nodup)(ye:X.N[i]?=some y)(hx:X.env.scope.names.lookup y=some .local)(S:a9 X.env.scope X.N sc N' ix)(hi:nW X K fs tg iter wl)(hg:∀cl C s2 H2 fp,PG (eD X sc N' cl C s2 H2 fp) tg (cP j))(he:∀cl C s2 H2 fp t,EF (eD X sc N' cl C s2 H2 fp) K ((bq ix fs).set j (some (.val t))) Ä (f t))(h0:ix[j]?=some bd)(hr:∀l,SF X K x0 (fs.set i (some (.ol bd l))) rest (kk l) out)
  (oZ:lm (.ListComp Ä [⟨tg,iter,[],0⟩] sc pos) (some (.Name y px)) kS.line X.env=pure true:=by rfl) (hs:qC X iter:=by intro _;rfl) :
  SF X K x0 fs (.Assign [.Name y px] (.ListComp Ä [⟨tg,iter,[],0⟩] sc pos) kS::rest) (.bind (.bind wl λl=>cv l f) kk) out:=
 have h1:(bq ix fs)[j]?=some bd:=by unfold bq;rw[Aj,h0];rfl
 SF.LZ (wt:=.ret) hc hN ye hx S hi (λcl C s2 H2 fp=>RQ (hg cl C s2 H2 fp)) he (Jq h1) (λm hj=>by rw[A1]at hj;subst hj;exact h0) hr oZ hs
end
def J5{f:ci}{sp:Sp}(h:∀vs H Q E,¬sp vs H Q E):fy P w K mg base pP k f fd ps sp:=⟨λvs H Q E q=>(h _ _ _ _ q).elim,λA outer s H args us vs Q E _ _ _ _ q=>(h _ _ _ _ q).elim⟩
def Ia{m:w9 PV n}(h:∀l Q,l.length=n->¬(lZ n m l).run Q):∀vs H Q E,¬HA K ks (lZ n m) vs H Q E:=λvs H Q E ⟨_,l,_,q⟩=>h l _ (gG q) q
def LV{m:w9 (O PV) n}(h:∀l Q,l.length=n->¬(lZ n m l).run Q):∀vs H Q E,¬va K ks (lZ n m) vs H Q E:=λvs H Q E ⟨_,l,_,q⟩=>h l _ (gG q) q
theorem aV(hr:d4 k A):A.units+200 < pr:=by have:=hr.un;omega
end
section
variable[cG]
variable{K:Ab}
mutual
def PV.gC:PV->Bool
 | .tup l=>eA l
 | .cl l=>eA l
 | .ref _=>false
 | .ty _=>false
 | .dv _ _=>false
 | .ob _ _=>false
 | _=>true
def eA:O PV->Bool
 | []=>true
 | x::l=>PV.gC x&&eA l
end
mutual
def PV.fo:PV->Nat
 | .tup l=>da l+1
 | .cl l=>da l+1
 | _=>0
def da:O PV->Nat
 | []=>0
 | x::l=>max (PV.fo x) (da l)
end
mutual
def gD:PV->PV->Bool
 | .aK,.aK=>true
 | .bl a,.bl b=>a==b
 | .bl a,.int b=>(if a then 1 else 0)==b
 | .int a,.bl b=>a==(if b then 1 else 0)
 | .int a,.int b=>a==b
 | .str a,.str b=>a==b
 | .tup l,.tup m=>fg l m
 | .cl l,.cl m=>fg l m
 | _,_=>false
def fg:O PV->O PV->Bool
 | [],[]=>true
 | x::l,y::m=>gD x y&&fg l m
 | _,_=>false
end
theorem pq:∀{l:O PV}{j:Nat}{x:PV},eA l=true->l[j]?=some x->PV.gC x=true
 | [],_,_,_,e=>by simp at e
 | y::l,0,x,h,e=>by
  simp at e;subst e;rw[eA,AJ]at h;exact h.1
 | y::l,j+1,x,h,e=>by
  rw[eA,AJ]at h;exact pq h.2 (by simpa using e)
theorem qY:∀{l:O PV}{j:Nat}{x:PV},l[j]?=some x->PV.fo x<=da l
 | [],_,_,e=>by simp at e
 | y::l,0,x,e=>by
  simp at e;subst e;rw[da];omega
 | y::l,j+1,x,e=>by
  have:=qY (l:=l) (j:=j) (x:=x) (by simpa using e);rw[da];omega
mutual
theorem wz:∀(x:PV),PV.gC x=true->gD x x=true
 | .aK,_=>by rw[gD]
 | .bl b,_=>by rw[gD];simp
 | .int i,_=>by rw[gD];simp
 | .str i,_=>by rw[gD];simp
 | .tup l,h=>by rw[gD];exact jw l (by rw[PV.gC]at h;exact h)
 | .cl l,h=>by rw[gD];exact jw l (by rw[PV.gC]at h;exact h)
 | .ref _,h=>by rw[PV.gC]at h;cases h
 | .ty _,h=>by rw[PV.gC]at h;cases h
 | .dv _ _,h=>by rw[PV.gC]at h;cases h
 | .ob _ _,h=>by rw[PV.gC]at h;cases h
theorem jw:∀(l:O PV),eA l=true->fg l l=true
 | [],_=>by rw[fg]
 | x::l,h=>by
  rw[eA,AJ]at h;rw[fg,wz x h.1,jw l h.2];rfl
end
def Kg(l m:O PV)(j:Nat):Bool:=match l[j]?,m[j]? with | some x,some y=>gD x y | _,_=>true
theorem lG:∀(l m:O PV),((Av (min l.length m.length)).all (Kg l m)&&l.length==m.length)=fg l m
 | [],[]=>by rw[fg];rfl
 | [],_::_=>by
  rw[fg]
  ·simp
  ·intros;simp_all
  ·intros;simp_all
 | _::_,[]=>by
  rw[fg]
  ·simp
  ·intros;simp_all
  ·intros;simp_all
 | x::l,y::m=>by
  rw[fg,<- lG l m];have e:min (x::l).length (y::m).length=min l.length m.length+1:=by simp only[Au];omega
  rw[e,List.range_succ_eq_map,List.all_cons,List.all_map];have e2:((x::l).length==(y::m).length)=(l.length==m.length):=by simp
  rw[e2,Bool.and_assoc];rfl
def J7{m:O PV}(h:l.length≠m.length):fg l m=false:=by
 rw[<- lG];have:(l.length==m.length)=false:=by simpa using h
 rw[this,Cp]
section
mutual
theorem VR.HG(I:Inv X Z σ H s):∀{v:V}{x y:PV},VR X.K [] H v x->VR X.K [] H v y->x=y
 | _,_,_,.aK,h=>by cases h;rfl
 | _,_,_,.bl b,h=>by cases h;rfl
 | _,_,_,.int b,h=>by cases h;rfl
 | _,_,_,.str b,h=>by cases h;rfl
 | _,_,_,.ty b,h=>by cases h;rfl
 | _,_,_,.ref e,h=>by simp at e
 | _,_,_,.tup e r,h=>by
  cases h with
  | tup e' r'=>
   have ee:=I.je (cS.of e) (cS.of e');subst ee;rw[az.HG I r r']
  | ref e=>simp at e
  | cl e' r'=>
   obtain⟨aj,_,⟨o,n,h1,h2,_⟩,_⟩:=I.list e'.sq;obtain⟨its',_,⟨o',dY,qW,_⟩,_⟩:=I.tuple (cS.of e);rw[h1]at dY;cases dY;rw[h2]at qW;simp at qW
  | dk e' _ _=>rw[e]at e';cases e'
  | dt e' _ _=>rw[e]at e';cases e'
  | ob e' _ _ _ _=>rw[e]at e';cases e'
 | _,_,_,.ob e c na k r,h=>by
  cases h with
  | ob e' _ _ k' r'=>rw[e]at e';cases e';rw[k,k',az.HG I r r']
  | dk e' _ _=>rw[e]at e';cases e'
  | dt e' _ _=>rw[e]at e';cases e'
  | ref e=>simp at e
  | tup e' _=>rw[e]at e';cases e'
  | cl e' r'=>
   obtain⟨aj,_,⟨o,n,h1,h2,_⟩,_⟩:=I.list e'.sq;obtain⟨_,_,_,_,dY,_⟩:=I.aY _ _ e;rw[h1]at dY;cases dY;simp at h2
 | _,_,_,.dk e k r,h=>by
  cases h with
  | dk e' k' r'=>rw[e]at e';cases e';rw[k,k',az.HG I r r']
  | dt e' _ _=>rw[e]at e';cases e'
  | ob e' _ _ _ _=>rw[e]at e';cases e'
  | ref e=>simp at e
  | tup e' _=>rw[e]at e';cases e'
  | cl e' r'=>
   obtain⟨aj,_,⟨o,n,h1,h2,_⟩,_⟩:=I.list e'.sq;obtain⟨_,_,vs,_,o',_,_,dY,qW,_⟩:=lM I.aY (.inr ⟨_,e⟩);rw[h1]at dY;cases dY;have h3:=qW.1;rw[h2]at h3;simp at h3
 | _,_,_,.dt e k r,h=>by
  cases h with
  | dt e' k' r'=>rw[e]at e';cases e';rw[k,k',az.HG I r r']
  | ob e' _ _ _ _=>rw[e]at e';cases e'
  | dk e' _ _=>rw[e]at e';cases e'
  | ref e=>simp at e
  | tup e' _=>rw[e]at e';cases e'
  | cl e' r'=>
   obtain⟨aj,_,⟨o,n,h1,h2,_⟩,_⟩:=I.list e'.sq;obtain⟨_,_,vs,_,o',_,_,dY,qW,_⟩:=lL I.aY (.inr ⟨_,e⟩);rw[h1]at dY;cases dY;have h3:=qW.1;rw[h2]at h3;simp at h3
 | _,_,_,.cl e r,h=>by
  cases h with
  | ob e' _ _ _ _=>
   obtain⟨aj,_,⟨o,n,h1,h2,_⟩,_⟩:=I.list e.sq;obtain⟨_,_,_,_,dY,_⟩:=I.aY _ _ e';rw[h1]at dY;cases dY;simp at h2
  | dk e' _ _=>
   obtain⟨aj,_,⟨o,n,h1,h2,_⟩,_⟩:=I.list e.sq;obtain⟨_,_,vs,_,o',_,_,dY,qW,_⟩:=lM I.aY (.inr ⟨_,e'⟩);rw[h1]at dY;cases dY;have h3:=qW.1;rw[h2]at h3;simp at h3
  | dt e' _ _=>
   obtain⟨aj,_,⟨o,n,h1,h2,_⟩,_⟩:=I.list e.sq;obtain⟨_,_,vs,_,o',_,_,dY,qW,_⟩:=lL I.aY (.inr ⟨_,e'⟩);rw[h1]at dY;cases dY;have h3:=qW.1;rw[h2]at h3;simp at h3
  | cl e' r'=>
   obtain⟨aj,k,⟨o,n,h1,h2,h3,h4⟩,_⟩:=I.list e.sq;obtain⟨its',k',⟨o',n',dY,qW,JX,RN⟩,_⟩:=I.list e'.sq;rw[h1]at dY;cases dY;rw[h4]at RN;have:aj=its':=by injection RN with a b;simpa using a
   subst this;have ee:=Vals.inj k k';subst ee;rw[az.HG I r r']
  | ref e=>simp at e
  | tup e' r'=>
   obtain⟨aj,_,⟨o,n,h1,h2,_⟩,_⟩:=I.list e.sq;obtain⟨its',_,⟨o',dY,qW,_⟩,_⟩:=I.tuple (cS.of e');rw[h1]at dY;cases dY;rw[h2]at qW;simp at qW
theorem az.HG(I:Inv X Z σ H s):∀{v:O V}{x y:O PV},az X.K [] H v x->az X.K [] H v y->x=y
 | _,_,_,.nil,h=>by cases h;rfl
 | _,_,_,.cons r t,h=>by
  cases h with
  | cons r' t'=>rw[VR.HG I r r',az.HG I t t']
end
structure Cmp(A:Ch)(s:db)(w w':bn)(b:Bool):Prop where
 rc:SeqAt.RcAt A s w w' b
 ne:SeqAt.RcNeAt A s w w' (!b)
 eq:D2 A s w w' b
def V9(I:Inv X Z σ H s){ws:O V}{m:O PV}(r:Vals vs aj)(r':Vals ws its')(r1:az X.K [] H vs l)(r2:az X.K [] H ws m)
  (ih:∀(j:Nat) (x y:PV) (v v':V) (w w':bn),l[j]?=some x->m[j]?=some y->VR X.K [] H v x->VR X.K [] H v' y->RelV v w->RelV v' w'->D2 A s w w' (gD x y)) :
  ∀j (g1:j < aj.toArray.size) (g2:j < its'.toArray.size),D2 A s aj.toArray[j] its'.toArray[j] (Kg l m j):=λj g1 g2=>by
 have h1:j < aj.length:=by simpa using g1
 have h2:j < its'.length:=by simpa using g2
 have hl:j < l.length:=by rw[<- r1.length,r.length];exact h1
 have hm:j < m.length:=by rw[<- r2.length,r'.length];exact h2
 obtain⟨v,v1,v2⟩:=r1.get (Ad hl);obtain⟨v',PY,TU⟩:=r2.get (Ad hm);obtain⟨u,u1,u2⟩:=r.get v1;obtain⟨u',u1',u2'⟩:=r'.get PY;rw[Ad h1]at u1;rw[Ad h2]at u1';cases u1;cases u1';unfold Kg;rw[Ad hl,Ad hm];have:=ih j _ _ v v' _ _ (Ad hl) (Ad hm) v2 TU u2 u2';simpa using this
inductive Sh(X:Cx)(H:Hp)(s:db):PV->bn->Prop
 | aK:Sh X H s .aK .none
 | bl (b:Bool):Sh X H s (.bl b) (.bool b)
 | int (i:Int) (t:Tok):Sh X H s (.int i) (.int i t)
 | str (x:Str) (t:Tok):Sh X H s (.str x) (.str x t)
 | tup {p:ci}{vs:List V}{aj:List bn}{l:List PV} (e:VR X.K [] H (.ref p) (.tup l)) (k:Vals vs aj) (r:az X.K [] H vs l) (h:s.heap.IsTuple p aj.toArray):Sh X H s (.tup l) (.ref p)
 | cl {p:ci}{vs:List V}{aj:List bn}{l:List PV} (e:VR X.K [] H (.ref p) (.cl l)) (k:Vals vs aj) (r:az X.K [] H vs l) (h:s.heap.IsList p aj.toArray):Sh X H s (.cl l) (.ref p)
def Sh.of(I:Inv X Z σ H s){v:V}{x:PV}{w:bn}(h:VR X.K [] H v x)(r:RelV v w)(d:PV.gC x=true):Sh X H s x w:=by
 cases h with
 | ref e=>simp at e
 | aK=>cases r;exact .aK
 | bl a=>cases r;exact .bl a
 | int a=>obtain⟨t,rfl⟩:=r;exact .int a t
 | str a=>obtain⟨t,rfl⟩:=r;exact .str a t
 | tup e q=>
  cases r;obtain⟨aj,k,ht,_⟩:=I.tuple (cS.of e);exact .tup (.tup e q) k q ht
 | cl e q=>
  cases r;obtain⟨aj,k,pl,_⟩:=I.list e.sq;exact .cl (.cl e q) k q pl.isList
 | _=>rw[PV.gC]at d;cases d
set_option maxHeartbeats 8000000 in
theorem Sq(hK:X.K=K)(I:Inv X Z σ H s):∀(n:Nat) (x y:PV) (A:Ch) (v v':V) (w w':bn),PV.fo x<=n->PV.gC x=true->PV.gC y=true->VR K [] H v x->VR K [] H v' y->RelV v w->RelV v' w'->A.units+n+1 < pr->Cmp A s w w' (gD x y):=by
 subst hK;intro n
 induction n using DK with
 | ind n ih=>
 intro x y A v v' w w' hd dx dy hv hv' r1 r2 hu;have a:=Sh.of I hv r1 dx;have b:=Sh.of I hv' r2 dy;clear hv hv' r1 r2;have el:∀{l m:O PV}{vs ws:O V}{aj bj:O bn},eA l=true->eA m=true->da l < n->Vals vs aj->Vals ws bj->az X.K [] H vs l->az X.K [] H ws m->aj.toArray.size=l.length/\bj.toArray.size=m.length/\∀j (g1:j < aj.toArray.size) (g2:j < bj.toArray.size),D2 A.in1 s aj.toArray[j] bj.toArray[j] (Kg l m j):=λd1 d2 hd k1 k2 r r'=>⟨by rw[Af,<- k1.length,r.length],by rw[Af,<- k2.length,r'.length],V9 I (A:=A.in1) k1 k2 r r' λj x y v v' w w' hx hy vx vy rx ry=>(ih _ hd x y A.in1 v v' w w' (qY hx) (pq d1 hx) (pq d2 hy) vx vy rx ry (by show A.units+1+_+1 < _;omega)).eq⟩;have Á:∀{pa pb:ci}{l m:O PV},(pa=pb->l=m)->eA l=true->SeqAt.RcAt A s (.ref pa) (.ref pb) (fg l m)->D2 A s (.ref pa) (.ref pb) (fg l m):=λ{pa pb l m} h d q=>by
  by_cases NA:pa=pb
  ·rw[h NA,jw _ (h NA▸d),NA];exact D2.same _
  ·exact D2.of_refs NA q
 cases a <;> cases b
 case tup.tup pa vs aj l e k r ht pb ws bj m e2 k2 r2 pO=>
  rw[PV.fo]at hd;obtain⟨z1,z2,ie⟩:=el dx dy ∅ k k2 r r2;have q1:=SeqAt.RcAt.tuples ht pO (A:=A) ∅ ie;have q2:=SeqAt.RcNeAt.tuples ht pO (A:=A) ∅ ie;rw[z1,z2,lG]at q1 q2;exact⟨q1,q2,Á (λz=>by subst z;have:=VR.HG I e e2;injection this) dx q1⟩
 case cl.cl pa vs aj l e k r ht pb ws bj m e2 k2 r2 pO=>
  rw[PV.fo]at hd;obtain⟨z1,z2,ie⟩:=el dx dy ∅ k k2 r r2;by_cases hz:l.length=m.length
  ·have q1:=FG ht pO (by rw[z1,z2];exact hz) (A:=A) ∅ ie;have q2:=Fs ht pO (by rw[z1,z2];exact hz) (A:=A) ∅ ie;have ef:(Av l.length).all (Kg l m)=fg l m:=by rw[<- lG,hz,Nat.min_self,beq_self_eq_true,Bool.and_true]
   rw[z1,ef]at q1 q2;exact⟨q1,q2,Á (λz=>by subst z;have:=VR.HG I e e2;injection this) dx q1⟩
  ·have q1:=Ej (A:=A) ht pO (by rw[z1,z2];simpa using hz) ∅;have q2:=D1 (A:=A) ht pO (by rw[z1,z2];simpa using hz) ∅;have ef:=J7 hz;rw[<- ef]at q1;have q2:SeqAt.RcNeAt A s (.ref pa) (.ref pb) (!fg l m):=by rw[ef];exact q2
   exact⟨q1,q2,Á (λz=>by subst z;have:=VR.HG I e e2;injection this) dx q1⟩
 all_goals
  clear ih el Á;rw[gD] <;> try (intros;simp_all;done)
  refine⟨?_,?_,?_⟩ <;> (try simp only[Cb,Fj]) <;> first | with_reducible exact .none_none | with_reducible exact .none_bool _ | with_reducible exact .none_int _ _ | with_reducible exact .none_str _ _ | with_reducible exact .none_tuple ‹_› ∅ | with_reducible exact .none_list ‹_› ∅ | with_reducible exact .bool_none _ | with_reducible exact .bool_str _ _ _ | with_reducible exact .bool_tuple _ ‹_› ∅ | with_reducible exact .bool_list _ ‹_› ∅ | with_reducible exact .int_none _ _ | with_reducible exact .int_str _ _ _ _ | with_reducible exact .int_tuple _ _ ‹_› ∅ | with_reducible exact .int_list _ _ ‹_› ∅ | with_reducible exact .str_none _ _ | with_reducible exact .str_bool _ _ _ | with_reducible exact .str_int _ _ _ _ | with_reducible exact .str_tuple _ _ ‹_› ∅ | with_reducible exact .str_list _ _ ‹_› ∅ | with_reducible exact .tuple_none ‹_› ∅ | with_reducible exact .tuple_bool _ ‹_› ∅ | with_reducible exact .tuple_int _ _ ‹_› ∅ | with_reducible exact .tuple_str _ _ ‹_› ∅ | with_reducible exact .tuple_list ‹_› ‹_› ∅ | with_reducible exact .list_none ‹_› ∅ | with_reducible exact .list_bool _ ‹_› ∅ | with_reducible exact .list_int _ _ ‹_› ∅ | with_reducible exact .list_str _ _ ‹_› ∅ | with_reducible exact .list_tuple ‹_› ‹_› ∅ | exact .same _ | exact .bool_bool _ _ | exact .bool_int _ _ _ | exact .int_bool _ _ _ | exact .int_int _ _ _ _ | exact .str_str _ _ _ _
end
end
section
variable[cG]
variable{K:Ab}
mutual
theorem VR.kZ{ι:O ci}{H:Hp}:∀{v:V}{q:PV},VR K ι H v q->PV.gC q=true->VR K [] H v q
 | _,_,.aK,_=>.aK
 | _,_,.bl b,_=>.bl b
 | _,_,.int i,_=>.int i
 | _,_,.str x,_=>.str x
 | _,_,.ty n,h=>by rw[PV.gC]at h;cases h
 | _,_,.dk _ _ _,h=>by rw[PV.gC]at h;cases h
 | _,_,.dt _ _ _,h=>by rw[PV.gC]at h;cases h
 | _,_,.ob _ _ _ _ _,h=>by rw[PV.gC]at h;cases h
 | _,_,.tup e r,h=>.tup e (az.kZ r (by rw[PV.gC]at h;exact h))
 | _,_,.cl e r,h=>.cl e (az.kZ r (by rw[PV.gC]at h;exact h))
 | _,_,.ref e,h=>by rw[PV.gC]at h;cases h
theorem az.kZ{ι:O ci}{H:Hp}:∀{v:O V}{q:O PV},az K ι H v q->eA q=true->az K [] H v q
 | _,_,.nil,_=>.nil
 | _,_,.cons r s,h=>by
  rw[eA,AJ]at h;exact .cons (VR.kZ r h.1) (az.kZ s h.2)
end
def G8(x y:PV):Prop:=PV.gC x=true/\PV.gC y=true/\PV.fo x<=150
def kW:M2:=⟨λx y h Q=>G8 x y/\Q (.bl (gD x y)) h,λf q=>⟨q.1,f _ _ q.2⟩⟩
def kc:M2:=⟨λx y h Q=>G8 x y/\Q (.bl (!gD x y)) h,λf q=>⟨q.1,f _ _ q.2⟩⟩
def L8(K:Ab)(neg:Bool):R2:=λu v H Q=>∃x y,VR K [] H u x/\VR K [] H v y/\G8 x y/\Q (.bl (if neg then !gD x y else gD x y)) H
section
theorem QY(hK:X.K=K)(hu:X.A.units+200 < pr):gF X (py .Eq) (L8 K false):=λZ s σ H u v w w' Q I r1 r2 ⟨x,y,h1,h2,⟨o1,o2,o3⟩,q⟩=>by
 exact ET (Sq hK I 150 x y X.A u v w w' o3 o1 o2 h1 h2 r1 r2 ∅).rc ⟨.bl _,H,I,rfl,q⟩
theorem QU(hK:X.K=K)(hu:X.A.units+200 < pr):gF X (py .NotEq) (L8 K true):=λZ s σ H u v w w' Q I r1 r2 ⟨x,y,h1,h2,⟨o1,o2,o3⟩,q⟩=>by
 exact Ee (Sq hK I 150 x y X.A u v w w' o3 o1 o2 h1 h2 r1 r2 ∅).ne ⟨.bl _,H,I,rfl,q⟩
def MP:M2.Ok K (L8 K false) kW:=λ{ι H h u v x y Q} hr hu hv q=>⟨x,y,VR.kZ hu q.1.1,VR.kZ hv q.1.2.1,q.1,q.2 ι _ H (Go.refl _ _) hr (.bl _)⟩
def MK:M2.Ok K (L8 K true) kc:=λ{ι H h u v x y Q} hr hu hv q=>⟨x,y,VR.kZ hu q.1.1,VR.kZ hv q.1.2.1,q.1,q.2 ι _ H (Go.refl _ _) hr (.bl _)⟩
def mU(hK:X.K=K)(hu:X.A.units+200 < pr):JC X K .Eq b kW:=⟨⟨_,QY hK hu,MP⟩,ke _⟩
def oU(hK:X.K=K)(hu:X.A.units+200 < pr):JC X K .NotEq b kc:=⟨⟨_,QU hK hu,MK⟩,ke _⟩
end
end
end FL
variable{x:A4}{b b1:Bool}{ys:Array A4}{z i1 i2 a1 a2:BA}{k1 k2:Nat}
namespace L2
def kH(b:Bool)(h:lw)(it a:ci)(k:Nat):Prop:=match b with
 | true=>h.IsListIter it a k
 | false=>h.IsTupleIter it a k
def cH(b:Bool)(h:lw)(a:ci)(xs:Array bn):Prop:=match b with
 | true=>h.IsList a xs
 | false=>h.IsTuple a xs
def kH.move(x:kH b h it a k)(g:∀o,h.get? it=some o->h'.get? it=some o):kH b h' it a k:=by
 cases b with
 | true=>obtain⟨o,e,p⟩:=(show h.IsListIter it a k from x);exact(show h'.IsListIter it a k from⟨o,g o e,p⟩)
 | false=>obtain⟨o,e,p⟩:=(show h.IsTupleIter it a k from x);exact(show h'.IsTupleIter it a k from⟨o,g o e,p⟩)
def cH.move(x:cH b h a xs)(g:∀o,h.get? a=some o->h'.get? a=some o):cH b h' a xs:=by
 cases b with
 | true=>obtain⟨o,e,p⟩:=(show h.IsList a xs from x);exact(show h'.IsList a xs from⟨o,g o e,p⟩)
 | false=>obtain⟨o,e,p⟩:=(show h.IsTuple a xs from x);exact(show h'.IsTuple a xs from⟨o,g o e,p⟩)
def kH.obj(x:kH b h it a k):∃o,h.get? it=some o/\∀v,o.data≠.cell v:=by
 cases b with
 | true=>obtain⟨o,e,_,d⟩:=(show h.IsListIter it a k from x);exact⟨o,e,λv z=>by rw[d]at z;cases z⟩
 | false=>obtain⟨o,e,_,d⟩:=(show h.IsTupleIter it a k from x);exact⟨o,e,λv z=>by rw[d]at z;cases z⟩
def cH.lt(x:cH b h a xs):a < h.objs.size:=by
 cases b with
 | true=>obtain⟨o,e,p⟩:=(show h.IsList a xs from x);exact An e
 | false=>obtain⟨o,e,p⟩:=(show h.IsTuple a xs from x);exact An e
section
def dN{t:ci}(h:kH b s.heap it t i)(ht:cH b s.heap t items)(hx:items[i]?=some x)
  (q:∀h':lw,kH b h' it t (i+1)->BE it s.heap h'->Q x {s with heap:=h'}):cr (f8 prog w) A (Builtin.SmallTypes.nextOf (.ref it)) Q E s:=by
 cases b with
 | true=>exact wpAny_nextOf_list_item h ht hx λh' a b=>q h' a b
 | false=>exact fC h ht hx q
def kf{t:ci}(hA:A.handled=bd)(h:kH b s.heap it t i)(ht:cH b s.heap t items)(hx:items[i]?=bd)
  (q:∀(h':lw) (e:ci),FK it s.heap h'->(∃o,h'.get? e=some o/\o.cls=.type "StopIteration")->E (.ref e) {s with heap:=h'}):cr (f8 prog w) A (Builtin.SmallTypes.nextOf (.ref it)) Q E s:=by
 cases b with
 | true=>exact wpAny_nextOf_list_end hA h ht hx λh' e a b=>q h' e a b
 | false=>exact gj hA h ht hx q
def GR:Bool->String
 | true=>"list_iterator"
 | false=>"tuple_iterator"
def qM(h:cH b s.heap a xs)(q:Q (.ref s.heap.objs.size) {s with heap:=s.heap.push {cls:=.type (GR b),data:=.fields #[.ref a,.int 0 0]}}):cr (f8 prog w) A (pyIter (.ref a)) Q E s:=by
 cases b with
 | true=>exact CA h q
 | false=>exact D6 h q
def zg(e:h.get? it=some {cls:=.type (GR b),data:=.fields #[.ref a,.int 0 0]}):kH b h it a 0:=by
 cases b with
 | true=>exact(show h.IsListIter it a 0 from⟨_,e,rfl,rfl⟩)
 | false=>exact(show h.IsTupleIter it a 0 from⟨_,e,rfl,rfl⟩)
end
structure fh(b1 b2:Bool)(h:lw)(z TI TO i1 i2 a1 a2:ci)(f0:bn)(k1 k2:Nat):Prop where
 zip:IsZip h z TI TO f0
 ti:BT h TI (.ref i1) (.ref i2)
 to:∃a b,BT h TO a b
 HD:kH b1 h i1 a1 k1
 HC:kH b2 h i2 a2 k2
def nX{E:bn->db->Prop}{b2:Bool}{TI TO:ci}{y:bn}(hA:wn z TI TO i1 i2 a1 a2)
  (hz:fh b1 b2 s.heap z TI TO i1 i2 a1 a2 .none k1 k2) (uK:cH b1 s.heap a1 xs) (pO:cH b2 s.heap a2 ys) (hx:xs[k1]?=some x) (hy:ys[k2]?=some y)
  (q:∀h':lw,fh b1 b2 h' z TI TO i1 i2 a1 a2 (sB s.heap.objs.size) (k1+1) (k2+1)->BT h' s.heap.objs.size x y->(∀c o,c≠z->c≠TO->c≠i1->c≠i2->s.heap.get? c=some o->h'.get? c=some o)->Q (.ref s.heap.objs.size) {s with heap:=h'}) :
  cr (f8 prog w) A (ut.«zip.__next__» {pos:=[.ref z]}) (λÁ s'=>∃v,Á=Fw (Fv v)/\Q v s') E s:=by
 obtain⟨hz,zO,⟨ta,tb,Nw⟩,Pc,Pb⟩:=hz;show cr _ _ (field (.ref z) 2 >>= λr=>_) _ _ s;refine Aa (AG hz rfl rfl ?_);refine Aa (AG hz rfl rfl ?_);refine Aa (Bi zO rfl ?_);refine Aa ?_;refine Aa (AG hz rfl rfl ?_);refine Ae ?_;refine Aa (CG ?_);refine Aa (AG hz rfl rfl ?_);show cr _ _ (wf (.ref z) 0 .ellipsis >>= λr=>_) _ _ s;refine Aa (AZ hz (show 0 < 5 by decide) λh1 z1 b1=>?_);show cr _ _ ((forIn [(Aw i1,0),(Aw i2,1)] _ _) >>= λr=>_) _ _ _;refine Aa ?_;rw[Bt];have iE:=b1.2;refine Aa ?_;refine Aa (El ?_);refine Aa (dN (Pc.move λo e=>(iE _ hA.i1z).trans e) (uK.move λo e=>(iE _ hA.l1z).trans e) hx λh2 j2 b2=>Ae ?_);have tI:∀b,b≠z->b≠i1->h2.get? b=s.heap.get? b:=λb n1 n2=>(b2.2 b n2).trans (iE b n1);have à:=(tI _ hA.TOz hA.TOi1).trans Nw;refine Aa (Bi à rfl ?_);refine Aa (Dy à λh3 t3 b3=>?_);have È:∀b,b≠z->b≠i1->b≠TO->h3.get? b=s.heap.get? b:=λb n1 n2 n3=>(b3.2 b n3).trans (tI b n1 n2);refine Aa (Dz (Ae ?_));show cr _ _ (forIn [(Aw i2,1)] _ _) _ _ _;rw[Bt];refine Aa ?_;refine Aa (El ?_);refine Aa (dN (Pb.move λo e=>(È _ hA.i2z hA.i12.symm hA.TOi2.symm).trans e) (pO.move λo e=>(È _ hA.l2z hA.l2i1 hA.l2TO).trans e) hy λh4 j4 b4=>Ae ?_);have to4:=(b4.2 _ hA.TOi2).trans t3;refine Aa (Bi to4 rfl ?_);refine Aa (Dy to4 λh5 t5 b5=>?_);have to5:=t5;refine Aa (Dz (Ae ?_));refine Ae ?_;refine Aa (Bi to5 rfl ?_);have Yj:=b5.1.trans (b4.1.trans (b3.1.trans (b2.1.trans b1.1)));refine Aa (CH ?_ (by show 2<=sizeLine;decide));have VO:∀b,b≠z->b≠i1->b≠TO->b≠i2->h5.get? b=s.heap.get? b:=λb n1 n2 n3 n4=>(b5.2 b n3).trans ((b4.2 b n4).trans (È b n1 n2 n3));have z5:h5.get? z=some {cls:=.type "zip",data:=.fields #[.ellipsis,.bool false,.bool false,.ref TI,.ref TO]}:=(b5.2 _ hA.TOz.symm).trans ((b4.2 _ hA.i2z.symm).trans ((b3.2 _ hA.TOz.symm).trans ((b2.2 _ hA.i1z.symm).trans z1)));have kp:∀b o,h5.get? b=some o->(h5.push {cls:=.type "tuple",data:=.seq #[x,y]}).get? b=some o:=λb o e=>Ai _ e;have YI:(h5.push {cls:=.type "tuple",data:=.seq #[x,y]}).get? h5.objs.size=some {cls:=.type "tuple",data:=.seq #[x,y]}:=Ap _ rfl;refine Aa ?_;show cr _ _ (wf (.ref z) 0 (sB h5.objs.size) >>= λ_=>wf (.ref z) 1 (.bool false)) _ _ _;refine Aa (AZ (kp _ _ z5) (show 0 < 5 by decide) λh7 z7 b7=>?_);refine AZ z7 (show 1 < 5 by decide) λh8 z8 b8=>?_;have G5:∀b,b≠z->h8.get? b=(h5.push {cls:=.type "tuple",data:=.seq #[x,y]}).get? b:=λb n=>(b8.2 b n).trans (b7.2 b n);have nz:s.heap.objs.size≠z:=λe=>by have:=An hz;rw[<- e]at this;exact AO _ this
 refine Ae ⟨.ref h5.objs.size,rfl,?_⟩;rw[Yj];refine q h8 ⟨?_,?_,?_,?_,?_⟩ ?_ ?_
 ·rw[<- Yj];exact z8
 ·rw[BT,G5 _ hA.TIz];exact kp _ _ ((VO _ hA.TIz hA.TIi1 hA.TITO hA.TIi2).trans zO)
 ·exact⟨x,y,by rw[BT,G5 _ hA.TOz];exact kp _ _ to5⟩
 ·refine j2.move λo e=>?_;rw[G5 _ hA.i1z];exact kp _ _ ((b5.2 _ hA.TOi1.symm).trans ((b4.2 _ hA.i12).trans ((b3.2 _ hA.TOi1.symm).trans e)))
 ·refine j4.move λo e=>?_;rw[G5 _ hA.i2z];exact kp _ _ ((b5.2 _ hA.TOi2.symm).trans e)
 ·rw[BT,G5 _ nz,<- Yj];exact YI
 ·intro c o n1 n2 n3 n4 e;rw[G5 _ n1];exact kp _ _ ((VO _ n1 n3 n2 n4).trans e)
def pR{b2:Bool}{TI TO:ci}{Q:PySem.Fin->db->Prop}(hh:A.handled=bd)(hA:wn z TI TO i1 i2 a1 a2)
  (hz:fh b1 b2 s.heap z TI TO i1 i2 a1 a2 .none k1 k2) (uK:cH b1 s.heap a1 xs) (pO:cH b2 s.heap a2 ys) (hx:xs[k1]?=bd\/ys[k2]?=bd)
  (q:∀(h':lw) (e:ci),(∀c o,c≠z->c≠TO->c≠i1->c≠i2->s.heap.get? c=some o->h'.get? c=some o)->(∃o,h'.get? e=some o/\o.cls=.type "StopIteration")->E (.ref e) {s with heap:=h'}) :
  cr (f8 prog w) A (ut.«zip.__next__» {pos:=[.ref z]}) Q E s:=by
 obtain⟨hz,zO,⟨ta,tb,Nw⟩,Pc,Pb⟩:=hz;show cr _ _ (field (.ref z) 2 >>= λr=>_) _ _ s;refine Aa (AG hz rfl rfl ?_);refine Aa (AG hz rfl rfl ?_);refine Aa (Bi zO rfl ?_);refine Aa ?_;refine Aa (AG hz rfl rfl ?_);refine Ae ?_;refine Aa (CG ?_);refine Aa (AG hz rfl rfl ?_);show cr _ _ (wf (.ref z) 0 .ellipsis >>= λr=>_) _ _ s;refine Aa (AZ hz (show 0 < 5 by decide) λh1 z1 Ti=>?_);show cr _ _ ((forIn [(Aw i1,0),(Aw i2,1)] _ _) >>= λr=>_) _ _ _;refine Aa ?_;rw[Bt];have iE:=Ti.2;refine Aa ?_;refine Aa (El ?_);have Á:∀{h2:lw}{e:ci}{R:bn->db->Prop},h2.get? z=some {cls:=.type "zip",data:=.fields #[.ellipsis,.bool false,.bool false,.ref TI,.ref TO]}->(∃o,h2.get? e=some o/\o.cls=.type "StopIteration")->(∀c o,c≠z->c≠TO->c≠i1->c≠i2->s.heap.get? c=some o->h2.get? c=some o)->cr (f8 prog w) A (wf (.ref z) 0 .none) (λ_ s'=>E (.ref e) s') R {s with heap:=h2}:=λ{h2 e R} z2 ex k=>by
  refine AZ z2 (show 0 < 5 by decide) λh3 z3 b3=>?_;refine q h3 e (λc o n1 n2 n3 n4 ec=>?_) ?_
  ·rw[b3.2 _ n1];exact k c o n1 n2 n3 n4 ec
  ·obtain⟨o,eo,hc⟩:=ex;by_cases he:e=z
   ·subst he;rw[z2]at eo;cases eo;exact absurd (show Cr "zip"=Cr "StopIteration" from hc) ⋯
   ·exact⟨o,(b3.2 _ he).trans eo,hc⟩
 cases YZ:xs[k1]? with
 | none=>
  refine Aa (kf hh (Pc.move λo e=>(iE _ hA.i1z).trans e) (uK.move λo e=>(iE _ hA.l1z).trans e) YZ λh2 e k ex=>?_);exact Á (k _ _ hA.i1z.symm z1) ex λc o n1 n2 n3 n4 ec=>k _ _ n3 ((iE _ n1).trans ec)
 | some x=>
  have hy:ys[k2]?=bd:=by
   rcases hx with h | h
   ·rw[YZ]at h;cases h
   ·exact h
  refine Aa (dN (Pc.move λo e=>(iE _ hA.i1z).trans e) (uK.move λo e=>(iE _ hA.l1z).trans e) YZ λh2 j2 Th=>Ae ?_);have tI:∀b,b≠z->b≠i1->h2.get? b=s.heap.get? b:=λb n1 n2=>(Th.2 b n2).trans (iE b n1);have à:=(tI _ hA.TOz hA.TOi1).trans Nw;refine Aa (Bi à rfl ?_);refine Aa (Dy à λh3 t3 b3=>?_);have È:∀b,b≠z->b≠i1->b≠TO->h3.get? b=s.heap.get? b:=λb n1 n2 n3=>(b3.2 b n3).trans (tI b n1 n2);refine Aa (Dz (Ae ?_));refine Aa ?_;refine Aa (El ?_);show cr _ _ (Builtin.SmallTypes.nextOf (.ref i2) >>= λv=>pure (some v)) _ _ _;refine Aa (kf hh (Pb.move λo e=>(È _ hA.i2z hA.i12.symm hA.TOi2.symm).trans e) (pO.move λo e=>(È _ hA.l2z hA.l2i1 hA.l2TO).trans e) hy λh4 e k ex=>?_);exact Á (k _ _ hA.i2z.symm ((b3.2 _ hA.TOz.symm).trans ((Th.2 _ hA.i1z.symm).trans z1))) ex λc o n1 n2 n3 n4 ec=>k _ _ n4 ((È _ n1 n3 n2).trans ec)
def gb{b2:Bool}{TI TO:ci}{y:bn}{Q:Option bn->db->Prop}(hA:wn z TI TO i1 i2 a1 a2)
  (hz:fh b1 b2 s.heap z TI TO i1 i2 a1 a2 .none k1 k2) (uK:cH b1 s.heap a1 xs) (pO:cH b2 s.heap a2 ys) (hx:xs[k1]?=some x) (hy:ys[k2]?=some y)
  (q:∀h':lw,fh b1 b2 h' z TI TO i1 i2 a1 a2 (sB s.heap.objs.size) (k1+1) (k2+1)->BT h' s.heap.objs.size x y->(∀c o,c≠z->c≠TO->c≠i1->c≠i2->s.heap.get? c=some o->h'.get? c=some o)->Q (some (.ref s.heap.objs.size)) {s with heap:=h'}) :
  cr (f8 prog w) A (Ev (.ref z)) Q E s:=by
 have ty:s.TypeIs (.ref z) "zip":=⟨_,hz.zip,rfl⟩;refine Aa (Cn (AI ty B3 (A6 B3 ty Dm ?_ (C6 _))));exact nX hA hz uK pO hx hy λh' a b c=>Ae (q h' a b c)
def iw{b2:Bool}{TI TO:ci}{Q:Option bn->db->Prop}(hh:A.handled=bd)(hA:wn z TI TO i1 i2 a1 a2)
  (hz:fh b1 b2 s.heap z TI TO i1 i2 a1 a2 .none k1 k2) (uK:cH b1 s.heap a1 xs) (pO:cH b2 s.heap a2 ys) (hx:xs[k1]?=bd\/ys[k2]?=bd)
  (q:∀h':lw,(∀c o,c≠z->c≠TO->c≠i1->c≠i2->s.heap.get? c=some o->h'.get? c=some o)->Q bd {s with heap:=h'}) :
  cr (f8 prog w) A (Ev (.ref z)) Q E s:=by
 have ty:s.TypeIs (.ref z) "zip":=⟨_,hz.zip,rfl⟩;refine Aa (Cn (AI ty B3 (A6 B3 ty Dm ?_ (C6 _))));refine pR (A:=A.in1) hh hA hz uK pO hx λh' e k ex=>?_;obtain⟨o,eo,hc⟩:=ex;refine Aa (CK (T:="StopIteration") ⟨o,eo,hc⟩ isSubtype_stop ?_);exact Ae (q h' k)
def oE(b1 b2:Bool)(a1 a2:ci)(xs ys:Array bn):Meets (ut.«zip.__new__» {pos:=[.type "zip",.ref a1,.ref a2]}) (λ_ R s=>cH b1 s.heap a1 xs/\cH b2 s.heap a2 ys/\
  ∀h':lw,fh b1 b2 h' (s.heap.objs.size+4) (s.heap.objs.size+2) (s.heap.objs.size+3) s.heap.objs.size (s.heap.objs.size+1) a1 a2 .none 0 0->(∀b o,s.heap.get? b=some o->h'.get? b=some o)->R (.ok (.ret (.ref (s.heap.objs.size+4)))) {s with heap:=h'}):=
 .of_wp λprog w A R s h=>by
  obtain⟨h1,h2,q⟩:=h;refine Aa ?_;refine Aa (Cq (a:=true) rfl ?_);refine Aa (Cq sub_zip ?_);refine Ae ?_;refine Aa ?_;refine Aa ?_;rw[Bt];refine Aa ?_;refine Aa (AX (qM h1 (Ae ?_)));have k1:∀b o,s.heap.get? b=some o->(s.heap.push {cls:=.type (GR b1),data:=.fields #[.ref a1,.int 0 0]}).get? b=some o:=λb o e=>Ai _ e;have g1:(s.heap.push {cls:=.type (GR b1),data:=.fields #[.ref a1,.int 0 0]}).get? s.heap.objs.size=some {cls:=.type (GR b1),data:=.fields #[.ref a1,.int 0 0]}:=Ap _ rfl;have z1:(s.heap.push {cls:=.type (GR b1),data:=.fields #[.ref a1,.int 0 0]}).objs.size=s.heap.objs.size+1:=CF ..;generalize s.heap.push {cls:=.type (GR b1),data:=.fields #[.ref a1,.int 0 0]}=tE at k1 g1 z1 ⊢;show cr _ _ (forIn [Aw a2] _ _) _ _ _;rw[Bt];refine Aa ?_;refine Aa (AX (qM (xs:=ys) (h2.move λo e=>k1 _ _ e) (Ae ?_)));show cr _ _ (forIn [] _ _) _ _ _;rw[List.forIn_nil];refine Ae (Ae ?_);have k2:∀b o,tE.get? b=some o->(tE.push {cls:=.type (GR b2),data:=.fields #[.ref a2,.int 0 0]}).get? b=some o:=λb o e=>Ai _ e;have g2:(tE.push {cls:=.type (GR b2),data:=.fields #[.ref a2,.int 0 0]}).get? tE.objs.size=some {cls:=.type (GR b2),data:=.fields #[.ref a2,.int 0 0]}:=Ap _ rfl;have z2:(tE.push {cls:=.type (GR b2),data:=.fields #[.ref a2,.int 0 0]}).objs.size=tE.objs.size+1:=CF ..;show cr _ _ (newTuple [.ref s.heap.objs.size,.ref tE.objs.size] >>= λr=>_) _ _ {s with heap:=tE.push {cls:=.type (GR b2),data:=.fields #[.ref a2,.int 0 0]}};generalize tE.push {cls:=.type (GR b2),data:=.fields #[.ref a2,.int 0 0]}=yb at k2 g2 z2 ⊢;refine Aa (CH ?_ (by show 2<=sizeLine;decide));have k3:∀b o,yb.get? b=some o->(yb.push {cls:=.type "tuple",data:=.seq [Aw s.heap.objs.size,Aw tE.objs.size].toArray}).get? b=some o:=λb o e=>Ai _ e;have g3:(yb.push {cls:=.type "tuple",data:=.seq [Aw s.heap.objs.size,Aw tE.objs.size].toArray}).get? yb.objs.size=some {cls:=.type "tuple",data:=.seq #[.ref s.heap.objs.size,.ref tE.objs.size]}:=Ap _ rfl;have z3:(yb.push {cls:=.type "tuple",data:=.seq [Aw s.heap.objs.size,Aw tE.objs.size].toArray}).objs.size=yb.objs.size+1:=CF ..;show cr _ _ (newTuple [.none,.none] >>= λr=>_) _ _ {s with heap:=yb.push {cls:=.type "tuple",data:=.seq [Aw s.heap.objs.size,Aw tE.objs.size].toArray}};generalize yb.push {cls:=.type "tuple",data:=.seq [Aw s.heap.objs.size,Aw tE.objs.size].toArray}=GX at k3 g3 z3 ⊢;refine Aa (CH ?_ (by show 2<=sizeLine;decide));have k4:∀b o,GX.get? b=some o->(GX.push {cls:=.type "tuple",data:=.seq [Bh,Bh].toArray}).get? b=some o:=λb o e=>Ai _ e;have g4:(GX.push {cls:=.type "tuple",data:=.seq [Bh,Bh].toArray}).get? GX.objs.size=some {cls:=.type "tuple",data:=.seq #[.none,.none]}:=Ap _ rfl;have z4:(GX.push {cls:=.type "tuple",data:=.seq [Bh,Bh].toArray}).objs.size=GX.objs.size+1:=CF ..;show cr _ _ (newObj (.type "zip") (.fields #[.none,.bool false,.bool false,.ref yb.objs.size,.ref GX.objs.size]) >>= λr=>_) _ _ {s with heap:=GX.push {cls:=.type "tuple",data:=.seq [Bh,Bh].toArray}};generalize GX.push {cls:=.type "tuple",data:=.seq [Bh,Bh].toArray}=S0 at k4 g4 z4 ⊢;refine Aa (Bl ?_ (by simp[sizeOk];decide));have k5:∀b o,S0.get? b=some o->(S0.push {cls:=.type "zip",data:=.fields #[.none,.bool false,.bool false,.ref yb.objs.size,.ref GX.objs.size]}).get? b=some o:=λb o e=>Ai _ e;have g5:(S0.push {cls:=.type "zip",data:=.fields #[.none,.bool false,.bool false,.ref yb.objs.size,.ref GX.objs.size]}).get? S0.objs.size=some {cls:=.type "zip",data:=.fields #[.none,.bool false,.bool false,.ref yb.objs.size,.ref GX.objs.size]}:=Ap _ rfl;have e1:=z1;have e2:yb.objs.size=s.heap.objs.size+2:=by rw[z2,e1]
  have e3:GX.objs.size=s.heap.objs.size+3:=by rw[z3,e2]
  have e4:S0.objs.size=s.heap.objs.size+4:=by rw[z4,e3]
  refine Ae ⟨.ref S0.objs.size,rfl,?_⟩;rw[e2,e3]at g5 k5 ⊢;rw[e4]at g5 ⊢;rw[e3]at g4;rw[e1,e2]at g3;rw[e1]at g2;refine q _ ⟨g5,k5 _ _ (k4 _ _ g3),⟨_,_,k5 _ _ g4⟩,zg (k5 _ _ (k4 _ _ (k3 _ _ (k2 _ _ g1)))),zg (k5 _ _ (k4 _ _ (k3 _ _ g2)))⟩ λb o e=>k5 _ _ (k4 _ _ (k3 _ _ (k2 _ _ (k1 _ _ e))))
def rh{b2:Bool}(h1:cH b1 s.heap a1 xs)(h2:cH b2 s.heap a2 ys)
  (q:∀h':lw,fh b1 b2 h' (s.heap.objs.size+4) (s.heap.objs.size+2) (s.heap.objs.size+3) s.heap.objs.size (s.heap.objs.size+1) a1 a2 .none 0 0->(∀b o,s.heap.get? b=some o->h'.get? b=some o)->Q (.ref (s.heap.objs.size+4)) {s with heap:=h'}) :
  cr (f8 prog w) A (call (.type "zip") [.ref a1,.ref a2]) Q E s:=
 callType_new F.called_zip ⋯ (F.typeCall_zip_2 _ _) (F.newCall_zip_2 _ _) (λo=>F.args_object_init_3 o _ _) F.entry_zip_new (oE b1 b2 a1 a2 xs ys) ⟨h1,h2,λh' z k=>⟨⟨_,z.zip,rfl⟩,q h' z k⟩⟩
def F6(b:Bool)(K:Ab)(H:Hp)(a:ci)(xs:O V):Prop:=match b with
 | true=>b9 K H a xs
 | false=>cS K H a xs
def Inv.OG{xs:O V}(I:Inv X Z σ H s)(h:F6 b X.K H a xs):∃aj:O bn,Vals xs aj/\cH b s.heap a aj.toArray/\xs.length<=sizeLine:=by
 cases b with
 | true=>obtain⟨aj,r,p,z⟩:=I.list (show b9 X.K H a xs from h);exact⟨aj,r,p.isList,z⟩
 | false=>obtain⟨aj,r,p,z⟩:=I.tuple (show cS X.K H a xs from h);exact⟨aj,r,p,z⟩
def Inv.zf{xs ys:O V}(I:Inv X Z σ H s)(h:F6 b X.K H a xs)(h':F6 b X.K H a ys):xs=ys:=by
 cases b with
 | true=>
  obtain⟨aj,k,⟨o,n,h1,h2,h3,h4⟩,_⟩:=I.list (show b9 X.K H a xs from h);obtain⟨its',k',⟨o',n',dY,qW,JX,RN⟩,_⟩:=I.list (show b9 X.K H a ys from h');rw[h1]at dY;cases dY;rw[h4]at RN;have:aj=its':=by injection RN with a b;simpa using a
  subst this;exact Vals.inj k k'
 | false=>exact I.je h h'
def WI(b1 b2:Bool)(K:Ab)(a1 a2:ci):It where
 go:=λi H=>∃xs ys x y,F6 b1 K H a1 xs/\F6 b2 K H a2 ys/\xs[i]?=some x/\ys[i]?=some y
 OA:=λi H v H'=>∃p x y,v=.ref p/\H p=bd/\H'=upd H p (.tup [x,y])/\(∀xs,F6 b1 K H a1 xs->xs[i]?=some x)/\∀ys,F6 b2 K H a2 ys->ys[i]?=some y
 stop:=λi H=>∃xs ys,F6 b1 K H a1 xs/\F6 b2 K H a2 ys/\(xs.length<=i\/ys.length<=i)
theorem Gd{K:Ab}{b2:Bool}{pos:Pos}{TI TO:ci}(hA:wn z TI TO i1 i2 a1 a2):Turn P w K (.Tuple Ñ kk pos) (WI b1 b2 K a1 a2) [z,TI,TO,i1,i2] z (λi h=>fh b1 b2 h z TI TO i1 i2 a1 a2 .none i i) where
 mem:=by simp
 obj:=λi h st b hb=>by
  simp only[AH,Bj,or_false]at hb;rcases hb with rfl | rfl | rfl | rfl | rfl
  ·exact⟨_,st.zip,λv z=>by cases z⟩
  ·exact⟨_,st.ti,λv z=>by cases z⟩
  ·obtain⟨_,_,e⟩:=st.to;exact⟨_,e,λv z=>by cases z⟩
  ·exact st.HD.obj
  ·exact st.HC.obj
 keep:=λi h h' st k=>⟨k z (by simp) _ st.zip,k TI (by simp) _ st.ti,let ⟨a,b,e⟩:=st.to;⟨a,b,k TO (by simp) _ e⟩,st.HD.move λo e=>k i1 (by simp) _ e,st.HC.move λo e=>k i2 (by simp) _ e⟩
 item:=by
  intro X hP hw hK hc i Z s σ H E I hf st hg;subst hP hw hK;obtain⟨xs,ys,x,y,hx,hy,gx,gy⟩:=hg;obtain⟨aj,rx,tx,_⟩:=I.OG hx;obtain⟨bj,ry,ty,_⟩:=I.OG hy;obtain⟨u,gu,ru⟩:=iI rx gx;obtain⟨v,gv,rv⟩:=iI ry gy;refine gb hA st tx ty (by simpa using gu) (by simpa using gv) λh' zt np k=>?_;refine⟨_,rfl,?_⟩;refine Aa (wpAny_load zt.zip ?_);show cr _ _ (if ((["enumerate","zip","dict_itemiterator","dict_reverseitemiterator","odict_iterator","itertools.zip_longest","itertools.pairwise"].contains "zip"&&(some (sB s.heap.objs.size)==some (sB s.heap.objs.size)))=true) then (do rule "for.unpacks-the-owned-tuple";wf (.ref z) 0 .none) else pure ()) _ _ _;rw[if_pos (by rw[beq_self_eq_true];decide)];refine Aa (CG ?_);refine AZ zt.zip (show 0 < 5 by decide) λh2 z2 b2=>?_;have lt:∀b∈[z,TI,TO,i1,i2],b < s.heap.objs.size:=λb hb=>by
   simp only[AH,Bj,or_false]at hb;rcases hb with rfl | rfl | rfl | rfl | rfl
   ·exact An st.zip
   ·exact An st.ti
   ·obtain⟨_,_,e⟩:=st.to;exact An e
   ·obtain⟨o,e,_⟩:=st.HD.obj;exact An e
   ·obtain⟨o,e,_⟩:=st.HC.obj;exact An e
  have nz:s.heap.objs.size≠z:=λe=>AO _ (by have:=lt z (by simp);rw[<- e]at this;exact this);have Vh:∀b o,b∉[z,TI,TO,i1,i2]->s.heap.get? b=some o->h2.get? b=some o:=λb o hb e=>by
   have ya:b≠z:=λq=>hb (by simp[q]);rw[b2.2 b ya];exact k b o ya (λq=>hb (by simp[q])) (λq=>hb (by simp[q])) (λq=>hb (by simp[q])) e
  have U5:h2.get? s.heap.objs.size=some {cls:=.type "tuple",data:=.seq #[u,v]}:=(b2.2 _ nz).trans np;have VH:=I.aY.fresh (Ao s.heap.objs.size);refine⟨.ref s.heap.objs.size,upd H s.heap.objs.size (.tup [x,y]),I.n9 (t':=s.toks) hf Vh (Ao _) ⟨by show 2<=sizeLine;decide,[u,v],.cons ru (.cons rv .nil),⟨_,U5,rfl,_,rfl⟩⟩,rfl,⟨_,x,y,rfl,VH,rfl,λZ8 h'=>?_,λys' h'=>?_⟩,⟨z2,(b2.2 _ hA.TIz).trans zt.ti,let ⟨p,q,e⟩:=zt.to;⟨p,q,(b2.2 _ hA.TOz).trans e⟩,zt.HD.move λo e=>(b2.2 _ hA.i1z).trans e,zt.HC.move λo e=>(b2.2 _ hA.i2z).trans e⟩,λb hb=>?_⟩
  ·rw[I.zf h' hx];exact gx
  ·rw[I.zf h' hy];exact gy
  ·rw[ar (AA (lt b hb))];exact(hf b hb).1
 done:=by
  intro X hP hw hK hc i Z s σ H E I hf st hg;subst hP hw hK;obtain⟨xs,ys,hx,hy,hl⟩:=hg;obtain⟨aj,rx,tx,_⟩:=I.OG hx;obtain⟨bj,ry,ty,_⟩:=I.OG hy;have el:=rx.length;have el2:=ry.length;refine iw (I.ok.hd hc) hA st tx ty ?_ λh' k=>⟨rfl,I.rM (t':=s.toks) hf λb o hb e=>k b o (λz=>hb (by simp[z])) (λz=>hb (by simp[z])) (λz=>hb (by simp[z])) (λz=>hb (by simp[z])) e⟩;rcases hl with hl | hl
  ·exact .inl (by simp;omega)
  ·exact .inr (by simp;omega)
 self:=λA i s Q E st h=>Es st.zip h
def Vo(K:Ab)(t1 t2:TE):TI:=λσ H R=>t1 σ H λx H1=>t2 σ H1 λy H2=>∃b1 b2 a b,x=.ref a/\y=.ref b/\(∃xs,F6 b1 K H2 a xs)/\(∃ys,F6 b2 K H2 b ys)/\R (WI b1 b2 K a b) H2
def Mi(K:Ab)(hK:X.K=K){e2:im}{t2:TE}(hg:Gl X "zip")(hm:X.mg "zip"=bd)(h1:PE X e1 t1)(h2:PE X e2 t2)
  (qi:ga [e1,e2] X.env=(false,kt e1 X.env)::ga [e2] X.env:=by rfl) (lV:fX X e2 []:=by rfl) (cI:(wP p2 (ga [e2] X.env)).any (·.1)=false:=by rfl) :
  PI X (.Tuple Ñ kk tp) (.Call (.Name "zip" p1) [e1,e2] [] p2) (Vo K t1 t2):=by
 subst hK;intro Z s σ H R I h;refine Bq (eZ I hg hm boot_zip ?_ ⋯ ⋯);refine AW ?_ qi cI;rw[qi,lV];refine Bf (bh (h1 Z s σ H _ I h) λu1 s1 ⟨x,H1,I1,r1,q1⟩=>?_);refine Bf (bh (h2 Z s1 σ H1 _ I1 q1) λu2 s2 ⟨y,H2,I2,r2,b1,b2,a,b,ex,ey,⟨xs,hx⟩,⟨ys,hy⟩,q⟩=>BF ?_);subst ex;subst ey;cases r1;cases r2;obtain⟨aj,rx,tx,_⟩:=I2.OG hx;obtain⟨bj,ry,ty,_⟩:=I2.OG hy;have l1:=tx.lt;have l2:=ty.lt;refine rh tx ty λh' zt k=>?_;refine Es zt.zip ?_;have dd:∀i j:Nat,i≠j->s2.heap.objs.size+i≠s2.heap.objs.size+j:=λi j n e=>n (Nat.add_left_cancel e);have na:∀i:Nat,a≠s2.heap.objs.size+i:=λi=>AA (Ay l1 (A7 _ _));have nb:∀i:Nat,b≠s2.heap.objs.size+i:=λi=>AA (Ay l2 (A7 _ _));have hA:wn (s2.heap.objs.size+4) (s2.heap.objs.size+2) (s2.heap.objs.size+3) s2.heap.objs.size (s2.heap.objs.size+1) a b:=
  ⟨dd 2 4 ⋯,dd 3 4 ⋯,dd 0 4 ⋯,dd 1 4 ⋯,dd 2 3 ⋯,dd 2 0 ⋯,dd 2 1 ⋯,dd 3 0 ⋯,dd 3 1 ⋯,dd 0 1 ⋯,na 4,na 3,na 0,na 1,nb 4,nb 3,nb 0,nb 1⟩
 refine⟨_,_,_,_,H2,rfl,I2.kept (t':=s2.toks) k,Gd hA,zt,λc hc=>?_,q⟩;have Ö:s2.heap.objs.size<=c:=by
  simp only[AH,Bj,or_false]at hc;rcases hc with rfl | rfl | rfl | rfl | rfl
  ·exact A7 _ _
  ·exact A7 _ _
  ·exact A7 _ _
  ·exact Ao _
  ·exact A7 _ _
 exact I2.wu Ö (I2.aY.fresh Ö)
def Uz(K:Ab):V->Option Int->Option Int->Hp->VK->Prop:=λx lo hi H Q=>∃a xs,x=.ref a/\cS K H a xs/\
 ((HT.cT xs.length 0 lo=0/\HT.cT xs.length xs.length hi=xs.length)->Q x H)/\(¬(HT.cT xs.length 0 lo=0/\HT.cT xs.length xs.length hi=xs.length)->jF H (.tup (ue xs lo hi)) Q)
def LY(K:Ab)(hK:X.K=K):WB X (Uz K):=by
 subst hK;intro Z s σ H x v vl vu lo hi sl Q I rx hs pl pu h;obtain⟨a,xs,rfl,hT,qw,qn⟩:=h;by_cases c:HT.cT xs.length 0 lo=0/\HT.cT xs.length xs.length hi=xs.length
 ·have q:=qw c;cases rx;obtain⟨aj,r,ht,hz⟩:=I.tuple hT;have Â:aj.toArray.size=xs.length:=by rw[Af];exact r.length.symm
  refine⟨"tuple",_,Bg.lookup,ht.typeIs,?_⟩;obtain⟨os,vZ,JS,zS⟩:=id hs;have S6:s.TypeIs (.ref sl) "slice":=⟨os,vZ,JS⟩;unfold FM
  try with_reducible refine AX ?_
  first | refine Aa (Ae ?_) | skip
  refine Aa (Ef ht.typeIs ⋯ ?_);refine Aa (AI (name:=B8 "__getitem__") ht.typeIs Bg
   (A6 Bg ht.typeIs entry_tuple_getitem ?_ (args_tuple_getitem _ _)))
  show cr _ _ (Builtin.Tuple.tupleItemsOf (.ref a) >>= _) _ _ s;refine Aa (tupleItemsOf_ ht ?_);refine Aa (BQ S6 ?_);refine Aa (HT.f7 hs pl pu ?_);show cr _ _ (if (((HT.cT aj.toArray.size 0 lo:Nat):Int)==0&&(1:Int)==1&&(HT.cT aj.toArray.size aj.toArray.size hi-HT.cT aj.toArray.size 0 lo)==aj.toArray.size)=true then _ else _) _ _ s;rw[if_pos (by rw[Â,c.1,c.2];simp)];refine Aa ?_
  first
   | refine Aa (BQ ht.typeIs (Ae ?_))
   | refine BQ ht.typeIs (Ae ?_)
  first
   | rw[if_pos ⋯]
   | rw[if_pos rfl]
  refine Aa (CG (Ae ⟨_,rfl,?_⟩));exact Ae ⟨.ref a,H,I,rfl,q⟩
 ·exact Qg Z s σ H _ v vl vu lo hi sl Q I rx hs pl pu ⟨a,xs,rfl,hT,c,λp hp=>(qn c).at p hp⟩
def UJ(K:Ab):R2:=λx y H Q=>∃a b xs ys,x=.ref a/\y=.ref b/\cS K H a xs/\cS K H b ys/\xs.length+ys.length<=sizeLine/\
 (xs=[]->Q (.ref b) H)/\(xs≠[]->ys=[]->Q (.ref a) H)/\(xs≠[]->ys≠[]->jF H (.tup (xs++ys)) Q)
def MB(K:Ab)(hK:X.K=K):gF X (ss .Add) (UJ K):=by
 subst hK;intro Z s σ H x y v u Q I rx ry h;obtain⟨a,b,xs,ys,rfl,rfl,ha,hb,hz,q0,q1,q2⟩:=h;by_cases c:xs=[]
 ·cases rx;cases ry;obtain⟨aj,r1,p1,_⟩:=I.tuple ha;obtain⟨bj,r2,p2,_⟩:=I.tuple hb;obtain⟨⟨cls,dd,data,sl⟩,ho,hc,n,hd⟩:=id p1;obtain⟨⟨Wt,Wq,data2,SS⟩,Li,Pg,n2,Õ⟩:=id p2;simp only at hc hd Pg Õ;subst hc hd Pg Õ;exact concat_meets ⟨_,ho,rfl⟩ ⟨_,Li,rfl⟩ noFill_tuple_add seq_tuple_add C5 CZ (CS _ _)
   (tuple_addW0 a b aj.toArray bj.toArray n n2 dd Wq sl SS (by rw[r1.gP.mpr c];rfl)) ⟨ho,Li,.ref b,H,I,rfl,q0 c⟩
 ·exact zA Z s σ H _ _ v u Q I rx ry ⟨a,b,xs,ys,rfl,rfl,ha,hb,c,hz,q1 c,λn p hp=>(q2 c n).at p hp⟩
end L2
variable{a:Bu}
namespace FL
section
variable[cG]
variable{K:Ab}
section
variable{b c:im}{pos:Pos}{w:W PV}{wm:W (O PV)}
def addW:PV->PV->W PV
 | .int i,.int j=>.ret (.int (i+j))
 | .str a,.str b=>.eB (a.length+b.length<=sizeLine) (.ret (.str (a++b)))
 | .tup a,.tup b=>.eB (a.length+b.length<=sizeLine) (.ret (.tup (a++b)))
 | _,_=>.fail
def bo(hK:X.K=K)(ha:EF X K fs a wa)(hb:EF X K fs b wb):EF X K fs (.BinOp a .Add b pos) (.bind wa λx=>.bind wb λy=>addW x y):=
 ⟨PE.imp (zr ((MD K hK).or (MB K hK)) ha.p hb.p) λσ H Q ⟨sr,q⟩=>⟨sr,wa.mono (λx q1 u1 H1 g1 s1 v1=>⟨s1,wb.mono (λy q2 u2 H2 g2 s2 v2=>by
  have PY:=g2.vr s1 v1;cases PY with
  | int i=>
   cases v2 with
   | int j=>exact .inl ⟨_,rfl,q2 _ H2 (g1.trans g2) s2 (.int _)⟩
   | _=>exact q2.elim
  | str i=>
   cases v2 with
   | str j=>exact .inl ⟨_,rfl,q2.1,q2.2 _ H2 (g1.trans g2) s2 (.str _)⟩
   | _=>exact q2.elim
  | @tup p vs l e r=>
   cases v2 with
   | @tup p' HP l' e' r'=>
    refine .inr ⟨p,p',vs,HP,rfl,rfl,cS.of e,cS.of e',by rw[r.length,r'.length];exact q2.1,λz=>?_,λ_ z=>?_,λ_ _ q H3 s3 h3 n3=>?_⟩
    ·have z':=(PL.az.gP r).mp z;subst z';exact q2.2 _ H2 (g1.trans g2) s2 (.tup e' r')
    ·have z':=(PL.az.gP r').mp z;subst z';have q2:=q2.2;rw[CW]at q2;exact q2 _ H2 (g1.trans g2) s2 (.tup e r)
    ·exact q2.2 _ H3 ((g1.trans g2).trans (cp.same s3)) (s2.same s3) (.tup h3 (az.tk s3.cU (r.append r')))
   | _=>exact q2.elim
  | _=>exact q2.elim) q1⟩) q⟩⟩
theorem kM:∀(l m:O PV),(iH l m).length=min l.length m.length
 | [],m=>by rw[iH];simp;intros;simp_all
 | x::l,[]=>by rw[iH];simp;intros;simp_all
 | x::l,y::m=>by rw[iH,Au,kM l m];simp only[Au];omega
def Ls(l m:O PV):W (O PV):=.eB (l.length<=sizeLine) (.ret (iH l m))
def zh(h:SJ K H u l):∃(b:Bool) (a:ci) (vs:O V),u=.ref a/\az K [] H vs l/\∀H',aW K H H'->F6 b K H' a vs:=by
 obtain⟨a,vs,e,h | h,r⟩:=h
 ·exact⟨true,a,vs,e,r,λH' t=>(t.f _ _ h).sq⟩
 ·exact⟨false,a,vs,e,r,λH' t=>cS.of (t.t _ _ h)⟩
theorem JG(hK:X.K=K)(hg:Gl X "zip")(hm:X.mg "zip"=bd)(ha:IF X K fs a wl)(hb:IF X K fs b wm)
  (qi:ga [a,b] X.env=(false,kt a X.env)::ga [b] X.env:=by rfl) (lV:fX X b []:=by rfl) (cI:(wP p2 (ga [b] X.env)).any (·.1)=false:=by rfl) :
  nW X K fs (.Tuple Ñ kk tp) (.Call (.Name "zip" p1) [a,b] [] p2) (.bind wl λl=>.bind wm λm=>Ls l m):=
 ⟨PI.imp (Mi K hK hg hm ha.p hb.p qi lV cI) λσ H R ⟨sr,q⟩=>⟨sr,wl.mono (λl q1 u1 H1 g1 s1 v1=>⟨s1,wm.mono (λm q2 u2 H2 g2 s2 v2=>by
  obtain⟨b1,a1,vs,rfl,r1,x1⟩:=zh (v1.tk (g2.cR s1));obtain⟨b2,a2,ws,rfl,r2,x2⟩:=zh v2;have tr:aW K H2 H2:=aW.refl H2;refine⟨b1,b2,a1,a2,rfl,rfl,⟨vs,x1 H2 tr⟩,⟨ws,x2 H2 tr⟩,q2.2 _ H2 (g1.trans g2) s2 ⟨by rw[kM];have:=q2.1;omega,λH' t=>⟨λi pp hp=>?_,vs,ws,x1 H' t,x2 H' t,?_⟩⟩⟩
  ·obtain⟨x,y,hx,hy,rfl⟩:=nY hp;obtain⟨v,h3,h4⟩:=(az.tk t r1).get hx;obtain⟨v',JX,RN⟩:=(az.tk t r2).get hy;refine⟨⟨vs,ws,v,v',x1 H' t,x2 H' t,h3,JX⟩,λz H3 yl=>?_⟩;obtain⟨p,x',y',rfl,hn,rfl,e1,e2⟩:=yl;have e1:=e1 vs (x1 H' t);have e2:=e2 ws (x2 H' t);rw[h3]at e1;rw[JX]at e2;cases e1;cases e2;have sm:=iO hn (.tup [v,v']);exact⟨sm,.tup aE (.cons (VR.tk sm.cU h4) (.cons (VR.tk sm.cU RN) .nil))⟩
  ·rw[kM,r1.length,r2.length];omega) q1⟩) q⟩⟩
variable{el eh:Option im}{lo:W (Option Int)}
def Qi(x:PV)(i j:Option Int):W PV:=match x with
 | .tup l=>.ret (.tup (wL l i j))
 | _=>.fail
def Hi{i j:Option Int}(h:HT.cT l.length 0 i=0/\HT.cT l.length l.length j=l.length):wL l i j=l:=by
 unfold wL;rw[h.1,h.2];simp
def Wb(hK:X.K=K)(he:EF X K fs e w)(hl:OF X K fs el lo)(hh:OF X K fs eh hi):EF X K fs (.Subscript e (.Slice el eh bd p2) pos) (.bind w λx=>.bind lo λi=>.bind hi λj=>Qi x i j):=⟨PE.imp (vo (LY K hK) he.p hl.p hh.p) λσ H Q ⟨sr,q⟩=>⟨sr,w.mono (λx q1 u1 H1 g1 s1 v1=>⟨s1,lo.mono (λi q2 H2 g2 s2=>⟨s2,hi.mono (λj q3 H3 g3 s3=>by
 have PY:=g3.vr s2 (g2.vr s1 v1);have gg:=(g1.trans g2).trans g3;cases PY with
 | @tup p vs l e r=>
  have Â:=r.length;refine⟨p,vs,rfl,cS.of e,λc=>?_,λc q H4 s4 h4 n4=>?_⟩
  ·rw[Â]at c;have q3:(ap (PV.tup (wL l i j))).run _:=q3;rw[Hi c]at q3;exact q3 _ H3 gg s3 (.tup e r)
  ·exact q3 _ H4 (gg.trans (cp.same s4)) (s3.same s4) (.tup h4 (az.tk s4.cU (r.cut i j)))
 | _=>exact q3.elim) q2⟩) q1⟩) q⟩⟩
end
end
end FL
variable{x:PL.PV}
namespace FL
section
variable[cG]
variable{K:Ab}
section
open Classical in
noncomputable def yo(K:Ab)(H:Hp)(x:PV)(w:bn):Bool:=decide (∃p v,RelV v w/\VR K [] H v p/\gD p x=true)
open Classical in
def Kh(hK:X.K=K)(I:Inv X Z σ H s){x p:PV}{v:V}{w:bn}(r:RelV v w)(h:VR K [] H v p):yo K H x w=gD p x:=by
 subst hK;cases e:gD p x with
 | true=>exact decide_eq_true ⟨p,v,r,h,e⟩
 | false=>
  refine decide_eq_false ?_;rintro⟨p',v',r',h',e'⟩;have:=Io r r';subst this;rw[VR.HG I h h',e']at e;cases e
theorem nT(hK:X.K=K)(I:Inv X Z σ H s):∀{vs:O V}{aj:O bn}{l:O PV},Vals vs aj->az K [] H vs l->aj.map (yo K H x)=l.map λy=>gD y x
 | _,_,_,.nil,.nil=>rfl
 | _,_,_,.cons r t,.cons q z=>by rw[Ar,Ar,Kh hK I r q,nT hK I t z]
def GW(x:PV)(l:O PV):Prop:=PV.gC x=true/\eA l=true/\da l<=150
theorem mH(hK:X.K=K)(I:Inv X Z σ H s){v:V}{w:bn}(hx:VR K [] H v x)(rx:RelV v w)(dx:PV.gC x=true)(hu:A.units+150+1 < pr) :
  ∀{vs:O V}{aj:O bn}{l:O PV},Vals vs aj->az K [] H vs l->eA l=true->da l<=150->∀u∈aj,D2 A s u w (yo K H x u)
 | _,_,_,.nil,.nil,_,_,u,hu=>by cases hu
 | _,_,_,.cons r t,.cons q z,d,dd,u,hm=>by
  rw[eA,AJ]at d;rw[da]at dd;rcases AH.mp hm with rfl | hm
  ·rw[Kh hK I r q];exact(Sq hK I 150 _ x A _ v _ w ∅ d.1 dx q hx r rx hu).eq
  ·exact mH hK I hx rx dx hu t z d.2 ∅ u hm
end
def nv(x:PV)(l:O PV):Bool:=l.any λy=>gD y x
def L5(K:Ab)(neg:Bool):R2:=λx y H Q=>∃p vs l xp,y=.ref p/\(b9 K H p vs\/cS K H p vs)/\az K [] H vs l/\VR K [] H x xp/\GW xp l/\Q (.bl (if neg then !nv xp l else nv xp l)) H
section
theorem any_map'(f:α->Bool):∀l:List α,l.any f=(l.map f).any id
 | []=>rfl
 | x::l=>by rw[Ca,Ar,Ca,any_map' f l];rfl
theorem IZ(K:Ab)(hK:X.K=K)(hu:X.A.units+200 < pr):gF X (py .In) (L5 K false):=by
 intro Z s σ H x y v u Q I rx ry h;obtain⟨p,vs,l,xp,rfl,hq,hl,hx,ok,q⟩:=h;cases ry;have RF:X.A.in1.units+150+1 < pr:=by show X.A.units+1+150+1 < _;omega
 have Á:∀{aj:O bn},Vals vs aj->aj.toArray.any (yo K H xp)=nv xp l:=λ{aj} r=>by
  rw[show aj.toArray.any (yo K H xp)=aj.any (yo K H xp) by simp,any_map',nT hK I r hl,<- any_map'];rfl
 rcases hq with hq | hq
 ·obtain⟨aj,r,pl,hz⟩:=I.list (show b9 X.K H p vs by rw[hK];exact hq);refine SeqAt.in_listAt (yo K H xp) pl.isList (λw hw=>mH hK I hx rx ok.1 RF r hl ok.2.1 ok.2.2 w (by simpa using hw)) ⟨.bl _,H,I,rfl,?_⟩;rw[Á r];exact q
 ·obtain⟨aj,r,pl,hz⟩:=I.tuple (show cS X.K H p vs by rw[hK];exact hq);refine SeqAt.in_tupleAt (yo K H xp) pl (λw hw=>mH hK I hx rx ok.1 RF r hl ok.2.1 ok.2.2 w (by simpa using hw)) ⟨.bl _,H,I,rfl,?_⟩;rw[Á r];exact q
theorem Mw(K:Ab)(hK:X.K=K)(hu:X.A.units+200 < pr):gF X (py .NotIn) (L5 K true):=by
 intro Z s σ H x y v u Q I rx ry h;obtain⟨p,vs,l,xp,rfl,hq,hl,hx,ok,q⟩:=h;cases ry;have RF:X.A.in1.units+150+1 < pr:=by show X.A.units+1+150+1 < _;omega
 have Á:∀{aj:O bn},Vals vs aj->aj.toArray.any (yo K H xp)=nv xp l:=λ{aj} r=>by
  rw[show aj.toArray.any (yo K H xp)=aj.any (yo K H xp) by simp,any_map',nT hK I r hl,<- any_map'];rfl
 rcases hq with hq | hq
 ·obtain⟨aj,r,pl,hz⟩:=I.list (show b9 X.K H p vs by rw[hK];exact hq);refine SeqAt.notIn_listAt (yo K H xp) pl.isList (λw hw=>mH hK I hx rx ok.1 RF r hl ok.2.1 ok.2.2 w (by simpa using hw)) ⟨.bl _,H,I,rfl,?_⟩;rw[Á r];exact q
 ·obtain⟨aj,r,pl,hz⟩:=I.tuple (show cS X.K H p vs by rw[hK];exact hq);refine SeqAt.notIn_tupleAt (yo K H xp) pl (λw hw=>mH hK I hx rx ok.1 RF r hl ok.2.1 ok.2.2 w (by simpa using hw)) ⟨.bl _,H,I,rfl,?_⟩;rw[Á r];exact q
def qg(x:PV)(l:O PV):Nat:=l.findIdx λy=>gD y x
def UG(K:Ab):V->O V->Hp->VK->Prop:=λx us H Q=>∃p vs l y q,x=.ref p/\us=[y]/\b9 K H p vs/\az K [] H vs l/\VR K [] H y q/\GW q l/\nv q l=true/\Q (.int (qg q l)) H
theorem MY(K:Ab)(hK:X.K=K)(hu:X.A.units+200 < pr):Hy X "list.index" (UG K):=by
 intro Z s σ H x vs v us Q I rx rv h;obtain⟨p,ws,l,y,q,rfl,rfl,hq,hl,hy,ok,has,qq⟩:=h;cases rx;obtain⟨u,rfl,ru⟩:=rv.one;have RF:X.A.in1.units+150+1 < pr:=by show X.A.units+1+150+1 < _;omega
 obtain⟨aj,r,⟨⟨cls,dd,data,sl⟩,n,ho,hc,hd,iW⟩,hz⟩:=I.list (show b9 X.K H p ws by rw[hK];exact hq);simp only at hc hd iW;subst hc hd iW;have em:=nT (x:=q) hK I r hl;have Â:aj.length=l.length:=by rw[<- r.length,hl.length]
 have jH:qg q l < l.length:=List.findIdx_lt_length_of_exists (by simpa[nv]using has);have at':∀(j:Nat) (h1:j < aj.length) (h2:j < l.length),yo K H q aj[j]=gD l[j] q:=λj h1 h2=>by
  have e:=congrArg (λz=>z[j]?) em;simp only[Aj,Ad h1,Ad h2,BJ]at e;exact Option.some.inj e
 have hsm:((qg q l:Nat):Int) < 2 ^ 63-1:=by
  have h8:l.length<=sizeLine:=by rw[<- hl.length];exact hz
  have h9:(sizeLine:Int) < 2 ^ 63-1:=by decide
  omega
 refine t0 F.slot_list_index ⟨_,ho,rfl⟩ F.entry_list_index (F.args_list_index_2 _ _) (SeqAt.list_indexAt p aj.toArray n bd sl u (yo K H q) (qg q l) (by rw[Af];omega) hsm ?_ ?_) ⟨ho,?_,?_⟩
 ·have h1:qg q l < aj.length:=by omega
  rw[show aj.toArray[qg q l]'(by rw[Af];omega)=aj[qg q l] by simp,at' _ h1 jH];exact List.findIdx_getElem (w:=jH)
 ·intro m hm hmj;have h1:m < aj.length:=by rw[Af]at hm;exact hm
  rw[show aj.toArray[m]=aj[m] by simp,at' _ h1 ∅];have:=List.not_of_lt_findIdx (p:=λy=>gD y q) (xs:=l) hmj;simpa using this
 ·intro w hw;exact mH hK I hy ru ok.1 RF r hl ok.2.1 ok.2.2 w (by simpa using hw)
 ·exact⟨.int _,H,I.tok _,⟨_,rfl⟩,qq⟩
end
end
section
variable[cG]
variable{K:Ab}
section
variable{b c:im}{pos:Pos}{w:W PV}
def qf(neg:Bool)(x:PV)(l:O PV):W Bool:=.eB (GW x l) (.ret (if neg then !nv x l else nv x l))
def XS(b:Bool):W PV:=.ret (.bl b)
def RZ:∀σ H Q,fE K fs (.bind wa λx=>.bind wl λl=>.bind (qf neg x l) XS) σ H Q->OC (L5 K neg) (fE K fs wa) (fQ K fs wl) σ H Q:=λσ H Q ⟨sr,q⟩=>
 ⟨sr,wa.mono (λx q1 u1 H1 g1 s1 v1=>⟨s1,wl.mono (λl q2 u2 H2 g2 s2 v2=>by
  obtain⟨ad,vs,rfl,h,rs⟩:=v2.sq s2;exact⟨ad,vs,l,x,rfl,h,rs,g2.vr s1 v1,q2.1,q2.2 _ H2 (g1.trans g2) s2 (.bl _)⟩) q1⟩) q⟩
def J8:∀σ H Q,fT K fs (.bind wa λx=>.bind wl λl=>qf neg x l) σ H Q->OC (L5 K neg) (fE K fs wa) (fQ K fs wl) σ H λx H'=>∃k,x=.bl k/\Q k H':=λσ H Q ⟨sr,q⟩=>
 ⟨sr,wa.mono (λx q1 u1 H1 g1 s1 v1=>⟨s1,wl.mono (λl q2 u2 H2 g2 s2 v2=>by
  obtain⟨ad,vs,rfl,h,rs⟩:=v2.sq s2;exact⟨ad,vs,l,x,rfl,h,rs,g2.vr s1 v1,q2.1,_,rfl,q2.2 H2 (g1.trans g2) s2⟩) q1⟩) q⟩
def Wj(hK:X.K=K)(hu:X.A.units+200 < pr)(ha:EF X K fs a wa)(hb:QF X K fs b wl)(hk:nw .In b=false:=by rfl):EF X K fs (.Compare a [.In] [b] pos) (.bind wa λx=>.bind wl λl=>.bind (qf false x l) XS):=⟨PE.imp (si (IZ K hK hu) ha.p hb.p hk) (RZ (neg:=false))⟩
def T3(hK:X.K=K)(hu:X.A.units+200 < pr)(ha:EF X K fs a wa)(hb:QF X K fs b wl)(hk:nw .In b=false:=by rfl):TF X K fs (.Compare a [.In] [b] pos) (.bind wa λx=>.bind wl λl=>qf false x l):=⟨PT.imp (nI (IZ K hK hu) ha.p hb.p hk) (J8 (neg:=false))⟩
def rP(hK:X.K=K)(hu:X.A.units+200 < pr)(ha:EF X K fs a wa)(hb:QF X K fs b wl)(hk:nw .NotIn b=false:=by rfl):TF X K fs (.Compare a [.NotIn] [b] pos) (.bind wa λx=>.bind wl λl=>qf true x l):=⟨PT.imp (nI (Mw K hK hu) ha.p hb.p hk) (J8 (neg:=true))⟩
abbrev Vn(neg:Bool)(wa:W PV)(wl:W (O PV)):W PV:=.bind wa λx=>.bind wl λl=>.bind (qf neg x l) XS
abbrev JI(neg:Bool)(wa:W PV)(wl:W (O PV)):W Bool:=.bind wa λx=>.bind wl λl=>qf neg x l
def sortI(ns:O Int):O Int:=ns.mergeSort (λa b=>decide (a<=b))
theorem vd{ms:O Int}(h1:ms.Perm ns)(h2:ms.Pairwise (·<=·)):ms=sortI ns:=by
 have h3:(sortI ns).Perm ns:=B7 ns _;have h4:(sortI ns).Pairwise (λa b=>decide (a<=b)=true):=Ew (λa b c=>by simp;omega) (λa b=>by simp;omega) ns;exact List.Perm.eq_of_pairwise (le:=λa b=>a<=b) (λa b _ _ h h'=>Int.le_antisymm h h') h2 (h4.imp (by simp)) (h1.trans h3.symm)
def j7(l:O PV):W (O PV):=.bind (oW l) λns=>.eB (ns.length < 64) (.ret ((sortI ns).map PV.int))
def zG(hK:X.K=K)(hg:Gl X "sorted")(hm:X.mg "sorted"=bd)(ha:F7 X K fs e wl)(he:fX X e []:=by rfl)(cI:kJ X pos []:=by rfl):LF X K fs (.Call (.Name "sorted" p) [e] [] pos) (.bind wl j7):=⟨PE.imp (eW (yF K hK) hg hm boot_sorted (a8 ha.p cA he) ⋯ ⋯ he cI) λσ H Q ⟨sr,q⟩=>⟨sr,wl.mono (λl q1 u1 H1 g1 s1 _ v1=>by
 obtain⟨ns,el,hC,q2⟩:=mC (l:=l) q1;obtain⟨a,vs,rfl,h1,r1⟩:=v1 H1 .refl s1;rw[el]at r1;have:=ly r1;subst this;refine⟨a,ns,rfl,h1,hC,λms a2 a3=>?_⟩;rw[vd a2 a3];exact Jj g1 s1 (lz _ _ _) q2) q⟩⟩
def Nv(l:O PV)(x:PV):W PV:=.eB (GW x l/\nv x l=true) (.ret (.int (qg x l)))
def NW(hK:X.K=K)(hu:X.A.units+200 < pr)(ho:F7 X K fs o wl)(he:EF X K fs e w)
  (dX:r6 o "index" X.env (kt o X.env)=kt o X.env:=by rfl)
  (o7:Tq X bE [e]:=by rfl)
  (dW:Lq Ã bE:=by rfl) (vY:fX X e []:=by rfl) (fe:kJ X bE []:=by rfl) :
  EF X K fs (.Call (.Attribute o "index" Ã) [e] [] bE) (.bind wl λl=>.bind w λx=>Nv l x):=
 ⟨PE.imp (so K hK BV PySem.F.slot_list_index PySem.F.type_list_index (MY K hK hu) ho.p (a8 he.p cA vY) dX o7 dW vY fe) λσ H Q ⟨sr,q⟩=>⟨sr,wl.mono (λl q1 u1 H1 g1 s1 _ v1=>by
  obtain⟨a,vs,eu,h1,_⟩:=v1 H1 .refl s1;subst eu;refine⟨.inl ⟨rfl,_,h1⟩,s1,w.mono (λx q2 u2 H2 g2 s2 v2=>?_) q1⟩
  ·obtain⟨a',vs,ea,h2,r2⟩:=v1 H2 g2 s2;cases ea;exact⟨a,vs,l,u2,x,rfl,rfl,h2,r2,v2,q2.1.1,q2.1.2,q2.2 _ H2 (g1.trans g2) s2 (.int _)⟩) q⟩⟩
end
end
end FL
variable{x:Bool}
namespace FL
section
variable[cG]
variable{K:Ab}
section
variable{rest:O sK}{pos:Pos}{T:Type}{out:T->End}
def Rx(l:O PV):PV->W PV
 | .int k=>.eB (0<=k/\k < 1000) (.Lf l[k.toNat]?)
 | _=>.fail
def SF.ZY(i:Nat){op:Operator}{ti:WA}{M:M2}{k:O PV->W T}(hs:fs[i]?=some (some (.ol q0 l)))(hK:X.K=K)(hN:X.N[i]?=some y)(hv:uL X.env.scope y)(hi:EF X K fs ei wi)(he:EF X K fs e we)(ho:Z3 X op ti)(hM:M2.Ok K ti M)(hr:∀l',SF X K x (fs.set i (some (.ol q0 l'))) rest (k l') out)
  (hd:iG y:=by decide) (gB:w5 y:=by decide)
  (ha:∀ov iv new,augStore ei ov iv new=(do sw [new,ov,iv] (Da ov iv new);release [new,ov,iv] [];pure .next):=by intros;rfl) :
  SF X K x fs (.AugAssign (.Subscript (.Name y p) ei iD) op e pos::rest) (.bind wi λn=>.bind (Rx l n) λg=>.bind we λv=>.bind (of2 M g v) λr=>.bind (jB l n r) k) out:=
 SF.step (Md (cL hN hv hd gB) hi.p (JZ K hK) he.p ho qI ha) λD σ H ⟨sr,q⟩=>by
  obtain⟨a,ws,e1,h1,r1⟩:=cg sr hs;refine⟨_,e1,sr,wi.mono (λn q1 u1 H1 g1 s1 v1=>?_) q⟩;obtain⟨a',ws1,nA,dY,qL⟩:=cg s1 hs;rw[e1]at nA;cases nA;cases v1 with
  | int kk=>
   have q1:(0<=kk/\kk < 1000)/\(W.Lf l[kk.toNat]?).run _:=q1;obtain⟨⟨b1,b2⟩,q1⟩:=q1;cases hg:l[kk.toNat]? with
   | none=>rw[hg]at q1;exact q1.elim
   | some g=>
    rw[hg]at q1;obtain⟨u,hu,ru⟩:=qL.get hg;refine⟨a,ws1,kk,u,rfl,rfl,b9.of dY,b1,b2,hu,s1,we.mono (λv q2 u2 H2 g2 s2 v2=>?_) q1⟩;refine Ja hM s2 (g2.vr s1 ru) v2 ((of2 M g v).mono (λr q3 u3 H3 g3 s3 v3=>?_) q2);obtain⟨a',TR,Wn,JX,Qx⟩:=cg s3 hs;rw[e1]at Wn;cases Wn;have q3:(match uJ l.length kk with | some j=>ap (l.set j r) | none=>W.fail).run _:=q3;cases hj:uJ l.length kk with
    | none=>rw[hj]at q3;exact q3.elim
    | some j=>
     rw[hj]at q3;refine⟨a,TR,kk,j,rfl,rfl,JX,by rw[Qx.length];exact hj,λH4 sx h4=>?_⟩;obtain⟨s4,g4⟩:=gN s3 hs e1 sx h4 (Qx.set v3 j);exact⟨_,k _,hr _,s4,(k _).mono (λt q4=>q4.go (((g1.trans g2).trans g3).f.trans g4) sr s4) q3⟩
  | _=>exact q1.elim
def Qf(l:O PV)(i j:PV)(m:O PV):W (O PV):=match i,j with
 | .int a,.int c=>.eB (0<=a/\a<=c/\c<=l.length/\l.length+m.length<=sizeLine) (.ret (l.take a.toNat++m++l.drop c.toNat))
 | _,_=>.fail
def SF.Up(i:Nat){lo hi:im}{k:O PV->W T}(hs:fs[i]?=some (some (.ol q0 l)))(hN:X.N[i]?=some y)(hv:uL X.env.scope y)(he:LF X K fs e wl)(hl:EF X K fs lo wa)(hh:EF X K fs hi wb)(hr:∀l',SF X K x (fs.set i (some (.ol q0 l'))) rest (k l') out)
  (ha:∀v,zn (.Subscript (.Name y p) (.Slice (some lo) (some hi) bd p2) iD) X.env v=(do
   let ov <- sw [v] (kt (.Name y p) X.env)
   let iv <- sw [v,ov] (kt (.Slice (some lo) (some hi) bd p2) X.env)
   standAt iD
   sw [v,ov,iv] (Da ov iv v)
   release [iv,v,ov] []):=by intro _;rfl)
  (hd:iG y:=by decide) (gB:w5 y:=by decide)
  (Y2:swapsWithSole [.Subscript (.Name y p) (.Slice (some lo) (some hi) bd p2) iD] e pos.line X.env=pure false:=by rfl) (hw:swappedStores [.Subscript (.Name y p) (.Slice (some lo) (some hi) bd p2) iD] e X.env=pure bd:=by rfl)
  (h1:(wS [.Subscript (.Name y p) (.Slice (some lo) (some hi) bd p2) iD] X.env).map (·.2)=[zn (.Subscript (.Name y p) (.Slice (some lo) (some hi) bd p2) iD) X.env]:=by rfl) :
  SF X K x fs (.Assign [.Subscript (.Name y p) (.Slice (some lo) (some hi) bd p2) iD] e pos::rest) (.bind wl λm=>.bind wa λa=>.bind wb λb=>.bind (Qf l a b m) k) out:=
 SF.step (IE he.p (IK (cL hN hv hd gB) hl.p hh.p ha) Y2 hw h1) λD σ H ⟨sr,q⟩=>by
  refine⟨sr,wl.mono (λm q1 b vb H1 g1 s1 nb eb rb=>?_) q⟩;obtain⟨a,ws,e1,h1,r1⟩:=cg s1 hs;refine⟨_,e1,s1,wa.mono (λi1 q2 u2 H2 g2 s2 v2=>⟨s2,wb.mono (λj1 q3 u3 H3 g3 s3 v3=>?_) q2⟩) q1⟩;obtain⟨a',TR,Wn,JX,Qx⟩:=cg s3 hs;rw[e1]at Wn;cases Wn;have TU:=g3.vr s2 v2;have no:¬cn σ fs b:=sr.noOwn nb;have eb3:=(g2.trans g3).oS eb no;have rb3:=(g2.trans g3).Hz s1 rb;have ne:a≠b:=λz=>no ⟨i,_,a,hs,rfl,e1,.inl z.symm⟩;cases TU with
  | int aa=>
   cases v3 with
   | int cc=>
    have q3:(0<=aa/\aa<=cc/\cc<=l.length/\l.length+m.length<=sizeLine)/\(k (l.take aa.toNat++m++l.drop cc.toNat)).run _:=q3;obtain⟨⟨c1,c2,c3,c4⟩,q3⟩:=q3;refine⟨a,b,TR,vb,aa,cc,rfl,rfl,rfl,rfl,JX,eb3,ne,c1,c2,by rw[Qx.length];exact c3,by rw[Qx.length,rb3.length];exact c4,?_⟩;have sx:lT a H3 (upd H3 a (.lst (TR.take aa.toNat++vb++TR.drop cc.toNat))):=λz o n hz=>by rw[ar n];exact hz
    obtain⟨s4,g4⟩:=gN s3 hs e1 sx aE (((Qx.take aa.toNat).append rb3).append (Qx.drop cc.toNat));exact⟨_,k _,hr _,s4,(k _).mono (λt q4=>q4.go (((g1.trans g2).trans g3).f.trans g4) sr s4) q3⟩
   | _=>exact q3.elim
  | _=>exact q3.elim
def Qp(l:O PV)(v:PV):W (O PV):=match v with
 | .int k=>.bind (oW l) λns=>.eB (k∈ns) (.ret ((ns.erase k).map PV.int))
 | _=>.fail
theorem SF.remove(i:Nat){k:O PV->W T}(hs:fs[i]?=some (some (.ol q0 l)))(hK:X.K=K)(hN:X.N[i]?=some y)(hv:uL X.env.scope y)(he:EF X K fs e we)(hr:∀l',SF X K x (fs.set i (some (.ol q0 l'))) rest (k l') out)
  (hd:iG y:=by decide) (gB:w5 y:=by decide) (dX:r6 (.Name y p) "remove" X.env (kt (.Name y p) X.env)=kt (.Name y p) X.env:=by rfl)
  (o7:Tq X bE [e]:=by rfl)
  (dW:Lq Ã bE:=by rfl) (vY:fX X e []:=by rfl) (fe:kJ X bE []:=by rfl)
  (oZ:lm (.Call (.Attribute (.Name y p) "remove" Ã) [e] [] bE) bd pos.line X.env=pure false:=by rfl) :
  SF X K x fs (.Expr (.Call (.Attribute (.Name y p) "remove" Ã) [e] [] bE) pos::rest) (.bind we λv=>.bind (Qp l v) k) out:=
 SF.step (nJ (so K hK BV PySem.F.slot_list_remove PySem.F.type_list_remove xF (cL hN hv hd gB) (a8 he.p cA vY) dX o7 dW vY fe) oZ) λD σ H ⟨sr,q⟩=>by
  obtain⟨a,ws,e1,h1,r1⟩:=cg sr hs;refine⟨_,e1,.inl ⟨rfl,_,b9.of h1⟩,sr,we.mono (λv q1 u H1 g1 s1 v1=>?_) q⟩;obtain⟨a',uH,nA,dY,qL⟩:=cg s1 hs;rw[e1]at nA;cases nA;cases v1 with
  | int kk=>
   obtain⟨ns,el,hk,q2⟩:=mC (l:=l) q1;subst el;have:=ly qL;subst this;refine⟨a,ns,kk,rfl,rfl,dY,hk,λH2 sx h2=>?_⟩;obtain⟨s2,g2⟩:=gN s1 hs e1 sx h2 (lz _ _ (ns.erase kk));exact⟨_,k _,hr _,s2,(k _).mono (λt q3=>q3.go (g1.f.trans g2) sr s2) q2⟩
  | _=>exact q1.elim
end
end
end FL
variable{vs:O (L2.Key×L2.V)}{kvs:O (L2.Key×PL.PV)}{q:L2.Key×PL.PV}
namespace FL
section
variable[cG]
variable{K:Ab}
abbrev w2(f:PV->PV->W PV)(wa wb:W PV):W PV:=.bind wa λx=>.bind wb λy=>f x y
def vQ:PV->W Key
 | .int i=>.ret (.inl i)
 | .str s=>.ret (.inr s)
 | _=>.fail
def wg(kvs:O (Key×PV))(k:Key):Bool:=kvs.any λkv=>decide (kv.1=k)
def d9(kvs:O (Key×PV))(k:Key):Option PV:=(kvs.find? λkv=>decide (kv.1=k)).map (·.2)
def xq(kvs:O (Key×PV))(k:Key)(v:PV):O (Key×PV):=if wg kvs k=true then kvs.map (λkv=>if kv.1=k then (kv.1,v) else kv) else kvs++[(k,v)]
def bR(K:Ab)(H:Hp)(vs:O (Key×V))(kvs:O (Key×PV)):Prop:=vs.map (·.1)=kvs.map (·.1)/\az K [] H (vs.map (·.2)) (kvs.map (·.2))
section
def bR.cons_inv{p:Key×V}(h:bR K H (p::vs) (q::kvs)):p.1=q.1/\VR K [] H p.2 q.2/\bR K H vs kvs:=by
 obtain⟨h1,h2⟩:=h;injection h1 with a b;cases h2 with
 | cons r t=>exact⟨a,r,b,t⟩
def bR.mk{p:Key×V}(e:p.1=q.1)(r:VR K [] H p.2 q.2)(h:bR K H vs kvs):bR K H (p::vs) (q::kvs):=⟨by rw[Ar,Ar,e,h.1],.cons r h.2⟩
theorem bR.ind{C:O (Key×V)->O (Key×PV)->Prop}(h0:C [] [])(h1:∀p q vs kvs,p.1=q.1->VR K [] H p.2 q.2->bR K H vs kvs->C vs kvs->C (p::vs) (q::kvs)):∀{vs kvs},bR K H vs kvs->C vs kvs
 | [],[],_=>h0
 | [],_::_,h=>by simp[bR]at h
 | _::_,[],h=>by simp[bR]at h
 | p::vs,q::kvs,h=>let ⟨a,b,c⟩:=h.cons_inv;h1 p q vs kvs a b c (bR.ind h0 h1 c)
def bR.has(h:bR K H vs kvs)(k:Key):(fN vs k).isSome=wg kvs k:=by
 rw[<- kN];refine bR.ind (C:=λvs kvs=>(vs.any λkv=>decide (kv.1=k))=kvs.any λkv=>decide (kv.1=k)) rfl (λp q vs kvs e _ _ ih=>?_) h;rw[Ca,Ca,ih,e]
def bR.get(h:bR K H vs kvs)(k:Key)(g:d9 kvs k=some v):∃u,fN vs k=some u/\VR K [] H u v:=by
 refine bR.ind (C:=λvs kvs=>d9 kvs k=some v->∃u,fN vs k=some u/\VR K [] H u v) (λg=>by simp[d9]at g) (λp q vs kvs e r _ ih g=>?_) h g;by_cases c:p.1=k
 ·rw[iJ c];have c':=e▸c;have:d9 (q::kvs) k=some q.2:=by simp[d9,Bb,c']
  rw[this]at g;cases g;exact⟨_,rfl,r⟩
 ·rw[iK c];have c':=e▸c;have:d9 (q::kvs) k=d9 kvs k:=by simp[d9,Bb,c']
  exact ih (this▸g)
def bR.put(h:bR K H vs kvs)(k:Key)(r:VR K [] H u v):bR K H (putK vs k u) (xq kvs k v):=by
 have hh:(vs.any λkv=>decide (kv.1=k))=wg kvs k:=by rw[kN];exact h.has k
 unfold putK xq;rw[hh]
 split
 ·refine bR.ind (C:=λvs kvs=>bR K H (vs.map λkv=>if kv.1=k then (kv.1,u) else kv) (kvs.map λkv=>if kv.1=k then (kv.1,v) else kv)) ⟨rfl,.nil⟩ (λp q vs kvs e rr _ ih=>?_) h;rw[Ar,Ar];by_cases c:p.1=k
  ·rw[if_pos c,if_pos (e▸c)];exact bR.mk e r ih
  ·rw[if_neg c,if_neg (e▸c)];exact bR.mk e rr ih
 ·refine bR.ind (C:=λvs kvs=>bR K H (vs++[(k,u)]) (kvs++[(k,v)])) ⟨rfl,.cons r .nil⟩ (λp q vs kvs e rr _ ih=>bR.mk e rr ih) h
def bR.length(h:bR K H vs kvs):vs.length=kvs.length:=by
 have:=congrArg BS h.1;simpa using this
end
section
variable{rest:O sK}{pos:Pos}{T:Type}{out:T->End}
def kU(sr:aM K H σ fs)(hs:fs[i]?=some (some (.od kvs))):∃a vs,σ[i]?=some (some (.ref a))/\H a=some (.dK vs)/\bR K H vs kvs:=by
 obtain⟨u,e1,r⟩:=sr.at' i _ hs;rcases r with⟨v,e,_⟩ | ⟨a,e,vs,q1,q2,q3⟩
 ·cases e
 ·subst e;exact⟨a,vs,e1,q1,q2,q3⟩
def Jw{Q:Key->Prop}(r:VR K [] H u v)(q:(vQ v).run Q):∃k,u=kV k/\Q k:=by
 cases r with
 | int i=>exact⟨.inl i,rfl,q⟩
 | str s=>exact⟨.inr s,rfl,q⟩
 | _=>exact q.elim
def Nt(i:Nat)(hs:fs[i]?=some (some (.od kvs)))(hN:X.N[i]?=some y):∀σ H Q,fT K fs (.bind wa λx=>.bind (vQ x) λk=>.ret (if neg then !wg kvs k else wg kvs k)) σ H Q->(fE K fs wa) σ H λu H1=>(T4 i) σ H1 λz H2=>∃a o,z=.ref a/\mO H2 a u o/\(∃b,(V.bl (if neg then !o.isSome else o.isSome))=.bl b/\Q b H2):=λσ H Q ⟨sr,q⟩=>
 ⟨sr,wa.mono (λv q1 u H1 g1 s1 v1=>by
  obtain⟨k,rfl,q2⟩:=Jw v1 q1;obtain⟨a,vs,e1,h1,r1⟩:=kU s1 hs;refine⟨_,e1,a,_,rfl,mO.k h1,_,rfl,?_⟩;rw[r1.has k];exact q2 H1 g1 s1) q⟩
theorem aae(i:Nat)(hs:fs[i]?=some (some (.od kvs)))(hu:X.A.units+200 < pr)(ha:EF X K fs a wa)(hN:X.N[i]?=some y:=by rfl)(hv:uL X.env.scope y:=by first | exact Cy rfl | exact B9 (Cy rfl) | exact B9 (B9 rfl))(hd:iG y:=by decide)(gB:w5 y:=by decide)(hk:nw .In (.Name y p)=false:=by rfl) :
  TF X K fs (.Compare a [.In] [.Name y p] pos) (.bind wa λx=>.bind (vQ x) λk=>.ret (wg kvs k)):=⟨PT.imp (QD (QO ∅ ha.p (cL hN hv hd gB)) hk) (Nt (neg:=false) i hs hN)⟩
theorem Se(i:Nat)(hs:fs[i]?=some (some (.od kvs)))(hu:X.A.units+200 < pr)(ha:EF X K fs a wa)(hN:X.N[i]?=some y:=by rfl)(hv:uL X.env.scope y:=by first | exact Cy rfl | exact B9 (Cy rfl) | exact B9 (B9 rfl))(hd:iG y:=by decide)(gB:w5 y:=by decide)(hsl:Oo a) :
  EF X K fs (.Subscript (.Name y p) a pos) (.bind wa λx=>.bind (vQ x) λk=>.Lf (d9 kvs k)):=⟨PE.imp (zu ∅ (cL hN hv hd gB) ha.p hsl) λσ H Q ⟨sr,q⟩=>by
 obtain⟨a,vs,e1,h1,r1⟩:=kU sr hs;refine⟨_,e1,sr,wa.mono (λv q1 u H1 g1 s1 v1=>?_) q⟩;obtain⟨k,rfl,q2⟩:=Jw v1 q1;have q2:(W.Lf (d9 kvs k)).run _:=q2;obtain⟨a',HP,nA,dY,qL⟩:=kU s1 hs;rw[e1]at nA;cases nA;cases hg:d9 kvs k with
 | none=>rw[hg]at q2;exact q2.elim
 | some z=>
  rw[hg]at q2;obtain⟨u,k1,k2⟩:=qL.get k hg;exact⟨a,u,rfl,by rw[<- k1];exact mO.k dY,q2 u H1 g1 s1 k2⟩⟩
def QB(kvs:O (Key×PV))(n v:PV):W (O (Key×PV)):=.bind (vQ n) λkk=>.eB (kvs.length < sizeLine) (.ret (xq kvs kk v))
theorem SF.putD(i:Nat){k:O (Key×PV)->W T}(hs:fs[i]?=some (some (.od kvs)))(hu:X.A.units+200 < pr)(hN:X.N[i]?=some y)(hv:uL X.env.scope y)(he:EF X K fs e we)(hi:EF X K fs ei wi)(hr:∀l',SF X K x (fs.set i (some (.od l'))) rest (k l') out)
  (hd:iG y:=by decide) (gB:w5 y:=by decide) (oZ:lm e (some (.Subscript (.Name y p) ei iD)) pos.line X.env=pure false:=by rfl) :
  SF X K x fs (.Assign [.Subscript (.Name y p) ei iD] e pos::rest) (.bind we λv=>.bind wi λn=>.bind (QB kvs n v) k) out:=
 SF.step (Mc ∅ (cL hN hv hd gB) hi.p he.p oZ) λD σ H ⟨sr,q⟩=>by
  refine⟨sr,we.mono (λv q1 u H1 g1 s1 v1=>?_) q⟩;obtain⟨a,vs,e1,h1,r1⟩:=kU s1 hs;refine⟨_,e1,s1,wi.mono (λn q2 u2 H2 g2 s2 v2=>?_) q1⟩;obtain⟨kk,rfl,hz,q3⟩:=Jw v2 q2;obtain⟨a',HP,nA,dY,qL⟩:=kU s2 hs;rw[e1]at nA;cases nA;refine⟨a,_,rfl,K8.k dY (by rw[qL.length];exact hz),?_⟩;have sx:lT a H2 (upd H2 a (.dK (putK HP kk u))):=λz o n hz=>by rw[ar n];exact hz
  obtain⟨s3,g3⟩:=ka (t':=.od (xq kvs kk v)) s2 hs rfl (by simp) e1 sx λtk=>⟨_,aE,(qL.put kk (g2.vr s1 v1)).1,az.tk tk (qL.put kk (g2.vr s1 v1)).2⟩;exact⟨_,k _,hr _,s3,(k _).mono (λt q4=>q4.go ((g1.trans g2).f.trans g3) sr s3) q3⟩
end
end
section
variable[cG]
variable{K:Ab}
def fAs(K:Ab)(fs:bf)(i:Nat)(w:W (O PV)):TS:=λD σ H=>aM K H σ fs/\w.run λl=>∀a vs H',cp σ fs H H'->aM K H' σ fs->H a=bd->H' a=some (.lst vs)->az K [] H' vs l->D.nx (σ.set i (some (.ref a))) H'
structure AS(X:Cx)(K:Ab)(fs:bf)(st:sK)(i:Nat)(w:W (List PV)):Prop where p:PS X st (fAs K fs i w)
section
variable{st:sK}{rest:O sK}{T:Type}{out:T->End}{k:O PV->W T}
def SF.as(h:AS X K fs st i wl)(hr:∀l,SF X K x (fs.set i (some (.ol bd l))) rest (k l) out):SF X K x fs (st::rest) (.bind wl k) out:=SF.step h.p λD σ H ⟨sr,q⟩=>⟨sr,wl.mono (λl q1 a ws H1 g1 s1 n e v1=>by
 have no:=sr.noOwn n;have s2:=s1.sd (t:=.ol bd l) ⟨by simp,ws,e,v1⟩ no i;exact⟨_,k l,hr l,s2,(k l).mono (λt q2=>q2.go (bU.sd s1 g1.f no n i) sr s2) q1⟩) q⟩
def Sx(b:Nat)(hs:fs[b]?=some (some t))(h:AS X K (fs.set b (some (.val t.bv))) st i wl)(hb:t.bw=true:=by rfl):AS X K fs st i (.bind wl HX):=⟨λZ s σ H D I ⟨sr,q⟩=>by
 obtain⟨a,o,ob,I2,s2,Ò⟩:=bor I sr hs hb;refine bh (h.p Z s σ _ {nx:=λσ' H1=>∃b vs l',σ'=σ.set i (some (.ref b))/\cp σ (fs.set _ (some (.val t.bv))) (upd H a (.bQ ob o)) H1/\aM K H1 σ (fs.set _ (some (.val t.bv)))/\upd H a (.bQ ob o) b=bd/\H1 b=some (.lst vs)/\az K [] H1 vs l'/\qo l'=true/\∀a vs H',cp σ fs H H'->aM K H' σ fs->H a=bd->H' a=some (.lst vs)->az K [] H' vs l'->D.nx (σ.set i (some (.ref a))) H',rt:=D.rt,bk:=D.bk,ct:=D.ct} I2 ⟨s2,wl.mono (λl' q1 b vs H1 g1 s1 n e v1=>⟨b,vs,l',rfl,g1,s1,n,e,v1,q1.1,q1.2⟩) q⟩) λf s1 q1=>?_;cases f with
 | next=>
  obtain⟨σ',H1,I1,b,vs,l',rfl,g1,Uu,n,eb,v1,d,q1⟩:=q1;obtain⟨I3,g3,s3,t3,k3⟩:=Ò _ s1 H1 I1 g1 Uu;have nb:b≠a:=λy=>by subst y;rw[aE]at n;cases n
  exact⟨_,_,I3,q1 b vs _ g3 s3 (by rw[ar nb]at n;exact n) (k3 b vs nb eb) (az.lO t3 v1 d)⟩
 | ret v=>exact q1
 | brk=>exact q1
 | cont=>exact q1⟩
end
section
variable{c:im}{pos:Pos}{T2:Type}{wt:PV->W T2}{cq:T2->bf}{tf:T2->W Bool}{te:T2->W PV}
def Wz(hc:X.calm=true)(hN:X.N.Nodup)(ye:X.N[i]?=some y)(hx:X.env.scope.names.lookup y=some .local)(S:a9 X.env.scope X.N sc N' ix)(hi:nW X K fs tg iter wl)(hg:∀cl C s2 H2 fp,GF (eD X sc N' cl C s2 H2 fp) K (bq ix fs) tg is wt cq)(VG:∀cl C s2 H2 fp t,FF (eD X sc N' cl C s2 H2 fp) K (cq t) Ì (tf t))(he:∀cl C s2 H2 fp t,EF (eD X sc N' cl C s2 H2 fp) K (cq t) Ä (te t))
  (hf:∀p,f p=.bind (wt p) λt=>.bind (tf t) λk=>if k=true then .bind (te t) λv=>.ret (some v) else .ret bd) (hl:qA is (bq ix fs) cq/\∀t,fw (cq t) (bq ix fs)) (v9:∀j∈is,ix[j]?=some bd)
  (oZ:lm (.ListComp Ä [⟨tg,iter,Ì,0⟩] sc pos) (some (.Name y px)) kS.line X.env=pure true:=by rfl) (hs:qC X iter:=by intro _;rfl) :
  AS X K fs (.Assign [.Name y px] (.ListComp Ä [⟨tg,iter,Ì,0⟩] sc pos) kS) i (.bind wl λl=>gA l f):=
 ⟨PS.imp (vj hc hN ye hx S hi.p (λcl C s2 H2 fp=>(hg cl C s2 H2 fp).p) (λcl C s2 H2 fp Z s σ H Q I ⟨t,q⟩=>(VG cl C s2 H2 fp t).p Z s σ H Q I q) (λcl C s2 H2 fp Z s σ H Q I ⟨t,q⟩=>(he cl C s2 H2 fp t).p Z s σ H Q I q) oZ hs) λD σ H ⟨sr,q⟩=>
  J9 (K:=K) S rfl hf hl.1 hl.2 v9 σ H _ ⟨sr,q⟩⟩
def Sw{tf:PV->W Bool}{te:PV->W PV}(hc:X.calm=true)(hN:X.N.Nodup)(ye:X.N[i]?=some y)(hx:X.env.scope.names.lookup y=some .local)(S:a9 X.env.scope X.N sc N' ix)(hi:nW X K fs tg iter wl)(hg:∀cl C s2 H2 fp,PG (eD X sc N' cl C s2 H2 fp) tg (cP j))(hf:∀cl C s2 H2 fp t,TF (eD X sc N' cl C s2 H2 fp) K ((bq ix fs).set j (some (.val t))) c (tf t))(he:∀cl C s2 H2 fp t,EF (eD X sc N' cl C s2 H2 fp) K ((bq ix fs).set j (some (.val t))) Ä (te t))(h0:ix[j]?=some bd)
  (oZ:lm (.ListComp Ä [⟨tg,iter,[c],0⟩] sc pos) (some (.Name y px)) kS.line X.env=pure true:=by rfl) (hs:qC X iter:=by intro _;rfl) :
  AS X K fs (.Assign [.Name y px] (.ListComp Ä [⟨tg,iter,[c],0⟩] sc pos) kS) i (.bind wl λl=>gA l λp=>sV (tf p) (te p)):=
 have h1:(bq ix fs)[j]?=some bd:=by unfold bq;rw[Aj,h0];rfl
 Wz (wt:=.ret) (tf:=tf) (te:=te) hc hN ye hx S hi (λcl C s2 H2 fp=>RQ (hg cl C s2 H2 fp)) (λcl C s2 H2 fp t=>tQ (hf cl C s2 H2 fp t)) he (λ_=>rfl) (Jq h1) (λm hj=>by rw[A1]at hj;subst hj;exact h0) oZ hs
end
end
end FL
variable{Q:PL.PV->Prop}{kvs:O (O L2.Key×PL.PV)}
namespace FL
section
variable[cG]
variable{K:Ab}
def lU(K:Ab)(H:Hp)(vs:O (O Key×V))(kvs:O (O Key×PV)):Prop:=vs.map (·.1)=kvs.map (·.1)/\az K [] H (vs.map (·.2)) (kvs.map (·.2))
def Ow(K:Ab)(H:Hp)(ob:HO)(v:PV):Prop:=(∃vs kvs,ob=.dK vs/\v=N2 kvs/\bR K H vs kvs)\/∃vs kvs,ob=.dT vs/\v=Kr kvs/\lU K H vs kvs
def fDv(K:Ab)(fs:bf)(w:W PV):TE:=λσ H Q=>aM K H σ fs/\w.run λv=>∀a ob H',cp σ fs H H'->aM K H' σ fs->H a=bd->H' a=some ob->Ow K H' ob v->Q (.ref a) H'
structure Z7(X:Cx)(K:Ab)(fs:bf)(e:im)(w:W PV):Prop where p:PE X e (fDv K fs w)
section
variable{σ:L2.St}{fs:bf}{H:Hp}{a:ci}{ob:HO}{v:PV}
def aM.Ur(s:aM K H σ fs)(n:¬cn σ fs a)(e:H a=some ob)(n1:∀vs,ob≠.tup vs)(n2:∀o u,ob≠.bQ o u)(n3:ob.nt=true)(o':HO):aM K (upd H a o') σ fs:=⟨s.len,λi t q=>by
 obtain⟨u,h1,h2⟩:=s.at' i t q;exact⟨u,h1,h2.mono (eS o' e n1 n2) (λx b o eb ow hb z _=>by subst eb;rw[ar (λy:b=a=>n ⟨i,t,x,q,ow,h1,y▸hb⟩)];exact z)⟩,s.nd,s.tb.zl (λb o n z=>by rw[ar n];exact z) e n3 n2⟩
def Ow.bQ{X:Cx}{Z:O (ci×Obj)}{s:db}{σ':L2.St}(I:Inv X Z σ' H s)(e:H a=some ob)(d:Ow K H ob v):∃u,Inv X Z σ' (upd H a u) s/\VR K [] (upd H a u) (.ref a) v/\(∀vs,ob≠.tup vs)/\(∀o u,ob≠.bQ o u)/\ob.nt=true:=by
 rcases d with⟨vs,kvs,rfl,rfl,d1,d2⟩ | ⟨vs,kvs,rfl,rfl,d1,d2⟩
 ·obtain⟨o,I2⟩:=I.zV e;exact⟨_,I2,.dk aE (O6 d1) (az.tk (eS _ e (by simp) (by simp)) d2),by simp,by simp,rfl⟩
 ·obtain⟨o,I2⟩:=I.freeze e;exact⟨_,I2,.dt aE (O5 d1) (az.tk (eS _ e (by simp) (by simp)) d2),by simp,by simp,rfl⟩
end
section
variable{b c:im}{pos:Pos}{w:W PV}
def Wk(h:Z7 X K fs e w):EF X K fs e w:=⟨λZ s σ H Q I ⟨sr,q⟩=>by
 refine bh (h.p Z s σ H (λu H1=>∃a ob v,u=.ref a/\cp σ fs H H1/\aM K H1 σ fs/\H a=bd/\H1 a=some ob/\Ow K H1 ob v/\∀u H',cp σ fs H H'->aM K H' σ fs->VR K [] H' u v->Q u H') I ⟨sr,w.mono (λv q1 a ob H1 g1 s1 n e d=>⟨a,ob,v,rfl,g1,s1,n,e,d,q1⟩) q⟩) λu s1 ⟨v,H1,I1,r1,a,ob,v',e,g1,Uu,n,ea,d,q1⟩=>?_;subst e;obtain⟨o',I2,vr,n1,n2,n3⟩:=d.bQ I1 ea;exact⟨.ref a,_,I2,r1,q1 _ _ (g1.side n _) (Uu.Ur (λz=>sr.noOwn n z) ea n1 n2 n3 _) vr⟩⟩
def zy(kv:O Key×PV):PV:=.tup [.tup (kv.1.map kP),kv.2]
theorem JA(H:Hp):∀k:O Key,az K [] H (k.map kV) (k.map kP)
 | []=>.nil
 | .inl i::k=>.cons (.int i) (JA H k)
 | .inr i::k=>.cons (.str i) (JA H k)
theorem vV:∀{k:O Key}{vs:O V},az K [] H vs (k.map kP)->vs=k.map kV
 | [],_,h=>by cases h;rfl
 | .inl i::k,_,h=>by
  cases h with
  | cons x t=>cases x;rw[vV t];rfl
 | .inr i::k,_,h=>by
  cases h with
  | cons x t=>cases x;rw[vV t];rfl
theorem vq:∀{kvs:O (O Key×PV)}{vs:O V},az K [] H vs (kvs.map zy)->∃zs:O Pz,vs=zs.map (λz=>V.ref z.pa)/\(∀z∈zs,z.At H)/\zs.map (·.k)=kvs.map (·.1)/\az K [] H (zs.map (·.v)) (kvs.map (·.2))
 | [],_,h=>by cases h;exact⟨[],rfl,by simp,rfl,.nil⟩
 | kv::kvs,_,h=>by
  cases h with
  | cons x t=>
  obtain⟨zs,z1,z2,z3,z4⟩:=vq t;cases x with
  | @tup p ws _ e r=>
  cases r with
  | cons x1 t1=>
  cases t1 with
  | cons x2 t2=>
  cases t2;cases x1 with
  | @tup b us _ e1 r1=>
  have:=vV r1;subst this;refine⟨⟨p,kv.1,b,_⟩::zs,by rw[Ar,z1],λz hz=>?_,by rw[Ar,Ar,z3],.cons x2 z4⟩;rcases AH.mp hz with rfl | hz
  ·exact⟨e,e1⟩
  ·exact z2 z hz
def yz(l:O PV):W PV:=⟨λQ=>∃kvs:O (O Key×PV),l=kvs.map zy/\(kvs.map (·.1)).Nodup/\kvs.length<=1000/\Q (Kr kvs),λf q=>q.imp λkvs h=>⟨h.1,h.2.1,h.2.2.1,f _ h.2.2.2⟩⟩
theorem N5(hK:X.K=K)(hc:X.calm=true)(hu:X.A.units+200 < pr)(hg:Gl X "dict")(hm:X.mg "dict"=bd)(ha:F7 X K fs e wl)(he:fX X e []:=by rfl)(cI:kJ X pos []:=by rfl) :
  Z7 X K fs (.Call (.Name "dict" p) [e] [] pos) (.bind wl yz):=⟨PE.imp (jk (yJ K hK hc ∅) hg hm boot_dict (a8 ha.p cA he) ⋯ ⋯ he cI) λσ H Q ⟨sr,q⟩=>⟨sr,wl.mono (λl q1 u H1 g1 s1 v0 v1=>by
  obtain⟨kvs,rfl,nd,hl,q1⟩:=q1;obtain⟨a,vs,rfl,e3,e4⟩:=v1 H1 .refl s1;obtain⟨zs,rfl,z2,z3,z4⟩:=vq e4;have hzl:zs.length=kvs.length:=by have:=congrArg BS z3;simpa using this
  refine⟨a,zs,rfl,e3,z2,by rw[z3];exact nd,by omega,λp H2 s2 h2 n2=>?_⟩;exact q1 _ _ H2 (g1.trans (cp.same s2)) (s1.same s2) (g1.there _ n2) h2 (.inr ⟨_,_,rfl,rfl,by rw[AM,<- z3];rfl,by rw[AM];exact az.tk s2.cU z4⟩)) q⟩⟩
def He(nd:(kvs.map (·.1)).Nodup)(hl:kvs.length<=1000)(q:Q (Kr kvs)):(yz (kvs.map zy)).run Q:=⟨kvs,rfl,nd,hl,q⟩
def jI(kvs:O (O Key×PV))(k:O Key):Option PV:=(kvs.find? λkv=>decide (kv.1=k)).map (·.2)
theorem lU.get{k:O Key}:∀{vs:O (O Key×V)}{kvs:O (O Key×PV)},lU K H vs kvs->(jI kvs k=bd->fN vs k=bd)/\∀{v},jI kvs k=some v->∃u,fN vs k=some u/\VR K [] H u v
 | [],[],_=>⟨λ_=>rfl,λg=>by simp[jI]at g⟩
 | [],_::_,h=>by simp[lU]at h
 | _::_,[],h=>by simp[lU]at h
 | p::vs,q::kvs,h=>by
  obtain⟨h1,h2⟩:=h;rw[Ar,Ar]at h1 h2;injection h1 with e b;cases h2 with
  | cons r t=>
  have ih:=lU.get (k:=k) (vs:=vs) (kvs:=kvs) ⟨b,t⟩;by_cases c:p.1=k
  ·rw[iJ c];have c':=e▸c;have:jI (q::kvs) k=some q.2:=by simp[jI,Bb,c']
   rw[this];refine⟨λz=>(by cases z),λ{v} z=>?_⟩;cases z;exact⟨_,rfl,r⟩
  ·rw[iK c];have c':=e▸c;have:jI (q::kvs) k=jI kvs k:=by simp[jI,Bb,c']
   rw[this];exact ih
def bR.get'{k:Key}:∀{vs:O (Key×V)}{kvs:O (Key×PV)},bR K H vs kvs->(d9 kvs k=bd->fN vs k=bd)/\∀{v},d9 kvs k=some v->∃u,fN vs k=some u/\VR K [] H u v:=λ{vs kvs} h=>⟨λz=>by
 have:=h.has k;cases e:fN vs k with
 | none=>rfl
 | some u=>
  rw[e]at this;have h2:=this.symm;unfold d9 at z;rw[Option.map_eq_none_iff,List.find?_eq_none]at z;obtain⟨x,hx,Vv⟩:=ED.mp h2;exact absurd Vv (z x hx),λz=>h.get k z⟩
def O7(k:Key)(l:O PV):kP k≠.tup l:=by cases k <;> exact PV.noConfusion
def Rt{a b:Key}(h:kP a=kP b):a=b:=by
 cases a <;> cases b <;> simp[kP]at h <;> rw[h]
theorem tm:∀{a b:O Key},a.map kP=b.map kP->a=b
 | [],[],_=>rfl
 | [],_::_,h=>by simp at h
 | _::_,[],h=>by simp at h
 | x::a,y::b,h=>by
  rw[Ar,Ar]at h;injection h with h1 h2;rw[Rt h1,tm h2]
inductive rG:PV->PV->Option PV->Prop
 | k (kvs:List (Key×PV)) (k:Key):kvs≠[]->rG (N2 kvs) (kP k) (d9 kvs k)
 | t (kvs:List (List Key×PV)) (k:List Key):kvs≠[]->rG (Kr kvs) (.tup (k.map kP)) (jI kvs k)
def HS{kvs:O (Key×PV)}(h0:kvs≠[])(h:VR K [] H u (N2 kvs)):∃a o vs,u=.ref a/\H a=some (.bQ o (.dK vs))/\bR K H vs kvs:=by
 have Ç:∀{vs:O (Key×V)}{kvs:O (Key×PV)},(kvs.map λkv=>kP kv.1)=(vs.map λkv=>kP kv.1)->vs.map (·.1)=kvs.map (·.1):=λ{vs kvs} e=>by
  have e:(kvs.map (·.1)).map kP=(vs.map (·.1)).map kP:=by rw[AM,AM];exact e
  exact(tm e).symm
 cases h with
 | @dk a o vs _ _ e k r=>exact⟨a,o,vs,rfl,e,Ç k,r⟩
 | @dt a o vs _ _ e k r=>
  cases kvs with
  | nil=>exact absurd rfl h0
  | cons x l=>cases vs with
   | nil=>simp at k
   | cons y m=>simp at k;exact absurd k.1 (O7 _ _)
def HQ(h0:kvs≠[])(h:VR K [] H u (Kr kvs)):∃a o vs,u=.ref a/\H a=some (.bQ o (.dT vs))/\lU K H vs kvs:=by
 have Ç:∀{vs:O (O Key×V)}{kvs:O (O Key×PV)},(kvs.map λkv=>PV.tup (kv.1.map kP))=(vs.map λkv=>PV.tup (kv.1.map kP))->vs.map (·.1)=kvs.map (·.1):=λ{vs kvs} e=>by
  induction kvs generalizing vs with
  | nil=>cases vs with
   | nil=>rfl
   | cons y m=>simp at e
  | cons x l ih=>cases vs with
   | nil=>simp at e
   | cons y m=>
    injection e with e1 e2;injection e1 with e1;rw[Ar,Ar,tm e1,ih e2]
 cases h with
 | @dt a o vs _ _ e k r=>exact⟨a,o,vs,rfl,e,Ç k,r⟩
 | @dk a o vs _ _ e k r=>
  cases kvs with
  | nil=>exact absurd rfl h0
  | cons x l=>cases vs with
   | nil=>simp at k
   | cons y m=>simp at k;exact absurd k.1.symm (O7 _ _)
def rG.ok{z:V}{d y:PV}{r:Option PV}(h:rG d y r)(hu:VR K [] H u d)(hz:VR K [] H z y):∃a o,u=.ref a/\XY H a/\mO H a z o/\(r=bd->o=bd)/\∀v,r=some v->∃w,o=some w/\VR K [] H w v:=by
 cases h with
 | k kvs k h0=>
  obtain⟨a,o,vs,rfl,e,d⟩:=HS h0 hu;have ez:z=kV k:=by
   cases k with
   | inl i=>cases hz;rfl
   | inr i=>cases hz;rfl
  subst ez;exact⟨a,fN vs k,rfl,.inl ⟨vs,.inr ⟨o,e⟩⟩,.inl ⟨vs,k,.inr ⟨o,e⟩,rfl,rfl⟩,(bR.get' d).1,λv=>(bR.get' d).2⟩
 | t kvs k h0=>
  obtain⟨a,o,vs,rfl,e,d⟩:=HQ h0 hu;cases hz with
  | @tup b us _ e1 r1=>
  have:=vV r1;subst this;exact⟨a,fN vs k,rfl,.inr ⟨vs,.inr ⟨o,e⟩⟩,.inr ⟨vs,k,b,.inr ⟨o,e⟩,rfl,e1,rfl⟩,(lU.get d).1,λv=>(lU.get d).2⟩
def XR(d y:PV):W PV:=⟨λQ=>∃v,rG d y (some v)/\Q v,λf ⟨v,a,q⟩=>⟨v,a,f _ q⟩⟩
def Sj(a b:W PV):W PV:=.bind a λx=>.bind b λy=>XR x y
theorem yt(hu:X.A.units+200 < pr)(ha:EF X K fs a wa)(hb:EF X K fs b wb)(hs:Oo b):EF X K fs (.Subscript a b pos) (Sj wa wb):=⟨PE.imp (zu ∅ ha.p hb.p hs) λσ H Q ⟨sr,q⟩=>⟨sr,wa.mono (λx q1 u1 H1 g1 s1 v1=>⟨s1,wb.mono (λy q2 u2 H2 g2 s2 v2=>by
 obtain⟨v,g,q2⟩:=q2;obtain⟨a,o,rfl,_,g2',_,h⟩:=g.ok (g2.vr s1 v1) v2;obtain⟨w,rfl,vw⟩:=h v rfl;exact⟨a,w,rfl,g2',q2 _ H2 (g1.trans g2) s2 vw⟩) q1⟩) q⟩⟩
def N3{kvs:O (Key×PV)}{k:Key}(h:d9 kvs k=some v)(q:Q v):(XR (N2 kvs) (kP k)).run Q:=⟨v,by rw[<- h];exact .k kvs k (λz=>by subst z;simp[d9]at h),q⟩
def FY{k:O Key}(h:jI kvs k=some v)(q:Q v):(XR (Kr kvs) (.tup (k.map kP))).run Q:=⟨v,by rw[<- h];exact .t kvs k (λz=>by subst z;simp[jI]at h),q⟩
def Jv(d:PV):W (O PV):=⟨λQ=>∃kvs:O (O Key×PV),d=Kr kvs/\kvs≠[]/\kvs.length<=1000/\Q (kvs.map λkv=>.tup (kv.1.map kP)),λf q=>q.imp λkvs h=>⟨h.1,h.2.1,h.2.2.1,f _ h.2.2.2⟩⟩
theorem Nm(h:EF X K fs e w):nW X K fs tg e (.bind w Jv):=⟨PI.imp (IJ h.p) λσ H R ⟨sr,q⟩=>⟨sr,w.mono (λx q1 u1 H1 g1 s1 v1=>by
 obtain⟨kvs,rfl,h0,hl,q1⟩:=q1;obtain⟨a,o,vs,rfl,e,d1,d2⟩:=HQ h0 v1;have len:vs.length=kvs.length:=by have:=congrArg BS d1;simpa using this
 refine⟨a,o,vs,rfl,e,q1 _ H1 g1 s1 ⟨br (by simpa using hl),λH' t=>?_⟩⟩;have e':=t.z _ _ _ e;refine⟨λi p hp=>?_,vs,e',by simp[len]⟩;rw[Aj]at hp;cases z:kvs[i]? with
 | none=>rw[z]at hp;cases hp
 | some kv=>
  rw[z]at hp;have hp:=Option.some.inj hp;subst hp;have hi:=(Al.mp z).1;refine⟨⟨vs,e',by omega⟩,λy H2 yy=>?_⟩;obtain⟨rfl,yy⟩:=yy;obtain⟨b,k,v,rfl,k2,k3⟩:=yy vs e';have ek:k=kv.1:=by
   have h1:(vs.map (·.1))[i]?=some k:=by rw[Aj,k2];rfl
   rw[d1,Aj,z]at h1;exact(Option.some.inj h1).symm
  subst ek;exact⟨iu.refl _,.tup k3 (JA _ _)⟩) q⟩⟩
def GL{Q:O PV->Prop}(h0:kvs≠[])(hl:kvs.length<=1000)(q:Q (kvs.map λkv=>.tup (kv.1.map kP))):(Jv (Kr kvs)).run Q:=⟨kvs,rfl,h0,hl,q⟩
end
end
end FL
namespace L2
def Iz{kvs:O (Key×V)}{k:Key}{v:V}:(putK kvs k v).length<=kvs.length+1:=by
 unfold putK
 split <;> simp
end L2
namespace FL
section
variable[cG]
variable{K:Ab}
def X3:PV->W (PV×PV×PV)
 | .tup [a,.tup [b,c]]=>.ret (a,b,c)
 | _=>.fail
def LG:PV->W (PV×PV×PV×PV×PV)
 | .tup [a,.tup [b,c,d,e]]=>.ret (a,b,c,d,e)
 | _=>.fail
@[simp] theorem Xv(a b c:PV):X3 (.tup [a,.tup [b,c]])=.ret (a,b,c):=(rfl)
@[simp] theorem NK(a b c d e:PV):LG (.tup [a,.tup [b,c,d,e]])=.ret (a,b,c,d,e):=(rfl)
section
def ZE{l m:Nat}(hK:X.K=K)(h:PG X tg (NF X.K 2 (lF (cP i) (lF (NF X.K 4 (lF (cP j) (lF (cP k) (lF (cP l) (lF (cP m) NG))))) NG)))):GF X K fs tg [i,j,k,l,m] LG (λt=>((((fs.set i (some (.val t.1))).set j (some (.val t.2.1))).set k (some (.val t.2.2.1))).set l (some (.val t.2.2.2.1))).set m (some (.val t.2.2.2.2))):=⟨PG.imp h λv σ H Q ⟨p,sr,r,q⟩=>by
 subst hK;unfold LG at q
 split at q
 ·cases r with
  | tup e rs=>
   cases rs with
   | cons ra t=>
   cases t with
   | cons r2 t=>
   cases t;cases r2 with
   | tup e2 rs2=>
   cases rs2 with
   | cons rb t=>
   cases t with
   | cons rc t=>
   cases t with
   | cons rd t=>
   cases t with
   | cons re t=>
   cases t;have s1:=sr.fm ra i;have s2:=s1.fm rb j;have s3:=s2.fm rc k;have s4:=s3.fm rd l;exact⟨_,_,rfl,cS.of e,rfl,_,_,rfl,_,_,rfl,⟨_,_,rfl,cS.of e2,rfl,_,_,rfl,_,_,rfl,_,_,rfl,_,_,rfl,rfl,rfl,q [_,_,_,_,_] (((((bU.fm sr _ _ i).trans (bU.fm s1 _ _ j)).trans (bU.fm s2 _ _ k)).trans (bU.fm s3 _ _ l)).trans (bU.fm s4 _ _ m)) (s4.fm re m)⟩⟩
 ·exact q.elim⟩
end
end
section
variable[cG]
section
theorem ml:∀(more acc:O (Key×V)),((acc++more).map (·.1)).Nodup->cj acc more=acc++more
 | [],acc,_=>by simp[cj]
 | kv::more,acc,h=>by
  have e:putK acc kv.1 kv.2=acc++[kv]:=by
   unfold putK;rw[if_neg];intro hc;obtain⟨z,hz,e⟩:=ED.mp hc;have e:=of_decide_eq_true e;rw[A8,Dg]at h;exact h.2.2 z.1 (AD.mpr ⟨z,hz,rfl⟩) kv.1 (by simp) e
  have h2:cj acc (kv::more)=cj (putK acc kv.1 kv.2) more:=rfl;rw[h2,e,ml more (acc++[kv]) (by simpa using h)];simp
end
end
section
variable[cG]
def jD(ns:O Int):Prop:=∃g s c:Int,ns=[g,s,c]/\0<=g/\0<=s/\s < 2305843009213693951/\0<=c
def drawn(m:Int):W PV:=.any λv=>∃d:Int,v=.int d/\0<=d/\d < m
def bL:PV->W PV
 | .int m=>.eB (0 < m/\m<=2000) (drawn m)
 | _=>.fail
end
end FL
variable{j:Int}
namespace FL
section
variable[cG]
def mi{i:Int}:of2 (aI g) (.int i) (.int j)=.ret (g i j):=xz λQ=>⟨C2,λq=>⟨rfl,q⟩⟩
def nK{C:Int->Int->Prop}{i:Int}:of2 (SG C g) (.int i) (.int j)=.eB (C i j) (.ret (g i j)):=xz λQ=>⟨λq=>⟨q.1,q.2.2⟩,λq=>⟨q.1,rfl,q.2⟩⟩
section
variable(i j:Int)(a:Bool)(x y:PV)(l m:O PV)(s t:Str)
@[simp] theorem pw:of2 ox (.int i) (.int j)=.ret (.int (i-j)):=mi
@[simp] theorem Kc:of2 mj (.int i) (.int j)=.eB (wp i j) (.ret (.int (i*j))):=nK
@[simp] theorem ZR:of2 oDiv (.int i) (.int j)=.eB (Oz i j) (.ret (.int (i / j))):=nK
@[simp] theorem Ke:of2 oMod (.int i) (.int j)=.eB (0 < j) (.ret (.int (i % j))):=nK
@[simp] theorem R4:of2 vB (.int i) (.int j)=.eB (La i j) (.ret (.int (i ^ j.toNat))):=nK
@[simp] theorem wA:of2 oLt (.int i) (.int j)=.ret (.bl (decide (i < j))):=mi
@[simp] theorem V6:of2 oLe (.int i) (.int j)=.ret (.bl (decide (i<=j))):=mi
@[simp] theorem Po:of2 Q1 (.int i) (.int j)=.ret (.bl (decide (j < i))):=mi
@[simp] theorem V8:of2 W9 (.int i) (.int j)=.ret (.bl (decide (j<=i))):=mi
@[simp] theorem V7:of2 O8 (.int i) (.int j)=.ret (.int (i+j)):=mi
def Kf:of2 kW x y=.eB (G8 x y) (.ret (.bl (gD x y))):=xz λQ=>⟨λq=>⟨q.1,q.2.2⟩,λq=>⟨q.1,rfl,q.2⟩⟩
def Kb:of2 kc x y=.eB (G8 x y) (.ret (.bl (!gD x y))):=xz λQ=>⟨λq=>⟨q.1,q.2.2⟩,λq=>⟨q.1,rfl,q.2⟩⟩
@[simp] theorem pA:of2 GB x .aK=.ret (.bl x.lx):=xz λQ=>⟨C2,λq=>⟨rfl,q⟩⟩
def Sa{c:Nat}(h:df s.cps.toList i=some c):of2 Je (.str s) (.int i)=.eB (s.length<=sizeLine) (.ret (.str ⟨#[c]⟩)):=xz λQ=>by
 show(s.length<=sizeLine/\match df s.cps.toList i with | some c=>_/\_ | none=>False)↔_;rw[h];exact⟨λq=>⟨q.1,q.2.2⟩,λq=>⟨q.1,rfl,q.2⟩⟩
@[simp] theorem dG:addW (.int i) (.int j)=.ret (.int (i+j)):=(rfl)
@[simp] theorem FQ:addW (.str s) (.str t)=.eB (s.length+t.length<=sizeLine) (.ret (.str (s++t))):=(rfl)
@[simp] theorem FP:addW (.tup l) (.tup m)=.eB (l.length+m.length<=sizeLine) (.ret (.tup (l++m))):=(rfl)
@[simp] theorem R7:MV (.int i)=.ret (.int (-i)):=(rfl)
@[simp] theorem bF:Sz (.bl a)=.ret a:=(rfl)
@[simp] theorem Te(w:W PV):KC (.bl true) w=w:=(rfl)
@[simp] theorem Tf(w:W PV):KC (.bl false) w=.ret (.bl false):=(rfl)
@[simp] theorem FO(w:W PV):Oe (.bl true) w=w:=(rfl)
@[simp] theorem XJ(w:W PV):Oe (.bl false) w=.ret (.bl false):=(rfl)
@[simp] theorem R6:Q3 (.bl a)=.ret (.bl (!a)):=(rfl)
@[simp] theorem bD:dq (.bl a)=.ret a:=(rfl)
@[simp] theorem Xy:dq (.int i)=.ret (i != 0):=(rfl)
@[simp] theorem Xx:dq .aK=.ret false:=(rfl)
@[simp] theorem Xw:dq (.tup l)=.ret (!l.isEmpty):=(rfl)
@[simp] theorem Xz:dq (.cl l)=.ret (!l.isEmpty):=(rfl)
@[simp] theorem aL:aB (.tup l)=.ret l:=(rfl)
@[simp] theorem bW:aB (.cl l)=.ret l:=(rfl)
@[simp] theorem NM:Rf (.cl l)=.ret l:=(rfl)
@[simp] theorem bX:zI l (.int i)=.Lf (df l i):=(rfl)
@[simp] theorem pz:qc l=.ret (.int l.length):=(rfl)
@[simp] theorem ym:ma l=.ret (.tup l):=(rfl)
@[simp] theorem aa2:XS a=.ret (.bl a):=(rfl)
@[simp] theorem zZ:part (.int i)=.ret (some i):=(rfl)
@[simp] theorem yk:HU (.tup [x,y])=.ret (x,y):=(rfl)
@[simp] theorem Fl(k:Kd):dQ k (.int i)=.ret (.bl (k.is (.int i))):=(rfl)
@[simp] theorem nS(k:Kd):dQ k (.str s)=.ret (.bl (k.is (.str s))):=(rfl)
@[simp] theorem jx(k:Kd):dQ k (.tup l)=.ret (.bl (k.is (.tup l))):=(rfl)
@[simp] theorem XG(k:Kd):dQ k (.cl l)=.ret (.bl (k.is (.cl l))):=(rfl)
@[simp] theorem XH(k:Kd):dQ k (.bl a)=.ret (.bl (k.is (.bl a))):=(rfl)
@[simp] theorem XF(k:Kd):dQ k .aK=.ret (.bl (k.is .aK)):=(rfl)
@[simp] theorem nQ:pX il [.tup l]=.ret (.int l.length):=xz λQ=>⟨C2,λq=>⟨rfl,q⟩⟩
@[simp] theorem hJ:pX il [.cl l]=.ret (.int l.length):=xz λQ=>⟨C2,λq=>⟨rfl,q⟩⟩
@[simp] theorem XA:pX il [.str s]=.eB (s.length<=sizeLine) (.ret (.int s.length)):=xz λQ=>⟨λq=>⟨q.1,q.2.2⟩,λq=>⟨q.1,rfl,q.2⟩⟩
@[simp] theorem Sd:pX KW [.int i]=.ret (.int (if i < 0 then -i else i)):=xz λQ=>⟨C2,λq=>⟨rfl,q⟩⟩
@[simp] theorem XI:pX um [.int i]=.ret (.int i):=xz λQ=>⟨C2,λq=>⟨rfl,q⟩⟩
@[simp] theorem tR:pX um [.bl a]=.ret (.int (if a then 1 else 0)):=xz λQ=>⟨C2,λq=>⟨rfl,q⟩⟩
@[simp] theorem R9:pX KU [.int i,.int j]=.ret (.int (if j > i then j else i)):=xz λQ=>⟨C2,λq=>⟨rfl,q⟩⟩
@[simp] theorem R8:pX KS [.int i,.int j]=.ret (.int (if j < i then j else i)):=xz λQ=>⟨C2,λq=>⟨rfl,q⟩⟩
@[simp] theorem R1(p q:Option Int):Qi (.tup l) p q=.ret (.tup (wL l p q)):=(rfl)
@[simp] theorem z9:vQ (.int i)=.ret (.inl i):=(rfl)
@[simp] theorem XB:vQ (.str s)=.ret (.inr s):=(rfl)
@[simp] theorem lH:mR (.int j)=.eB (okN 0 j) (.ret (iA 0 j.toNat)):=(rfl)
@[simp] theorem NL(k:Int):Im (.int i) (.int j) (.int k)=.eB (k = -1/\okN j i) (.ret (m7 i (i-j).toNat)):=(rfl)
@[simp] theorem R5:vm (l++[x])=.ret (l,x):=by unfold vm;simp
@[simp] theorem R3:L3 l (.int i)=.eB (-(2 ^ 63)<=i/\i < 2 ^ 63/\l.length*i.toNat<=sizeLine) (.ret (Ak i.toNat l).flatten):=(rfl)
@[simp] theorem NS:Kd.is .int (.int i)=true:=(rfl)
@[simp] theorem XD:Kd.is .int (.bl a)=true:=(rfl)
@[simp] theorem XE:Kd.is .bool (.bl a)=true:=(rfl)
@[simp] theorem NT:Kd.is .bool (.int i)=false:=(rfl)
@[simp] theorem nR:Kd.is .str (.str s)=true:=(rfl)
@[simp] theorem lI:Kd.is .str (.tup l)=false:=(rfl)
@[simp] theorem NR:Kd.is .str (.int i)=false:=(rfl)
@[simp] theorem NN:Kd.is .tup (.tup l)=true:=(rfl)
@[simp] theorem NP:Kd.is .tup (.str s)=false:=(rfl)
@[simp] theorem NQ:Kd.is .tup (.int i)=false:=(rfl)
@[simp] theorem XC:Kd.is .tup (.bl a)=false:=(rfl)
@[simp] theorem cJ(h0:0 < i)(h1:i<=2000):bL (.int i)=drawn i:=tz ⟨h0,h1⟩
def bx{m:Int}(h:∀d:Int,0<=d->d < m->Q (.int d)):(drawn m).run Q:=λv ⟨d,e,h0,h1⟩=>e▸h d h0 h1
end
namespace W
variable{α β:Type}
def le(a b:W α):Prop:=∀Q,b.run Q->a.run Q
def le.refl(a:W α):a.le a:=λ_ h=>h
def le.of_eq{a b:W α}(h:a=b):a.le b:=h▸le.refl a
def le.ret{a:W α}{v:α}{f:α->W β}{b:W β}(h:a.le (.ret v))(hf:(f v).le b):(a.bind f).le b:=λQ q=>h _ (hf Q q)
def le.use{a:W α}{v:α}{Q:α->Prop}(h:a.le (.ret v))(q:Q v):a.run Q:=h _ q
end W
section
variable{S R:Type}
@[simp] theorem VU(s:S)(f:PV->S->W S):dZ [] s f=.ret s:=(rfl)
@[simp] theorem S9(x:PV)(r:O PV)(s:S)(f:PV->S->W S):dZ (x::r) s f=.bind (f x s) λs'=>dZ r s' f:=(rfl)
theorem ph{f:PV->S->W S}{Q:S->Prop}(I:O PV->S->Prop):∀{l:O PV}{s:S},I l s->(∀x r s,I (x::r) s->(f x s).run (I r))->(∀s,I [] s->Q s)->(dZ l s f).run Q
 | [],s,h0,_,he=>he s h0
 | x::r,s,h0,hs,he=>(f x s).mono (λs' h=>ph I h hs he) (hs x r s h0)
theorem wy{f:PV->S->W (Lp S R)}{Q:Lp S R->Prop}(I:O PV->S->Prop):∀{l:O PV}{s:S},I l s->(∀x r s,I (x::r) s->(f x s).run λo=>match o with | .go s'=>I r s' | .out t=>Q (.out t))->(∀s,I [] s->Q (.go s))->(FL.jK l s f).run Q
 | [],s,h0,_,he=>he s h0
 | x::r,s,h0,hs,he=>(f x s).mono (λo h=>match o,h with
  | .go s',h=>wy I h hs he
  | .out t,h=>h) (hs x r s h0)
theorem hE{f:PV->S->W S}{Q:S->Prop}(I:Nat->S->Prop){s:S}(h0:I 0 s)(hs:∀(i:Nat) (x:PV) s,l[i]?=some x->I i s->(f x s).run (I (i+1)))(he:∀s,I l.length s->Q s):(dZ l s f).run Q:=by
 refine ph (λr s=>∃i,i<=l.length/\r=l.drop i/\I i s) ⟨0,Bx _,rfl,h0⟩ (λx r s ⟨i,hi,e,h⟩=>?_) (λs ⟨i,hi,e,h⟩=>?_)
 ·have jH:i < l.length:=by
   rcases Fz i l.length with h | h
   ·exact h
   ·rw[EN h]at e;cases e
  rw[Bm jH]at e;injection e with e1 e2;subst e1;exact(f _ s).mono (λs' h'=>⟨i+1,jH,e2,h'⟩) (hs i _ s (Ad jH) h)
 ·have:i=l.length:=by
   have:=congrArg BS e;rw[Dq]at this;simp at this;omega
  subst this;exact he s h
theorem zW{f:PV->S->W (Lp S R)}{Q:Lp S R->Prop}(I:Nat->S->Prop){s:S}(h0:I 0 s)(hs:∀(i:Nat) (x:PV) s,l[i]?=some x->I i s->(f x s).run λo=>match o with | .go s'=>I (i+1) s' | .out t=>Q (.out t))(he:∀s,I l.length s->Q (.go s)):(FL.jK l s f).run Q:=by
 refine wy (λr s=>∃i,i<=l.length/\r=l.drop i/\I i s) ⟨0,Bx _,rfl,h0⟩ (λx r s ⟨i,hi,e,h⟩=>?_) (λs ⟨i,hi,e,h⟩=>?_)
 ·have jH:i < l.length:=by
   rcases Fz i l.length with h | h
   ·exact h
   ·rw[EN h]at e;cases e
  rw[Bm jH]at e;injection e with e1 e2;subst e1;exact(f _ s).mono (λo h'=>match o,h' with
   | .go s',h'=>⟨i+1,jH,e2,h'⟩
   | .out t,h'=>h') (hs i _ s (Ad jH) h)
 ·have:i=l.length:=by
   have:=congrArg BS e;simp at this;omega
  subst this;exact he s h
def J3{f:PV->S->W S}{Q:S->Prop}(I:Nat->S->Prop){s:S}(h0:I 0 s)(hs:∀(i:Nat) s,i < n->I i s->(f (.int (i:Int)) s).run (I (i+1)))(he:∀s,I n s->Q s):(dZ (iA 0 n) s f).run Q:=
 hE I h0 (λi x s hx h=>by obtain⟨hi,rfl⟩:=mE hx;rw[EO];exact hs i s hi h) (λs h=>he s (by rw[ju]at h;exact h))
def J4{f:PV->S->W (Lp S R)}{Q:Lp S R->Prop}(I:Nat->S->Prop){s:S}(h0:I 0 s)(hs:∀(i:Nat) s,i < n->I i s->(f (.int (i:Int)) s).run λo=>match o with | .go s'=>I (i+1) s' | .out t=>Q (.out t))(he:∀s,I n s->Q (.go s)):(FL.jK (iA 0 n) s f).run Q:=
 zW I h0 (λi x s hx h=>by obtain⟨hi,rfl⟩:=mE hx;rw[EO];exact hs i s hi h) (λs h=>he s (by rw[ju]at h;exact h))
theorem jY{c:S->W Bool}{b:S->W S}{Q:S->Prop}(I:Nat->S->Prop){s:S}(h0:I n s)(hs:∀n s,I n s->(c s).run λk=>if k=true then (b s).run (λs'=>∃m,m < n/\I m s') else Q s):(nZ c b s).run Q:=by
 refine⟨n+1,?_⟩;have:∀k n s,n < k->I n s->(jZ c b k s).run Q:=by
  intro k
  induction k with
  | zero=>intro n s h;omega
  | succ k ih=>
   intro n s hn h;refine(c s).mono (λz q=>?_) (hs n s h);cases z with
   | true=>exact(b s).mono (λs' ⟨m,hm,h'⟩=>ih m s' ∅ h') (show(b s).run _ from q)
   | false=>exact q
 exact this (n+1) n s ∅ h0
theorem zD{f:PV->W PV}{g:PV->PV}:∀{l:O PV},(∀x∈l,f x=.ret (g x))->cv l f=.ret (l.map g)
 | [],_=>rfl
 | x::r,h=>by
  show am (f x) (λy=>am (cv r f) λl=>ap (y::l))=_;rw[h x (.head _),zD λy hy=>h y (.tail _ hy)];rfl
theorem xS{g:PV->Option PV}:∀{l:O PV},(∀x∈l,f x=.ret (g x))->gA l f=.ret (l.filterMap g)
 | [],_=>rfl
 | x::r,h=>by
  show am (f x) (λo=>am (gA r f) λl=>ap (o.toList++l))=_;rw[h x (.head _),xS λy hy=>h y (.tail _ hy),Bw];cases g x <;> rfl
@[simp] theorem F1(bs:O Bool):Hw (bs.map PV.bl)=.ret (.bl (bs.all id)):=by unfold Hw;rw[uh];rfl
@[simp] theorem Od(bs:O Bool):K0 (bs.map PV.bl)=.ret (.bl (bs.any id)):=by unfold K0;rw[uh];rfl
end
section
variable(i j:Int)(a b:Bool)(x y:PV)(l m:O PV)(s t:Str)
@[simp] theorem Pl:gD (.int i) (.int j)=(i==j):=by rw[gD]
@[simp] theorem V0:gD (.str s) (.str t)=(s==t):=by rw[gD]
@[simp] theorem Pm:gD (.bl a) (.bl b)=(a==b):=by rw[gD]
@[simp] theorem aaX:gD (.tup l) (.tup m)=fg l m:=by rw[gD]
@[simp] theorem aaY:gD (.cl l) (.cl m)=fg l m:=by rw[gD]
@[simp] theorem ZP:fg [] []=true:=by rw[fg]
@[simp] theorem ZO:fg (x::l) (y::m)=(gD x y&&fg l m):=by rw[fg]
@[simp] theorem Xq:PV.gC (.int i)=true:=by rw[PV.gC] <;> simp
@[simp] theorem ZM:PV.gC (.bl a)=true:=by rw[PV.gC] <;> simp
@[simp] theorem Xo:PV.gC (.str s)=true:=by rw[PV.gC] <;> simp
@[simp] theorem Xp:PV.gC .aK=true:=by rw[PV.gC] <;> simp
@[simp] theorem Xn:PV.gC (.tup l)=eA l:=by rw[PV.gC]
@[simp] theorem ZL:PV.gC (.cl l)=eA l:=by rw[PV.gC]
@[simp] theorem VY:eA []=true:=by rw[eA]
@[simp] theorem Ta:eA (x::l)=(PV.gC x&&eA l):=by rw[eA]
@[simp] theorem V4:PV.fo (.int i)=0:=by rw[PV.fo] <;> simp
@[simp] theorem Xt:PV.fo (.bl a)=0:=by rw[PV.fo] <;> simp
@[simp] theorem V2:PV.fo (.str s)=0:=by rw[PV.fo] <;> simp
@[simp] theorem V3:PV.fo .aK=0:=by rw[PV.fo] <;> simp
@[simp] theorem V1:PV.fo (.tup l)=da l+1:=by rw[PV.fo]
@[simp] theorem Xr:PV.fo (.cl l)=da l+1:=by rw[PV.fo]
@[simp] theorem Tc:da []=0:=by rw[da]
@[simp] theorem RY:da (x::l)=max (PV.fo x) (da l):=by rw[da]
def wB:G8 (.int i) (.int j):=⟨by simp,by simp,by simp⟩
@[simp] theorem i6:of2 kW (.int i) (.int j)=.ret (.bl (i==j)):=by rw[Kf,tz (wB i j),Pl]
@[simp] theorem mG:of2 kc (.int i) (.int j)=.ret (.bl (!(i==j))):=by rw[Kb,tz (wB i j),Pl]
@[simp] theorem Sb:of2 kW (.bl a) (.bl b)=.ret (.bl (a==b)):=by rw[Kf,tz ⟨by simp,by simp,by simp⟩,Pm]
@[simp] theorem ZQ:of2 kc (.bl a) (.bl b)=.ret (.bl (!(a==b))):=by rw[Kb,tz ⟨by simp,by simp,by simp⟩,Pm]
end
theorem iZ:∀{l:O PV},eA l=true↔∀x∈l,PV.gC x=true
 | []=>by simp
 | x::l=>by rw[eA,AJ,iZ (l:=l)];simp
theorem i5:∀{l:O PV},(∀x∈l,PV.fo x<=n)->da l<=n
 | [],_=>by simp
 | x::l,h=>by
  have h1:=h x (.head _);have h2:=i5 (l:=l) λy hy=>h y (.tail _ hy);rw[da];omega
instance (priority:=10) aby:cG:=⟨[]⟩
end
end FL
variable{x:BW}
namespace FL
section
variable[cG]
structure EV where
 P:ul
 w:wv
 K:Ab
 mg:Str->Option bn
 base:lw
structure DF where
 x:Str
 s:sK
 ps:List Str
 k:Nat
 sp:Ab->Sp
abbrev DF.C(d:DF)(v:EV):=Ox v.P v.w v.K v.mg v.base d.x d.k d.ps (d.sp v.K)
structure DI(v:EV)(d:DF) where
 f:ci
 fd:Gc
 fn:Lo v.K d.x d.x d.s f fd
 bi:Binds v.K fd d.ps []
 at':v.mg d.x=some (.ref f)
abbrev DI.O{v:EV}{d:DF}(D:DI v d):Prop:=fy v.P v.w v.K v.mg v.base pP d.k D.f D.fd d.ps (d.sp v.K)
def DI.c{v:EV}{d:DF}(D:DI v d)(h:D.O):d.C v:=⟨D.f,D.fd,h,D.bi,D.fn.kp,D.at'⟩
def DI.cN{v:EV}{d:DF}{sp:Sp}(D:DI v d)(h:fy v.P v.w v.K v.mg v.base pP k D.f D.fd d.ps sp):Ox v.P v.w v.K v.mg v.base d.x k d.ps sp:=⟨D.f,D.fd,h,D.bi,D.fn.kp,D.at'⟩
structure DX(K:Ab)(x:Str)(st:sK):Prop where
 ex:∃f fd,A3 K ii x=some (some (.ref f))/\Lo K x x st f fd
abbrev dnm(s:sK):Str:=match s with
 | .FunctionDef x _ _ _ _ _ _ _ _ _=>x
 | _=>""
def dx{K:Ab}{st:sK}{f:ci}{kV:bn}(a:A3 K ii x=some (some (.ref f)))(l:K.lookup f=some ⟨oc,od,.func (BP x x (dI st) (b0 st) (ay st) .none kV É pm an dM ct),Mv⟩)
  (c:DZ K dM x=true) (k:DY K (.ref f)=true):DX K x st:=⟨f,_,a,RT l c k⟩
def S7{N P:O Str}(h1:sc.kind=.function:=by rfl)(h2:sc.isCoroutine=false:=by rfl)(h3:sc.isGenerator=false:=by rfl)(h4:N.Nodup:=by decide +kernel)(h5:N.take P.length=P:=by rfl)(h6:∀x∈P,sc.names.lookup x=some .local\/sc.names.lookup x=some .cell:=by decide +kernel)(h7:∀y∈sc.names,y.2≠.free:=by decide +kernel):cy N P sc:=⟨h1,h2,h3,h4,h5,h6,h7⟩
def lcs{N:O Str}(h1:sc.kind=.function:=by rfl)(h2:∀y∈sc.names,y.2≠.cell:=by decide +kernel)(h3:∀y∈sc.names,y.2=.local->sc.names.lookup y.1=some .local:=by decide +kernel)(h4:∀y∈sc.names,y.2=.free->(Xs.names.lookup y.1=some .cell\/Xs.names.lookup y.1=some .free):=by decide +kernel)(h5:N'.Nodup:=by decide +kernel)(h6:ix.length=N'.length:=by rfl)
  (h7:((ix.zip N').all λp=>match p.1 with | none=>true | some j=>decide (N[j]?=some p.2)&&decide (sc.names.lookup p.2=some .free))=true:=by decide +kernel):a9 Xs N sc N' ix:=⟨h1,h2,h3,h4,h5,h6,h7⟩
abbrev nM(l:O (Str×wE)):r9:={kind:=.function,names:=(B8 ".0",.local)::l,isGenerator:=false,isCoroutine:=false,more:=[]}
abbrev lo:wE:=.local
abbrev gi:wE:=.globalImplicit
abbrev fr:wE:=.free
def xD:O AK->Nat
 | []=>0
 | .p _::ks=>xD ks+1
 | _::ks=>xD ks
theorem kY:∀{ks:O AK}{i:Nat},ks[i]?=some (.p φ)->xD ks≠0
 | [],i,h=>by simp at h
 | .p _::_,_,_=>Nat.succ_ne_zero _
 | .v::ks,0,h=>by simp at h
 | .f _ _ _ _::ks,0,h=>by simp at h
 | .v::ks,i+1,h=>kY (ks:=ks) (i:=i) (by simpa using h)
 | .f _ _ _ _::ks,i+1,h=>kY (ks:=ks) (i:=i) (by simpa using h)
theorem sF:∀{ks:O AK},Nat.ble (xD ks) 1=true->yY ks
 | [],_=>λi j ⟨_,h⟩=>by simp at h
 | .v::ks,h=>λi j ⟨φ,a⟩ ⟨ψ,b⟩=>by
  cases i with | zero=>simp at a | succ i=>cases j with | zero=>simp at b | succ j=>rw[sF (ks:=ks) h i j ⟨φ,by simpa using a⟩ ⟨ψ,by simpa using b⟩]
 | .f _ _ _ _::ks,h=>λi j ⟨φ,a⟩ ⟨ψ,b⟩=>by
  cases i with | zero=>simp at a | succ i=>cases j with | zero=>simp at b | succ j=>rw[sF (ks:=ks) h i j ⟨φ,by simpa using a⟩ ⟨ψ,by simpa using b⟩]
 | .p _::ks,h=>λi j ⟨φ,a⟩ ⟨ψ,b⟩=>by
  have z:xD ks+1<=1:=Dl h;cases i with | succ i=>exact absurd ∅ (kY (ks:=ks) (i:=i) (by simpa using a)) | zero=>cases j with | succ j=>exact absurd ∅ (kY (ks:=ks) (i:=j) (by simpa using b)) | zero=>rfl
abbrev Jh(st:sK):O Str:=((ay st).names.filter λy=>y.2==.local||y.2==.cell).map (·.1)
abbrev xt(st:sK):O Str:=(dI st).args.map (·.arg)
abbrev nml(sc:r9):O Str:=((sc.names.tail.filter λy=>y.2==.local)++sc.names.filter λy=>y.2==.free).map (·.1)
abbrev ixl(N:O Str)(sc:r9):O (Option Nat):=((sc.names.tail.filter λy=>y.2==.local).map λ_=>bd)++(sc.names.filter λy=>y.2==.free).map λy=>some (N.idxOf y.1)
abbrev LS(st:sK)(sc:r9):Prop:=a9 (ay st) (Jh st) sc (nml sc) (ixl (Jh st) sc)
def YJ:Nat->bf->bf
 | _,[]=>[]
 | n,s::l=>(match n % 2 with | 0=>s | _=>bd)::YJ (n / 2) l
theorem fw.m:∀(n:Nat) {fs:bf},fw fs (YJ n fs)
 | _,[]=>.refl _
 | n,s::l=>by
  unfold YJ
  split
  ·exact .keep (fw.m _)
  ·exact .drop (fw.m _)
def Lb:(n:Nat)->(O PV->W R->Prop)->w9 R n->Prop
 | 0,B,m=>B [] m
 | n+1,B,m=>∀x:PV,Lb n (λl w=>B (x::l) w) (m x)
theorem Lb.all:∀{n:Nat}{B:O PV->W R->Prop}{m:w9 R n},Lb n B m->∀l,l.length=n->B l (lZ n m l)
 | 0,_,_,h,[],_=>h
 | n+1,_,_,h,x::l,e=>Lb.all (n:=n) (h x) l (Nat.succ.inj e)
section
variable{v:EV}{st:sK}
abbrev BB{T:Type}(v:EV)(x:Str)(st:sK)(k:Nat)(ks:O AK)(f:ci)(n:Nat)(m:w9 T n)(o:T->End):Prop:=∀{dM:bn}{A:Ch}{outer:O Env}{s:db}{H:Hp}{E:XK},d4 k (A.deeper (EQ x (ay st) s.heap.objs.size f dM))->(Jh st).Nodup->Lb n (λl w=>SF (qp pP v.P v.w v.K v.mg v.base (Jh st) x (ay st) f dM A outer s H E).OT v.K false (qv ks l (Jh st).length) (b0 st) w o) m
def xI{m:w9 PV n}(D:DI v ⟨x,st,xt st,k+1,λK=>HA K ks (lZ n m)⟩)(Î:BB v x st k ks D.f n m .rt)(RJ:ks.length=(xt st).length:=by rfl)(one:Nat.ble (xD ks) 1=true:=by rfl)(S:cy (Jh st) (xt st) (ay st):=by exact S7):D.O:=ZN D.fn S RJ (sF one) λl e dM A outer s H E hr=>(Î hr S.nd).all l e
def Ra{m:w9 (O PV) n}(D:DI v ⟨x,st,xt st,k+1,λK=>va K ks (lZ n m)⟩)(Î:BB v x st k ks D.f n m .rl)(RJ:ks.length=(xt st).length:=by rfl)(one:Nat.ble (xD ks) 1=true:=by rfl)(S:cy (Jh st) (xt st) (ay st):=by exact S7):D.O:=fnL D.fn S RJ (sF one) λl e dM A outer s H E hr=>(Î hr S.nd).all l e
end
section
variable{K:Ab}{W':W PV}{WL:W (O PV)}{pos:Pos}
theorem eC{m:O PV->W PV}(G:Ox X.prog X.w X.K X.mg X.base x k ps (HA K ks m))(hr:d4 k' X.A)(ha:AF X K fs (e::es) ks B)(hk:k<=k':=by first | exact Dl rfl | exact Ao _ | omega)(hg:Gl X x:=by rfl)(hW:W'=B m:=by rfl)(lA:iG x:=by decide)
  (he:fX X e es:=by rfl) (cI:kJ X pos es:=by rfl):EF X K fs (.Call (.Name x p) (e::es) [] pos) W':=NZ G hr hk hg ha hW lA he cI
theorem lC{m:O PV->W (O PV)}{B:(O PV->W (O PV))->W (O PV)}(G:Ox X.prog X.w X.K X.mg X.base x k ps (va K ks m))(hr:d4 k' X.A)(ha:AF X K fs (e::es) ks B)(hk:k<=k':=by first | exact Dl rfl | exact Ao _ | omega)(hg:Gl X x:=by rfl)(hW:WL=B m:=by rfl)(lA:iG x:=by decide)
  (he:fX X e es:=by rfl) (cI:kJ X pos es:=by rfl):LF X K fs (.Call (.Name x p) (e::es) [] pos) WL:=Na G hr hk hg ha hW lA he cI
def fj(i:Nat)(hN:X.N.Nodup)(hi:X.N[i]?=some x:=by rfl)(hx:Loc X.env.scope x:=by first | exact .inl rfl | exact .inr rfl)(hf:K6 X x:=by first | exact .inl rfl | exact .inr rfl | assumption):PG X (.Name x pos) (cP i):=Mj hN hi hx hf
variable{T:Type}{out:T->End}{rest:O sK}
def sv(i:Nat){k:PV->W T}(hN:X.N.Nodup)(he:EF X K fs e we)(hr:∀v,SF X K b (fs.set i (some (.val v))) rest (k v) out)(hi:X.N[i]?=some y:=by rfl)(hx:Loc X.env.scope y:=by first | exact .inl rfl | exact .inr rfl)(hs:lm e (some (.Name y p')) pos.line X.env=pure false:=by rfl)
  (hf:K6 X y:=by first | exact .inl rfl | exact .inr rfl | assumption):SF X K b fs (.Assign [.Name y p'] e pos::rest) (.bind we k) out:=SF.set hN hi hx he hr hs hf
def sl(i:Nat){k:O PV->W T}(hN:X.N.Nodup)(he:LF X K fs e wl)(hr:∀l,SF X K b (fs.set i (some (.ol bd l))) rest (k l) out)(hi:X.N[i]?=some y:=by rfl)(hx:Loc X.env.scope y:=by first | exact .inl rfl | exact .inr rfl)(hs:lm e (some (.Name y p')) pos.line X.env=pure false:=by rfl)
  (hf:K6 X y:=by first | exact .inl rfl | exact .inr rfl | assumption):SF X K b fs (.Assign [.Name y p'] e pos::rest) (.bind wl k) out:=SF.Ys hN hi hx he hr hs hf
end
end
end FL
variable{a:BA}{m:PL.PV->FL.W PL.PV}
namespace FL
section
variable[cG]
def WR:(n:Nat)->(O bn->Prop)->Prop
 | 0,P=>P []
 | n+1,P=>∀x,WR n λl=>P (x::l)
theorem usN:∀{n:Nat}{P:O bn->Prop},WR n P->∀us:O bn,us.length=n->P us
 | 0,_,h,[],_=>h
 | n+1,_,h,x::l,e=>usN (n:=n) (h x) l (Nat.succ.inj e)
def DX.mk2{v:EV}{d:DF}(D:DX v.K d.x d.s)(X:v.K.In h)(G:h.Ns ii v.mg)
  (hb:∀(kV É pm:bn) (an:Option ci) (dM ct:bn) (us:O bn),us.length=d.ps.length->bindArgs (BP d.x d.x (dI d.s) (b0 d.s) (ay d.s) .none kV É pm an dM ct) ⟨us,[]⟩=pure (d.ps.zip us):=by exact λ_ _ _ _ _ _=>usN (by (repeat intro _);rfl)):Nonempty (DI v d):=by
 obtain⟨f,fd,a,F⟩:=D.ex;exact⟨⟨f,fd,F,F.binds hb,PySem.W.mg_of X G a⟩⟩
def DX.go{v:EV}{d:DF}(D:DX v.K d.x d.s)(X:v.K.In h)(G:h.Ns ii v.mg){P:Prop}(k:∀D:DI v d,D.O)(r:d.C v->P)
  (hb:∀(kV É pm:bn) (an:Option ci) (dM ct:bn) (us:O bn),us.length=d.ps.length->bindArgs (BP d.x d.x (dI d.s) (b0 d.s) (ay d.s) .none kV É pm an dM ct) ⟨us,[]⟩=pure (d.ps.zip us):=by exact λ_ _ _ _ _ _=>usN (by (repeat intro _);rfl)):P:=by
 obtain⟨D⟩:=D.mk2 X G hb;exact r (D.c (k D))
def zi(K:Ab):Sp:=λvs H Q _=>TB H/\∃(a:ci) (ns:O Int),vs=[.ref a]/\Ou K H a (ns.map V.int)/\ns.length<=63/\∀H',Q (.bl true) H'
def NH{K:Ab}(hO:Om H)(hS:b9 K H a (ns.map V.int)):Ou K H a (ns.map V.int):=by
 rcases hS with (h | ⟨o,h⟩) | h
 ·rcases hO a with z | ⟨o,xs,z⟩
  ·rw[h]at z;cases z
  ·rw[h]at z;cases z
 ·exact .inl ⟨o,h⟩
 ·exact .inr h
def M9{K:Ab}(ok:∀ns:O Int,ns.length<=63->(m (.cl (ns.map PV.int))).run (·=.bl true)):∀vs H Q E,zi K vs H Q E->HA K [.v] (lZ 1 m) vs H Q E:=λvs H Q E ⟨tb,a,ns,e,fz,hl,q⟩=>by
 subst e;refine⟨tb,[.cl (ns.map PV.int)],.v (.cl fz (lz _ _ ns)) .nil,(m (.cl (ns.map PV.int))).mono (λv e u H' _ r=>?_) (ok ns hl)⟩;subst e;cases r;exact q H'
structure WS(K:Ab)(mg:Str->Option bn)(d:DF):Prop where
 f:∀v:EV,v.K=K->v.mg=mg->∀D:DI v d,D.O
def mkAll{l:ES}{K:Ab}{fa:ci}{st:sK}(ok:∀ns:O Int,ns.length<=63->(m (.cl (ns.map PV.int))).run (·=.bl true))(X:K.In h)(G:h.Ns ii mg)(hfa:mg "law"=some (.ref fa))(Wh:DX K "law" st)
  (hb:∀(kV É pm:bn) (an:Option ci) (dM ct:bn) (us:O bn),us.length=1->bindArgs (BP "law" "law" (dI st) (b0 st) (ay st) .none kV É pm an dM ct) ⟨us,[]⟩=pure (([("_law_script":Str)]:O Str).zip us))
  (F:WS K mg ⟨"law",st,["_law_script"],k,λK=>HA K [.v] (lZ 1 m)⟩) :
  ∃fd:Gc,(∀(s:db) (v:bn),BindsTo s fd ⟨[v],[]⟩ [("_law_script",v)])/\∀base:lw,K.In base->base.Ns ii mg->fy l.prog w K mg base pP k fa fd ["_law_script"] (zi K):=by
 obtain⟨f,fd,a,F'⟩:=Wh.ex;have e:=hfa.symm.trans (PySem.W.mg_of X G a);cases e;have fb:=F'.binds (ps:=["_law_script"]) hb;obtain⟨oc,od,kV,É,pm,an,dM,ct,Mv,rfl,_⟩:=id F'.ex;exact⟨BP "law" "law" (dI st) (b0 st) (ay st) .none kV É pm an dM ct,λs v=>.of_eq (hb kV É pm an dM ct [v] rfl),λbase _ _=>(F.f ⟨l.prog,w,K,mg,base⟩ rfl rfl ⟨_,_,F',fb,hfa⟩).imp (M9 ok)⟩
section
variable{K:Ab}{R:Type}{B:(O PV->W R)->W R}
def av(i:Nat){pos:Pos}(hr:AF X K fs es ks B)(hs:fs[i]?=some (some (.val v)):=by rfl)(hN:X.N[i]?=some x:=by rfl)(hv:uL X.env.scope x:=by first | exact Cy rfl | exact B9 (Cy rfl) | exact B9 (B9 rfl))(hd:iG x:=by decide)(gB:w5 x:=by decide)
  (h:ga (.Name x pos::es) X.env=(false,kt (.Name x pos) X.env)::ga es X.env:=by rfl):AF X K fs (.Name x pos::es) (.v::ks) (λk=>.bind (.ret v) λx=>B λl=>k (x::l)):=aq (ae i hs hN hv hd gB) hr h
end
end
section
variable[cG]
section
variable{K:Ab}{rest:O sK}{pos:Pos}{T:Type}{out:T->End}{x:Bool}
def Sg(ts:O (Int×Int)):O (Key×PV):=ts.map λt=>(.inl t.1,.int t.2)
def FX(ts:O (Int×Int)):O (Key×V):=ts.map λt=>(.inl t.1,.int t.2)
theorem zv{Q:O (V×V)->Hp->Prop}:∀(ts:O (Int×Int)) (H:Hp) (Q:O (V×V)->Hp->Prop),Q (ts.map λt=>(V.int t.1,V.int t.2)) H->rQ (ts.map λt=>(tC (.int t.1),tC (.int t.2))) σ H Q
 | [],H,Q,q=>q
 | t::ts,H,Q,q=>zv (Q:=Q) ts H (λps H3=>Q ((V.int t.1,V.int t.2)::ps) H3) q
def Kw(H:Hp)(ts:O (Int×Int)):bR K H (FX ts) (Sg ts):=by
 refine⟨by simp[FX,Sg],?_⟩
 induction ts with
 | nil=>exact .nil
 | cons t ts ih=>exact .cons (.int t.2) ih
def SF.Us(ts:O (Int×Int)){k:W T}(hN:X.N.Nodup)(hi:X.N[i]?=some y)(hx:Loc X.env.scope y)(hp:WC X p2 Ç Æ (ts.map λt=>(tC (.int t.1),tC (.int t.2))))(hr:SF X K x (fs.set i (some (.od (Sg ts)))) rest k out)(JV:Ç.all (·.isSome)=true:=by rfl)(hl:Ç.length=Æ.length:=by rfl)(h0:Ç≠[]:=by simp)(ZA:Ç.length<=15:=by decide)(ht:ts.length<=15:=by decide)(hnd:(ts.map (·.1)).Nodup:=by decide +kernel)(hs:lm (.Dict Ç Æ p2) (some (.Name y p')) pos.line X.env=pure false:=by rfl)
  (hf:K6 X y:=by first | exact .inl rfl | exact .inr rfl | assumption):SF X K x fs (.Assign [.Name y p'] (.Dict Ç Æ p2) pos::rest) k out:=SF.step (sf hN hi hx (Mo hp JV hl h0 ZA) hs hf) λD σ H ⟨sr,q⟩=>λa n1=>by
 refine zv (Q:=λ_ _=>True) ts _ _ ⟨aE,FX ts,by simp[FX,kV],by simpa[FX]using ht,?_⟩;have em:cj [] (FX ts)=FX ts:=ml _ [] (by
  have e:(FX ts).map (·.1)=(ts.map (·.1)).map CU:=by simp[FX]
  rw[DM,e];exact List.Pairwise.map _ (λa b h e=>h (Ds e)) hnd)
 rw[em];have s1:iu H (upd (upd H a (.dK [])) a (.dK (FX ts))):=λb u hb=>by
  have:b≠a:=λe=>by rw[e,n1]at hb;cases hb
  rw[ar this,ar this];exact hb
 have e1:(upd (upd H a (.dK [])) a (.dK (FX ts))) a=some (.dK (FX ts)):=aE;generalize upd (upd H a (.dK [])) a (.dK (FX ts))=H1 at s1 e1;have no:=sr.noOwn n1;have s2:=(sr.same s1).sd (t:=.od (Sg ts)) ⟨FX ts,e1,(Kw (K:=K) H1 ts).1,(Kw (K:=K) H1 ts).2⟩ no i;exact⟨_,k,hr,s2,k.mono (λt q2=>q2.go (bU.sd (sr.same s1) (bU.same s1 sr) no n1 i) sr s2) q⟩
end
end
end FL
variable{x y:A4}{Q:Option A4->C8->Prop}
namespace L2
def hR:entryFor table "zip.__getattribute__"=some ut.«object.__getattribute__»:=
 entryFor_alias (id':="object.__getattribute__") (by kernel_rfl) (by decide +kernel) (by decide +kernel) (by kernel_rfl)
def lW:u8 (.type "zip") "__getattr__"=pure bd:=am_miss_of_fast (by decide +kernel)
def uO:u8 (.type "zip") (B8 "keys")=pure bd:=am_miss_of_fast (by decide +kernel)
def oG(a:ci)(fs:Array bn)(name:Str)(u:Tok)(zR:u8 (.type "zip") name=pure bd)(v8:(["__module__","__name__","__qualname__","__doc__","__annotations__"]:O Str).contains name=false)(hsz:name.length+100<=sizeLine) :
  Meets (ut.«object.__getattribute__» ⟨[.ref a,.str name u],[]⟩) (λA R s=>s.heap.get? a=some {cls:=.type "zip",dict:=bd,data:=.fields fs,slots:=#[]}/\raisesAttr (.ref a) name A R s):=
 Meets.of_wp λprog w A R s hs=>by
  obtain⟨hp,g,d,tk,os⟩:=s;obtain⟨hx,hs⟩:=hs;have hT:(⟨hp,g,d,tk,os⟩:db).TypeIs (.ref a) "zip":=⟨_,hx,rfl⟩;unfold ut.«object.__getattribute__»
  repeat (any_goals (first | assumption | wp_step))
  simp only[v8,Aq,if_false]
  repeat (any_goals (first | assumption | wp_step))
  exact wpAny_raiseAttrError hs.1 hs.2 (attrMsg_fits (by decide +kernel) hsz)
def lD{fs:Array bn}
  (hx:s.heap.get? a=some {cls:=.type "zip",dict:=bd,data:=.fields fs,slots:=#[]}) (zR:u8 (.type "zip") name=pure bd) (v8:(["__module__","__name__","__qualname__","__doc__","__annotations__"]:O Str).contains name=false) (hA:A.handled=bd)
  (h:∀h' tk e,Heap.NewExcOf s.heap h' e "AttributeError"->Q bd {s with heap:=h',toks:=tk}) (hsz:name.length+100<=sizeLine) :
  cr (f8 prog w) A (getAttr? (.ref a) name) Q E s:=by
 obtain⟨hp,g,d,tk,os⟩:=s;have hT:∀LJ,(⟨hp,g,d,LJ,os⟩:db).TypeIs (.ref a) "zip":=λ_=>⟨_,hx,rfl⟩;have f1:=sub_AttributeError;have f3:=C1.lookup;have f4:=C1.bind (.ref a);have f5:=lW
 repeat (any_goals (first | assumption | exact hT _ | ((with_reducible show cr _ _ (call (Value.builtin "zip.__getattribute__") _ _) _ _ _);refine t0 C1 (hT _) hR (F.args_zip_getattribute_2 _ _) (oG a fs name _ zR v8 hsz) ⟨hx,hA,λh' LJ e qh=>?_⟩) | wp_step))
 obtain⟨t',u',he⟩:=qh.there;unfold getattributeRaised
 repeat (any_goals (first | assumption | wp_step))
 exact h _ _ _ qh.of
section
def mP{Q:Option Obj->db->Prop}(h:Q (s.heap.get? a) s):cr (f8 prog w) A (loadIfAlive a) Q E s:=λΓ p _=>by
 unfold loadIfAlive;rw[Sem.wp_loadIfAlive];exact h
abbrev PK(f0:bn)(f1:Bool)(TI TO:ci):Obj:={cls:=.type "zip",dict:=bd,data:=.fields #[f0,.bool f1,.bool false,.ref TI,.ref TO],slots:=#[]}
structure F5(b1 b2:Bool)(h:lw)(z TI TO i1 i2 a1 a2 p:ci)(f1:Bool)(k1 k2:Nat):Prop where
 zip:h.get? z=some (PK (sB p) f1 TI TO)
 alive:∃o,h.get? p=some o
 ti:BT h TI (.ref i1) (.ref i2)
 to:∃a b,BT h TO a b
 HD:kH b1 h i1 a1 k1
 HC:kH b2 h i2 a2 k2
def kH.some(x:kH b h it a k):∃o,h.get? it=some o:=x.obj.imp λ_ h=>h.1
def uP{b2:Bool}{TI TO p:ci}{f1:Bool}{Q:bn->db->Prop}(hA:wn z TI TO i1 i2 a1 a2)(np:p≠z/\p≠i1/\p≠i2)
  (hz:F5 b1 b2 s.heap z TI TO i1 i2 a1 a2 p f1 k1 k2) (uK:cH b1 s.heap a1 xs) (pO:cH b2 s.heap a2 ys) (hx:xs[k1]?=some x) (hy:ys[k2]?=some y)
  (q:∀h':lw,F5 b1 b2 h' z TI TO i1 i2 a1 a2 p true (k1+1) (k2+1)->BT h' s.heap.objs.size x y->(∀c o,c≠z->c≠TO->c≠i1->c≠i2->s.heap.get? c=some o->h'.get? c=some o)->Q (.ref s.heap.objs.size) {s with heap:=h'}) :
  cr (f8 prog w) A (ut.«zip.__next__» {pos:=[.ref z]}) (λÁ s'=>∃v,Á=Fw (Fv v)/\Q v s') E s:=by
 obtain⟨hz,⟨op,ha⟩,zO,⟨ta,tb,Nw⟩,Pc,Pb⟩:=hz;show cr _ _ (field (.ref z) 2 >>= λr=>_) _ _ s;refine Aa (AG hz rfl rfl ?_);refine Aa (AG hz rfl rfl ?_);refine Aa (Bi zO rfl ?_);refine Aa ?_;refine Aa (AG hz rfl rfl ?_);show cr _ _ (loadIfAlive (Int.toNat (p:Int)) >>= λr=>_) _ _ s;refine Aa (mP ?_);rw[Bd,ha];show cr _ _ (field (.ref z) 1 >>= λr=>_) _ _ s;refine Aa (AG hz rfl rfl ?_);have main:∀G:Bool->db->Prop,(∀h1:lw,h1.get? z=some (PK (sB p) true TI TO)->BE z s.heap h1->G false {s with heap:=h1})->cr (f8 prog w) A (if (BL f1 != .bool true)=true then (wf (.ref z) 1 (.bool true) >>= λ_=>pure false) else pure false) G E s:=λG r=>by
  cases f1 with
  | true=>exact Ae (r s.heap hz ⟨rfl,λ_ _=>rfl⟩)
  | false=>exact Aa (AZ hz (show 1 < 5 by decide) λh1 z1 b1=>Ae (r h1 z1 b1))
 refine main _ λh1 z1 Ti=>?_;have iE:=Ti.2;show cr _ _ (forIn (#[Aw i1,Aw i2]:Array bn) _ _ >>= λr=>_) _ _ _;rw[<- Fu];refine Aa ?_;show cr _ _ (forIn [Aw i1,Aw i2] _ _) _ _ _;rw[Bt];refine Aa ?_;refine Aa (AX ?_);refine Aa (dN (Pc.move λo e=>(iE _ hA.i1z).trans e) (uK.move λo e=>(iE _ hA.l1z).trans e) hx λh2 j2 Th=>Ae ?_);have tI:∀b,b≠z->b≠i1->h2.get? b=s.heap.get? b:=λb n1 n2=>(Th.2 b n2).trans (iE b n1);refine Ae ?_;show cr _ _ (forIn [Aw i2] _ _) _ _ _;rw[Bt];refine Aa ?_;refine Aa (AX ?_);refine Aa (dN (Pb.move λo e=>(tI _ hA.i2z hA.i12.symm).trans e) (pO.move λo e=>(tI _ hA.l2z hA.l2i1).trans e) hy λh3 j3 XT=>Ae ?_);have È:∀b,b≠z->b≠i1->b≠i2->h3.get? b=s.heap.get? b:=λb n1 n2 n3=>(XT.2 b n3).trans (tI b n1 n2);refine Ae ?_;show cr _ _ (forIn [] _ _) _ _ _;rw[List.forIn_nil];refine Ae ?_;have Yk:h3.objs.size=s.heap.objs.size:=XT.1.trans (Th.1.trans Ti.1);show cr _ _ (newTuple [x,y] >>= λr=>_) _ _ _;refine Aa (CH ?_ (by show 2<=sizeLine;decide));have kp:∀b o,h3.get? b=some o->(h3.push {cls:=.type "tuple",data:=.seq #[x,y]}).get? b=some o:=λb o e=>Ai _ e;have GC:(h3.push {cls:=.type "tuple",data:=.seq #[x,y]}).get? h3.objs.size=some {cls:=.type "tuple",data:=.seq #[x,y]}:=Ap _ rfl;refine Ae ⟨.ref h3.objs.size,rfl,?_⟩;rw[Yk]at GC ⊢;refine q _ ⟨kp _ _ ((XT.2 _ hA.i2z.symm).trans ((Th.2 _ hA.i1z.symm).trans z1)),⟨op,kp _ _ ((È _ np.1 np.2.1 np.2.2).trans ha)⟩,kp _ _ ((È _ hA.TIz hA.TIi1 hA.TIi2).trans zO),⟨ta,tb,kp _ _ ((È _ hA.TOz hA.TOi1 hA.TOi2).trans Nw)⟩,j2.move λo e=>kp _ _ ((XT.2 _ hA.i12).trans e),j3.move λo e=>kp _ _ e⟩ GC λc o n1 n2 n3 n4 e=>kp _ _ ((È _ n1 n3 n4).trans e)
def rH{b2:Bool}{TI TO p:ci}{f1:Bool}{Q:PySem.Fin->db->Prop}(hh:A.handled=bd)(hA:wn z TI TO i1 i2 a1 a2)
  (hz:F5 b1 b2 s.heap z TI TO i1 i2 a1 a2 p f1 k1 k2) (uK:cH b1 s.heap a1 xs) (hx:xs[k1]?=bd)
  (q:∀(h':lw) (e:ci),(∀c o,c≠z->c≠TO->c≠i1->c≠i2->s.heap.get? c=some o->h'.get? c=some o)->(∃o,h'.get? e=some o/\o.cls=.type "StopIteration")->E (.ref e) {s with heap:=h'}) :
  cr (f8 prog w) A (ut.«zip.__next__» {pos:=[.ref z]}) Q E s:=by
 obtain⟨hz,⟨op,ha⟩,zO,⟨ta,tb,Nw⟩,Pc,Pb⟩:=hz;show cr _ _ (field (.ref z) 2 >>= λr=>_) _ _ s;refine Aa (AG hz rfl rfl ?_);refine Aa (AG hz rfl rfl ?_);refine Aa (Bi zO rfl ?_);refine Aa ?_;refine Aa (AG hz rfl rfl ?_);show cr _ _ (loadIfAlive (Int.toNat (p:Int)) >>= λr=>_) _ _ s;refine Aa (mP ?_);rw[Bd,ha];show cr _ _ (field (.ref z) 1 >>= λr=>_) _ _ s;refine Aa (AG hz rfl rfl ?_);have main:∀G:Bool->db->Prop,(∀h1:lw,h1.get? z=some (PK (sB p) true TI TO)->BE z s.heap h1->G false {s with heap:=h1})->cr (f8 prog w) A (if (BL f1 != .bool true)=true then (wf (.ref z) 1 (.bool true) >>= λ_=>pure false) else pure false) G E s:=λG r=>by
  cases f1 with
  | true=>exact Ae (r s.heap hz ⟨rfl,λ_ _=>rfl⟩)
  | false=>exact Aa (AZ hz (show 1 < 5 by decide) λh1 z1 b1=>Ae (r h1 z1 b1))
 refine main _ λh1 z1 Ti=>?_;have iE:=Ti.2;show cr _ _ (forIn (#[Aw i1,Aw i2]:Array bn) _ _ >>= λr=>_) _ _ _;rw[<- Fu];refine Aa ?_;show cr _ _ (forIn [Aw i1,Aw i2] _ _) _ _ _;rw[Bt];refine Aa ?_;refine Aa (AX ?_);refine Aa (kf hh (Pc.move λo e=>(iE _ hA.i1z).trans e) (uK.move λo e=>(iE _ hA.l1z).trans e) hx λh2 e k ex=>?_);exact q h2 e (λc o n1 n2 n3 n4 ec=>k _ _ n3 ((iE _ n1).trans ec)) ex
def ZS(b1 b2:Bool)(h:lw)(z TI TO i1 i2 a1 a2 d:ci)(i:Nat):Prop:=fh b1 b2 h z TI TO i1 i2 a1 a2 .none i i\/∃p f1,F5 b1 b2 h z TI TO i1 i2 a1 a2 p f1 i i/\p≠z/\p≠i1/\p≠i2/\p≠d
def ZS.zip{b2:Bool}{TI TO:ci}(x:ZS b1 b2 h z TI TO i1 i2 a1 a2 d i):(∃o,h.get? z=some o/\o.cls=.type "zip")/\(∃o,h.get? i1=some o)/\∃o,h.get? i2=some o:=by
 rcases x with x | ⟨p,f,x,_⟩
 ·exact⟨⟨_,x.zip,rfl⟩,x.HD.some,x.HC.some⟩
 ·exact⟨⟨_,x.zip,rfl⟩,x.HD.some,x.HC.some⟩
def ZS.move{b2:Bool}{TI TO:ci}(x:ZS b1 b2 h z TI TO i1 i2 a1 a2 d i)(n:TI≠d/\TO≠d/\z≠d/\i1≠d/\i2≠d)(k:∀b o,b≠d->h.get? b=some o->h'.get? b=some o):ZS b1 b2 h' z TI TO i1 i2 a1 a2 d i:=by
 obtain⟨n1,n2,n3,n4,n5⟩:=n;rcases x with x | ⟨p,f,x,m1,m2,m3,m4⟩
 ·exact .inl ⟨k _ _ n3 x.zip,k _ _ n1 x.ti,let ⟨a,b,e⟩:=x.to;⟨a,b,k _ _ n2 e⟩,x.HD.move λo e=>k _ _ n4 e,x.HC.move λo e=>k _ _ n5 e⟩
 ·exact .inr ⟨p,f,⟨k _ _ n3 x.zip,let ⟨o,e⟩:=x.alive;⟨o,k _ _ m4 e⟩,k _ _ n1 x.ti,let ⟨a,b,e⟩:=x.to;⟨a,b,k _ _ n2 e⟩,x.HD.move λo e=>k _ _ n4 e,x.HC.move λo e=>k _ _ n5 e⟩,m1,m2,m3,m4⟩
def Lr{b2:Bool}{TI TO:ci}(hA:wn z TI TO i1 i2 a1 a2)(hd:∃o,s.heap.get? d=some o)
  (hz:ZS b1 b2 s.heap z TI TO i1 i2 a1 a2 d i) (uK:cH b1 s.heap a1 xs) (pO:cH b2 s.heap a2 ys) (hx:xs[i]?=some x) (hy:ys[i]?=some y)
  (q:∀h':lw,ZS b1 b2 h' z TI TO i1 i2 a1 a2 d (i+1)->BT h' s.heap.objs.size x y->(∀c o,c≠z->c≠TO->c≠i1->c≠i2->s.heap.get? c=some o->h'.get? c=some o)->Q (some (.ref s.heap.objs.size)) {s with heap:=h'}) :
  cr (f8 prog w) A (Ev (.ref z)) Q E s:=by
 have fr:∀{b:ci},(∃o,s.heap.get? b=some o)->s.heap.objs.size≠b:=λ{b} ⟨o,e⟩ z=>by have:=An e;rw[<- z]at this;exact AO _ this
 obtain⟨⟨oz,ez,_⟩,e1,e2⟩:=hz.zip;rcases hz with hz | ⟨p,f,hz,m1,m2,m3,m4⟩
 ·refine gb hA hz uK pO hx hy λh' z1 np k=>q h' (.inr ⟨s.heap.objs.size,false,⟨z1.zip,⟨_,np⟩,z1.ti,z1.to,z1.HD,z1.HC⟩,fr ⟨_,ez⟩,fr e1,fr e2,fr hd⟩) np k
 ·have ty:s.TypeIs (.ref z) "zip":=⟨_,hz.zip,rfl⟩;refine Aa (Cn (AI ty B3 (A6 B3 ty Dm ?_ (C6 _))));exact uP hA ⟨m1,m2,m3⟩ hz uK pO hx hy λh' a b c=>Ae (q h' (.inr ⟨p,true,a,m1,m2,m3,m4⟩) b c)
def PJ{b2:Bool}{TI TO:ci}(hh:A.handled=bd)(hA:wn z TI TO i1 i2 a1 a2)
  (hz:ZS b1 b2 s.heap z TI TO i1 i2 a1 a2 d i) (uK:cH b1 s.heap a1 xs) (pO:cH b2 s.heap a2 ys) (hx:xs[i]?=bd)
  (q:∀h':lw,(∀c o,c≠z->c≠TO->c≠i1->c≠i2->s.heap.get? c=some o->h'.get? c=some o)->Q bd {s with heap:=h'}) :
  cr (f8 prog w) A (Ev (.ref z)) Q E s:=by
 rcases hz with hz | ⟨p,f,hz,m1,m2,m3,m4⟩
 ·exact iw hh hA hz uK pO (.inl hx) q
 ·have ty:s.TypeIs (.ref z) "zip":=⟨_,hz.zip,rfl⟩;refine Aa (Cn (AI ty B3 (A6 B3 ty Dm ?_ (C6 _))));refine rH (A:=A.in1) hh hA hz uK hx λh' e k ex=>?_;obtain⟨o,eo,hc⟩:=ex;refine Aa (CK (T:="StopIteration") ⟨o,eo,hc⟩ isSubtype_stop ?_);exact Ae (q h' k)
end
section
variable{K:Type}[DecidableEq K]{knd:KeyKind prog w K}{R:Result->db->Prop}
theorem rL(hA:A.handled=bd){b2:Bool}{TI TO:ci}(hP:wn z TI TO i1 i2 a1 a2)(nd:TI≠d/\TO≠d/\z≠d/\i1≠d/\i2≠d)(nd1:a1≠d)(nd2:a2≠d)(hz:xs.size+xs.size<=sizeLine) :
  ∀(ks:O (K×bn)) (i:Nat) (acc:O (K×bn)) (s:db),i+ks.length=xs.size->acc.length<=i->ZS b1 b2 s.heap z TI TO i1 i2 a1 a2 d i->cH b1 s.heap a1 xs->cH b2 s.heap a2 ys->s.heap.DictOf knd d acc->
   (∀j x,ks[j]?=some x->∃kv,xs[i+j]?=some kv/\ys[i+j]?=some x.2/\knd.is x.1 kv=true)->
   (∀h' tk,h'.DictOf knd d (ks.foldl (λa y=>stored a y.1 y.2) acc)->(∀b o,b≠z->b≠TO->b≠i1->b≠i2->b≠d->s.heap.get? b=some o->h'.get? b=some o)->R (.ok (.ret .none)) {s with heap:=h',toks:=tk})->
   Db (f8 prog w) A (.builtin "dict.update.loop" ⟨[.ref d,.ref z,sB i,.none],[]⟩) R s:=by
 obtain⟨m1,m2,m3,m4,m5⟩:=id nd;intro ks
 induction ks with
 | nil=>
  intro i acc s hi Zu YX h1 h2 hd _ q;refine Ix bZ ?_;rw[Fc a7 _];show cr _ A.in1 (Ev (.ref z) >>= _) _ _ s;refine Aa (PJ (A:=A.in1) hA hP YX h1 h2 (by rw[Dh];simp at hi;omega) λh' k=>?_);show cr _ A.in1 (Builtin.Dict.addKeywords d [] >>= _) _ _ _;refine Aa (Ae (Ae (q h' s.toks ?_ λb o n1 n2 n3 n4 _ e=>k b o n1 n2 n3 n4 e)));obtain⟨o1,es,ep,g1,g2⟩:=hd;exact⟨o1,es,ep,k _ _ m3.symm m2.symm m4.symm m5.symm g1,g2⟩
 | cons y ks ih=>
  intro i acc s hi Zu YX h1 h2 hd hp q;rw[Au]at hi;obtain⟨kv,hx,hy,Zk⟩:=hp 0 y rfl;refine Ix bZ ?_;rw[Fc a7 _];show cr _ A.in1 (Ev (.ref z) >>= _) _ _ s;have hdo:∃o,s.heap.get? d=some o:=by obtain⟨o1,_,_,g1,_⟩:=hd;exact⟨o1,g1⟩
  have fr:s.heap.objs.size≠d:=λe=>by obtain⟨o,g⟩:=hdo;have:=An g;rw[<- e]at this;exact AO _ this
  refine Aa (Lr hP hdo YX h1 h2 hx hy λh' zs np k=>?_);have Zq:h'.DictOf knd d acc:=by
   obtain⟨o1,es,ep,g1,g2⟩:=hd;exact⟨o1,es,ep,k _ _ m3.symm m2.symm m4.symm m5.symm g1,g2⟩
  have dY:=h1.move λo e=>k _ _ hP.l1z hP.l1TO hP.l1i1 hP.l1i2 e;have qW:=h2.move λo e=>k _ _ hP.l2z hP.l2TO hP.l2i1 hP.l2i2 e;show cr _ A.in1 (sw [Aw s.heap.objs.size] _ >>= _) _ _ _;refine Aa (AX (Aa (wpAny_tryCatch ?_)));unfold Builtin.Dict.pairItems;refine Aa (BQ (T:="tuple") ⟨_,np,rfl⟩ ?_);rw[if_pos ⋯];refine Aa (Bi np rfl (Ae ?_));show cr _ A.in1 (sw [kv,y.2] (dictSet d kv y.2)) _ _ _;refine AX (wpAny_dictSet_pairs (knd:=knd) Zk Zq (λh3 Õ Yt=>?_) ∅);have O3:∀b o,b≠d->h'.get? b=some o->h3.get? b=some o:=λb o hb e=>(Yt.2 b hb).trans e;refine Ae ⟨FS a7 _,?_⟩;have ei:((i:Int)+1)=((i+1:Nat):Int):=by omega
  show Db _ A (.builtin "dict.update.loop" ⟨[.ref d,.ref z,sB ((i:Int)+1),.none],[]⟩) R _;rw[ei];refine ih (i+1) (stored acc y.1 y.2) _ ∅ (AQ (stored_length_le _ _ _) ∅) (zs.move nd O3) (dY.move λo e=>O3 _ _ nd1 e) (qW.move λo e=>O3 _ _ nd2 e) Õ (λj x hj=>?_) (λh4 tk dd k3=>?_)
  ·have:=hp (j+1) x hj;rw[show i+1+j=i+(j+1) by omega];exact this
  ·exact q h4 tk dd λb o n1 n2 n3 n4 n5 e=>k3 b o n1 n2 n3 n4 n5 (O3 _ _ n5 (k _ _ n1 n2 n3 n4 e))
theorem qu{b2:Bool}{TI TO:ci}{ks:O (K×bn)}{Q:bn->db->Prop}(hA:A.handled=bd)(hP:wn z TI TO i1 i2 a1 a2)(hz:fh b1 b2 s.heap z TI TO i1 i2 a1 a2 .none 0 0)(h1:cH b1 s.heap a1 xs)(h2:cH b2 s.heap a2 ys)
  (hsz:xs.size+xs.size<=sizeLine) (hk:ks.length=xs.size) (hp:∀(j:Nat) (x:K×bn),ks[j]?=some x->∃kv,xs[j]?=some kv/\ys[j]?=some x.2/\knd.is x.1 kv=true)
  (q:∀h' tk,(∀b o,b≠z->b≠TO->b≠i1->b≠i2->s.heap.get? b=some o->h'.get? b=some o)->h'.DictOf knd s.heap.objs.size (ks.foldl (λa y=>stored a y.1 y.2) [])->Q (.ref s.heap.objs.size) {s with heap:=h',toks:=tk}) :
  cr (f8 prog w) A (call (.type "dict") [.ref z]) Q E s:=by
 refine callType_codes (Q₁:=λobj s₁=>obj=.ref s.heap.objs.size/\s₁={s with heap:=s.heap.push {cls:=.type "dict",data:=.dict #[]}}) F.kt_called_dict (F.kt_typeCall_dict_1 _) F.entry_dict_init (kt_code_dict_new _ ⟨rfl,rfl⟩) ?_;rintro obj s₁ ⟨rfl,rfl⟩;have O4:∀b o,s.heap.get? b=some o->(s.heap.push {cls:=.type "dict",data:=.dict #[]}).get? b=some o:=λb o e=>Ai _ e;have v5:(s.heap.push {cls:=.type "dict",data:=.dict #[]}).DictOf knd s.heap.objs.size []:=Heap.DictOf.new s.heap;have ls:∀{b o},s.heap.get? b=some o->b≠s.heap.objs.size:=λ{b o} e z=>by subst z;exact AO _ (An e)
 refine⟨v5.typeIs,F.args_dict_init_2 _ _,?_⟩;unfold ut.«dict.__init__»;refine Aa ?_;unfold Builtin.Dict.selfAndRest;refine Aa (Dk v5.typeIs ?_);show cr _ _ (pure (s.heap.objs.size,[Aw z])) _ _ _;refine Ae ?_;show cr _ _ (Builtin.Dict.updateFrom "dict.__init__" s.heap.objs.size (.ref z) [] .none) _ _ _;unfold Builtin.Dict.updateFrom;refine Aa (BQ (T:="zip") ⟨_,O4 _ _ hz.zip,rfl⟩ ?_);rw[if_pos ⋯];refine Aa (lD (O4 _ _ hz.zip) uO (by decide +kernel) hA (λdY tk e nx=>?_) ⋯);rw[if_pos (by rfl)];have sW:∀b o,s.heap.get? b=some o->dY.get? b=some o:=λb o e=>nx.keeps _ _ (O4 _ _ e);refine Aa (CG (Aa ?_));refine Es (sW _ _ hz.zip) ?_;refine Ae ⟨FS a7 _,?_⟩;obtain⟨ta,tb,Nw⟩:=hz.to;obtain⟨o1,e1⟩:=hz.HD.some;obtain⟨o2,e2⟩:=hz.HC.some;have l1:a1≠s.heap.objs.size:=AA h1.lt;have l2:a2≠s.heap.objs.size:=AA h2.lt;refine rL (A:=A.in1) (knd:=knd) hA hP ⟨ls hz.ti,ls Nw,ls hz.zip,ls e1,ls e2⟩ l1 l2 hsz ks 0 [] _ ∅ (Ao _)
  (.inl ⟨sW _ _ hz.zip,sW _ _ hz.ti,⟨ta,tb,sW _ _ Nw⟩,hz.HD.move λo e=>sW _ _ e,hz.HC.move λo e=>sW _ _ e⟩) (h1.move λo e=>sW _ _ e) (h2.move λo e=>sW _ _ e) ?_ (λj x hj=>by rw[Az];exact hp j x hj) (λh' LJ dd k=>?_)
 ·obtain⟨o1,es,ep,g1,g2⟩:=v5;exact⟨o1,es,ep,nx.keeps _ _ g1,g2⟩
 ·exact⟨rfl,q h' LJ (λb o n1 n2 n3 n4 e=>k b o n1 n2 n3 n4 (ls e) (sW _ _ e)) dd⟩
end
def tDZ(K:Ab)(t1 t2:TE):TE:=λσ H Q=>t1 σ H λx H1=>t2 σ H1 λy H2=>∃(b1 b2:Bool) (a b:ci) (ks:O Key) (ws:O V),x=.ref a/\y=.ref b/\F6 b1 K H2 a (ks.map kV)/\F6 b2 K H2 b ws/\ks.length=ws.length/\ks.length<=1000/\jF H2 (.dK (cj [] (ks.zip ws))) Q
theorem qQ:∀(zs a:O (Key×V)),(cj a zs).length<=a.length+zs.length
 | [],a=>by simp[cj]
 | z::zs,a=>by
  have:=qQ zs (putK a z.1 z.2);have:=Iz (kvs:=a) (k:=z.1) (v:=z.2);have e:cj a (z::zs)=cj (putK a z.1 z.2) zs:=rfl;rw[e,Au];omega
theorem IM(K:Ab)(hK:X.K=K)(hc:X.calm=true){e2:im}{t2:TE}{pos:Pos}(Zl:Gl X "dict")(Zc:X.mg "dict"=bd)(hg:Gl X "zip")(hm:X.mg "zip"=bd)(h1:PE X e1 t1)(h2:PE X e2 t2)
  (hs:ga [.Call (.Name "zip" p1) [e1,e2] [] p2] X.env=(false,kt (.Call (.Name "zip" p1) [e1,e2] [] p2) X.env)::ga [] X.env:=by rfl)
  (qi:ga [e1,e2] X.env=(false,kt e1 X.env)::ga [e2] X.env:=by rfl) (lV:fX X e2 []:=by rfl) (cI:(wP p2 (ga [e2] X.env)).any (·.1)=false:=by rfl) :
  PE X (.Call (.Name "dict" p) [.Call (.Name "zip" p1) [e1,e2] [] p2] [] pos) (tDZ K t1 t2):=by
 subst hK;intro Z s σ H Q I h;refine Bq (eZ I Zl Zc boot_dict ?_ ⋯ ⋯);refine AW ?_ hs rfl;rw[hs];refine Bf ?_;refine Bq (eZ I hg hm boot_zip ?_ ⋯ ⋯);refine AW ?_ qi cI;rw[qi,lV];refine Bf (bh (h1 Z s σ H _ I h) λu1 s1 ⟨x,H1,I1,r1,q1⟩=>?_);refine Bf (bh (h2 Z s1 σ H1 _ I1 q1) λu2 s2 ⟨y,H2,I2,r2,b1,b2,a,b,ks,ws,ex,ey,hx,hy,hl,Lj,q⟩=>BF ?_);subst ex;subst ey;cases r1;cases r2;obtain⟨aj,rx,tx,_⟩:=I2.OG hx;obtain⟨bj,ry,ty,_⟩:=I2.OG hy;have l1:=tx.lt;have l2:=ty.lt;have c1:=rx.length;have c2:=ry.length;rw[Ag]at c1;refine rh tx ty λh' zt k=>BF ?_;have dd:∀i j:Nat,i≠j->s2.heap.objs.size+i≠s2.heap.objs.size+j:=λi j n e=>n (Nat.add_left_cancel e);have na:∀i:Nat,a≠s2.heap.objs.size+i:=λi=>AA (Ay l1 (A7 _ _));have nb:∀i:Nat,b≠s2.heap.objs.size+i:=λi=>AA (Ay l2 (A7 _ _));have hP:wn (s2.heap.objs.size+4) (s2.heap.objs.size+2) (s2.heap.objs.size+3) s2.heap.objs.size (s2.heap.objs.size+1) a b:=
  ⟨dd 2 4 ⋯,dd 3 4 ⋯,dd 0 4 ⋯,dd 1 4 ⋯,dd 2 3 ⋯,dd 2 0 ⋯,dd 2 1 ⋯,dd 3 0 ⋯,dd 3 1 ⋯,dd 0 1 ⋯,na 4,na 3,na 0,na 1,nb 4,nb 3,nb 0,nb 1⟩
 have Ù:∀(ks:O Key) (ws:O V) (aj bj:O bn),ks.length=ws.length->Vals (ks.map kV) aj->Vals ws bj->∃ys:O (Key×bn),KV (ks.zip ws) ys/\ys.length=aj.length/\∀(j:Nat) (x:Key×bn),ys[j]?=some x->∃kv,aj[j]?=some kv/\bj[j]?=some x.2/\(aU X.prog X.w).is x.1 kv=true:=by
  intro ks
  induction ks with
  | nil=>
   intro ws aj bj hl r1 r2;cases r1;exact⟨[],by rw[List.zip_nil_left];exact .nil,rfl,λj x h=>by simp at h⟩
  | cons k0 ks ih=>
   intro ws aj bj hl r1 r2;cases r2 with
   | nil=>cases hl
   | cons ru Yu=>
   cases r1 with
   | cons rk rks=>
   obtain⟨ys,e1,e2,e3⟩:=ih _ _ _ (by simpa using hl) rks Yu;refine⟨(k0,_)::ys,.cons ⟨rfl,ru⟩ e1,by simp[e2],λj x hj=>?_⟩;cases j with
   | zero=>cases hj;exact⟨_,rfl,rfl,oT rk⟩
   | succ j=>exact e3 j x hj
 obtain⟨ys,e1,e2,e3⟩:=Ù ks ws aj bj hl rx ry;have Y4:(1000:Nat)+1000<=sizeLine:=by decide
 refine qu (knd:=aU X.prog X.w) (ks:=ys) (I2.ok.hd hc) hP zt (tx.move λo e=>k _ _ e) (ty.move λo e=>k _ _ e) (by rw[Af];omega) (by rw[Af];omega) (λj x hj=>?_) (λh2 tk kp dd=>?_)
 ·obtain⟨kv,g1,g2,g3⟩:=e3 j x hj;exact⟨kv,by rw[Cz];exact g1,by rw[Cz];exact g2,g3⟩
 ·have Ö:s2.heap.objs.size<=h'.objs.size:=Dc (D8 (A7 _ 4) (An zt.zip));have lt:∀{b o},s2.heap.get? b=some o->∀i:Nat,b≠s2.heap.objs.size+i:=λ{b o} e i=>AA (Ay (An e) (A7 _ _));have I3:=I2.kept (t':=s2.toks) k;have RL:(h'.objs.size==sn)=false:=beq_eq_false_iff_ne.mpr (BD (AA I3.big));refine⟨.ref h'.objs.size,_,I2.laid (t':=tk) (λb o e=>kp b o (lt e 4) (lt e 3) (lt e 0) (lt e 1) (k _ _ e)) Ö (show aR X.prog X.w (upd H2 h'.objs.size (.dK (cj [] (ks.zip ws)))) h2 _ (.dK _) from⟨?_,RL,_,KV.merge e1 .nil,dd⟩),rfl,q.at _ (I2.aY.fresh Ö)⟩;have:=qQ (ks.zip ws) [];rw[List.length_zip]at this;simp only[DN]at this;omega
end L2
variable{m:O PL.PV}
namespace FL
section
variable[cG]
variable{K:Ab}
section
variable{a b c:im}{pos:Pos}{wm:W (O PV)}
def yx(l m:O PV):W PV:=⟨λQ=>∃ks:O Key,l=ks.map kP/\ks.Nodup/\l.length=m.length/\l.length<=1000/\Q (N2 (ks.zip m)),λf q=>q.imp λks h=>⟨h.1,h.2.1,h.2.2.1,h.2.2.2.1,f _ h.2.2.2.2⟩⟩
theorem N4(hK:X.K=K)(hc:X.calm=true)(Zl:Gl X "dict")(Zc:X.mg "dict"=bd)(hg:Gl X "zip")(hm:X.mg "zip"=bd)(ha:IF X K fs a wl)(hb:IF X K fs b wm)
  (hs:ga [.Call (.Name "zip" p1) [a,b] [] p2] X.env=(false,kt (.Call (.Name "zip" p1) [a,b] [] p2) X.env)::ga [] X.env:=by rfl)
  (qi:ga [a,b] X.env=(false,kt a X.env)::ga [b] X.env:=by rfl) (lV:fX X b []:=by rfl) (cI:(wP p2 (ga [b] X.env)).any (·.1)=false:=by rfl) :
  Z7 X K fs (.Call (.Name "dict" p) [.Call (.Name "zip" p1) [a,b] [] p2] [] pos) (.bind wl λl=>.bind wm λm=>yx l m):=
 ⟨PE.imp (IM K hK hc Zl Zc hg hm ha.p hb.p hs qi lV cI) λσ H Q ⟨sr,q⟩=>⟨sr,wl.mono (λl q1 u1 H1 g1 s1 v1=>⟨s1,wm.mono (λm q2 u2 H2 g2 s2 v2=>by
  obtain⟨b1,a1,vs,rfl,r1,x1⟩:=zh (v1.tk (g2.cR s1));obtain⟨b2,a2,ws,rfl,r2,x2⟩:=zh v2;obtain⟨ks,rfl,nd,hl,Ph,q3⟩:=q2;have:=vV r1;subst this;have hw:=r2.length;rw[Ag]at hl Ph;have tr:aW K H2 H2:=aW.refl H2;have hkw:ks.length=ws.length:=by omega
  have em:cj [] (ks.zip ws)=ks.zip ws:=ml _ [] (by rw[DM,Ex ∅];exact nd);refine⟨b1,b2,a1,a2,ks,ws,rfl,rfl,x1 H2 tr,x2 H2 tr,hkw,Ph,λp H3 s3 h3 n3=>?_⟩;rw[em]at h3;refine q3 _ _ H3 ((g1.trans g2).trans (cp.same s3)) (s2.same s3) ((g1.trans g2).there _ n3) h3 (.inl ⟨_,_,rfl,rfl,?_,?_⟩)
  ·rw[Ex ∅,Ex ∅]
  ·rw[List.map_snd_zip ∅,List.map_snd_zip ∅];exact az.tk s3.cU r2) q1⟩) q⟩⟩
def Hd{ks:O Key}{Q:PV->Prop}(nd:ks.Nodup)(hl:ks.length=m.length)(h:ks.length<=1000)(q:Q (N2 (ks.zip m))):(yx (ks.map kP) m).run Q:=⟨ks,rfl,nd,by rw[Ag];exact hl,by rw[Ag];exact h,q⟩
def YU(x:PV):Prop:=∃kvs,x=N2 kvs/\kvs≠[]
def ZV(d y z:PV):W PV:=⟨λQ=>∃r,rG d y r/\Q (r.getD z),λf ⟨v,a,q⟩=>⟨v,a,f _ q⟩⟩
def Sk(wa wb wc:W PV):W PV:=.bind wa λx=>.eB (YU x) (.bind wb λy=>.bind wc λz=>ZV x y z)
theorem NX(hu:X.A.units+200 < pr)(ha:EF X K fs a wa)(hb:EF X K fs b wb)(hc:EF X K fs c wc)
  (m1:r6 a "get" X.env (kt a X.env)=kt a X.env:=by rfl)
  (m2:((wP pos (ga [b,c] X.env)).all (λx=>!x.1)&&(backToKw pos (keywordEach [] X.env)).all (λx=>x.1.isSome)&&decide (([b,c]:O im).length+([]:O Keyword).length+(if ([]:O Keyword).isEmpty then 0 else 1) < 30))=true:=by rfl)
  (m3:Lq Ã pos:=by rfl) (m4:wP pos (ga [b,c] X.env)=[(false,kt b X.env),(false,kt c X.env)]:=by rfl) :
  EF X K fs (.Call (.Attribute a "get" Ã) [b,c] [] pos) (Sk wa wb wc):=
 ⟨PE.imp (IP ∅ ha.p hb.p hc.p ⟨m1,m2,m3,m4⟩) λσ H Q ⟨sr,q⟩=>⟨sr,wa.mono (λx q1 u1 H1 g1 s1 v1=>by
  obtain⟨⟨kvs,rfl,h0⟩,q1⟩:=q1;obtain⟨ad,o,vs,rfl,e,dr⟩:=HS h0 v1;refine⟨ad,rfl,.inl ⟨vs,.inr ⟨o,e⟩⟩,s1,wb.mono (λy q2 u2 H2 g2 s2 v2=>⟨s2,wc.mono (λz q3 u3 H3 g3 s3 v3=>?_) q2⟩) q1⟩;obtain⟨r,g,q3⟩:=q3;have PY:=(g2.trans g3).vr s1 v1;have TU:=g3.vr s2 v2;obtain⟨ad',o',ea,_,dg,hn,hs⟩:=g.ok PY TU;cases ea;refine⟨o',dg,?_⟩;cases r with
  | none=>rw[hn rfl];exact q3 _ H3 ((g1.trans g2).trans g3) s3 v3
  | some v=>obtain⟨w',rfl,vw⟩:=hs v rfl;exact q3 _ H3 ((g1.trans g2).trans g3) s3 vw) q⟩⟩
end
end
end FL
namespace My
def kg(fZ:PV):W (O PV):=
 []\λkE=>
 am (fZ\λx3=>ap [x3]) λlX=>
 am (nZ (λs4=>(s4.2\λl5=>ap (!l5.isEmpty))) (λs4=>(
 am (vm s4.2) λt7=>
 t7.2\λx9=>am (mM s4.1 x9) λkD=>
 g9 (uY (am (am (ap t7.2) (dQ .str)) dq)) (
 am (am (ap t7.2) aB) λl11=>am (R0 t7.1 l11) λn6=>
 ap (kD,n6)) (
 ap (kD,t7.1)))) (kE,lX)) λs4=>
 (s4.1\λYQ=>ap YQ.reverse)
def jn(fZ:PV):W PV:=
 []\λgH=>
 []\λsN=>
 am (fZ\λx3=>kg x3) λl30=>am (dZ l30 (gH,sN) λsu s4=>(
 am (am (am (ap su) (dQ .str)) dq) λb=>am (if b=true then (
 su\λLy=>am (mM s4.1 Ly) λza=>
 ap (za,s4.2)) else (
 am (vm s4.2) λYh=>
 am (vm Yh.1) λYg=>
 am (Yg.2\λTK=>Yh.2\λLw=>ap (.tup [TK,Lw])) λHJ=>am (mM s4.1 HJ) λy9=>
 ap (y9,Yg.1))) λQl=>
 am (b2 ox (am (ap Ql.1) qc) (ap (.int 1))) λX2=>am (mM Ql.2 X2) λvJ=>
 ap (Ql.1,vJ))) λs4=>
 (am (ap s4.1) ma)
def cX(Jg:PV):W PV:=
 (g9 (am (am (ap Jg) (dQ .str)) dq) (ap (.tup [])) (ap Jg))
def eX(fZ:PV):W PV:=
 am (fZ\λx2=>jn x2) λgH=>
 am (am (am (ap gH) aB) λl4=>cv l4 λp5=>(ap .aK)) λuu=>
 am (am (am (ap gH) aB) λl6=>.eB (l6.length<=sizeLine) (.ret (cz 0 l6))) λVf=>am (dZ Vf uu λp8 s7=>am (HU p8) λt9=>(
 am (am (t9.2\λuS=>cX uS) aB) λVg=>am (dZ Vg s7 λzT kK=>(
 t9.1\λxb=>zT\λuR=>am (jB kK uR xb) λwV=>
 ap wV)) λkK=>
 ap kK)) λs7=>
 (am (ap s7) ma)
def dw(dF:PV)(iV:PV):W PV:=
 (g9 (am (am (cE (am (ap dF) aB) (ap iV)) (dQ .str)) dq) (cE (am (ap dF) aB) (ap iV)) (ap iV))
def gT(cB:PV):W (O PV):=
 am (cB\λx2=>eX x2) λcK=>
 am (am (am (ap cK) aB) λl4=>cv l4 λp5=>(ap (.tup []))) λjo=>
 am (am (b2 ox (c1 il (ap cK)) (ap (.int 1))) λx6=>am (am (ap (.int 1)) MV) λx7=>am (am (ap (.int 1)) MV) λx8=>Im x6 x7 x8) λVg=>am (dZ Vg jo λiU s9=>(
 am (g9 (t2 GB (cE (am (ap cK) aB) (ap iU)) (ap .aK)) (ap (.tup [])) (cE (ap s9) (cE (am (ap cK) aB) (ap iU)))) λwW=>
 am (w2 addW (iU\λxc=>ap (.tup [xc])) (ap wW)) λxb=>iU\λuR=>am (jB s9 uR xb) λvL=>
 ap vL)) λs9=>
 ap s9
def eJ(sQ:PV)(iV:PV):W PV:=
 (am (am (am (c1 il (ap sQ)) mR) λl2=>gA l2 λp3=>sV (HZ (JI true (ap p3) (am (cE (am (ap sQ) aB) (ap iV)) aB)) (JI true (ap iV) (am (cE (am (ap sQ) aB) (ap p3)) aB))) (ap p3)) ma)
def k7(cB:PV):W PV:=
 am (cB\λx2=>jn x2) λdU=>
 am (cB\λx4=>gT x4) λjo=>
 (am (am (am (c1 il (ap dU)) mR) λl6=>cv l6 λp7=>(am (dU\λx8=>p7\λx9=>dw x8 x9) λuS=>(.int 0)\λHL=>am (am (cE (am (ap dU) aB) (ap p7)) λLz=>cX Lz) λxc=>am ((.cl jo)\λxb=>p7\λuR=>eJ xb uR) λTQ=>ap (.tup [uS,HL,xc,TQ]))) ma)
def gV(eF:PV)(k_:PV):W (O PV):=
 (.int 0)\λKG=>
 am (t2 oLt (ap k_) (c1 il (ap eF))) λb=>am (if b=true then (
 am (c1 KW (cE (am (ap eF) aB) (ap k_))) λKD=>
 ap KD) else (
 ap KG)) λs3=>
 am (b2 mj (b2 oMod (ap s3) (b2 mj (b2 vB (ap (.int 10)) (ap (.int 60))) (b2 vB (ap (.int 10)) (ap (.int 60))))) (c1 um (b2 W9 (ap s3) (b2 vB (ap (.int 10)) (ap (.int 18)))))) λlN=>
 (lN\λx6=>am (b2 oMod (w2 addW (w2 addW (ap s3) (b2 mj (ap (.int 104729)) (ap k_))) (ap (.int 7))) (ap (.int 2305843009213693951))) λx7=>(.int 0)\λx8=>ap [x6,x7,x8])
def dP(cu:O PV)(jR:PV):W (PV×O PV):=
 g9 (t2 Q1 (cE (ap cu) (ap (.int 0))) (ap (.int 0))) (
 am (b2 oMod (cE (ap cu) (ap (.int 0))) (ap jR)) λFW=>
 am (b2 oDiv (cE (ap cu) (ap (.int 0))) (ap jR)) λx3=>(.int 0)\λx4=>am (jB cu x4 x3) λj8=>
 FW\λx5=>ap (x5,j8)) (
 (.int 2)\λx6=>am (Rx cu x6) λx7=>(.int 1)\λx8=>am (of2 O8 x7 x8) λuS=>am (jB cu x6 uS) λeV=>
 am (b2 oMod (w2 addW (w2 addW (b2 mj (cE (ap eV) (ap (.int 1))) (ap (.int 69069))) (b2 mj (ap (.int 9973)) (cE (ap eV) (ap (.int 2))))) (ap (.int 5))) (ap (.int 2305843009213693921))) λoD=>
 am (b2 oMod (b2 mj (ap oD) (w2 addW (w2 addW (b2 oMod (ap oD) (ap (.int 999983))) (b2 mj (ap (.int 2)) (cE (ap eV) (ap (.int 2))))) (ap (.int 3)))) (ap (.int 2305843009213693907))) λxc=>(.int 1)\λxb=>am (jB eV xb xc) λfB=>
 am (b2 oMod (b2 oDiv (cE (ap fB) (ap (.int 1))) (ap (.int 65537))) (ap jR)) λuR=>ap (uR,fB))
def eK(jR:PV):W (O PV):=
 (.str "abcdefghijklmnopqrstuvwxyz")\λmw=>
 am ((.int 26)\λx3=>bL x3) λnP=>
 am (cE ((.int 1)\λx5=>(.int 3)\λx6=>(.int 5)\λx7=>(.int 7)\λx8=>(.int 9)\λx9=>(.int 11)\λuS=>ap [x5,x6,x7,x8,x9,uS]) ((.int 6)\λHL=>bL HL)) λxj=>
 am (cE ((.str "")\λxc=>(.str "k")\λxb=>ap [xc,xb]) ((.int 2)\λuR=>bL uR)) λrR=>
 am ((.str "")\λPU=>(.str "q")\λLy=>(.str "zz")\λLx=>(.str "abcdef")\λF8=>ap [PU,Ly,Lx,F8]) λtS=>
 []\λpe=>
 am (am (ap jR) mR) λl29=>am (dZ l29 pe λRr Qk=>(
 am (b2 Je (ap mw) (b2 oMod (w2 addW (ap nP) (b2 mj (ap xj) (ap Rr))) (ap (.int 26)))) λqR=>
 am (w2 addW (w2 addW (ap rR) (ap qR)) (cE (am (ap (.cl tS)) aB) (b2 oMod (w2 addW (ap nP) (ap Rr)) (ap (.int 4))))) λx27=>am (mM Qk x27) λwx=>
 ap wx)) λQk=>
 ap Qk
def a6:Nat->PV->PV->W PV
 | 0,_,_=>W.fail
 | n+1,eg,nB=>
 g9 (am (am (ap nB) (dQ .tup)) dq) (
 g9 (SR (uY (am (am (ap eg) (dQ .tup)) dq)) (t2 kc (c1 il (ap eg)) (c1 il (ap nB)))) (
 (ap (.bl false))) (
 (am (am (am (am (ap eg) aB) λl1=>am (am (ap nB) aB) λl2=>Ls l1 l2) λl3=>cv l3 λp4=>am (HU p4) λt5=>(t5.1\λx6=>t5.2\λx7=>a6 n x6 x7)) Hw))) (
 g9 (SR (am (am (ap nB) (dQ .str)) dq) (t2 GB (ap nB) (ap .aK))) (
 (SA (b2 kW (am (ap eg) (dQ .str)) (am (ap nB) (dQ .str))) (b2 kW (ap eg) (ap nB)))) (
 (SA (am (ap eg) (dQ .int)) (SA (am (am (ap eg) (dQ .bool)) Q3) (b2 kW (ap eg) (ap nB))))))
def dC(dF:PV)(cC:PV):W (O PV):=
 (am (am (am (ap dF) aB) λl1=>am (am (ap cC) aB) λl2=>Ls l1 l2) λl3=>gA l3 λp4=>am (HU p4) λt5=>sV (uY (am (am (ap t5.1) (dQ .str)) dq)) (ap t5.2))
def fF(Ib:PV):W PV:=
 (cE (am (ap Ib) aB) (am (c1 il (ap Ib)) λx1=>bL x1))
def fD(aX:PV):W PV:=
 am (am (ap aX) aB) λxl=>
 am ((.int 4)\λx3=>bL x3) λuT=>
 am (nZ (λs4=>(t2 Q1 (am (ap s4) qc) (ap (.int 1)))) (λs4=>(
 am (cE (am (am (b2 ox (am (ap s4) qc) (ap (.int 1))) λx6=>bL x6) λx7=>am (b2 ox (am (ap s4) qc) (ap (.int 2))) λx8=>(.int 0)\λx9=>(.int 0)\λuS=>ap [x7,x8,x9,uS]) (ap uT)) λwR=>
 am (am (cE (ap s4) (ap wR)) λLz=>am (cE (ap s4) (w2 addW (ap wR) (ap (.int 1)))) λxc=>ap (.tup [Lz,xc])) λzx=>
 am (HZ (t2 kW (ap uT) (ap (.int 3))) (t2 kW ((.int 2)\λxb=>bL xb) (ap (.int 0)))) λb=>am (if b=true then (
 am (am (cE (ap s4) (w2 addW (ap wR) (ap (.int 1)))) λF8=>am (cE (ap s4) (ap wR)) λTN=>ap (.tup [F8,TN])) λzw=>
 ap zw) else (
 ap zx)) λWZ=>
 am (WZ\λHK=>ap [HK]) λl24=>wR\λLw=>am (w2 addW (ap wR) (ap (.int 2))) λHJ=>am (Qf s4 Lw HJ l24) λzj=>
 ap zj)) xl) λs4=>
 (cE (ap s4) (ap (.int 0)))
def eL:W PV:=
 (am (NI (am (w2 addW (ap (.int 1)) (am (cE ((.int 5)\λx1=>(.int 8)\λx2=>ap [x1,x2]) (c1 um (b2 kW ((.int 8)\λx3=>bL x3) (ap (.int 0))))) λx4=>bL x4)) λx5=>eK x5)) λx6=>fD x6)
def aO:Nat->PV->W (O PV)
 | 0,_=>W.fail
 | n+1,aJ=>
 g9 (am (am (ap aJ) (dQ .str)) dq) (
 (aJ\λx1=>ap [x1])) (
 am (am (cE (am (ap aJ) aB) (ap (.int 0))) λx3=>aO n x3) λrY=>
 am (am (ap rY) qc) λoH=>
 am (am (cE (am (ap aJ) aB) (ap (.int 1))) λx5=>aO n x5) λYM=>am (dZ YM rY λvf s6=>(
 am (g9 (am (am (ap vf) (dQ .str)) dq) (ap vf) (am (w2 addW (cE (am (ap vf) aB) (ap (.int 0))) (ap oH)) λx9=>am (w2 addW (cE (am (ap vf) aB) (ap (.int 1))) (ap oH)) λuS=>ap (.tup [x9,uS]))) λHL=>am (mM s6 HL) λIj=>
 ap Ij)) λs6=>
 (s6\λYO=>am (am (am (b2 ox (ap oH) (ap (.int 1))) λLz=>am (b2 ox (am (ap s6) qc) (ap (.int 1))) λxc=>ap (.tup [Lz,xc])) λxb=>ap [xb]) λYN=>KI YO YN))
def eM(qJ:PV):W PV:=
 am (am ((.int 0)\λx2=>ap [x2]) λl3=>am (c1 il (ap qJ)) λx4=>L3 l3 x4) λhV=>
 am (am (am (am (ap qJ) aB) λl6=>.eB (l6.length<=sizeLine) (.ret (cz 0 l6))) λl7=>gA l7 λp8=>am (HU p8) λt9=>sV (uY (am (am (ap t9.2) (dQ .str)) dq)) (ap t9.1)) λxQ=>
 (.int 0)\λub=>
 am (nZ (λkK=>(kK.2.1\λYQ=>ap (!YQ.isEmpty))) (λkK=>(
 am (am (am (am (ap (.cl kK.2.1)) aB) λSX=>gA SX λOP=>sV (HZ (JI true (cE (am (cE (am (ap qJ) aB) (ap OP)) aB) (ap (.int 0))) (am (ap (.cl kK.2.1)) aB)) (JI true (cE (am (cE (am (ap qJ) aB) (ap OP)) aB) (ap (.int 1))) (am (ap (.cl kK.2.1)) aB))) (ap OP)) HX) λvh=>
 am ((.cl vh)\λPU=>fF PU) λo5=>
 am (w2 addW (w2 addW (ap kK.2.2) (ap (.int 1))) (am (cE ((.int 1)\λLx=>(.int 3)\λF8=>(.int 13)\λTN=>ap [Lx,F8,TN]) ((.int 3)\λTL=>bL TL)) λHK=>bL HK)) λt6=>
 t6\λLw=>o5\λHJ=>am (jB kK.1 HJ Lw) λjV=>
 o5\λX2=>am (Qp kK.2.1 X2) λzE=>
 ap (jV,zE,t6))) (hV,xQ,ub)) λkK=>
 (am (ap kK.1) ma)
def gR(cB:PV)(cC:PV)(ik:PV):W (O PV):=
 am (cB\λx2=>eX x2) λcK=>
 []\λsC=>
 am (am (am (ap ik) aB) λl4=>.eB (l4.length<=sizeLine) (.ret (cz 0 l4))) λVf=>am (dZ Vf sC λp6 s5=>am (HU p6) λt7=>(
 am (am (am (ap cC) aB) λl8=>.eB (l8.length<=sizeLine) (.ret (cz 0 l8))) λVg=>am (dZ Vg s5 λp10 s9=>am (HU p10) λUl=>(
 g9 (HZ (t2 oLe (ap Ul.2) (ap t7.2)) (SR (t2 GB (cE (am (ap cK) aB) (ap Ul.1)) (ap .aK)) (t2 oLt (ap t7.2) (cE (am (ap cC) aB) (cE (am (ap cK) aB) (ap Ul.1)))))) (
 am (Ul.1\λxc=>t7.1\λxb=>ap (.tup [xc,xb])) λuR=>am (mM s9 uR) λvt=>
 ap vt) (
 ap s9))) λs9=>
 ap s9)) λs5=>
 ap s5
def jm(dF:PV)(cC:PV)(ik:PV)(kX:PV)(IU:PV):W PV:=
 am (cE (am (ap IU) aB) (ap (.int 0))) λjv=>
 am (cE (am (ap IU) aB) (ap (.int 1))) λlq=>
 am (b2 oLt (cE (am (ap cC) aB) (ap jv)) (cE (am (ap ik) aB) (ap lq))) λqX=>
 am (g9 (am (ap qX) dq) (jv\λx5=>ap (.tup [x5])) (am (cE (am (ap dF) aB) (ap jv)) λx6=>cX x6)) λbelow_4=>
 am (am (am (am (ap below_4) aB) λl8=>cv l8 λp9=>(Sj (ap kX) (p9\λuS=>am (b2 ox (ap lq) (ap (.int 1))) λHL=>ap (.tup [uS,HL])))) ma) λy8=>
 am (am (am (am (ap kX) Jv) λl13=>gA l13 λUW=>sV (HZ (t2 kW (cE (am (ap UW) aB) (ap (.int 1))) (ap lq)) (t2 kc (cE (am (ap UW) aB) (ap (.int 0))) (ap jv))) (Sj (ap kX) (ap UW))) ma) λrC=>
 (am (dF\λuR=>jv\λTQ=>dw uR TQ) λPU=>lq\λLy=>y8\λLx=>rC\λF8=>ap (.tup [PU,Ly,Lx,F8]))
def gU(cB:PV)(cC:PV):W PV:=
 am (cB\λx2=>jn x2) λdU=>
 am (am ((.int 0)\λx4=>ap [x4]) λl7=>am (am (dU\λx5=>cC\λx6=>dC x5 x6) j7) λl8=>KI l7 l8) λpI=>
 am (cB\λuS=>cC\λHL=>(.cl pI)\λLz=>gR uS HL Lz) λsA=>
 am (am (am (am (am (ap (.cl sA)) aB) λSX=>.eB (SX.length<=sizeLine) (.ret (cz 0 SX))) λYO=>cv YO λp16=>am (HU p16) λYi=>(Yi.2\λLy=>Yi.1\λLx=>ap (.tup [Ly,Lx]))) yz) λoy=>
 (am (am (am (ap (.cl sA)) aB) λl20=>cv l20 λp21=>(dU\λTL=>cC\λHK=>(.cl pI)\λTK=>oy\λLw=>p21\λHJ=>jm TL HK TK Lw HJ)) ma)
def dD(bJ:PV)(d7:PV):W (O PV):=
 am (bJ\λx2=>aO 12 x2) λIk=>
 (am (am (ap d7) aB) λl3=>cv l3 λp4=>(g9 (am (am (cE (am (ap p4) aB) (ap (.int 0))) (dQ .str)) dq) (am (am (ap (.cl Ik)) Rf) λl5=>am (cE (am (ap p4) aB) (ap (.int 0))) λx6=>Nv l5 x6) (cE (am (ap p4) aB) (ap (.int 0)))))
def bM(fJ:PV):W PV:=
 am (am (am (am (ap fJ) aB) λl2=>gA l2 λp3=>sV (t2 Q1 (ap p3) (ap (.int 0))) (ap p3)) j7) λsE=>
 (.int 0)\λyC=>
 am (am (ap (.cl sE)) aB) λVf=>am (dZ Vf (yC,(Sg [(0,0)])) λOS s6=>(
 am (w2 addW (w2 addW (ap s6.1) (ap (.int 1))) ((.int 14)\λx9=>bL x9)) λyB=>
 yB\λHL=>OS\λLz=>am (QB s6.2 Lz HL) λqO=>
 ap (yB,qO))) λs6=>
 (am (am (am (ap fJ) aB) λSX=>cv SX λOP=>(OP\λTQ=>am (vQ TQ) λk17=>W.Lf (d9 s6.2 k17))) ma)
def aD:Nat->PV->PV->W PV
 | 0,_,_=>W.fail
 | n+1,aJ,aX=>
 g9 (am (am (ap aJ) (dQ .str)) dq) (
 (Sj (ap aX) (ap aJ))) (
 (am (am (cE (am (ap aJ) aB) (ap (.int 0))) λx1=>aX\λx2=>aD n x1 x2) λx3=>am (am (cE (am (ap aJ) aB) (ap (.int 1))) λx4=>aX\λx5=>aD n x4 x5) λx6=>ap (.tup [x3,x6])))
def bH(bJ:PV)(d7:PV):W PV:=
 am (bJ\λx2=>k7 x2) λyN=>
 am (bJ\λx4=>d7\λx5=>dD x4 x5) λdE=>
 am (am (am (bJ\λx7=>aO 12 x7) λl8=>gA l8 λp9=>sV (am (am (ap p9) (dQ .str)) dq) (ap p9)) qc) λsL=>
 am (am (am (ap d7) aB) λl10=>.eB (l10.length<=sizeLine) (.ret (cz 0 l10))) λl32=>am (jK l32 () λp12 kK=>am (LG p12) λLd=>(
 am (am (am (c1 il (ap d7)) mR) λYN=>gA YN λW5=>sV (t2 kW (cE (am (cE (am (ap d7) aB) (ap W5)) aB) (ap (.int 1))) (ap Ld.2.2.1)) (ap W5)) λtG=>
 g9 (SR (t2 kc (c1 il (ap (.cl tG))) (b2 ox (ap sL) (ap Ld.2.2.1))) (t2 kc (NI (am (ap Ld.2.2.2.2) aB)) (NI (am (am (ap (.cl tG)) aB) λYM=>gA YM λQQ=>sV (t2 kc (ap QQ) (ap Ld.1)) (ap QQ))))) (
 (.bl false)\λF8=>ap (Lp.out F8)) (
 g9 (uY (am (am (am (am (ap Ld.2.2.2.2) aB) λl21=>cv l21 λW4=>(Vn false (cE (am (ap (.cl dE)) aB) (ap W4)) (am (cE (am (cE (am (ap yN) aB) (cE (am (ap (.cl dE)) aB) (ap Ld.1))) aB) (ap (.int 3))) aB))) Hw) dq)) (
 (.bl false)\λHK=>ap (Lp.out HK)) (
 am (am (am (c1 il (ap d7)) mR) λl26=>gA l26 λQP=>sV (JI false (ap Ld.1) (am (cE (am (cE (am (ap d7) aB) (ap QP)) aB) (ap (.int 2))) aB)) (ap QP)) λpJ=>
 g9 (SR (t2 kc (c1 il (ap (.cl pJ))) (c1 um (b2 oLt (ap Ld.2.2.1) (b2 ox (ap sL) (ap (.int 1)))))) (am (am (am (am (ap (.cl pJ)) aB) λYL=>cv YL λMr=>(b2 kc (cE (am (cE (am (ap d7) aB) (ap Mr)) aB) (ap (.int 1))) (w2 addW (ap Ld.2.2.1) (ap (.int 1))))) K0) dq)) (
 (.bl false)\λX1=>ap (Lp.out X1)) (
 ap (.go ())))))) (JY (λkK=>
 (ap (.bl true))) id)
def oI(eF:PV):W PV:=
 am (am ((.int 1)\λx3=>am (am (c1 il (ap eF)) λx1=>(.int 8)\λx2=>pX KS [x1,x2]) λx4=>pX KU [x3,x4]) mR) λl53=>am (jK l53 () λk_7 s6=>(
 am (eF\λx9=>k_7\λuS=>gV x9 uS) λou=>UO jD ou (
 am (eL) λbS=>
 am (bS\λxc=>aO 12 xc) λrZ=>
 am ((.cl rZ)\λuR=>eM uR) λdJ=>
 am (bS\λPU=>dJ\λLy=>gU PU Ly) λkQ=>
 g9 (SR (uY (am (am (bS\λTN=>am (dJ\λTL=>bM TL) λHK=>gU TN HK) λTK=>kQ\λLw=>a6 4 TK Lw) dq)) (uY (am (bS\λLx=>kQ\λF8=>bH Lx F8) dq))) (
 (.bl false)\λHJ=>ap (Lp.out HJ)) (
 am (am (am (ap (.cl rZ)) aB) λYL=>gA YL λMr=>sV (am (am (ap Mr) (dQ .str)) dq) (ap Mr)) λoe=>
 am (am (am (ap (.cl oe)) aB) λl36=>am (am (am (ap (.cl oe)) aB) λl31=>cv l31 λp32=>(w2 addW (ap (.str "w")) (p32\λx35=>bd\λi33=>am (am (ap (.int 7)) part) λj34=>Uq x35 i33 j34))) λl37=>yx l36 l37) λfM=>
 am (am (am (am (ap kQ) aB) λl39=>cv l39 λW3=>(w2 addW (am (Sk (ap fM) (cE (am (ap W3) aB) (ap (.int 0))) (cE (am (ap W3) aB) (ap (.int 0)))) λx41=>ap (.tup [x41])) (W3\λx44=>am (am (ap (.int 1)) part) λi42=>bd\λj43=>Qi x44 i42 j43))) ma) λKs=>
 g9 (uY (am (am (am (bS\λx45=>fM\λx46=>aD 12 x45 x46) λx47=>dJ\λx48=>gU x47 x48) λx49=>Ks\λx50=>a6 4 x49 x50) dq)) (
 (.bl false)\λX0=>ap (Lp.out X0)) (
 ap (.go ())))))) (JY (λs6=>
 (ap (.bl true))) id)
end My
variable{x:PL.PV}{Q:O PL.PV->Prop}{t:My.Tr}
namespace My
def Tr.pv:Tr->PV
 | .leaf x=>.str x
 | .node l r=>.tup [l.pv,r.pv]
def Ent.pv:Ent->PV
 | .word x=>.str x
 | .pair a b=>.tup [.int (a:Int),.int (b:Int)]
def LW{l:List α}(h:l≠[]):∃a x,l=a++[x]:=⟨l.dropLast,l.getLast h,(List.dropLast_concat_getLast h).symm⟩
def Ig{a b:O Tr}(h:gc a++b=t.post):dh a+b.length=t.size:=by
 have h1:=congrArg BS h;rw[Ah,t.iP]at h1;have h2:∀l:O Tr,(gc l).length=dh l:=by
  intro l
  induction l with
  | nil=>rfl
  | cons x l ih=>
   have e1:gc (x::l)=x.post++gc l:=rfl;have e2:dh (x::l)=x.size+dh l:=rfl;rw[e1,e2,Ah,ih,x.iP]
 rw[h2]at h1;exact h1
theorem jc(h:l.length < 1000):mM l x=.ret (l++[x]):=tz (by have:=br (n:=1000) (Ao _);omega)
theorem IT(t:Tr)(hz:t.size<=900):(kg t.pv).le (.ret (t.post.map Tr.pv)):=λQ q=>by
 refine jY (λn s=>∃ts bs:O Tr,n=dh ts/\s=(bs.map Tr.pv,ts.map Tr.pv)/\gc ts++bs.reverse=t.post) ⟨[t],[],rfl,rfl,by rw[mf];simp⟩ ?_;rintro n s ⟨ts,bs,rfl,rfl,hp⟩;have hs:=Ig hp;rw[CP]at hs;by_cases he:ts=[]
 ·subst he;have hp':bs.reverse=t.post:=hp;simp;rw[<- List.map_reverse,hp'];exact q
 ·obtain⟨us,u,rfl⟩:=LW he;have Lj:=qS us;rw[eE,md]at hs;simp;rw[jc (by rw[Ag];omega)];cases u with
  | leaf x=>
   simp[Tr.pv];refine⟨_,?_,us,rfl,bs++[.leaf x],⟨by simp[Tr.pv],rfl⟩,?_⟩
   ·rw[eE,md];show dh us < dh us+1;omega
   ·rw[gL,mf]at hp;rw[DR,<- hp];simp[Tr.post]
  | node c d=>
   have e1:R0 (us.map Tr.pv) [c.pv,d.pv]=.ret (us.map Tr.pv++[c.pv,d.pv]):=tz (br (by
    have:(Tr.node c d).size=c.size+d.size+1:=rfl;simp;omega))
   simp[Tr.pv,e1];refine⟨_,?_,us++[c,d],rfl,bs++[.node c d],⟨by simp[Tr.pv],by simp⟩,?_⟩
   ·have e2:dh [Tr.node c d]=c.size+d.size+1:=by rw[md];rfl
    have e3:dh [c,d]=c.size+d.size:=by simp[dh]
    rw[eE,eE,e2,e3];omega
   ·rw[gL,mf]at hp;rw[DR,<- hp,gL,Gu];simp[Tr.post]
def aA(l:O Nat):O PV:=l.map λ(n:Nat)=>.int (n:Int)
@[simp] theorem gk(l:O Nat):(aA l).length=l.length:=Ag _
@[simp] theorem Vb(a b:O Nat):aA (a++b)=aA a++aA b:=A8
@[simp] theorem SU(a:Nat)(l:O Nat):aA (a::l)=.int (a:Int)::aA l:=rfl
@[simp] theorem Va:aA []=[]:=rfl
def mD(n:Nat):iA 0 n=aA (Av n):=by
 refine BH λi _=>?_;rw[EO]
theorem sU{p:Nat->Bool}:∀{l:O Nat},(∀k∈l,f (.int ((k:Nat):Int))=.ret (if p k=true then some (.int ((k:Nat):Int)) else bd))->gA (aA l) f=.ret (aA (l.filter p))
 | [],_=>rfl
 | k::l,h=>by
  show am (f _) (λo=>am (gA (aA l) f) λm=>ap (o.toList++m))=_;rw[h k (.head _),sU λy hy=>h y (.tail _ hy),CM];cases p k <;> rfl
theorem sI{f:PV->W PV}{g:Nat->PV}:∀{l:O Nat},(∀k∈l,f (.int ((k:Nat):Int))=.ret (g k))->cv (aA l) f=.ret (l.map g)
 | [],_=>rfl
 | k::l,h=>by
  show am (f _) (λy=>am (cv (aA l) f) λm=>ap (y::m))=_;rw[h k (.head _),sI λy hy=>h y (.tail _ hy)];rfl
def Vc(g:PV->Option PV)(h:∀x∈l,f x=.ret (g x))(q:Q (l.filterMap g)):(gA l f).run Q:=by rw[xS h];exact q
def Jn{f:PV->W PV}(g:PV->PV)(h:∀x∈l,f x=.ret (g x))(q:Q (l.map g)):(cv l f).run Q:=by rw[zD h];exact q
def oM{l:O Nat}(p:Nat->Bool)(h:∀k∈l,f (.int ((k:Nat):Int))=.ret (if p k=true then some (.int ((k:Nat):Int)) else bd))(q:Q (aA (l.filter p))):(gA (aA l) f).run Q:=by rw[sU h];exact q
theorem oC(t:Tr)(hz:t.size<=900):(jn t.pv).le (.ret (.tup ((t.nd 0).map Ent.pv))):=λQ q=>by
 unfold jn;simp only[lc,ev];refine W.le.use (IT t hz) ?_;refine ph (λr s=>∃(k:O Tr) (À:O Ent) (ls:O Nat),r=k.map Tr.pv/\s=(À.map Ent.pv,aA ls.reverse)/\run k À ls=some (t.nd 0,[t.size-1])/\À.length+k.length<=900/\ls.length<=À.length) ⟨t.post,[],[],rfl,rfl,Gq t,by simp[t.iP];omega,Ao _⟩ ?_ ?_
 ·rintro x r s ⟨k,À,ls,e,rfl,h,hl,VB⟩;cases k with
  | nil=>cases e
  | cons p k=>
   injection e with e1 e2;subst e1;subst e2;rw[Au]at hl;cases p with
   | leaf x=>
    have a1:∀y,mM (aA ls.reverse) y=.ret (aA ls.reverse++[y]):=λy=>jc (by simp;omega);simp[Tr.pv,jc (l:=À.map Ent.pv) (by simp;omega),a1];refine⟨k,rfl,À++[Ent.word x],À.length::ls,⟨by simp[Ent.pv],by simp⟩,h,by simp;omega,by simp;omega⟩
   | node c d=>
    match ls,h,VB with
    | b::a::ls,h,VB=>
     rw[Au,Au]at VB;have a0:aA (b::a::ls).reverse=(aA ls.reverse++[.int (a:Int)])++[.int (b:Int)]:=by simp
     have a1:∀y,mM (aA ls.reverse) y=.ret (aA ls.reverse++[y]):=λy=>jc (by simp;omega);rw[a0];simp only[Tr.pv,lc,jx,lI,bD,Aq,if_false,R5];simp[jc (l:=À.map Ent.pv) (by simp;omega),a1];refine⟨k,rfl,À++[Ent.pair a b],À.length::ls,⟨by simp[Ent.pv],by simp⟩,h,by simp;omega,by simp;omega⟩
 ·rintro s ⟨k,À,ls,e,rfl,h,hl,VB⟩;cases k with
  | nil=>
   cases h;simpa using q
  | cons p k=>cases e
end My
variable{a b d:Int}
namespace My
theorem mulL(h:-1000000000<=a/\a<=1000000000):wp a b:=OV ∅ ∅
theorem mulR(h:-1000000000<=b/\b<=1000000000):wp a b:=mul_r ∅ ∅
theorem LL:∀ns l Q,jD ns->((lZ 1 bL) l).run Q->((λlo l=>lZ 1 (dP lo) l) (ns.map PV.int) l).run λt=>Q t.1/\∃Q2:O Int,t.2=Q2.map PV.int/\jD Q2:=by
 rintro ns l Q ⟨g,s,c,rfl,g0,s0,s1,c0⟩ q
 match l,q with
 | [],q=>exact q.elim
 | _::_::_,q=>exact q.elim
 | [x],q=>
  show(dP _ x).run _;have q:=q;cases x with
  | int m=>
   obtain⟨⟨m0,m1⟩,q⟩:=q;have q:∀d:Int,0<=d->d < m->Q (.int d):=λd h0 h1=>q _ ⟨d,rfl,h0,h1⟩;unfold dP;generalize hA:(2305843009213693921:Int)=A;generalize hB:(2305843009213693907:Int)=B;generalize hC:(65537:Int)=C;generalize hD:(999983:Int)=D;have A0:0 < A:=by omega
   have B0:0 < B:=by omega
   have C0:0 < C:=by omega
   have D0:0 < D:=by omega
   by_cases hg:0 < g
   ·simp[df,uJ,hg,m0,jB,Oz];refine⟨by omega,q _ (B6 _ ∅) (BO _ m0),[g / m,s,c],rfl,_,_,_,rfl,Int.ediv_nonneg g0 ∅,s0,s1,c0⟩
   ·have e1:wp s 69069:=mulR ∅;have e2:wp 9973 (c+1):=mulL ∅;have e3:wp 2 (c+1):=mulL ∅;simp[df,uJ,hg,m0,jB,Rx,e1,e2,e3,A0,B0,C0,D0];generalize hM:(s*69069+9973*(c+1)+5) % A=M;have M0:0<=M:=by rw[<- hM];exact B6 _ ∅
    have M1:M < A:=by rw[<- hM];exact BO _ A0
    have e4:∀y,wp M y:=λy=>OV ∅ ∅;generalize hN:M*(M % D+2*(c+1)+3) % B=N;have N0:0<=N:=by rw[<- hN];exact B6 _ ∅
    have N1:N < B:=by rw[<- hN];exact BO _ B0
    refine⟨e4 _,⟨C0,by omega⟩,q _ (B6 _ ∅) (BO _ m0),[g,N,c+1],rfl,_,_,_,rfl,g0,N0,by omega,by omega⟩
  | _=>exact q.elim
theorem SE(i:Int):0<=(if i < 0 then -i else i):=by split <;> omega
theorem Mf{k:Int}(k0:0<=k)(q:∀l,(∃ms:O Int,l=ms.map PV.int/\jD ms)->Q l):(gV (.cl (ns.map PV.int)) (.int k)).run Q:=by
 unfold gV;generalize hA:(2305843009213693951:Int)=A;have A0:0 < A:=by omega
 have Á:∀x:Int,0<=x->(am (b2 mj (b2 oMod (ap (.int x)) (b2 mj (b2 vB (ap (.int 10)) (ap (.int 60))) (b2 vB (ap (.int 10)) (ap (.int 60))))) (c1 um (b2 W9 (ap (.int x)) (b2 vB (ap (.int 10)) (ap (.int 18)))))) λlN=>
 (lN\λx6=>am (b2 oMod (w2 addW (w2 addW (ap (.int x)) (b2 mj (ap (.int 104729)) (ap (.int k)))) (ap (.int 7))) (ap (.int A))) λx7=>(.int 0)\λx8=>ap [x6,x7,x8])).run Q:=by
  intro x x0;have p1:La 10 60:=⟨by decide,by decide,by decide⟩;have p2:La 10 18:=⟨by decide,by decide,by decide⟩;simp only[lc,R4,tz p1,tz p2,Kc,Ke,V8,tR,dG,W.KA,W.L0,kw,tz (mulL (show -1000000000<=(104729:Int)/\(104729:Int)<=1000000000 by decide)),tz A0];refine⟨IntMulOk.of_bits (by decide +kernel) (by decide +kernel),by decide +kernel,?_,?_⟩
  ·split
   ·exact mulR ∅
   ·exact mulR ∅
  ·refine q _ ⟨[_,_,_],rfl,_,_,_,rfl,Int.mul_nonneg (B6 _ (by decide +kernel)) ?_,B6 _ ∅,by rw[hA];exact BO _ A0,Cj _⟩
   split <;> decide
 by_cases jH:k < (ns.length:Int)
 ·obtain⟨v,e,e2⟩:=KY (xs:=ns.map PV.int) k0 (by rw[Ag];exact jH);rw[Aj]at e2;obtain⟨c,rfl⟩:∃c,v=.int c:=by
   cases z:ns[k.toNat]? with
   | none=>rw[z]at e2;cases e2
   | some c=>rw[z]at e2;exact⟨c,(Option.some.inj e2).symm⟩
  simp only[lc,hJ,wA,Ag,jH,decide_true,bF,if_true,bW,bX,e,Fk,Sd];exact Á _ (SE _)
 ·simp only[lc,hJ,wA,Ag,jH,decide_false,bF,Aq,if_false];exact Á 0 (Cj _)
theorem xJ(h0:0<=d)(h1:d < 6):∃st:Int,df [PV.int 1,PV.int 3,PV.int 5,PV.int 7,PV.int 9,PV.int 11] d=some (.int st)/\(st=1\/st=3\/st=5\/st=7\/st=9\/st=11):=by
 have:d=0\/d=1\/d=2\/d=3\/d=4\/d=5:=by omega
 rcases this with rfl | rfl | rfl | rfl | rfl | rfl
 ·exact⟨1,rfl,by decide⟩
 ·exact⟨3,rfl,by decide⟩
 ·exact⟨5,rfl,by decide⟩
 ·exact⟨7,rfl,by decide⟩
 ·exact⟨9,rfl,by decide⟩
 ·exact⟨11,rfl,by decide⟩
theorem xK(h0:0<=d)(h1:d < 2):∃bg:Str,df [PV.str "",PV.str "k"] d=some (.str bg)/\Part bg 1:=by
 have:d=0\/d=1:=by omega
 rcases this with rfl | rfl
 ·exact⟨"",rfl,by decide +kernel,by decide +kernel⟩
 ·exact⟨"k",rfl,by decide +kernel,by decide +kernel⟩
theorem xM(h0:0<=d)(h1:d < 4):∃bg:Str,df [PV.str "",PV.str "q",PV.str "zz",PV.str "abcdef"] d=some (.str bg)/\Part bg 6:=by
 have:d=0\/d=1\/d=2\/d=3:=by omega
 rcases this with rfl | rfl | rfl | rfl
 ·exact⟨"",rfl,by decide +kernel,by decide +kernel⟩
 ·exact⟨"q",rfl,by decide +kernel,by decide +kernel⟩
 ·exact⟨"zz",rfl,by decide +kernel,by decide +kernel⟩
 ·exact⟨"abcdef",rfl,by decide +kernel,by decide +kernel⟩
theorem eP{i:Int}(h:-1000<=i/\i<=1000/\-1000<=j/\j<=1000)(h2:j-i<=1000):okN i j:=⟨by omega,by omega,by omega,by omega,br ∅⟩
theorem F9{m:Int}(m0:0<=m)(m1:m<=26)(q:∀ws:O Str,ws.length=m.toNat->(∀x∈ws,Wd x)->ws.Nodup->(∃b,b<=1/\(ws.map λx=>x.cps[b]?).Nodup)->Q (ws.map PV.str)):(eK (.int m)).run Q:=by
 unfold eK;simp only[lc,ev,cJ 26 ⋯ ⋯,cJ 6 ⋯ ⋯,cJ 2 ⋯ ⋯];refine bx λd1 a1 b1=>bx λd3 a3 b3=>?_;obtain⟨st,vY,kst⟩:=xJ a3 b3;simp only[bX,vY,Fk,kw];refine bx λd5 a5 b5=>?_;obtain⟨bg,hbg,kbg⟩:=xK a5 b5;simp only[bX,hbg,Fk,kw,lH,tz (eP (i:=0) (j:=m) ∅ ∅)];have lb:=kbg.1;refine J3 (λi s=>∃ws:O Str,s=ws.map PV.str/\ws.length=i/\(∀x∈ws,Wd x)/\(ws.map λx=>x.cps[bg.length]?)=(Av i).map λk:Nat=>some (97+((d1+st*(0+(k:Int))) % 26).toNat)) ⟨[],rfl,rfl,by simp,rfl⟩ ?_ ?_
 ·rintro i s hi ⟨ws,rfl,hl,hw,hs⟩;have e0:0<=(d1+st*(0+(i:Int))) % 26:=B6 _ ⋯;have e1:(d1+st*(0+(i:Int))) % 26 < 26:=BO _ ⋯;have e2:(d1+st*(i:Int))=d1+st*(0+(i:Int)):=by rw[EO]
  obtain⟨en,hen,ken⟩:=xM (d:=(d1+(i:Int)) % 4) (B6 _ ⋯) (BO _ ⋯);have le:=ken.1;have c1:wp st (i:Int):=mulL ∅;have c2:("abcdefghijklmnopqrstuvwxyz":Str).length<=sizeLine:=by decide +kernel
  have c3:bg.length+(⟨#[97+((d1+st*(0+(i:Int))) % 26).toNat]⟩:Str).length<=sizeLine:=br (by show bg.length+1<=1000;omega);have c4:(bg++(⟨#[97+((d1+st*(0+(i:Int))) % 26).toNat]⟩:Str)).length+en.length<=sizeLine:=br (by rw[C3];show bg.length+1+en.length<=1000;omega);simp only[lc,ev,Kc,tz c1,dG,Ke,tz (show(0:Int) < 26 by decide),tz (show(0:Int) < 4 by decide),e2,Sa _ _ (GK e0 e1),tz c2,FQ,tz c3,bW,bX,hen,Fk,tz c4,jc (l:=ws.map PV.str) (by rw[Ag];omega),kw];refine⟨ws++[bg++⟨#[97+((d1+st*(0+(i:Int))) % 26).toNat]⟩++en],by rw[A8];rfl,by rw[Ah,hl];rfl,?_,by rw[A8,hs,CV,A8,List.map_singleton,List.map_singleton,Ga]⟩;intro x hx;rcases Bs.mp hx with z | z
  ·exact hw x z
  ·rw[A1.mp z];exact HM kbg ken ∅ ∅
 ·rintro s ⟨ws,rfl,hl,hw,hs⟩;have nd:(ws.map λx=>x.cps[bg.length]?).Nodup:=by rw[hs];exact qb kst ∅
  exact q ws hl hw (sH (g:=λx:Str=>x.cps[bg.length]?) nd) ⟨_,by omega,nd⟩
end My
variable{Q:PL.PV->Prop}{ws:O BW}
namespace My
theorem Sv{l:List α}(h:k+1 < l.length):∃a x y b,l=a++x::y::b/\a.length=k:=by
 refine⟨l.take k,l[k],l[k+1],l.drop (k+2),?_,by rw[Cc];omega⟩;have e1:l.drop k=l[k]::l.drop (k+1):=Bm ∅;have e2:=Bm ∅;rw[<- e2,<- e1,List.take_append_drop]
theorem HW(hw:ws≠[])(h8:ws.length<=100)(q:∀t:Tr,t.au.Perm ws->Q t.pv):(fD (.cl (ws.map PV.str))).run Q:=by
 unfold fD;simp only[lc,ev,bW,kw,cJ 4 ⋯ ⋯];refine bx λw w0 w1=>?_;refine jY (λn s=>∃ts:O Tr,s=ts.map Tr.pv/\n=ts.length/\ts≠[]/\(ts.flatMap Tr.au).Perm ws/\ts.length<=100) (n:=ws.length) ⟨ws.map Tr.leaf,by simp[Tr.pv],by simp,by simpa using hw,?_,by simpa using h8⟩ ?_
 ·rw[List.flatMap_map];have:ws.flatMap (λx=>(Tr.leaf x).au)=ws:=by
   simp[Tr.au,List.flatMap_singleton']
  rw[this]
 ·rintro n s ⟨ts,rfl,rfl,JO,hp,hl⟩;by_cases h1:1 < ts.length
  ·have c0:(1:Int) < (ts.length:Int):=by omega
   simp only[lc,ev,pz,Ag,Po,c0,decide_true,bF,kw,if_true,pw,cJ ((ts.length:Int)-1) ∅ ∅];refine bx λd d0 d1=>?_;obtain⟨a,ha,a0,a1⟩:∃a:Nat,df [PV.int d,PV.int ((ts.length:Int)-2),PV.int 0,PV.int 0] w=some (.int (a:Int))/\0<=a/\a+1 < ts.length:=by
    have:w=0\/w=1\/w=2\/w=3:=by omega
    rcases this with rfl | rfl | rfl | rfl
    ·exact⟨d.toNat,by show some (PV.int d)=_;rw[Int.toNat_of_nonneg d0],by omega,by omega⟩
    ·exact⟨ts.length-2,by show some (PV.int ((ts.length:Int)-2))=_;congr 2;omega,by omega,by omega⟩
    ·exact⟨0,rfl,by omega,by omega⟩
    ·exact⟨0,rfl,by omega,by omega⟩
   obtain⟨as,x,y,bs,rfl,hk⟩:=Sv a1;have i0:df ((as++x::y::bs).map Tr.pv) (a:Int)=some x.pv:=eN (by rw[Aj,AN ∅];simp[hk]);have i1:df ((as++x::y::bs).map Tr.pv) ((a:Int)+1)=some y.pv:=by
    have:((a:Int)+1)=((a+1:Nat):Int):=by push_cast;rfl
    rw[this];exact eN (by rw[Aj,AN ∅];simp[hk])
   simp only[bX,ha,Fk,kw,i0,i1,dG,lc];have Á:∀p:Tr,p.au.Perm (x.au++y.au)->(Qf ((as++x::y::bs).map Tr.pv) (.int (a:Int)) (.int ((a:Int)+2)) [p.pv]).run λa=>∃m,m < (as++x::y::bs).length/\∃ts:O Tr,a=ts.map Tr.pv/\m=ts.length/\ts≠[]/\(ts.flatMap Tr.au).Perm ws/\ts.length<=100:=by
    intro p Y7;rw[Ah,Au,Au]at hl;refine⟨⟨by omega,by omega,?_,br ?_⟩,?_⟩
    ·rw[Ag,Ah,Au,Au];push_cast;omega
    ·rw[Ag,Ah,Au,Au];simp;omega
    ·have e:((as++x::y::bs).map Tr.pv).take (a:Int).toNat++[p.pv]++((as++x::y::bs).map Tr.pv).drop ((a:Int)+2).toNat=(as++p::bs).map Tr.pv:=by
      have t1:(a:Int).toNat=as.length:=by omega
      have t2:((a:Int)+2).toNat=as.length+2:=by omega
      rw[t1,t2,<- List.map_take,<- List.map_drop,List.take_left' rfl];have:(as++x::y::bs).drop (as.length+2)=bs:=by
       rw[show as++x::y::bs=(as++[x,y])++bs by simp,List.drop_left' (by simp)]
      rw[this];simp
     show ∃m,_/\∃ts:O Tr,_;rw[e];refine⟨(as++p::bs).length,by simp,as++p::bs,rfl,rfl,by simp,?_,by simp;omega⟩;refine List.Perm.trans ?_ hp;simp only[List.flatMap_append,List.flatMap_cons];refine List.Perm.append_left _ ?_;rw[<- Bc];exact Y7.append_right _
   by_cases h3:w=3
   ·subst h3;simp only[i6,bF,beq_self_eq_true,kw,lc,if_true,ev,cJ 2 ⋯ ⋯];refine bx λd2 d20 d21=>?_;by_cases h4:d2=0
    ·subst h4;simp only[i6,bF,beq_self_eq_true,kw,lc,if_true,ev,i0,i1,bX,dG,Fk];exact Á (.node y x) List.perm_append_comm
    ·have e4:(d2==0)=false:=by simpa using h4
     simp only[i6,bF,e4,kw,lc,ev,Aq,if_false];exact Á (.node x y) (List.Perm.refl _)
   ·have e3:(w==3)=false:=by simpa using h3
    simp only[i6,bF,e3,kw,lc,ev,Aq,if_false];exact Á (.node x y) (List.Perm.refl _)
  ·have c0:¬(1:Int) < (ts.length:Int):=by omega
   simp only[lc,ev,pz,Ag,Po,c0,decide_false,bF,kw,Aq,if_false]
   match ts,JO,h1,hp with
   | [t],_,_,hp=>
    have:t.au.Perm ws:=by simpa using hp
    exact q t this
   | _::_::_,_,h1,_=>simp at h1
structure pM(t:Tr):Prop where
 ws:t.Ws
 nd:t.au.Nodup
 RX:t.au.length<=8
 sg:∃b,b<=1/\(t.au.map λx=>x.cps[b]?).Nodup
theorem G4(q:∀t:Tr,pM t->Q t.pv):eL.run Q:=by
 unfold eL;simp only[lc,ev,cJ 8 ⋯ ⋯];refine bx λd d0 d1=>?_;obtain⟨n,hn,n0,n1⟩:∃n:Int,df [PV.int 5,PV.int 8] (if (d==0)=true then 1 else 0)=some (.int n)/\0 < n/\n<=8:=by
  by_cases h:d=0
  ·subst h;exact⟨8,rfl,by decide,by decide⟩
  ·have e:(d==0)=false:=by simpa using h
   rw[e];exact⟨5,rfl,by decide,by decide⟩
 simp only[i6,kw,tR,bX,hn,Fk,cJ n n0 ∅];refine bx λk k0 k1=>?_;refine F9 ∅ ∅ λws hl hw hd ⟨b,b1,hb⟩=>?_;refine HW (λz=>by rw[z]at hl;simp at hl;omega) ∅ λt ht=>q t ⟨λx hx=>hw x (ht.mem_iff.mp hx),ht.nodup_iff.mpr hd,by rw[ht.length_eq,hl];omega,b,b1,(ht.map _).nodup_iff.mpr hb⟩
end My
variable{a j:Nat}{ds:O Int}{left:O Nat}
namespace My
def nr:Ent->Bool
 | .word _=>false
 | .pair _ _=>true
structure Dt(t:Tr)(ds:List Int)(left:List Nat)(d:Int):Prop where
 len:ds.length=t.size
 zero:∀j,j < t.size->(nr (en t 0 j)=false\/j∈left)->ds.getD j 0=0
 up:∀j,j < t.size->j∉left->∀a b,en t 0 j=.pair a b->a∉left/\b∉left/\ds.getD a 0 < ds.getD j 0/\ds.getD b 0 < ds.getD j 0/\1<=ds.getD j 0/\ds.getD j 0<=d
 inj:∀i j,i < t.size->j < t.size->i∉left->j∉left->nr (en t 0 i)=true->nr (en t 0 j)=true->ds.getD i 0=ds.getD j 0->i=j
 pos:0<=d
 SW:∀j∈left,j < t.size/\nr (en t 0 j)=true
 W2:left.Pairwise (· < ·)
def fR{l:O Int}{v:Int}(h:i < l.length):(l.set i v).getD i 0=v:=by rw[Am,Cs h];rfl
def bp{l:O Int}{v:Int}(h:i≠j):(l.set i v).getD j 0=l.getD j 0:=by rw[Am,BU h,<- Am]
def pY{l:O Nat}(h:l.Pairwise (· < ·)){x y:Nat}:y∈l.erase x↔y∈l/\y≠x:=by
 have nd:l.Nodup:=h.imp (λz=>AA z);rw[nd.mem_erase_iff];exact⟨λz=>⟨z.2,z.1⟩,λz=>⟨z.2,z.1⟩⟩
theorem jy(t:Tr){b:Nat}(h:j < t.size)(e:en t 0 j=.pair a b):a < j/\b < j:=by
 rcases KR t 0 j h with⟨x,e1,_⟩ | ⟨a',b',e1,e2,e3,_⟩
 ·rw[e1]at e;cases e
 ·rw[e1]at e;injection e with h1 h2;omega
theorem Dt.next{x:Int}{b:Nat}(D:Dt t ds left d)(hj:j∈left)(e:en t 0 j=.pair a b)(ha:a∉left)(hb:b∉left)(hx:0<=x):Dt t (ds.set j (d+1+x)) (left.erase j) (d+1+x):=by
 obtain⟨hjs,hjp⟩:=D.SW j hj;obtain⟨haj,hbj⟩:=jy t hjs e;have S2:j < ds.length:=by rw[D.len];exact hjs
 have hm:∀y,y∈left.erase j↔y∈left/\y≠j:=λy=>pY D.W2;have ß:∀y,y < t.size->y∉left->ds.getD y 0<=d:=λy hy Xi=>by
  cases ey:en t 0 y with
  | word w=>rw[D.zero y hy (.inl (by rw[ey];rfl))];exact D.pos
  | pair p q=>exact(D.up y hy Xi p q ey).2.2.2.2.2
 refine⟨by rw[B5];exact D.len,λy hy hc=>?_,λy hy Xi p q ey=>?_,λu v hu hv hul hvl pu pv Lg=>?_,by have:=D.pos;omega,λy hy=>D.SW y ((hm y).mp hy).1,List.Pairwise.sublist List.erase_sublist D.W2⟩
 ·have Vt:j≠y:=λz=>by
   subst z;rcases hc with hc | hc
   ·rw[hjp]at hc;cases hc
   ·exact((hm j).mp hc).2 rfl
  rw[bp Vt];exact D.zero y hy (hc.imp id λz=>((hm y).mp z).1)
 ·by_cases Vt:j=y
  ·subst Vt;rw[e]at ey;injection ey with h1 h2;subst h1 h2;have la:=ß a ∅ ha;have lb:=ß b ∅ hb;rw[fR S2,bp ∅,bp ∅];have:=D.pos;exact⟨λz=>ha ((hm a).mp z).1,λz=>hb ((hm b).mp z).1,by omega,by omega,by omega,by omega⟩
  ·have YY:y∉left:=λz=>Xi ((hm y).mpr ⟨z,BD Vt⟩);obtain⟨p1,p2,p3,p4,p5,p6⟩:=D.up y hy YY p q ey;have np:j≠p:=λz=>p1 (z▸hj);have nq:j≠q:=λz=>p2 (z▸hj);rw[bp Vt,bp np,bp nq];exact⟨λz=>p1 ((hm p).mp z).1,λz=>p2 ((hm q).mp z).1,p3,p4,p5,by omega⟩
 ·by_cases c1:j=u
  ·by_cases c2:j=v
   ·exact c1.symm.trans c2
   ·exfalso;subst c1;have RD:v∉left:=λz=>hvl ((hm v).mpr ⟨z,BD c2⟩);rw[fR S2,bp c2]at Lg;have:=ß v hv RD;omega
  ·have Vw:u∉left:=λz=>hul ((hm u).mpr ⟨z,BD c1⟩);by_cases c2:j=v
   ·exfalso;subst c2;rw[fR S2,bp c1]at Lg;have:=ß u hu Vw;omega
   ·have RD:v∉left:=λz=>hvl ((hm v).mpr ⟨z,BD c2⟩);rw[bp c1,bp c2]at Lg;exact D.inj u v hu hv Vw RD pu pv Lg
def splits(t:Tr):O Nat:=(Av t.size).filter λj=>nr (en t 0 j)
def Dt.first(t:Tr):Dt t (Ak t.size 0) (splits t) 0:=by
 have z:∀j,(Ak t.size (0:Int)).getD j 0=0:=λj=>by
  rw[Am,BC]
  split <;> rfl
 have mem:∀j,j∈splits t↔j < t.size/\nr (en t 0 j)=true:=λj=>by unfold splits;rw[AB,Ax]
 refine⟨Bo,λj _ _=>z j,λj hj hn a b e=>absurd ((mem j).mpr ⟨hj,by rw[e];rfl⟩) hn,λi j hi hj hni _ pi _ _=>absurd ((mem i).mpr ⟨hi,pi⟩) hni,Cj _,λj hj=>(mem j).mp hj,?_⟩;exact List.Pairwise.filter _ Df
theorem FR(t:Tr):cz 0 ((t.nd 0).map Ent.pv)=(Av t.size).map λj=>PV.tup [.int ((j:Nat):Int),(en t 0 j).pv]:=by
 have hl:(cz 0 ((t.nd 0).map Ent.pv)).length=t.size:=by rw[bu,Ag,t.aZ]
 apply B2;intro i;by_cases hi:i < t.size
 ·have h1:(cz 0 ((t.nd 0).map Ent.pv))[i]?=some ((cz 0 ((t.nd 0).map Ent.pv))[i]'∅):=Ad _;obtain⟨y,hy,e⟩:=dA h1;rw[Aj,iQ t 0 i hi]at hy;have RC:=Option.some.inj hy;rw[h1,e,<- RC,Aj,BI hi,Az];rfl
 ·rw[AV ∅,AV (by rw[Ag,CC];omega)]
def M5:PV->Option PV
 | .tup [_,.str _]=>bd
 | .tup [k,_]=>some k
 | _=>bd
def Rj(t:Tr):(cz 0 ((t.nd 0).map Ent.pv)).filterMap M5=aA (splits t):=by
 rw[FR];unfold splits;generalize Av t.size=l
 induction l with
 | nil=>rfl
 | cons j l ih=>
  rw[Ar,Bw,CM];cases e:en t 0 j with
  | word w=>exact ih
  | pair a b=>
   rw[ih];rfl
def qP(l:O Nat):aA l=(l.map λn=>((n:Nat):Int)).map PV.int:=by unfold aA;rw[AM];rfl
theorem pB(y:Nat):∀l:O Nat,(l.map λn=>((n:Nat):Int)).erase (y:Int)=(l.erase y).map λn=>((n:Nat):Int)
 | []=>rfl
 | a::l=>by
  rw[Ar,List.erase_cons,List.erase_cons,pB y l];by_cases c:a=y
  ·subst c;simp
  ·have c1:(((a:Nat):Int)==(y:Int))=false:=by simp;omega
   have c2:(a==y)=false:=by simpa using c
   rw[c1,c2];simp
theorem Rb(h0:0<=d)(h1:d < 3):∃m:Int,df [PV.int 1,PV.int 3,PV.int 13] d=some (.int m)/\0 < m/\m<=13:=by
 have:d=0\/d=1\/d=2:=by omega
 rcases this with rfl | rfl | rfl
 ·exact⟨1,rfl,by decide,by decide⟩
 ·exact⟨3,rfl,by decide,by decide⟩
 ·exact⟨13,rfl,by decide,by decide⟩
theorem zm:∀(l:O Nat) (k n:Nat),l.Pairwise (· < ·)->(∀x∈l,k<=x/\x < n)->l.length<=n-k
 | [],_,_,_,_=>Bx _
 | a::l,k,n,h,hb=>by
  have h1:=(BN.mp h);have h2:=hb a Br;have ih:=zm l (a+1) n h1.2 λx hx=>⟨h1.1 x hx,(hb x (AY _ hx)).2⟩;rw[Au];omega
def Qj(s:Nat):Ent->Ent
 | .word x=>.word x
 | .pair p q=>.pair (p+s) (q+s)
theorem xE:∀(t:Tr) (o s:Nat),t.nd (o+s)=(t.nd o).map (Qj s)
 | .leaf _,_,_=>rfl
 | .node a b,o,s=>by
  have ha:=a.size_pos;rw[Tr.nd,Tr.nd,xE a o s,show o+s+a.size=o+a.size+s by omega,xE b (o+a.size) s,A8,A8];congr 2;congr 1 <;> omega
def KH(h:l.length+m.length<=1000):KI l m=.ret (l++m):=tz (br h)
theorem gw:∀(n:Nat) (t:Tr),t.depth < n->t.size<=900->(aO n t.pv).le (.ret ((t.nd 0).map Ent.pv))
 | 0,_,h,_=>by omega
 | n+1,.leaf w,_,_=>λQ q=>by
  unfold aO;simp[Tr.pv];exact q
 | n+1,.node a b,h,hz=>λQ q=>by
  have hs:(Tr.node a b).size=a.size+b.size+1:=rfl;have hpa:=a.size_pos;have hd:a.depth < n/\b.depth < n:=by simp[Tr.depth]at h;omega
  unfold aO;have i0:df [a.pv,b.pv] 0=some a.pv:=rfl;have i1:df [a.pv,b.pv] 1=some b.pv:=rfl;simp only[Tr.pv,lc,ev,jx,lI,bD,Aq,if_false,aL,bX,i0,i1,Fk];refine W.le.use (gw n a hd.1 ∅) ?_;simp only[pz,Ag,a.aZ,kw];refine W.le.use (gw n b hd.2 ∅) ?_;refine hE (λi s=>s=(a.nd 0++((b.nd 0).take i).map (Qj a.size)).map Ent.pv) (by simp) (λi x s hx hs=>?_) (λs hs=>?_)
  ·subst hs;rw[Aj]at hx;cases e:(b.nd 0)[i]? with
   | none=>rw[e]at hx;cases hx
   | some en=>
    rw[e]at hx;have ex:=Option.some.inj hx;subst ex;have hi:i < b.size:=by have:=(Al.mp e).1;rw[b.aZ]at this;exact this
    have et:(b.nd 0).take (i+1)=(b.nd 0).take i++[en]:=by rw[Fg,e];rfl
    have al:∀y,mM ((a.nd 0++((b.nd 0).take i).map (Qj a.size)).map Ent.pv) y=.ret ((a.nd 0++((b.nd 0).take i).map (Qj a.size)).map Ent.pv++[y]):=λy=>jc (by simp[a.aZ];omega);cases en with
    | word w=>
     simp only[Ent.pv,lc,ev,nS,nR,bD,if_true,al,kw,et];simp[Qj,Ent.pv]
    | pair u v=>
     have j0:df [PV.int (u:Int),PV.int (v:Int)] 0=some (.int u):=rfl;have j1:df [PV.int (u:Int),PV.int (v:Int)] 1=some (.int v):=rfl;simp only[Ent.pv,lc,ev,jx,lI,bD,Aq,if_false,aL,bX,j0,j1,Fk,dG,al,kw,et];simp[Qj,Ent.pv]
  ·subst hs;rw[Dd (by rw[Ag];exact Ao _)];have es:(b.nd 0).map (Qj a.size)=b.nd a.size:=by rw[<- xE b 0 a.size,Az]
   rw[es];simp only[lc,ev,pw,pz,Ag,Ah,a.aZ,b.aZ,kw];rw[KH (by simp[a.aZ,b.aZ];omega)];have e:(Tr.node a b).nd 0=a.nd 0++b.nd a.size++[.pair (a.size-1) (a.size+b.size-1)]:=by rw[Tr.nd];simp
   rw[e]at q;have e1:((a.size:Int)-1)=((a.size-1:Nat):Int):=by omega
   have e2:(((a.size+b.size:Nat):Int)-1)=((a.size+b.size-1:Nat):Int):=by omega
   rw[e1,e2];simpa[Ent.pv]using q
theorem pick_run(h0:l≠[])(h1:l.length<=1000)(q:∀x∈l,Q x):(fF (.cl l)).run Q:=by
 unfold fF;have hp:0 < l.length:=List.length_pos_iff.mpr h0;simp only[lc,ev,bW,hJ,cJ (l.length:Int) ∅ ∅,kw];refine bx λd d0 d1=>?_;obtain⟨v,hv,hv2⟩:=KY (xs:=l) d0 d1;simp only[bX,hv,Fk,kw];exact q v (A5 hv2)
theorem tw(k:Nat)(l:O Nat)(b:Bool):qf b (.int (k:Int)) (aA l)=.ret (if b then !decide (k∈l) else decide (k∈l)):=by
 have h1:GW (.int (k:Int)) (aA l):=⟨by simp,iZ.mpr λx hx=>by
  obtain⟨n,_,rfl⟩:=AD.mp hx;simp,i5 λx hx=>by
  obtain⟨n,_,rfl⟩:=AD.mp hx;simp⟩
 have h2:nv (.int (k:Int)) (aA l)=decide (k∈l):=by
  unfold nv aA;rw[List.any_map]
  induction l with
  | nil=>simp
  | cons a l ih=>
   have ih:=ih ⟨by simp,iZ.mpr λx hx=>by
    obtain⟨n,_,rfl⟩:=AD.mp hx;simp,i5 λx hx=>by
    obtain⟨n,_,rfl⟩:=AD.mp hx;simp⟩
   rw[Ca,ih];by_cases c:a=k
   ·subst c;simp
   ·have c1:(((a:Nat):Int)==(k:Int))=false:=by simp;omega
    have c2:¬k=a:=λz=>c z.symm;simp[c1,c2]
 unfold qf;rw[tz h1,h2]
def Ky(l:O Nat):qo (aA l)=true:=wK.mpr λx hx=>by
 obtain⟨n,_,rfl⟩:=AD.mp hx;rw[PV.dat] <;> simp
def bA(ds:O Int):O PV:=ds.map PV.int
@[simp] theorem dR(ds:O Int):(bA ds).length=ds.length:=Ag _
def JH(ds:O Int)(y:Nat)(v:Int):(bA ds).set y (.int v)=bA (ds.set y v):=by unfold bA;rw[FA]
def L4(t:Tr)(left:O Nat)(j:Nat):Bool:=match en t 0 j with
 | .pair a b=>!decide (a∈left)&&!decide (b∈left)
 | _=>false
theorem Nk(h:k < n):uJ n (k:Int)=some k:=by
 unfold uJ;rw[if_pos ∅,if_pos ∅];simp
def nH(h:k < l.length):jB l (.int (k:Int)) v=.ret (l.set k v):=by
 unfold jB;simp[Nk h]
def Q8(t:Tr)(h:j < t.size):df ((t.nd 0).map Ent.pv) (j:Int)=some (en t 0 j).pv:=eN (by rw[Aj,iQ t 0 j h];rfl)
theorem Dt.Uy(D:Dt t ds left d)(he:left≠[]):aA (left.filter (L4 t left))≠[]:=by
 obtain⟨l0,l1,rfl⟩:∃l0 l1,left=l0::l1:=by cases left with | nil=>exact absurd rfl he | cons a l=>exact⟨a,l,rfl⟩
 have hr2:L4 t (l0::l1) l0=true:=by
  obtain⟨h1,h2⟩:=D.SW l0 (.head _);unfold L4;cases e:en t 0 l0 with
  | word w=>rw[e]at h2;cases h2
  | pair a b=>
   obtain⟨g1,g2⟩:=jy t h1 e;have ß:∀y∈l0::l1,l0<=y:=λy hy=>by
    rcases AH.mp hy with rfl | hy
    ·exact Ao _
    ·exact Dc ((BN.mp D.W2).1 y hy)
   have na:a∉l0::l1:=λz=>by have:=ß a z;omega
   have nb:b∉l0::l1:=λz=>by have:=ß b z;omega
   show(!decide _&&!decide _)=true;rw[decide_eq_false na,decide_eq_false nb];rfl
 intro z;have:=congrArg BS z;rw[gk]at this;have m:=AB.mpr ⟨show l0∈l0::l1 from .head _,hr2⟩;rw[Ez.mp this]at m;cases m
theorem Hf(t:Tr)(hz:t.size<=900)(q:∀ds d,Dt t ds [] d->d<=13*((splits t).length:Int)->Q (.tup (bA ds))):(eM (.cl ((t.nd 0).map Ent.pv))).run Q:=by
 unfold eM;have e1:L3 [PV.int 0] (.int ((t.nd 0).map Ent.pv).length)=.ret (bA (Ak t.size 0)):=by
  rw[R3,tz ⟨by omega,by rw[Ag,t.aZ];omega,br (by simp[t.aZ];omega)⟩];congr 1;rw[Ag,t.aZ,Bd]
  induction t.size with
  | zero=>rfl
  | succ n ih=>rw[Bv,B1,ih];rfl
 have e3:((t.nd 0).map Ent.pv).length<=sizeLine:=br (by rw[Ag,t.aZ];omega);simp only[lc,hJ,e1,bW,tz e3,ev];refine Vc M5 (λx hx=>?_) ?_
 ·rw[FR]at hx;obtain⟨j,hj,rfl⟩:=AD.mp hx;cases en t 0 j with
  | word w=>simp[Ent.pv,M5]
  | pair u v=>simp[Ent.pv,M5]
 rw[Rj t];refine jY (λn s=>∃(ds:O Int) (left:O Nat) (d:Int),s=(bA ds,aA left,PV.int d)/\n=left.length/\Dt t ds left d/\d+13*(left.length:Int)<=13*((splits t).length:Int)) ⟨_,_,0,rfl,rfl,Dt.first t,by omega⟩ ?_;rintro n s ⟨ds,left,d,rfl,rfl,D,hd⟩;by_cases he:left=[]
 ·subst he;simp;exact q ds d D (by simpa using hd)
 ·have ee:(!(aA left).isEmpty)=true:=by cases left with | nil=>exact absurd rfl he | cons a l=>rfl
  have VB:left.length<=t.size:=by
   have:=zm left 0 t.size D.W2 λx hx=>⟨Bx _,(D.SW x hx).1⟩;omega
  have ne:=D.Uy he;have e5:HX (aA (left.filter (L4 t left)))=.ret (aA (left.filter (L4 t left))):=tz (Ky _);simp only[kw,ee,if_true,lc,ev];refine oM (L4 t left) (λk hk=>?_) ?_
  ·obtain⟨h1,h2⟩:=D.SW k hk;unfold L4;cases e:en t 0 k with
   | word w=>rw[e]at h2;cases h2
   | pair a b=>
    have j0:df [PV.int (a:Int),PV.int (b:Int)] 0=some (.int a):=rfl;have j1:df [PV.int (a:Int),PV.int (b:Int)] 1=some (.int b):=rfl;simp only[lc,bW,bX,Q8 t h1,e,Ent.pv,Fk,aL,j0,j1,tw,if_true];by_cases ca:a∈left
    ·simp[ca]
    ·simp[ca];by_cases cb:b∈left
     ·simp[cb]
     ·simp[cb]
  rw[e5];refine pick_run ne (by rw[gk];have:=Ce (L4 t left) left;omega) λx hx=>?_;obtain⟨j,hj,rfl⟩:=AD.mp hx;obtain⟨RK,VD⟩:=AB.mp hj;obtain⟨js,jp⟩:=D.SW j RK;cases ej:en t 0 j with
  | word w=>rw[ej]at jp;cases jp
  | pair a b=>
  unfold L4 at VD;rw[ej]at VD;simp at VD;simp only[dG,kw,cJ 3 ⋯ ⋯];refine bx λz z0 z1=>?_;obtain⟨m,hm,m0,m1⟩:=Rb z0 z1;simp only[bX,hm,Fk,kw,cJ m m0 ∅];refine bx λy y0 y1=>?_;have Vv:Qp (aA left) (.int (j:Int))=.ret (aA (left.erase j)):=by
   show am (oW (aA left)) _=_;rw[qP,jt];show W.eB _ _=_;rw[tz (AD.mpr ⟨j,RK,rfl⟩),pB,<- qP]
  simp only[dG,kw,nH (l:=bA ds) (k:=j) (by rw[dR,D.len];exact js),Vv,JH];refine⟨(left.erase j).length,by rw[En RK];have:=EM RK;omega,_,_,_,rfl,rfl,D.next RK ej VD.1 VD.2 y0,?_⟩;rw[En RK];have:=EM RK;omega
theorem pM.size(g:pM t):t.size<=15:=by have:=t.size_eq;have:=g.RX;omega
theorem pM.depth(g:pM t):t.depth < 8:=by have:=t.pD;have:=g.RX;omega
def U3(t:Tr)(ds:O Int)(j:Nat):Bool:=match en t 0 j with
 | .word _=>ds.getD j 0==0
 | .pair a b=>decide (ds.getD a 0 < ds.getD j 0)&&decide (ds.getD b 0 < ds.getD j 0)&&decide (1<=ds.getD j 0)&&decide (ds.getD j 0<=99)
def jQ(t:Tr)(ds:O Int):O Int:=(splits t).map (ds.getD · 0)
def Np(t:Tr)(ds:O Int):Bool:=decide (ds.length=t.size)&&(decide (jQ t ds).Nodup&&(Av t.size).all (U3 t ds))
def int_at(h:j < ds.length):df (bA ds) (j:Int)=some (.int (ds.getD j 0)):=eN (by
 unfold bA;rw[Aj,Ad h,Am,Ad h];rfl)
theorem PM(t:Tr)(ds:O Int)(h:ds.length=t.size):iH ((t.nd 0).map Ent.pv) (bA ds)=(Av t.size).map λj=>PV.tup [(en t 0 j).pv,.int (ds.getD j 0)]:=by
 refine B2 λj=>?_;by_cases hj:j < t.size
 ·have hl:j < (iH ((t.nd 0).map Ent.pv) (bA ds)).length:=by rw[kM];simp[t.aZ,h];exact hj
  obtain⟨x,y,hx,hy,e⟩:=nY (Ad hl);rw[Aj,iQ t 0 j hj]at hx;have qh:=Option.some.inj hx;have S2:j < ds.length:=by omega
  unfold bA at hy;rw[Aj,Ad S2]at hy;have RC:=Option.some.inj hy;rw[Ad hl,e,<- qh,<- RC,Aj,BI hj];show _=some (PV.tup [_,.int (ds.getD j 0)]);rw[Am,Ad S2];rfl
 ·rw[AV (by rw[kM];simp[t.aZ,h];omega),AV (by simp;omega)]
theorem split_le(t:Tr)(ds:O Int)(h:ds.length=t.size)(hz:t.size<=900):dC (.tup ((t.nd 0).map Ent.pv)) (.tup (bA ds))=.ret (bA (jQ t ds)):=by
 unfold dC;have c:((t.nd 0).map Ent.pv).length<=sizeLine:=br (by rw[Ag,t.aZ];omega);simp only[lc,aL,Ls,tz c,PM t ds h];rw[xS (g:=λx=>match x with | .tup [.str _,_]=>bd | .tup [_,y]=>some y | _=>bd) λx hx=>?_]
 ·congr 1;unfold jQ splits bA;generalize Av t.size=l
  induction l with
  | nil=>rfl
  | cons j l ih=>
   rw[Ar,Bw,CM,ih];cases e:en t 0 j with
   | word w=>rfl
   | pair a b=>rfl
 ·obtain⟨j,hj,rfl⟩:=AD.mp hx;cases en t 0 j with
  | word w=>simp[Ent.pv]
  | pair a b=>simp[Ent.pv]
end My
variable{e:My.Ent}{es:O My.Ent}{p:Nat×Nat}{bs:O Int}
namespace My
section
variable{α β:Type}
theorem Jm{c:α->PV}{f:PV->W PV}{g:α->PV}:∀{l:List α},(∀x∈l,(f (c x)).le (.ret (g x)))->(cv (l.map c) f).le (.ret (l.map g))
 | [],_=>W.le.refl _
 | x::r,h=>W.le.ret (h x (.head _)) (W.le.ret (Jm λy hy=>h y (.tail _ hy)) (W.le.refl _))
theorem OW{c:α->PV}{g:α->Option PV}:∀{l:List α},(∀x∈l,(f (c x)).le (.ret (g x)))->(gA (l.map c) f).le (.ret (l.filterMap g))
 | [],_=>W.le.refl _
 | x::r,h=>W.le.ret (h x (.head _)) (W.le.ret (OW λy hy=>h y (.tail _ hy)) (W.le.of_eq (by rw[Bw];cases g x <;> rfl)))
def eI{c:α->PV}{f:PV->W PV}{Q:O PV->Prop}(g:α->PV){l:List α}(h:∀x∈l,(f (c x)).le (.ret (g x)))(q:Q (l.map g)):(cv (l.map c) f).run Q:=Jm h Q q
def xR{c:α->PV}{Q:O PV->Prop}(g:α->Option PV){l:List α}(h:∀x∈l,(f (c x)).le (.ret (g x)))(q:Q (l.filterMap g)):(gA (l.map c) f).run Q:=OW h Q q
theorem Pk{p:α->Bool}{g:α->β}:∀l:List α,l.filterMap (λx=>if p x=true then some (g x) else bd)=(l.filter p).map g
 | []=>rfl
 | x::l=>by
  rw[Bw,CM,Pk l];cases p x <;> rfl
end
def Ki(c:α->PV)(l:List α)(k:Nat):cz k (l.map c)=(l.zipIdx k).map λp=>PV.tup [.int ((p.2:Nat):Int),c p.1]:=by
 induction l generalizing k with
 | nil=>rfl
 | cons a l ih=>rw[Ar,cz,ih,List.zipIdx_cons,Ar]
def vp:V->PV
 | .int i=>.int i
 | .str x=>.str x
 | .bl b=>.bl b
 | _=>.aK
def Tn(t:Tr):O PV:=(ah (t.nd 0) 0 (Ak t.size V.aK)).map vp
@[simp] theorem F3(t:Tr):(Tn t).length=t.size:=by unfold Tn;rw[Ag,yP,Bo]
def F4(t:Tr)(h:j < t.size):(Tn t)[j]?=some (vp (eO t 0 j .aK)):=by unfold Tn;rw[Aj,SD t h];rfl
def du(t:Tr):((t.nd 0).map Ent.pv).length=t.size:=by rw[Ag,t.aZ]
theorem wU(t:Tr)(hz:t.size<=900):(eX t.pv).le (.ret (.tup (Tn t))):=λQ q=>by
 unfold eX;have c:((t.nd 0).map Ent.pv).length<=sizeLine:=br (by rw[du];omega);simp only[lc,ev];refine W.le.use (oC t hz) ?_;simp only[aL,kw];refine Jn (λ_=>.aK) (λx hx=>rfl) ?_;simp only[tz c,kw];have e0:((t.nd 0).map Ent.pv).map (λ_=>PV.aK)=(ah ((t.nd 0).take 0) 0 (Ak t.size V.aK)).map vp:=by
  rw[List.take_zero,ah,List.map_replicate,List.map_const',du];rfl
 rw[e0];refine hE (λi s=>s=(ah ((t.nd 0).take i) 0 (Ak t.size V.aK)).map vp) rfl (λi x s hx hs=>?_) (λs hs=>?_)
 ·subst hs;have hi:i < t.size:=by have:=(Al.mp hx).1;rw[bu,du]at this;exact this
  obtain⟨y,hy,rfl⟩:=dA hx;have e:=iQ t 0 i hi;rw[Aj,e]at hy;have hy:=Option.some.inj hy;subst hy;have et:(t.nd 0).take (i+1)=(t.nd 0).take i++[en t 0 i]:=by rw[Fg,e];rfl
  have ea:ah ((t.nd 0).take (i+1)) 0 (Ak t.size V.aK)=K2 (ah ((t.nd 0).take i) 0 (Ak t.size V.aK)) (0+i) (en t 0 i):=by
   rw[et,uv,Cc,t.aZ];congr 1;omega
  have Zu:(ah ((t.nd 0).take i) 0 (Ak t.size V.aK)).length=t.size:=by rw[yP,Bo]
  rw[ea];generalize hA:ah ((t.nd 0).take i) 0 (Ak t.size V.aK)=A at Zu ⊢;unfold cX;cases en':en t 0 i with
  | word w=>simp[Ent.pv,dZ,K2]
  | pair a b=>
   obtain⟨ha,hb⟩:=jy t hi en';have s1:jB (A.map vp) (.int (a:Int)) (.int ((0+i:Nat):Int))=.ret ((A.map vp).set a (.int ((0+i:Nat):Int))):=nH (by rw[Ag];omega);have s2:jB ((A.map vp).set a (.int ((0+i:Nat):Int))) (.int (b:Int)) (.int ((0+i:Nat):Int))=.ret (((A.map vp).set a (.int ((0+i:Nat):Int))).set b (.int ((0+i:Nat):Int))):=nH (by rw[B5,Ag];omega);simp only[Ent.pv,yk,kw,jx,lI,bD,ev,Aq,if_false,aL,dZ,lc,s1,s2];show _=Ey vp ((A.set a _).set b _);rw[FA,FA];rfl
 ·subst hs;simp only[bu,Ag];rw[List.take_length];exact q
def pN(e:Ent)(j:Nat):PV:=match e with | .word x=>.str x | .pair _ _=>.int (j:Int)
def kR(t:Tr)(ds:O Int)(b:Int)(j:Nat):Bool:=decide (ds.getD j 0<=b)&&(match eO t 0 j .aK with | .int a=>decide (b < ds.getD a.toNat 0) | _=>true)
def u9(t:Tr)(ds:O Int)(b:Int)(n j:Nat):O (Nat×Nat):=((Av j).filter (kR t ds b)).map λk=>(k,n)
def ao(t:Tr)(ds bs:O Int):Nat->O (Nat×Nat)
 | 0=>[]
 | i+1=>ao t ds bs i++u9 t ds (bs.getD i 0) i t.size
def HB(l:O (Nat×Nat)):O PV:=l.map λp=>.tup [.int (p.1:Int),.int (p.2:Int)]
def zc(t:Tr)(ds:O Int)(b:Int)(n j:Nat):(u9 t ds b n j).length<=j:=by
 unfold u9;rw[Ag];refine AQ (Ce _ _) ?_;rw[CC];exact Ao _
theorem eU(t:Tr)(ds bs:O Int):∀i,(ao t ds bs i).length<=i*t.size
 | 0=>Bx _
 | i+1=>by
  rw[ao,Ah];have h1:=eU t ds bs i;have h2:=zc t ds (bs.getD i 0) i t.size;rw[Fy];omega
def H9(t:Tr)(ds:O Int)(b:Int)(n j:Nat):u9 t ds b n (j+1)=u9 t ds b n j++(if kR t ds b j then [(j,n)] else []):=by
 unfold u9;rw[CV,List.filter_append,A8];congr 1;by_cases c:kR t ds b j <;> simp[c]
def oQ(p:Nat×Nat):O Key:=[.inl (p.1:Int),.inl (p.2:Int)]
theorem vR{q:Nat×Nat}(h:oQ p=oQ q):p=q:=by
 obtain⟨a,b⟩:=p;obtain⟨c,d⟩:=q;simp[oQ]at h;obtain⟨h1,h2⟩:=h;exact Prod.ext (by show a=c;omega) (by show b=d;omega)
def kd:Nat->O (Nat×Nat)->O (O Key×PV)
 | _,[]=>[]
 | k,p::l=>(oQ p,.int (k:Int))::kd (k+1) l
theorem jl:∀(k:Nat) (l:O (Nat×Nat)),(kd k l).map (·.1)=l.map oQ
 | _,[]=>rfl
 | k,p::l=>by rw[kd,Ar,Ar,jl (k+1) l]
def vC(k:Nat)(l:O (Nat×Nat)):(kd k l).length=l.length:=by have:=congrArg BS (jl k l);simpa using this
theorem oA:∀(k:Nat) (l:O (Nat×Nat)) (p:Nat×Nat),p∈l->jI (kd k l) (oQ p)=some (.int ((k+l.idxOf p:Nat):Int))
 | k,q::l,p,h=>by
  rw[List.idxOf_cons];by_cases c:q=p
  ·subst c;simp[kd,jI]
  ·have hp:p∈l:=(AH.mp h).elim (λz=>absurd z.symm c) id;have ih:=oA (k+1) l p hp;have c2:oQ q≠oQ p:=λz=>c (vR z);have c3:(q==p)=false:=by simpa using c
   have e:jI (kd k (q::l)) (oQ p)=jI (kd (k+1) l) (oQ p):=by simp[kd,jI,c2]
   rw[e,ih,c3];congr 2;show((k+1+l.idxOf p:Nat):Int)=((k+(l.idxOf p+1):Nat):Int);omega
def jN(e:Ent)(j:Nat)(d b:Int):O Nat:=if d < b then [j] else match e with | .word _=>[] | .pair x y=>[x,y]
def Hv(l:O (Nat×Nat))(j n:Nat):O Nat:=(l.filter λp=>decide (p.2=n)&&!decide (p.1=j)).map λp=>l.idxOf p
def m6(e:Ent)(l:O (Nat×Nat))(j n:Nat)(d b:Int):PV:=.tup [pN e j,.int (n:Int),.tup (aA ((jN e j d b).map λx=>l.idxOf (x,n-1))),.tup (aA (Hv l j n))]
def zC{f:α->β}(hf:∀x y,f x=f y->x=y){l:List α}(h:l.Nodup):(l.map f).Nodup:=List.Pairwise.map f (λa b n z=>n (hf a b z)) h
def Gh(t:Tr)(ds:O Int)(b:Int)(n j:Nat):(u9 t ds b n j).Nodup:=by
 exact zC (λx y h=>(Prod.mk.inj h).1) (List.Pairwise.filter _ List.nodup_range)
theorem eT:∀{i:Nat}{p:Nat×Nat},p∈ao t ds bs i->p.2 < i/\p.1 < t.size
 | 0,_,h=>by simp[ao]at h
 | i+1,p,h=>by
  rw[ao]at h;rcases Bs.mp h with h | h
  ·have:=eT h;omega
  ·obtain⟨k,hk,rfl⟩:=AD.mp h;have:=Ax.mp (AB.mp hk).1;exact⟨Eu _,this⟩
theorem gI(t:Tr)(ds bs:O Int):∀i,(ao t ds bs i).Nodup
 | 0=>Fh
 | i+1=>by
  rw[ao];refine Dg.mpr ⟨gI t ds bs i,Gh _ _ _ _ _,λa ha b hb z=>?_⟩;subst z;have h1:=(eT ha).1;obtain⟨k,_,rfl⟩:=AD.mp hb;exact AO _ h1
def g8(h:l[k]?=some v):zI l (.int (k:Int))=.ret v:=by
 rw[bX,eN h];rfl
def wC(ds:O Int)(h:(cz 0 (bA ds))[i]?=some x):i < ds.length/\x=.tup [.int (i:Int),.int (ds.getD i 0)]:=by
 have hi:i < ds.length:=by have:=(Al.mp h).1;rw[bu,dR]at this;exact this
 obtain⟨y,hy,rfl⟩:=dA h;unfold bA at hy;rw[Aj,Ad hi]at hy;have hy:=Option.some.inj hy;subst hy;refine⟨hi,?_⟩;rw[Az,Am,Ad hi];rfl
theorem u5(t:Tr)(ds bs:O Int)(hd:ds.length=t.size)(hz:t.size<=100)(hb:bs.length*t.size<=900)(hb2:bs.length<=900):(gR t.pv (.tup (bA ds)) (.cl (bA bs))).le (.ret (HB (ao t ds bs bs.length))):=λQ q=>by
 unfold gR;have c1:(bA bs).length<=sizeLine:=br (by rw[dR];omega);have c2:(bA ds).length<=sizeLine:=br (by rw[dR];omega);simp only[lc,ev];refine W.le.use (wU t ∅) ?_;simp only[bW,kw,tz c1];refine hE (λi s=>s=HB (ao t ds bs i)) rfl (λi x s hx hs=>?_) (λs hs=>?_)
 ·subst hs;obtain⟨hi,rfl⟩:=wC bs hx;simp only[yk,kw,ev,aL,tz c2];have hl:=eU t ds bs i;have hm:i*t.size+t.size<=900:=by
   have:(i+1)*t.size<=bs.length*t.size:=Nat.mul_le_mul_right _ hi;rw[Fy]at this;omega
  refine hE (λj s=>s=HB (ao t ds bs i++u9 t ds (bs.getD i 0) i j)) (by simp[u9]) (λj x s hx hs=>?_) (λs hs=>?_)
  ·subst hs;obtain⟨hj,rfl⟩:=wC ds hx;have Lj:=zc t ds (bs.getD i 0) i j;simp only[yk,kw,ev];rw[H9];have S1:j < t.size:=by omega
   have å:kR t ds (bs.getD i 0) j=true->(mM (HB (ao t ds bs i++u9 t ds (bs.getD i 0) i j)) (PV.tup [.int (j:Int),.int (i:Int)])).run λs=>s=HB (ao t ds bs i++(u9 t ds (bs.getD i 0) i j++if kR t ds (bs.getD i 0) j=true then [(j,i)] else [])):=λc=>by
    rw[jc (by unfold HB;rw[Ag,Ah];omega),if_pos c];unfold HB;rw[<- Bc,A8 (l₂:=[(j,i)])];rfl
   have no:kR t ds (bs.getD i 0) j=false->HB (ao t ds bs i++u9 t ds (bs.getD i 0) i j)=HB (ao t ds bs i++(u9 t ds (bs.getD i 0) i j++if kR t ds (bs.getD i 0) j=true then [(j,i)] else [])):=λc=>by rw[c];simp
   generalize eb:bs.getD i 0=b at å no ⊢;generalize ed:ds.getD j 0=d at *;simp only[lc,ev,V6,kw,bF,aL,g8 (F4 t S1)];by_cases c:d<=b
   ·simp only[c,decide_true,if_true,ev,kw];rcases j5 t 0 j .aK [] S1 with⟨_,e,_⟩ | ⟨a,_,ha,e,_⟩
    ·have sb:kR t ds b j=true:=by unfold kR;rw[e,ed];simp[c]
     rw[e];simp only[vp,pA,kw,bF,PV.lx,if_true];exact å sb
    ·rw[Az]at e;have sb:kR t ds b j=decide (b < ds.getD a 0):=by unfold kR;rw[e,ed];simp[c]
     rw[e];have i2:df (bA ds) (a:Int)=some (.int (ds.getD a 0)):=int_at ∅;simp only[vp,pA,kw,bF,PV.lx,Aq,if_false,bX,i2,Fk,wA,lc];by_cases c2:b < ds.getD a 0
     ·rw[decide_eq_true c2]at sb ⊢;exact å sb
     ·rw[decide_eq_false c2]at sb ⊢;exact no sb
   ·have sb:kR t ds b j=false:=by unfold kR;rw[ed];simp[c]
    simp only[c,decide_false,Aq,if_false,kw];exact no sb
  ·subst hs;rw[bu,dR,hd];rfl
 ·subst hs;rw[bu,dR];exact q
def MR{l:O (Nat×Nat)}(h:l≠[])(k:Nat):kd k l≠[]:=by cases l with | nil=>exact absurd rfl h | cons a l=>simp[kd]
def xC(k:Nat)(l:O (Nat×Nat)):((kd k l).map λkv=>PV.tup (kv.1.map kP))=l.map λp=>PV.tup [.int (p.1:Int),.int (p.2:Int)]:=by
 have:=congrArg (Ey λx:O Key=>PV.tup (x.map kP)) (jl k l);rw[AM,AM]at this;exact this
theorem LQ{l:O (Nat×Nat)}(h1:es[j]?=some e)(h2:j < ds.length)(h3:n < bs.length)(hl:l.length<=1000)(h0:l≠[])
  (hb:∀x∈jN e j (ds.getD j 0) (bs.getD n 0),1<=n/\(x,n-1)∈l) :
  (jm (.tup (es.map Ent.pv)) (.tup (bA ds)) (.cl (bA bs)) (Kr (kd 0 l)) (.tup [.int (j:Int),.int (n:Int)])).le (.ret (m6 e l j n (ds.getD j 0) (bs.getD n 0))):=λQ q=>by
 unfold jm;have i0:df [PV.int (j:Int),PV.int (n:Int)] 0=some (.int j):=rfl;have i1:df [PV.int (j:Int),PV.int (n:Int)] 1=some (.int n):=rfl;have i2:df (bA ds) (j:Int)=some (.int (ds.getD j 0)):=int_at h2;have i3:df (bA bs) (n:Int)=some (.int (bs.getD n 0)):=int_at h3;have i4:df (es.map Ent.pv) (j:Int)=some e.pv:=eN (by rw[Aj,h1];rfl);simp only[lc,ev,aL,bW,bX,i0,i1,i2,i3,i4,Fk,kw,wA,bD];generalize hdj:ds.getD j 0=d at *;generalize hbn:bs.getD n 0=b at *;have below:∀{R:PV->Prop},R (.tup (aA (jN e j d b)))->(if decide (d < b)=true then ap (PV.tup [PV.int (j:Int)]) else cX e.pv).run R:=λ{R} r=>by
  unfold jN at r;unfold cX;by_cases c:d < b
  ·rw[if_pos c]at r;simpa[c]using r
  ·cases e with
   | word w=>simpa[c,Ent.pv]using r
   | pair a b=>simpa[c,Ent.pv]using r
 refine below ?_;refine eI (λx=>.int ((l.idxOf (x,n-1):Nat):Int)) (λk hk=>?_) ?_
 ·obtain⟨g1,g2⟩:=hb k hk;intro R r;have en1:(n:Int)-1=((n-1:Nat):Int):=by omega
  simp only[Sj,lc,ev,pw,kw,en1];rw[show PV.tup [.int (k:Int),.int ((n-1:Nat):Int)]=.tup ((oQ (k,n-1)).map kP) from rfl];refine FY (oA 0 l (k,n-1) g2) ?_;rw[Az];exact r
 simp only[ev,ym,kw];refine GL (MR h0 0) (by rw[vC];exact hl) ?_;rw[xC];refine xR (λp=>if (decide (p.2=n)&&!decide (p.1=j))=true then some (.int ((l.idxOf p:Nat):Int)) else bd) (λp hp=>?_) ?_
 ·intro R r;obtain⟨u,v⟩:=p;have j0:df [PV.int (u:Int),PV.int (v:Int)] 0=some (.int u):=rfl;have j1:df [PV.int (u:Int),PV.int (v:Int)] 1=some (.int v):=rfl;simp only[Sj,lc,ev,aL,bX,j0,j1,Fk,kw,i6,mG,bF];have get:∀{R:PV->Prop},R (.int ((l.idxOf (u,v):Nat):Int))->(XR (Kr (kd 0 l)) (PV.tup [.int (u:Int),.int (v:Int)])).run R:=λ{R} r=>by
   refine FY (oA 0 l (u,v) hp) ?_;rw[Az];exact r
  by_cases c1:v=n
  ·subst c1;by_cases c2:u=j
   ·subst c2;simp only[beq_self_eq_true,Cb,if_true,kw,Aq,if_false];simpa using r
   ·have c3:((u:Int)==(j:Int))=false:=by simp;omega
    simp only[beq_self_eq_true,c3,Fj,if_true,kw,ev];refine get ?_;simpa[c2]using r
  ·have c3:((v:Int)==(n:Int))=false:=by simp;omega
   simp only[c3,Aq,if_false,kw];simpa[c1]using r
 rw[Pk];have nm:∀{R:PV->Prop},R (pN e j)->(dw (.tup (es.map Ent.pv)) (.int (j:Int))).run R:=λ{R} r=>by
  unfold dw;simp only[lc,ev,aL,bX,i4,Fk,kw];cases e with
  | word w=>simpa[Ent.pv,pN]using r
  | pair a b=>simpa[Ent.pv,pN]using r
 refine nm ?_;have e1:(l.filter λp=>decide (p.2=n)&&!decide (p.1=j)).map (λp=>PV.int ((l.idxOf p:Nat):Int))=aA (Hv l j n):=by
  unfold aA Hv;rw[AM];rfl
 have e2:(jN e j d b).map (λx=>PV.int ((l.idxOf (x,n-1):Nat):Int))=aA ((jN e j d b).map λx=>l.idxOf (x,n-1)):=by
  unfold aA;rw[AM];rfl
 rw[e1,e2];exact q
def yA(t:Tr)(ds bs:O Int):O PV:=(ao t ds bs bs.length).map λp=>m6 (en t 0 p.1) (ao t ds bs bs.length) p.1 p.2 (ds.getD p.1 0) (bs.getD p.2 0)
def W8(t:Tr)(ds bs:O Int):Prop:=∀p∈ao t ds bs bs.length,∀x∈jN (en t 0 p.1) p.1 (ds.getD p.1 0) (bs.getD p.2 0),1<=p.2/\(x,p.2-1)∈ao t ds bs bs.length
theorem oB:∀(k:Nat) (l:O (Nat×Nat)),(l.zipIdx k).map (λp=>PV.tup [PV.tup [.int (p.1.1:Int),.int (p.1.2:Int)],.int ((p.2:Nat):Int)])=(kd k l).map zy
 | _,[]=>rfl
 | k,p::l=>by rw[List.zipIdx_cons,Ar,oB (k+1) l];rfl
def ak(t:Tr)(ds:O Int):O Int:=0::sortI (jQ t ds)
def rT(t:Tr)(ds:O Int):(jQ t ds).length<=t.size:=by
 unfold jQ splits;rw[Ag];have:=Ce (λj=>nr (en t 0 j)) (Av t.size);rw[CC]at this;exact this
def eQ{x:Int}{l:O Int}:x∈sortI l↔x∈l:=(B7 l _).mem_iff
def f6(l:O Int):(sortI l).length=l.length:=(B7 l _).length_eq
theorem Kx(t:Tr)(ds:O Int)(hd:ds.length=t.size)(hz:t.size<=25)(h0:ao t ds (ak t ds) (ak t ds).length≠[])(ok:W8 t ds (ak t ds)):(gU t.pv (.tup (bA ds))).le (.ret (.tup (yA t ds (ak t ds)))):=λQ q=>by
 unfold gU;simp only[lc,ev];refine W.le.use (oC t ∅) ?_;have hs:=rT t ds;have hl:(ak t ds).length<=t.size+1:=by unfold ak;rw[Au,f6];omega
 have e2:j7 (bA (jQ t ds))=.ret (bA (sortI (jQ t ds))):=by
  unfold j7 bA;rw[jt];show W.eB _ _=_;rw[tz ∅]
 have e3:KI [PV.int 0] (bA (sortI (jQ t ds)))=.ret (bA (ak t ds)):=by
  rw[KH (by rw[dR,f6];simp;omega)];rfl
 simp only[split_le t ds hd ∅,kw,e2,e3];have hb:(ak t ds).length*t.size<=900:=by
  have:(ak t ds).length*t.size<=26*25:=Ff ∅ hz;omega
 refine W.le.use (u5 t ds (ak t ds) hd ∅ hb ∅) ?_;generalize hL:ao t ds (ak t ds) (ak t ds).length=L at *;have hLl:L.length<=900:=by rw[<- hL];exact AQ (eU _ _ _ _) hb
 have hLm:∀p∈L,p.2 < (ak t ds).length/\p.1 < t.size:=λp hp=>eT (hL▸hp);have c:(HB L).length<=sizeLine:=br (by unfold HB;rw[Ag];omega);simp only[bW,kw,tz c,lc];unfold HB;rw[Ki];refine eI (λp:(Nat×Nat)×Nat=>PV.tup [PV.tup [.int (p.1.1:Int),.int (p.1.2:Int)],.int ((p.2:Nat):Int)]) (λp _ R r=>by simpa using r) ?_;rw[oB];refine He ?_ (by rw[vC];omega) ?_
 ·rw[jl];exact zC (λ_ _ h=>vR h) (hL▸gI t ds _ _)
 refine eI (λp:Nat×Nat=>m6 (en t 0 p.1) L p.1 p.2 (ds.getD p.1 0) ((ak t ds).getD p.2 0)) (λp hp=>?_) ?_
 ·obtain⟨g1,g2⟩:=hLm p hp;refine LQ (iQ t 0 p.1 g2) ∅ g1 ∅ h0 λx hx=>?_;have:=ok p (by rw[hL];exact hp) x hx;rw[hL]at this;exact this
 ·have:yA t ds (ak t ds)=L.map λp:Nat×Nat=>m6 (en t 0 p.1) L p.1 p.2 (ds.getD p.1 0) ((ak t ds).getD p.2 0):=by unfold yA;rw[hL]
  rw[<- this];exact q
end My
variable{x:Int}{l:O Int}
namespace My
theorem iq:∀(t:Tr) (o x:Nat) (p:V),x < t.size->(x=t.size-1/\eO t o x p=p)\/∃a u v,x < a/\a < t.size/\eO t o x p=.int ((o+a:Nat):Int)/\en t o a=.pair u v/\(u=o+x\/v=o+x)
 | .leaf _,o,x,p,h=>.inl ⟨by have:x < 1:=h;show x=0;omega,rfl⟩
 | .node l r,o,x,p,h=>by
  have es:(Tr.node l r).size=l.size+r.size+1:=rfl;have top:en (.node l r) o (l.size+r.size)=.pair (o+l.size-1) (o+l.size+r.size-1):=by rw[en,if_neg ∅,if_neg ∅]
  by_cases c1:x < l.size
  ·rw[show eO (.node l r) o x p=eO l o x (.int (o+l.size+r.size:Nat)) by rw[eO,if_pos c1]];rcases iq l o x (.int (o+l.size+r.size:Nat)) c1 with⟨h1,h2⟩ | ⟨a,u,v,h1,h2,h3,h4,h5⟩
   ·exact .inr ⟨l.size+r.size,_,_,by omega,by omega,by rw[h2,AL],top,.inl ∅⟩
   ·exact .inr ⟨a,u,v,h1,by omega,h3,by rw[en,if_pos h2];exact h4,h5⟩
  ·by_cases c2:x < l.size+r.size
   ·rw[show eO (.node l r) o x p=eO r (o+l.size) (x-l.size) (.int (o+l.size+r.size:Nat)) by rw[eO,if_neg c1,if_pos c2]];rcases iq r (o+l.size) (x-l.size) (.int (o+l.size+r.size:Nat)) ∅ with⟨h1,h2⟩ | ⟨a,u,v,h1,h2,h3,h4,h5⟩
    ·exact .inr ⟨l.size+r.size,_,_,by omega,by omega,by rw[h2,AL],top,.inr ∅⟩
    ·refine .inr ⟨l.size+a,u,v,by omega,by omega,by rw[h3,AL],?_,by omega⟩;rw[en,if_neg ∅,if_pos ∅,BZ];exact h4
   ·exact .inl ⟨by omega,by rw[eO,if_neg c1,if_neg c2]⟩
theorem mI:∀(t:Tr) (o j:Nat) (p:V) (a b:Nat),j < t.size->en t o j=.pair a b->o<=a/\o<=b/\a < o+j/\b < o+j/\a < b/\eO t o (a-o) p=.int ((o+j:Nat):Int)/\eO t o (b-o) p=.int ((o+j:Nat):Int)
 | .leaf _,o,j,p,a,b,h,e=>by rw[en]at e;cases e
 | .node l r,o,j,p,a,b,h,e=>by
  have es:(Tr.node l r).size=l.size+r.size+1:=rfl;have lp:=l.size_pos;have rp:=r.size_pos;by_cases c1:j < l.size
  ·rw[en,if_pos c1]at e;obtain⟨h1,h2,h3,h4,h5,h6,h7⟩:=mI l o j (.int (o+l.size+r.size:Nat)) a b c1 e;refine⟨h1,h2,h3,h4,h5,?_,?_⟩
   ·rw[eO,if_pos ∅];exact h6
   ·rw[eO,if_pos ∅];exact h7
  ·by_cases c2:j < l.size+r.size
   ·rw[en,if_neg c1,if_pos c2]at e;obtain⟨h1,h2,h3,h4,h5,h6,h7⟩:=mI r (o+l.size) (j-l.size) (.int (o+l.size+r.size:Nat)) a b ∅ e;refine⟨by omega,by omega,by omega,by omega,h5,?_,?_⟩
    ·rw[eO,if_neg ∅,if_pos ∅,Fe,h6,show o+l.size+(j-l.size)=o+j by omega]
    ·rw[eO,if_neg ∅,if_pos ∅,Fe,h7,show o+l.size+(j-l.size)=o+j by omega]
   ·rw[en,if_neg c1,if_neg c2]at e;injection e with e1 e2;subst e1;subst e2;have hj:j=l.size+r.size:=by omega
    subst hj;have á:∀(t:Tr) (o:Nat) (p:V),eO t o (t.size-1) p=p:=λt o p=>by
     have tp:=t.size_pos;rcases iq t o (t.size-1) p ∅ with⟨_,h⟩ | ⟨a,_,_,h1,h2,_⟩
     ·exact h
     ·omega
    refine⟨by omega,by omega,by omega,by omega,by omega,?_,?_⟩
    ·rw[eO,if_pos ∅,show o+l.size-1-o=l.size-1 by omega,á,AL]
    ·rw[eO,if_neg ∅,if_pos ∅,show o+l.size+r.size-1-o-l.size=r.size-1 by omega,á,AL]
structure DD(t:Tr)(ds:List Int):Prop where
 len:ds.length=t.size
 leaf:∀j w,j < t.size->en t 0 j=.word w->ds.getD j 0=0
 pair:∀j a b,j < t.size->en t 0 j=.pair a b->ds.getD a 0 < ds.getD j 0/\ds.getD b 0 < ds.getD j 0/\1<=ds.getD j 0
 nd:(jQ t ds).Nodup
def DD.of(h:Np t ds=true):DD t ds:=by
 unfold Np at h;rw[AJ,AJ,decide_eq_true_iff,decide_eq_true_iff]at h;obtain⟨h1,h2,h3⟩:=h;have h4:∀j,j < t.size->U3 t ds j=true:=λj hj=>Dr.mp h3 j (Ax.mpr hj);refine⟨h1,λj w hj e=>?_,λj a b hj e=>?_,h2⟩
 ·have:=h4 j hj;unfold U3 at this;rw[e]at this;exact eq_of_beq this
 ·have:=h4 j hj;unfold U3 at this;rw[e]at this;rw[AJ,AJ,AJ,decide_eq_true_iff,decide_eq_true_iff,decide_eq_true_iff,decide_eq_true_iff]at this;exact⟨this.1.1.1,this.1.1.2,this.1.2⟩
theorem DD.nn(D:DD t ds)(hj:j < t.size):0<=ds.getD j 0:=by
 cases e:en t 0 j with
 | word w=>rw[D.leaf j w hj e];exact Cj _
 | pair a b=>have:=(D.pair j a b hj e).2.2;omega
def DD.mem(D:DD t ds)(hj:j < t.size):ds.getD j 0∈ak t ds:=by
 cases e:en t 0 j with
 | word w=>rw[D.leaf j w hj e];exact .head _
 | pair a b=>
  refine AY _ (eQ.mpr ?_);exact AD.mpr ⟨j,AB.mpr ⟨Ax.mpr hj,by rw[e];rfl⟩,rfl⟩
theorem vc(l:O Int):(sortI l).Pairwise (·<=·):=(Ew (le:=λa b=>decide (a<=b)) (λa b c=>by simp;omega) (λa b=>by simp;omega) l).imp (by simp)
theorem DD.inc(D:DD t ds):(ak t ds).Pairwise (· < ·):=by
 unfold ak;refine BN.mpr ⟨λx hx=>?_,?_⟩
 ·have hx:=eQ.mp hx;unfold jQ splits at hx;obtain⟨j,hj,rfl⟩:=AD.mp hx;obtain⟨h1,h2⟩:=AB.mp hj;cases e:en t 0 j with
  | word w=>rw[e]at h2;cases h2
  | pair a b=>have:=(D.pair j a b (Ax.mp h1) e).2.2;omega
 ·have nd:(sortI (jQ t ds)).Nodup:=(B7 _ _).nodup_iff.mpr D.nd;exact(List.Pairwise.and (vc _) nd).imp λ⟨h1,h2⟩=>Int.lt_iff_le_and_ne.mpr ⟨h1,h2⟩
theorem oX(h:l.Pairwise (· < ·))(hn:n < l.length)(hx:x∈l)(lt:x < l.getD n 0):1<=n/\x<=l.getD (n-1) 0:=by
 obtain⟨i,hi,rfl⟩:=Fm hx;have gd:∀{k} (hk:k < l.length),l.getD k 0=l[k]:=λ{k} hk=>by rw[Am,Ad hk];rfl
 rw[gd hn]at lt;have c:i < n:=by
  rcases Fz i n with c | c
  ·exact c
  ·rcases Nat.eq_or_lt_of_le c with c | c
   ·subst c;omega
   ·have:=CN.mp h _ _ hn hi c;omega
 refine⟨by omega,?_⟩;rw[gd ∅];rcases Nat.eq_or_lt_of_le (show i<=n-1 by omega) with c2 | c2
 ·subst c2;exact Cj _
 ·have:=CN.mp h _ _ hi ∅ c2;omega
theorem tq(h:l.Pairwise (· < ·))(hn:n < l.length)(hi:i < n):l.getD i 0 < l.getD n 0:=by
 have gd:∀{k} (hk:k < l.length),l.getD k 0=l[k]:=λ{k} hk=>by rw[Am,Ad hk];rfl
 rw[gd hn,gd ∅];exact CN.mp h _ _ ∅ hn hi
theorem ba{t:Tr}{ds bs:O Int}:∀{m:Nat}{j n:Nat},(j,n)∈ao t ds bs m↔n < m/\j < t.size/\kR t ds (bs.getD n 0) j=true
 | 0,j,n=>by simp[ao]
 | m+1,j,n=>by
  rw[ao,Bs,ba];unfold u9;rw[AD]
  constructor
  ·rintro (⟨h1,h2,h3⟩ | ⟨k,hk,e⟩)
   ·exact⟨by omega,h2,h3⟩
   ·obtain⟨h1,h2⟩:=AB.mp hk;injection e with e1 e2;subst e1;subst e2;exact⟨by omega,Ax.mp h1,h2⟩
  ·rintro⟨h1,h2,h3⟩;by_cases c:n=m
   ·subst c;exact .inr ⟨j,AB.mpr ⟨Ax.mpr h2,h3⟩,rfl⟩
   ·exact .inl ⟨by omega,h2,h3⟩
theorem cW(hj:j < t.size):kR t ds b j=true↔ds.getD j 0<=b/\∀a,eO t 0 j .aK=.int ((a:Nat):Int)->b < ds.getD a 0:=by
 unfold kR;rw[AJ,decide_eq_true_iff];rcases iq t 0 j .aK hj with⟨_,e⟩ | ⟨a,u,v,_,ha,e,_,_⟩
 ·rw[e];exact⟨λh=>⟨h.1,λa z=>by cases z⟩,λh=>⟨h.1,rfl⟩⟩
 ·rw[Az]at e;rw[e];refine⟨λh=>⟨h.1,λa' z=>?_⟩,λh=>⟨h.1,?_⟩⟩
  ·injection z with z;have:a=a':=by omega
   subst this;simpa using h.2
  ·simpa using h.2 a rfl
theorem DD.ok(D:DD t ds):W8 t ds (ak t ds):=by
 rintro⟨j,n⟩ hp x hx;obtain⟨hn,hj,hs⟩:=ba.mp hp;obtain⟨qi,lV⟩:=(cW hj).mp hs;have inc:=D.inc;show 1<=n/\(x,n-1)∈_;unfold jN at hx;by_cases c:ds.getD j 0 < (ak t ds).getD n 0
 ·rw[if_pos c]at hx;have:x=j:=by simpa using hx
  subst this;obtain⟨g1,g2⟩:=oX inc hn (D.mem hj) c;have lt:=tq inc hn (show n-1 < n by omega);exact⟨g1,ba.mpr ⟨by omega,hj,(cW hj).mpr ⟨g2,λa e=>by have:=lV a e;omega⟩⟩⟩
 ·rw[if_neg c]at hx;cases e:en t 0 j with
  | word w=>rw[e]at hx;cases hx
  | pair a b=>
   rw[e]at hx;obtain⟨p1,p2,p3⟩:=D.pair j a b hj e;obtain⟨_,_,a1,a2,_,a3,a4⟩:=mI t 0 j .aK a b hj e;rw[Az,EK]at *;have hx:x=a\/x=b:=by simpa using hx
   have key:x < t.size/\ds.getD x 0 < ds.getD j 0/\eO t 0 x .aK=.int ((j:Nat):Int):=by
    rcases hx with rfl | rfl
    ·exact⟨by omega,p1,a3⟩
    ·exact⟨by omega,p2,a4⟩
   obtain⟨k1,k2,k3⟩:=key;obtain⟨g1,g2⟩:=oX inc hn (D.mem k1) ∅;have lt:=tq inc hn (show n-1 < n by omega);refine⟨g1,ba.mpr ⟨by omega,k1,(cW k1).mpr ⟨g2,λa' e'=>?_⟩⟩⟩;rw[k3]at e';injection e' with e';have:j=a':=by omega
   subst this;omega
theorem FT:∀(t:Tr) (o:Nat),∃w,en t o 0=.word w
 | .leaf w,o=>⟨w,rfl⟩
 | .node l r,o=>by rw[en,if_pos (show 0 < l.size from l.size_pos)];exact FT l o
theorem DD.ne(D:DD t ds):ao t ds (ak t ds) (ak t ds).length≠[]:=by
 intro z;have:(0,0)∈ao t ds (ak t ds) (ak t ds).length:=by
  obtain⟨w,e⟩:=FT t 0;refine ba.mpr ⟨by simp[ak],t.size_pos,(cW t.size_pos).mpr ⟨?_,λa ea=>?_⟩⟩
  ·rw[D.leaf 0 w t.size_pos e];exact Cj _
  ·rcases iq t 0 0 .aK t.size_pos with⟨_,e⟩ | ⟨a',u,v,_,ha,e,ep,_⟩
   ·rw[e]at ea;cases ea
   ·rw[e,Az]at ea;injection ea with ea;have:a'=a:=by omega
    subst this;have:=(D.pair a' u v ha ep).2.2;show(0:Int) < _;omega
 rw[z]at this;cases this
def pE(D:DD t ds)(hz:t.size<=25):(gU t.pv (.tup (bA ds))).le (.ret (.tup (yA t ds (ak t ds)))):=Kx t ds D.len hz D.ne D.ok
def P0(t:Tr):O PV:=(Av t.size).map λj=>.tup (aA (up t 0 j []))
@[simp] theorem LD(t:Tr):(P0 t).length=t.size:=by unfold P0;simp
def y7(t:Tr)(h:j < t.size):(P0 t)[j]?=some (.tup (aA (up t 0 j []))):=by unfold P0;simp[h]
theorem PZ(t:Tr):∀(k j:Nat),j+k+1=t.size->(up t 0 j []).length<=k+1:=λk=>by
 induction k using DK with
 | ind k ih=>
  intro j hj;rcases j5 t 0 j .aK [] ∅ with⟨q1,q2,q3⟩ | ⟨a,q1,q2,q3,q4⟩
  ·rw[q3];show 1<=k+1;omega
  ·rw[q4,Au];have:=ih (t.size-a-1) ∅ a ∅;omega
theorem TV(t:Tr)(h:j < t.size):(up t 0 j []).length<=t.size:=by
 have:=PZ t (t.size-j-1) j ∅;omega
def xf(t:Tr)(i:Nat):O PV:=(Av t.size).map λj=>if j+i < t.size then .tup [] else .tup (aA (up t 0 j []))
def nF(t:Tr)(i:Nat):(xf t i).length=t.size:=by unfold xf;simp
def y6(t:Tr)(i:Nat)(h:j < t.size)(c:¬j+i < t.size):(xf t i)[j]?=some (.tup (aA (up t 0 j []))):=by unfold xf;simp[h,c]
theorem LB(t:Tr)(i j:Nat)(h:j+i+1=t.size):(xf t i).set j (.tup (aA (up t 0 j [])))=xf t (i+1):=by
 apply B2;intro k;by_cases hk:k < t.size
 ·by_cases e:j=k
  ·subst e;rw[Cs (by rw[nF];exact hk),y6 t (i+1) hk ∅]
  ·rw[BU e];unfold xf;simp only[Aj,BI hk,BJ];by_cases c:k+i < t.size
   ·rw[if_pos c,if_pos ∅]
   ·rw[if_neg c,if_neg ∅]
 ·rw[AV (by rw[B5,nF];omega),AV (by rw[nF];omega)]
def TX(t:Tr):xf t 0=Ak t.size (.tup []):=by
 apply B2;intro k;unfold xf;by_cases hk:k < t.size
 ·simp[hk]
 ·simp[hk]
theorem LC(t:Tr):xf t t.size=P0 t:=by
 apply BH;intro j _;rw[if_neg ∅]
theorem Jp(t:Tr)(hz:t.size<=900):(gT t.pv).le (.ret (P0 t)):=λQ q=>by
 unfold gT;simp only[lc,ev];refine W.le.use (wU t hz) ?_;simp only[aL,kw];refine Jn (λ_=>.tup []) (λx hx=>rfl) ?_;have e0:(Tn t).map (λ_=>PV.tup [])=xf t 0:=by rw[List.map_const',F3,TX]
 have en:(((t.size:Nat):Int)-1 - -1).toNat=t.size:=by omega
 rw[e0];simp only[nQ,F3,lc,pw,kw,R7,NL,en];refine⟨⟨trivial,eP ∅ ∅⟩,?_⟩;show(dZ _ _ _).run _;refine hE (λi s=>s=xf t i) rfl (λi x s hx hs=>?_) (λs hs=>?_)
 ·subst hs;obtain⟨hi,rfl⟩:=rf hx;obtain⟨j,hj⟩:∃j:Nat,j=t.size-1-i:=⟨_,rfl⟩;have ej:(((t.size:Nat):Int)-1-(i:Int))=(j:Int):=by omega
  rw[ej];have S1:j < t.size:=by omega
  have Á:∀l:O PV,l.length<=900->.int (j:Int)::l=aA (up t 0 j [])->(am (addW (.tup [.int (j:Int)]) (.tup l)) λx=>jB (xf t i) (.int (j:Int)) x).run λs=>s=xf t (i+1):=λl hl he=>by
   rw[FP,tz (br (by simp;omega))];show(jB _ _ (.tup (.int (j:Int)::l))).run _;rw[he,nH (by rw[nF];exact S1),LB t i j ∅];rfl
  simp only[lc,ev,g8 (F4 t S1),kw];rcases j5 t 0 j .aK [] S1 with⟨_,e,e2⟩ | ⟨a,ha1,ha,e,e2⟩
  ·rw[e];simp only[vp,pA,PV.lx,bF,kw,if_true];have:=Á [] (by simp) (by rw[e2,Az];rfl);simpa using this
  ·rw[Az]at e;rw[e];have i2:zI (xf t i) (.int (a:Int))=.ret (.tup (aA (up t 0 a []))):=g8 (y6 t i ha ∅);simp only[vp,pA,PV.lx,bF,kw,Aq,if_false,i2,lc];have ua:=TV t ha;have:=Á (aA (up t 0 a [])) (by rw[gk];omega) (by rw[e2];simp);simpa using this
 ·subst hs;have el:(m7 (((t.size:Nat):Int)-1) t.size).length=t.size:=by unfold m7;simp
  rw[el,LC];exact q
def Tj(t:Tr)(j:Nat):O Nat:=(Av t.size).filter λk=>!decide (k∈up t 0 j [])&&!decide (j∈up t 0 k [])
theorem KZ(t:Tr)(hz:t.size<=900)(hj:j < t.size):(eJ (.cl (P0 t)) (.int (j:Int))).le (.ret (.tup (aA (Tj t j)))):=λQ q=>by
 unfold eJ;simp only[lc,ev,hJ,LD,lH,tz (eP (i:=0) (j:=(t.size:Int)) ∅ ∅),kw,Bd,mD];refine oM (λk=>!decide (k∈up t 0 j [])&&!decide (j∈up t 0 k [])) (λk hk=>?_) q;have hk:=Ax.mp hk;simp only[lc,bW,g8 (y7 t hj),g8 (y7 t hk),aL,tw,if_true];by_cases c1:k∈up t 0 j []
 ·simp[c1]
 ·by_cases c2:j∈up t 0 k []
  ·simp[c1,c2]
  ·simp[c1,c2]
def zN:Ent->O Nat
 | .word _=>[]
 | .pair a b=>[a,b]
def G1(e:Ent):cX e.pv=.ret (.tup (aA (zN e))):=by
 unfold cX;cases e with
 | word w=>simp[Ent.pv,zN]
 | pair a b=>simp[Ent.pv,zN]
def MW(h:es[j]?=some e):dw (.tup (es.map Ent.pv)) (.int (j:Int))=.ret (pN e j):=by
 have i1:zI (es.map Ent.pv) (.int (j:Int))=.ret e.pv:=g8 (by rw[Aj,h];rfl);unfold dw;cases e with
 | word w=>simp only[lc,aL,i1];rfl
 | pair a b=>simp only[lc,aL,i1];rfl
def grS(t:Tr)(j:Nat):PV:=.tup [pN (en t 0 j) j,.int 0,.tup (aA (zN (en t 0 j))),.tup (aA (Tj t j))]
def ZC(t:Tr):O PV:=(Av t.size).map (grS t)
theorem G3(t:Tr)(hz:t.size<=900):(k7 t.pv).le (.ret (.tup (ZC t))):=λQ q=>by
 unfold k7;simp only[lc,ev];refine W.le.use (oC t hz) ?_;refine W.le.use (Jp t hz) ?_;simp only[nQ,du,kw,lH,tz (eP (i:=0) (j:=(t.size:Int)) ∅ ∅),Bd,mD];unfold aA;refine eI (grS t) (λj hj R r=>?_) q;have hj:=Ax.mp hj;have i1:zI ((t.nd 0).map Ent.pv) (.int (j:Int))=.ret (en t 0 j).pv:=g8 (by rw[Aj,iQ t 0 j hj];rfl);simp only[MW (iQ t 0 j hj),lc,aL,i1,G1,ev,kw];exact W.le.use (KZ t hz hj) r
structure Sy where
 nm:PV
 lv:Nat
 un:List Nat
 be:List Nat
def Sy.pv(s:Sy):PV:=.tup [s.nm,.int (s.lv:Int),.tup (aA s.un),.tup (aA s.be)]
def Pj(g:O Sy):PV:=.tup (g.map Sy.pv)
def sy(g:O Sy)(i:Nat):Sy:=g.getD i ⟨.aK,0,[],[]⟩
def H0{g:O Sy}(h:i < g.length):g[i]?=some (sy g i):=by
 unfold sy;rw[Am,Ad h];rfl
def ND{g:O Sy}(h:i < g.length):zI (g.map Sy.pv) (.int (i:Int))=.ret (sy g i).pv:=g8 (by rw[Aj,H0 h];rfl)
def Nn(w:Str):PV->Bool
 | .str s=>s==w
 | _=>false
def hm(g:O Sy)(i:Nat)(w:Str):Bool:=(sy g i).un.isEmpty&&Nn w (sy g i).nm
inductive Lm(g:List Sy):Nat->Nat->Prop
 | refl (i:Nat):Lm g i i
 | step {i u j:Nat}:u∈(sy g i).un->Lm g u j->Lm g i j
structure WG(g:List Sy)(ws:List Str):Prop where
 pos:0 < g.length
 len:g.length<=300
 dn:∀i,i < g.length->∀u∈(sy g i).un,u < i
 HU:∀i,i < g.length->(sy g i).un.length<=2
 be:∀i,i < g.length->∀u∈(sy g i).be,u < g.length
 adx:∀i,i < g.length->(sy g i).be.length<=30
 nm:∀i,i < g.length->(∃s,(sy g i).nm=.str s)\/∃n,(sy g i).nm=.int n
 acI:∀w∈ws,∃i,i < g.length/\Lm g (g.length-1) i/\hm g i w=true
 rch:∀i,i < g.length->Lm g (g.length-1) i
def fa(F:O (O Bool))(j i:Nat):Bool:=(F.getD j []).getD i false
def Qa(s:Sy):df [s.nm,PV.int (s.lv:Int),.tup (aA s.un),.tup (aA s.be)] 2=some (.tup (aA s.un)):=(rfl)
def ht:Tr->Nat->Nat
 | .leaf _,_=>0
 | .node l r,j=>if j < l.size then ht l j else if j < l.size+r.size then ht r (j-l.size) else (Tr.node l r).depth
theorem zQ(t:Tr):ht t (t.size-1)=t.depth:=by
 cases t with
 | leaf _=>rfl
 | node l r=>
  have es:(Tr.node l r).size=l.size+r.size+1:=rfl;rw[ht,if_neg ∅,if_neg ∅]
theorem Pa:∀(t:Tr) (o j a b:Nat),j < t.size->en t o j=.pair a b->ht t (a-o) < ht t j/\ht t (b-o) < ht t j
 | .leaf _,o,j,a,b,h,e=>by rw[en]at e;cases e
 | .node l r,o,j,a,b,h,e=>by
  have es:(Tr.node l r).size=l.size+r.size+1:=rfl;have lp:=l.size_pos;have rp:=r.size_pos;by_cases c1:j < l.size
  ·rw[en,if_pos c1]at e;obtain⟨h1,h2,h3,h4,_⟩:=mI l o j .aK a b c1 e;have:=Pa l o j a b c1 e;have q1:∀x,x < l.size->ht (.node l r) x=ht l x:=λx hx=>by rw[ht,if_pos hx]
   rw[q1 (a-o) ∅,q1 (b-o) ∅,q1 j c1];exact this
  ·by_cases c2:j < l.size+r.size
   ·rw[en,if_neg c1,if_pos c2]at e;obtain⟨h1,h2,h3,h4,_⟩:=mI r (o+l.size) (j-l.size) .aK a b ∅ e;have:=Pa r (o+l.size) (j-l.size) a b ∅ e;have q1:∀x,¬x < l.size->x < l.size+r.size->ht (.node l r) x=ht r (x-l.size):=λx h1 h2=>by rw[ht,if_neg h1,if_pos h2]
    rw[q1 (a-o) ∅ ∅,q1 (b-o) ∅ ∅,q1 j c1 c2,Fe,Fe];exact this
   ·rw[en,if_neg c1,if_neg c2]at e;injection e with e1 e2;subst e1;subst e2;have er:(Tr.node l r).depth=max l.depth r.depth+1:=rfl;have ej:ht (.node l r) j=(Tr.node l r).depth:=by rw[ht,if_neg c1,if_neg c2]
    have e3:ht (.node l r) (o+l.size-1-o)=l.depth:=by rw[ht,if_pos ∅,show o+l.size-1-o=l.size-1 by omega,zQ]
    have e4:ht (.node l r) (o+l.size+r.size-1-o)=r.depth:=by rw[ht,if_neg ∅,if_pos ∅,show o+l.size+r.size-1-o-l.size=r.size-1 by omega,zQ]
    omega
theorem hU:∀(t:Tr) (o j:Nat) (w:Str),j < t.size->en t o j=.word w->w∈t.au
 | .leaf x,o,j,w,h,e=>by
  rw[en]at e;injection e with e;subst e;simp[Tr.au]
 | .node l r,o,j,w,h,e=>by
  have es:(Tr.node l r).size=l.size+r.size+1:=rfl;by_cases c1:j < l.size
  ·rw[en,if_pos c1]at e;exact CI _ (hU l o j w c1 e)
  ·by_cases c2:j < l.size+r.size
   ·rw[en,if_neg c1,if_pos c2]at e;exact AU _ (hU r _ (j-l.size) w ∅ e)
   ·rw[en,if_neg c1,if_neg c2]at e;cases e
theorem Dt.isD(D:Dt t ds [] d)(h:d<=99):Np t ds=true:=by
 unfold Np;rw[AJ,AJ,decide_eq_true_iff,decide_eq_true_iff];refine⟨D.len,?_,Dr.mpr λj hj=>?_⟩
 ·unfold jQ;have hp:(splits t).Pairwise (· < ·):=by unfold splits;exact List.Pairwise.filter _ Df
  rw[List.nodup_iff_pairwise_ne,CB];refine List.Pairwise.imp_of_mem (λ{x y} hx hy lt e=>?_) hp;obtain⟨x1,x2⟩:=AB.mp hx;obtain⟨y1,y2⟩:=AB.mp hy;have:=D.inj x y (Ax.mp x1) (Ax.mp y1) (by simp) (by simp) x2 y2 e;omega
 ·have hj':=Ax.mp hj;unfold U3;cases e:en t 0 j with
  | word w=>
   rw[D.zero j hj' (.inl (by rw[e];rfl))];rfl
  | pair a b=>
   obtain⟨_,_,h1,h2,h3,h4⟩:=D.up j hj' (by simp) a b e;show(decide (ds.getD a 0 < ds.getD j 0)&&decide (ds.getD b 0 < ds.getD j 0)&&decide (1<=ds.getD j 0)&&decide (ds.getD j 0<=99))=true;rw[decide_eq_true h1,decide_eq_true h2,decide_eq_true h3,decide_eq_true ∅];rfl
theorem pG:∀(t:Tr) (o:Nat),(t.nd o).countP nr+1=t.au.length
 | .leaf _,_=>rfl
 | .node l r,o=>by
  have h1:=pG l o;have h2:=pG r (o+l.size);rw[Tr.nd,Ct,Ct];show _+(List.countP nr [Ent.pair _ _])+1=(l.au++r.au).length;simp[nr];omega
theorem Q7(t:Tr):t.nd 0=(Av t.size).map (en t 0):=by
 refine B2 λj=>?_;by_cases h:j < t.size
 ·rw[iQ t 0 j h,Aj,BI h];rfl
 ·rw[AV (by rw[t.aZ];omega),AV (by simp;omega)]
def j6(t:Tr):(splits t).length+1=t.au.length:=by
 rw[<- pG t 0,Q7 t,DP];unfold splits;rw[<- Cu];rfl
def Lm.snoc{g:O Sy}{u:Nat}(r:Lm g i j)(hu:u∈(sy g j).un):Lm g i u:=by
 induction r with
 | refl i=>exact .step hu (.refl _)
 | step h _ ih=>exact .step h (ih hu)
def gS(t:Tr):O Sy:=(Av t.size).map λj=>⟨pN (en t 0 j) j,0,zN (en t 0 j),Tj t j⟩
def iY(t:Tr)(h:j < t.size):sy (gS t) j=⟨pN (en t 0 j) j,0,zN (en t 0 j),Tj t j⟩:=by
 unfold sy gS;rw[Am,Aj,BI h];rfl
@[simp] theorem ff(t:Tr):(gS t).length=t.size:=by unfold gS;simp
def VP(t:Tr):Pj (gS t)=.tup (ZC t):=by
 unfold Pj gS ZC;rw[AM];congr 1
def U8(e:Ent)(j:Nat):(∃s,pN e j=.str s)\/∃n,pN e j=.int n:=by
 cases e with
 | word w=>exact .inl ⟨w,rfl⟩
 | pair a b=>exact .inr ⟨_,rfl⟩
def RE(e:Ent):(zN e).length<=2:=by cases e <;> simp[zN]
theorem sS:∀(s:Tr) (t:Tr) (o:Nat) (w:Str),(∀k,k < s.size->en t 0 (o+k)=en s o k)->o+s.size<=t.size->w∈s.au->∃i,i < t.size/\Lm (gS t) (o+s.size-1) i/\en t 0 i=.word w
 | .leaf x,t,o,w,hs,hz,hw=>by
  have e0:en t 0 o=.word x:=hs 0 (by show 0 < 1;decide);have hz:o+1<=t.size:=hz;have:w=x:=by simpa[Tr.au]using hw
  subst this;exact⟨o,by omega,.refl _,e0⟩
 | .node l r,t,o,w,hs,hz,hw=>by
  have es:(Tr.node l r).size=l.size+r.size+1:=rfl;have er:en t 0 (o+(l.size+r.size))=.pair (o+l.size-1) (o+l.size+r.size-1):=by rw[hs _ ∅,en,if_neg ∅,if_neg ∅]
  have ei:o+(Tr.node l r).size-1=o+(l.size+r.size):=by omega
  have hl:∀k,k < l.size->en t 0 (o+k)=en l o k:=λk hk=>by rw[hs k ∅,en,if_pos hk]
  have hr:∀k,k < r.size->en t 0 (o+l.size+k)=en r (o+l.size) k:=λk hk=>by rw[AL,hs _ ∅,en,if_neg ∅,if_pos ∅,BZ]
  have un:(sy (gS t) (o+(l.size+r.size))).un=[o+l.size-1,o+l.size+r.size-1]:=by rw[iY t ∅,er];rfl
  rw[ei];rcases Bs.mp (show w∈l.au++r.au from hw) with hw | hw
  ·obtain⟨i,h1,h2,h3⟩:=sS l t o w hl ∅ hw;exact⟨i,h1,.step (by rw[un];simp) h2,h3⟩
  ·obtain⟨i,h1,h2,h3⟩:=sS r t (o+l.size) w hr ∅ hw;exact⟨i,h1,.step (by rw[un];simp) h2,h3⟩
theorem Gb(hz:t.size<=30):WG (gS t) t.au:=by
 have tp:=t.size_pos;have â:∀k i,i+k+1=t.size->Lm (gS t) (t.size-1) i:=λk=>by
  induction k using DK with
  | ind k ih=>
   intro i hk;rcases iq t 0 i .aK ∅ with⟨e,_⟩ | ⟨a,u,v,ia,ha,_,ep,Lg⟩
   ·rw[<- e];exact .refl _
   ·refine(ih (t.size-a-1) ∅ a ∅).snoc ?_;rw[iY t ha,ep];rw[Az]at Lg;rcases Lg with rfl | rfl <;> simp[zN]
 refine⟨by rw[ff];omega,by rw[ff];omega,λi hi u hu=>?_,λi hi=>?_,λi hi u hu=>?_,λi hi=>?_,λi hi=>?_,λw hw=>?_,λi hi=>by rw[ff]at hi ⊢;exact â (t.size-i-1) i ∅⟩
 ·rw[ff]at hi;rw[iY t hi]at hu;cases e:en t 0 i with
  | word w=>rw[e]at hu;cases hu
  | pair a b=>
   rw[e]at hu;have:=jy t hi e;have hu:u=a\/u=b:=by simpa[zN]using hu
   omega
 ·rw[ff]at hi;rw[iY t hi];exact RE _
 ·rw[ff]at hi ⊢;rw[iY t hi]at hu;exact Ax.mp (AB.mp hu).1
 ·rw[ff]at hi;rw[iY t hi];have:=Ce (λk=>!decide (k∈up t 0 i [])&&!decide (i∈up t 0 k [])) (Av t.size);rw[CC]at this;show(Tj t i).length<=30;unfold Tj;omega
 ·rw[ff]at hi;rw[iY t hi];exact U8 _ _
 ·obtain⟨i,h1,h2,h3⟩:=sS t t 0 w (λk hk=>by rw[Az]) ∅ hw;rw[Az]at h2;refine⟨i,by rw[ff];exact h1,by rw[ff];exact h2,?_⟩;unfold hm;rw[iY t h1,h3];simp[zN,pN,Nn]
def dS(t:Tr)(ds bs:O Int):O Sy:=(ao t ds bs bs.length).map λp=>⟨pN (en t 0 p.1) p.1,p.2,(jN (en t 0 p.1) p.1 (ds.getD p.1 0) (bs.getD p.2 0)).map λx=>(ao t ds bs bs.length).idxOf (x,p.2-1),Hv (ao t ds bs bs.length) p.1 p.2⟩
def Px(t:Tr)(ds bs:O Int):Pj (dS t ds bs)=.tup (yA t ds bs):=by
 unfold Pj dS yA;rw[AM];congr 1
@[simp] theorem yD(t:Tr)(ds bs:O Int):(dS t ds bs).length=(ao t ds bs bs.length).length:=by unfold dS;rw[Ag]
section
variable{t:Tr}{ds:O Int}
theorem DD.above(D:DD t ds){j n:Nat}(h:(j,n)∈ao t ds (ak t ds) (ak t ds).length)(hn:n+1 < (ak t ds).length):∃a,(a,n+1)∈ao t ds (ak t ds) (ak t ds).length/\j∈jN (en t 0 a) a (ds.getD a 0) ((ak t ds).getD (n+1) 0):=by
 obtain⟨hnl,hj,hs⟩:=ba.mp h;obtain⟨s1,s2⟩:=(cW hj).mp hs;have inc:=D.inc;have lt:=tq inc hn (show n < n+1 by omega);have Ü:(∀a,eO t 0 j .aK=.int ((a:Nat):Int)->(ak t ds).getD (n+1) 0 < ds.getD a 0)->∃a,(a,n+1)∈ao t ds (ak t ds) (ak t ds).length/\j∈jN (en t 0 a) a (ds.getD a 0) ((ak t ds).getD (n+1) 0):=λhx=>
  ⟨j,ba.mpr ⟨hn,hj,(cW hj).mpr ⟨by omega,hx⟩⟩,by unfold jN;rw[if_pos ∅];exact .head _⟩
 rcases iq t 0 j .aK hj with⟨_,e⟩ | ⟨a,u,v,ja,ha,e,ep,Lg⟩
 ·exact Ü λa z=>by rw[e]at z;cases z
 ·rw[Az]at e Lg;by_cases c:(ak t ds).getD (n+1) 0 < ds.getD a 0
  ·refine Ü λa' z=>?_;rw[e]at z;injection z with z;have:a=a':=by omega
   subst this;exact c
  ·have sa:=s2 a e;have eq:ds.getD a 0=(ak t ds).getD (n+1) 0:=by
    rcases Int.lt_or_eq_of_le (show ds.getD a 0<=(ak t ds).getD (n+1) 0 by omega) with c2 | c2
    ·have:=(oX inc hn (D.mem ha) c2).2;rw[Nat.add_sub_cancel]at this;omega
    ·exact c2
   refine⟨a,ba.mpr ⟨hn,ha,(cW ha).mpr ⟨by omega,λa2 e2=>?_⟩⟩,?_⟩
   ·rcases iq t 0 a .aK ha with⟨_,e3⟩ | ⟨a3,u3,v3,_,h3,e3,ZT,JL⟩
    ·rw[e3]at e2;cases e2
    ·rw[e3]at e2;injection e2 with e2;rw[Az]at e2 JL;have:a3=a2:=by omega
     subst this;have:=D.pair a3 u3 v3 h3 ZT;rcases JL with rfl | rfl <;> omega
   ·unfold jN;rw[if_neg ∅,ep];rcases Lg with rfl | rfl <;> simp
def oY[BEq α][LawfulBEq α]{l:List α}(nd:l.Nodup){x:α}(h:l[i]?=some x):l.idxOf x=i:=by
 obtain⟨hi,e⟩:=Al.mp h;rw[<- e];exact nd.idxOf_getElem i hi
def uo[BEq α][LawfulBEq α]{l:List α}{x:α}(h:x∈l):l[l.idxOf x]?=some x:=by
 have:=CD h;rw[Ad this,List.getElem_idxOf this]
end
inductive WT where
 | lf (p:List Nat) (i:Nat)
 | nd (p:List Nat) (i:Nat) (nm:Str) (a b:WT)
inductive Sm:Nat->PV->Prop
 | str {n:Nat}{s:Str}:Sm (n+1) (.str s)
 | int {n:Nat}{i:Int}:Sm (n+1) (.int i)
 | tup {n:Nat}{l:List PV}:(∀x∈l,Sm n x)->l.length<=900->Sm (n+1) (.tup l)
theorem uN:∀l:O PV,iH l l=l.map λx=>PV.tup [x,x]
 | []=>by rw[iH];rfl;simp
 | x::l=>by rw[iH,uN l];rfl
theorem same_self:∀{n:Nat}{x:PV},Sm n x->(a6 n x x).le (.ret (.bl true))
 | _,_,@Sm.str n s=>λQ q=>by
  unfold a6;have e:of2 kW (.str s) (.str s)=.ret (.bl true):=by rw[Kf,tz ⟨by simp,by simp,by simp⟩,V0];simp
  simp only[lc,ev,nS,NP,bD,kw,Aq,if_false,nR,if_true,Sb,beq_self_eq_true,FO,e];exact q
 | _,_,@Sm.int n i=>λQ q=>by
  unfold a6;simp only[lc,ev,Fl,NQ,NR,bD,kw,Aq,if_false,pA,PV.lx,bF,NS,NT,R6,Fj,FO,i6,beq_self_eq_true];exact q
 | _,_,@Sm.tup n l h hl=>λQ q=>by
  unfold a6;simp only[lc,ev,jx,NN,bD,kw,if_true,Cb,Aq,if_false,nQ,mG,beq_self_eq_true,bF,aL];refine⟨br ∅,?_⟩;show(cv (iH l l) _).run _;rw[uN];refine eI (λ_=>.bl true) (λx hx R r=>?_) ?_
  ·exact same_self (h x hx) R r
  ·have e:l.map (λ_=>PV.bl true)=(l.map λ_=>true).map PV.bl:=by rw[AM];rfl
   rw[e,F1];have e2:(l.map λ_=>true).all id=true:=by simp
   rw[e2];exact q
theorem Ie(hb:bs.length*t.size<=900):Sm 4 (.tup (yA t ds bs)):=by
 have hl:=eU t ds bs bs.length;refine .tup (λx hx=>?_) (by unfold yA;rw[Ag];omega);unfold yA at hx;obtain⟨p,hp,rfl⟩:=AD.mp hx;unfold m6;have nat:∀l:O Nat,l.length<=900->Sm 2 (.tup (aA l)):=λl h=>.tup (λy hy=>by
  obtain⟨k,_,rfl⟩:=AD.mp hy;exact .int) (by rw[gk];exact h)
 refine .tup (λy hy=>?_) (by simp);simp only[AH,Bj,or_false]at hy;rcases hy with rfl | rfl | rfl | rfl
 ·unfold pN;cases en t 0 p.1 with
  | word w=>exact .str
  | pair a b=>exact .int
 ·exact .int
 ·refine nat _ ?_;rw[Ag];unfold jN
  split
  ·simp
  ·cases en t 0 p.1 <;> simp
 ·refine nat _ ?_;unfold Hv;rw[Ag];exact AQ (Ce _ _) ∅
structure Hm(g' g:List Sy)(f:Nat->Nat)(ω:Str->Str):Prop where
 lt:∀i,i < g'.length->f i < g.length
 un:∀i,i < g'.length->(∃u,(sy g' i).un=[u]/\f u=f i)\/(sy g (f i)).un=(sy g' i).un.map f\/(sy g (f i)).un=((sy g' i).un.map f).reverse
 dn:∀i,i < g.length->∀u∈(sy g i).un,u < i
 be:∀i,i < g'.length->∀o∈(sy g' i).be,f o∈(sy g (f i)).be
 hom:∀i,i < g'.length->∀w,hm g' i w=true->hm g (f i) (ω w)=true
def pf(f:Nat->Nat):O Nat->Nat->O Nat
 | [],_=>[]
 | x::r,i=>if f x=f (r.headD i) then pf f r i else f x::pf f r i
def wm(f:Nat->Nat):WT->WT
 | .lf p i=>.lf (pf f p i) (f i)
 | .nd p i nm a b=>.nd (pf f p i) (f i) nm (wm f a) (wm f b)
def cm(ω:Str->Str):Tr->Tr
 | .leaf w=>.leaf (ω w)
 | .node l r=>.node (cm ω l) (cm ω r)
section
theorem DD.up(D:DD t ds):∀(k j:Nat),j+k+1=t.size->∀x∈up t 0 j [],ds.getD j 0<=ds.getD x 0:=λk=>by
 induction k using DK with
 | ind k ih=>
  intro j hk x hx;rcases j5 t 0 j .aK [] ∅ with⟨_,_,e⟩ | ⟨a,ja,at',ea,e⟩
  ·rw[e,Az]at hx;rw[A1.mp hx];exact Cj _
  ·rw[e,Az]at hx;rcases AH.mp hx with rfl | hx
   ·exact Cj _
   ·have h1:=ih (t.size-a-1) ∅ a ∅ x hx;rcases iq t 0 j .aK ∅ with⟨_,e3⟩ | ⟨a3,u3,v3,_,h3,e3,ZT,JL⟩
    ·rw[e3]at ea;cases ea
    ·rw[e3]at ea;injection ea with ea;rw[Az]at ea JL;have:a3=a:=by omega
     subst this;have:=D.pair a3 u3 v3 h3 ZT;rcases JL with rfl | rfl <;> omega
theorem DD.apart(D:DD t ds)(hj:j < t.size)(hk:k < t.size)(sj:kR t ds b j=true)(sk:kR t ds b k=true)(ne:k≠j):k∉My.up t 0 j []:=λhx=>by
 obtain⟨_,s2⟩:=(cW hj).mp sj;obtain⟨k1,_⟩:=(cW hk).mp sk;rcases j5 t 0 j .aK [] hj with⟨_,_,e⟩ | ⟨a,ja,at',ea,e⟩
 ·rw[e,Az]at hx;exact ne (A1.mp hx)
 ·rw[e,Az]at hx;rcases AH.mp hx with h | hx
  ·exact ne h
  ·have h1:=D.up (t.size-a-1) a ∅ k hx;have h2:=s2 a (by rw[ea,Az]);omega
def w6(L:O (Nat×Nat))(i:Nat):Nat:=(L.map (·.1)).getD i 0
def yc{L:O (Nat×Nat)}(h:L[i]?=some p):w6 L i=p.1:=by
 unfold w6;rw[Am,Aj,h];rfl
theorem JP(D:DD t ds)(hz:t.size<=15):Hm (dS t ds (ak t ds)) (gS t) (w6 (ao t ds (ak t ds) (ak t ds).length)) id:=by
 have ok:=D.ok;have iff:=@ba t ds (ak t ds) (ak t ds).length;have apart:=λb j k=>D.apart (b:=b) (j:=j) (k:=k);unfold W8 at ok;have hS:∀i p,(ao t ds (ak t ds) (ak t ds).length)[i]?=some p->sy (dS t ds (ak t ds)) i=⟨pN (en t 0 p.1) p.1,p.2,(jN (en t 0 p.1) p.1 (ds.getD p.1 0) ((ak t ds).getD p.2 0)).map λx=>(ao t ds (ak t ds) (ak t ds).length).idxOf (x,p.2-1),Hv (ao t ds (ak t ds) (ak t ds).length) p.1 p.2⟩:=λi p hp=>by
  unfold sy dS;rw[Am,Aj,hp];rfl
 have hL:(dS t ds (ak t ds)).length=(ao t ds (ak t ds) (ak t ds).length).length:=yD t ds _;generalize ao t ds (ak t ds) (ak t ds).length=L at *;have get:∀i,i < (dS t ds (ak t ds)).length->∃p,L[i]?=some p/\p∈L:=λi hi=>by
  rw[hL]at hi;exact⟨L[i],Ad hi,EA hi⟩
 refine⟨λi hi=>?_,λi hi=>?_,(Gb (show t.size<=30 by omega)).dn,λi hi o ho=>?_,λi hi w hw=>?_⟩ <;> obtain⟨⟨j,n⟩,hp,VA⟩:=get i hi <;> obtain⟨nl,hj,sj⟩:=iff.mp VA <;> rw[yc hp]
 ·rw[ff];exact hj
 ·have okp:=ok _ VA;rw[hS i _ hp,iY t hj];have fx:∀x,x∈jN (en t 0 j) j (ds.getD j 0) ((ak t ds).getD n 0)->w6 L (L.idxOf (x,n-1))=x:=λx hx=>yc (uo (okp x hx).2);revert fx;show(∀x,x∈jN (en t 0 j) j (ds.getD j 0) ((ak t ds).getD n 0)->w6 L (L.idxOf (x,n-1))=x)->(∃u,(jN (en t 0 j) j (ds.getD j 0) ((ak t ds).getD n 0)).map (λx=>L.idxOf (x,n-1))=[u]/\w6 L u=j)\/zN (en t 0 j)=((jN (en t 0 j) j (ds.getD j 0) ((ak t ds).getD n 0)).map λx=>L.idxOf (x,n-1)).map (w6 L)\/zN (en t 0 j)=(((jN (en t 0 j) j (ds.getD j 0) ((ak t ds).getD n 0)).map λx=>L.idxOf (x,n-1)).map (w6 L)).reverse;unfold jN
  split
  ·exact λfx=>.inl ⟨_,rfl,fx j (.head _)⟩
  ·cases en t 0 j with
   | word w=>exact λ_=>.inr (.inl rfl)
   | pair x y=>
    intro fx
    right;left
    show [x,y]=[w6 L (L.idxOf (x,n-1)),w6 L (L.idxOf (y,n-1))];rw[fx x (by simp),fx y (by simp)]
 ·rw[hS i _ hp]at ho;obtain⟨⟨k,m⟩,hx,rfl⟩:=AD.mp (show o∈Hv L j n from ho);obtain⟨xL,h2⟩:=AB.mp hx;simp at h2;obtain⟨rfl,kj⟩:=h2;obtain⟨_,hk,sk⟩:=iff.mp xL;rw[yc (uo xL),iY t hj];refine AB.mpr ⟨Ax.mpr hk,?_⟩;have a1:=apart _ _ _ hj hk sj sk kj;have a2:=apart _ _ _ hk hj sk sj (BD kj);simp[a1,a2]
 ·unfold hm at hw ⊢;rw[hS i _ hp]at hw;rw[iY t hj];revert hw;show((((jN (en t 0 j) j (ds.getD j 0) ((ak t ds).getD n 0)).map λx=>L.idxOf (x,n-1)).isEmpty&&Nn w (pN (en t 0 j) j))=true)->((zN (en t 0 j)).isEmpty&&Nn w (pN (en t 0 j) j))=true;unfold jN
  split
  ·intro h;cases h
  ·cases en t 0 j with
   | word x=>exact id
   | pair x y=>intro h;cases h
end
theorem tT:∀(t:Tr) (o j k:Nat) (w:Str),t.au.Nodup->j < t.size->k < t.size->en t o j=.word w->en t o k=.word w->j=k
 | .leaf _,o,j,k,w,_,hj,hk,_,_=>by
  have:j < 1:=hj;have:k < 1:=hk;omega
 | .node l r,o,j,k,w,nd,hj,hk,e1,e2=>by
  have es:(Tr.node l r).size=l.size+r.size+1:=rfl;obtain⟨n1,n2,n3⟩:=Dg.mp (show(l.au++r.au).Nodup from nd);have key:∀j,j < (Tr.node l r).size->en (.node l r) o j=.word w->(j < l.size/\en l o j=.word w)\/(¬j < l.size/\j < l.size+r.size/\en r (o+l.size) (j-l.size)=.word w):=λj hj e=>by
   rw[en]at e;by_cases c:j < l.size
   ·rw[if_pos c]at e;exact .inl ⟨c,e⟩
   ·rw[if_neg c]at e;by_cases c2:j < l.size+r.size
    ·rw[if_pos c2]at e;exact .inr ⟨c,c2,e⟩
    ·rw[if_neg c2]at e;cases e
  rcases key j hj e1 with⟨a1,a2⟩ | ⟨a1,a2,a3⟩ <;> rcases key k hk e2 with⟨b1,b2⟩ | ⟨b1,b2,b3⟩
  ·exact tT l o j k w n1 a1 b1 a2 b2
  ·exact absurd rfl (n3 w (hU l o j w a1 a2) w (hU r _ _ w ∅ b3))
  ·exact absurd rfl (n3 w (hU l o k w b1 b2) w (hU r _ _ w ∅ a3))
  ·have:=tT r _ (j-l.size) (k-l.size) w n2 ∅ ∅ a3 b3;omega
theorem JJ(nd:t.au.Nodup)(hj:j < t.size){w:Str}(e:en t 0 j=.word w):Nv ((t.nd 0).map Ent.pv) (.str w)=.ret (.int (j:Int)):=by
 have gt:∀k (h:k < ((t.nd 0).map Ent.pv).length),((t.nd 0).map Ent.pv)[k]=(en t 0 k).pv:=λk h=>by
  have:=Ad h;rw[Aj,iQ t 0 k (by rw[du]at h;exact h)]at this;exact(Option.some.inj this).symm
 have fq:∀k,gD (en t 0 k).pv (.str w)=true->en t 0 k=.word w:=λk h=>by
  cases c:en t 0 k with
  | word x=>rw[c]at h;simp[Ent.pv]at h;rw[h]
  | pair a b=>rw[c]at h;simp[Ent.pv,gD]at h
 have hl:j < ((t.nd 0).map Ent.pv).length:=by rw[du];exact hj
 have ok:GW (.str w) ((t.nd 0).map Ent.pv):=⟨by simp,iZ.mpr λx hx=>by
  obtain⟨q,_,rfl⟩:=AD.mp hx;cases q <;> simp[Ent.pv],AQ (i5 (n:=2) λx hx=>by
  obtain⟨q,_,rfl⟩:=AD.mp hx;cases q <;> simp[Ent.pv]) ⋯⟩
 have pj:gD ((t.nd 0).map Ent.pv)[j] (.str w)=true:=by rw[gt j hl,e];simp[Ent.pv]
 have hs:nv (.str w) ((t.nd 0).map Ent.pv)=true:=ED.mpr ⟨_,EA hl,pj⟩;unfold Nv;rw[tz ⟨ok,hs⟩];have:qg (.str w) ((t.nd 0).map Ent.pv)=j:=by
  unfold qg;refine(List.findIdx_eq hl).mpr ⟨pj,λk hk=>?_⟩;cases c:gD ((t.nd 0).map Ent.pv)[k] (.str w) with
  | false=>rfl
  | true=>
   rw[gt k ∅]at c;have:=tT t 0 k j w nd (by rw[du]at hl;omega) hj (fq k c) e;omega
 rw[this]
theorem GY(g:pM t):(dD t.pv (Pj (dS t ds bs))).le (.ret (aA ((ao t ds bs bs.length).map (·.1)))):=λQ q=>by
 have hz:=g.size;have hd:=g.depth;unfold dD Pj dS;simp only[lc,ev];refine W.le.use (gw 12 t ∅ ∅) ?_;simp only[aL,kw];rw[AM];refine eI (λp=>.int (p.1:Int)) (λp hp R r=>?_) ?_
 ·have hj:=(eT hp).2;have k0:∀(x:PV) (l:O PV),df (x::l) 0=some x:=λ_ _=>eN (j:=0) rfl;simp only[Function.comp,Sy.pv,aL,lc,bX,k0,Fk,NM];cases e:en t 0 p.1 with
  | word w=>
   simp only[pN,nS,nR,lc,bD,if_true,JJ g.nd hj e];exact r
  | pair a b=>
   simp only[pN,Fl,lc];exact r
 ·have e:((ao t ds bs bs.length).map λp=>PV.int (p.1:Int))=aA ((ao t ds bs bs.length).map (·.1)):=by unfold aA;rw[AM];rfl
  rw[e];exact q
def Jl{H:O Nat}(h:k < H.length):zI (aA H) (.int (k:Int))=.ret (.int ((H.getD k 0:Nat):Int)):=g8 (by
 unfold aA;rw[Aj,Am,Ad h];rfl)
def tu(ω:Str->Str):Tr->Tr
 | .leaf w=>.leaf (ω w)
 | .node l r=>.node (tu ω r) (tu ω l)
def om(w:Str):Str:=("w":Str)++Eo w bd (some 7)
theorem qE(ω:Str->Str):∀t:Tr,(tu ω t).au=(t.au.map ω).reverse
 | .leaf _=>rfl
 | .node l r=>by
  show(tu ω r).au++(tu ω l).au=((l.au++r.au).map ω).reverse;rw[qE ω l,qE ω r,A8,DR]
theorem cx(ω:Str->Str):∀t:Tr,(cm ω t).size=t.size
 | .leaf _=>rfl
 | .node l r=>by
  show(cm ω l).size+(cm ω r).size+1=l.size+r.size+1;rw[cx ω l,cx ω r]
end My
variable{y:Int}{g:Int->Int}
namespace My
structure fu(ds:List Int)(f:Int->Int):Prop where
 z:f 0=0
 lt:∀x y,(x=0\/x∈ds)->(y=0\/y∈ds)->x < y->f x < f y
def fU(ds:O Int)(j:Nat):ds.getD j 0=0\/ds.getD j 0∈ds:=by
 rw[Am];cases h:ds[j]? with
 | none=>exact .inl rfl
 | some x=>exact .inr (A5 h)
section
variable{f:Int->Int}
theorem fu.iff(o:fu ds f)(hx:x=0\/x∈ds)(hy:y=0\/y∈ds):f x < f y↔x < y:=by
 refine⟨λh=>?_,o.lt x y hx hy⟩;rcases Int.lt_trichotomy x y with c | c | c
 ·exact c
 ·subst c;omega
 ·have:=o.lt y x hy hx c;omega
theorem fu.le(o:fu ds f)(hx:x=0\/x∈ds)(hy:y=0\/y∈ds):f x<=f y↔x<=y:=by
 have:=o.iff hy hx;omega
def fu.gd(o:fu ds f)(l:O Int)(j:Nat):(l.map f).getD j 0=f (l.getD j 0):=by
 rw[Am,Am,Aj];cases l[j]? with
 | none=>exact o.z.symm
 | some x=>rfl
def jh(h:x∈jQ t ds):x=0\/x∈ds:=by
 obtain⟨j,_,rfl⟩:=AD.mp h;exact fU ds j
def fu.sp(o:fu ds f):jQ t (ds.map f)=(jQ t ds).map f:=by
 unfold jQ;rw[AM];exact BH λj _=>o.gd ds j
def fu.sort(o:fu ds f)(h:∀x∈l,x=0\/x∈ds):sortI (l.map f)=(sortI l).map f:=by
 refine(vd ((B7 l _).map f) ?_).symm;rw[CB];exact(vc l).imp_of_mem λ{a b} ha hb NA=>(o.le (h a (eQ.mp ha)) (h b (eQ.mp hb))).mpr NA
theorem fu.ak(o:fu ds f):ak t (ds.map f)=(ak t ds).map f:=by
 unfold My.ak;rw[o.sp,o.sort (λx hx=>jh hx),Ar,o.z]
def KP(h:x∈ak t ds):x=0\/x∈ds:=by
 unfold ak at h;rcases AH.mp h with h | h
 ·exact .inl h
 ·exact jh (eQ.mp h)
def F0(n:Nat):(ak t ds).getD n 0=0\/(ak t ds).getD n 0∈ds:=by
 rcases fU (ak t ds) n with h | h
 ·exact .inl h
 ·exact KP h
theorem fu.dd(o:fu ds f)(D:DD t ds):DD t (ds.map f):=by
 refine⟨by rw[Ag];exact D.len,λj w hj e=>by rw[o.gd,D.leaf j w hj e,o.z],λj a b hj e=>?_,?_⟩
 ·obtain⟨h1,h2,h3⟩:=D.pair j a b hj e;rw[o.gd,o.gd,o.gd];have h4:=o.lt 0 _ (.inl rfl) (fU ds j) (show(0:Int) < ds.getD j 0 by omega);rw[o.z]at h4;exact⟨o.lt _ _ (fU ds a) (fU ds j) h1,o.lt _ _ (fU ds b) (fU ds j) h2,by omega⟩
 ·rw[o.sp];refine CB.mpr (List.Pairwise.imp_of_mem (λ{a b} ha hb ne e=>ne ?_) D.nd);have h1:=o.le (jh ha) (jh hb);have h2:=o.le (jh hb) (jh ha);omega
def fu.st(o:fu ds f)(hb:b=0\/b∈ds)(j:Nat):kR t (ds.map f) (f b) j=kR t ds b j:=by
 unfold kR;rw[o.gd,decide_eq_decide.mpr (o.le (fU ds j) hb)];congr 1
 split
 ·rw[o.gd,decide_eq_decide.mpr (o.iff hb (fU ds _))]
 ·rfl
def fu.OE(o:fu ds f):∀m,ao t (ds.map f) ((My.ak t ds).map f) m=ao t ds (My.ak t ds) m
 | 0=>rfl
 | m+1=>by
  rw[ao,ao,o.OE m];congr 1;unfold u9;rw[o.gd];congr 1;exact Ci λj _=>o.st (F0 m) j
def fu.dg(o:fu ds f):yA t (ds.map f) (My.ak t (ds.map f))=yA t ds (My.ak t ds):=by
 unfold yA;rw[o.ak,Ag,o.OE];refine BH λp _=>?_;unfold m6 jN;rw[o.gd,o.gd];have:=o.iff (fU ds p.1) (F0 (t:=t) p.2);by_cases c:ds.getD p.1 0 < (My.ak t ds).getD p.2 0
 ·rw[if_pos c,if_pos (this.mpr c)]
 ·rw[if_neg c,if_neg λz=>c (this.mp z)]
theorem DD.pos(D:DD t ds):ds.filter (λx=>decide (0 < x))=jQ t ds:=by
 have e:ds=(Av t.size).map λj=>ds.getD j 0:=by
  apply B2;intro i;rw[Aj];by_cases h:i < t.size
  ·rw[BI h,BJ,Am,Ad (by rw[D.len];exact h)];rfl
  ·rw[AV (by rw[D.len];omega),AV (by rw[CC];omega)];rfl
 have e2:ds.filter (λx=>decide (0 < x))=((Av t.size).map λj=>ds.getD j 0).filter λx=>decide (0 < x):=by rw[<- e]
 rw[e2,List.filter_map];unfold jQ splits;congr 1;refine Ci λj hj=>?_;have hj:=Ax.mp hj;show decide (0 < ds.getD j 0)=_;cases h:en t 0 j with
 | word w=>simp only[D.leaf j w hj h];rfl
 | pair a b=>
  have:=(D.pair j a b hj h).2.2;rw[decide_eq_true ∅];rfl
end
def IX(g:Int->Int)(l:O Int):O (Key×PV):=(.inl 0,.int 0)::l.map λx=>(.inl x,.int (g x))
def Mt(h0:x≠0)(h:x∉l):wg (IX g l) (.inl x)=false:=by
 unfold wg IX;rw[Ca,List.any_map];have e1:decide ((CU 0:Key)=CU x)=false:=decide_eq_false λz=>h0 (Ds z).symm;rw[e1,Bool.false_or,Eh];intro y hy;simp only[Function.comp,decide_eq_true_eq];intro z;exact h ((Ds z)▸hy)
theorem IW:d9 (IX g l) (.inl 0)=some (.int 0):=rfl
def Mu(h0:x≠0):∀{l:O Int},x∈l->d9 (IX g l) (.inl x)=some (.int (g x)):=λ{l} h=>by
 unfold d9 IX;have e1:decide ((CU 0:Key)=CU x)=false:=decide_eq_false λz=>h0 (Ds z).symm;rw[Bb,e1];show Option.map _ (List.find? _ (l.map _))=_
 induction l with
 | nil=>cases h
 | cons y l ih=>
  rw[Ar,Bb];by_cases c:y=x
  ·subst c;rw[decide_eq_true rfl];rfl
  ·rw[decide_eq_false λz=>c (Ds z)];exact ih ((AH.mp h).elim (λz=>absurd z.symm c) id)
def OI(Ï:O Int)(i:Nat)(s:PV×O (Key×PV)):Prop:=∃(g:Int->Int) (d:Int),0<=d/\s=(.int d,IX g (Ï.take i))/\(∀x∈Ï.take i,0 < g x/\g x<=d)/\∀x y,x∈Ï.take i->y∈Ï.take i->x < y->g x < g y
theorem Gy(D:DD t ds)(hz:t.size<=60)(q:∀f,fu ds f->Q (.tup (bA (ds.map f)))):(bM (.tup (bA ds))).run Q:=by
 unfold bM;simp only[lc,ev,aL,kw];have inc:=D.inc;unfold ak at inc;obtain⟨Vm,YV⟩:=BN.mp inc;have Lh:=rT t ds;have hsl:=f6 (jQ t ds);have e1:gA (bA ds) (λp3=>sV ((of2 Q1 p3 (.int 0)).bind Sz) (ap p3))=.ret (bA (jQ t ds)):=by
  rw[<- D.pos];unfold bA;have:∀l:O Int,gA (l.map PV.int) (λp3=>sV ((of2 Q1 p3 (.int 0)).bind Sz) (ap p3))=.ret ((l.filter λx=>decide (0 < x)).map PV.int):=λl=>by
   induction l with
   | nil=>rfl
   | cons x l ih=>
    rw[Ar,gA,ih,CM];by_cases c:0 < x
    ·simp[c]
    ·simp[c]
  exact this ds
 have e2:j7 (bA (jQ t ds))=.ret (bA (sortI (jQ t ds))):=by
  unfold j7 bA;rw[jt];show W.eB _ _=_;rw[tz ∅]
 have e3:Sg [(0,0)]=IX id []:=rfl;simp only[e1,kw,e2,bW,e3];have mem:∀x∈ds,x≠0->x∈sortI (jQ t ds):=λx hx hx0=>by
  obtain⟨j,hj,e⟩:=Fm hx;have e:ds.getD j 0=x:=by rw[Am,Ad hj];exact e
  have:=D.nn (j:=j) (by rw[<- D.len];exact hj);rw[eQ,<- D.pos];exact AB.mpr ⟨hx,decide_eq_true ∅⟩
 generalize sortI (jQ t ds)=Ï at *;have abT:Ï.length<=60:=by omega
 refine hE (OI Ï) ⟨id,0,Cj _,by rw[List.take_zero],by simp,by simp⟩ (λi x s hx hI=>?_) (λs hI=>?_)
 ·obtain⟨g,d,d0,rfl,h1,h2⟩:=hI;unfold bA at hx;rw[Aj]at hx;cases ho:Ï[i]? with
  | none=>rw[ho]at hx;cases hx
  | some o=>
  rw[ho]at hx;have hx:=Option.some.inj hx;subst hx;have hi:i < Ï.length:=(Al.mp ho).1;have et:Ï.take (i+1)=Ï.take i++[o]:=by rw[Fg,ho];rfl
  have below:∀y∈Ï.take i,y < o:=λy hy=>by
   have hp:(Ï.take i++[o]).Pairwise (· < ·):=by rw[<- et];exact List.Pairwise.sublist (List.take_sublist _ _) YV
   exact(List.pairwise_append.mp hp).2.2 y hy o (by simp)
  have o0:(0:Int) < o:=Vm o (A5 ho);simp only[lc,ev,dG,cJ 14 ⋯ ⋯,kw];refine bx λk k0 k1=>?_;simp only[dG,kw,QB,z9,lc];refine⟨by unfold IX;rw[Au,Ag,Cc];exact D8 (m:=62) ∅ ⋯,?_⟩;have ep:xq (IX g (Ï.take i)) (.inl o) (.int (d+1+k))=IX (λy=>if y=o then d+1+k else g y) (Ï.take (i+1)):=by
   unfold xq;rw[if_neg (by rw[Mt ∅ λz=>by have:=below o z;omega];simp),et];unfold IX;rw[List.cons_append,A8];congr 2
   ·exact BH λy hy=>by show _=(CU y,PV.int (if y=o then d+1+k else g y));rw[if_neg (by have:=below y hy;omega)]
   ·simp
  show OI Ï (i+1) (.int (d+1+k),xq _ _ _);rw[ep];refine⟨_,d+1+k,by omega,rfl,λy hy=>?_,λy z hy hz hyz=>?_⟩
  ·show 0 < (if y=o then d+1+k else g y)/\_;by_cases c:y=o
   ·rw[if_pos c];omega
   ·rw[if_neg c];rw[et]at hy;have:=h1 y ((Bs.mp hy).elim id λz=>absurd (A1.mp z) c);omega
  ·show(if y=o then d+1+k else g y) < if z=o then d+1+k else g z
   have my:y=o\/y∈Ï.take i:=by rw[et]at hy;exact(Bs.mp hy).elim .inr λz=>.inl (A1.mp z)
   have mz:z=o\/z∈Ï.take i:=by rw[et]at hz;exact(Bs.mp hz).elim .inr λz=>.inl (A1.mp z)
   rcases my with rfl | my <;> rcases mz with rfl | mz
   ·omega
   ·have:=below z mz;omega
   ·have:=below y my;rw[if_neg ∅,if_pos rfl];have:=(h1 y my).2;omega
   ·have a:=below y my;have b:=below z mz;rw[if_neg ∅,if_neg ∅];exact h2 y z my mz hyz
 ·obtain⟨g,d,d0,rfl,h1,h2⟩:=hI;rw[dR,List.take_length]at *;have nn:∀x∈ds,x≠0->0 < x:=λx hx h=>Vm x (mem x hx h);have of:fu ds λx=>if x=0 then 0 else g x:=by
   refine⟨rfl,λx y hx hy hxy=>?_⟩;show(if x=0 then 0 else g x) < if y=0 then 0 else g y
   by_cases c1:x=0
   ·subst c1;rw[if_pos rfl,if_neg ∅];rcases hy with hy | hy
    ·omega
    ·exact(h1 y (mem y hy ∅)).1
   ·rw[if_neg c1];have hx:=hx.elim (λz=>absurd z c1) id;have px:=nn x hx c1;have hy:=hy.elim (λz=>(by omega:y∈ds)) id;rw[if_neg ∅];exact h2 x y (mem x hx c1) (mem y hy ∅) hxy
  have q:=q _ of;show(cv (ds.map PV.int) _).run _;refine eI (λx=>.int (if x=0 then 0 else g x)) (λx hx R r=>?_) ?_
  ·simp only[z9,lc];by_cases c:x=0
   ·subst c;rw[IW];exact r
   ·rw[Mu c (mem x hx c)];rw[if_neg c]at r;exact r
  ·rw[ym,kw];unfold bA at q;rw[AM]at q;exact q
end My
variable{o:Nat}{f:Nat->Bool}{p:L2.V}{r l:My.Tr}
namespace My
def NJ(ds:O Int)(b:Int):V->Bool
 | .int a=>decide (b < ds.getD a.toNat 0)
 | _=>true
def pU(ds:O Int)(b:Int)(t:Tr)(o:Nat)(p:V)(j:Nat):Bool:=decide (ds.getD (o+j) 0<=b)&&NJ ds b (eO t o j p)
def uI(ds:O Int)(b:Int)(t:Tr)(o j:Nat):Bool:=nr (en t o j)&&decide (ds.getD (o+j) 0<=b)
def DU(ds:O Int):Tr->Nat->Prop
 | .leaf _,o=>ds.getD o 0=0
 | .node l r,o=>DU ds l o/\DU ds r (o+l.size)/\ds.getD (o+l.size-1) 0 < ds.getD (o+l.size+r.size) 0/\ds.getD (o+l.size+r.size-1) 0 < ds.getD (o+l.size+r.size) 0
def mK(f:Nat->Bool)(n:Nat):Nat:=(Av n).countP f
def wM{m:Nat}:mK f (m+k+1)=mK f m+mK (λj=>f (m+j)) k+(if f (m+k)=true then 1 else 0):=by
 unfold mK;rw[CV,Ct,List.range_add,Ct,DP,List.countP_singleton];rfl
def eR{g:Nat->Bool}(h:∀j,j < n->f j=g j):mK f n=mK g n:=List.countP_congr λj hj=>by rw[h j (Ax.mp hj)]
section
def Yn(h:j < l.size):pU ds b (.node l r) o p j=pU ds b l o (.int ((o+l.size+r.size:Nat):Int)) j:=by unfold pU;rw[eO,if_pos h]
theorem Ym(h:j < r.size):pU ds b (.node l r) o p (l.size+j)=pU ds b r (o+l.size) (.int ((o+l.size+r.size:Nat):Int)) j:=by
 unfold pU;rw[eO,if_neg ∅,if_pos ∅,BZ,<- AL o l.size j]
theorem Yl:pU ds b (.node l r) o p (l.size+r.size)=(decide (ds.getD (o+l.size+r.size) 0<=b)&&NJ ds b p):=by
 unfold pU;rw[eO,if_neg ∅,if_neg ∅,AL]
def Yq(h:j < l.size):uI ds b (.node l r) o j=uI ds b l o j:=by unfold uI;rw[en,if_pos h]
theorem Yp(h:j < r.size):uI ds b (.node l r) o (l.size+j)=uI ds b r (o+l.size) j:=by
 unfold uI;rw[en,if_neg ∅,if_pos ∅,BZ,<- AL o l.size j]
theorem Yo:uI ds b (.node l r) o (l.size+r.size)=decide (ds.getD (o+l.size+r.size) 0<=b):=by
 unfold uI;rw[en,if_neg ∅,if_neg ∅,AL];rfl
def yE:mK (pU ds b (.node l r) o p) (Tr.node l r).size=mK (pU ds b l o (.int ((o+l.size+r.size:Nat):Int))) l.size+mK (pU ds b r (o+l.size) (.int ((o+l.size+r.size:Nat):Int))) r.size+(if (decide (ds.getD (o+l.size+r.size) 0<=b)&&NJ ds b p)=true then 1 else 0):=by
 show mK _ (l.size+r.size+1)=_;rw[wM,Yl,eR λj hj=>Yn hj,eR (f:=λj=>pU ds b (.node l r) o p (l.size+j)) λj hj=>Ym hj]
def Kz:mK (uI ds b (.node l r) o) (Tr.node l r).size=mK (uI ds b l o) l.size+mK (uI ds b r (o+l.size)) r.size+(if decide (ds.getD (o+l.size+r.size) 0<=b)=true then 1 else 0):=by
 show mK _ (l.size+r.size+1)=_;rw[wM,Yo,eR λj hj=>Yq hj,eR (f:=λj=>uI ds b (.node l r) o (l.size+j)) λj hj=>Yp hj]
def tP:NJ ds b (.int ((a:Nat):Int))=decide (b < ds.getD a 0):=by show decide (b < ds.getD (Int.toNat (a:Int)) 0)=_;rw[Bd]
theorem HH:∀(t:Tr) (o:Nat) (p:V),DU ds t o->ds.getD (o+t.size-1) 0<=b->(NJ ds b p=false->mK (pU ds b t o p) t.size=0)/\mK (uI ds b t o) t.size+1=t.au.length
 | .leaf w,o,p,h,hr=>by
  refine⟨λhp=>?_,rfl⟩;show mK _ 1=0;have:pU ds b (.leaf w) o p 0=false:=by unfold pU;rw[eO,hp,Cp]
  unfold mK;simp[CV,this]
 | .node l r,o,p,h,hr=>by
  obtain⟨h1,h2,h3,h4⟩:=h;have hr:ds.getD (o+l.size+r.size) 0<=b:=by
   have:o+(Tr.node l r).size-1=o+l.size+r.size:=by show o+(l.size+r.size+1)-1=_;omega
   rw[this]at hr;exact hr
  have top:NJ ds b (.int ((o+l.size+r.size:Nat):Int))=false:=by rw[tP];exact decide_eq_false ∅
  obtain⟨a1,a2⟩:=HH l o (.int ((o+l.size+r.size:Nat):Int)) h1 ∅;obtain⟨c1,c2⟩:=HH r (o+l.size) (.int ((o+l.size+r.size:Nat):Int)) h2 ∅;refine⟨λhp=>?_,?_⟩
  ·rw[yE,a1 top,c1 top,hp,Cp];rfl
  ·rw[Kz,if_pos (decide_eq_true hr)];show _=(l.au++r.au).length;rw[Ah];omega
theorem Sr(hb:0<=b):∀(t:Tr) (o:Nat) (p:V),DU ds t o->NJ ds b p=true->mK (pU ds b t o p) t.size+mK (uI ds b t o) t.size=t.au.length
 | .leaf w,o,p,h,hp=>by
  show mK _ 1+mK _ 1=1;have h:ds.getD o 0=0:=h;have e1:pU ds b (.leaf w) o p 0=true:=by unfold pU;rw[eO,hp,Bool.and_true,Nat.add_zero];exact decide_eq_true ∅
  have e2:uI ds b (.leaf w) o 0=false:=rfl;unfold mK;simp[CV,e1,e2]
 | .node l r,o,p,h,hp=>by
  by_cases c:ds.getD (o+l.size+r.size) 0<=b
  ·have hz:=HH (b:=b) (.node l r) o p h (by
    have:o+(Tr.node l r).size-1=o+l.size+r.size:=by show o+(l.size+r.size+1)-1=_;omega
    rw[this];exact c)
   obtain⟨h1,h2,h3,h4⟩:=h;have top:NJ ds b (.int ((o+l.size+r.size:Nat):Int))=false:=by rw[tP];exact decide_eq_false ∅
   have a1:=(HH (b:=b) l o (.int ((o+l.size+r.size:Nat):Int)) h1 ∅).1 top;have c1:=(HH (b:=b) r (o+l.size) (.int ((o+l.size+r.size:Nat):Int)) h2 ∅).1 top;have e:mK (pU ds b (.node l r) o p) (Tr.node l r).size=1:=by rw[yE,a1,c1,hp,decide_eq_true c];rfl
   have:=hz.2;omega
  ·obtain⟨h1,h2,h3,h4⟩:=h;have top:NJ ds b (.int ((o+l.size+r.size:Nat):Int))=true:=by rw[tP];exact decide_eq_true ∅
   have a1:=Sr hb l o (.int ((o+l.size+r.size:Nat):Int)) h1 top;have c1:=Sr hb r (o+l.size) (.int ((o+l.size+r.size:Nat):Int)) h2 top;rw[yE,Kz,decide_eq_false c];show _+_+0+(_+_+0)=(l.au++r.au).length;rw[Ah];omega
end
theorem zL:∀{l:O Int}{n:Nat},l.Pairwise (· < ·)->n < l.length->l.countP (λx=>decide (x<=l.getD n 0))=n+1
 | [],_,_,h=>absurd h (Nat.not_lt_zero _)
 | a::l,0,h,_=>by
  rw[EC];have:l.countP (λx=>decide (x<=(a::l).getD 0 0))=0:=Fo.mpr λx hx=>by
   have:=(BN.mp h).1 x hx;simp;omega
  rw[this];simp
 | a::l,n+1,h,hn=>by
  obtain⟨h1,h2⟩:=BN.mp h;have hn:n < l.length:=by simpa using hn
  have ih:=zL h2 hn;have e:(a::l).getD (n+1) 0=l.getD n 0:=by simp
  rw[e,EC,ih];have hm:l.getD n 0∈l:=by rw[Am,Ad hn];exact EA hn
  have:=h1 _ hm;rw[if_pos (decide_eq_true ∅)]
section
variable{t:Tr}{ds:O Int}
theorem Kt:∀(s:Tr) (o:Nat),(∀k,k < s.size->en t 0 (o+k)=en s o k)->o+s.size<=t.size->DD t ds->DU ds s o
 | .leaf w,o,h,hz,D=>by
  have hz:o+1<=t.size:=hz;exact D.leaf o w ∅ (h 0 (Nat.zero_lt_one))
 | .node l r,o,h,hz,D=>by
  have es:(Tr.node l r).size=l.size+r.size+1:=rfl;have lp:=l.size_pos;have rp:=r.size_pos;have e:=h (l.size+r.size) ∅;rw[en,if_neg ∅,if_neg ∅]at e;obtain⟨d1,d2,_⟩:=D.pair (o+(l.size+r.size)) _ _ ∅ e;refine⟨Kt l o (λk hk=>?_) ∅ D,Kt r (o+l.size) (λk hk=>?_) ∅ D,by rw[AL o l.size r.size];exact d1,?_⟩
  ·rw[h k ∅,en,if_pos hk]
  ·rw[AL,h (l.size+k) ∅,en,if_neg ∅,if_pos ∅,BZ]
  ·rw[AL o l.size r.size]at d2 ⊢;exact d2
theorem DD.slice(D:DD t ds){n:Nat}(hn:n < (ak t ds).length):((Av t.size).filter (kR t ds ((ak t ds).getD n 0))).length+n=t.au.length:=by
 have inc:=D.inc;have hb:0<=(ak t ds).getD n 0:=by
  cases n with
  | zero=>exact Cj _
  | succ n=>have:=tq inc hn (show 0 < n+1 by omega);exact Int.le_of_lt this
 have h1:=Sr hb t 0 .aK (Kt t 0 (λk _=>by rw[Az]) ∅ D) rfl;have h2:mK (uI ds ((ak t ds).getD n 0) t 0) t.size=n:=by
  have h3:=zL inc hn;generalize (ak t ds).getD n 0=b at *;unfold ak at h3;rw[EC,if_pos (decide_eq_true hb)]at h3;have h4:(sortI (jQ t ds)).countP (λx=>decide (x<=b))=(jQ t ds).countP λx=>decide (x<=b):=(B7 (jQ t ds) _).countP_eq _;rw[h4]at h3;unfold jQ splits at h3;rw[DP,List.countP_filter]at h3;have:mK (uI ds b t 0) t.size=(Av t.size).countP λj=>((λx=>decide (x<=b))∘λx=>ds.getD x 0) j&&nr (en t 0 j):=eR λj _=>by
   unfold uI;rw[Az,Bool.and_comm];rfl
  omega
 have h5:((Av t.size).filter (kR t ds ((ak t ds).getD n 0))).length=mK (pU ds ((ak t ds).getD n 0) t 0 .aK) t.size:=by
  rw[<- Cu];refine eR λj _=>?_;unfold kR pU;rw[Az];cases eO t 0 j .aK <;> rfl
 omega
end
def ce(ω:Str->Str):Ent->Ent
 | .word w=>.word (ω w)
 | .pair a b=>.pair a b
section
variable{ω:Str->Str}
theorem q8:∀(t:Tr) (o j:Nat),en (cm ω t) o j=ce ω (en t o j)
 | .leaf _,_,_=>rfl
 | .node l r,o,j=>by
  rw[cm,en,en,cx,cx,q8 l,q8 r]
  split
  ·rfl
  ·split <;> rfl
theorem yO:∀(t:Tr) (o j:Nat) (p:V),eO (cm ω t) o j p=eO t o j p
 | .leaf _,_,_,_=>rfl
 | .node l r,o,j,p=>by rw[cm,eO,eO,cx,cx,yO l,yO r]
def qH(t:Tr):splits (cm ω t)=splits t:=by
 unfold splits;rw[cx];refine Ci λj _=>?_;rw[q8];cases en t 0 j <;> rfl
def N7(t:Tr)(ds:O Int):ak (cm ω t) ds=ak t ds:=by unfold ak jQ;rw[qH]
def Qd(t:Tr)(ds:O Int)(b:Int)(j:Nat):kR (cm ω t) ds b j=kR t ds b j:=by unfold kR;rw[yO]
theorem u7(t:Tr)(ds bs:O Int):∀m,ao (cm ω t) ds bs m=ao t ds bs m
 | 0=>rfl
 | m+1=>by
  rw[ao,ao,u7 t ds bs m];unfold u9;rw[cx,Ci λj _=>Qd t ds _ j]
def DD.cm(D:DD t ds):DD (My.cm ω t) ds:=by
 refine⟨by rw[cx];exact D.len,λj w hj e=>?_,λj a b hj e=>?_,by unfold jQ;rw[qH];exact D.nd⟩
 ·rw[cx]at hj;rw[q8]at e;cases h:en t 0 j with
  | word x=>exact D.leaf j x hj h
  | pair a b=>rw[h]at e;cases e
 ·rw[cx]at hj;rw[q8]at e;cases h:en t 0 j with
  | word x=>rw[h]at e;cases e
  | pair x y=>rw[h]at e;cases e;exact D.pair j a b hj h
def Yv(ω:Str->Str):PV->PV
 | .str w=>.str (ω w)
 | x=>x
def Si(t:Tr)(ds bs:O Int):yA (cm ω t) ds bs=(ao t ds bs bs.length).map λp=>.tup [Yv ω (pN (en t 0 p.1) p.1),.int (p.2:Int),.tup (aA ((jN (en t 0 p.1) p.1 (ds.getD p.1 0) (bs.getD p.2 0)).map λx=>(ao t ds bs bs.length).idxOf (x,p.2-1))),.tup (aA (Hv (ao t ds bs bs.length) p.1 p.2))]:=by
 unfold yA;rw[u7];refine BH λp _=>?_;unfold m6;rw[q8];cases h:en t 0 p.1 with
 | word w=>rfl
 | pair a b=>rfl
end
def PX:Ent->Option PV
 | .word w=>some (.str w)
 | _=>bd
theorem k6:∀(t:Tr) (o:Nat),(t.nd o).filterMap PX=t.au.map PV.str
 | .leaf w,o=>rfl
 | .node l r,o=>by
  rw[Tr.nd,EZ,EZ,k6 l,k6 r];show _++_++[]=(l.au++r.au).map _;rw[CW,A8]
def Lc(ws:O Str):O (Key×PV):=(ws.map λw=>(Ea w:Key)).zip (ws.map λw=>PV.str (om w))
theorem rK:∀{ws:O Str}{w:Str},w∈ws->d9 (Lc ws) (.inr w)=some (.str (om w))
 | x::ws,w,h=>by
  unfold Lc d9;rw[Ar,Ar,List.zip_cons_cons,Bb];by_cases c:x=w
  ·subst c;rw[decide_eq_true rfl];rfl
  ·rw[decide_eq_false λz=>c (FJ z)];exact rK ((AH.mp h).elim (λz=>absurd z.symm c) id)
theorem yZ:∀{ws:O Str}{i:Int},d9 (Lc ws) (.inl i)=bd
 | [],_=>rfl
 | x::ws,i=>by
  unfold Lc d9;rw[Ar,Ar,List.zip_cons_cons,Bb,decide_eq_false (by simp)];exact yZ (ws:=ws)
theorem IV:∀(n:Nat) (t:Tr),t.depth < n->(∀w∈t.au,w∈ws)->(aD n t.pv (N2 (Lc ws))).le (.ret (cm om t).pv)
 | 0,_,h,_=>absurd h (Nat.not_lt_zero _)
 | n+1,.leaf w,h,hw=>λQ r=>by
  unfold aD;simp only[Tr.pv,lc,nS,nR,bD,if_true,Sj];exact N3 (k:=.inr w) (rK (hw w (by simp[Tr.au]))) r
 | n+1,.node l r,h,hw=>λQ k=>by
  have i0:df [l.pv,r.pv] 0=some l.pv:=rfl;have i1:df [l.pv,r.pv] 1=some r.pv:=rfl;have Nz:max l.depth r.depth+1 < n+1:=h;unfold aD;simp only[Tr.pv,lc,jx,lI,bD,Aq,if_false,aL,bX,i0,i1,Fk,ev];refine W.le.use (IV n l ∅ λw hx=>hw w (CI _ hx)) ?_;refine W.le.use (IV n r ∅ λw hx=>hw w (AU _ hx)) ?_;exact k
theorem Il(l:List α)(d:α):(Av l.length).map (λk=>l.getD k d)=l:=by
 apply B2;intro i;by_cases h:i < l.length
 ·rw[Aj,BI h,BJ,Am,Ad h];rfl
 ·rw[AV (by simp;omega),AV ∅]
def zX(l:List α)(d:α)(c:α->Bool):l.filter c=((Av l.length).filter λk=>c (l.getD k d)).map λk=>l.getD k d:=by
 have:l.filter c=((Av l.length).map λk=>l.getD k d).filter c:=by rw[Il]
 rw[this,List.filter_map];rfl
theorem rg(t:Tr)(ds bs:O Int)(n:Nat):∀m,(ao t ds bs m).countP (λp=>decide (p.2=n))=if n < m then ((Av t.size).filter (kR t ds (bs.getD n 0))).length else 0
 | 0=>by simp[ao]
 | m+1=>by
  rw[ao,Ct,rg t ds bs n m];unfold u9;rw[DP];by_cases c:n=m
  ·subst c;rw[if_neg ∅,if_pos ∅,Az];rw[List.countP_eq_length.mpr];intro a _;simp
  ·have z:List.countP ((λp:Nat×Nat=>decide (p.2=n))∘λk=>(k,m)) ((Av t.size).filter (kR t ds (bs.getD m 0)))=0:=Fo.mpr λa _=>by simp;omega
   rw[z,Nat.add_zero];by_cases c2:n < m
   ·rw[if_pos c2,if_pos ∅]
   ·rw[if_neg c2,if_neg ∅]
theorem xB{l:O Nat}{k0:Nat}(nd:l.Nodup)(hm:k0∈l)(h:∀x∈l,x=k0):l.length=1:=by
 match l,nd,hm,h with
 | [],_,hm,_=>cases hm
 | [x],_,_,_=>rfl
 | x::y::r,nd,_,h=>
  exfalso;have e1:=h x (by simp);have e2:=h y (by simp);have:=(BN.mp nd).1 y (by simp);omega
section
variable{t:Tr}{ds:O Int}
def KO(ha:a < t.size)(h:j∈jN (en t 0 a) a d b):a=j\/eO t 0 j .aK=.int ((a:Nat):Int):=by
 unfold jN at h
 split at h
 ·exact .inl (A1.mp h).symm
 ·cases e:en t 0 a with
  | word w=>rw[e]at h;cases h
  | pair u v=>
   rw[e]at h;obtain⟨_,_,_,_,_,h1,h2⟩:=mI t 0 a .aK u v ha e;rw[EK,Az]at h1 h2;have h:j=u\/j=v:=by simpa using h
   rcases h with rfl | rfl
   ·exact .inr h1
   ·exact .inr h2
theorem DD.one(D:DD t ds){j a a' n:Nat}(ha:(a,n)∈ao t ds (ak t ds) (ak t ds).length)(ha':(a',n)∈ao t ds (ak t ds) (ak t ds).length){d d' b b':Int}(h:j∈jN (en t 0 a) a d b)(h':j∈jN (en t 0 a') a' d' b'):a=a':=by
 obtain⟨_,h1,s1⟩:=ba.mp ha;obtain⟨_,h2,s2⟩:=ba.mp ha';obtain⟨l1,u1⟩:=(cW h1).mp s1;obtain⟨l2,u2⟩:=(cW h2).mp s2;rcases KO h1 h with rfl | e1 <;> rcases KO h2 h' with e2 | e2
 ·exact e2.symm
 ·have:=u1 _ e2;omega
 ·subst e2;have:=u2 _ e1;omega
 ·rw[e1]at e2;injection e2 with e2;omega
def Wr{i:Nat}{p:Nat×Nat}(hp:(ao t ds (ak t ds) (ak t ds).length)[i]?=some p):sy (dS t ds (ak t ds)) i=⟨pN (en t 0 p.1) p.1,p.2,(jN (en t 0 p.1) p.1 (ds.getD p.1 0) ((ak t ds).getD p.2 0)).map λx=>(ao t ds (ak t ds) (ak t ds).length).idxOf (x,p.2-1),Hv (ao t ds (ak t ds) (ak t ds).length) p.1 p.2⟩:=by
 unfold sy dS;rw[Am,Aj,hp];rfl
structure Z2(t:Tr)(G:List Sy)(i:Nat):Prop where
 len:((Av G.length).filter λk=>decide ((sy G k).lv=(sy G i).lv)).length+(sy G i).lv=t.au.length
 be:(sy G i).be=((Av G.length).filter λk=>decide ((sy G k).lv=(sy G i).lv)).filter λk=>!decide (k=i)
 abl:((Av G.length).filter λk=>decide (i∈(sy G k).un)).length=if (sy G i).lv+1 < t.au.length then 1 else 0
 abv:∀k∈(Av G.length).filter (λk=>decide (i∈(sy G k).un)),(sy G k).lv=(sy G i).lv+1
theorem DD.Yr(D:DD t ds)(hi:i < (dS t ds (ak t ds)).length):Z2 t (dS t ds (ak t ds)) i:=by
 have hbl:(ak t ds).length=t.au.length:=by
  have:=j6 t;unfold ak;rw[Au,f6];unfold jQ;rw[Ag];exact this
 have one:=@DD.one t ds D;have abo:=@DD.above t ds D;have ok:=D.ok;unfold W8 at ok;have sl:=@DD.slice t ds D;have cl:=rg t ds (ak t ds);have hS:=@Wr t ds;have Zx:(dS t ds (ak t ds)).length=(ao t ds (ak t ds) (ak t ds).length).length:=yD t ds _;have nd:=gI t ds (ak t ds) (ak t ds).length;have iff:=@ba t ds (ak t ds) (ak t ds).length;have cl:=λn=>cl n (ak t ds).length;generalize hG:dS t ds (ak t ds)=G at *;generalize hL:ao t ds (ak t ds) (ak t ds).length=L at *;have hiL:i < L.length:=by omega
 obtain⟨⟨j,n⟩,hp⟩:∃p,L[i]?=some p:=⟨L[i],Ad hiL⟩;have VA:=A5 hp;obtain⟨hn,hj,_⟩:=iff.mp VA;have es:=hS hp;have lvk:∀k,k < L.length->(sy G k).lv=(L.getD k (0,0)).2:=λk hk=>by
  have Lk:L[k]?=some (L.getD k (0,0)):=by rw[Am,Ad hk];rfl
  rw[hS Lk]
 have XO:(sy G i).lv=n:=by rw[es]
 have fl:((Av G.length).filter λk=>decide ((sy G k).lv=(sy G i).lv))=(Av L.length).filter λk=>decide ((L.getD k (0,0)).2=n):=by
  rw[Zx,XO];exact Ci λk hk=>by rw[lvk k (Ax.mp hk)]
 have un:∀k,k < L.length->(i∈(sy G k).un↔∃a,L[k]?=some (a,n+1)/\j∈jN (en t 0 a) a (ds.getD a 0) ((ak t ds).getD (n+1) 0)):=λk hk=>by
  obtain⟨⟨a,m⟩,Lk⟩:∃p,L[k]?=some p:=⟨L[k],Ad hk⟩;rw[hS Lk]
  constructor
  ·intro h;obtain⟨x,hx,e⟩:=AD.mp h;obtain⟨m1,xm⟩:=ok (a,m) (A5 Lk) x hx;have:=uo xm;rw[e,hp]at this;injection this with this;injection this with e1 e2;have em:m=n+1:=by simp only at e2 m1;omega
   subst em;subst e1;exact⟨a,Lk,hx⟩
  ·rintro⟨a',h1,h2⟩;rw[Lk]at h1;injection h1 with h1;injection h1 with e1 e2;subst e1;subst e2;refine AD.mpr ⟨j,h2,?_⟩;show L.idxOf (j,n+1-1)=i;rw[Nat.add_sub_cancel];exact oY nd hp
 refine⟨?_,?_,?_,λk hk=>?_⟩
 ·rw[fl,XO];have e:((Av L.length).filter λk=>decide ((L.getD k (0,0)).2=n)).length=L.countP λp=>decide (p.2=n):=by
   rw[Cu,zX L (0,0),Ag]
  rw[e,cl n,if_pos hn];exact sl hn
 ·rw[fl,es];show Hv L j n=_;unfold Hv;rw[zX L (0,0),AM,List.filter_filter];have e:∀k,k < L.length->((λp=>L.idxOf p)∘λk=>L.getD k (0,0)) k=k:=λk hk=>oY nd (by show _=some (L.getD k (0,0));rw[Am,Ad hk];rfl);have e2:((Av L.length).filter λk=>(λp:Nat×Nat=>decide (p.2=n)&&!decide (p.1=j)) (L.getD k (0,0)))=(Av L.length).filter λk=>!decide (k=i)&&decide ((L.getD k (0,0)).2=n):=by
   refine Ci λk hk=>?_;have hk:=Ax.mp hk;have Lk:L[k]?=some (L.getD k (0,0)):=by rw[Am,Ad hk];rfl
   by_cases c:(L.getD k (0,0)).2=n
   ·have:(L.getD k (0,0)).1=j↔k=i:=by
     constructor
     ·intro h;have e3:L.getD k (0,0)=(j,n):=Prod.ext h c;rw[e3]at Lk;rw[<- oY nd Lk,oY nd hp]
     ·intro h;subst h;rw[Lk]at hp;exact congrArg Prod.fst (Option.some.inj hp)
    show(decide _&&!decide _)=_;rw[decide_eq_decide.mpr this,Bool.and_comm]
   ·show(decide _&&!decide _)=_;rw[decide_eq_false c,D9,Cp]
  rw[e2];have e3:∀l:O Nat,(∀k∈l,k < L.length)->l.map ((λp=>L.idxOf p)∘λk=>L.getD k (0,0))=l:=λl hl=>by
   have:=BH (l:=l) (g:=id) λk hk=>e k (hl k hk);rw[this,List.map_id]
  exact e3 _ λk hk=>Ax.mp (AB.mp hk).1
 ·rw[XO,<- hbl,Zx];by_cases c:n+1 < (ak t ds).length
  ·rw[if_pos c];obtain⟨a,ha,hb⟩:=abo VA c;have hk:=uo ha;have kl:L.idxOf (a,n+1) < L.length:=CD ha;refine xB (k0:=L.idxOf (a,n+1)) (List.Pairwise.filter _ List.nodup_range) (AB.mpr ⟨Ax.mpr kl,decide_eq_true ((un _ kl).mpr ⟨a,hk,hb⟩)⟩) λx hx=>?_;obtain⟨x1,x2⟩:=AB.mp hx;obtain⟨a',h1,h2⟩:=(un x (Ax.mp x1)).mp (of_decide_eq_true x2);have:=one (A5 h1) ha h2 hb;subst this;exact(oY nd h1).symm
  ·rw[if_neg c];rw[Ez,List.filter_eq_nil_iff];intro x hx Vv;obtain⟨a',h1,h2⟩:=(un x (Ax.mp hx)).mp (of_decide_eq_true Vv);exact c (iff.mp (A5 h1)).1
 ·rw[Zx]at hk;obtain⟨x1,x2⟩:=AB.mp hk;obtain⟨a',h1,h2⟩:=(un k (Ax.mp x1)).mp (of_decide_eq_true x2);rw[XO,hS h1]
end
theorem Gk(D:DD t ds)(g:pM t)(hb:(ak t ds).length<=16):(bH t.pv (Pj (dS t ds (ak t ds)))).le (.ret (.bl true)):=λQ q=>by
 have hz:=g.size;have hd:=g.depth;have M:=JP D ∅;have gl:(dS t ds (ak t ds)).length=(ao t ds (ak t ds) (ak t ds).length).length:=yD t ds _;have hl:(dS t ds (ak t ds)).length<=240:=by
  rw[gl];refine AQ (eU _ _ _ _) ?_;have:(ak t ds).length*t.size<=16*15:=Ff hb ∅;omega
 have ok:=λi hi=>D.Yr (i:=i) hi;unfold bH;simp only[lc,ev];refine W.le.use (G3 t ∅) ?_;refine W.le.use (GY g) ?_;refine W.le.use (gw 12 t ∅ ∅) ?_;rw[<- VP];refine xR PX (λe _ R r=>?_) ?_
 ·cases e with
  | word w=>simpa[Ent.pv,PX]using r
  | pair a b=>simpa[Ent.pv,PX]using r
 rw[k6];have w6:∀k,w6 (ao t ds (ak t ds) (ak t ds).length) k=((ao t ds (ak t ds) (ak t ds).length).map (·.1)).getD k 0:=λ_=>rfl;have hHl:((ao t ds (ak t ds) (ak t ds).length).map (·.1)).length=(dS t ds (ak t ds)).length:=by rw[Ag,gl]
 generalize (ao t ds (ak t ds) (ak t ds).length).map (·.1)=Hs at *;generalize My.w6 (ao t ds (ak t ds) (ak t ds).length)=f at *;generalize dS t ds (ak t ds)=G at *;have c:G.length<=sizeLine:=br ∅;have c2:okN 0 (G.length:Int):=eP ∅ ∅;simp only[Pj,pz,Ag,kw,aL,tz c];refine zW (λ_ _=>True) trivial (λi x _ hx _=>?_) (λ_ _=>show(ap (PV.bl true)).run Q from q);have hi:i < G.length:=by have:=(Al.mp hx).1;rw[bu,Ag]at this;exact this
 obtain⟨y,hy,rfl⟩:=dA hx;rw[Aj,H0 hi]at hy;have hy:=Option.some.inj hy;subst hy;rw[Az];obtain⟨o1,o2,o3,o4⟩:=ok i hi;have k1:∀s:Sy,df [s.nm,PV.int (s.lv:Int),.tup (aA s.un),.tup (aA s.be)] 1=some (.int (s.lv:Int)):=λ_=>rfl;have k3:∀s:Sy,df [s.nm,PV.int (s.lv:Int),.tup (aA s.un),.tup (aA s.be)] 3=some (.tup (aA s.be)):=λ_=>rfl;simp only[Sy.pv,NK,kw,ev,lc,nQ,lH];simp only[Ag,tz c2,kw,Bd,mD];have bI:∀a b:Nat,((a:Int)==(b:Int))=decide (a=b):=λa b=>by rw[Bool.eq_iff_iff];simp;omega
 refine oM (λk=>decide ((sy G k).lv=(sy G i).lv)) (λk hk=>?_) ?_
 ·have hk:=Ax.mp hk;simp only[ND hk,lc,Sy.pv,aL,bX,k1,Fk,i6,bF,bI];cases decide ((sy G k).lv=(sy G i).lv) <;> rfl
 generalize hH:(Av G.length).filter (λk=>decide ((sy G k).lv=(sy G i).lv))=Hr at *;have n1:((Hr.length:Int)==(t.au.length:Int)-((sy G i).lv:Int))=true:=by simp;omega
 have fz:∀l:O PV,NI (ap l)=.ret (.cl l):=λ_=>rfl;have E1:gA (aA Hr) (λQQ=>sV ((of2 kc QQ (.int (i:Int))).bind Sz) (ap QQ))=.ret (aA (Hr.filter λk=>!decide (k=i))):=sU λk _=>by
  simp only[mG,bI,lc,bF];cases decide (k=i) <;> rfl
 have E2:∀l:O Nat,of2 kc (.cl (aA l)) (.cl (aA l))=.ret (.bl false):=λl=>by
  have fk:PV.gC (.cl (aA l))=true:=by
   rw[PV.gC];exact iZ.mpr λx hx=>by
    obtain⟨n,_,rfl⟩:=AD.mp hx;simp
  have fd:PV.fo (.cl (aA l))<=150:=by
   rw[PV.fo];have:=i5 (n:=1) (l:=aA l) λx hx=>by
    obtain⟨n,_,rfl⟩:=AD.mp hx;simp
   omega
  rw[Kb,tz ⟨fk,fk,fd⟩,wz _ fk];rfl
 simp only[hJ,gk,pw,mG,n1,Cb,bF,kw,Aq,if_false,aL,bW,lc,fz,E1];have beG:∀k∈(sy G i).be,k < G.length:=λk hk=>by
  rw[o2,<- hH]at hk;exact Ax.mp (AB.mp (AB.mp hk).1).1
 have fi:Hs.getD i 0 < (gS t).length:=by rw[<- w6 i];exact M.lt i hi
 have E3:cv (aA (sy G i).be) (λW4=>Vn false (zI (aA Hs) W4) ((cE (((zI (aA Hs) (.int (i:Int))).bind λy=>zI (Ey Sy.pv (gS t)) y).bind aB) (ap (.int 3))).bind aB))=.ret ((sy G i).be.map λ_=>PV.bl true):=sI λk hk=>by
  have hm:=M.be i hi k hk;rw[w6 k,w6 i]at hm;simp only[Jl (show k < Hs.length by have:=beG k hk;omega),Jl (show i < Hs.length by omega),lc,ND fi,Sy.pv,aL,bX,k3,Fk,tw,hm,decide_true];rfl
 have E3b:Hw ((sy G i).be.map λ_=>PV.bl true)=.ret (.bl true):=by
  have e:((sy G i).be.map λ_=>PV.bl true)=((sy G i).be.map λ_=>true).map PV.bl:=by rw[AM];rfl
  have e2:((sy G i).be.map λ_=>true).all id=true:=Dr.mpr λx hx=>by obtain⟨_,_,rfl⟩:=AD.mp hx;rfl
  rw[e,F1,e2]
 have E4:gA (aA (Av G.length)) (λQP=>sV (((cE ((zI (Ey Sy.pv G) QP).bind aB) (ap (.int 2))).bind aB).bind λl=>qf false (.int (i:Int)) l) (ap QP))=.ret (aA ((Av G.length).filter λk=>decide (i∈(sy G k).un))):=sU λk hk=>by
  have hk:=Ax.mp hk;simp only[ND hk,lc,Sy.pv,aL,bX,Qa,Fk,tw,Aq,if_false];cases decide (i∈(sy G k).un) <;> rfl
 rw[<- o2,E2];simp only[lc,bF,kw,Aq,if_false,E3,E3b,bD,Cb,ev,E4,gk];have NA:∀k∈(Av G.length).filter (λk=>decide (i∈(sy G k).un)),k < G.length:=λk hk=>Ax.mp (AB.mp hk).1;generalize (Av G.length).filter (λk=>decide (i∈(sy G k).un))=ab at *;have E5:cv (aA ab) (λMr=>b2 kc (cE ((zI (Ey Sy.pv G) Mr).bind aB) (ap (.int 1))) (addW (.int ((sy G i).lv:Int)) (.int 1)))=.ret (ab.map λ_=>PV.bl false):=sI λk hk=>by
  have e:(((sy G i).lv:Int)+1)=(((sy G i).lv+1:Nat):Int):=by omega
  simp only[ND (NA k hk),lc,Sy.pv,aL,bX,k1,Fk,dG,mG,e,bI];rw[o4 k hk,decide_eq_true rfl];rfl
 have E5b:K0 (ab.map λ_=>PV.bl false)=.ret (.bl false):=by
  have e:(ab.map λ_=>PV.bl false)=(ab.map λ_=>false).map PV.bl:=by rw[AM];rfl
  have e2:(ab.map λ_=>false).any id=false:=Eh.mpr λx hx=>by obtain⟨_,_,rfl⟩:=AD.mp hx;decide
  rw[e,Od,e2]
 have lp:=j6 t;have n2:((ab.length:Int)==(if decide (((sy G i).lv:Int) < (t.au.length:Int)-1)=true then 1 else 0))=true:=by
  rw[o3];by_cases cc:(sy G i).lv+1 < t.au.length
  ·rw[if_pos cc,if_pos (decide_eq_true ∅)];rfl
  ·rw[if_neg cc,if_neg (by rw[decide_eq_true_eq];omega)];rfl
 simp only[wA,lc,tR,mG,n2,Cb,bF,kw,Aq,if_false,bW,E5,E5b,bD]
theorem law14_ok:∀ns:O Int,ns.length<=63->(oI (.cl (ns.map PV.int))).run (·=.bl true):=λns hn=>by
 unfold oI;simp only[lc,ev,hJ,Ag,R8,R9,kw];obtain⟨k,hk,k1⟩:∃k:Nat,(if (if (8:Int) < (ns.length:Int) then (8:Int) else (ns.length:Int)) > 1 then (if (8:Int) < (ns.length:Int) then (8:Int) else (ns.length:Int)) else 1)=(k:Int)/\k<=8:=by
  refine⟨(if (if (8:Int) < (ns.length:Int) then (8:Int) else (ns.length:Int)) > 1 then (if (8:Int) < (ns.length:Int) then (8:Int) else (ns.length:Int)) else 1).toNat,?_,?_⟩ <;> split <;> split <;> omega
 rw[hk];simp only[lH,tz (eP (i:=0) (j:=(k:Int)) ∅ ∅),kw,Bd];refine J4 (λ_ _=>True) trivial (λi _ hi _=>?_) (λ_ _=>rfl);simp only[ev];refine Mf ∅ λl hl=>⟨hl,?_⟩;simp only[ev,lc];refine G4 λt g=>?_;have hz:=g.size;have hp:=t.size_pos;have hdp:=g.depth;refine W.le.use (gw 12 t ∅ ∅) ?_;simp only[kw];refine Hf t ∅ λds d D ac1=>?_;have Lh:(splits t).length<=7:=by have:=j6 t;have:=g.RX;omega
 have WN:=DD.of (D.isD ∅);have hs:=rT t ds;have hl:(ak t ds).length<=16:=by unfold ak;rw[Au,f6];omega
 have hb:(ak t ds).length*t.size<=900:=by
  have:(ak t ds).length*t.size<=26*25:=Ff ∅ ∅;omega
 refine W.le.use (pE WN ∅) ?_;refine Gy WN ∅ λf of=>?_;refine W.le.use (pE (of.dd WN) ∅) ?_;rw[of.dg];refine W.le.use (same_self (Ie hb)) ?_;simp only[bD,kw,Cb,Aq,if_false,ev];rw[<- Px];refine W.le.use (Gk WN g hl) ?_;simp only[bD,kw,Cb,Aq,if_false,ev,bW];refine xR PX (λe _ R r=>?_) ?_
 ·cases e with
  | word w=>simpa[Ent.pv,PX]using r
  | pair a b=>simpa[Ent.pv,PX]using r
 rw[k6];refine eI (λw=>.str (om w)) (λw hw R r=>?_) ?_
 ·have wd:=g.ws w hw;have hl:(Eo w bd (some 7)).length<=8:=AQ (DT w _ _) wd.2.1;simp only[zZ,lc,ev];refine⟨br (by have:=wd.2.1;omega),?_⟩;rw[kw,FQ];exact⟨br (by have:("w":Str).length=1:=rfl;omega),r⟩
 have ek:t.au.map PV.str=(t.au.map λw=>(Ea w:Key)).map kP:=by rw[AM];rfl
 rw[ek];have RX:=g.RX;refine Hd (List.Pairwise.map _ (λa b h e=>h (FJ e)) g.nd) (by rw[Ag,Ag]) (by rw[Ag];omega) ?_;show(aB _).run _;have ew:Lc t.au≠[]:=λz=>by
  have:=congrArg BS z;have lp:=t.gY;unfold Lc at this;rw[List.length_zip,Ag,Ag]at this;simp at this;rw[this]at lp;simp at lp
 rw[Px,aL,kw];unfold yA;refine eI (λp:Nat×Nat=>PV.tup [Yv om (pN (en t 0 p.1) p.1),.int (p.2:Int),.tup (aA ((jN (en t 0 p.1) p.1 (ds.getD p.1 0) ((ak t ds).getD p.2 0)).map λx=>(ao t ds (ak t ds) (ak t ds).length).idxOf (x,p.2-1))),.tup (aA (Hv (ao t ds (ak t ds) (ak t ds).length) p.1 p.2))]) (λp hp R r=>?_) ?_
 ·have hj:=(eT hp).2;have k0:∀(x:PV) (l:O PV),df (x::l) 0=some x:=λ_ _=>eN (j:=0) rfl;have cut:∀a b c d:PV,wL [a,b,c,d] (some 1) bd=[b,c,d]:=λ_ _ _ _=>rfl;unfold m6;simp only[Sk,lc,aL,bX,k0,Fk,ev,zZ,R1,cut];refine⟨⟨Lc t.au,rfl,ew⟩,?_⟩;have Á:∀nm:PV,nm=Yv om (pN (en t 0 p.1) p.1)->(addW (.tup [nm]) (.tup [.int (p.2:Int),.tup (aA ((jN (en t 0 p.1) p.1 (ds.getD p.1 0) ((ak t ds).getD p.2 0)).map λx=>(ao t ds (ak t ds) (ak t ds).length).idxOf (x,p.2-1))),.tup (aA (Hv (ao t ds (ak t ds) (ak t ds).length) p.1 p.2))])).run R:=λnm e=>by
   subst e;rw[FP,tz (br (by simp))];exact r
  cases e:en t 0 p.1 with
  | word w=>
   rw[e]at Á;refine⟨_,.k (Lc t.au) (.inr w) ew,?_⟩;rw[rK (hU t 0 p.1 w hj e)];exact Á _ rfl
  | pair a b=>
   rw[e]at Á;refine⟨_,.k (Lc t.au) (.inl (p.1:Int)) ew,?_⟩;rw[yZ];exact Á _ rfl
 rw[<- Si,ym,kw];refine W.le.use (IV 12 t ∅ λw hw=>hw) ?_;refine W.le.use (pE (WN.cm (ω:=om)) (by rw[cx];omega)) ?_;rw[N7];refine W.le.use (same_self (Ie (by rw[cx];exact hb))) ?_;simp only[bD,kw,Cb,Aq,if_false]
section
def top(i:Nat):sK:=PySem.Challenge.pw_treewithin_k14_whole_dates_by_order.main.body.getD i (.Pass ⟨0,0,0,0⟩)
abbrev dV(i k:Nat)(ks:O AK)(n:Nat)(m:w9 PV n):DF:=⟨dnm (top i),top i,xt (top i),k,λK=>HA K ks (lZ n m)⟩
abbrev dL(i k:Nat)(ks:O AK)(n:Nat)(m:w9 (O PV) n):DF:=⟨dnm (top i),top i,xt (top i),k,λK=>va K ks (lZ n m)⟩
abbrev dv(i k n:Nat)(m:w9 PV n):DF:=dV i k (Ak n .v) n m
abbrev oK:r9:=nM [("node",lo)]
def jU:LS (top 4) oK:=lcs
abbrev oJ:r9:=nM [("house",lo)]
def jT:LS (top 7) oJ:=lcs
abbrev mn:r9:=nM [("far",lo),("house",fr),("lines",fr)]
def iy:LS (top 8) mn:=lcs
abbrev sM:r9:=nM [("house",lo),("name_of",gi),("halves",gi),("apart_from",gi),("houses",fr),("lines",fr)]
def mS:LS (top 9) sM:=lcs
abbrev k8:r9:=nM [("house",lo),("date",lo),("isinstance",gi),("str",gi)]
def dz:LS (top 11) k8:=lcs
abbrev p0:r9:=nM [("each",lo),("layer",fr),("numbers",fr)]
abbrev pZ:r9:=nM [("far",lo),("house",fr),("layer",fr),("numbers",fr)]
def lj:LS (top 13) p0:=lcs
def lh:LS (top 13) pZ:=lcs
abbrev vI:r9:=nM [("number",lo),("pair",lo)]
abbrev vH:r9:=nM [("pair",lo),("stay_of",gi),("begins",fr),("dates",fr),("houses",fr),("numbers",fr)]
def kh:LS (top 14) vI:=lcs
def oO:LS (top 14) vH:=lcs
def gJ:cy (Jh (top 17)) (xt (top 17)) (ay (top 17)):=S7
def dB:cy (Jh (top 22)) (xt (top 22)) (ay (top 22)):=S7
abbrev mr:r9:=nM [("_law_house",lo),("_law_row",lo),("isinstance",gi),("str",gi)]
abbrev mq:r9:=nM [("_law_house",lo),("_law_left",fr),("_law_rows",fr)]
def d8:LS (top 23) mr:=lcs
def iz:LS (top 23) mq:=lcs
def rX:cy (Jh (top 24)) (xt (top 24)) (ay (top 24)):=S7
abbrev nh:r9:=nM [("_law_one",lo),("_law_other",lo),("_law_same",gi)]
def e6:LS (top 24) nh:=lcs
abbrev gX:r9:=nM [("_law_date",lo)]
abbrev gW:r9:=nM [("_law_one",lo),("_law_others",fr)]
def dj:LS (top 25) gX:=lcs
def di:LS (top 25) gW:=lcs
def jC:cy (Jh (top 26)) (xt (top 26)) (ay (top 26)):=S7
abbrev lg:r9:=nM [("_law_stay",lo),("isinstance",gi),("str",gi),("_law_rows",fr)]
def gz:LS (top 27) lg:=lcs
abbrev gs:r9:=nM [("_law_row",lo),("isinstance",gi),("str",gi)]
abbrev gr:r9:=nM [("_law_one",lo),("_law_level",fr),("_law_stays",fr)]
abbrev gq:r9:=nM [("_law_one",lo),("_law_at",fr)]
abbrev gp:r9:=nM [("_law_one",lo),("_law_at",fr),("_law_bare",fr),("_law_houses_here",fr)]
abbrev gn:r9:=nM [("_law_one",lo),("_law_at",fr),("_law_stays",fr)]
abbrev gm:r9:=nM [("_law_one",lo),("_law_level",fr),("_law_stays",fr)]
def c9:LS (top 28) gs:=lcs
def c8:LS (top 28) gr:=lcs
def c7:LS (top 28) gq:=lcs
def c6:LS (top 28) gp:=lcs
def cZ:LS (top 28) gn:=lcs
def cY:LS (top 28) gm:=lcs
abbrev GI:r9:=nM [("_law_row",lo),("isinstance",gi),("str",gi)]
abbrev GH:r9:=nM [("_law_word",lo)]
abbrev GG:r9:=nM [("_law_stay",lo),("_law_words_here",fr)]
def vO:LS (top 29) GI:=lcs
def vN:LS (top 29) GH:=lcs
def vM:LS (top 29) GG:=lcs
structure NB(v:EV):Prop where
 isinstance:v.mg "isinstance"=bd
 str:v.mg "str"=bd
 list:v.mg "list"=bd
 reversed:v.mg "reversed"=bd
 len:v.mg "len"=bd
 tuple:v.mg "tuple"=bd
 enumerate:v.mg "enumerate"=bd
 range:v.mg "range"=bd
 zip:v.mg "zip"=bd
 sorted:v.mg "sorted"=bd
 dict:v.mg "dict"=bd
 abs:v.mg "abs"=bd
 int:v.mg "int"=bd
 all:v.mg "all"=bd
 bool:v.mg "bool"=bd
 any:v.mg "any"=bd
 min:v.mg "min"=bd
 max:v.mg "max"=bd
variable{v:EV}
abbrev kz:DF:=dL 1 1 [.v] 1 kg
def xU(D:DI v kz)(q:NB v):D.O:=
 Ra D λhr nd fZ=>
 (sl 1 nd (bT (n:=0) aw rfl) λkE=>
 (sl 2 nd (bT (n:=1) (av 0 aw) rfl) λlX=>
 (SF.HN (hd:=(λ(s4:O PV×O PV)=>([some (.val fZ),some (.ol bd s4.1),some (.ol bd s4.2),bd]:bf))) (s0:=(kE,lX)) Ba (.refl _) (λs4=>(TY rfl (cf 2) (λ_=>rfl))) (λs4=>
 (SF.xr 2 3 rfl ⋯ rfl rfl (.inl rfl) nd rfl (Cy rfl) λt7=>
 (SF.append 1 rfl rfl rfl (.inl rfl) (ae 3) λkD=>
 (SF.Xh (mQ (cF rfl (dc rfl .str rfl q.isinstance (ae 3) rfl q.str tt) (λ_=>rfl)))
 (SF.extend 2 rfl rfl rfl (.inl rfl) (aF (ae 3)) λn6=>
 (SF.jE rfl (.m 8)))
 (SF.jE rfl (.m 8)))))) λs4=>
 (SF.qK (Vd rfl rfl rfl q.list rfl q.reversed (xo 1)) λ_=>rfl))))
abbrev lP:DF:=dv 2 2 1 jn
def Nf(D:DI v lP)(q:NB v)(yh:kz.C v):D.O:=
 xI D λhr nd fZ=>
 (sl 1 nd (bT (n:=0) aw rfl) λgH=>
 (sl 2 nd (bT (n:=0) aw rfl) λsN=>
 (SF.G7 (hd:=(λ(s4:O PV×O PV)=>([some (.val fZ),some (.ol bd s4.1),some (.ol bd s4.2),bd,bd,bd]:bf))) (s0:=(gH,sN)) Ba rfl (bN rfl (zM (lC yh hr (av 0 aw)))) (.refl _) (fj 3 nd) (λs4 su=>
 (SF.YW (out1:=λ(Ql:O PV×O PV)=>.nx ([some (.val fZ),some (.ol bd Ql.1),some (.ol bd Ql.2),some (.val su),bd,bd]:bf)) (cF rfl (dc rfl .str rfl q.isinstance (ae 3) rfl q.str tt) (λ_=>rfl))
 (SF.append 1 rfl rfl rfl (.inl rfl) (ae 3) λza=>
 (SF.nil rfl (.refl _)))
 (SF.xr 2 4 rfl ⋯ rfl rfl (.inl rfl) nd rfl (Cy rfl) λYh=>
 (SF.xr 2 5 rfl ⋯ rfl rfl (.inl rfl) nd rfl (Cy rfl) λYg=>
 (SF.append 1 rfl rfl rfl (.inl rfl) (ck (n:=2) (av 5 (av 4 aw)) rfl) λy9=>
 (SF.nil rfl (.m 48)))))
 λQl=>(SF.append 2 rfl rfl rfl (.inl rfl) (lJ (kq rfl rfl q.len (cf 1)) ai) λvJ=>
 (SF.jE rfl (.m 8))))) λs4=>
 (SF.fP (dH rfl rfl q.tuple (cf 1)) λ_=>rfl))))
abbrev i7:DF:=dv 3 1 1 cX
def Jy(D:DI v i7)(q:NB v):D.O:=
 xI D λhr nd Jg=>
 (SF.fP (Hb (cF rfl (dc rfl .str rfl q.isinstance (ae 0) rfl q.str tt) (λ_=>rfl)) (ck (n:=0) aw rfl) (ae 0)) λ_=>rfl)
abbrev hZ:DF:=dv 4 3 1 eX
def xW(D:DI v hZ)(q:NB v)(lE:lP.C v)(iX:i7.C v):D.O:=
 xI D λhr nd fZ=>
 (sv 1 nd (eC lE hr (av 0 aw)) λgH=>
 (SF.zk (i:=3) rfl nd rfl rfl jU (bN rfl (bB (ae 1))) (λ_ _ _ _ _=>(fj 0 jU.nd)) (λ_ _ _ _ _ p5=>FU) rfl λuu=>
 (SF.RU (hd:=(λ(s7:O PV)=>([some (.val fZ),some (.val gH),bd,some (.ol bd s7),bd,bd]:bf))) (s0:=uu) Ba rfl (jr rfl rfl q.enumerate (bB (ae 1))) (.refl _) (λ_=>(RP rfl (gM rfl (aQ (fj 4 nd) (aQ (fj 2 nd) eG))))) (λs7 t9=>
 (SF.G7 (hd:=(λ(kK:O PV)=>([some (.val fZ),some (.val gH),some (.val t9.2),some (.ol bd kK),some (.val t9.1),bd]:bf))) (s0:=s7) Ba rfl (bN rfl (bB (eC iX hr (av 2 aw)))) (.refl _) (fj 5 nd) (λkK zT=>
 (SF.Ii 3 rfl rfl (.inl rfl) (ae 4) (ae 5) λwV=>
 (SF.jE rfl (.m 32)))) λkK=>
 (SF.jE rfl (.m 20)))) λs7=>
 (SF.fP (dH rfl rfl q.tuple (cf 3)) λ_=>rfl))))
abbrev jz:DF:=dv 6 1 2 dw
def GQ(D:DI v jz)(q:NB v):D.O:=
 xI D λhr nd dF iV=>
 (SF.fP (Hb (cF rfl (dc rfl .str rfl q.isinstance (aP rfl (aF (ae 0)) (ae 1)) rfl q.str tt) (λ_=>rfl)) (aP rfl (aF (ae 0)) (ae 1)) (ae 1)) λ_=>rfl)
abbrev kA:DF:=dL 7 4 [.v] 1 gT
def xV(D:DI v kA)(q:NB v)(kn:hZ.C v):D.O:=
 Ra D λhr nd cB=>
 (sv 1 nd (eC kn hr (av 0 aw)) λcK=>
 (SF.zk (i:=3) rfl nd rfl rfl jT (bN rfl (bB (ae 1))) (λ_ _ _ _ _=>(fj 0 jT.nd)) (λ_ _ _ _ _ p5=>(ck (n:=0) aw rfl)) rfl λjo=>
 (SF.G7 (hd:=(λ(s9:O PV)=>([some (.val cB),some (.val cK),bd,some (.ol bd s9),bd]:bf))) (s0:=jo) Ba rfl (Nl rfl q.range (lJ (gE rfl rfl q.len (ae 1)) ai) (Pq ai) (Pq ai)) (.refl _) (fj 2 nd) (λs9 iU=>
 (sv 4 nd (Hb (cV xY (aP rfl (aF (ae 1)) (ae 2)) FU) (ck (n:=0) aw rfl) (aP rfl (cf 3) (aP rfl (aF (ae 1)) (ae 2)))) λwW=>
 (SF.Ii 3 rfl rfl (.inl rfl) (bo rfl (ck (n:=1) (av 2 aw) rfl) (ae 4)) (ae 2) λvL=>
 (SF.jE rfl (.m 20))))) λs9=>
 (SF.Qn 3 rfl rfl))))
abbrev hX:DF:=dv 8 1 2 eJ
def sX(D:DI v hX)(q:NB v):D.O:=
 xI D λhr nd sQ iV=>
 (SF.fP (dH rfl rfl q.tuple (f9 (vP rfl iy (jq rfl q.range (gE rfl rfl q.len (ae 0))) (λ_ _ _ _ _=>(fj 0 iy.nd)) (λ_ _ _ _ _ p3=>(uC.t (n8 (rP rfl (aV hr) (ae 0) (aF (aP rfl (aF (ae 2)) (ae 1)))) (kO (rP rfl (aV hr) (ae 1) (aF (aP rfl (aF (ae 2)) (ae 0)))))))) (λ_ _ _ _ _ p3=>(ae 0)) rfl))) λ_=>rfl)
abbrev pF:DF:=dv 9 5 1 k7
def Jz(D:DI v pF)(q:NB v)(lE:lP.C v)(yi:kA.C v)(mF:jz.C v)(iX:i7.C v)(tK:hX.C v):D.O:=
 xI D λhr nd cB=>
 (sv 1 nd (eC lE hr (av 0 aw)) λdU=>
 (sl 2 nd (lC yi hr (av 0 aw)) λjo=>
 SF.bQ 2 rfl (SF.fP (dH rfl rfl q.tuple (f9 (gZ rfl mS (jq rfl q.range (gE rfl rfl q.len (ae 1))) (λ_ _ _ _ _=>(fj 0 mS.nd)) (λ_ _ _ _ _ p7=>(ck (n:=4) (aq (eC mF hr (av 1 (av 0 aw))) (aq ai (aq (eC iX hr (aq (aP rfl (aF (ae 1)) (ae 0)) aw)) (aq (eC tK hr (av 2 (av 0 aw))) aw)))) rfl)) rfl))) λ_=>rfl)))
abbrev fV:DF:=dL 11 1 [.v,.v] 2 dC
def qd(D:DI v fV)(q:NB v):D.O:=
 Ra D λhr nd dF cC=>
 (SF.qK (O1 rfl dz (JG rfl rfl q.zip (bB (ae 0)) (bB (ae 1))) (λ_ _ _ _ _=>(RP rfl (gM rfl (aQ (fj 0 dz.nd) (aQ (fj 1 dz.nd) eG))))) (λ_ _ _ _ _ t5=>(mQ (cF rfl (dc rfl .str rfl q.isinstance (ae 0) rfl q.str tt) (λ_=>rfl)))) (λ_ _ _ _ _ t5=>(ae 1)) (M8 rfl rfl ⋯) ⋯) λ_=>rfl)
abbrev kx:DF:=dL 12 4 [.v,.v,.v] 3 gR
def xT(D:DI v kx)(q:NB v)(kn:hZ.C v):D.O:=
 Ra D λhr nd cB cC ik=>
 (sv 3 nd (eC kn hr (av 0 aw)) λcK=>
 (sl 4 nd (bT (n:=0) aw rfl) λsC=>
 (SF.RU (hd:=(λ(s5:O PV)=>([some (.val cB),some (.val cC),some (.val ik),some (.val cK),some (.ol bd s5),bd,bd,bd,bd]:bf))) (s0:=sC) Ba rfl (jr rfl rfl q.enumerate (bB (ae 2))) (.refl _) (λ_=>(RP rfl (gM rfl (aQ (fj 5 nd) (aQ (fj 6 nd) eG))))) (λs5 t7=>
 (SF.RU (hd:=(λ(s9:O PV)=>([some (.val cB),some (.val cC),some (.val ik),some (.val cK),some (.ol bd s9),some (.val t7.1),some (.val t7.2),bd,bd]:bf))) (s0:=s5) Ba rfl (jr rfl rfl q.enumerate (bB (ae 1))) (.refl _) (λ_=>(RP rfl (gM rfl (aQ (fj 7 nd) (aQ (fj 8 nd) eG))))) (λs9 Ul=>
 (SF.Xh (uC.t (n8 (cV Vj (ae 8) (ae 6)) (kO (uC.t (qD (cV xY (aP rfl (aF (ae 3)) (ae 7)) FU) (l9 (cV zH (ae 6) (aP rfl (aF (ae 1)) (aP rfl (aF (ae 3)) (ae 7))))))))))
 (SF.append 4 rfl rfl rfl (.inl rfl) (ck (n:=2) (av 7 (av 5 aw)) rfl) λvt=>
 (SF.jE rfl (.m 384)))
 (SF.jE rfl (.m 384)))) λs9=>
 (SF.jE rfl (.m 96)))) λs5=>
 (SF.Qn 4 rfl rfl))))
abbrev mJ:DF:=dv 13 2 5 jm
def GP(D:DI v mJ)(q:NB v)(iX:i7.C v)(mF:jz.C v):D.O:=
 xI D λhr nd dF cC ik kX IU=>
 (sv 5 nd (aP rfl (aF (ae 4)) ai) λjv=>
 (sv 6 nd (aP rfl (aF (ae 4)) ai) λlq=>
 (sv 7 nd (mZ zH (aP rfl (aF (ae 1)) (ae 5)) (aP rfl (aF (ae 2)) (ae 6))) λqX=>
 (sv 8 nd (Hb (cF rfl (ae 7) (λ_=>rfl)) (ck (n:=1) (av 5 aw) rfl) (eC iX hr (aq (aP rfl (aF (ae 0)) (ae 5)) aw))) λbelow_4=>
 (sv 9 nd (dH rfl rfl q.tuple (f9 (gZ rfl lj (bN rfl (bB (ae 8))) (λ_ _ _ _ _=>(fj 0 lj.nd)) (λ_ _ _ _ _ p9=>(yt (aV hr) (ae 2) (ck (n:=2) (av 0 (aq (lJ (ae 1) ai) aw)) rfl) (λ_ _=>rfl))) rfl))) λy8=>
 (sv 10 nd (dH rfl rfl q.tuple (f9 (vP rfl lh (Nm (ae 3)) (λ_ _ _ _ _=>(fj 0 lh.nd)) (λ_ _ _ _ _ UW=>(uC.t (n8 (cV (mU rfl (aV hr)) (aP rfl (aF (ae 0)) ai) (ae 2)) (kO (cV (oU rfl (aV hr)) (aP rfl (aF (ae 0)) ai) (ae 1)))))) (λ_ _ _ _ _ UW=>(yt (aV hr) (ae 3) (ae 0) (λ_ _=>rfl))) rfl))) λrC=>
 (SF.fP (ck (n:=4) (aq (eC mF hr (av 0 (av 5 aw))) (av 6 (av 9 (av 10 aw)))) rfl) λ_=>rfl)))))))
abbrev ud:DF:=dv 14 5 2 gU
def Ng(D:DI v ud)(q:NB v)(lE:lP.C v)(qj:fV.C v)(yg:kx.C v)(G6:mJ.C v):D.O:=
 xI D λhr nd cB cC=>
 (sv 2 nd (eC lE hr (av 0 aw)) λdU=>
 (sl 3 nd (O2 rfl (gK (bT (n:=1) (aq ai aw) rfl)) (gK (zG rfl rfl q.sorted (gK (lC qj hr (av 2 (av 1 aw))))))) λpI=>
 SF.bQ 3 rfl (sl 4 nd (lC yg hr (av 0 (av 1 (av 3 aw)))) λsA=>
 SF.bQ 4 rfl (sv 5 nd (Wk (N5 rfl rfl (aV hr) rfl q.dict (gK (Js rfl kh (jr rfl rfl q.enumerate (bB (ae 4))) (λ_ _ _ _ _=>(RP rfl (gM rfl (aQ (fj 0 kh.nd) (aQ (fj 1 kh.nd) eG))))) (λ_ _ _ _ _ Yi=>(ck (n:=2) (av 1 (av 0 aw)) rfl)) (M8 rfl rfl ⋯) ⋯)))) λoy=>
 (SF.fP (dH rfl rfl q.tuple (f9 (gZ rfl oO (bN rfl (bB (ae 4))) (λ_ _ _ _ _=>(fj 0 oO.nd)) (λ_ _ _ _ _ p21=>(eC G6 hr (av 3 (av 2 (av 1 (av 4 (av 0 aw))))))) rfl))) λ_=>rfl)))))
abbrev kB:DF:=dL 16 1 [.v,.v] 2 gV
def xX(D:DI v kB)(q:NB v):D.O:=
 Ra D λhr nd eF k_=>
 (sv 2 nd ai λKG=>
 (SF.YW (out1:=λ(s3:PV)=>.nx ([some (.val eF),some (.val k_),some (.val s3),bd]:bf)) (cV zH (ae 1) (gE rfl rfl q.len (ae 0)))
 (sv 2 nd (Wm rfl q.abs (aP rfl (aF (ae 0)) (ae 1))) λKD=>
 (SF.nil rfl (.refl _)))
 (SF.nil rfl (.refl _))
 λs3=>(sv 3 nd (mY (lK (ae 2) (mY (Kk ai ai) (Kk ai ai))) (tU rfl q.int (mZ Vk (ae 2) (Kk ai ai)))) λlN=>
 (SF.qK (bT (n:=3) (av 3 (aq (lK (bo rfl (bo rfl (ae 2) (mY ai (ae 1))) ai) ai) (aq ai aw))) rfl) λ_=>rfl))))
abbrev bK:DF:=dV 17 1 [.p (kI jD),.v] 1 bL
def vT(D:DI v bK):D.O:=
 QG (n:=1) (fnO (n:=1) (m:=dP) D.fn gJ rfl λad cu l hl=>match l,hl with | [jR],_=>λ_ _ _ _ _ _ hr=>show SF _ _ _ [some (.ol (some ad) cu),some (.val jR),bd,bd] _ (dP cu jR) _ from
 (SF.Nu (cV JB (aP rfl (cf 0) ai) ai)
 (sv 2 gJ.nd (lK (aP rfl (cf 0) ai) (ae 1)) λFW=>
 (SF.Ii 0 rfl rfl (.inl rfl) (Pr (aP rfl (cf 0) ai) (ae 1)) ai λj8=>
 (SF.Ux 0 (k:=λx5=>(x5,j8)) rfl (ae 2) λ_=>rfl)))
 (SF.ZY 0 rfl rfl rfl (.inl rfl) ai ai Rz Vl λeV=>
 (sv 3 gJ.nd (lK (bo rfl (bo rfl (mY (aP rfl (cf 0) ai) ai) (mY ai (aP rfl (cf 0) ai))) ai) ai) λoD=>
 (SF.Ii 0 rfl rfl (.inl rfl) (lK (mY (ae 3) (bo rfl (bo rfl (lK (ae 3) ai) (mY ai (aP rfl (cf 0) ai))) ai)) ai) ai λfB=>
 (SF.Ux 0 (k:=λuR=>(uR,fB)) rfl (lK (Pr (aP rfl (cf 0) ai) ai) (ae 1)) λ_=>rfl)))))) LL
abbrev jb:DF:=dV 18 2 [.p (kI jD),.v] 1 fF
def vU(D:DI v jb)(q:NB v)(aH:bK.C v):D.O:=
 xI D λhr nd Ib=>
 (SF.fP (aP rfl (aF (ae 1)) (eC aH hr (dm 0 (aq (gE rfl rfl q.len (ae 1)) aw)))) λ_=>rfl)
abbrev ib:DF:=dL 19 2 [.p (kI jD),.v] 1 eK
def sY(D:DI v ib)(q:NB v)(aH:bK.C v):D.O:=
 Ra D λhr nd jR=>
 (sv 2 nd mX λmw=>
 (sv 3 nd (eC aH hr (dm 0 (aq ai aw))) λnP=>
 (sv 4 nd (aP rfl (f9 (bT (n:=6) (aq ai (aq ai (aq ai (aq ai (aq ai (aq ai aw)))))) rfl)) (eC aH hr (dm 0 (aq ai aw)))) λxj=>
 (sv 5 nd (aP rfl (f9 (bT (n:=2) (aq mX (aq mX aw)) rfl)) (eC aH hr (dm 0 (aq ai aw)))) λrR=>
 (sl 6 nd (bT (n:=4) (aq mX (aq mX (aq mX (aq mX aw)))) rfl) λtS=>
 SF.bQ 6 rfl (sl 7 nd (bT (n:=0) aw rfl) λpe=>
 (SF.G7 (hd:=(λ(Qk:O PV)=>([some (.j9 (kI jD)),some (.val jR),some (.val mw),some (.val nP),some (.val xj),some (.val rR),some (.val (.cl tS)),some (.ol bd Qk),bd,bd]:bf))) (s0:=pe) Ba rfl (jq rfl q.range (ae 1)) (.refl _) (fj 8 nd) (λQk Rr=>
 (sv 9 nd (Wi (ae 2) (lK (bo rfl (ae 3) (mY (ae 4) (ae 8))) ai) (λ_ _=>rfl)) λqR=>
 (SF.append 7 rfl rfl rfl (.inl rfl) (bo rfl (bo rfl (ae 5) (ae 9)) (aP rfl (aF (ae 6)) (lK (bo rfl (ae 3) (ae 8)) ai))) λwx=>
 (SF.jE rfl (.m 768))))) λQk=>
 (SF.Qn 7 rfl rfl))))))))
abbrev i8:DF:=dV 20 2 [.p (kI jD),.v] 1 fD
def vS(D:DI v i8)(q:NB v)(aH:bK.C v):D.O:=
 xI D λhr nd aX=>
 (sl 2 nd (Jt rfl rfl q.list (aF (ae 1))) λxl=>
 (sv 3 nd (eC aH hr (dm 0 (aq ai aw))) λuT=>
 (SF.HN (hd:=(λ(s4:O PV)=>([some (.j9 (kI jD)),some (.val aX),some (.ol bd s4),some (.val uT),bd,bd]:bf))) (s0:=xl) Ba (.refl _) (λs4=>(cV JB (kq rfl rfl q.len (cf 2)) ai)) (λs4=>
 (sv 4 nd (aP rfl (f9 (bT (n:=4) (aq (eC aH hr (dm 0 (aq (lJ (kq rfl rfl q.len (cf 2)) ai) aw))) (aq (lJ (kq rfl rfl q.len (cf 2)) ai) (aq ai (aq ai aw)))) rfl)) (ae 3)) λwR=>
 (sv 5 nd (ck (n:=2) (aq (aP rfl (cf 2) (ae 4)) (aq (aP rfl (cf 2) (bo rfl (ae 4) ai)) aw)) rfl) λzx=>
 (SF.YW (out1:=λ(WZ:PV)=>.nx ([some (.j9 (kI jD)),some (.val aX),some (.ol bd s4),some (.val uT),some (.val wR),some (.val WZ)]:bf)) (uC.t (n8 (cV (mU rfl (aV hr)) (ae 3) ai) (kO (cV (mU rfl (aV hr)) (eC aH hr (dm 0 (aq ai aw))) ai))))
 (sv 5 nd (ck (n:=2) (aq (aP rfl (cf 2) (bo rfl (ae 4) ai)) (aq (aP rfl (cf 2) (ae 4)) aw)) rfl) λzw=>
 (SF.nil rfl (.refl _)))
 (SF.nil rfl (.refl _))
 λWZ=>(SF.Up 2 rfl rfl (.inl rfl) (bT (n:=1) (av 5 aw) rfl) (ae 4) (bo rfl (ae 4) ai) λzj=>
 (SF.jE rfl (.m 48))))))) λs4=>
 (SF.fP (aP rfl (cf 2) ai) λ_=>rfl))))
abbrev ic:DF:=dV 21 3 [.p (kI jD)] 0 eL
def sZ(D:DI v ic)(q:NB v)(wo:i8.C v)(tL:ib.C v)(aH:bK.C v):D.O:=
 xI D λhr nd=>
 (SF.fP (eC wo hr (dm 0 (aq (FV (lC tL hr (dm 0 (aq (bo rfl ai (eC aH hr (dm 0 (aq (aP rfl (f9 (bT (n:=2) (aq ai (aq ai aw)) rfl)) (tU rfl q.int (mZ (mU rfl (aV hr)) (eC aH hr (dm 0 (aq ai aw))) ai))) aw)))) aw)))) aw))) λ_=>rfl)
abbrev de:DF:=dL 22 12 [.v] 1 (aO 12)
theorem lu(D:DI v de)(q:NB v):∀n,fy v.P v.w v.K v.mg v.base pP (n+0) D.f D.fd (xt (top 22)) (va v.K [.v] (lZ 1 (aO n)))
 | 0=>J5 (LV λl Q hl=>match l,hl with | [aJ],_=>λh=>h.elim)
 | n+1=>have bC:=D.cN (lu D q n)
  fnL (k:=n+0) (n:=1) (m:=aO (n+1)) D.fn dB rfl (vA sG) λl hl=>match l,hl with | [aJ],_=>λ_ _ _ _ _ _ hr=>show SF _ _ _ [some (.val aJ),bd,bd,bd] _ (aO (n+1) aJ) _ from
 (SF.Nu (cF rfl (dc rfl .str rfl q.isinstance (ae 0) rfl q.str tt) (λ_=>rfl))
 (SF.qK (bT (n:=1) (av 0 aw) rfl) λ_=>rfl)
 (sl 1 dB.nd (lC bC hr (aq (aP rfl (aF (ae 0)) ai) aw)) λrY=>
 (sv 2 dB.nd (kq rfl rfl q.len (cf 1)) λoH=>
 (SF.G7 (hd:=(λ(s6:O PV)=>([some (.val aJ),some (.ol bd s6),some (.val oH),bd]:bf))) (s0:=rY) Ba rfl (bN rfl (zM (lC bC hr (aq (aP rfl (aF (ae 0)) ai) aw)))) (.refl _) (fj 3 dB.nd) (λs6 vf=>
 (SF.append 1 rfl rfl rfl (.inl rfl) (Hb (cF rfl (dc rfl .str rfl q.isinstance (ae 3) rfl q.str tt) (λ_=>rfl)) (ae 3) (ck (n:=2) (aq (bo rfl (aP rfl (aF (ae 3)) ai) (ae 2)) (aq (bo rfl (aP rfl (aF (ae 3)) ai) (ae 2)) aw)) rfl)) λIj=>
 (SF.jE rfl (.m 8)))) λs6=>
 (SF.qK (O2 rfl (xo 1) (gK (bT (n:=1) (aq (ck (n:=2) (aq (lJ (ae 2) ai) (aq (lJ (kq rfl rfl q.len (cf 1)) ai) aw)) rfl) aw) rfl))) λ_=>rfl)))))
abbrev ig:DF:=dV 23 3 [.p (kI jD),.v] 1 eM
def tj(D:DI v ig)(q:NB v)(wq:jb.C v)(aH:bK.C v):D.O:=
 xI D λhr nd qJ=>
 (sl 2 nd (Ve (bT (n:=1) (aq ai aw) rfl) (gE rfl rfl q.len (ae 1))) λhV=>
 (sl 4 nd (O1 rfl d8 (jr rfl rfl q.enumerate (bB (ae 1))) (λ_ _ _ _ _=>(RP rfl (gM rfl (aQ (fj 0 d8.nd) (aQ (fj 1 d8.nd) eG))))) (λ_ _ _ _ _ t9=>(mQ (cF rfl (dc rfl .str rfl q.isinstance (ae 1) rfl q.str tt) (λ_=>rfl)))) (λ_ _ _ _ _ t9=>(ae 0)) (M8 rfl rfl ⋯) ⋯) λxQ=>
 (sv 5 nd ai λub=>
 (SF.HN (hd:=(λ(kK:O PV×O PV×PV)=>([some (.j9 (kI jD)),some (.val qJ),some (.ol bd kK.1),bd,some (.ol bd kK.2.1),some (.val kK.2.2),bd]:bf))) (s0:=(hV,xQ,ub)) Ba (.refl _) (λkK=>(TZ rfl (aV hr) (xo 4))) (λkK=>
 (SF.as (Sx 4 rfl (Sw (i:=6) rfl nd rfl rfl iz (bN rfl (bB (ae 4))) (λ_ _ _ _ _=>(fj 0 iz.nd)) (λ_ _ _ _ _ OP=>(uC.t (n8 (rP rfl (aV hr) (aP rfl (aF (aP rfl (aF (ae 2)) (ae 0))) ai) (aF (ae 1))) (kO (rP rfl (aV hr) (aP rfl (aF (aP rfl (aF (ae 2)) (ae 0))) ai) (aF (ae 1))))))) (λ_ _ _ _ _ OP=>(ae 0)) rfl)) λvh=>
 SF.bQ 6 rfl (sv 3 nd (eC wq hr (dm 0 (av 6 aw))) λo5=>
 (sv 5 nd (bo rfl (bo rfl (ae 5) ai) (eC aH hr (dm 0 (aq (aP rfl (f9 (bT (n:=3) (aq ai (aq ai (aq ai aw))) rfl)) (eC aH hr (dm 0 (aq ai aw)))) aw)))) λt6=>
 (SF.Ii 2 rfl rfl (.inl rfl) (ae 5) (ae 3) λjV=>
 (SF.remove 4 rfl rfl rfl (.inr (.inl rfl)) (ae 3) λzE=>
 (SF.jE rfl (.m 72)))))))) λkK=>
 (SF.fP (dH rfl rfl q.tuple (cf 2)) λ_=>rfl)))))
abbrev i9:DF:=dv 24 4 2 (a6 4)
theorem mT(D:DI v i9)(q:NB v):∀n,fy v.P v.w v.K v.mg v.base pP (n+0) D.f D.fd (xt (top 24)) (HA v.K [.v,.v] (lZ 2 (a6 n)))
 | 0=>J5 (Ia λl Q hl=>match l,hl with | [eg,nB],_=>λh=>h.elim)
 | n+1=>have fH:=D.cN (mT D q n)
  ZN (k:=n+0) (n:=2) (m:=a6 (n+1)) D.fn rX rfl (vA (vA sG)) λl hl=>match l,hl with | [eg,nB],_=>λ_ _ _ _ _ _ hr=>show SF _ _ _ [some (.val eg),some (.val nB)] _ (a6 (n+1) eg nB) _ from
 (SF.Nu (cF rfl (dc rfl .tup rfl q.isinstance (ae 1) rfl q.tuple boot_tuple) (λ_=>rfl))
 (SF.Nu (uC.t (qD (mQ (cF rfl (dc rfl .tup rfl q.isinstance (ae 0) rfl q.tuple boot_tuple) (λ_=>rfl))) (l9 (cV (oU rfl (aV hr)) (gE rfl rfl q.len (ae 0)) (gE rfl rfl q.len (ae 1))))))
 (SF.fP wD λ_=>rfl)
 (SF.fP (Pt rfl rfl rfl q.all (gK (Js rfl e6 (JG rfl rfl q.zip (bB (ae 0)) (bB (ae 1))) (λ_ _ _ _ _=>(RP rfl (gM rfl (aQ (fj 0 e6.nd) (aQ (fj 1 e6.nd) eG))))) (λ_ _ _ _ _ t5=>(eC fH hr (av 0 (av 1 aw)))) (M8 rfl rfl ⋯) ⋯))) λ_=>rfl))
 (SF.Nu (uC.t (qD (cF rfl (dc rfl .str rfl q.isinstance (ae 1) rfl q.str tt) (λ_=>rfl)) (l9 (cV xY (ae 1) FU))))
 (SF.fP (Kq (mZ (mU rfl (aV hr)) (dc rfl .str rfl q.isinstance (ae 0) rfl q.str tt) (dc rfl .str rfl q.isinstance (ae 1) rfl q.str tt)) (Pp (mZ (mU rfl (aV hr)) (ae 0) (ae 1)))) λ_=>rfl)
 (SF.fP (Kq (dc rfl .int rfl q.isinstance (ae 0) rfl q.int boot_int) (Kq (We (dc rfl .bool rfl q.isinstance (ae 0) rfl q.bool boot_bool)) (Pp (mZ (mU rfl (aV hr)) (ae 0) (ae 1))))) λ_=>rfl)))
abbrev cO:DF:=dV 25 2 [.p (kI jD),.v] 1 bM
def ki(D:DI v cO)(q:NB v)(aH:bK.C v):D.O:=
 xI D λhr nd fJ=>
 (sl 3 nd (zG rfl rfl q.sorted (gK (vP rfl dj (bN rfl (bB (ae 1))) (λ_ _ _ _ _=>(fj 0 dj.nd)) (λ_ _ _ _ _ p3=>(cV JB (ae 0) ai)) (λ_ _ _ _ _ p3=>(ae 0)) rfl))) λsE=>
 SF.bQ 3 rfl (sv 2 nd ai λyC=>
 (SF.Us [(0,0)] (i:=4) nd rfl (B9 rfl) (IG xw xw Me)
 (SF.G7 (hd:=(λ(s6:PV×O (Key×PV))=>([some (.j9 (kI jD)),some (.val fJ),some (.val s6.1),some (.val (.cl sE)),some (.od s6.2),bd]:bf))) (s0:=(yC,(Sg [(0,0)]))) Ba rfl (bN rfl (bB (ae 3))) (.refl _) (fj 5 nd) (λs6 OS=>
 (sv 2 nd (bo rfl (bo rfl (ae 2) ai) (eC aH hr (dm 0 (aq ai aw)))) λyB=>
 (SF.putD 4 rfl (aV hr) rfl (.inr (.inl rfl)) (ae 2) (ae 5) λqO=>
 (SF.jE rfl (.m 32))))) λs6=>
 (SF.fP (dH rfl rfl q.tuple (f9 (gZ rfl di (bN rfl (bB (ae 1))) (λ_ _ _ _ _=>(fj 0 di.nd)) (λ_ _ _ _ _ OP=>(Se 1 rfl (aV hr) (ae 0) (hsl:=λ_ _=>rfl))) rfl))) λ_=>rfl)))))
abbrev cM:DF:=dv 26 12 2 (aD 12)
theorem e7(D:DI v cM)(q:NB v):∀n,fy v.P v.w v.K v.mg v.base pP (n+0) D.f D.fd (xt (top 26)) (HA v.K [.v,.v] (lZ 2 (aD n)))
 | 0=>J5 (Ia λl Q hl=>match l,hl with | [aJ,aX],_=>λh=>h.elim)
 | n+1=>have bP:=D.cN (e7 D q n)
  ZN (k:=n+0) (n:=2) (m:=aD (n+1)) D.fn jC rfl (vA (vA sG)) λl hl=>match l,hl with | [aJ,aX],_=>λ_ _ _ _ _ _ hr=>show SF _ _ _ [some (.val aJ),some (.val aX)] _ (aD (n+1) aJ aX) _ from
 (SF.Nu (cF rfl (dc rfl .str rfl q.isinstance (ae 0) rfl q.str tt) (λ_=>rfl))
 (SF.fP (yt (aV hr) (ae 1) (ae 0) (λ_ _=>rfl)) λ_=>rfl)
 (SF.fP (ck (n:=2) (aq (eC bP hr (aq (aP rfl (aF (ae 0)) ai) (av 1 aw))) (aq (eC bP hr (aq (aP rfl (aF (ae 0)) ai) (av 1 aw))) aw)) rfl) λ_=>rfl))
abbrev fW:DF:=dL 27 13 [.v,.v] 2 dD
def qe(D:DI v fW)(q:NB v)(bC:de.C v):D.O:=
 Ra D λhr nd bJ d7=>
 (sl 2 nd (lC bC hr (av 0 aw)) λIk=>
 SF.bQ 2 rfl (SF.qK (gZ rfl gz (bN rfl (bB (ae 1))) (λ_ _ _ _ _=>(fj 0 gz.nd)) (λ_ _ _ _ _ p4=>(Hb (cF rfl (dc rfl .str rfl q.isinstance (aP rfl (aF (ae 0)) ai) rfl q.str tt) (λ_=>rfl)) (NW rfl (aV hr) (Qy (ae 1)) (aP rfl (aF (ae 0)) ai)) (aP rfl (aF (ae 0)) ai))) rfl) λ_=>rfl))
abbrev cD:DF:=dv 28 14 2 bH
def jG(D:DI v cD)(q:NB v)(J0:pF.C v)(qk:fW.C v)(bC:de.C v):D.O:=
 xI D λhr nd bJ d7=>
 (sv 2 nd (eC J0 hr (av 0 aw)) λyN=>
 (sl 3 nd (lC qk hr (av 0 (av 1 aw))) λdE=>
 SF.bQ 3 rfl (sv 4 nd (kq rfl rfl q.len (f9 (vP rfl c9 (bN rfl (zM (lC bC hr (av 0 aw)))) (λ_ _ _ _ _=>(fj 0 c9.nd)) (λ_ _ _ _ _ p9=>(cF rfl (dc rfl .str rfl q.isinstance (ae 0) rfl q.str tt) (λ_=>rfl))) (λ_ _ _ _ _ p9=>(ae 0)) rfl))) λsL=>
 (SF.VW (hd:=(λ(kK:Unit)=>([some (.val bJ),some (.val d7),some (.val yN),some (.val (.cl dE)),some (.val sL),bd,bd,bd,bd,bd,bd,bd]:bf))) (s0:=()) (inj:=id) Ba rfl (jr rfl rfl q.enumerate (bB (ae 1))) (.refl _) (λ_=>(ZE rfl (gM rfl (aQ (fj 5 nd) (aQ (gM rfl (aQ (fj 6 nd) (aQ (fj 7 nd) (aQ (fj 8 nd) (aQ (fj 9 nd) eG))))) eG))))) (λ_=>trivial) (λkK Ld=>
 (SF.xn (i:=10) rfl nd rfl rfl c8 (jq rfl q.range (gE rfl rfl q.len (ae 1))) (λ_ _ _ _ _=>(fj 0 c8.nd)) (λ_ _ _ _ _ W5=>(cV (mU rfl (aV hr)) (aP rfl (aF (aP rfl (aF (ae 2)) (ae 0))) ai) (ae 1))) (λ_ _ _ _ _ W5=>(ae 0)) rfl λtG=>
 SF.bQ 10 rfl (SF.Nu (uC.t (qD (cV (oU rfl (aV hr)) (gE rfl rfl q.len (ae 10)) (lJ (ae 4) (ae 7))) (l9 (cV (oU rfl (aV hr)) (FV (Jt rfl rfl q.list (aF (ae 9)))) (FV (vP rfl c7 (bN rfl (bB (ae 10))) (λ_ _ _ _ _=>(fj 0 c7.nd)) (λ_ _ _ _ _ QQ=>(cV (oU rfl (aV hr)) (ae 0) (ae 1))) (λ_ _ _ _ _ QQ=>(ae 0)) rfl))))))
 (SF.ret (k:=λF8=>(Lp.out F8)) wD λ_=>rfl)
 (SF.Nu (mQ (cF rfl (Pt rfl rfl rfl q.all (gK (gZ rfl c6 (bN rfl (bB (ae 9))) (λ_ _ _ _ _=>(fj 0 c6.nd)) (λ_ _ _ _ _ W4=>(Wj rfl (aV hr) (aP rfl (aF (ae 3)) (ae 0)) (aF (aP rfl (aF (aP rfl (aF (ae 2)) (aP rfl (aF (ae 3)) (ae 1)))) ai)))) rfl))) (λ_=>rfl)))
 (SF.ret (k:=λHK=>(Lp.out HK)) wD λ_=>rfl)
 (SF.xn (i:=11) rfl nd rfl rfl cZ (jq rfl q.range (gE rfl rfl q.len (ae 1))) (λ_ _ _ _ _=>(fj 0 cZ.nd)) (λ_ _ _ _ _ QP=>(T3 rfl (aV hr) (ae 1) (aF (aP rfl (aF (aP rfl (aF (ae 2)) (ae 0))) ai)))) (λ_ _ _ _ _ QP=>(ae 0)) rfl λpJ=>
 SF.bQ 11 rfl (SF.Xh (uC.t (qD (cV (oU rfl (aV hr)) (gE rfl rfl q.len (ae 11)) (tU rfl q.int (mZ zH (ae 7) (lJ (ae 4) ai)))) (l9 (cF rfl (Wl rfl rfl rfl q.any (gK (gZ rfl cY (bN rfl (bB (ae 11))) (λ_ _ _ _ _=>(fj 0 cY.nd)) (λ_ _ _ _ _ Mr=>(mZ (oU rfl (aV hr)) (aP rfl (aF (aP rfl (aF (ae 2)) (ae 0))) ai) (bo rfl (ae 1) ai))) rfl))) (λ_=>rfl)))))
 (SF.ret (k:=λX1=>(Lp.out X1)) wD λ_=>rfl)
 (SF.jE rfl (.m 4064)))))))) λkK=>
 (SF.fP wD λ_=>rfl)))))
abbrev Pw:DF:=dv 29 15 1 oI
def Vi(D:DI v Pw)(q:NB v)(yj:kB.C v)(tM:ic.C v)(bC:de.C v)(tN:ig.C v)(tJ:ud.C v)(jJ:cD.C v)(fH:i9.C v)(ko:cO.C v)(bP:cM.C v):D.O:=
 xI D λhr nd eF=>
 (SF.VX (hd:=(λ(s6:Unit)=>([some (.val eF),bd,bd,bd,bd,bd,bd,bd,bd,bd]:bf))) (s0:=()) (inj:=id) Ba rfl (jq rfl q.range (Wg rfl rfl q.max ai (Wf rfl rfl q.min (gE rfl rfl q.len (ae 0)) ai))) (.refl _) (fj 1 nd) (λ_=>trivial) (λs6 k_7=>
 (sl 2 nd (lC yj hr (av 0 (av 1 aw))) λou=>SF.j9 2 rfl
 (sv 3 nd (eC tM hr (dm 2 aw)) λbS=>
 (sl 4 nd (lC bC hr (av 3 aw)) λrZ=>
 SF.bQ 4 rfl (sv 5 nd (eC tN hr (dm 2 (av 4 aw))) λdJ=>
 (sv 6 nd (eC tJ hr (av 3 (av 5 aw))) λkQ=>
 (SF.Nu (uC.t (qD (mQ (cF rfl (eC fH hr (aq (eC tJ hr (av 3 (aq (eC ko hr (dm 2 (av 5 aw))) aw))) (av 6 aw))) (λ_=>rfl))) (l9 (mQ (cF rfl (eC jJ hr (av 3 (av 6 aw))) (λ_=>rfl))))))
 (SF.ret (k:=λHJ=>(Lp.out HJ)) wD λ_=>rfl)
 (SF.xn (i:=7) rfl nd rfl rfl vO (bN rfl (bB (ae 4))) (λ_ _ _ _ _=>(fj 0 vO.nd)) (λ_ _ _ _ _ Mr=>(cF rfl (dc rfl .str rfl q.isinstance (ae 0) rfl q.str tt) (λ_=>rfl))) (λ_ _ _ _ _ Mr=>(ae 0)) rfl λoe=>
 SF.bQ 7 rfl (sv 8 nd (Wk (N4 rfl rfl rfl q.dict rfl q.zip (bB (ae 7)) (zM (gZ rfl vN (bN rfl (bB (ae 7))) (λ_ _ _ _ _=>(fj 0 vN.nd)) (λ_ _ _ _ _ p32=>(bo rfl mX (Wc (ae 0) Jd (Jc ai)))) rfl)))) λfM=>
 (sv 9 nd (dH rfl rfl q.tuple (f9 (gZ rfl vM (bN rfl (bB (ae 6))) (λ_ _ _ _ _=>(fj 0 vM.nd)) (λ_ _ _ _ _ W3=>(bo rfl (ck (n:=1) (aq (NX (aV hr) (ae 1) (aP rfl (aF (ae 0)) ai) (aP rfl (aF (ae 0)) ai)) aw) rfl) (Wb rfl (ae 0) (Jc ai) Jd))) rfl))) λKs=>
 (SF.Xh (mQ (cF rfl (eC fH hr (aq (eC tJ hr (aq (eC bP hr (av 3 (av 8 aw))) (av 5 aw))) (av 9 aw))) (λ_=>rfl)))
 (SF.ret (k:=λX0=>(Lp.out X0)) wD λ_=>rfl)
 (SF.jE rfl (.m 1022))))))))))))) λs6=>
 (SF.fP wD λ_=>rfl))
end
def all_d{K:Ab}(X:K.In h)(G:h.Ns ii mg)(yq:DX K "parts_of" (top 1))(NV:DX K "nodes" (top 2))(Km:DX K "halves" (top 3))(yu:DX K "ahead_of" (top 4))(Ha:DX K "name_of" (top 6))(yr:DX K "lines_up" (top 7))(tV:DX K "apart_from" (top 8))(Kn:DX K "ground" (top 9))(ql:DX K "split_dates" (top 11))(yp:DX K "standing" (top 12))(G9:DX K "stay_of" (top 13))(NY:DX K "dated" (top 14))(yw:DX K "_law_pot" (top 16))(wG:DX K "_law_take" (top 17))(wI:DX K "_law_pick" (top 18))(tW:DX K "_law_words" (top 19))(wF:DX K "_law_tree" (top 20))(tY:DX K "_law_great" (top 21))(tX:DX K "_law_nodes" (top 22))(tZ:DX K "_law_dates" (top 23))(wH:DX K "_law_same" (top 24))(ku:DX K "_law_other_dates" (top 25))(kr:DX K "_law_other_words" (top 26))(qm:DX K "_law_houses" (top 27))(jL:DX K "_law_slices_right" (top 28))(rJ:A3 K ii "isinstance"=some bd)(Tu:A3 K ii "str"=some bd)(PN:A3 K ii "list"=some bd)(xa:A3 K ii "reversed"=some bd)(Tx:A3 K ii "len"=some bd)(Lu:A3 K ii "tuple"=some bd)(uQ:A3 K ii "enumerate"=some bd)(Lv:A3 K ii "range"=some bd)(Tt:A3 K ii "zip"=some bd)(HI:A3 K ii "sorted"=some bd)(PQ:A3 K ii "dict"=some bd)(TJ:A3 K ii "abs"=some bd)(Tz:A3 K ii "int"=some bd)(TH:A3 K ii "all"=some bd)(PR:A3 K ii "bool"=some bd)(TC:A3 K ii "any"=some bd)(Tv:A3 K ii "min"=some bd)(Tw:A3 K ii "max"=some bd):WS K mg Pw:=by
 constructor
 rintro v rfl rfl D;have q:NB v:=⟨AE X G rJ,AE X G Tu,AE X G PN,AE X G xa,AE X G Tx,AE X G Lu,AE X G uQ,AE X G Lv,AE X G Tt,AE X G HI,AE X G PQ,AE X G TJ,AE X G Tz,AE X G TH,AE X G PR,AE X G TC,AE X G Tv,AE X G Tw⟩;refine yq.go (d:=kz) X G (λD=>xU D q) λyT=>?_;refine NV.go (d:=lP) X G (λD=>Nf D q yT) λux=>?_;refine Km.go (d:=i7) X G (λD=>Jy D q) λpK=>?_;refine yu.go (d:=hZ) X G (λD=>xW D q ux pK) λpL=>?_;refine Ha.go (d:=jz) X G (λD=>GQ D q) λrD=>?_;refine yr.go (d:=kA) X G (λD=>xV D q pL) λyU=>?_;refine tV.go (d:=hX) X G (λD=>sX D q) λuy=>?_;refine Kn.go (d:=pF) X G (λD=>Jz D q ux yU rD pK uy) λK4=>?_;refine ql.go (d:=fV) X G (λD=>qd D q) λqx=>?_;refine yp.go (d:=kx) X G (λD=>xT D q pL) λyS=>?_;refine G9.go (d:=mJ) X G (λD=>GP D q pK rD) λHx=>?_;refine NY.go (d:=ud) X G (λD=>Ng D q ux qx yS Hx) λOi=>?_;refine yw.go (d:=kB) X G (λD=>xX D q) λyV=>?_;refine wG.go (d:=bK) X G (λD=>vT D) λcQ=>?_;refine wI.go (d:=jb) X G (λD=>vU D q cQ) λw4=>?_;refine tW.go (d:=ib) X G (λD=>sY D q cQ) λuz=>?_;refine wF.go (d:=i8) X G (λD=>vS D q cQ) λwY=>?_;refine tY.go (d:=ic) X G (λD=>sZ D q wY uz cQ) λuA=>?_;refine tX.go (d:=de) X G (λD=>lu D q 12) λir=>?_;refine tZ.go (d:=ig) X G (λD=>tj D q w4 cQ) λuB=>?_;refine wH.go (d:=i9) X G (λD=>mT D q 4) λwZ=>?_;refine ku.go (d:=cO) X G (λD=>ki D q cQ) λkG=>?_;refine kr.go (d:=cM) X G (λD=>e7 D q 12) λkF=>?_;refine qm.go (d:=fW) X G (λD=>qe D q ir) λqz=>?_;refine jL.go (d:=cD) X G (λD=>jG D q K4 qz ir) λjP=>?_;exact Vi D q yV uA ir uB Oi jP wZ kG kF
def walk{l:ES}{q:ul}{d:DefRec}{K:Params->Ab}(hn:l.most=some 63)(VL:d.params.defaults=[])
  (hY:∀(w:wv) (h:lw),YP w h->(K w.params).In h)
  (F:∀(w:wv) (mg:Str->Option bn) (fa:ci) (h:lw),(K w.params).In h->h.Ns ii mg->mg d.name=some (.ref fa)->
   ∃fd:Gc,(∀(s:db) (u:bn),BindsTo s fd ⟨[u],[]⟩ [("_law_script",u)])/\∀base:lw,(K w.params).In base->base.Ns ii mg->fy l.prog w (K w.params) mg base pP 15 fa fd ["_law_script"] (zi (K w.params))) :
  PySem.W.WalkO q Ô XP YP l.row.toRowW d [] (λf vs=>FN f vs):=
 L2.LA (n:=63) (k:=15) (x:="_law_script") (CX:=λ_=>pP) (sp:=λw=>zi (K w.params)) hn ⋯ VL ⟨rfl,by decide,by decide,rfl⟩ hY F (λ_ _ a ns hl hO hS=>⟨λ_ h=>absurd h Bj,a,ns,rfl,NH hO hS,hl,λ_=>rfl⟩) λ_ _ _ _ _ z=>z
end My
end
open PySem PySem.W PyProof.Rows
structure PySem.W.Fast:Prop where(tw4748441406814010392 tw4238164435737705149 tw17720266428661944429 tw166202627983924129 tw2087454947673983745 tw13889508635039459420 tw2806964327765022353 tw2838829661284302757 tw12520378180862414755 tw17862417649818231 tw226636948373434359 tw12028024713088418741 tw17602506713069952584 tw17460967874554635311 tw3550320901135621389 tw8099203697161958641 tw8955605410350297512 tw5019944335345498439 tw6395263570206253164 tw6672230289882463821 tw11710672325417909380 tw16085752871315149102 tw6932997405109044852 tw12774820383252314544 tw13432484203819640929 tw7142866663232930393 tw15319781006574175756 tw5958483144919904948 tw17899175243765970178 tw1062222273537188763 tw3472325557576304028 tw12622863470990338265 tw18156207051681336854 tw1456424689758368397 tw15410637389308937089 tw5970586084653217082 tw14417948766929414315 tw16285593618814174129 tw4342605612164878317 tw16353863419424128607 tw7612077989940982389 tw7069603114296141141 tw461286857534487340 tw16886658689210522931 tw12911048198960531376 tw9257480107357202518 tw16784888737099004555 tw14761928313601443149 tw10052783706889201420 tw3996572010760327987 tw3071393706581298501 tw5383159637008515716 tw6158619092003186734 tw3971210160400394629 tw6115151878209107993 tw5564514114628087235 tw16532820881325053323 tw4713111520962882006 tw3543812115641061287 tw18241627824358754662 tw3902416773795737808 tw10624461333023236169 tw5460851756620550279 tw12299096200169782445 tw10505944012449337160 tw2844619465060113374 tw4769201191123995845 tw2022244921447171435 tw16664573142173355976 tw662442142220861014 tw8791533342171630787 tw8869650350073299968 tw13779658131299843028 tw1908239226596792865 tw13787508808283444394 tw7533459167941381088 tw5887062051388650502 tw6794244318916236735 tw9381688450723674507 tw2972480880852174496 tw17380787882855983912 tw16911645221769106709 tw192630058972534450 tw9632130766340228208 tw12921747799203885595 tw13633143569671306484 tw12935217504120851195 tw1111794605816107244 tw15427559270085667898 tw18003658687012034724 tw14700072435486028767 tw9689842753007112886 tw17799761321897787242 tw2173333212753829781 tw12678571902093074165 tw6048138450313020540 tw7606284319559533925 tw12712432551371385279 tw6694804523575597212 tw4330238351686891872 tw14213151670835037707 tw9677189242043462970 tw10208973132332891419 tw3474095118296594512 tw6734830793908723987 tw12015120291554531864 tw17246965293470249826 tw17748524524825838988 tw4022780763062332238 tw10019625173430206925 tw13430728705875639997 tw6077788175921419045 tw6223778822622542415 tw12957293739850709210 tw13325053774043039615 tw5352540112508286890 tw12548970329675077328 tw4713361815635159755 tw13318909620056360324 tw6525607036735628998 tw1066708248094459512 tw5883701125014864895 tw12921825212647327726 tw7365224593857854768 tw634827712585379611 tw3292561227786141398 tw241980779811314004 tw14736185179398639492 tw7059669878200225157 tw7411439901202177638 tw13386443107471831255 tw10445375469513072088 tw14329511747439252224 tw6961927958924798736 tw14606673471110739880 tw3610004865322594642 tw9216461144071939246 tw9304338214171609192 tw12089934402455003547 tw2073854035905916481 tw16239703431056005750 tw5513431958540551369 tw2071746224356841624 tw16939894385327874670 tw4172931786019342857 tw972706898994557331 tw13407644223689037659 tw2042621089912766958 tw2909388711258072202:True)
def PySem.W.Fast.tw9571156277680186915:=PySem.Challenge.pw_treewithin_k14_whole_dates_by_order
theorem PySem.W.Fast.te9571156277680186915:PySem.Challenge.pw_treewithin_k14_whole_dates_by_order=PySem.W.Fast.tw9571156277680186915:=rfl
set_option maxRecDepth 100000 in
set_option maxHeartbeats 0 in
theorem PySem.Challenge.cw_treewithin_k14_whole_dates_by_order_holds : PySem.Challenge.rw_treewithin_k14_whole_dates_by_order.Holds := by
 w_on;o_law;k_head;(case hw=>w_witness2)
 k_fill
 refine My.walk (l:=PySem.Challenge.rw_treewithin_k14_whole_dates_by_order) rfl rfl (fun w h Y=>PySem.W.kIn_of Y) ?F
 case F=>
  intro w mg fa h KX G hmg;refine' FL.mkAll (st:=My.top 29) (k:=15) My.law14_ok KX G hmg ?e (fun _ _ _ _ _ _=>FL.usN fun _=>rfl) (My.all_d KX G ..)
  all_goals try first | (refine' FL.dx ?a ?l ?c ?k;(case a=>k_is);(case l=>k_is);(case c=>k_is);(case k=>k_is)) | k_is
#print axioms PySem.Challenge.cw_treewithin_k14_whole_dates_by_order_holds
