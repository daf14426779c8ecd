import PyProof.Rows.All
import Wide.All
import OpenK.AllK
import Wide.FinOn
import Lean
import PyProof.EqAt
import PyProof.EqKinds
import PyProof.TupleCall
import PyProof.NeKinds
import PyProof.FactsAll.tuple_2
import PyProof.FactsAll.str_0
import PyProof.FactsAll.str_1
import PyProof.FactsAll.str_2
import PyProof.FactsAll.str_3
import PyProof.Rows.MinMaxN
import PyProof.Rows.SumAny
import PyProof.Rows.SetFrom
import PyProof.ReprRoads
import PyProof.Rows.StrKeys3
import PyProof.CallFns
import KE.KSortTup
import KE.KDictSum
import PySem.Challenge.RW_treewithin_k16_ways_that_are_ways
open PySem renaming wpAny_bind -> Aa, wpAny_pure -> Ag, wpAny_callSpecial?_slot -> AW, wpAny_field -> AY, wpAny_setField_rec -> A1, wpAny_holding -> A9, wpAny_call_entry -> Bb, wpAny_truthy_bool -> Bm, wpAny_newObj_type -> Bn, wpAny_seqItems -> BC, wpAny_Call_Name_kw -> BH, wpAny_mono -> BK, mem_of_lookup -> BL, wpAny_typeNameOfWhole_keyiter -> BU, wpAny_passesOwn -> Ca, wpAny_typeOf -> Cf, wpAny_typeNameOf_keyiter -> Ci, wpAny_of_eq -> Cn, wpAny_pyIter_list -> Cu, wpAny_newTuple -> Cz, wpAny_attempt -> CI, wpAny_rule -> CO, wpAny_pyIter_enum -> CY, wpAny_isInstance -> C8, wpAny_updateSeq_pair -> Di, wpAny_letGo -> Dj, wpAny_updateSeq -> Ds, wpAny_specialOf -> Du, wpAny_execs_nil -> Dv, wpAny_setField -> DR, wpAny_pyIter_tuple -> DS, wpAny_letOwnedTupleGo_enum -> DT, wpAny_sequenceKey -> D5, wpAny_dictEntries -> D6, wpAny_standAt -> Ec, wpAny_onRaise -> Ed, wpAny_comprehension_free -> Ee, wpAny_dictEpoch -> EL, wpAny_listPart -> E2, call -> FI
open PySem.W renaming Frag -> Ab, nsIn -> AH, mg_none_of -> AJ, kia_one -> Ba, kitOne -> Bv, mg_of -> BJ, fnOf -> Cd, keepIn -> Cw, KasT -> DC, codeIn -> DL, methodObj -> D1, kitx_list -> D2, kitx_dict -> D3, cellsFrom_some -> Et, kas_rev -> EH, instObj -> EI, OpenLaw -> EJ, lookIn -> EX, kitx_tuple -> Fj, callWith_K -> Fm, kas_tail3 -> Ft, plainGet -> Fy, kat_cons -> Fz, kas_sort -> FA
open List renaming getElem?_eq_getElem -> Ad, length_append -> Ae, length_map -> Af, size_toArray -> Ah, getElem?_map -> Ai, getElem?_eq_some_iff -> Ak, replicate -> Al, length_cons -> Ao, getD_eq_getElem?_getD -> Ap, map_cons -> Au, range -> Av, getElem?_eq_none -> Aw, mem_cons -> Ay, mem_map -> Az, getElem?_append_right -> AB, getElem?_append_left -> AD, mem_range -> AE, mem_filter -> AL, mem_append_right -> AR, mem_cons_of_mem -> AV, map_map -> AX, length_filter_le -> AZ, length_nil -> A2, getElem?_set_ne -> A5, map_append -> A6, append_assoc -> A7, length_replicate -> A8, getElem?_set_self -> Bc, ext_getElem? -> Bd, mem_append -> Bj, lookup_cons -> Bk, mem_of_getElem? -> Bo, drop_eq_getElem_cons -> Bp, replicate_succ -> Br, getElem?_range -> Bs, length_range -> Bt, getElem?_replicate -> Bu, mem_singleton -> Bw, mem_cons_self -> Bx, not_mem_nil -> BA, filterMap_cons -> BB, find?_cons -> BG, idxOf_lt_length_of_mem -> BI, length_set -> BM, forIn_cons -> BN, pairwise_iff_getElem -> BO, any_eq_true -> BR, length -> BV, flatten_cons -> BX, flatMap_append -> B2, any_cons -> B5, length_take -> B6, mem_append_left -> Cg, map_congr_left -> Ck, all_eq_true -> Cm, take_of_length_le -> Co, nodup_append -> Cv, getElem?_of_mem -> CA, length_drop -> CB, mergeSort_perm -> CD, length_reverse -> CF, append_nil -> CJ, mem_filterMap -> CP, reverse_cons -> C2, pairwise_lt_range -> C3, replicate_append_replicate -> C4, filter_cons -> Dc, getElem_toArray -> Dk, eq_nil_of_length_eq_zero -> Dl, nodup_cons -> Dw, nil_append -> Dx, map_const' -> Dy, getElem_of_mem -> DA, pairwise_cons -> DV, forIn_nil -> DW, pairwise_map -> D7, length_erase_of_mem -> Ef, pairwise_mergeSort -> Ej, mem_flatMap -> Ek, length_eq_zero_iff -> El, isEmpty_map -> Em, getElem_mem -> En, getElem_inj -> Eo, drop_length -> Ep, map_set -> Ez, map_nil -> EA, length_pos_of_mem -> EB, filter_eq_nil_iff -> EC, drop_eq_nil_of_le -> ED, of_mem_zip -> EN, set_append_right -> ES, length_singleton -> ET, getElem?_toArray -> EU, take_succ -> E5, nodup_nil -> E6, map -> E7, reverse_append -> Fe, map_eq_nil_iff -> Ff, length_pos_iff -> Fg
open PySem.Heap renaming get?_push_of_some -> Aj, get?_push_size -> Aq, lt_size -> Ar, SameBut -> B3, get?_update_self -> Cq, size_push -> Cy, get?_update_other -> CV, size_update -> Eg, get?_update_ne -> Fd, ExtBut -> FE
open Bool renaming false_eq_true -> Am, false_ne_true -> AG, and_eq_true -> AM, not_true -> BD, eq_iff_iff -> CK, and_false -> DY, or_eq_true -> EO, not_false -> E8, false_and -> E9, true_and -> Fi
open Nat renaming le_refl -> An, lt_of_lt_of_le -> AA, ne_of_lt -> AI, zero_add -> AO, zero_le -> A3, lt_irrefl -> A4, add_assoc -> Bg, le_trans -> Bq, le_add_right -> Bz, sub_self -> B4, add_sub_cancel_left -> CT, lt_succ_of_lt -> CZ, lt_or_ge -> C1, le_of_ble_eq_true -> C5, lt_succ_self -> C9, sub_zero -> DG, le_of_lt -> DH, eq_or_lt_of_le -> DU, strongRecOn -> EM, sub_sub -> E3, le_succ -> E4, succ_mul -> Fw, succ -> Fx
open PySem.Value renaming ref -> Ax, none -> AQ, type -> BP, bool -> BZ, str -> DJ, int -> DK
open PySem.PassesOwn renaming never -> AN
open Int renaming toNat_natCast -> AU, emod_lt_of_pos -> BS, emod_nonneg -> B1, le_refl -> Dm, eq_ofNat_of_zero_le -> Er, zero_add -> EE
open PySem.Obj renaming mapSeq -> Be, data_mapFields -> CN, isFreed_of_fields -> ER
open PySem.NameKind renaming free -> Bf, cell -> Fh
open PyProof.Rows renaming callWith_type1 -> Bh, slot_tuple_getitem -> Bi
open False renaming elim -> Bl
open PySem.F renaming slot_dict_keyiterator_next -> BE, plainAttrs_list -> BW, slot_tuple_iterator_next -> B8, slot_enumerate_next -> Cr, args_tuple_add_2 -> CG, slot_list_getattribute -> CH, entry_tuple_add -> CS, slot_tuple_add -> CW, args_dict_keyiterator_next_1 -> C6, entry_dict_keyiterator_next -> De, args_list_extend_2 -> Df, slot_zip_next -> Dp, args_tuple_iterator_next_1 -> Dq, entry_list_extend -> Dz, entry_tuple_iterator_next -> DE, slot_list_extend -> DP, type_list_append -> Ea, slot_list_append -> Eb, args_enumerate_next_1 -> Eh, entry_enumerate_next -> Ew
open Ne renaming symm -> BF
open PySem.AutoSeq1 renaming wpAny_loadPart' -> BQ, sub_tuple_tuple -> C7, sub_tuple_list -> Dg, sub_list_tuple -> Dh, sub_list_list -> Dr, idx_int -> Ey
open True renaming intro -> B7
open PySem.Calls renaming spliced_cons -> B9, spliced_nil -> Ct, Name_function_global -> DQ, callWith_builtin -> Ex
open ForInStep renaming yield -> Cb
open And renaming right -> Cc
open PySem.Str renaming ofString -> Ce, length_append -> CU, cps_append -> EY
open Or renaming inr -> Cj, inl -> Cs
open Option renaming map_some -> Cp, getD_none -> Ei, isSome_map -> Fv
open Array renaming getElem?_eq_getElem -> CC, length_toList -> DB, perm_iff_toList_perm -> DZ, size_append -> D8, toList_inj -> Es, getElem?_eq_none -> EG, getElem?_toList -> EW
open PySem.SeqAt.EqAt renaming int_int -> CM, same -> Dn, of_refs -> DN, str_str -> Fp, str_int -> Fq, int_str -> Fs
open PySem.SeqAt.RcNeAt renaming lists_lengths -> DM, lists -> Fo
open PySem.EqBoolInt renaming of_rcne -> D4, of_rc -> EK
open PySem.SeqAt.RcAt renaming lists_lengths -> D9, tuples -> Fu, lists -> FC
open PySem.SeqAt renaming EqAt -> Eu
open PySem.Data renaming seq -> EZ
open PySem.Around renaming under_plainId -> E1
open Sum renaming inr -> Fb, inl -> Fc
open PySem.IsL renaming isList -> FD
open PySem.Flow renaming ret -> FG
open PySem.Fin renaming done -> FH
set_option Elab.async false
set_option linter.all false
set_option maxRecDepth 100000
set_option maxHeartbeats 1000000
namespace L2
open PySem PySem.Spec PyProof.Rows
abbrev Key:=Sum Int Str
def y7:Key->Value->Bool
 | .inl k,v=>Value.isInt k v
 | .inr x,v=>Value.isStrOf x v
def af8 (w:World):Key->Int
 | .inl k=>hashInt k
 | .inr x=>hashStr w x
def cq:∀{k:Key}{v:Value},y7 k v=true->(∃i t,k=Fc i/\v=DK i t)\/(∃x t,k=Fb x/\v=DJ x t)
 | .inl i,v,h=>by
  obtain⟨t,e⟩:=Value.isInt_shape (k:=i) (v:=v) h;exact .inl ⟨i,t,rfl,e⟩
 | .inr x,v,h=>by
  obtain⟨t,e⟩:=Value.isStrOf_shape (x:=x) (v:=v) h;exact .inr ⟨x,t,rfl,e⟩
def OK (i:Int) (t:Tok):y7 (.inl i) (.int i t)=true:=by simp [y7,Value.isInt]
def OJ (x:Str) (t:Tok):y7 (.inr x) (.str x t)=true:=by simp [y7,Value.isStrOf]
def ZD (a b:Int):decide ((Fc a:Key)=Fc b)=(a==b):=by
 by_cases e:a=b
 ·subst e;simp
 ·have h:¬(Fc a:Key)=Fc b:=fun q=>e (Fc.inj q);rw [decide_eq_false h];exact (beq_eq_false_iff_ne.mpr e).symm
def Zz (a b:Str):decide ((Fb a:Key)=Fb b)=decide (a=b):=by
 by_cases e:a=b
 ·subst e;simp
 ·have h:¬(Fb a:Key)=Fb b:=fun q=>e (Fb.inj q);rw [decide_eq_false h,decide_eq_false e]
def ZC (a:Int) (b:Str):decide ((Fc a:Key)=Fb b)=false:=decide_eq_false (fun q=>nomatch q)
def ZA (a:Str) (b:Int):decide ((Fb a:Key)=Fc b)=false:=decide_eq_false (fun q=>nomatch q)
def bV (prog:Program) (w:World):PySem.KeyKind prog w Key where
 is:=y7
 hash:=af8 w
 inj:=fun v a b ha hb=>by
  rcases cq ha with⟨i,t,rfl,rfl⟩ | ⟨x,t,rfl,rfl⟩
  ·rcases cq hb with⟨j,u,rfl,e⟩ | ⟨y,u,rfl,e⟩
   ·injection e with e1 _;rw [e1]
   ·exact nomatch e
  ·rcases cq hb with⟨j,u,rfl,e⟩ | ⟨y,u,rfl,e⟩
   ·exact nomatch e
   ·injection e with e1 _;rw [e1]
 byValue:=fun k v h=>by
  rcases cq h with⟨i,t,rfl,rfl⟩ | ⟨x,t,rfl,rfl⟩ <;> rfl
 pyHash:=fun hv h=>by
  rcases cq hv with⟨i,t,rfl,rfl⟩ | ⟨x,t,rfl,rfl⟩
  ·exact wpAny_pyHash_int h
  ·exact wpAny_pyHash_str h
 eqBool:=fun hu hv h=>by
  rcases cq hu with⟨i,t,rfl,rfl⟩ | ⟨x,t,rfl,rfl⟩
  ·rcases cq hv with⟨j,u,rfl,rfl⟩ | ⟨y,u,rfl,rfl⟩
   ·rw [ZD] at h;exact wpAny_eqBool_int h
   ·rw [ZC] at h;exact Fs i t y u _ _ _ _ h
  ·rcases cq hv with⟨j,u,rfl,rfl⟩ | ⟨y,u,rfl,rfl⟩
   ·rw [ZA] at h;exact Fq x t j u _ _ _ _ h
   ·rw [Zz] at h;exact wpAny_eqBool_str h
 «strs»:=fun k x t v h=>by
  rcases cq h with⟨i,u,rfl,e⟩ | ⟨y,u,rfl,e⟩
  ·exact nomatch e
  ·injection e with e1 _;subst e1;cases v <;> rfl
def IH (prog:Program) (w:World) (i:Int) (t:Tok):(bV prog w).is (.inl i) (.int i t)=true:=OK i t
def IG (prog:Program) (w:World) (x:Str) (t:Tok):(bV prog w).is (.inr x) (.str x t)=true:=OJ x t
inductive V where
 | aQ | bl (b:Bool) | int (i:Int) | str (x:Str) | byt (b:Array UInt8) | flt (b:UInt64) | ref (a:Addr) | ty (n:String)
 deriving DecidableEq
def RelV:V->Value->Prop
 | .aQ,u=>u=AQ
 | .bl b,u=>u=BZ b
 | .int i,u=>∃t,u=DK i t
 | .str x,u=>∃t,u=DJ x t
 | .byt b,u=>∃t,u=Value.bytes b t
 | .flt b,u=>∃t,u=Value.float b t
 | .ref a,u=>u=Ax a
 | .ty n,u=>u=BP n
abbrev Vals:List V->List Value->Prop:=Paired RelV
def Vals.length {xs:List V}{us:List Value} (r:Vals xs us):xs.length=us.length:=Paired.length r
theorem Vals.get:∀{xs:List V}{us:List Value}{i:Nat}{x:V},Vals xs us->xs[i]?=some x->∃u,us[i]?=some u/\RelV x u
 | _,_,_,_,.nil,e=>by simp at e
 | _,_,0,_,.cons r _,e=>by simp at e;subst e;exact⟨_,rfl,r⟩
 | _,_,i+1,x,.cons _ t,e=>by
  obtain⟨u,h1,h2⟩:=Vals.get (i:=i) (x:=x) t (by simpa using e);exact⟨u,by simpa using h1,h2⟩
theorem Vals.set {x:V}{u:Value} (r:RelV x u):∀{xs:List V}{us:List Value} (i:Nat),Vals xs us->Vals (xs.set i x) (us.set i u)
 | _,_,_,.nil=>.nil
 | _,_,0,.cons _ t=>.cons r t
 | _,_,i+1,.cons q t=>.cons q (Vals.set r i t)
theorem Vals.append:∀{xs ys:List V}{us ws:List Value},Vals xs us->Vals ys ws->Vals (xs++ys) (us++ws)
 | _,_,_,_,.nil,s=>s
 | _,_,_,_,.cons r t,s=>.cons r (Vals.append t s)
theorem Vals.take:∀{xs:List V}{us:List Value} (n:Nat),Vals xs us->Vals (xs.take n) (us.take n)
 | _,_,0,_=>.nil
 | _,_,_+1,.nil=>.nil
 | _,_,n+1,.cons r t=>.cons r (Vals.take n t)
theorem Vals.drop:∀{xs:List V}{us:List Value} (n:Nat),Vals xs us->Vals (xs.drop n) (us.drop n)
 | _,_,0,r=>r
 | _,_,_+1,.nil=>.nil
 | _,_,n+1,.cons _ t=>Vals.drop n t
def xC:Option V->Option Value->Prop
 | some v,some u=>RelV v u
 | none,none=>True
 | _,_=>False
def KV {κ:Type}:List (κ×V)->List (κ×Value)->Prop:=Paired fun (p:κ×V) (q:κ×Value)=>p.1=q.1/\RelV p.2 q.2
def kV:Key->V
 | .inl i=>.int i
 | .inr x=>.str x
inductive HO where
 | lst (xs:List V)
 | tup (xs:List V)
 | dK (kvs:List (Key×V)) | dT (kvs:List (List Key×V))
 | set (S:Int->Bool) (n:Nat)
 | ins (C dx:Addr) (fs:List (Str×V))
 | own (x:Addr)
 | xd (fs:List (Str×V))
 | met (f x:Addr)
 | rng (lo hi:Int)
 | cV (o:Obj) (u:HO)
 | Yj (ps:Array Value)
 | ext (φ:Heap->Prop)
abbrev Hp:=Addr->Option HO
def upd (H:Hp) (a:Addr) (o:HO):Hp:=fun b=>if b=a then some o else H b
def aR {H:Hp}{a:Addr}{o:HO}:upd H a o a=some o:=by unfold upd;rw [if_pos rfl]
def ay {H:Hp}{a b:Addr}{o:HO} (h:b≠a):upd H a o b=H b:=by unfold upd;rw [if_neg h]
def Nf {H:Hp}{a b:Addr}{o u:HO} (h:H a=some o) (h':H b=some u) (d:o≠u):a≠b:=by
 intro e;subst e;rw [h] at h';exact d (Option.some.inj h')
def bK {H:Hp}{a b:Addr}{o:HO} (h:H a=some o) (h':H b=none):a≠b:=by
 intro e;subst e;rw [h] at h';cases h'
section
variable (P:Program) (w:World)
def bj (H:Hp) (h:Heap) (a:Addr):HO->Prop
 | .lst xs=>xs.length<=sizeLine/\∃(au:List Value) (n:Nat),Vals xs au/\h.get? a=some {cls:=.type "list",data:=.seq au.toArray n}
 | .tup xs=>xs.length<=sizeLine/\∃au:List Value,Vals xs au/\IsTup h a au.toArray
 | .dK kvs=>kvs.length<=sizeLine/\(a==sysModules)=false/\∃vs,KV kvs vs/\h.DictOf (bV P w) a vs
 | .dT kvs=>kvs.length<=sizeLine/\(a==sysModules)=false/\∃xs:List (List Key×Addr×Value),
   Paired (fun (p:List Key×V) (q:List Key×Addr×Value)=>p.1=q.1/\H q.2.1=some (.tup (p.1.map kV))/\RelV p.2 q.2.2) kvs xs/\
   ∃o es ep,h.get? a=some o/\o.ExactDict/\o.data=.dict es ep/\es.toList=xs.map (entryOfKey (tupleKind (bV P w)))/\(xs.map (·.1)).Nodup
 | .set S n=>h.SetOf (intKind P w) a S n
 | .ins C dx fs=>H dx=some (.own a)/\fs.length<=1000/\dx≠a/\h.get? a=some (EI C dx)/\
   ∃mA,h.Ns1 dx mA/\(∀f,xC (fs.lookup f) (mA f))/\PySem.Within mA (fs.map (·.1))
 | .own _=>∃o,h.get? a=some o
 | .xd fs=>∃mA,h.Ns1 a mA/\∀f,xC (fs.lookup f) (mA f)
 | .rng lo hi=>∃t u v,h.get? a=some {cls:=.type "range",data:=.fields #[.int lo t,.int hi u,.int 1 v]}
 | .cV o u=>h.get? a=some o/\bj H h a u
 | .Yj ps=>h.get? a=some {cls:=.none,data:=.fields ps}
 | .met f x=>h.get? a=some (D1 (.ref f) (.ref x))
 | .ext φ=>φ h/\(∃o,h.get? a=some o)/\∀h1 h2:Heap,φ h1->(∀o,h1.get? a=some o->h2.get? a=some o)->φ h2
def nJ (H:Hp) (h:Heap):Prop:=∀a o,H a=some o->bj P w H h a o
end
section
variable {P:Program}{w:World}{H H':Hp}{h h':Heap}{a:Addr}{o:HO}
def bj.lt (x:bj P w H h a o):a < h.objs.size:=by
 cases o with
 | lst xs=>obtain⟨_,_,_,_,e⟩:=x;exact Ar e
 | tup xs=>obtain⟨_,_,_,p⟩:=x;exact p.lt
 | dK kvs=>obtain⟨_,_,_,_,o,_,_,e,_⟩:=x;exact Ar e
 | dT kvs=>obtain⟨_,_,_,_,o,_,_,e,_⟩:=x;exact Ar e
 | set S n=>obtain⟨o,_,_,_,e,_⟩:=x;exact Ar e
 | ins C dx fs=>obtain⟨_,_,_,e,_⟩:=x;exact Ar e
 | own y=>obtain⟨_,e⟩:=x;exact Ar e
 | xd fs=>obtain⟨_,⟨_,_,_,e,_⟩,_⟩:=x;exact Ar e
 | rng lo hi=>obtain⟨_,_,_,e⟩:=x;exact Ar e
 | cV ob u=>obtain⟨e,_⟩:=x;exact Ar e
 | Yj ps=>exact Ar (show h.get? a=some _ from x)
 | met f y=>exact Ar (show h.get? a=some _ from x)
 | ext φ=>obtain⟨_,⟨_,e⟩,_⟩:=x;exact Ar e
theorem Paired.Zm {α β:Type}{F G:α->β->Prop}:∀{l₁:List α}{l₂:List β},Paired F l₁ l₂->(∀a b,F a b->G a b)->Paired G l₁ l₂
 | _,_,.nil,_=>.nil
 | _,_,.cons r t,f=>.cons (f _ _ r) (Paired.Zm t f)
def bj.FK (x:bj P w H h a o) (k:∀b u,(b=a\/H b=some (.own a))->h.get? b=some u->h'.get? b=some u)
  (ho:∀b,H b=some (.own a)->H' b=some (.own a)) (ht:∀b xs,H b=some (.tup xs)->H' b=some (.tup xs)):bj P w H' h' a o:=by
 induction o with
 | lst xs=>obtain⟨z,au,n,r,e⟩:=x;exact⟨z,au,n,r,k _ _ (.inl rfl) e⟩
 | tup xs=>obtain⟨z,au,r,ob,e,c⟩:=x;exact⟨z,au,r,ob,k _ _ (.inl rfl) e,c⟩
 | dK kvs=>obtain⟨z,y,vs,r,ob,es,ep,e,c⟩:=x;exact⟨z,y,vs,r,ob,es,ep,k _ _ (.inl rfl) e,c⟩
 | dT kvs=>
  obtain⟨z,y,xs,r,ob,es,ep,e,c⟩:=x;exact⟨z,y,xs,Paired.Zm r fun p q z=>⟨z.1,ht _ _ z.2.1,z.2.2⟩,ob,es,ep,k _ _ (.inl rfl) e,c⟩
 | set S n=>obtain⟨ob,es,ep,t,e,c⟩:=x;exact⟨ob,es,ep,t,k _ _ (.inl rfl) e,c⟩
 | ins C dx fs=>
  obtain⟨d,z,ne,e,mA,⟨od,es,ep,e2,c⟩,r⟩:=x;exact⟨ho _ d,z,ne,k _ _ (.inl rfl) e,mA,⟨od,es,ep,k _ _ (.inr d) e2,c⟩,r⟩
 | own y=>obtain⟨ob,e⟩:=x;exact⟨ob,k _ _ (.inl rfl) e⟩
 | xd fs=>obtain⟨mA,⟨od,es,ep,e,c⟩,r⟩:=x;exact⟨mA,⟨od,es,ep,k _ _ (.inl rfl) e,c⟩,r⟩
 | rng lo hi=>obtain⟨t,u,v,e⟩:=x;exact⟨t,u,v,k _ _ (.inl rfl) e⟩
 | cV ob u ih=>obtain⟨e,q⟩:=x;exact⟨k _ _ (.inl rfl) e,ih q⟩
 | Yj ps=>
  have e:h.get? a=some {cls:=.none,data:=.fields ps}:=x;show h'.get? a=some {cls:=.none,data:=.fields ps};exact k a _ (.inl rfl) e
 | met f y=>
  have e:h.get? a=some (D1 (.ref f) (.ref y)):=x;show h'.get? a=some (D1 (.ref f) (.ref y));exact k a _ (.inl rfl) e
 | ext φ=>obtain⟨p,⟨o,e⟩,st⟩:=x;exact⟨st _ _ p fun o q=>k _ _ (.inl rfl) q,⟨o,k _ _ (.inl rfl) e⟩,st⟩
def nJ.lt (x:nJ P w H h) (e:H a=some o):a < h.objs.size:=(x a o e).lt
def nJ.fresh (x:nJ P w H h) (e:h.objs.size<=a):H a=none:=by
 cases q:H a with
 | none=>rfl
 | some u=>exact absurd (AA (x.lt q) e) (A4 _)
def nJ.kept (x:nJ P w H h) (k:∀b u,h.get? b=some u->h'.get? b=some u):nJ P w H h':=fun a o e=>
 (x a o e).FK (fun b u _ q=>k b u q) (fun _ q=>q) fun _ _ q=>q
def nJ.laid (x:nJ P w H h) (k:∀b u,h.get? b=some u->h'.get? b=some u) (hp:h.objs.size<=a) (new:bj P w (upd H a o) h' a o):nJ P w (upd H a o) h':=fun b u e=>by
 have hn:=x.fresh hp;by_cases hb:b=a
 ·subst hb;rw [aR] at e;cases e;exact new
 ·rw [ay hb] at e;exact (x b u e).FK (fun c v _ q=>k c v q) (fun c q=>by rw [ay (bK q hn)];exact q) fun c xs q=>by rw [ay (bK q hn)];exact q
end
def Rd (H:Hp) (a:Addr) (u:HO):Prop:=H a=some u\/∃o,H a=some (.cV o u)
def Rd.ok {P:Program}{w:World}{H:Hp}{h:Heap}{a:Addr}{u:HO} (r:Rd H a u) (x:nJ P w H h):bj P w H h a u:=by
 rcases r with r | ⟨o,r⟩
 ·exact x a u r
 ·obtain⟨_,q⟩:=x a _ r;exact q
def Mut:Option HO->Prop
 | some (.lst _)=>True
 | some (.dK _)=>True
 | some (.dT _)=>True
 | some (.set _ _)=>True
 | some (.ins _ _ _)=>True
 | some (.ext _)=>True
 | _=>False
section
variable {P:Program}{w:World}{H:Hp}{h h':Heap}{x e:Addr}{o':HO}
def nJ.write (ok:nJ P w H h) (mu:Mut (H x)) (he:e=x\/H e=some (.own x)) (k:∀b u,b≠e->h.get? b=some u->h'.get? b=some u) (heo:∃u,h'.get? e=some u)
  (new:bj P w (upd H x o') h' x o'):nJ P w (upd H x o') h':=fun b u q=>by
 have Rv:∀c y,H c=some (.own y)->c≠x:=fun c y r z=>by subst z;rw [r] at mu;exact mu
 have afW:∀c xs,H c=some (.tup xs)->c≠x:=fun c xs r z=>by subst z;rw [r] at mu;exact mu
 by_cases hb:b=x
 ·subst hb;rw [aR] at q;cases q;exact new
 ·rw [ay hb] at q;by_cases ZU:b=e
  ·have q':H b=some (.own x):=by
    rcases he with z | z
    ·exact absurd (ZU.trans z) hb
    ·rw [ZU];exact z
   rw [q] at q';cases q';obtain⟨v,hv⟩:=heo;exact⟨v,by rw [ZU];exact hv⟩
  ·refine (ok b u q).FK (fun c v hc r=>k c v ?_ r) (fun c r=>by rw [ay (Rv c b r)];exact r) fun c xs r=>by rw [ay (afW c xs r)];exact r
   rcases hc with rfl | hc
   ·exact ZU
   ·rintro rfl;rcases he with z | z
    ·exact Rv c b hc z
    ·rw [hc] at z;cases z;exact hb rfl
end
structure Un (fs ex:List Addr) (H H':Hp) (h h':Heap):Prop where
 keep:∀b o,h.get? b=some o->H b=none->b∉fs->b∉ex->h'.get? b=some o
 slot:∀b o,h.get? b=some o->H b=none->b∈fs->b∉ex->∃sl,h'.get? b=some {o with slots:=sl}
 free:∀b o,h.get? b=some o->H b=none->b∉ex->H' b=none
 there:∀b o,h.get? b=some o->b∉ex->∃o',h'.get? b=some o'
 eY:∀b xs,H b=some (.tup xs)->H' b=some (.tup xs)
 uy:∀b o u,H b=some (.cV o u)->H' b=some (.cV o u)
 zX:∀b ps,H b=some (.Yj ps)->∃more,H' b=some (.Yj (ps++more))
section
variable {fs ex:List Addr}{H H1:Hp}{h h1 h':Heap}{a x e:Addr}{o:HO}
def Un.any (u:Un fs ex H H1 h h1) {b:Addr}{ob:Obj} (q:h.get? b=some ob) (n:H b=none) (hx:b∉ex):∃sl,h1.get? b=some {ob with slots:=sl}:=by
 by_cases hb:b∈fs
 ·exact u.slot b ob q n hb hx
 ·exact⟨ob.slots,u.keep b ob q n hb hx⟩
def Un.kept (k:∀b u,h.get? b=some u->h'.get? b=some u):Un fs ex H H h h':=
 ⟨fun b ob q _ _ _=>k b ob q,fun b ob q _ _ _=>⟨ob.slots,k b ob q⟩,fun _ _ _ n _=>n,fun b ob q _=>⟨ob,k b ob q⟩,fun _ _ q=>q,fun _ _ _ q=>q,fun _ ps q=>⟨#[],by rw [q];simp⟩⟩
def Un.refl:Un fs ex H H h h:=Un.kept fun _ _ q=>q
def Un.laid (k:∀b u,h.get? b=some u->h'.get? b=some u) (hp:h.objs.size<=a) (hn:H a=none):Un fs ex H (upd H a o) h h' where
 keep:=fun b u q _ _ _=>k b u q
 slot:=fun b u q _ _ _=>⟨u.slots,k b u q⟩
 free:=fun b u q n _=>by rw [ay (AI (AA (Ar q) hp))];exact n
 there:=fun b u q _=>⟨u,k b u q⟩
 eY:=fun b xs q=>by rw [ay (bK q hn)];exact q
 uy:=fun b u xs q=>by rw [ay (bK q hn)];exact q
 zX:=fun b ps q=>⟨#[],by rw [ay (bK q hn),q];simp⟩
def Un.write (mu:Mut (H x)) (he:e=x\/H e=some (.own x)) (k:∀b u,b≠e->h.get? b=some u->h'.get? b=some u) (heo:∃u,h'.get? e=some u):Un fs ex H (upd H x o) h h':=by
 have hx:∀b,H b=none->b≠x:=fun b n z=>by subst z;rw [n] at mu;exact mu
 have hb:∀b,H b=none->b≠e:=fun b n z=>by
  subst z;rcases he with r | r
  ·exact hx b n r
  ·rw [n] at r;cases r
 have hm:∀b u,H b=some u->¬Mut (some u)->b≠x:=fun b u q nm z=>by subst z;rw [q] at mu;exact nm mu
 refine⟨fun b u q n _ _=>k b u (hb b n) q,fun b u q n _ _=>⟨u.slots,k b u (hb b n) q⟩,fun b u q n _=>by rw [ay (hx b n)];exact n,fun b u q _=>?_,
  fun b xs q=>by rw [ay (hm b _ q fun z=>z)];exact q,fun b u xs q=>by rw [ay (hm b _ q fun z=>z)];exact q,fun b ps q=>⟨#[],by rw [ay (hm b _ q fun z=>z),q];simp⟩⟩
 by_cases ZU:b=e
 ·subst ZU;exact heo
 ·exact⟨u,k b u ZU q⟩
end
def trk (h:Heap) (H:Hp):List Addr:=(Av h.objs.size).filter fun a=>(H a).isSome
def GN (h:Heap) (H:Hp):Heap:=PySem.W.hideAll h (trk h H)
def O2 (h:Heap) (H:Hp):(GN h H).objs.size=h.objs.size:=PySem.W.hideAll_size _ _
def Si {h:Heap}{H:Hp}{b:Addr}{o:Obj} (e:h.get? b=some o) (n:H b=none):(GN h H).get? b=some o:=
 PySem.W.hideAll_get _ e fun hm=>by
  have q:(H b).isSome=true:=(AL.mp hm).2;rw [n] at q;simp at q
def Vi {h:Heap}{H:Hp}{b:Addr}{o:Obj} (e:(GN h H).get? b=some o):h.get? b=some o/\H b=none:=by
 have e':h.get? b=some o:=PySem.W.of_hideAll (trk h H) e;refine⟨e',?_⟩;cases q:H b with
 | none=>rfl
 | some x=>
  have hm:b∈trk h H:=AL.mpr ⟨AE.mpr (Ar e'),by simp [q]⟩;have z:(GN h H).get? b=none:=PySem.W.hideAll_none (trk h H) hm;rw [z] at e;cases e
def WO (g h:Heap) (L:Addr):List (Addr×Obj):=(Av h.objs.size).filterMap fun a=>if a=L\/(g.get? a).isSome=true then none else (h.get? a).map fun o=>(a,o)
def rest (g h:Heap) (L d:Addr):List (Addr×Obj):=(WO g h L).filter fun p=>decide (p.1≠d)
structure Mod (K:Ab) (mg:Str->Option Value) (base:Heap):Prop where
 kin:K.In base
 glob:base.Ns mainGlobals mg
 blt:∃mb,base.Ns builtinsNs mb/\∀x:Str,x≠"__name__"->mb x=bootBuiltins x
 nolimit:base.NoLimit
structure Cx where
 prog:Program
 w:World
 K:Ab
 mg:Str->Option Value
 base:Heap
 A:Around
 N:List Str
 s₀:Shared
 H₀:Hp
 env:Env
 outer:List Env
 stack:List Env
 ex:List Addr
 fn:Str->Bool
 calm:Bool
 pn:List (Addr×Obj)
 xe:Value->Shared->Prop
def Qg (l:List Env):List Addr:=l.filterMap (·.frame)
abbrev Cx.fs (X:Cx):List Addr:=Qg X.outer
def Hv (sc:Scope) (x:Str):Prop:=sc.names.lookup x=some .local\/sc.names.lookup x=some .cell\/sc.names.lookup x=some .free
def Loc (sc:Scope) (x:Str):Prop:=sc.names.lookup x=some .local\/sc.names.lookup x=some .cell
def Look (env:Env) (h:Heap) (m:Str->Option Value) (x:Str) (u:Value):Prop:=
 (env.kindOf x=some .local/\m x=some u)\/((env.kindOf x=some .cell\/env.kindOf x=some .free)/\∃c,env.cells.lookup x=some c/\h.IsCell c (some u))
structure Cx.Ok (X:Cx):Prop where
 mod:Mod X.K X.mg X.base
 kind:X.env.scope.kind=.function
 glob:X.env.globals=mainGlobals
 blt:X.env.builtins=builtinsNs
 above:X.s₀.heap.objs.size<=X.env.locals
 inj:∀x y c,X.env.cells.lookup x=some c->X.env.cells.lookup y=some c->x=y
 has:∀x,(X.env.kindOf x=some .cell\/X.env.kindOf x=some .free)->∃c,X.env.cells.lookup x=some c
 cab:∀x c,X.fn x=true->X.env.cells.lookup x=some c->X.s₀.heap.objs.size<=c
 hd:X.calm=true->X.A.handled=none
 frames:X.A.frames=some X.stack
 stk:X.stack=X.outer\/(X.stack=X.env::X.outer/\X.env.frame=some X.env.locals)
 exf:∀b∈X.ex,b≠X.env.locals/\∀x c,X.env.cells.lookup x=some c->c≠b
 bs:∀b o,X.base.get? b=some o->X.s₀.heap.get? b=some o/\X.H₀ b=none
 X2:X.base.objs.size<=X.s₀.heap.objs.size
 Rx:∀b o,X.base.get? b=some o->b∉X.ex
 SE:∀b∈X.ex,b∉X.fs
 wQ:X.s₀.heap.FunFrames X.base X.outer
 frf:∀b∈X.fs,X.H₀ b=none
structure Inv (X:Cx) (pins:List (Addr×Obj)) (σ:List (Option V)) (H:Hp) (s:Shared):Prop where
 ok:X.Ok
 os:s.os=X.s₀.os
 bare:AllBare s.gens
 base:Un X.fs X.ex X.H₀ H X.s₀.heap s.heap
 loc:∃m,s.heap.Ns X.env.locals m/\∀(i:Nat) (x:Str) (v:V),X.N[i]?=some x->σ[i]?=some (some v)->Hv X.env.scope x->∃u,RelV v u/\Look X.env s.heap m x u
 cell:∀x c,X.env.cells.lookup x=some c->∃v,s.heap.IsCell c v
 free:H X.env.locals=none
 lN:∀x c,X.env.cells.lookup x=some c->H c=none
 pin:∀p∈X.pn++pins,s.heap.get? p.1=some p.2/\H p.1=none/\p.1≠X.env.locals/\p.1∉X.fs/\∀v,p.2.data≠.cell v
 bG:nJ X.prog X.w H s.heap
 len:σ.length=X.N.length
section
variable {X:Cx}{pins:List (Addr×Obj)}{σ:List (Option V)}{H H':Hp}{s:Shared}{h':Heap}
def Cx.Ok.afY (ok:X.Ok) {b:Addr}{o:Obj} (e:X.base.get? b=some o):b∉X.fs:=fun hb=>by
 have:=(ok.wQ.mem hb).1;rw [e] at this;cases this
def Inv.bs (I:Inv X pins σ H s):∀b o,X.base.get? b=some o->s.heap.get? b=some o/\H b=none:=fun b o e=>
 ⟨I.base.keep b o (I.ok.bs b o e).1 (I.ok.bs b o e).2 (I.ok.afY e) (I.ok.Rx b o e),I.base.free b o (I.ok.bs b o e).1 (I.ok.bs b o e).2 (I.ok.Rx b o e)⟩
def Inv.bk (I:Inv X pins σ H s):∀b o,X.base.get? b=some o->s.heap.get? b=some o:=fun b o e=>(I.bs b o e).1
def Inv.mod (I:Inv X pins σ H s):Mod X.K X.mg X.base:=I.ok.mod
def Inv.yA (I:Inv X pins σ H s):X.K.In s.heap:=I.ok.mod.kin.keeps I.bk
def Inv.lt (I:Inv X pins σ H s):X.env.locals < s.heap.objs.size:=let ⟨_,hn,_⟩:=I.loc;hn.lt
def Inv.sz (I:Inv X pins σ H s):X.s₀.heap.objs.size<=s.heap.objs.size:=Bq I.ok.above (DH I.lt)
def Inv.afX (I:Inv X pins σ H s) {a:Addr} (h:s.heap.objs.size<=a):a∉X.fs:=fun hb=>by
 obtain⟨_,o,ho,_⟩:=I.ok.wQ.mem hb;exact absurd (AA (Ar ho) (Bq I.sz h)) (A4 _)
def Inv.cne (I:Inv X pins σ H s):∀x c,X.env.cells.lookup x=some c->c≠X.env.locals:=fun x c e z=>by
 obtain⟨v,o,ho,hd⟩:=I.cell x c e;obtain⟨m,⟨o',es,ep,Se,hd',_⟩,_⟩:=I.loc;rw [z,Se] at ho;cases ho;rw [hd'] at hd;cases hd
def Inv.wQ (I:Inv X pins σ H s):s.heap.FunFrames X.base X.outer:=by
 have all:∀(l:List Env),(∀b∈Qg l,b∈X.fs)->X.s₀.heap.FunFrames X.base l->s.heap.FunFrames X.base l:=by
  intro l
  induction l with
  | nil=>intro _ _;trivial
  | cons env r ih=>
   intro hs hl;obtain⟨hk,⟨L,o,hf,hn,ho,hd⟩,hr⟩:=hl;have hL:L∈X.fs:=hs L (by unfold Qg;rw [BB,hf];exact Bx);obtain⟨sl,e⟩:=I.base.slot L o ho (I.ok.frf L hL) hL fun z=>I.ok.SE L z hL;exact⟨hk,⟨L,_,hf,hn,e,hd⟩,ih (fun b hb=>hs b (by unfold Qg;rw [BB,hf];exact AV _ hb)) hr⟩
 exact all X.outer (fun _ hb=>hb) I.ok.wQ
def Inv.stack (I:Inv X pins σ H s):s.heap.FunFrames X.base X.stack:=by
 rcases I.ok.stk with e | ⟨e,hf⟩
 ·rw [e];exact I.wQ
 ·rw [e];obtain⟨m,hn,_⟩:=I.loc;refine .cons (by rw [I.ok.kind];decide) hf hn ?_ I.wQ;exact Heap.get?_none_of_le (Bq I.ok.X2 I.ok.above)
def Inv.Kl (I:Inv X pins σ H s):∀b∈Qg X.stack,b∈X.env.locals::X.fs:=fun b hb=>by
 rcases I.ok.stk with e | ⟨e,hf⟩
 ·rw [e] at hb;exact AV _ hb
 ·rw [e] at hb;unfold Qg at hb;rw [BB,hf] at hb;exact hb
def Inv.MH (I:Inv X pins σ H s):∀b∈Qg X.stack,H b=none:=fun b hb=>by
 rcases Ay.mp (I.Kl b hb) with e | hb
 ·rw [e];exact I.free
 ·obtain⟨_,o,ho,_⟩:=I.ok.wQ.mem hb;exact I.base.free b o ho (I.ok.frf b hb) fun z=>I.ok.SE b z hb
def Inv.step {g':Array GenState}{t':Nat}{d':Drawn}{ch:List Addr} (I:Inv X pins σ H s)
  (TZ:∀b∈ch,(b∈X.ex\/X.s₀.heap.objs.size<=b)/\b≠X.env.locals/\(∀x c,X.env.cells.lookup x=some c->c≠b)/\∀p∈X.pn++pins,p.1≠b)
  (keep:∀b o,b≠X.env.locals->b∉X.fs->b∉ch->s.heap.get? b=some o->H b=none->h'.get? b=some o)
  (slot:∀b o,b≠X.env.locals->b∈X.fs->b∉ch->s.heap.get? b=some o->H b=none->∃sl,h'.get? b=some {o with slots:=sl}) (free:∀b o,b∉ch->s.heap.get? b=some o->H b=none->H' b=none)
  (there:∀b o,b∉ch->s.heap.get? b=some o->∃o',h'.get? b=some o')
  (eY:∀b xs,H b=some (.tup xs)->H' b=some (.tup xs)) (uy:∀b o u,H b=some (.cV o u)->H' b=some (.cV o u)) (zX:∀b ps,H b=some (.Yj ps)->∃more,H' b=some (.Yj (ps++more)))
  (ns:∀m,s.heap.Ns X.env.locals m->h'.Ns X.env.locals m) (bG:nJ X.prog X.w H' h') (hg:AllBare g') :
  Inv X pins σ H' {s with heap:=h',gens:=g',drawn:=d',toks:=t'}:=by
 have neL:∀b o,X.s₀.heap.get? b=some o->b≠X.env.locals:=fun b o e=>AI (AA (Ar e) I.ok.above);have neC:∀b o,X.s₀.heap.get? b=some o->b∉X.ex->b∉ch:=fun b o e hx hb=>by
  rcases (TZ b hb).1 with z | z
  ·exact hx z
  ·exact absurd (AA (Ar e) z) (A4 _)
 have cellK:∀x c,X.env.cells.lookup x=some c->∀v,s.heap.IsCell c v->h'.IsCell c v:=fun x c e v ⟨o,ho,hd⟩=>by
  have nch:c∉ch:=fun z=>(TZ c z).2.2.1 x c e rfl;by_cases hc:c∈X.fs
  ·obtain⟨sl,q⟩:=slot c o (I.cne x c e) hc nch ho (I.lN x c e);exact⟨_,q,hd⟩
  ·exact⟨o,keep c o (I.cne x c e) hc nch ho (I.lN x c e),hd⟩
 refine⟨I.ok,I.os,hg,⟨fun b o e n hb hx=>?_,fun b o e n hb hx=>?_,fun b o e n hx=>?_,fun b o e hx=>?_,fun b xs e=>eY b xs (I.base.eY b xs e),fun b o xs e=>uy b o xs (I.base.uy b o xs e),fun b ps e=>?_⟩,?_,fun x c e=>?_,?_,fun x c e=>?_,fun p hp=>?_,bG,I.len⟩
 ·exact keep b o (neL b o e) hb (neC b o e hx) (I.base.keep b o e n hb hx) (I.base.free b o e n hx)
 ·obtain⟨sl,e1⟩:=I.base.slot b o e n hb hx;obtain⟨sl',e2⟩:=slot b _ (neL b o e) hb (neC b o e hx) e1 (I.base.free b o e n hx);exact⟨sl',e2⟩
 ·obtain⟨o',e1⟩:=I.base.there b o e hx;exact free b o' (neC b o e hx) e1 (I.base.free b o e n hx)
 ·obtain⟨o',e1⟩:=I.base.there b o e hx;exact there b o' (neC b o e hx) e1
 ·obtain⟨m1,e1⟩:=I.base.zX b ps e;obtain⟨m2,e2⟩:=zX b _ e1;exact⟨m1++m2,by rw [e2,Array.append_assoc]⟩
 ·obtain⟨m,hn,hl⟩:=I.loc;refine⟨m,ns m hn,fun i x v e1 e2 e3=>?_⟩;obtain⟨u,r,l⟩:=hl i x v e1 e2 e3;refine⟨u,r,?_⟩;rcases l with l | ⟨k,c,e,z⟩
  ·exact .inl l
  ·exact .inr ⟨k,c,e,cellK x c e _ z⟩
 ·obtain⟨v,z⟩:=I.cell x c e;exact⟨v,cellK x c e v z⟩
 ·obtain⟨m,⟨o,_,_,ho,_⟩,_⟩:=I.loc;exact free _ o (fun z=>(TZ _ z).2.1 rfl) ho I.free
 ·obtain⟨v,o,ho,hd⟩:=I.cell x c e;exact free c o (fun z=>(TZ c z).2.2.1 x c e rfl) ho (I.lN x c e)
 ·obtain⟨e,n,ne,nf,d⟩:=I.pin p hp;have nch:p.1∉ch:=fun z=>(TZ p.1 z).2.2.2 p hp rfl;exact⟨keep p.1 p.2 ne nf nch e n,free p.1 p.2 nch e n,ne,nf,d⟩
def Inv.un {t':Nat} (I:Inv X pins σ H s) (u:Un X.fs [] H H' s.heap h') (bG:nJ X.prog X.w H' h'):Inv X pins σ H' {s with heap:=h',toks:=t'}:=by
 obtain⟨m,⟨o,es,ep,ho,r⟩,_⟩:=id I.loc;obtain⟨sl,hL⟩:=u.any ho I.free (by simp);exact I.step (g':=s.gens) (d':=s.drawn) (ch:=[]) (fun _ z=>nomatch z) (fun b o _ hb _ e n=>u.keep b o e n hb (by simp)) (fun b o _ hb _ e n=>u.slot b o e n hb (by simp)) (fun b o _ e n=>u.free b o e n (by simp)) (fun b o _ e=>u.there b o e (by simp)) u.eY u.uy u.zX (fun m' hm=>by
  obtain⟨o',es',ep',Se,r'⟩:=hm;rw [ho] at Se;cases Se;exact⟨_,es',ep',hL,r'⟩) bG I.bare
def Inv.call {g':Array GenState}{t':Nat}{d':Drawn}{ch:List Addr} (I:Inv X pins σ H s) (u:Un (Qg X.stack) ch H H' s.heap h') (bG:nJ X.prog X.w H' h') (hg:AllBare g')
  (TZ:∀b∈ch,(b∈X.ex\/X.s₀.heap.objs.size<=b)/\b≠X.env.locals/\(∀x c,X.env.cells.lookup x=some c->c≠b)/\∀p∈X.pn++pins,p.1≠b) :
  Inv X pins σ H' {s with heap:=h',gens:=g',drawn:=d',toks:=t'}:=by
 obtain⟨m,⟨o,es,ep,ho,r⟩,_⟩:=id I.loc;obtain⟨sl,hL⟩:=u.any ho I.free fun z=>(TZ _ z).2.1 rfl;exact I.step (ch:=ch) TZ (fun b o hL hb hc e n=>u.keep b o e n (fun z=>(Ay.mp (I.Kl b z)).elim hL hb) hc) (fun b o _ _ hc e n=>u.any e n hc) (fun b o hc e n=>u.free b o e n hc) (fun b o hc e=>u.there b o e hc) u.eY u.uy u.zX (fun m' hm=>by
  obtain⟨o',es',ep',Se,r'⟩:=hm;rw [ho] at Se;cases Se;exact⟨_,es',ep',hL,r'⟩) bG hg
def Inv.turned {t':Nat}{it:Addr} (I:Inv X pins σ H s) (k:∀b o,b≠it->s.heap.get? b=some o->h'.get? b=some o) (hn:H it=none) (hL:it≠X.env.locals)
  (h1:it∈X.ex\/X.s₀.heap.objs.size<=it) (h2:∀x c,X.env.cells.lookup x=some c->c≠it) (h3:∀p∈X.pn++pins,p.1≠it):Inv X pins σ H {s with heap:=h',toks:=t'}:=by
 have Xm:∀b u,H b=some u->b≠it:=fun b u e z=>by rw [z,hn] at e;cases e
 refine I.step (g':=s.gens) (d':=s.drawn) (ch:=[it]) (fun b hb=>?_) (fun b o _ _ hc e _=>k b o (fun z=>hc (by simp [z])) e) (fun b o _ _ hc e _=>⟨o.slots,k b o (fun z=>hc (by simp [z])) e⟩) (fun _ _ _ _ n=>n)
  (fun b o hc e=>⟨o,k b o (fun z=>hc (by simp [z])) e⟩) (fun _ _ e=>e) (fun _ _ _ e=>e) (fun b ps e=>⟨#[],by rw [e];simp⟩) (fun m hm=>?_) (fun b u e=>?_) I.bare
 ·have e:b=it:=by simpa using hb
  subst e;exact⟨h1,hL,h2,h3⟩
 ·obtain⟨o,es,ep,ho,r⟩:=hm;exact⟨o,es,ep,k _ o (BF hL) ho,r⟩
 ·refine (I.bG b u e).FK (fun c v hc q=>k c v ?_ q) (fun _ q=>q) fun _ _ q=>q;rcases hc with z | z
  ·rw [z];exact Xm b u e
  ·exact Xm c _ z
def Inv.tok (I:Inv X pins σ H s) (t:Nat):Inv X pins σ H {s with toks:=t}:=I.un (h':=s.heap) (t':=t) Un.refl I.bG
def Inv.kept {t':Nat} (I:Inv X pins σ H s) (k:∀b u,s.heap.get? b=some u->h'.get? b=some u):Inv X pins σ H {s with heap:=h',toks:=t'}:=I.un (Un.kept k) (I.bG.kept k)
def Inv.laid {a:Addr}{o:HO}{t':Nat} (I:Inv X pins σ H s) (k:∀b u,s.heap.get? b=some u->h'.get? b=some u) (hp:s.heap.objs.size<=a) (new:bj X.prog X.w (upd H a o) h' a o) :
  Inv X pins σ (upd H a o) {s with heap:=h',toks:=t'}:=I.un (Un.laid k hp (I.bG.fresh hp)) (I.bG.laid k hp new)
def Inv.write {x e:Addr}{o:HO}{t':Nat} (I:Inv X pins σ H s) (mu:Mut (H x)) (he:e=x\/H e=some (.own x)) (k:∀b u,b≠e->s.heap.get? b=some u->h'.get? b=some u) (heo:∃u,h'.get? e=some u)
  (new:bj X.prog X.w (upd H x o) h' x o):Inv X pins σ (upd H x o) {s with heap:=h',toks:=t'}:=I.un (Un.write mu he k heo) (I.bG.write mu he k heo new)
def Inv.M3 {Ip:List (Addr×Obj)} (I:Inv X pins σ H s) (h:∀p∈Ip,s.heap.get? p.1=some p.2/\H p.1=none/\p.1≠X.env.locals/\p.1∉X.fs/\∀v,p.2.data≠.cell v):Inv X Ip σ H s:=
 ⟨I.ok,I.os,I.bare,I.base,I.loc,I.cell,I.free,I.lN,fun p hp=>(Bj.mp hp).elim (fun z=>I.pin p (Cg _ z)) (h p),I.bG,I.len⟩
def ID {N:List Str} (hN:N.Nodup) {i j:Nat}{x:Str} (a:N[i]?=some x) (b:N[j]?=some x):i=j:=by
 obtain⟨h1,e1⟩:=Ak.mp a;obtain⟨h2,e2⟩:=Ak.mp b;exact (Eo hN).mp (e1.trans e2.symm)
def yQ {M:Model}{A:Around}{E:Value->Shared->Prop}{i:Nat}{x:Str}{v:V}{u:Value}{Q:Unit->Shared->Prop} (I:Inv X pins σ H s) (hN:X.N.Nodup) (hi:X.N[i]?=some x) (hx:Loc X.env.scope x) (r:RelV v u)
  (h:∀s',Inv X pins (σ.set i (some v)) H s'->(∃a,B3 a s.heap s'.heap/\(a=X.env.locals\/X.env.cells.lookup x=some a))->Q () s') (hf:X.fn x=true\/X.env.scope.names.lookup x=some .local:=by first | exact .inl rfl | exact .inr rfl | assumption):wpAny M A (storeName X.env x u) Q E s:=by
 obtain⟨m,hn,hl⟩:=id I.loc;have agL:(X.env.scope.kind==.class||(X.env.scope.kind==.module&&X.env.locals != X.env.globals))=false:=by rw [I.ok.kind];rfl
 have ac9:i < σ.length:=by rw [I.len];exact (Ak.mp hi).1
 have cne:=I.cne;have tracked:∀{a:Addr}{h':Heap},(∃o,s.heap.get? a=some o/\H a=none)->B3 a s.heap h'->nJ X.prog X.w H h':=fun {a h'} ha hs b ob e=>by
  obtain⟨_,_,XE⟩:=ha;refine (I.bG b ob e).FK (fun c w' hc q=>(hs.2 c ?_).trans q) (fun _ q=>q) fun _ _ q=>q;rintro rfl;rcases hc with rfl | hc
  ·rw [XE] at e;cases e
  ·rw [XE] at hc;cases hc
 rcases hx with hk | hk
 ·refine wpAny_storeName_local hk hn (fun h' hn' hs=>?_) agL;obtain⟨oL,_,_,hoL,_⟩:=id hn;refine h _ ⟨I.ok,I.os,I.bare,⟨fun b o e n hb hx=>?_,fun b o e n hb hx=>?_,I.base.free,fun b o e hx=>?_,I.base.eY,I.base.uy,I.base.zX⟩,⟨_,hn',fun j y v' e1 e2 e3=>?_⟩,fun y c e=>?_,I.free,I.lN,fun p hp=>?_,tracked ⟨oL,hoL,I.free⟩ hs,by simpa using I.len⟩ ⟨_,hs,.inl rfl⟩
  ·exact (hs.2 b (AI (AA (Ar e) I.ok.above))).trans (I.base.keep b o e n hb hx)
  ·obtain⟨sl,e1⟩:=I.base.slot b o e n hb hx;exact⟨sl,(hs.2 b (AI (AA (Ar e) I.ok.above))).trans e1⟩
  ·obtain⟨o',e1⟩:=I.base.there b o e hx;exact⟨o',(hs.2 b (AI (AA (Ar e) I.ok.above))).trans e1⟩
  ·by_cases hj:j=i
   ·subst hj;rw [hi] at e1;cases e1;rw [Bc ac9] at e2;cases e2;exact⟨u,r,.inl ⟨hk,by simp⟩⟩
   ·rw [A5 (BF hj)] at e2;obtain⟨u',r',q⟩:=hl j y v' e1 e2 e3;refine⟨u',r',?_⟩;rcases q with⟨k,e⟩ | ⟨k,c,e,z⟩
    ·refine .inl ⟨k,?_⟩;have:y≠x:=fun e=>hj (ID hN e1 (e▸hi));simp [this,e]
    ·exact .inr ⟨k,c,e,z.sameBut hs (cne y c e)⟩
  ·obtain⟨w',z⟩:=I.cell y c e;exact⟨w',z.sameBut hs (cne y c e)⟩
  ·obtain⟨e,n,ne,nf,d⟩:=I.pin p hp;exact⟨(hs.2 p.1 ne).trans e,n,ne,nf,d⟩
 ·have hfn:X.fn x=true:=by
   rcases hf with z | z
   ·exact z
   ·rw [z] at hk;cases hk
  obtain⟨c,hc⟩:=I.ok.has x (.inl hk);obtain⟨w',z⟩:=I.cell x c hc;refine wpAny_storeName_cell I.ok.kind hk hc z (fun h' T3 hs=>?_);obtain⟨oc,hoc,agx⟩:=id z;refine h {s with heap:=h'} ⟨I.ok,I.os,I.bare,⟨fun b o e n hb hx=>?_,fun b o e n hb hx=>?_,I.base.free,fun b o e hx=>?_,I.base.eY,I.base.uy,I.base.zX⟩,⟨m,hn.sameBut hs (BF (cne x c hc)),fun j y v' e1 e2 e3=>?_⟩,fun y c' e=>?_,I.free,I.lN,fun p hp=>?_,tracked ⟨oc,hoc,I.lN x c hc⟩ hs,by simpa using I.len⟩ ⟨c,hs,.inr hc⟩
  ·exact (hs.2 b (AI (AA (Ar e) (I.ok.cab x c hfn hc)))).trans (I.base.keep b o e n hb hx)
  ·obtain⟨sl,e1⟩:=I.base.slot b o e n hb hx;exact⟨sl,(hs.2 b (AI (AA (Ar e) (I.ok.cab x c hfn hc)))).trans e1⟩
  ·obtain⟨o',e1⟩:=I.base.there b o e hx;exact⟨o',(hs.2 b (AI (AA (Ar e) (I.ok.cab x c hfn hc)))).trans e1⟩
  ·by_cases hj:j=i
   ·subst hj;rw [hi] at e1;cases e1;rw [Bc ac9] at e2;cases e2;exact⟨u,r,.inr ⟨.inl hk,c,hc,T3⟩⟩
   ·rw [A5 (BF hj)] at e2;obtain⟨u',r',q⟩:=hl j y v' e1 e2 e3;refine⟨u',r',?_⟩;rcases q with q | ⟨k,c',e,z'⟩
    ·exact .inl q
    ·refine .inr ⟨k,c',e,z'.sameBut hs ?_⟩;rintro rfl;exact hj (ID hN e1 (I.ok.inj _ _ _ e hc▸hi))
  ·by_cases hcc:c'=c
   ·subst hcc;exact⟨_,T3⟩
   ·obtain⟨w2,z2⟩:=I.cell y c' e;exact⟨w2,z2.sameBut hs hcc⟩
  ·obtain⟨e,n,ne,nf,d⟩:=I.pin p hp;refine⟨(hs.2 p.1 ?_).trans e,n,ne,nf,d⟩;intro q;rw [q,hoc] at e;have q':oc=p.2:=Option.some.inj e;exact d w' (by rw [<- q'];exact agx)
def HW {M:Model}{A:Around}{E:Value->Shared->Prop}{i:Nat}{x:Str}{v:V}{u:Value}{Q:Unit->Shared->Prop} (I:Inv X pins σ H s) (hN:X.N.Nodup) (hi:X.N[i]?=some x) (hx:Loc X.env.scope x) (r:RelV v u)
  (h:∀s',Inv X pins (σ.set i (some v)) H s'->Q () s') (hf:X.fn x=true\/X.env.scope.names.lookup x=some .local:=by first | exact .inl rfl | exact .inr rfl | assumption):wpAny M A (storeName X.env x u) Q E s:=
 yQ I hN hi hx r (fun s' I' _=>h s' I') hf
def Inv.adX {s':Shared}{ch:List Addr} (I:Inv X pins σ H s) (ho:s'.os=s.os) (u:Un (Qg X.stack) ch H H' s.heap s'.heap) (bG:nJ X.prog X.w H' s'.heap) (hg:AllBare s'.gens)
  (TZ:∀b∈ch,(b∈X.ex\/X.s₀.heap.objs.size<=b)/\b≠X.env.locals/\(∀x c,X.env.cells.lookup x=some c->c≠b)/\∀p∈X.pn++pins,p.1≠b):Inv X pins σ H' s':=by
 obtain⟨h',g',d',t',o'⟩:=s';have e:o'=s.os:=ho;subst e;exact I.call (g':=g') (t':=t') (d':=d') u bG hg TZ
end
abbrev XK:=Value->Option Addr->Hp->Prop
abbrev St:=List (Option V)
abbrev VK:=V->Hp->Prop
abbrev TE:=St->Hp->VK->Prop
abbrev TT:=St->Hp->(Bool->Hp->Prop)->Prop
abbrev TA:=St->Hp->(List V->Hp->Prop)->Prop
structure Ends where
 nx:St->Hp->Prop
 rt:VK
 bk:St->Hp->Prop:=fun _ _=>False
 ct:St->Hp->Prop:=fun _ _=>False
abbrev TS:=Ends->St->Hp->Prop
def EP (X:Cx) (pins:List (Addr×Obj)) (σ:St) (Q:VK) (u:Value) (s':Shared):Prop:=∃v H',Inv X pins σ H' s'/\RelV v u/\Q v H'
def TP (X:Cx) (pins:List (Addr×Obj)) (σ:St) (Q:Bool->Hp->Prop) (b:Bool) (s':Shared):Prop:=∃H',Inv X pins σ H' s'/\Q b H'
def AP (X:Cx) (pins:List (Addr×Obj)) (σ:St) (Q:List V->Hp->Prop) (us:List Value) (s':Shared):Prop:=∃vs H',Inv X pins σ H' s'/\Vals vs us/\Q vs H'
def SP (X:Cx) (pins:List (Addr×Obj)) (D:Ends) (f:Flow) (s':Shared):Prop:=
 match f with
 | .next=>∃σ' H',Inv X pins σ' H' s'/\D.nx σ' H'
 | .brk=>∃σ' H',Inv X pins σ' H' s'/\D.bk σ' H'
 | .cont=>∃σ' H',Inv X pins σ' H' s'/\D.ct σ' H'
 | .ret u=>∃v σ' H',Inv X pins σ' H' s'/\RelV v u/\D.rt v H'
def PE (X:Cx) (e:Expr) (t:TE):Prop:=
 ∀(pins:List (Addr×Obj)) (s:Shared) (σ:St) (H:Hp) (Q:VK),Inv X pins σ H s->t σ H Q->wpAny (model X.prog X.w) X.A (eval e X.env) (EP X pins σ Q) X.xe s
def PT (X:Cx) (e:Expr) (t:TT):Prop:=
 ∀(pins:List (Addr×Obj)) (s:Shared) (σ:St) (H:Hp) (Q:Bool->Hp->Prop),Inv X pins σ H s->t σ H Q->wpAny (model X.prog X.w) X.A (isTrue e X.env (eval e X.env)) (TP X pins σ Q) X.xe s
def PW (X:Cx) (e:Expr) (t:TT):Prop:=
 ∀(whole:Sem Value) (pins:List (Addr×Obj)) (s:Shared) (σ:St) (H:Hp) (Q:Bool->Hp->Prop),Inv X pins σ H s->t σ H Q->wpAny (model X.prog X.w) X.A (isTrue e X.env whole) (TP X pins σ Q) X.xe s
def PW.pt {X:Cx}{e:Expr}{t:TT} (h:PW X e t):PT X e t:=h _
def PA (X:Cx) (es:List Expr) (t:TA):Prop:=
 ∀(pos:Pos) (pins:List (Addr×Obj)) (s:Shared) (σ:St) (H:Hp) (Q:List V->Hp->Prop),Inv X pins σ H s->t σ H Q->wpAny (model X.prog X.w) X.A (spliced (backTo pos (starEach es X.env))) (AP X pins σ Q) X.xe s
def PS (X:Cx) (st:Stmt) (t:TS):Prop:=
 ∀(pins:List (Addr×Obj)) (s:Shared) (σ:St) (H:Hp) (D:Ends),Inv X pins σ H s->t D σ H->wpAny (model X.prog X.w) X.A (exec st X.env) (SP X pins D) X.xe s
def u0 (X:Cx) (st:List Stmt) (t:TS):Prop:=
 ∀(pins:List (Addr×Obj)) (s:Shared) (σ:St) (H:Hp) (D:Ends),Inv X pins σ H s->t D σ H->wpAny (model X.prog X.w) X.A (execs st X.env) (SP X pins D) X.xe s
def bD {α:Type}{t:Sem α}{Q Q':α->Shared->Prop}{M:Model}{A:Around}{E:Value->Shared->Prop}{s:Shared} (h:wpAny M A t Q E s) (hQ:∀a s,Q a s->Q' a s):wpAny M A t Q' E s:=BK h hQ fun _ _ x=>x
section
variable {X:Cx}
def bin {a b:Expr}{ta tb:TE} (ha:PE X a ta) (hb:PE X b tb) {pins:List (Addr×Obj)}{s:Shared}{σ:St}{H:Hp}{R:V->V->Hp->Prop} (I:Inv X pins σ H s) (h:ta σ H fun x H1=>tb σ H1 fun y H2=>R x y H2)
  {α:Type}{Q:α->Shared->Prop}{f:Value->Value->Sem α}
  (hf:∀v u s2 x y H2,Inv X pins σ H2 s2->RelV x v->RelV y u->R x y H2->wpAny (model X.prog X.w) X.A (f v u) Q X.xe s2) :
  wpAny (model X.prog X.w) X.A (eval a X.env) (fun v s₁=>wpAny (model X.prog X.w) X.A (eval b X.env) (fun u s₂=>wpAny (model X.prog X.w) X.A (f v u) Q X.xe s₂) X.xe s₁) X.xe s:=by
 refine bD (ha pins s σ H _ I h) fun v s1 ⟨x,H1,I1,r1,q1⟩=>?_;refine bD (hb pins s1 σ H1 _ I1 q1) fun u s2 ⟨y,H2,I2,r2,q2⟩=>?_;exact hf v u s2 x y H2 I2 r1 r2 q2
def abr (i:Nat):TE:=fun σ H Q=>∃v,σ[i]?=some (some v)/\Q v H
def tC (v:V):TE:=fun _ H Q=>Q v H
def dw {i:Nat}{x:Str}{pos:Pos} (hN:X.N[i]?=some x) (hv:Hv X.env.scope x) (hd:(x==("__debug__":Str))=false:=by decide) (jw:(x==("__classdict__":Str))=false:=by decide):PE X (.Name x pos) (abr i):=by
 intro pins s σ H Q I h;obtain⟨v,e,h⟩:=h;obtain⟨m,hn,hl⟩:=I.loc;obtain⟨u,r,l⟩:=hl i x v hN e hv;have fin:EP X pins σ Q u s:=⟨v,H,I,r,h⟩;rcases l with⟨hk,hm⟩ | ⟨hk,c,hc,XI⟩
 ·exact wpAny_Name (wpAny_loadName_local I.ok.kind hk hn hm fin) hd
 ·rcases hk with hk | hk
  ·exact wpAny_Name (wpAny_loadName_cell I.ok.kind hk hc XI fin) hd
  ·exact wpAny_Name (wpAny_loadName_free I.ok.kind hk hc XI fin jw) hd
def YZ {i j pos}:PE X (.Constant (.int i) j pos) (tC (.int i)):=fun _ _ _ H _ I h=>wpAny_Constant_int ⟨.int i,H,I.tok _,⟨_,rfl⟩,h⟩
def acf {b j pos}:PE X (.Constant (.bool b) j pos) (tC (.bl b)):=fun _ _ _ H _ I h=>Constant_bool ⟨.bl b,H,I,rfl,h⟩
def YY {j pos}:PE X (.Constant .none j pos) (tC .aQ):=fun _ _ _ H _ I h=>Constant_none ⟨.aQ,H,I,rfl,h⟩
def YV {x j pos}:PE X (.Constant (.str x) j pos) (tC (.str x)):=fun _ _ _ H _ I h=>Calls.Constant_str ⟨.str x,H,I.tok _,⟨_,rfl⟩,h⟩
def Gl (X:Cx) (x:Str):Prop:=X.env.kindOf x=some .globalImplicit
def Ni {E:Value->Shared->Prop}{pins:List (Addr×Obj)}{s:Shared}{σ:St}{H:Hp}{x:Str}{u:Value}{pos:Pos}{Q:Value->Shared->Prop} (I:Inv X pins σ H s) (hg:Gl X x) (hm:X.mg x=some u) (h:Q u s)
  (hd:(x==("__debug__":Str))=false:=by decide):wpAny (model X.prog X.w) X.A (eval (.Name x pos) X.env) Q E s:=
 DQ I.ok.kind hg (Calls.loadGlobal_global (by rw [I.ok.glob];exact I.mod.glob.keeps I.bk) hm h) hd
def kH {E:Value->Shared->Prop}{pins:List (Addr×Obj)}{s:Shared}{σ:St}{H:Hp}{x:Str}{u:Value}{pos:Pos}{Q:Value->Shared->Prop} (I:Inv X pins σ H s) (hg:Gl X x) (hm:X.mg x=none) (hv:bootBuiltins x=some u) (h:Q u s)
  (hn:x≠"__name__":=by decide) (hd:(x==("__debug__":Str))=false:=by decide):wpAny (model X.prog X.w) X.A (eval (.Name x pos) X.env) Q E s:=by
 obtain⟨mb,h1,h2⟩:=I.mod.blt;exact DQ I.ok.kind hg (Calls.loadGlobal_builtin (by rw [I.ok.glob];exact I.mod.glob.keeps I.bk) hm (by rw [I.ok.blt];exact h1.keeps I.bk) ((h2 x hn).trans hv) h) hd
def F3 {x:Str}{v:V}{u:Value}{pos:Pos} (hg:Gl X x) (hm:X.mg x=some u) (r:RelV v u) (hd:(x==("__debug__":Str))=false:=by decide):PE X (.Name x pos) (tC v):=
 fun _ _ _ H _ I h=>Ni I hg hm ⟨v,H,I,r,h⟩ hd
def U6 {x:Str}{v:V}{u:Value}{pos:Pos} (hg:Gl X x) (hm:X.mg x=none) (hv:bootBuiltins x=some u) (r:RelV v u) (hn:x≠"__name__":=by decide) (hd:(x==("__debug__":Str))=false:=by decide):PE X (.Name x pos) (tC v):=
 fun _ _ _ H _ I h=>kH I hg hm hv ⟨v,H,I,r,h⟩ hn hd
variable {a b:Expr}{ta tb:TE}{pos:Pos}
def PC (X:Cx) (op:CmpOp) (a b:Expr) (t:TE):Prop:=
 ∀(pins:List (Addr×Obj)) (s:Shared) (σ:St) (H:Hp) (Q:VK),Inv X pins σ H s->t σ H Q->
  wpAny (model X.prog X.w) X.A (eval a X.env) (fun v s₁=>wpAny (model X.prog X.w) X.A (eval b X.env) (fun u s₂=>wpAny (model X.prog X.w) X.A (compareOp op v u) (EP X pins σ Q) X.xe s₂) X.xe s₁) X.xe s
def tB (t:TE):TT:=fun σ H Q=>t σ H fun x H1=>∃c,x=.bl c/\Q c H1
def YR {op:CmpOp}{t:TE} (h:PC X op a b t) (h1:behindInMarks op b=false:=by first | exact acu _ (by decide) (by decide) | rfl):PT X (.Compare a [op] [b] pos) (tB t):=by
 intro pins s σ H Q I hw;refine wpAny_isTrue_Compare1 (bD (h pins s σ H _ I hw) fun v s1 h1=>bD h1 fun u s2 h2=>bD h2 fun c s3 ⟨x,H1,I1,r1,q1⟩=>?_) h1;obtain⟨d,rfl,q⟩:=q1;cases r1;exact Bm ⟨H1,I1,q⟩
variable {tA tB':TT}{rest:List Expr}
def afD (t u:TT):TT:=fun σ H Q=>t σ H fun c H1=>if c=true then u σ H1 Q else Q false H1
def tOr (t u:TT):TT:=fun σ H Q=>t σ H fun c H1=>if c=true then Q true H1 else u σ H1 Q
def afx (t:TT):TT:=fun σ H Q=>t σ H fun c H1=>Q (!c) H1
def UR (ha:PT X a tA):PW X (.BoolOp .And [a] pos) tA:=by
 intro wh pins s σ H Q I h;refine isTrue_and (bD (ha pins s σ H Q I h) fun c s1 e=>?_);cases c with
 | true=>exact isTrue_and_nil e
 | false=>exact e
def YM (ha:PT X a tA):PW X (.BoolOp .Or [a] pos) tA:=by
 intro wh pins s σ H Q I h;refine isTrue_or (bD (ha pins s σ H Q I h) fun c s1 e=>?_);cases c with
 | false=>exact isTrue_or_nil e
 | true=>exact e
def YN (ha:PT X a tA) (hb:PW X (.BoolOp .And (b::rest) pos) tB'):PW X (.BoolOp .And (a::b::rest) pos) (afD tA tB'):=by
 intro wh pins s σ H Q I h;refine isTrue_and (bD (ha pins s σ H _ I h) fun c s1 ⟨H1,I1,q1⟩=>?_);cases c with
 | true=>exact hb wh pins s1 σ H1 Q I1 q1
 | false=>exact⟨H1,I1,q1⟩
def ab8 (ha:PT X a tA) (hb:PW X (.BoolOp .Or (b::rest) pos) tB'):PW X (.BoolOp .Or (a::b::rest) pos) (tOr tA tB'):=by
 intro wh pins s σ H Q I h;refine isTrue_or (bD (ha pins s σ H _ I h) fun c s1 ⟨H1,I1,q1⟩=>?_);cases c with
 | true=>exact⟨H1,I1,q1⟩
 | false=>exact hb wh pins s1 σ H1 Q I1 q1
def YQ (ha:PT X a tA):PT X (.UnaryOp .Not a pos) (afx tA):=by
 intro pins s σ H Q I h;exact isTrue_not (ha pins s σ H (fun c H1=>Q (!c) H1) I h)
def abF (ta tb:TE):TE:=fun σ H Q=>ta σ H fun x H1=>∃c,x=.bl c/\if c=true then tb σ H1 Q else Q (.bl false) H1
def afw (ta tb:TE):TE:=fun σ H Q=>ta σ H fun x H1=>∃c,x=.bl c/\if c=true then Q (.bl true) H1 else tb σ H1 Q
def abv (ta:TE):TE:=fun σ H Q=>ta σ H fun x H1=>∃c,x=.bl c/\Q (.bl (!c)) H1
def YW {op}{t:TE} (h:PE X a t):PE X (.BoolOp op [a] pos) t:=fun pins s σ H Q I hw=>BoolOp_one (h pins s σ H Q I hw)
def Y1 (ha:PE X a ta) (hb:PE X (.BoolOp .And (b::rest) pos) tb):PE X (.BoolOp .And (a::b::rest) pos) (abF ta tb):=by
 intro pins s σ H Q I h;refine BoolOp_and (bD (ha pins s σ H _ I h) fun v s1 ⟨x,H1,I1,r1,q1⟩=>?_);obtain⟨c,rfl,q1⟩:=q1;cases r1;refine Bm ?_;cases c with
 | true=>exact hb pins s1 σ H1 Q I1 q1
 | false=>exact⟨.bl false,H1,I1,rfl,q1⟩
def acb (ha:PE X a ta) (hb:PE X (.BoolOp .Or (b::rest) pos) tb):PE X (.BoolOp .Or (a::b::rest) pos) (afw ta tb):=by
 intro pins s σ H Q I h;refine BoolOp_or (bD (ha pins s σ H _ I h) fun v s1 ⟨x,H1,I1,r1,q1⟩=>?_);obtain⟨c,rfl,q1⟩:=q1;cases r1;refine Bm ?_;cases c with
 | false=>exact hb pins s1 σ H1 Q I1 q1
 | true=>exact⟨.bl true,H1,I1,rfl,q1⟩
def YX (ha:PE X a ta):PE X (.UnaryOp .Not a pos) (abv ta):=by
 intro pins s σ H Q I h;refine UnaryOp_ (bD (ha pins s σ H _ I h) fun v s1 ⟨x,H1,I1,r1,q1⟩=>?_);obtain⟨c,rfl,q1⟩:=q1;cases r1;exact not_of (Bm ⟨.bl (!c),H1,I1,rfl,q1⟩)
def tIf (t:TT) (ta tb:TE):TE:=fun σ H Q=>t σ H fun c H1=>if c=true then ta σ H1 Q else tb σ H1 Q
def Iq {c:Expr} (hc:PT X c tA) (ha:PE X a ta) (hb:PE X b tb):PE X (.IfExp c a b pos) (tIf tA ta tb):=by
 intro pins s σ H Q I h;refine wpAny_IfExp (bD (hc pins s σ H _ I h) fun d s1 ⟨H1,I1,q1⟩=>?_);cases d with
 | true=>exact ha pins s1 σ H1 Q I1 q1
 | false=>exact hb pins s1 σ H1 Q I1 q1
end
def df (K:Ab) (H:Hp) (a:Addr) (xs:List V):Prop:=
 Rd H a (.lst xs)\/
  ∃(o:Obj) (au:Array Value) (n:Nat),K.lookup a=some o/\o.cls=.type "list"/\o.dict=none/\o.data=.seq au n/\au.size<=sizeLine/\Vals xs au.toList
def dD (K:Ab) (H:Hp) (a:Addr) (xs:List V):Prop:=
 Rd H a (.tup xs)\/
  ∃(o:Obj) (au:Array Value) (n:Nat),K.lookup a=some o/\o.cls=.type "tuple"/\o.data=.seq au n/\au.size<=sizeLine/\Vals xs au.toList
def ahk:Value->Option V
 | .none=>some .aQ
 | .bool b=>some (.bl b)
 | .int i _=>some (.int i)
 | .str x _=>some (.str x)
 | .bytes b _=>some (.byt b)
 | .float b _=>some (.flt b)
 | .ref a=>some (.ref a)
 | .type n=>some (.ty n)
 | _=>none
def RelV.abs {x:V}{u:Value} (r:RelV x u):ahk u=some x:=by
 cases x with
 | aQ=>cases r;rfl
 | bl _=>cases r;rfl
 | int _=>obtain⟨t,rfl⟩:=r;rfl
 | str _=>obtain⟨t,rfl⟩:=r;rfl
 | byt _=>obtain⟨t,rfl⟩:=r;rfl
 | flt _=>obtain⟨t,rfl⟩:=r;rfl
 | ref _=>cases r;rfl
 | ty _=>cases r;rfl
def RelV.inj {x y:V}{u:Value} (r:RelV x u) (q:RelV y u):x=y:=Option.some.inj (r.abs.symm.trans q.abs)
theorem Vals.inj:∀{xs ys:List V}{us:List Value},Vals xs us->Vals ys us->xs=ys
 | _,_,_,.nil,.nil=>rfl
 | _,_,_,.cons r t,.cons r' t'=>by rw [r.inj r',Vals.inj t t']
section
variable {X:Cx}{pins:List (Addr×Obj)}{σ:St}{H:Hp}{s:Shared}{a:Addr}{xs ys:List V}
def df.of {K:Ab} (h:H a=some (.lst xs)):df K H a xs:=.inl (.inl h)
def dD.of {K:Ab} (h:H a=some (.tup xs)):dD K H a xs:=.inl (.inl h)
def Inv.list (I:Inv X pins σ H s) (h:df X.K H a xs):∃au:List Value,Vals xs au/\PlainL s.heap a au.toArray/\xs.length<=sizeLine:=by
 rcases h with h | ⟨o,au,n,hk,hc,hd,hs,hz,r⟩
 ·obtain⟨z,au,n,r,e⟩:=h.ok I.bG;exact⟨au,r,⟨_,n,e,rfl,rfl,rfl⟩,z⟩
 ·refine⟨au.toList,r,⟨o,n,I.yA a o hk,hc,hd,by simpa using hs⟩,?_⟩;have e:=r.length;simp only [DB] at e;omega
def Inv.tuple (I:Inv X pins σ H s) (h:dD X.K H a xs):∃au:List Value,Vals xs au/\IsTup s.heap a au.toArray/\xs.length<=sizeLine:=by
 rcases h with h | ⟨o,au,n,hk,hc,hs,hz,r⟩
 ·obtain⟨z,au,r,p⟩:=h.ok I.bG;exact⟨au,r,p,z⟩
 ·refine⟨au.toList,r,⟨o,I.yA a o hk,hc,n,by simpa using hs⟩,?_⟩;have e:=r.length;simp only [DB] at e;omega
def Inv.IM (I:Inv X pins σ H s) (h:df X.K H a xs) (h':df X.K H a ys):xs=ys:=by
 obtain⟨au,r,⟨o,n,e,_,_,d⟩,_⟩:=I.list h;obtain⟨its',r',⟨o',n',e',_,_,d'⟩,_⟩:=I.list h';rw [e] at e';cases e';rw [d] at d';injection d' with d1 _;have:au=its':=by simpa using congrArg Array.toList d1
 subst this;exact r.inj r'
def Inv.nh (I:Inv X pins σ H s) (h:dD X.K H a xs) (h':dD X.K H a ys):xs=ys:=by
 obtain⟨au,r,⟨o,e,_,n,d⟩,_⟩:=I.tuple h;obtain⟨its',r',⟨o',e',_,n',d'⟩,_⟩:=I.tuple h';rw [e] at e';cases e';rw [d] at d';injection d' with d1 _;have:au=its':=by simpa using congrArg Array.toList d1
 subst this;exact r.inj r'
end
abbrev Cx.yd (X:Cx) (E:Value->Shared->Prop):Cx:={X with xe:=E}
abbrev Cx.Vp (X:Cx):Cx:=X.yd fun _ _=>False
def Cx.Ok.yd {X:Cx} (ok:X.Ok) (E:Value->Shared->Prop):(X.yd E).Ok:=
 ⟨ok.mod,ok.kind,ok.glob,ok.blt,ok.above,ok.inj,ok.has,ok.cab,ok.hd,ok.frames,ok.stk,ok.exf,ok.bs,ok.X2,ok.Rx,ok.SE,ok.wQ,ok.frf⟩
def Cx.Ok.lX {X:Cx}{E:Value->Shared->Prop} (ok:(X.yd E).Ok):X.Ok:=
 ⟨ok.mod,ok.kind,ok.glob,ok.blt,ok.above,ok.inj,ok.has,ok.cab,ok.hd,ok.frames,ok.stk,ok.exf,ok.bs,ok.X2,ok.Rx,ok.SE,ok.wQ,ok.frf⟩
section
variable {X:Cx}{pins:List (Addr×Obj)}{σ:St}{H:Hp}{s:Shared}{E:Value->Shared->Prop}
def Inv.yd (I:Inv X pins σ H s) (E:Value->Shared->Prop):Inv (X.yd E) pins σ H s:=⟨I.ok.yd E,I.os,I.bare,I.base,I.loc,I.cell,I.free,I.lN,I.pin,I.bG,I.len⟩
def Inv.lX (I:Inv (X.yd E) pins σ H s):Inv X pins σ H s:=⟨I.ok.lX,I.os,I.bare,I.base,I.loc,I.cell,I.free,I.lN,I.pin,I.bG,I.len⟩
def SP.lX {D:Ends}{f:Flow}{s':Shared} (h:SP (X.yd E) pins D f s'):SP X pins D f s':=by
 cases f with
 | next=>obtain⟨σ',H',I,q⟩:=h;exact⟨σ',H',I.lX,q⟩
 | brk=>obtain⟨σ',H',I,q⟩:=h;exact⟨σ',H',I.lX,q⟩
 | cont=>obtain⟨σ',H',I,q⟩:=h;exact⟨σ',H',I.lX,q⟩
 | ret u=>obtain⟨v,σ',H',I,r,q⟩:=h;exact⟨v,σ',H',I.lX,r,q⟩
def u0.Vp {st:List Stmt}{t:TS} (h:u0 X.Vp st t):u0 X st t:=fun pins s σ H D I hw=>
 BK (h pins s σ H D (I.yd _) hw) (fun _ _ q=>q.lX) fun _ _ z=>Bl z
end
section
variable {X:Cx}{st:Stmt}{rest:List Stmt}{t u:TS}{e:Expr}{te:TE}{pos:Pos}
def abw:TS:=fun D σ H=>D.nx σ H
def afu (t u:TS):TS:=fun D σ H=>t {D with nx:=u D} σ H
def FY:u0 X [] abw:=fun _ _ σ H _ I h=>Dv ⟨σ,H,I,h⟩
def Ij (h1:PS X st t) (h2:u0 X rest u):u0 X (st::rest) (afu t u):=by
 intro pins s σ H D I h;refine wpAny_execs_cons (bD (h1 pins s σ H {D with nx:=u D} I h) fun f s1 q=>?_);cases f with
 | next=>
  obtain⟨σ',H',I',q⟩:=q;exact h2 pins s1 σ' H' D I' q
 | ret v=>exact q
 | brk=>exact q
 | cont=>exact q
def US (h1:PS X st t):u0 X [st] t:=by
 intro pins s σ H D I h;refine wpAny_execs_cons (bD (h1 pins s σ H D I h) fun f s1 q=>?_);cases f with
 | next=>exact Dv q
 | ret v=>exact q
 | brk=>exact q
 | cont=>exact q
def abA:TS:=fun D σ H=>D.ct σ H
def Im:PS X (.Continue pos) abA:=fun _ _ σ H _ I h=>wpAny_Continue ⟨σ,H,I,h⟩
def Inv.quiet {pins:List (Addr×Obj)}{σ:St}{H:Hp}{s:Shared} (I:Inv X pins σ H s):interactive X.env=false:=by simp [interactive,I.ok.kind]
def aby (te:TE):TS:=fun D σ H=>te σ H fun _ H1=>D.nx σ H1
def pZ (he:PE X e te) (hs:swapsWith e none pos.line X.env=pure false:=by rfl):PS X (.Expr e pos) (aby te):=by
 intro pins s σ H D I h;exact wpAny_Expr_any (bD (he pins s σ H _ I h) fun v s1 ⟨x,H1,I1,r1,q1⟩=>⟨σ,H1,I1,q1⟩) I.quiet hs
def afv (te:TE):TS:=fun D σ H=>te σ H D.rt
def FZ (he:PE X e te):PS X (.Return (some e) pos) (afv te):=by
 intro pins s σ H D I h;exact wpAny_Return_some (bD (he pins s σ H _ I h) fun v s1 ⟨x,H1,I1,r1,q1⟩=>⟨x,σ,H1,I1,r1,q1⟩)
def afA (c:TT) (t u:TS):TS:=fun D σ H=>c σ H fun b H1=>if b=true then t D σ H1 else u D σ H1
def Q3 {c:Expr}{a b:List Stmt}{tc:TT} (hc:PT X c tc) (ha:u0 X a t) (hb:u0 X b u):PS X (.If c a b pos) (afA tc t u):=by
 intro pins s σ H D I h;refine wpAny_If (bD (hc pins s σ H _ I h) fun d s1 ⟨H1,I1,q1⟩=>?_);cases d with
 | true=>exact ha pins s1 σ H1 D I1 q1
 | false=>exact hb pins s1 σ H1 D I1 q1
def Yl:TS:=fun _ _ _=>False
end
abbrev TG:=V->St->Hp->(St->Hp->Prop)->Prop
abbrev TGs:=List V->St->Hp->(St->Hp->Prop)->Prop
def PG (X:Cx) (target:Expr) (t:TG):Prop:=
 ∀(pins:List (Addr×Obj)) (s:Shared) (σ:St) (H:Hp) (v:V) (u:Value) (Q:St->Hp->Prop),Inv X pins σ H s->RelV v u->t v σ H Q->
  wpAny (model X.prog X.w) X.A (assign target X.env u) (fun _ s'=>∃σ' H',Inv X pins σ' H' s'/\Q σ' H') X.xe s
def PGs (X:Cx) (ts:List Expr) (t:TGs):Prop:=
 ∀(pins:List (Addr×Obj)) (s:Shared) (σ:St) (H:Hp) (vs:List V) (us:List Value) (Q:St->Hp->Prop),Inv X pins σ H s->Vals vs us->t vs σ H Q->
  wpAny (model X.prog X.w) X.A (assignInOrder ((assignEach ts X.env).map (·.2)) us) (fun _ s'=>∃σ' H',Inv X pins σ' H' s'/\Q σ' H') X.xe s
abbrev Ms:=V->V->V->Hp->(Hp->Prop)->Prop
def Mt (X:Cx) (t:Ms):Prop:=
 ∀(pins:List (Addr×Obj)) (s:Shared) (σ:St) (H:Hp) (o i v:V) (ov iv u:Value) (Q:Hp->Prop),Inv X pins σ H s->RelV o ov->RelV i iv->RelV v u->t o i v H Q->
  wpAny (model X.prog X.w) X.A (setItem ov iv u) (fun _ s'=>∃H',Inv X pins σ H' s'/\Q H') X.xe s
abbrev TIp:=V->V->Hp->VK->Prop
def PIp (X:Cx) (op:Operator) (t:TIp):Prop:=
 ∀(pins:List (Addr×Obj)) (s:Shared) (σ:St) (H:Hp) (x y:V) (v u:Value) (Q:VK),Inv X pins σ H s->RelV x v->RelV y u->t x y H Q->
  wpAny (model X.prog X.w) X.A (inplaceOp op v u) (EP X pins σ Q) X.xe s
section
variable {X:Cx}{pos:Pos}
def dY (i:Nat):TG:=fun v σ H Q=>Q (σ.set i (some v)) H
def U0 {i:Nat}{x:Str} (hN:X.N.Nodup) (hi:X.N[i]?=some x) (hx:Loc X.env.scope x) (hf:X.fn x=true\/X.env.scope.names.lookup x=some .local:=by first | exact .inl rfl | exact .inr rfl | assumption):PG X (.Name x pos) (dY i):=by
 intro pins s σ H v u Q I r h;exact wpAny_assign_Name (HW I hN hi hx r (fun s' I'=>⟨_,H,I',h⟩) hf)
def V8:TGs:=fun vs σ H Q=>vs=[]/\Q σ H
def n6 (t:TG) (u:TGs):TGs:=fun vs σ H Q=>∃v r,vs=v::r/\t v σ H fun σ' H'=>u r σ' H' Q
def eK:PGs X [] V8:=by
 intro pins s σ H vs us Q I r h;obtain⟨e,h⟩:=h;subst e;cases r;exact assignInOrder_nil ⟨σ,H,I,h⟩
def aP {e:Expr}{es:List Expr}{t:TG}{u:TGs} (h1:PG X e t) (h2:PGs X es u)
  (hs:(assignEach (e::es) X.env).map (·.2)=assign e X.env::(assignEach es X.env).map (·.2):=by rfl):PGs X (e::es) (n6 t u):=by
 intro pins s σ H vs us Q I r h;obtain⟨v,vr,e1,h⟩:=h;subst e1;cases r with
 | cons r rr=>
  rw [hs];refine assignInOrder_cons (bD (h1 pins s σ H _ _ _ I r h) fun _ s1 ⟨σ1,H1,I1,q1⟩=>?_);exact h2 pins s1 σ1 H1 _ _ Q I1 rr q1
def V7 (K:Ab) (n:Nat) (t:TGs):TG:=fun v σ H Q=>∃a xs,v=.ref a/\dD K H a xs/\xs.length=n/\t xs σ H Q
def gH {es:List Expr}{k:Nat}{t:TGs}{n:Nat} (hc:X.calm=true) (h:PGs X es t)
  (hn:(assignEach es X.env).length=n:=by rfl) (GJ:(assignEach es X.env).findIdx? (·.1)=none:=by rfl):PG X (.Tuple es k pos) (V7 X.K n t):=by
 intro pins s σ H v u Q I r hw;obtain⟨a,xs,e1,hq,hl,hw⟩:=hw;subst e1;cases r;obtain⟨au,rv,ht,hz⟩:=I.tuple hq;refine assign_Tuple_tuple (I.ok.hd hc) ht (by simp [hn,<- hl,rv.length]) GJ fun h' hx=>?_;have I1:Inv X pins σ H {s with heap:=h'}:=I.kept (t':=s.toks) fun b o e=>hx b o (AI (Ar e)) e;exact h pins _ σ H xs _ Q I1 (by simpa using rv) hw
def agX (to ti:TE) (t:Ms):TG:=fun v σ H Q=>to σ H fun o H1=>ti σ H1 fun i H2=>t o i v H2 fun H3=>Q σ H3
def Q8 {o i:Expr}{to ti:TE}{t:Ms} (ho:PE X o to) (hi:PE X i ti) (hs:Mt X t)
  (ha:∀v,assign (.Subscript o i pos) X.env v=(do
   let ov <- holding [v] (eval o X.env)
   let iv <- holding [v,ov] (eval i X.env)
   standAt pos
   holding [v,ov,iv] (setItem ov iv v)
   release [v,ov,iv] []):=by intro _;rfl):PG X (.Subscript o i pos) (agX to ti t):=by
 intro pins s σ H v u Q I r h;rw [ha];refine Aa (A9 (bD (ho pins s σ H _ I h) fun ov s1 ⟨x,H1,I1,r1,q1⟩=>?_));refine Aa (A9 (bD (hi pins s1 σ H1 _ I1 q1) fun iv s2 ⟨y,H2,I2,r2,q2⟩=>?_));refine Aa (Ec (Aa (A9 (bD (hs pins s2 σ H2 x y v ov iv u _ I2 r1 r2 r q2) fun _ s3 ⟨H3,I3,q3⟩=>?_))));exact wpAny_release ⟨σ,H3,I3,q3⟩
def Yp (te:TE) (g:TG):TS:=fun D σ H=>te σ H fun x H1=>g x σ H1 D.nx
def F0 {tg e:Expr}{te:TE}{g:TG} (he:PE X e te) (hg:PG X tg g) (hs:swapsWithSole [tg] e pos.line X.env=pure false:=by rfl) (hw:swappedStores [tg] e X.env=pure none:=by rfl)
  (h1:(assignEach [tg] X.env).map (·.2)=[assign tg X.env]:=by rfl):PS X (.Assign [tg] e pos) (Yp te g):=by
 intro pins s σ H D I h;refine wpAny_Assign_stores (bD (he pins s σ H _ I h) fun v s1 ⟨x,H1,I1,r1,q1⟩=>?_) hs hw;rw [h1];exact bD (hg pins s1 σ H1 x v _ I1 r1 q1) fun _ s2 q=>q
def vH {i:Nat}{x:Str}{e:Expr}{te:TE}{pos':Pos} (hN:X.N.Nodup) (hi:X.N[i]?=some x) (hx:Loc X.env.scope x) (he:PE X e te) (hs:swapsWith e (some (.Name x pos')) pos.line X.env=pure false:=by rfl) (hf:X.fn x=true\/X.env.scope.names.lookup x=some .local:=by first | exact .inl rfl | exact .inr rfl | assumption) :
  PS X (.Assign [.Name x pos'] e pos) (Yp te (dY i)):=by
 intro pins s σ H D I h;refine wpAny_Assign_Name (bD (he pins s σ H _ I h) fun v s1 ⟨y,H1,I1,r1,q1⟩=>?_) hs;exact HW I1 hN hi hx r1 (fun s2 I2=>⟨_,H1,I2,q1⟩) hf
def abE (to ti te:TE) (Um:V->V->Hp->VK->Prop) (tip:TIp) (Uk:Ms):TS:=fun D σ H=>to σ H fun o H1=>ti σ H1 fun i H2=>Um o i H2 fun x H3=>te σ H3 fun y H4=>tip x y H4 fun z H5=>Uk o i z H5 fun H6=>D.nx σ H6
def ad4 (X:Cx) (t:V->V->Hp->VK->Prop):Prop:=
 ∀(pins:List (Addr×Obj)) (s:Shared) (σ:St) (H:Hp) (o i:V) (ov iv:Value) (Q:VK),Inv X pins σ H s->RelV o ov->RelV i iv->t o i H Q->
  wpAny (model X.prog X.w) X.A (getItem ov iv) (EP X pins σ Q) X.xe s
def UU {o i e:Expr}{to ti te:TE}{Um:V->V->Hp->VK->Prop}{tip:TIp}{Uk:Ms}{op:Operator}{e7:Pos} (ho:PE X o to) (hi:PE X i ti) (hg:ad4 X Um) (he:PE X e te) (hp:PIp X op tip) (hs:Mt X Uk)
  (ha:∀ov iv new,augStore i ov iv new=(do holding [new,ov,iv] (setItem ov iv new);release [new,ov,iv] [];pure .next):=by intros;rfl):PS X (.AugAssign (.Subscript o i e7) op e pos) (abE to ti te Um tip Uk):=by
 intro pins s σ H D I h;refine wpAny_AugAssign_SubscriptAny (bD (ho pins s σ H _ I h) fun ov s1 ⟨x1,H1,I1,r1,q1⟩=>?_) ha;refine bD (hi pins s1 σ H1 _ I1 q1) fun iv s2 ⟨x2,H2,I2,r2,q2⟩=>?_;refine bD (hg pins s2 σ H2 x1 x2 ov iv _ I2 r1 r2 q2) fun old s3 ⟨x3,H3,I3,r3,q3⟩=>?_;refine bD (he pins s3 σ H3 _ I3 q3) fun v s4 ⟨x4,H4,I4,r4,q4⟩=>?_;refine bD (hp pins s4 σ H4 x3 x4 old v _ I4 r3 r4 q4) fun new s5 ⟨x5,H5,I5,r5,q5⟩=>?_;exact bD (hs pins s5 σ H5 x1 x2 x5 ov iv new _ I5 r1 r2 r5 q5) fun _ s6 ⟨H6,I6,q6⟩=>⟨σ,H6,I6,q6⟩
def ipI (f:Int->Int->Int):TIp:=fun x y H Q=>∃i j,x=.int i/\y=.int j/\Q (.int (f i j)) H
def ZM:PIp X .Add (ipI fun i j=>i+j):=by
 intro pins s σ H x y v u Q I r1 r2 h;obtain⟨i,j,e1,e2,q⟩:=h;subst e1;subst e2;obtain⟨t,rfl⟩:=r1;obtain⟨t',rfl⟩:=r2;exact iadd_int ⟨.int _,H,I.tok _,⟨_,rfl⟩,q⟩
end
section
variable {X:Cx}{pos:Pos}
def Yk (c:TT) (tb:TS):TS:=fun D σ H=>∃W:Nat->St->Hp->Prop,(∃m,W m σ H)/\∀m σ H,W m σ H->
 c σ H fun b H1=>if b=true then ∃N:St->Hp->Prop,(∀σ' H',N σ' H'->∃m',m' < m/\W m' σ' H')/\tb {D with nx:=N,ct:=N,bk:=D.nx} σ H1 else D.nx σ H1
def Ik {c:Expr}{body:List Stmt}{tc:TT}{tb:TS} (hp:PassesOwn (model X.prog X.w) X.A X.env X.xe) (hc:PT X c tc) (hb:u0 X body tb):PS X (.While c body [] pos) (Yk tc tb):=by
 intro pins s σ H D I h;obtain⟨W,⟨m0,w0⟩,turn⟩:=h;refine wpAny_While (codeAny_whileLoop (fun n s'=>∃σ' H',Inv X pins σ' H' s'/\W n σ' H') ?_ m0 ⟨σ,H,I,w0⟩);rintro n s1 ⟨σ1,H1,I1,w1⟩;refine Ca hp (bD (hc pins s1 σ1 H1 _ I1 (turn n σ1 H1 w1)) fun b s2 ⟨H2,I2,q2⟩=>?_);cases b with
 | true=>
  obtain⟨N,hN,q2⟩:=q2;rw [if_pos rfl];refine Ca hp (bD (hb pins s2 σ1 H2 _ I2 q2) fun f s3 q3=>?_);cases f with
  | next=>
   obtain⟨σ3,H3,I3,n3⟩:=q3;obtain⟨m',hm,w3⟩:=hN σ3 H3 n3;exact⟨m',hm,σ3,H3,I3,w3⟩
  | cont=>
   obtain⟨σ3,H3,I3,n3⟩:=q3;obtain⟨m',hm,w3⟩:=hN σ3 H3 n3;exact⟨m',hm,σ3,H3,I3,w3⟩
  | brk=>exact q3
  | ret v=>exact q3
 | false=>
  rw [if_neg AG];exact Dv ⟨σ1,H2,I2,q2⟩
end
structure It where
 go:Nat->Hp->Prop
 W4:Nat->Hp->V->Hp->Prop
 stop:Nat->Hp->Prop
def yN (X:Cx) (pins:List (Addr×Obj)) (H:Hp) (b:Addr):Prop:=
 H b=none/\b≠X.env.locals/\b∉X.fs/\(b∈X.ex\/X.s₀.heap.objs.size<=b)/\(∀x c,X.env.cells.lookup x=some c->c≠b)/\∀p∈X.pn++pins,p.1≠b
def Inv.GX {X:Cx}{pins:List (Addr×Obj)}{σ:St}{H H':Hp}{s:Shared}{b:Addr} (I:Inv X pins σ H s) (hb:s.heap.objs.size<=b) (hn:H' b=none):yN X pins H' b:=by
 refine⟨hn,Nat.ne_of_gt (AA I.lt hb),I.afX hb,.inr (Bq I.sz hb),fun x c e z=>?_,fun p hp z=>?_⟩
 ·obtain⟨v,q⟩:=I.cell x c e;exact absurd (AA q.lt (by rw [z];exact hb)) (A4 _)
 ·exact absurd (AA (Ar (I.pin p hp).1) (by rw [z];exact hb)) (A4 _)
structure Turn (P:Program) (w:World) (K:Ab) (tg:Expr) (J:It) (fp:List Addr) (it:Addr) (tn:Nat->Heap->Prop):Prop where
 mem:it∈fp
 obj:∀i h,tn i h->∀b∈fp,∃o,h.get? b=some o/\∀v,o.data≠.cell v
 keep:∀i h h',tn i h->(∀b∈fp,∀o,h.get? b=some o->h'.get? b=some o)->tn i h'
 item:∀(X:Cx),X.prog=P->X.w=w->X.K=K->X.calm=true->∀(i:Nat) (pins:List (Addr×Obj)) (s:Shared) (σ:St) (H:Hp) (E:Value->Shared->Prop),Inv X pins σ H s->(∀b∈fp,yN X pins H b)->tn i s.heap->J.go i H->
  wpAny (model P w) X.A (pyNext (.ref it)) (fun r s1=>∃u,r=some u/\
   wpAny (model P w) X.A (letOwnedTupleGo tg (.ref it) u) (fun _ s2=>∃x H',Inv X pins σ H' s2/\RelV x u/\J.W4 i H x H'/\tn (i+1) s2.heap/\∀b∈fp,H' b=none) E s1) E s
 done:∀(X:Cx),X.prog=P->X.w=w->X.K=K->X.calm=true->∀(i:Nat) (pins:List (Addr×Obj)) (s:Shared) (σ:St) (H:Hp) (E:Value->Shared->Prop),Inv X pins σ H s->(∀b∈fp,yN X pins H b)->tn i s.heap->J.stop i H->
  wpAny (model P w) X.A (pyNext (.ref it)) (fun r s1=>r=none/\Inv X pins σ H s1) E s
 self:∀(A:Around) (i:Nat) (s:Shared) (Q:Value->Shared->Prop) (E:Value->Shared->Prop),tn i s.heap->Q (.ref it) s->wpAny (model P w) A (pyIter (.ref it)) Q E s
abbrev TI:=St->Hp->(It->Hp->Prop)->Prop
def PIE (X:Cx) (pins:List (Addr×Obj)) (σ:St) (tg:Expr) (R:It->Hp->Prop) (itv:Value) (s2:Shared):Prop:=
 ∃(it:Addr) (fp:List Addr) (tn:Nat->Heap->Prop) (J:It) (H':Hp),itv=.ref it/\Inv X pins σ H' s2/\Turn X.prog X.w X.K tg J fp it tn/\tn 0 s2.heap/\(∀b∈fp,yN X pins H' b)/\R J H'
def PI (X:Cx) (tg iter:Expr) (wi:TI):Prop:=
 ∀(pins:List (Addr×Obj)) (s:Shared) (σ:St) (H:Hp) (R:It->Hp->Prop),Inv X pins σ H s->wi σ H R->
  wpAny (model X.prog X.w) X.A (eval iter X.env) (fun v s1=>wpAny (model X.prog X.w) X.A (pyIter v) (PIE X pins σ tg R) X.xe s1) X.xe s
def wL {M:Model}{A:Around}{E:Value->Shared->Prop}{s:Shared}{tg:Expr}{it:Addr}{u:Value}{o:Obj}{n:String}{vs:Array Value}{Q:Unit->Shared->Prop} (ho:s.heap.get? it=some o) (hc:o.cls=.type n) (hd:o.data=.fields vs)
  (hn:["enumerate","zip","dict_itemiterator","dict_reverseitemiterator","odict_iterator","itertools.zip_longest","itertools.pairwise"].contains n=false) (hQ:Q () s):wpAny M A (letOwnedTupleGo tg (.ref it) u) Q E s:=by
 unfold letOwnedTupleGo;cases tg <;> first
  | exact Ag hQ
  | (cases u <;> first
    | exact Ag hQ
    | (
      refine Aa (wpAny_load ho ?_);rw [hc,hd];show wpAny M A (if (["enumerate","zip","dict_itemiterator","dict_reverseitemiterator","odict_iterator","itertools.zip_longest","itertools.pairwise"].contains n&&vs[0]?==some (rawInt _))=true then _ else _) Q E s;rw [if_neg (by intro h;rw [hn,E9] at h;cases h)];exact Ag hQ))
def Itl (K:Ab) (a:Addr):It:=
 ⟨fun i H=>∃xs x,df K H a xs/\xs[i]?=some x,fun i H x H'=>H'=H/\∀xs,df K H a xs->xs[i]?=some x,fun i H=>∃xs,df K H a xs/\xs.length<=i⟩
def Itt (K:Ab) (a:Addr):It:=
 ⟨fun i H=>∃xs x,dD K H a xs/\xs[i]?=some x,fun i H x H'=>H'=H/\∀xs,dD K H a xs->xs[i]?=some x,fun i H=>∃xs,dD K H a xs/\xs.length<=i⟩
def Itr (lo:Int) (n:Nat):It:=⟨fun i _=>i < n,fun i H x H'=>H'=H/\x=.int (lo+i),fun i _=>n<=i⟩
def N7 {P:Program}{w:World}{K:Ab}{tg:Expr} (a it:Addr):Turn P w K tg (Itl K a) [it] it (fun i h=>h.IsListIter it a i) where
 mem:=by simp
 obj:=fun i h st b hb=>by
  have e:b=it:=by simpa using hb
  subst e;obtain⟨o,e,c,d⟩:=st;exact⟨o,e,fun v z=>by rw [d] at z;cases z⟩
 keep:=fun i h h' st k=>st.at fun o e=>k it (by simp) o e
 item:=by
  intro X hP hw hK hc i pins s σ H E I hf st hg;subst hP hw hK;obtain⟨xs,x,hq,hx⟩:=hg;obtain⟨au,rv,p,hz⟩:=I.list hq;obtain⟨u,hu,ru⟩:=rv.get hx;obtain⟨f0,f1,f2,f3,f4,f5⟩:=hf it (by simp);refine wpAny_pyNext_list_item st p.isList (x:=u) (by simpa using hu) fun h' pG sb=>?_;have I1:Inv X pins σ H {s with heap:=h'}:=I.turned (t':=s.toks) (fun b o hb e=>(sb.2 b hb).trans e) f0 f1 f3 f4 f5;obtain⟨o,e,c,d⟩:=id pG;exact⟨u,rfl,wL (s:={s with heap:=h'}) e c d (by decide) ⟨x,H,I1,ru,⟨rfl,fun ys hy=>by rw [I.IM hy hq];exact hx⟩,pG,fun b hb=>(hf b hb).1⟩⟩
 done:=by
  intro X hP hw hK hc i pins s σ H E I hf st hg;subst hP hw hK;obtain⟨xs,hq,hx⟩:=hg;obtain⟨au,rv,p,hz⟩:=I.list hq;obtain⟨f0,f1,f2,f3,f4,f5⟩:=hf it (by simp);have hl:=rv.length;exact wpAny_pyNext_list_end (I.ok.hd hc) st p.isList (by simp;omega) fun h' eb=>⟨rfl,I.turned (t':=s.toks) (fun b o hb e=>eb b o hb e) f0 f1 f3 f4 f5⟩
 self:=fun _ _ _ _ _ st h=>wpAny_pyIter_listiter st h
def Kb {P:Program}{w:World}{K:Ab}{tg:Expr} (a it:Addr):Turn P w K tg (Itt K a) [it] it (fun i h=>h.IsTupleIter it a i) where
 mem:=by simp
 obj:=fun i h st b hb=>by
  have e:b=it:=by simpa using hb
  subst e;obtain⟨o,e,c,d⟩:=st;exact⟨o,e,fun v z=>by rw [d] at z;cases z⟩
 keep:=fun i h h' st k=>st.at fun o e=>k it (by simp) o e
 item:=by
  intro X hP hw hK hc i pins s σ H E I hf st hg;subst hP hw hK;obtain⟨xs,x,hq,hx⟩:=hg;obtain⟨au,rv,p,hz⟩:=I.tuple hq;obtain⟨u,hu,ru⟩:=rv.get hx;obtain⟨f0,f1,f2,f3,f4,f5⟩:=hf it (by simp);refine wpAny_pyNext_tuple_item st (show s.heap.IsTuple a au.toArray from p) (x:=u) (by simpa using hu) fun h' pG sb=>?_;have I1:Inv X pins σ H {s with heap:=h'}:=I.turned (t':=s.toks) (fun b o hb e=>(sb.2 b hb).trans e) f0 f1 f3 f4 f5;obtain⟨o,e,c,d⟩:=id pG;exact⟨u,rfl,wL (s:={s with heap:=h'}) e c d (by decide) ⟨x,H,I1,ru,⟨rfl,fun ys hy=>by rw [I.nh hy hq];exact hx⟩,pG,fun b hb=>(hf b hb).1⟩⟩
 done:=by
  intro X hP hw hK hc i pins s σ H E I hf st hg;subst hP hw hK;obtain⟨xs,hq,hx⟩:=hg;obtain⟨au,rv,p,hz⟩:=I.tuple hq;obtain⟨f0,f1,f2,f3,f4,f5⟩:=hf it (by simp);have hl:=rv.length;exact wpAny_pyNext_tuple_end (I.ok.hd hc) st (show s.heap.IsTuple a au.toArray from p) (by simp;omega) fun h' eb=>⟨rfl,I.turned (t':=s.toks) (fun b o hb e=>eb b o hb e) f0 f1 f3 f4 f5⟩
 self:=fun _ _ _ _ _ st h=>wpAny_pyIter_tupleiter st h
def Ke {P:Program}{w:World}{K:Ab}{tg:Expr} (it:Addr) (lo:Int) (n:Nat):Turn P w K tg (Itr lo n) [it] it (fun i h=>IsRangeIter h it (lo+(i:Nat)*1) ((n:Int)-(i:Nat)) 1) where
 mem:=by simp
 obj:=fun i h st b hb=>by
  have e:b=it:=by simpa using hb
  subst e;exact⟨_,st,fun v z=>by
   have z':Data.fields _=Data.cell v:=z;cases z'⟩
 keep:=fun i h h' st k=>k it (by simp) _ st
 item:=by
  intro X hP hw hK hc i pins s σ H E I hf st hg;subst hP hw hK;obtain⟨f0,f1,f2,f3,f4,f5⟩:=hf it (by simp);have W:=Walks.range (prog:=X.prog) (w:=X.w) (I.ok.hd hc) it lo 1 n;refine W.item i s _ _ hg st fun v h' tk hv pG kk=>?_;obtain⟨t,rfl⟩:=hv;have I1:Inv X pins σ H {s with heap:=h',toks:=tk}:=I.turned (fun b o hb e=>kk b o (by simpa using hb) e) f0 f1 f3 f4 f5;refine⟨_,rfl,wL (s:={s with heap:=h',toks:=tk}) (n:="range_iterator") pG rfl rfl (by decide) ⟨.int (lo+i),H,I1,⟨t,?_⟩,⟨rfl,rfl⟩,pG,fun b hb=>(hf b hb).1⟩⟩;rw [Int.mul_one]
 done:=by
  intro X hP hw hK hc i pins s σ H E I hf st hg;subst hP hw hK;obtain⟨f0,f1,f2,f3,f4,f5⟩:=hf it (by simp);exact wpAny_pyNext_range_end (I.ok.hd hc) st (by have:n<=i:=hg;omega) fun h' eb=>⟨rfl,I.turned (t':=s.toks) (fun b o hb e=>eb b o hb e) f0 f1 f3 f4 f5⟩
 self:=fun _ _ _ _ _ st h=>wpAny_pyIter_rangeiter st h
section
variable {X:Cx}{tg:Expr}
def QR {pins:List (Addr×Obj)}{σ:St}{H:Hp}{s:Shared}{R:It->Hp->Prop}{E:Value->Shared->Prop}{lo hi:Int}{t u v:Tok}{tk:Nat} (I:Inv X pins σ H s) (h1:-(2 ^ 62)<=lo) (h2:lo < 2 ^ 62) (h3:-(2 ^ 62)<=hi) (h4:hi < 2 ^ 62)
  (q:R (Itr lo (hi-lo).toNat) H):wpAny (model X.prog X.w) X.A (pyIter (.ref s.heap.objs.size)) (PIE X pins σ tg R) E {s with heap:=s.heap.push {cls:=.type "range",data:=.fields #[.int lo t,.int hi u,.int 1 v]},toks:=tk}:=by
 refine wpAny_pyIter_range (IsRange.new ..) (small_one h1 h2 h3 h4) ?_;have I1:Inv X pins σ H {s with heap:=s.heap.push {cls:=.type "range",data:=.fields #[.int lo t,.int hi u,.int 1 v]},toks:=tk}:=I.kept fun b o e=>Aj _ e;refine⟨(s.heap.push {cls:=.type "range",data:=.fields #[.int lo t,.int hi u,.int 1 v]}).objs.size,[(s.heap.push {cls:=.type "range",data:=.fields #[.int lo t,.int hi u,.int 1 v]}).objs.size],_,_,H,rfl,
  I1.kept (t':=tk) fun b o e=>Aj _ e,Ke _ lo (hi-lo).toNat,?_,fun b hb=>?_,q⟩
 ·have e1:lo+((0:Nat):Int)*1=lo:=by simp
  have e2:(((hi-lo).toNat:Nat):Int)-((0:Nat):Int)=Builtin.Range.rangeSize lo hi 1:=by rw [rangeSize_one];split <;> omega
  show IsRangeIter _ _ (lo+((0:Nat):Int)*1) ((((hi-lo).toNat:Nat):Int)-((0:Nat):Int)) 1;rw [e1,e2];exact Aq _ rfl
 ·have e:b=(s.heap.push {cls:=.type "range",data:=.fields #[.int lo t,.int hi u,.int 1 v]}).objs.size:=by simpa using hb
  subst e;exact I1.GX (An _) (I1.bG.fresh (An _))
def acR (ta:TA):TI:=fun σ H R=>ta σ H fun vs H1=>∃j:Int,vs=[.int j]/\-(2 ^ 62)<=j/\j < 2 ^ 62/\R (Itr 0 j.toNat) H1
def Oy {a:Expr}{ta:TA}{p pos:Pos} (hg:Gl X "range") (hm:X.mg "range"=none) (ha:PA X [a] ta) (hs:starEach [a] X.env=[(false,eval a X.env)]:=by rfl):PI X tg (.Call (.Name "range" p) [a] [] pos) (acR ta):=by
 intro pins s σ H R I h;refine Call_ (kH I hg hm boot_range (Bh (bD (ha pos pins s σ H _ I h) fun us s1 ⟨vs,H1,I1,r1,q1⟩=>?_) hs rfl));obtain⟨j,e,q1,q2,q⟩:=q1;subst e;cases r1 with
 | cons r rr=>
  cases rr;obtain⟨t,rfl⟩:=r;exact call_range_1 (QR I1 (by omega) (by omega) q1 q2 (by simpa using q))
def afB (wi:TI) (g:TG) (tb:TS):TS:=fun D σ H=>wi σ H fun J H1=>∃W:Nat->Nat->St->Hp->Prop,(∃m,W 0 m σ H1)/\∀i m σ H,W i m σ H->
 (J.stop i H/\D.nx σ H)\/(J.go i H/\∃N:St->Hp->Prop,(∀σ' H',N σ' H'->∃m',m' < m/\W (i+1) m' σ' H')/\∀x H',J.W4 i H x H'->g x σ H' fun σ2 H2=>tb {D with nx:=N,ct:=N,bk:=D.nx} σ2 H2)
def rE (fp:List Addr) (h:Heap):List (Addr×Obj):=fp.filterMap fun b=>(h.get? b).map fun o=>(b,o)
def kD {fp:List Addr}{h:Heap}{b:Addr}{o:Obj} (hb:b∈fp) (e:h.get? b=some o):(b,o)∈rE fp h:=CP.mpr ⟨b,hb,by rw [e];rfl⟩
def OB {fp:List Addr}{h:Heap}{p:Addr×Obj} (hp:p∈rE fp h):p.1∈fp/\h.get? p.1=some p.2:=by
 obtain⟨b,hb,e⟩:=CP.mp hp;cases q:h.get? b with
 | none=>rw [q] at e;cases e
 | some o=>
  rw [q] at e;have e':(b,o)=p:=Option.some.inj e;subst e';exact⟨hb,q⟩
def Inv.pinned {pins:List (Addr×Obj)}{σ:St}{H:Hp}{s:Shared}{fp:List Addr} (I:Inv X pins σ H s) (hf:∀b∈fp,yN X pins H b) (ho:∀b∈fp,∃o,s.heap.get? b=some o/\∀v,o.data≠.cell v):Inv X (pins++rE fp s.heap) σ H s:=
 I.M3 fun p hp=>(Bj.mp hp).elim (fun z=>I.pin p (AR _ z)) fun z=>by
  obtain⟨hb,e⟩:=OB z;obtain⟨f0,f1,f2,_⟩:=hf p.1 hb;obtain⟨o,e',d⟩:=ho p.1 hb;rw [e] at e';cases e';exact⟨e,f0,f1,f2,d⟩
def Inv.lY {pins pl:List (Addr×Obj)}{σ:St}{H:Hp}{s:Shared} (I:Inv X (pins++pl) σ H s):Inv X pins σ H s:=I.M3 fun p hp=>I.pin p (AR _ (Cg _ hp))
def Q4 {iter:Expr}{body:List Stmt}{wi:TI}{g:TG}{tb:TS}{pos:Pos} (hp:PassesOwn (model X.prog X.w) X.A X.env X.xe) (hc:X.calm=true) (hi:PI X tg iter wi) (hg:PG X tg g) (hb:u0 X body tb)
  (hs:∀x,foldedSetIterable iter X.env x=pure x:=by intro _;rfl):PS X (.For tg iter body [] pos) (afB wi g tb):=by
 intro pins s σ H D I h;refine wpAny_For (bD (hi pins s σ H _ I h) fun v s1 h1=>bD h1 fun itv s2 h2=>?_) hs;obtain⟨it,fp,tn,J,H2,e,I2,T,Oc,f2,W,⟨m0,w0⟩,turn⟩:=h2;subst e;have Yq:∀{H':Hp},(∀b∈fp,H' b=none)->∀b∈fp,yN X pins H' b:=fun hn b hb=>⟨hn b hb,(f2 b hb).2⟩;refine codeAny_forLoop_any (fun n s'=>∃i σ' H',Inv X pins σ' H' s'/\tn i s'.heap/\(∀b∈fp,H' b=none)/\W i n σ' H') ?_ m0 ⟨0,σ,H2,I2,Oc,fun b hb=>(f2 b hb).1,w0⟩;rintro n s3 ⟨i,σ3,H3,I3,st3,fr3,w3⟩;rcases turn i n σ3 H3 w3 with⟨stop,qn⟩ | ⟨go,N,hN,step⟩
 ·refine Ca hp (bD (T.done X rfl rfl rfl hc i pins s3 σ3 H3 X.xe I3 (Yq fr3) st3 stop) fun r s4 ⟨hr,I4⟩=>?_);subst hr;exact Dv ⟨σ3,H3,I4,qn⟩
 ·refine Ca hp (bD (T.item X rfl rfl rfl hc i pins s3 σ3 H3 X.xe I3 (Yq fr3) st3 go) fun r s4 ⟨u,hr,h4⟩=>?_);subst hr;refine Ca hp (bD h4 fun _ s5 ⟨x,H5,I5,r5,y5,Yr,fr5⟩=>?_);have I5':=I5.pinned (Yq fr5) (T.obj _ _ Yr);refine Ca hp (bD (hg _ s5 σ3 H5 x u _ I5' r5 (step x H5 y5)) fun _ s6 ⟨σ6,H6,I6,q6⟩=>?_);refine Ca hp (bD (hb _ s6 σ6 H6 _ I6 q6) fun f s7 q7=>?_);have again:∀{σ7:St}{H7:Hp},Inv X (pins++rE fp s5.heap) σ7 H7 s7->N σ7 H7->∃m,m < n/\∃i σ' H',Inv X pins σ' H' s7/\tn i s7.heap/\(∀b∈fp,H' b=none)/\W i m σ' H':=fun {σ7 H7} I7 n7=>by
   obtain⟨m',hm,w7⟩:=hN σ7 H7 n7;refine⟨m',hm,i+1,σ7,H7,I7.lY,T.keep _ _ _ Yr fun b hb o e=>(I7.pin (b,o) (AR _ (AR _ (kD hb e)))).1,fun b hb=>?_,w7⟩;obtain⟨o,e,d⟩:=T.obj _ _ Yr b hb;exact (I7.pin (b,o) (AR _ (AR _ (kD hb e)))).2.1
  cases f with
  | next=>obtain⟨σ7,H7,I7,n7⟩:=q7;exact again I7 n7
  | cont=>obtain⟨σ7,H7,I7,n7⟩:=q7;exact again I7 n7
  | brk=>obtain⟨σ7,H7,I7,q7⟩:=q7;exact⟨σ7,H7,I7.lY,q7⟩
  | ret v=>obtain⟨x7,σ7,H7,I7,r7,q7⟩:=q7;exact⟨x7,σ7,H7,I7.lY,r7,q7⟩
end
abbrev R2:=V->V->Hp->VK->Prop
def ir (X:Cx) (f:Value->Value->Sem Value) (r:R2):Prop:=
 ∀(pins:List (Addr×Obj)) (s:Shared) (σ:St) (H:Hp) (x y:V) (v u:Value) (Q:VK),Inv X pins σ H s->RelV x v->RelV y u->r x y H Q->
  wpAny (model X.prog X.w) X.A (f v u) (EP X pins σ Q) X.xe s
def UnR (X:Cx) (f:Value->Sem Value) (r:V->Hp->VK->Prop):Prop:=
 ∀(pins:List (Addr×Obj)) (s:Shared) (σ:St) (H:Hp) (x:V) (v:Value) (Q:VK),Inv X pins σ H s->RelV x v->r x H Q->
  wpAny (model X.prog X.w) X.A (f v) (EP X pins σ Q) X.xe s
def bS (X:Cx) (f:Value) (r:List V->Hp->VK->Prop):Prop:=
 ∀(pins:List (Addr×Obj)) (s:Shared) (σ:St) (H:Hp) (xs:List V) (us:List Value) (Q:VK),Inv X pins σ H s->Vals xs us->r xs H Q->
  wpAny (model X.prog X.w) X.A (call f us) (EP X pins σ Q) X.xe s
def ahn (X:Cx) (r:V->Hp->(Bool->Hp->Prop)->Prop):Prop:=
 ∀(pins:List (Addr×Obj)) (s:Shared) (σ:St) (H:Hp) (x:V) (v:Value) (Q:Bool->Hp->Prop),Inv X pins σ H s->RelV x v->r x H Q->
  wpAny (model X.prog X.w) X.A (truthy v) (TP X pins σ Q) X.xe s
def Xb (r:R2) (ta tb:TE):TE:=fun σ H Q=>ta σ H fun x H1=>tb σ H1 fun y H2=>r x y H2 Q
def tUn (r:V->Hp->VK->Prop) (ta:TE):TE:=fun σ H Q=>ta σ H fun x H1=>r x H1 Q
def rI (C:Int->Int->Prop) (g:Int->Int->V):R2:=fun x y H Q=>∃i j,x=.int i/\y=.int j/\C i j/\Q (g i j) H
def UN (g:Int->Int->V):R2:=fun x y H Q=>∃i j,x=.int i/\y=.int j/\Q (g i j) H
def rU (g:Int->V):V->Hp->VK->Prop:=fun x H Q=>∃i,x=.int i/\Q (g i) H
section
variable {X:Cx}{a b:Expr}{ta tb:TE}{pos:Pos}
def aan (ha:PE X a ta) (hb:PE X b tb) {pins:List (Addr×Obj)}{s:Shared}{σ:St}{H:Hp}{R:V->V->Hp->Prop} (I:Inv X pins σ H s)
  (h:ta σ H fun x H1=>tb σ H1 fun y H2=>R x y H2) {Q:Value->Shared->Prop}{f:Value->Value->Sem Value}
  (hf:∀v u s2 x y H2,Inv X pins σ H2 s2->RelV x v->RelV y u->R x y H2->wpAny (model X.prog X.w) X.A (f v u) Q X.xe s2) :
  wpAny (model X.prog X.w) X.A (eval a X.env) (fun v s₁=>wpAny (model X.prog X.w) X.A (eval b X.env) (fun u s₂=>wpAny (model X.prog X.w) X.A (f v u) Q X.xe s₂) X.xe s₁) X.xe s:=by
 refine bD (ha pins s σ H _ I h) fun v s1 ⟨x,H1,I1,r1,q1⟩=>?_;refine bD (hb pins s1 σ H1 _ I1 q1) fun u s2 ⟨y,H2,I2,r2,q2⟩=>?_;exact hf v u s2 x y H2 I2 r1 r2 q2
def M4 {op:Operator}{r:R2} (ho:ir X (binaryOp op) r) (ha:PE X a ta) (hb:PE X b tb):PE X (.BinOp a op b pos) (Xb r ta tb):=by
 intro pins s σ H Q I h;exact wpAny_BinOp (aan ha hb I h fun v u s2 x y H2 I2 rx ry q=>ho pins s2 σ H2 x y v u Q I2 rx ry q)
def aca {op:UnaryOp}{r:V->Hp->VK->Prop} (ho:UnR X (unaryOp op) r) (ha:PE X a ta):PE X (.UnaryOp op a pos) (tUn r ta):=by
 intro pins s σ H Q I h;exact UnaryOp_ (bD (ha pins s σ H _ I h) fun v s1 ⟨x,H1,I1,r1,q1⟩=>ho pins s1 σ H1 x v Q I1 r1 q1)
def opI {f:Value->Value->Sem Value}{C:Int->Int->Prop}{g:Int->Int->Int}
  (rule:∀(i j:Int) (t u:Tok) (s:Shared) (Q:Value->Shared->Prop) (E:Value->Shared->Prop),C i j->Q (.int (g i j) s.toks) {s with toks:=s.toks+1}->wpAny (model X.prog X.w) X.A (f (.int i t) (.int j u)) Q E s) :
  ir X f (rI C fun i j=>.int (g i j)):=by
 intro pins s σ H x y v u Q I rx ry h;obtain⟨i,j,rfl,rfl,hc,q⟩:=h;obtain⟨t,rfl⟩:=rx;obtain⟨t',rfl⟩:=ry;exact rule i j t t' s _ _ hc ⟨.int (g i j),H,I.tok _,⟨_,rfl⟩,q⟩
def aco {f:Value->Value->Sem Value}{g:Int->Int->Int}
  (rule:∀(i j:Int) (t u:Tok) (s:Shared) (Q:Value->Shared->Prop) (E:Value->Shared->Prop),Q (.int (g i j) s.toks) {s with toks:=s.toks+1}->wpAny (model X.prog X.w) X.A (f (.int i t) (.int j u)) Q E s) :
  ir X f (UN fun i j=>.int (g i j)):=by
 intro pins s σ H x y v u Q I rx ry h;obtain⟨i,j,rfl,rfl,q⟩:=h;obtain⟨t,rfl⟩:=rx;obtain⟨t',rfl⟩:=ry;exact rule i j t t' s _ _ ⟨.int (g i j),H,I.tok _,⟨_,rfl⟩,q⟩
def Vh {f:Value->Value->Sem Value}{g:Int->Int->Bool}
  (rule:∀(i j:Int) (t u:Tok) (s:Shared) (Q:Value->Shared->Prop) (E:Value->Shared->Prop),Q (.bool (g i j)) s->wpAny (model X.prog X.w) X.A (f (.int i t) (.int j u)) Q E s) :
  ir X f (UN fun i j=>.bl (g i j)):=by
 intro pins s σ H x y v u Q I rx ry h;obtain⟨i,j,rfl,rfl,q⟩:=h;obtain⟨t,rfl⟩:=rx;obtain⟨t',rfl⟩:=ry;exact rule i j t t' s _ _ ⟨.bl (g i j),H,I,rfl,q⟩
def W3 (i j:Int):Prop:=0 < j/\j < 1073741824
def TQ (i j:Int):Prop:=0<=j/\j<=1000000/\i.natAbs < 2 ^ 64
def W2 (i j:Int):Prop:=(-(2 ^ 64) < i/\i < 2 ^ 64)\/(-(2 ^ 64) < j/\j < 2 ^ 64)
def W2.ok {i j:Int} (h:W2 i j):IntMulOk i j:=by
 rcases h with⟨h1,h2⟩ | ⟨h1,h2⟩
 ·exact .of_left (intBits_le_64 h1 h2)
 ·exact .of_right (intBits_le_64 h1 h2)
def Zb:ir X (binaryOp .Add) (UN fun i j=>.int (i+j)):=aco fun _ _ _ _ _ _ _ q=>add_int q
def Y3:ir X (binaryOp .Sub) (UN fun i j=>.int (i-j)):=aco fun _ _ _ _ _ _ _ q=>sub_int q
def Vc:ir X (binaryOp .FloorDiv) (rI W3 fun i j=>.int (i / j)):=opI fun i j _ _ _ _ _ hc q=>by
 have h1:(0:Int) < j:=hc.1;have h2:j < 1073741824:=hc.2;exact floordiv_int (by omega) (by rw [Int.fdiv_eq_ediv_of_nonneg i (by omega)];exact q) (.inl (PyProof.noPylong_small (by omega)))
def Y7:ir X (binaryOp .Mod) (rI (fun _ j=>0 < j) fun i j=>.int (i % j)):=opI fun i j _ _ _ _ _ hc q=>by
 have h1:(0:Int) < j:=hc;exact mod_int' (by omega) (by rw [Int.fmod_eq_emod_of_nonneg i (by omega)];exact q)
def Y5:ir X (binaryOp .Pow) (rI TQ fun i j=>.int (i ^ j.toNat)):=opI fun _ _ _ _ _ _ _ hc q=>pow_int_small hc.1 hc.2.1 hc.2.2 q
def unI {f:Value->Sem Value}{g:Int->Int}
  (rule:∀(i:Int) (t:Tok) (s:Shared) (Q:Value->Shared->Prop) (E:Value->Shared->Prop),Q (.int (g i) s.toks) {s with toks:=s.toks+1}->wpAny (model X.prog X.w) X.A (f (.int i t)) Q E s) :
  UnR X f (rU fun i=>.int (g i)):=by
 intro pins s σ H x v Q I rx h;obtain⟨i,rfl,q⟩:=h;obtain⟨t,rfl⟩:=rx;exact rule i t s _ _ ⟨.int (g i),H,I.tok _,⟨_,rfl⟩,q⟩
def Yf:UnR X (unaryOp .USub) (rU fun i=>.int (-i)):=unI fun _ _ _ _ _ q=>neg_int q
end
section
variable {X:Cx}{a b c:Expr}{ta tb tc:TE}{pos:Pos}
def LV {pins:List (Addr×Obj)}{σ:St}{H:Hp}{s:Shared}{Q:VK}{k k':Bool} (I:Inv X pins σ H s) (q:Q (.bl k) H) (e:k=k'):EP X pins σ Q (.bool k') s:=by
 subst e;exact⟨.bl k,H,I,rfl,q⟩
def acj:ir X (compareOp .Lt) (UN fun i j=>.bl (decide (i < j))):=Vh fun _ _ _ _ _ _ _ q=>lt_int q
def ack:ir X (compareOp .LtE) (UN fun i j=>.bl (decide (i<=j))):=Vh fun _ _ _ _ _ _ _ q=>le_int q
def acm:ir X (compareOp .Gt) (UN fun i j=>.bl (decide (j < i))):=Vh fun _ _ _ _ _ _ _ q=>gt_int q
def acn:ir X (compareOp .GtE) (UN fun i j=>.bl (decide (j<=i))):=Vh fun _ _ _ _ _ _ _ q=>ge_int q
def OA:ir X (compareOp .In) (fun x y H Q=>∃i j,x=.str i/\y=.str j/\Q (.bl (!(Builtin.Str.occurrences j i 0 j.length 1).isEmpty)) H):=by
 intro pins s σ H x y v u Q I rx ry h;obtain⟨i,j,rfl,rfl,q⟩:=h;obtain⟨t,rfl⟩:=rx;obtain⟨t',rfl⟩:=ry;exact in_str (LV I q rfl)
def Y8:ir X (compareOp .Is) (fun x y H Q=>y=.aQ/\Q (.bl (decide (x=.aQ))) H):=by
 intro pins s σ H x y v u Q I rx ry h;obtain⟨rfl,q⟩:=h;cases ry;refine is_none_gen (LV I q ?_);cases x <;> first
  | (cases rx;rfl)
  | (obtain⟨t,rfl⟩:=rx;rfl)
def U9:ir X (compareOp .IsNot) (fun x y H Q=>y=.aQ/\Q (.bl (!decide (x=.aQ))) H):=by
 intro pins s σ H x y v u Q I rx ry h;obtain⟨rfl,q⟩:=h;cases ry;refine isnot_none_gen (LV I q ?_);cases x <;> first
  | (cases rx;rfl)
  | (obtain⟨t,rfl⟩:=rx;rfl)
def ir.or {f:Value->Value->Sem Value}{r r':R2} (h:ir X f r) (h':ir X f r'):ir X f (fun x y H Q=>r x y H Q\/r' x y H Q):=by
 intro pins s σ H x y v u Q I rx ry q;rcases q with q | q
 ·exact h pins s σ H x y v u Q I rx ry q
 ·exact h' pins s σ H x y v u Q I rx ry q
def kB (b:Expr) {op:CmpOp} (h:op≠.In:=by decide) (h2:op≠.NotIn:=by decide):behindInMarks op b=false:=by
 have e1:(op==CmpOp.In)=false:=by cases op <;> first | rfl | exact absurd rfl h
 have e2:(op==CmpOp.NotIn)=false:=by cases op <;> first | rfl | exact absurd rfl h2
 cases b <;> simp [behindInMarks,e1,e2]
def uH {op:CmpOp}{r:R2} (ho:ir X (compareOp op) r) (ha:PE X a ta) (hb:PE X b tb) (hm:behindInMarks op b=false):PE X (.Compare a [op] [b] pos) (Xb r ta tb):=by
 intro pins s σ H Q I h;exact wpAny_Compare1 (aan ha hb I h fun v u s2 x y H2 I2 rx ry q=>ho pins s2 σ H2 x y v u Q I2 rx ry q) hm
def Xa (t:TE):TT:=fun σ H Q=>t σ H fun x H'=>∃k,x=.bl k/\Q k H'
def pY {op:CmpOp}{r:R2} (ho:ir X (compareOp op) r) (ha:PE X a ta) (hb:PE X b tb) (hm:behindInMarks op b=false):PT X (.Compare a [op] [b] pos) (Xa (Xb r ta tb)):=by
 intro pins s σ H Q I h;refine wpAny_isTrue_Compare1 (bD (ha pins s σ H _ I h) fun v s1 ⟨x,H1,I1,r1,q1⟩=>bD (hb pins s1 σ H1 _ I1 q1) fun u s2 ⟨y,H2,I2,r2,q2⟩=>
  bD (ho pins s2 σ H2 x y v u _ I2 r1 r2 q2) fun c s3 ⟨z,H3,I3,r3,k,e,q3⟩=>?_) hm
 subst e;cases r3;exact Bm ⟨H3,I3,q3⟩
def Kj (r r':R2) (ta tb tc:TE):TE:=fun σ H Q=>ta σ H fun x H1=>tb σ H1 fun y H2=>r x y H2 fun z H3=>∃k,z=.bl k/\
 (if k=true then tc σ H3 fun w' H4=>r' y w' H4 Q else Q (.bl false) H3)
def Rh {op KH:CmpOp}{r r':R2} (ho:ir X (compareOp op) r) (Se:ir X (compareOp KH) r') (ha:PE X a ta) (hb:PE X b tb) (hc:PE X c tc)
  (hm:lastMarks [op,KH] [b,c]=false:=by with_unfolding_all rfl):PE X (.Compare a [op,KH] [b,c] pos) (Kj r r' ta tb tc):=by
 intro pins s σ H Q I h;refine Compare_chain (bD (ha pins s σ H _ I h) fun v s1 ⟨x,H1,I1,r1,q1⟩=>chain_link (bD (hb pins s1 σ H1 _ I1 q1) fun u s2 ⟨y,H2,I2,r2,q2⟩=>
  bD (ho pins s2 σ H2 x y v u _ I2 r1 r2 q2) fun d s3 ⟨z,H3,I3,r3,k,e,q3⟩=>?_)) hm
 subst e;cases r3;refine Bm ?_;cases k with
 | false=>exact ite_ff ⟨.bl false,H3,I3,rfl,q3⟩
 | true=>exact ite_tt (chain_last (bD (hc pins s3 σ H3 _ I3 q3) fun w' s4 ⟨z',H4,I4,r4,q4⟩=>Se pins s4 σ H4 y z' u w' Q I4 r2 r4 q4))
def Q2 {op KH:CmpOp}{r r':R2} (ho:ir X (compareOp op) r) (Se:ir X (compareOp KH) r') (ha:PE X a ta) (hb:PE X b tb) (hc:PE X c tc)
  (hm:lastMarks [op,KH] [b,c]=false:=by with_unfolding_all rfl):PT X (.Compare a [op,KH] [b,c] pos) (Xa (Kj r r' ta tb tc)):=by
 intro pins s σ H Q I h;refine isTrue_chain (bD (ha pins s σ H _ I h) fun v s1 ⟨x,H1,I1,r1,q1⟩=>test_link (bD (hb pins s1 σ H1 _ I1 q1) fun u s2 ⟨y,H2,I2,r2,q2⟩=>
  bD (ho pins s2 σ H2 x y v u _ I2 r1 r2 q2) fun d s3 ⟨z,H3,I3,r3,k,e,q3⟩=>?_)) hm
 subst e;cases r3;refine Bm ?_;cases k with
 | false=>
  obtain⟨k',e',q'⟩:=q3;cases e';exact ite_ff ⟨H3,I3,q'⟩
 | true=>
  refine ite_tt (test_last (bD (hc pins s3 σ H3 _ I3 q3) fun w' s4 ⟨z',H4,I4,r4,q4⟩=>bD (Se pins s4 σ H4 y z' u w' _ I4 r2 r4 q4) fun d' s5 ⟨z2,H5,I5,r5,k2,e2,q5⟩=>?_));subst e2;cases r5;exact Bm ⟨H5,I5,q5⟩
def aau (K:Ab) (x:V) (H:Hp) (k:Bool):Prop:=
 match x with
 | .aQ=>k=false
 | .bl b=>k=b
 | .int i=>k=(i != 0)
 | .str y=>y.length<=sizeLine/\k=((y.length:Int) != 0)
 | .byt y=>y.size<=sizeLine/\k=((y.size:Int) != 0)
 | .ref p=>(∃xs,df K H p xs/\k=!xs.isEmpty)\/(∃xs,dD K H p xs/\k=!xs.isEmpty)\/∃kvs,H p=some (.dK kvs)/\k=!kvs.isEmpty
 | _=>False
def Lw {κ:Type}{kvs:List (κ×V)}{vs:List (κ×Value)} (r:KV kvs vs):(!vs.isEmpty)=!kvs.isEmpty:=by
 cases r <;> rfl
def wB {xs:List V}{au:List Value} (r:Vals xs au):(!au.toArray.isEmpty)=!xs.isEmpty:=by
 cases r <;> simp
def rR:(sizeLine:Nat) < 2 ^ 63:=by rw [sizeLine_eq];decide
def Yh:ahn X (fun x H Q=>∃k,aau X.K x H k/\Q k H):=by
 intro pins s σ H x v Q I rx h;obtain⟨k,e,q⟩:=h;have hl:=rR;have hs:sizeLine=16777216:=sizeLine_eq;cases x with
 | aQ=>
  cases rx;have e':k=false:=e;subst e';exact truthy_none ⟨H,I,q⟩
 | bl b=>
  cases rx;have e':k=b:=e;subst e';exact Bm ⟨H,I,q⟩
 | int i=>
  obtain⟨t,rfl⟩:=rx;have e':k=(i != 0):=e;subst e';exact PySem.P.truthy_int ⟨H,I,q⟩
 | str y=>
  obtain⟨t,rfl⟩:=rx;obtain⟨hy,e'⟩:y.length<=sizeLine/\k=((y.length:Int) != 0):=e;subst e';exact PySem.P.truthy_str (by omega) ⟨H,I.tok _,q⟩
 | byt y=>
  obtain⟨t,rfl⟩:=rx;obtain⟨hy,e'⟩:y.size<=sizeLine/\k=((y.size:Int) != 0):=e;subst e';exact PySem.W.truthy_bytes (by omega) ⟨H,I.tok _,q⟩
 | ref p=>
  cases rx;have e':(∃xs,df X.K H p xs/\k=!xs.isEmpty)\/(∃xs,dD X.K H p xs/\k=!xs.isEmpty)\/∃kvs,H p=some (.dK kvs)/\k=!kvs.isEmpty:=e;rcases e' with⟨xs,hx,e'⟩ | ⟨xs,hx,e'⟩ | ⟨kvs,hx,e'⟩
  ·subst e';obtain⟨au,r,pl,hz⟩:=I.list hx;have hlen:=r.length;exact wpAny_truthy_list pl.isList (by simp only [Ah];omega) ⟨H,I.tok _,by rw [wB r];exact q⟩
  ·subst e';obtain⟨au,r,pl,hz⟩:=I.tuple hx;have hlen:=r.length;exact truthy_tuple pl (by simp only [Ah];omega) ⟨H,I.tok _,by rw [wB r];exact q⟩
  ·subst e';obtain⟨hz,hS,vs,r,m⟩:kvs.length<=sizeLine/\(p==sysModules)=false/\∃vs,KV kvs vs/\s.heap.DictOf (bV X.prog X.w) p vs:=I.bG p _ hx;have hlen:kvs.length=vs.length:=Paired.length r;exact wpAny_truthy_dict hS m (by omega) ⟨H,I.tok _,by rw [Lw r];exact q⟩
 | _=>exact (show False from e).elim
def Q1 (ha:PE X a ta) (he:∀whole,isTrue a X.env whole=(do let v <- whole;standAt a.pos;holding [v] (truthy v))) :
  PT X a (fun σ H Q=>ta σ H fun x H'=>∃k,aau X.K x H' k/\Q k H'):=by
 intro pins s σ H Q I h;exact isTrue_plain (bD (ha pins s σ H _ I h) fun v s1 ⟨x,H1,I1,r1,q1⟩=>Yh pins s1 σ H1 x v Q I1 r1 q1) (he _)
def KG:ir X (binaryOp .Add) (fun x y H Q=>∃i j,x=.str i/\y=.str j/\i.length+j.length<=sizeLine/\Q (.str (i++j)) H):=by
 intro pins s σ H x y v u Q I rx ry h;obtain⟨i,j,rfl,rfl,hz,q⟩:=h;obtain⟨t,rfl⟩:=rx;obtain⟨t',rfl⟩:=ry;exact add_str (fun t' tk=>⟨.str (i++j),H,I.tok _,⟨_,rfl⟩,q⟩) hz
def vals1 {x:V}{us:List Value} (r:Vals [x] us):∃u,us=[u]/\RelV x u:=by
 cases r with
 | cons r1 r2=>cases r2;exact⟨_,rfl,r1⟩
def vals2 {x y:V}{us:List Value} (r:Vals [x,y] us):∃u w',us=[u,w']/\RelV x u/\RelV y w':=by
 cases r with
 | cons r1 r2=>
  cases r2 with
  | cons r3 r4=>cases r4;exact⟨_,_,rfl,r1,r3⟩
def Ti:bS X (.builtin "abs") (fun xs H Q=>∃i,xs=[.int i]/\Q (.int (if i < 0 then -i else i)) H):=by
 intro pins s σ H xs us Q I r h;obtain⟨i,rfl,q⟩:=h;obtain⟨u,rfl,t,rfl⟩:=vals1 r;exact call_abs_int fun u tk=>⟨.int (if i < 0 then -i else i),H,I.tok _,⟨_,rfl⟩,q⟩
def Py (hc:X.calm=true):bS X (.builtin "max") (fun xs H Q=>∃i j,xs=[.int i,.int j]/\Q (.int (if j > i then j else i)) H):=by
 intro pins s σ H xs us Q I r h;obtain⟨i,j,rfl,q⟩:=h;obtain⟨u,w',rfl,⟨t,rfl⟩,⟨t',rfl⟩⟩:=vals2 r;refine max_two_ints (I.ok.hd hc) fun h' tk k=>⟨_,H,I.kept k,?_,q⟩;by_cases hj:j > i
 ·rw [if_pos hj,if_pos hj];exact⟨_,rfl⟩
 ·rw [if_neg hj,if_neg hj];exact⟨_,rfl⟩
def Px (hc:X.calm=true):bS X (.builtin "min") (fun xs H Q=>∃i j,xs=[.int i,.int j]/\Q (.int (if j < i then j else i)) H):=by
 intro pins s σ H xs us Q I r h;obtain⟨i,j,rfl,q⟩:=h;obtain⟨u,w',rfl,⟨t,rfl⟩,⟨t',rfl⟩⟩:=vals2 r;refine min_two_ints (I.ok.hd hc) fun h' tk k=>⟨_,H,I.kept k,?_,q⟩;by_cases hj:j < i
 ·rw [if_pos hj,if_pos hj];exact⟨_,rfl⟩
 ·rw [if_neg hj,if_neg hj];exact⟨_,rfl⟩
def PJ:bS X (.type "int") (fun xs H Q=>(∃i,xs=[.int i]/\Q (.int i) H)\/∃k,xs=[.bl k]/\Q (.int (if k then 1 else 0)) H):=by
 intro pins s σ H xs us Q I r h;rcases h with⟨i,rfl,q⟩ | ⟨k,rfl,q⟩
 ·obtain⟨u,rfl,t,rfl⟩:=vals1 r;exact call_int_int ⟨.int i,H,I,⟨_,rfl⟩,q⟩
 ·obtain⟨u,rfl,r1⟩:=vals1 r;cases r1;exact call_int_bool ⟨.int (if k then 1 else 0),H,I.tok _,⟨_,rfl⟩,q⟩
def ad6 (K:Ab) (x:V) (H:Hp) (n:Nat):Prop:=
 match x with
 | .str y=>y.length<=sizeLine/\n=y.length
 | .byt y=>y.size<=sizeLine/\n=y.size
 | .ref p=>(∃xs,df K H p xs/\n=xs.length)\/∃xs,dD K H p xs/\n=xs.length
 | _=>False
def Th:bS X (.builtin "len") (fun xs H Q=>∃x n,xs=[x]/\ad6 X.K x H n/\Q (.int n) H):=by
 intro pins s σ H xs us Q I r h;obtain⟨x,n,rfl,e,q⟩:=h;obtain⟨u,rfl,rx⟩:=vals1 r;have hl:=rR;have hs:sizeLine=16777216:=sizeLine_eq;cases x with
 | str y=>
  obtain⟨t,rfl⟩:=rx;obtain⟨hy,e'⟩:y.length<=sizeLine/\n=y.length:=e;subst e';exact len_str (by omega) ⟨.int _,H,I.tok _,⟨_,rfl⟩,q⟩
 | byt y=>
  obtain⟨t,rfl⟩:=rx;obtain⟨hy,e'⟩:y.size<=sizeLine/\n=y.size:=e;subst e';exact PySem.W.len_bytes (by omega) ⟨.int _,H,I.tok _,⟨_,rfl⟩,q⟩
 | ref p=>
  cases rx;have e':(∃xs,df X.K H p xs/\n=xs.length)\/∃xs,dD X.K H p xs/\n=xs.length:=e;rcases e' with⟨xs,hx,e'⟩ | ⟨xs,hx,e'⟩
  ·subst e';obtain⟨au,r',pl,hz⟩:=I.list hx;have hlen:=r'.length;exact Calls.call_len_list pl.isList (by simp only [Ah];omega) ⟨.int xs.length,H,I.tok _,⟨_,by simp only [Ah];rw [hlen]⟩,q⟩
  ·subst e';obtain⟨au,r',pl,hz⟩:=I.tuple hx;have hlen:=r'.length;exact len_tuple pl (by simp only [Ah];omega) ⟨.int xs.length,H,I.tok _,⟨_,by simp only [Ah];rw [hlen]⟩,q⟩
 | _=>exact (show False from e).elim
end
structure aax (h:Heap) (x dx C:Addr) (mA:Str->Option Value):Prop where
 obj:h.get? x=some (EI C dx)
 ns:h.Ns1 dx mA
 ne:dx≠x
def OE {h:Heap}{dx:Addr}{mA:Str->Option Value} (n:h.Ns1 dx mA):∃od,h.get? dx=some od/\∀name,EX name od=some (mA name):=by
 obtain⟨o,es,ep,ho,hd,hk,_,hm⟩:=n;refine⟨o,ho,fun name=>?_⟩;have e:=hm name;unfold nsFind findBy at e;rw [<- Array.find?_toList] at e;unfold EX;rw [hd];dsimp only
 split
 ·rename_i y q;rw [q] at e;exact congrArg some e
 ·rename_i q;rw [q] at e;have a:es.toList.any (·.refKey)=false:=by
   rw [List.any_eq_false];intro y hy;obtain⟨z,t,agD⟩:=hk y (Array.mem_toList_iff.mp hy);simp [DictEntry.refKey,agD]
  have a':¬es.toList.any (·.refKey)=true:=by rw [a];exact AG
  rw [if_neg a'];exact congrArg some e
def aax.look {h:Heap}{x dx C:Addr}{mA:Str->Option Value} (I:aax h x dx C mA):∃od,PySem.W.InstAt h x (EI C dx) C (some od)/\∀name,EX name od=some (mA name):=
 let ⟨od,ho,hl⟩:=OE I.ns
 ⟨od,⟨I.obj,rfl,rfl,ho⟩,hl⟩
def xC.some_of {v:V}{o:Option Value} (r:xC (some v) o):∃u,o=some u/\RelV v u:=by
 cases o with
 | none=>exact (show False from r).elim
 | some u=>exact⟨u,rfl,r⟩
section
variable {P:Program}{w:World}{H:Hp}{h:Heap}{a C dx:Addr}{fs:List (Str×V)}
def VQ (bG:nJ P w H h) (e:H a=some (.ins C dx fs)):∃mA,aax h a dx C mA/\(∀f,xC (fs.lookup f) (mA f))/\PySem.Within mA (fs.map (·.1))/\fs.length<=1000/\H dx=some (.own a):=by
 obtain⟨d,z,ne,ob,mA,n,r,q⟩:=(show bj P w H h a (.ins C dx fs) from bG a _ e);exact⟨mA,⟨ob,n,ne⟩,r,q,z,d⟩
end
structure Cls (K:Ab) (C:Addr):Prop where
 pg:Fy K C Str.empty=true
 hd:PySem.W.hasDictIn K C=true
 po:PySem.W.plainOver K C=true
 sa:PySem.W.findIn K (.ref C) "__setattr__"=some (some (.builtin "object.__setattr__"))
def Cls.get {K:Ab}{C:Addr} (c:Cls K C) (f:Str):Fy K C f=true:=c.pg
section
variable {X:Cx}{pins:List (Addr×Obj)}{σ:St}{H:Hp}{s:Shared}{A:Around}{E:Value->Shared->Prop}{Q:Value->Shared->Prop}{c:Value}{b:Bool}
inductive nT (K:Ab) (H:Hp):V->Value->Prop where
 | aQ:nT K H .aQ (.type "NoneType")
 | bl (x:Bool):nT K H (.bl x) (.type "bool")
 | int (i:Int):nT K H (.int i) (.type "int")
 | str (x:Str):nT K H (.str x) (.type "str")
 | flt (x:UInt64):nT K H (.flt x) (.type "float")
 | lst {a:Addr}{xs:List V} (e:H a=some (.lst xs)):nT K H (.ref a) (.type "list")
 | cV {a:Addr}{o:Obj}{xs:List V} (e:H a=some (.cV o (.lst xs))):nT K H (.ref a) (.type "list")
 | tup {a:Addr}{xs:List V} (e:H a=some (.tup xs)):nT K H (.ref a) (.type "tuple")
 | dK {a:Addr}{kvs:List (Key×V)} (e:H a=some (.dK kvs)):nT K H (.ref a) (.type "dict")
 | dT {a:Addr}{kvs:List (List Key×V)} (e:H a=some (.dT kvs)):nT K H (.ref a) (.type "dict")
 | ins {a C dx:Addr}{fs:List (Str×V)} (e:H a=some (.ins C dx fs)) (cl:Cls K C) (ha:PySem.W.findIn K (.ref C) "__class__"=some (some (.builtin "object.__class__")))
   (hn:PySem.W.specialIn K (.builtin "object.__class__") "__get__"=some (some (.builtin "getset_descriptor.__get__"))) (htk:PySem.W.takesIn K (.builtin "object.__class__")=some true)
   (hm:PySem.W.mroIn K C (.type "object")=some true):nT K H (.ref a) (.ref C)
def OW {x:V}{u t:Value} (I:Inv X pins σ H s) (rx:RelV x u) (ty:nT X.K H x t) (e:Bv X.K t c=some b) (h:∀tk,Q (.bool b) {s with toks:=tk}) :
  wpAny (model X.prog X.w) A (call (.builtin "isinstance") [u,c]) Q E s:=by
 cases ty with
 | aQ=>cases (show u=AQ from rx);exact Ba PySem.W.kitx_none I.yA B7 e (fun z=>nomatch z) h
 | bl y=>cases (show u=BZ y from rx);exact Ba PySem.W.kitx_bool I.yA B7 e (fun z=>nomatch z) h
 | int i=>obtain⟨t,q⟩:=(show ∃t,u=DK i t from rx);cases q;exact Ba PySem.W.kitx_int I.yA B7 e (fun z=>nomatch z) h
 | str y=>obtain⟨t,q⟩:=(show ∃t,u=DJ y t from rx);cases q;exact Ba PySem.W.kitx_str I.yA B7 e (fun z=>nomatch z) h
 | flt y=>obtain⟨t,q⟩:=(show ∃t,u=Value.float y t from rx);cases q;exact Ba PySem.W.kitx_float I.yA B7 e (fun z=>nomatch z) h
 | @lst a xs ea=>
  cases (show u=Ax a from rx);obtain⟨_,_,n,_,h1⟩:=(show bj X.prog X.w H s.heap a (.lst xs) from I.bG a _ ea);exact Ba D2 I.yA ⟨_,h1,rfl⟩ e (fun z=>nomatch z) h
 | @cV a ob xs ea=>
  cases (show u=Ax a from rx);obtain⟨_,_,_,n,_,h1⟩:=(show bj X.prog X.w H s.heap a (.cV ob (.lst xs)) from I.bG a _ ea);exact Ba D2 I.yA ⟨_,h1,rfl⟩ e (fun z=>nomatch z) h
 | @tup a xs ea=>
  cases (show u=Ax a from rx);obtain⟨_,_,_,p⟩:=(show bj X.prog X.w H s.heap a (.tup xs) from I.bG a _ ea);obtain⟨o,h1,h2,_⟩:=p;exact Ba Fj I.yA ⟨o,h1,h2⟩ e (fun z=>nomatch z) h
 | @dK a kvs ea=>
  cases (show u=Ax a from rx);obtain⟨_,_,vs,_,p⟩:=(show bj X.prog X.w H s.heap a (.dK kvs) from I.bG a _ ea);obtain⟨o,es,ep,h1,h2,_⟩:=p;exact Ba D3 I.yA ⟨o,h1,h2.1⟩ e (fun z=>nomatch z) h
 | @dT a kvs ea=>
  cases (show u=Ax a from rx);obtain⟨_,_,xs,_,o,es,ep,h1,h2,_⟩:=(show bj X.prog X.w H s.heap a (.dT kvs) from I.bG a _ ea);exact Ba D3 I.yA ⟨o,h1,h2.1⟩ e (fun z=>nomatch z) h
 | @ins a C dx fs ea cl ha hn htk hm=>
  cases (show u=Ax a from rx);obtain⟨mA,O,_⟩:=VQ I.bG ea;obtain⟨od,J,_⟩:=O.look;exact Ba (PySem.W.kitx_own (cl.get _) cl.hd ha hn htk hm) I.yA J e (fun z=>nomatch z) h
end
structure fv (k:Nat) (A:Around):Prop where
 hd:A.handled=none
 dp:A.depth+3*k+5 < recursionLimit
 un:A.units+16*k+200 < cLine
 gd:A.guards=some []
def fv.mono {j k:Nat}{A:Around} (r:fv k A) (h:j<=k):fv j A:=⟨r.hd,by have:=r.dp;omega,by have:=r.un;omega,r.gd⟩
def fv.deeper {k:Nat}{A:Around} (r:fv (k+1) A) (env:Env):fv k (A.deeper env):=
 ⟨r.hd,by have:=r.dp;show A.depth+1+3*k+5 < _;omega,by have:=r.un;show A.units+3+16*k+200 < _;omega,r.gd⟩
def fv.depth {k:Nat}{A:Around} (r:fv k A):A.depth < recursionLimit:=by have:=r.dp;omega
def afy:TA:=fun _ H Q=>Q [] H
def abB (ta:TE) (tr:TA):TA:=fun σ H Q=>ta σ H fun x H1=>tr σ H1 fun xs H2=>Q (x::xs) H2
section
variable {X:Cx}{e:Expr}{es:List Expr}{te:TE}{t:TA}{pos:Pos}
def dc:PA X [] afy:=fun _ _ _ _ H Q I h=>Ct ⟨[],H,I,.nil,h⟩
def bt (ha:PE X e te) (hr:PA X es t) (hs:starEach (e::es) X.env=(false,eval e X.env)::starEach es X.env:=by rfl):PA X (e::es) (abB te t):=by
 intro pos pins s σ H Q I h;rw [hs];show wpAny _ _ (spliced ((false,eval e X.env)::backTo pos (starEach es X.env))) _ _ s;refine B9 (bD (ha pins s σ H _ I h) fun u s1 ⟨x,H1,I1,r1,q1⟩=>?_);exact bD (hr pos pins s1 σ H1 _ I1 q1) fun us s2 ⟨xs,H2,I2,r2,q2⟩=>⟨x::xs,H2,I2,.cons r1 r2,q2⟩
end
abbrev Sp:=List V->Hp->VK->XK->Prop
abbrev Qj:=List Env->Hp->Shared->XK->Value->Shared->Prop
structure WX (P:Program) (w:World) (K:Ab) (mg:Str->Option Value) (base:Heap) (A:Around) (outer:List Env) (s:Shared) (H:Hp):Prop where
 frames:A.frames=some outer
 mod:Mod K mg base
 bs:∀b o,base.get? b=some o->s.heap.get? b=some o/\H b=none
 X2:base.objs.size<=s.heap.objs.size
 wQ:s.heap.FunFrames base outer
 frf:∀b∈Qg outer,H b=none
 bG:nJ P w H s.heap
 bare:AllBare s.gens
def CE (outer:List Env) (P:Program) (w:World) (H:Hp) (s:Shared) (Q:VK) (u:Value) (s':Shared):Prop:=
 ∃v H',s'.os=s.os/\AllBare s'.gens/\Un (Qg outer) [] H H' s.heap s'.heap/\nJ P w H' s'.heap/\RelV v u/\Q v H'
def CR (CX:Qj) (outer:List Env) (P:Program) (w:World) (H:Hp) (s:Shared) (Q:VK) (E:XK) (r:Result) (s':Shared):Prop:=
 match r with
 | .ok (.ret u)=>CE outer P w H s Q u s'
 | .ok _=>False
 | .error e=>CX outer H s E e s'
structure iQ (P:Program) (w:World) (K:Ab) (mg:Str->Option Value) (base:Heap) (CX:Qj) (k:Nat) (f:Addr) (fd:FuncData) (ps:List Str) (sp:Sp):Prop where
 len:∀vs H Q E,sp vs H Q E->vs.length=ps.length
 run:∀(A:Around) (outer:List Env) (s:Shared) (H:Hp) (args:Args) (us:List Value) (vs:List V) (Q:VK) (E:XK),fv k A->WX P w K mg base A outer s H->BindsTo s fd args (ps.zip us)->Vals vs us->sp vs H Q E->
  codeAny (model P w) A (.call (.ref f) args) (CR CX outer P w H s Q E) s
def iQ.imp {P:Program}{w:World}{K:Ab}{mg:Str->Option Value}{base:Heap}{CX:Qj}{k:Nat}{f:Addr}{fd:FuncData}{ps:List Str}{sp sp':Sp} (F:iQ P w K mg base CX k f fd ps sp)
  (h:∀vs H Q E,sp' vs H Q E->sp vs H Q E):iQ P w K mg base CX k f fd ps sp':=
 ⟨fun vs H Q E q=>F.len vs H Q E (h _ _ _ _ q),fun A outer s H args us vs Q E hr he hb hv hs=>F.run A outer s H args us vs Q E hr he hb hv (h _ _ _ _ hs)⟩
section
variable {X:Cx}{pins:List (Addr×Obj)}{σ:St}{H:Hp}{s s':Shared}
def Inv.ahc (I:Inv X pins σ H s):WX X.prog X.w X.K X.mg X.base X.A X.stack s H:=
 ⟨I.ok.frames,I.ok.mod,I.bs,Bq I.ok.X2 I.sz,I.stack,I.MH,I.bG,I.bare⟩
def Inv.after {Q:VK}{u:Value} (I:Inv X pins σ H s) (h:CE X.stack X.prog X.w H s Q u s'):EP X pins σ Q u s':=by
 obtain⟨v,H',os,bare,un,bG,r,q⟩:=h;obtain⟨hh,g,d,t,os'⟩:=s';obtain rfl:os'=s.os:=os;exact⟨v,H',I.call (h':=hh) (g':=g) (d':=d) (t':=t) (ch:=[]) un bG bare (fun b z=>absurd z (by simp)),r,q⟩
end
def Binds (K:Ab) (fd:FuncData) (ps:List Str) (ds:List Value):Prop:=
 ∀(s:Shared) (us:List Value),K.In s.heap->(us++ds).length=ps.length->BindsTo s fd ⟨us,[]⟩ (ps.zip (us++ds))
def Binds.all {K:Ab}{fd:FuncData}{ps:List Str} (h:∀us:List Value,us.length=ps.length->bindArgs fd ⟨us,[]⟩=pure (ps.zip us)):Binds K fd ps []:=fun s us _ hl=>by
 rw [CJ] at hl ⊢;exact .of_eq (h us hl)
def Passes (CX:Qj) (X:Cx) (E:XK):Prop:=∀(pins:List (Addr×Obj)) (σ:St) (H:Hp) (s:Shared) (e:Value) (s':Shared),Inv X pins σ H s->CX X.stack H s E e s'->X.xe e s'
section
variable {X:Cx}{CX:Qj}{k:Nat}{f:Addr}{fd:FuncData}{ps:List Str}{sp:Sp}{dvs:List V}{ds:List Value}{E:XK}{e:Expr}
def QM {pins:List (Addr×Obj)}{σ:St}{H:Hp}{s:Shared}{Q:VK}{us:List Value}{vs:List V} (F:iQ X.prog X.w X.K X.mg X.base CX k f fd ps sp) (hr:fv k X.A) (hb:Binds X.K fd ps ds) (hd:Vals dvs ds) (hx:Passes CX X E)
  (I:Inv X pins σ H s) (r:Vals vs us) (h:sp (vs++dvs) H Q E):wpAny (model X.prog X.w) X.A (call (.ref f) us) (EP X pins σ Q) X.xe s:=by
 have r2:Vals (vs++dvs) (us++ds):=r.append hd;have hl:(us++ds).length=ps.length:=by rw [<- r2.length];exact F.len _ _ _ _ h
 refine wpAny_call (codeAny_mono (F.run X.A X.stack s H ⟨us,[]⟩ (us++ds) (vs++dvs) Q E hr I.ahc (hb s us I.yA hl) r2 h) fun r s' hq=>?_);cases r with
 | error e=>exact hx pins σ H s e s' I hq
 | ok fl=>
  cases fl with
  | ret u=>exact I.after hq
  | next=>exact Bl hq
  | brk=>exact Bl hq
  | cont=>exact Bl hq
end
structure ar (N P:List Str) (sc:Scope):Prop where
 kind:sc.kind=.function
 co:sc.isCoroutine=false
 gen:sc.isGenerator=false
 nd:N.Nodup
 pre:N.take P.length=P
 par:∀x∈P,sc.names.lookup x=some .local\/sc.names.lookup x=some .cell
 Zf:∀y∈sc.names,y.2≠.free
theorem zq {kindOf:Str->Option NameKind}{x:Str}:∀{binds:List (Str×Value)}{m:Str->Option Value},(∀v,(x,v)∉binds)->bindL kindOf binds m x=m x
 | [],_,_=>rfl
 | (n,v)::r,m,h=>by
  unfold bindL;rw [zq fun w hw=>h w (AV _ hw)]
  split
  ·have:x≠n:=by rintro rfl;exact h v Bx
   simp [this]
  ·rfl
theorem zu {kindOf:Str->Option NameKind}{x:Str}:∀{binds:List (Str×Value)}{m:Str->Option Value},(∀v,(x,v)∉binds)->bindC kindOf binds m x=m x
 | [],_,_=>rfl
 | (n,v)::r,m,h=>by
  unfold bindC;rw [zu fun w hw=>h w (AV _ hw)]
  split
  ·rfl
  ·have:x≠n:=by rintro rfl;exact h v Bx
   simp [this]
theorem zr {kindOf:Str->Option NameKind}{x:Str}{v:Value}:∀{P:List Str}{vs:List Value}{i:Nat}{m:Str->Option Value},P.Nodup->P[i]?=some x->vs[i]?=some v->kindOf x=some .local->
  bindL kindOf (P.zip vs) m x=some v
 | [],_,_,_,_,h,_,_=>by simp at h
 | _::_,[],_,_,_,_,h,_=>by simp at h
 | p::P,w::vs,0,m,nd,h1,h2,hk=>by
  simp at h1 h2;subst h1;subst h2;show bindL kindOf ((p,w)::P.zip vs) m p=_;unfold bindL;rw [zq fun v hv=>(Dw.mp nd).1 (EN hv).1,if_pos hk];simp
 | p::P,w::vs,i+1,m,nd,h1,h2,hk=>by
  show bindL kindOf ((p,w)::P.zip vs) m x=_;unfold bindL;exact zr (i:=i) (Dw.mp nd).2 (by simpa using h1) (by simpa using h2) hk
theorem zv {kindOf:Str->Option NameKind}{x:Str}{v:Value}:∀{P:List Str}{vs:List Value}{i:Nat}{m:Str->Option Value},P.Nodup->P[i]?=some x->vs[i]?=some v->kindOf x≠some .local->
  bindC kindOf (P.zip vs) m x=some v
 | [],_,_,_,_,h,_,_=>by simp at h
 | _::_,[],_,_,_,_,h,_=>by simp at h
 | p::P,w::vs,0,m,nd,h1,h2,hk=>by
  simp at h1 h2;subst h1;subst h2;show bindC kindOf ((p,w)::P.zip vs) m p=_;unfold bindC;rw [zu fun v hv=>(Dw.mp nd).1 (EN hv).1,if_neg hk];simp
 | p::P,w::vs,i+1,m,nd,h1,h2,hk=>by
  show bindC kindOf ((p,w)::P.zip vs) m x=_;unfold bindC;exact zv (i:=i) (Dw.mp nd).2 (by simpa using h1) (by simpa using h2) hk
def start (N:List Str) (vs:List V):St:=vs.map some++Al (N.length-vs.length) none
def xo (CX:Qj) (P:Program) (w:World) (K:Ab) (mg:Str->Option Value) (base:Heap) (N:List Str) (qual:Str) (scope:Scope) (f:Addr) (cd:Value) (A:Around) (outer:List Env) (s:Shared) (H:Hp) (E:XK):Cx where
 prog:=P
 w:=w
 K:=K
 mg:=mg
 base:=base
 A:=A.deeper (envOfC qual scope s.heap.objs.size f cd)
 N:=N
 s₀:=s
 H₀:=H
 env:=envOfC qual scope s.heap.objs.size f cd
 outer:=outer
 stack:=envOfC qual scope s.heap.objs.size f cd::outer
 ex:=[]
 calm:=true
 fn:=fun _=>true
 pn:=[]
 xe:=fun e s'=>wpAny (model P w) (A.deeper (envOfC qual scope s.heap.objs.size f cd)) (leaving (envOfC qual scope s.heap.objs.size f cd) e) (fun _ s''=>CX outer H s E e s'') (fun e' s''=>CX outer H s E e' s'') s'
def Jy {sc:Scope}{n:Nat}{x:Str} (h:sc.names.lookup x=some .cell):∃c,(cellsFrom n sc.names []).lookup x=some c:=by
 have q:=Et sc.names n [] (.inl h);exact Option.isSome_iff_exists.mp q
def OY {CX:Qj}{P:Program}{w:World}{K:Ab}{mg:Str->Option Value}{base:Heap}{N ps:List Str}{qual:Str}{scope:Scope}{f:Addr}{cd:Value}{A:Around}{outer:List Env}{s s1:Shared}{H:Hp}{E:XK}{us:List Value}{vs:List V}
  (S:ar N ps scope) (hd:A.handled=none) (e0:WX P w K mg base A outer s H) (hl:vs.length=ps.length) (r:Vals vs us)
  (x:InCallC s s.heap.objs.size (bindL (envOfC qual scope s.heap.objs.size f cd).kindOf (ps.zip us) fun _=>none) (cellsFrom (s.heap.objs.size+1) scope.names []) (bindC (envOfC qual scope s.heap.objs.size f cd).kindOf (ps.zip us) fun _=>none) s1) :
  Inv (xo CX P w K mg base N qual scope f cd A outer s H E) [] (start N vs) H s1:=by
 have eg:ps.length<=N.length:=by have:=congrArg BV S.pre;rw [B6] at this;omega
 obtain⟨h1,tk,rfl,hk⟩:=x.done;have noA:∀b:Addr,b∉(xo CX P w K mg base N qual scope f cd A outer s H E).ex:=fun b z=>absurd (show b∈([]:List Addr) from z) (by simp);refine⟨⟨e0.mod,S.kind,rfl,rfl,An _,fun y z c h1 h2=>?_,fun y hy=>?_,fun y c _ h=>?_,fun _=>hd,Around.frames_deeper e0.frames,.inr ⟨rfl,rfl⟩,fun b z=>absurd z (noA b),e0.bs,e0.X2,fun b _ _=>noA b,fun b z=>absurd z (noA b),e0.wQ,e0.frf⟩,
  rfl,e0.bare,Un.kept hk,⟨_,x.toInCall.ns,fun i y v h1 h2 h3=>?_⟩,fun y c h=>⟨_,x.cell y c h⟩,e0.bG.fresh (An _),fun y c h=>?_,fun p hp=>absurd (show p∈([]:List (Addr×Obj)) from hp) (by simp),e0.bG.kept hk,?_⟩
 ·exact name_of_addr x.apart (BL h1) (BL h2)
 ·have hy:scope.names.lookup y=some .cell\/scope.names.lookup y=some .free:=hy;rcases hy with hy | hy
  ·exact Jy hy
  ·exact absurd rfl (S.Zf _ (BL hy))
 ·exact DH (x.above y c (BL h))
 ·have hi:i < vs.length:=by
   unfold start at h2;by_cases hi:i < vs.length
   ·exact hi
   ·rw [AB (by simpa using hi)] at h2;rw [Bu] at h2
    split at h2 <;> cases h2
  have ha:vs[i]?=some v:=by
   unfold start at h2;rw [AD (by simpa using hi),Ai] at h2;cases e:vs[i]? with
   | none=>rw [e] at h2;cases h2
   | some a=>rw [e] at h2;cases h2;rfl
  obtain⟨u,hu,rv⟩:=r.get ha;have hp:ps[i]?=some y:=by
   rw [<- S.pre,List.getElem?_take_of_lt (by omega)];exact h1
  have ndP:ps.Nodup:=by rw [<- S.pre];exact S.nd.sublist (List.take_sublist _ _)
  refine⟨u,rv,?_⟩;rcases S.par y (Bo hp) with k | k
  ·exact .inl ⟨k,zr ndP hp hu k⟩
  ·obtain⟨c,e⟩:=Jy (n:=s.heap.objs.size+1) k;refine .inr ⟨.inl k,c,e,?_⟩;have q:=x.cell y c e;rw [zv ndP hp hu (by show scope.names.lookup y≠_;rw [k];decide)] at q;exact q
 ·exact e0.bG.fresh (DH (x.above y c (BL h)))
 ·unfold start;show _=N.length;rw [Ae,Af,A8];omega
def adx {CX:Qj}{P:Program}{w:World}{K:Ab}{mg:Str->Option Value}{base:Heap}{k:Nat}{f:Addr}{name qual:Str}{params:Arguments}{body:List Stmt}{scope:Scope}{dV kV doc pm gE ct oc:Value}{an od:Option Addr}
  {Rl:Array (Option Value)}{N ps:List Str}{sp:Sp} (lk:K.lookup f=some ⟨oc,od,.func (Cd name qual params body scope dV kV doc pm an gE ct),Rl⟩) (jw:DL K gE qual=true) (S:ar N ps scope)
  (len:∀vs H Q E,sp vs H Q E->vs.length=ps.length)
  (Sm:∀(A:Around) (outer:List Env) (s:Shared) (H:Hp) (vs:List V) (Q:VK) (E:XK),fv k (A.deeper (envOfC qual scope s.heap.objs.size f gE))->sp vs H Q E->
   ∃t,u0 (xo CX P w K mg base N qual scope f gE A outer s H E) body t/\t {nx:=fun _ H'=>Q .aQ H',rt:=Q} (start N vs) H) :
  iQ P w K mg base CX (k+1) f (Cd name qual params body scope dV kV doc pm an gE ct) ps sp:=by
 refine⟨len,fun A outer s H args us vs Q E hr e0 hb r VW=>?_⟩;have hl:=len _ _ _ _ VW;have KX:K.In s.heap:=e0.mod.kin.keeps fun b o e=>(e0.bs b o e).1;have lim:s.heap.NoLimit:=e0.mod.nolimit.keeps fun b o e=>(e0.bs b o e).1;have ac8:∀y∈ps.zip us,scope.names.lookup y.1=some .local\/(scope.names.lookup y.1=some .cell/\((cellsFrom (s.heap.objs.size+1) scope.names []).lookup y.1).isSome=true):=fun ⟨n,v⟩ hy=>by
  rcases S.par n (EN hy).1 with q | q
  ·exact .inl q
  ·exact .inr ⟨q,Et _ _ _ (.inl q)⟩
 refine codeAny_call_function hr.depth (KX _ _ lk) rfl S.co S.gen rfl (PySem.W.codeRec_of KX jw) (hb _ _ _ _ ?_);refine wpAny_newFunctionEnv_cells S.kind ac8 fun env he s1 x=>?_;subst he;refine⟨lim.keeps x.toInCall.keep,codeAny_func ?_⟩;obtain⟨t,ht,hq⟩:=Sm A outer s H vs Q E (hr.deeper _) VW;have I:Inv (xo CX P w K mg base N qual scope f gE A outer s H E) [] (start N vs) H s1:=OY S hr.hd e0 hl r x;refine BK (ht [] s1 (start N vs) H _ I hq) (fun fl s' hs=>?_) fun e s' hs=>hs;have fin:∀{σ':St}{H':Hp}{v:V}{u:Value},Inv (xo CX P w K mg base N qual scope f gE A outer s H E) [] σ' H' s'->RelV v u->Q v H'->CE outer P w H s Q u s':=
  fun {σ' H' v u} J rv q=>⟨v,H',J.os,J.bare,J.base,J.bG,rv,q⟩
 cases fl with
 | ret u=>
  obtain⟨v,σ',H',J,rv,q⟩:=hs;exact fin J rv q
 | next=>
  obtain⟨σ',H',J,q⟩:=hs;exact fin (v:=V.aQ) (u:=AQ) J rfl q
 | brk=>
  obtain⟨_,_,_,q⟩:=hs;exact Bl q
 | cont=>
  obtain⟨_,_,_,q⟩:=hs;exact Bl q
section
variable {X:Cx}{x:Str}{p pos:Pos}{e:Expr}{es:List Expr}{t:TA}{id T:String}{r:List V->Hp->VK->Prop}
def tCB (r:List V->Hp->VK->Prop) (t:TA):TE:=fun σ H Q=>t σ H fun vs H1=>r vs H1 Q
def gm (hc:bS X (.builtin id) r) (hg:Gl X x) (hm:X.mg x=none) (hv:bootBuiltins x=some (.builtin id)) (ha:PA X (e::es) t) (hn:x≠"__name__":=by decide) (qA:(x==("__debug__":Str))=false:=by decide)
  (he:starEach (e::es) X.env=(false,eval e X.env)::starEach es X.env:=by rfl) (eg:(backTo pos (starEach es X.env)).any (·.1)=false:=by rfl):PE X (.Call (.Name x p) (e::es) [] pos) (tCB r t):=by
 intro pins s σ H Q I h;refine BH (kH I hg hm hv ?_ hn qA);exact PyProof.Rows.callWith_builtin1 (bD (ha pos pins s σ H _ I h) fun us s1 ⟨vs,H1,I1,r1,q1⟩=>hc pins s1 σ H1 vs us Q I1 r1 q1) he eg
def nr (hc:bS X (.type T) r) (hg:Gl X x) (hm:X.mg x=none) (hv:bootBuiltins x=some (.type T)) (ha:PA X (e::es) t) (hn:x≠"__name__":=by decide) (qA:(x==("__debug__":Str))=false:=by decide)
  (he:starEach (e::es) X.env=(false,eval e X.env)::starEach es X.env:=by rfl) (eg:(backTo pos (starEach es X.env)).any (·.1)=false:=by rfl):PE X (.Call (.Name x p) (e::es) [] pos) (tCB r t):=by
 intro pins s σ H Q I h;refine BH (kH I hg hm hv ?_ hn qA);exact Bh (bD (ha pos pins s σ H _ I h) fun us s1 ⟨vs,H1,I1,r1,q1⟩=>hc pins s1 σ H1 vs us Q I1 r1 q1) he eg
end
end L2
namespace HT
open PySem PyProof.Rows
def lexLt:List Int->List Int->Bool
 | [],[]=>false
 | [],_::_=>true
 | _::_,[]=>false
 | x::xs,y::ys=>if x=y then lexLt xs ys else decide (x < y)
theorem K6 (x y:Int) (xs ys:List Int):lexLt (x::xs) (y::ys)=if x=y then lexLt xs ys else decide (x < y):=rfl
theorem yu:lexLt [] []=false:=rfl
theorem wg (y:Int) (ys:List Int):lexLt [] (y::ys)=true:=rfl
theorem wj (x:Int) (xs:List Int):lexLt (x::xs) []=false:=rfl
def SS (A:Around) (s:Shared) (a:Int) (t:Tok) (c:Int) (u:Tok):∃e,Eu A s (.int a t) (.int c u) e/\(e=true↔a=c):=
 ⟨(a==c),CM a t c u,by simp⟩
def QQ (A:Around) (s:Shared) (a:Int) (t:Tok) (c:Int) (u:Tok) (prog:Program) (w:World) (E:Value->Shared->Prop) (Q:Value->Shared->Prop) (h:Q (.bool (decide (a < c))) s) :
  wpAny (model prog w) A (richCompare .Lt (.int a t) (.int c u)) Q E s:=
 (PyProof.Rows.lt_int h:wpAny (model prog w) A (compareOp .Lt (.int a t) (.int c u)) Q E s)
section
open PySem.SeqAt
open PySem.AutoSeq1 (wpAny_loadPart')
open PySem.MeetsSeq PySem.MeetsSeq2 PySem.MeetsSeq3
def yf (l b:Addr) (items cg:Array Value) (n n2:Nat) (dd Wy:Option Addr) (sl TV:Array (Option Value)) (ns ms:List Int) (hi:IntsAre items.toList ns) (hj:IntsAre cg.toList ms) :
  Meets (Builtin.«tuple.__lt__» ⟨[.ref l,.ref b],[]⟩)
   (fun _ R s=>s.heap.get? l=some {cls:=.type "tuple",dict:=dd,data:=.seq items n,slots:=sl}/\s.heap.get? b=some {cls:=.type "tuple",dict:=Wy,data:=.seq cg n2,slots:=TV}/\
    R (.ok (.ret (.bool (lexLt ns ms)))) s):=
 .of_wp fun prog w A R s h=>by
  obtain⟨hp,g,d,tk,os⟩:=s;obtain⟨hl,hb,h⟩:=h;have f2:=AutoSeq1.sub_tuple_tuple;have z1:items.size=ns.length:=by rw [<- hi.length];simp
  have z2:cg.size=ms.length:=by rw [<- hj.length];simp
  wp_walk using wpAny_loadPart' hl,wpAny_loadPart' hb,wpAny_forIn_list _ (fun rest b s'=>b.1=none/\s'=⟨hp,g,d,tk,os⟩/\∃(vs ws:List Value) (Nc ms':List Int),rest=vs.zip ws/\
   IntsAre vs Nc/\IntsAre ws ms'/\Nc.length+cg.size=ms'.length+items.size/\R (.ok (.ret (.bool (lexLt Nc ms')))) ⟨hp,g,d,tk,os⟩) _
  case turn=>
   rintro⟨y,x⟩ rest b s' ⟨hb',rfl,vs,ws,Nc,ms',hz,hvi,hwi,hlen,hR⟩;cases hvi with
   | nil=>rw [List.zip_nil_left] at hz;cases hz
   | cons a t agj=>
    cases hwi with
    | nil=>rw [List.zip_nil_right] at hz;cases hz
    | cons c u agi=>
     rw [List.zip_cons_cons] at hz;injection hz with hyx ac1;injection hyx with hy hx;subst hy hx;rw [K6] at hR;simp only [Ao] at hlen;obtain⟨e,he,adb⟩:=SS A.in1 ⟨hp,g,d,tk,os⟩ a t c u;refine Aa (he prog w _ _ ?_);cases e with
     | true=>
      rw [if_pos (adb.mp rfl)] at hR
      wp_walk
      exact⟨rfl,rfl,_,_,_,_,ac1,agj,agi,by omega,hR⟩
     | false=>
      rw [if_neg (fun q=>absurd (adb.mpr q) AG)] at hR;have hri:=QQ A.in1 ⟨hp,g,d,tk,os⟩ a t c u prog w
      wp_walk using hri
      exact⟨_,rfl,by simpa using hR⟩
  case fin=>
   rintro⟨b1,b2⟩ s' ⟨hb',rfl,vs,ws,Nc,ms',hz,hvi,hwi,hlen,hR⟩;simp only at hb';subst hb';have hv:lexLt Nc ms'=decide (items.size < cg.size):=by
    cases hvi with
    | nil=>
     cases hwi with
     | nil=>
      simp only [A2] at hlen;rw [yu];exact (decide_eq_false (by omega)).symm
     | cons c u hw=>
      simp only [A2,Ao] at hlen;rw [wg];exact (decide_eq_true (by omega)).symm
    | cons a t hv=>
     cases hwi with
     | nil=>
      simp only [A2,Ao] at hlen;rw [wj];exact (decide_eq_false (by omega)).symm
     | cons c u hw=>
      rw [List.zip_cons_cons] at hz;cases hz
   rw [hv] at hR
   wp_walk
   exact⟨_,rfl,by simpa [Builtin.Tuple.tupleCompareSizes] using hR⟩
  case h=>
   exact⟨rfl,rfl,items.toList,cg.toList,ns,ms,rfl,hi,hj,by omega,h⟩
end
section
variable {prog:Program}{w:World}{A:Around}{E:Value->Shared->Prop}{s:Shared}
def K1 {l b:Addr}{items cg:Array Value}{ns ms:List Int}{Q:Value->Shared->Prop} (hl:IsTup s.heap l items) (hb:IsTup s.heap b cg) (hi:IntsAre items.toList ns) (hj:IntsAre cg.toList ms)
  (hu:A.units < cLine) (h:Q (.bool (lexLt ns ms)) s):wpAny (model prog w) A (compareOp .Lt (.ref l) (.ref b)) Q E s:=by
 obtain⟨⟨cls,dd,data,sl⟩,ho,hc,n,hd⟩:=id hl;obtain⟨⟨aal,Wy,data2,TV⟩,O1,Sl,n2,hd2⟩:=id hb;simp only at hc hd Sl hd2;subst hc hd Sl hd2;exact richCompare_meets_room (op:=.Lt) ⟨_,ho,rfl⟩ ⟨_,O1,rfl⟩ PySem.F.slot_tuple_lt PySem.F.entry_tuple_lt (PySem.F.args_tuple_lt_2 _ _) (yf l b items cg n n2 dd Wy sl TV ns ms hi hj)
  ⟨ho,O1,show BZ (lexLt ns ms)≠Value.notImplemented/\Q (.bool (lexLt ns ms)) s from⟨(fun x=>nomatch x),h⟩⟩ hu
def WC {t b:Addr}{vs ws:List Value}{Q:Value->Shared->Prop} (ht:IsTup s.heap t vs.toArray) (hb:IsTup s.heap b ws.toArray) (hv:vs≠[])
  (h1:ws=[]->Q (.ref t) s) (h2:ws≠[]->Q (.ref s.heap.objs.size) {s with heap:=s.heap.push {cls:=.type "tuple",data:=.seq (vs++ws).toArray}})
  (hsz:vs.length+ws.length<=sizeLine):wpAny (model prog w) A (binaryOp .Add (.ref t) (.ref b)) Q E s:=by
 obtain⟨⟨cls,dd,data,sl⟩,ho,hc,n,hd⟩:=id ht;obtain⟨⟨aal,Wy,data2,TV⟩,O1,Sl,n2,hd2⟩:=id hb;simp only at hc hd Sl hd2;subst hc hd Sl hd2;have e:vs.toArray++ws.toArray=(vs++ws).toArray:=by simp
 by_cases hw:ws=[]
 ·exact concat_meets ⟨_,ho,rfl⟩ ⟨_,O1,rfl⟩ noFill_tuple_add seq_tuple_add CW CS (CG _ _)
   (tuple_addW1 t b vs.toArray ws.toArray n n2 dd Wy sl TV (by simpa using hv) (by simp [hw])) ⟨ho,O1,h1 hw⟩
 ·refine concat_meets ⟨_,ho,rfl⟩ ⟨_,O1,rfl⟩ noFill_tuple_add seq_tuple_add CW CS (CG _ _)
   (tuple_addW2 t b vs.toArray ws.toArray n n2 dd Wy sl TV (by simpa using hv) (by simpa using hw) (by rw [Ah,Ah];exact hsz)) ⟨ho,O1,?_⟩
  rw [e];exact h2 hw
def ef (n d:Nat):Option Int->Nat
 | none=>d
 | some v=>if v < 0 then (v+(n:Int)).toNat else min v.toNat n
theorem QK (n d:Nat):ef n d none=d:=rfl
def UG (n d k:Nat):ef n d (some (k:Int))=min k n:=by
 show (if (k:Int) < 0 then ((k:Int)+(n:Int)).toNat else min (k:Int).toNat n)=min k n;rw [if_neg (by omega),AU]
def Yw (n d:Nat) (hd:d<=n) (o:Option Int):ef n d o<=n:=by
 cases o with
 | none=>exact hd
 | some v=>
  show (if v < 0 then (v+(n:Int)).toNat else min v.toNat n)<=n;by_cases hv:v < 0
  ·rw [if_pos hv];omega
  ·rw [if_neg hv];exact Nat.min_le_right _ _
def NU (v:Int) (n d:Nat):(if v < 0 then max (v+(n:Int)) 0 else min v (n:Int))=((ef n d (some v):Nat):Int):=by
 show (if v < 0 then max (v+(n:Int)) 0 else min v (n:Int))=(((if v < 0 then (v+(n:Int)).toNat else min v.toNat n):Nat):Int);by_cases hv:v < 0
 ·simp only [if_pos hv];omega
 ·simp only [if_neg hv];omega
def Mg (lo hi:Option Int) (n:Nat):Builtin.Slice.sliceAdjust lo hi 1 (n:Int)=(((ef n 0 lo:Nat):Int),((ef n n hi:Nat):Int)):=by
 have h1:¬((1:Int) < 0):=by omega
 unfold Builtin.Slice.sliceAdjust;simp only [h1,if_false];refine Prod.ext ?_ ?_
 ·cases lo with
  | none=>rfl
  | some v=>exact NU v n 0
 ·cases hi with
  | none=>rfl
  | some v=>exact NU v n n
def KC (i j:Nat):Builtin.Slice.slicePlaces (i:Int) (j:Int) 1=j-i:=by
 unfold Builtin.Slice.slicePlaces;have h1:(1:Int) > 0:=by omega
 simp only [h1,if_true,Int.ediv_one]
 split <;> omega
def vz {v:Value}{o:Option Int}{Q:Option Int->Shared->Prop} (p:IsPart v o) (h:Q o s):wpAny (model prog w) A (Builtin.Slice.slicePartIndex v) Q E s:=by
 cases p with
 | none=>exact slicePart_none h
 | int i t=>exact slicePart_int h
def jK {sl:Addr}{vl vu:Value}{lo hi:Option Int}{n:Nat}{Q:Int×Int×Nat->Shared->Prop} (hs:s.heap.IsSliceOf sl vl vu .none) (pl:IsPart vl lo) (pu:IsPart vu hi)
  (h:Q (((ef n 0 lo:Nat):Int),1,ef n n hi-ef n 0 lo) s):wpAny (model prog w) A (Builtin.Slice.sliceApplied (.ref sl) (pure (n:Int))) Q E s:=by
 obtain⟨os,Qd,hcs,V3⟩:=id hs;unfold Builtin.Slice.sliceApplied Builtin.Slice.sliceFields;refine Aa (Aa (AY Qd V3 (x:=vl) rfl (Aa (AY Qd V3 (x:=vu) rfl (Aa (AY Qd V3 (x:=.none) rfl (Ag ?_)))))));refine Aa (slicePart_none ?_);show wpAny _ _ (if ((1:Int)==0)=true then _ else _) _ _ s;rw [if_neg (by decide)];refine Aa (vz pl (Aa (vz pu (Aa (Ag ?_)))));show wpAny _ _ (match Builtin.Slice.sliceAdjust lo hi 1 (n:Int) with | (lo,hi)=>pure (lo,(1:Int),Builtin.Slice.slicePlaces lo hi 1)) _ _ s;rw [Mg lo hi n];show wpAny _ _ (pure (((ef n 0 lo:Nat):Int),(1:Int),Builtin.Slice.slicePlaces ((ef n 0 lo:Nat):Int) ((ef n n hi:Nat):Int) 1)) _ _ s;rw [KC];exact Ag h
def Q5 (xs:Array Value) (i k:Nat):((Av k).filterMap fun (m:Nat)=>xs[((i:Int)+(m:Int)*1).toNat]?).toArray=((xs.toList.drop i).take k).toArray:=by
 have e:(fun (m:Nat)=>xs[((i:Int)+(m:Int)*1).toNat]?)=fun m=>xs[i+m]?:=by
  funext m;have:((i:Int)+(m:Int)*1).toNat=i+m:=by omega
  rw [this]
 rw [e];have:=pick_run xs i k;rw [List.filterMap_map] at this;have e2:((fun x=>xs[x]?)∘fun x=>i+x)=fun m=>xs[i+m]?:=rfl;rw [e2] at this;rw [this]
def qD {t sl:Addr}{items:Array Value}{vl vu:Value}{lo hi:Option Int}{Q:Value->Shared->Prop} (ht:IsTup s.heap t items) (hs:s.heap.IsSliceOf sl vl vu .none) (pl:IsPart vl lo) (pu:IsPart vu hi)
  (hw:¬(ef items.size 0 lo=0/\ef items.size items.size hi=items.size))
  (h:Q (.ref s.heap.objs.size) {s with heap:=s.heap.push {cls:=.type "tuple",data:=.seq ((items.toList.drop (ef items.size 0 lo)).take (ef items.size items.size hi-ef items.size 0 lo)).toArray}})
  (hsz:items.size<=sizeLine):wpAny (model prog w) A (getItem (.ref t) (.ref sl)) Q E s:=by
 have Nx:sizeOk (.seq ((items.toList.drop (ef items.size 0 lo)).take (ef items.size items.size hi-ef items.size 0 lo)).toArray):=by
  show ((items.toList.drop (ef items.size 0 lo)).take (ef items.size items.size hi-ef items.size 0 lo)).toArray.size<=sizeLine;rw [Ah,B6,CB,DB];omega
 have hj:ef items.size items.size hi<=items.size:=Yw _ _ (An _) hi;obtain⟨os,Qd,hcs,V3⟩:=id hs;have hTs:s.TypeIs (.ref sl) "slice":=⟨os,Qd,hcs⟩;unfold getItem
 try with_reducible refine A9 ?_
 first | refine Aa (Ag ?_) | skip
 refine Aa (D5 ht.typeIs (by decide) ?_);refine Aa (AW (name:=Ce "__getitem__") ht.typeIs Bi
  (Bb Bi ht.typeIs entry_tuple_getitem ?_ (args_tuple_getitem _ _)))
 show wpAny _ _ (Builtin.Tuple.tupleItemsOf (.ref t) >>= _) _ _ s;refine Aa (tupleItemsOf_ ht ?_);refine Aa (Cf hTs ?_);rw [if_pos (by decide)];refine Aa (jK hs pl pu ?_);have hno:¬((((ef items.size 0 lo:Nat):Int)==0&&(1:Int)==1&&(ef items.size items.size hi-ef items.size 0 lo)==items.size)=true):=by
  intro q;rw [AM,AM] at q;have q1:((ef items.size 0 lo:Nat):Int)=0:=eq_of_beq q.1.1;have q2:ef items.size items.size hi-ef items.size 0 lo=items.size:=eq_of_beq q.2;exact hw ⟨by omega,by omega⟩
 show wpAny _ _ (if (((ef items.size 0 lo:Nat):Int)==0&&(1:Int)==1&&(ef items.size items.size hi-ef items.size 0 lo)==items.size)=true then _ else _) _ _ s;rw [if_neg hno,Q5]
 first
  | exact Aa (m:=Builtin.Tuple.tupleExact _) (Bn (Ag ⟨_,rfl,Ag h⟩) Nx)
  | exact Aa (m:=Builtin.Tuple.tupleExact _) (Bn (Aa (Ag (Ag ⟨_,rfl,Ag h⟩))) Nx)
  | exact Aa (Aa (m:=Builtin.Tuple.tupleExact _) (Bn (Ag (Ag ⟨_,rfl,Ag h⟩)) Nx))
  | exact Aa (Aa (m:=Builtin.Tuple.tupleExact _) (Bn (Ag ⟨_,rfl,Ag h⟩) Nx))
end
end HT
namespace L2
open PySem PySem.Spec PyProof.Rows
abbrev TO:=St->Hp->(Option Int->Hp->Prop)->Prop
def PO (X:Cx) (e:Option Expr) (t:TO):Prop:=
 ∀(pins:List (Addr×Obj)) (s:Shared) (σ:St) (H:Hp) (Q:Option Int->Hp->Prop),Inv X pins σ H s->t σ H Q->
  wpAny (model X.prog X.w) X.A (evalPart e X.env) (fun u s'=>∃o H',Inv X pins σ H' s'/\IsPart u o/\Q o H') X.xe s
def Ur:TO:=fun _ H Q=>Q none H
def abu (t:TE):TO:=fun σ H Q=>t σ H fun x H1=>∃i,x=.int i/\Q (some i) H1
def intsAre_of {ns:List Int}:∀{us:List Value},Vals (ns.map V.int) us->IntsAre us ns:=by
 induction ns with
 | nil=>intro us r;rw [EA] at r;cases r;exact .nil
 | cons n ns ih=>
  intro us r;rw [Au] at r;cases r with
  | cons r1 r2=>
   obtain⟨t,e⟩:=r1;subst e;exact .cons n t (ih r2)
section
variable {X:Cx}{e:Expr}{te:TE}{lo hi:Option Expr}{tl th:TO}{pos p2:Pos}
def UY:PO X none Ur:=by
 intro pins s σ H Q I h;rw [evalPart_none];exact Ag ⟨none,H,I,.none,h⟩
def UX (h:PE X e te):PO X (some e) (abu te):=by
 intro pins s σ H Q I hw;rw [evalPart_some];refine bD (h pins s σ H _ I hw) fun u s1 ⟨x,H1,I1,r1,q1⟩=>?_;obtain⟨i,rfl,q⟩:=q1;obtain⟨t,rfl⟩:=r1;exact⟨some i,H1,I1,.int i t,q⟩
def SlR (X:Cx) (r:V->Option Int->Option Int->Hp->VK->Prop):Prop:=
 ∀(pins:List (Addr×Obj)) (s:Shared) (σ:St) (H:Hp) (x:V) (v vl vu:Value) (lo hi:Option Int) (sl:Addr) (Q:VK),Inv X pins σ H s->RelV x v->s.heap.IsSliceOf sl vl vu .none->IsPart vl lo->IsPart vu hi->r x lo hi H Q->
  ∃T id,typeLookup (.type T) "__getitem__"=pure (some (.builtin id))/\s.TypeIs v T/\wpAny (model X.prog X.w) X.A (getItem v (.ref sl)) (EP X pins σ Q) X.xe s
def tSl (r:V->Option Int->Option Int->Hp->VK->Prop) (te:TE) (tl th:TO):TE:=fun σ H Q=>te σ H fun x H1=>tl σ H1 fun l H2=>th σ H2 fun u H3=>r x l u H3 Q
def Rb {r:V->Option Int->Option Int->Hp->VK->Prop} (hr:SlR X r) (he:PE X e te) (hl:PO X lo tl) (hu:PO X hi th):PE X (.Subscript e (.Slice lo hi none p2) pos) (tSl r te tl th):=by
 intro pins s σ H Q I h;refine Subscript_ (bD (he pins s σ H _ I h) fun v s1 ⟨x,H1,I1,r1,q1⟩=>?_);refine wpAny_Slice (bD (hl pins s1 σ H1 _ I1 q1) fun vl s2 ⟨l,H2,I2,pl,q2⟩=>bD (hu pins s2 σ H2 _ I2 q2) fun vu s3 ⟨u,H3,I3,pu,q3⟩=>?_);rw [evalPart_none];refine Ag ?_;have I4:Inv X pins σ H3 {s3 with heap:=s3.heap.push {cls:=.type "slice",data:=.fields #[vl,vu,.none]}}:=I3.kept (t':=s3.toks) fun b ob q=>Aj _ q;obtain⟨T,id,hT,ht,hg⟩:=hr pins {s3 with heap:=s3.heap.push {cls:=.type "slice",data:=.fields #[vl,vu,.none]}} σ H3 x v vl vu l u s3.heap.objs.size Q I4 r1 (Heap.IsSliceOf.new ..) pl pu q3;show wpAny (model X.prog X.w) X.A (subscriptTail e (.Slice lo hi none p2) v (.ref s3.heap.objs.size)) (EP X pins σ Q) X.xe {s3 with heap:=s3.heap.push {cls:=.type "slice",data:=.fields #[vl,vu,.none]}};exact tail_any (ops:=[.ref s3.heap.objs.size,v]) ht hT hg (by with_unfolding_all rfl)
def Hh (xs:List V) (lo hi:Option Int):List V:=(xs.drop (HT.ef xs.length 0 lo)).take (HT.ef xs.length xs.length hi-HT.ef xs.length 0 lo)
def tM (xs:List V) (lo hi:Option Int):(Hh xs lo hi).length<=xs.length:=by
 unfold Hh;rw [B6,CB];omega
def afO (K:Ab):V->Option Int->Option Int->Hp->VK->Prop:=fun x lo hi H Q=>∃a xs,x=.ref a/\dD K H a xs/\
 ¬(HT.ef xs.length 0 lo=0/\HT.ef xs.length xs.length hi=xs.length)/\∀p,H p=none->Q (.ref p) (upd H p (.tup (Hh xs lo hi)))
def Yt:SlR X (afO X.K):=by
 intro pins s σ H x v vl vu lo hi sl Q I rx hs pl pu h;obtain⟨a,xs,rfl,hx,hw,q⟩:=h;cases rx;obtain⟨au,r,ht,hz⟩:=I.tuple hx;have hlen:au.toArray.size=xs.length:=by rw [Ah];exact r.length.symm
 refine⟨"tuple",_,Bi.lookup,ht.typeIs,?_⟩;refine HT.qD ht hs pl pu (by rw [hlen];exact hw) ?_ (by rw [hlen];exact hz);rw [hlen];refine⟨.ref s.heap.objs.size,_,I.laid (t':=s.toks) (o:=.tup (Hh xs lo hi)) (fun b ob q=>Aj _ q) (An _) ?_,rfl,q _ (I.bG.fresh (An _))⟩;exact⟨Bq (tM xs lo hi) hz,_,(r.drop (HT.ef xs.length 0 lo)).take (HT.ef xs.length xs.length hi-HT.ef xs.length 0 lo),IsTup.new _ _⟩
def Xh (K:Ab):R2:=fun x y H Q=>∃a b xs ys,x=.ref a/\y=.ref b/\dD K H a xs/\dD K H b ys/\xs≠[]/\xs.length+ys.length<=sizeLine/\
 (ys=[]->Q (.ref a) H)/\(ys≠[]->∀p,H p=none->Q (.ref p) (upd H p (.tup (xs++ys))))
def Vals.kC {xs:List V}{us:List Value} (r:Vals xs us):us=[]↔xs=[]:=by
 cases r with
 | nil=>simp
 | cons _ _=>simp
def Na:ir X (binaryOp .Add) (Xh X.K):=by
 intro pins s σ H x y v u Q I rx ry h;obtain⟨a,b,xs,ys,rfl,rfl,ha,hb,hx,hz,q1,q2⟩:=h;cases rx;cases ry;obtain⟨au,r1,p1,_⟩:=I.tuple ha;obtain⟨bL,r2,p2,_⟩:=I.tuple hb;refine HT.WC p1 p2 (fun z=>hx (r1.kC.mp z)) (fun z=>⟨.ref a,H,I,rfl,q1 (r2.kC.mp z)⟩) (fun z=>?_) (by rw [<- r1.length,<- r2.length];exact hz);refine⟨.ref s.heap.objs.size,_,I.laid (t':=s.toks) (o:=.tup (xs++ys)) (fun b ob q=>Aj _ q) (An _) ?_,rfl,q2 (fun w=>z (r2.kC.mpr w)) _ (I.bG.fresh (An _))⟩;exact⟨by rw [Ae];exact hz,_,r1.append r2,IsTup.new _ _⟩
end
def qt (n:Nat) (i:Int):Option Nat:=if 0<=i then (if i < n then some i.toNat else none) else if -(n:Int)<=i then some (i+n).toNat else none
def cy {α:Type} (xs:List α) (i:Int):Option α:=(qt xs.length i).bind fun j=>xs[j]?
def GD {n:Nat}{i:Int}{j:Nat} (h:qt n i=some j):seqIndex? i n=some j/\j < n/\-(n:Int)<=i/\i < n:=by
 unfold qt at h;by_cases h0:0<=i
 ·rw [if_pos h0] at h;by_cases h1:i < n
  ·rw [if_pos h1] at h;have e:i.toNat=j:=Option.some.inj h;exact⟨by rw [seqIndex_of h0 h1,e],by omega,by omega,h1⟩
  ·rw [if_neg h1] at h;cases h
 ·rw [if_neg h0] at h;by_cases h1:-(n:Int)<=i
  ·rw [if_pos h1] at h;have e:(i+n).toNat=j:=Option.some.inj h;exact⟨by rw [seqIndex_neg (by omega) h1,e],by omega,h1,by omega⟩
  ·rw [if_neg h1] at h;cases h
def Ho {α:Type}{xs:List α}{i:Int}{v:α} (h:cy xs i=some v):∃j,seqIndex? i xs.length=some j/\xs[j]?=some v/\j < xs.length/\-(xs.length:Int)<=i/\i < xs.length:=by
 unfold cy at h;cases e:qt xs.length i with
 | none=>rw [e] at h;cases h
 | some j=>
  rw [e] at h;obtain⟨h1,h2,h3,h4⟩:=GD e;exact⟨j,h1,h,h2,h3,h4⟩
def cU {α:Type}{xs:List α}{j:Nat}{v:α} (h:xs[j]?=some v):cy xs (j:Int)=some v:=by
 have hj:j < xs.length:=(Ak.mp h).1;have e:qt xs.length (j:Int)=some j:=by
  unfold qt;rw [if_pos (by omega),if_pos (by omega)];simp
 unfold cy;rw [e];exact h
def Tu {α:Type} (xs:List α) (v:α):cy (xs++[v]) (-1)=some v:=by
 have hl:(xs++[v]).length=xs.length+1:=by simp
 have e:qt (xs++[v]).length (-1)=some xs.length:=by
  unfold qt;rw [hl,if_neg (by decide),if_pos (by omega)];congr 1;omega
 unfold cy;rw [e];show (xs++[v])[xs.length]?=some v;simp
def uZ (b:Expr):Prop:=∀o i,subscripted b false o i=operate [o,i] (getItem o i)
def T5 (X:Cx) (r:R2):Prop:=
 ∀(value slice:Expr) (pins:List (Addr×Obj)) (s:Shared) (σ:St) (H:Hp) (x y:V) (v u:Value) (Q:VK),Inv X pins σ H s->RelV x v->RelV y u->r x y H Q->
  subscripted slice false v u=operate [v,u] (getItem v u)->wpAny (model X.prog X.w) X.A (subscriptTail value slice v u) (EP X pins σ Q) X.xe s
def MtR (X:Cx) (id:String) (r:V->List V->Hp->VK->Prop):Prop:=
 ∀(pins:List (Addr×Obj)) (s:Shared) (σ:St) (H:Hp) (x:V) (xs:List V) (v:Value) (us:List Value) (Q:VK),Inv X pins σ H s->RelV x v->Vals xs us->r x xs H Q->
  wpAny (model X.prog X.w) X.A (call (.builtin id) (v::us)) (EP X pins σ Q) X.xe s
section
variable {X:Cx}{a b:Expr}{ta tb:TE}{pos:Pos}
def T5.or {r r':R2} (h:T5 X r) (h':T5 X r'):T5 X (fun x y H Q=>r x y H Q\/r' x y H Q):=by
 intro value slice pins s σ H x y v u Q I rx ry q hs;rcases q with q | q
 ·exact h value slice pins s σ H x y v u Q I rx ry q hs
 ·exact h' value slice pins s σ H x y v u Q I rx ry q hs
def Rc {r:R2} (hr:T5 X r) (ha:PE X a ta) (hb:PE X b tb) (hs:uZ b):PE X (.Subscript a b pos) (Xb r ta tb):=by
 intro pins s σ H Q I h;exact Subscript_ (aan ha hb I h fun v u s2 x y H2 I2 rx ry q=>hr a b pins s2 σ H2 x y v u Q I2 rx ry q (hs _ _))
def ab0 (K:Ab):R2:=fun x y H Q=>∃p xs i v,x=.ref p/\y=.int i/\df K H p xs/\cy xs i=some v/\Q v H
def abZ (K:Ab):R2:=fun x y H Q=>∃p xs i v,x=.ref p/\y=.int i/\dD K H p xs/\cy xs i=some v/\Q v H
def YI:R2:=fun x y H Q=>∃z i c,x=.str z/\y=.int i/\z.length<=sizeLine/\cy z.cps.toList i=some c/\Q (.str ⟨#[c]⟩) H
def VM:T5 X (ab0 X.K):=by
 intro value slice pins s σ H x y v u Q I rx ry h hs;obtain⟨p,xs,i,z,rfl,rfl,hq,he,q⟩:=h;cases rx;obtain⟨t,rfl⟩:=ry;obtain⟨au,r,pl,hz⟩:=I.list hq;obtain⟨j,h1,h2,h3,h4,h5⟩:=Ho he;obtain⟨w,ew,ju⟩:=r.get h2;have hl:=r.length;have hn:=rR;have fin:EP X pins σ Q w s:=⟨z,H,I,ju,q⟩;by_cases h0:0<=i
 ·have hj:i.toNat=j:=by
   rw [seqIndex_of h0 h5] at h1;exact Option.some.inj h1
  exact item_listR pl.isList h0 (by omega) (by rw [hj];simpa using ew) fin hs
 ·have hj:(i+(au.toArray.size:Int)).toNat=j:=by
   rw [seqIndex_neg (by omega) h4] at h1;rw [Ah,<- hl];exact Option.some.inj h1
  exact subscriptTail_builtinR (x:=w) pl.isList.typeIs slot_list_getitem.lookup
   (wpAny_getItem_list_neg (Q:=fun r s'=>r=w/\EP X pins σ Q r s') pl.isList (by omega) (by rw [Ah] <;> omega) (by omega) (by rw [hj];simpa using ew) ⟨rfl,fin⟩) hs
def ZI:T5 X (abZ X.K):=by
 intro value slice pins s σ H x y v u Q I rx ry h hs;obtain⟨p,xs,i,z,rfl,rfl,hq,he,q⟩:=h;cases rx;obtain⟨t,rfl⟩:=ry;obtain⟨au,r,pl,hz⟩:=I.tuple hq;obtain⟨j,h1,h2,h3,h4,h5⟩:=Ho he;obtain⟨w,ew,ju⟩:=r.get h2;have hl:=r.length;have hn:=rR;have fin:EP X pins σ Q w s:=⟨z,H,I,ju,q⟩;exact subscriptTail_builtinR (x:=w) pl.typeIs slot_tuple_getitem.lookup
  (getItem_tuple (j:=j) (Q:=fun r s'=>r=w/\EP X pins σ Q r s') pl (by omega) (by omega) (by rw [Ah,<- hl];exact h1) (by simpa using ew) ⟨rfl,fin⟩) hs
def R1:T5 X YI:=by
 intro value slice pins s σ H x y v u Q I rx ry h hs;obtain⟨z,i,c,rfl,rfl,hz,he,q⟩:=h;obtain⟨t,rfl⟩:=rx;obtain⟨t',rfl⟩:=ry;obtain⟨j,h1,h2,h3,h4,h5⟩:=Ho he;have hl:z.cps.toList.length=z.length:=by simp [Str.length]
 rw [hl] at h1 h4 h5;have hn:=rR;exact tail_any (typeIs_str s z t) slot_str_getitem.lookup (getItem_str (c:=c) (by
  have e1:decide (i < -(2 ^ 63:Int))=false:=decide_eq_false (by omega);have e2:decide (i≥2 ^ 63)=false:=decide_eq_false (by omega);rw [e1,e2,Bool.or_false]) (by rw [h1];simpa using h2) ⟨.str ⟨#[c]⟩,H,I.tok _,⟨_,rfl⟩,q⟩) hs
def rIx (K:Ab):R2:=fun x y H Q=>ab0 K x y H Q\/abZ K x y H Q\/YI x y H Q
def ZJ:T5 X (rIx X.K):=VM.or (ZI.or R1)
def K0 (au:List Value) (n j:Nat) (u:Value):Be (·.setIfInBounds j u) {cls:=.type "list",data:=.seq au.toArray n}={cls:=.type "list",data:=.seq (au.set j u).toArray n}:=by
 simp [Be]
def Inv.lst {pins:List (Addr×Obj)}{σ:St}{H:Hp}{s:Shared}{p:Addr}{xs:List V} (I:Inv X pins σ H s) (h:H p=some (.lst xs)) :
  ∃(au:List Value) (n:Nat),Vals xs au/\s.heap.get? p=some {cls:=.type "list",data:=.seq au.toArray n}/\xs.length<=sizeLine:=by
 obtain⟨z,au,n,r,e⟩:=I.bG p _ h;exact⟨au,n,r,e,z⟩
def Inv.Zn {pins:List (Addr×Obj)}{σ:St}{H:Hp}{s:Shared}{p:Addr}{xs ys:List V}{au its':List Value}{n n':Nat}{f:Obj->Obj} (I:Inv X pins σ H s) (h:H p=some (.lst xs))
  (ho:s.heap.get? p=some {cls:=.type "list",data:=.seq au.toArray n}) (hf:f {cls:=.type "list",data:=.seq au.toArray n}={cls:=.type "list",data:=.seq its'.toArray n'}) (r:Vals ys its') (hz:ys.length<=sizeLine) (t:Nat) :
  Inv X pins σ (upd H p (.lst ys)) {s with heap:=s.heap.update p f,toks:=t}:=by
 have e:(s.heap.update p f).get? p=some {cls:=.type "list",data:=.seq its'.toArray n'}:=by
  rw [Cq f ho (by rw [hf] <;> rfl),hf]
 refine I.write (x:=p) (e:=p) (by rw [h];trivial) (.inl rfl) (fun b u hb q=>(CV _ _ (BF hb)).trans q) ⟨_,e⟩ ?_;exact⟨hz,its',n',r,e⟩
def abX:V->V->V->Hp->(Hp->Prop)->Prop:=fun o i v H Q=>∃p xs k j,o=.ref p/\i=.int k/\H p=some (.lst xs)/\qt xs.length k=some j/\Q (upd H p (.lst (xs.set j v)))
def set_list:Mt X abX:=by
 intro pins s σ H o i v ov iv u Q I ro ri rv h;obtain⟨p,xs,k,j,rfl,rfl,hp,hj,q⟩:=h;cases ro;obtain⟨t,rfl⟩:=ri;obtain⟨au,n,r,ho,hz⟩:=I.lst hp;obtain⟨h1,h2,h3,h4⟩:=GD hj;have hl:=r.length;have hn:=rR;have I':Inv X pins σ (upd H p (.lst (xs.set j v))) {s with heap:=s.heap.update p (Be (·.setIfInBounds j u))}:=
  I.Zn hp ho (K0 au n j u) (r.set rv j) (by rw [BM];exact hz) s.toks
 by_cases h0:0<=k
 ·have hk:k.toNat=j:=by
   rw [seqIndex_of h0 h4] at h1;exact Option.some.inj h1
  exact PySem.W.ki_setAt ho h0 (by omega) (by rw [Ah,<- hl];exact h4) (by rw [hk];exact⟨_,I',q⟩)
 ·have hk:(k+(au.toArray.size:Int)).toNat=j:=by
   rw [seqIndex_neg (by omega) h3] at h1;rw [Ah,<- hl];exact Option.some.inj h1
  exact PySem.W.ki_setBack ho (by omega) (by rw [Ah,<- hl];exact h3) (by omega) (by rw [hk];exact⟨_,I',q⟩)
def FQ (lo hi:Option Int) (n:Nat):(sliceBounds lo hi none n).1=((HT.ef n 0 lo:Nat):Int)/\(sliceBounds lo hi none n).2.1=((HT.ef n n hi:Nat):Int)/\(sliceBounds lo hi none n).2.2=1:=by
 refine⟨?_,?_,rfl⟩
 ·cases lo with
  | none=>simp [sliceBounds,HT.ef]
  | some i=>
   simp only [sliceBounds,HT.ef,Ei,show (1:Int) > 0 by decide,if_true];by_cases h:i < 0
   ·simp only [h,if_true] <;> omega
   ·simp only [h,if_false] <;> omega
 ·cases hi with
  | none=>simp [sliceBounds,HT.ef]
  | some i=>
   simp only [sliceBounds,HT.ef,Ei,show (1:Int) > 0 by decide,if_true];by_cases h:i < 0
   ·simp only [h,if_true] <;> omega
   ·simp only [h,if_false] <;> omega
def yh (au:List Value) (lo hi:Option Int):slicePick au.toArray lo hi none=((au.drop (HT.ef au.length 0 lo)).take (HT.ef au.length au.length hi-HT.ef au.length 0 lo)).toArray:=by
 obtain⟨h1,h2,h3⟩:=FQ lo hi au.toArray.size;unfold slicePick;rw [h1,h2,h3];simp only [sliceRange_one,pick_run,Ah] <;> rfl
def afP (K:Ab):V->Option Int->Option Int->Hp->VK->Prop:=fun x lo hi H Q=>∃a xs,x=.ref a/\df K H a xs/\∀p,H p=none->Q (.ref p) (upd H p (.lst (Hh xs lo hi)))
def aei:SlR X (afP X.K):=by
 intro pins s σ H x v vl vu lo hi sl Q I rx hs pl pu h;obtain⟨a,xs,rfl,hx,q⟩:=h;cases rx;obtain⟨au,r,ht,hz⟩:=I.list hx;have hlen:=r.length;refine⟨"list",_,slot_list_getitem.lookup,ht.isList.typeIs,?_⟩;refine wpAny_getItem_list_slice ht.isList hs pl pu .none (by simp) ?_ (by rw [Ah] <;> omega);rw [yh,<- hlen];refine⟨.ref s.heap.objs.size,_,I.laid (t':=s.toks) (o:=.lst (Hh xs lo hi)) (fun b ob q=>Aj _ q) (An _) ?_,rfl,q _ (I.bG.fresh (An _))⟩;exact⟨Bq (tM xs lo hi) hz,_,0,(r.drop (HT.ef xs.length 0 lo)).take (HT.ef xs.length xs.length hi-HT.ef xs.length 0 lo),Aq _ rfl⟩
def Hi:bS X (.type "list") (fun xs H Q=>∃p ys,xs=[.ref p]/\(df X.K H p ys\/dD X.K H p ys)/\∀l,H l=none->Q (.ref l) (upd H l (.lst ys))):=by
 intro pins s σ H xs us Q I r h;obtain⟨p,ys,rfl,hq,q⟩:=h;obtain⟨u,rfl,rx⟩:=vals1 r;cases rx;have fin:∀(au:List Value),Vals ys au->ys.length<=sizeLine->∀(h':Heap) (c':Nat),(∀b o',s.heap.get? b=some o'->h'.get? b=some o')->
   h'.get? s.heap.objs.size=some {cls:=.type "list",dict:=none,data:=.seq au.toArray c',slots:=#[]}->EP X pins σ Q (.ref s.heap.objs.size) {s with heap:=h'}:=fun au r' hz h' c' kp e=>
  ⟨.ref s.heap.objs.size,_,I.laid (t':=s.toks) kp (An _) (show bj X.prog X.w _ h' _ (.lst ys) from⟨hz,au,c',r',e⟩),rfl,q _ (I.bG.fresh (An _))⟩
 rcases hq with hq | hq
 ·obtain⟨au,r',pl,hz⟩:=I.list hq;have hlen:=r'.length;obtain⟨o,ho,hc,n,hd⟩:=pl.isList;exact call_list_seq p (.inl rfl) ho hc hd (fun h' c' kp e=>fin au r' hz h' c' kp e) (by simp only [Ah] <;> omega)
 ·obtain⟨au,r',pl,hz⟩:=I.tuple hq;have hlen:=r'.length;obtain⟨o,ho,hc,n,hd⟩:=pl;exact call_list_seq p (.inr rfl) ho hc hd (fun h' c' kp e=>fin au r' hz h' c' kp e) (by simp only [Ah] <;> omega)
def yI:bS X (.type "tuple") (fun xs H Q=>∃p ys,xs=[.ref p]/\((df X.K H p ys/\∀l,H l=none->Q (.ref l) (upd H l (.tup ys)))\/(dD X.K H p ys/\Q (.ref p) H))):=by
 intro pins s σ H xs us Q I r h;obtain⟨p,ys,rfl,h⟩:=h;obtain⟨u,rfl,rx⟩:=vals1 r;cases rx;rcases h with⟨hq,q⟩ | ⟨hq,q⟩
 ·obtain⟨au,r',pl,hz⟩:=I.list hq;have hlen:=r'.length;refine call_tuple_list pl.isList (fun h' kp=>?_) (by simp only [Ah] <;> omega);have I1:Inv X pins σ H {s with heap:=h'}:=I.kept (t':=s.toks) kp;have I2:Inv X pins σ (upd H h'.objs.size (.tup ys)) {s with heap:=h'.push {cls:=.type "tuple",data:=.seq au.toArray}}:=
   I1.laid (t':=s.toks) (fun b o e=>Aj _ e) (An _) (show bj X.prog X.w _ _ _ (.tup ys) from⟨hz,au,r',IsTup.new _ _⟩)
  exact⟨.ref h'.objs.size,_,I2,rfl,q _ (I1.bG.fresh (An _))⟩
 ·obtain⟨au,r',pl,hz⟩:=I.tuple hq;exact call_tuple_same pl ⟨.ref p,H,I,rfl,q⟩
def tyV (K:Ab) (T:String) (x:V) (H:Hp):Prop:=match x with
 | .str _=>T="str"
 | .int _=>T="int"
 | .ref p=>(T="list"/\∃xs,df K H p xs)\/(T="tuple"/\∃o,K.lookup p=some o/\o.cls=.type "tuple"/\o.dict=none)\/
   (T="dict"/\((∃kvs,H p=some (.dK kvs))\/∃kvs,H p=some (.dT kvs)))\/(T="set"/\∃S n,H p=some (.set S n))
 | _=>False
def Qs {pins:List (Addr×Obj)}{σ:St}{H:Hp}{s:Shared}{T:String}{x:V}{v:Value} (I:Inv X pins σ H s) (r:RelV x v) (ty:tyV X.K T x H) :
  s.TypeIs v T/\∀a,v=.ref a->∃ob,s.heap.get? a=some ob/\ob.dict=none:=by
 cases x with
 | str z=>
  obtain⟨t,rfl⟩:=r;cases (show T="str" from ty);exact⟨typeIs_str s z t,fun _ e=>nomatch e⟩
 | int i=>
  obtain⟨t,rfl⟩:=r;cases (show T="int" from ty);exact⟨typeIs_int s i t,fun _ e=>nomatch e⟩
 | ref p=>
  cases r;rcases ty with⟨rfl,xs,hq⟩ | ⟨rfl,o,hk,hc,hd⟩ | ⟨rfl,hk⟩ | ⟨rfl,S,n,hk⟩
  ·obtain⟨au,_,pl,_⟩:=I.list hq;refine⟨pl.isList.typeIs,fun a e=>?_⟩;cases e;obtain⟨o,n,e,c,hd,_⟩:=pl;exact⟨o,e,hd⟩
  ·refine⟨⟨o,I.yA p o hk,hc⟩,fun a e=>?_⟩;cases e;exact⟨o,I.yA _ o hk,hd⟩
  ·have z:∃o,s.heap.get? p=some o/\o.ExactDict:=by
    rcases hk with⟨kvs,hk⟩ | ⟨kvs,hk⟩
    ·obtain⟨_,_,_,_,o,_,_,e,ex,_⟩:=I.bG p _ hk;exact⟨o,e,ex⟩
    ·obtain⟨_,_,_,_,o,_,_,e,ex,_⟩:=I.bG p _ hk;exact⟨o,e,ex⟩
   obtain⟨o,e,ex⟩:=z;refine⟨⟨o,e,ex.1⟩,fun a e2=>?_⟩;cases e2;exact⟨o,e,ex.2.1⟩
  ·obtain⟨o,_,_,_,e,ex,_⟩:=I.bG p _ hk;refine⟨⟨o,e,ex.1⟩,fun a e2=>?_⟩;cases e2;exact⟨o,e,ex.2.1⟩
 | _=>exact Bl ty
def abD (K:Ab) (T:String) (r:V->List V->Hp->VK->Prop) (to:TE):TE:=fun σ H Q=>to σ H fun x H1=>tyV K T x H1/\r x [] H1 Q
def tBM (K:Ab) (T:String) (r:V->List V->Hp->VK->Prop) (to:TE) (t:TA):TE:=fun σ H Q=>to σ H fun x H1=>tyV K T x H1/\t σ H1 fun xs H2=>r x xs H2 Q
variable {o e:Expr}{es:List Expr}{to:TE}{t:TA}{name:Str}{apos bI:Pos}{T id:String}{r:V->List V->Hp->VK->Prop}
def Y0 (pa:PlainAttrs T) (slot:Slot T name id) (Nw:typeOf (.builtin id)=pure (.type "method_descriptor")) (hm:MtR X id r) (ho:PE X o to)
  (gA:attributeBase o name X.env (eval o X.env)=eval o X.env:=by rfl) (gz:(apos.endLine==bI.line)=true:=by rfl):PE X (.Call (.Attribute o name apos) [] [] bI) (abD X.K T r to):=by
 intro pins s σ H Q I h;refine wpAny_Call_method0_late gA gz (bD (ho pins s σ H _ I h) fun v s1 ⟨x,H1,I1,r1,ty,q1⟩=>?_);obtain⟨h1,h2⟩:=Qs I1 r1 ty;exact⟨T,id,pa,slot,Nw,h1,h2,Ex rfl (PySem.evalArgs_none (hm pins s1 σ H1 x [] v [] Q I1 r1 .nil q1))⟩
def ace (pa:PlainAttrs T) (slot:Slot T name id) (Nw:typeOf (.builtin id)=pure (.type "method_descriptor")) (hm:MtR X id r) (ho:PE X o to) (ha:PA X (e::es) t)
  (gA:attributeBase o name X.env (eval o X.env)=eval o X.env:=by rfl)
  (wJ:((backTo bI (starEach (e::es) X.env)).all (fun x=>!x.1)&&(backToKw bI (keywordEach [] X.env)).all (fun x=>x.1.isSome)
   && decide ((e::es).length+([]:List Keyword).length+(if ([]:List Keyword).isEmpty then 0 else 1) < 30))=true:=by rfl)
  (gz:(apos.endLine==bI.line)=true:=by rfl) (hs:starEach (e::es) X.env=(false,eval e X.env)::starEach es X.env:=by rfl) (iK:(backTo bI (starEach es X.env)).any (·.1)=false:=by rfl) :
  PE X (.Call (.Attribute o name apos) (e::es) [] bI) (tBM X.K T r to t):=by
 intro pins s σ H Q I h;refine wpAny_Call_method_late gA wJ gz rfl (bD (ho pins s σ H _ I h) fun v s1 ⟨x,H1,I1,r1,ty,q1⟩=>?_);obtain⟨h1,h2⟩:=Qs I1 r1 ty;refine⟨T,id,pa,slot,Nw,h1,h2,?_⟩;have hA:=ha bI pins s1 σ H1 _ I1 q1;rw [hs] at hA ⊢;refine Ex (by show (false||(backTo bI (starEach es X.env)).any (·.1))=false;rw [iK] <;> rfl) (Calls.evalArgs_plain ?_);exact bD hA fun us s2 ⟨vs,H2,I2,r2,q2⟩=>hm pins s2 σ H2 x vs v us Q I2 r1 r2 q2
end
def Qi (X:Cx) (id:String) (r:V->List V->Hp->VK->Prop):Prop:=
 ∀(pins:List (Addr×Obj)) (s:Shared) (σ:St) (H:Hp) (x:V) (xs:List V) (v:Value) (us:List Value) (Q:VK),Inv X pins σ H s->RelV x v->Vals xs us->r x xs H Q->
  wpAny (model X.prog X.w) X.A (call (.builtin id) (v::us)) (EP X pins σ Q) X.xe s
def Vals.one:∀{x:V}{us:List Value},Vals [x] us->∃u,us=[u]/\RelV x u
 | _,_,.cons r .nil=>⟨_,rfl,r⟩
def Vals.zero:∀{us:List Value},Vals [] us->us=[]
 | _,.nil=>rfl
def Vals.dropLast {xs:List V}{us:List Value} (h:Vals xs us):Vals xs.dropLast us.dropLast:=by
 induction h with
 | nil=>exact .nil
 | cons r t ih=>
  cases t with
  | nil=>exact .nil
  | cons q t'=>exact .cons r ih
theorem Vals.rep {xs:List V}{us:List Value} (h:Vals xs us):∀k:Nat,Vals (Al k xs).flatten (Al k us).flatten
 | 0=>.nil
 | k+1=>by
  rw [Br,Br,BX,BX];exact Vals.append h (Vals.rep h k)
def LW {α:Type} (l:List α):l.eraseIdx (l.length-1)=l.dropLast:=by
 induction l with
 | nil=>rfl
 | cons a r ih=>
  cases r with
  | nil=>rfl
  | cons b r=>
   have e:(a::b::r).length-1=((b::r).length-1)+1:=by
    have h1:(a::b::r).length=r.length+2:=rfl;have h2:(b::r).length=r.length+1:=rfl;omega
   rw [e,List.eraseIdx_cons_succ,ih]
   all_goals rfl
theorem foldl_rep (au:List Value):∀(k:Nat) (acc:List Value),
  List.foldl (fun x1 x2=>x1++x2) acc.toArray (Al k au.toArray)=(acc++(Al k au).flatten).toArray
 | 0,acc=>by simp
 | k+1,acc=>by
  have e:acc.toArray++au.toArray=(acc++au).toArray:=by simp
  have e2:(acc++au)++(Al k au).flatten=acc++(Al (k+1) au).flatten:=by
   rw [Br,BX,A7]
  rw [<- e2,<- foldl_rep au k (acc++au),<- e,Br,List.foldl_cons]
section
variable {X:Cx}{pins:List (Addr×Obj)}{σ:St}{H:Hp}{s:Shared}{l:Addr}{xs ys:List V}
def Inv.K3 {au its':List Value}{n:Nat}{f:Array Value->Array Value}{t':Nat} (I:Inv X pins σ H s) (hH:H l=some (.lst xs))
  (e:s.heap.get? l=some {cls:=.type "list",data:=.seq au.toArray n}) (hf:f au.toArray=its'.toArray) (hv:Vals ys its') (hz:ys.length<=sizeLine) :
  Inv X pins σ (upd H l (.lst ys)) {s with heap:=s.heap.update l (Be f),toks:=t'}:=by
 have q:=PySem.IsL.update e f;rw [hf] at q;refine I.write (x:=l) (e:=l) (by rw [hH];exact trivial) (.inl rfl) (fun b' u hb hu=>(CV s.heap (Be f) (BF hb)).trans hu) ⟨_,q⟩ ?_;exact⟨hz,its',_,hv,q⟩
def Inv.Zp {au:List Value}{t':Nat} (I:Inv X pins σ H s) (hv:Vals ys au) (hz:ys.length<=sizeLine) :
  Inv X pins σ (upd H s.heap.objs.size (.lst ys)) {s with heap:=s.heap.push {cls:=.type "list",data:=.seq au.toArray},toks:=t'}:=
 I.laid (fun _ _ q=>Aj _ q) (An _) ⟨hz,au,0,hv,Aq _ rfl⟩
def Inv.fresh (I:Inv X pins σ H s):H s.heap.objs.size=none:=I.bG.fresh (An _)
def Inv.rK (I:Inv X pins σ H s) (hH:H l=some (.lst xs)):xs.length<=sizeLine/\∃(au:List Value) (n:Nat),Vals xs au/\xs.length=au.length/\s.heap.get? l=some {cls:=.type "list",data:=.seq au.toArray n}:=by
 obtain⟨z,au,n,r,e⟩:=I.bG l _ hH;exact⟨z,au,n,r,r.length,e⟩
def jR {n:Nat} (h:n<=sizeLine):Builtin.List.listTooLong n=false:=by
 unfold Builtin.List.listTooLong;exact decide_eq_false (by omega)
end
section
variable {X:Cx}
def UQ:V->List V->Hp->VK->Prop:=fun x vs H Q=>∃l xs y,x=.ref l/\vs=[y]/\H l=some (.lst xs)/\xs.length < sizeLine/\Q .aQ (upd H l (.lst (xs++[y])))
def OD:Qi X "list.append" UQ:=by
 intro pins s σ H x vs v us Q I rx rv h;obtain⟨l,xs,y,rfl,rfl,hH,hz,q⟩:=h;cases rx;obtain⟨u,rfl,ru⟩:=rv.one;obtain⟨z,au,n,r,hl,e⟩:=I.rK hH;refine call_meets F.slot_list_append ⟨_,e,rfl⟩ F.entry_list_append (F.args_list_append_2 _ _) (PySem.list_append l au.toArray n u (by rw [Ah];omega)) ⟨e,?_⟩;refine⟨.aQ,_,I.K3 (its':=au++[u]) hH e (by simp) (r.append (.cons ru .nil)) ?_,rfl,q⟩;rw [Ae,ET];omega
def UO:V->List V->Hp->VK->Prop:=fun x vs H Q=>∃l b xs zs,x=.ref l/\vs=[.ref b]/\H l=some (.lst xs)/\H b=some (.lst zs)/\xs.length+zs.length<=sizeLine/\Q .aQ (upd H l (.lst (xs++zs)))
def aaJ:Qi X "list.extend" UO:=by
 intro pins s σ H x vs v us Q I rx rv h;obtain⟨l,b,xs,zs,rfl,rfl,hH,hB,hz,q⟩:=h;cases rx;obtain⟨u,rfl,ru⟩:=rv.one;cases ru;obtain⟨z,au,n,r,hl,e⟩:=I.rK hH;obtain⟨z2,bL,n2,r2,Qe,e2⟩:=I.rK hB;have hsz:au.toArray.size+bL.toArray.size<=sizeLine:=by rw [Ah,Ah];omega
 have wI:¬(!au.toArray.isEmpty&&Builtin.List.listTooLong (au.toArray.size+bL.toArray.size))=true:=by
  rw [jR hsz,DY];exact AG
 refine call_meets DP ⟨_,e,rfl⟩ Dz (Df _ _)
  (AutoSeq1.list_extend_list_list_0 l au.toArray n b bL.toArray n2 wI (by rw [Ah];omega) (by omega)) ⟨e,e2,?_⟩
 refine⟨.aQ,_,I.K3 (its':=au++bL) hH e (by simp) (r.append r2) ?_,rfl,q⟩;rw [Ae];omega
def afR:V->List V->Hp->VK->Prop:=fun x vs H Q=>∃l xs y,x=.ref l/\vs=[]/\H l=some (.lst xs)/\xs[xs.length-1]?=some y/\Q y (upd H l (.lst xs.dropLast))
def Zk:Qi X "list.pop" afR:=by
 intro pins s σ H x vs v us Q I rx rv h;obtain⟨l,xs,y,rfl,rfl,hH,hy,q⟩:=h;cases rx;have hus:=rv.zero;subst hus;obtain⟨z,au,n,r,hl,e⟩:=I.rK hH;obtain⟨u,hu,ru⟩:=r.get hy;have VU:au.toArray[au.toArray.size-1]?=some u:=by
  show au.toArray[au.length-1]?=some u;rw [<- EW,<- hl];exact hu
 refine call_meets F.slot_list_pop ⟨_,e,rfl⟩ F.entry_list_pop (F.args_list_pop_1 _) (MeetsSeq.list_pop_last l au.toArray n u VU (by rw [Ah];omega)) ⟨e,?_⟩;refine⟨y,_,I.K3 (its':=au.dropLast) hH e ?_ r.dropLast ?_,ru,q⟩
 ·show au.toArray.eraseIdxIfInBounds (au.toArray.size-1)=au.dropLast.toArray;rw [Ah,List.eraseIdxIfInBounds_toArray,LW]
 ·rw [List.length_dropLast];omega
def afS:R2:=fun x y H Q=>∃l b xs zs,x=.ref l/\y=.ref b/\H l=some (.lst xs)/\H b=some (.lst zs)/\xs.length+zs.length<=sizeLine/\∀p,H p=none->Q (.ref p) (upd H p (.lst (xs++zs)))
def Za:ir X (binaryOp .Add) afS:=by
 intro pins s σ H x y v u Q I rx ry h;obtain⟨l,b,xs,zs,rfl,rfl,hH,hB,hz,q⟩:=h;cases rx;cases ry;obtain⟨z,au,n,r,hl,e⟩:=I.rK hH;obtain⟨z2,bL,n2,r2,Qe,e2⟩:=I.rK hB;refine PySem.P.add_list e e2 ?_ (by rw [Ah,Ah];omega);have ea:au.toArray++bL.toArray=(au++bL).toArray:=by simp
 rw [ea];exact⟨.ref _,_,I.Zp (t':=s.toks) (r.append r2) (by rw [Ae];omega),rfl,q _ I.fresh⟩
def afQ:R2:=fun x y H Q=>∃l k xs,x=.ref l/\y=.int k/\H l=some (.lst xs)/\-(2 ^ 63)<=k/\k < 2 ^ 63/\xs.length*k.toNat<=sizeLine/\
 ∀p,H p=none->Q (.ref p) (upd H p (.lst (Al k.toNat xs).flatten))
def len_rep {α:Type} (xs:List α) (k:Nat):(Al k xs).flatten.length=k*xs.length:=by
 induction k with
 | zero=>simp
 | succ k ih=>rw [Br,BX,Ae,ih,Fw,Nat.add_comm]
def Y4:ir X (binaryOp .Mult) afQ:=by
 intro pins s σ H x y v u Q I rx ry h;obtain⟨l,k,xs,rfl,rfl,hH,h1,h2,hz,q⟩:=h;cases rx;obtain⟨t,rfl⟩:=ry;obtain⟨z,au,n,r,hl,e⟩:=I.rK hH;have hlen:au.toArray.size*k.toNat<=sizeLine:=by rw [Ah,<- hl];exact hz
 have agN:¬au.toArray.size*k.toNat > (2 ^ 63-1) / 8:=by
  have:(sizeLine:Nat)<=(2 ^ 63-1) / 8:=by decide
  omega
 have agI:¬(!Builtin.List.listFitsIndex k)=true:=by
  rw [fitsIndex_both h1 h2];exact AG
 have wI:¬Builtin.List.listTooLong (au.toArray.size*k.toNat)=true:=by
  rw [jR hlen];exact AG
 have V0:List.foldl (fun x1 x2=>x1++x2) #[] (Al (if au.toArray.isEmpty=true then 0 else k.toNat) au.toArray)=(Al k.toNat au).flatten.toArray:=by
  have f0:∀m:Nat,List.foldl (fun x1 x2=>x1++x2) #[] (Al m au.toArray)=(Al m au).flatten.toArray:=fun m=>by
   have:=foldl_rep au m [];rw [Dx] at this;exact this
  rw [f0];cases au with
  | nil=>simp
  | cons a r'=>rw [if_neg (by simp)]
 refine wpAny_binaryOp_repeat_ref (T:="list") (U:="int") (by decide) ⟨_,e,rfl⟩ (fun s'=>typeIs_int s' k t) noFill_list_mul F.fills_int_mul F.slot_int_rmul repeat_list F.slot_int_index.lookup
  (call_meets F.slot_int_rmul (typeIs_int s k t) F.entry_int_rmul (F.args_int_rmul_2 _ _) (int___rmul___int_list k t l au.toArray n)
   ⟨e,rfl,⟨_,e,rfl⟩,call_meets F.slot_list_mul ⟨_,e,rfl⟩ F.entry_list_mul (F.args_list_mul_2 _ _) (AutoListH.list___mul___list_int_3 l au.toArray n k t agI agN wI) ⟨e,?_⟩⟩)
 rw [V0];exact⟨.ref _,_,I.Zp (t':=s.toks) (r.rep k.toNat) (by rw [len_rep,Nat.mul_comm];exact hz),rfl,q _ I.fresh⟩
end
section
variable {prog:Program}{w:World}{A:Around}{E:Value->Shared->Prop}{s:Shared}
def Od (au bL:List Value) (a c:Nat):au.toArray.extract 0 a++bL.toArray++au.toArray.extract c au.toArray.size=(au.take a++bL++au.drop c).toArray:=by
 apply Es.mp
 first
  | (
    simp;exact Co (by simp))
  | simp [Co]
  | simp
def Mb {a c n:Nat} (hac:a<=c) (hc:c<=n):sliceBounds (some (a:Int)) (some (c:Int)) none n=((a:Int),(c:Int),1):=by
 simp only [sliceBounds,Ei];have h1:¬((a:Int) < 0):=by omega
 have h2:¬((c:Int) < 0):=by omega
 simp only [h1,h2,if_false,show (1:Int) > 0 by decide,if_true];congr 1
 ·omega
 ·congr 1;omega
set_option maxRecDepth 100000 in
def yi {l b sl:Addr}{items new:Array Value}{n n2:Nat}{vl vu:Value}{a c:Nat}{Q:Unit->Shared->Prop}
  (e:s.heap.get? l=some {cls:=.type "list",data:=.seq items n}) (e2:s.heap.get? b=some {cls:=.type "list",data:=.seq new n2}) (Sf:l≠b)
  (hs:s.heap.IsSliceOf sl vl vu .none) (pl:IsPart vl (some (a:Int))) (pu:IsPart vu (some (c:Int))) (hac:a<=c) (hc:c<=items.size)
  (hsz:items.size+new.size<=sizeLine) (h:Q () {s with heap:=s.heap.update l (Be fun xs=>xs.extract 0 a++new++xs.extract c xs.size)}) :
  wpAny (model prog w) A (setItem (.ref l) (.ref sl) (.ref b)) Q E s:=by
 have hl:s.heap.IsList l items:=FD e;have hb:s.heap.IsList b new:=FD e2;obtain⟨os,Qd,hcs,V3⟩:=id hs;have hTs:s.TypeIs (.ref sl) "slice":=⟨os,Qd,hcs⟩;have acZ:¬((rawPart none==rawInt 0)=true):=AG;have Sd:Builtin.List.listSameRef (.ref l) (.ref b)=false:=by
  unfold Builtin.List.listSameRef;exact beq_eq_false_iff_ne.mpr Sf
 have agy:(max (a:Int) (c:Int)).toNat=c:=by omega
 have LB:((fun xs:Array Value=>xs.extract 0 a++new++xs.extract c xs.size) items).size<=sizeLine+1:=by
  simp only [D8,Array.size_extract];omega
 unfold setItem
 try with_reducible refine A9 ?_
 first | refine Aa (Ag ?_) | skip
 refine Aa (D5 hl.typeIs (by decide) ?_);refine Aa (AW (name:=Ce "__setitem__") hl.typeIs slot_list_setitem
  (Bb slot_list_setitem hl.typeIs entry_list_setitem ?_ (args_list_setitem _ _ _)))
 show wpAny _ _ (Builtin.List.listSubscript? (.ref sl) >>= _) _ _ s;refine Aa ?_;unfold Builtin.List.listSubscript?;refine Aa (Du hTs slice_no_index ?_);simp only [Option.isNone_none,if_true];refine Ag ?_;show wpAny _ _ (typeOf (.ref sl) >>= _) _ _ s;refine Aa (Cf hTs ?_)
 first
  | rw [if_neg (by decide)]
  | refine PySem.W.KFB.if_not (by decide) ?_
 rw [listSliceParts_eq];refine Aa (Aa (AY Qd V3 (x:=.none) rfl (Aa (E2 .none ?_))));rw [if_neg acZ];refine Aa (AY Qd V3 (x:=vl) rfl (Aa (E2 pl ?_)));refine Aa (AY Qd V3 (x:=vu) rfl (Aa (E2 pu (Ag ?_))))
 first
  | simp only [Sd,Am,if_false]
  | refine PySem.W.KFB.if_not Sd ?_
  | (
    dsimp only;rw [if_neg (by rw [Sd];exact AG)])
 refine Aa (m:=Builtin.List.listAllItems (.ref b) "must assign iterable to extended slice") ?_;unfold Builtin.List.listAllItems;refine Aa (Cf hb.typeIs ?_)
 first
  | refine PySem.W.KFB.if_so (by decide) ?_
  | rw [if_pos (by decide)]
  | simp only [beq_self_eq_true,Bool.true_or,if_true]
 unfold Builtin.List.listItems;refine Aa (BC e2 rfl (Ag ?_));refine Aa (Aa (BC e rfl (Ag ?_)));refine Aa (Cn ((sliceIndices_raw (some (a:Int)) (some (c:Int)) none items.size (by simp)).trans (congrArg (pure:Int×Int×Int->Sem (Int×Int×Int)) (Mb hac hc))) ?_);show wpAny _ _ (if ((1:Int)==1)=true then _ else _) _ _ s;rw [if_pos (by decide)];refine Aa (CO ?_)
 first
  | simp only [jR hsz,Am,if_false]
  | refine PySem.W.KFB.if_not (jR hsz) ?_
 first | refine Aa (Ag ?_) | skip
 show wpAny _ _ (updateSeq l (fun xs=>xs.extract 0 ((a:Int)).toNat++new++xs.extract (max (a:Int) (c:Int)).toNat xs.size) >>= _) _ _ s;rw [agy,AU];refine Aa (Ds (hz:=Bq (Bz _ _) hsz) (_hz':=LB) e rfl ?_);refine Aa (Dj ?_)
 first
  | exact Aa (Ag (Ag ⟨.none,rfl,Ag h⟩))
  | exact Ag ⟨.none,rfl,Ag h⟩
end
section
variable {X:Cx}
def Oh {pins:List (Addr×Obj)}{s:Shared}{σ:St}{H:Hp}{l b sl:Addr}{xs ys:List V}{a c:Int}{vl vu:Value}{Q:Unit->Shared->Prop} (I:Inv X pins σ H s)
  (hH:H l=some (.lst xs)) (hB:H b=some (.lst ys)) (Sf:l≠b) (hs:s.heap.IsSliceOf sl vl vu .none) (ra:RelV (.int a) vl) (rc:RelV (.int c) vu) (h0:0<=a) (hac:a<=c) (hc:c<=xs.length)
  (hz:xs.length+ys.length<=sizeLine) (h:∀s',Inv X pins σ (upd H l (.lst (xs.take a.toNat++ys++xs.drop c.toNat))) s'->Q () s') :
  wpAny (model X.prog X.w) X.A (setItem (.ref l) (.ref sl) (.ref b)) Q X.xe s:=by
 obtain⟨ta,rfl⟩:=ra;obtain⟨tc,rfl⟩:=rc;obtain⟨z,au,n,r,hl,e⟩:=I.rK hH;obtain⟨z2,bL,n2,r2,Qe,e2⟩:=I.rK hB;obtain⟨a',rfl⟩:=Er h0;obtain⟨c',rfl⟩:=Er (Int.le_trans h0 hac);simp only [AU] at h;refine yi (a:=a') (c:=c') e e2 Sf hs (.int _ _) (.int _ _) (by omega) (by rw [Ah];omega) (by rw [Ah,Ah];omega) (h _ ?_);refine I.K3 (its':=au.take a'++bL++au.drop c') (t':=s.toks) hH e ?_ (Vals.append (Vals.append (r.take _) r2) (r.drop _)) ?_
 ·exact Od au bL a' c'
 ·rw [Ae,Ae,B6,CB];omega
end
section
variable {κ:Type} [DecidableEq κ]
def jn (kvs:List (κ×V)) (k:κ):Option V:=(kvs.find? fun kv=>decide (kv.1=k)).map (·.2)
def putK (kvs:List (κ×V)) (k:κ) (v:V):List (κ×V):=
 if (kvs.any fun kv=>decide (kv.1=k))=true then kvs.map (fun kv=>if kv.1=k then (kv.1,v) else kv) else kvs++[(k,v)]
def lV {p:κ×V}{r:List (κ×V)}{k:κ} (e:p.1=k):jn (p::r) k=some p.2:=by simp [jn,BG,e]
def lW {p:κ×V}{r:List (κ×V)}{k:κ} (e:¬p.1=k):jn (p::r) k=jn r k:=by simp [jn,BG,e]
theorem pM (k:κ):∀kvs:List (κ×V),(kvs.any fun kv=>decide (kv.1=k))=(jn kvs k).isSome
 | []=>rfl
 | p::r=>by
  rw [B5];by_cases e:p.1=k
  ·simp only [lV e,decide_eq_true e,Bool.true_or,Option.isSome_some]
  ·rw [lW e,decide_eq_false e,Bool.false_or];exact pM k r
def tE (kvs:List (κ×V)) (k:κ) (v:V):(putK kvs k v).length<=kvs.length+1:=by
 unfold putK
 split
 ·rw [Af];omega
 ·rw [Ae,Ao,A2];omega
def xC.rY {o:Option V}{u:Option Value} (r:xC o u):o.isSome=u.isSome:=by
 cases o with
 | none=>cases u with
  | none=>rfl
  | some _=>exact (show False from r).elim
 | some _=>cases u with
  | none=>exact (show False from r).elim
  | some _=>rfl
def KV.val {kvs:List (κ×V)}{vs:List (κ×Value)} (r:KV kvs vs) (k:κ):xC (jn kvs k) (valueAt vs k):=by
 unfold KV at r
 induction r with
 | nil=>exact B7
 | @cons p q ps qs h t ih=>
  obtain⟨h1,h2⟩:=h;by_cases e:p.1=k
  ·have e':q.1=k:=h1.symm.trans e;have b:valueAt (q::qs) k=some q.2:=by simp [valueAt,BG,e']
   rw [lV e,b];exact h2
  ·have e':¬q.1=k:=fun z=>e (h1.trans z);have b:valueAt (q::qs) k=valueAt qs k:=by simp [valueAt,BG,e']
   rw [lW e,b];exact ih
def KV.any {kvs:List (κ×V)}{vs:List (κ×Value)} (r:KV kvs vs) (k:κ):(kvs.any fun kv=>decide (kv.1=k))=vs.any fun kv=>decide (kv.1=k):=by
 unfold KV at r
 induction r with
 | nil=>rfl
 | cons h t ih=>rw [B5,B5,ih,h.1]
def KV.YB {kvs:List (κ×V)}{vs:List (κ×Value)} (r:KV kvs vs) (k:κ) {y:V}{u:Value} (ry:RelV y u) :
  KV (kvs.map fun kv=>if kv.1=k then (kv.1,y) else kv) (vs.map fun kv=>if kv.1=k then (kv.1,u) else kv):=by
 unfold KV at r ⊢
 induction r with
 | nil=>exact .nil
 | @cons p q ps qs h t ih=>
  rw [Au,Au];refine .cons ?_ ih;obtain⟨h1,h2⟩:=h;by_cases e:p.1=k
  ·rw [if_pos e,if_pos (h1.symm.trans e)];exact⟨h1,ry⟩
  ·rw [if_neg e,if_neg (fun z=>e (h1.trans z))];exact⟨h1,h2⟩
def KV.put {kvs:List (κ×V)}{vs:List (κ×Value)} (r:KV kvs vs) (k:κ) {y:V}{u:Value} (ry:RelV y u):KV (putK kvs k y) (stored vs k u):=by
 unfold putK stored;rw [r.any k];by_cases e:(vs.any fun kv=>decide (kv.1=k))=true
 ·rw [if_pos e,if_pos e];exact r.YB k ry
 ·rw [if_neg e,if_neg e];exact Paired.snoc r ⟨rfl,ry⟩
def KV.length {kvs:List (κ×V)}{vs:List (κ×Value)} (r:KV kvs vs):kvs.length=vs.length:=Paired.length r
end
def Nm {P:Program}{w:World}{k:Key}{u:Value} (r:RelV (kV k) u):(bV P w).is k u=true:=by
 cases k with
 | inl i=>obtain⟨t,e⟩:=(show ∃t,u=DK i t from r);subst e;exact IH P w i t
 | inr x=>obtain⟨t,e⟩:=(show ∃t,u=DJ x t from r);subst e;exact IG P w x t
theorem y9 {P:Program}{w:World}:∀{ks:List Key}{us:List Value},Vals (ks.map kV) us->ItemsAre (bV P w) ks us
 | [],_,r=>by rw [EA] at r;cases r;exact .nil
 | k::ks,_,r=>by
  rw [Au] at r;cases r with
  | cons h t=>exact .cons (Nm h) (y9 t)
abbrev KT (H:Hp):List (List Key×V)->List (List Key×Addr×Value)->Prop:=Paired fun p q=>p.1=q.1/\H q.2.1=some (.tup (p.1.map kV))/\RelV p.2 q.2.2
def KT.val {H:Hp}{kvs:List (List Key×V)}{xs:List (List Key×Addr×Value)} (r:KT H kvs xs) (k:List Key):xC (jn kvs k) ((atKey xs k).map (·.2)):=by
 induction r with
 | nil=>exact B7
 | @cons p q ps qs h t ih=>
  obtain⟨h1,_,h2⟩:=h;by_cases e:p.1=k
  ·have e':q.1=k:=h1.symm.trans e;have b:atKey (q::qs) k=some q.2:=by simp [atKey,BG,e']
   rw [lV e,b];exact h2
  ·have e':¬q.1=k:=fun z=>e (h1.trans z);have b:atKey (q::qs) k=atKey qs k:=by simp [atKey,BG,e']
   rw [lW e,b];exact ih
def KT.YB {H:Hp}{kvs:List (List Key×V)}{xs:List (List Key×Addr×Value)} (r:KT H kvs xs) (k:List Key) {y:V}{u:Value} (ry:RelV y u) :
  KT H (kvs.map fun kv=>if kv.1=k then (kv.1,y) else kv) (xs.map (putAt k u)):=by
 induction r with
 | nil=>exact .nil
 | @cons p q ps qs h t ih=>
  rw [Au,Au];refine .cons ?_ ih;obtain⟨h1,h2,h3⟩:=h;unfold putAt;by_cases e:p.1=k
  ·rw [if_pos e,if_pos (h1.symm.trans e)];exact⟨h1,h2,ry⟩
  ·rw [if_neg e,if_neg (fun z=>e (h1.trans z))];exact⟨h1,h2,h3⟩
def KT.put {H:Hp}{kvs:List (List Key×V)}{xs:List (List Key×Addr×Value)} (r:KT H kvs xs) (k:List Key) {b:Addr}{y:V}{u:Value} (hb:H b=some (.tup (k.map kV))) (ry:RelV y u) :
  KT H (putK kvs k y) (storedH xs k b u):=by
 have e:(kvs.any fun kv=>decide (kv.1=k))=(atKey xs k).isSome:=by
  rw [pM,(r.val k).rY,Fv]
 unfold putK storedH;rw [e];by_cases q:(atKey xs k).isSome=true
 ·rw [if_pos q,if_pos q];exact r.YB k ry
 ·rw [if_neg q,if_neg q];exact Paired.snoc r ⟨rfl,hb,ry⟩
def KT.keeps {H H':Hp}{kvs:List (List Key×V)}{xs:List (List Key×Addr×Value)} (r:KT H kvs xs) (ht:∀b ys,H b=some (.tup ys)->H' b=some (.tup ys)):KT H' kvs xs:=
 Paired.Zm r fun _ _ z=>⟨z.1,ht _ _ z.2.1,z.2.2⟩
section
variable {P:Program}{w:World}{H:Hp}{h:Heap}{a:Addr}
def Xg {u:HO} (ok:nJ P w H h) (e:Rd H a u):bj P w H h a u:=e.ok ok
def xj {kvs:List (Key×V)} (ok:nJ P w H h) (e:Rd H a (.dK kvs)):kvs.length<=sizeLine/\(a==sysModules)=false/\∃vs,KV kvs vs/\h.DictOf (bV P w) a vs:=
 show bj P w H h a (.dK kvs) from Xg ok e
def adS {kvs:List (Key×V)} (ok:nJ P w H h) (e:H a=some (.dK kvs)):kvs.length<=sizeLine/\(a==sysModules)=false/\∃vs,KV kvs vs/\h.DictOf (bV P w) a vs:=xj ok (.inl e)
def wu {ks:List Key} (ok:nJ P w H h) (e:H a=some (.tup (ks.map kV))):(tupleKind (bV P w)).is h ks a:=by
 obtain⟨_,au,r,o,h1,h2,n,h3⟩:=(show bj P w H h a (.tup (ks.map kV)) from ok a _ e);exact⟨o,au.toArray,n,h1,h2,h3,by simpa using y9 r⟩
def xi {kvs:List (List Key×V)} (ok:nJ P w H h) (e:Rd H a (.dT kvs)):kvs.length<=sizeLine/\(a==sysModules)=false/\
  ∃xs,KT H kvs xs/\h.DictOfH (tupleKind (bV P w)) a xs:=by
 obtain⟨z,y,xs,r,o,es,ep,h1,h2,h3,h4,h5⟩:=(show bj P w H h a (.dT kvs) from Xg ok e);refine⟨z,y,xs,r,o,es,ep,h1,h2,h3,h4,fun x hx=>?_,h5⟩;have all:∀{l:List (List Key×V)}{m:List (List Key×Addr×Value)},KT H l m->∀x∈m,(tupleKind (bV P w)).is h x.1 x.2.1:=by
  intro l m q
  induction q with
  | nil=>intro x hx;exact nomatch hx
  | @cons p q ps qs hq t ih=>
   intro x hx;rcases Ay.mp hx with e | hx
   ·subst e;exact wu ok (by rw [<- hq.1];exact hq.2.1)
   ·exact ih x hx
 exact all r x hx
def adR {kvs:List (List Key×V)} (ok:nJ P w H h) (e:H a=some (.dT kvs)):kvs.length<=sizeLine/\(a==sysModules)=false/\
  ∃xs,KT H kvs xs/\h.DictOfH (tupleKind (bV P w)) a xs:=xi ok (.inl e)
end
def yO (H:Hp) (a:Addr) (y:V) (r:Option V):Prop:=
 (∃kvs k,Rd H a (.dK kvs)/\y=kV k/\r=jn kvs k)\/∃kvs k b,Rd H a (.dT kvs)/\y=.ref b/\H b=some (.tup (k.map kV))/\r=jn kvs k
def TN (H:Hp) (a:Addr) (y v:V) (H':Hp):Prop:=
 (∃kvs k,H a=some (.dK kvs)/\y=kV k/\kvs.length < sizeLine/\H'=upd H a (.dK (putK kvs k v)))\/
 ∃kvs k b,H a=some (.dT kvs)/\y=.ref b/\H b=some (.tup (k.map kV))/\kvs.length < sizeLine/\H'=upd H a (.dT (putK kvs k v))
theorem yO.k {H:Hp}{a:Addr}{kvs:List (Key×V)}{k:Key} (e:H a=some (.dK kvs)):yO H a (kV k) (jn kvs k):=.inl ⟨kvs,k,.inl e,rfl,rfl⟩
theorem TN.k {H:Hp}{a:Addr}{kvs:List (Key×V)}{k:Key}{v:V} (e:H a=some (.dK kvs)) (hl:kvs.length < sizeLine):TN H a (kV k) v (upd H a (.dK (putK kvs k v))):=.inl ⟨kvs,k,e,rfl,hl,rfl⟩
section
variable {X:Cx}{pins:List (Addr×Obj)}{σ:St}{H:Hp}{s:Shared}{a:Addr}{y v:V}{u r:Value}{o:Option V}{A:Around}{E:Value->Shared->Prop}
def Inv.big (I:Inv X pins σ H s):sysModules < s.heap.objs.size:=by
 have h:mainGlobals < s.heap.objs.size:=(I.mod.glob.keeps I.bk).lt;exact Nat.lt_trans (by decide) h
def Pq {Q:Value->Shared->Prop} (hu:A.units+1 < cLine) (I:Inv X pins σ H s) (g:yO H a y (some v)) (ry:RelV y u) (h:∀w' s',Inv X pins σ H s'->RelV v w'->Q w' s') :
  wpAny (model X.prog X.w) A (getItem (.ref a) u) Q E s:=by
 rcases g with⟨kvs,k,e,ey,l⟩ | ⟨kvs,k,b,e,ey,eb,l⟩
 ·subst ey;obtain⟨z,hd,vs,rel,dd⟩:=xj I.bG e;obtain⟨w',hw,ju⟩:=xC.some_of (v:=v) (o:=valueAt vs k) (by rw [l];exact rel.val k);exact wpAny_getItem_of (Nm ry) dd.mapOf hw (h w' _ (I.tok _) ju)
 ·subst ey;cases (show u=Ax b from ry);obtain⟨z,hd,xs,rel,dd⟩:=xi I.bG e;obtain⟨w',hw,ju⟩:=xC.some_of (v:=v) (o:=(atKey xs k).map (·.2)) (by rw [l];exact rel.val k);obtain⟨p,hp,GK⟩:=Option.map_eq_some_iff.mp hw;refine wpAny_getItem_heap (tupleKind_room_in1 hu) (wu I.bG eb) dd hp ?_;rw [GK];exact h w' _ (I.tok _) ju
def ahh {Q:Value->Shared->Prop} (hu:A.units+1 < cLine) (I:Inv X pins σ H s) (g:yO H a y o) (ry:RelV y u) (h:∀s',Inv X pins σ H s'->Q (.bool o.isSome) s') :
  wpAny (model X.prog X.w) A (compareOp .In u (.ref a)) Q E s:=by
 rcases g with⟨kvs,k,e,ey,l⟩ | ⟨kvs,k,b,e,ey,eb,l⟩
 ·subst ey;obtain⟨z,hd,vs,rel,dd⟩:=xj I.bG e;refine wpAny_in_of (Nm ry) hd dd.mapOf ?_;rw [<- (rel.val k).rY,<- l];exact h _ (I.tok _)
 ·subst ey;cases (show u=Ax b from ry);obtain⟨z,hd,xs,rel,dd⟩:=xi I.bG e;refine wpAny_in_heap (tupleKind_room_in1 hu) (wu I.bG eb) hd dd ?_;have q:=(rel.val k).rY;rw [Fv] at q;rw [<- q,<- l];exact h _ (I.tok _)
def NT {h':Heap}{t':Nat}{ob:HO} (I:Inv X pins σ H s) (mu:Mut (H a)) (hs:B3 a s.heap h') (he:∃q,h'.get? a=some q) (new:bj X.prog X.w (upd H a ob) h' a ob) :
  Inv X pins σ (upd H a ob) {s with heap:=h',toks:=t'}:=
 I.write (x:=a) (e:=a) mu (.inl rfl) (fun b q hb z=>(hs.2 b hb).trans z) he new
def aaf {P:Program}{w:World}{H':Hp}{h':Heap}{kvs:List (Key×V)}{vs:List (Key×Value)} (z:kvs.length<=sizeLine) (hd:(a==sysModules)=false) (rel:KV kvs vs) (dd:h'.DictOf (bV P w) a vs) :
  bj P w H' h' a (.dK kvs):=⟨z,hd,vs,rel,dd⟩
def Pp {H':Hp}{Q:Unit->Shared->Prop} (hu:A.units+1 < cLine) (I:Inv X pins σ H s) (g:TN H a y v H') (ry:RelV y u) (rv:RelV v r) (h:∀s',Inv X pins σ H' s'->Q () s') :
  wpAny (model X.prog X.w) A (setItem (.ref a) u r) Q E s:=by
 rcases g with⟨kvs,k,e,ey,l,eH⟩ | ⟨kvs,k,b,e,ey,eb,l,eH⟩
 ·subst ey eH;obtain⟨z,hd,vs,rel,dd⟩:=adS I.bG e;have hz:vs.length<=sizeLine:=by rw [<- rel.length];exact z
  have hl:(putK kvs k v).length<=sizeLine:=by have:=tE kvs k v;omega
  refine wpAny_setItem_pairs (hsz:=hz) (Nm ry) dd fun h' dd' hs=>h _ ?_;have he:∃q,h'.get? a=some q:=let ⟨q,_,_,hq,_⟩:=dd';⟨q,hq⟩;exact NT I (by rw [e];exact B7) hs he (aaf hl hd (rel.put k rv) dd')
 ·subst ey eH;cases (show u=Ax b from ry);obtain⟨z,hd,xs,rel,dd⟩:=adR I.bG e;have hz:xs.length<=sizeLine:=by rw [<- Paired.length rel];exact z
  have hl:(putK kvs k v).length<=sizeLine:=by have:=tE kvs k v;omega
  refine wpAny_setItem_heap (hsz:=hz) (tupleKind_room_in1 hu) (wu I.bG eb) dd fun h' dd' hs=>h _ ?_;obtain⟨q,es,ep,hq,h2,h3,h4,_,h5⟩:=dd';refine NT I (by rw [e];exact B7) hs ⟨q,hq⟩ ⟨hl,hd,_,(rel.put k eb rv).keeps fun c ys ec=>?_,q,es,ep,hq,h2,h3,h4,h5⟩;rw [ay (Nf ec e (fun z=>nomatch z))];exact ec
end
def aay (i:Expr):Prop:=∀ov iv,subscripted i false ov iv=operate [ov,iv] (getItem ov iv)
def Ut {prog:Program}{w:World}{A:Around}{E:Value->Shared->Prop}{s:Shared}{env:Env}{value slice:Expr}{pos:Pos}{T id:String}{Q:Value->Shared->Prop}
  (hl:typeLookup (.type T) "__getitem__"=pure (some (.builtin id))) (hs:aay slice)
  (h:wpAny (model prog w) A (eval value env) (fun o s₁=>wpAny (model prog w) A (eval slice env) (fun i s₂=>s₂.TypeIs o T/\wpAny (model prog w) A (getItem o i) Q E s₂) E s₁) E s) :
  wpAny (model prog w) A (eval (.Subscript value slice pos) env) Q E s:=by
 refine Subscript_ (BK h (fun o s₁ h₁=>BK h₁ (fun i s₂ h₂=>?_) fun _ _ x=>x) fun _ _ x=>x);obtain⟨hT,h₂⟩:=h₂;unfold subscriptTail;refine Aa ?_;rw [getitemInPython_of_ne hT.not_modules];refine Aa (Du hT hl ?_);have fin:wpAny (model prog w) A (subscripted slice false o i) (fun r s₃=>wpAny (model prog w) A (letTemporaryGo value o r >>= fun _=>pure r) Q E s₃) E s₂:=by
  rw [hs o i];exact wpAny_operating (BK h₂ (fun r s₃ h₃=>Aa (wpAny_letTemporaryGo (Ag h₃))) fun _ _ x=>x)
 first
  | exact Ag (Aa fin)
  | exact Aa (Ag (Aa fin))
  | exact Aa fin
def Jw {X:Cx}{pins:List (Addr×Obj)}{σ:St}{H:Hp}{s:Shared}{a:Addr}{y:V}{o:Option V} (I:Inv X pins σ H s) (g:yO H a y o):s.TypeIs (.ref a) "dict":=by
 rcases g with⟨kvs,k,e,_,_⟩ | ⟨kvs,k,b,e,_,_,_⟩
 ·obtain⟨_,_,vs,_,dd⟩:=xj I.bG e;exact dd.typeIs
 ·obtain⟨_,_,xs,_,dd⟩:=xi I.bG e;exact dd.typeIs
def abz (td ty:TE):TE:=fun σ H Q=>td σ H fun x H1=>ty σ H1 fun y H2=>∃a v,x=.ref a/\yO H2 a y (some v)/\Q v H2
def afC (ty td:TE):TE:=fun σ H Q=>ty σ H fun y H1=>td σ H1 fun x H2=>∃a o,x=.ref a/\yO H2 a y o/\Q (.bl o.isSome) H2
def abP (td ty tv:TE):TS:=fun D σ H=>tv σ H fun v H1=>td σ H1 fun x H2=>ty σ H2 fun y H3=>∃a H4,x=.ref a/\TN H3 a y v H4/\D.nx σ H4
section
variable {X:Cx}{o i value:Expr}{pos pos':Pos}{td ty tv:TE}
def U4 (hu:X.A.units+1 < cLine) (ho:PE X o td) (hi:PE X i ty) (hs:aay i):PE X (.Subscript o i pos) (abz td ty):=by
 intro pins s σ H Q I h;refine Ut PySem.F.slot_dict_getitem.lookup hs (bD (ho pins s σ H _ I h) fun u s1 ⟨x,H1,I1,rx,q1⟩=>bD (hi pins s1 σ H1 _ I1 q1) fun iv s2 ⟨y,H2,I2,ry,a,v,ex,g,q2⟩=>?_);subst ex;obtain rfl:u=Ax a:=rx;exact⟨Jw I2 g,Pq hu I2 g ry fun w' s3 I3 ju=>⟨v,H2,I3,ju,q2⟩⟩
def Y2 (hu:X.A.units+1 < cLine) (hi:PE X i ty) (ho:PE X o td):PC X .In i o (afC ty td):=by
 intro pins s σ H Q I h;refine bD (hi pins s σ H _ I h) fun iv s1 ⟨y,H1,I1,ry,q1⟩=>bD (ho pins s1 σ H1 _ I1 q1) fun u s2 ⟨x,H2,I2,rx,a,ov,ex,g,q2⟩=>?_;subst ex;obtain rfl:u=Ax a:=rx;exact ahh hu I2 g ry fun s3 I3=>⟨.bl ov.isSome,H2,I3,rfl,q2⟩
def UT (hu:X.A.units+1 < cLine) (ho:PE X o td) (hi:PE X i ty) (hv:PE X value tv) (hs:swapsWith value (some (.Subscript o i pos')) pos.line X.env=pure false) :
  PS X (.Assign [.Subscript o i pos'] value pos) (abP td ty tv):=by
 intro pins s σ H D I h;refine wpAny_Assign_Subscript (bD (hv pins s σ H _ I h) fun r s1 ⟨v,H1,I1,rv,q1⟩=>bD (ho pins s1 σ H1 _ I1 q1) fun u s2 ⟨x,H2,I2,rx,q2⟩=>bD (hi pins s2 σ H2 _ I2 q2) fun iv s3 ⟨y,H3,I3,ry,a,H4,ex,g,q3⟩=>?_) hs;subst ex;obtain rfl:u=Ax a:=rx;exact Pp hu I3 g ry rv fun s4 I4=>⟨σ,H4,I4,q3⟩
end
def S4 {P:Program}{w:World}{H:Hp} (h:Heap) (hb:sysModules < h.objs.size):bj P w H (h.push {cls:=.type "dict",data:=.dict #[]}) h.objs.size (.dK []):=
 ⟨A3 _,beq_eq_false_iff_ne.mpr (BF (AI hb)),[],.nil,Heap.DictOf.new h⟩
def Yn:TE:=fun _ H Q=>∀p,H p=none->Q (.ref p) (upd H p (.dK []))
section
variable {X:Cx}{pos:Pos}
def Rf:PE X (.Dict [] [] pos) Yn:=fun pins s σ H Q I h=>
 wpAny_Dict_empty ⟨.ref s.heap.objs.size,_,I.laid (a:=s.heap.objs.size) (o:=.dK []) (t':=s.toks) (fun _ _ q=>Aj _ q) (An _) (S4 s.heap I.big),rfl,h _ (I.bG.fresh (An _))⟩
end
structure M2 (X:Cx) (o:Expr) (m:Str) (apos:Pos) (e f:Expr) (bI:Pos):Prop where
 base:attributeBase o m X.env (eval o X.env)=eval o X.env
 few:((backTo bI (starEach [e,f] X.env)).all (fun x=>!x.1)&&(backToKw bI (keywordEach [] X.env)).all (fun x=>x.1.isSome)
  && decide (([e,f]:List Expr).length+([]:List Keyword).length+(if ([]:List Keyword).isEmpty then 0 else 1) < 30))=true
 line:(apos.endLine==bI.line)=true
 trees:backTo bI (starEach [e,f] X.env)=[(false,eval e X.env),(false,eval f X.env)]
def IsD (H:Hp) (a:Addr):Prop:=(∃kvs,Rd H a (.dK kvs))\/∃kvs,Rd H a (.dT kvs)
end L2
namespace Att
open PySem PySem.W PySem.Calls PyProof.Rows
def uq {P:Params}{h:Heap}:∀(ns:List Int) (vs:List Value),WellAll P h vs (ns.map WData.int)->IntsAre vs ns:=by
 intro ns
 induction ns with
 | nil=>
  intro vs w;rw [EA] at w;cases w;exact .nil
 | cons n ns ih=>
  intro vs w;rw [Au] at w;cases w with
  | cons a b=>
   cases a;exact .cons _ _ (ih _ b)
def Oi {l:OpenLaw}{n:Nat} (hn:l.most=some n) {P:Params}{h:Heap}{args:List WData}{vals:List Value}
  (VX:l.row.toRowW.claim.pre args=true) (hwl:WellAll P h vals args) :
  ∃a vs ns,vals=[Ax a]/\args=[WData.list (ns.map WData.int)]/\h.get? a=some {cls:=.type "list",data:=.seq vs.toArray}/\IntsAre vs ns/\ns.length<=n:=by
 have hsh:WShape.hasAll [] args [.list .int]=true:=(pre_splitW VX).1;have hc:l.pre.holds [] {args:=args}=true:=(pre_splitW VX).2;obtain⟨d,r,rfl,h1,h2⟩:=hasAllW_cons hsh;obtain rfl:=hasAllW_nil h2;obtain⟨xs,rfl,h3⟩:=hasW_list h1;obtain⟨ns,rfl⟩:=items_int h3;have hlen:ns.length<=n:=by
  unfold OpenLaw.pre at hc;have h4:(WTm.not (.lt (.lit (.int (n:Int))) (.len (.arg 0)))).holds [] {args:=[.list (ns.map .int)]}=true:=by
   have h4:=(holds_andW hc).1;rw [hn] at h4;exact h4
  have h5:=condW_of h4 (w_not (w_lt w_lit (w_len_list (w_arg rfl))));rw [Af] at h5;refine Nat.le_of_not_lt fun q=>?_;have q':(n:Int) < ((ns.length:Nat):Int):=by omega
  first
   | (rw [decide_eq_true q'] at h5;exact absurd h5 (by decide))
   | (simp at h5;omega)
 cases hwl with
 | cons w1 w2=>
  cases w2;cases w1 with
  | list ho agQ=>exact⟨_,_,ns,rfl,rfl,ho,uq ns _ agQ,hlen⟩
def Ow (l:OpenLaw) (args:List WData):l.row.toRowW.claim.post args (.bool true) args=true:=
 postW_of (r:=l.row.toRowW) (X:=(true==true))
  (show WShape.has [] (.bool true) .bool=true by first | rfl | decide | simp [WShape.has,WShape.arms,WShape.armsAll])
  (show (WTm.eq .res (.lit (.bool true))).value [] {args:=args,res:=some (.bool true),after:=args}=some (.bool (true==true)) from w_eq_bool (w_res rfl) w_lit) rfl
def JD {l:OpenLaw}{n:Nat}{q:Program}{loose:List Str}{XP:(Str->Option Value)->Heap->Prop}{YP:World->Heap->Prop}{d:DefRec}
  (hn:l.most=some n) (hdf:d.params.defaults=[])
  (call:∀(w:World) (s₀ s₁:Shared) (mg mb:Str->Option Value) (fa:Addr) (o:Obj) (pm cd doc:Value) (a:Addr) (vs:List Value) (ns:List Int),
   Ground q loose [] XP w s₀ mg mb s₁.heap->YP w s₁.heap->
   s₁.heap.get? fa=some o->o.data=.func (docDef d.name d.params d.body d.scope pm cd doc)->s₁.heap.CodeRec cd d.name->mg d.name=some (.ref fa)->
   s₁.heap.get? a=some {cls:=.type "list",data:=.seq vs.toArray}->IntsAre vs ns->ns.length<=n->s₁.gens=#[]->
   codeAny (model l.prog w) callerA (.call (.ref fa) ⟨[.ref a],[]⟩) (fun r s'=>r=.ok (.ret (.bool true))/\OldK s₁.heap s'.heap/\s'.os=s₁.os/\AllBare s'.gens) s₁) :
  WalkO q loose XP YP l.row.toRowW d [] (fun f vs=>FI f vs):=by
 intro w s₀ s₁ mg mb G Y fa o pm cd doc dV kV ho hd jw hD hmg hg args vals as VX aj9 hrd hwl hlo;obtain rfl:dV=.none:=Dflts.none hD hdf;obtain rfl:kV=.none:=Dflts.noKw hD;obtain⟨a,vs,ns,rfl,rfl,ZR,hints,hlen⟩:=Oi hn VX hwl;refine enter_call (codeAny_mono (call w s₀ s₁ mg mb fa o pm cd doc a vs ns G Y ho (fd_plain hd) jw hmg ZR hints hlen hg) fun r s' hq=>?_);obtain⟨rfl,h2,h3,h4⟩:=hq;exact⟨.inl ⟨.bool true,.bool true,[],rfl,fun _=>rfl,.bool true,Ow l _,fun _=>⟨List.Pairwise.nil,fun _ hm=>(nomatch hm)⟩⟩,h2,h3,h4⟩
end Att
namespace L2
open PySem PySem.Spec PyProof.Rows
theorem rh:∀{vs:List Value}{ns:List Int},IntsAre vs ns->Vals (ns.map V.int) vs
 | _,_,.nil=>.nil
 | _,_,.cons n t h=>.cons ⟨t,rfl⟩ (rh h)
def WU (H:Hp):Prop:=∀b,H b=none\/∃o xs,H b=some (.cV o (.lst xs))
def RJ {P:Program}{w:World}{K:Ab}{mg mb:Str->Option Value}{CX:Qj}{k:Nat}{fa a:Addr}{fd:FuncData}{x:Str}{sp:Sp}{s₁:Shared}{vs:List Value}{ns:List Int}
  (KX:K.In s₁.heap) (hns:s₁.heap.Ns mainGlobals mg) (hb:s₁.heap.Ns builtinsNs mb) (hbb:∀x:Str,x≠"__name__"->mb x=bootBuiltins x) (agA:s₁.heap.NoLimit) (hg:s₁.gens=#[])
  (ha:s₁.heap.get? a=some {cls:=.type "list",data:=.seq vs.toArray}) (hi:IntsAre vs ns) (hl:ns.length<=sizeLine) (hr:fv k callerA)
  (F:∀base:Heap,K.In base->base.Ns mainGlobals mg->iQ P w K mg base CX k fa fd [x] sp) (adm:∀(s:Shared) (u:Value),BindsTo s fd ⟨[u],[]⟩ [(x,u)])
  (VW:∀H:Hp,WU H->df K H a (ns.map V.int)->sp [.ref a] H (fun v _=>v=.bl true) fun _ _ _=>False)
  (hCX:∀H e s',CX [] H s₁ (fun _ _ _=>False) e s'->False) :
  codeAny (model P w) callerA (.call (.ref fa) ⟨[.ref a],[]⟩) (fun r s'=>r=.ok (.ret (.bool true))/\OldK s₁.heap s'.heap/\s'.os=s₁.os/\AllBare s'.gens) s₁:=by
 have rv:=rh hi;have af1:=hi.length;have core:∀H:Hp,WU H->df K H a (ns.map V.int)->nJ P w H s₁.heap->(∀b,H b≠none->b=a)->(H a≠none->K.lookup a=none)->
   codeAny (model P w) callerA (.call (.ref fa) ⟨[.ref a],[]⟩) (fun r s'=>r=.ok (.ret (.bool true))/\OldK s₁.heap s'.heap/\s'.os=s₁.os/\AllBare s'.gens) s₁:=by
  intro H hO hS bG hA hK;have NV:∀{b:Addr}{o:Obj},s₁.heap.get? b=some o->H b=none->(GN s₁.heap H).get? b=some o:=fun e n=>Si e n;have noA:∀{b:Addr}{o:Obj}{es:Array DictEntry}{ep:Nat},s₁.heap.get? b=some o->o.data=.dict es ep->H b=none:=fun {b o es ep} e d=>by
   cases q:H b with
   | none=>rfl
   | some u=>
    have e':b=a:=hA b (by rw [q];simp);subst e';rw [ha] at e;cases e;have d':EZ vs.toArray _=Data.dict es ep:=d;cases d'
  have nsK:∀{b:Addr}{m:Str->Option Value},s₁.heap.Ns b m->(GN s₁.heap H).Ns b m:=fun {b m} ⟨o,es,ep,e,d,r⟩=>⟨o,es,ep,NV e (noA e d),d,r⟩;have hKb:K.In (GN s₁.heap H):=fun b o e=>NV (KX b o e) (by
   cases q:H b with
   | none=>rfl
   | some u=>
    have e':b=a:=hA b (by rw [q];simp);subst e';rw [hK (by rw [q];simp)] at e;cases e)
  have hM:Mod K mg (GN s₁.heap H):=⟨hKb,nsK hns,⟨mb,nsK hb,hbb⟩,let ⟨mc,h1,h2⟩:=agA;⟨mc,nsK h1,h2⟩⟩;have e0:WX P w K mg (GN s₁.heap H) callerA [] s₁ H:=⟨rfl,hM,fun b o e=>Vi e,Nat.le_of_eq (O2 _ _),trivial,fun b hb=>absurd (show b∈([]:List Addr) from hb) (by simp),bG,.of_eq hg⟩;refine codeAny_mono ((F _ hKb (nsK hns)).run callerA [] s₁ H ⟨[.ref a],[]⟩ [.ref a] [.ref a] _ _ hr e0 (adm s₁ (.ref a)) (.cons rfl .nil) (VW H hO hS)) fun r s' h=>?_;cases r with
  | error e=>exact (hCX H e s' h).elim
  | ok fl=>
   cases fl with
   | next=>exact Bl h
   | brk=>exact Bl h
   | cont=>exact Bl h
   | ret u=>
    obtain⟨v,H',os,bare,un,agw,r',q⟩:=h;have q':v=.bl true:=q;subst q';obtain rfl:u=BZ true:=r';refine⟨rfl,OldK.of_keep fun b o e=>?_,os,bare⟩;cases q:H b with
    | none=>exact un.keep b o e q (by intro z;exact absurd (show b∈([]:List Addr) from z) (by simp)) (by simp)
    | some u=>
     rcases hO b with z | ⟨ob,xs,z⟩
     ·rw [q] at z;cases z
     ·have z2:=un.uy b ob _ z;obtain⟨e1,_⟩:=bG b _ z;obtain⟨e2,_⟩:=agw b _ z2;rw [e] at e1;cases e1;exact e2
 cases hk:K.lookup a with
 | some o=>
  have e:=KX a o hk;rw [ha] at e;cases e;refine core (fun _=>none) (fun _=>.inl rfl) (.inr ⟨_,vs.toArray,_,hk,rfl,rfl,rfl,by rw [Ah,af1];exact hl,by simpa using rv⟩) (fun b u z=>by have z':(none:Option HO)=some u:=z;cases z') (fun b z=>absurd rfl z) fun z=>absurd rfl z
 | none=>
  refine core (fun b=>if b=a then some (.cV {cls:=.type "list",data:=.seq vs.toArray} (.lst (ns.map V.int))) else none) (fun b=>?_) (.inl (.inr ⟨{cls:=.type "list",data:=.seq vs.toArray},if_pos rfl⟩)) (fun b u z=>?_) (fun b z=>?_) fun _=>hk
  ·by_cases hb:b=a
   ·exact .inr ⟨_,_,if_pos hb⟩
   ·exact .inl (if_neg hb)
  ·by_cases hb:b=a
   ·have z':=(if_pos hb).symm.trans z;cases z';subst hb;exact⟨ha,by rw [Af];exact hl,vs,_,rv,ha⟩
   ·have z':=(if_neg hb).symm.trans z;cases z'
  ·by_cases hb:b=a
   ·exact hb
   ·exact absurd (if_neg hb) z
def Ud {l:EJ}{n k:Nat}{q:Program}{loose:List Str}{XP:(Str->Option Value)->Heap->Prop}{YP:World->Heap->Prop}{d:DefRec}{K:Params->Ab}{CX:World->Qj}{sp:World->Sp}{x:Str}
  (hn:l.most=some n) (hn2:n<=sizeLine) (hdf:d.params.defaults=[]) (hr:fv k callerA)
  (hY:∀(w:World) (h:Heap),YP w h->(K w.params).In h)
  (F:∀(w:World) (mg:Str->Option Value) (fa:Addr) (h:Heap),(K w.params).In h->h.Ns mainGlobals mg->mg d.name=some (.ref fa)->
   ∃fd:FuncData,(∀(s:Shared) (u:Value),BindsTo s fd ⟨[u],[]⟩ [(x,u)])/\
    ∀base:Heap,(K w.params).In base->base.Ns mainGlobals mg->iQ l.prog w (K w.params) mg base (CX w) k fa fd [x] (sp w))
  (VW:∀(w:World) (H:Hp) (a:Addr) (ns:List Int),ns.length<=n->WU H->df (K w.params) H a (ns.map V.int)->sp w [.ref a] H (fun v _=>v=.bl true) fun _ _ _=>False)
  (hCX:∀(w:World) (H:Hp) (s:Shared) (e:Value) (s':Shared),CX w [] H s (fun _ _ _=>False) e s'->False) :
  PySem.W.WalkO q loose XP YP l.row.toRowW d [] (fun f vs=>FI f vs):=by
 refine Att.JD hn hdf fun w s₀ s₁ mg mb fa o pm cd doc a vs ns G Y ho hd jw hmg ZR hints hlen hg=>?_;have KX:=hY w _ Y;obtain⟨fd,hb,hF⟩:=F w mg fa _ KX G.T.g hmg;exact RJ KX G.T.g G.T.b G.T.builtins G.T.nolimit hg ZR hints (Bq hlen hn2) hr hF hb (fun H hO hS=>VW w H a ns hlen hO hS) fun H e s'=>hCX w H s₁ e s'
def kZ (s:Stmt):Arguments:=match s with
 | .FunctionDef _ a _ _ _ _ _ _ _ _=>a
 | _=>{posonlyargs:=[],args:=[],vararg:=none,kwonlyargs:=[],kw_defaults:=[],kwarg:=none,defaults:=[]}
def dR (s:Stmt):List Stmt:=match s with
 | .FunctionDef _ _ b _ _ _ _ _ _ _=>b
 | _=>[]
def aj (s:Stmt):Scope:=match s with
 | .FunctionDef _ _ _ _ _ _ sc _ _ _=>sc
 | _=>{kind:=.function,names:=[],isGenerator:=false,isCoroutine:=false}
abbrev xW:Qj:=fun _ _ _ _ _ _=>False
abbrev E0:XK:=fun _ _ _=>False
def Xi {X:Cx}:Passes xW X E0:=fun _ _ _ _ _ _ _ h=>h.elim
structure T6 (K:Ab) (x qual:Str) (st:Stmt) (f:Addr) (fd:FuncData):Prop where
 ex:∃(oc:Value) (od:Option Addr) (kV doc pm:Value) (an:Option Addr) (gE ct:Value) (Rl:Array (Option Value)),
  fd=Cd x qual (kZ st) (dR st) (aj st) .none kV doc pm an gE ct/\K.lookup f=some ⟨oc,od,.func fd,Rl⟩/\DL K gE qual=true
 kp:Cw K (.ref f)=true
section
variable {P:Program}{w:World}{K:Ab}{mg:Str->Option Value}{base:Heap}
def T6.ok {x qual:Str}{st:Stmt}{f:Addr}{fd:FuncData}{N ps:List Str}{k:Nat}{sp:Sp} (F:T6 K x qual st f fd) (S:ar N ps (aj st)) (len:∀vs H Q E,sp vs H Q E->vs.length=ps.length)
  (Sm:∀(gE:Value) (A:Around) (outer:List Env) (s:Shared) (H:Hp) (vs:List V) (Q:VK) (E:XK),fv k (A.deeper (envOfC qual (aj st) s.heap.objs.size f gE))->sp vs H Q E->
   ∃t,u0 (xo xW P w K mg base N qual (aj st) f gE A outer s H E).Vp (dR st) t/\t {nx:=fun _ H'=>Q .aQ H',rt:=Q} (start N vs) H):iQ P w K mg base xW (k+1) f fd ps sp:=by
 obtain⟨oc,od,kV,doc,pm,an,gE,ct,Rl,rfl,lk,jw⟩:=F.ex;refine adx lk jw S len fun A outer s H vs Q E hr VW=>?_;obtain⟨t,h,q⟩:=Sm gE A outer s H vs Q E hr VW;exact⟨t,h.Vp,q⟩
def T6.binds {x qual:Str}{st:Stmt}{f:Addr}{fd:FuncData}{ps:List Str} (F:T6 K x qual st f fd)
  (h:∀(kV doc pm:Value) (an:Option Addr) (gE ct:Value) (us:List Value),us.length=ps.length->bindArgs (Cd x qual (kZ st) (dR st) (aj st) .none kV doc pm an gE ct) ⟨us,[]⟩=pure (ps.zip us)):Binds K fd ps []:=by
 obtain⟨oc,od,kV,doc,pm,an,gE,ct,Rl,rfl,lk,jw⟩:=F.ex;exact .all (h kV doc pm an gE ct)
def Z1 {x qual:Str}{st:Stmt}{f:Addr}{oc:Value}{od an:Option Addr}{Rl:Array (Option Value)}{kV doc pm gE ct:Value} (l:K.lookup f=some ⟨oc,od,.func (Cd x qual (kZ st) (dR st) (aj st) .none kV doc pm an gE ct),Rl⟩)
  (c:DL K gE qual=true) (k:Cw K (.ref f)=true):T6 K x qual st f (Cd x qual (kZ st) (dR st) (aj st) .none kV doc pm an gE ct):=⟨⟨oc,od,kV,doc,pm,an,gE,ct,Rl,rfl,l,c⟩,k⟩
end
def yS {n:Nat} (h:n<=1000):n < sizeLine:=Nat.lt_of_le_of_lt h (by decide)
def yC {A B:Prop} (h:B):if false=true then A else B:=by
 rw [if_neg AG];exact h
def yB {A B:Prop} (h:A):if true=true then A else B:=by
 rw [if_pos rfl];exact h
def lS (H H':Hp):Prop:=∀b o,H b=some o->H' b=some o
def lS.refl (H:Hp):lS H H:=fun _ _ h=>h
def lsz {h:Heap}{b:Nat}{o:Obj} (e:h.get? b=some o):b < h.objs.size:=Ar e
def neN {a b:Nat} (h:a≠b):a≠b:=h
def ltN {a b:Nat} (h:a < b):a < b:=h
def X1 {h:Heap}{c:Nat}{v:Option Value} (q:h.IsCell c v):c < h.objs.size:=q.lt
structure aE (Xs:Scope) (N:List Str) (sc:Scope) (N':List Str) (ix:List (Option Nat)):Prop where
 kind:sc.kind=.function
 nc:∀y∈sc.names,y.2≠.cell
 loc:∀y∈sc.names,y.2=.local->sc.names.lookup y.1=some .local
 fr:∀y∈sc.names,y.2=.free->(Xs.names.lookup y.1=some .cell\/Xs.names.lookup y.1=some .free)
 nd:N'.Nodup
 len:ix.length=N'.length
 map:((ix.zip N').all fun p=>match p.1 with | none=>true | some j=>decide (N[j]?=some p.2)&&decide (sc.names.lookup p.2=some .free))=true
def aE.at {Xs:Scope}{N:List Str}{sc:Scope}{N':List Str}{ix:List (Option Nat)} (S:aE Xs N sc N' ix) {i j:Nat}{x:Str} (h1:ix[i]?=some (some j)) (h2:N'[i]?=some x) :
  N[j]?=some x/\sc.names.lookup x=some .free:=by
 have hm:((some j,x):Option Nat×Str)∈ix.zip N':=by
  refine Bo (i:=i) ?_;rw [List.getElem?_zip_eq_some];exact⟨h1,h2⟩
 have q:=Cm.mp S.map _ hm;simp only [AM,decide_eq_true_eq] at q;exact q
def qO (ix:List (Option Nat)) (σ:St):St:=ix.map fun o=>match o with | some j=>(σ[j]?).getD none | none=>none
def gU (X:Cx) (sc:Scope) (N':List Str) (cl:List (Str×Addr)) (C:Addr) (s2:Shared) (H2:Hp) (fp:List Addr):Cx where
 prog:=X.prog
 w:=X.w
 K:=X.K
 mg:=X.mg
 base:=X.base
 A:=X.A
 N:=N'
 s₀:=s2
 H₀:=H2
 env:=compEnvC sc cl C X.env
 outer:=X.stack
 stack:=X.stack
 ex:=fp
 calm:=X.calm
 fn:=fun _=>false
 pn:=[]
 xe:=fun _ _=>False
theorem pw {env:Env}:∀(names:List (Str×NameKind)) (cs:List (Str×Addr)),(∀y∈names,y.2=.free->∃c,env.cells.lookup y.1=some c)->
  ∃cl,(forIn names cs fun (x:Str×NameKind) (c:List (Str×Addr))=>(match x with | (name,kind)=>do
    let c <- if (kind==Bf)=true then do let a <- cellOf env name;pure ((name,a)::c) else pure c
    pure (Cb c):Sem (ForInStep (List (Str×Addr)))))=pure cl/\(∀x c,cl.lookup x=some c->cs.lookup x=some c\/(env.cells.lookup x=some c/\(x,Bf)∈names))/\(∀x,((x,Bf)∈names\/(∃c,cs.lookup x=some c))->∃c,cl.lookup x=some c)
 | [],cs,_=>⟨cs,rfl,fun _ _ h=>.inl h,fun x h=>h.elim (fun z=>nomatch z) fun z=>z⟩
 | (n,k)::r,cs,h=>by
  by_cases hk:k=.free
  ·subst hk;obtain⟨c,hc⟩:=h (n,.free) Bx rfl;obtain⟨cl,e,h1,h2⟩:=pw r ((n,c)::cs) fun y hy=>h y (AV _ hy);refine⟨cl,?_,fun x d hd=>?_,fun x hx=>?_⟩
   ·rw [BN,<- e];simp only [beq_self_eq_true,if_true,cellOf,hc,pure_bind]
   ·rcases h1 x d hd with z | ⟨z1,z2⟩
    ·rw [Bk] at z;by_cases hx:(x==n)=true
     ·rw [hx] at z;have zc:x=n:=eq_of_beq hx;subst zc;cases z;exact .inr ⟨hc,Bx⟩
     ·have zc:(x==n)=false:=by simpa using hx
      rw [zc] at z;exact .inl z
    ·exact .inr ⟨z1,AV _ z2⟩
   ·refine h2 x ?_;rcases hx with hx | ⟨d,hd⟩
    ·rcases Ay.mp hx with z | z
     ·injection z with z1 _;subst z1;exact .inr ⟨c,by rw [Bk];simp⟩
     ·exact .inl z
    ·by_cases hx:(x==n)=true
     ·exact .inr ⟨c,by rw [Bk,hx]⟩
     ·have zc:(x==n)=false:=by simpa using hx
      exact .inr ⟨d,by rw [Bk,zc];exact hd⟩
  ·obtain⟨cl,e,h1,h2⟩:=pw r cs fun y hy=>h y (AV _ hy);refine⟨cl,?_,fun x d hd=>?_,fun x hx=>?_⟩
   ·have hb:(k==Bf)=false:=by simpa using hk
    rw [BN,<- e];simp only [hb,Am,if_false,pure_bind]
   ·rcases h1 x d hd with z | ⟨z1,z2⟩
    ·exact .inl z
    ·exact .inr ⟨z1,AV _ z2⟩
   ·refine h2 x ?_;rcases hx with hx | hx
    ·rcases Ay.mp hx with z | z
     ·injection z with _ z2;exact absurd z2.symm hk
     ·exact .inl z
    ·exact .inr hx
def oe {sc:Scope}{env:Env} (h:∀y∈sc.names,y.2=.free->∃c,env.cells.lookup y.1=some c) :
  ∃cl,closureFor sc env=pure cl/\(∀x c,cl.lookup x=some c->env.cells.lookup x=some c/\(x,Bf)∈sc.names)/\(∀x,(x,Bf)∈sc.names->∃c,cl.lookup x=some c):=by
 obtain⟨cl,e,h1,h2⟩:=pw (env:=env) sc.names [] h;refine⟨cl,?_,fun x c hc=>(h1 x c hc).resolve_left (fun z=>nomatch z),fun x hx=>h2 x (.inl hx)⟩;unfold closureFor;have e':(forIn sc.names ([]:List (Str×Addr)) fun x r=>(match x with | (name,kind)=>if (kind==Bf)=true then do let a <- cellOf env name;pure (Cb ((name,a)::r)) else pure (Cb r):Sem (ForInStep (List (Str×Addr)))))=pure cl:=by
  rw [<- e]
  first
   | rfl
   | (
     congr 1;funext x r;obtain⟨n,k⟩:=x;by_cases hk:(k==Bf)=true
     ·simp only [hk,if_true,pure_bind]
     ·simp only [hk,if_false,pure_bind,Am])
   | simp only [pure_bind]
 simpa using e'
theorem iE {env:Env}:∀{names:List (Str×NameKind)}{x:Str},
  (names.map fun (n,k)=>if (k==Bf&&env.scope.kind==.function&&env.kindOf n==some .cell) then (n,Fh) else (n,k)).lookup x =
   (names.lookup x).map fun k=>if (k==Bf&&env.scope.kind==.function&&env.kindOf x==some .cell) then Fh else k
 | [],_=>rfl
 | (n,k)::r,x=>by
  have ih:=@iE env r x;show List.lookup x ((if (k==Bf&&env.scope.kind==.function&&env.kindOf n==some .cell)=true then (n,Fh) else (n,k))::_)=_;cases hx:x==n with
  | true=>
   have e:x=n:=eq_of_beq hx;subst e;by_cases hc:(k==Bf&&env.scope.kind==.function&&env.kindOf x==some .cell)=true
   ·rw [if_pos hc,Bk,Bk,hx];simp only [Cp,hc,if_true]
   ·rw [if_neg hc,Bk,Bk,hx];simp only [Cp,hc,if_false];simp
  | false=>
   by_cases hc:(k==Bf&&env.scope.kind==.function&&env.kindOf n==some .cell)=true
   ·rw [if_pos hc,Bk,Bk,hx];exact ih
   ·rw [if_neg hc,Bk,Bk,hx];exact ih
def PFs (X:Cx) (ifs:List Expr) (t:TT):Prop:=
 ∀(pins:List (Addr×Obj)) (s:Shared) (σ:St) (H:Hp) (Q:Bool->Hp->Prop),Inv X pins σ H s->t σ H Q->
  wpAny (model X.prog X.w) X.A (forIn ifs true fun c r=>if r=true then do let ok <- isTrue c X.env (eval c X.env);pure (Cb ok) else pure (Cb r)) (TP X pins σ Q) X.xe s
def afE:TT:=fun _ H Q=>Q true H
def U2 {X:Cx}:PFs X [] afE:=fun pins s σ H Q I h=>by
 rw [DW];exact Ag ⟨H,I,h⟩
def U1 {X:Cx}{c:Expr}{t:TT} (hc:PT X c t):PFs X [c] t:=fun pins s σ H Q I h=>by
 rw [BN];simp only [if_true,bind_assoc,pure_bind];refine Aa (bD (hc pins s σ H Q I h) fun b s1 q=>?_);rw [DW];exact Ag q
def tLc (ix:List (Option Nat)) (wi:TI) (g:TG) (tf:TT) (te:TE):TE:=fun σ H Q=>wi σ H fun J H1=>∀D,H1 D=none->∃W:Nat->Nat->St->List V->Hp->Prop,
 (∃m,W 0 m (qO ix σ) [] (upd H1 D (.lst [])))/\∀i m σ' ys H,W i m σ' ys H->H D=some (.lst ys)/\
  ((J.stop i H/\Q (.ref D) H)\/(J.go i H/\∀x H',J.W4 i H x H'->g x σ' H' fun σ2 H2=>tf σ2 H2 fun b H3=>
   if b=true then te σ2 H3 fun y H4=>H4 D=some (.lst ys)/\ys.length+1<=sizeLine/\∃m',m' < m/\W (i+1) m' σ2 (ys++[y]) (upd H4 D (.lst (ys++[y]))) else ∃m',m' < m/\W (i+1) m' σ2 ys H3))
def nS {prog:Program}{w:World}{A:Around}{R:Result->Shared->Prop}{s:Shared}{elt target iter:Expr}{ifs:List Expr}{scope:Scope}{pos:Pos}{it acc:Value}{env:Env} (I:Nat->Shared->Prop)
  (turn:∀n s,I n s->wpAny (model prog w) A (pyNext it) (fun r s₁=>match r with
   | none=>R (.ok .next) s₁
   | some v=>wpAny (model prog w) A (letOwnedTupleGo target it v) (fun _ Xc=>wpAny (model prog w) A (assign target env v) (fun _ s₂=>
     wpAny (model prog w) A (forIn ifs true fun c r=>if r=true then do let ok <- isTrue c env (eval c env);pure (Cb ok) else pure (Cb r)) (fun ok s₃=>
      if ok=true then wpAny (model prog w) A (eval elt env) (fun x s₄=>
       wpAny (model prog w) A (call (.builtin "list.append") [acc,x]) (fun _ s₅=>∃m,m < n/\I m s₅) (fun _ _=>False) s₄) (fun _ _=>False) s₃
      else ∃m,m < n/\I m s₃) (fun _ _=>False) s₂) (fun _ _=>False) Xc) (fun _ _=>False) s₁) (fun _ _=>False) s)
  (n:Nat) (h:I n s) :
  codeAny (model prog w) A (.compLoop (.ListComp elt [⟨target,iter,ifs,0⟩] scope pos) 0 it acc env) R s:=by
 refine codeAny_loop rfl I (fun n s hI=>?_) n h;show wpAny _ A ((compTurn (.ListComp elt [⟨target,iter,ifs,0⟩] scope pos) 0 it acc env).onRaise (fun x=>do noteFrame x env;theTreesLotGoes x)) _ _ s;refine wpAny_noted ?_;rw [compTurn_list];refine Aa (Ec (Aa (BK (turn n s hI) (fun r s₁ h₁=>?_) fun _ _ h'=>h'.elim)));cases r with
 | none=>exact Ag h₁
 | some v=>
  refine Aa (BK h₁ (fun _ Xc acT=>?_) fun _ _ h'=>h'.elim);refine Aa (BK acT (fun _ s₂ h₂=>Aa (BK h₂ (fun ok s₃ h₃=>?_) fun _ _ h'=>h'.elim)) fun _ _ h'=>h'.elim);cases ok with
  | false=>exact Ag ⟨rfl,h₃⟩
  | true=>
   have acS:wpAny (model prog w) A (eval elt env) (fun x s₄=>
       wpAny (model prog w) A (call (.builtin "list.append") [acc,x]) (fun _ s₅=>∃m,m < n/\I m s₅) (fun _ _=>False) s₄) (fun _ _=>False) s₃:=h₃
   exact Aa (Aa (BK acS (fun x s₄ h₄=>Aa (BK h₄ (fun _ s₅ h₅=>Ag (Ag ⟨rfl,h₅⟩)) fun _ _ h'=>h'.elim)) fun _ _ h'=>h'.elim))
section
variable {X:Cx}{elt tg iter:Expr}{ifs:List Expr}{sc:Scope}{pos:Pos}{N':List Str}{ix:List (Option Nat)}{wi:TI}{g:TG}{tf:TT}{te:TE}
structure aeb (X:Cx) (pins:List (Addr×Obj)) (H:Hp) (C:Addr):Prop where
 hn:H C=none
 hL:C≠X.env.locals
 ab:X.s₀.heap.objs.size<=C
 cl:∀x c,X.env.cells.lookup x=some c->c≠C
 pn:∀p∈X.pn++pins,p.1≠C
def Nj (hc:X.calm=true) (S:aE X.env.scope X.N sc N' ix)
  (hg:∀cl C s2 H2 fp,PG (gU X sc N' cl C s2 H2 fp) tg g) (hf:∀cl C s2 H2 fp,PFs (gU X sc N' cl C s2 H2 fp) ifs tf) (he:∀cl C s2 H2 fp,PE (gU X sc N' cl C s2 H2 fp) elt te)
  {pins:List (Addr×Obj)}{σ:St}{H2:Hp}{s2:Shared}{cl:List (Str×Addr)} (wK:∀x c,cl.lookup x=some c->X.env.cells.lookup x=some c/\(x,Bf)∈sc.names) (O3:∀x,(x,Bf)∈sc.names->∃c,cl.lookup x=some c)
  {it:Addr}{fp:List Addr}{tn:Nat->Heap->Prop}{J:It}{Q:VK} (I2:Inv X pins σ H2 s2) (T:Turn X.prog X.w X.K tg J fp it tn) (Oc:tn 0 s2.heap) (f2:∀b∈fp,yN X pins H2 b)
  (hW:∀D,H2 D=none->∃W:Nat->Nat->St->List V->Hp->Prop,
   (∃m,W 0 m (qO ix σ) [] (upd H2 D (.lst [])))/\∀i m σ' ys H,W i m σ' ys H->H D=some (.lst ys)/\
    ((J.stop i H/\Q (.ref D) H)\/(J.go i H/\∀x H',J.W4 i H x H'->g x σ' H' fun σ2 H2=>tf σ2 H2 fun b H3=>
     if b=true then te σ2 H3 fun y H4=>H4 D=some (.lst ys)/\ys.length+1<=sizeLine/\∃m',m' < m/\W (i+1) m' σ2 (ys++[y]) (upd H4 D (.lst (ys++[y]))) else ∃m',m' < m/\W (i+1) m' σ2 ys H3)))
  {RR:Value->Addr->Result->Shared->Prop}{E:Value->Shared->Prop}
  (hRR:∀D C m s' H',Inv X pins σ H' s'->Q (.ref D) H'->s'.heap.Ns C m->aeb X pins H' C->RR (.ref D) C (.ok .next) s') :
  wpAny (model X.prog X.w) X.A (newList []) (fun acc s₃=>wpAny (model X.prog X.w) X.A (newFunctionEnv sc X.env.globals cl [] X.env.qual none .none (some X.env)) (fun adW s₄=>
   codeAny (model X.prog X.w) X.A (.compStart (.ListComp elt [⟨tg,iter,ifs,0⟩] sc pos) 0 (.ref it) acc {adW with scope:=relabel sc X.env}) (RR acc adW.locals) s₄) E s₃) E s2:=by
 refine Bn (wpAny_newFunctionEnv S.nc (by intro y hy;simp at hy) (fun h₁ GL wG=>?_) S.kind);dsimp only at GL wG ⊢;generalize hH2:s2.heap.push {cls:=.type "list",dict:=none,data:=.seq ([]:List Value).toArray}=G2 at GL wG ⊢;have hC:G2.objs.size=s2.heap.objs.size+1:=by rw [<- hH2,Cy]
 obtain⟨D,hD⟩:∃D:Nat,s2.heap.objs.size=D:=⟨_,rfl⟩;obtain⟨C,hCC⟩:∃C:Nat,G2.objs.size=C:=⟨_,rfl⟩;simp only [hD,hCC] at GL wG hC ⊢;have hDC:D≠C:=by omega
 have old:∀b o,s2.heap.get? b=some o->h₁.get? b=some o:=fun b o e=>by
  have hb:=lsz e;exact wG.extBut b o (neN (by omega)) (Aj _ (hH2▸Aj _ e))
 have adn:h₁.get? D=some {cls:=.type "list",data:=.seq ([]:List Value).toArray}:=by
  refine wG.extBut D _ hDC (Aj _ ?_);rw [<- hH2,<- hD];exact Aq _ rfl
 have hD2:H2 D=none:=I2.bG.fresh (by omega);have hC2:H2 C=none:=I2.bG.fresh (by omega);obtain⟨W,⟨m0,w0⟩,turn⟩:=hW D hD2;have X0:∀x c,cl.lookup x=some c->∃v,s2.heap.IsCell c v:=fun x c e=>I2.cell x c (wK x c e).1;have ahi:∀x c,cl.lookup x=some c->c < D:=fun x c e=>by
  obtain⟨v,q⟩:=X0 x c e;have:=X1 q;exact ltN (by omega)
 have fpD:∀b∈fp,b < D:=fun b hb=>by
  obtain⟨o,e,_⟩:=T.obj 0 _ Oc b hb;have:=lsz e;exact ltN (by omega)
 have Yok:(gU X sc N' cl C s2 H2 fp).Ok:=by
  refine⟨I2.ok.mod,S.kind,I2.ok.glob,I2.ok.blt,?_,?_,?_,?_,I2.ok.hd,I2.ok.frames,.inl rfl,?_,I2.bs,?_,?_,?_,I2.stack,I2.MH⟩
  ·show s2.heap.objs.size<=C;omega
  ·intro x y c e1 e2;exact I2.ok.inj x y c (wK x c e1).1 (wK y c e2).1
  ·intro x hx;have zc:(relabel sc X.env).names.lookup x=some .cell\/(relabel sc X.env).names.lookup x=some .free:=hx;unfold relabel at zc;rw [iE] at zc;cases q:sc.names.lookup x with
   | none=>rw [q] at zc;simp at zc
   | some k=>
    have hm:=BL q;by_cases hk:k=.free
    ·subst hk;exact O3 x hm
    ·have hk2:k≠.cell:=S.nc _ hm;rw [q] at zc;have hb:(k==Bf)=false:=by simpa using hk
     simp only [Cp,hb,E9,Am,if_false] at zc;rcases zc with z | z
     ·exact absurd (Option.some.inj z) hk2
     ·exact absurd (Option.some.inj z) hk
  ·intro x c hfn;exact absurd hfn AG
  ·intro b hb;refine⟨?_,fun x c e z=>(f2 b hb).2.2.2.2.1 x c (wK x c e).1 z⟩;show b≠C;have:=ltN (fpD b hb);exact neN (by omega)
  ·show X.base.objs.size<=s2.heap.objs.size;exact Bq I2.ok.X2 I2.sz
  ·intro b o e hb;rcases (f2 b hb).2.2.2.1 with z | z
   ·exact I2.ok.Rx b o e z
   ·have h1:=lsz (h:=X.base) e;have h2:=I2.ok.X2;omega
  ·intro b hb z;rcases Ay.mp (I2.Kl b z) with q | q
   ·exact (f2 b hb).2.1 q
   ·exact (f2 b hb).2.2.1 q
 have un0:Un (Qg X.stack) fp H2 (upd H2 D (.lst [])) s2.heap h₁:=Un.laid old (by omega) hD2;have agv:nJ X.prog X.w (upd H2 D (.lst [])) h₁:=I2.bG.laid old (by omega) ⟨A3 _,[],0,.nil,adn⟩;have IY:∀tk,Inv (gU X sc N' cl C s2 H2 fp) [] (qO ix σ) (upd H2 D (.lst [])) {s2 with heap:=h₁,toks:=tk}:=fun tk=>by
  refine⟨Yok,rfl,I2.bare,un0,⟨_,GL,fun i x v e1 e2 e3=>?_⟩,fun x c e=>?_,?_,fun x c e=>?_,fun p hp=>absurd (show p∈([]:List (Addr×Obj)) from hp) (by simp),agv,?_⟩
  ·have pH:N'[i]?=some x:=e1;unfold qO at e2;rw [Ai] at e2;cases q:ix[i]? with
   | none=>rw [q] at e2;cases e2
   | some o=>
    cases o with
    | none=>rw [q] at e2;cases e2
    | some j=>
     rw [q] at e2;have e2':(σ[j]?).getD none=some v:=Option.some.inj e2;have e4:σ[j]?=some (some v):=by
      cases z:σ[j]? with
      | none=>rw [z] at e2';cases e2'
      | some y=>rw [z] at e2';exact congrArg some e2'
     obtain⟨a1,a2⟩:=S.at q pH;have ac6:=BL a2;have hk:=S.fr _ ac6 rfl;obtain⟨m,_,hl⟩:=I2.loc;obtain⟨u,r,l⟩:=hl j x v a1 e4 (.inr hk);refine⟨u,r,.inr ⟨?_,?_⟩⟩
     ·show (relabel sc X.env).names.lookup x=some .cell\/(relabel sc X.env).names.lookup x=some .free;unfold relabel;rw [iE,a2];by_cases hb:(X.env.scope.kind==.function&&X.env.kindOf x==some .cell)=true
      ·left
       simp only [Cp,beq_self_eq_true,Fi,hb,if_true]
      ·right
       simp only [Cp,beq_self_eq_true,Fi,hb,if_false,Am]
     ·obtain⟨c,hcx⟩:=O3 x ac6;have hcX:=(wK x c hcx).1;refine⟨c,hcx,?_⟩;rcases l with⟨k,_⟩ | ⟨k,c',e',z⟩
      ·have k':X.env.scope.names.lookup x=some .local:=k;rcases hk with y | y <;> rw [k'] at y <;> cases y
      ·rw [hcX] at e';cases e';obtain⟨o,ho,hd⟩:=z;exact⟨o,old _ _ ho,hd⟩
  ·obtain⟨v,o,ho,hd⟩:=X0 x c e;exact⟨v,o,old _ _ ho,hd⟩
  ·show upd H2 D (.lst []) C=none;rw [ay (BF hDC)];exact hC2
  ·have mF:=ltN (ahi x c e);show upd H2 D (.lst []) c=none;rw [ay (neN (by omega))];exact I2.lN x c (wK x c e).1
  ·unfold qO;rw [Af];exact S.len
 have fpY:∀{Ip:List (Addr×Obj)}{H':Hp},(∀b∈fp,H' b=none)->(∀p∈Ip,p.1∉fp)->∀b∈fp,yN (gU X sc N' cl C s2 H2 fp) Ip H' b:=fun hn hp b hb=>by
  refine⟨hn b hb,?_,?_,.inl hb,fun x c e z=>(f2 b hb).2.2.2.2.1 x c (wK x c e).1 z,fun p hpp z=>?_⟩
  ·show b≠C;have:=ltN (fpD b hb);exact neN (by omega)
  ·exact Yok.SE b hb
  ·have ac2:p∈([]:List (Addr×Obj))++_:=hpp;rw [Dx] at ac2;exact hp p ac2 (z▸hb)
 have loop:∀s₃:Shared,s₃={s2 with heap:=h₁,toks:=s2.toks+([]:List (Str×Value)).length}->
   codeAny (model X.prog X.w) X.A (.compLoop (.ListComp elt [⟨tg,iter,ifs,0⟩] sc pos) 0 (.ref it) (.ref D) (compEnvC sc cl C X.env)) (RR (.ref D) C) s₃:=by
  rintro s₃ rfl;refine nS (fun n s'=>∃i σ' ys H',Inv (gU X sc N' cl C s2 H2 fp) [] σ' H' s'/\tn i s'.heap/\(∀b∈fp,H' b=none)/\W i n σ' ys H') ?_ m0
   ⟨0,_,[],_,IY _,T.keep _ _ _ Oc (fun b _ o e=>old b o e),fun b hb=>by rw [ay (AI (fpD b hb))];exact (f2 b hb).1,w0⟩
  rintro n s3 ⟨i,σ3,ys,H3,I3,st3,fr3,w3⟩;obtain⟨hDl,w3⟩:=turn i n σ3 ys H3 w3;rcases w3 with⟨stop,qn⟩ | ⟨go,step⟩
  ·refine bD (T.done (gU X sc N' cl C s2 H2 fp) rfl rfl rfl hc i [] s3 σ3 H3 _ I3 (fpY fr3 (by simp)) st3 stop) fun r s4 ⟨hr,I4⟩=>?_;subst hr;obtain⟨m,hn,_⟩:=I4.loc;refine hRR D C m s4 H3 (I2.adX (ch:=fp) I4.os I4.base I4.bG I4.bare fun b hb=>?_) qn hn ?_
   ·obtain⟨a0,a1,a2,a3,a4,a5⟩:=f2 b hb;exact⟨a3,a1,a4,a5⟩
   ·refine⟨I4.free,?_,?_,fun x c e z=>?_,fun p hp z=>?_⟩
    ·have:=ltN I2.lt;exact neN (by omega)
    ·have:=I2.sz;omega
    ·obtain⟨v,q⟩:=I2.cell x c e;have:=X1 q;exact neN (a:=c) (b:=C) (by omega) z
    ·have:=lsz (I2.pin p hp).1;exact neN (a:=p.1) (b:=C) (by omega) z
  ·refine bD (T.item (gU X sc N' cl C s2 H2 fp) rfl rfl rfl hc i [] s3 σ3 H3 (fun _ _=>False) I3 (fpY fr3 (by simp)) st3 go) fun r s4 ⟨u,hr,h4⟩=>?_;subst hr;refine bD h4 fun _ s5 ⟨x,H5,I5,r5,y5,Yr,fr5⟩=>?_;have I5':=I5.pinned (fpY fr5 (by simp)) (T.obj _ _ Yr);refine bD (hg _ _ _ _ _ _ s5 σ3 H5 x u _ I5' r5 (step x H5 y5)) fun _ s6 ⟨σ6,H6,I6,q6⟩=>?_;refine bD (hf _ _ _ _ _ _ s6 σ6 H6 _ I6 q6) fun b s7 ⟨H7,I7,q7⟩=>?_;have RP:∀{s8:Shared}{σ8:St}{H8:Hp},Inv (gU X sc N' cl C s2 H2 fp) ([]++rE fp s5.heap) σ8 H8 s8->tn (i+1) s8.heap/\∀b∈fp,H8 b=none:=fun {s8 σ8 H8} I8=>by
    refine⟨T.keep _ _ _ Yr fun b hb o e=>(I8.pin (b,o) (AR _ (AR _ (kD hb e)))).1,fun b hb=>?_⟩;obtain⟨o,e,d⟩:=T.obj _ _ Yr b hb;exact (I8.pin (b,o) (AR _ (AR _ (kD hb e)))).2.1
   cases b with
   | false=>
    have q7':∃m',m' < n/\W (i+1) m' σ6 ys H7:=q7;obtain⟨m',hm,w7⟩:=q7';rw [if_neg AG];obtain⟨t7,fr7⟩:=RP I7;exact⟨m',hm,i+1,σ6,ys,H7,I7.lY,t7,fr7,w7⟩
   | true=>
    rw [if_pos rfl];rw [if_pos rfl] at q7;refine bD (he _ _ _ _ _ _ s7 σ6 H7 _ I7 q7) fun yv s8 ⟨y,H8,I8,r8,hD8,hz8,m',hm,w8⟩=>?_;obtain⟨z,au,k,rv,hl8,e8⟩:=I8.rK hD8;obtain⟨t8,fr8⟩:=RP I8;refine wpAny_list_append_plain (s:=s8) (items:=au.toArray) (hsz:=by rw [Ah];omega) ⟨_,e8⟩ fun h9 hl9 hs9=>?_;obtain⟨k9,e9⟩:=hl9;have hv9:Vals (ys++[y]) (au++[yv]):=Vals.append rv (.cons r8 .nil);have I9:Inv (gU X sc N' cl C s2 H2 fp) ([]++rE fp s5.heap) σ6 (upd H8 D (.lst (ys++[y]))) {s8 with heap:=h9,toks:=s8.toks}:=by
     refine I8.write (x:=D) (e:=D) (by rw [hD8];exact trivial) (.inl rfl) (fun b u hb hu=>(hs9.2 b hb).trans hu) ⟨_,e9⟩ ?_;refine⟨by rw [Ae,ET];exact hz8,au++[yv],k9,hv9,?_⟩;rw [e9];simp
    obtain⟨t9,fr9⟩:=RP I9;exact⟨m',hm,i+1,σ6,_,_,I9.lY,t9,fr9,w8⟩
 exact codeAny_compStart_list (loop _ rfl) (T.self _ 0 _ _ _ (T.keep _ _ _ Oc fun b _ o e=>old b o e) (loop _ rfl))
def acd (hc:X.calm=true) (S:aE X.env.scope X.N sc N' ix) (hi:PI X tg iter wi)
  (hg:∀cl C s2 H2 fp,PG (gU X sc N' cl C s2 H2 fp) tg g) (hf:∀cl C s2 H2 fp,PFs (gU X sc N' cl C s2 H2 fp) ifs tf) (he:∀cl C s2 H2 fp,PE (gU X sc N' cl C s2 H2 fp) elt te)
  (hs:∀x,foldedSetIterable iter X.env x=pure x:=by intro _;rfl):PE X (.ListComp elt [⟨tg,iter,ifs,0⟩] sc pos) (tLc ix wi g tf te):=by
 intro pins s σ H Q I h;rw [eval_ListComp];have LD:∀y∈sc.names,y.2=.free->∃c,X.env.cells.lookup y.1=some c:=fun y hy hk=>I.ok.has y.1 (S.fr y hy hk);obtain⟨cl,Sk,wK,O3⟩:=oe LD;refine Ee (use:=none) rfl hs Sk S.kind S.loc (bD (hi pins s σ H _ I h) fun v s1 h1=>bD h1 fun itv s2 h2=>?_);obtain⟨it,fp,tn,J,H2,rfl,I2,T,Oc,f2,hW⟩:=h2;refine Nj (RR:=fun acc C=>compPost (model X.prog X.w) X.A X.xe none (EP X pins σ Q) acc C) hc S hg hf he wK O3 I2 T Oc f2 hW fun D C m s' H' I' q hn F=>?_;refine⟨m,hn,fun h' hs'=>⟨.ref D,H',?_,rfl,q⟩⟩;exact I'.turned (it:=C) (t':=s'.toks) (fun b o hb e=>(hs'.2 b hb).trans e) F.hn F.hL (.inr F.ab) F.cl F.pn
def Il {i:Nat}{x:Str}{px lQ:Pos} (hc:X.calm=true) (hN:X.N.Nodup) (Jg:X.N[i]?=some x) (hx:X.env.scope.names.lookup x=some .local) (S:aE X.env.scope X.N sc N' ix) (hi:PI X tg iter wi)
  (hg:∀cl C s2 H2 fp,PG (gU X sc N' cl C s2 H2 fp) tg g) (hf:∀cl C s2 H2 fp,PFs (gU X sc N' cl C s2 H2 fp) ifs tf) (he:∀cl C s2 H2 fp,PE (gU X sc N' cl C s2 H2 fp) elt te)
  (uu:swapsWith (.ListComp elt [⟨tg,iter,ifs,0⟩] sc pos) (some (.Name x px)) lQ.line X.env=pure true:=by rfl)
  (hs:∀x,foldedSetIterable iter X.env x=pure x:=by intro _;rfl):PS X (.Assign [.Name x px] (.ListComp elt [⟨tg,iter,ifs,0⟩] sc pos) lQ) (Yp (tLc ix wi g tf te) (dY i)):=by
 intro pins s σ H D0 I h;rw [exec_Assign_Name_used _ _ _ _ uu];refine Aa (Ec (Aa ?_));show wpAny _ X.A (do let _ <- comprehension (.ListComp elt [⟨tg,iter,ifs,0⟩] sc pos) sc X.env _ (newList []) false (eval iter X.env) (some (assign (.Name x px) X.env))) _ _ s;have LD:∀y∈sc.names,y.2=.free->∃c,X.env.cells.lookup y.1=some c:=fun y hy hk=>I.ok.has y.1 (S.fr y hy hk);obtain⟨cl,Sk,wK,O3⟩:=oe LD;refine Aa (BK (Ee (use:=some (assign (.Name x px) X.env)) (Q:=fun _ s'=>SP X pins D0 .next s') rfl hs Sk S.kind S.loc (bD (hi pins s σ H _ I h) fun v s1 h1=>bD h1 fun itv s2 h2=>?_)) (fun _ s' hq=>Ag (Ag hq)) fun _ _ e=>e);obtain⟨it,fp,tn,J,H2,rfl,I2,T,Oc,f2,hW⟩:=h2;refine Nj (RR:=fun acc C=>compPost (model X.prog X.w) X.A X.xe (some (assign (.Name x px) X.env)) (fun _ s'=>SP X pins D0 .next s') acc C) (Q:=fun x H1=>dY i x σ H1 D0.nx) hc S hg hf he wK O3 I2 T Oc f2 hW fun D C m s' H' I' q hn F=>?_;show wpAny _ X.A (assign (.Name x px) X.env (.ref D)) _ _ _;refine wpAny_assign_Name (yQ (v:=.ref D) I' hN Jg (.inl hx) rfl (fun s'' I'' hsb=>?_) (.inr hx));obtain⟨a,hsb,ha⟩:=hsb;have haC:C≠a:=by
  rcases ha with z | z
  ·rw [z];exact F.hL
  ·exact BF (F.cl _ _ z)
 refine⟨m,hn.sameBut hsb haC,fun h' hs'=>⟨_,H',?_,q⟩⟩;exact I''.turned (it:=C) (t':=s''.toks) (fun b o hb e=>(hs'.2 b hb).trans e) F.hn F.hL (.inr F.ab) F.cl F.pn
end
section
variable {X:Cx}{b e:Expr}
def tN:bS X (.builtin "isinstance") (fun xs H Q=>∃x c t b,xs=[x,.ty c]/\nT X.K H x t/\Bv X.K t (.type c)=some b/\Q (.bl b) H):=by
 intro pins s σ H xs us Q I r h;obtain⟨x,c,t,b,rfl,ty,hk,q⟩:=h;obtain⟨u,w',rfl,ru,ju⟩:=vals2 r;cases (show w'=BP c from ju);exact OW I ru ty hk fun tk=>⟨.bl b,H,I.tok _,rfl,q⟩
def IA:ir X (compareOp .IsNot) (fun x y H Q=>∃i j,x=.bl i/\y=.bl j/\Q (.bl (!(i==j))) H):=by
 intro pins s σ H x y v u Q I rx ry h;obtain⟨i,j,rfl,rfl,q⟩:=h;cases rx;cases ry;exact Ag ⟨.bl (!(i==j)),H,I,by cases i <;> cases j <;> rfl,q⟩
def Oz (hu:X.A.units < cLine):ir X (compareOp .NotEq) (fun x y H Q=>∃p q xs,x=.ref p/\y=.ref q/\df X.K H p xs/\df X.K H q []/\Q (.bl (!xs.isEmpty)) H):=by
 intro pins s σ H x y v u Q I rx ry h;obtain⟨p,q,xs,rfl,rfl,hp,hq,k⟩:=h;cases rx;cases ry;obtain⟨au,r,pl,hz⟩:=I.list hp;obtain⟨bL,r2,Io,hz2⟩:=I.list hq;cases r2;cases xs with
 | nil=>
  cases r;refine D4 (Fo (e:=fun _=>true) pl.isList Io.isList rfl hu fun j h1=>absurd h1 (by simp)) ?_;exact⟨.bl false,H,I,rfl,k⟩
 | cons y ys=>
  have hl:=r.length;refine D4 (DM pl.isList Io.isList (by simp at hl ⊢;intro z;subst z;simp at hl) hu) ?_;exact⟨.bl true,H,I,rfl,k⟩
def JA {bs:List Bool}:∀{us:List Value},Vals (bs.map V.bl) us->us=bs.map BZ:=by
 induction bs with
 | nil=>intro us r;rw [EA] at r;cases r;rfl
 | cons n ns ih=>
  intro us r;rw [Au] at r;cases r with
  | cons r1 r2=>
   cases r1;rw [ih r2];rfl
def L8 (hc:X.calm=true):bS X (.builtin "all") (fun xs H Q=>∃(p:Addr) (bs:List Bool),xs=[.ref p]/\df X.K H p (bs.map V.bl)/\Q (.bl (bs.all id)) H):=by
 intro pins s σ H xs us Q I r h;obtain⟨p,bs,rfl,hp,q⟩:=h;obtain⟨u,rfl,ru⟩:=vals1 r;cases ru;obtain⟨au,rv,pl,hz⟩:=I.list hp;have eb:=JA rv;subst eb;have hl:=pl.isList;have mF:p < s.heap.objs.size:=by obtain⟨_,e,_⟩:=hl;exact Ar e
 refine call_all_walk (Cu hl ?_);refine⟨s.heap.objs.size,[s.heap.objs.size,p],[s.heap.objs.size],(bs.map BZ).toArray.size,_,_,fun i=>(bs[i]?).getD true,rfl,Walks.list (A:=X.A.in1) (I.ok.hd hc) _ p (AI mF) (bs.map BZ).toArray,
  ⟨⟨_,Aq _ rfl,rfl,rfl⟩,hl.push _⟩,fun i v s' Q' E' hP hQ=>?_,fun h' tk hk=>?_⟩
 ·have Sn:(bs.map BZ)[i]?=some v:=by simpa using hP
  rw [Ai] at Sn;cases e:bs[i]? with
  | none=>rw [e] at Sn;cases Sn
  | some b=>
   rw [e] at Sn;cases Sn;simp only [e,Option.getD_some] at hQ;exact Bm hQ
 ·have e:((Av (bs.map BZ).toArray.size).all fun i=>(bs[i]?).getD true)=bs.all id:=by
   rw [Ah,Af];exact LSm.range_all bs
  rw [e];exact⟨.bl (bs.all id),H,I.kept (LSm.kept_iter hk),rfl,q⟩
def L7 (hc:X.calm=true):bS X (.builtin "any") (fun xs H Q=>∃(p:Addr) (bs:List Bool),xs=[.ref p]/\df X.K H p (bs.map V.bl)/\Q (.bl (bs.any id)) H):=by
 intro pins s σ H xs us Q I r h;obtain⟨p,bs,rfl,hp,q⟩:=h;obtain⟨u,rfl,ru⟩:=vals1 r;cases ru;obtain⟨au,rv,pl,hz⟩:=I.list hp;have eb:=JA rv;subst eb;have hl:=pl.isList;have mF:p < s.heap.objs.size:=by obtain⟨_,e,_⟩:=hl;exact Ar e
 refine call_any_walk (Cu hl ?_);refine⟨s.heap.objs.size,[s.heap.objs.size,p],[s.heap.objs.size],(bs.map BZ).toArray.size,_,_,fun i=>(bs[i]?).getD false,rfl,Walks.list (A:=X.A.in1) (I.ok.hd hc) _ p (AI mF) (bs.map BZ).toArray,
  ⟨⟨_,Aq _ rfl,rfl,rfl⟩,hl.push _⟩,fun i v s' Q' E' hP hQ=>?_,fun h' tk hk=>?_⟩
 ·have Sn:(bs.map BZ)[i]?=some v:=by simpa using hP
  rw [Ai] at Sn;cases e:bs[i]? with
  | none=>rw [e] at Sn;cases Sn
  | some b=>
   rw [e] at Sn;cases Sn;simp only [e,Option.getD_some] at hQ;exact Bm hQ
 ·have e:((Av (bs.map BZ).toArray.size).any fun i=>(bs[i]?).getD false)=bs.any id:=by
   rw [Ah,Af];exact LSm.range_any bs
  rw [e];exact⟨.bl (bs.any id),H,I.kept (LSm.kept_iter hk),rfl,q⟩
def ui (l:Addr) (items:Array Value) (n:Nat) (b:Addr) (cg:Array Value) (n2:Nat) (dd:Option Addr) (sl:Array (Option Value)) (hs0:¬(!items.isEmpty&&Builtin.List.listTooLong (items.size+cg.size))=true) (Je:items.size<=sizeLine) (uR:items.size+cg.size<=sizeLine+1) :
  Meets (Builtin.«list.extend» ⟨[.ref l,.ref b],[]⟩) (fun _ R s=>s.heap.get? l=some {cls:=.type "list",dict:=none,data:=.seq items n,slots:=#[]}/\s.heap.get? b=some {cls:=.type "tuple",dict:=dd,data:=.seq cg n2,slots:=sl}/\R (.ok (.ret AQ)) {s with heap:=s.heap.update l (Be fun x=>x++cg),toks:=s.toks}):=
 .of_wp fun prog w A R s h=>by
  obtain⟨hp,g,d,tk,os⟩:=s;obtain⟨hl,hb,h⟩:=h;have f1:=Ey;have f2:=C7;have f3:=Dr;have f4:=Dg;have f5:=Dh;have LB:(items++cg).size<=sizeLine+1:=by rw [D8];exact uR
  wp_walk using (Ds hl rfl (hz:=Je) (_hz':=LB)),BQ hl,BQ hb;exact⟨_,rfl,h⟩
def QY (K:Ab):V->List V->Hp->VK->Prop:=fun x vs H Q=>∃l b xs zs,x=.ref l/\vs=[.ref b]/\H l=some (.lst xs)/\dD K H b zs/\xs.length+zs.length<=sizeLine/\Q .aQ (upd H l (.lst (xs++zs)))
def KS:Qi X "list.extend" (QY X.K):=by
 intro pins s σ H x vs v us Q I rx rv h;obtain⟨l,b,xs,zs,rfl,rfl,hH,hB,hz,q⟩:=h;cases rx;obtain⟨u,rfl,ru⟩:=rv.one;cases ru;obtain⟨z,au,n,r,hl,e⟩:=I.rK hH;obtain⟨bL,r2,⟨⟨cls,dd,data,sl⟩,e2,hc,n2,hd⟩,z2⟩:=I.tuple hB;simp only at hc hd;subst hc hd;have Qe:=r2.length;have hsz:au.toArray.size+bL.toArray.size<=sizeLine:=by rw [Ah,Ah];omega
 have wI:¬(!au.toArray.isEmpty&&Builtin.List.listTooLong (au.toArray.size+bL.toArray.size))=true:=by
  rw [jR hsz,DY];exact AG
 refine call_meets DP ⟨_,e,rfl⟩ Dz (Df _ _)
  (ui l au.toArray n b bL.toArray n2 dd sl wI (by rw [Ah];omega) (by omega)) ⟨e,e2,?_⟩
 refine⟨.aQ,_,I.K3 (its':=au++bL) hH e (by simp) (r.append r2) ?_,rfl,q⟩;rw [Ae];omega
def Its (x:Str):It:=⟨fun i _=>i < x.cps.size,fun i H v H'=>H'=H/\∃c,x.cps[i]?=some c/\v=.str ⟨#[c]⟩,fun i _=>x.cps.size<=i⟩
def Kc {P:Program}{w:World}{K:Ab}{tg:Expr} (it:Addr) (x:Str) (t:Tok) (ty:String) (Nw:ty="str_ascii_iterator"\/ty="str_iterator"):Turn P w K tg (Its x) [it] it (fun i h=>h.IsStrIter it ty x t i/\i<=x.cps.size) where
 mem:=by simp
 obj:=fun i h st b hb=>by
  have e:b=it:=by simpa using hb
  subst e;obtain⟨⟨o,e,c,d⟩,_⟩:=st;exact⟨o,e,fun v z=>by rw [d] at z;cases z⟩
 keep:=fun i h h' st k=>⟨let ⟨o,ho,r⟩:=st.1;⟨o,k it (by simp) o ho,r⟩,st.2⟩
 item:=by
  intro X hP hw hK hc i pins s σ H E I hf st hg;subst hP hw hK;obtain⟨f0,f1,f2,f3,f4,f5⟩:=hf it (by simp);have XD:i < x.cps.size:=hg;obtain⟨st,_⟩:=st;rcases Nw with rfl | rfl
  ·refine wpAny_pyNext_ascii_item st (c:=x.cps[i]) (by simp [XD]) fun h' pG sb=>?_;have I1:Inv X pins σ H {s with heap:=h',toks:=s.toks+1}:=I.turned (fun b o hb e=>(sb.2 b hb).trans e) f0 f1 f3 f4 f5;obtain⟨o,e,c,d⟩:=id pG;exact⟨_,rfl,wL (s:={s with heap:=h',toks:=s.toks+1}) e c d (by decide) ⟨.str ⟨#[x.cps[i]]⟩,H,I1,⟨_,rfl⟩,⟨rfl,_,by simp [XD],rfl⟩,⟨pG,XD⟩,fun b hb=>(hf b hb).1⟩⟩
  ·refine wpAny_pyNext_wide_item st (c:=x.cps[i]) (by simp [XD]) fun h' pG sb=>?_;have I1:Inv X pins σ H {s with heap:=h',toks:=s.toks+1}:=I.turned (fun b o hb e=>(sb.2 b hb).trans e) f0 f1 f3 f4 f5;obtain⟨o,e,c,d⟩:=id pG;exact⟨_,rfl,wL (s:={s with heap:=h',toks:=s.toks+1}) e c d (by decide) ⟨.str ⟨#[x.cps[i]]⟩,H,I1,⟨_,rfl⟩,⟨rfl,_,by simp [XD],rfl⟩,⟨pG,XD⟩,fun b hb=>(hf b hb).1⟩⟩
 done:=by
  intro X hP hw hK hc i pins s σ H E I hf st hg;subst hP hw hK;obtain⟨f0,f1,f2,f3,f4,f5⟩:=hf it (by simp);obtain⟨st,_⟩:=st;have hn:x.cps[i]?=none:=by
   have XD:x.cps.size<=i:=hg;simp [XD]
  rcases Nw with rfl | rfl
  ·exact wpAny_pyNext_ascii_end (I.ok.hd hc) st hn fun h' eb=>⟨rfl,I.turned (t':=s.toks) (fun b o hb e=>eb b o hb e) f0 f1 f3 f4 f5⟩
  ·exact wpAny_pyNext_wide_end (I.ok.hd hc) st hn fun h' eb=>⟨rfl,I.turned (t':=s.toks) (fun b o hb e=>eb b o hb e) f0 f1 f3 f4 f5⟩
 self:=fun _ _ _ _ _ st h=>by
  obtain⟨st,_⟩:=st;rcases Nw with rfl | rfl
  ·exact wpAny_pyIter_striter_ascii st h
  ·exact wpAny_pyIter_striter_wide st h
def agd (tl:TE):TI:=fun σ H R=>tl σ H fun x H1=>∃z,x=.str z/\R (Its z) H1
def YU {tg l:Expr}{tl:TE} (hl:PE X l tl):PI X tg l (agd tl):=by
 intro pins s σ H R I h;refine bD (hl pins s σ H _ I h) fun v s1 ⟨x,H1,I1,r1,q1⟩=>?_;obtain⟨z,e,q⟩:=q1;subst e;obtain⟨t,rfl⟩:=r1;have fin:∀(ty:String) (Nw:ty="str_ascii_iterator"\/ty="str_iterator") (o:Obj),(s1.heap.push o).IsStrIter s1.heap.objs.size ty z t 0->PIE X pins σ tg R (.ref s1.heap.objs.size) {s1 with heap:=s1.heap.push o}:=fun ty Nw o st=>by
  refine⟨s1.heap.objs.size,[s1.heap.objs.size],_,_,H1,rfl,I1.kept (t':=s1.toks) fun b o e=>Aj _ e,Kc _ z t ty Nw,⟨st,A3 _⟩,fun b hb=>?_,q⟩;have e:b=s1.heap.objs.size:=by simpa using hb
  subst e;exact I1.GX (An _) (I1.bG.fresh (An _))
 cases ha:z.cps.all (· < 128)
 ·exact wpAny_pyIter_wide ha (fin _ (.inr rfl) _ ⟨_,Aq _ rfl,rfl,rfl⟩)
 ·exact wpAny_pyIter_ascii ha (fin _ (.inl rfl) _ ⟨_,Aq _ rfl,rfl,rfl⟩)
end
section
variable {X:Cx}{CX:Qj}{k:Nat}{f:Addr}{fd:FuncData}{ps:List Str}{sp:Sp}{dvs:List V}{ds:List Value}{E:XK}{x:Str}{p pos:Pos}{e:Expr}{es:List Expr}{ta:TE}{t:TA}
def Yo (f:Addr) (sp:Sp) (dvs:List V) (E:XK) (ta:TE) (t:TA):TE:=fun σ H Q=>ta σ H fun x H1=>x=.ref f/\t σ H1 fun vs H2=>sp (vs++dvs) H2 Q E
def Ri (F:iQ X.prog X.w X.K X.mg X.base CX k f fd ps sp) (hr:fv k X.A) (hf:PE X (.Name x p) ta) (hk:Cw X.K (.ref f)=true) (hb:Binds X.K fd ps ds) (hd:Vals dvs ds) (hx:Passes CX X E)
  (ha:PA X (e::es) t) (he:starEach (e::es) X.env=(false,eval e X.env)::starEach es X.env:=by rfl) (eg:(backTo pos (starEach es X.env)).any (·.1)=false:=by rfl) :
  PE X (.Call (.Name x p) (e::es) [] pos) (Yo f sp dvs E ta t):=by
 intro pins s σ H Q I h;refine BH (bD (hf pins s σ H _ I h) fun v s1 ⟨y,H1,I1,r1,ey,q1⟩=>?_);subst ey;cases r1;refine Fm (h₀:=X.base) I.ok.mod.kin hk (bD (ha pos pins s1 σ H1 _ I1 q1) fun us s2 ⟨vs,H2,I2,r,q⟩=>⟨I2.yA,?_⟩) he eg;exact QM F hr hb hd hx I2 r q
end
section
variable {X:Cx}{o:Expr}{lo hi:Expr}{to tl th:TE}{pos p2:Pos}
def Z0 (to tl th:TE):TG:=fun v σ H Q=>to σ H fun x H1=>tl σ H1 fun i H2=>th σ H2 fun j H3=>∃l b xs ys a c,x=.ref l/\v=.ref b/\i=.int a/\j=.int c/\H3 l=some (.lst xs)/\H3 b=some (.lst ys)/\l≠b/\0<=a/\a<=c/\c<=xs.length/\xs.length+ys.length<=sizeLine/\
 Q σ (upd H3 l (.lst (xs.take a.toNat++ys++xs.drop c.toNat)))
def Q9 (ho:PE X o to) (hl:PE X lo tl) (hh:PE X hi th)
  (ha:∀v,assign (.Subscript o (.Slice (some lo) (some hi) none p2) pos) X.env v=(do
   let ov <- holding [v] (eval o X.env)
   let iv <- holding [v,ov] (eval (.Slice (some lo) (some hi) none p2) X.env)
   standAt pos
   holding [v,ov,iv] (setItem ov iv v)
   release [iv,v,ov] []):=by intro _;rfl):PG X (.Subscript o (.Slice (some lo) (some hi) none p2) pos) (Z0 to tl th):=by
 intro pins s σ H v u Q I r h;rw [ha];refine Aa (A9 (bD (ho pins s σ H _ I h) fun ov s1 ⟨x,H1,I1,r1,q1⟩=>?_));refine Aa (A9 (wpAny_Slice ?_));rw [evalPart_some,evalPart_some,evalPart_none];refine bD (hl pins s1 σ H1 _ I1 q1) fun vl s2 ⟨i,H2,I2,r2,q2⟩=>bD (hh pins s2 σ H2 _ I2 q2) fun vu s3 ⟨j,H3,I3,r3,q3⟩=>Ag ?_;obtain⟨l,b,xs,ys,a,c,rfl,rfl,rfl,rfl,hH,hB,Sf,h0,hac,hc,hz,q⟩:=q3;cases r;cases r1;have I4:Inv X pins σ H3 {s3 with heap:=s3.heap.push {cls:=.type "slice",data:=.fields #[vl,vu,.none]}}:=I3.kept (t':=s3.toks) fun b ob q=>Aj _ q;refine Aa (Ec (Aa (A9 (Oh I4 hH hB Sf (Heap.IsSliceOf.new ..) r2 r3 h0 hac hc hz fun s' I'=>?_))));exact wpAny_release ⟨σ,_,I',q⟩
end
def qT (l:Addr) (H H':Hp):Prop:=∀b u,b≠l->H b=some u->H' b=some u
def mh {H:Hp}{p:Addr} (h:H p=none) (o:HO):lS H (upd H p o):=fun b u q=>by rw [ay (bK q h)];exact q
def Oo {H:Hp}{p:Addr} (o:HO):qT p H (upd H p o):=fun b u n q=>by rw [ay n];exact q
def mn (H:Hp) (o:HO) (Q:VK):Prop:=∀p H',lS H H'->H' p=some o->H p=none->Q (.ref p) H'
def mn.at {H:Hp}{o:HO}{Q:VK} (h:mn H o Q) (p:Addr) (hp:H p=none):Q (.ref p) (upd H p o):=h p _ (mh hp o) aR hp
def HN (H:Hp) (l:Addr) (o:HO) (Q:Hp->Prop):Prop:=∀H',qT l H H'->H' l=some o->Q H'
def HN.at {H:Hp}{l:Addr}{o:HO}{Q:Hp->Prop} (h:HN H l o Q):Q (upd H l o):=h _ (Oo o) aR
def ir.mono {X:Cx}{f:Value->Value->Sem Value}{r r':R2} (h:ir X f r) (hr:∀x y H Q,r' x y H Q->r x y H Q):ir X f r':=fun pins s σ H x y v u Q I rx ry q=>h pins s σ H x y v u Q I rx ry (hr _ _ _ _ q)
def bS.mono {X:Cx}{f:Value}{r r':List V->Hp->VK->Prop} (h:bS X f r) (hr:∀xs H Q,r' xs H Q->r xs H Q):bS X f r':=fun pins s σ H xs us Q I rx q=>h pins s σ H xs us Q I rx (hr _ _ _ q)
def Qi.mono {X:Cx}{id:String}{r r':V->List V->Hp->VK->Prop} (h:Qi X id r) (hr:∀x xs H Q,r' x xs H Q->r x xs H Q):Qi X id r':=fun pins s σ H x xs v us Q I rx rv q=>h pins s σ H x xs v us Q I rx rv (hr _ _ _ _ q)
def Mt.mono {X:Cx}{r r':Ms} (h:Mt X r) (hr:∀o i v H Q,r' o i v H Q->r o i v H Q):Mt X r':=fun pins s σ H o i v ov iv u Q I ro ri rv q=>h pins s σ H o i v ov iv u Q I ro ri rv (hr _ _ _ _ _ q)
section
variable {X:Cx}{e o:Expr}{es:List Expr}{t:TA}{pos:Pos}
def abt (t:TA):TE:=fun σ H Q=>t σ H fun xs H1=>xs.length<=sizeLine/\mn H1 (.tup xs) Q
def abx (t:TA):TE:=fun σ H Q=>t σ H fun xs H1=>xs.length<=sizeLine/\mn H1 (.lst xs) Q
def U3 {x1} (h:PA X es t):PE X (.Tuple es x1 pos) (abt t):=by
 intro pins s σ H Q I hq;refine wpAny_Tuple_spliced (bD (h pos pins s σ H _ I hq) fun us s1 ⟨xs,H1,I1,r,z,q⟩=>⟨by rw [<- r.length];exact z,?_⟩);have hf:H1 s1.heap.objs.size=none:=I1.bG.fresh (An _);refine⟨.ref s1.heap.objs.size,upd H1 s1.heap.objs.size (.tup xs),I1.laid (t':=s1.toks) (fun b u e=>Aj _ e) (An _) ?_,rfl,q.at _ hf⟩;exact⟨z,us,r,⟨_,Aq _ rfl,rfl,_,rfl⟩⟩
def M5 (h:PA X es t):PE X (.List es pos) (abx t):=by
 intro pins s σ H Q I hq;refine wpAny_List_spliced (bD (h pos pins s σ H _ I hq) fun us s1 ⟨xs,H1,I1,r,z,q⟩=>⟨by rw [<- r.length];exact z,?_⟩);have hf:H1 s1.heap.objs.size=none:=I1.bG.fresh (An _);refine⟨.ref s1.heap.objs.size,upd H1 s1.heap.objs.size (.lst xs),I1.laid (t':=s1.toks) (fun b u e=>Aj _ e) (An _) ?_,rfl,q.at _ hf⟩;exact⟨z,us,0,r,Aq _ rfl⟩
def Ym:TE:=fun _ H Q=>mn H (.dK []) Q
def Rg:PE X (.Dict [] [] pos) Ym:=fun pins s σ H Q I h=>Rf pins s σ H Q I fun p hp=>h.at p hp
def QU (K:Ab):R2:=fun x y H Q=>match x with
 | .int i=>∃j,y=.int j/\Q (.int (i+j)) H
 | .str i=>∃j,y=.str j/\i.length+j.length<=sizeLine/\Q (.str (i++j)) H
 | .ref a=>(∃b xs zs,y=.ref b/\H a=some (.lst xs)/\H b=some (.lst zs)/\xs.length+zs.length<=sizeLine/\mn H (.lst (xs++zs)) Q)\/Xh K x y H Q
 | _=>False
def Vg:ir X (binaryOp .Add) (QU X.K):=by
 refine ((Zb.or KG).or (Za.or Na)).mono fun x y H Q h=>?_;unfold QU at h;cases x with
 | int i=>obtain⟨j,rfl,q⟩:=h;exact .inl (.inl ⟨i,j,rfl,rfl,q⟩)
 | str i=>obtain⟨j,rfl,hl,q⟩:=h;exact .inl (.inr ⟨i,j,rfl,rfl,hl,q⟩)
 | ref a=>
  rcases h with⟨b,xs,zs,rfl,h1,h2,hz,q⟩ | h
  ·exact .inr (.inl ⟨a,b,xs,zs,rfl,rfl,h1,h2,hz,fun p hp=>q.at p hp⟩)
  ·exact .inr (.inr h)
 | _=>exact h.elim
def Vb:ir X (binaryOp .Mult) (rI IntMulOk fun i j=>.int (i*j)):=opI fun _ _ _ _ _ _ _ hc q=>mul_int q hc
def L4:bS X (.type "list") (fun xs H Q=>∃p ys,xs=[.ref p]/\(df X.K H p ys\/dD X.K H p ys)/\mn H (.lst ys) Q):=Hi.mono fun xs H Q ⟨p,ys,e,h,q⟩=>⟨p,ys,e,h,fun l hl=>q.at l hl⟩
def QZ:V->List V->Hp->VK->Prop:=fun x vs H Q=>∃l xs y,x=.ref l/\vs=[y]/\H l=some (.lst xs)/\xs.length < sizeLine/\HN H l (.lst (xs++[y])) (Q .aQ)
def vR:Qi X "list.append" QZ:=OD.mono fun x xs H Q ⟨l,ys,y,e1,e2,h,hz,q⟩=>⟨l,ys,y,e1,e2,h,hz,q.at⟩
def Ou (K:Ab):V->List V->Hp->VK->Prop:=fun x vs H Q=>∃l b xs zs,x=.ref l/\vs=[.ref b]/\H l=some (.lst xs)/\dD K H b zs/\xs.length+zs.length<=sizeLine/\HN H l (.lst (xs++zs)) (Q .aQ)
def IE:Qi X "list.extend" (Ou X.K):=KS.mono fun x xs H Q ⟨l,b,ys,zs,e1,e2,h1,h2,hz,q⟩=>⟨l,b,ys,zs,e1,e2,h1,h2,hz,q.at⟩
def abY:V->List V->Hp->VK->Prop:=fun x vs H Q=>∃l xs y,x=.ref l/\vs=[]/\H l=some (.lst (xs++[y]))/\HN H l (.lst xs) (Q y)
def Vr:Qi X "list.pop" abY:=Zk.mono fun x xs H Q ⟨l,ys,y,e1,e2,h,q⟩=>⟨l,ys++[y],y,e1,e2,h,by simp,by rw [List.dropLast_concat];exact q.at⟩
def YF:Ms:=fun o i v H Q=>∃p xs k j,o=.ref p/\i=.int k/\H p=some (.lst xs)/\qt xs.length k=some j/\HN H p (.lst (xs.set j v)) Q
def rq:Mt X YF:=set_list.mono fun o i v H Q ⟨p,xs,k,j,e1,e2,h,hj,q⟩=>⟨p,xs,k,j,e1,e2,h,hj,q.at⟩
end
section
variable {X:Cx} (K:Ab) (hK:X.K=K) {a e o:Expr}{es:List Expr}{ta to:TE}{t:TA}{pos:Pos}{name:Str}{apos bI:Pos}{T idn:String}{r:V->List V->Hp->VK->Prop}
include hK
def Nr:T5 X (rIx K):=hK▸ZJ
def Vf:ir X (binaryOp .Add) (QU K):=hK▸Vg
def YH (K:Ab):List V->Hp->VK->Prop:=fun xs H Q=>∃x n,xs=[x]/\ad6 K x H n/\Q (.int n) H
def zp:bS X (.builtin "len") (YH K):=hK▸Th
def QW (K:Ab):List V->Hp->VK->Prop:=fun xs H Q=>∃p ys,xs=[.ref p]/\(df K H p ys\/dD K H p ys)/\mn H (.lst ys) Q
def L3:bS X (.type "list") (QW K):=hK▸L4
def ab7 (K:Ab):List V->Hp->VK->Prop:=fun xs H Q=>∃(p:Addr) (bs:List Bool),xs=[.ref p]/\df K H p (bs.map V.bl)/\Q (.bl (bs.all id)) H
def PM (hc:X.calm=true):bS X (.builtin "all") (ab7 K):=hK▸L8 hc
def ab6 (K:Ab):List V->Hp->VK->Prop:=fun xs H Q=>∃(p:Addr) (bs:List Bool),xs=[.ref p]/\df K H p (bs.map V.bl)/\Q (.bl (bs.any id)) H
def PK (hc:X.calm=true):bS X (.builtin "any") (ab6 K):=hK▸L7 hc
def YG (K:Ab):R2:=fun x y H Q=>∃p q xs,x=.ref p/\y=.ref q/\df K H p xs/\df K H q []/\Q (.bl (!xs.isEmpty)) H
def vJ (hu:X.A.units < cLine):ir X (compareOp .NotEq) (YG K):=hK▸Oz hu
def aft (K:Ab) (ta:TE):TT:=fun σ H Q=>ta σ H fun x H'=>∃k,aau K x H' k/\Q k H'
def yU (ha:PE X a ta) (he:∀whole,isTrue a X.env whole=(do let v <- whole;standAt a.pos;holding [v] (truthy v))):PT X a (aft K ta):=hK▸Q1 ha he
def U5 (pa:PlainAttrs T) (slot:Slot T name idn) (Nw:typeOf (.builtin idn)=pure (.type "method_descriptor")) (hm:MtR X idn r) (ho:PE X o to)
  (gA:attributeBase o name X.env (eval o X.env)=eval o X.env:=by rfl) (gz:(apos.endLine==bI.line)=true:=by rfl):PE X (.Call (.Attribute o name apos) [] [] bI) (abD K T r to):=hK▸Y0 pa slot Nw hm ho gA gz
def F4 (pa:PlainAttrs T) (slot:Slot T name idn) (Nw:typeOf (.builtin idn)=pure (.type "method_descriptor")) (hm:MtR X idn r) (ho:PE X o to) (ha:PA X (e::es) t)
  (gA:attributeBase o name X.env (eval o X.env)=eval o X.env:=by rfl)
  (wJ:((backTo bI (starEach (e::es) X.env)).all (fun x=>!x.1)&&(backToKw bI (keywordEach [] X.env)).all (fun x=>x.1.isSome)
   && decide ((e::es).length+([]:List Keyword).length+(if ([]:List Keyword).isEmpty then 0 else 1) < 30))=true:=by rfl)
  (gz:(apos.endLine==bI.line)=true:=by rfl) (hs:starEach (e::es) X.env=(false,eval e X.env)::starEach es X.env:=by rfl) (iK:(backTo bI (starEach es X.env)).any (·.1)=false:=by rfl) :
  PE X (.Call (.Attribute o name apos) (e::es) [] bI) (tBM K T r to t):=hK▸ace pa slot Nw hm ho ha gA wJ gz hs iK
omit hK
end
structure WZ (P:Program) (w:World) (K:Ab) (mg:Str->Option Value) (base:Heap) (x:Str) (k:Nat) (ps:List Str) (sp:Sp) where
 f:Addr
 fd:FuncData
 ok:iQ P w K mg base xW k f fd ps sp
 bi:Binds K fd ps []
 kp:Cw K (.ref f)=true
 at':mg x=some (.ref f)
section
variable {X:Cx}{k k':Nat}{ps:List Str}{sp:Sp}{x:Str}{p pos:Pos}{e:Expr}{es:List Expr}{t:TA}
def abC (sp:Sp) (t:TA):TE:=fun σ H Q=>t σ H fun vs H1=>sp vs H1 Q E0
def Rj (G:WZ X.prog X.w X.K X.mg X.base x k ps sp) (hr:fv k' X.A) (hk:k<=k') (hg:Gl X x) (ha:PA X (e::es) t) (qA:(x==("__debug__":Str))=false:=by decide)
  (he:starEach (e::es) X.env=(false,eval e X.env)::starEach es X.env:=by rfl) (eg:(backTo pos (starEach es X.env)).any (·.1)=false:=by rfl) :
  PE X (.Call (.Name x p) (e::es) [] pos) (abC sp t):=by
 intro pins s σ H Q I h;refine BH (Ni I hg G.at' ?_ qA);refine Fm (h₀:=X.base) I.ok.mod.kin G.kp (bD (ha pos pins s σ H _ I h) fun us s1 ⟨vs,H1,I1,r,q⟩=>⟨I1.yA,?_⟩) he eg;refine QM (dvs:=[]) (ds:=[]) G.ok (hr.mono hk) G.bi .nil Xi I1 r ?_;rw [CJ];exact q
end
section
variable {v:V}
def Tt {α:Type}{xs:List α}{i:Int} (h0:0<=i) (h1:i < xs.length):∃v,cy xs i=some v/\xs[i.toNat]?=some v:=by
 have hk:i.toNat < xs.length:=by omega
 have q:cy xs ((i.toNat:Nat):Int)=some xs[i.toNat]:=cU (by rw [Ad hk]);have e:((i.toNat:Nat):Int)=i:=by omega
 rw [e] at q;exact⟨_,q,by rw [Ad hk]⟩
def Xn {i j:Int} (h1:-18446744073709551616 < i) (h2:i < 18446744073709551616):IntMulOk i j:=W2.ok (.inl ⟨h1,h2⟩)
def mul_r {i j:Int} (h1:-18446744073709551616 < j) (h2:j < 18446744073709551616):IntMulOk i j:=W2.ok (.inr ⟨h1,h2⟩)
end
def a6 {n:Nat} (h:n<=1000):n<=sizeLine:=DH (yS h)
section
variable {X:Cx} (K:Ab) (hK:X.K=K)
include hK
def YJ (K:Ab):R2:=fun x y H Q=>∃p q xs,x=.ref p/\y=.ref q/\df K H p xs/\df K H q []/\Q (.bl xs.isEmpty) H
def vK (hu:X.A.units < cLine):ir X (compareOp .Eq) (YJ K):=by
 subst hK;intro pins s σ H x y v u Q I rx ry h;obtain⟨p,q,xs,rfl,rfl,hp,hq,k⟩:=h;cases rx;cases ry;obtain⟨au,r,pl,hz⟩:=I.list hp;obtain⟨bL,r2,Io,hz2⟩:=I.list hq;cases r2;cases xs with
 | nil=>
  cases r;refine EK (FC (e:=fun _=>true) pl.isList Io.isList rfl hu fun j h1=>absurd h1 (by simp)) ?_;exact⟨.bl true,H,I,rfl,k⟩
 | cons y ys=>
  have hl:=r.length;refine EK (D9 pl.isList Io.isList (by simp at hl ⊢;intro z;subst z;simp at hl) hu) ?_;exact⟨.bl false,H,I,rfl,k⟩
omit hK
end
theorem Vals.Ie:∀{xs:List V}{us:List Value},Vals xs us->Vals xs.reverse us.reverse
 | _,_,.nil=>.nil
 | _,_,.cons h t=>by rw [C2,C2];exact (Vals.Ie t).append (.cons h .nil)
def Zq:typeLookup (.type "list_reverseiterator") (Ce "__len__")=pure none:=by kernel_rfl
def Vu:typeLookup (.type "list_reverseiterator") (Ce "__length_hint__")=pure (some (.builtin "list_reverseiterator.__length_hint__")):=by kernel_rfl
def Uy:splitId "list_reverseiterator.__length_hint__"=some ("list_reverseiterator","__length_hint__"):=by kernel_rfl
def Us:isSubtype (.type "list_reverseiterator") (.type "list_reverseiterator")=pure true:=by kernel_rfl
def Sh {prog:Program}{w:World}{A:Around}{E:Value->Shared->Prop}{s:Shared}{r l:Addr}{i:Int}{Q:Bool->Shared->Prop} (h:s.heap.IsRevIter r l i) (q:Q false s):wpAny (model prog w) A (Builtin.List.listLengthHint (Ax r)) Q E s:=by
 unfold Builtin.List.listLengthHint;refine Aa (Du h.typeIs Zq ?_);refine Aa (Du h.typeIs Vu ?_);dsimp only;rw [Uy];dsimp only;refine Aa (C8 h.typeIs Us ?_);rw [if_neg (by decide)];rw [if_pos (by decide)];rw [if_neg (by decide)];exact Ag q
def yt {prog:Program}{w:World}{A:Around}{s:Shared}{R:Result->Shared->Prop}{r l S:Addr}{items:Array Value} (hA:A.handled=none) (h:s.heap.IsRevIter r l (items.size-1)) (hl:s.heap.IsList l items) (Sf:l≠r) (hSr:S≠r) (hSl:S≠l) (hz:items.size<=sizeLine)
  (hS:s.heap.get? S=some {cls:=BP "list",data:=EZ #[]})
  (q:∀(h':Heap) (tk:Nat) (acc:Array Value) (c:Nat),(∀b o,b≠S->b≠r->s.heap.get? b=some o->h'.get? b=some o)->h'.get? S=some {cls:=BP "list",data:=EZ acc c}->ItemsOf (fun i v=>items[items.size-1-i]?=some v) acc items.size->R (.ok (.ret .none)) {s with heap:=h',toks:=tk}) :
  wpAny (model prog w) A.in1 (Builtin.«list.__init__» {pos:=[Ax S,Ax r]})
   (fun fin s'=>match fin with | FH f=>R (Except.ok f) s' | Fin.again c'=>c'.quiet=true/\codeAny (model prog w) A c' R s') (fun e s'=>R (Except.error e) s') s:=by
 unfold Builtin.«list.__init__»;dsimp only;rw [if_neg (by decide),if_neg (by simp)];refine Aa (wpAny_listItems hS rfl ?_);refine Aa ?_;unfold Builtin.List.listUpdate;dsimp only;refine Ds hS rfl ?_ (by simp) (by simp);refine Aa (Dj ?_);have k1:∀b o,b≠S->s.heap.get? b=some o->(s.heap.update S (Be fun _=>#[])).get? b=some o:=fun b o hb e=>by rw [CV _ _ (BF hb)];exact e
 have hS1:=Cq (Be fun _=>#[]) hS rfl;generalize s.heap.update S (Be fun _=>#[])=h1 at k1 hS1 ⊢;have hr1:h1.IsRevIter r l (items.size-1):=let ⟨o,e,p⟩:=h;⟨o,k1 _ _ (BF hSr) e,p⟩;have hl1:h1.IsList l items:=let ⟨o,e,p⟩:=hl;⟨o,k1 _ _ (BF hSl) e,p⟩;unfold Builtin.List.listExtendWith;refine Aa (Cf (T:="list_reverseiterator") hr1.typeIs ?_);rw [if_neg (by
  have e1:Builtin.List.listSameRef (Ax S) (Ax r)=false:=by
   unfold Builtin.List.listSameRef;simpa using hSr
  rw [e1];decide)]
 refine Aa (wpAny_pyIter_revIter hr1 ?_);refine Aa (A9 (Sh hr1 ?_));rw [if_neg (by decide)];refine Ag ⟨plainId_quiet F.plain_extend_loop _,?_⟩;refine codeAny_extend_loopS (Walks.toS (Walks.listRev (A:=A.in1) hA r l Sf items)) hz S (by simp [hSr,hSl]) .none items.size 0 _ #[] _ (DG _) (A3 _) ⟨A3 _,by simpa using hr1,hl1⟩ hS1 (ItemsOf.nil _) ?_;intro s' acc c mv e io;rw [mv.eq_with];exact q s'.heap s'.toks acc c (fun b o n1 n2 e'=>mv.heap b o (by simp [n1,n2]) (k1 b o n1 e')) e io
def yJ {prog:Program}{w:World}{A:Around}{E:Value->Shared->Prop}{s:Shared}{r l:Addr}{items:Array Value}{Q:Value->Shared->Prop} (hA:A.handled=none) (h:s.heap.IsRevIter r l (items.size-1)) (hl:s.heap.IsList l items) (Sf:l≠r) (hz:items.size<=sizeLine)
  (q:∀(h':Heap) (tk:Nat) (acc:Array Value) (c:Nat),(∀b o,b≠r->s.heap.get? b=some o->h'.get? b=some o)->h'.get? s.heap.objs.size=some {cls:=BP "list",data:=EZ acc c}->ItemsOf (fun i v=>items[items.size-1-i]?=some v) acc items.size->Q (.ref s.heap.objs.size) {s with heap:=h',toks:=tk}) :
  wpAny (model prog w) A (call (BP "list") [Ax r]) Q E s:=by
 have lr:r < s.heap.objs.size:=let ⟨_,e,_⟩:=h;Ar e;have ll:l < s.heap.objs.size:=let ⟨_,e,_⟩:=hl;Ar e;refine callType_codes F.called_list (F.typeCall_list_1 _) F.entry_list_init (code_list_new (Q₁:=fun v s₁=>v=.ref s.heap.objs.size/\s₁={s with heap:=s.heap.push {cls:=BP "list",data:=EZ #[]}}) _ ⟨rfl,rfl⟩) ?_;rintro obj s₁ ⟨rfl,rfl⟩;refine⟨⟨_,Aq _ rfl,rfl⟩,F.args_list_init_2 _ _,?_⟩;have kp:∀b o,s.heap.get? b=some o->(s.heap.push {cls:=BP "list",data:=EZ #[]}).get? b=some o:=fun b o e=>Aj _ e;refine yt (A:=A.in1) (items:=items) (l:=l) hA (let ⟨o,e,p⟩:=h;⟨o,kp _ _ e,p⟩) (let ⟨o,e,p⟩:=hl;⟨o,kp _ _ e,p⟩) Sf (fun z=>by rw [z] at lr;exact A4 _ lr) (fun z=>by rw [z] at ll;exact A4 _ ll) hz (Aq _ rfl) ?_;intro h' tk acc c k e io;exact⟨rfl,q h' tk acc c (fun b o n e'=>k b o (fun z=>by rw [z] at e';exact A4 _ (Ar e')) n (kp b o e')) e io⟩
def tLR (K:Ab) (te:TE):TE:=fun σ H Q=>te σ H fun x H1=>∃p ys,x=.ref p/\df K H1 p ys/\mn H1 (.lst ys.reverse) Q
section
variable {X:Cx} (K:Ab) (hK:X.K=K) {e:Expr}{te:TE}{p1 p2 q1 q2:Pos}
include hK
def KD (hc:X.calm=true) (hg1:Gl X "list") (hm1:X.mg "list"=none) (hg2:Gl X "reversed") (hm2:X.mg "reversed"=none) (he:PE X e te)
  (Je:starEach [.Call (.Name "reversed" q1) [e] [] q2] X.env=(false,eval (.Call (.Name "reversed" q1) [e] [] q2) X.env)::starEach [] X.env:=by rfl) (uR:starEach [e] X.env=(false,eval e X.env)::starEach [] X.env:=by rfl) :
  PE X (.Call (.Name "list" p1) [.Call (.Name "reversed" q1) [e] [] q2] [] p2) (tLR K te):=by
 intro pins s σ H Q I h;subst hK;refine BH (kH I hg1 hm1 boot_list ?_ (by decide) (by decide));refine Bh ?_ Je rfl;rw [Je];show wpAny _ _ (spliced ((false,eval (.Call (.Name "reversed" q1) [e] [] q2) X.env)::backTo p2 (starEach [] X.env))) _ _ s;refine B9 ?_;refine BH (kH I hg2 hm2 boot_reversed ?_ (by decide) (by decide));refine Bh ?_ uR rfl;rw [uR];show wpAny _ _ (spliced ((false,eval e X.env)::backTo q2 (starEach [] X.env))) _ _ s;refine B9 (bD (he pins s σ H _ I h) fun u s1 ⟨x,H1,I1,r1,pa,ys,ex,hS,q⟩=>Ct ?_);subst ex;cases r1;obtain⟨au,rv,pl,hz⟩:=I1.list hS;have hlen:=rv.length;have lp:pa < s1.heap.objs.size:=let ⟨_,e,_⟩:=pl.isList;Ar e;refine call_reversed_list pl.isList ?_;refine Ct ?_;have kp:∀b o,s1.heap.get? b=some o->(s1.heap.push (revObj pa (au.toArray.size-1))).get? b=some o:=fun b o e=>Aj _ e;refine yJ (items:=au.toArray) (l:=pa) (r:=s1.heap.objs.size) (I1.ok.hd hc) ⟨_,Aq _ rfl,rfl,rfl⟩ (let ⟨o,e,p⟩:=pl.isList;⟨o,kp _ _ e,p⟩) (fun z=>by rw [z] at lp;exact A4 _ lp) (by rw [Ah];omega) ?_;intro h' tk acc c k e io;have kk:∀b o,s1.heap.get? b=some o->h'.get? b=some o:=fun b o eb=>k b o (fun z=>by rw [z] at eb;exact A4 _ (Ar eb)) (kp b o eb);have ea:acc=au.reverse.toArray:=by
  obtain⟨z1,z2⟩:=io;apply Array.ext
  ·rw [z1,Ah,Ah,CF]
  ·intro j h1 h2;have:=z2 j acc[j] (CC h1);rw [Ah] at this;have hj:j < au.length:=by rw [z1,Ah] at h1;exact h1
   rw [EU] at this;have e3:au.reverse[j]?=some acc[j]:=by rw [List.getElem?_reverse hj];exact this
   rw [Dk];exact (Option.some.inj (((Ad (by rw [CF];exact hj)).symm.trans e3))).symm
 subst ea;have uR:s1.heap.objs.size<=(s1.heap.push (revObj pa (au.toArray.size-1))).objs.size:=by simp [Heap.push]
 refine⟨.ref _,upd H1 _ (.lst ys.reverse),I1.laid (t':=tk) kk uR ?_,rfl,q.at _ (I1.bG.fresh uR)⟩;exact⟨by rw [CF];exact hz,au.reverse,c,rv.Ie,e⟩
end
end L2
namespace My
open PySem PySem.Spec PyProof.Rows L2
def Wd (x:Str):Prop:=1<=x.length/\x.length<=8/\∀c∈x.cps.toList,97<=c/\c < 123
def Part (x:Str) (n:Nat):Prop:=x.length<=n/\∀c∈x.cps.toList,97<=c/\c < 123
def Part.append {x y:Str}{m n:Nat} (a:Part x m) (b:Part y n):Part (x++y) (m+n):=by
 refine⟨?_,fun c hc=>?_⟩
 ·rw [CU];have:=a.1;have:=b.1;omega
 ·rw [EY,Array.toList_append] at hc;rcases Bj.mp hc with h | h
  ·exact a.2 c h
  ·exact b.2 c h
def yw {d st:Int} (h:st=1\/st=3\/st=5\/st=7\/st=9\/st=11) {n:Nat} (hn:n<=26):((Av n).map fun k:Nat=>some (97+((d+st*(0+(k:Int))) % 26).toNat)).Nodup:=by
 unfold List.Nodup;rw [D7];refine List.Pairwise.imp_of_mem ?_ C3;intro a b ha hb XJ hz;have hb':=AE.mp hb;have LB:=Option.some.inj hz;rcases h with rfl | rfl | rfl | rfl | rfl | rfl <;> omega
def Gg {α β:Type}{g:α->β}{l:List α} (h:(l.map g).Nodup):l.Nodup:=(D7.mp h).imp fun h e=>h (congrArg g e)
def N4 (x y:Str) (c:Nat):(x++⟨#[c]⟩++y).cps[x.length]?=some c:=by
 rw [EY,EY];show ((x.cps++#[c])++y.cps)[x.cps.size]?=some c;rw [Array.getElem?_append_left (by simp),Array.getElem?_append_right (An _)];simp
def K7:∀k:_root_.Fin 26,cy ("abcdefghijklmnopqrstuvwxyz":Str).cps.toList (k.val:Int)=some (97+k.val):=by decide +kernel
def OG {n:Int} (h0:0<=n) (h1:n < 26):cy ("abcdefghijklmnopqrstuvwxyz":Str).cps.toList n=some (97+n.toNat):=by
 have e:=K7 ⟨n.toNat,by omega⟩;have e2:((n.toNat:Nat):Int)=n:=by omega
 rw [e2] at e;exact e
def Ro {c:Nat} (h0:97<=c) (h1:c < 123):Part ⟨#[c]⟩ 1:=by
 refine⟨An _,fun d hd=>?_⟩;have:d=c:=by simpa using hd
 subst this;exact⟨h0,h1⟩
inductive Tr where
 | leaf (x:Str)
 | node (l r:Tr)
def Tr.aG:Tr->List Str
 | .leaf x=>[x]
 | .node l r=>l.aG++r.aG
def Tr.size:Tr->Nat
 | .leaf _=>1
 | .node l r=>l.size+r.size+1
def Tr.depth:Tr->Nat
 | .leaf _=>0
 | .node l r=>max l.depth r.depth+1
def Tr.Ws (t:Tr):Prop:=∀x∈t.aG,Wd x
def Tr.oD:∀t:Tr,1<=t.aG.length
 | .leaf _=>An _
 | .node l r=>by have:=l.oD;show 1<=(l.aG++r.aG).length;rw [Ae];omega
def Tr.qM:∀t:Tr,t.depth < t.aG.length
 | .leaf _=>C9 0
 | .node l r=>by
  have h1:=l.qM;have h2:=r.qM;have h3:=l.oD;have h4:=r.oD;show max l.depth r.depth+1 < (l.aG++r.aG).length;rw [Ae];omega
def Tr.size_eq:∀t:Tr,t.size+1=2*t.aG.length
 | .leaf _=>rfl
 | .node l r=>by
  have h1:=l.size_eq;have h2:=r.size_eq;show l.size+r.size+1+1=2*(l.aG++r.aG).length;rw [Ae];omega
def wF:∀k:_root_.Fin 26,(!(Builtin.Str.occurrences ("abcdefghijklmnopqrstuvwxyz":Str) ⟨#[97+k.val]⟩ 0 ("abcdefghijklmnopqrstuvwxyz":Str).length 1).isEmpty)=true:=by decide +kernel
def Ly {c:Nat} (h0:97<=c) (h1:c < 123):(!(Builtin.Str.occurrences ("abcdefghijklmnopqrstuvwxyz":Str) ⟨#[c]⟩ 0 ("abcdefghijklmnopqrstuvwxyz":Str).length 1).isEmpty)=true:=by
 have e:=wF ⟨c-97,by omega⟩;have e2:97+(c-97)=c:=by omega
 simp only [e2] at e;exact e
def cG (ts:List Tr):Nat:=(ts.map Tr.size).sum
def bM (a b:List Tr):cG (a++b)=cG a+cG b:=by unfold cG;rw [A6,List.sum_append]
def fD (t:Tr):cG [t]=t.size:=by simp [cG]
def Tr.size_pos:∀t:Tr,1<=t.size
 | .leaf _=>An _
 | .node l r=>by show 1<=l.size+r.size+1;omega
theorem rT:∀ts:List Tr,ts.length<=cG ts
 | []=>An _
 | t::r=>by have:=rT r;have:=t.size_pos;show r.length+1<=t.size+cG r;omega
def Tr.post:Tr->List Tr
 | .leaf x=>[.leaf x]
 | .node l r=>l.post++r.post++[.node l r]
def Tr.mj:∀t:Tr,t.post.length=t.size
 | .leaf _=>rfl
 | .node l r=>by show (l.post++r.post++[_]).length=l.size+r.size+1;rw [Ae,Ae,l.mj,r.mj];rfl
def jN (ts:List Tr):List Tr:=(ts.map Tr.post).flatten
def kz (a b:List Tr):jN (a++b)=jN a++jN b:=by unfold jN;rw [A6,List.flatten_append]
def rD (t:Tr):jN [t]=t.post:=by simp [jN]
def Ov (t u:Tr):jN [t,u]=t.post++u.post:=by simp [jN]
inductive Ent where
 | word (x:Str)
 | pair (a b:Nat)
def Tr.nd:Tr->Nat->List Ent
 | .leaf x,_=>[.word x]
 | .node l r,o=>l.nd o++r.nd (o+l.size)++[.pair (o+l.size-1) (o+l.size+r.size-1)]
def Tr.bo:∀(t:Tr) (o:Nat),(t.nd o).length=t.size
 | .leaf _,_=>rfl
 | .node l r,o=>by show (l.nd o++r.nd (o+l.size)++[_]).length=l.size+r.size+1;rw [Ae,Ae,l.bo,r.bo];rfl
def run:List Tr->List Ent->List Nat->Option (List Ent×List Nat)
 | [],told,ls=>some (told,ls)
 | .leaf x::k,told,ls=>run k (told++[.word x]) (told.length::ls)
 | .node _ _::k,told,b::a::ls=>run k (told++[.pair a b]) (told.length::ls)
 | .node _ _::_,_,_=>none
theorem vD:∀(t:Tr) (k:List Tr) (told:List Ent) (ls:List Nat),run (t.post++k) told ls=run k (told++t.nd told.length) ((told.length+t.size-1)::ls)
 | .leaf x,k,told,ls=>rfl
 | .node l r,k,told,ls=>by
  have e1:(Tr.node l r).post++k=l.post++(r.post++(Tr.node l r::k)):=by show l.post++r.post++[_]++k=_;simp
  rw [e1,vD l,vD r];have e2:(told++l.nd told.length).length=told.length+l.size:=by rw [Ae,l.bo]
  rw [e2];show run k _ _=run k _ _;have e3:(told++l.nd told.length++r.nd (told.length+l.size)).length=told.length+(Tr.node l r).size-1:=by
   rw [Ae,Ae,l.bo,r.bo];show _=told.length+(l.size+r.size+1)-1;omega
  rw [e3];have e4:told++(Tr.node l r).nd told.length=told++l.nd told.length++r.nd (told.length+l.size)++[.pair (told.length+l.size-1) (told.length+l.size+r.size-1)]:=by
   show told++(l.nd told.length++r.nd (told.length+l.size)++[_])=_;simp
  rw [e4]
def Oq (t:Tr):run t.post [] []=some (t.nd 0,[t.size-1]):=by
 have:=vD t [] [] [];rw [CJ] at this;rw [this];show some ([]++t.nd 0,[0+t.size-1])=_;simp
end My
namespace L2
open PySem PySem.Spec PyProof.Rows
def iY {prog:Program}{w:World}{A:Around}{E:Value->Shared->Prop}{s:Shared}{it t:Addr}{i:Nat}{items:Array Value}{x:Value}{Q:Value->Shared->Prop} (h:s.heap.IsTupleIter it t i) (ht:s.heap.IsTuple t items) (hx:items[i]?=some x)
  (q:∀h':Heap,h'.IsTupleIter it t (i+1)->B3 it s.heap h'->Q x {s with heap:=h'}):wpAny (model prog w) A (Builtin.SmallTypes.nextOf (.ref it)) Q E s:=by
 unfold Builtin.SmallTypes.nextOf;refine Aa (AW h.typeIs B8 (Bb B8 h.typeIs DE ?_ (Dq _)));obtain⟨o,ho,hc,hd⟩:=id h;obtain⟨ot,hot,htc,n,htd⟩:=id ht;show wpAny _ _ (field (.ref it) 0 >>= fun seq=>_) _ _ s;refine Aa (AY ho hd rfl ?_);show wpAny _ _ (field (.ref it) 1 >>= fun seq=>_) _ _ s;refine Aa (AY ho hd rfl ?_);show wpAny _ _ (seqItems? (.ref t) >>= fun seq=>_) _ _ s;refine Aa (BC hot htd ?_);show wpAny _ _ (match items[i]? with | some x=>(do setField (.ref it) 1 (rawInt ((i:Int)+1));ret x) | none=>_) _ _ s;rw [hx];refine Aa (DR ho hd (show 1 < 2 by decide) ?_);refine Ag ⟨x,rfl,Ag (q _ ⟨_,Cq _ ho (by rw [ER (CN hd _)]),by rw [Obj.cls_mapFields];exact hc,by rw [CN hd];rfl⟩ (B3.update ..))⟩
def Uu {prog:Program}{w:World}{A:Around}{E:Value->Shared->Prop}{s:Shared}{α:Type}{Q:α->Shared->Prop} (hA:A.handled=none)
  (q:∀(h':Heap) (e:Addr),(∀b o,s.heap.get? b=some o->h'.get? b=some o)->(∃o,h'.get? e=some o/\o.cls=.type "StopIteration")->E (.ref e) {s with heap:=h'}):wpAny (model prog w) A (Builtin.SmallTypes.stopIteration (α:=α)) Q E s:=by
 unfold Builtin.SmallTypes.stopIteration newExc;refine Aa ?_;refine Aa (Cz ?_ (by show 0<=sizeLine;decide));refine Aa (Cn (a:=AQ) rfl ?_);refine Bn ?_ (sizeOk_excFields ..);unfold raiseNew;refine Aa (wpAny_handled ?_);rw [hA];refine wpAny_throw (q _ _ (fun b o e=>Aj _ (Aj _ e)) ⟨_,Aq _ rfl,rfl⟩)
def jS {prog:Program}{w:World}{A:Around}{E:Value->Shared->Prop}{s:Shared}{it t:Addr}{i:Nat}{items:Array Value}{Q:Value->Shared->Prop} (hA:A.handled=none) (h:s.heap.IsTupleIter it t i) (ht:s.heap.IsTuple t items) (hx:items[i]?=none)
  (q:∀(h':Heap) (e:Addr),FE it s.heap h'->(∃o,h'.get? e=some o/\o.cls=.type "StopIteration")->E (.ref e) {s with heap:=h'}):wpAny (model prog w) A (Builtin.SmallTypes.nextOf (.ref it)) Q E s:=by
 unfold Builtin.SmallTypes.nextOf;refine Aa (AW h.typeIs B8 (Bb B8 h.typeIs DE ?_ (Dq _)));obtain⟨o,ho,hc,hd⟩:=id h;obtain⟨ot,hot,htc,n,htd⟩:=id ht;show wpAny _ _ (field (.ref it) 0 >>= fun seq=>_) _ _ s;refine Aa (AY ho hd rfl ?_);show wpAny _ _ (field (.ref it) 1 >>= fun seq=>_) _ _ s;refine Aa (AY ho hd rfl ?_);show wpAny _ _ (seqItems? (.ref t) >>= fun seq=>_) _ _ s;refine Aa (BC hot htd ?_);show wpAny _ _ (match items[i]? with | some x=>(do setField (.ref it) 1 (rawInt ((i:Int)+1));ret x) | none=>(do rule _;setField (.ref it) 0 .none;Builtin.SmallTypes.stopIteration)) _ _ s;rw [hx];refine Aa (CO ?_);refine Aa (DR ho hd (show 0 < 2 by decide) ?_);refine Uu (A:=A.in1) hA fun h' e k ex=>q h' e (fun b o n eb=>k b o ?_) ex;rw [(B3.update _ _ _).2 b n];exact eb
def Inv.vh {X:Cx}{pins:List (Addr×Obj)}{σ:L2.St}{H:Hp}{s:Shared}{h':Heap}{t':Nat}{ch:List Addr}{a:Addr}{o:HO} (I:Inv X pins σ H s) (hf:∀b∈ch,yN X pins H b) (k:∀b u,b∉ch->s.heap.get? b=some u->h'.get? b=some u)
  (hp:s.heap.objs.size<=a) (new:bj X.prog X.w (upd H a o) h' a o):Inv X pins σ (upd H a o) {s with heap:=h',toks:=t'}:=by
 have hn:=I.bG.fresh hp;have Xm:∀b u,H b=some u->b∉ch:=fun b u e z=>by rw [(hf b z).1] at e;cases e
 have nL:X.env.locals∉ch:=fun z=>(hf _ z).2.1 rfl;refine I.step (g':=s.gens) (d':=s.drawn) (ch:=ch) (fun b hb=>⟨(hf b hb).2.2.2.1,(hf b hb).2.1,(hf b hb).2.2.2.2.1,(hf b hb).2.2.2.2.2⟩) (fun b u _ _ hc e _=>k b u hc e) (fun b u _ _ hc e _=>⟨u.slots,k b u hc e⟩)
  (fun b u _ e n=>by rw [ay (AI (AA (Ar e) hp))];exact n) (fun b u hc e=>⟨u,k b u hc e⟩) (fun b xs e=>by rw [ay (bK e hn)];exact e) (fun b u xs e=>by rw [ay (bK e hn)];exact e)
  (fun b ps e=>⟨#[],by rw [ay (bK e hn),e];simp⟩) (fun m hm=>?_) (fun b u e=>?_) I.bare
 ·obtain⟨o',es,ep,ho,r⟩:=hm;exact⟨o',es,ep,k _ o' nL ho,r⟩
 ·by_cases hb:b=a
  ·subst hb;rw [aR] at e;cases e;exact new
  ·rw [ay hb] at e;refine (I.bG b u e).FK (fun c v hc q=>k c v ?_ q) (fun c q=>by rw [ay (bK q hn)];exact q) fun c xs q=>by rw [ay (bK q hn)];exact q
   rcases hc with z | z
   ·rw [z];exact Xm b u e
   ·exact Xm c _ z
def Inv.zU {X:Cx}{pins:List (Addr×Obj)}{σ:L2.St}{H:Hp}{s:Shared}{h':Heap}{t':Nat}{ch:List Addr} (I:Inv X pins σ H s) (hf:∀b∈ch,yN X pins H b) (k:∀b u,b∉ch->s.heap.get? b=some u->h'.get? b=some u) :
  Inv X pins σ H {s with heap:=h',toks:=t'}:=by
 have Xm:∀b u,H b=some u->b∉ch:=fun b u e z=>by rw [(hf b z).1] at e;cases e
 have nL:X.env.locals∉ch:=fun z=>(hf _ z).2.1 rfl;refine I.step (g':=s.gens) (d':=s.drawn) (ch:=ch) (fun b hb=>⟨(hf b hb).2.2.2.1,(hf b hb).2.1,(hf b hb).2.2.2.2.1,(hf b hb).2.2.2.2.2⟩) (fun b u _ _ hc e _=>k b u hc e) (fun b u _ _ hc e _=>⟨u.slots,k b u hc e⟩)
  (fun _ _ _ _ n=>n) (fun b u hc e=>⟨u,k b u hc e⟩) (fun _ _ e=>e) (fun _ _ _ e=>e) (fun b ps e=>⟨#[],by rw [e];simp⟩) (fun m hm=>?_) (fun b u e=>?_) I.bare
 ·obtain⟨o',es,ep,ho,r⟩:=hm;exact⟨o',es,ep,k _ o' nL ho,r⟩
 ·refine (I.bG b u e).FK (fun c v hc q=>k c v ?_ q) (fun _ q=>q) fun _ _ q=>q;rcases hc with z | z
  ·rw [z];exact Xm b u e
  ·exact Xm c _ z
def lU {xs:List V}{us:List Value} (h:Vals xs us):∀{i:Nat}{x:V},xs[i]?=some x->∃u,us[i]?=some u/\RelV x u:=by
 induction h with
 | nil=>intro i x e;simp at e
 | cons r t ih=>
  intro i x e;cases i with
  | zero=>simp at e;subst e;exact⟨_,rfl,r⟩
  | succ i=>exact ih (by simpa using e)
def uz {prog:Program}{w:World}{A:Around}{E:Value->Shared->Prop}{s:Shared}{e it t:Addr}{i:Nat}{old:Value}{items:Array Value}{x:Value}{Q:Value->Shared->Prop} (Qf:e≠it) (hte:t≠e) (VV:t≠it)
  (hz:IsEnum s.heap e it i old) (hi:s.heap.IsTupleIter it t i) (ht:s.heap.IsTuple t items) (hx:items[i]?=some x)
  (q:∀(h':Heap) (tk:Nat),IsEnumOut h' e it (i+1:Nat) x s.heap.objs.size->h'.IsTupleIter it t (i+1)->IsPair h' s.heap.objs.size (.int i s.toks) x->(∀c o,c≠e->c≠it->s.heap.get? c=some o->h'.get? c=some o)->Q (.ref s.heap.objs.size) {s with heap:=h',toks:=tk}) :
  wpAny (model prog w) A (Builtin.«enumerate.__next__» {pos:=[.ref e]}) (fun fin s'=>∃v,fin=FH (FG v)/\Q v s') E s:=by
 show wpAny _ _ (field (.ref e) 2 >>= fun r=>_) _ _ s;refine Aa (AY hz rfl rfl ?_);show wpAny _ _ (Builtin.SmallTypes.nextOf (.ref it) >>= fun r=>_) _ _ s;refine Aa (iY hi ht hx fun h1 j1 b1=>?_);have z1:IsEnum h1 e it i old:=(b1.2 _ Qf).trans hz;refine Aa (AY z1 rfl rfl ?_);show wpAny _ _ (field (.ref e) 4 >>= fun r=>_) _ _ _;refine Aa (AY z1 rfl rfl ?_);show wpAny _ _ (mkInt i >>= fun r=>_) _ _ _;refine Aa (wpAny_mkInt ?_);refine Aa (A1 z1 (show 3 < 6 by decide) fun h2 z2 b2=>?_);refine Aa (A1 z2 (show 4 < 6 by decide) fun h3 z3 b3=>?_);have sz3:h3.objs.size=s.heap.objs.size:=b3.1.trans (b2.1.trans b1.1);have get3:∀b,b≠e->b≠it->h3.get? b=s.heap.get? b:=fun b n1 n2=>(b3.2 b n1).trans ((b2.2 b n1).trans (b1.2 b n2));refine Aa (Cz ?_ (by show 2<=sizeLine;decide));have kp:∀b o,h3.get? b=some o->(h3.push {cls:=.type "tuple",data:=.seq [DK i s.toks,x].toArray}).get? b=some o:=fun b o e=>Aj _ e;have Zi:(h3.push {cls:=.type "tuple",data:=.seq [DK i s.toks,x].toArray}).get? h3.objs.size=some {cls:=.type "tuple",data:=.seq #[.int i s.toks,x]}:=Aq _ rfl;generalize h3.push {cls:=.type "tuple",data:=.seq [DK i s.toks,x].toArray}=h4 at kp Zi ⊢;have z4:h4.get? e=some {cls:=.type "enumerate",data:=.fields #[.none,.bool false,.ref it,rawInt (i+1),.none,old]}:=kp _ _ z3;refine Aa ?_;unfold Builtin.SmallTypes.ownedTupleIsFree;refine Aa (AY z4 rfl rfl ?_);refine Ag ?_;show wpAny _ _ (rule "enumerate.__next__.owned-tuple-again" >>= fun r=>_) _ _ _;refine Aa (CO ?_);refine Aa (AY z4 rfl rfl ?_);refine Aa (A1 z4 (show 5 < 6 by decide) fun h5 z5 b5=>?_);refine Aa ?_;show wpAny _ _ (setField (.ref e) 0 (rawInt h3.objs.size) >>= fun _=>setField (.ref e) 1 (.bool false)) _ _ _;refine Aa (A1 z5 (show 0 < 6 by decide) fun h6 z6 b6=>?_);refine A1 z6 (show 1 < 6 by decide) fun h7 z7 b7=>?_;refine Aa (Dj ?_);have ZX:∀b,b≠e->h7.get? b=h4.get? b:=fun b n=>(b7.2 b n).trans ((b6.2 b n).trans (b5.2 b n));have ne:s.heap.objs.size≠e:=fun z=>by have:=Ar hz;rw [<- z] at this;exact A4 _ this
 refine Ag ⟨.ref h3.objs.size,rfl,?_⟩;rw [sz3] at z7 Zi ⊢;refine q h7 _ ?_ ?_ ?_ ?_
 ·exact z7
 ·obtain⟨o,eo,p⟩:=j1;refine⟨o,?_,p⟩;rw [ZX _ (BF Qf)];exact kp _ _ ((b3.2 _ (BF Qf)).trans ((b2.2 _ (BF Qf)).trans eo))
 ·rw [IsPair,ZX _ ne];exact Zi
 ·intro c o n1 n2 ec;rw [ZX _ n1];exact kp _ _ ((get3 _ n1 n2).trans ec)
def w6 {prog:Program}{w:World}{A:Around}{E:Value->Shared->Prop}{s:Shared}{e it t:Addr}{i:Nat}{old:Value}{items:Array Value}{Q:PySem.Fin->Shared->Prop} (hA:A.handled=none)
  (hz:IsEnum s.heap e it i old) (hi:s.heap.IsTupleIter it t i) (ht:s.heap.IsTuple t items) (hx:items[i]?=none)
  (q:∀(h':Heap) (x:Addr),(∀c o,c≠it->s.heap.get? c=some o->h'.get? c=some o)->(∃o,h'.get? x=some o/\o.cls=.type "StopIteration")->E (.ref x) {s with heap:=h'}) :
  wpAny (model prog w) A (Builtin.«enumerate.__next__» {pos:=[.ref e]}) Q E s:=by
 show wpAny _ _ (field (.ref e) 2 >>= fun r=>_) _ _ s;refine Aa (AY hz rfl rfl ?_);show wpAny _ _ (Builtin.SmallTypes.nextOf (.ref it) >>= fun r=>_) _ _ s;exact Aa (jS hA hi ht hx fun h' x k ex=>q h' x (fun c o n e'=>k c o n e') ex)
def pX {prog:Program}{w:World}{A:Around}{E:Value->Shared->Prop}{s:Shared}{e it t:Addr}{i:Nat}{old:Value}{items:Array Value}{x:Value}{Q:Option Value->Shared->Prop} (Qf:e≠it) (hte:t≠e) (VV:t≠it)
  (hz:IsEnum s.heap e it i old) (hi:s.heap.IsTupleIter it t i) (ht:s.heap.IsTuple t items) (hx:items[i]?=some x)
  (q:∀(h':Heap) (tk:Nat),IsEnumOut h' e it (i+1:Nat) x s.heap.objs.size->h'.IsTupleIter it t (i+1)->IsPair h' s.heap.objs.size (.int i s.toks) x->(∀c o,c≠e->c≠it->s.heap.get? c=some o->h'.get? c=some o)->Q (some (.ref s.heap.objs.size)) {s with heap:=h',toks:=tk}) :
  wpAny (model prog w) A (pyNext (.ref e)) Q E s:=by
 have ty:s.TypeIs (.ref e) "enumerate":=⟨_,hz,rfl⟩;unfold pyNext;refine Aa (CI (AW ty Cr (Bb Cr ty Ew ?_ (Eh _))));exact uz Qf hte VV hz hi ht hx fun h' tk a b c d=>Ag (q h' tk a b c d)
def rC {prog:Program}{w:World}{A:Around}{E:Value->Shared->Prop}{s:Shared}{e it t:Addr}{i:Nat}{old:Value}{items:Array Value}{Q:Option Value->Shared->Prop} (hA:A.handled=none)
  (hz:IsEnum s.heap e it i old) (hi:s.heap.IsTupleIter it t i) (ht:s.heap.IsTuple t items) (hx:items[i]?=none)
  (q:∀h':Heap,(∀c o,c≠it->s.heap.get? c=some o->h'.get? c=some o)->Q none {s with heap:=h'}) :
  wpAny (model prog w) A (pyNext (.ref e)) Q E s:=by
 have ty:s.TypeIs (.ref e) "enumerate":=⟨_,hz,rfl⟩;unfold pyNext;refine Aa (CI (AW ty Cr (Bb Cr ty Ew ?_ (Eh _))));refine w6 (A:=A.in1) hA hz hi ht hx fun h' x k ex=>?_;obtain⟨o,eo,hc⟩:=ex;refine Aa (C8 (T:="StopIteration") ⟨o,eo,hc⟩ isSubtype_stop ?_);rw [if_pos rfl];exact Ag (q h' k)
def ue (t:Addr) (items:Array Value):Meets (Builtin.«enumerate.__new__» {pos:=[.type "enumerate",.ref t]}) (fun _ R s=>s.heap.IsTuple t items/\
  ∀h':Heap,IsEnum h' (s.heap.objs.size+1) s.heap.objs.size (0:Nat) .none->h'.IsTupleIter s.heap.objs.size t 0->(∀b o,s.heap.get? b=some o->h'.get? b=some o)->R (.ok (.ret (.ref (s.heap.objs.size+1)))) {s with heap:=h'}):=
 .of_wp fun prog w A R s h=>by
  obtain⟨h1,q⟩:=h;unfold Builtin.«enumerate.__new__»;refine Aa ?_;unfold Builtin.SmallTypes.newClass;refine Aa (Cn (a:=true) rfl ?_);rw [if_neg (by decide)];refine Aa (Cn sub_enumerate ?_);rw [if_neg (by decide)];refine Ag ?_;show wpAny _ _ (Builtin.SmallTypes.calledThroughType (.type "enumerate") >>= fun r=>_) _ _ s;refine Aa ?_;unfold Builtin.SmallTypes.calledThroughType;refine Aa (wpAny_stack_any fun st=>Ag ?_);have fin:wpAny (model prog w) A.in1 (pyIter (.ref t) >>= fun it=>(Builtin.SmallTypes.newRecord (.type "enumerate") (Builtin.SmallTypes.ownedTupleFields++[it,rawInt 0,.none,.none]) >>= fun r=>ret r)) (fun fin s'=>∃v,fin=FH (FG v)/\R (Except.ok (FG v)) s') (fun e s'=>R (Except.error e) s') s:=by
   refine Aa (DS h1 ?_);have k1:∀b o,s.heap.get? b=some o->(s.heap.push {cls:=.type "tuple_iterator",data:=.fields #[.ref t,.int 0 0]}).get? b=some o:=fun b o e=>Aj _ e;have g1:(s.heap.push {cls:=.type "tuple_iterator",data:=.fields #[.ref t,.int 0 0]}).get? s.heap.objs.size=some {cls:=.type "tuple_iterator",data:=.fields #[.ref t,.int 0 0]}:=Aq _ rfl;have z1:(s.heap.push {cls:=.type "tuple_iterator",data:=.fields #[.ref t,.int 0 0]}).objs.size=s.heap.objs.size+1:=Cy ..;generalize s.heap.push {cls:=.type "tuple_iterator",data:=.fields #[.ref t,.int 0 0]}=xY at k1 g1 z1 ⊢;show wpAny _ _ (newObj (.type "enumerate") (.fields #[.none,.bool false,.ref s.heap.objs.size,rawInt 0,.none,.none]) >>= fun r=>ret r) _ _ _;refine Aa (Bn ?_ (by simp [sizeOk];decide));have g2:(xY.push {cls:=.type "enumerate",data:=.fields #[.none,.bool false,.ref s.heap.objs.size,rawInt 0,.none,.none]}).get? xY.objs.size=some {cls:=.type "enumerate",data:=.fields #[.none,.bool false,.ref s.heap.objs.size,rawInt 0,.none,.none]}:=Aq _ rfl;refine Ag ⟨.ref xY.objs.size,rfl,?_⟩;rw [z1] at g2 ⊢;exact q _ g2 ⟨_,Aj _ g1,rfl,rfl⟩ fun b o e=>Aj _ (k1 _ _ e)
  dsimp only;refine wpAny_ite_split (fun _=>?_) (fun _=>?_)
  ·exact Aa (Cn (a:=(Ax t,none)) rfl fin)
  ·exact Aa (Cn (a:=(Ax t,none)) rfl fin)
def L5 {prog:Program}{w:World}{A:Around}{E:Value->Shared->Prop}{s:Shared}{t:Addr}{items:Array Value}{Q:Value->Shared->Prop} (h1:s.heap.IsTuple t items)
  (q:∀h':Heap,IsEnum h' (s.heap.objs.size+1) s.heap.objs.size (0:Nat) .none->h'.IsTupleIter s.heap.objs.size t 0->(∀b o,s.heap.get? b=some o->h'.get? b=some o)->Q (.ref (s.heap.objs.size+1)) {s with heap:=h'}) :
  wpAny (model prog w) A (call (.type "enumerate") [.ref t]) Q E s:=
 callType_new F.called_enumerate (by decide) (F.typeCall_enumerate_1 _) (F.newCall_enumerate_1 _) (fun o=>F.args_object_init_2 o _) F.entry_enumerate_new (ue t items) ⟨h1,fun h' z i k=>⟨⟨_,z,rfl⟩,q h' z i k⟩⟩
def Ite (K:Ab) (a:Addr):It where
 go:=fun i H=>∃xs x,dD K H a xs/\xs[i]?=some x
 W4:=fun i H v H'=>∃p x,v=.ref p/\H p=none/\H'=upd H p (.tup [.int i,x])/\∀xs,dD K H a xs->xs[i]?=some x
 stop:=fun i H=>∃xs,dD K H a xs/\xs.length<=i
def N8 {P:Program}{w:World}{K:Ab}{elts:List Expr}{kk:Nat}{pos:Pos}{e it t:Addr} (Qf:e≠it) (hte:t≠e) (VV:t≠it):Turn P w K (.Tuple elts kk pos) (Ite K t) [e,it] e (fun i h=>(∃old,IsEnum h e it (i:Nat) old)/\h.IsTupleIter it t i) where
 mem:=by simp
 obj:=fun i h st b hb=>by
  simp only [Ay,BA,or_false] at hb;rcases hb with rfl | rfl
  ·obtain⟨⟨_,e⟩,_⟩:=st;exact⟨_,e,fun v z=>by cases z⟩
  ·obtain⟨_,⟨o,e,_,d⟩⟩:=st;exact⟨o,e,fun v z=>by rw [d] at z;cases z⟩
 keep:=fun i h h' st k=>⟨let ⟨o,e'⟩:=st.1;⟨o,k e (by simp) _ e'⟩,let ⟨o,e',p⟩:=st.2;⟨o,k it (by simp) _ e',p⟩⟩
 item:=by
  intro X hP hw hK hc i pins s σ H E I hf st hg;subst hP hw hK;obtain⟨xs,x,hx,gx⟩:=hg;obtain⟨au,rx,tx,_⟩:=I.tuple hx;obtain⟨u,gu,ru⟩:=lU rx gx;obtain⟨⟨old,hz⟩,hi⟩:=st;refine pX Qf hte VV hz hi tx (by simpa using gu) fun h' tk zo j np k=>?_;refine⟨_,rfl,?_⟩;refine DT zo fun h2 z2 b2=>?_;have le:e < s.heap.objs.size:=Ar hz;have li:it < s.heap.objs.size:=let ⟨_,e',_⟩:=hi;Ar e';have lt:∀b∈[e,it],b < s.heap.objs.size:=fun b hb=>by
   simp only [Ay,BA,or_false] at hb;rcases hb with rfl | rfl
   ·exact le
   ·exact li
  have nz:s.heap.objs.size≠e:=fun z=>A4 _ (by have:=le;rw [<- z] at this;exact this);have kk':∀b o,b∉[e,it]->s.heap.get? b=some o->h2.get? b=some o:=fun b o hb e'=>by
   have LB:b≠e:=fun q=>hb (by simp [q]);rw [b2.2 b LB];exact k b o LB (fun q=>hb (by simp [q])) e'
  have np2:h2.get? s.heap.objs.size=some {cls:=.type "tuple",data:=.seq #[.int i s.toks,u]}:=(b2.2 _ nz).trans np;have hfr:=I.bG.fresh (An s.heap.objs.size);refine⟨.ref s.heap.objs.size,upd H s.heap.objs.size (.tup [.int i,x]),I.vh (t':=tk) hf kk' (An _) ⟨by show 2<=sizeLine;decide,[.int i s.toks,u],.cons ⟨_,rfl⟩ (.cons ru .nil),⟨_,np2,rfl,_,rfl⟩⟩,rfl,⟨_,x,rfl,hfr,rfl,fun xs' h'=>by rw [I.nh h' hx];exact gx⟩,⟨⟨_,z2⟩,let ⟨o,e',p⟩:=j;⟨o,(b2.2 _ (BF Qf)).trans e',p⟩⟩,fun b hb=>?_⟩;rw [ay (AI (lt b hb))];exact (hf b hb).1
 done:=by
  intro X hP hw hK hc i pins s σ H E I hf st hg;subst hP hw hK;obtain⟨xs,hx,hl⟩:=hg;obtain⟨au,rx,tx,_⟩:=I.tuple hx;have el:=rx.length;obtain⟨⟨old,hz⟩,hi⟩:=st;refine rC (I.ok.hd hc) hz hi tx (by simp;omega) fun h' k=>⟨rfl,I.zU (t':=s.toks) hf fun b o hb e'=>k b o (fun z=>hb (by simp [z])) e'⟩
 self:=fun A i s Q E st h=>let ⟨_,e'⟩:=st.1;CY e' h
end L2
namespace My
open PySem PySem.Spec PyProof.Rows L2
def TB (l:List V) (i:Nat):Ent->List V
 | .word _=>l
 | .pair a b=>(l.set a (.int i)).set b (.int i)
def ah:List Ent->Nat->List V->List V
 | [],_,l=>l
 | e::es,i,l=>ah es (i+1) (TB l i e)
theorem Hs:∀(es:List Ent) (e:Ent) (i:Nat) (l:List V),ah (es++[e]) i l=TB (ah es i l) (i+es.length) e
 | [],e,i,l=>rfl
 | x::es,e,i,l=>by
  show ah (es++[e]) (i+1) (TB l i x)=TB (ah es (i+1) (TB l i x)) (i+(es.length+1)) e;rw [Hs es e];congr 1;omega
def WQ (l:List V) (i:Nat) (e:Ent):(TB l i e).length=l.length:=by cases e with
 | word=>rfl
 | pair=>show ((l.set _ _).set _ _).length=_;rw [BM,BM]
theorem Me:∀(es:List Ent) (i:Nat) (l:List V),(ah es i l).length=l.length
 | [],_,_=>rfl
 | e::es,i,l=>by show (ah es (i+1) (TB l i e)).length=_;rw [Me es,WQ]
end My
namespace L2
open PySem PySem.Spec PyProof.Rows
def ab2 (K:Ab):V->V->Hp->VK->Prop:=fun o i H Q=>∃p xs k x,o=.ref p/\i=.int k/\df K H p xs/\0<=k/\k < 1000/\xs[k.toNat]?=some x/\Q x H
def Sq {X:Cx} (K:Ab) (hK:X.K=K):ad4 X (ab2 K):=fun pins s σ H o i ov iv Q I ro ri h=>by
 obtain⟨p,xs,k,x,rfl,rfl,hp,k0,k1,hx,q⟩:=h;subst hK;cases ro;obtain⟨t,rfl⟩:=ri;obtain⟨au,r,pl,hz⟩:=I.list hp;obtain⟨u,gu,ru⟩:=lU r hx;exact wpAny_getItem_list pl.isList k0 (by omega) (by simpa using gu) ⟨x,H,I,ru,q⟩
end L2
namespace My
open PySem PySem.Spec PyProof.Rows L2
def Qn {x y:Str}{c:Nat} (a:Part x 1) (b:Part y 6) (h0:97<=c) (h1:c < 123):Wd (x++⟨#[c]⟩++y):=by
 have q:=(a.append (Ro h0 h1)).append b;refine⟨?_,q.1,q.2⟩;rw [CU,CU];show 1<=x.length+1+y.length;omega
end My
namespace L2
open PySem PySem.Spec PyProof.Rows
def Itd (lo:Int) (n:Nat):It:=⟨fun i _=>i < n,fun i H x H'=>H'=H/\x=.int (lo-i),fun i _=>n<=i⟩
def HQ {P:Program}{w:World}{K:Ab}{tg:Expr} (it:Addr) (lo:Int) (n:Nat):Turn P w K tg (Itd lo n) [it] it (fun i h=>IsRangeIter h it (lo+(i:Nat)*(-1)) ((n:Int)-(i:Nat)) (-1)) where
 mem:=by simp
 obj:=fun i h st b hb=>by
  have e:b=it:=by simpa using hb
  subst e;exact⟨_,st,fun v z=>by
   have z':Data.fields _=Data.cell v:=z;cases z'⟩
 keep:=fun i h h' st k=>k it (by simp) _ st
 item:=by
  intro X hP hw hK hc i pins s σ H E I hf st hg;subst hP hw hK;obtain⟨f0,f1,f2,f3,f4,f5⟩:=hf it (by simp);have W:=Walks.range (prog:=X.prog) (w:=X.w) (I.ok.hd hc) it lo (-1) n;refine W.item i s _ _ hg st fun v h' tk hv pG kk=>?_;obtain⟨t,rfl⟩:=hv;have I1:Inv X pins σ H {s with heap:=h',toks:=tk}:=I.turned (fun b o hb e=>kk b o (by simpa using hb) e) f0 f1 f3 f4 f5;refine⟨_,rfl,wL (s:={s with heap:=h',toks:=tk}) (n:="range_iterator") pG rfl rfl (by decide) ⟨.int (lo-i),H,I1,⟨t,?_⟩,⟨rfl,rfl⟩,pG,fun b hb=>(hf b hb).1⟩⟩;rw [show lo+(i:Int)*(-1)=lo-i by omega]
 done:=by
  intro X hP hw hK hc i pins s σ H E I hf st hg;subst hP hw hK;obtain⟨f0,f1,f2,f3,f4,f5⟩:=hf it (by simp);exact wpAny_pyNext_range_end (I.ok.hd hc) st (by have:n<=i:=hg;omega) fun h' eb=>⟨rfl,I.turned (t':=s.toks) (fun b o hb e=>eb b o hb e) f0 f1 f3 f4 f5⟩
 self:=fun _ _ _ _ _ st h=>wpAny_pyIter_rangeiter st h
section
variable {X:Cx}{tg:Expr}
def Ot {pins:List (Addr×Obj)}{σ:St}{H:Hp}{s:Shared}{R:It->Hp->Prop}{E:Value->Shared->Prop}{lo hi:Int}{t u v:Tok}{tk:Nat} (I:Inv X pins σ H s) (h1:-(2 ^ 62)<=lo) (h2:lo < 2 ^ 62) (h3:-(2 ^ 62)<=hi) (h4:hi < 2 ^ 62)
  (q:R (Itd lo (lo-hi).toNat) H):wpAny (model X.prog X.w) X.A (pyIter (.ref s.heap.objs.size)) (PIE X pins σ tg R) E {s with heap:=s.heap.push {cls:=.type "range",data:=.fields #[.int lo t,.int hi u,.int (-1) v]},toks:=tk}:=by
 refine wpAny_pyIter_range (IsRange.new ..) (PySem.W.small_down h1 h2 h3 h4) ?_;have I1:Inv X pins σ H {s with heap:=s.heap.push {cls:=.type "range",data:=.fields #[.int lo t,.int hi u,.int (-1) v]},toks:=tk}:=I.kept fun b o e=>Aj _ e;refine⟨(s.heap.push {cls:=.type "range",data:=.fields #[.int lo t,.int hi u,.int (-1) v]}).objs.size,[(s.heap.push {cls:=.type "range",data:=.fields #[.int lo t,.int hi u,.int (-1) v]}).objs.size],_,_,H,rfl,
  I1.kept (t':=tk) fun b o e=>Aj _ e,HQ _ lo (lo-hi).toNat,?_,fun b hb=>?_,q⟩
 ·have e1:lo+((0:Nat):Int)*(-1)=lo:=by simp
  have e2:(((lo-hi).toNat:Nat):Int)-((0:Nat):Int)=Builtin.Range.rangeSize lo hi (-1):=by rw [PySem.W.rangeSize_down];split <;> omega
  show IsRangeIter _ _ (lo+((0:Nat):Int)*(-1)) ((((lo-hi).toNat:Nat):Int)-((0:Nat):Int)) (-1);rw [e1,e2];exact Aq _ rfl
 ·have e:b=(s.heap.push {cls:=.type "range",data:=.fields #[.int lo t,.int hi u,.int (-1) v]}).objs.size:=by simpa using hb
  subst e;exact I1.GX (An _) (I1.bG.fresh (An _))
def acQ (ta:TA):TI:=fun σ H R=>ta σ H fun vs H1=>∃i j:Int,vs=[.int i,.int j,.int (-1)]/\(-(2 ^ 62)<=i/\i < 2 ^ 62/\-(2 ^ 62)<=j/\j < 2 ^ 62)/\R (Itd i (i-j).toNat) H1
def Ox {a b c:Expr}{ta:TA}{p pos:Pos} (hg:Gl X "range") (hm:X.mg "range"=none) (ha:PA X [a,b,c] ta) (hs:starEach [a,b,c] X.env=[(false,eval a X.env),(false,eval b X.env),(false,eval c X.env)]:=by rfl) (uR:starEach [b,c] X.env=[(false,eval b X.env),(false,eval c X.env)]:=by rfl) :
  PI X tg (.Call (.Name "range" p) [a,b,c] [] pos) (acQ ta):=by
 intro pins s σ H R I h;refine Call_ (kH I hg hm boot_range (Bh (bD (ha pos pins s σ H _ I h) fun us s1 ⟨vs,H1,I1,r1,q1⟩=>?_) (by rw [hs,uR]) (by rw [uR];rfl)));obtain⟨i,j,e,⟨q1,q2,q3,q4⟩,q⟩:=q1;subst e;cases r1 with
 | cons r rr=>
  cases rr with
  | cons r' rr=>
   cases rr with
   | cons r'' rr=>
    cases rr;obtain⟨t,rfl⟩:=r;obtain⟨t',rfl⟩:=r';obtain⟨t'',rfl⟩:=r'';refine call_range_3 (by decide) (Ot I1 q1 q2 q3 q4 q) (.inl ?_);unfold Builtin.divisionGoesByPylong;have e1:decide ((if ((-1:Int)==0)=true then 0 else (-1:Int).natAbs.log2 / 30+1) > 300)=false:=by decide
    simp only [e1,E9]
end
def ad8 (K:Ab) (a:Addr):It where
 go:=fun i H=>∃xs x,df K H a xs/\xs[i]?=some x
 W4:=fun i H v H'=>∃p x,v=.ref p/\H p=none/\H'=upd H p (.tup [.int i,x])/\∀xs,df K H a xs->xs[i]?=some x
 stop:=fun i H=>∃xs,df K H a xs/\xs.length<=i
def Kf {P:Program}{w:World}{K:Ab}{elts:List Expr}{kk:Nat}{pos:Pos}{e it t:Addr} (Qf:e≠it):Turn P w K (.Tuple elts kk pos) (ad8 K t) [e,it] e (fun i h=>(∃old,IsEnum h e it (i:Nat) old)/\h.IsListIter it t i) where
 mem:=by simp
 obj:=fun i h st b hb=>by
  simp only [Ay,BA,or_false] at hb;rcases hb with rfl | rfl
  ·obtain⟨⟨_,e⟩,_⟩:=st;exact⟨_,e,fun v z=>by cases z⟩
  ·obtain⟨_,⟨o,e,_,d⟩⟩:=st;exact⟨o,e,fun v z=>by rw [d] at z;cases z⟩
 keep:=fun i h h' st k=>⟨let ⟨o,e'⟩:=st.1;⟨o,k e (by simp) _ e'⟩,let ⟨o,e',p⟩:=st.2;⟨o,k it (by simp) _ e',p⟩⟩
 item:=by
  intro X hP hw hK hc i pins s σ H E I hf st hg;subst hP hw hK;obtain⟨xs,x,hx,gx⟩:=hg;obtain⟨au,rx,tx,_⟩:=I.list hx;obtain⟨u,gu,ru⟩:=lU rx gx;obtain⟨⟨old,hz⟩,hi⟩:=st;refine wpAny_pyNext_enum_item hz hi tx.isList (by simpa using gu) Qf fun h' zo j np _ k=>?_;refine⟨_,rfl,?_⟩;refine DT zo fun h2 z2 b2=>?_;have le:e < s.heap.objs.size:=Ar hz;have li:it < s.heap.objs.size:=let ⟨_,e',_⟩:=hi;Ar e';have lt:∀b∈[e,it],b < s.heap.objs.size:=fun b hb=>by
   simp only [Ay,BA,or_false] at hb;rcases hb with rfl | rfl
   ·exact le
   ·exact li
  have nz:s.heap.objs.size≠e:=fun z=>A4 _ (by have:=le;rw [<- z] at this;exact this);have kk':∀b o,b∉[e,it]->s.heap.get? b=some o->h2.get? b=some o:=fun b o hb e'=>by
   have LB:b≠e:=fun q=>hb (by simp [q]);rw [b2.2 b LB];exact k b o LB (fun q=>hb (by simp [q])) e'
  have np2:h2.get? s.heap.objs.size=some {cls:=.type "tuple",data:=.seq #[.int i s.toks,u]}:=(b2.2 _ nz).trans np;have hfr:=I.bG.fresh (An s.heap.objs.size);refine⟨.ref s.heap.objs.size,upd H s.heap.objs.size (.tup [.int i,x]),I.vh (t':=s.toks+1) hf kk' (An _) ⟨by show 2<=sizeLine;decide,[.int i s.toks,u],.cons ⟨_,rfl⟩ (.cons ru .nil),⟨_,np2,rfl,_,rfl⟩⟩,rfl,⟨_,x,rfl,hfr,rfl,fun xs' h'=>by rw [I.IM h' hx];exact gx⟩,⟨⟨_,z2⟩,let ⟨o,e',p⟩:=j;⟨o,(b2.2 _ (BF Qf)).trans e',p⟩⟩,fun b hb=>?_⟩;rw [ay (AI (lt b hb))];exact (hf b hb).1
 done:=by
  intro X hP hw hK hc i pins s σ H E I hf st hg;subst hP hw hK;obtain⟨xs,hx,hl⟩:=hg;obtain⟨au,rx,tx,_⟩:=I.list hx;have el:=rx.length;obtain⟨⟨old,hz⟩,hi⟩:=st;refine wpAny_pyNext_enum_end (I.ok.hd hc) hz hi tx.isList (by simp;omega) fun h' k=>⟨rfl,I.zU (t':=s.toks) hf fun b o hb e'=>k b o (fun z=>hb (by simp [z])) e'⟩
 self:=fun A i s Q E st h=>let ⟨_,e'⟩:=st.1;CY e' h
end L2
namespace My
open PySem PySem.Spec PyProof.Rows L2
def en:Tr->Nat->Nat->Ent
 | .leaf x,_,_=>.word x
 | .node l r,o,j=>if j < l.size then en l o j else if j < l.size+r.size then en r (o+l.size) (j-l.size) else .pair (o+l.size-1) (o+l.size+r.size-1)
def up:Tr->Nat->Nat->List Nat->List Nat
 | .leaf _,o,_,ab=>o::ab
 | .node l r,o,j,ab=>if j < l.size then up l o j ((o+l.size+r.size)::ab) else if j < l.size+r.size then up r (o+l.size) (j-l.size) ((o+l.size+r.size)::ab) else (o+l.size+r.size)::ab
def lE:Tr->Nat->Nat->V->V
 | .leaf _,_,_,p=>p
 | .node l r,o,j,p=>if j < l.size then lE l o j (.int (o+l.size+r.size:Nat)) else if j < l.size+r.size then lE r (o+l.size) (j-l.size) (.int (o+l.size+r.size:Nat)) else p
def be:Tr->Nat->Nat->List Nat
 | .leaf _,o,_=>[o]
 | .node l r,o,j=>if j < l.size then be l o j else if j < l.size+r.size then be r (o+l.size) (j-l.size) else be l o (l.size-1)++be r (o+l.size) (r.size-1)
theorem gn:∀(t:Tr) (o j:Nat),j < t.size->(t.nd o)[j]?=some (en t o j)
 | .leaf x,o,j,h=>by
  have:j=0:=by have:j < 1:=h;omega
  subst this;rfl
 | .node l r,o,j,h=>by
  have es:(Tr.node l r).size=l.size+r.size+1:=rfl;have hn:(Tr.node l r).nd o=l.nd o++r.nd (o+l.size)++[.pair (o+l.size-1) (o+l.size+r.size-1)]:=rfl;have ln:=l.bo o;have rn:=r.bo (o+l.size);unfold en;by_cases c1:j < l.size
  ·rw [if_pos c1,hn,A7,AD (by omega)];exact gn l o j c1
  ·rw [if_neg c1];by_cases c2:j < l.size+r.size
   ·rw [if_pos c2,hn,A7,AB (by omega),AD (by omega),ln];exact gn r _ _ (by omega)
   ·rw [if_neg c2,hn,AB (by rw [Ae];omega),Ae,ln,rn];have:j-(l.size+r.size)=0:=by omega
    rw [this];rfl
theorem Tn:∀(t:Tr) (o j:Nat),j < t.size->(∃x,en t o j=.word x/\be t o j=[o+j])\/∃a b,en t o j=.pair (o+a) (o+b)/\a < j/\b < j/\be t o j=be t o a++be t o b
 | .leaf x,o,j,h=>by
  have:j=0:=by have:j < 1:=h;omega
  subst this;exact .inl ⟨x,rfl,rfl⟩
 | .node l r,o,j,h=>by
  have es:(Tr.node l r).size=l.size+r.size+1:=rfl;have lp:=l.size_pos;have rp:=r.size_pos;by_cases c1:j < l.size
  ·have e1:en (.node l r) o j=en l o j:=by rw [en,if_pos c1]
   have e2:∀k,k < l.size->be (.node l r) o k=be l o k:=fun k hk=>by rw [be,if_pos hk]
   rw [e1];rcases Tn l o j c1 with⟨x,q1,q2⟩ | ⟨a,b,q1,q2,q3,q4⟩
   ·exact .inl ⟨x,q1,by rw [e2 j c1];exact q2⟩
   ·exact .inr ⟨a,b,q1,q2,q3,by rw [e2 j c1,e2 a (by omega),e2 b (by omega)];exact q4⟩
  ·by_cases c2:j < l.size+r.size
   ·have e1:en (.node l r) o j=en r (o+l.size) (j-l.size):=by rw [en,if_neg c1,if_pos c2]
    have e2:∀k,k < r.size->be (.node l r) o (l.size+k)=be r (o+l.size) k:=fun k hk=>by
     rw [be,if_neg (by omega),if_pos (by omega)];congr 1;omega
    have ej:j=l.size+(j-l.size):=by omega
    rw [e1];rcases Tn r (o+l.size) (j-l.size) (by omega) with⟨x,q1,q2⟩ | ⟨a,b,q1,q2,q3,q4⟩
    ·refine .inl ⟨x,q1,?_⟩;rw [ej,e2 _ (by omega),q2];congr 1;omega
    ·refine .inr ⟨l.size+a,l.size+b,?_,by omega,by omega,?_⟩
     ·rw [q1,Bg,Bg]
     ·rw [e2 a (by omega),e2 b (by omega),ej,e2 _ (by omega),q4]
   ·have ej:j=l.size+r.size:=by omega
    refine .inr ⟨l.size-1,l.size+r.size-1,?_,by omega,by omega,?_⟩
    ·rw [en,if_neg c1,if_neg c2];congr 1 <;> omega
    ·rw [be,if_neg c1,if_neg c2,be,if_pos (by omega),be,if_neg (by omega),if_pos (by omega)];congr 2;omega
theorem ve:∀(t:Tr) (o j:Nat) (p:V) (ab:List Nat),j < t.size->(j=t.size-1/\lE t o j p=p/\up t o j ab=(o+j)::ab)\/∃a,j < a/\a < t.size/\lE t o j p=.int (o+a:Nat)/\up t o j ab=(o+j)::up t o a ab
 | .leaf x,o,j,p,ab,h=>by
  have:j=0:=by have:j < 1:=h;omega
  subst this;exact .inl ⟨rfl,rfl,rfl⟩
 | .node l r,o,j,p,ab,h=>by
  have es:(Tr.node l r).size=l.size+r.size+1:=rfl;have lp:=l.size_pos;have rp:=r.size_pos;have er:up (.node l r) o (l.size+r.size) ab=(o+l.size+r.size)::ab:=by rw [up,if_neg (by omega),if_neg (by omega)]
  by_cases c1:j < l.size
  ·have e1:lE (.node l r) o j p=lE l o j (.int (o+l.size+r.size:Nat)):=by rw [lE,if_pos c1]
   have e2:∀k,k < l.size->up (.node l r) o k ab=up l o k ((o+l.size+r.size)::ab):=fun k hk=>by rw [up,if_pos hk]
   rw [e1,e2 j c1];rcases ve l o j (.int (o+l.size+r.size:Nat)) ((o+l.size+r.size)::ab) c1 with⟨q1,q2,q3⟩ | ⟨a,q1,q2,q3,q4⟩
   ·refine .inr ⟨l.size+r.size,by omega,by omega,by rw [q2,Bg],by rw [q3,er]⟩
   ·exact .inr ⟨a,q1,by omega,q3,by rw [q4,e2 a q2]⟩
  ·by_cases c2:j < l.size+r.size
   ·have e1:lE (.node l r) o j p=lE r (o+l.size) (j-l.size) (.int (o+l.size+r.size:Nat)):=by rw [lE,if_neg c1,if_pos c2]
    have e2:∀k,k < r.size->up (.node l r) o (l.size+k) ab=up r (o+l.size) k ((o+l.size+r.size)::ab):=fun k hk=>by
     rw [up,if_neg (by omega),if_pos (by omega)];congr 1;omega
    obtain⟨i,rfl⟩:∃i,j=l.size+i:=⟨j-l.size,by omega⟩;have ei:l.size+i-l.size=i:=by omega
    rw [e1,e2 i (by omega),ei];rcases ve r (o+l.size) i (.int (o+l.size+r.size:Nat)) ((o+l.size+r.size)::ab) (by omega) with⟨q1,q2,q3⟩ | ⟨a,q1,q2,q3,q4⟩
    ·refine .inr ⟨l.size+r.size,by omega,by omega,by rw [q2,Bg],by rw [q3,er,Bg]⟩
    ·exact .inr ⟨l.size+a,by omega,by omega,by rw [q3,Bg],by rw [q4,e2 a q2,Bg]⟩
   ·have ej:j=l.size+r.size:=by omega
    refine .inl ⟨by omega,by rw [lE,if_neg c1,if_neg c2],?_⟩;rw [ej,er,Bg]
def og:Tr->Nat->V->List V
 | .leaf _,_,p=>[p]
 | .node l r,o,p=>og l o (.int (o+l.size+r.size:Nat))++og r (o+l.size) (.int (o+l.size+r.size:Nat))++[p]
theorem lB:∀(t:Tr) (o:Nat) (p:V),(og t o p).length=t.size
 | .leaf _,_,_=>rfl
 | .node l r,o,p=>by
  unfold og;rw [Ae,Ae,lB l,lB r];rfl
def NW (t:Tr) (o:Nat) (p q:V) (A B:List V):(A++og t o p++B).set (A.length+t.size-1) q=A++og t o q++B:=by
 have key:∃I,og t o p=I++[p]/\og t o q=I++[q]:=by
  cases t with
  | leaf _=>exact⟨[],rfl,rfl⟩
  | node l r=>exact⟨_,rfl,rfl⟩
 obtain⟨I,e1,e2⟩:=key;have h1:=lB t o p;rw [e1,Ae] at h1;have iR:I.length+1=t.size:=h1;rw [e1,e2];have ei:A.length+t.size-1=(A++I).length:=by rw [Ae];omega
 rw [ei,show A++(I++[p])++B=(A++I)++p::B by simp,ES _ _ (An _),B4];simp
theorem Tz:∀(es fs:List Ent) (i:Nat) (l:List V),ah (es++fs) i l=ah fs (i+es.length) (ah es i l)
 | [],fs,i,l=>rfl
 | e::es,fs,i,l=>by
  show ah (es++fs) (i+1) (TB l i e)=ah fs (i+(es.length+1)) (ah es (i+1) (TB l i e));rw [Tz es fs];congr 1;omega
theorem Mf:∀(t:Tr) (A B:List V),ah (t.nd A.length) A.length (A++Al t.size .aQ++B)=A++og t A.length .aQ++B
 | .leaf x,A,B=>rfl
 | .node l r,A,B=>by
  have es:(Tr.node l r).size=l.size+r.size+1:=rfl;have lp:=l.size_pos;have rp:=r.size_pos;have hn:(Tr.node l r).nd A.length=l.nd A.length++r.nd (A.length+l.size)++[.pair (A.length+l.size-1) (A.length+l.size+r.size-1)]:=rfl;have ln:=l.bo A.length;have rn:=r.bo (A.length+l.size);have h1:=Mf l A (Al r.size .aQ++([V.aQ]++B));have e0:A++Al (Tr.node l r).size V.aQ++B=A++Al l.size .aQ++(Al r.size .aQ++([V.aQ]++B)):=by
   rw [es,<- C4,<- C4];simp only [A7];rfl
  rw [hn,Hs,Tz,e0,h1,ln];have la:(A++og l A.length V.aQ).length=A.length+l.size:=by rw [Ae,lB]
  have h2:=Mf r (A++og l A.length V.aQ) ([V.aQ]++B);rw [la] at h2;have e1:A++og l A.length V.aQ++(Al r.size V.aQ++([V.aQ]++B))=A++og l A.length V.aQ++Al r.size V.aQ++([V.aQ]++B):=by simp [A7]
  rw [e1,h2,Ae,ln,rn];show ((_:List V).set (A.length+l.size-1) _).set (A.length+l.size+r.size-1) _=_;have s1:=NW l A.length .aQ (.int (A.length+(l.size+r.size):Nat)) A (og r (A.length+l.size) V.aQ++([V.aQ]++B));have e2:A++og l A.length V.aQ++og r (A.length+l.size) V.aQ++([V.aQ]++B)=A++og l A.length V.aQ++(og r (A.length+l.size) V.aQ++([V.aQ]++B)):=by simp [A7]
  rw [e2,s1];have lb:(A++og l A.length (V.int (A.length+(l.size+r.size):Nat))).length=A.length+l.size:=by rw [Ae,lB]
  have s2:=NW r (A.length+l.size) .aQ (.int (A.length+(l.size+r.size):Nat)) (A++og l A.length (V.int (A.length+(l.size+r.size):Nat))) ([V.aQ]++B);rw [lb] at s2;have e3:A++og l A.length (V.int (A.length+(l.size+r.size):Nat))++(og r (A.length+l.size) V.aQ++([V.aQ]++B))=A++og l A.length (V.int (A.length+(l.size+r.size):Nat))++og r (A.length+l.size) V.aQ++([V.aQ]++B):=by simp [A7]
  rw [e3,s2];have e4:og (.node l r) A.length .aQ=og l A.length (.int (A.length+l.size+r.size:Nat))++og r (A.length+l.size) (.int (A.length+l.size+r.size:Nat))++[.aQ]:=rfl;rw [e4,Bg A.length l.size r.size];simp [A7]
theorem Hq:∀(t:Tr) (o j:Nat) (p:V),j < t.size->(og t o p)[j]?=some (lE t o j p)
 | .leaf x,o,j,p,h=>by
  have:j=0:=by have:j < 1:=h;omega
  subst this;rfl
 | .node l r,o,j,p,h=>by
  have es:(Tr.node l r).size=l.size+r.size+1:=rfl;have ln:=lB l o (.int (o+l.size+r.size:Nat));have rn:=lB r (o+l.size) (.int (o+l.size+r.size:Nat));unfold og lE;by_cases c1:j < l.size
  ·rw [if_pos c1,A7,AD (by omega)];exact Hq l _ _ _ c1
  ·rw [if_neg c1];by_cases c2:j < l.size+r.size
   ·rw [if_pos c2,A7,AB (by omega),AD (by omega),ln];exact Hq r _ _ _ (by omega)
   ·rw [if_neg c2,AB (by rw [Ae];omega),Ae,ln,rn];have:j-(l.size+r.size)=0:=by omega
    rw [this];rfl
def aar (t:Tr) {j:Nat} (h:j < t.size):(ah (t.nd 0) 0 (Al t.size .aQ))[j]?=some (lE t 0 j .aQ):=by
 have q:=Mf t [] [];have e:([]:List V)++Al t.size .aQ++[]=Al t.size .aQ:=by simp
 have e2:([]:List V)++og t ([]:List V).length .aQ++[]=og t 0 .aQ:=by simp
 rw [e,e2] at q;have q':ah (t.nd 0) 0 (Al t.size .aQ)=og t 0 .aQ:=q;rw [q'];exact Hq t 0 j .aQ h
end My
namespace PL
section
open PySem PySem.Spec PyProof.Rows L2
variable {K:Ab}
def X5 (K:Ab) (H:Hp) (a:Addr) (xs:List V):Prop:=(∃o,H a=some (.cV o (.lst xs)))\/
  ∃(o:Obj) (au:Array Value) (n:Nat),K.lookup a=some o/\o.cls=.type "list"/\o.dict=none/\o.data=.seq au n/\au.size<=sizeLine/\Vals xs au.toList
def X5.sq {H:Hp}{a:Addr}{xs:List V} (h:X5 K H a xs):df K H a xs:=h.elim (fun h=>.inl (.inr h)) .inr
structure bq (K:Ab) (H H':Hp):Prop where
 t:∀p vs,H p=some (.tup vs)->H' p=some (.tup vs)
 z:∀p o u,H p=some (.cV o u)->H' p=some (.cV o u)
def bq.f {H H':Hp} (t:bq K H H') (p:Addr) (vs:List V) (h:X5 K H p vs):X5 K H' p vs:=h.elim (fun ⟨o,h⟩=>.inl ⟨o,t.z _ _ _ h⟩) .inr
def bq.refl (H:Hp):bq K H H:=⟨fun _ _ h=>h,fun _ _ _ h=>h⟩
def bq.trans {H H1 H2:Hp} (a:bq K H H1) (b:bq K H1 H2):bq K H H2:=⟨fun p vs h=>b.t p vs (a.t p vs h),fun p o w h=>b.z p o w (a.z p o w h)⟩
def _root_.L2.lS.fy {H H':Hp} (s:lS H H'):bq K H H':=⟨fun p vs h=>s _ _ h,fun p o u h=>s _ _ h⟩
inductive PV where
 | aQ | bl (b:Bool) | int (i:Int) | str (x:Str) | tup (l:List PV) | ref (n:Nat) | ty (n:String) | cl (l:List PV) | dv (ks vs:List PV)
def kP:Key->PV
 | .inl i=>.int i
 | .inr x=>.str x
inductive PO where
 | lst (xs:List PV) | dk (kvs:List (Key×PV)) | dt (kvs:List (List Key×PV)) | opq (φ:List V->Prop)
abbrev PH:=List PO
abbrev HI:=List (Option PV)
mutual
inductive VR (K:Ab) (ι:List Addr) (H:Hp):V->PV->Prop
 | aQ:VR K ι H .aQ .aQ
 | bl (b:Bool):VR K ι H (.bl b) (.bl b)
 | int (i:Int):VR K ι H (.int i) (.int i)
 | str (x:Str):VR K ι H (.str x) (.str x)
 | ty (n:String):VR K ι H (.ty n) (.ty n)
 | tup {p:Addr}{vs:List V}{l:List PV} (h:H p=some (.tup vs)) (r:aM K ι H vs l):VR K ι H (.ref p) (.tup l)
 | ref {n:Nat}{a:Addr} (h:ι[n]?=some a):VR K ι H (.ref a) (.ref n)
 | cl {a:Addr}{vs:List V}{l:List PV} (h:X5 K H a vs) (r:aM K ι H vs l):VR K ι H (.ref a) (.cl l)
 | dk {a:Addr}{o:Obj}{kvs:List (Key×V)}{ks l:List PV} (h:H a=some (.cV o (.dK kvs))) (e:ks=kvs.map fun kv=>kP kv.1) (r:aM K ι H (kvs.map (·.2)) l):VR K ι H (.ref a) (.dv ks l)
 | dt {a:Addr}{o:Obj}{kvs:List (List Key×V)}{ks l:List PV} (h:H a=some (.cV o (.dT kvs))) (e:ks=kvs.map fun kv=>.tup (kv.1.map kP)) (r:aM K ι H (kvs.map (·.2)) l):VR K ι H (.ref a) (.dv ks l)
inductive aM (K:Ab) (ι:List Addr) (H:Hp):List V->List PV->Prop
 | nil:aM K ι H [] []
 | cons {v:V}{p:PV}{vs:List V}{ps:List PV} (r:VR K ι H v p) (t:aM K ι H vs ps):aM K ι H (v::vs) (p::ps)
end
section
variable {ι ι':List Addr}{H H':Hp}
mutual
theorem VR.mono (ht:bq K H H') (hi:∀(n:Nat) (a:Addr),ι[n]?=some a->ι'[n]?=some a):∀{v:V}{p:PV},VR K ι H v p->VR K ι' H' v p
 | _,_,.aQ=>.aQ
 | _,_,.bl b=>.bl b
 | _,_,.int i=>.int i
 | _,_,.str x=>.str x
 | _,_,.ty n=>.ty n
 | _,_,.tup h r=>.tup (ht.t _ _ h) (aM.mono ht hi r)
 | _,_,.cl h r=>.cl (ht.f _ _ h) (aM.mono ht hi r)
 | _,_,.dk h e r=>.dk (ht.z _ _ _ h) e (aM.mono ht hi r)
 | _,_,.dt h e r=>.dt (ht.z _ _ _ h) e (aM.mono ht hi r)
 | _,_,.ref h=>.ref (hi _ _ h)
theorem aM.mono (ht:bq K H H') (hi:∀(n:Nat) (a:Addr),ι[n]?=some a->ι'[n]?=some a):∀{vs:List V}{ps:List PV},aM K ι H vs ps->aM K ι' H' vs ps
 | _,_,.nil=>.nil
 | _,_,.cons r t=>.cons (VR.mono ht hi r) (aM.mono ht hi t)
end
theorem aM.length:∀{vs:List V}{ps:List PV},aM K ι H vs ps->vs.length=ps.length
 | _,_,.nil=>rfl
 | _,_,.cons _ t=>by rw [Ao,Ao,aM.length t]
theorem aM.get:∀{vs:List V}{ps:List PV}{i:Nat}{p:PV},aM K ι H vs ps->ps[i]?=some p->∃v,vs[i]?=some v/\VR K ι H v p
 | _,_,_,_,.nil,e=>by simp at e
 | _,_,0,_,.cons r _,e=>by simp at e;subst e;exact⟨_,rfl,r⟩
 | _,_,i+1,p,.cons _ t,e=>by
  obtain⟨v,h1,h2⟩:=aM.get (i:=i) (p:=p) t (by simpa using e);exact⟨v,by simpa using h1,h2⟩
theorem aM.adp:∀{vs:List V}{ps:List PV}{i:Nat}{v:V},aM K ι H vs ps->vs[i]?=some v->∃p,ps[i]?=some p/\VR K ι H v p
 | _,_,_,_,.nil,e=>by simp at e
 | _,_,0,_,.cons r _,e=>by simp at e;subst e;exact⟨_,rfl,r⟩
 | _,_,i+1,p,.cons _ t,e=>by
  obtain⟨v,h1,h2⟩:=aM.adp (i:=i) (v:=p) t (by simpa using e);exact⟨v,by simpa using h1,h2⟩
theorem aM.set {v:V}{p:PV} (r:VR K ι H v p):∀{vs:List V}{ps:List PV} (i:Nat),aM K ι H vs ps->aM K ι H (vs.set i v) (ps.set i p)
 | _,_,_,.nil=>.nil
 | _,_,0,.cons _ t=>.cons r t
 | _,_,i+1,.cons q t=>.cons q (aM.set r i t)
theorem aM.append:∀{xs ys:List V}{us ws:List PV},aM K ι H xs us->aM K ι H ys ws->aM K ι H (xs++ys) (us++ws)
 | _,_,_,_,.nil,s=>s
 | _,_,_,_,.cons r t,s=>.cons r (aM.append t s)
theorem aM.take:∀{xs:List V}{us:List PV} (n:Nat),aM K ι H xs us->aM K ι H (xs.take n) (us.take n)
 | _,_,0,_=>.nil
 | _,_,_+1,.nil=>.nil
 | _,_,n+1,.cons r t=>.cons r (aM.take n t)
theorem aM.drop:∀{xs:List V}{us:List PV} (n:Nat),aM K ι H xs us->aM K ι H (xs.drop n) (us.drop n)
 | _,_,0,r=>r
 | _,_,_+1,.nil=>.nil
 | _,_,n+1,.cons _ t=>aM.drop n t
theorem aM.reverse:∀{xs:List V}{us:List PV},aM K ι H xs us->aM K ι H xs.reverse us.reverse
 | _,_,.nil=>.nil
 | _,_,.cons r t=>by rw [C2,C2];exact (aM.reverse t).append (.cons r .nil)
def aM.one {v:V}{p:PV} (r:VR K ι H v p):aM K ι H [v] [p]:=.cons r .nil
end
structure Go (ι ι':List Addr) (H H':Hp):Prop where
 ext:∃m,ι'=ι++m
 new:∀a,a∈ι'->a∉ι->H a=none
 keep:∀a o,a∉ι->H a=some o->H' a=some o
def Go.refl (ι:List Addr) (H:Hp):Go ι ι H H:=⟨⟨[],by simp⟩,fun a h n=>absurd h n,fun _ _ _ h=>h⟩
def OR (K:Ab) (ι:List Addr) (H:Hp) (a:Addr):PO->Prop
 | .lst xs=>∃vs,H a=some (.lst vs)/\aM K ι H vs xs
 | .dk kvs=>∃vs:List (Key×V),H a=some (.dK vs)/\vs.map (·.1)=kvs.map (·.1)/\aM K ι H (vs.map (·.2)) (kvs.map (·.2))
 | .dt kvs=>∃vs:List (List Key×V),H a=some (.dT vs)/\vs.map (·.1)=kvs.map (·.1)/\aM K ι H (vs.map (·.2)) (kvs.map (·.2))
 | .opq φ=>∃vs,H a=some (.lst vs)/\φ vs
structure HR (K:Ab) (ι:List Addr) (H:Hp) (h:PH):Prop where
 nd:ι.Nodup
 len:ι.length=h.length
 obj:∀(n:Nat) (a:Addr) (o:PO),ι[n]?=some a->h[n]?=some o->OR K ι H a o
def jx {α:Type}{l:List α}{x y:α}{n:Nat} (h:(l++[x])[n]?=some y):l[n]?=some y\/(n=l.length/\y=x):=by
 by_cases hn:n < l.length
 ·rw [AD hn] at h;exact .inl h
 ·rw [AB (by omega)] at h;obtain⟨k,hk⟩:∃k,k=n-l.length:=⟨_,rfl⟩;rw [<- hk] at h;cases k with
  | zero=>simp at h;exact .inr ⟨by omega,h.symm⟩
  | succ k=>simp at h
end
section
open PySem PySem.Spec PyProof.Rows L2
variable {K:Ab}
abbrev QV:=PV->PH->Prop
structure ME where
 run:HI->PH->QV->Prop
 mono:∀{ps h}{Q Q':QV},(∀v h',Q v h'->Q' v h')->run ps h Q->run ps h Q'
structure MT where
 run:HI->PH->(Bool->PH->Prop)->Prop
 mono:∀{ps h}{Q Q':Bool->PH->Prop},(∀v h',Q v h'->Q' v h')->run ps h Q->run ps h Q'
structure MA where
 run:HI->PH->(List PV->PH->Prop)->Prop
 mono:∀{ps h}{Q Q':List PV->PH->Prop},(∀v h',Q v h'->Q' v h')->run ps h Q->run ps h Q'
structure ML where
 run:HI->PH->(List PV->PH->Prop)->Prop
 mono:∀{ps h}{Q Q':List PV->PH->Prop},(∀v h',Q v h'->Q' v h')->run ps h Q->run ps h Q'
structure Src where
 items:List PV
 ok:PH->Prop
 fz:Bool
structure MI where
 run:HI->PH->(Src->PH->Prop)->Prop
 mono:∀{ps h}{Q Q':Src->PH->Prop},(∀v h',Q v h'->Q' v h')->run ps h Q->run ps h Q'
structure PD where
 nx:HI->PH->Prop
 rt:QV
 bk:HI->PH->Prop
 ct:HI->PH->Prop
structure PD.Le (D D':PD):Prop where
 nx:∀ps h,D.nx ps h->D'.nx ps h
 rt:∀v h,D.rt v h->D'.rt v h
 bk:∀ps h,D.bk ps h->D'.bk ps h
 ct:∀ps h,D.ct ps h->D'.ct ps h
structure MS where
 run:PD->HI->PH->Prop
 mono:∀{D D' ps h},PD.Le D D'->run D ps h->run D' ps h
structure MG where
 run:PV->HI->PH->(HI->PH->Prop)->Prop
 mono:∀{v ps h}{Q Q':HI->PH->Prop},(∀ps h,Q ps h->Q' ps h)->run v ps h Q->run v ps h Q'
def pQ (K:Ab) (ι:List Addr) (H:Hp) (Q:VK):QV:=fun p h'=>∀ι' v H',Go ι ι' H H'->HR K ι' H' h'->VR K ι' H' v p->Q v H'
def PE.imp {X:Cx}{e:Expr}{t t':TE} (h:PE X e t) (f:∀σ H Q,t' σ H Q->t σ H Q):PE X e t':=fun pins s σ H Q I q=>h pins s σ H Q I (f _ _ _ q)
def PT.imp {X:Cx}{e:Expr}{t t':TT} (h:PT X e t) (f:∀σ H Q,t' σ H Q->t σ H Q):PT X e t':=fun pins s σ H Q I q=>h pins s σ H Q I (f _ _ _ q)
def PW.imp {X:Cx}{e:Expr}{t t':TT} (h:PW X e t) (f:∀σ H Q,t' σ H Q->t σ H Q):PW X e t':=fun w pins s σ H Q I q=>h w pins s σ H Q I (f _ _ _ q)
def PA.imp {X:Cx}{e:List Expr}{t t':TA} (h:PA X e t) (f:∀σ H Q,t' σ H Q->t σ H Q):PA X e t':=fun pos pins s σ H Q I q=>h pos pins s σ H Q I (f _ _ _ q)
def PS.imp {X:Cx}{e:Stmt}{t t':TS} (h:PS X e t) (f:∀D σ H,t' D σ H->t D σ H):PS X e t':=fun pins s σ H D I q=>h pins s σ H D I (f _ _ _ q)
def u0.imp {X:Cx}{e:List Stmt}{t t':TS} (h:u0 X e t) (f:∀D σ H,t' D σ H->t D σ H):u0 X e t':=fun pins s σ H D I q=>h pins s σ H D I (f _ _ _ q)
def PG.imp {X:Cx}{e:Expr}{t t':TG} (h:PG X e t) (f:∀v σ H Q,t' v σ H Q->t v σ H Q):PG X e t':=fun pins s σ H v u Q I r q=>h pins s σ H v u Q I r (f _ _ _ _ q)
def PI.imp {X:Cx}{tg e:Expr}{t t':TI} (h:PI X tg e t) (f:∀σ H Q,t' σ H Q->t σ H Q):PI X tg e t':=fun pins s σ H R I q=>h pins s σ H R I (f _ _ _ q)
section
abbrev P2:=PV->PV->PH->QV->Prop
structure M2 where
 f:P2
 mono:∀{x y h}{Q Q':QV},(∀v h',Q v h'->Q' v h')->f x y h Q->f x y h Q'
def M2.Ok (K:Ab) (r:R2) (m:M2):Prop:=∀{ι H h u v x y Q},HR K ι H h->VR K ι H u x->VR K ι H v y->m.f x y h (pQ K ι H Q)->r u v H Q
end
end
section
open PySem PySem.Spec PyProof.Rows L2
variable {K:Ab}
section
def mD {ι:List Addr}{H:Hp}:∀{vs:List V}{l:List PV},aM K ι H vs l->(!l.isEmpty)=!vs.isEmpty
 | _,_,.nil=>rfl
 | _,_,.cons _ _=>rfl
structure MQ where
 run:HI->PH->(Src->PH->Prop)->Prop
 mono:∀{ps h}{Q Q':Src->PH->Prop},(∀v h',Q v h'->Q' v h')->run ps h Q->run ps h Q'
end
end
open PySem PySem.Spec PyProof.Rows L2
section
structure MGs where
 run:List PV->HI->PH->(HI->PH->Prop)->Prop
 mono:∀{v ps h}{Q Q':HI->PH->Prop},(∀ps h,Q ps h->Q' ps h)->run v ps h Q->run v ps h Q'
end
section
variable {K:Ab}
section
structure zB where
 f:List PV->PH->QV->Prop
 mono:∀{l h}{Q Q':QV},(∀v h',Q v h'->Q' v h')->f l h Q->f l h Q'
def zB.Ok (K:Ab) (r:List V->Hp->VK->Prop) (m:zB):Prop:=∀{ι H h vs l Q},HR K ι H h->aM K ι H vs l->m.f l h (pQ K ι H Q)->r vs H Q
end
end
section
variable {K:Ab}
def aI (g:Int->Int->PV):M2:=⟨fun x y h Q=>match x,y with | .int i,.int j=>Q (g i j) h | _,_=>False,fun f q=>by
 revert q
 split
 ·exact f _ _
 ·exact fun z=>z⟩
def aIc (C:Int->Int->Prop) (g:Int->Int->PV):M2:=⟨fun x y h Q=>match x,y with | .int i,.int j=>C i j/\Q (g i j) h | _,_=>False,fun f q=>by
 revert q
 split
 ·exact fun q=>⟨q.1,f _ _ q.2⟩
 ·exact fun z=>z⟩
def JJ {g:Int->Int->PV}{g':Int->Int->V} (hg:∀ι H i j,VR K ι H (g' i j) (g i j)):M2.Ok K (UN g') (aI g):=by
 intro ι H h u v x y Q hr hu hv q;unfold aI at q;dsimp only at q;revert q
 split
 ·intro q;cases hu;cases hv;exact⟨_,_,rfl,rfl,q ι _ H (Go.refl _ _) hr (hg _ _ _ _)⟩
 ·exact Bl
def Hu {C:Int->Int->Prop}{g:Int->Int->PV}{g':Int->Int->V} (hg:∀ι H i j,VR K ι H (g' i j) (g i j)):M2.Ok K (rI C g') (aIc C g):=by
 intro ι H h u v x y Q hr hu hv q;unfold aIc at q;dsimp only at q;revert q
 split
 ·intro q;cases hu;cases hv;exact⟨_,_,rfl,rfl,q.1,q.2 ι _ H (Go.refl _ _) hr (hg _ _ _ _)⟩
 ·exact Bl
def rG:=aI fun i j=>.int (i-j)
def rH:=aIc IntMulOk fun i j=>.int (i*j)
def oDiv:=aIc W3 fun i j=>.int (i / j)
def oMod:=aIc (fun _ j=>0 < j) fun i j=>.int (i % j)
def IB:=aIc TQ fun i j=>.int (i ^ j.toNat)
def oLt:=aI fun i j=>.bl (decide (i < j))
def oLe:=aI fun i j=>.bl (decide (i<=j))
def oGt:=aI fun i j=>.bl (decide (j < i))
def oGe:=aI fun i j=>.bl (decide (j<=i))
section
variable {ι:List Addr}{H:Hp}
def aM.kC:∀{vs:List V}{l:List PV},aM K ι H vs l->(vs=[]↔l=[])
 | _,_,.nil=>by simp
 | _,_,.cons _ _=>by simp
end
mutual
def PV.dat:PV->Bool
 | .tup l=>yH l
 | .ref _=>false
 | .ty _=>false
 | .cl _=>false
 | .dv _ _=>false
 | _=>true
def yH:List PV->Bool
 | []=>true
 | x::l=>x.dat&&yH l
end
end
section
variable {K:Ab}
section
def PV.jZ:PV->Bool
 | .aQ=>true
 | _=>false
def OC:M2:=⟨fun x y h Q=>match y with | .aQ=>Q (.bl x.jZ) h | _=>False,fun f q=>by
 revert q
 split
 ·exact f _ _
 ·exact fun z=>z⟩
def Nb:M2:=⟨fun x y h Q=>match y with | .aQ=>Q (.bl (!x.jZ)) h | _=>False,fun f q=>by
 revert q
 split
 ·exact f _ _
 ·exact fun z=>z⟩
def za {ι:List Addr}{H:Hp}{v:V}{x:PV} (h:VR K ι H v x):decide (v=.aQ)=x.jZ:=by cases h <;> simp [PV.jZ]
def Vl:M2.Ok K (fun x y H Q=>y=.aQ/\Q (.bl (decide (x=.aQ))) H) OC:=by
 intro ι H h u v x y Q hr hu hv q;cases hv with
 | aQ=>exact⟨rfl,q ι _ H (Go.refl _ _) hr (by rw [za hu];exact .bl _)⟩
 | _=>exact q.elim
def Rt:M2.Ok K (fun x y H Q=>y=.aQ/\Q (.bl (!decide (x=.aQ))) H) Nb:=by
 intro ι H h u v x y Q hr hu hv q;cases hv with
 | aQ=>exact⟨rfl,q ι _ H (Go.refl _ _) hr (by rw [za hu];exact .bl _)⟩
 | _=>exact q.elim
def afV:M2:=⟨fun x y h Q=>match x,y with | .bl i,.bl j=>Q (.bl (i==j)) h | _,_=>False,fun f q=>by
 revert q
 split
 ·exact f _ _
 ·exact fun z=>z⟩
def nt:M2:=⟨fun x y h Q=>match x,y with | .bl i,.bl j=>Q (.bl (!(i==j))) h | _,_=>False,fun f q=>by
 revert q
 split
 ·exact f _ _
 ·exact fun z=>z⟩
def KJ:M2.Ok K (fun x y H Q=>∃i j,x=.bl i/\y=.bl j/\Q (.bl (!(i==j))) H) nt:=by
 intro ι H h u v x y Q hr hu hv q;cases hu <;> first
  | exact q.elim
  | (cases hv <;> first | exact q.elim | exact⟨_,_,rfl,rfl,q ι _ H (Go.refl _ _) hr (.bl _)⟩)
end
end
section
variable {K:Ab}
section
def QP {v v':V}{w:Value} (h:RelV v w) (h':RelV v' w):v=v':=Option.some.inj (h.abs.symm.trans h'.abs)
end
section
variable {X:Cx}{a b c e:Expr}
def mIx (a:MQ) (b:ME):ME:=⟨fun ps h Q=>a.run ps h fun S h1=>b.run ps h1 fun y h2=>match y with
 | .int k=>S.ok h2/\match cy S.items k with | some v=>Q v h2 | none=>False
 | _=>False,fun f q=>a.mono (fun _ _ q=>b.mono (fun _ _ q=>by
  revert q
  split
  ·rintro⟨q0,q⟩;refine⟨q0,?_⟩;revert q
   split
   ·exact f _ _
   ·exact fun z=>z
  ·exact fun z=>z) q) q⟩
def aM.cy {ι:List Addr}{H:Hp}{vs:List V}{l:List PV} (r:aM K ι H vs l) {k:Int}{p:PV} (e:L2.cy l k=some p):∃v,L2.cy vs k=some v/\VR K ι H v p:=by
 unfold L2.cy at e ⊢;rw [r.length];cases z:qt l.length k with
 | none=>rw [z] at e;cases e
 | some j=>
  rw [z] at e;exact r.get e
def Ru:M2:=⟨fun x y h Q=>match x,y with
 | .str z,.int k=>z.length<=sizeLine/\match L2.cy z.cps.toList k with | some c=>Q (.str ⟨#[c]⟩) h | none=>False
 | _,_=>False,fun f q=>by
  revert q
  split
  ·rintro⟨q0,q⟩;refine⟨q0,?_⟩;revert q
   split
   ·exact f _ _
   ·exact fun z=>z
  ·exact fun z=>z⟩
def Vk:M2.Ok K YI Ru:=by
 intro ι H h u v x y Q hr hu hv q;unfold Ru at q;dsimp only at q;revert q
 split
 ·rename_i z k;rintro⟨q0,q⟩;cases hu;cases hv;cases e:L2.cy z.cps.toList k with
  | none=>rw [e] at q;exact q.elim
  | some c=>rw [e] at q;exact⟨z,k,c,rfl,rfl,q0,e,q ι _ H (Go.refl _ _) hr (.str _)⟩
 ·exact Bl
def eI:zB:=⟨fun l h Q=>match l with
 | [.str y]=>y.length<=sizeLine/\Q (.int y.length) h
 | [.tup l]=>Q (.int l.length) h
 | [.cl l]=>Q (.int l.length) h
 | [.ref n]=>match h[n]? with
  | some (.lst xs)=>Q (.int xs.length) h
  | _=>False
 | _=>False,fun f q=>by
  revert q
  split
  ·exact fun q=>⟨q.1,f _ _ q.2⟩
  ·exact f _ _
  ·exact f _ _
  ·split
   ·exact f _ _
   ·exact fun z=>z
  ·exact fun z=>z⟩
def WI (K:Ab):zB.Ok K (YH K) eI:=by
 intro ι H h vs l Q hr hv q;unfold eI at q;dsimp only at q;revert q
 split
 ·intro q;cases hv with
  | cons x t=>cases t;cases x;exact⟨_,_,rfl,⟨q.1,rfl⟩,q.2 ι _ H (Go.refl _ _) hr (.int _)⟩
 ·intro q;cases hv with
  | cons x t=>
   cases t;cases x with
   | tup e r=>exact⟨_,_,rfl,.inr ⟨_,dD.of e,r.length.symm⟩,q ι _ H (Go.refl _ _) hr (.int _)⟩
 ·intro q;cases hv with
  | cons x t=>
   cases t;cases x with
   | cl e r=>exact⟨_,_,rfl,.inl ⟨_,e.sq,r.length.symm⟩,q ι _ H (Go.refl _ _) hr (.int _)⟩
 ·rename_i n;cases hv with
  | cons x t=>
   cases t;cases x with
   | @ref _ a e=>
   split
   ·rename_i xs hn;intro q;obtain⟨ws,e1,e2⟩:=hr.obj n a _ e hn;exact⟨_,_,rfl,.inl ⟨ws,df.of e1,e2.length.symm⟩,q ι _ H (Go.refl _ _) hr (.int _)⟩
   ·exact Bl
 ·exact Bl
inductive Kd where
 | str | tup | int | bool
def Kd.name:Kd->String
 | .str=>"str" | .tup=>"tuple" | .int=>"int" | .bool=>"bool"
def Kd.is:Kd->PV->Bool
 | .str,.str _=>true
 | .tup,.tup _=>true
 | .int,.int _=>true
 | .int,.bl _=>true
 | .bool,.bl _=>true
 | _,_=>false
def ab1 (K:Ab):List V->Hp->VK->Prop:=fun xs H Q=>∃x c t b,xs=[x,.ty c]/\(nT K H x t\/(t=.type "tuple"/\∃a vs,x=.ref a/\dD K H a vs))/\Bv K t (.type c)=some b/\Q (.bl b) H
def PB (K:Ab) (hK:X.K=K):bS X (.builtin "isinstance") (ab1 K):=by
 subst hK;intro pins s σ H xs us Q I r h;obtain⟨x,c,t,b,rfl,ty | ⟨rfl,a,vs,rfl,hT⟩,e,q⟩:=h
 ·exact tN pins s σ H _ us Q I r ⟨x,c,t,b,rfl,ty,e,q⟩
 ·obtain⟨u,w,rfl,r1,r2⟩:=vals2 r;cases r1;cases r2;obtain⟨au,_,⟨o,h1,h2,_⟩,_⟩:=I.tuple hT;exact Ba Fj I.yA ⟨o,h1,h2⟩ e (fun z=>nomatch z) fun tk=>⟨.bl b,H,I.tok _,rfl,q⟩
def uQ (K:Ab):(∀k:Kd,Bv K (.type "NoneType") (.type k.name)=some false)/\(∀k:Kd,Bv K (.type "list") (.type k.name)=some false)/\(∀k:Kd,Bv K (.type "dict") (.type k.name)=some false):=
 ⟨fun k=>by cases k <;> kernel_rfl,fun k=>by cases k <;> kernel_rfl,fun k=>by cases k <;> kernel_rfl⟩
def Zy (K:Ab) (b:Bool) (k:Kd):Bv K (.type "bool") (.type k.name)=some (k.is (.bl b)):=by cases k <;> kernel_rfl
def VF (K:Ab) (b:Int) (k:Kd):Bv K (.type "int") (.type k.name)=some (k.is (.int b)):=by cases k <;> kernel_rfl
def VE (K:Ab) (b:Str) (k:Kd):Bv K (.type "str") (.type k.name)=some (k.is (.str b)):=by cases k <;> kernel_rfl
def VD (K:Ab) (b:List PV) (k:Kd):Bv K (.type "tuple") (.type k.name)=some (k.is (.tup b)):=by cases k <;> kernel_rfl
def Ts:zB:=⟨fun l h Q=>match l with | [.int i]=>Q (.int (if i < 0 then -i else i)) h | _=>False,fun f q=>by
 revert q
 split
 ·exact f _ _
 ·exact fun z=>z⟩
def WK:zB.Ok K (fun xs H Q=>∃i,xs=[.int i]/\Q (.int (if i < 0 then -i else i)) H) Ts:=by
 intro ι H h vs l Q hr hv q;unfold Ts at q;dsimp only at q;revert q
 split
 ·intro q;cases hv with
  | cons x t=>cases t;cases x;exact⟨_,rfl,q ι _ H (Go.refl _ _) hr (.int _)⟩
 ·exact Bl
def xx:zB:=⟨fun l h Q=>match l with | [.int i]=>Q (.int i) h | [.bl k]=>Q (.int (if k then 1 else 0)) h | _=>False,fun f q=>by
 revert q
 split
 ·exact f _ _
 ·exact f _ _
 ·exact fun z=>z⟩
def WJ:zB.Ok K (fun xs H Q=>(∃i,xs=[.int i]/\Q (.int i) H)\/∃k,xs=[.bl k]/\Q (.int (if k then 1 else 0)) H) xx:=by
 intro ι H h vs l Q hr hv q;unfold xx at q;dsimp only at q;revert q
 split
 ·intro q;cases hv with
  | cons x t=>cases t;cases x;exact .inl ⟨_,rfl,q ι _ H (Go.refl _ _) hr (.int _)⟩
 ·intro q;cases hv with
  | cons x t=>cases t;cases x;exact .inr ⟨_,rfl,q ι _ H (Go.refl _ _) hr (.int _)⟩
 ·exact Bl
def Tq:zB:=⟨fun l h Q=>match l with | [.int i,.int j]=>Q (.int (if j > i then j else i)) h | _=>False,fun f q=>by
 revert q
 split
 ·exact f _ _
 ·exact fun z=>z⟩
def Tp:zB:=⟨fun l h Q=>match l with | [.int i,.int j]=>Q (.int (if j < i then j else i)) h | _=>False,fun f q=>by
 revert q
 split
 ·exact f _ _
 ·exact fun z=>z⟩
def WH:zB.Ok K (fun xs H Q=>∃i j,xs=[.int i,.int j]/\Q (.int (if j > i then j else i)) H) Tq:=by
 intro ι H h vs l Q hr hv q;unfold Tq at q;dsimp only at q;revert q
 split
 ·intro q;cases hv with
  | cons x t=>cases t with
   | cons y t=>cases t;cases x;cases y;exact⟨_,_,rfl,q ι _ H (Go.refl _ _) hr (.int _)⟩
 ·exact Bl
def WE:zB.Ok K (fun xs H Q=>∃i j,xs=[.int i,.int j]/\Q (.int (if j < i then j else i)) H) Tp:=by
 intro ι H h vs l Q hr hv q;unfold Tp at q;dsimp only at q;revert q
 split
 ·intro q;cases hv with
  | cons x t=>cases t with
   | cons y t=>cases t;cases x;cases y;exact⟨_,_,rfl,q ι _ H (Go.refl _ _) hr (.int _)⟩
 ·exact Bl
end
end
section
variable {K:Ab}
section
variable {X:Cx}{b e:Expr}
def QS (K:Ab):List V->Hp->VK->Prop:=fun xs H Q=>∃p ys,xs=[.ref p]/\((df K H p ys/\mn H (.tup ys) Q)\/(dD K H p ys/\Q (.ref p) H))
def Pw (K:Ab) (hK:X.K=K):bS X (.type "tuple") (QS K):=by
 subst hK;exact yI.mono fun xs H Q ⟨p,ys,e,h⟩=>⟨p,ys,e,h.imp (fun ⟨h1,h2⟩=>⟨h1,fun l hl=>h2.at l hl⟩) fun z=>z⟩
theorem sX {ι:List Addr}{H:Hp}:∀{bs:List Bool}{vs:List V},aM K ι H vs (bs.map PV.bl)->vs=bs.map V.bl
 | [],_,h=>by cases h;rfl
 | b::bs,_,h=>by
  cases h with
  | cons x t=>cases x;rw [sX t];rfl
structure MQL where
 run:HI->PH->(Src->PH->Prop)->Prop
 mono:∀{ps h}{Q Q':Src->PH->Prop},(∀v h',Q v h'->Q' v h')->run ps h Q->run ps h Q'
structure MO where
 run:HI->PH->(Option Int->PH->Prop)->Prop
 mono:∀{ps h}{Q Q':Option Int->PH->Prop},(∀v h',Q v h'->Q' v h')->run ps h Q->run ps h Q'
def PO.imp {e:Option Expr}{t t':TO} (h:L2.PO X e t) (f:∀σ H Q,t' σ H Q->t σ H Q):L2.PO X e t':=fun pins s σ H Q I q=>h pins s σ H Q I (f _ _ _ q)
def pq (xs:List PV) (lo hi:Option Int):List PV:=(xs.drop (HT.ef xs.length 0 lo)).take (HT.ef xs.length xs.length hi-HT.ef xs.length 0 lo)
def aM.cut {ι:List Addr}{H:Hp}{vs:List V}{l:List PV} (r:aM K ι H vs l) (lo hi:Option Int):aM K ι H (Hh vs lo hi) (pq l lo hi):=by
 unfold Hh pq;rw [r.length];exact (r.drop _).take _
end
end
section
variable {K:Ab}
section
variable {X:Cx}{a c e:Expr}{p:Pos}
def j5 (lo:Int) (n:Nat):List PV:=(Av n).map fun (i:Nat)=>.int (lo+(i:Int))
def j3 (lo:Int) (n:Nat):(j5 lo n).length=n:=by unfold j5;simp
def sf {lo:Int}{n i:Nat}{p:PV} (h:(j5 lo n)[i]?=some p):i < n/\p=.int (lo+i):=by
 unfold j5 at h;rw [Ai] at h;cases z:(Av n)[i]? with
 | none=>rw [z] at h;cases h
 | some k=>
  rw [z] at h;obtain⟨h1,h2⟩:=Ak.mp z;simp at h1 h2;subst h2;exact⟨h1,(Option.some.inj h).symm⟩
def n8 (lo:Int) (n:Nat):List PV:=(Av n).map fun (i:Nat)=>.int (lo-(i:Int))
def zm (lo:Int) (n:Nat):(n8 lo n).length=n:=by unfold n8;simp
def sM {lo:Int}{n i:Nat}{p:PV} (h:(n8 lo n)[i]?=some p):i < n/\p=.int (lo-i):=by
 unfold n8 at h;rw [Ai] at h;cases z:(Av n)[i]? with
 | none=>rw [z] at h;cases h
 | some k=>
  rw [z] at h;obtain⟨h1,h2⟩:=Ak.mp z;simp at h1 h2;subst h2;exact⟨h1,(Option.some.inj h).symm⟩
def UB (i:Int):Prop:=-(2 ^ 62)<=i/\i < 2 ^ 62
def aes (m:MA):MI:=⟨fun ps h Q=>m.run ps h fun l h1=>match l with | [.int j]=>UB j/\Q ⟨j5 0 j.toNat,fun _=>True,false⟩ h1 | _=>False,fun f q=>m.mono (fun l h1 q=>by
 revert q
 split
 ·exact fun q=>⟨q.1,f _ _ q.2⟩
 ·exact fun z=>z) q⟩
def eG (k:Nat):List PV->List PV
 | []=>[]
 | x::l=>.tup [.int (k:Int),x]::eG (k+1) l
theorem cH:∀(k:Nat) (l:List PV),(eG k l).length=l.length
 | _,[]=>rfl
 | k,x::l=>by rw [eG,Ao,Ao,cH]
theorem iq:∀{k:Nat}{l:List PV}{i:Nat}{p:PV},(eG k l)[i]?=some p->∃x,l[i]?=some x/\p=.tup [.int ((k+i:Nat):Int),x]
 | _,[],_,_,h=>by simp [eG] at h
 | k,x::l,0,p,h=>by simp [eG] at h;subst h;exact⟨x,rfl,by simp⟩
 | k,x::l,i+1,p,h=>by
  obtain⟨y,h1,h2⟩:=iq (k:=k+1) (l:=l) (i:=i) (p:=p) (by simpa [eG] using h);exact⟨y,by simpa using h1,by rw [h2,show k+1+i=k+(i+1) by omega]⟩
def ZN (K:Ab) (t1:TE):TI:=fun σ H R=>t1 σ H fun x H1=>∃a,x=.ref a/\(((∃xs,df K H1 a xs)/\R (ad8 K a) H1)\/((∃xs,dD K H1 a xs)/\R (Ite K a) H1))
def Q6 {X:Cx} (K:Ab) (hK:X.K=K) {e1:Expr}{t1:TE}{elts:List Expr}{kk:Nat}{tp p1 p2:Pos} (hg:Gl X "enumerate") (hm:X.mg "enumerate"=none) (h1:PE X e1 t1)
  (Je:starEach [e1] X.env=(false,eval e1 X.env)::starEach [] X.env:=by rfl):PI X (.Tuple elts kk tp) (.Call (.Name "enumerate" p1) [e1] [] p2) (ZN K t1):=by
 subst hK;intro pins s σ H R I h;refine BH (kH I hg hm boot_enumerate ?_ (by decide) (by decide));refine Bh ?_ Je rfl;rw [Je];show wpAny _ _ (spliced ((false,eval e1 X.env)::backTo p2 (starEach [] X.env))) _ _ s;refine B9 (bD (h1 pins s σ H _ I h) fun u1 s1 ⟨x,H1,I1,r1,a,ex,hh⟩=>Ct ?_);subst ex;cases r1;have d1:s1.heap.objs.size+1≠s1.heap.objs.size:=Nat.succ_ne_self _;rcases hh with⟨⟨xs,hx⟩,q⟩ | ⟨⟨xs,hx⟩,q⟩
 ·obtain⟨au,rx,tx,_⟩:=I1.list hx;refine call_enumerate_list tx.isList fun h' ze hi _ k=>?_;refine CY ze ?_;refine⟨_,_,_,_,H1,rfl,I1.kept (t':=s1.toks) k,Kf d1,⟨⟨_,ze⟩,hi⟩,fun c hc=>?_,q⟩;have hle:s1.heap.objs.size<=c:=by
   simp only [Ay,BA,or_false] at hc;rcases hc with rfl | rfl
   ·exact Bz _ _
   ·exact An _
  exact I1.GX hle (I1.bG.fresh hle)
 ·obtain⟨au,rx,tx,_⟩:=I1.tuple hx;have l1:a < s1.heap.objs.size:=let ⟨_,e,_⟩:=tx;Ar e;refine L5 tx fun h' ze hi k=>?_;refine CY ze ?_;refine⟨_,_,_,_,H1,rfl,I1.kept (t':=s1.toks) k,N8 d1 (AI (AA l1 (Bz _ 1))) (AI l1),⟨⟨_,ze⟩,hi⟩,fun c hc=>?_,q⟩;have hle:s1.heap.objs.size<=c:=by
   simp only [Ay,BA,or_false] at hc;rcases hc with rfl | rfl
   ·exact Bz _ _
   ·exact An _
  exact I1.GX hle (I1.bG.fresh hle)
def gV:List PV->List PV->List PV
 | x::l,y::m=>.tup [x,y]::gV l m
 | _,_=>[]
theorem pI:∀{l m:List PV}{i:Nat}{p:PV},(gV l m)[i]?=some p->∃x y,l[i]?=some x/\m[i]?=some y/\p=.tup [x,y]
 | [],m,i,p,h=>by simp [gV] at h
 | x::l,[],i,p,h=>by simp [gV] at h
 | x::l,y::m,0,p,h=>by simp [gV] at h;subst h;exact⟨x,y,rfl,rfl,rfl⟩
 | x::l,y::m,i+1,p,h=>by
  obtain⟨u,w,h1,h2,h3⟩:=pI (l:=l) (m:=m) (i:=i) (p:=p) (by simpa [gV] using h);exact⟨u,w,by simpa using h1,by simpa using h2,h3⟩
end
end
section
variable {K:Ab}
section
def Xz:M2:=aI fun i j=>.int (i+j)
def acM {g:Int->Int->Int}:M2.Ok K (ipI g) (aI fun i j=>.int (g i j)):=by
 intro ι H h u v x y Q hr hu hv q;unfold aI at q;dsimp only at q;revert q
 split
 ·intro q;cases hu;cases hv;exact⟨_,_,rfl,rfl,q ι _ H (Go.refl _ _) hr (.int _)⟩
 ·exact Bl
end
end
section
variable {X:Cx}{K:Ab}{b:Expr}{p:Pos}
section
structure JC (X:Cx) (K:Ab) (op:CmpOp) (b:Expr) (m:M2):Prop where
 p:∃r,ir X (compareOp op) r/\M2.Ok K r m
 k:behindInMarks op b=false
def Np:JC X K .Lt b oLt:=⟨⟨_,acj,JJ fun _ _ _ _=>.bl _⟩,kB _⟩
def Nq:JC X K .LtE b oLe:=⟨⟨_,ack,JJ fun _ _ _ _=>.bl _⟩,kB _⟩
def Xy:JC X K .Gt b oGt:=⟨⟨_,acm,JJ fun _ _ _ _=>.bl _⟩,kB _⟩
def acJ:JC X K .GtE b oGe:=⟨⟨_,acn,JJ fun _ _ _ _=>.bl _⟩,kB _⟩
def Lv:JC X K .Is b OC:=⟨⟨_,Y8,Vl⟩,kB _⟩
def VL:JC X K .IsNot b Nb:=⟨⟨_,U9,Rt⟩,kB _⟩
def rX:JC X K .IsNot b nt:=⟨⟨_,IA,KJ⟩,kB _⟩
def ajm:M2:=⟨fun x y h Q=>match x,y with | .str i,.str j=>Q (.bl (decide (i.cps.toList < j.cps.toList))) h | _,_=>False,fun f q=>by
 revert q
 split
 ·exact f _ _
 ·exact fun z=>z⟩
def Vm:M2:=⟨fun x y h Q=>match x,y with | .str i,.str j=>Q (.bl (!(Builtin.Str.occurrences j i 0 j.length 1).isEmpty)) h | _,_=>False,fun f q=>by
 revert q
 split
 ·exact f _ _
 ·exact fun z=>z⟩
def ZH (hk:behindInMarks .In b=false):JC X K .In b Vm:=⟨⟨_,OA,by
 intro ι H h u v x y Q hr hu hv q;unfold Vm at q;dsimp only at q;revert q
 split
 ·intro q;cases hu;cases hv;exact⟨_,_,rfl,rfl,q ι _ H (Go.refl _ _) hr (.bl _)⟩
 ·exact Bl⟩,hk⟩
end
end
theorem Jx:∀{l:List PV},yH l=true↔∀x∈l,x.dat=true
 | []=>by simp [yH]
 | x::l=>by rw [yH,AM,Jx];simp
section
variable {K:Ab}
section
variable {X:Cx}{a b c e:Expr}
def SW {ι:List Addr}{H:Hp}{vs:List V}{l:List PV} (h:aM K ι H vs l):vs.isEmpty=l.isEmpty:=by cases h <;> rfl
def aM.rep {ι:List Addr}{H:Hp}{vs:List V}{l:List PV} (h:aM K ι H vs l):∀k:Nat,aM K ι H (Al k vs).flatten (Al k l).flatten
 | 0=>.nil
 | k+1=>by
  rw [Br,Br,BX,BX];exact h.append (h.rep k)
def QT:V->List V->Hp->VK->Prop:=fun x vs H Q=>∃(l:Addr) (ns:List Int) (k:Int),x=.ref l/\vs=[.int k]/\H l=some (.lst (ns.map V.int))/\k∈ns/\HN H l (.lst ((ns.erase k).map V.int)) (Q .aQ)
theorem ints_get:∀{us:List Value}{ns:List Int},IntsAre us ns->∀(i:Nat) (hi:i < us.length),∃n t,ns[i]?=some n/\us[i]=.int n t
 | _,_,.nil,i,hi=>by simp at hi
 | _,_,.cons _ _ r,i,hi=>by
  cases i with
  | zero=>exact⟨_,_,rfl,rfl⟩
  | succ i=>exact ints_get r i (by simpa using hi)
theorem R8 {k:Int}:∀{ns:List Int}{m:Nat},ns[m]?=some k->ns.idxOf k<=m
 | [],m,h=>by simp at h
 | a::ns,0,h=>by
  have:a=k:=by simpa using h
  subst this;simp
 | a::ns,m+1,h=>by
  have:=R8 (ns:=ns) (m:=m) (by simpa using h);rw [List.idxOf_cons];by_cases c:a=k
  ·have:(a==k)=true:=by simpa using c
   rw [this];exact A3 _
  ·have c2:(a==k)=false:=by simpa using c
   rw [c2];exact Nat.succ_le_succ this
theorem zj {α β:Type} (f:α->β):∀(l:List α) (j:Nat),(l.eraseIdx j).map f=(l.map f).eraseIdx j
 | [],_=>rfl
 | a::l,0=>rfl
 | a::l,j+1=>by
  show f a::(l.eraseIdx j).map f=f a::(l.map f).eraseIdx j;rw [zj f l j]
def isK (k:Int):Value->Bool
 | .int a _=>a==k
 | _=>false
def ye {vs:List V}{us:List Value} (r:Vals vs us):∀j,Vals (vs.eraseIdx j) (us.eraseIdx j):=by
 induction r with
 | nil=>intro j;exact .nil
 | cons h r ih=>
  intro j;cases j with
  | zero=>exact r
  | succ j=>exact .cons h (ih j)
def KR:Qi X "list.remove" QT:=by
 intro pins s σ H x vs v us Q I rx rv h;obtain⟨l,ns,k,rfl,rfl,hH,hk,q⟩:=h;cases rx;obtain⟨u,rfl,ru⟩:=rv.one;obtain⟨t,rfl⟩:=ru;obtain⟨z,au,n,r,hl,e⟩:=I.rK hH;have hi:=intsAre_of r;have hlen:ns.length=au.length:=by rw [Af] at hl;omega
 have hj:ns.idxOf k < ns.length:=BI hk;have hej:ns.erase k=ns.eraseIdx (ns.idxOf k):=by rw [List.erase_eq_eraseIdx_of_idxOf rfl]
 refine call_meets F.slot_list_remove ⟨_,e,rfl⟩ F.entry_list_remove (F.args_list_remove_2 _ _) (MeetsSeq.list_remove l au.toArray n (.int k t) (isK k) (fun y hy=>?_) (ns.idxOf k) (by rw [Ah];omega) ?_ (fun m hm mF=>?_) (by rw [Ah];omega)) ⟨e,?_⟩
 ·have VU:y∈au:=by simpa using hy
  obtain⟨i,hi2⟩:=CA VU;obtain⟨h1,h2⟩:=Ak.mp hi2;obtain⟨n',t',g1,g2⟩:=ints_get hi i h1;rw [<- h2,g2];exact MeetsSeq.EqGives.int _ _ _ _
 ·have h1:ns.idxOf k < au.length:=by omega
  obtain⟨n',t',g1,g2⟩:=ints_get hi (ns.idxOf k) h1;have g3:ns[ns.idxOf k]?=some k:=by rw [Ad hj,List.getElem_idxOf hj]
  rw [g3] at g1;cases g1;show isK k au.toArray[ns.idxOf k]=true;rw [Dk,g2];simp [isK]
 ·have h1:m < au.length:=by rw [Ah] at hm;exact hm
  obtain⟨n',t',g1,g2⟩:=ints_get hi m h1;show isK k au.toArray[m]=false;rw [Dk,g2];have:n'≠k:=fun z=>by
   subst z;have:=R8 g1;omega
  simp [isK,this]
 ·refine⟨.aQ,_,I.K3 (its':=au.eraseIdx (ns.idxOf k)) (ys:=(ns.erase k).map V.int) hH e (by simp [Array.toList_eraseIdxIfInBounds,<- Es]) ?_ ?_,rfl,q.at⟩
  ·rw [hej,zj];exact ye r _
  ·rw [hej,Af,List.length_eraseIdx]
   split <;> omega
theorem qx {ι:List Addr}{H:Hp}:∀{ns:List Int}{vs:List V},aM K ι H vs (ns.map PV.int)->vs=ns.map V.int
 | [],_,h=>by cases h;rfl
 | b::bs,_,h=>by
  cases h with
  | cons x t=>cases x;rw [qx t];rfl
theorem qz (ι:List Addr) (H:Hp):∀ns:List Int,aM K ι H (ns.map V.int) (ns.map PV.int)
 | []=>.nil
 | n::ns=>.cons (.int n) (qz ι H ns)
def YE (K:Ab):List V->Hp->VK->Prop:=fun xs H Q=>∃(p:Addr) (ns:List Int),xs=[.ref p]/\df K H p (ns.map V.int)/\ns.length < 64/\∀ms:List Int,ms.Perm ns->ms.Pairwise (·<=·)->mn H (.lst (ms.map V.int)) Q
def L1 (K:Ab) (hK:X.K=K):bS X (.builtin "sorted") (YE K):=by
 subst hK;intro pins s σ H xs us Q I r h;obtain⟨p,ns,rfl,hq,h64,q⟩:=h;obtain⟨u,rfl,rx⟩:=vals1 r;cases rx;obtain⟨au,r',pl,hz⟩:=I.list hq;have hi:=intsAre_of r';have hl:=r'.length;rw [Af] at hl hz;refine PyProof.Rows.sorted_ints pl.isList hi (by omega) fun out ms a1 a2 a3=>?_;obtain⟨e,he⟩:=sortedAll_at s.heap au out;refine⟨.ref (s.heap.objs.size+1),_,I.laid (t':=s.toks) (fun _ _=>sortedAll_old) (E4 _) (show bj X.prog X.w _ _ _ (.lst (ms.map V.int)) from⟨?_,out.toList,e,rh a1,?_⟩),rfl,(q ms a2 a3).at _ (I.bG.fresh (E4 _))⟩
 ·rw [Af,a2.length_eq];exact hz
 ·rw [Array.toArray_toList];exact he
end
end
end PL
namespace L2
open PySem PySem.Spec PyProof.Rows
def oG {prog:Program}{w:World}{A:Around}{E:Value->Shared->Prop}{s:Shared}{a:Addr}{o:Obj}{xs:Array Value}{k:Nat}{name:Str}{Q:Option Value->Shared->Prop}
  (hx:s.heap.get? a=some o) (hc:o.cls=.type "list") (qB:o.data=.seq xs k) (hd:o.dict=none) (ac5:typeLookup (.type "list") name=pure none) (ac4:(["__module__","__name__","__qualname__","__doc__","__annotations__"]:List Str).contains name=false) (hA:A.handled=none)
  (h:∀h' tk e,Heap.NewExcOf s.heap h' e "AttributeError"->Q none {s with heap:=h',toks:=tk}) (hsz:name.length+100<=sizeLine:=by size_fits) :
  wpAny (model prog w) A (getAttr? (.ref a) name) Q E s:=by
 obtain⟨c,dct,dat,sl⟩:=o;simp only at hc qB hd;subst hc qB hd;obtain⟨hp,g,d,tk,os⟩:=s;have hT:∀tk',(⟨hp,g,d,tk',os⟩:Shared).TypeIs (.ref a) "list":=fun _=>⟨_,hx,rfl⟩;have f1:=sub_AttributeError;have f3:=CH.lookup;have f4:=CH.bind (.ref a);have f5:=am_list_getattr_none;unfold getAttr? getAttrBy? getAttrBy
 repeat (any_goals (first | assumption | exact hT _ | ((with_reducible show wpAny _ _ (call (Value.builtin "list.__getattribute__") _ _) _ _ _);refine call_meets CH (hT _) am_entry_list_getattribute (F.args_list_getattribute_2 _ _) (meets_getattribute_miss_list a xs k sl name _ ac5 ac4 hsz) ⟨hx,hA,fun h' tk' e zc=>?_⟩) | wp_step))
 obtain⟨t',u',he⟩:=zc.there;show wpAny _ _ (getattributeRaised _ _ _ _ _ _ _) _ _ _;unfold getattributeRaised
 repeat (any_goals (first | assumption | wp_step))
 exact h _ _ _ zc.of
def jc:entryFor table "dict.update.loop"=some Builtin.«dict.update.loop»:=entryFor_of_fast (by kernel_rfl)
def di:plainId "dict.update.loop"=true:=by decide +kernel
section
variable {prog:Program}{w:World}{K:Type} [DecidableEq K] {knd:KeyKind prog w K}{A:Around}{R:Result->Shared->Prop}
def HD (knd:KeyKind prog w K) (h:Heap) (it d:Addr) (v:Value) (x:List K×Addr×Value):Prop:=
 ∃pa o n,v=.ref pa/\pa≠it/\pa≠d/\x.2.1≠it/\x.2.1≠d/\h.get? pa=some o/\o.cls=.type "tuple"/\o.data=.seq #[.ref x.2.1,x.2.2] n/\(tupleKind knd).is h x.1 x.2.1
def zV {h h':Heap}{k:List K}{b:Addr} (x:(tupleKind knd).is h k b) (kp:∀o,h.get? b=some o->h'.get? b=some o):(tupleKind knd).is h' k b:=by
 obtain⟨o,au,n,h1,h2⟩:=x;exact⟨o,au,n,kp _ h1,h2⟩
def HD.keep {h h':Heap}{it d:Addr}{v:Value}{x:List K×Addr×Value} (p:HD knd h it d v x) (kp:∀b o,b≠it->b≠d->h.get? b=some o->h'.get? b=some o):HD knd h' it d v x:=by
 obtain⟨pa,o,n,e,n1,n2,n3,n4,h1,h2,h3,h4⟩:=p;exact⟨pa,o,n,e,n1,n2,n3,n4,kp _ _ n1 n2 h1,h2,h3,zV h4 fun o q=>kp _ _ n3 n4 q⟩
def Hd {h h':Heap}{it d:Addr}{xs:List (List K×Addr×Value)} (m:h.DictOfH (tupleKind knd) d xs) (hd:d≠it) (hx:∀x∈xs,x.2.1≠it) (kp:∀b o,b≠it->h.get? b=some o->h'.get? b=some o):h'.DictOfH (tupleKind knd) d xs:=by
 obtain⟨o,es,ep,ho,hc,hd',he,his,hn⟩:=m;exact⟨o,es,ep,kp _ _ hd ho,hc,hd',he,fun x q=>zV (his x q) fun o z=>kp _ _ (hx x q) z,hn⟩
def HU {xs:List (List K×Addr×Value)}{k:List K}{b:Addr}{v:Value}{it:Addr} (hx:∀x∈xs,x.2.1≠it) (hb:b≠it):∀x∈storedH xs k b v,x.2.1≠it:=by
 intro x q;unfold storedH at q
 split at q
 ·obtain⟨y,hy,rfl⟩:=Az.mp q;have e:(putAt k v y).2.1=y.2.1:=by unfold putAt;split <;> rfl
  rw [e];exact hx y hy
 ·rcases Bj.mp q with q | q
  ·exact hx x q
  ·rw [Bw.mp q];exact hb
def HV {xs:List (List K×Addr×Value)}{k:List K}{b:Addr}{v:Value}:(storedH xs k b v).length<=xs.length+1:=by
 unfold storedH
 split <;> simp
def HM (hA:A.handled=none) (hu:A.units+1 < cLine) {d it l:Addr}{items:Array Value} (hz:items.size+items.size<=sizeLine) (hdi:d≠it) (hli:l≠it) (hld:l≠d) :
  ∀(k i:Nat) (ys xs:List (List K×Addr×Value)) (s:Shared),items.size-i=k->i<=items.size->ys.length=items.size-i->xs.length<=i->s.heap.IsListIter it l i->s.heap.IsList l items->s.heap.DictOfH (tupleKind knd) d xs->(∀x∈xs,x.2.1≠it)->
   (∀j x,ys[j]?=some x->∃v,items[i+j]?=some v/\HD knd s.heap it d v x)->
   (∀h' tk,h'.DictOfH (tupleKind knd) d (ys.foldl (fun a y=>storedH a y.1 y.2.1 y.2.2) xs)->(∀b o,b≠it->b≠d->s.heap.get? b=some o->h'.get? b=some o)->R (.ok (.ret .none)) {s with heap:=h',toks:=tk})->
   codeAny (model prog w) A (.builtin "dict.update.loop" ⟨[.ref d,.ref it,rawInt i,.none],[]⟩) R s:=by
 intro k
 induction k with
 | zero=>
  intro i ys xs s hk hi hy hxl hit hl hd hx hp q;have e0:ys=[]:=Dl (by omega);subst e0;refine codeAny_builtin jc ?_;rw [E1 di _];show wpAny _ A.in1 (pyNext (.ref it) >>= _) _ _ s;refine Aa (wpAny_pyNext_list_end (A:=A.in1) hA hit hl (by rw [EG];omega) fun h' ex=>?_);show wpAny _ A.in1 (Builtin.Dict.addKeywords d [] >>= _) _ _ _;have kp:∀b o,b≠it->s.heap.get? b=some o->h'.get? b=some o:=ex;exact Aa (Ag (Ag (q h' s.toks (Hd hd hdi hx kp) fun b o n1 _ e=>kp b o n1 e)))
 | succ k ih=>
  intro i ys xs s hk hi hy hxl hit hl hd hx hp q;have mF:i < items.size:=by omega
  match ys,hy,hp,q with
  | [],hy,_,_=>exact absurd hy (by simp only [A2];omega)
  | y::ys,hy,hp,q=>
  obtain⟨v,hv,pa⟩:=hp 0 y rfl;refine codeAny_builtin jc ?_;rw [E1 di _];show wpAny _ A.in1 (pyNext (.ref it) >>= _) _ _ s;refine Aa (wpAny_pyNext_list_item hit hl (by simpa using hv) fun h1 agF sb=>?_);have VC:∀b o,b≠it->s.heap.get? b=some o->h1.get? b=some o:=fun b o hb e=>(sb.2 b hb).trans e;have pa1:=pa.keep fun b o n1 _ e=>VC b o n1 e;have hd1:=Hd hd hdi hx VC;have hl1:h1.IsList l items:=let ⟨o,e,p⟩:=hl;⟨o,VC _ _ hli e,p⟩;obtain⟨p,o,n,rfl,n1,n2,n3,n4,g1,g2,g3,g4⟩:=pa1;show wpAny _ A.in1 (holding [Ax p] _ >>= _) _ _ _;refine Aa (A9 (Aa (wpAny_tryCatch ?_)));unfold Builtin.Dict.pairItems;refine Aa (Cf (T:="tuple") ⟨_,g1,g2⟩ ?_);rw [if_pos (by decide)];refine Aa (BC g1 g3 (Ag ?_));show wpAny _ A.in1 (holding [Ax y.2.1,y.2.2] (dictSet d (.ref y.2.1) y.2.2)) _ _ _;refine A9 (wpAny_dictSet_heap (knd:=tupleKind knd) (tupleKind_room_in1 hu) g4 hd1 (fun h2 hd2 sb2=>?_) (by omega));have kp2:∀b o,b≠d->h1.get? b=some o->h2.get? b=some o:=fun b o hb e=>(sb2.2 b hb).trans e;refine Ag ⟨plainId_quiet di _,?_⟩;have ei:((i:Int)+1)=((i+1:Nat):Int):=by omega
  have kp:∀b o,b≠it->b≠d->s.heap.get? b=some o->h2.get? b=some o:=fun b o a1 a2 e=>kp2 _ _ a2 (VC _ _ a1 e);show codeAny _ A (.builtin "dict.update.loop" ⟨[.ref d,.ref it,rawInt ((i:Int)+1),.none],[]⟩) R _;rw [ei];refine ih (i+1) ys (storedH xs y.1 y.2.1 y.2.2) _ (by omega) (by omega) (by rw [Ao] at hy;omega) (Bq HV (by omega)) ?_ ?_ hd2 (HU hx n3) (fun j x hj=>?_) (fun h' tk dd k3=>?_)
  ·obtain⟨o',e1,e2⟩:=agF;exact⟨o',kp2 _ _ (BF hdi) e1,e2⟩
  ·obtain⟨o',e1,e2⟩:=hl1;exact⟨o',kp2 _ _ hld e1,e2⟩
  ·obtain⟨v',h3,h4⟩:=hp (j+1) x hj;exact⟨v',by rw [show i+1+j=i+(j+1) by omega];exact h3,h4.keep kp⟩
  ·exact q h' tk dd fun b o a1 a2 e=>k3 b o a1 a2 (kp b o a1 a2 e)
end
def Gp:typeLookup (.type "list") (Ce "keys")=pure none:=am_miss_of_fast (by decide +kernel)
section
variable {prog:Program}{w:World}{K:Type} [DecidableEq K] {knd:KeyKind prog w K}{A:Around}{E:Value->Shared->Prop}{s:Shared}
def uB {l:Addr}{o:Obj}{items:Array Value}{n:Nat}{ys:List (List K×Addr×Value)}{Q:Value->Shared->Prop} (hA:A.handled=none) (hu:A.units+2 < cLine) (ho:s.heap.get? l=some o) (hc:o.cls=.type "list") (qB:o.data=.seq items n) (hd:o.dict=none)
  (hz:items.size+items.size<=sizeLine) (hy:ys.length=items.size)
  (hp:∀(j:Nat) (x:List K×Addr×Value),ys[j]?=some x->∃(pa:Addr) (op:Obj) (m:Nat),items[j]?=some (Ax pa)/\s.heap.get? pa=some op/\op.cls=.type "tuple"/\op.data=.seq #[Ax x.2.1,x.2.2] m/\(tupleKind knd).is s.heap x.1 x.2.1)
  (q:∀h' tk,(∀b o,s.heap.get? b=some o->h'.get? b=some o)->h'.DictOfH (tupleKind knd) s.heap.objs.size (ys.foldl (fun a y=>storedH a y.1 y.2.1 y.2.2) [])->Q (.ref s.heap.objs.size) {s with heap:=h',toks:=tk}) :
  wpAny (model prog w) A (call (.type "dict") [.ref l]) Q E s:=by
 refine callType_codes (Q₁:=fun obj s₁=>obj=.ref s.heap.objs.size/\s₁={s with heap:=s.heap.push {cls:=.type "dict",data:=.dict #[]}}) F.kt_called_dict (F.kt_typeCall_dict_1 _) F.entry_dict_init (kt_code_dict_new _ ⟨rfl,rfl⟩) ?_;rintro obj s₁ ⟨rfl,rfl⟩;have kp0:∀b o,s.heap.get? b=some o->(s.heap.push {cls:=.type "dict",data:=.dict #[]}).get? b=some o:=fun b o e=>Aj _ e;have V0:(s.heap.push {cls:=.type "dict",data:=.dict #[]}).DictOf knd s.heap.objs.size []:=Heap.DictOf.new s.heap;have ac3:(s.heap.push {cls:=.type "dict",data:=.dict #[]}).DictOfH (tupleKind knd) s.heap.objs.size []:=⟨_,#[],0,Aq _ rfl,⟨rfl,rfl,rfl⟩,rfl,rfl,fun x hx=>absurd hx (BA),E6⟩;have ls:∀b o,s.heap.get? b=some o->b≠s.heap.objs.size:=fun b o e z=>by subst z;exact A4 _ (Ar e)
 refine⟨V0.typeIs,F.args_dict_init_2 _ _,?_⟩;unfold Builtin.«dict.__init__»;refine Aa ?_;unfold Builtin.Dict.selfAndRest;refine Aa (wpAny_notOrdered_dict V0.typeIs ?_);show wpAny _ _ (pure (s.heap.objs.size,[Ax l])) _ _ _;refine Ag ?_;show wpAny _ _ (Builtin.Dict.updateFrom "dict.__init__" s.heap.objs.size (.ref l) [] .none) _ _ _;unfold Builtin.Dict.updateFrom;refine Aa (Cf (T:="list") ⟨_,kp0 _ _ ho,hc⟩ ?_);rw [if_pos (by decide)];refine Aa (oG (kp0 _ _ ho) hc qB hd Gp (by decide +kernel) hA (fun h1 tk e nx=>?_) (by decide));rw [if_pos (by rfl)];refine Aa (CO (Aa ?_));refine Cu (items:=items) ⟨_,nx.keeps _ _ (kp0 _ _ ho),hc,n,qB⟩ ?_;have hsz:s.heap.objs.size < h1.objs.size:=Ar (nx.keeps _ _ (Aq s.heap rfl));have VC:∀b o,s.heap.get? b=some o->(h1.push {cls:=.type "list_iterator",data:=.fields #[.ref l,.int 0 0]}).get? b=some o:=fun b o e=>Aj _ (nx.keeps _ _ (kp0 _ _ e));have ni:∀b o,s.heap.get? b=some o->b≠h1.objs.size:=fun b o e z=>by
  have h3:=Ar e;subst z;exact A4 _ (Nat.lt_trans h3 hsz)
 refine Ag ⟨plainId_quiet di _,?_⟩;refine HM (A:=A.in1) (knd:=knd) hA (by show A.units+1+1 < _;omega) (items:=items) (d:=s.heap.objs.size) (it:=h1.objs.size) (l:=l) hz (AI hsz) (ni _ _ ho) (ls _ _ ho) items.size 0 ys [] _ (DG _) (A3 _) (by rw [hy];rfl) (An _)
  ⟨_,Aq _ rfl,rfl,rfl⟩ ⟨_,VC _ _ ho,hc,n,qB⟩ ?_ (fun x hx=>nomatch hx) (fun j x hj=>?_) (fun h' tk' dd kp=>?_)
 ·refine Hd (it:=h1.objs.size) ac3 (AI hsz) (fun x hx=>nomatch hx) fun b o _ e=>Aj _ (nx.keeps _ _ e)
 ·obtain⟨pa,op,m,e1,e2,e3,e4,e5⟩:=hp j x hj;have kb:∃ob,s.heap.get? x.2.1=some ob:=let ⟨ob,_,_,z,_⟩:=e5;⟨ob,z⟩;obtain⟨ob,eb⟩:=kb;exact⟨.ref pa,by rw [AO];exact e1,pa,op,m,rfl,ni _ _ e2,ls _ _ e2,ni _ _ eb,ls _ _ eb,VC _ _ e2,e3,e4,zV e5 fun o z=>VC _ _ z⟩
 ·exact⟨rfl,q h' tk' (fun b o e=>kp b o (ni _ _ e) (ls _ _ e) (VC _ _ e)) dd⟩
end
structure Pz where
 pa:Addr
 k:List Key
 b:Addr
 v:V
def Pz.At (H:Hp) (z:Pz):Prop:=H z.pa=some (.tup [.ref z.b,z.v])/\H z.b=some (.tup (z.k.map kV))
def YK (K:Ab):List V->Hp->VK->Prop:=fun xs H Q=>∃(p:Addr) (zs:List Pz),xs=[.ref p]/\df K H p (zs.map fun z=>.ref z.pa)/\(∀z∈zs,z.At H)/\(zs.map (·.k)).Nodup/\zs.length<=1000/\mn H (.dT (zs.map fun z=>(z.k,z.v))) Q
theorem tI {K:Type} [DecidableEq K]:∀(ys xs:List (K×Addr×Value)),((xs++ys).map (·.1)).Nodup->ys.foldl (fun a y=>storedH a y.1 y.2.1 y.2.2) xs=xs++ys
 | [],xs,_=>by simp
 | y::ys,xs,h=>by
  have hn:atKey xs y.1=none:=by
   cases e:atKey xs y.1 with
   | none=>rfl
   | some p=>
    exfalso;rw [A6,Au] at h;have h2:=(Cv.mp h).2.2;have hm:y.1∈xs.map (·.1):=by
     by_cases hc:y.1∈xs.map (·.1)
     ·exact hc
     ·rw [atKey_none_of_get (fun j q hj=>?_)] at e
      ·cases e
      ·exact hc (Az.mpr ⟨_,Bo hj,rfl⟩)
    exact h2 _ hm _ Bx rfl
  rw [List.foldl_cons,storedH_new hn,tI ys (xs++[(y.1,y.2.1,y.2.2)]) (by simpa using h)];simp
section
variable {X:Cx}
def L6 (K:Ab) (hK:X.K=K) (hc:X.calm=true) (hu:X.A.units+2 < cLine):bS X (.type "dict") (YK K):=by
 subst hK;intro pins s σ H xs us Q I r h;obtain⟨p,zs,rfl,hq,hz,hn,hl,q⟩:=h;obtain⟨u,rfl,rx⟩:=vals1 r;cases rx;obtain⟨au,rv,pl,hsz⟩:=I.list hq;obtain⟨o,n,ho,T3,hd,qB⟩:=pl;have build:∀(zs:List Pz) (au:List Value),(∀z∈zs,z.At H)->Vals (zs.map fun z=>V.ref z.pa) au->∃ys:List (List Key×Addr×Value),ys.map (·.1)=zs.map (·.k)/\KT H (zs.map fun z=>(z.k,z.v)) ys/\
   ∀(j:Nat) (x:List Key×Addr×Value),ys[j]?=some x->∃(pa:Addr) (op:Obj) (m:Nat),au[j]?=some (Ax pa)/\s.heap.get? pa=some op/\op.cls=.type "tuple"/\op.data=.seq #[Ax x.2.1,x.2.2] m/\(tupleKind (bV X.prog X.w)).is s.heap x.1 x.2.1:=by
  intro zs
  induction zs with
  | nil=>intro au _ _;exact⟨[],rfl,.nil,fun j x h=>by simp at h⟩
  | cons z zs ih=>
   intro au ha hv;cases hv with
   | @cons _ u _ us ru rus=>
   cases ru;obtain⟨ys,e1,e2,e3⟩:=ih us (fun y hy=>ha y (AV _ hy)) rus;obtain⟨a1,a2⟩:=ha z Bx;obtain⟨_,its',r',op,h1,h2,m,h3⟩:=(show bj X.prog X.w H s.heap z.pa (.tup [.ref z.b,z.v]) from I.bG _ _ a1);obtain⟨w,rfl,ju⟩:∃w,its'=[Ax z.b,w]/\RelV z.v w:=by
    cases r' with
    | cons q1 q2=>cases q1;cases q2 with
     | cons q3 q4=>cases q4;exact⟨_,rfl,q3⟩
   refine⟨(z.k,z.b,w)::ys,by rw [Au,Au,e1],.cons ⟨rfl,a2,ju⟩ e2,fun j x hj=>?_⟩;cases j with
   | zero=>
    cases hj;exact⟨z.pa,op,m,rfl,h1,h2,h3,wu I.bG a2⟩
   | succ j=>exact e3 j x hj
 obtain⟨ys,e1,e2,e3⟩:=build zs au hz rv;have hlen:=rv.length;rw [Af] at hlen;have hyl:ys.length=zs.length:=by have:=congrArg BV e1;simpa using this
 have hs:(1000:Nat)+1000<=sizeLine:=by decide
 refine uB (knd:=bV X.prog X.w) (items:=au.toArray) (ys:=ys) (I.ok.hd hc) hu ho T3 qB hd (by rw [Ah];omega) (by rw [Ah];omega) (fun j x hj=>?_) (fun h' tk kp dd=>?_)
 ·obtain⟨pa,op,m,g1,g2⟩:=e3 j x hj;exact⟨pa,op,m,by rw [EU];exact g1,g2⟩
 ·rw [tI ys [] (by rw [Dx,e1];exact hn),Dx] at dd;obtain⟨od,es,ep,hq',h2,h3,h4,_,h5⟩:=dd;have agP:(s.heap.objs.size==sysModules)=false:=beq_eq_false_iff_ne.mpr (BF (AI I.big));have fr:=I.bG.fresh (An s.heap.objs.size);refine⟨.ref s.heap.objs.size,_,I.laid (t':=tk) kp (An _) (show bj X.prog X.w (upd H s.heap.objs.size (.dT (zs.map fun z=>(z.k,z.v)))) h' _ (.dT _) from⟨?_,agP,ys,?_,od,es,ep,hq',h2,h3,h4,h5⟩),rfl,q.at _ fr⟩
  ·rw [Af];exact Bq hl (by decide)
  ·refine e2.keeps fun c xs ec=>?_;rw [ay (fun z=>by subst z;rw [fr] at ec;cases ec)];exact ec
end
section
variable {prog:Program}{w:World}{A:Around}{E:Value->Shared->Prop}{s:Shared}
def WT (h:Heap) (d:Addr) (es:Array DictEntry) (ep:Nat):Prop:=∃o,h.get? d=some o/\o.ExactDict/\o.data=.dict es ep
def Nl:Builtin.Dict_items.ownsTuple "dict_keyiterator"=false:=by decide
def Ry {it d:Addr}{i ep:Nat}{es:Array DictEntry}{Q:Option Value->Shared->Prop} (hit:s.heap.IsKeyIter it d i es.size ep) (hm:WT s.heap d es ep) (hi:i < es.size)
  (q:∀h',h'.IsKeyIter it d (i+1) es.size ep->B3 it s.heap h'->Q (some es[i].key) {s with heap:=h'}):wpAny (model prog w) A (pyNext (.ref it)) Q E s:=by
 have ty:=hit.typeIs;obtain⟨o,ho,hc,hd⟩:=id hit;obtain⟨od,VZ,-,XF⟩:=hm;have ada:(s.heap.update it (Obj.mapFields (·.setIfInBounds 1 (rawInt ((i:Int)+1))))).IsKeyIter it d (i+1) es.size ep:=⟨_,Cq _ ho (ER (CN hd _)),(Obj.cls_mapFields ..).trans hc,by rw [CN hd];simp [rawInt]⟩;unfold pyNext;refine Aa (CI (AW (name:=Ce "__next__") ty BE (Bb BE ty De ?_ (C6 _))));refine Aa (Ag (Aa (Aa ?_)))
 first | refine Aa (BU ty (Ag ?_)) | refine Aa (Ci ty (Ag ?_))
 refine Aa (wpAny_fieldsOf ho hd ?_);rw [Nl];show wpAny _ _ (if (Ax d==AQ)=true then _ else _) _ _ s;rw [if_neg (fun z:(Ax d==AQ)=true=>AG z)];refine Aa (Ag (Aa (D6 VZ XF ?_)));rw [if_neg (by simp)];refine Aa (Ag (Aa (EL VZ XF ?_)));rw [if_neg (by simp)];refine Ag ?_;have i0:¬((i:Int) < 0):=by omega
 simp only [i0,if_false,AU,CC hi];refine Aa ?_
 first | refine Aa (BU ty (Ag ?_)) | refine Aa (Ci ty (Ag ?_))
 refine Aa (wpAny_isOneOf_keyiter ty ?_);show wpAny _ _ (setField (.ref it) 1 (rawInt ((i:Int)+1)) >>= _) _ _ s;refine Aa (DR ho hd (by simp) (Aa (A9 (Aa (wpAny_isOneOf_keyiter (s:={s with heap:=s.heap.update it (Obj.mapFields (·.setIfInBounds 1 (rawInt ((i:Int)+1))))}) ada.typeIs ?_)))));show wpAny _ _ (pure es[i].key) _ _ _;exact Ag (Ag ⟨_,rfl,Ag (q _ ada (B3.update ..))⟩)
def Wn {it d:Addr}{i ep:Nat}{es:Array DictEntry}{Q:Option Value->Shared->Prop} (hh:A.handled=none) (hit:s.heap.IsKeyIter it d i es.size ep) (hm:WT s.heap d es ep) (hi:es.size<=i)
  (q:∀h',FE it s.heap h'->Q none {s with heap:=h'}):wpAny (model prog w) A (pyNext (.ref it)) Q E s:=by
 have ty:=hit.typeIs;obtain⟨o,ho,hc,hd⟩:=id hit;obtain⟨od,VZ,-,XF⟩:=hm;unfold pyNext;refine Aa (CI (AW (name:=Ce "__next__") ty BE (Bb BE ty De ?_ (C6 _))));refine Aa (Ag (Aa (Aa ?_)))
 first | refine Aa (BU ty (Ag ?_)) | refine Aa (Ci ty (Ag ?_))
 refine Aa (wpAny_fieldsOf ho hd ?_);rw [Nl];show wpAny _ _ (if (Ax d==AQ)=true then _ else _) _ _ s;rw [if_neg (fun z:(Ax d==AQ)=true=>AG z)];refine Aa (Ag (Aa (D6 VZ XF ?_)));rw [if_neg (by simp)];refine Aa (Ag (Aa (EL VZ XF ?_)));rw [if_neg (by simp)];refine Ag ?_;have i0:¬((i:Int) < 0):=by omega
 simp only [i0,if_false,AU,EG hi];refine Aa ?_
 first | refine Aa (BU ty (Ag ?_)) | refine Aa (Ci ty (Ag ?_))
 show wpAny _ _ (setField (.ref it) 0 .none >>= _) _ _ s;refine Aa (DR ho hd (by simp) ?_);show wpAny _ _ (newExc (.type "StopIteration") [] >>= _) _ _ _;refine Aa ?_;unfold newExc newTuple;refine Aa (Bn (Aa (m:=firstArgMember _ _) (Cn (a:=AQ) (by first | rfl | (simp only [firstArgMember];rfl)) (Bn ?_ (by size_fits)))) (by size_fits));unfold raiseNew;refine Aa (wpAny_handled ?_);rw [show A.in1.handled=none from hh];refine Aa (Ag (wpAny_throw ?_));refine Aa (C8 (T:="StopIteration") (b:=true) ⟨_,Aq _ rfl,rfl⟩ isSubtype_stop ?_);exact Ag (q _ (((B3.update ..).extBut.push _).push _))
def R3 {d:Addr}{es:Array DictEntry}{ep:Nat}{Q:Value->Shared->Prop} (hs:(d==sysModules)=false) (hm:WT s.heap d es ep)
  (q:Q (.ref s.heap.objs.size) {s with heap:=s.heap.push {cls:=.type "dict_keyiterator",data:=.fields #[.ref d,.int 0 0,.int es.size 0,.int ep 0]}}):wpAny (model prog w) A (pyIter (.ref d)) Q E s:=by
 obtain⟨od,VZ,hx,XF⟩:=hm;have ty:s.TypeIs (.ref d) "dict":=⟨_,VZ,hx.1⟩;refine wpAny_pyIter_slot ty F.slot_dict_iter (Bb F.slot_dict_iter ty F.entry_dict_iter ?_ (F.args_dict_iter_1 _));unfold Builtin.«dict.__iter__»;refine Aa ?_;unfold Builtin.Dict.dictSlotNone;refine Aa (wpAny_notOrdered_dict ty ?_);show wpAny _ _ (pure (Ax d)) _ _ s;refine Ag ?_;show wpAny _ _ (Builtin.Dict.showsAll d >>= _) _ _ s;unfold Builtin.Dict.showsAll;rw [if_neg (by rw [hs];exact AG)];refine Aa (Ag (Aa (D6 VZ XF (Aa (EL VZ XF ?_)))));exact Aa (Bn (Ag ⟨_,rfl,"dict_keyiterator",_,⟨_,Aq _ rfl,rfl⟩,BE.lookup,q⟩))
end
section
variable {X:Cx}{pins:List (Addr×Obj)}{σ:St}{H:Hp}{s:Shared}{a:Addr}{kvs:List (List Key×V)}
def Inv.freeze (I:Inv X pins σ H s) (e:H a=some (.dT kvs)):∃o,Inv X pins σ (upd H a (.cV o (.dT kvs))) s:=by
 obtain⟨z,hs,xs,r,o,es,ep,h1,h2,h3,h4,h5⟩:=(show bj X.prog X.w H s.heap a (.dT kvs) from I.bG a _ e);refine⟨o,?_⟩;have q:=I.write (x:=a) (e:=a) (o:=.cV o (.dT kvs)) (h':=s.heap) (t':=s.toks) (by rw [e];exact B7) (.inl rfl) (fun b u _ z=>z) ⟨o,h1⟩
  ⟨h1,z,hs,xs,KT.keeps r fun b ys eb=>by rw [ay (Nf eb e (fun z=>nomatch z))];exact eb,o,es,ep,h1,h2,h3,h4,h5⟩
 exact q
def Inv.abo {o:Obj}{u:HO} (I:Inv X pins σ H s) (e:H a=some (.cV o u)) (h0:∀o u,X.H₀ a≠some (.cV o u)) (hu:bj X.prog X.w (upd H a u) s.heap a u) (bG:nJ X.prog X.w (upd H a u) s.heap):Inv X pins σ (upd H a u) s:=by
 have ne:∀b v,H b=v->v≠some (.cV o u)->b≠a:=fun b v q n z=>by subst z;exact n (q.symm.trans e)
 refine⟨I.ok,I.os,I.bare,⟨I.base.keep,I.base.slot,fun b ob q n hx=>?_,I.base.there,fun b xs q=>?_,fun b ob xs q=>?_,fun b ps q=>?_⟩,I.loc,I.cell,?_,fun x c q=>?_,fun p hp=>?_,bG,I.len⟩
 ·have:=I.base.free b ob q n hx;rw [ay (ne b _ this (by simp))];exact this
 ·have:=I.base.eY b xs q;rw [ay (ne b _ this (by simp))];exact this
 ·have:=I.base.uy b ob xs q;have hb:b≠a:=fun z=>by subst z;exact h0 _ _ q
  rw [ay hb];exact this
 ·obtain⟨m,this⟩:=I.base.zX b ps q;exact⟨m,by rw [ay (ne b _ this (by simp))];exact this⟩
 ·rw [ay (ne _ _ I.free (by simp))];exact I.free
 ·rw [ay (ne _ _ (I.lN x c q) (by simp))];exact I.lN x c q
 ·obtain⟨p1,p2,p3⟩:=I.pin p hp;exact⟨p1,by rw [ay (ne _ _ p2 (by simp))];exact p2,p3⟩
end
def ad9 (a:Addr) (o:Obj):It:=
 ⟨fun i H=>∃kvs,H a=some (.cV o (.dT kvs))/\i < kvs.length,fun i H x H'=>H'=H/\∀kvs,H a=some (.cV o (.dT kvs))->∃b k v,x=.ref b/\kvs[i]?=some (k,v)/\H b=some (.tup (k.map kV)),fun i H=>∃kvs,H a=some (.cV o (.dT kvs))/\kvs.length<=i⟩
def Sv {P:Program}{w:World}{H:Hp}{h:Heap}{a:Addr}{o:Obj}{kvs:List (List Key×V)}{es:Array DictEntry}{ep:Nat} (x:bj P w H h a (.cV o (.dT kvs))) (hd:o.data=.dict es ep) :
  WT h a es ep/\es.size=kvs.length/\∀(i:Nat) (hi:i < es.size),∃b k v,es[i].key=.ref b/\kvs[i]?=some (k,v)/\H b=some (.tup (k.map kV)):=by
 obtain⟨e,z,hs,xs,r,o',es',ep',h1,h2,h3,h4,h5⟩:=x;rw [e] at h1;cases h1;rw [hd] at h3;cases h3;have hl:es.size=xs.length:=by have:=congrArg BV h4;simpa using this
 refine⟨⟨o,e,h2,hd⟩,hl.trans (Paired.length r).symm,fun i hi=>?_⟩;have hx:xs[i]?=some (xs[i]'(by omega)):=Ad _;have pg:∀{l:List (List Key×V)}{m:List (List Key×Addr×Value)}{i:Nat}{q:List Key×Addr×Value},KT H l m->m[i]?=some q->∃v,l[i]?=some (q.1,v)/\H q.2.1=some (.tup (q.1.map kV)):=by
  intro l m i q t
  induction t generalizing i with
  | nil=>intro h;simp at h
  | @cons p q' ps qs hq t ih=>
   intro h;cases i with
   | zero=>
    cases h;obtain⟨p1,p2⟩:=p;have e1:p1=q.1:=hq.1;subst e1;exact⟨p2,rfl,hq.2.1⟩
   | succ i=>exact ih (by simpa using h)
 obtain⟨v,g1,g2⟩:=pg r hx;refine⟨_,_,v,?_,g1,g2⟩;have:es[i]=entryOfKey (tupleKind (bV P w)) (xs[i]'(by omega)):=by
  have h6:es.toList[i]?=some (entryOfKey (tupleKind (bV P w)) (xs[i]'(by omega))):=by rw [h4,Ai,hx];rfl
  rw [EW,CC hi] at h6;exact Option.some.inj h6
 rw [this];rfl
def N9 {P:Program}{w:World}{K:Ab}{tg:Expr} (a it:Addr) (o:Obj) {es:Array DictEntry}{ep:Nat} (hd:o.data=.dict es ep):Turn P w K tg (ad9 a o) [it] it (fun i h=>h.IsKeyIter it a i es.size ep) where
 mem:=by simp
 obj:=fun i h st b hb=>by
  have e:b=it:=by simpa using hb
  subst e;obtain⟨o,e,c,d⟩:=st;exact⟨o,e,fun v z=>by rw [d] at z;cases z⟩
 keep:=fun i h h' st k=>st.at fun o e=>k it (by simp) o e
 item:=by
  intro X hP hw hK hc i pins s σ H E I hf st hg;subst hP hw hK;obtain⟨kvs,hq,hx⟩:=hg;obtain⟨raw,hl,ky⟩:=Sv (I.bG a _ hq) hd;obtain⟨b,k,v,k1,k2,k3⟩:=ky i (by omega);obtain⟨f0,f1,f2,f3,f4,f5⟩:=hf it (by simp);refine Ry st raw (by omega) fun h' pG sb=>?_;have I1:Inv X pins σ H {s with heap:=h'}:=I.turned (t':=s.toks) (fun b o hb e=>(sb.2 b hb).trans e) f0 f1 f3 f4 f5;obtain⟨oi,e,c,d⟩:=id pG;refine⟨_,rfl,wL (s:={s with heap:=h'}) e c d (by decide) ⟨.ref b,H,I1,k1,⟨rfl,fun ajC hq'=>?_⟩,pG,fun b hb=>(hf b hb).1⟩⟩;rw [hq] at hq';cases hq';exact⟨b,k,v,rfl,k2,k3⟩
 done:=by
  intro X hP hw hK hc i pins s σ H E I hf st hg;subst hP hw hK;obtain⟨kvs,hq,hx⟩:=hg;obtain⟨raw,hl,ky⟩:=Sv (I.bG a _ hq) hd;obtain⟨f0,f1,f2,f3,f4,f5⟩:=hf it (by simp);exact Wn (I.ok.hd hc) st raw (by omega) fun h' eb=>⟨rfl,I.turned (t':=s.toks) (fun b o hb e=>eb b o hb e) f0 f1 f3 f4 f5⟩
 self:=fun _ _ _ _ _ st h=>wpAny_pyIter_keyiter st h
def ZO (tl:TE):TI:=fun σ H R=>tl σ H fun x H1=>∃a o kvs,x=.ref a/\H1 a=some (.cV o (.dT kvs))/\R (ad9 a o) H1
def Q7 {X:Cx}{tg l:Expr}{tl:TE} (hl:PE X l tl):PI X tg l (ZO tl):=by
 intro pins s σ H R I h;refine bD (hl pins s σ H _ I h) fun v s1 ⟨x,H1,I1,r1,q1⟩=>?_;obtain⟨a,o,kvs,e,hq,q⟩:=q1;subst e;cases r1;obtain⟨eo,z,hs,xs,r,o',es,ep,h1,h2,h3,h4,h5⟩:=(show bj X.prog X.w H1 s1.heap a (.cV o (.dT kvs)) from I1.bG a _ hq);rw [eo] at h1;cases h1;refine R3 hs ⟨o,eo,h2,h3⟩ ?_;refine⟨s1.heap.objs.size,[s1.heap.objs.size],_,_,H1,rfl,I1.kept (t':=s1.toks) fun b o e=>Aj _ e,N9 a _ o h3,⟨_,Aq _ rfl,rfl,rfl⟩,fun b hb=>?_,q⟩;have e:b=s1.heap.objs.size:=by simpa using hb
 subst e;exact I1.GX (An _) (I1.bG.fresh (An _))
end L2
namespace FL
section
open PySem PySem.Spec PyProof.Rows L2 PL
variable {K:Ab}
structure W (α:Type) where
 run:(α->Prop)->Prop
 mono:∀{Q Q':α->Prop},(∀a,Q a->Q' a)->run Q->run Q'
namespace W
variable {α β γ:Type}
def ext' {a b:W α} (h:∀Q,a.run Q↔b.run Q):a=b:=by
 cases a;cases b;congr;funext Q;exact propext (h Q)
def ret (a:α):W α:=⟨fun Q=>Q a,fun h q=>h _ q⟩
def bind (w:W α) (k:α->W β):W β:=⟨fun Q=>w.run fun a=>(k a).run Q,fun h q=>w.mono (fun a q=>(k a).mono h q) q⟩
def fail:W α:=⟨fun _=>False,fun _ q=>q⟩
def gB (p:Prop) (w:W α):W α:=⟨fun Q=>p/\w.run Q,fun h q=>⟨q.1,w.mono h q.2⟩⟩
def any (p:α->Prop):W α:=⟨fun Q=>∀a,p a->Q a,fun h q a pa=>h a (q a pa)⟩
def Rq:Option α->W α
 | some a=>ret a
 | none=>fail
@[simp] theorem ag (a:α) (k:α->W β):bind (ret a) k=k a:=(rfl)
@[simp] theorem bind_assoc (w:W α) (f:α->W β) (g:β->W γ):bind (bind w f) g=bind w fun a=>bind (f a) g:=(rfl)
@[simp] theorem ad0 (w:W α):bind w ret=w:=(rfl)
@[simp] theorem aaY (k:α->W β):bind fail k=fail:=(rfl)
@[simp] theorem ai (a:α) (Q:α->Prop):(ret a).run Q=Q a:=(rfl)
@[simp] theorem run_bind (w:W α) (k:α->W β) (Q:β->Prop):(bind w k).run Q=w.run fun a=>(k a).run Q:=(rfl)
@[simp] theorem abU (Q:α->Prop):(fail:W α).run Q=False:=(rfl)
@[simp] theorem aej (p Q:α->Prop):(any p).run Q=∀a,p a->Q a:=(rfl)
@[simp] theorem UK (p:Prop) (w:W α) (Q:α->Prop):(gB p w).run Q=(p/\w.run Q):=(rfl)
@[simp] theorem Tb (p:Prop) (w:W α) (k:α->W β):bind (gB p w) k=gB p (bind w k):=(rfl)
def ax {p:Prop}{w:W α} (h:p):gB p w=w:=ext' fun Q=>⟨fun q=>q.2,fun q=>⟨h,q⟩⟩
@[simp] theorem adV {w:W α}:gB True w=w:=ax trivial
@[simp] theorem aD (a:α):Rq (some a)=ret a:=(rfl)
@[simp] theorem acq:Rq (none:Option α)=fail:=(rfl)
end W
inductive SL where
 | val (v:PV) | adr (b:Addr) | ol (q:Option Addr) (l:List PV) | uK (bs:List Addr) (ls:List (List PV)) | od (kvs:List (Key×PV)) | ot (kvs:List (List Key×PV)) | iC (φ:List V->Prop)
abbrev aY:=List (Option SL)
def SL.own:SL->Bool
 | .val _=>false
 | .adr _=>false
 | _=>true
def SL.J1:SL->List Addr
 | .uK bs _=>bs
 | _=>[]
def SL.has (s:SL) (x a:Addr):Prop:=a=x\/a∈s.J1
def jh (K:Ab) (H:Hp) (a:Addr):SL->Prop
 | .val _=>False
 | .adr b=>a=b
 | .uK bs ls=>H a=some (.lst (bs.map V.ref))/\a∉bs/\bs.Nodup/\bs.length=ls.length/\∀(j:Nat) (b:Addr) (l:List PV),bs[j]?=some b->ls[j]?=some l->∃ws,H b=some (.lst ws)/\aM K [] H ws l
 | .ol q l=>(∀b,q=some b->a=b)/\∃vs,H a=some (.lst vs)/\aM K [] H vs l
 | .od kvs=>∃vs:List (Key×V),H a=some (.dK vs)/\vs.map (·.1)=kvs.map (·.1)/\aM K [] H (vs.map (·.2)) (kvs.map (·.2))
 | .ot kvs=>∃vs:List (List Key×V),H a=some (.dT vs)/\vs.map (·.1)=kvs.map (·.1)/\aM K [] H (vs.map (·.2)) (kvs.map (·.2))
 | .iC φ=>∃vs,H a=some (.lst vs)/\φ vs
def zy (K:Ab) (H:Hp) (u:V) (s:SL):Prop:=(∃v,s=.val v/\VR K [] H u v)\/∃a,u=.ref a/\jh K H a s
def dj (σ:L2.St) (fs:aY) (a:Addr):Prop:=∃(i:Nat) (s:SL) (x:Addr),fs[i]?=some (some s)/\s.own=true/\σ[i]?=some (some (.ref x))/\s.has x a
def fx (σ:L2.St) (fs:aY) (φ:List V->Prop) (a:Addr):Prop:=∃i:Nat,fs[i]?=some (some (.iC φ))/\σ[i]?=some (some (.ref a))
structure aW (K:Ab) (H:Hp) (σ:L2.St) (fs:aY):Prop where
 len:σ.length=fs.length
 at':∀(i:Nat) (s:SL),fs[i]?=some (some s)->∃u,σ[i]?=some (some u)/\zy K H u s
 nd:∀(i j:Nat) (s t:SL) (x y a:Addr),fs[i]?=some (some s)->fs[j]?=some (some t)->s.own=true->t.own=true->σ[i]?=some (some (.ref x))->σ[j]?=some (some (.ref y))->s.has x a->t.has y a->i=j
structure cI (σ:L2.St) (fs:aY) (H:Hp) (σ':L2.St) (bH:aY) (H':Hp):Prop where
 keep:∀a o,H a=some o->¬dj σ fs a->H' a=some o/\¬dj σ' bH a
 there:∀a,H' a=none->H a=none
 pk:∀a φ,fx σ fs φ a->fx σ' bH φ a\/(¬dj σ' bH a/\∃vs,H' a=some (.lst vs)/\φ vs)
structure cW (σ:L2.St) (fs:aY) (H H':Hp):Prop where
 keep:∀a o,H a=some o->(∀φ,¬fx σ fs φ a)->H' a=some o
 there:∀a,H' a=none->H a=none
section
variable {σ σ' σ1 σ2:L2.St}{fs bH V9 eu:aY}{H H' H1 H2:Hp}
def fx.F8 {φ:List V->Prop}{a:Addr} (p:fx σ fs φ a):dj σ fs a:=let ⟨i,e1,e2⟩:=p;⟨i,_,_,e1,rfl,e2,.inl rfl⟩
def cW.refl:cW σ fs H H:=⟨fun _ _ h _=>h,fun _ h=>h⟩
def cW.trans (a:cW σ fs H H1) (b:cW σ fs H1 H2):cW σ fs H H2:=⟨fun x o h n=>b.keep x o (a.keep x o h n) n,fun x h=>a.there x (b.there x h)⟩
def cW.f (g:cW σ fs H H'):cI σ fs H σ fs H':=⟨fun a o h n=>⟨g.keep a o h fun φ p=>n p.F8,n⟩,g.there,fun a φ p=>.inl p⟩
def cW.tH (g:cW σ fs H H') {a:Addr}{o:HO} (h:H a=some o) (n:¬dj σ fs a):H' a=some o:=g.keep a o h fun φ p=>n p.F8
def cW.same (h:lS H H'):cW σ fs H H':=⟨fun a o e _=>h a o e,fun a e=>(by
 cases z:H a with
 | none=>rfl
 | some o=>rw [h a o z] at e;cases e)⟩
def jh.ex {a c:Addr}{s:SL} (h:jh K H a s) (ho:s.own=true) (hc:s.has a c):∃o,H c=some o/\(∀vs,o≠.tup vs)/\∀ob u,o≠.cV ob u:=by
 cases s with
 | val _=>exact h.elim
 | adr _=>cases ho
 | ol q l=>obtain⟨_,vs,e,_⟩:=h;rcases hc with rfl | hc;exact⟨_,e,by simp,by simp⟩;cases hc
 | uK bs ls=>
  obtain⟨e,_,_,hl,hb⟩:=h;rcases hc with rfl | hc
  ·exact⟨_,e,by simp,by simp⟩
  ·obtain⟨j,hj⟩:=CA (show c∈bs from hc);have h1:=(Ak.mp hj).1;obtain⟨ws,e,_⟩:=hb j c _ hj (Ad (by rw [<- hl];exact h1));exact⟨_,e,by simp,by simp⟩
 | od l=>obtain⟨vs,e,_⟩:=h;rcases hc with rfl | hc;exact⟨_,e,by simp,by simp⟩;cases hc
 | ot l=>obtain⟨vs,e,_⟩:=h;rcases hc with rfl | hc;exact⟨_,e,by simp,by simp⟩;cases hc
 | iC l=>obtain⟨vs,e,_⟩:=h;rcases hc with rfl | hc;exact⟨_,e,by simp,by simp⟩;cases hc
def aW.ownAt (s:aW K H σ fs) {i:Nat}{t:SL}{a:Addr} (h1:fs[i]?=some (some t)) (h2:t.own=true) (h3:σ[i]?=some (some (.ref a))):jh K H a t:=by
 obtain⟨u,e,r⟩:=s.at' i t h1;rw [h3] at e;cases e;rcases r with⟨v,rfl,_⟩ | ⟨b,e,r⟩
 ·cases h2
 ·cases e;exact r
def aW.F8 (s:aW K H σ fs) {a:Addr} (h:dj σ fs a):∃o,H a=some o/\(∀vs,o≠.tup vs)/\∀ob u,o≠.cV ob u:=by
 obtain⟨i,t,x,h1,h2,h3,h4⟩:=h;exact (s.ownAt h1 h2 h3).ex h2 h4
def aW.noOwn (s:aW K H σ fs) {a:Addr} (h:H a=none):¬dj σ fs a:=fun z=>by
 obtain⟨o,e,_⟩:=s.F8 z;rw [h] at e;cases e
def aW.Zg (s:aW K H σ fs) {a:Addr}{vs:List V} (h:H a=some (.tup vs)):¬dj σ fs a:=fun z=>by
 obtain⟨o,e,n,_⟩:=s.F8 z;rw [h] at e;cases e;exact n vs rfl
def aW.Zh (s:aW K H σ fs) {a:Addr}{ob:Obj}{u:HO} (h:H a=some (.cV ob u)):¬dj σ fs a:=fun z=>by
 obtain⟨o,e,_,n⟩:=s.F8 z;rw [h] at e;cases e;exact n ob u rfl
def cI.refl:cI σ fs H σ fs H:=⟨fun _ _ h n=>⟨h,n⟩,fun _ h=>h,fun _ _ h=>.inl h⟩
def cI.trans (a:cI σ fs H σ1 V9 H1) (b:cI σ1 V9 H1 σ2 eu H2):cI σ fs H σ2 eu H2:=
 ⟨fun x o h n=>let ⟨h1,n1⟩:=a.keep x o h n;b.keep x o h1 n1,fun x h=>a.there x (b.there x h),fun x φ h=>(a.pk x φ h).elim (b.pk x φ) fun ⟨n,vs,e,p⟩=>.inr (let ⟨h1,n1⟩:=b.keep x _ e n;⟨n1,vs,h1,p⟩)⟩
def cI.eY (g:cI σ fs H σ' bH H') (s:aW K H σ fs):bq K H H':=
 ⟨fun a vs h=>(g.keep a _ h (s.Zg h)).1,fun a o u h=>(g.keep a _ h (s.Zh h)).1⟩
def VR.tk {u:V}{v:PV} (t:bq K H H') (r:VR K [] H u v):VR K [] H' u v:=r.mono t fun _ _ e=>e
def aM.tk {u:List V}{v:List PV} (t:bq K H H') (r:aM K [] H u v):aM K [] H' u v:=r.mono t fun _ _ e=>e
def cI.vr (g:cI σ fs H σ' bH H') (s:aW K H σ fs) {u:V}{v:PV} (r:VR K [] H u v):VR K [] H' u v:=VR.tk (g.eY s) r
def cW.eY (g:cW σ fs H H') (s:aW K H σ fs):bq K H H':=g.f.eY s
def cW.vr (g:cW σ fs H H') (s:aW K H σ fs) {u:V}{v:PV} (r:VR K [] H u v):VR K [] H' u v:=VR.tk (g.eY s) r
def cW.P7 (g:cW σ fs H H') (s:aW K H σ fs) {u:List V}{v:List PV} (r:aM K [] H u v):aM K [] H' u v:=aM.tk (g.eY s) r
def jh.mono {a:Addr}{s:SL} (t:bq K H H') (e:∀c o,s.own=true->s.has a c->H c=some o->H' c=some o) (h:jh K H a s):jh K H' a s:=by
 cases s with
 | val _=>exact h
 | adr _=>exact h
 | ol _ l=>obtain⟨z,vs,q,r⟩:=h;exact⟨z,vs,e _ _ rfl (.inl rfl) q,aM.tk t r⟩
 | uK bs ls=>
  obtain⟨z,h1,h2,h3,h4⟩:=h;refine⟨e _ _ rfl (.inl rfl) z,h1,h2,h3,fun j b l hb hl=>?_⟩;obtain⟨ws,q,r⟩:=h4 j b l hb hl;exact⟨ws,e _ _ rfl (.inr (Bo hb)) q,aM.tk t r⟩
 | od l=>obtain⟨vs,q,k,r⟩:=h;exact⟨vs,e _ _ rfl (.inl rfl) q,k,aM.tk t r⟩
 | ot l=>obtain⟨vs,q,k,r⟩:=h;exact⟨vs,e _ _ rfl (.inl rfl) q,k,aM.tk t r⟩
 | iC φ=>obtain⟨vs,q,k⟩:=h;exact⟨vs,e _ _ rfl (.inl rfl) q,k⟩
def zy.mono {u:V}{s:SL} (t:bq K H H') (e:∀x a o,u=.ref x->s.own=true->s.has x a->H a=some o->H' a=some o) (h:zy K H u s):zy K H' u s:=by
 rcases h with⟨v,q,r⟩ | ⟨a,q,r⟩
 ·exact .inl ⟨v,q,VR.tk t r⟩
 ·exact .inr ⟨a,q,r.mono t (fun c o z y w=>e a c o q z y w)⟩
def aW.same (s:aW K H σ fs) (h:lS H H'):aW K H' σ fs:=⟨s.len,fun i t e=>let ⟨u,h1,h2⟩:=s.at' i t e;⟨u,h1,h2.mono h.fy (fun _ a o _ _ _ z=>h a o z)⟩,s.nd⟩
def cI.same (h:lS H H') (s:aW K H σ fs):cI σ fs H σ fs H':=⟨fun a o e n=>⟨h a o e,n⟩,fun a e=>(by
 cases z:H a with
 | none=>rfl
 | some o=>rw [h a o z] at e;cases e),fun a φ p=>.inl p⟩
inductive kf:aY->aY->Prop
 | nil:kf [] []
 | drop {s:Option SL}{a b:aY} (h:kf a b):kf (s::a) (none::b)
 | keep {s:Option SL}{a b:aY} (h:kf a b):kf (s::a) (s::b)
theorem kf.at {a b:aY} (h:kf a b):∀(i:Nat) (s:SL),b[i]?=some (some s)->a[i]?=some (some s):=by
 induction h with
 | nil=>intro i s e;simp at e
 | drop h ih=>intro i s e;cases i with | zero=>simp at e | succ i=>simp at e ⊢;exact ih i s e
 | keep h ih=>intro i s e;cases i with | zero=>simpa using e | succ i=>simp at e ⊢;exact ih i s e
def kf.length {a b:aY} (h:kf a b):a.length=b.length:=by induction h <;> simp_all
theorem kf.refl:∀a:aY,kf a a
 | []=>.nil
 | _::a=>.keep (kf.refl a)
def aW.le (s:aW K H σ fs) (h:kf fs bH):aW K H σ bH:=⟨s.len.trans h.length,fun i t e=>s.at' i t (h.at i t e),fun i j t u x y a e1 e2=>s.nd i j t u x y a (h.at i t e1) (h.at j u e2)⟩
def dj.le (h:kf fs bH) {a:Addr} (o:dj σ bH a):dj σ fs a:=let ⟨i,t,x,e1,e2,e3⟩:=o;⟨i,t,x,h.at i t e1,e2,e3⟩
def cI.le (s:aW K H σ fs) (h:kf fs bH):cI σ fs H σ bH H:=⟨fun a o e n=>⟨e,fun z=>n (z.le h)⟩,fun _ e=>e,fun a φ p=>by
 obtain⟨i,e1,e2⟩:=p;by_cases c:dj σ bH a
 ·obtain⟨j,t,x,c1,c2,c3,c4⟩:=c;have ij:=s.nd i j _ t a x a e1 (h.at j t c1) rfl c2 e2 c3 (.inl rfl) c4;subst ij;have:=h.at i t c1;rw [e1] at this;cases this;exact .inl ⟨i,c1,e2⟩
 ·obtain⟨vs,q,r⟩:=s.ownAt e1 rfl e2;exact .inr ⟨c,vs,q,r⟩⟩
def aZ {α:Type}{l:List (Option α)}{i j:Nat}{x y:α} (h:(l.set i (some x))[j]?=some (some y)):(j=i/\y=x)\/(j≠i/\l[j]?=some (some y)):=by
 by_cases c:j=i
 ·subst c;rw [List.getElem?_set] at h;simp at h;exact .inl ⟨rfl,h.2.symm⟩
 ·rw [A5 (fun z=>c z.symm)] at h;exact .inr ⟨c,h⟩
def cu {α:Type}{l:List α}{i:Nat}{x:α} (h:i < l.length):(l.set i x)[i]?=some x:=by rw [List.getElem?_set];simp [h]
def aJ {α:Type}{l:List α}{i j:Nat}{x:α} (h:j≠i):(l.set i x)[j]?=l[j]?:=A5 (fun z=>h z.symm)
def aW.put (s:aW K H σ fs) {i:Nat}{u:V}{t:SL} (hr:zy K H u t) (hf:∀x a,u=.ref x->t.own=true->t.has x a->∀(j:Nat) (w:SL) (y:Addr),j≠i->fs[j]?=some (some w)->w.own=true->σ[j]?=some (some (.ref y))->¬w.has y a):aW K H (σ.set i (some u)) (fs.set i (some t)):=by
 refine⟨by simp [s.len],fun j w e=>?_,fun j k w x b1 b2 a e1 e2 o1 o2 q1 q2 z1 z2=>?_⟩
 ·rcases aZ e with⟨rfl,rfl⟩ | ⟨n,e⟩
  ·have hl:j < σ.length:=by
    have:=(Ak.mp e).1;rw [BM] at this;rw [s.len];exact this
   exact⟨u,cu hl,hr⟩
  ·obtain⟨v,h1,h2⟩:=s.at' j w e;exact⟨v,by rw [aJ n];exact h1,h2⟩
 ·rcases aZ e1 with⟨y1,y2⟩ | ⟨n1,f1⟩ <;> rcases aZ e2 with⟨y3,y4⟩ | ⟨n2,f2⟩
  ·exact y1.trans y3.symm
  ·subst y1;subst y2;rw [aJ n2] at q2;have hl:j < σ.length:=by have:=(Ak.mp q1).1;simpa using this
   rw [cu hl] at q1;cases q1;exact absurd z2 (hf _ a rfl o1 z1 k x b2 n2 f2 o2 q2)
  ·subst y3;subst y4;rw [aJ n1] at q1;have hl:k < σ.length:=by have:=(Ak.mp q2).1;simpa using this
   rw [cu hl] at q2;cases q2;exact absurd z1 (hf _ a rfl o2 z2 j w b1 n1 f1 o1 q1)
  ·rw [aJ n1] at q1;rw [aJ n2] at q2;exact s.nd j k w x b1 b2 a f1 f2 o1 o2 q1 q2 z1 z2
def aW.gk (s:aW K H σ fs) {u:V}{v:PV} (hr:VR K [] H u v) (i:Nat):aW K H (σ.set i (some u)) (fs.set i (some (.val v))):=s.put (.inl ⟨v,rfl,hr⟩) fun _ _ _ z=>by cases z
def Iz {i:Nat}{u:V}{t:SL}{a:Addr} (o:dj (σ.set i (some u)) (fs.set i (some t)) a) (hl:σ.length=fs.length):dj σ fs a\/∃x,u=.ref x/\t.own=true/\t.has x a:=by
 obtain⟨j,w,x,e1,e2,e3,e4⟩:=o;rcases aZ e1 with⟨rfl,rfl⟩ | ⟨n,e1⟩
 ·have h2:j < σ.length:=by have:=(Ak.mp e3).1;simpa using this
  rw [cu h2] at e3;cases e3;exact .inr ⟨x,rfl,e2,e4⟩
 ·rw [aJ n] at e3;exact .inl ⟨j,w,x,e1,e2,e3,e4⟩
def MZ (s:aW K H σ fs) {i:Nat}{u:V}{t:SL}{φ:List V->Prop}{a:Addr} (p:fx σ fs φ a) (hu:∀x,u=.ref x->t.own=true->t.has x a->t=.iC φ):fx (σ.set i (some u)) (fs.set i (some t)) φ a\/¬dj (σ.set i (some u)) (fs.set i (some t)) a:=by
 obtain⟨j,e1,e2⟩:=p;by_cases c:j=i
 ·subst c;by_cases c2:∃x,u=.ref x/\t.own=true/\t.has x a
  ·obtain⟨x,c3,c4,c5⟩:=c2;have hl:=(Ak.mp e2).1;have Qe:=(Ak.mp e1).1;have et:=hu x c3 c4 c5;subst et;rcases c5 with rfl | c5
   ·exact .inl ⟨j,by rw [cu Qe],by rw [cu hl,c3]⟩
   ·cases c5
  ·refine .inr fun o=>?_;obtain⟨k,w,y,q1,q2,q3,q4⟩:=o;rcases aZ q1 with⟨rfl,rfl⟩ | ⟨n,q1⟩
   ·have hl:=(Ak.mp e2).1;rw [cu hl] at q3;cases q3;exact c2 ⟨y,rfl,q2,q4⟩
   ·rw [aJ n] at q3;exact n (s.nd k j w _ y a a q1 e1 q2 rfl q3 e2 q4 (.inl rfl))
 ·exact .inl ⟨j,by rw [aJ c];exact e1,by rw [aJ c];exact e2⟩
def cI.gk (s:aW K H σ fs) (u:V) (v:PV) (i:Nat):cI σ fs H (σ.set i (some u)) (fs.set i (some (.val v))) H:=
 ⟨fun a o e n=>⟨e,fun z=>(Iz z s.len).elim n fun ⟨_,_,z,_⟩=>by cases z⟩,fun _ e=>e,fun a φ p=>(MZ s p (fun _ _ z=>by cases z)).imp id fun n=>⟨n,by
  obtain⟨j,e1,e2⟩:=p;obtain⟨vs,q,r⟩:=s.ownAt e1 rfl e2;exact⟨vs,q,r⟩⟩⟩
def aW.Q0 (s:aW K H σ fs) {a:Addr}{t:SL} (hr:jh K H a t) (hn:∀c,t.has a c->¬dj σ fs c) (i:Nat):aW K H (σ.set i (some (.ref a))) (fs.set i (some t)):=s.put (.inr ⟨a,rfl,hr⟩) fun x c e _ hc j w y n e1 e2 e3 z=>by
 cases e;exact hn c hc ⟨j,w,y,e1,e2,e3,z⟩
def GO {t:SL} (hi:t.J1=[]) {a c:Addr} (h:t.has a c):c=a:=by
 rcases h with h | h
 ·exact h
 ·rw [hi] at h;cases h
def aW.vG (s:aW K H σ fs) {a:Addr}{t:SL} (hr:jh K H a t) (hn:¬dj σ fs a) (i:Nat) (hi:t.J1=[]:=by rfl):aW K H (σ.set i (some (.ref a))) (fs.set i (some t)):=s.Q0 hr (fun c hc=>by rw [GO hi hc];exact hn) i
def cI.Q0 (s:aW K H1 σ fs) (g:cI σ fs H σ fs H1) {a:Addr}{t:SL} (hn:∀c,t.has a c->¬dj σ fs c) (h0:∀c,t.has a c->H c=none) (i:Nat):cI σ fs H (σ.set i (some (.ref a))) (fs.set i (some t)) H1:=by
 refine⟨fun b o e n=>⟨(g.keep b o e n).1,fun z=>(Iz z s.len).elim n fun ⟨x,z,_,y⟩=>?_⟩,g.there,fun b φ p=>?_⟩
 ·cases z;rw [h0 b y] at e;cases e
 ·obtain⟨j,e1,e2⟩:=p;obtain⟨vs,q,r⟩:=s.ownAt e1 rfl e2;refine (MZ (t:=t) s ⟨j,e1,e2⟩ (fun x z o y=>?_)).imp id fun n=>⟨n,vs,q,r⟩;cases z;exact absurd ⟨j,_,_,e1,rfl,e2,.inl rfl⟩ (hn b y)
def cI.vG (s:aW K H1 σ fs) (g:cI σ fs H σ fs H1) {a:Addr}{t:SL} (hn:¬dj σ fs a) (h0:H a=none) (i:Nat) (hi:t.J1=[]:=by rfl):cI σ fs H (σ.set i (some (.ref a))) (fs.set i (some t)) H1:=cI.Q0 s g (fun c hc=>by rw [GO hi hc];exact hn) (fun c hc=>by rw [GO hi hc];exact h0) i
def tD (s:aW K H σ fs) {i:Nat}{t t':SL}{a c:Addr} (e1:fs[i]?=some (some t)) (o:t.own=true) (np:∀φ,t≠.iC φ) (e2:σ[i]?=some (some (.ref a))) (hc:t.has a c) (T3:t'.has a c) (yD:∀b,t'.has a b->t.has a b) (o':t'.own=true) (sx:qT c H H') (ht:bq K H H'->jh K H' a t'):aW K H' σ (fs.set i (some t'))/\cI σ fs H σ (fs.set i (some t')) H':=by
 have oa:=s.ownAt e1 o e2;obtain⟨ob,q,n1,n2⟩:=oa.ex o hc;have tk:bq K H H':=⟨fun b vs z=>sx b _ (fun y=>by subst y;rw [q] at z;cases z;exact n1 _ rfl) z,fun b o u z=>sx b _ (fun y=>by subst y;rw [q] at z;cases z;exact n2 _ _ rfl) z⟩;have oa':=ht tk;have hi:i < fs.length:=(Ak.mp e1).1;have U7:∀b,dj σ (fs.set i (some t')) b->dj σ fs b:=fun b z=>by
  obtain⟨j,w,x,z1,z2,z3,z4⟩:=z;rcases aZ z1 with⟨rfl,rfl⟩ | ⟨n,z1⟩
  ·rw [e2] at z3;cases z3;exact⟨j,t,a,e1,o,e2,yD b z4⟩
  ·exact⟨j,w,x,z1,z2,z3,z4⟩
 refine⟨⟨by simp [s.len],fun j w e=>?_,fun j k w x b1 b2 b z1 z2 o1 o2 q1 q2 y1 y2=>?_⟩,⟨fun b ob e n=>⟨sx b ob (fun z=>by subst z;exact n ⟨i,t,a,e1,o,e2,hc⟩) e,fun z=>n (U7 b z)⟩,fun b e=>?_,fun b φ p=>?_⟩⟩
 ·rcases aZ e with⟨rfl,rfl⟩ | ⟨n,e⟩
  ·exact⟨_,e2,.inr ⟨a,rfl,oa'⟩⟩
  ·obtain⟨u,h1,h2⟩:=s.at' j w e;refine⟨u,h1,h2.mono tk (fun x b ob eb ow hb z=>sx b ob (fun y=>?_) z)⟩;subst y;subst eb;exact n (s.nd j i w t x a b e e1 ow o h1 e2 hb hc)
 ·have f:∀{j:Nat}{w:SL}{y:Addr},(fs.set i (some t'))[j]?=some (some w)->w.own=true->σ[j]?=some (some (.ref y))->w.has y b->∃w',fs[j]?=some (some w')/\w'.own=true/\w'.has y b:=fun {j w y} z ow qy hy=>by
   rcases aZ z with⟨rfl,rfl⟩ | ⟨n,z⟩
   ·rw [e2] at qy;cases qy;exact⟨t,e1,o,yD b hy⟩
   ·exact⟨w,z,ow,hy⟩
  obtain⟨w',a1,a2,a3⟩:=f z1 o1 q1 y1;obtain⟨x',c1,c2,c3⟩:=f z2 o2 q2 y2;exact s.nd j k w' x' b1 b2 b a1 c1 a2 c2 q1 q2 a3 c3
 ·cases z:H b with
  | none=>rfl
  | some ob=>
   by_cases cc:b=c
   ·subst cc;obtain⟨o2,y,_⟩:=oa'.ex o' T3;rw [e] at y;cases y
   ·rw [sx b ob cc z] at e;cases e
 ·obtain⟨j,p1,p2⟩:=p;have ji:j≠i:=fun z=>by subst z;rw [e1] at p1;cases p1;exact np φ rfl
  exact .inl ⟨j,by rw [aJ ji];exact p1,p2⟩
def oB (s:aW K H σ fs) {i:Nat}{t t':SL}{a:Addr} (e1:fs[i]?=some (some t)) (o:t.own=true) (np:∀φ,t≠.iC φ) (e2:σ[i]?=some (some (.ref a))) (sx:qT a H H') (ht:bq K H H'->jh K H' a t') (hi:t'.J1=t.J1:=by rfl) (o':t'.own=true:=by rfl):aW K H' σ (fs.set i (some t'))/\cI σ fs H σ (fs.set i (some t')) H':=
 tD s e1 o np e2 (.inl rfl) (.inl rfl) (fun b h=>by unfold SL.has at h ⊢;rw [hi] at h;exact h) o' sx ht
end
end
section
open PySem PySem.Spec PyProof.Rows L2 PL
variable {K:Ab}
def fE (K:Ab) (fs:aY) (w:W PV):TE:=fun σ H Q=>aW K H σ fs/\w.run fun v=>∀u H',cW σ fs H H'->aW K H' σ fs->VR K [] H' u v->Q u H'
def fT (K:Ab) (fs:aY) (w:W Bool):TT:=fun σ H Q=>aW K H σ fs/\w.run fun b=>∀H',cW σ fs H H'->aW K H' σ fs->Q b H'
def fO (K:Ab) (fs:aY) (w:W (Option Int)):TO:=fun σ H Q=>aW K H σ fs/\w.run fun b=>∀H',cW σ fs H H'->aW K H' σ fs->Q b H'
def fL (K:Ab) (fs:aY) (w:W (List PV)):TE:=fun σ H Q=>aW K H σ fs/\w.run fun l=>∀a vs H',cW σ fs H H'->aW K H' σ fs->H a=none->H' a=some (.lst vs)->aM K [] H' vs l->Q (.ref a) H'
def SqI (K:Ab) (H:Hp) (u:V) (l:List PV):Prop:=∃a vs,u=.ref a/\(X5 K H a vs\/H a=some (.tup vs))/\aM K [] H vs l
def WS (K:Ab) (σ:L2.St) (fs:aY) (H:Hp) (u:V) (l:List PV):Prop:=SqI K H u l\/∃a,u=.ref a/\((¬dj σ fs a/\∃vs,H a=some (.lst vs)/\aM K [] H vs l)\/∃(i:Nat) (q:Option Addr),fs[i]?=some (some (.ol q l))/\σ[i]?=some (some (.ref a)))
def fQ (K:Ab) (fs:aY) (w:W (List PV)):TE:=fun σ H Q=>aW K H σ fs/\w.run fun l=>∀u H',cW σ fs H H'->aW K H' σ fs->WS K σ fs H' u l->Q u H'
def fI (K:Ab) (fs:aY) (w:W (List PV)):TE:=fun σ H Q=>aW K H σ fs/\w.run fun l=>∀u H',cW σ fs H H'->aW K H' σ fs->SqI K H' u l->Q u H'
inductive AK where
 | v | p (φ:List V->Prop) | f (a:Addr)
inductive gD (K:Ab) (σ:L2.St) (fs:aY) (H:Hp):List V->List AK->List PV->Prop
 | nil:gD K σ fs H [] [] []
 | v {u:V}{x:PV}{vs:List V}{ks:List AK}{l:List PV} (r:VR K [] H u x) (t:gD K σ fs H vs ks l):gD K σ fs H (u::vs) (.v::ks) (x::l)
 | p {a:Addr}{φ:List V->Prop}{vs:List V}{ks:List AK}{l:List PV} (r:fx σ fs φ a) (t:gD K σ fs H vs ks l):gD K σ fs H (.ref a::vs) (.p φ::ks) l
 | f {a:Addr}{vs:List V}{ks:List AK}{l:List PV} (t:gD K σ fs H vs ks l):gD K σ fs H (.ref a::vs) (.f a::ks) l
def fA (K:Ab) (fs:aY) (ks:List AK) (w:W (List PV)):TA:=fun σ H Q=>aW K H σ fs/\w.run fun l=>∀vs H',cW σ fs H H'->aW K H' σ fs->gD K σ fs H' vs ks l->Q vs H'
structure EF (X:Cx) (K:Ab) (fs:aY) (e:Expr) (w:W PV):Prop where p:PE X e (fE K fs w)
structure LF (X:Cx) (K:Ab) (fs:aY) (e:Expr) (w:W (List PV)):Prop where p:PE X e (fL K fs w)
structure QF (X:Cx) (K:Ab) (fs:aY) (e:Expr) (w:W (List PV)):Prop where p:PE X e (fQ K fs w)
structure IF (X:Cx) (K:Ab) (fs:aY) (e:Expr) (w:W (List PV)):Prop where p:PE X e (fI K fs w)
structure TF (X:Cx) (K:Ab) (fs:aY) (e:Expr) (w:W Bool):Prop where p:PT X e (fT K fs w)
structure xA (X:Cx) (K:Ab) (fs:aY) (e:Expr) (w:W Bool):Prop where p:PW X e (fT K fs w)
structure OF (X:Cx) (K:Ab) (fs:aY) (e:Option Expr) (w:W (Option Int)):Prop where p:L2.PO X e (fO K fs w)
structure AF (X:Cx) (K:Ab) (fs:aY) (es:List Expr) (ks:List AK) {R:Type} (B:(List PV->W R)->W R):Prop where
 p:∃w:W (List PV),PA X es (fA K fs ks w)/\∀k,B k=W.bind w k
section
variable {σ:L2.St}{fs:aY}{H H':Hp}
def SqI.tk {u:V}{l:List PV} (t:bq K H H') (h:SqI K H u l):SqI K H' u l:=by
 obtain⟨a,vs,e,q,r⟩:=h;exact⟨a,vs,e,q.imp (t.f _ _) (t.t _ _),aM.tk t r⟩
def WS.go {u:V}{l:List PV} (h:WS K σ fs H u l) (s:aW K H σ fs) (g:cW σ fs H H'):WS K σ fs H' u l:=by
 rcases h with h | ⟨a,e,⟨n,vs,q,r⟩ | q⟩
 ·exact .inl (h.tk (g.eY s))
 ·exact .inr ⟨a,e,.inl ⟨n,vs,(g.tH q n),g.P7 s r⟩⟩
 ·exact .inr ⟨a,e,.inr q⟩
def WS.sq {u:V}{l:List PV} (h:WS K σ fs H u l) (s:aW K H σ fs):∃a vs,u=.ref a/\(df K H a vs\/dD K H a vs)/\aM K [] H vs l:=by
 rcases h with⟨a,vs,e,q,r⟩ | ⟨a,e,⟨n,vs,q,r⟩ | ⟨i,_,q1,q2⟩⟩
 ·exact⟨a,vs,e,q.elim (fun q=>.inl q.sq) fun q=>.inr (dD.of q),r⟩
 ·exact⟨a,vs,e,.inl (df.of q),r⟩
 ·obtain⟨_,vs,q,r⟩:=s.ownAt q1 rfl q2;exact⟨a,vs,e,.inl (df.of q),r⟩
end
section
variable {X:Cx}{a b c e o:Expr}{es rest:List Expr}{pos:Pos}{fs:aY}{w wa wb wc:W PV}
def ae (i:Nat) {x:Str}{v:PV} (hs:fs[i]?=some (some (.val v)):=by rfl) (hN:X.N[i]?=some x:=by rfl) (hv:Hv X.env.scope x:=by first | exact Cs rfl | exact Cj (Cs rfl) | exact Cj (Cj rfl)) (hd:(x==("__debug__":Str))=false:=by decide) (jw:(x==("__classdict__":Str))=false:=by decide):EF X K fs (.Name x pos) (.ret v):=
 ⟨PE.imp (dw hN hv hd jw) fun σ H Q ⟨sr,q⟩=>by
  obtain⟨u,e1,r⟩:=sr.at' i _ hs;rcases r with⟨w,e,r⟩ | ⟨a,_,r⟩
  ·cases e;exact⟨u,e1,q u H .refl sr r⟩
  ·exact r.elim⟩
def f_c {v:V}{p:PV} (hv:∀H,VR K [] H v p) (h:PE X e (tC v)):EF X K fs e (.ret p):=⟨PE.imp h fun σ H Q ⟨sr,q⟩=>q v H .refl sr (hv _)⟩
def ao {i j}:EF X K fs (.Constant (.int i) j pos) (.ret (.int i)):=f_c (fun _=>.int i) YZ
def nR {b j}:EF X K fs (.Constant (.bool b) j pos) (.ret (.bl b)):=f_c (fun _=>.bl b) acf
def tK {j}:EF X K fs (.Constant .none j pos) (.ret .aQ):=f_c (fun _=>.aQ) YY
def jd {x j}:EF X K fs (.Constant (.str x) j pos) (.ret (.str x)):=f_c (fun _=>.str x) YV
def Hb {x:Str}{i:Int}{t:Tok} (hm:X.mg x=some (.int i t)) (hg:Gl X x) (hd:(x==("__debug__":Str))=false:=by decide):EF X K fs (.Name x pos) (.ret (.int i)):=f_c (fun _=>.int i) (F3 hg hm ⟨_,rfl⟩ hd)
def xf {x:Str}{i:Str}{t:Tok} (hm:X.mg x=some (.str i t)) (hg:Gl X x) (hd:(x==("__debug__":Str))=false:=by decide):EF X K fs (.Name x pos) (.ret (.str i)):=f_c (fun _=>.str i) (F3 hg hm ⟨_,rfl⟩ hd)
def of2 (m:M2) (x y:PV):W PV:=⟨fun Q=>m.f x y [] fun z h=>h=[]/\Q z,fun f q=>m.mono (fun _ _ q=>⟨q.1,f _ q.2⟩) q⟩
def hr0 (H:Hp):HR K [] H []:=⟨E6,rfl,fun n a o e _=>by simp at e⟩
def pq0 {σ:L2.St}{H:Hp}{Q:VK}{z:PV}{h:PH} (sr:aW K H σ fs) (q:h=[]/\∀u H',cW σ fs H H'->aW K H' σ fs->VR K [] H' u z->Q u H'):pQ K [] H Q z h:=fun ι' v H' g r x=>by
 obtain⟨e,q⟩:=q;subst e;have:ι'=[]:=Dl r.len;subst this;have sm:lS H H':=fun a o z=>g.keep a o (by simp) z;exact q v H' (cW.same sm) (sr.same sm) x
def Gb {r:R2}{m:M2} (hm:M2.Ok K r m) {σ:L2.St}{H:Hp}{Q:VK}{u v:V}{x y:PV} (sr:aW K H σ fs) (hu:VR K [] H u x) (hv:VR K [] H v y) (q:(of2 m x y).run fun z=>∀u H',cW σ fs H H'->aW K H' σ fs->VR K [] H' u z->Q u H'):r u v H Q:=
 hm (hr0 H) hu hv (m.mono (fun z h q=>pq0 sr q) q)
def ND {r:R2}{m:M2} (hm:M2.Ok K r m):∀σ H Q,fE K fs (.bind wa fun x=>.bind wb fun y=>of2 m x y) σ H Q->Xb r (fE K fs wa) (fE K fs wb) σ H Q:=fun σ H Q ⟨sr,q⟩=>
 ⟨sr,wa.mono (fun x q1 u1 H1 g1 s1 v1=>⟨s1,wb.mono (fun y q2 u2 H2 g2 s2 v2=>Gb hm s2 (g2.vr s1 v1) v2 ((of2 m x y).mono (fun z q u3 H3 g3 s3 v3=>q u3 H3 ((g1.trans g2).trans g3) s3 v3) q2)) q1⟩) q⟩
def SY {op:Operator}{r:R2}{m:M2} (ho:ir X (binaryOp op) r) (hm:M2.Ok K r m) (ha:EF X K fs a wa) (hb:EF X K fs b wb):EF X K fs (.BinOp a op b pos) (.bind wa fun x=>.bind wb fun y=>of2 m x y):=⟨PE.imp (M4 ho ha.p hb.p) (ND hm)⟩
def qJ (ha:EF X K fs a wa) (hb:EF X K fs b wb):EF X K fs (.BinOp a .Sub b pos) (.bind wa fun x=>.bind wb fun y=>of2 rG x y):=SY Y3 (JJ fun _ _ _ _=>.int _) ha hb
def tL (ha:EF X K fs a wa) (hb:EF X K fs b wb):EF X K fs (.BinOp a .Mult b pos) (.bind wa fun x=>.bind wb fun y=>of2 rH x y):=SY Vb (Hu fun _ _ _ _=>.int _) ha hb
def XW (ha:EF X K fs a wa) (hb:EF X K fs b wb):EF X K fs (.BinOp a .FloorDiv b pos) (.bind wa fun x=>.bind wb fun y=>of2 oDiv x y):=SY Vc (Hu fun _ _ _ _=>.int _) ha hb
def qK (ha:EF X K fs a wa) (hb:EF X K fs b wb):EF X K fs (.BinOp a .Mod b pos) (.bind wa fun x=>.bind wb fun y=>of2 oMod x y):=SY Y7 (Hu fun _ _ _ _=>.int _) ha hb
def SX (ha:EF X K fs a wa) (hb:EF X K fs b wb):EF X K fs (.BinOp a .Pow b pos) (.bind wa fun x=>.bind wb fun y=>of2 IB x y):=SY Y5 (Hu fun _ _ _ _=>.int _) ha hb
def rJ:PV->W PV
 | .int i=>.ret (.int (-i))
 | _=>.fail
def mP (ha:EF X K fs a wa):EF X K fs (.UnaryOp .USub a pos) (.bind wa rJ):=⟨PE.imp (aca Yf ha.p) fun σ H Q ⟨sr,q⟩=>⟨sr,wa.mono (fun x q1 u1 H1 g1 s1 v1=>by
 cases v1 with
 | int i=>exact⟨_,rfl,q1 _ H1 g1 s1 (.int _)⟩
 | _=>exact q1.elim) q⟩⟩
def asB:PV->W Bool
 | .bl b=>.ret b
 | _=>.fail
def mR {op:CmpOp}{m:M2} (hc:JC X K op b m) (ha:EF X K fs a wa) (hb:EF X K fs b wb):EF X K fs (.Compare a [op] [b] pos) (.bind wa fun x=>.bind wb fun y=>of2 m x y):=let ⟨_,h1,h2⟩:=hc.p;⟨PE.imp (uH h1 ha.p hb.p hc.k) (ND h2)⟩
def Wh {w:W PV}:∀σ H Q,fT K fs (.bind w asB) σ H Q->(fE K fs w) σ H fun x H'=>∃k,x=.bl k/\Q k H':=fun σ H Q ⟨sr,q⟩=>⟨sr,w.mono (fun x q1 u1 H1 g1 s1 v1=>by
 cases v1 with
 | bl b=>exact⟨b,rfl,q1 H1 g1 s1⟩
 | _=>exact q1.elim) q⟩
def dX {op:CmpOp}{m:M2} (hc:JC X K op b m) (ha:EF X K fs a wa) (hb:EF X K fs b wb):TF X K fs (.Compare a [op] [b] pos) (.bind wa fun x=>.bind wb fun y=>.bind (of2 m x y) asB):=let ⟨_,h1,h2⟩:=hc.p
 ⟨PT.imp (pY h1 ha.p hb.p hc.k) fun σ H Q q=>ND h2 σ H _ (Wh (w:=.bind wa fun x=>.bind wb fun y=>of2 m x y) σ H Q q)⟩
def m7 (z:PV) (w:W PV):W PV:=match z with
 | .bl true=>w
 | .bl false=>.ret (.bl false)
 | _=>.fail
def Js {r r':R2}{m m':M2} (hm:M2.Ok K r m) (hm':M2.Ok K r' m'):∀σ H Q,fE K fs (.bind wa fun x=>.bind wb fun y=>.bind (of2 m x y) fun z=>m7 z (.bind wc fun w=>of2 m' y w)) σ H Q->Kj r r' (fE K fs wa) (fE K fs wb) (fE K fs wc) σ H Q:=fun σ H Q ⟨sr,q⟩=>
 ⟨sr,wa.mono (fun x q1 u1 H1 g1 s1 v1=>⟨s1,wb.mono (fun y q2 u2 H2 g2 s2 v2=>Gb hm s2 (g2.vr s1 v1) v2 ((of2 m x y).mono (fun z q3 u3 H3 g3 s3 v3=>by
  have gg:=(g1.trans g2).trans g3;cases v3 with
  | bl k=>
   cases k with
   | true=>exact⟨true,rfl,by rw [if_pos rfl];exact⟨s3,wc.mono (fun w q4 u4 H4 g4 s4 v4=>Gb hm' s4 ((g3.trans g4).vr s2 v2) v4 ((of2 m' y w).mono (fun z q u5 H5 g5 s5 v5=>q u5 H5 ((gg.trans g4).trans g5) s5 v5) q4)) q3⟩⟩
   | false=>exact⟨false,rfl,by rw [if_neg AG];exact q3 _ H3 gg s3 (.bl _)⟩
  | _=>exact q3.elim) q2)) q1⟩) q⟩
def Wo {op KH:CmpOp}{m m':M2} (hc:JC X K op b m) (T3:JC X K KH c m') (ha:EF X K fs a wa) (hb:EF X K fs b wb) (hd:EF X K fs c wc) (hk:lastMarks [op,KH] [b,c]=false:=by with_unfolding_all rfl):EF X K fs (.Compare a [op,KH] [b,c] pos) (.bind wa fun x=>.bind wb fun y=>.bind (of2 m x y) fun z=>m7 z (.bind wc fun w=>of2 m' y w)):=
 let ⟨_,h1,h2⟩:=hc.p;let ⟨_,h3,h4⟩:=T3.p;⟨PE.imp (Rh h1 h3 ha.p hb.p hd.p hk) (Js h2 h4)⟩
def Uq {op KH:CmpOp}{m m':M2} (hc:JC X K op b m) (T3:JC X K KH c m') (ha:EF X K fs a wa) (hb:EF X K fs b wb) (hd:EF X K fs c wc) (hk:lastMarks [op,KH] [b,c]=false:=by with_unfolding_all rfl):TF X K fs (.Compare a [op,KH] [b,c] pos) (.bind wa fun x=>.bind wb fun y=>.bind (of2 m x y) fun z=>.bind (m7 z (.bind wc fun w=>of2 m' y w)) asB):=
 let ⟨_,h1,h2⟩:=hc.p;let ⟨_,h3,h4⟩:=T3.p;⟨PT.imp (Q2 h1 h3 ha.p hb.p hd.p hk) fun σ H Q q=>Js h2 h4 σ H _ (Wh (w:=.bind wa fun x=>.bind wb fun y=>.bind (of2 m x y) fun z=>m7 z (.bind wc fun w=>of2 m' y w)) σ H Q q)⟩
def PQ (x:PV) (w:W PV):W PV:=match x with
 | .bl true=>w
 | .bl false=>.ret (.bl false)
 | _=>.fail
def orW (x:PV) (w:W PV):W PV:=match x with
 | .bl true=>.ret (.bl true)
 | .bl false=>w
 | _=>.fail
def Ze:PV->W PV
 | .bl b=>.ret (.bl (!b))
 | _=>.fail
def xh (ha:EF X K fs a wa) (hb:EF X K fs (.BoolOp .And (b::rest) pos) wb):EF X K fs (.BoolOp .And (a::b::rest) pos) (.bind wa fun x=>PQ x wb):=⟨PE.imp (Y1 ha.p hb.p) fun σ H Q ⟨sr,q⟩=>⟨sr,wa.mono (fun x q1 u1 H1 g1 s1 v1=>by
 cases v1 with
 | bl k=>
  cases k with
  | true=>exact⟨true,rfl,by rw [if_pos rfl];exact⟨s1,wb.mono (fun _ q u H' g s v=>q u H' (g1.trans g) s v) q1⟩⟩
  | false=>exact⟨false,rfl,by rw [if_neg AG];exact q1 _ H1 g1 s1 (.bl _)⟩
 | _=>exact q1.elim) q⟩⟩
def adH (ha:EF X K fs a wa) (hb:EF X K fs (.BoolOp .Or (b::rest) pos) wb):EF X K fs (.BoolOp .Or (a::b::rest) pos) (.bind wa fun x=>orW x wb):=⟨PE.imp (acb ha.p hb.p) fun σ H Q ⟨sr,q⟩=>⟨sr,wa.mono (fun x q1 u1 H1 g1 s1 v1=>by
 cases v1 with
 | bl k=>
  cases k with
  | true=>exact⟨true,rfl,by rw [if_pos rfl];exact q1 _ H1 g1 s1 (.bl _)⟩
  | false=>exact⟨false,rfl,by rw [if_neg AG];exact⟨s1,wb.mono (fun _ q u H' g s v=>q u H' (g1.trans g) s v) q1⟩⟩
 | _=>exact q1.elim) q⟩⟩
def tJ {op} (h:EF X K fs a wa):EF X K fs (.BoolOp op [a] pos) wa:=⟨YW h.p⟩
def adI (ha:EF X K fs a wa):EF X K fs (.UnaryOp .Not a pos) (.bind wa Ze):=⟨PE.imp (YX ha.p) fun σ H Q ⟨sr,q⟩=>⟨sr,wa.mono (fun x q1 u1 H1 g1 s1 v1=>by
 cases v1 with
 | bl k=>exact⟨_,rfl,q1 _ H1 g1 s1 (.bl _)⟩
 | _=>exact q1.elim) q⟩⟩
variable {ta tb tc:W Bool}
def gW (h:TF X K fs a ta):xA X K fs (.BoolOp .And [a] pos) ta:=⟨UR h.p⟩
def rj (h:TF X K fs a ta):xA X K fs (.BoolOp .Or [a] pos) ta:=⟨YM h.p⟩
def kl (ha:TF X K fs a ta) (hb:xA X K fs (.BoolOp .And (b::rest) pos) tb):xA X K fs (.BoolOp .And (a::b::rest) pos) (.bind ta fun k=>if k=true then tb else .ret false):=⟨PW.imp (YN ha.p hb.p) fun σ H Q ⟨sr,q⟩=>⟨sr,ta.mono (fun k q1 H1 g1 s1=>by
 cases k with
 | true=>exact yB ⟨s1,tb.mono (fun _ q H' g s=>q H' (g1.trans g) s) q1⟩
 | false=>exact yC (q1 H1 g1 s1)) q⟩⟩
def yP (ha:TF X K fs a ta) (hb:xA X K fs (.BoolOp .Or (b::rest) pos) tb):xA X K fs (.BoolOp .Or (a::b::rest) pos) (.bind ta fun k=>if k=true then .ret true else tb):=⟨PW.imp (ab8 ha.p hb.p) fun σ H Q ⟨sr,q⟩=>⟨sr,ta.mono (fun k q1 H1 g1 s1=>by
 cases k with
 | true=>exact yB (q1 H1 g1 s1)
 | false=>exact yC ⟨s1,tb.mono (fun _ q H' g s=>q H' (g1.trans g) s) q1⟩) q⟩⟩
def xA.t (h:xA X K fs a ta):TF X K fs a ta:=⟨PW.pt h.p⟩
def lZ (ha:TF X K fs a ta):TF X K fs (.UnaryOp .Not a pos) (.bind ta fun k=>.ret (!k)):=⟨PT.imp (YQ ha.p) fun σ H Q ⟨sr,q⟩=>⟨sr,q⟩⟩
def Pj (hc:TF X K fs c tc) (ha:EF X K fs a wa) (hb:EF X K fs b wb):EF X K fs (.IfExp c a b pos) (.bind tc fun k=>if k=true then wa else wb):=⟨PE.imp (Iq hc.p ha.p hb.p) fun σ H Q ⟨sr,q⟩=>⟨sr,tc.mono (fun k q1 H1 g1 s1=>by
 cases k with
 | true=>exact yB ⟨s1,wa.mono (fun _ q u H' g s v=>q u H' (g1.trans g) s v) q1⟩
 | false=>exact yC ⟨s1,wb.mono (fun _ q u H' g s v=>q u H' (g1.trans g) s v) q1⟩) q⟩⟩
def acA {la lb:W (List PV)} (hc:TF X K fs c tc) (ha:LF X K fs a la) (hb:LF X K fs b lb):LF X K fs (.IfExp c a b pos) (.bind tc fun k=>if k=true then la else lb):=⟨PE.imp (Iq hc.p ha.p hb.p) fun σ H Q ⟨sr,q⟩=>⟨sr,tc.mono (fun k q1 H1 g1 s1=>by
 cases k with
 | true=>exact yB ⟨s1,la.mono (fun _ q a vs H' g s n e v=>q a vs H' (g1.trans g) s (g1.there a n) e v) q1⟩
 | false=>exact yC ⟨s1,lb.mono (fun _ q a vs H' g s n e v=>q a vs H' (g1.trans g) s (g1.there a n) e v) q1⟩) q⟩⟩
def dm:PV->W Bool
 | .aQ=>.ret false
 | .bl b=>.ret b
 | .int i=>.ret (i != 0)
 | .str y=>.gB (y.length<=sizeLine) (.ret ((y.length:Int) != 0))
 | .tup l=>.ret (!l.isEmpty)
 | .cl l=>.ret (!l.isEmpty)
 | _=>.fail
def cF (hK:X.K=K) (ha:EF X K fs a wa) (he:∀whole,isTrue a X.env whole=(do let v <- whole;standAt a.pos;holding [v] (truthy v))):TF X K fs a (.bind wa dm):=⟨PT.imp (yU K hK ha.p he) fun σ H Q ⟨sr,q⟩=>⟨sr,wa.mono (fun x q1 u1 H1 g1 s1 v1=>by
 cases v1 with
 | aQ=>exact⟨false,rfl,q1 H1 g1 s1⟩
 | bl b=>exact⟨b,rfl,q1 H1 g1 s1⟩
 | int i=>exact⟨_,rfl,q1 H1 g1 s1⟩
 | str y=>exact⟨_,⟨q1.1,rfl⟩,q1.2 H1 g1 s1⟩
 | ty _=>exact q1.elim
 | dk _ _ _=>exact q1.elim
 | dt _ _ _=>exact q1.elim
 | ref _=>exact q1.elim
 | @tup p vs l e rs=>
  refine⟨!vs.isEmpty,.inr (.inl ⟨_,dD.of e,rfl⟩),?_⟩;rw [<- mD rs];exact q1 H1 g1 s1
 | @cl p vs l e rs=>
  refine⟨!vs.isEmpty,.inl ⟨_,e.sq,rfl⟩,?_⟩;rw [<- mD rs];exact q1 H1 g1 s1) q⟩⟩
def W8 (hK:X.K=K) {wl:W (List PV)} (ha:QF X K fs a wl) (he:∀whole,isTrue a X.env whole=(do let v <- whole;standAt a.pos;holding [v] (truthy v))):TF X K fs a (.bind wl fun l=>.ret (!l.isEmpty)):=⟨PT.imp (yU K hK ha.p he) fun σ H Q ⟨sr,q⟩=>⟨sr,wl.mono (fun l q1 u1 H1 g1 s1 v1=>by
 obtain⟨b,vs,rfl,h,rs⟩:=v1.sq s1;refine⟨!vs.isEmpty,?_,?_⟩
 ·exact h.elim (fun h=>.inl ⟨_,h,rfl⟩) fun h=>.inr (.inl ⟨_,h,rfl⟩)
 ·rw [<- mD rs];exact q1 H1 g1 s1) q⟩⟩
variable {R:Type}{ks:List AK}{B:(List PV->W R)->W R}
def ak:AF X K fs [] [] (R:=R) (fun k=>k []):=⟨.ret [],PA.imp dc fun σ H Q ⟨sr,q⟩=>q [] H .refl sr .nil,fun k=>rfl⟩
def af (ha:EF X K fs e w) (hr:AF X K fs es ks B) (hs:starEach (e::es) X.env=(false,eval e X.env)::starEach es X.env:=by rfl):AF X K fs (e::es) (.v::ks) (fun k=>.bind w fun x=>B fun l=>k (x::l)):=by
 obtain⟨wr,hp,hB⟩:=hr.p;refine⟨.bind w fun x=>.bind wr fun l=>.ret (x::l),PA.imp (bt ha.p hp hs) fun σ H Q ⟨sr,q⟩=>?_,fun k=>?_⟩
 ·exact⟨sr,w.mono (fun x q1 u1 H1 g1 s1 v1=>⟨s1,wr.mono (fun l q2 vs H2 g2 s2 v2=>q2 _ H2 (g1.trans g2) s2 (.v (g2.vr s1 v1) v2)) q1⟩) q⟩
 ·have:(fun x=>B fun l=>k (x::l))=fun x=>W.bind wr fun l=>k (x::l):=funext fun x=>hB _;rw [this];rfl
def bx (i:Nat) {x:Str}{φ:List V->Prop} (hr:AF X K fs es ks B) (hs:fs[i]?=some (some (.iC φ)):=by rfl) (hN:X.N[i]?=some x:=by rfl) (hv:Hv X.env.scope x:=by first | exact Cs rfl | exact Cj (Cs rfl) | exact Cj (Cj rfl)) (hd:(x==("__debug__":Str))=false:=by decide) (jw:(x==("__classdict__":Str))=false:=by decide)
  (GJ:starEach (.Name x pos::es) X.env=(false,eval (.Name x pos) X.env)::starEach es X.env:=by rfl):AF X K fs (.Name x pos::es) (.p φ::ks) B:=by
 obtain⟨wr,hp,hB⟩:=hr.p;refine⟨wr,PA.imp (bt (dw hN hv hd jw) hp GJ) fun σ H Q ⟨sr,q⟩=>?_,hB⟩;obtain⟨u,e1,r⟩:=sr.at' i _ hs;rcases r with⟨v,e,_⟩ | ⟨a,e,r⟩
 ·cases e
 ·subst e;exact⟨_,e1,sr,wr.mono (fun l q2 vs H2 g2 s2 v2=>q2 _ H2 g2 s2 (.p ⟨i,hs,e1⟩ v2)) q⟩
theorem gD.P7 {σ:L2.St}{H:Hp}:∀{vs:List V}{n:Nat}{l:List PV},gD K σ fs H vs (Al n .v) l->aM K [] H vs l/\l.length=n
 | _,0,_,.nil=>⟨.nil,rfl⟩
 | _,n+1,_,.v r t=>⟨.cons r (gD.P7 t).1,by rw [Ao,(gD.P7 t).2]⟩
def adG {x1}{n:Nat}{B:(List PV->W PV)->W PV} (h:AF X K fs es (Al n .v) B) (hn:n<=1000:=by decide):EF X K fs (.Tuple es x1 pos) (B fun l=>.ret (.tup l)):=by
 obtain⟨w,hp,hB⟩:=h.p;rw [hB];refine⟨PE.imp (U3 hp) fun σ H Q ⟨sr,q⟩=>⟨sr,w.mono (fun l q1 vs H1 g1 s1 v1=>?_) q⟩⟩;obtain⟨v2,hl⟩:=v1.P7;refine⟨by rw [v2.length,hl];exact a6 hn,fun p H2 s2 e2 n2=>?_⟩;exact q1 _ H2 (g1.trans (cW.same s2)) (s1.same s2) (.tup e2 (aM.tk s2.fy v2))
def Xr {n:Nat}{B:(List PV->W (List PV))->W (List PV)} (h:AF X K fs es (Al n .v) B) (hn:n<=1000:=by decide):LF X K fs (.List es pos) (B fun l=>.ret l):=by
 obtain⟨w,hp,hB⟩:=h.p;rw [hB];refine⟨PE.imp (M5 hp) fun σ H Q ⟨sr,q⟩=>⟨sr,w.mono (fun l q1 vs H1 g1 s1 v1=>?_) q⟩⟩;obtain⟨v2,hl⟩:=v1.P7;refine⟨by rw [v2.length,hl];exact a6 hn,fun p H2 s2 e2 n2=>?_⟩;exact q1 _ _ H2 (g1.trans (cW.same s2)) (s1.same s2) (g1.there p n2) e2 (aM.tk s2.fy v2)
end
end
end FL
namespace L2
open PySem PySem.Spec PyProof.Rows
def Inv.uS {X:Cx}{pins:List (Addr×Obj)}{σ:St}{H:Hp}{s:Shared}{a:Addr}{vs:List V} (I:Inv X pins σ H s) (e:H a=some (.lst vs)):∃o,Inv X pins σ (upd H a (.cV o (.lst vs))) s:=by
 obtain⟨z,au,n,r,h1⟩:=(show bj X.prog X.w H s.heap a (.lst vs) from I.bG a _ e);exact⟨_,I.write (x:=a) (e:=a) (o:=.cV _ (.lst vs)) (h':=s.heap) (t':=s.toks) (by rw [e];exact B7) (.inl rfl) (fun b u _ z=>z) ⟨_,h1⟩ ⟨h1,z,au,n,r,h1⟩⟩
def zd {P:Program}{w:World}{H:Hp}{h:Heap}{a:Addr}{vs:List V}{o:Obj} (ok:nJ P w H h) (e:H a=some (.cV o (.lst vs))):nJ P w (upd H a (.lst vs)) h:=fun b u q=>by
 have ne:∀c v,H c=some v->v≠.cV o (.lst vs)->upd H a (.lst vs) c=some v:=fun c v z n=>by
  rw [ay (fun y=>by subst y;rw [e] at z;cases z;exact n rfl)];exact z
 by_cases hb:b=a
 ·subst hb;rw [aR] at q;cases q;exact bj.FK (ok b _ e).2 (fun _ _ _ z=>z) (fun c z=>ne c _ z (by simp)) fun c xs z=>ne c _ z (by simp)
 ·rw [ay hb] at q;exact bj.FK (ok b _ q) (fun _ _ _ z=>z) (fun c z=>ne c _ z (by simp)) fun c xs z=>ne c _ z (by simp)
end L2
namespace FL
section
open PySem PySem.Spec PyProof.Rows L2 PL
variable {K:Ab}
section
variable {σ:L2.St}{fs:aY}{H H1:Hp}{a:Addr}{vs:List V}
def nj (o':HO) (e:H a=some (.lst vs)):bq K H (upd H a o'):=⟨fun b ws q=>by rw [ay (Nf q e (by intro z;cases z))];exact q,fun b o u q=>by rw [ay (Nf q e (by intro z;cases z))];exact q⟩
def aW.side (s:aW K H σ fs) (n:¬dj σ fs a) (e:H a=some (.lst vs)) (o':HO):aW K (upd H a o') σ fs:=⟨s.len,fun i t q=>by
 obtain⟨u,h1,h2⟩:=s.at' i t q;exact⟨u,h1,h2.mono (nj o' e) (fun x b o eb ow hb z=>by subst eb;rw [ay (fun y:b=a=>n ⟨i,t,x,q,ow,h1,y▸hb⟩)];exact z)⟩,s.nd⟩
def cW.side (g:cW σ fs H H1) (h0:H a=none) (o':HO):cW σ fs H (upd H1 a o'):=⟨fun b o e n=>by rw [ay (bK e h0)];exact g.keep b o e n,fun b e=>by
 by_cases c:b=a
 ·subst c;exact h0
 ·rw [ay c] at e;exact g.there b e⟩
end
section
variable {X:Cx}{a b e:Expr}{es:List Expr}{pos p:Pos}{fs:aY}{w wa wb:W PV}{wl:W (List PV)}
def zl (h:LF X K fs e wl):EF X K fs e (.bind wl fun l=>.ret (.cl l)):=⟨fun pins s σ H Q I ⟨sr,q⟩=>by
 refine bD (h.p pins s σ H (fun u H1=>∃a vs l,u=.ref a/\cW σ fs H H1/\aW K H1 σ fs/\H a=none/\H1 a=some (.lst vs)/\aM K [] H1 vs l/\∀u H',cW σ fs H H'->aW K H' σ fs->VR K [] H' u (.cl l)->Q u H') I ⟨sr,wl.mono (fun l q1 a vs H1 g1 s1 n e v=>⟨a,vs,l,rfl,g1,s1,n,e,v,q1⟩) q⟩) fun u s1 ⟨v,H1,I1,r1,a,vs,l,e,g1,UJ,n,ea,vr,q1⟩=>?_;subst e;obtain⟨ob,I2⟩:=I1.uS ea;exact⟨.ref a,_,I2,r1,q1 _ _ (g1.side n _) (UJ.side (fun z=>sr.noOwn n z) ea _) (.cl (.inl ⟨ob,aR⟩) (aM.tk (nj _ ea) vr))⟩⟩
def az:PV->W (List PV)
 | .tup l=>.ret l
 | .cl l=>.ret l
 | _=>.fail
def bZ (h:EF X K fs e w):IF X K fs e (.bind w az):=⟨PE.imp h.p fun σ H Q ⟨sr,q⟩=>⟨sr,w.mono (fun x q1 u1 H1 g1 s1 v1=>by
 cases v1 with
 | tup e r=>exact q1 _ H1 g1 s1 ⟨_,_,rfl,.inr e,r⟩
 | cl e r=>exact q1 _ H1 g1 s1 ⟨_,_,rfl,.inl e,r⟩
 | _=>exact q1.elim) q⟩⟩
def zb (h:LF X K fs e wl):IF X K fs e wl:=bZ (zl h)
theorem IF.q (h:IF X K fs e wl):QF X K fs e wl:=⟨PE.imp h.p fun σ H Q ⟨sr,q⟩=>⟨sr,wl.mono (fun l q1 u1 H1 g1 s1 v1=>q1 u1 H1 g1 s1 (.inl v1)) q⟩⟩
def aw (h:EF X K fs e w):QF X K fs e (.bind w az):=(bZ h).q
def iA (h:LF X K fs e wl):QF X K fs e wl:=⟨PE.imp h.p fun σ H Q ⟨sr,q⟩=>⟨sr,wl.mono (fun l q1 a vs H1 g1 s1 n e v=>q1 _ H1 g1 s1 (.inr ⟨a,rfl,.inl ⟨sr.noOwn n,vs,e,v⟩⟩)) q⟩⟩
def bX (i:Nat) {x:Str}{q0:Option Addr}{l:List PV} (hs:fs[i]?=some (some (.ol q0 l)):=by rfl) (hN:X.N[i]?=some x:=by rfl) (hv:Hv X.env.scope x:=by first | exact Cs rfl | exact Cj (Cs rfl) | exact Cj (Cj rfl)) (hd:(x==("__debug__":Str))=false:=by decide) (jw:(x==("__classdict__":Str))=false:=by decide):QF X K fs (.Name x pos) (.ret l):=
 ⟨PE.imp (dw hN hv hd jw) fun σ H Q ⟨sr,q⟩=>by
  obtain⟨u,e1,r⟩:=sr.at' i _ hs;rcases r with⟨w,e,r⟩ | ⟨a,e,r⟩
  ·cases e
  ·subst e;exact⟨_,e1,q _ H .refl sr (.inr ⟨a,rfl,.inr ⟨i,q0,hs,e1⟩⟩)⟩⟩
def Qb (l:List PV):PV->W PV
 | .int i=>.Rq (cy l i)
 | _=>.fail
def aH (hK:X.K=K) (ha:QF X K fs a wl) (hb:EF X K fs b wb) (hs:uZ b):EF X K fs (.Subscript a b pos) (.bind wl fun l=>.bind wb fun y=>Qb l y):=⟨PE.imp (Rc (Nr K hK) ha.p hb.p hs) fun σ H Q ⟨sr,q⟩=>⟨sr,wl.mono (fun l q1 u1 H1 g1 s1 v1=>⟨s1,wb.mono (fun y q2 u2 H2 g2 s2 v2=>by
 cases v2 with
 | int i=>
  have q2:(W.Rq (cy l i)).run _:=q2;cases z:cy l i with
  | none=>rw [z] at q2;exact q2.elim
  | some x=>
   rw [z] at q2;obtain⟨ad,vs,rfl,h,rs⟩:=(v1.go s1 g2).sq s2;obtain⟨v,e1,e2⟩:=aM.cy rs z;have q3:=q2 v H2 (g1.trans g2) s2 e2;exact h.elim (fun h=>.inl ⟨ad,vs,i,v,rfl,rfl,h,e1,q3⟩) fun h=>.inr (.inl ⟨ad,vs,i,v,rfl,rfl,h,e1,q3⟩)
 | _=>exact q2.elim) q1⟩) q⟩⟩
def adN (ha:EF X K fs a wa) (hb:EF X K fs b wb) (hs:uZ b):EF X K fs (.Subscript a b pos) (.bind wa fun x=>.bind wb fun y=>of2 Ru x y):=⟨PE.imp (Rc R1 ha.p hb.p hs) (ND Vk)⟩
def ud (m:zB) (l:List PV):W PV:=⟨fun Q=>m.f l [] fun z h=>h=[]/\Q z,fun f q=>m.mono (fun _ _ q=>⟨q.1,f _ q.2⟩) q⟩
section
variable {x:Str}{id:String}{r:List V->Hp->VK->Prop}{B:(List PV->W PV)->W PV}{n:Nat}
def Rr {m:zB} (hm:zB.Ok K r m) {σ:L2.St}{H:Hp}{Q:VK}{us:List V}{l:List PV} (sr:aW K H σ fs) (hu:aM K [] H us l) (q:(ud m l).run fun z=>∀u H',cW σ fs H H'->aW K H' σ fs->VR K [] H' u z->Q u H'):r us H Q:=hm (hr0 H) hu (m.mono (fun z h q=>pq0 sr q) q)
def uW {m:zB} (hc:bS X (.builtin id) r) (hB:zB.Ok K r m) (hg:Gl X x) (hm:X.mg x=none) (hv:bootBuiltins x=some (.builtin id)) (ha:AF X K fs (e::es) (Al n .v) B) (hn:x≠"__name__":=by decide) (qA:(x==("__debug__":Str))=false:=by decide)
  (he:starEach (e::es) X.env=(false,eval e X.env)::starEach es X.env:=by rfl) (eg:(backTo pos (starEach es X.env)).any (·.1)=false:=by rfl):EF X K fs (.Call (.Name x p) (e::es) [] pos) (B (ud m)):=by
 obtain⟨w,hp,hB2⟩:=ha.p;rw [hB2];exact⟨PE.imp (gm hc hg hm hv hp hn qA he eg) fun σ H Q ⟨sr,q⟩=>⟨sr,w.mono (fun l q1 vs H1 g1 s1 v1=>Rr hB s1 v1.P7.1 ((ud m l).mono (fun z q u H' g s v=>q u H' (g1.trans g) s v) q1)) q⟩⟩
def S1 {m:zB} (hc:bS X (.type id) r) (hB:zB.Ok K r m) (hg:Gl X x) (hm:X.mg x=none) (hv:bootBuiltins x=some (.type id)) (ha:AF X K fs (e::es) (Al n .v) B) (hn:x≠"__name__":=by decide) (qA:(x==("__debug__":Str))=false:=by decide)
  (he:starEach (e::es) X.env=(false,eval e X.env)::starEach es X.env:=by rfl) (eg:(backTo pos (starEach es X.env)).any (·.1)=false:=by rfl):EF X K fs (.Call (.Name x p) (e::es) [] pos) (B (ud m)):=by
 obtain⟨w,hp,hB2⟩:=ha.p;rw [hB2];exact⟨PE.imp (nr hc hg hm hv hp hn qA he eg) fun σ H Q ⟨sr,q⟩=>⟨sr,w.mono (fun l q1 vs H1 g1 s1 v1=>Rr hB s1 v1.P7.1 ((ud m l).mono (fun z q u H' g s v=>q u H' (g1.trans g) s v) q1)) q⟩⟩
def CQ (K:Ab) (r:List V->Hp->VK->Prop) (m:List PV->W PV):Prop:=∀{fs:aY}{σ:L2.St}{H:Hp}{Q:VK}{u:V}{l:List PV},aW K H σ fs->WS K σ fs H u l->((m l).run fun z=>∀u H',cW σ fs H H'->aW K H' σ fs->VR K [] H' u z->Q u H')->r [u] H Q
def CL (K:Ab) (r:List V->Hp->VK->Prop) (m:List PV->W (List PV)):Prop:=∀{fs:aY}{σ:L2.St}{H:Hp}{Q:VK}{u:V}{l:List PV},aW K H σ fs->WS K σ fs H u l->((m l).run fun z=>∀a vs H',cW σ fs H H'->aW K H' σ fs->H a=none->H' a=some (.lst vs)->aM K [] H' vs z->Q (.ref a) H')->r [u] H Q
def S2 {m:List PV->W PV} (hc:bS X (.builtin id) r) (hB:CQ K r m) (hg:Gl X x) (hm:X.mg x=none) (hv:bootBuiltins x=some (.builtin id)) (ha:QF X K fs e wl) (hn:x≠"__name__":=by decide) (qA:(x==("__debug__":Str))=false:=by decide)
  (he:starEach [e] X.env=(false,eval e X.env)::starEach [] X.env:=by rfl) (eg:(backTo pos (starEach [] X.env)).any (·.1)=false:=by rfl):EF X K fs (.Call (.Name x p) [e] [] pos) (.bind wl m):=⟨PE.imp (gm hc hg hm hv (bt ha.p dc he) hn qA he eg) fun σ H Q ⟨sr,q⟩=>⟨sr,wl.mono (fun l q1 u H1 g1 s1 v1=>hB s1 v1 ((m l).mono (fun z q u H' g s v=>q u H' (g1.trans g) s v) q1)) q⟩⟩
def Pk {m:List PV->W PV} (hc:bS X (.type id) r) (hB:CQ K r m) (hg:Gl X x) (hm:X.mg x=none) (hv:bootBuiltins x=some (.type id)) (ha:QF X K fs e wl) (hn:x≠"__name__":=by decide) (qA:(x==("__debug__":Str))=false:=by decide)
  (he:starEach [e] X.env=(false,eval e X.env)::starEach [] X.env:=by rfl) (eg:(backTo pos (starEach [] X.env)).any (·.1)=false:=by rfl):EF X K fs (.Call (.Name x p) [e] [] pos) (.bind wl m):=⟨PE.imp (nr hc hg hm hv (bt ha.p dc he) hn qA he eg) fun σ H Q ⟨sr,q⟩=>⟨sr,wl.mono (fun l q1 u H1 g1 s1 v1=>hB s1 v1 ((m l).mono (fun z q u H' g s v=>q u H' (g1.trans g) s v) q1)) q⟩⟩
def aeu {m:List PV->W (List PV)} (hc:bS X (.builtin id) r) (hB:CL K r m) (hg:Gl X x) (hm:X.mg x=none) (hv:bootBuiltins x=some (.builtin id)) (ha:QF X K fs e wl) (hn:x≠"__name__":=by decide) (qA:(x==("__debug__":Str))=false:=by decide)
  (he:starEach [e] X.env=(false,eval e X.env)::starEach [] X.env:=by rfl) (eg:(backTo pos (starEach [] X.env)).any (·.1)=false:=by rfl):LF X K fs (.Call (.Name x p) [e] [] pos) (.bind wl m):=⟨PE.imp (gm hc hg hm hv (bt ha.p dc he) hn qA he eg) fun σ H Q ⟨sr,q⟩=>⟨sr,wl.mono (fun l q1 u H1 g1 s1 v1=>hB s1 v1 ((m l).mono (fun z q a vs H' g s n e v=>q a vs H' (g1.trans g) s (g1.there a n) e v) q1)) q⟩⟩
def RM {m:List PV->W (List PV)} (hc:bS X (.type id) r) (hB:CL K r m) (hg:Gl X x) (hm:X.mg x=none) (hv:bootBuiltins x=some (.type id)) (ha:QF X K fs e wl) (hn:x≠"__name__":=by decide) (qA:(x==("__debug__":Str))=false:=by decide)
  (he:starEach [e] X.env=(false,eval e X.env)::starEach [] X.env:=by rfl) (eg:(backTo pos (starEach [] X.env)).any (·.1)=false:=by rfl):LF X K fs (.Call (.Name x p) [e] [] pos) (.bind wl m):=⟨PE.imp (nr hc hg hm hv (bt ha.p dc he) hn qA he eg) fun σ H Q ⟨sr,q⟩=>⟨sr,wl.mono (fun l q1 u H1 g1 s1 v1=>hB s1 v1 ((m l).mono (fun z q a vs H' g s n e v=>q a vs H' (g1.trans g) s (g1.there a n) e v) q1)) q⟩⟩
end
def uk (l:List PV):W PV:=.ret (.int l.length)
def Vw (K:Ab):CQ K (YH K) uk:=fun {fs σ H Q u l} s v q=>by
 obtain⟨a,vs,rfl,h,rs⟩:=v.sq s;refine⟨_,vs.length,rfl,?_,?_⟩
 ·exact h.elim (fun h=>.inl ⟨_,h,rfl⟩) fun h=>.inr ⟨_,h,rfl⟩
 ·rw [rs.length];exact q _ H .refl s (.int _)
def rk (l:List PV):W PV:=.ret (.tup l)
def Uj (K:Ab):CQ K (QS K) rk:=fun {fs σ H Q u l} s v q=>by
 have fresh:∀{a:Addr}{vs:List V},df K H a vs->aM K [] H vs l->QS K [.ref a] H Q:=fun {a vs} h rs=>⟨a,vs,rfl,.inl ⟨h,fun p H2 s2 e2 n2=>q _ H2 (cW.same s2) (s.same s2) (.tup e2 (aM.tk s2.fy rs))⟩⟩;rcases v with⟨a,vs,rfl,h | h,rs⟩ | ⟨a,rfl,⟨n,vs,h,rs⟩ | ⟨i,_,q1,q2⟩⟩
 ·exact fresh h.sq rs
 ·exact⟨a,vs,rfl,.inr ⟨dD.of h,q _ H .refl s (.tup h rs)⟩⟩
 ·exact fresh (df.of h) rs
 ·obtain⟨_,vs,h,rs⟩:=s.ownAt q1 rfl q2;exact fresh (df.of h) rs
end
end
section
open PySem PySem.Spec PyProof.Rows L2 PL
variable {K:Ab}
def xD (vs:List V) (ks:List AK) (φ:List V->Prop) (a:Addr):Prop:=∃i:Nat,ks[i]?=some (.p φ)/\vs[i]?=some (.ref a)
structure GoC (vs:List V) (ks:List AK) (H H':Hp):Prop where
 keep:∀a o,H a=some o->(∀φ,¬xD vs ks φ a)->H' a=some o
 there:∀a,H' a=none->H a=none
 YS:∀a φ,xD vs ks φ a->∃ws,H' a=some (.lst ws)/\φ ws
inductive jG (K:Ab) (H:Hp):List V->List AK->List PV->Prop
 | nil:jG K H [] [] []
 | v {u:V}{x:PV}{vs:List V}{ks:List AK}{l:List PV} (r:VR K [] H u x) (t:jG K H vs ks l):jG K H (u::vs) (.v::ks) (x::l)
 | p {a:Addr}{φ:List V->Prop}{ws vs:List V}{ks:List AK}{l:List PV} (e:H a=some (.lst ws)) (r:φ ws) (t:jG K H vs ks l):jG K H (.ref a::vs) (.p φ::ks) l
 | f {a:Addr}{vs:List V}{ks:List AK}{l:List PV} (t:jG K H vs ks l):jG K H (.ref a::vs) (.f a::ks) l
def gY (K:Ab) (ks:List AK) (m:List PV->W PV):Sp:=fun vs H Q _=>∃l,jG K H vs ks l/\(m l).run fun v=>∀u H',GoC vs ks H H'->VR K [] H' u v->Q u H'
def jJ (K:Ab) (ks:List AK) (m:List PV->W (List PV)):Sp:=fun vs H Q _=>∃l,jG K H vs ks l/\(m l).run fun z=>∀a ws H',GoC vs ks H H'->H a=none->H' a=some (.lst ws)->aM K [] H' ws z->Q (.ref a) H'
def T7 (R:Type):Nat->Type
 | 0=>W R
 | n+1=>PV->T7 R n
def da {R:Type}:(n:Nat)->T7 R n->List PV->W R
 | 0,m,[]=>m
 | n+1,m,x::l=>da n (m x) l
 | 0,_,_::_=>.fail
 | _+1,_,[]=>.fail
section
variable {σ:L2.St}{fs:aY}{H H':Hp}{vs:List V}{ks:List AK}{l:List PV}
def gD.iC (h:gD K σ fs H vs ks l) {φ:List V->Prop}{a:Addr} (p:xD vs ks φ a):fx σ fs φ a:=by
 obtain⟨i,e1,e2⟩:=p
 induction h generalizing i with
 | nil=>simp at e1
 | v r t ih=>cases i with | zero=>simp at e1 | succ i=>exact ih i (by simpa using e1) (by simpa using e2)
 | p r t ih=>
  cases i with
  | zero=>simp at e1 e2;subst e1;subst e2;exact r
  | succ i=>exact ih i (by simpa using e1) (by simpa using e2)
 | f t ih=>cases i with | zero=>simp at e1 | succ i=>exact ih i (by simpa using e1) (by simpa using e2)
def gD.c (h:gD K σ fs H vs ks l) (s:aW K H σ fs):jG K H vs ks l:=by
 induction h with
 | nil=>exact .nil
 | v r t ih=>exact .v r ih
 | p r t ih=>
  obtain⟨i,e1,e2⟩:=r;obtain⟨ws,q,x⟩:=s.ownAt e1 rfl e2;exact .p q x ih
 | f t ih=>exact .f ih
def GoC.caller (g:GoC vs ks H H') (h:gD K σ fs H vs ks l) (s:aW K H σ fs):aW K H' σ fs/\cW σ fs H H':=by
 have po:∀{φ:List V->Prop}{a:Addr},xD vs ks φ a->dj σ fs a:=fun {φ a} p=>let ⟨i,e1,e2⟩:=h.iC p;⟨i,_,_,e1,rfl,e2,.inl rfl⟩;have gf:cW σ fs H H':=⟨fun a o e n=>g.keep a o e fun φ p=>n φ (h.iC p),g.there⟩;have tk:=gf.eY s;refine⟨⟨s.len,fun i t e=>?_,s.nd⟩,gf⟩;obtain⟨u,h1,h2⟩:=s.at' i t e;refine⟨u,h1,?_⟩;rcases h2 with⟨v,q,r⟩ | ⟨a,q,r⟩
 ·exact .inl ⟨v,q,VR.tk tk r⟩
 ·subst q;refine .inr ⟨a,rfl,?_⟩;by_cases c:(∃φ,xD vs ks φ a)/\t.own=true
  ·obtain⟨⟨φ,p⟩,ow⟩:=c;obtain⟨j,e1,e2⟩:=h.iC p;have ij:=s.nd i j t _ a a a e e1 ow rfl h1 e2 (.inl rfl) (.inl rfl);subst ij;rw [e] at e1;cases e1;exact g.YS a φ p
  ·refine r.mono tk (fun b o ow hb z=>g.keep b o z fun φ p=>?_);obtain⟨j,e1,e2⟩:=h.iC p;have ij:=s.nd i j t _ a b b e e1 ow rfl h1 e2 hb (.inl rfl);subst ij;rw [h1] at e2;cases e2;exact c ⟨⟨φ,p⟩,ow⟩
end
section
variable {X:Cx}{e:Expr}{es:List Expr}{pos p:Pos}{fs:aY}{k k':Nat}{ps:List Str}{x:Str}{ks:List AK}
def aac {m:List PV->W PV}{B:(List PV->W PV)->W PV} (G:WZ X.prog X.w X.K X.mg X.base x k ps (gY K ks m)) (hr:fv k' X.A) (hk:k<=k') (hg:Gl X x) (ha:AF X K fs (e::es) ks B) (qA:(x==("__debug__":Str))=false:=by decide)
  (he:starEach (e::es) X.env=(false,eval e X.env)::starEach es X.env:=by rfl) (eg:(backTo pos (starEach es X.env)).any (·.1)=false:=by rfl):EF X K fs (.Call (.Name x p) (e::es) [] pos) (B m):=by
 obtain⟨w,hp,hB⟩:=ha.p;rw [hB];exact⟨PE.imp (Rj G hr hk hg hp qA he eg) fun σ H Q ⟨sr,q⟩=>⟨sr,w.mono (fun l q1 vs H1 g1 s1 v1=>⟨l,v1.c s1,(m l).mono (fun z q2 u H2 g2 r2=>let ⟨s2,g3⟩:=g2.caller v1 s1;q2 u H2 (g1.trans g3) s2 r2) q1⟩) q⟩⟩
def Zu {m:List PV->W (List PV)}{B:(List PV->W (List PV))->W (List PV)} (G:WZ X.prog X.w X.K X.mg X.base x k ps (jJ K ks m)) (hr:fv k' X.A) (hk:k<=k') (hg:Gl X x) (ha:AF X K fs (e::es) ks B) (qA:(x==("__debug__":Str))=false:=by decide)
  (he:starEach (e::es) X.env=(false,eval e X.env)::starEach es X.env:=by rfl) (eg:(backTo pos (starEach es X.env)).any (·.1)=false:=by rfl):LF X K fs (.Call (.Name x p) (e::es) [] pos) (B m):=by
 obtain⟨w,hp,hB⟩:=ha.p;rw [hB];exact⟨PE.imp (Rj G hr hk hg hp qA he eg) fun σ H Q ⟨sr,q⟩=>⟨sr,w.mono (fun l q1 vs H1 g1 s1 v1=>⟨l,v1.c s1,(m l).mono (fun z q2 a ws H2 g2 n2 e2 r2=>let ⟨s2,g3⟩:=g2.caller v1 s1;q2 a ws H2 (g1.trans g3) s2 (g1.there a n2) e2 r2) q1⟩) q⟩⟩
end
end
section
open PySem PySem.Spec PyProof.Rows L2 PL
variable {K:Ab}
inductive End where
 | nx (fs:aY) | nc (fs:aY) | ct (fs:aY) | rt (v:PV) | rl (l:List PV) | bk (fs:aY) | ro (v:PV) (a:Addr) (l:List PV)
def HF (σ:L2.St) (fs:aY) (H:Hp) (a:Addr):Prop:=H a=none\/∃(i:Nat) (s:SL) (x:Addr),fs[i]?=some (some s)/\s.own=true/\(∀φ,s≠.iC φ)/\σ[i]?=some (some (.ref x))/\s.has x a
def bC (K:Ab) (x:Bool) (σ:L2.St) (fs:aY) (H:Hp) (D:Ends):End->Prop
 | .nx bH=>x=false->∀σ' H',cI σ fs H σ' bH H'->aW K H' σ' bH->D.nx σ' H'
 | .nc bH=>∀σ' H',cI σ fs H σ' bH H'->aW K H' σ' bH->(x=false->D.nx σ' H')/\D.ct σ' H'
 | .ct bH=>∀σ' H',cI σ fs H σ' bH H'->aW K H' σ' bH->D.ct σ' H'
 | .bk bH=>∀σ' H',cI σ fs H σ' bH H'->aW K H' σ' bH->D.bk σ' H'
 | .rt v=>∀u σ' bH H',cI σ fs H σ' bH H'->aW K H' σ' bH->VR K [] H' u v->D.rt u H'
 | .ro v a l=>∀u σ' bH H',cI σ fs H σ' bH H'->aW K H' σ' bH->(∃i:Nat,bH[i]?=some (some (.ol (some a) l)))->VR K [] H' u v->D.rt u H'
 | .rl l=>∀a ws σ' bH H',cI σ fs H σ' bH H'->aW K H' σ' bH->HF σ fs H a->H' a=some (.lst ws)->aM K [] H' ws l->D.rt (.ref a) H'
def fS (K:Ab) (x:Bool) (fs:aY) {T:Type} (w:W T) (out:T->End):TS:=fun D σ H=>aW K H σ fs/\w.run fun t=>bC K x σ fs H D (out t)
structure SF (X:Cx) (K:Ab) (x:Bool) (fs:aY) (TU:List Stmt) {T:Type} (w:W T) (out:T->End):Prop where p:u0 X TU (fS K x fs w out)
section
variable {σ σ1:L2.St}{fs V9:aY}{H H1:Hp}{D:Ends}{x:Bool}
def HF.go {a:Addr} (g:cI σ fs H σ1 V9 H1) (s:aW K H σ fs) (s1:aW K H1 σ1 V9) (h:HF σ1 V9 H1 a):HF σ fs H a:=by
 rcases h with h | ⟨i,t,x,e1,e2,np,e3,e4⟩
 ·exact .inl (g.there a h)
 ·cases z:H a with
  | none=>exact .inl z
  | some o=>
   by_cases c:dj σ fs a
   ·obtain⟨j,t',y,c1,c2,c3,c4⟩:=c;by_cases d:∃φ,t'=.iC φ
    ·obtain⟨φ,rfl⟩:=d;rcases c4 with rfl | c4
     ·rcases g.pk a φ ⟨j,c1,c3⟩ with⟨k,k1,k2⟩ | ⟨n,_⟩
      ·have:=s1.nd i k t _ x a a e1 k1 e2 rfl e3 k2 e4 (.inl rfl);subst this;rw [e1] at k1;cases k1;exact absurd rfl (np φ)
      ·exact absurd ⟨i,t,x,e1,e2,e3,e4⟩ n
     ·cases c4
    ·exact .inr ⟨j,t',y,c1,c2,fun φ e=>d ⟨φ,e⟩,c3,c4⟩
   ·exact absurd ⟨i,t,x,e1,e2,e3,e4⟩ (g.keep a o z c).2
def bC.go (g:cI σ fs H σ1 V9 H1) (s:aW K H σ fs) (s1:aW K H1 σ1 V9) {E:End} (h:bC K x σ fs H D E):bC K x σ1 V9 H1 D E:=by
 cases E with
 | nx bH=>exact fun hx σ' H' g' s'=>h hx σ' H' (g.trans g') s'
 | nc bH=>exact fun σ' H' g' s'=>h σ' H' (g.trans g') s'
 | bk bH=>exact fun σ' H' g' s'=>h σ' H' (g.trans g') s'
 | ct bH=>exact fun σ' H' g' s'=>h σ' H' (g.trans g') s'
 | rt v=>exact fun u σ' bH H' g' s' r=>h u σ' bH H' (g.trans g') s' r
 | ro v a l=>exact fun u σ' bH H' g' s' o r=>h u σ' bH H' (g.trans g') s' o r
 | rl l=>exact fun a ws σ' bH H' g' s' f e r=>h a ws σ' bH H' (g.trans g') s' (f.go g s s1) e r
def bC.exit {D':Ends} (h1:D'.rt=D.rt) (h2:D'.ct=D.ct) (h3:D'.bk=D.bk) {E:End} (h:bC K x σ fs H D E):bC K true σ fs H D' E:=by
 cases E with
 | nx bH=>exact fun hx=>nomatch hx
 | nc bH=>exact fun σ' H' g' s'=>⟨fun hx=>(nomatch hx),h2▸(h σ' H' g' s').2⟩
 | bk bH=>exact fun σ' H' g' s'=>h3▸h σ' H' g' s'
 | ct bH=>exact fun σ' H' g' s'=>h2▸h σ' H' g' s'
 | rt v=>exact fun u σ' bH H' g' s' r=>h1▸h u σ' bH H' g' s' r
 | ro v a l=>exact fun u σ' bH H' g' s' o r=>h1▸h u σ' bH H' g' s' o r
 | rl l=>exact fun a ws σ' bH H' g' s' f e r=>h1▸h a ws σ' bH H' g' s' f e r
end
section
variable {X:Cx}{a b c e o:Expr}{pos p:Pos}{fs bH:aY}{st:Stmt}{TU rest sa sb:List Stmt}{T T1:Type}{w wk:W T}{out:T->End}{we:W PV}{wl:W (List PV)}{x:Bool}
def End.Nv:End->Prop
 | .rt _=>True
 | .rl _=>True
 | .ro _ _ _=>True
 | _=>False
def bC.aci {σ:L2.St}{H:Hp}{D D':Ends}{y:Bool}{E:End} (ho:E.Nv) (e:D'.rt=D.rt) (h:bC K x σ fs H D E):bC K y σ fs H D' E:=by
 cases E with
 | rt v=>exact fun u σ' bH H' g s r=>e▸h u σ' bH H' g s r
 | rl v=>exact fun a ws σ' bH H' g s f ea r=>e▸h a ws σ' bH H' g s f ea r
 | ro v a l=>exact fun u σ' bH H' g s o r=>e▸h u σ' bH H' g s o r
 | _=>exact ho.elim
def HP (X:Cx) (K:Ab) (x:Bool) (rest:List Stmt) {T:Type} (out:T->End):TS:=fun D σ H=>∃bH w',SF X K x bH rest w' out/\fS K x bH w' out D σ H
def UL:u0 X rest (HP X K x rest out):=fun pins s σ H D I ⟨bH,w',h,q⟩=>h.p pins s σ H D I q
def Rz:u0 X rest Yl:=fun _ _ _ _ _ _ h=>h.elim
def SF.step {t:TS} (h:PS X st t) (hq:∀D σ H,fS K x fs w out D σ H->t {D with nx:=HP X K x rest out D} σ H):SF X K x fs (st::rest) w out:=⟨u0.imp (Ij h UL) fun D σ H q=>hq D σ H q⟩
def SF.last {t:TS} (h:PS X st t) (hq:∀D σ H,fS K x fs w out D σ H->t {D with nx:=fun _ _=>False} σ H):SF X K x fs (st::rest) w out:=⟨u0.imp (Ij h Rz) fun D σ H q=>hq D σ H q⟩
def SF.nil {t:T} (h:out t=.nx bH) (hl:kf fs bH):SF X K false fs [] (.ret t) out:=⟨u0.imp FY fun D σ H ⟨sr,q⟩=>by
 have q:bC K false σ fs H D (out t):=q;rw [h] at q;exact q rfl σ H (cI.le sr hl) (sr.le hl)⟩
def SF.gI {t:T} (h:out t=.nc bH) (hl:kf fs bH):SF X K false fs [] (.ret t) out:=⟨u0.imp FY fun D σ H ⟨sr,q⟩=>by
 have q:bC K false σ fs H D (out t):=q;rw [h] at q;exact (q σ H (cI.le sr hl) (sr.le hl)).1 rfl⟩
def SF.cont {t:T} (h:out t=.nc bH\/out t=.ct bH) (hl:kf fs bH):SF X K x fs (.Continue pos::rest) (.ret t) out:=SF.last Im fun D σ H ⟨sr,q⟩=>by
 have q:bC K x σ fs H D (out t):=q;rcases h with h | h
 ·rw [h] at q;exact (q σ H (cI.le sr hl) (sr.le hl)).2
 ·rw [h] at q;exact q σ H (cI.le sr hl) (sr.le hl)
def SF.ret {k:PV->T} (he:EF X K fs e we) (h:∀v,out (k v)=.rt v):SF X K x fs (.Return (some e) pos::rest) (.bind we fun v=>.ret (k v)) out:=SF.last (FZ he.p) fun D σ H ⟨sr,q⟩=>⟨sr,we.mono (fun v q1 u H1 g1 s1 v1=>by
 have q1:bC K x σ fs H D (out (k v)):=q1;rw [h] at q1;exact q1 u σ fs H1 g1.f s1 v1) q⟩
def SF.cf {out:PV->End} (he:EF X K fs e we) (h:∀v,out v=.rt v):SF X K x fs (.Return (some e) pos::rest) we out:=SF.ret (k:=fun v=>v) he h
def SF.afN {k:List PV->T} (he:LF X K fs e wl) (h:∀l,out (k l)=.rl l):SF X K x fs (.Return (some e) pos::rest) (.bind wl fun l=>.ret (k l)) out:=SF.last (FZ he.p) fun D σ H ⟨sr,q⟩=>⟨sr,wl.mono (fun l q1 a ws H1 g1 s1 n e v1=>by
 have q1:bC K x σ fs H D (out (k l)):=q1;rw [h] at q1;exact q1 a ws σ fs H1 g1.f s1 (.inl n) e v1) q⟩
def SF.mi {out:List PV->End} (he:LF X K fs e wl) (h:∀v,out v=.rl v):SF X K x fs (.Return (some e) pos::rest) wl out:=SF.afN (k:=fun v=>v) he h
def SF.QO (i:Nat) {y:Str}{q0:Option Addr}{l:List PV}{t:T} (hs:fs[i]?=some (some (.ol q0 l))) (h:out t=.rl l) (hN:X.N[i]?=some y:=by rfl) (hv:Hv X.env.scope y:=by first | exact Cs rfl | exact Cj (Cs rfl) | exact Cj (Cj rfl)) (hd:(y==("__debug__":Str))=false:=by decide) (jw:(y==("__classdict__":Str))=false:=by decide):SF X K x fs (.Return (some (.Name y p)) pos::rest) (.ret t) out:=SF.last (FZ (dw hN hv hd jw)) fun D σ H ⟨sr,q⟩=>by
 have q:bC K x σ fs H D (out t):=q;rw [h] at q;obtain⟨u,e1,r⟩:=sr.at' i _ hs;rcases r with⟨v,e,_⟩ | ⟨a,e,r⟩
 ·cases e
 ·subst e;obtain⟨_,ws,q1,q2⟩:=r;exact⟨_,e1,q a ws σ fs H .refl sr (.inr ⟨i,_,_,hs,rfl,by simp,e1,.inl rfl⟩) q1 q2⟩
def SF.abV (i:Nat) {ad:Addr}{l:List PV}{k:PV->T} (hs:fs[i]?=some (some (.ol (some ad) l))) (he:EF X K fs e we) (h:∀v,out (k v)=.ro v ad l):SF X K x fs (.Return (some e) pos::rest) (.bind we fun v=>.ret (k v)) out:=SF.last (FZ he.p) fun D σ H ⟨sr,q⟩=>⟨sr,we.mono (fun v q1 u H1 g1 s1 v1=>by
 have q1:bC K x σ fs H D (out (k v)):=q1;rw [h] at q1;exact q1 u σ fs H1 g1.f s1 ⟨i,hs⟩ v1) q⟩
def SF.expr {k:PV->W T} (he:EF X K fs e we) (hr:∀v,SF X K x fs rest (k v) out) (hs:swapsWith e none pos.line X.env=pure false:=by rfl):SF X K x fs (.Expr e pos::rest) (.bind we k) out:=SF.step (pZ he.p hs) fun D σ H ⟨sr,q⟩=>
 ⟨sr,we.mono (fun v q1 u H1 g1 s1 v1=>⟨fs,k v,hr v,s1,(k v).mono (fun t q2=>q2.go g1.f sr s1) q1⟩) q⟩
def SF.set {i:Nat}{y:Str}{p':Pos}{k:PV->W T} (hN:X.N.Nodup) (hi:X.N[i]?=some y) (hx:Loc X.env.scope y) (he:EF X K fs e we) (hr:∀v,SF X K x (fs.set i (some (.val v))) rest (k v) out) (hs:swapsWith e (some (.Name y p')) pos.line X.env=pure false:=by rfl)
  (hf:X.fn y=true\/X.env.scope.names.lookup y=some .local:=by first | exact .inl rfl | exact .inr rfl | assumption):SF X K x fs (.Assign [.Name y p'] e pos::rest) (.bind we k) out:=SF.step (vH hN hi hx he.p hs hf) fun D σ H ⟨sr,q⟩=>
 ⟨sr,we.mono (fun v q1 u H1 g1 s1 v1=>⟨_,k v,hr v,s1.gk v1 i,(k v).mono (fun t q2=>q2.go (g1.f.trans (cI.gk s1 u v i)) sr (s1.gk v1 i)) q1⟩) q⟩
def SF.afK {i:Nat}{y:Str}{p':Pos}{k:List PV->W T} (hN:X.N.Nodup) (hi:X.N[i]?=some y) (hx:Loc X.env.scope y) (he:LF X K fs e wl) (hr:∀l,SF X K x (fs.set i (some (.ol none l))) rest (k l) out) (hs:swapsWith e (some (.Name y p')) pos.line X.env=pure false:=by rfl)
  (hf:X.fn y=true\/X.env.scope.names.lookup y=some .local:=by first | exact .inl rfl | exact .inr rfl | assumption):SF X K x fs (.Assign [.Name y p'] e pos::rest) (.bind wl k) out:=SF.step (vH hN hi hx he.p hs hf) fun D σ H ⟨sr,q⟩=>by
 refine⟨sr,wl.mono (fun l q1 a ws H1 g1 s1 n e v1=>?_) q⟩;have no:=sr.noOwn n;have s2:=s1.vG (t:=.ol none l) ⟨by simp,ws,e,v1⟩ no i;exact⟨_,k l,hr l,s2,(k l).mono (fun t q2=>q2.go (cI.vG s1 g1.f no n i) sr s2) q1⟩
def SF.cV (i:Nat) {q0:Option Addr}{l:List PV} (hs:fs[i]?=some (some (.ol q0 l))) (hr:SF X K x (fs.set i (some (.val (.cl l)))) TU w out):SF X K x fs TU w out:=⟨fun pins s σ H D I ⟨sr,q⟩=>by
 obtain⟨u,e1,r⟩:=sr.at' i _ hs;rcases r with⟨v,e,_⟩ | ⟨a,e,_,ws,q1,q2⟩
 ·cases e
 ·subst e;obtain⟨ob,I2⟩:=I.uS q1;have tk:=nj (K:=K) (.cV ob (.lst ws)) q1;have sS:σ.set i (some (.ref a))=σ:=Bd fun j=>by
   by_cases c:j=i
   ·subst c;rw [cu ((Ak.mp e1).1),e1]
   ·rw [aJ c]
  have ow:∀b,dj σ (fs.set i (some (.val (.cl l)))) b->dj σ fs b:=fun b z=>by
   obtain⟨j,t,x,z1,z2,z3,z4⟩:=z;rcases aZ z1 with⟨rfl,rfl⟩ | ⟨n,z1⟩
   ·cases z2
   ·exact⟨j,t,x,z1,z2,z3,z4⟩
  have na:¬dj σ (fs.set i (some (.val (.cl l)))) a:=fun z=>by
   obtain⟨j,t,x,z1,z2,z3,z4⟩:=z;rcases aZ z1 with⟨rfl,rfl⟩ | ⟨n,z1⟩
   ·cases z2
   ·exact n (sr.nd j i t _ x a a z1 hs z2 rfl z3 e1 z4 (.inl rfl))
  have s2:aW K (upd H a (.cV ob (.lst ws))) σ (fs.set i (some (.val (.cl l)))):=by
   refine⟨by simp [sr.len],fun j t z=>?_,fun j k t u b1 b2 b z1 z2 o1 o2=>?_⟩
   ·rcases aZ z with⟨rfl,rfl⟩ | ⟨n,z⟩
    ·exact⟨_,e1,.inl ⟨_,rfl,.cl (.inl ⟨ob,aR⟩) (aM.tk tk q2)⟩⟩
    ·obtain⟨u,h1,h2⟩:=sr.at' j t z;exact⟨u,h1,h2.mono tk (fun x b o eb ow hb zz=>by
      subst eb;rw [ay (fun y=>by subst y;exact n (sr.nd j i t _ x b b z hs ow rfl h1 e1 hb (.inl rfl)))];exact zz)⟩
   ·rcases aZ z1 with⟨rfl,rfl⟩ | ⟨n1,z1⟩
    ·cases o1
    ·rcases aZ z2 with⟨rfl,rfl⟩ | ⟨n2,z2⟩
     ·cases o2
     ·exact sr.nd j k t u b1 b2 b z1 z2 o1 o2
  have g2:cI σ fs H σ (fs.set i (some (.val (.cl l)))) (upd H a (.cV ob (.lst ws))):=by
   refine⟨fun b o z n=>⟨?_,fun y=>n (ow b y)⟩,fun b z=>?_,fun b φ z=>?_⟩
   ·rw [ay (fun y=>by subst y;exact n ⟨i,_,_,hs,rfl,e1,.inl rfl⟩)];exact z
   ·by_cases c:b=a
    ·subst c;rw [aR] at z;cases z
    ·rw [ay c] at z;exact z
   ·obtain⟨j,z1,z2⟩:=z;have:j≠i:=fun y=>by subst y;rw [hs] at z1;cases z1
    exact .inl ⟨j,by rw [aJ this];exact z1,z2⟩
  exact hr.p pins s σ _ D I2 ⟨s2,w.mono (fun t q3=>q3.go g2 sr s2) q⟩⟩
variable {tc:W Bool}
def SF.ifT (hc:TF X K fs c tc) (ha:SF X K x fs sa w out) (hb:SF X K x fs sb wk out):SF X K x fs [.If c sa sb pos] (.bind tc fun b=>if b=true then w else wk) out:=⟨u0.imp (US (Q3 hc.p ha.p hb.p)) fun D σ H ⟨sr,q⟩=>⟨sr,tc.mono (fun k q1 H1 g1 s1=>by
 cases k with
 | true=>exact yB ⟨s1,w.mono (fun t q2=>q2.go g1.f sr s1) q1⟩
 | false=>exact yC ⟨s1,wk.mono (fun t q2=>q2.go g1.f sr s1) q1⟩) q⟩⟩
def SF.Lz (hc:TF X K fs c tc) (ha:SF X K true fs sa w out) (hb:SF X K x fs rest wk out):SF X K x fs (.If c sa [] pos::rest) (.bind tc fun b=>if b=true then w else wk) out:=SF.step (Q3 hc.p ha.p FY) fun D σ H ⟨sr,q⟩=>⟨sr,tc.mono (fun k q1 H1 g1 s1=>by
 cases k with
 | true=>exact yB ⟨s1,w.mono (fun t q2=>bC.exit (D:=D) (D':={D with nx:=HP X K x rest out D}) rfl rfl rfl (q2.go g1.f sr s1)) q1⟩
 | false=>exact yC ⟨fs,wk,hb,s1,wk.mono (fun t q2=>q2.go g1.f sr s1) q1⟩) q⟩
def aaB (X:Cx) (K:Ab) (x:Bool) (rest:List Stmt) {T:Type} (w:W T) (out:T->End):End->Prop
 | .nx bH=>SF X K x bH rest w out
 | .nc bH=>False
 | .bk bH=>∃t,w=.ret t/\out t=.bk bH
 | .ct bH=>∃t,w=.ret t/\(out t=.ct bH\/out t=.nc bH)
 | .rt v=>∃t,w=.ret t/\out t=.rt v
 | .rl l=>∃t,w=.ret t/\out t=.rl l
 | .ro v a l=>∃t,w=.ret t/\out t=.ro v a l
def aaB.r {σ:L2.St}{H:Hp}{D:Ends}{E:End} (sr:aW K H σ fs) (h:aaB X K x rest w out E) (q:w.run fun t=>bC K x σ fs H D (out t)):bC K false σ fs H {D with nx:=HP X K x rest out D} E:=by
 cases E with
 | nx bH=>exact fun _ σ' H' g' s'=>⟨bH,w,h,s',w.mono (fun t q2=>q2.go g' sr s') q⟩
 | nc bH=>exact h.elim
 | bk bH=>
  obtain⟨t,rfl,h⟩:=h;have q:bC K x σ fs H D (out t):=q;rw [h] at q;exact q
 | ct bH=>
  obtain⟨t,rfl,h⟩:=h;have q:bC K x σ fs H D (out t):=q;rcases h with h | h
  ·rw [h] at q;exact q
  ·rw [h] at q;exact fun σ' H' g s=>(q σ' H' g s).2
 | rt v=>
  obtain⟨t,rfl,h⟩:=h;have q:bC K x σ fs H D (out t):=q;rw [h] at q;exact q
 | rl v=>
  obtain⟨t,rfl,h⟩:=h;have q:bC K x σ fs H D (out t):=q;rw [h] at q;exact q
 | ro v a l=>
  obtain⟨t,rfl,h⟩:=h;have q:bC K x σ fs H D (out t):=q;rw [h] at q;exact q
variable {w1 w2:W T1}{out1:T1->End}{k:T1->W T}
def SF.ifS (hc:TF X K fs c tc) (ha:SF X K false fs sa w1 out1) (hb:SF X K false fs sb w2 out1) (hr:∀t,aaB X K x rest (k t) out (out1 t)):SF X K x fs (.If c sa sb pos::rest) (.bind tc fun b=>.bind (if b=true then w1 else w2) k) out:=SF.step (Q3 hc.p ha.p hb.p) fun D σ H ⟨sr,q⟩=>⟨sr,tc.mono (fun b q1 H1 g1 s1=>by
 have fin:∀t,(k t).run (fun t=>bC K x σ fs H D (out t))->bC K false σ fs H {D with nx:=HP X K x rest out D} (out1 t):=fun t q=>(hr t).r sr q;cases b with
 | true=>exact yB ⟨s1,w1.mono (fun t q2=>(fin t q2).go g1.f sr s1) q1⟩
 | false=>exact yC ⟨s1,w2.mono (fun t q2=>(fin t q2).go g1.f sr s1) q1⟩) q⟩
end
end
section
open PySem PySem.Spec PyProof.Rows L2 PL
variable {K:Ab}
def JF (K:Ab) (H:Hp) (J:It) (l:List PV):Prop:=l.length<=sizeLine/\∀H',bq K H H'->(∀(i:Nat) (p:PV),l[i]?=some p->J.go i H'/\∀x H2,J.W4 i H' x H2->lS H' H2/\VR K [] H2 x p)/\J.stop l.length H'
def JF.tk {H H':Hp}{J:It}{l:List PV} (t:bq K H H') (h:JF K H J l):JF K H' J l:=⟨h.1,fun H2 t2=>h.2 H2 (bq.trans t t2)⟩
def fIt (K:Ab) (fs:aY) (w:W (List PV)):TI:=fun σ H R=>aW K H σ fs/\w.run fun l=>∀J H',cW σ fs H H'->aW K H' σ fs->JF K H' J l->R J H'
structure u7 (X:Cx) (K:Ab) (fs:aY) (tg e:Expr) (w:W (List PV)):Prop where p:PI X tg e (fIt K fs w)
section
variable {X:Cx}{a b c e tg:Expr}{pos p p1 p2:Pos}{fs:aY}{w wa wb wc:W PV}{wl:W (List PV)}
def WV {H:Hp}{ad:Addr}{vs:List V}{l:List PV} (h:X5 K H ad vs) (r:aM K [] H vs l) (hz:l.length<=sizeLine):JF K H (Itl K ad) l:=⟨hz,fun H' t=>by
 have e1:=(t.f _ _ h).sq;have e2:=aM.tk t r;refine⟨fun i p hp=>?_,vs,e1,by rw [e2.length];exact An _⟩;obtain⟨v,h3,h4⟩:=e2.get hp;refine⟨⟨vs,v,e1,h3⟩,fun x H3 y=>?_⟩;obtain⟨rfl,y⟩:=y;have:=y vs e1;rw [h3] at this;cases this;exact⟨lS.refl _,h4⟩⟩
def aaz {H:Hp}{ad:Addr}{vs:List V}{l:List PV} (h:H ad=some (.tup vs)) (r:aM K [] H vs l) (hz:l.length<=sizeLine):JF K H (Itt K ad) l:=⟨hz,fun H' t=>by
 have e1:=dD.of (K:=K) (t.t _ _ h);have e2:=aM.tk t r;refine⟨fun i p hp=>?_,vs,e1,by rw [e2.length];exact An _⟩;obtain⟨v,h3,h4⟩:=e2.get hp;refine⟨⟨vs,v,e1,h3⟩,fun x H3 y=>?_⟩;obtain⟨rfl,y⟩:=y;have:=y vs e1;rw [h3] at this;cases this;exact⟨lS.refl _,h4⟩⟩
def cD (hK:X.K=K) (h:IF X K fs e wl):u7 X K fs tg e wl:=⟨by
 subst hK;intro pins s σ H R I ⟨sr,q⟩;refine bD (h.p pins s σ H (fun u H1=>∃l,SqI X.K H1 u l/\∀J,JF X.K H1 J l->R J H1) I ⟨sr,wl.mono (fun l q1 u H1 g1 s1 v1=>⟨l,v1,fun J j=>q1 J H1 g1 s1 j⟩) q⟩) fun v s1 ⟨x,H1,I1,r1,l,⟨ad,vs,e,hh,rs⟩,q1⟩=>?_;subst e;cases r1;rcases hh with hh | hh
 ·obtain⟨au,rv,pl,hz⟩:=I1.list hh.sq;refine Cu pl.isList ?_;refine⟨s1.heap.objs.size,[s1.heap.objs.size],_,_,H1,rfl,I1.kept (t':=s1.toks) fun b o e=>Aj _ e,N7 ad _,⟨_,Aq _ rfl,rfl,rfl⟩,fun b hb=>?_,q1 _ (WV hh rs (by rw [<- rs.length];exact hz))⟩;have e:b=s1.heap.objs.size:=by simpa using hb
  subst e;exact I1.GX (An _) (I1.bG.fresh (An _))
 ·obtain⟨au,rv,pl,hz⟩:=I1.tuple (dD.of hh);refine DS (show s1.heap.IsTuple ad au.toArray from pl) ?_;refine⟨s1.heap.objs.size,[s1.heap.objs.size],_,_,H1,rfl,I1.kept (t':=s1.toks) fun b o e=>Aj _ e,Kb ad _,⟨_,Aq _ rfl,rfl,rfl⟩,fun b hb=>?_,q1 _ (aaz hh rs (by rw [<- rs.length];exact hz))⟩;have e:b=s1.heap.objs.size:=by simpa using hb
  subst e;exact I1.GX (An _) (I1.bG.fresh (An _))⟩
def okN (i j:Int):Prop:=-(2 ^ 62)<=i/\i < 2 ^ 62/\-(2 ^ 62)<=j/\j < 2 ^ 62/\(j-i).toNat<=sizeLine
def jM:PV->W (List PV)
 | .int j=>.gB (okN 0 j) (.ret (j5 0 j.toNat))
 | _=>.fail
def MX:PV->PV->PV->W (List PV)
 | .int i,.int j,.int k=>.gB (k = -1/\okN j i) (.ret (n8 i (i-j).toNat))
 | _,_,_=>.fail
def aaA {H:Hp} (lo:Int) (n:Nat) (hz:n<=sizeLine):JF K H (Itr lo n) (j5 lo n):=⟨by rw [j3];exact hz,fun H' t=>⟨fun i p hp=>by
  obtain⟨h1,rfl⟩:=sf hp;refine⟨h1,fun x H2 y=>?_⟩;obtain⟨rfl,rfl⟩:=y;exact⟨lS.refl _,.int _⟩,by show n<=(j5 lo n).length;rw [j3];exact An _⟩⟩
def fi (hg:Gl X "range") (hm:X.mg "range"=none) (ha:EF X K fs a wa) (hs:starEach [a] X.env=[(false,eval a X.env)]:=by rfl):u7 X K fs tg (.Call (.Name "range" p) [a] [] pos) (.bind wa jM):=
 ⟨PI.imp (Oy hg hm (bt ha.p dc hs) hs) fun σ H R ⟨sr,q⟩=>⟨sr,wa.mono (fun x q1 u1 H1 g1 s1 v1=>by
  cases v1 with
  | int j=>exact⟨_,rfl,q1.1.2.2.1,q1.1.2.2.2.1,q1.2 _ H1 g1 s1 (aaA _ _ (by have:=q1.1.2.2.2.2;omega))⟩
  | _=>exact q1.elim) q⟩⟩
def Nu (hg:Gl X "range") (hm:X.mg "range"=none) (ha:EF X K fs a wa) (hb:EF X K fs b wb) (hc:EF X K fs c wc) (hs:starEach [a,b,c] X.env=[(false,eval a X.env),(false,eval b X.env),(false,eval c X.env)]:=by rfl) (uR:starEach [b,c] X.env=[(false,eval b X.env),(false,eval c X.env)]:=by rfl) (hs3:starEach [c] X.env=[(false,eval c X.env)]:=by rfl):u7 X K fs tg (.Call (.Name "range" p) [a,b,c] [] pos) (.bind wa fun x=>.bind wb fun y=>.bind wc fun z=>MX x y z):=
 ⟨PI.imp (Ox hg hm (bt ha.p (bt hb.p (bt hc.p dc hs3) (by rw [uR,hs3])) (by rw [hs,uR])) hs uR) fun σ H R ⟨sr,q⟩=>⟨sr,wa.mono (fun x q1 u1 H1 g1 s1 v1=>⟨s1,wb.mono (fun y q2 u2 H2 g2 s2 v2=>⟨s2,wc.mono (fun z q3 u3 H3 g3 s3 v3=>by
  cases v1 with
  | int i=>
   cases v2 with
   | int j=>
    cases v3 with
    | int k=>
     obtain⟨⟨rfl,k1,k2,k3,k4,k5⟩,q3⟩:=q3;refine⟨_,_,rfl,⟨k3,k4,k1,k2⟩,q3 _ H3 ((g1.trans g2).trans g3) s3 ⟨by rw [zm];exact k5,fun H' t=>⟨fun i p hp=>?_,?_⟩⟩⟩
     ·obtain⟨h1,rfl⟩:=sM hp;refine⟨h1,fun x H2 y=>?_⟩;obtain⟨rfl,rfl⟩:=y;exact⟨lS.refl _,.int _⟩
     ·exact Nat.le_of_eq (zm _ _).symm
    | _=>exact q3.elim
   | _=>exact q3.elim
  | _=>exact q3.elim) q2⟩) q1⟩) q⟩⟩
def Kn:PV->W (List PV)
 | .str z=>.gB (z.cps.size<=sizeLine) (.ret (z.cps.toList.map fun c=>.str ⟨#[c]⟩))
 | _=>.fail
def ZL (h:EF X K fs e w):u7 X K fs tg e (.bind w Kn):=⟨PI.imp (YU h.p) fun σ H R ⟨sr,q⟩=>⟨sr,w.mono (fun x q1 u1 H1 g1 s1 v1=>by
 cases v1 with
 | str z=>
  refine⟨z,rfl,q1.2 _ H1 g1 s1 ⟨by simpa using q1.1,fun H' t=>⟨fun i p hp=>?_,?_⟩⟩⟩
  ·rw [Ai] at hp;cases e:z.cps.toList[i]? with
   | none=>rw [e] at hp;cases hp
   | some c=>
    rw [e] at hp;have ep:p=.str ⟨#[c]⟩:=(Option.some.inj hp).symm;subst ep;have hi:=(Ak.mp e).1;have Jg:i < z.cps.size:=by simpa using hi
    refine⟨Jg,fun x H2 y=>?_⟩;obtain⟨rfl,d,hd,rfl⟩:=y;have:z.cps[i]?=some c:=by simpa using e
    rw [this] at hd;cases hd;exact⟨lS.refl _,.str _⟩
  ·show z.cps.size<=_;simp
 | _=>exact q1.elim) q⟩⟩
def qu (hK:X.K=K) {elts:List Expr}{kk:Nat}{tp:Pos} (hg:Gl X "enumerate") (hm:X.mg "enumerate"=none) (h:IF X K fs e wl) (Je:starEach [e] X.env=(false,eval e X.env)::starEach [] X.env:=by rfl):u7 X K fs (.Tuple elts kk tp) (.Call (.Name "enumerate" p1) [e] [] p2) (.bind wl fun l=>.gB (l.length<=sizeLine) (.ret (eG 0 l))):=
 ⟨PI.imp (Q6 K hK hg hm h.p Je) fun σ H R ⟨sr,q⟩=>⟨sr,wl.mono (fun l q1 u1 H1 g1 s1 v1=>by
  obtain⟨ad,vs,rfl,hh,rs⟩:=v1;have yl:∀{H':Hp}{i:Nat}{x v:V}{y:PV}{pp:Addr},H' pp=none->VR K [] H' v y->lS H' (upd H' pp (.tup [.int (i:Int),v]))/\VR K [] (upd H' pp (.tup [.int (i:Int),v])) (.ref pp) (.tup [.int ((0+i:Nat):Int),y]):=fun {H' i x v y pp} hn h4=>
   have sm:=mh hn (.tup [.int (i:Int),v])
   ⟨sm,.tup aR (.cons (by rw [AO];exact .int _) (.cons (VR.tk sm.fy h4) .nil))⟩
  refine⟨ad,rfl,?_⟩;rcases hh with hh | hh
  ·refine .inl ⟨⟨vs,hh.sq⟩,q1.2 _ H1 g1 s1 ⟨by rw [cH];exact q1.1,fun H' t=>⟨fun i p hp=>?_,vs,(t.f _ _ hh).sq,by rw [rs.length,cH];exact An _⟩⟩⟩;obtain⟨y,hy,rfl⟩:=iq hp;obtain⟨v,h3,h4⟩:=(aM.tk t rs).get hy;refine⟨⟨vs,v,(t.f _ _ hh).sq,h3⟩,fun x H3 z=>?_⟩;obtain⟨pp,x0,rfl,hn,rfl,hz⟩:=z;have:=hz vs (t.f _ _ hh).sq;rw [h3] at this;cases this;exact yl (x:=.aQ) hn h4
  ·refine .inr ⟨⟨vs,dD.of hh⟩,q1.2 _ H1 g1 s1 ⟨by rw [cH];exact q1.1,fun H' t=>⟨fun i p hp=>?_,vs,dD.of (t.t _ _ hh),by rw [rs.length,cH];exact An _⟩⟩⟩;obtain⟨y,hy,rfl⟩:=iq hp;obtain⟨v,h3,h4⟩:=(aM.tk t rs).get hy;refine⟨⟨vs,v,dD.of (t.t _ _ hh),h3⟩,fun x H3 z=>?_⟩;obtain⟨pp,x0,rfl,hn,rfl,hz⟩:=z;have:=hz vs (dD.of (t.t _ _ hh));rw [h3] at this;cases this;exact yl (x:=.aQ) hn h4) q⟩⟩
end
def vB:List Nat->List V->L2.St->L2.St
 | i::is,u::us,σ=>vB is us (σ.set i (some u))
 | _,_,σ=>σ
def fG (K:Ab) (fs:aY) (is:List Nat) {T:Type} (wt:PV->W T) (eu:T->aY):TG:=fun v σ H Q=>∃p,aW K H σ fs/\VR K [] H v p/\(wt p).run fun t=>∀us,cI σ fs H (vB is us σ) (eu t) H->aW K H (vB is us σ) (eu t)->Q (vB is us σ) H
structure GF (X:Cx) (K:Ab) (fs:aY) (tg:Expr) (is:List Nat) {T:Type} (wt:PV->W T) (eu:T->aY):Prop where p:PG X tg (fG K fs is wt eu)
def vg:PV->W (PV×PV)
 | .tup [a,b]=>.ret (a,b)
 | _=>.fail
def un3:PV->W (PV×PV×PV)
 | .tup [a,b,c]=>.ret (a,b,c)
 | _=>.fail
def un4:PV->W (PV×PV×PV×PV)
 | .tup [a,b,c,d]=>.ret (a,b,c,d)
 | _=>.fail
section
variable {X:Cx}{fs:aY}{tg:Expr}
def ZZ {i:Nat} (h:PG X tg (dY i)):GF X K fs tg [i] .ret (fun p=>fs.set i (some (.val p))):=⟨PG.imp h fun v σ H Q ⟨p,sr,r,q⟩=>q [v] (cI.gk sr v p i) (sr.gk r i)⟩
def V6 {i j:Nat} (hK:X.K=K) (h:PG X tg (V7 X.K 2 (n6 (dY i) (n6 (dY j) V8)))):GF X K fs tg [i,j] vg (fun t=>(fs.set i (some (.val t.1))).set j (some (.val t.2))):=⟨PG.imp h fun v σ H Q ⟨p,sr,r,q⟩=>by
 subst hK;unfold vg at q
 split at q
 ·rename_i a b;cases r with
  | tup e rs=>
   cases rs with
   | cons ra t=>
   cases t with
   | cons rb t=>
   cases t;have s1:=sr.gk ra i;exact⟨_,_,rfl,dD.of e,rfl,_,_,rfl,_,_,rfl,rfl,q [_,_] ((cI.gk sr _ _ i).trans (cI.gk s1 _ _ j)) (s1.gk rb j)⟩
 ·exact q.elim⟩
def g_3 {i j k:Nat} (hK:X.K=K) (h:PG X tg (V7 X.K 3 (n6 (dY i) (n6 (dY j) (n6 (dY k) V8))))):GF X K fs tg [i,j,k] un3 (fun t=>((fs.set i (some (.val t.1))).set j (some (.val t.2.1))).set k (some (.val t.2.2))):=⟨PG.imp h fun v σ H Q ⟨p,sr,r,q⟩=>by
 subst hK;unfold un3 at q
 split at q
 ·rename_i a b;cases r with
  | tup e rs=>
   cases rs with
   | cons ra t=>
   cases t with
   | cons rb t=>
   cases t with
   | cons rc t=>
   cases t;have s1:=sr.gk ra i;have s2:=s1.gk rb j;exact⟨_,_,rfl,dD.of e,rfl,_,_,rfl,_,_,rfl,_,_,rfl,rfl,q [_,_,_] (((cI.gk sr _ _ i).trans (cI.gk s1 _ _ j)).trans (cI.gk s2 _ _ k)) (s2.gk rc k)⟩
 ·exact q.elim⟩
def g_4 {i j k l:Nat} (hK:X.K=K) (h:PG X tg (V7 X.K 4 (n6 (dY i) (n6 (dY j) (n6 (dY k) (n6 (dY l) V8)))))):GF X K fs tg [i,j,k,l] un4 (fun t=>(((fs.set i (some (.val t.1))).set j (some (.val t.2.1))).set k (some (.val t.2.2.1))).set l (some (.val t.2.2.2))):=⟨PG.imp h fun v σ H Q ⟨p,sr,r,q⟩=>by
 subst hK;unfold un4 at q
 split at q
 ·rename_i a b;cases r with
  | tup e rs=>
   cases rs with
   | cons ra t=>
   cases t with
   | cons rb t=>
   cases t with
   | cons rc t=>
   cases t with
   | cons rd t=>
   cases t;have s1:=sr.gk ra i;have s2:=s1.gk rb j;have s3:=s2.gk rc k;exact⟨_,_,rfl,dD.of e,rfl,_,_,rfl,_,_,rfl,_,_,rfl,_,_,rfl,rfl,q [_,_,_,_] ((((cI.gk sr _ _ i).trans (cI.gk s1 _ _ j)).trans (cI.gk s2 _ _ k)).trans (cI.gk s3 _ _ l)) (s3.gk rd l)⟩
 ·exact q.elim⟩
end
section
variable {S T:Type}
def eE:List PV->S->(PV->S->W S)->W S
 | [],s,_=>.ret s
 | x::r,s,f=>.bind (f x s) fun s'=>eE r s' f
inductive Lp (S T:Type) where
 | go (s:S) | out (t:T)
def nQ:List PV->S->(PV->S->W (Lp S T))->W (Lp S T)
 | [],s,_=>.ret (.go s)
 | x::r,s,f=>.bind (f x s) fun o=>match o with
  | .go s'=>nQ r s' f
  | .out t=>.ret (.out t)
def J4 {R:Type} (k:S->W T) (inj:R->T):Lp S R->W T
 | .go s=>k s
 | .out r=>.ret (inj r)
@[simp] theorem agW {R:Type} (k:S->W T) (inj:R->T) (s:S):J4 k inj (.go s)=k s:=(rfl)
@[simp] theorem aeM {R:Type} (k:S->W T) (inj:R->T) (r:R):J4 k inj (.out r)=.ret (inj r):=(rfl)
def lpE {R:Type} (hd:S->aY) (out:R->End):Lp S R->End
 | .go s=>.nc (hd s)
 | .out r=>out r
def ox (c:S->W Bool) (b:S->W S):Nat->S->W S
 | 0,_=>.fail
 | n+1,s=>.bind (c s) fun k=>if k=true then .bind (b s) (ox c b n) else .ret s
def ou (c:S->W Bool) (b:S->W S) (s:S):W S:=⟨fun Q=>∃n,(ox c b n s).run Q,fun h ⟨n,q⟩=>⟨n,(ox c b n s).mono h q⟩⟩
def ki (c:S->W Bool) (b:S->W (Lp S T)):Nat->S->W (Lp S T)
 | 0,_=>.fail
 | n+1,s=>.bind (c s) fun k=>if k=true then .bind (b s) (fun o=>match o with
  | .go s'=>ki c b n s'
  | .out t=>.ret (.out t)) else .ret (.go s)
def vd (c:S->W Bool) (b:S->W (Lp S T)) (s:S):W (Lp S T):=⟨fun Q=>∃n,(ki c b n s).run Q,fun h ⟨n,q⟩=>⟨n,(ki c b n s).mono h q⟩⟩
end
section
variable {X:Cx}{c iter tg:Expr}{body rest:List Stmt}{pos:Pos}{fs:aY}{S T T2:Type}{hd:S->aY}{s0:S}{wl:W (List PV)}{wt:PV->W T2}{is:List Nat}{eu:S->T2->aY}{k:S->W T}{out:T->End}{x:Bool}{R:Type}{inj:R->T}
def SF.for {f:PV->S->W S}{wb:T2->S->W S} (hp:PassesOwn (model X.prog X.w) X.A X.env X.xe) (hc:X.calm=true) (hi:u7 X K fs tg iter wl) (hl:kf fs (hd s0)) (hg:∀s,GF X K (hd s) tg is wt (eu s)) (hf:∀p s,f p s=.bind (wt p) fun t=>wb t s)
  (hb:∀s t,SF X K false (eu s t) body (wb t s) fun s'=>.nc (hd s')) (hr:∀s,SF X K x (hd s) rest (k s) out) (hs:∀x,foldedSetIterable iter X.env x=pure x:=by intro _;rfl) :
  SF X K x fs (.For tg iter body [] pos::rest) (.bind wl fun l=>.bind (eE l s0 f) k) out:=by
 refine SF.step (Q4 (g:=fun v σ H Q=>∃s,fG K (hd s) is wt (eu s) v σ H Q) (tb:=fun D σ H=>∃s t,fS K false (eu s t) (wb t s) (fun s'=>.nc (hd s')) D σ H) hp hc hi.p (fun pins s σ H v u Q I r ⟨s1,q⟩=>(hg s1).p pins s σ H v u Q I r q) (fun pins s σ H D I ⟨s1,t1,q⟩=>(hb s1 t1).p pins s σ H D I q) hs) fun D σ H ⟨sr,q⟩=>?_;refine⟨sr,wl.mono (fun l q1 J H1 g1 s1 jf=>?_) q⟩;refine⟨fun i m σ' H'=>∃s,aW K H' σ' (hd s)/\cI σ fs H σ' (hd s) H'/\JF K H' J l/\m=l.length-i/\i<=l.length/\(eE (l.drop i) s f).run fun s'=>(k s').run fun t=>bC K x σ fs H D (out t),⟨l.length,s0,s1.le hl,g1.f.trans (cI.le s1 hl),jf,by simp,A3 _,by simpa using q1⟩,?_⟩;rintro i m σ2 H2 ⟨s,s2,g2,VJ,rfl,hi,q2⟩;obtain⟨j1,j2⟩:=VJ.2 H2 (bq.refl H2);by_cases mF:i < l.length
 ·obtain⟨go,yl⟩:=j1 i _ (Ad mF);have ed:l.drop i=l[i]::l.drop (i+1):=Bp mF;rw [ed] at q2;refine .inr ⟨go,fun σ3 H3=>∃s',aW K H3 σ3 (hd s')/\cI σ fs H σ3 (hd s') H3/\JF K H3 J l/\(eE (l.drop (i+1)) s' f).run fun s'=>(k s').run fun t=>bC K x σ fs H D (out t),fun σ3 H3 ⟨s',a1,a2,a3,a4⟩=>⟨l.length-(i+1),by omega,s',a1,a2,a3,rfl,mF,a4⟩,fun v H3 y=>?_⟩;obtain⟨sm,vx⟩:=yl v H3 y;have q2:(f l[i] s).run fun s'=>(eE (l.drop (i+1)) s' f).run fun s'=>(k s').run fun t=>bC K x σ fs H D (out t):=q2;rw [hf] at q2;have s3:=s2.same sm;have g3:=g2.trans (cI.same sm s2);refine⟨s,_,s3,vx,(wt l[i]).mono (fun t q4 us g4 s4=>?_) q2⟩;refine⟨s,t,s4,(wb t s).mono (fun s' q5 σ5 H5 g5 s5=>?_) q4⟩;have fin:∃s',aW K H5 σ5 (hd s')/\cI σ fs H σ5 (hd s') H5/\JF K H5 J l/\(eE (l.drop (i+1)) s' f).run fun s'=>(k s').run fun t=>bC K x σ fs H D (out t):=⟨s',s5,(g3.trans g4).trans g5,VJ.tk (bq.trans sm.fy (bq.trans (g4.eY s3) (g5.eY s4))),q5⟩;exact⟨fun _=>fin,fin⟩
 ·have e:i=l.length:=by omega
  subst e;rw [Ep] at q2;have q2:(k s).run fun t=>bC K x σ fs H D (out t):=q2;exact .inl ⟨j2,hd s,k s,hr s,s2,(k s).mono (fun t q3=>q3.go g2 sr s2) q2⟩
def SF.nQ {f:PV->S->W (Lp S R)}{wb:T2->S->W (Lp S R)} (hp:PassesOwn (model X.prog X.w) X.A X.env X.xe) (hc:X.calm=true) (hi:u7 X K fs tg iter wl) (hl:kf fs (hd s0)) (hg:∀s,GF X K (hd s) tg is wt (eu s)) (hf:∀p s,f p s=.bind (wt p) fun t=>wb t s)
  (ho:∀t,(out (inj t)).Nv)
  (hb:∀s t,SF X K false (eu s t) body (wb t s) (lpE hd fun r=>out (inj r))) (hr:∀s,SF X K x (hd s) rest (k s) out) (hs:∀x,foldedSetIterable iter X.env x=pure x:=by intro _;rfl) :
  SF X K x fs (.For tg iter body [] pos::rest) (.bind wl fun l=>.bind (FL.nQ l s0 f) (J4 k inj)) out:=by
 refine SF.step (Q4 (g:=fun v σ H Q=>∃s,fG K (hd s) is wt (eu s) v σ H Q) (tb:=fun D σ H=>∃s t,fS K false (eu s t) (wb t s) (lpE hd fun r=>out (inj r)) D σ H) hp hc hi.p (fun pins s σ H v u Q I r ⟨s1,q⟩=>(hg s1).p pins s σ H v u Q I r q) (fun pins s σ H D I ⟨s1,t1,q⟩=>(hb s1 t1).p pins s σ H D I q) hs) fun D σ H ⟨sr,q⟩=>?_;refine⟨sr,wl.mono (fun l q1 J H1 g1 s1 jf=>?_) q⟩;have lo:∀(D':Ends) (y:Bool) (t:R),D'.rt=D.rt->bC K x σ fs H D (out (inj t))->bC K y σ fs H D' (out (inj t)):=fun D' y t e h=>bC.aci (ho t) e h;refine⟨fun i m σ' H'=>∃s,aW K H' σ' (hd s)/\cI σ fs H σ' (hd s) H'/\JF K H' J l/\m=l.length-i/\i<=l.length/\(FL.nQ (l.drop i) s f).run fun o=>(J4 k inj o).run fun t=>bC K x σ fs H D (out t),⟨l.length,s0,s1.le hl,g1.f.trans (cI.le s1 hl),jf,by simp,A3 _,by simpa using q1⟩,?_⟩;rintro i m σ2 H2 ⟨s,s2,g2,VJ,rfl,hi,q2⟩;obtain⟨j1,j2⟩:=VJ.2 H2 (bq.refl H2);by_cases mF:i < l.length
 ·obtain⟨go,yl⟩:=j1 i _ (Ad mF);have ed:l.drop i=l[i]::l.drop (i+1):=Bp mF;rw [ed] at q2;refine .inr ⟨go,fun σ3 H3=>∃s',aW K H3 σ3 (hd s')/\cI σ fs H σ3 (hd s') H3/\JF K H3 J l/\(FL.nQ (l.drop (i+1)) s' f).run fun o=>(J4 k inj o).run fun t=>bC K x σ fs H D (out t),fun σ3 H3 ⟨s',a1,a2,a3,a4⟩=>⟨l.length-(i+1),by omega,s',a1,a2,a3,rfl,mF,a4⟩,fun v H3 y=>?_⟩;obtain⟨sm,vx⟩:=yl v H3 y;have q2:(f l[i] s).run fun o=>(match o with | .go s'=>FL.nQ (l.drop (i+1)) s' f | .out t=>W.ret (.out t)).run fun o=>(J4 k inj o).run fun t=>bC K x σ fs H D (out t):=q2;rw [hf] at q2;have s3:=s2.same sm;have g3:=g2.trans (cI.same sm s2);refine⟨s,_,s3,vx,(wt l[i]).mono (fun t q4 us g4 s4=>?_) q2⟩;refine⟨s,t,s4,(wb t s).mono (fun o q5=>?_) q4⟩;cases o with
  | out t5=>
   refine bC.go (g3.trans g4) sr s4 (lo _ false t5 ?_ q5);rfl
  | go s'=>
   intro σ5 H5 g5 s5;have fin:∃s',aW K H5 σ5 (hd s')/\cI σ fs H σ5 (hd s') H5/\JF K H5 J l/\(FL.nQ (l.drop (i+1)) s' f).run fun o=>(J4 k inj o).run fun t=>bC K x σ fs H D (out t):=⟨s',s5,(g3.trans g4).trans g5,VJ.tk (bq.trans sm.fy (bq.trans (g4.eY s3) (g5.eY s4))),q5⟩;exact⟨fun _=>fin,fin⟩
 ·have e:i=l.length:=by omega
  subst e;rw [Ep] at q2;have q2:(k s).run fun t=>bC K x σ fs H D (out t):=q2;exact .inl ⟨j2,hd s,k s,hr s,s2,(k s).mono (fun t q3=>q3.go g2 sr s2) q2⟩
def SF.Mv {cw:S->W Bool}{b:S->W S} (hp:PassesOwn (model X.prog X.w) X.A X.env X.xe) (hl:kf fs (hd s0)) (hc:∀s,TF X K (hd s) c (cw s)) (hb:∀s,SF X K false (hd s) body (b s) fun s'=>.nc (hd s')) (hr:∀s,SF X K x (hd s) rest (k s) out) :
  SF X K x fs (.While c body [] pos::rest) (.bind (ou cw b s0) k) out:=by
 refine SF.step (Ik (tc:=fun σ H Q=>∃s,fT K (hd s) (cw s) σ H Q) (tb:=fun D σ H=>∃s,fS K false (hd s) (b s) (fun s'=>.nc (hd s')) D σ H) hp (fun pins s σ H Q I ⟨s1,q⟩=>(hc s1).p pins s σ H Q I q) (fun pins s σ H D I ⟨s1,q⟩=>(hb s1).p pins s σ H D I q)) fun D σ H ⟨sr,n,q⟩=>?_;refine⟨fun m σ' H'=>∃s,aW K H' σ' (hd s)/\cI σ fs H σ' (hd s) H'/\(ox cw b m s).run fun s'=>(k s').run fun t=>bC K x σ fs H D (out t),⟨n,s0,sr.le hl,cI.le sr hl,q⟩,?_⟩;rintro m σ1 H1 ⟨s,s1,g1,q1⟩;cases m with
 | zero=>exact q1.elim
 | succ m=>
  refine⟨s,s1,(cw s).mono (fun kk q2 H2 g2 s2=>?_) q1⟩;cases kk with
  | false=>
   refine yC ?_;have q2:(k s).run fun t=>bC K x σ fs H D (out t):=q2;exact⟨hd s,k s,hr s,s2,(k s).mono (fun t q3=>q3.go (g1.trans g2.f) sr s2) q2⟩
  | true=>
   refine yB ?_;refine⟨fun σ3 H3=>∃s,aW K H3 σ3 (hd s)/\cI σ fs H σ3 (hd s) H3/\(ox cw b m s).run fun s'=>(k s').run fun t=>bC K x σ fs H D (out t),fun σ3 H3 a=>⟨m,C9 m,a⟩,s,s2,(b s).mono (fun s' q5 σ5 H5 g5 s5=>?_) q2⟩;have fin:∃s,aW K H5 σ5 (hd s)/\cI σ fs H σ5 (hd s) H5/\(ox cw b m s).run fun s'=>(k s').run fun t=>bC K x σ fs H D (out t):=⟨s',s5,(g1.trans g2.f).trans g5,q5⟩;exact⟨fun _=>fin,fin⟩
def SF.vd {cw:S->W Bool}{b:S->W (Lp S R)} (hp:PassesOwn (model X.prog X.w) X.A X.env X.xe) (hl:kf fs (hd s0)) (hc:∀s,TF X K (hd s) c (cw s)) (ho:∀t,(out (inj t)).Nv)
  (hb:∀s,SF X K false (hd s) body (b s) (lpE hd fun r=>out (inj r))) (hr:∀s,SF X K x (hd s) rest (k s) out) :
  SF X K x fs (.While c body [] pos::rest) (.bind (FL.vd cw b s0) (J4 k inj)) out:=by
 refine SF.step (Ik (tc:=fun σ H Q=>∃s,fT K (hd s) (cw s) σ H Q) (tb:=fun D σ H=>∃s,fS K false (hd s) (b s) (lpE hd fun r=>out (inj r)) D σ H) hp (fun pins s σ H Q I ⟨s1,q⟩=>(hc s1).p pins s σ H Q I q) (fun pins s σ H D I ⟨s1,q⟩=>(hb s1).p pins s σ H D I q)) fun D σ H ⟨sr,n,q⟩=>?_;have lo:∀(D':Ends) (y:Bool) (t:R),D'.rt=D.rt->bC K x σ fs H D (out (inj t))->bC K y σ fs H D' (out (inj t)):=fun D' y t e h=>bC.aci (ho t) e h;refine⟨fun m σ' H'=>∃s,aW K H' σ' (hd s)/\cI σ fs H σ' (hd s) H'/\(ki cw b m s).run fun o=>(J4 k inj o).run fun t=>bC K x σ fs H D (out t),⟨n,s0,sr.le hl,cI.le sr hl,q⟩,?_⟩;rintro m σ1 H1 ⟨s,s1,g1,q1⟩;cases m with
 | zero=>exact q1.elim
 | succ m=>
  refine⟨s,s1,(cw s).mono (fun kk q2 H2 g2 s2=>?_) q1⟩;cases kk with
  | false=>
   refine yC ?_;have q2:(k s).run fun t=>bC K x σ fs H D (out t):=q2;exact⟨hd s,k s,hr s,s2,(k s).mono (fun t q3=>q3.go (g1.trans g2.f) sr s2) q2⟩
  | true=>
   refine yB ?_;refine⟨fun σ3 H3=>∃s,aW K H3 σ3 (hd s)/\cI σ fs H σ3 (hd s) H3/\(ki cw b m s).run fun o=>(J4 k inj o).run fun t=>bC K x σ fs H D (out t),fun σ3 H3 a=>⟨m,C9 m,a⟩,s,s2,(b s).mono (fun o q5=>?_) q2⟩;cases o with
   | out t5=>
    refine bC.go (g1.trans g2.f) sr s2 (lo _ false t5 ?_ q5);rfl
   | go s'=>
    intro σ5 H5 g5 s5;have fin:∃s,aW K H5 σ5 (hd s)/\cI σ fs H σ5 (hd s) H5/\(ki cw b m s).run fun o=>(J4 k inj o).run fun t=>bC K x σ fs H D (out t):=⟨s',s5,(g1.trans g2.f).trans g5,q5⟩;exact⟨fun _=>fin,fin⟩
end
end
section
open PySem PySem.Spec PyProof.Rows L2 PL
variable {K:Ab}
def lR:List PV->(PV->W (Option PV))->W (List PV)
 | [],_=>.ret []
 | x::r,f=>.bind (f x) fun o=>.bind (lR r f) fun l=>.ret (o.toList++l)
def cp:List PV->(PV->W PV)->W (List PV)
 | [],_=>.ret []
 | x::r,f=>.bind (f x) fun y=>.bind (cp r f) fun l=>.ret (y::l)
theorem Gh (f:PV->W PV):∀l,cp l f=lR l fun p=>.bind (f p) fun v=>.ret (some v)
 | []=>rfl
 | x::r=>by
  show W.bind (f x) (fun y=>W.bind (cp r f) fun l=>W.ret (y::l))=W.bind (f x) fun y=>W.bind (lR r _) fun l=>W.ret (y::l);rw [Gh f r]
def bU (ix:List (Option Nat)) (fs:aY):aY:=ix.map fun o=>match o with | some j=>(fs[j]?).getD none | none=>none
section
variable {σ:L2.St}{fs:aY}{H:Hp}{ix:List (Option Nat)}
def qP {i:Nat}{s:SL} (h:(bU ix fs)[i]?=some (some s)):∃j,ix[i]?=some (some j)/\fs[j]?=some (some s):=by
 unfold bU at h;rw [Ai] at h;cases q:ix[i]? with
 | none=>rw [q] at h;cases h
 | some o=>
  rw [q] at h;cases o with
  | none=>cases h
  | some j=>
   refine⟨j,rfl,?_⟩;have h:(fs[j]?).getD none=some s:=Option.some.inj h;cases z:fs[j]? with
   | none=>rw [z] at h;cases h
   | some y=>rw [z] at h;exact congrArg some h
def nI {i j:Nat}{u:V} (h:ix[i]?=some (some j)) (e:σ[j]?=some (some u)):(qO ix σ)[i]?=some (some u):=by
 unfold qO;rw [Ai,h];show some ((σ[j]?).getD none)=_;rw [e];rfl
def aW.gU (s:aW K H σ fs) (inj:∀i i' j:Nat,ix[i]?=some (some j)->ix[i']?=some (some j)->i=i'):aW K H (qO ix σ) (bU ix fs):=by
 refine⟨by unfold qO bU;simp,fun i t e=>?_,fun i i' t u x y a e1 e2 o1 o2 q1 q2 z1 z2=>?_⟩
 ·obtain⟨j,h1,h2⟩:=qP e;obtain⟨u,h3,h4⟩:=s.at' j t h2;exact⟨u,nI h1 h3,h4⟩
 ·obtain⟨j,h1,h2⟩:=qP e1;obtain⟨j',iR,xZ⟩:=qP e2;obtain⟨u1,h3,_⟩:=s.at' j t h2;obtain⟨u2,LG,_⟩:=s.at' j' u xZ;rw [nI h1 h3] at q1;rw [nI iR LG] at q2;cases q1;cases q2;have:=s.nd j j' t u x y a h2 xZ o1 o2 h3 LG z1 z2;subst this;exact inj i i' j h1 iR
structure WW (ix:List (Option Nat)) (σ:L2.St) (fs:aY) (σ':L2.St) (bH:aY):Prop where
 own:∀(i:Nat) (t:SL),bH[i]?=some (some t)->t.own=true->∃j,ix[i]?=some (some j)/\fs[j]?=some (some t)/\σ'[i]?=σ[j]?
def WW.F8 {σ':L2.St}{bH:aY} (h:WW ix σ fs σ' bH) {a:Addr} (o:dj σ' bH a):dj σ fs a:=by
 obtain⟨i,t,x,e1,e2,e3,e4⟩:=o;obtain⟨j,h1,h2,h3⟩:=h.own i t e1 e2;exact⟨j,t,x,h2,e2,h3▸e3,e4⟩
def WW.iC {σ':L2.St}{bH:aY} (h:WW ix σ fs σ' bH) {φ:List V->Prop}{a:Addr} (o:fx σ' bH φ a):fx σ fs φ a:=by
 obtain⟨i,e1,e3⟩:=o;obtain⟨j,h1,h2,h3⟩:=h.own i _ e1 rfl;exact⟨j,h2,h3▸e3⟩
def WW.out {σ':L2.St}{bH:aY}{H1 H2:Hp} (h:WW ix σ fs σ' bH) (s:aW K H1 σ fs) (g:cW σ' bH H1 H2) (s2:aW K H2 σ' bH):aW K H2 σ fs/\cW σ fs H1 H2:=by
 have gf:cW σ fs H1 H2:=⟨fun a o e n=>g.keep a o e fun φ z=>n φ (h.iC z),g.there⟩;refine⟨⟨s.len,fun j t e=>?_,s.nd⟩,gf⟩;obtain⟨u,h1,h2⟩:=s.at' j t e;refine⟨u,h1,?_⟩;have tk:=gf.eY s;rcases h2 with⟨v,q,r⟩ | ⟨a,q,r⟩
 ·exact .inl ⟨v,q,VR.tk tk r⟩
 ·subst q;refine .inr ⟨a,rfl,?_⟩;by_cases c:∃b,t.own=true/\t.has a b/\dj σ' bH b
  ·obtain⟨b,ow,hb,i,t',x,c1,c2,c3,c4⟩:=c;obtain⟨j',k1,k2,k3⟩:=h.own i t' c1 c2;have jj:=s.nd j j' t t' a x b e k2 ow c2 h1 (k3▸c3) hb c4;subst jj;rw [e] at k2;cases k2;exact s2.ownAt c1 c2 (k3.trans h1)
  ·exact r.mono tk (fun b o ow hb z=>g.tH z fun y=>c ⟨b,ow,hb,y⟩)
theorem vA:∀{is:List Nat}{us:List V}{σ:L2.St}{i:Nat},i∉is->(vB is us σ)[i]?=σ[i]?
 | [],us,σ,i,_=>by cases us <;> rfl
 | j::is,[],σ,i,_=>rfl
 | j::is,u::us,σ,i,h=>by
  rw [vB,vA (fun z=>h (AV _ z))];exact aJ (fun z=>h (by rw [z];exact Bx))
end
section
variable {X:Cx}{ifs:List Expr}{sc:Scope}{N':List Str}{ix:List (Option Nat)}{fs:aY}{wl:W (List PV)}{T2:Type}{wt:PV->W T2}{is:List Nat}{nP:aY}{eu:T2->aY}{tf:T2->W Bool}{te:T2->W PV}{f:PV->W (Option PV)}
structure FF (X:Cx) (K:Ab) (fs:aY) (ifs:List Expr) (w:W Bool):Prop where p:PFs X ifs (fT K fs w)
def Sx:FF X K fs [] (.ret true):=⟨fun pins s σ H Q I ⟨sr,q⟩=>U2 pins s σ H Q I (q H .refl sr)⟩
def G0 {c:Expr}{w:W Bool} (h:TF X K fs c w):FF X K fs [c] w:=⟨U1 h.p⟩
def yM (is:List Nat) (nP:aY) (eu:T2->aY):Prop:=∀t,(eu t).length=nP.length/\∀(i:Nat) (s:SL),(eu t)[i]?=some (some s)->(i∈is/\s.own=false)\/(i∉is/\nP[i]?=some (some s))
def SD (S:aE X.env.scope X.N sc N' ix) (hb:nP=bU ix fs) (hf:∀p,f p=.bind (wt p) fun t=>.bind (tf t) fun k=>if k=true then .bind (te t) fun v=>.ret (some v) else .ret none) (hl:yM is nP eu) (hr:∀t,kf (eu t) nP) (yD:∀j∈is,ix[j]?=some none) :
  ∀σ H Q,fL K fs (.bind wl fun l=>lR l f) σ H Q->tLc ix (fIt K fs wl) (fun v σ H Q=>fG K nP is wt eu v σ H Q) (fun σ H Q=>∃t,fT K (eu t) (tf t) σ H Q) (fun σ H Q=>∃t,fE K (eu t) (te t) σ H Q) σ H Q:=by
 subst hb;rintro σ H Q ⟨sr,q⟩;refine⟨sr,wl.mono (fun l q1 J H1 g1 s1 jf D hD=>?_) q⟩;have inj:∀i i' j:Nat,ix[i]?=some (some j)->ix[i']?=some (some j)->i=i':=fun i i' j h1 h2=>by
  have hi:i < N'.length:=by rw [<- S.len];exact (Ak.mp h1).1
  have Jg:i' < N'.length:=by rw [<- S.len];exact (Ak.mp h2).1
  have e1:=(S.at h1 (Ad hi)).1;have e2:=(S.at h2 (Ad Jg)).1;rw [e1] at e2;exact (Eo S.nd).mp (Option.some.inj e2)
 have nD:¬dj σ fs D:=s1.noOwn hD;refine⟨fun i m σ' ys H'=>∃acc,aW K H' σ fs/\cW σ fs H H'/\aW K H' σ' (bU ix fs)/\WW ix σ fs σ' (bU ix fs)/\JF K H' J l/\H' D=some (.lst ys)/\aM K [] H' ys acc/\acc.length<=i/\m=l.length-i/\i<=l.length/\
  (lR (l.drop i) f).run fun r=>∀a vs H',cW σ fs H H'->aW K H' σ fs->H a=none->H' a=some (.lst vs)->aM K [] H' vs (acc++r)->Q (.ref a) H',⟨l.length,[],?_⟩,?_⟩
 ·have sm:=mh hD (.lst []);refine⟨s1.same sm,g1.trans (cW.same sm),(s1.same sm).gU inj,⟨fun i t e o=>?_⟩,jf.tk sm.fy,aR,.nil,A3 _,by simp,A3 _,by simpa using q1⟩;obtain⟨j,h1,h2⟩:=qP e;obtain⟨u,h3,_⟩:=s1.at' j t h2;exact⟨j,h1,h2,by rw [nI h1 h3,h3]⟩
 rintro i m σ2 ys H2 ⟨acc,sO,gO,s2,J1,VJ,hy,vy,adn,rfl,hi,q2⟩;refine⟨hy,?_⟩;obtain⟨j1,j2⟩:=VJ.2 H2 (bq.refl H2);by_cases mF:i < l.length
 ·obtain⟨go,yl⟩:=j1 i _ (Ad mF);have ed:l.drop i=l[i]::l.drop (i+1):=Bp mF;rw [ed] at q2;refine .inr ⟨go,fun v H3 y=>?_⟩;obtain⟨sm,vx⟩:=yl v H3 y;have q2:(f l[i]).run fun o=>(lR (l.drop (i+1)) f).run fun r=>∀a vs H',cW σ fs H H'->aW K H' σ fs->H a=none->H' a=some (.lst vs)->aM K [] H' vs (acc++(o.toList++r))->Q (.ref a) H':=q2;rw [hf] at q2;have s3:=s2.same sm;have sO3:=sO.same sm;have gO3:=gO.trans (cW.same sm);have hy3:=sm _ _ hy;have vy3:=aM.tk sm.fy vy;have jf3:=VJ.tk sm.fy;refine⟨_,s3,vx,(wt l[i]).mono (fun t q4 us g4 s4=>?_) q2⟩;have VS:WW ix σ fs (vB is us σ2) (eu t):=⟨fun j u e o=>by
   rcases (hl t).2 j u e with⟨_,z⟩ | ⟨n,z⟩
   ·rw [z] at o;cases o
   ·obtain⟨j',k1,k2,k3⟩:=J1.own j u z o;exact⟨j',k1,k2,by rw [vA n];exact k3⟩⟩
  refine⟨t,s4,(tf t).mono (fun kk q5 H5 g5 s5=>?_) q4⟩;obtain⟨sO5,agZ⟩:=VS.out sO3 g5 s5;have gO5:=gO3.trans agZ;have tk5:=g5.eY s4;have nD4:¬dj (vB is us σ2) (eu t) D:=fun z=>nD (VS.F8 z);have hy5:=g5.tH hy3 nD4;have vy5:=aM.tk tk5 vy3;have jf5:=jf3.tk (g5.eY s4);have back:∀{H6:Hp},aW K H6 (vB is us σ2) (eu t)->aW K H6 (vB is us σ2) (bU ix fs)/\WW ix σ fs (vB is us σ2) (bU ix fs):=fun {H6} z=>⟨z.le (hr t),⟨fun j u e o=>VS.own j u ((hr t).at j u e) o⟩⟩;cases kk with
  | false=>
   refine yC ⟨l.length-(i+1),by omega,acc,sO5,gO5,(back s5).1,(back s5).2,jf5,hy5,vy5,by omega,rfl,mF,?_⟩;exact q5
  | true=>
   refine yB ⟨t,s5,(te t).mono (fun v6 q6 u6 H6 g6 s6 v6'=>?_) q5⟩;obtain⟨sO6,agY⟩:=VS.out sO5 g6 s6;have gO6:=gO5.trans agY;have tk6:=g6.eY s5;have hy6:=g6.tH hy5 nD4;have vy6:=aM.tk tk6 vy5;have tkD:=nj (K:=K) (.lst (ys++[u6])) hy6;have hD0:H D=none:=g1.there D hD;refine⟨hy6,by rw [vy6.length];have:=VJ.1;omega,l.length-(i+1),by omega,acc++[v6],sO6.side nD hy6 _,gO6.side hD0 _,((back s6).1).side (fun z=>nD ((back s6).2.F8 z)) hy6 _,(back s6).2,(jf5.tk (g6.eY s5)).tk (nj _ hy6),aR,aM.tk tkD (vy6.append (.cons v6' .nil)),by rw [Ae];simp;omega,rfl,mF,?_⟩;refine (lR (l.drop (i+1)) f).mono (fun r q7 a vs H7 g7 s7 n e v7=>q7 a vs H7 g7 s7 n e ?_) q6;simpa using v7
 ·have e:i=l.length:=by omega
  subst e;rw [Ep] at q2;have q2:∀a vs H',cW σ fs H H'->aW K H' σ fs->H a=none->H' a=some (.lst vs)->aM K [] H' vs (acc++[])->Q (.ref a) H':=q2;exact .inl ⟨j2,q2 D ys H2 gO sO (g1.there D hD) hy (by simpa using vy)⟩
end
end
end FL
namespace L2
section
open PySem PySem.Spec PyProof.Rows
variable {X:Cx}
def uj (l:Addr) (items:Array Value) (n:Nat) (b:Addr) (cg:Array Value) (n2:Nat) (sl:Array (Option Value)) (hc0:¬(!items.isEmpty&&Builtin.List.listTooLong (items.size+cg.size))=true) (hc1:items.size<=sizeLine) (uR:items.size+cg.size<=sizeLine+1) :
  Meets (Builtin.«list.extend» ⟨[.ref l,.ref b],[]⟩) (fun _ R s=>s.heap.get? l=some {cls:=.type "list",dict:=none,data:=.seq items n,slots:=#[]}/\s.heap.get? b=some {cls:=.type "list",dict:=none,data:=.seq cg n2,slots:=sl}/\R (.ok (.ret AQ)) {s with heap:=s.heap.update l (Be fun x=>x++cg),toks:=s.toks}):=
 .of_wp fun prog w A R s h=>by
  obtain⟨hp,g,d,tk,os⟩:=s;obtain⟨hl,hb,h⟩:=h;have f1:=Ey;have f2:=C7;have f3:=Dr;have f4:=Dg;have f5:=Dh;have LB:(items++cg).size<=sizeLine+1:=by rw [D8];exact uR
  wp_walk using (Ds hl rfl (hz:=hc1) (_hz':=LB)),BQ hl,BQ hb;exact⟨_,rfl,h⟩
def ab3 (K:Ab):V->List V->Hp->VK->Prop:=fun x vs H Q=>∃l b xs zs,x=.ref l/\vs=[.ref b]/\H l=some (.lst xs)/\(df K H b zs\/dD K H b zs)/\xs.length+zs.length<=sizeLine/\HN H l (.lst (xs++zs)) (Q .aQ)
def Vs (K:Ab) (hK:X.K=K):Qi X "list.extend" (ab3 K):=by
 subst hK;intro pins s σ H x vs v us Q I rx rv h;obtain⟨l,b,xs,zs,rfl,rfl,hH,hB | hB,hz,q⟩:=h
 ·cases rx;obtain⟨u,rfl,ru⟩:=rv.one;cases ru;obtain⟨z,au,n,r,hl,e⟩:=I.rK hH;obtain⟨bL,r2,⟨⟨cls,dd,data,sl⟩,n2,e2,hc,hd,qB⟩,z2⟩:=I.list hB;simp only at hc hd qB;subst hc hd qB;have Qe:=r2.length;have hsz:au.toArray.size+bL.toArray.size<=sizeLine:=by rw [Ah,Ah];omega
  have wI:¬(!au.toArray.isEmpty&&Builtin.List.listTooLong (au.toArray.size+bL.toArray.size))=true:=by
   rw [jR hsz,DY];exact AG
  refine call_meets DP ⟨_,e,rfl⟩ Dz (Df _ _)
   (uj l au.toArray n b bL.toArray n2 sl wI (by rw [Ah];omega) (by omega)) ⟨e,e2,?_⟩
  refine⟨.aQ,_,I.K3 (its':=au++bL) hH e (by simp) (r.append r2) ?_,rfl,q.at⟩;rw [Ae];omega
 ·exact IE pins s σ H _ _ v us Q I rx rv ⟨l,b,xs,zs,rfl,rfl,hH,hB,hz,q⟩
end
end L2
namespace FL
section
open PySem PySem.Spec PyProof.Rows L2 PL
variable {K:Ab}
section
variable {X:Cx}{elt tg iter:Expr}{ifs:List Expr}{sc:Scope}{N':List Str}{ix:List (Option Nat)}{pos:Pos}{fs:aY}{wl:W (List PV)}{T2:Type}{wt:PV->W T2}{is:List Nat}{eu:T2->aY}{tf:T2->W Bool}{te:T2->W PV}
def Zt {f:PV->W (Option PV)} (hc:X.calm=true) (S:aE X.env.scope X.N sc N' ix) (hi:u7 X K fs tg iter wl) (hg:∀cl C s2 H2 fp,GF (gU X sc N' cl C s2 H2 fp) K (bU ix fs) tg is wt eu) (hfs:∀cl C s2 H2 fp t,FF (gU X sc N' cl C s2 H2 fp) K (eu t) ifs (tf t)) (he:∀cl C s2 H2 fp t,EF (gU X sc N' cl C s2 H2 fp) K (eu t) elt (te t))
  (hf:∀p,f p=.bind (wt p) fun t=>.bind (tf t) fun k=>if k=true then .bind (te t) fun v=>.ret (some v) else .ret none) (hl:yM is (bU ix fs) eu/\∀t,kf (eu t) (bU ix fs)) (yD:∀j∈is,ix[j]?=some none) (hs:∀x,foldedSetIterable iter X.env x=pure x:=by intro _;rfl) :
  LF X K fs (.ListComp elt [⟨tg,iter,ifs,0⟩] sc pos) (.bind wl fun l=>lR l f):=
 ⟨PE.imp (acd hc S hi.p (fun cl C s2 H2 fp=>(hg cl C s2 H2 fp).p) (fun cl C s2 H2 fp pins s σ H Q I ⟨t,q⟩=>(hfs cl C s2 H2 fp t).p pins s σ H Q I q) (fun cl C s2 H2 fp pins s σ H Q I ⟨t,q⟩=>(he cl C s2 H2 fp t).p pins s σ H Q I q) hs) (SD S rfl hf hl.1 hl.2 yD)⟩
def Xq {f:PV->W PV} (hc:X.calm=true) (S:aE X.env.scope X.N sc N' ix) (hi:u7 X K fs tg iter wl) (hg:∀cl C s2 H2 fp,GF (gU X sc N' cl C s2 H2 fp) K (bU ix fs) tg is wt eu) (he:∀cl C s2 H2 fp t,EF (gU X sc N' cl C s2 H2 fp) K (eu t) elt (te t))
  (hf:∀p,f p=.bind (wt p) te) (hl:yM is (bU ix fs) eu/\∀t,kf (eu t) (bU ix fs)) (yD:∀j∈is,ix[j]?=some none) (hs:∀x,foldedSetIterable iter X.env x=pure x:=by intro _;rfl) :
  LF X K fs (.ListComp elt [⟨tg,iter,[],0⟩] sc pos) (.bind wl fun l=>cp l f):=by
 have:(fun l=>cp l f)=fun l=>lR l fun p=>.bind (wt p) fun t=>.bind (.ret true) fun k=>if k=true then .bind (te t) fun v=>.ret (some v) else .ret none:=funext fun l=>by
  rw [Gh];congr 1;funext p;rw [hf];rfl
 rw [this];exact Zt (tf:=fun _=>.ret true) hc S hi hg (fun _ _ _ _ _ _=>Sx) he (fun p=>rfl) hl yD hs
def SF.Xe {rest:List Stmt}{T:Type}{out:T->End}{x:Bool}{k:List PV->W T}{f:PV->W (Option PV)}{i:Nat}{y:Str}{px lQ:Pos} (hc:X.calm=true) (hN:X.N.Nodup) (Jg:X.N[i]?=some y) (hx:X.env.scope.names.lookup y=some .local) (S:aE X.env.scope X.N sc N' ix) (hi:u7 X K fs tg iter wl) (hg:∀cl C s2 H2 fp,GF (gU X sc N' cl C s2 H2 fp) K (bU ix fs) tg is wt eu) (hfs:∀cl C s2 H2 fp t,FF (gU X sc N' cl C s2 H2 fp) K (eu t) ifs (tf t)) (he:∀cl C s2 H2 fp t,EF (gU X sc N' cl C s2 H2 fp) K (eu t) elt (te t))
  (hf:∀p,f p=.bind (wt p) fun t=>.bind (tf t) fun k=>if k=true then .bind (te t) fun v=>.ret (some v) else .ret none) (hl:yM is (bU ix fs) eu/\∀t,kf (eu t) (bU ix fs)) (yD:∀j∈is,ix[j]?=some none) (hr:∀l,SF X K x (fs.set i (some (.ol none l))) rest (k l) out)
  (uu:swapsWith (.ListComp elt [⟨tg,iter,ifs,0⟩] sc pos) (some (.Name y px)) lQ.line X.env=pure true:=by rfl) (hs:∀x,foldedSetIterable iter X.env x=pure x:=by intro _;rfl) :
  SF X K x fs (.Assign [.Name y px] (.ListComp elt [⟨tg,iter,ifs,0⟩] sc pos) lQ::rest) (.bind (.bind wl fun l=>lR l f) k) out:=
 SF.step (Il hc hN Jg hx S hi.p (fun cl C s2 H2 fp=>(hg cl C s2 H2 fp).p) (fun cl C s2 H2 fp pins s σ H Q I ⟨t,q⟩=>(hfs cl C s2 H2 fp t).p pins s σ H Q I q) (fun cl C s2 H2 fp pins s σ H Q I ⟨t,q⟩=>(he cl C s2 H2 fp t).p pins s σ H Q I q) uu hs) fun D σ H ⟨sr,q⟩=>
  SD (K:=K) S rfl hf hl.1 hl.2 yD σ H _ ⟨sr,(W.bind wl fun l=>lR l f).mono (fun l q1 a ws H1 g1 s1 n e v1=>by
   have no:=sr.noOwn n;have s2:=s1.vG (t:=.ol none l) ⟨by simp,ws,e,v1⟩ no i;exact⟨_,k l,hr l,s2,(k l).mono (fun t q2=>q2.go (cI.vG s1 g1.f no n i) sr s2) q1⟩) q⟩
theorem Gq:∀{l:aY}{i:Nat} (s:Option SL),l[i]?=some none->kf (l.set i s) l
 | [],_,_,h=>by simp at h
 | x::l,0,s,h=>by
  simp at h;subst h;exact .drop (kf.refl l)
 | x::l,i+1,s,h=>by
  rw [List.set_cons_succ];exact .keep (Gq s (by simpa using h))
def kf.trans {a b c:aY} (h1:kf a b) (h2:kf b c):kf a c:=by
 induction h1 generalizing c with
 | nil=>exact h2
 | drop h ih=>cases h2 with | drop h2=>exact .drop (ih h2) | keep h2=>exact .drop (ih h2)
 | keep h ih=>cases h2 with | drop h2=>exact .drop (ih h2) | keep h2=>exact .keep (ih h2)
def wq {nP l:aY}{is:List Nat}{i:Nat}{v:PV} (hl:l.length=nP.length/\∀(j:Nat) (s:SL),l[j]?=some (some s)->(j∈is/\s.own=false)\/(j∉is/\nP[j]?=some (some s))) (hi:nP[i]?=some none) :
  (l.set i (some (.val v))).length=nP.length/\∀(j:Nat) (s:SL),(l.set i (some (.val v)))[j]?=some (some s)->(j∈is++[i]/\s.own=false)\/(j∉is++[i]/\nP[j]?=some (some s)):=by
 refine⟨by rw [BM];exact hl.1,fun j s e=>?_⟩;rcases aZ e with⟨rfl,rfl⟩ | ⟨n,e⟩
 ·exact .inl ⟨by simp,rfl⟩
 ·rcases hl.2 j s e with⟨h1,h2⟩ | ⟨h1,h2⟩
  ·exact .inl ⟨by simp [h1],h2⟩
  ·exact .inr ⟨by simp [h1,n],h2⟩
def Xp (nP:aY):nP.length=nP.length/\∀(j:Nat) (s:SL),nP[j]?=some (some s)->(j∈([]:List Nat)/\s.own=false)\/(j∉([]:List Nat)/\nP[j]?=some (some s)):=⟨rfl,fun j s e=>.inr ⟨by simp,e⟩⟩
def RI {nP:aY}{i:Nat} (hi:nP[i]?=some none):yM [i] nP (fun p=>nP.set i (some (.val p)))/\∀t,kf (nP.set i (some (.val t))) nP:=⟨fun t=>wq (is:=[]) (Xp nP) hi,fun t=>Gq _ hi⟩
def QJ {l:aY}{i j:Nat}{s:Option SL} (h:l[j]?=some none) (n:j≠i):(l.set i s)[j]?=some none:=by rw [aJ n];exact h
def RH {nP:aY}{i j:Nat} (hi:nP[i]?=some none) (hj:nP[j]?=some none) (n:j≠i):yM [i,j] nP (fun t:PV×PV=>(nP.set i (some (.val t.1))).set j (some (.val t.2)))/\∀t:PV×PV,kf ((nP.set i (some (.val t.1))).set j (some (.val t.2))) nP:=
 ⟨fun t=>wq (is:=[i]) (wq (is:=[]) (Xp nP) hi) hj,fun t=>(Gq _ (QJ hj n)).trans (Gq _ hi)⟩
end
section
variable {X:Cx}{e:Expr}{rest:List Stmt}{pos p apos bI e7:Pos}{fs:aY}{T:Type}{out:T->End}{x:Bool}{we wi:W PV}{wl:W (List PV)}{q0:Option Addr}{l:List PV}{y:Str}
def de {σ:L2.St}{H:Hp}{i:Nat} (sr:aW K H σ fs) (hs:fs[i]?=some (some (.ol q0 l))):∃a ws,σ[i]?=some (some (.ref a))/\H a=some (.lst ws)/\aM K [] H ws l:=by
 obtain⟨u,e1,r⟩:=sr.at' i _ hs;rcases r with⟨v,e,_⟩ | ⟨a,e,z,ws,q1,q2⟩
 ·cases e
 ·subst e;exact⟨a,ws,e1,q1,q2⟩
def kA {σ:L2.St}{H H':Hp}{i:Nat}{a:Addr}{t6:List V}{l':List PV} (sr:aW K H σ fs) (hs:fs[i]?=some (some (.ol q0 l))) (e1:σ[i]?=some (some (.ref a))) (sx:qT a H H') (h':H' a=some (.lst t6)) (r:aM K [] H t6 l'):aW K H' σ (fs.set i (some (.ol q0 l')))/\cI σ fs H σ (fs.set i (some (.ol q0 l'))) H':=
 oB (t':=.ol q0 l') sr hs rfl (by simp) e1 sx fun tk=>⟨(sr.ownAt hs rfl e1).1,t6,h',aM.tk tk r⟩
def m8 (l:List PV) (v:PV):W (List PV):=.gB (l.length < sizeLine) (.ret (l++[v]))
theorem SF.append (i:Nat) {k:List PV->W T} (hs:fs[i]?=some (some (.ol q0 l))) (hK:X.K=K) (hN:X.N[i]?=some y) (hv:Hv X.env.scope y) (he:EF X K fs e we) (hr:∀l',SF X K x (fs.set i (some (.ol q0 l'))) rest (k l') out)
  (hd:(y==("__debug__":Str))=false:=by decide) (jw:(y==("__classdict__":Str))=false:=by decide) (gA:attributeBase (.Name y p) "append" X.env (eval (.Name y p) X.env)=eval (.Name y p) X.env:=by rfl)
  (wJ:((backTo bI (starEach [e] X.env)).all (fun x=>!x.1)&&(backToKw bI (keywordEach [] X.env)).all (fun x=>x.1.isSome)
   && decide ([e].length+([]:List Keyword).length+(if ([]:List Keyword).isEmpty then 0 else 1) < 30))=true:=by rfl)
  (gz:(apos.endLine==bI.line)=true:=by rfl) (GJ:starEach [e] X.env=(false,eval e X.env)::starEach [] X.env:=by rfl) (iK:(backTo bI (starEach [] X.env)).any (·.1)=false:=by rfl)
  (uu:swapsWith (.Call (.Attribute (.Name y p) "append" apos) [e] [] bI) none pos.line X.env=pure false:=by rfl) :
  SF X K x fs (.Expr (.Call (.Attribute (.Name y p) "append" apos) [e] [] bI) pos::rest) (.bind we fun v=>.bind (m8 l v) k) out:=
 SF.step (pZ (F4 K hK BW Eb Ea vR (dw hN hv hd jw) (bt he.p dc GJ) gA wJ gz GJ iK) uu) fun D σ H ⟨sr,q⟩=>by
  obtain⟨a,ws,e1,h1,r1⟩:=de sr hs;refine⟨_,e1,.inl ⟨rfl,_,df.of h1⟩,sr,we.mono (fun v q1 u H1 g1 s1 v1=>?_) q⟩;obtain⟨a',t6,pH,iR,HH⟩:=de s1 hs;rw [e1] at pH;cases pH;refine⟨a,t6,u,rfl,rfl,iR,by rw [HH.length];exact q1.1,fun H2 sx h2=>?_⟩;obtain⟨s2,g2⟩:=kA s1 hs e1 sx h2 (HH.append (.one v1));exact⟨_,k _,hr _,s2,(k _).mono (fun t q2=>q2.go (g1.f.trans g2) sr s2) q1.2⟩
def G1 (l m:List PV):W (List PV):=.gB (l.length+m.length<=sizeLine) (.ret (l++m))
theorem SF.extend (i:Nat) {k:List PV->W T} (hs:fs[i]?=some (some (.ol q0 l))) (hK:X.K=K) (hN:X.N[i]?=some y) (hv:Hv X.env.scope y) (he:QF X K fs e wl) (hr:∀l',SF X K x (fs.set i (some (.ol q0 l'))) rest (k l') out)
  (hd:(y==("__debug__":Str))=false:=by decide) (jw:(y==("__classdict__":Str))=false:=by decide) (gA:attributeBase (.Name y p) "extend" X.env (eval (.Name y p) X.env)=eval (.Name y p) X.env:=by rfl)
  (wJ:((backTo bI (starEach [e] X.env)).all (fun x=>!x.1)&&(backToKw bI (keywordEach [] X.env)).all (fun x=>x.1.isSome)
   && decide ([e].length+([]:List Keyword).length+(if ([]:List Keyword).isEmpty then 0 else 1) < 30))=true:=by rfl)
  (gz:(apos.endLine==bI.line)=true:=by rfl) (GJ:starEach [e] X.env=(false,eval e X.env)::starEach [] X.env:=by rfl) (iK:(backTo bI (starEach [] X.env)).any (·.1)=false:=by rfl)
  (uu:swapsWith (.Call (.Attribute (.Name y p) "extend" apos) [e] [] bI) none pos.line X.env=pure false:=by rfl) :
  SF X K x fs (.Expr (.Call (.Attribute (.Name y p) "extend" apos) [e] [] bI) pos::rest) (.bind wl fun m=>.bind (G1 l m) k) out:=
 SF.step (pZ (F4 K hK BW PySem.F.slot_list_extend PySem.F.type_list_extend (Vs K hK) (dw hN hv hd jw) (bt he.p dc GJ) gA wJ gz GJ iK) uu) fun D σ H ⟨sr,q⟩=>by
  obtain⟨a,ws,e1,h1,r1⟩:=de sr hs;refine⟨_,e1,.inl ⟨rfl,_,df.of h1⟩,sr,wl.mono (fun m q1 u H1 g1 s1 v1=>?_) q⟩;obtain⟨a',t6,pH,iR,HH⟩:=de s1 hs;rw [e1] at pH;cases pH;obtain⟨b,zs,rfl,hb,rb⟩:=v1.sq s1;refine⟨a,b,t6,zs,rfl,rfl,iR,hb,by rw [HH.length,rb.length];exact q1.1,fun H2 sx h2=>?_⟩;obtain⟨s2,g2⟩:=kA s1 hs e1 sx h2 (HH.append rb);exact⟨_,k _,hr _,s2,(k _).mono (fun t q2=>q2.go (g1.f.trans g2) sr s2) q1.2⟩
def F1 (l:List PV):W (List PV×PV):=match l.getLast? with
 | some v=>.ret (l.dropLast,v)
 | none=>.fail
def QH {l:List PV}{v:PV} (h:l.getLast?=some v):l=l.dropLast++[v]:=by
 rw [List.getLast?_eq_some_iff] at h;obtain⟨ys,rfl⟩:=h;simp
theorem aM.snoc {H:Hp}:∀{ws:List V}{l:List PV}{v:PV},aM K [] H ws (l++[v])->∃ws0 u,ws=ws0++[u]/\aM K [] H ws0 l/\VR K [] H u v
 | _,[],_,.cons r .nil=>⟨[],_,rfl,.nil,r⟩
 | _,x::l,v,.cons r t=>by
  obtain⟨ws0,u,rfl,h1,h2⟩:=aM.snoc t;exact⟨_::ws0,u,rfl,.cons r h1,h2⟩
def SF.F2 (i j:Nat) {z:Str}{p':Pos}{k:List PV×PV->W T} (hs:fs[i]?=some (some (.ol q0 l))) (hij:j≠i) (hK:X.K=K) (hN:X.N[i]?=some y) (hv:Hv X.env.scope y) (hNd:X.N.Nodup) (hj:X.N[j]?=some z) (hx:Loc X.env.scope z) (hr:∀t:List PV×PV,SF X K x ((fs.set i (some (.ol q0 t.1))).set j (some (.val t.2))) rest (k t) out)
  (hd:(y==("__debug__":Str))=false:=by decide) (jw:(y==("__classdict__":Str))=false:=by decide) (gA:attributeBase (.Name y p) "pop" X.env (eval (.Name y p) X.env)=eval (.Name y p) X.env:=by rfl) (gz:(apos.endLine==bI.line)=true:=by rfl)
  (uu:swapsWith (.Call (.Attribute (.Name y p) "pop" apos) [] [] bI) (some (.Name z p')) pos.line X.env=pure false:=by rfl) (hf:X.fn z=true\/X.env.scope.names.lookup z=some .local:=by first | exact .inl rfl | exact .inr rfl | assumption) :
  SF X K x fs (.Assign [.Name z p'] (.Call (.Attribute (.Name y p) "pop" apos) [] [] bI) pos::rest) (.bind (F1 l) k) out:=
 SF.step (vH hNd hj hx (U5 K hK BW PySem.F.slot_list_pop PySem.F.type_list_pop Vr (dw hN hv hd jw) gA gz) uu hf) fun D σ H ⟨sr,q⟩=>by
  obtain⟨a,ws,e1,h1,r1⟩:=de sr hs;have q:(F1 l).run fun t=>(k t).run fun t=>bC K x σ fs H D (out t):=q;unfold F1 at q;cases hl:l.getLast? with
  | none=>rw [hl] at q;exact q.elim
  | some v=>
   rw [hl] at q;have el:=QH hl;rw [el] at r1;obtain⟨ws0,u,rfl,r0,ru⟩:=aM.snoc r1;refine⟨_,e1,.inl ⟨rfl,_,df.of h1⟩,a,ws0,u,rfl,rfl,h1,fun H2 sx h2=>?_⟩;obtain⟨s2,g2⟩:=kA sr hs e1 sx h2 r0;have ru2:VR K [] H2 u v:=g2.vr sr ru;have s3:=s2.gk ru2 j;exact⟨_,k _,hr (l.dropLast,v),s3,(k _).mono (fun t q2=>q2.go (g2.trans (cI.gk s2 _ _ j)) sr s3) q⟩
def gG (l:List PV) (i v:PV):W (List PV):=match i with
 | .int k=>match qt l.length k with
  | some j=>.ret (l.set j v)
  | none=>.fail
 | _=>.fail
def SF.Kp (i:Nat) {ei:Expr}{k:List PV->W T} (hs:fs[i]?=some (some (.ol q0 l))) (hN:X.N[i]?=some y) (hv:Hv X.env.scope y) (he:EF X K fs e we) (hi:EF X K fs ei wi) (hr:∀l',SF X K x (fs.set i (some (.ol q0 l'))) rest (k l') out)
  (ha:∀v,assign (.Subscript (.Name y p) ei e7) X.env v=(do
   let ov <- holding [v] (eval (.Name y p) X.env)
   let iv <- holding [v,ov] (eval ei X.env)
   standAt e7
   holding [v,ov,iv] (setItem ov iv v)
   release [v,ov,iv] []):=by intro _;rfl)
  (hd:(y==("__debug__":Str))=false:=by decide) (jw:(y==("__classdict__":Str))=false:=by decide) (hss:swapsWithSole [.Subscript (.Name y p) ei e7] e pos.line X.env=pure false:=by rfl) (hw:swappedStores [.Subscript (.Name y p) ei e7] e X.env=pure none:=by rfl)
  (h1:(assignEach [.Subscript (.Name y p) ei e7] X.env).map (·.2)=[assign (.Subscript (.Name y p) ei e7) X.env]:=by rfl) :
  SF X K x fs (.Assign [.Subscript (.Name y p) ei e7] e pos::rest) (.bind we fun v=>.bind wi fun n=>.bind (gG l n v) k) out:=
 SF.step (F0 he.p (Q8 (dw hN hv hd jw) hi.p rq ha) hss hw h1) fun D σ H ⟨sr,q⟩=>by
  refine⟨sr,we.mono (fun v q1 u H1 g1 s1 v1=>?_) q⟩;obtain⟨a,ws,e1,h1,r1⟩:=de s1 hs;refine⟨_,e1,s1,wi.mono (fun n q2 u2 H2 g2 s2 v2=>?_) q1⟩;obtain⟨a',t6,pH,iR,HH⟩:=de s2 hs;rw [e1] at pH;cases pH;cases v2 with
  | int kk=>
   have q2:(match qt l.length kk with | some j=>W.ret (l.set j v) | none=>W.fail).run _:=q2;cases hj:qt l.length kk with
   | none=>rw [hj] at q2;exact q2.elim
   | some j=>
    rw [hj] at q2;refine⟨a,t6,kk,j,rfl,rfl,iR,by rw [HH.length];exact hj,fun H3 sx h3=>?_⟩;obtain⟨s3,g3⟩:=kA s2 hs e1 sx h3 (HH.set (g2.vr s1 v1) j);exact⟨_,k _,hr _,s3,(k _).mono (fun t q3=>q3.go ((g1.trans g2).f.trans g3) sr s3) q2⟩
  | _=>exact q2.elim
end
end
section
open PySem PySem.Spec PyProof.Rows L2 PL
variable {K:Ab}
def iP:List AK->List PV->aY
 | [],_=>[]
 | .v::ks,x::l=>some (.val x)::iP ks l
 | .v::_,[]=>[]
 | .p φ::ks,l=>some (.iC φ)::iP ks l
 | .f a::ks,l=>some (.adr a)::iP ks l
def xw (ks:List AK) (l:List PV) (n:Nat):aY:=iP ks l++Al (n-ks.length) none
def xE (ks:List AK):Prop:=∀i j:Nat,(∃φ,ks[i]?=some (.p φ))->(∃φ,ks[j]?=some (.p φ))->i=j
theorem kj {R:Type}:∀{n:Nat}{m:T7 R n}{l:List PV}{Q:R->Prop},(da n m l).run Q->l.length=n
 | 0,_,[],_,_=>rfl
 | 0,_,_::_,_,h=>h.elim
 | n+1,_,[],_,h=>h.elim
 | n+1,m,x::l,Q,h=>by rw [Ao,kj (n:=n) (m:=m x) h]
section
variable {H H':Hp}{vs:List V}{ks:List AK}{l:List PV}
def jG.len (h:jG K H vs ks l):vs.length=ks.length:=by induction h <;> simp_all
def jG.slot (h:jG K H vs ks l):(iP ks l).length=vs.length/\∀(i:Nat) (s:SL),(iP ks l)[i]?=some (some s)->∃u,vs[i]?=some u/\zy K H u s/\(s.own=true->∃φ,s=.iC φ/\ks[i]?=some (.p φ)):=by
 induction h with
 | nil=>exact⟨rfl,fun i s e=>by simp [iP] at e⟩
 | @v u x vs ks l r t ih=>
  refine⟨by simp [iP,ih.1],fun i s e=>?_⟩;cases i with
  | zero=>simp [iP] at e;subst e;exact⟨u,rfl,.inl ⟨x,rfl,r⟩,fun z=>by cases z⟩
  | succ i=>simp [iP] at e;obtain⟨w,h1,h2,h3⟩:=ih.2 i s e;exact⟨w,by simpa using h1,h2,by simpa using h3⟩
 | @p a φ ws vs ks l e0 r t ih=>
  refine⟨by simp [iP,ih.1],fun i s e=>?_⟩;cases i with
  | zero=>simp [iP] at e;subst e;exact⟨_,rfl,.inr ⟨a,rfl,ws,e0,r⟩,fun _=>⟨φ,rfl,rfl⟩⟩
  | succ i=>simp [iP] at e;obtain⟨w,h1,h2,h3⟩:=ih.2 i s e;exact⟨w,by simpa using h1,h2,by simpa using h3⟩
 | @f a vs ks l t ih=>
  refine⟨by simp [iP,ih.1],fun i s e=>?_⟩;cases i with
  | zero=>simp [iP] at e;subst e;exact⟨_,rfl,.inr ⟨a,rfl,rfl⟩,fun z=>by cases z⟩
  | succ i=>simp [iP] at e;obtain⟨w,h1,h2,h3⟩:=ih.2 i s e;exact⟨w,by simpa using h1,h2,by simpa using h3⟩
def jG.YS (h:jG K H vs ks l) {i:Nat}{φ:List V->Prop} (e:ks[i]?=some (.p φ)):(iP ks l)[i]?=some (some (.iC φ)):=by
 induction h generalizing i with
 | nil=>simp at e
 | v r t ih=>cases i with | zero=>simp at e | succ i=>simp [iP];exact ih (by simpa using e)
 | p e0 r t ih=>cases i with | zero=>simp at e;subst e;rfl | succ i=>simp [iP];exact ih (by simpa using e)
 | f t ih=>cases i with | zero=>simp at e | succ i=>simp [iP];exact ih (by simpa using e)
def qQ {n i:Nat}{s:SL} (h:(xw ks l n)[i]?=some (some s)):(iP ks l)[i]?=some (some s):=by
 unfold xw at h;by_cases c:i < (iP ks l).length
 ·rw [AD c] at h;exact h
 ·rw [AB (by omega),Bu] at h
  split at h <;> cases h
def nk {N:List Str}{i:Nat}{u:V} (h:vs[i]?=some u):(L2.start N vs)[i]?=some (some u):=by
 unfold L2.start;rw [AD (by rw [Af];exact (Ak.mp h).1),Ai,h];rfl
def yR {N:List Str}{i:Nat}{u:V} (h:(L2.start N vs)[i]?=some (some u)):vs[i]?=some u:=by
 unfold L2.start at h;by_cases c:i < vs.length
 ·rw [AD (by simpa using c),Ai] at h;cases z:vs[i]? with
  | none=>rw [z] at h;cases h
  | some q=>rw [z] at h;cases h;rfl
 ·rw [AB (by simpa using c),Bu] at h
  split at h <;> cases h
def jG.beg (h:jG K H vs ks l) (one:xE ks) (N:List Str):aW K H (L2.start N vs) (xw ks l N.length):=by
 obtain⟨hl,hs⟩:=h.slot;refine⟨?_,fun i s e=>?_,fun i j s t x y a e1 e2 o1 o2 q1 q2 z1 z2=>?_⟩
 ·unfold L2.start xw;rw [Ae,Ae,Af,hl,A8,A8,h.len]
 ·obtain⟨u,h1,h2,_⟩:=hs i s (qQ e);exact⟨u,nk h1,h2⟩
 ·obtain⟨_,_,_,h3⟩:=hs i s (qQ e1);obtain⟨_,_,_,h4⟩:=hs j t (qQ e2);obtain⟨φ,_,k1⟩:=h3 o1;obtain⟨ψ,_,k2⟩:=h4 o2;exact one i j ⟨φ,k1⟩ ⟨ψ,k2⟩
def jG.go (h:jG K H vs ks l) {N:List Str}{σ':L2.St}{bH:aY} (g:cI (L2.start N vs) (xw ks l N.length) H σ' bH H') (s':aW K H' σ' bH):GoC vs ks H H':=by
 obtain⟨hl,hs⟩:=h.slot;refine⟨fun a o e n=>(g.keep a o e fun z=>?_).1,g.there,fun a φ p=>?_⟩
 ·obtain⟨i,s,x,e1,e2,e3,e4⟩:=z;obtain⟨u,h1,h2,h3⟩:=hs i s (qQ e1);obtain⟨φ,rfl,k⟩:=h3 e2;rcases e4 with rfl | e4
  ·exact n φ ⟨i,k,yR e3⟩
  ·cases e4
 ·obtain⟨i,e1,e2⟩:=p;have e3:=h.YS e1;have hi:i < (iP ks l).length:=(Ak.mp e3).1;have e4:(xw ks l N.length)[i]?=some (some (.iC φ)):=by unfold xw;rw [AD hi];exact e3
  rcases g.pk a φ ⟨i,e4,nk e2⟩ with⟨j,k1,k2⟩ | ⟨_,k⟩
  ·exact s'.ownAt k1 rfl k2
  ·exact k
end
section
variable {P:Program}{w:World}{mg:Str->Option Value}{base:Heap}{x qual:Str}{st:Stmt}{f:Addr}{fd:FuncData}{N ps:List Str}{k n:Nat}{ks:List AK}
def fnV {m:T7 PV n} (Fn:T6 K x qual st f fd) (S:ar N ps (aj st)) (ZS:ks.length=ps.length) (one:xE ks)
  (cert:∀l:List PV,l.length=n->∀(gE:Value) (A:Around) (outer:List Env) (s:Shared) (H:Hp) (E:XK),fv k (A.deeper (envOfC qual (aj st) s.heap.objs.size f gE))->SF (xo xW P w K mg base N qual (aj st) f gE A outer s H E).Vp K false (xw ks l N.length) (dR st) (da n m l) .rt) :
  iQ P w K mg base xW (k+1) f fd ps (gY K ks (da n m)):=by
 refine Fn.ok S (fun vs H Q E h=>?_) (fun gE A outer s H vs Q E hr h=>?_)
 ·obtain⟨l,h,_⟩:=h;rw [h.len];exact ZS
 obtain⟨l,h,q⟩:=h;refine⟨_,(cert l (kj q) gE A outer s H E hr).p,h.beg one N,(da n m l).mono (fun v q1 u σ' bH H' g s' r=>q1 u H' (h.go g s') r) q⟩
def fnL {m:T7 (List PV) n} (Fn:T6 K x qual st f fd) (S:ar N ps (aj st)) (ZS:ks.length=ps.length) (one:xE ks)
  (cert:∀l:List PV,l.length=n->∀(gE:Value) (A:Around) (outer:List Env) (s:Shared) (H:Hp) (E:XK),fv k (A.deeper (envOfC qual (aj st) s.heap.objs.size f gE))->SF (xo xW P w K mg base N qual (aj st) f gE A outer s H E).Vp K false (xw ks l N.length) (dR st) (da n m l) .rl) :
  iQ P w K mg base xW (k+1) f fd ps (jJ K ks (da n m)):=by
 refine Fn.ok S (fun vs H Q E h=>?_) (fun gE A outer s H vs Q E hr h=>?_)
 ·obtain⟨l,h,_⟩:=h;rw [h.len];exact ZS
 obtain⟨l,h,q⟩:=h;have sr:=h.beg one N;refine⟨_,(cert l (kj q) gE A outer s H E hr).p,sr,(da n m l).mono (fun z q1 a ws σ' bH H' g s' fr e r=>q1 a ws H' (h.go g s') ?_ e r) q⟩;rcases fr with fr | ⟨i,t,x,e1,e2,np,e3,e4⟩
 ·exact fr
 ·obtain⟨_,_,_,h3⟩:=h.slot.2 i t (qQ e1);obtain⟨φ,e,_⟩:=h3 e2;exact absurd e (np φ)
end
def Ga:xE []:=fun i j ⟨_,h⟩=>by simp at h
def Rn {ks:List AK} (h:xE ks):xE (.v::ks):=fun i j ⟨φ,a⟩ ⟨ψ,b⟩=>by
 cases i with
 | zero=>simp at a
 | succ i=>
  cases j with
  | zero=>simp at b
  | succ j=>rw [h i j ⟨φ,by simpa using a⟩ ⟨ψ,by simpa using b⟩]
def Xj {ks:List AK}{fa:Addr} (h:xE ks):xE (.f fa::ks):=fun i j ⟨φ,a⟩ ⟨ψ,b⟩=>by
 cases i with
 | zero=>simp at a
 | succ i=>
  cases j with
  | zero=>simp at b
  | succ j=>rw [h i j ⟨φ,by simpa using a⟩ ⟨ψ,by simpa using b⟩]
def iD {n:Nat}{φ:List V->Prop}:xE (.p φ::Al n .v):=fun i j ⟨χ,a⟩ ⟨ψ,b⟩=>by
 have z:∀{i:Nat}{χ:List V->Prop},(AK.p φ::Al n .v)[i]?=some (.p χ)->i=0:=fun {i χ} a=>by
  cases i with
  | zero=>rfl
  | succ i=>
   have a:(Al n AK.v)[i]?=some (.p χ):=by simpa using a
   rw [Bu] at a
   split at a <;> simp at a
 rw [z a,z b]
end
end FL
namespace L2
section
open PySem PySem.Spec PyProof.Rows
variable {X:Cx}
def ab5 (K:Ab):R2:=fun x y H Q=>∃a b xs zs,x=.ref a/\y=.ref b/\df K H a xs/\df K H b zs/\xs.length+zs.length<=sizeLine/\mn H (.lst (xs++zs)) Q
def Ve (K:Ab) (hK:X.K=K):ir X (binaryOp .Add) (ab5 K):=by
 subst hK;intro pins s σ H x y v u Q I rx ry h;obtain⟨l,b,xs,zs,rfl,rfl,hH,hB,hz,q⟩:=h;cases rx;cases ry;obtain⟨au,r,⟨⟨cls,dd,data,sl⟩,n,ho,hc,hd,qB⟩,_⟩:=I.list hH;obtain⟨bL,r2,⟨⟨aal,Wy,data2,TV⟩,n2,O1,Sl,hd2,XG⟩,_⟩:=I.list hB;simp only at hc hd qB Sl hd2 XG;subst hc hd qB Sl hd2 XG;have e:au.toArray++bL.toArray=(au++bL).toArray:=by simp
 have hl:=r.length;have Qe:=r2.length;refine concat_meets ⟨_,ho,rfl⟩ ⟨_,O1,rfl⟩ noFill_list_add seq_list_add PySem.F.slot_list_add PySem.F.entry_list_add (PySem.F.args_list_add_2 _ _) (list_addW l b au.toArray bL.toArray n n2 none none sl TV (by simp;omega)) ⟨ho,O1,?_⟩;rw [e];exact⟨.ref _,_,I.Zp (t':=s.toks) (r.append r2) (by rw [Ae];omega),rfl,q.at _ I.fresh⟩
end
end L2
namespace FL
section
open PySem PySem.Spec PyProof.Rows L2 PL
variable {K:Ab}
section
variable {X:Cx}{a b c e o:Expr}{pos p p1 p2 p3 p4:Pos}{fs:aY}{w wa wb:W PV}{wl wm:W (List PV)}
def Jz (l m:List PV):W (List PV):=.gB (l.length+m.length<=sizeLine) (.ret (l++m))
def fQL (K:Ab) (fs:aY) (w:W (List PV)):TE:=fun σ H Q=>aW K H σ fs/\w.run fun l=>∀u H',cW σ fs H H'->aW K H' σ fs->WS K σ fs H' u l->(∀H'',cW σ fs H' H''->aW K H'' σ fs->∃a vs,u=.ref a/\df K H'' a vs/\aM K [] H'' vs l)->Q u H'
structure J7 (X:Cx) (K:Ab) (fs:aY) (e:Expr) (w:W (List PV)):Prop where p:PE X e (fQL K fs w)
def cM (h:LF X K fs e wl):J7 X K fs e wl:=⟨PE.imp h.p fun σ H Q ⟨sr,q⟩=>⟨sr,wl.mono (fun l q1 a vs H1 g1 s1 n e v=>q1 _ H1 g1 s1 (.inr ⟨a,rfl,.inl ⟨sr.noOwn n,vs,e,v⟩⟩) fun H2 g2 s2=>⟨a,vs,rfl,df.of (g2.tH e (sr.noOwn n)),g2.P7 s1 v⟩) q⟩⟩
def Kz (i:Nat) {x:Str}{q0:Option Addr}{l:List PV} (hs:fs[i]?=some (some (.ol q0 l)):=by rfl) (hN:X.N[i]?=some x:=by rfl) (hv:Hv X.env.scope x:=by first | exact Cs rfl | exact Cj (Cs rfl) | exact Cj (Cj rfl)) (hd:(x==("__debug__":Str))=false:=by decide) (jw:(x==("__classdict__":Str))=false:=by decide):J7 X K fs (.Name x pos) (.ret l):=
 ⟨PE.imp (dw hN hv hd jw) fun σ H Q ⟨sr,q⟩=>by
  obtain⟨a,ws,e1,h1,r1⟩:=de sr hs;refine⟨_,e1,q _ H .refl sr (.inr ⟨a,rfl,.inr ⟨i,q0,hs,e1⟩⟩) fun H2 g2 s2=>?_⟩;obtain⟨a',t6,pH,iR,HH⟩:=de s2 hs;rw [e1] at pH;cases pH;exact⟨a,t6,rfl,df.of iR,HH⟩⟩
def K2:PV->W (List PV)
 | .cl l=>.ret l
 | _=>.fail
def FX (h:EF X K fs e w):J7 X K fs e (.bind w K2):=⟨PE.imp h.p fun σ H Q ⟨sr,q⟩=>⟨sr,w.mono (fun x q1 u1 H1 g1 s1 v1=>by
 cases v1 with
 | cl e r=>exact q1 _ H1 g1 s1 (.inl ⟨_,_,rfl,.inl e,r⟩) fun H2 g2 s2=>⟨_,_,rfl,((g2.eY s1).f _ _ e).sq,g2.P7 s1 r⟩
 | _=>exact q1.elim) q⟩⟩
def IT (hK:X.K=K) (ha:J7 X K fs a wl) (hb:J7 X K fs b wm):LF X K fs (.BinOp a .Add b pos) (.bind wl fun l=>.bind wm fun m=>Jz l m):=⟨PE.imp (M4 (Ve K hK) ha.p hb.p) fun σ H Q ⟨sr,q⟩=>⟨sr,wl.mono (fun l q1 u1 H1 g1 s1 _ v1=>⟨s1,wm.mono (fun m q2 u2 H2 g2 s2 _ v2=>by
 obtain⟨a,vs,rfl,h1,r1⟩:=v1 H2 g2 s2;obtain⟨b,ws,rfl,h2,r2⟩:=v2 H2 .refl s2;refine⟨a,b,vs,ws,rfl,rfl,h1,h2,by rw [r1.length,r2.length];exact q2.1,fun p H3 s3 h3 n3=>?_⟩;have gg:=g1.trans g2;exact q2.2 p _ H3 (gg.trans (cW.same s3)) (s2.same s3) (gg.there p n3) h3 (aM.tk s3.fy (r1.append r2))) q1⟩) q⟩⟩
def Nd {σ:L2.St}{H H1:Hp}{Q:VK}{vs:List V}{l:List PV} (g1:cW σ fs H H1) (s1:aW K H1 σ fs) (r:aM K [] H1 vs l) (q:∀a vs H',cW σ fs H H'->aW K H' σ fs->H a=none->H' a=some (.lst vs)->aM K [] H' vs l->Q (.ref a) H'):mn H1 (.lst vs) Q:=fun p H2 s2 h2 n2=>q p vs H2 (g1.trans (cW.same s2)) (s1.same s2) (g1.there p n2) h2 (aM.tk s2.fy r)
def RE (K:Ab):CL K (QW K) .ret:=fun {fs σ H Q u l} s v q=>by
 obtain⟨a,vs,rfl,h,rs⟩:=v.sq s;exact⟨a,vs,rfl,h,Nd .refl s rs q⟩
def Zs (hK:X.K=K) (hg:Gl X "list") (hm:X.mg "list"=none) (ha:QF X K fs e wl) (he:starEach [e] X.env=(false,eval e X.env)::starEach [] X.env:=by rfl) (eg:(backTo pos (starEach [] X.env)).any (·.1)=false:=by rfl):LF X K fs (.Call (.Name "list" p) [e] [] pos) wl:=RM (m:=.ret) (L3 K hK) (RE K) hg hm boot_list ha (by decide) (by decide) he eg
def gc (hK:X.K=K) (hg:Gl X "tuple") (hm:X.mg "tuple"=none) (ha:QF X K fs e wl) (he:starEach [e] X.env=(false,eval e X.env)::starEach [] X.env:=by rfl) (eg:(backTo pos (starEach [] X.env)).any (·.1)=false:=by rfl):EF X K fs (.Call (.Name "tuple" p) [e] [] pos) (.bind wl rk):=Pk (Pw K hK) (Uj K) hg hm boot_tuple ha (by decide) (by decide) he eg
def sD (hK:X.K=K) (hg:Gl X "len") (hm:X.mg "len"=none) (ha:QF X K fs e wl) (he:starEach [e] X.env=(false,eval e X.env)::starEach [] X.env:=by rfl) (eg:(backTo pos (starEach [] X.env)).any (·.1)=false:=by rfl):EF X K fs (.Call (.Name "len" p) [e] [] pos) (.bind wl uk):=S2 (zp K hK) (Vw K) hg hm boot_len ha (by decide) (by decide) he eg
def TC {R:Type} (ha:EF X K fs e w) (he:starEach [e] X.env=(false,eval e X.env)::starEach [] X.env):AF X K fs [e] (Al 1 .v) (R:=R) (fun k=>.bind w fun x=>k [x]):=af ha ak he
def dZ (hK:X.K=K) (hg:Gl X "len") (hm:X.mg "len"=none) (ha:EF X K fs e w) (he:starEach [e] X.env=(false,eval e X.env)::starEach [] X.env:=by rfl) (eg:(backTo pos (starEach [] X.env)).any (·.1)=false:=by rfl):EF X K fs (.Call (.Name "len" p) [e] [] pos) (.bind w fun x=>ud eI [x]):=uW (n:=1) (zp K hK) (WI K) hg hm boot_len (TC ha he) (by decide) (by decide) he eg
def adQ (hg:Gl X "abs") (hm:X.mg "abs"=none) (ha:EF X K fs e w) (he:starEach [e] X.env=(false,eval e X.env)::starEach [] X.env:=by rfl) (eg:(backTo pos (starEach [] X.env)).any (·.1)=false:=by rfl):EF X K fs (.Call (.Name "abs" p) [e] [] pos) (.bind w fun x=>ud Ts [x]):=uW (n:=1) Ti WK hg hm boot_abs (TC ha he) (by decide) (by decide) he eg
def uV (hg:Gl X "int") (hm:X.mg "int"=none) (ha:EF X K fs e w) (he:starEach [e] X.env=(false,eval e X.env)::starEach [] X.env:=by rfl) (eg:(backTo pos (starEach [] X.env)).any (·.1)=false:=by rfl):EF X K fs (.Call (.Name "int" p) [e] [] pos) (.bind w fun x=>ud xx [x]):=S1 (n:=1) PJ WJ hg hm boot_int (TC ha he) (by decide) (by decide) he eg
def adL (hc:X.calm=true) (hg:Gl X "max") (hm:X.mg "max"=none) (ha:EF X K fs a wa) (hb:EF X K fs b wb) (he:starEach [a,b] X.env=(false,eval a X.env)::starEach [b] X.env:=by rfl) (he2:starEach [b] X.env=(false,eval b X.env)::starEach [] X.env:=by rfl) (eg:(backTo pos (starEach [b] X.env)).any (·.1)=false:=by rfl):EF X K fs (.Call (.Name "max" p) [a,b] [] pos) (.bind wa fun x=>.bind wb fun y=>ud Tq [x,y]):=uW (n:=2) (Py hc) WH hg hm boot_max (af ha (af hb ak he2) he) (by decide) (by decide) he eg
def adK (hc:X.calm=true) (hg:Gl X "min") (hm:X.mg "min"=none) (ha:EF X K fs a wa) (hb:EF X K fs b wb) (he:starEach [a,b] X.env=(false,eval a X.env)::starEach [b] X.env:=by rfl) (he2:starEach [b] X.env=(false,eval b X.env)::starEach [] X.env:=by rfl) (eg:(backTo pos (starEach [b] X.env)).any (·.1)=false:=by rfl):EF X K fs (.Call (.Name "min" p) [a,b] [] pos) (.bind wa fun x=>.bind wb fun y=>ud Tp [x,y]):=uW (n:=2) (Px hc) WE hg hm boot_min (af ha (af hb ak he2) he) (by decide) (by decide) he eg
def acz (hK:X.K=K) (hc:X.calm=true) (hg1:Gl X "list") (hm1:X.mg "list"=none) (hg2:Gl X "reversed") (hm2:X.mg "reversed"=none) (he:J7 X K fs e wl)
  (Je:starEach [.Call (.Name "reversed" p3) [e] [] p4] X.env=(false,eval (.Call (.Name "reversed" p3) [e] [] p4) X.env)::starEach [] X.env:=by rfl) (uR:starEach [e] X.env=(false,eval e X.env)::starEach [] X.env:=by rfl) :
  LF X K fs (.Call (.Name "list" p1) [.Call (.Name "reversed" p3) [e] [] p4] [] p2) (.bind wl fun l=>.ret l.reverse):=⟨PE.imp (KD K hK hc hg1 hm1 hg2 hm2 he.p Je uR) fun σ H Q ⟨sr,q⟩=>⟨sr,wl.mono (fun l q1 u1 H1 g1 s1 _ v1=>by
 obtain⟨a,vs,rfl,h1,r1⟩:=v1 H1 .refl s1;exact⟨a,vs,rfl,h1,Nd g1 s1 r1.reverse q1⟩) q⟩⟩
def bsW:List PV->W (List Bool)
 | []=>.ret []
 | .bl b::r=>.bind (bsW r) fun l=>.ret (b::l)
 | _=>.fail
theorem Hm:∀{l:List PV}{Q:List Bool->Prop},(bsW l).run Q->∃bs:List Bool,l=bs.map PV.bl/\Q bs
 | [],Q,h=>⟨[],rfl,h⟩
 | .bl b::r,Q,h=>by
  obtain⟨bs,e,q⟩:=Hm (l:=r) h;exact⟨b::bs,by rw [e];rfl,q⟩
 | .aQ::r,Q,h=>h.elim
 | .int _::r,Q,h=>h.elim
 | .str _::r,Q,h=>h.elim
 | .tup _::r,Q,h=>h.elim
 | .ref _::r,Q,h=>h.elim
 | .ty _::r,Q,h=>h.elim
 | .cl _::r,Q,h=>h.elim
@[simp] theorem Hn:∀bs:List Bool,bsW (bs.map PV.bl)=.ret bs
 | []=>rfl
 | b::bs=>by
  show W.bind (bsW (bs.map PV.bl)) _=_;rw [Hn bs];rfl
def JE (l:List PV):W PV:=.bind (bsW l) fun bs=>.ret (.bl (bs.all id))
def Tx (l:List PV):W PV:=.bind (bsW l) fun bs=>.ret (.bl (bs.any id))
def NP (hK:X.K=K) (hc:X.calm=true) (hg:Gl X "all") (hm:X.mg "all"=none) (ha:J7 X K fs e wl) (he:starEach [e] X.env=(false,eval e X.env)::starEach [] X.env:=by rfl) (eg:(backTo pos (starEach [] X.env)).any (·.1)=false:=by rfl):EF X K fs (.Call (.Name "all" p) [e] [] pos) (.bind wl JE):=⟨PE.imp (gm (PM K hK hc) hg hm boot_all (bt ha.p dc he) (by decide) (by decide) he eg) fun σ H Q ⟨sr,q⟩=>⟨sr,wl.mono (fun l q1 u1 H1 g1 s1 _ v1=>by
 obtain⟨bs,e,q2⟩:=Hm (l:=l) q1;obtain⟨a,vs,rfl,h1,r1⟩:=v1 H1 .refl s1;rw [e] at r1;have:=sX r1;subst this;exact⟨a,bs,rfl,h1,q2 _ H1 g1 s1 (.bl _)⟩) q⟩⟩
def adP (hK:X.K=K) (hc:X.calm=true) (hg:Gl X "any") (hm:X.mg "any"=none) (ha:J7 X K fs e wl) (he:starEach [e] X.env=(false,eval e X.env)::starEach [] X.env:=by rfl) (eg:(backTo pos (starEach [] X.env)).any (·.1)=false:=by rfl):EF X K fs (.Call (.Name "any" p) [e] [] pos) (.bind wl Tx):=⟨PE.imp (gm (PK K hK hc) hg hm boot_any (bt ha.p dc he) (by decide) (by decide) he eg) fun σ H Q ⟨sr,q⟩=>⟨sr,wl.mono (fun l q1 u1 H1 g1 s1 _ v1=>by
 obtain⟨bs,e,q2⟩:=Hm (l:=l) q1;obtain⟨a,vs,rfl,h1,r1⟩:=v1 H1 .refl s1;rw [e] at r1;have:=sX r1;subst this;exact⟨a,bs,rfl,h1,q2 _ H1 g1 s1 (.bl _)⟩) q⟩⟩
def gK (k:Kd) (x:PV):W PV:=match x with
 | .ref _=>.fail
 | .ty _=>.fail
 | x=>.ret (.bl (k.is x))
def QX (K:Ab):List V->Hp->VK->Prop:=fun xs H Q=>∃x c t b,xs=[x,.ty c]/\(nT K H x t\/(t=.type "tuple"/\∃a vs,x=.ref a/\dD K H a vs)\/(t=.type "list"/\∃a vs,x=.ref a/\df K H a vs)\/(t=.type "dict"/\∃a,x=.ref a/\IsD H a))/\Bv K t (.type c)=some b/\Q (.bl b) H
def PF (hK:X.K=K):bS X (.builtin "isinstance") (QX K):=by
 subst hK;intro pins s σ H xs us Q I r h;obtain⟨x,c,t,b,rfl,ty | ty | ⟨rfl,a,vs,rfl,hL⟩ | ⟨rfl,a,rfl,hD⟩,e,q⟩:=h
 ·exact tN pins s σ H _ us Q I r ⟨x,c,t,b,rfl,ty,e,q⟩
 ·exact PB X.K rfl pins s σ H _ us Q I r ⟨x,c,t,b,rfl,.inr ty,e,q⟩
 ·obtain⟨u,w,rfl,r1,r2⟩:=vals2 r;cases r1;cases r2;obtain⟨au,_,⟨o,n,h1,h2,_⟩,_⟩:=I.list hL;exact Ba D2 I.yA ⟨o,h1,h2⟩ e (fun z=>nomatch z) fun tk=>⟨.bl b,H,I.tok _,rfl,q⟩
 ·obtain⟨u,w,rfl,r1,r2⟩:=vals2 r;cases r1;cases r2;have:∃o,s.heap.get? a=some o/\o.cls=.type "dict":=by
   rcases hD with⟨kvs,e⟩ | ⟨kvs,e⟩
   ·obtain⟨_,_,vs,_,o,_,_,h1,h2,_⟩:=xj I.bG e;exact⟨o,h1,h2.1⟩
   ·obtain⟨_,_,xs,_,o,_,_,h1,h2,_⟩:=xi I.bG e;exact⟨o,h1,h2.1⟩
  obtain⟨o,h1,h2⟩:=this;exact Ba D3 I.yA ⟨o,h1,h2⟩ e (fun z=>nomatch z) fun tk=>⟨.bl b,H,I.tok _,rfl,q⟩
def fB (hK:X.K=K) (k:Kd) {x:Str} (hg:Gl X "isinstance") (hm:X.mg "isinstance"=none) (ha:EF X K fs a wa) (hgx:Gl X x) (hmx:X.mg x=none) (hv:bootBuiltins x=some (.type k.name)) (hn:x≠"__name__":=by decide) (hd:(x==("__debug__":Str))=false:=by decide)
  (he:starEach [a,.Name x p2] X.env=(false,eval a X.env)::starEach [.Name x p2] X.env:=by rfl) (he2:starEach [Expr.Name x p2] X.env=(false,eval (.Name x p2) X.env)::starEach [] X.env:=by rfl)
  (eg:(backTo pos (starEach [Expr.Name x p2] X.env)).any (·.1)=false:=by rfl):EF X K fs (.Call (.Name "isinstance" p) [a,.Name x p2] [] pos) (.bind wa (gK k)):=
 ⟨PE.imp (gm (PF hK) hg hm boot_isinstance (bt ha.p (bt (U6 (v:=.ty k.name) hgx hmx hv rfl hn hd) dc he2) he) (by decide) (by decide) he eg) fun σ H Q ⟨sr,q⟩=>⟨sr,wa.mono (fun x q1 u1 H1 g1 s1 v1=>by
  have fin:∀{t:Value}{y:PV},nT K H1 u1 t->Bv K t (.type k.name)=some (k.is y)->Q (.bl (k.is y)) H1->QX K [u1,.ty k.name] H1 Q:=fun ty e q=>⟨_,_,_,_,rfl,.inl ty,e,q⟩;show QX K [u1,.ty k.name] H1 Q;cases v1 with
  | aQ=>exact fin (y:=.aQ) .aQ (by rw [(uQ K).1 k];cases k <;> rfl) (q1 _ H1 g1 s1 (.bl _))
  | bl b=>exact fin (.bl b) (Zy K b k) (q1 _ H1 g1 s1 (.bl _))
  | int b=>exact fin (.int b) (VF K b k) (q1 _ H1 g1 s1 (.bl _))
  | str b=>exact fin (.str b) (VE K b k) (q1 _ H1 g1 s1 (.bl _))
  | ty n=>exact q1.elim
  | ref n=>exact q1.elim
  | @dk a o kvs ks l e k1 r=>exact⟨_,_,_,_,rfl,.inr (.inr (.inr ⟨rfl,_,rfl,.inl ⟨_,.inr ⟨_,e⟩⟩⟩)),(show _=some (k.is (.dv ks l)) by rw [(uQ K).2.2 k];cases k <;> rfl),q1 _ H1 g1 s1 (.bl _)⟩
  | @dt a o kvs ks l e k1 r=>exact⟨_,_,_,_,rfl,.inr (.inr (.inr ⟨rfl,_,rfl,.inr ⟨_,.inr ⟨_,e⟩⟩⟩)),(show _=some (k.is (.dv ks l)) by rw [(uQ K).2.2 k];cases k <;> rfl),q1 _ H1 g1 s1 (.bl _)⟩
  | @cl p vs l e r=>exact⟨_,_,_,_,rfl,.inr (.inr (.inl ⟨rfl,_,_,rfl,e.sq⟩)),(show _=some (k.is (.cl l)) by rw [(uQ K).2.1 k];cases k <;> rfl),q1 _ H1 g1 s1 (.bl _)⟩
  | @tup p vs l e r=>exact⟨_,_,_,_,rfl,.inr (.inl ⟨rfl,_,_,rfl,dD.of e⟩),VD K _ k,q1 _ H1 g1 s1 (.bl _)⟩) q⟩⟩
def Ig (l:List PV):PV->W (List PV)
 | .int k=>.gB (-(2 ^ 63)<=k/\k < 2 ^ 63/\l.length*k.toNat<=sizeLine) (.ret (Al k.toNat l).flatten)
 | _=>.fail
def RL (ha:LF X K fs a wl) (hb:EF X K fs b wb):LF X K fs (.BinOp a .Mult b pos) (.bind wl fun l=>.bind wb fun y=>Ig l y):=⟨PE.imp (M4 Y4 ha.p hb.p) fun σ H Q ⟨sr,q⟩=>⟨sr,wl.mono (fun l q1 a vs H1 g1 s1 n e v=>⟨s1,wb.mono (fun y q2 u2 H2 g2 s2 v2=>by
 cases v2 with
 | int k=>
  have no:=sr.noOwn n;have e2:=(g2.tH e no);have r2:=g2.P7 s1 v;refine⟨a,k,vs,rfl,rfl,e2,q2.1.1,q2.1.2.1,by rw [r2.length];exact q2.1.2.2,fun p hp=>?_⟩;have sm:=mh hp (.lst (Al k.toNat vs).flatten);have gg:=g1.trans g2;exact q2.2 p _ _ (gg.trans (cW.same sm)) (s2.same sm) (gg.there p hp) aR (aM.tk sm.fy (r2.rep k.toNat))
 | _=>exact q2.elim) q1⟩) q⟩⟩
def part:PV->W (Option Int)
 | .int i=>.ret (some i)
 | _=>.fail
def Gf:OF X K fs none (.ret none):=⟨PO.imp UY fun σ H Q ⟨sr,q⟩=>q H .refl sr⟩
def Gd (h:EF X K fs e w):OF X K fs (some e) (.bind w part):=⟨PO.imp (UX h.p) fun σ H Q ⟨sr,q⟩=>⟨sr,w.mono (fun x q1 u1 H1 g1 s1 v1=>by
 cases v1 with
 | int i=>exact⟨_,rfl,q1 H1 g1 s1⟩
 | _=>exact q1.elim) q⟩⟩
def jb (h:J7 X K fs e wl) {neg:Bool}:∀σ H Q,fE K fs (.bind wl fun l=>.ret (.bl (if neg then !l.isEmpty else l.isEmpty))) σ H Q->Xb (fun x y H Q=>∃p q xs,x=.ref p/\y=.ref q/\df K H p xs/\df K H q []/\Q (.bl (if neg then !xs.isEmpty else xs.isEmpty)) H) (fQL K fs wl) (fL K fs (.ret [])) σ H Q:=fun σ H Q ⟨sr,q⟩=>
 ⟨sr,wl.mono (fun l q1 u1 H1 g1 s1 _ v1=>⟨s1,fun a2 vs2 H2 g2 s2 n2 e2 r2=>by
  cases r2;obtain⟨a,vs,rfl,h1,r1⟩:=v1 H2 g2 s2;refine⟨a,a2,vs,rfl,rfl,h1,df.of e2,?_⟩;rw [SW r1];exact q1 _ H2 (g1.trans g2) s2 (.bl _)⟩) q⟩
def Nk:LF X K fs (.List [] pos) (.ret []):=Xr (n:=0) ak
def adO (hK:X.K=K) (hu:X.A.units+200 < cLine) (h:J7 X K fs e wl) (hk:behindInMarks .Eq (.List [] p2)=false:=by rfl):EF X K fs (.Compare e [.Eq] [.List [] p2] pos) (.bind wl fun l=>.ret (.bl l.isEmpty)):=⟨PE.imp (uH (vK K hK (by omega)) h.p Nk.p hk) (jb (neg:=false) h)⟩
def adJ (hK:X.K=K) (hu:X.A.units+200 < cLine) (h:J7 X K fs e wl) (hk:behindInMarks .NotEq (.List [] p2)=false:=by rfl):EF X K fs (.Compare e [.NotEq] [.List [] p2] pos) (.bind wl fun l=>.ret (.bl (!l.isEmpty))):=⟨PE.imp (uH (vJ K hK (by omega)) h.p Nk.p hk) (jb (neg:=true) h)⟩
def W9 (hK:X.K=K) (hu:X.A.units+200 < cLine) (h:J7 X K fs e wl) (hk:behindInMarks .Eq (.List [] p2)=false:=by rfl):TF X K fs (.Compare e [.Eq] [.List [] p2] pos) (.bind wl fun l=>.ret l.isEmpty):=⟨PT.imp (pY (vK K hK (by omega)) h.p Nk.p hk) fun σ H Q q=>jb (neg:=false) h σ H _ (Wh (w:=.bind wl fun l=>.ret (.bl l.isEmpty)) σ H Q q)⟩
def Qw (hK:X.K=K) (hu:X.A.units+200 < cLine) (h:J7 X K fs e wl) (hk:behindInMarks .NotEq (.List [] p2)=false:=by rfl):TF X K fs (.Compare e [.NotEq] [.List [] p2] pos) (.bind wl fun l=>.ret (!l.isEmpty)):=⟨PT.imp (pY (vJ K hK (by omega)) h.p Nk.p hk) fun σ H Q q=>jb (neg:=true) h σ H _ (Wh (w:=.bind wl fun l=>.ret (.bl (!l.isEmpty))) σ H Q q)⟩
def wC:List PV->W (List Int)
 | []=>.ret []
 | .int i::r=>.bind (wC r) fun l=>.ret (i::l)
 | _=>.fail
theorem sd:∀{l:List PV}{Q:List Int->Prop},(wC l).run Q->∃ns:List Int,l=ns.map PV.int/\Q ns
 | [],Q,h=>⟨[],rfl,h⟩
 | .int b::r,Q,h=>by
  obtain⟨bs,e,q⟩:=sd (l:=r) h;exact⟨b::bs,by rw [e];rfl,q⟩
 | .aQ::r,Q,h=>h.elim
 | .bl _::r,Q,h=>h.elim
 | .str _::r,Q,h=>h.elim
 | .tup _::r,Q,h=>h.elim
 | .ref _::r,Q,h=>h.elim
 | .ty _::r,Q,h=>h.elim
 | .cl _::r,Q,h=>h.elim
@[simp] theorem se:∀bs:List Int,wC (bs.map PV.int)=.ret bs
 | []=>rfl
 | b::bs=>by
  show W.bind (wC (bs.map PV.int)) _=_;rw [se bs];rfl
end
end
section
open PySem PySem.Spec PyProof.Rows L2 PL
variable {K:Ab}
abbrev b2 (m:M2) (wa wb:W PV):W PV:=.bind wa fun x=>.bind wb fun y=>of2 m x y
abbrev t2 (m:M2) (wa wb:W PV):W Bool:=.bind wa fun x=>.bind wb fun y=>.bind (of2 m x y) asB
abbrev c1 (m:zB) (w:W PV):W PV:=.bind w fun x=>ud m [x]
abbrev bh (wl:W (List PV)) (wb:W PV):W PV:=.bind wl fun l=>.bind wb fun y=>Qb l y
abbrev vm (a b:W Bool):W Bool:=.bind a fun k=>if k=true then b else .ret false
abbrev tor (a b:W Bool):W Bool:=.bind a fun k=>if k=true then .ret true else b
abbrev vi (a:W Bool):W Bool:=.bind a fun k=>.ret (!k)
abbrev fh {α:Type} (t:W Bool) (a b:W α):W α:=.bind t fun k=>if k=true then a else b
section
variable {X:Cx}{a b c e o iter tg:Expr}{body rest:List Stmt}{pos p:Pos}{fs:aY}{S T T2:Type}{hd:S->aY}{s0:S}{w we:W PV}{wl:W (List PV)}{wt:PV->W T2}{is:List Nat}{eu:S->T2->aY}{k:S->W T}{out:T->End}{x:Bool}
def SF.GZ {i:Nat}{f:PV->S->W S} (hp:PassesOwn (model X.prog X.w) X.A X.env X.xe) (hc:X.calm=true) (hi:u7 X K fs tg iter wl) (hl:kf fs (hd s0)) (hg:PG X tg (dY i)) (hb:∀s p,SF X K false ((hd s).set i (some (.val p))) body (f p s) fun s'=>.nc (hd s')) (hr:∀s,SF X K x (hd s) rest (k s) out) (hs:∀x,foldedSetIterable iter X.env x=pure x:=by intro _;rfl) :
  SF X K x fs (.For tg iter body [] pos::rest) (.bind wl fun l=>.bind (eE l s0 f) k) out:=SF.for (wt:=.ret) (wb:=fun p s=>f p s) hp hc hi hl (fun s=>ZZ hg) (fun _ _=>rfl) hb hr hs
def SF.We {wb:T2->S->W S} (hp:PassesOwn (model X.prog X.w) X.A X.env X.xe) (hc:X.calm=true) (hi:u7 X K fs tg iter wl) (hl:kf fs (hd s0)) (hg:∀s,GF X K (hd s) tg is wt (eu s)) (hb:∀s t,SF X K false (eu s t) body (wb t s) fun s'=>.nc (hd s')) (hr:∀s,SF X K x (hd s) rest (k s) out) (hs:∀x,foldedSetIterable iter X.env x=pure x:=by intro _;rfl) :
  SF X K x fs (.For tg iter body [] pos::rest) (.bind wl fun l=>.bind (eE l s0 fun p s=>.bind (wt p) fun t=>wb t s) k) out:=SF.for hp hc hi hl hg (fun _ _=>rfl) hb hr hs
def SF.Sw {i:Nat}{R:Type}{inj:R->T}{f:PV->S->W (Lp S R)} (hp:PassesOwn (model X.prog X.w) X.A X.env X.xe) (hc:X.calm=true) (hi:u7 X K fs tg iter wl) (hl:kf fs (hd s0)) (hg:PG X tg (dY i)) (ho:∀t,(out (inj t)).Nv) (hb:∀s p,SF X K false ((hd s).set i (some (.val p))) body (f p s) (lpE hd fun r=>out (inj r))) (hr:∀s,SF X K x (hd s) rest (k s) out) (hs:∀x,foldedSetIterable iter X.env x=pure x:=by intro _;rfl) :
  SF X K x fs (.For tg iter body [] pos::rest) (.bind wl fun l=>.bind (FL.nQ l s0 f) (J4 k inj)) out:=SF.nQ (wt:=.ret) (wb:=fun p s=>f p s) hp hc hi hl (fun s=>ZZ hg) (fun _ _=>rfl) ho hb hr hs
def SF.Yv {fs3:T2->aY}{k:T2->W T} (he:EF X K fs e we) (hg:GF X K fs tg is wt fs3) (hr:∀t,SF X K x (fs3 t) rest (k t) out) (hs:swapsWithSole [tg] e pos.line X.env=pure false:=by rfl) (hw:swappedStores [tg] e X.env=pure none:=by rfl)
  (h1:(assignEach [tg] X.env).map (·.2)=[assign tg X.env]:=by rfl):SF X K x fs (.Assign [tg] e pos::rest) (.bind we fun v=>.bind (wt v) k) out:=SF.step (F0 he.p hg.p hs hw h1) fun D σ H ⟨sr,q⟩=>
 ⟨sr,we.mono (fun v q1 u H1 g1 s1 v1=>⟨v,s1,v1,(wt v).mono (fun t q2 us g2 s2=>⟨_,k t,hr t,s2,(k t).mono (fun t' q3=>q3.go (g1.f.trans g2) sr s2) q2⟩) q1⟩) q⟩
def vk (v:PV):W PV:=.gB (v.dat=true) (.ret v)
def Qu (l:List PV):W (List PV):=.gB (yH l=true) (.ret l)
mutual
theorem VR.k7 {ι:List Addr}{H H':Hp} (t:∀p vs,H p=some (.tup vs)->H' p=some (.tup vs)):∀{v:V}{q:PV},VR K ι H v q->q.dat=true->VR K [] H' v q
 | _,_,.aQ,_=>.aQ
 | _,_,.bl b,_=>.bl b
 | _,_,.int i,_=>.int i
 | _,_,.str x,_=>.str x
 | _,_,.ty n,h=>by rw [PV.dat] at h;cases h
 | _,_,.tup e r,h=>.tup (t _ _ e) (aM.k7 t r (by rw [PV.dat] at h;exact h))
 | _,_,.cl e r,h=>by rw [PV.dat] at h;cases h
 | _,_,.dk _ _ _,h=>by rw [PV.dat] at h;cases h
 | _,_,.dt _ _ _,h=>by rw [PV.dat] at h;cases h
 | _,_,.ref e,h=>by rw [PV.dat] at h;cases h
theorem aM.k7 {ι:List Addr}{H H':Hp} (t:∀p vs,H p=some (.tup vs)->H' p=some (.tup vs)):∀{v:List V}{q:List PV},aM K ι H v q->yH q=true->aM K [] H' v q
 | _,_,.nil,_=>.nil
 | _,_,.cons r s,h=>by
  rw [yH,AM] at h;exact .cons (VR.k7 t r h.1) (aM.k7 t s h.2)
end
def bor {pins:List (Addr×Obj)}{s:Shared}{σ:L2.St}{H:Hp}{i:Nat}{q0:Option Addr}{l:List PV} (I:Inv X pins σ H s) (sr:aW K H σ fs) (hs:fs[i]?=some (some (.ol q0 l))):∃a ws ob,Inv X pins σ (upd H a (.cV ob (.lst ws))) s/\aW K (upd H a (.cV ob (.lst ws))) σ (fs.set i (some (.val (.cl l))))/\
  ∀σ' s' H1,Inv X pins σ' H1 s'->cW σ (fs.set i (some (.val (.cl l)))) (upd H a (.cV ob (.lst ws))) H1->aW K H1 σ (fs.set i (some (.val (.cl l))))->Inv X pins σ' (upd H1 a (.lst ws)) s'/\cW σ fs H (upd H1 a (.lst ws))/\aW K (upd H1 a (.lst ws)) σ fs/\(∀p vs,H1 p=some (.tup vs)->upd H1 a (.lst ws) p=some (.tup vs))/\∀p vs,p≠a->H1 p=some (.lst vs)->upd H1 a (.lst ws) p=some (.lst vs):=by
 obtain⟨a,ws,e1,h1,r1⟩:=de sr hs;obtain⟨ob,I2⟩:=I.uS h1;have tk:=nj (K:=K) (.cV ob (.lst ws)) h1;have h0:∀o u,X.H₀ a≠some (.cV o u):=fun o u z=>by
  have:=I.base.uy a o u z;rw [h1] at this;cases this
 refine⟨a,ws,ob,I2,⟨by simp [sr.len],fun j t z=>?_,fun j k t u b1 b2 b z1 z2 o1 o2=>?_⟩,fun σ' s' H1 J g s1=>?_⟩
 ·rcases aZ z with⟨rfl,rfl⟩ | ⟨n,z⟩
  ·exact⟨_,e1,.inl ⟨_,rfl,.cl (.inl ⟨ob,aR⟩) (aM.tk tk r1)⟩⟩
  ·obtain⟨u,k1,k2⟩:=sr.at' j t z;exact⟨u,k1,k2.mono tk (fun x b o eb ow hb zz=>by
    subst eb;rw [ay (fun y=>by subst y;exact n (sr.nd j i t _ x b b z hs ow rfl k1 e1 hb (.inl rfl)))];exact zz)⟩
 ·rcases aZ z1 with⟨rfl,rfl⟩ | ⟨n1,z1⟩
  ·cases o1
  ·rcases aZ z2 with⟨rfl,rfl⟩ | ⟨n2,z2⟩
   ·cases o2
   ·exact sr.nd j k t u b1 b2 b z1 z2 o1 o2
 ·have pf:∀φ b,fx σ (fs.set i (some (.val (.cl l)))) φ b->fx σ fs φ b:=fun φ b ⟨j,z1,z3⟩=>by
   rcases aZ z1 with⟨_,z⟩ | ⟨n,z1⟩
   ·cases z
   ·exact⟨j,z1,z3⟩
  have npa:∀φ,¬fx σ fs φ a:=fun φ ⟨j,z1,z3⟩=>by
   have:=sr.nd j i _ _ a a a z1 hs rfl rfl z3 e1 (.inl rfl) (.inl rfl);subst this;rw [hs] at z1;cases z1
  have e2:=g.keep a _ aR fun φ p=>npa φ (pf φ a p);have hk:=zd J.bG e2;have ge:cW σ fs H (upd H1 a (.lst ws)):=by
   refine⟨fun b o z n=>?_,fun b z=>?_⟩
   ·by_cases c:b=a
    ·subst c;rw [h1] at z;cases z;exact aR
    ·rw [ay c];exact g.keep b o (by rw [ay c];exact z) fun φ p=>n φ (pf φ b p)
   ·by_cases c:b=a
    ·subst c;rw [aR] at z;cases z
    ·rw [ay c] at z;have:=g.there b z;rw [ay c] at this;exact this
  refine⟨J.abo e2 h0 (hk a _ aR) hk,ge,⟨sr.len,fun j t z=>?_,sr.nd⟩,fun p vs z=>?_,fun p vs n z=>by rw [ay n];exact z⟩
  ·obtain⟨u,k1,k2⟩:=sr.at' j t z;refine⟨u,k1,?_⟩;by_cases c:∃φ,t=.iC φ
   ·obtain⟨φ,rfl⟩:=c;have ji:j≠i:=fun y=>by subst y;rw [hs] at z;cases z
    rcases k2 with⟨v,y,_⟩ | ⟨b,rfl,_⟩
    ·cases y
    ·obtain⟨vs,y1,y2⟩:=s1.ownAt (t:=.iC φ) (i:=j) (by rw [aJ ji];exact z) rfl k1;refine .inr ⟨b,rfl,vs,?_,y2⟩;rw [ay (fun y=>by subst y;exact npa φ ⟨j,z,k1⟩)];exact y1
   ·refine k2.mono (ge.eY sr) (fun x b o eb ow hb zz=>ge.keep b o zz fun φ ⟨j',p1,p3⟩=>?_);subst eb;have:=sr.nd j j' t _ x b b z p1 ow rfl k1 p3 hb (.inl rfl);subst this;rw [z] at p1;cases p1;exact c ⟨φ,rfl⟩
  ·rw [ay (fun y=>by subst y;rw [e2] at z;cases z)];exact z
def XX (i:Nat) {q0:Option Addr}{l:List PV} (hs:fs[i]?=some (some (.ol q0 l))) (h:EF X K (fs.set i (some (.val (.cl l)))) e w):EF X K fs e (.bind w vk):=⟨fun pins s σ H Q I ⟨sr,q⟩=>by
 obtain⟨a,ws,ob,I2,s2,back⟩:=bor I sr hs;refine bD (h.p pins s σ _ (fun u H1=>∃v,cW σ (fs.set i (some (.val (.cl l)))) (upd H a (.cV ob (.lst ws))) H1/\aW K H1 σ (fs.set i (some (.val (.cl l))))/\VR K [] H1 u v/\v.dat=true/\∀u H',cW σ fs H H'->aW K H' σ fs->VR K [] H' u v->Q u H') I2 ⟨s2,w.mono (fun v q1 u H1 g1 s1 v1=>⟨v,g1,s1,v1,q1.1,q1.2⟩) q⟩) fun u s1 ⟨x,H1,I1,r1,v,g1,UJ,v1,d,q1⟩=>?_;obtain⟨I3,g3,s3,t3,_⟩:=back σ s1 H1 I1 g1 UJ;exact⟨x,_,I3,r1,q1 x _ g3 s3 (VR.k7 t3 v1 d)⟩⟩
end
end
section
open PySem PySem.Spec PyProof.Rows L2 PL
variable {K:Ab}
def abK (K:Ab) (m:List PV->List PV->W (PV×List PV)):Sp:=fun vs H Q _=>∃a TR ws lo l,vs=.ref a::TR/\H a=some (.lst ws)/\aM K [] H ws lo/\aM K [] H TR l/\(m lo l).run fun t=>∀u t6 H',qT a H H'->(∀b,H' b=none->H b=none)->H' a=some (.lst t6)->aM K [] H' t6 t.2->VR K [] H' u t.1->Q u H'
section
variable {P:Program}{w:World}{mg:Str->Option Value}{base:Heap}{x qual:Str}{st:Stmt}{f:Addr}{fd:FuncData}{N ps:List Str}{k n:Nat}{ks:List AK}
def Tj (a:Addr) (lo l:List PV) (n:Nat):aY:=some (.ol (some a) lo)::(l.map fun v=>some (SL.val v))++Al (n-1-l.length) none
def aM.slot {H:Hp}{vs:List V}{l:List PV} (r:aM K [] H vs l) {i:Nat}{s:SL} (h:(l.map fun v=>some (SL.val v))[i]?=some (some s)):∃u v,vs[i]?=some u/\s=.val v/\VR K [] H u v:=by
 rw [Ai] at h;cases e:l[i]? with
 | none=>rw [e] at h;cases h
 | some v=>
  rw [e] at h;obtain⟨u,h1,h2⟩:=r.get e;cases h;exact⟨u,v,h1,rfl,h2⟩
def fnO {m:List PV->T7 (PV×List PV) n} (Fn:T6 K x qual st f fd) (S:ar N ps (aj st)) (hn:n+1=ps.length)
  (cert:∀(a:Addr) (lo l:List PV),l.length=n->∀(gE:Value) (A:Around) (outer:List Env) (s:Shared) (H:Hp) (E:XK),fv k (A.deeper (envOfC qual (aj st) s.heap.objs.size f gE))->SF (xo xW P w K mg base N qual (aj st) f gE A outer s H E).Vp K false (Tj a lo l N.length) (dR st) (da n (m lo) l) fun t=>.ro t.1 a t.2) :
  iQ P w K mg base xW (k+1) f fd ps (abK K fun lo l=>da n (m lo) l):=by
 refine Fn.ok S (fun vs H Q E h=>?_) (fun gE A outer s H vs Q E hr h=>?_)
 ·obtain⟨a,TR,ws,lo,l,rfl,_,_,r,q⟩:=h;rw [Ao,r.length,kj q];exact hn
 obtain⟨a,TR,ws,lo,l,rfl,ha,ju,r,q⟩:=h;have hl:=kj q;have hr2:=r.length;have V4:∀{i:Nat}{s:SL},(Tj a lo l N.length)[i]?=some (some s)->(i=0/\s=.ol (some a) lo)\/∃j u v,i=j+1/\TR[j]?=some u/\s=.val v/\VR K [] H u v:=fun {i s} e=>by
  unfold Tj at e;cases i with
  | zero=>simp at e;exact .inl ⟨rfl,e.symm⟩
  | succ j=>
   rw [List.cons_append,List.getElem?_cons_succ] at e;by_cases c:j < l.length
   ·rw [AD (by simpa using c)] at e;obtain⟨u,v,h1,h2,h3⟩:=aM.slot r e;exact .inr ⟨j,u,v,rfl,h1,h2,h3⟩
   ·rw [AB (by simpa using c),Bu] at e
    split at e <;> cases e
 have sr:aW K H (L2.start N (.ref a::TR)) (Tj a lo l N.length):=by
  refine⟨?_,fun i s e=>?_,fun i j s t x y b e1 e2 o1 o2 q1 q2 _ _=>?_⟩
  ·unfold L2.start Tj;rw [Ae,Af,A8,Ae,Ao,Ao,Af,A8];omega
  ·rcases V4 e with⟨rfl,rfl⟩ | ⟨j,u,v,rfl,h1,rfl,h3⟩
   ·exact⟨.ref a,nk rfl,.inr ⟨a,rfl,fun b z=>Option.some.inj z,ws,ha,ju⟩⟩
   ·exact⟨u,nk (by simpa using h1),.inl ⟨v,rfl,h3⟩⟩
  ·rcases V4 e1 with⟨rfl,rfl⟩ | ⟨j1,u,v,rfl,h1,rfl,h3⟩
   ·rcases V4 e2 with⟨rfl,rfl⟩ | ⟨j1,u,v,rfl,h1,rfl,h3⟩
    ·rfl
    ·cases o2
   ·cases o1
 refine⟨_,(cert a lo l hl gE A outer s H E hr).p,sr,(da n (m lo) l).mono (fun t q1 u σ' bH H' g s' ho rv=>?_) q⟩;obtain⟨i,e⟩:=ho;obtain⟨u',e',r'⟩:=s'.at' i _ e;rcases r' with⟨v,z,_⟩ | ⟨b,rfl,hb,t6,h1,h2⟩
 ·cases z
 have hba:=hb a rfl;subst hba;refine q1 u t6 H' (fun c o nc e=>(g.keep c o e fun z=>?_).1) g.there h1 h2 rv;obtain⟨j,t',x,z1,z2,z3,z4⟩:=z;rcases V4 z1 with⟨rfl,rfl⟩ | ⟨j1,u,v,rfl,_,rfl,_⟩
 ·have:=yR z3;simp at this;rcases z4 with rfl | z4
  ·exact nc this.symm
  ·cases z4
 ·cases z2
def dW (G:List Int->Prop):List V->Prop:=fun ws=>∃ns:List Int,ws=ns.map V.int/\G ns
def YT {G:List Int->Prop}{m:List PV->List PV->W (PV×List PV)}{mp:List PV->W PV} (F:iQ P w K mg base xW k f fd ps (abK K m)) (hm:∀ns l Q,G ns->(mp l).run Q->(m (ns.map PV.int) l).run fun t=>Q t.1/\∃Nc:List Int,t.2=Nc.map PV.int/\G Nc) :
  iQ P w K mg base xW k f fd ps (gY K (.p (dW G)::Al n .v) mp):=F.imp fun vs H Q E h=>by
 obtain⟨l,ha,q⟩:=h;cases ha with
 | @p a φ ws vs ks l e r t=>
  obtain⟨ns,rfl,hG⟩:=r;have tv:∀{n:Nat}{vs:List V}{l:List PV},jG K H vs (Al n .v) l->aM K [] H vs l:=by
   intro n
   induction n with
   | zero=>intro vs l h;cases h;exact .nil
   | succ n ih=>intro vs l h;cases h with | v r t=>exact .cons r (ih t)
  refine⟨a,vs,ns.map V.int,ns.map PV.int,l,rfl,e,qz _ _ ns,tv t,(m _ _).mono (fun t q1 u t6 H' sx hth e' r' rv=>?_) (hm ns l _ hG q)⟩;obtain⟨q1,Nc,et,hG'⟩:=q1;rw [et] at r';have:=qx r';subst this;refine q1 u H' ⟨fun b o eb nb=>sx b o (fun z=>?_) eb,hth,fun b φ p=>?_⟩ rv
  ·subst z;exact nb _ ⟨0,rfl,rfl⟩
  ·obtain⟨i,e1,e2⟩:=p;cases i with
   | zero=>simp at e1 e2;subst e1;subst e2;exact⟨_,e',Nc,rfl,hG'⟩
   | succ i=>
    simp at e1;rw [Bu] at e1
    split at e1 <;> simp at e1
end
section
variable {X:Cx}{TU:List Stmt}{fs:aY}{T:Type}{w:W T}{out:T->End}{x:Bool}
def ab9 (G:List Int->Prop) (l:List PV) (w:W T):W T:=.gB (∃ns:List Int,l=ns.map PV.int/\G ns) w
def SF.iC (i:Nat) {l:List PV}{G:List Int->Prop} (hs:fs[i]?=some (some (.ol none l))) (hr:SF X K x (fs.set i (some (.iC (dW G)))) TU w out):SF X K x fs TU (ab9 G l w) out:=⟨fun pins s σ H D I ⟨sr,q⟩=>by
 obtain⟨⟨ns,el,hG⟩,q⟩:=q;obtain⟨a,ws,e1,h1,r1⟩:=de sr hs;subst el;have:=qx r1;subst this;obtain⟨s2,g2⟩:=oB (t':=.iC (dW G)) sr hs rfl (by simp) e1 (fun _ _ _ z=>z:qT a H H) fun tk=>⟨_,h1,ns,rfl,hG⟩;exact hr.p pins s σ H D I ⟨s2,w.mono (fun t q2=>q2.go g2 sr s2) q⟩⟩
end
end
section
open PySem PySem.Spec PyProof.Rows L2 PL
variable {K:Ab}
abbrev chB (m m':M2) (wa wb wc:W PV):W PV:=.bind wa fun x=>.bind wb fun y=>.bind (of2 m x y) fun z=>m7 z (.bind wc fun w=>of2 m' y w)
abbrev chT (m m':M2) (wa wb wc:W PV):W Bool:=.bind wa fun x=>.bind wb fun y=>.bind (of2 m x y) fun z=>.bind (m7 z (.bind wc fun w=>of2 m' y w)) asB
abbrev Md (wa wb:W PV):W PV:=.bind wa fun x=>PQ x wb
abbrev orB (wa wb:W PV):W PV:=.bind wa fun x=>orW x wb
abbrev Pf (wl:W (List PV)):W PV:=.bind wl fun l=>.ret (.cl l)
abbrev J0 (t:W Bool) (w:W PV):W (Option PV):=.bind t fun k=>if k=true then .bind w fun v=>.ret (some v) else .ret none
section
variable {X:Cx}{c e elt tg iter:Expr}{es:List Expr}{pos p:Pos}{fs:aY}{k k' n:Nat}{ps:List Str}{x:Str}{ks:List AK}{W':W PV}{WL:W (List PV)}
def Wq {m:List PV->W PV}{B:(List PV->W PV)->W PV} (G:WZ X.prog X.w X.K X.mg X.base x k ps (gY K ks m)) (hr:fv k' X.A) (hk:k<=k') (hg:Gl X x) (ha:AF X K fs (e::es) ks B) (hW:W'=B m) (qA:(x==("__debug__":Str))=false:=by decide)
  (he:starEach (e::es) X.env=(false,eval e X.env)::starEach es X.env:=by rfl) (eg:(backTo pos (starEach es X.env)).any (·.1)=false:=by rfl):EF X K fs (.Call (.Name x p) (e::es) [] pos) W':=hW▸aac G hr hk hg ha qA he eg
def VB {m:List PV->W (List PV)}{B:(List PV->W (List PV))->W (List PV)} (G:WZ X.prog X.w X.K X.mg X.base x k ps (jJ K ks m)) (hr:fv k' X.A) (hk:k<=k') (hg:Gl X x) (ha:AF X K fs (e::es) ks B) (hW:WL=B m) (qA:(x==("__debug__":Str))=false:=by decide)
  (he:starEach (e::es) X.env=(false,eval e X.env)::starEach es X.env:=by rfl) (eg:(backTo pos (starEach es X.env)).any (·.1)=false:=by rfl):LF X K fs (.Call (.Name x p) (e::es) [] pos) WL:=hW▸Zu G hr hk hg ha qA he eg
def aU {x1}{B:(List PV->W PV)->W PV} (h:AF X K fs es (Al n .v) B) (hW:W'=B fun l=>.ret (.tup l)) (hn:n<=1000:=by decide):EF X K fs (.Tuple es x1 pos) W':=hW▸adG h hn
def a9 {B:(List PV->W (List PV))->W (List PV)} (h:AF X K fs es (Al n .v) B) (hW:WL=B fun l=>.ret l) (hn:n<=1000:=by decide):LF X K fs (.List es pos) WL:=hW▸Xr h hn
variable {sc:Scope}{N':List Str}{ix:List (Option Nat)}{wl:W (List PV)}{T2:Type}{wt:PV->W T2}{is:List Nat}{eu:T2->aY}{tf:T2->W Bool}{te:T2->W PV}
def jv {i:Nat}{f:PV->W PV} (hc:X.calm=true) (S:aE X.env.scope X.N sc N' ix) (hi:u7 X K fs tg iter wl) (hg:∀cl C s2 H2 fp,PG (gU X sc N' cl C s2 H2 fp) tg (dY i)) (he:∀cl C s2 H2 fp t,EF (gU X sc N' cl C s2 H2 fp) K ((bU ix fs).set i (some (.val t))) elt (f t)) (h0:ix[i]?=some none) (hs:∀x,foldedSetIterable iter X.env x=pure x:=by intro _;rfl) :
  LF X K fs (.ListComp elt [⟨tg,iter,[],0⟩] sc pos) (.bind wl fun l=>cp l f):=
 have h1:(bU ix fs)[i]?=some none:=by unfold bU;rw [Ai,h0];rfl
 Xq hc S hi (fun cl C s2 H2 fp=>ZZ (hg cl C s2 H2 fp)) he (fun _=>rfl) (RI h1) (fun j hj=>by rw [Bw] at hj;subst hj;exact h0) hs
def IQ {i:Nat}{tf:PV->W Bool}{te:PV->W PV} (hc:X.calm=true) (S:aE X.env.scope X.N sc N' ix) (hi:u7 X K fs tg iter wl) (hg:∀cl C s2 H2 fp,PG (gU X sc N' cl C s2 H2 fp) tg (dY i)) (hf:∀cl C s2 H2 fp t,TF (gU X sc N' cl C s2 H2 fp) K ((bU ix fs).set i (some (.val t))) c (tf t)) (he:∀cl C s2 H2 fp t,EF (gU X sc N' cl C s2 H2 fp) K ((bU ix fs).set i (some (.val t))) elt (te t)) (h0:ix[i]?=some none) (hs:∀x,foldedSetIterable iter X.env x=pure x:=by intro _;rfl) :
  LF X K fs (.ListComp elt [⟨tg,iter,[c],0⟩] sc pos) (.bind wl fun l=>lR l fun p=>J0 (tf p) (te p)):=
 have h1:(bU ix fs)[i]?=some none:=by unfold bU;rw [Ai,h0];rfl
 Zt (wt:=.ret) (tf:=tf) (te:=te) hc S hi (fun cl C s2 H2 fp=>ZZ (hg cl C s2 H2 fp)) (fun cl C s2 H2 fp t=>G0 (hf cl C s2 H2 fp t)) he (fun _=>rfl) (RI h1) (fun j hj=>by rw [Bw] at hj;subst hj;exact h0) hs
def Lb (hc:X.calm=true) (S:aE X.env.scope X.N sc N' ix) (hi:u7 X K fs tg iter wl) (hg:∀cl C s2 H2 fp,GF (gU X sc N' cl C s2 H2 fp) K (bU ix fs) tg is wt eu) (he:∀cl C s2 H2 fp t,EF (gU X sc N' cl C s2 H2 fp) K (eu t) elt (te t))
  (hl:yM is (bU ix fs) eu/\∀t,kf (eu t) (bU ix fs)) (yD:∀j∈is,ix[j]?=some none) (hs:∀x,foldedSetIterable iter X.env x=pure x:=by intro _;rfl) :
  LF X K fs (.ListComp elt [⟨tg,iter,[],0⟩] sc pos) (.bind wl fun l=>cp l fun p=>.bind (wt p) te):=Xq hc S hi hg he (fun _=>rfl) hl yD hs
def Xt (hc:X.calm=true) (S:aE X.env.scope X.N sc N' ix) (hi:u7 X K fs tg iter wl) (hg:∀cl C s2 H2 fp,GF (gU X sc N' cl C s2 H2 fp) K (bU ix fs) tg is wt eu) (hf:∀cl C s2 H2 fp t,TF (gU X sc N' cl C s2 H2 fp) K (eu t) c (tf t)) (he:∀cl C s2 H2 fp t,EF (gU X sc N' cl C s2 H2 fp) K (eu t) elt (te t))
  (hl:yM is (bU ix fs) eu/\∀t,kf (eu t) (bU ix fs)) (yD:∀j∈is,ix[j]?=some none) (hs:∀x,foldedSetIterable iter X.env x=pure x:=by intro _;rfl) :
  LF X K fs (.ListComp elt [⟨tg,iter,[c],0⟩] sc pos) (.bind wl fun l=>lR l fun p=>.bind (wt p) fun t=>J0 (tf t) (te t)):=Zt hc S hi hg (fun cl C s2 H2 fp t=>G0 (hf cl C s2 H2 fp t)) he (fun _=>rfl) hl yD hs
variable {rest:List Stmt}{T:Type}{out:T->End}{x0:Bool}{kk:List PV->W T}{i:Nat}{y:Str}{px lQ:Pos}
def SF.Ko {j:Nat}{tf:PV->W Bool}{te:PV->W PV} (hc:X.calm=true) (hN:X.N.Nodup) (Jg:X.N[i]?=some y) (hx:X.env.scope.names.lookup y=some .local) (S:aE X.env.scope X.N sc N' ix) (hi:u7 X K fs tg iter wl) (hg:∀cl C s2 H2 fp,PG (gU X sc N' cl C s2 H2 fp) tg (dY j)) (hf:∀cl C s2 H2 fp t,TF (gU X sc N' cl C s2 H2 fp) K ((bU ix fs).set j (some (.val t))) c (tf t)) (he:∀cl C s2 H2 fp t,EF (gU X sc N' cl C s2 H2 fp) K ((bU ix fs).set j (some (.val t))) elt (te t)) (h0:ix[j]?=some none) (hr:∀l,SF X K x0 (fs.set i (some (.ol none l))) rest (kk l) out)
  (uu:swapsWith (.ListComp elt [⟨tg,iter,[c],0⟩] sc pos) (some (.Name y px)) lQ.line X.env=pure true:=by rfl) (hs:∀x,foldedSetIterable iter X.env x=pure x:=by intro _;rfl) :
  SF X K x0 fs (.Assign [.Name y px] (.ListComp elt [⟨tg,iter,[c],0⟩] sc pos) lQ::rest) (.bind (.bind wl fun l=>lR l fun p=>J0 (tf p) (te p)) kk) out:=
 have h1:(bU ix fs)[j]?=some none:=by unfold bU;rw [Ai,h0];rfl
 SF.Xe (wt:=.ret) (tf:=tf) (te:=te) hc hN Jg hx S hi (fun cl C s2 H2 fp=>ZZ (hg cl C s2 H2 fp)) (fun cl C s2 H2 fp t=>G0 (hf cl C s2 H2 fp t)) he (fun _=>rfl) (RI h1) (fun m hj=>by rw [Bw] at hj;subst hj;exact h0) hr uu hs
def Vt {wt:PV->W T2}{te:T2->W PV}:(fun l=>cp l fun p=>.bind (wt p) te)=fun l=>lR l fun p=>.bind (wt p) fun t=>.bind (.ret true) fun k=>if k=true then .bind (te t) fun v=>.ret (some v) else .ret none:=funext fun l=>by
 rw [Gh];rfl
def SF.UE (hc:X.calm=true) (hN:X.N.Nodup) (Jg:X.N[i]?=some y) (hx:X.env.scope.names.lookup y=some .local) (S:aE X.env.scope X.N sc N' ix) (hi:u7 X K fs tg iter wl) (hg:∀cl C s2 H2 fp,GF (gU X sc N' cl C s2 H2 fp) K (bU ix fs) tg is wt eu) (he:∀cl C s2 H2 fp t,EF (gU X sc N' cl C s2 H2 fp) K (eu t) elt (te t))
  (hl:yM is (bU ix fs) eu/\∀t,kf (eu t) (bU ix fs)) (yD:∀j∈is,ix[j]?=some none) (hr:∀l,SF X K x0 (fs.set i (some (.ol none l))) rest (kk l) out)
  (uu:swapsWith (.ListComp elt [⟨tg,iter,[],0⟩] sc pos) (some (.Name y px)) lQ.line X.env=pure true:=by rfl) (hs:∀x,foldedSetIterable iter X.env x=pure x:=by intro _;rfl) :
  SF X K x0 fs (.Assign [.Name y px] (.ListComp elt [⟨tg,iter,[],0⟩] sc pos) lQ::rest) (.bind (.bind wl fun l=>cp l fun p=>.bind (wt p) te) kk) out:=by
 rw [Vt];exact SF.Xe (tf:=fun _=>.ret true) hc hN Jg hx S hi hg (fun _ _ _ _ _ _=>Sx) he (fun p=>rfl) hl yD hr uu hs
def SF.pT {j:Nat}{f:PV->W PV} (hc:X.calm=true) (hN:X.N.Nodup) (Jg:X.N[i]?=some y) (hx:X.env.scope.names.lookup y=some .local) (S:aE X.env.scope X.N sc N' ix) (hi:u7 X K fs tg iter wl) (hg:∀cl C s2 H2 fp,PG (gU X sc N' cl C s2 H2 fp) tg (dY j)) (he:∀cl C s2 H2 fp t,EF (gU X sc N' cl C s2 H2 fp) K ((bU ix fs).set j (some (.val t))) elt (f t)) (h0:ix[j]?=some none) (hr:∀l,SF X K x0 (fs.set i (some (.ol none l))) rest (kk l) out)
  (uu:swapsWith (.ListComp elt [⟨tg,iter,[],0⟩] sc pos) (some (.Name y px)) lQ.line X.env=pure true:=by rfl) (hs:∀x,foldedSetIterable iter X.env x=pure x:=by intro _;rfl) :
  SF X K x0 fs (.Assign [.Name y px] (.ListComp elt [⟨tg,iter,[],0⟩] sc pos) lQ::rest) (.bind (.bind wl fun l=>cp l f) kk) out:=
 have h1:(bU ix fs)[j]?=some none:=by unfold bU;rw [Ai,h0];rfl
 SF.UE (wt:=.ret) hc hN Jg hx S hi (fun cl C s2 H2 fp=>ZZ (hg cl C s2 H2 fp)) he (RI h1) (fun m hj=>by rw [Bw] at hj;subst hj;exact h0) hr uu hs
end
def XM {P:Program}{w:World}{mg:Str->Option Value}{base:Heap}{f:Addr}{fd:FuncData}{ps:List Str}{k:Nat}{sp:Sp} (h:∀vs H Q E,¬sp vs H Q E):iQ P w K mg base xW k f fd ps sp:=⟨fun vs H Q E q=>(h _ _ _ _ q).elim,fun A outer s H args us vs Q E _ _ _ _ q=>(h _ _ _ _ q).elim⟩
def Ys {ks:List AK}{n:Nat}{m:T7 PV n} (h:∀l Q,l.length=n->¬(da n m l).run Q):∀vs H Q E,¬gY K ks (da n m) vs H Q E:=fun vs H Q E ⟨l,_,q⟩=>h l _ (kj q) q
def Uz {ks:List AK}{n:Nat}{m:T7 (List PV) n} (h:∀l Q,l.length=n->¬(da n m l).run Q):∀vs H Q E,¬jJ K ks (da n m) vs H Q E:=fun vs H Q E ⟨l,_,q⟩=>h l _ (kj q) q
def aX {k:Nat}{A:Around} (hr:fv k A):A.units+200 < cLine:=by have:=hr.un;omega
end
section
open PySem PySem.Spec PyProof.Rows L2 PL
variable {K:Ab}
mutual
def PV.eL:PV->Bool
 | .tup l=>fY l
 | .cl l=>fY l
 | .ref _=>false
 | .ty _=>false
 | .dv _ _=>false
 | _=>true
def fY:List PV->Bool
 | []=>true
 | x::l=>PV.eL x&&fY l
end
mutual
def PV.fZ:PV->Nat
 | .tup l=>eF l+1
 | .cl l=>eF l+1
 | _=>0
def eF:List PV->Nat
 | []=>0
 | x::l=>max (PV.fZ x) (eF l)
end
mutual
def dE:PV->PV->Bool
 | .aQ,.aQ=>true
 | .bl a,.bl b=>a==b
 | .bl a,.int b=>(if a then 1 else 0)==b
 | .int a,.bl b=>a==(if b then 1 else 0)
 | .int a,.int b=>a==b
 | .str a,.str b=>a==b
 | .tup l,.tup m=>hE l m
 | .cl l,.cl m=>hE l m
 | _,_=>false
def hE:List PV->List PV->Bool
 | [],[]=>true
 | x::l,y::m=>dE x y&&hE l m
 | _,_=>false
end
theorem mK:∀{l:List PV}{j:Nat}{x:PV},fY l=true->l[j]?=some x->PV.eL x=true
 | [],_,_,_,e=>by simp at e
 | y::l,0,x,h,e=>by
  simp at e;subst e;rw [fY,AM] at h;exact h.1
 | y::l,j+1,x,h,e=>by
  rw [fY,AM] at h;exact mK h.2 (by simpa using e)
theorem sh:∀{l:List PV}{j:Nat}{x:PV},l[j]?=some x->PV.fZ x<=eF l
 | [],_,_,e=>by simp at e
 | y::l,0,x,e=>by
  simp at e;subst e;rw [eF];omega
 | y::l,j+1,x,e=>by
  have:=sh (l:=l) (j:=j) (x:=x) (by simpa using e);rw [eF];omega
mutual
theorem wX:∀(x:PV),PV.eL x=true->dE x x=true
 | .aQ,_=>by rw [dE]
 | .bl b,_=>by rw [dE];simp
 | .int i,_=>by rw [dE];simp
 | .str i,_=>by rw [dE];simp
 | .tup l,h=>by rw [dE];exact j8 l (by rw [PV.eL] at h;exact h)
 | .cl l,h=>by rw [dE];exact j8 l (by rw [PV.eL] at h;exact h)
 | .ref _,h=>by rw [PV.eL] at h;cases h
 | .ty _,h=>by rw [PV.eL] at h;cases h
 | .dv _ _,h=>by rw [PV.eL] at h;cases h
theorem j8:∀(l:List PV),fY l=true->hE l l=true
 | [],_=>by rw [hE]
 | x::l,h=>by
  rw [fY,AM] at h;rw [hE,wX x h.1,j8 l h.2];rfl
end
def aab (l m:List PV) (j:Nat):Bool:=match l[j]?,m[j]? with | some x,some y=>dE x y | _,_=>true
theorem mL:∀(l m:List PV),((Av (min l.length m.length)).all (aab l m)&&l.length==m.length)=hE l m
 | [],[]=>by rw [hE];rfl
 | [],_::_=>by
  rw [hE]
  ·simp
  ·intros;simp_all
  ·intros;simp_all
 | _::_,[]=>by
  rw [hE]
  ·simp
  ·intros;simp_all
  ·intros;simp_all
 | x::l,y::m=>by
  rw [hE,<- mL l m];have e:min (x::l).length (y::m).length=min l.length m.length+1:=by simp only [Ao];omega
  rw [e,List.range_succ_eq_map,List.all_cons,List.all_map];have e2:((x::l).length==(y::m).length)=(l.length==m.length):=by simp
  rw [e2,Bool.and_assoc];rfl
def Jr {l m:List PV} (h:l.length≠m.length):hE l m=false:=by
 rw [<- mL];have:(l.length==m.length)=false:=by simpa using h
 rw [this,DY]
section
variable {X:Cx}{pins:List (Addr×Obj)}{σ:L2.St}{H:Hp}{s:Shared}
mutual
theorem VR.T4 (I:Inv X pins σ H s):∀{v:V}{x y:PV},VR X.K [] H v x->VR X.K [] H v y->x=y
 | _,_,_,.aQ,h=>by cases h;rfl
 | _,_,_,.bl b,h=>by cases h;rfl
 | _,_,_,.int b,h=>by cases h;rfl
 | _,_,_,.str b,h=>by cases h;rfl
 | _,_,_,.ty b,h=>by cases h;rfl
 | _,_,_,.ref e,h=>by simp at e
 | _,_,_,.tup e r,h=>by
  cases h with
  | tup e' r'=>
   have ee:=I.nh (dD.of e) (dD.of e');subst ee;rw [aM.T4 I r r']
  | ref e=>simp at e
  | cl e' r'=>
   obtain⟨au,_,⟨o,n,h1,h2,_⟩,_⟩:=I.list e'.sq;obtain⟨its',_,⟨o',iR,xZ,_⟩,_⟩:=I.tuple (dD.of e);rw [h1] at iR;cases iR;rw [h2] at xZ;simp at xZ
  | dk e' _ _=>rw [e] at e';cases e'
  | dt e' _ _=>rw [e] at e';cases e'
 | _,_,_,.dk e k r,h=>by
  cases h with
  | dk e' k' r'=>rw [e] at e';cases e';rw [k,k',aM.T4 I r r']
  | dt e' _ _=>rw [e] at e';cases e'
  | ref e=>simp at e
  | tup e' _=>rw [e] at e';cases e'
  | cl e' r'=>
   obtain⟨au,_,⟨o,n,h1,h2,_⟩,_⟩:=I.list e'.sq;obtain⟨_,_,vs,_,o',_,_,iR,xZ,_⟩:=xj I.bG (.inr ⟨_,e⟩);rw [h1] at iR;cases iR;have h3:=xZ.1;rw [h2] at h3;simp at h3
 | _,_,_,.dt e k r,h=>by
  cases h with
  | dt e' k' r'=>rw [e] at e';cases e';rw [k,k',aM.T4 I r r']
  | dk e' _ _=>rw [e] at e';cases e'
  | ref e=>simp at e
  | tup e' _=>rw [e] at e';cases e'
  | cl e' r'=>
   obtain⟨au,_,⟨o,n,h1,h2,_⟩,_⟩:=I.list e'.sq;obtain⟨_,_,vs,_,o',_,_,iR,xZ,_⟩:=xi I.bG (.inr ⟨_,e⟩);rw [h1] at iR;cases iR;have h3:=xZ.1;rw [h2] at h3;simp at h3
 | _,_,_,.cl e r,h=>by
  cases h with
  | dk e' _ _=>
   obtain⟨au,_,⟨o,n,h1,h2,_⟩,_⟩:=I.list e.sq;obtain⟨_,_,vs,_,o',_,_,iR,xZ,_⟩:=xj I.bG (.inr ⟨_,e'⟩);rw [h1] at iR;cases iR;have h3:=xZ.1;rw [h2] at h3;simp at h3
  | dt e' _ _=>
   obtain⟨au,_,⟨o,n,h1,h2,_⟩,_⟩:=I.list e.sq;obtain⟨_,_,vs,_,o',_,_,iR,xZ,_⟩:=xi I.bG (.inr ⟨_,e'⟩);rw [h1] at iR;cases iR;have h3:=xZ.1;rw [h2] at h3;simp at h3
  | cl e' r'=>
   obtain⟨au,k,⟨o,n,h1,h2,h3,h4⟩,_⟩:=I.list e.sq;obtain⟨its',k',⟨o',n',iR,xZ,LG,ZW⟩,_⟩:=I.list e'.sq;rw [h1] at iR;cases iR;rw [h4] at ZW;have:au=its':=by injection ZW with a b;simpa using a
   subst this;have ee:=Vals.inj k k';subst ee;rw [aM.T4 I r r']
  | ref e=>simp at e
  | tup e' r'=>
   obtain⟨au,_,⟨o,n,h1,h2,_⟩,_⟩:=I.list e.sq;obtain⟨its',_,⟨o',iR,xZ,_⟩,_⟩:=I.tuple (dD.of e');rw [h1] at iR;cases iR;rw [h2] at xZ;simp at xZ
theorem aM.T4 (I:Inv X pins σ H s):∀{v:List V}{x y:List PV},aM X.K [] H v x->aM X.K [] H v y->x=y
 | _,_,_,.nil,h=>by cases h;rfl
 | _,_,_,.cons r t,h=>by
  cases h with
  | cons r' t'=>rw [VR.T4 I r r',aM.T4 I t t']
end
structure Cmp (A:Around) (s:Shared) (w w':Value) (b:Bool):Prop where
 rc:SeqAt.RcAt A s w w' b
 ne:SeqAt.RcNeAt A s w w' (!b)
 eq:Eu A s w w' b
def XT (I:Inv X pins σ H s) {A:Around}{vs ws:List V}{l m:List PV}{au its':List Value} (r:Vals vs au) (r':Vals ws its') (r1:aM X.K [] H vs l) (r2:aM X.K [] H ws m)
  (ih:∀(j:Nat) (x y:PV) (v v':V) (w w':Value),l[j]?=some x->m[j]?=some y->VR X.K [] H v x->VR X.K [] H v' y->RelV v w->RelV v' w'->Eu A s w w' (dE x y)) :
  ∀j (g1:j < au.toArray.size) (g2:j < its'.toArray.size),Eu A s au.toArray[j] its'.toArray[j] (aab l m j):=fun j g1 g2=>by
 have h1:j < au.length:=by simpa using g1
 have h2:j < its'.length:=by simpa using g2
 have hl:j < l.length:=by rw [<- r1.length,r.length];exact h1
 have hm:j < m.length:=by rw [<- r2.length,r'.length];exact h2
 obtain⟨v,v1,v2⟩:=r1.get (Ad hl);obtain⟨v',v1',v2'⟩:=r2.get (Ad hm);obtain⟨u,u1,u2⟩:=r.get v1;obtain⟨u',u1',u2'⟩:=r'.get v1';rw [Ad h1] at u1;rw [Ad h2] at u1';cases u1;cases u1';unfold aab;rw [Ad hl,Ad hm];have:=ih j _ _ v v' _ _ (Ad hl) (Ad hm) v2 v2' u2 u2';simpa using this
def aak (hK:X.K=K) (I:Inv X pins σ H s):∀(n:Nat) (x y:PV) (A:Around) (v v':V) (w w':Value),PV.fZ x<=n->PV.eL x=true->PV.eL y=true->VR K [] H v x->VR K [] H v' y->RelV v w->RelV v' w'->A.units+n+1 < cLine->Cmp A s w w' (dE x y):=by
 subst hK;intro n
 induction n with
 | zero=>
  intro x y A v v' w w' hd dx dy hv R9 r1 r2 hu;cases hv with
  | ref e=>simp at e
  | ty e=>rw [PV.eL] at dx;cases dx
  | dk _ _ _=>rw [PV.eL] at dx;cases dx
  | dt _ _ _=>rw [PV.eL] at dx;cases dx
  | aQ=>
   cases r1;cases R9 with
   | ref e=>simp at e
   | ty e=>rw [PV.eL] at dy;cases dy
   | dk _ _ _=>rw [PV.eL] at dy;cases dy
   | dt _ _ _=>rw [PV.eL] at dy;cases dy
   | aQ=>
    cases r2;rw [dE];exact⟨SeqAt.RcAt.none_none ,SeqAt.RcNeAt.none_none ,Dn _⟩
   | bl b=>
    cases r2;rw [dE] <;> try (intros;simp_all;done)
    exact⟨SeqAt.RcAt.none_bool b,SeqAt.RcNeAt.none_bool b,Eu.none_bool b⟩
   | int b=>
    obtain⟨t,rfl⟩:=r2;rw [dE] <;> try (intros;simp_all;done)
    exact⟨SeqAt.RcAt.none_int b t,SeqAt.RcNeAt.none_int b t,Eu.none_int b t⟩
   | str b=>
    obtain⟨t,rfl⟩:=r2;rw [dE] <;> try (intros;simp_all;done)
    exact⟨SeqAt.RcAt.none_str b t,SeqAt.RcNeAt.none_str b t,Eu.none_str b t⟩
   | @tup pb ws m e2 Ii=>
    cases r2;obtain⟨bL,k2,fW,_⟩:=I.tuple (dD.of e2);rw [dE] <;> try (intros;simp_all;done)
    exact⟨SeqAt.RcAt.none_tuple fW (by omega),SeqAt.RcNeAt.none_tuple fW (by omega),Eu.none_tuple fW (by omega)⟩
   | @cl pb ws m e2 Ii=>
    cases r2;obtain⟨bL,k2,Io,_⟩:=I.list e2.sq;have fW:=Io.isList;rw [dE] <;> try (intros;simp_all;done)
    exact⟨SeqAt.RcAt.none_list fW (by omega),SeqAt.RcNeAt.none_list fW (by omega),Eu.none_list fW (by omega)⟩
  | bl a=>
   cases r1;cases R9 with
   | ref e=>simp at e
   | ty e=>rw [PV.eL] at dy;cases dy
   | dk _ _ _=>rw [PV.eL] at dy;cases dy
   | dt _ _ _=>rw [PV.eL] at dy;cases dy
   | aQ=>
    cases r2;rw [dE] <;> try (intros;simp_all;done)
    exact⟨SeqAt.RcAt.bool_none a,SeqAt.RcNeAt.bool_none a,Eu.bool_none a⟩
   | bl b=>
    cases r2;rw [dE];exact⟨SeqAt.RcAt.bool_bool a b,SeqAt.RcNeAt.bool_bool a b,Eu.bool_bool a b⟩
   | int b=>
    obtain⟨t,rfl⟩:=r2;rw [dE];exact⟨SeqAt.RcAt.bool_int a b t,SeqAt.RcNeAt.bool_int a b t,Eu.bool_int a b t⟩
   | str b=>
    obtain⟨t,rfl⟩:=r2;rw [dE] <;> try (intros;simp_all;done)
    exact⟨SeqAt.RcAt.bool_str a b t,SeqAt.RcNeAt.bool_str a b t,Eu.bool_str a b t⟩
   | @tup pb ws m e2 Ii=>
    cases r2;obtain⟨bL,k2,fW,_⟩:=I.tuple (dD.of e2);rw [dE] <;> try (intros;simp_all;done)
    exact⟨SeqAt.RcAt.bool_tuple a fW (by omega),SeqAt.RcNeAt.bool_tuple a fW (by omega),Eu.bool_tuple a fW (by omega)⟩
   | @cl pb ws m e2 Ii=>
    cases r2;obtain⟨bL,k2,Io,_⟩:=I.list e2.sq;have fW:=Io.isList;rw [dE] <;> try (intros;simp_all;done)
    exact⟨SeqAt.RcAt.bool_list a fW (by omega),SeqAt.RcNeAt.bool_list a fW (by omega),Eu.bool_list a fW (by omega)⟩
  | int a=>
   obtain⟨t',rfl⟩:=r1;cases R9 with
   | ref e=>simp at e
   | ty e=>rw [PV.eL] at dy;cases dy
   | dk _ _ _=>rw [PV.eL] at dy;cases dy
   | dt _ _ _=>rw [PV.eL] at dy;cases dy
   | aQ=>
    cases r2;rw [dE] <;> try (intros;simp_all;done)
    exact⟨SeqAt.RcAt.int_none a t',SeqAt.RcNeAt.int_none a t',Eu.int_none a t'⟩
   | bl b=>
    cases r2;rw [dE];exact⟨SeqAt.RcAt.int_bool a t' b,SeqAt.RcNeAt.int_bool a t' b,Eu.int_bool a t' b⟩
   | int b=>
    obtain⟨t,rfl⟩:=r2;rw [dE];exact⟨SeqAt.RcAt.int_int a t' b t,SeqAt.RcNeAt.int_int a t' b t,CM a t' b t⟩
   | str b=>
    obtain⟨t,rfl⟩:=r2;rw [dE] <;> try (intros;simp_all;done)
    exact⟨SeqAt.RcAt.int_str a t' b t,SeqAt.RcNeAt.int_str a t' b t,Fs a t' b t⟩
   | @tup pb ws m e2 Ii=>
    cases r2;obtain⟨bL,k2,fW,_⟩:=I.tuple (dD.of e2);rw [dE] <;> try (intros;simp_all;done)
    exact⟨SeqAt.RcAt.int_tuple a t' fW (by omega),SeqAt.RcNeAt.int_tuple a t' fW (by omega),Eu.int_tuple a t' fW (by omega)⟩
   | @cl pb ws m e2 Ii=>
    cases r2;obtain⟨bL,k2,Io,_⟩:=I.list e2.sq;have fW:=Io.isList;rw [dE] <;> try (intros;simp_all;done)
    exact⟨SeqAt.RcAt.int_list a t' fW (by omega),SeqAt.RcNeAt.int_list a t' fW (by omega),Eu.int_list a t' fW (by omega)⟩
  | str a=>
   obtain⟨t',rfl⟩:=r1;cases R9 with
   | ref e=>simp at e
   | ty e=>rw [PV.eL] at dy;cases dy
   | dk _ _ _=>rw [PV.eL] at dy;cases dy
   | dt _ _ _=>rw [PV.eL] at dy;cases dy
   | aQ=>
    cases r2;rw [dE] <;> try (intros;simp_all;done)
    exact⟨SeqAt.RcAt.str_none a t',SeqAt.RcNeAt.str_none a t',Eu.str_none a t'⟩
   | bl b=>
    cases r2;rw [dE] <;> try (intros;simp_all;done)
    exact⟨SeqAt.RcAt.str_bool a t' b,SeqAt.RcNeAt.str_bool a t' b,Eu.str_bool a t' b⟩
   | int b=>
    obtain⟨t,rfl⟩:=r2;rw [dE] <;> try (intros;simp_all;done)
    exact⟨SeqAt.RcAt.str_int a t' b t,SeqAt.RcNeAt.str_int a t' b t,Fq a t' b t⟩
   | str b=>
    obtain⟨t,rfl⟩:=r2;rw [dE];exact⟨SeqAt.RcAt.str_str a t' b t,SeqAt.RcNeAt.str_str a t' b t,Fp a t' b t⟩
   | @tup pb ws m e2 Ii=>
    cases r2;obtain⟨bL,k2,fW,_⟩:=I.tuple (dD.of e2);rw [dE] <;> try (intros;simp_all;done)
    exact⟨SeqAt.RcAt.str_tuple a t' fW (by omega),SeqAt.RcNeAt.str_tuple a t' fW (by omega),Eu.str_tuple a t' fW (by omega)⟩
   | @cl pb ws m e2 Ii=>
    cases r2;obtain⟨bL,k2,Io,_⟩:=I.list e2.sq;have fW:=Io.isList;rw [dE] <;> try (intros;simp_all;done)
    exact⟨SeqAt.RcAt.str_list a t' fW (by omega),SeqAt.RcNeAt.str_list a t' fW (by omega),Eu.str_list a t' fW (by omega)⟩
  | tup e r=>rw [PV.fZ] at hd;omega
  | cl e r=>rw [PV.fZ] at hd;omega
 | succ n ih=>
  intro x y A v v' w w' hd dx dy hv R9 r1 r2 hu;cases hv with
  | ref e=>simp at e
  | ty e=>rw [PV.eL] at dx;cases dx
  | dk _ _ _=>rw [PV.eL] at dx;cases dx
  | dt _ _ _=>rw [PV.eL] at dx;cases dx
  | aQ=>exact ih _ y A _ v' _ w' (by simp [PV.fZ]) dx dy (.aQ) R9 r1 r2 (by omega)
  | bl a=>exact ih _ y A _ v' _ w' (by simp [PV.fZ]) dx dy (.bl a) R9 r1 r2 (by omega)
  | int a=>exact ih _ y A _ v' _ w' (by simp [PV.fZ]) dx dy (.int a) R9 r1 r2 (by omega)
  | str a=>exact ih _ y A _ v' _ w' (by simp [PV.fZ]) dx dy (.str a) R9 r1 r2 (by omega)
  | @tup pa vs l e r=>
   cases r1;obtain⟨au,k1,ht,_⟩:=I.tuple (dD.of e);cases R9 with
   | ref e=>simp at e
   | ty e=>rw [PV.eL] at dy;cases dy
   | dk _ _ _=>rw [PV.eL] at dy;cases dy
   | dt _ _ _=>rw [PV.eL] at dy;cases dy
   | aQ=>
    cases r2;rw [dE] <;> try (intros;simp_all;done)
    exact⟨SeqAt.RcAt.tuple_none ht (by omega),SeqAt.RcNeAt.tuple_none ht (by omega),Eu.tuple_none ht (by omega)⟩
   | bl b=>
    cases r2;rw [dE] <;> try (intros;simp_all;done)
    exact⟨SeqAt.RcAt.tuple_bool b ht (by omega),SeqAt.RcNeAt.tuple_bool b ht (by omega),Eu.tuple_bool b ht (by omega)⟩
   | int b=>
    obtain⟨t,rfl⟩:=r2;rw [dE] <;> try (intros;simp_all;done)
    exact⟨SeqAt.RcAt.tuple_int b t ht (by omega),SeqAt.RcNeAt.tuple_int b t ht (by omega),Eu.tuple_int b t ht (by omega)⟩
   | str b=>
    obtain⟨t,rfl⟩:=r2;rw [dE] <;> try (intros;simp_all;done)
    exact⟨SeqAt.RcAt.tuple_str b t ht (by omega),SeqAt.RcNeAt.tuple_str b t ht (by omega),Eu.tuple_str b t ht (by omega)⟩
   | @tup pb ws m e2 Ii=>
    cases r2;obtain⟨bL,k2,fW,_⟩:=I.tuple (dD.of e2);have d1:fY l=true:=by rw [PV.eL] at dx;exact dx
    have d2:fY m=true:=by rw [PV.eL] at dy;exact dy
    have hd':eF l<=n:=by rw [PV.fZ] at hd;omega
    have ie:=XT I (A:=A.in1) k1 k2 r Ii fun j x y v v' w w' hx hy vx vy rx ry=>(ih x y A.in1 v v' w w' (by have:=sh hx;omega) (mK d1 hx) (mK d2 hy) vx vy rx ry (by show A.units+1+n+1 < _;omega)).eq;have z1:au.toArray.size=l.length:=by rw [Ah,<- k1.length,r.length]
    have z2:bL.toArray.size=m.length:=by rw [Ah,<- k2.length,Ii.length]
    have same:pa=pb->hE l m=true:=fun z=>by
     subst z;have:=VR.T4 I (VR.tup (K:=X.K) e r) (VR.tup (K:=X.K) e2 Ii);injection this with this;subst this;exact j8 _ d1
    have q1:=Fu ht fW (A:=A) (by omega) ie;have q2:=SeqAt.RcNeAt.tuples ht fW (A:=A) (by omega) ie;rw [z1,z2,mL] at q1 q2;rw [dE];refine⟨q1,q2,?_⟩;by_cases XJ:pa=pb
    ·rw [same XJ,XJ];exact Dn _
    ·exact DN XJ q1
   | @cl pb ws m e2 Ii=>
    cases r2;obtain⟨bL,k2,Io,_⟩:=I.list e2.sq;have fW:=Io.isList;rw [dE] <;> try (intros;simp_all;done)
    exact⟨SeqAt.RcAt.tuple_list ht fW (by omega),SeqAt.RcNeAt.tuple_list ht fW (by omega),Eu.tuple_list ht fW (by omega)⟩
  | @cl pa vs l e r=>
   cases r1;obtain⟨au,k1,pl,_⟩:=I.list e.sq;have ht:=pl.isList;cases R9 with
   | ref e=>simp at e
   | ty e=>rw [PV.eL] at dy;cases dy
   | dk _ _ _=>rw [PV.eL] at dy;cases dy
   | dt _ _ _=>rw [PV.eL] at dy;cases dy
   | aQ=>
    cases r2;rw [dE] <;> try (intros;simp_all;done)
    exact⟨SeqAt.RcAt.list_none ht (by omega),SeqAt.RcNeAt.list_none ht (by omega),Eu.list_none ht (by omega)⟩
   | bl b=>
    cases r2;rw [dE] <;> try (intros;simp_all;done)
    exact⟨SeqAt.RcAt.list_bool b ht (by omega),SeqAt.RcNeAt.list_bool b ht (by omega),Eu.list_bool b ht (by omega)⟩
   | int b=>
    obtain⟨t,rfl⟩:=r2;rw [dE] <;> try (intros;simp_all;done)
    exact⟨SeqAt.RcAt.list_int b t ht (by omega),SeqAt.RcNeAt.list_int b t ht (by omega),Eu.list_int b t ht (by omega)⟩
   | str b=>
    obtain⟨t,rfl⟩:=r2;rw [dE] <;> try (intros;simp_all;done)
    exact⟨SeqAt.RcAt.list_str b t ht (by omega),SeqAt.RcNeAt.list_str b t ht (by omega),Eu.list_str b t ht (by omega)⟩
   | @tup pb ws m e2 Ii=>
    cases r2;obtain⟨bL,k2,fW,_⟩:=I.tuple (dD.of e2);rw [dE] <;> try (intros;simp_all;done)
    exact⟨SeqAt.RcAt.list_tuple ht fW (by omega),SeqAt.RcNeAt.list_tuple ht fW (by omega),Eu.list_tuple ht fW (by omega)⟩
   | @cl pb ws m e2 Ii=>
    cases r2;obtain⟨bL,k2,Io,_⟩:=I.list e2.sq;have fW:=Io.isList;have d1:fY l=true:=by rw [PV.eL] at dx;exact dx
    have d2:fY m=true:=by rw [PV.eL] at dy;exact dy
    have hd':eF l<=n:=by rw [PV.fZ] at hd;omega
    have ie:=XT I (A:=A.in1) k1 k2 r Ii fun j x y v v' w w' hx hy vx vy rx ry=>(ih x y A.in1 v v' w w' (by have:=sh hx;omega) (mK d1 hx) (mK d2 hy) vx vy rx ry (by show A.units+1+n+1 < _;omega)).eq;have z1:au.toArray.size=l.length:=by rw [Ah,<- k1.length,r.length]
    have z2:bL.toArray.size=m.length:=by rw [Ah,<- k2.length,Ii.length]
    have same:pa=pb->hE l m=true:=fun z=>by
     subst z;have:=VR.T4 I (VR.cl (K:=X.K) e r) (VR.cl (K:=X.K) e2 Ii);injection this with this;subst this;exact j8 _ d1
    have q1:SeqAt.RcAt A s (.ref pa) (.ref pb) (hE l m):=by
     by_cases hz:l.length=m.length
     ·have q:=FC ht fW (by rw [z1,z2];exact hz) (A:=A) (by omega) ie;rw [z1] at q;rw [<- mL,hz,Nat.min_self,beq_self_eq_true,Bool.and_true];rw [hz] at q;exact q
     ·rw [Jr hz];exact D9 ht fW (by rw [z1,z2];simpa using hz) (by omega)
    have q2:SeqAt.RcNeAt A s (.ref pa) (.ref pb) (!hE l m):=by
     by_cases hz:l.length=m.length
     ·have q:=Fo ht fW (by rw [z1,z2];exact hz) (A:=A) (by omega) ie;rw [z1] at q;rw [<- mL,hz,Nat.min_self,beq_self_eq_true,Bool.and_true];rw [hz] at q;exact q
     ·rw [Jr hz];exact DM ht fW (by rw [z1,z2];simpa using hz) (by omega)
    rw [dE];refine⟨q1,q2,?_⟩;by_cases XJ:pa=pb
    ·rw [same XJ,XJ];exact Dn _
    ·exact DN XJ q1
end
end
section
open PySem PySem.Spec PyProof.Rows L2 PL
variable {K:Ab}
mutual
theorem VR.qa {ι:List Addr}{H:Hp}:∀{v:V}{q:PV},VR K ι H v q->PV.eL q=true->VR K [] H v q
 | _,_,.aQ,_=>.aQ
 | _,_,.bl b,_=>.bl b
 | _,_,.int i,_=>.int i
 | _,_,.str x,_=>.str x
 | _,_,.ty n,h=>by rw [PV.eL] at h;cases h
 | _,_,.dk _ _ _,h=>by rw [PV.eL] at h;cases h
 | _,_,.dt _ _ _,h=>by rw [PV.eL] at h;cases h
 | _,_,.tup e r,h=>.tup e (aM.qa r (by rw [PV.eL] at h;exact h))
 | _,_,.cl e r,h=>.cl e (aM.qa r (by rw [PV.eL] at h;exact h))
 | _,_,.ref e,h=>by rw [PV.eL] at h;cases h
theorem aM.qa {ι:List Addr}{H:Hp}:∀{v:List V}{q:List PV},aM K ι H v q->fY q=true->aM K [] H v q
 | _,_,.nil,_=>.nil
 | _,_,.cons r s,h=>by
  rw [fY,AM] at h;exact .cons (VR.qa r h.1) (aM.qa s h.2)
end
def Ph (x y:PV):Prop:=PV.eL x=true/\PV.eL y=true/\PV.fZ x<=150
def fF:M2:=⟨fun x y h Q=>Ph x y/\Q (.bl (dE x y)) h,fun f q=>⟨q.1,f _ _ q.2⟩⟩
def KI:M2:=⟨fun x y h Q=>Ph x y/\Q (.bl (!dE x y)) h,fun f q=>⟨q.1,f _ _ q.2⟩⟩
def UP (K:Ab) (neg:Bool):R2:=fun u v H Q=>∃x y,VR K [] H u x/\VR K [] H v y/\Ph x y/\Q (.bl (if neg then !dE x y else dE x y)) H
section
variable {X:Cx}{b:Expr}
def Y9 (hK:X.K=K) (hu:X.A.units+200 < cLine):ir X (compareOp .Eq) (UP K false):=fun pins s σ H u v w w' Q I r1 r2 ⟨x,y,h1,h2,⟨o1,o2,o3⟩,q⟩=>by
 exact EK (aak hK I 150 x y X.A u v w w' o3 o1 o2 h1 h2 r1 r2 (by omega)).rc ⟨.bl _,H,I,rfl,q⟩
def Y6 (hK:X.K=K) (hu:X.A.units+200 < cLine):ir X (compareOp .NotEq) (UP K true):=fun pins s σ H u v w w' Q I r1 r2 ⟨x,y,h1,h2,⟨o1,o2,o3⟩,q⟩=>by
 exact D4 (aak hK I 150 x y X.A u v w w' o3 o1 o2 h1 h2 r1 r2 (by omega)).ne ⟨.bl _,H,I,rfl,q⟩
def Vn:M2.Ok K (UP K false) fF:=fun {ι H h u v x y Q} hr hu hv q=>⟨x,y,VR.qa hu q.1.1,VR.qa hv q.1.2.1,q.1,q.2 ι _ H (Go.refl _ _) hr (.bl _)⟩
def Vj:M2.Ok K (UP K true) KI:=fun {ι H h u v x y Q} hr hu hv q=>⟨x,y,VR.qa hu q.1.1,VR.qa hv q.1.2.1,q.1,q.2 ι _ H (Go.refl _ _) hr (.bl _)⟩
def gT (hK:X.K=K) (hu:X.A.units+200 < cLine):JC X K .Eq b fF:=⟨⟨_,Y9 hK hu,Vn⟩,kB _⟩
def Xx (hK:X.K=K) (hu:X.A.units+200 < cLine):JC X K .NotEq b KI:=⟨⟨_,Y6 hK hu,Vj⟩,kB _⟩
end
end
end FL
namespace L2
open PySem PySem.Spec PyProof.Rows
def xB (b:Bool) (h:Heap) (it a:Addr) (k:Nat):Prop:=match b with
 | true=>h.IsListIter it a k
 | false=>h.IsTupleIter it a k
def jF (b:Bool) (h:Heap) (a:Addr) (xs:Array Value):Prop:=match b with
 | true=>h.IsList a xs
 | false=>h.IsTuple a xs
def xB.move {b:Bool}{h h':Heap}{it a:Addr}{k:Nat} (x:xB b h it a k) (g:∀o,h.get? it=some o->h'.get? it=some o):xB b h' it a k:=by
 cases b with
 | true=>obtain⟨o,e,p⟩:=(show h.IsListIter it a k from x);exact (show h'.IsListIter it a k from⟨o,g o e,p⟩)
 | false=>obtain⟨o,e,p⟩:=(show h.IsTupleIter it a k from x);exact (show h'.IsTupleIter it a k from⟨o,g o e,p⟩)
def jF.move {b:Bool}{h h':Heap}{a:Addr}{xs:Array Value} (x:jF b h a xs) (g:∀o,h.get? a=some o->h'.get? a=some o):jF b h' a xs:=by
 cases b with
 | true=>obtain⟨o,e,p⟩:=(show h.IsList a xs from x);exact (show h'.IsList a xs from⟨o,g o e,p⟩)
 | false=>obtain⟨o,e,p⟩:=(show h.IsTuple a xs from x);exact (show h'.IsTuple a xs from⟨o,g o e,p⟩)
def xB.obj {b:Bool}{h:Heap}{it a:Addr}{k:Nat} (x:xB b h it a k):∃o,h.get? it=some o/\∀v,o.data≠.cell v:=by
 cases b with
 | true=>obtain⟨o,e,_,d⟩:=(show h.IsListIter it a k from x);exact⟨o,e,fun v z=>by rw [d] at z;cases z⟩
 | false=>obtain⟨o,e,_,d⟩:=(show h.IsTupleIter it a k from x);exact⟨o,e,fun v z=>by rw [d] at z;cases z⟩
def jF.lt {b:Bool}{h:Heap}{a:Addr}{xs:Array Value} (x:jF b h a xs):a < h.objs.size:=by
 cases b with
 | true=>obtain⟨o,e,p⟩:=(show h.IsList a xs from x);exact Ar e
 | false=>obtain⟨o,e,p⟩:=(show h.IsTuple a xs from x);exact Ar e
section
variable {prog:Program}{w:World}{A:Around}{E:Value->Shared->Prop}{s:Shared}
def mm {b:Bool}{it t:Addr}{i:Nat}{items:Array Value}{x:Value}{Q:Value->Shared->Prop} (h:xB b s.heap it t i) (ht:jF b s.heap t items) (hx:items[i]?=some x)
  (q:∀h':Heap,xB b h' it t (i+1)->B3 it s.heap h'->Q x {s with heap:=h'}):wpAny (model prog w) A (Builtin.SmallTypes.nextOf (.ref it)) Q E s:=by
 cases b with
 | true=>exact wpAny_nextOf_list_item h ht hx fun h' a b=>q h' a b
 | false=>exact iY h ht hx q
def vQ {b:Bool}{it t:Addr}{i:Nat}{items:Array Value}{Q:Value->Shared->Prop} (hA:A.handled=none) (h:xB b s.heap it t i) (ht:jF b s.heap t items) (hx:items[i]?=none)
  (q:∀(h':Heap) (e:Addr),FE it s.heap h'->(∃o,h'.get? e=some o/\o.cls=.type "StopIteration")->E (.ref e) {s with heap:=h'}):wpAny (model prog w) A (Builtin.SmallTypes.nextOf (.ref it)) Q E s:=by
 cases b with
 | true=>exact wpAny_nextOf_list_end hA h ht hx fun h' e a b=>q h' e a b
 | false=>exact jS hA h ht hx q
def OV:Bool->String
 | true=>"list_iterator"
 | false=>"tuple_iterator"
def yT {b:Bool}{a:Addr}{xs:Array Value}{Q:Value->Shared->Prop} (h:jF b s.heap a xs) (q:Q (.ref s.heap.objs.size) {s with heap:=s.heap.push {cls:=.type (OV b),data:=.fields #[.ref a,.int 0 0]}}):wpAny (model prog w) A (pyIter (.ref a)) Q E s:=by
 cases b with
 | true=>exact Cu h q
 | false=>exact DS h q
def MM {b:Bool}{h:Heap}{it a:Addr} (e:h.get? it=some {cls:=.type (OV b),data:=.fields #[.ref a,.int 0 0]}):xB b h it a 0:=by
 cases b with
 | true=>exact (show h.IsListIter it a 0 from⟨_,e,rfl,rfl⟩)
 | false=>exact (show h.IsTupleIter it a 0 from⟨_,e,rfl,rfl⟩)
end
structure lF (b1 b2:Bool) (h:Heap) (z TI TO i1 i2 a1 a2:Addr) (f0:Value) (k1 k2:Nat):Prop where
 zip:IsZip h z TI TO f0
 ti:IsPair h TI (.ref i1) (.ref i2)
 to:∃a b,IsPair h TO a b
 it1:xB b1 h i1 a1 k1
 it2:xB b2 h i2 a2 k2
def u9 {prog:Program}{w:World}{A:Around}{E:Value->Shared->Prop}{s:Shared}{b1 b2:Bool}{z TI TO i1 i2 a1 a2:Addr}{k1 k2:Nat}{xs ys:Array Value}{x y:Value}{Q:Value->Shared->Prop} (hA:ZipApart z TI TO i1 i2 a1 a2)
  (hz:lF b1 b2 s.heap z TI TO i1 i2 a1 a2 .none k1 k2) (XB:jF b1 s.heap a1 xs) (fW:jF b2 s.heap a2 ys) (hx:xs[k1]?=some x) (hy:ys[k2]?=some y)
  (q:∀h':Heap,lF b1 b2 h' z TI TO i1 i2 a1 a2 (rawInt s.heap.objs.size) (k1+1) (k2+1)->IsPair h' s.heap.objs.size x y->(∀c o,c≠z->c≠TO->c≠i1->c≠i2->s.heap.get? c=some o->h'.get? c=some o)->Q (.ref s.heap.objs.size) {s with heap:=h'}) :
  wpAny (model prog w) A (Builtin.«zip.__next__» {pos:=[.ref z]}) (fun fin s'=>∃v,fin=FH (FG v)/\Q v s') E s:=by
 obtain⟨hz,VV,⟨ta,tb,hto⟩,hi1,hi2⟩:=hz;show wpAny _ _ (field (.ref z) 2 >>= fun r=>_) _ _ s;refine Aa (AY hz rfl rfl ?_);show wpAny _ _ (field (.ref z) 3 >>= fun r=>_) _ _ s;refine Aa (AY hz rfl rfl ?_);show wpAny _ _ (seqItems? (.ref TI) >>= fun r=>_) _ _ s;refine Aa (BC VV rfl ?_);show wpAny _ _ (Builtin.SmallTypes.ownedTupleIsFree (.ref z) >>= fun r=>_) _ _ s;refine Aa ?_;unfold Builtin.SmallTypes.ownedTupleIsFree;refine Aa (AY hz rfl rfl ?_);refine Ag ?_;show wpAny _ _ (rule "zip.__next__.owned-tuple-again" >>= fun r=>_) _ _ s;refine Aa (CO ?_);refine Aa (AY hz rfl rfl ?_);show wpAny _ _ (setField (.ref z) 0 .ellipsis >>= fun r=>_) _ _ s;refine Aa (A1 hz (show 0 < 5 by decide) fun h1 z1 b1=>?_);show wpAny _ _ ((forIn [(Ax i1,0),(Ax i2,1)] _ _) >>= fun r=>_) _ _ _;refine Aa ?_;rw [BN];have yE:∀b,b≠z->h1.get? b=s.heap.get? b:=b1.2;refine Aa ?_;refine Aa (Ed ?_);show wpAny _ _ (Builtin.SmallTypes.nextOf (.ref i1) >>= fun v=>pure (some v)) _ _ _;refine Aa (mm (hi1.move fun o e=>(yE _ hA.i1z).trans e) (XB.move fun o e=>(yE _ hA.l1z).trans e) hx fun h2 j2 b2=>Ag ?_);have Sr:∀b,b≠z->b≠i1->h2.get? b=s.heap.get? b:=fun b n1 n2=>(b2.2 b n2).trans (yE b n1);have to2:IsPair h2 TO ta tb:=(Sr _ hA.TOz hA.TOi1).trans hto;show wpAny _ _ (seqItems? (.ref TO) >>= fun r=>_) _ _ _;refine Aa (BC to2 rfl ?_);refine Aa (Di to2 fun h3 t3 b3=>?_);have get3:∀b,b≠z->b≠i1->b≠TO->h3.get? b=s.heap.get? b:=fun b n1 n2 n3=>(b3.2 b n3).trans (Sr b n1 n2);refine Aa (Dj (Ag ?_));show wpAny _ _ (forIn [(Ax i2,1)] _ _) _ _ _;rw [BN];refine Aa ?_;refine Aa (Ed ?_);show wpAny _ _ (Builtin.SmallTypes.nextOf (.ref i2) >>= fun v=>pure (some v)) _ _ _;refine Aa (mm (hi2.move fun o e=>(get3 _ hA.i2z hA.i12.symm hA.TOi2.symm).trans e) (fW.move fun o e=>(get3 _ hA.l2z hA.l2i1 hA.l2TO).trans e) hy fun h4 j4 b4=>Ag ?_);have to4:IsPair h4 TO x tb:=(b4.2 _ hA.TOi2).trans t3;show wpAny _ _ (seqItems? (.ref TO) >>= fun r=>_) _ _ _;refine Aa (BC to4 rfl ?_);refine Aa (Di to4 fun h5 t5 b5=>?_);have to5:IsPair h5 TO x y:=t5;refine Aa (Dj (Ag ?_));show wpAny _ _ (forIn [] _ _) _ _ _;rw [DW];refine Ag ?_;show wpAny _ _ (seqItems? (.ref TO) >>= fun r=>_) _ _ _;refine Aa (BC to5 rfl ?_);show wpAny _ _ (newTuple [x,y] >>= fun r=>_) _ _ _;have sz5:h5.objs.size=s.heap.objs.size:=b5.1.trans (b4.1.trans (b3.1.trans (b2.1.trans b1.1)));refine Aa (Cz ?_ (by show 2<=sizeLine;decide));have adq:∀b,b≠z->b≠i1->b≠TO->b≠i2->h5.get? b=s.heap.get? b:=fun b n1 n2 n3 n4=>(b5.2 b n3).trans ((b4.2 b n4).trans (get3 b n1 n2 n3));have z5:h5.get? z=some {cls:=.type "zip",data:=.fields #[.ellipsis,.bool false,.bool false,.ref TI,.ref TO]}:=(b5.2 _ hA.TOz.symm).trans ((b4.2 _ hA.i2z.symm).trans ((b3.2 _ hA.TOz.symm).trans ((b2.2 _ hA.i1z.symm).trans z1)));have kp:∀b o,h5.get? b=some o->(h5.push {cls:=.type "tuple",data:=.seq #[x,y]}).get? b=some o:=fun b o e=>Aj _ e;have afZ:(h5.push {cls:=.type "tuple",data:=.seq #[x,y]}).get? h5.objs.size=some {cls:=.type "tuple",data:=.seq #[x,y]}:=Aq _ rfl;refine Aa ?_;show wpAny _ _ (setField (.ref z) 0 (rawInt h5.objs.size) >>= fun _=>setField (.ref z) 1 (.bool false)) _ _ _;refine Aa (A1 (kp _ _ z5) (show 0 < 5 by decide) fun h7 z7 b7=>?_);refine A1 z7 (show 1 < 5 by decide) fun h8 z8 b8=>?_;have O6:∀b,b≠z->h8.get? b=(h5.push {cls:=.type "tuple",data:=.seq #[x,y]}).get? b:=fun b n=>(b8.2 b n).trans (b7.2 b n);have nz:s.heap.objs.size≠z:=fun e=>by have:=Ar hz;rw [<- e] at this;exact A4 _ this
 refine Ag ⟨.ref h5.objs.size,rfl,?_⟩;rw [sz5];refine q h8 ⟨?_,?_,?_,?_,?_⟩ ?_ ?_
 ·rw [<- sz5];exact z8
 ·rw [IsPair,O6 _ hA.TIz];exact kp _ _ ((adq _ hA.TIz hA.TIi1 hA.TITO hA.TIi2).trans VV)
 ·exact⟨x,y,by rw [IsPair,O6 _ hA.TOz];exact kp _ _ to5⟩
 ·refine j2.move fun o e=>?_;rw [O6 _ hA.i1z];exact kp _ _ ((b5.2 _ hA.TOi1.symm).trans ((b4.2 _ hA.i12).trans ((b3.2 _ hA.TOi1.symm).trans e)))
 ·refine j4.move fun o e=>?_;rw [O6 _ hA.i2z];exact kp _ _ ((b5.2 _ hA.TOi2.symm).trans e)
 ·rw [IsPair,O6 _ nz,<- sz5];exact afZ
 ·intro c o n1 n2 n3 n4 e;rw [O6 _ n1];exact kp _ _ ((adq _ n1 n3 n2 n4).trans e)
def ya {prog:Program}{w:World}{A:Around}{E:Value->Shared->Prop}{s:Shared}{b1 b2:Bool}{z TI TO i1 i2 a1 a2:Addr}{k1 k2:Nat}{xs ys:Array Value}{Q:PySem.Fin->Shared->Prop} (hh:A.handled=none) (hA:ZipApart z TI TO i1 i2 a1 a2)
  (hz:lF b1 b2 s.heap z TI TO i1 i2 a1 a2 .none k1 k2) (XB:jF b1 s.heap a1 xs) (fW:jF b2 s.heap a2 ys) (hx:xs[k1]?=none\/ys[k2]?=none)
  (q:∀(h':Heap) (e:Addr),(∀c o,c≠z->c≠TO->c≠i1->c≠i2->s.heap.get? c=some o->h'.get? c=some o)->(∃o,h'.get? e=some o/\o.cls=.type "StopIteration")->E (.ref e) {s with heap:=h'}) :
  wpAny (model prog w) A (Builtin.«zip.__next__» {pos:=[.ref z]}) Q E s:=by
 obtain⟨hz,VV,⟨ta,tb,hto⟩,hi1,hi2⟩:=hz;show wpAny _ _ (field (.ref z) 2 >>= fun r=>_) _ _ s;refine Aa (AY hz rfl rfl ?_);show wpAny _ _ (field (.ref z) 3 >>= fun r=>_) _ _ s;refine Aa (AY hz rfl rfl ?_);show wpAny _ _ (seqItems? (.ref TI) >>= fun r=>_) _ _ s;refine Aa (BC VV rfl ?_);show wpAny _ _ (Builtin.SmallTypes.ownedTupleIsFree (.ref z) >>= fun r=>_) _ _ s;refine Aa ?_;unfold Builtin.SmallTypes.ownedTupleIsFree;refine Aa (AY hz rfl rfl ?_);refine Ag ?_;show wpAny _ _ (rule "zip.__next__.owned-tuple-again" >>= fun r=>_) _ _ s;refine Aa (CO ?_);refine Aa (AY hz rfl rfl ?_);show wpAny _ _ (setField (.ref z) 0 .ellipsis >>= fun r=>_) _ _ s;refine Aa (A1 hz (show 0 < 5 by decide) fun h1 z1 b1'=>?_);show wpAny _ _ ((forIn [(Ax i1,0),(Ax i2,1)] _ _) >>= fun r=>_) _ _ _;refine Aa ?_;rw [BN];have yE:∀b,b≠z->h1.get? b=s.heap.get? b:=b1'.2;refine Aa ?_;refine Aa (Ed ?_);show wpAny _ _ (Builtin.SmallTypes.nextOf (.ref i1) >>= fun v=>pure (some v)) _ _ _;have fin:∀{h2:Heap}{e:Addr},h2.get? z=some {cls:=.type "zip",data:=.fields #[.ellipsis,.bool false,.bool false,.ref TI,.ref TO]}->(∃o,h2.get? e=some o/\o.cls=.type "StopIteration")->(∀c o,c≠z->c≠TO->c≠i1->c≠i2->s.heap.get? c=some o->h2.get? c=some o)->wpAny (model prog w) A (setField (.ref z) 0 .none) (fun _ s'=>E (.ref e) s') (fun _ _=>True) {s with heap:=h2}:=fun {h2 e} z2 ex k=>by
  refine A1 z2 (show 0 < 5 by decide) fun h3 z3 b3=>?_;refine q h3 e (fun c o n1 n2 n3 n4 ec=>?_) ?_
  ·rw [b3.2 _ n1];exact k c o n1 n2 n3 n4 ec
  ·obtain⟨o,eo,hc⟩:=ex;by_cases he:e=z
   ·subst he;rw [z2] at eo;cases eo;exact absurd (show BP "zip"=BP "StopIteration" from hc) (by decide)
   ·exact⟨o,(b3.2 _ he).trans eo,hc⟩
 cases hx1:xs[k1]? with
 | none=>
  refine Aa (vQ hh (hi1.move fun o e=>(yE _ hA.i1z).trans e) (XB.move fun o e=>(yE _ hA.l1z).trans e) hx1 fun h2 e k ex=>?_);have z2:h2.get? z=some {cls:=.type "zip",data:=.fields #[.ellipsis,.bool false,.bool false,.ref TI,.ref TO]}:=k _ _ hA.i1z.symm z1;refine A1 z2 (show 0 < 5 by decide) fun h3 z3 b3=>?_;refine q h3 e (fun c o n1 n2 n3 n4 ec=>?_) ?_
  ·rw [b3.2 _ n1];exact k _ _ n3 ((yE _ n1).trans ec)
  ·obtain⟨o,eo,hc⟩:=ex;by_cases he:e=z
   ·subst he;rw [z2] at eo;cases eo;exact absurd (show BP "zip"=BP "StopIteration" from hc) (by decide)
   ·exact⟨o,(b3.2 _ he).trans eo,hc⟩
 | some x=>
  have hy:ys[k2]?=none:=by
   rcases hx with h | h
   ·rw [hx1] at h;cases h
   ·exact h
  refine Aa (mm (hi1.move fun o e=>(yE _ hA.i1z).trans e) (XB.move fun o e=>(yE _ hA.l1z).trans e) hx1 fun h2 j2 b2'=>Ag ?_);have Sr:∀b,b≠z->b≠i1->h2.get? b=s.heap.get? b:=fun b n1 n2=>(b2'.2 b n2).trans (yE b n1);have to2:IsPair h2 TO ta tb:=(Sr _ hA.TOz hA.TOi1).trans hto;show wpAny _ _ (seqItems? (.ref TO) >>= fun r=>_) _ _ _;refine Aa (BC to2 rfl ?_);refine Aa (Di to2 fun h3 t3 b3=>?_);have get3:∀b,b≠z->b≠i1->b≠TO->h3.get? b=s.heap.get? b:=fun b n1 n2 n3=>(b3.2 b n3).trans (Sr b n1 n2);refine Aa (Dj (Ag ?_));show wpAny _ _ (forIn [(Ax i2,1)] _ _) _ _ _;rw [BN];refine Aa ?_;refine Aa (Ed ?_);show wpAny _ _ (Builtin.SmallTypes.nextOf (.ref i2) >>= fun v=>pure (some v)) _ _ _;refine Aa (vQ hh (hi2.move fun o e=>(get3 _ hA.i2z hA.i12.symm hA.TOi2.symm).trans e) (fW.move fun o e=>(get3 _ hA.l2z hA.l2i1 hA.l2TO).trans e) hy fun h4 e k ex=>?_);have z4:h4.get? z=some {cls:=.type "zip",data:=.fields #[.ellipsis,.bool false,.bool false,.ref TI,.ref TO]}:=k _ _ hA.i2z.symm ((b3.2 _ hA.TOz.symm).trans ((b2'.2 _ hA.i1z.symm).trans z1));refine A1 z4 (show 0 < 5 by decide) fun h5 z5 b5=>?_;refine q h5 e (fun c o n1 n2 n3 n4 ec=>?_) ?_
  ·rw [b5.2 _ n1];exact k _ _ n4 ((get3 _ n1 n3 n2).trans ec)
  ·obtain⟨o,eo,hc⟩:=ex;by_cases he:e=z
   ·subst he;rw [z4] at eo;cases eo;exact absurd (show BP "zip"=BP "StopIteration" from hc) (by decide)
   ·exact⟨o,(b5.2 _ he).trans eo,hc⟩
def rB {prog:Program}{w:World}{A:Around}{E:Value->Shared->Prop}{s:Shared}{b1 b2:Bool}{z TI TO i1 i2 a1 a2:Addr}{k1 k2:Nat}{xs ys:Array Value}{x y:Value}{Q:Option Value->Shared->Prop} (hA:ZipApart z TI TO i1 i2 a1 a2)
  (hz:lF b1 b2 s.heap z TI TO i1 i2 a1 a2 .none k1 k2) (XB:jF b1 s.heap a1 xs) (fW:jF b2 s.heap a2 ys) (hx:xs[k1]?=some x) (hy:ys[k2]?=some y)
  (q:∀h':Heap,lF b1 b2 h' z TI TO i1 i2 a1 a2 (rawInt s.heap.objs.size) (k1+1) (k2+1)->IsPair h' s.heap.objs.size x y->(∀c o,c≠z->c≠TO->c≠i1->c≠i2->s.heap.get? c=some o->h'.get? c=some o)->Q (some (.ref s.heap.objs.size)) {s with heap:=h'}) :
  wpAny (model prog w) A (pyNext (.ref z)) Q E s:=by
 have ty:s.TypeIs (.ref z) "zip":=⟨_,hz.zip,rfl⟩;unfold pyNext;refine Aa (CI (AW ty Dp (Bb Dp ty F.entry_zip_next ?_ (F.args_zip_next_1 _))));exact u9 hA hz XB fW hx hy fun h' a b c=>Ag (q h' a b c)
def uc {prog:Program}{w:World}{A:Around}{E:Value->Shared->Prop}{s:Shared}{b1 b2:Bool}{z TI TO i1 i2 a1 a2:Addr}{k1 k2:Nat}{xs ys:Array Value}{Q:Option Value->Shared->Prop} (hh:A.handled=none) (hA:ZipApart z TI TO i1 i2 a1 a2)
  (hz:lF b1 b2 s.heap z TI TO i1 i2 a1 a2 .none k1 k2) (XB:jF b1 s.heap a1 xs) (fW:jF b2 s.heap a2 ys) (hx:xs[k1]?=none\/ys[k2]?=none)
  (q:∀h':Heap,(∀c o,c≠z->c≠TO->c≠i1->c≠i2->s.heap.get? c=some o->h'.get? c=some o)->Q none {s with heap:=h'}) :
  wpAny (model prog w) A (pyNext (.ref z)) Q E s:=by
 have ty:s.TypeIs (.ref z) "zip":=⟨_,hz.zip,rfl⟩;unfold pyNext;refine Aa (CI (AW ty Dp (Bb Dp ty F.entry_zip_next ?_ (F.args_zip_next_1 _))));refine ya (A:=A.in1) hh hA hz XB fW hx fun h' e k ex=>?_;obtain⟨o,eo,hc⟩:=ex;refine Aa (C8 (T:="StopIteration") ⟨o,eo,hc⟩ isSubtype_stop ?_);rw [if_pos rfl];exact Ag (q h' k)
def vT (b1 b2:Bool) (a1 a2:Addr) (xs ys:Array Value):Meets (Builtin.«zip.__new__» {pos:=[.type "zip",.ref a1,.ref a2]}) (fun _ R s=>jF b1 s.heap a1 xs/\jF b2 s.heap a2 ys/\
  ∀h':Heap,lF b1 b2 h' (s.heap.objs.size+4) (s.heap.objs.size+2) (s.heap.objs.size+3) s.heap.objs.size (s.heap.objs.size+1) a1 a2 .none 0 0->(∀b o,s.heap.get? b=some o->h'.get? b=some o)->R (.ok (.ret (.ref (s.heap.objs.size+4)))) {s with heap:=h'}):=
 .of_wp fun prog w A R s h=>by
  obtain⟨h1,h2,q⟩:=h;unfold Builtin.«zip.__new__»;refine Aa ?_;unfold Builtin.SmallTypes.newClass;refine Aa (Cn (a:=true) rfl ?_);rw [if_neg (by decide)];refine Aa (Cn sub_zip ?_);rw [if_neg (by decide)];refine Ag ?_;show wpAny _ _ (Builtin.SmallTypes.iterAll [.ref a1,.ref a2] >>= fun r=>_) _ _ s;refine Aa ?_;unfold Builtin.SmallTypes.iterAll;refine Aa ?_;rw [BN];refine Aa ?_;refine Aa (A9 (yT h1 (Ag ?_)));have k1:∀b o,s.heap.get? b=some o->(s.heap.push {cls:=.type (OV b1),data:=.fields #[.ref a1,.int 0 0]}).get? b=some o:=fun b o e=>Aj _ e;have g1:(s.heap.push {cls:=.type (OV b1),data:=.fields #[.ref a1,.int 0 0]}).get? s.heap.objs.size=some {cls:=.type (OV b1),data:=.fields #[.ref a1,.int 0 0]}:=Aq _ rfl;have z1:(s.heap.push {cls:=.type (OV b1),data:=.fields #[.ref a1,.int 0 0]}).objs.size=s.heap.objs.size+1:=Cy ..;generalize s.heap.push {cls:=.type (OV b1),data:=.fields #[.ref a1,.int 0 0]}=xY at k1 g1 z1 ⊢;show wpAny _ _ (forIn [Ax a2] _ _) _ _ _;rw [BN];refine Aa ?_;refine Aa (A9 (yT (xs:=ys) (h2.move fun o e=>k1 _ _ e) (Ag ?_)));show wpAny _ _ (forIn [] _ _) _ _ _;rw [DW];refine Ag (Ag ?_);have k2:∀b o,xY.get? b=some o->(xY.push {cls:=.type (OV b2),data:=.fields #[.ref a2,.int 0 0]}).get? b=some o:=fun b o e=>Aj _ e;have g2:(xY.push {cls:=.type (OV b2),data:=.fields #[.ref a2,.int 0 0]}).get? xY.objs.size=some {cls:=.type (OV b2),data:=.fields #[.ref a2,.int 0 0]}:=Aq _ rfl;have z2:(xY.push {cls:=.type (OV b2),data:=.fields #[.ref a2,.int 0 0]}).objs.size=xY.objs.size+1:=Cy ..;show wpAny _ _ (newTuple [.ref s.heap.objs.size,.ref xY.objs.size] >>= fun r=>_) _ _ {s with heap:=xY.push {cls:=.type (OV b2),data:=.fields #[.ref a2,.int 0 0]}};generalize xY.push {cls:=.type (OV b2),data:=.fields #[.ref a2,.int 0 0]}=GK at k2 g2 z2 ⊢;refine Aa (Cz ?_ (by show 2<=sizeLine;decide));have k3:∀b o,GK.get? b=some o->(GK.push {cls:=.type "tuple",data:=.seq [Ax s.heap.objs.size,Ax xY.objs.size].toArray}).get? b=some o:=fun b o e=>Aj _ e;have g3:(GK.push {cls:=.type "tuple",data:=.seq [Ax s.heap.objs.size,Ax xY.objs.size].toArray}).get? GK.objs.size=some {cls:=.type "tuple",data:=.seq #[.ref s.heap.objs.size,.ref xY.objs.size]}:=Aq _ rfl;have z3:(GK.push {cls:=.type "tuple",data:=.seq [Ax s.heap.objs.size,Ax xY.objs.size].toArray}).objs.size=GK.objs.size+1:=Cy ..;show wpAny _ _ (newTuple [.none,.none] >>= fun r=>_) _ _ {s with heap:=GK.push {cls:=.type "tuple",data:=.seq [Ax s.heap.objs.size,Ax xY.objs.size].toArray}};generalize GK.push {cls:=.type "tuple",data:=.seq [Ax s.heap.objs.size,Ax xY.objs.size].toArray}=O0 at k3 g3 z3 ⊢;refine Aa (Cz ?_ (by show 2<=sizeLine;decide));have k4:∀b o,O0.get? b=some o->(O0.push {cls:=.type "tuple",data:=.seq [AQ,AQ].toArray}).get? b=some o:=fun b o e=>Aj _ e;have g4:(O0.push {cls:=.type "tuple",data:=.seq [AQ,AQ].toArray}).get? O0.objs.size=some {cls:=.type "tuple",data:=.seq #[.none,.none]}:=Aq _ rfl;have z4:(O0.push {cls:=.type "tuple",data:=.seq [AQ,AQ].toArray}).objs.size=O0.objs.size+1:=Cy ..;show wpAny _ _ (newObj (.type "zip") (.fields #[.none,.bool false,.bool false,.ref GK.objs.size,.ref O0.objs.size]) >>= fun r=>_) _ _ {s with heap:=O0.push {cls:=.type "tuple",data:=.seq [AQ,AQ].toArray}};generalize O0.push {cls:=.type "tuple",data:=.seq [AQ,AQ].toArray}=hp4 at k4 g4 z4 ⊢;refine Aa (Bn ?_ (by simp [sizeOk];decide));have k5:∀b o,hp4.get? b=some o->(hp4.push {cls:=.type "zip",data:=.fields #[.none,.bool false,.bool false,.ref GK.objs.size,.ref O0.objs.size]}).get? b=some o:=fun b o e=>Aj _ e;have g5:(hp4.push {cls:=.type "zip",data:=.fields #[.none,.bool false,.bool false,.ref GK.objs.size,.ref O0.objs.size]}).get? hp4.objs.size=some {cls:=.type "zip",data:=.fields #[.none,.bool false,.bool false,.ref GK.objs.size,.ref O0.objs.size]}:=Aq _ rfl;have e1:xY.objs.size=s.heap.objs.size+1:=z1;have e2:GK.objs.size=s.heap.objs.size+2:=by rw [z2,e1]
  have e3:O0.objs.size=s.heap.objs.size+3:=by rw [z3,e2]
  have e4:hp4.objs.size=s.heap.objs.size+4:=by rw [z4,e3]
  refine Ag ⟨.ref hp4.objs.size,rfl,?_⟩;rw [e2,e3] at g5 k5 ⊢;rw [e4] at g5 ⊢;rw [e3] at g4;rw [e1,e2] at g3;rw [e1] at g2;refine q _ ⟨g5,k5 _ _ (k4 _ _ g3),⟨_,_,k5 _ _ g4⟩,MM (k5 _ _ (k4 _ _ (k3 _ _ (k2 _ _ g1)))),MM (k5 _ _ (k4 _ _ (k3 _ _ g2)))⟩ fun b o e=>k5 _ _ (k4 _ _ (k3 _ _ (k2 _ _ (k1 _ _ e))))
def Pu {prog:Program}{w:World}{A:Around}{E:Value->Shared->Prop}{s:Shared}{b1 b2:Bool}{a1 a2:Addr}{xs ys:Array Value}{Q:Value->Shared->Prop} (h1:jF b1 s.heap a1 xs) (h2:jF b2 s.heap a2 ys)
  (q:∀h':Heap,lF b1 b2 h' (s.heap.objs.size+4) (s.heap.objs.size+2) (s.heap.objs.size+3) s.heap.objs.size (s.heap.objs.size+1) a1 a2 .none 0 0->(∀b o,s.heap.get? b=some o->h'.get? b=some o)->Q (.ref (s.heap.objs.size+4)) {s with heap:=h'}) :
  wpAny (model prog w) A (call (.type "zip") [.ref a1,.ref a2]) Q E s:=
 callType_new F.called_zip (by decide) (F.typeCall_zip_2 _ _) (F.newCall_zip_2 _ _) (fun o=>F.args_object_init_3 o _ _) F.entry_zip_new (vT b1 b2 a1 a2 xs ys) ⟨h1,h2,fun h' z k=>⟨⟨_,z.zip,rfl⟩,q h' z k⟩⟩
def Qh (b:Bool) (K:Ab) (H:Hp) (a:Addr) (xs:List V):Prop:=match b with
 | true=>df K H a xs
 | false=>dD K H a xs
def Inv.sqx {X:Cx}{pins:List (Addr×Obj)}{σ:L2.St}{H:Hp}{s:Shared}{b:Bool}{a:Addr}{xs:List V} (I:Inv X pins σ H s) (h:Qh b X.K H a xs):∃au:List Value,Vals xs au/\jF b s.heap a au.toArray/\xs.length<=sizeLine:=by
 cases b with
 | true=>obtain⟨au,r,p,z⟩:=I.list (show df X.K H a xs from h);exact⟨au,r,p.isList,z⟩
 | false=>obtain⟨au,r,p,z⟩:=I.tuple (show dD X.K H a xs from h);exact⟨au,r,p,z⟩
def Inv.MK {X:Cx}{pins:List (Addr×Obj)}{σ:L2.St}{H:Hp}{s:Shared}{b:Bool}{a:Addr}{xs ys:List V} (I:Inv X pins σ H s) (h:Qh b X.K H a xs) (h':Qh b X.K H a ys):xs=ys:=by
 cases b with
 | true=>
  obtain⟨au,k,⟨o,n,h1,h2,h3,h4⟩,_⟩:=I.list (show df X.K H a xs from h);obtain⟨its',k',⟨o',n',iR,xZ,LG,ZW⟩,_⟩:=I.list (show df X.K H a ys from h');rw [h1] at iR;cases iR;rw [h4] at ZW;have:au=its':=by injection ZW with a b;simpa using a
  subst this;exact Vals.inj k k'
 | false=>exact I.nh h h'
def ad7 (b1 b2:Bool) (K:Ab) (a1 a2:Addr):It where
 go:=fun i H=>∃xs ys x y,Qh b1 K H a1 xs/\Qh b2 K H a2 ys/\xs[i]?=some x/\ys[i]?=some y
 W4:=fun i H v H'=>∃p x y,v=.ref p/\H p=none/\H'=upd H p (.tup [x,y])/\(∀xs,Qh b1 K H a1 xs->xs[i]?=some x)/\∀ys,Qh b2 K H a2 ys->ys[i]?=some y
 stop:=fun i H=>∃xs ys,Qh b1 K H a1 xs/\Qh b2 K H a2 ys/\(xs.length<=i\/ys.length<=i)
def N6 {P:Program}{w:World}{K:Ab}{b1 b2:Bool}{elts:List Expr}{kk:Nat}{pos:Pos}{z TI TO i1 i2 a1 a2:Addr} (hA:ZipApart z TI TO i1 i2 a1 a2):Turn P w K (.Tuple elts kk pos) (ad7 b1 b2 K a1 a2) [z,TI,TO,i1,i2] z (fun i h=>lF b1 b2 h z TI TO i1 i2 a1 a2 .none i i) where
 mem:=by simp
 obj:=fun i h st b hb=>by
  simp only [Ay,BA,or_false] at hb;rcases hb with rfl | rfl | rfl | rfl | rfl
  ·exact⟨_,st.zip,fun v z=>by cases z⟩
  ·exact⟨_,st.ti,fun v z=>by cases z⟩
  ·obtain⟨_,_,e⟩:=st.to;exact⟨_,e,fun v z=>by cases z⟩
  ·exact st.it1.obj
  ·exact st.it2.obj
 keep:=fun i h h' st k=>⟨k z (by simp) _ st.zip,k TI (by simp) _ st.ti,let ⟨a,b,e⟩:=st.to;⟨a,b,k TO (by simp) _ e⟩,st.it1.move fun o e=>k i1 (by simp) _ e,st.it2.move fun o e=>k i2 (by simp) _ e⟩
 item:=by
  intro X hP hw hK hc i pins s σ H E I hf st hg;subst hP hw hK;obtain⟨xs,ys,x,y,hx,hy,gx,gy⟩:=hg;obtain⟨au,rx,tx,_⟩:=I.sqx hx;obtain⟨bL,ry,ty,_⟩:=I.sqx hy;obtain⟨u,gu,ru⟩:=lU rx gx;obtain⟨v,gv,rv⟩:=lU ry gy;refine rB hA st tx ty (by simpa using gu) (by simpa using gv) fun h' zt np k=>?_;refine⟨_,rfl,?_⟩;show wpAny _ _ (load z >>= fun o=>_) _ _ _;refine Aa (wpAny_load zt.zip ?_);show wpAny _ _ (if ((["enumerate","zip","dict_itemiterator","dict_reverseitemiterator","odict_iterator","itertools.zip_longest","itertools.pairwise"].contains "zip"&&(some (rawInt s.heap.objs.size)==some (rawInt s.heap.objs.size)))=true) then (do rule "for.unpacks-the-owned-tuple";setField (.ref z) 0 .none) else pure ()) _ _ _;rw [if_pos (by rw [beq_self_eq_true];decide)];refine Aa (CO ?_);refine A1 zt.zip (show 0 < 5 by decide) fun h2 z2 b2=>?_;have lt:∀b∈[z,TI,TO,i1,i2],b < s.heap.objs.size:=fun b hb=>by
   simp only [Ay,BA,or_false] at hb;rcases hb with rfl | rfl | rfl | rfl | rfl
   ·exact Ar st.zip
   ·exact Ar st.ti
   ·obtain⟨_,_,e⟩:=st.to;exact Ar e
   ·obtain⟨o,e,_⟩:=st.it1.obj;exact Ar e
   ·obtain⟨o,e,_⟩:=st.it2.obj;exact Ar e
  have nz:s.heap.objs.size≠z:=fun e=>A4 _ (by have:=lt z (by simp);rw [<- e] at this;exact this);have kk':∀b o,b∉[z,TI,TO,i1,i2]->s.heap.get? b=some o->h2.get? b=some o:=fun b o hb e=>by
   have LB:b≠z:=fun q=>hb (by simp [q]);rw [b2.2 b LB];exact k b o LB (fun q=>hb (by simp [q])) (fun q=>hb (by simp [q])) (fun q=>hb (by simp [q])) e
  have np2:h2.get? s.heap.objs.size=some {cls:=.type "tuple",data:=.seq #[u,v]}:=(b2.2 _ nz).trans np;have hfr:=I.bG.fresh (An s.heap.objs.size);refine⟨.ref s.heap.objs.size,upd H s.heap.objs.size (.tup [x,y]),I.vh (t':=s.toks) hf kk' (An _) ⟨by show 2<=sizeLine;decide,[u,v],.cons ru (.cons rv .nil),⟨_,np2,rfl,_,rfl⟩⟩,rfl,⟨_,x,y,rfl,hfr,rfl,fun xs' h'=>?_,fun ys' h'=>?_⟩,⟨z2,(b2.2 _ hA.TIz).trans zt.ti,let ⟨p,q,e⟩:=zt.to;⟨p,q,(b2.2 _ hA.TOz).trans e⟩,zt.it1.move fun o e=>(b2.2 _ hA.i1z).trans e,zt.it2.move fun o e=>(b2.2 _ hA.i2z).trans e⟩,fun b hb=>?_⟩
  ·rw [I.MK h' hx];exact gx
  ·rw [I.MK h' hy];exact gy
  ·rw [ay (AI (lt b hb))];exact (hf b hb).1
 done:=by
  intro X hP hw hK hc i pins s σ H E I hf st hg;subst hP hw hK;obtain⟨xs,ys,hx,hy,hl⟩:=hg;obtain⟨au,rx,tx,_⟩:=I.sqx hx;obtain⟨bL,ry,ty,_⟩:=I.sqx hy;have el:=rx.length;have el2:=ry.length;refine uc (I.ok.hd hc) hA st tx ty ?_ fun h' k=>⟨rfl,I.zU (t':=s.toks) hf fun b o hb e=>k b o (fun z=>hb (by simp [z])) (fun z=>hb (by simp [z])) (fun z=>hb (by simp [z])) (fun z=>hb (by simp [z])) e⟩;rcases hl with hl | hl
  ·exact .inl (by simp;omega)
  ·exact .inr (by simp;omega)
 self:=fun A i s Q E st h=>wpAny_pyIter_zip st.zip h
def acP (K:Ab) (t1 t2:TE):TI:=fun σ H R=>t1 σ H fun x H1=>t2 σ H1 fun y H2=>∃b1 b2 a b,x=.ref a/\y=.ref b/\(∃xs,Qh b1 K H2 a xs)/\(∃ys,Qh b2 K H2 b ys)/\R (ad7 b1 b2 K a b) H2
def UZ {X:Cx} (K:Ab) (hK:X.K=K) {e1 e2:Expr}{t1 t2:TE}{elts:List Expr}{kk:Nat}{tp p1 p2:Pos} (hg:Gl X "zip") (hm:X.mg "zip"=none) (h1:PE X e1 t1) (h2:PE X e2 t2)
  (Je:starEach [e1,e2] X.env=(false,eval e1 X.env)::starEach [e2] X.env:=by rfl) (uR:starEach [e2] X.env=(false,eval e2 X.env)::starEach [] X.env:=by rfl) (eg:(backTo p2 (starEach [e2] X.env)).any (·.1)=false:=by rfl) :
  PI X (.Tuple elts kk tp) (.Call (.Name "zip" p1) [e1,e2] [] p2) (acP K t1 t2):=by
 subst hK;intro pins s σ H R I h;refine BH (kH I hg hm boot_zip ?_ (by decide) (by decide));refine Bh ?_ Je eg;rw [Je,uR];show wpAny _ _ (spliced ((false,eval e1 X.env)::(false,eval e2 X.env)::backTo p2 (starEach [] X.env))) _ _ s;refine B9 (bD (h1 pins s σ H _ I h) fun u1 s1 ⟨x,H1,I1,r1,q1⟩=>?_);refine B9 (bD (h2 pins s1 σ H1 _ I1 q1) fun u2 s2 ⟨y,H2,I2,r2,b1,b2,a,b,ex,ey,⟨xs,hx⟩,⟨ys,hy⟩,q⟩=>Ct ?_);subst ex;subst ey;cases r1;cases r2;obtain⟨au,rx,tx,_⟩:=I2.sqx hx;obtain⟨bL,ry,ty,_⟩:=I2.sqx hy;have l1:a < s2.heap.objs.size:=tx.lt;have l2:b < s2.heap.objs.size:=ty.lt;refine Pu tx ty fun h' zt k=>?_;refine wpAny_pyIter_zip zt.zip ?_;have dd:∀i j:Nat,i≠j->s2.heap.objs.size+i≠s2.heap.objs.size+j:=fun i j n e=>n (Nat.add_left_cancel e);have na:∀i:Nat,a≠s2.heap.objs.size+i:=fun i=>AI (AA l1 (Bz _ _));have nb:∀i:Nat,b≠s2.heap.objs.size+i:=fun i=>AI (AA l2 (Bz _ _));have hA:ZipApart (s2.heap.objs.size+4) (s2.heap.objs.size+2) (s2.heap.objs.size+3) s2.heap.objs.size (s2.heap.objs.size+1) a b:=
  ⟨dd 2 4 (by decide),dd 3 4 (by decide),dd 0 4 (by decide),dd 1 4 (by decide),dd 2 3 (by decide),dd 2 0 (by decide),dd 2 1 (by decide),dd 3 0 (by decide),dd 3 1 (by decide),dd 0 1 (by decide),na 4,na 3,na 0,na 1,nb 4,nb 3,nb 0,nb 1⟩
 refine⟨_,_,_,_,H2,rfl,I2.kept (t':=s2.toks) k,N6 hA,zt,fun c hc=>?_,q⟩;have hle:s2.heap.objs.size<=c:=by
  simp only [Ay,BA,or_false] at hc;rcases hc with rfl | rfl | rfl | rfl | rfl
  ·exact Bz _ _
  ·exact Bz _ _
  ·exact Bz _ _
  ·exact An _
  ·exact Bz _ _
 exact I2.GX hle (I2.bG.fresh hle)
section
variable {X:Cx}
def abW (K:Ab):V->Option Int->Option Int->Hp->VK->Prop:=fun x lo hi H Q=>∃a xs,x=.ref a/\dD K H a xs/\
 ((HT.ef xs.length 0 lo=0/\HT.ef xs.length xs.length hi=xs.length)->Q x H)/\(¬(HT.ef xs.length 0 lo=0/\HT.ef xs.length xs.length hi=xs.length)->mn H (.tup (Hh xs lo hi)) Q)
def UD (K:Ab) (hK:X.K=K):SlR X (abW K):=by
 subst hK;intro pins s σ H x v vl vu lo hi sl Q I rx hs pl pu h;obtain⟨a,xs,rfl,hT,qw,qn⟩:=h;by_cases c:HT.ef xs.length 0 lo=0/\HT.ef xs.length xs.length hi=xs.length
 ·have q:=qw c;cases rx;obtain⟨au,r,ht,hz⟩:=I.tuple hT;have hlen:au.toArray.size=xs.length:=by rw [Ah];exact r.length.symm
  refine⟨"tuple",_,Bi.lookup,ht.typeIs,?_⟩;obtain⟨os,Qd,hcs,V3⟩:=id hs;have hTs:s.TypeIs (.ref sl) "slice":=⟨os,Qd,hcs⟩;unfold getItem
  try with_reducible refine A9 ?_
  first | refine Aa (Ag ?_) | skip
  refine Aa (D5 ht.typeIs (by decide) ?_);refine Aa (AW (name:=Ce "__getitem__") ht.typeIs Bi
   (Bb Bi ht.typeIs entry_tuple_getitem ?_ (args_tuple_getitem _ _)))
  show wpAny _ _ (Builtin.Tuple.tupleItemsOf (.ref a) >>= _) _ _ s;refine Aa (tupleItemsOf_ ht ?_);refine Aa (Cf hTs ?_);rw [if_pos (by decide)];refine Aa (HT.jK hs pl pu ?_);show wpAny _ _ (if (((HT.ef au.toArray.size 0 lo:Nat):Int)==0&&(1:Int)==1&&(HT.ef au.toArray.size au.toArray.size hi-HT.ef au.toArray.size 0 lo)==au.toArray.size)=true then _ else _) _ _ s;rw [if_pos (by rw [hlen,c.1,c.2];simp)];refine Aa ?_;unfold Builtin.Tuple.tupleIsExact
  first
   | refine Aa (Cf ht.typeIs (Ag ?_))
   | refine Cf ht.typeIs (Ag ?_)
  first
   | rw [if_pos (by decide)]
   | rw [if_pos rfl]
  refine Aa (CO (Ag ⟨_,rfl,?_⟩));exact Ag ⟨.ref a,H,I,rfl,q⟩
 ·exact Yt pins s σ H _ v vl vu lo hi sl Q I rx hs pl pu ⟨a,xs,rfl,hT,c,fun p hp=>(qn c).at p hp⟩
def ab4 (K:Ab):R2:=fun x y H Q=>∃a b xs ys,x=.ref a/\y=.ref b/\dD K H a xs/\dD K H b ys/\xs.length+ys.length<=sizeLine/\
 (xs=[]->Q (.ref b) H)/\(xs≠[]->ys=[]->Q (.ref a) H)/\(xs≠[]->ys≠[]->mn H (.tup (xs++ys)) Q)
def Vd (K:Ab) (hK:X.K=K):ir X (binaryOp .Add) (ab4 K):=by
 subst hK;intro pins s σ H x y v u Q I rx ry h;obtain⟨a,b,xs,ys,rfl,rfl,ha,hb,hz,q0,q1,q2⟩:=h;by_cases c:xs=[]
 ·cases rx;cases ry;obtain⟨au,r1,p1,_⟩:=I.tuple ha;obtain⟨bL,r2,p2,_⟩:=I.tuple hb;obtain⟨⟨cls,dd,data,sl⟩,ho,hc,n,hd⟩:=id p1;obtain⟨⟨aal,Wy,data2,TV⟩,O1,Sl,n2,hd2⟩:=id p2;simp only at hc hd Sl hd2;subst hc hd Sl hd2;exact concat_meets ⟨_,ho,rfl⟩ ⟨_,O1,rfl⟩ noFill_tuple_add seq_tuple_add CW CS (CG _ _)
   (tuple_addW0 a b au.toArray bL.toArray n n2 dd Wy sl TV (by rw [r1.kC.mpr c];rfl)) ⟨ho,O1,.ref b,H,I,rfl,q0 c⟩
 ·exact Na pins s σ H _ _ v u Q I rx ry ⟨a,b,xs,ys,rfl,rfl,ha,hb,c,hz,q1 c,fun n p hp=>(q2 c n).at p hp⟩
end
end L2
namespace FL
section
open PySem PySem.Spec PyProof.Rows L2 PL
variable {K:Ab}
section
variable {X:Cx}{a b c e:Expr}{pos p p1 p2:Pos}{fs:aY}{w wa wb:W PV}{wl wm:W (List PV)}
def addW:PV->PV->W PV
 | .int i,.int j=>.ret (.int (i+j))
 | .str a,.str b=>.gB (a.length+b.length<=sizeLine) (.ret (.str (a++b)))
 | .tup a,.tup b=>.gB (a.length+b.length<=sizeLine) (.ret (.tup (a++b)))
 | _,_=>.fail
def cj (hK:X.K=K) (ha:EF X K fs a wa) (hb:EF X K fs b wb):EF X K fs (.BinOp a .Add b pos) (.bind wa fun x=>.bind wb fun y=>addW x y):=
 ⟨PE.imp (M4 ((Vf K hK).or (Vd K hK)) ha.p hb.p) fun σ H Q ⟨sr,q⟩=>⟨sr,wa.mono (fun x q1 u1 H1 g1 s1 v1=>⟨s1,wb.mono (fun y q2 u2 H2 g2 s2 v2=>by
  have v1':=g2.vr s1 v1;cases v1' with
  | int i=>
   cases v2 with
   | int j=>exact .inl ⟨_,rfl,q2 _ H2 (g1.trans g2) s2 (.int _)⟩
   | _=>exact q2.elim
  | str i=>
   cases v2 with
   | str j=>exact .inl ⟨_,rfl,q2.1,q2.2 _ H2 (g1.trans g2) s2 (.str _)⟩
   | _=>exact q2.elim
  | @tup p vs l e r=>
   cases v2 with
   | @tup p' TR l' e' r'=>
    have q2:(W.gB (l.length+l'.length<=sizeLine) (W.ret (PV.tup (l++l')))).run _:=q2;refine .inr ⟨p,p',vs,TR,rfl,rfl,dD.of e,dD.of e',by rw [r.length,r'.length];exact q2.1,fun z=>?_,fun _ z=>?_,fun _ _ q H3 s3 h3 n3=>?_⟩
    ·have z':=(PL.aM.kC r).mp z;subst z';exact q2.2 _ H2 (g1.trans g2) s2 (.tup e' r')
    ·have z':=(PL.aM.kC r').mp z;subst z';have q2:=q2.2;rw [CJ] at q2;exact q2 _ H2 (g1.trans g2) s2 (.tup e r)
    ·exact q2.2 _ H3 ((g1.trans g2).trans (cW.same s3)) (s2.same s3) (.tup h3 (aM.tk s3.fy (r.append r')))
   | _=>exact q2.elim
  | _=>exact q2.elim) q1⟩) q⟩⟩
theorem ng:∀(l m:List PV),(gV l m).length=min l.length m.length
 | [],m=>by rw [gV];simp;intros;simp_all
 | x::l,[]=>by rw [gV];simp;intros;simp_all
 | x::l,y::m=>by rw [gV,Ao,ng l m];simp only [Ao];omega
def yb (l m:List PV):W (List PV):=.gB (l.length<=sizeLine) (.ret (gV l m))
def Xd {H:Hp}{u:V}{l:List PV} (h:SqI K H u l):∃(b:Bool) (a:Addr) (vs:List V),u=.ref a/\aM K [] H vs l/\∀H',bq K H H'->Qh b K H' a vs:=by
 obtain⟨a,vs,e,h | h,r⟩:=h
 ·exact⟨true,a,vs,e,r,fun H' t=>(t.f _ _ h).sq⟩
 ·exact⟨false,a,vs,e,r,fun H' t=>dD.of (t.t _ _ h)⟩
def GG (hK:X.K=K) {elts:List Expr}{kk:Nat}{tp:Pos} (hg:Gl X "zip") (hm:X.mg "zip"=none) (ha:IF X K fs a wl) (hb:IF X K fs b wm)
  (Je:starEach [a,b] X.env=(false,eval a X.env)::starEach [b] X.env:=by rfl) (uR:starEach [b] X.env=(false,eval b X.env)::starEach [] X.env:=by rfl) (eg:(backTo p2 (starEach [b] X.env)).any (·.1)=false:=by rfl) :
  u7 X K fs (.Tuple elts kk tp) (.Call (.Name "zip" p1) [a,b] [] p2) (.bind wl fun l=>.bind wm fun m=>yb l m):=
 ⟨PI.imp (UZ K hK hg hm ha.p hb.p Je uR eg) fun σ H R ⟨sr,q⟩=>⟨sr,wl.mono (fun l q1 u1 H1 g1 s1 v1=>⟨s1,wm.mono (fun m q2 u2 H2 g2 s2 v2=>by
  obtain⟨b1,a1,vs,rfl,r1,x1⟩:=Xd (v1.tk (g2.eY s1));obtain⟨b2,a2,ws,rfl,r2,x2⟩:=Xd v2;have tr:bq K H2 H2:=bq.refl H2;refine⟨b1,b2,a1,a2,rfl,rfl,⟨vs,x1 H2 tr⟩,⟨ws,x2 H2 tr⟩,q2.2 _ H2 (g1.trans g2) s2 ⟨by rw [ng];have:=q2.1;omega,fun H' t=>⟨fun i pp hp=>?_,vs,ws,x1 H' t,x2 H' t,?_⟩⟩⟩
  ·obtain⟨x,y,hx,hy,rfl⟩:=pI hp;obtain⟨v,h3,h4⟩:=(aM.tk t r1).get hx;obtain⟨v',LG,ZW⟩:=(aM.tk t r2).get hy;refine⟨⟨vs,ws,v,v',x1 H' t,x2 H' t,h3,LG⟩,fun z H3 yl=>?_⟩;obtain⟨p,x',y',rfl,hn,rfl,e1,e2⟩:=yl;have e1:=e1 vs (x1 H' t);have e2:=e2 ws (x2 H' t);rw [h3] at e1;rw [LG] at e2;cases e1;cases e2;have sm:=mh hn (.tup [v,v']);exact⟨sm,.tup aR (.cons (VR.tk sm.fy h4) (.cons (VR.tk sm.fy ZW) .nil))⟩
  ·rw [ng,r1.length,r2.length];omega) q1⟩) q⟩⟩
variable {el eh:Option Expr}{lo hi:W (Option Int)}
def Og (x:PV) (i j:Option Int):W PV:=match x with
 | .tup l=>.ret (.tup (pq l i j))
 | _=>.fail
def Pr {l:List PV}{i j:Option Int} (h:HT.ef l.length 0 i=0/\HT.ef l.length l.length j=l.length):pq l i j=l:=by
 unfold pq;rw [h.1,h.2];simp
def NM (hK:X.K=K) (he:EF X K fs e w) (hl:OF X K fs el lo) (hh:OF X K fs eh hi):EF X K fs (.Subscript e (.Slice el eh none p2) pos) (.bind w fun x=>.bind lo fun i=>.bind hi fun j=>Og x i j):=⟨PE.imp (Rb (UD K hK) he.p hl.p hh.p) fun σ H Q ⟨sr,q⟩=>⟨sr,w.mono (fun x q1 u1 H1 g1 s1 v1=>⟨s1,lo.mono (fun i q2 H2 g2 s2=>⟨s2,hi.mono (fun j q3 H3 g3 s3=>by
 have v1':=g3.vr s2 (g2.vr s1 v1);have gg:=(g1.trans g2).trans g3;cases v1' with
 | @tup p vs l e r=>
  have hlen:=r.length;refine⟨p,vs,rfl,dD.of e,fun c=>?_,fun c q H4 s4 h4 n4=>?_⟩
  ·rw [hlen] at c;have q3:(W.ret (PV.tup (pq l i j))).run _:=q3;rw [Pr c] at q3;exact q3 _ H3 gg s3 (.tup e r)
  ·exact q3 _ H4 (gg.trans (cW.same s4)) (s3.same s4) (.tup h4 (aM.tk s4.fy (r.cut i j)))
 | _=>exact q3.elim) q2⟩) q1⟩) q⟩⟩
end
end
section
open PySem PySem.Spec PyProof.Rows L2 PL
variable {K:Ab}
section
variable {X:Cx}{pins:List (Addr×Obj)}{σ:L2.St}{H:Hp}{s:Shared}
open Classical in
noncomputable def NK (K:Ab) (H:Hp) (x:PV) (w:Value):Bool:=decide (∃p v,RelV v w/\VR K [] H v p/\dE p x=true)
open Classical in
def SR (hK:X.K=K) (I:Inv X pins σ H s) {x p:PV}{v:V}{w:Value} (r:RelV v w) (h:VR K [] H v p):NK K H x w=dE p x:=by
 subst hK;unfold NK;cases e:dE p x with
 | true=>exact decide_eq_true ⟨p,v,r,h,e⟩
 | false=>
  refine decide_eq_false ?_;rintro⟨p',v',r',h',e'⟩;have:=QP r r';subst this;rw [VR.T4 I h h',e'] at e;cases e
theorem G6 (hK:X.K=K) (I:Inv X pins σ H s) {x:PV}:∀{vs:List V}{au:List Value}{l:List PV},Vals vs au->aM K [] H vs l->au.map (NK K H x)=l.map fun y=>dE y x
 | _,_,_,.nil,.nil=>rfl
 | _,_,_,.cons r t,.cons q z=>by rw [Au,Au,SR hK I r q,G6 hK I t z]
def R6 (x:PV) (l:List PV):Prop:=PV.eL x=true/\fY l=true/\eF l<=150
theorem w5 (hK:X.K=K) (I:Inv X pins σ H s) {A:Around}{x:PV}{v:V}{w:Value} (hx:VR K [] H v x) (rx:RelV v w) (dx:PV.eL x=true) (hu:A.units+150+1 < cLine) :
  ∀{vs:List V}{au:List Value}{l:List PV},Vals vs au->aM K [] H vs l->fY l=true->eF l<=150->∀u∈au,Eu A s u w (NK K H x u)
 | _,_,_,.nil,.nil,_,_,u,hu=>by cases hu
 | _,_,_,.cons r t,.cons q z,d,dd,u,hm=>by
  rw [fY,AM] at d;rw [eF] at dd;rcases Ay.mp hm with rfl | hm
  ·rw [SR hK I r q];exact (aak hK I 150 _ x A _ v _ w (by omega) d.1 dx q hx r rx hu).eq
  ·exact w5 hK I hx rx dx hu t z d.2 (by omega) u hm
end
def qC (x:PV) (l:List PV):Bool:=l.any fun y=>dE y x
def UM (K:Ab) (neg:Bool):R2:=fun x y H Q=>∃p vs l xp,y=.ref p/\(df K H p vs\/dD K H p vs)/\aM K [] H vs l/\VR K [] H x xp/\R6 xp l/\Q (.bl (if neg then !qC xp l else qC xp l)) H
section
variable {X:Cx}
theorem any_map' {α:Type} (f:α->Bool):∀l:List α,l.any f=(l.map f).any id
 | []=>rfl
 | x::l=>by rw [B5,Au,B5,any_map' f l];rfl
def Rm (K:Ab) (hK:X.K=K) (hu:X.A.units+200 < cLine):ir X (compareOp .In) (UM K false):=by
 intro pins s σ H x y v u Q I rx ry h;obtain⟨p,vs,l,xp,rfl,hq,hl,hx,ok,q⟩:=h;cases ry;have hu':X.A.in1.units+150+1 < cLine:=by show X.A.units+1+150+1 < _;omega
 have q:Q (.bl (qC xp l)) H:=q;have fin:∀{au:List Value},Vals vs au->au.toArray.any (NK K H xp)=qC xp l:=fun {au} r=>by
  rw [show au.toArray.any (NK K H xp)=au.any (NK K H xp) by simp,any_map',G6 hK I r hl,<- any_map'];rfl
 rcases hq with hq | hq
 ·obtain⟨au,r,pl,hz⟩:=I.list (show df X.K H p vs by rw [hK];exact hq);refine SeqAt.in_listAt (NK K H xp) pl.isList (fun w hw=>w5 hK I hx rx ok.1 hu' r hl ok.2.1 ok.2.2 w (by simpa using hw)) ⟨.bl _,H,I,rfl,?_⟩;rw [fin r];exact q
 ·obtain⟨au,r,pl,hz⟩:=I.tuple (show dD X.K H p vs by rw [hK];exact hq);refine SeqAt.in_tupleAt (NK K H xp) pl (fun w hw=>w5 hK I hx rx ok.1 hu' r hl ok.2.1 ok.2.2 w (by simpa using hw)) ⟨.bl _,H,I,rfl,?_⟩;rw [fin r];exact q
def Va (K:Ab) (hK:X.K=K) (hu:X.A.units+200 < cLine):ir X (compareOp .NotIn) (UM K true):=by
 intro pins s σ H x y v u Q I rx ry h;obtain⟨p,vs,l,xp,rfl,hq,hl,hx,ok,q⟩:=h;cases ry;have hu':X.A.in1.units+150+1 < cLine:=by show X.A.units+1+150+1 < _;omega
 have q:Q (.bl (!qC xp l)) H:=q;have fin:∀{au:List Value},Vals vs au->au.toArray.any (NK K H xp)=qC xp l:=fun {au} r=>by
  rw [show au.toArray.any (NK K H xp)=au.any (NK K H xp) by simp,any_map',G6 hK I r hl,<- any_map'];rfl
 rcases hq with hq | hq
 ·obtain⟨au,r,pl,hz⟩:=I.list (show df X.K H p vs by rw [hK];exact hq);refine SeqAt.notIn_listAt (NK K H xp) pl.isList (fun w hw=>w5 hK I hx rx ok.1 hu' r hl ok.2.1 ok.2.2 w (by simpa using hw)) ⟨.bl _,H,I,rfl,?_⟩;rw [fin r];exact q
 ·obtain⟨au,r,pl,hz⟩:=I.tuple (show dD X.K H p vs by rw [hK];exact hq);refine SeqAt.notIn_tupleAt (NK K H xp) pl (fun w hw=>w5 hK I hx rx ok.1 hu' r hl ok.2.1 ok.2.2 w (by simpa using hw)) ⟨.bl _,H,I,rfl,?_⟩;rw [fin r];exact q
end
end
section
open PySem PySem.Spec PyProof.Rows L2 PL
variable {K:Ab}
section
variable {X:Cx}{a b c e:Expr}{pos p:Pos}{fs:aY}{wa:W PV}{wl:W (List PV)}
def ur (neg:Bool) (x:PV) (l:List PV):W Bool:=.gB (R6 x l) (.ret (if neg then !qC x l else qC x l))
def blW (b:Bool):W PV:=.ret (.bl b)
def Z3 {neg:Bool}:∀σ H Q,fE K fs (.bind wa fun x=>.bind wl fun l=>.bind (ur neg x l) blW) σ H Q->Xb (UM K neg) (fE K fs wa) (fQ K fs wl) σ H Q:=fun σ H Q ⟨sr,q⟩=>
 ⟨sr,wa.mono (fun x q1 u1 H1 g1 s1 v1=>⟨s1,wl.mono (fun l q2 u2 H2 g2 s2 v2=>by
  obtain⟨ad,vs,rfl,h,rs⟩:=v2.sq s2;exact⟨ad,vs,l,x,rfl,h,rs,g2.vr s1 v1,q2.1,q2.2 _ H2 (g1.trans g2) s2 (.bl _)⟩) q1⟩) q⟩
def SA {neg:Bool}:∀σ H Q,fT K fs (.bind wa fun x=>.bind wl fun l=>ur neg x l) σ H Q->Xb (UM K neg) (fE K fs wa) (fQ K fs wl) σ H fun x H'=>∃k,x=.bl k/\Q k H':=fun σ H Q ⟨sr,q⟩=>
 ⟨sr,wa.mono (fun x q1 u1 H1 g1 s1 v1=>⟨s1,wl.mono (fun l q2 u2 H2 g2 s2 v2=>by
  obtain⟨ad,vs,rfl,h,rs⟩:=v2.sq s2;exact⟨ad,vs,l,x,rfl,h,rs,g2.vr s1 v1,q2.1,_,rfl,q2.2 H2 (g1.trans g2) s2⟩) q1⟩) q⟩
def XU (hK:X.K=K) (hu:X.A.units+200 < cLine) (ha:EF X K fs a wa) (hb:QF X K fs b wl) (hk:behindInMarks .In b=false:=by rfl):EF X K fs (.Compare a [.In] [b] pos) (.bind wa fun x=>.bind wl fun l=>.bind (ur false x l) blW):=⟨PE.imp (uH (Rm K hK hu) ha.p hb.p hk) (Z3 (neg:=false))⟩
def abp (hK:X.K=K) (hu:X.A.units+200 < cLine) (ha:EF X K fs a wa) (hb:QF X K fs b wl) (hk:behindInMarks .In b=false:=by rfl):TF X K fs (.Compare a [.In] [b] pos) (.bind wa fun x=>.bind wl fun l=>ur false x l):=⟨PT.imp (pY (Rm K hK hu) ha.p hb.p hk) (SA (neg:=false))⟩
def zZ (hK:X.K=K) (hu:X.A.units+200 < cLine) (ha:EF X K fs a wa) (hb:QF X K fs b wl) (hk:behindInMarks .NotIn b=false:=by rfl):TF X K fs (.Compare a [.NotIn] [b] pos) (.bind wa fun x=>.bind wl fun l=>ur true x l):=⟨PT.imp (pY (Va K hK hu) ha.p hb.p hk) (SA (neg:=true))⟩
abbrev acN (neg:Bool) (wa:W PV) (wl:W (List PV)):W PV:=.bind wa fun x=>.bind wl fun l=>.bind (ur neg x l) blW
abbrev R7 (neg:Bool) (wa:W PV) (wl:W (List PV)):W Bool:=.bind wa fun x=>.bind wl fun l=>ur neg x l
def sortI (ns:List Int):List Int:=ns.mergeSort (fun a b=>decide (a<=b))
def QE {ms ns:List Int} (h1:ms.Perm ns) (h2:ms.Pairwise (·<=·)):ms=sortI ns:=by
 have h3:(sortI ns).Perm ns:=CD ns _;have h4:(sortI ns).Pairwise (fun a b=>decide (a<=b)=true):=Ej (fun a b c=>by simp;omega) (fun a b=>by simp;omega) ns;exact List.Perm.eq_of_pairwise (le:=fun a b=>a<=b) (fun a b _ _ h h'=>Int.le_antisymm h h') h2 (h4.imp (by simp)) (h1.trans h3.symm)
def FP (l:List PV):W (List PV):=.bind (wC l) fun ns=>.gB (ns.length < 64) (.ret ((sortI ns).map PV.int))
def VA (hK:X.K=K) (hg:Gl X "sorted") (hm:X.mg "sorted"=none) (ha:J7 X K fs e wl) (he:starEach [e] X.env=(false,eval e X.env)::starEach [] X.env:=by rfl) (eg:(backTo pos (starEach [] X.env)).any (·.1)=false:=by rfl):LF X K fs (.Call (.Name "sorted" p) [e] [] pos) (.bind wl FP):=⟨PE.imp (gm (L1 K hK) hg hm boot_sorted (bt ha.p dc he) (by decide) (by decide) he eg) fun σ H Q ⟨sr,q⟩=>⟨sr,wl.mono (fun l q1 u1 H1 g1 s1 _ v1=>by
 obtain⟨ns,el,hC,q2⟩:=sd (l:=l) q1;obtain⟨a,vs,rfl,h1,r1⟩:=v1 H1 .refl s1;rw [el] at r1;have:=qx r1;subst this;refine⟨a,ns,rfl,h1,hC,fun ms a2 a3=>?_⟩;rw [QE a2 a3];exact Nd g1 s1 (qz _ _ _) q2) q⟩⟩
end
end
section
open PySem PySem.Spec PyProof.Rows L2 PL
variable {K:Ab}
section
variable {X:Cx}{e:Expr}{rest:List Stmt}{pos p apos bI e7:Pos}{fs:aY}{T:Type}{out:T->End}{x:Bool}{we wi wa wb:W PV}{wl:W (List PV)}{q0:Option Addr}{l:List PV}{y:Str}
def ZK (l:List PV):PV->W PV
 | .int k=>.gB (0<=k/\k < 1000) (.Rq l[k.toNat]?)
 | _=>.fail
def SF.ahj (i:Nat) {ei:Expr}{op:Operator}{ti:TIp}{M:M2}{k:List PV->W T} (hs:fs[i]?=some (some (.ol q0 l))) (hK:X.K=K) (hN:X.N[i]?=some y) (hv:Hv X.env.scope y) (hi:EF X K fs ei wi) (he:EF X K fs e we) (ho:PIp X op ti) (hM:M2.Ok K ti M) (hr:∀l',SF X K x (fs.set i (some (.ol q0 l'))) rest (k l') out)
  (hd:(y==("__debug__":Str))=false:=by decide) (jw:(y==("__classdict__":Str))=false:=by decide)
  (ha:∀ov iv new,augStore ei ov iv new=(do holding [new,ov,iv] (setItem ov iv new);release [new,ov,iv] [];pure .next):=by intros;rfl) :
  SF X K x fs (.AugAssign (.Subscript (.Name y p) ei e7) op e pos::rest) (.bind wi fun n=>.bind (ZK l n) fun g=>.bind we fun v=>.bind (of2 M g v) fun r=>.bind (gG l n r) k) out:=
 SF.step (UU (dw hN hv hd jw) hi.p (Sq K hK) he.p ho rq ha) fun D σ H ⟨sr,q⟩=>by
  obtain⟨a,ws,e1,h1,r1⟩:=de sr hs;refine⟨_,e1,sr,wi.mono (fun n q1 u1 H1 g1 s1 v1=>?_) q⟩;obtain⟨a',ws1,pH,iR,HH⟩:=de s1 hs;rw [e1] at pH;cases pH;cases v1 with
  | int kk=>
   have q1:(0<=kk/\kk < 1000)/\(W.Rq l[kk.toNat]?).run _:=q1;obtain⟨⟨b1,b2⟩,q1⟩:=q1;cases hg:l[kk.toNat]? with
   | none=>rw [hg] at q1;exact q1.elim
   | some g=>
    rw [hg] at q1;obtain⟨u,hu,ru⟩:=HH.get hg;refine⟨a,ws1,kk,u,rfl,rfl,df.of iR,b1,b2,hu,s1,we.mono (fun v q2 u2 H2 g2 s2 v2=>?_) q1⟩;refine Gb hM s2 (g2.vr s1 ru) v2 ((of2 M g v).mono (fun r q3 u3 H3 g3 s3 v3=>?_) q2);obtain⟨a',ws3,XY,LG,YL⟩:=de s3 hs;rw [e1] at XY;cases XY;have q3:(match qt l.length kk with | some j=>W.ret (l.set j r) | none=>W.fail).run _:=q3;cases hj:qt l.length kk with
    | none=>rw [hj] at q3;exact q3.elim
    | some j=>
     rw [hj] at q3;refine⟨a,ws3,kk,j,rfl,rfl,LG,by rw [YL.length];exact hj,fun H4 sx h4=>?_⟩;obtain⟨s4,g4⟩:=kA s3 hs e1 sx h4 (YL.set v3 j);exact⟨_,k _,hr _,s4,(k _).mono (fun t q4=>q4.go (((g1.trans g2).trans g3).f.trans g4) sr s4) q3⟩
  | _=>exact q1.elim
def UC (l:List PV) (i j:PV) (m:List PV):W (List PV):=match i,j with
 | .int a,.int c=>.gB (0<=a/\a<=c/\c<=l.length/\l.length+m.length<=sizeLine) (.ret (l.take a.toNat++m++l.drop c.toNat))
 | _,_=>.fail
def SF.abL (i:Nat) {lo hi:Expr}{p2:Pos}{k:List PV->W T} (hs:fs[i]?=some (some (.ol q0 l))) (hN:X.N[i]?=some y) (hv:Hv X.env.scope y) (he:LF X K fs e wl) (hl:EF X K fs lo wa) (hh:EF X K fs hi wb) (hr:∀l',SF X K x (fs.set i (some (.ol q0 l'))) rest (k l') out)
  (ha:∀v,assign (.Subscript (.Name y p) (.Slice (some lo) (some hi) none p2) e7) X.env v=(do
   let ov <- holding [v] (eval (.Name y p) X.env)
   let iv <- holding [v,ov] (eval (.Slice (some lo) (some hi) none p2) X.env)
   standAt e7
   holding [v,ov,iv] (setItem ov iv v)
   release [iv,v,ov] []):=by intro _;rfl)
  (hd:(y==("__debug__":Str))=false:=by decide) (jw:(y==("__classdict__":Str))=false:=by decide)
  (hss:swapsWithSole [.Subscript (.Name y p) (.Slice (some lo) (some hi) none p2) e7] e pos.line X.env=pure false:=by rfl) (hw:swappedStores [.Subscript (.Name y p) (.Slice (some lo) (some hi) none p2) e7] e X.env=pure none:=by rfl)
  (h1:(assignEach [.Subscript (.Name y p) (.Slice (some lo) (some hi) none p2) e7] X.env).map (·.2)=[assign (.Subscript (.Name y p) (.Slice (some lo) (some hi) none p2) e7) X.env]:=by rfl) :
  SF X K x fs (.Assign [.Subscript (.Name y p) (.Slice (some lo) (some hi) none p2) e7] e pos::rest) (.bind wl fun m=>.bind wa fun a=>.bind wb fun b=>.bind (UC l a b m) k) out:=
 SF.step (F0 he.p (Q9 (dw hN hv hd jw) hl.p hh.p ha) hss hw h1) fun D σ H ⟨sr,q⟩=>by
  refine⟨sr,wl.mono (fun m q1 b vb H1 g1 s1 nb eb rb=>?_) q⟩;obtain⟨a,ws,e1,h1,r1⟩:=de s1 hs;refine⟨_,e1,s1,wa.mono (fun i1 q2 u2 H2 g2 s2 v2=>⟨s2,wb.mono (fun j1 q3 u3 H3 g3 s3 v3=>?_) q2⟩) q1⟩;obtain⟨a',ws3,XY,LG,YL⟩:=de s3 hs;rw [e1] at XY;cases XY;have v2':=g3.vr s2 v2;have no:¬dj σ fs b:=sr.noOwn nb;have eb3:=(g2.trans g3).tH eb no;have rb3:=(g2.trans g3).P7 s1 rb;have ne:a≠b:=fun z=>no ⟨i,_,a,hs,rfl,e1,.inl z.symm⟩;cases v2' with
  | int aa=>
   cases v3 with
   | int cc=>
    have q3:(0<=aa/\aa<=cc/\cc<=l.length/\l.length+m.length<=sizeLine)/\(k (l.take aa.toNat++m++l.drop cc.toNat)).run _:=q3;obtain⟨⟨c1,c2,c3,c4⟩,q3⟩:=q3;refine⟨a,b,ws3,vb,aa,cc,rfl,rfl,rfl,rfl,LG,eb3,ne,c1,c2,by rw [YL.length];exact c3,by rw [YL.length,rb3.length];exact c4,?_⟩;have sx:qT a H3 (upd H3 a (.lst (ws3.take aa.toNat++vb++ws3.drop cc.toNat))):=fun z o n hz=>by rw [ay n];exact hz
    obtain⟨s4,g4⟩:=kA s3 hs e1 sx aR (((YL.take aa.toNat).append rb3).append (YL.drop cc.toNat));exact⟨_,k _,hr _,s4,(k _).mono (fun t q4=>q4.go (((g1.trans g2).trans g3).f.trans g4) sr s4) q3⟩
   | _=>exact q3.elim
  | _=>exact q3.elim
def YC (l:List PV) (v:PV):W (List PV):=match v with
 | .int k=>.bind (wC l) fun ns=>.gB (k∈ns) (.ret ((ns.erase k).map PV.int))
 | _=>.fail
theorem SF.remove (i:Nat) {k:List PV->W T} (hs:fs[i]?=some (some (.ol q0 l))) (hK:X.K=K) (hN:X.N[i]?=some y) (hv:Hv X.env.scope y) (he:EF X K fs e we) (hr:∀l',SF X K x (fs.set i (some (.ol q0 l'))) rest (k l') out)
  (hd:(y==("__debug__":Str))=false:=by decide) (jw:(y==("__classdict__":Str))=false:=by decide) (gA:attributeBase (.Name y p) "remove" X.env (eval (.Name y p) X.env)=eval (.Name y p) X.env:=by rfl)
  (wJ:((backTo bI (starEach [e] X.env)).all (fun x=>!x.1)&&(backToKw bI (keywordEach [] X.env)).all (fun x=>x.1.isSome)
   && decide ([e].length+([]:List Keyword).length+(if ([]:List Keyword).isEmpty then 0 else 1) < 30))=true:=by rfl)
  (gz:(apos.endLine==bI.line)=true:=by rfl) (GJ:starEach [e] X.env=(false,eval e X.env)::starEach [] X.env:=by rfl) (iK:(backTo bI (starEach [] X.env)).any (·.1)=false:=by rfl)
  (uu:swapsWith (.Call (.Attribute (.Name y p) "remove" apos) [e] [] bI) none pos.line X.env=pure false:=by rfl) :
  SF X K x fs (.Expr (.Call (.Attribute (.Name y p) "remove" apos) [e] [] bI) pos::rest) (.bind we fun v=>.bind (YC l v) k) out:=
 SF.step (pZ (F4 K hK BW PySem.F.slot_list_remove PySem.F.type_list_remove KR (dw hN hv hd jw) (bt he.p dc GJ) gA wJ gz GJ iK) uu) fun D σ H ⟨sr,q⟩=>by
  obtain⟨a,ws,e1,h1,r1⟩:=de sr hs;refine⟨_,e1,.inl ⟨rfl,_,df.of h1⟩,sr,we.mono (fun v q1 u H1 g1 s1 v1=>?_) q⟩;obtain⟨a',t6,pH,iR,HH⟩:=de s1 hs;rw [e1] at pH;cases pH;cases v1 with
  | int kk=>
   obtain⟨ns,el,hk,q2⟩:=sd (l:=l) q1;subst el;have:=qx HH;subst this;refine⟨a,ns,kk,rfl,rfl,iR,hk,fun H2 sx h2=>?_⟩;obtain⟨s2,g2⟩:=kA s1 hs e1 sx h2 (qz _ _ (ns.erase kk));exact⟨_,k _,hr _,s2,(k _).mono (fun t q3=>q3.go (g1.f.trans g2) sr s2) q2⟩
  | _=>exact q1.elim
end
end
section
open PySem PySem.Spec PyProof.Rows L2 PL
variable {K:Ab}
abbrev w2 (f:PV->PV->W PV) (wa wb:W PV):W PV:=.bind wa fun x=>.bind wb fun y=>f x y
structure aaC (P:Program) (w:World) (K:Ab) (mg:Str->Option Value) (base:Heap) (f:Addr) (k:Nat) (ps:List Str) (sp:Sp) where
 fd:FuncData
 ok:iQ P w K mg base xW k f fd ps sp
 bi:Binds K fd ps []
 kp:Cw K (.ref f)=true
section
variable {X:Cx}{e:Expr}{es:List Expr}{pos p:Pos}{fs:aY}{k k':Nat}{ps:List Str}{x:Str}{ks:List AK}{R:Type}{B:(List PV->W R)->W R}{fa:Addr}{W':W PV}
def ahl (hg:Gl X x) (hm:X.mg x=some (.ref fa)) (hr:AF X K fs es ks B) (hd:(x==("__debug__":Str))=false:=by decide) (GJ:starEach (.Name x pos::es) X.env=(false,eval (.Name x pos) X.env)::starEach es X.env:=by rfl):AF X K fs (.Name x pos::es) (.f fa::ks) B:=by
 obtain⟨wr,hp,hB⟩:=hr.p;refine⟨wr,PA.imp (bt (F3 (v:=.ref fa) hg hm rfl hd) hp GJ) fun σ H Q ⟨sr,q⟩=>?_,hB⟩;exact⟨sr,wr.mono (fun l q2 vs H2 g2 s2 v2=>q2 _ H2 g2 s2 (.f v2)) q⟩
def Wr {m:List PV->W PV}{B:(List PV->W PV)->W PV} (i:Nat) (G:aaC X.prog X.w X.K X.mg X.base fa k ps (gY K ks m)) (hr:fv k' X.A) (hk:k<=k') (hs:fs[i]?=some (some (.adr fa))) (ha:AF X K fs (e::es) ks B) (hW:W'=B m) (hN:X.N[i]?=some x:=by rfl) (hv:Hv X.env.scope x:=by first | exact Cs rfl | exact Cj (Cs rfl) | exact Cj (Cj rfl)) (hd:(x==("__debug__":Str))=false:=by decide) (jw:(x==("__classdict__":Str))=false:=by decide)
  (he:starEach (e::es) X.env=(false,eval e X.env)::starEach es X.env:=by rfl) (eg:(backTo pos (starEach es X.env)).any (·.1)=false:=by rfl):EF X K fs (.Call (.Name x p) (e::es) [] pos) W':=by
 subst hW;obtain⟨w,hp,hB⟩:=ha.p;rw [hB];refine⟨PE.imp (Ri (dvs:=[]) (ds:=[]) (E:=E0) G.ok (hr.mono hk) (dw hN hv hd jw) G.kp G.bi .nil Xi hp he eg) fun σ H Q ⟨sr,q⟩=>?_⟩;obtain⟨u,e1,r⟩:=sr.at' i _ hs;rcases r with⟨v,e,_⟩ | ⟨a,e,r⟩
 ·cases e
 ·have r:a=fa:=r;subst r;subst e;refine⟨_,e1,rfl,sr,w.mono (fun l q1 vs H1 g1 s1 v1=>?_) q⟩;show gY K ks m (vs++[]) H1 Q E0;rw [CJ];exact⟨l,v1.c s1,(m l).mono (fun z q2 u H2 g2 r2=>let ⟨s2,g3⟩:=g2.caller v1 s1;q2 u H2 (g1.trans g3) s2 r2) q1⟩
end
def Lc:PV->W Key
 | .int i=>.ret (.inl i)
 | .str s=>.ret (.inr s)
 | _=>.fail
def mG (kvs:List (Key×PV)) (k:Key):Bool:=kvs.any fun kv=>decide (kv.1=k)
def uv (kvs:List (Key×PV)) (k:Key):Option PV:=(kvs.find? fun kv=>decide (kv.1=k)).map (·.2)
def KA (kvs:List (Key×PV)) (k:Key) (v:PV):List (Key×PV):=if mG kvs k=true then kvs.map (fun kv=>if kv.1=k then (kv.1,v) else kv) else kvs++[(k,v)]
def dg (K:Ab) (H:Hp) (vs:List (Key×V)) (kvs:List (Key×PV)):Prop:=vs.map (·.1)=kvs.map (·.1)/\aM K [] H (vs.map (·.2)) (kvs.map (·.2))
section
variable {H:Hp}
def dg.cons_inv {p:Key×V}{vs:List (Key×V)}{q:Key×PV}{kvs:List (Key×PV)} (h:dg K H (p::vs) (q::kvs)):p.1=q.1/\VR K [] H p.2 q.2/\dg K H vs kvs:=by
 obtain⟨h1,h2⟩:=h;rw [Au,Au] at h1 h2;injection h1 with a b;cases h2 with
 | cons r t=>exact⟨a,r,b,t⟩
def dg.mk {p:Key×V}{vs:List (Key×V)}{q:Key×PV}{kvs:List (Key×PV)} (e:p.1=q.1) (r:VR K [] H p.2 q.2) (h:dg K H vs kvs):dg K H (p::vs) (q::kvs):=⟨by rw [Au,Au,e,h.1],.cons r h.2⟩
theorem dg.ind {C:List (Key×V)->List (Key×PV)->Prop} (h0:C [] []) (h1:∀p q vs kvs,p.1=q.1->VR K [] H p.2 q.2->dg K H vs kvs->C vs kvs->C (p::vs) (q::kvs)):∀{vs kvs},dg K H vs kvs->C vs kvs
 | [],[],_=>h0
 | [],_::_,h=>by simp [dg] at h
 | _::_,[],h=>by simp [dg] at h
 | p::vs,q::kvs,h=>let ⟨a,b,c⟩:=h.cons_inv;h1 p q vs kvs a b c (dg.ind h0 h1 c)
def dg.has {vs:List (Key×V)}{kvs:List (Key×PV)} (h:dg K H vs kvs) (k:Key):(jn vs k).isSome=mG kvs k:=by
 rw [<- pM];unfold mG;refine dg.ind (C:=fun vs kvs=>(vs.any fun kv=>decide (kv.1=k))=kvs.any fun kv=>decide (kv.1=k)) rfl (fun p q vs kvs e _ _ ih=>?_) h;rw [B5,B5,ih,e]
def dg.get {vs:List (Key×V)}{kvs:List (Key×PV)} (h:dg K H vs kvs) (k:Key) {v:PV} (g:uv kvs k=some v):∃u,jn vs k=some u/\VR K [] H u v:=by
 refine dg.ind (C:=fun vs kvs=>uv kvs k=some v->∃u,jn vs k=some u/\VR K [] H u v) (fun g=>by simp [uv] at g) (fun p q vs kvs e r _ ih g=>?_) h g;by_cases c:p.1=k
 ·rw [lV c];have c':q.1=k:=e▸c;have:uv (q::kvs) k=some q.2:=by simp [uv,BG,c']
  rw [this] at g;cases g;exact⟨_,rfl,r⟩
 ·rw [lW c];have c':¬q.1=k:=e▸c;have:uv (q::kvs) k=uv kvs k:=by simp [uv,BG,c']
  exact ih (this▸g)
def dg.put {vs:List (Key×V)}{kvs:List (Key×PV)} (h:dg K H vs kvs) (k:Key) {u:V}{v:PV} (r:VR K [] H u v):dg K H (putK vs k u) (KA kvs k v):=by
 have hh:(vs.any fun kv=>decide (kv.1=k))=mG kvs k:=by rw [pM];exact h.has k
 unfold putK KA;rw [hh]
 split
 ·refine dg.ind (C:=fun vs kvs=>dg K H (vs.map fun kv=>if kv.1=k then (kv.1,u) else kv) (kvs.map fun kv=>if kv.1=k then (kv.1,v) else kv)) ⟨rfl,.nil⟩ (fun p q vs kvs e rr _ ih=>?_) h;rw [Au,Au];by_cases c:p.1=k
  ·rw [if_pos c,if_pos (e▸c)];exact dg.mk e r ih
  ·rw [if_neg c,if_neg (e▸c)];exact dg.mk e rr ih
 ·refine dg.ind (C:=fun vs kvs=>dg K H (vs++[(k,u)]) (kvs++[(k,v)])) ⟨rfl,.cons r .nil⟩ (fun p q vs kvs e rr _ ih=>dg.mk e rr ih) h
def dg.length {vs:List (Key×V)}{kvs:List (Key×PV)} (h:dg K H vs kvs):vs.length=kvs.length:=by
 have:=congrArg BV h.1;simpa using this
end
section
variable {X:Cx}{a e ei:Expr}{rest:List Stmt}{pos p p' e7:Pos}{fs:aY}{T:Type}{out:T->End}{x:Bool}{we wi wa:W PV}{kvs:List (Key×PV)}{y:Str}
def F9 {σ:L2.St}{H:Hp}{i:Nat} (sr:aW K H σ fs) (hs:fs[i]?=some (some (.od kvs))):∃a vs,σ[i]?=some (some (.ref a))/\H a=some (.dK vs)/\dg K H vs kvs:=by
 obtain⟨u,e1,r⟩:=sr.at' i _ hs;rcases r with⟨v,e,_⟩ | ⟨a,e,vs,q1,q2,q3⟩
 ·cases e
 ·subst e;exact⟨a,vs,e1,q1,q2,q3⟩
def SF.afL {i:Nat}{k:W T}{p2:Pos} (hN:X.N.Nodup) (hi:X.N[i]?=some y) (hx:Loc X.env.scope y) (hr:SF X K x (fs.set i (some (.od []))) rest k out) (hs:swapsWith (.Dict [] [] p2) (some (.Name y p')) pos.line X.env=pure false:=by rfl)
  (hf:X.fn y=true\/X.env.scope.names.lookup y=some .local:=by first | exact .inl rfl | exact .inr rfl | assumption):SF X K x fs (.Assign [.Name y p'] (.Dict [] [] p2) pos::rest) k out:=SF.step (vH hN hi hx Rg hs hf) fun D σ H ⟨sr,q⟩=>fun a H1 s1 e1 n1=>by
 have no:=sr.noOwn n1;have s2:=(sr.same s1).vG (t:=.od []) ⟨[],e1,rfl,.nil⟩ no i;exact⟨_,k,hr,s2,k.mono (fun t q2=>q2.go (cI.vG (sr.same s1) (cI.same s1 sr) no n1 i) sr s2) q⟩
def Xu {H:Hp}{u:V}{v:PV}{Q:Key->Prop} (r:VR K [] H u v) (q:(Lc v).run Q):∃k,u=kV k/\Q k:=by
 cases r with
 | int i=>exact⟨.inl i,rfl,q⟩
 | str s=>exact⟨.inr s,rfl,q⟩
 | _=>exact q.elim
def VT (i:Nat) (hs:fs[i]?=some (some (.od kvs))) (hN:X.N[i]?=some y) {neg:Bool}:∀σ H Q,fT K fs (.bind wa fun x=>.bind (Lc x) fun k=>.ret (if neg then !mG kvs k else mG kvs k)) σ H Q->(fE K fs wa) σ H fun u H1=>(abr i) σ H1 fun z H2=>∃a o,z=.ref a/\yO H2 a u o/\(∃b,(V.bl (if neg then !o.isSome else o.isSome))=.bl b/\Q b H2):=fun σ H Q ⟨sr,q⟩=>
 ⟨sr,wa.mono (fun v q1 u H1 g1 s1 v1=>by
  obtain⟨k,rfl,q2⟩:=Xu v1 q1;obtain⟨a,vs,e1,h1,r1⟩:=F9 s1 hs;refine⟨_,e1,a,_,rfl,yO.k h1,_,rfl,?_⟩;rw [r1.has k];exact q2 H1 g1 s1) q⟩
def abq (i:Nat) (hs:fs[i]?=some (some (.od kvs))) (hu:X.A.units+200 < cLine) (ha:EF X K fs a wa) (hN:X.N[i]?=some y:=by rfl) (hv:Hv X.env.scope y:=by first | exact Cs rfl | exact Cj (Cs rfl) | exact Cj (Cj rfl)) (hd:(y==("__debug__":Str))=false:=by decide) (jw:(y==("__classdict__":Str))=false:=by decide) (hk:behindInMarks .In (.Name y p)=false:=by rfl) :
  TF X K fs (.Compare a [.In] [.Name y p] pos) (.bind wa fun x=>.bind (Lc x) fun k=>.ret (mG kvs k)):=⟨PT.imp (YR (Y2 (by omega) ha.p (dw hN hv hd jw)) hk) (VT (neg:=false) i hs hN)⟩
def YO (kvs:List (Key×PV)) (n v:PV):W (List (Key×PV)):=.bind (Lc n) fun kk=>.gB (kvs.length < sizeLine) (.ret (KA kvs kk v))
def SF.putD (i:Nat) {k:List (Key×PV)->W T} (hs:fs[i]?=some (some (.od kvs))) (hu:X.A.units+200 < cLine) (hN:X.N[i]?=some y) (hv:Hv X.env.scope y) (he:EF X K fs e we) (hi:EF X K fs ei wi) (hr:∀l',SF X K x (fs.set i (some (.od l'))) rest (k l') out)
  (hd:(y==("__debug__":Str))=false:=by decide) (jw:(y==("__classdict__":Str))=false:=by decide) (uu:swapsWith e (some (.Subscript (.Name y p) ei e7)) pos.line X.env=pure false:=by rfl) :
  SF X K x fs (.Assign [.Subscript (.Name y p) ei e7] e pos::rest) (.bind we fun v=>.bind wi fun n=>.bind (YO kvs n v) k) out:=
 SF.step (UT (by omega) (dw hN hv hd jw) hi.p he.p uu) fun D σ H ⟨sr,q⟩=>by
  refine⟨sr,we.mono (fun v q1 u H1 g1 s1 v1=>?_) q⟩;obtain⟨a,vs,e1,h1,r1⟩:=F9 s1 hs;refine⟨_,e1,s1,wi.mono (fun n q2 u2 H2 g2 s2 v2=>?_) q1⟩;obtain⟨kk,rfl,hz,q3⟩:=Xu v2 q2;obtain⟨a',TR,pH,iR,HH⟩:=F9 s2 hs;rw [e1] at pH;cases pH;refine⟨a,_,rfl,TN.k iR (by rw [HH.length];exact hz),?_⟩;have sx:qT a H2 (upd H2 a (.dK (putK TR kk u))):=fun z o n hz=>by rw [ay n];exact hz
  obtain⟨s3,g3⟩:=oB (t':=.od (KA kvs kk v)) s2 hs rfl (by simp) e1 sx fun tk=>⟨_,aR,(HH.put kk (g2.vr s1 v1)).1,aM.tk tk (HH.put kk (g2.vr s1 v1)).2⟩;exact⟨_,k _,hr _,s3,(k _).mono (fun t q4=>q4.go ((g1.trans g2).f.trans g3) sr s3) q3⟩
end
end
section
open PySem PySem.Spec PyProof.Rows L2 PL
variable {K:Ab}
def fAs (K:Ab) (fs:aY) (i:Nat) (w:W (List PV)):TS:=fun D σ H=>aW K H σ fs/\w.run fun l=>∀a vs H',cW σ fs H H'->aW K H' σ fs->H a=none->H' a=some (.lst vs)->aM K [] H' vs l->D.nx (σ.set i (some (.ref a))) H'
structure AS (X:Cx) (K:Ab) (fs:aY) (st:Stmt) (i:Nat) (w:W (List PV)):Prop where p:PS X st (fAs K fs i w)
section
variable {X:Cx}{st:Stmt}{rest:List Stmt}{fs:aY}{i:Nat}{wl:W (List PV)}{T:Type}{out:T->End}{x:Bool}{k:List PV->W T}
def SF.as (h:AS X K fs st i wl) (hr:∀l,SF X K x (fs.set i (some (.ol none l))) rest (k l) out):SF X K x fs (st::rest) (.bind wl k) out:=SF.step h.p fun D σ H ⟨sr,q⟩=>⟨sr,wl.mono (fun l q1 a ws H1 g1 s1 n e v1=>by
 have no:=sr.noOwn n;have s2:=s1.vG (t:=.ol none l) ⟨by simp,ws,e,v1⟩ no i;exact⟨_,k l,hr l,s2,(k l).mono (fun t q2=>q2.go (cI.vG s1 g1.f no n i) sr s2) q1⟩) q⟩
def aaq (b:Nat) {q0:Option Addr}{l:List PV} (hs:fs[b]?=some (some (.ol q0 l))) (h:AS X K (fs.set b (some (.val (.cl l)))) st i wl):AS X K fs st i (.bind wl Qu):=⟨fun pins s σ H D I ⟨sr,q⟩=>by
 obtain⟨a,ws,ob,I2,s2,back⟩:=bor I sr hs;refine bD (h.p pins s σ _ {nx:=fun σ' H1=>∃b vs l',σ'=σ.set i (some (.ref b))/\cW σ (fs.set _ (some (.val (.cl l)))) (upd H a (.cV ob (.lst ws))) H1/\aW K H1 σ (fs.set _ (some (.val (.cl l))))/\upd H a (.cV ob (.lst ws)) b=none/\H1 b=some (.lst vs)/\aM K [] H1 vs l'/\yH l'=true/\∀a vs H',cW σ fs H H'->aW K H' σ fs->H a=none->H' a=some (.lst vs)->aM K [] H' vs l'->D.nx (σ.set i (some (.ref a))) H',rt:=D.rt,bk:=D.bk,ct:=D.ct} I2 ⟨s2,wl.mono (fun l' q1 b vs H1 g1 s1 n e v1=>⟨b,vs,l',rfl,g1,s1,n,e,v1,q1.1,q1.2⟩) q⟩) fun f s1 q1=>?_;cases f with
 | next=>
  obtain⟨σ',H1,I1,b,vs,l',rfl,g1,UJ,n,eb,v1,d,q1⟩:=q1;obtain⟨I3,g3,s3,t3,k3⟩:=back _ s1 H1 I1 g1 UJ;have nb:b≠a:=fun y=>by subst y;rw [aR] at n;cases n
  exact⟨_,_,I3,q1 b vs _ g3 s3 (by rw [ay nb] at n;exact n) (k3 b vs nb eb) (aM.k7 t3 v1 d)⟩
 | ret v=>exact q1
 | brk=>exact q1
 | cont=>exact q1⟩
end
section
variable {X:Cx}{elt tg iter c:Expr}{ifs:List Expr}{sc:Scope}{N':List Str}{ix:List (Option Nat)}{pos:Pos}{fs:aY}{wl:W (List PV)}{T2:Type}{wt:PV->W T2}{is:List Nat}{eu:T2->aY}{tf:T2->W Bool}{te:T2->W PV}
def ad1 {f:PV->W (Option PV)}{i:Nat}{y:Str}{px lQ:Pos} (hc:X.calm=true) (hN:X.N.Nodup) (Jg:X.N[i]?=some y) (hx:X.env.scope.names.lookup y=some .local) (S:aE X.env.scope X.N sc N' ix) (hi:u7 X K fs tg iter wl) (hg:∀cl C s2 H2 fp,GF (gU X sc N' cl C s2 H2 fp) K (bU ix fs) tg is wt eu) (hfs:∀cl C s2 H2 fp t,FF (gU X sc N' cl C s2 H2 fp) K (eu t) ifs (tf t)) (he:∀cl C s2 H2 fp t,EF (gU X sc N' cl C s2 H2 fp) K (eu t) elt (te t))
  (hf:∀p,f p=.bind (wt p) fun t=>.bind (tf t) fun k=>if k=true then .bind (te t) fun v=>.ret (some v) else .ret none) (hl:yM is (bU ix fs) eu/\∀t,kf (eu t) (bU ix fs)) (yD:∀j∈is,ix[j]?=some none)
  (uu:swapsWith (.ListComp elt [⟨tg,iter,ifs,0⟩] sc pos) (some (.Name y px)) lQ.line X.env=pure true:=by rfl) (hs:∀x,foldedSetIterable iter X.env x=pure x:=by intro _;rfl) :
  AS X K fs (.Assign [.Name y px] (.ListComp elt [⟨tg,iter,ifs,0⟩] sc pos) lQ) i (.bind wl fun l=>lR l f):=
 ⟨PS.imp (Il hc hN Jg hx S hi.p (fun cl C s2 H2 fp=>(hg cl C s2 H2 fp).p) (fun cl C s2 H2 fp pins s σ H Q I ⟨t,q⟩=>(hfs cl C s2 H2 fp t).p pins s σ H Q I q) (fun cl C s2 H2 fp pins s σ H Q I ⟨t,q⟩=>(he cl C s2 H2 fp t).p pins s σ H Q I q) uu hs) fun D σ H ⟨sr,q⟩=>
  SD (K:=K) S rfl hf hl.1 hl.2 yD σ H _ ⟨sr,q⟩⟩
variable {i:Nat}{y:Str}{px lQ:Pos}
def aap {j:Nat}{tf:PV->W Bool}{te:PV->W PV} (hc:X.calm=true) (hN:X.N.Nodup) (Jg:X.N[i]?=some y) (hx:X.env.scope.names.lookup y=some .local) (S:aE X.env.scope X.N sc N' ix) (hi:u7 X K fs tg iter wl) (hg:∀cl C s2 H2 fp,PG (gU X sc N' cl C s2 H2 fp) tg (dY j)) (hf:∀cl C s2 H2 fp t,TF (gU X sc N' cl C s2 H2 fp) K ((bU ix fs).set j (some (.val t))) c (tf t)) (he:∀cl C s2 H2 fp t,EF (gU X sc N' cl C s2 H2 fp) K ((bU ix fs).set j (some (.val t))) elt (te t)) (h0:ix[j]?=some none)
  (uu:swapsWith (.ListComp elt [⟨tg,iter,[c],0⟩] sc pos) (some (.Name y px)) lQ.line X.env=pure true:=by rfl) (hs:∀x,foldedSetIterable iter X.env x=pure x:=by intro _;rfl) :
  AS X K fs (.Assign [.Name y px] (.ListComp elt [⟨tg,iter,[c],0⟩] sc pos) lQ) i (.bind wl fun l=>lR l fun p=>J0 (tf p) (te p)):=
 have h1:(bU ix fs)[j]?=some none:=by unfold bU;rw [Ai,h0];rfl
 ad1 (wt:=.ret) (tf:=tf) (te:=te) hc hN Jg hx S hi (fun cl C s2 H2 fp=>ZZ (hg cl C s2 H2 fp)) (fun cl C s2 H2 fp t=>G0 (hf cl C s2 H2 fp t)) he (fun _=>rfl) (RI h1) (fun m hj=>by rw [Bw] at hj;subst hj;exact h0) uu hs
end
end
end FL
namespace L2
open PySem PySem.Spec PyProof.Rows
def Inv.Wc {X:Cx}{pins:List (Addr×Obj)}{σ:St}{H:Hp}{s:Shared}{a:Addr}{kvs:List (Key×V)} (I:Inv X pins σ H s) (e:H a=some (.dK kvs)):∃o,Inv X pins σ (upd H a (.cV o (.dK kvs))) s:=by
 obtain⟨z,hs,vs,r,o,es,ep,h1,h2⟩:=(show bj X.prog X.w H s.heap a (.dK kvs) from I.bG a _ e);exact⟨o,I.write (x:=a) (e:=a) (o:=.cV o (.dK kvs)) (h':=s.heap) (t':=s.toks) (by rw [e];exact B7) (.inl rfl) (fun b u _ z=>z) ⟨o,h1⟩ ⟨h1,z,hs,vs,r,o,es,ep,h1,h2⟩⟩
end L2
namespace FL
section
open PySem PySem.Spec PyProof.Rows L2 PL
variable {K:Ab}
def dvK (kvs:List (Key×PV)):PV:=.dv (kvs.map fun kv=>kP kv.1) (kvs.map (·.2))
def S3 (kvs:List (List Key×PV)):PV:=.dv (kvs.map fun kv=>.tup (kv.1.map kP)) (kvs.map (·.2))
def rg (K:Ab) (H:Hp) (vs:List (List Key×V)) (kvs:List (List Key×PV)):Prop:=vs.map (·.1)=kvs.map (·.1)/\aM K [] H (vs.map (·.2)) (kvs.map (·.2))
def WY (K:Ab) (H:Hp) (ob:HO) (v:PV):Prop:=(∃vs kvs,ob=.dK vs/\v=dvK kvs/\dg K H vs kvs)\/∃vs kvs,ob=.dT vs/\v=S3 kvs/\rg K H vs kvs
def fDv (K:Ab) (fs:aY) (w:W PV):TE:=fun σ H Q=>aW K H σ fs/\w.run fun v=>∀a ob H',cW σ fs H H'->aW K H' σ fs->H a=none->H' a=some ob->WY K H' ob v->Q (.ref a) H'
structure DVF (X:Cx) (K:Ab) (fs:aY) (e:Expr) (w:W PV):Prop where p:PE X e (fDv K fs w)
section
variable {σ:L2.St}{fs:aY}{H:Hp}{a:Addr}{ob:HO}{v:PV}
def vj (o':HO) (e:H a=some ob) (n1:∀vs,ob≠.tup vs) (n2:∀o u,ob≠.cV o u):bq K H (upd H a o'):=⟨fun b ws q=>by rw [ay (fun z=>by subst z;rw [e] at q;cases q;exact n1 _ rfl)];exact q,fun b o u q=>by rw [ay (fun z=>by subst z;rw [e] at q;cases q;exact n2 _ _ rfl)];exact q⟩
def aW.abM (s:aW K H σ fs) (n:¬dj σ fs a) (e:H a=some ob) (n1:∀vs,ob≠.tup vs) (n2:∀o u,ob≠.cV o u) (o':HO):aW K (upd H a o') σ fs:=⟨s.len,fun i t q=>by
 obtain⟨u,h1,h2⟩:=s.at' i t q;exact⟨u,h1,h2.mono (vj o' e n1 n2) (fun x b o eb ow hb z=>by subst eb;rw [ay (fun y:b=a=>n ⟨i,t,x,q,ow,h1,y▸hb⟩)];exact z)⟩,s.nd⟩
def acG {vs:List (List Key×V)}{kvs:List (List Key×PV)} (h:vs.map (·.1)=kvs.map (·.1)):(kvs.map fun kv=>PV.tup (kv.1.map kP))=vs.map fun kv=>PV.tup (kv.1.map kP):=by
 have:=congrArg (E7 fun k:List Key=>PV.tup (k.map kP)) h;rw [AX,AX] at this;exact this.symm
def acH {vs:List (Key×V)}{kvs:List (Key×PV)} (h:vs.map (·.1)=kvs.map (·.1)):(kvs.map fun kv=>kP kv.1)=vs.map fun kv=>kP kv.1:=by
 have:=congrArg (E7 kP) h;rw [AX,AX] at this;exact this.symm
def WY.cV {X:Cx}{pins:List (Addr×Obj)}{s:Shared}{σ':L2.St} (I:Inv X pins σ' H s) (e:H a=some ob) (d:WY K H ob v):∃u,Inv X pins σ' (upd H a u) s/\VR K [] (upd H a u) (.ref a) v/\(∀vs,ob≠.tup vs)/\∀o u,ob≠.cV o u:=by
 rcases d with⟨vs,kvs,rfl,rfl,d1,d2⟩ | ⟨vs,kvs,rfl,rfl,d1,d2⟩
 ·obtain⟨o,I2⟩:=I.Wc e;exact⟨_,I2,.dk aR (acH d1) (aM.tk (vj _ e (by simp) (by simp)) d2),by simp,by simp⟩
 ·obtain⟨o,I2⟩:=I.freeze e;exact⟨_,I2,.dt aR (acG d1) (aM.tk (vj _ e (by simp) (by simp)) d2),by simp,by simp⟩
end
section
variable {X:Cx}{a b c e o:Expr}{pos p:Pos}{fs:aY}{w wa wb:W PV}{wl:W (List PV)}
def ahf (h:DVF X K fs e w):EF X K fs e w:=⟨fun pins s σ H Q I ⟨sr,q⟩=>by
 refine bD (h.p pins s σ H (fun u H1=>∃a ob v,u=.ref a/\cW σ fs H H1/\aW K H1 σ fs/\H a=none/\H1 a=some ob/\WY K H1 ob v/\∀u H',cW σ fs H H'->aW K H' σ fs->VR K [] H' u v->Q u H') I ⟨sr,w.mono (fun v q1 a ob H1 g1 s1 n e d=>⟨a,ob,v,rfl,g1,s1,n,e,d,q1⟩) q⟩) fun u s1 ⟨v,H1,I1,r1,a,ob,v',e,g1,UJ,n,ea,d,q1⟩=>?_;subst e;obtain⟨o',I2,vr,n1,n2⟩:=d.cV I1 ea;exact⟨.ref a,_,I2,r1,q1 _ _ (g1.side n _) (UJ.abM (fun z=>sr.noOwn n z) ea n1 n2 _) vr⟩⟩
def M7 (kv:List Key×PV):PV:=.tup [.tup (kv.1.map kP),kv.2]
theorem R0 (H:Hp):∀k:List Key,aM K [] H (k.map kV) (k.map kP)
 | []=>.nil
 | .inl i::k=>.cons (.int i) (R0 H k)
 | .inr i::k=>.cons (.str i) (R0 H k)
theorem Nn {H:Hp}:∀{k:List Key}{vs:List V},aM K [] H vs (k.map kP)->vs=k.map kV
 | [],_,h=>by cases h;rfl
 | .inl i::k,_,h=>by
  cases h with
  | cons x t=>cases x;rw [Nn t];rfl
 | .inr i::k,_,h=>by
  cases h with
  | cons x t=>cases x;rw [Nn t];rfl
theorem Iv {H:Hp}:∀{kvs:List (List Key×PV)}{vs:List V},aM K [] H vs (kvs.map M7)->∃zs:List Pz,vs=zs.map (fun z=>V.ref z.pa)/\(∀z∈zs,z.At H)/\zs.map (·.k)=kvs.map (·.1)/\aM K [] H (zs.map (·.v)) (kvs.map (·.2))
 | [],_,h=>by cases h;exact⟨[],rfl,by simp,rfl,.nil⟩
 | kv::kvs,_,h=>by
  cases h with
  | cons x t=>
  obtain⟨zs,z1,z2,z3,z4⟩:=Iv t;cases x with
  | @tup p ws _ e r=>
  cases r with
  | cons x1 t1=>
  cases t1 with
  | cons x2 t2=>
  cases t2;cases x1 with
  | @tup b us _ e1 r1=>
  have:=Nn r1;subst this;refine⟨⟨p,kv.1,b,_⟩::zs,by rw [Au,z1],fun z hz=>?_,by rw [Au,Au,z3],.cons x2 z4⟩;rcases Ay.mp hz with rfl | hz
  ·exact⟨e,e1⟩
  ·exact z2 z hz
def LX (l:List PV):W PV:=⟨fun Q=>∃kvs:List (List Key×PV),l=kvs.map M7/\(kvs.map (·.1)).Nodup/\kvs.length<=1000/\Q (S3 kvs),fun f q=>q.imp fun kvs h=>⟨h.1,h.2.1,h.2.2.1,f _ h.2.2.2⟩⟩
def Wz (hK:X.K=K) (hc:X.calm=true) (hu:X.A.units+200 < cLine) (hg:Gl X "dict") (hm:X.mg "dict"=none) (ha:J7 X K fs e wl) (he:starEach [e] X.env=(false,eval e X.env)::starEach [] X.env:=by rfl) (eg:(backTo pos (starEach [] X.env)).any (·.1)=false:=by rfl) :
  DVF X K fs (.Call (.Name "dict" p) [e] [] pos) (.bind wl LX):=⟨PE.imp (nr (L6 K hK hc (by omega)) hg hm boot_dict (bt ha.p dc he) (by decide) (by decide) he eg) fun σ H Q ⟨sr,q⟩=>⟨sr,wl.mono (fun l q1 u H1 g1 s1 v0 v1=>by
  obtain⟨kvs,rfl,nd,hl,q1⟩:=q1;obtain⟨a,vs,rfl,e3,e4⟩:=v1 H1 .refl s1;obtain⟨zs,rfl,z2,z3,z4⟩:=Iv e4;have hzl:zs.length=kvs.length:=by have:=congrArg BV z3;simpa using this
  refine⟨a,zs,rfl,e3,z2,by rw [z3];exact nd,by omega,fun p H2 s2 h2 n2=>?_⟩;exact q1 _ _ H2 (g1.trans (cW.same s2)) (s1.same s2) (g1.there _ n2) h2 (.inr ⟨_,_,rfl,rfl,by rw [AX,<- z3];rfl,by rw [AX];exact aM.tk s2.fy z4⟩)) q⟩⟩
def Pl {kvs:List (List Key×PV)}{Q:PV->Prop} (nd:(kvs.map (·.1)).Nodup) (hl:kvs.length<=1000) (q:Q (S3 kvs)):(LX (kvs.map M7)).run Q:=⟨kvs,rfl,nd,hl,q⟩
def nN (kvs:List (List Key×PV)) (k:List Key):Option PV:=(kvs.find? fun kv=>decide (kv.1=k)).map (·.2)
theorem rg.get {H:Hp}{k:List Key}:∀{vs:List (List Key×V)}{kvs:List (List Key×PV)},rg K H vs kvs->(nN kvs k=none->jn vs k=none)/\∀{v},nN kvs k=some v->∃u,jn vs k=some u/\VR K [] H u v
 | [],[],_=>⟨fun _=>rfl,fun g=>by simp [nN] at g⟩
 | [],_::_,h=>by simp [rg] at h
 | _::_,[],h=>by simp [rg] at h
 | p::vs,q::kvs,h=>by
  obtain⟨h1,h2⟩:=h;rw [Au,Au] at h1 h2;injection h1 with e b;cases h2 with
  | cons r t=>
  have ih:=rg.get (k:=k) (vs:=vs) (kvs:=kvs) ⟨b,t⟩;by_cases c:p.1=k
  ·rw [lV c];have c':q.1=k:=e▸c;have:nN (q::kvs) k=some q.2:=by simp [nN,BG,c']
   rw [this];refine⟨fun z=>(by cases z),fun {v} z=>?_⟩;cases z;exact⟨_,rfl,r⟩
  ·rw [lW c];have c':¬q.1=k:=e▸c;have:nN (q::kvs) k=nN kvs k:=by simp [nN,BG,c']
   rw [this];exact ih
def dg.get' {H:Hp}{k:Key}:∀{vs:List (Key×V)}{kvs:List (Key×PV)},dg K H vs kvs->(uv kvs k=none->jn vs k=none)/\∀{v},uv kvs k=some v->∃u,jn vs k=some u/\VR K [] H u v:=fun {vs kvs} h=>⟨fun z=>by
 have:=h.has k;cases e:jn vs k with
 | none=>rfl
 | some u=>
  rw [e] at this;have h2:mG kvs k=true:=this.symm;unfold mG at h2;unfold uv at z;rw [Option.map_eq_none_iff,List.find?_eq_none] at z;obtain⟨x,hx,hx2⟩:=BR.mp h2;exact absurd hx2 (z x hx),fun z=>h.get k z⟩
def Xw (k:Key) (l:List PV):kP k≠.tup l:=by cases k <;> exact PV.noConfusion
def ZG {a b:Key} (h:kP a=kP b):a=b:=by
 cases a <;> cases b <;> simp [kP] at h <;> rw [h]
theorem GC:∀{a b:List Key},a.map kP=b.map kP->a=b
 | [],[],_=>rfl
 | [],_::_,h=>by simp at h
 | _::_,[],h=>by simp at h
 | x::a,y::b,h=>by
  rw [Au,Au] at h;injection h with h1 h2;rw [ZG h1,GC h2]
inductive JS:PV->PV->Option PV->Prop
 | k (kvs:List (Key×PV)) (k:Key):kvs≠[]->JS (dvK kvs) (kP k) (uv kvs k)
 | t (kvs:List (List Key×PV)) (k:List Key):kvs≠[]->JS (S3 kvs) (.tup (k.map kP)) (nN kvs k)
def Yd {H:Hp}{u:V}{kvs:List (Key×PV)} (h0:kvs≠[]) (h:VR K [] H u (dvK kvs)):∃a o vs,u=.ref a/\H a=some (.cV o (.dK vs))/\dg K H vs kvs:=by
 have keys:∀{vs:List (Key×V)}{kvs:List (Key×PV)},(kvs.map fun kv=>kP kv.1)=(vs.map fun kv=>kP kv.1)->vs.map (·.1)=kvs.map (·.1):=fun {vs kvs} e=>by
  have e:(kvs.map (·.1)).map kP=(vs.map (·.1)).map kP:=by rw [AX,AX];exact e
  exact (GC e).symm
 unfold dvK at h;cases h with
 | @dk a o vs _ _ e k r=>exact⟨a,o,vs,rfl,e,keys k,r⟩
 | @dt a o vs _ _ e k r=>
  cases kvs with
  | nil=>exact absurd rfl h0
  | cons x l=>cases vs with
   | nil=>simp at k
   | cons y m=>simp at k;exact absurd k.1 (Xw _ _)
def Qr {H:Hp}{u:V}{kvs:List (List Key×PV)} (h0:kvs≠[]) (h:VR K [] H u (S3 kvs)):∃a o vs,u=.ref a/\H a=some (.cV o (.dT vs))/\rg K H vs kvs:=by
 have keys:∀{vs:List (List Key×V)}{kvs:List (List Key×PV)},(kvs.map fun kv=>PV.tup (kv.1.map kP))=(vs.map fun kv=>PV.tup (kv.1.map kP))->vs.map (·.1)=kvs.map (·.1):=fun {vs kvs} e=>by
  induction kvs generalizing vs with
  | nil=>cases vs with
   | nil=>rfl
   | cons y m=>simp at e
  | cons x l ih=>cases vs with
   | nil=>simp at e
   | cons y m=>
    rw [Au,Au] at e;injection e with e1 e2;injection e1 with e1;rw [Au,Au,GC e1,ih e2]
 unfold S3 at h;cases h with
 | @dt a o vs _ _ e k r=>exact⟨a,o,vs,rfl,e,keys k,r⟩
 | @dk a o vs _ _ e k r=>
  cases kvs with
  | nil=>exact absurd rfl h0
  | cons x l=>cases vs with
   | nil=>simp at k
   | cons y m=>simp at k;exact absurd k.1.symm (Xw _ _)
def JS.ok {H:Hp}{u z:V}{d y:PV}{r:Option PV} (h:JS d y r) (hu:VR K [] H u d) (hz:VR K [] H z y):∃a o,u=.ref a/\IsD H a/\yO H a z o/\(r=none->o=none)/\∀v,r=some v->∃w,o=some w/\VR K [] H w v:=by
 cases h with
 | k kvs k h0=>
  obtain⟨a,o,vs,rfl,e,d⟩:=Yd h0 hu;have ez:z=kV k:=by
   cases k with
   | inl i=>cases hz;rfl
   | inr i=>cases hz;rfl
  subst ez;exact⟨a,jn vs k,rfl,.inl ⟨vs,.inr ⟨o,e⟩⟩,.inl ⟨vs,k,.inr ⟨o,e⟩,rfl,rfl⟩,(dg.get' d).1,fun v=>(dg.get' d).2⟩
 | t kvs k h0=>
  obtain⟨a,o,vs,rfl,e,d⟩:=Qr h0 hu;cases hz with
  | @tup b us _ e1 r1=>
  have:=Nn r1;subst this;exact⟨a,jn vs k,rfl,.inr ⟨vs,.inr ⟨o,e⟩⟩,.inr ⟨vs,k,b,.inr ⟨o,e⟩,rfl,e1,rfl⟩,(rg.get d).1,fun v=>(rg.get d).2⟩
def dgW (d y:PV):W PV:=⟨fun Q=>∃v,JS d y (some v)/\Q v,fun f ⟨v,a,q⟩=>⟨v,a,f _ q⟩⟩
def dgB (a b:W PV):W PV:=.bind a fun x=>.bind b fun y=>dgW x y
def S0 (hu:X.A.units+200 < cLine) (ha:EF X K fs a wa) (hb:EF X K fs b wb) (hs:aay b):EF X K fs (.Subscript a b pos) (dgB wa wb):=⟨PE.imp (U4 (by omega) ha.p hb.p hs) fun σ H Q ⟨sr,q⟩=>⟨sr,wa.mono (fun x q1 u1 H1 g1 s1 v1=>⟨s1,wb.mono (fun y q2 u2 H2 g2 s2 v2=>by
 obtain⟨v,g,q2⟩:=q2;obtain⟨a,o,rfl,_,g2',_,h⟩:=g.ok (g2.vr s1 v1) v2;obtain⟨w,rfl,vw⟩:=h v rfl;exact⟨a,w,rfl,g2',q2 _ H2 (g1.trans g2) s2 vw⟩) q1⟩) q⟩⟩
def NS {kvs:List (List Key×PV)}{k:List Key}{v:PV}{Q:PV->Prop} (h:nN kvs k=some v) (q:Q v):(dgW (S3 kvs) (.tup (k.map kP))).run Q:=⟨v,by rw [<- h];exact .t kvs k (fun z=>by subst z;simp [nN] at h),q⟩
def RO (d:PV):W (List PV):=⟨fun Q=>∃kvs:List (List Key×PV),d=S3 kvs/\kvs≠[]/\kvs.length<=1000/\Q (kvs.map fun kv=>.tup (kv.1.map kP)),fun f q=>q.imp fun kvs h=>⟨h.1,h.2.1,h.2.2.1,f _ h.2.2.2⟩⟩
def VO {tg:Expr} (h:EF X K fs e w):u7 X K fs tg e (.bind w RO):=⟨PI.imp (Q7 h.p) fun σ H R ⟨sr,q⟩=>⟨sr,w.mono (fun x q1 u1 H1 g1 s1 v1=>by
 obtain⟨kvs,rfl,h0,hl,q1⟩:=q1;obtain⟨a,o,vs,rfl,e,d1,d2⟩:=Qr h0 v1;have len:vs.length=kvs.length:=by have:=congrArg BV d1;simpa using this
 refine⟨a,o,vs,rfl,e,q1 _ H1 g1 s1 ⟨a6 (by simpa using hl),fun H' t=>?_⟩⟩;have e':=t.z _ _ _ e;refine⟨fun i p hp=>?_,vs,e',by simp [len]⟩;rw [Ai] at hp;cases z:kvs[i]? with
 | none=>rw [z] at hp;cases hp
 | some kv=>
  rw [z] at hp;have hp:=Option.some.inj hp;subst hp;have hi:=(Ak.mp z).1;refine⟨⟨vs,e',by omega⟩,fun y H2 yy=>?_⟩;obtain⟨rfl,yy⟩:=yy;obtain⟨b,k,v,rfl,k2,k3⟩:=yy vs e';have ek:k=kv.1:=by
   have h1:(vs.map (·.1))[i]?=some k:=by rw [Ai,k2];rfl
   rw [d1,Ai,z] at h1;exact (Option.some.inj h1).symm
  subst ek;exact⟨lS.refl _,.tup k3 (R0 _ _)⟩) q⟩⟩
def OI {kvs:List (List Key×PV)}{Q:List PV->Prop} (h0:kvs≠[]) (hl:kvs.length<=1000) (q:Q (kvs.map fun kv=>.tup (kv.1.map kP))):(RO (S3 kvs)).run Q:=⟨kvs,rfl,h0,hl,q⟩
end
end
end FL
namespace L2
open PySem PySem.Spec PyProof.Rows
section
variable {X:Cx}{pins:List (Addr×Obj)}{σ:St}{H:Hp}{s:Shared}
theorem Inv.Jk (I:Inv X pins σ H s):∀bs:List Addr,(∀b∈bs,∃ws,H b=some (.lst ws))->∃H',Inv X pins σ H' s/\(∀c,c∉bs->H' c=H c)/\∀b∈bs,∃ob ws,H b=some (.lst ws)/\H' b=some (.cV ob (.lst ws))
 | [],_=>⟨H,I,fun _ _=>rfl,fun b hb=>nomatch hb⟩
 | b::bs,h=>by
  obtain⟨H',I',h1,h2⟩:=Inv.Jk I bs fun c hc=>h c (.tail _ hc);by_cases hb:b∈bs
  ·refine⟨H',I',fun c hc=>h1 c fun z=>hc (.tail _ z),fun c hc=>?_⟩;rcases Ay.mp hc with rfl | hc
   ·exact h2 _ hb
   ·exact h2 c hc
  ·obtain⟨ws,e⟩:=h b (.head _);obtain⟨ob,I2⟩:=I'.uS ((h1 b hb).trans e);refine⟨_,I2,fun c hc=>?_,fun c hc=>?_⟩
   ·rw [ay (fun z=>by subst z;exact hc (.head _))];exact h1 c fun z=>hc (.tail _ z)
   ·by_cases cb:c=b
    ·subst cb;exact⟨ob,ws,e,aR⟩
    ·rcases Ay.mp hc with z | hc
     ·exact absurd z cb
     ·obtain⟨Zd,t6,e1,e2⟩:=h2 c hc;exact⟨Zd,t6,e1,by rw [ay cb];exact e2⟩
open Classical in
theorem Inv.Qt {f:Addr->List V} (J:Inv X pins σ H s):∀bs:List Addr,(∀b∈bs,∃ob,H b=some (.cV ob (.lst (f b))))->(∀b∈bs,∀o u,X.H₀ b≠some (.cV o u))->Inv X pins σ (fun c=>if c∈bs then some (.lst (f c)) else H c) s
 | [],_,_=>by
  have:(fun c=>if c∈([]:List Addr) then some (HO.lst (f c)) else H c)=H:=funext fun c=>if_neg (by simp);rw [this];exact J
 | b::bs,h,h0=>by
  have J2:=Inv.Qt J bs (fun c hc=>h c (.tail _ hc)) fun c hc=>h0 c (.tail _ hc);by_cases hb:b∈bs
  ·have:(fun c=>if c∈b::bs then some (HO.lst (f c)) else H c)=fun c=>if c∈bs then some (.lst (f c)) else H c:=funext fun c=>by
    by_cases z:c=b
    ·subst z;rw [if_pos (.head _),if_pos hb]
    ·by_cases y:c∈bs
     ·rw [if_pos (.tail _ y),if_pos y]
     ·rw [if_neg (fun x=>(Ay.mp x).elim z y),if_neg y]
   rw [this];exact J2
  ·obtain⟨ob,e⟩:=h b (.head _);have e2:(fun c=>if c∈bs then some (HO.lst (f c)) else H c) b=some (.cV ob (.lst (f b))):=by show (if b∈bs then _ else _)=_;rw [if_neg hb];exact e
   have hk:=zd J2.bG e2;have J3:=J2.abo e2 (h0 b (.head _)) (hk b _ aR) hk;have:(fun c=>if c∈b::bs then some (HO.lst (f c)) else H c)=upd (fun c=>if c∈bs then some (HO.lst (f c)) else H c) b (.lst (f b)):=funext fun c=>by
    by_cases z:c=b
    ·subst z;rw [if_pos (.head _),aR]
    ·rw [ay z];show _=if c∈bs then _ else _
     by_cases y:c∈bs
     ·rw [if_pos (.tail _ y),if_pos y]
     ·rw [if_neg (fun x=>(Ay.mp x).elim z y),if_neg y]
   rw [this];exact J3
end
end L2
namespace FL
section
open PySem PySem.Spec PyProof.Rows L2 PL
variable {K:Ab}
section
variable {σ:L2.St}{fs:aY}{H:Hp}{i:Nat}{bs:List Addr}{ls:List (List PV)}
def jO (sr:aW K H σ fs) (hs:fs[i]?=some (some (.uK bs ls))):∃a,σ[i]?=some (some (.ref a))/\jh K H a (.uK bs ls):=by
 obtain⟨u,e1,r⟩:=sr.at' i _ hs;rcases r with⟨v,e,_⟩ | ⟨a,e,r⟩
 ·cases e
 ·subst e;exact⟨a,e1,r⟩
theorem Ta {H':Hp}:∀{bs:List Addr}{ls:List (List PV)},bs.length=ls.length->(∀(j:Nat) (b:Addr) (l:List PV),bs[j]?=some b->ls[j]?=some l->VR K [] H' (.ref b) (.cl l))->aM K [] H' (bs.map V.ref) (ls.map PV.cl)
 | [],[],_,_=>.nil
 | [],_::_,h,_=>by simp at h
 | _::_,[],h,_=>by simp at h
 | b::bs,l::ls,h,hv=>.cons (hv 0 b l rfl rfl) (Ta (by simpa using h) fun j b l h1 h2=>hv (j+1) b l (by simpa using h1) (by simpa using h2))
def adZ {X:Cx}{pins:List (Addr×Obj)}{s:Shared} (I:Inv X pins σ H s) (sr:aW K H σ fs) (hs:fs[i]?=some (some (.uK bs ls))):∃H',Inv X pins σ H' s/\aW K H' σ (fs.set i (some (.ol none (ls.map PV.cl))))/\cI σ fs H σ (fs.set i (some (.ol none (ls.map PV.cl)))) H'/\(∀c,H c=none->H' c=none)/\
  ∀σ' s' H1,Inv X pins σ' H1 s'->cW σ (fs.set i (some (.ol none (ls.map PV.cl)))) H' H1->aW K H1 σ (fs.set i (some (.ol none (ls.map PV.cl))))->∃H2,Inv X pins σ' H2 s'/\cW σ fs H H2/\aW K H2 σ fs/\(∀p vs,H1 p=some (.tup vs)->H2 p=some (.tup vs))/\∀p vs,H p=none->H1 p=some (.lst vs)->H2 p=some (.lst vs):=by
 obtain⟨a,e1,q1,q2,q3,q4,q5⟩:=jO sr hs;have J1:∀b∈bs,∃ws,H b=some (.lst ws):=fun b hb=>by
  obtain⟨j,hj⟩:=CA hb;have h1:=(Ak.mp hj).1;obtain⟨ws,e,_⟩:=q5 j b _ hj (Ad (by rw [<- q4];exact h1));exact⟨ws,e⟩
 obtain⟨H',I',k1,k2⟩:=I.Jk bs J1;have tk:bq K H H':=⟨fun b vs z=>by
  by_cases c:b∈bs
  ·obtain⟨ws,e⟩:=J1 b c;rw [e] at z;cases z
  ·rw [k1 b c];exact z,fun b o u z=>by
  by_cases c:b∈bs
  ·obtain⟨ws,e⟩:=J1 b c;rw [e] at z;cases z
  ·rw [k1 b c];exact z⟩
 have aQ:∀c,H c=none->H' c=none:=fun c z=>by
  by_cases y:c∈bs
  ·obtain⟨ws,e⟩:=J1 c y;rw [e] at z;cases z
  ·rw [k1 c y];exact z
 have it:∀{t:SL},(some t:Option SL)=some (.ol none (ls.map PV.cl))->t=.ol none (ls.map PV.cl):=fun z=>by injection z
 have s2:aW K H' σ (fs.set i (some (.ol none (ls.map PV.cl)))):=by
  refine⟨by simp [sr.len],fun j t z=>?_,fun j k t u b1 b2 b z1 z2 o1 o2=>?_⟩
  ·rcases aZ z with⟨rfl,rfl⟩ | ⟨n,z⟩
   ·refine⟨_,e1,.inr ⟨a,rfl,by simp,bs.map V.ref,by rw [k1 a q2];exact q1,Ta q4 fun j b l h1 h2=>?_⟩⟩;obtain⟨ob,ws,f1,f2⟩:=k2 b (Bo h1);obtain⟨t6,f3,f4⟩:=q5 j b l h1 h2;rw [f1] at f3;cases f3;exact .cl (.inl ⟨ob,f2⟩) (aM.tk tk f4)
   ·obtain⟨u,h1,h2⟩:=sr.at' j t z;exact⟨u,h1,h2.mono tk (fun x b o eb ow hb zz=>by
     subst eb;rw [k1 b (fun y=>n (sr.nd j i t _ x a b z hs ow rfl h1 e1 hb (.inr y)))];exact zz)⟩
  ·intro y1 y2 w1 w2;have f:∀{j:Nat}{t:SL}{c:Addr},(fs.set i (some (.ol none (ls.map PV.cl))))[j]?=some (some t)->t.own=true->σ[j]?=some (some (.ref c))->t.has c b->∃t',fs[j]?=some (some t')/\t'.own=true/\t'.has c b:=fun {j t c} z ow y hb=>by
    rcases aZ z with⟨rfl,rfl⟩ | ⟨n,z⟩
    ·refine⟨_,hs,rfl,?_⟩;rcases hb with hb | hb
     ·exact .inl hb
     ·cases hb
    ·exact⟨t,z,ow,hb⟩
   obtain⟨t',a1,a2,a3⟩:=f z1 o1 y1 w1;obtain⟨u',c1,c2,c3⟩:=f z2 o2 y2 w2;exact sr.nd j k t' u' b1 b2 b a1 c1 a2 c2 y1 y2 a3 c3
 have pf:∀φ b,fx σ (fs.set i (some (.ol none (ls.map PV.cl)))) φ b->fx σ fs φ b:=fun φ b ⟨j,z1,z3⟩=>by
  rcases aZ z1 with⟨_,z⟩ | ⟨n,z1⟩
  ·cases z
  ·exact⟨j,z1,z3⟩
 have pb:∀φ b,fx σ fs φ b->fx σ (fs.set i (some (.ol none (ls.map PV.cl)))) φ b:=fun φ b ⟨j,z1,z3⟩=>by
  have ji:j≠i:=fun y=>by subst y;rw [hs] at z1;cases z1
  exact⟨j,by rw [aJ ji];exact z1,z3⟩
 have npb:∀b∈bs,∀φ,¬fx σ fs φ b:=fun b hb φ ⟨j,z1,z3⟩=>by
  have:=sr.nd j i _ _ b a b z1 hs rfl rfl z3 e1 (.inl rfl) (.inr hb);subst this;rw [hs] at z1;cases z1
 have gf:cI σ fs H σ (fs.set i (some (.ol none (ls.map PV.cl)))) H':=by
  refine⟨fun b o z n=>⟨?_,fun y=>?_⟩,fun b z=>?_,fun b φ z=>.inl (pb φ b z)⟩
  ·rw [k1 b (fun y=>n ⟨i,_,a,hs,rfl,e1,.inr y⟩)];exact z
  ·obtain⟨j,t,x,z1,z2,z3,z4⟩:=y;rcases aZ z1 with⟨rfl,rfl⟩ | ⟨m,z1⟩
   ·rcases z4 with z4 | z4
    ·exact n ⟨j,_,x,hs,rfl,z3,.inl z4⟩
    ·cases z4
   ·exact n ⟨j,t,x,z1,z2,z3,z4⟩
  ·by_cases c:b∈bs
   ·obtain⟨ob,ws,f1,f2⟩:=k2 b c;rw [f2] at z;cases z
   ·rw [k1 b c] at z;exact z
 refine⟨H',I',s2,gf,aQ,fun σ' s' H1 J g s1=>?_⟩
 classical
 have fz:∀b∈bs,∃ob,H1 b=some (.cV ob (.lst ((match H b with | some (.lst ws)=>ws | _=>[]):List V))):=fun b hb=>by
  obtain⟨ob,ws,f1,f2⟩:=k2 b hb;rw [f1];exact⟨ob,g.keep b _ f2 fun φ p=>npb b hb φ (pf φ b p)⟩
 have h0:∀b∈bs,∀o u,X.H₀ b≠some (.cV o u):=fun b hb o u z=>by
  have:=I.base.uy b o u z;obtain⟨ws,e⟩:=J1 b hb;rw [e] at this;cases this
 have J2:=Inv.Qt (f:=fun b=>match H b with | some (.lst ws)=>ws | _=>[]) J bs fz h0;have yD:∀b∈bs,(fun c=>if c∈bs then some (HO.lst (match H c with | some (.lst ws)=>ws | _=>[])) else H1 c) b=H b:=fun b hb=>by
  obtain⟨ws,e⟩:=J1 b hb;show (if b∈bs then _ else _)=_;rw [if_pos hb,e]
 have Jf:∀b,b∉bs->(fun c=>if c∈bs then some (HO.lst (match H c with | some (.lst ws)=>ws | _=>[])) else H1 c) b=H1 b:=fun b hb=>by
  show (if b∈bs then _ else _)=_;rw [if_neg hb]
 generalize (fun c=>if c∈bs then some (HO.lst (match H c with | some (.lst ws)=>ws | _=>[])) else H1 c)=H2 at J2 yD Jf;have ge:cW σ fs H H2:=by
  refine⟨fun b o z n=>?_,fun b z=>?_⟩
  ·by_cases c:b∈bs
   ·rw [yD b c];exact z
   ·rw [Jf b c];exact g.keep b o (by rw [k1 b c];exact z) fun φ p=>n φ (pf φ b p)
  ·by_cases c:b∈bs
   ·rw [yD b c] at z;exact z
   ·rw [Jf b c] at z;have:=g.there b z;rw [k1 b c] at this;exact this
 refine⟨H2,J2,ge,⟨sr.len,fun j t z=>?_,sr.nd⟩,fun p vs z=>?_,fun p vs n z=>?_⟩
 ·obtain⟨u,m1,m2⟩:=sr.at' j t z;refine⟨u,m1,?_⟩;by_cases c:∃φ,t=.iC φ
  ·obtain⟨φ,rfl⟩:=c;have ji:j≠i:=fun y=>by subst y;rw [hs] at z;cases z
   rcases m2 with⟨v,y,_⟩ | ⟨b,rfl,_⟩
   ·cases y
   ·obtain⟨vs,y1,y2⟩:=s1.ownAt (t:=.iC φ) (i:=j) (by rw [aJ ji];exact z) rfl m1;refine .inr ⟨b,rfl,vs,?_,y2⟩;rw [Jf b (fun y=>npb b y φ ⟨j,z,m1⟩)];exact y1
  ·refine m2.mono (ge.eY sr) (fun x b o eb ow hb zz=>ge.keep b o zz fun φ ⟨j',p1,p3⟩=>?_);subst eb;have:=sr.nd j j' t _ x b b z p1 ow rfl m1 p3 hb (.inl rfl);subst this;rw [z] at p1;cases p1;exact c ⟨φ,rfl⟩
 ·rw [Jf p (fun y=>by obtain⟨ob,f⟩:=fz p y;rw [f] at z;cases z)];exact z
 ·rw [Jf p (fun y=>by obtain⟨ws,e⟩:=J1 p y;rw [e] at n;cases n)];exact z
end
section
variable {X:Cx}{a e e1 e2:Expr}{rest:List Stmt}{pos p p' apos bI e7 vq:Pos}{fs:aY}{T:Type}{out:T->End}{x:Bool}{w we w1 w2:W PV}{wl:W (List PV)}{bs:List Addr}{ls:List (List PV)}{y:Str}
def NN (i:Nat) (hs:fs[i]?=some (some (.uK bs ls))) (h:EF X K (fs.set i (some (.ol none (ls.map PV.cl)))) e w):EF X K fs e (.bind w vk):=⟨fun pins s σ H Q I ⟨sr,q⟩=>by
 obtain⟨H',I2,s2,_,_,back⟩:=adZ I sr hs;refine bD (h.p pins s σ _ (fun u H1=>∃v,cW σ (fs.set i (some (.ol none (ls.map PV.cl)))) H' H1/\aW K H1 σ (fs.set i (some (.ol none (ls.map PV.cl))))/\VR K [] H1 u v/\v.dat=true/\∀u H',cW σ fs H H'->aW K H' σ fs->VR K [] H' u v->Q u H') I2 ⟨s2,w.mono (fun v q1 u H1 g1 s1 v1=>⟨v,g1,s1,v1,q1.1,q1.2⟩) q⟩) fun u s1 ⟨x,H1,I1,r1,v,g1,UJ,v1,d,q1⟩=>?_;obtain⟨H2,I3,g3,s3,t3,_⟩:=back σ s1 H1 I1 g1 UJ;exact⟨x,_,I3,r1,q1 x _ g3 s3 (VR.k7 t3 v1 d)⟩⟩
def SF.adt (i:Nat) {TU:List Stmt}{wt:W T} (hs:fs[i]?=some (some (.uK bs ls))) (hr:SF X K x (fs.set i (some (.ol none (ls.map PV.cl)))) TU wt out):SF X K x fs TU wt out:=⟨fun pins s σ H D I ⟨sr,q⟩=>by
 obtain⟨H',I2,s2,gf,_,_⟩:=adZ I sr hs;exact hr.p pins s σ _ D I2 ⟨s2,wt.mono (fun t q3=>q3.go gf sr s2) q⟩⟩
def SF.abN {i:Nat}{k:W T}{p2:Pos} (hN:X.N.Nodup) (hi:X.N[i]?=some y) (hx:Loc X.env.scope y) (hr:SF X K x (fs.set i (some (.uK [] []))) rest k out) (hs:swapsWith (.List [] p2) (some (.Name y p')) pos.line X.env=pure false:=by rfl)
  (hf:X.fn y=true\/X.env.scope.names.lookup y=some .local:=by first | exact .inl rfl | exact .inr rfl | assumption):SF X K x fs (.Assign [.Name y p'] (.List [] p2) pos::rest) k out:=SF.step (vH hN hi hx (M5 dc) hs hf) fun D σ H ⟨sr,q⟩=>⟨A3 _,fun a H1 s1 e1 n1=>by
 have no:=sr.noOwn n1;have oa:jh K H1 a (.uK [] []):=⟨e1,by simp,by simp,rfl,fun j b l h=>by simp at h⟩;have s2:=(sr.same s1).vG (t:=.uK [] []) oa no i;exact⟨_,k,hr,s2,k.mono (fun t q2=>q2.go (cI.vG (sr.same s1) (cI.same s1 sr) no n1 i) sr s2) q⟩⟩
def VN (ls:List (List PV)):PV->W (Nat×List PV)
 | .int k=>.Rq ((qt ls.length k).bind fun j=>(ls[j]?).map fun l=>(j,l))
 | _=>.fail
def SF.Tv (i:Nat) {k:List Addr->List (List PV)->W T} (hs:fs[i]?=some (some (.uK bs ls))) (hK:X.K=K) (hN:X.N[i]?=some y) (hv:Hv X.env.scope y) (he:LF X K fs e wl) (hr:∀bs' Zo,SF X K x (fs.set i (some (.uK bs' Zo))) rest (k bs' Zo) out)
  (hd:(y==("__debug__":Str))=false:=by decide) (jw:(y==("__classdict__":Str))=false:=by decide) (gA:attributeBase (.Name y p) "append" X.env (eval (.Name y p) X.env)=eval (.Name y p) X.env:=by rfl)
  (wJ:((backTo bI (starEach [e] X.env)).all (fun x=>!x.1)&&(backToKw bI (keywordEach [] X.env)).all (fun x=>x.1.isSome)
   && decide ([e].length+([]:List Keyword).length+(if ([]:List Keyword).isEmpty then 0 else 1) < 30))=true:=by rfl)
  (gz:(apos.endLine==bI.line)=true:=by rfl) (GJ:starEach [e] X.env=(false,eval e X.env)::starEach [] X.env:=by rfl) (iK:(backTo bI (starEach [] X.env)).any (·.1)=false:=by rfl)
  (uu:swapsWith (.Call (.Attribute (.Name y p) "append" apos) [e] [] bI) none pos.line X.env=pure false:=by rfl) :
  SF X K x fs (.Expr (.Call (.Attribute (.Name y p) "append" apos) [e] [] bI) pos::rest) (.bind wl fun l=>.gB (ls.length < sizeLine) (.bind (.any fun _=>True) fun bs'=>.bind (.ret (ls++[l])) fun Zo=>k bs' Zo)) out:=
 SF.step (pZ (F4 K hK BW Eb Ea vR (dw hN hv hd jw) (bt he.p dc GJ) gA wJ gz GJ iK) uu) fun D σ H ⟨sr,q⟩=>by
  obtain⟨a,e1,q1,q2,q3,q4,q5⟩:=jO sr hs;refine⟨_,e1,.inl ⟨rfl,_,df.of q1⟩,sr,wl.mono (fun l ql b vs H1 g1 s1 nb eb vl=>?_) q⟩;obtain⟨a',pH,r1,r2,r3,r4,r5⟩:=jO s1 hs;rw [e1] at pH;cases pH;refine⟨a,_,_,rfl,rfl,r1,by rw [Af,r4];exact ql.1,fun H2 sx h2=>?_⟩;have hq:=ql.2 (bs++[b]) trivial;have Ha:H a≠none:=fun z=>by rw [q1] at z;cases z
  have ab:a≠b:=fun z=>Ha (z▸nb);have bin:∀c∈bs,∃ws,H c=some (.lst ws):=fun c hc=>by
   obtain⟨j,hj⟩:=CA hc;obtain⟨ws,e,_⟩:=q5 j c _ hj (Ad (by rw [<- q4];exact (Ak.mp hj).1));exact⟨ws,e⟩
  have bn:b∉bs:=fun z=>by obtain⟨ws,e⟩:=bin b z;rw [nb] at e;cases e
  have nbo:=sr.noOwn nb;have tk:bq K H1 H2:=⟨fun c us z=>sx c _ (fun w=>by subst w;rw [r1] at z;cases z) z,fun c o u z=>sx c _ (fun w=>by subst w;rw [r1] at z;cases z) z⟩;have oa:jh K H2 a (.uK (bs++[b]) (ls++[l])):=by
   refine⟨by rw [h2,A6];rfl,fun z=>?_,?_,by simp [r4],fun j c l' h1 h3=>?_⟩
   ·rcases Bj.mp z with z | z
    ·exact r2 z
    ·exact ab (by simpa using z)
   ·exact Cv.mpr ⟨r3,by simp,fun u hu v hv w=>by simp at hv;subst hv;subst w;exact bn hu⟩
   ·rcases jx h1 with h1 | ⟨rfl,rfl⟩
    ·rcases jx h3 with h3 | ⟨rfl,rfl⟩
     ·obtain⟨ws,f1,f2⟩:=r5 j c l' h1 h3;exact⟨ws,sx c _ (fun z=>by subst z;exact r2 (Bo h1)) f1,aM.tk tk f2⟩
     ·have:=(Ak.mp h1).1;omega
    ·rcases jx h3 with h3 | ⟨_,rfl⟩
     ·have:=(Ak.mp h3).1;omega
     ·exact⟨vs,sx c _ (BF ab) eb,aM.tk tk vl⟩
  have ZV:∀c,(SL.uK (bs++[b]) (ls++[l])).has a c->(SL.uK bs ls).has a c\/c=b:=fun c h=>by
   rcases h with h | h
   ·exact .inl (.inl h)
   ·rcases Bj.mp (show c∈bs++[b] from h) with h | h
    ·exact .inl (.inr h)
    ·exact .inr (by simpa using h)
  have s2:aW K H2 σ (fs.set i (some (.uK (bs++[b]) (ls++[l])))):=by
   refine⟨by simp [s1.len],fun j t z=>?_,fun j k t u b1 b2 c z1 z2 o1 o2 y1 y2 w1 w2=>?_⟩
   ·rcases aZ z with⟨rfl,rfl⟩ | ⟨n,z⟩
    ·exact⟨_,e1,.inr ⟨a,rfl,oa⟩⟩
    ·obtain⟨u,m1,m2⟩:=s1.at' j t z;exact⟨u,m1,m2.mono tk (fun x c o ec ow hc zz=>sx c o (fun w=>by subst ec;subst w;exact n (s1.nd j i t _ x c c z hs ow rfl m1 e1 hc (.inl rfl))) zz)⟩
   ·have Rv:∀{j:Nat}{t:SL}{c':Addr},fs[j]?=some (some t)->t.own=true->σ[j]?=some (some (.ref c'))->¬t.has c' b:=fun {j t c'} m1 m2 m3 m4=>nbo ⟨j,t,c',m1,m2,m3,m4⟩;rcases aZ z1 with⟨rfl,rfl⟩ | ⟨n1,v1⟩ <;> rcases aZ z2 with⟨m,rfl⟩ | ⟨n2,v2⟩
    ·exact m.symm
    ·rw [e1] at y1;cases y1;rcases ZV c w1 with w1 | w1
     ·exact s1.nd _ k _ u _ b2 c hs v2 rfl o2 e1 y2 w1 w2
     ·exact absurd (w1▸w2) (Rv v2 o2 y2)
    ·subst m;rw [e1] at y2;cases y2;rcases ZV c w2 with w2 | w2
     ·exact s1.nd j _ t _ b1 _ c v1 hs o1 rfl y1 e1 w1 w2
     ·exact absurd (w2▸w1) (Rv v1 o1 y1)
    ·exact s1.nd j k t u b1 b2 c v1 v2 o1 o2 y1 y2 w1 w2
  have g2:cI σ fs H σ (fs.set i (some (.uK (bs++[b]) (ls++[l])))) H2:=by
   refine⟨fun c o z n=>⟨sx c o (fun w=>by subst w;exact n ⟨i,_,c,hs,rfl,e1,.inl rfl⟩) (g1.tH z n),fun yy=>?_⟩,fun c z=>?_,fun c φ z=>?_⟩
   ·obtain⟨j,t,x,z1,z2,z3,z4⟩:=yy;rcases aZ z1 with⟨rfl,rfl⟩ | ⟨m,z1⟩
    ·rw [e1] at z3;cases z3;rcases ZV c z4 with z4 | rfl
     ·exact n ⟨j,_,_,hs,rfl,e1,z4⟩
     ·rw [nb] at z;cases z
    ·exact n ⟨j,t,x,z1,z2,z3,z4⟩
   ·refine g1.there c ?_;cases zz:H1 c with
    | none=>rfl
    | some o=>
     by_cases ca:c=a
     ·subst ca;rw [h2] at z;cases z
     ·rw [sx c o ca zz] at z;cases z
   ·obtain⟨j,p1,p2⟩:=z;have ji:j≠i:=fun w=>by subst w;rw [hs] at p1;cases p1
    exact .inl ⟨j,by rw [aJ ji];exact p1,p2⟩
  exact⟨_,k _ _,hr _ _,s2,(k _ _).mono (fun t q2=>q2.go g2 sr s2) hq⟩
def SF.abO (i:Nat) {k:List (List PV)->W T} (hs:fs[i]?=some (some (.uK bs ls))) (hK:X.K=K) (hN:X.N[i]?=some y) (hv:Hv X.env.scope y) (he:EF X K fs e we) (h1:EF X K fs e1 w1) (h2:EF X K fs e2 w2) (xY:uZ e1) (hr:∀Zo,SF X K x (fs.set i (some (.uK bs Zo))) rest (k Zo) out)
  (ha:∀v,assign (.Subscript (.Subscript (.Name y p) e1 vq) e2 e7) X.env v=(do
   let ov <- holding [v] (eval (.Subscript (.Name y p) e1 vq) X.env)
   let iv <- holding [v,ov] (eval e2 X.env)
   standAt e7
   holding [v,ov,iv] (setItem ov iv v)
   release [v,ov,iv] []):=by intro _;rfl)
  (hd:(y==("__debug__":Str))=false:=by decide) (jw:(y==("__classdict__":Str))=false:=by decide) (hss:swapsWithSole [.Subscript (.Subscript (.Name y p) e1 vq) e2 e7] e pos.line X.env=pure false:=by rfl) (hw:swappedStores [.Subscript (.Subscript (.Name y p) e1 vq) e2 e7] e X.env=pure none:=by rfl)
  (hq1:(assignEach [.Subscript (.Subscript (.Name y p) e1 vq) e2 e7] X.env).map (·.2)=[assign (.Subscript (.Subscript (.Name y p) e1 vq) e2 e7) X.env]:=by rfl) :
  SF X K x fs (.Assign [.Subscript (.Subscript (.Name y p) e1 vq) e2 e7] e pos::rest) (.bind we fun v=>.bind w1 fun n=>.bind (VN ls n) fun jl=>.bind w2 fun m=>.bind (gG jl.2 m v) fun l'=>.bind (.ret (ls.set jl.1 l')) k) out:=
 SF.step (F0 he.p (Q8 (Rc (Nr K hK) (dw hN hv hd jw) h1.p xY) h2.p rq ha) hss hw hq1) fun D σ H ⟨sr,q⟩=>by
  refine⟨sr,we.mono (fun v qv u H1 g1 s1 v1=>?_) q⟩;obtain⟨a,pH,q1,q2,q3,q4,q5⟩:=jO s1 hs;refine⟨_,pH,s1,w1.mono (fun n qn u2 H2 g2 s2 v2=>?_) qv⟩;obtain⟨a2,e2',r1,r2,r3,r4,r5⟩:=jO s2 hs;rw [pH] at e2';cases e2';cases v2 with
  | int kk=>
   have qn:(W.Rq ((qt ls.length kk).bind fun j=>(ls[j]?).map fun l=>(j,l))).run _:=qn;cases hj:qt ls.length kk with
   | none=>rw [hj] at qn;exact qn.elim
   | some j=>
    have jl:=(GD hj).2.1;have hl:ls[j]?=some ls[j]:=Ad jl;rw [hj] at qn;simp only [Option.bind_some] at qn;rw [hl] at qn;have qn:(W.bind w2 fun m=>.bind (gG ls[j] m v) fun l'=>.bind (.ret (ls.set j l')) k).run _:=qn;have hb:bs[j]?=some (bs[j]'(by omega)):=Ad (by omega);generalize bs[j]'(by omega)=b at hb;generalize ls[j]=l at hl qn;have hix:cy (bs.map V.ref) kk=some (.ref b):=by
     unfold cy;rw [Af,r4,hj];show (bs.map V.ref)[j]?=_;rw [Ai,hb];rfl
    refine .inl ⟨a,_,kk,.ref b,rfl,rfl,df.of r1,hix,s2,w2.mono (fun m qm u3 H3 g3 s3 v3=>?_) qn⟩;obtain⟨a3,XY,p1,p2,p3,p4,p5⟩:=jO s3 hs;rw [pH] at XY;cases XY;cases v3 with
    | int k2=>
     have qm:(match qt l.length k2 with | some j2=>W.ret (l.set j2 v) | none=>W.fail).run _:=qm;cases Sg:qt l.length k2 with
     | none=>rw [Sg] at qm;exact qm.elim
     | some j2=>
      rw [Sg] at qm;obtain⟨ws,f1,f2⟩:=p5 j b l hb hl;refine⟨b,ws,k2,j2,rfl,rfl,f1,by rw [f2.length];exact Sg,fun H4 sx h4=>?_⟩;have hbm:=Bo hb;have ab:a≠b:=fun z=>p2 (z▸hbm);obtain⟨s4,g4⟩:=tD (t':=.uK bs (ls.set j (l.set j2 v))) s3 hs rfl (by simp) pH (c:=b) (.inr hbm) (.inr hbm) (fun c h=>h) rfl sx fun tk=>by
       refine⟨sx a _ ab p1,p2,p3,by simp [p4],fun j' b' l' m1 m2=>?_⟩;by_cases c:j'=j
       ·subst c;rw [hb] at m1;cases m1;rw [Bc (by omega)] at m2;cases m2;exact⟨_,h4,aM.tk tk (f2.set ((g2.trans g3).vr s1 v1) j2)⟩
       ·rw [A5 (BF c)] at m2;obtain⟨t6,f3,f4⟩:=p5 j' b' l' m1 m2;refine⟨t6,sx b' _ (fun z=>?_) f3,aM.tk tk f4⟩;subst z;have h1:=Ak.mp hb;have h2:=Ak.mp m1;exact c ((Eo p3).mp (h2.2.trans h1.2.symm))
      exact⟨_,k _,hr _,s4,(k _).mono (fun t q3=>q3.go (((g1.trans g2).trans g3).f.trans g4) sr s4) qm⟩
    | _=>exact qm.elim
  | _=>exact qn.elim
end
end
end FL
namespace L2
open PySem PySem.Spec PyProof.Rows
def eJ {α:Type} (N:Nat) (P:α->Prop):DC α->Prop
 | .ret a=>P a
 | .ask i j k=>i < N/\j < N/\∀b,eJ N P (k b)
theorem eJ.mono {α:Type}{N:Nat}{P P':α->Prop} (h:∀a,P a->P' a):∀{t:DC α},eJ N P t->eJ N P' t
 | .ret a,q=>h a q
 | .ask i j k,q=>⟨q.1,q.2.1,fun b=>eJ.mono h (q.2.2 b)⟩
theorem eJ.bind {α β:Type}{N:Nat}{P:α->Prop}{P':β->Prop}{f:α->DC β} (hf:∀a,P a->eJ N P' (f a)):∀{t:DC α},eJ N P t->eJ N P' (t.bind f)
 | .ret a,q=>hf a q
 | .ask i j k,q=>⟨q.1,q.2.1,fun b=>eJ.bind hf (q.2.2 b)⟩
theorem eJ.wp {α:Type}{N:Nat}{P:α->Prop}{cmp:Nat->Nat->(Bool->Shared->Prop)->Shared->Prop}{Q:α->Shared->Prop}{s:Shared} (hc:∀i j C,i < N->j < N->(∀b,C b s)->cmp i j C s) (hq:∀a,P a->Q a s):∀{t:DC α},eJ N P t->t.kasWp cmp Q s
 | .ret a,q=>hq a q
 | .ask i j k,q=>hc i j _ q.1 q.2.1 fun b=>eJ.wp hc hq (q.2.2 b)
def cY (N:Nat) (p:Array Nat):Prop:=p.toList.Perm (Av N)
def cY.lt {N:Nat}{p:Array Nat} (h:cY N p) (h0:0 < N) (k:Nat):p.getD k 0 < N:=by
 by_cases c:k < p.size
 ·have:p.getD k 0=p[k]:=by simp [Array.getD,c]
  rw [this];exact AE.mp (h.mem_iff.mp (by simp))
 ·have:p.getD k 0=0:=by simp [Array.getD,c]
  rw [this];exact h0
def cY.rev {N:Nat}{p:Array Nat} (h:cY N p) (i j:Nat):cY N (EH p i j):=(DZ.mp (mirror_perm p i j _)).trans h
def cY.bub {N:Nat}{p:Array Nat} (h:cY N p) (i j:Nat):cY N (bubble p i j):=(DZ.mp (bubble_perm p i j)).trans h
section
variable {N:Nat} (h0:0 < N)
include h0
theorem RZ {p:Array Nat} (h:cY N p):∀f n,eJ N (fun _=>True) (PySem.W.kas_asc p f n)
 | 0,n=>trivial
 | f+1,n=>⟨h.lt h0 _,h.lt h0 _,fun b=>by
  cases b with
  | true=>exact trivial
  | false=>exact RZ h f (n+1)⟩
theorem Gu:∀f (p:Array Nat) n q,cY N p->eJ N (fun r=>cY N r.1) (PySem.W.kas_desc f p n q)
 | 0,p,n,q,h=>h
 | f+1,p,n,q,h=>⟨h.lt h0 _,h.lt h0 _,fun b=>by
  cases b with
  | true=>
   show eJ N _ (if q > 0 then _ else _)
   split
   ·exact Gu f _ _ _ (h.rev _ _)
   ·exact Gu f _ _ _ h
  | false=>exact⟨h.lt h0 _,h.lt h0 _,fun b=>by
    cases b with
    | true=>exact h
    | false=>exact Gu f _ _ _ h⟩⟩
def RQ {n m:Nat}{p:Array Nat} (h:cY N p):eJ N (fun r=>cY N r.2) (Ft n m p):=by
 unfold Ft;exact eJ.bind (N:=N) (P:=fun _=>True) (P':=fun r:Nat×Array Nat=>cY N r.2) (f:=fun k=>.ret (k,EH p 0 n)) (fun k _=>(show cY N (EH p 0 n) from h.rev _ _)) (RZ h0 (h.rev _ _) _ _)
def RS {n m:Nat}{p:Array Nat} (h:cY N p):eJ N (fun r=>cY N r.2) (PySem.W.kas_descPart n m p):=eJ.bind (fun r hr=>by
 show eJ N _ (if r.2.2 > 0 then _ else _)
 split
 ·exact RQ h0 (hr.rev _ _)
 ·exact RQ h0 hr) (Gu h0 _ _ _ _ h)
def VI {m:Nat}{p:Array Nat} (h:cY N p):eJ N (fun r=>cY N r.2) (PySem.W.kas_count m p):=eJ.bind (fun n _=>by
 show eJ N _ (if (n==m)=true then _ else _)
 split
 ·exact h
 ·split
  ·exact⟨h.lt h0 _,h.lt h0 _,fun b=>by
    cases b with
    | true=>exact h
    | false=>exact RS h0 (h.rev _ _)⟩
  ·exact RS h0 h) (RZ h0 h _ _)
theorem Gs {p:Array Nat} (h:cY N p) (k:Nat):∀f l r,eJ N (fun _=>True) (PySem.W.kas_place p k f l r)
 | 0,l,r=>trivial
 | f+1,l,r=>by
  show eJ N _ (if l≥r then _ else _)
  split
  ·exact trivial
  ·exact⟨h.lt h0 _,h.lt h0 _,fun b=>by
    cases b with
    | true=>exact Gs h k f _ _
    | false=>exact Gs h k f _ _⟩
theorem Xv:∀f (p:Array Nat) k,cY N p->eJ N (cY N) (PySem.W.kas_bin f p k)
 | 0,p,k,h=>h
 | f+1,p,k,h=>eJ.bind (fun l _=>Xv f _ _ (h.bub _ _)) (Gs h0 h k _ _ _)
def ZE:eJ N (cY N) (FA N):=eJ.bind (fun r hr=>by
 show eJ N _ (if r.1 < N then _ else _)
 split
 ·exact Xv h0 _ _ _ hr
 ·exact hr) (VI h0 (List.Perm.refl _))
end
section
variable {prog:Program}{w:World}{A:Around}{E:Value->Shared->Prop}{s:Shared}
def K5 {a:Addr}{vs:List Value}{n:Nat}{κ:SortKind}{P:PySem.Fin->Shared->Prop} (ho:s.heap.get? a=some (seqObj "list" vs.toArray n)) (h64:vs.length < 64)
  (hkk:2<=vs.length->∀h',(∀b o,b≠a->s.heap.get? b=some o->h'.get? b=some o)->wpAny (model prog w) A (keyKind' vs.toArray) (fun k s'=>k=κ/\s'={s with heap:=h'}) (fun _ _=>False) {s with heap:=h'})
  (mF:∀h',(∀b o,b≠a->s.heap.get? b=some o->h'.get? b=some o)->∀i j,i < vs.length->j < vs.length->∀C:Bool->Shared->Prop,(∀b,C b {s with heap:=h'})->wpAny (model prog w) A (keyLt' κ (vs.getD i AQ) (vs.getD j AQ)) C (fun _ _=>False) {s with heap:=h'})
  (h:∀out:List Value,out.Perm vs->P (.done (.ret .none)) {s with heap:=sortedHeap s.heap a vs out.toArray}) :
  wpAny (model prog w) A (Builtin.«list.sort» ⟨[.ref a],[]⟩) P E s:=by
 rw [list_sort_plain];have ha:a < s.heap.objs.size:=Ar ho;refine Aa (listItems_at ho rfl ?_);refine Aa (listUpdate_at ho rfl ?_);obtain⟨e1,ho1⟩:∃e1,(s.heap.update a (Be fun _=>#[])).get? a=some (seqObj "list" #[] e1):=⟨_,get?_update_seq ho (fun _=>#[])⟩;refine Aa (seqEpoch_at ho1 rfl ?_);refine Aa (Cz ?_);refine Aa (wpAny_newList ?_);refine A9 ?_;have ho6:(((s.heap.update a (Be fun _=>#[])).push (seqObj "tuple" vs.toArray 0)).push (seqObj "list" #[] 0)).get? a=some (seqObj "list" #[] e1):=by
  rw [Heap.get?_push_ne _ _ _ (by rw [size_push',Eg];exact AI (CZ ha)),Heap.get?_push_ne _ _ _ (by rw [Eg];exact AI ha)];exact ho1
 have kp:∀b o,b≠a->s.heap.get? b=some o->(((s.heap.update a (Be fun _=>#[])).push (seqObj "tuple" vs.toArray 0)).push (seqObj "list" #[] 0)).get? b=some o:=fun b o n e=>Aj _ (Aj _ (by rw [Fd _ _ _ _ n];exact e));show wpAny (model prog w) A _ P E {s with heap:=((s.heap.update a (Be fun _=>#[])).push (seqObj "tuple" vs.toArray 0)).push (seqObj "list" #[] 0)};dsimp only;have hsz:vs.toArray.size=vs.length:=by simp
 by_cases h2:vs.toArray.size < 2
 ·rw [if_pos h2,if_pos h2];refine Aa (Ag ?_);rw [StateT.run_pure];refine Aa (Ag ?_);dsimp only;refine Aa (seqEpoch_at ho6 rfl ?_);refine Aa (listUpdate_at ho6 rfl ?_ (hsz2:=by rw [Array.size_map];show (pairsOf vs).size<=_;rw [pairsOf_size,sizeLine_eq];omega));simp only [bne_self_eq_false,Am,if_false];refine Ag ?_;have e:(arrOf (SortSt.mk' general' (vs.toArray.zip vs.toArray) #[] 7 none)).map (·.2)=vs.toArray:=by
   show (vs.toArray.zip vs.toArray).map (·.2)=vs.toArray;apply Es.mp;simp [List.map_snd_zip]
  show P _ {s with heap:=_};rw [e];exact h vs (List.Perm.refl _)
 ·rw [if_neg h2,if_neg h2];have xZ:2<=vs.length:=by omega
  refine Aa (BK (hkk xZ _ kp) (fun k s0 hk=>?_) fun _ _ x=>x.elim);obtain⟨rfl,rfl⟩:=hk;have hw:(FA vs.length).kasWp (PySem.W.kas_ask prog w A k vs) (fun p s'=>cY vs.length p/\s'={s with heap:=((s.heap.update a (Be fun _=>#[])).push (seqObj "tuple" vs.toArray 0)).push (seqObj "list" #[] 0)}) {s with heap:=((s.heap.update a (Be fun _=>#[])).push (seqObj "tuple" vs.toArray 0)).push (seqObj "list" #[] 0)}:=
   eJ.wp (fun i j C hi hj hC=>mF _ kp i j hi hj C hC) (fun p hp=>⟨hp,rfl⟩) (ZE (show 0 < vs.length by omega))
  refine Aa (BK (PySem.W.kat_run (Q:=fun pG s'=>∃p:Array Nat,cY vs.length p/\arrOf pG=p.map (PySem.W.kas_item (vs.toArray.zip vs.toArray))/\failedOf pG=none/\s'={s with heap:=((s.heap.update a (Be fun _=>#[])).push (seqObj "tuple" vs.toArray 0)).push (seqObj "list" #[] 0)})
   rfl xZ h64 (fun p' pG s' a1 a2 a3 a4=>⟨p',a4.1,a2,a3,a4.2⟩) hw) ?_ fun _ _ e=>e)
  rintro⟨⟨⟩,pG⟩ s' ⟨p,hp,har,hf,rfl⟩;dsimp only;have Jf:=PySem.W.kat_snds rfl har;have eg:p.toList.length=vs.length:=by rw [hp.length_eq,Bt]
  have XC:(p.toList.map fun i=>vs.getD i AQ).Perm vs:=by
   have e:(Av vs.length).map (fun i=>vs.getD i AQ)=vs:=by
    apply Bd;intro i;by_cases c:i < vs.length
    ·rw [Ai,Bs c,Ad c];show some (vs.getD i AQ)=_;rw [Ap,Ad c];rfl
    ·rw [Aw (by simp;omega),Aw (by omega)]
   have:=hp.map (fun i=>vs.getD i AQ);rw [e] at this;exact this
  rw [Jf];refine Aa (seqEpoch_at ho6 rfl ?_);refine Aa (listUpdate_at ho6 rfl ?_ (hsz2:=by rw [Ah,XC.length_eq,sizeLine_eq];omega));rw [hf];simp only [bne_self_eq_false,Am,if_false];exact Ag (h _ XC)
def UA {l:Addr}{vs:List Value}{κ:SortKind}{Q:Value->Shared->Prop} (hl:s.heap.IsList l vs.toArray) (h64:vs.length < 64)
  (hkk:2<=vs.length->∀h',(∀b o,s.heap.get? b=some o->h'.get? b=some o)->wpAny (model prog w) A.in1.in1 (keyKind' vs.toArray) (fun k s'=>k=κ/\s'={s with heap:=h'}) (fun _ _=>False) {s with heap:=h'})
  (mF:∀h',(∀b o,s.heap.get? b=some o->h'.get? b=some o)->∀i j,i < vs.length->j < vs.length->∀C:Bool->Shared->Prop,(∀b,C b {s with heap:=h'})->wpAny (model prog w) A.in1.in1 (keyLt' κ (vs.getD i AQ) (vs.getD j AQ)) C (fun _ _=>False) {s with heap:=h'})
  (h:∀out:List Value,out.Perm vs->Q (.ref (s.heap.objs.size+1)) {s with heap:=sortedAll s.heap vs out.toArray}) :
  wpAny (model prog w) A (call (.builtin "sorted") [.ref l]) Q E s:=by
 refine Calls.call_function_entry kind_sorted plain_sorted entry_sorted (args_sorted1 _) ?_;unfold Builtin.«sorted»;refine Aa (m:=checkCount "sorted" 1 1 _) (Ag ?_);refine Aa (collect_list hl ?_);refine Aa (wpAny_newList ?_);have hsz:((s.heap.push (seqObj "list" #[] 0)).update s.heap.objs.size (Be (·++vs.toArray))).objs.size=s.heap.objs.size+1:=by
  rw [Eg,size_push']
 have hoL:(((s.heap.push (seqObj "list" #[] 0)).update s.heap.objs.size (Be (·++vs.toArray))).push (seqObj "list" vs.toArray 0)).get? (s.heap.objs.size+1)=some (seqObj "list" vs.toArray 0):=by
  rw [<- hsz];exact Aq _ rfl
 have kp:∀b o,s.heap.get? b=some o->b≠s.heap.objs.size+1/\(((s.heap.push (seqObj "list" #[] 0)).update s.heap.objs.size (Be (·++vs.toArray))).push (seqObj "list" vs.toArray 0)).get? b=some o:=fun b o e=>by
  have lt:=Ar e;refine⟨AI (CZ lt),Aj _ ?_⟩;rw [Fd _ _ _ _ (AI lt)];exact Aj _ e
 show wpAny _ _ _ _ _ {s with heap:=((s.heap.push (seqObj "list" #[] 0)).update s.heap.objs.size (Be (·++vs.toArray))).push (seqObj "list" vs.toArray 0)};rw [hsz];refine Aa (A9 (Bb slot_list_sort ⟨_,hoL,rfl⟩ entry_list_sort (K5 (κ:=κ) hoL h64 (fun h2 h' k=>?_) (fun h' k=>?_) fun out hp=>⟨_,rfl,?_⟩) (args_list_sort _)))
 ·exact hkk h2 h' fun b o e=>k b o (kp b o e).1 (kp b o e).2
 ·exact mF h' fun b o e=>k b o (kp b o e).1 (kp b o e).2
 ·exact Ag ⟨_,rfl,h out hp⟩
end
end L2
namespace FL
section
open PySem PySem.Spec PyProof.Rows L2 PL
variable {K:Ab}
def rZ:PV->Bool
 | .tup [.str _,.tup [.int _,.int _]]=>true
 | _=>false
def Lx {x:PV} (h:rZ x=true):∃s i j,x=.tup [.str s,.tup [.int i,.int j]]:=by
 unfold rZ at h
 split at h
 ·exact⟨_,_,_,rfl⟩
 ·cases h
section
variable {X:Cx}{pins:List (Addr×Obj)}{σ:L2.St}{H:Hp}{s:Shared}
def Ww (I:Inv X pins σ H s) {v:V}{u:Value}{x:PV} (hv:VR X.K [] H v x) (ru:RelV v u) (hx:rZ x=true):∃(a b:Addr) (st:Str) (i j:Int) (t t1 t2:Tok) (oa ob:Obj) (na nb:Nat),u=.ref a/\s.heap.get? a=some oa/\oa.cls=.type "tuple"/\oa.data=.seq #[.str st t,.ref b] na/\s.heap.get? b=some ob/\ob.cls=.type "tuple"/\ob.data=.seq #[.int i t1,.int j t2] nb:=by
 obtain⟨st,i,j,rfl⟩:=Lx hx;cases hv with
 | @tup p vs _ e r=>
 cases ru;cases r with
 | cons r1 r2=>
 cases r1;cases r2 with
 | cons r2 r3=>
 cases r3;cases r2 with
 | @tup b ws _ e2 r4=>
 cases r4 with
 | cons r4 r5=>
 cases r4;cases r5 with
 | cons r5 r6=>
 cases r6;cases r5;obtain⟨au,rv,⟨o,h1,h2,n,h3⟩,_⟩:=I.tuple (dD.of (K:=X.K) e);obtain⟨bL,rv2,⟨o2,k1,k2,n2,k3⟩,_⟩:=I.tuple (dD.of (K:=X.K) e2);cases rv with
 | cons q1 q2=>
 cases q2 with
 | cons q2 q3=>
 cases q3;cases rv2 with
 | cons m1 m2=>
 cases m2 with
 | cons m2 m3=>
 cases m3;obtain⟨t,rfl⟩:=q1;cases q2;obtain⟨t1,rfl⟩:=m1;obtain⟨t2,rfl⟩:=m2;exact⟨p,b,st,i,j,t,t1,t2,o,o2,n,n2,rfl,h1,h2,h3,k1,k2,k3⟩
end
def Wu {prog:Program}{w:World}{A:Around}{s:Shared}{a b a' b':Addr}{st pG:Str}{i j i' j':Int}{t t1 t2 t' t1' t2':Tok}{oa ob oa' Zd:Obj}{na nb na' nb':Nat} (hu:A.units+1 < cLine)
  (h1:s.heap.get? a=some oa) (h3:oa.data=.seq #[.str st t,.ref b] na) (k1:s.heap.get? b=some ob) (k2:ob.cls=.type "tuple") (k3:ob.data=.seq #[.int i t1,.int j t2] nb)
  (iR:s.heap.get? a'=some oa') (LG:oa'.data=.seq #[.str pG t',.ref b'] na') (k1':s.heap.get? b'=some Zd) (k2':Zd.cls=.type "tuple") (k3':Zd.data=.seq #[.int i' t1',.int j' t2'] nb')
  {C:Bool->Shared->Prop} (hC:∀b,C b s):wpAny (model prog w) A (keyLt' (tuples' true) (.ref a) (.ref a')) C (fun _ _=>False) s:=by
 refine PySem.W.kat_lt h1 h3 iR LG (Fz (Fp st t pG t' prog w _ _ (PySem.W.kat_go (fun _=>PySem.W.kat_yes ?_) fun _=>PySem.W.kat_no ?_)))
 ·refine Fz ?_;have hT:s.heap.IsTuple b #[.int i t1,.int j t2]:=⟨ob,k1,k2,nb,k3⟩;have hT':s.heap.IsTuple b' #[.int i' t1',.int j' t2']:=⟨Zd,k1',k2',nb',k3'⟩;have go:∀e,PySem.W.KatGo prog w A true (decide ((#[DJ st t,.ref b]:Array Value).size < (#[DJ pG t',.ref b']:Array Value).size)) C (.ref b) (.ref b') [] 1 e s:=fun e=>PySem.W.kat_go (fun _=>PySem.W.kat_yes (PySem.W.kat_nil (hC _))) fun _=>PySem.W.kat_no (PySem.W.kat_one _ _ (HT.K1 hT hT' (.cons i t1 (.cons j t2 .nil)) (.cons i' t1' (.cons j' t2' .nil)) (by omega) (hC _)));by_cases c:b=b'
  ·subst c;exact Dn (.ref b) prog w _ _ (go _)
  ·refine DN c (Fu (e:=fun k=>if k=0 then i==i' else j==j') hT hT' (by omega) fun k g1 g2=>?_) prog w _ _ (go _);have:k=0\/k=1:=by simp at g1;omega
   rcases this with rfl | rfl
   ·exact CM i t1 i' t1'
   ·exact CM j t2 j' t2'
 ·exact oneLt_str (hC _)
section
variable {X:Cx}{e:Expr}{pos p:Pos}{fs:aY}{wl:W (List PV)}
def YD (K:Ab):List V->Hp->VK->Prop:=fun xs H Q=>∃(p:Addr) (vs:List V) (l:List PV),xs=[.ref p]/\df K H p vs/\aM K [] H vs l/\l.length < 64/\l.all rZ=true/\∀m:List PV,m.Perm l->∀ws,aM K [] H ws m->mn H (.lst ws) Q
def Ra {H:Hp}{vs:List V}{us out:List Value}{l:List PV} (r:Vals vs us) (v:aM K [] H vs l) (p:out.Perm us):∃ws m,Vals ws out/\aM K [] H ws m/\m.Perm l:=by
 induction p generalizing vs l with
 | nil=>cases r;cases v;exact⟨[],[],.nil,.nil,.refl _⟩
 | cons x p ih=>
  cases r with
  | cons r1 r2=>
  cases v with
  | cons v1 v2=>
  obtain⟨ws,m,a,b,c⟩:=ih r2 v2;exact⟨_::ws,_::m,.cons r1 a,.cons v1 b,.cons _ c⟩
 | swap x y l'=>
  cases r with
  | cons r1 r2=>
  cases r2 with
  | cons r2 r3=>
  cases v with
  | cons v1 v2=>
  cases v2 with
  | cons v2 v3=>exact⟨_::_::_,_::_::_,.cons r2 (.cons r1 r3),.cons v2 (.cons v1 v3),.swap _ _ _⟩
 | trans p1 p2 ih1 ih2=>
  obtain⟨ws,m,a,b,c⟩:=ih2 r v;obtain⟨t6,m',a',b',c'⟩:=ih1 a b;exact⟨t6,m',a',b',c'.trans c⟩
def L0 (hK:X.K=K) (hu:X.A.units+200 < cLine):bS X (.builtin "sorted") (YD K):=by
 subst hK;intro pins s σ H xs us Q I r h;obtain⟨p,vs,l,rfl,hq,hv,h64,hd,q⟩:=h;obtain⟨u,rfl,rx⟩:=vals1 r;cases rx;obtain⟨au,r',pl,hz⟩:=I.list hq;have hl:=r'.length;have Qe:=hv.length;have el:∀i,i < au.length->∃(a b:Addr) (st:Str) (i1 j1:Int) (t t1 t2:Tok) (oa ob:Obj) (na nb:Nat),au.getD i AQ=.ref a/\s.heap.get? a=some oa/\oa.cls=.type "tuple"/\oa.data=.seq #[.str st t,.ref b] na/\s.heap.get? b=some ob/\ob.cls=.type "tuple"/\ob.data=.seq #[.int i1 t1,.int j1 t2] nb:=fun i hi=>by
  have e1:vs[i]?=some vs[i]:=Ad (by omega);obtain⟨x,ex,vx⟩:=hv.adp e1;have hx:=Cm.mp hd x (Bo ex);have ru:RelV vs[i] (au.getD i AQ):=by
   obtain⟨u,hu1,hu2⟩:=Vals.get r' e1;rw [Ap,hu1];exact hu2
  exact Ww I vx ru hx
 refine UA (κ:=tuples' true) pl.isList (by omega) (fun h2 h' kp=>?_) (fun h' kp i j hi hj C hC=>?_) fun out hp=>?_
 ·have firsts:∀l:List Value,(∀v∈l,∃(a:Addr) (x:Value) (st:Str) (t:Tok) (oa:Obj) (na:Nat),v=.ref a/\h'.get? a=some oa/\oa.cls=.type "tuple"/\oa.data=.seq #[.str st t,x] na)->∃fs,PySem.W.KatTups h' l fs/\fs.length=l.length/\∀v∈fs,∃st t,v=DJ st t:=by
   intro l
   induction l with
   | nil=>intro _;exact⟨[],trivial,rfl,by simp⟩
   | cons v l ih=>
    intro hl;obtain⟨fs,f1,f2,f3⟩:=ih fun y hy=>hl y (.tail _ hy);obtain⟨a,x,st,t,oa,na,rfl,g1,g2,g3⟩:=hl v (.head _);refine⟨.str st t::fs,PySem.W.KatTups.cons g1 g2 g3 rfl f1,by simp [f2],fun y hy=>?_⟩;rcases Ay.mp hy with rfl | hy
    ·exact⟨st,t,rfl⟩
    ·exact f3 y hy
  obtain⟨fs,f1,f2,f3⟩:=firsts au fun v hv=>by
   obtain⟨i,hi,rfl⟩:=DA hv;obtain⟨a,b,st,i1,j1,t,t1,t2,oa,ob,na,nb,e,h1,h2,h3,_⟩:=el i hi;rw [Ap,Ad hi] at e;exact⟨a,.ref b,st,t,oa,na,e,kp _ _ h1,h2,h3⟩
  refine PySem.W.kat_kind (T:=.type "str") f1 (by omega) (fun v hv=>?_) (by decide) ⟨rfl,rfl⟩;obtain⟨st,t,rfl⟩:=f3 v hv;exact PySem.W.Looks.now
 ·obtain⟨a,b,st,i1,j1,t,t1,t2,oa,ob,na,nb,e,h1,h2,h3,k1,k2,k3⟩:=el i hi;obtain⟨a',b',pG,i1',j1',t',t1',t2',oa',Zd,na',nb',e',iR,xZ,LG,k1',k2',k3'⟩:=el j hj;rw [e,e'];exact Wu (s:={s with heap:=h'}) (by show X.A.units+1+1+1 < _;omega) (kp _ _ h1) h3 (kp _ _ k1) k2 k3 (kp _ _ iR) LG (kp _ _ k1') k2' k3' hC
 ·obtain⟨ws,m,a1,a2,a3⟩:=Ra r' hv hp;obtain⟨e,he⟩:=sortedAll_at s.heap au out.toArray;refine⟨.ref (s.heap.objs.size+1),_,I.laid (t':=s.toks) (fun _ _=>sortedAll_old) (E4 _) (show bj X.prog X.w _ _ _ (.lst ws) from⟨?_,out,e,a1,he⟩),rfl,(q m a3 ws a2).at _ (I.bG.fresh (E4 _))⟩;have:=a1.length;have:=hp.length_eq;rw [a2.length,a3.length_eq];rw [<- Qe];exact hz
def QD (l:List PV):W (List PV):=.gB (l.length < 64/\l.all rZ=true) (.any fun m=>m.Perm l)
def Vz (hK:X.K=K) (hu:X.A.units+200 < cLine) (hg:Gl X "sorted") (hm:X.mg "sorted"=none) (ha:J7 X K fs e wl) (he:starEach [e] X.env=(false,eval e X.env)::starEach [] X.env:=by rfl) (eg:(backTo pos (starEach [] X.env)).any (·.1)=false:=by rfl):LF X K fs (.Call (.Name "sorted" p) [e] [] pos) (.bind wl QD):=
 ⟨PE.imp (gm (L0 hK hu) hg hm boot_sorted (bt ha.p dc he) (by decide) (by decide) he eg) fun σ H Q ⟨sr,q⟩=>⟨sr,wl.mono (fun l q1 u1 H1 g1 s1 _ v1=>by
  obtain⟨⟨c1,c2⟩,q2⟩:=q1;obtain⟨a,vs,rfl,h1,r1⟩:=v1 H1 .refl s1;exact⟨a,vs,l,rfl,h1,r1,c1,c2,fun m hm ws hw=>Nd g1 s1 hw (q2 m hm)⟩) q⟩⟩
end
end
open PySem PySem.Spec PyProof.Rows L2 PL
def du (ns:List Int):Prop:=∃g s c:Int,ns=[g,s,c]/\0<=g/\0<=s/\s < 2305843009213693951/\0<=c
def drawn (m:Int):W PV:=.any fun v=>∃d:Int,v=.int d/\0<=d/\d < m
def bc:PV->W PV
 | .int m=>.gB (0 < m/\m<=1000) (drawn m)
 | _=>.fail
def rF {g:Int->Int->PV}{i j:Int}:of2 (aI g) (.int i) (.int j)=.ret (g i j):=W.ext' fun Q=>⟨Cc,fun q=>⟨rfl,q⟩⟩
def uL {C:Int->Int->Prop}{g:Int->Int->PV}{i j:Int}:of2 (aIc C g) (.int i) (.int j)=.gB (C i j) (.ret (g i j)):=W.ext' fun Q=>⟨fun q=>⟨q.1,q.2.2⟩,fun q=>⟨q.1,rfl,q.2⟩⟩
section
variable (i j:Int) (a b:Bool) (x y:PV) (l m:List PV) (s t:Str)
@[simp] theorem sk:of2 rG (.int i) (.int j)=.ret (.int (i-j)):=rF
@[simp] theorem SN:of2 rH (.int i) (.int j)=.gB (IntMulOk i j) (.ret (.int (i*j))):=uL
@[simp] theorem ahb:of2 oDiv (.int i) (.int j)=.gB (W3 i j) (.ret (.int (i / j))):=uL
@[simp] theorem SO:of2 oMod (.int i) (.int j)=.gB (0 < j) (.ret (.int (i % j))):=uL
@[simp] theorem Z5:of2 IB (.int i) (.int j)=.gB (TQ i j) (.ret (.int (i ^ j.toNat))):=uL
@[simp] theorem Jt:of2 oLt (.int i) (.int j)=.ret (.bl (decide (i < j))):=rF
@[simp] theorem SQ:of2 oLe (.int i) (.int j)=.ret (.bl (decide (i<=j))):=rF
@[simp] theorem XR:of2 oGt (.int i) (.int j)=.ret (.bl (decide (j < i))):=rF
@[simp] theorem adE:of2 oGe (.int i) (.int j)=.ret (.bl (decide (j<=i))):=rF
@[simp] theorem adD:of2 Xz (.int i) (.int j)=.ret (.int (i+j)):=rF
def zh:of2 fF x y=.gB (Ph x y) (.ret (.bl (dE x y))):=W.ext' fun Q=>⟨fun q=>⟨q.1,q.2.2⟩,fun q=>⟨q.1,rfl,q.2⟩⟩
def XQ:of2 KI x y=.gB (Ph x y) (.ret (.bl (!dE x y))):=W.ext' fun Q=>⟨fun q=>⟨q.1,q.2.2⟩,fun q=>⟨q.1,rfl,q.2⟩⟩
@[simp] theorem ag9:of2 afV (.bl a) (.bl b)=.ret (.bl (a==b)):=W.ext' fun Q=>⟨Cc,fun q=>⟨rfl,q⟩⟩
@[simp] theorem su:of2 nt (.bl a) (.bl b)=.ret (.bl (!(a==b))):=W.ext' fun Q=>⟨Cc,fun q=>⟨rfl,q⟩⟩
@[simp] theorem wZ:of2 OC x .aQ=.ret (.bl x.jZ):=W.ext' fun Q=>⟨Cc,fun q=>⟨rfl,q⟩⟩
@[simp] theorem NG:of2 Nb x .aQ=.ret (.bl (!x.jZ)):=W.ext' fun Q=>⟨Cc,fun q=>⟨rfl,q⟩⟩
@[simp] theorem Z9:of2 Vm (.str s) (.str t)=.ret (.bl (!(Builtin.Str.occurrences t s 0 t.length 1).isEmpty)):=W.ext' fun Q=>⟨Cc,fun q=>⟨rfl,q⟩⟩
def Z8 {c:Nat} (h:cy s.cps.toList i=some c):of2 Ru (.str s) (.int i)=.gB (s.length<=sizeLine) (.ret (.str ⟨#[c]⟩)):=W.ext' fun Q=>by
 show (s.length<=sizeLine/\match cy s.cps.toList i with | some c=>_/\_ | none=>False)↔_;rw [h];exact⟨fun q=>⟨q.1,q.2.2⟩,fun q=>⟨q.1,rfl,q.2⟩⟩
@[simp] theorem hU:addW (.int i) (.int j)=.ret (.int (i+j)):=(rfl)
@[simp] theorem Wm:addW (.str s) (.str t)=.gB (s.length+t.length<=sizeLine) (.ret (.str (s++t))):=(rfl)
@[simp] theorem NJ:addW (.tup l) (.tup m)=.gB (l.length+m.length<=sizeLine) (.ret (.tup (l++m))):=(rfl)
@[simp] theorem oI:rJ (.int i)=.ret (.int (-i)):=(rfl)
@[simp] theorem br:asB (.bl a)=.ret a:=(rfl)
@[simp] theorem zi (w:W PV):m7 (.bl true) w=w:=(rfl)
@[simp] theorem aa0 (w:W PV):m7 (.bl false) w=.ret (.bl false):=(rfl)
@[simp] theorem i9 (w:W PV):PQ (.bl true) w=w:=(rfl)
@[simp] theorem NI (w:W PV):PQ (.bl false) w=.ret (.bl false):=(rfl)
@[simp] theorem SJ (w:W PV):orW (.bl true) w=.ret (.bl true):=(rfl)
@[simp] theorem SK (w:W PV):orW (.bl false) w=w:=(rfl)
@[simp] theorem ag7:Ze (.bl a)=.ret (.bl (!a)):=(rfl)
@[simp] theorem bB:dm (.bl a)=.ret a:=(rfl)
@[simp] theorem aeW:dm (.int i)=.ret (i != 0):=(rfl)
@[simp] theorem aeV:dm .aQ=.ret false:=(rfl)
@[simp] theorem aeU:dm (.tup l)=.ret (!l.isEmpty):=(rfl)
@[simp] theorem aeX:dm (.cl l)=.ret (!l.isEmpty):=(rfl)
@[simp] theorem aF:az (.tup l)=.ret l:=(rfl)
@[simp] theorem bW:az (.cl l)=.ret l:=(rfl)
@[simp] theorem G4:K2 (.cl l)=.ret l:=(rfl)
@[simp] theorem bb:Qb l (.int i)=.Rq (cy l i):=(rfl)
@[simp] theorem G5:uk l=.ret (.int l.length):=(rfl)
@[simp] theorem sj:rk l=.ret (.tup l):=(rfl)
@[simp] theorem adF:blW a=.ret (.bl a):=(rfl)
@[simp] theorem qH:part (.int i)=.ret (some i):=(rfl)
@[simp] theorem si:vg (.tup [x,y])=.ret (x,y):=(rfl)
@[simp] theorem Z4 (z:PV):un3 (.tup [x,y,z])=.ret (x,y,z):=(rfl)
@[simp] theorem SG (z u:PV):un4 (.tup [x,y,z,u])=.ret (x,y,z,u):=(rfl)
@[simp] theorem ae7 (k:Kd):gK k (.int i)=.ret (.bl (k.is (.int i))):=(rfl)
@[simp] theorem i7 (k:Kd):gK k (.str s)=.ret (.bl (k.is (.str s))):=(rfl)
@[simp] theorem hJ (k:Kd):gK k (.tup l)=.ret (.bl (k.is (.tup l))):=(rfl)
@[simp] theorem ae8 (k:Kd):gK k (.cl l)=.ret (.bl (k.is (.cl l))):=(rfl)
@[simp] theorem ae9 (k:Kd):gK k (.bl a)=.ret (.bl (k.is (.bl a))):=(rfl)
@[simp] theorem ae6 (k:Kd):gK k .aQ=.ret (.bl (k.is .aQ)):=(rfl)
@[simp] theorem cT:ud eI [.tup l]=.ret (.int l.length):=W.ext' fun Q=>⟨Cc,fun q=>⟨rfl,q⟩⟩
@[simp] theorem i6:ud eI [.cl l]=.ret (.int l.length):=W.ext' fun Q=>⟨Cc,fun q=>⟨rfl,q⟩⟩
@[simp] theorem Wj:ud eI [.str s]=.gB (s.length<=sizeLine) (.ret (.int s.length)):=W.ext' fun Q=>⟨fun q=>⟨q.1,q.2.2⟩,fun q=>⟨q.1,rfl,q.2⟩⟩
@[simp] theorem aaa:ud Ts [.int i]=.ret (.int (if i < 0 then -i else i)):=W.ext' fun Q=>⟨Cc,fun q=>⟨rfl,q⟩⟩
@[simp] theorem afa:ud xx [.int i]=.ret (.int i):=W.ext' fun Q=>⟨Cc,fun q=>⟨rfl,q⟩⟩
@[simp] theorem qI:ud xx [.bl a]=.ret (.int (if a then 1 else 0)):=W.ext' fun Q=>⟨Cc,fun q=>⟨rfl,q⟩⟩
@[simp] theorem Z7:ud Tq [.int i,.int j]=.ret (.int (if j > i then j else i)):=W.ext' fun Q=>⟨Cc,fun q=>⟨rfl,q⟩⟩
@[simp] theorem Z6:ud Tp [.int i,.int j]=.ret (.int (if j < i then j else i)):=W.ext' fun Q=>⟨Cc,fun q=>⟨rfl,q⟩⟩
@[simp] theorem so (p q:Option Int):Og (.tup l) p q=.ret (.tup (pq l p q)):=(rfl)
@[simp] theorem aeY:Lc (.int i)=.ret (.inl i):=(rfl)
@[simp] theorem Wk:Lc (.str s)=.ret (.inr s):=(rfl)
@[simp] theorem fj:jM (.int j)=.gB (okN 0 j) (.ret (j5 0 j.toNat)):=(rfl)
@[simp] theorem NF (k:Int):MX (.int i) (.int j) (.int k)=.gB (k = -1/\okN j i) (.ret (n8 i (i-j).toNat)):=(rfl)
@[simp] theorem SH:Kn (.str s)=.gB (s.cps.size<=sizeLine) (.ret (s.cps.toList.map fun c=>.str ⟨#[c]⟩)):=(rfl)
@[simp] theorem SI:F1 (l++[x])=.ret (l,x):=by unfold F1;simp
@[simp] theorem G3:Ig l (.int i)=.gB (-(2 ^ 63)<=i/\i < 2 ^ 63/\l.length*i.toNat<=sizeLine) (.ret (Al i.toNat l).flatten):=(rfl)
@[simp] theorem ae2:Kd.is .int (.int i)=true:=(rfl)
@[simp] theorem ae3:Kd.is .int (.bl a)=true:=(rfl)
@[simp] theorem ae5:Kd.is .bool (.bl a)=true:=(rfl)
@[simp] theorem ae4:Kd.is .bool (.int i)=false:=(rfl)
@[simp] theorem kO:Kd.is .str (.str s)=true:=(rfl)
@[simp] theorem kN:Kd.is .str (.tup l)=false:=(rfl)
@[simp] theorem ae1:Kd.is .str (.int i)=false:=(rfl)
@[simp] theorem NH:Kd.is .tup (.tup l)=true:=(rfl)
@[simp] theorem Wl:Kd.is .tup (.str s)=false:=(rfl)
@[simp] theorem aeZ:Kd.is .tup (.int i)=false:=(rfl)
@[simp] theorem ae0:Kd.is .tup (.bl a)=false:=(rfl)
@[simp] theorem cS (h0:0 < i) (h1:i<=1000):bc (.int i)=drawn i:=W.ax ⟨h0,h1⟩
def bw {m:Int}{Q:PV->Prop} (h:∀d:Int,0<=d->d < m->Q (.int d)):(drawn m).run Q:=fun v ⟨d,e,h0,h1⟩=>e▸h d h0 h1
end
namespace W
variable {α β:Type}
def le (a b:W α):Prop:=∀Q,b.run Q->a.run Q
def le.refl (a:W α):a.le a:=fun _ h=>h
def le.of_eq {a b:W α} (h:a=b):a.le b:=h▸le.refl a
def le.ret {a:W α}{v:α}{f:α->W β}{b:W β} (h:a.le (.ret v)) (hf:(f v).le b):(a.bind f).le b:=fun Q q=>h _ (hf Q q)
def le.use {a:W α}{v:α}{Q:α->Prop} (h:a.le (.ret v)) (q:Q v):a.run Q:=h _ q
end W
section
variable {S R:Type}
@[simp] theorem adv (s:S) (f:PV->S->W S):eE [] s f=.ret s:=(rfl)
@[simp] theorem aaU (x:PV) (r:List PV) (s:S) (f:PV->S->W S):eE (x::r) s f=.bind (f x s) fun s'=>eE r s' f:=(rfl)
theorem wV {f:PV->S->W S}{Q:S->Prop} (I:List PV->S->Prop):∀{l:List PV}{s:S},I l s->(∀x r s,I (x::r) s->(f x s).run (I r))->(∀s,I [] s->Q s)->(eE l s f).run Q
 | [],s,h0,_,he=>he s h0
 | x::r,s,h0,hs,he=>(f x s).mono (fun s' h=>wV I h hs he) (hs x r s h0)
theorem Jo {f:PV->S->W (Lp S R)}{Q:Lp S R->Prop} (I:List PV->S->Prop):∀{l:List PV}{s:S},I l s->(∀x r s,I (x::r) s->(f x s).run fun o=>match o with | .go s'=>I r s' | .out t=>Q (.out t))->(∀s,I [] s->Q (.go s))->(FL.nQ l s f).run Q
 | [],s,h0,_,he=>he s h0
 | x::r,s,h0,hs,he=>(f x s).mono (fun o h=>match o,h with
  | .go s',h=>Jo I h hs he
  | .out t,h=>h) (hs x r s h0)
def kM {f:PV->S->W S}{Q:S->Prop}{l:List PV} (I:Nat->S->Prop) {s:S} (h0:I 0 s) (hs:∀(i:Nat) (x:PV) s,l[i]?=some x->I i s->(f x s).run (I (i+1))) (he:∀s,I l.length s->Q s):(eE l s f).run Q:=by
 refine wV (fun r s=>∃i,i<=l.length/\r=l.drop i/\I i s) ⟨0,A3 _,rfl,h0⟩ (fun x r s ⟨i,hi,e,h⟩=>?_) (fun s ⟨i,hi,e,h⟩=>?_)
 ·have mF:i < l.length:=by
   rcases C1 i l.length with h | h
   ·exact h
   ·rw [ED h] at e;cases e
  rw [Bp mF] at e;injection e with e1 e2;subst e1;exact (f _ s).mono (fun s' h'=>⟨i+1,mF,e2,h'⟩) (hs i _ s (Ad mF) h)
 ·have:i=l.length:=by
   have:=congrArg BV e;rw [CB] at this;simp at this;omega
  subst this;exact he s h
def NA {f:PV->S->W (Lp S R)}{Q:Lp S R->Prop}{l:List PV} (I:Nat->S->Prop) {s:S} (h0:I 0 s) (hs:∀(i:Nat) (x:PV) s,l[i]?=some x->I i s->(f x s).run fun o=>match o with | .go s'=>I (i+1) s' | .out t=>Q (.out t)) (he:∀s,I l.length s->Q (.go s)):(FL.nQ l s f).run Q:=by
 refine Jo (fun r s=>∃i,i<=l.length/\r=l.drop i/\I i s) ⟨0,A3 _,rfl,h0⟩ (fun x r s ⟨i,hi,e,h⟩=>?_) (fun s ⟨i,hi,e,h⟩=>?_)
 ·have mF:i < l.length:=by
   rcases C1 i l.length with h | h
   ·exact h
   ·rw [ED h] at e;cases e
  rw [Bp mF] at e;injection e with e1 e2;subst e1;exact (f _ s).mono (fun o h'=>match o,h' with
   | .go s',h'=>⟨i+1,mF,e2,h'⟩
   | .out t,h'=>h') (hs i _ s (Ad mF) h)
 ·have:i=l.length:=by
   have:=congrArg BV e;rw [CB] at this;simp at this;omega
  subst this;exact he s h
def qG {f:PV->S->W S}{Q:S->Prop}{n:Nat} (I:Nat->S->Prop) {s:S} (h0:I 0 s) (hs:∀(i:Nat) s,i < n->I i s->(f (.int (i:Int)) s).run (I (i+1))) (he:∀s,I n s->Q s):(eE (j5 0 n) s f).run Q:=
 kM I h0 (fun i x s hx h=>by obtain⟨hi,rfl⟩:=sf hx;rw [EE];exact hs i s hi h) (fun s h=>he s (by rw [j3] at h;exact h))
def Jp {f:PV->S->W (Lp S R)}{Q:Lp S R->Prop}{n:Nat} (I:Nat->S->Prop) {s:S} (h0:I 0 s) (hs:∀(i:Nat) s,i < n->I i s->(f (.int (i:Int)) s).run fun o=>match o with | .go s'=>I (i+1) s' | .out t=>Q (.out t)) (he:∀s,I n s->Q (.go s)):(FL.nQ (j5 0 n) s f).run Q:=
 NA I h0 (fun i x s hx h=>by obtain⟨hi,rfl⟩:=sf hx;rw [EE];exact hs i s hi h) (fun s h=>he s (by rw [j3] at h;exact h))
def kh {c:S->W Bool}{b:S->W S}{Q:S->Prop} (I:Nat->S->Prop) {n:Nat}{s:S} (h0:I n s) (hs:∀n s,I n s->(c s).run fun k=>if k=true then (b s).run (fun s'=>∃m,m < n/\I m s') else Q s):(ou c b s).run Q:=by
 refine⟨n+1,?_⟩;have:∀k n s,n < k->I n s->(ox c b k s).run Q:=by
  intro k
  induction k with
  | zero=>intro n s h;omega
  | succ k ih=>
   intro n s hn h;refine (c s).mono (fun z q=>?_) (hs n s h);cases z with
   | true=>exact (b s).mono (fun s' ⟨m,hm,h'⟩=>ih m s' (by omega) h') (show (b s).run _ from q)
   | false=>exact q
 exact this (n+1) n s (by omega) h0
def Ka {c:S->W Bool}{b:S->W (Lp S R)}{Q:Lp S R->Prop} (I:Nat->S->Prop) {n:Nat}{s:S} (h0:I n s) (hs:∀n s,I n s->(c s).run fun k=>if k=true then (b s).run (fun o=>match o with | .go s'=>∃m,m < n/\I m s' | .out t=>Q (.out t)) else Q (.go s)):(FL.vd c b s).run Q:=by
 refine⟨n+1,?_⟩;have:∀k n s,n < k->I n s->(ki c b k s).run Q:=by
  intro k
  induction k with
  | zero=>intro n s h;omega
  | succ k ih=>
   intro n s hn h;refine (c s).mono (fun z q=>?_) (hs n s h);cases z with
   | true=>exact (b s).mono (fun o q=>match o,q with
    | .go s',⟨m,hm,h'⟩=>ih m s' (by omega) h'
    | .out t,q=>q) (show (b s).run _ from q)
   | false=>exact q
 exact this (n+1) n s (by omega) h0
theorem Gi {f:PV->W PV}{g:PV->PV}:∀{l:List PV},(∀x∈l,f x=.ret (g x))->cp l f=.ret (l.map g)
 | [],_=>rfl
 | x::r,h=>by
  show W.bind (f x) (fun y=>W.bind (cp r f) fun l=>W.ret (y::l))=_;rw [h x (.head _),Gi fun y hy=>h y (.tail _ hy)];rfl
theorem K9 {f:PV->W (Option PV)}{g:PV->Option PV}:∀{l:List PV},(∀x∈l,f x=.ret (g x))->lR l f=.ret (l.filterMap g)
 | [],_=>rfl
 | x::r,h=>by
  show W.bind (f x) (fun o=>W.bind (lR r f) fun l=>W.ret (o.toList++l))=_;rw [h x (.head _),K9 fun y hy=>h y (.tail _ hy),BB];cases g x <;> rfl
@[simp] theorem uX (bs:List Bool):JE (bs.map PV.bl)=.ret (.bl (bs.all id)):=by unfold JE;rw [Hn];rfl
@[simp] theorem WN (bs:List Bool):Tx (bs.map PV.bl)=.ret (.bl (bs.any id)):=by unfold Tx;rw [Hn];rfl
theorem all_map (f:PV->Bool) (l:List PV):JE (l.map fun x=>.bl (f x))=.ret (.bl (l.all f)):=by
 have:(l.map fun x=>PV.bl (f x))=(l.map f).map PV.bl:=by rw [AX];rfl
 rw [this,uX,List.all_map];rfl
end
section
variable (i j:Int) (a b:Bool) (x y:PV) (l m:List PV) (s t:Str)
@[simp] theorem Sz:dE (.int i) (.int j)=(i==j):=by rw [dE]
@[simp] theorem XN:dE (.str s) (.str t)=(s==t):=by rw [dE]
@[simp] theorem XO:dE (.bl a) (.bl b)=(a==b):=by rw [dE]
@[simp] theorem aix:dE (.tup l) (.tup m)=hE l m:=by rw [dE]
@[simp] theorem aiy:dE (.cl l) (.cl m)=hE l m:=by rw [dE]
@[simp] theorem ag6:hE [] []=true:=by rw [hE]
@[simp] theorem ag5:hE (x::l) (y::m)=(dE x y&&hE l m):=by rw [hE]
@[simp] theorem aeQ:PV.eL (.int i)=true:=by rw [PV.eL] <;> simp
@[simp] theorem ag4:PV.eL (.bl a)=true:=by rw [PV.eL] <;> simp
@[simp] theorem aeO:PV.eL (.str s)=true:=by rw [PV.eL] <;> simp
@[simp] theorem aeP:PV.eL .aQ=true:=by rw [PV.eL] <;> simp
@[simp] theorem aeN:PV.eL (.tup l)=fY l:=by rw [PV.eL]
@[simp] theorem ag3:PV.eL (.cl l)=fY l:=by rw [PV.eL]
@[simp] theorem adw:fY []=true:=by rw [fY]
@[simp] theorem aaV:fY (x::l)=(PV.eL x&&fY l):=by rw [fY]
@[simp] theorem adB:PV.fZ (.int i)=0:=by rw [PV.fZ] <;> simp
@[simp] theorem aeT:PV.fZ (.bl a)=0:=by rw [PV.fZ] <;> simp
@[simp] theorem adz:PV.fZ (.str s)=0:=by rw [PV.fZ] <;> simp
@[simp] theorem adA:PV.fZ .aQ=0:=by rw [PV.fZ] <;> simp
@[simp] theorem ady:PV.fZ (.tup l)=eF l+1:=by rw [PV.fZ]
@[simp] theorem aeS:PV.fZ (.cl l)=eF l+1:=by rw [PV.fZ]
@[simp] theorem aaX:eF []=0:=by rw [eF]
@[simp] theorem Z2:eF (x::l)=max (PV.fZ x) (eF l):=by rw [eF]
def Ju:Ph (.int i) (.int j):=⟨by simp,by simp,by simp⟩
@[simp] theorem eR:of2 fF (.int i) (.int j)=.ret (.bl (i==j)):=by rw [zh,W.ax (Ju i j),Sz]
@[simp] theorem SM:of2 KI (.int i) (.int j)=.ret (.bl (!(i==j))):=by rw [XQ,W.ax (Ju i j),Sz]
@[simp] theorem aha:of2 fF (.bl a) (.bl b)=.ret (.bl (a==b)):=by rw [zh,W.ax ⟨by simp,by simp,by simp⟩,XO]
@[simp] theorem ag8:of2 KI (.bl a) (.bl b)=.ret (.bl (!(a==b))):=by rw [XQ,W.ax ⟨by simp,by simp,by simp⟩,XO]
end
theorem mJ:∀{l:List PV},fY l=true↔∀x∈l,PV.eL x=true
 | []=>by simp
 | x::l=>by rw [fY,AM,mJ (l:=l)];simp
theorem mM {n:Nat}:∀{l:List PV},(∀x∈l,PV.fZ x<=n)->eF l<=n
 | [],_=>by simp
 | x::l,h=>by
  have h1:=h x (.head _);have h2:=mM (l:=l) fun y hy=>h y (.tail _ hy);rw [eF];omega
structure EV where
 P:Program
 w:World
 K:Ab
 mg:Str->Option Value
 base:Heap
structure DF where
 x:Str
 s:Stmt
 ps:List Str
 k:Nat
 sp:Ab->Sp
abbrev DF.C (d:DF) (v:EV):=WZ v.P v.w v.K v.mg v.base d.x d.k d.ps (d.sp v.K)
structure DI (v:EV) (d:DF) where
 f:Addr
 fd:FuncData
 fn:T6 v.K d.x d.x d.s f fd
 bi:Binds v.K fd d.ps []
 at':v.mg d.x=some (.ref f)
abbrev DI.O {v:EV}{d:DF} (D:DI v d):Prop:=iQ v.P v.w v.K v.mg v.base xW d.k D.f D.fd d.ps (d.sp v.K)
def DI.c {v:EV}{d:DF} (D:DI v d) (h:D.O):d.C v:=⟨D.f,D.fd,h,D.bi,D.fn.kp,D.at'⟩
def DI.cN {v:EV}{d:DF}{k:Nat}{sp:Sp} (D:DI v d) (h:iQ v.P v.w v.K v.mg v.base xW k D.f D.fd d.ps sp):WZ v.P v.w v.K v.mg v.base d.x k d.ps sp:=⟨D.f,D.fd,h,D.bi,D.fn.kp,D.at'⟩
def DI.cA {v:EV}{d:DF} (D:DI v d) (h:D.O):aaC v.P v.w v.K v.mg v.base D.f d.k d.ps (d.sp v.K):=⟨D.fd,h,D.bi,D.fn.kp⟩
structure DX (K:Ab) (x:Str) (st:Stmt):Prop where
 ex:∃f fd,AH K mainGlobals x=some (some (.ref f))/\T6 K x x st f fd
def dx {K:Ab}{x:Str}{st:Stmt}{f:Addr}{oc:Value}{od an:Option Addr}{Rl:Array (Option Value)}{kV doc pm gE ct:Value} (a:AH K mainGlobals x=some (some (.ref f))) (l:K.lookup f=some ⟨oc,od,.func (Cd x x (kZ st) (dR st) (aj st) .none kV doc pm an gE ct),Rl⟩)
  (c:DL K gE x=true) (k:Cw K (.ref f)=true):DX K x st:=⟨f,_,a,Z1 l c k⟩
def gM {N P:List Str}{sc:Scope} (h1:sc.kind=.function:=by rfl) (h2:sc.isCoroutine=false:=by rfl) (h3:sc.isGenerator=false:=by rfl) (h4:N.Nodup:=by decide +kernel) (h5:N.take P.length=P:=by rfl) (h6:∀x∈P,sc.names.lookup x=some .local\/sc.names.lookup x=some .cell:=by decide +kernel) (h7:∀y∈sc.names,y.2≠.free:=by decide +kernel):ar N P sc:=⟨h1,h2,h3,h4,h5,h6,h7⟩
def lcs {Xs:Scope}{N:List Str}{sc:Scope}{N':List Str}{ix:List (Option Nat)} (h1:sc.kind=.function:=by rfl) (h2:∀y∈sc.names,y.2≠.cell:=by decide +kernel) (h3:∀y∈sc.names,y.2=.local->sc.names.lookup y.1=some .local:=by decide +kernel) (h4:∀y∈sc.names,y.2=.free->(Xs.names.lookup y.1=some .cell\/Xs.names.lookup y.1=some .free):=by decide +kernel) (h5:N'.Nodup:=by decide +kernel) (h6:ix.length=N'.length:=by rfl)
  (h7:((ix.zip N').all fun p=>match p.1 with | none=>true | some j=>decide (N[j]?=some p.2)&&decide (sc.names.lookup p.2=some .free))=true:=by decide +kernel):aE Xs N sc N' ix:=⟨h1,h2,h3,h4,h5,h6,h7⟩
abbrev qf (l:List (Str×NameKind)):Scope:={kind:=.function,names:=(Ce ".0",.local)::l,isGenerator:=false,isCoroutine:=false,more:=[]}
abbrev lo:NameKind:=.local
abbrev gi:NameKind:=.globalImplicit
abbrev fr:NameKind:=.free
section
variable {v:EV}{x:Str}{st:Stmt}{ps N:List Str}{k n:Nat}{ks:List AK}
def lT {m:T7 PV n} (D:DI v ⟨x,st,ps,k+1,fun K=>gY K ks (da n m)⟩) (S:ar N ps (aj st)) (cert:∀l:List PV,l.length=n->∀(gE:Value) (A:Around) (outer:List Env) (s:Shared) (H:Hp) (E:XK),fv k (A.deeper (envOfC x (aj st) s.heap.objs.size D.f gE))->SF (xo xW v.P v.w v.K v.mg v.base N x (aj st) D.f gE A outer s H E).Vp v.K false (xw ks l N.length) (dR st) (da n m l) .rt)
  (ZS:ks.length=ps.length:=by rfl) (one:xE ks:=by repeat' first | exact Ga | exact iD (n:=0) | exact iD (n:=1) | exact iD (n:=2) | exact iD (n:=3) | exact iD (n:=4) | exact iD (n:=5) | exact iD (n:=6) | apply Rn | apply Xj):D.O:=fnV D.fn S ZS one cert
def Qa {m:T7 (List PV) n} (D:DI v ⟨x,st,ps,k+1,fun K=>jJ K ks (da n m)⟩) (S:ar N ps (aj st)) (cert:∀l:List PV,l.length=n->∀(gE:Value) (A:Around) (outer:List Env) (s:Shared) (H:Hp) (E:XK),fv k (A.deeper (envOfC x (aj st) s.heap.objs.size D.f gE))->SF (xo xW v.P v.w v.K v.mg v.base N x (aj st) D.f gE A outer s H E).Vp v.K false (xw ks l N.length) (dR st) (da n m l) .rl)
  (ZS:ks.length=ps.length:=by rfl) (one:xE ks:=by repeat' first | exact Ga | exact iD (n:=0) | exact iD (n:=1) | exact iD (n:=2) | exact iD (n:=3) | exact iD (n:=4) | exact iD (n:=5) | exact iD (n:=6) | apply Rn | apply Xj):D.O:=fnL D.fn S ZS one cert
end
section
variable {X:Cx}{K:Ab}{fs:aY}{x:Str}{k k':Nat}{ps:List Str}{ks:List AK}{e:Expr}{es:List Expr}{W':W PV}{WL:W (List PV)}{pos p:Pos}
def eC {m:List PV->W PV}{B:(List PV->W PV)->W PV} (G:WZ X.prog X.w X.K X.mg X.base x k ps (gY K ks m)) (hr:fv k' X.A) (ha:AF X K fs (e::es) ks B) (hk:k<=k':=by first | exact C5 rfl | exact An _ | omega) (hg:Gl X x:=by rfl) (hW:W'=B m:=by rfl) (qA:(x==("__debug__":Str))=false:=by decide)
  (he:starEach (e::es) X.env=(false,eval e X.env)::starEach es X.env:=by rfl) (eg:(backTo pos (starEach es X.env)).any (·.1)=false:=by rfl):EF X K fs (.Call (.Name x p) (e::es) [] pos) W':=Wq G hr hk hg ha hW qA he eg
def lC {m:List PV->W (List PV)}{B:(List PV->W (List PV))->W (List PV)} (G:WZ X.prog X.w X.K X.mg X.base x k ps (jJ K ks m)) (hr:fv k' X.A) (ha:AF X K fs (e::es) ks B) (hk:k<=k':=by first | exact C5 rfl | exact An _ | omega) (hg:Gl X x:=by rfl) (hW:WL=B m:=by rfl) (qA:(x==("__debug__":Str))=false:=by decide)
  (he:starEach (e::es) X.env=(false,eval e X.env)::starEach es X.env:=by rfl) (eg:(backTo pos (starEach es X.env)).any (·.1)=false:=by rfl):LF X K fs (.Call (.Name x p) (e::es) [] pos) WL:=VB G hr hk hg ha hW qA he eg
def eB (i:Nat) (hN:X.N.Nodup) (hi:X.N[i]?=some x:=by rfl) (hx:Loc X.env.scope x:=by first | exact .inl rfl | exact .inr rfl) (hf:X.fn x=true\/X.env.scope.names.lookup x=some .local:=by first | exact .inl rfl | exact .inr rfl | assumption):PG X (.Name x pos) (dY i):=U0 hN hi hx hf
variable {T:Type}{out:T->End}{b:Bool}{rest:List Stmt}{y:Str}{p':Pos}
def sv (i:Nat) {we:W PV}{k:PV->W T} (hN:X.N.Nodup) (he:EF X K fs e we) (hr:∀v,SF X K b (fs.set i (some (.val v))) rest (k v) out) (hi:X.N[i]?=some y:=by rfl) (hx:Loc X.env.scope y:=by first | exact .inl rfl | exact .inr rfl) (hs:swapsWith e (some (.Name y p')) pos.line X.env=pure false:=by rfl)
  (hf:X.fn y=true\/X.env.scope.names.lookup y=some .local:=by first | exact .inl rfl | exact .inr rfl | assumption):SF X K b fs (.Assign [.Name y p'] e pos::rest) (.bind we k) out:=SF.set hN hi hx he hr hs hf
def sl (i:Nat) {wl:W (List PV)}{k:List PV->W T} (hN:X.N.Nodup) (he:LF X K fs e wl) (hr:∀l,SF X K b (fs.set i (some (.ol none l))) rest (k l) out) (hi:X.N[i]?=some y:=by rfl) (hx:Loc X.env.scope y:=by first | exact .inl rfl | exact .inr rfl) (hs:swapsWith e (some (.Name y p')) pos.line X.env=pure false:=by rfl)
  (hf:X.fn y=true\/X.env.scope.names.lookup y=some .local:=by first | exact .inl rfl | exact .inr rfl | assumption):SF X K b fs (.Assign [.Name y p'] e pos::rest) (.bind wl k) out:=SF.afK hN hi hx he hr hs hf
end
def us1 {P:List Value->Prop} (h:∀a,P [a]):∀us:List Value,us.length=1->P us
 | [_],_=>h _
def us2 {P:List Value->Prop} (h:∀a b,P [a,b]):∀us:List Value,us.length=2->P us
 | a::_,e=>us1 (P:=fun l=>P (a::l)) (h _) _ (Fx.inj e)
def us3 {P:List Value->Prop} (h:∀a b c,P [a,b,c]):∀us:List Value,us.length=3->P us
 | a::_,e=>us2 (P:=fun l=>P (a::l)) (h _) _ (Fx.inj e)
def us4 {P:List Value->Prop} (h:∀a b c d,P [a,b,c,d]):∀us:List Value,us.length=4->P us
 | a::_,e=>us3 (P:=fun l=>P (a::l)) (h _) _ (Fx.inj e)
def us5 {P:List Value->Prop} (h:∀a b c d e,P [a,b,c,d,e]):∀us:List Value,us.length=5->P us
 | a::_,e=>us4 (P:=fun l=>P (a::l)) (h _) _ (Fx.inj e)
def us6 {P:List Value->Prop} (h:∀a b c d e f,P [a,b,c,d,e,f]):∀us:List Value,us.length=6->P us
 | a::_,e=>us5 (P:=fun l=>P (a::l)) (h _) _ (Fx.inj e)
def DX.gQ {v:EV}{h:Heap}{d:DF} (D:DX v.K d.x d.s) (X:v.K.In h) (G:h.Ns mainGlobals v.mg)
  (hb:∀(kV doc pm:Value) (an:Option Addr) (gE ct:Value) (us:List Value),us.length=d.ps.length->bindArgs (Cd d.x d.x (kZ d.s) (dR d.s) (aj d.s) .none kV doc pm an gE ct) ⟨us,[]⟩=pure (d.ps.zip us):=by
   first
    | exact fun _ _ _ _ _ _=>us1 fun _=>rfl
    | exact fun _ _ _ _ _ _=>us2 fun _ _=>rfl
    | exact fun _ _ _ _ _ _=>us3 fun _ _ _=>rfl
    | exact fun _ _ _ _ _ _=>us4 fun _ _ _ _=>rfl
    | exact fun _ _ _ _ _ _=>us5 fun _ _ _ _ _=>rfl
    | exact fun _ _ _ _ _ _=>us6 fun _ _ _ _ _ _=>rfl
    | exact fun _ _ _ _ _ _=>us7 fun _ _ _ _ _ _ _=>rfl
    | exact fun _ _ _ _ _ _=>us8 fun _ _ _ _ _ _ _ _=>rfl):Nonempty (DI v d):=by
 obtain⟨f,fd,a,F⟩:=D.ex;exact⟨⟨f,fd,F,F.binds hb,BJ X G a⟩⟩
end FL
namespace My
open PySem PySem.Spec PyProof.Rows L2 PL FL
def fJ (eZ:PV):W (List PV):=
 W.bind (W.ret []) fun pB=>
 W.bind (W.bind (W.ret eZ) fun x3=>W.ret [x3]) fun fC=>
 W.bind (ou (fun s4=>(W.bind (W.ret s4.2) fun l5=>W.ret (!l5.isEmpty))) (fun s4=>(
 W.bind (F1 s4.2) fun t7=>
 W.bind (W.ret t7.2) fun x9=>W.bind (m8 s4.1 x9) fun pA=>
 fh (vi (W.bind (W.bind (W.ret t7.2) (gK .str)) dm)) (
 W.bind (W.bind (W.ret t7.2) az) fun l11=>W.bind (G1 t7.1 l11) fun iy=>
 W.ret (pA,iy)) (
 W.ret (pA,t7.1)))) (pB,fC)) fun s4=>
 (W.bind (W.ret s4.1) fun l12=>W.ret l12.reverse)
def g8 (eZ:PV):W PV:=
 W.bind (W.ret []) fun km=>
 W.bind (W.ret []) fun Gn=>
 W.bind (W.bind (W.ret eZ) fun x3=>fJ x3) fun l30=>W.bind (eE l30 (km,Gn) fun F5 s4=>(
 W.bind (W.bind (W.bind (W.ret F5) (gK .str)) dm) fun b=>W.bind (if b=true then (
 W.bind (W.ret F5) fun zP=>W.bind (m8 s4.1 zP) fun MD=>
 W.ret (MD,s4.2)) else (
 W.bind (F1 s4.2) fun t20=>
 W.bind (F1 t20.1) fun t22=>
 W.bind (W.bind (W.ret t22.2) fun J9=>W.bind (W.ret t20.2) fun zM=>W.ret (.tup [J9,zM])) fun zL=>W.bind (m8 s4.1 zL) fun MC=>
 W.ret (MC,t22.1))) fun Yz=>
 W.bind (b2 rG (W.bind (W.ret Yz.1) uk) (W.ret (.int 1))) fun Ql=>W.bind (m8 Yz.2 Ql) fun IL=>
 W.ret (Yz.1,IL))) fun s4=>
 (W.bind (W.ret s4.1) rk)
def cX (a7:PV):W PV:=
 (fh (W.bind (W.bind (W.ret a7) (gK .str)) dm) (W.ret (.tup [])) (W.ret a7))
def eQ (eZ:PV):W PV:=
 W.bind (W.bind (W.ret eZ) fun x2=>g8 x2) fun km=>
 W.bind (W.bind (W.bind (W.ret km) az) fun l4=>cp l4 fun p5=>(W.ret .aQ)) fun Hr=>
 W.bind (W.bind (W.bind (W.ret km) az) fun l6=>.gB (l6.length<=sizeLine) (.ret (eG 0 l6))) fun l19=>W.bind (eE l19 Hr fun p8 s7=>W.bind (vg p8) fun t9=>(
 W.bind (W.bind (W.bind (W.ret t9.2) fun pK=>cX pK) az) fun RN=>W.bind (eE RN s7 fun Nz ub=>(
 W.bind (W.ret t9.1) fun nK=>W.bind (W.ret Nz) fun oq=>W.bind (gG ub oq nK) fun JH=>
 W.ret JH)) fun ub=>
 W.ret ub)) fun s7=>
 (W.bind (W.ret s7) rk)
def dI (cE:PV) (gL:PV):W PV:=
 (fh (W.bind (W.bind (bh (W.bind (W.ret cE) az) (W.ret gL)) (gK .str)) dm) (bh (W.bind (W.ret cE) az) (W.ret gL)) (W.ret gL))
def fM (bN:PV):W (List PV):=
 W.bind (W.bind (W.ret bN) fun x2=>eQ x2) fun eM=>
 W.bind (W.bind (W.bind (W.ret eM) az) fun l4=>cp l4 fun p5=>(W.ret (.tup []))) fun ny=>
 W.bind (W.bind (b2 rG (c1 eI (W.ret eM)) (W.ret (.int 1))) fun x6=>W.bind (W.bind (W.ret (.int 1)) rJ) fun x7=>W.bind (W.bind (W.ret (.int 1)) rJ) fun x8=>MX x6 x7 x8) fun RN=>W.bind (eE RN ny fun mE s9=>(
 W.bind (fh (t2 OC (bh (W.bind (W.ret eM) az) (W.ret mE)) (W.ret .aQ)) (W.ret (.tup [])) (bh (W.ret s9) (bh (W.bind (W.ret eM) az) (W.ret mE)))) fun JI=>
 W.bind (w2 addW (W.bind (W.ret mE) fun pJ=>W.ret (.tup [pJ])) (W.ret JI)) fun nK=>W.bind (W.ret mE) fun oq=>W.bind (gG s9 oq nK) fun IP=>
 W.ret IP)) fun s9=>
 W.ret s9
def dJ (rQ:PV) (gL:PV):W PV:=
 (W.bind (W.bind (W.bind (c1 eI (W.ret rQ)) jM) fun l2=>lR l2 fun p3=>J0 (vm (R7 true (W.ret p3) (W.bind (bh (W.bind (W.ret rQ) az) (W.ret gL)) az)) (R7 true (W.ret gL) (W.bind (bh (W.bind (W.ret rQ) az) (W.ret p3)) az))) (W.ret p3)) rk)
def jV (bN:PV):W PV:=
 W.bind (W.bind (W.ret bN) fun x2=>g8 x2) fun gw=>
 W.bind (W.bind (W.ret bN) fun x4=>fM x4) fun ny=>
 (W.bind (W.bind (W.bind (c1 eI (W.ret gw)) jM) fun l6=>cp l6 fun p7=>(W.bind (W.bind (W.ret gw) fun x8=>W.bind (W.ret p7) fun x9=>dI x8 x9) fun pK=>W.bind (W.ret (.int 0)) fun zR=>W.bind (W.bind (bh (W.bind (W.ret gw) az) (W.ret p7)) fun HL=>cX HL) fun pJ=>W.bind (W.bind (W.ret (.cl ny)) fun nK=>W.bind (W.ret p7) fun oq=>dJ nK oq) fun Qm=>W.ret (.tup [pK,zR,pJ,Qm]))) rk)
def fR (dh:PV) (k_:PV):W (List PV):=
 W.bind (W.ret (.int 0)) fun Td=>
 W.bind (t2 oLt (W.ret k_) (c1 eI (W.ret dh))) fun b=>W.bind (if b=true then (
 W.bind (c1 Ts (bh (W.bind (W.ret dh) az) (W.ret k_))) fun Tc=>
 W.ret Tc) else (
 W.ret Td)) fun s3=>
 W.bind (b2 rH (b2 oMod (W.ret s3) (b2 rH (b2 IB (W.ret (.int 10)) (W.ret (.int 60))) (b2 IB (W.ret (.int 10)) (W.ret (.int 60))))) (c1 xx (b2 oGe (W.ret s3) (b2 IB (W.ret (.int 10)) (W.ret (.int 18)))))) fun qL=>
 (W.bind (W.ret qL) fun x6=>W.bind (b2 oMod (w2 addW (w2 addW (W.ret s3) (b2 rH (W.ret (.int 104729)) (W.ret k_))) (W.ret (.int 7))) (W.ret (.int 2305843009213693951))) fun x7=>W.bind (W.ret (.int 0)) fun x8=>W.ret [x6,x7,x8])
def gs (dG:List PV) (gq:PV):W (PV×List PV):=
 fh (t2 oGt (bh (W.ret dG) (W.ret (.int 0))) (W.ret (.int 0))) (
 W.bind (b2 oMod (bh (W.ret dG) (W.ret (.int 0))) (W.ret gq)) fun NR=>
 W.bind (b2 oDiv (bh (W.ret dG) (W.ret (.int 0))) (W.ret gq)) fun x3=>W.bind (W.ret (.int 0)) fun x4=>W.bind (gG dG x4 x3) fun oA=>
 W.bind (W.ret NR) fun x5=>W.ret (x5,oA)) (
 W.bind (W.ret (.int 2)) fun x6=>W.bind (ZK dG x6) fun x7=>W.bind (W.ret (.int 1)) fun x8=>W.bind (of2 Xz x7 x8) fun pK=>W.bind (gG dG x6 pK) fun iB=>
 W.bind (b2 oMod (w2 addW (w2 addW (b2 rH (bh (W.ret iB) (W.ret (.int 1))) (W.ret (.int 69069))) (b2 rH (W.ret (.int 9973)) (bh (W.ret iB) (W.ret (.int 2))))) (W.ret (.int 5))) (W.ret (.int 2305843009213693921))) fun vS=>
 W.bind (b2 oMod (b2 rH (W.ret vS) (w2 addW (w2 addW (b2 oMod (W.ret vS) (W.ret (.int 999983))) (b2 rH (W.ret (.int 2)) (bh (W.ret iB) (W.ret (.int 2))))) (W.ret (.int 3)))) (W.ret (.int 2305843009213693907))) fun pJ=>W.bind (W.ret (.int 1)) fun nK=>W.bind (gG iB nK pJ) fun iX=>
 W.bind (b2 oMod (b2 oDiv (bh (W.ret iX) (W.ret (.int 1))) (W.ret (.int 65537))) (W.ret gq)) fun oq=>W.ret (oq,iX))
def cQ (gq:PV):W (List PV):=
 W.bind (W.ret (.str "abcdefghijklmnopqrstuvwxyz")) fun rS=>
 W.bind (W.bind (W.ret (.int 26)) fun x3=>bc x3) fun uT=>
 W.bind (bh (W.bind (W.ret (.int 1)) fun x5=>W.bind (W.ret (.int 3)) fun x6=>W.bind (W.ret (.int 5)) fun x7=>W.bind (W.ret (.int 7)) fun x8=>W.bind (W.ret (.int 9)) fun x9=>W.bind (W.ret (.int 11)) fun pK=>W.ret [x5,x6,x7,x8,x9,pK]) (W.bind (W.ret (.int 6)) fun zR=>bc zR)) fun Kg=>
 W.bind (bh (W.bind (W.ret (.str "")) fun pJ=>W.bind (W.ret (.str "k")) fun nK=>W.ret [pJ,nK]) (W.bind (W.ret (.int 2)) fun oq=>bc oq)) fun Fl=>
 W.bind (W.bind (W.ret (.str "")) fun zQ=>W.bind (W.ret (.str "q")) fun zP=>W.bind (W.ret (.str "zz")) fun yc=>W.bind (W.ret (.str "abcdef")) fun va=>W.ret [zQ,zP,yc,va]) fun G7=>
 W.bind (W.ret []) fun wR=>
 W.bind (W.bind (W.ret gq) jM) fun Zv=>W.bind (eE Zv wR fun ZF Yy=>(
 W.bind (b2 Ru (W.ret rS) (b2 oMod (w2 addW (W.ret uT) (b2 rH (W.ret Kg) (W.ret ZF))) (W.ret (.int 26)))) fun yZ=>
 W.bind (w2 addW (w2 addW (W.ret Fl) (W.ret yZ)) (bh (W.bind (W.ret (.cl G7)) az) (b2 oMod (w2 addW (W.ret uT) (W.ret ZF)) (W.ret (.int 4))))) fun Yc=>W.bind (m8 Yy Yc) fun Jm=>
 W.ret Jm)) fun Yy=>
 W.ret Yy
def fN (aA:PV):W PV:=
 (Md (W.bind (W.ret aA) (gK .int)) (W.bind (W.bind (W.ret aA) (gK .bool)) Ze))
def fe (aA:PV) (gq:PV):W PV:=
 (Md (W.bind (W.ret aA) (gK .tup)) (b2 fF (c1 eI (W.ret aA)) (W.ret gq)))
def hZ (aA:PV):W PV:=
 fh (tor (vi (W.bind (W.bind (W.ret aA) (gK .str)) dm)) (vi (chT oLe oLe (W.ret (.int 1)) (c1 eI (W.ret aA)) (W.ret (.int 8))))) (
 (W.ret (.bl false))) (
 (W.bind (W.bind (W.bind (W.ret aA) Kn) fun l1=>cp l1 fun p2=>(b2 Vm (W.ret p2) (W.ret (.str "abcdefghijklmnopqrstuvwxyz")))) JE))
def fP (aA:PV) (vL:PV):W PV:=
 W.bind (W.bind (W.ret aA) fun x3=>W.ret [x3]) fun fC=>
 W.bind (vd (fun s4=>(W.bind (W.ret s4.2) fun l5=>W.ret (!l5.isEmpty))) (fun s4=>(
 W.bind (F1 s4.2) fun t7=>
 fh (W.bind (W.bind (W.ret t7.2) fun x8=>W.bind (W.ret (.int 2)) fun x9=>fe x8 x9) dm) (
 W.bind (W.bind (W.ret t7.2) az) fun l11=>W.bind (G1 t7.1 l11) fun iy=>
 W.ret (.go (s4.1,iy))) (
 fh (tor (vi (W.bind (W.bind (W.ret t7.2) fun nK=>hZ nK) dm)) (vm (W.bind (W.ret t7.2) fun HL=>W.bind (Lc HL) fun k13=>W.ret (mG s4.1 k13)) (vi (W.bind (W.ret vL) dm)))) (
 W.bind (W.ret (.bl false)) fun oq=>W.ret (Lp.out oq)) (
 W.bind (W.ret (.bl true)) fun zQ=>W.bind (W.ret t7.2) fun zP=>W.bind (YO s4.1 zP zQ) fun MW=>
 W.ret (.go (MW,t7.1)))))) ([],fC)) (J4 (fun s4=>
 (W.ret (.bl true))) id)
def cZ (cE:PV) (bO:PV):W (List PV):=
 (W.bind (W.bind (W.bind (W.ret cE) az) fun l1=>W.bind (W.bind (W.ret bO) az) fun l2=>yb l1 l2) fun l3=>lR l3 fun p4=>W.bind (vg p4) fun t5=>J0 (vi (W.bind (W.bind (W.ret t5.1) (gK .str)) dm)) (W.ret t5.2))
def bp (HZ:PV):W PV:=
 (bh (W.bind (W.ret HZ) az) (W.bind (c1 eI (W.ret HZ)) fun x1=>bc x1))
def mr (cJ:PV):W PV:=
 W.bind (W.bind (W.ret cJ) az) fun vt=>
 W.bind (W.bind (W.ret (.int 4)) fun x3=>bc x3) fun W5=>
 W.bind (ou (fun s4=>(t2 oGt (W.bind (W.ret s4) uk) (W.ret (.int 1)))) (fun s4=>(
 W.bind (bh (W.bind (W.bind (b2 rG (W.bind (W.ret s4) uk) (W.ret (.int 1))) fun x6=>bc x6) fun x7=>W.bind (b2 rG (W.bind (W.ret s4) uk) (W.ret (.int 2))) fun x8=>W.bind (W.ret (.int 0)) fun x9=>W.bind (W.ret (.int 0)) fun pK=>W.ret [x7,x8,x9,pK]) (W.ret W5)) fun pC=>
 W.bind (W.bind (bh (W.ret s4) (W.ret pC)) fun HL=>W.bind (bh (W.ret s4) (w2 addW (W.ret pC) (W.ret (.int 1)))) fun pJ=>W.ret (.tup [HL,pJ])) fun uJ=>
 W.bind (vm (t2 fF (W.ret W5) (W.ret (.int 3))) (t2 fF (W.bind (W.ret (.int 2)) fun nK=>bc nK) (W.ret (.int 0)))) fun b=>W.bind (if b=true then (
 W.bind (W.bind (bh (W.ret s4) (w2 addW (W.ret pC) (W.ret (.int 1)))) fun va=>W.bind (bh (W.ret s4) (W.ret pC)) fun zO=>W.ret (.tup [va,zO])) fun uI=>
 W.ret uI) else (
 W.ret uJ)) fun s18=>
 W.bind (W.bind (W.ret s18) fun zN=>W.ret [zN]) fun l24=>W.bind (W.ret pC) fun zM=>W.bind (w2 addW (W.ret pC) (W.ret (.int 2))) fun zL=>W.bind (UC s4 zM zL l24) fun uG=>
 W.ret uG)) vt) fun s4=>
 (bh (W.ret s4) (W.ret (.int 0)))
def qc:W PV:=
 (W.bind (Pf (W.bind (w2 addW (W.ret (.int 1)) (W.bind (bh (W.bind (W.ret (.int 5)) fun x1=>W.bind (W.ret (.int 8)) fun x2=>W.ret [x1,x2]) (c1 xx (b2 fF (W.bind (W.ret (.int 8)) fun x3=>bc x3) (W.ret (.int 0))))) fun x4=>bc x4)) fun x5=>cQ x5)) fun x6=>mr x6)
def a8:Nat->PV->W (List PV)
 | 0,_=>W.fail
 | n+1,cL=>
 fh (W.bind (W.bind (W.ret cL) (gK .str)) dm) (
 (W.bind (W.ret cL) fun x1=>W.ret [x1])) (
 W.bind (W.bind (bh (W.bind (W.ret cL) az) (W.ret (.int 0))) fun x3=>a8 n x3) fun FV=>
 W.bind (W.bind (W.ret FV) uk) fun vU=>
 W.bind (W.bind (bh (W.bind (W.ret cL) az) (W.ret (.int 1))) fun x5=>a8 n x5) fun l18=>W.bind (eE l18 FV fun Ib s6=>(
 W.bind (fh (W.bind (W.bind (W.ret Ib) (gK .str)) dm) (W.ret Ib) (W.bind (w2 addW (bh (W.bind (W.ret Ib) az) (W.ret (.int 0))) (W.ret vU)) fun x9=>W.bind (w2 addW (bh (W.bind (W.ret Ib) az) (W.ret (.int 1))) (W.ret vU)) fun pK=>W.ret (.tup [x9,pK]))) fun zR=>W.bind (m8 s6 zR) fun QN=>
 W.ret QN)) fun s6=>
 (W.bind (W.ret s6) fun l15=>W.bind (W.bind (W.bind (b2 rG (W.ret vU) (W.ret (.int 1))) fun HL=>W.bind (b2 rG (W.bind (W.ret s6) uk) (W.ret (.int 1))) fun pJ=>W.ret (.tup [HL,pJ])) fun nK=>W.ret [nK]) fun l16=>Jz l15 l16))
def dP (bf:PV):W PV:=
 W.bind (W.bind (W.bind (W.ret (.int 0)) fun x2=>W.ret [x2]) fun l3=>W.bind (c1 eI (W.ret bf)) fun x4=>Ig l3 x4) fun k6=>
 W.bind (W.bind (W.bind (W.bind (W.ret bf) az) fun l6=>.gB (l6.length<=sizeLine) (.ret (eG 0 l6))) fun l7=>lR l7 fun p8=>W.bind (vg p8) fun t9=>J0 (vi (W.bind (W.bind (W.ret t9.2) (gK .str)) dm)) (W.ret t9.1)) fun K8=>
 W.bind (W.ret (.int 0)) fun Hf=>
 W.bind (ou (fun ub=>(W.bind (W.ret ub.2.1) fun l12=>W.ret (!l12.isEmpty))) (fun ub=>(
 W.bind (W.bind (W.bind (W.bind (W.ret (.cl ub.2.1)) az) fun l14=>lR l14 fun p15=>J0 (vm (R7 true (bh (W.bind (bh (W.bind (W.ret bf) az) (W.ret p15)) az) (W.ret (.int 0))) (W.bind (W.ret (.cl ub.2.1)) az)) (R7 true (bh (W.bind (bh (W.bind (W.ret bf) az) (W.ret p15)) az) (W.ret (.int 1))) (W.bind (W.ret (.cl ub.2.1)) az))) (W.ret p15)) Qu) fun Ih=>
 W.bind (W.bind (W.ret (.cl Ih)) fun zQ=>bp zQ) fun wH=>
 W.bind (w2 addW (w2 addW (W.ret ub.2.2) (W.ret (.int 1))) (W.bind (bh (W.bind (W.ret (.int 1)) fun yc=>W.bind (W.ret (.int 3)) fun va=>W.bind (W.ret (.int 13)) fun zO=>W.ret [yc,va,zO]) (W.bind (W.ret (.int 3)) fun HK=>bc HK)) fun zN=>bc zN)) fun He=>
 W.bind (W.ret He) fun zM=>W.bind (W.ret wH) fun zL=>W.bind (gG ub.1 zL zM) fun n9=>
 W.bind (W.ret wH) fun Ql=>W.bind (YC ub.2.1 Ql) fun Nh=>
 W.ret (n9,Nh,He))) (k6,K8,Hf)) fun ub=>
 (W.bind (W.ret ub.1) rk)
def fH (bN:PV) (bO:PV) (fu:PV):W (List PV):=
 W.bind (W.bind (W.ret bN) fun x2=>eQ x2) fun eM=>
 W.bind (W.ret []) fun F7=>
 W.bind (W.bind (W.bind (W.ret fu) az) fun l4=>.gB (l4.length<=sizeLine) (.ret (eG 0 l4))) fun l19=>W.bind (eE l19 F7 fun p6 s5=>W.bind (vg p6) fun t7=>(
 W.bind (W.bind (W.bind (W.ret bO) az) fun l8=>.gB (l8.length<=sizeLine) (.ret (eG 0 l8))) fun RN=>W.bind (eE RN s5 fun p10 s9=>W.bind (vg p10) fun t11=>(
 fh (vm (t2 oLe (W.ret t11.2) (W.ret t7.2)) (tor (t2 OC (bh (W.bind (W.ret eM) az) (W.ret t11.1)) (W.ret .aQ)) (t2 oLt (W.ret t7.2) (bh (W.bind (W.ret bO) az) (bh (W.bind (W.ret eM) az) (W.ret t11.1)))))) (
 W.bind (W.bind (W.ret t11.1) fun pJ=>W.bind (W.ret t7.1) fun nK=>W.ret (.tup [pJ,nK])) fun oq=>W.bind (m8 s9 oq) fun Iw=>
 W.ret Iw) (
 W.ret s9))) fun s9=>
 W.ret s9)) fun s5=>
 W.ret s5
def hX (cE:PV) (bO:PV) (fu:PV) (jQ:PV) (Iy:PV):W PV:=
 W.bind (bh (W.bind (W.ret Iy) az) (W.ret (.int 0))) fun nB=>
 W.bind (bh (W.bind (W.ret Iy) az) (W.ret (.int 1))) fun qo=>
 W.bind (b2 oLt (bh (W.bind (W.ret bO) az) (W.ret nB)) (bh (W.bind (W.ret fu) az) (W.ret qo))) fun zg=>
 W.bind (fh (W.bind (W.ret zg) dm) (W.bind (W.ret nB) fun x5=>W.ret (.tup [x5])) (W.bind (bh (W.bind (W.ret cE) az) (W.ret nB)) fun x6=>cX x6)) fun below_4=>
 W.bind (W.bind (W.bind (W.bind (W.ret below_4) az) fun l8=>cp l8 fun p9=>(dgB (W.ret jQ) (W.bind (W.ret p9) fun pK=>W.bind (b2 rG (W.ret qo) (W.ret (.int 1))) fun zR=>W.ret (.tup [pK,zR])))) rk) fun MB=>
 W.bind (W.bind (W.bind (W.bind (W.ret jQ) RO) fun l13=>lR l13 fun p14=>J0 (vm (t2 fF (bh (W.bind (W.ret p14) az) (W.ret (.int 1))) (W.ret qo)) (t2 KI (bh (W.bind (W.ret p14) az) (W.ret (.int 0))) (W.ret nB))) (dgB (W.ret jQ) (W.ret p14))) rk) fun zw=>
 (W.bind (W.bind (W.ret cE) fun oq=>W.bind (W.ret nB) fun Qm=>dI oq Qm) fun zQ=>W.bind (W.ret qo) fun zP=>W.bind (W.ret MB) fun yc=>W.bind (W.ret zw) fun va=>W.ret (.tup [zQ,zP,yc,va]))
def kG (bN:PV) (bO:PV):W PV:=
 W.bind (W.bind (W.ret bN) fun x2=>g8 x2) fun gw=>
 W.bind (W.bind (W.bind (W.ret (.int 0)) fun x4=>W.ret [x4]) fun l7=>W.bind (W.bind (W.bind (W.ret gw) fun x5=>W.bind (W.ret bO) fun x6=>cZ x5 x6) FP) fun l8=>Jz l7 l8) fun xv=>
 W.bind (W.bind (W.ret bN) fun pK=>W.bind (W.ret bO) fun zR=>W.bind (W.ret (.cl xv)) fun HL=>fH pK zR HL) fun F6=>
 W.bind (W.bind (W.bind (W.bind (W.bind (W.ret (.cl F6)) az) fun l14=>.gB (l14.length<=sizeLine) (.ret (eG 0 l14))) fun l15=>cp l15 fun p16=>W.bind (vg p16) fun t17=>(W.bind (W.ret t17.2) fun zP=>W.bind (W.ret t17.1) fun yc=>W.ret (.tup [zP,yc]))) LX) fun vM=>
 (W.bind (W.bind (W.bind (W.ret (.cl F6)) az) fun l20=>cp l20 fun p21=>(W.bind (W.ret gw) fun HK=>W.bind (W.ret bO) fun zN=>W.bind (W.ret (.cl xv)) fun J9=>W.bind (W.ret vM) fun zM=>W.bind (W.ret p21) fun zL=>hX HK zN J9 zM zL)) rk)
def ib (aA:PV):W PV:=
 (W.bind (W.ret aA) fun x1=>W.bind (W.ret (.bl true)) fun x2=>fP x1 x2)
def cO (av:PV) (aL:PV):W PV:=
 (bh (W.bind (bh (W.bind (W.ret av) az) (W.ret aL)) az) (W.ret (.int 2)))
def eW (av:PV) (aL:PV):W PV:=
 (bh (W.bind (bh (W.bind (W.ret av) az) (W.ret aL)) az) (W.ret (.int 3)))
def ik (av:PV) (aL:PV) (Mu:PV):W PV:=
 (Md (b2 fF (W.bind (W.ret av) fun x1=>W.bind (W.ret aL) fun x2=>cO x1 x2) (W.ret (.tup []))) (b2 fF (bh (W.bind (bh (W.bind (W.ret av) az) (W.ret aL)) az) (W.ret (.int 0))) (W.ret Mu)))
def cP (jm:PV):W PV:=
 (bh (W.bind (bh (W.bind (W.ret jm) az) (W.ret (.int 0))) az) (W.ret (.int 0)))
def jW (jm:PV):W PV:=
 (bh (W.bind (bh (W.bind (W.ret jm) az) (W.ret (.int 0))) az) (W.bind (W.ret (.int 1)) rJ))
def mq (jm:PV):W PV:=
 (W.bind (W.bind (W.bind (W.bind (W.ret jm) fun x3=>W.bind (W.bind (W.ret (.int 2)) part) fun i1=>W.bind (W.ret none) fun j2=>Og x3 i1 j2) az) fun l4=>cp l4 fun p5=>(W.bind (W.ret p5) fun x6=>cP x6)) rk)
def eU (aB:PV) (aL:PV):W (List PV):=
 W.bind (W.bind (W.ret aB) fun x2=>W.bind (W.ret aL) fun x3=>cO x2 x3) fun pN=>
 (fh (t2 fF (c1 eI (W.ret pN)) (W.ret (.int 2))) (W.bind (W.ret pN) fun x4=>W.bind (W.bind (bh (W.bind (W.ret pN) az) (W.ret (.int 1))) fun x5=>W.bind (bh (W.bind (W.ret pN) az) (W.ret (.int 0))) fun x6=>W.ret (.tup [x5,x6])) fun x7=>W.ret [x4,x7]) (W.ret []))
def fK (aB:PV) (aL:PV):W (List PV):=
 W.bind (W.bind (W.ret aB) fun x2=>W.bind (W.ret aL) fun x3=>eW x2 x3) fun xu=>
 (W.bind (W.bind (W.bind (W.ret xu) az) fun l4=>cp l4 fun p5=>(W.bind (W.ret aL) fun x6=>W.bind (W.ret p5) fun x7=>W.ret (.tup [x6,x7]))) fun l12=>W.bind (W.bind (W.bind (W.ret xu) az) fun l8=>cp l8 fun p9=>(W.bind (W.ret p9) fun pK=>W.bind (W.ret aL) fun zR=>W.ret (.tup [pK,zR]))) fun l13=>Jz l12 l13)
def eP (aB:PV) (a7:PV) (aL:PV):W (List PV):=
 fh (W.bind (W.bind (W.ret a7) (gK .str)) dm) (
 (fh (W.bind (W.bind (W.ret aB) fun x1=>W.bind (W.ret aL) fun x2=>W.bind (W.ret a7) fun x3=>ik x1 x2 x3) dm) (W.bind (W.bind (W.ret (.str "found")) fun x4=>W.bind (W.ret (.tup [])) fun x5=>W.ret (.tup [x4,x5])) fun x6=>W.ret [x6]) (W.ret []))) (
 W.bind (W.bind (W.bind (W.ret aB) fun x8=>W.bind (W.ret aL) fun x9=>eU x8 x9) fun Zx=>cp Zx fun M8=>(W.bind (W.ret (.str "split")) fun HL=>W.bind (W.ret M8) fun pJ=>W.ret (.tup [HL,pJ]))) fun MN=>
 W.bind (W.bind (W.bind (W.ret aB) fun oq=>W.bind (W.ret aL) fun Qm=>fK oq Qm) fun RN=>cp RN fun p18=>(W.bind (W.ret (.str "over")) fun yc=>W.bind (W.ret p18) fun va=>W.ret (.tup [yc,va]))) fun M9=>
 (W.bind (W.bind (W.bind (W.bind (W.bind (W.ret (.str "doubled")) fun zO=>W.bind (W.bind (W.ret aL) fun HK=>W.bind (W.ret aL) fun zN=>W.ret (.tup [HK,zN])) fun J9=>W.ret (.tup [zO,J9])) fun zM=>W.ret [zM]) fun l26=>W.bind (W.bind (W.ret (.cl MN)) K2) fun Zw=>Jz l26 Zw) fun l28=>W.bind (W.bind (W.ret (.cl M9)) K2) fun Zv=>Jz l28 Zv) QD))
def ic (aB:PV) (aA:PV):W PV:=
 (Md (W.bind (W.ret aA) fun x1=>fN x1) (chB oLe oLt (W.ret (.int 0)) (W.ret aA) (c1 eI (W.ret aB))))
def ig (aB:PV) (aA:PV):W PV:=
 fh (tor (vi (W.bind (W.bind (W.ret aA) (gK .tup)) dm)) (t2 fF (c1 eI (W.ret aA)) (W.ret (.int 0)))) (
 (W.ret (.bl false))) (
 fh (vi (W.bind (W.bind (W.bind (W.bind (W.ret aA) az) fun l1=>cp l1 fun p2=>(W.bind (W.ret aB) fun x3=>W.bind (W.ret p2) fun x4=>ic x3 x4)) JE) dm)) (
 (W.ret (.bl false))) (
 (W.bind (W.bind (W.bind (W.bind (W.ret aA) az) fun l8=>W.bind (W.bind (W.bind (W.ret aA) fun x7=>W.bind (W.bind (W.ret (.int 1)) part) fun i5=>W.bind (W.ret none) fun j6=>Og x7 i5 j6) az) fun l9=>yb l8 l9) fun Zx=>cp Zx fun M8=>W.bind (vg M8) fun tq=>(acN false (W.ret tq.2) (W.bind (W.bind (W.ret aB) fun pJ=>W.bind (W.ret tq.1) fun nK=>cO pJ nK) az))) JE)))
def eV (aB:PV) (a7:PV) (aA:PV):W PV:=
 W.bind (fh (W.bind (W.bind (W.ret a7) (gK .str)) dm) (W.ret (.int 2)) (W.ret (.int 4))) fun RD=>
 (Md (W.bind (W.ret aA) fun x4=>W.bind (W.ret RD) fun x5=>fe x4 x5) (Md (W.bind (W.ret aB) fun x2=>W.bind (bh (W.bind (W.ret aA) az) (W.ret (.int 0))) fun x3=>ig x2 x3) (W.bind (bh (W.bind (W.ret aA) az) (W.ret (.int 1))) (gK .str))))
def ck (aB:PV) (tm:PV) (aA:PV):W PV:=
 W.bind (W.bind (W.bind (W.ret tm) az) fun l2=>cp l2 fun p3=>(W.ret .aQ)) fun Qq=>
 W.bind (W.ret aA) fun x5=>W.bind (W.bind (W.ret (.int 1)) rJ) fun x6=>W.bind (gG Qq x6 x5) fun oy=>
 W.bind (W.bind (b2 rG (c1 eI (W.ret tm)) (W.ret (.int 1))) fun x7=>W.bind (W.bind (W.ret (.int 1)) rJ) fun x8=>W.bind (W.bind (W.ret (.int 1)) rJ) fun x9=>MX x7 x8 x9) fun l33=>W.bind (nQ l33 oy fun nu UI=>(
 W.bind (bh (W.bind (W.ret tm) az) (W.ret nu)) fun uM=>
 W.bind (bh (W.ret UI) (W.ret nu)) fun zT=>
 fh (vi (W.bind (W.bind (W.ret aB) fun nK=>W.bind (W.ret uM) fun oq=>W.bind (W.ret zT) fun Qm=>eV nK oq Qm) dm)) (
 W.bind (W.ret .aQ) fun zQ=>W.ret (Lp.out zQ)) (
 W.bind (W.bind (W.bind (W.bind (W.ret uM) fun zP=>cX zP) az) fun l22=>W.bind (W.bind (W.bind (W.ret zT) fun zO=>W.bind (W.bind (W.ret (.int 2)) part) fun i19=>W.bind (W.ret none) fun j20=>Og zO i19 j20) az) fun l23=>yb l22 l23) fun l31=>W.bind (eE l31 UI fun p25 Yx=>W.bind (vg p25) fun t26=>(
 W.bind (W.ret t26.2) fun Ql=>W.bind (W.ret t26.1) fun Yb=>W.bind (gG Yx Yb Ql) fun Mw=>
 W.ret Mw)) fun Yx=>
 W.ret (.go Yx)))) (J4 (fun UI=>
 (W.ret (.cl UI))) id)
def ip (aB:PV) (a7:PV) (jm:PV):W PV:=
 (acN false (W.bind (bh (W.bind (W.ret jm) az) (W.ret (.int 1))) fun x1=>W.bind (W.bind (W.ret jm) fun x2=>mq x2) fun x3=>W.ret (.tup [x1,x3])) (W.bind (W.ret aB) fun x4=>W.bind (W.ret a7) fun x5=>W.bind (W.bind (W.ret jm) fun x6=>jW x6) fun x7=>eP x4 x5 x7))
def gr (aB:PV) (vv:PV) (aA:PV):W PV:=
 fh (vi (W.bind (W.bind (W.ret vv) fun x1=>ib x1) dm)) (
 (W.ret (.bl false))) (
 W.bind (W.bind (W.ret vv) fun x3=>g8 x3) fun Kh=>
 W.bind (W.bind (W.ret aB) fun x5=>W.bind (W.ret Kh) fun x6=>W.bind (W.ret aA) fun x7=>ck x5 x6 x7) fun oy=>
 fh (tor (t2 OC (W.ret oy) (W.ret .aQ)) (t2 KI (c1 eI (bh (W.bind (W.ret aA) az) (W.ret (.int 0)))) (W.ret (.int 1)))) (
 (W.ret (.bl false))) (
 (W.bind (W.bind (W.bind (W.bind (W.ret Kh) az) fun l8=>W.bind (W.bind (W.ret oy) az) fun l9=>yb l8 l9) fun Zx=>cp Zx fun M8=>W.bind (vg M8) fun tq=>(W.bind (W.ret aB) fun pJ=>W.bind (W.ret tq.1) fun nK=>W.bind (W.ret tq.2) fun oq=>ip pJ nK oq)) JE)))
def eD (cJ:PV):W PV:=
 W.bind (W.bind (W.ret cJ) az) fun vt=>
 W.bind (W.bind (W.ret (.int 4)) fun x3=>bc x3) fun iw=>
 W.bind (ou (fun s4=>(t2 oGt (W.bind (W.ret s4) uk) (W.ret (.int 1)))) (fun s4=>(
 W.bind (bh (W.bind (W.bind (b2 rG (W.bind (W.ret s4) uk) (W.ret (.int 1))) fun x6=>bc x6) fun x7=>W.bind (b2 rG (W.bind (W.ret s4) uk) (W.ret (.int 2))) fun x8=>W.bind (W.ret (.int 0)) fun x9=>W.bind (W.ret (.int 0)) fun pK=>W.ret [x7,x8,x9,pK]) (W.ret iw)) fun pC=>
 W.bind (W.bind (bh (W.ret s4) (W.ret pC)) fun HL=>W.bind (bh (W.ret s4) (w2 addW (W.ret pC) (W.ret (.int 1)))) fun pJ=>W.ret (.tup [HL,pJ])) fun uJ=>
 W.bind (vm (t2 fF (W.ret iw) (W.ret (.int 3))) (t2 fF (W.bind (W.ret (.int 2)) fun nK=>bc nK) (W.ret (.int 0)))) fun b=>W.bind (if b=true then (
 W.bind (W.bind (bh (W.ret s4) (w2 addW (W.ret pC) (W.ret (.int 1)))) fun va=>W.bind (bh (W.ret s4) (W.ret pC)) fun zO=>W.ret (.tup [va,zO])) fun uI=>
 W.ret uI) else (
 W.ret uJ)) fun s18=>
 W.bind (W.bind (W.ret s18) fun zN=>W.ret [zN]) fun l24=>W.bind (W.ret pC) fun zM=>W.bind (w2 addW (W.ret pC) (W.ret (.int 2))) fun zL=>W.bind (UC s4 zM zL l24) fun uG=>
 W.ret uG)) vt) fun s4=>
 (bh (W.ret s4) (W.ret (.int 0)))
def dA:W PV:=
 (W.bind (Pf (W.bind (w2 addW (W.ret (.int 1)) (W.bind (bh (W.bind (W.ret (.int 5)) fun x1=>W.bind (W.ret (.int 8)) fun x2=>W.ret [x1,x2]) (c1 xx (b2 fF (W.bind (W.ret (.int 8)) fun x3=>bc x3) (W.ret (.int 0))))) fun x4=>bc x4)) fun x5=>cQ x5)) fun x6=>eD x6)
def dM (bE:PV):W PV:=
 W.bind (W.bind (W.bind (W.ret bE) fun x2=>a8 12 x2) fun l3=>lR l3 fun p4=>J0 (W.bind (W.bind (W.ret p4) (gK .str)) dm) (W.ret p4)) fun pL=>
 W.bind (w2 addW (W.ret (.int 1)) (W.bind (bh (W.bind (W.ret (.int 6)) fun x6=>W.bind (W.ret (.int 10)) fun x7=>W.ret [x6,x7]) (c1 xx (b2 fF (W.bind (W.ret (.int 8)) fun x8=>bc x8) (W.ret (.int 0))))) fun x9=>bc x9)) fun RC=>
 (W.bind (Pf (W.bind (W.bind (W.ret RC) jM) fun l11=>cp l11 fun p12=>(W.bind (W.ret (.cl pL)) fun pJ=>bp pJ))) fun nK=>eD nK)
def bJ (bE:PV):W PV:=
 fh (t2 fF (W.bind (W.ret (.int 2)) fun x1=>bc x1) (W.ret (.int 0))) (
 (W.bind (W.ret bE) fun x2=>jV x2)) (
 (W.bind (W.ret bE) fun x3=>W.bind (W.bind (Pf (W.bind (W.ret bE) fun x4=>a8 12 x4)) fun x5=>dP x5) fun x6=>kG x3 x6))
def dN (av:PV) (aL:PV):W (List PV):=
 W.bind (bh (W.bind (W.ret av) az) (W.ret aL)) fun x1=>W.bind (un4 x1) fun t3=>
 W.bind (W.bind (W.bind (W.ret (.str "doubled")) fun x5=>W.bind (W.ret aL) fun x6=>W.bind (W.ret aL) fun x7=>W.ret (.tup [x5,x6,x7])) fun x8=>W.ret [x8]) fun GY=>
 W.bind (t2 fF (c1 eI (W.ret t3.2.2.1)) (W.ret (.int 2))) fun b=>W.bind (if b=true then (
 W.bind (W.bind (W.bind (W.ret (.str "split")) fun zO=>W.bind (bh (W.bind (W.ret t3.2.2.1) az) (W.ret (.int 0))) fun HK=>W.bind (bh (W.bind (W.ret t3.2.2.1) az) (W.ret (.int 1))) fun zN=>W.ret (.tup [zO,HK,zN])) fun J9=>W.bind (W.bind (W.ret (.str "split")) fun zM=>W.bind (bh (W.bind (W.ret t3.2.2.1) az) (W.ret (.int 1))) fun zL=>W.bind (bh (W.bind (W.ret t3.2.2.1) az) (W.ret (.int 0))) fun Yc=>W.ret (.tup [zM,zL,Yc])) fun Ql=>W.ret [J9,Ql]) fun Zv=>W.bind (G1 GY Zv) fun Jn=>
 W.ret Jn) else (
 W.ret GY)) fun s19=>
 W.bind (W.bind (W.ret t3.2.2.2) az) fun l43=>W.bind (eE l43 s19 fun jP UH=>(
 W.bind (W.bind (W.bind (W.ret (.str "over")) fun x33=>W.bind (W.ret aL) fun x34=>W.bind (W.ret jP) fun x35=>W.ret (.tup [x33,x34,x35])) fun x36=>W.bind (W.bind (W.ret (.str "over")) fun x37=>W.bind (W.ret jP) fun x38=>W.bind (W.ret aL) fun x39=>W.ret (.tup [x37,x38,x39])) fun x40=>W.ret [x36,x40]) fun l41=>W.bind (G1 UH l41) fun qF=>
 W.ret qF)) fun UH=>
 W.ret UH
def bP (av:PV) (bf:PV) (aN:PV) (a7:PV) (aL:PV):W (List PV):=
 W.bind (bh (W.bind (W.ret bf) az) (W.ret a7)) fun Ic=>
 fh (W.bind (W.bind (W.ret Ic) (gK .str)) dm) (
 (W.bind (W.bind (W.bind (W.ret (.str "found")) fun x2=>W.bind (W.ret aL) fun x3=>W.bind (W.ret aL) fun x4=>W.ret (.tup [x2,x3,x4])) fun x5=>W.ret [x5]) fun l6=>W.bind (c1 xx (Md (b2 fF (bh (W.bind (bh (W.bind (W.ret av) az) (W.ret aL)) az) (W.ret (.int 2))) (W.ret (.tup []))) (b2 fF (bh (W.bind (bh (W.bind (W.ret av) az) (W.ret aL)) az) (W.ret (.int 0))) (W.ret Ic)))) fun x7=>Ig l6 x7)) (
 (W.bind (W.bind (W.ret av) fun x8=>W.bind (W.ret aL) fun x9=>dN x8 x9) fun Zx=>lR Zx fun M8=>J0 (vm (W.bind (bh (W.bind (bh (W.bind (W.ret aN) az) (bh (W.bind (W.ret Ic) az) (W.ret (.int 0)))) az) (bh (W.bind (W.ret M8) az) (W.ret (.int 1)))) dm) (W.bind (bh (W.bind (bh (W.bind (W.ret aN) az) (bh (W.bind (W.ret Ic) az) (W.ret (.int 1)))) az) (bh (W.bind (W.ret M8) az) (W.ret (.int 2)))) dm)) (W.ret M8)))
def fU (av:PV) (bf:PV):W (List PV):=
 W.bind (W.bind (c1 eI (W.ret bf)) jM) fun l32=>W.bind (eE l32 (([]:List Addr),([]:List (List PV))) fun vP s3=>(
 W.bind (W.bind (W.bind (W.ret (.bl false)) fun x5=>W.ret [x5]) fun l6=>W.bind (c1 eI (W.ret av)) fun x7=>Ig l6 x7) fun l8=>W.gB (s3.2.length < sizeLine) (W.bind (W.any fun _=>True) fun b9=>W.bind (W.ret (s3.2++[l8])) fun wU=>
 W.bind (W.bind (c1 eI (W.ret av)) jM) fun l30=>W.bind (eE l30 (b9,wU) fun uE P8=>(
 W.bind (W.bind (W.bind (W.bind (W.bind (W.bind (bh (W.bind (bh (W.bind (W.ret av) az) (W.ret uE)) az) (W.ret (.int 2))) az) fun l15=>cp l15 fun p16=>(bh (W.bind (bh (W.bind (W.ret (.cl (P8.2.map PV.cl))) az) (W.ret vP)) az) (W.ret p16))) Tx) vk) vk) fun Xk=>
 W.bind (W.bind (W.bind (orB (W.ret Xk) (W.bind (W.bind (W.ret av) fun zQ=>W.bind (W.ret bf) fun zP=>W.bind (W.ret (.cl (P8.2.map PV.cl))) fun yc=>W.bind (W.ret vP) fun va=>W.bind (W.ret uE) fun zO=>bP zQ zP yc va zO) fun l22=>W.ret (.bl (!l22.isEmpty)))) vk) vk) fun zN=>W.bind (W.ret vP) fun J9=>W.bind (VN P8.2 J9) fun j25=>W.bind (W.ret uE) fun zL=>W.bind (gG j25.2 zL zN) fun Zw=>W.bind (W.ret (P8.2.set j25.1 Zw)) fun Jl=>
 W.ret (P8.1,Jl))) fun P8=>
 W.ret P8))) fun s3=>
 W.ret (s3.2.map PV.cl)
def dz (av:PV) (bf:PV) (aN:PV) (a7:PV) (aL:PV):W PV:=
 W.bind (W.bind (W.ret aL) fun x2=>W.ret [x2]) fun ml=>
 W.bind (W.bind (c1 eI (W.ret av)) jM) fun l35=>W.bind (eE l35 ml fun Yg s4=>(
 W.bind (W.bind (W.bind (bh (W.bind (bh (W.bind (W.ret av) az) (bh (W.ret s4) (W.bind (W.ret (.int 1)) rJ))) az) (W.ret (.int 2))) az) fun l7=>lR l7 fun p8=>J0 (W.bind (bh (W.bind (bh (W.bind (W.ret aN) az) (W.ret a7)) az) (W.ret p8)) dm) (W.ret p8)) fun Zc=>
 W.bind (orB (W.bind (W.bind (W.ret av) fun zR=>W.bind (W.ret bf) fun HL=>W.bind (W.ret aN) fun pJ=>W.bind (W.ret a7) fun nK=>W.bind (bh (W.ret s4) (W.bind (W.ret (.int 1)) rJ)) fun oq=>bP zR HL pJ nK oq) fun l16=>W.ret (.bl (l16.isEmpty))) (b2 fF (W.bind (W.ret (.int 3)) fun pK=>bc pK) (W.ret (.int 0)))) fun SV=>
 fh (vm (W.bind (W.bind (W.ret (.cl Zc)) K2) fun RN=>W.ret (!RN.isEmpty)) (W.bind (W.ret SV) dm)) (
 W.bind (W.bind (W.ret (.cl Zc)) fun yc=>bp yc) fun va=>W.bind (m8 s4 va) fun gZ=>
 W.ret gZ) (
 W.ret s4))) fun s4=>
 W.bind (ou (fun QL=>(W.bind (W.bind (W.ret av) fun HK=>W.bind (W.ret bf) fun zN=>W.bind (W.ret aN) fun J9=>W.bind (W.ret a7) fun zM=>W.bind (bh (W.ret QL) (W.bind (W.ret (.int 1)) rJ)) fun zL=>bP HK zN J9 zM zL) fun Zw=>W.ret (Zw.isEmpty))) (fun QL=>(
 W.bind (W.bind (Pf (W.bind (W.bind (bh (W.bind (bh (W.bind (W.ret av) az) (bh (W.ret QL) (W.bind (W.ret (.int 1)) rJ))) az) (W.ret (.int 2))) az) fun Zv=>lR Zv fun p30=>J0 (W.bind (bh (W.bind (bh (W.bind (W.ret aN) az) (W.ret a7)) az) (W.ret p30)) dm) (W.ret p30))) fun x31=>bp x31) fun x32=>W.bind (m8 QL x32) fun p0=>
 W.ret p0)) s4) fun QL=>
 (W.bind (W.ret QL) rk)
def cR:Nat->PV->PV->PV->PV->PV->W PV
 | 0,_,_,_,_,_=>W.fail
 | n+1,av,bf,aN,a7,eO=>
 W.bind (W.bind (Pf (W.bind (W.ret av) fun x1=>W.bind (W.ret bf) fun x2=>W.bind (W.ret aN) fun x3=>W.bind (W.ret a7) fun x4=>W.bind (bh (W.bind (W.ret eO) az) (W.bind (W.ret (.int 1)) rJ)) fun x5=>bP x1 x2 x3 x4 x5)) fun x6=>bp x6) fun x7=>W.bind (un3 x7) fun t8=>
 fh (t2 fF (W.ret t8.1) (W.ret (.str "found"))) (
 (W.bind (W.ret eO) fun x9=>W.bind (W.ret t8.1) fun pK=>W.ret (.tup [x9,pK]))) (
 W.bind (bh (W.bind (W.ret bf) az) (W.ret a7)) fun vF=>
 W.bind (W.bind (W.ret av) fun pJ=>W.bind (W.ret bf) fun nK=>W.bind (W.ret aN) fun oq=>W.bind (bh (W.bind (W.ret vF) az) (W.ret (.int 0))) fun Qm=>W.bind (W.bind (W.ret av) fun zQ=>W.bind (W.ret bf) fun zP=>W.bind (W.ret aN) fun yc=>W.bind (bh (W.bind (W.ret vF) az) (W.ret (.int 0))) fun va=>W.bind (W.ret t8.2.1) fun zO=>dz zQ zP yc va zO) fun HK=>cR n pJ nK oq Qm HK) fun Jq=>
 (W.bind (W.ret eO) fun zN=>W.bind (W.ret t8.1) fun J9=>W.bind (W.ret Jq) fun zM=>W.bind (W.bind (W.ret av) fun zL=>W.bind (W.ret bf) fun Yc=>W.bind (W.ret aN) fun Ql=>W.bind (bh (W.bind (W.ret vF) az) (W.ret (.int 1))) fun Yb=>W.bind (W.bind (W.ret av) fun x30=>W.bind (W.ret bf) fun x31=>W.bind (W.ret aN) fun x32=>W.bind (bh (W.bind (W.ret vF) az) (W.ret (.int 1))) fun x33=>W.bind (W.ret t8.2.2) fun x34=>dz x30 x31 x32 x33 x34) fun x35=>cR n zL Yc Ql Yb x35) fun x36=>W.ret (.tup [zN,J9,zM,x36])))
def ba (av:PV) (iT:PV):W PV:=
 W.bind (W.bind (W.ret iT) fun x2=>a8 12 x2) fun vE=>
 W.bind (W.bind (W.ret av) fun x4=>W.bind (W.ret (.cl vE)) fun x5=>fU x4 x5) fun pz=>
 W.bind (b2 rG (c1 eI (W.ret (.cl vE))) (W.ret (.int 1))) fun La=>
 W.bind (W.bind (W.bind (c1 eI (W.ret av)) jM) fun l9=>lR l9 fun p10=>J0 (W.bind (W.bind (W.ret av) fun zR=>W.bind (W.ret (.cl vE)) fun HL=>W.bind (W.ret (.cl pz)) fun pJ=>W.bind (W.ret La) fun nK=>W.bind (W.ret p10) fun oq=>bP zR HL pJ nK oq) fun l16=>W.ret (!l16.isEmpty)) (W.ret p10)) fun QG=>
 (W.bind (W.ret av) fun zQ=>W.bind (W.ret (.cl vE)) fun zP=>W.bind (W.ret (.cl pz)) fun yc=>W.bind (W.ret La) fun va=>W.bind (W.bind (W.bind (W.ret (.cl QG)) fun zO=>bp zO) fun HK=>W.ret (.tup [HK])) fun zN=>cR 12 zQ zP yc va zN)
def fg:W PV:=
 W.bind (dA) fun g9=>
 W.bind (W.bind (W.ret g9) fun x3=>bJ x3) fun FJ=>
 W.bind (W.bind (W.ret g9) fun x5=>dM x5) fun kq=>
 (W.bind (W.ret g9) fun x6=>W.bind (W.ret FJ) fun x7=>W.bind (W.ret kq) fun x8=>W.bind (W.bind (W.ret FJ) fun x9=>W.bind (W.ret kq) fun pK=>ba x9 pK) fun zR=>W.ret (.tup [x6,x7,x8,zR]))
def c9 (av:PV) (hV:PV):W PV:=
 W.bind (W.bind (W.bind (c1 eI (W.ret av)) jM) fun l3=>lR l3 fun p4=>J0 (R7 false (bh (W.bind (bh (W.bind (W.ret hV) az) (W.ret (.int 0))) az) (W.ret (.int 0))) (W.bind (bh (W.bind (bh (W.bind (W.ret av) az) (W.ret p4)) az) (W.ret (.int 2))) az)) (W.ret p4)) fun Ht=>
 fh (W.bind (W.bind (W.ret (.cl Ht)) K2) fun l5=>W.ret (l5.isEmpty)) (
 (W.ret .aQ)) (
 (w2 addW (W.bind (w2 addW (W.bind (bh (W.bind (W.ret (.cl Ht)) az) (W.ret (.int 0))) fun x6=>W.ret (.tup [x6])) (bh (W.bind (W.ret hV) az) (W.ret (.int 0)))) fun x7=>W.ret (.tup [x7])) (W.bind (W.ret hV) fun pK=>W.bind (W.bind (W.ret (.int 1)) part) fun i8=>W.bind (W.ret none) fun j9=>Og pK i8 j9)))
def kF (dh:PV):W PV:=
 W.bind (W.bind (W.bind (W.ret (.int 1)) fun x3=>W.bind (W.bind (c1 eI (W.ret dh)) fun x1=>W.bind (W.ret (.int 6)) fun x2=>ud Tp [x1,x2]) fun x4=>ud Tq [x3,x4]) jM) fun l36=>W.bind (nQ l36 () fun k_7 s6=>(
 W.bind (W.bind (W.ret dh) fun x9=>W.bind (W.ret k_7) fun pK=>fR x9 pK) fun vI=>ab9 du vI (
 W.bind (fg) fun zR=>W.bind (un4 zR) fun tq=>
 W.bind (W.bind (W.ret (.int 3)) jM) fun l34=>W.bind (nQ l34 tq.2.2.2 fun Ui Xf=>(
 fh (tor (t2 nt (W.bind (W.ret tq.2.1) fun yc=>W.bind (W.ret tq.2.2.1) fun va=>W.bind (W.ret Xf) fun zO=>gr yc va zO) (W.ret (.bl true))) (t2 nt (W.bind (W.ret tq.2.1) fun Qm=>W.bind (W.ret tq.2.2.1) fun zQ=>W.bind (W.ret Xf) fun zP=>gr Qm zQ zP) (W.ret (.bl true)))) (
 W.bind (W.ret (.bl false)) fun HK=>W.ret (Lp.out HK)) (
 W.bind (W.bind (W.ret tq.2.1) fun J9=>W.bind (W.ret Xf) fun zM=>c9 J9 zM) fun iG=>
 fh (vm (t2 Nb (W.ret iG) (W.ret .aQ)) (t2 nt (W.bind (W.ret tq.2.1) fun zL=>W.bind (W.ret tq.2.2.1) fun Yc=>W.bind (W.ret iG) fun Ql=>gr zL Yc Ql) (W.ret (.bl false)))) (
 W.bind (W.ret (.bl false)) fun Yb=>W.ret (Lp.out Yb)) (
 W.bind (W.bind (W.ret tq.2.1) fun x31=>W.bind (W.ret tq.2.2.1) fun x32=>ba x31 x32) fun tj=>
 W.ret (.go tj))))) (J4 (fun Xf=>
 W.ret (.go ())) Lp.out)))) (J4 (fun s6=>
 (W.ret (.bl true))) id)
def Tr.pv:Tr->PV
 | .leaf x=>.str x
 | .node l r=>.tup [l.pv,r.pv]
def Ent.pv:Ent->PV
 | .word x=>.str x
 | .pair a b=>.tup [.int (a:Int),.int (b:Int)]
def MV {α:Type}{l:List α} (h:l≠[]):∃a x,l=a++[x]:=⟨l.dropLast,l.getLast h,(List.dropLast_concat_getLast h).symm⟩
def QI {a b:List Tr}{t:Tr} (h:jN a++b=t.post):cG a+b.length=t.size:=by
 have h1:=congrArg BV h;rw [Ae,t.mj] at h1;have h2:∀l:List Tr,(jN l).length=cG l:=by
  intro l
  induction l with
  | nil=>rfl
  | cons x l ih=>
   have e1:jN (x::l)=x.post++jN l:=rfl;have e2:cG (x::l)=x.size+cG l:=rfl;rw [e1,e2,Ae,ih,x.mj]
 rw [h2] at h1;exact h1
def jD {l:List PV}{x:PV} (h:l.length < 1000):m8 l x=.ret (l++[x]):=W.ax (by have:=a6 (n:=1000) (An _);omega)
def Rk (t:Tr) (hz:t.size<=900):(fJ t.pv).le (.ret (t.post.map Tr.pv)):=fun Q q=>by
 unfold fJ;simp only [W.ag,W.run_bind];refine kh (fun n s=>∃ts bs:List Tr,n=cG ts/\s=(bs.map Tr.pv,ts.map Tr.pv)/\jN ts++bs.reverse=t.post) ⟨[t],[],rfl,rfl,by rw [rD];simp⟩ ?_;rintro n s ⟨ts,bs,rfl,rfl,hp⟩;have hs:=QI hp;rw [CF] at hs;by_cases he:ts=[]
 ·subst he;have hp':bs.reverse=t.post:=hp;simp;rw [<- List.map_reverse,hp'];exact q
 ·obtain⟨us,u,rfl⟩:=MV he;have Qe:=rT us;have hsu:=u.size_pos;rw [bM,fD] at hs;simp;rw [jD (by rw [Af];omega)];cases u with
  | leaf x=>
   simp [Tr.pv];refine⟨_,?_,us,rfl,bs++[.leaf x],⟨by simp [Tr.pv],rfl⟩,?_⟩
   ·rw [bM,fD];show cG us < cG us+1;omega
   ·rw [kz,rD] at hp;rw [Fe,<- hp];simp [Tr.post]
  | node c d=>
   have e1:G1 (us.map Tr.pv) [c.pv,d.pv]=.ret (us.map Tr.pv++[c.pv,d.pv]):=W.ax (a6 (by
    have:(Tr.node c d).size=c.size+d.size+1:=rfl;simp;omega))
   simp [Tr.pv,e1];refine⟨_,?_,us++[c,d],rfl,bs++[.node c d],⟨by simp [Tr.pv],by simp⟩,?_⟩
   ·have e2:cG [Tr.node c d]=c.size+d.size+1:=by rw [fD];rfl
    have e3:cG [c,d]=c.size+d.size:=by simp [cG]
    rw [bM,bM,e2,e3];omega
   ·rw [kz,rD] at hp;rw [Fe,<- hp,kz,Ov];simp [Tr.post]
def aq (l:List Nat):List PV:=l.map fun (n:Nat)=>.int (n:Int)
@[simp] theorem cn (l:List Nat):(aq l).length=l.length:=Af _
@[simp] theorem RA (a b:List Nat):aq (a++b)=aq a++aq b:=A6
@[simp] theorem jU (a:Nat) (l:List Nat):aq (a::l)=.int (a:Int)::aq l:=rfl
@[simp] theorem jT:aq []=[]:=rfl
def nA (n:Nat):j5 0 n=aq (Av n):=by
 unfold j5 aq;refine Ck fun i _=>?_;rw [EE]
theorem RG {f:PV->W (Option PV)}{p:Nat->Bool}:∀{l:List Nat},(∀k∈l,f (.int ((k:Nat):Int))=.ret (if p k=true then some (.int ((k:Nat):Int)) else none))->lR (aq l) f=.ret (aq (l.filter p))
 | [],_=>rfl
 | k::l,h=>by
  show W.bind (f _) (fun o=>W.bind (lR (aq l) f) fun m=>W.ret (o.toList++m))=_;rw [h k (.head _),RG fun y hy=>h y (.tail _ hy),Dc];cases p k <;> rfl
theorem uN {f:PV->W PV}{g:Nat->PV}:∀{l:List Nat},(∀k∈l,f (.int ((k:Nat):Int))=.ret (g k))->cp (aq l) f=.ret (l.map g)
 | [],_=>rfl
 | k::l,h=>by
  show W.bind (f _) (fun y=>W.bind (cp (aq l) f) fun m=>W.ret (y::m))=_;rw [h k (.head _),uN fun y hy=>h y (.tail _ hy)];rfl
def acy {l:List PV}{f:PV->W (Option PV)}{Q:List PV->Prop} (g:PV->Option PV) (h:∀x∈l,f x=.ret (g x)) (q:Q (l.filterMap g)):(lR l f).run Q:=by rw [K9 h];exact q
def KZ {l:List PV}{f:PV->W PV}{Q:List PV->Prop} (g:PV->PV) (h:∀x∈l,f x=.ret (g x)) (q:Q (l.map g)):(cp l f).run Q:=by rw [Gi h];exact q
def qi {l:List Nat}{f:PV->W (Option PV)}{Q:List PV->Prop} (p:Nat->Bool) (h:∀k∈l,f (.int ((k:Nat):Int))=.ret (if p k=true then some (.int ((k:Nat):Int)) else none)) (q:Q (aq (l.filter p))):(lR (aq l) f).run Q:=by rw [RG h];exact q
def yX {l:List Nat}{f:PV->W PV}{Q:List PV->Prop} (g:Nat->PV) (h:∀k∈l,f (.int ((k:Nat):Int))=.ret (g k)) (q:Q (l.map g)):(cp (aq l) f).run Q:=by rw [uN h];exact q
def qb (t:Tr) (hz:t.size<=900):(g8 t.pv).le (.ret (.tup ((t.nd 0).map Ent.pv))):=fun Q q=>by
 unfold g8;simp only [W.ag,W.run_bind];refine W.le.use (Rk t hz) ?_;refine wV (fun r s=>∃(k:List Tr) (told:List Ent) (ls:List Nat),r=k.map Tr.pv/\s=(told.map Ent.pv,aq ls.reverse)/\run k told ls=some (t.nd 0,[t.size-1])/\told.length+k.length<=900/\ls.length<=told.length) ⟨t.post,[],[],rfl,rfl,Oq t,by simp [t.mj];omega,An _⟩ ?_ ?_
 ·rintro x r s ⟨k,told,ls,e,rfl,h,hl,hll⟩;cases k with
  | nil=>cases e
  | cons p k=>
   injection e with e1 e2;subst e1;subst e2;rw [Ao] at hl;cases p with
   | leaf x=>
    have a1:∀y,m8 (aq ls.reverse) y=.ret (aq ls.reverse++[y]):=fun y=>jD (by simp;omega);simp [Tr.pv,jD (l:=told.map Ent.pv) (by simp;omega),a1];refine⟨k,rfl,told++[Ent.word x],told.length::ls,⟨by simp [Ent.pv],by simp⟩,h,by simp;omega,by simp;omega⟩
   | node c d=>
    match ls,h,hll with
    | b::a::ls,h,hll=>
     rw [Ao,Ao] at hll;have a0:aq (b::a::ls).reverse=(aq ls.reverse++[.int (a:Int)])++[.int (b:Int)]:=by simp
     have a1:∀y,m8 (aq ls.reverse) y=.ret (aq ls.reverse++[y]):=fun y=>jD (by simp;omega);rw [a0];simp only [Tr.pv,W.ag,hJ,kN,bB,Am,if_false,SI];simp [jD (l:=told.map Ent.pv) (by simp;omega),a1];refine⟨k,rfl,told++[Ent.pair a b],told.length::ls,⟨by simp [Ent.pv],by simp⟩,h,by simp;omega,by simp;omega⟩
 ·rintro s ⟨k,told,ls,e,rfl,h,hl,hll⟩;cases k with
  | nil=>
   cases h;simpa using q
  | cons p k=>cases e
def mulL {a b:Int} (h:-1000000000<=a/\a<=1000000000):IntMulOk a b:=Xn (by omega) (by omega)
def mulR {a b:Int} (h:-1000000000<=b/\b<=1000000000):IntMulOk a b:=mul_r (by omega) (by omega)
def Uo:∀ns l Q,du ns->((da 1 bc) l).run Q->((fun lo l=>da 1 (gs lo) l) (ns.map PV.int) l).run fun t=>Q t.1/\∃Nc:List Int,t.2=Nc.map PV.int/\du Nc:=by
 rintro ns l Q ⟨g,s,c,rfl,g0,s0,s1,c0⟩ q
 match l,q with
 | [],q=>exact q.elim
 | _::_::_,q=>exact q.elim
 | [x],q=>
  show (gs _ x).run _;have q:(bc x).run Q:=q;cases x with
  | int m=>
   obtain⟨⟨m0,m1⟩,q⟩:=q;have q:∀d:Int,0<=d->d < m->Q (.int d):=fun d h0 h1=>q _ ⟨d,rfl,h0,h1⟩;unfold gs;generalize hA:(2305843009213693921:Int)=A;generalize hB:(2305843009213693907:Int)=B;generalize hC:(65537:Int)=C;generalize hD:(999983:Int)=D;have A0:0 < A:=by omega
   have B0:0 < B:=by omega
   have C0:0 < C:=by omega
   have D0:0 < D:=by omega
   by_cases hg:0 < g
   ·simp [cy,qt,hg,m0,gG,W3];refine⟨by omega,q _ (B1 _ (by omega)) (BS _ m0),[g / m,s,c],rfl,_,_,_,rfl,Int.ediv_nonneg g0 (by omega),s0,s1,c0⟩
   ·have e1:IntMulOk s 69069:=mulR (by omega);have e2:IntMulOk 9973 (c+1):=mulL (by omega);have e3:IntMulOk 2 (c+1):=mulL (by omega);simp [cy,qt,hg,m0,gG,ZK,e1,e2,e3,A0,B0,C0,D0];generalize hM:(s*69069+9973*(c+1)+5) % A=M;have M0:0<=M:=by rw [<- hM];exact B1 _ (by omega)
    have M1:M < A:=by rw [<- hM];exact BS _ A0
    have e4:∀y,IntMulOk M y:=fun y=>Xn (by omega) (by omega);generalize hN:M*(M % D+2*(c+1)+3) % B=N;have N0:0<=N:=by rw [<- hN];exact B1 _ (by omega)
    have N1:N < B:=by rw [<- hN];exact BS _ B0
    refine⟨e4 _,⟨C0,by omega⟩,q _ (B1 _ (by omega)) (BS _ m0),[g,N,c+1],rfl,_,_,_,rfl,g0,N0,by omega,by omega⟩
  | _=>exact q.elim
def aas (i:Int):0<=(if i < 0 then -i else i):=by split <;> omega
def UW {ns:List Int}{k:Int} (k0:0<=k) {Q:List PV->Prop} (q:∀l,(∃ms:List Int,l=ms.map PV.int/\du ms)->Q l):(fR (.cl (ns.map PV.int)) (.int k)).run Q:=by
 unfold fR;generalize hA:(2305843009213693951:Int)=A;have A0:0 < A:=by omega
 have fin:∀x:Int,0<=x->(W.bind (b2 rH (b2 oMod (W.ret (.int x)) (b2 rH (b2 IB (W.ret (.int 10)) (W.ret (.int 60))) (b2 IB (W.ret (.int 10)) (W.ret (.int 60))))) (c1 xx (b2 oGe (W.ret (.int x)) (b2 IB (W.ret (.int 10)) (W.ret (.int 18)))))) fun qL=>
 (W.bind (W.ret qL) fun x6=>W.bind (b2 oMod (w2 addW (w2 addW (W.ret (.int x)) (b2 rH (W.ret (.int 104729)) (W.ret (.int k)))) (W.ret (.int 7))) (W.ret (.int A))) fun x7=>W.bind (W.ret (.int 0)) fun x8=>W.ret [x6,x7,x8])).run Q:=by
  intro x x0;have p1:TQ 10 60:=⟨by decide,by decide,by decide⟩;have p2:TQ 10 18:=⟨by decide,by decide,by decide⟩;simp only [W.ag,Z5,W.ax p1,W.ax p2,SN,SO,adE,qI,hU,W.Tb,W.UK,W.ai,W.ax (mulL (show -1000000000<=(104729:Int)/\(104729:Int)<=1000000000 by decide)),W.ax A0];refine⟨IntMulOk.of_bits (by decide +kernel) (by decide +kernel),by decide +kernel,?_,?_⟩
  ·split
   ·exact mulR (by omega)
   ·exact mulR (by omega)
  ·refine q _ ⟨[_,_,_],rfl,_,_,_,rfl,Int.mul_nonneg (B1 _ (by decide +kernel)) ?_,B1 _ (by omega),by rw [hA];exact BS _ A0,Dm _⟩
   split <;> decide
 by_cases mF:k < (ns.length:Int)
 ·obtain⟨v,e,e2⟩:=Tt (xs:=ns.map PV.int) k0 (by rw [Af];exact mF);rw [Ai] at e2;obtain⟨c,rfl⟩:∃c,v=.int c:=by
   cases z:ns[k.toNat]? with
   | none=>rw [z] at e2;cases e2
   | some c=>rw [z] at e2;exact⟨c,(Option.some.inj e2).symm⟩
  simp only [W.ag,i6,Jt,Af,mF,decide_true,br,if_true,bW,bb,e,W.aD,aaa];exact fin _ (aas _)
 ·simp only [W.ag,i6,Jt,Af,mF,decide_false,br,Am,if_false];exact fin 0 (Dm _)
def KU {d:Int} (h0:0<=d) (h1:d < 6):∃st:Int,cy [PV.int 1,PV.int 3,PV.int 5,PV.int 7,PV.int 9,PV.int 11] d=some (.int st)/\(st=1\/st=3\/st=5\/st=7\/st=9\/st=11):=by
 have:d=0\/d=1\/d=2\/d=3\/d=4\/d=5:=by omega
 rcases this with rfl | rfl | rfl | rfl | rfl | rfl
 ·exact⟨1,rfl,by decide⟩
 ·exact⟨3,rfl,by decide⟩
 ·exact⟨5,rfl,by decide⟩
 ·exact⟨7,rfl,by decide⟩
 ·exact⟨9,rfl,by decide⟩
 ·exact⟨11,rfl,by decide⟩
def KW {d:Int} (h0:0<=d) (h1:d < 2):∃bg:Str,cy [PV.str "",PV.str "k"] d=some (.str bg)/\Part bg 1:=by
 have:d=0\/d=1:=by omega
 rcases this with rfl | rfl
 ·exact⟨"",rfl,by decide +kernel,by decide +kernel⟩
 ·exact⟨"k",rfl,by decide +kernel,by decide +kernel⟩
def KY {d:Int} (h0:0<=d) (h1:d < 4):∃bg:Str,cy [PV.str "",PV.str "q",PV.str "zz",PV.str "abcdef"] d=some (.str bg)/\Part bg 6:=by
 have:d=0\/d=1\/d=2\/d=3:=by omega
 rcases this with rfl | rfl | rfl | rfl
 ·exact⟨"",rfl,by decide +kernel,by decide +kernel⟩
 ·exact⟨"q",rfl,by decide +kernel,by decide +kernel⟩
 ·exact⟨"zz",rfl,by decide +kernel,by decide +kernel⟩
 ·exact⟨"abcdef",rfl,by decide +kernel,by decide +kernel⟩
def bT {i j:Int} (h:-1000<=i/\i<=1000/\-1000<=j/\j<=1000) (h2:j-i<=1000):okN i j:=⟨by omega,by omega,by omega,by omega,a6 (by omega)⟩
def N3 {m:Int} (m0:0<=m) (m1:m<=26) {Q:List PV->Prop} (q:∀ws:List Str,ws.length=m.toNat->(∀x∈ws,Wd x)->ws.Nodup->Q (ws.map PV.str)):(cQ (.int m)).run Q:=by
 unfold cQ;simp only [W.ag,W.run_bind,cS 26 (by decide) (by decide),cS 6 (by decide) (by decide),cS 2 (by decide) (by decide)];refine bw fun d1 a1 b1=>bw fun d3 a3 b3=>?_;obtain⟨st,GJ,kst⟩:=KU a3 b3;simp only [bb,GJ,W.aD,W.ai];refine bw fun d5 a5 b5=>?_;obtain⟨bg,hbg,kbg⟩:=KW a5 b5;simp only [bb,hbg,W.aD,W.ai,fj,W.ax (bT (i:=0) (j:=m) (by omega) (by omega))];have ah4:1<=st/\st<=11:=by omega
 have lb:=kbg.1;refine qG (fun i s=>∃ws:List Str,s=ws.map PV.str/\ws.length=i/\(∀x∈ws,Wd x)/\(ws.map fun x=>x.cps[bg.length]?)=(Av i).map fun k:Nat=>some (97+((d1+st*(0+(k:Int))) % 26).toNat)) ⟨[],rfl,rfl,by simp,rfl⟩ ?_ ?_
 ·rintro i s hi ⟨ws,rfl,hl,hw,hs⟩;have e0:0<=(d1+st*(0+(i:Int))) % 26:=B1 _ (by decide);have e1:(d1+st*(0+(i:Int))) % 26 < 26:=BS _ (by decide);have e2:(d1+st*(i:Int))=d1+st*(0+(i:Int)):=by rw [EE]
  obtain⟨en,hen,ken⟩:=KY (d:=(d1+(i:Int)) % 4) (B1 _ (by decide)) (BS _ (by decide));have le:=ken.1;have c1:IntMulOk st (i:Int):=mulL (by omega);have c2:("abcdefghijklmnopqrstuvwxyz":Str).length<=sizeLine:=by decide +kernel
  have c3:bg.length+(⟨#[97+((d1+st*(0+(i:Int))) % 26).toNat]⟩:Str).length<=sizeLine:=a6 (by show bg.length+1<=1000;omega);have c4:(bg++(⟨#[97+((d1+st*(0+(i:Int))) % 26).toNat]⟩:Str)).length+en.length<=sizeLine:=a6 (by rw [CU];show bg.length+1+en.length<=1000;omega);simp only [W.ag,W.run_bind,SN,W.ax c1,hU,SO,W.ax (show (0:Int) < 26 by decide),W.ax (show (0:Int) < 4 by decide),e2,Z8 _ _ (OG e0 e1),W.ax c2,Wm,W.ax c3,bW,bb,hen,W.aD,W.ax c4,jD (l:=ws.map PV.str) (by rw [Af];omega),W.ai];refine⟨ws++[bg++⟨#[97+((d1+st*(0+(i:Int))) % 26).toNat]⟩++en],by rw [A6];rfl,by rw [Ae,hl];rfl,?_,by rw [A6,hs,List.range_succ,A6,List.map_singleton,List.map_singleton,N4]⟩;intro x hx;rcases Bj.mp hx with z | z
  ·exact hw x z
  ·rw [Bw.mp z];exact Qn kbg ken (by omega) (by omega)
 ·rintro s ⟨ws,rfl,hl,hw,hs⟩;refine q ws hl hw ?_;refine Gg (g:=fun x:Str=>x.cps[bg.length]?) ?_;rw [hs];exact yw kst (by omega)
def aao {α:Type}{l:List α}{k:Nat} (h:k+1 < l.length):∃a x y b,l=a++x::y::b/\a.length=k:=by
 refine⟨l.take k,l[k],l[k+1],l.drop (k+2),?_,by rw [B6];omega⟩;have e1:l.drop k=l[k]::l.drop (k+1):=Bp (by omega);have e2:l.drop (k+1)=l[k+1]::l.drop (k+2):=Bp (by omega);rw [<- e2,<- e1,List.take_append_drop]
def HS {ws:List Str} (hw:ws≠[]) (h8:ws.length<=100) {Q:PV->Prop} (q:∀t:Tr,t.aG.Perm ws->Q t.pv):(mr (.cl (ws.map PV.str))).run Q:=by
 unfold mr;simp only [W.ag,W.run_bind,bW,W.ai,cS 4 (by decide) (by decide)];refine bw fun w w0 w1=>?_;refine kh (fun n s=>∃ts:List Tr,s=ts.map Tr.pv/\n=ts.length/\ts≠[]/\(ts.flatMap Tr.aG).Perm ws/\ts.length<=100) (n:=ws.length) ⟨ws.map Tr.leaf,by simp [Tr.pv],by simp,by simpa using hw,?_,by simpa using h8⟩ ?_
 ·rw [List.flatMap_map];have:ws.flatMap (fun x=>(Tr.leaf x).aG)=ws:=by
   simp [Tr.aG,List.flatMap_singleton']
  rw [this]
 ·rintro n s ⟨ts,rfl,rfl,Sf,hp,hl⟩;by_cases h1:1 < ts.length
  ·have c0:(1:Int) < (ts.length:Int):=by omega
   simp only [W.ag,W.run_bind,G5,Af,XR,c0,decide_true,br,W.ai,if_true,sk,cS ((ts.length:Int)-1) (by omega) (by omega)];refine bw fun d d0 d1=>?_;obtain⟨a,ha,a0,a1⟩:∃a:Nat,cy [PV.int d,PV.int ((ts.length:Int)-2),PV.int 0,PV.int 0] w=some (.int (a:Int))/\0<=a/\a+1 < ts.length:=by
    have:w=0\/w=1\/w=2\/w=3:=by omega
    rcases this with rfl | rfl | rfl | rfl
    ·exact⟨d.toNat,by show some (PV.int d)=_;rw [Int.toNat_of_nonneg d0],by omega,by omega⟩
    ·exact⟨ts.length-2,by show some (PV.int ((ts.length:Int)-2))=_;congr 2;omega,by omega,by omega⟩
    ·exact⟨0,rfl,by omega,by omega⟩
    ·exact⟨0,rfl,by omega,by omega⟩
   obtain⟨as,x,y,bs,rfl,hk⟩:=aao a1;have i0:cy ((as++x::y::bs).map Tr.pv) (a:Int)=some x.pv:=cU (by rw [Ai,AB (by omega)];simp [hk]);have i1:cy ((as++x::y::bs).map Tr.pv) ((a:Int)+1)=some y.pv:=by
    have:((a:Int)+1)=((a+1:Nat):Int):=by push_cast;rfl
    rw [this];exact cU (by rw [Ai,AB (by omega)];simp [hk])
   simp only [bb,ha,W.aD,W.ai,i0,i1,hU,W.ag];have fin:∀p:Tr,p.aG.Perm (x.aG++y.aG)->(UC ((as++x::y::bs).map Tr.pv) (.int (a:Int)) (.int ((a:Int)+2)) [p.pv]).run fun a=>∃m,m < (as++x::y::bs).length/\∃ts:List Tr,a=ts.map Tr.pv/\m=ts.length/\ts≠[]/\(ts.flatMap Tr.aG).Perm ws/\ts.length<=100:=by
    intro p hpp;rw [Ae,Ao,Ao] at hl;refine⟨⟨by omega,by omega,?_,a6 ?_⟩,?_⟩
    ·rw [Af,Ae,Ao,Ao];push_cast;omega
    ·rw [Af,Ae,Ao,Ao];simp;omega
    ·have e:((as++x::y::bs).map Tr.pv).take (a:Int).toNat++[p.pv]++((as++x::y::bs).map Tr.pv).drop ((a:Int)+2).toNat=(as++p::bs).map Tr.pv:=by
      have t1:(a:Int).toNat=as.length:=by omega
      have t2:((a:Int)+2).toNat=as.length+2:=by omega
      rw [t1,t2,<- List.map_take,<- List.map_drop,List.take_left' rfl];have:(as++x::y::bs).drop (as.length+2)=bs:=by
       rw [show as++x::y::bs=(as++[x,y])++bs by simp,List.drop_left' (by simp)]
      rw [this];simp
     show ∃m,_/\∃ts:List Tr,_;rw [e];refine⟨(as++p::bs).length,by simp,as++p::bs,rfl,rfl,by simp,?_,by simp;omega⟩;refine List.Perm.trans ?_ hp;simp only [B2,List.flatMap_cons];refine List.Perm.append_left _ ?_;rw [<- A7];exact hpp.append_right _
   by_cases h3:w=3
   ·subst h3;simp only [eR,br,beq_self_eq_true,W.ai,W.ag,if_true,W.run_bind,cS 2 (by decide) (by decide)];refine bw fun d2 d20 d21=>?_;by_cases h4:d2=0
    ·subst h4;simp only [eR,br,beq_self_eq_true,W.ai,W.ag,if_true,W.run_bind,i0,i1,bb,hU,W.aD];exact fin (.node y x) List.perm_append_comm
    ·have e4:(d2==0)=false:=by simpa using h4
     simp only [eR,br,e4,W.ai,W.ag,W.run_bind,Am,if_false];exact fin (.node x y) (List.Perm.refl _)
   ·have e3:(w==3)=false:=by simpa using h3
    simp only [eR,br,e3,W.ai,W.ag,W.run_bind,Am,if_false];exact fin (.node x y) (List.Perm.refl _)
  ·have c0:¬(1:Int) < (ts.length:Int):=by omega
   simp only [W.ag,W.run_bind,G5,Af,XR,c0,decide_false,br,W.ai,Am,if_false]
   match ts,Sf,h1,hp with
   | [t],_,_,hp=>
    have:t.aG.Perm ws:=by simpa using hp
    exact q t this
   | _::_::_,_,h1,_=>simp at h1
structure tR (t:Tr):Prop where
 ws:t.Ws
 nd:t.aG.Nodup
 few:t.aG.length<=8
def O5 {Q:PV->Prop} (q:∀t:Tr,tR t->Q t.pv):qc.run Q:=by
 unfold qc;simp only [W.ag,W.run_bind,cS 8 (by decide) (by decide)];refine bw fun d d0 d1=>?_;obtain⟨n,hn,n0,n1⟩:∃n:Int,cy [PV.int 5,PV.int 8] (if (d==0)=true then 1 else 0)=some (.int n)/\0 < n/\n<=8:=by
  by_cases h:d=0
  ·subst h;exact⟨8,rfl,by decide,by decide⟩
  ·have e:(d==0)=false:=by simpa using h
   rw [e];exact⟨5,rfl,by decide,by decide⟩
 simp only [eR,W.ai,qI,bb,hn,W.aD,cS n n0 (by omega)];refine bw fun k k0 k1=>?_;simp only [hU,W.ai];refine N3 (by omega) (by omega) fun ws hl hw hd=>?_;refine HS (fun z=>by rw [z] at hl;simp at hl;omega) (by omega) fun t ht=>q t ⟨fun x hx=>hw x (ht.mem_iff.mp hx),ht.nodup_iff.mpr hd,by rw [ht.length_eq,hl];omega⟩
def wA:Ent->Bool
 | .word _=>false
 | .pair _ _=>true
structure Dt (t:Tr) (ds:List Int) (left:List Nat) (d:Int):Prop where
 len:ds.length=t.size
 zero:∀j,j < t.size->(wA (en t 0 j)=false\/j∈left)->ds.getD j 0=0
 up:∀j,j < t.size->j∉left->∀a b,en t 0 j=.pair a b->a∉left/\b∉left/\ds.getD a 0 < ds.getD j 0/\ds.getD b 0 < ds.getD j 0/\1<=ds.getD j 0/\ds.getD j 0<=d
 inj:∀i j,i < t.size->j < t.size->i∉left->j∉left->wA (en t 0 i)=true->wA (en t 0 j)=true->ds.getD i 0=ds.getD j 0->i=j
 pos:0<=d
 lft:∀j∈left,j < t.size/\wA (en t 0 j)=true
 ris:left.Pairwise (· < ·)
def jy {l:List Int}{i:Nat}{v:Int} (h:i < l.length):(l.set i v).getD i 0=v:=by rw [Ap,Bc h];rfl
def bQ {l:List Int}{i j:Nat}{v:Int} (h:i≠j):(l.set i v).getD j 0=l.getD j 0:=by rw [Ap,A5 h,<- Ap]
def ym {l:List Nat} (h:l.Pairwise (· < ·)) {x y:Nat}:y∈l.erase x↔y∈l/\y≠x:=by
 have nd:l.Nodup:=h.imp (fun z=>AI z);rw [nd.mem_erase_iff];exact⟨fun z=>⟨z.2,z.1⟩,fun z=>⟨z.2,z.1⟩⟩
def dQ (t:Tr) {j a b:Nat} (h:j < t.size) (e:en t 0 j=.pair a b):a < j/\b < j:=by
 rcases Tn t 0 j h with⟨x,e1,_⟩ | ⟨a',b',e1,e2,e3,_⟩
 ·rw [e1] at e;cases e
 ·rw [e1] at e;injection e with h1 h2;omega
def Dt.next {t:Tr}{ds:List Int}{left:List Nat}{d x:Int}{j a b:Nat} (D:Dt t ds left d) (hj:j∈left) (e:en t 0 j=.pair a b) (ha:a∉left) (hb:b∉left) (hx:0<=x):Dt t (ds.set j (d+1+x)) (left.erase j) (d+1+x):=by
 obtain⟨hjs,hjp⟩:=D.lft j hj;obtain⟨haj,hbj⟩:=dQ t hjs e;have TY:j < ds.length:=by rw [D.len];exact hjs
 have hm:∀y,y∈left.erase j↔y∈left/\y≠j:=fun y=>ym D.ris;have low:∀y,y < t.size->y∉left->ds.getD y 0<=d:=fun y hy hyl=>by
  cases ey:en t 0 y with
  | word w=>rw [D.zero y hy (.inl (by rw [ey];rfl))];exact D.pos
  | pair p q=>exact (D.up y hy hyl p q ey).2.2.2.2.2
 refine⟨by rw [BM];exact D.len,fun y hy hc=>?_,fun y hy hyl p q ey=>?_,fun u v hu hv hul hvl pu pv XA=>?_,by have:=D.pos;omega,fun y hy=>D.lft y ((hm y).mp hy).1,List.Pairwise.sublist List.erase_sublist D.ris⟩
 ·have hyj:j≠y:=fun z=>by
   subst z;rcases hc with hc | hc
   ·rw [hjp] at hc;cases hc
   ·exact ((hm j).mp hc).2 rfl
  rw [bQ hyj];exact D.zero y hy (hc.imp id fun z=>((hm y).mp z).1)
 ·by_cases hyj:j=y
  ·subst hyj;rw [e] at ey;injection ey with h1 h2;subst h1 h2;have la:=low a (by omega) ha;have lb:=low b (by omega) hb;rw [jy TY,bQ (by omega),bQ (by omega)];have:=D.pos;exact⟨fun z=>ha ((hm a).mp z).1,fun z=>hb ((hm b).mp z).1,by omega,by omega,by omega,by omega⟩
  ·have age:y∉left:=fun z=>hyl ((hm y).mpr ⟨z,BF hyj⟩);obtain⟨p1,p2,p3,p4,p5,p6⟩:=D.up y hy age p q ey;have np:j≠p:=fun z=>p1 (z▸hj);have nq:j≠q:=fun z=>p2 (z▸hj);rw [bQ hyj,bQ np,bQ nq];exact⟨fun z=>p1 ((hm p).mp z).1,fun z=>p2 ((hm q).mp z).1,p3,p4,p5,by omega⟩
 ·by_cases c1:j=u
  ·by_cases c2:j=v
   ·exact c1.symm.trans c2
   ·exfalso;subst c1;have ZP:v∉left:=fun z=>hvl ((hm v).mpr ⟨z,BF c2⟩);rw [jy TY,bQ c2] at XA;have:=low v hv ZP;omega
  ·have acX:u∉left:=fun z=>hul ((hm u).mpr ⟨z,BF c1⟩);by_cases c2:j=v
   ·exfalso;subst c2;rw [jy TY,bQ c1] at XA;have:=low u hu acX;omega
   ·have ZP:v∉left:=fun z=>hvl ((hm v).mpr ⟨z,BF c2⟩);rw [bQ c1,bQ c2] at XA;exact D.inj u v hu hv acX ZP pu pv XA
def splits (t:Tr):List Nat:=(Av t.size).filter fun j=>wA (en t 0 j)
def Dt.first (t:Tr):Dt t (Al t.size 0) (splits t) 0:=by
 have z:∀j,(Al t.size (0:Int)).getD j 0=0:=fun j=>by
  rw [Ap,Bu]
  split <;> rfl
 have mem:∀j,j∈splits t↔j < t.size/\wA (en t 0 j)=true:=fun j=>by unfold splits;rw [AL,AE]
 refine⟨A8,fun j _ _=>z j,fun j hj hn a b e=>absurd ((mem j).mpr ⟨hj,by rw [e];rfl⟩) hn,fun i j hi hj hni _ pi _ _=>absurd ((mem i).mpr ⟨hi,pi⟩) hni,Dm _,fun j hj=>(mem j).mp hj,?_⟩;unfold splits;exact List.Pairwise.filter _ C3
def NL (t:Tr):eG 0 ((t.nd 0).map Ent.pv)=(Av t.size).map fun j=>PV.tup [.int ((j:Nat):Int),(en t 0 j).pv]:=by
 have hl:(eG 0 ((t.nd 0).map Ent.pv)).length=t.size:=by rw [cH,Af,t.bo]
 apply Bd;intro i;by_cases hi:i < t.size
 ·have h1:(eG 0 ((t.nd 0).map Ent.pv))[i]?=some ((eG 0 ((t.nd 0).map Ent.pv))[i]'(by omega)):=Ad _;obtain⟨y,hy,e⟩:=iq h1;rw [Ai,gn t 0 i hi] at hy;have VU:(en t 0 i).pv=y:=Option.some.inj hy;rw [h1,e,<- VU,Ai,Bs hi,AO];rfl
 ·rw [Aw (by omega),Aw (by rw [Af,Bt];omega)]
def Vv:PV->Option PV
 | .tup [_,.str _]=>none
 | .tup [k,_]=>some k
 | _=>none
def Zr (t:Tr):(eG 0 ((t.nd 0).map Ent.pv)).filterMap Vv=aq (splits t):=by
 rw [NL];unfold splits;generalize Av t.size=l
 induction l with
 | nil=>rfl
 | cons j l ih=>
  rw [Au,BB,Dc];cases e:en t 0 j with
  | word w=>exact ih
  | pair a b=>
   show PV.int ((j:Nat):Int)::_=_;rw [ih];rfl
def yV (l:List Nat):aq l=(l.map fun n=>((n:Nat):Int)).map PV.int:=by unfold aq;rw [AX];rfl
theorem w4 (y:Nat):∀l:List Nat,(l.map fun n=>((n:Nat):Int)).erase (y:Int)=(l.erase y).map fun n=>((n:Nat):Int)
 | []=>rfl
 | a::l=>by
  rw [Au,List.erase_cons,List.erase_cons,w4 y l];by_cases c:a=y
  ·subst c;simp
  ·have c1:(((a:Nat):Int)==(y:Int))=false:=by simp;omega
   have c2:(a==y)=false:=by simpa using c
   rw [c1,c2];simp
def Zl {d:Int} (h0:0<=d) (h1:d < 3):∃m:Int,cy [PV.int 1,PV.int 3,PV.int 13] d=some (.int m)/\0 < m/\m<=13:=by
 have:d=0\/d=1\/d=2:=by omega
 rcases this with rfl | rfl | rfl
 ·exact⟨1,rfl,by decide,by decide⟩
 ·exact⟨3,rfl,by decide,by decide⟩
 ·exact⟨13,rfl,by decide,by decide⟩
theorem MY:∀(l:List Nat) (k n:Nat),l.Pairwise (· < ·)->(∀x∈l,k<=x/\x < n)->l.length<=n-k
 | [],_,_,_,_=>A3 _
 | a::l,k,n,h,hb=>by
  have h1:=(DV.mp h);have h2:=hb a Bx;have ih:=MY l (a+1) n h1.2 fun x hx=>⟨h1.1 x hx,(hb x (AV _ hx)).2⟩;rw [Ao];omega
def Yu (s:Nat):Ent->Ent
 | .word x=>.word x
 | .pair p q=>.pair (p+s) (q+s)
theorem KO:∀(t:Tr) (o s:Nat),t.nd (o+s)=(t.nd o).map (Yu s)
 | .leaf _,_,_=>rfl
 | .node a b,o,s=>by
  have ha:=a.size_pos;rw [Tr.nd,Tr.nd,KO a o s,show o+s+a.size=o+a.size+s by omega,KO b (o+a.size) s,A6,A6];congr 2;show Ent.pair _ _=Ent.pair _ _;congr 1 <;> omega
def xr {l m:List PV} (h:l.length+m.length<=1000):Jz l m=.ret (l++m):=W.ax (a6 h)
theorem jX:∀(n:Nat) (t:Tr),t.depth < n->t.size<=900->(a8 n t.pv).le (.ret ((t.nd 0).map Ent.pv))
 | 0,_,h,_=>by omega
 | n+1,.leaf w,_,_=>fun Q q=>by
  unfold a8;simp [Tr.pv];exact q
 | n+1,.node a b,h,hz=>fun Q q=>by
  have hs:(Tr.node a b).size=a.size+b.size+1:=rfl;have hpa:=a.size_pos;have hpb:=b.size_pos;have hd:a.depth < n/\b.depth < n:=by simp [Tr.depth] at h;omega
  unfold a8;have i0:cy [a.pv,b.pv] 0=some a.pv:=rfl;have i1:cy [a.pv,b.pv] 1=some b.pv:=rfl;simp only [Tr.pv,W.ag,W.run_bind,hJ,kN,bB,Am,if_false,aF,bb,i0,i1,W.aD];refine W.le.use (jX n a hd.1 (by omega)) ?_;simp only [G5,Af,a.bo,W.ai];refine W.le.use (jX n b hd.2 (by omega)) ?_;refine kM (fun i s=>s=(a.nd 0++((b.nd 0).take i).map (Yu a.size)).map Ent.pv) (by simp) (fun i x s hx hs=>?_) (fun s hs=>?_)
  ·subst hs;rw [Ai] at hx;cases e:(b.nd 0)[i]? with
   | none=>rw [e] at hx;cases hx
   | some en=>
    rw [e] at hx;have ex:en.pv=x:=Option.some.inj hx;subst ex;have hi:i < b.size:=by have:=(Ak.mp e).1;rw [b.bo] at this;exact this
    have et:(b.nd 0).take (i+1)=(b.nd 0).take i++[en]:=by rw [E5,e];rfl
    have al:∀y,m8 ((a.nd 0++((b.nd 0).take i).map (Yu a.size)).map Ent.pv) y=.ret ((a.nd 0++((b.nd 0).take i).map (Yu a.size)).map Ent.pv++[y]):=fun y=>jD (by simp [a.bo];omega);cases en with
    | word w=>
     simp only [Ent.pv,W.ag,W.run_bind,i7,kO,bB,if_true,al,W.ai,et];simp [Yu,Ent.pv]
    | pair u v=>
     have j0:cy [PV.int (u:Int),PV.int (v:Int)] 0=some (.int u):=rfl;have j1:cy [PV.int (u:Int),PV.int (v:Int)] 1=some (.int v):=rfl;simp only [Ent.pv,W.ag,W.run_bind,hJ,kN,bB,Am,if_false,aF,bb,j0,j1,W.aD,hU,al,W.ai,et];simp [Yu,Ent.pv]
  ·subst hs;rw [Co (by rw [Af];exact An _)];have es:(b.nd 0).map (Yu a.size)=b.nd a.size:=by rw [<- KO b 0 a.size,AO]
   rw [es];simp only [W.ag,W.run_bind,sk,G5,Af,Ae,a.bo,b.bo,W.ai];rw [xr (by simp [a.bo,b.bo];omega)];have e:(Tr.node a b).nd 0=a.nd 0++b.nd a.size++[.pair (a.size-1) (a.size+b.size-1)]:=by rw [Tr.nd];simp
   rw [e] at q;have e1:((a.size:Int)-1)=((a.size-1:Nat):Int):=by omega
   have e2:(((a.size+b.size:Nat):Int)-1)=((a.size+b.size-1:Nat):Int):=by omega
   rw [e1,e2];simpa [Ent.pv] using q
def pick_run {l:List PV} (h0:l≠[]) (h1:l.length<=1000) {Q:PV->Prop} (q:∀x∈l,Q x):(bp (.cl l)).run Q:=by
 unfold bp;have hp:0 < l.length:=Fg.mpr h0;simp only [W.ag,W.run_bind,bW,i6,cS (l.length:Int) (by omega) (by omega),W.ai];refine bw fun d d0 d1=>?_;obtain⟨v,hv,hv2⟩:=Tt (xs:=l) d0 d1;simp only [bb,hv,W.aD,W.ai];exact q v (Bo hv2)
def GI (k:Nat) (l:List Nat) (b:Bool):ur b (.int (k:Int)) (aq l)=.ret (if b then !decide (k∈l) else decide (k∈l)):=by
 have h1:R6 (.int (k:Int)) (aq l):=⟨by simp,mJ.mpr fun x hx=>by
  obtain⟨n,_,rfl⟩:=Az.mp hx;simp,mM fun x hx=>by
  obtain⟨n,_,rfl⟩:=Az.mp hx;simp⟩
 have h2:qC (.int (k:Int)) (aq l)=decide (k∈l):=by
  unfold qC aq;rw [List.any_map]
  induction l with
  | nil=>simp
  | cons a l ih=>
   have ih:=ih ⟨by simp,mJ.mpr fun x hx=>by
    obtain⟨n,_,rfl⟩:=Az.mp hx;simp,mM fun x hx=>by
    obtain⟨n,_,rfl⟩:=Az.mp hx;simp⟩
   rw [B5,ih];simp only [Function.comp,Sz,Ay];by_cases c:a=k
   ·subst c;simp
   ·have c1:(((a:Nat):Int)==(k:Int))=false:=by simp;omega
    have c2:¬k=a:=fun z=>c z.symm;simp [c1,c2]
 unfold ur;rw [W.ax h1,h2]
def S8 (l:List Nat):yH (aq l)=true:=Jx.mpr fun x hx=>by
 obtain⟨n,_,rfl⟩:=Az.mp hx;rw [PV.dat] <;> simp
def dB (ds:List Int):List PV:=ds.map PV.int
@[simp] theorem iJ (ds:List Int):(dB ds).length=ds.length:=Af _
def R4 (ds:List Int) (y:Nat) (v:Int):(dB ds).set y (.int v)=dB (ds.set y v):=by unfold dB;rw [Ez]
def TX (t:Tr) (left:List Nat) (j:Nat):Bool:=match en t 0 j with
 | .pair a b=>!decide (a∈left)&&!decide (b∈left)
 | _=>false
def Nt {n k:Nat} (h:k < n):qt n (k:Int)=some k:=by
 unfold qt;rw [if_pos (by omega),if_pos (by omega)];simp
def kr {l:List PV}{k:Nat}{v:PV} (h:k < l.length):gG l (.int (k:Int)) v=.ret (l.set k v):=by
 unfold gG;simp [Nt h]
def KQ (t:Tr) {j:Nat} (h:j < t.size):cy ((t.nd 0).map Ent.pv) (j:Int)=some (en t 0 j).pv:=cU (by rw [Ai,gn t 0 j h];rfl)
def Po (t:Tr) (hz:t.size<=900) {Q:PV->Prop} (q:∀ds d,Dt t ds [] d->d<=13*((splits t).length:Int)->Q (.tup (dB ds))):(dP (.cl ((t.nd 0).map Ent.pv))).run Q:=by
 unfold dP;have hs:(splits t).length<=t.size:=by
  unfold splits;have:=AZ (fun j=>wA (en t 0 j)) (Av t.size);rw [Bt] at this;exact this
 have e1:Ig [PV.int 0] (.int ((t.nd 0).map Ent.pv).length)=.ret (dB (Al t.size 0)):=by
  rw [G3,W.ax ⟨by omega,by rw [Af,t.bo];omega,a6 (by simp [t.bo];omega)⟩];congr 1;rw [Af,t.bo,AU];unfold dB;rw [List.map_replicate]
  induction t.size with
  | zero=>rfl
  | succ n ih=>rw [Br,BX,ih];rfl
 have e3:((t.nd 0).map Ent.pv).length<=sizeLine:=a6 (by rw [Af,t.bo];omega);simp only [W.ag,i6,e1,bW,W.ax e3,W.run_bind];refine acy Vv (fun x hx=>?_) ?_
 ·rw [NL] at hx;obtain⟨j,hj,rfl⟩:=Az.mp hx;cases en t 0 j with
  | word w=>simp [Ent.pv,Vv]
  | pair u v=>simp [Ent.pv,Vv]
 rw [Zr t];refine kh (fun n s=>∃(ds:List Int) (left:List Nat) (d:Int),s=(dB ds,aq left,PV.int d)/\n=left.length/\Dt t ds left d/\d+13*(left.length:Int)<=13*((splits t).length:Int)) ⟨_,_,0,rfl,rfl,Dt.first t,by omega⟩ ?_;rintro n s ⟨ds,left,d,rfl,rfl,D,hd⟩;by_cases he:left=[]
 ·subst he;simp;exact q ds d D (by simpa using hd)
 ·have ee:(!(aq left).isEmpty)=true:=by cases left with | nil=>exact absurd rfl he | cons a l=>rfl
  have hll:left.length<=t.size:=by
   have:=MY left 0 t.size D.ris fun x hx=>⟨A3 _,(D.lft x hx).1⟩;omega
  obtain⟨r,hr,hr2⟩:∃r∈left,TX t left r=true:=by
   obtain⟨l0,l1,rfl⟩:∃l0 l1,left=l0::l1:=by cases left with | nil=>exact absurd rfl he | cons a l=>exact⟨a,l,rfl⟩
   refine⟨l0,.head _,?_⟩;obtain⟨h1,h2⟩:=D.lft l0 (.head _);unfold TX;cases e:en t 0 l0 with
   | word w=>rw [e] at h2;cases h2
   | pair a b=>
    obtain⟨g1,g2⟩:=dQ t h1 e;have low:∀y∈l0::l1,l0<=y:=fun y hy=>by
     rcases Ay.mp hy with rfl | hy
     ·exact An _
     ·exact DH ((DV.mp D.ris).1 y hy)
    have na:a∉l0::l1:=fun z=>by have:=low a z;omega
    have nb:b∉l0::l1:=fun z=>by have:=low b z;omega
    show (!decide _&&!decide _)=true;rw [decide_eq_false na,decide_eq_false nb];rfl
  have ne:aq (left.filter (TX t left))≠[]:=by
   intro z;have:=congrArg BV z;rw [cn] at this;have m:r∈left.filter (TX t left):=AL.mpr ⟨hr,hr2⟩;rw [El.mp this] at m;cases m
  have e5:Qu (aq (left.filter (TX t left)))=.ret (aq (left.filter (TX t left))):=W.ax (S8 _);simp only [W.ai,ee,if_true,W.ag,W.run_bind];refine qi (TX t left) (fun k hk=>?_) ?_
  ·obtain⟨h1,h2⟩:=D.lft k hk;unfold TX;cases e:en t 0 k with
   | word w=>rw [e] at h2;cases h2
   | pair a b=>
    have j0:cy [PV.int (a:Int),PV.int (b:Int)] 0=some (.int a):=rfl;have j1:cy [PV.int (a:Int),PV.int (b:Int)] 1=some (.int b):=rfl;simp only [W.ag,bW,bb,KQ t h1,e,Ent.pv,W.aD,aF,j0,j1,GI,if_true];by_cases ca:a∈left
    ·simp [ca]
    ·simp [ca];by_cases cb:b∈left
     ·simp [cb]
     ·simp [cb]
  rw [e5];simp only [W.ai];refine pick_run ne (by rw [cn];have:=AZ (TX t left) left;omega) fun x hx=>?_;obtain⟨j,hj,rfl⟩:=Az.mp hx;obtain⟨ZT,Sg⟩:=AL.mp hj;obtain⟨js,jp⟩:=D.lft j ZT;cases ej:en t 0 j with
  | word w=>rw [ej] at jp;cases jp
  | pair a b=>
  unfold TX at Sg;rw [ej] at Sg;simp at Sg;simp only [hU,W.ai,cS 3 (by decide) (by decide)];refine bw fun z z0 z1=>?_;obtain⟨m,hm,m0,m1⟩:=Zl z0 z1;simp only [bb,hm,W.aD,W.ai,cS m m0 (by omega)];refine bw fun y y0 y1=>?_;have hx2:YC (aq left) (.int (j:Int))=.ret (aq (left.erase j)):=by
   show W.bind (wC (aq left)) _=_;rw [yV,se];show W.gB _ _=_;rw [W.ax (Az.mpr ⟨j,ZT,rfl⟩),w4,<- yV]
  simp only [hU,W.ai,kr (l:=dB ds) (k:=j) (by rw [iJ,D.len];exact js),hx2,R4];refine⟨(left.erase j).length,by rw [Ef ZT];have:=EB ZT;omega,_,_,_,rfl,rfl,D.next ZT ej Sg.1 Sg.2 y0,?_⟩;rw [Ef ZT];have:=EB ZT;omega
def tR.size {t:Tr} (g:tR t):t.size<=15:=by have:=t.size_eq;have:=g.few;omega
def tR.depth {t:Tr} (g:tR t):t.depth < 8:=by have:=t.qM;have:=g.few;omega
def Ub {x:Str} (h:Wd x):hZ (.str x)=.ret (.bl true):=by
 unfold hZ;obtain⟨h1,h2,h3⟩:=h;have c1:x.length<=sizeLine:=a6 (by omega);have c2:x.cps.size<=sizeLine:=c1;have c3:(1:Int)<=(x.length:Int):=by omega
 have c4:(x.length:Int)<=8:=by omega
 simp only [W.ag,i7,kO,bB,BD,Am,if_false,Wj,W.ax c1,SQ,c3,c4,decide_true,zi,br,SH,W.ax c2];rw [Gi (g:=fun _=>PV.bl true) fun y hy=>?_]
 ·simp only [W.ag];rw [all_map (fun _=>true)];congr 2;exact Cm.mpr fun _ _=>rfl
 ·obtain⟨c,hc,rfl⟩:=Az.mp hy;obtain⟨k1,k2⟩:=h3 c hc;simp only [Z9,Ly k1 k2]
def Ky (l:List PV) (n:Int):fe (.tup l) (.int n)=.ret (.bl ((l.length:Int)==n)):=by
 unfold fe;simp only [W.ag,hJ,NH,i9,cT,eR]
def YA (x:Str) (n:PV):fe (.str x) n=.ret (.bl false):=by
 unfold fe;simp only [W.ag,i7,Wl,NI]
def Qo (i:Int):fN (.int i)=.ret (.bl true):=by
 unfold fN;simp
def So (t:Tr) (hw:t.Ws) (b:Bool) (hd:b=true\/t.aG.Nodup) (hz:t.size<=900):(fP t.pv (.bl b)).le (.ret (.bl true)):=fun Q q=>by
 unfold fP;simp only [W.ag,W.run_bind];refine Ka (fun n s=>∃(ts:List Tr) (kvs:List (Key×PV)),n=cG ts/\s=(kvs,ts.map Tr.pv)/\(∀x∈ts.flatMap Tr.aG,Wd x)/\(b=true\/(ts.flatMap Tr.aG).Nodup/\∀x∈ts.flatMap Tr.aG,mG kvs (.inr x)=false)/\cG ts+kvs.length<=900) (n:=cG [t]) ⟨[t],[],rfl,rfl,fun x hx=>hw x (by simpa using hx),by rcases hd with h | h;exact .inl h;exact .inr ⟨by simpa using h,by simp [mG]⟩,by rw [fD];simpa using hz⟩ ?_;rintro n s ⟨ts,kvs,rfl,rfl,h1,h2,h3⟩;by_cases he:ts=[]
 ·subst he;simp;exact q
 ·obtain⟨us,u,rfl⟩:=MV he;have hsu:=u.size_pos;have Qe:=rT us;rw [bM,fD] at h3;have ee:(!((us++[u]).map Tr.pv).isEmpty)=true:=by simp
  have em:(us++[u]).map Tr.pv=us.map Tr.pv++[u.pv]:=by simp
  simp only [W.ag,W.ai,ee,if_true,W.run_bind];rw [em];simp only [SI,W.ai];cases u with
  | leaf x=>
   have wx:Wd x:=h1 x (by simp [Tr.aG]);have c1:kvs.length < sizeLine:=yS (by omega);have cb:(b=true\/mG kvs (.inr x)=false):=h2.imp id fun h=>h.2 x (by simp [Tr.aG]);have ct:(if (mG kvs (.inr x))=true then (W.ret (!b)) else W.ret false)=W.ret false:=by
    rcases cb with h | h
    ·rw [h];split <;> rfl
    ·rw [h];rfl
   simp only [Tr.pv,YA,bB,W.ai,Am,if_false,Ub wx,BD,W.ag,Wk,ct,YO,W.ax c1,W.run_bind];refine⟨cG us,by rw [bM,fD];show cG us < cG us+1;omega,us,_,rfl,rfl,fun y hy=>h1 y (by simp [hy]),?_,?_⟩
   ·rcases h2 with h | ⟨h,k⟩
    ·exact .inl h
    ·right
     rw [B2] at h;have nx:x∉us.flatMap Tr.aG:=fun z=>by
      have:=(Cv.mp h).2.2 x z x (by simp [Tr.aG]);exact this rfl
     refine⟨(Cv.mp h).1,fun y hy=>?_⟩;have ky:=k y (by simp [hy]);have kx:mG kvs (.inr x)=false:=k x (by simp [Tr.aG]);have nyx:x≠y:=fun z=>nx (z▸hy);unfold KA;rw [kx];show mG (kvs++[_]) _=false;unfold mG at ky ⊢;rw [List.any_append,ky];simp [nyx]
   ·have:(KA kvs (.inr x) (.bl true)).length<=kvs.length+1:=by
     unfold KA
     split <;> simp
    have:(Tr.leaf x).size=1:=rfl;omega
  | node c d=>
   have hsz:(Tr.node c d).size=c.size+d.size+1:=rfl;have e1:G1 (us.map Tr.pv) [c.pv,d.pv]=.ret (us.map Tr.pv++[c.pv,d.pv]):=W.ax (a6 (by simp;omega));have e2:(([c.pv,d.pv].length:Int)==2)=true:=rfl;simp only [Tr.pv,Ky,e2,bB,W.ai,if_true,aF,e1,W.run_bind];have e3:cG [c,d]=c.size+d.size:=by simp [cG]
   refine⟨cG (us++[c,d]),by rw [bM,bM,fD,e3];omega,us++[c,d],kvs,rfl,by simp,fun y hy=>h1 y (by simpa [Tr.aG,B2] using hy),?_,by rw [bM,e3];omega⟩;refine h2.imp id fun ⟨h,k⟩=>⟨by simpa [Tr.aG,B2] using h,fun y hy=>k y (by simpa [Tr.aG,B2] using hy)⟩
def okJ (t:Tr) (ds:List Int) (j:Nat):Bool:=match en t 0 j with
 | .word _=>ds.getD j 0==0
 | .pair a b=>decide (ds.getD a 0 < ds.getD j 0)&&decide (ds.getD b 0 < ds.getD j 0)&&decide (1<=ds.getD j 0)&&decide (ds.getD j 0<=99)
def MU (t:Tr) (ds:List Int):List Int:=(splits t).map (ds.getD · 0)
def VP (t:Tr) (ds:List Int):Bool:=decide (ds.length=t.size)&&(decide (MU t ds).Nodup&&(Av t.size).all (okJ t ds))
def int_at {ds:List Int}{j:Nat} (h:j < ds.length):cy (dB ds) (j:Int)=some (.int (ds.getD j 0)):=cU (by
 unfold dB;rw [Ai,Ad h,Ap,Ad h];rfl)
def X7 (t:Tr) (ds:List Int) (h:ds.length=t.size):gV ((t.nd 0).map Ent.pv) (dB ds)=(Av t.size).map fun j=>PV.tup [(en t 0 j).pv,.int (ds.getD j 0)]:=by
 refine Bd fun j=>?_;by_cases hj:j < t.size
 ·have hl:j < (gV ((t.nd 0).map Ent.pv) (dB ds)).length:=by rw [ng];simp [t.bo,h];exact hj
  obtain⟨x,y,hx,hy,e⟩:=pI (Ad hl);rw [Ai,gn t 0 j hj] at hx;have zc:(en t 0 j).pv=x:=Option.some.inj hx;have TY:j < ds.length:=by omega
  unfold dB at hy;rw [Ai,Ad TY] at hy;have VU:PV.int ds[j]=y:=Option.some.inj hy;rw [Ad hl,e,<- zc,<- VU,Ai,Bs hj];show _=some (PV.tup [_,.int (ds.getD j 0)]);rw [Ap,Ad TY];rfl
 ·rw [Aw (by rw [ng];simp [t.bo,h];omega),Aw (by simp;omega)]
def split_le (t:Tr) (ds:List Int) (h:ds.length=t.size) (hz:t.size<=900):cZ (.tup ((t.nd 0).map Ent.pv)) (.tup (dB ds))=.ret (dB (MU t ds)):=by
 unfold cZ;have c:((t.nd 0).map Ent.pv).length<=sizeLine:=a6 (by rw [Af,t.bo];omega);simp only [W.ag,aF,yb,W.ax c,X7 t ds h];rw [K9 (g:=fun x=>match x with | .tup [.str _,_]=>none | .tup [_,y]=>some y | _=>none) fun x hx=>?_]
 ·congr 1;unfold MU splits dB;generalize Av t.size=l
  induction l with
  | nil=>rfl
  | cons j l ih=>
   rw [Au,BB,Dc,ih];cases e:en t 0 j with
   | word w=>rfl
   | pair a b=>rfl
 ·obtain⟨j,hj,rfl⟩:=Az.mp hx;cases en t 0 j with
  | word w=>simp [Ent.pv]
  | pair a b=>simp [Ent.pv]
section
variable {α β:Type}
theorem RB {c:α->PV}{f:PV->W PV}{g:α->PV}:∀{l:List α},(∀x∈l,(f (c x)).le (.ret (g x)))->(cp (l.map c) f).le (.ret (l.map g))
 | [],_=>W.le.refl _
 | x::r,h=>W.le.ret (h x (.head _)) (W.le.ret (RB fun y hy=>h y (.tail _ hy)) (W.le.refl _))
theorem Xo {c:α->PV}{f:PV->W (Option PV)}{g:α->Option PV}:∀{l:List α},(∀x∈l,(f (c x)).le (.ret (g x)))->(lR (l.map c) f).le (.ret (l.filterMap g))
 | [],_=>W.le.refl _
 | x::r,h=>W.le.ret (h x (.head _)) (W.le.ret (Xo fun y hy=>h y (.tail _ hy)) (W.le.of_eq (by rw [BB];cases g x <;> rfl)))
def kE {c:α->PV}{f:PV->W PV}{Q:List PV->Prop} (g:α->PV) {l:List α} (h:∀x∈l,(f (c x)).le (.ret (g x))) (q:Q (l.map g)):(cp (l.map c) f).run Q:=RB h Q q
def Gr {c:α->PV}{f:PV->W (Option PV)}{Q:List PV->Prop} (g:α->Option PV) {l:List α} (h:∀x∈l,(f (c x)).le (.ret (g x))) (q:Q (l.filterMap g)):(lR (l.map c) f).run Q:=Xo h Q q
theorem NC {p:α->Bool}{g:α->β}:∀l:List α,l.filterMap (fun x=>if p x=true then some (g x) else none)=(l.filter p).map g
 | []=>rfl
 | x::l=>by
  rw [BB,Dc,NC l];cases p x <;> rfl
end
def SU {α:Type} (c:α->PV) (l:List α) (k:Nat):eG k (l.map c)=(l.zipIdx k).map fun p=>PV.tup [.int ((p.2:Nat):Int),c p.1]:=by
 induction l generalizing k with
 | nil=>rfl
 | cons a l ih=>rw [Au,eG,ih,List.zipIdx_cons,Au]
def vp:V->PV
 | .int i=>.int i
 | .str x=>.str x
 | .bl b=>.bl b
 | _=>.aQ
def ahL (t:Tr):List PV:=(ah (t.nd 0) 0 (Al t.size V.aQ)).map vp
@[simp] theorem NX (t:Tr):(ahL t).length=t.size:=by unfold ahL;rw [Af,Me,A8]
def NY (t:Tr) {j:Nat} (h:j < t.size):(ahL t)[j]?=some (vp (lE t 0 j .aQ)):=by unfold ahL;rw [Ai,aar t h];rfl
def dH (t:Tr):((t.nd 0).map Ent.pv).length=t.size:=by rw [Af,t.bo]
def JG (t:Tr) (hz:t.size<=900):(eQ t.pv).le (.ret (.tup (ahL t))):=fun Q q=>by
 unfold eQ;have c:((t.nd 0).map Ent.pv).length<=sizeLine:=a6 (by rw [dH];omega);simp only [W.ag,W.run_bind];refine W.le.use (qb t hz) ?_;simp only [aF,W.ai];refine KZ (fun _=>.aQ) (fun x hx=>rfl) ?_;simp only [W.ax c,W.ai];have e0:((t.nd 0).map Ent.pv).map (fun _=>PV.aQ)=(ah ((t.nd 0).take 0) 0 (Al t.size V.aQ)).map vp:=by
  rw [List.take_zero,ah,List.map_replicate,Dy,dH];rfl
 rw [e0];refine kM (fun i s=>s=(ah ((t.nd 0).take i) 0 (Al t.size V.aQ)).map vp) rfl (fun i x s hx hs=>?_) (fun s hs=>?_)
 ·subst hs;have hi:i < t.size:=by have:=(Ak.mp hx).1;rw [cH,dH] at this;exact this
  obtain⟨y,hy,rfl⟩:=iq hx;have e:=gn t 0 i hi;rw [Ai,e] at hy;have hy:(en t 0 i).pv=y:=Option.some.inj hy;subst hy;have et:(t.nd 0).take (i+1)=(t.nd 0).take i++[en t 0 i]:=by rw [E5,e];rfl
  have ea:ah ((t.nd 0).take (i+1)) 0 (Al t.size V.aQ)=TB (ah ((t.nd 0).take i) 0 (Al t.size V.aQ)) (0+i) (en t 0 i):=by
   rw [et,Hs,B6,t.bo];congr 1;omega
  have hal:(ah ((t.nd 0).take i) 0 (Al t.size V.aQ)).length=t.size:=by rw [Me,A8]
  rw [ea];generalize hA:ah ((t.nd 0).take i) 0 (Al t.size V.aQ)=A at hal ⊢;unfold cX;cases en':en t 0 i with
  | word w=>simp [Ent.pv,eE,TB]
  | pair a b=>
   obtain⟨ha,hb⟩:=dQ t hi en';have s1:gG (A.map vp) (.int (a:Int)) (.int ((0+i:Nat):Int))=.ret ((A.map vp).set a (.int ((0+i:Nat):Int))):=kr (by rw [Af];omega);have s2:gG ((A.map vp).set a (.int ((0+i:Nat):Int))) (.int (b:Int)) (.int ((0+i:Nat):Int))=.ret (((A.map vp).set a (.int ((0+i:Nat):Int))).set b (.int ((0+i:Nat):Int))):=kr (by rw [BM,Af];omega);simp only [Ent.pv,si,W.ai,hJ,kN,bB,W.run_bind,Am,if_false,aF,eE,W.ag,s1,s2];show _=E7 vp ((A.set a _).set b _);rw [Ez,Ez];rfl
 ·subst hs;simp only [cH,Af];rw [List.take_length];simp only [W.ag,W.run_bind,sj,W.ai];exact q
def KN (e:Ent) (j:Nat):PV:=match e with | .word x=>.str x | .pair _ _=>.int (j:Int)
def JZ (t:Tr) (ds:List Int) (b:Int) (j:Nat):Bool:=decide (ds.getD j 0<=b)&&(match lE t 0 j .aQ with | .int a=>decide (b < ds.getD a.toNat 0) | _=>true)
def xX (t:Tr) (ds:List Int) (b:Int) (n j:Nat):List (Nat×Nat):=((Av j).filter (JZ t ds b)).map fun k=>(k,n)
def aO (t:Tr) (ds bs:List Int):Nat->List (Nat×Nat)
 | 0=>[]
 | i+1=>aO t ds bs i++xX t ds (bs.getD i 0) i t.size
def P9 (l:List (Nat×Nat)):List PV:=l.map fun p=>.tup [.int (p.1:Int),.int (p.2:Int)]
def FN (t:Tr) (ds:List Int) (b:Int) (n j:Nat):(xX t ds b n j).length<=j:=by
 unfold xX;rw [Af];refine Bq (AZ _ _) ?_;rw [Bt];exact An _
theorem ko (t:Tr) (ds bs:List Int):∀i,(aO t ds bs i).length<=i*t.size
 | 0=>A3 _
 | i+1=>by
  rw [aO,Ae];have h1:=ko t ds bs i;have h2:=FN t ds (bs.getD i 0) i t.size;rw [Fw];omega
def QA (t:Tr) (ds:List Int) (b:Int) (n j:Nat):xX t ds b n (j+1)=xX t ds b n j++(if JZ t ds b j then [(j,n)] else []):=by
 unfold xX;rw [List.range_succ,List.filter_append,A6];congr 1;by_cases c:JZ t ds b j <;> simp [c]
def um (p:Nat×Nat):List Key:=[.inl (p.1:Int),.inl (p.2:Int)]
def IV {p q:Nat×Nat} (h:um p=um q):p=q:=by
 obtain⟨a,b⟩:=p;obtain⟨c,d⟩:=q;simp [um] at h;obtain⟨h1,h2⟩:=h;exact Prod.ext (by show a=c;omega) (by show b=d;omega)
def oC:Nat->List (Nat×Nat)->List (List Key×PV)
 | _,[]=>[]
 | k,p::l=>(um p,.int (k:Int))::oC (k+1) l
theorem nv:∀(k:Nat) (l:List (Nat×Nat)),(oC k l).map (·.1)=l.map um
 | _,[]=>rfl
 | k,p::l=>by rw [oC,Au,Au,nv (k+1) l]
def IC (k:Nat) (l:List (Nat×Nat)):(oC k l).length=l.length:=by have:=congrArg BV (nv k l);simpa using this
theorem vN:∀(k:Nat) (l:List (Nat×Nat)) (p:Nat×Nat),p∈l->nN (oC k l) (um p)=some (.int ((k+l.idxOf p:Nat):Int))
 | k,q::l,p,h=>by
  rw [List.idxOf_cons];by_cases c:q=p
  ·subst c;simp [oC,nN]
  ·have hp:p∈l:=(Ay.mp h).elim (fun z=>absurd z.symm c) id;have ih:=vN (k+1) l p hp;have c2:um q≠um p:=fun z=>c (IV z);have c3:(q==p)=false:=by simpa using c
   have e:nN (oC k (q::l)) (um p)=nN (oC (k+1) l) (um p):=by simp [oC,nN,c2]
   rw [e,ih,c3];congr 2;show ((k+1+l.idxOf p:Nat):Int)=((k+(l.idxOf p+1):Nat):Int);omega
def JB (e:Ent) (j:Nat) (d b:Int):List Nat:=if d < b then [j] else match e with | .word _=>[] | .pair x y=>[x,y]
def X3 (l:List (Nat×Nat)) (j n:Nat):List Nat:=(l.filter fun p=>decide (p.2=n)&&!decide (p.1=j)).map fun p=>l.idxOf p
def NQ (e:Ent) (l:List (Nat×Nat)) (j n:Nat) (d b:Int):PV:=.tup [KN e j,.int (n:Int),.tup (aq ((JB e j d b).map fun x=>l.idxOf (x,n-1))),.tup (aq (X3 l j n))]
def Ng {α β:Type}{f:α->β} (hf:∀x y,f x=f y->x=y) {l:List α} (h:l.Nodup):(l.map f).Nodup:=List.Pairwise.map f (fun a b n z=>n (hf a b z)) h
def Ob (t:Tr) (ds:List Int) (b:Int) (n j:Nat):(xX t ds b n j).Nodup:=by
 unfold xX;exact Ng (fun x y h=>(Prod.mk.inj h).1) (List.Pairwise.filter _ List.nodup_range)
theorem iz {t:Tr}{ds bs:List Int}:∀{i:Nat}{p:Nat×Nat},p∈aO t ds bs i->p.2 < i/\p.1 < t.size
 | 0,_,h=>by simp [aO] at h
 | i+1,p,h=>by
  rw [aO] at h;rcases Bj.mp h with h | h
  ·have:=iz h;omega
  ·unfold xX at h;obtain⟨k,hk,rfl⟩:=Az.mp h;have:=AE.mp (AL.mp hk).1;exact⟨C9 _,this⟩
theorem kn (t:Tr) (ds bs:List Int):∀i,(aO t ds bs i).Nodup
 | 0=>E6
 | i+1=>by
  rw [aO];refine Cv.mpr ⟨kn t ds bs i,Ob _ _ _ _ _,fun a ha b hb z=>?_⟩;subst z;have h1:=(iz ha).1;unfold xX at hb;obtain⟨k,_,rfl⟩:=Az.mp hb;exact A4 _ h1
def iI {l:List PV}{k:Nat}{v:PV} (h:l[k]?=some v):Qb l (.int (k:Int))=.ret v:=by
 rw [bb,cU h];rfl
def Jv (ds:List Int) {i:Nat}{x:PV} (h:(eG 0 (dB ds))[i]?=some x):i < ds.length/\x=.tup [.int (i:Int),.int (ds.getD i 0)]:=by
 have hi:i < ds.length:=by have:=(Ak.mp h).1;rw [cH,iJ] at this;exact this
 obtain⟨y,hy,rfl⟩:=iq h;unfold dB at hy;rw [Ai,Ad hi] at hy;have hy:=Option.some.inj hy;subst hy;refine⟨hi,?_⟩;rw [AO,Ap,Ad hi];rfl
def HX (t:Tr) (ds bs:List Int) (hd:ds.length=t.size) (hz:t.size<=100) (hb:bs.length*t.size<=900) (hb2:bs.length<=900):(fH t.pv (.tup (dB ds)) (.cl (dB bs))).le (.ret (P9 (aO t ds bs bs.length))):=fun Q q=>by
 unfold fH;have c1:(dB bs).length<=sizeLine:=a6 (by rw [iJ];omega);have c2:(dB ds).length<=sizeLine:=a6 (by rw [iJ];omega);simp only [W.ag,W.run_bind];refine W.le.use (JG t (by omega)) ?_;simp only [bW,W.ai,W.ax c1];refine kM (fun i s=>s=P9 (aO t ds bs i)) rfl (fun i x s hx hs=>?_) (fun s hs=>?_)
 ·subst hs;obtain⟨hi,rfl⟩:=Jv bs hx;simp only [si,W.ai,W.run_bind,aF,W.ax c2];have hl:=ko t ds bs i;have hm:i*t.size+t.size<=900:=by
   have:(i+1)*t.size<=bs.length*t.size:=Nat.mul_le_mul_right _ hi;rw [Fw] at this;omega
  refine kM (fun j s=>s=P9 (aO t ds bs i++xX t ds (bs.getD i 0) i j)) (by simp [xX]) (fun j x s hx hs=>?_) (fun s hs=>?_)
  ·subst hs;obtain⟨hj,rfl⟩:=Jv ds hx;have Qe:=FN t ds (bs.getD i 0) i j;simp only [si,W.ai,W.run_bind];rw [QA];have LC:j < t.size:=by omega
   have yes:JZ t ds (bs.getD i 0) j=true->(m8 (P9 (aO t ds bs i++xX t ds (bs.getD i 0) i j)) (PV.tup [.int (j:Int),.int (i:Int)])).run fun s=>s=P9 (aO t ds bs i++(xX t ds (bs.getD i 0) i j++if JZ t ds (bs.getD i 0) j=true then [(j,i)] else [])):=fun c=>by
    rw [jD (by unfold P9;rw [Af,Ae];omega),if_pos c];simp only [W.ai];unfold P9;rw [<- A7,A6 (l₂:=[(j,i)])];rfl
   have no:JZ t ds (bs.getD i 0) j=false->P9 (aO t ds bs i++xX t ds (bs.getD i 0) i j)=P9 (aO t ds bs i++(xX t ds (bs.getD i 0) i j++if JZ t ds (bs.getD i 0) j=true then [(j,i)] else [])):=fun c=>by rw [c];simp
   generalize eb:bs.getD i 0=b at yes no ⊢;generalize ed:ds.getD j 0=d at *;simp only [W.ag,W.run_bind,SQ,W.ai,br,aF,iI (NY t LC)];by_cases c:d<=b
   ·simp only [c,decide_true,if_true,W.run_bind,W.ai];rcases ve t 0 j .aQ [] LC with⟨_,e,_⟩ | ⟨a,_,ha,e,_⟩
    ·have sb:JZ t ds b j=true:=by unfold JZ;rw [e,ed];simp [c]
     rw [e];simp only [vp,wZ,W.ai,br,PV.jZ,if_true];exact yes sb
    ·rw [AO] at e;have sb:JZ t ds b j=decide (b < ds.getD a 0):=by unfold JZ;rw [e,ed];simp [c]
     rw [e];have i2:cy (dB ds) (a:Int)=some (.int (ds.getD a 0)):=int_at (by omega);simp only [vp,wZ,W.ai,br,PV.jZ,Am,if_false,bb,i2,W.aD,Jt,W.ag];by_cases c2:b < ds.getD a 0
     ·rw [decide_eq_true c2] at sb ⊢;simp only [if_true];exact yes sb
     ·rw [decide_eq_false c2] at sb ⊢;simp only [Am,if_false,W.ai];exact no sb
   ·have sb:JZ t ds b j=false:=by unfold JZ;rw [ed];simp [c]
    simp only [c,decide_false,Am,if_false,W.ai];exact no sb
  ·subst hs;rw [cH,iJ,hd];rfl
 ·subst hs;rw [cH,iJ];exact q
def Vo {l:List (Nat×Nat)} (h:l≠[]) (k:Nat):oC k l≠[]:=by cases l with | nil=>exact absurd rfl h | cons a l=>simp [oC]
def KL (k:Nat) (l:List (Nat×Nat)):((oC k l).map fun kv=>PV.tup (kv.1.map kP))=l.map fun p=>PV.tup [.int (p.1:Int),.int (p.2:Int)]:=by
 have:=congrArg (E7 fun x:List Key=>PV.tup (x.map kP)) (nv k l);rw [AX,AX] at this;exact this
def Uv {es:List Ent}{ds bs:List Int}{l:List (Nat×Nat)}{j n:Nat}{e:Ent} (h1:es[j]?=some e) (h2:j < ds.length) (h3:n < bs.length) (hl:l.length<=1000) (h0:l≠[])
  (hb:∀x∈JB e j (ds.getD j 0) (bs.getD n 0),1<=n/\(x,n-1)∈l) :
  (hX (.tup (es.map Ent.pv)) (.tup (dB ds)) (.cl (dB bs)) (S3 (oC 0 l)) (.tup [.int (j:Int),.int (n:Int)])).le (.ret (NQ e l j n (ds.getD j 0) (bs.getD n 0))):=fun Q q=>by
 unfold hX;have i0:cy [PV.int (j:Int),PV.int (n:Int)] 0=some (.int j):=rfl;have i1:cy [PV.int (j:Int),PV.int (n:Int)] 1=some (.int n):=rfl;have i2:cy (dB ds) (j:Int)=some (.int (ds.getD j 0)):=int_at h2;have i3:cy (dB bs) (n:Int)=some (.int (bs.getD n 0)):=int_at h3;have i4:cy (es.map Ent.pv) (j:Int)=some e.pv:=cU (by rw [Ai,h1];rfl);simp only [W.ag,W.run_bind,aF,bW,bb,i0,i1,i2,i3,i4,W.aD,W.ai,Jt,bB];generalize hdj:ds.getD j 0=d at *;generalize hbn:bs.getD n 0=b at *;have below:∀{R:PV->Prop},R (.tup (aq (JB e j d b)))->(if decide (d < b)=true then W.ret (PV.tup [PV.int (j:Int)]) else cX e.pv).run R:=fun {R} r=>by
  unfold JB at r;unfold cX;by_cases c:d < b
  ·rw [if_pos c] at r;simpa [c] using r
  ·rw [if_neg c] at r;cases e with
   | word w=>simpa [c,Ent.pv] using r
   | pair a b=>simpa [c,Ent.pv] using r
 refine below ?_;simp only [W.run_bind,aF,W.ai];refine kE (fun x=>.int ((l.idxOf (x,n-1):Nat):Int)) (fun k hk=>?_) ?_
 ·obtain⟨g1,g2⟩:=hb k hk;intro R r;have en1:(n:Int)-1=((n-1:Nat):Int):=by omega
  simp only [dgB,W.ag,W.run_bind,sk,W.ai,en1];rw [show PV.tup [.int (k:Int),.int ((n-1:Nat):Int)]=.tup ((um (k,n-1)).map kP) from rfl];refine NS (vN 0 l (k,n-1) g2) ?_;rw [AO];exact r
 simp only [W.run_bind,sj,W.ai];refine OI (Vo h0 0) (by rw [IC];exact hl) ?_;rw [KL];refine Gr (fun p=>if (decide (p.2=n)&&!decide (p.1=j))=true then some (.int ((l.idxOf p:Nat):Int)) else none) (fun p hp=>?_) ?_
 ·intro R r;obtain⟨u,v⟩:=p;have j0:cy [PV.int (u:Int),PV.int (v:Int)] 0=some (.int u):=rfl;have j1:cy [PV.int (u:Int),PV.int (v:Int)] 1=some (.int v):=rfl;simp only [dgB,W.ag,W.run_bind,aF,bb,j0,j1,W.aD,W.ai,eR,SM,br];have get:∀{R:PV->Prop},R (.int ((l.idxOf (u,v):Nat):Int))->(dgW (S3 (oC 0 l)) (PV.tup [.int (u:Int),.int (v:Int)])).run R:=fun {R} r=>by
   rw [show PV.tup [.int (u:Int),.int (v:Int)]=.tup ((um (u,v)).map kP) from rfl];refine NS (vN 0 l (u,v) hp) ?_;rw [AO];exact r
  by_cases c1:v=n
  ·subst c1;by_cases c2:u=j
   ·subst c2;simp only [beq_self_eq_true,BD,if_true,W.ai,Am,if_false];simpa using r
   ·have c3:((u:Int)==(j:Int))=false:=by simp;omega
    simp only [beq_self_eq_true,c3,E8,if_true,W.ai,W.run_bind];refine get ?_;simpa [c2] using r
  ·have c3:((v:Int)==(n:Int))=false:=by simp;omega
   simp only [c3,Am,if_false,W.ai];simpa [c1] using r
 rw [NC];have nm:∀{R:PV->Prop},R (KN e j)->(dI (.tup (es.map Ent.pv)) (.int (j:Int))).run R:=fun {R} r=>by
  unfold dI;simp only [W.ag,W.run_bind,aF,bb,i4,W.aD,W.ai];cases e with
  | word w=>simpa [Ent.pv,KN] using r
  | pair a b=>simpa [Ent.pv,KN] using r
 refine nm ?_;have e1:(l.filter fun p=>decide (p.2=n)&&!decide (p.1=j)).map (fun p=>PV.int ((l.idxOf p:Nat):Int))=aq (X3 l j n):=by
  unfold aq X3;rw [AX];rfl
 have e2:(JB e j d b).map (fun x=>PV.int ((l.idxOf (x,n-1):Nat):Int))=aq ((JB e j d b).map fun x=>l.idxOf (x,n-1)):=by
  unfold aq;rw [AX];rfl
 rw [e1,e2];exact q
def dgL (t:Tr) (ds bs:List Int):List PV:=(aO t ds bs bs.length).map fun p=>NQ (en t 0 p.1) (aO t ds bs bs.length) p.1 p.2 (ds.getD p.1 0) (bs.getD p.2 0)
def okD (t:Tr) (ds bs:List Int):Prop:=∀p∈aO t ds bs bs.length,∀x∈JB (en t 0 p.1) p.1 (ds.getD p.1 0) (bs.getD p.2 0),1<=p.2/\(x,p.2-1)∈aO t ds bs bs.length
theorem vO:∀(k:Nat) (l:List (Nat×Nat)),(l.zipIdx k).map (fun p=>PV.tup [PV.tup [.int (p.1.1:Int),.int (p.1.2:Int)],.int ((p.2:Nat):Int)])=(oC k l).map M7
 | _,[]=>rfl
 | k,p::l=>by rw [List.zipIdx_cons,Au,vO (k+1) l];rfl
def aV (t:Tr) (ds:List Int):List Int:=0::sortI (MU t ds)
def MR (t:Tr) (ds:List Int):(MU t ds).length<=t.size:=by
 unfold MU splits;rw [Af];have:=AZ (fun j=>wA (en t 0 j)) (Av t.size);rw [Bt] at this;exact this
def yW {x:Int}{l:List Int}:x∈sortI l↔x∈l:=(CD l _).mem_iff
def rm (l:List Int):(sortI l).length=l.length:=(CD l _).length_eq
def S7 (t:Tr) (ds:List Int) (hd:ds.length=t.size) (hz:t.size<=25) (h0:aO t ds (aV t ds) (aV t ds).length≠[]) (ok:okD t ds (aV t ds)):(kG t.pv (.tup (dB ds))).le (.ret (.tup (dgL t ds (aV t ds)))):=fun Q q=>by
 unfold kG;simp only [W.ag,W.run_bind];refine W.le.use (qb t (by omega)) ?_;have hs:=MR t ds;have hl:(aV t ds).length<=t.size+1:=by unfold aV;rw [Ao,rm];omega
 have e2:FP (dB (MU t ds))=.ret (dB (sortI (MU t ds))):=by
  unfold FP dB;rw [se];show W.gB _ _=_;rw [W.ax (by omega)]
 have e3:Jz [PV.int 0] (dB (sortI (MU t ds)))=.ret (dB (aV t ds)):=by
  rw [xr (by rw [iJ,rm];simp;omega)];rfl
 simp only [split_le t ds hd (by omega),W.ai,e2,e3];have hb:(aV t ds).length*t.size<=900:=by
  have:(aV t ds).length*t.size<=26*25:=Nat.mul_le_mul (by omega) hz;omega
 refine W.le.use (HX t ds (aV t ds) hd (by omega) hb (by omega)) ?_;generalize hL:aO t ds (aV t ds) (aV t ds).length=L at *;have hLl:L.length<=900:=by rw [<- hL];exact Bq (ko _ _ _ _) hb
 have hLm:∀p∈L,p.2 < (aV t ds).length/\p.1 < t.size:=fun p hp=>iz (hL▸hp);have c:(P9 L).length<=sizeLine:=a6 (by unfold P9;rw [Af];omega);simp only [bW,W.ai,W.ax c,W.ag];unfold P9;rw [SU];refine kE (fun p:(Nat×Nat)×Nat=>PV.tup [PV.tup [.int (p.1.1:Int),.int (p.1.2:Int)],.int ((p.2:Nat):Int)]) (fun p _ R r=>by simpa using r) ?_;rw [vO];refine Pl ?_ (by rw [IC];omega) ?_
 ·rw [nv];exact Ng (fun _ _ h=>IV h) (hL▸kn t ds _ _)
 refine kE (fun p:Nat×Nat=>NQ (en t 0 p.1) L p.1 p.2 (ds.getD p.1 0) ((aV t ds).getD p.2 0)) (fun p hp=>?_) ?_
 ·obtain⟨g1,g2⟩:=hLm p hp;refine Uv (gn t 0 p.1 g2) (by omega) g1 (by omega) h0 fun x hx=>?_;have:=ok p (by rw [hL];exact hp) x hx;rw [hL] at this;exact this
 ·simp only [sj,W.ai];have:dgL t ds (aV t ds)=L.map fun p:Nat×Nat=>NQ (en t 0 p.1) L p.1 p.2 (ds.getD p.1 0) ((aV t ds).getD p.2 0):=by unfold dgL;rw [hL]
  rw [<- this];exact q
theorem jE:∀(t:Tr) (o x:Nat) (p:V),x < t.size->(x=t.size-1/\lE t o x p=p)\/∃a u v,x < a/\a < t.size/\lE t o x p=.int ((o+a:Nat):Int)/\en t o a=.pair u v/\(u=o+x\/v=o+x)
 | .leaf _,o,x,p,h=>.inl ⟨by have:x < 1:=h;show x=0;omega,rfl⟩
 | .node l r,o,x,p,h=>by
  have es:(Tr.node l r).size=l.size+r.size+1:=rfl;have lp:=l.size_pos;have rp:=r.size_pos;have top:en (.node l r) o (l.size+r.size)=.pair (o+l.size-1) (o+l.size+r.size-1):=by rw [en,if_neg (by omega),if_neg (by omega)]
  by_cases c1:x < l.size
  ·rw [show lE (.node l r) o x p=lE l o x (.int (o+l.size+r.size:Nat)) by rw [lE,if_pos c1]];rcases jE l o x (.int (o+l.size+r.size:Nat)) c1 with⟨h1,h2⟩ | ⟨a,u,v,h1,h2,h3,h4,h5⟩
   ·exact .inr ⟨l.size+r.size,_,_,by omega,by omega,by rw [h2,Bg],top,.inl (by omega)⟩
   ·exact .inr ⟨a,u,v,h1,by omega,h3,by rw [en,if_pos h2];exact h4,h5⟩
  ·by_cases c2:x < l.size+r.size
   ·rw [show lE (.node l r) o x p=lE r (o+l.size) (x-l.size) (.int (o+l.size+r.size:Nat)) by rw [lE,if_neg c1,if_pos c2]];rcases jE r (o+l.size) (x-l.size) (.int (o+l.size+r.size:Nat)) (by omega) with⟨h1,h2⟩ | ⟨a,u,v,h1,h2,h3,h4,h5⟩
    ·exact .inr ⟨l.size+r.size,_,_,by omega,by omega,by rw [h2,Bg],top,.inr (by omega)⟩
    ·refine .inr ⟨l.size+a,u,v,by omega,by omega,by rw [h3,Bg],?_,by omega⟩;rw [en,if_neg (by omega),if_pos (by omega),CT];exact h4
   ·exact .inl ⟨by omega,by rw [lE,if_neg c1,if_neg c2]⟩
theorem mN:∀(t:Tr) (o j:Nat) (p:V) (a b:Nat),j < t.size->en t o j=.pair a b->o<=a/\o<=b/\a < o+j/\b < o+j/\a < b/\lE t o (a-o) p=.int ((o+j:Nat):Int)/\lE t o (b-o) p=.int ((o+j:Nat):Int)
 | .leaf _,o,j,p,a,b,h,e=>by rw [en] at e;cases e
 | .node l r,o,j,p,a,b,h,e=>by
  have es:(Tr.node l r).size=l.size+r.size+1:=rfl;have lp:=l.size_pos;have rp:=r.size_pos;by_cases c1:j < l.size
  ·rw [en,if_pos c1] at e;obtain⟨h1,h2,h3,h4,h5,h6,h7⟩:=mN l o j (.int (o+l.size+r.size:Nat)) a b c1 e;refine⟨h1,h2,h3,h4,h5,?_,?_⟩
   ·rw [lE,if_pos (by omega)];exact h6
   ·rw [lE,if_pos (by omega)];exact h7
  ·by_cases c2:j < l.size+r.size
   ·rw [en,if_neg c1,if_pos c2] at e;obtain⟨h1,h2,h3,h4,h5,h6,h7⟩:=mN r (o+l.size) (j-l.size) (.int (o+l.size+r.size:Nat)) a b (by omega) e;refine⟨by omega,by omega,by omega,by omega,h5,?_,?_⟩
    ·rw [lE,if_neg (by omega),if_pos (by omega),E3,h6,show o+l.size+(j-l.size)=o+j by omega]
    ·rw [lE,if_neg (by omega),if_pos (by omega),E3,h7,show o+l.size+(j-l.size)=o+j by omega]
   ·rw [en,if_neg c1,if_neg c2] at e;injection e with e1 e2;subst e1;subst e2;have hj:j=l.size+r.size:=by omega
    subst hj;have root:∀(t:Tr) (o:Nat) (p:V),lE t o (t.size-1) p=p:=fun t o p=>by
     have tp:=t.size_pos;rcases jE t o (t.size-1) p (by omega) with⟨_,h⟩ | ⟨a,_,_,h1,h2,_⟩
     ·exact h
     ·omega
    refine⟨by omega,by omega,by omega,by omega,by omega,?_,?_⟩
    ·rw [lE,if_pos (by omega),show o+l.size-1-o=l.size-1 by omega,root,Bg]
    ·rw [lE,if_neg (by omega),if_pos (by omega),show o+l.size+r.size-1-o-l.size=r.size-1 by omega,root,Bg]
structure DD (t:Tr) (ds:List Int):Prop where
 len:ds.length=t.size
 leaf:∀j w,j < t.size->en t 0 j=.word w->ds.getD j 0=0
 pair:∀j a b,j < t.size->en t 0 j=.pair a b->ds.getD a 0 < ds.getD j 0/\ds.getD b 0 < ds.getD j 0/\1<=ds.getD j 0
 nd:(MU t ds).Nodup
def DD.of {t:Tr}{ds:List Int} (h:VP t ds=true):DD t ds:=by
 unfold VP at h;rw [AM,AM,decide_eq_true_iff,decide_eq_true_iff] at h;obtain⟨h1,h2,h3⟩:=h;have h4:∀j,j < t.size->okJ t ds j=true:=fun j hj=>Cm.mp h3 j (AE.mpr hj);refine⟨h1,fun j w hj e=>?_,fun j a b hj e=>?_,h2⟩
 ·have:=h4 j hj;unfold okJ at this;rw [e] at this;exact eq_of_beq this
 ·have:=h4 j hj;unfold okJ at this;rw [e] at this;have this:(decide (ds.getD a 0 < ds.getD j 0)&&decide (ds.getD b 0 < ds.getD j 0)&&decide (1<=ds.getD j 0)&&decide (ds.getD j 0<=99))=true:=this;rw [AM,AM,AM,decide_eq_true_iff,decide_eq_true_iff,decide_eq_true_iff,decide_eq_true_iff] at this;exact⟨this.1.1.1,this.1.1.2,this.1.2⟩
def DD.mem {t:Tr}{ds:List Int} (D:DD t ds) {j:Nat} (hj:j < t.size):ds.getD j 0∈aV t ds:=by
 unfold aV;cases e:en t 0 j with
 | word w=>rw [D.leaf j w hj e];exact .head _
 | pair a b=>
  refine AV _ (yW.mpr ?_);unfold MU splits;exact Az.mpr ⟨j,AL.mpr ⟨AE.mpr hj,by rw [e];rfl⟩,rfl⟩
def QC (l:List Int):(sortI l).Pairwise (·<=·):=(Ej (le:=fun a b=>decide (a<=b)) (fun a b c=>by simp;omega) (fun a b=>by simp;omega) l).imp (by simp)
def DD.inc {t:Tr}{ds:List Int} (D:DD t ds):(aV t ds).Pairwise (· < ·):=by
 unfold aV;refine DV.mpr ⟨fun x hx=>?_,?_⟩
 ·have hx:=yW.mp hx;unfold MU splits at hx;obtain⟨j,hj,rfl⟩:=Az.mp hx;obtain⟨h1,h2⟩:=AL.mp hj;cases e:en t 0 j with
  | word w=>rw [e] at h2;cases h2
  | pair a b=>have:=(D.pair j a b (AE.mp h1) e).2.2;omega
 ·have nd:(sortI (MU t ds)).Nodup:=(CD _ _).nodup_iff.mpr D.nd;exact (List.Pairwise.and (QC _) nd).imp fun ⟨h1,h2⟩=>Int.lt_iff_le_and_ne.mpr ⟨h1,h2⟩
def wD {l:List Int} (h:l.Pairwise (· < ·)) {n:Nat} (hn:n < l.length) {x:Int} (hx:x∈l) (lt:x < l.getD n 0):1<=n/\x<=l.getD (n-1) 0:=by
 obtain⟨i,hi,rfl⟩:=DA hx;have gd:∀{k} (hk:k < l.length),l.getD k 0=l[k]:=fun {k} hk=>by rw [Ap,Ad hk];rfl
 rw [gd hn] at lt;have c:i < n:=by
  rcases C1 i n with c | c
  ·exact c
  ·rcases DU c with c | c
   ·subst c;omega
   ·have:=BO.mp h _ _ hn hi c;omega
 refine⟨by omega,?_⟩;rw [gd (by omega)];rcases DU (show i<=n-1 by omega) with c2 | c2
 ·subst c2;exact Dm _
 ·have:=BO.mp h _ _ hi (by omega) c2;omega
def GH {l:List Int} (h:l.Pairwise (· < ·)) {i n:Nat} (hn:n < l.length) (hi:i < n):l.getD i 0 < l.getD n 0:=by
 have gd:∀{k} (hk:k < l.length),l.getD k 0=l[k]:=fun {k} hk=>by rw [Ap,Ad hk];rfl
 rw [gd hn,gd (by omega)];exact BO.mp h _ _ (by omega) hn hi
theorem cz {t:Tr}{ds bs:List Int}:∀{m:Nat}{j n:Nat},(j,n)∈aO t ds bs m↔n < m/\j < t.size/\JZ t ds (bs.getD n 0) j=true
 | 0,j,n=>by simp [aO]
 | m+1,j,n=>by
  rw [aO,Bj,cz];unfold xX;rw [Az]
  constructor
  ·rintro (⟨h1,h2,h3⟩ | ⟨k,hk,e⟩)
   ·exact⟨by omega,h2,h3⟩
   ·obtain⟨h1,h2⟩:=AL.mp hk;injection e with e1 e2;subst e1;subst e2;exact⟨by omega,AE.mp h1,h2⟩
  ·rintro⟨h1,h2,h3⟩;by_cases c:n=m
   ·subst c;exact .inr ⟨j,AL.mpr ⟨AE.mpr h2,h3⟩,rfl⟩
   ·exact .inl ⟨by omega,h2,h3⟩
def gX {t:Tr}{ds:List Int}{b:Int}{j:Nat} (hj:j < t.size):JZ t ds b j=true↔ds.getD j 0<=b/\∀a,lE t 0 j .aQ=.int ((a:Nat):Int)->b < ds.getD a 0:=by
 unfold JZ;rw [AM,decide_eq_true_iff];rcases jE t 0 j .aQ hj with⟨_,e⟩ | ⟨a,u,v,_,ha,e,_,_⟩
 ·rw [e];exact⟨fun h=>⟨h.1,fun a z=>by cases z⟩,fun h=>⟨h.1,rfl⟩⟩
 ·rw [AO] at e;rw [e];refine⟨fun h=>⟨h.1,fun a' z=>?_⟩,fun h=>⟨h.1,?_⟩⟩
  ·injection z with z;have:a=a':=by omega
   subst this;simpa using h.2
  ·simpa using h.2 a rfl
def DD.ok {t:Tr}{ds:List Int} (D:DD t ds):okD t ds (aV t ds):=by
 rintro⟨j,n⟩ hp x hx;obtain⟨hn,hj,hs⟩:=cz.mp hp;obtain⟨Je,uR⟩:=(gX hj).mp hs;have inc:=D.inc;show 1<=n/\(x,n-1)∈_;unfold JB at hx;by_cases c:ds.getD j 0 < (aV t ds).getD n 0
 ·rw [if_pos c] at hx;have:x=j:=by simpa using hx
  subst this;obtain⟨g1,g2⟩:=wD inc hn (D.mem hj) c;have lt:=GH inc hn (show n-1 < n by omega);exact⟨g1,cz.mpr ⟨by omega,hj,(gX hj).mpr ⟨g2,fun a e=>by have:=uR a e;omega⟩⟩⟩
 ·rw [if_neg c] at hx;cases e:en t 0 j with
  | word w=>rw [e] at hx;cases hx
  | pair a b=>
   rw [e] at hx;obtain⟨p1,p2,p3⟩:=D.pair j a b hj e;obtain⟨_,_,a1,a2,_,a3,a4⟩:=mN t 0 j .aQ a b hj e;rw [AO,DG] at *;have hx:x=a\/x=b:=by simpa using hx
   have eq:ds.getD j 0=(aV t ds).getD n 0:=by omega
   have key:x < t.size/\ds.getD x 0 < ds.getD j 0/\lE t 0 x .aQ=.int ((j:Nat):Int):=by
    rcases hx with rfl | rfl
    ·exact⟨by omega,p1,a3⟩
    ·exact⟨by omega,p2,a4⟩
   obtain⟨k1,k2,k3⟩:=key;obtain⟨g1,g2⟩:=wD inc hn (D.mem k1) (by omega);have lt:=GH inc hn (show n-1 < n by omega);refine⟨g1,cz.mpr ⟨by omega,k1,(gX k1).mpr ⟨g2,fun a' e'=>?_⟩⟩⟩;rw [k3] at e';injection e' with e';have:j=a':=by omega
   subst this;omega
theorem G8:∀(t:Tr) (o:Nat),∃w,en t o 0=.word w
 | .leaf w,o=>⟨w,rfl⟩
 | .node l r,o=>by rw [en,if_pos (show 0 < l.size from l.size_pos)];exact G8 l o
def DD.ne {t:Tr}{ds:List Int} (D:DD t ds):aO t ds (aV t ds) (aV t ds).length≠[]:=by
 intro z;have:(0,0)∈aO t ds (aV t ds) (aV t ds).length:=by
  obtain⟨w,e⟩:=G8 t 0;refine cz.mpr ⟨by simp [aV],t.size_pos,(gX t.size_pos).mpr ⟨?_,fun a ea=>?_⟩⟩
  ·rw [D.leaf 0 w t.size_pos e];exact Dm _
  ·rcases jE t 0 0 .aQ t.size_pos with⟨_,e⟩ | ⟨a',u,v,_,ha,e,ep,_⟩
   ·rw [e] at ea;cases ea
   ·rw [e,AO] at ea;injection ea with ea;have:a'=a:=by omega
    subst this;have:=(D.pair a' u v ha ep).2.2;show (0:Int) < _;omega
 rw [z] at this;cases this
def S6 {t:Tr}{ds:List Int} (D:DD t ds) (hz:t.size<=25):(kG t.pv (.tup (dB ds))).le (.ret (.tup (dgL t ds (aV t ds)))):=S7 t ds D.len hz D.ne D.ok
def W7 (t:Tr):List PV:=(Av t.size).map fun j=>.tup (aq (up t 0 j []))
@[simp] theorem Uh (t:Tr):(W7 t).length=t.size:=by unfold W7;simp
def Mz (t:Tr) {j:Nat} (h:j < t.size):(W7 t)[j]?=some (.tup (aq (up t 0 j []))):=by unfold W7;simp [h]
def Ye (t:Tr):∀(k j:Nat),j+k+1=t.size->(up t 0 j []).length<=k+1:=fun k=>by
 induction k using EM with
 | ind k ih=>
  intro j hj;rcases ve t 0 j .aQ [] (by omega) with⟨q1,q2,q3⟩ | ⟨a,q1,q2,q3,q4⟩
  ·rw [q3];show 1<=k+1;omega
  ·rw [q4,Ao];have:=ih (t.size-a-1) (by omega) a (by omega);omega
def W6 (t:Tr) {j:Nat} (h:j < t.size):(up t 0 j []).length<=t.size:=by
 have:=Ye t (t.size-j-1) j (by omega);omega
def JY (t:Tr) (i:Nat):List PV:=(Av t.size).map fun j=>if j+i < t.size then .tup [] else .tup (aq (up t 0 j []))
def uD (t:Tr) (i:Nat):(JY t i).length=t.size:=by unfold JY;simp
def Mx (t:Tr) (i:Nat) {j:Nat} (h:j < t.size) (c:¬j+i < t.size):(JY t i)[j]?=some (.tup (aq (up t 0 j []))):=by unfold JY;simp [h,c]
def Ue (t:Tr) (i j:Nat) (h:j+i+1=t.size):(JY t i).set j (.tup (aq (up t 0 j [])))=JY t (i+1):=by
 apply Bd;intro k;by_cases hk:k < t.size
 ·by_cases e:j=k
  ·subst e;rw [Bc (by rw [uD];exact hk),Mx t (i+1) hk (by omega)]
  ·rw [A5 e];unfold JY;simp only [Ai,Bs hk,Cp];by_cases c:k+i < t.size
   ·rw [if_pos c,if_pos (by omega)]
   ·rw [if_neg c,if_neg (by omega)]
 ·rw [Aw (by rw [BM,uD];omega),Aw (by rw [uD];omega)]
def abm (t:Tr):JY t 0=Al t.size (.tup []):=by
 apply Bd;intro k;unfold JY;by_cases hk:k < t.size
 ·simp [hk]
 ·simp [hk]
def Ug (t:Tr):JY t t.size=W7 t:=by
 unfold JY W7;apply Ck;intro j _;rw [if_neg (by omega)]
def RF (t:Tr) (hz:t.size<=900):(fM t.pv).le (.ret (W7 t)):=fun Q q=>by
 have sp:=t.size_pos;unfold fM;simp only [W.ag,W.run_bind];refine W.le.use (JG t hz) ?_;simp only [aF,W.ai];refine KZ (fun _=>.tup []) (fun x hx=>rfl) ?_;have e0:(ahL t).map (fun _=>PV.tup [])=JY t 0:=by rw [Dy,NX,abm]
 have en:(((t.size:Nat):Int)-1 - -1).toNat=t.size:=by omega
 rw [e0];simp only [cT,NX,W.ag,sk,W.ai,oI,NF,en];refine⟨⟨trivial,bT (by omega) (by omega)⟩,?_⟩;show (eE _ _ _).run _;refine kM (fun i s=>s=JY t i) rfl (fun i x s hx hs=>?_) (fun s hs=>?_)
 ·subst hs;obtain⟨hi,rfl⟩:=sM hx;obtain⟨j,hj⟩:∃j:Nat,j=t.size-1-i:=⟨_,rfl⟩;have ej:(((t.size:Nat):Int)-1-(i:Int))=(j:Int):=by omega
  rw [ej];have LC:j < t.size:=by omega
  have ul:=W6 t LC;have fin:∀l:List PV,l.length<=900->.int (j:Int)::l=aq (up t 0 j [])->(W.bind (addW (.tup [.int (j:Int)]) (.tup l)) fun x=>gG (JY t i) (.int (j:Int)) x).run fun s=>s=JY t (i+1):=fun l hl he=>by
   rw [NJ,W.ax (a6 (by simp;omega))];show (gG _ _ (.tup (.int (j:Int)::l))).run _;rw [he,kr (by rw [uD];exact LC),Ue t i j (by omega)];rfl
  simp only [W.ag,W.run_bind,iI (NY t LC),W.ai];rcases ve t 0 j .aQ [] LC with⟨_,e,e2⟩ | ⟨a,ha1,ha,e,e2⟩
  ·rw [e];simp only [vp,wZ,PV.jZ,br,W.ai,if_true];have:=fin [] (by simp) (by rw [e2,AO];rfl);simpa using this
  ·rw [AO] at e;rw [e];have i2:Qb (JY t i) (.int (a:Int))=.ret (.tup (aq (up t 0 a []))):=iI (Mx t i ha (by omega));simp only [vp,wZ,PV.jZ,br,W.ai,Am,if_false,i2,W.ag];have ua:=W6 t ha;have:=fin (aq (up t 0 a [])) (by rw [cn];omega) (by rw [e2];simp);simpa using this
 ·subst hs;have el:(n8 (((t.size:Nat):Int)-1) t.size).length=t.size:=by unfold n8;simp
  rw [el,Ug];exact q
def apt (t:Tr) (j:Nat):List Nat:=(Av t.size).filter fun k=>!decide (k∈up t 0 j [])&&!decide (j∈up t 0 k [])
def Tw (t:Tr) (hz:t.size<=900) {j:Nat} (hj:j < t.size):(dJ (.cl (W7 t)) (.int (j:Int))).le (.ret (.tup (aq (apt t j)))):=fun Q q=>by
 unfold dJ;simp only [W.ag,W.run_bind,i6,Uh,fj,W.ax (bT (i:=0) (j:=(t.size:Int)) (by omega) (by omega)),W.ai,AU,nA];refine qi (fun k=>!decide (k∈up t 0 j [])&&!decide (j∈up t 0 k [])) (fun k hk=>?_) q;have hk:=AE.mp hk;simp only [W.ag,bW,iI (Mz t hj),iI (Mz t hk),aF,GI,if_true];by_cases c1:k∈up t 0 j []
 ·simp [c1]
 ·by_cases c2:j∈up t 0 k []
  ·simp [c1,c2]
  ·simp [c1,c2]
def Qc:Ent->List Nat
 | .word _=>[]
 | .pair a b=>[a,b]
def zf (e:Ent):cX e.pv=.ret (.tup (aq (Qc e))):=by
 unfold cX;cases e with
 | word w=>simp [Ent.pv,Qc]
 | pair a b=>simp [Ent.pv,Qc]
def Vq {es:List Ent}{j:Nat}{e:Ent} (h:es[j]?=some e):dI (.tup (es.map Ent.pv)) (.int (j:Int))=.ret (KN e j):=by
 have i1:Qb (es.map Ent.pv) (.int (j:Int))=.ret e.pv:=iI (by rw [Ai,h];rfl);unfold dI;cases e with
 | word w=>simp only [W.ag,aF,i1];rfl
 | pair a b=>simp only [W.ag,aF,i1];rfl
def grS (t:Tr) (j:Nat):PV:=.tup [KN (en t 0 j) j,.int 0,.tup (aq (Qc (en t 0 j))),.tup (aq (apt t j))]
def grL (t:Tr):List PV:=(Av t.size).map (grS t)
def O4 (t:Tr) (hz:t.size<=900):(jV t.pv).le (.ret (.tup (grL t))):=fun Q q=>by
 unfold jV;simp only [W.ag,W.run_bind];refine W.le.use (qb t hz) ?_;refine W.le.use (RF t hz) ?_;simp only [cT,dH,W.ai,fj,W.ax (bT (i:=0) (j:=(t.size:Int)) (by omega) (by omega)),AU,nA];unfold aq;refine kE (grS t) (fun j hj R r=>?_) q;have hj:=AE.mp hj;have i1:Qb ((t.nd 0).map Ent.pv) (.int (j:Int))=.ret (en t 0 j).pv:=iI (by rw [Ai,gn t 0 j hj];rfl);simp only [Vq (gn t 0 j hj),W.ag,aF,i1,zf,W.run_bind,W.ai];exact W.le.use (Tw t hz hj) r
structure Sy where
 nm:PV
 lv:Nat
 un:List Nat
 be:List Nat
def Sy.pv (s:Sy):PV:=.tup [s.nm,.int (s.lv:Int),.tup (aq s.un),.tup (aq s.be)]
def iZ (g:List Sy):PV:=.tup (g.map Sy.pv)
def sy (g:List Sy) (i:Nat):Sy:=g.getD i ⟨.aQ,0,[],[]⟩
def Qx {g:List Sy}{i:Nat} (h:i < g.length):g[i]?=some (sy g i):=by
 unfold sy;rw [Ap,Ad h];rfl
def O8 {g:List Sy}{i:Nat} (h:i < g.length):Qb (g.map Sy.pv) (.int (i:Int))=.ret (sy g i).pv:=iI (by rw [Ai,Qx h];rfl)
def OX (w:Str):PV->Bool
 | .str s=>s==w
 | _=>false
def hm (g:List Sy) (i:Nat) (w:Str):Bool:=(sy g i).un.isEmpty&&OX w (sy g i).nm
inductive TL (g:List Sy):Nat->Nat->Prop
 | refl (i):TL g i i
 | step {i u j}:u∈(sy g i).un->TL g u j->TL g i j
structure WG (g:List Sy) (ws:List Str):Prop where
 pos:0 < g.length
 len:g.length<=300
 dn:∀i,i < g.length->∀u∈(sy g i).un,u < i
 vg:∀i,i < g.length->(sy g i).un.length<=2
 be:∀i,i < g.length->∀u∈(sy g i).be,u < g.length
 WD:∀i,i < g.length->(sy g i).be.length<=30
 nm:∀i,i < g.length->(∃s,(sy g i).nm=.str s)\/∃n,(sy g i).nm=.int n
 agu:∀w∈ws,∃i,i < g.length/\TL g (g.length-1) i/\hm g i w=true
def vf {g:List Sy}{i:Nat} (h:i < g.length):cO (iZ g) (.int (i:Int))=.ret (.tup (aq (sy g i).un)):=by
 unfold cO iZ;simp only [W.ag,aF,O8 h];rfl
def PN {g:List Sy}{i:Nat} (h:i < g.length):eW (iZ g) (.int (i:Int))=.ret (.tup (aq (sy g i).be)):=by
 unfold eW iZ;simp only [W.ag,aF,O8 h];rfl
def eq_nil (l:List Nat) (h:l.length<=1000):of2 fF (.tup (aq l)) (.tup [])=.ret (.bl l.isEmpty):=by
 have fk:fY (aq l)=true:=mJ.mpr fun x hx=>by
  obtain⟨n,_,rfl⟩:=Az.mp hx;simp
 have fd:eF (aq l)<=1:=mM fun x hx=>by
  obtain⟨n,_,rfl⟩:=Az.mp hx;simp
 rw [zh,W.ax ⟨by simp [fk],by simp,by simp;omega⟩];cases l with
 | nil=>simp
 | cons a l=>simp [hE]
def XS {x:PV} (h:(∃s,x=.str s)\/∃n,x=.int n) (w:Str):of2 fF x (.str w)=.ret (.bl (OX w x)):=by
 rcases h with⟨s,rfl⟩ | ⟨n,rfl⟩
 ·rw [zh,W.ax ⟨by simp,by simp,by simp⟩,XN];rfl
 ·rw [zh,W.ax ⟨by simp,by simp,by simp⟩];simp [dE,OX]
def VY {g:List Sy}{ws:List Str} (G:WG g ws) {i:Nat} (h:i < g.length) (w:Str):ik (iZ g) (.int (i:Int)) (.str w)=.ret (.bl (hm g i w)):=by
 unfold ik;have l2:=G.vg i h;have i0:cy [(sy g i).nm,PV.int ((sy g i).lv:Int),.tup (aq (sy g i).un),.tup (aq (sy g i).be)] 0=some (sy g i).nm:=rfl;simp only [W.ag,vf h,eq_nil _ (show (sy g i).un.length<=1000 by omega)];unfold iZ hm;cases e:(sy g i).un.isEmpty with
 | false=>simp
 | true=>simp only [i9,aF,W.ag,O8 h,Sy.pv,bb,i0,W.aD,XS (G.nm i h) w,Fi]
abbrev Dd:=Str×Nat×Nat
def d3 (d:Dd):PV:=.tup [.str d.1,.int (d.2.1:Int),.int (d.2.2:Int)]
def d2 (d:Dd):PV:=.tup [.str d.1,.tup [.int (d.2.1:Int),.int (d.2.2:Int)]]
abbrev dbl (i:Nat):Dd:=("doubled",i,i)
abbrev ovr (i o:Nat):List Dd:=[("over",i,o),("over",o,i)]
def HY:List Nat->List Dd
 | [a,b]=>[("split",a,b),("split",b,a)]
 | _=>[]
def Pn (g:List Sy) (i:Nat):List Dd:=dbl i::(HY (sy g i).un++(sy g i).be.flatMap (ovr i))
theorem wW (i:Nat):∀l:List Nat,(l.flatMap (ovr i)).length=2*l.length
 | []=>rfl
 | a::l=>by rw [List.flatMap_cons,Ae,wW i l];simp;omega
def FO (l:List Nat):(HY l).length<=2:=by unfold HY;split <;> simp
def Wx {g:List Sy}{ws:List Str} (G:WG g ws) {i:Nat} (h:i < g.length):(Pn g i).length<=63:=by
 unfold Pn;rw [Ao,Ae,wW];have:=FO (sy g i).un;have:=G.WD i h;omega
def S5 {g:List Sy}{ws:List Str} (G:WG g ws) {i:Nat} (h:i < g.length) {d:Dd} (hd:d∈Pn g i):d.2.1 < g.length/\d.2.2 < g.length:=by
 unfold Pn at hd;rcases Ay.mp hd with rfl | hd
 ·exact⟨h,h⟩
 rcases Bj.mp hd with hd | hd
 ·have hu:=G.dn i h;revert hu hd;generalize (sy g i).un=l;intro hd hu
  match l with
  | [a,b]=>
   have h1:=hu a (by simp);have h2:=hu b (by simp);simp [HY] at hd;rcases hd with rfl | rfl
   ·exact⟨by show a < _;omega,by show b < _;omega⟩
   ·exact⟨by show b < _;omega,by show a < _;omega⟩
  | []=>simp [HY] at hd
  | [_]=>simp [HY] at hd
  | _::_::_::_=>simp [HY] at hd
 ·obtain⟨o,ho,hd⟩:=Ek.mp hd;have:=G.be i h o ho;simp at hd;rcases hd with rfl | rfl
  ·exact⟨h,this⟩
  ·exact⟨this,h⟩
def OH {g:List Sy}{ws:List Str} (G:WG g ws) {i:Nat} (h:i < g.length):(dN (iZ g) (.int (i:Int))).le (.ret ((Pn g i).map d3)):=fun Q q=>by
 unfold dN iZ;have l1:=FO (sy g i).un;have l3:=G.WD i h;have i0:∀a b:Nat,cy [PV.int (a:Int),PV.int (b:Int)] 0=some (.int (a:Int)):=fun _ _=>rfl;have i1:∀a b:Nat,cy [PV.int (a:Int),PV.int (b:Int)] 1=some (.int (b:Int)):=fun _ _=>rfl;simp only [W.ag,W.run_bind,aF,O8 h,W.ai,Sy.pv,SG,cT,cn,eR,br];have fin:∀s:List PV,s=(dbl i::HY (sy g i).un).map d3->(eE (aq (sy g i).be) s fun jP UH=>W.bind (G1 UH [.tup [.str "over",.int (i:Int),jP],.tup [.str "over",jP,.int (i:Int)]]) fun qF=>W.ret qF).run Q:=fun s hs=>by
  refine kM (fun k s=>s=(dbl i::(HY (sy g i).un++((sy g i).be.take k).flatMap (ovr i))).map d3) (by rw [hs];simp) (fun k x s hx hs=>?_) (fun s hs=>?_)
  ·subst hs;unfold aq at hx;rw [Ai] at hx;cases eo:(sy g i).be[k]? with
   | none=>rw [eo] at hx;cases hx
   | some o=>
   rw [eo] at hx;have ex:PV.int (o:Int)=x:=Option.some.inj hx;subst ex;have et:(sy g i).be.take (k+1)=(sy g i).be.take k++[o]:=by rw [E5,eo];rfl
   have lk:((sy g i).be.take k).length<=30:=by rw [B6];omega
   unfold G1;rw [W.ax (a6 (by simp only [Af,Ao,Ae,wW];simp;omega))];simp only [W.ag,W.ai];rw [et,B2];simp [d3]
  ·subst hs;rw [cn,List.take_length];exact q
 have hu:=G.vg i h;revert fin hu;generalize (sy g i).un=l;intro fin hu
 match l,hu with
 | [],_=>
  simp only [A2];exact fin _ rfl
 | [a],_=>
  simp only [Ao,A2];exact fin _ rfl
 | [a,b],_=>
  simp only [jU,jT,bb,i0,i1,W.aD,W.ag,W.run_bind,W.ai,Ao,A2];refine⟨a6 (by simp),?_⟩;exact fin _ rfl
def yg (F:List (List Bool)):List PV:=F.map fun r=>.cl (r.map PV.bl)
def fa (F:List (List Bool)) (j i:Nat):Bool:=(F.getD j []).getD i false
structure FW (g:List Sy) (F:List (List Bool)) (n:Nat):Prop where
 len:n<=F.length
 row:∀j,j < n->(F.getD j []).length=g.length
def zY {g:List Sy}{F:List (List Bool)}{n j i:Nat} (fw:FW g F n) (hj:j < n) (hi:i < g.length):(bh (W.bind (bh (W.ret (yg F)) (W.ret (.int (j:Int)))) az) (W.ret (.int (i:Int))))=.ret (.bl (fa F j i)):=by
 have TY:j < F.length:=AA hj fw.len;have e1:F[j]?=some (F.getD j []):=by rw [Ap,Ad TY];rfl
 have i1:Qb (yg F) (.int (j:Int))=.ret (.cl ((F.getD j []).map PV.bl)):=iI (by unfold yg;rw [Ai,e1];rfl);have hl:=fw.row j hj;have e2:(F.getD j [])[i]?=some (fa F j i):=by unfold fa;generalize F.getD j []=r at hl;rw [Ap,Ad (by omega)];rfl
 have i2:Qb ((F.getD j []).map PV.bl) (.int (i:Int))=.ret (.bl (fa F j i)):=iI (by rw [Ai,e2];rfl);simp only [W.ag,i1,bW,i2]
def lD (g:List Sy) (F:List (List Bool)) (e:Ent) (i:Nat):List Dd:=match e with
 | .word w=>if hm g i w=true then [("found",i,i)] else []
 | .pair a b=>(Pn g i).filter fun d=>fa F a d.2.1&&fa F b d.2.2
def tS (n:Nat):Ent->Prop
 | .word _=>True
 | .pair a b=>a < n/\b < n
def mx {g:List Sy}{ws:List Str} (G:WG g ws) {F:List (List Bool)}{es:List Ent}{j i n:Nat}{e:Ent} (he:es[j]?=some e) (hi:i < g.length) (fw:FW g F n) (hn:tS n e) :
  (bP (iZ g) (.cl (es.map Ent.pv)) (.cl (yg F)) (.int (j:Int)) (.int (i:Int))).le (.ret ((lD g F e i).map d3)):=fun Q q=>by
 unfold bP;have ie:Qb (es.map Ent.pv) (.int (j:Int))=.ret e.pv:=iI (by rw [Ai,he];rfl);simp only [W.ag,W.run_bind,bW,ie,W.ai];cases e with
 | word w=>
  have l2:=G.vg i hi;have i0:cy [(sy g i).nm,PV.int ((sy g i).lv:Int),.tup (aq (sy g i).un),.tup (aq (sy g i).be)] 0=some (sy g i).nm:=rfl;have i2:cy [(sy g i).nm,PV.int ((sy g i).lv:Int),.tup (aq (sy g i).un),.tup (aq (sy g i).be)] 2=some (.tup (aq (sy g i).un)):=rfl;have fin:∀b:Bool,hm g i w=b->(Ig [PV.tup [.str "found",.int (i:Int),.int (i:Int)]] (.int (if b then 1 else 0))).run Q:=fun b hb=>by
   have q:Q ((if hm g i w=true then [(("found",i,i):Dd)] else []).map d3):=q;rw [hb] at q;cases b with
   | true=>
    rw [G3];exact⟨⟨by decide,by decide,a6 (by simp)⟩,q⟩
   | false=>
    rw [G3];exact⟨⟨by decide,by decide,a6 (by simp)⟩,q⟩
  simp only [Ent.pv,i7,kO,bB,W.ai,if_true,iZ,aF,W.ag,O8 hi,Sy.pv,bb,i0,i2,W.aD,W.run_bind,eq_nil _ (show (sy g i).un.length<=1000 by omega),XS (G.nm i hi) w];cases c:(sy g i).un.isEmpty with
  | false=>
   simp only [NI,W.ai,qI];exact fin false (by unfold hm;rw [c];rfl)
  | true=>
   simp only [i9,W.ai,qI];exact fin _ (by unfold hm;rw [c];rfl)
 | pair a b=>
  obtain⟨ha,hb⟩:=hn;have j0:cy [PV.int (a:Int),PV.int (b:Int)] 0=some (.int a):=rfl;have j1:cy [PV.int (a:Int),PV.int (b:Int)] 1=some (.int b):=rfl;simp only [Ent.pv,hJ,kN,bB,W.ai,Am,if_false,aF,bb,j0,j1,W.aD,W.ag,W.run_bind];refine W.le.use (OH G hi) ?_;refine Gr (fun d:Dd=>if (fa F a d.2.1&&fa F b d.2.2)=true then some (d3 d) else none) (fun d hd R r=>?_) ?_
  ·obtain⟨h1,h2⟩:=S5 G hi hd;have k1:cy [PV.str d.1,PV.int (d.2.1:Int),PV.int (d.2.2:Int)] 1=some (.int (d.2.1:Int)):=rfl;have k2:cy [PV.str d.1,PV.int (d.2.1:Int),PV.int (d.2.2:Int)] 2=some (.int (d.2.2:Int)):=rfl;have t1:=zY fw ha h1;have t2:=zY fw hb h2;simp only [W.ag,bb] at t1 t2;simp only [d3,aF,W.ag,bb,k1,k2,W.aD,t1,t2,bB];cases c1:fa F a d.2.1 with
   | false=>simpa [c1] using r
   | true=>
    cases c2:fa F b d.2.2 with
    | false=>simpa [c1,c2] using r
    | true=>simpa [c1,c2,d3] using r
  ·rw [NC];exact q
def ju (g:List Sy) (f:Nat->Bool):Nat->List Bool
 | 0=>[]
 | k+1=>ju g f k++[(sy g k).un.any (fun l=>(ju g f k).getD l false)||f k]
@[simp] theorem jt (g:List Sy) (f:Nat->Bool):∀k,(ju g f k).length=k
 | 0=>rfl
 | k+1=>by rw [ju,Ae,jt g f k];rfl
def j7 {α:Type}{l m:List α}{i:Nat}{d:α} (h:i < l.length):(l++m).getD i d=l.getD i d:=by
 rw [Ap,AD h,<- Ap]
def nC {α:Type}{l m:List α}{i:Nat}{d:α} (h:l.length<=i):(l++m).getD i d=m.getD (i-l.length) d:=by
 rw [Ap,AB h,<- Ap]
theorem FU (g:List Sy) (f:Nat->Bool) {i:Nat}:∀{k:Nat},i < k->(ju g f k).getD i false=(ju g f (i+1)).getD i false
 | 0,h=>by omega
 | k+1,h=>by
  by_cases c:i=k
  ·subst c;rfl
  ·rw [ju,j7 (by rw [jt];omega)];exact FU g f (by omega)
def abT (g:List Sy) (f:Nat->Bool) (dn:∀i,i < g.length->∀u∈(sy g i).un,u < i) {i:Nat} (h:i < g.length):(ju g f g.length).getD i false=((sy g i).un.any (fun l=>(ju g f g.length).getD l false)||f i):=by
 rw [FU g f h,ju,nC (by rw [jt];exact An _),jt,B4];show (_||_)=_;congr 1;rw [CK,BR,BR];have key:∀l∈(sy g i).un,(ju g f i).getD l false=(ju g f g.length).getD l false:=fun l hl=>by
  have:=dn i h l hl;rw [FU g f this,FU g f (show l < g.length by omega)]
 exact⟨fun ⟨l,h1,h2⟩=>⟨l,h1,by rw [<- key l h1];exact h2⟩,fun ⟨l,h1,h2⟩=>⟨l,h1,by rw [key l h1];exact h2⟩⟩
def J5 (es:List Ent) (j:Nat):Ent:=es.getD j (.word "")
def tab (g:List Sy) (es:List Ent):Nat->List (List Bool)
 | 0=>[]
 | j+1=>tab g es j++[ju g (fun i=>!(lD g (tab g es j) (J5 es j) i).isEmpty) g.length]
@[simp] theorem bz (g:List Sy) (es:List Ent):∀j,(tab g es j).length=j
 | 0=>rfl
 | j+1=>by rw [tab,Ae,bz g es j];rfl
theorem pO (g:List Sy) (es:List Ent) {i:Nat}:∀{k:Nat},i < k->(tab g es k).getD i []=ju g (fun x=>!(lD g (tab g es i) (J5 es i) x).isEmpty) g.length
 | 0,h=>by omega
 | k+1,h=>by
  by_cases c:i=k
  ·subst c;rw [tab,nC (by rw [bz];exact An _),bz,B4];rfl
  ·rw [tab,j7 (by rw [bz];omega)];exact pO g es (by omega)
def Ki (g:List Sy) (es:List Ent) (n:Nat):FW g (tab g es n) n:=⟨by rw [bz];exact An _,fun j hj=>by rw [pO g es hj,jt]⟩
def IU {g:List Sy}{F F':List (List Bool)}{e:Ent}{i n:Nat} (h:tS n e) (hf:∀j,j < n->F.getD j []=F'.getD j []):lD g F e i=lD g F' e i:=by
 cases e with
 | word w=>rfl
 | pair a b=>
  dsimp only [lD,fa];rw [hf a h.1,hf b h.2]
def Up (g:List Sy) (es:List Ent) {j k:Nat} (h:j<=k):∀x,x < j->(tab g es j).getD x []=(tab g es k).getD x []:=fun x hx=>by rw [pO g es hx,pO g es (show x < k by omega)]
def adC {g:List Sy}{ws:List Str} (G:WG g ws) {es:List Ent}{n j i:Nat} (hj:j < n) (hi:i < g.length) (he:tS j (J5 es j)):fa (tab g es n) j i=((sy g i).un.any (fun l=>fa (tab g es n) j l)||!(lD g (tab g es n) (J5 es j) i).isEmpty):=by
 have e1:∀x,fa (tab g es n) j x=(ju g (fun x=>!(lD g (tab g es j) (J5 es j) x).isEmpty) g.length).getD x false:=fun x=>by unfold fa;rw [pO g es hj]
 have e2:(fun l=>fa (tab g es n) j l)=fun l=>(ju g (fun x=>!(lD g (tab g es j) (J5 es j) x).isEmpty) g.length).getD l false:=funext e1;rw [e2,e1,abT g _ G.dn hi,IU (F':=tab g es n) he (Up g es (by omega))]
def zW (b:Bool):vk (.bl b)=.ret (.bl b):=W.ax (by rw [PV.dat] <;> simp)
def any_map' (f:Nat->Bool) (l:List Nat):Tx (l.map fun x=>.bl (f x))=.ret (.bl (l.any f)):=by
 have:(l.map fun x=>PV.bl (f x))=(l.map f).map PV.bl:=by rw [AX];rfl
 rw [this,WN,List.any_map];rfl
def jo (F:List (List Bool)):List (List PV):=F.map fun r=>r.map PV.bl
def Qv (F:List (List Bool)):(jo F).map PV.cl=yg F:=by unfold jo yg;rw [AX];rfl
def Vx {g:List Sy}{ws:List Str} (G:WG g ws) {es:List Ent} (hz:es.length<=900) (hes:∀j,j < es.length->tS j (J5 es j)):(fU (iZ g) (.cl (es.map Ent.pv))).le (.ret (yg (tab g es es.length))):=fun Q q=>by
 have gl:=G.len;unfold fU;simp only [W.ag,W.run_bind,i6,Af,fj,W.ax (bT (i:=0) (j:=(es.length:Int)) (by omega) (by omega)),W.ai,AU];refine qG (fun j s=>s.2=jo (tab g es j)) rfl (fun j s hj hs=>?_) (fun s hs=>?_)
 ·obtain⟨s1,s2⟩:=s;replace hs:s2=jo (tab g es j):=hs;subst hs;have e1:ud eI [iZ g]=.ret (.int (g.length:Int)):=by unfold iZ;rw [cT,Af]
  have e2:Ig [PV.bl false] (.int (g.length:Int))=.ret ((Al g.length false).map PV.bl):=by
   rw [G3,W.ax ⟨by omega,by omega,a6 (by simp;omega)⟩,AU];congr 1;simp
  have agJ:es[j]?=some (J5 es j):=by unfold J5;rw [Ap,Ad hj];rfl
  simp only [W.ag,e1,e2,W.run_bind,W.ai];refine⟨by show (jo (tab g es j)).length < sizeLine;unfold jo;rw [Af,bz];have:=a6 (n:=901) (by omega);omega,?_⟩;show ((W.any fun _=>True).bind _:W _).run _;simp only [W.run_bind];intro b9 _;simp only [fj,W.ax (bT (i:=0) (j:=(g.length:Int)) (by omega) (by omega)),W.ai,AU,W.run_bind]
  let f:Nat->Bool:=fun x=>!(lD g (tab g es j) (J5 es j) x).isEmpty
  refine qG (fun i s=>s.2=jo (tab g es j++[ju g f i++Al (g.length-i) false])) (by show _++_=_;simp [jo,ju]) (fun i s hi hs=>?_) (fun s hs=>?_)
  ·obtain⟨s1,s2⟩:=s;replace hs:s2=_:=hs;subst hs;generalize hF:tab g es j++[ju g f i++Al (g.length-i) false]=F;have fw:FW g F (j+1):=by
    subst hF;refine⟨by simp,fun x hx=>?_⟩;by_cases c:x=j
    ·subst c;rw [nC (by rw [bz];exact An _),bz,B4];show (ju g f i++_).length=_;rw [Ae,jt,A8];omega
    ·rw [j7 (by rw [bz];omega)];exact (Ki g es j).row x (by omega)
   have ff:∀l,l < i->fa F j l=(ju g f i).getD l false:=fun l hl=>by
    subst hF;unfold fa;rw [nC (by rw [bz];exact An _),bz,B4];show (ju g f i++_).getD l false=_;rw [j7 (by rw [jt];exact hl)]
   have fd:lD g F (J5 es j) i=lD g (tab g es j) (J5 es j) i:=IU (hes j hj) fun x hx=>by
    subst hF;rw [j7 (by rw [bz];exact hx)]
   have un:Qb (g.map Sy.pv) (.int (i:Int))=.ret (sy g i).pv:=O8 hi;have i2:cy [(sy g i).nm,PV.int ((sy g i).lv:Int),.tup (aq (sy g i).un),.tup (aq (sy g i).be)] 2=some (.tup (aq (sy g i).un)):=rfl;simp only [Qv,iZ,aF,W.ag,un,Sy.pv,bb,i2,W.aD,W.run_bind,W.ai,bW];refine yX (fun l=>.bl (fa F j l)) (fun l hl=>?_) ?_
   ·have:=G.dn i hi l hl;have:=zY fw (show j < j+1 by omega) (show l < g.length by omega);simpa using this
   ·rw [any_map'];have eA:(sy g i).un.any (fa F j)=(sy g i).un.any fun l=>(ju g f i).getD l false:=by
     rw [CK,BR,BR];exact⟨fun ⟨l,h1,h2⟩=>⟨l,h1,by rw [<- ff l (G.dn i hi l h1)];exact h2⟩,fun ⟨l,h1,h2⟩=>⟨l,h1,by rw [ff l (G.dn i hi l h1)];exact h2⟩⟩
    have fin:(W.bind (VN (jo F) (.int (j:Int))) fun j25=>W.bind (gG j25.2 (.int (i:Int)) (.bl ((sy g i).un.any (fa F j)||f i))) fun Zw=>W.ret ((s1,(jo F).set j25.1 Zw):List Addr×List (List PV))).run fun s=>s.2=jo (tab g es j++[ju g f (i+1)++Al (g.length-(i+1)) false]):=by
     have TY:j < (jo F).length:=by unfold jo;rw [Af];have:=fw.len;omega
     have e3:(jo F)[j]?=some ((ju g f i++Al (g.length-i) false).map PV.bl):=by
      subst hF;unfold jo;rw [Ai,AB (by rw [bz];exact An _),bz,B4];rfl
     have e4:VN (jo F) (.int (j:Int))=.ret (j,(ju g f i++Al (g.length-i) false).map PV.bl):=by
      show W.Rq ((qt (jo F).length (j:Int)).bind fun j=>(jo F)[j]?.map fun l=>(j,l))=_;rw [Nt TY];show W.Rq ((jo F)[j]?.map _)=_;rw [e3];rfl
     rw [e4];simp only [W.ag];rw [kr (by rw [Af,Ae,jt,A8];omega)];simp only [W.ag,W.ai];subst hF;unfold jo;rw [eA];apply Bd;intro x;have er:g.length-i=(g.length-(i+1))+1:=by omega
     by_cases c:x=j
     ·subst c;rw [Bc (by rw [Af,Ae,bz];simp),Ai,AB (by rw [bz];exact An _),bz,B4];show some _=some _;congr 1;rw [ju,er,Br,<- Ez,ES _ _ (by rw [jt];exact An _),jt,B4];simp
     ·rw [A5 (BF c),Ai,Ai];by_cases c2:x < j
      ·rw [AD (by rw [bz];exact c2),AD (by rw [bz];exact c2)]
      ·rw [Aw (by rw [Ae,bz];simp;omega),Aw (by rw [Ae,bz];simp;omega)]
    simp only [W.ai,zW];cases cA:(sy g i).un.any (fa F j) with
    | true=>
     rw [cA] at fin;simp only [SJ,W.ai,zW];simpa using fin
    | false=>
     rw [cA] at fin;simp only [SK,W.run_bind];refine W.le.use (mx G (F:=F) agJ hi fw (by have:=hes j hj;revert this;cases J5 es j with | word w=>exact id | pair a b=>exact fun z=>⟨CZ z.1,CZ z.2⟩)) ?_;have e5:(!((lD g F (J5 es j) i).map d3).isEmpty)=f i:=by rw [fd,Em]
     simp only [W.ai,e5,zW];simpa using fin
  ·show s.2=jo (tab g es (j+1));rw [hs,tab,B4];simp [f]
 ·show Q (s.2.map PV.cl);rw [hs,Qv];exact q
def Ch (g:List Sy):List Nat->Prop
 | []=>False
 | [i]=>i < g.length
 | i::k::r=>i < g.length/\k∈(sy g i).un/\Ch g (k::r)
theorem Ch.snoc {g:List Sy}{i u:Nat} (hu:u∈(sy g i).un) (hg:u < g.length):∀{p:List Nat},Ch g (p++[i])->Ch g (p++[i]++[u])
 | [],h=>⟨h,hu,hg⟩
 | [a],h=>⟨h.1,h.2.1,h.2.2,hu,hg⟩
 | a::b::p,h=>⟨h.1,h.2.1,Ch.snoc hu hg (p:=b::p) h.2.2⟩
theorem Ch.last {g:List Sy}{i:Nat}:∀{p:List Nat},Ch g (p++[i])->i < g.length
 | [],h=>h
 | [a],h=>h.2.2
 | a::b::p,h=>Ch.last (p:=b::p) h.2.2
theorem Ch.lt {g:List Sy}:∀{p:List Nat},Ch g p->∀x∈p,x < g.length
 | [i],h,x,hx=>by rw [Bw.mp hx];exact h
 | i::k::r,h,x,hx=>by
  rcases Ay.mp hx with rfl | hx
  ·exact h.1
  ·exact Ch.lt (p:=k::r) h.2.2 x hx
def Ch.cons {g:List Sy}{a i:Nat}{r:List Nat} (h:Ch g (i::r)) (ha:a < g.length) (hi:i∈(sy g a).un):Ch g (a::i::r):=⟨ha,hi,h⟩
theorem Ch.len {g:List Sy}{ws:List Str} (G:WG g ws):∀{p:List Nat}{i:Nat},Ch g (i::p)->p.length<=i
 | [],i,_=>A3 _
 | k::r,i,h=>by
  have h1:=G.dn i h.1 k h.2.1;have h2:=Ch.len G (p:=r) (i:=k) h.2.2;rw [Ao];omega
def ZY {g:List Sy}{i:Nat} (h:i < g.length):cy (g.map Sy.pv) (i:Int)=some (sy g i).pv:=cU (by rw [Ai,Qx h];rfl)
def Kk (s:Sy):cy [s.nm,PV.int (s.lv:Int),.tup (aq s.un),.tup (aq s.be)] 2=some (.tup (aq s.un)):=(rfl)
def qp (q:List Nat) (l:Nat):cy (aq (q++[l])) (-1)=some (.int (l:Int)):=by rw [RA];exact Tu _ _
structure PI (g:List Sy) (F:List (List Bool)) (j i0:Nat) (q:List Nat) (l:Nat):Prop where
 ch:Ch g (q++[l])
 hd:(q++[l]).head?=some i0
 f:fa F j l=true
 m:q.length+l<=i0
def PI.next {g:List Sy}{ws:List Str} (G:WG g ws) {F:List (List Bool)}{j i0 l u:Nat}{q:List Nat} (P:PI g F j i0 q l) (hu:u∈(sy g l).un) (hf:fa F j u=true):PI g F j i0 (q++[l]) u:=by
 have hl:=P.ch.last;have:=G.dn l hl u hu;have:=P.m;refine⟨P.ch.snoc hu (by omega),?_,hf,by rw [Ae];simp;omega⟩;rw [List.head?_append,P.hd];rfl
section
variable {g:List Sy}{ws:List Str}{F:List (List Bool)}{es:List Ent}{j n:Nat}{e:Ent}
def Rp (G:WG g ws) (fw:FW g F n) (hj:j < n) {l:Nat} (hl:l < g.length) {Q:List PV->Prop} (q:Q (aq ((sy g l).un.filter fun u=>fa F j u))) :
  (lR (aq (sy g l).un) fun p8=>J0 (W.bind (bh (W.bind (bh (W.ret (yg F)) (W.ret (.int (j:Int)))) az) (W.ret p8)) dm) (W.ret p8)).run Q:=by
 refine qi (fun u=>fa F j u) (fun u hu=>?_) q;have:=G.dn l hl u hu;rw [zY fw hj (show u < g.length by omega)];cases fa F j u <;> simp
def yY (G:WG g ws) (he:es[j]?=some e) (fw:FW g F n) (hj:j < n) (hn:tS n e) (hc:∀i,i < g.length->fa F j i=((sy g i).un.any (fun l=>fa F j l)||!(lD g F e i).isEmpty)) {i0:Nat} (h0:i0 < g.length) (f0:fa F j i0=true) {Q:PV->Prop}
  (q:∀p l,Ch g (p++[l])->(p++[l]).head?=some i0->lD g F e l≠[]->Q (.tup (aq (p++[l])))) :
  (dz (iZ g) (.cl (es.map Ent.pv)) (.cl (yg F)) (.int (j:Int)) (.int (i0:Int))).run Q:=by
 have gl:=G.len;have e1:ud eI [iZ g]=.ret (.int (g.length:Int)):=by unfold iZ;rw [cT,Af]
 unfold dz;simp only [W.ag,W.run_bind,e1,W.ai,fj,W.ax (bT (i:=0) (j:=(g.length:Int)) (by omega) (by omega)),AU];refine qG (fun _ s=>∃p l,s=aq (p++[l])/\PI g F j i0 p l) ⟨[],i0,rfl,h0,rfl,f0,by simp⟩ (fun k s hk hs=>?_) (fun s hs=>?_)
 ·obtain⟨p,l,rfl,P⟩:=hs;have hl:=P.ch.last;have vg:=G.vg l hl;have pm:=P.m;have step:∀x∈aq ((sy g l).un.filter fun u=>fa F j u),(m8 (aq (p++[l])) x).run fun s=>∃p l,s=aq (p++[l])/\PI g F j i0 p l:=fun x hx=>by
   obtain⟨u,hu,rfl⟩:=Az.mp hx;obtain⟨hu1,hu2⟩:=AL.mp hu;rw [jD (by rw [cn,Ae];simp;omega)];exact⟨p++[l],u,by simp,P.next G hu1 hu2⟩
  simp only [oI,bb,qp,W.aD,W.ag,W.run_bind,W.ai];simp only [iZ,aF,bW,ZY hl,W.aD,W.ag,W.ai,Sy.pv,Kk];have on:=@Rp g ws F j n G fw hj l hl;simp only [W.ag,bb] at on;refine on ?_;refine W.le.use (mx G he hl fw hn) ?_;have stop:∃p' l',aq (p++[l])=aq (p'++[l'])/\PI g F j i0 p' l':=⟨p,l,rfl,P⟩;have go:∀b:Bool,(fh (vm (W.bind (W.bind (W.ret (.cl (aq ((sy g l).un.filter fun u=>fa F j u)))) K2) fun RN=>W.ret (!RN.isEmpty)) (W.bind (W.ret (.bl b)) dm)) (W.bind (W.bind (W.ret (.cl (aq ((sy g l).un.filter fun u=>fa F j u)))) fun yc=>bp yc) fun va=>W.bind (m8 (aq (p++[l])) va) fun gZ=>W.ret gZ) (W.ret (aq (p++[l])))).run fun s=>∃p l,s=aq (p++[l])/\PI g F j i0 p l:=fun b=>by
   generalize hon:aq ((sy g l).un.filter fun u=>fa F j u)=on at step;have onl:on.length<=1000:=by
    rw [<- hon,cn];have:=AZ (fun u=>fa F j u) (sy g l).un;omega
   simp only [W.ag,G4,bB,W.run_bind,W.ai];cases on with
   | nil=>simpa using stop
   | cons x r=>
    cases b with
    | false=>simpa using stop
    | true=>
     simp only [List.isEmpty_cons,E8,if_true,W.run_bind,W.ai];refine pick_run (by simp) onl fun y hy=>?_;simpa using step y hy
  cases cd:((lD g F e l).map d3).isEmpty with
  | true=>
   simp only [W.ai,SJ];simpa using go true
  | false=>
   simp only [W.ai,SK,W.run_bind,cS 3 (by decide) (by decide)];refine bw fun d _ _=>?_;simp only [eR,W.ai];simpa using go (d==0)
 ·obtain⟨p,l,rfl,P⟩:=hs;refine kh (fun m s=>∃p,s=aq (p++[m])/\PI g F j i0 p m) ⟨p,rfl,P⟩ ?_;rintro l s ⟨p,rfl,P⟩;have hl:=P.ch.last;have vg:=G.vg l hl;have pm:=P.m;simp only [oI,bb,qp,W.aD,W.ag,W.run_bind,W.ai];refine W.le.use (mx G he hl fw hn) ?_;cases cd:((lD g F e l).map d3).isEmpty with
  | false=>
   simp only [Am,if_false,sj,W.ai];refine q p l P.ch P.hd fun z=>?_;rw [z] at cd;cases cd
  | true=>
   simp only [if_true,W.run_bind];have on:=@Rp g ws F j n G fw hj l hl;simp only [W.ag,bb] at on;simp only [iZ,aF,bW,ZY hl,W.aD,W.ag,W.ai,Sy.pv,Kk];refine on ?_;have hcl:=hc l hl;rw [P.f] at hcl;have lz:(lD g F e l).isEmpty=true:=by rw [Em] at cd;exact cd
   rw [lz] at hcl;have ha:(sy g l).un.any (fun u=>fa F j u)=true:=by simpa using hcl.symm
   obtain⟨u,hu,hfu⟩:=BR.mp ha;have mem:u∈(sy g l).un.filter fun u=>fa F j u:=AL.mpr ⟨hu,hfu⟩;refine pick_run (fun z=>?_) (by rw [cn];have:=AZ (fun u=>fa F j u) (sy g l).un;omega) fun x hx=>?_
   ·have:=congrArg BV z;rw [cn] at this;rw [El.mp this] at mem;cases mem
   ·obtain⟨v,hv,rfl⟩:=Az.mp hx;obtain⟨hv1,hv2⟩:=AL.mp hv;rw [jD (by rw [cn,Ae];simp;omega)];exact⟨v,G.dn l hl v hv1,p++[l],by simp,P.next G hv1 hv2⟩
end
def ht:Tr->Nat->Nat
 | .leaf _,_=>0
 | .node l r,j=>if j < l.size then ht l j else if j < l.size+r.size then ht r (j-l.size) else (Tr.node l r).depth
theorem Sa:∀(t:Tr) (j:Nat),ht t j<=t.depth
 | .leaf _,_=>An _
 | .node l r,j=>by
  have e:(Tr.node l r).depth=max l.depth r.depth+1:=rfl;have h1:=Sa l j;have h2:=Sa r (j-l.size);rw [ht]
  split
  ·omega
  ·split <;> omega
def Ny (t:Tr):ht t (t.size-1)=t.depth:=by
 cases t with
 | leaf _=>rfl
 | node l r=>
  have es:(Tr.node l r).size=l.size+r.size+1:=rfl;rw [ht,if_neg (by omega),if_neg (by omega)]
theorem Sb:∀(t:Tr) (o j a b:Nat),j < t.size->en t o j=.pair a b->ht t (a-o) < ht t j/\ht t (b-o) < ht t j
 | .leaf _,o,j,a,b,h,e=>by rw [en] at e;cases e
 | .node l r,o,j,a,b,h,e=>by
  have es:(Tr.node l r).size=l.size+r.size+1:=rfl;have lp:=l.size_pos;have rp:=r.size_pos;by_cases c1:j < l.size
  ·rw [en,if_pos c1] at e;obtain⟨h1,h2,h3,h4,_⟩:=mN l o j .aQ a b c1 e;have:=Sb l o j a b c1 e;have q1:∀x,x < l.size->ht (.node l r) x=ht l x:=fun x hx=>by rw [ht,if_pos hx]
   rw [q1 (a-o) (by omega),q1 (b-o) (by omega),q1 j c1];exact this
  ·by_cases c2:j < l.size+r.size
   ·rw [en,if_neg c1,if_pos c2] at e;obtain⟨h1,h2,h3,h4,_⟩:=mN r (o+l.size) (j-l.size) .aQ a b (by omega) e;have:=Sb r (o+l.size) (j-l.size) a b (by omega) e;have q1:∀x,¬x < l.size->x < l.size+r.size->ht (.node l r) x=ht r (x-l.size):=fun x h1 h2=>by rw [ht,if_neg h1,if_pos h2]
    rw [q1 (a-o) (by omega) (by omega),q1 (b-o) (by omega) (by omega),q1 j c1 c2,E3,E3];exact this
   ·rw [en,if_neg c1,if_neg c2] at e;injection e with e1 e2;subst e1;subst e2;have er:(Tr.node l r).depth=max l.depth r.depth+1:=rfl;have ej:ht (.node l r) j=(Tr.node l r).depth:=by rw [ht,if_neg c1,if_neg c2]
    have e3:ht (.node l r) (o+l.size-1-o)=l.depth:=by rw [ht,if_pos (by omega),show o+l.size-1-o=l.size-1 by omega,Ny]
    have e4:ht (.node l r) (o+l.size+r.size-1-o)=r.depth:=by rw [ht,if_neg (by omega),if_pos (by omega),show o+l.size+r.size-1-o-l.size=r.size-1 by omega,Ny]
    rw [ej,e3,e4,er];omega
theorem uU:∀(t:Tr) (o j:Nat) (w:Str),j < t.size->en t o j=.word w->w∈t.aG
 | .leaf x,o,j,w,h,e=>by
  rw [en] at e;injection e with e;subst e;simp [Tr.aG]
 | .node l r,o,j,w,h,e=>by
  have es:(Tr.node l r).size=l.size+r.size+1:=rfl;by_cases c1:j < l.size
  ·rw [en,if_pos c1] at e;exact Cg _ (uU l o j w c1 e)
  ·by_cases c2:j < l.size+r.size
   ·rw [en,if_neg c1,if_pos c2] at e;exact AR _ (uU r _ (j-l.size) w (by omega) e)
   ·rw [en,if_neg c1,if_neg c2] at e;cases e
inductive J6 (g:List Sy) (t:Tr):Nat->List Nat->PV->Prop
 | leaf {j p i w}:en t 0 j=.word w->Ch g (p++[i])->hm g i w=true->J6 g t j (p++[i]) (.tup [.tup (aq (p++[i])),.str "found"])
 | node {j p i a b nm x y p1 p2 wa wb}:en t 0 j=.pair a b->Ch g (p++[i])->(nm,x,y)∈Pn g i->J6 g t a (x::p1) wa->J6 g t b (y::p2) wb->J6 g t j (p++[i]) (.tup [.tup (aq (p++[i])),.str nm,wa,wb])
def aag {g:List Sy}{i:Nat}{d:Dd} (h:d∈Pn g i):(d.1==("found":Str))=false:=by
 have k1:(("doubled":Str)==("found":Str))=false:=by decide +kernel
 have k2:(("split":Str)==("found":Str))=false:=by decide +kernel
 have k3:(("over":Str)==("found":Str))=false:=by decide +kernel
 unfold Pn at h;rcases Ay.mp h with rfl | h
 ·exact k1
 rcases Bj.mp h with h | h
 ·revert h;generalize (sy g i).un=l;intro h;unfold HY at h
  split at h
  ·simp at h;rcases h with rfl | rfl <;> exact k2
  ·cases h
 ·obtain⟨o,_,h⟩:=Ek.mp h;simp at h;rcases h with rfl | rfl <;> exact k3
def KP (t:Tr) {j:Nat} (h:j < t.size):J5 (t.nd 0) j=en t 0 j:=by unfold J5;rw [Ap,gn t 0 j h];rfl
def zk (t:Tr) {j:Nat} (h:j < t.size):tS j (en t 0 j):=by
 cases e:en t 0 j with
 | word w=>trivial
 | pair a b=>exact dQ t h e
section
variable {g:List Sy}{ws:List Str}{t:Tr}
abbrev gF (g:List Sy) (t:Tr):List (List Bool):=tab g (t.nd 0) t.size
def Wg (G:WG g ws) {j i:Nat} (hj:j < t.size) (hi:i < g.length):fa (gF g t) j i=((sy g i).un.any (fun l=>fa (gF g t) j l)||!(lD g (gF g t) (en t 0 j) i).isEmpty):=by
 have:=adC G (es:=t.nd 0) (n:=t.size) hj hi (by rw [KP t hj];exact zk t hj);rw [KP t hj] at this;exact this
def uO {m n:Nat}{e:Ent} (h:tS m e) (hm:m<=n):tS n e:=by
 cases e with
 | word w=>trivial
 | pair a b=>exact⟨AA h.1 hm,AA h.2 hm⟩
theorem vV (G:WG g ws):∀(n j:Nat),ht t j < n->j < t.size->∀(p:List Nat) (i:Nat),Ch g (p++[i])->lD g (gF g t) (en t 0 j) i≠[]->∀{Q:PV->Prop},(∀w,J6 g t j (p++[i]) w->Q w)->
  (cR n (iZ g) (.cl ((t.nd 0).map Ent.pv)) (.cl (yg (gF g t))) (.int (j:Int)) (.tup (aq (p++[i])))).run Q
 | 0,j,h,_,_,_,_,_,_,_=>by omega
 | n+1,j,h,hj,p,i,hc,hd,Q,q=>by
  have hi:=hc.last;have fw:=Ki g (t.nd 0) t.size;have ej:=gn t 0 j hj;unfold cR;simp only [W.ag,W.run_bind,oI,aF,bb,qp,W.aD,W.ai];refine W.le.use (mx G ej hi fw (uO (zk t hj) (by omega))) ?_;have ll:(lD g (gF g t) (en t 0 j) i).length<=63:=by
   cases e:en t 0 j with
   | word w=>unfold lD;simp only;split <;> simp
   | pair a b=>unfold lD;exact Bq (AZ _ _) (Wx G hi)
  refine pick_run (fun z=>hd (Ff.mp z)) (by rw [Af];omega) fun x hx=>?_;obtain⟨d,Sj,rfl⟩:=Az.mp hx;have e1:∀s:Str,of2 fF (.str s) (.str "found")=.ret (.bl (s==("found":Str))):=fun s=>by rw [zh,W.ax ⟨by simp,by simp,by simp⟩,XN]
  simp only [d3,Z4,W.ai,e1,W.ag,br];cases e:en t 0 j with
  | word w=>
   rw [e] at Sj hd;have Sj:d∈(if hm g i w=true then [(("found",i,i):Dd)] else []):=Sj;have hh:hm g i w=true:=by
    cases c:hm g i w with
    | true=>rfl
    | false=>rw [c] at Sj;cases Sj
   rw [if_pos hh] at Sj;have:=Bw.mp Sj;subst this;simp only [beq_self_eq_true,if_true,W.ai];exact q _ (.leaf e hc hh)
  | pair a b=>
   rw [e] at Sj hd;have Sj:d∈(Pn g i).filter (fun d=>fa (gF g t) a d.2.1&&fa (gF g t) b d.2.2):=Sj;obtain⟨hd1,hd2⟩:=AL.mp Sj;rw [AM] at hd2;obtain⟨l1,l2⟩:=S5 G hi hd1;obtain⟨a1,b1⟩:=dQ t hj e;obtain⟨t1,t2⟩:=Sb t 0 j a b hj e;rw [DG] at t1 t2;have ha:a < t.size:=by omega
   have hb:b < t.size:=by omega
   have j0:cy [PV.int (a:Int),PV.int (b:Int)] 0=some (.int a):=rfl;have j1:cy [PV.int (a:Int),PV.int (b:Int)] 1=some (.int b):=rfl;simp only [aag hd1,Am,if_false,bW,W.ag,W.run_bind,bb,KQ t hj,e,Ent.pv,W.aD,W.ai,aF,j0,j1];have XH:∀(k:Nat),k < t.size->∀i,i < g.length->fa (gF g t) k i=((sy g i).un.any (fun l=>fa (gF g t) k l)||!(lD g (gF g t) (en t 0 k) i).isEmpty):=fun k hk i hi=>Wg G hk hi;refine yY G (gn t 0 a ha) fw ha (uO (zk t ha) (by omega)) (XH a ha) l1 hd2.1 fun p1 m1 c1 h1 k1=>?_;refine vV G n a (by omega) ha p1 m1 c1 k1 fun wa Wa=>?_;refine yY G (gn t 0 b hb) fw hb (uO (zk t hb) (by omega)) (XH b hb) l2 hd2.2 fun p2 m2 c2 h2 k2=>?_;refine vV G n b (by omega) hb p2 m2 c2 k2 fun wb Wb=>?_;obtain⟨r1,e1⟩:∃r,p1++[m1]=d.2.1::r:=by
    cases hx:p1++[m1] with
    | nil=>rw [hx] at h1;cases h1
    | cons y r=>rw [hx] at h1;cases h1;exact⟨r,rfl⟩
   obtain⟨r2,e2⟩:∃r,p2++[m2]=d.2.2::r:=by
    cases hx:p2++[m2] with
    | nil=>rw [hx] at h2;cases h2
    | cons y r=>rw [hx] at h2;cases h2;exact⟨r,rfl⟩
   rw [e1] at Wa;rw [e2] at Wb;exact q _ (.node e hc hd1 Wa Wb)
def TL.fa (G:WG g ws) {j:Nat} (hj:j < t.size) {i k:Nat} (r:TL g i k):i < g.length->My.fa (gF g t) j k=true->My.fa (gF g t) j i=true:=by
 induction r with
 | refl i=>intro _ h;exact h
 | @step i u k hu _ ih=>
  intro hi h;have:=G.dn i hi u hu;have h1:=ih (by omega) h;rw [Wg G hj hi,EO];exact .inl (BR.mpr ⟨u,hu,h1⟩)
def Yi (G:WG g ws) (hw:∀w∈t.aG,w∈ws):∀j,j < t.size->fa (gF g t) j (g.length-1)=true/\∃i,i < g.length/\lD g (gF g t) (en t 0 j) i≠[]:=fun j=>by
 have gp:=G.pos
 induction j using EM with
 | ind j ih=>
  intro hj;cases e:en t 0 j with
  | word w=>
   obtain⟨i,hi,r,hh⟩:=G.agu w (hw w (uU t 0 j w hj e));have ne:lD g (gF g t) (.word w) i≠[]:=by
    show (if hm g i w=true then _ else _)≠[];rw [if_pos hh];simp
   refine⟨r.fa G hj (by omega) ?_,i,hi,ne⟩;rw [Wg G hj hi,e,EO];refine .inr ?_;cases c:lD g (gF g t) (.word w) i with
   | nil=>exact absurd c ne
   | cons _ _=>rfl
  | pair a b=>
   obtain⟨ha,hb⟩:=dQ t hj e;have h1:=(ih a ha (by omega)).1;have h2:=(ih b hb (by omega)).1;have mem:dbl (g.length-1)∈lD g (gF g t) (.pair a b) (g.length-1):=AL.mpr ⟨.head _,by show (My.fa _ _ _&&My.fa _ _ _)=true;rw [h1,h2];rfl⟩;have ne:lD g (gF g t) (.pair a b) (g.length-1)≠[]:=fun z=>by rw [z] at mem;cases mem
   refine⟨?_,g.length-1,by omega,ne⟩;rw [Wg G hj (by omega),e,EO];refine .inr ?_;cases c:lD g (gF g t) (.pair a b) (g.length-1) with
   | nil=>exact absurd c ne
   | cons _ _=>rfl
def whole_run (G:WG g ws) (hw:∀w∈t.aG,w∈ws) (hd:t.depth < 12) (hz:t.size<=900) {Q:PV->Prop} (q:∀i w,J6 g t (t.size-1) [i] w->Q w):(ba (iZ g) t.pv).run Q:=by
 have tp:=t.size_pos;have gl:=G.len;have nl:(t.nd 0).length=t.size:=t.bo 0;have fw:=Ki g (t.nd 0) t.size;have e1:ud eI [iZ g]=.ret (.int (g.length:Int)):=by unfold iZ;rw [cT,Af]
 have hr:t.size-1 < t.size:=by omega
 unfold ba;simp only [W.ag,W.run_bind];refine W.le.use (jX 12 t hd hz) ?_;refine W.le.use (Vx G (es:=t.nd 0) (by omega) fun j hj=>by rw [nl] at hj;rw [KP t hj];exact zk t hj) ?_;rw [nl];have el:((t.size:Int)-1)=((t.size-1:Nat):Int):=by omega
 simp only [i6,dH,W.ai,sk,el,e1,fj,W.ax (bT (i:=0) (j:=(g.length:Int)) (by omega) (by omega)),AU,nA];have ej:=gn t 0 (t.size-1) hr;unfold aq;refine Gr (fun i:Nat=>if (!(lD g (gF g t) (en t 0 (t.size-1)) i).isEmpty)=true then some (PV.int (i:Int)) else none) (fun i hi R r=>?_) ?_
 ·have hi:=AE.mp hi;simp only [W.run_bind];refine W.le.use (mx G ej hi fw (uO (zk t hr) (by omega))) ?_;rw [Em];cases c:(lD g (gF g t) (en t 0 (t.size-1)) i).isEmpty with
  | false=>simpa [c] using r
  | true=>simpa [c] using r
 ·rw [NC];obtain⟨_,i,hi,ne⟩:=Yi G hw (t.size-1) hr;refine pick_run (fun z=>?_) ?_ fun x hx=>?_
  ·have mem:i∈(Av g.length).filter fun i=>!(lD g (gF g t) (en t 0 (t.size-1)) i).isEmpty:=AL.mpr ⟨AE.mpr hi,by cases c:lD g (gF g t) (en t 0 (t.size-1)) i with | nil=>exact absurd c ne | cons _ _=>rfl⟩;rw [Ff.mp z] at mem;cases mem
  ·rw [Af];have:=AZ (fun i=>!(lD g (gF g t) (en t 0 (t.size-1)) i).isEmpty) (Av g.length);rw [Bt] at this;omega
  ·obtain⟨k,hk,rfl⟩:=Az.mp hx;obtain⟨hk1,hk2⟩:=AL.mp hk;have hk1:=AE.mp hk1;refine vV G 12 (t.size-1) (by have:=Sa t (t.size-1);omega) hr [] k hk1 (fun z=>?_) fun w h=>q k w h;rw [z] at hk2;cases hk2
end
def X4 (g:List Sy) (t:Tr) (V:Nat->PV) (P:Nat->List Nat) (j:Nat):Prop:=
 ∃q i,P j=q++[i]/\Ch g (q++[i])/\((∃w,en t 0 j=.word w/\hm g i w=true/\V j=.tup [.tup (aq (P j)),.str "found"])\/
  ∃a b nm x y r1 r2,en t 0 j=.pair a b/\(nm,x,y)∈Pn g i/\P a=x::r1/\P b=y::r2/\V j=.tup [.tup (aq (P j)),.str nm,V a,V b])
def X4.congr {g:List Sy}{t:Tr}{V V':Nat->PV}{P P':Nat->List Nat}{j:Nat} (h:X4 g t V P j) (h0:V' j=V j/\P' j=P j) (h1:∀a b,en t 0 j=.pair a b->(V' a=V a/\P' a=P a)/\V' b=V b/\P' b=P b):X4 g t V' P' j:=by
 obtain⟨q,i,e,c,h⟩:=h;refine⟨q,i,by rw [h0.2];exact e,c,?_⟩;rcases h with⟨w,e1,e2,e3⟩ | ⟨a,b,nm,x,y,r1,r2,e1,e2,e3,e4,e5⟩
 ·exact .inl ⟨w,e1,e2,by rw [h0.1,h0.2];exact e3⟩
 ·obtain⟨⟨k1,k2⟩,k3,k4⟩:=h1 a b e1;exact .inr ⟨a,b,nm,x,y,r1,r2,e1,e2,by rw [k2];exact e3,by rw [k4];exact e4,by rw [h0.1,h0.2,k1,k3];exact e5⟩
theorem zS {g:List Sy}{t:Tr}:∀(s:Tr) (o:Nat),(∀k,k < s.size->en t 0 (o+k)=en s o k)->∀p w,J6 g t (o+s.size-1) p w->∃(V:Nat->PV) (P:Nat->List Nat),V (o+s.size-1)=w/\P (o+s.size-1)=p/\∀k,o<=k->k < o+s.size->X4 g t V P k
 | .leaf x,o,hs,p,w,h=>by
  have e0:en t 0 o=.word x:=hs 0 (by show 0 < 1;decide);have ei:o+(Tr.leaf x).size-1=o:=by show o+1-1=o;omega
  rw [ei] at h ⊢;cases h with
  | leaf e c hh=>exact⟨fun _=>_,fun _=>_,rfl,rfl,fun k k1 k2=>by
    have:k=o:=by have:k < o+1:=k2;omega
    subst this;exact⟨_,_,rfl,c,.inl ⟨_,e,hh,rfl⟩⟩⟩
  | node e _ _ _ _=>rw [e0] at e;cases e
 | .node l r,o,hs,p,w,h=>by
  have es:(Tr.node l r).size=l.size+r.size+1:=rfl;have lp:=l.size_pos;have rp:=r.size_pos;have er:en t 0 (o+(l.size+r.size))=.pair (o+l.size-1) (o+l.size+r.size-1):=by rw [hs _ (by omega),en,if_neg (by omega),if_neg (by omega)]
  have ei:o+(Tr.node l r).size-1=o+(l.size+r.size):=by omega
  rw [ei] at h ⊢;have hl:∀k,k < l.size->en t 0 (o+k)=en l o k:=fun k hk=>by rw [hs k (by omega),en,if_pos hk]
  have hr:∀k,k < r.size->en t 0 (o+l.size+k)=en r (o+l.size) k:=fun k hk=>by rw [Bg,hs _ (by omega),en,if_neg (by omega),if_pos (by omega),CT]
  cases h with
  | leaf e _ _=>rw [er] at e;cases e
  | @node _ q i a b nm x y p1 p2 wa wb e c hd h1 h2=>
  rw [er] at e;injection e with ea eb;subst ea;subst eb;obtain⟨V1,P1,a1,a2,a3⟩:=zS l o hl _ _ h1;obtain⟨V2,P2,b1,b2,b3⟩:=zS r (o+l.size) hr _ _ h2
  let V:Nat->PV:=fun k=>if k < o+l.size then V1 k else if k < o+l.size+r.size then V2 k else .tup [.tup (aq (q++[i])),.str nm,wa,wb]
  let P:Nat->List Nat:=fun k=>if k < o+l.size then P1 k else if k < o+l.size+r.size then P2 k else q++[i]
  have v1:∀k,k < o+l.size->V k=V1 k/\P k=P1 k:=fun k hk=>⟨if_pos hk,if_pos hk⟩;have v2:∀k,o+l.size<=k->k < o+l.size+r.size->V k=V2 k/\P k=P2 k:=fun k h1 h2=>⟨(if_neg (by omega)).trans (if_pos h2),(if_neg (by omega)).trans (if_pos h2)⟩;have v3:V (o+(l.size+r.size))=.tup [.tup (aq (q++[i])),.str nm,wa,wb]/\P (o+(l.size+r.size))=q++[i]:=⟨(if_neg (by omega)).trans (if_neg (by omega)),(if_neg (by omega)).trans (if_neg (by omega))⟩;refine⟨V,P,v3.1,v3.2,fun k k1 k2=>?_⟩;by_cases c1:k < o+l.size
  ·refine (a3 k k1 c1).congr (v1 k c1) fun a b ek=>?_;have:=hl (k-o) (by omega);rw [show o+(k-o)=k by omega,ek] at this;obtain⟨m1,m2,m3,m4,_⟩:=mN l o (k-o) .aQ a b (by omega) this.symm;exact⟨v1 a (by omega),v1 b (by omega)⟩
  ·by_cases c2:k < o+l.size+r.size
   ·refine (b3 k (by omega) c2).congr (v2 k (by omega) c2) fun a b ek=>?_;have:=hr (k-(o+l.size)) (by omega);rw [show o+l.size+(k-(o+l.size))=k by omega,ek] at this;obtain⟨m1,m2,m3,m4,_⟩:=mN r (o+l.size) (k-(o+l.size)) .aQ a b (by omega) this.symm;exact⟨v2 a (by omega) (by omega),v2 b (by omega) (by omega)⟩
   ·have:k=o+(l.size+r.size):=by omega
    subst this;refine⟨q,i,v3.2,c,.inr ⟨_,_,nm,x,y,p1,p2,er,hd,?_,?_,?_⟩⟩
    ·rw [(v1 (o+l.size-1) (by omega)).2];exact a2
    ·rw [(v2 (o+l.size+r.size-1) (by omega) (by omega)).2];exact b2
    ·rw [v3.1,v3.2,(v1 (o+l.size-1) (by omega)).1,(v2 (o+l.size+r.size-1) (by omega) (by omega)).1,a1,b1]
def S9 (l:List PV) {a:Nat} (h:a<=l.length):pq l (some (a:Int)) none=l.drop a:=by
 unfold pq;rw [HT.QK,HT.UG,Nat.min_eq_left h,Co (by simp)]
def Uw {g:List Sy}{i:Nat} (h:i < g.length):ic (iZ g) (.int (i:Int))=.ret (.bl true):=by
 unfold ic iZ;have c1:(0:Int)<=(i:Int):=by omega
 have c2:(i:Int) < (g.length:Int):=by omega
 simp only [W.ag,Qo,i9,SQ,cT,Af,Jt,c1,c2,decide_true,zi]
theorem Iu {g:List Sy}:∀{p:List Nat},Ch g p->(cp (gV (aq p) (aq (p.drop 1))) fun M8=>W.bind (vg M8) fun tq=>W.bind (W.bind (cO (iZ g) tq.1) az) fun l=>W.bind (ur false tq.2 l) blW).le (.ret ((Al (p.length-1) true).map PV.bl))
 | [i],h=>fun Q q=>by
  have e:gV (aq [i]) (aq ([i].drop 1))=[]:=by show gV [PV.int (i:Int)] []=[];rw [gV];simp
  rw [e];exact q
 | i::k::r,h=>fun Q q=>by
  have e:gV (aq (i::k::r)) (aq ((i::k::r).drop 1))=.tup [.int (i:Int),.int (k:Int)]::gV (aq (k::r)) (aq ((k::r).drop 1)):=by show gV (_::_) (_::_)=_;rw [gV];rfl
  rw [e];show (W.bind (W.bind (vg _) _) fun y=>W.bind (cp _ _) fun m=>W.ret (y::m)).run Q;simp only [si,W.ag,vf h.1,aF,GI,h.2.1,decide_true,Am,if_false,adF,W.run_bind];exact W.le.use (Iu (p:=k::r) h.2.2) q
def Ch.ne {g:List Sy}{p:List Nat} (h:Ch g p):1<=p.length:=by
 cases p with
 | nil=>exact h.elim
 | cons a p=>simp
def M6 {g:List Sy}{ws:List Str} (G:WG g ws) {p:List Nat} (h:Ch g p):(ig (iZ g) (.tup (aq p))).le (.ret (.bl true)):=fun Q q=>by
 have hn:=h.ne;have hl:p.length<=301:=by
  cases p with
  | nil=>simp
  | cons a p=>have:=h.len G;have:=h.lt a (.head _);have:=G.len;rw [Ao];omega
 unfold ig;have c0:((p.length:Int)==0)=false:=beq_eq_false_iff_ne.mpr (by omega);simp only [W.ag,W.run_bind,hJ,NH,bB,W.ai,BD,Am,if_false,cT,cn,eR,br,c0,aF];refine yX (fun _=>.bl true) (fun k hk=>Uw (h.lt k hk)) ?_;have e1:p.map (fun _=>PV.bl true)=(p.map fun _=>true).map PV.bl:=by rw [AX];rfl
 have e2:(p.map fun _=>true).all id=true:=by simp
 rw [e1,uX,e2];have e3:pq (aq p) (some 1) none=aq (p.drop 1):=by
  have:=S9 (aq p) (a:=1) (by rw [cn];exact hn);rw [show ((1:Nat):Int)=1 from rfl] at this;rw [this];unfold aq;rw [List.map_drop]
 simp only [W.ai,bB,BD,Am,if_false,qH,so,e3,aF,W.run_bind];refine⟨a6 (by rw [cn];omega),?_⟩;show (cp _ _).run _;refine W.le.use (Iu h) ?_;rw [uX];have e4:(Al (p.length-1) true).all id=true:=by simp
 rw [e4];exact q
def Pg {g:List Sy}{ws:List Str} (G:WG g ws) {t:Tr}{V:Nat->PV}{P:Nat->List Nat}{j:Nat} (h:X4 g t V P j):(eV (iZ g) (en t 0 j).pv (V j)).le (.ret (.bl true)):=fun Q q=>by
 obtain⟨p,i,e,c,h⟩:=h;unfold eV;rcases h with⟨w,e1,e2,e3⟩ | ⟨a,b,nm,x,y,r1,r2,e1,e2,e3,e4,e5⟩
 ·have j0:cy [PV.tup (aq (P j)),.str "found"] 0=some (.tup (aq (P j))):=rfl;have j1:cy [PV.tup (aq (P j)),.str "found"] 1=some (.str "found"):=rfl;rw [e1,e3];simp only [Ent.pv,W.ag,i7,kO,bB,if_true,Ky,Ao,A2];show (PQ (.bl true) _).run Q;simp only [i9,aF,W.ag,bb,j0,j1,W.aD,W.run_bind];rw [e];refine W.le.use (M6 G c) ?_;simp only [i9,i7,kO];exact q
 ·have j0:cy [PV.tup (aq (P j)),.str nm,V a,V b] 0=some (.tup (aq (P j))):=rfl;have j1:cy [PV.tup (aq (P j)),.str nm,V a,V b] 1=some (.str nm):=rfl;rw [e1,e5];simp only [Ent.pv,W.ag,hJ,kN,bB,Am,if_false,Ky,Ao,A2];show (PQ (.bl true) _).run Q;simp only [i9,aF,W.ag,bb,j0,j1,W.aD,W.run_bind];rw [e];refine W.le.use (M6 G c) ?_;simp only [i9,i7,kO];exact q
def pb (t:Tr) (k m:Nat):Bool:=match lE t 0 k .aQ with
 | .int a=>decide ((m:Int)<=a)
 | _=>true
def HG (t:Tr) (V:Nat->PV) (m:Nat):List PV:=(Av t.size).map fun k=>if pb t k m=true then V k else .aQ
@[simp] theorem MJ (t:Tr) (V:Nat->PV) (m:Nat):(HG t V m).length=t.size:=by unfold HG;simp
def uF (t:Tr) (V:Nat->PV) (m:Nat) {k:Nat} (h:k < t.size):(HG t V m)[k]?=some (if pb t k m=true then V k else .aQ):=by unfold HG;simp [h]
def Ir {t:Tr}{k:Nat} (h:k < t.size):(k=t.size-1/\∀m,pb t k m=true)\/∃a u v,k < a/\a < t.size/\en t 0 a=.pair u v/\(u=k\/v=k)/\∀m,pb t k m=decide (m<=a):=by
 rcases jE t 0 k .aQ h with⟨h1,h2⟩ | ⟨a,u,v,h1,h2,h3,h4,h5⟩
 ·exact .inl ⟨h1,fun m=>by unfold pb;rw [h2]⟩
 ·rw [AO] at h3 h5;refine .inr ⟨a,u,v,h1,h2,h4,h5,fun m=>?_⟩;unfold pb;rw [h3];show decide ((m:Int)<=(a:Int))=decide (m<=a);rw [CK];simp
def Oa (t:Tr) (V:Nat->PV):((Av t.size).map fun _=>PV.aQ).set (t.size-1) (V (t.size-1))=HG t V t.size:=by
 have tp:=t.size_pos;apply Bd;intro k;by_cases hk:k < t.size
 ·rw [uF t V _ hk];rcases Ir hk with⟨h1,h2⟩ | ⟨a,u,v,h1,h2,h3,h4,h5⟩
  ·rw [h2,if_pos rfl,<- h1,Bc (by simp;exact hk)]
  ·rw [h5,decide_eq_false (by omega),A5 (by omega)];simp [hk]
 ·rw [Aw (by simp;omega),Aw (by simp;omega)]
def Qy {t:Tr}{V:Nat->PV}{j:Nat}{w:Str} (e:en t 0 j=.word w):HG t V (j+1)=HG t V j:=by
 unfold HG;refine Ck fun k hk=>?_;have hk:=AE.mp hk;rcases Ir hk with⟨h1,h2⟩ | ⟨a,u,v,h1,h2,h3,h4,h5⟩
 ·rw [h2,h2]
 ·have:a≠j:=fun z=>by subst z;rw [h3] at e;cases e
  rw [h5,h5];have:decide (j+1<=a)=decide (j<=a):=by rw [CK];simp;omega
  rw [this]
def Qz {t:Tr}{V:Nat->PV}{j a b:Nat} (hj:j < t.size) (e:en t 0 j=.pair a b):((HG t V (j+1)).set a (V a)).set b (V b)=HG t V j:=by
 obtain⟨h1,h2,h3,h4,h5,h6,h7⟩:=mN t 0 j .aQ a b hj e;rw [AO,DG] at *;have pk:∀k,lE t 0 k .aQ=.int ((j:Nat):Int)->pb t k j=true:=fun k hk=>by unfold pb;rw [hk];simp
 apply Bd;intro k;by_cases hk:k < t.size
 ·rw [uF t V j hk];by_cases cb:b=k
  ·subst cb;rw [Bc (by simp;exact hk),pk b h7,if_pos rfl]
  ·rw [A5 cb];by_cases ca:a=k
   ·subst ca;rw [Bc (by simp;exact hk),pk a h6,if_pos rfl]
   ·rw [A5 ca,uF t V _ hk];rcases Ir hk with⟨k1,k2⟩ | ⟨a',u,v,k1,k2,k3,k4,k5⟩
    ·rw [k2,k2]
    ·have:a'≠j:=fun z=>by
      subst z;rw [k3] at e;injection e with e1 e2;rcases k4 with rfl | rfl
      ·exact ca e1.symm
      ·exact cb e2.symm
     rw [k5,k5];have:decide (j+1<=a')=decide (j<=a'):=by rw [CK];simp;omega
     rw [this]
 ·rw [Aw (by simp;omega),Aw (by simp;omega)]
def Ux (t:Tr) (V:Nat->PV):HG t V 0=(Av t.size).map V:=by
 unfold HG;refine Ck fun k hk=>?_;rcases Ir (AE.mp hk) with⟨h1,h2⟩ | ⟨a,u,v,h1,h2,h3,h4,h5⟩
 ·rw [h2,if_pos rfl]
 ·rw [h5,decide_eq_true (A3 _),if_pos rfl]
def Uc {g:List Sy}{ws:List Str} (G:WG g ws) {t:Tr} (hz:t.size<=900) {V:Nat->PV}{P:Nat->List Nat} (h:∀k,k < t.size->X4 g t V P k):(ck (iZ g) (.tup ((t.nd 0).map Ent.pv)) (V (t.size-1))).le (.ret (.cl ((Av t.size).map V))):=fun Q q=>by
 have tp:=t.size_pos;unfold ck;simp only [W.ag,W.run_bind,aF];refine KZ (fun _=>.aQ) (fun x hx=>rfl) ?_;have e0:((t.nd 0).map Ent.pv).map (fun _=>PV.aQ)=(Av t.size).map fun _=>PV.aQ:=by rw [Dy,Dy,dH,Bt]
 have ei:qt t.size (-1)=some (t.size-1):=by
  unfold qt;rw [if_neg (by omega),if_pos (by omega)];congr 1;omega
 have es:∀v,gG ((Av t.size).map fun _=>PV.aQ) (.int (-1)) v=.ret (((Av t.size).map fun _=>PV.aQ).set (t.size-1) v):=fun v=>by
  show (match qt ((Av t.size).map fun _=>PV.aQ).length (-1) with | some j=>_ | none=>_)=_;rw [Af,Bt,ei]
 have en':(((t.size:Nat):Int)-1 - -1).toNat=t.size:=by omega
 rw [e0];simp only [oI,W.ai,es,Oa,cT,dH,sk,NF,en'];refine⟨⟨trivial,bT (by omega) (by omega)⟩,?_⟩;show (nQ _ _ _).run _;refine NA (fun i s=>i<=t.size/\s=HG t V (t.size-i)) ⟨A3 _,rfl⟩ (fun i x s hx hs=>?_) (fun s hs=>?_)
 ·obtain⟨_,rfl⟩:=hs;obtain⟨hi,rfl⟩:=sM hx;obtain⟨j,hj⟩:∃j:Nat,j=t.size-1-i:=⟨_,rfl⟩;have ej:(((t.size:Nat):Int)-1-(i:Int))=(j:Int):=by omega
  have LC:j < t.size:=by omega
  rw [ej,show t.size-i=j+1 by omega,show t.size-(i+1)=j by omega];have at1:cy (HG t V (j+1)) (j:Int)=some (V j):=cU (by
   rw [uF t V _ LC];rcases Ir LC with⟨_,h2⟩ | ⟨a,u,v,h1,h2,h3,h4,h5⟩
   ·rw [h2,if_pos rfl]
   ·rw [h5,decide_eq_true (by omega),if_pos rfl])
  simp only [bb,KQ t LC,W.aD,W.ai,at1,W.run_bind];refine W.le.use (Pg G (h j LC)) ?_;simp only [bB,W.ai,BD,Am,if_false,W.run_bind,zf,aF,qH];obtain⟨p,ii,e,c,hh⟩:=h j LC;rcases hh with⟨w,e1,e2,e3⟩ | ⟨a,b,nm,x,y,r1,r2,e1,e2,e3,e4,e5⟩
  ·have ec:pq [PV.tup (aq (P j)),.str "found"] (some 2) none=[]:=rfl;rw [e1,e3];simp only [so,ec,W.ai,aF,Qc,jT];have ez:yb [] []=.ret []:=by unfold yb;rw [W.ax (a6 (by simp))];congr 1
   rw [ez];show (_/\_:Prop);exact⟨by omega,Qy e1⟩
  ·have ec:pq [PV.tup (aq (P j)),.str nm,V a,V b] (some 2) none=[V a,V b]:=rfl;rw [e1,e5];obtain⟨ha,hb⟩:=dQ t LC e1;simp only [so,ec,W.ai,aF,Qc,jU,jT];have ez:yb [PV.int (a:Int),PV.int (b:Int)] [V a,V b]=.ret [.tup [.int (a:Int),V a],.tup [.int (b:Int),V b]]:=by
    unfold yb;rw [W.ax (a6 (by simp))];congr 1
   have s1:gG (HG t V (j+1)) (.int (a:Int)) (V a)=.ret ((HG t V (j+1)).set a (V a)):=kr (by rw [MJ];omega);have s2:gG ((HG t V (j+1)).set a (V a)) (.int (b:Int)) (V b)=.ret (((HG t V (j+1)).set a (V a)).set b (V b)):=kr (by rw [BM,MJ];omega);rw [ez];simp only [W.ai,eE,si,W.ag,s1,s2,W.run_bind];exact⟨by omega,Qz LC e1⟩
 ·obtain⟨_,rfl⟩:=hs;have el:(n8 (((t.size:Nat):Int)-1) t.size).length=t.size:=by unfold n8;simp
  rw [el,B4,Ux];exact q
def dl (g:List Sy) (i:Nat):List Dd:=dbl i::(HY (sy g i).un++((sy g i).be.map (fun o=>(("over",i,o):Dd))++(sy g i).be.map (fun o=>(("over",o,i):Dd))))
def aah {g:List Sy}{i:Nat}{d:Dd} (h:d∈Pn g i):d∈dl g i:=by
 unfold Pn at h;unfold dl;rcases Ay.mp h with rfl | h
 ·exact .head _
 refine AV _ ?_;rcases Bj.mp h with h | h
 ·exact Cg _ h
 ·obtain⟨o,ho,h⟩:=Ek.mp h;refine AR _ ?_;simp at h;rcases h with rfl | rfl
  ·exact Cg _ (Az.mpr ⟨o,ho,rfl⟩)
  ·exact AR _ (Az.mpr ⟨o,ho,rfl⟩)
def aae {g:List Sy}{ws:List Str} (G:WG g ws) {i:Nat} (h:i < g.length):(dl g i).length<=63:=by
 unfold dl;simp only [Ao,Ae,Af];have:=FO (sy g i).un;have:=G.WD i h;omega
theorem Wv (d:Dd):rZ (d2 d)=true:=rfl
def LU (d:Dd):PV.eL (d2 d)=true:=by simp [d2]
def Wf (d:Dd):PV.fZ (d2 d)<=2:=by simp [d2]
def OZ (p:Nat×Nat):PV:=.tup [.int (p.1:Int),.int (p.2:Int)]
def QB {g:List Sy}{ws:List Str} (G:WG g ws) {i:Nat} (h:i < g.length):eU (iZ g) (.int (i:Int))=.ret ((HY (sy g i).un).map fun d=>OZ (d.2.1,d.2.2)):=by
 unfold eU;simp only [W.ag,vf h];have hu:=G.vg i h;revert hu;generalize (sy g i).un=l;intro hu
 match l,hu with
 | [],_=>simp only [cT,jU,jT,Ao,A2,eR,W.ag,br];rfl
 | [a],_=>simp only [cT,jU,jT,Ao,A2,eR,W.ag,br];rfl
 | [a,b],_=>
  have i0:cy [PV.int (a:Int),PV.int (b:Int)] 0=some (.int (a:Int)):=rfl;have i1:cy [PV.int (a:Int),PV.int (b:Int)] 1=some (.int (b:Int)):=rfl;simp only [cT,jU,jT,Ao,A2,eR,W.ag,br,aF,bb,i0,i1,W.aD];rfl
def U8 {g:List Sy}{ws:List Str} (G:WG g ws) {i:Nat} (h:i < g.length):fK (iZ g) (.int (i:Int))=.ret ((sy g i).be.map (fun o=>OZ (i,o))++(sy g i).be.map (fun o=>OZ (o,i))):=by
 unfold fK;have l3:=G.WD i h;simp only [W.ag,PN h,aF];rw [uN (g:=fun o=>OZ (i,o)) fun k hk=>rfl];simp only [W.ag];rw [uN (g:=fun o=>OZ (o,i)) fun k hk=>rfl];simp only [W.ag];rw [xr (by simp;omega)]
def Pm {g:List Sy}{ws:List Str} (G:WG g ws) {i a b:Nat} (h:i < g.length) {Q:List PV->Prop} (q:∀m:List PV,m.Perm ((dl g i).map d2)->Q m):(eP (iZ g) (Ent.pair a b).pv (.int (i:Int))).run Q:=by
 have l63:=aae G h;unfold eP;simp only [Ent.pv,W.ag,W.run_bind,hJ,kN,bB,W.ai,Am,if_false,QB G h,U8 G h];refine kE (fun d:Dd=>.tup [.str "split",OZ (d.2.1,d.2.2)]) (fun d _ R r=>r) ?_;have em:(sy g i).be.map (fun o=>OZ (i,o))++(sy g i).be.map (fun o=>OZ (o,i))=((sy g i).be.map (fun o=>((i,o):Nat×Nat))++(sy g i).be.map (fun o=>(o,i))).map OZ:=by
  rw [A6,AX,AX];rfl
 rw [em];refine kE (fun p:Nat×Nat=>.tup [.str "over",OZ p]) (fun p _ R r=>r) ?_;simp only [W.ai,G4,W.ag];have es:(HY (sy g i).un).map (fun d=>PV.tup [.str "split",OZ (d.2.1,d.2.2)])=(HY (sy g i).un).map d2:=by
  refine Ck fun d hd=>?_;have:d.1=("split":Str):=by
   revert hd;generalize (sy g i).un=l;intro hd;unfold HY at hd
   split at hd
   ·simp at hd;rcases hd with rfl | rfl <;> rfl
   ·cases hd
  unfold d2 OZ;rw [this]
 have eo:((sy g i).be.map (fun o=>((i,o):Nat×Nat))++(sy g i).be.map (fun o=>(o,i))).map (fun p=>PV.tup [.str "over",OZ p])=((sy g i).be.map (fun o=>(("over",i,o):Dd))++(sy g i).be.map (fun o=>(("over",o,i):Dd))).map d2:=by
  simp only [A6,AX];rfl
 rw [es,eo];have ll:(dl g i).length=1+(HY (sy g i).un).length+((sy g i).be.map (fun o=>(("over",i,o):Dd))++(sy g i).be.map (fun o=>(("over",o,i):Dd))).length:=by
  unfold dl;simp only [Ao,Ae];omega
 rw [xr (by simp only [Af,Ao,A2];omega)];simp only [W.ai];rw [xr (by simp only [Af,Ae,Ao,A2] at *;omega)];have e:([PV.tup [.str "doubled",.tup [.int (i:Int),.int (i:Int)]]]++(HY (sy g i).un).map d2)++((sy g i).be.map (fun o=>(("over",i,o):Dd))++(sy g i).be.map (fun o=>(("over",o,i):Dd))).map d2=(dl g i).map d2:=by
  unfold dl;simp only [Au,A6,A7];rfl
 simp only [W.ai];rw [e];refine⟨⟨by rw [Af];omega,Cm.mpr fun x hx=>?_⟩,fun m hm=>q m hm⟩;obtain⟨d,_,rfl⟩:=Az.mp hx;exact Wv d
def R5 {l:List Dd}{m:List PV}{d:Dd} (hp:m.Perm (l.map d2)) (hd:d∈l):ur false (d2 d) m=.ret true:=by
 have h1:R6 (d2 d) m:=⟨LU d,mJ.mpr fun x hx=>by
  obtain⟨k,_,rfl⟩:=Az.mp (hp.mem_iff.mp hx);exact LU k,Bq (mM (n:=2) fun x hx=>by
  obtain⟨k,_,rfl⟩:=Az.mp (hp.mem_iff.mp hx);exact Wf k) (by decide)⟩
 have h2:qC (d2 d) m=true:=BR.mpr ⟨d2 d,hp.mem_iff.mpr (Az.mpr ⟨d,hd,rfl⟩),wX _ (LU d)⟩;unfold ur;rw [W.ax h1,h2];rfl
def Wt {g:List Sy}{ws:List Str} (G:WG g ws) {t:Tr}{V:Nat->PV}{P:Nat->List Nat}{j:Nat} (hj:j < t.size) (H:∀k,k < t.size->X4 g t V P k):(ip (iZ g) (en t 0 j).pv (V j)).le (.ret (.bl true)):=fun Q q=>by
 obtain⟨p,i,e,c,h⟩:=H j hj;have hi:=c.last;unfold ip mq jW;rcases h with⟨w,e1,e2,e3⟩ | ⟨a,b,nm,x,y,r1,r2,e1,e2,e3,e4,e5⟩
 ·have j0:cy [PV.tup (aq (P j)),.str "found"] 0=some (.tup (aq (P j))):=rfl;have j1:cy [PV.tup (aq (P j)),.str "found"] 1=some (.str "found"):=rfl;have ec:pq [PV.tup (aq (P j)),.str "found"] (some 2) none=[]:=rfl;have em:∀f,cp [] f=.ret []:=fun _=>rfl;rw [e1,e3];simp only [W.ag,W.run_bind,aF,bb,j0,j1,W.aD,W.ai,qH,so,ec,em,sj,oI];rw [e];simp only [qp,W.aD,W.ai];unfold eP;simp only [Ent.pv,W.ag,W.run_bind,i7,kO,bB,W.ai,if_true,VY G hi,e2];have h1:R6 (.tup [.str "found",.tup []]) [PV.tup [.str "found",.tup []]]:=⟨by simp,by simp,by simp⟩;have h2:qC (.tup [.str "found",.tup []]) [PV.tup [.str "found",.tup []]]=true:=by
   unfold qC;rw [B5,wX _ (by simp)];rfl
  refine⟨h1,?_⟩;show (blW (qC _ _)).run Q;rw [h2];exact q
 ·have j0:cy [PV.tup (aq (P j)),.str nm,V a,V b] 0=some (.tup (aq (P j))):=rfl;have j1:cy [PV.tup (aq (P j)),.str nm,V a,V b] 1=some (.str nm):=rfl;have ec:pq [PV.tup (aq (P j)),.str nm,V a,V b] (some 2) none=[V a,V b]:=rfl;obtain⟨ha,hb⟩:=dQ t hj e1;have comes:∀k z r,k < t.size->P k=z::r->cP (V k)=.ret (.int (z:Int)):=fun k z r hk hz=>by
   obtain⟨_,_,_,_,hh⟩:=H k hk;have:∃l,V k=.tup (.tup (aq (z::r))::l):=by
    rcases hh with⟨w,_,_,e3⟩ | ⟨a,b,nm,x,y,r1,r2,_,_,_,_,e5⟩
    ·exact⟨_,by rw [e3,hz]⟩
    ·exact⟨_,by rw [e5,hz]⟩
   obtain⟨l,el⟩:=this;have k0:cy (PV.tup (aq (z::r))::l) 0=some (.tup (aq (z::r))):=cU (j:=0) rfl;have k1:cy (aq (z::r)) 0=some (.int (z:Int)):=cU (j:=0) rfl;unfold cP;rw [el];simp only [W.ag,aF,bb,k0,k1,W.aD]
  have c1:=comes a x r1 (by omega) e3;have c2:=comes b y r2 (by omega) e4;have em:cp [V a,V b] (fun p5=>cP p5)=.ret [.int (x:Int),.int (y:Int)]:=by
   show W.bind (cP (V a)) (fun u=>W.bind (W.bind (cP (V b)) fun v=>W.bind (W.ret []) fun m=>W.ret (v::m)) fun m=>W.ret (u::m))=_;rw [c1,c2];rfl
  rw [e1,e5];simp only [W.ag,W.run_bind,aF,bb,j0,j1,W.aD,W.ai,qH,so,ec,em,sj,oI];rw [e];simp only [qp,W.aD,W.ai];refine Pm G hi fun m hm=>?_;have:=R5 (d:=(nm,x,y)) hm (aah e2);have e6:d2 (nm,x,y)=.tup [.str nm,.tup [.int (x:Int),.int (y:Int)]]:=rfl;rw [e6] at this;rw [this];exact q
def T8 (t:Tr) (f:Nat->PV):gV ((t.nd 0).map Ent.pv) ((Av t.size).map f)=(Av t.size).map fun j=>PV.tup [(en t 0 j).pv,f j]:=by
 refine Bd fun j=>?_;have hz:(gV ((t.nd 0).map Ent.pv) ((Av t.size).map f)).length=t.size:=by rw [ng];simp [t.bo]
 by_cases hj:j < t.size
 ·have hl:j < (gV ((t.nd 0).map Ent.pv) ((Av t.size).map f)).length:=by omega
  obtain⟨x,y,hx,hy,e⟩:=pI (Ad hl);rw [Ai,gn t 0 j hj] at hx;have zc:(en t 0 j).pv=x:=Option.some.inj hx;rw [Ai,Bs hj] at hy;have VU:f j=y:=Option.some.inj hy;rw [Ad hl,e,<- zc,<- VU,Ai,Bs hj];rfl
 ·rw [Aw (by omega),Aw (by simp;omega)]
def Ul {t:Tr} (hw:t.Ws) (hz:t.size<=900):(ib t.pv).le (.ret (.bl true)):=fun Q q=>by
 unfold ib;simp only [W.ag];exact So t hw true (.inl rfl) hz Q q
def wz {g:List Sy}{ws:List Str} (G:WG g ws) {t:Tr} (hw:t.Ws) (hz:t.size<=900) {p:List Nat}{w:PV} (h:J6 g t (t.size-1) p w):(gr (iZ g) t.pv w).le (.ret (.bl ((p.length:Int)==1))):=fun Q q=>by
 have tp:=t.size_pos;obtain⟨V,P,v1,v2,H⟩:=zS t 0 (fun k hk=>by rw [AO]) p w (by rw [AO];exact h);rw [AO] at v1 v2;have H:∀k,k < t.size->X4 g t V P k:=fun k hk=>H k (A3 _) (by omega);subst v1;subst v2;unfold gr;simp only [W.ag,W.run_bind];refine W.le.use (Ul hw hz) ?_;simp only [bB,W.ai,BD,Am,if_false,W.run_bind];refine W.le.use (qb t hz) ?_;refine W.le.use (Uc G hz H) ?_;obtain⟨l,el⟩:∃l,V (t.size-1)=.tup (.tup (aq (P (t.size-1)))::l):=by
  obtain⟨_,_,_,_,hh⟩:=H (t.size-1) (by omega);rcases hh with⟨w,_,_,e3⟩ | ⟨a,b,nm,x,y,r1,r2,_,_,_,_,e5⟩
  ·exact⟨_,e3⟩
  ·exact⟨_,e5⟩
 have k0:cy (PV.tup (aq (P (t.size-1)))::l) 0=some (.tup (aq (P (t.size-1)))):=cU (j:=0) rfl;rw [el];simp only [wZ,PV.jZ,br,W.ai,Am,if_false,aF,bb,k0,W.aD,cT,cn,SM,W.ag];cases c:((P (t.size-1)).length:Int)==1 with
 | false=>
  rw [c] at q;simpa using q
 | true=>
  rw [c] at q;simp only [BD,Am,if_false,bW,W.run_bind,W.ai];refine⟨a6 (by rw [dH];omega),?_⟩;show (cp _ _).run _;rw [T8];refine kE (fun _=>.bl true) (fun j hj R r=>?_) ?_
  ·have hj:=AE.mp hj;simp only [si,W.ag];exact Wt G hj H R r
  ·have e1:(Av t.size).map (fun _=>PV.bl true)=((Av t.size).map fun _=>true).map PV.bl:=by rw [AX];rfl
   have e2:((Av t.size).map fun _=>true).all id=true:=by simp
   rw [e1,uX,e2];exact q
def Dt.isD {t:Tr}{ds:List Int}{d:Int} (D:Dt t ds [] d) (h:d<=99):VP t ds=true:=by
 unfold VP;rw [AM,AM,decide_eq_true_iff,decide_eq_true_iff];refine⟨D.len,?_,Cm.mpr fun j hj=>?_⟩
 ·unfold MU;have hp:(splits t).Pairwise (· < ·):=by unfold splits;exact List.Pairwise.filter _ C3
  rw [List.nodup_iff_pairwise_ne,D7];refine List.Pairwise.imp_of_mem (fun {x y} hx hy lt e=>?_) hp;obtain⟨x1,x2⟩:=AL.mp hx;obtain⟨y1,y2⟩:=AL.mp hy;have:=D.inj x y (AE.mp x1) (AE.mp y1) (by simp) (by simp) x2 y2 e;omega
 ·have hj':=AE.mp hj;unfold okJ;cases e:en t 0 j with
  | word w=>
   show (ds.getD j 0==0)=true;rw [D.zero j hj' (.inl (by rw [e];rfl))];rfl
  | pair a b=>
   obtain⟨_,_,h1,h2,h3,h4⟩:=D.up j hj' (by simp) a b e;show (decide (ds.getD a 0 < ds.getD j 0)&&decide (ds.getD b 0 < ds.getD j 0)&&decide (1<=ds.getD j 0)&&decide (ds.getD j 0<=99))=true;rw [decide_eq_true h1,decide_eq_true h2,decide_eq_true h3,decide_eq_true (by omega)];rfl
theorem xq:∀(t:Tr) (o:Nat),(t.nd o).countP wA+1=t.aG.length
 | .leaf _,_=>rfl
 | .node l r,o=>by
  have h1:=xq l o;have h2:=xq r (o+l.size);rw [Tr.nd,List.countP_append,List.countP_append];show _+(List.countP wA [Ent.pair _ _])+1=(l.aG++r.aG).length;rw [Ae];simp [wA];omega
def Zj (t:Tr):t.nd 0=(Av t.size).map (en t 0):=by
 refine Bd fun j=>?_;by_cases h:j < t.size
 ·rw [gn t 0 j h,Ai,Bs h];rfl
 ·rw [Aw (by rw [t.bo];omega),Aw (by simp;omega)]
def Km (t:Tr):(splits t).length+1=t.aG.length:=by
 rw [<- xq t 0,Zj t,List.countP_map];unfold splits;rw [<- List.countP_eq_length_filter];rfl
def TL.snoc {g:List Sy}{i j u:Nat} (r:TL g i j) (hu:u∈(sy g j).un):TL g i u:=by
 induction r with
 | refl i=>exact .step hu (.refl _)
 | step h _ ih=>exact .step h (ih hu)
def gS (t:Tr):List Sy:=(Av t.size).map fun j=>⟨KN (en t 0 j) j,0,Qc (en t 0 j),apt t j⟩
def wO (t:Tr) {j:Nat} (h:j < t.size):sy (gS t) j=⟨KN (en t 0 j) j,0,Qc (en t 0 j),apt t j⟩:=by
 unfold sy gS;rw [Ap,Ai,Bs h];rfl
@[simp] theorem kL (t:Tr):(gS t).length=t.size:=by unfold gS;simp
def ads (t:Tr):iZ (gS t)=.tup (grL t):=by
 unfold iZ gS grL;rw [AX];congr 1
def Xl (e:Ent) (j:Nat):(∃s,KN e j=.str s)\/∃n,KN e j=.int n:=by
 cases e with
 | word w=>exact .inl ⟨w,rfl⟩
 | pair a b=>exact .inr ⟨_,rfl⟩
def ZQ (e:Ent):(Qc e).length<=2:=by cases e <;> simp [Qc]
theorem uP:∀(s:Tr) (t:Tr) (o:Nat) (w:Str),(∀k,k < s.size->en t 0 (o+k)=en s o k)->o+s.size<=t.size->w∈s.aG->∃i,i < t.size/\TL (gS t) (o+s.size-1) i/\en t 0 i=.word w
 | .leaf x,t,o,w,hs,hz,hw=>by
  have e0:en t 0 o=.word x:=hs 0 (by show 0 < 1;decide);have hz:o+1<=t.size:=hz;have:w=x:=by simpa [Tr.aG] using hw
  subst this;exact⟨o,by omega,.refl _,e0⟩
 | .node l r,t,o,w,hs,hz,hw=>by
  have es:(Tr.node l r).size=l.size+r.size+1:=rfl;have lp:=l.size_pos;have rp:=r.size_pos;have er:en t 0 (o+(l.size+r.size))=.pair (o+l.size-1) (o+l.size+r.size-1):=by rw [hs _ (by omega),en,if_neg (by omega),if_neg (by omega)]
  have ei:o+(Tr.node l r).size-1=o+(l.size+r.size):=by omega
  have hl:∀k,k < l.size->en t 0 (o+k)=en l o k:=fun k hk=>by rw [hs k (by omega),en,if_pos hk]
  have hr:∀k,k < r.size->en t 0 (o+l.size+k)=en r (o+l.size) k:=fun k hk=>by rw [Bg,hs _ (by omega),en,if_neg (by omega),if_pos (by omega),CT]
  have un:(sy (gS t) (o+(l.size+r.size))).un=[o+l.size-1,o+l.size+r.size-1]:=by rw [wO t (by omega),er];rfl
  rw [ei];rcases Bj.mp (show w∈l.aG++r.aG from hw) with hw | hw
  ·obtain⟨i,h1,h2,h3⟩:=uP l t o w hl (by omega) hw;exact⟨i,h1,.step (by rw [un];simp) h2,h3⟩
  ·obtain⟨i,h1,h2,h3⟩:=uP r t (o+l.size) w hr (by omega) hw;exact⟨i,h1,.step (by rw [un];simp) h2,h3⟩
def N5 {t:Tr} (hz:t.size<=30):WG (gS t) t.aG:=by
 have tp:=t.size_pos;refine⟨by rw [kL];omega,by rw [kL];omega,fun i hi u hu=>?_,fun i hi=>?_,fun i hi u hu=>?_,fun i hi=>?_,fun i hi=>?_,fun w hw=>?_⟩
 ·rw [kL] at hi;rw [wO t hi] at hu;cases e:en t 0 i with
  | word w=>rw [e] at hu;cases hu
  | pair a b=>
   rw [e] at hu;have:=dQ t hi e;have hu:u=a\/u=b:=by simpa [Qc] using hu
   omega
 ·rw [kL] at hi;rw [wO t hi];exact ZQ _
 ·rw [kL] at hi ⊢;rw [wO t hi] at hu;exact AE.mp (AL.mp hu).1
 ·rw [kL] at hi;rw [wO t hi];have:=AZ (fun k=>!decide (k∈up t 0 i [])&&!decide (i∈up t 0 k [])) (Av t.size);rw [Bt] at this;show (apt t i).length<=30;unfold apt;omega
 ·rw [kL] at hi;rw [wO t hi];exact Xl _ _
 ·obtain⟨i,h1,h2,h3⟩:=uP t t 0 w (fun k hk=>by rw [AO]) (by omega) hw;rw [AO] at h2;refine⟨i,by rw [kL];exact h1,by rw [kL];exact h2,?_⟩;unfold hm;rw [wO t h1,h3];simp [Qc,KN,OX]
def dS (t:Tr) (ds bs:List Int):List Sy:=(aO t ds bs bs.length).map fun p=>⟨KN (en t 0 p.1) p.1,p.2,(JB (en t 0 p.1) p.1 (ds.getD p.1 0) (bs.getD p.2 0)).map fun x=>(aO t ds bs bs.length).idxOf (x,p.2-1),X3 (aO t ds bs bs.length) p.1 p.2⟩
def adU (t:Tr) (ds bs:List Int):iZ (dS t ds bs)=.tup (dgL t ds bs):=by
 unfold iZ dS dgL;rw [AX];congr 1
@[simp] theorem aai (t:Tr) (ds bs:List Int):(dS t ds bs).length=(aO t ds bs bs.length).length:=by unfold dS;rw [Af]
theorem tu (t:Tr) (ds bs:List Int):∀m,(aO t ds bs m).Pairwise fun p q=>p.2<=q.2
 | 0=>.nil
 | m+1=>by
  rw [aO];have Oc:∀p∈xX t ds (bs.getD m 0) m t.size,p.2=m:=fun p hp=>by
   unfold xX at hp;obtain⟨k,_,rfl⟩:=Az.mp hp;rfl
  refine List.pairwise_append.mpr ⟨tu t ds bs m,?_,fun a ha b hb=>?_⟩
  ·exact BO.mpr fun i j hi hj _=>by rw [Oc _ (En hi),Oc _ (En hj)];exact An _
  ·have h1:=(iz ha).1;rw [Oc b hb];omega
theorem y6 (t:Tr) (ds bs:List Int) (n:Nat):∀m,((aO t ds bs m).filter fun p=>decide (p.2=n)).length<=t.size
 | 0=>A3 _
 | m+1=>by
  rw [aO,List.filter_append,Ae];have ih:=y6 t ds bs n m;by_cases c:n=m
  ·subst c;have z:(aO t ds bs n).filter (fun p=>decide (p.2=n))=[]:=by
    rw [EC];intro p hp;have:=(iz hp).1;simp;omega
   rw [z];have h1:=AZ (fun p:Nat×Nat=>decide (p.2=n)) (xX t ds (bs.getD n 0) n t.size);have h2:=FN t ds (bs.getD n 0) n t.size;simp only [A2];omega
  ·have z:(xX t ds (bs.getD m 0) m t.size).filter (fun p=>decide (p.2=n))=[]:=by
    rw [EC];intro p hp;unfold xX at hp;obtain⟨k,_,rfl⟩:=Az.mp hp;simp;omega
   rw [z];simpa using ih
section
variable {t:Tr}{ds:List Int}
def DD.above (D:DD t ds) {j n:Nat} (h:(j,n)∈aO t ds (aV t ds) (aV t ds).length) (hn:n+1 < (aV t ds).length):∃a,(a,n+1)∈aO t ds (aV t ds) (aV t ds).length/\j∈JB (en t 0 a) a (ds.getD a 0) ((aV t ds).getD (n+1) 0):=by
 obtain⟨hnl,hj,hs⟩:=cz.mp h;obtain⟨s1,s2⟩:=(gX hj).mp hs;have inc:=D.inc;have lt:=GH inc hn (show n < n+1 by omega);have stays:(∀a,lE t 0 j .aQ=.int ((a:Nat):Int)->(aV t ds).getD (n+1) 0 < ds.getD a 0)->∃a,(a,n+1)∈aO t ds (aV t ds) (aV t ds).length/\j∈JB (en t 0 a) a (ds.getD a 0) ((aV t ds).getD (n+1) 0):=fun hx=>
  ⟨j,cz.mpr ⟨hn,hj,(gX hj).mpr ⟨by omega,hx⟩⟩,by unfold JB;rw [if_pos (by omega)];exact .head _⟩
 rcases jE t 0 j .aQ hj with⟨_,e⟩ | ⟨a,u,v,ja,ha,e,ep,XA⟩
 ·exact stays fun a z=>by rw [e] at z;cases z
 ·rw [AO] at e XA;by_cases c:(aV t ds).getD (n+1) 0 < ds.getD a 0
  ·refine stays fun a' z=>?_;rw [e] at z;injection z with z;have:a=a':=by omega
   subst this;exact c
  ·have sa:=s2 a e;have eq:ds.getD a 0=(aV t ds).getD (n+1) 0:=by
    rcases Int.lt_or_eq_of_le (show ds.getD a 0<=(aV t ds).getD (n+1) 0 by omega) with c2 | c2
    ·have:=(wD inc hn (D.mem ha) c2).2;rw [Nat.add_sub_cancel] at this;omega
    ·exact c2
   refine⟨a,cz.mpr ⟨hn,ha,(gX ha).mpr ⟨by omega,fun a2 e2=>?_⟩⟩,?_⟩
   ·rcases jE t 0 a .aQ ha with⟨_,e3⟩ | ⟨a3,u3,v3,_,h3,e3,ep3,acW⟩
    ·rw [e3] at e2;cases e2
    ·rw [e3] at e2;injection e2 with e2;rw [AO] at e2 acW;have:a3=a2:=by omega
     subst this;have:=D.pair a3 u3 v3 h3 ep3;rcases acW with rfl | rfl <;> omega
   ·unfold JB;rw [if_neg (by omega),ep];rcases XA with rfl | rfl <;> simp
def DD.last (D:DD t ds) {j n:Nat} (h:(j,n)∈aO t ds (aV t ds) (aV t ds).length) (hn:n+1=(aV t ds).length):j=t.size-1:=by
 obtain⟨hnl,hj,hs⟩:=cz.mp h;obtain⟨s1,s2⟩:=(gX hj).mp hs;rcases jE t 0 j .aQ hj with⟨e,_⟩ | ⟨a,u,v,ja,ha,e,ep,XA⟩
 ·exact e
 ·exfalso;rw [AO] at e;have sa:=s2 a e;have inc:=D.inc;obtain⟨i,hi,ei⟩:=DA (D.mem ha);have gd:(aV t ds).getD i 0=ds.getD a 0:=by rw [Ap,Ad hi];exact ei
  rcases C1 i n with c | c
  ·have:=GH inc hnl c;omega
  ·have:i=n:=by omega
   subst this;omega
def LA {α:Type} [BEq α] [LawfulBEq α] {l:List α} (nd:l.Nodup) {i:Nat}{x:α} (h:l[i]?=some x):l.idxOf x=i:=by
 obtain⟨hi,e⟩:=Ak.mp h;rw [<- e];exact nd.idxOf_getElem i hi
def Mc {α:Type} [BEq α] [LawfulBEq α] {l:List α}{x:α} (h:x∈l):l[l.idxOf x]?=some x:=by
 have:=BI h;rw [Ad this,List.getElem_idxOf this]
def Qp (D:DD t ds) (hz:t.size<=15) (hb:(aV t ds).length<=16):WG (dS t ds (aV t ds)) t.aG:=by
 have tp:=t.size_pos;have nd:=kn t ds (aV t ds) (aV t ds).length;have rise:=tu t ds (aV t ds) (aV t ds).length;have lay:=fun n=>y6 t ds (aV t ds) n (aV t ds).length;have ok:=D.ok;have ne:=D.ne;have ll:=ko t ds (aV t ds) (aV t ds).length;have above:=fun j n=>D.above (j:=j) (n:=n);have last:=fun j n=>D.last (j:=j) (n:=n);have iff:=@cz t ds (aV t ds) (aV t ds).length;unfold okD at ok;have hS:∀i p,(aO t ds (aV t ds) (aV t ds).length)[i]?=some p->sy (dS t ds (aV t ds)) i=⟨KN (en t 0 p.1) p.1,p.2,(JB (en t 0 p.1) p.1 (ds.getD p.1 0) ((aV t ds).getD p.2 0)).map fun x=>(aO t ds (aV t ds) (aV t ds).length).idxOf (x,p.2-1),X3 (aO t ds (aV t ds) (aV t ds).length) p.1 p.2⟩:=fun i p hp=>by
  unfold sy dS;rw [Ap,Ai,hp];rfl
 have hL:(dS t ds (aV t ds)).length=(aO t ds (aV t ds) (aV t ds).length).length:=aai t ds _;have hmul:(aV t ds).length*t.size<=16*15:=Nat.mul_le_mul hb hz;generalize aO t ds (aV t ds) (aV t ds).length=L at *;have get:∀i,i < (dS t ds (aV t ds)).length->∃p,L[i]?=some p/\p∈L:=fun i hi=>by
  rw [hL] at hi;exact⟨L[i],Ad hi,En hi⟩
 have pos:0 < L.length:=Fg.mpr ne;have low:∀(i a:Nat) (p r:Nat×Nat),L[i]?=some p->L[a]?=some r->r.2 < p.2->a < i:=fun i a p r h1 h2 lt=>by
  rcases C1 a i with c | c
  ·exact c
  ·exfalso;obtain⟨g1,e1⟩:=Ak.mp h1;obtain⟨g2,e2⟩:=Ak.mp h2;rcases DU c with c | c
   ·subst c;rw [h1] at h2;cases h2;omega
   ·have:=BO.mp rise i a g1 g2 c;rw [e1,e2] at this;omega
 refine⟨by rw [hL];exact pos,by rw [hL];omega,fun i hi u hu=>?_,fun i hi=>?_,fun i hi u hu=>?_,fun i hi=>?_,fun i hi=>?_,fun w hw=>?_⟩
 ·obtain⟨p,hp,hm⟩:=get i hi;rw [hS i p hp] at hu;obtain⟨x,hx,rfl⟩:=Az.mp hu;obtain⟨n1,xm⟩:=ok p hm x hx;exact low i _ p (x,p.2-1) hp (Mc xm) (by show p.2-1 < p.2;omega)
 ·obtain⟨p,hp,hm⟩:=get i hi;rw [hS i p hp];show (E7 _ _).length<=2;rw [Af];unfold JB
  split
  ·simp
  ·cases en t 0 p.1 <;> simp
 ·obtain⟨p,hp,hm⟩:=get i hi;rw [hS i p hp] at hu;unfold X3 at hu;obtain⟨x,hx,rfl⟩:=Az.mp hu;rw [hL];exact BI (AL.mp hx).1
 ·obtain⟨p,hp,hm⟩:=get i hi;rw [hS i p hp];show (X3 L p.1 p.2).length<=30;unfold X3;rw [Af];have h1:=lay p.2;have h2:(L.filter fun q=>decide (q.2=p.2)&&!decide (q.1=p.1)).length<=(L.filter fun q=>decide (q.2=p.2)).length:=by
   have e:L.filter (fun q=>decide (q.2=p.2)&&!decide (q.1=p.1))=(L.filter fun q=>decide (q.2=p.2)).filter fun q=>!decide (q.1=p.1):=by
    rw [List.filter_filter];refine congrArg (fun f=>L.filter f) (funext fun q=>Bool.and_comm _ _)
   rw [e];exact AZ _ _
  omega
 ·obtain⟨p,hp,hm⟩:=get i hi;rw [hS i p hp];exact Xl _ _
 ·
  have reach:∀k i,i+k+1=L.length->TL (dS t ds (aV t ds)) (L.length-1) i:=fun k=>by
   induction k using EM with
   | ind k ih=>
    intro i hk;obtain⟨⟨j,n⟩,hp,hm⟩:=get i (by rw [hL];omega);have nl:=(iff.mp hm).1;by_cases c:n+1 < (aV t ds).length
    ·obtain⟨a,ha,hb⟩:=above j n hm c;have ia:=Mc ha;have lt:=low _ i (a,n+1) (j,n) ia hp (by show n < n+1;omega);have il:=BI ha;have r:=ih (L.length-L.idxOf (a,n+1)-1) (by omega) (L.idxOf (a,n+1)) (by omega);refine r.snoc ?_;rw [hS _ _ ia];refine Az.mpr ⟨j,hb,?_⟩;show L.idxOf (j,n+1-1)=i;rw [Nat.add_sub_cancel];exact LA nd hp
    ·have hj:=last j n hm (by omega);have:i=L.length-1:=by
      obtain⟨⟨j2,n2⟩,GK,hm2⟩:=get (L.length-1) (by rw [hL];omega);have n2l:=(iff.mp hm2).1;rcases C1 n2 n with c2 | c2
      ·have:=low i (L.length-1) _ _ hp GK c2;omega
      ·have en2:n2=n:=by omega
       have Sg:=last j2 n2 hm2 (by omega);subst en2;rw [Sg,<- hj] at GK;exact (LA nd hp).symm.trans (LA nd GK)
     rw [this];exact .refl _
  obtain⟨j,hj,_,ej⟩:=uP t t 0 w (fun k hk=>by rw [AO]) (by omega) hw;have b0:(aV t ds).getD 0 0=0:=rfl;have mem:(j,0)∈L:=iff.mpr ⟨by simp [aV],hj,(gX hj).mpr ⟨by rw [D.leaf j w hj ej,b0];exact Dm _,fun a ea=>by
   rcases jE t 0 j .aQ hj with⟨_,e⟩ | ⟨a',u,v,_,ha,e,ep,_⟩
   ·rw [e] at ea;cases ea
   ·rw [e,AO] at ea;injection ea with ea;have:a'=a:=by omega
    subst this;have:=(D.pair a' u v ha ep).2.2;rw [b0];omega⟩⟩
  have il:=BI mem;refine⟨L.idxOf (j,0),by rw [hL];exact il,by rw [hL];exact reach (L.length-L.idxOf (j,0)-1) _ (by omega),?_⟩;unfold hm;rw [hS _ _ (Mc mem)];show ((E7 _ (JB (en t 0 j) j _ _)).isEmpty&&OX w (KN (en t 0 j) j))=true;unfold JB;rw [b0,D.leaf j w hj ej,if_neg (by omega),ej];simp [KN,OX]
end
def LH {Q:PV->Prop} (q:∀t:Tr,tR t->Q t.pv):dA.run Q:=O5 q
def WM {t:Tr} (g:tR t) {Q:PV->Prop} (q:∀s,WG s t.aG->Q (iZ s)):(bJ t.pv).run Q:=by
 have hz:=g.size;have hdp:=g.depth;unfold bJ;simp only [W.ag,W.run_bind,cS 2 (by decide) (by decide)];refine bw fun d _ _=>?_;simp only [eR,br,W.ai];cases c:d==0 with
 | true=>
  simp only [if_true];refine O4 t (by omega) Q ?_;rw [<- ads];exact q _ (N5 (by omega))
 | false=>
  simp only [Am,if_false,W.run_bind];refine W.le.use (jX 12 t (by omega) (by omega)) ?_;simp only [W.ai];refine Po t (by omega) fun ds d D aki=>?_;have VW:(splits t).length<=7:=by have:=Km t;have:=g.few;omega
  have DDt:=DD.of (D.isD (by omega));have hb:(aV t ds).length<=16:=by unfold aV;rw [Ao,rm];have:=MR t ds;omega
  refine S6 DDt (by omega) Q ?_;rw [<- adU];exact q _ (Qp DDt hz hb)
theorem II {f:PV->W PV}{S:PV->Prop}:∀{l:List PV},(∀x∈l,∀R:PV->Prop,(∀v,S v->R v)->(f x).run R)->∀{Q:List PV->Prop},(∀m,m.length=l.length->(∀v∈m,S v)->Q m)->(cp l f).run Q
 | [],_,Q,q=>q [] rfl (fun _ h=>nomatch h)
 | x::l,h,Q,q=>by
  show (W.bind (f x) fun y=>W.bind (cp l f) fun m=>W.ret (y::m)).run Q;simp only [W.run_bind];refine h x (.head _) _ fun v hv=>?_;refine II (fun y hy=>h y (.tail _ hy)) fun m hm hs=>?_;exact q (v::m) (by simp [hm]) fun u hu=>by
   rcases Ay.mp hu with rfl | hu
   ·exact hv
   ·exact hs u hu
theorem MF:∀{m:List PV}{ls:List Str},(∀v∈m,∃w∈ls,v=PV.str w)->∃ws:List Str,m=ws.map PV.str/\∀w∈ws,w∈ls
 | [],_,_=>⟨[],rfl,fun _ h=>nomatch h⟩
 | v::m,ls,h=>by
  obtain⟨w,hw,rfl⟩:=h v (.head _);obtain⟨ws,rfl,h2⟩:=MF (m:=m) (ls:=ls) fun u hu=>h u (.tail _ hu);exact⟨w::ws,rfl,fun x hx=>by
   rcases Ay.mp hx with rfl | hx
   ·exact hw
   ·exact h2 x hx⟩
def Oe {t:Tr} (g:tR t) {Q:PV->Prop} (q:∀s:Tr,(∀w∈s.aG,w∈t.aG)->s.aG.length<=10->Q s.pv):(dM t.pv).run Q:=by
 have hz:=g.size;have hdp:=g.depth;unfold dM;simp only [W.ag,W.run_bind];refine W.le.use (jX 12 t (by omega) (by omega)) ?_
 let f:PV->Option PV:=fun x=>match x with | .str w=>some (.str w) | _=>none
 have el:(t.nd 0).map Ent.pv=(Av t.size).map fun j=>(en t 0 j).pv:=by
  apply Bd;intro i;by_cases hi:i < t.size
  ·rw [Ai,gn t 0 i hi,Ai,Bs hi];rfl
  ·rw [Aw (by rw [dH];omega),Aw (by simp;omega)]
 rw [el];refine Gr (fun j=>match en t 0 j with | .word w=>some (PV.str w) | .pair _ _=>none) (fun j hj R r=>?_) ?_
 ·cases e:en t 0 j with
  | word w=>rw [e] at r;simpa [Ent.pv] using r
  | pair a b=>rw [e] at r;simpa [Ent.pv] using r
 generalize hL:(Av t.size).filterMap (fun j=>match en t 0 j with | .word w=>some (PV.str w) | .pair _ _=>none)=L;have Lm:∀v∈L,∃w∈t.aG,v=PV.str w:=fun v hv=>by
  rw [<- hL] at hv;obtain⟨j,hj,e⟩:=CP.mp hv;have hj:=AE.mp hj;cases e2:en t 0 j with
  | word w=>
   rw [e2] at e;exact⟨w,uU t 0 j w hj e2,(Option.some.inj e).symm⟩
  | pair a b=>rw [e2] at e;cases e
 have Ll:L.length<=1000:=by
  rw [<- hL];have:=List.length_filterMap_le (fun j=>match en t 0 j with | .word w=>some (PV.str w) | .pair _ _=>none) (Av t.size);rw [Bt] at this;omega
 have Ln:L≠[]:=fun z=>by
  obtain⟨w,e⟩:=G8 t 0;have:PV.str w∈L:=by
   rw [<- hL];exact CP.mpr ⟨0,AE.mpr t.size_pos,by rw [e]⟩
  rw [z] at this;cases this
 simp only [cS 8 (by decide) (by decide)];refine bw fun d d0 d1=>?_;obtain⟨n,hn,n0,n1⟩:∃n:Int,cy [PV.int 6,PV.int 10] (if (d==0)=true then 1 else 0)=some (.int n)/\0 < n/\n<=10:=by
  by_cases h:d=0
  ·subst h;exact⟨10,rfl,by decide,by decide⟩
  ·have e:(d==0)=false:=by simpa using h
   rw [e];exact⟨6,rfl,by decide,by decide⟩
 simp only [eR,W.ai,qI,bb,hn,W.aD,cS n n0 (by omega)];refine bw fun k k0 k1=>?_;obtain⟨m,hm⟩:∃m:Nat,1+k=(m:Int):=⟨(1+k).toNat,by omega⟩;simp only [hU,W.ai,hm,fj,W.ax (bT (i:=0) (j:=(m:Int)) (by omega) (by omega)),AU];refine II (S:=fun v=>∃w∈t.aG,v=PV.str w) (fun x _ R r=>pick_run Ln Ll fun v hv=>r v (Lm v hv)) fun ms hl hs=>?_;obtain⟨ws,rfl,hw⟩:=MF hs;rw [j3,Af] at hl;refine HS (fun z=>by rw [z] at hl;simp at hl;omega) (by omega) fun s hp=>q s (fun w h=>hw w (hp.mem_iff.mp h)) (by rw [hp.length_eq];omega)
def vc {g:List Sy}{t:Tr}{j:Nat}{p:List Nat}{w:PV} (h:J6 g t j p w):∃rest,w=.tup (.tup (aq p)::rest)/\(1<=rest.length/\rest.length<=3)/\∀a i r,p=i::r->a < g.length->i∈(sy g a).un->J6 g t j (a::p) (.tup (.tup (aq (a::p))::rest)):=by
 cases h with
 | @leaf _ q i w e c hh=>
  refine⟨[.str "found"],rfl,by simp,fun a k r hp ha hk=>?_⟩;have c2:Ch g ((a::q)++[i]):=by
   show Ch g (a::(q++[i]));rw [hp] at c ⊢;exact c.cons ha hk
  exact J6.leaf (p:=a::q) e c2 hh
 | @node _ q i x y nm u v p1 p2 wa wb e c hd h1 h2=>
  refine⟨[.str nm,wa,wb],rfl,by simp,fun a k r hp ha hk=>?_⟩;have c2:Ch g ((a::q)++[i]):=by
   show Ch g (a::(q++[i]));rw [hp] at c ⊢;exact c.cons ha hk
  exact J6.node (p:=a::q) e c2 hd h1 h2
def K4 {g:List Sy}{ws:List Str} (G:WG g ws) {t:Tr}{i:Nat}{w:PV} (h:J6 g t (t.size-1) [i] w) {Q:PV->Prop} (q0:Q .aQ) (q:∀a w',J6 g t (t.size-1) [a,i] w'->Q w'):(c9 (iZ g) w).run Q:=by
 obtain⟨rest,rfl,hl,lg⟩:=vc h;have gl:=G.len;have e1:ud eI [iZ g]=.ret (.int (g.length:Int)):=by unfold iZ;rw [cT,Af]
 have k0:cy (PV.tup (aq [i])::rest) 0=some (.tup (aq [i])):=cU (j:=0) rfl;have k1:cy (aq [i]) 0=some (.int (i:Int)):=cU (j:=0) rfl;unfold c9;simp only [W.ag,W.run_bind,e1,W.ai,fj,W.ax (bT (i:=0) (j:=(g.length:Int)) (by omega) (by omega)),AU,nA];refine qi (fun a=>decide (i∈(sy g a).un)) (fun a ha=>?_) ?_
 ·have ha:=AE.mp ha;simp only [aF,W.ag,bb,k0,k1,W.aD,iZ,ZY ha,Sy.pv,Kk,GI,Am,if_false];cases decide (i∈(sy g a).un) <;> simp
 ·have am:∀a∈(Av g.length).filter (fun a=>decide (i∈(sy g a).un)),a < g.length/\i∈(sy g a).un:=fun a h=>by
   obtain⟨h1,h2⟩:=AL.mp h;exact⟨AE.mp h1,by simpa using h2⟩
  generalize (Av g.length).filter (fun a=>decide (i∈(sy g a).un))=A at am;simp only [G4,W.ai];cases A with
  | nil=>exact q0
  | cons a A=>
   obtain⟨h1,h2⟩:=am a (.head _);have a0:cy (aq (a::A)) 0=some (.int (a:Int)):=cU (j:=0) rfl;have ec:pq (PV.tup (aq [i])::rest) (some 1) none=rest:=by
    have:=S9 (PV.tup (aq [i])::rest) (a:=1) (by simp);rw [show ((1:Nat):Int)=1 from rfl] at this;rw [this];rfl
   have ee:(aq (a::A)).isEmpty=false:=rfl;simp only [ee,Am,if_false,bW,aF,bb,a0,k0,W.aD,W.ag,W.run_bind,W.ai,NJ,W.ax (show [PV.int (a:Int)].length+(aq [i]).length<=sizeLine from a6 (by simp)),qH,so,ec];refine⟨a6 (by simp;omega),?_⟩;exact q a _ (lg a i [] rfl h1 h2)
def RK:∀ns:List Int,ns.length<=63->(kF (.cl (ns.map PV.int))).run (·=.bl true):=fun ns hn=>by
 unfold kF;simp only [W.ag,W.run_bind,i6,Af,Z6,Z7,W.ai];obtain⟨k,hk,k1⟩:∃k:Nat,(if (if (6:Int) < (ns.length:Int) then (6:Int) else (ns.length:Int)) > 1 then (if (6:Int) < (ns.length:Int) then (6:Int) else (ns.length:Int)) else 1)=(k:Int)/\k<=6:=by
  refine⟨(if (if (6:Int) < (ns.length:Int) then (6:Int) else (ns.length:Int)) > 1 then (if (6:Int) < (ns.length:Int) then (6:Int) else (ns.length:Int)) else 1).toNat,?_,?_⟩ <;> split <;> split <;> omega
 rw [hk];simp only [fj,W.ax (bT (i:=0) (j:=(k:Int)) (by omega) (by omega)),W.ai,AU];refine Jp (fun _ _=>True) trivial (fun i _ hi _=>?_) (fun _ _=>rfl);simp only [W.run_bind];refine UW (by omega) fun l hl=>⟨hl,?_⟩;unfold fg;simp only [W.run_bind,W.ag];refine LH fun t g=>?_;refine WM g fun s G=>?_;refine Oe g fun u hu hul=>?_;have hz:u.size<=900:=by have:=u.size_eq;omega
 have hd:u.depth < 12:=by have:=u.qM;omega
 have uw:u.Ws:=fun w hw=>g.ws w (hu w hw);refine whole_run G hu hd hz fun i0 w0 W0=>?_;simp only [W.ai,SG,fj,W.ax (bT (i:=0) (j:=(3:Int)) (by omega) (by omega))];refine Jp (n:=3) (fun _ s'=>∃i,J6 s u (u.size-1) [i] s') ⟨i0,W0⟩ (fun j w hj hs=>?_) (fun _ _=>trivial);obtain⟨i,Wi⟩:=hs;simp only [W.ag,W.run_bind];refine W.le.use (wz G uw hz Wi) ?_;have e1:((([i]:List Nat).length:Int)==1)=true:=rfl;simp only [e1,su,beq_self_eq_true,BD,br,W.ai,Am,if_false,W.run_bind];refine W.le.use (wz G uw hz Wi) ?_;simp only [e1,su,beq_self_eq_true,BD,br,W.ai,Am,if_false,W.run_bind];have fin:(ba (iZ s) u.pv).run fun a=>∃i,J6 s u (u.size-1) [i] a:=whole_run G hu hd hz fun i w h=>⟨i,h⟩;refine K4 G Wi ?_ fun a w' W'=>?_
 ·simp only [NG,PV.jZ,BD,br,W.ai,Am,if_false,W.run_bind];exact fin
 ·obtain⟨rest,rfl,_,_⟩:=vc W';simp only [NG,PV.jZ,E8,br,W.ai,if_true,W.run_bind];refine W.le.use (wz G uw hz W') ?_;have e2:((([a,i]:List Nat).length:Int)==1)=false:=rfl;simp only [e2,su,beq_self_eq_true,BD,br,W.ai,Am,if_false,W.run_bind];exact fin
section
def top (i:Nat):Stmt:=PySem.Challenge.pw_treewithin_k16_ways_that_are_ways.main.body.getD i (.Pass ⟨0,0,0,0⟩)
def H9:ar ["thing"] ["thing"] (aj (top 1)):=gM
def Oj:ar ["thing","many"] ["thing","many"] (aj (top 2)):=gM
abbrev zA:List Str:=["thing"]
def Kr:ar zA ["thing"] (aj (top 6)):=gM
abbrev yp:Scope:=qf [("sign",lo),("LETTERS",gi)]
def qj:aE (aj (top 6)) zA yp ["sign"] [none]:=lcs
def iV:ar ["thing","is_leaf","often","seen","waiting","part"] ["thing","is_leaf","often"] (aj (top 7)):=gM
def Ks:ar ["thing"] ["thing"] (aj (top 8)):=gM
def iU:ar ["tree","backward","waiting","part"] ["tree"] (aj (top 9)):=gM
def jL:ar ["tree","told","loose","part","other","one"] ["tree"] (aj (top 10)):=gM
def Om:ar ["node"] ["node"] (aj (top 11)):=gM
abbrev xG:List Str:=["tree","told","node","ahead","number","half"]
def eS:ar xG ["tree"] (aj (top 12)):=gM
abbrev v9:Scope:=qf [("node",lo)]
def nZ:aE (aj (top 12)) xG v9 ["node"] [none]:=lcs
def H0:ar ["stays","stay"] ["stays","stay"] (aj (top 17)):=gM
def FR:ar ["stays","stay"] ["stays","stay"] (aj (top 18)):=gM
def Kv:ar ["stays","stay","word"] ["stays","stay","word"] (aj (top 19)):=gM
def Kq:ar ["houses","house"] ["houses","house"] (aj (top 20)):=gM
abbrev xF:List Str:=["great","ahead","house","lines","above"]
def gh:ar xF ["great"] (aj (top 21)):=gM
abbrev vY:Scope:=qf [("house",lo)]
def nW:aE (aj (top 21)) xF vY ["house"] [none]:=lcs
abbrev qU:List Str:=["lines","house"]
def yj:ar qU ["lines","house"] (aj (top 22)):=gM
abbrev rL:Scope:=qf [("far",lo),("house",fr),("lines",fr)]
def lJ:aE (aj (top 22)) qU rL ["far","house","lines"] [none,some 1,some 0]:=lcs
abbrev JR:List Str:=["great","houses","lines"]
def rA:ar JR ["great"] (aj (top 23)):=gM
abbrev Gm:Scope:=qf [("house",lo),("name_of",gi),("halves",gi),("apart_from",gi),("houses",fr),("lines",fr)]
def tG:aE (aj (top 23)) JR Gm ["house","houses","lines"] [none,some 1,some 2]:=lcs
def Ia:ar ["way"] ["way"] (aj (top 29)):=gM
def Kx:ar ["way"] ["way"] (aj (top 30)):=gM
abbrev JQ:List Str:=["way"]
def Ol:ar JQ ["way"] (aj (top 31)):=gM
abbrev Gk:Scope:=qf [("half",lo),("comes_in",gi)]
def tF:aE (aj (top 31)) JQ Gk ["half"] [none]:=lcs
def pU:ar ["ground","stay","under"] ["ground","stay"] (aj (top 32)):=gM
abbrev pE:List Str:=["ground","stay","beside"]
def tw:ar pE ["ground","stay"] (aj (top 33)):=gM
abbrev vX:Scope:=qf [("far",lo),("stay",fr)]
abbrev vW:Scope:=qf [("far",lo),("stay",fr)]
def nV:aE (aj (top 33)) pE vX ["far","stay"] [none,some 1]:=lcs
def nU:aE (aj (top 33)) pE vW ["far","stay"] [none,some 1]:=lcs
abbrev pF:List Str:=["ground","node","stay","split","over"]
def md:ar pF ["ground","node","stay"] (aj (top 34)):=gM
abbrev v8:Scope:=qf [("ins",lo),("SPLIT",gi)]
abbrev vZ:Scope:=qf [("ins",lo),("OVER",gi)]
def nY:aE (aj (top 34)) pF v8 ["ins"] [none]:=lcs
def nX:aE (aj (top 34)) pF vZ ["ins"] [none]:=lcs
def Kt:ar ["ground","thing"] ["ground","thing"] (aj (top 35)):=gM
abbrev sZ:List Str:=["ground","thing"]
def Ku:ar sZ ["ground","thing"] (aj (top 36)):=gM
abbrev yr:Scope:=qf [("stay",lo),("is_stay",gi),("ground",fr)]
abbrev yq:Scope:=qf [("stay",lo),("below",lo),("under_at",gi),("ground",fr)]
def qk:aE (aj (top 36)) sZ yr ["stay","ground"] [none,some 0]:=lcs
def kI:aE (aj (top 36)) sZ yq ["stay","below","ground"] [none,none,some 0]:=lcs
def pV:ar ["ground","node","thing","many"] ["ground","node","thing"] (aj (top 37)):=gM
abbrev lO:List Str:=["ground","told","thing","node","ways","number","way","half","part"]
def bu:ar lO ["ground","told","thing"] (aj (top 38)):=gM
abbrev nM:Scope:=qf [("node",lo)]
def iH:aE (aj (top 38)) lO nM ["node"] [none]:=lcs
def Kw:ar ["ground","node","way"] ["ground","node","way"] (aj (top 39)):=gM
abbrev JP:List Str:=["ground","small","thing","told","ways"]
def rz:ar JP ["ground","small","thing"] (aj (top 40)):=gM
abbrev Gj:Scope:=qf [("node",lo),("way",lo),("is_done",gi),("ground",fr)]
def my:aE (aj (top 40)) JP Gj ["node","way","ground"] [none,none,some 0]:=lcs
abbrev oh:List Str:=["houses","dates"]
def vC:ar oh ["houses","dates"] (aj (top 42)):=gM
abbrev qd:Scope:=qf [("house",lo),("date",lo),("isinstance",gi),("str",gi)]
def fV:aE (aj (top 42)) oh qd ["house","date"] [none,none]:=lcs
def dr:ar ["great","dates","begins","ahead","pairs","number","begin","house","date"] ["great","dates","begins"] (aj (top 43)):=gM
abbrev sY:List Str:=["houses","dates","begins","numbers","pair","house","layer","goes_on","below","under","beside"]
def eN:ar sY ["houses","dates","begins","numbers","pair"] (aj (top 44)):=gM
abbrev yo:Scope:=qf [("each",lo),("layer",fr),("numbers",fr)]
abbrev yn:Scope:=qf [("far",lo),("house",fr),("layer",fr),("numbers",fr)]
def qh:aE (aj (top 44)) sY yo ["each","layer","numbers"] [none,some 6,some 3]:=lcs
def qg:aE (aj (top 44)) sY yn ["far","house","layer","numbers"] [none,some 5,some 6,some 3]:=lcs
abbrev HE:List Str:=["great","dates","houses","begins","pairs","numbers"]
def me:ar HE ["great","dates"] (aj (top 45)):=gM
abbrev IK:Scope:=qf [("number",lo),("pair",lo)]
abbrev IJ:Scope:=qf [("pair",lo),("stay_of",gi),("begins",fr),("dates",fr),("houses",fr),("numbers",fr)]
def oE:aE (aj (top 45)) HE IK ["number","pair"] [none,none]:=lcs
def wo:aE (aj (top 45)) HE IJ ["pair","begins","dates","houses","numbers"] [none,some 3,some 1,some 2,some 5]:=lcs
def iW:ar ["_law_script","_law_k","_law_cell","_law_digits"] ["_law_script","_law_k"] (aj (top 47)):=gM
def ku:ar ["_law_pot_here","_law_many","_law_digit","_law_mixed"] ["_law_pot_here","_law_many"] (aj (top 48)):=gM
def FT:ar ["_law_pot_here","_law_some"] ["_law_pot_here","_law_some"] (aj (top 49)):=gM
def bA:ar ["_law_pot_here","_law_many","_law_letters","_law_first","_law_turn","_law_stem","_law_ends","_law_found","_law_k","_law_letter"] ["_law_pot_here","_law_many"] (aj (top 50)):=gM
def dF:ar ["_law_pot_here","_law_words_here","_law_some","_law_way_here","_law_at","_law_pair"] ["_law_pot_here","_law_words_here"] (aj (top 51)):=gM
def yk:ar ["_law_pot_here"] ["_law_pot_here"] (aj (top 52)):=gM
def gb:ar ["_law_tree_here","_law_rows","_law_many","_law_row"] ["_law_tree_here"] (aj (top 53)):=gM
abbrev lI:List Str:=["_law_pot_here","_law_rows","_law_dates_here","_law_house","_law_left","_law_date","_law_ready"]
def cC:ar lI ["_law_pot_here","_law_rows"] (aj (top 54)):=gM
abbrev rP:Scope:=qf [("_law_house",lo),("_law_row",lo),("isinstance",gi),("str",gi)]
abbrev rO:Scope:=qf [("_law_house",lo),("_law_left",fr),("_law_rows",fr)]
def gJ:aE (aj (top 54)) lI rP ["_law_house","_law_row"] [none,none]:=lcs
def lM:aE (aj (top 54)) lI rO ["_law_house","_law_left","_law_rows"] [none,some 4,some 1]:=lcs
abbrev lH:List Str:=["_law_pot_here","_law_great_here","_law_words_here","_law_many"]
def jr:ar lH ["_law_pot_here","_law_great_here"] (aj (top 55)):=gM
abbrev rN:Scope:=qf [("_law_row",lo),("isinstance",gi),("str",gi)]
abbrev rM:Scope:=qf [("_law_k",lo),("_law_pick",gi),("_law_pot_here",fr),("_law_words_here",fr)]
def lL:aE (aj (top 55)) lH rN ["_law_row"] [none]:=lcs
def lK:aE (aj (top 55)) lH rM ["_law_k","_law_pot_here","_law_words_here"] [none,some 0,some 2]:=lcs
def oz:ar ["_law_pot_here","_law_great_here"] ["_law_pot_here","_law_great_here"] (aj (top 56)):=gM
def cB:ar ["_law_stays","_law_stay","_law_name","_law_level","_law_under","_law_beside","_law_found","_law_other"] ["_law_stays","_law_stay"] (aj (top 57)):=gM
abbrev tQ:List Str:=["_law_stays","_law_rows","_law_can_here","_law_node","_law_stay","_law_row"]
def pW:ar tQ ["_law_stays","_law_rows","_law_can_here","_law_node","_law_stay"] (aj (top 58)):=gM
abbrev uh:Scope:=qf [("_law_one",lo),("_law_can_here",fr),("_law_row",fr)]
def mC:aE (aj (top 58)) tQ uh ["_law_one","_law_can_here","_law_row"] [none,some 2,some 5]:=lcs
abbrev xH:List Str:=["_law_stays","_law_rows","_law_found","_law_node","_law_stay","_law_on"]
def gj:ar xH ["_law_stays","_law_rows"] (aj (top 59)):=gM
abbrev wd:Scope:=qf [("_law_low",lo),("_law_found",fr),("_law_node",fr)]
def n5:aE (aj (top 59)) xH wd ["_law_low","_law_found","_law_node"] [none,some 2,some 3]:=lcs
abbrev m9:List Str:=["_law_pot_here","_law_stays","_law_rows","_law_can_here","_law_node","_law_stay","_law_path_here","_law_turn","_law_on","_law_ends"]
def fc:ar m9 ["_law_pot_here","_law_stays","_law_rows","_law_can_here","_law_node","_law_stay"] (aj (top 60)):=gM
abbrev ug:Scope:=qf [("_law_low",lo),("_law_can_here",fr),("_law_node",fr)]
abbrev uf:Scope:=qf [("_law_low",lo),("_law_can_here",fr),("_law_node",fr)]
def mB:aE (aj (top 60)) m9 ug ["_law_low","_law_can_here","_law_node"] [none,some 3,some 4]:=lcs
def mz:aE (aj (top 60)) m9 uf ["_law_low","_law_can_here","_law_node"] [none,some 3,some 4]:=lcs
def eT:ar ["_law_pot_here","_law_stays","_law_rows","_law_can_here","_law_node","_law_path_here","_law_deed","_law_one","_law_other","_law_row","_law_first"] ["_law_pot_here","_law_stays","_law_rows","_law_can_here","_law_node","_law_path_here"] (aj (top 61)):=gM
abbrev ke:List Str:=["_law_pot_here","_law_stays","_law_small_here","_law_rows","_law_can_here","_law_last","_law_some"]
def cm:ar ke ["_law_pot_here","_law_stays","_law_small_here"] (aj (top 62)):=gM
abbrev mw:Scope:=qf [("_law_stay",lo),("_law_done",gi),("_law_can_here",fr),("_law_last",fr),("_law_rows",fr),("_law_stays",fr)]
def gR:aE (aj (top 62)) ke mw ["_law_stay","_law_can_here","_law_last","_law_rows","_law_stays"] [none,some 4,some 5,some 3,some 1]:=lcs
def f9:ar ["_law_pot_here","_law_great_here","_law_stays","_law_small_here"] ["_law_pot_here"] (aj (top 63)):=gM
abbrev oj:List Str:=["_law_stays","_law_way_here","_law_above"]
def mf:ar oj ["_law_stays","_law_way_here"] (aj (top 64)):=gM
abbrev qe:Scope:=qf [("_law_stay",lo),("_law_stays",fr),("_law_way_here",fr)]
def jY:aE (aj (top 64)) oj qe ["_law_stay","_law_stays","_law_way_here"] [none,some 0,some 1]:=lcs
def jq:ar ["_law_script","_law_k","_law_pot_here","_law_great_here","_law_stays","_law_small_here","_law_way_here","_law_turn","_law_longer_here"] ["_law_script"] (aj (top 65)):=gM
structure NB (v:EV):Prop where
 isinstance:v.mg "isinstance"=none
 bool:v.mg "bool"=none
 int:v.mg "int"=none
 len:v.mg "len"=none
 tuple:v.mg "tuple"=none
 str:v.mg "str"=none
 all:v.mg "all"=none
 list:v.mg "list"=none
 reversed:v.mg "reversed"=none
 enumerate:v.mg "enumerate"=none
 range:v.mg "range"=none
 sorted:v.mg "sorted"=none
 zip:v.mg "zip"=none
 dict:v.mg "dict"=none
 abs:v.mg "abs"=none
 any:v.mg "any"=none
 min:v.mg "min"=none
 max:v.mg "max"=none
variable {v:EV}
abbrev o7:DF:=⟨"is_whole",top 1,["thing"],1,fun K=>gY K [.v] (da 1 fN)⟩
def Lj (D:DI v o7) (q:NB v):D.O:=
 lT (n:=1) (m:=fN) D H9 fun l hl=>match l,hl with | [aA],_=>fun _ _ _ _ _ _ hr=>show SF _ _ _ [some (.val aA)] _ (fN aA) _ from
 (SF.cf (xh (fB rfl .int rfl q.isinstance (ae 0) rfl q.int boot_int) (tJ (adI (fB rfl .bool rfl q.isinstance (ae 0) rfl q.bool boot_bool)))) fun _=>rfl)
abbrev qN:DF:=⟨"is_row",top 2,["thing","many"],1,fun K=>gY K [.v,.v] (da 2 fe)⟩
def RU (D:DI v qN) (q:NB v):D.O:=
 lT (n:=2) (m:=fe) D Oj fun l hl=>match l,hl with | [aA,gq],_=>fun _ _ _ _ _ _ hr=>show SF _ _ _ [some (.val aA),some (.val gq)] _ (fe aA gq) _ from
 (SF.cf (xh (fB rfl .tup rfl q.isinstance (ae 0) rfl q.tuple boot_tuple) (tJ (mR (gT rfl (aX hr)) (dZ rfl rfl q.len (ae 0)) (ae 1)))) fun _=>rfl)
abbrev ka:DF:=⟨"is_word",top 6,["thing"],1,fun K=>gY K [.v] (da 1 hZ)⟩
def y8 (D:DI v ka) (q:NB v) {dq:Tok} (ft:v.mg "LONGEST_WORD"=some (.int 8 dq)) {jH:Tok} (nH:v.mg "LETTERS"=some (.str "abcdefghijklmnopqrstuvwxyz" jH)):D.O:=
 lT (n:=1) (m:=hZ) D Kr fun l hl=>match l,hl with | [aA],_=>fun _ _ _ _ _ _ hr=>show SF _ _ _ [some (.val aA)] _ (hZ aA) _ from
 (SF.Lz (xA.t (yP (lZ (cF rfl (fB rfl .str rfl q.isinstance (ae 0) rfl q.str boot_str) (fun _=>rfl))) (rj (lZ (Uq Nq Nq ao (dZ rfl rfl q.len (ae 0)) (Hb ft rfl))))))
 (SF.cf nR fun _=>rfl)
 (SF.cf (NP rfl rfl rfl q.all (cM (jv rfl qj (ZL (ae 0)) (fun _ _ _ _ _=>(eB 0 qj.nd)) (fun _ _ _ _ _ p2=>(mR (ZH rfl) (ae 0) (xf nH rfl))) rfl))) fun _=>rfl))
abbrev o8 (f6:Addr):DF:=⟨"is_grown",top 7,["thing","is_leaf","often"],2,fun K=>gY K [.v,.f f6,.v] (da 2 fP)⟩
def Lk {f6:Addr} (D:DI v (o8 f6)) (LI:aaC v.P v.w v.K v.mg v.base f6 ka.k ka.ps (ka.sp v.K)) (wN:qN.C v):D.O:=
 lT (n:=2) (m:=fP) D iV fun l hl=>match l,hl with | [aA,vL],_=>fun _ _ _ _ _ _ hr=>show SF _ _ _ [some (.val aA),some (.adr f6),some (.val vL),none,none,none] _ (fP aA vL) _ from
 (SF.afL (i:=3) iV.nd rfl (Cs rfl)
 (sl 4 iV.nd (a9 (n:=1) (af (ae 0) ak) rfl) fun fC=>
 (SF.vd (hd:=(fun (s4:List (Key×PV)×List PV)=>([some (.val aA),some (.adr f6),some (.val vL),some (.od s4.1),some (.ol none s4.2),none]:aY))) (s0:=([],fC)) (inj:=id) AN (.keep (.keep (.keep (.keep (.keep (.keep .nil)))))) (fun s4=>(W8 rfl (bX 4) (fun _=>rfl))) (fun _=>trivial) (fun s4=>
 (SF.F2 4 5 rfl (by decide) rfl rfl (.inl rfl) iV.nd rfl (Cs rfl) fun t7=>
 (SF.ifT (cF rfl (eC wN hr (af (ae 5) (af ao ak))) (fun _=>rfl))
 (SF.extend 4 rfl rfl rfl (.inl rfl) (aw (ae 5)) fun iy=>
 (SF.gI rfl (.keep (.keep (.keep (.keep (.keep (.drop .nil))))))))
 (SF.ifT (xA.t (yP (lZ (cF rfl (Wr 1 LI hr (by first | exact C5 rfl | omega) rfl (af (ae 5) ak) rfl) (fun _=>rfl))) (rj (xA.t (kl (abq 3 rfl (aX hr) (ae 5)) (gW (lZ (cF rfl (ae 2) (fun _=>rfl)))))))))
 (SF.ret (k:=fun oq=>(Lp.out oq)) nR fun _=>rfl)
 (SF.putD 3 rfl (aX hr) rfl (.inl rfl) nR (ae 5) fun MW=>
 (SF.gI rfl (.keep (.keep (.keep (.keep (.keep (.drop .nil)))))))))))) fun s4=>
 (SF.cf nR fun _=>rfl))))
abbrev sP:DF:=⟨"is_tree",top 8,["thing"],3,fun K=>gY K [.v] (da 1 ib)⟩
def OO (D:DI v sP) {wY:Addr} (PR:v.mg "is_word"=some (.ref wY)) (LO:(o8 wY).C v):D.O:=
 lT (n:=1) (m:=ib) D Ks fun l hl=>match l,hl with | [aA],_=>fun _ _ _ _ _ _ hr=>show SF _ _ _ [some (.val aA)] _ (ib aA) _ from
 (SF.cf (eC LO hr (af (ae 0) (ahl rfl PR (af nR ak)))) fun _=>rfl)
abbrev o4:DF:=⟨"parts_of",top 9,["tree"],1,fun K=>jJ K [.v] (da 1 fJ)⟩
def Lg (D:DI v o4) (q:NB v):D.O:=
 Qa (n:=1) (m:=fJ) D iU fun l hl=>match l,hl with | [eZ],_=>fun _ _ _ _ _ _ hr=>show SF _ _ _ [some (.val eZ),none,none,none] _ (fJ eZ) _ from
 (sl 1 iU.nd (a9 (n:=0) ak rfl) fun pB=>
 (sl 2 iU.nd (a9 (n:=1) (af (ae 0) ak) rfl) fun fC=>
 (SF.Mv (hd:=(fun (s4:List PV×List PV)=>([some (.val eZ),some (.ol none s4.1),some (.ol none s4.2),none]:aY))) (s0:=(pB,fC)) AN (.keep (.keep (.keep (.keep .nil)))) (fun s4=>(W8 rfl (bX 2) (fun _=>rfl))) (fun s4=>
 (SF.F2 2 3 rfl (by decide) rfl rfl (.inl rfl) iU.nd rfl (Cs rfl) fun t7=>
 (SF.append 1 rfl rfl rfl (.inl rfl) (ae 3) fun pA=>
 (SF.ifT (lZ (cF rfl (fB rfl .str rfl q.isinstance (ae 3) rfl q.str boot_str) (fun _=>rfl)))
 (SF.extend 2 rfl rfl rfl (.inl rfl) (aw (ae 3)) fun iy=>
 (SF.gI rfl (.keep (.keep (.keep (.drop .nil))))))
 (SF.gI rfl (.keep (.keep (.keep (.drop .nil))))))))) fun s4=>
 (SF.mi (acz rfl rfl rfl q.list rfl q.reversed (Kz 1)) fun _=>rfl))))
abbrev nF:DF:=⟨"nodes",top 10,["tree"],2,fun K=>gY K [.v] (da 1 g8)⟩
def VG (D:DI v nF) (q:NB v) (LK:o4.C v):D.O:=
 lT (n:=1) (m:=g8) D jL fun l hl=>match l,hl with | [eZ],_=>fun _ _ _ _ _ _ hr=>show SF _ _ _ [some (.val eZ),none,none,none,none,none] _ (g8 eZ) _ from
 (sl 1 jL.nd (a9 (n:=0) ak rfl) fun km=>
 (sl 2 jL.nd (a9 (n:=0) ak rfl) fun Gn=>
 (SF.GZ (hd:=(fun (s4:List PV×List PV)=>([some (.val eZ),some (.ol none s4.1),some (.ol none s4.2),none,none,none]:aY))) (s0:=(km,Gn)) AN rfl (cD rfl (zb (lC LK hr (af (ae 0) ak)))) (.keep (.keep (.keep (.keep (.keep (.keep .nil)))))) (eB 3 jL.nd) (fun s4 F5=>
 (SF.ifS (out1:=fun (Yz:List PV×List PV)=>.nx ([some (.val eZ),some (.ol none Yz.1),some (.ol none Yz.2),some (.val F5),none,none]:aY)) (cF rfl (fB rfl .str rfl q.isinstance (ae 3) rfl q.str boot_str) (fun _=>rfl))
 (SF.append 1 rfl rfl rfl (.inl rfl) (ae 3) fun MD=>
 (SF.nil rfl (.keep (.keep (.keep (.keep (.keep (.keep .nil))))))))
 (SF.F2 2 4 rfl (by decide) rfl rfl (.inl rfl) jL.nd rfl (Cs rfl) fun t20=>
 (SF.F2 2 5 rfl (by decide) rfl rfl (.inl rfl) jL.nd rfl (Cs rfl) fun t22=>
 (SF.append 1 rfl rfl rfl (.inl rfl) (aU (n:=2) (af (ae 5) (af (ae 4) ak)) rfl) fun MC=>
 (SF.nil rfl (.keep (.keep (.keep (.keep (.drop (.drop .nil))))))))))
 fun Yz=>(SF.append 2 rfl rfl rfl (.inl rfl) (qJ (sD rfl rfl q.len (bX 1)) ao) fun IL=>
 (SF.gI rfl (.keep (.keep (.keep (.drop (.keep (.keep .nil)))))))))) fun s4=>
 (SF.cf (gc rfl rfl q.tuple (bX 1)) fun _=>rfl))))
abbrev kc:DF:=⟨"halves",top 11,["node"],1,fun K=>gY K [.v] (da 1 cX)⟩
def RX (D:DI v kc) (q:NB v):D.O:=
 lT (n:=1) (m:=cX) D Om fun l hl=>match l,hl with | [a7],_=>fun _ _ _ _ _ _ hr=>show SF _ _ _ [some (.val a7)] _ (cX a7) _ from
 (SF.cf (Pj (cF rfl (fB rfl .str rfl q.isinstance (ae 0) rfl q.str boot_str) (fun _=>rfl)) (aU (n:=0) ak rfl) (ae 0)) fun _=>rfl)
abbrev lh:DF:=⟨"ahead_of",top 12,["tree"],3,fun K=>gY K [.v] (da 1 eQ)⟩
def Lr (D:DI v lh) (q:NB v) (kJ:nF.C v) (iM:kc.C v):D.O:=
 lT (n:=1) (m:=eQ) D eS fun l hl=>match l,hl with | [eZ],_=>fun _ _ _ _ _ _ hr=>show SF _ _ _ [some (.val eZ),none,none,none,none,none] _ (eQ eZ) _ from
 (sv 1 eS.nd (eC kJ hr (af (ae 0) ak)) fun km=>
 (SF.pT (i:=3) rfl eS.nd rfl rfl nZ (cD rfl (bZ (ae 1))) (fun _ _ _ _ _=>(eB 0 nZ.nd)) (fun _ _ _ _ _ p5=>tK) rfl fun Hr=>
 (SF.We (hd:=(fun (s7:List PV)=>([some (.val eZ),some (.val km),none,some (.ol none s7),none,none]:aY))) (s0:=Hr) AN rfl (qu rfl rfl q.enumerate (bZ (ae 1))) (.keep (.keep (.keep (.keep (.keep (.keep .nil)))))) (fun _=>(V6 rfl (gH rfl (aP (eB 4 eS.nd) (aP (eB 2 eS.nd) eK))))) (fun s7 t9=>
 (SF.GZ (hd:=(fun (ub:List PV)=>([some (.val eZ),some (.val km),some (.val t9.2),some (.ol none ub),some (.val t9.1),none]:aY))) (s0:=s7) AN rfl (cD rfl (bZ (eC iM hr (af (ae 2) ak)))) (.keep (.keep (.keep (.keep (.keep (.keep .nil)))))) (eB 5 eS.nd) (fun ub Nz=>
 (SF.Kp 3 rfl rfl (.inl rfl) (ae 4) (ae 5) fun JH=>
 (SF.gI rfl (.keep (.keep (.keep (.keep (.keep (.drop .nil))))))))) fun ub=>
 (SF.gI rfl (.keep (.keep (.drop (.keep (.drop (.keep .nil))))))))) fun s7=>
 (SF.cf (gc rfl rfl q.tuple (bX 3)) fun _=>rfl))))
abbrev iO:DF:=⟨"under_at",top 17,["stays","stay"],1,fun K=>gY K [.v,.v] (da 2 cO)⟩
def Ld (D:DI v iO) {pP:Tok} (Hj:v.mg "UNDER"=some (.int 2 pP)):D.O:=
 lT (n:=2) (m:=cO) D H0 fun l hl=>match l,hl with | [av,aL],_=>fun _ _ _ _ _ _ hr=>show SF _ _ _ [some (.val av),some (.val aL)] _ (cO av aL) _ from
 (SF.cf (aH rfl (aw (aH rfl (aw (ae 0)) (ae 1) (fun _ _=>rfl))) (Hb Hj rfl) (fun _ _=>rfl)) fun _=>rfl)
abbrev m5:DF:=⟨"beside_at",top 18,["stays","stay"],1,fun K=>gY K [.v,.v] (da 2 eW)⟩
def IZ (D:DI v m5) {ma:Tok} (xt:v.mg "BESIDE"=some (.int 3 ma)):D.O:=
 lT (n:=2) (m:=eW) D FR fun l hl=>match l,hl with | [av,aL],_=>fun _ _ _ _ _ _ hr=>show SF _ _ _ [some (.val av),some (.val aL)] _ (eW av aL) _ from
 (SF.cf (aH rfl (aw (aH rfl (aw (ae 0)) (ae 1) (fun _ _=>rfl))) (Hb xt rfl) (fun _ _=>rfl)) fun _=>rfl)
abbrev sT:DF:=⟨"is_home",top 19,["stays","stay","word"],2,fun K=>gY K [.v,.v,.v] (da 3 ik)⟩
def OS (D:DI v sT) {vo:Tok} (Ma:v.mg "NAME"=some (.int 0 vo)) (iL:iO.C v):D.O:=
 lT (n:=3) (m:=ik) D Kv fun l hl=>match l,hl with | [av,aL,Mu],_=>fun _ _ _ _ _ _ hr=>show SF _ _ _ [some (.val av),some (.val aL),some (.val Mu)] _ (ik av aL Mu) _ from
 (SF.cf (xh (mR (gT rfl (aX hr)) (eC iL hr (af (ae 0) (af (ae 1) ak))) (aU (n:=0) ak rfl)) (tJ (mR (gT rfl (aX hr)) (aH rfl (aw (aH rfl (aw (ae 0)) (ae 1) (fun _ _=>rfl))) (Hb Ma rfl) (fun _ _=>rfl)) (ae 2)))) fun _=>rfl)
abbrev nG:DF:=⟨"name_of",top 20,["houses","house"],1,fun K=>gY K [.v,.v] (da 2 dI)⟩
def OM (D:DI v nG) (q:NB v):D.O:=
 lT (n:=2) (m:=dI) D Kq fun l hl=>match l,hl with | [cE,gL],_=>fun _ _ _ _ _ _ hr=>show SF _ _ _ [some (.val cE),some (.val gL)] _ (dI cE gL) _ from
 (SF.cf (Pj (cF rfl (fB rfl .str rfl q.isinstance (aH rfl (aw (ae 0)) (ae 1) (fun _ _=>rfl)) rfl q.str boot_str) (fun _=>rfl)) (aH rfl (aw (ae 0)) (ae 1) (fun _ _=>rfl)) (ae 1)) fun _=>rfl)
abbrev o6:DF:=⟨"lines_up",top 21,["great"],4,fun K=>jJ K [.v] (da 1 fM)⟩
def Li (D:DI v o6) (q:NB v) (oH:lh.C v):D.O:=
 Qa (n:=1) (m:=fM) D gh fun l hl=>match l,hl with | [bN],_=>fun _ _ _ _ _ _ hr=>show SF _ _ _ [some (.val bN),none,none,none,none] _ (fM bN) _ from
 (sv 1 gh.nd (eC oH hr (af (ae 0) ak)) fun eM=>
 (SF.pT (i:=3) rfl gh.nd rfl rfl nW (cD rfl (bZ (ae 1))) (fun _ _ _ _ _=>(eB 0 nW.nd)) (fun _ _ _ _ _ p5=>(aU (n:=0) ak rfl)) rfl fun ny=>
 (SF.GZ (hd:=(fun (s9:List PV)=>([some (.val bN),some (.val eM),none,some (.ol none s9),none]:aY))) (s0:=ny) AN rfl (Nu rfl q.range (qJ (dZ rfl rfl q.len (ae 1)) ao) (mP ao) (mP ao)) (.keep (.keep (.keep (.keep (.keep .nil))))) (eB 2 gh.nd) (fun s9 mE=>
 (sv 4 gh.nd (Pj (dX Lv (aH rfl (aw (ae 1)) (ae 2) (fun _ _=>rfl)) tK) (aU (n:=0) ak rfl) (aH rfl (bX 3) (aH rfl (aw (ae 1)) (ae 2) (fun _ _=>rfl)) (fun _ _=>rfl))) fun JI=>
 (SF.Kp 3 rfl rfl (.inl rfl) (cj rfl (aU (n:=1) (af (ae 2) ak) rfl) (ae 4)) (ae 2) fun IP=>
 (SF.gI rfl (.keep (.keep (.drop (.keep (.drop .nil))))))))) fun s9=>
 (SF.QO 3 rfl rfl))))
abbrev k8:DF:=⟨"apart_from",top 22,["lines","house"],1,fun K=>gY K [.v,.v] (da 2 dJ)⟩
def Gv (D:DI v k8) (q:NB v):D.O:=
 lT (n:=2) (m:=dJ) D yj fun l hl=>match l,hl with | [rQ,gL],_=>fun _ _ _ _ _ _ hr=>show SF _ _ _ [some (.val rQ),some (.val gL)] _ (dJ rQ gL) _ from
 (SF.cf (gc rfl rfl q.tuple (iA (IQ rfl lJ (fi rfl q.range (dZ rfl rfl q.len (ae 0))) (fun _ _ _ _ _=>(eB 0 lJ.nd)) (fun _ _ _ _ _ p3=>(xA.t (kl (zZ rfl (aX hr) (ae 0) (aw (aH rfl (aw (ae 2)) (ae 1) (fun _ _=>rfl)))) (gW (zZ rfl (aX hr) (ae 1) (aw (aH rfl (aw (ae 2)) (ae 0) (fun _ _=>rfl)))))))) (fun _ _ _ _ _ p3=>(ae 0)) rfl))) fun _=>rfl)
abbrev xn:DF:=⟨"ground",top 23,["great"],5,fun K=>gY K [.v] (da 1 jV)⟩
def RY (D:DI v xn) (q:NB v) (kJ:nF.C v) (LM:o6.C v) (sg:nG.C v) (iM:kc.C v) (GP:k8.C v):D.O:=
 lT (n:=1) (m:=jV) D rA fun l hl=>match l,hl with | [bN],_=>fun _ _ _ _ _ _ hr=>show SF _ _ _ [some (.val bN),none,none] _ (jV bN) _ from
 (sv 1 rA.nd (eC kJ hr (af (ae 0) ak)) fun gw=>
 (sl 2 rA.nd (lC LM hr (af (ae 0) ak)) fun ny=>
 SF.cV 2 rfl (SF.cf (gc rfl rfl q.tuple (iA (jv rfl tG (fi rfl q.range (dZ rfl rfl q.len (ae 1))) (fun _ _ _ _ _=>(eB 0 tG.nd)) (fun _ _ _ _ _ p7=>(aU (n:=4) (af (eC sg hr (af (ae 1) (af (ae 0) ak))) (af ao (af (eC iM hr (af (aH rfl (aw (ae 1)) (ae 0) (fun _ _=>rfl)) ak)) (af (eC GP hr (af (ae 2) (af (ae 0) ak))) ak)))) rfl)) rfl))) fun _=>rfl)))
abbrev pd:DF:=⟨"comes_in",top 29,["way"],1,fun K=>gY K [.v] (da 1 cP)⟩
def Lq (D:DI v pd):D.O:=
 lT (n:=1) (m:=cP) D Ia fun l hl=>match l,hl with | [jm],_=>fun _ _ _ _ _ _ hr=>show SF _ _ _ [some (.val jm)] _ (cP jm) _ from
 (SF.cf (aH rfl (aw (aH rfl (aw (ae 0)) ao (fun _ _=>rfl))) ao (fun _ _=>rfl)) fun _=>rfl)
abbrev sV:DF:=⟨"done_at",top 30,["way"],1,fun K=>gY K [.v] (da 1 jW)⟩
def OU (D:DI v sV):D.O:=
 lT (n:=1) (m:=jW) D Kx fun l hl=>match l,hl with | [jm],_=>fun _ _ _ _ _ _ hr=>show SF _ _ _ [some (.val jm)] _ (jW jm) _ from
 (SF.cf (aH rfl (aw (aH rfl (aw (ae 0)) ao (fun _ _=>rfl))) (mP ao) (fun _ _=>rfl)) fun _=>rfl)
abbrev xl:DF:=⟨"ins_of",top 31,["way"],2,fun K=>gY K [.v] (da 1 mq)⟩
def RV (D:DI v xl) (q:NB v) (LQ:pd.C v):D.O:=
 lT (n:=1) (m:=mq) D Ol fun l hl=>match l,hl with | [jm],_=>fun _ _ _ _ _ _ hr=>show SF _ _ _ [some (.val jm)] _ (mq jm) _ from
 (SF.cf (gc rfl rfl q.tuple (iA (jv rfl tF (cD rfl (bZ (NM rfl (ae 0) (Gd ao) Gf))) (fun _ _ _ _ _=>(eB 0 tF.nd)) (fun _ _ _ _ _ p5=>(eC LQ hr (af (ae 0) ak))) rfl))) fun _=>rfl)
abbrev mY:DF:=⟨"split_ins",top 32,["ground","stay"],2,fun K=>jJ K [.v,.v] (da 2 eU)⟩
def IW (D:DI v mY) (q:NB v) (iL:iO.C v):D.O:=
 Qa (n:=2) (m:=eU) D pU fun l hl=>match l,hl with | [aB,aL],_=>fun _ _ _ _ _ _ hr=>show SF _ _ _ [some (.val aB),some (.val aL),none] _ (eU aB aL) _ from
 (sv 2 pU.nd (eC iL hr (af (ae 0) (af (ae 1) ak))) fun pN=>
 (SF.mi (acA (dX (gT rfl (aX hr)) (dZ rfl rfl q.len (ae 2)) ao) (a9 (n:=2) (af (ae 2) (af (aU (n:=2) (af (aH rfl (aw (ae 2)) ao (fun _ _=>rfl)) (af (aH rfl (aw (ae 2)) ao (fun _ _=>rfl)) ak)) rfl) ak)) rfl) (a9 (n:=0) ak rfl)) fun _=>rfl))
abbrev o5:DF:=⟨"over_ins",top 33,["ground","stay"],2,fun K=>jJ K [.v,.v] (da 2 fK)⟩
def Lh (D:DI v o5) (Jj:m5.C v):D.O:=
 Qa (n:=2) (m:=fK) D tw fun l hl=>match l,hl with | [aB,aL],_=>fun _ _ _ _ _ _ hr=>show SF _ _ _ [some (.val aB),some (.val aL),none] _ (fK aB aL) _ from
 (sv 2 tw.nd (eC Jj hr (af (ae 0) (af (ae 1) ak))) fun xu=>
 (SF.mi (IT rfl (cM (jv rfl nV (cD rfl (bZ (ae 2))) (fun _ _ _ _ _=>(eB 0 nV.nd)) (fun _ _ _ _ _ p5=>(aU (n:=2) (af (ae 1) (af (ae 0) ak)) rfl)) rfl)) (cM (jv rfl nU (cD rfl (bZ (ae 2))) (fun _ _ _ _ _=>(eB 0 nU.nd)) (fun _ _ _ _ _ p9=>(aU (n:=2) (af (ae 0) (af (ae 1) ak)) rfl)) rfl))) fun _=>rfl))
abbrev o9:DF:=⟨"deeds_at",top 34,["ground","node","stay"],3,fun K=>jJ K [.v,.v,.v] (da 3 eP)⟩
def Lo (D:DI v o9) (q:NB v) {pS:Tok} (Hl:v.mg "FOUND"=some (.str "found" pS)) {pR:Tok} (Hk:v.mg "SPLIT"=some (.str "split" pR)) {vn:Tok} (L9:v.mg "OVER"=some (.str "over" vn)) {jI:Tok} (sW:v.mg "DOUBLED"=some (.str "doubled" jI)) (Pc:sT.C v) (Jh:mY.C v) (LL:o5.C v):D.O:=
 Qa (n:=3) (m:=eP) D md fun l hl=>match l,hl with | [aB,a7,aL],_=>fun _ _ _ _ _ _ hr=>show SF _ _ _ [some (.val aB),some (.val a7),some (.val aL),none,none] _ (eP aB a7 aL) _ from
 (SF.Lz (cF rfl (fB rfl .str rfl q.isinstance (ae 1) rfl q.str boot_str) (fun _=>rfl))
 (SF.mi (acA (cF rfl (eC Pc hr (af (ae 0) (af (ae 2) (af (ae 1) ak)))) (fun _=>rfl)) (a9 (n:=1) (af (aU (n:=2) (af (xf Hl rfl) (af (aU (n:=0) ak rfl) ak)) rfl) ak) rfl) (a9 (n:=0) ak rfl)) fun _=>rfl)
 (SF.pT (i:=3) rfl md.nd rfl rfl nY (cD rfl (zb (lC Jh hr (af (ae 0) (af (ae 2) ak))))) (fun _ _ _ _ _=>(eB 0 nY.nd)) (fun _ _ _ _ _ M8=>(aU (n:=2) (af (xf Hk rfl) (af (ae 0) ak)) rfl)) rfl fun MN=>
 SF.cV 3 rfl (SF.pT (i:=4) rfl md.nd rfl rfl nX (cD rfl (zb (lC LL hr (af (ae 0) (af (ae 2) ak))))) (fun _ _ _ _ _=>(eB 0 nX.nd)) (fun _ _ _ _ _ p18=>(aU (n:=2) (af (xf L9 rfl) (af (ae 0) ak)) rfl)) rfl fun M9=>
 SF.cV 4 rfl (SF.mi (Vz rfl (aX hr) rfl q.sorted (cM (IT rfl (cM (IT rfl (cM (a9 (n:=1) (af (aU (n:=2) (af (xf sW rfl) (af (aU (n:=2) (af (ae 2) (af (ae 2) ak)) rfl) ak)) rfl) ak) rfl)) (FX (ae 3)))) (FX (ae 4))))) fun _=>rfl))))
abbrev sQ:DF:=⟨"is_stay",top 35,["ground","thing"],2,fun K=>gY K [.v,.v] (da 2 ic)⟩
def OP (D:DI v sQ) (q:NB v) (LN:o7.C v):D.O:=
 lT (n:=2) (m:=ic) D Kt fun l hl=>match l,hl with | [aB,aA],_=>fun _ _ _ _ _ _ hr=>show SF _ _ _ [some (.val aB),some (.val aA)] _ (ic aB aA) _ from
 (SF.cf (xh (eC LN hr (af (ae 1) ak)) (tJ (Wo Nq Np ao (ae 1) (dZ rfl rfl q.len (ae 0))))) fun _=>rfl)
abbrev sR:DF:=⟨"is_path",top 36,["ground","thing"],3,fun K=>gY K [.v,.v] (da 2 ig)⟩
def OQ (D:DI v sR) (q:NB v) (Pa:sQ.C v) (iL:iO.C v):D.O:=
 lT (n:=2) (m:=ig) D Ku fun l hl=>match l,hl with | [aB,aA],_=>fun _ _ _ _ _ _ hr=>show SF _ _ _ [some (.val aB),some (.val aA)] _ (ig aB aA) _ from
 (SF.Lz (xA.t (yP (lZ (cF rfl (fB rfl .tup rfl q.isinstance (ae 1) rfl q.tuple boot_tuple) (fun _=>rfl))) (rj (dX (gT rfl (aX hr)) (dZ rfl rfl q.len (ae 1)) ao))))
 (SF.cf nR fun _=>rfl)
 (SF.Lz (lZ (cF rfl (NP rfl rfl rfl q.all (cM (jv rfl qk (cD rfl (bZ (ae 1))) (fun _ _ _ _ _=>(eB 0 qk.nd)) (fun _ _ _ _ _ p2=>(eC Pa hr (af (ae 1) (af (ae 0) ak)))) rfl))) (fun _=>rfl)))
 (SF.cf nR fun _=>rfl)
 (SF.cf (NP rfl rfl rfl q.all (cM (Lb rfl kI (GG rfl rfl q.zip (bZ (ae 1)) (bZ (NM rfl (ae 1) (Gd ao) Gf))) (fun _ _ _ _ _=>(V6 rfl (gH rfl (aP (eB 0 kI.nd) (aP (eB 1 kI.nd) eK))))) (fun _ _ _ _ _ tq=>(XU rfl (aX hr) (ae 1) (aw (eC iL hr (af (ae 2) (af (ae 0) ak)))))) (RH rfl rfl (by decide)) (by decide)))) fun _=>rfl)))
abbrev mZ:DF:=⟨"is_formed",top 37,["ground","node","thing"],4,fun K=>gY K [.v,.v,.v] (da 3 eV)⟩
def IX (D:DI v mZ) (q:NB v) (Pb:sR.C v) (wN:qN.C v):D.O:=
 lT (n:=3) (m:=eV) D pV fun l hl=>match l,hl with | [aB,a7,aA],_=>fun _ _ _ _ _ _ hr=>show SF _ _ _ [some (.val aB),some (.val a7),some (.val aA),none] _ (eV aB a7 aA) _ from
 (sv 3 pV.nd (Pj (cF rfl (fB rfl .str rfl q.isinstance (ae 1) rfl q.str boot_str) (fun _=>rfl)) ao ao) fun RD=>
 (SF.cf (xh (eC wN hr (af (ae 2) (af (ae 3) ak))) (xh (eC Pb hr (af (ae 0) (af (aH rfl (aw (ae 2)) ao (fun _ _=>rfl)) ak))) (tJ (fB rfl .str rfl q.isinstance (aH rfl (aw (ae 2)) ao (fun _ _=>rfl)) rfl q.str boot_str)))) fun _=>rfl))
abbrev gP:DF:=⟨"ways_of_nodes",top 38,["ground","told","thing"],5,fun K=>gY K [.v,.v,.v] (da 3 ck)⟩
def uo (D:DI v gP) (q:NB v) (Ji:mZ.C v) (iM:kc.C v):D.O:=
 lT (n:=3) (m:=ck) D bu fun l hl=>match l,hl with | [aB,tm,aA],_=>fun _ _ _ _ _ _ hr=>show SF _ _ _ [some (.val aB),some (.val tm),some (.val aA),none,none,none,none,none,none] _ (ck aB tm aA) _ from
 (SF.pT (i:=4) rfl bu.nd rfl rfl iH (cD rfl (bZ (ae 1))) (fun _ _ _ _ _=>(eB 0 iH.nd)) (fun _ _ _ _ _ p3=>tK) rfl fun Qq=>
 (SF.Kp 4 rfl rfl (.inl rfl) (ae 2) (mP ao) fun oy=>
 (SF.Sw (hd:=(fun (UI:List PV)=>([some (.val aB),some (.val tm),some (.val aA),none,some (.ol none UI),none,none,none,none]:aY))) (s0:=oy) (inj:=id) AN rfl (Nu rfl q.range (qJ (dZ rfl rfl q.len (ae 1)) ao) (mP ao) (mP ao)) (.keep (.keep (.keep (.keep (.keep (.keep (.keep (.keep (.keep .nil))))))))) (eB 5 bu.nd) (fun _=>trivial) (fun UI nu=>
 (sv 3 bu.nd (aH rfl (aw (ae 1)) (ae 5) (fun _ _=>rfl)) fun uM=>
 (sv 6 bu.nd (aH rfl (bX 4) (ae 5) (fun _ _=>rfl)) fun zT=>
 (SF.Lz (lZ (cF rfl (eC Ji hr (af (ae 0) (af (ae 3) (af (ae 6) ak)))) (fun _=>rfl)))
 (SF.ret (k:=fun zQ=>(Lp.out zQ)) tK fun _=>rfl)
 (SF.We (hd:=(fun (Yx:List PV)=>([some (.val aB),some (.val tm),some (.val aA),some (.val uM),some (.ol none Yx),some (.val nu),some (.val zT),none,none]:aY))) (s0:=UI) AN rfl (GG rfl rfl q.zip (bZ (eC iM hr (af (ae 3) ak))) (bZ (NM rfl (ae 6) (Gd ao) Gf))) (.keep (.keep (.keep (.keep (.keep (.keep (.keep (.keep (.keep .nil))))))))) (fun _=>(V6 rfl (gH rfl (aP (eB 7 bu.nd) (aP (eB 8 bu.nd) eK))))) (fun Yx t26=>
 (SF.Kp 4 rfl rfl (.inl rfl) (ae 8) (ae 7) fun Mw=>
 (SF.gI rfl (.keep (.keep (.keep (.keep (.keep (.keep (.keep (.drop (.drop .nil)))))))))))) fun Yx=>
 (SF.gI rfl (.keep (.keep (.keep (.drop (.keep (.drop (.drop (.keep (.keep .nil))))))))))))))) fun UI=>
 (SF.cV 4 rfl (SF.cf (ae 4) fun _=>rfl)))))
abbrev sU:DF:=⟨"is_done",top 39,["ground","node","way"],4,fun K=>gY K [.v,.v,.v] (da 3 ip)⟩
def OT (D:DI v sU) (Ss:xl.C v) (LP:o9.C v) (Pe:sV.C v):D.O:=
 lT (n:=3) (m:=ip) D Kw fun l hl=>match l,hl with | [aB,a7,jm],_=>fun _ _ _ _ _ _ hr=>show SF _ _ _ [some (.val aB),some (.val a7),some (.val jm)] _ (ip aB a7 jm) _ from
 (SF.cf (XU rfl (aX hr) (aU (n:=2) (af (aH rfl (aw (ae 2)) ao (fun _ _=>rfl)) (af (eC Ss hr (af (ae 2) ak)) ak)) rfl) (iA (lC LP hr (af (ae 0) (af (ae 1) (af (eC Pe hr (af (ae 2) ak)) ak)))))) fun _=>rfl)
abbrev xk:DF:=⟨"is_way",top 40,["ground","small","thing"],6,fun K=>gY K [.v,.v,.v] (da 3 gr)⟩
def RT (D:DI v xk) (q:NB v) (O9:sP.C v) (kJ:nF.C v) (ux:gP.C v) (Pd:sU.C v):D.O:=
 lT (n:=3) (m:=gr) D rz fun l hl=>match l,hl with | [aB,vv,aA],_=>fun _ _ _ _ _ _ hr=>show SF _ _ _ [some (.val aB),some (.val vv),some (.val aA),none,none] _ (gr aB vv aA) _ from
 (SF.Lz (lZ (cF rfl (eC O9 hr (af (ae 1) ak)) (fun _=>rfl)))
 (SF.cf nR fun _=>rfl)
 (sv 3 rz.nd (eC kJ hr (af (ae 1) ak)) fun Kh=>
 (sv 4 rz.nd (eC ux hr (af (ae 0) (af (ae 3) (af (ae 2) ak)))) fun oy=>
 (SF.Lz (xA.t (yP (dX Lv (ae 4) tK) (rj (dX (Xx rfl (aX hr)) (dZ rfl rfl q.len (aH rfl (aw (ae 2)) ao (fun _ _=>rfl))) ao))))
 (SF.cf nR fun _=>rfl)
 (SF.cf (NP rfl rfl rfl q.all (cM (Lb rfl my (GG rfl rfl q.zip (bZ (ae 3)) (bZ (ae 4))) (fun _ _ _ _ _=>(V6 rfl (gH rfl (aP (eB 0 my.nd) (aP (eB 1 my.nd) eK))))) (fun _ _ _ _ _ tq=>(eC Pd hr (af (ae 2) (af (ae 0) (af (ae 1) ak))))) (RH rfl rfl (by decide)) (by decide)))) fun _=>rfl)))))
abbrev jB:DF:=⟨"split_dates",top 42,["houses","dates"],1,fun K=>jJ K [.v,.v] (da 2 cZ)⟩
def yx (D:DI v jB) (q:NB v):D.O:=
 Qa (n:=2) (m:=cZ) D vC fun l hl=>match l,hl with | [cE,bO],_=>fun _ _ _ _ _ _ hr=>show SF _ _ _ [some (.val cE),some (.val bO)] _ (cZ cE bO) _ from
 (SF.mi (Xt rfl fV (GG rfl rfl q.zip (bZ (ae 0)) (bZ (ae 1))) (fun _ _ _ _ _=>(V6 rfl (gH rfl (aP (eB 0 fV.nd) (aP (eB 1 fV.nd) eK))))) (fun _ _ _ _ _ t5=>(lZ (cF rfl (fB rfl .str rfl q.isinstance (ae 0) rfl q.str boot_str) (fun _=>rfl)))) (fun _ _ _ _ _ t5=>(ae 1)) (RH rfl rfl (by decide)) (by decide)) fun _=>rfl)
abbrev oZ:DF:=⟨"standing",top 43,["great","dates","begins"],4,fun K=>jJ K [.v,.v,.v] (da 3 fH)⟩
def Lf (D:DI v oZ) (q:NB v) (oH:lh.C v):D.O:=
 Qa (n:=3) (m:=fH) D dr fun l hl=>match l,hl with | [bN,bO,fu],_=>fun _ _ _ _ _ _ hr=>show SF _ _ _ [some (.val bN),some (.val bO),some (.val fu),none,none,none,none,none,none] _ (fH bN bO fu) _ from
 (sv 3 dr.nd (eC oH hr (af (ae 0) ak)) fun eM=>
 (sl 4 dr.nd (a9 (n:=0) ak rfl) fun F7=>
 (SF.We (hd:=(fun (s5:List PV)=>([some (.val bN),some (.val bO),some (.val fu),some (.val eM),some (.ol none s5),none,none,none,none]:aY))) (s0:=F7) AN rfl (qu rfl rfl q.enumerate (bZ (ae 2))) (.keep (.keep (.keep (.keep (.keep (.keep (.keep (.keep (.keep .nil))))))))) (fun _=>(V6 rfl (gH rfl (aP (eB 5 dr.nd) (aP (eB 6 dr.nd) eK))))) (fun s5 t7=>
 (SF.We (hd:=(fun (s9:List PV)=>([some (.val bN),some (.val bO),some (.val fu),some (.val eM),some (.ol none s9),some (.val t7.1),some (.val t7.2),none,none]:aY))) (s0:=s5) AN rfl (qu rfl rfl q.enumerate (bZ (ae 1))) (.keep (.keep (.keep (.keep (.keep (.keep (.keep (.keep (.keep .nil))))))))) (fun _=>(V6 rfl (gH rfl (aP (eB 7 dr.nd) (aP (eB 8 dr.nd) eK))))) (fun s9 t11=>
 (SF.ifT (xA.t (kl (dX Nq (ae 8) (ae 6)) (gW (xA.t (yP (dX Lv (aH rfl (aw (ae 3)) (ae 7) (fun _ _=>rfl)) tK) (rj (dX Np (ae 6) (aH rfl (aw (ae 1)) (aH rfl (aw (ae 3)) (ae 7) (fun _ _=>rfl)) (fun _ _=>rfl)))))))))
 (SF.append 4 rfl rfl rfl (.inl rfl) (aU (n:=2) (af (ae 7) (af (ae 5) ak)) rfl) fun Iw=>
 (SF.gI rfl (.keep (.keep (.keep (.keep (.keep (.keep (.keep (.drop (.drop .nil)))))))))))
 (SF.gI rfl (.keep (.keep (.keep (.keep (.keep (.keep (.keep (.drop (.drop .nil)))))))))))) fun s9=>
 (SF.gI rfl (.keep (.keep (.keep (.keep (.keep (.drop (.drop (.keep (.keep .nil)))))))))))) fun s5=>
 (SF.QO 4 rfl rfl))))
abbrev sN:DF:=⟨"stay_of",top 44,["houses","dates","begins","numbers","pair"],2,fun K=>gY K [.v,.v,.v,.v,.v] (da 5 hX)⟩
def OL (D:DI v sN) (q:NB v) (iM:kc.C v) (sg:nG.C v):D.O:=
 lT (n:=5) (m:=hX) D eN fun l hl=>match l,hl with | [cE,bO,fu,jQ,Iy],_=>fun _ _ _ _ _ _ hr=>show SF _ _ _ [some (.val cE),some (.val bO),some (.val fu),some (.val jQ),some (.val Iy),none,none,none,none,none,none] _ (hX cE bO fu jQ Iy) _ from
 (sv 5 eN.nd (aH rfl (aw (ae 4)) ao (fun _ _=>rfl)) fun nB=>
 (sv 6 eN.nd (aH rfl (aw (ae 4)) ao (fun _ _=>rfl)) fun qo=>
 (sv 7 eN.nd (mR Np (aH rfl (aw (ae 1)) (ae 5) (fun _ _=>rfl)) (aH rfl (aw (ae 2)) (ae 6) (fun _ _=>rfl))) fun zg=>
 (sv 8 eN.nd (Pj (cF rfl (ae 7) (fun _=>rfl)) (aU (n:=1) (af (ae 5) ak) rfl) (eC iM hr (af (aH rfl (aw (ae 0)) (ae 5) (fun _ _=>rfl)) ak))) fun below_4=>
 (sv 9 eN.nd (gc rfl rfl q.tuple (iA (jv rfl qh (cD rfl (bZ (ae 8))) (fun _ _ _ _ _=>(eB 0 qh.nd)) (fun _ _ _ _ _ p9=>(S0 (aX hr) (ae 2) (aU (n:=2) (af (ae 0) (af (qJ (ae 1) ao) ak)) rfl) (fun _ _=>rfl))) rfl))) fun MB=>
 (sv 10 eN.nd (gc rfl rfl q.tuple (iA (IQ rfl qg (VO (ae 3)) (fun _ _ _ _ _=>(eB 0 qg.nd)) (fun _ _ _ _ _ p14=>(xA.t (kl (dX (gT rfl (aX hr)) (aH rfl (aw (ae 0)) ao (fun _ _=>rfl)) (ae 2)) (gW (dX (Xx rfl (aX hr)) (aH rfl (aw (ae 0)) ao (fun _ _=>rfl)) (ae 1)))))) (fun _ _ _ _ _ p14=>(S0 (aX hr) (ae 3) (ae 0) (fun _ _=>rfl))) rfl))) fun zw=>
 (SF.cf (aU (n:=4) (af (eC sg hr (af (ae 0) (af (ae 5) ak))) (af (ae 6) (af (ae 9) (af (ae 10) ak)))) rfl) fun _=>rfl)))))))
abbrev Hg:DF:=⟨"dated",top 45,["great","dates"],5,fun K=>gY K [.v,.v] (da 2 kG)⟩
def VH (D:DI v Hg) (q:NB v) (kJ:nF.C v) (yF:jB.C v) (LJ:oZ.C v) (O7:sN.C v):D.O:=
 lT (n:=2) (m:=kG) D me fun l hl=>match l,hl with | [bN,bO],_=>fun _ _ _ _ _ _ hr=>show SF _ _ _ [some (.val bN),some (.val bO),none,none,none,none] _ (kG bN bO) _ from
 (sv 2 me.nd (eC kJ hr (af (ae 0) ak)) fun gw=>
 (sl 3 me.nd (IT rfl (cM (a9 (n:=1) (af ao ak) rfl)) (cM (VA rfl rfl q.sorted (cM (lC yF hr (af (ae 2) (af (ae 1) ak))))))) fun xv=>
 SF.cV 3 rfl (sl 4 me.nd (lC LJ hr (af (ae 0) (af (ae 1) (af (ae 3) ak)))) fun F6=>
 SF.cV 4 rfl (sv 5 me.nd (ahf (Wz rfl rfl (aX hr) rfl q.dict (cM (Lb rfl oE (qu rfl rfl q.enumerate (bZ (ae 4))) (fun _ _ _ _ _=>(V6 rfl (gH rfl (aP (eB 0 oE.nd) (aP (eB 1 oE.nd) eK))))) (fun _ _ _ _ _ t17=>(aU (n:=2) (af (ae 1) (af (ae 0) ak)) rfl)) (RH rfl rfl (by decide)) (by decide))))) fun vM=>
 (SF.cf (gc rfl rfl q.tuple (iA (jv rfl wo (cD rfl (bZ (ae 4))) (fun _ _ _ _ _=>(eB 0 wo.nd)) (fun _ _ _ _ _ p21=>(eC O7 hr (af (ae 3) (af (ae 2) (af (ae 1) (af (ae 4) (af (ae 0) ak))))))) rfl))) fun _=>rfl)))))
abbrev ph:DF:=⟨"_law_pot",top 47,["_law_script","_law_k"],1,fun K=>jJ K [.v,.v] (da 2 fR)⟩
def Ls (D:DI v ph) (q:NB v):D.O:=
 Qa (n:=2) (m:=fR) D iW fun l hl=>match l,hl with | [dh,k_],_=>fun _ _ _ _ _ _ hr=>show SF _ _ _ [some (.val dh),some (.val k_),none,none] _ (fR dh k_) _ from
 (sv 2 iW.nd ao fun Td=>
 (SF.ifS (out1:=fun (s3:PV)=>.nx ([some (.val dh),some (.val k_),some (.val s3),none]:aY)) (dX Np (ae 1) (dZ rfl rfl q.len (ae 0)))
 (sv 2 iW.nd (adQ rfl q.abs (aH rfl (aw (ae 0)) (ae 1) (fun _ _=>rfl))) fun Tc=>
 (SF.nil rfl (.keep (.keep (.keep (.keep .nil))))))
 (SF.nil rfl (.keep (.keep (.keep (.keep .nil)))))
 fun s3=>(sv 3 iW.nd (tL (qK (ae 2) (tL (SX ao ao) (SX ao ao))) (uV rfl q.int (mR acJ (ae 2) (SX ao ao)))) fun qL=>
 (SF.mi (a9 (n:=3) (af (ae 3) (af (qK (cj rfl (cj rfl (ae 2) (tL ao (ae 1))) ao) ao) (af ao ak))) rfl) fun _=>rfl))))
abbrev bR:DF:=⟨"_law_take",top 48,["_law_pot_here","_law_many"],1,fun K=>gY K [.p (dW du),.v] (da 1 bc)⟩
def Ja (D:DI v bR):D.O:=
 YT (n:=1) (fnO (n:=1) (m:=gs) D.fn ku rfl fun ad dG l hl=>match l,hl with | [gq],_=>fun _ _ _ _ _ _ hr=>show SF _ _ _ [some (.ol (some ad) dG),some (.val gq),none,none] _ (gs dG gq) _ from
 (SF.Lz (dX Xy (aH rfl (bX 0) ao (fun _ _=>rfl)) ao)
 (sv 2 ku.nd (qK (aH rfl (bX 0) ao (fun _ _=>rfl)) (ae 1)) fun NR=>
 (SF.Kp 0 rfl rfl (.inl rfl) (XW (aH rfl (bX 0) ao (fun _ _=>rfl)) (ae 1)) ao fun oA=>
 (SF.abV 0 (k:=fun x5=>(x5,oA)) rfl (ae 2) fun _=>rfl)))
 (SF.ahj 0 rfl rfl rfl (.inl rfl) ao ao ZM acM fun iB=>
 (sv 3 ku.nd (qK (cj rfl (cj rfl (tL (aH rfl (bX 0) ao (fun _ _=>rfl)) ao) (tL ao (aH rfl (bX 0) ao (fun _ _=>rfl)))) ao) ao) fun vS=>
 (SF.Kp 0 rfl rfl (.inl rfl) (qK (tL (ae 3) (cj rfl (cj rfl (qK (ae 3) ao) (tL ao (aH rfl (bX 0) ao (fun _ _=>rfl)))) ao)) ao) ao fun iX=>
 (SF.abV 0 (k:=fun oq=>(oq,iX)) rfl (qK (XW (aH rfl (bX 0) ao (fun _ _=>rfl)) ao) (ae 1)) fun _=>rfl)))))) Uo
abbrev dC:DF:=⟨"_law_pick",top 49,["_law_pot_here","_law_some"],2,fun K=>gY K [.p (dW du),.v] (da 1 bp)⟩
def Jb (D:DI v dC) (q:NB v) (aK:bR.C v):D.O:=
 lT (n:=1) (m:=bp) D FT fun l hl=>match l,hl with | [HZ],_=>fun _ _ _ _ _ _ hr=>show SF _ _ _ [some (.iC (dW du)),some (.val HZ)] _ (bp HZ) _ from
 (SF.cf (aH rfl (aw (ae 1)) (eC aK hr (bx 0 (af (dZ rfl rfl q.len (ae 1)) ak))) (fun _ _=>rfl)) fun _=>rfl)
abbrev lj:DF:=⟨"_law_words",top 50,["_law_pot_here","_law_many"],2,fun K=>jJ K [.p (dW du),.v] (da 1 cQ)⟩
def Gw (D:DI v lj) (q:NB v) (aK:bR.C v):D.O:=
 Qa (n:=1) (m:=cQ) D bA fun l hl=>match l,hl with | [gq],_=>fun _ _ _ _ _ _ hr=>show SF _ _ _ [some (.iC (dW du)),some (.val gq),none,none,none,none,none,none,none,none] _ (cQ gq) _ from
 (sv 2 bA.nd jd fun rS=>
 (sv 3 bA.nd (eC aK hr (bx 0 (af ao ak))) fun uT=>
 (sv 4 bA.nd (aH rfl (iA (a9 (n:=6) (af ao (af ao (af ao (af ao (af ao (af ao ak)))))) rfl)) (eC aK hr (bx 0 (af ao ak))) (fun _ _=>rfl)) fun Kg=>
 (sv 5 bA.nd (aH rfl (iA (a9 (n:=2) (af jd (af jd ak)) rfl)) (eC aK hr (bx 0 (af ao ak))) (fun _ _=>rfl)) fun Fl=>
 (sl 6 bA.nd (a9 (n:=4) (af jd (af jd (af jd (af jd ak)))) rfl) fun G7=>
 SF.cV 6 rfl (sl 7 bA.nd (a9 (n:=0) ak rfl) fun wR=>
 (SF.GZ (hd:=(fun (Yy:List PV)=>([some (.iC (dW du)),some (.val gq),some (.val rS),some (.val uT),some (.val Kg),some (.val Fl),some (.val (.cl G7)),some (.ol none Yy),none,none]:aY))) (s0:=wR) AN rfl (fi rfl q.range (ae 1)) (.keep (.keep (.keep (.keep (.keep (.keep (.keep (.keep (.keep (.keep .nil)))))))))) (eB 8 bA.nd) (fun Yy ZF=>
 (sv 9 bA.nd (adN (ae 2) (qK (cj rfl (ae 3) (tL (ae 4) (ae 8))) ao) (fun _ _=>rfl)) fun yZ=>
 (SF.append 7 rfl rfl rfl (.inl rfl) (cj rfl (cj rfl (ae 5) (ae 9)) (aH rfl (aw (ae 6)) (qK (cj rfl (ae 3) (ae 8)) ao) (fun _ _=>rfl))) fun Jm=>
 (SF.gI rfl (.keep (.keep (.keep (.keep (.keep (.keep (.keep (.keep (.drop (.drop .nil)))))))))))))) fun Yy=>
 (SF.QO 7 rfl rfl))))))))
abbrev je:DF:=⟨"_law_tree",top 51,["_law_pot_here","_law_words_here"],2,fun K=>gY K [.p (dW du),.v] (da 1 eD)⟩
def I0 (D:DI v je) (q:NB v) (aK:bR.C v):D.O:=
 lT (n:=1) (m:=eD) D dF fun l hl=>match l,hl with | [cJ],_=>fun _ _ _ _ _ _ hr=>show SF _ _ _ [some (.iC (dW du)),some (.val cJ),none,none,none,none] _ (eD cJ) _ from
 (sl 2 dF.nd (Zs rfl rfl q.list (aw (ae 1))) fun vt=>
 (sv 3 dF.nd (eC aK hr (bx 0 (af ao ak))) fun iw=>
 (SF.Mv (hd:=(fun (s4:List PV)=>([some (.iC (dW du)),some (.val cJ),some (.ol none s4),some (.val iw),none,none]:aY))) (s0:=vt) AN (.keep (.keep (.keep (.keep (.keep (.keep .nil)))))) (fun s4=>(dX Xy (sD rfl rfl q.len (bX 2)) ao)) (fun s4=>
 (sv 4 dF.nd (aH rfl (iA (a9 (n:=4) (af (eC aK hr (bx 0 (af (qJ (sD rfl rfl q.len (bX 2)) ao) ak))) (af (qJ (sD rfl rfl q.len (bX 2)) ao) (af ao (af ao ak)))) rfl)) (ae 3) (fun _ _=>rfl)) fun pC=>
 (sv 5 dF.nd (aU (n:=2) (af (aH rfl (bX 2) (ae 4) (fun _ _=>rfl)) (af (aH rfl (bX 2) (cj rfl (ae 4) ao) (fun _ _=>rfl)) ak)) rfl) fun uJ=>
 (SF.ifS (out1:=fun (s18:PV)=>.nx ([some (.iC (dW du)),some (.val cJ),some (.ol none s4),some (.val iw),some (.val pC),some (.val s18)]:aY)) (xA.t (kl (dX (gT rfl (aX hr)) (ae 3) ao) (gW (dX (gT rfl (aX hr)) (eC aK hr (bx 0 (af ao ak))) ao))))
 (sv 5 dF.nd (aU (n:=2) (af (aH rfl (bX 2) (cj rfl (ae 4) ao) (fun _ _=>rfl)) (af (aH rfl (bX 2) (ae 4) (fun _ _=>rfl)) ak)) rfl) fun uI=>
 (SF.nil rfl (.keep (.keep (.keep (.keep (.keep (.keep .nil))))))))
 (SF.nil rfl (.keep (.keep (.keep (.keep (.keep (.keep .nil)))))))
 fun s18=>(SF.abL 2 rfl rfl (.inl rfl) (a9 (n:=1) (af (ae 5) ak) rfl) (ae 4) (cj rfl (ae 4) ao) fun uG=>
 (SF.gI rfl (.keep (.keep (.keep (.keep (.drop (.drop .nil)))))))))))) fun s4=>
 (SF.cf (aH rfl (bX 2) ao (fun _ _=>rfl)) fun _=>rfl))))
abbrev lx:DF:=⟨"_law_great",top 52,["_law_pot_here"],3,fun K=>gY K [.p (dW du)] (da 0 dA)⟩
def Gz (D:DI v lx) (q:NB v) (mH:je.C v) (GQ:lj.C v) (aK:bR.C v):D.O:=
 lT (n:=0) (m:=dA) D yk fun l hl=>match l,hl with | [],_=>fun _ _ _ _ _ _ hr=>show SF _ _ _ [some (.iC (dW du))] _ (dA) _ from
 (SF.cf (eC mH hr (bx 0 (af (zl (lC GQ hr (bx 0 (af (cj rfl ao (eC aK hr (bx 0 (af (aH rfl (iA (a9 (n:=2) (af ao (af ao ak)) rfl)) (uV rfl q.int (mR (gT rfl (aX hr)) (eC aK hr (bx 0 (af ao ak))) ao)) (fun _ _=>rfl)) ak)))) ak)))) ak))) fun _=>rfl)
abbrev fo:DF:=⟨"_law_nodes",top 53,["_law_tree_here"],12,fun K=>jJ K [.v] (da 1 (a8 12))⟩
theorem qq (D:DI v fo) (q:NB v):∀n,iQ v.P v.w v.K v.mg v.base xW (n+0) D.f D.fd ["_law_tree_here"] (jJ v.K [.v] (da 1 (a8 n)))
 | 0=>XM (Uz fun l Q hl=>match l,hl with | [cL],_=>fun h=>h.elim)
 | n+1=>have cv:=D.cN (qq D q n)
  fnL (k:=n+0) (n:=1) (m:=a8 (n+1)) D.fn gb rfl (Rn Ga) fun l hl=>match l,hl with | [cL],_=>fun _ _ _ _ _ _ hr=>show SF _ _ _ [some (.val cL),none,none,none] _ (a8 (n+1) cL) _ from
 (SF.Lz (cF rfl (fB rfl .str rfl q.isinstance (ae 0) rfl q.str boot_str) (fun _=>rfl))
 (SF.mi (a9 (n:=1) (af (ae 0) ak) rfl) fun _=>rfl)
 (sl 1 gb.nd (lC cv hr (af (aH rfl (aw (ae 0)) ao (fun _ _=>rfl)) ak)) fun FV=>
 (sv 2 gb.nd (sD rfl rfl q.len (bX 1)) fun vU=>
 (SF.GZ (hd:=(fun (s6:List PV)=>([some (.val cL),some (.ol none s6),some (.val vU),none]:aY))) (s0:=FV) AN rfl (cD rfl (zb (lC cv hr (af (aH rfl (aw (ae 0)) ao (fun _ _=>rfl)) ak)))) (.keep (.keep (.keep (.keep .nil)))) (eB 3 gb.nd) (fun s6 Ib=>
 (SF.append 1 rfl rfl rfl (.inl rfl) (Pj (cF rfl (fB rfl .str rfl q.isinstance (ae 3) rfl q.str boot_str) (fun _=>rfl)) (ae 3) (aU (n:=2) (af (cj rfl (aH rfl (aw (ae 3)) ao (fun _ _=>rfl)) (ae 2)) (af (cj rfl (aH rfl (aw (ae 3)) ao (fun _ _=>rfl)) (ae 2)) ak)) rfl)) fun QN=>
 (SF.gI rfl (.keep (.keep (.keep (.drop .nil))))))) fun s6=>
 (SF.mi (IT rfl (Kz 1) (cM (a9 (n:=1) (af (aU (n:=2) (af (qJ (ae 2) ao) (af (qJ (sD rfl rfl q.len (bX 1)) ao) ak)) rfl) ak) rfl))) fun _=>rfl)))))
abbrev lA:DF:=⟨"_law_dates",top 54,["_law_pot_here","_law_rows"],3,fun K=>gY K [.p (dW du),.v] (da 1 dP)⟩
def GB (D:DI v lA) (q:NB v) (bF:dC.C v) (aK:bR.C v):D.O:=
 lT (n:=1) (m:=dP) D cC fun l hl=>match l,hl with | [bf],_=>fun _ _ _ _ _ _ hr=>show SF _ _ _ [some (.iC (dW du)),some (.val bf),none,none,none,none,none] _ (dP bf) _ from
 (sl 2 cC.nd (RL (a9 (n:=1) (af ao ak) rfl) (dZ rfl rfl q.len (ae 1))) fun k6=>
 (sl 4 cC.nd (Xt rfl gJ (qu rfl rfl q.enumerate (bZ (ae 1))) (fun _ _ _ _ _=>(V6 rfl (gH rfl (aP (eB 0 gJ.nd) (aP (eB 1 gJ.nd) eK))))) (fun _ _ _ _ _ t9=>(lZ (cF rfl (fB rfl .str rfl q.isinstance (ae 1) rfl q.str boot_str) (fun _=>rfl)))) (fun _ _ _ _ _ t9=>(ae 0)) (RH rfl rfl (by decide)) (by decide)) fun K8=>
 (sv 5 cC.nd ao fun Hf=>
 (SF.Mv (hd:=(fun (ub:List PV×List PV×PV)=>([some (.iC (dW du)),some (.val bf),some (.ol none ub.1),none,some (.ol none ub.2.1),some (.val ub.2.2),none]:aY))) (s0:=(k6,K8,Hf)) AN (.keep (.keep (.keep (.keep (.keep (.keep (.keep .nil))))))) (fun ub=>(Qw rfl (aX hr) (Kz 4))) (fun ub=>
 (SF.as (aaq 4 rfl (aap (i:=6) rfl cC.nd rfl rfl lM (cD rfl (bZ (ae 4))) (fun _ _ _ _ _=>(eB 0 lM.nd)) (fun _ _ _ _ _ p15=>(xA.t (kl (zZ rfl (aX hr) (aH rfl (aw (aH rfl (aw (ae 2)) (ae 0) (fun _ _=>rfl))) ao (fun _ _=>rfl)) (aw (ae 1))) (gW (zZ rfl (aX hr) (aH rfl (aw (aH rfl (aw (ae 2)) (ae 0) (fun _ _=>rfl))) ao (fun _ _=>rfl)) (aw (ae 1))))))) (fun _ _ _ _ _ p15=>(ae 0)) rfl)) fun Ih=>
 SF.cV 6 rfl (sv 3 cC.nd (eC bF hr (bx 0 (af (ae 6) ak))) fun wH=>
 (sv 5 cC.nd (cj rfl (cj rfl (ae 5) ao) (eC aK hr (bx 0 (af (aH rfl (iA (a9 (n:=3) (af ao (af ao (af ao ak))) rfl)) (eC aK hr (bx 0 (af ao ak))) (fun _ _=>rfl)) ak)))) fun He=>
 (SF.Kp 2 rfl rfl (.inl rfl) (ae 5) (ae 3) fun n9=>
 (SF.remove 4 rfl rfl rfl (.inr (.inl rfl)) (ae 3) fun Nh=>
 (SF.gI rfl (.keep (.keep (.keep (.drop (.keep (.keep (.drop .nil)))))))))))))) fun ub=>
 (SF.cf (gc rfl rfl q.tuple (bX 2)) fun _=>rfl)))))
abbrev lq:DF:=⟨"_law_small",top 55,["_law_pot_here","_law_great_here"],13,fun K=>gY K [.p (dW du),.v] (da 1 dM)⟩
def Gx (D:DI v lq) (q:NB v) (cv:fo.C v) (aK:bR.C v) (mH:je.C v) (bF:dC.C v):D.O:=
 lT (n:=1) (m:=dM) D jr fun l hl=>match l,hl with | [bE],_=>fun _ _ _ _ _ _ hr=>show SF _ _ _ [some (.iC (dW du)),some (.val bE),none,none] _ (dM bE) _ from
 (sl 2 jr.nd (IQ rfl lL (cD rfl (zb (lC cv hr (af (ae 1) ak)))) (fun _ _ _ _ _=>(eB 0 lL.nd)) (fun _ _ _ _ _ p4=>(cF rfl (fB rfl .str rfl q.isinstance (ae 0) rfl q.str boot_str) (fun _=>rfl))) (fun _ _ _ _ _ p4=>(ae 0)) rfl) fun pL=>
 SF.cV 2 rfl (sv 3 jr.nd (cj rfl ao (eC aK hr (bx 0 (af (aH rfl (iA (a9 (n:=2) (af ao (af ao ak)) rfl)) (uV rfl q.int (mR (gT rfl (aX hr)) (eC aK hr (bx 0 (af ao ak))) ao)) (fun _ _=>rfl)) ak)))) fun RC=>
 (SF.cf (eC mH hr (bx 0 (af (zl (jv rfl lK (fi rfl q.range (ae 3)) (fun _ _ _ _ _=>(eB 0 lK.nd)) (fun _ _ _ _ _ p12=>(eC bF hr (bx 1 (af (ae 2) ak)))) rfl)) ak))) fun _=>rfl)))
abbrev fq:DF:=⟨"_law_any_ground",top 56,["_law_pot_here","_law_great_here"],13,fun K=>gY K [.p (dW du),.v] (da 1 bJ)⟩
def qr (D:DI v fq) (aK:bR.C v) (Su:xn.C v) (V5:Hg.C v) (GW:lA.C v) (cv:fo.C v):D.O:=
 lT (n:=1) (m:=bJ) D oz fun l hl=>match l,hl with | [bE],_=>fun _ _ _ _ _ _ hr=>show SF _ _ _ [some (.iC (dW du)),some (.val bE)] _ (bJ bE) _ from
 (SF.Lz (dX (gT rfl (aX hr)) (eC aK hr (bx 0 (af ao ak))) ao)
 (SF.cf (eC Su hr (af (ae 1) ak)) fun _=>rfl)
 (SF.cf (eC V5 hr (af (ae 1) (af (eC GW hr (bx 0 (af (zl (lC cv hr (af (ae 1) ak))) ak))) ak))) fun _=>rfl))
abbrev ly:DF:=⟨"_law_deeds",top 57,["_law_stays","_law_stay"],1,fun K=>jJ K [.v,.v] (da 2 dN)⟩
def GA (D:DI v ly) (q:NB v):D.O:=
 Qa (n:=2) (m:=dN) D cB fun l hl=>match l,hl with | [av,aL],_=>fun _ _ _ _ _ _ hr=>show SF _ _ _ [some (.val av),some (.val aL),none,none,none,none,none,none] _ (dN av aL) _ from
 (SF.Yv (aH rfl (aw (ae 0)) (ae 1) (fun _ _=>rfl)) (g_4 rfl (gH rfl (aP (eB 2 cB.nd) (aP (eB 3 cB.nd) (aP (eB 4 cB.nd) (aP (eB 5 cB.nd) eK)))))) fun t3=>
 (sl 6 cB.nd (a9 (n:=1) (af (aU (n:=3) (af jd (af (ae 1) (af (ae 1) ak))) rfl) ak) rfl) fun GY=>
 (SF.ifS (out1:=fun (s19:List PV)=>.nx ([some (.val av),some (.val aL),some (.val t3.1),some (.val t3.2.1),some (.val t3.2.2.1),some (.val t3.2.2.2),some (.ol none s19),none]:aY)) (dX (gT rfl (aX hr)) (dZ rfl rfl q.len (ae 4)) ao)
 (SF.extend 6 rfl rfl rfl (.inl rfl) (iA (a9 (n:=2) (af (aU (n:=3) (af jd (af (aH rfl (aw (ae 4)) ao (fun _ _=>rfl)) (af (aH rfl (aw (ae 4)) ao (fun _ _=>rfl)) ak))) rfl) (af (aU (n:=3) (af jd (af (aH rfl (aw (ae 4)) ao (fun _ _=>rfl)) (af (aH rfl (aw (ae 4)) ao (fun _ _=>rfl)) ak))) rfl) ak)) rfl)) fun Jn=>
 (SF.nil rfl (.keep (.keep (.keep (.keep (.keep (.keep (.keep (.keep .nil))))))))))
 (SF.nil rfl (.keep (.keep (.keep (.keep (.keep (.keep (.keep (.keep .nil)))))))))
 fun s19=>(SF.GZ (hd:=(fun (UH:List PV)=>([some (.val av),some (.val aL),some (.val t3.1),some (.val t3.2.1),some (.val t3.2.2.1),some (.val t3.2.2.2),some (.ol none UH),none]:aY))) (s0:=s19) AN rfl (cD rfl (bZ (ae 5))) (.keep (.keep (.keep (.keep (.keep (.keep (.keep (.keep .nil)))))))) (eB 7 cB.nd) (fun UH jP=>
 (SF.extend 6 rfl rfl rfl (.inl rfl) (iA (a9 (n:=2) (af (aU (n:=3) (af jd (af (ae 1) (af (ae 7) ak))) rfl) (af (aU (n:=3) (af jd (af (ae 7) (af (ae 1) ak))) rfl) ak)) rfl)) fun qF=>
 (SF.gI rfl (.keep (.keep (.keep (.keep (.keep (.keep (.keep (.drop .nil))))))))))) fun UH=>
 (SF.QO 6 rfl rfl)))))
abbrev eX:DF:=⟨"_law_done",top 58,["_law_stays","_law_rows","_law_can_here","_law_node","_law_stay"],2,fun K=>jJ K [.v,.v,.v,.v,.v] (da 5 bP)⟩
def Jd (D:DI v eX) (q:NB v) (GV:ly.C v):D.O:=
 Qa (n:=5) (m:=bP) D pW fun l hl=>match l,hl with | [av,bf,aN,a7,aL],_=>fun _ _ _ _ _ _ hr=>show SF _ _ _ [some (.val av),some (.val bf),some (.val aN),some (.val a7),some (.val aL),none] _ (bP av bf aN a7 aL) _ from
 (sv 5 pW.nd (aH rfl (aw (ae 1)) (ae 3) (fun _ _=>rfl)) fun Ic=>
 (SF.Lz (cF rfl (fB rfl .str rfl q.isinstance (ae 5) rfl q.str boot_str) (fun _=>rfl))
 (SF.mi (RL (a9 (n:=1) (af (aU (n:=3) (af jd (af (ae 4) (af (ae 4) ak))) rfl) ak) rfl) (uV rfl q.int (xh (mR (gT rfl (aX hr)) (aH rfl (aw (aH rfl (aw (ae 0)) (ae 4) (fun _ _=>rfl))) ao (fun _ _=>rfl)) (aU (n:=0) ak rfl)) (tJ (mR (gT rfl (aX hr)) (aH rfl (aw (aH rfl (aw (ae 0)) (ae 4) (fun _ _=>rfl))) ao (fun _ _=>rfl)) (ae 5)))))) fun _=>rfl)
 (SF.mi (IQ rfl mC (cD rfl (zb (lC GV hr (af (ae 0) (af (ae 4) ak))))) (fun _ _ _ _ _=>(eB 0 mC.nd)) (fun _ _ _ _ _ M8=>(xA.t (kl (cF rfl (aH rfl (aw (aH rfl (aw (ae 1)) (aH rfl (aw (ae 2)) ao (fun _ _=>rfl)) (fun _ _=>rfl))) (aH rfl (aw (ae 0)) ao (fun _ _=>rfl)) (fun _ _=>rfl)) (fun _=>rfl)) (gW (cF rfl (aH rfl (aw (aH rfl (aw (ae 1)) (aH rfl (aw (ae 2)) ao (fun _ _=>rfl)) (fun _ _=>rfl))) (aH rfl (aw (ae 0)) ao (fun _ _=>rfl)) (fun _ _=>rfl)) (fun _=>rfl)))))) (fun _ _ _ _ _ M8=>(ae 0)) rfl) fun _=>rfl)))
abbrev pj:DF:=⟨"_law_can",top 59,["_law_stays","_law_rows"],3,fun K=>jJ K [.v,.v] (da 2 fU)⟩
def Lu (D:DI v pj) (q:NB v) (cx:eX.C v):D.O:=
 Qa (n:=2) (m:=fU) D gj fun l hl=>match l,hl with | [av,bf],_=>fun _ _ _ _ _ _ hr=>show SF _ _ _ [some (.val av),some (.val bf),none,none,none,none] _ (fU av bf) _ from
 (SF.abN (i:=2) gj.nd rfl (Cj rfl)
 (SF.GZ (hd:=(fun (s3:(List Addr×List (List PV)))=>([some (.val av),some (.val bf),some (.uK s3.1 s3.2),none,none,none]:aY))) (s0:=(([]:List Addr),([]:List (List PV)))) AN rfl (fi rfl q.range (dZ rfl rfl q.len (ae 1))) (.keep (.keep (.keep (.keep (.keep (.keep .nil)))))) (eB 3 gj.nd) (fun s3 vP=>
 (SF.Tv 2 rfl rfl rfl (.inr (.inl rfl)) (RL (a9 (n:=1) (af nR ak) rfl) (dZ rfl rfl q.len (ae 0))) fun b9 wU=>
 (SF.GZ (hd:=(fun (P8:(List Addr×List (List PV)))=>([some (.val av),some (.val bf),some (.uK P8.1 P8.2),some (.val vP),none,none]:aY))) (s0:=(b9,wU)) AN rfl (fi rfl q.range (dZ rfl rfl q.len (ae 0))) (.keep (.keep (.keep (.keep (.keep (.keep .nil)))))) (eB 4 gj.nd) (fun P8 uE=>
 (sv 5 gj.nd (NN 2 rfl (XX 2 rfl (adP rfl rfl rfl q.any (cM (jv rfl n5 (cD rfl (bZ (aH rfl (aw (aH rfl (aw (ae 0)) (ae 4) (fun _ _=>rfl))) ao (fun _ _=>rfl)))) (fun _ _ _ _ _=>(eB 0 n5.nd)) (fun _ _ _ _ _ p16=>(aH rfl (aw (aH rfl (aw (ae 1)) (ae 2) (fun _ _=>rfl))) (ae 0) (fun _ _=>rfl))) rfl))))) fun Xk=>
 (SF.abO 2 rfl rfl rfl (.inr (.inl rfl)) (NN 2 rfl (XX 2 rfl (adH (ae 5) (tJ (adJ rfl (aX hr) (cM (lC cx hr (af (ae 0) (af (ae 1) (af (ae 2) (af (ae 3) (af (ae 4) ak)))))))))))) (ae 3) (ae 4) (fun _ _=>rfl) fun Jl=>
 (SF.gI rfl (.keep (.keep (.keep (.keep (.drop (.drop .nil)))))))))) fun P8=>
 (SF.gI rfl (.keep (.keep (.keep (.drop (.keep (.keep .nil)))))))))) fun s3=>
 (SF.adt 2 rfl (SF.QO 2 rfl rfl))))
abbrev m6:DF:=⟨"_law_path",top 60,["_law_pot_here","_law_stays","_law_rows","_law_can_here","_law_node","_law_stay"],3,fun K=>gY K [.p (dW du),.v,.v,.v,.v,.v] (da 5 dz)⟩
def Jc (D:DI v m6) (q:NB v) (aK:bR.C v) (cx:eX.C v) (bF:dC.C v):D.O:=
 lT (n:=5) (m:=dz) D fc fun l hl=>match l,hl with | [av,bf,aN,a7,aL],_=>fun _ _ _ _ _ _ hr=>show SF _ _ _ [some (.iC (dW du)),some (.val av),some (.val bf),some (.val aN),some (.val a7),some (.val aL),none,none,none,none] _ (dz av bf aN a7 aL) _ from
 (sl 6 fc.nd (a9 (n:=1) (af (ae 5) ak) rfl) fun ml=>
 (SF.GZ (hd:=(fun (s4:List PV)=>([some (.iC (dW du)),some (.val av),some (.val bf),some (.val aN),some (.val a7),some (.val aL),some (.ol none s4),none,none,none]:aY))) (s0:=ml) AN rfl (fi rfl q.range (dZ rfl rfl q.len (ae 1))) (.keep (.keep (.keep (.keep (.keep (.keep (.keep (.keep (.keep (.keep .nil)))))))))) (eB 7 fc.nd) (fun s4 Yg=>
 (SF.Ko (i:=8) rfl fc.nd rfl rfl mB (cD rfl (bZ (aH rfl (aw (aH rfl (aw (ae 1)) (aH rfl (bX 6) (mP ao) (fun _ _=>rfl)) (fun _ _=>rfl))) ao (fun _ _=>rfl)))) (fun _ _ _ _ _=>(eB 0 mB.nd)) (fun _ _ _ _ _ p8=>(cF rfl (aH rfl (aw (aH rfl (aw (ae 1)) (ae 2) (fun _ _=>rfl))) (ae 0) (fun _ _=>rfl)) (fun _=>rfl))) (fun _ _ _ _ _ p8=>(ae 0)) rfl fun Zc=>
 SF.cV 8 rfl (sv 9 fc.nd (adH (adO rfl (aX hr) (cM (lC cx hr (af (ae 1) (af (ae 2) (af (ae 3) (af (ae 4) (af (aH rfl (bX 6) (mP ao) (fun _ _=>rfl)) ak)))))))) (tJ (mR (gT rfl (aX hr)) (eC aK hr (bx 0 (af ao ak))) ao))) fun SV=>
 (SF.ifT (xA.t (kl (Qw rfl (aX hr) (FX (ae 8))) (gW (cF rfl (ae 9) (fun _=>rfl)))))
 (SF.append 6 rfl rfl rfl (.inl rfl) (eC bF hr (bx 0 (af (ae 8) ak))) fun gZ=>
 (SF.gI rfl (.keep (.keep (.keep (.keep (.keep (.keep (.keep (.drop (.drop (.drop .nil))))))))))))
 (SF.gI rfl (.keep (.keep (.keep (.keep (.keep (.keep (.keep (.drop (.drop (.drop .nil))))))))))))))) fun s4=>
 (SF.Mv (hd:=(fun (QL:List PV)=>([some (.iC (dW du)),some (.val av),some (.val bf),some (.val aN),some (.val a7),some (.val aL),some (.ol none QL),none,none,none]:aY))) (s0:=s4) AN (.keep (.keep (.keep (.keep (.keep (.keep (.keep (.keep (.keep (.keep .nil)))))))))) (fun QL=>(W9 rfl (aX hr) (cM (lC cx hr (af (ae 1) (af (ae 2) (af (ae 3) (af (ae 4) (af (aH rfl (bX 6) (mP ao) (fun _ _=>rfl)) ak))))))))) (fun QL=>
 (SF.append 6 rfl rfl rfl (.inl rfl) (eC bF hr (bx 0 (af (zl (IQ rfl mz (cD rfl (bZ (aH rfl (aw (aH rfl (aw (ae 1)) (aH rfl (bX 6) (mP ao) (fun _ _=>rfl)) (fun _ _=>rfl))) ao (fun _ _=>rfl)))) (fun _ _ _ _ _=>(eB 0 mz.nd)) (fun _ _ _ _ _ p30=>(cF rfl (aH rfl (aw (aH rfl (aw (ae 1)) (ae 2) (fun _ _=>rfl))) (ae 0) (fun _ _=>rfl)) (fun _=>rfl))) (fun _ _ _ _ _ p30=>(ae 0)) rfl)) ak))) fun p0=>
 (SF.gI rfl (.keep (.keep (.keep (.keep (.keep (.keep (.keep (.keep (.keep (.keep .nil))))))))))))) fun QL=>
 (SF.cf (gc rfl rfl q.tuple (bX 6)) fun _=>rfl))))
abbrev pe:DF:=⟨"_law_way",top 61,["_law_pot_here","_law_stays","_law_rows","_law_can_here","_law_node","_law_path_here"],15,fun K=>gY K [.p (dW du),.v,.v,.v,.v,.v] (da 5 (cR 12))⟩
theorem wy (D:DI v pe) (bF:dC.C v) (cx:eX.C v) (mI:m6.C v):∀n,iQ v.P v.w v.K v.mg v.base xW (n+3) D.f D.fd ["_law_pot_here","_law_stays","_law_rows","_law_can_here","_law_node","_law_path_here"] (gY v.K [.p (dW du),.v,.v,.v,.v,.v] (da 5 (cR n)))
 | 0=>XM (Ys fun l Q hl=>match l,hl with | [av,bf,aN,a7,eO],_=>fun h=>h.elim)
 | n+1=>have kK:=D.cN (wy D bF cx mI n)
  fnV (k:=n+3) (n:=5) (m:=cR (n+1)) D.fn eT rfl (iD (n:=5)) fun l hl=>match l,hl with | [av,bf,aN,a7,eO],_=>fun _ _ _ _ _ _ hr=>show SF _ _ _ [some (.iC (dW du)),some (.val av),some (.val bf),some (.val aN),some (.val a7),some (.val eO),none,none,none,none,none] _ (cR (n+1) av bf aN a7 eO) _ from
 (SF.Yv (eC bF hr (bx 0 (af (zl (lC cx hr (af (ae 1) (af (ae 2) (af (ae 3) (af (ae 4) (af (aH rfl (aw (ae 5)) (mP ao) (fun _ _=>rfl)) ak))))))) ak))) (g_3 rfl (gH rfl (aP (eB 6 eT.nd) (aP (eB 7 eT.nd) (aP (eB 8 eT.nd) eK))))) fun t8=>
 (SF.Lz (dX (gT rfl (aX hr)) (ae 6) jd)
 (SF.cf (aU (n:=2) (af (ae 5) (af (ae 6) ak)) rfl) fun _=>rfl)
 (sv 9 eT.nd (aH rfl (aw (ae 2)) (ae 4) (fun _ _=>rfl)) fun vF=>
 (sv 10 eT.nd (eC kK hr (bx 0 (af (ae 1) (af (ae 2) (af (ae 3) (af (aH rfl (aw (ae 9)) ao (fun _ _=>rfl)) (af (eC mI hr (bx 0 (af (ae 1) (af (ae 2) (af (ae 3) (af (aH rfl (aw (ae 9)) ao (fun _ _=>rfl)) (af (ae 7) ak))))))) ak))))))) fun Jq=>
 (SF.cf (aU (n:=4) (af (ae 5) (af (ae 6) (af (ae 10) (af (eC kK hr (bx 0 (af (ae 1) (af (ae 2) (af (ae 3) (af (aH rfl (aw (ae 9)) ao (fun _ _=>rfl)) (af (eC mI hr (bx 0 (af (ae 1) (af (ae 2) (af (ae 3) (af (aH rfl (aw (ae 9)) ao (fun _ _=>rfl)) (af (ae 8) ak))))))) ak))))))) ak)))) rfl) fun _=>rfl)))))
abbrev dU:DF:=⟨"_law_whole_way",top 62,["_law_pot_here","_law_stays","_law_small_here"],16,fun K=>gY K [.p (dW du),.v,.v] (da 2 ba)⟩
def rV (D:DI v dU) (q:NB v) (cv:fo.C v) (LS:pj.C v) (cx:eX.C v) (kK:pe.C v) (bF:dC.C v):D.O:=
 lT (n:=2) (m:=ba) D cm fun l hl=>match l,hl with | [av,iT],_=>fun _ _ _ _ _ _ hr=>show SF _ _ _ [some (.iC (dW du)),some (.val av),some (.val iT),none,none,none,none] _ (ba av iT) _ from
 (sl 3 cm.nd (lC cv hr (af (ae 2) ak)) fun vE=>
 SF.cV 3 rfl (sl 4 cm.nd (lC LS hr (af (ae 1) (af (ae 3) ak))) fun pz=>
 SF.cV 4 rfl (sv 5 cm.nd (qJ (dZ rfl rfl q.len (ae 3)) ao) fun La=>
 (SF.Ko (i:=6) rfl cm.nd rfl rfl gR (fi rfl q.range (dZ rfl rfl q.len (ae 1))) (fun _ _ _ _ _=>(eB 0 gR.nd)) (fun _ _ _ _ _ p10=>(Qw rfl (aX hr) (cM (lC cx hr (af (ae 4) (af (ae 3) (af (ae 1) (af (ae 2) (af (ae 0) ak))))))))) (fun _ _ _ _ _ p10=>(ae 0)) rfl fun QG=>
 SF.cV 6 rfl (SF.cf (eC kK hr (bx 0 (af (ae 1) (af (ae 3) (af (ae 4) (af (ae 5) (af (aU (n:=1) (af (eC bF hr (bx 0 (af (ae 6) ak))) ak) rfl) ak))))))) fun _=>rfl)))))
abbrev lu:DF:=⟨"_law_scene",top 63,["_law_pot_here"],17,fun K=>gY K [.p (dW du)] (da 0 fg)⟩
def Gy (D:DI v lu) (GU:lx.C v) (qE:fq.C v) (GR:lq.C v) (fX:dU.C v):D.O:=
 lT (n:=0) (m:=fg) D f9 fun l hl=>match l,hl with | [],_=>fun _ _ _ _ _ _ hr=>show SF _ _ _ [some (.iC (dW du)),none,none,none] _ (fg) _ from
 (sv 1 f9.nd (eC GU hr (bx 0 ak)) fun g9=>
 (sv 2 f9.nd (eC qE hr (bx 0 (af (ae 1) ak))) fun FJ=>
 (sv 3 f9.nd (eC GR hr (bx 0 (af (ae 1) ak))) fun kq=>
 (SF.cf (aU (n:=4) (af (ae 1) (af (ae 2) (af (ae 3) (af (eC fX hr (bx 0 (af (ae 2) (af (ae 3) ak)))) ak)))) rfl) fun _=>rfl))))
abbrev jC:DF:=⟨"_law_longer",top 64,["_law_stays","_law_way_here"],1,fun K=>gY K [.v,.v] (da 2 c9)⟩
def yz (D:DI v jC) (q:NB v):D.O:=
 lT (n:=2) (m:=c9) D mf fun l hl=>match l,hl with | [av,hV],_=>fun _ _ _ _ _ _ hr=>show SF _ _ _ [some (.val av),some (.val hV),none] _ (c9 av hV) _ from
 (SF.Ko (i:=2) rfl mf.nd rfl rfl jY (fi rfl q.range (dZ rfl rfl q.len (ae 0))) (fun _ _ _ _ _=>(eB 0 jY.nd)) (fun _ _ _ _ _ p4=>(abp rfl (aX hr) (aH rfl (aw (aH rfl (aw (ae 2)) ao (fun _ _=>rfl))) ao (fun _ _=>rfl)) (aw (aH rfl (aw (aH rfl (aw (ae 1)) (ae 0) (fun _ _=>rfl))) ao (fun _ _=>rfl))))) (fun _ _ _ _ _ p4=>(ae 0)) rfl fun Ht=>
 SF.cV 2 rfl (SF.Lz (W9 rfl (aX hr) (FX (ae 2)))
 (SF.cf tK fun _=>rfl)
 (SF.cf (cj rfl (aU (n:=1) (af (cj rfl (aU (n:=1) (af (aH rfl (aw (ae 2)) ao (fun _ _=>rfl)) ak) rfl) (aH rfl (aw (ae 1)) ao (fun _ _=>rfl))) ak) rfl) (NM rfl (ae 1) (Gd ao) Gf)) fun _=>rfl)))
abbrev XZ:DF:=⟨"law",top 65,["_law_script"],18,fun K=>gY K [.v] (da 1 kF)⟩
def acI (D:DI v XZ) (q:NB v) (LR:ph.C v) (GS:lu.C v) (wM:xk.C v) (yG:jC.C v) (fX:dU.C v):D.O:=
 lT (n:=1) (m:=kF) D jq fun l hl=>match l,hl with | [dh],_=>fun _ _ _ _ _ _ hr=>show SF _ _ _ [some (.val dh),none,none,none,none,none,none,none,none] _ (kF dh) _ from
 (SF.Sw (hd:=(fun (s6:Unit)=>([some (.val dh),none,none,none,none,none,none,none,none]:aY))) (s0:=()) (inj:=id) AN rfl (fi rfl q.range (adL rfl rfl q.max ao (adK rfl rfl q.min (dZ rfl rfl q.len (ae 0)) ao))) (.keep (.keep (.keep (.keep (.keep (.keep (.keep (.keep (.keep .nil))))))))) (eB 1 jq.nd) (fun _=>trivial) (fun s6 k_7=>
 (sl 2 jq.nd (lC LR hr (af (ae 0) (af (ae 1) ak))) fun vI=>SF.iC 2 rfl
 (SF.Yv (eC GS hr (bx 2 ak)) (g_4 rfl (gH rfl (aP (eB 3 jq.nd) (aP (eB 4 jq.nd) (aP (eB 5 jq.nd) (aP (eB 6 jq.nd) eK)))))) fun tq=>
 (SF.Sw (hd:=(fun (Xf:PV)=>([some (.val dh),some (.val k_7),some (.iC (dW du)),some (.val tq.1),some (.val tq.2.1),some (.val tq.2.2.1),some (.val Xf),none,none]:aY))) (s0:=tq.2.2.2) (inj:=Lp.out) AN rfl (fi rfl q.range ao) (.keep (.keep (.keep (.keep (.keep (.keep (.keep (.keep (.keep .nil))))))))) (eB 7 jq.nd) (fun _=>trivial) (fun Xf Ui=>
 (SF.Lz (xA.t (yP (dX rX (eC wM hr (af (ae 4) (af (ae 5) (af (ae 6) ak)))) nR) (rj (dX rX (eC wM hr (af (ae 4) (af (ae 5) (af (ae 6) ak)))) nR))))
 (SF.ret (k:=fun HK=>(Lp.out HK)) nR fun _=>rfl)
 (sv 8 jq.nd (eC yG hr (af (ae 4) (af (ae 6) ak))) fun iG=>
 (SF.Lz (xA.t (kl (dX VL (ae 8) tK) (gW (dX rX (eC wM hr (af (ae 4) (af (ae 5) (af (ae 8) ak)))) nR))))
 (SF.ret (k:=fun Yb=>(Lp.out Yb)) nR fun _=>rfl)
 (sv 6 jq.nd (eC fX hr (bx 2 (af (ae 4) (af (ae 5) ak)))) fun tj=>
 (SF.gI rfl (.keep (.keep (.keep (.keep (.keep (.keep (.keep (.drop (.drop .nil))))))))))))))) fun Xf=>
 (SF.gI rfl (.keep (.drop (.drop (.drop (.drop (.drop (.drop (.keep (.keep .nil)))))))))))))) fun s6=>
 (SF.cf nR fun _=>rfl))
end
def ad2 {v:EV}{h:Heap} (X:v.K.In h) (G:h.Ns mainGlobals v.mg) (q:NB v) {dq:Tok} (ft:v.mg "LONGEST_WORD"=some (.int 8 dq)) {jH:Tok} (nH:v.mg "LETTERS"=some (.str "abcdefghijklmnopqrstuvwxyz" jH)) {pP:Tok} (Hj:v.mg "UNDER"=some (.int 2 pP)) {ma:Tok} (xt:v.mg "BESIDE"=some (.int 3 ma)) {vo:Tok} (Ma:v.mg "NAME"=some (.int 0 vo)) {pS:Tok} (Hl:v.mg "FOUND"=some (.str "found" pS)) {pR:Tok} (Hk:v.mg "SPLIT"=some (.str "split" pR)) {vn:Tok} (L9:v.mg "OVER"=some (.str "over" vn)) {jI:Tok} (sW:v.mg "DOUBLED"=some (.str "doubled" jI)) (oQ:DX v.K "is_whole" (top 1)) (xa:DX v.K "is_row" (top 2)) (sE:DX v.K "is_word" (top 6)) (sF:DX v.K "is_tree" (top 8)) (oM:DX v.K "parts_of" (top 9)) (G9:DX v.K "nodes" (top 10)) (xc:DX v.K "halves" (top 11)) (oV:DX v.K "ahead_of" (top 12)) (oJ:DX v.K "under_at" (top 17)) (mS:DX v.K "beside_at" (top 18)) (sI:DX v.K "is_home" (top 19)) (sC:DX v.K "name_of" (top 20)) (oP:DX v.K "lines_up" (top 21)) (kQ:DX v.K "apart_from" (top 22)) (xg:DX v.K "ground" (top 23)) (oU:DX v.K "comes_in" (top 29)) (sL:DX v.K "done_at" (top 30)) (xb:DX v.K "ins_of" (top 31)) (mO:DX v.K "split_ins" (top 32)) (oO:DX v.K "over_ins" (top 33)) (oT:DX v.K "deeds_at" (top 34)) (sG:DX v.K "is_stay" (top 35)) (sH:DX v.K "is_path" (top 36)) (mQ:DX v.K "is_formed" (top 37)) (gN:DX v.K "ways_of_nodes" (top 38)) (sJ:DX v.K "is_done" (top 39)) (w9:DX v.K "is_way" (top 40)) (jz:DX v.K "split_dates" (top 42)) (oK:DX v.K "standing" (top 43)) (sA:DX v.K "stay_of" (top 44)) (Hc:DX v.K "dated" (top 45)) (oX:DX v.K "_law_pot" (top 47)) (mU:DX v.K "_law_take" (top 48)) (mV:DX v.K "_law_pick" (top 49)) (kR:DX v.K "_law_words" (top 50)) (mT:DX v.K "_law_tree" (top 51)) (kW:DX v.K "_law_great" (top 52)) (kU:DX v.K "_law_nodes" (top 53)) (kY:DX v.K "_law_dates" (top 54)) (kS:DX v.K "_law_small" (top 55)) (fm:DX v.K "_law_any_ground" (top 56)) (kX:DX v.K "_law_deeds" (top 57)) (mX:DX v.K "_law_done" (top 58)) (oY:DX v.K "_law_can" (top 59)) (mW:DX v.K "_law_path" (top 60)) (oW:DX v.K "_law_way" (top 61)) (f7:DX v.K "_law_whole_way" (top 62)) (kT:DX v.K "_law_scene" (top 63)) (jA:DX v.K "_law_longer" (top 64)) (oS:DX v.K "is_grown" (top 7)) (X6:DI v XZ):X6.O:=by
 obtain⟨xO⟩:=oQ.gQ (d:=o7) X G;obtain⟨JU⟩:=xa.gQ (d:=qN) X G;obtain⟨iu⟩:=sE.gQ (d:=ka) X G;obtain⟨zE⟩:=sF.gQ (d:=sP) X G;obtain⟨xK⟩:=oM.gQ (d:=o4) X G;obtain⟨NZ⟩:=G9.gQ (d:=nF) X G;obtain⟨JW⟩:=xc.gQ (d:=kc) X G;obtain⟨xS⟩:=oV.gQ (d:=lh) X G;obtain⟨xI⟩:=oJ.gQ (d:=iO) X G;obtain⟨tV⟩:=mS.gQ (d:=m5) X G;obtain⟨zH⟩:=sI.gQ (d:=sT) X G;obtain⟨zD⟩:=sC.gQ (d:=nG) X G;obtain⟨xN⟩:=oP.gQ (d:=o6) X G;obtain⟨qV⟩:=kQ.gQ (d:=k8) X G;obtain⟨JX⟩:=xg.gQ (d:=xn) X G;obtain⟨xR⟩:=oU.gQ (d:=pd) X G;obtain⟨zJ⟩:=sL.gQ (d:=sV) X G;obtain⟨JV⟩:=xb.gQ (d:=xl) X G;obtain⟨tT⟩:=mO.gQ (d:=mY) X G;obtain⟨xM⟩:=oO.gQ (d:=o5) X G;obtain⟨xQ⟩:=oT.gQ (d:=o9) X G;obtain⟨zF⟩:=sG.gQ (d:=sQ) X G;obtain⟨zG⟩:=sH.gQ (d:=sR) X G;obtain⟨tU⟩:=mQ.gQ (d:=mZ) X G;obtain⟨lP⟩:=gN.gQ (d:=gP) X G;obtain⟨zI⟩:=sJ.gQ (d:=sU) X G;obtain⟨JT⟩:=w9.gQ (d:=xk) X G;obtain⟨om⟩:=jz.gQ (d:=jB) X G;obtain⟨xJ⟩:=oK.gQ (d:=oZ) X G;obtain⟨zC⟩:=sA.gQ (d:=sN) X G;obtain⟨N2⟩:=Hc.gQ (d:=Hg) X G;obtain⟨xU⟩:=oX.gQ (d:=ph) X G;obtain⟨tX⟩:=mU.gQ (d:=bR) X G;obtain⟨tY⟩:=mV.gQ (d:=dC) X G;obtain⟨qW⟩:=kR.gQ (d:=lj) X G;obtain⟨tW⟩:=mT.gQ (d:=je) X G;obtain⟨q8⟩:=kW.gQ (d:=lx) X G;obtain⟨qZ⟩:=kU.gQ (d:=fo) X G;obtain⟨rf⟩:=kY.gQ (d:=lA) X G;obtain⟨qX⟩:=kS.gQ (d:=lq) X G;obtain⟨jk⟩:=fm.gQ (d:=fq) X G;obtain⟨q9⟩:=kX.gQ (d:=ly) X G;obtain⟨t4⟩:=mX.gQ (d:=eX) X G;obtain⟨xV⟩:=oY.gQ (d:=pj) X G;obtain⟨tZ⟩:=mW.gQ (d:=m6) X G;obtain⟨xT⟩:=oW.gQ (d:=pe) X G;obtain⟨kg⟩:=f7.gQ (d:=dU) X G;obtain⟨qY⟩:=kT.gQ (d:=lu) X G;obtain⟨oo⟩:=jA.gQ (d:=jC) X G;obtain⟨xP⟩:=oS.gQ (d:=(o8 iu.f)) X G;have Ml:=xO.c (Lj xO q);have JL:=JU.c (RU JU q);have P6:=iu.cA (y8 iu q ft nH);have aa7:=iu.c (y8 iu q ft nH);have Mm:=xP.c (Lk xP P6 JL);have PX:=zE.c (OO zE iu.at' Mm);have Mi:=xK.c (Lg xK q);have uY:=NZ.c (VG NZ q Mi);have qR:=JW.c (RX JW q);have xy:=xS.c (Lr xS q uY qR);have pD:=xI.c (Ld xI Hj);have JN:=tV.c (IZ tV xt);have P0:=zH.c (OS zH Ma pD);have zx:=zD.c (OM zD q);have Mk:=xN.c (Li xN q xy);have Hw:=qV.c (Gv qV q);have TK:=JX.c (RY JX q uY Mk zx qR Hw);have Mo:=xR.c (Lq xR);have P5:=zJ.c (OU zJ);have TJ:=JV.c (RV JV q Mo);have JK:=tT.c (IW tT q pD);have Mj:=xM.c (Lh xM JN);have Mn:=xQ.c (Lo xQ q Hl Hk L9 sW P0 JK Mj);have PY:=zF.c (OP zF q Ml);have PZ:=zG.c (OQ zG q PY pD);have JM:=tU.c (IX tU q PZ JL);have uC:=lP.c (uo lP q JM qR);have P4:=zI.c (OT zI TJ Mn P5);have TH:=JT.c (RT JT q PX uY uC P4);have yK:=om.c (yx om q);have Mh:=xJ.c (Lf xJ q xy);have PU:=zC.c (OL zC q qR zx);have WR:=N2.c (VH N2 q uY yK Mh PU);have Mq:=xU.c (Ls xU q);have cK:=tX.c (Ja tX);have gC:=tY.c (Jb tY q cK);have Hx:=qW.c (Gw qW q cK);have tP:=tW.c (I0 tW q cK);have HA:=q8.c (Gz q8 q tP Hx cK);have lG:=qZ.c (qq qZ q 12);have HC:=rf.c (GB rf q gC cK);have Hy:=qX.c (Gx qX q lG cK tP gC);have qS:=jk.c (qr jk cK TK WR HC lG);have HB:=q9.c (GA q9 q);have jg:=t4.c (Jd t4 q HB);have Mr:=xV.c (Lu xV q jg);have JO:=tZ.c (Jc tZ q cK jg gC);have Mp:=xT.c (wy xT gC jg JO 12);have kd:=kg.c (rV kg q lG Mr jg Mp gC);have Hz:=qY.c (Gy qY HA qS Hy kd);have yL:=oo.c (yz oo q);exact acI X6 q Mq Hz TH yL kd
def MP (K:Ab):Sp:=fun vs H Q _=>∃(a:Addr) (ns:List Int),vs=[.ref a]/\WU H/\df K H a (ns.map V.int)/\ns.length<=63/\∀H',Q (.bl true) H'
def Vy {K:Ab}:∀vs H Q E,MP K vs H Q E->gY K [.v] (da 1 kF) vs H Q E:=fun vs H Q E ⟨a,ns,e,hO,hS,hl,q⟩=>by
 subst e;have fz:X5 K H a (ns.map V.int):=by
  rcases hS with (h | ⟨o,h⟩) | h
  ·rcases hO a with z | ⟨o,xs,z⟩
   ·rw [h] at z;cases z
   ·rw [h] at z;cases z
  ·exact .inl ⟨o,h⟩
  ·exact .inr h
 refine⟨[.cl (ns.map PV.int)],.v (.cl fz (qz _ _ ns)) .nil,(kF (.cl (ns.map PV.int))).mono (fun v e u H' _ r=>?_) (RK ns hl)⟩;subst e;cases r;exact q H'
def all_mk {l:EJ}{w:World}{K:Ab}{h:Heap}{mg:Str->Option Value}{fa:Addr}{dq:Tok}{jH:Tok}{pP:Tok}{ma:Tok}{vo:Tok}{pS:Tok}{pR:Tok}{vn:Tok}{jI:Tok} (X:K.In h) (G:h.Ns mainGlobals mg) (hfa:mg "law"=some (.ref fa)) (oQ:DX K "is_whole" (top 1)) (xa:DX K "is_row" (top 2)) (sE:DX K "is_word" (top 6)) (sF:DX K "is_tree" (top 8)) (oM:DX K "parts_of" (top 9)) (G9:DX K "nodes" (top 10)) (xc:DX K "halves" (top 11)) (oV:DX K "ahead_of" (top 12)) (oJ:DX K "under_at" (top 17)) (mS:DX K "beside_at" (top 18)) (sI:DX K "is_home" (top 19)) (sC:DX K "name_of" (top 20)) (oP:DX K "lines_up" (top 21)) (kQ:DX K "apart_from" (top 22)) (xg:DX K "ground" (top 23)) (oU:DX K "comes_in" (top 29)) (sL:DX K "done_at" (top 30)) (xb:DX K "ins_of" (top 31)) (mO:DX K "split_ins" (top 32)) (oO:DX K "over_ins" (top 33)) (oT:DX K "deeds_at" (top 34)) (sG:DX K "is_stay" (top 35)) (sH:DX K "is_path" (top 36)) (mQ:DX K "is_formed" (top 37)) (gN:DX K "ways_of_nodes" (top 38)) (sJ:DX K "is_done" (top 39)) (w9:DX K "is_way" (top 40)) (jz:DX K "split_dates" (top 42)) (oK:DX K "standing" (top 43)) (sA:DX K "stay_of" (top 44)) (Hc:DX K "dated" (top 45)) (oX:DX K "_law_pot" (top 47)) (mU:DX K "_law_take" (top 48)) (mV:DX K "_law_pick" (top 49)) (kR:DX K "_law_words" (top 50)) (mT:DX K "_law_tree" (top 51)) (kW:DX K "_law_great" (top 52)) (kU:DX K "_law_nodes" (top 53)) (kY:DX K "_law_dates" (top 54)) (kS:DX K "_law_small" (top 55)) (fm:DX K "_law_any_ground" (top 56)) (kX:DX K "_law_deeds" (top 57)) (mX:DX K "_law_done" (top 58)) (oY:DX K "_law_can" (top 59)) (mW:DX K "_law_path" (top 60)) (oW:DX K "_law_way" (top 61)) (f7:DX K "_law_whole_way" (top 62)) (kT:DX K "_law_scene" (top 63)) (jA:DX K "_law_longer" (top 64)) (oS:DX K "is_grown" (top 7)) (adM:DX K "law" (top 65)) (uA:AH K mainGlobals "LONGEST_WORD"=some (some (.int 8 dq))) (LY:AH K mainGlobals "LETTERS"=some (some (.str "abcdefghijklmnopqrstuvwxyz" jH))) (Te:AH K mainGlobals "UNDER"=some (some (.int 2 pP))) (Pt:AH K mainGlobals "BESIDE"=some (some (.int 3 ma))) (WB:AH K mainGlobals "NAME"=some (some (.int 0 vo))) (Tg:AH K mainGlobals "FOUND"=some (some (.str "found" pS))) (Tf:AH K mainGlobals "SPLIT"=some (some (.str "split" pR))) (WA:AH K mainGlobals "OVER"=some (some (.str "over" vn))) (LZ:AH K mainGlobals "DOUBLED"=some (some (.str "doubled" jI))) (zK:AH K mainGlobals "isinstance"=some none) (Ya:AH K mainGlobals "bool"=some none) (abe:AH K mainGlobals "int"=some none) (abd:AH K mainGlobals "len"=some none) (T9:AH K mainGlobals "tuple"=some none) (aba:AH K mainGlobals "str"=some none) (abg:AH K mainGlobals "all"=some none) (X8:AH K mainGlobals "list"=some none) (J8:AH K mainGlobals "reversed"=some none) (HJ:AH K mainGlobals "enumerate"=some none) (Ua:AH K mainGlobals "range"=some none) (Qk:AH K mainGlobals "sorted"=some none) (aa9:AH K mainGlobals "zip"=some none) (X9:AH K mainGlobals "dict"=some none) (abh:AH K mainGlobals "abs"=some none) (abf:AH K mainGlobals "any"=some none) (abb:AH K mainGlobals "min"=some none) (abc:AH K mainGlobals "max"=some none) :
  ∃fd:FuncData,(∀(s:Shared) (v:Value),BindsTo s fd ⟨[v],[]⟩ [("_law_script",v)])/\∀base:Heap,K.In base->base.Ns mainGlobals mg->iQ l.prog w K mg base xW 18 fa fd ["_law_script"] (MP K):=by
 obtain⟨f,fd,a,F⟩:=adM.ex;have e:=hfa.symm.trans (BJ X G a);cases e;have fb:=F.binds (ps:=["_law_script"]) (fun _ _ _ _ _ _=>us1 fun _=>rfl);obtain⟨oc,od,kV,doc,pm,an,gE,ct,Rl,rfl,_⟩:=id F.ex;refine⟨Cd "law" "law" (kZ (top 65)) (dR (top 65)) (aj (top 65)) .none kV doc pm an gE ct,fun s v=>.of_eq rfl,fun base _ _=>?_⟩;exact (ad2 (v:=⟨l.prog,w,K,mg,base⟩) X G ⟨AJ X G zK,AJ X G Ya,AJ X G abe,AJ X G abd,AJ X G T9,AJ X G aba,AJ X G abg,AJ X G X8,AJ X G J8,AJ X G HJ,AJ X G Ua,AJ X G Qk,AJ X G aa9,AJ X G X9,AJ X G abh,AJ X G abf,AJ X G abb,AJ X G abc⟩ (BJ X G uA) (BJ X G LY) (BJ X G Te) (BJ X G Pt) (BJ X G WB) (BJ X G Tg) (BJ X G Tf) (BJ X G WA) (BJ X G LZ) oQ xa sE sF oM G9 xc oV oJ mS sI sC oP kQ xg oU sL xb mO oO oT sG sH mQ gN sJ w9 jz oK sA Hc oX mU mV kR mT kW kU kY kS fm kX mX oY mW oW f7 kT jA oS ⟨_,_,F,fb,hfa⟩).imp Vy
def walk {l:EJ}{q:Program}{loose:List Str}{XP:(Str->Option Value)->Heap->Prop}{YP:World->Heap->Prop}{d:DefRec}{K:Params->Ab} (hn:l.most=some 63) (hdf:d.params.defaults=[])
  (hY:∀(w:World) (h:Heap),YP w h->(K w.params).In h)
  (F:∀(w:World) (mg:Str->Option Value) (fa:Addr) (h:Heap),(K w.params).In h->h.Ns mainGlobals mg->mg d.name=some (.ref fa)->
   ∃fd:FuncData,(∀(s:Shared) (u:Value),BindsTo s fd ⟨[u],[]⟩ [("_law_script",u)])/\∀base:Heap,(K w.params).In base->base.Ns mainGlobals mg->iQ l.prog w (K w.params) mg base xW 18 fa fd ["_law_script"] (MP (K w.params))) :
  PySem.W.WalkO q loose XP YP l.row.toRowW d [] (fun f vs=>FI f vs):=
 L2.Ud (n:=63) (k:=18) (x:="_law_script") (CX:=fun _=>xW) (sp:=fun w=>MP (K w.params)) hn (by decide) hdf ⟨rfl,by decide,by decide,rfl⟩ hY F (fun _ _ a ns hl hO hS=>⟨a,ns,rfl,hO,hS,hl,fun _=>rfl⟩) fun _ _ _ _ _ z=>z
end My
open PySem PySem.W PyProof.Rows
inductive PySem.W.Fast|tw8793457052787106073|tw11006535097552761149|tw18237948655533989524|tw11319203323641929033|tw16597391320801266936|tw8094599875729061327|tw18065808967356316789|tw4070086867639464196|tw11066061296071139613|tw8645016465802924350|tw8253479828938642815|tw5812037977320045571|tw10510977966434525744|tw5644913380933183919|tw14646162957356599863|tw5599815959565952244|tw10616005021665329460|tw547452832586460659|tw5315762250816004825|tw11302192883925864177|tw91521832856960332|tw10133601939233505245|tw16156700485379089776|tw11450222795339992695|tw16647322845142537942|tw2664579255216175037|tw1879597476274234989|tw2705733609322865901|tw11266314021472223863|tw694032567772097447|tw11059864016492569262|tw18421492044146321358|tw15793160728465775093|tw6053387714011379844|tw1645486843576807664|tw11144030888398625485|tw15718586558533009283|tw2247220768988206985|tw9793242551753398046|tw9896411545603103354|tw4773013160702194118|tw6828345174487269477|tw714255301746681077|tw6665546431423415868|tw17234838189809224324|tw2119981734351701744|tw4682425799357398414|tw13049884301489024854|tw3270800842375125552|tw2668592782029201067|tw9206713709066793424|tw16699026405141004795|tw12968099754568165717|tw15612030424802385820|tw12468081646309788849|tw9171643370623823146|tw869968010385812996|tw18224305900110191370|tw6164761442150233470|tw1333972034286399750|tw14031043880855439398|tw12585031375541502805|tw1695799214401994749|tw7500357295130783725|tw8222728073223502560|tw16449809278906363073|tw5153741110052014170|tw15698849126606599431|tw2436126712863231376|tw10350044351640809468|tw12728478600181801284|tw7319722440878579041|tw11825214911677132384|tw12765754854686855801|tw7457011533085119411|tw13793618963541815909|tw2859936922276929201|tw8542785004983990174|tw3223270758274551524|tw6592979469579143759|tw4752713909441488373|tw7458760712363427409|tw17263682730916031239|tw1668376060027350397|tw16755758671242064999|tw13473788504766081807|tw7289465608741864868|tw16323059098679298880|tw15290240804958521890|tw8647585559744121075|tw12433595017437958203|tw9148674025597140681|tw9186759720728810418|tw1530451763326043603|tw13807748371406246450|tw11860517891197648202|tw10230739419946825106|tw1789812107814808282|tw10088536232975517220|tw3462267056283386105|tw8371062039757189345|tw1057637812076341515|tw1999389176862754844|tw3964403357224695391|tw9880332388223330571|tw13235119268974831734|tw16148205275515134961|tw587069567865689263|tw10423873885705332829|tw16319084823861969233|tw13141836999241098625|tw16032118761083030438|tw14788376613703346300|tw18439189441216645115|tw10964214434334766655|tw2858356024011406661|tw15015664473644171247|tw1371906613376951509|tw4956493202772006778|tw5583587599227346765
def PySem.W.Fast.tw5732332821355547681:=PySem.Challenge.pw_treewithin_k16_ways_that_are_ways
theorem PySem.W.Fast.te5732332821355547681:PySem.Challenge.pw_treewithin_k16_ways_that_are_ways=PySem.W.Fast.tw5732332821355547681:=rfl
set_option maxRecDepth 100000 in
set_option maxHeartbeats 0 in
theorem PySem.Challenge.cw_treewithin_k16_ways_that_are_ways_holds : PySem.Challenge.rw_treewithin_k16_ways_that_are_ways.Holds := by
 w_on;o_law;k_head;(case hw=>w_witness2)
 k_fill
 refine My.walk (l:=PySem.Challenge.rw_treewithin_k16_ways_that_are_ways) rfl rfl (fun w h Y=>PySem.W.kIn_of Y) ?F
 case F=>
  intro w mg fa h KX G hmg;refine' My.all_mk KX G hmg ?d0 ?d1 ?d2 ?d3 ?d4 ?d5 ?d6 ?d7 ?d8 ?d9 ?d10 ?d11 ?d12 ?d13 ?d14 ?d15 ?d16 ?d17 ?d18 ?d19 ?d20 ?d21 ?d22 ?d23 ?d24 ?d25 ?d26 ?d27 ?d28 ?d29 ?d30 ?d31 ?d32 ?d33 ?d34 ?d35 ?d36 ?d37 ?d38 ?d39 ?d40 ?d41 ?d42 ?d43 ?d44 ?d45 ?d46 ?d47 ?d48 ?d49 ?d50 ?c0 ?c1 ?c2 ?c3 ?c4 ?c5 ?c6 ?c7 ?c8 ?z0 ?z1 ?z2 ?z3 ?z4 ?z5 ?z6 ?z7 ?z8 ?z9 ?z10 ?z11 ?z12 ?z13 ?z14 ?z15 ?z16 ?z17
  (case d0=>refine' FL.dx ?a ?l ?c ?k;(case a=>k_is);(case l=>k_is);(case c=>k_is);(case k=>k_is))
  (case d1=>refine' FL.dx ?a ?l ?c ?k;(case a=>k_is);(case l=>k_is);(case c=>k_is);(case k=>k_is))
  (case d2=>refine' FL.dx ?a ?l ?c ?k;(case a=>k_is);(case l=>k_is);(case c=>k_is);(case k=>k_is))
  (case d3=>refine' FL.dx ?a ?l ?c ?k;(case a=>k_is);(case l=>k_is);(case c=>k_is);(case k=>k_is))
  (case d4=>refine' FL.dx ?a ?l ?c ?k;(case a=>k_is);(case l=>k_is);(case c=>k_is);(case k=>k_is))
  (case d5=>refine' FL.dx ?a ?l ?c ?k;(case a=>k_is);(case l=>k_is);(case c=>k_is);(case k=>k_is))
  (case d6=>refine' FL.dx ?a ?l ?c ?k;(case a=>k_is);(case l=>k_is);(case c=>k_is);(case k=>k_is))
  (case d7=>refine' FL.dx ?a ?l ?c ?k;(case a=>k_is);(case l=>k_is);(case c=>k_is);(case k=>k_is))
  (case d8=>refine' FL.dx ?a ?l ?c ?k;(case a=>k_is);(case l=>k_is);(case c=>k_is);(case k=>k_is))
  (case d9=>refine' FL.dx ?a ?l ?c ?k;(case a=>k_is);(case l=>k_is);(case c=>k_is);(case k=>k_is))
  (case d10=>refine' FL.dx ?a ?l ?c ?k;(case a=>k_is);(case l=>k_is);(case c=>k_is);(case k=>k_is))
  (case d11=>refine' FL.dx ?a ?l ?c ?k;(case a=>k_is);(case l=>k_is);(case c=>k_is);(case k=>k_is))
  (case d12=>refine' FL.dx ?a ?l ?c ?k;(case a=>k_is);(case l=>k_is);(case c=>k_is);(case k=>k_is))
  (case d13=>refine' FL.dx ?a ?l ?c ?k;(case a=>k_is);(case l=>k_is);(case c=>k_is);(case k=>k_is))
  (case d14=>refine' FL.dx ?a ?l ?c ?k;(case a=>k_is);(case l=>k_is);(case c=>k_is);(case k=>k_is))
  (case d15=>refine' FL.dx ?a ?l ?c ?k;(case a=>k_is);(case l=>k_is);(case c=>k_is);(case k=>k_is))
  (case d16=>refine' FL.dx ?a ?l ?c ?k;(case a=>k_is);(case l=>k_is);(case c=>k_is);(case k=>k_is))
  (case d17=>refine' FL.dx ?a ?l ?c ?k;(case a=>k_is);(case l=>k_is);(case c=>k_is);(case k=>k_is))
  (case d18=>refine' FL.dx ?a ?l ?c ?k;(case a=>k_is);(case l=>k_is);(case c=>k_is);(case k=>k_is))
  (case d19=>refine' FL.dx ?a ?l ?c ?k;(case a=>k_is);(case l=>k_is);(case c=>k_is);(case k=>k_is))
  (case d20=>refine' FL.dx ?a ?l ?c ?k;(case a=>k_is);(case l=>k_is);(case c=>k_is);(case k=>k_is))
  (case d21=>refine' FL.dx ?a ?l ?c ?k;(case a=>k_is);(case l=>k_is);(case c=>k_is);(case k=>k_is))
  (case d22=>refine' FL.dx ?a ?l ?c ?k;(case a=>k_is);(case l=>k_is);(case c=>k_is);(case k=>k_is))
  (case d23=>refine' FL.dx ?a ?l ?c ?k;(case a=>k_is);(case l=>k_is);(case c=>k_is);(case k=>k_is))
  (case d24=>refine' FL.dx ?a ?l ?c ?k;(case a=>k_is);(case l=>k_is);(case c=>k_is);(case k=>k_is))
  (case d25=>refine' FL.dx ?a ?l ?c ?k;(case a=>k_is);(case l=>k_is);(case c=>k_is);(case k=>k_is))
  (case d26=>refine' FL.dx ?a ?l ?c ?k;(case a=>k_is);(case l=>k_is);(case c=>k_is);(case k=>k_is))
  (case d27=>refine' FL.dx ?a ?l ?c ?k;(case a=>k_is);(case l=>k_is);(case c=>k_is);(case k=>k_is))
  (case d28=>refine' FL.dx ?a ?l ?c ?k;(case a=>k_is);(case l=>k_is);(case c=>k_is);(case k=>k_is))
  (case d29=>refine' FL.dx ?a ?l ?c ?k;(case a=>k_is);(case l=>k_is);(case c=>k_is);(case k=>k_is))
  (case d30=>refine' FL.dx ?a ?l ?c ?k;(case a=>k_is);(case l=>k_is);(case c=>k_is);(case k=>k_is))
  (case d31=>refine' FL.dx ?a ?l ?c ?k;(case a=>k_is);(case l=>k_is);(case c=>k_is);(case k=>k_is))
  (case d32=>refine' FL.dx ?a ?l ?c ?k;(case a=>k_is);(case l=>k_is);(case c=>k_is);(case k=>k_is))
  (case d33=>refine' FL.dx ?a ?l ?c ?k;(case a=>k_is);(case l=>k_is);(case c=>k_is);(case k=>k_is))
  (case d34=>refine' FL.dx ?a ?l ?c ?k;(case a=>k_is);(case l=>k_is);(case c=>k_is);(case k=>k_is))
  (case d35=>refine' FL.dx ?a ?l ?c ?k;(case a=>k_is);(case l=>k_is);(case c=>k_is);(case k=>k_is))
  (case d36=>refine' FL.dx ?a ?l ?c ?k;(case a=>k_is);(case l=>k_is);(case c=>k_is);(case k=>k_is))
  (case d37=>refine' FL.dx ?a ?l ?c ?k;(case a=>k_is);(case l=>k_is);(case c=>k_is);(case k=>k_is))
  (case d38=>refine' FL.dx ?a ?l ?c ?k;(case a=>k_is);(case l=>k_is);(case c=>k_is);(case k=>k_is))
  (case d39=>refine' FL.dx ?a ?l ?c ?k;(case a=>k_is);(case l=>k_is);(case c=>k_is);(case k=>k_is))
  (case d40=>refine' FL.dx ?a ?l ?c ?k;(case a=>k_is);(case l=>k_is);(case c=>k_is);(case k=>k_is))
  (case d41=>refine' FL.dx ?a ?l ?c ?k;(case a=>k_is);(case l=>k_is);(case c=>k_is);(case k=>k_is))
  (case d42=>refine' FL.dx ?a ?l ?c ?k;(case a=>k_is);(case l=>k_is);(case c=>k_is);(case k=>k_is))
  (case d43=>refine' FL.dx ?a ?l ?c ?k;(case a=>k_is);(case l=>k_is);(case c=>k_is);(case k=>k_is))
  (case d44=>refine' FL.dx ?a ?l ?c ?k;(case a=>k_is);(case l=>k_is);(case c=>k_is);(case k=>k_is))
  (case d45=>refine' FL.dx ?a ?l ?c ?k;(case a=>k_is);(case l=>k_is);(case c=>k_is);(case k=>k_is))
  (case d46=>refine' FL.dx ?a ?l ?c ?k;(case a=>k_is);(case l=>k_is);(case c=>k_is);(case k=>k_is))
  (case d47=>refine' FL.dx ?a ?l ?c ?k;(case a=>k_is);(case l=>k_is);(case c=>k_is);(case k=>k_is))
  (case d48=>refine' FL.dx ?a ?l ?c ?k;(case a=>k_is);(case l=>k_is);(case c=>k_is);(case k=>k_is))
  (case d49=>refine' FL.dx ?a ?l ?c ?k;(case a=>k_is);(case l=>k_is);(case c=>k_is);(case k=>k_is))
  (case d50=>refine' FL.dx ?a ?l ?c ?k;(case a=>k_is);(case l=>k_is);(case c=>k_is);(case k=>k_is))
  (case c0=>k_is)
  (case c1=>k_is)
  (case c2=>k_is)
  (case c3=>k_is)
  (case c4=>k_is)
  (case c5=>k_is)
  (case c6=>k_is)
  (case c7=>k_is)
  (case c8=>k_is)
  (case z0=>k_is)
  (case z1=>k_is)
  (case z2=>k_is)
  (case z3=>k_is)
  (case z4=>k_is)
  (case z5=>k_is)
  (case z6=>k_is)
  (case z7=>k_is)
  (case z8=>k_is)
  (case z9=>k_is)
  (case z10=>k_is)
  (case z11=>k_is)
  (case z12=>k_is)
  (case z13=>k_is)
  (case z14=>k_is)
  (case z15=>k_is)
  (case z16=>k_is)
  (case z17=>k_is)
#print axioms PySem.Challenge.cw_treewithin_k16_ways_that_are_ways_holds
