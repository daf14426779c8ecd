import PyProof.Rows.All
import Wide.All
import OpenK.AllK
import Wide.FinOn
import Lean
import PyProof.EqAt
import PyProof.EqKinds
import PyProof.TupleCall
import PyProof.NeKinds
import PyProof.FactsAll.tuple_2
import PyProof.FactsAll.str_0
import PyProof.FactsAll.str_1
import PyProof.FactsAll.str_2
import PyProof.FactsAll.str_3
import PyProof.Rows.MinMaxN
import PyProof.Rows.SumAny
import PyProof.Rows.SetFrom
import PyProof.ReprRoads
import PyProof.Rows.StrKeys3
import PyProof.CallFns
import KE.KSortTup
import KE.KDictSum
import PySem.Challenge.RW_treewithin_k20_places_told
open PySem renaming wpAny_bind -> Aa, wpAny_pure -> Ah, wpAny_callSpecial?_slot -> AM, wpAny_field -> AR, wpAny_setField_rec -> AX, wpAny_call_entry -> Bb, wpAny_newObj_type -> Bd, wpAny_holding -> Be, wpAny_seqItems -> Bt, mem_of_lookup -> BC, wpAny_Call_Name_kw -> BI, wpAny_typeNameOfWhole_keyiter -> BK, wpAny_truthy_bool -> BN, wpAny_mono -> BQ, wpAny_passesOwn -> B2, wpAny_typeOf -> B7, wpAny_typeNameOf_keyiter -> Ca, wpAny_of_eq -> Cc, wpAny_pyIter_list -> Cm, wpAny_attempt -> Cu, wpAny_rule -> Cy, wpAny_pyIter_enum -> CI, wpAny_newTuple -> CJ, wpAny_isInstance -> CT, wpAny_updateSeq_pair -> C2, wpAny_letGo -> C3, wpAny_updateSeq -> De, wpAny_specialOf -> Df, wpAny_execs_nil -> Dg, wpAny_setField -> Dx, wpAny_pyIter_tuple -> Dy, wpAny_letOwnedTupleGo_enum -> Dz, wpAny_sequenceKey -> DM, wpAny_dictEntries -> DN, wpAny_standAt -> DV, wpAny_onRaise -> DW, wpAny_comprehension_free -> DY, wpAny_dictEpoch -> Et, wpAny_listPart -> EJ, call -> Fi
open PySem.W renaming Frag -> Ab, mg_none_of -> AB, nsIn -> AY, kia_one -> A3, kitOne -> Bl, fnOf -> B4, keepIn -> Dr, codeIn -> Ds, methodObj -> DH, kitx_list -> DJ, kitx_dict -> DK, cellsFrom_some -> Ed, instObj -> Eo, OpenLaw -> Ep, lookIn -> EE, kitx_tuple -> E2, plainGet -> Fb
open List renaming length_append -> Ad, getElem?_eq_getElem -> Ae, length_map -> Af, size_toArray -> Ag, getElem?_map -> Ai, getElem?_eq_some_iff -> Aj, replicate -> Ak, getD_eq_getElem?_getD -> Aq, length_cons -> Ar, map_cons -> Au, getElem?_append_right -> Ax, getElem?_append_left -> Ay, mem_cons -> Az, mem_map -> AA, mem_filter -> AE, range -> AG, mem_range -> AL, getElem?_eq_none -> AN, mem_cons_of_mem -> AU, mem_append_right -> AV, length_filter_le -> AW, map_append -> A1, length_replicate -> A2, map_map -> A4, append_assoc -> A5, lookup_cons -> Bc, drop_eq_getElem_cons -> Bf, mem_append -> Bh, replicate_succ -> Bi, getElem?_replicate -> Bk, mem_of_getElem? -> Bn, mem_cons_self -> Bo, getElem?_set_ne -> Bp, not_mem_nil -> Br, filterMap_cons -> Bs, find?_cons -> Bv, mem_singleton -> Bw, idxOf_lt_length_of_mem -> Bz, getElem?_set_self -> BA, ext_getElem? -> BB, length_nil -> BD, forIn_cons -> BE, pairwise_iff_getElem -> BF, length -> BL, length_range -> BO, flatten_cons -> BP, length_set -> BR, getElem?_range -> BU, length_take -> BV, any_eq_true -> BW, length_reverse -> Cb, take_of_length_le -> Ce, map_nil -> Cf, getElem?_of_mem -> Co, length_drop -> Cp, mergeSort_perm -> Cr, any_cons -> Cv, mem_filterMap -> CA, reverse_cons -> CM, pairwise_lt_range -> CN, replicate_append_replicate -> CO, filter_cons -> CV, mem_append_left -> C4, getElem_toArray -> C5, eq_nil_of_length_eq_zero -> C6, nodup_cons -> Dh, nil_append -> Di, append_nil -> Dj, reverse_append -> Dl, pairwise_cons -> DB, forIn_nil -> DC, pairwise_map -> DP, nodup_append -> DQ, length_erase_of_mem -> DZ, pairwise_mergeSort -> D5, length_eq_zero_iff -> D6, isEmpty_map -> D7, getElem_mem -> D8, getElem_inj -> D9, drop_length -> Ea, all_eq_true -> Eb, map_set -> Ei, length_pos_of_mem -> Ej, filter_eq_nil_iff -> Ek, drop_eq_nil_of_le -> El, of_mem_zip -> Ew, set_append_right -> EA, length_singleton -> EB, getElem?_toArray -> EC, take_succ -> EL, nodup_nil -> EM, map -> EN, map_eq_nil_iff -> ET, map_congr_left -> EU, length_pos_iff -> EW, getElem_of_mem -> EX, flatMap_append -> EY
open PySem.Heap renaming get?_push_of_some -> Al, lt_size -> Ao, get?_push_size -> Ap, SameBut -> B6, get?_update_self -> Ci, size_push -> Cn, get?_update_other -> CG, ExtBut -> Ff
open Nat renaming le_refl -> Am, lt_of_lt_of_le -> Aw, ne_of_lt -> AJ, zero_add -> AQ, lt_irrefl -> AZ, add_assoc -> A7, le_trans -> Bj, zero_le -> Bm, le_add_right -> Bq, sub_self -> B8, add_sub_cancel_left -> CC, lt_or_ge -> CK, le_of_lt -> Dp, eq_or_lt_of_le -> DA, lt_succ_self -> D4, sub_zero -> Eh, strongRecOn -> Eu, le_of_ble_eq_true -> Ez, sub_sub -> EK, succ_mul -> E8, succ -> E9
open Bool renaming false_eq_true -> An, and_eq_true -> AD, false_ne_true -> AH, not_false -> DE, and_false -> DG, not_true -> D1, or_eq_true -> Ex, false_and -> EO, true_and -> E1
open PySem.Value renaming ref -> Av, none -> Ba, type -> BG, bool -> BX, int -> Dq, str -> Fc
open PySem.PassesOwn renaming never -> AI
open Int renaming toNat_natCast -> AO, emod_lt_of_pos -> BJ, emod_nonneg -> BS, le_refl -> C7, eq_ofNat_of_zero_le -> Ec, zero_add -> Em
open PySem.NameKind renaming free -> A6, cell -> EZ
open PyProof.Rows renaming callWith_type1 -> A8, slot_tuple_getitem -> A9
open False renaming elim -> Bg
open PySem.F renaming slot_dict_keyiterator_next -> Bu, plainAttrs_list -> BM, slot_tuple_iterator_next -> BZ, slot_enumerate_next -> Cj, args_tuple_add_2 -> Cs, slot_list_getattribute -> Ct, entry_tuple_add -> CB, slot_tuple_add -> CH, args_dict_keyiterator_next_1 -> CP, entry_dict_keyiterator_next -> CW, args_list_extend_2 -> CY, slot_zip_next -> C8, args_tuple_iterator_next_1 -> C9, entry_list_extend -> Dk, entry_tuple_iterator_next -> Dn, slot_list_extend -> Dv, type_list_append -> DT, slot_list_append -> DU, args_enumerate_next_1 -> D2, entry_enumerate_next -> Ee
open Ne renaming symm -> Bx
open PySem.AutoSeq1 renaming wpAny_loadPart' -> BH, sub_tuple_tuple -> CS, sub_tuple_list -> CZ, sub_list_tuple -> C1, sub_list_list -> Dc, idx_int -> Eg
open PySem.Calls renaming spliced_cons -> B1, spliced_nil -> Ck, Name_function_global -> Dw, callWith_builtin -> Ef
open ForInStep renaming yield -> B3
open PySem.Str renaming ofString -> B5, length_append -> CF, cps_append -> EG
open PySem.Obj renaming mapSeq -> B9, data_mapFields -> Cw, isFreed_of_fields -> Ey
open True renaming intro -> Cd
open Option renaming map_some -> Cg, getD_none -> D3
open Array renaming getElem?_eq_getElem -> Cq, length_toList -> Dm, size_append -> DR, getElem?_eq_none -> En, getElem?_toList -> ED
open Or renaming inr -> Cz, inl -> CU
open And renaming right -> CD
open PySem.SeqAt.RcNeAt renaming lists_lengths -> Du, lists -> E3
open PySem.EqBoolInt renaming of_rcne -> DL, of_rc -> Es
open PySem.SeqAt.RcAt renaming lists_lengths -> DS, lists -> Fd
open PySem.SeqAt.EqAt renaming same -> Er, str_int -> E4, of_refs -> E5, int_str -> E6
open PySem.Data renaming seq -> EH
open PySem.Around renaming under_plainId -> EI
open Sum renaming inr -> ER, inl -> ES
open PySem.SeqAt renaming EqAt -> E7
open PySem.IsL renaming isList -> Fe
open PySem.Flow renaming ret -> Fg
open PySem.Fin renaming done -> Fh
set_option Elab.async false
set_option linter.all false
set_option maxRecDepth 100000
set_option maxHeartbeats 1000000
namespace L2
open PySem PySem.Spec PyProof.Rows
abbrev Key:=Sum Int Str
def vj:Key->Value->Bool
 | .inl k,v=>Value.isInt k v
 | .inr x,v=>Value.isStrOf x v
def aak (w:World):Key->Int
 | .inl k=>hashInt k
 | .inr x=>hashStr w x
def bX:∀{k:Key}{v:Value},vj k v=true->(∃i t,k=ES i/\v=Dq i t)\/(∃x t,k=ER x/\v=Fc x t)
 | .inl i,v,h=>by
  obtain⟨t,e⟩:=Value.isInt_shape (k:=i) (v:=v) h;exact .inl ⟨i,t,rfl,e⟩
 | .inr x,v,h=>by
  obtain⟨t,e⟩:=Value.isStrOf_shape (x:=x) (v:=v) h;exact .inr ⟨x,t,rfl,e⟩
def Ju (i:Int) (t:Tok):vj (.inl i) (.int i t)=true:=by simp [vj,Value.isInt]
def Jt (x:Str) (t:Tok):vj (.inr x) (.str x t)=true:=by simp [vj,Value.isStrOf]
def Th (a b:Int):decide ((ES a:Key)=ES b)=(a==b):=by
 by_cases e:a=b
 ·subst e;simp
 ·have h:¬(ES a:Key)=ES b:=fun q=>e (ES.inj q);rw [decide_eq_false h];exact (beq_eq_false_iff_ne.mpr e).symm
def Te (a b:Str):decide ((ER a:Key)=ER b)=decide (a=b):=by
 by_cases e:a=b
 ·subst e;simp
 ·have h:¬(ER a:Key)=ER b:=fun q=>e (ER.inj q);rw [decide_eq_false h,decide_eq_false e]
def Tg (a:Int) (b:Str):decide ((ES a:Key)=ER b)=false:=decide_eq_false (fun q=>nomatch q)
def Tf (a:Str) (b:Int):decide ((ER a:Key)=ES b)=false:=decide_eq_false (fun q=>nomatch q)
def cH (prog:Program) (w:World):PySem.KeyKind prog w Key where
 is:=vj
 hash:=aak w
 inj:=fun v a b ha hb=>by
  rcases bX ha with⟨i,t,rfl,rfl⟩ | ⟨x,t,rfl,rfl⟩
  ·rcases bX hb with⟨j,u,rfl,e⟩ | ⟨y,u,rfl,e⟩
   ·injection e with e1 _;rw [e1]
   ·exact nomatch e
  ·rcases bX hb with⟨j,u,rfl,e⟩ | ⟨y,u,rfl,e⟩
   ·exact nomatch e
   ·injection e with e1 _;rw [e1]
 byValue:=fun k v h=>by
  rcases bX h with⟨i,t,rfl,rfl⟩ | ⟨x,t,rfl,rfl⟩ <;> rfl
 pyHash:=fun hv h=>by
  rcases bX hv with⟨i,t,rfl,rfl⟩ | ⟨x,t,rfl,rfl⟩
  ·exact wpAny_pyHash_int h
  ·exact wpAny_pyHash_str h
 eqBool:=fun hu hv h=>by
  rcases bX hu with⟨i,t,rfl,rfl⟩ | ⟨x,t,rfl,rfl⟩
  ·rcases bX hv with⟨j,u,rfl,rfl⟩ | ⟨y,u,rfl,rfl⟩
   ·rw [Th] at h;exact wpAny_eqBool_int h
   ·rw [Tg] at h;exact E6 i t y u _ _ _ _ h
  ·rcases bX hv with⟨j,u,rfl,rfl⟩ | ⟨y,u,rfl,rfl⟩
   ·rw [Tf] at h;exact E4 x t j u _ _ _ _ h
   ·rw [Te] at h;exact wpAny_eqBool_str h
 «strs»:=fun k x t v h=>by
  rcases bX h with⟨i,u,rfl,e⟩ | ⟨y,u,rfl,e⟩
  ·exact nomatch e
  ·injection e with e1 _;subst e1;cases v <;> rfl
def zg (prog:Program) (w:World) (i:Int) (t:Tok):(cH prog w).is (.inl i) (.int i t)=true:=Ju i t
def zf (prog:Program) (w:World) (x:Str) (t:Tok):(cH prog w).is (.inr x) (.str x t)=true:=Jt x t
inductive V where
 | aU | bl (b:Bool) | int (i:Int) | str (x:Str) | Ut (b:Array UInt8) | U6 (b:UInt64) | ref (a:Addr) | ty (n:String)
 deriving DecidableEq
def RelV:V->Value->Prop
 | .aU,u=>u=Ba
 | .bl b,u=>u=BX b
 | .int i,u=>∃t,u=Dq i t
 | .str x,u=>∃t,u=Fc x t
 | .Ut b,u=>∃t,u=Value.bytes b t
 | .U6 b,u=>∃t,u=Value.float b t
 | .ref a,u=>u=Av a
 | .ty n,u=>u=BG n
abbrev Vals:List V->List Value->Prop:=Paired RelV
def Vals.length {xs:List V}{us:List Value} (r:Vals xs us):xs.length=us.length:=Paired.length r
theorem Vals.get:∀{xs:List V}{us:List Value}{i:Nat}{x:V},Vals xs us->xs[i]?=some x->∃u,us[i]?=some u/\RelV x u
 | _,_,_,_,.nil,e=>by simp at e
 | _,_,0,_,.cons r _,e=>by simp at e;subst e;exact⟨_,rfl,r⟩
 | _,_,i+1,x,.cons _ t,e=>by
  obtain⟨u,h1,h2⟩:=Vals.get (i:=i) (x:=x) t (by simpa using e);exact⟨u,by simpa using h1,h2⟩
theorem Vals.set {x:V}{u:Value} (r:RelV x u):∀{xs:List V}{us:List Value} (i:Nat),Vals xs us->Vals (xs.set i x) (us.set i u)
 | _,_,_,.nil=>.nil
 | _,_,0,.cons _ t=>.cons r t
 | _,_,i+1,.cons q t=>.cons q (Vals.set r i t)
theorem Vals.append:∀{xs ys:List V}{us ws:List Value},Vals xs us->Vals ys ws->Vals (xs++ys) (us++ws)
 | _,_,_,_,.nil,s=>s
 | _,_,_,_,.cons r t,s=>.cons r (Vals.append t s)
theorem Vals.take:∀{xs:List V}{us:List Value} (n:Nat),Vals xs us->Vals (xs.take n) (us.take n)
 | _,_,0,_=>.nil
 | _,_,_+1,.nil=>.nil
 | _,_,n+1,.cons r t=>.cons r (Vals.take n t)
theorem Vals.drop:∀{xs:List V}{us:List Value} (n:Nat),Vals xs us->Vals (xs.drop n) (us.drop n)
 | _,_,0,r=>r
 | _,_,_+1,.nil=>.nil
 | _,_,n+1,.cons _ t=>Vals.drop n t
def yk:Option V->Option Value->Prop
 | some v,some u=>RelV v u
 | none,none=>True
 | _,_=>False
def KV {κ:Type}:List (κ×V)->List (κ×Value)->Prop:=Paired fun (p:κ×V) (q:κ×Value)=>p.1=q.1/\RelV p.2 q.2
def kV:Key->V
 | .inl i=>.int i
 | .inr x=>.str x
inductive HO where
 | lst (xs:List V)
 | tup (xs:List V)
 | dK (kvs:List (Key×V)) | dT (kvs:List (List Key×V))
 | set (S:Int->Bool) (n:Nat)
 | ins (C dx:Addr) (fs:List (Str×V))
 | own (x:Addr)
 | xd (fs:List (Str×V))
 | met (f x:Addr)
 | ZX (lo hi:Int)
 | cR (o:Obj) (u:HO)
 | RT (ps:Array Value)
 | ext (φ:Heap->Prop)
abbrev Hp:=Addr->Option HO
def upd (H:Hp) (a:Addr) (o:HO):Hp:=fun b=>if b=a then some o else H b
def aO {H:Hp}{a:Addr}{o:HO}:upd H a o a=some o:=by unfold upd;rw [if_pos rfl]
def av {H:Hp}{a b:Addr}{o:HO} (h:b≠a):upd H a o b=H b:=by unfold upd;rw [if_neg h]
def LK {H:Hp}{a b:Addr}{o u:HO} (h:H a=some o) (h':H b=some u) (d:o≠u):a≠b:=by
 intro e;subst e;rw [h] at h';exact d (Option.some.inj h')
def bH {H:Hp}{a b:Addr}{o:HO} (h:H a=some o) (h':H b=none):a≠b:=by
 intro e;subst e;rw [h] at h';cases h'
section
variable (P:Program) (w:World)
def bq (H:Hp) (h:Heap) (a:Addr):HO->Prop
 | .lst xs=>xs.length<=sizeLine/\∃(aq:List Value) (n:Nat),Vals xs aq/\h.get? a=some {cls:=.type "list",data:=.seq aq.toArray n}
 | .tup xs=>xs.length<=sizeLine/\∃aq:List Value,Vals xs aq/\IsTup h a aq.toArray
 | .dK kvs=>kvs.length<=sizeLine/\(a==sysModules)=false/\∃vs,KV kvs vs/\h.DictOf (cH P w) a vs
 | .dT kvs=>kvs.length<=sizeLine/\(a==sysModules)=false/\∃xs:List (List Key×Addr×Value),
   Paired (fun (p:List Key×V) (q:List Key×Addr×Value)=>p.1=q.1/\H q.2.1=some (.tup (p.1.map kV))/\RelV p.2 q.2.2) kvs xs/\
   ∃o es ep,h.get? a=some o/\o.ExactDict/\o.data=.dict es ep/\es.toList=xs.map (entryOfKey (tupleKind (cH P w)))/\(xs.map (·.1)).Nodup
 | .set S n=>h.SetOf (intKind P w) a S n
 | .ins C dx fs=>H dx=some (.own a)/\fs.length<=1000/\dx≠a/\h.get? a=some (Eo C dx)/\
   ∃mA,h.Ns1 dx mA/\(∀f,yk (fs.lookup f) (mA f))/\PySem.Within mA (fs.map (·.1))
 | .own _=>∃o,h.get? a=some o
 | .xd fs=>∃mA,h.Ns1 a mA/\∀f,yk (fs.lookup f) (mA f)
 | .ZX lo hi=>∃t u v,h.get? a=some {cls:=.type "range",data:=.fields #[.int lo t,.int hi u,.int 1 v]}
 | .cR o u=>h.get? a=some o/\bq H h a u
 | .RT ps=>h.get? a=some {cls:=.none,data:=.fields ps}
 | .met f x=>h.get? a=some (DH (.ref f) (.ref x))
 | .ext φ=>φ h/\(∃o,h.get? a=some o)/\∀h1 h2:Heap,φ h1->(∀o,h1.get? a=some o->h2.get? a=some o)->φ h2
def mq (H:Hp) (h:Heap):Prop:=∀a o,H a=some o->bq P w H h a o
end
section
variable {P:Program}{w:World}{H H':Hp}{h h':Heap}{a:Addr}{o:HO}
def bq.lt (x:bq P w H h a o):a < h.objs.size:=by
 cases o with
 | lst xs=>obtain⟨_,_,_,_,e⟩:=x;exact Ao e
 | tup xs=>obtain⟨_,_,_,p⟩:=x;exact p.lt
 | dK kvs=>obtain⟨_,_,_,_,o,_,_,e,_⟩:=x;exact Ao e
 | dT kvs=>obtain⟨_,_,_,_,o,_,_,e,_⟩:=x;exact Ao e
 | set S n=>obtain⟨o,_,_,_,e,_⟩:=x;exact Ao e
 | ins C dx fs=>obtain⟨_,_,_,e,_⟩:=x;exact Ao e
 | own y=>obtain⟨_,e⟩:=x;exact Ao e
 | xd fs=>obtain⟨_,⟨_,_,_,e,_⟩,_⟩:=x;exact Ao e
 | ZX lo hi=>obtain⟨_,_,_,e⟩:=x;exact Ao e
 | cR ob u=>obtain⟨e,_⟩:=x;exact Ao e
 | RT ps=>exact Ao (show h.get? a=some _ from x)
 | met f y=>exact Ao (show h.get? a=some _ from x)
 | ext φ=>obtain⟨_,⟨_,e⟩,_⟩:=x;exact Ao e
theorem Paired.S3 {α β:Type}{F G:α->β->Prop}:∀{l₁:List α}{l₂:List β},Paired F l₁ l₂->(∀a b,F a b->G a b)->Paired G l₁ l₂
 | _,_,.nil,_=>.nil
 | _,_,.cons r t,f=>.cons (f _ _ r) (Paired.S3 t f)
def bq.wg (x:bq P w H h a o) (k:∀b u,(b=a\/H b=some (.own a))->h.get? b=some u->h'.get? b=some u)
  (ho:∀b,H b=some (.own a)->H' b=some (.own a)) (ht:∀b xs,H b=some (.tup xs)->H' b=some (.tup xs)):bq P w H' h' a o:=by
 induction o with
 | lst xs=>obtain⟨z,aq,n,r,e⟩:=x;exact⟨z,aq,n,r,k _ _ (.inl rfl) e⟩
 | tup xs=>obtain⟨z,aq,r,ob,e,c⟩:=x;exact⟨z,aq,r,ob,k _ _ (.inl rfl) e,c⟩
 | dK kvs=>obtain⟨z,y,vs,r,ob,es,ep,e,c⟩:=x;exact⟨z,y,vs,r,ob,es,ep,k _ _ (.inl rfl) e,c⟩
 | dT kvs=>
  obtain⟨z,y,xs,r,ob,es,ep,e,c⟩:=x;exact⟨z,y,xs,Paired.S3 r fun p q z=>⟨z.1,ht _ _ z.2.1,z.2.2⟩,ob,es,ep,k _ _ (.inl rfl) e,c⟩
 | set S n=>obtain⟨ob,es,ep,t,e,c⟩:=x;exact⟨ob,es,ep,t,k _ _ (.inl rfl) e,c⟩
 | ins C dx fs=>
  obtain⟨d,z,ne,e,mA,⟨od,es,ep,e2,c⟩,r⟩:=x;exact⟨ho _ d,z,ne,k _ _ (.inl rfl) e,mA,⟨od,es,ep,k _ _ (.inr d) e2,c⟩,r⟩
 | own y=>obtain⟨ob,e⟩:=x;exact⟨ob,k _ _ (.inl rfl) e⟩
 | xd fs=>obtain⟨mA,⟨od,es,ep,e,c⟩,r⟩:=x;exact⟨mA,⟨od,es,ep,k _ _ (.inl rfl) e,c⟩,r⟩
 | ZX lo hi=>obtain⟨t,u,v,e⟩:=x;exact⟨t,u,v,k _ _ (.inl rfl) e⟩
 | cR ob u ih=>obtain⟨e,q⟩:=x;exact⟨k _ _ (.inl rfl) e,ih q⟩
 | RT ps=>
  have e:h.get? a=some {cls:=.none,data:=.fields ps}:=x;show h'.get? a=some {cls:=.none,data:=.fields ps};exact k a _ (.inl rfl) e
 | met f y=>
  have e:h.get? a=some (DH (.ref f) (.ref y)):=x;show h'.get? a=some (DH (.ref f) (.ref y));exact k a _ (.inl rfl) e
 | ext φ=>obtain⟨p,⟨o,e⟩,st⟩:=x;exact⟨st _ _ p fun o q=>k _ _ (.inl rfl) q,⟨o,k _ _ (.inl rfl) e⟩,st⟩
def mq.lt (x:mq P w H h) (e:H a=some o):a < h.objs.size:=(x a o e).lt
def mq.fresh (x:mq P w H h) (e:h.objs.size<=a):H a=none:=by
 cases q:H a with
 | none=>rfl
 | some u=>exact absurd (Aw (x.lt q) e) (AZ _)
def mq.kept (x:mq P w H h) (k:∀b u,h.get? b=some u->h'.get? b=some u):mq P w H h':=fun a o e=>
 (x a o e).wg (fun b u _ q=>k b u q) (fun _ q=>q) fun _ _ q=>q
def mq.laid (x:mq P w H h) (k:∀b u,h.get? b=some u->h'.get? b=some u) (hp:h.objs.size<=a) (new:bq P w (upd H a o) h' a o):mq P w (upd H a o) h':=fun b u e=>by
 have hn:=x.fresh hp;by_cases hb:b=a
 ·subst hb;rw [aO] at e;cases e;exact new
 ·rw [av hb] at e;exact (x b u e).wg (fun c v _ q=>k c v q) (fun c q=>by rw [av (bH q hn)];exact q) fun c xs q=>by rw [av (bH q hn)];exact q
end
def Rd (H:Hp) (a:Addr) (u:HO):Prop:=H a=some u\/∃o,H a=some (.cR o u)
def Rd.ok {P:Program}{w:World}{H:Hp}{h:Heap}{a:Addr}{u:HO} (r:Rd H a u) (x:mq P w H h):bq P w H h a u:=by
 rcases r with r | ⟨o,r⟩
 ·exact x a u r
 ·obtain⟨_,q⟩:=x a _ r;exact q
def Zq:Option HO->Prop
 | some (.lst _)=>True
 | some (.dK _)=>True
 | some (.dT _)=>True
 | some (.set _ _)=>True
 | some (.ins _ _ _)=>True
 | some (.ext _)=>True
 | _=>False
section
variable {P:Program}{w:World}{H:Hp}{h h':Heap}{x e:Addr}{o':HO}
def mq.write (ok:mq P w H h) (mu:Zq (H x)) (he:e=x\/H e=some (.own x)) (k:∀b u,b≠e->h.get? b=some u->h'.get? b=some u) (UY:∃u,h'.get? e=some u)
  (new:bq P w (upd H x o') h' x o'):mq P w (upd H x o') h':=fun b u q=>by
 have LD:∀c y,H c=some (.own y)->c≠x:=fun c y r z=>by subst z;rw [r] at mu;exact mu
 have Z8:∀c xs,H c=some (.tup xs)->c≠x:=fun c xs r z=>by subst z;rw [r] at mu;exact mu
 by_cases hb:b=x
 ·subst hb;rw [aO] at q;cases q;exact new
 ·rw [av hb] at q;by_cases TN:b=e
  ·have q':H b=some (.own x):=by
    rcases he with z | z
    ·exact absurd (TN.trans z) hb
    ·rw [TN];exact z
   rw [q] at q';cases q';obtain⟨v,hv⟩:=UY;exact⟨v,by rw [TN];exact hv⟩
  ·refine (ok b u q).wg (fun c v hc r=>k c v ?_ r) (fun c r=>by rw [av (LD c b r)];exact r) fun c xs r=>by rw [av (Z8 c xs r)];exact r
   rcases hc with rfl | hc
   ·exact TN
   ·rintro rfl;rcases he with z | z
    ·exact LD c b hc z
    ·rw [hc] at z;cases z;exact hb rfl
end
structure Un (fs ex:List Addr) (H H':Hp) (h h':Heap):Prop where
 keep:∀b o,h.get? b=some o->H b=none->b∉fs->b∉ex->h'.get? b=some o
 slot:∀b o,h.get? b=some o->H b=none->b∈fs->b∉ex->∃sl,h'.get? b=some {o with slots:=sl}
 free:∀b o,h.get? b=some o->H b=none->b∉ex->H' b=none
 there:∀b o,h.get? b=some o->b∉ex->∃o',h'.get? b=some o'
 eJ:∀b xs,H b=some (.tup xs)->H' b=some (.tup xs)
 qN:∀b o u,H b=some (.cR o u)->H' b=some (.cR o u)
 vZ:∀b ps,H b=some (.RT ps)->∃more,H' b=some (.RT (ps++more))
section
variable {fs ex:List Addr}{H H1:Hp}{h h1 h':Heap}{a x e:Addr}{o:HO}
def Un.any (u:Un fs ex H H1 h h1) {b:Addr}{ob:Obj} (q:h.get? b=some ob) (n:H b=none) (hx:b∉ex):∃sl,h1.get? b=some {ob with slots:=sl}:=by
 by_cases hb:b∈fs
 ·exact u.slot b ob q n hb hx
 ·exact⟨ob.slots,u.keep b ob q n hb hx⟩
def Un.kept (k:∀b u,h.get? b=some u->h'.get? b=some u):Un fs ex H H h h':=
 ⟨fun b ob q _ _ _=>k b ob q,fun b ob q _ _ _=>⟨ob.slots,k b ob q⟩,fun _ _ _ n _=>n,fun b ob q _=>⟨ob,k b ob q⟩,fun _ _ q=>q,fun _ _ _ q=>q,fun _ ps q=>⟨#[],by rw [q];simp⟩⟩
def Un.refl:Un fs ex H H h h:=Un.kept fun _ _ q=>q
def Un.laid (k:∀b u,h.get? b=some u->h'.get? b=some u) (hp:h.objs.size<=a) (hn:H a=none):Un fs ex H (upd H a o) h h' where
 keep:=fun b u q _ _ _=>k b u q
 slot:=fun b u q _ _ _=>⟨u.slots,k b u q⟩
 free:=fun b u q n _=>by rw [av (AJ (Aw (Ao q) hp))];exact n
 there:=fun b u q _=>⟨u,k b u q⟩
 eJ:=fun b xs q=>by rw [av (bH q hn)];exact q
 qN:=fun b u xs q=>by rw [av (bH q hn)];exact q
 vZ:=fun b ps q=>⟨#[],by rw [av (bH q hn),q];simp⟩
def Un.write (mu:Zq (H x)) (he:e=x\/H e=some (.own x)) (k:∀b u,b≠e->h.get? b=some u->h'.get? b=some u) (UY:∃u,h'.get? e=some u):Un fs ex H (upd H x o) h h':=by
 have hx:∀b,H b=none->b≠x:=fun b n z=>by subst z;rw [n] at mu;exact mu
 have hb:∀b,H b=none->b≠e:=fun b n z=>by
  subst z;rcases he with r | r
  ·exact hx b n r
  ·rw [n] at r;cases r
 have hm:∀b u,H b=some u->¬Zq (some u)->b≠x:=fun b u q nm z=>by subst z;rw [q] at mu;exact nm mu
 refine⟨fun b u q n _ _=>k b u (hb b n) q,fun b u q n _ _=>⟨u.slots,k b u (hb b n) q⟩,fun b u q n _=>by rw [av (hx b n)];exact n,fun b u q _=>?_,
  fun b xs q=>by rw [av (hm b _ q fun z=>z)];exact q,fun b u xs q=>by rw [av (hm b _ q fun z=>z)];exact q,fun b ps q=>⟨#[],by rw [av (hm b _ q fun z=>z),q];simp⟩⟩
 by_cases TN:b=e
 ·subst TN;exact UY
 ·exact⟨u,k b u TN q⟩
end
def Yp (h:Heap) (H:Hp):List Addr:=(AG h.objs.size).filter fun a=>(H a).isSome
def xn (h:Heap) (H:Hp):Heap:=PySem.W.hideAll h (Yp h H)
def JG (h:Heap) (H:Hp):(xn h H).objs.size=h.objs.size:=PySem.W.hideAll_size _ _
def Mn {h:Heap}{H:Hp}{b:Addr}{o:Obj} (e:h.get? b=some o) (n:H b=none):(xn h H).get? b=some o:=
 PySem.W.hideAll_get _ e fun hm=>by
  have q:(H b).isSome=true:=(AE.mp hm).2;rw [n] at q;simp at q
def OX {h:Heap}{H:Hp}{b:Addr}{o:Obj} (e:(xn h H).get? b=some o):h.get? b=some o/\H b=none:=by
 have e':h.get? b=some o:=PySem.W.of_hideAll (Yp h H) e;refine⟨e',?_⟩;cases q:H b with
 | none=>rfl
 | some x=>
  have hm:b∈Yp h H:=AE.mpr ⟨AL.mpr (Ao e'),by simp [q]⟩;have z:(xn h H).get? b=none:=PySem.W.hideAll_none (Yp h H) hm;rw [z] at e;cases e
def Qx (g h:Heap) (L:Addr):List (Addr×Obj):=(AG h.objs.size).filterMap fun a=>if a=L\/(g.get? a).isSome=true then none else (h.get? a).map fun o=>(a,o)
def rest (g h:Heap) (L d:Addr):List (Addr×Obj):=(Qx g h L).filter fun p=>decide (p.1≠d)
structure Mod (K:Ab) (mg:Str->Option Value) (base:Heap):Prop where
 kin:K.In base
 glob:base.Ns mainGlobals mg
 blt:∃mb,base.Ns builtinsNs mb/\∀x:Str,x≠"__name__"->mb x=bootBuiltins x
 nolimit:base.NoLimit
structure Cx where
 prog:Program
 w:World
 K:Ab
 mg:Str->Option Value
 base:Heap
 A:Around
 N:List Str
 s₀:Shared
 H₀:Hp
 env:Env
 outer:List Env
 stack:List Env
 ex:List Addr
 fn:Str->Bool
 calm:Bool
 pn:List (Addr×Obj)
 xe:Value->Shared->Prop
def Kl (l:List Env):List Addr:=l.filterMap (·.frame)
abbrev Cx.fs (X:Cx):List Addr:=Kl X.outer
def FG (sc:Scope) (x:Str):Prop:=sc.names.lookup x=some .local\/sc.names.lookup x=some .cell\/sc.names.lookup x=some .free
def Loc (sc:Scope) (x:Str):Prop:=sc.names.lookup x=some .local\/sc.names.lookup x=some .cell
def Look (env:Env) (h:Heap) (m:Str->Option Value) (x:Str) (u:Value):Prop:=
 (env.kindOf x=some .local/\m x=some u)\/((env.kindOf x=some .cell\/env.kindOf x=some .free)/\∃c,env.cells.lookup x=some c/\h.IsCell c (some u))
structure Cx.Ok (X:Cx):Prop where
 mod:Mod X.K X.mg X.base
 kind:X.env.scope.kind=.function
 glob:X.env.globals=mainGlobals
 blt:X.env.builtins=builtinsNs
 above:X.s₀.heap.objs.size<=X.env.locals
 inj:∀x y c,X.env.cells.lookup x=some c->X.env.cells.lookup y=some c->x=y
 has:∀x,(X.env.kindOf x=some .cell\/X.env.kindOf x=some .free)->∃c,X.env.cells.lookup x=some c
 Ya:∀x c,X.fn x=true->X.env.cells.lookup x=some c->X.s₀.heap.objs.size<=c
 hd:X.calm=true->X.A.handled=none
 frames:X.A.frames=some X.stack
 Yt:X.stack=X.outer\/(X.stack=X.env::X.outer/\X.env.frame=some X.env.locals)
 exf:∀b∈X.ex,b≠X.env.locals/\∀x c,X.env.cells.lookup x=some c->c≠b
 bs:∀b o,X.base.get? b=some o->X.s₀.heap.get? b=some o/\X.H₀ b=none
 RB:X.base.objs.size<=X.s₀.heap.objs.size
 LG:∀b o,X.base.get? b=some o->b∉X.ex
 MF:∀b∈X.ex,b∉X.fs
 tm:X.s₀.heap.FunFrames X.base X.outer
 U3:∀b∈X.fs,X.H₀ b=none
structure Inv (X:Cx) (pins:List (Addr×Obj)) (σ:List (Option V)) (H:Hp) (s:Shared):Prop where
 ok:X.Ok
 os:s.os=X.s₀.os
 bare:AllBare s.gens
 base:Un X.fs X.ex X.H₀ H X.s₀.heap s.heap
 loc:∃m,s.heap.Ns X.env.locals m/\∀(i:Nat) (x:Str) (v:V),X.N[i]?=some x->σ[i]?=some (some v)->FG X.env.scope x->∃u,RelV v u/\Look X.env s.heap m x u
 cell:∀x c,X.env.cells.lookup x=some c->∃v,s.heap.IsCell c v
 free:H X.env.locals=none
 km:∀x c,X.env.cells.lookup x=some c->H c=none
 pin:∀p∈X.pn++pins,s.heap.get? p.1=some p.2/\H p.1=none/\p.1≠X.env.locals/\p.1∉X.fs/\∀v,p.2.data≠.cell v
 bP:mq X.prog X.w H s.heap
 len:σ.length=X.N.length
section
variable {X:Cx}{pins:List (Addr×Obj)}{σ:List (Option V)}{H H':Hp}{s:Shared}{h':Heap}
def Cx.Ok.aaa (ok:X.Ok) {b:Addr}{o:Obj} (e:X.base.get? b=some o):b∉X.fs:=fun hb=>by
 have:=(ok.tm.mem hb).1;rw [e] at this;cases this
def Inv.bs (I:Inv X pins σ H s):∀b o,X.base.get? b=some o->s.heap.get? b=some o/\H b=none:=fun b o e=>
 ⟨I.base.keep b o (I.ok.bs b o e).1 (I.ok.bs b o e).2 (I.ok.aaa e) (I.ok.LG b o e),I.base.free b o (I.ok.bs b o e).1 (I.ok.bs b o e).2 (I.ok.LG b o e)⟩
def Inv.bk (I:Inv X pins σ H s):∀b o,X.base.get? b=some o->s.heap.get? b=some o:=fun b o e=>(I.bs b o e).1
def Inv.mod (I:Inv X pins σ H s):Mod X.K X.mg X.base:=I.ok.mod
def Inv.vk (I:Inv X pins σ H s):X.K.In s.heap:=I.ok.mod.kin.keeps I.bk
def Inv.lt (I:Inv X pins σ H s):X.env.locals < s.heap.objs.size:=let ⟨_,hn,_⟩:=I.loc;hn.lt
def Inv.sz (I:Inv X pins σ H s):X.s₀.heap.objs.size<=s.heap.objs.size:=Bj I.ok.above (Dp I.lt)
def Inv.Z9 (I:Inv X pins σ H s) {a:Addr} (h:s.heap.objs.size<=a):a∉X.fs:=fun hb=>by
 obtain⟨_,o,ho,_⟩:=I.ok.tm.mem hb;exact absurd (Aw (Ao ho) (Bj I.sz h)) (AZ _)
def Inv.Ur (I:Inv X pins σ H s):∀x c,X.env.cells.lookup x=some c->c≠X.env.locals:=fun x c e z=>by
 obtain⟨v,o,ho,hd⟩:=I.cell x c e;obtain⟨m,⟨o',es,ep,TH,Xu,_⟩,_⟩:=I.loc;rw [z,TH] at ho;cases ho;rw [Xu] at hd;cases hd
def Inv.tm (I:Inv X pins σ H s):s.heap.FunFrames X.base X.outer:=by
 have all:∀(l:List Env),(∀b∈Kl l,b∈X.fs)->X.s₀.heap.FunFrames X.base l->s.heap.FunFrames X.base l:=by
  intro l
  induction l with
  | nil=>intro _ _;trivial
  | cons env r ih=>
   intro hs hl;obtain⟨hk,⟨L,o,hf,hn,ho,hd⟩,hr⟩:=hl;have hL:L∈X.fs:=hs L (by unfold Kl;rw [Bs,hf];exact Bo);obtain⟨sl,e⟩:=I.base.slot L o ho (I.ok.U3 L hL) hL fun z=>I.ok.MF L z hL;exact⟨hk,⟨L,_,hf,hn,e,hd⟩,ih (fun b hb=>hs b (by unfold Kl;rw [Bs,hf];exact AU _ hb)) hr⟩
 exact all X.outer (fun _ hb=>hb) I.ok.tm
def Inv.stack (I:Inv X pins σ H s):s.heap.FunFrames X.base X.stack:=by
 rcases I.ok.Yt with e | ⟨e,hf⟩
 ·rw [e];exact I.tm
 ·rw [e];obtain⟨m,hn,_⟩:=I.loc;refine .cons (by rw [I.ok.kind];decide) hf hn ?_ I.tm;exact Heap.get?_none_of_le (Bj I.ok.RB I.ok.above)
def Inv.FQ (I:Inv X pins σ H s):∀b∈Kl X.stack,b∈X.env.locals::X.fs:=fun b hb=>by
 rcases I.ok.Yt with e | ⟨e,hf⟩
 ·rw [e] at hb;exact AU _ hb
 ·rw [e] at hb;unfold Kl at hb;rw [Bs,hf] at hb;exact hb
def Inv.Hk (I:Inv X pins σ H s):∀b∈Kl X.stack,H b=none:=fun b hb=>by
 rcases Az.mp (I.FQ b hb) with e | hb
 ·rw [e];exact I.free
 ·obtain⟨_,o,ho,_⟩:=I.ok.tm.mem hb;exact I.base.free b o ho (I.ok.U3 b hb) fun z=>I.ok.MF b z hb
def Inv.step {g':Array GenState}{t':Nat}{d':Drawn}{ch:List Addr} (I:Inv X pins σ H s)
  (NN:∀b∈ch,(b∈X.ex\/X.s₀.heap.objs.size<=b)/\b≠X.env.locals/\(∀x c,X.env.cells.lookup x=some c->c≠b)/\∀p∈X.pn++pins,p.1≠b)
  (keep:∀b o,b≠X.env.locals->b∉X.fs->b∉ch->s.heap.get? b=some o->H b=none->h'.get? b=some o)
  (slot:∀b o,b≠X.env.locals->b∈X.fs->b∉ch->s.heap.get? b=some o->H b=none->∃sl,h'.get? b=some {o with slots:=sl}) (free:∀b o,b∉ch->s.heap.get? b=some o->H b=none->H' b=none)
  (there:∀b o,b∉ch->s.heap.get? b=some o->∃o',h'.get? b=some o')
  (eJ:∀b xs,H b=some (.tup xs)->H' b=some (.tup xs)) (qN:∀b o u,H b=some (.cR o u)->H' b=some (.cR o u)) (vZ:∀b ps,H b=some (.RT ps)->∃more,H' b=some (.RT (ps++more)))
  (ns:∀m,s.heap.Ns X.env.locals m->h'.Ns X.env.locals m) (bP:mq X.prog X.w H' h') (hg:AllBare g') :
  Inv X pins σ H' {s with heap:=h',gens:=g',drawn:=d',toks:=t'}:=by
 have neL:∀b o,X.s₀.heap.get? b=some o->b≠X.env.locals:=fun b o e=>AJ (Aw (Ao e) I.ok.above);have YE:∀b o,X.s₀.heap.get? b=some o->b∉X.ex->b∉ch:=fun b o e hx hb=>by
  rcases (NN b hb).1 with z | z
  ·exact hx z
  ·exact absurd (Aw (Ao e) z) (AZ _)
 have cellK:∀x c,X.env.cells.lookup x=some c->∀v,s.heap.IsCell c v->h'.IsCell c v:=fun x c e v ⟨o,ho,hd⟩=>by
  have WE:c∉ch:=fun z=>(NN c z).2.2.1 x c e rfl;by_cases hc:c∈X.fs
  ·obtain⟨sl,q⟩:=slot c o (I.Ur x c e) hc WE ho (I.km x c e);exact⟨_,q,hd⟩
  ·exact⟨o,keep c o (I.Ur x c e) hc WE ho (I.km x c e),hd⟩
 refine⟨I.ok,I.os,hg,⟨fun b o e n hb hx=>?_,fun b o e n hb hx=>?_,fun b o e n hx=>?_,fun b o e hx=>?_,fun b xs e=>eJ b xs (I.base.eJ b xs e),fun b o xs e=>qN b o xs (I.base.qN b o xs e),fun b ps e=>?_⟩,?_,fun x c e=>?_,?_,fun x c e=>?_,fun p hp=>?_,bP,I.len⟩
 ·exact keep b o (neL b o e) hb (YE b o e hx) (I.base.keep b o e n hb hx) (I.base.free b o e n hx)
 ·obtain⟨sl,e1⟩:=I.base.slot b o e n hb hx;obtain⟨sl',e2⟩:=slot b _ (neL b o e) hb (YE b o e hx) e1 (I.base.free b o e n hx);exact⟨sl',e2⟩
 ·obtain⟨o',e1⟩:=I.base.there b o e hx;exact free b o' (YE b o e hx) e1 (I.base.free b o e n hx)
 ·obtain⟨o',e1⟩:=I.base.there b o e hx;exact there b o' (YE b o e hx) e1
 ·obtain⟨m1,e1⟩:=I.base.vZ b ps e;obtain⟨m2,e2⟩:=vZ b _ e1;exact⟨m1++m2,by rw [e2,Array.append_assoc]⟩
 ·obtain⟨m,hn,hl⟩:=I.loc;refine⟨m,ns m hn,fun i x v e1 e2 e3=>?_⟩;obtain⟨u,r,l⟩:=hl i x v e1 e2 e3;refine⟨u,r,?_⟩;rcases l with l | ⟨k,c,e,z⟩
  ·exact .inl l
  ·exact .inr ⟨k,c,e,cellK x c e _ z⟩
 ·obtain⟨v,z⟩:=I.cell x c e;exact⟨v,cellK x c e v z⟩
 ·obtain⟨m,⟨o,_,_,ho,_⟩,_⟩:=I.loc;exact free _ o (fun z=>(NN _ z).2.1 rfl) ho I.free
 ·obtain⟨v,o,ho,hd⟩:=I.cell x c e;exact free c o (fun z=>(NN c z).2.2.1 x c e rfl) ho (I.km x c e)
 ·obtain⟨e,n,ne,nf,d⟩:=I.pin p hp;have WE:p.1∉ch:=fun z=>(NN p.1 z).2.2.2 p hp rfl;exact⟨keep p.1 p.2 ne nf WE e n,free p.1 p.2 WE e n,ne,nf,d⟩
def Inv.un {t':Nat} (I:Inv X pins σ H s) (u:Un X.fs [] H H' s.heap h') (bP:mq X.prog X.w H' h'):Inv X pins σ H' {s with heap:=h',toks:=t'}:=by
 obtain⟨m,⟨o,es,ep,ho,r⟩,_⟩:=id I.loc;obtain⟨sl,hL⟩:=u.any ho I.free (by simp);exact I.step (g':=s.gens) (d':=s.drawn) (ch:=[]) (fun _ z=>nomatch z) (fun b o _ hb _ e n=>u.keep b o e n hb (by simp)) (fun b o _ hb _ e n=>u.slot b o e n hb (by simp)) (fun b o _ e n=>u.free b o e n (by simp)) (fun b o _ e=>u.there b o e (by simp)) u.eJ u.qN u.vZ (fun m' hm=>by
  obtain⟨o',Zj,Zk,TH,r'⟩:=hm;rw [ho] at TH;cases TH;exact⟨_,Zj,Zk,hL,r'⟩) bP I.bare
def Inv.call {g':Array GenState}{t':Nat}{d':Drawn}{ch:List Addr} (I:Inv X pins σ H s) (u:Un (Kl X.stack) ch H H' s.heap h') (bP:mq X.prog X.w H' h') (hg:AllBare g')
  (NN:∀b∈ch,(b∈X.ex\/X.s₀.heap.objs.size<=b)/\b≠X.env.locals/\(∀x c,X.env.cells.lookup x=some c->c≠b)/\∀p∈X.pn++pins,p.1≠b) :
  Inv X pins σ H' {s with heap:=h',gens:=g',drawn:=d',toks:=t'}:=by
 obtain⟨m,⟨o,es,ep,ho,r⟩,_⟩:=id I.loc;obtain⟨sl,hL⟩:=u.any ho I.free fun z=>(NN _ z).2.1 rfl;exact I.step (ch:=ch) NN (fun b o hL hb hc e n=>u.keep b o e n (fun z=>(Az.mp (I.FQ b z)).elim hL hb) hc) (fun b o _ _ hc e n=>u.any e n hc) (fun b o hc e n=>u.free b o e n hc) (fun b o hc e=>u.there b o e hc) u.eJ u.qN u.vZ (fun m' hm=>by
  obtain⟨o',Zj,Zk,TH,r'⟩:=hm;rw [ho] at TH;cases TH;exact⟨_,Zj,Zk,hL,r'⟩) bP hg
def Inv.turned {t':Nat}{it:Addr} (I:Inv X pins σ H s) (k:∀b o,b≠it->s.heap.get? b=some o->h'.get? b=some o) (hn:H it=none) (hL:it≠X.env.locals)
  (h1:it∈X.ex\/X.s₀.heap.objs.size<=it) (h2:∀x c,X.env.cells.lookup x=some c->c≠it) (h3:∀p∈X.pn++pins,p.1≠it):Inv X pins σ H {s with heap:=h',toks:=t'}:=by
 have Q1:∀b u,H b=some u->b≠it:=fun b u e z=>by rw [z,hn] at e;cases e
 refine I.step (g':=s.gens) (d':=s.drawn) (ch:=[it]) (fun b hb=>?_) (fun b o _ _ hc e _=>k b o (fun z=>hc (by simp [z])) e) (fun b o _ _ hc e _=>⟨o.slots,k b o (fun z=>hc (by simp [z])) e⟩) (fun _ _ _ _ n=>n)
  (fun b o hc e=>⟨o,k b o (fun z=>hc (by simp [z])) e⟩) (fun _ _ e=>e) (fun _ _ _ e=>e) (fun b ps e=>⟨#[],by rw [e];simp⟩) (fun m hm=>?_) (fun b u e=>?_) I.bare
 ·have e:b=it:=by simpa using hb
  subst e;exact⟨h1,hL,h2,h3⟩
 ·obtain⟨o,es,ep,ho,r⟩:=hm;exact⟨o,es,ep,k _ o (Bx hL) ho,r⟩
 ·refine (I.bP b u e).wg (fun c v hc q=>k c v ?_ q) (fun _ q=>q) fun _ _ q=>q;rcases hc with z | z
  ·rw [z];exact Q1 b u e
  ·exact Q1 c _ z
def Inv.tok (I:Inv X pins σ H s) (t:Nat):Inv X pins σ H {s with toks:=t}:=I.un (h':=s.heap) (t':=t) Un.refl I.bP
def Inv.kept {t':Nat} (I:Inv X pins σ H s) (k:∀b u,s.heap.get? b=some u->h'.get? b=some u):Inv X pins σ H {s with heap:=h',toks:=t'}:=I.un (Un.kept k) (I.bP.kept k)
def Inv.laid {a:Addr}{o:HO}{t':Nat} (I:Inv X pins σ H s) (k:∀b u,s.heap.get? b=some u->h'.get? b=some u) (hp:s.heap.objs.size<=a) (new:bq X.prog X.w (upd H a o) h' a o) :
  Inv X pins σ (upd H a o) {s with heap:=h',toks:=t'}:=I.un (Un.laid k hp (I.bP.fresh hp)) (I.bP.laid k hp new)
def Inv.write {x e:Addr}{o:HO}{t':Nat} (I:Inv X pins σ H s) (mu:Zq (H x)) (he:e=x\/H e=some (.own x)) (k:∀b u,b≠e->s.heap.get? b=some u->h'.get? b=some u) (UY:∃u,h'.get? e=some u)
  (new:bq X.prog X.w (upd H x o) h' x o):Inv X pins σ (upd H x o) {s with heap:=h',toks:=t'}:=I.un (Un.write mu he k UY) (I.bP.write mu he k UY new)
def Inv.Hz {yZ:List (Addr×Obj)} (I:Inv X pins σ H s) (h:∀p∈yZ,s.heap.get? p.1=some p.2/\H p.1=none/\p.1≠X.env.locals/\p.1∉X.fs/\∀v,p.2.data≠.cell v):Inv X yZ σ H s:=
 ⟨I.ok,I.os,I.bare,I.base,I.loc,I.cell,I.free,I.km,fun p hp=>(Bh.mp hp).elim (fun z=>I.pin p (C4 _ z)) (h p),I.bP,I.len⟩
def zc {N:List Str} (hN:N.Nodup) {i j:Nat}{x:Str} (a:N[i]?=some x) (b:N[j]?=some x):i=j:=by
 obtain⟨h1,e1⟩:=Aj.mp a;obtain⟨h2,e2⟩:=Aj.mp b;exact (D9 hN).mp (e1.trans e2.symm)
def u0 {M:Model}{A:Around}{E:Value->Shared->Prop}{i:Nat}{x:Str}{v:V}{u:Value}{Q:Unit->Shared->Prop} (I:Inv X pins σ H s) (hN:X.N.Nodup) (hi:X.N[i]?=some x) (hx:Loc X.env.scope x) (r:RelV v u)
  (h:∀s',Inv X pins (σ.set i (some v)) H s'->(∃a,B6 a s.heap s'.heap/\(a=X.env.locals\/X.env.cells.lookup x=some a))->Q () s') (hf:X.fn x=true\/X.env.scope.names.lookup x=some .local:=by first | exact .inl rfl | exact .inr rfl | assumption):wpAny M A (storeName X.env x u) Q E s:=by
 obtain⟨m,hn,hl⟩:=id I.loc;have aaN:(X.env.scope.kind==.class||(X.env.scope.kind==.module&&X.env.locals != X.env.globals))=false:=by rw [I.ok.kind];rfl
 have Xk:i < σ.length:=by rw [I.len];exact (Aj.mp hi).1
 have Ur:=I.Ur;have tracked:∀{a:Addr}{h':Heap},(∃o,s.heap.get? a=some o/\H a=none)->B6 a s.heap h'->mq X.prog X.w H h':=fun {a h'} ha hs b ob e=>by
  obtain⟨_,_,Rh⟩:=ha;refine (I.bP b ob e).wg (fun c w' hc q=>(hs.2 c ?_).trans q) (fun _ q=>q) fun _ _ q=>q;rintro rfl;rcases hc with rfl | hc
  ·rw [Rh] at e;cases e
  ·rw [Rh] at hc;cases hc
 rcases hx with hk | hk
 ·refine wpAny_storeName_local hk hn (fun h' hn' hs=>?_) aaN;obtain⟨oL,_,_,hoL,_⟩:=id hn;refine h _ ⟨I.ok,I.os,I.bare,⟨fun b o e n hb hx=>?_,fun b o e n hb hx=>?_,I.base.free,fun b o e hx=>?_,I.base.eJ,I.base.qN,I.base.vZ⟩,⟨_,hn',fun j y v' e1 e2 e3=>?_⟩,fun y c e=>?_,I.free,I.km,fun p hp=>?_,tracked ⟨oL,hoL,I.free⟩ hs,by simpa using I.len⟩ ⟨_,hs,.inl rfl⟩
  ·exact (hs.2 b (AJ (Aw (Ao e) I.ok.above))).trans (I.base.keep b o e n hb hx)
  ·obtain⟨sl,e1⟩:=I.base.slot b o e n hb hx;exact⟨sl,(hs.2 b (AJ (Aw (Ao e) I.ok.above))).trans e1⟩
  ·obtain⟨o',e1⟩:=I.base.there b o e hx;exact⟨o',(hs.2 b (AJ (Aw (Ao e) I.ok.above))).trans e1⟩
  ·by_cases hj:j=i
   ·subst hj;rw [hi] at e1;cases e1;rw [BA Xk] at e2;cases e2;exact⟨u,r,.inl ⟨hk,by simp⟩⟩
   ·rw [Bp (Bx hj)] at e2;obtain⟨u',r',q⟩:=hl j y v' e1 e2 e3;refine⟨u',r',?_⟩;rcases q with⟨k,e⟩ | ⟨k,c,e,z⟩
    ·refine .inl ⟨k,?_⟩;have:y≠x:=fun e=>hj (zc hN e1 (e▸hi));simp [this,e]
    ·exact .inr ⟨k,c,e,z.sameBut hs (Ur y c e)⟩
  ·obtain⟨w',z⟩:=I.cell y c e;exact⟨w',z.sameBut hs (Ur y c e)⟩
  ·obtain⟨e,n,ne,nf,d⟩:=I.pin p hp;exact⟨(hs.2 p.1 ne).trans e,n,ne,nf,d⟩
 ·have Xp:X.fn x=true:=by
   rcases hf with z | z
   ·exact z
   ·rw [z] at hk;cases hk
  obtain⟨c,hc⟩:=I.ok.has x (.inl hk);obtain⟨w',z⟩:=I.cell x c hc;refine wpAny_storeName_cell I.ok.kind hk hc z (fun h' U0 hs=>?_);obtain⟨oc,hoc,aaA⟩:=id z;refine h {s with heap:=h'} ⟨I.ok,I.os,I.bare,⟨fun b o e n hb hx=>?_,fun b o e n hb hx=>?_,I.base.free,fun b o e hx=>?_,I.base.eJ,I.base.qN,I.base.vZ⟩,⟨m,hn.sameBut hs (Bx (Ur x c hc)),fun j y v' e1 e2 e3=>?_⟩,fun y c' e=>?_,I.free,I.km,fun p hp=>?_,tracked ⟨oc,hoc,I.km x c hc⟩ hs,by simpa using I.len⟩ ⟨c,hs,.inr hc⟩
  ·exact (hs.2 b (AJ (Aw (Ao e) (I.ok.Ya x c Xp hc)))).trans (I.base.keep b o e n hb hx)
  ·obtain⟨sl,e1⟩:=I.base.slot b o e n hb hx;exact⟨sl,(hs.2 b (AJ (Aw (Ao e) (I.ok.Ya x c Xp hc)))).trans e1⟩
  ·obtain⟨o',e1⟩:=I.base.there b o e hx;exact⟨o',(hs.2 b (AJ (Aw (Ao e) (I.ok.Ya x c Xp hc)))).trans e1⟩
  ·by_cases hj:j=i
   ·subst hj;rw [hi] at e1;cases e1;rw [BA Xk] at e2;cases e2;exact⟨u,r,.inr ⟨.inl hk,c,hc,U0⟩⟩
   ·rw [Bp (Bx hj)] at e2;obtain⟨u',r',q⟩:=hl j y v' e1 e2 e3;refine⟨u',r',?_⟩;rcases q with q | ⟨k,c',e,z'⟩
    ·exact .inl q
    ·refine .inr ⟨k,c',e,z'.sameBut hs ?_⟩;rintro rfl;exact hj (zc hN e1 (I.ok.inj _ _ _ e hc▸hi))
  ·by_cases hcc:c'=c
   ·subst hcc;exact⟨_,U0⟩
   ·obtain⟨w2,z2⟩:=I.cell y c' e;exact⟨w2,z2.sameBut hs hcc⟩
  ·obtain⟨e,n,ne,nf,d⟩:=I.pin p hp;refine⟨(hs.2 p.1 ?_).trans e,n,ne,nf,d⟩;intro q;rw [q,hoc] at e;have q':oc=p.2:=Option.some.inj e;exact d w' (by rw [<- q'];exact aaA)
def yL {M:Model}{A:Around}{E:Value->Shared->Prop}{i:Nat}{x:Str}{v:V}{u:Value}{Q:Unit->Shared->Prop} (I:Inv X pins σ H s) (hN:X.N.Nodup) (hi:X.N[i]?=some x) (hx:Loc X.env.scope x) (r:RelV v u)
  (h:∀s',Inv X pins (σ.set i (some v)) H s'->Q () s') (hf:X.fn x=true\/X.env.scope.names.lookup x=some .local:=by first | exact .inl rfl | exact .inr rfl | assumption):wpAny M A (storeName X.env x u) Q E s:=
 u0 I hN hi hx r (fun s' I' _=>h s' I') hf
def Inv.X9 {s':Shared}{ch:List Addr} (I:Inv X pins σ H s) (ho:s'.os=s.os) (u:Un (Kl X.stack) ch H H' s.heap s'.heap) (bP:mq X.prog X.w H' s'.heap) (hg:AllBare s'.gens)
  (NN:∀b∈ch,(b∈X.ex\/X.s₀.heap.objs.size<=b)/\b≠X.env.locals/\(∀x c,X.env.cells.lookup x=some c->c≠b)/\∀p∈X.pn++pins,p.1≠b):Inv X pins σ H' s':=by
 obtain⟨h',g',d',t',o'⟩:=s';have e:o'=s.os:=ho;subst e;exact I.call (g':=g') (t':=t') (d':=d') u bP hg NN
end
abbrev XK:=Value->Option Addr->Hp->Prop
abbrev St:=List (Option V)
abbrev VK:=V->Hp->Prop
abbrev TE:=St->Hp->VK->Prop
abbrev TT:=St->Hp->(Bool->Hp->Prop)->Prop
abbrev TA:=St->Hp->(List V->Hp->Prop)->Prop
structure Ends where
 nx:St->Hp->Prop
 rt:VK
 bk:St->Hp->Prop:=fun _ _=>False
 ct:St->Hp->Prop:=fun _ _=>False
abbrev TS:=Ends->St->Hp->Prop
def EP (X:Cx) (pins:List (Addr×Obj)) (σ:St) (Q:VK) (u:Value) (s':Shared):Prop:=∃v H',Inv X pins σ H' s'/\RelV v u/\Q v H'
def TP (X:Cx) (pins:List (Addr×Obj)) (σ:St) (Q:Bool->Hp->Prop) (b:Bool) (s':Shared):Prop:=∃H',Inv X pins σ H' s'/\Q b H'
def AP (X:Cx) (pins:List (Addr×Obj)) (σ:St) (Q:List V->Hp->Prop) (us:List Value) (s':Shared):Prop:=∃vs H',Inv X pins σ H' s'/\Vals vs us/\Q vs H'
def SP (X:Cx) (pins:List (Addr×Obj)) (D:Ends) (f:Flow) (s':Shared):Prop:=
 match f with
 | .next=>∃σ' H',Inv X pins σ' H' s'/\D.nx σ' H'
 | .brk=>∃σ' H',Inv X pins σ' H' s'/\D.bk σ' H'
 | .cont=>∃σ' H',Inv X pins σ' H' s'/\D.ct σ' H'
 | .ret u=>∃v σ' H',Inv X pins σ' H' s'/\RelV v u/\D.rt v H'
def PE (X:Cx) (e:Expr) (t:TE):Prop:=
 ∀(pins:List (Addr×Obj)) (s:Shared) (σ:St) (H:Hp) (Q:VK),Inv X pins σ H s->t σ H Q->wpAny (model X.prog X.w) X.A (eval e X.env) (EP X pins σ Q) X.xe s
def PT (X:Cx) (e:Expr) (t:TT):Prop:=
 ∀(pins:List (Addr×Obj)) (s:Shared) (σ:St) (H:Hp) (Q:Bool->Hp->Prop),Inv X pins σ H s->t σ H Q->wpAny (model X.prog X.w) X.A (isTrue e X.env (eval e X.env)) (TP X pins σ Q) X.xe s
def PW (X:Cx) (e:Expr) (t:TT):Prop:=
 ∀(whole:Sem Value) (pins:List (Addr×Obj)) (s:Shared) (σ:St) (H:Hp) (Q:Bool->Hp->Prop),Inv X pins σ H s->t σ H Q->wpAny (model X.prog X.w) X.A (isTrue e X.env whole) (TP X pins σ Q) X.xe s
def PW.pt {X:Cx}{e:Expr}{t:TT} (h:PW X e t):PT X e t:=h _
def PA (X:Cx) (es:List Expr) (t:TA):Prop:=
 ∀(pos:Pos) (pins:List (Addr×Obj)) (s:Shared) (σ:St) (H:Hp) (Q:List V->Hp->Prop),Inv X pins σ H s->t σ H Q->wpAny (model X.prog X.w) X.A (spliced (backTo pos (starEach es X.env))) (AP X pins σ Q) X.xe s
def PS (X:Cx) (st:Stmt) (t:TS):Prop:=
 ∀(pins:List (Addr×Obj)) (s:Shared) (σ:St) (H:Hp) (D:Ends),Inv X pins σ H s->t D σ H->wpAny (model X.prog X.w) X.A (exec st X.env) (SP X pins D) X.xe s
def rD (X:Cx) (st:List Stmt) (t:TS):Prop:=
 ∀(pins:List (Addr×Obj)) (s:Shared) (σ:St) (H:Hp) (D:Ends),Inv X pins σ H s->t D σ H->wpAny (model X.prog X.w) X.A (execs st X.env) (SP X pins D) X.xe s
def cj {α:Type}{t:Sem α}{Q Q':α->Shared->Prop}{M:Model}{A:Around}{E:Value->Shared->Prop}{s:Shared} (h:wpAny M A t Q E s) (hQ:∀a s,Q a s->Q' a s):wpAny M A t Q' E s:=BQ h hQ fun _ _ x=>x
section
variable {X:Cx}
def bin {a b:Expr}{ta tb:TE} (ha:PE X a ta) (hb:PE X b tb) {pins:List (Addr×Obj)}{s:Shared}{σ:St}{H:Hp}{R:V->V->Hp->Prop} (I:Inv X pins σ H s) (h:ta σ H fun x H1=>tb σ H1 fun y H2=>R x y H2)
  {α:Type}{Q:α->Shared->Prop}{f:Value->Value->Sem α}
  (hf:∀v u s2 x y H2,Inv X pins σ H2 s2->RelV x v->RelV y u->R x y H2->wpAny (model X.prog X.w) X.A (f v u) Q X.xe s2) :
  wpAny (model X.prog X.w) X.A (eval a X.env) (fun v s₁=>wpAny (model X.prog X.w) X.A (eval b X.env) (fun u s₂=>wpAny (model X.prog X.w) X.A (f v u) Q X.xe s₂) X.xe s₁) X.xe s:=by
 refine cj (ha pins s σ H _ I h) fun v s1 ⟨x,H1,I1,r1,q1⟩=>?_;refine cj (hb pins s1 σ H1 _ I1 q1) fun u s2 ⟨y,H2,I2,r2,q2⟩=>?_;exact hf v u s2 x y H2 I2 r1 r2 q2
def ZG (i:Nat):TE:=fun σ H Q=>∃v,σ[i]?=some (some v)/\Q v H
def tC (v:V):TE:=fun _ H Q=>Q v H
def eT {i:Nat}{x:Str}{pos:Pos} (hN:X.N[i]?=some x) (hv:FG X.env.scope x) (hd:(x==("__debug__":Str))=false:=by decide) (ko:(x==("__classdict__":Str))=false:=by decide):PE X (.Name x pos) (ZG i):=by
 intro pins s σ H Q I h;obtain⟨v,e,h⟩:=h;obtain⟨m,hn,hl⟩:=I.loc;obtain⟨u,r,l⟩:=hl i x v hN e hv;have fin:EP X pins σ Q u s:=⟨v,H,I,r,h⟩;rcases l with⟨hk,hm⟩ | ⟨hk,c,hc,Rl⟩
 ·exact wpAny_Name (wpAny_loadName_local I.ok.kind hk hn hm fin) hd
 ·rcases hk with hk | hk
  ·exact wpAny_Name (wpAny_loadName_cell I.ok.kind hk hc Rl fin) hd
  ·exact wpAny_Name (wpAny_loadName_free I.ok.kind hk hc Rl fin ko) hd
def Sx {i j pos}:PE X (.Constant (.int i) j pos) (tC (.int i)):=fun _ _ _ H _ I h=>wpAny_Constant_int ⟨.int i,H,I.tok _,⟨_,rfl⟩,h⟩
def Wm {b j pos}:PE X (.Constant (.bool b) j pos) (tC (.bl b)):=fun _ _ _ H _ I h=>Constant_bool ⟨.bl b,H,I,rfl,h⟩
def Sw {j pos}:PE X (.Constant .none j pos) (tC .aU):=fun _ _ _ H _ I h=>Constant_none ⟨.aU,H,I,rfl,h⟩
def Ss {x j pos}:PE X (.Constant (.str x) j pos) (tC (.str x)):=fun _ _ _ H _ I h=>Calls.Constant_str ⟨.str x,H,I.tok _,⟨_,rfl⟩,h⟩
def Gl (X:Cx) (x:Str):Prop:=X.env.kindOf x=some .globalImplicit
def Pc {E:Value->Shared->Prop}{pins:List (Addr×Obj)}{s:Shared}{σ:St}{H:Hp}{x:Str}{u:Value}{pos:Pos}{Q:Value->Shared->Prop} (I:Inv X pins σ H s) (hg:Gl X x) (hm:X.mg x=some u) (h:Q u s)
  (hd:(x==("__debug__":Str))=false:=by decide):wpAny (model X.prog X.w) X.A (eval (.Name x pos) X.env) Q E s:=
 Dw I.ok.kind hg (Calls.loadGlobal_global (by rw [I.ok.glob];exact I.mod.glob.keeps I.bk) hm h) hd
def jE {E:Value->Shared->Prop}{pins:List (Addr×Obj)}{s:Shared}{σ:St}{H:Hp}{x:Str}{u:Value}{pos:Pos}{Q:Value->Shared->Prop} (I:Inv X pins σ H s) (hg:Gl X x) (hm:X.mg x=none) (hv:bootBuiltins x=some u) (h:Q u s)
  (hn:x≠"__name__":=by decide) (hd:(x==("__debug__":Str))=false:=by decide):wpAny (model X.prog X.w) X.A (eval (.Name x pos) X.env) Q E s:=by
 obtain⟨mb,h1,h2⟩:=I.mod.blt;exact Dw I.ok.kind hg (Calls.loadGlobal_builtin (by rw [I.ok.glob];exact I.mod.glob.keeps I.bk) hm (by rw [I.ok.blt];exact h1.keeps I.bk) ((h2 x hn).trans hv) h) hd
def OL {x:Str}{v:V}{u:Value}{pos:Pos} (hg:Gl X x) (hm:X.mg x=none) (hv:bootBuiltins x=some u) (r:RelV v u) (hn:x≠"__name__":=by decide) (hd:(x==("__debug__":Str))=false:=by decide):PE X (.Name x pos) (tC v):=
 fun _ _ _ H _ I h=>jE I hg hm hv ⟨v,H,I,r,h⟩ hn hd
variable {a b:Expr}{ta tb:TE}{pos:Pos}
variable {tA Ys:TT}{rest:List Expr}
def ZQ (t u:TT):TT:=fun σ H Q=>t σ H fun c H1=>if c=true then u σ H1 Q else Q false H1
def tOr (t u:TT):TT:=fun σ H Q=>t σ H fun c H1=>if c=true then Q true H1 else u σ H1 Q
def ZL (t:TT):TT:=fun σ H Q=>t σ H fun c H1=>Q (!c) H1
def Ow (ha:PT X a tA):PW X (.BoolOp .And [a] pos) tA:=by
 intro wh pins s σ H Q I h;refine isTrue_and (cj (ha pins s σ H Q I h) fun c s1 e=>?_);cases c with
 | true=>exact isTrue_and_nil e
 | false=>exact e
def Sl (ha:PT X a tA):PW X (.BoolOp .Or [a] pos) tA:=by
 intro wh pins s σ H Q I h;refine isTrue_or (cj (ha pins s σ H Q I h) fun c s1 e=>?_);cases c with
 | false=>exact isTrue_or_nil e
 | true=>exact e
def Sn (ha:PT X a tA) (hb:PW X (.BoolOp .And (b::rest) pos) Ys):PW X (.BoolOp .And (a::b::rest) pos) (ZQ tA Ys):=by
 intro wh pins s σ H Q I h;refine isTrue_and (cj (ha pins s σ H _ I h) fun c s1 ⟨H1,I1,q1⟩=>?_);cases c with
 | true=>exact hb wh pins s1 σ H1 Q I1 q1
 | false=>exact⟨H1,I1,q1⟩
def Wf (ha:PT X a tA) (hb:PW X (.BoolOp .Or (b::rest) pos) Ys):PW X (.BoolOp .Or (a::b::rest) pos) (tOr tA Ys):=by
 intro wh pins s σ H Q I h;refine isTrue_or (cj (ha pins s σ H _ I h) fun c s1 ⟨H1,I1,q1⟩=>?_);cases c with
 | true=>exact⟨H1,I1,q1⟩
 | false=>exact hb wh pins s1 σ H1 Q I1 q1
def So (ha:PT X a tA):PT X (.UnaryOp .Not a pos) (ZL tA):=by
 intro pins s σ H Q I h;exact isTrue_not (ha pins s σ H (fun c H1=>Q (!c) H1) I h)
def VL (ta tb:TE):TE:=fun σ H Q=>ta σ H fun x H1=>∃c,x=.bl c/\if c=true then tb σ H1 Q else Q (.bl false) H1
def ZK (ta tb:TE):TE:=fun σ H Q=>ta σ H fun x H1=>∃c,x=.bl c/\if c=true then Q (.bl true) H1 else tb σ H1 Q
def VA (ta:TE):TE:=fun σ H Q=>ta σ H fun x H1=>∃c,x=.bl c/\Q (.bl (!c)) H1
def Su {op}{t:TE} (h:PE X a t):PE X (.BoolOp op [a] pos) t:=fun pins s σ H Q I hw=>BoolOp_one (h pins s σ H Q I hw)
def SA (ha:PE X a ta) (hb:PE X (.BoolOp .And (b::rest) pos) tb):PE X (.BoolOp .And (a::b::rest) pos) (VL ta tb):=by
 intro pins s σ H Q I h;refine BoolOp_and (cj (ha pins s σ H _ I h) fun v s1 ⟨x,H1,I1,r1,q1⟩=>?_);obtain⟨c,rfl,q1⟩:=q1;cases r1;refine BN ?_;cases c with
 | true=>exact hb pins s1 σ H1 Q I1 q1
 | false=>exact⟨.bl false,H1,I1,rfl,q1⟩
def Wj (ha:PE X a ta) (hb:PE X (.BoolOp .Or (b::rest) pos) tb):PE X (.BoolOp .Or (a::b::rest) pos) (ZK ta tb):=by
 intro pins s σ H Q I h;refine BoolOp_or (cj (ha pins s σ H _ I h) fun v s1 ⟨x,H1,I1,r1,q1⟩=>?_);obtain⟨c,rfl,q1⟩:=q1;cases r1;refine BN ?_;cases c with
 | false=>exact hb pins s1 σ H1 Q I1 q1
 | true=>exact⟨.bl true,H1,I1,rfl,q1⟩
def Sv (ha:PE X a ta):PE X (.UnaryOp .Not a pos) (VA ta):=by
 intro pins s σ H Q I h;refine UnaryOp_ (cj (ha pins s σ H _ I h) fun v s1 ⟨x,H1,I1,r1,q1⟩=>?_);obtain⟨c,rfl,q1⟩:=q1;cases r1;exact not_of (BN ⟨.bl (!c),H1,I1,rfl,q1⟩)
def tIf (t:TT) (ta tb:TE):TE:=fun σ H Q=>t σ H fun c H1=>if c=true then ta σ H1 Q else tb σ H1 Q
def Ls {c:Expr} (hc:PT X c tA) (ha:PE X a ta) (hb:PE X b tb):PE X (.IfExp c a b pos) (tIf tA ta tb):=by
 intro pins s σ H Q I h;refine wpAny_IfExp (cj (hc pins s σ H _ I h) fun d s1 ⟨H1,I1,q1⟩=>?_);cases d with
 | true=>exact ha pins s1 σ H1 Q I1 q1
 | false=>exact hb pins s1 σ H1 Q I1 q1
end
def cT (K:Ab) (H:Hp) (a:Addr) (xs:List V):Prop:=
 Rd H a (.lst xs)\/
  ∃(o:Obj) (aq:Array Value) (n:Nat),K.lookup a=some o/\o.cls=.type "list"/\o.dict=none/\o.data=.seq aq n/\aq.size<=sizeLine/\Vals xs aq.toList
def da (K:Ab) (H:Hp) (a:Addr) (xs:List V):Prop:=
 Rd H a (.tup xs)\/
  ∃(o:Obj) (aq:Array Value) (n:Nat),K.lookup a=some o/\o.cls=.type "tuple"/\o.data=.seq aq n/\aq.size<=sizeLine/\Vals xs aq.toList
def abh:Value->Option V
 | .none=>some .aU
 | .bool b=>some (.bl b)
 | .int i _=>some (.int i)
 | .str x _=>some (.str x)
 | .bytes b _=>some (.Ut b)
 | .float b _=>some (.U6 b)
 | .ref a=>some (.ref a)
 | .type n=>some (.ty n)
 | _=>none
def RelV.abs {x:V}{u:Value} (r:RelV x u):abh u=some x:=by
 cases x with
 | aU=>cases r;rfl
 | bl _=>cases r;rfl
 | int _=>obtain⟨t,rfl⟩:=r;rfl
 | str _=>obtain⟨t,rfl⟩:=r;rfl
 | Ut _=>obtain⟨t,rfl⟩:=r;rfl
 | U6 _=>obtain⟨t,rfl⟩:=r;rfl
 | ref _=>cases r;rfl
 | ty _=>cases r;rfl
def RelV.inj {x y:V}{u:Value} (r:RelV x u) (q:RelV y u):x=y:=Option.some.inj (r.abs.symm.trans q.abs)
theorem Vals.inj:∀{xs ys:List V}{us:List Value},Vals xs us->Vals ys us->xs=ys
 | _,_,_,.nil,.nil=>rfl
 | _,_,_,.cons r t,.cons r' t'=>by rw [r.inj r',Vals.inj t t']
section
variable {X:Cx}{pins:List (Addr×Obj)}{σ:St}{H:Hp}{s:Shared}{a:Addr}{xs ys:List V}
def cT.of {K:Ab} (h:H a=some (.lst xs)):cT K H a xs:=.inl (.inl h)
def da.of {K:Ab} (h:H a=some (.tup xs)):da K H a xs:=.inl (.inl h)
def Inv.list (I:Inv X pins σ H s) (h:cT X.K H a xs):∃aq:List Value,Vals xs aq/\PlainL s.heap a aq.toArray/\xs.length<=sizeLine:=by
 rcases h with h | ⟨o,aq,n,hk,hc,hd,hs,hz,r⟩
 ·obtain⟨z,aq,n,r,e⟩:=h.ok I.bP;exact⟨aq,r,⟨_,n,e,rfl,rfl,rfl⟩,z⟩
 ·refine⟨aq.toList,r,⟨o,n,I.vk a o hk,hc,hd,by simpa using hs⟩,?_⟩;have e:=r.length;simp only [Dm] at e;omega
def Inv.tuple (I:Inv X pins σ H s) (h:da X.K H a xs):∃aq:List Value,Vals xs aq/\IsTup s.heap a aq.toArray/\xs.length<=sizeLine:=by
 rcases h with h | ⟨o,aq,n,hk,hc,hs,hz,r⟩
 ·obtain⟨z,aq,r,p⟩:=h.ok I.bP;exact⟨aq,r,p,z⟩
 ·refine⟨aq.toList,r,⟨o,I.vk a o hk,hc,n,by simpa using hs⟩,?_⟩;have e:=r.length;simp only [Dm] at e;omega
def Inv.zl (I:Inv X pins σ H s) (h:cT X.K H a xs) (h':cT X.K H a ys):xs=ys:=by
 obtain⟨aq,r,⟨o,n,e,_,_,d⟩,_⟩:=I.list h;obtain⟨its',r',⟨o',n',e',_,_,d'⟩,_⟩:=I.list h';rw [e] at e';cases e';rw [d] at d';injection d' with d1 _;have:aq=its':=by simpa using congrArg Array.toList d1
 subst this;exact r.inj r'
def Inv.lI (I:Inv X pins σ H s) (h:da X.K H a xs) (h':da X.K H a ys):xs=ys:=by
 obtain⟨aq,r,⟨o,e,_,n,d⟩,_⟩:=I.tuple h;obtain⟨its',r',⟨o',e',_,n',d'⟩,_⟩:=I.tuple h';rw [e] at e';cases e';rw [d] at d';injection d' with d1 _;have:aq=its':=by simpa using congrArg Array.toList d1
 subst this;exact r.inj r'
end
abbrev Cx.uq (X:Cx) (E:Value->Shared->Prop):Cx:={X with xe:=E}
abbrev Cx.O3 (X:Cx):Cx:=X.uq fun _ _=>False
def Cx.Ok.uq {X:Cx} (ok:X.Ok) (E:Value->Shared->Prop):(X.uq E).Ok:=
 ⟨ok.mod,ok.kind,ok.glob,ok.blt,ok.above,ok.inj,ok.has,ok.Ya,ok.hd,ok.frames,ok.Yt,ok.exf,ok.bs,ok.RB,ok.LG,ok.MF,ok.tm,ok.U3⟩
def Cx.Ok.kD {X:Cx}{E:Value->Shared->Prop} (ok:(X.uq E).Ok):X.Ok:=
 ⟨ok.mod,ok.kind,ok.glob,ok.blt,ok.above,ok.inj,ok.has,ok.Ya,ok.hd,ok.frames,ok.Yt,ok.exf,ok.bs,ok.RB,ok.LG,ok.MF,ok.tm,ok.U3⟩
section
variable {X:Cx}{pins:List (Addr×Obj)}{σ:St}{H:Hp}{s:Shared}{E:Value->Shared->Prop}
def Inv.uq (I:Inv X pins σ H s) (E:Value->Shared->Prop):Inv (X.uq E) pins σ H s:=⟨I.ok.uq E,I.os,I.bare,I.base,I.loc,I.cell,I.free,I.km,I.pin,I.bP,I.len⟩
def Inv.kD (I:Inv (X.uq E) pins σ H s):Inv X pins σ H s:=⟨I.ok.kD,I.os,I.bare,I.base,I.loc,I.cell,I.free,I.km,I.pin,I.bP,I.len⟩
def SP.kD {D:Ends}{f:Flow}{s':Shared} (h:SP (X.uq E) pins D f s'):SP X pins D f s':=by
 cases f with
 | next=>obtain⟨σ',H',I,q⟩:=h;exact⟨σ',H',I.kD,q⟩
 | brk=>obtain⟨σ',H',I,q⟩:=h;exact⟨σ',H',I.kD,q⟩
 | cont=>obtain⟨σ',H',I,q⟩:=h;exact⟨σ',H',I.kD,q⟩
 | ret u=>obtain⟨v,σ',H',I,r,q⟩:=h;exact⟨v,σ',H',I.kD,r,q⟩
def rD.O3 {st:List Stmt}{t:TS} (h:rD X.O3 st t):rD X st t:=fun pins s σ H D I hw=>
 BQ (h pins s σ H D (I.uq _) hw) (fun _ _ q=>q.kD) fun _ _ z=>Bg z
end
section
variable {X:Cx}{st:Stmt}{rest:List Stmt}{t u:TS}{e:Expr}{te:TE}{pos:Pos}
def VB:TS:=fun D σ H=>D.nx σ H
def ZI (t u:TS):TS:=fun D σ H=>t {D with nx:=u D} σ H
def wC:rD X [] VB:=fun _ _ σ H _ I h=>Dg ⟨σ,H,I,h⟩
def yV (h1:PS X st t) (h2:rD X rest u):rD X (st::rest) (ZI t u):=by
 intro pins s σ H D I h;refine wpAny_execs_cons (cj (h1 pins s σ H {D with nx:=u D} I h) fun f s1 q=>?_);cases f with
 | next=>
  obtain⟨σ',H',I',q⟩:=q;exact h2 pins s1 σ' H' D I' q
 | ret v=>exact q
 | brk=>exact q
 | cont=>exact q
def Ox (h1:PS X st t):rD X [st] t:=by
 intro pins s σ H D I h;refine wpAny_execs_cons (cj (h1 pins s σ H D I h) fun f s1 q=>?_);cases f with
 | next=>exact Dg q
 | ret v=>exact q
 | brk=>exact q
 | cont=>exact q
def VF:TS:=fun D σ H=>D.ct σ H
def yX:PS X (.Continue pos) VF:=fun _ _ σ H _ I h=>wpAny_Continue ⟨σ,H,I,h⟩
def Inv.quiet {pins:List (Addr×Obj)}{σ:St}{H:Hp}{s:Shared} (I:Inv X pins σ H s):interactive X.env=false:=by simp [interactive,I.ok.kind]
def VD (te:TE):TS:=fun D σ H=>te σ H fun _ H1=>D.nx σ H1
def nu (he:PE X e te) (hs:swapsWith e none pos.line X.env=pure false:=by rfl):PS X (.Expr e pos) (VD te):=by
 intro pins s σ H D I h;exact wpAny_Expr_any (cj (he pins s σ H _ I h) fun v s1 ⟨x,H1,I1,r1,q1⟩=>⟨σ,H1,I1,q1⟩) I.quiet hs
def ZJ (te:TE):TS:=fun D σ H=>te σ H D.rt
def wF (he:PE X e te):PS X (.Return (some e) pos) (ZJ te):=by
 intro pins s σ H D I h;exact wpAny_Return_some (cj (he pins s σ H _ I h) fun v s1 ⟨x,H1,I1,r1,q1⟩=>⟨x,σ,H1,I1,r1,q1⟩)
def ZO (c:TT) (t u:TS):TS:=fun D σ H=>c σ H fun b H1=>if b=true then t D σ H1 else u D σ H1
def Lc {c:Expr}{a b:List Stmt}{tc:TT} (hc:PT X c tc) (ha:rD X a t) (hb:rD X b u):PS X (.If c a b pos) (ZO tc t u):=by
 intro pins s σ H D I h;refine wpAny_If (cj (hc pins s σ H _ I h) fun d s1 ⟨H1,I1,q1⟩=>?_);cases d with
 | true=>exact ha pins s1 σ H1 D I1 q1
 | false=>exact hb pins s1 σ H1 D I1 q1
def RX:TS:=fun _ _ _=>False
end
abbrev TG:=V->St->Hp->(St->Hp->Prop)->Prop
abbrev UC:=List V->St->Hp->(St->Hp->Prop)->Prop
def PG (X:Cx) (target:Expr) (t:TG):Prop:=
 ∀(pins:List (Addr×Obj)) (s:Shared) (σ:St) (H:Hp) (v:V) (u:Value) (Q:St->Hp->Prop),Inv X pins σ H s->RelV v u->t v σ H Q->
  wpAny (model X.prog X.w) X.A (assign target X.env u) (fun _ s'=>∃σ' H',Inv X pins σ' H' s'/\Q σ' H') X.xe s
def Zp (X:Cx) (ts:List Expr) (t:UC):Prop:=
 ∀(pins:List (Addr×Obj)) (s:Shared) (σ:St) (H:Hp) (vs:List V) (us:List Value) (Q:St->Hp->Prop),Inv X pins σ H s->Vals vs us->t vs σ H Q->
  wpAny (model X.prog X.w) X.A (assignInOrder ((assignEach ts X.env).map (·.2)) us) (fun _ s'=>∃σ' H',Inv X pins σ' H' s'/\Q σ' H') X.xe s
abbrev G9:=V->V->V->Hp->(Hp->Prop)->Prop
def Hc (X:Cx) (t:G9):Prop:=
 ∀(pins:List (Addr×Obj)) (s:Shared) (σ:St) (H:Hp) (o i v:V) (ov iv u:Value) (Q:Hp->Prop),Inv X pins σ H s->RelV o ov->RelV i iv->RelV v u->t o i v H Q->
  wpAny (model X.prog X.w) X.A (setItem ov iv u) (fun _ s'=>∃H',Inv X pins σ H' s'/\Q H') X.xe s
abbrev Yg:=V->V->Hp->VK->Prop
def PIp (X:Cx) (op:Operator) (t:Yg):Prop:=
 ∀(pins:List (Addr×Obj)) (s:Shared) (σ:St) (H:Hp) (x y:V) (v u:Value) (Q:VK),Inv X pins σ H s->RelV x v->RelV y u->t x y H Q->
  wpAny (model X.prog X.w) X.A (inplaceOp op v u) (EP X pins σ Q) X.xe s
section
variable {X:Cx}{pos:Pos}
def cM (i:Nat):TG:=fun v σ H Q=>Q (σ.set i (some v)) H
def OE {i:Nat}{x:Str} (hN:X.N.Nodup) (hi:X.N[i]?=some x) (hx:Loc X.env.scope x) (hf:X.fn x=true\/X.env.scope.names.lookup x=some .local:=by first | exact .inl rfl | exact .inr rfl | assumption):PG X (.Name x pos) (cM i):=by
 intro pins s σ H v u Q I r h;exact wpAny_assign_Name (yL I hN hi hx r (fun s' I'=>⟨_,H,I',h⟩) hf)
def JP:UC:=fun vs σ H Q=>vs=[]/\Q σ H
def iu (t:TG) (u:UC):UC:=fun vs σ H Q=>∃v r,vs=v::r/\t v σ H fun σ' H'=>u r σ' H' Q
def dR:Zp X [] JP:=by
 intro pins s σ H vs us Q I r h;obtain⟨e,h⟩:=h;subst e;cases r;exact assignInOrder_nil ⟨σ,H,I,h⟩
def aM {e:Expr}{es:List Expr}{t:TG}{u:UC} (h1:PG X e t) (h2:Zp X es u)
  (hs:(assignEach (e::es) X.env).map (·.2)=assign e X.env::(assignEach es X.env).map (·.2):=by rfl):Zp X (e::es) (iu t u):=by
 intro pins s σ H vs us Q I r h;obtain⟨v,vr,e1,h⟩:=h;subst e1;cases r with
 | cons r rr=>
  rw [hs];refine assignInOrder_cons (cj (h1 pins s σ H _ _ _ I r h) fun _ s1 ⟨σ1,H1,I1,q1⟩=>?_);exact h2 pins s1 σ1 H1 _ _ Q I1 rr q1
def JO (K:Ab) (n:Nat) (t:UC):TG:=fun v σ H Q=>∃a xs,v=.ref a/\da K H a xs/\xs.length=n/\t xs σ H Q
def f7 {es:List Expr}{k:Nat}{t:UC}{n:Nat} (hc:X.calm=true) (h:Zp X es t)
  (hn:(assignEach es X.env).length=n:=by rfl) (zD:(assignEach es X.env).findIdx? (·.1)=none:=by rfl):PG X (.Tuple es k pos) (JO X.K n t):=by
 intro pins s σ H v u Q I r hw;obtain⟨a,xs,e1,hq,hl,hw⟩:=hw;subst e1;cases r;obtain⟨aq,rv,ht,hz⟩:=I.tuple hq;refine assign_Tuple_tuple (I.ok.hd hc) ht (by simp [hn,<- hl,rv.length]) zD fun h' hx=>?_;have I1:Inv X pins σ H {s with heap:=h'}:=I.kept (t':=s.toks) fun b o e=>hx b o (AJ (Ao e)) e;exact h pins _ σ H xs _ Q I1 (by simpa using rv) hw
def aaY (to ti:TE) (t:G9):TG:=fun v σ H Q=>to σ H fun o H1=>ti σ H1 fun i H2=>t o i v H2 fun H3=>Q σ H3
def Lk {o i:Expr}{to ti:TE}{t:G9} (ho:PE X o to) (hi:PE X i ti) (hs:Hc X t)
  (ha:∀v,assign (.Subscript o i pos) X.env v=(do
   let ov <- holding [v] (eval o X.env)
   let iv <- holding [v,ov] (eval i X.env)
   standAt pos
   holding [v,ov,iv] (setItem ov iv v)
   release [v,ov,iv] []):=by intro _;rfl):PG X (.Subscript o i pos) (aaY to ti t):=by
 intro pins s σ H v u Q I r h;rw [ha];refine Aa (Be (cj (ho pins s σ H _ I h) fun ov s1 ⟨x,H1,I1,r1,q1⟩=>?_));refine Aa (Be (cj (hi pins s1 σ H1 _ I1 q1) fun iv s2 ⟨y,H2,I2,r2,q2⟩=>?_));refine Aa (DV (Aa (Be (cj (hs pins s2 σ H2 x y v ov iv u _ I2 r1 r2 r q2) fun _ s3 ⟨H3,I3,q3⟩=>?_))));exact wpAny_release ⟨σ,H3,I3,q3⟩
def RY (te:TE) (g:TG):TS:=fun D σ H=>te σ H fun x H1=>g x σ H1 D.nx
def wG {tg e:Expr}{te:TE}{g:TG} (he:PE X e te) (hg:PG X tg g) (hs:swapsWithSole [tg] e pos.line X.env=pure false:=by rfl) (hw:swappedStores [tg] e X.env=pure none:=by rfl)
  (h1:(assignEach [tg] X.env).map (·.2)=[assign tg X.env]:=by rfl):PS X (.Assign [tg] e pos) (RY te g):=by
 intro pins s σ H D I h;refine wpAny_Assign_stores (cj (he pins s σ H _ I h) fun v s1 ⟨x,H1,I1,r1,q1⟩=>?_) hs hw;rw [h1];exact cj (hg pins s1 σ H1 x v _ I1 r1 q1) fun _ s2 q=>q
def wD {i:Nat}{x:Str}{e:Expr}{te:TE}{pos':Pos} (hN:X.N.Nodup) (hi:X.N[i]?=some x) (hx:Loc X.env.scope x) (he:PE X e te) (hs:swapsWith e (some (.Name x pos')) pos.line X.env=pure false:=by rfl) (hf:X.fn x=true\/X.env.scope.names.lookup x=some .local:=by first | exact .inl rfl | exact .inr rfl | assumption) :
  PS X (.Assign [.Name x pos'] e pos) (RY te (cM i)):=by
 intro pins s σ H D I h;refine wpAny_Assign_Name (cj (he pins s σ H _ I h) fun v s1 ⟨y,H1,I1,r1,q1⟩=>?_) hs;exact yL I1 hN hi hx r1 (fun s2 I2=>⟨_,H1,I2,q1⟩) hf
def VJ (to ti te:TE) (N4:V->V->Hp->VK->Prop) (Yr:Yg) (N3:G9):TS:=fun D σ H=>to σ H fun o H1=>ti σ H1 fun i H2=>N4 o i H2 fun x H3=>te σ H3 fun y H4=>Yr x y H4 fun z H5=>N3 o i z H5 fun H6=>D.nx σ H6
def Yh (X:Cx) (t:V->V->Hp->VK->Prop):Prop:=
 ∀(pins:List (Addr×Obj)) (s:Shared) (σ:St) (H:Hp) (o i:V) (ov iv:Value) (Q:VK),Inv X pins σ H s->RelV o ov->RelV i iv->t o i H Q->
  wpAny (model X.prog X.w) X.A (getItem ov iv) (EP X pins σ Q) X.xe s
def Oy {o i e:Expr}{to ti te:TE}{N4:V->V->Hp->VK->Prop}{Yr:Yg}{N3:G9}{op:Operator}{fM:Pos} (ho:PE X o to) (hi:PE X i ti) (hg:Yh X N4) (he:PE X e te) (hp:PIp X op Yr) (hs:Hc X N3)
  (ha:∀ov iv new,augStore i ov iv new=(do holding [new,ov,iv] (setItem ov iv new);release [new,ov,iv] [];pure .next):=by intros;rfl):PS X (.AugAssign (.Subscript o i fM) op e pos) (VJ to ti te N4 Yr N3):=by
 intro pins s σ H D I h;refine wpAny_AugAssign_SubscriptAny (cj (ho pins s σ H _ I h) fun ov s1 ⟨x1,H1,I1,r1,q1⟩=>?_) ha;refine cj (hi pins s1 σ H1 _ I1 q1) fun iv s2 ⟨x2,H2,I2,r2,q2⟩=>?_;refine cj (hg pins s2 σ H2 x1 x2 ov iv _ I2 r1 r2 q2) fun old s3 ⟨x3,H3,I3,r3,q3⟩=>?_;refine cj (he pins s3 σ H3 _ I3 q3) fun v s4 ⟨x4,H4,I4,r4,q4⟩=>?_;refine cj (hp pins s4 σ H4 x3 x4 old v _ I4 r3 r4 q4) fun new s5 ⟨x5,H5,I5,r5,q5⟩=>?_;exact cj (hs pins s5 σ H5 x1 x2 x5 ov iv new _ I5 r1 r2 r5 q5) fun _ s6 ⟨H6,I6,q6⟩=>⟨σ,H6,I6,q6⟩
def ipI (f:Int->Int->Int):Yg:=fun x y H Q=>∃i j,x=.int i/\y=.int j/\Q (.int (f i j)) H
def Ts:PIp X .Add (ipI fun i j=>i+j):=by
 intro pins s σ H x y v u Q I r1 r2 h;obtain⟨i,j,e1,e2,q⟩:=h;subst e1;subst e2;obtain⟨t,rfl⟩:=r1;obtain⟨t',rfl⟩:=r2;exact iadd_int ⟨.int _,H,I.tok _,⟨_,rfl⟩,q⟩
end
section
variable {X:Cx}{pos:Pos}
def RU (c:TT) (tb:TS):TS:=fun D σ H=>∃W:Nat->St->Hp->Prop,(∃m,W m σ H)/\∀m σ H,W m σ H->
 c σ H fun b H1=>if b=true then ∃N:St->Hp->Prop,(∀σ' H',N σ' H'->∃m',m' < m/\W m' σ' H')/\tb {D with nx:=N,ct:=N,bk:=D.nx} σ H1 else D.nx σ H1
def Lb {c:Expr}{body:List Stmt}{tc:TT}{tb:TS} (hp:PassesOwn (model X.prog X.w) X.A X.env X.xe) (hc:PT X c tc) (hb:rD X body tb):PS X (.While c body [] pos) (RU tc tb):=by
 intro pins s σ H D I h;obtain⟨W,⟨m0,w0⟩,turn⟩:=h;refine wpAny_While (codeAny_whileLoop (fun n s'=>∃σ' H',Inv X pins σ' H' s'/\W n σ' H') ?_ m0 ⟨σ,H,I,w0⟩);rintro n s1 ⟨σ1,H1,I1,w1⟩;refine B2 hp (cj (hc pins s1 σ1 H1 _ I1 (turn n σ1 H1 w1)) fun b s2 ⟨H2,I2,q2⟩=>?_);cases b with
 | true=>
  obtain⟨N,hN,q2⟩:=q2;rw [if_pos rfl];refine B2 hp (cj (hb pins s2 σ1 H2 _ I2 q2) fun f s3 q3=>?_);cases f with
  | next=>
   obtain⟨σ3,H3,I3,n3⟩:=q3;obtain⟨m',hm,w3⟩:=hN σ3 H3 n3;exact⟨m',hm,σ3,H3,I3,w3⟩
  | cont=>
   obtain⟨σ3,H3,I3,n3⟩:=q3;obtain⟨m',hm,w3⟩:=hN σ3 H3 n3;exact⟨m',hm,σ3,H3,I3,w3⟩
  | brk=>exact q3
  | ret v=>exact q3
 | false=>
  rw [if_neg AH];exact Dg ⟨σ1,H2,I2,q2⟩
end
structure It where
 go:Nat->Hp->Prop
 QN:Nat->Hp->V->Hp->Prop
 stop:Nat->Hp->Prop
def uW (X:Cx) (pins:List (Addr×Obj)) (H:Hp) (b:Addr):Prop:=
 H b=none/\b≠X.env.locals/\b∉X.fs/\(b∈X.ex\/X.s₀.heap.objs.size<=b)/\(∀x c,X.env.cells.lookup x=some c->c≠b)/\∀p∈X.pn++pins,p.1≠b
def Inv.zH {X:Cx}{pins:List (Addr×Obj)}{σ:St}{H H':Hp}{s:Shared}{b:Addr} (I:Inv X pins σ H s) (hb:s.heap.objs.size<=b) (hn:H' b=none):uW X pins H' b:=by
 refine⟨hn,Nat.ne_of_gt (Aw I.lt hb),I.Z9 hb,.inr (Bj I.sz hb),fun x c e z=>?_,fun p hp z=>?_⟩
 ·obtain⟨v,q⟩:=I.cell x c e;exact absurd (Aw q.lt (by rw [z];exact hb)) (AZ _)
 ·exact absurd (Aw (Ao (I.pin p hp).1) (by rw [z];exact hb)) (AZ _)
structure Turn (P:Program) (w:World) (K:Ab) (tg:Expr) (J:It) (fp:List Addr) (it:Addr) (tn:Nat->Heap->Prop):Prop where
 mem:it∈fp
 obj:∀i h,tn i h->∀b∈fp,∃o,h.get? b=some o/\∀v,o.data≠.cell v
 keep:∀i h h',tn i h->(∀b∈fp,∀o,h.get? b=some o->h'.get? b=some o)->tn i h'
 item:∀(X:Cx),X.prog=P->X.w=w->X.K=K->X.calm=true->∀(i:Nat) (pins:List (Addr×Obj)) (s:Shared) (σ:St) (H:Hp) (E:Value->Shared->Prop),Inv X pins σ H s->(∀b∈fp,uW X pins H b)->tn i s.heap->J.go i H->
  wpAny (model P w) X.A (pyNext (.ref it)) (fun r s1=>∃u,r=some u/\
   wpAny (model P w) X.A (letOwnedTupleGo tg (.ref it) u) (fun _ s2=>∃x H',Inv X pins σ H' s2/\RelV x u/\J.QN i H x H'/\tn (i+1) s2.heap/\∀b∈fp,H' b=none) E s1) E s
 done:∀(X:Cx),X.prog=P->X.w=w->X.K=K->X.calm=true->∀(i:Nat) (pins:List (Addr×Obj)) (s:Shared) (σ:St) (H:Hp) (E:Value->Shared->Prop),Inv X pins σ H s->(∀b∈fp,uW X pins H b)->tn i s.heap->J.stop i H->
  wpAny (model P w) X.A (pyNext (.ref it)) (fun r s1=>r=none/\Inv X pins σ H s1) E s
 self:∀(A:Around) (i:Nat) (s:Shared) (Q:Value->Shared->Prop) (E:Value->Shared->Prop),tn i s.heap->Q (.ref it) s->wpAny (model P w) A (pyIter (.ref it)) Q E s
abbrev TI:=St->Hp->(It->Hp->Prop)->Prop
def PIE (X:Cx) (pins:List (Addr×Obj)) (σ:St) (tg:Expr) (R:It->Hp->Prop) (YL:Value) (s2:Shared):Prop:=
 ∃(it:Addr) (fp:List Addr) (tn:Nat->Heap->Prop) (J:It) (H':Hp),YL=.ref it/\Inv X pins σ H' s2/\Turn X.prog X.w X.K tg J fp it tn/\tn 0 s2.heap/\(∀b∈fp,uW X pins H' b)/\R J H'
def PI (X:Cx) (tg iter:Expr) (wi:TI):Prop:=
 ∀(pins:List (Addr×Obj)) (s:Shared) (σ:St) (H:Hp) (R:It->Hp->Prop),Inv X pins σ H s->wi σ H R->
  wpAny (model X.prog X.w) X.A (eval iter X.env) (fun v s1=>wpAny (model X.prog X.w) X.A (pyIter v) (PIE X pins σ tg R) X.xe s1) X.xe s
def zF {M:Model}{A:Around}{E:Value->Shared->Prop}{s:Shared}{tg:Expr}{it:Addr}{u:Value}{o:Obj}{n:String}{vs:Array Value}{Q:Unit->Shared->Prop} (ho:s.heap.get? it=some o) (hc:o.cls=.type n) (hd:o.data=.fields vs)
  (hn:["enumerate","zip","dict_itemiterator","dict_reverseitemiterator","odict_iterator","itertools.zip_longest","itertools.pairwise"].contains n=false) (hQ:Q () s):wpAny M A (letOwnedTupleGo tg (.ref it) u) Q E s:=by
 unfold letOwnedTupleGo;cases tg <;> first
  | exact Ah hQ
  | (cases u <;> first
    | exact Ah hQ
    | (
      refine Aa (wpAny_load ho ?_);rw [hc,hd];show wpAny M A (if (["enumerate","zip","dict_itemiterator","dict_reverseitemiterator","odict_iterator","itertools.zip_longest","itertools.pairwise"].contains n&&vs[0]?==some (rawInt _))=true then _ else _) Q E s;rw [if_neg (by intro h;rw [hn,EO] at h;cases h)];exact Ah hQ))
def Itl (K:Ab) (a:Addr):It:=
 ⟨fun i H=>∃xs x,cT K H a xs/\xs[i]?=some x,fun i H x H'=>H'=H/\∀xs,cT K H a xs->xs[i]?=some x,fun i H=>∃xs,cT K H a xs/\xs.length<=i⟩
def Itt (K:Ab) (a:Addr):It:=
 ⟨fun i H=>∃xs x,da K H a xs/\xs[i]?=some x,fun i H x H'=>H'=H/\∀xs,da K H a xs->xs[i]?=some x,fun i H=>∃xs,da K H a xs/\xs.length<=i⟩
def Zs (lo:Int) (n:Nat):It:=⟨fun i _=>i < n,fun i H x H'=>H'=H/\x=.int (lo+i),fun i _=>n<=i⟩
def IG {P:Program}{w:World}{K:Ab}{tg:Expr} (a it:Addr):Turn P w K tg (Itl K a) [it] it (fun i h=>h.IsListIter it a i) where
 mem:=by simp
 obj:=fun i h st b hb=>by
  have e:b=it:=by simpa using hb
  subst e;obtain⟨o,e,c,d⟩:=st;exact⟨o,e,fun v z=>by rw [d] at z;cases z⟩
 keep:=fun i h h' st k=>st.at fun o e=>k it (by simp) o e
 item:=by
  intro X hP hw hK hc i pins s σ H E I hf st hg;subst hP hw hK;obtain⟨xs,x,hq,hx⟩:=hg;obtain⟨aq,rv,p,hz⟩:=I.list hq;obtain⟨u,hu,ru⟩:=rv.get hx;obtain⟨f0,f1,f2,f3,f4,f5⟩:=hf it (by simp);refine wpAny_pyNext_list_item st p.isList (x:=u) (by simpa using hu) fun h' Hl sb=>?_;have I1:Inv X pins σ H {s with heap:=h'}:=I.turned (t':=s.toks) (fun b o hb e=>(sb.2 b hb).trans e) f0 f1 f3 f4 f5;obtain⟨o,e,c,d⟩:=id Hl;exact⟨u,rfl,zF (s:={s with heap:=h'}) e c d (by decide) ⟨x,H,I1,ru,⟨rfl,fun ys hy=>by rw [I.zl hy hq];exact hx⟩,Hl,fun b hb=>(hf b hb).1⟩⟩
 done:=by
  intro X hP hw hK hc i pins s σ H E I hf st hg;subst hP hw hK;obtain⟨xs,hq,hx⟩:=hg;obtain⟨aq,rv,p,hz⟩:=I.list hq;obtain⟨f0,f1,f2,f3,f4,f5⟩:=hf it (by simp);have hl:=rv.length;exact wpAny_pyNext_list_end (I.ok.hd hc) st p.isList (by simp;omega) fun h' eb=>⟨rfl,I.turned (t':=s.toks) (fun b o hb e=>eb b o hb e) f0 f1 f3 f4 f5⟩
 self:=fun _ _ _ _ _ st h=>wpAny_pyIter_listiter st h
def FJ {P:Program}{w:World}{K:Ab}{tg:Expr} (a it:Addr):Turn P w K tg (Itt K a) [it] it (fun i h=>h.IsTupleIter it a i) where
 mem:=by simp
 obj:=fun i h st b hb=>by
  have e:b=it:=by simpa using hb
  subst e;obtain⟨o,e,c,d⟩:=st;exact⟨o,e,fun v z=>by rw [d] at z;cases z⟩
 keep:=fun i h h' st k=>st.at fun o e=>k it (by simp) o e
 item:=by
  intro X hP hw hK hc i pins s σ H E I hf st hg;subst hP hw hK;obtain⟨xs,x,hq,hx⟩:=hg;obtain⟨aq,rv,p,hz⟩:=I.tuple hq;obtain⟨u,hu,ru⟩:=rv.get hx;obtain⟨f0,f1,f2,f3,f4,f5⟩:=hf it (by simp);refine wpAny_pyNext_tuple_item st (show s.heap.IsTuple a aq.toArray from p) (x:=u) (by simpa using hu) fun h' Hl sb=>?_;have I1:Inv X pins σ H {s with heap:=h'}:=I.turned (t':=s.toks) (fun b o hb e=>(sb.2 b hb).trans e) f0 f1 f3 f4 f5;obtain⟨o,e,c,d⟩:=id Hl;exact⟨u,rfl,zF (s:={s with heap:=h'}) e c d (by decide) ⟨x,H,I1,ru,⟨rfl,fun ys hy=>by rw [I.lI hy hq];exact hx⟩,Hl,fun b hb=>(hf b hb).1⟩⟩
 done:=by
  intro X hP hw hK hc i pins s σ H E I hf st hg;subst hP hw hK;obtain⟨xs,hq,hx⟩:=hg;obtain⟨aq,rv,p,hz⟩:=I.tuple hq;obtain⟨f0,f1,f2,f3,f4,f5⟩:=hf it (by simp);have hl:=rv.length;exact wpAny_pyNext_tuple_end (I.ok.hd hc) st (show s.heap.IsTuple a aq.toArray from p) (by simp;omega) fun h' eb=>⟨rfl,I.turned (t':=s.toks) (fun b o hb e=>eb b o hb e) f0 f1 f3 f4 f5⟩
 self:=fun _ _ _ _ _ st h=>wpAny_pyIter_tupleiter st h
def FK {P:Program}{w:World}{K:Ab}{tg:Expr} (it:Addr) (lo:Int) (n:Nat):Turn P w K tg (Zs lo n) [it] it (fun i h=>IsRangeIter h it (lo+(i:Nat)*1) ((n:Int)-(i:Nat)) 1) where
 mem:=by simp
 obj:=fun i h st b hb=>by
  have e:b=it:=by simpa using hb
  subst e;exact⟨_,st,fun v z=>by
   have z':Data.fields _=Data.cell v:=z;cases z'⟩
 keep:=fun i h h' st k=>k it (by simp) _ st
 item:=by
  intro X hP hw hK hc i pins s σ H E I hf st hg;subst hP hw hK;obtain⟨f0,f1,f2,f3,f4,f5⟩:=hf it (by simp);have W:=Walks.range (prog:=X.prog) (w:=X.w) (I.ok.hd hc) it lo 1 n;refine W.item i s _ _ hg st fun v h' tk hv Hl kk=>?_;obtain⟨t,rfl⟩:=hv;have I1:Inv X pins σ H {s with heap:=h',toks:=tk}:=I.turned (fun b o hb e=>kk b o (by simpa using hb) e) f0 f1 f3 f4 f5;refine⟨_,rfl,zF (s:={s with heap:=h',toks:=tk}) (n:="range_iterator") Hl rfl rfl (by decide) ⟨.int (lo+i),H,I1,⟨t,?_⟩,⟨rfl,rfl⟩,Hl,fun b hb=>(hf b hb).1⟩⟩;rw [Int.mul_one]
 done:=by
  intro X hP hw hK hc i pins s σ H E I hf st hg;subst hP hw hK;obtain⟨f0,f1,f2,f3,f4,f5⟩:=hf it (by simp);exact wpAny_pyNext_range_end (I.ok.hd hc) st (by have:n<=i:=hg;omega) fun h' eb=>⟨rfl,I.turned (t':=s.toks) (fun b o hb e=>eb b o hb e) f0 f1 f3 f4 f5⟩
 self:=fun _ _ _ _ _ st h=>wpAny_pyIter_rangeiter st h
section
variable {X:Cx}{tg:Expr}
def K1 {pins:List (Addr×Obj)}{σ:St}{H:Hp}{s:Shared}{R:It->Hp->Prop}{E:Value->Shared->Prop}{lo hi:Int}{t u v:Tok}{tk:Nat} (I:Inv X pins σ H s) (h1:-(2 ^ 62)<=lo) (h2:lo < 2 ^ 62) (h3:-(2 ^ 62)<=hi) (h4:hi < 2 ^ 62)
  (q:R (Zs lo (hi-lo).toNat) H):wpAny (model X.prog X.w) X.A (pyIter (.ref s.heap.objs.size)) (PIE X pins σ tg R) E {s with heap:=s.heap.push {cls:=.type "range",data:=.fields #[.int lo t,.int hi u,.int 1 v]},toks:=tk}:=by
 refine wpAny_pyIter_range (IsRange.new ..) (small_one h1 h2 h3 h4) ?_;have I1:Inv X pins σ H {s with heap:=s.heap.push {cls:=.type "range",data:=.fields #[.int lo t,.int hi u,.int 1 v]},toks:=tk}:=I.kept fun b o e=>Al _ e;refine⟨(s.heap.push {cls:=.type "range",data:=.fields #[.int lo t,.int hi u,.int 1 v]}).objs.size,[(s.heap.push {cls:=.type "range",data:=.fields #[.int lo t,.int hi u,.int 1 v]}).objs.size],_,_,H,rfl,
  I1.kept (t':=tk) fun b o e=>Al _ e,FK _ lo (hi-lo).toNat,?_,fun b hb=>?_,q⟩
 ·have e1:lo+((0:Nat):Int)*1=lo:=by simp
  have e2:(((hi-lo).toNat:Nat):Int)-((0:Nat):Int)=Builtin.Range.rangeSize lo hi 1:=by rw [rangeSize_one];split <;> omega
  show IsRangeIter _ _ (lo+((0:Nat):Int)*1) ((((hi-lo).toNat:Nat):Int)-((0:Nat):Int)) 1;rw [e1,e2];exact Ap _ rfl
 ·have e:b=(s.heap.push {cls:=.type "range",data:=.fields #[.int lo t,.int hi u,.int 1 v]}).objs.size:=by simpa using hb
  subst e;exact I1.zH (Am _) (I1.bP.fresh (Am _))
def W2 (ta:TA):TI:=fun σ H R=>ta σ H fun vs H1=>∃j:Int,vs=[.int j]/\-(2 ^ 62)<=j/\j < 2 ^ 62/\R (Zs 0 j.toNat) H1
def Jh {a:Expr}{ta:TA}{p pos:Pos} (hg:Gl X "range") (hm:X.mg "range"=none) (ha:PA X [a] ta) (hs:starEach [a] X.env=[(false,eval a X.env)]:=by rfl):PI X tg (.Call (.Name "range" p) [a] [] pos) (W2 ta):=by
 intro pins s σ H R I h;refine Call_ (jE I hg hm boot_range (A8 (cj (ha pos pins s σ H _ I h) fun us s1 ⟨vs,H1,I1,r1,q1⟩=>?_) hs rfl));obtain⟨j,e,q1,q2,q⟩:=q1;subst e;cases r1 with
 | cons r rr=>
  cases rr;obtain⟨t,rfl⟩:=r;exact call_range_1 (K1 I1 (by omega) (by omega) q1 q2 (by simpa using q))
def ZP (wi:TI) (g:TG) (tb:TS):TS:=fun D σ H=>wi σ H fun J H1=>∃W:Nat->Nat->St->Hp->Prop,(∃m,W 0 m σ H1)/\∀i m σ H,W i m σ H->
 (J.stop i H/\D.nx σ H)\/(J.go i H/\∃N:St->Hp->Prop,(∀σ' H',N σ' H'->∃m',m' < m/\W (i+1) m' σ' H')/\∀x H',J.QN i H x H'->g x σ H' fun σ2 H2=>tb {D with nx:=N,ct:=N,bk:=D.nx} σ2 H2)
def oW (fp:List Addr) (h:Heap):List (Addr×Obj):=fp.filterMap fun b=>(h.get? b).map fun o=>(b,o)
def jB {fp:List Addr}{h:Heap}{b:Addr}{o:Obj} (hb:b∈fp) (e:h.get? b=some o):(b,o)∈oW fp h:=CA.mpr ⟨b,hb,by rw [e];rfl⟩
def Jj {fp:List Addr}{h:Heap}{p:Addr×Obj} (hp:p∈oW fp h):p.1∈fp/\h.get? p.1=some p.2:=by
 obtain⟨b,hb,e⟩:=CA.mp hp;cases q:h.get? b with
 | none=>rw [q] at e;cases e
 | some o=>
  rw [q] at e;have e':(b,o)=p:=Option.some.inj e;subst e';exact⟨hb,q⟩
def Inv.pinned {pins:List (Addr×Obj)}{σ:St}{H:Hp}{s:Shared}{fp:List Addr} (I:Inv X pins σ H s) (hf:∀b∈fp,uW X pins H b) (ho:∀b∈fp,∃o,s.heap.get? b=some o/\∀v,o.data≠.cell v):Inv X (pins++oW fp s.heap) σ H s:=
 I.Hz fun p hp=>(Bh.mp hp).elim (fun z=>I.pin p (AV _ z)) fun z=>by
  obtain⟨hb,e⟩:=Jj z;obtain⟨f0,f1,f2,_⟩:=hf p.1 hb;obtain⟨o,e',d⟩:=ho p.1 hb;rw [e] at e';cases e';exact⟨e,f0,f1,f2,d⟩
def Inv.kE {pins pl:List (Addr×Obj)}{σ:St}{H:Hp}{s:Shared} (I:Inv X (pins++pl) σ H s):Inv X pins σ H s:=I.Hz fun p hp=>I.pin p (AV _ (C4 _ hp))
def Ld {iter:Expr}{body:List Stmt}{wi:TI}{g:TG}{tb:TS}{pos:Pos} (hp:PassesOwn (model X.prog X.w) X.A X.env X.xe) (hc:X.calm=true) (hi:PI X tg iter wi) (hg:PG X tg g) (hb:rD X body tb)
  (hs:∀x,foldedSetIterable iter X.env x=pure x:=by intro _;rfl):PS X (.For tg iter body [] pos) (ZP wi g tb):=by
 intro pins s σ H D I h;refine wpAny_For (cj (hi pins s σ H _ I h) fun v s1 h1=>cj h1 fun YL s2 h2=>?_) hs;obtain⟨it,fp,tn,J,H2,e,I2,T,IM,f2,W,⟨m0,w0⟩,turn⟩:=h2;subst e;have RZ:∀{H':Hp},(∀b∈fp,H' b=none)->∀b∈fp,uW X pins H' b:=fun hn b hb=>⟨hn b hb,(f2 b hb).2⟩;refine codeAny_forLoop_any (fun n s'=>∃i σ' H',Inv X pins σ' H' s'/\tn i s'.heap/\(∀b∈fp,H' b=none)/\W i n σ' H') ?_ m0 ⟨0,σ,H2,I2,IM,fun b hb=>(f2 b hb).1,w0⟩;rintro n s3 ⟨i,σ3,H3,I3,VO,XA,w3⟩;rcases turn i n σ3 H3 w3 with⟨stop,qn⟩ | ⟨go,N,hN,step⟩
 ·refine B2 hp (cj (T.done X rfl rfl rfl hc i pins s3 σ3 H3 X.xe I3 (RZ XA) VO stop) fun r s4 ⟨hr,I4⟩=>?_);subst hr;exact Dg ⟨σ3,H3,I4,qn⟩
 ·refine B2 hp (cj (T.item X rfl rfl rfl hc i pins s3 σ3 H3 X.xe I3 (RZ XA) VO go) fun r s4 ⟨u,hr,h4⟩=>?_);subst hr;refine B2 hp (cj h4 fun _ s5 ⟨x,H5,I5,r5,y5,R0,fr5⟩=>?_);have I5':=I5.pinned (RZ fr5) (T.obj _ _ R0);refine B2 hp (cj (hg _ s5 σ3 H5 x u _ I5' r5 (step x H5 y5)) fun _ s6 ⟨σ6,H6,I6,q6⟩=>?_);refine B2 hp (cj (hb _ s6 σ6 H6 _ I6 q6) fun f s7 q7=>?_);have again:∀{σ7:St}{H7:Hp},Inv X (pins++oW fp s5.heap) σ7 H7 s7->N σ7 H7->∃m,m < n/\∃i σ' H',Inv X pins σ' H' s7/\tn i s7.heap/\(∀b∈fp,H' b=none)/\W i m σ' H':=fun {σ7 H7} I7 n7=>by
   obtain⟨m',hm,w7⟩:=hN σ7 H7 n7;refine⟨m',hm,i+1,σ7,H7,I7.kE,T.keep _ _ _ R0 fun b hb o e=>(I7.pin (b,o) (AV _ (AV _ (jB hb e)))).1,fun b hb=>?_,w7⟩;obtain⟨o,e,d⟩:=T.obj _ _ R0 b hb;exact (I7.pin (b,o) (AV _ (AV _ (jB hb e)))).2.1
  cases f with
  | next=>obtain⟨σ7,H7,I7,n7⟩:=q7;exact again I7 n7
  | cont=>obtain⟨σ7,H7,I7,n7⟩:=q7;exact again I7 n7
  | brk=>obtain⟨σ7,H7,I7,q7⟩:=q7;exact⟨σ7,H7,I7.kE,q7⟩
  | ret v=>obtain⟨x7,σ7,H7,I7,r7,q7⟩:=q7;exact⟨x7,σ7,H7,I7.kE,r7,q7⟩
end
abbrev R2:=V->V->Hp->VK->Prop
def jm (X:Cx) (f:Value->Value->Sem Value) (r:R2):Prop:=
 ∀(pins:List (Addr×Obj)) (s:Shared) (σ:St) (H:Hp) (x y:V) (v u:Value) (Q:VK),Inv X pins σ H s->RelV x v->RelV y u->r x y H Q->
  wpAny (model X.prog X.w) X.A (f v u) (EP X pins σ Q) X.xe s
def UnR (X:Cx) (f:Value->Sem Value) (r:V->Hp->VK->Prop):Prop:=
 ∀(pins:List (Addr×Obj)) (s:Shared) (σ:St) (H:Hp) (x:V) (v:Value) (Q:VK),Inv X pins σ H s->RelV x v->r x H Q->
  wpAny (model X.prog X.w) X.A (f v) (EP X pins σ Q) X.xe s
def bS (X:Cx) (f:Value) (r:List V->Hp->VK->Prop):Prop:=
 ∀(pins:List (Addr×Obj)) (s:Shared) (σ:St) (H:Hp) (xs:List V) (us:List Value) (Q:VK),Inv X pins σ H s->Vals xs us->r xs H Q->
  wpAny (model X.prog X.w) X.A (call f us) (EP X pins σ Q) X.xe s
def abj (X:Cx) (r:V->Hp->(Bool->Hp->Prop)->Prop):Prop:=
 ∀(pins:List (Addr×Obj)) (s:Shared) (σ:St) (H:Hp) (x:V) (v:Value) (Q:Bool->Hp->Prop),Inv X pins σ H s->RelV x v->r x H Q->
  wpAny (model X.prog X.w) X.A (truthy v) (TP X pins σ Q) X.xe s
def RV (r:R2) (ta tb:TE):TE:=fun σ H Q=>ta σ H fun x H1=>tb σ H1 fun y H2=>r x y H2 Q
def tUn (r:V->Hp->VK->Prop) (ta:TE):TE:=fun σ H Q=>ta σ H fun x H1=>r x H1 Q
def rI (C:Int->Int->Prop) (g:Int->Int->V):R2:=fun x y H Q=>∃i j,x=.int i/\y=.int j/\C i j/\Q (g i j) H
def Oq (g:Int->Int->V):R2:=fun x y H Q=>∃i j,x=.int i/\y=.int j/\Q (g i j) H
def rU (g:Int->V):V->Hp->VK->Prop:=fun x H Q=>∃i,x=.int i/\Q (g i) H
section
variable {X:Cx}{a b:Expr}{ta tb:TE}{pos:Pos}
def Uu (ha:PE X a ta) (hb:PE X b tb) {pins:List (Addr×Obj)}{s:Shared}{σ:St}{H:Hp}{R:V->V->Hp->Prop} (I:Inv X pins σ H s)
  (h:ta σ H fun x H1=>tb σ H1 fun y H2=>R x y H2) {Q:Value->Shared->Prop}{f:Value->Value->Sem Value}
  (hf:∀v u s2 x y H2,Inv X pins σ H2 s2->RelV x v->RelV y u->R x y H2->wpAny (model X.prog X.w) X.A (f v u) Q X.xe s2) :
  wpAny (model X.prog X.w) X.A (eval a X.env) (fun v s₁=>wpAny (model X.prog X.w) X.A (eval b X.env) (fun u s₂=>wpAny (model X.prog X.w) X.A (f v u) Q X.xe s₂) X.xe s₁) X.xe s:=by
 refine cj (ha pins s σ H _ I h) fun v s1 ⟨x,H1,I1,r1,q1⟩=>?_;refine cj (hb pins s1 σ H1 _ I1 q1) fun u s2 ⟨y,H2,I2,r2,q2⟩=>?_;exact hf v u s2 x y H2 I2 r1 r2 q2
def HA {op:Operator}{r:R2} (ho:jm X (binaryOp op) r) (ha:PE X a ta) (hb:PE X b tb):PE X (.BinOp a op b pos) (RV r ta tb):=by
 intro pins s σ H Q I h;exact wpAny_BinOp (Uu ha hb I h fun v u s2 x y H2 I2 rx ry q=>ho pins s2 σ H2 x y v u Q I2 rx ry q)
def Wh {op:UnaryOp}{r:V->Hp->VK->Prop} (ho:UnR X (unaryOp op) r) (ha:PE X a ta):PE X (.UnaryOp op a pos) (tUn r ta):=by
 intro pins s σ H Q I h;exact UnaryOp_ (cj (ha pins s σ H _ I h) fun v s1 ⟨x,H1,I1,r1,q1⟩=>ho pins s1 σ H1 x v Q I1 r1 q1)
def YB {f:Value->Value->Sem Value}{C:Int->Int->Prop}{g:Int->Int->Int}
  (rule:∀(i j:Int) (t u:Tok) (s:Shared) (Q:Value->Shared->Prop) (E:Value->Shared->Prop),C i j->Q (.int (g i j) s.toks) {s with toks:=s.toks+1}->wpAny (model X.prog X.w) X.A (f (.int i t) (.int j u)) Q E s) :
  jm X f (rI C fun i j=>.int (g i j)):=by
 intro pins s σ H x y v u Q I rx ry h;obtain⟨i,j,rfl,rfl,hc,q⟩:=h;obtain⟨t,rfl⟩:=rx;obtain⟨t',rfl⟩:=ry;exact rule i j t t' s _ _ hc ⟨.int (g i j),H,I.tok _,⟨_,rfl⟩,q⟩
def Wx {f:Value->Value->Sem Value}{g:Int->Int->Int}
  (rule:∀(i j:Int) (t u:Tok) (s:Shared) (Q:Value->Shared->Prop) (E:Value->Shared->Prop),Q (.int (g i j) s.toks) {s with toks:=s.toks+1}->wpAny (model X.prog X.w) X.A (f (.int i t) (.int j u)) Q E s) :
  jm X f (Oq fun i j=>.int (g i j)):=by
 intro pins s σ H x y v u Q I rx ry h;obtain⟨i,j,rfl,rfl,q⟩:=h;obtain⟨t,rfl⟩:=rx;obtain⟨t',rfl⟩:=ry;exact rule i j t t' s _ _ ⟨.int (g i j),H,I.tok _,⟨_,rfl⟩,q⟩
def OW {f:Value->Value->Sem Value}{g:Int->Int->Bool}
  (rule:∀(i j:Int) (t u:Tok) (s:Shared) (Q:Value->Shared->Prop) (E:Value->Shared->Prop),Q (.bool (g i j)) s->wpAny (model X.prog X.w) X.A (f (.int i t) (.int j u)) Q E s) :
  jm X f (Oq fun i j=>.bl (g i j)):=by
 intro pins s σ H x y v u Q I rx ry h;obtain⟨i,j,rfl,rfl,q⟩:=h;obtain⟨t,rfl⟩:=rx;obtain⟨t',rfl⟩:=ry;exact rule i j t t' s _ _ ⟨.bl (g i j),H,I,rfl,q⟩
def QM (i j:Int):Prop:=0 < j/\j < 1073741824
def ND (i j:Int):Prop:=0<=j/\j<=1000000/\i.natAbs < 2 ^ 64
def QL (i j:Int):Prop:=(-(2 ^ 64) < i/\i < 2 ^ 64)\/(-(2 ^ 64) < j/\j < 2 ^ 64)
def QL.ok {i j:Int} (h:QL i j):IntMulOk i j:=by
 rcases h with⟨h1,h2⟩ | ⟨h1,h2⟩
 ·exact .of_left (intBits_le_64 h1 h2)
 ·exact .of_right (intBits_le_64 h1 h2)
def SN:jm X (binaryOp .Add) (Oq fun i j=>.int (i+j)):=Wx fun _ _ _ _ _ _ _ q=>add_int q
def SD:jm X (binaryOp .Sub) (Oq fun i j=>.int (i-j)):=Wx fun _ _ _ _ _ _ _ q=>sub_int q
def OQ:jm X (binaryOp .FloorDiv) (rI QM fun i j=>.int (i / j)):=YB fun i j _ _ _ _ _ hc q=>by
 have h1:(0:Int) < j:=hc.1;have h2:j < 1073741824:=hc.2;exact floordiv_int (by omega) (by rw [Int.fdiv_eq_ediv_of_nonneg i (by omega)];exact q) (.inl (PyProof.noPylong_small (by omega)))
def SI:jm X (binaryOp .Mod) (rI (fun _ j=>0 < j) fun i j=>.int (i % j)):=YB fun i j _ _ _ _ _ hc q=>by
 have h1:(0:Int) < j:=hc;exact mod_int' (by omega) (by rw [Int.fmod_eq_emod_of_nonneg i (by omega)];exact q)
def SG:jm X (binaryOp .Pow) (rI ND fun i j=>.int (i ^ j.toNat)):=YB fun _ _ _ _ _ _ _ hc q=>pow_int_small hc.1 hc.2.1 hc.2.2 q
def unI {f:Value->Sem Value}{g:Int->Int}
  (rule:∀(i:Int) (t:Tok) (s:Shared) (Q:Value->Shared->Prop) (E:Value->Shared->Prop),Q (.int (g i) s.toks) {s with toks:=s.toks+1}->wpAny (model X.prog X.w) X.A (f (.int i t)) Q E s) :
  UnR X f (rU fun i=>.int (g i)):=by
 intro pins s σ H x v Q I rx h;obtain⟨i,rfl,q⟩:=h;obtain⟨t,rfl⟩:=rx;exact rule i t s _ _ ⟨.int (g i),H,I.tok _,⟨_,rfl⟩,q⟩
def RO:UnR X (unaryOp .USub) (rU fun i=>.int (-i)):=unI fun _ _ _ _ _ q=>neg_int q
end
section
variable {X:Cx}{a b c:Expr}{ta tb:TE}{pos:Pos}
def T6 {pins:List (Addr×Obj)}{σ:St}{H:Hp}{s:Shared}{Q:VK}{k k':Bool} (I:Inv X pins σ H s) (q:Q (.bl k) H) (e:k=k'):EP X pins σ Q (.bool k') s:=by
 subst e;exact⟨.bl k,H,I,rfl,q⟩
def Wt:jm X (compareOp .Lt) (Oq fun i j=>.bl (decide (i < j))):=OW fun _ _ _ _ _ _ _ q=>lt_int q
def Wu:jm X (compareOp .LtE) (Oq fun i j=>.bl (decide (i<=j))):=OW fun _ _ _ _ _ _ _ q=>le_int q
def Wv:jm X (compareOp .Gt) (Oq fun i j=>.bl (decide (j < i))):=OW fun _ _ _ _ _ _ _ q=>gt_int q
def Ww:jm X (compareOp .GtE) (Oq fun i j=>.bl (decide (j<=i))):=OW fun _ _ _ _ _ _ _ q=>ge_int q
def SJ:jm X (compareOp .Is) (fun x y H Q=>y=.aU/\Q (.bl (decide (x=.aU))) H):=by
 intro pins s σ H x y v u Q I rx ry h;obtain⟨rfl,q⟩:=h;cases ry;refine is_none_gen (T6 I q ?_);cases x <;> first
  | (cases rx;rfl)
  | (obtain⟨t,rfl⟩:=rx;rfl)
def jm.or {f:Value->Value->Sem Value}{r r':R2} (h:jm X f r) (h':jm X f r'):jm X f (fun x y H Q=>r x y H Q\/r' x y H Q):=by
 intro pins s σ H x y v u Q I rx ry q;rcases q with q | q
 ·exact h pins s σ H x y v u Q I rx ry q
 ·exact h' pins s σ H x y v u Q I rx ry q
def mD (b:Expr) {op:CmpOp} (h:op≠.In:=by decide) (h2:op≠.NotIn:=by decide):behindInMarks op b=false:=by
 have e1:(op==CmpOp.In)=false:=by cases op <;> first | rfl | exact absurd rfl h
 have e2:(op==CmpOp.NotIn)=false:=by cases op <;> first | rfl | exact absurd rfl h2
 cases b <;> simp [behindInMarks,e1,e2]
def wK {op:CmpOp}{r:R2} (ho:jm X (compareOp op) r) (ha:PE X a ta) (hb:PE X b tb) (hm:behindInMarks op b=false):PE X (.Compare a [op] [b] pos) (RV r ta tb):=by
 intro pins s σ H Q I h;exact wpAny_Compare1 (Uu ha hb I h fun v u s2 x y H2 I2 rx ry q=>ho pins s2 σ H2 x y v u Q I2 rx ry q) hm
def Vy (t:TE):TT:=fun σ H Q=>t σ H fun x H'=>∃k,x=.bl k/\Q k H'
def qV {op:CmpOp}{r:R2} (ho:jm X (compareOp op) r) (ha:PE X a ta) (hb:PE X b tb) (hm:behindInMarks op b=false):PT X (.Compare a [op] [b] pos) (Vy (RV r ta tb)):=by
 intro pins s σ H Q I h;refine wpAny_isTrue_Compare1 (cj (ha pins s σ H _ I h) fun v s1 ⟨x,H1,I1,r1,q1⟩=>cj (hb pins s1 σ H1 _ I1 q1) fun u s2 ⟨y,H2,I2,r2,q2⟩=>
  cj (ho pins s2 σ H2 x y v u _ I2 r1 r2 q2) fun c s3 ⟨z,H3,I3,r3,k,e,q3⟩=>?_) hm
 subst e;cases r3;exact BN ⟨H3,I3,q3⟩
def UB (K:Ab) (x:V) (H:Hp) (k:Bool):Prop:=
 match x with
 | .aU=>k=false
 | .bl b=>k=b
 | .int i=>k=(i != 0)
 | .str y=>y.length<=sizeLine/\k=((y.length:Int) != 0)
 | .Ut y=>y.size<=sizeLine/\k=((y.size:Int) != 0)
 | .ref p=>(∃xs,cT K H p xs/\k=!xs.isEmpty)\/(∃xs,da K H p xs/\k=!xs.isEmpty)\/∃kvs,H p=some (.dK kvs)/\k=!kvs.isEmpty
 | _=>False
def Gw {κ:Type}{kvs:List (κ×V)}{vs:List (κ×Value)} (r:KV kvs vs):(!vs.isEmpty)=!kvs.isEmpty:=by
 cases r <;> rfl
def sQ {xs:List V}{aq:List Value} (r:Vals xs aq):(!aq.toArray.isEmpty)=!xs.isEmpty:=by
 cases r <;> simp
def ph:(sizeLine:Nat) < 2 ^ 63:=by rw [sizeLine_eq];decide
def RQ:abj X (fun x H Q=>∃k,UB X.K x H k/\Q k H):=by
 intro pins s σ H x v Q I rx h;obtain⟨k,e,q⟩:=h;have hl:=ph;have hs:sizeLine=16777216:=sizeLine_eq;cases x with
 | aU=>
  cases rx;have e':k=false:=e;subst e';exact truthy_none ⟨H,I,q⟩
 | bl b=>
  cases rx;have e':k=b:=e;subst e';exact BN ⟨H,I,q⟩
 | int i=>
  obtain⟨t,rfl⟩:=rx;have e':k=(i != 0):=e;subst e';exact PySem.P.truthy_int ⟨H,I,q⟩
 | str y=>
  obtain⟨t,rfl⟩:=rx;obtain⟨hy,e'⟩:y.length<=sizeLine/\k=((y.length:Int) != 0):=e;subst e';exact PySem.P.truthy_str (by omega) ⟨H,I.tok _,q⟩
 | Ut y=>
  obtain⟨t,rfl⟩:=rx;obtain⟨hy,e'⟩:y.size<=sizeLine/\k=((y.size:Int) != 0):=e;subst e';exact PySem.W.truthy_bytes (by omega) ⟨H,I.tok _,q⟩
 | ref p=>
  cases rx;have e':(∃xs,cT X.K H p xs/\k=!xs.isEmpty)\/(∃xs,da X.K H p xs/\k=!xs.isEmpty)\/∃kvs,H p=some (.dK kvs)/\k=!kvs.isEmpty:=e;rcases e' with⟨xs,hx,e'⟩ | ⟨xs,hx,e'⟩ | ⟨kvs,hx,e'⟩
  ·subst e';obtain⟨aq,r,pl,hz⟩:=I.list hx;have hlen:=r.length;exact wpAny_truthy_list pl.isList (by simp only [Ag];omega) ⟨H,I.tok _,by rw [sQ r];exact q⟩
  ·subst e';obtain⟨aq,r,pl,hz⟩:=I.tuple hx;have hlen:=r.length;exact truthy_tuple pl (by simp only [Ag];omega) ⟨H,I.tok _,by rw [sQ r];exact q⟩
  ·subst e';obtain⟨hz,hS,vs,r,m⟩:kvs.length<=sizeLine/\(p==sysModules)=false/\∃vs,KV kvs vs/\s.heap.DictOf (cH X.prog X.w) p vs:=I.bP p _ hx;have hlen:kvs.length=vs.length:=Paired.length r;exact wpAny_truthy_dict hS m (by omega) ⟨H,I.tok _,by rw [Gw r];exact q⟩
 | _=>exact (show False from e).elim
def La (ha:PE X a ta) (he:∀whole,isTrue a X.env whole=(do let v <- whole;standAt a.pos;holding [v] (truthy v))) :
  PT X a (fun σ H Q=>ta σ H fun x H'=>∃k,UB X.K x H' k/\Q k H'):=by
 intro pins s σ H Q I h;exact isTrue_plain (cj (ha pins s σ H _ I h) fun v s1 ⟨x,H1,I1,r1,q1⟩=>RQ pins s1 σ H1 x v Q I1 r1 q1) (he _)
def F0:jm X (binaryOp .Add) (fun x y H Q=>∃i j,x=.str i/\y=.str j/\i.length+j.length<=sizeLine/\Q (.str (i++j)) H):=by
 intro pins s σ H x y v u Q I rx ry h;obtain⟨i,j,rfl,rfl,hz,q⟩:=h;obtain⟨t,rfl⟩:=rx;obtain⟨t',rfl⟩:=ry;exact add_str (fun t' tk=>⟨.str (i++j),H,I.tok _,⟨_,rfl⟩,q⟩) hz
def vals1 {x:V}{us:List Value} (r:Vals [x] us):∃u,us=[u]/\RelV x u:=by
 cases r with
 | cons r1 r2=>cases r2;exact⟨_,rfl,r1⟩
def vals2 {x y:V}{us:List Value} (r:Vals [x,y] us):∃u w',us=[u,w']/\RelV x u/\RelV y w':=by
 cases r with
 | cons r1 r2=>
  cases r2 with
  | cons r3 r4=>cases r4;exact⟨_,_,rfl,r1,r3⟩
def Nj:bS X (.builtin "abs") (fun xs H Q=>∃i,xs=[.int i]/\Q (.int (if i < 0 then -i else i)) H):=by
 intro pins s σ H xs us Q I r h;obtain⟨i,rfl,q⟩:=h;obtain⟨u,rfl,t,rfl⟩:=vals1 r;exact call_abs_int fun u tk=>⟨.int (if i < 0 then -i else i),H,I.tok _,⟨_,rfl⟩,q⟩
def J1 (hc:X.calm=true):bS X (.builtin "max") (fun xs H Q=>∃i j,xs=[.int i,.int j]/\Q (.int (if j > i then j else i)) H):=by
 intro pins s σ H xs us Q I r h;obtain⟨i,j,rfl,q⟩:=h;obtain⟨u,w',rfl,⟨t,rfl⟩,⟨t',rfl⟩⟩:=vals2 r;refine max_two_ints (I.ok.hd hc) fun h' tk k=>⟨_,H,I.kept k,?_,q⟩;by_cases hj:j > i
 ·rw [if_pos hj,if_pos hj];exact⟨_,rfl⟩
 ·rw [if_neg hj,if_neg hj];exact⟨_,rfl⟩
def J0 (hc:X.calm=true):bS X (.builtin "min") (fun xs H Q=>∃i j,xs=[.int i,.int j]/\Q (.int (if j < i then j else i)) H):=by
 intro pins s σ H xs us Q I r h;obtain⟨i,j,rfl,q⟩:=h;obtain⟨u,w',rfl,⟨t,rfl⟩,⟨t',rfl⟩⟩:=vals2 r;refine min_two_ints (I.ok.hd hc) fun h' tk k=>⟨_,H,I.kept k,?_,q⟩;by_cases hj:j < i
 ·rw [if_pos hj,if_pos hj];exact⟨_,rfl⟩
 ·rw [if_neg hj,if_neg hj];exact⟨_,rfl⟩
def J6:bS X (.type "int") (fun xs H Q=>(∃i,xs=[.int i]/\Q (.int i) H)\/∃k,xs=[.bl k]/\Q (.int (if k then 1 else 0)) H):=by
 intro pins s σ H xs us Q I r h;rcases h with⟨i,rfl,q⟩ | ⟨k,rfl,q⟩
 ·obtain⟨u,rfl,t,rfl⟩:=vals1 r;exact call_int_int ⟨.int i,H,I,⟨_,rfl⟩,q⟩
 ·obtain⟨u,rfl,r1⟩:=vals1 r;cases r1;exact call_int_bool ⟨.int (if k then 1 else 0),H,I.tok _,⟨_,rfl⟩,q⟩
def Yi (K:Ab) (x:V) (H:Hp) (n:Nat):Prop:=
 match x with
 | .str y=>y.length<=sizeLine/\n=y.length
 | .Ut y=>y.size<=sizeLine/\n=y.size
 | .ref p=>(∃xs,cT K H p xs/\n=xs.length)\/∃xs,da K H p xs/\n=xs.length
 | _=>False
def Ni:bS X (.builtin "len") (fun xs H Q=>∃x n,xs=[x]/\Yi X.K x H n/\Q (.int n) H):=by
 intro pins s σ H xs us Q I r h;obtain⟨x,n,rfl,e,q⟩:=h;obtain⟨u,rfl,rx⟩:=vals1 r;have hl:=ph;have hs:sizeLine=16777216:=sizeLine_eq;cases x with
 | str y=>
  obtain⟨t,rfl⟩:=rx;obtain⟨hy,e'⟩:y.length<=sizeLine/\n=y.length:=e;subst e';exact len_str (by omega) ⟨.int _,H,I.tok _,⟨_,rfl⟩,q⟩
 | Ut y=>
  obtain⟨t,rfl⟩:=rx;obtain⟨hy,e'⟩:y.size<=sizeLine/\n=y.size:=e;subst e';exact PySem.W.len_bytes (by omega) ⟨.int _,H,I.tok _,⟨_,rfl⟩,q⟩
 | ref p=>
  cases rx;have e':(∃xs,cT X.K H p xs/\n=xs.length)\/∃xs,da X.K H p xs/\n=xs.length:=e;rcases e' with⟨xs,hx,e'⟩ | ⟨xs,hx,e'⟩
  ·subst e';obtain⟨aq,r',pl,hz⟩:=I.list hx;have hlen:=r'.length;exact Calls.call_len_list pl.isList (by simp only [Ag];omega) ⟨.int xs.length,H,I.tok _,⟨_,by simp only [Ag];rw [hlen]⟩,q⟩
  ·subst e';obtain⟨aq,r',pl,hz⟩:=I.tuple hx;have hlen:=r'.length;exact len_tuple pl (by simp only [Ag];omega) ⟨.int xs.length,H,I.tok _,⟨_,by simp only [Ag];rw [hlen]⟩,q⟩
 | _=>exact (show False from e).elim
end
structure UE (h:Heap) (x dx C:Addr) (mA:Str->Option Value):Prop where
 obj:h.get? x=some (Eo C dx)
 ns:h.Ns1 dx mA
 ne:dx≠x
def Jp {h:Heap}{dx:Addr}{mA:Str->Option Value} (n:h.Ns1 dx mA):∃od,h.get? dx=some od/\∀name,EE name od=some (mA name):=by
 obtain⟨o,es,ep,ho,hd,hk,_,hm⟩:=n;refine⟨o,ho,fun name=>?_⟩;have e:=hm name;unfold nsFind findBy at e;rw [<- Array.find?_toList] at e;unfold EE;rw [hd];dsimp only
 split
 ·rename_i y q;rw [q] at e;exact congrArg some e
 ·rename_i q;rw [q] at e;have a:es.toList.any (·.refKey)=false:=by
   rw [List.any_eq_false];intro y hy;obtain⟨z,t,aaF⟩:=hk y (Array.mem_toList_iff.mp hy);simp [DictEntry.refKey,aaF]
  have a':¬es.toList.any (·.refKey)=true:=by rw [a];exact AH
  rw [if_neg a'];exact congrArg some e
def UE.look {h:Heap}{x dx C:Addr}{mA:Str->Option Value} (I:UE h x dx C mA):∃od,PySem.W.InstAt h x (Eo C dx) C (some od)/\∀name,EE name od=some (mA name):=
 let ⟨od,ho,hl⟩:=Jp I.ns
 ⟨od,⟨I.obj,rfl,rfl,ho⟩,hl⟩
def yk.some_of {v:V}{o:Option Value} (r:yk (some v) o):∃u,o=some u/\RelV v u:=by
 cases o with
 | none=>exact (show False from r).elim
 | some u=>exact⟨u,rfl,r⟩
section
variable {P:Program}{w:World}{H:Hp}{h:Heap}{a C dx:Addr}{fs:List (Str×V)}
def Py (bP:mq P w H h) (e:H a=some (.ins C dx fs)):∃mA,UE h a dx C mA/\(∀f,yk (fs.lookup f) (mA f))/\PySem.Within mA (fs.map (·.1))/\fs.length<=1000/\H dx=some (.own a):=by
 obtain⟨d,z,ne,ob,mA,n,r,q⟩:=(show bq P w H h a (.ins C dx fs) from bP a _ e);exact⟨mA,⟨ob,n,ne⟩,r,q,z,d⟩
end
structure Cls (K:Ab) (C:Addr):Prop where
 pg:Fb K C Str.empty=true
 hd:PySem.W.hasDictIn K C=true
 po:PySem.W.plainOver K C=true
 sa:PySem.W.findIn K (.ref C) "__setattr__"=some (some (.builtin "object.__setattr__"))
def Cls.get {K:Ab}{C:Addr} (c:Cls K C) (f:Str):Fb K C f=true:=c.pg
section
variable {X:Cx}{pins:List (Addr×Obj)}{σ:St}{H:Hp}{s:Shared}{A:Around}{E:Value->Shared->Prop}{Q:Value->Shared->Prop}{c:Value}{b:Bool}
inductive lY (K:Ab) (H:Hp):V->Value->Prop where
 | aU:lY K H .aU (.type "NoneType")
 | bl (x:Bool):lY K H (.bl x) (.type "bool")
 | int (i:Int):lY K H (.int i) (.type "int")
 | str (x:Str):lY K H (.str x) (.type "str")
 | U6 (x:UInt64):lY K H (.U6 x) (.type "float")
 | lst {a:Addr}{xs:List V} (e:H a=some (.lst xs)):lY K H (.ref a) (.type "list")
 | cR {a:Addr}{o:Obj}{xs:List V} (e:H a=some (.cR o (.lst xs))):lY K H (.ref a) (.type "list")
 | tup {a:Addr}{xs:List V} (e:H a=some (.tup xs)):lY K H (.ref a) (.type "tuple")
 | dK {a:Addr}{kvs:List (Key×V)} (e:H a=some (.dK kvs)):lY K H (.ref a) (.type "dict")
 | dT {a:Addr}{kvs:List (List Key×V)} (e:H a=some (.dT kvs)):lY K H (.ref a) (.type "dict")
 | ins {a C dx:Addr}{fs:List (Str×V)} (e:H a=some (.ins C dx fs)) (cl:Cls K C) (ha:PySem.W.findIn K (.ref C) "__class__"=some (some (.builtin "object.__class__")))
   (hn:PySem.W.specialIn K (.builtin "object.__class__") "__get__"=some (some (.builtin "getset_descriptor.__get__"))) (htk:PySem.W.takesIn K (.builtin "object.__class__")=some true)
   (hm:PySem.W.mroIn K C (.type "object")=some true):lY K H (.ref a) (.ref C)
def Jz {x:V}{u t:Value} (I:Inv X pins σ H s) (rx:RelV x u) (ty:lY X.K H x t) (e:Bl X.K t c=some b) (h:∀tk,Q (.bool b) {s with toks:=tk}) :
  wpAny (model X.prog X.w) A (call (.builtin "isinstance") [u,c]) Q E s:=by
 cases ty with
 | aU=>cases (show u=Ba from rx);exact A3 PySem.W.kitx_none I.vk Cd e (fun z=>nomatch z) h
 | bl y=>cases (show u=BX y from rx);exact A3 PySem.W.kitx_bool I.vk Cd e (fun z=>nomatch z) h
 | int i=>obtain⟨t,q⟩:=(show ∃t,u=Dq i t from rx);cases q;exact A3 PySem.W.kitx_int I.vk Cd e (fun z=>nomatch z) h
 | str y=>obtain⟨t,q⟩:=(show ∃t,u=Fc y t from rx);cases q;exact A3 PySem.W.kitx_str I.vk Cd e (fun z=>nomatch z) h
 | U6 y=>obtain⟨t,q⟩:=(show ∃t,u=Value.float y t from rx);cases q;exact A3 PySem.W.kitx_float I.vk Cd e (fun z=>nomatch z) h
 | @lst a xs ea=>
  cases (show u=Av a from rx);obtain⟨_,_,n,_,h1⟩:=(show bq X.prog X.w H s.heap a (.lst xs) from I.bP a _ ea);exact A3 DJ I.vk ⟨_,h1,rfl⟩ e (fun z=>nomatch z) h
 | @cR a ob xs ea=>
  cases (show u=Av a from rx);obtain⟨_,_,_,n,_,h1⟩:=(show bq X.prog X.w H s.heap a (.cR ob (.lst xs)) from I.bP a _ ea);exact A3 DJ I.vk ⟨_,h1,rfl⟩ e (fun z=>nomatch z) h
 | @tup a xs ea=>
  cases (show u=Av a from rx);obtain⟨_,_,_,p⟩:=(show bq X.prog X.w H s.heap a (.tup xs) from I.bP a _ ea);obtain⟨o,h1,h2,_⟩:=p;exact A3 E2 I.vk ⟨o,h1,h2⟩ e (fun z=>nomatch z) h
 | @dK a kvs ea=>
  cases (show u=Av a from rx);obtain⟨_,_,vs,_,p⟩:=(show bq X.prog X.w H s.heap a (.dK kvs) from I.bP a _ ea);obtain⟨o,es,ep,h1,h2,_⟩:=p;exact A3 DK I.vk ⟨o,h1,h2.1⟩ e (fun z=>nomatch z) h
 | @dT a kvs ea=>
  cases (show u=Av a from rx);obtain⟨_,_,xs,_,o,es,ep,h1,h2,_⟩:=(show bq X.prog X.w H s.heap a (.dT kvs) from I.bP a _ ea);exact A3 DK I.vk ⟨o,h1,h2.1⟩ e (fun z=>nomatch z) h
 | @ins a C dx fs ea cl ha hn htk hm=>
  cases (show u=Av a from rx);obtain⟨mA,O,_⟩:=Py I.bP ea;obtain⟨od,J,_⟩:=O.look;exact A3 (PySem.W.kitx_own (cl.get _) cl.hd ha hn htk hm) I.vk J e (fun z=>nomatch z) h
end
structure fD (k:Nat) (A:Around):Prop where
 hd:A.handled=none
 dp:A.depth+3*k+5 < recursionLimit
 un:A.units+16*k+200 < cLine
 gd:A.guards=some []
def fD.mono {j k:Nat}{A:Around} (r:fD k A) (h:j<=k):fD j A:=⟨r.hd,by have:=r.dp;omega,by have:=r.un;omega,r.gd⟩
def fD.deeper {k:Nat}{A:Around} (r:fD (k+1) A) (env:Env):fD k (A.deeper env):=
 ⟨r.hd,by have:=r.dp;show A.depth+1+3*k+5 < _;omega,by have:=r.un;show A.units+3+16*k+200 < _;omega,r.gd⟩
def fD.depth {k:Nat}{A:Around} (r:fD k A):A.depth < recursionLimit:=by have:=r.dp;omega
def ZM:TA:=fun _ H Q=>Q [] H
def VG (ta:TE) (tr:TA):TA:=fun σ H Q=>ta σ H fun x H1=>tr σ H1 fun xs H2=>Q (x::xs) H2
section
variable {X:Cx}{e:Expr}{es:List Expr}{te:TE}{t:TA}{pos:Pos}
def cX:PA X [] ZM:=fun _ _ _ _ H Q I h=>Ck ⟨[],H,I,.nil,h⟩
def bF (ha:PE X e te) (hr:PA X es t) (hs:starEach (e::es) X.env=(false,eval e X.env)::starEach es X.env:=by rfl):PA X (e::es) (VG te t):=by
 intro pos pins s σ H Q I h;rw [hs];show wpAny _ _ (spliced ((false,eval e X.env)::backTo pos (starEach es X.env))) _ _ s;refine B1 (cj (ha pins s σ H _ I h) fun u s1 ⟨x,H1,I1,r1,q1⟩=>?_);exact cj (hr pos pins s1 σ H1 _ I1 q1) fun us s2 ⟨xs,H2,I2,r2,q2⟩=>⟨x::xs,H2,I2,.cons r1 r2,q2⟩
end
abbrev Sp:=List V->Hp->VK->XK->Prop
abbrev NC:=List Env->Hp->Shared->XK->Value->Shared->Prop
structure QH (P:Program) (w:World) (K:Ab) (mg:Str->Option Value) (base:Heap) (A:Around) (outer:List Env) (s:Shared) (H:Hp):Prop where
 frames:A.frames=some outer
 mod:Mod K mg base
 bs:∀b o,base.get? b=some o->s.heap.get? b=some o/\H b=none
 RB:base.objs.size<=s.heap.objs.size
 tm:s.heap.FunFrames base outer
 U3:∀b∈Kl outer,H b=none
 bP:mq P w H s.heap
 bare:AllBare s.gens
def CE (outer:List Env) (P:Program) (w:World) (H:Hp) (s:Shared) (Q:VK) (u:Value) (s':Shared):Prop:=
 ∃v H',s'.os=s.os/\AllBare s'.gens/\Un (Kl outer) [] H H' s.heap s'.heap/\mq P w H' s'.heap/\RelV v u/\Q v H'
def CR (CX:NC) (outer:List Env) (P:Program) (w:World) (H:Hp) (s:Shared) (Q:VK) (E:XK) (r:Result) (s':Shared):Prop:=
 match r with
 | .ok (.ret u)=>CE outer P w H s Q u s'
 | .ok _=>False
 | .error e=>CX outer H s E e s'
structure gH (P:Program) (w:World) (K:Ab) (mg:Str->Option Value) (base:Heap) (CX:NC) (k:Nat) (f:Addr) (fd:FuncData) (ps:List Str) (sp:Sp):Prop where
 len:∀vs H Q E,sp vs H Q E->vs.length=ps.length
 run:∀(A:Around) (outer:List Env) (s:Shared) (H:Hp) (args:Args) (us:List Value) (vs:List V) (Q:VK) (E:XK),fD k A->QH P w K mg base A outer s H->BindsTo s fd args (ps.zip us)->Vals vs us->sp vs H Q E->
  codeAny (model P w) A (.call (.ref f) args) (CR CX outer P w H s Q E) s
def gH.imp {P:Program}{w:World}{K:Ab}{mg:Str->Option Value}{base:Heap}{CX:NC}{k:Nat}{f:Addr}{fd:FuncData}{ps:List Str}{sp sp':Sp} (F:gH P w K mg base CX k f fd ps sp)
  (h:∀vs H Q E,sp' vs H Q E->sp vs H Q E):gH P w K mg base CX k f fd ps sp':=
 ⟨fun vs H Q E q=>F.len vs H Q E (h _ _ _ _ q),fun A outer s H args us vs Q E hr he hb hv hs=>F.run A outer s H args us vs Q E hr he hb hv (h _ _ _ _ hs)⟩
section
variable {X:Cx}{pins:List (Addr×Obj)}{σ:St}{H:Hp}{s s':Shared}
def Inv.abb (I:Inv X pins σ H s):QH X.prog X.w X.K X.mg X.base X.A X.stack s H:=
 ⟨I.ok.frames,I.ok.mod,I.bs,Bj I.ok.RB I.sz,I.stack,I.Hk,I.bP,I.bare⟩
def Inv.after {Q:VK}{u:Value} (I:Inv X pins σ H s) (h:CE X.stack X.prog X.w H s Q u s'):EP X pins σ Q u s':=by
 obtain⟨v,H',os,bare,un,bP,r,q⟩:=h;obtain⟨hh,g,d,t,os'⟩:=s';obtain rfl:os'=s.os:=os;exact⟨v,H',I.call (h':=hh) (g':=g) (d':=d) (t':=t) (ch:=[]) un bP bare (fun b z=>absurd z (by simp)),r,q⟩
end
def Binds (K:Ab) (fd:FuncData) (ps:List Str) (ds:List Value):Prop:=
 ∀(s:Shared) (us:List Value),K.In s.heap->(us++ds).length=ps.length->BindsTo s fd ⟨us,[]⟩ (ps.zip (us++ds))
def Binds.all {K:Ab}{fd:FuncData}{ps:List Str} (h:∀us:List Value,us.length=ps.length->bindArgs fd ⟨us,[]⟩=pure (ps.zip us)):Binds K fd ps []:=fun s us _ hl=>by
 rw [Dj] at hl ⊢;exact .of_eq (h us hl)
def Passes (CX:NC) (X:Cx) (E:XK):Prop:=∀(pins:List (Addr×Obj)) (σ:St) (H:Hp) (s:Shared) (e:Value) (s':Shared),Inv X pins σ H s->CX X.stack H s E e s'->X.xe e s'
section
variable {X:Cx}{CX:NC}{k:Nat}{f:Addr}{fd:FuncData}{ps:List Str}{sp:Sp}{dvs:List V}{ds:List Value}{E:XK}{e:Expr}
def R8 {pins:List (Addr×Obj)}{σ:St}{H:Hp}{s:Shared}{Q:VK}{us:List Value}{vs:List V} (F:gH X.prog X.w X.K X.mg X.base CX k f fd ps sp) (hr:fD k X.A) (hb:Binds X.K fd ps ds) (hd:Vals dvs ds) (hx:Passes CX X E)
  (I:Inv X pins σ H s) (r:Vals vs us) (h:sp (vs++dvs) H Q E):wpAny (model X.prog X.w) X.A (call (.ref f) us) (EP X pins σ Q) X.xe s:=by
 have r2:Vals (vs++dvs) (us++ds):=r.append hd;have hl:(us++ds).length=ps.length:=by rw [<- r2.length];exact F.len _ _ _ _ h
 refine wpAny_call (codeAny_mono (F.run X.A X.stack s H ⟨us,[]⟩ (us++ds) (vs++dvs) Q E hr I.abb (hb s us I.vk hl) r2 h) fun r s' hq=>?_);cases r with
 | error e=>exact hx pins σ H s e s' I hq
 | ok fl=>
  cases fl with
  | ret u=>exact I.after hq
  | next=>exact Bg hq
  | brk=>exact Bg hq
  | cont=>exact Bg hq
end
structure ay (N P:List Str) (sc:Scope):Prop where
 kind:sc.kind=.function
 co:sc.isCoroutine=false
 gen:sc.isGenerator=false
 nd:N.Nodup
 pre:N.take P.length=P
 par:∀x∈P,sc.names.lookup x=some .local\/sc.names.lookup x=some .cell
 SV:∀y∈sc.names,y.2≠.free
theorem vG {kindOf:Str->Option NameKind}{x:Str}:∀{binds:List (Str×Value)}{m:Str->Option Value},(∀v,(x,v)∉binds)->bindL kindOf binds m x=m x
 | [],_,_=>rfl
 | (n,v)::r,m,h=>by
  unfold bindL;rw [vG fun w hw=>h w (AU _ hw)]
  split
  ·have:x≠n:=by rintro rfl;exact h v Bo
   simp [this]
  ·rfl
theorem vI {kindOf:Str->Option NameKind}{x:Str}:∀{binds:List (Str×Value)}{m:Str->Option Value},(∀v,(x,v)∉binds)->bindC kindOf binds m x=m x
 | [],_,_=>rfl
 | (n,v)::r,m,h=>by
  unfold bindC;rw [vI fun w hw=>h w (AU _ hw)]
  split
  ·rfl
  ·have:x≠n:=by rintro rfl;exact h v Bo
   simp [this]
theorem vH {kindOf:Str->Option NameKind}{x:Str}{v:Value}:∀{P:List Str}{vs:List Value}{i:Nat}{m:Str->Option Value},P.Nodup->P[i]?=some x->vs[i]?=some v->kindOf x=some .local->
  bindL kindOf (P.zip vs) m x=some v
 | [],_,_,_,_,h,_,_=>by simp at h
 | _::_,[],_,_,_,_,h,_=>by simp at h
 | p::P,w::vs,0,m,nd,h1,h2,hk=>by
  simp at h1 h2;subst h1;subst h2;show bindL kindOf ((p,w)::P.zip vs) m p=_;unfold bindL;rw [vG fun v hv=>(Dh.mp nd).1 (Ew hv).1,if_pos hk];simp
 | p::P,w::vs,i+1,m,nd,h1,h2,hk=>by
  show bindL kindOf ((p,w)::P.zip vs) m x=_;unfold bindL;exact vH (i:=i) (Dh.mp nd).2 (by simpa using h1) (by simpa using h2) hk
theorem vJ {kindOf:Str->Option NameKind}{x:Str}{v:Value}:∀{P:List Str}{vs:List Value}{i:Nat}{m:Str->Option Value},P.Nodup->P[i]?=some x->vs[i]?=some v->kindOf x≠some .local->
  bindC kindOf (P.zip vs) m x=some v
 | [],_,_,_,_,h,_,_=>by simp at h
 | _::_,[],_,_,_,_,h,_=>by simp at h
 | p::P,w::vs,0,m,nd,h1,h2,hk=>by
  simp at h1 h2;subst h1;subst h2;show bindC kindOf ((p,w)::P.zip vs) m p=_;unfold bindC;rw [vI fun v hv=>(Dh.mp nd).1 (Ew hv).1,if_neg hk];simp
 | p::P,w::vs,i+1,m,nd,h1,h2,hk=>by
  show bindC kindOf ((p,w)::P.zip vs) m x=_;unfold bindC;exact vJ (i:=i) (Dh.mp nd).2 (by simpa using h1) (by simpa using h2) hk
def start (N:List Str) (vs:List V):St:=vs.map some++Ak (N.length-vs.length) none
def tR (CX:NC) (P:Program) (w:World) (K:Ab) (mg:Str->Option Value) (base:Heap) (N:List Str) (qual:Str) (scope:Scope) (f:Addr) (cd:Value) (A:Around) (outer:List Env) (s:Shared) (H:Hp) (E:XK):Cx where
 prog:=P
 w:=w
 K:=K
 mg:=mg
 base:=base
 A:=A.deeper (envOfC qual scope s.heap.objs.size f cd)
 N:=N
 s₀:=s
 H₀:=H
 env:=envOfC qual scope s.heap.objs.size f cd
 outer:=outer
 stack:=envOfC qual scope s.heap.objs.size f cd::outer
 ex:=[]
 calm:=true
 fn:=fun _=>true
 pn:=[]
 xe:=fun e s'=>wpAny (model P w) (A.deeper (envOfC qual scope s.heap.objs.size f cd)) (leaving (envOfC qual scope s.heap.objs.size f cd) e) (fun _ VW=>CX outer H s E e VW) (fun e' VW=>CX outer H s E e' VW) s'
def zX {sc:Scope}{n:Nat}{x:Str} (h:sc.names.lookup x=some .cell):∃c,(cellsFrom n sc.names []).lookup x=some c:=by
 have q:=Ed sc.names n [] (.inl h);exact Option.isSome_iff_exists.mp q
def JB {CX:NC}{P:Program}{w:World}{K:Ab}{mg:Str->Option Value}{base:Heap}{N ps:List Str}{qual:Str}{scope:Scope}{f:Addr}{cd:Value}{A:Around}{outer:List Env}{s s1:Shared}{H:Hp}{E:XK}{us:List Value}{vs:List V}
  (S:ay N ps scope) (hd:A.handled=none) (e0:QH P w K mg base A outer s H) (hl:vs.length=ps.length) (r:Vals vs us)
  (x:InCallC s s.heap.objs.size (bindL (envOfC qual scope s.heap.objs.size f cd).kindOf (ps.zip us) fun _=>none) (cellsFrom (s.heap.objs.size+1) scope.names []) (bindC (envOfC qual scope s.heap.objs.size f cd).kindOf (ps.zip us) fun _=>none) s1) :
  Inv (tR CX P w K mg base N qual scope f cd A outer s H E) [] (start N vs) H s1:=by
 have eO:ps.length<=N.length:=by have:=congrArg BL S.pre;rw [BV] at this;omega
 obtain⟨h1,tk,rfl,hk⟩:=x.done;have WD:∀b:Addr,b∉(tR CX P w K mg base N qual scope f cd A outer s H E).ex:=fun b z=>absurd (show b∈([]:List Addr) from z) (by simp);refine⟨⟨e0.mod,S.kind,rfl,rfl,Am _,fun y z c h1 h2=>?_,fun y hy=>?_,fun y c _ h=>?_,fun _=>hd,Around.frames_deeper e0.frames,.inr ⟨rfl,rfl⟩,fun b z=>absurd z (WD b),e0.bs,e0.RB,fun b _ _=>WD b,fun b z=>absurd z (WD b),e0.tm,e0.U3⟩,
  rfl,e0.bare,Un.kept hk,⟨_,x.toInCall.ns,fun i y v h1 h2 h3=>?_⟩,fun y c h=>⟨_,x.cell y c h⟩,e0.bP.fresh (Am _),fun y c h=>?_,fun p hp=>absurd (show p∈([]:List (Addr×Obj)) from hp) (by simp),e0.bP.kept hk,?_⟩
 ·exact name_of_addr x.apart (BC h1) (BC h2)
 ·have hy:scope.names.lookup y=some .cell\/scope.names.lookup y=some .free:=hy;rcases hy with hy | hy
  ·exact zX hy
  ·exact absurd rfl (S.SV _ (BC hy))
 ·exact Dp (x.above y c (BC h))
 ·have hi:i < vs.length:=by
   unfold start at h2;by_cases hi:i < vs.length
   ·exact hi
   ·rw [Ax (by simpa using hi)] at h2;rw [Bk] at h2
    split at h2 <;> cases h2
  have ha:vs[i]?=some v:=by
   unfold start at h2;rw [Ay (by simpa using hi),Ai] at h2;cases e:vs[i]? with
   | none=>rw [e] at h2;cases h2
   | some a=>rw [e] at h2;cases h2;rfl
  obtain⟨u,hu,rv⟩:=r.get ha;have hp:ps[i]?=some y:=by
   rw [<- S.pre,List.getElem?_take_of_lt (by omega)];exact h1
  have ndP:ps.Nodup:=by rw [<- S.pre];exact S.nd.sublist (List.take_sublist _ _)
  refine⟨u,rv,?_⟩;rcases S.par y (Bn hp) with k | k
  ·exact .inl ⟨k,vH ndP hp hu k⟩
  ·obtain⟨c,e⟩:=zX (n:=s.heap.objs.size+1) k;refine .inr ⟨.inl k,c,e,?_⟩;have q:=x.cell y c e;rw [vJ ndP hp hu (by show scope.names.lookup y≠_;rw [k];decide)] at q;exact q
 ·exact e0.bP.fresh (Dp (x.above y c (BC h)))
 ·unfold start;show _=N.length;rw [Ad,Af,A2];omega
def XE {CX:NC}{P:Program}{w:World}{K:Ab}{mg:Str->Option Value}{base:Heap}{k:Nat}{f:Addr}{name qual:Str}{params:Arguments}{body:List Stmt}{scope:Scope}{dV kV doc pm fZ ct oc:Value}{an od:Option Addr}
  {Lw:Array (Option Value)}{N ps:List Str}{sp:Sp} (lk:K.lookup f=some ⟨oc,od,.func (B4 name qual params body scope dV kV doc pm an fZ ct),Lw⟩) (ko:Ds K fZ qual=true) (S:ay N ps scope)
  (len:∀vs H Q E,sp vs H Q E->vs.length=ps.length)
  (Mq:∀(A:Around) (outer:List Env) (s:Shared) (H:Hp) (vs:List V) (Q:VK) (E:XK),fD k (A.deeper (envOfC qual scope s.heap.objs.size f fZ))->sp vs H Q E->
   ∃t,rD (tR CX P w K mg base N qual scope f fZ A outer s H E) body t/\t {nx:=fun _ H'=>Q .aU H',rt:=Q} (start N vs) H) :
  gH P w K mg base CX (k+1) f (B4 name qual params body scope dV kV doc pm an fZ ct) ps sp:=by
 refine⟨len,fun A outer s H args us vs Q E hr e0 hb r PJ=>?_⟩;have hl:=len _ _ _ _ PJ;have KX:K.In s.heap:=e0.mod.kin.keeps fun b o e=>(e0.bs b o e).1;have lim:s.heap.NoLimit:=e0.mod.nolimit.keeps fun b o e=>(e0.bs b o e).1;have Xj:∀y∈ps.zip us,scope.names.lookup y.1=some .local\/(scope.names.lookup y.1=some .cell/\((cellsFrom (s.heap.objs.size+1) scope.names []).lookup y.1).isSome=true):=fun ⟨n,v⟩ hy=>by
  rcases S.par n (Ew hy).1 with q | q
  ·exact .inl q
  ·exact .inr ⟨q,Ed _ _ _ (.inl q)⟩
 refine codeAny_call_function hr.depth (KX _ _ lk) rfl S.co S.gen rfl (PySem.W.codeRec_of KX ko) (hb _ _ _ _ ?_);refine wpAny_newFunctionEnv_cells S.kind Xj fun env he s1 x=>?_;subst he;refine⟨lim.keeps x.toInCall.keep,codeAny_func ?_⟩;obtain⟨t,ht,hq⟩:=Mq A outer s H vs Q E (hr.deeper _) PJ;have I:Inv (tR CX P w K mg base N qual scope f fZ A outer s H E) [] (start N vs) H s1:=JB S hr.hd e0 hl r x;refine BQ (ht [] s1 (start N vs) H _ I hq) (fun fl s' hs=>?_) fun e s' hs=>hs;have fin:∀{σ':St}{H':Hp}{v:V}{u:Value},Inv (tR CX P w K mg base N qual scope f fZ A outer s H E) [] σ' H' s'->RelV v u->Q v H'->CE outer P w H s Q u s':=
  fun {σ' H' v u} J rv q=>⟨v,H',J.os,J.bare,J.base,J.bP,rv,q⟩
 cases fl with
 | ret u=>
  obtain⟨v,σ',H',J,rv,q⟩:=hs;exact fin J rv q
 | next=>
  obtain⟨σ',H',J,q⟩:=hs;exact fin (v:=V.aU) (u:=Ba) J rfl q
 | brk=>
  obtain⟨_,_,_,q⟩:=hs;exact Bg q
 | cont=>
  obtain⟨_,_,_,q⟩:=hs;exact Bg q
section
variable {X:Cx}{x:Str}{p pos:Pos}{e:Expr}{es:List Expr}{t:TA}{id T:String}{r:List V->Hp->VK->Prop}
def tCB (r:List V->Hp->VK->Prop) (t:TA):TE:=fun σ H Q=>t σ H fun vs H1=>r vs H1 Q
def gV (hc:bS X (.builtin id) r) (hg:Gl X x) (hm:X.mg x=none) (hv:bootBuiltins x=some (.builtin id)) (ha:PA X (e::es) t) (hn:x≠"__name__":=by decide) (nR:(x==("__debug__":Str))=false:=by decide)
  (he:starEach (e::es) X.env=(false,eval e X.env)::starEach es X.env:=by rfl) (eO:(backTo pos (starEach es X.env)).any (·.1)=false:=by rfl):PE X (.Call (.Name x p) (e::es) [] pos) (tCB r t):=by
 intro pins s σ H Q I h;refine BI (jE I hg hm hv ?_ hn nR);exact PyProof.Rows.callWith_builtin1 (cj (ha pos pins s σ H _ I h) fun us s1 ⟨vs,H1,I1,r1,q1⟩=>hc pins s1 σ H1 vs us Q I1 r1 q1) he eO
def lL (hc:bS X (.type T) r) (hg:Gl X x) (hm:X.mg x=none) (hv:bootBuiltins x=some (.type T)) (ha:PA X (e::es) t) (hn:x≠"__name__":=by decide) (nR:(x==("__debug__":Str))=false:=by decide)
  (he:starEach (e::es) X.env=(false,eval e X.env)::starEach es X.env:=by rfl) (eO:(backTo pos (starEach es X.env)).any (·.1)=false:=by rfl):PE X (.Call (.Name x p) (e::es) [] pos) (tCB r t):=by
 intro pins s σ H Q I h;refine BI (jE I hg hm hv ?_ hn nR);exact A8 (cj (ha pos pins s σ H _ I h) fun us s1 ⟨vs,H1,I1,r1,q1⟩=>hc pins s1 σ H1 vs us Q I1 r1 q1) he eO
end
end L2
namespace HT
open PySem PyProof.Rows
section
variable {prog:Program}{w:World}{A:Around}{E:Value->Shared->Prop}{s:Shared}
def Qm {t b:Addr}{vs ws:List Value}{Q:Value->Shared->Prop} (ht:IsTup s.heap t vs.toArray) (hb:IsTup s.heap b ws.toArray) (hv:vs≠[])
  (h1:ws=[]->Q (.ref t) s) (h2:ws≠[]->Q (.ref s.heap.objs.size) {s with heap:=s.heap.push {cls:=.type "tuple",data:=.seq (vs++ws).toArray}})
  (hsz:vs.length+ws.length<=sizeLine):wpAny (model prog w) A (binaryOp .Add (.ref t) (.ref b)) Q E s:=by
 obtain⟨⟨cls,dd,data,sl⟩,ho,hc,n,hd⟩:=id ht;obtain⟨⟨X6,X4,data2,UN⟩,NK,Rm,n2,hd2⟩:=id hb;simp only at hc hd Rm hd2;subst hc hd Rm hd2;have e:vs.toArray++ws.toArray=(vs++ws).toArray:=by simp
 by_cases hw:ws=[]
 ·exact concat_meets ⟨_,ho,rfl⟩ ⟨_,NK,rfl⟩ noFill_tuple_add seq_tuple_add CH CB (Cs _ _)
   (tuple_addW1 t b vs.toArray ws.toArray n n2 dd X4 sl UN (by simpa using hv) (by simp [hw])) ⟨ho,NK,h1 hw⟩
 ·refine concat_meets ⟨_,ho,rfl⟩ ⟨_,NK,rfl⟩ noFill_tuple_add seq_tuple_add CH CB (Cs _ _)
   (tuple_addW2 t b vs.toArray ws.toArray n n2 dd X4 sl UN (by simpa using hv) (by simpa using hw) (by rw [Ag,Ag];exact hsz)) ⟨ho,NK,?_⟩
  rw [e];exact h2 hw
def dE (n d:Nat):Option Int->Nat
 | none=>d
 | some v=>if v < 0 then (v+(n:Int)).toNat else min v.toNat n
theorem KS (n d:Nat):dE n d none=d:=rfl
def Oi (n d k:Nat):dE n d (some (k:Int))=min k n:=by
 show (if (k:Int) < 0 then ((k:Int)+(n:Int)).toNat else min (k:Int).toNat n)=min k n;rw [if_neg (by omega),AO]
def R6 (n d:Nat) (hd:d<=n) (o:Option Int):dE n d o<=n:=by
 cases o with
 | none=>exact hd
 | some v=>
  show (if v < 0 then (v+(n:Int)).toNat else min v.toNat n)<=n;by_cases hv:v < 0
  ·rw [if_pos hv];omega
  ·rw [if_neg hv];exact Nat.min_le_right _ _
def Ik (v:Int) (n d:Nat):(if v < 0 then max (v+(n:Int)) 0 else min v (n:Int))=((dE n d (some v):Nat):Int):=by
 show (if v < 0 then max (v+(n:Int)) 0 else min v (n:Int))=(((if v < 0 then (v+(n:Int)).toNat else min v.toNat n):Nat):Int);by_cases hv:v < 0
 ·simp only [if_pos hv];omega
 ·simp only [if_neg hv];omega
def G1 (lo hi:Option Int) (n:Nat):Builtin.Slice.sliceAdjust lo hi 1 (n:Int)=(((dE n 0 lo:Nat):Int),((dE n n hi:Nat):Int)):=by
 have h1:¬((1:Int) < 0):=by omega
 unfold Builtin.Slice.sliceAdjust;simp only [h1,if_false];refine Prod.ext ?_ ?_
 ·cases lo with
  | none=>rfl
  | some v=>exact Ik v n 0
 ·cases hi with
  | none=>rfl
  | some v=>exact Ik v n n
def FY (i j:Nat):Builtin.Slice.slicePlaces (i:Int) (j:Int) 1=j-i:=by
 unfold Builtin.Slice.slicePlaces;have h1:(1:Int) > 0:=by omega
 simp only [h1,if_true,Int.ediv_one]
 split <;> omega
def rQ {v:Value}{o:Option Int}{Q:Option Int->Shared->Prop} (p:IsPart v o) (h:Q o s):wpAny (model prog w) A (Builtin.Slice.slicePartIndex v) Q E s:=by
 cases p with
 | none=>exact slicePart_none h
 | int i t=>exact slicePart_int h
def iW {sl:Addr}{vl vu:Value}{lo hi:Option Int}{n:Nat}{Q:Int×Int×Nat->Shared->Prop} (hs:s.heap.IsSliceOf sl vl vu .none) (pl:IsPart vl lo) (pu:IsPart vu hi)
  (h:Q (((dE n 0 lo:Nat):Int),1,dE n n hi-dE n 0 lo) s):wpAny (model prog w) A (Builtin.Slice.sliceApplied (.ref sl) (pure (n:Int))) Q E s:=by
 obtain⟨os,Ki,UZ,PQ⟩:=id hs;unfold Builtin.Slice.sliceApplied Builtin.Slice.sliceFields;refine Aa (Aa (AR Ki PQ (x:=vl) rfl (Aa (AR Ki PQ (x:=vu) rfl (Aa (AR Ki PQ (x:=.none) rfl (Ah ?_)))))));refine Aa (slicePart_none ?_);show wpAny _ _ (if ((1:Int)==0)=true then _ else _) _ _ s;rw [if_neg (by decide)];refine Aa (rQ pl (Aa (rQ pu (Aa (Ah ?_)))));show wpAny _ _ (match Builtin.Slice.sliceAdjust lo hi 1 (n:Int) with | (lo,hi)=>pure (lo,(1:Int),Builtin.Slice.slicePlaces lo hi 1)) _ _ s;rw [G1 lo hi n];show wpAny _ _ (pure (((dE n 0 lo:Nat):Int),(1:Int),Builtin.Slice.slicePlaces ((dE n 0 lo:Nat):Int) ((dE n n hi:Nat):Int) 1)) _ _ s;rw [FY];exact Ah h
def Lh (xs:Array Value) (i k:Nat):((AG k).filterMap fun (m:Nat)=>xs[((i:Int)+(m:Int)*1).toNat]?).toArray=((xs.toList.drop i).take k).toArray:=by
 have e:(fun (m:Nat)=>xs[((i:Int)+(m:Int)*1).toNat]?)=fun m=>xs[i+m]?:=by
  funext m;have:((i:Int)+(m:Int)*1).toNat=i+m:=by omega
  rw [this]
 rw [e];have:=pick_run xs i k;rw [List.filterMap_map] at this;have e2:((fun x=>xs[x]?)∘fun x=>i+x)=fun m=>xs[i+m]?:=rfl;rw [e2] at this;rw [this]
def nT {t sl:Addr}{items:Array Value}{vl vu:Value}{lo hi:Option Int}{Q:Value->Shared->Prop} (ht:IsTup s.heap t items) (hs:s.heap.IsSliceOf sl vl vu .none) (pl:IsPart vl lo) (pu:IsPart vu hi)
  (hw:¬(dE items.size 0 lo=0/\dE items.size items.size hi=items.size))
  (h:Q (.ref s.heap.objs.size) {s with heap:=s.heap.push {cls:=.type "tuple",data:=.seq ((items.toList.drop (dE items.size 0 lo)).take (dE items.size items.size hi-dE items.size 0 lo)).toArray}})
  (hsz:items.size<=sizeLine):wpAny (model prog w) A (getItem (.ref t) (.ref sl)) Q E s:=by
 have HU:sizeOk (.seq ((items.toList.drop (dE items.size 0 lo)).take (dE items.size items.size hi-dE items.size 0 lo)).toArray):=by
  show ((items.toList.drop (dE items.size 0 lo)).take (dE items.size items.size hi-dE items.size 0 lo)).toArray.size<=sizeLine;rw [Ag,BV,Cp,Dm];omega
 have hj:dE items.size items.size hi<=items.size:=R6 _ _ (Am _) hi;obtain⟨os,Ki,UZ,PQ⟩:=id hs;have U2:s.TypeIs (.ref sl) "slice":=⟨os,Ki,UZ⟩;unfold getItem
 try with_reducible refine Be ?_
 first | refine Aa (Ah ?_) | skip
 refine Aa (DM ht.typeIs (by decide) ?_);refine Aa (AM (name:=B5 "__getitem__") ht.typeIs A9
  (Bb A9 ht.typeIs entry_tuple_getitem ?_ (args_tuple_getitem _ _)))
 show wpAny _ _ (Builtin.Tuple.tupleItemsOf (.ref t) >>= _) _ _ s;refine Aa (tupleItemsOf_ ht ?_);refine Aa (B7 U2 ?_);rw [if_pos (by decide)];refine Aa (iW hs pl pu ?_);have hno:¬((((dE items.size 0 lo:Nat):Int)==0&&(1:Int)==1&&(dE items.size items.size hi-dE items.size 0 lo)==items.size)=true):=by
  intro q;rw [AD,AD] at q;have q1:((dE items.size 0 lo:Nat):Int)=0:=eq_of_beq q.1.1;have q2:dE items.size items.size hi-dE items.size 0 lo=items.size:=eq_of_beq q.2;exact hw ⟨by omega,by omega⟩
 show wpAny _ _ (if (((dE items.size 0 lo:Nat):Int)==0&&(1:Int)==1&&(dE items.size items.size hi-dE items.size 0 lo)==items.size)=true then _ else _) _ _ s;rw [if_neg hno,Lh]
 first
  | exact Aa (m:=Builtin.Tuple.tupleExact _) (Bd (Ah ⟨_,rfl,Ah h⟩) HU)
  | exact Aa (m:=Builtin.Tuple.tupleExact _) (Bd (Aa (Ah (Ah ⟨_,rfl,Ah h⟩))) HU)
  | exact Aa (Aa (m:=Builtin.Tuple.tupleExact _) (Bd (Ah (Ah ⟨_,rfl,Ah h⟩)) HU))
  | exact Aa (Aa (m:=Builtin.Tuple.tupleExact _) (Bd (Ah ⟨_,rfl,Ah h⟩) HU))
end
end HT
namespace L2
open PySem PySem.Spec PyProof.Rows
abbrev TO:=St->Hp->(Option Int->Hp->Prop)->Prop
def PO (X:Cx) (e:Option Expr) (t:TO):Prop:=
 ∀(pins:List (Addr×Obj)) (s:Shared) (σ:St) (H:Hp) (Q:Option Int->Hp->Prop),Inv X pins σ H s->t σ H Q->
  wpAny (model X.prog X.w) X.A (evalPart e X.env) (fun u s'=>∃o H',Inv X pins σ H' s'/\IsPart u o/\Q o H') X.xe s
def N7:TO:=fun _ H Q=>Q none H
def Vz (t:TE):TO:=fun σ H Q=>t σ H fun x H1=>∃i,x=.int i/\Q (some i) H1
def intsAre_of {ns:List Int}:∀{us:List Value},Vals (ns.map V.int) us->IntsAre us ns:=by
 induction ns with
 | nil=>intro us r;rw [Cf] at r;cases r;exact .nil
 | cons n ns ih=>
  intro us r;rw [Au] at r;cases r with
  | cons r1 r2=>
   obtain⟨t,e⟩:=r1;subst e;exact .cons n t (ih r2)
section
variable {X:Cx}{e:Expr}{te:TE}{lo hi:Option Expr}{tl th:TO}{pos p2:Pos}
def OB:PO X none N7:=by
 intro pins s σ H Q I h;rw [evalPart_none];exact Ah ⟨none,H,I,.none,h⟩
def OA (h:PE X e te):PO X (some e) (Vz te):=by
 intro pins s σ H Q I hw;rw [evalPart_some];refine cj (h pins s σ H _ I hw) fun u s1 ⟨x,H1,I1,r1,q1⟩=>?_;obtain⟨i,rfl,q⟩:=q1;obtain⟨t,rfl⟩:=r1;exact⟨some i,H1,I1,.int i t,q⟩
def Zo (X:Cx) (r:V->Option Int->Option Int->Hp->VK->Prop):Prop:=
 ∀(pins:List (Addr×Obj)) (s:Shared) (σ:St) (H:Hp) (x:V) (v vl vu:Value) (lo hi:Option Int) (sl:Addr) (Q:VK),Inv X pins σ H s->RelV x v->s.heap.IsSliceOf sl vl vu .none->IsPart vl lo->IsPart vu hi->r x lo hi H Q->
  ∃T id,typeLookup (.type T) "__getitem__"=pure (some (.builtin id))/\s.TypeIs v T/\wpAny (model X.prog X.w) X.A (getItem v (.ref sl)) (EP X pins σ Q) X.xe s
def tSl (r:V->Option Int->Option Int->Hp->VK->Prop) (te:TE) (tl th:TO):TE:=fun σ H Q=>te σ H fun x H1=>tl σ H1 fun l H2=>th σ H2 fun u H3=>r x l u H3 Q
def Lq {r:V->Option Int->Option Int->Hp->VK->Prop} (hr:Zo X r) (he:PE X e te) (hl:PO X lo tl) (hu:PO X hi th):PE X (.Subscript e (.Slice lo hi none p2) pos) (tSl r te tl th):=by
 intro pins s σ H Q I h;refine Subscript_ (cj (he pins s σ H _ I h) fun v s1 ⟨x,H1,I1,r1,q1⟩=>?_);refine wpAny_Slice (cj (hl pins s1 σ H1 _ I1 q1) fun vl s2 ⟨l,H2,I2,pl,q2⟩=>cj (hu pins s2 σ H2 _ I2 q2) fun vu s3 ⟨u,H3,I3,pu,q3⟩=>?_);rw [evalPart_none];refine Ah ?_;have I4:Inv X pins σ H3 {s3 with heap:=s3.heap.push {cls:=.type "slice",data:=.fields #[vl,vu,.none]}}:=I3.kept (t':=s3.toks) fun b ob q=>Al _ q;obtain⟨T,id,hT,ht,hg⟩:=hr pins {s3 with heap:=s3.heap.push {cls:=.type "slice",data:=.fields #[vl,vu,.none]}} σ H3 x v vl vu l u s3.heap.objs.size Q I4 r1 (Heap.IsSliceOf.new ..) pl pu q3;show wpAny (model X.prog X.w) X.A (subscriptTail e (.Slice lo hi none p2) v (.ref s3.heap.objs.size)) (EP X pins σ Q) X.xe {s3 with heap:=s3.heap.push {cls:=.type "slice",data:=.fields #[vl,vu,.none]}};exact tail_any (ops:=[.ref s3.heap.objs.size,v]) ht hT hg (by with_unfolding_all rfl)
def xR (xs:List V) (lo hi:Option Int):List V:=(xs.drop (HT.dE xs.length 0 lo)).take (HT.dE xs.length xs.length hi-HT.dE xs.length 0 lo)
def qa (xs:List V) (lo hi:Option Int):(xR xs lo hi).length<=xs.length:=by
 unfold xR;rw [BV,Cp];omega
def ZZ (K:Ab):V->Option Int->Option Int->Hp->VK->Prop:=fun x lo hi H Q=>∃a xs,x=.ref a/\da K H a xs/\
 ¬(HT.dE xs.length 0 lo=0/\HT.dE xs.length xs.length hi=xs.length)/\∀p,H p=none->Q (.ref p) (upd H p (.tup (xR xs lo hi)))
def R1:Zo X (ZZ X.K):=by
 intro pins s σ H x v vl vu lo hi sl Q I rx hs pl pu h;obtain⟨a,xs,rfl,hx,hw,q⟩:=h;cases rx;obtain⟨aq,r,ht,hz⟩:=I.tuple hx;have hlen:aq.toArray.size=xs.length:=by rw [Ag];exact r.length.symm
 refine⟨"tuple",_,A9.lookup,ht.typeIs,?_⟩;refine HT.nT ht hs pl pu (by rw [hlen];exact hw) ?_ (by rw [hlen];exact hz);rw [hlen];refine⟨.ref s.heap.objs.size,_,I.laid (t':=s.toks) (o:=.tup (xR xs lo hi)) (fun b ob q=>Al _ q) (Am _) ?_,rfl,q _ (I.bP.fresh (Am _))⟩;exact⟨Bj (qa xs lo hi) hz,_,(r.drop (HT.dE xs.length 0 lo)).take (HT.dE xs.length xs.length hi-HT.dE xs.length 0 lo),IsTup.new _ _⟩
def QY (K:Ab):R2:=fun x y H Q=>∃a b xs ys,x=.ref a/\y=.ref b/\da K H a xs/\da K H b ys/\xs≠[]/\xs.length+ys.length<=sizeLine/\
 (ys=[]->Q (.ref a) H)/\(ys≠[]->∀p,H p=none->Q (.ref p) (upd H p (.tup (xs++ys))))
def Vals.jA {xs:List V}{us:List Value} (r:Vals xs us):us=[]↔xs=[]:=by
 cases r with
 | nil=>simp
 | cons _ _=>simp
def HE:jm X (binaryOp .Add) (QY X.K):=by
 intro pins s σ H x y v u Q I rx ry h;obtain⟨a,b,xs,ys,rfl,rfl,ha,hb,hx,hz,q1,q2⟩:=h;cases rx;cases ry;obtain⟨aq,r1,p1,_⟩:=I.tuple ha;obtain⟨bI,r2,p2,_⟩:=I.tuple hb;refine HT.Qm p1 p2 (fun z=>hx (r1.jA.mp z)) (fun z=>⟨.ref a,H,I,rfl,q1 (r2.jA.mp z)⟩) (fun z=>?_) (by rw [<- r1.length,<- r2.length];exact hz);refine⟨.ref s.heap.objs.size,_,I.laid (t':=s.toks) (o:=.tup (xs++ys)) (fun b ob q=>Al _ q) (Am _) ?_,rfl,q2 (fun w=>z (r2.jA.mpr w)) _ (I.bP.fresh (Am _))⟩;exact⟨by rw [Ad];exact hz,_,r1.append r2,IsTup.new _ _⟩
end
def pW (n:Nat) (i:Int):Option Nat:=if 0<=i then (if i < n then some i.toNat else none) else if -(n:Int)<=i then some (i+n).toNat else none
def cB {α:Type} (xs:List α) (i:Int):Option α:=(pW xs.length i).bind fun j=>xs[j]?
def xi {n:Nat}{i:Int}{j:Nat} (h:pW n i=some j):seqIndex? i n=some j/\j < n/\-(n:Int)<=i/\i < n:=by
 unfold pW at h;by_cases h0:0<=i
 ·rw [if_pos h0] at h;by_cases h1:i < n
  ·rw [if_pos h1] at h;have e:i.toNat=j:=Option.some.inj h;exact⟨by rw [seqIndex_of h0 h1,e],by omega,by omega,h1⟩
  ·rw [if_neg h1] at h;cases h
 ·rw [if_neg h0] at h;by_cases h1:-(n:Int)<=i
  ·rw [if_pos h1] at h;have e:(i+n).toNat=j:=Option.some.inj h;exact⟨by rw [seqIndex_neg (by omega) h1,e],by omega,h1,by omega⟩
  ·rw [if_neg h1] at h;cases h
def xW {α:Type}{xs:List α}{i:Int}{v:α} (h:cB xs i=some v):∃j,seqIndex? i xs.length=some j/\xs[j]?=some v/\j < xs.length/\-(xs.length:Int)<=i/\i < xs.length:=by
 unfold cB at h;cases e:pW xs.length i with
 | none=>rw [e] at h;cases h
 | some j=>
  rw [e] at h;obtain⟨h1,h2,h3,h4⟩:=xi e;exact⟨j,h1,h,h2,h3,h4⟩
def dW {α:Type}{xs:List α}{j:Nat}{v:α} (h:xs[j]?=some v):cB xs (j:Int)=some v:=by
 have hj:j < xs.length:=(Aj.mp h).1;have e:pW xs.length (j:Int)=some j:=by
  unfold pW;rw [if_pos (by omega),if_pos (by omega)];simp
 unfold cB;rw [e];exact h
def Nr {α:Type} (xs:List α) (v:α):cB (xs++[v]) (-1)=some v:=by
 have hl:(xs++[v]).length=xs.length+1:=by simp
 have e:pW (xs++[v]).length (-1)=some xs.length:=by
  unfold pW;rw [hl,if_neg (by decide),if_pos (by omega)];congr 1;omega
 unfold cB;rw [e];show (xs++[v])[xs.length]?=some v;simp
def rC (b:Expr):Prop:=∀o i,subscripted b false o i=operate [o,i] (getItem o i)
def NQ (X:Cx) (r:R2):Prop:=
 ∀(value slice:Expr) (pins:List (Addr×Obj)) (s:Shared) (σ:St) (H:Hp) (x y:V) (v u:Value) (Q:VK),Inv X pins σ H s->RelV x v->RelV y u->r x y H Q->
  subscripted slice false v u=operate [v,u] (getItem v u)->wpAny (model X.prog X.w) X.A (subscriptTail value slice v u) (EP X pins σ Q) X.xe s
def Zr (X:Cx) (id:String) (r:V->List V->Hp->VK->Prop):Prop:=
 ∀(pins:List (Addr×Obj)) (s:Shared) (σ:St) (H:Hp) (x:V) (xs:List V) (v:Value) (us:List Value) (Q:VK),Inv X pins σ H s->RelV x v->Vals xs us->r x xs H Q->
  wpAny (model X.prog X.w) X.A (call (.builtin id) (v::us)) (EP X pins σ Q) X.xe s
section
variable {X:Cx}{a b:Expr}{ta tb:TE}{pos:Pos}
def NQ.or {r r':R2} (h:NQ X r) (h':NQ X r'):NQ X (fun x y H Q=>r x y H Q\/r' x y H Q):=by
 intro value slice pins s σ H x y v u Q I rx ry q hs;rcases q with q | q
 ·exact h value slice pins s σ H x y v u Q I rx ry q hs
 ·exact h' value slice pins s σ H x y v u Q I rx ry q hs
def Lr {r:R2} (hr:NQ X r) (ha:PE X a ta) (hb:PE X b tb) (hs:rC b):PE X (.Subscript a b pos) (RV r ta tb):=by
 intro pins s σ H Q I h;exact Subscript_ (Uu ha hb I h fun v u s2 x y H2 I2 rx ry q=>hr a b pins s2 σ H2 x y v u Q I2 rx ry q (hs _ _))
def V4 (K:Ab):R2:=fun x y H Q=>∃p xs i v,x=.ref p/\y=.int i/\cT K H p xs/\cB xs i=some v/\Q v H
def V3 (K:Ab):R2:=fun x y H Q=>∃p xs i v,x=.ref p/\y=.int i/\da K H p xs/\cB xs i=some v/\Q v H
def Sf:R2:=fun x y H Q=>∃z i c,x=.str z/\y=.int i/\z.length<=sizeLine/\cB z.cps.toList i=some c/\Q (.str ⟨#[c]⟩) H
def Pr:NQ X (V4 X.K):=by
 intro value slice pins s σ H x y v u Q I rx ry h hs;obtain⟨p,xs,i,z,rfl,rfl,hq,he,q⟩:=h;cases rx;obtain⟨t,rfl⟩:=ry;obtain⟨aq,r,pl,hz⟩:=I.list hq;obtain⟨j,h1,h2,h3,h4,h5⟩:=xW he;obtain⟨w,ew,iI⟩:=r.get h2;have hl:=r.length;have hn:=ph;have fin:EP X pins σ Q w s:=⟨z,H,I,iI,q⟩;by_cases h0:0<=i
 ·have hj:i.toNat=j:=by
   rw [seqIndex_of h0 h5] at h1;exact Option.some.inj h1
  exact item_listR pl.isList h0 (by omega) (by rw [hj];simpa using ew) fin hs
 ·have hj:(i+(aq.toArray.size:Int)).toNat=j:=by
   rw [seqIndex_neg (by omega) h4] at h1;rw [Ag,<- hl];exact Option.some.inj h1
  exact subscriptTail_builtinR (x:=w) pl.isList.typeIs slot_list_getitem.lookup
   (wpAny_getItem_list_neg (Q:=fun r s'=>r=w/\EP X pins σ Q r s') pl.isList (by omega) (by rw [Ag] <;> omega) (by omega) (by rw [hj];simpa using ew) ⟨rfl,fin⟩) hs
def Tn:NQ X (V3 X.K):=by
 intro value slice pins s σ H x y v u Q I rx ry h hs;obtain⟨p,xs,i,z,rfl,rfl,hq,he,q⟩:=h;cases rx;obtain⟨t,rfl⟩:=ry;obtain⟨aq,r,pl,hz⟩:=I.tuple hq;obtain⟨j,h1,h2,h3,h4,h5⟩:=xW he;obtain⟨w,ew,iI⟩:=r.get h2;have hl:=r.length;have hn:=ph;have fin:EP X pins σ Q w s:=⟨z,H,I,iI,q⟩;exact subscriptTail_builtinR (x:=w) pl.typeIs slot_tuple_getitem.lookup
  (getItem_tuple (j:=j) (Q:=fun r s'=>r=w/\EP X pins σ Q r s') pl (by omega) (by omega) (by rw [Ag,<- hl];exact h1) (by simpa using ew) ⟨rfl,fin⟩) hs
def Ma:NQ X Sf:=by
 intro value slice pins s σ H x y v u Q I rx ry h hs;obtain⟨z,i,c,rfl,rfl,hz,he,q⟩:=h;obtain⟨t,rfl⟩:=rx;obtain⟨t',rfl⟩:=ry;obtain⟨j,h1,h2,h3,h4,h5⟩:=xW he;have hl:z.cps.toList.length=z.length:=by simp [Str.length]
 rw [hl] at h1 h4 h5;have hn:=ph;exact tail_any (typeIs_str s z t) slot_str_getitem.lookup (getItem_str (c:=c) (by
  have e1:decide (i < -(2 ^ 63:Int))=false:=decide_eq_false (by omega);have e2:decide (i≥2 ^ 63)=false:=decide_eq_false (by omega);rw [e1,e2,Bool.or_false]) (by rw [h1];simpa using h2) ⟨.str ⟨#[c]⟩,H,I.tok _,⟨_,rfl⟩,q⟩) hs
def rIx (K:Ab):R2:=fun x y H Q=>V4 K x y H Q\/V3 K x y H Q\/Sf x y H Q
def Tp:NQ X (rIx X.K):=Pr.or (Tn.or Ma)
def Ga (aq:List Value) (n j:Nat) (u:Value):B9 (·.setIfInBounds j u) {cls:=.type "list",data:=.seq aq.toArray n}={cls:=.type "list",data:=.seq (aq.set j u).toArray n}:=by
 simp [B9]
def Inv.lst {pins:List (Addr×Obj)}{σ:St}{H:Hp}{s:Shared}{p:Addr}{xs:List V} (I:Inv X pins σ H s) (h:H p=some (.lst xs)) :
  ∃(aq:List Value) (n:Nat),Vals xs aq/\s.heap.get? p=some {cls:=.type "list",data:=.seq aq.toArray n}/\xs.length<=sizeLine:=by
 obtain⟨z,aq,n,r,e⟩:=I.bP p _ h;exact⟨aq,n,r,e,z⟩
def Inv.S4 {pins:List (Addr×Obj)}{σ:St}{H:Hp}{s:Shared}{p:Addr}{xs ys:List V}{aq its':List Value}{n n':Nat}{f:Obj->Obj} (I:Inv X pins σ H s) (h:H p=some (.lst xs))
  (ho:s.heap.get? p=some {cls:=.type "list",data:=.seq aq.toArray n}) (hf:f {cls:=.type "list",data:=.seq aq.toArray n}={cls:=.type "list",data:=.seq its'.toArray n'}) (r:Vals ys its') (hz:ys.length<=sizeLine) (t:Nat) :
  Inv X pins σ (upd H p (.lst ys)) {s with heap:=s.heap.update p f,toks:=t}:=by
 have e:(s.heap.update p f).get? p=some {cls:=.type "list",data:=.seq its'.toArray n'}:=by
  rw [Ci f ho (by rw [hf] <;> rfl),hf]
 refine I.write (x:=p) (e:=p) (by rw [h];trivial) (.inl rfl) (fun b u hb q=>(CG _ _ (Bx hb)).trans q) ⟨_,e⟩ ?_;exact⟨hz,its',n',r,e⟩
def V1:V->V->V->Hp->(Hp->Prop)->Prop:=fun o i v H Q=>∃p xs k j,o=.ref p/\i=.int k/\H p=some (.lst xs)/\pW xs.length k=some j/\Q (upd H p (.lst (xs.set j v)))
def set_list:Hc X V1:=by
 intro pins s σ H o i v ov iv u Q I ro ri rv h;obtain⟨p,xs,k,j,rfl,rfl,hp,hj,q⟩:=h;cases ro;obtain⟨t,rfl⟩:=ri;obtain⟨aq,n,r,ho,hz⟩:=I.lst hp;obtain⟨h1,h2,h3,h4⟩:=xi hj;have hl:=r.length;have hn:=ph;have I':Inv X pins σ (upd H p (.lst (xs.set j v))) {s with heap:=s.heap.update p (B9 (·.setIfInBounds j u))}:=
  I.S4 hp ho (Ga aq n j u) (r.set rv j) (by rw [BR];exact hz) s.toks
 by_cases h0:0<=k
 ·have hk:k.toNat=j:=by
   rw [seqIndex_of h0 h4] at h1;exact Option.some.inj h1
  exact PySem.W.ki_setAt ho h0 (by omega) (by rw [Ag,<- hl];exact h4) (by rw [hk];exact⟨_,I',q⟩)
 ·have hk:(k+(aq.toArray.size:Int)).toNat=j:=by
   rw [seqIndex_neg (by omega) h3] at h1;rw [Ag,<- hl];exact Option.some.inj h1
  exact PySem.W.ki_setBack ho (by omega) (by rw [Ag,<- hl];exact h3) (by omega) (by rw [hk];exact⟨_,I',q⟩)
def wq (lo hi:Option Int) (n:Nat):(sliceBounds lo hi none n).1=((HT.dE n 0 lo:Nat):Int)/\(sliceBounds lo hi none n).2.1=((HT.dE n n hi:Nat):Int)/\(sliceBounds lo hi none n).2.2=1:=by
 refine⟨?_,?_,rfl⟩
 ·cases lo with
  | none=>simp [sliceBounds,HT.dE]
  | some i=>
   simp only [sliceBounds,HT.dE,D3,show (1:Int) > 0 by decide,if_true];by_cases h:i < 0
   ·simp only [h,if_true] <;> omega
   ·simp only [h,if_false] <;> omega
 ·cases hi with
  | none=>simp [sliceBounds,HT.dE]
  | some i=>
   simp only [sliceBounds,HT.dE,D3,show (1:Int) > 0 by decide,if_true];by_cases h:i < 0
   ·simp only [h,if_true] <;> omega
   ·simp only [h,if_false] <;> omega
def uw (aq:List Value) (lo hi:Option Int):slicePick aq.toArray lo hi none=((aq.drop (HT.dE aq.length 0 lo)).take (HT.dE aq.length aq.length hi-HT.dE aq.length 0 lo)).toArray:=by
 obtain⟨h1,h2,h3⟩:=wq lo hi aq.toArray.size;unfold slicePick;rw [h1,h2,h3];simp only [sliceRange_one,pick_run,Ag] <;> rfl
def Z0 (K:Ab):V->Option Int->Option Int->Hp->VK->Prop:=fun x lo hi H Q=>∃a xs,x=.ref a/\cT K H a xs/\∀p,H p=none->Q (.ref p) (upd H p (.lst (xR xs lo hi)))
def Yu:Zo X (Z0 X.K):=by
 intro pins s σ H x v vl vu lo hi sl Q I rx hs pl pu h;obtain⟨a,xs,rfl,hx,q⟩:=h;cases rx;obtain⟨aq,r,ht,hz⟩:=I.list hx;have hlen:=r.length;refine⟨"list",_,slot_list_getitem.lookup,ht.isList.typeIs,?_⟩;refine wpAny_getItem_list_slice ht.isList hs pl pu .none (by simp) ?_ (by rw [Ag] <;> omega);rw [uw,<- hlen];refine⟨.ref s.heap.objs.size,_,I.laid (t':=s.toks) (o:=.lst (xR xs lo hi)) (fun b ob q=>Al _ q) (Am _) ?_,rfl,q _ (I.bP.fresh (Am _))⟩;exact⟨Bj (qa xs lo hi) hz,_,0,(r.drop (HT.dE xs.length 0 lo)).take (HT.dE xs.length xs.length hi-HT.dE xs.length 0 lo),Ap _ rfl⟩
def xT:bS X (.type "list") (fun xs H Q=>∃p ys,xs=[.ref p]/\(cT X.K H p ys\/da X.K H p ys)/\∀l,H l=none->Q (.ref l) (upd H l (.lst ys))):=by
 intro pins s σ H xs us Q I r h;obtain⟨p,ys,rfl,hq,q⟩:=h;obtain⟨u,rfl,rx⟩:=vals1 r;cases rx;have fin:∀(aq:List Value),Vals ys aq->ys.length<=sizeLine->∀(h':Heap) (c':Nat),(∀b o',s.heap.get? b=some o'->h'.get? b=some o')->
   h'.get? s.heap.objs.size=some {cls:=.type "list",dict:=none,data:=.seq aq.toArray c',slots:=#[]}->EP X pins σ Q (.ref s.heap.objs.size) {s with heap:=h'}:=fun aq r' hz h' c' kp e=>
  ⟨.ref s.heap.objs.size,_,I.laid (t':=s.toks) kp (Am _) (show bq X.prog X.w _ h' _ (.lst ys) from⟨hz,aq,c',r',e⟩),rfl,q _ (I.bP.fresh (Am _))⟩
 rcases hq with hq | hq
 ·obtain⟨aq,r',pl,hz⟩:=I.list hq;have hlen:=r'.length;obtain⟨o,ho,hc,n,hd⟩:=pl.isList;exact call_list_seq p (.inl rfl) ho hc hd (fun h' c' kp e=>fin aq r' hz h' c' kp e) (by simp only [Ag] <;> omega)
 ·obtain⟨aq,r',pl,hz⟩:=I.tuple hq;have hlen:=r'.length;obtain⟨o,ho,hc,n,hd⟩:=pl;exact call_list_seq p (.inr rfl) ho hc hd (fun h' c' kp e=>fin aq r' hz h' c' kp e) (by simp only [Ag] <;> omega)
def uQ:bS X (.type "tuple") (fun xs H Q=>∃p ys,xs=[.ref p]/\((cT X.K H p ys/\∀l,H l=none->Q (.ref l) (upd H l (.tup ys)))\/(da X.K H p ys/\Q (.ref p) H))):=by
 intro pins s σ H xs us Q I r h;obtain⟨p,ys,rfl,h⟩:=h;obtain⟨u,rfl,rx⟩:=vals1 r;cases rx;rcases h with⟨hq,q⟩ | ⟨hq,q⟩
 ·obtain⟨aq,r',pl,hz⟩:=I.list hq;have hlen:=r'.length;refine call_tuple_list pl.isList (fun h' kp=>?_) (by simp only [Ag] <;> omega);have I1:Inv X pins σ H {s with heap:=h'}:=I.kept (t':=s.toks) kp;have I2:Inv X pins σ (upd H h'.objs.size (.tup ys)) {s with heap:=h'.push {cls:=.type "tuple",data:=.seq aq.toArray}}:=
   I1.laid (t':=s.toks) (fun b o e=>Al _ e) (Am _) (show bq X.prog X.w _ _ _ (.tup ys) from⟨hz,aq,r',IsTup.new _ _⟩)
  exact⟨.ref h'.objs.size,_,I2,rfl,q _ (I1.bP.fresh (Am _))⟩
 ·obtain⟨aq,r',pl,hz⟩:=I.tuple hq;exact call_tuple_same pl ⟨.ref p,H,I,rfl,q⟩
def ZF (K:Ab) (T:String) (x:V) (H:Hp):Prop:=match x with
 | .str _=>T="str"
 | .int _=>T="int"
 | .ref p=>(T="list"/\∃xs,cT K H p xs)\/(T="tuple"/\∃o,K.lookup p=some o/\o.cls=.type "tuple"/\o.dict=none)\/
   (T="dict"/\((∃kvs,H p=some (.dK kvs))\/∃kvs,H p=some (.dT kvs)))\/(T="set"/\∃S n,H p=some (.set S n))
 | _=>False
def Kx {pins:List (Addr×Obj)}{σ:St}{H:Hp}{s:Shared}{T:String}{x:V}{v:Value} (I:Inv X pins σ H s) (r:RelV x v) (ty:ZF X.K T x H) :
  s.TypeIs v T/\∀a,v=.ref a->∃ob,s.heap.get? a=some ob/\ob.dict=none:=by
 cases x with
 | str z=>
  obtain⟨t,rfl⟩:=r;cases (show T="str" from ty);exact⟨typeIs_str s z t,fun _ e=>nomatch e⟩
 | int i=>
  obtain⟨t,rfl⟩:=r;cases (show T="int" from ty);exact⟨typeIs_int s i t,fun _ e=>nomatch e⟩
 | ref p=>
  cases r;rcases ty with⟨rfl,xs,hq⟩ | ⟨rfl,o,hk,hc,hd⟩ | ⟨rfl,hk⟩ | ⟨rfl,S,n,hk⟩
  ·obtain⟨aq,_,pl,_⟩:=I.list hq;refine⟨pl.isList.typeIs,fun a e=>?_⟩;cases e;obtain⟨o,n,e,c,hd,_⟩:=pl;exact⟨o,e,hd⟩
  ·refine⟨⟨o,I.vk p o hk,hc⟩,fun a e=>?_⟩;cases e;exact⟨o,I.vk _ o hk,hd⟩
  ·have z:∃o,s.heap.get? p=some o/\o.ExactDict:=by
    rcases hk with⟨kvs,hk⟩ | ⟨kvs,hk⟩
    ·obtain⟨_,_,_,_,o,_,_,e,ex,_⟩:=I.bP p _ hk;exact⟨o,e,ex⟩
    ·obtain⟨_,_,_,_,o,_,_,e,ex,_⟩:=I.bP p _ hk;exact⟨o,e,ex⟩
   obtain⟨o,e,ex⟩:=z;refine⟨⟨o,e,ex.1⟩,fun a e2=>?_⟩;cases e2;exact⟨o,e,ex.2.1⟩
  ·obtain⟨o,_,_,_,e,ex,_⟩:=I.bP p _ hk;refine⟨⟨o,e,ex.1⟩,fun a e2=>?_⟩;cases e2;exact⟨o,e,ex.2.1⟩
 | _=>exact Bg ty
def VI (K:Ab) (T:String) (r:V->List V->Hp->VK->Prop) (to:TE):TE:=fun σ H Q=>to σ H fun x H1=>ZF K T x H1/\r x [] H1 Q
def tBM (K:Ab) (T:String) (r:V->List V->Hp->VK->Prop) (to:TE) (t:TA):TE:=fun σ H Q=>to σ H fun x H1=>ZF K T x H1/\t σ H1 fun xs H2=>r x xs H2 Q
variable {o e:Expr}{es:List Expr}{to:TE}{t:TA}{name:Str}{apos bD:Pos}{T id:String}{r:V->List V->Hp->VK->Prop}
def Sz (pa:PlainAttrs T) (slot:Slot T name id) (TB:typeOf (.builtin id)=pure (.type "method_descriptor")) (hm:Zr X id r) (ho:PE X o to)
  (fW:attributeBase o name X.env (eval o X.env)=eval o X.env:=by rfl) (fV:(apos.endLine==bD.line)=true:=by rfl):PE X (.Call (.Attribute o name apos) [] [] bD) (VI X.K T r to):=by
 intro pins s σ H Q I h;refine wpAny_Call_method0_late fW fV (cj (ho pins s σ H _ I h) fun v s1 ⟨x,H1,I1,r1,ty,q1⟩=>?_);obtain⟨h1,h2⟩:=Kx I1 r1 ty;exact⟨T,id,pa,slot,TB,h1,h2,Ef rfl (PySem.evalArgs_none (hm pins s1 σ H1 x [] v [] Q I1 r1 .nil q1))⟩
def Wl (pa:PlainAttrs T) (slot:Slot T name id) (TB:typeOf (.builtin id)=pure (.type "method_descriptor")) (hm:Zr X id r) (ho:PE X o to) (ha:PA X (e::es) t)
  (fW:attributeBase o name X.env (eval o X.env)=eval o X.env:=by rfl)
  (sY:((backTo bD (starEach (e::es) X.env)).all (fun x=>!x.1)&&(backToKw bD (keywordEach [] X.env)).all (fun x=>x.1.isSome)
   && decide ((e::es).length+([]:List Keyword).length+(if ([]:List Keyword).isEmpty then 0 else 1) < 30))=true:=by rfl)
  (fV:(apos.endLine==bD.line)=true:=by rfl) (hs:starEach (e::es) X.env=(false,eval e X.env)::starEach es X.env:=by rfl) (hJ:(backTo bD (starEach es X.env)).any (·.1)=false:=by rfl) :
  PE X (.Call (.Attribute o name apos) (e::es) [] bD) (tBM X.K T r to t):=by
 intro pins s σ H Q I h;refine wpAny_Call_method_late fW sY fV rfl (cj (ho pins s σ H _ I h) fun v s1 ⟨x,H1,I1,r1,ty,q1⟩=>?_);obtain⟨h1,h2⟩:=Kx I1 r1 ty;refine⟨T,id,pa,slot,TB,h1,h2,?_⟩;have hA:=ha bD pins s1 σ H1 _ I1 q1;rw [hs] at hA ⊢;refine Ef (by show (false||(backTo bD (starEach es X.env)).any (·.1))=false;rw [hJ] <;> rfl) (Calls.evalArgs_plain ?_);exact cj hA fun us s2 ⟨vs,H2,I2,r2,q2⟩=>hm pins s2 σ H2 x vs v us Q I2 r1 r2 q2
end
def Kn (X:Cx) (id:String) (r:V->List V->Hp->VK->Prop):Prop:=
 ∀(pins:List (Addr×Obj)) (s:Shared) (σ:St) (H:Hp) (x:V) (xs:List V) (v:Value) (us:List Value) (Q:VK),Inv X pins σ H s->RelV x v->Vals xs us->r x xs H Q->
  wpAny (model X.prog X.w) X.A (call (.builtin id) (v::us)) (EP X pins σ Q) X.xe s
def Vals.one:∀{x:V}{us:List Value},Vals [x] us->∃u,us=[u]/\RelV x u
 | _,_,.cons r .nil=>⟨_,rfl,r⟩
def Vals.zero:∀{us:List Value},Vals [] us->us=[]
 | _,.nil=>rfl
def Vals.dropLast {xs:List V}{us:List Value} (h:Vals xs us):Vals xs.dropLast us.dropLast:=by
 induction h with
 | nil=>exact .nil
 | cons r t ih=>
  cases t with
  | nil=>exact .nil
  | cons q t'=>exact .cons r ih
theorem Vals.rep {xs:List V}{us:List Value} (h:Vals xs us):∀k:Nat,Vals (Ak k xs).flatten (Ak k us).flatten
 | 0=>.nil
 | k+1=>by
  rw [Bi,Bi,BP,BP];exact Vals.append h (Vals.rep h k)
def GK {α:Type} (l:List α):l.eraseIdx (l.length-1)=l.dropLast:=by
 induction l with
 | nil=>rfl
 | cons a r ih=>
  cases r with
  | nil=>rfl
  | cons b r=>
   have e:(a::b::r).length-1=((b::r).length-1)+1:=by
    have h1:(a::b::r).length=r.length+2:=rfl;have h2:(b::r).length=r.length+1:=rfl;omega
   rw [e,List.eraseIdx_cons_succ,ih]
   all_goals rfl
theorem foldl_rep (aq:List Value):∀(k:Nat) (acc:List Value),
  List.foldl (fun x1 x2=>x1++x2) acc.toArray (Ak k aq.toArray)=(acc++(Ak k aq).flatten).toArray
 | 0,acc=>by simp
 | k+1,acc=>by
  have e:acc.toArray++aq.toArray=(acc++aq).toArray:=by simp
  have e2:(acc++aq)++(Ak k aq).flatten=acc++(Ak (k+1) aq).flatten:=by
   rw [Bi,BP,A5]
  rw [<- e2,<- foldl_rep aq k (acc++aq),<- e,Bi,List.foldl_cons]
section
variable {X:Cx}{pins:List (Addr×Obj)}{σ:St}{H:Hp}{s:Shared}{l:Addr}{xs ys:List V}
def Inv.Gb {aq its':List Value}{n:Nat}{f:Array Value->Array Value}{t':Nat} (I:Inv X pins σ H s) (hH:H l=some (.lst xs))
  (e:s.heap.get? l=some {cls:=.type "list",data:=.seq aq.toArray n}) (hf:f aq.toArray=its'.toArray) (hv:Vals ys its') (hz:ys.length<=sizeLine) :
  Inv X pins σ (upd H l (.lst ys)) {s with heap:=s.heap.update l (B9 f),toks:=t'}:=by
 have q:=PySem.IsL.update e f;rw [hf] at q;refine I.write (x:=l) (e:=l) (by rw [hH];exact trivial) (.inl rfl) (fun b' u hb hu=>(CG s.heap (B9 f) (Bx hb)).trans hu) ⟨_,q⟩ ?_;exact⟨hz,its',_,hv,q⟩
def Inv.S6 {aq:List Value}{t':Nat} (I:Inv X pins σ H s) (hv:Vals ys aq) (hz:ys.length<=sizeLine) :
  Inv X pins σ (upd H s.heap.objs.size (.lst ys)) {s with heap:=s.heap.push {cls:=.type "list",data:=.seq aq.toArray},toks:=t'}:=
 I.laid (fun _ _ q=>Al _ q) (Am _) ⟨hz,aq,0,hv,Ap _ rfl⟩
def Inv.fresh (I:Inv X pins σ H s):H s.heap.objs.size=none:=I.bP.fresh (Am _)
def Inv.o5 (I:Inv X pins σ H s) (hH:H l=some (.lst xs)):xs.length<=sizeLine/\∃(aq:List Value) (n:Nat),Vals xs aq/\xs.length=aq.length/\s.heap.get? l=some {cls:=.type "list",data:=.seq aq.toArray n}:=by
 obtain⟨z,aq,n,r,e⟩:=I.bP l _ hH;exact⟨z,aq,n,r,r.length,e⟩
def i8 {n:Nat} (h:n<=sizeLine):Builtin.List.listTooLong n=false:=by
 unfold Builtin.List.listTooLong;exact decide_eq_false (by omega)
end
section
variable {X:Cx}
def Ov:V->List V->Hp->VK->Prop:=fun x vs H Q=>∃l xs y,x=.ref l/\vs=[y]/\H l=some (.lst xs)/\xs.length < sizeLine/\Q .aU (upd H l (.lst (xs++[y])))
def Jm:Kn X "list.append" Ov:=by
 intro pins s σ H x vs v us Q I rx rv h;obtain⟨l,xs,y,rfl,rfl,hH,hz,q⟩:=h;cases rx;obtain⟨u,rfl,ru⟩:=rv.one;obtain⟨z,aq,n,r,hl,e⟩:=I.o5 hH;refine call_meets F.slot_list_append ⟨_,e,rfl⟩ F.entry_list_append (F.args_list_append_2 _ _) (PySem.list_append l aq.toArray n u (by rw [Ag];omega)) ⟨e,?_⟩;refine⟨.aU,_,I.Gb (its':=aq++[u]) hH e (by simp) (r.append (.cons ru .nil)) ?_,rfl,q⟩;rw [Ad,EB];omega
def Ot:V->List V->Hp->VK->Prop:=fun x vs H Q=>∃l b xs zs,x=.ref l/\vs=[.ref b]/\H l=some (.lst xs)/\H b=some (.lst zs)/\xs.length+zs.length<=sizeLine/\Q .aU (upd H l (.lst (xs++zs)))
def UR:Kn X "list.extend" Ot:=by
 intro pins s σ H x vs v us Q I rx rv h;obtain⟨l,b,xs,zs,rfl,rfl,hH,hB,hz,q⟩:=h;cases rx;obtain⟨u,rfl,ru⟩:=rv.one;cases ru;obtain⟨z,aq,n,r,hl,e⟩:=I.o5 hH;obtain⟨z2,bI,n2,r2,NL,e2⟩:=I.o5 hB;have hsz:aq.toArray.size+bI.toArray.size<=sizeLine:=by rw [Ag,Ag];omega
 have sX:¬(!aq.toArray.isEmpty&&Builtin.List.listTooLong (aq.toArray.size+bI.toArray.size))=true:=by
  rw [i8 hsz,DG];exact AH
 refine call_meets Dv ⟨_,e,rfl⟩ Dk (CY _ _)
  (AutoSeq1.list_extend_list_list_0 l aq.toArray n b bI.toArray n2 sX (by rw [Ag];omega) (by omega)) ⟨e,e2,?_⟩
 refine⟨.aU,_,I.Gb (its':=aq++bI) hH e (by simp) (r.append r2) ?_,rfl,q⟩;rw [Ad];omega
def Z2:V->List V->Hp->VK->Prop:=fun x vs H Q=>∃l xs y,x=.ref l/\vs=[]/\H l=some (.lst xs)/\xs[xs.length-1]?=some y/\Q y (upd H l (.lst xs.dropLast))
def S1:Kn X "list.pop" Z2:=by
 intro pins s σ H x vs v us Q I rx rv h;obtain⟨l,xs,y,rfl,rfl,hH,hy,q⟩:=h;cases rx;have hus:=rv.zero;subst hus;obtain⟨z,aq,n,r,hl,e⟩:=I.o5 hH;obtain⟨u,hu,ru⟩:=r.get hy;have Tw:aq.toArray[aq.toArray.size-1]?=some u:=by
  show aq.toArray[aq.length-1]?=some u;rw [<- ED,<- hl];exact hu
 refine call_meets F.slot_list_pop ⟨_,e,rfl⟩ F.entry_list_pop (F.args_list_pop_1 _) (MeetsSeq.list_pop_last l aq.toArray n u Tw (by rw [Ag];omega)) ⟨e,?_⟩;refine⟨y,_,I.Gb (its':=aq.dropLast) hH e ?_ r.dropLast ?_,ru,q⟩
 ·show aq.toArray.eraseIdxIfInBounds (aq.toArray.size-1)=aq.dropLast.toArray;rw [Ag,List.eraseIdxIfInBounds_toArray,GK]
 ·rw [List.length_dropLast];omega
def Z3:R2:=fun x y H Q=>∃l b xs zs,x=.ref l/\y=.ref b/\H l=some (.lst xs)/\H b=some (.lst zs)/\xs.length+zs.length<=sizeLine/\∀p,H p=none->Q (.ref p) (upd H p (.lst (xs++zs)))
def SM:jm X (binaryOp .Add) Z3:=by
 intro pins s σ H x y v u Q I rx ry h;obtain⟨l,b,xs,zs,rfl,rfl,hH,hB,hz,q⟩:=h;cases rx;cases ry;obtain⟨z,aq,n,r,hl,e⟩:=I.o5 hH;obtain⟨z2,bI,n2,r2,NL,e2⟩:=I.o5 hB;refine PySem.P.add_list e e2 ?_ (by rw [Ag,Ag];omega);have ea:aq.toArray++bI.toArray=(aq++bI).toArray:=by simp
 rw [ea];exact⟨.ref _,_,I.S6 (t':=s.toks) (r.append r2) (by rw [Ad];omega),rfl,q _ I.fresh⟩
def Z1:R2:=fun x y H Q=>∃l k xs,x=.ref l/\y=.int k/\H l=some (.lst xs)/\-(2 ^ 63)<=k/\k < 2 ^ 63/\xs.length*k.toNat<=sizeLine/\
 ∀p,H p=none->Q (.ref p) (upd H p (.lst (Ak k.toNat xs).flatten))
def len_rep {α:Type} (xs:List α) (k:Nat):(Ak k xs).flatten.length=k*xs.length:=by
 induction k with
 | zero=>simp
 | succ k ih=>rw [Bi,BP,Ad,ih,E8,Nat.add_comm]
def SE:jm X (binaryOp .Mult) Z1:=by
 intro pins s σ H x y v u Q I rx ry h;obtain⟨l,k,xs,rfl,rfl,hH,h1,h2,hz,q⟩:=h;cases rx;obtain⟨t,rfl⟩:=ry;obtain⟨z,aq,n,r,hl,e⟩:=I.o5 hH;have hlen:aq.toArray.size*k.toNat<=sizeLine:=by rw [Ag,<- hl];exact hz
 have aaP:¬aq.toArray.size*k.toNat > (2 ^ 63-1) / 8:=by
  have:(sizeLine:Nat)<=(2 ^ 63-1) / 8:=by decide
  omega
 have aaK:¬(!Builtin.List.listFitsIndex k)=true:=by
  rw [fitsIndex_both h1 h2];exact AH
 have sX:¬Builtin.List.listTooLong (aq.toArray.size*k.toNat)=true:=by
  rw [i8 hlen];exact AH
 have PN:List.foldl (fun x1 x2=>x1++x2) #[] (Ak (if aq.toArray.isEmpty=true then 0 else k.toNat) aq.toArray)=(Ak k.toNat aq).flatten.toArray:=by
  have f0:∀m:Nat,List.foldl (fun x1 x2=>x1++x2) #[] (Ak m aq.toArray)=(Ak m aq).flatten.toArray:=fun m=>by
   have:=foldl_rep aq m [];rw [Di] at this;exact this
  rw [f0];cases aq with
  | nil=>simp
  | cons a r'=>rw [if_neg (by simp)]
 refine wpAny_binaryOp_repeat_ref (T:="list") (U:="int") (by decide) ⟨_,e,rfl⟩ (fun s'=>typeIs_int s' k t) noFill_list_mul F.fills_int_mul F.slot_int_rmul repeat_list F.slot_int_index.lookup
  (call_meets F.slot_int_rmul (typeIs_int s k t) F.entry_int_rmul (F.args_int_rmul_2 _ _) (int___rmul___int_list k t l aq.toArray n)
   ⟨e,rfl,⟨_,e,rfl⟩,call_meets F.slot_list_mul ⟨_,e,rfl⟩ F.entry_list_mul (F.args_list_mul_2 _ _) (AutoListH.list___mul___list_int_3 l aq.toArray n k t aaK aaP sX) ⟨e,?_⟩⟩)
 rw [PN];exact⟨.ref _,_,I.S6 (t':=s.toks) (r.rep k.toNat) (by rw [len_rep,Nat.mul_comm];exact hz),rfl,q _ I.fresh⟩
end
section
variable {prog:Program}{w:World}{A:Around}{E:Value->Shared->Prop}{s:Shared}
def IP (aq bI:List Value) (a c:Nat):aq.toArray.extract 0 a++bI.toArray++aq.toArray.extract c aq.toArray.size=(aq.take a++bI++aq.drop c).toArray:=by
 apply Array.toList_inj.mp
 first
  | (
    simp;exact Ce (by simp))
  | simp [Ce]
  | simp
def GX {a c n:Nat} (U1:a<=c) (hc:c<=n):sliceBounds (some (a:Int)) (some (c:Int)) none n=((a:Int),(c:Int),1):=by
 simp only [sliceBounds,D3];have h1:¬((a:Int) < 0):=by omega
 have h2:¬((c:Int) < 0):=by omega
 simp only [h1,h2,if_false,show (1:Int) > 0 by decide,if_true];congr 1
 ·omega
 ·congr 1;omega
set_option maxRecDepth 100000 in
def ux {l b sl:Addr}{items new:Array Value}{n n2:Nat}{vl vu:Value}{a c:Nat}{Q:Unit->Shared->Prop}
  (e:s.heap.get? l=some {cls:=.type "list",data:=.seq items n}) (e2:s.heap.get? b=some {cls:=.type "list",data:=.seq new n2}) (Mk:l≠b)
  (hs:s.heap.IsSliceOf sl vl vu .none) (pl:IsPart vl (some (a:Int))) (pu:IsPart vu (some (c:Int))) (U1:a<=c) (hc:c<=items.size)
  (hsz:items.size+new.size<=sizeLine) (h:Q () {s with heap:=s.heap.update l (B9 fun xs=>xs.extract 0 a++new++xs.extract c xs.size)}) :
  wpAny (model prog w) A (setItem (.ref l) (.ref sl) (.ref b)) Q E s:=by
 have hl:s.heap.IsList l items:=Fe e;have hb:s.heap.IsList b new:=Fe e2;obtain⟨os,Ki,UZ,PQ⟩:=id hs;have U2:s.TypeIs (.ref sl) "slice":=⟨os,Ki,UZ⟩;have Xa:¬((rawPart none==rawInt 0)=true):=AH;have Mj:Builtin.List.listSameRef (.ref l) (.ref b)=false:=by
  unfold Builtin.List.listSameRef;exact beq_eq_false_iff_ne.mpr Mk
 have aaB:(max (a:Int) (c:Int)).toNat=c:=by omega
 have Gy:((fun xs:Array Value=>xs.extract 0 a++new++xs.extract c xs.size) items).size<=sizeLine+1:=by
  simp only [DR,Array.size_extract];omega
 unfold setItem
 try with_reducible refine Be ?_
 first | refine Aa (Ah ?_) | skip
 refine Aa (DM hl.typeIs (by decide) ?_);refine Aa (AM (name:=B5 "__setitem__") hl.typeIs slot_list_setitem
  (Bb slot_list_setitem hl.typeIs entry_list_setitem ?_ (args_list_setitem _ _ _)))
 show wpAny _ _ (Builtin.List.listSubscript? (.ref sl) >>= _) _ _ s;refine Aa ?_;unfold Builtin.List.listSubscript?;refine Aa (Df U2 slice_no_index ?_);simp only [Option.isNone_none,if_true];refine Ah ?_;show wpAny _ _ (typeOf (.ref sl) >>= _) _ _ s;refine Aa (B7 U2 ?_)
 first
  | rw [if_neg (by decide)]
  | refine PySem.W.KFB.if_not (by decide) ?_
 rw [listSliceParts_eq];refine Aa (Aa (AR Ki PQ (x:=.none) rfl (Aa (EJ .none ?_))));rw [if_neg Xa];refine Aa (AR Ki PQ (x:=vl) rfl (Aa (EJ pl ?_)));refine Aa (AR Ki PQ (x:=vu) rfl (Aa (EJ pu (Ah ?_))))
 first
  | simp only [Mj,An,if_false]
  | refine PySem.W.KFB.if_not Mj ?_
  | (
    dsimp only;rw [if_neg (by rw [Mj];exact AH)])
 refine Aa (m:=Builtin.List.listAllItems (.ref b) "must assign iterable to extended slice") ?_;unfold Builtin.List.listAllItems;refine Aa (B7 hb.typeIs ?_)
 first
  | refine PySem.W.KFB.if_so (by decide) ?_
  | rw [if_pos (by decide)]
  | simp only [beq_self_eq_true,Bool.true_or,if_true]
 unfold Builtin.List.listItems;refine Aa (Bt e2 rfl (Ah ?_));refine Aa (Aa (Bt e rfl (Ah ?_)));refine Aa (Cc ((sliceIndices_raw (some (a:Int)) (some (c:Int)) none items.size (by simp)).trans (congrArg (pure:Int×Int×Int->Sem (Int×Int×Int)) (GX U1 hc))) ?_);show wpAny _ _ (if ((1:Int)==1)=true then _ else _) _ _ s;rw [if_pos (by decide)];refine Aa (Cy ?_)
 first
  | simp only [i8 hsz,An,if_false]
  | refine PySem.W.KFB.if_not (i8 hsz) ?_
 first | refine Aa (Ah ?_) | skip
 show wpAny _ _ (updateSeq l (fun xs=>xs.extract 0 ((a:Int)).toNat++new++xs.extract (max (a:Int) (c:Int)).toNat xs.size) >>= _) _ _ s;rw [aaB,AO];refine Aa (De (hz:=Bj (Bq _ _) hsz) (_hz':=Gy) e rfl ?_);refine Aa (C3 ?_)
 first
  | exact Aa (Ah (Ah ⟨.none,rfl,Ah h⟩))
  | exact Ah ⟨.none,rfl,Ah h⟩
end
section
variable {X:Cx}
def IV {pins:List (Addr×Obj)}{s:Shared}{σ:St}{H:Hp}{l b sl:Addr}{xs ys:List V}{a c:Int}{vl vu:Value}{Q:Unit->Shared->Prop} (I:Inv X pins σ H s)
  (hH:H l=some (.lst xs)) (hB:H b=some (.lst ys)) (Mk:l≠b) (hs:s.heap.IsSliceOf sl vl vu .none) (ra:RelV (.int a) vl) (rc:RelV (.int c) vu) (h0:0<=a) (U1:a<=c) (hc:c<=xs.length)
  (hz:xs.length+ys.length<=sizeLine) (h:∀s',Inv X pins σ (upd H l (.lst (xs.take a.toNat++ys++xs.drop c.toNat))) s'->Q () s') :
  wpAny (model X.prog X.w) X.A (setItem (.ref l) (.ref sl) (.ref b)) Q X.xe s:=by
 obtain⟨ta,rfl⟩:=ra;obtain⟨tc,rfl⟩:=rc;obtain⟨z,aq,n,r,hl,e⟩:=I.o5 hH;obtain⟨z2,bI,n2,r2,NL,e2⟩:=I.o5 hB;obtain⟨a',rfl⟩:=Ec h0;obtain⟨c',rfl⟩:=Ec (Int.le_trans h0 U1);simp only [AO] at h;refine ux (a:=a') (c:=c') e e2 Mk hs (.int _ _) (.int _ _) (by omega) (by rw [Ag];omega) (by rw [Ag,Ag];omega) (h _ ?_);refine I.Gb (its':=aq.take a'++bI++aq.drop c') (t':=s.toks) hH e ?_ (Vals.append (Vals.append (r.take _) r2) (r.drop _)) ?_
 ·exact IP aq bI a' c'
 ·rw [Ad,Ad,BV,Cp];omega
end
section
variable {κ:Type} [DecidableEq κ]
def iU (kvs:List (κ×V)) (k:κ):Option V:=(kvs.find? fun kv=>decide (kv.1=k)).map (·.2)
def kB {p:κ×V}{r:List (κ×V)}{k:κ} (e:p.1=k):iU (p::r) k=some p.2:=by simp [iU,Bv,e]
def kC {p:κ×V}{r:List (κ×V)}{k:κ} (e:¬p.1=k):iU (p::r) k=iU r k:=by simp [iU,Bv,e]
theorem yD (k:κ):∀kvs:List (κ×V),(kvs.any fun kv=>decide (kv.1=k))=(iU kvs k).isSome
 | []=>rfl
 | p::r=>by
  rw [Cv];by_cases e:p.1=k
  ·simp only [kB e,decide_eq_true e,Bool.true_or,Option.isSome_some]
  ·rw [kC e,decide_eq_false e,Bool.false_or];exact yD k r
def KV.val {kvs:List (κ×V)}{vs:List (κ×Value)} (r:KV kvs vs) (k:κ):yk (iU kvs k) (valueAt vs k):=by
 unfold KV at r
 induction r with
 | nil=>exact Cd
 | @cons p q ps qs h t ih=>
  obtain⟨h1,h2⟩:=h;by_cases e:p.1=k
  ·have e':q.1=k:=h1.symm.trans e;have b:valueAt (q::qs) k=some q.2:=by simp [valueAt,Bv,e']
   rw [kB e,b];exact h2
  ·have e':¬q.1=k:=fun z=>e (h1.trans z);have b:valueAt (q::qs) k=valueAt qs k:=by simp [valueAt,Bv,e']
   rw [kC e,b];exact ih
end
def Q9 {P:Program}{w:World}{k:Key}{u:Value} (r:RelV (kV k) u):(cH P w).is k u=true:=by
 cases k with
 | inl i=>obtain⟨t,e⟩:=(show ∃t,u=Dq i t from r);subst e;exact zg P w i t
 | inr x=>obtain⟨t,e⟩:=(show ∃t,u=Fc x t from r);subst e;exact zf P w x t
theorem vn {P:Program}{w:World}:∀{ks:List Key}{us:List Value},Vals (ks.map kV) us->ItemsAre (cH P w) ks us
 | [],_,r=>by rw [Cf] at r;cases r;exact .nil
 | k::ks,_,r=>by
  rw [Au] at r;cases r with
  | cons h t=>exact .cons (Q9 h) (vn t)
abbrev KT (H:Hp):List (List Key×V)->List (List Key×Addr×Value)->Prop:=Paired fun p q=>p.1=q.1/\H q.2.1=some (.tup (p.1.map kV))/\RelV p.2 q.2.2
def KT.val {H:Hp}{kvs:List (List Key×V)}{xs:List (List Key×Addr×Value)} (r:KT H kvs xs) (k:List Key):yk (iU kvs k) ((atKey xs k).map (·.2)):=by
 induction r with
 | nil=>exact Cd
 | @cons p q ps qs h t ih=>
  obtain⟨h1,_,h2⟩:=h;by_cases e:p.1=k
  ·have e':q.1=k:=h1.symm.trans e;have b:atKey (q::qs) k=some q.2:=by simp [atKey,Bv,e']
   rw [kB e,b];exact h2
  ·have e':¬q.1=k:=fun z=>e (h1.trans z);have b:atKey (q::qs) k=atKey qs k:=by simp [atKey,Bv,e']
   rw [kC e,b];exact ih
def KT.keeps {H H':Hp}{kvs:List (List Key×V)}{xs:List (List Key×Addr×Value)} (r:KT H kvs xs) (ht:∀b ys,H b=some (.tup ys)->H' b=some (.tup ys)):KT H' kvs xs:=
 Paired.S3 r fun _ _ z=>⟨z.1,ht _ _ z.2.1,z.2.2⟩
section
variable {P:Program}{w:World}{H:Hp}{h:Heap}{a:Addr}
def QX {u:HO} (ok:mq P w H h) (e:Rd H a u):bq P w H h a u:=e.ok ok
def zU {kvs:List (Key×V)} (ok:mq P w H h) (e:Rd H a (.dK kvs)):kvs.length<=sizeLine/\(a==sysModules)=false/\∃vs,KV kvs vs/\h.DictOf (cH P w) a vs:=
 show bq P w H h a (.dK kvs) from QX ok e
def Gj {ks:List Key} (ok:mq P w H h) (e:H a=some (.tup (ks.map kV))):(tupleKind (cH P w)).is h ks a:=by
 obtain⟨_,aq,r,o,h1,h2,n,h3⟩:=(show bq P w H h a (.tup (ks.map kV)) from ok a _ e);exact⟨o,aq.toArray,n,h1,h2,h3,by simpa using vn r⟩
def zT {kvs:List (List Key×V)} (ok:mq P w H h) (e:Rd H a (.dT kvs)):kvs.length<=sizeLine/\(a==sysModules)=false/\
  ∃xs,KT H kvs xs/\h.DictOfH (tupleKind (cH P w)) a xs:=by
 obtain⟨z,y,xs,r,o,es,ep,h1,h2,h3,h4,h5⟩:=(show bq P w H h a (.dT kvs) from QX ok e);refine⟨z,y,xs,r,o,es,ep,h1,h2,h3,h4,fun x hx=>?_,h5⟩;have all:∀{l:List (List Key×V)}{m:List (List Key×Addr×Value)},KT H l m->∀x∈m,(tupleKind (cH P w)).is h x.1 x.2.1:=by
  intro l m q
  induction q with
  | nil=>intro x hx;exact nomatch hx
  | @cons p q ps qs hq t ih=>
   intro x hx;rcases Az.mp hx with e | hx
   ·subst e;exact Gj ok (by rw [<- hq.1];exact hq.2.1)
   ·exact ih x hx
 exact all r x hx
end
def QJ (H:Hp) (a:Addr) (y:V) (r:Option V):Prop:=
 (∃kvs k,Rd H a (.dK kvs)/\y=kV k/\r=iU kvs k)\/∃kvs k b,Rd H a (.dT kvs)/\y=.ref b/\H b=some (.tup (k.map kV))/\r=iU kvs k
section
variable {X:Cx}{pins:List (Addr×Obj)}{σ:St}{H:Hp}{s:Shared}{a:Addr}{y v:V}{u:Value}{o:Option V}{A:Around}{E:Value->Shared->Prop}
def Inv.big (I:Inv X pins σ H s):sysModules < s.heap.objs.size:=by
 have h:mainGlobals < s.heap.objs.size:=(I.mod.glob.keeps I.bk).lt;exact Nat.lt_trans (by decide) h
def JW {Q:Value->Shared->Prop} (hu:A.units+1 < cLine) (I:Inv X pins σ H s) (g:QJ H a y (some v)) (ry:RelV y u) (h:∀w' s',Inv X pins σ H s'->RelV v w'->Q w' s') :
  wpAny (model X.prog X.w) A (getItem (.ref a) u) Q E s:=by
 rcases g with⟨kvs,k,e,ey,l⟩ | ⟨kvs,k,b,e,ey,eb,l⟩
 ·subst ey;obtain⟨z,hd,vs,rel,dd⟩:=zU I.bP e;obtain⟨w',hw,iI⟩:=yk.some_of (v:=v) (o:=valueAt vs k) (by rw [l];exact rel.val k);exact wpAny_getItem_of (Q9 ry) dd.mapOf hw (h w' _ (I.tok _) iI)
 ·subst ey;cases (show u=Av b from ry);obtain⟨z,hd,xs,rel,dd⟩:=zT I.bP e;obtain⟨w',hw,iI⟩:=yk.some_of (v:=v) (o:=(atKey xs k).map (·.2)) (by rw [l];exact rel.val k);obtain⟨p,hp,xk⟩:=Option.map_eq_some_iff.mp hw;refine wpAny_getItem_heap (tupleKind_room_in1 hu) (Gj I.bP eb) dd hp ?_;rw [xk];exact h w' _ (I.tok _) iI
end
def UG (i:Expr):Prop:=∀ov iv,subscripted i false ov iv=operate [ov,iv] (getItem ov iv)
def N9 {prog:Program}{w:World}{A:Around}{E:Value->Shared->Prop}{s:Shared}{env:Env}{value slice:Expr}{pos:Pos}{T id:String}{Q:Value->Shared->Prop}
  (hl:typeLookup (.type T) "__getitem__"=pure (some (.builtin id))) (hs:UG slice)
  (h:wpAny (model prog w) A (eval value env) (fun o s₁=>wpAny (model prog w) A (eval slice env) (fun i s₂=>s₂.TypeIs o T/\wpAny (model prog w) A (getItem o i) Q E s₂) E s₁) E s) :
  wpAny (model prog w) A (eval (.Subscript value slice pos) env) Q E s:=by
 refine Subscript_ (BQ h (fun o s₁ h₁=>BQ h₁ (fun i s₂ h₂=>?_) fun _ _ x=>x) fun _ _ x=>x);obtain⟨hT,h₂⟩:=h₂;unfold subscriptTail;refine Aa ?_;rw [getitemInPython_of_ne hT.not_modules];refine Aa (Df hT hl ?_);have fin:wpAny (model prog w) A (subscripted slice false o i) (fun r s₃=>wpAny (model prog w) A (letTemporaryGo value o r >>= fun _=>pure r) Q E s₃) E s₂:=by
  rw [hs o i];exact wpAny_operating (BQ h₂ (fun r s₃ h₃=>Aa (wpAny_letTemporaryGo (Ah h₃))) fun _ _ x=>x)
 first
  | exact Ah (Aa fin)
  | exact Aa (Ah (Aa fin))
  | exact Aa fin
def zV {X:Cx}{pins:List (Addr×Obj)}{σ:St}{H:Hp}{s:Shared}{a:Addr}{y:V}{o:Option V} (I:Inv X pins σ H s) (g:QJ H a y o):s.TypeIs (.ref a) "dict":=by
 rcases g with⟨kvs,k,e,_,_⟩ | ⟨kvs,k,b,e,_,_,_⟩
 ·obtain⟨_,_,vs,_,dd⟩:=zU I.bP e;exact dd.typeIs
 ·obtain⟨_,_,xs,_,dd⟩:=zT I.bP e;exact dd.typeIs
def VE (td ty:TE):TE:=fun σ H Q=>td σ H fun x H1=>ty σ H1 fun y H2=>∃a v,x=.ref a/\QJ H2 a y (some v)/\Q v H2
section
variable {X:Cx}{o i:Expr}{pos:Pos}{td ty:TE}
def OJ (hu:X.A.units+1 < cLine) (ho:PE X o td) (hi:PE X i ty) (hs:UG i):PE X (.Subscript o i pos) (VE td ty):=by
 intro pins s σ H Q I h;refine N9 PySem.F.slot_dict_getitem.lookup hs (cj (ho pins s σ H _ I h) fun u s1 ⟨x,H1,I1,rx,q1⟩=>cj (hi pins s1 σ H1 _ I1 q1) fun iv s2 ⟨y,H2,I2,ry,a,v,ex,g,q2⟩=>?_);subst ex;obtain rfl:u=Av a:=rx;exact⟨zV I2 g,JW hu I2 g ry fun w' s3 I3 iI=>⟨v,H2,I3,iI,q2⟩⟩
end
structure M2 (X:Cx) (o:Expr) (m:Str) (apos:Pos) (e f:Expr) (bD:Pos):Prop where
 base:attributeBase o m X.env (eval o X.env)=eval o X.env
 Y3:((backTo bD (starEach [e,f] X.env)).all (fun x=>!x.1)&&(backToKw bD (keywordEach [] X.env)).all (fun x=>x.1.isSome)
  && decide (([e,f]:List Expr).length+([]:List Keyword).length+(if ([]:List Keyword).isEmpty then 0 else 1) < 30))=true
 line:(apos.endLine==bD.line)=true
 trees:backTo bD (starEach [e,f] X.env)=[(false,eval e X.env),(false,eval f X.env)]
def IsD (H:Hp) (a:Addr):Prop:=(∃kvs,Rd H a (.dK kvs))\/∃kvs,Rd H a (.dT kvs)
end L2
namespace Att
open PySem PySem.W PySem.Calls PyProof.Rows
def qL {P:Params}{h:Heap}:∀(ns:List Int) (vs:List Value),WellAll P h vs (ns.map WData.int)->IntsAre vs ns:=by
 intro ns
 induction ns with
 | nil=>
  intro vs w;rw [Cf] at w;cases w;exact .nil
 | cons n ns ih=>
  intro vs w;rw [Au] at w;cases w with
  | cons a b=>
   cases a;exact .cons _ _ (ih _ b)
def IW {l:OpenLaw}{n:Nat} (hn:l.most=some n) {P:Params}{h:Heap}{args:List WData}{vals:List Value}
  (PK:l.row.toRowW.claim.pre args=true) (hwl:WellAll P h vals args) :
  ∃a vs ns,vals=[Av a]/\args=[WData.list (ns.map WData.int)]/\h.get? a=some {cls:=.type "list",data:=.seq vs.toArray}/\IntsAre vs ns/\ns.length<=n:=by
 have hsh:WShape.hasAll [] args [.list .int]=true:=(pre_splitW PK).1;have hc:l.pre.holds [] {args:=args}=true:=(pre_splitW PK).2;obtain⟨d,r,rfl,h1,h2⟩:=hasAllW_cons hsh;obtain rfl:=hasAllW_nil h2;obtain⟨xs,rfl,h3⟩:=hasW_list h1;obtain⟨ns,rfl⟩:=items_int h3;have hlen:ns.length<=n:=by
  unfold OpenLaw.pre at hc;have h4:(WTm.not (.lt (.lit (.int (n:Int))) (.len (.arg 0)))).holds [] {args:=[.list (ns.map .int)]}=true:=by
   have h4:=(holds_andW hc).1;rw [hn] at h4;exact h4
  have h5:=condW_of h4 (w_not (w_lt w_lit (w_len_list (w_arg rfl))));rw [Af] at h5;refine Nat.le_of_not_lt fun q=>?_;have q':(n:Int) < ((ns.length:Nat):Int):=by omega
  first
   | (rw [decide_eq_true q'] at h5;exact absurd h5 (by decide))
   | (simp at h5;omega)
 cases hwl with
 | cons w1 w2=>
  cases w2;cases w1 with
  | list ho aaS=>exact⟨_,_,ns,rfl,rfl,ho,qL ns _ aaS,hlen⟩
def Jf (l:OpenLaw) (args:List WData):l.row.toRowW.claim.post args (.bool true) args=true:=
 postW_of (r:=l.row.toRowW) (X:=(true==true))
  (show WShape.has [] (.bool true) .bool=true by first | rfl | decide | simp [WShape.has,WShape.arms,WShape.armsAll])
  (show (WTm.eq .res (.lit (.bool true))).value [] {args:=args,res:=some (.bool true),after:=args}=some (.bool (true==true)) from w_eq_bool (w_res rfl) w_lit) rfl
def Fj {l:OpenLaw}{n:Nat}{q:Program}{loose:List Str}{XP:(Str->Option Value)->Heap->Prop}{YP:World->Heap->Prop}{d:DefRec}
  (hn:l.most=some n) (Xr:d.params.defaults=[])
  (call:∀(w:World) (s₀ s₁:Shared) (mg mb:Str->Option Value) (fa:Addr) (o:Obj) (pm cd doc:Value) (a:Addr) (vs:List Value) (ns:List Int),
   Ground q loose [] XP w s₀ mg mb s₁.heap->YP w s₁.heap->
   s₁.heap.get? fa=some o->o.data=.func (docDef d.name d.params d.body d.scope pm cd doc)->s₁.heap.CodeRec cd d.name->mg d.name=some (.ref fa)->
   s₁.heap.get? a=some {cls:=.type "list",data:=.seq vs.toArray}->IntsAre vs ns->ns.length<=n->s₁.gens=#[]->
   codeAny (model l.prog w) callerA (.call (.ref fa) ⟨[.ref a],[]⟩) (fun r s'=>r=.ok (.ret (.bool true))/\OldK s₁.heap s'.heap/\s'.os=s₁.os/\AllBare s'.gens) s₁) :
  WalkO q loose XP YP l.row.toRowW d [] (fun f vs=>Fi f vs):=by
 intro w s₀ s₁ mg mb G Y fa o pm cd doc dV kV ho hd ko hD hmg hg args vals as PK adV hrd hwl hlo;obtain rfl:dV=.none:=Dflts.none hD Xr;obtain rfl:kV=.none:=Dflts.noKw hD;obtain⟨a,vs,ns,rfl,rfl,TC,hints,hlen⟩:=IW hn PK hwl;refine enter_call (codeAny_mono (call w s₀ s₁ mg mb fa o pm cd doc a vs ns G Y ho (fd_plain hd) ko hmg TC hints hlen hg) fun r s' hq=>?_);obtain⟨rfl,h2,h3,h4⟩:=hq;exact⟨.inl ⟨.bool true,.bool true,[],rfl,fun _=>rfl,.bool true,Jf l _,fun _=>⟨List.Pairwise.nil,fun _ hm=>(nomatch hm)⟩⟩,h2,h3,h4⟩
end Att
namespace L2
open PySem PySem.Spec PyProof.Rows
theorem oK:∀{vs:List Value}{ns:List Int},IntsAre vs ns->Vals (ns.map V.int) vs
 | _,_,.nil=>.nil
 | _,_,.cons n t h=>.cons ⟨t,rfl⟩ (oK h)
def QD (H:Hp):Prop:=∀b,H b=none\/∃o xs,H b=some (.cR o (.lst xs))
def LW {P:Program}{w:World}{K:Ab}{mg mb:Str->Option Value}{CX:NC}{k:Nat}{fa a:Addr}{fd:FuncData}{x:Str}{sp:Sp}{s₁:Shared}{vs:List Value}{ns:List Int}
  (KX:K.In s₁.heap) (hns:s₁.heap.Ns mainGlobals mg) (hb:s₁.heap.Ns builtinsNs mb) (hbb:∀x:Str,x≠"__name__"->mb x=bootBuiltins x) (aaD:s₁.heap.NoLimit) (hg:s₁.gens=#[])
  (ha:s₁.heap.get? a=some {cls:=.type "list",data:=.seq vs.toArray}) (hi:IntsAre vs ns) (hl:ns.length<=sizeLine) (hr:fD k callerA)
  (F:∀base:Heap,K.In base->base.Ns mainGlobals mg->gH P w K mg base CX k fa fd [x] sp) (Xv:∀(s:Shared) (u:Value),BindsTo s fd ⟨[u],[]⟩ [(x,u)])
  (PJ:∀H:Hp,QD H->cT K H a (ns.map V.int)->sp [.ref a] H (fun v _=>v=.bl true) fun _ _ _=>False)
  (hCX:∀H e s',CX [] H s₁ (fun _ _ _=>False) e s'->False) :
  codeAny (model P w) callerA (.call (.ref fa) ⟨[.ref a],[]⟩) (fun r s'=>r=.ok (.ret (.bool true))/\OldK s₁.heap s'.heap/\s'.os=s₁.os/\AllBare s'.gens) s₁:=by
 have rv:=oK hi;have aac:=hi.length;have core:∀H:Hp,QD H->cT K H a (ns.map V.int)->mq P w H s₁.heap->(∀b,H b≠none->b=a)->(H a≠none->K.lookup a=none)->
   codeAny (model P w) callerA (.call (.ref fa) ⟨[.ref a],[]⟩) (fun r s'=>r=.ok (.ret (.bool true))/\OldK s₁.heap s'.heap/\s'.os=s₁.os/\AllBare s'.gens) s₁:=by
  intro H hO hS bP hA hK;have Il:∀{b:Addr}{o:Obj},s₁.heap.get? b=some o->H b=none->(xn s₁.heap H).get? b=some o:=fun e n=>Mn e n;have WD:∀{b:Addr}{o:Obj}{es:Array DictEntry}{ep:Nat},s₁.heap.get? b=some o->o.data=.dict es ep->H b=none:=fun {b o es ep} e d=>by
   cases q:H b with
   | none=>rfl
   | some u=>
    have e':b=a:=hA b (by rw [q];simp);subst e';rw [ha] at e;cases e;have d':EH vs.toArray _=Data.dict es ep:=d;cases d'
  have YD:∀{b:Addr}{m:Str->Option Value},s₁.heap.Ns b m->(xn s₁.heap H).Ns b m:=fun {b m} ⟨o,es,ep,e,d,r⟩=>⟨o,es,ep,Il e (WD e d),d,r⟩;have hKb:K.In (xn s₁.heap H):=fun b o e=>Il (KX b o e) (by
   cases q:H b with
   | none=>rfl
   | some u=>
    have e':b=a:=hA b (by rw [q];simp);subst e';rw [hK (by rw [q];simp)] at e;cases e)
  have hM:Mod K mg (xn s₁.heap H):=⟨hKb,YD hns,⟨mb,YD hb,hbb⟩,let ⟨mc,h1,h2⟩:=aaD;⟨mc,YD h1,h2⟩⟩;have e0:QH P w K mg (xn s₁.heap H) callerA [] s₁ H:=⟨rfl,hM,fun b o e=>OX e,Nat.le_of_eq (JG _ _),trivial,fun b hb=>absurd (show b∈([]:List Addr) from hb) (by simp),bP,.of_eq hg⟩;refine codeAny_mono ((F _ hKb (YD hns)).run callerA [] s₁ H ⟨[.ref a],[]⟩ [.ref a] [.ref a] _ _ hr e0 (Xv s₁ (.ref a)) (.cons rfl .nil) (PJ H hO hS)) fun r s' h=>?_;cases r with
  | error e=>exact (hCX H e s' h).elim
  | ok fl=>
   cases fl with
   | next=>exact Bg h
   | brk=>exact Bg h
   | cont=>exact Bg h
   | ret u=>
    obtain⟨v,H',os,bare,un,aaz,r',q⟩:=h;have q':v=.bl true:=q;subst q';obtain rfl:u=BX true:=r';refine⟨rfl,OldK.of_keep fun b o e=>?_,os,bare⟩;cases q:H b with
    | none=>exact un.keep b o e q (by intro z;exact absurd (show b∈([]:List Addr) from z) (by simp)) (by simp)
    | some u=>
     rcases hO b with z | ⟨ob,xs,z⟩
     ·rw [q] at z;cases z
     ·have z2:=un.qN b ob _ z;obtain⟨e1,_⟩:=bP b _ z;obtain⟨e2,_⟩:=aaz b _ z2;rw [e] at e1;cases e1;exact e2
 cases hk:K.lookup a with
 | some o=>
  have e:=KX a o hk;rw [ha] at e;cases e;refine core (fun _=>none) (fun _=>.inl rfl) (.inr ⟨_,vs.toArray,_,hk,rfl,rfl,rfl,by rw [Ag,aac];exact hl,by simpa using rv⟩) (fun b u z=>by have z':(none:Option HO)=some u:=z;cases z') (fun b z=>absurd rfl z) fun z=>absurd rfl z
 | none=>
  refine core (fun b=>if b=a then some (.cR {cls:=.type "list",data:=.seq vs.toArray} (.lst (ns.map V.int))) else none) (fun b=>?_) (.inl (.inr ⟨{cls:=.type "list",data:=.seq vs.toArray},if_pos rfl⟩)) (fun b u z=>?_) (fun b z=>?_) fun _=>hk
  ·by_cases hb:b=a
   ·exact .inr ⟨_,_,if_pos hb⟩
   ·exact .inl (if_neg hb)
  ·by_cases hb:b=a
   ·have z':=(if_pos hb).symm.trans z;cases z';subst hb;exact⟨ha,by rw [Af];exact hl,vs,_,rv,ha⟩
   ·have z':=(if_neg hb).symm.trans z;cases z'
  ·by_cases hb:b=a
   ·exact hb
   ·exact absurd (if_neg hb) z
def NW {l:Ep}{n k:Nat}{q:Program}{loose:List Str}{XP:(Str->Option Value)->Heap->Prop}{YP:World->Heap->Prop}{d:DefRec}{K:Params->Ab}{CX:World->NC}{sp:World->Sp}{x:Str}
  (hn:l.most=some n) (hn2:n<=sizeLine) (Xr:d.params.defaults=[]) (hr:fD k callerA)
  (hY:∀(w:World) (h:Heap),YP w h->(K w.params).In h)
  (F:∀(w:World) (mg:Str->Option Value) (fa:Addr) (h:Heap),(K w.params).In h->h.Ns mainGlobals mg->mg d.name=some (.ref fa)->
   ∃fd:FuncData,(∀(s:Shared) (u:Value),BindsTo s fd ⟨[u],[]⟩ [(x,u)])/\
    ∀base:Heap,(K w.params).In base->base.Ns mainGlobals mg->gH l.prog w (K w.params) mg base (CX w) k fa fd [x] (sp w))
  (PJ:∀(w:World) (H:Hp) (a:Addr) (ns:List Int),ns.length<=n->QD H->cT (K w.params) H a (ns.map V.int)->sp w [.ref a] H (fun v _=>v=.bl true) fun _ _ _=>False)
  (hCX:∀(w:World) (H:Hp) (s:Shared) (e:Value) (s':Shared),CX w [] H s (fun _ _ _=>False) e s'->False) :
  PySem.W.WalkO q loose XP YP l.row.toRowW d [] (fun f vs=>Fi f vs):=by
 refine Att.Fj hn Xr fun w s₀ s₁ mg mb fa o pm cd doc a vs ns G Y ho hd ko hmg TC hints hlen hg=>?_;have KX:=hY w _ Y;obtain⟨fd,hb,hF⟩:=F w mg fa _ KX G.T.g hmg;exact LW KX G.T.g G.T.b G.T.builtins G.T.nolimit hg TC hints (Bj hlen hn2) hr hF hb (fun H hO hS=>PJ w H a ns hlen hO hS) fun H e s'=>hCX w H s₁ e s'
def jS (s:Stmt):Arguments:=match s with
 | .FunctionDef _ a _ _ _ _ _ _ _ _=>a
 | _=>{posonlyargs:=[],args:=[],vararg:=none,kwonlyargs:=[],kw_defaults:=[],kwarg:=none,defaults:=[]}
def du (s:Stmt):List Stmt:=match s with
 | .FunctionDef _ _ b _ _ _ _ _ _ _=>b
 | _=>[]
def aj (s:Stmt):Scope:=match s with
 | .FunctionDef _ _ _ _ _ _ sc _ _ _=>sc
 | _=>{kind:=.function,names:=[],isGenerator:=false,isCoroutine:=false}
abbrev qR:NC:=fun _ _ _ _ _ _=>False
abbrev E0:XK:=fun _ _ _=>False
def Wn {X:Cx}:Passes qR X E0:=fun _ _ _ _ _ _ _ h=>h.elim
structure NR (K:Ab) (x qual:Str) (st:Stmt) (f:Addr) (fd:FuncData):Prop where
 ex:∃(oc:Value) (od:Option Addr) (kV doc pm:Value) (an:Option Addr) (fZ ct:Value) (Lw:Array (Option Value)),
  fd=B4 x qual (jS st) (du st) (aj st) .none kV doc pm an fZ ct/\K.lookup f=some ⟨oc,od,.func fd,Lw⟩/\Ds K fZ qual=true
 kp:Dr K (.ref f)=true
section
variable {P:Program}{w:World}{K:Ab}{mg:Str->Option Value}{base:Heap}
def NR.ok {x qual:Str}{st:Stmt}{f:Addr}{fd:FuncData}{N ps:List Str}{k:Nat}{sp:Sp} (F:NR K x qual st f fd) (S:ay N ps (aj st)) (len:∀vs H Q E,sp vs H Q E->vs.length=ps.length)
  (Mq:∀(fZ:Value) (A:Around) (outer:List Env) (s:Shared) (H:Hp) (vs:List V) (Q:VK) (E:XK),fD k (A.deeper (envOfC qual (aj st) s.heap.objs.size f fZ))->sp vs H Q E->
   ∃t,rD (tR qR P w K mg base N qual (aj st) f fZ A outer s H E).O3 (du st) t/\t {nx:=fun _ H'=>Q .aU H',rt:=Q} (start N vs) H):gH P w K mg base qR (k+1) f fd ps sp:=by
 obtain⟨oc,od,kV,doc,pm,an,fZ,ct,Lw,rfl,lk,ko⟩:=F.ex;refine XE lk ko S len fun A outer s H vs Q E hr PJ=>?_;obtain⟨t,h,q⟩:=Mq fZ A outer s H vs Q E hr PJ;exact⟨t,h.O3,q⟩
def NR.binds {x qual:Str}{st:Stmt}{f:Addr}{fd:FuncData}{ps:List Str} (F:NR K x qual st f fd)
  (h:∀(kV doc pm:Value) (an:Option Addr) (fZ ct:Value) (us:List Value),us.length=ps.length->bindArgs (B4 x qual (jS st) (du st) (aj st) .none kV doc pm an fZ ct) ⟨us,[]⟩=pure (ps.zip us)):Binds K fd ps []:=by
 obtain⟨oc,od,kV,doc,pm,an,fZ,ct,Lw,rfl,lk,ko⟩:=F.ex;exact .all (h kV doc pm an fZ ct)
def T4 {x qual:Str}{st:Stmt}{f:Addr}{oc:Value}{od an:Option Addr}{Lw:Array (Option Value)}{kV doc pm fZ ct:Value} (l:K.lookup f=some ⟨oc,od,.func (B4 x qual (jS st) (du st) (aj st) .none kV doc pm an fZ ct),Lw⟩)
  (c:Ds K fZ qual=true) (k:Dr K (.ref f)=true):NR K x qual st f (B4 x qual (jS st) (du st) (aj st) .none kV doc pm an fZ ct):=⟨⟨oc,od,kV,doc,pm,an,fZ,ct,Lw,rfl,l,c⟩,k⟩
end
def IT {n:Nat} (h:n<=1000):n < sizeLine:=Nat.lt_of_le_of_lt h (by decide)
def zC {A B:Prop} (h:B):if false=true then A else B:=by
 rw [if_neg AH];exact h
def zB {A B:Prop} (h:A):if true=true then A else B:=by
 rw [if_pos rfl];exact h
def lG (H H':Hp):Prop:=∀b o,H b=some o->H' b=some o
def lG.refl (H:Hp):lG H H:=fun _ _ h=>h
def YG {h:Heap}{b:Nat}{o:Obj} (e:h.get? b=some o):b < h.objs.size:=Ao e
def neN {a b:Nat} (h:a≠b):a≠b:=h
def ltN {a b:Nat} (h:a < b):a < b:=h
def RA {h:Heap}{c:Nat}{v:Option Value} (q:h.IsCell c v):c < h.objs.size:=q.lt
structure aF (Xs:Scope) (N:List Str) (sc:Scope) (N':List Str) (ix:List (Option Nat)):Prop where
 kind:sc.kind=.function
 nc:∀y∈sc.names,y.2≠.cell
 loc:∀y∈sc.names,y.2=.local->sc.names.lookup y.1=some .local
 fr:∀y∈sc.names,y.2=.free->(Xs.names.lookup y.1=some .cell\/Xs.names.lookup y.1=some .free)
 nd:N'.Nodup
 len:ix.length=N'.length
 map:((ix.zip N').all fun p=>match p.1 with | none=>true | some j=>decide (N[j]?=some p.2)&&decide (sc.names.lookup p.2=some .free))=true
def aF.at {Xs:Scope}{N:List Str}{sc:Scope}{N':List Str}{ix:List (Option Nat)} (S:aF Xs N sc N' ix) {i j:Nat}{x:Str} (h1:ix[i]?=some (some j)) (h2:N'[i]?=some x) :
  N[j]?=some x/\sc.names.lookup x=some .free:=by
 have hm:((some j,x):Option Nat×Str)∈ix.zip N':=by
  refine Bn (i:=i) ?_;rw [List.getElem?_zip_eq_some];exact⟨h1,h2⟩
 have q:=Eb.mp S.map _ hm;simp only [AD,decide_eq_true_eq] at q;exact q
def oh (ix:List (Option Nat)) (σ:St):St:=ix.map fun o=>match o with | some j=>(σ[j]?).getD none | none=>none
def gq (X:Cx) (sc:Scope) (N':List Str) (cl:List (Str×Addr)) (C:Addr) (s2:Shared) (H2:Hp) (fp:List Addr):Cx where
 prog:=X.prog
 w:=X.w
 K:=X.K
 mg:=X.mg
 base:=X.base
 A:=X.A
 N:=N'
 s₀:=s2
 H₀:=H2
 env:=compEnvC sc cl C X.env
 outer:=X.stack
 stack:=X.stack
 ex:=fp
 calm:=X.calm
 fn:=fun _=>false
 pn:=[]
 xe:=fun _ _=>False
theorem m5 {env:Env}:∀(names:List (Str×NameKind)) (cs:List (Str×Addr)),(∀y∈names,y.2=.free->∃c,env.cells.lookup y.1=some c)->
  ∃cl,(forIn names cs fun (x:Str×NameKind) (c:List (Str×Addr))=>(match x with | (name,kind)=>do
    let c <- if (kind==A6)=true then do let a <- cellOf env name;pure ((name,a)::c) else pure c
    pure (B3 c):Sem (ForInStep (List (Str×Addr)))))=pure cl/\(∀x c,cl.lookup x=some c->cs.lookup x=some c\/(env.cells.lookup x=some c/\(x,A6)∈names))/\(∀x,((x,A6)∈names\/(∃c,cs.lookup x=some c))->∃c,cl.lookup x=some c)
 | [],cs,_=>⟨cs,rfl,fun _ _ h=>.inl h,fun x h=>h.elim (fun z=>nomatch z) fun z=>z⟩
 | (n,k)::r,cs,h=>by
  by_cases hk:k=.free
  ·subst hk;obtain⟨c,hc⟩:=h (n,.free) Bo rfl;obtain⟨cl,e,h1,h2⟩:=m5 r ((n,c)::cs) fun y hy=>h y (AU _ hy);refine⟨cl,?_,fun x d hd=>?_,fun x hx=>?_⟩
   ·rw [BE,<- e];simp only [beq_self_eq_true,if_true,cellOf,hc,pure_bind]
   ·rcases h1 x d hd with z | ⟨z1,z2⟩
    ·rw [Bc] at z;by_cases hx:(x==n)=true
     ·rw [hx] at z;have yt:x=n:=eq_of_beq hx;subst yt;cases z;exact .inr ⟨hc,Bo⟩
     ·have yt:(x==n)=false:=by simpa using hx
      rw [yt] at z;exact .inl z
    ·exact .inr ⟨z1,AU _ z2⟩
   ·refine h2 x ?_;rcases hx with hx | ⟨d,hd⟩
    ·rcases Az.mp hx with z | z
     ·injection z with z1 _;subst z1;exact .inr ⟨c,by rw [Bc];simp⟩
     ·exact .inl z
    ·by_cases hx:(x==n)=true
     ·exact .inr ⟨c,by rw [Bc,hx]⟩
     ·have yt:(x==n)=false:=by simpa using hx
      exact .inr ⟨d,by rw [Bc,yt];exact hd⟩
  ·obtain⟨cl,e,h1,h2⟩:=m5 r cs fun y hy=>h y (AU _ hy);refine⟨cl,?_,fun x d hd=>?_,fun x hx=>?_⟩
   ·have hb:(k==A6)=false:=by simpa using hk
    rw [BE,<- e];simp only [hb,An,if_false,pure_bind]
   ·rcases h1 x d hd with z | ⟨z1,z2⟩
    ·exact .inl z
    ·exact .inr ⟨z1,AU _ z2⟩
   ·refine h2 x ?_;rcases hx with hx | hx
    ·rcases Az.mp hx with z | z
     ·injection z with _ z2;exact absurd z2.symm hk
     ·exact .inl z
    ·exact .inr hx
def ml {sc:Scope}{env:Env} (h:∀y∈sc.names,y.2=.free->∃c,env.cells.lookup y.1=some c) :
  ∃cl,closureFor sc env=pure cl/\(∀x c,cl.lookup x=some c->env.cells.lookup x=some c/\(x,A6)∈sc.names)/\(∀x,(x,A6)∈sc.names->∃c,cl.lookup x=some c):=by
 obtain⟨cl,e,h1,h2⟩:=m5 (env:=env) sc.names [] h;refine⟨cl,?_,fun x c hc=>(h1 x c hc).resolve_left (fun z=>nomatch z),fun x hx=>h2 x (.inl hx)⟩;unfold closureFor;have e':(forIn sc.names ([]:List (Str×Addr)) fun x r=>(match x with | (name,kind)=>if (kind==A6)=true then do let a <- cellOf env name;pure (B3 ((name,a)::r)) else pure (B3 r):Sem (ForInStep (List (Str×Addr)))))=pure cl:=by
  rw [<- e]
  first
   | rfl
   | (
     congr 1;funext x r;obtain⟨n,k⟩:=x;by_cases hk:(k==A6)=true
     ·simp only [hk,if_true,pure_bind]
     ·simp only [hk,if_false,pure_bind,An])
   | simp only [pure_bind]
 simpa using e'
theorem gY {env:Env}:∀{names:List (Str×NameKind)}{x:Str},
  (names.map fun (n,k)=>if (k==A6&&env.scope.kind==.function&&env.kindOf n==some .cell) then (n,EZ) else (n,k)).lookup x =
   (names.lookup x).map fun k=>if (k==A6&&env.scope.kind==.function&&env.kindOf x==some .cell) then EZ else k
 | [],_=>rfl
 | (n,k)::r,x=>by
  have ih:=@gY env r x;show List.lookup x ((if (k==A6&&env.scope.kind==.function&&env.kindOf n==some .cell)=true then (n,EZ) else (n,k))::_)=_;cases hx:x==n with
  | true=>
   have e:x=n:=eq_of_beq hx;subst e;by_cases hc:(k==A6&&env.scope.kind==.function&&env.kindOf x==some .cell)=true
   ·rw [if_pos hc,Bc,Bc,hx];simp only [Cg,hc,if_true]
   ·rw [if_neg hc,Bc,Bc,hx];simp only [Cg,hc,if_false];simp
  | false=>
   by_cases hc:(k==A6&&env.scope.kind==.function&&env.kindOf n==some .cell)=true
   ·rw [if_pos hc,Bc,Bc,hx];exact ih
   ·rw [if_neg hc,Bc,Bc,hx];exact ih
def Vf (X:Cx) (ifs:List Expr) (t:TT):Prop:=
 ∀(pins:List (Addr×Obj)) (s:Shared) (σ:St) (H:Hp) (Q:Bool->Hp->Prop),Inv X pins σ H s->t σ H Q->
  wpAny (model X.prog X.w) X.A (forIn ifs true fun c r=>if r=true then do let ok <- isTrue c X.env (eval c X.env);pure (B3 ok) else pure (B3 r)) (TP X pins σ Q) X.xe s
def ZR:TT:=fun _ H Q=>Q true H
def OH {X:Cx}:Vf X [] ZR:=fun pins s σ H Q I h=>by
 rw [DC];exact Ah ⟨H,I,h⟩
def OG {X:Cx}{c:Expr}{t:TT} (hc:PT X c t):Vf X [c] t:=fun pins s σ H Q I h=>by
 rw [BE];simp only [if_true,bind_assoc,pure_bind];refine Aa (cj (hc pins s σ H Q I h) fun b s1 q=>?_);rw [DC];exact Ah q
def ZN (ix:List (Option Nat)) (wi:TI) (g:TG) (tf:TT) (te:TE):TE:=fun σ H Q=>wi σ H fun J H1=>∀D,H1 D=none->∃W:Nat->Nat->St->List V->Hp->Prop,
 (∃m,W 0 m (oh ix σ) [] (upd H1 D (.lst [])))/\∀i m σ' ys H,W i m σ' ys H->H D=some (.lst ys)/\
  ((J.stop i H/\Q (.ref D) H)\/(J.go i H/\∀x H',J.QN i H x H'->g x σ' H' fun σ2 H2=>tf σ2 H2 fun b H3=>
   if b=true then te σ2 H3 fun y H4=>H4 D=some (.lst ys)/\ys.length+1<=sizeLine/\∃m',m' < m/\W (i+1) m' σ2 (ys++[y]) (upd H4 D (.lst (ys++[y]))) else ∃m',m' < m/\W (i+1) m' σ2 ys H3))
def lX {prog:Program}{w:World}{A:Around}{R:Result->Shared->Prop}{s:Shared}{elt target iter:Expr}{ifs:List Expr}{scope:Scope}{pos:Pos}{it acc:Value}{env:Env} (I:Nat->Shared->Prop)
  (turn:∀n s,I n s->wpAny (model prog w) A (pyNext it) (fun r s₁=>match r with
   | none=>R (.ok .next) s₁
   | some v=>wpAny (model prog w) A (letOwnedTupleGo target it v) (fun _ QT=>wpAny (model prog w) A (assign target env v) (fun _ s₂=>
     wpAny (model prog w) A (forIn ifs true fun c r=>if r=true then do let ok <- isTrue c env (eval c env);pure (B3 ok) else pure (B3 r)) (fun ok s₃=>
      if ok=true then wpAny (model prog w) A (eval elt env) (fun x s₄=>
       wpAny (model prog w) A (call (.builtin "list.append") [acc,x]) (fun _ s₅=>∃m,m < n/\I m s₅) (fun _ _=>False) s₄) (fun _ _=>False) s₃
      else ∃m,m < n/\I m s₃) (fun _ _=>False) s₂) (fun _ _=>False) QT) (fun _ _=>False) s₁) (fun _ _=>False) s)
  (n:Nat) (h:I n s) :
  codeAny (model prog w) A (.compLoop (.ListComp elt [⟨target,iter,ifs,0⟩] scope pos) 0 it acc env) R s:=by
 refine codeAny_loop rfl I (fun n s hI=>?_) n h;show wpAny _ A ((compTurn (.ListComp elt [⟨target,iter,ifs,0⟩] scope pos) 0 it acc env).onRaise (fun x=>do noteFrame x env;theTreesLotGoes x)) _ _ s;refine wpAny_noted ?_;rw [compTurn_list];refine Aa (DV (Aa (BQ (turn n s hI) (fun r s₁ h₁=>?_) fun _ _ h'=>h'.elim)));cases r with
 | none=>exact Ah h₁
 | some v=>
  refine Aa (BQ h₁ (fun _ QT W4=>?_) fun _ _ h'=>h'.elim);refine Aa (BQ W4 (fun _ s₂ h₂=>Aa (BQ h₂ (fun ok s₃ h₃=>?_) fun _ _ h'=>h'.elim)) fun _ _ h'=>h'.elim);cases ok with
  | false=>exact Ah ⟨rfl,h₃⟩
  | true=>
   have W3:wpAny (model prog w) A (eval elt env) (fun x s₄=>
       wpAny (model prog w) A (call (.builtin "list.append") [acc,x]) (fun _ s₅=>∃m,m < n/\I m s₅) (fun _ _=>False) s₄) (fun _ _=>False) s₃:=h₃
   exact Aa (Aa (BQ W3 (fun x s₄ h₄=>Aa (BQ h₄ (fun _ s₅ h₅=>Ah (Ah ⟨rfl,h₅⟩)) fun _ _ h'=>h'.elim)) fun _ _ h'=>h'.elim))
section
variable {X:Cx}{elt tg iter:Expr}{ifs:List Expr}{sc:Scope}{pos:Pos}{N':List Str}{ix:List (Option Nat)}{wi:TI}{g:TG}{tf:TT}{te:TE}
structure Yn (X:Cx) (pins:List (Addr×Obj)) (H:Hp) (C:Addr):Prop where
 hn:H C=none
 hL:C≠X.env.locals
 ab:X.s₀.heap.objs.size<=C
 cl:∀x c,X.env.cells.lookup x=some c->c≠C
 pn:∀p∈X.pn++pins,p.1≠C
def HJ (hc:X.calm=true) (S:aF X.env.scope X.N sc N' ix)
  (hg:∀cl C s2 H2 fp,PG (gq X sc N' cl C s2 H2 fp) tg g) (hf:∀cl C s2 H2 fp,Vf (gq X sc N' cl C s2 H2 fp) ifs tf) (he:∀cl C s2 H2 fp,PE (gq X sc N' cl C s2 H2 fp) elt te)
  {pins:List (Addr×Obj)}{σ:St}{H2:Hp}{s2:Shared}{cl:List (Str×Addr)} (sZ:∀x c,cl.lookup x=some c->X.env.cells.lookup x=some c/\(x,A6)∈sc.names) (JH:∀x,(x,A6)∈sc.names->∃c,cl.lookup x=some c)
  {it:Addr}{fp:List Addr}{tn:Nat->Heap->Prop}{J:It}{Q:VK} (I2:Inv X pins σ H2 s2) (T:Turn X.prog X.w X.K tg J fp it tn) (IM:tn 0 s2.heap) (f2:∀b∈fp,uW X pins H2 b)
  (hW:∀D,H2 D=none->∃W:Nat->Nat->St->List V->Hp->Prop,
   (∃m,W 0 m (oh ix σ) [] (upd H2 D (.lst [])))/\∀i m σ' ys H,W i m σ' ys H->H D=some (.lst ys)/\
    ((J.stop i H/\Q (.ref D) H)\/(J.go i H/\∀x H',J.QN i H x H'->g x σ' H' fun σ2 H2=>tf σ2 H2 fun b H3=>
     if b=true then te σ2 H3 fun y H4=>H4 D=some (.lst ys)/\ys.length+1<=sizeLine/\∃m',m' < m/\W (i+1) m' σ2 (ys++[y]) (upd H4 D (.lst (ys++[y]))) else ∃m',m' < m/\W (i+1) m' σ2 ys H3)))
  {RR:Value->Addr->Result->Shared->Prop}{E:Value->Shared->Prop}
  (hRR:∀D C m s' H',Inv X pins σ H' s'->Q (.ref D) H'->s'.heap.Ns C m->Yn X pins H' C->RR (.ref D) C (.ok .next) s') :
  wpAny (model X.prog X.w) X.A (newList []) (fun acc s₃=>wpAny (model X.prog X.w) X.A (newFunctionEnv sc X.env.globals cl [] X.env.qual none .none (some X.env)) (fun X8 s₄=>
   codeAny (model X.prog X.w) X.A (.compStart (.ListComp elt [⟨tg,iter,ifs,0⟩] sc pos) 0 (.ref it) acc {X8 with scope:=relabel sc X.env}) (RR acc X8.locals) s₄) E s₃) E s2:=by
 refine Bd (wpAny_newFunctionEnv S.nc (by intro y hy;simp at hy) (fun h₁ xl sV=>?_) S.kind);dsimp only at xl sV ⊢;generalize hH2:s2.heap.push {cls:=.type "list",dict:=none,data:=.seq ([]:List Value).toArray}=G2 at xl sV ⊢;have hC:G2.objs.size=s2.heap.objs.size+1:=by rw [<- hH2,Cn]
 obtain⟨D,hD⟩:∃D:Nat,s2.heap.objs.size=D:=⟨_,rfl⟩;obtain⟨C,hCC⟩:∃C:Nat,G2.objs.size=C:=⟨_,rfl⟩;simp only [hD,hCC] at xl sV hC ⊢;have hDC:D≠C:=by omega
 have old:∀b o,s2.heap.get? b=some o->h₁.get? b=some o:=fun b o e=>by
  have hb:=YG e;exact sV.extBut b o (neN (by omega)) (Al _ (hH2▸Al _ e))
 have Xw:h₁.get? D=some {cls:=.type "list",data:=.seq ([]:List Value).toArray}:=by
  refine sV.extBut D _ hDC (Al _ ?_);rw [<- hH2,<- hD];exact Ap _ rfl
 have hD2:H2 D=none:=I2.bP.fresh (by omega);have hC2:H2 C=none:=I2.bP.fresh (by omega);obtain⟨W,⟨m0,w0⟩,turn⟩:=hW D hD2;have Rz:∀x c,cl.lookup x=some c->∃v,s2.heap.IsCell c v:=fun x c e=>I2.cell x c (sZ x c e).1;have abf:∀x c,cl.lookup x=some c->c < D:=fun x c e=>by
  obtain⟨v,q⟩:=Rz x c e;have:=RA q;exact ltN (by omega)
 have fpD:∀b∈fp,b < D:=fun b hb=>by
  obtain⟨o,e,_⟩:=T.obj 0 _ IM b hb;have:=YG e;exact ltN (by omega)
 have Yok:(gq X sc N' cl C s2 H2 fp).Ok:=by
  refine⟨I2.ok.mod,S.kind,I2.ok.glob,I2.ok.blt,?_,?_,?_,?_,I2.ok.hd,I2.ok.frames,.inl rfl,?_,I2.bs,?_,?_,?_,I2.stack,I2.Hk⟩
  ·show s2.heap.objs.size<=C;omega
  ·intro x y c e1 e2;exact I2.ok.inj x y c (sZ x c e1).1 (sZ y c e2).1
  ·intro x hx;have yt:(relabel sc X.env).names.lookup x=some .cell\/(relabel sc X.env).names.lookup x=some .free:=hx;unfold relabel at yt;rw [gY] at yt;cases q:sc.names.lookup x with
   | none=>rw [q] at yt;simp at yt
   | some k=>
    have hm:=BC q;by_cases hk:k=.free
    ·subst hk;exact JH x hm
    ·have YW:k≠.cell:=S.nc _ hm;rw [q] at yt;have hb:(k==A6)=false:=by simpa using hk
     simp only [Cg,hb,EO,An,if_false] at yt;rcases yt with z | z
     ·exact absurd (Option.some.inj z) YW
     ·exact absurd (Option.some.inj z) hk
  ·intro x c Xp;exact absurd Xp AH
  ·intro b hb;refine⟨?_,fun x c e z=>(f2 b hb).2.2.2.2.1 x c (sZ x c e).1 z⟩;show b≠C;have:=ltN (fpD b hb);exact neN (by omega)
  ·show X.base.objs.size<=s2.heap.objs.size;exact Bj I2.ok.RB I2.sz
  ·intro b o e hb;rcases (f2 b hb).2.2.2.1 with z | z
   ·exact I2.ok.LG b o e z
   ·have h1:=YG (h:=X.base) e;have h2:=I2.ok.RB;omega
  ·intro b hb z;rcases Az.mp (I2.FQ b z) with q | q
   ·exact (f2 b hb).2.1 q
   ·exact (f2 b hb).2.2.1 q
 have un0:Un (Kl X.stack) fp H2 (upd H2 D (.lst [])) s2.heap h₁:=Un.laid old (by omega) hD2;have aay:mq X.prog X.w (upd H2 D (.lst [])) h₁:=I2.bP.laid old (by omega) ⟨Bm _,[],0,.nil,Xw⟩;have IY:∀tk,Inv (gq X sc N' cl C s2 H2 fp) [] (oh ix σ) (upd H2 D (.lst [])) {s2 with heap:=h₁,toks:=tk}:=fun tk=>by
  refine⟨Yok,rfl,I2.bare,un0,⟨_,xl,fun i x v e1 e2 e3=>?_⟩,fun x c e=>?_,?_,fun x c e=>?_,fun p hp=>absurd (show p∈([]:List (Addr×Obj)) from hp) (by simp),aay,?_⟩
  ·have pJ:N'[i]?=some x:=e1;unfold oh at e2;rw [Ai] at e2;cases q:ix[i]? with
   | none=>rw [q] at e2;cases e2
   | some o=>
    cases o with
    | none=>rw [q] at e2;cases e2
    | some j=>
     rw [q] at e2;have Um:(σ[j]?).getD none=some v:=Option.some.inj e2;have e4:σ[j]?=some (some v):=by
      cases z:σ[j]? with
      | none=>rw [z] at Um;cases Um
      | some y=>rw [z] at Um;exact congrArg some Um
     obtain⟨a1,a2⟩:=S.at q pJ;have Xg:=BC a2;have hk:=S.fr _ Xg rfl;obtain⟨m,_,hl⟩:=I2.loc;obtain⟨u,r,l⟩:=hl j x v a1 e4 (.inr hk);refine⟨u,r,.inr ⟨?_,?_⟩⟩
     ·show (relabel sc X.env).names.lookup x=some .cell\/(relabel sc X.env).names.lookup x=some .free;unfold relabel;rw [gY,a2];by_cases hb:(X.env.scope.kind==.function&&X.env.kindOf x==some .cell)=true
      ·left
       simp only [Cg,beq_self_eq_true,E1,hb,if_true]
      ·right
       simp only [Cg,beq_self_eq_true,E1,hb,if_false,An]
     ·obtain⟨c,hcx⟩:=JH x Xg;have hcX:=(sZ x c hcx).1;refine⟨c,hcx,?_⟩;rcases l with⟨k,_⟩ | ⟨k,c',e',z⟩
      ·have k':X.env.scope.names.lookup x=some .local:=k;rcases hk with y | y <;> rw [k'] at y <;> cases y
      ·rw [hcX] at e';cases e';obtain⟨o,ho,hd⟩:=z;exact⟨o,old _ _ ho,hd⟩
  ·obtain⟨v,o,ho,hd⟩:=Rz x c e;exact⟨v,o,old _ _ ho,hd⟩
  ·show upd H2 D (.lst []) C=none;rw [av (Bx hDC)];exact hC2
  ·have mJ:=ltN (abf x c e);show upd H2 D (.lst []) c=none;rw [av (neN (by omega))];exact I2.km x c (sZ x c e).1
  ·unfold oh;rw [Af];exact S.len
 have fpY:∀{yZ:List (Addr×Obj)}{H':Hp},(∀b∈fp,H' b=none)->(∀p∈yZ,p.1∉fp)->∀b∈fp,uW (gq X sc N' cl C s2 H2 fp) yZ H' b:=fun hn hp b hb=>by
  refine⟨hn b hb,?_,?_,.inl hb,fun x c e z=>(f2 b hb).2.2.2.2.1 x c (sZ x c e).1 z,fun p hpp z=>?_⟩
  ·show b≠C;have:=ltN (fpD b hb);exact neN (by omega)
  ·exact Yok.MF b hb
  ·have Xc:p∈([]:List (Addr×Obj))++_:=hpp;rw [Di] at Xc;exact hp p Xc (z▸hb)
 have loop:∀s₃:Shared,s₃={s2 with heap:=h₁,toks:=s2.toks+([]:List (Str×Value)).length}->
   codeAny (model X.prog X.w) X.A (.compLoop (.ListComp elt [⟨tg,iter,ifs,0⟩] sc pos) 0 (.ref it) (.ref D) (compEnvC sc cl C X.env)) (RR (.ref D) C) s₃:=by
  rintro s₃ rfl;refine lX (fun n s'=>∃i σ' ys H',Inv (gq X sc N' cl C s2 H2 fp) [] σ' H' s'/\tn i s'.heap/\(∀b∈fp,H' b=none)/\W i n σ' ys H') ?_ m0
   ⟨0,_,[],_,IY _,T.keep _ _ _ IM (fun b _ o e=>old b o e),fun b hb=>by rw [av (AJ (fpD b hb))];exact (f2 b hb).1,w0⟩
  rintro n s3 ⟨i,σ3,ys,H3,I3,VO,XA,w3⟩;obtain⟨hDl,w3⟩:=turn i n σ3 ys H3 w3;rcases w3 with⟨stop,qn⟩ | ⟨go,step⟩
  ·refine cj (T.done (gq X sc N' cl C s2 H2 fp) rfl rfl rfl hc i [] s3 σ3 H3 _ I3 (fpY XA (by simp)) VO stop) fun r s4 ⟨hr,I4⟩=>?_;subst hr;obtain⟨m,hn,_⟩:=I4.loc;refine hRR D C m s4 H3 (I2.X9 (ch:=fp) I4.os I4.base I4.bP I4.bare fun b hb=>?_) qn hn ?_
   ·obtain⟨a0,a1,a2,a3,a4,a5⟩:=f2 b hb;exact⟨a3,a1,a4,a5⟩
   ·refine⟨I4.free,?_,?_,fun x c e z=>?_,fun p hp z=>?_⟩
    ·have:=ltN I2.lt;exact neN (by omega)
    ·have:=I2.sz;omega
    ·obtain⟨v,q⟩:=I2.cell x c e;have:=RA q;exact neN (a:=c) (b:=C) (by omega) z
    ·have:=YG (I2.pin p hp).1;exact neN (a:=p.1) (b:=C) (by omega) z
  ·refine cj (T.item (gq X sc N' cl C s2 H2 fp) rfl rfl rfl hc i [] s3 σ3 H3 (fun _ _=>False) I3 (fpY XA (by simp)) VO go) fun r s4 ⟨u,hr,h4⟩=>?_;subst hr;refine cj h4 fun _ s5 ⟨x,H5,I5,r5,y5,R0,fr5⟩=>?_;have I5':=I5.pinned (fpY fr5 (by simp)) (T.obj _ _ R0);refine cj (hg _ _ _ _ _ _ s5 σ3 H5 x u _ I5' r5 (step x H5 y5)) fun _ s6 ⟨σ6,H6,I6,q6⟩=>?_;refine cj (hf _ _ _ _ _ _ s6 σ6 H6 _ I6 q6) fun b s7 ⟨H7,I7,q7⟩=>?_;have L4:∀{s8:Shared}{σ8:St}{H8:Hp},Inv (gq X sc N' cl C s2 H2 fp) ([]++oW fp s5.heap) σ8 H8 s8->tn (i+1) s8.heap/\∀b∈fp,H8 b=none:=fun {s8 σ8 H8} I8=>by
    refine⟨T.keep _ _ _ R0 fun b hb o e=>(I8.pin (b,o) (AV _ (AV _ (jB hb e)))).1,fun b hb=>?_⟩;obtain⟨o,e,d⟩:=T.obj _ _ R0 b hb;exact (I8.pin (b,o) (AV _ (AV _ (jB hb e)))).2.1
   cases b with
   | false=>
    have q7':∃m',m' < n/\W (i+1) m' σ6 ys H7:=q7;obtain⟨m',hm,w7⟩:=q7';rw [if_neg AH];obtain⟨t7,fr7⟩:=L4 I7;exact⟨m',hm,i+1,σ6,ys,H7,I7.kE,t7,fr7,w7⟩
   | true=>
    rw [if_pos rfl];rw [if_pos rfl] at q7;refine cj (he _ _ _ _ _ _ s7 σ6 H7 _ I7 q7) fun yv s8 ⟨y,H8,I8,r8,hD8,hz8,m',hm,w8⟩=>?_;obtain⟨z,aq,k,rv,hl8,e8⟩:=I8.o5 hD8;obtain⟨t8,fr8⟩:=L4 I8;refine wpAny_list_append_plain (s:=s8) (items:=aq.toArray) (hsz:=by rw [Ag];omega) ⟨_,e8⟩ fun h9 hl9 hs9=>?_;obtain⟨k9,e9⟩:=hl9;have hv9:Vals (ys++[y]) (aq++[yv]):=Vals.append rv (.cons r8 .nil);have I9:Inv (gq X sc N' cl C s2 H2 fp) ([]++oW fp s5.heap) σ6 (upd H8 D (.lst (ys++[y]))) {s8 with heap:=h9,toks:=s8.toks}:=by
     refine I8.write (x:=D) (e:=D) (by rw [hD8];exact trivial) (.inl rfl) (fun b u hb hu=>(hs9.2 b hb).trans hu) ⟨_,e9⟩ ?_;refine⟨by rw [Ad,EB];exact hz8,aq++[yv],k9,hv9,?_⟩;rw [e9];simp
    obtain⟨t9,fr9⟩:=L4 I9;exact⟨m',hm,i+1,σ6,_,_,I9.kE,t9,fr9,w8⟩
 exact codeAny_compStart_list (loop _ rfl) (T.self _ 0 _ _ _ (T.keep _ _ _ IM fun b _ o e=>old b o e) (loop _ rfl))
def Wk (hc:X.calm=true) (S:aF X.env.scope X.N sc N' ix) (hi:PI X tg iter wi)
  (hg:∀cl C s2 H2 fp,PG (gq X sc N' cl C s2 H2 fp) tg g) (hf:∀cl C s2 H2 fp,Vf (gq X sc N' cl C s2 H2 fp) ifs tf) (he:∀cl C s2 H2 fp,PE (gq X sc N' cl C s2 H2 fp) elt te)
  (hs:∀x,foldedSetIterable iter X.env x=pure x:=by intro _;rfl):PE X (.ListComp elt [⟨tg,iter,ifs,0⟩] sc pos) (ZN ix wi g tf te):=by
 intro pins s σ H Q I h;rw [eval_ListComp];have GA:∀y∈sc.names,y.2=.free->∃c,X.env.cells.lookup y.1=some c:=fun y hy hk=>I.ok.has y.1 (S.fr y hy hk);obtain⟨cl,Mp,sZ,JH⟩:=ml GA;refine DY (use:=none) rfl hs Mp S.kind S.loc (cj (hi pins s σ H _ I h) fun v s1 h1=>cj h1 fun YL s2 h2=>?_);obtain⟨it,fp,tn,J,H2,rfl,I2,T,IM,f2,hW⟩:=h2;refine HJ (RR:=fun acc C=>compPost (model X.prog X.w) X.A X.xe none (EP X pins σ Q) acc C) hc S hg hf he sZ JH I2 T IM f2 hW fun D C m s' H' I' q hn F=>?_;refine⟨m,hn,fun h' hs'=>⟨.ref D,H',?_,rfl,q⟩⟩;exact I'.turned (it:=C) (t':=s'.toks) (fun b o hb e=>(hs'.2 b hb).trans e) F.hn F.hL (.inr F.ab) F.cl F.pn
def yW {i:Nat}{x:Str}{px kn:Pos} (hc:X.calm=true) (hN:X.N.Nodup) (Gz:X.N[i]?=some x) (hx:X.env.scope.names.lookup x=some .local) (S:aF X.env.scope X.N sc N' ix) (hi:PI X tg iter wi)
  (hg:∀cl C s2 H2 fp,PG (gq X sc N' cl C s2 H2 fp) tg g) (hf:∀cl C s2 H2 fp,Vf (gq X sc N' cl C s2 H2 fp) ifs tf) (he:∀cl C s2 H2 fp,PE (gq X sc N' cl C s2 H2 fp) elt te)
  (sU:swapsWith (.ListComp elt [⟨tg,iter,ifs,0⟩] sc pos) (some (.Name x px)) kn.line X.env=pure true:=by rfl)
  (hs:∀x,foldedSetIterable iter X.env x=pure x:=by intro _;rfl):PS X (.Assign [.Name x px] (.ListComp elt [⟨tg,iter,ifs,0⟩] sc pos) kn) (RY (ZN ix wi g tf te) (cM i)):=by
 intro pins s σ H D0 I h;rw [exec_Assign_Name_used _ _ _ _ sU];refine Aa (DV (Aa ?_));show wpAny _ X.A (do let _ <- comprehension (.ListComp elt [⟨tg,iter,ifs,0⟩] sc pos) sc X.env _ (newList []) false (eval iter X.env) (some (assign (.Name x px) X.env))) _ _ s;have GA:∀y∈sc.names,y.2=.free->∃c,X.env.cells.lookup y.1=some c:=fun y hy hk=>I.ok.has y.1 (S.fr y hy hk);obtain⟨cl,Mp,sZ,JH⟩:=ml GA;refine Aa (BQ (DY (use:=some (assign (.Name x px) X.env)) (Q:=fun _ s'=>SP X pins D0 .next s') rfl hs Mp S.kind S.loc (cj (hi pins s σ H _ I h) fun v s1 h1=>cj h1 fun YL s2 h2=>?_)) (fun _ s' hq=>Ah (Ah hq)) fun _ _ e=>e);obtain⟨it,fp,tn,J,H2,rfl,I2,T,IM,f2,hW⟩:=h2;refine HJ (RR:=fun acc C=>compPost (model X.prog X.w) X.A X.xe (some (assign (.Name x px) X.env)) (fun _ s'=>SP X pins D0 .next s') acc C) (Q:=fun x H1=>cM i x σ H1 D0.nx) hc S hg hf he sZ JH I2 T IM f2 hW fun D C m s' H' I' q hn F=>?_;show wpAny _ X.A (assign (.Name x px) X.env (.ref D)) _ _ _;refine wpAny_assign_Name (u0 (v:=.ref D) I' hN Gz (.inl hx) rfl (fun VW I'' hsb=>?_) (.inr hx));obtain⟨a,hsb,ha⟩:=hsb;have haC:C≠a:=by
  rcases ha with z | z
  ·rw [z];exact F.hL
  ·exact Bx (F.cl _ _ z)
 refine⟨m,hn.sameBut hsb haC,fun h' hs'=>⟨_,H',?_,q⟩⟩;exact I''.turned (it:=C) (t':=VW.toks) (fun b o hb e=>(hs'.2 b hb).trans e) F.hn F.hL (.inr F.ab) F.cl F.pn
end
section
variable {X:Cx}{b e:Expr}
def qb:bS X (.builtin "isinstance") (fun xs H Q=>∃x c t b,xs=[x,.ty c]/\lY X.K H x t/\Bl X.K t (.type c)=some b/\Q (.bl b) H):=by
 intro pins s σ H xs us Q I r h;obtain⟨x,c,t,b,rfl,ty,hk,q⟩:=h;obtain⟨u,w',rfl,ru,iI⟩:=vals2 r;cases (show w'=BG c from iI);exact Jz I ru ty hk fun tk=>⟨.bl b,H,I.tok _,rfl,q⟩
def Ji (hu:X.A.units < cLine):jm X (compareOp .NotEq) (fun x y H Q=>∃p q xs,x=.ref p/\y=.ref q/\cT X.K H p xs/\cT X.K H q []/\Q (.bl (!xs.isEmpty)) H):=by
 intro pins s σ H x y v u Q I rx ry h;obtain⟨p,q,xs,rfl,rfl,hp,hq,k⟩:=h;cases rx;cases ry;obtain⟨aq,r,pl,hz⟩:=I.list hp;obtain⟨bI,r2,yY,hz2⟩:=I.list hq;cases r2;cases xs with
 | nil=>
  cases r;refine DL (E3 (e:=fun _=>true) pl.isList yY.isList rfl hu fun j h1=>absurd h1 (by simp)) ?_;exact⟨.bl false,H,I,rfl,k⟩
 | cons y ys=>
  have hl:=r.length;refine DL (Du pl.isList yY.isList (by simp at hl ⊢;intro z;subst z;simp at hl) hu) ?_;exact⟨.bl true,H,I,rfl,k⟩
def zY {bs:List Bool}:∀{us:List Value},Vals (bs.map V.bl) us->us=bs.map BX:=by
 induction bs with
 | nil=>intro us r;rw [Cf] at r;cases r;rfl
 | cons n ns ih=>
  intro us r;rw [Au] at r;cases r with
  | cons r1 r2=>
   cases r1;rw [ih r2];rfl
def GW (hc:X.calm=true):bS X (.builtin "all") (fun xs H Q=>∃(p:Addr) (bs:List Bool),xs=[.ref p]/\cT X.K H p (bs.map V.bl)/\Q (.bl (bs.all id)) H):=by
 intro pins s σ H xs us Q I r h;obtain⟨p,bs,rfl,hp,q⟩:=h;obtain⟨u,rfl,ru⟩:=vals1 r;cases ru;obtain⟨aq,rv,pl,hz⟩:=I.list hp;have eb:=zY rv;subst eb;have hl:=pl.isList;have mJ:p < s.heap.objs.size:=by obtain⟨_,e,_⟩:=hl;exact Ao e
 refine call_all_walk (Cm hl ?_);refine⟨s.heap.objs.size,[s.heap.objs.size,p],[s.heap.objs.size],(bs.map BX).toArray.size,_,_,fun i=>(bs[i]?).getD true,rfl,Walks.list (A:=X.A.in1) (I.ok.hd hc) _ p (AJ mJ) (bs.map BX).toArray,
  ⟨⟨_,Ap _ rfl,rfl,rfl⟩,hl.push _⟩,fun i v s' Q' E' hP hQ=>?_,fun h' tk hk=>?_⟩
 ·have Mr:(bs.map BX)[i]?=some v:=by simpa using hP
  rw [Ai] at Mr;cases e:bs[i]? with
  | none=>rw [e] at Mr;cases Mr
  | some b=>
   rw [e] at Mr;cases Mr;simp only [e,Option.getD_some] at hQ;exact BN hQ
 ·have e:((AG (bs.map BX).toArray.size).all fun i=>(bs[i]?).getD true)=bs.all id:=by
   rw [Ag,Af];exact LSm.range_all bs
  rw [e];exact⟨.bl (bs.all id),H,I.kept (LSm.kept_iter hk),rfl,q⟩
def GV (hc:X.calm=true):bS X (.builtin "any") (fun xs H Q=>∃(p:Addr) (bs:List Bool),xs=[.ref p]/\cT X.K H p (bs.map V.bl)/\Q (.bl (bs.any id)) H):=by
 intro pins s σ H xs us Q I r h;obtain⟨p,bs,rfl,hp,q⟩:=h;obtain⟨u,rfl,ru⟩:=vals1 r;cases ru;obtain⟨aq,rv,pl,hz⟩:=I.list hp;have eb:=zY rv;subst eb;have hl:=pl.isList;have mJ:p < s.heap.objs.size:=by obtain⟨_,e,_⟩:=hl;exact Ao e
 refine call_any_walk (Cm hl ?_);refine⟨s.heap.objs.size,[s.heap.objs.size,p],[s.heap.objs.size],(bs.map BX).toArray.size,_,_,fun i=>(bs[i]?).getD false,rfl,Walks.list (A:=X.A.in1) (I.ok.hd hc) _ p (AJ mJ) (bs.map BX).toArray,
  ⟨⟨_,Ap _ rfl,rfl,rfl⟩,hl.push _⟩,fun i v s' Q' E' hP hQ=>?_,fun h' tk hk=>?_⟩
 ·have Mr:(bs.map BX)[i]?=some v:=by simpa using hP
  rw [Ai] at Mr;cases e:bs[i]? with
  | none=>rw [e] at Mr;cases Mr
  | some b=>
   rw [e] at Mr;cases Mr;simp only [e,Option.getD_some] at hQ;exact BN hQ
 ·have e:((AG (bs.map BX).toArray.size).any fun i=>(bs[i]?).getD false)=bs.any id:=by
   rw [Ag,Af];exact LSm.range_any bs
  rw [e];exact⟨.bl (bs.any id),H,I.kept (LSm.kept_iter hk),rfl,q⟩
def qH (l:Addr) (items:Array Value) (n:Nat) (b:Addr) (g9:Array Value) (n2:Nat) (dd:Option Addr) (sl:Array (Option Value)) (hs0:¬(!items.isEmpty&&Builtin.List.listTooLong (items.size+g9.size))=true) (zE:items.size<=sizeLine) (rh:items.size+g9.size<=sizeLine+1) :
  Meets (Builtin.«list.extend» ⟨[.ref l,.ref b],[]⟩) (fun _ R s=>s.heap.get? l=some {cls:=.type "list",dict:=none,data:=.seq items n,slots:=#[]}/\s.heap.get? b=some {cls:=.type "tuple",dict:=dd,data:=.seq g9 n2,slots:=sl}/\R (.ok (.ret Ba)) {s with heap:=s.heap.update l (B9 fun x=>x++g9),toks:=s.toks}):=
 .of_wp fun prog w A R s h=>by
  obtain⟨hp,g,d,tk,os⟩:=s;obtain⟨hl,hb,h⟩:=h;have f1:=Eg;have f2:=CS;have f3:=Dc;have f4:=CZ;have f5:=C1;have Gy:(items++g9).size<=sizeLine+1:=by rw [DR];exact rh
  wp_walk using (De hl rfl (hz:=zE) (_hz':=Gy)),BH hl,BH hb;exact⟨_,rfl,h⟩
def K7 (K:Ab):V->List V->Hp->VK->Prop:=fun x vs H Q=>∃l b xs zs,x=.ref l/\vs=[.ref b]/\H l=some (.lst xs)/\da K H b zs/\xs.length+zs.length<=sizeLine/\Q .aU (upd H l (.lst (xs++zs)))
def F6:Kn X "list.extend" (K7 X.K):=by
 intro pins s σ H x vs v us Q I rx rv h;obtain⟨l,b,xs,zs,rfl,rfl,hH,hB,hz,q⟩:=h;cases rx;obtain⟨u,rfl,ru⟩:=rv.one;cases ru;obtain⟨z,aq,n,r,hl,e⟩:=I.o5 hH;obtain⟨bI,r2,⟨⟨cls,dd,data,sl⟩,e2,hc,n2,hd⟩,z2⟩:=I.tuple hB;simp only at hc hd;subst hc hd;have NL:=r2.length;have hsz:aq.toArray.size+bI.toArray.size<=sizeLine:=by rw [Ag,Ag];omega
 have sX:¬(!aq.toArray.isEmpty&&Builtin.List.listTooLong (aq.toArray.size+bI.toArray.size))=true:=by
  rw [i8 hsz,DG];exact AH
 refine call_meets Dv ⟨_,e,rfl⟩ Dk (CY _ _)
  (qH l aq.toArray n b bI.toArray n2 dd sl sX (by rw [Ag];omega) (by omega)) ⟨e,e2,?_⟩
 refine⟨.aU,_,I.Gb (its':=aq++bI) hH e (by simp) (r.append r2) ?_,rfl,q⟩;rw [Ad];omega
end
section
variable {X:Cx}{o:Expr}{lo hi:Expr}{to tl th:TE}{pos p2:Pos}
def T3 (to tl th:TE):TG:=fun v σ H Q=>to σ H fun x H1=>tl σ H1 fun i H2=>th σ H2 fun j H3=>∃l b xs ys a c,x=.ref l/\v=.ref b/\i=.int a/\j=.int c/\H3 l=some (.lst xs)/\H3 b=some (.lst ys)/\l≠b/\0<=a/\a<=c/\c<=xs.length/\xs.length+ys.length<=sizeLine/\
 Q σ (upd H3 l (.lst (xs.take a.toNat++ys++xs.drop c.toNat)))
def Lo (ho:PE X o to) (hl:PE X lo tl) (hh:PE X hi th)
  (ha:∀v,assign (.Subscript o (.Slice (some lo) (some hi) none p2) pos) X.env v=(do
   let ov <- holding [v] (eval o X.env)
   let iv <- holding [v,ov] (eval (.Slice (some lo) (some hi) none p2) X.env)
   standAt pos
   holding [v,ov,iv] (setItem ov iv v)
   release [iv,v,ov] []):=by intro _;rfl):PG X (.Subscript o (.Slice (some lo) (some hi) none p2) pos) (T3 to tl th):=by
 intro pins s σ H v u Q I r h;rw [ha];refine Aa (Be (cj (ho pins s σ H _ I h) fun ov s1 ⟨x,H1,I1,r1,q1⟩=>?_));refine Aa (Be (wpAny_Slice ?_));rw [evalPart_some,evalPart_some,evalPart_none];refine cj (hl pins s1 σ H1 _ I1 q1) fun vl s2 ⟨i,H2,I2,r2,q2⟩=>cj (hh pins s2 σ H2 _ I2 q2) fun vu s3 ⟨j,H3,I3,r3,q3⟩=>Ah ?_;obtain⟨l,b,xs,ys,a,c,rfl,rfl,rfl,rfl,hH,hB,Mk,h0,U1,hc,hz,q⟩:=q3;cases r;cases r1;have I4:Inv X pins σ H3 {s3 with heap:=s3.heap.push {cls:=.type "slice",data:=.fields #[vl,vu,.none]}}:=I3.kept (t':=s3.toks) fun b ob q=>Al _ q;refine Aa (DV (Aa (Be (IV I4 hH hB Mk (Heap.IsSliceOf.new ..) r2 r3 h0 U1 hc hz fun s' I'=>?_))));exact wpAny_release ⟨σ,_,I',q⟩
end
def qd (l:Addr) (H H':Hp):Prop:=∀b u,b≠l->H b=some u->H' b=some u
def kJ {H:Hp}{p:Addr} (h:H p=none) (o:HO):lG H (upd H p o):=fun b u q=>by rw [av (bH q h)];exact q
def I0 {H:Hp}{p:Addr} (o:HO):qd p H (upd H p o):=fun b u n q=>by rw [av n];exact q
def mE (H:Hp) (o:HO) (Q:VK):Prop:=∀p H',lG H H'->H' p=some o->H p=none->Q (.ref p) H'
def mE.at {H:Hp}{o:HO}{Q:VK} (h:mE H o Q) (p:Addr) (hp:H p=none):Q (.ref p) (upd H p o):=h p _ (kJ hp o) aO hp
def yF (H:Hp) (l:Addr) (o:HO) (Q:Hp->Prop):Prop:=∀H',qd l H H'->H' l=some o->Q H'
def yF.at {H:Hp}{l:Addr}{o:HO}{Q:Hp->Prop} (h:yF H l o Q):Q (upd H l o):=h _ (I0 o) aO
def jm.mono {X:Cx}{f:Value->Value->Sem Value}{r r':R2} (h:jm X f r) (hr:∀x y H Q,r' x y H Q->r x y H Q):jm X f r':=fun pins s σ H x y v u Q I rx ry q=>h pins s σ H x y v u Q I rx ry (hr _ _ _ _ q)
def bS.mono {X:Cx}{f:Value}{r r':List V->Hp->VK->Prop} (h:bS X f r) (hr:∀xs H Q,r' xs H Q->r xs H Q):bS X f r':=fun pins s σ H xs us Q I rx q=>h pins s σ H xs us Q I rx (hr _ _ _ q)
def Kn.mono {X:Cx}{id:String}{r r':V->List V->Hp->VK->Prop} (h:Kn X id r) (hr:∀x xs H Q,r' x xs H Q->r x xs H Q):Kn X id r':=fun pins s σ H x xs v us Q I rx rv q=>h pins s σ H x xs v us Q I rx rv (hr _ _ _ _ q)
def Hc.mono {X:Cx}{r r':G9} (h:Hc X r) (hr:∀o i v H Q,r' o i v H Q->r o i v H Q):Hc X r':=fun pins s σ H o i v ov iv u Q I ro ri rv q=>h pins s σ H o i v ov iv u Q I ro ri rv (hr _ _ _ _ _ q)
section
variable {X:Cx}{e o:Expr}{es:List Expr}{t:TA}{pos:Pos}
def Vx (t:TA):TE:=fun σ H Q=>t σ H fun xs H1=>xs.length<=sizeLine/\mE H1 (.tup xs) Q
def VC (t:TA):TE:=fun σ H Q=>t σ H fun xs H1=>xs.length<=sizeLine/\mE H1 (.lst xs) Q
def OI {x1} (h:PA X es t):PE X (.Tuple es x1 pos) (Vx t):=by
 intro pins s σ H Q I hq;refine wpAny_Tuple_spliced (cj (h pos pins s σ H _ I hq) fun us s1 ⟨xs,H1,I1,r,z,q⟩=>⟨by rw [<- r.length];exact z,?_⟩);have hf:H1 s1.heap.objs.size=none:=I1.bP.fresh (Am _);refine⟨.ref s1.heap.objs.size,upd H1 s1.heap.objs.size (.tup xs),I1.laid (t':=s1.toks) (fun b u e=>Al _ e) (Am _) ?_,rfl,q.at _ hf⟩;exact⟨z,us,r,⟨_,Ap _ rfl,rfl,_,rfl⟩⟩
def HB (h:PA X es t):PE X (.List es pos) (VC t):=by
 intro pins s σ H Q I hq;refine wpAny_List_spliced (cj (h pos pins s σ H _ I hq) fun us s1 ⟨xs,H1,I1,r,z,q⟩=>⟨by rw [<- r.length];exact z,?_⟩);have hf:H1 s1.heap.objs.size=none:=I1.bP.fresh (Am _);refine⟨.ref s1.heap.objs.size,upd H1 s1.heap.objs.size (.lst xs),I1.laid (t':=s1.toks) (fun b u e=>Al _ e) (Am _) ?_,rfl,q.at _ hf⟩;exact⟨z,us,0,r,Ap _ rfl⟩
def K4 (K:Ab):R2:=fun x y H Q=>match x with
 | .int i=>∃j,y=.int j/\Q (.int (i+j)) H
 | .str i=>∃j,y=.str j/\i.length+j.length<=sizeLine/\Q (.str (i++j)) H
 | .ref a=>(∃b xs zs,y=.ref b/\H a=some (.lst xs)/\H b=some (.lst zs)/\xs.length+zs.length<=sizeLine/\mE H (.lst (xs++zs)) Q)\/QY K x y H Q
 | _=>False
def OV:jm X (binaryOp .Add) (K4 X.K):=by
 refine ((SN.or F0).or (SM.or HE)).mono fun x y H Q h=>?_;unfold K4 at h;cases x with
 | int i=>obtain⟨j,rfl,q⟩:=h;exact .inl (.inl ⟨i,j,rfl,rfl,q⟩)
 | str i=>obtain⟨j,rfl,hl,q⟩:=h;exact .inl (.inr ⟨i,j,rfl,rfl,hl,q⟩)
 | ref a=>
  rcases h with⟨b,xs,zs,rfl,h1,h2,hz,q⟩ | h
  ·exact .inr (.inl ⟨a,b,xs,zs,rfl,rfl,h1,h2,hz,fun p hp=>q.at p hp⟩)
  ·exact .inr (.inr h)
 | _=>exact h.elim
def OP:jm X (binaryOp .Mult) (rI IntMulOk fun i j=>.int (i*j)):=YB fun _ _ _ _ _ _ _ hc q=>mul_int q hc
def GR:bS X (.type "list") (fun xs H Q=>∃p ys,xs=[.ref p]/\(cT X.K H p ys\/da X.K H p ys)/\mE H (.lst ys) Q):=xT.mono fun xs H Q ⟨p,ys,e,h,q⟩=>⟨p,ys,e,h,fun l hl=>q.at l hl⟩
def K8:V->List V->Hp->VK->Prop:=fun x vs H Q=>∃l xs y,x=.ref l/\vs=[y]/\H l=some (.lst xs)/\xs.length < sizeLine/\yF H l (.lst (xs++[y])) (Q .aU)
def sA:Kn X "list.append" K8:=Jm.mono fun x xs H Q ⟨l,ys,y,e1,e2,h,hz,q⟩=>⟨l,ys,y,e1,e2,h,hz,q.at⟩
def Jc (K:Ab):V->List V->Hp->VK->Prop:=fun x vs H Q=>∃l b xs zs,x=.ref l/\vs=[.ref b]/\H l=some (.lst xs)/\da K H b zs/\xs.length+zs.length<=sizeLine/\yF H l (.lst (xs++zs)) (Q .aU)
def zd:Kn X "list.extend" (Jc X.K):=F6.mono fun x xs H Q ⟨l,b,ys,zs,e1,e2,h1,h2,hz,q⟩=>⟨l,b,ys,zs,e1,e2,h1,h2,hz,q.at⟩
def V2:V->List V->Hp->VK->Prop:=fun x vs H Q=>∃l xs y,x=.ref l/\vs=[]/\H l=some (.lst (xs++[y]))/\yF H l (.lst xs) (Q y)
def O5:Kn X "list.pop" V2:=S1.mono fun x xs H Q ⟨l,ys,y,e1,e2,h,q⟩=>⟨l,ys++[y],y,e1,e2,h,by simp,by rw [List.dropLast_concat];exact q.at⟩
def Sb:G9:=fun o i v H Q=>∃p xs k j,o=.ref p/\i=.int k/\H p=some (.lst xs)/\pW xs.length k=some j/\yF H p (.lst (xs.set j v)) Q
def oQ:Hc X Sb:=set_list.mono fun o i v H Q ⟨p,xs,k,j,e1,e2,h,hj,q⟩=>⟨p,xs,k,j,e1,e2,h,hj,q.at⟩
end
section
variable {X:Cx} (K:Ab) (hK:X.K=K) {a e o:Expr}{es:List Expr}{ta to:TE}{t:TA}{pos:Pos}{name:Str}{apos bD:Pos}{T UU:String}{r:V->List V->Hp->VK->Prop}
include hK
def HP:NQ X (rIx K):=hK▸Tp
def OU:jm X (binaryOp .Add) (K4 K):=hK▸OV
def Se (K:Ab):List V->Hp->VK->Prop:=fun xs H Q=>∃x n,xs=[x]/\Yi K x H n/\Q (.int n) H
def vF:bS X (.builtin "len") (Se K):=hK▸Ni
def K5 (K:Ab):List V->Hp->VK->Prop:=fun xs H Q=>∃p ys,xs=[.ref p]/\(cT K H p ys\/da K H p ys)/\mE H (.lst ys) Q
def GQ:bS X (.type "list") (K5 K):=hK▸GR
def We (K:Ab):List V->Hp->VK->Prop:=fun xs H Q=>∃(p:Addr) (bs:List Bool),xs=[.ref p]/\cT K H p (bs.map V.bl)/\Q (.bl (bs.all id)) H
def J8 (hc:X.calm=true):bS X (.builtin "all") (We K):=hK▸GW hc
def Wc (K:Ab):List V->Hp->VK->Prop:=fun xs H Q=>∃(p:Addr) (bs:List Bool),xs=[.ref p]/\cT K H p (bs.map V.bl)/\Q (.bl (bs.any id)) H
def J7 (hc:X.calm=true):bS X (.builtin "any") (Wc K):=hK▸GV hc
def Sd (K:Ab):R2:=fun x y H Q=>∃p q xs,x=.ref p/\y=.ref q/\cT K H p xs/\cT K H q []/\Q (.bl (!xs.isEmpty)) H
def se (hu:X.A.units < cLine):jm X (compareOp .NotEq) (Sd K):=hK▸Ji hu
def ZH (K:Ab) (ta:TE):TT:=fun σ H Q=>ta σ H fun x H'=>∃k,UB K x H' k/\Q k H'
def u7 (ha:PE X a ta) (he:∀whole,isTrue a X.env whole=(do let v <- whole;standAt a.pos;holding [v] (truthy v))):PT X a (ZH K ta):=hK▸La ha he
def OK (pa:PlainAttrs T) (slot:Slot T name UU) (TB:typeOf (.builtin UU)=pure (.type "method_descriptor")) (hm:Zr X UU r) (ho:PE X o to)
  (fW:attributeBase o name X.env (eval o X.env)=eval o X.env:=by rfl) (fV:(apos.endLine==bD.line)=true:=by rfl):PE X (.Call (.Attribute o name apos) [] [] bD) (VI K T r to):=hK▸Sz pa slot TB hm ho fW fV
def wL (pa:PlainAttrs T) (slot:Slot T name UU) (TB:typeOf (.builtin UU)=pure (.type "method_descriptor")) (hm:Zr X UU r) (ho:PE X o to) (ha:PA X (e::es) t)
  (fW:attributeBase o name X.env (eval o X.env)=eval o X.env:=by rfl)
  (sY:((backTo bD (starEach (e::es) X.env)).all (fun x=>!x.1)&&(backToKw bD (keywordEach [] X.env)).all (fun x=>x.1.isSome)
   && decide ((e::es).length+([]:List Keyword).length+(if ([]:List Keyword).isEmpty then 0 else 1) < 30))=true:=by rfl)
  (fV:(apos.endLine==bD.line)=true:=by rfl) (hs:starEach (e::es) X.env=(false,eval e X.env)::starEach es X.env:=by rfl) (hJ:(backTo bD (starEach es X.env)).any (·.1)=false:=by rfl) :
  PE X (.Call (.Attribute o name apos) (e::es) [] bD) (tBM K T r to t):=hK▸Wl pa slot TB hm ho ha fW sY fV hs hJ
omit hK
end
structure QK (P:Program) (w:World) (K:Ab) (mg:Str->Option Value) (base:Heap) (x:Str) (k:Nat) (ps:List Str) (sp:Sp) where
 f:Addr
 fd:FuncData
 ok:gH P w K mg base qR k f fd ps sp
 bi:Binds K fd ps []
 kp:Dr K (.ref f)=true
 at':mg x=some (.ref f)
section
variable {X:Cx}{k k':Nat}{ps:List Str}{sp:Sp}{x:Str}{p pos:Pos}{e:Expr}{es:List Expr}{t:TA}
def VH (sp:Sp) (t:TA):TE:=fun σ H Q=>t σ H fun vs H1=>sp vs H1 Q E0
def Lu (G:QK X.prog X.w X.K X.mg X.base x k ps sp) (hr:fD k' X.A) (hk:k<=k') (hg:Gl X x) (ha:PA X (e::es) t) (nR:(x==("__debug__":Str))=false:=by decide)
  (he:starEach (e::es) X.env=(false,eval e X.env)::starEach es X.env:=by rfl) (eO:(backTo pos (starEach es X.env)).any (·.1)=false:=by rfl) :
  PE X (.Call (.Name x p) (e::es) [] pos) (VH sp t):=by
 intro pins s σ H Q I h;refine BI (Pc I hg G.at' ?_ nR);refine PySem.W.callWith_K (h₀:=X.base) I.ok.mod.kin G.kp (cj (ha pos pins s σ H _ I h) fun us s1 ⟨vs,H1,I1,r,q⟩=>⟨I1.vk,?_⟩) he eO;refine R8 (dvs:=[]) (ds:=[]) G.ok (hr.mono hk) G.bi .nil Wn I1 r ?_;rw [Dj];exact q
end
section
variable {v:V}
def Nq {α:Type}{xs:List α}{i:Int} (h0:0<=i) (h1:i < xs.length):∃v,cB xs i=some v/\xs[i.toNat]?=some v:=by
 have hk:i.toNat < xs.length:=by omega
 have q:cB xs ((i.toNat:Nat):Int)=some xs[i.toNat]:=dW (by rw [Ae hk]);have e:((i.toNat:Nat):Int)=i:=by omega
 rw [e] at q;exact⟨_,q,by rw [Ae hk]⟩
def Q2 {i j:Int} (h1:-18446744073709551616 < i) (h2:i < 18446744073709551616):IntMulOk i j:=QL.ok (.inl ⟨h1,h2⟩)
def mul_r {i j:Int} (h1:-18446744073709551616 < j) (h2:j < 18446744073709551616):IntMulOk i j:=QL.ok (.inr ⟨h1,h2⟩)
end
def a8 {n:Nat} (h:n<=1000):n<=sizeLine:=Dp (IT h)
section
variable {X:Cx} (K:Ab) (hK:X.K=K)
include hK
def Sh (K:Ab):R2:=fun x y H Q=>∃p q xs,x=.ref p/\y=.ref q/\cT K H p xs/\cT K H q []/\Q (.bl xs.isEmpty) H
def sf (hu:X.A.units < cLine):jm X (compareOp .Eq) (Sh K):=by
 subst hK;intro pins s σ H x y v u Q I rx ry h;obtain⟨p,q,xs,rfl,rfl,hp,hq,k⟩:=h;cases rx;cases ry;obtain⟨aq,r,pl,hz⟩:=I.list hp;obtain⟨bI,r2,yY,hz2⟩:=I.list hq;cases r2;cases xs with
 | nil=>
  cases r;refine Es (Fd (e:=fun _=>true) pl.isList yY.isList rfl hu fun j h1=>absurd h1 (by simp)) ?_;exact⟨.bl true,H,I,rfl,k⟩
 | cons y ys=>
  have hl:=r.length;refine Es (DS pl.isList yY.isList (by simp at hl ⊢;intro z;subst z;simp at hl) hu) ?_;exact⟨.bl false,H,I,rfl,k⟩
omit hK
end
theorem Vals.yQ:∀{xs:List V}{us:List Value},Vals xs us->Vals xs.reverse us.reverse
 | _,_,.nil=>.nil
 | _,_,.cons h t=>by rw [CM,CM];exact (Vals.yQ t).append (.cons h .nil)
def S7:typeLookup (.type "list_reverseiterator") (B5 "__len__")=pure none:=by kernel_rfl
def O9:typeLookup (.type "list_reverseiterator") (B5 "__length_hint__")=pure (some (.builtin "list_reverseiterator.__length_hint__")):=by kernel_rfl
def Oc:splitId "list_reverseiterator.__length_hint__"=some ("list_reverseiterator","__length_hint__"):=by kernel_rfl
def N8:isSubtype (.type "list_reverseiterator") (.type "list_reverseiterator")=pure true:=by kernel_rfl
def Mm {prog:Program}{w:World}{A:Around}{E:Value->Shared->Prop}{s:Shared}{r l:Addr}{i:Int}{Q:Bool->Shared->Prop} (h:s.heap.IsRevIter r l i) (q:Q false s):wpAny (model prog w) A (Builtin.List.listLengthHint (Av r)) Q E s:=by
 unfold Builtin.List.listLengthHint;refine Aa (Df h.typeIs S7 ?_);refine Aa (Df h.typeIs O9 ?_);dsimp only;rw [Oc];dsimp only;refine Aa (CT h.typeIs N8 ?_);rw [if_neg (by decide)];rw [if_pos (by decide)];rw [if_neg (by decide)];exact Ah q
def uF {prog:Program}{w:World}{A:Around}{s:Shared}{R:Result->Shared->Prop}{r l S:Addr}{items:Array Value} (hA:A.handled=none) (h:s.heap.IsRevIter r l (items.size-1)) (hl:s.heap.IsList l items) (Mk:l≠r) (hSr:S≠r) (hSl:S≠l) (hz:items.size<=sizeLine)
  (hS:s.heap.get? S=some {cls:=BG "list",data:=EH #[]})
  (q:∀(h':Heap) (tk:Nat) (acc:Array Value) (c:Nat),(∀b o,b≠S->b≠r->s.heap.get? b=some o->h'.get? b=some o)->h'.get? S=some {cls:=BG "list",data:=EH acc c}->ItemsOf (fun i v=>items[items.size-1-i]?=some v) acc items.size->R (.ok (.ret .none)) {s with heap:=h',toks:=tk}) :
  wpAny (model prog w) A.in1 (Builtin.«list.__init__» {pos:=[Av S,Av r]})
   (fun fin s'=>match fin with | Fh f=>R (Except.ok f) s' | Fin.again c'=>c'.quiet=true/\codeAny (model prog w) A c' R s') (fun e s'=>R (Except.error e) s') s:=by
 unfold Builtin.«list.__init__»;dsimp only;rw [if_neg (by decide),if_neg (by simp)];refine Aa (wpAny_listItems hS rfl ?_);refine Aa ?_;unfold Builtin.List.listUpdate;dsimp only;refine De hS rfl ?_ (by simp) (by simp);refine Aa (C3 ?_);have k1:∀b o,b≠S->s.heap.get? b=some o->(s.heap.update S (B9 fun _=>#[])).get? b=some o:=fun b o hb e=>by rw [CG _ _ (Bx hb)];exact e
 have hS1:=Ci (B9 fun _=>#[]) hS rfl;generalize s.heap.update S (B9 fun _=>#[])=h1 at k1 hS1 ⊢;have YT:h1.IsRevIter r l (items.size-1):=let ⟨o,e,p⟩:=h;⟨o,k1 _ _ (Bx hSr) e,p⟩;have hl1:h1.IsList l items:=let ⟨o,e,p⟩:=hl;⟨o,k1 _ _ (Bx hSl) e,p⟩;unfold Builtin.List.listExtendWith;refine Aa (B7 (T:="list_reverseiterator") YT.typeIs ?_);rw [if_neg (by
  have e1:Builtin.List.listSameRef (Av S) (Av r)=false:=by
   unfold Builtin.List.listSameRef;simpa using hSr
  rw [e1];decide)]
 refine Aa (wpAny_pyIter_revIter YT ?_);refine Aa (Be (Mm YT ?_));rw [if_neg (by decide)];refine Ah ⟨plainId_quiet F.plain_extend_loop _,?_⟩;refine codeAny_extend_loopS (Walks.toS (Walks.listRev (A:=A.in1) hA r l Mk items)) hz S (by simp [hSr,hSl]) .none items.size 0 _ #[] _ (Eh _) (Bm _) ⟨Bm _,by simpa using YT,hl1⟩ hS1 (ItemsOf.nil _) ?_;intro s' acc c mv e io;rw [mv.eq_with];exact q s'.heap s'.toks acc c (fun b o n1 n2 e'=>mv.heap b o (by simp [n1,n2]) (k1 b o n1 e')) e io
def uR {prog:Program}{w:World}{A:Around}{E:Value->Shared->Prop}{s:Shared}{r l:Addr}{items:Array Value}{Q:Value->Shared->Prop} (hA:A.handled=none) (h:s.heap.IsRevIter r l (items.size-1)) (hl:s.heap.IsList l items) (Mk:l≠r) (hz:items.size<=sizeLine)
  (q:∀(h':Heap) (tk:Nat) (acc:Array Value) (c:Nat),(∀b o,b≠r->s.heap.get? b=some o->h'.get? b=some o)->h'.get? s.heap.objs.size=some {cls:=BG "list",data:=EH acc c}->ItemsOf (fun i v=>items[items.size-1-i]?=some v) acc items.size->Q (.ref s.heap.objs.size) {s with heap:=h',toks:=tk}) :
  wpAny (model prog w) A (call (BG "list") [Av r]) Q E s:=by
 have lr:r < s.heap.objs.size:=let ⟨_,e,_⟩:=h;Ao e;have ll:l < s.heap.objs.size:=let ⟨_,e,_⟩:=hl;Ao e;refine callType_codes F.called_list (F.typeCall_list_1 _) F.entry_list_init (code_list_new (Q₁:=fun v s₁=>v=.ref s.heap.objs.size/\s₁={s with heap:=s.heap.push {cls:=BG "list",data:=EH #[]}}) _ ⟨rfl,rfl⟩) ?_;rintro obj s₁ ⟨rfl,rfl⟩;refine⟨⟨_,Ap _ rfl,rfl⟩,F.args_list_init_2 _ _,?_⟩;have kp:∀b o,s.heap.get? b=some o->(s.heap.push {cls:=BG "list",data:=EH #[]}).get? b=some o:=fun b o e=>Al _ e;refine uF (A:=A.in1) (items:=items) (l:=l) hA (let ⟨o,e,p⟩:=h;⟨o,kp _ _ e,p⟩) (let ⟨o,e,p⟩:=hl;⟨o,kp _ _ e,p⟩) Mk (fun z=>by rw [z] at lr;exact AZ _ lr) (fun z=>by rw [z] at ll;exact AZ _ ll) hz (Ap _ rfl) ?_;intro h' tk acc c k e io;exact⟨rfl,q h' tk acc c (fun b o n e'=>k b o (fun z=>by rw [z] at e';exact AZ _ (Ao e')) n (kp b o e')) e io⟩
def tLR (K:Ab) (te:TE):TE:=fun σ H Q=>te σ H fun x H1=>∃p ys,x=.ref p/\cT K H1 p ys/\mE H1 (.lst ys.reverse) Q
section
variable {X:Cx} (K:Ab) (hK:X.K=K) {e:Expr}{te:TE}{p1 p2 q1 q2:Pos}
include hK
def FZ (hc:X.calm=true) (hg1:Gl X "list") (hm1:X.mg "list"=none) (hg2:Gl X "reversed") (UX:X.mg "reversed"=none) (he:PE X e te)
  (zE:starEach [.Call (.Name "reversed" q1) [e] [] q2] X.env=(false,eval (.Call (.Name "reversed" q1) [e] [] q2) X.env)::starEach [] X.env:=by rfl) (rh:starEach [e] X.env=(false,eval e X.env)::starEach [] X.env:=by rfl) :
  PE X (.Call (.Name "list" p1) [.Call (.Name "reversed" q1) [e] [] q2] [] p2) (tLR K te):=by
 intro pins s σ H Q I h;subst hK;refine BI (jE I hg1 hm1 boot_list ?_ (by decide) (by decide));refine A8 ?_ zE rfl;rw [zE];show wpAny _ _ (spliced ((false,eval (.Call (.Name "reversed" q1) [e] [] q2) X.env)::backTo p2 (starEach [] X.env))) _ _ s;refine B1 ?_;refine BI (jE I hg2 UX boot_reversed ?_ (by decide) (by decide));refine A8 ?_ rh rfl;rw [rh];show wpAny _ _ (spliced ((false,eval e X.env)::backTo q2 (starEach [] X.env))) _ _ s;refine B1 (cj (he pins s σ H _ I h) fun u s1 ⟨x,H1,I1,r1,pa,ys,ex,hS,q⟩=>Ck ?_);subst ex;cases r1;obtain⟨aq,rv,pl,hz⟩:=I1.list hS;have hlen:=rv.length;have lp:pa < s1.heap.objs.size:=let ⟨_,e,_⟩:=pl.isList;Ao e;refine call_reversed_list pl.isList ?_;refine Ck ?_;have kp:∀b o,s1.heap.get? b=some o->(s1.heap.push (revObj pa (aq.toArray.size-1))).get? b=some o:=fun b o e=>Al _ e;refine uR (items:=aq.toArray) (l:=pa) (r:=s1.heap.objs.size) (I1.ok.hd hc) ⟨_,Ap _ rfl,rfl,rfl⟩ (let ⟨o,e,p⟩:=pl.isList;⟨o,kp _ _ e,p⟩) (fun z=>by rw [z] at lp;exact AZ _ lp) (by rw [Ag];omega) ?_;intro h' tk acc c k e io;have kk:∀b o,s1.heap.get? b=some o->h'.get? b=some o:=fun b o eb=>k b o (fun z=>by rw [z] at eb;exact AZ _ (Ao eb)) (kp b o eb);have ea:acc=aq.reverse.toArray:=by
  obtain⟨z1,z2⟩:=io;apply Array.ext
  ·rw [z1,Ag,Ag,Cb]
  ·intro j h1 h2;have:=z2 j acc[j] (Cq h1);rw [Ag] at this;have hj:j < aq.length:=by rw [z1,Ag] at h1;exact h1
   rw [EC] at this;have e3:aq.reverse[j]?=some acc[j]:=by rw [List.getElem?_reverse hj];exact this
   rw [C5];exact (Option.some.inj (((Ae (by rw [Cb];exact hj)).symm.trans e3))).symm
 subst ea;have rh:s1.heap.objs.size<=(s1.heap.push (revObj pa (aq.toArray.size-1))).objs.size:=by simp [Heap.push]
 refine⟨.ref _,upd H1 _ (.lst ys.reverse),I1.laid (t':=tk) kk rh ?_,rfl,q.at _ (I1.bP.fresh rh)⟩;exact⟨by rw [Cb];exact hz,aq.reverse,c,rv.yQ,e⟩
end
end L2
namespace My
open PySem PySem.Spec PyProof.Rows L2
def Wd (x:Str):Prop:=1<=x.length/\x.length<=8/\∀c∈x.cps.toList,97<=c/\c < 123
def Part (x:Str) (n:Nat):Prop:=x.length<=n/\∀c∈x.cps.toList,97<=c/\c < 123
def Part.append {x y:Str}{m n:Nat} (a:Part x m) (b:Part y n):Part (x++y) (m+n):=by
 refine⟨?_,fun c hc=>?_⟩
 ·rw [CF];have:=a.1;have:=b.1;omega
 ·rw [EG,Array.toList_append] at hc;rcases Bh.mp hc with h | h
  ·exact a.2 c h
  ·exact b.2 c h
def uG {d st:Int} (h:st=1\/st=3\/st=5\/st=7\/st=9\/st=11) {n:Nat} (hn:n<=26):((AG n).map fun k:Nat=>some (97+((d+st*(0+(k:Int))) % 26).toNat)).Nodup:=by
 unfold List.Nodup;rw [DP];refine List.Pairwise.imp_of_mem ?_ CN;intro a b ha hb Rn hz;have hb':=AL.mp hb;have Gy:=Option.some.inj hz;rcases h with rfl | rfl | rfl | rfl | rfl | rfl <;> omega
def wU {α β:Type}{g:α->β}{l:List α} (h:(l.map g).Nodup):l.Nodup:=(DP.mp h).imp fun h e=>h (congrArg g e)
def IB (x y:Str) (c:Nat):(x++⟨#[c]⟩++y).cps[x.length]?=some c:=by
 rw [EG,EG];show ((x.cps++#[c])++y.cps)[x.cps.size]?=some c;rw [Array.getElem?_append_left (by simp),Array.getElem?_append_right (Am _)];simp
def Gd:∀k:_root_.Fin 26,cB ("abcdefghijklmnopqrstuvwxyz":Str).cps.toList (k.val:Int)=some (97+k.val):=by decide +kernel
def Jq {n:Int} (h0:0<=n) (h1:n < 26):cB ("abcdefghijklmnopqrstuvwxyz":Str).cps.toList n=some (97+n.toNat):=by
 have e:=Gd ⟨n.toNat,by omega⟩;have e2:((n.toNat:Nat):Int)=n:=by omega
 rw [e2] at e;exact e
def Lx {c:Nat} (h0:97<=c) (h1:c < 123):Part ⟨#[c]⟩ 1:=by
 refine⟨Am _,fun d hd=>?_⟩;have:d=c:=by simpa using hd
 subst this;exact⟨h0,h1⟩
inductive Tr where
 | leaf (x:Str)
 | node (l r:Tr)
def Tr.aN:Tr->List Str
 | .leaf x=>[x]
 | .node l r=>l.aN++r.aN
def Tr.size:Tr->Nat
 | .leaf _=>1
 | .node l r=>l.size+r.size+1
def Tr.depth:Tr->Nat
 | .leaf _=>0
 | .node l r=>max l.depth r.depth+1
def Tr.Ws (t:Tr):Prop:=∀x∈t.aN,Wd x
def Tr.mG:∀t:Tr,1<=t.aN.length
 | .leaf _=>Am _
 | .node l r=>by have:=l.mG;show 1<=(l.aN++r.aN).length;rw [Ad];omega
def Tr.n9:∀t:Tr,t.depth < t.aN.length
 | .leaf _=>D4 0
 | .node l r=>by
  have h1:=l.n9;have h2:=r.n9;have h3:=l.mG;have h4:=r.mG;show max l.depth r.depth+1 < (l.aN++r.aN).length;rw [Ad];omega
def Tr.size_eq:∀t:Tr,t.size+1=2*t.aN.length
 | .leaf _=>rfl
 | .node l r=>by
  have h1:=l.size_eq;have h2:=r.size_eq;show l.size+r.size+1+1=2*(l.aN++r.aN).length;rw [Ad];omega
def bE (ts:List Tr):Nat:=(ts.map Tr.size).sum
def gw (a b:List Tr):bE (a++b)=bE a+bE b:=by unfold bE;rw [A1,List.sum_append]
def oO (t:Tr):bE [t]=t.size:=by simp [bE]
def Tr.size_pos:∀t:Tr,1<=t.size
 | .leaf _=>Am _
 | .node l r=>by show 1<=l.size+r.size+1;omega
theorem jc:∀ts:List Tr,ts.length<=bE ts
 | []=>Am _
 | t::r=>by have:=jc r;have:=t.size_pos;show r.length+1<=t.size+bE r;omega
def Tr.post:Tr->List Tr
 | .leaf x=>[.leaf x]
 | .node l r=>l.post++r.post++[.node l r]
def Tr.bx:∀t:Tr,t.post.length=t.size
 | .leaf _=>rfl
 | .node l r=>by show (l.post++r.post++[_]).length=l.size+r.size+1;rw [Ad,Ad,l.bx,r.bx];rfl
def cp (ts:List Tr):List Tr:=(ts.map Tr.post).flatten
def jy (a b:List Tr):cp (a++b)=cp a++cp b:=by unfold cp;rw [A1,List.flatten_append]
def oV (t:Tr):cp [t]=t.post:=by simp [cp]
def Jd (t u:Tr):cp [t,u]=t.post++u.post:=by simp [cp]
inductive Ent where
 | word (x:Str)
 | pair (a b:Nat)
def Tr.nd:Tr->Nat->List Ent
 | .leaf x,_=>[.word x]
 | .node l r,o=>l.nd o++r.nd (o+l.size)++[.pair (o+l.size-1) (o+l.size+r.size-1)]
def Tr.bf:∀(t:Tr) (o:Nat),(t.nd o).length=t.size
 | .leaf _,_=>rfl
 | .node l r,o=>by show (l.nd o++r.nd (o+l.size)++[_]).length=l.size+r.size+1;rw [Ad,Ad,l.bf,r.bf];rfl
def run:List Tr->List Ent->List Nat->Option (List Ent×List Nat)
 | [],told,ls=>some (told,ls)
 | .leaf x::k,told,ls=>run k (told++[.word x]) (told.length::ls)
 | .node _ _::k,told,b::a::ls=>run k (told++[.pair a b]) (told.length::ls)
 | .node _ _::_,_,_=>none
theorem rV:∀(t:Tr) (k:List Tr) (told:List Ent) (ls:List Nat),run (t.post++k) told ls=run k (told++t.nd told.length) ((told.length+t.size-1)::ls)
 | .leaf x,k,told,ls=>rfl
 | .node l r,k,told,ls=>by
  have e1:(Tr.node l r).post++k=l.post++(r.post++(Tr.node l r::k)):=by show l.post++r.post++[_]++k=_;simp
  rw [e1,rV l,rV r];have e2:(told++l.nd told.length).length=told.length+l.size:=by rw [Ad,l.bf]
  rw [e2];show run k _ _=run k _ _;have e3:(told++l.nd told.length++r.nd (told.length+l.size)).length=told.length+(Tr.node l r).size-1:=by
   rw [Ad,Ad,l.bf,r.bf];show _=told.length+(l.size+r.size+1)-1;omega
  rw [e3];have e4:told++(Tr.node l r).nd told.length=told++l.nd told.length++r.nd (told.length+l.size)++[.pair (told.length+l.size-1) (told.length+l.size+r.size-1)]:=by
   show told++(l.nd told.length++r.nd (told.length+l.size)++[_])=_;simp
  rw [e4]
def Ja (t:Tr):run t.post [] []=some (t.nd 0,[t.size-1]):=by
 have:=rV t [] [] [];rw [Dj] at this;rw [this];show some ([]++t.nd 0,[0+t.size-1])=_;simp
end My
namespace L2
open PySem PySem.Spec PyProof.Rows
def iq {prog:Program}{w:World}{A:Around}{E:Value->Shared->Prop}{s:Shared}{it t:Addr}{i:Nat}{items:Array Value}{x:Value}{Q:Value->Shared->Prop} (h:s.heap.IsTupleIter it t i) (ht:s.heap.IsTuple t items) (hx:items[i]?=some x)
  (q:∀h':Heap,h'.IsTupleIter it t (i+1)->B6 it s.heap h'->Q x {s with heap:=h'}):wpAny (model prog w) A (Builtin.SmallTypes.nextOf (.ref it)) Q E s:=by
 unfold Builtin.SmallTypes.nextOf;refine Aa (AM h.typeIs BZ (Bb BZ h.typeIs Dn ?_ (C9 _)));obtain⟨o,ho,hc,hd⟩:=id h;obtain⟨ot,hot,htc,n,htd⟩:=id ht;show wpAny _ _ (field (.ref it) 0 >>= fun seq=>_) _ _ s;refine Aa (AR ho hd rfl ?_);show wpAny _ _ (field (.ref it) 1 >>= fun seq=>_) _ _ s;refine Aa (AR ho hd rfl ?_);show wpAny _ _ (seqItems? (.ref t) >>= fun seq=>_) _ _ s;refine Aa (Bt hot htd ?_);show wpAny _ _ (match items[i]? with | some x=>(do setField (.ref it) 1 (rawInt ((i:Int)+1));ret x) | none=>_) _ _ s;rw [hx];refine Aa (Dx ho hd (show 1 < 2 by decide) ?_);refine Ah ⟨x,rfl,Ah (q _ ⟨_,Ci _ ho (by rw [Ey (Cw hd _)]),by rw [Obj.cls_mapFields];exact hc,by rw [Cw hd];rfl⟩ (B6.update ..))⟩
def Oa {prog:Program}{w:World}{A:Around}{E:Value->Shared->Prop}{s:Shared}{α:Type}{Q:α->Shared->Prop} (hA:A.handled=none)
  (q:∀(h':Heap) (e:Addr),(∀b o,s.heap.get? b=some o->h'.get? b=some o)->(∃o,h'.get? e=some o/\o.cls=.type "StopIteration")->E (.ref e) {s with heap:=h'}):wpAny (model prog w) A (Builtin.SmallTypes.stopIteration (α:=α)) Q E s:=by
 unfold Builtin.SmallTypes.stopIteration newExc;refine Aa ?_;refine Aa (CJ ?_ (by show 0<=sizeLine;decide));refine Aa (Cc (a:=Ba) rfl ?_);refine Bd ?_ (sizeOk_excFields ..);unfold raiseNew;refine Aa (wpAny_handled ?_);rw [hA];refine wpAny_throw (q _ _ (fun b o e=>Al _ (Al _ e)) ⟨_,Ap _ rfl,rfl⟩)
def i9 {prog:Program}{w:World}{A:Around}{E:Value->Shared->Prop}{s:Shared}{it t:Addr}{i:Nat}{items:Array Value}{Q:Value->Shared->Prop} (hA:A.handled=none) (h:s.heap.IsTupleIter it t i) (ht:s.heap.IsTuple t items) (hx:items[i]?=none)
  (q:∀(h':Heap) (e:Addr),Ff it s.heap h'->(∃o,h'.get? e=some o/\o.cls=.type "StopIteration")->E (.ref e) {s with heap:=h'}):wpAny (model prog w) A (Builtin.SmallTypes.nextOf (.ref it)) Q E s:=by
 unfold Builtin.SmallTypes.nextOf;refine Aa (AM h.typeIs BZ (Bb BZ h.typeIs Dn ?_ (C9 _)));obtain⟨o,ho,hc,hd⟩:=id h;obtain⟨ot,hot,htc,n,htd⟩:=id ht;show wpAny _ _ (field (.ref it) 0 >>= fun seq=>_) _ _ s;refine Aa (AR ho hd rfl ?_);show wpAny _ _ (field (.ref it) 1 >>= fun seq=>_) _ _ s;refine Aa (AR ho hd rfl ?_);show wpAny _ _ (seqItems? (.ref t) >>= fun seq=>_) _ _ s;refine Aa (Bt hot htd ?_);show wpAny _ _ (match items[i]? with | some x=>(do setField (.ref it) 1 (rawInt ((i:Int)+1));ret x) | none=>(do rule _;setField (.ref it) 0 .none;Builtin.SmallTypes.stopIteration)) _ _ s;rw [hx];refine Aa (Cy ?_);refine Aa (Dx ho hd (show 0 < 2 by decide) ?_);refine Oa (A:=A.in1) hA fun h' e k ex=>q h' e (fun b o n eb=>k b o ?_) ex;rw [(B6.update _ _ _).2 b n];exact eb
def Inv.rL {X:Cx}{pins:List (Addr×Obj)}{σ:L2.St}{H:Hp}{s:Shared}{h':Heap}{t':Nat}{ch:List Addr}{a:Addr}{o:HO} (I:Inv X pins σ H s) (hf:∀b∈ch,uW X pins H b) (k:∀b u,b∉ch->s.heap.get? b=some u->h'.get? b=some u)
  (hp:s.heap.objs.size<=a) (new:bq X.prog X.w (upd H a o) h' a o):Inv X pins σ (upd H a o) {s with heap:=h',toks:=t'}:=by
 have hn:=I.bP.fresh hp;have Q1:∀b u,H b=some u->b∉ch:=fun b u e z=>by rw [(hf b z).1] at e;cases e
 have nL:X.env.locals∉ch:=fun z=>(hf _ z).2.1 rfl;refine I.step (g':=s.gens) (d':=s.drawn) (ch:=ch) (fun b hb=>⟨(hf b hb).2.2.2.1,(hf b hb).2.1,(hf b hb).2.2.2.2.1,(hf b hb).2.2.2.2.2⟩) (fun b u _ _ hc e _=>k b u hc e) (fun b u _ _ hc e _=>⟨u.slots,k b u hc e⟩)
  (fun b u _ e n=>by rw [av (AJ (Aw (Ao e) hp))];exact n) (fun b u hc e=>⟨u,k b u hc e⟩) (fun b xs e=>by rw [av (bH e hn)];exact e) (fun b u xs e=>by rw [av (bH e hn)];exact e)
  (fun b ps e=>⟨#[],by rw [av (bH e hn),e];simp⟩) (fun m hm=>?_) (fun b u e=>?_) I.bare
 ·obtain⟨o',es,ep,ho,r⟩:=hm;exact⟨o',es,ep,k _ o' nL ho,r⟩
 ·by_cases hb:b=a
  ·subst hb;rw [aO] at e;cases e;exact new
  ·rw [av hb] at e;refine (I.bP b u e).wg (fun c v hc q=>k c v ?_ q) (fun c q=>by rw [av (bH q hn)];exact q) fun c xs q=>by rw [av (bH q hn)];exact q
   rcases hc with z | z
   ·rw [z];exact Q1 b u e
   ·exact Q1 c _ z
def Inv.vW {X:Cx}{pins:List (Addr×Obj)}{σ:L2.St}{H:Hp}{s:Shared}{h':Heap}{t':Nat}{ch:List Addr} (I:Inv X pins σ H s) (hf:∀b∈ch,uW X pins H b) (k:∀b u,b∉ch->s.heap.get? b=some u->h'.get? b=some u) :
  Inv X pins σ H {s with heap:=h',toks:=t'}:=by
 have Q1:∀b u,H b=some u->b∉ch:=fun b u e z=>by rw [(hf b z).1] at e;cases e
 have nL:X.env.locals∉ch:=fun z=>(hf _ z).2.1 rfl;refine I.step (g':=s.gens) (d':=s.drawn) (ch:=ch) (fun b hb=>⟨(hf b hb).2.2.2.1,(hf b hb).2.1,(hf b hb).2.2.2.2.1,(hf b hb).2.2.2.2.2⟩) (fun b u _ _ hc e _=>k b u hc e) (fun b u _ _ hc e _=>⟨u.slots,k b u hc e⟩)
  (fun _ _ _ _ n=>n) (fun b u hc e=>⟨u,k b u hc e⟩) (fun _ _ e=>e) (fun _ _ _ e=>e) (fun b ps e=>⟨#[],by rw [e];simp⟩) (fun m hm=>?_) (fun b u e=>?_) I.bare
 ·obtain⟨o',es,ep,ho,r⟩:=hm;exact⟨o',es,ep,k _ o' nL ho,r⟩
 ·refine (I.bP b u e).wg (fun c v hc q=>k c v ?_ q) (fun _ q=>q) fun _ _ q=>q;rcases hc with z | z
  ·rw [z];exact Q1 b u e
  ·exact Q1 c _ z
def kA {xs:List V}{us:List Value} (h:Vals xs us):∀{i:Nat}{x:V},xs[i]?=some x->∃u,us[i]?=some u/\RelV x u:=by
 induction h with
 | nil=>intro i x e;simp at e
 | cons r t ih=>
  intro i x e;cases i with
  | zero=>simp at e;subst e;exact⟨_,rfl,r⟩
  | succ i=>exact ih (by simpa using e)
def qO {prog:Program}{w:World}{A:Around}{E:Value->Shared->Prop}{s:Shared}{e it t:Addr}{i:Nat}{old:Value}{items:Array Value}{x:Value}{Q:Value->Shared->Prop} (Kj:e≠it) (YS:t≠e) (PF:t≠it)
  (hz:IsEnum s.heap e it i old) (hi:s.heap.IsTupleIter it t i) (ht:s.heap.IsTuple t items) (hx:items[i]?=some x)
  (q:∀(h':Heap) (tk:Nat),IsEnumOut h' e it (i+1:Nat) x s.heap.objs.size->h'.IsTupleIter it t (i+1)->IsPair h' s.heap.objs.size (.int i s.toks) x->(∀c o,c≠e->c≠it->s.heap.get? c=some o->h'.get? c=some o)->Q (.ref s.heap.objs.size) {s with heap:=h',toks:=tk}) :
  wpAny (model prog w) A (Builtin.«enumerate.__next__» {pos:=[.ref e]}) (fun fin s'=>∃v,fin=Fh (Fg v)/\Q v s') E s:=by
 show wpAny _ _ (field (.ref e) 2 >>= fun r=>_) _ _ s;refine Aa (AR hz rfl rfl ?_);show wpAny _ _ (Builtin.SmallTypes.nextOf (.ref it) >>= fun r=>_) _ _ s;refine Aa (iq hi ht hx fun h1 j1 b1=>?_);have z1:IsEnum h1 e it i old:=(b1.2 _ Kj).trans hz;refine Aa (AR z1 rfl rfl ?_);show wpAny _ _ (field (.ref e) 4 >>= fun r=>_) _ _ _;refine Aa (AR z1 rfl rfl ?_);show wpAny _ _ (mkInt i >>= fun r=>_) _ _ _;refine Aa (wpAny_mkInt ?_);refine Aa (AX z1 (show 3 < 6 by decide) fun h2 z2 b2=>?_);refine Aa (AX z2 (show 4 < 6 by decide) fun h3 z3 b3=>?_);have sz3:h3.objs.size=s.heap.objs.size:=b3.1.trans (b2.1.trans b1.1);have get3:∀b,b≠e->b≠it->h3.get? b=s.heap.get? b:=fun b n1 n2=>(b3.2 b n1).trans ((b2.2 b n1).trans (b1.2 b n2));refine Aa (CJ ?_ (by show 2<=sizeLine;decide));have kp:∀b o,h3.get? b=some o->(h3.push {cls:=.type "tuple",data:=.seq [Dq i s.toks,x].toArray}).get? b=some o:=fun b o e=>Al _ e;have SY:(h3.push {cls:=.type "tuple",data:=.seq [Dq i s.toks,x].toArray}).get? h3.objs.size=some {cls:=.type "tuple",data:=.seq #[.int i s.toks,x]}:=Ap _ rfl;generalize h3.push {cls:=.type "tuple",data:=.seq [Dq i s.toks,x].toArray}=h4 at kp SY ⊢;have z4:h4.get? e=some {cls:=.type "enumerate",data:=.fields #[.none,.bool false,.ref it,rawInt (i+1),.none,old]}:=kp _ _ z3;refine Aa ?_;unfold Builtin.SmallTypes.ownedTupleIsFree;refine Aa (AR z4 rfl rfl ?_);refine Ah ?_;show wpAny _ _ (rule "enumerate.__next__.owned-tuple-again" >>= fun r=>_) _ _ _;refine Aa (Cy ?_);refine Aa (AR z4 rfl rfl ?_);refine Aa (AX z4 (show 5 < 6 by decide) fun h5 z5 b5=>?_);refine Aa ?_;show wpAny _ _ (setField (.ref e) 0 (rawInt h3.objs.size) >>= fun _=>setField (.ref e) 1 (.bool false)) _ _ _;refine Aa (AX z5 (show 0 < 6 by decide) fun h6 z6 b6=>?_);refine AX z6 (show 1 < 6 by decide) fun h7 z7 b7=>?_;refine Aa (C3 ?_);have TV:∀b,b≠e->h7.get? b=h4.get? b:=fun b n=>(b7.2 b n).trans ((b6.2 b n).trans (b5.2 b n));have ne:s.heap.objs.size≠e:=fun z=>by have:=Ao hz;rw [<- z] at this;exact AZ _ this
 refine Ah ⟨.ref h3.objs.size,rfl,?_⟩;rw [sz3] at z7 SY ⊢;refine q h7 _ ?_ ?_ ?_ ?_
 ·exact z7
 ·obtain⟨o,eo,p⟩:=j1;refine⟨o,?_,p⟩;rw [TV _ (Bx Kj)];exact kp _ _ ((b3.2 _ (Bx Kj)).trans ((b2.2 _ (Bx Kj)).trans eo))
 ·rw [IsPair,TV _ ne];exact SY
 ·intro c o n1 n2 ec;rw [TV _ n1];exact kp _ _ ((get3 _ n1 n2).trans ec)
def tK {prog:Program}{w:World}{A:Around}{E:Value->Shared->Prop}{s:Shared}{e it t:Addr}{i:Nat}{old:Value}{items:Array Value}{Q:PySem.Fin->Shared->Prop} (hA:A.handled=none)
  (hz:IsEnum s.heap e it i old) (hi:s.heap.IsTupleIter it t i) (ht:s.heap.IsTuple t items) (hx:items[i]?=none)
  (q:∀(h':Heap) (x:Addr),(∀c o,c≠it->s.heap.get? c=some o->h'.get? c=some o)->(∃o,h'.get? x=some o/\o.cls=.type "StopIteration")->E (.ref x) {s with heap:=h'}) :
  wpAny (model prog w) A (Builtin.«enumerate.__next__» {pos:=[.ref e]}) Q E s:=by
 show wpAny _ _ (field (.ref e) 2 >>= fun r=>_) _ _ s;refine Aa (AR hz rfl rfl ?_);show wpAny _ _ (Builtin.SmallTypes.nextOf (.ref it) >>= fun r=>_) _ _ s;exact Aa (i9 hA hi ht hx fun h' x k ex=>q h' x (fun c o n e'=>k c o n e') ex)
def nt {prog:Program}{w:World}{A:Around}{E:Value->Shared->Prop}{s:Shared}{e it t:Addr}{i:Nat}{old:Value}{items:Array Value}{x:Value}{Q:Option Value->Shared->Prop} (Kj:e≠it) (YS:t≠e) (PF:t≠it)
  (hz:IsEnum s.heap e it i old) (hi:s.heap.IsTupleIter it t i) (ht:s.heap.IsTuple t items) (hx:items[i]?=some x)
  (q:∀(h':Heap) (tk:Nat),IsEnumOut h' e it (i+1:Nat) x s.heap.objs.size->h'.IsTupleIter it t (i+1)->IsPair h' s.heap.objs.size (.int i s.toks) x->(∀c o,c≠e->c≠it->s.heap.get? c=some o->h'.get? c=some o)->Q (some (.ref s.heap.objs.size)) {s with heap:=h',toks:=tk}) :
  wpAny (model prog w) A (pyNext (.ref e)) Q E s:=by
 have ty:s.TypeIs (.ref e) "enumerate":=⟨_,hz,rfl⟩;unfold pyNext;refine Aa (Cu (AM ty Cj (Bb Cj ty Ee ?_ (D2 _))));exact qO Kj YS PF hz hi ht hx fun h' tk a b c d=>Ah (q h' tk a b c d)
def oU {prog:Program}{w:World}{A:Around}{E:Value->Shared->Prop}{s:Shared}{e it t:Addr}{i:Nat}{old:Value}{items:Array Value}{Q:Option Value->Shared->Prop} (hA:A.handled=none)
  (hz:IsEnum s.heap e it i old) (hi:s.heap.IsTupleIter it t i) (ht:s.heap.IsTuple t items) (hx:items[i]?=none)
  (q:∀h':Heap,(∀c o,c≠it->s.heap.get? c=some o->h'.get? c=some o)->Q none {s with heap:=h'}) :
  wpAny (model prog w) A (pyNext (.ref e)) Q E s:=by
 have ty:s.TypeIs (.ref e) "enumerate":=⟨_,hz,rfl⟩;unfold pyNext;refine Aa (Cu (AM ty Cj (Bb Cj ty Ee ?_ (D2 _))));refine tK (A:=A.in1) hA hz hi ht hx fun h' x k ex=>?_;obtain⟨o,eo,hc⟩:=ex;refine Aa (CT (T:="StopIteration") ⟨o,eo,hc⟩ isSubtype_stop ?_);rw [if_pos rfl];exact Ah (q h' k)
def qC (t:Addr) (items:Array Value):Meets (Builtin.«enumerate.__new__» {pos:=[.type "enumerate",.ref t]}) (fun _ R s=>s.heap.IsTuple t items/\
  ∀h':Heap,IsEnum h' (s.heap.objs.size+1) s.heap.objs.size (0:Nat) .none->h'.IsTupleIter s.heap.objs.size t 0->(∀b o,s.heap.get? b=some o->h'.get? b=some o)->R (.ok (.ret (.ref (s.heap.objs.size+1)))) {s with heap:=h'}):=
 .of_wp fun prog w A R s h=>by
  obtain⟨h1,q⟩:=h;unfold Builtin.«enumerate.__new__»;refine Aa ?_;unfold Builtin.SmallTypes.newClass;refine Aa (Cc (a:=true) rfl ?_);rw [if_neg (by decide)];refine Aa (Cc sub_enumerate ?_);rw [if_neg (by decide)];refine Ah ?_;show wpAny _ _ (Builtin.SmallTypes.calledThroughType (.type "enumerate") >>= fun r=>_) _ _ s;refine Aa ?_;unfold Builtin.SmallTypes.calledThroughType;refine Aa (wpAny_stack_any fun st=>Ah ?_);have fin:wpAny (model prog w) A.in1 (pyIter (.ref t) >>= fun it=>(Builtin.SmallTypes.newRecord (.type "enumerate") (Builtin.SmallTypes.ownedTupleFields++[it,rawInt 0,.none,.none]) >>= fun r=>ret r)) (fun fin s'=>∃v,fin=Fh (Fg v)/\R (Except.ok (Fg v)) s') (fun e s'=>R (Except.error e) s') s:=by
   refine Aa (Dy h1 ?_);have k1:∀b o,s.heap.get? b=some o->(s.heap.push {cls:=.type "tuple_iterator",data:=.fields #[.ref t,.int 0 0]}).get? b=some o:=fun b o e=>Al _ e;have g1:(s.heap.push {cls:=.type "tuple_iterator",data:=.fields #[.ref t,.int 0 0]}).get? s.heap.objs.size=some {cls:=.type "tuple_iterator",data:=.fields #[.ref t,.int 0 0]}:=Ap _ rfl;have z1:(s.heap.push {cls:=.type "tuple_iterator",data:=.fields #[.ref t,.int 0 0]}).objs.size=s.heap.objs.size+1:=Cn ..;generalize s.heap.push {cls:=.type "tuple_iterator",data:=.fields #[.ref t,.int 0 0]}=uk at k1 g1 z1 ⊢;show wpAny _ _ (newObj (.type "enumerate") (.fields #[.none,.bool false,.ref s.heap.objs.size,rawInt 0,.none,.none]) >>= fun r=>ret r) _ _ _;refine Aa (Bd ?_ (by simp [sizeOk];decide));have g2:(uk.push {cls:=.type "enumerate",data:=.fields #[.none,.bool false,.ref s.heap.objs.size,rawInt 0,.none,.none]}).get? uk.objs.size=some {cls:=.type "enumerate",data:=.fields #[.none,.bool false,.ref s.heap.objs.size,rawInt 0,.none,.none]}:=Ap _ rfl;refine Ah ⟨.ref uk.objs.size,rfl,?_⟩;rw [z1] at g2 ⊢;exact q _ g2 ⟨_,Al _ g1,rfl,rfl⟩ fun b o e=>Al _ (k1 _ _ e)
  dsimp only;refine wpAny_ite_split (fun _=>?_) (fun _=>?_)
  ·exact Aa (Cc (a:=(Av t,none)) rfl fin)
  ·exact Aa (Cc (a:=(Av t,none)) rfl fin)
def GS {prog:Program}{w:World}{A:Around}{E:Value->Shared->Prop}{s:Shared}{t:Addr}{items:Array Value}{Q:Value->Shared->Prop} (h1:s.heap.IsTuple t items)
  (q:∀h':Heap,IsEnum h' (s.heap.objs.size+1) s.heap.objs.size (0:Nat) .none->h'.IsTupleIter s.heap.objs.size t 0->(∀b o,s.heap.get? b=some o->h'.get? b=some o)->Q (.ref (s.heap.objs.size+1)) {s with heap:=h'}) :
  wpAny (model prog w) A (call (.type "enumerate") [.ref t]) Q E s:=
 callType_new F.called_enumerate (by decide) (F.typeCall_enumerate_1 _) (F.newCall_enumerate_1 _) (fun o=>F.args_object_init_2 o _) F.entry_enumerate_new (qC t items) ⟨h1,fun h' z i k=>⟨⟨_,z,rfl⟩,q h' z i k⟩⟩
def Ite (K:Ab) (a:Addr):It where
 go:=fun i H=>∃xs x,da K H a xs/\xs[i]?=some x
 QN:=fun i H v H'=>∃p x,v=.ref p/\H p=none/\H'=upd H p (.tup [.int i,x])/\∀xs,da K H a xs->xs[i]?=some x
 stop:=fun i H=>∃xs,da K H a xs/\xs.length<=i
def IH {P:Program}{w:World}{K:Ab}{elts:List Expr}{kk:Nat}{pos:Pos}{e it t:Addr} (Kj:e≠it) (YS:t≠e) (PF:t≠it):Turn P w K (.Tuple elts kk pos) (Ite K t) [e,it] e (fun i h=>(∃old,IsEnum h e it (i:Nat) old)/\h.IsTupleIter it t i) where
 mem:=by simp
 obj:=fun i h st b hb=>by
  simp only [Az,Br,or_false] at hb;rcases hb with rfl | rfl
  ·obtain⟨⟨_,e⟩,_⟩:=st;exact⟨_,e,fun v z=>by cases z⟩
  ·obtain⟨_,⟨o,e,_,d⟩⟩:=st;exact⟨o,e,fun v z=>by rw [d] at z;cases z⟩
 keep:=fun i h h' st k=>⟨let ⟨o,e'⟩:=st.1;⟨o,k e (by simp) _ e'⟩,let ⟨o,e',p⟩:=st.2;⟨o,k it (by simp) _ e',p⟩⟩
 item:=by
  intro X hP hw hK hc i pins s σ H E I hf st hg;subst hP hw hK;obtain⟨xs,x,hx,gx⟩:=hg;obtain⟨aq,rx,tx,_⟩:=I.tuple hx;obtain⟨u,gu,ru⟩:=kA rx gx;obtain⟨⟨old,hz⟩,hi⟩:=st;refine nt Kj YS PF hz hi tx (by simpa using gu) fun h' tk zo j np k=>?_;refine⟨_,rfl,?_⟩;refine Dz zo fun h2 z2 b2=>?_;have le:e < s.heap.objs.size:=Ao hz;have li:it < s.heap.objs.size:=let ⟨_,e',_⟩:=hi;Ao e';have lt:∀b∈[e,it],b < s.heap.objs.size:=fun b hb=>by
   simp only [Az,Br,or_false] at hb;rcases hb with rfl | rfl
   ·exact le
   ·exact li
  have nz:s.heap.objs.size≠e:=fun z=>AZ _ (by have:=le;rw [<- z] at this;exact this);have WN:∀b o,b∉[e,it]->s.heap.get? b=some o->h2.get? b=some o:=fun b o hb e'=>by
   have Gy:b≠e:=fun q=>hb (by simp [q]);rw [b2.2 b Gy];exact k b o Gy (fun q=>hb (by simp [q])) e'
  have WC:h2.get? s.heap.objs.size=some {cls:=.type "tuple",data:=.seq #[.int i s.toks,u]}:=(b2.2 _ nz).trans np;have Xo:=I.bP.fresh (Am s.heap.objs.size);refine⟨.ref s.heap.objs.size,upd H s.heap.objs.size (.tup [.int i,x]),I.rL (t':=tk) hf WN (Am _) ⟨by show 2<=sizeLine;decide,[.int i s.toks,u],.cons ⟨_,rfl⟩ (.cons ru .nil),⟨_,WC,rfl,_,rfl⟩⟩,rfl,⟨_,x,rfl,Xo,rfl,fun xs' h'=>by rw [I.lI h' hx];exact gx⟩,⟨⟨_,z2⟩,let ⟨o,e',p⟩:=j;⟨o,(b2.2 _ (Bx Kj)).trans e',p⟩⟩,fun b hb=>?_⟩;rw [av (AJ (lt b hb))];exact (hf b hb).1
 done:=by
  intro X hP hw hK hc i pins s σ H E I hf st hg;subst hP hw hK;obtain⟨xs,hx,hl⟩:=hg;obtain⟨aq,rx,tx,_⟩:=I.tuple hx;have el:=rx.length;obtain⟨⟨old,hz⟩,hi⟩:=st;refine oU (I.ok.hd hc) hz hi tx (by simp;omega) fun h' k=>⟨rfl,I.vW (t':=s.toks) hf fun b o hb e'=>k b o (fun z=>hb (by simp [z])) e'⟩
 self:=fun A i s Q E st h=>let ⟨_,e'⟩:=st.1;CI e' h
end L2
namespace My
open PySem PySem.Spec PyProof.Rows L2
def Nx (l:List V) (i:Nat):Ent->List V
 | .word _=>l
 | .pair a b=>(l.set a (.int i)).set b (.int i)
def ah:List Ent->Nat->List V->List V
 | [],_,l=>l
 | e::es,i,l=>ah es (i+1) (Nx l i e)
theorem xZ:∀(es:List Ent) (e:Ent) (i:Nat) (l:List V),ah (es++[e]) i l=Nx (ah es i l) (i+es.length) e
 | [],e,i,l=>rfl
 | x::es,e,i,l=>by
  show ah (es++[e]) (i+1) (Nx l i x)=Nx (ah es (i+1) (Nx l i x)) (i+(es.length+1)) e;rw [xZ es e];congr 1;omega
def Qy (l:List V) (i:Nat) (e:Ent):(Nx l i e).length=l.length:=by cases e with
 | word=>rfl
 | pair=>show ((l.set _ _).set _ _).length=_;rw [BR,BR]
theorem GZ:∀(es:List Ent) (i:Nat) (l:List V),(ah es i l).length=l.length
 | [],_,_=>rfl
 | e::es,i,l=>by show (ah es (i+1) (Nx l i e)).length=_;rw [GZ es,Qy]
end My
namespace L2
open PySem PySem.Spec PyProof.Rows
def V6 (K:Ab):V->V->Hp->VK->Prop:=fun o i H Q=>∃p xs k x,o=.ref p/\i=.int k/\cT K H p xs/\0<=k/\k < 1000/\xs[k.toNat]?=some x/\Q x H
def Mt {X:Cx} (K:Ab) (hK:X.K=K):Yh X (V6 K):=fun pins s σ H o i ov iv Q I ro ri h=>by
 obtain⟨p,xs,k,x,rfl,rfl,hp,k0,k1,hx,q⟩:=h;subst hK;cases ro;obtain⟨t,rfl⟩:=ri;obtain⟨aq,r,pl,hz⟩:=I.list hp;obtain⟨u,gu,ru⟩:=kA r hx;exact wpAny_getItem_list pl.isList k0 (by omega) (by simpa using gu) ⟨x,H,I,ru,q⟩
end L2
namespace My
open PySem PySem.Spec PyProof.Rows L2
def Ks {x y:Str}{c:Nat} (a:Part x 1) (b:Part y 6) (h0:97<=c) (h1:c < 123):Wd (x++⟨#[c]⟩++y):=by
 have q:=(a.append (Lx h0 h1)).append b;refine⟨?_,q.1,q.2⟩;rw [CF,CF];show 1<=x.length+1+y.length;omega
end My
namespace L2
open PySem PySem.Spec PyProof.Rows
def Itd (lo:Int) (n:Nat):It:=⟨fun i _=>i < n,fun i H x H'=>H'=H/\x=.int (lo-i),fun i _=>n<=i⟩
def yH {P:Program}{w:World}{K:Ab}{tg:Expr} (it:Addr) (lo:Int) (n:Nat):Turn P w K tg (Itd lo n) [it] it (fun i h=>IsRangeIter h it (lo+(i:Nat)*(-1)) ((n:Int)-(i:Nat)) (-1)) where
 mem:=by simp
 obj:=fun i h st b hb=>by
  have e:b=it:=by simpa using hb
  subst e;exact⟨_,st,fun v z=>by
   have z':Data.fields _=Data.cell v:=z;cases z'⟩
 keep:=fun i h h' st k=>k it (by simp) _ st
 item:=by
  intro X hP hw hK hc i pins s σ H E I hf st hg;subst hP hw hK;obtain⟨f0,f1,f2,f3,f4,f5⟩:=hf it (by simp);have W:=Walks.range (prog:=X.prog) (w:=X.w) (I.ok.hd hc) it lo (-1) n;refine W.item i s _ _ hg st fun v h' tk hv Hl kk=>?_;obtain⟨t,rfl⟩:=hv;have I1:Inv X pins σ H {s with heap:=h',toks:=tk}:=I.turned (fun b o hb e=>kk b o (by simpa using hb) e) f0 f1 f3 f4 f5;refine⟨_,rfl,zF (s:={s with heap:=h',toks:=tk}) (n:="range_iterator") Hl rfl rfl (by decide) ⟨.int (lo-i),H,I1,⟨t,?_⟩,⟨rfl,rfl⟩,Hl,fun b hb=>(hf b hb).1⟩⟩;rw [show lo+(i:Int)*(-1)=lo-i by omega]
 done:=by
  intro X hP hw hK hc i pins s σ H E I hf st hg;subst hP hw hK;obtain⟨f0,f1,f2,f3,f4,f5⟩:=hf it (by simp);exact wpAny_pyNext_range_end (I.ok.hd hc) st (by have:n<=i:=hg;omega) fun h' eb=>⟨rfl,I.turned (t':=s.toks) (fun b o hb e=>eb b o hb e) f0 f1 f3 f4 f5⟩
 self:=fun _ _ _ _ _ st h=>wpAny_pyIter_rangeiter st h
section
variable {X:Cx}{tg:Expr}
def Jb {pins:List (Addr×Obj)}{σ:St}{H:Hp}{s:Shared}{R:It->Hp->Prop}{E:Value->Shared->Prop}{lo hi:Int}{t u v:Tok}{tk:Nat} (I:Inv X pins σ H s) (h1:-(2 ^ 62)<=lo) (h2:lo < 2 ^ 62) (h3:-(2 ^ 62)<=hi) (h4:hi < 2 ^ 62)
  (q:R (Itd lo (lo-hi).toNat) H):wpAny (model X.prog X.w) X.A (pyIter (.ref s.heap.objs.size)) (PIE X pins σ tg R) E {s with heap:=s.heap.push {cls:=.type "range",data:=.fields #[.int lo t,.int hi u,.int (-1) v]},toks:=tk}:=by
 refine wpAny_pyIter_range (IsRange.new ..) (PySem.W.small_down h1 h2 h3 h4) ?_;have I1:Inv X pins σ H {s with heap:=s.heap.push {cls:=.type "range",data:=.fields #[.int lo t,.int hi u,.int (-1) v]},toks:=tk}:=I.kept fun b o e=>Al _ e;refine⟨(s.heap.push {cls:=.type "range",data:=.fields #[.int lo t,.int hi u,.int (-1) v]}).objs.size,[(s.heap.push {cls:=.type "range",data:=.fields #[.int lo t,.int hi u,.int (-1) v]}).objs.size],_,_,H,rfl,
  I1.kept (t':=tk) fun b o e=>Al _ e,yH _ lo (lo-hi).toNat,?_,fun b hb=>?_,q⟩
 ·have e1:lo+((0:Nat):Int)*(-1)=lo:=by simp
  have e2:(((lo-hi).toNat:Nat):Int)-((0:Nat):Int)=Builtin.Range.rangeSize lo hi (-1):=by rw [PySem.W.rangeSize_down];split <;> omega
  show IsRangeIter _ _ (lo+((0:Nat):Int)*(-1)) ((((lo-hi).toNat:Nat):Int)-((0:Nat):Int)) (-1);rw [e1,e2];exact Ap _ rfl
 ·have e:b=(s.heap.push {cls:=.type "range",data:=.fields #[.int lo t,.int hi u,.int (-1) v]}).objs.size:=by simpa using hb
  subst e;exact I1.zH (Am _) (I1.bP.fresh (Am _))
def WZ (ta:TA):TI:=fun σ H R=>ta σ H fun vs H1=>∃i j:Int,vs=[.int i,.int j,.int (-1)]/\(-(2 ^ 62)<=i/\i < 2 ^ 62/\-(2 ^ 62)<=j/\j < 2 ^ 62)/\R (Itd i (i-j).toNat) H1
def Jg {a b c:Expr}{ta:TA}{p pos:Pos} (hg:Gl X "range") (hm:X.mg "range"=none) (ha:PA X [a,b,c] ta) (hs:starEach [a,b,c] X.env=[(false,eval a X.env),(false,eval b X.env),(false,eval c X.env)]:=by rfl) (rh:starEach [b,c] X.env=[(false,eval b X.env),(false,eval c X.env)]:=by rfl) :
  PI X tg (.Call (.Name "range" p) [a,b,c] [] pos) (WZ ta):=by
 intro pins s σ H R I h;refine Call_ (jE I hg hm boot_range (A8 (cj (ha pos pins s σ H _ I h) fun us s1 ⟨vs,H1,I1,r1,q1⟩=>?_) (by rw [hs,rh]) (by rw [rh];rfl)));obtain⟨i,j,e,⟨q1,q2,q3,q4⟩,q⟩:=q1;subst e;cases r1 with
 | cons r rr=>
  cases rr with
  | cons r' rr=>
   cases rr with
   | cons r'' rr=>
    cases rr;obtain⟨t,rfl⟩:=r;obtain⟨t',rfl⟩:=r';obtain⟨t'',rfl⟩:=r'';refine call_range_3 (by decide) (Jb I1 q1 q2 q3 q4 q) (.inl ?_);unfold Builtin.divisionGoesByPylong;have e1:decide ((if ((-1:Int)==0)=true then 0 else (-1:Int).natAbs.log2 / 30+1) > 300)=false:=by decide
    simp only [e1,EO]
end
def Yk (K:Ab) (a:Addr):It where
 go:=fun i H=>∃xs x,cT K H a xs/\xs[i]?=some x
 QN:=fun i H v H'=>∃p x,v=.ref p/\H p=none/\H'=upd H p (.tup [.int i,x])/\∀xs,cT K H a xs->xs[i]?=some x
 stop:=fun i H=>∃xs,cT K H a xs/\xs.length<=i
def FN {P:Program}{w:World}{K:Ab}{elts:List Expr}{kk:Nat}{pos:Pos}{e it t:Addr} (Kj:e≠it):Turn P w K (.Tuple elts kk pos) (Yk K t) [e,it] e (fun i h=>(∃old,IsEnum h e it (i:Nat) old)/\h.IsListIter it t i) where
 mem:=by simp
 obj:=fun i h st b hb=>by
  simp only [Az,Br,or_false] at hb;rcases hb with rfl | rfl
  ·obtain⟨⟨_,e⟩,_⟩:=st;exact⟨_,e,fun v z=>by cases z⟩
  ·obtain⟨_,⟨o,e,_,d⟩⟩:=st;exact⟨o,e,fun v z=>by rw [d] at z;cases z⟩
 keep:=fun i h h' st k=>⟨let ⟨o,e'⟩:=st.1;⟨o,k e (by simp) _ e'⟩,let ⟨o,e',p⟩:=st.2;⟨o,k it (by simp) _ e',p⟩⟩
 item:=by
  intro X hP hw hK hc i pins s σ H E I hf st hg;subst hP hw hK;obtain⟨xs,x,hx,gx⟩:=hg;obtain⟨aq,rx,tx,_⟩:=I.list hx;obtain⟨u,gu,ru⟩:=kA rx gx;obtain⟨⟨old,hz⟩,hi⟩:=st;refine wpAny_pyNext_enum_item hz hi tx.isList (by simpa using gu) Kj fun h' zo j np _ k=>?_;refine⟨_,rfl,?_⟩;refine Dz zo fun h2 z2 b2=>?_;have le:e < s.heap.objs.size:=Ao hz;have li:it < s.heap.objs.size:=let ⟨_,e',_⟩:=hi;Ao e';have lt:∀b∈[e,it],b < s.heap.objs.size:=fun b hb=>by
   simp only [Az,Br,or_false] at hb;rcases hb with rfl | rfl
   ·exact le
   ·exact li
  have nz:s.heap.objs.size≠e:=fun z=>AZ _ (by have:=le;rw [<- z] at this;exact this);have WN:∀b o,b∉[e,it]->s.heap.get? b=some o->h2.get? b=some o:=fun b o hb e'=>by
   have Gy:b≠e:=fun q=>hb (by simp [q]);rw [b2.2 b Gy];exact k b o Gy (fun q=>hb (by simp [q])) e'
  have WC:h2.get? s.heap.objs.size=some {cls:=.type "tuple",data:=.seq #[.int i s.toks,u]}:=(b2.2 _ nz).trans np;have Xo:=I.bP.fresh (Am s.heap.objs.size);refine⟨.ref s.heap.objs.size,upd H s.heap.objs.size (.tup [.int i,x]),I.rL (t':=s.toks+1) hf WN (Am _) ⟨by show 2<=sizeLine;decide,[.int i s.toks,u],.cons ⟨_,rfl⟩ (.cons ru .nil),⟨_,WC,rfl,_,rfl⟩⟩,rfl,⟨_,x,rfl,Xo,rfl,fun xs' h'=>by rw [I.zl h' hx];exact gx⟩,⟨⟨_,z2⟩,let ⟨o,e',p⟩:=j;⟨o,(b2.2 _ (Bx Kj)).trans e',p⟩⟩,fun b hb=>?_⟩;rw [av (AJ (lt b hb))];exact (hf b hb).1
 done:=by
  intro X hP hw hK hc i pins s σ H E I hf st hg;subst hP hw hK;obtain⟨xs,hx,hl⟩:=hg;obtain⟨aq,rx,tx,_⟩:=I.list hx;have el:=rx.length;obtain⟨⟨old,hz⟩,hi⟩:=st;refine wpAny_pyNext_enum_end (I.ok.hd hc) hz hi tx.isList (by simp;omega) fun h' k=>⟨rfl,I.vW (t':=s.toks) hf fun b o hb e'=>k b o (fun z=>hb (by simp [z])) e'⟩
 self:=fun A i s Q E st h=>let ⟨_,e'⟩:=st.1;CI e' h
end L2
namespace My
open PySem PySem.Spec PyProof.Rows L2
def en:Tr->Nat->Nat->Ent
 | .leaf x,_,_=>.word x
 | .node l r,o,j=>if j < l.size then en l o j else if j < l.size+r.size then en r (o+l.size) (j-l.size) else .pair (o+l.size-1) (o+l.size+r.size-1)
def up:Tr->Nat->Nat->List Nat->List Nat
 | .leaf _,o,_,ab=>o::ab
 | .node l r,o,j,ab=>if j < l.size then up l o j ((o+l.size+r.size)::ab) else if j < l.size+r.size then up r (o+l.size) (j-l.size) ((o+l.size+r.size)::ab) else (o+l.size+r.size)::ab
def kr:Tr->Nat->Nat->V->V
 | .leaf _,_,_,p=>p
 | .node l r,o,j,p=>if j < l.size then kr l o j (.int (o+l.size+r.size:Nat)) else if j < l.size+r.size then kr r (o+l.size) (j-l.size) (.int (o+l.size+r.size:Nat)) else p
def be:Tr->Nat->Nat->List Nat
 | .leaf _,o,_=>[o]
 | .node l r,o,j=>if j < l.size then be l o j else if j < l.size+r.size then be r (o+l.size) (j-l.size) else be l o (l.size-1)++be r (o+l.size) (r.size-1)
theorem gj:∀(t:Tr) (o j:Nat),j < t.size->(t.nd o)[j]?=some (en t o j)
 | .leaf x,o,j,h=>by
  have:j=0:=by have:j < 1:=h;omega
  subst this;rfl
 | .node l r,o,j,h=>by
  have es:(Tr.node l r).size=l.size+r.size+1:=rfl;have hn:(Tr.node l r).nd o=l.nd o++r.nd (o+l.size)++[.pair (o+l.size-1) (o+l.size+r.size-1)]:=rfl;have ln:=l.bf o;have rn:=r.bf (o+l.size);unfold en;by_cases c1:j < l.size
  ·rw [if_pos c1,hn,A5,Ay (by omega)];exact gj l o j c1
  ·rw [if_neg c1];by_cases c2:j < l.size+r.size
   ·rw [if_pos c2,hn,A5,Ax (by omega),Ay (by omega),ln];exact gj r _ _ (by omega)
   ·rw [if_neg c2,hn,Ax (by rw [Ad];omega),Ad,ln,rn];have:j-(l.size+r.size)=0:=by omega
    rw [this];rfl
theorem Nl:∀(t:Tr) (o j:Nat),j < t.size->(∃x,en t o j=.word x/\be t o j=[o+j])\/∃a b,en t o j=.pair (o+a) (o+b)/\a < j/\b < j/\be t o j=be t o a++be t o b
 | .leaf x,o,j,h=>by
  have:j=0:=by have:j < 1:=h;omega
  subst this;exact .inl ⟨x,rfl,rfl⟩
 | .node l r,o,j,h=>by
  have es:(Tr.node l r).size=l.size+r.size+1:=rfl;have lp:=l.size_pos;have rp:=r.size_pos;by_cases c1:j < l.size
  ·have e1:en (.node l r) o j=en l o j:=by rw [en,if_pos c1]
   have e2:∀k,k < l.size->be (.node l r) o k=be l o k:=fun k hk=>by rw [be,if_pos hk]
   rw [e1];rcases Nl l o j c1 with⟨x,q1,q2⟩ | ⟨a,b,q1,q2,q3,q4⟩
   ·exact .inl ⟨x,q1,by rw [e2 j c1];exact q2⟩
   ·exact .inr ⟨a,b,q1,q2,q3,by rw [e2 j c1,e2 a (by omega),e2 b (by omega)];exact q4⟩
  ·by_cases c2:j < l.size+r.size
   ·have e1:en (.node l r) o j=en r (o+l.size) (j-l.size):=by rw [en,if_neg c1,if_pos c2]
    have e2:∀k,k < r.size->be (.node l r) o (l.size+k)=be r (o+l.size) k:=fun k hk=>by
     rw [be,if_neg (by omega),if_pos (by omega)];congr 1;omega
    have ej:j=l.size+(j-l.size):=by omega
    rw [e1];rcases Nl r (o+l.size) (j-l.size) (by omega) with⟨x,q1,q2⟩ | ⟨a,b,q1,q2,q3,q4⟩
    ·refine .inl ⟨x,q1,?_⟩;rw [ej,e2 _ (by omega),q2];congr 1;omega
    ·refine .inr ⟨l.size+a,l.size+b,?_,by omega,by omega,?_⟩
     ·rw [q1,A7,A7]
     ·rw [e2 a (by omega),e2 b (by omega),ej,e2 _ (by omega),q4]
   ·have ej:j=l.size+r.size:=by omega
    refine .inr ⟨l.size-1,l.size+r.size-1,?_,by omega,by omega,?_⟩
    ·rw [en,if_neg c1,if_neg c2];congr 1 <;> omega
    ·rw [be,if_neg c1,if_neg c2,be,if_pos (by omega),be,if_neg (by omega),if_pos (by omega)];congr 2;omega
theorem rJ:∀(t:Tr) (o j:Nat) (p:V) (ab:List Nat),j < t.size->(j=t.size-1/\kr t o j p=p/\up t o j ab=(o+j)::ab)\/∃a,j < a/\a < t.size/\kr t o j p=.int (o+a:Nat)/\up t o j ab=(o+j)::up t o a ab
 | .leaf x,o,j,p,ab,h=>by
  have:j=0:=by have:j < 1:=h;omega
  subst this;exact .inl ⟨rfl,rfl,rfl⟩
 | .node l r,o,j,p,ab,h=>by
  have es:(Tr.node l r).size=l.size+r.size+1:=rfl;have lp:=l.size_pos;have rp:=r.size_pos;have er:up (.node l r) o (l.size+r.size) ab=(o+l.size+r.size)::ab:=by rw [up,if_neg (by omega),if_neg (by omega)]
  by_cases c1:j < l.size
  ·have e1:kr (.node l r) o j p=kr l o j (.int (o+l.size+r.size:Nat)):=by rw [kr,if_pos c1]
   have e2:∀k,k < l.size->up (.node l r) o k ab=up l o k ((o+l.size+r.size)::ab):=fun k hk=>by rw [up,if_pos hk]
   rw [e1,e2 j c1];rcases rJ l o j (.int (o+l.size+r.size:Nat)) ((o+l.size+r.size)::ab) c1 with⟨q1,q2,q3⟩ | ⟨a,q1,q2,q3,q4⟩
   ·refine .inr ⟨l.size+r.size,by omega,by omega,by rw [q2,A7],by rw [q3,er]⟩
   ·exact .inr ⟨a,q1,by omega,q3,by rw [q4,e2 a q2]⟩
  ·by_cases c2:j < l.size+r.size
   ·have e1:kr (.node l r) o j p=kr r (o+l.size) (j-l.size) (.int (o+l.size+r.size:Nat)):=by rw [kr,if_neg c1,if_pos c2]
    have e2:∀k,k < r.size->up (.node l r) o (l.size+k) ab=up r (o+l.size) k ((o+l.size+r.size)::ab):=fun k hk=>by
     rw [up,if_neg (by omega),if_pos (by omega)];congr 1;omega
    obtain⟨i,rfl⟩:∃i,j=l.size+i:=⟨j-l.size,by omega⟩;have ei:l.size+i-l.size=i:=by omega
    rw [e1,e2 i (by omega),ei];rcases rJ r (o+l.size) i (.int (o+l.size+r.size:Nat)) ((o+l.size+r.size)::ab) (by omega) with⟨q1,q2,q3⟩ | ⟨a,q1,q2,q3,q4⟩
    ·refine .inr ⟨l.size+r.size,by omega,by omega,by rw [q2,A7],by rw [q3,er,A7]⟩
    ·exact .inr ⟨l.size+a,by omega,by omega,by rw [q3,A7],by rw [q4,e2 a q2,A7]⟩
   ·have ej:j=l.size+r.size:=by omega
    refine .inl ⟨by omega,by rw [kr,if_neg c1,if_neg c2],?_⟩;rw [ej,er,A7]
def mm:Tr->Nat->V->List V
 | .leaf _,_,p=>[p]
 | .node l r,o,p=>mm l o (.int (o+l.size+r.size:Nat))++mm r (o+l.size) (.int (o+l.size+r.size:Nat))++[p]
theorem j9:∀(t:Tr) (o:Nat) (p:V),(mm t o p).length=t.size
 | .leaf _,_,_=>rfl
 | .node l r,o,p=>by
  unfold mm;rw [Ad,Ad,j9 l,j9 r];rfl
def Im (t:Tr) (o:Nat) (p q:V) (A B:List V):(A++mm t o p++B).set (A.length+t.size-1) q=A++mm t o q++B:=by
 have key:∃I,mm t o p=I++[p]/\mm t o q=I++[q]:=by
  cases t with
  | leaf _=>exact⟨[],rfl,rfl⟩
  | node l r=>exact⟨_,rfl,rfl⟩
 obtain⟨I,e1,e2⟩:=key;have h1:=j9 t o p;rw [e1,Ad] at h1;have jF:I.length+1=t.size:=h1;rw [e1,e2];have ei:A.length+t.size-1=(A++I).length:=by rw [Ad];omega
 rw [ei,show A++(I++[p])++B=(A++I)++p::B by simp,EA _ _ (Am _),B8];simp
theorem Nw:∀(es fs:List Ent) (i:Nat) (l:List V),ah (es++fs) i l=ah fs (i+es.length) (ah es i l)
 | [],fs,i,l=>rfl
 | e::es,fs,i,l=>by
  show ah (es++fs) (i+1) (Nx l i e)=ah fs (i+(es.length+1)) (ah es (i+1) (Nx l i e));rw [Nw es fs];congr 1;omega
theorem G0:∀(t:Tr) (A B:List V),ah (t.nd A.length) A.length (A++Ak t.size .aU++B)=A++mm t A.length .aU++B
 | .leaf x,A,B=>rfl
 | .node l r,A,B=>by
  have es:(Tr.node l r).size=l.size+r.size+1:=rfl;have lp:=l.size_pos;have rp:=r.size_pos;have hn:(Tr.node l r).nd A.length=l.nd A.length++r.nd (A.length+l.size)++[.pair (A.length+l.size-1) (A.length+l.size+r.size-1)]:=rfl;have ln:=l.bf A.length;have rn:=r.bf (A.length+l.size);have h1:=G0 l A (Ak r.size .aU++([V.aU]++B));have e0:A++Ak (Tr.node l r).size V.aU++B=A++Ak l.size .aU++(Ak r.size .aU++([V.aU]++B)):=by
   rw [es,<- CO,<- CO];simp only [A5];rfl
  rw [hn,xZ,Nw,e0,h1,ln];have la:(A++mm l A.length V.aU).length=A.length+l.size:=by rw [Ad,j9]
  have h2:=G0 r (A++mm l A.length V.aU) ([V.aU]++B);rw [la] at h2;have e1:A++mm l A.length V.aU++(Ak r.size V.aU++([V.aU]++B))=A++mm l A.length V.aU++Ak r.size V.aU++([V.aU]++B):=by simp [A5]
  rw [e1,h2,Ad,ln,rn];show ((_:List V).set (A.length+l.size-1) _).set (A.length+l.size+r.size-1) _=_;have s1:=Im l A.length .aU (.int (A.length+(l.size+r.size):Nat)) A (mm r (A.length+l.size) V.aU++([V.aU]++B));have e2:A++mm l A.length V.aU++mm r (A.length+l.size) V.aU++([V.aU]++B)=A++mm l A.length V.aU++(mm r (A.length+l.size) V.aU++([V.aU]++B)):=by simp [A5]
  rw [e2,s1];have lb:(A++mm l A.length (V.int (A.length+(l.size+r.size):Nat))).length=A.length+l.size:=by rw [Ad,j9]
  have s2:=Im r (A.length+l.size) .aU (.int (A.length+(l.size+r.size):Nat)) (A++mm l A.length (V.int (A.length+(l.size+r.size):Nat))) ([V.aU]++B);rw [lb] at s2;have e3:A++mm l A.length (V.int (A.length+(l.size+r.size):Nat))++(mm r (A.length+l.size) V.aU++([V.aU]++B))=A++mm l A.length (V.int (A.length+(l.size+r.size):Nat))++mm r (A.length+l.size) V.aU++([V.aU]++B):=by simp [A5]
  rw [e3,s2];have e4:mm (.node l r) A.length .aU=mm l A.length (.int (A.length+l.size+r.size:Nat))++mm r (A.length+l.size) (.int (A.length+l.size+r.size:Nat))++[.aU]:=rfl;rw [e4,A7 A.length l.size r.size];simp [A5]
theorem xX:∀(t:Tr) (o j:Nat) (p:V),j < t.size->(mm t o p)[j]?=some (kr t o j p)
 | .leaf x,o,j,p,h=>by
  have:j=0:=by have:j < 1:=h;omega
  subst this;rfl
 | .node l r,o,j,p,h=>by
  have es:(Tr.node l r).size=l.size+r.size+1:=rfl;have ln:=j9 l o (.int (o+l.size+r.size:Nat));have rn:=j9 r (o+l.size) (.int (o+l.size+r.size:Nat));unfold mm kr;by_cases c1:j < l.size
  ·rw [if_pos c1,A5,Ay (by omega)];exact xX l _ _ _ c1
  ·rw [if_neg c1];by_cases c2:j < l.size+r.size
   ·rw [if_pos c2,A5,Ax (by omega),Ay (by omega),ln];exact xX r _ _ _ (by omega)
   ·rw [if_neg c2,Ax (by rw [Ad];omega),Ad,ln,rn];have:j-(l.size+r.size)=0:=by omega
    rw [this];rfl
def Uy (t:Tr) {j:Nat} (h:j < t.size):(ah (t.nd 0) 0 (Ak t.size .aU))[j]?=some (kr t 0 j .aU):=by
 have q:=G0 t [] [];have e:([]:List V)++Ak t.size .aU++[]=Ak t.size .aU:=by simp
 have e2:([]:List V)++mm t ([]:List V).length .aU++[]=mm t 0 .aU:=by simp
 rw [e,e2] at q;have q':ah (t.nd 0) 0 (Ak t.size .aU)=mm t 0 .aU:=q;rw [q'];exact xX t 0 j .aU h
end My
namespace PL
section
open PySem PySem.Spec PyProof.Rows L2
variable {K:Ab}
def RE (K:Ab) (H:Hp) (a:Addr) (xs:List V):Prop:=(∃o,H a=some (.cR o (.lst xs)))\/
  ∃(o:Obj) (aq:Array Value) (n:Nat),K.lookup a=some o/\o.cls=.type "list"/\o.dict=none/\o.data=.seq aq n/\aq.size<=sizeLine/\Vals xs aq.toList
def RE.sq {H:Hp}{a:Addr}{xs:List V} (h:RE K H a xs):cT K H a xs:=h.elim (fun h=>.inl (.inr h)) .inr
structure bc (K:Ab) (H H':Hp):Prop where
 t:∀p vs,H p=some (.tup vs)->H' p=some (.tup vs)
 z:∀p o u,H p=some (.cR o u)->H' p=some (.cR o u)
def bc.f {H H':Hp} (t:bc K H H') (p:Addr) (vs:List V) (h:RE K H p vs):RE K H' p vs:=h.elim (fun ⟨o,h⟩=>.inl ⟨o,t.z _ _ _ h⟩) .inr
def bc.refl (H:Hp):bc K H H:=⟨fun _ _ h=>h,fun _ _ _ h=>h⟩
def bc.trans {H H1 H2:Hp} (a:bc K H H1) (b:bc K H1 H2):bc K H H2:=⟨fun p vs h=>b.t p vs (a.t p vs h),fun p o w h=>b.z p o w (a.z p o w h)⟩
def _root_.L2.lG.fc {H H':Hp} (s:lG H H'):bc K H H':=⟨fun p vs h=>s _ _ h,fun p o u h=>s _ _ h⟩
inductive PV where
 | aU | bl (b:Bool) | int (i:Int) | str (x:Str) | tup (l:List PV) | ref (n:Nat) | ty (n:String) | cl (l:List PV) | dv (ks vs:List PV)
def kP:Key->PV
 | .inl i=>.int i
 | .inr x=>.str x
inductive PO where
 | lst (xs:List PV) | dk (kvs:List (Key×PV)) | dt (kvs:List (List Key×PV)) | opq (φ:List V->Prop)
abbrev PH:=List PO
abbrev yw:=List (Option PV)
mutual
inductive VR (K:Ab) (ι:List Addr) (H:Hp):V->PV->Prop
 | aU:VR K ι H .aU .aU
 | bl (b:Bool):VR K ι H (.bl b) (.bl b)
 | int (i:Int):VR K ι H (.int i) (.int i)
 | str (x:Str):VR K ι H (.str x) (.str x)
 | ty (n:String):VR K ι H (.ty n) (.ty n)
 | tup {p:Addr}{vs:List V}{l:List PV} (h:H p=some (.tup vs)) (r:aK K ι H vs l):VR K ι H (.ref p) (.tup l)
 | ref {n:Nat}{a:Addr} (h:ι[n]?=some a):VR K ι H (.ref a) (.ref n)
 | cl {a:Addr}{vs:List V}{l:List PV} (h:RE K H a vs) (r:aK K ι H vs l):VR K ι H (.ref a) (.cl l)
 | dk {a:Addr}{o:Obj}{kvs:List (Key×V)}{ks l:List PV} (h:H a=some (.cR o (.dK kvs))) (e:ks=kvs.map fun kv=>kP kv.1) (r:aK K ι H (kvs.map (·.2)) l):VR K ι H (.ref a) (.dv ks l)
 | dt {a:Addr}{o:Obj}{kvs:List (List Key×V)}{ks l:List PV} (h:H a=some (.cR o (.dT kvs))) (e:ks=kvs.map fun kv=>.tup (kv.1.map kP)) (r:aK K ι H (kvs.map (·.2)) l):VR K ι H (.ref a) (.dv ks l)
inductive aK (K:Ab) (ι:List Addr) (H:Hp):List V->List PV->Prop
 | nil:aK K ι H [] []
 | cons {v:V}{p:PV}{vs:List V}{ps:List PV} (r:VR K ι H v p) (t:aK K ι H vs ps):aK K ι H (v::vs) (p::ps)
end
section
variable {ι ι':List Addr}{H H':Hp}
mutual
theorem VR.mono (ht:bc K H H') (hi:∀(n:Nat) (a:Addr),ι[n]?=some a->ι'[n]?=some a):∀{v:V}{p:PV},VR K ι H v p->VR K ι' H' v p
 | _,_,.aU=>.aU
 | _,_,.bl b=>.bl b
 | _,_,.int i=>.int i
 | _,_,.str x=>.str x
 | _,_,.ty n=>.ty n
 | _,_,.tup h r=>.tup (ht.t _ _ h) (aK.mono ht hi r)
 | _,_,.cl h r=>.cl (ht.f _ _ h) (aK.mono ht hi r)
 | _,_,.dk h e r=>.dk (ht.z _ _ _ h) e (aK.mono ht hi r)
 | _,_,.dt h e r=>.dt (ht.z _ _ _ h) e (aK.mono ht hi r)
 | _,_,.ref h=>.ref (hi _ _ h)
theorem aK.mono (ht:bc K H H') (hi:∀(n:Nat) (a:Addr),ι[n]?=some a->ι'[n]?=some a):∀{vs:List V}{ps:List PV},aK K ι H vs ps->aK K ι' H' vs ps
 | _,_,.nil=>.nil
 | _,_,.cons r t=>.cons (VR.mono ht hi r) (aK.mono ht hi t)
end
theorem aK.length:∀{vs:List V}{ps:List PV},aK K ι H vs ps->vs.length=ps.length
 | _,_,.nil=>rfl
 | _,_,.cons _ t=>by rw [Ar,Ar,aK.length t]
theorem aK.get:∀{vs:List V}{ps:List PV}{i:Nat}{p:PV},aK K ι H vs ps->ps[i]?=some p->∃v,vs[i]?=some v/\VR K ι H v p
 | _,_,_,_,.nil,e=>by simp at e
 | _,_,0,_,.cons r _,e=>by simp at e;subst e;exact⟨_,rfl,r⟩
 | _,_,i+1,p,.cons _ t,e=>by
  obtain⟨v,h1,h2⟩:=aK.get (i:=i) (p:=p) t (by simpa using e);exact⟨v,by simpa using h1,h2⟩
theorem aK.set {v:V}{p:PV} (r:VR K ι H v p):∀{vs:List V}{ps:List PV} (i:Nat),aK K ι H vs ps->aK K ι H (vs.set i v) (ps.set i p)
 | _,_,_,.nil=>.nil
 | _,_,0,.cons _ t=>.cons r t
 | _,_,i+1,.cons q t=>.cons q (aK.set r i t)
theorem aK.append:∀{xs ys:List V}{us ws:List PV},aK K ι H xs us->aK K ι H ys ws->aK K ι H (xs++ys) (us++ws)
 | _,_,_,_,.nil,s=>s
 | _,_,_,_,.cons r t,s=>.cons r (aK.append t s)
theorem aK.take:∀{xs:List V}{us:List PV} (n:Nat),aK K ι H xs us->aK K ι H (xs.take n) (us.take n)
 | _,_,0,_=>.nil
 | _,_,_+1,.nil=>.nil
 | _,_,n+1,.cons r t=>.cons r (aK.take n t)
theorem aK.drop:∀{xs:List V}{us:List PV} (n:Nat),aK K ι H xs us->aK K ι H (xs.drop n) (us.drop n)
 | _,_,0,r=>r
 | _,_,_+1,.nil=>.nil
 | _,_,n+1,.cons _ t=>aK.drop n t
theorem aK.reverse:∀{xs:List V}{us:List PV},aK K ι H xs us->aK K ι H xs.reverse us.reverse
 | _,_,.nil=>.nil
 | _,_,.cons r t=>by rw [CM,CM];exact (aK.reverse t).append (.cons r .nil)
def aK.one {v:V}{p:PV} (r:VR K ι H v p):aK K ι H [v] [p]:=.cons r .nil
end
structure Go (ι ι':List Addr) (H H':Hp):Prop where
 ext:∃m,ι'=ι++m
 new:∀a,a∈ι'->a∉ι->H a=none
 keep:∀a o,a∉ι->H a=some o->H' a=some o
def Go.refl (ι:List Addr) (H:Hp):Go ι ι H H:=⟨⟨[],by simp⟩,fun a h n=>absurd h n,fun _ _ _ h=>h⟩
def OR (K:Ab) (ι:List Addr) (H:Hp) (a:Addr):PO->Prop
 | .lst xs=>∃vs,H a=some (.lst vs)/\aK K ι H vs xs
 | .dk kvs=>∃vs:List (Key×V),H a=some (.dK vs)/\vs.map (·.1)=kvs.map (·.1)/\aK K ι H (vs.map (·.2)) (kvs.map (·.2))
 | .dt kvs=>∃vs:List (List Key×V),H a=some (.dT vs)/\vs.map (·.1)=kvs.map (·.1)/\aK K ι H (vs.map (·.2)) (kvs.map (·.2))
 | .opq φ=>∃vs,H a=some (.lst vs)/\φ vs
structure HR (K:Ab) (ι:List Addr) (H:Hp) (h:PH):Prop where
 nd:ι.Nodup
 len:ι.length=h.length
 obj:∀(n:Nat) (a:Addr) (o:PO),ι[n]?=some a->h[n]?=some o->OR K ι H a o
def iJ {α:Type}{l:List α}{x y:α}{n:Nat} (h:(l++[x])[n]?=some y):l[n]?=some y\/(n=l.length/\y=x):=by
 by_cases hn:n < l.length
 ·rw [Ay hn] at h;exact .inl h
 ·rw [Ax (by omega)] at h;obtain⟨k,hk⟩:∃k,k=n-l.length:=⟨_,rfl⟩;rw [<- hk] at h;cases k with
  | zero=>simp at h;exact .inr ⟨by omega,h.symm⟩
  | succ k=>simp at h
end
section
open PySem PySem.Spec PyProof.Rows L2
variable {K:Ab}
abbrev QV:=PV->PH->Prop
structure ME where
 run:yw->PH->QV->Prop
 mono:∀{ps h}{Q Q':QV},(∀v h',Q v h'->Q' v h')->run ps h Q->run ps h Q'
structure MT where
 run:yw->PH->(Bool->PH->Prop)->Prop
 mono:∀{ps h}{Q Q':Bool->PH->Prop},(∀v h',Q v h'->Q' v h')->run ps h Q->run ps h Q'
structure MA where
 run:yw->PH->(List PV->PH->Prop)->Prop
 mono:∀{ps h}{Q Q':List PV->PH->Prop},(∀v h',Q v h'->Q' v h')->run ps h Q->run ps h Q'
structure ML where
 run:yw->PH->(List PV->PH->Prop)->Prop
 mono:∀{ps h}{Q Q':List PV->PH->Prop},(∀v h',Q v h'->Q' v h')->run ps h Q->run ps h Q'
structure Src where
 items:List PV
 ok:PH->Prop
 fz:Bool
structure MI where
 run:yw->PH->(Src->PH->Prop)->Prop
 mono:∀{ps h}{Q Q':Src->PH->Prop},(∀v h',Q v h'->Q' v h')->run ps h Q->run ps h Q'
structure PD where
 nx:yw->PH->Prop
 rt:QV
 bk:yw->PH->Prop
 ct:yw->PH->Prop
structure PD.Le (D D':PD):Prop where
 nx:∀ps h,D.nx ps h->D'.nx ps h
 rt:∀v h,D.rt v h->D'.rt v h
 bk:∀ps h,D.bk ps h->D'.bk ps h
 ct:∀ps h,D.ct ps h->D'.ct ps h
structure MS where
 run:PD->yw->PH->Prop
 mono:∀{D D' ps h},PD.Le D D'->run D ps h->run D' ps h
structure MG where
 run:PV->yw->PH->(yw->PH->Prop)->Prop
 mono:∀{v ps h}{Q Q':yw->PH->Prop},(∀ps h,Q ps h->Q' ps h)->run v ps h Q->run v ps h Q'
def pQ (K:Ab) (ι:List Addr) (H:Hp) (Q:VK):QV:=fun p h'=>∀ι' v H',Go ι ι' H H'->HR K ι' H' h'->VR K ι' H' v p->Q v H'
def PE.imp {X:Cx}{e:Expr}{t t':TE} (h:PE X e t) (f:∀σ H Q,t' σ H Q->t σ H Q):PE X e t':=fun pins s σ H Q I q=>h pins s σ H Q I (f _ _ _ q)
def PT.imp {X:Cx}{e:Expr}{t t':TT} (h:PT X e t) (f:∀σ H Q,t' σ H Q->t σ H Q):PT X e t':=fun pins s σ H Q I q=>h pins s σ H Q I (f _ _ _ q)
def PW.imp {X:Cx}{e:Expr}{t t':TT} (h:PW X e t) (f:∀σ H Q,t' σ H Q->t σ H Q):PW X e t':=fun w pins s σ H Q I q=>h w pins s σ H Q I (f _ _ _ q)
def PA.imp {X:Cx}{e:List Expr}{t t':TA} (h:PA X e t) (f:∀σ H Q,t' σ H Q->t σ H Q):PA X e t':=fun pos pins s σ H Q I q=>h pos pins s σ H Q I (f _ _ _ q)
def PS.imp {X:Cx}{e:Stmt}{t t':TS} (h:PS X e t) (f:∀D σ H,t' D σ H->t D σ H):PS X e t':=fun pins s σ H D I q=>h pins s σ H D I (f _ _ _ q)
def rD.imp {X:Cx}{e:List Stmt}{t t':TS} (h:rD X e t) (f:∀D σ H,t' D σ H->t D σ H):rD X e t':=fun pins s σ H D I q=>h pins s σ H D I (f _ _ _ q)
def PG.imp {X:Cx}{e:Expr}{t t':TG} (h:PG X e t) (f:∀v σ H Q,t' v σ H Q->t v σ H Q):PG X e t':=fun pins s σ H v u Q I r q=>h pins s σ H v u Q I r (f _ _ _ _ q)
def PI.imp {X:Cx}{tg e:Expr}{t t':TI} (h:PI X tg e t) (f:∀σ H Q,t' σ H Q->t σ H Q):PI X tg e t':=fun pins s σ H R I q=>h pins s σ H R I (f _ _ _ q)
section
abbrev P2:=PV->PV->PH->QV->Prop
structure M2 where
 f:P2
 mono:∀{x y h}{Q Q':QV},(∀v h',Q v h'->Q' v h')->f x y h Q->f x y h Q'
def M2.Ok (K:Ab) (r:R2) (m:M2):Prop:=∀{ι H h u v x y Q},HR K ι H h->VR K ι H u x->VR K ι H v y->m.f x y h (pQ K ι H Q)->r u v H Q
end
end
section
open PySem PySem.Spec PyProof.Rows L2
variable {K:Ab}
section
def kU {ι:List Addr}{H:Hp}:∀{vs:List V}{l:List PV},aK K ι H vs l->(!l.isEmpty)=!vs.isEmpty
 | _,_,.nil=>rfl
 | _,_,.cons _ _=>rfl
structure MQ where
 run:yw->PH->(Src->PH->Prop)->Prop
 mono:∀{ps h}{Q Q':Src->PH->Prop},(∀v h',Q v h'->Q' v h')->run ps h Q->run ps h Q'
end
end
open PySem PySem.Spec PyProof.Rows L2
section
structure MGs where
 run:List PV->yw->PH->(yw->PH->Prop)->Prop
 mono:∀{v ps h}{Q Q':yw->PH->Prop},(∀ps h,Q ps h->Q' ps h)->run v ps h Q->run v ps h Q'
end
section
variable {K:Ab}
section
structure vN where
 f:List PV->PH->QV->Prop
 mono:∀{l h}{Q Q':QV},(∀v h',Q v h'->Q' v h')->f l h Q->f l h Q'
def vN.Ok (K:Ab) (r:List V->Hp->VK->Prop) (m:vN):Prop:=∀{ι H h vs l Q},HR K ι H h->aK K ι H vs l->m.f l h (pQ K ι H Q)->r vs H Q
end
end
section
variable {K:Ab}
def aI (g:Int->Int->PV):M2:=⟨fun x y h Q=>match x,y with | .int i,.int j=>Q (g i j) h | _,_=>False,fun f q=>by
 revert q
 split
 ·exact f _ _
 ·exact fun z=>z⟩
def UA (C:Int->Int->Prop) (g:Int->Int->PV):M2:=⟨fun x y h Q=>match x,y with | .int i,.int j=>C i j/\Q (g i j) h | _,_=>False,fun f q=>by
 revert q
 split
 ·exact fun q=>⟨q.1,f _ _ q.2⟩
 ·exact fun z=>z⟩
def Fp {g:Int->Int->PV}{g':Int->Int->V} (hg:∀ι H i j,VR K ι H (g' i j) (g i j)):M2.Ok K (Oq g') (aI g):=by
 intro ι H h u v x y Q hr hu hv q;unfold aI at q;dsimp only at q;revert q
 split
 ·intro q;cases hu;cases hv;exact⟨_,_,rfl,rfl,q ι _ H (Go.refl _ _) hr (hg _ _ _ _)⟩
 ·exact Bg
def ya {C:Int->Int->Prop}{g:Int->Int->PV}{g':Int->Int->V} (hg:∀ι H i j,VR K ι H (g' i j) (g i j)):M2.Ok K (rI C g') (UA C g):=by
 intro ι H h u v x y Q hr hu hv q;unfold UA at q;dsimp only at q;revert q
 split
 ·intro q;cases hu;cases hv;exact⟨_,_,rfl,rfl,q.1,q.2 ι _ H (Go.refl _ _) hr (hg _ _ _ _)⟩
 ·exact Bg
def qA:=aI fun i j=>.int (i-j)
def oZ:=UA IntMulOk fun i j=>.int (i*j)
def oDiv:=UA QM fun i j=>.int (i / j)
def oMod:=UA (fun _ j=>0 < j) fun i j=>.int (i % j)
def za:=UA ND fun i j=>.int (i ^ j.toNat)
def oLt:=aI fun i j=>.bl (decide (i < j))
def oLe:=aI fun i j=>.bl (decide (i<=j))
def WB:=aI fun i j=>.bl (decide (j < i))
def YC:=aI fun i j=>.bl (decide (j<=i))
section
variable {ι:List Addr}{H:Hp}
def aK.jA:∀{vs:List V}{l:List PV},aK K ι H vs l->(vs=[]↔l=[])
 | _,_,.nil=>by simp
 | _,_,.cons _ _=>by simp
end
mutual
def PV.dat:PV->Bool
 | .tup l=>uO l
 | .ref _=>false
 | .ty _=>false
 | .cl _=>false
 | .dv _ _=>false
 | _=>true
def uO:List PV->Bool
 | []=>true
 | x::l=>x.dat&&uO l
end
end
section
variable {K:Ab}
section
def PV.nN:PV->Bool
 | .aU=>true
 | _=>false
def Jk:M2:=⟨fun x y h Q=>match y with | .aU=>Q (.bl x.nN) h | _=>False,fun f q=>by
 revert q
 split
 ·exact f _ _
 ·exact fun z=>z⟩
def JA {ι:List Addr}{H:Hp}{v:V}{x:PV} (h:VR K ι H v x):decide (v=.aU)=x.nN:=by cases h <;> simp [PV.nN]
def O0:M2.Ok K (fun x y H Q=>y=.aU/\Q (.bl (decide (x=.aU))) H) Jk:=by
 intro ι H h u v x y Q hr hu hv q;cases hv with
 | aU=>exact⟨rfl,q ι _ H (Go.refl _ _) hr (by rw [JA hu];exact .bl _)⟩
 | _=>exact q.elim
end
end
section
variable {K:Ab}
section
def K0 {v v':V}{w:Value} (h:RelV v w) (h':RelV v' w):v=v':=Option.some.inj (h.abs.symm.trans h'.abs)
end
section
variable {X:Cx}{a b c e:Expr}
def mIx (a:MQ) (b:ME):ME:=⟨fun ps h Q=>a.run ps h fun S h1=>b.run ps h1 fun y h2=>match y with
 | .int k=>S.ok h2/\match cB S.items k with | some v=>Q v h2 | none=>False
 | _=>False,fun f q=>a.mono (fun _ _ q=>b.mono (fun _ _ q=>by
  revert q
  split
  ·rintro⟨q0,q⟩;refine⟨q0,?_⟩;revert q
   split
   ·exact f _ _
   ·exact fun z=>z
  ·exact fun z=>z) q) q⟩
def aK.cB {ι:List Addr}{H:Hp}{vs:List V}{l:List PV} (r:aK K ι H vs l) {k:Int}{p:PV} (e:L2.cB l k=some p):∃v,L2.cB vs k=some v/\VR K ι H v p:=by
 unfold L2.cB at e ⊢;rw [r.length];cases z:pW l.length k with
 | none=>rw [z] at e;cases e
 | some j=>
  rw [z] at e;exact r.get e
def LC:M2:=⟨fun x y h Q=>match x,y with
 | .str z,.int k=>z.length<=sizeLine/\match L2.cB z.cps.toList k with | some c=>Q (.str ⟨#[c]⟩) h | none=>False
 | _,_=>False,fun f q=>by
  revert q
  split
  ·rintro⟨q0,q⟩;refine⟨q0,?_⟩;revert q
   split
   ·exact f _ _
   ·exact fun z=>z
  ·exact fun z=>z⟩
def OZ:M2.Ok K Sf LC:=by
 intro ι H h u v x y Q hr hu hv q;unfold LC at q;dsimp only at q;revert q
 split
 ·rename_i z k;rintro⟨q0,q⟩;cases hu;cases hv;cases e:L2.cB z.cps.toList k with
  | none=>rw [e] at q;exact q.elim
  | some c=>rw [e] at q;exact⟨z,k,c,rfl,rfl,q0,e,q ι _ H (Go.refl _ _) hr (.str _)⟩
 ·exact Bg
def eZ:vN:=⟨fun l h Q=>match l with
 | [.str y]=>y.length<=sizeLine/\Q (.int y.length) h
 | [.tup l]=>Q (.int l.length) h
 | [.cl l]=>Q (.int l.length) h
 | [.ref n]=>match h[n]? with
  | some (.lst xs)=>Q (.int xs.length) h
  | _=>False
 | _=>False,fun f q=>by
  revert q
  split
  ·exact fun q=>⟨q.1,f _ _ q.2⟩
  ·exact f _ _
  ·exact f _ _
  ·split
   ·exact f _ _
   ·exact fun z=>z
  ·exact fun z=>z⟩
def Qp (K:Ab):vN.Ok K (Se K) eZ:=by
 intro ι H h vs l Q hr hv q;unfold eZ at q;dsimp only at q;revert q
 split
 ·intro q;cases hv with
  | cons x t=>cases t;cases x;exact⟨_,_,rfl,⟨q.1,rfl⟩,q.2 ι _ H (Go.refl _ _) hr (.int _)⟩
 ·intro q;cases hv with
  | cons x t=>
   cases t;cases x with
   | tup e r=>exact⟨_,_,rfl,.inr ⟨_,da.of e,r.length.symm⟩,q ι _ H (Go.refl _ _) hr (.int _)⟩
 ·intro q;cases hv with
  | cons x t=>
   cases t;cases x with
   | cl e r=>exact⟨_,_,rfl,.inl ⟨_,e.sq,r.length.symm⟩,q ι _ H (Go.refl _ _) hr (.int _)⟩
 ·rename_i n;cases hv with
  | cons x t=>
   cases t;cases x with
   | @ref _ a e=>
   split
   ·rename_i xs hn;intro q;obtain⟨ws,e1,e2⟩:=hr.obj n a _ e hn;exact⟨_,_,rfl,.inl ⟨ws,cT.of e1,e2.length.symm⟩,q ι _ H (Go.refl _ _) hr (.int _)⟩
   ·exact Bg
 ·exact Bg
inductive Kd where
 | str | tup | int | bool
def Kd.name:Kd->String
 | .str=>"str" | .tup=>"tuple" | .int=>"int" | .bool=>"bool"
def Kd.is:Kd->PV->Bool
 | .str,.str _=>true
 | .tup,.tup _=>true
 | .int,.int _=>true
 | .int,.bl _=>true
 | .bool,.bl _=>true
 | _,_=>false
def V5 (K:Ab):List V->Hp->VK->Prop:=fun xs H Q=>∃x c t b,xs=[x,.ty c]/\(lY K H x t\/(t=.type "tuple"/\∃a vs,x=.ref a/\da K H a vs))/\Bl K t (.type c)=some b/\Q (.bl b) H
def J4 (K:Ab) (hK:X.K=K):bS X (.builtin "isinstance") (V5 K):=by
 subst hK;intro pins s σ H xs us Q I r h;obtain⟨x,c,t,b,rfl,ty | ⟨rfl,a,vs,rfl,hT⟩,e,q⟩:=h
 ·exact qb pins s σ H _ us Q I r ⟨x,c,t,b,rfl,ty,e,q⟩
 ·obtain⟨u,w,rfl,r1,r2⟩:=vals2 r;cases r1;cases r2;obtain⟨aq,_,⟨o,h1,h2,_⟩,_⟩:=I.tuple hT;exact A3 E2 I.vk ⟨o,h1,h2⟩ e (fun z=>nomatch z) fun tk=>⟨.bl b,H,I.tok _,rfl,q⟩
def rg (K:Ab):(∀k:Kd,Bl K (.type "NoneType") (.type k.name)=some false)/\(∀k:Kd,Bl K (.type "list") (.type k.name)=some false)/\(∀k:Kd,Bl K (.type "dict") (.type k.name)=some false):=
 ⟨fun k=>by cases k <;> kernel_rfl,fun k=>by cases k <;> kernel_rfl,fun k=>by cases k <;> kernel_rfl⟩
def Td (K:Ab) (b:Bool) (k:Kd):Bl K (.type "bool") (.type k.name)=some (k.is (.bl b)):=by cases k <;> kernel_rfl
def Pn (K:Ab) (b:Int) (k:Kd):Bl K (.type "int") (.type k.name)=some (k.is (.int b)):=by cases k <;> kernel_rfl
def Pm (K:Ab) (b:Str) (k:Kd):Bl K (.type "str") (.type k.name)=some (k.is (.str b)):=by cases k <;> kernel_rfl
def Pl (K:Ab) (b:List PV) (k:Kd):Bl K (.type "tuple") (.type k.name)=some (k.is (.tup b)):=by cases k <;> kernel_rfl
def Np:vN:=⟨fun l h Q=>match l with | [.int i]=>Q (.int (if i < 0 then -i else i)) h | _=>False,fun f q=>by
 revert q
 split
 ·exact f _ _
 ·exact fun z=>z⟩
def Qr:vN.Ok K (fun xs H Q=>∃i,xs=[.int i]/\Q (.int (if i < 0 then -i else i)) H) Np:=by
 intro ι H h vs l Q hr hv q;unfold Np at q;dsimp only at q;revert q
 split
 ·intro q;cases hv with
  | cons x t=>cases t;cases x;exact⟨_,rfl,q ι _ H (Go.refl _ _) hr (.int _)⟩
 ·exact Bg
def tV:vN:=⟨fun l h Q=>match l with | [.int i]=>Q (.int i) h | [.bl k]=>Q (.int (if k then 1 else 0)) h | _=>False,fun f q=>by
 revert q
 split
 ·exact f _ _
 ·exact f _ _
 ·exact fun z=>z⟩
def Qq:vN.Ok K (fun xs H Q=>(∃i,xs=[.int i]/\Q (.int i) H)\/∃k,xs=[.bl k]/\Q (.int (if k then 1 else 0)) H) tV:=by
 intro ι H h vs l Q hr hv q;unfold tV at q;dsimp only at q;revert q
 split
 ·intro q;cases hv with
  | cons x t=>cases t;cases x;exact .inl ⟨_,rfl,q ι _ H (Go.refl _ _) hr (.int _)⟩
 ·intro q;cases hv with
  | cons x t=>cases t;cases x;exact .inr ⟨_,rfl,q ι _ H (Go.refl _ _) hr (.int _)⟩
 ·exact Bg
def Nn:vN:=⟨fun l h Q=>match l with | [.int i,.int j]=>Q (.int (if j > i then j else i)) h | _=>False,fun f q=>by
 revert q
 split
 ·exact f _ _
 ·exact fun z=>z⟩
def Nm:vN:=⟨fun l h Q=>match l with | [.int i,.int j]=>Q (.int (if j < i then j else i)) h | _=>False,fun f q=>by
 revert q
 split
 ·exact f _ _
 ·exact fun z=>z⟩
def Qo:vN.Ok K (fun xs H Q=>∃i j,xs=[.int i,.int j]/\Q (.int (if j > i then j else i)) H) Nn:=by
 intro ι H h vs l Q hr hv q;unfold Nn at q;dsimp only at q;revert q
 split
 ·intro q;cases hv with
  | cons x t=>cases t with
   | cons y t=>cases t;cases x;cases y;exact⟨_,_,rfl,q ι _ H (Go.refl _ _) hr (.int _)⟩
 ·exact Bg
def Qn:vN.Ok K (fun xs H Q=>∃i j,xs=[.int i,.int j]/\Q (.int (if j < i then j else i)) H) Nm:=by
 intro ι H h vs l Q hr hv q;unfold Nm at q;dsimp only at q;revert q
 split
 ·intro q;cases hv with
  | cons x t=>cases t with
   | cons y t=>cases t;cases x;cases y;exact⟨_,_,rfl,q ι _ H (Go.refl _ _) hr (.int _)⟩
 ·exact Bg
end
end
section
variable {K:Ab}
section
variable {X:Cx}{b e:Expr}
def K2 (K:Ab):List V->Hp->VK->Prop:=fun xs H Q=>∃p ys,xs=[.ref p]/\((cT K H p ys/\mE H (.tup ys) Q)\/(da K H p ys/\Q (.ref p) H))
def JZ (K:Ab) (hK:X.K=K):bS X (.type "tuple") (K2 K):=by
 subst hK;exact uQ.mono fun xs H Q ⟨p,ys,e,h⟩=>⟨p,ys,e,h.imp (fun ⟨h1,h2⟩=>⟨h1,fun l hl=>h2.at l hl⟩) fun z=>z⟩
theorem pM {ι:List Addr}{H:Hp}:∀{bs:List Bool}{vs:List V},aK K ι H vs (bs.map PV.bl)->vs=bs.map V.bl
 | [],_,h=>by cases h;rfl
 | b::bs,_,h=>by
  cases h with
  | cons x t=>cases x;rw [pM t];rfl
structure MQL where
 run:yw->PH->(Src->PH->Prop)->Prop
 mono:∀{ps h}{Q Q':Src->PH->Prop},(∀v h',Q v h'->Q' v h')->run ps h Q->run ps h Q'
structure MO where
 run:yw->PH->(Option Int->PH->Prop)->Prop
 mono:∀{ps h}{Q Q':Option Int->PH->Prop},(∀v h',Q v h'->Q' v h')->run ps h Q->run ps h Q'
def PO.imp {e:Option Expr}{t t':TO} (h:L2.PO X e t) (f:∀σ H Q,t' σ H Q->t σ H Q):L2.PO X e t':=fun pins s σ H Q I q=>h pins s σ H Q I (f _ _ _ q)
def uP (xs:List PV) (lo hi:Option Int):List PV:=(xs.drop (HT.dE xs.length 0 lo)).take (HT.dE xs.length xs.length hi-HT.dE xs.length 0 lo)
def aK.cut {ι:List Addr}{H:Hp}{vs:List V}{l:List PV} (r:aK K ι H vs l) (lo hi:Option Int):aK K ι H (xR vs lo hi) (uP l lo hi):=by
 unfold xR uP;rw [r.length];exact (r.drop _).take _
end
end
section
variable {K:Ab}
section
variable {X:Cx}{a c e:Expr}{p:Pos}
def je (lo:Int) (n:Nat):List PV:=(AG n).map fun (i:Nat)=>.int (lo+(i:Int))
def jd (lo:Int) (n:Nat):(je lo n).length=n:=by unfold je;simp
def pB {lo:Int}{n i:Nat}{p:PV} (h:(je lo n)[i]?=some p):i < n/\p=.int (lo+i):=by
 unfold je at h;rw [Ai] at h;cases z:(AG n)[i]? with
 | none=>rw [z] at h;cases h
 | some k=>
  rw [z] at h;obtain⟨h1,h2⟩:=Aj.mp z;simp at h1 h2;subst h2;exact⟨h1,(Option.some.inj h).symm⟩
def p0 (lo:Int) (n:Nat):List PV:=(AG n).map fun (i:Nat)=>.int (lo-(i:Int))
def vD (lo:Int) (n:Nat):(p0 lo n).length=n:=by unfold p0;simp
def vE {lo:Int}{n i:Nat}{p:PV} (h:(p0 lo n)[i]?=some p):i < n/\p=.int (lo-i):=by
 unfold p0 at h;rw [Ai] at h;cases z:(AG n)[i]? with
 | none=>rw [z] at h;cases h
 | some k=>
  rw [z] at h;obtain⟨h1,h2⟩:=Aj.mp z;simp at h1 h2;subst h2;exact⟨h1,(Option.some.inj h).symm⟩
def Od (i:Int):Prop:=-(2 ^ 62)<=i/\i < 2 ^ 62
def YF (m:MA):MI:=⟨fun ps h Q=>m.run ps h fun l h1=>match l with | [.int j]=>Od j/\Q ⟨je 0 j.toNat,fun _=>True,false⟩ h1 | _=>False,fun f q=>m.mono (fun l h1 q=>by
 revert q
 split
 ·exact fun q=>⟨q.1,f _ _ q.2⟩
 ·exact fun z=>z) q⟩
def dQ (k:Nat):List PV->List PV
 | []=>[]
 | x::l=>.tup [.int (k:Int),x]::dQ (k+1) l
theorem cz:∀(k:Nat) (l:List PV),(dQ k l).length=l.length
 | _,[]=>rfl
 | k,x::l=>by rw [dQ,Ar,Ar,cz]
theorem gM:∀{k:Nat}{l:List PV}{i:Nat}{p:PV},(dQ k l)[i]?=some p->∃x,l[i]?=some x/\p=.tup [.int ((k+i:Nat):Int),x]
 | _,[],_,_,h=>by simp [dQ] at h
 | k,x::l,0,p,h=>by simp [dQ] at h;subst h;exact⟨x,rfl,by simp⟩
 | k,x::l,i+1,p,h=>by
  obtain⟨y,h1,h2⟩:=gM (k:=k+1) (l:=l) (i:=i) (p:=p) (by simpa [dQ] using h);exact⟨y,by simpa using h1,by rw [h2,show k+1+i=k+(i+1) by omega]⟩
def Tu (K:Ab) (t1:TE):TI:=fun σ H R=>t1 σ H fun x H1=>∃a,x=.ref a/\(((∃xs,cT K H1 a xs)/\R (Yk K a) H1)\/((∃xs,da K H1 a xs)/\R (Ite K a) H1))
def Li {X:Cx} (K:Ab) (hK:X.K=K) {e1:Expr}{t1:TE}{elts:List Expr}{kk:Nat}{tp p1 p2:Pos} (hg:Gl X "enumerate") (hm:X.mg "enumerate"=none) (h1:PE X e1 t1)
  (zE:starEach [e1] X.env=(false,eval e1 X.env)::starEach [] X.env:=by rfl):PI X (.Tuple elts kk tp) (.Call (.Name "enumerate" p1) [e1] [] p2) (Tu K t1):=by
 subst hK;intro pins s σ H R I h;refine BI (jE I hg hm boot_enumerate ?_ (by decide) (by decide));refine A8 ?_ zE rfl;rw [zE];show wpAny _ _ (spliced ((false,eval e1 X.env)::backTo p2 (starEach [] X.env))) _ _ s;refine B1 (cj (h1 pins s σ H _ I h) fun u1 s1 ⟨x,H1,I1,r1,a,ex,hh⟩=>Ck ?_);subst ex;cases r1;have d1:s1.heap.objs.size+1≠s1.heap.objs.size:=Nat.succ_ne_self _;rcases hh with⟨⟨xs,hx⟩,q⟩ | ⟨⟨xs,hx⟩,q⟩
 ·obtain⟨aq,rx,tx,_⟩:=I1.list hx;refine call_enumerate_list tx.isList fun h' ze hi _ k=>?_;refine CI ze ?_;refine⟨_,_,_,_,H1,rfl,I1.kept (t':=s1.toks) k,FN d1,⟨⟨_,ze⟩,hi⟩,fun c hc=>?_,q⟩;have hle:s1.heap.objs.size<=c:=by
   simp only [Az,Br,or_false] at hc;rcases hc with rfl | rfl
   ·exact Bq _ _
   ·exact Am _
  exact I1.zH hle (I1.bP.fresh hle)
 ·obtain⟨aq,rx,tx,_⟩:=I1.tuple hx;have l1:a < s1.heap.objs.size:=let ⟨_,e,_⟩:=tx;Ao e;refine GS tx fun h' ze hi k=>?_;refine CI ze ?_;refine⟨_,_,_,_,H1,rfl,I1.kept (t':=s1.toks) k,IH d1 (AJ (Aw l1 (Bq _ 1))) (AJ l1),⟨⟨_,ze⟩,hi⟩,fun c hc=>?_,q⟩;have hle:s1.heap.objs.size<=c:=by
   simp only [Az,Br,or_false] at hc;rcases hc with rfl | rfl
   ·exact Bq _ _
   ·exact Am _
  exact I1.zH hle (I1.bP.fresh hle)
def iD:List PV->List PV->List PV
 | x::l,y::m=>.tup [x,y]::iD l m
 | _,_=>[]
theorem rG:∀{l m:List PV}{i:Nat}{p:PV},(iD l m)[i]?=some p->∃x y,l[i]?=some x/\m[i]?=some y/\p=.tup [x,y]
 | [],m,i,p,h=>by simp [iD] at h
 | x::l,[],i,p,h=>by simp [iD] at h
 | x::l,y::m,0,p,h=>by simp [iD] at h;subst h;exact⟨x,y,rfl,rfl,rfl⟩
 | x::l,y::m,i+1,p,h=>by
  obtain⟨u,w,h1,h2,h3⟩:=rG (l:=l) (m:=m) (i:=i) (p:=p) (by simpa [iD] using h);exact⟨u,w,by simpa using h1,by simpa using h2,h3⟩
end
end
section
variable {K:Ab}
section
def Rc:M2:=aI fun i j=>.int (i+j)
def WX {g:Int->Int->Int}:M2.Ok K (ipI g) (aI fun i j=>.int (g i j)):=by
 intro ι H h u v x y Q hr hu hv q;unfold aI at q;dsimp only at q;revert q
 split
 ·intro q;cases hu;cases hv;exact⟨_,_,rfl,rfl,q ι _ H (Go.refl _ _) hr (.int _)⟩
 ·exact Bg
end
end
section
variable {X:Cx}{K:Ab}{b:Expr}{p:Pos}
section
structure JC (X:Cx) (K:Ab) (op:CmpOp) (b:Expr) (m:M2):Prop where
 p:∃r,jm X (compareOp op) r/\M2.Ok K r m
 k:behindInMarks op b=false
def L9:JC X K .Lt b oLt:=⟨⟨_,Wt,Fp fun _ _ _ _=>.bl _⟩,mD _⟩
def WS:JC X K .LtE b oLe:=⟨⟨_,Wu,Fp fun _ _ _ _=>.bl _⟩,mD _⟩
def Rb:JC X K .Gt b WB:=⟨⟨_,Wv,Fp fun _ _ _ _=>.bl _⟩,mD _⟩
def WU:JC X K .GtE b YC:=⟨⟨_,Ww,Fp fun _ _ _ _=>.bl _⟩,mD _⟩
def Gs:JC X K .Is b Jk:=⟨⟨_,SJ,O0⟩,mD _⟩
end
end
theorem zW:∀{l:List PV},uO l=true↔∀x∈l,x.dat=true
 | []=>by simp [uO]
 | x::l=>by rw [uO,AD,zW];simp
section
variable {K:Ab}
section
variable {X:Cx}{a b c e:Expr}
def MW {ι:List Addr}{H:Hp}{vs:List V}{l:List PV} (h:aK K ι H vs l):vs.isEmpty=l.isEmpty:=by cases h <;> rfl
def aK.rep {ι:List Addr}{H:Hp}{vs:List V}{l:List PV} (h:aK K ι H vs l):∀k:Nat,aK K ι H (Ak k vs).flatten (Ak k l).flatten
 | 0=>.nil
 | k+1=>by
  rw [Bi,Bi,BP,BP];exact h.append (h.rep k)
def K3:V->List V->Hp->VK->Prop:=fun x vs H Q=>∃(l:Addr) (ns:List Int) (k:Int),x=.ref l/\vs=[.int k]/\H l=some (.lst (ns.map V.int))/\k∈ns/\yF H l (.lst ((ns.erase k).map V.int)) (Q .aU)
theorem ints_get:∀{us:List Value}{ns:List Int},IntsAre us ns->∀(i:Nat) (hi:i < us.length),∃n t,ns[i]?=some n/\us[i]=.int n t
 | _,_,.nil,i,hi=>by simp at hi
 | _,_,.cons _ _ r,i,hi=>by
  cases i with
  | zero=>exact⟨_,_,rfl,rfl⟩
  | succ i=>exact ints_get r i (by simpa using hi)
theorem Mf {k:Int}:∀{ns:List Int}{m:Nat},ns[m]?=some k->ns.idxOf k<=m
 | [],m,h=>by simp at h
 | a::ns,0,h=>by
  have:a=k:=by simpa using h
  subst this;simp
 | a::ns,m+1,h=>by
  have:=Mf (ns:=ns) (m:=m) (by simpa using h);rw [List.idxOf_cons];by_cases c:a=k
  ·have:(a==k)=true:=by simpa using c
   rw [this];exact Bm _
  ·have c2:(a==k)=false:=by simpa using c
   rw [c2];exact Nat.succ_le_succ this
theorem vv {α β:Type} (f:α->β):∀(l:List α) (j:Nat),(l.eraseIdx j).map f=(l.map f).eraseIdx j
 | [],_=>rfl
 | a::l,0=>rfl
 | a::l,j+1=>by
  show f a::(l.eraseIdx j).map f=f a::(l.map f).eraseIdx j;rw [vv f l j]
def WW (k:Int):Value->Bool
 | .int a _=>a==k
 | _=>false
def ur {vs:List V}{us:List Value} (r:Vals vs us):∀j,Vals (vs.eraseIdx j) (us.eraseIdx j):=by
 induction r with
 | nil=>intro j;exact .nil
 | cons h r ih=>
  intro j;cases j with
  | zero=>exact r
  | succ j=>exact .cons h (ih j)
def F5:Kn X "list.remove" K3:=by
 intro pins s σ H x vs v us Q I rx rv h;obtain⟨l,ns,k,rfl,rfl,hH,hk,q⟩:=h;cases rx;obtain⟨u,rfl,ru⟩:=rv.one;obtain⟨t,rfl⟩:=ru;obtain⟨z,aq,n,r,hl,e⟩:=I.o5 hH;have hi:=intsAre_of r;have hlen:ns.length=aq.length:=by rw [Af] at hl;omega
 have hj:ns.idxOf k < ns.length:=Bz hk;have hej:ns.erase k=ns.eraseIdx (ns.idxOf k):=by rw [List.erase_eq_eraseIdx_of_idxOf rfl]
 refine call_meets F.slot_list_remove ⟨_,e,rfl⟩ F.entry_list_remove (F.args_list_remove_2 _ _) (MeetsSeq.list_remove l aq.toArray n (.int k t) (WW k) (fun y hy=>?_) (ns.idxOf k) (by rw [Ag];omega) ?_ (fun m hm mJ=>?_) (by rw [Ag];omega)) ⟨e,?_⟩
 ·have Tw:y∈aq:=by simpa using hy
  obtain⟨i,Xm⟩:=Co Tw;obtain⟨h1,h2⟩:=Aj.mp Xm;obtain⟨n',t',g1,g2⟩:=ints_get hi i h1;rw [<- h2,g2];exact MeetsSeq.EqGives.int _ _ _ _
 ·have h1:ns.idxOf k < aq.length:=by omega
  obtain⟨n',t',g1,g2⟩:=ints_get hi (ns.idxOf k) h1;have g3:ns[ns.idxOf k]?=some k:=by rw [Ae hj,List.getElem_idxOf hj]
  rw [g3] at g1;cases g1;show WW k aq.toArray[ns.idxOf k]=true;rw [C5,g2];simp [WW]
 ·have h1:m < aq.length:=by rw [Ag] at hm;exact hm
  obtain⟨n',t',g1,g2⟩:=ints_get hi m h1;show WW k aq.toArray[m]=false;rw [C5,g2];have:n'≠k:=fun z=>by
   subst z;have:=Mf g1;omega
  simp [WW,this]
 ·refine⟨.aU,_,I.Gb (its':=aq.eraseIdx (ns.idxOf k)) (ys:=(ns.erase k).map V.int) hH e (by simp [Array.toList_eraseIdxIfInBounds,<- Array.toList_inj]) ?_ ?_,rfl,q.at⟩
  ·rw [hej,vv];exact ur r _
  ·rw [hej,Af,List.length_eraseIdx]
   split <;> omega
theorem nP {ι:List Addr}{H:Hp}:∀{ns:List Int}{vs:List V},aK K ι H vs (ns.map PV.int)->vs=ns.map V.int
 | [],_,h=>by cases h;rfl
 | b::bs,_,h=>by
  cases h with
  | cons x t=>cases x;rw [nP t];rfl
theorem nQ (ι:List Addr) (H:Hp):∀ns:List Int,aK K ι H (ns.map V.int) (ns.map PV.int)
 | []=>.nil
 | n::ns=>.cons (.int n) (nQ ι H ns)
def Sa (K:Ab):List V->Hp->VK->Prop:=fun xs H Q=>∃(p:Addr) (ns:List Int),xs=[.ref p]/\cT K H p (ns.map V.int)/\ns.length < 64/\∀ms:List Int,ms.Perm ns->ms.Pairwise (·<=·)->mE H (.lst (ms.map V.int)) Q
def GP (K:Ab) (hK:X.K=K):bS X (.builtin "sorted") (Sa K):=by
 subst hK;intro pins s σ H xs us Q I r h;obtain⟨p,ns,rfl,hq,h64,q⟩:=h;obtain⟨u,rfl,rx⟩:=vals1 r;cases rx;obtain⟨aq,r',pl,hz⟩:=I.list hq;have hi:=intsAre_of r';have hl:=r'.length;rw [Af] at hl hz;refine PyProof.Rows.sorted_ints pl.isList hi (by omega) fun out ms a1 a2 a3=>?_;obtain⟨e,he⟩:=sortedAll_at s.heap aq out;refine⟨.ref (s.heap.objs.size+1),_,I.laid (t':=s.toks) (fun _ _=>sortedAll_old) (Nat.le_succ _) (show bq X.prog X.w _ _ _ (.lst (ms.map V.int)) from⟨?_,out.toList,e,oK a1,?_⟩),rfl,(q ms a2 a3).at _ (I.bP.fresh (Nat.le_succ _))⟩
 ·rw [Af,a2.length_eq];exact hz
 ·rw [Array.toArray_toList];exact he
end
end
end PL
namespace L2
open PySem PySem.Spec PyProof.Rows
def mK {prog:Program}{w:World}{A:Around}{E:Value->Shared->Prop}{s:Shared}{a:Addr}{o:Obj}{xs:Array Value}{k:Nat}{name:Str}{Q:Option Value->Shared->Prop}
  (hx:s.heap.get? a=some o) (hc:o.cls=.type "list") (nS:o.data=.seq xs k) (hd:o.dict=none) (Xf:typeLookup (.type "list") name=pure none) (Xe:(["__module__","__name__","__qualname__","__doc__","__annotations__"]:List Str).contains name=false) (hA:A.handled=none)
  (h:∀h' tk e,Heap.NewExcOf s.heap h' e "AttributeError"->Q none {s with heap:=h',toks:=tk}) (hsz:name.length+100<=sizeLine:=by size_fits) :
  wpAny (model prog w) A (getAttr? (.ref a) name) Q E s:=by
 obtain⟨c,dct,dat,sl⟩:=o;simp only at hc nS hd;subst hc nS hd;obtain⟨hp,g,d,tk,os⟩:=s;have hT:∀Yq,(⟨hp,g,d,Yq,os⟩:Shared).TypeIs (.ref a) "list":=fun _=>⟨_,hx,rfl⟩;have f1:=sub_AttributeError;have f3:=Ct.lookup;have f4:=Ct.bind (.ref a);have f5:=am_list_getattr_none;unfold getAttr? getAttrBy? getAttrBy
 repeat (any_goals (first | assumption | exact hT _ | ((with_reducible show wpAny _ _ (call (Value.builtin "list.__getattribute__") _ _) _ _ _);refine call_meets Ct (hT _) am_entry_list_getattribute (F.args_list_getattribute_2 _ _) (meets_getattribute_miss_list a xs k sl name _ Xf Xe hsz) ⟨hx,hA,fun h' Yq e yt=>?_⟩) | wp_step))
 obtain⟨t',u',he⟩:=yt.there;show wpAny _ _ (getattributeRaised _ _ _ _ _ _ _) _ _ _;unfold getattributeRaised
 repeat (any_goals (first | assumption | wp_step))
 exact h _ _ _ yt.of
def iy:entryFor table "dict.update.loop"=some Builtin.«dict.update.loop»:=entryFor_of_fast (by kernel_rfl)
def cS:plainId "dict.update.loop"=true:=by decide +kernel
section
variable {prog:Program}{w:World}{K:Type} [DecidableEq K] {knd:KeyKind prog w K}{A:Around}{R:Result->Shared->Prop}
def ym (knd:KeyKind prog w K) (h:Heap) (it d:Addr) (v:Value) (x:List K×Addr×Value):Prop:=
 ∃pa o n,v=.ref pa/\pa≠it/\pa≠d/\x.2.1≠it/\x.2.1≠d/\h.get? pa=some o/\o.cls=.type "tuple"/\o.data=.seq #[.ref x.2.1,x.2.2] n/\(tupleKind knd).is h x.1 x.2.1
def vX {h h':Heap}{k:List K}{b:Addr} (x:(tupleKind knd).is h k b) (kp:∀o,h.get? b=some o->h'.get? b=some o):(tupleKind knd).is h' k b:=by
 obtain⟨o,aq,n,h1,h2⟩:=x;exact⟨o,aq,n,kp _ h1,h2⟩
def ym.keep {h h':Heap}{it d:Addr}{v:Value}{x:List K×Addr×Value} (p:ym knd h it d v x) (kp:∀b o,b≠it->b≠d->h.get? b=some o->h'.get? b=some o):ym knd h' it d v x:=by
 obtain⟨pa,o,n,e,n1,n2,n3,n4,h1,h2,h3,h4⟩:=p;exact⟨pa,o,n,e,n1,n2,n3,n4,kp _ _ n1 n2 h1,h2,h3,vX h4 fun o q=>kp _ _ n3 n4 q⟩
def xN {h h':Heap}{it d:Addr}{xs:List (List K×Addr×Value)} (m:h.DictOfH (tupleKind knd) d xs) (hd:d≠it) (hx:∀x∈xs,x.2.1≠it) (kp:∀b o,b≠it->h.get? b=some o->h'.get? b=some o):h'.DictOfH (tupleKind knd) d xs:=by
 obtain⟨o,es,ep,ho,hc,Xu,he,his,hn⟩:=m;exact⟨o,es,ep,kp _ _ hd ho,hc,Xu,he,fun x q=>vX (his x q) fun o z=>kp _ _ (hx x q) z,hn⟩
def yJ {xs:List (List K×Addr×Value)}{k:List K}{b:Addr}{v:Value}{it:Addr} (hx:∀x∈xs,x.2.1≠it) (hb:b≠it):∀x∈storedH xs k b v,x.2.1≠it:=by
 intro x q;unfold storedH at q
 split at q
 ·obtain⟨y,hy,rfl⟩:=AA.mp q;have e:(putAt k v y).2.1=y.2.1:=by unfold putAt;split <;> rfl
  rw [e];exact hx y hy
 ·rcases Bh.mp q with q | q
  ·exact hx x q
  ·rw [Bw.mp q];exact hb
def yK {xs:List (List K×Addr×Value)}{k:List K}{b:Addr}{v:Value}:(storedH xs k b v).length<=xs.length+1:=by
 unfold storedH
 split <;> simp
def yE (hA:A.handled=none) (hu:A.units+1 < cLine) {d it l:Addr}{items:Array Value} (hz:items.size+items.size<=sizeLine) (hdi:d≠it) (hli:l≠it) (hld:l≠d) :
  ∀(k i:Nat) (ys xs:List (List K×Addr×Value)) (s:Shared),items.size-i=k->i<=items.size->ys.length=items.size-i->xs.length<=i->s.heap.IsListIter it l i->s.heap.IsList l items->s.heap.DictOfH (tupleKind knd) d xs->(∀x∈xs,x.2.1≠it)->
   (∀j x,ys[j]?=some x->∃v,items[i+j]?=some v/\ym knd s.heap it d v x)->
   (∀h' tk,h'.DictOfH (tupleKind knd) d (ys.foldl (fun a y=>storedH a y.1 y.2.1 y.2.2) xs)->(∀b o,b≠it->b≠d->s.heap.get? b=some o->h'.get? b=some o)->R (.ok (.ret .none)) {s with heap:=h',toks:=tk})->
   codeAny (model prog w) A (.builtin "dict.update.loop" ⟨[.ref d,.ref it,rawInt i,.none],[]⟩) R s:=by
 intro k
 induction k with
 | zero=>
  intro i ys xs s hk hi hy hxl hit hl hd hx hp q;have e0:ys=[]:=C6 (by omega);subst e0;refine codeAny_builtin iy ?_;rw [EI cS _];show wpAny _ A.in1 (pyNext (.ref it) >>= _) _ _ s;refine Aa (wpAny_pyNext_list_end (A:=A.in1) hA hit hl (by rw [En];omega) fun h' ex=>?_);show wpAny _ A.in1 (Builtin.Dict.addKeywords d [] >>= _) _ _ _;have kp:∀b o,b≠it->s.heap.get? b=some o->h'.get? b=some o:=ex;exact Aa (Ah (Ah (q h' s.toks (xN hd hdi hx kp) fun b o n1 _ e=>kp b o n1 e)))
 | succ k ih=>
  intro i ys xs s hk hi hy hxl hit hl hd hx hp q;have mJ:i < items.size:=by omega
  match ys,hy,hp,q with
  | [],hy,_,_=>exact absurd hy (by simp only [BD];omega)
  | y::ys,hy,hp,q=>
  obtain⟨v,hv,pa⟩:=hp 0 y rfl;refine codeAny_builtin iy ?_;rw [EI cS _];show wpAny _ A.in1 (pyNext (.ref it) >>= _) _ _ s;refine Aa (wpAny_pyNext_list_item hit hl (by simpa using hv) fun h1 aaH sb=>?_);have Pk:∀b o,b≠it->s.heap.get? b=some o->h1.get? b=some o:=fun b o hb e=>(sb.2 b hb).trans e;have pa1:=pa.keep fun b o n1 _ e=>Pk b o n1 e;have Xt:=xN hd hdi hx Pk;have hl1:h1.IsList l items:=let ⟨o,e,p⟩:=hl;⟨o,Pk _ _ hli e,p⟩;obtain⟨p,o,n,rfl,n1,n2,n3,n4,g1,g2,g3,g4⟩:=pa1;show wpAny _ A.in1 (holding [Av p] _ >>= _) _ _ _;refine Aa (Be (Aa (wpAny_tryCatch ?_)));unfold Builtin.Dict.pairItems;refine Aa (B7 (T:="tuple") ⟨_,g1,g2⟩ ?_);rw [if_pos (by decide)];refine Aa (Bt g1 g3 (Ah ?_));show wpAny _ A.in1 (holding [Av y.2.1,y.2.2] (dictSet d (.ref y.2.1) y.2.2)) _ _ _;refine Be (wpAny_dictSet_heap (knd:=tupleKind knd) (tupleKind_room_in1 hu) g4 Xt (fun h2 hd2 sb2=>?_) (by omega));have kp2:∀b o,b≠d->h1.get? b=some o->h2.get? b=some o:=fun b o hb e=>(sb2.2 b hb).trans e;refine Ah ⟨plainId_quiet cS _,?_⟩;have ei:((i:Int)+1)=((i+1:Nat):Int):=by omega
  have kp:∀b o,b≠it->b≠d->s.heap.get? b=some o->h2.get? b=some o:=fun b o a1 a2 e=>kp2 _ _ a2 (Pk _ _ a1 e);show codeAny _ A (.builtin "dict.update.loop" ⟨[.ref d,.ref it,rawInt ((i:Int)+1),.none],[]⟩) R _;rw [ei];refine ih (i+1) ys (storedH xs y.1 y.2.1 y.2.2) _ (by omega) (by omega) (by rw [Ar] at hy;omega) (Bj yK (by omega)) ?_ ?_ hd2 (yJ hx n3) (fun j x hj=>?_) (fun h' tk dd k3=>?_)
  ·obtain⟨o',e1,e2⟩:=aaH;exact⟨o',kp2 _ _ (Bx hdi) e1,e2⟩
  ·obtain⟨o',e1,e2⟩:=hl1;exact⟨o',kp2 _ _ hld e1,e2⟩
  ·obtain⟨v',h3,h4⟩:=hp (j+1) x hj;exact⟨v',by rw [show i+1+j=i+(j+1) by omega];exact h3,h4.keep kp⟩
  ·exact q h' tk dd fun b o a1 a2 e=>k3 b o a1 a2 (kp b o a1 a2 e)
end
def wZ:typeLookup (.type "list") (B5 "keys")=pure none:=am_miss_of_fast (by decide +kernel)
section
variable {prog:Program}{w:World}{K:Type} [DecidableEq K] {knd:KeyKind prog w K}{A:Around}{E:Value->Shared->Prop}{s:Shared}
def qQ {l:Addr}{o:Obj}{items:Array Value}{n:Nat}{ys:List (List K×Addr×Value)}{Q:Value->Shared->Prop} (hA:A.handled=none) (hu:A.units+2 < cLine) (ho:s.heap.get? l=some o) (hc:o.cls=.type "list") (nS:o.data=.seq items n) (hd:o.dict=none)
  (hz:items.size+items.size<=sizeLine) (hy:ys.length=items.size)
  (hp:∀(j:Nat) (x:List K×Addr×Value),ys[j]?=some x->∃(pa:Addr) (op:Obj) (m:Nat),items[j]?=some (Av pa)/\s.heap.get? pa=some op/\op.cls=.type "tuple"/\op.data=.seq #[Av x.2.1,x.2.2] m/\(tupleKind knd).is s.heap x.1 x.2.1)
  (q:∀h' tk,(∀b o,s.heap.get? b=some o->h'.get? b=some o)->h'.DictOfH (tupleKind knd) s.heap.objs.size (ys.foldl (fun a y=>storedH a y.1 y.2.1 y.2.2) [])->Q (.ref s.heap.objs.size) {s with heap:=h',toks:=tk}) :
  wpAny (model prog w) A (call (.type "dict") [.ref l]) Q E s:=by
 refine callType_codes (Q₁:=fun obj s₁=>obj=.ref s.heap.objs.size/\s₁={s with heap:=s.heap.push {cls:=.type "dict",data:=.dict #[]}}) F.kt_called_dict (F.kt_typeCall_dict_1 _) F.entry_dict_init (kt_code_dict_new _ ⟨rfl,rfl⟩) ?_;rintro obj s₁ ⟨rfl,rfl⟩;have YJ:∀b o,s.heap.get? b=some o->(s.heap.push {cls:=.type "dict",data:=.dict #[]}).get? b=some o:=fun b o e=>Al _ e;have PN:(s.heap.push {cls:=.type "dict",data:=.dict #[]}).DictOf knd s.heap.objs.size []:=Heap.DictOf.new s.heap;have Xd:(s.heap.push {cls:=.type "dict",data:=.dict #[]}).DictOfH (tupleKind knd) s.heap.objs.size []:=⟨_,#[],0,Ap _ rfl,⟨rfl,rfl,rfl⟩,rfl,rfl,fun x hx=>absurd hx (Br),EM⟩;have ls:∀b o,s.heap.get? b=some o->b≠s.heap.objs.size:=fun b o e z=>by subst z;exact AZ _ (Ao e)
 refine⟨PN.typeIs,F.args_dict_init_2 _ _,?_⟩;unfold Builtin.«dict.__init__»;refine Aa ?_;unfold Builtin.Dict.selfAndRest;refine Aa (wpAny_notOrdered_dict PN.typeIs ?_);show wpAny _ _ (pure (s.heap.objs.size,[Av l])) _ _ _;refine Ah ?_;show wpAny _ _ (Builtin.Dict.updateFrom "dict.__init__" s.heap.objs.size (.ref l) [] .none) _ _ _;unfold Builtin.Dict.updateFrom;refine Aa (B7 (T:="list") ⟨_,YJ _ _ ho,hc⟩ ?_);rw [if_pos (by decide)];refine Aa (mK (YJ _ _ ho) hc nS hd wZ (by decide +kernel) hA (fun h1 tk e nx=>?_) (by decide));rw [if_pos (by rfl)];refine Aa (Cy (Aa ?_));refine Cm (items:=items) ⟨_,nx.keeps _ _ (YJ _ _ ho),hc,n,nS⟩ ?_;have hsz:s.heap.objs.size < h1.objs.size:=Ao (nx.keeps _ _ (Ap s.heap rfl));have Pk:∀b o,s.heap.get? b=some o->(h1.push {cls:=.type "list_iterator",data:=.fields #[.ref l,.int 0 0]}).get? b=some o:=fun b o e=>Al _ (nx.keeps _ _ (YJ _ _ e));have ni:∀b o,s.heap.get? b=some o->b≠h1.objs.size:=fun b o e z=>by
  have h3:=Ao e;subst z;exact AZ _ (Nat.lt_trans h3 hsz)
 refine Ah ⟨plainId_quiet cS _,?_⟩;refine yE (A:=A.in1) (knd:=knd) hA (by show A.units+1+1 < _;omega) (items:=items) (d:=s.heap.objs.size) (it:=h1.objs.size) (l:=l) hz (AJ hsz) (ni _ _ ho) (ls _ _ ho) items.size 0 ys [] _ (Eh _) (Bm _) (by rw [hy];rfl) (Am _)
  ⟨_,Ap _ rfl,rfl,rfl⟩ ⟨_,Pk _ _ ho,hc,n,nS⟩ ?_ (fun x hx=>nomatch hx) (fun j x hj=>?_) (fun h' Yq dd kp=>?_)
 ·refine xN (it:=h1.objs.size) Xd (AJ hsz) (fun x hx=>nomatch hx) fun b o _ e=>Al _ (nx.keeps _ _ e)
 ·obtain⟨pa,op,m,e1,e2,e3,e4,e5⟩:=hp j x hj;have kb:∃ob,s.heap.get? x.2.1=some ob:=let ⟨ob,_,_,z,_⟩:=e5;⟨ob,z⟩;obtain⟨ob,eb⟩:=kb;exact⟨.ref pa,by rw [AQ];exact e1,pa,op,m,rfl,ni _ _ e2,ls _ _ e2,ni _ _ eb,ls _ _ eb,Pk _ _ e2,e3,e4,vX e5 fun o z=>Pk _ _ z⟩
 ·exact⟨rfl,q h' Yq (fun b o e=>kp b o (ni _ _ e) (ls _ _ e) (Pk _ _ e)) dd⟩
end
structure Pz where
 pa:Addr
 k:List Key
 b:Addr
 v:V
def Pz.At (H:Hp) (z:Pz):Prop:=H z.pa=some (.tup [.ref z.b,z.v])/\H z.b=some (.tup (z.k.map kV))
def Si (K:Ab):List V->Hp->VK->Prop:=fun xs H Q=>∃(p:Addr) (zs:List Pz),xs=[.ref p]/\cT K H p (zs.map fun z=>.ref z.pa)/\(∀z∈zs,z.At H)/\(zs.map (·.k)).Nodup/\zs.length<=1000/\mE H (.dT (zs.map fun z=>(z.k,z.v))) Q
theorem pX {K:Type} [DecidableEq K]:∀(ys xs:List (K×Addr×Value)),((xs++ys).map (·.1)).Nodup->ys.foldl (fun a y=>storedH a y.1 y.2.1 y.2.2) xs=xs++ys
 | [],xs,_=>by simp
 | y::ys,xs,h=>by
  have hn:atKey xs y.1=none:=by
   cases e:atKey xs y.1 with
   | none=>rfl
   | some p=>
    exfalso;rw [A1,Au] at h;have h2:=(DQ.mp h).2.2;have hm:y.1∈xs.map (·.1):=by
     by_cases hc:y.1∈xs.map (·.1)
     ·exact hc
     ·rw [atKey_none_of_get (fun j q hj=>?_)] at e
      ·cases e
      ·exact hc (AA.mpr ⟨_,Bn hj,rfl⟩)
    exact h2 _ hm _ Bo rfl
  rw [List.foldl_cons,storedH_new hn,pX ys (xs++[(y.1,y.2.1,y.2.2)]) (by simpa using h)];simp
section
variable {X:Cx}
def GU (K:Ab) (hK:X.K=K) (hc:X.calm=true) (hu:X.A.units+2 < cLine):bS X (.type "dict") (Si K):=by
 subst hK;intro pins s σ H xs us Q I r h;obtain⟨p,zs,rfl,hq,hz,hn,hl,q⟩:=h;obtain⟨u,rfl,rx⟩:=vals1 r;cases rx;obtain⟨aq,rv,pl,hsz⟩:=I.list hq;obtain⟨o,n,ho,U0,hd,nS⟩:=pl;have build:∀(zs:List Pz) (aq:List Value),(∀z∈zs,z.At H)->Vals (zs.map fun z=>V.ref z.pa) aq->∃ys:List (List Key×Addr×Value),ys.map (·.1)=zs.map (·.k)/\KT H (zs.map fun z=>(z.k,z.v)) ys/\
   ∀(j:Nat) (x:List Key×Addr×Value),ys[j]?=some x->∃(pa:Addr) (op:Obj) (m:Nat),aq[j]?=some (Av pa)/\s.heap.get? pa=some op/\op.cls=.type "tuple"/\op.data=.seq #[Av x.2.1,x.2.2] m/\(tupleKind (cH X.prog X.w)).is s.heap x.1 x.2.1:=by
  intro zs
  induction zs with
  | nil=>intro aq _ _;exact⟨[],rfl,.nil,fun j x h=>by simp at h⟩
  | cons z zs ih=>
   intro aq ha hv;cases hv with
   | @cons _ u _ us ru rus=>
   cases ru;obtain⟨ys,e1,e2,e3⟩:=ih us (fun y hy=>ha y (AU _ hy)) rus;obtain⟨a1,a2⟩:=ha z Bo;obtain⟨_,its',r',op,h1,h2,m,h3⟩:=(show bq X.prog X.w H s.heap z.pa (.tup [.ref z.b,z.v]) from I.bP _ _ a1);obtain⟨w,rfl,iI⟩:∃w,its'=[Av z.b,w]/\RelV z.v w:=by
    cases r' with
    | cons q1 q2=>cases q1;cases q2 with
     | cons q3 q4=>cases q4;exact⟨_,rfl,q3⟩
   refine⟨(z.k,z.b,w)::ys,by rw [Au,Au,e1],.cons ⟨rfl,a2,iI⟩ e2,fun j x hj=>?_⟩;cases j with
   | zero=>
    cases hj;exact⟨z.pa,op,m,rfl,h1,h2,h3,Gj I.bP a2⟩
   | succ j=>exact e3 j x hj
 obtain⟨ys,e1,e2,e3⟩:=build zs aq hz rv;have hlen:=rv.length;rw [Af] at hlen;have YR:ys.length=zs.length:=by have:=congrArg BL e1;simpa using this
 have hs:(1000:Nat)+1000<=sizeLine:=by decide
 refine qQ (knd:=cH X.prog X.w) (items:=aq.toArray) (ys:=ys) (I.ok.hd hc) hu ho U0 nS hd (by rw [Ag];omega) (by rw [Ag];omega) (fun j x hj=>?_) (fun h' tk kp dd=>?_)
 ·obtain⟨pa,op,m,g1,g2⟩:=e3 j x hj;exact⟨pa,op,m,by rw [EC];exact g1,g2⟩
 ·rw [pX ys [] (by rw [Di,e1];exact hn),Di] at dd;obtain⟨od,es,ep,YU,h2,h3,h4,_,h5⟩:=dd;have aaR:(s.heap.objs.size==sysModules)=false:=beq_eq_false_iff_ne.mpr (Bx (AJ I.big));have fr:=I.bP.fresh (Am s.heap.objs.size);refine⟨.ref s.heap.objs.size,_,I.laid (t':=tk) kp (Am _) (show bq X.prog X.w (upd H s.heap.objs.size (.dT (zs.map fun z=>(z.k,z.v)))) h' _ (.dT _) from⟨?_,aaR,ys,?_,od,es,ep,YU,h2,h3,h4,h5⟩),rfl,q.at _ fr⟩
  ·rw [Af];exact Bj hl (by decide)
  ·refine e2.keeps fun c xs ec=>?_;rw [av (fun z=>by subst z;rw [fr] at ec;cases ec)];exact ec
end
section
variable {prog:Program}{w:World}{A:Around}{E:Value->Shared->Prop}{s:Shared}
def QC (h:Heap) (d:Addr) (es:Array DictEntry) (ep:Nat):Prop:=∃o,h.get? d=some o/\o.ExactDict/\o.data=.dict es ep
def HM:Builtin.Dict_items.ownsTuple "dict_keyiterator"=false:=by decide
def LH {it d:Addr}{i ep:Nat}{es:Array DictEntry}{Q:Option Value->Shared->Prop} (hit:s.heap.IsKeyIter it d i es.size ep) (hm:QC s.heap d es ep) (hi:i < es.size)
  (q:∀h',h'.IsKeyIter it d (i+1) es.size ep->B6 it s.heap h'->Q (some es[i].key) {s with heap:=h'}):wpAny (model prog w) A (pyNext (.ref it)) Q E s:=by
 have ty:=hit.typeIs;obtain⟨o,ho,hc,hd⟩:=id hit;obtain⟨od,PM,-,Ri⟩:=hm;have Xl:(s.heap.update it (Obj.mapFields (·.setIfInBounds 1 (rawInt ((i:Int)+1))))).IsKeyIter it d (i+1) es.size ep:=⟨_,Ci _ ho (Ey (Cw hd _)),(Obj.cls_mapFields ..).trans hc,by rw [Cw hd];simp [rawInt]⟩;unfold pyNext;refine Aa (Cu (AM (name:=B5 "__next__") ty Bu (Bb Bu ty CW ?_ (CP _))));refine Aa (Ah (Aa (Aa ?_)))
 first | refine Aa (BK ty (Ah ?_)) | refine Aa (Ca ty (Ah ?_))
 refine Aa (wpAny_fieldsOf ho hd ?_);rw [HM];show wpAny _ _ (if (Av d==Ba)=true then _ else _) _ _ s;rw [if_neg (fun z:(Av d==Ba)=true=>AH z)];refine Aa (Ah (Aa (DN PM Ri ?_)));rw [if_neg (by simp)];refine Aa (Ah (Aa (Et PM Ri ?_)));rw [if_neg (by simp)];refine Ah ?_;have i0:¬((i:Int) < 0):=by omega
 simp only [i0,if_false,AO,Cq hi];refine Aa ?_
 first | refine Aa (BK ty (Ah ?_)) | refine Aa (Ca ty (Ah ?_))
 refine Aa (wpAny_isOneOf_keyiter ty ?_);show wpAny _ _ (setField (.ref it) 1 (rawInt ((i:Int)+1)) >>= _) _ _ s;refine Aa (Dx ho hd (by simp) (Aa (Be (Aa (wpAny_isOneOf_keyiter (s:={s with heap:=s.heap.update it (Obj.mapFields (·.setIfInBounds 1 (rawInt ((i:Int)+1))))}) Xl.typeIs ?_)))));show wpAny _ _ (pure es[i].key) _ _ _;exact Ah (Ah ⟨_,rfl,Ah (q _ Xl (B6.update ..))⟩)
def Qh {it d:Addr}{i ep:Nat}{es:Array DictEntry}{Q:Option Value->Shared->Prop} (hh:A.handled=none) (hit:s.heap.IsKeyIter it d i es.size ep) (hm:QC s.heap d es ep) (hi:es.size<=i)
  (q:∀h',Ff it s.heap h'->Q none {s with heap:=h'}):wpAny (model prog w) A (pyNext (.ref it)) Q E s:=by
 have ty:=hit.typeIs;obtain⟨o,ho,hc,hd⟩:=id hit;obtain⟨od,PM,-,Ri⟩:=hm;unfold pyNext;refine Aa (Cu (AM (name:=B5 "__next__") ty Bu (Bb Bu ty CW ?_ (CP _))));refine Aa (Ah (Aa (Aa ?_)))
 first | refine Aa (BK ty (Ah ?_)) | refine Aa (Ca ty (Ah ?_))
 refine Aa (wpAny_fieldsOf ho hd ?_);rw [HM];show wpAny _ _ (if (Av d==Ba)=true then _ else _) _ _ s;rw [if_neg (fun z:(Av d==Ba)=true=>AH z)];refine Aa (Ah (Aa (DN PM Ri ?_)));rw [if_neg (by simp)];refine Aa (Ah (Aa (Et PM Ri ?_)));rw [if_neg (by simp)];refine Ah ?_;have i0:¬((i:Int) < 0):=by omega
 simp only [i0,if_false,AO,En hi];refine Aa ?_
 first | refine Aa (BK ty (Ah ?_)) | refine Aa (Ca ty (Ah ?_))
 show wpAny _ _ (setField (.ref it) 0 .none >>= _) _ _ s;refine Aa (Dx ho hd (by simp) ?_);show wpAny _ _ (newExc (.type "StopIteration") [] >>= _) _ _ _;refine Aa ?_;unfold newExc newTuple;refine Aa (Bd (Aa (m:=firstArgMember _ _) (Cc (a:=Ba) (by first | rfl | (simp only [firstArgMember];rfl)) (Bd ?_ (by size_fits)))) (by size_fits));unfold raiseNew;refine Aa (wpAny_handled ?_);rw [show A.in1.handled=none from hh];refine Aa (Ah (wpAny_throw ?_));refine Aa (CT (T:="StopIteration") (b:=true) ⟨_,Ap _ rfl,rfl⟩ isSubtype_stop ?_);exact Ah (q _ (((B6.update ..).extBut.push _).push _))
def Mb {d:Addr}{es:Array DictEntry}{ep:Nat}{Q:Value->Shared->Prop} (hs:(d==sysModules)=false) (hm:QC s.heap d es ep)
  (q:Q (.ref s.heap.objs.size) {s with heap:=s.heap.push {cls:=.type "dict_keyiterator",data:=.fields #[.ref d,.int 0 0,.int es.size 0,.int ep 0]}}):wpAny (model prog w) A (pyIter (.ref d)) Q E s:=by
 obtain⟨od,PM,hx,Ri⟩:=hm;have ty:s.TypeIs (.ref d) "dict":=⟨_,PM,hx.1⟩;refine wpAny_pyIter_slot ty F.slot_dict_iter (Bb F.slot_dict_iter ty F.entry_dict_iter ?_ (F.args_dict_iter_1 _));unfold Builtin.«dict.__iter__»;refine Aa ?_;unfold Builtin.Dict.dictSlotNone;refine Aa (wpAny_notOrdered_dict ty ?_);show wpAny _ _ (pure (Av d)) _ _ s;refine Ah ?_;show wpAny _ _ (Builtin.Dict.showsAll d >>= _) _ _ s;unfold Builtin.Dict.showsAll;rw [if_neg (by rw [hs];exact AH)];refine Aa (Ah (Aa (DN PM Ri (Aa (Et PM Ri ?_)))));exact Aa (Bd (Ah ⟨_,rfl,"dict_keyiterator",_,⟨_,Ap _ rfl,rfl⟩,Bu.lookup,q⟩))
end
section
variable {X:Cx}{pins:List (Addr×Obj)}{σ:St}{H:Hp}{s:Shared}{a:Addr}{kvs:List (List Key×V)}
def Inv.freeze (I:Inv X pins σ H s) (e:H a=some (.dT kvs)):∃o,Inv X pins σ (upd H a (.cR o (.dT kvs))) s:=by
 obtain⟨z,hs,xs,r,o,es,ep,h1,h2,h3,h4,h5⟩:=(show bq X.prog X.w H s.heap a (.dT kvs) from I.bP a _ e);refine⟨o,?_⟩;have q:=I.write (x:=a) (e:=a) (o:=.cR o (.dT kvs)) (h':=s.heap) (t':=s.toks) (by rw [e];exact Cd) (.inl rfl) (fun b u _ z=>z) ⟨o,h1⟩
  ⟨h1,z,hs,xs,KT.keeps r fun b ys eb=>by rw [av (LK eb e (fun z=>nomatch z))];exact eb,o,es,ep,h1,h2,h3,h4,h5⟩
 exact q
def Inv.Vv {o:Obj}{u:HO} (I:Inv X pins σ H s) (e:H a=some (.cR o u)) (h0:∀o u,X.H₀ a≠some (.cR o u)) (hu:bq X.prog X.w (upd H a u) s.heap a u) (bP:mq X.prog X.w (upd H a u) s.heap):Inv X pins σ (upd H a u) s:=by
 have ne:∀b v,H b=v->v≠some (.cR o u)->b≠a:=fun b v q n z=>by subst z;exact n (q.symm.trans e)
 refine⟨I.ok,I.os,I.bare,⟨I.base.keep,I.base.slot,fun b ob q n hx=>?_,I.base.there,fun b xs q=>?_,fun b ob xs q=>?_,fun b ps q=>?_⟩,I.loc,I.cell,?_,fun x c q=>?_,fun p hp=>?_,bP,I.len⟩
 ·have:=I.base.free b ob q n hx;rw [av (ne b _ this (by simp))];exact this
 ·have:=I.base.eJ b xs q;rw [av (ne b _ this (by simp))];exact this
 ·have:=I.base.qN b ob xs q;have hb:b≠a:=fun z=>by subst z;exact h0 _ _ q
  rw [av hb];exact this
 ·obtain⟨m,this⟩:=I.base.vZ b ps q;exact⟨m,by rw [av (ne b _ this (by simp))];exact this⟩
 ·rw [av (ne _ _ I.free (by simp))];exact I.free
 ·rw [av (ne _ _ (I.km x c q) (by simp))];exact I.km x c q
 ·obtain⟨p1,p2,p3⟩:=I.pin p hp;exact⟨p1,by rw [av (ne _ _ p2 (by simp))];exact p2,p3⟩
end
def Yl (a:Addr) (o:Obj):It:=
 ⟨fun i H=>∃kvs,H a=some (.cR o (.dT kvs))/\i < kvs.length,fun i H x H'=>H'=H/\∀kvs,H a=some (.cR o (.dT kvs))->∃b k v,x=.ref b/\kvs[i]?=some (k,v)/\H b=some (.tup (k.map kV)),fun i H=>∃kvs,H a=some (.cR o (.dT kvs))/\kvs.length<=i⟩
def Mx {P:Program}{w:World}{H:Hp}{h:Heap}{a:Addr}{o:Obj}{kvs:List (List Key×V)}{es:Array DictEntry}{ep:Nat} (x:bq P w H h a (.cR o (.dT kvs))) (hd:o.data=.dict es ep) :
  QC h a es ep/\es.size=kvs.length/\∀(i:Nat) (hi:i < es.size),∃b k v,es[i].key=.ref b/\kvs[i]?=some (k,v)/\H b=some (.tup (k.map kV)):=by
 obtain⟨e,z,hs,xs,r,o',Zj,Zk,h1,h2,h3,h4,h5⟩:=x;rw [e] at h1;cases h1;rw [hd] at h3;cases h3;have hl:es.size=xs.length:=by have:=congrArg BL h4;simpa using this
 refine⟨⟨o,e,h2,hd⟩,hl.trans (Paired.length r).symm,fun i hi=>?_⟩;have hx:xs[i]?=some (xs[i]'(by omega)):=Ae _;have pg:∀{l:List (List Key×V)}{m:List (List Key×Addr×Value)}{i:Nat}{q:List Key×Addr×Value},KT H l m->m[i]?=some q->∃v,l[i]?=some (q.1,v)/\H q.2.1=some (.tup (q.1.map kV)):=by
  intro l m i q t
  induction t generalizing i with
  | nil=>intro h;simp at h
  | @cons p q' ps qs hq t ih=>
   intro h;cases i with
   | zero=>
    cases h;obtain⟨p1,p2⟩:=p;have e1:p1=q.1:=hq.1;subst e1;exact⟨p2,rfl,hq.2.1⟩
   | succ i=>exact ih (by simpa using h)
 obtain⟨v,g1,g2⟩:=pg r hx;refine⟨_,_,v,?_,g1,g2⟩;have:es[i]=entryOfKey (tupleKind (cH P w)) (xs[i]'(by omega)):=by
  have h6:es.toList[i]?=some (entryOfKey (tupleKind (cH P w)) (xs[i]'(by omega))):=by rw [h4,Ai,hx];rfl
  rw [ED,Cq hi] at h6;exact Option.some.inj h6
 rw [this];rfl
def II {P:Program}{w:World}{K:Ab}{tg:Expr} (a it:Addr) (o:Obj) {es:Array DictEntry}{ep:Nat} (hd:o.data=.dict es ep):Turn P w K tg (Yl a o) [it] it (fun i h=>h.IsKeyIter it a i es.size ep) where
 mem:=by simp
 obj:=fun i h st b hb=>by
  have e:b=it:=by simpa using hb
  subst e;obtain⟨o,e,c,d⟩:=st;exact⟨o,e,fun v z=>by rw [d] at z;cases z⟩
 keep:=fun i h h' st k=>st.at fun o e=>k it (by simp) o e
 item:=by
  intro X hP hw hK hc i pins s σ H E I hf st hg;subst hP hw hK;obtain⟨kvs,hq,hx⟩:=hg;obtain⟨raw,hl,ky⟩:=Mx (I.bP a _ hq) hd;obtain⟨b,k,v,k1,k2,k3⟩:=ky i (by omega);obtain⟨f0,f1,f2,f3,f4,f5⟩:=hf it (by simp);refine LH st raw (by omega) fun h' Hl sb=>?_;have I1:Inv X pins σ H {s with heap:=h'}:=I.turned (t':=s.toks) (fun b o hb e=>(sb.2 b hb).trans e) f0 f1 f3 f4 f5;obtain⟨oi,e,c,d⟩:=id Hl;refine⟨_,rfl,zF (s:={s with heap:=h'}) e c d (by decide) ⟨.ref b,H,I1,k1,⟨rfl,fun ads YU=>?_⟩,Hl,fun b hb=>(hf b hb).1⟩⟩;rw [hq] at YU;cases YU;exact⟨b,k,v,rfl,k2,k3⟩
 done:=by
  intro X hP hw hK hc i pins s σ H E I hf st hg;subst hP hw hK;obtain⟨kvs,hq,hx⟩:=hg;obtain⟨raw,hl,ky⟩:=Mx (I.bP a _ hq) hd;obtain⟨f0,f1,f2,f3,f4,f5⟩:=hf it (by simp);exact Qh (I.ok.hd hc) st raw (by omega) fun h' eb=>⟨rfl,I.turned (t':=s.toks) (fun b o hb e=>eb b o hb e) f0 f1 f3 f4 f5⟩
 self:=fun _ _ _ _ _ st h=>wpAny_pyIter_keyiter st h
def Tv (tl:TE):TI:=fun σ H R=>tl σ H fun x H1=>∃a o kvs,x=.ref a/\H1 a=some (.cR o (.dT kvs))/\R (Yl a o) H1
def Lj {X:Cx}{tg l:Expr}{tl:TE} (hl:PE X l tl):PI X tg l (Tv tl):=by
 intro pins s σ H R I h;refine cj (hl pins s σ H _ I h) fun v s1 ⟨x,H1,I1,r1,q1⟩=>?_;obtain⟨a,o,kvs,e,hq,q⟩:=q1;subst e;cases r1;obtain⟨eo,z,hs,xs,r,o',es,ep,h1,h2,h3,h4,h5⟩:=(show bq X.prog X.w H1 s1.heap a (.cR o (.dT kvs)) from I1.bP a _ hq);rw [eo] at h1;cases h1;refine Mb hs ⟨o,eo,h2,h3⟩ ?_;refine⟨s1.heap.objs.size,[s1.heap.objs.size],_,_,H1,rfl,I1.kept (t':=s1.toks) fun b o e=>Al _ e,II a _ o h3,⟨_,Ap _ rfl,rfl,rfl⟩,fun b hb=>?_,q⟩;have e:b=s1.heap.objs.size:=by simpa using hb
 subst e;exact I1.zH (Am _) (I1.bP.fresh (Am _))
end L2
namespace FL
section
open PySem PySem.Spec PyProof.Rows L2 PL
variable {K:Ab}
structure W (α:Type) where
 run:(α->Prop)->Prop
 mono:∀{Q Q':α->Prop},(∀a,Q a->Q' a)->run Q->run Q'
namespace W
variable {α β γ:Type}
def ext' {a b:W α} (h:∀Q,a.run Q↔b.run Q):a=b:=by
 cases a;cases b;congr;funext Q;exact propext (h Q)
def ret (a:α):W α:=⟨fun Q=>Q a,fun h q=>h _ q⟩
def bind (w:W α) (k:α->W β):W β:=⟨fun Q=>w.run fun a=>(k a).run Q,fun h q=>w.mono (fun a q=>(k a).mono h q) q⟩
def fail:W α:=⟨fun _=>False,fun _ q=>q⟩
def gF (p:Prop) (w:W α):W α:=⟨fun Q=>p/\w.run Q,fun h q=>⟨q.1,w.mono h q.2⟩⟩
def any (p:α->Prop):W α:=⟨fun Q=>∀a,p a->Q a,fun h q a pa=>h a (q a pa)⟩
def Lz:Option α->W α
 | some a=>ret a
 | none=>fail
@[simp] theorem ag (a:α) (k:α->W β):bind (ret a) k=k a:=(rfl)
@[simp] theorem bind_assoc (w:W α) (f:α->W β) (g:β->W γ):bind (bind w f) g=bind w fun a=>bind (f a) g:=(rfl)
@[simp] theorem Yc (w:W α):bind w ret=w:=(rfl)
@[simp] theorem U8 (k:α->W β):bind fail k=fail:=(rfl)
@[simp] theorem ai (a:α) (Q:α->Prop):(ret a).run Q=Q a:=(rfl)
@[simp] theorem run_bind (w:W α) (k:α->W β) (Q:β->Prop):(bind w k).run Q=w.run fun a=>(k a).run Q:=(rfl)
@[simp] theorem VY (Q:α->Prop):(fail:W α).run Q=False:=(rfl)
@[simp] theorem Yw (p Q:α->Prop):(any p).run Q=∀a,p a->Q a:=(rfl)
@[simp] theorem Om (p:Prop) (w:W α) (Q:α->Prop):(gF p w).run Q=(p/\w.run Q):=(rfl)
@[simp] theorem Nd (p:Prop) (w:W α) (k:α->W β):bind (gF p w) k=gF p (bind w k):=(rfl)
def ar {p:Prop}{w:W α} (h:p):gF p w=w:=ext' fun Q=>⟨fun q=>q.2,fun q=>⟨h,q⟩⟩
@[simp] theorem X7 {w:W α}:gF True w=w:=ar trivial
@[simp] theorem aA (a:α):Lz (some a)=ret a:=(rfl)
@[simp] theorem WA:Lz (none:Option α)=fail:=(rfl)
end W
inductive SL where
 | val (v:PV) | adr (b:Addr) | ol (q:Option Addr) (l:List PV) | qY (bs:List Addr) (ls:List (List PV)) | od (kvs:List (Key×PV)) | ot (kvs:List (List Key×PV)) | gI (φ:List V->Prop)
abbrev aX:=List (Option SL)
def SL.own:SL->Bool
 | .val _=>false
 | .adr _=>false
 | _=>true
def SL.FD:SL->List Addr
 | .qY bs _=>bs
 | _=>[]
def SL.has (s:SL) (x a:Addr):Prop:=a=x\/a∈s.FD
def iB (K:Ab) (H:Hp) (a:Addr):SL->Prop
 | .val _=>False
 | .adr b=>a=b
 | .qY bs ls=>H a=some (.lst (bs.map V.ref))/\a∉bs/\bs.Nodup/\bs.length=ls.length/\∀(j:Nat) (b:Addr) (l:List PV),bs[j]?=some b->ls[j]?=some l->∃ws,H b=some (.lst ws)/\aK K [] H ws l
 | .ol q l=>(∀b,q=some b->a=b)/\∃vs,H a=some (.lst vs)/\aK K [] H vs l
 | .od kvs=>∃vs:List (Key×V),H a=some (.dK vs)/\vs.map (·.1)=kvs.map (·.1)/\aK K [] H (vs.map (·.2)) (kvs.map (·.2))
 | .ot kvs=>∃vs:List (List Key×V),H a=some (.dT vs)/\vs.map (·.1)=kvs.map (·.1)/\aK K [] H (vs.map (·.2)) (kvs.map (·.2))
 | .gI φ=>∃vs,H a=some (.lst vs)/\φ vs
def vM (K:Ab) (H:Hp) (u:V) (s:SL):Prop:=(∃v,s=.val v/\VR K [] H u v)\/∃a,u=.ref a/\iB K H a s
def cV (σ:L2.St) (fs:aX) (a:Addr):Prop:=∃(i:Nat) (s:SL) (x:Addr),fs[i]?=some (some s)/\s.own=true/\σ[i]?=some (some (.ref x))/\s.has x a
def e6 (σ:L2.St) (fs:aX) (φ:List V->Prop) (a:Addr):Prop:=∃i:Nat,fs[i]?=some (some (.gI φ))/\σ[i]?=some (some (.ref a))
structure aR (K:Ab) (H:Hp) (σ:L2.St) (fs:aX):Prop where
 len:σ.length=fs.length
 at':∀(i:Nat) (s:SL),fs[i]?=some (some s)->∃u,σ[i]?=some (some u)/\vM K H u s
 nd:∀(i j:Nat) (s t:SL) (x y a:Addr),fs[i]?=some (some s)->fs[j]?=some (some t)->s.own=true->t.own=true->σ[i]?=some (some (.ref x))->σ[j]?=some (some (.ref y))->s.has x a->t.has y a->i=j
structure cE (σ:L2.St) (fs:aX) (H:Hp) (σ':L2.St) (bC:aX) (H':Hp):Prop where
 keep:∀a o,H a=some o->¬cV σ fs a->H' a=some o/\¬cV σ' bC a
 there:∀a,H' a=none->H a=none
 pk:∀a φ,e6 σ fs φ a->e6 σ' bC φ a\/(¬cV σ' bC a/\∃vs,H' a=some (.lst vs)/\φ vs)
structure cL (σ:L2.St) (fs:aX) (H H':Hp):Prop where
 keep:∀a o,H a=some o->(∀φ,¬e6 σ fs φ a)->H' a=some o
 there:∀a,H' a=none->H a=none
section
variable {σ σ' σ1 σ2:L2.St}{fs bC PY dC:aX}{H H' H1 H2:Hp}
def e6.wQ {φ:List V->Prop}{a:Addr} (p:e6 σ fs φ a):cV σ fs a:=let ⟨i,e1,e2⟩:=p;⟨i,_,_,e1,rfl,e2,.inl rfl⟩
def cL.refl:cL σ fs H H:=⟨fun _ _ h _=>h,fun _ h=>h⟩
def cL.trans (a:cL σ fs H H1) (b:cL σ fs H1 H2):cL σ fs H H2:=⟨fun x o h n=>b.keep x o (a.keep x o h n) n,fun x h=>a.there x (b.there x h)⟩
def cL.f (g:cL σ fs H H'):cE σ fs H σ fs H':=⟨fun a o h n=>⟨g.keep a o h fun φ p=>n p.wQ,n⟩,g.there,fun a φ p=>.inl p⟩
def cL.pU (g:cL σ fs H H') {a:Addr}{o:HO} (h:H a=some o) (n:¬cV σ fs a):H' a=some o:=g.keep a o h fun φ p=>n p.wQ
def cL.same (h:lG H H'):cL σ fs H H':=⟨fun a o e _=>h a o e,fun a e=>(by
 cases z:H a with
 | none=>rfl
 | some o=>rw [h a o z] at e;cases e)⟩
def iB.ex {a c:Addr}{s:SL} (h:iB K H a s) (ho:s.own=true) (hc:s.has a c):∃o,H c=some o/\(∀vs,o≠.tup vs)/\∀ob u,o≠.cR ob u:=by
 cases s with
 | val _=>exact h.elim
 | adr _=>cases ho
 | ol q l=>obtain⟨_,vs,e,_⟩:=h;rcases hc with rfl | hc;exact⟨_,e,by simp,by simp⟩;cases hc
 | qY bs ls=>
  obtain⟨e,_,_,hl,hb⟩:=h;rcases hc with rfl | hc
  ·exact⟨_,e,by simp,by simp⟩
  ·obtain⟨j,hj⟩:=Co (show c∈bs from hc);have h1:=(Aj.mp hj).1;obtain⟨ws,e,_⟩:=hb j c _ hj (Ae (by rw [<- hl];exact h1));exact⟨_,e,by simp,by simp⟩
 | od l=>obtain⟨vs,e,_⟩:=h;rcases hc with rfl | hc;exact⟨_,e,by simp,by simp⟩;cases hc
 | ot l=>obtain⟨vs,e,_⟩:=h;rcases hc with rfl | hc;exact⟨_,e,by simp,by simp⟩;cases hc
 | gI l=>obtain⟨vs,e,_⟩:=h;rcases hc with rfl | hc;exact⟨_,e,by simp,by simp⟩;cases hc
def aR.ownAt (s:aR K H σ fs) {i:Nat}{t:SL}{a:Addr} (h1:fs[i]?=some (some t)) (h2:t.own=true) (h3:σ[i]?=some (some (.ref a))):iB K H a t:=by
 obtain⟨u,e,r⟩:=s.at' i t h1;rw [h3] at e;cases e;rcases r with⟨v,rfl,_⟩ | ⟨b,e,r⟩
 ·cases h2
 ·cases e;exact r
def aR.wQ (s:aR K H σ fs) {a:Addr} (h:cV σ fs a):∃o,H a=some o/\(∀vs,o≠.tup vs)/\∀ob u,o≠.cR ob u:=by
 obtain⟨i,t,x,h1,h2,h3,h4⟩:=h;exact (s.ownAt h1 h2 h3).ex h2 h4
def aR.noOwn (s:aR K H σ fs) {a:Addr} (h:H a=none):¬cV σ fs a:=fun z=>by
 obtain⟨o,e,_⟩:=s.wQ z;rw [h] at e;cases e
def aR.SW (s:aR K H σ fs) {a:Addr}{vs:List V} (h:H a=some (.tup vs)):¬cV σ fs a:=fun z=>by
 obtain⟨o,e,n,_⟩:=s.wQ z;rw [h] at e;cases e;exact n vs rfl
def aR.SX (s:aR K H σ fs) {a:Addr}{ob:Obj}{u:HO} (h:H a=some (.cR ob u)):¬cV σ fs a:=fun z=>by
 obtain⟨o,e,_,n⟩:=s.wQ z;rw [h] at e;cases e;exact n ob u rfl
def cE.refl:cE σ fs H σ fs H:=⟨fun _ _ h n=>⟨h,n⟩,fun _ h=>h,fun _ _ h=>.inl h⟩
def cE.trans (a:cE σ fs H σ1 PY H1) (b:cE σ1 PY H1 σ2 dC H2):cE σ fs H σ2 dC H2:=
 ⟨fun x o h n=>let ⟨h1,n1⟩:=a.keep x o h n;b.keep x o h1 n1,fun x h=>a.there x (b.there x h),fun x φ h=>(a.pk x φ h).elim (b.pk x φ) fun ⟨n,vs,e,p⟩=>.inr (let ⟨h1,n1⟩:=b.keep x _ e n;⟨n1,vs,h1,p⟩)⟩
def cE.eJ (g:cE σ fs H σ' bC H') (s:aR K H σ fs):bc K H H':=
 ⟨fun a vs h=>(g.keep a _ h (s.SW h)).1,fun a o u h=>(g.keep a _ h (s.SX h)).1⟩
def VR.tk {u:V}{v:PV} (t:bc K H H') (r:VR K [] H u v):VR K [] H' u v:=r.mono t fun _ _ e=>e
def aK.tk {u:List V}{v:List PV} (t:bc K H H') (r:aK K [] H u v):aK K [] H' u v:=r.mono t fun _ _ e=>e
def cE.vr (g:cE σ fs H σ' bC H') (s:aR K H σ fs) {u:V}{v:PV} (r:VR K [] H u v):VR K [] H' u v:=VR.tk (g.eJ s) r
def cL.eJ (g:cL σ fs H H') (s:aR K H σ fs):bc K H H':=g.f.eJ s
def cL.vr (g:cL σ fs H H') (s:aR K H σ fs) {u:V}{v:PV} (r:VR K [] H u v):VR K [] H' u v:=VR.tk (g.eJ s) r
def cL.Kc (g:cL σ fs H H') (s:aR K H σ fs) {u:List V}{v:List PV} (r:aK K [] H u v):aK K [] H' u v:=aK.tk (g.eJ s) r
def iB.mono {a:Addr}{s:SL} (t:bc K H H') (e:∀c o,s.own=true->s.has a c->H c=some o->H' c=some o) (h:iB K H a s):iB K H' a s:=by
 cases s with
 | val _=>exact h
 | adr _=>exact h
 | ol _ l=>obtain⟨z,vs,q,r⟩:=h;exact⟨z,vs,e _ _ rfl (.inl rfl) q,aK.tk t r⟩
 | qY bs ls=>
  obtain⟨z,h1,h2,h3,h4⟩:=h;refine⟨e _ _ rfl (.inl rfl) z,h1,h2,h3,fun j b l hb hl=>?_⟩;obtain⟨ws,q,r⟩:=h4 j b l hb hl;exact⟨ws,e _ _ rfl (.inr (Bn hb)) q,aK.tk t r⟩
 | od l=>obtain⟨vs,q,k,r⟩:=h;exact⟨vs,e _ _ rfl (.inl rfl) q,k,aK.tk t r⟩
 | ot l=>obtain⟨vs,q,k,r⟩:=h;exact⟨vs,e _ _ rfl (.inl rfl) q,k,aK.tk t r⟩
 | gI φ=>obtain⟨vs,q,k⟩:=h;exact⟨vs,e _ _ rfl (.inl rfl) q,k⟩
def vM.mono {u:V}{s:SL} (t:bc K H H') (e:∀x a o,u=.ref x->s.own=true->s.has x a->H a=some o->H' a=some o) (h:vM K H u s):vM K H' u s:=by
 rcases h with⟨v,q,r⟩ | ⟨a,q,r⟩
 ·exact .inl ⟨v,q,VR.tk t r⟩
 ·exact .inr ⟨a,q,r.mono t (fun c o z y w=>e a c o q z y w)⟩
def aR.same (s:aR K H σ fs) (h:lG H H'):aR K H' σ fs:=⟨s.len,fun i t e=>let ⟨u,h1,h2⟩:=s.at' i t e;⟨u,h1,h2.mono h.fc (fun _ a o _ _ _ z=>h a o z)⟩,s.nd⟩
def cE.same (h:lG H H') (s:aR K H σ fs):cE σ fs H σ fs H':=⟨fun a o e n=>⟨h a o e,n⟩,fun a e=>(by
 cases z:H a with
 | none=>rfl
 | some o=>rw [h a o z] at e;cases e),fun a φ p=>.inl p⟩
inductive jo:aX->aX->Prop
 | nil:jo [] []
 | drop {s:Option SL}{a b:aX} (h:jo a b):jo (s::a) (none::b)
 | keep {s:Option SL}{a b:aX} (h:jo a b):jo (s::a) (s::b)
theorem jo.at {a b:aX} (h:jo a b):∀(i:Nat) (s:SL),b[i]?=some (some s)->a[i]?=some (some s):=by
 induction h with
 | nil=>intro i s e;simp at e
 | drop h ih=>intro i s e;cases i with | zero=>simp at e | succ i=>simp at e ⊢;exact ih i s e
 | keep h ih=>intro i s e;cases i with | zero=>simpa using e | succ i=>simp at e ⊢;exact ih i s e
def jo.length {a b:aX} (h:jo a b):a.length=b.length:=by induction h <;> simp_all
theorem jo.refl:∀a:aX,jo a a
 | []=>.nil
 | _::a=>.keep (jo.refl a)
def aR.le (s:aR K H σ fs) (h:jo fs bC):aR K H σ bC:=⟨s.len.trans h.length,fun i t e=>s.at' i t (h.at i t e),fun i j t u x y a e1 e2=>s.nd i j t u x y a (h.at i t e1) (h.at j u e2)⟩
def cV.le (h:jo fs bC) {a:Addr} (o:cV σ bC a):cV σ fs a:=let ⟨i,t,x,e1,e2,e3⟩:=o;⟨i,t,x,h.at i t e1,e2,e3⟩
def cE.le (s:aR K H σ fs) (h:jo fs bC):cE σ fs H σ bC H:=⟨fun a o e n=>⟨e,fun z=>n (z.le h)⟩,fun _ e=>e,fun a φ p=>by
 obtain⟨i,e1,e2⟩:=p;by_cases c:cV σ bC a
 ·obtain⟨j,t,x,c1,c2,c3,c4⟩:=c;have ij:=s.nd i j _ t a x a e1 (h.at j t c1) rfl c2 e2 c3 (.inl rfl) c4;subst ij;have:=h.at i t c1;rw [e1] at this;cases this;exact .inl ⟨i,c1,e2⟩
 ·obtain⟨vs,q,r⟩:=s.ownAt e1 rfl e2;exact .inr ⟨c,vs,q,r⟩⟩
def aY {α:Type}{l:List (Option α)}{i j:Nat}{x y:α} (h:(l.set i (some x))[j]?=some (some y)):(j=i/\y=x)\/(j≠i/\l[j]?=some (some y)):=by
 by_cases c:j=i
 ·subst c;rw [List.getElem?_set] at h;simp at h;exact .inl ⟨rfl,h.2.symm⟩
 ·rw [Bp (fun z=>c z.symm)] at h;exact .inr ⟨c,h⟩
def bZ {α:Type}{l:List α}{i:Nat}{x:α} (h:i < l.length):(l.set i x)[i]?=some x:=by rw [List.getElem?_set];simp [h]
def aD {α:Type}{l:List α}{i j:Nat}{x:α} (h:j≠i):(l.set i x)[j]?=l[j]?:=Bp (fun z=>h z.symm)
def aR.put (s:aR K H σ fs) {i:Nat}{u:V}{t:SL} (hr:vM K H u t) (hf:∀x a,u=.ref x->t.own=true->t.has x a->∀(j:Nat) (w:SL) (y:Addr),j≠i->fs[j]?=some (some w)->w.own=true->σ[j]?=some (some (.ref y))->¬w.has y a):aR K H (σ.set i (some u)) (fs.set i (some t)):=by
 refine⟨by simp [s.len],fun j w e=>?_,fun j k w x b1 b2 a e1 e2 o1 o2 q1 q2 z1 z2=>?_⟩
 ·rcases aY e with⟨rfl,rfl⟩ | ⟨n,e⟩
  ·have hl:j < σ.length:=by
    have:=(Aj.mp e).1;rw [BR] at this;rw [s.len];exact this
   exact⟨u,bZ hl,hr⟩
  ·obtain⟨v,h1,h2⟩:=s.at' j w e;exact⟨v,by rw [aD n];exact h1,h2⟩
 ·rcases aY e1 with⟨y1,y2⟩ | ⟨n1,f1⟩ <;> rcases aY e2 with⟨y3,y4⟩ | ⟨n2,f2⟩
  ·exact y1.trans y3.symm
  ·subst y1;subst y2;rw [aD n2] at q2;have hl:j < σ.length:=by have:=(Aj.mp q1).1;simpa using this
   rw [bZ hl] at q1;cases q1;exact absurd z2 (hf _ a rfl o1 z1 k x b2 n2 f2 o2 q2)
  ·subst y3;subst y4;rw [aD n1] at q1;have hl:k < σ.length:=by have:=(Aj.mp q2).1;simpa using this
   rw [bZ hl] at q2;cases q2;exact absurd z1 (hf _ a rfl o2 z2 j w b1 n1 f1 o1 q1)
  ·rw [aD n1] at q1;rw [aD n2] at q2;exact s.nd j k w x b1 b2 a f1 f2 o1 o2 q1 q2 z1 z2
def aR.dI (s:aR K H σ fs) {u:V}{v:PV} (hr:VR K [] H u v) (i:Nat):aR K H (σ.set i (some u)) (fs.set i (some (.val v))):=s.put (.inl ⟨v,rfl,hr⟩) fun _ _ _ z=>by cases z
def y9 {i:Nat}{u:V}{t:SL}{a:Addr} (o:cV (σ.set i (some u)) (fs.set i (some t)) a) (hl:σ.length=fs.length):cV σ fs a\/∃x,u=.ref x/\t.own=true/\t.has x a:=by
 obtain⟨j,w,x,e1,e2,e3,e4⟩:=o;rcases aY e1 with⟨rfl,rfl⟩ | ⟨n,e1⟩
 ·have h2:j < σ.length:=by have:=(Aj.mp e3).1;simpa using this
  rw [bZ h2] at e3;cases e3;exact .inr ⟨x,rfl,e2,e4⟩
 ·rw [aD n] at e3;exact .inl ⟨j,w,x,e1,e2,e3,e4⟩
def Hy (s:aR K H σ fs) {i:Nat}{u:V}{t:SL}{φ:List V->Prop}{a:Addr} (p:e6 σ fs φ a) (hu:∀x,u=.ref x->t.own=true->t.has x a->t=.gI φ):e6 (σ.set i (some u)) (fs.set i (some t)) φ a\/¬cV (σ.set i (some u)) (fs.set i (some t)) a:=by
 obtain⟨j,e1,e2⟩:=p;by_cases c:j=i
 ·subst c;by_cases c2:∃x,u=.ref x/\t.own=true/\t.has x a
  ·obtain⟨x,c3,c4,c5⟩:=c2;have hl:=(Aj.mp e2).1;have NL:=(Aj.mp e1).1;have et:=hu x c3 c4 c5;subst et;rcases c5 with rfl | c5
   ·exact .inl ⟨j,by rw [bZ NL],by rw [bZ hl,c3]⟩
   ·cases c5
  ·refine .inr fun o=>?_;obtain⟨k,w,y,q1,q2,q3,q4⟩:=o;rcases aY q1 with⟨rfl,rfl⟩ | ⟨n,q1⟩
   ·have hl:=(Aj.mp e2).1;rw [bZ hl] at q3;cases q3;exact c2 ⟨y,rfl,q2,q4⟩
   ·rw [aD n] at q3;exact n (s.nd k j w _ y a a q1 e1 q2 rfl q3 e2 q4 (.inl rfl))
 ·exact .inl ⟨j,by rw [aD c];exact e1,by rw [aD c];exact e2⟩
def cE.dI (s:aR K H σ fs) (u:V) (v:PV) (i:Nat):cE σ fs H (σ.set i (some u)) (fs.set i (some (.val v))) H:=
 ⟨fun a o e n=>⟨e,fun z=>(y9 z s.len).elim n fun ⟨_,_,z,_⟩=>by cases z⟩,fun _ e=>e,fun a φ p=>(Hy s p (fun _ _ z=>by cases z)).imp id fun n=>⟨n,by
  obtain⟨j,e1,e2⟩:=p;obtain⟨vs,q,r⟩:=s.ownAt e1 rfl e2;exact⟨vs,q,r⟩⟩⟩
def aR.K9 (s:aR K H σ fs) {a:Addr}{t:SL} (hr:iB K H a t) (hn:∀c,t.has a c->¬cV σ fs c) (i:Nat):aR K H (σ.set i (some (.ref a))) (fs.set i (some t)):=s.put (.inr ⟨a,rfl,hr⟩) fun x c e _ hc j w y n e1 e2 e3 z=>by
 cases e;exact hn c hc ⟨j,w,y,e1,e2,e3,z⟩
def xo {t:SL} (hi:t.FD=[]) {a c:Addr} (h:t.has a c):c=a:=by
 rcases h with h | h
 ·exact h
 ·rw [hi] at h;cases h
def aR.wB (s:aR K H σ fs) {a:Addr}{t:SL} (hr:iB K H a t) (hn:¬cV σ fs a) (i:Nat) (hi:t.FD=[]:=by rfl):aR K H (σ.set i (some (.ref a))) (fs.set i (some t)):=s.K9 hr (fun c hc=>by rw [xo hi hc];exact hn) i
def cE.K9 (s:aR K H1 σ fs) (g:cE σ fs H σ fs H1) {a:Addr}{t:SL} (hn:∀c,t.has a c->¬cV σ fs c) (h0:∀c,t.has a c->H c=none) (i:Nat):cE σ fs H (σ.set i (some (.ref a))) (fs.set i (some t)) H1:=by
 refine⟨fun b o e n=>⟨(g.keep b o e n).1,fun z=>(y9 z s.len).elim n fun ⟨x,z,_,y⟩=>?_⟩,g.there,fun b φ p=>?_⟩
 ·cases z;rw [h0 b y] at e;cases e
 ·obtain⟨j,e1,e2⟩:=p;obtain⟨vs,q,r⟩:=s.ownAt e1 rfl e2;refine (Hy (t:=t) s ⟨j,e1,e2⟩ (fun x z o y=>?_)).imp id fun n=>⟨n,vs,q,r⟩;cases z;exact absurd ⟨j,_,_,e1,rfl,e2,.inl rfl⟩ (hn b y)
def cE.wB (s:aR K H1 σ fs) (g:cE σ fs H σ fs H1) {a:Addr}{t:SL} (hn:¬cV σ fs a) (h0:H a=none) (i:Nat) (hi:t.FD=[]:=by rfl):cE σ fs H (σ.set i (some (.ref a))) (fs.set i (some t)) H1:=cE.K9 s g (fun c hc=>by rw [xo hi hc];exact hn) (fun c hc=>by rw [xo hi hc];exact h0) i
def pR (s:aR K H σ fs) {i:Nat}{t t':SL}{a c:Addr} (e1:fs[i]?=some (some t)) (o:t.own=true) (np:∀φ,t≠.gI φ) (e2:σ[i]?=some (some (.ref a))) (hc:t.has a c) (U0:t'.has a c) (uJ:∀b,t'.has a b->t.has a b) (o':t'.own=true) (sx:qd c H H') (ht:bc K H H'->iB K H' a t'):aR K H' σ (fs.set i (some t'))/\cE σ fs H σ (fs.set i (some t')) H':=by
 have oa:=s.ownAt e1 o e2;obtain⟨ob,q,n1,n2⟩:=oa.ex o hc;have tk:bc K H H':=⟨fun b vs z=>sx b _ (fun y=>by subst y;rw [q] at z;cases z;exact n1 _ rfl) z,fun b o u z=>sx b _ (fun y=>by subst y;rw [q] at z;cases z;exact n2 _ _ rfl) z⟩;have oa':=ht tk;have hi:i < fs.length:=(Aj.mp e1).1;have OM:∀b,cV σ (fs.set i (some t')) b->cV σ fs b:=fun b z=>by
  obtain⟨j,w,x,z1,z2,z3,z4⟩:=z;rcases aY z1 with⟨rfl,rfl⟩ | ⟨n,z1⟩
  ·rw [e2] at z3;cases z3;exact⟨j,t,a,e1,o,e2,uJ b z4⟩
  ·exact⟨j,w,x,z1,z2,z3,z4⟩
 refine⟨⟨by simp [s.len],fun j w e=>?_,fun j k w x b1 b2 b z1 z2 o1 o2 q1 q2 y1 y2=>?_⟩,⟨fun b ob e n=>⟨sx b ob (fun z=>by subst z;exact n ⟨i,t,a,e1,o,e2,hc⟩) e,fun z=>n (OM b z)⟩,fun b e=>?_,fun b φ p=>?_⟩⟩
 ·rcases aY e with⟨rfl,rfl⟩ | ⟨n,e⟩
  ·exact⟨_,e2,.inr ⟨a,rfl,oa'⟩⟩
  ·obtain⟨u,h1,h2⟩:=s.at' j w e;refine⟨u,h1,h2.mono tk (fun x b ob eb ow hb z=>sx b ob (fun y=>?_) z)⟩;subst y;subst eb;exact n (s.nd j i w t x a b e e1 ow o h1 e2 hb hc)
 ·have f:∀{j:Nat}{w:SL}{y:Addr},(fs.set i (some t'))[j]?=some (some w)->w.own=true->σ[j]?=some (some (.ref y))->w.has y b->∃w',fs[j]?=some (some w')/\w'.own=true/\w'.has y b:=fun {j w y} z ow qy hy=>by
   rcases aY z with⟨rfl,rfl⟩ | ⟨n,z⟩
   ·rw [e2] at qy;cases qy;exact⟨t,e1,o,uJ b hy⟩
   ·exact⟨w,z,ow,hy⟩
  obtain⟨w',a1,a2,a3⟩:=f z1 o1 q1 y1;obtain⟨x',c1,c2,c3⟩:=f z2 o2 q2 y2;exact s.nd j k w' x' b1 b2 b a1 c1 a2 c2 q1 q2 a3 c3
 ·cases z:H b with
  | none=>rfl
  | some ob=>
   by_cases cc:b=c
   ·subst cc;obtain⟨o2,y,_⟩:=oa'.ex o' U0;rw [e] at y;cases y
   ·rw [sx b ob cc z] at e;cases e
 ·obtain⟨j,p1,p2⟩:=p;have ji:j≠i:=fun z=>by subst z;rw [e1] at p1;cases p1;exact np φ rfl
  exact .inl ⟨j,by rw [aD ji];exact p1,p2⟩
def sd (s:aR K H σ fs) {i:Nat}{t t':SL}{a:Addr} (e1:fs[i]?=some (some t)) (o:t.own=true) (np:∀φ,t≠.gI φ) (e2:σ[i]?=some (some (.ref a))) (sx:qd a H H') (ht:bc K H H'->iB K H' a t') (hi:t'.FD=t.FD:=by rfl) (o':t'.own=true:=by rfl):aR K H' σ (fs.set i (some t'))/\cE σ fs H σ (fs.set i (some t')) H':=
 pR s e1 o np e2 (.inl rfl) (.inl rfl) (fun b h=>by unfold SL.has at h ⊢;rw [hi] at h;exact h) o' sx ht
end
end
section
open PySem PySem.Spec PyProof.Rows L2 PL
variable {K:Ab}
def fE (K:Ab) (fs:aX) (w:W PV):TE:=fun σ H Q=>aR K H σ fs/\w.run fun v=>∀u H',cL σ fs H H'->aR K H' σ fs->VR K [] H' u v->Q u H'
def fT (K:Ab) (fs:aX) (w:W Bool):TT:=fun σ H Q=>aR K H σ fs/\w.run fun b=>∀H',cL σ fs H H'->aR K H' σ fs->Q b H'
def fO (K:Ab) (fs:aX) (w:W (Option Int)):TO:=fun σ H Q=>aR K H σ fs/\w.run fun b=>∀H',cL σ fs H H'->aR K H' σ fs->Q b H'
def fL (K:Ab) (fs:aX) (w:W (List PV)):TE:=fun σ H Q=>aR K H σ fs/\w.run fun l=>∀a vs H',cL σ fs H H'->aR K H' σ fs->H a=none->H' a=some (.lst vs)->aK K [] H' vs l->Q (.ref a) H'
def UD (K:Ab) (H:Hp) (u:V) (l:List PV):Prop:=∃a vs,u=.ref a/\(RE K H a vs\/H a=some (.tup vs))/\aK K [] H vs l
def QB (K:Ab) (σ:L2.St) (fs:aX) (H:Hp) (u:V) (l:List PV):Prop:=UD K H u l\/∃a,u=.ref a/\((¬cV σ fs a/\∃vs,H a=some (.lst vs)/\aK K [] H vs l)\/∃(i:Nat) (q:Option Addr),fs[i]?=some (some (.ol q l))/\σ[i]?=some (some (.ref a)))
def fQ (K:Ab) (fs:aX) (w:W (List PV)):TE:=fun σ H Q=>aR K H σ fs/\w.run fun l=>∀u H',cL σ fs H H'->aR K H' σ fs->QB K σ fs H' u l->Q u H'
def fI (K:Ab) (fs:aX) (w:W (List PV)):TE:=fun σ H Q=>aR K H σ fs/\w.run fun l=>∀u H',cL σ fs H H'->aR K H' σ fs->UD K H' u l->Q u H'
inductive AK where
 | v | p (φ:List V->Prop) | f (a:Addr)
inductive fY (K:Ab) (σ:L2.St) (fs:aX) (H:Hp):List V->List AK->List PV->Prop
 | nil:fY K σ fs H [] [] []
 | v {u:V}{x:PV}{vs:List V}{ks:List AK}{l:List PV} (r:VR K [] H u x) (t:fY K σ fs H vs ks l):fY K σ fs H (u::vs) (.v::ks) (x::l)
 | p {a:Addr}{φ:List V->Prop}{vs:List V}{ks:List AK}{l:List PV} (r:e6 σ fs φ a) (t:fY K σ fs H vs ks l):fY K σ fs H (.ref a::vs) (.p φ::ks) l
 | f {a:Addr}{vs:List V}{ks:List AK}{l:List PV} (t:fY K σ fs H vs ks l):fY K σ fs H (.ref a::vs) (.f a::ks) l
def fA (K:Ab) (fs:aX) (ks:List AK) (w:W (List PV)):TA:=fun σ H Q=>aR K H σ fs/\w.run fun l=>∀vs H',cL σ fs H H'->aR K H' σ fs->fY K σ fs H' vs ks l->Q vs H'
structure EF (X:Cx) (K:Ab) (fs:aX) (e:Expr) (w:W PV):Prop where p:PE X e (fE K fs w)
structure LF (X:Cx) (K:Ab) (fs:aX) (e:Expr) (w:W (List PV)):Prop where p:PE X e (fL K fs w)
structure QF (X:Cx) (K:Ab) (fs:aX) (e:Expr) (w:W (List PV)):Prop where p:PE X e (fQ K fs w)
structure IF (X:Cx) (K:Ab) (fs:aX) (e:Expr) (w:W (List PV)):Prop where p:PE X e (fI K fs w)
structure TF (X:Cx) (K:Ab) (fs:aX) (e:Expr) (w:W Bool):Prop where p:PT X e (fT K fs w)
structure uU (X:Cx) (K:Ab) (fs:aX) (e:Expr) (w:W Bool):Prop where p:PW X e (fT K fs w)
structure OF (X:Cx) (K:Ab) (fs:aX) (e:Option Expr) (w:W (Option Int)):Prop where p:L2.PO X e (fO K fs w)
structure AF (X:Cx) (K:Ab) (fs:aX) (es:List Expr) (ks:List AK) {R:Type} (B:(List PV->W R)->W R):Prop where
 p:∃w:W (List PV),PA X es (fA K fs ks w)/\∀k,B k=W.bind w k
section
variable {σ:L2.St}{fs:aX}{H H':Hp}
def UD.tk {u:V}{l:List PV} (t:bc K H H') (h:UD K H u l):UD K H' u l:=by
 obtain⟨a,vs,e,q,r⟩:=h;exact⟨a,vs,e,q.imp (t.f _ _) (t.t _ _),aK.tk t r⟩
def QB.go {u:V}{l:List PV} (h:QB K σ fs H u l) (s:aR K H σ fs) (g:cL σ fs H H'):QB K σ fs H' u l:=by
 rcases h with h | ⟨a,e,⟨n,vs,q,r⟩ | q⟩
 ·exact .inl (h.tk (g.eJ s))
 ·exact .inr ⟨a,e,.inl ⟨n,vs,(g.pU q n),g.Kc s r⟩⟩
 ·exact .inr ⟨a,e,.inr q⟩
def QB.sq {u:V}{l:List PV} (h:QB K σ fs H u l) (s:aR K H σ fs):∃a vs,u=.ref a/\(cT K H a vs\/da K H a vs)/\aK K [] H vs l:=by
 rcases h with⟨a,vs,e,q,r⟩ | ⟨a,e,⟨n,vs,q,r⟩ | ⟨i,_,q1,q2⟩⟩
 ·exact⟨a,vs,e,q.elim (fun q=>.inl q.sq) fun q=>.inr (da.of q),r⟩
 ·exact⟨a,vs,e,.inl (cT.of q),r⟩
 ·obtain⟨_,vs,q,r⟩:=s.ownAt q1 rfl q2;exact⟨a,vs,e,.inl (cT.of q),r⟩
end
section
variable {X:Cx}{a b c e o:Expr}{es rest:List Expr}{pos:Pos}{fs:aX}{w wa wb:W PV}
def ae (i:Nat) {x:Str}{v:PV} (hs:fs[i]?=some (some (.val v)):=by rfl) (hN:X.N[i]?=some x:=by rfl) (hv:FG X.env.scope x:=by first | exact CU rfl | exact Cz (CU rfl) | exact Cz (Cz rfl)) (hd:(x==("__debug__":Str))=false:=by decide) (ko:(x==("__classdict__":Str))=false:=by decide):EF X K fs (.Name x pos) (.ret v):=
 ⟨PE.imp (eT hN hv hd ko) fun σ H Q ⟨sr,q⟩=>by
  obtain⟨u,e1,r⟩:=sr.at' i _ hs;rcases r with⟨w,e,r⟩ | ⟨a,_,r⟩
  ·cases e;exact⟨u,e1,q u H .refl sr r⟩
  ·exact r.elim⟩
def Y6 {v:V}{p:PV} (hv:∀H,VR K [] H v p) (h:PE X e (tC v)):EF X K fs e (.ret p):=⟨PE.imp h fun σ H Q ⟨sr,q⟩=>q v H .refl sr (hv _)⟩
def ao {i j}:EF X K fs (.Constant (.int i) j pos) (.ret (.int i)):=Y6 (fun _=>.int i) Sx
def GL {b j}:EF X K fs (.Constant (.bool b) j pos) (.ret (.bl b)):=Y6 (fun _=>.bl b) Wm
def Ie {j}:EF X K fs (.Constant .none j pos) (.ret .aU):=Y6 (fun _=>.aU) Sw
def hU {x j}:EF X K fs (.Constant (.str x) j pos) (.ret (.str x)):=Y6 (fun _=>.str x) Ss
def of2 (m:M2) (x y:PV):W PV:=⟨fun Q=>m.f x y [] fun z h=>h=[]/\Q z,fun f q=>m.mono (fun _ _ q=>⟨q.1,f _ q.2⟩) q⟩
def hr0 (H:Hp):HR K [] H []:=⟨EM,rfl,fun n a o e _=>by simp at e⟩
def pq0 {σ:L2.St}{H:Hp}{Q:VK}{z:PV}{h:PH} (sr:aR K H σ fs) (q:h=[]/\∀u H',cL σ fs H H'->aR K H' σ fs->VR K [] H' u z->Q u H'):pQ K [] H Q z h:=fun ι' v H' g r x=>by
 obtain⟨e,q⟩:=q;subst e;have:ι'=[]:=C6 r.len;subst this;have sm:lG H H':=fun a o z=>g.keep a o (by simp) z;exact q v H' (cL.same sm) (sr.same sm) x
def LA {r:R2}{m:M2} (hm:M2.Ok K r m) {σ:L2.St}{H:Hp}{Q:VK}{u v:V}{x y:PV} (sr:aR K H σ fs) (hu:VR K [] H u x) (hv:VR K [] H v y) (q:(of2 m x y).run fun z=>∀u H',cL σ fs H H'->aR K H' σ fs->VR K [] H' u z->Q u H'):r u v H Q:=
 hm (hr0 H) hu hv (m.mono (fun z h q=>pq0 sr q) q)
def HZ {r:R2}{m:M2} (hm:M2.Ok K r m):∀σ H Q,fE K fs (.bind wa fun x=>.bind wb fun y=>of2 m x y) σ H Q->RV r (fE K fs wa) (fE K fs wb) σ H Q:=fun σ H Q ⟨sr,q⟩=>
 ⟨sr,wa.mono (fun x q1 u1 H1 g1 s1 v1=>⟨s1,wb.mono (fun y q2 u2 H2 g2 s2 v2=>LA hm s2 (g2.vr s1 v1) v2 ((of2 m x y).mono (fun z q u3 H3 g3 s3 v3=>q u3 H3 ((g1.trans g2).trans g3) s3 v3) q2)) q1⟩) q⟩
def MY {op:Operator}{r:R2}{m:M2} (ho:jm X (binaryOp op) r) (hm:M2.Ok K r m) (ha:EF X K fs a wa) (hb:EF X K fs b wb):EF X K fs (.BinOp a op b pos) (.bind wa fun x=>.bind wb fun y=>of2 m x y):=⟨PE.imp (HA ho ha.p hb.p) (HZ hm)⟩
def pY (ha:EF X K fs a wa) (hb:EF X K fs b wb):EF X K fs (.BinOp a .Sub b pos) (.bind wa fun x=>.bind wb fun y=>of2 qA x y):=MY SD (Fp fun _ _ _ _=>.int _) ha hb
def pZ (ha:EF X K fs a wa) (hb:EF X K fs b wb):EF X K fs (.BinOp a .Mult b pos) (.bind wa fun x=>.bind wb fun y=>of2 oZ x y):=MY OP (ya fun _ _ _ _=>.int _) ha hb
def Ru (ha:EF X K fs a wa) (hb:EF X K fs b wb):EF X K fs (.BinOp a .FloorDiv b pos) (.bind wa fun x=>.bind wb fun y=>of2 oDiv x y):=MY OQ (ya fun _ _ _ _=>.int _) ha hb
def n6 (ha:EF X K fs a wa) (hb:EF X K fs b wb):EF X K fs (.BinOp a .Mod b pos) (.bind wa fun x=>.bind wb fun y=>of2 oMod x y):=MY SI (ya fun _ _ _ _=>.int _) ha hb
def MX (ha:EF X K fs a wa) (hb:EF X K fs b wb):EF X K fs (.BinOp a .Pow b pos) (.bind wa fun x=>.bind wb fun y=>of2 za x y):=MY SG (ya fun _ _ _ _=>.int _) ha hb
def qB:PV->W PV
 | .int i=>.ret (.int (-i))
 | _=>.fail
def mh (ha:EF X K fs a wa):EF X K fs (.UnaryOp .USub a pos) (.bind wa qB):=⟨PE.imp (Wh RO ha.p) fun σ H Q ⟨sr,q⟩=>⟨sr,wa.mono (fun x q1 u1 H1 g1 s1 v1=>by
 cases v1 with
 | int i=>exact⟨_,rfl,q1 _ H1 g1 s1 (.int _)⟩
 | _=>exact q1.elim) q⟩⟩
def Zn:PV->W Bool
 | .bl b=>.ret b
 | _=>.fail
def mi {op:CmpOp}{m:M2} (hc:JC X K op b m) (ha:EF X K fs a wa) (hb:EF X K fs b wb):EF X K fs (.Compare a [op] [b] pos) (.bind wa fun x=>.bind wb fun y=>of2 m x y):=let ⟨_,h1,h2⟩:=hc.p;⟨PE.imp (wK h1 ha.p hb.p hc.k) (HZ h2)⟩
def T9 {w:W PV}:∀σ H Q,fT K fs (.bind w Zn) σ H Q->(fE K fs w) σ H fun x H'=>∃k,x=.bl k/\Q k H':=fun σ H Q ⟨sr,q⟩=>⟨sr,w.mono (fun x q1 u1 H1 g1 s1 v1=>by
 cases v1 with
 | bl b=>exact⟨b,rfl,q1 H1 g1 s1⟩
 | _=>exact q1.elim) q⟩
def dB {op:CmpOp}{m:M2} (hc:JC X K op b m) (ha:EF X K fs a wa) (hb:EF X K fs b wb):TF X K fs (.Compare a [op] [b] pos) (.bind wa fun x=>.bind wb fun y=>.bind (of2 m x y) Zn):=let ⟨_,h1,h2⟩:=hc.p
 ⟨PT.imp (qV h1 ha.p hb.p hc.k) fun σ H Q q=>HZ h2 σ H _ (T9 (w:=.bind wa fun x=>.bind wb fun y=>of2 m x y) σ H Q q)⟩
def Nf (z:PV) (w:W PV):W PV:=match z with
 | .bl true=>w
 | .bl false=>.ret (.bl false)
 | _=>.fail
def Qu (x:PV) (w:W PV):W PV:=match x with
 | .bl true=>w
 | .bl false=>.ret (.bl false)
 | _=>.fail
def YA (x:PV) (w:W PV):W PV:=match x with
 | .bl true=>.ret (.bl true)
 | .bl false=>w
 | _=>.fail
def SU:PV->W PV
 | .bl b=>.ret (.bl (!b))
 | _=>.fail
def zS (ha:EF X K fs a wa) (hb:EF X K fs (.BoolOp .And (b::rest) pos) wb):EF X K fs (.BoolOp .And (a::b::rest) pos) (.bind wa fun x=>Qu x wb):=⟨PE.imp (SA ha.p hb.p) fun σ H Q ⟨sr,q⟩=>⟨sr,wa.mono (fun x q1 u1 H1 g1 s1 v1=>by
 cases v1 with
 | bl k=>
  cases k with
  | true=>exact⟨true,rfl,by rw [if_pos rfl];exact⟨s1,wb.mono (fun _ q u H' g s v=>q u H' (g1.trans g) s v) q1⟩⟩
  | false=>exact⟨false,rfl,by rw [if_neg AH];exact q1 _ H1 g1 s1 (.bl _)⟩
 | _=>exact q1.elim) q⟩⟩
def XR (ha:EF X K fs a wa) (hb:EF X K fs (.BoolOp .Or (b::rest) pos) wb):EF X K fs (.BoolOp .Or (a::b::rest) pos) (.bind wa fun x=>YA x wb):=⟨PE.imp (Wj ha.p hb.p) fun σ H Q ⟨sr,q⟩=>⟨sr,wa.mono (fun x q1 u1 H1 g1 s1 v1=>by
 cases v1 with
 | bl k=>
  cases k with
  | true=>exact⟨true,rfl,by rw [if_pos rfl];exact q1 _ H1 g1 s1 (.bl _)⟩
  | false=>exact⟨false,rfl,by rw [if_neg AH];exact⟨s1,wb.mono (fun _ q u H' g s v=>q u H' (g1.trans g) s v) q1⟩⟩
 | _=>exact q1.elim) q⟩⟩
def vB {op} (h:EF X K fs a wa):EF X K fs (.BoolOp op [a] pos) wa:=⟨Su h.p⟩
def XS (ha:EF X K fs a wa):EF X K fs (.UnaryOp .Not a pos) (.bind wa SU):=⟨PE.imp (Sv ha.p) fun σ H Q ⟨sr,q⟩=>⟨sr,wa.mono (fun x q1 u1 H1 g1 s1 v1=>by
 cases v1 with
 | bl k=>exact⟨_,rfl,q1 _ H1 g1 s1 (.bl _)⟩
 | _=>exact q1.elim) q⟩⟩
variable {ta tb tc:W Bool}
def ib (h:TF X K fs a ta):uU X K fs (.BoolOp .And [a] pos) ta:=⟨Ow h.p⟩
def rK (h:TF X K fs a ta):uU X K fs (.BoolOp .Or [a] pos) ta:=⟨Sl h.p⟩
def kF (ha:TF X K fs a ta) (hb:uU X K fs (.BoolOp .And (b::rest) pos) tb):uU X K fs (.BoolOp .And (a::b::rest) pos) (.bind ta fun k=>if k=true then tb else .ret false):=⟨PW.imp (Sn ha.p hb.p) fun σ H Q ⟨sr,q⟩=>⟨sr,ta.mono (fun k q1 H1 g1 s1=>by
 cases k with
 | true=>exact zB ⟨s1,tb.mono (fun _ q H' g s=>q H' (g1.trans g) s) q1⟩
 | false=>exact zC (q1 H1 g1 s1)) q⟩⟩
def uY (ha:TF X K fs a ta) (hb:uU X K fs (.BoolOp .Or (b::rest) pos) tb):uU X K fs (.BoolOp .Or (a::b::rest) pos) (.bind ta fun k=>if k=true then .ret true else tb):=⟨PW.imp (Wf ha.p hb.p) fun σ H Q ⟨sr,q⟩=>⟨sr,ta.mono (fun k q1 H1 g1 s1=>by
 cases k with
 | true=>exact zB (q1 H1 g1 s1)
 | false=>exact zC ⟨s1,tb.mono (fun _ q H' g s=>q H' (g1.trans g) s) q1⟩) q⟩⟩
def uU.t (h:uU X K fs a ta):TF X K fs a ta:=⟨PW.pt h.p⟩
def uZ (ha:TF X K fs a ta):TF X K fs (.UnaryOp .Not a pos) (.bind ta fun k=>.ret (!k)):=⟨PT.imp (So ha.p) fun σ H Q ⟨sr,q⟩=>⟨sr,q⟩⟩
def MZ (hc:TF X K fs c tc) (ha:EF X K fs a wa) (hb:EF X K fs b wb):EF X K fs (.IfExp c a b pos) (.bind tc fun k=>if k=true then wa else wb):=⟨PE.imp (Ls hc.p ha.p hb.p) fun σ H Q ⟨sr,q⟩=>⟨sr,tc.mono (fun k q1 H1 g1 s1=>by
 cases k with
 | true=>exact zB ⟨s1,wa.mono (fun _ q u H' g s v=>q u H' (g1.trans g) s v) q1⟩
 | false=>exact zC ⟨s1,wb.mono (fun _ q u H' g s v=>q u H' (g1.trans g) s v) q1⟩) q⟩⟩
def eK:PV->W Bool
 | .aU=>.ret false
 | .bl b=>.ret b
 | .int i=>.ret (i != 0)
 | .str y=>.gF (y.length<=sizeLine) (.ret ((y.length:Int) != 0))
 | .tup l=>.ret (!l.isEmpty)
 | .cl l=>.ret (!l.isEmpty)
 | _=>.fail
def dA (hK:X.K=K) (ha:EF X K fs a wa) (he:∀whole,isTrue a X.env whole=(do let v <- whole;standAt a.pos;holding [v] (truthy v))):TF X K fs a (.bind wa eK):=⟨PT.imp (u7 K hK ha.p he) fun σ H Q ⟨sr,q⟩=>⟨sr,wa.mono (fun x q1 u1 H1 g1 s1 v1=>by
 cases v1 with
 | aU=>exact⟨false,rfl,q1 H1 g1 s1⟩
 | bl b=>exact⟨b,rfl,q1 H1 g1 s1⟩
 | int i=>exact⟨_,rfl,q1 H1 g1 s1⟩
 | str y=>exact⟨_,⟨q1.1,rfl⟩,q1.2 H1 g1 s1⟩
 | ty _=>exact q1.elim
 | dk _ _ _=>exact q1.elim
 | dt _ _ _=>exact q1.elim
 | ref _=>exact q1.elim
 | @tup p vs l e rs=>
  refine⟨!vs.isEmpty,.inr (.inl ⟨_,da.of e,rfl⟩),?_⟩;rw [<- kU rs];exact q1 H1 g1 s1
 | @cl p vs l e rs=>
  refine⟨!vs.isEmpty,.inl ⟨_,e.sq,rfl⟩,?_⟩;rw [<- kU rs];exact q1 H1 g1 s1) q⟩⟩
def QS (hK:X.K=K) {wl:W (List PV)} (ha:QF X K fs a wl) (he:∀whole,isTrue a X.env whole=(do let v <- whole;standAt a.pos;holding [v] (truthy v))):TF X K fs a (.bind wl fun l=>.ret (!l.isEmpty)):=⟨PT.imp (u7 K hK ha.p he) fun σ H Q ⟨sr,q⟩=>⟨sr,wl.mono (fun l q1 u1 H1 g1 s1 v1=>by
 obtain⟨b,vs,rfl,h,rs⟩:=v1.sq s1;refine⟨!vs.isEmpty,?_,?_⟩
 ·exact h.elim (fun h=>.inl ⟨_,h,rfl⟩) fun h=>.inr (.inl ⟨_,h,rfl⟩)
 ·rw [<- kU rs];exact q1 H1 g1 s1) q⟩⟩
variable {R:Type}{ks:List AK}{B:(List PV->W R)->W R}
def ak:AF X K fs [] [] (R:=R) (fun k=>k []):=⟨.ret [],PA.imp cX fun σ H Q ⟨sr,q⟩=>q [] H .refl sr .nil,fun k=>rfl⟩
def af (ha:EF X K fs e w) (hr:AF X K fs es ks B) (hs:starEach (e::es) X.env=(false,eval e X.env)::starEach es X.env:=by rfl):AF X K fs (e::es) (.v::ks) (fun k=>.bind w fun x=>B fun l=>k (x::l)):=by
 obtain⟨wr,hp,hB⟩:=hr.p;refine⟨.bind w fun x=>.bind wr fun l=>.ret (x::l),PA.imp (bF ha.p hp hs) fun σ H Q ⟨sr,q⟩=>?_,fun k=>?_⟩
 ·exact⟨sr,w.mono (fun x q1 u1 H1 g1 s1 v1=>⟨s1,wr.mono (fun l q2 vs H2 g2 s2 v2=>q2 _ H2 (g1.trans g2) s2 (.v (g2.vr s1 v1) v2)) q1⟩) q⟩
 ·have:(fun x=>B fun l=>k (x::l))=fun x=>W.bind wr fun l=>k (x::l):=funext fun x=>hB _;rw [this];rfl
def bp (i:Nat) {x:Str}{φ:List V->Prop} (hr:AF X K fs es ks B) (hs:fs[i]?=some (some (.gI φ)):=by rfl) (hN:X.N[i]?=some x:=by rfl) (hv:FG X.env.scope x:=by first | exact CU rfl | exact Cz (CU rfl) | exact Cz (Cz rfl)) (hd:(x==("__debug__":Str))=false:=by decide) (ko:(x==("__classdict__":Str))=false:=by decide)
  (zD:starEach (.Name x pos::es) X.env=(false,eval (.Name x pos) X.env)::starEach es X.env:=by rfl):AF X K fs (.Name x pos::es) (.p φ::ks) B:=by
 obtain⟨wr,hp,hB⟩:=hr.p;refine⟨wr,PA.imp (bF (eT hN hv hd ko) hp zD) fun σ H Q ⟨sr,q⟩=>?_,hB⟩;obtain⟨u,e1,r⟩:=sr.at' i _ hs;rcases r with⟨v,e,_⟩ | ⟨a,e,r⟩
 ·cases e
 ·subst e;exact⟨_,e1,sr,wr.mono (fun l q2 vs H2 g2 s2 v2=>q2 _ H2 g2 s2 (.p ⟨i,hs,e1⟩ v2)) q⟩
theorem fY.Kc {σ:L2.St}{H:Hp}:∀{vs:List V}{n:Nat}{l:List PV},fY K σ fs H vs (Ak n .v) l->aK K [] H vs l/\l.length=n
 | _,0,_,.nil=>⟨.nil,rfl⟩
 | _,n+1,_,.v r t=>⟨.cons r (fY.Kc t).1,by rw [Ar,(fY.Kc t).2]⟩
def XO {x1}{n:Nat}{B:(List PV->W PV)->W PV} (h:AF X K fs es (Ak n .v) B) (hn:n<=1000:=by decide):EF X K fs (.Tuple es x1 pos) (B fun l=>.ret (.tup l)):=by
 obtain⟨w,hp,hB⟩:=h.p;rw [hB];refine⟨PE.imp (OI hp) fun σ H Q ⟨sr,q⟩=>⟨sr,w.mono (fun l q1 vs H1 g1 s1 v1=>?_) q⟩⟩;obtain⟨v2,hl⟩:=v1.Kc;refine⟨by rw [v2.length,hl];exact a8 hn,fun p H2 s2 e2 n2=>?_⟩;exact q1 _ H2 (g1.trans (cL.same s2)) (s1.same s2) (.tup e2 (aK.tk s2.fc v2))
def Q7 {n:Nat}{B:(List PV->W (List PV))->W (List PV)} (h:AF X K fs es (Ak n .v) B) (hn:n<=1000:=by decide):LF X K fs (.List es pos) (B fun l=>.ret l):=by
 obtain⟨w,hp,hB⟩:=h.p;rw [hB];refine⟨PE.imp (HB hp) fun σ H Q ⟨sr,q⟩=>⟨sr,w.mono (fun l q1 vs H1 g1 s1 v1=>?_) q⟩⟩;obtain⟨v2,hl⟩:=v1.Kc;refine⟨by rw [v2.length,hl];exact a8 hn,fun p H2 s2 e2 n2=>?_⟩;exact q1 _ _ H2 (g1.trans (cL.same s2)) (s1.same s2) (g1.there p n2) e2 (aK.tk s2.fc v2)
end
end
end FL
namespace L2
open PySem PySem.Spec PyProof.Rows
def Inv.rj {X:Cx}{pins:List (Addr×Obj)}{σ:St}{H:Hp}{s:Shared}{a:Addr}{vs:List V} (I:Inv X pins σ H s) (e:H a=some (.lst vs)):∃o,Inv X pins σ (upd H a (.cR o (.lst vs))) s:=by
 obtain⟨z,aq,n,r,h1⟩:=(show bq X.prog X.w H s.heap a (.lst vs) from I.bP a _ e);exact⟨_,I.write (x:=a) (e:=a) (o:=.cR _ (.lst vs)) (h':=s.heap) (t':=s.toks) (by rw [e];exact Cd) (.inl rfl) (fun b u _ z=>z) ⟨_,h1⟩ ⟨h1,z,aq,n,r,h1⟩⟩
def vq {P:Program}{w:World}{H:Hp}{h:Heap}{a:Addr}{vs:List V}{o:Obj} (ok:mq P w H h) (e:H a=some (.cR o (.lst vs))):mq P w (upd H a (.lst vs)) h:=fun b u q=>by
 have ne:∀c v,H c=some v->v≠.cR o (.lst vs)->upd H a (.lst vs) c=some v:=fun c v z n=>by
  rw [av (fun y=>by subst y;rw [e] at z;cases z;exact n rfl)];exact z
 by_cases hb:b=a
 ·subst hb;rw [aO] at q;cases q;exact bq.wg (ok b _ e).2 (fun _ _ _ z=>z) (fun c z=>ne c _ z (by simp)) fun c xs z=>ne c _ z (by simp)
 ·rw [av hb] at q;exact bq.wg (ok b _ q) (fun _ _ _ z=>z) (fun c z=>ne c _ z (by simp)) fun c xs z=>ne c _ z (by simp)
end L2
namespace FL
section
open PySem PySem.Spec PyProof.Rows L2 PL
variable {K:Ab}
section
variable {σ:L2.St}{fs:aX}{H H1:Hp}{a:Addr}{vs:List V}
def lJ (o':HO) (e:H a=some (.lst vs)):bc K H (upd H a o'):=⟨fun b ws q=>by rw [av (LK q e (by intro z;cases z))];exact q,fun b o u q=>by rw [av (LK q e (by intro z;cases z))];exact q⟩
def aR.side (s:aR K H σ fs) (n:¬cV σ fs a) (e:H a=some (.lst vs)) (o':HO):aR K (upd H a o') σ fs:=⟨s.len,fun i t q=>by
 obtain⟨u,h1,h2⟩:=s.at' i t q;exact⟨u,h1,h2.mono (lJ o' e) (fun x b o eb ow hb z=>by subst eb;rw [av (fun y:b=a=>n ⟨i,t,x,q,ow,h1,y▸hb⟩)];exact z)⟩,s.nd⟩
def cL.side (g:cL σ fs H H1) (h0:H a=none) (o':HO):cL σ fs H (upd H1 a o'):=⟨fun b o e n=>by rw [av (bH e h0)];exact g.keep b o e n,fun b e=>by
 by_cases c:b=a
 ·subst c;exact h0
 ·rw [av c] at e;exact g.there b e⟩
end
section
variable {X:Cx}{a b e:Expr}{es:List Expr}{pos p:Pos}{fs:aX}{w wa wb:W PV}{wl:W (List PV)}
def vC (h:LF X K fs e wl):EF X K fs e (.bind wl fun l=>.ret (.cl l)):=⟨fun pins s σ H Q I ⟨sr,q⟩=>by
 refine cj (h.p pins s σ H (fun u H1=>∃a vs l,u=.ref a/\cL σ fs H H1/\aR K H1 σ fs/\H a=none/\H1 a=some (.lst vs)/\aK K [] H1 vs l/\∀u H',cL σ fs H H'->aR K H' σ fs->VR K [] H' u (.cl l)->Q u H') I ⟨sr,wl.mono (fun l q1 a vs H1 g1 s1 n e v=>⟨a,vs,l,rfl,g1,s1,n,e,v,q1⟩) q⟩) fun u s1 ⟨v,H1,I1,r1,a,vs,l,e,g1,Ol,n,ea,vr,q1⟩=>?_;subst e;obtain⟨ob,I2⟩:=I1.rj ea;exact⟨.ref a,_,I2,r1,q1 _ _ (g1.side n _) (Ol.side (fun z=>sr.noOwn n z) ea _) (.cl (.inl ⟨ob,aO⟩) (aK.tk (lJ _ ea) vr))⟩⟩
def aw:PV->W (List PV)
 | .tup l=>.ret l
 | .cl l=>.ret l
 | _=>.fail
def c8 (h:EF X K fs e w):IF X K fs e (.bind w aw):=⟨PE.imp h.p fun σ H Q ⟨sr,q⟩=>⟨sr,w.mono (fun x q1 u1 H1 g1 s1 v1=>by
 cases v1 with
 | tup e r=>exact q1 _ H1 g1 s1 ⟨_,_,rfl,.inr e,r⟩
 | cl e r=>exact q1 _ H1 g1 s1 ⟨_,_,rfl,.inl e,r⟩
 | _=>exact q1.elim) q⟩⟩
def vo (h:LF X K fs e wl):IF X K fs e wl:=c8 (vC h)
theorem IF.q (h:IF X K fs e wl):QF X K fs e wl:=⟨PE.imp h.p fun σ H Q ⟨sr,q⟩=>⟨sr,wl.mono (fun l q1 u1 H1 g1 s1 v1=>q1 u1 H1 g1 s1 (.inl v1)) q⟩⟩
def au (h:EF X K fs e w):QF X K fs e (.bind w aw):=(c8 h).q
def gT (h:LF X K fs e wl):QF X K fs e wl:=⟨PE.imp h.p fun σ H Q ⟨sr,q⟩=>⟨sr,wl.mono (fun l q1 a vs H1 g1 s1 n e v=>q1 _ H1 g1 s1 (.inr ⟨a,rfl,.inl ⟨sr.noOwn n,vs,e,v⟩⟩)) q⟩⟩
def bW (i:Nat) {x:Str}{q0:Option Addr}{l:List PV} (hs:fs[i]?=some (some (.ol q0 l)):=by rfl) (hN:X.N[i]?=some x:=by rfl) (hv:FG X.env.scope x:=by first | exact CU rfl | exact Cz (CU rfl) | exact Cz (Cz rfl)) (hd:(x==("__debug__":Str))=false:=by decide) (ko:(x==("__classdict__":Str))=false:=by decide):QF X K fs (.Name x pos) (.ret l):=
 ⟨PE.imp (eT hN hv hd ko) fun σ H Q ⟨sr,q⟩=>by
  obtain⟨u,e1,r⟩:=sr.at' i _ hs;rcases r with⟨w,e,r⟩ | ⟨a,e,r⟩
  ·cases e
  ·subst e;exact⟨_,e1,q _ H .refl sr (.inr ⟨a,rfl,.inr ⟨i,q0,hs,e1⟩⟩)⟩⟩
def Kg (l:List PV):PV->W PV
 | .int i=>.Lz (cB l i)
 | _=>.fail
def aB (hK:X.K=K) (ha:QF X K fs a wl) (hb:EF X K fs b wb) (hs:rC b):EF X K fs (.Subscript a b pos) (.bind wl fun l=>.bind wb fun y=>Kg l y):=⟨PE.imp (Lr (HP K hK) ha.p hb.p hs) fun σ H Q ⟨sr,q⟩=>⟨sr,wl.mono (fun l q1 u1 H1 g1 s1 v1=>⟨s1,wb.mono (fun y q2 u2 H2 g2 s2 v2=>by
 cases v2 with
 | int i=>
  have q2:(W.Lz (cB l i)).run _:=q2;cases z:cB l i with
  | none=>rw [z] at q2;exact q2.elim
  | some x=>
   rw [z] at q2;obtain⟨ad,vs,rfl,h,rs⟩:=(v1.go s1 g2).sq s2;obtain⟨v,e1,e2⟩:=aK.cB rs z;have q3:=q2 v H2 (g1.trans g2) s2 e2;exact h.elim (fun h=>.inl ⟨ad,vs,i,v,rfl,rfl,h,e1,q3⟩) fun h=>.inr (.inl ⟨ad,vs,i,v,rfl,rfl,h,e1,q3⟩)
 | _=>exact q2.elim) q1⟩) q⟩⟩
def XY (ha:EF X K fs a wa) (hb:EF X K fs b wb) (hs:rC b):EF X K fs (.Subscript a b pos) (.bind wa fun x=>.bind wb fun y=>of2 LC x y):=⟨PE.imp (Lr Ma ha.p hb.p hs) (HZ OZ)⟩
def q8 (m:vN) (l:List PV):W PV:=⟨fun Q=>m.f l [] fun z h=>h=[]/\Q z,fun f q=>m.mono (fun _ _ q=>⟨q.1,f _ q.2⟩) q⟩
section
variable {x:Str}{id:String}{r:List V->Hp->VK->Prop}{B:(List PV->W PV)->W PV}{n:Nat}
def LB {m:vN} (hm:vN.Ok K r m) {σ:L2.St}{H:Hp}{Q:VK}{us:List V}{l:List PV} (sr:aR K H σ fs) (hu:aK K [] H us l) (q:(q8 m l).run fun z=>∀u H',cL σ fs H H'->aR K H' σ fs->VR K [] H' u z->Q u H'):r us H Q:=hm (hr0 H) hu (m.mono (fun z h q=>pq0 sr q) q)
def rB {m:vN} (hc:bS X (.builtin id) r) (hB:vN.Ok K r m) (hg:Gl X x) (hm:X.mg x=none) (hv:bootBuiltins x=some (.builtin id)) (ha:AF X K fs (e::es) (Ak n .v) B) (hn:x≠"__name__":=by decide) (nR:(x==("__debug__":Str))=false:=by decide)
  (he:starEach (e::es) X.env=(false,eval e X.env)::starEach es X.env:=by rfl) (eO:(backTo pos (starEach es X.env)).any (·.1)=false:=by rfl):EF X K fs (.Call (.Name x p) (e::es) [] pos) (B (q8 m)):=by
 obtain⟨w,hp,hB2⟩:=ha.p;rw [hB2];exact⟨PE.imp (gV hc hg hm hv hp hn nR he eO) fun σ H Q ⟨sr,q⟩=>⟨sr,w.mono (fun l q1 vs H1 g1 s1 v1=>LB hB s1 v1.Kc.1 ((q8 m l).mono (fun z q u H' g s v=>q u H' (g1.trans g) s v) q1)) q⟩⟩
def M4 {m:vN} (hc:bS X (.type id) r) (hB:vN.Ok K r m) (hg:Gl X x) (hm:X.mg x=none) (hv:bootBuiltins x=some (.type id)) (ha:AF X K fs (e::es) (Ak n .v) B) (hn:x≠"__name__":=by decide) (nR:(x==("__debug__":Str))=false:=by decide)
  (he:starEach (e::es) X.env=(false,eval e X.env)::starEach es X.env:=by rfl) (eO:(backTo pos (starEach es X.env)).any (·.1)=false:=by rfl):EF X K fs (.Call (.Name x p) (e::es) [] pos) (B (q8 m)):=by
 obtain⟨w,hp,hB2⟩:=ha.p;rw [hB2];exact⟨PE.imp (lL hc hg hm hv hp hn nR he eO) fun σ H Q ⟨sr,q⟩=>⟨sr,w.mono (fun l q1 vs H1 g1 s1 v1=>LB hB s1 v1.Kc.1 ((q8 m l).mono (fun z q u H' g s v=>q u H' (g1.trans g) s v) q1)) q⟩⟩
def CQ (K:Ab) (r:List V->Hp->VK->Prop) (m:List PV->W PV):Prop:=∀{fs:aX}{σ:L2.St}{H:Hp}{Q:VK}{u:V}{l:List PV},aR K H σ fs->QB K σ fs H u l->((m l).run fun z=>∀u H',cL σ fs H H'->aR K H' σ fs->VR K [] H' u z->Q u H')->r [u] H Q
def CL (K:Ab) (r:List V->Hp->VK->Prop) (m:List PV->W (List PV)):Prop:=∀{fs:aX}{σ:L2.St}{H:Hp}{Q:VK}{u:V}{l:List PV},aR K H σ fs->QB K σ fs H u l->((m l).run fun z=>∀a vs H',cL σ fs H H'->aR K H' σ fs->H a=none->H' a=some (.lst vs)->aK K [] H' vs z->Q (.ref a) H')->r [u] H Q
def M5 {m:List PV->W PV} (hc:bS X (.builtin id) r) (hB:CQ K r m) (hg:Gl X x) (hm:X.mg x=none) (hv:bootBuiltins x=some (.builtin id)) (ha:QF X K fs e wl) (hn:x≠"__name__":=by decide) (nR:(x==("__debug__":Str))=false:=by decide)
  (he:starEach [e] X.env=(false,eval e X.env)::starEach [] X.env:=by rfl) (eO:(backTo pos (starEach [] X.env)).any (·.1)=false:=by rfl):EF X K fs (.Call (.Name x p) [e] [] pos) (.bind wl m):=⟨PE.imp (gV hc hg hm hv (bF ha.p cX he) hn nR he eO) fun σ H Q ⟨sr,q⟩=>⟨sr,wl.mono (fun l q1 u H1 g1 s1 v1=>hB s1 v1 ((m l).mono (fun z q u H' g s v=>q u H' (g1.trans g) s v) q1)) q⟩⟩
def JS {m:List PV->W PV} (hc:bS X (.type id) r) (hB:CQ K r m) (hg:Gl X x) (hm:X.mg x=none) (hv:bootBuiltins x=some (.type id)) (ha:QF X K fs e wl) (hn:x≠"__name__":=by decide) (nR:(x==("__debug__":Str))=false:=by decide)
  (he:starEach [e] X.env=(false,eval e X.env)::starEach [] X.env:=by rfl) (eO:(backTo pos (starEach [] X.env)).any (·.1)=false:=by rfl):EF X K fs (.Call (.Name x p) [e] [] pos) (.bind wl m):=⟨PE.imp (lL hc hg hm hv (bF ha.p cX he) hn nR he eO) fun σ H Q ⟨sr,q⟩=>⟨sr,wl.mono (fun l q1 u H1 g1 s1 v1=>hB s1 v1 ((m l).mono (fun z q u H' g s v=>q u H' (g1.trans g) s v) q1)) q⟩⟩
def YI {m:List PV->W (List PV)} (hc:bS X (.builtin id) r) (hB:CL K r m) (hg:Gl X x) (hm:X.mg x=none) (hv:bootBuiltins x=some (.builtin id)) (ha:QF X K fs e wl) (hn:x≠"__name__":=by decide) (nR:(x==("__debug__":Str))=false:=by decide)
  (he:starEach [e] X.env=(false,eval e X.env)::starEach [] X.env:=by rfl) (eO:(backTo pos (starEach [] X.env)).any (·.1)=false:=by rfl):LF X K fs (.Call (.Name x p) [e] [] pos) (.bind wl m):=⟨PE.imp (gV hc hg hm hv (bF ha.p cX he) hn nR he eO) fun σ H Q ⟨sr,q⟩=>⟨sr,wl.mono (fun l q1 u H1 g1 s1 v1=>hB s1 v1 ((m l).mono (fun z q a vs H' g s n e v=>q a vs H' (g1.trans g) s (g1.there a n) e v) q1)) q⟩⟩
def L0 {m:List PV->W (List PV)} (hc:bS X (.type id) r) (hB:CL K r m) (hg:Gl X x) (hm:X.mg x=none) (hv:bootBuiltins x=some (.type id)) (ha:QF X K fs e wl) (hn:x≠"__name__":=by decide) (nR:(x==("__debug__":Str))=false:=by decide)
  (he:starEach [e] X.env=(false,eval e X.env)::starEach [] X.env:=by rfl) (eO:(backTo pos (starEach [] X.env)).any (·.1)=false:=by rfl):LF X K fs (.Call (.Name x p) [e] [] pos) (.bind wl m):=⟨PE.imp (lL hc hg hm hv (bF ha.p cX he) hn nR he eO) fun σ H Q ⟨sr,q⟩=>⟨sr,wl.mono (fun l q1 u H1 g1 s1 v1=>hB s1 v1 ((m l).mono (fun z q a vs H' g s n e v=>q a vs H' (g1.trans g) s (g1.there a n) e v) q1)) q⟩⟩
end
def qJ (l:List PV):W PV:=.ret (.int l.length)
def Pb (K:Ab):CQ K (Se K) qJ:=fun {fs σ H Q u l} s v q=>by
 obtain⟨a,vs,rfl,h,rs⟩:=v.sq s;refine⟨_,vs.length,rfl,?_,?_⟩
 ·exact h.elim (fun h=>.inl ⟨_,h,rfl⟩) fun h=>.inr ⟨_,h,rfl⟩
 ·rw [rs.length];exact q _ H .refl s (.int _)
def ng (l:List PV):W PV:=.ret (.tup l)
def N2 (K:Ab):CQ K (K2 K) ng:=fun {fs σ H Q u l} s v q=>by
 have fresh:∀{a:Addr}{vs:List V},cT K H a vs->aK K [] H vs l->K2 K [.ref a] H Q:=fun {a vs} h rs=>⟨a,vs,rfl,.inl ⟨h,fun p H2 s2 e2 n2=>q _ H2 (cL.same s2) (s.same s2) (.tup e2 (aK.tk s2.fc rs))⟩⟩;rcases v with⟨a,vs,rfl,h | h,rs⟩ | ⟨a,rfl,⟨n,vs,h,rs⟩ | ⟨i,_,q1,q2⟩⟩
 ·exact fresh h.sq rs
 ·exact⟨a,vs,rfl,.inr ⟨da.of h,q _ H .refl s (.tup h rs)⟩⟩
 ·exact fresh (cT.of h) rs
 ·obtain⟨_,vs,h,rs⟩:=s.ownAt q1 rfl q2;exact fresh (cT.of h) rs
end
end
section
open PySem PySem.Spec PyProof.Rows L2 PL
variable {K:Ab}
def tZ (vs:List V) (ks:List AK) (φ:List V->Prop) (a:Addr):Prop:=∃i:Nat,ks[i]?=some (.p φ)/\vs[i]?=some (.ref a)
structure Ym (vs:List V) (ks:List AK) (H H':Hp):Prop where
 keep:∀a o,H a=some o->(∀φ,¬tZ vs ks φ a)->H' a=some o
 there:∀a,H' a=none->H a=none
 Sq:∀a φ,tZ vs ks φ a->∃ws,H' a=some (.lst ws)/\φ ws
inductive iT (K:Ab) (H:Hp):List V->List AK->List PV->Prop
 | nil:iT K H [] [] []
 | v {u:V}{x:PV}{vs:List V}{ks:List AK}{l:List PV} (r:VR K [] H u x) (t:iT K H vs ks l):iT K H (u::vs) (.v::ks) (x::l)
 | p {a:Addr}{φ:List V->Prop}{ws vs:List V}{ks:List AK}{l:List PV} (e:H a=some (.lst ws)) (r:φ ws) (t:iT K H vs ks l):iT K H (.ref a::vs) (.p φ::ks) l
 | f {a:Addr}{vs:List V}{ks:List AK}{l:List PV} (t:iT K H vs ks l):iT K H (.ref a::vs) (.f a::ks) l
def kG (K:Ab) (ks:List AK) (m:List PV->W PV):Sp:=fun vs H Q _=>∃l,iT K H vs ks l/\(m l).run fun v=>∀u H',Ym vs ks H H'->VR K [] H' u v->Q u H'
def iV (K:Ab) (ks:List AK) (m:List PV->W (List PV)):Sp:=fun vs H Q _=>∃l,iT K H vs ks l/\(m l).run fun z=>∀a ws H',Ym vs ks H H'->H a=none->H' a=some (.lst ws)->aK K [] H' ws z->Q (.ref a) H'
def NS (R:Type):Nat->Type
 | 0=>W R
 | n+1=>PV->NS R n
def dY {R:Type}:(n:Nat)->NS R n->List PV->W R
 | 0,m,[]=>m
 | n+1,m,x::l=>dY n (m x) l
 | 0,_,_::_=>.fail
 | _+1,_,[]=>.fail
section
variable {σ:L2.St}{fs:aX}{H H':Hp}{vs:List V}{ks:List AK}{l:List PV}
def fY.gI (h:fY K σ fs H vs ks l) {φ:List V->Prop}{a:Addr} (p:tZ vs ks φ a):e6 σ fs φ a:=by
 obtain⟨i,e1,e2⟩:=p
 induction h generalizing i with
 | nil=>simp at e1
 | v r t ih=>cases i with | zero=>simp at e1 | succ i=>exact ih i (by simpa using e1) (by simpa using e2)
 | p r t ih=>
  cases i with
  | zero=>simp at e1 e2;subst e1;subst e2;exact r
  | succ i=>exact ih i (by simpa using e1) (by simpa using e2)
 | f t ih=>cases i with | zero=>simp at e1 | succ i=>exact ih i (by simpa using e1) (by simpa using e2)
def fY.c (h:fY K σ fs H vs ks l) (s:aR K H σ fs):iT K H vs ks l:=by
 induction h with
 | nil=>exact .nil
 | v r t ih=>exact .v r ih
 | p r t ih=>
  obtain⟨i,e1,e2⟩:=r;obtain⟨ws,q,x⟩:=s.ownAt e1 rfl e2;exact .p q x ih
 | f t ih=>exact .f ih
def Ym.caller (g:Ym vs ks H H') (h:fY K σ fs H vs ks l) (s:aR K H σ fs):aR K H' σ fs/\cL σ fs H H':=by
 have po:∀{φ:List V->Prop}{a:Addr},tZ vs ks φ a->cV σ fs a:=fun {φ a} p=>let ⟨i,e1,e2⟩:=h.gI p;⟨i,_,_,e1,rfl,e2,.inl rfl⟩;have gf:cL σ fs H H':=⟨fun a o e n=>g.keep a o e fun φ p=>n φ (h.gI p),g.there⟩;have tk:=gf.eJ s;refine⟨⟨s.len,fun i t e=>?_,s.nd⟩,gf⟩;obtain⟨u,h1,h2⟩:=s.at' i t e;refine⟨u,h1,?_⟩;rcases h2 with⟨v,q,r⟩ | ⟨a,q,r⟩
 ·exact .inl ⟨v,q,VR.tk tk r⟩
 ·subst q;refine .inr ⟨a,rfl,?_⟩;by_cases c:(∃φ,tZ vs ks φ a)/\t.own=true
  ·obtain⟨⟨φ,p⟩,ow⟩:=c;obtain⟨j,e1,e2⟩:=h.gI p;have ij:=s.nd i j t _ a a a e e1 ow rfl h1 e2 (.inl rfl) (.inl rfl);subst ij;rw [e] at e1;cases e1;exact g.Sq a φ p
  ·refine r.mono tk (fun b o ow hb z=>g.keep b o z fun φ p=>?_);obtain⟨j,e1,e2⟩:=h.gI p;have ij:=s.nd i j t _ a b b e e1 ow rfl h1 e2 hb (.inl rfl);subst ij;rw [h1] at e2;cases e2;exact c ⟨⟨φ,p⟩,ow⟩
end
section
variable {X:Cx}{e:Expr}{es:List Expr}{pos p:Pos}{fs:aX}{k k':Nat}{ps:List Str}{x:Str}{ks:List AK}
def Ul {m:List PV->W PV}{B:(List PV->W PV)->W PV} (G:QK X.prog X.w X.K X.mg X.base x k ps (kG K ks m)) (hr:fD k' X.A) (hk:k<=k') (hg:Gl X x) (ha:AF X K fs (e::es) ks B) (nR:(x==("__debug__":Str))=false:=by decide)
  (he:starEach (e::es) X.env=(false,eval e X.env)::starEach es X.env:=by rfl) (eO:(backTo pos (starEach es X.env)).any (·.1)=false:=by rfl):EF X K fs (.Call (.Name x p) (e::es) [] pos) (B m):=by
 obtain⟨w,hp,hB⟩:=ha.p;rw [hB];exact⟨PE.imp (Lu G hr hk hg hp nR he eO) fun σ H Q ⟨sr,q⟩=>⟨sr,w.mono (fun l q1 vs H1 g1 s1 v1=>⟨l,v1.c s1,(m l).mono (fun z q2 u H2 g2 r2=>let ⟨s2,g3⟩:=g2.caller v1 s1;q2 u H2 (g1.trans g3) s2 r2) q1⟩) q⟩⟩
def Tb {m:List PV->W (List PV)}{B:(List PV->W (List PV))->W (List PV)} (G:QK X.prog X.w X.K X.mg X.base x k ps (iV K ks m)) (hr:fD k' X.A) (hk:k<=k') (hg:Gl X x) (ha:AF X K fs (e::es) ks B) (nR:(x==("__debug__":Str))=false:=by decide)
  (he:starEach (e::es) X.env=(false,eval e X.env)::starEach es X.env:=by rfl) (eO:(backTo pos (starEach es X.env)).any (·.1)=false:=by rfl):LF X K fs (.Call (.Name x p) (e::es) [] pos) (B m):=by
 obtain⟨w,hp,hB⟩:=ha.p;rw [hB];exact⟨PE.imp (Lu G hr hk hg hp nR he eO) fun σ H Q ⟨sr,q⟩=>⟨sr,w.mono (fun l q1 vs H1 g1 s1 v1=>⟨l,v1.c s1,(m l).mono (fun z q2 a ws H2 g2 n2 e2 r2=>let ⟨s2,g3⟩:=g2.caller v1 s1;q2 a ws H2 (g1.trans g3) s2 (g1.there a n2) e2 r2) q1⟩) q⟩⟩
end
end
section
open PySem PySem.Spec PyProof.Rows L2 PL
variable {K:Ab}
inductive End where
 | nx (fs:aX) | nc (fs:aX) | ct (fs:aX) | rt (v:PV) | rl (l:List PV) | bk (fs:aX) | ro (v:PV) (a:Addr) (l:List PV)
def yp (σ:L2.St) (fs:aX) (H:Hp) (a:Addr):Prop:=H a=none\/∃(i:Nat) (s:SL) (x:Addr),fs[i]?=some (some s)/\s.own=true/\(∀φ,s≠.gI φ)/\σ[i]?=some (some (.ref x))/\s.has x a
def bT (K:Ab) (x:Bool) (σ:L2.St) (fs:aX) (H:Hp) (D:Ends):End->Prop
 | .nx bC=>x=false->∀σ' H',cE σ fs H σ' bC H'->aR K H' σ' bC->D.nx σ' H'
 | .nc bC=>∀σ' H',cE σ fs H σ' bC H'->aR K H' σ' bC->(x=false->D.nx σ' H')/\D.ct σ' H'
 | .ct bC=>∀σ' H',cE σ fs H σ' bC H'->aR K H' σ' bC->D.ct σ' H'
 | .bk bC=>∀σ' H',cE σ fs H σ' bC H'->aR K H' σ' bC->D.bk σ' H'
 | .rt v=>∀u σ' bC H',cE σ fs H σ' bC H'->aR K H' σ' bC->VR K [] H' u v->D.rt u H'
 | .ro v a l=>∀u σ' bC H',cE σ fs H σ' bC H'->aR K H' σ' bC->(∃i:Nat,bC[i]?=some (some (.ol (some a) l)))->VR K [] H' u v->D.rt u H'
 | .rl l=>∀a ws σ' bC H',cE σ fs H σ' bC H'->aR K H' σ' bC->yp σ fs H a->H' a=some (.lst ws)->aK K [] H' ws l->D.rt (.ref a) H'
def fS (K:Ab) (x:Bool) (fs:aX) {T:Type} (w:W T) (out:T->End):TS:=fun D σ H=>aR K H σ fs/\w.run fun t=>bT K x σ fs H D (out t)
structure SF (X:Cx) (K:Ab) (x:Bool) (fs:aX) (NF:List Stmt) {T:Type} (w:W T) (out:T->End):Prop where p:rD X NF (fS K x fs w out)
section
variable {σ σ1:L2.St}{fs PY:aX}{H H1:Hp}{D:Ends}{x:Bool}
def yp.go {a:Addr} (g:cE σ fs H σ1 PY H1) (s:aR K H σ fs) (s1:aR K H1 σ1 PY) (h:yp σ1 PY H1 a):yp σ fs H a:=by
 rcases h with h | ⟨i,t,x,e1,e2,np,e3,e4⟩
 ·exact .inl (g.there a h)
 ·cases z:H a with
  | none=>exact .inl z
  | some o=>
   by_cases c:cV σ fs a
   ·obtain⟨j,t',y,c1,c2,c3,c4⟩:=c;by_cases d:∃φ,t'=.gI φ
    ·obtain⟨φ,rfl⟩:=d;rcases c4 with rfl | c4
     ·rcases g.pk a φ ⟨j,c1,c3⟩ with⟨k,k1,k2⟩ | ⟨n,_⟩
      ·have:=s1.nd i k t _ x a a e1 k1 e2 rfl e3 k2 e4 (.inl rfl);subst this;rw [e1] at k1;cases k1;exact absurd rfl (np φ)
      ·exact absurd ⟨i,t,x,e1,e2,e3,e4⟩ n
     ·cases c4
    ·exact .inr ⟨j,t',y,c1,c2,fun φ e=>d ⟨φ,e⟩,c3,c4⟩
   ·exact absurd ⟨i,t,x,e1,e2,e3,e4⟩ (g.keep a o z c).2
def bT.go (g:cE σ fs H σ1 PY H1) (s:aR K H σ fs) (s1:aR K H1 σ1 PY) {E:End} (h:bT K x σ fs H D E):bT K x σ1 PY H1 D E:=by
 cases E with
 | nx bC=>exact fun hx σ' H' g' s'=>h hx σ' H' (g.trans g') s'
 | nc bC=>exact fun σ' H' g' s'=>h σ' H' (g.trans g') s'
 | bk bC=>exact fun σ' H' g' s'=>h σ' H' (g.trans g') s'
 | ct bC=>exact fun σ' H' g' s'=>h σ' H' (g.trans g') s'
 | rt v=>exact fun u σ' bC H' g' s' r=>h u σ' bC H' (g.trans g') s' r
 | ro v a l=>exact fun u σ' bC H' g' s' o r=>h u σ' bC H' (g.trans g') s' o r
 | rl l=>exact fun a ws σ' bC H' g' s' f e r=>h a ws σ' bC H' (g.trans g') s' (f.go g s s1) e r
def bT.exit {D':Ends} (h1:D'.rt=D.rt) (h2:D'.ct=D.ct) (h3:D'.bk=D.bk) {E:End} (h:bT K x σ fs H D E):bT K true σ fs H D' E:=by
 cases E with
 | nx bC=>exact fun hx=>nomatch hx
 | nc bC=>exact fun σ' H' g' s'=>⟨fun hx=>(nomatch hx),h2▸(h σ' H' g' s').2⟩
 | bk bC=>exact fun σ' H' g' s'=>h3▸h σ' H' g' s'
 | ct bC=>exact fun σ' H' g' s'=>h2▸h σ' H' g' s'
 | rt v=>exact fun u σ' bC H' g' s' r=>h1▸h u σ' bC H' g' s' r
 | ro v a l=>exact fun u σ' bC H' g' s' o r=>h1▸h u σ' bC H' g' s' o r
 | rl l=>exact fun a ws σ' bC H' g' s' f e r=>h1▸h a ws σ' bC H' g' s' f e r
end
section
variable {X:Cx}{a b c e o:Expr}{pos p:Pos}{fs bC:aX}{st:Stmt}{NF rest sa sb:List Stmt}{T T1:Type}{w wk:W T}{out:T->End}{we:W PV}{wl:W (List PV)}{x:Bool}
def End.HS:End->Prop
 | .rt _=>True
 | .rl _=>True
 | .ro _ _ _=>True
 | _=>False
def bT.Z5 {σ:L2.St}{H:Hp}{D D':Ends}{y:Bool}{E:End} (ho:E.HS) (e:D'.rt=D.rt) (h:bT K x σ fs H D E):bT K y σ fs H D' E:=by
 cases E with
 | rt v=>exact fun u σ' bC H' g s r=>e▸h u σ' bC H' g s r
 | rl v=>exact fun a ws σ' bC H' g s f ea r=>e▸h a ws σ' bC H' g s f ea r
 | ro v a l=>exact fun u σ' bC H' g s o r=>e▸h u σ' bC H' g s o r
 | _=>exact ho.elim
def yG (X:Cx) (K:Ab) (x:Bool) (rest:List Stmt) {T:Type} (out:T->End):TS:=fun D σ H=>∃bC w',SF X K x bC rest w' out/\fS K x bC w' out D σ H
def Oo:rD X rest (yG X K x rest out):=fun pins s σ H D I ⟨bC,w',h,q⟩=>h.p pins s σ H D I q
def LJ:rD X rest RX:=fun _ _ _ _ _ _ h=>h.elim
def SF.step {t:TS} (h:PS X st t) (hq:∀D σ H,fS K x fs w out D σ H->t {D with nx:=yG X K x rest out D} σ H):SF X K x fs (st::rest) w out:=⟨rD.imp (yV h Oo) fun D σ H q=>hq D σ H q⟩
def SF.last {t:TS} (h:PS X st t) (hq:∀D σ H,fS K x fs w out D σ H->t {D with nx:=fun _ _=>False} σ H):SF X K x fs (st::rest) w out:=⟨rD.imp (yV h LJ) fun D σ H q=>hq D σ H q⟩
def SF.nil {t:T} (h:out t=.nx bC) (hl:jo fs bC):SF X K false fs [] (.ret t) out:=⟨rD.imp wC fun D σ H ⟨sr,q⟩=>by
 have q:bT K false σ fs H D (out t):=q;rw [h] at q;exact q rfl σ H (cE.le sr hl) (sr.le hl)⟩
def SF.gX {t:T} (h:out t=.nc bC) (hl:jo fs bC):SF X K false fs [] (.ret t) out:=⟨rD.imp wC fun D σ H ⟨sr,q⟩=>by
 have q:bT K false σ fs H D (out t):=q;rw [h] at q;exact (q σ H (cE.le sr hl) (sr.le hl)).1 rfl⟩
def SF.cont {t:T} (h:out t=.nc bC\/out t=.ct bC) (hl:jo fs bC):SF X K x fs (.Continue pos::rest) (.ret t) out:=SF.last yX fun D σ H ⟨sr,q⟩=>by
 have q:bT K x σ fs H D (out t):=q;rcases h with h | h
 ·rw [h] at q;exact (q σ H (cE.le sr hl) (sr.le hl)).2
 ·rw [h] at q;exact q σ H (cE.le sr hl) (sr.le hl)
def SF.ret {k:PV->T} (he:EF X K fs e we) (h:∀v,out (k v)=.rt v):SF X K x fs (.Return (some e) pos::rest) (.bind we fun v=>.ret (k v)) out:=SF.last (wF he.p) fun D σ H ⟨sr,q⟩=>⟨sr,we.mono (fun v q1 u H1 g1 s1 v1=>by
 have q1:bT K x σ fs H D (out (k v)):=q1;rw [h] at q1;exact q1 u σ fs H1 g1.f s1 v1) q⟩
def SF.eL {out:PV->End} (he:EF X K fs e we) (h:∀v,out v=.rt v):SF X K x fs (.Return (some e) pos::rest) we out:=SF.ret (k:=fun v=>v) he h
def SF.ZY {k:List PV->T} (he:LF X K fs e wl) (h:∀l,out (k l)=.rl l):SF X K x fs (.Return (some e) pos::rest) (.bind wl fun l=>.ret (k l)) out:=SF.last (wF he.p) fun D σ H ⟨sr,q⟩=>⟨sr,wl.mono (fun l q1 a ws H1 g1 s1 n e v1=>by
 have q1:bT K x σ fs H D (out (k l)):=q1;rw [h] at q1;exact q1 a ws σ fs H1 g1.f s1 (.inl n) e v1) q⟩
def SF.ma {out:List PV->End} (he:LF X K fs e wl) (h:∀v,out v=.rl v):SF X K x fs (.Return (some e) pos::rest) wl out:=SF.ZY (k:=fun v=>v) he h
def SF.KZ (i:Nat) {y:Str}{q0:Option Addr}{l:List PV}{t:T} (hs:fs[i]?=some (some (.ol q0 l))) (h:out t=.rl l) (hN:X.N[i]?=some y:=by rfl) (hv:FG X.env.scope y:=by first | exact CU rfl | exact Cz (CU rfl) | exact Cz (Cz rfl)) (hd:(y==("__debug__":Str))=false:=by decide) (ko:(y==("__classdict__":Str))=false:=by decide):SF X K x fs (.Return (some (.Name y p)) pos::rest) (.ret t) out:=SF.last (wF (eT hN hv hd ko)) fun D σ H ⟨sr,q⟩=>by
 have q:bT K x σ fs H D (out t):=q;rw [h] at q;obtain⟨u,e1,r⟩:=sr.at' i _ hs;rcases r with⟨v,e,_⟩ | ⟨a,e,r⟩
 ·cases e
 ·subst e;obtain⟨_,ws,q1,q2⟩:=r;exact⟨_,e1,q a ws σ fs H .refl sr (.inr ⟨i,_,_,hs,rfl,by simp,e1,.inl rfl⟩) q1 q2⟩
def SF.VZ (i:Nat) {ad:Addr}{l:List PV}{k:PV->T} (hs:fs[i]?=some (some (.ol (some ad) l))) (he:EF X K fs e we) (h:∀v,out (k v)=.ro v ad l):SF X K x fs (.Return (some e) pos::rest) (.bind we fun v=>.ret (k v)) out:=SF.last (wF he.p) fun D σ H ⟨sr,q⟩=>⟨sr,we.mono (fun v q1 u H1 g1 s1 v1=>by
 have q1:bT K x σ fs H D (out (k v)):=q1;rw [h] at q1;exact q1 u σ fs H1 g1.f s1 ⟨i,hs⟩ v1) q⟩
def SF.expr {k:PV->W T} (he:EF X K fs e we) (hr:∀v,SF X K x fs rest (k v) out) (hs:swapsWith e none pos.line X.env=pure false:=by rfl):SF X K x fs (.Expr e pos::rest) (.bind we k) out:=SF.step (nu he.p hs) fun D σ H ⟨sr,q⟩=>
 ⟨sr,we.mono (fun v q1 u H1 g1 s1 v1=>⟨fs,k v,hr v,s1,(k v).mono (fun t q2=>q2.go g1.f sr s1) q1⟩) q⟩
def SF.set {i:Nat}{y:Str}{p':Pos}{k:PV->W T} (hN:X.N.Nodup) (hi:X.N[i]?=some y) (hx:Loc X.env.scope y) (he:EF X K fs e we) (hr:∀v,SF X K x (fs.set i (some (.val v))) rest (k v) out) (hs:swapsWith e (some (.Name y p')) pos.line X.env=pure false:=by rfl)
  (hf:X.fn y=true\/X.env.scope.names.lookup y=some .local:=by first | exact .inl rfl | exact .inr rfl | assumption):SF X K x fs (.Assign [.Name y p'] e pos::rest) (.bind we k) out:=SF.step (wD hN hi hx he.p hs hf) fun D σ H ⟨sr,q⟩=>
 ⟨sr,we.mono (fun v q1 u H1 g1 s1 v1=>⟨_,k v,hr v,s1.dI v1 i,(k v).mono (fun t q2=>q2.go (g1.f.trans (cE.dI s1 u v i)) sr (s1.dI v1 i)) q1⟩) q⟩
def SF.ZW {i:Nat}{y:Str}{p':Pos}{k:List PV->W T} (hN:X.N.Nodup) (hi:X.N[i]?=some y) (hx:Loc X.env.scope y) (he:LF X K fs e wl) (hr:∀l,SF X K x (fs.set i (some (.ol none l))) rest (k l) out) (hs:swapsWith e (some (.Name y p')) pos.line X.env=pure false:=by rfl)
  (hf:X.fn y=true\/X.env.scope.names.lookup y=some .local:=by first | exact .inl rfl | exact .inr rfl | assumption):SF X K x fs (.Assign [.Name y p'] e pos::rest) (.bind wl k) out:=SF.step (wD hN hi hx he.p hs hf) fun D σ H ⟨sr,q⟩=>by
 refine⟨sr,wl.mono (fun l q1 a ws H1 g1 s1 n e v1=>?_) q⟩;have no:=sr.noOwn n;have s2:=s1.wB (t:=.ol none l) ⟨by simp,ws,e,v1⟩ no i;exact⟨_,k l,hr l,s2,(k l).mono (fun t q2=>q2.go (cE.wB s1 g1.f no n i) sr s2) q1⟩
def SF.cR (i:Nat) {q0:Option Addr}{l:List PV} (hs:fs[i]?=some (some (.ol q0 l))) (hr:SF X K x (fs.set i (some (.val (.cl l)))) NF w out):SF X K x fs NF w out:=⟨fun pins s σ H D I ⟨sr,q⟩=>by
 obtain⟨u,e1,r⟩:=sr.at' i _ hs;rcases r with⟨v,e,_⟩ | ⟨a,e,_,ws,q1,q2⟩
 ·cases e
 ·subst e;obtain⟨ob,I2⟩:=I.rj q1;have tk:=lJ (K:=K) (.cR ob (.lst ws)) q1;have sS:σ.set i (some (.ref a))=σ:=BB fun j=>by
   by_cases c:j=i
   ·subst c;rw [bZ ((Aj.mp e1).1),e1]
   ·rw [aD c]
  have ow:∀b,cV σ (fs.set i (some (.val (.cl l)))) b->cV σ fs b:=fun b z=>by
   obtain⟨j,t,x,z1,z2,z3,z4⟩:=z;rcases aY z1 with⟨rfl,rfl⟩ | ⟨n,z1⟩
   ·cases z2
   ·exact⟨j,t,x,z1,z2,z3,z4⟩
  have na:¬cV σ (fs.set i (some (.val (.cl l)))) a:=fun z=>by
   obtain⟨j,t,x,z1,z2,z3,z4⟩:=z;rcases aY z1 with⟨rfl,rfl⟩ | ⟨n,z1⟩
   ·cases z2
   ·exact n (sr.nd j i t _ x a a z1 hs z2 rfl z3 e1 z4 (.inl rfl))
  have s2:aR K (upd H a (.cR ob (.lst ws))) σ (fs.set i (some (.val (.cl l)))):=by
   refine⟨by simp [sr.len],fun j t z=>?_,fun j k t u b1 b2 b z1 z2 o1 o2=>?_⟩
   ·rcases aY z with⟨rfl,rfl⟩ | ⟨n,z⟩
    ·exact⟨_,e1,.inl ⟨_,rfl,.cl (.inl ⟨ob,aO⟩) (aK.tk tk q2)⟩⟩
    ·obtain⟨u,h1,h2⟩:=sr.at' j t z;exact⟨u,h1,h2.mono tk (fun x b o eb ow hb zz=>by
      subst eb;rw [av (fun y=>by subst y;exact n (sr.nd j i t _ x b b z hs ow rfl h1 e1 hb (.inl rfl)))];exact zz)⟩
   ·rcases aY z1 with⟨rfl,rfl⟩ | ⟨n1,z1⟩
    ·cases o1
    ·rcases aY z2 with⟨rfl,rfl⟩ | ⟨n2,z2⟩
     ·cases o2
     ·exact sr.nd j k t u b1 b2 b z1 z2 o1 o2
  have g2:cE σ fs H σ (fs.set i (some (.val (.cl l)))) (upd H a (.cR ob (.lst ws))):=by
   refine⟨fun b o z n=>⟨?_,fun y=>n (ow b y)⟩,fun b z=>?_,fun b φ z=>?_⟩
   ·rw [av (fun y=>by subst y;exact n ⟨i,_,_,hs,rfl,e1,.inl rfl⟩)];exact z
   ·by_cases c:b=a
    ·subst c;rw [aO] at z;cases z
    ·rw [av c] at z;exact z
   ·obtain⟨j,z1,z2⟩:=z;have:j≠i:=fun y=>by subst y;rw [hs] at z1;cases z1
    exact .inl ⟨j,by rw [aD this];exact z1,z2⟩
  exact hr.p pins s σ _ D I2 ⟨s2,w.mono (fun t q3=>q3.go g2 sr s2) q⟩⟩
variable {tc:W Bool}
def SF.YO (hc:TF X K fs c tc) (ha:SF X K x fs sa w out) (hb:SF X K x fs sb wk out):SF X K x fs [.If c sa sb pos] (.bind tc fun b=>if b=true then w else wk) out:=⟨rD.imp (Ox (Lc hc.p ha.p hb.p)) fun D σ H ⟨sr,q⟩=>⟨sr,tc.mono (fun k q1 H1 g1 s1=>by
 cases k with
 | true=>exact zB ⟨s1,w.mono (fun t q2=>q2.go g1.f sr s1) q1⟩
 | false=>exact zC ⟨s1,wk.mono (fun t q2=>q2.go g1.f sr s1) q1⟩) q⟩⟩
def SF.Kh (hc:TF X K fs c tc) (ha:SF X K true fs sa w out) (hb:SF X K x fs rest wk out):SF X K x fs (.If c sa [] pos::rest) (.bind tc fun b=>if b=true then w else wk) out:=SF.step (Lc hc.p ha.p wC) fun D σ H ⟨sr,q⟩=>⟨sr,tc.mono (fun k q1 H1 g1 s1=>by
 cases k with
 | true=>exact zB ⟨s1,w.mono (fun t q2=>bT.exit (D:=D) (D':={D with nx:=yG X K x rest out D}) rfl rfl rfl (q2.go g1.f sr s1)) q1⟩
 | false=>exact zC ⟨fs,wk,hb,s1,wk.mono (fun t q2=>q2.go g1.f sr s1) q1⟩) q⟩
def UJ (X:Cx) (K:Ab) (x:Bool) (rest:List Stmt) {T:Type} (w:W T) (out:T->End):End->Prop
 | .nx bC=>SF X K x bC rest w out
 | .nc bC=>False
 | .bk bC=>∃t,w=.ret t/\out t=.bk bC
 | .ct bC=>∃t,w=.ret t/\(out t=.ct bC\/out t=.nc bC)
 | .rt v=>∃t,w=.ret t/\out t=.rt v
 | .rl l=>∃t,w=.ret t/\out t=.rl l
 | .ro v a l=>∃t,w=.ret t/\out t=.ro v a l
def UJ.r {σ:L2.St}{H:Hp}{D:Ends}{E:End} (sr:aR K H σ fs) (h:UJ X K x rest w out E) (q:w.run fun t=>bT K x σ fs H D (out t)):bT K false σ fs H {D with nx:=yG X K x rest out D} E:=by
 cases E with
 | nx bC=>exact fun _ σ' H' g' s'=>⟨bC,w,h,s',w.mono (fun t q2=>q2.go g' sr s') q⟩
 | nc bC=>exact h.elim
 | bk bC=>
  obtain⟨t,rfl,h⟩:=h;have q:bT K x σ fs H D (out t):=q;rw [h] at q;exact q
 | ct bC=>
  obtain⟨t,rfl,h⟩:=h;have q:bT K x σ fs H D (out t):=q;rcases h with h | h
  ·rw [h] at q;exact q
  ·rw [h] at q;exact fun σ' H' g s=>(q σ' H' g s).2
 | rt v=>
  obtain⟨t,rfl,h⟩:=h;have q:bT K x σ fs H D (out t):=q;rw [h] at q;exact q
 | rl v=>
  obtain⟨t,rfl,h⟩:=h;have q:bT K x σ fs H D (out t):=q;rw [h] at q;exact q
 | ro v a l=>
  obtain⟨t,rfl,h⟩:=h;have q:bT K x σ fs H D (out t):=q;rw [h] at q;exact q
variable {w1 w2:W T1}{out1:T1->End}{k:T1->W T}
def SF.YQ (hc:TF X K fs c tc) (ha:SF X K false fs sa w1 out1) (hb:SF X K false fs sb w2 out1) (hr:∀t,UJ X K x rest (k t) out (out1 t)):SF X K x fs (.If c sa sb pos::rest) (.bind tc fun b=>.bind (if b=true then w1 else w2) k) out:=SF.step (Lc hc.p ha.p hb.p) fun D σ H ⟨sr,q⟩=>⟨sr,tc.mono (fun b q1 H1 g1 s1=>by
 have fin:∀t,(k t).run (fun t=>bT K x σ fs H D (out t))->bT K false σ fs H {D with nx:=yG X K x rest out D} (out1 t):=fun t q=>(hr t).r sr q;cases b with
 | true=>exact zB ⟨s1,w1.mono (fun t q2=>(fin t q2).go g1.f sr s1) q1⟩
 | false=>exact zC ⟨s1,w2.mono (fun t q2=>(fin t q2).go g1.f sr s1) q1⟩) q⟩
end
end
section
open PySem PySem.Spec PyProof.Rows L2 PL
variable {K:Ab}
def JF (K:Ab) (H:Hp) (J:It) (l:List PV):Prop:=l.length<=sizeLine/\∀H',bc K H H'->(∀(i:Nat) (p:PV),l[i]?=some p->J.go i H'/\∀x H2,J.QN i H' x H2->lG H' H2/\VR K [] H2 x p)/\J.stop l.length H'
def JF.tk {H H':Hp}{J:It}{l:List PV} (t:bc K H H') (h:JF K H J l):JF K H' J l:=⟨h.1,fun H2 t2=>h.2 H2 (bc.trans t t2)⟩
def fIt (K:Ab) (fs:aX) (w:W (List PV)):TI:=fun σ H R=>aR K H σ fs/\w.run fun l=>∀J H',cL σ fs H H'->aR K H' σ fs->JF K H' J l->R J H'
structure rE (X:Cx) (K:Ab) (fs:aX) (tg e:Expr) (w:W (List PV)):Prop where p:PI X tg e (fIt K fs w)
section
variable {X:Cx}{a b c e tg:Expr}{pos p p1 p2:Pos}{fs:aX}{wa wb wc:W PV}{wl:W (List PV)}
def QE {H:Hp}{ad:Addr}{vs:List V}{l:List PV} (h:RE K H ad vs) (r:aK K [] H vs l) (hz:l.length<=sizeLine):JF K H (Itl K ad) l:=⟨hz,fun H' t=>by
 have e1:=(t.f _ _ h).sq;have e2:=aK.tk t r;refine⟨fun i p hp=>?_,vs,e1,by rw [e2.length];exact Am _⟩;obtain⟨v,h3,h4⟩:=e2.get hp;refine⟨⟨vs,v,e1,h3⟩,fun x H3 y=>?_⟩;obtain⟨rfl,y⟩:=y;have:=y vs e1;rw [h3] at this;cases this;exact⟨lG.refl _,h4⟩⟩
def UH {H:Hp}{ad:Addr}{vs:List V}{l:List PV} (h:H ad=some (.tup vs)) (r:aK K [] H vs l) (hz:l.length<=sizeLine):JF K H (Itt K ad) l:=⟨hz,fun H' t=>by
 have e1:=da.of (K:=K) (t.t _ _ h);have e2:=aK.tk t r;refine⟨fun i p hp=>?_,vs,e1,by rw [e2.length];exact Am _⟩;obtain⟨v,h3,h4⟩:=e2.get hp;refine⟨⟨vs,v,e1,h3⟩,fun x H3 y=>?_⟩;obtain⟨rfl,y⟩:=y;have:=y vs e1;rw [h3] at this;cases this;exact⟨lG.refl _,h4⟩⟩
def dF (hK:X.K=K) (h:IF X K fs e wl):rE X K fs tg e wl:=⟨by
 subst hK;intro pins s σ H R I ⟨sr,q⟩;refine cj (h.p pins s σ H (fun u H1=>∃l,UD X.K H1 u l/\∀J,JF X.K H1 J l->R J H1) I ⟨sr,wl.mono (fun l q1 u H1 g1 s1 v1=>⟨l,v1,fun J j=>q1 J H1 g1 s1 j⟩) q⟩) fun v s1 ⟨x,H1,I1,r1,l,⟨ad,vs,e,hh,rs⟩,q1⟩=>?_;subst e;cases r1;rcases hh with hh | hh
 ·obtain⟨aq,rv,pl,hz⟩:=I1.list hh.sq;refine Cm pl.isList ?_;refine⟨s1.heap.objs.size,[s1.heap.objs.size],_,_,H1,rfl,I1.kept (t':=s1.toks) fun b o e=>Al _ e,IG ad _,⟨_,Ap _ rfl,rfl,rfl⟩,fun b hb=>?_,q1 _ (QE hh rs (by rw [<- rs.length];exact hz))⟩;have e:b=s1.heap.objs.size:=by simpa using hb
  subst e;exact I1.zH (Am _) (I1.bP.fresh (Am _))
 ·obtain⟨aq,rv,pl,hz⟩:=I1.tuple (da.of hh);refine Dy (show s1.heap.IsTuple ad aq.toArray from pl) ?_;refine⟨s1.heap.objs.size,[s1.heap.objs.size],_,_,H1,rfl,I1.kept (t':=s1.toks) fun b o e=>Al _ e,FJ ad _,⟨_,Ap _ rfl,rfl,rfl⟩,fun b hb=>?_,q1 _ (UH hh rs (by rw [<- rs.length];exact hz))⟩;have e:b=s1.heap.objs.size:=by simpa using hb
  subst e;exact I1.zH (Am _) (I1.bP.fresh (Am _))⟩
def okN (i j:Int):Prop:=-(2 ^ 62)<=i/\i < 2 ^ 62/\-(2 ^ 62)<=j/\j < 2 ^ 62/\(j-i).toNat<=sizeLine
def kf:PV->W (List PV)
 | .int j=>.gF (okN 0 j) (.ret (je 0 j.toNat))
 | _=>.fail
def KY:PV->PV->PV->W (List PV)
 | .int i,.int j,.int k=>.gF (k = -1/\okN j i) (.ret (p0 i (i-j).toNat))
 | _,_,_=>.fail
def UI {H:Hp} (lo:Int) (n:Nat) (hz:n<=sizeLine):JF K H (Zs lo n) (je lo n):=⟨by rw [jd];exact hz,fun H' t=>⟨fun i p hp=>by
  obtain⟨h1,rfl⟩:=pB hp;refine⟨h1,fun x H2 y=>?_⟩;obtain⟨rfl,rfl⟩:=y;exact⟨lG.refl _,.int _⟩,by show n<=(je lo n).length;rw [jd];exact Am _⟩⟩
def fJ (hg:Gl X "range") (hm:X.mg "range"=none) (ha:EF X K fs a wa) (hs:starEach [a] X.env=[(false,eval a X.env)]:=by rfl):rE X K fs tg (.Call (.Name "range" p) [a] [] pos) (.bind wa kf):=
 ⟨PI.imp (Jh hg hm (bF ha.p cX hs) hs) fun σ H R ⟨sr,q⟩=>⟨sr,wa.mono (fun x q1 u1 H1 g1 s1 v1=>by
  cases v1 with
  | int j=>exact⟨_,rfl,q1.1.2.2.1,q1.1.2.2.2.1,q1.2 _ H1 g1 s1 (UI _ _ (by have:=q1.1.2.2.2.2;omega))⟩
  | _=>exact q1.elim) q⟩⟩
def Pu (hg:Gl X "range") (hm:X.mg "range"=none) (ha:EF X K fs a wa) (hb:EF X K fs b wb) (hc:EF X K fs c wc) (hs:starEach [a,b,c] X.env=[(false,eval a X.env),(false,eval b X.env),(false,eval c X.env)]:=by rfl) (rh:starEach [b,c] X.env=[(false,eval b X.env),(false,eval c X.env)]:=by rfl) (hs3:starEach [c] X.env=[(false,eval c X.env)]:=by rfl):rE X K fs tg (.Call (.Name "range" p) [a,b,c] [] pos) (.bind wa fun x=>.bind wb fun y=>.bind wc fun z=>KY x y z):=
 ⟨PI.imp (Jg hg hm (bF ha.p (bF hb.p (bF hc.p cX hs3) (by rw [rh,hs3])) (by rw [hs,rh])) hs rh) fun σ H R ⟨sr,q⟩=>⟨sr,wa.mono (fun x q1 u1 H1 g1 s1 v1=>⟨s1,wb.mono (fun y q2 u2 H2 g2 s2 v2=>⟨s2,wc.mono (fun z q3 u3 H3 g3 s3 v3=>by
  cases v1 with
  | int i=>
   cases v2 with
   | int j=>
    cases v3 with
    | int k=>
     obtain⟨⟨rfl,k1,k2,k3,k4,k5⟩,q3⟩:=q3;refine⟨_,_,rfl,⟨k3,k4,k1,k2⟩,q3 _ H3 ((g1.trans g2).trans g3) s3 ⟨by rw [vD];exact k5,fun H' t=>⟨fun i p hp=>?_,?_⟩⟩⟩
     ·obtain⟨h1,rfl⟩:=vE hp;refine⟨h1,fun x H2 y=>?_⟩;obtain⟨rfl,rfl⟩:=y;exact⟨lG.refl _,.int _⟩
     ·exact Nat.le_of_eq (vD _ _).symm
    | _=>exact q3.elim
   | _=>exact q3.elim
  | _=>exact q3.elim) q2⟩) q1⟩) q⟩⟩
def nM (hK:X.K=K) {elts:List Expr}{kk:Nat}{tp:Pos} (hg:Gl X "enumerate") (hm:X.mg "enumerate"=none) (h:IF X K fs e wl) (zE:starEach [e] X.env=(false,eval e X.env)::starEach [] X.env:=by rfl):rE X K fs (.Tuple elts kk tp) (.Call (.Name "enumerate" p1) [e] [] p2) (.bind wl fun l=>.gF (l.length<=sizeLine) (.ret (dQ 0 l))):=
 ⟨PI.imp (Li K hK hg hm h.p zE) fun σ H R ⟨sr,q⟩=>⟨sr,wl.mono (fun l q1 u1 H1 g1 s1 v1=>by
  obtain⟨ad,vs,rfl,hh,rs⟩:=v1;have yl:∀{H':Hp}{i:Nat}{x v:V}{y:PV}{pp:Addr},H' pp=none->VR K [] H' v y->lG H' (upd H' pp (.tup [.int (i:Int),v]))/\VR K [] (upd H' pp (.tup [.int (i:Int),v])) (.ref pp) (.tup [.int ((0+i:Nat):Int),y]):=fun {H' i x v y pp} hn h4=>
   have sm:=kJ hn (.tup [.int (i:Int),v])
   ⟨sm,.tup aO (.cons (by rw [AQ];exact .int _) (.cons (VR.tk sm.fc h4) .nil))⟩
  refine⟨ad,rfl,?_⟩;rcases hh with hh | hh
  ·refine .inl ⟨⟨vs,hh.sq⟩,q1.2 _ H1 g1 s1 ⟨by rw [cz];exact q1.1,fun H' t=>⟨fun i p hp=>?_,vs,(t.f _ _ hh).sq,by rw [rs.length,cz];exact Am _⟩⟩⟩;obtain⟨y,hy,rfl⟩:=gM hp;obtain⟨v,h3,h4⟩:=(aK.tk t rs).get hy;refine⟨⟨vs,v,(t.f _ _ hh).sq,h3⟩,fun x H3 z=>?_⟩;obtain⟨pp,x0,rfl,hn,rfl,hz⟩:=z;have:=hz vs (t.f _ _ hh).sq;rw [h3] at this;cases this;exact yl (x:=.aU) hn h4
  ·refine .inr ⟨⟨vs,da.of hh⟩,q1.2 _ H1 g1 s1 ⟨by rw [cz];exact q1.1,fun H' t=>⟨fun i p hp=>?_,vs,da.of (t.t _ _ hh),by rw [rs.length,cz];exact Am _⟩⟩⟩;obtain⟨y,hy,rfl⟩:=gM hp;obtain⟨v,h3,h4⟩:=(aK.tk t rs).get hy;refine⟨⟨vs,v,da.of (t.t _ _ hh),h3⟩,fun x H3 z=>?_⟩;obtain⟨pp,x0,rfl,hn,rfl,hz⟩:=z;have:=hz vs (da.of (t.t _ _ hh));rw [h3] at this;cases this;exact yl (x:=.aU) hn h4) q⟩⟩
end
def rS:List Nat->List V->L2.St->L2.St
 | i::is,u::us,σ=>rS is us (σ.set i (some u))
 | _,_,σ=>σ
def fG (K:Ab) (fs:aX) (is:List Nat) {T:Type} (wt:PV->W T) (dC:T->aX):TG:=fun v σ H Q=>∃p,aR K H σ fs/\VR K [] H v p/\(wt p).run fun t=>∀us,cE σ fs H (rS is us σ) (dC t) H->aR K H (rS is us σ) (dC t)->Q (rS is us σ) H
structure GF (X:Cx) (K:Ab) (fs:aX) (tg:Expr) (is:List Nat) {T:Type} (wt:PV->W T) (dC:T->aX):Prop where p:PG X tg (fG K fs is wt dC)
def yq:PV->W (PV×PV)
 | .tup [a,b]=>.ret (a,b)
 | _=>.fail
def Yo:PV->W (PV×PV×PV)
 | .tup [a,b,c]=>.ret (a,b,c)
 | _=>.fail
def Vu:PV->W (PV×PV×PV×PV)
 | .tup [a,b,c,d]=>.ret (a,b,c,d)
 | _=>.fail
section
variable {X:Cx}{fs:aX}{tg:Expr}
def TZ {i:Nat} (h:PG X tg (cM i)):GF X K fs tg [i] .ret (fun p=>fs.set i (some (.val p))):=⟨PG.imp h fun v σ H Q ⟨p,sr,r,q⟩=>q [v] (cE.dI sr v p i) (sr.dI r i)⟩
def TY {i j:Nat} (hK:X.K=K) (h:PG X tg (JO X.K 2 (iu (cM i) (iu (cM j) JP)))):GF X K fs tg [i,j] yq (fun t=>(fs.set i (some (.val t.1))).set j (some (.val t.2))):=⟨PG.imp h fun v σ H Q ⟨p,sr,r,q⟩=>by
 subst hK;unfold yq at q
 split at q
 ·rename_i a b;cases r with
  | tup e rs=>
   cases rs with
   | cons ra t=>
   cases t with
   | cons rb t=>
   cases t;have s1:=sr.dI ra i;exact⟨_,_,rfl,da.of e,rfl,_,_,rfl,_,_,rfl,rfl,q [_,_] ((cE.dI sr _ _ i).trans (cE.dI s1 _ _ j)) (s1.dI rb j)⟩
 ·exact q.elim⟩
def g_3 {i j k:Nat} (hK:X.K=K) (h:PG X tg (JO X.K 3 (iu (cM i) (iu (cM j) (iu (cM k) JP))))):GF X K fs tg [i,j,k] Yo (fun t=>((fs.set i (some (.val t.1))).set j (some (.val t.2.1))).set k (some (.val t.2.2))):=⟨PG.imp h fun v σ H Q ⟨p,sr,r,q⟩=>by
 subst hK;unfold Yo at q
 split at q
 ·rename_i a b;cases r with
  | tup e rs=>
   cases rs with
   | cons ra t=>
   cases t with
   | cons rb t=>
   cases t with
   | cons rc t=>
   cases t;have s1:=sr.dI ra i;have s2:=s1.dI rb j;exact⟨_,_,rfl,da.of e,rfl,_,_,rfl,_,_,rfl,_,_,rfl,rfl,q [_,_,_] (((cE.dI sr _ _ i).trans (cE.dI s1 _ _ j)).trans (cE.dI s2 _ _ k)) (s2.dI rc k)⟩
 ·exact q.elim⟩
def g_4 {i j k l:Nat} (hK:X.K=K) (h:PG X tg (JO X.K 4 (iu (cM i) (iu (cM j) (iu (cM k) (iu (cM l) JP)))))):GF X K fs tg [i,j,k,l] Vu (fun t=>(((fs.set i (some (.val t.1))).set j (some (.val t.2.1))).set k (some (.val t.2.2.1))).set l (some (.val t.2.2.2))):=⟨PG.imp h fun v σ H Q ⟨p,sr,r,q⟩=>by
 subst hK;unfold Vu at q
 split at q
 ·rename_i a b;cases r with
  | tup e rs=>
   cases rs with
   | cons ra t=>
   cases t with
   | cons rb t=>
   cases t with
   | cons rc t=>
   cases t with
   | cons rd t=>
   cases t;have s1:=sr.dI ra i;have s2:=s1.dI rb j;have s3:=s2.dI rc k;exact⟨_,_,rfl,da.of e,rfl,_,_,rfl,_,_,rfl,_,_,rfl,_,_,rfl,rfl,q [_,_,_,_] ((((cE.dI sr _ _ i).trans (cE.dI s1 _ _ j)).trans (cE.dI s2 _ _ k)).trans (cE.dI s3 _ _ l)) (s3.dI rd l)⟩
 ·exact q.elim⟩
end
section
variable {S T:Type}
def eN:List PV->S->(PV->S->W S)->W S
 | [],s,_=>.ret s
 | x::r,s,f=>.bind (f x s) fun s'=>eN r s' f
inductive Lp (S T:Type) where
 | go (s:S) | out (t:T)
def kq:List PV->S->(PV->S->W (Lp S T))->W (Lp S T)
 | [],s,_=>.ret (.go s)
 | x::r,s,f=>.bind (f x s) fun o=>match o with
  | .go s'=>kq r s' f
  | .out t=>.ret (.out t)
def Kk {R:Type} (k:S->W T) (inj:R->T):Lp S R->W T
 | .go s=>k s
 | .out r=>.ret (inj r)
@[simp] theorem TU {R:Type} (k:S->W T) (inj:R->T) (s:S):Kk k inj (.go s)=k s:=(rfl)
@[simp] theorem YY {R:Type} (k:S->W T) (inj:R->T) (r:R):Kk k inj (.out r)=.ret (inj r):=(rfl)
def YH {R:Type} (hd:S->aX) (out:R->End):Lp S R->End
 | .go s=>.nc (hd s)
 | .out r=>out r
def mx (c:S->W Bool) (b:S->W S):Nat->S->W S
 | 0,_=>.fail
 | n+1,s=>.bind (c s) fun k=>if k=true then .bind (b s) (mx c b n) else .ret s
def kz (c:S->W Bool) (b:S->W S) (s:S):W S:=⟨fun Q=>∃n,(mx c b n s).run Q,fun h ⟨n,q⟩=>⟨n,(mx c b n s).mono h q⟩⟩
end
section
variable {X:Cx}{c iter tg:Expr}{body rest:List Stmt}{pos:Pos}{fs:aX}{S T T2:Type}{hd:S->aX}{s0:S}{wl:W (List PV)}{wt:PV->W T2}{is:List Nat}{dC:S->T2->aX}{k:S->W T}{out:T->End}{x:Bool}{R:Type}{inj:R->T}
def SF.for {f:PV->S->W S}{wb:T2->S->W S} (hp:PassesOwn (model X.prog X.w) X.A X.env X.xe) (hc:X.calm=true) (hi:rE X K fs tg iter wl) (hl:jo fs (hd s0)) (hg:∀s,GF X K (hd s) tg is wt (dC s)) (hf:∀p s,f p s=.bind (wt p) fun t=>wb t s)
  (hb:∀s t,SF X K false (dC s t) body (wb t s) fun s'=>.nc (hd s')) (hr:∀s,SF X K x (hd s) rest (k s) out) (hs:∀x,foldedSetIterable iter X.env x=pure x:=by intro _;rfl) :
  SF X K x fs (.For tg iter body [] pos::rest) (.bind wl fun l=>.bind (eN l s0 f) k) out:=by
 refine SF.step (Ld (g:=fun v σ H Q=>∃s,fG K (hd s) is wt (dC s) v σ H Q) (tb:=fun D σ H=>∃s t,fS K false (dC s t) (wb t s) (fun s'=>.nc (hd s')) D σ H) hp hc hi.p (fun pins s σ H v u Q I r ⟨s1,q⟩=>(hg s1).p pins s σ H v u Q I r q) (fun pins s σ H D I ⟨s1,t1,q⟩=>(hb s1 t1).p pins s σ H D I q) hs) fun D σ H ⟨sr,q⟩=>?_;refine⟨sr,wl.mono (fun l q1 J H1 g1 s1 jf=>?_) q⟩;refine⟨fun i m σ' H'=>∃s,aR K H' σ' (hd s)/\cE σ fs H σ' (hd s) H'/\JF K H' J l/\m=l.length-i/\i<=l.length/\(eN (l.drop i) s f).run fun s'=>(k s').run fun t=>bT K x σ fs H D (out t),⟨l.length,s0,s1.le hl,g1.f.trans (cE.le s1 hl),jf,by simp,Bm _,by simpa using q1⟩,?_⟩;rintro i m σ2 H2 ⟨s,s2,g2,Pq,rfl,hi,q2⟩;obtain⟨j1,j2⟩:=Pq.2 H2 (bc.refl H2);by_cases mJ:i < l.length
 ·obtain⟨go,yl⟩:=j1 i _ (Ae mJ);have ed:l.drop i=l[i]::l.drop (i+1):=Bf mJ;rw [ed] at q2;refine .inr ⟨go,fun σ3 H3=>∃s',aR K H3 σ3 (hd s')/\cE σ fs H σ3 (hd s') H3/\JF K H3 J l/\(eN (l.drop (i+1)) s' f).run fun s'=>(k s').run fun t=>bT K x σ fs H D (out t),fun σ3 H3 ⟨s',a1,a2,a3,a4⟩=>⟨l.length-(i+1),by omega,s',a1,a2,a3,rfl,mJ,a4⟩,fun v H3 y=>?_⟩;obtain⟨sm,vx⟩:=yl v H3 y;have q2:(f l[i] s).run fun s'=>(eN (l.drop (i+1)) s' f).run fun s'=>(k s').run fun t=>bT K x σ fs H D (out t):=q2;rw [hf] at q2;have s3:=s2.same sm;have g3:=g2.trans (cE.same sm s2);refine⟨s,_,s3,vx,(wt l[i]).mono (fun t q4 us g4 s4=>?_) q2⟩;refine⟨s,t,s4,(wb t s).mono (fun s' q5 σ5 H5 g5 s5=>?_) q4⟩;have fin:∃s',aR K H5 σ5 (hd s')/\cE σ fs H σ5 (hd s') H5/\JF K H5 J l/\(eN (l.drop (i+1)) s' f).run fun s'=>(k s').run fun t=>bT K x σ fs H D (out t):=⟨s',s5,(g3.trans g4).trans g5,Pq.tk (bc.trans sm.fc (bc.trans (g4.eJ s3) (g5.eJ s4))),q5⟩;exact⟨fun _=>fin,fin⟩
 ·have e:i=l.length:=by omega
  subst e;rw [Ea] at q2;have q2:(k s).run fun t=>bT K x σ fs H D (out t):=q2;exact .inl ⟨j2,hd s,k s,hr s,s2,(k s).mono (fun t q3=>q3.go g2 sr s2) q2⟩
def SF.kq {f:PV->S->W (Lp S R)}{wb:T2->S->W (Lp S R)} (hp:PassesOwn (model X.prog X.w) X.A X.env X.xe) (hc:X.calm=true) (hi:rE X K fs tg iter wl) (hl:jo fs (hd s0)) (hg:∀s,GF X K (hd s) tg is wt (dC s)) (hf:∀p s,f p s=.bind (wt p) fun t=>wb t s)
  (ho:∀t,(out (inj t)).HS)
  (hb:∀s t,SF X K false (dC s t) body (wb t s) (YH hd fun r=>out (inj r))) (hr:∀s,SF X K x (hd s) rest (k s) out) (hs:∀x,foldedSetIterable iter X.env x=pure x:=by intro _;rfl) :
  SF X K x fs (.For tg iter body [] pos::rest) (.bind wl fun l=>.bind (FL.kq l s0 f) (Kk k inj)) out:=by
 refine SF.step (Ld (g:=fun v σ H Q=>∃s,fG K (hd s) is wt (dC s) v σ H Q) (tb:=fun D σ H=>∃s t,fS K false (dC s t) (wb t s) (YH hd fun r=>out (inj r)) D σ H) hp hc hi.p (fun pins s σ H v u Q I r ⟨s1,q⟩=>(hg s1).p pins s σ H v u Q I r q) (fun pins s σ H D I ⟨s1,t1,q⟩=>(hb s1 t1).p pins s σ H D I q) hs) fun D σ H ⟨sr,q⟩=>?_;refine⟨sr,wl.mono (fun l q1 J H1 g1 s1 jf=>?_) q⟩;have lo:∀(D':Ends) (y:Bool) (t:R),D'.rt=D.rt->bT K x σ fs H D (out (inj t))->bT K y σ fs H D' (out (inj t)):=fun D' y t e h=>bT.Z5 (ho t) e h;refine⟨fun i m σ' H'=>∃s,aR K H' σ' (hd s)/\cE σ fs H σ' (hd s) H'/\JF K H' J l/\m=l.length-i/\i<=l.length/\(FL.kq (l.drop i) s f).run fun o=>(Kk k inj o).run fun t=>bT K x σ fs H D (out t),⟨l.length,s0,s1.le hl,g1.f.trans (cE.le s1 hl),jf,by simp,Bm _,by simpa using q1⟩,?_⟩;rintro i m σ2 H2 ⟨s,s2,g2,Pq,rfl,hi,q2⟩;obtain⟨j1,j2⟩:=Pq.2 H2 (bc.refl H2);by_cases mJ:i < l.length
 ·obtain⟨go,yl⟩:=j1 i _ (Ae mJ);have ed:l.drop i=l[i]::l.drop (i+1):=Bf mJ;rw [ed] at q2;refine .inr ⟨go,fun σ3 H3=>∃s',aR K H3 σ3 (hd s')/\cE σ fs H σ3 (hd s') H3/\JF K H3 J l/\(FL.kq (l.drop (i+1)) s' f).run fun o=>(Kk k inj o).run fun t=>bT K x σ fs H D (out t),fun σ3 H3 ⟨s',a1,a2,a3,a4⟩=>⟨l.length-(i+1),by omega,s',a1,a2,a3,rfl,mJ,a4⟩,fun v H3 y=>?_⟩;obtain⟨sm,vx⟩:=yl v H3 y;have q2:(f l[i] s).run fun o=>(match o with | .go s'=>FL.kq (l.drop (i+1)) s' f | .out t=>W.ret (.out t)).run fun o=>(Kk k inj o).run fun t=>bT K x σ fs H D (out t):=q2;rw [hf] at q2;have s3:=s2.same sm;have g3:=g2.trans (cE.same sm s2);refine⟨s,_,s3,vx,(wt l[i]).mono (fun t q4 us g4 s4=>?_) q2⟩;refine⟨s,t,s4,(wb t s).mono (fun o q5=>?_) q4⟩;cases o with
  | out t5=>
   refine bT.go (g3.trans g4) sr s4 (lo _ false t5 ?_ q5);rfl
  | go s'=>
   intro σ5 H5 g5 s5;have fin:∃s',aR K H5 σ5 (hd s')/\cE σ fs H σ5 (hd s') H5/\JF K H5 J l/\(FL.kq (l.drop (i+1)) s' f).run fun o=>(Kk k inj o).run fun t=>bT K x σ fs H D (out t):=⟨s',s5,(g3.trans g4).trans g5,Pq.tk (bc.trans sm.fc (bc.trans (g4.eJ s3) (g5.eJ s4))),q5⟩;exact⟨fun _=>fin,fin⟩
 ·have e:i=l.length:=by omega
  subst e;rw [Ea] at q2;have q2:(k s).run fun t=>bT K x σ fs H D (out t):=q2;exact .inl ⟨j2,hd s,k s,hr s,s2,(k s).mono (fun t q3=>q3.go g2 sr s2) q2⟩
def SF.yC {cw:S->W Bool}{b:S->W S} (hp:PassesOwn (model X.prog X.w) X.A X.env X.xe) (hl:jo fs (hd s0)) (hc:∀s,TF X K (hd s) c (cw s)) (hb:∀s,SF X K false (hd s) body (b s) fun s'=>.nc (hd s')) (hr:∀s,SF X K x (hd s) rest (k s) out) :
  SF X K x fs (.While c body [] pos::rest) (.bind (kz cw b s0) k) out:=by
 refine SF.step (Lb (tc:=fun σ H Q=>∃s,fT K (hd s) (cw s) σ H Q) (tb:=fun D σ H=>∃s,fS K false (hd s) (b s) (fun s'=>.nc (hd s')) D σ H) hp (fun pins s σ H Q I ⟨s1,q⟩=>(hc s1).p pins s σ H Q I q) (fun pins s σ H D I ⟨s1,q⟩=>(hb s1).p pins s σ H D I q)) fun D σ H ⟨sr,n,q⟩=>?_;refine⟨fun m σ' H'=>∃s,aR K H' σ' (hd s)/\cE σ fs H σ' (hd s) H'/\(mx cw b m s).run fun s'=>(k s').run fun t=>bT K x σ fs H D (out t),⟨n,s0,sr.le hl,cE.le sr hl,q⟩,?_⟩;rintro m σ1 H1 ⟨s,s1,g1,q1⟩;cases m with
 | zero=>exact q1.elim
 | succ m=>
  refine⟨s,s1,(cw s).mono (fun kk q2 H2 g2 s2=>?_) q1⟩;cases kk with
  | false=>
   refine zC ?_;have q2:(k s).run fun t=>bT K x σ fs H D (out t):=q2;exact⟨hd s,k s,hr s,s2,(k s).mono (fun t q3=>q3.go (g1.trans g2.f) sr s2) q2⟩
  | true=>
   refine zB ?_;refine⟨fun σ3 H3=>∃s,aR K H3 σ3 (hd s)/\cE σ fs H σ3 (hd s) H3/\(mx cw b m s).run fun s'=>(k s').run fun t=>bT K x σ fs H D (out t),fun σ3 H3 a=>⟨m,D4 m,a⟩,s,s2,(b s).mono (fun s' q5 σ5 H5 g5 s5=>?_) q2⟩;have fin:∃s,aR K H5 σ5 (hd s)/\cE σ fs H σ5 (hd s) H5/\(mx cw b m s).run fun s'=>(k s').run fun t=>bT K x σ fs H D (out t):=⟨s',s5,(g1.trans g2.f).trans g5,q5⟩;exact⟨fun _=>fin,fin⟩
end
end
section
open PySem PySem.Spec PyProof.Rows L2 PL
variable {K:Ab}
def ku:List PV->(PV->W (Option PV))->W (List PV)
 | [],_=>.ret []
 | x::r,f=>.bind (f x) fun o=>.bind (ku r f) fun l=>.ret (o.toList++l)
def dh:List PV->(PV->W PV)->W (List PV)
 | [],_=>.ret []
 | x::r,f=>.bind (f x) fun y=>.bind (dh r f) fun l=>.ret (y::l)
theorem wV (f:PV->W PV):∀l,dh l f=ku l fun p=>.bind (f p) fun v=>.ret (some v)
 | []=>rfl
 | x::r=>by
  show W.bind (f x) (fun y=>W.bind (dh r f) fun l=>W.ret (y::l))=W.bind (f x) fun y=>W.bind (ku r _) fun l=>W.ret (y::l);rw [wV f r]
def bQ (ix:List (Option Nat)) (fs:aX):aX:=ix.map fun o=>match o with | some j=>(fs[j]?).getD none | none=>none
section
variable {σ:L2.St}{fs:aX}{H:Hp}{ix:List (Option Nat)}
def oj {i:Nat}{s:SL} (h:(bQ ix fs)[i]?=some (some s)):∃j,ix[i]?=some (some j)/\fs[j]?=some (some s):=by
 unfold bQ at h;rw [Ai] at h;cases q:ix[i]? with
 | none=>rw [q] at h;cases h
 | some o=>
  rw [q] at h;cases o with
  | none=>cases h
  | some j=>
   refine⟨j,rfl,?_⟩;have h:(fs[j]?).getD none=some s:=Option.some.inj h;cases z:fs[j]? with
   | none=>rw [z] at h;cases h
   | some y=>rw [z] at h;exact congrArg some h
def lU {i j:Nat}{u:V} (h:ix[i]?=some (some j)) (e:σ[j]?=some (some u)):(oh ix σ)[i]?=some (some u):=by
 unfold oh;rw [Ai,h];show some ((σ[j]?).getD none)=_;rw [e];rfl
def aR.gq (s:aR K H σ fs) (inj:∀i i' j:Nat,ix[i]?=some (some j)->ix[i']?=some (some j)->i=i'):aR K H (oh ix σ) (bQ ix fs):=by
 refine⟨by unfold oh bQ;simp,fun i t e=>?_,fun i i' t u x y a e1 e2 o1 o2 q1 q2 z1 z2=>?_⟩
 ·obtain⟨j,h1,h2⟩:=oj e;obtain⟨u,h3,h4⟩:=s.at' j t h2;exact⟨u,lU h1 h3,h4⟩
 ·obtain⟨j,h1,h2⟩:=oj e1;obtain⟨j',jF,yu⟩:=oj e2;obtain⟨u1,h3,_⟩:=s.at' j t h2;obtain⟨u2,Ms,_⟩:=s.at' j' u yu;rw [lU h1 h3] at q1;rw [lU jF Ms] at q2;cases q1;cases q2;have:=s.nd j j' t u x y a h2 yu o1 o2 h3 Ms z1 z2;subst this;exact inj i i' j h1 jF
structure QG (ix:List (Option Nat)) (σ:L2.St) (fs:aX) (σ':L2.St) (bC:aX):Prop where
 own:∀(i:Nat) (t:SL),bC[i]?=some (some t)->t.own=true->∃j,ix[i]?=some (some j)/\fs[j]?=some (some t)/\σ'[i]?=σ[j]?
def QG.wQ {σ':L2.St}{bC:aX} (h:QG ix σ fs σ' bC) {a:Addr} (o:cV σ' bC a):cV σ fs a:=by
 obtain⟨i,t,x,e1,e2,e3,e4⟩:=o;obtain⟨j,h1,h2,h3⟩:=h.own i t e1 e2;exact⟨j,t,x,h2,e2,h3▸e3,e4⟩
def QG.gI {σ':L2.St}{bC:aX} (h:QG ix σ fs σ' bC) {φ:List V->Prop}{a:Addr} (o:e6 σ' bC φ a):e6 σ fs φ a:=by
 obtain⟨i,e1,e3⟩:=o;obtain⟨j,h1,h2,h3⟩:=h.own i _ e1 rfl;exact⟨j,h2,h3▸e3⟩
def QG.out {σ':L2.St}{bC:aX}{H1 H2:Hp} (h:QG ix σ fs σ' bC) (s:aR K H1 σ fs) (g:cL σ' bC H1 H2) (s2:aR K H2 σ' bC):aR K H2 σ fs/\cL σ fs H1 H2:=by
 have gf:cL σ fs H1 H2:=⟨fun a o e n=>g.keep a o e fun φ z=>n φ (h.gI z),g.there⟩;refine⟨⟨s.len,fun j t e=>?_,s.nd⟩,gf⟩;obtain⟨u,h1,h2⟩:=s.at' j t e;refine⟨u,h1,?_⟩;have tk:=gf.eJ s;rcases h2 with⟨v,q,r⟩ | ⟨a,q,r⟩
 ·exact .inl ⟨v,q,VR.tk tk r⟩
 ·subst q;refine .inr ⟨a,rfl,?_⟩;by_cases c:∃b,t.own=true/\t.has a b/\cV σ' bC b
  ·obtain⟨b,ow,hb,i,t',x,c1,c2,c3,c4⟩:=c;obtain⟨j',k1,k2,k3⟩:=h.own i t' c1 c2;have jj:=s.nd j j' t t' a x b e k2 ow c2 h1 (k3▸c3) hb c4;subst jj;rw [e] at k2;cases k2;exact s2.ownAt c1 c2 (k3.trans h1)
  ·exact r.mono tk (fun b o ow hb z=>g.pU z fun y=>c ⟨b,ow,hb,y⟩)
theorem rR:∀{is:List Nat}{us:List V}{σ:L2.St}{i:Nat},i∉is->(rS is us σ)[i]?=σ[i]?
 | [],us,σ,i,_=>by cases us <;> rfl
 | j::is,[],σ,i,_=>rfl
 | j::is,u::us,σ,i,h=>by
  rw [rS,rR (fun z=>h (AU _ z))];exact aD (fun z=>h (by rw [z];exact Bo))
end
section
variable {X:Cx}{ifs:List Expr}{sc:Scope}{N':List Str}{ix:List (Option Nat)}{fs:aX}{wl:W (List PV)}{T2:Type}{wt:PV->W T2}{is:List Nat}{lW:aX}{dC:T2->aX}{tf:T2->W Bool}{te:T2->W PV}{f:PV->W (Option PV)}
structure FF (X:Cx) (K:Ab) (fs:aX) (ifs:List Expr) (w:W Bool):Prop where p:Vf X ifs (fT K fs w)
def Mz:FF X K fs [] (.ret true):=⟨fun pins s σ H Q I ⟨sr,q⟩=>OH pins s σ H Q I (q H .refl sr)⟩
def xB {c:Expr}{w:W Bool} (h:TF X K fs c w):FF X K fs [c] w:=⟨OG h.p⟩
def uV (is:List Nat) (lW:aX) (dC:T2->aX):Prop:=∀t,(dC t).length=lW.length/\∀(i:Nat) (s:SL),(dC t)[i]?=some (some s)->(i∈is/\s.own=false)\/(i∉is/\lW[i]?=some (some s))
def MD (S:aF X.env.scope X.N sc N' ix) (hb:lW=bQ ix fs) (hf:∀p,f p=.bind (wt p) fun t=>.bind (tf t) fun k=>if k=true then .bind (te t) fun v=>.ret (some v) else .ret none) (hl:uV is lW dC) (hr:∀t,jo (dC t) lW) (uJ:∀j∈is,ix[j]?=some none) :
  ∀σ H Q,fL K fs (.bind wl fun l=>ku l f) σ H Q->ZN ix (fIt K fs wl) (fun v σ H Q=>fG K lW is wt dC v σ H Q) (fun σ H Q=>∃t,fT K (dC t) (tf t) σ H Q) (fun σ H Q=>∃t,fE K (dC t) (te t) σ H Q) σ H Q:=by
 subst hb;rintro σ H Q ⟨sr,q⟩;refine⟨sr,wl.mono (fun l q1 J H1 g1 s1 jf D hD=>?_) q⟩;have inj:∀i i' j:Nat,ix[i]?=some (some j)->ix[i']?=some (some j)->i=i':=fun i i' j h1 h2=>by
  have hi:i < N'.length:=by rw [<- S.len];exact (Aj.mp h1).1
  have Gz:i' < N'.length:=by rw [<- S.len];exact (Aj.mp h2).1
  have e1:=(S.at h1 (Ae hi)).1;have e2:=(S.at h2 (Ae Gz)).1;rw [e1] at e2;exact (D9 S.nd).mp (Option.some.inj e2)
 have nD:¬cV σ fs D:=s1.noOwn hD;refine⟨fun i m σ' ys H'=>∃acc,aR K H' σ fs/\cL σ fs H H'/\aR K H' σ' (bQ ix fs)/\QG ix σ fs σ' (bQ ix fs)/\JF K H' J l/\H' D=some (.lst ys)/\aK K [] H' ys acc/\acc.length<=i/\m=l.length-i/\i<=l.length/\
  (ku (l.drop i) f).run fun r=>∀a vs H',cL σ fs H H'->aR K H' σ fs->H a=none->H' a=some (.lst vs)->aK K [] H' vs (acc++r)->Q (.ref a) H',⟨l.length,[],?_⟩,?_⟩
 ·have sm:=kJ hD (.lst []);refine⟨s1.same sm,g1.trans (cL.same sm),(s1.same sm).gq inj,⟨fun i t e o=>?_⟩,jf.tk sm.fc,aO,.nil,Bm _,by simp,Bm _,by simpa using q1⟩;obtain⟨j,h1,h2⟩:=oj e;obtain⟨u,h3,_⟩:=s1.at' j t h2;exact⟨j,h1,h2,by rw [lU h1 h3,h3]⟩
 rintro i m σ2 ys H2 ⟨acc,sO,gO,s2,FD,Pq,hy,vy,Xw,rfl,hi,q2⟩;refine⟨hy,?_⟩;obtain⟨j1,j2⟩:=Pq.2 H2 (bc.refl H2);by_cases mJ:i < l.length
 ·obtain⟨go,yl⟩:=j1 i _ (Ae mJ);have ed:l.drop i=l[i]::l.drop (i+1):=Bf mJ;rw [ed] at q2;refine .inr ⟨go,fun v H3 y=>?_⟩;obtain⟨sm,vx⟩:=yl v H3 y;have q2:(f l[i]).run fun o=>(ku (l.drop (i+1)) f).run fun r=>∀a vs H',cL σ fs H H'->aR K H' σ fs->H a=none->H' a=some (.lst vs)->aK K [] H' vs (acc++(o.toList++r))->Q (.ref a) H':=q2;rw [hf] at q2;have s3:=s2.same sm;have sO3:=sO.same sm;have gO3:=gO.trans (cL.same sm);have hy3:=sm _ _ hy;have vy3:=aK.tk sm.fc vy;have jf3:=Pq.tk sm.fc;refine⟨_,s3,vx,(wt l[i]).mono (fun t q4 us g4 s4=>?_) q2⟩;have PB:QG ix σ fs (rS is us σ2) (dC t):=⟨fun j u e o=>by
   rcases (hl t).2 j u e with⟨_,z⟩ | ⟨n,z⟩
   ·rw [z] at o;cases o
   ·obtain⟨j',k1,k2,k3⟩:=FD.own j u z o;exact⟨j',k1,k2,by rw [rR n];exact k3⟩⟩
  refine⟨t,s4,(tf t).mono (fun kk q5 H5 g5 s5=>?_) q4⟩;obtain⟨sO5,aa0⟩:=PB.out sO3 g5 s5;have gO5:=gO3.trans aa0;have tk5:=g5.eJ s4;have nD4:¬cV (rS is us σ2) (dC t) D:=fun z=>nD (PB.wQ z);have hy5:=g5.pU hy3 nD4;have vy5:=aK.tk tk5 vy3;have jf5:=jf3.tk (g5.eJ s4);have back:∀{H6:Hp},aR K H6 (rS is us σ2) (dC t)->aR K H6 (rS is us σ2) (bQ ix fs)/\QG ix σ fs (rS is us σ2) (bQ ix fs):=fun {H6} z=>⟨z.le (hr t),⟨fun j u e o=>PB.own j u ((hr t).at j u e) o⟩⟩;cases kk with
  | false=>
   refine zC ⟨l.length-(i+1),by omega,acc,sO5,gO5,(back s5).1,(back s5).2,jf5,hy5,vy5,by omega,rfl,mJ,?_⟩;exact q5
  | true=>
   refine zB ⟨t,s5,(te t).mono (fun v6 q6 u6 H6 g6 s6 v6'=>?_) q5⟩;obtain⟨sO6,aaZ⟩:=PB.out sO5 g6 s6;have gO6:=gO5.trans aaZ;have tk6:=g6.eJ s5;have W6:=g6.pU hy5 nD4;have vy6:=aK.tk tk6 vy5;have tkD:=lJ (K:=K) (.lst (ys++[u6])) W6;have hD0:H D=none:=g1.there D hD;refine⟨W6,by rw [vy6.length];have:=Pq.1;omega,l.length-(i+1),by omega,acc++[v6],sO6.side nD W6 _,gO6.side hD0 _,((back s6).1).side (fun z=>nD ((back s6).2.wQ z)) W6 _,(back s6).2,(jf5.tk (g6.eJ s5)).tk (lJ _ W6),aO,aK.tk tkD (vy6.append (.cons v6' .nil)),by rw [Ad];simp;omega,rfl,mJ,?_⟩;refine (ku (l.drop (i+1)) f).mono (fun r q7 a vs H7 g7 s7 n e v7=>q7 a vs H7 g7 s7 n e ?_) q6;simpa using v7
 ·have e:i=l.length:=by omega
  subst e;rw [Ea] at q2;have q2:∀a vs H',cL σ fs H H'->aR K H' σ fs->H a=none->H' a=some (.lst vs)->aK K [] H' vs (acc++[])->Q (.ref a) H':=q2;exact .inl ⟨j2,q2 D ys H2 gO sO (g1.there D hD) hy (by simpa using vy)⟩
end
end
end FL
namespace L2
section
open PySem PySem.Spec PyProof.Rows
variable {X:Cx}
def qI (l:Addr) (items:Array Value) (n:Nat) (b:Addr) (g9:Array Value) (n2:Nat) (sl:Array (Option Value)) (hc0:¬(!items.isEmpty&&Builtin.List.listTooLong (items.size+g9.size))=true) (hc1:items.size<=sizeLine) (rh:items.size+g9.size<=sizeLine+1) :
  Meets (Builtin.«list.extend» ⟨[.ref l,.ref b],[]⟩) (fun _ R s=>s.heap.get? l=some {cls:=.type "list",dict:=none,data:=.seq items n,slots:=#[]}/\s.heap.get? b=some {cls:=.type "list",dict:=none,data:=.seq g9 n2,slots:=sl}/\R (.ok (.ret Ba)) {s with heap:=s.heap.update l (B9 fun x=>x++g9),toks:=s.toks}):=
 .of_wp fun prog w A R s h=>by
  obtain⟨hp,g,d,tk,os⟩:=s;obtain⟨hl,hb,h⟩:=h;have f1:=Eg;have f2:=CS;have f3:=Dc;have f4:=CZ;have f5:=C1;have Gy:(items++g9).size<=sizeLine+1:=by rw [DR];exact rh
  wp_walk using (De hl rfl (hz:=hc1) (_hz':=Gy)),BH hl,BH hb;exact⟨_,rfl,h⟩
def V7 (K:Ab):V->List V->Hp->VK->Prop:=fun x vs H Q=>∃l b xs zs,x=.ref l/\vs=[.ref b]/\H l=some (.lst xs)/\(cT K H b zs\/da K H b zs)/\xs.length+zs.length<=sizeLine/\yF H l (.lst (xs++zs)) (Q .aU)
def O6 (K:Ab) (hK:X.K=K):Kn X "list.extend" (V7 K):=by
 subst hK;intro pins s σ H x vs v us Q I rx rv h;obtain⟨l,b,xs,zs,rfl,rfl,hH,hB | hB,hz,q⟩:=h
 ·cases rx;obtain⟨u,rfl,ru⟩:=rv.one;cases ru;obtain⟨z,aq,n,r,hl,e⟩:=I.o5 hH;obtain⟨bI,r2,⟨⟨cls,dd,data,sl⟩,n2,e2,hc,hd,nS⟩,z2⟩:=I.list hB;simp only at hc hd nS;subst hc hd nS;have NL:=r2.length;have hsz:aq.toArray.size+bI.toArray.size<=sizeLine:=by rw [Ag,Ag];omega
  have sX:¬(!aq.toArray.isEmpty&&Builtin.List.listTooLong (aq.toArray.size+bI.toArray.size))=true:=by
   rw [i8 hsz,DG];exact AH
  refine call_meets Dv ⟨_,e,rfl⟩ Dk (CY _ _)
   (qI l aq.toArray n b bI.toArray n2 sl sX (by rw [Ag];omega) (by omega)) ⟨e,e2,?_⟩
  refine⟨.aU,_,I.Gb (its':=aq++bI) hH e (by simp) (r.append r2) ?_,rfl,q.at⟩;rw [Ad];omega
 ·exact zd pins s σ H _ _ v us Q I rx rv ⟨l,b,xs,zs,rfl,rfl,hH,hB,hz,q⟩
end
end L2
namespace FL
section
open PySem PySem.Spec PyProof.Rows L2 PL
variable {K:Ab}
section
variable {X:Cx}{elt tg iter:Expr}{ifs:List Expr}{sc:Scope}{N':List Str}{ix:List (Option Nat)}{pos:Pos}{fs:aX}{wl:W (List PV)}{T2:Type}{wt:PV->W T2}{is:List Nat}{dC:T2->aX}{tf:T2->W Bool}{te:T2->W PV}
def Ta {f:PV->W (Option PV)} (hc:X.calm=true) (S:aF X.env.scope X.N sc N' ix) (hi:rE X K fs tg iter wl) (hg:∀cl C s2 H2 fp,GF (gq X sc N' cl C s2 H2 fp) K (bQ ix fs) tg is wt dC) (Xn:∀cl C s2 H2 fp t,FF (gq X sc N' cl C s2 H2 fp) K (dC t) ifs (tf t)) (he:∀cl C s2 H2 fp t,EF (gq X sc N' cl C s2 H2 fp) K (dC t) elt (te t))
  (hf:∀p,f p=.bind (wt p) fun t=>.bind (tf t) fun k=>if k=true then .bind (te t) fun v=>.ret (some v) else .ret none) (hl:uV is (bQ ix fs) dC/\∀t,jo (dC t) (bQ ix fs)) (uJ:∀j∈is,ix[j]?=some none) (hs:∀x,foldedSetIterable iter X.env x=pure x:=by intro _;rfl) :
  LF X K fs (.ListComp elt [⟨tg,iter,ifs,0⟩] sc pos) (.bind wl fun l=>ku l f):=
 ⟨PE.imp (Wk hc S hi.p (fun cl C s2 H2 fp=>(hg cl C s2 H2 fp).p) (fun cl C s2 H2 fp pins s σ H Q I ⟨t,q⟩=>(Xn cl C s2 H2 fp t).p pins s σ H Q I q) (fun cl C s2 H2 fp pins s σ H Q I ⟨t,q⟩=>(he cl C s2 H2 fp t).p pins s σ H Q I q) hs) (MD S rfl hf hl.1 hl.2 uJ)⟩
def Q6 {f:PV->W PV} (hc:X.calm=true) (S:aF X.env.scope X.N sc N' ix) (hi:rE X K fs tg iter wl) (hg:∀cl C s2 H2 fp,GF (gq X sc N' cl C s2 H2 fp) K (bQ ix fs) tg is wt dC) (he:∀cl C s2 H2 fp t,EF (gq X sc N' cl C s2 H2 fp) K (dC t) elt (te t))
  (hf:∀p,f p=.bind (wt p) te) (hl:uV is (bQ ix fs) dC/\∀t,jo (dC t) (bQ ix fs)) (uJ:∀j∈is,ix[j]?=some none) (hs:∀x,foldedSetIterable iter X.env x=pure x:=by intro _;rfl) :
  LF X K fs (.ListComp elt [⟨tg,iter,[],0⟩] sc pos) (.bind wl fun l=>dh l f):=by
 have:(fun l=>dh l f)=fun l=>ku l fun p=>.bind (wt p) fun t=>.bind (.ret true) fun k=>if k=true then .bind (te t) fun v=>.ret (some v) else .ret none:=funext fun l=>by
  rw [wV];congr 1;funext p;rw [hf];rfl
 rw [this];exact Ta (tf:=fun _=>.ret true) hc S hi hg (fun _ _ _ _ _ _=>Mz) he (fun p=>rfl) hl uJ hs
def SF.QW {rest:List Stmt}{T:Type}{out:T->End}{x:Bool}{k:List PV->W T}{f:PV->W (Option PV)}{i:Nat}{y:Str}{px kn:Pos} (hc:X.calm=true) (hN:X.N.Nodup) (Gz:X.N[i]?=some y) (hx:X.env.scope.names.lookup y=some .local) (S:aF X.env.scope X.N sc N' ix) (hi:rE X K fs tg iter wl) (hg:∀cl C s2 H2 fp,GF (gq X sc N' cl C s2 H2 fp) K (bQ ix fs) tg is wt dC) (Xn:∀cl C s2 H2 fp t,FF (gq X sc N' cl C s2 H2 fp) K (dC t) ifs (tf t)) (he:∀cl C s2 H2 fp t,EF (gq X sc N' cl C s2 H2 fp) K (dC t) elt (te t))
  (hf:∀p,f p=.bind (wt p) fun t=>.bind (tf t) fun k=>if k=true then .bind (te t) fun v=>.ret (some v) else .ret none) (hl:uV is (bQ ix fs) dC/\∀t,jo (dC t) (bQ ix fs)) (uJ:∀j∈is,ix[j]?=some none) (hr:∀l,SF X K x (fs.set i (some (.ol none l))) rest (k l) out)
  (sU:swapsWith (.ListComp elt [⟨tg,iter,ifs,0⟩] sc pos) (some (.Name y px)) kn.line X.env=pure true:=by rfl) (hs:∀x,foldedSetIterable iter X.env x=pure x:=by intro _;rfl) :
  SF X K x fs (.Assign [.Name y px] (.ListComp elt [⟨tg,iter,ifs,0⟩] sc pos) kn::rest) (.bind (.bind wl fun l=>ku l f) k) out:=
 SF.step (yW hc hN Gz hx S hi.p (fun cl C s2 H2 fp=>(hg cl C s2 H2 fp).p) (fun cl C s2 H2 fp pins s σ H Q I ⟨t,q⟩=>(Xn cl C s2 H2 fp t).p pins s σ H Q I q) (fun cl C s2 H2 fp pins s σ H Q I ⟨t,q⟩=>(he cl C s2 H2 fp t).p pins s σ H Q I q) sU hs) fun D σ H ⟨sr,q⟩=>
  MD (K:=K) S rfl hf hl.1 hl.2 uJ σ H _ ⟨sr,(W.bind wl fun l=>ku l f).mono (fun l q1 a ws H1 g1 s1 n e v1=>by
   have no:=sr.noOwn n;have s2:=s1.wB (t:=.ol none l) ⟨by simp,ws,e,v1⟩ no i;exact⟨_,k l,hr l,s2,(k l).mono (fun t q2=>q2.go (cE.wB s1 g1.f no n i) sr s2) q1⟩) q⟩
theorem w4:∀{l:aX}{i:Nat} (s:Option SL),l[i]?=some none->jo (l.set i s) l
 | [],_,_,h=>by simp at h
 | x::l,0,s,h=>by
  simp at h;subst h;exact .drop (jo.refl l)
 | x::l,i+1,s,h=>by
  rw [List.set_cons_succ];exact .keep (w4 s (by simpa using h))
def jo.trans {a b c:aX} (h1:jo a b) (h2:jo b c):jo a c:=by
 induction h1 generalizing c with
 | nil=>exact h2
 | drop h ih=>cases h2 with | drop h2=>exact .drop (ih h2) | keep h2=>exact .drop (ih h2)
 | keep h ih=>cases h2 with | drop h2=>exact .drop (ih h2) | keep h2=>exact .keep (ih h2)
def sM {lW l:aX}{is:List Nat}{i:Nat}{v:PV} (hl:l.length=lW.length/\∀(j:Nat) (s:SL),l[j]?=some (some s)->(j∈is/\s.own=false)\/(j∉is/\lW[j]?=some (some s))) (hi:lW[i]?=some none) :
  (l.set i (some (.val v))).length=lW.length/\∀(j:Nat) (s:SL),(l.set i (some (.val v)))[j]?=some (some s)->(j∈is++[i]/\s.own=false)\/(j∉is++[i]/\lW[j]?=some (some s)):=by
 refine⟨by rw [BR];exact hl.1,fun j s e=>?_⟩;rcases aY e with⟨rfl,rfl⟩ | ⟨n,e⟩
 ·exact .inl ⟨by simp,rfl⟩
 ·rcases hl.2 j s e with⟨h1,h2⟩ | ⟨h1,h2⟩
  ·exact .inl ⟨by simp [h1],h2⟩
  ·exact .inr ⟨by simp [h1,n],h2⟩
def Q4 (lW:aX):lW.length=lW.length/\∀(j:Nat) (s:SL),lW[j]?=some (some s)->(j∈([]:List Nat)/\s.own=false)\/(j∉([]:List Nat)/\lW[j]?=some (some s)):=⟨rfl,fun j s e=>.inr ⟨by simp,e⟩⟩
def LV {lW:aX}{i:Nat} (hi:lW[i]?=some none):uV [i] lW (fun p=>lW.set i (some (.val p)))/\∀t,jo (lW.set i (some (.val t))) lW:=⟨fun t=>sM (is:=[]) (Q4 lW) hi,fun t=>w4 _ hi⟩
def KQ {l:aX}{i j:Nat}{s:Option SL} (h:l[j]?=some none) (n:j≠i):(l.set i s)[j]?=some none:=by rw [aD n];exact h
def Pe {lW:aX}{i j:Nat} (hi:lW[i]?=some none) (hj:lW[j]?=some none) (n:j≠i):uV [i,j] lW (fun t:PV×PV=>(lW.set i (some (.val t.1))).set j (some (.val t.2)))/\∀t:PV×PV,jo ((lW.set i (some (.val t.1))).set j (some (.val t.2))) lW:=
 ⟨fun t=>sM (is:=[i]) (sM (is:=[]) (Q4 lW) hi) hj,fun t=>(w4 _ (KQ hj n)).trans (w4 _ hi)⟩
end
section
variable {X:Cx}{e:Expr}{rest:List Stmt}{pos p apos bD fM:Pos}{fs:aX}{T:Type}{out:T->End}{x:Bool}{we wi:W PV}{wl:W (List PV)}{q0:Option Addr}{l:List PV}{y:Str}
def cQ {σ:L2.St}{H:Hp}{i:Nat} (sr:aR K H σ fs) (hs:fs[i]?=some (some (.ol q0 l))):∃a ws,σ[i]?=some (some (.ref a))/\H a=some (.lst ws)/\aK K [] H ws l:=by
 obtain⟨u,e1,r⟩:=sr.at' i _ hs;rcases r with⟨v,e,_⟩ | ⟨a,e,z,ws,q1,q2⟩
 ·cases e
 ·subst e;exact⟨a,ws,e1,q1,q2⟩
def jz {σ:L2.St}{H H':Hp}{i:Nat}{a:Addr}{rH:List V}{l':List PV} (sr:aR K H σ fs) (hs:fs[i]?=some (some (.ol q0 l))) (e1:σ[i]?=some (some (.ref a))) (sx:qd a H H') (h':H' a=some (.lst rH)) (r:aK K [] H rH l'):aR K H' σ (fs.set i (some (.ol q0 l')))/\cE σ fs H σ (fs.set i (some (.ol q0 l'))) H':=
 sd (t':=.ol q0 l') sr hs rfl (by simp) e1 sx fun tk=>⟨(sr.ownAt hs rfl e1).1,rH,h',aK.tk tk r⟩
def j8 (l:List PV) (v:PV):W (List PV):=.gF (l.length < sizeLine) (.ret (l++[v]))
theorem SF.append (i:Nat) {k:List PV->W T} (hs:fs[i]?=some (some (.ol q0 l))) (hK:X.K=K) (hN:X.N[i]?=some y) (hv:FG X.env.scope y) (he:EF X K fs e we) (hr:∀l',SF X K x (fs.set i (some (.ol q0 l'))) rest (k l') out)
  (hd:(y==("__debug__":Str))=false:=by decide) (ko:(y==("__classdict__":Str))=false:=by decide) (fW:attributeBase (.Name y p) "append" X.env (eval (.Name y p) X.env)=eval (.Name y p) X.env:=by rfl)
  (sY:((backTo bD (starEach [e] X.env)).all (fun x=>!x.1)&&(backToKw bD (keywordEach [] X.env)).all (fun x=>x.1.isSome)
   && decide ([e].length+([]:List Keyword).length+(if ([]:List Keyword).isEmpty then 0 else 1) < 30))=true:=by rfl)
  (fV:(apos.endLine==bD.line)=true:=by rfl) (zD:starEach [e] X.env=(false,eval e X.env)::starEach [] X.env:=by rfl) (hJ:(backTo bD (starEach [] X.env)).any (·.1)=false:=by rfl)
  (sU:swapsWith (.Call (.Attribute (.Name y p) "append" apos) [e] [] bD) none pos.line X.env=pure false:=by rfl) :
  SF X K x fs (.Expr (.Call (.Attribute (.Name y p) "append" apos) [e] [] bD) pos::rest) (.bind we fun v=>.bind (j8 l v) k) out:=
 SF.step (nu (wL K hK BM DU DT sA (eT hN hv hd ko) (bF he.p cX zD) fW sY fV zD hJ) sU) fun D σ H ⟨sr,q⟩=>by
  obtain⟨a,ws,e1,h1,r1⟩:=cQ sr hs;refine⟨_,e1,.inl ⟨rfl,_,cT.of h1⟩,sr,we.mono (fun v q1 u H1 g1 s1 v1=>?_) q⟩;obtain⟨a',rH,pJ,jF,Hx⟩:=cQ s1 hs;rw [e1] at pJ;cases pJ;refine⟨a,rH,u,rfl,rfl,jF,by rw [Hx.length];exact q1.1,fun H2 sx h2=>?_⟩;obtain⟨s2,g2⟩:=jz s1 hs e1 sx h2 (Hx.append (.one v1));exact⟨_,k _,hr _,s2,(k _).mono (fun t q2=>q2.go (g1.f.trans g2) sr s2) q1.2⟩
def xC (l m:List PV):W (List PV):=.gF (l.length+m.length<=sizeLine) (.ret (l++m))
theorem SF.extend (i:Nat) {k:List PV->W T} (hs:fs[i]?=some (some (.ol q0 l))) (hK:X.K=K) (hN:X.N[i]?=some y) (hv:FG X.env.scope y) (he:QF X K fs e wl) (hr:∀l',SF X K x (fs.set i (some (.ol q0 l'))) rest (k l') out)
  (hd:(y==("__debug__":Str))=false:=by decide) (ko:(y==("__classdict__":Str))=false:=by decide) (fW:attributeBase (.Name y p) "extend" X.env (eval (.Name y p) X.env)=eval (.Name y p) X.env:=by rfl)
  (sY:((backTo bD (starEach [e] X.env)).all (fun x=>!x.1)&&(backToKw bD (keywordEach [] X.env)).all (fun x=>x.1.isSome)
   && decide ([e].length+([]:List Keyword).length+(if ([]:List Keyword).isEmpty then 0 else 1) < 30))=true:=by rfl)
  (fV:(apos.endLine==bD.line)=true:=by rfl) (zD:starEach [e] X.env=(false,eval e X.env)::starEach [] X.env:=by rfl) (hJ:(backTo bD (starEach [] X.env)).any (·.1)=false:=by rfl)
  (sU:swapsWith (.Call (.Attribute (.Name y p) "extend" apos) [e] [] bD) none pos.line X.env=pure false:=by rfl) :
  SF X K x fs (.Expr (.Call (.Attribute (.Name y p) "extend" apos) [e] [] bD) pos::rest) (.bind wl fun m=>.bind (xC l m) k) out:=
 SF.step (nu (wL K hK BM PySem.F.slot_list_extend PySem.F.type_list_extend (O6 K hK) (eT hN hv hd ko) (bF he.p cX zD) fW sY fV zD hJ) sU) fun D σ H ⟨sr,q⟩=>by
  obtain⟨a,ws,e1,h1,r1⟩:=cQ sr hs;refine⟨_,e1,.inl ⟨rfl,_,cT.of h1⟩,sr,wl.mono (fun m q1 u H1 g1 s1 v1=>?_) q⟩;obtain⟨a',rH,pJ,jF,Hx⟩:=cQ s1 hs;rw [e1] at pJ;cases pJ;obtain⟨b,zs,rfl,hb,rb⟩:=v1.sq s1;refine⟨a,b,rH,zs,rfl,rfl,jF,hb,by rw [Hx.length,rb.length];exact q1.1,fun H2 sx h2=>?_⟩;obtain⟨s2,g2⟩:=jz s1 hs e1 sx h2 (Hx.append rb);exact⟨_,k _,hr _,s2,(k _).mono (fun t q2=>q2.go (g1.f.trans g2) sr s2) q1.2⟩
def wH (l:List PV):W (List PV×PV):=match l.getLast? with
 | some v=>.ret (l.dropLast,v)
 | none=>.fail
def KN {l:List PV}{v:PV} (h:l.getLast?=some v):l=l.dropLast++[v]:=by
 rw [List.getLast?_eq_some_iff] at h;obtain⟨ys,rfl⟩:=h;simp
theorem aK.snoc {H:Hp}:∀{ws:List V}{l:List PV}{v:PV},aK K [] H ws (l++[v])->∃UK u,ws=UK++[u]/\aK K [] H UK l/\VR K [] H u v
 | _,[],_,.cons r .nil=>⟨[],_,rfl,.nil,r⟩
 | _,x::l,v,.cons r t=>by
  obtain⟨UK,u,rfl,h1,h2⟩:=aK.snoc t;exact⟨_::UK,u,rfl,.cons r h1,h2⟩
def SF.wI (i j:Nat) {z:Str}{p':Pos}{k:List PV×PV->W T} (hs:fs[i]?=some (some (.ol q0 l))) (hij:j≠i) (hK:X.K=K) (hN:X.N[i]?=some y) (hv:FG X.env.scope y) (hNd:X.N.Nodup) (hj:X.N[j]?=some z) (hx:Loc X.env.scope z) (hr:∀t:List PV×PV,SF X K x ((fs.set i (some (.ol q0 t.1))).set j (some (.val t.2))) rest (k t) out)
  (hd:(y==("__debug__":Str))=false:=by decide) (ko:(y==("__classdict__":Str))=false:=by decide) (fW:attributeBase (.Name y p) "pop" X.env (eval (.Name y p) X.env)=eval (.Name y p) X.env:=by rfl) (fV:(apos.endLine==bD.line)=true:=by rfl)
  (sU:swapsWith (.Call (.Attribute (.Name y p) "pop" apos) [] [] bD) (some (.Name z p')) pos.line X.env=pure false:=by rfl) (hf:X.fn z=true\/X.env.scope.names.lookup z=some .local:=by first | exact .inl rfl | exact .inr rfl | assumption) :
  SF X K x fs (.Assign [.Name z p'] (.Call (.Attribute (.Name y p) "pop" apos) [] [] bD) pos::rest) (.bind (wH l) k) out:=
 SF.step (wD hNd hj hx (OK K hK BM PySem.F.slot_list_pop PySem.F.type_list_pop O5 (eT hN hv hd ko) fW fV) sU hf) fun D σ H ⟨sr,q⟩=>by
  obtain⟨a,ws,e1,h1,r1⟩:=cQ sr hs;have q:(wH l).run fun t=>(k t).run fun t=>bT K x σ fs H D (out t):=q;unfold wH at q;cases hl:l.getLast? with
  | none=>rw [hl] at q;exact q.elim
  | some v=>
   rw [hl] at q;have el:=KN hl;rw [el] at r1;obtain⟨UK,u,rfl,r0,ru⟩:=aK.snoc r1;refine⟨_,e1,.inl ⟨rfl,_,cT.of h1⟩,a,UK,u,rfl,rfl,h1,fun H2 sx h2=>?_⟩;obtain⟨s2,g2⟩:=jz sr hs e1 sx h2 r0;have ru2:VR K [] H2 u v:=g2.vr sr ru;have s3:=s2.dI ru2 j;exact⟨_,k _,hr (l.dropLast,v),s3,(k _).mono (fun t q2=>q2.go (g2.trans (cE.dI s2 _ _ j)) sr s3) q⟩
def iX (l:List PV) (i v:PV):W (List PV):=match i with
 | .int k=>match pW l.length k with
  | some j=>.ret (l.set j v)
  | none=>.fail
 | _=>.fail
def SF.KR (i:Nat) {ei:Expr}{k:List PV->W T} (hs:fs[i]?=some (some (.ol q0 l))) (hN:X.N[i]?=some y) (hv:FG X.env.scope y) (he:EF X K fs e we) (hi:EF X K fs ei wi) (hr:∀l',SF X K x (fs.set i (some (.ol q0 l'))) rest (k l') out)
  (ha:∀v,assign (.Subscript (.Name y p) ei fM) X.env v=(do
   let ov <- holding [v] (eval (.Name y p) X.env)
   let iv <- holding [v,ov] (eval ei X.env)
   standAt fM
   holding [v,ov,iv] (setItem ov iv v)
   release [v,ov,iv] []):=by intro _;rfl)
  (hd:(y==("__debug__":Str))=false:=by decide) (ko:(y==("__classdict__":Str))=false:=by decide) (Xb:swapsWithSole [.Subscript (.Name y p) ei fM] e pos.line X.env=pure false:=by rfl) (hw:swappedStores [.Subscript (.Name y p) ei fM] e X.env=pure none:=by rfl)
  (h1:(assignEach [.Subscript (.Name y p) ei fM] X.env).map (·.2)=[assign (.Subscript (.Name y p) ei fM) X.env]:=by rfl) :
  SF X K x fs (.Assign [.Subscript (.Name y p) ei fM] e pos::rest) (.bind we fun v=>.bind wi fun n=>.bind (iX l n v) k) out:=
 SF.step (wG he.p (Lk (eT hN hv hd ko) hi.p oQ ha) Xb hw h1) fun D σ H ⟨sr,q⟩=>by
  refine⟨sr,we.mono (fun v q1 u H1 g1 s1 v1=>?_) q⟩;obtain⟨a,ws,e1,h1,r1⟩:=cQ s1 hs;refine⟨_,e1,s1,wi.mono (fun n q2 u2 H2 g2 s2 v2=>?_) q1⟩;obtain⟨a',rH,pJ,jF,Hx⟩:=cQ s2 hs;rw [e1] at pJ;cases pJ;cases v2 with
  | int kk=>
   have q2:(match pW l.length kk with | some j=>W.ret (l.set j v) | none=>W.fail).run _:=q2;cases hj:pW l.length kk with
   | none=>rw [hj] at q2;exact q2.elim
   | some j=>
    rw [hj] at q2;refine⟨a,rH,kk,j,rfl,rfl,jF,by rw [Hx.length];exact hj,fun H3 sx h3=>?_⟩;obtain⟨s3,g3⟩:=jz s2 hs e1 sx h3 (Hx.set (g2.vr s1 v1) j);exact⟨_,k _,hr _,s3,(k _).mono (fun t q3=>q3.go ((g1.trans g2).f.trans g3) sr s3) q2⟩
  | _=>exact q2.elim
end
end
section
open PySem PySem.Spec PyProof.Rows L2 PL
variable {K:Ab}
def hV:List AK->List PV->aX
 | [],_=>[]
 | .v::ks,x::l=>some (.val x)::hV ks l
 | .v::_,[]=>[]
 | .p φ::ks,l=>some (.gI φ)::hV ks l
 | .f a::ks,l=>some (.adr a)::hV ks l
def tU (ks:List AK) (l:List PV) (n:Nat):aX:=hV ks l++Ak (n-ks.length) none
def yn (ks:List AK):Prop:=∀i j:Nat,(∃φ,ks[i]?=some (.p φ))->(∃φ,ks[j]?=some (.p φ))->i=j
theorem jr {R:Type}:∀{n:Nat}{m:NS R n}{l:List PV}{Q:R->Prop},(dY n m l).run Q->l.length=n
 | 0,_,[],_,_=>rfl
 | 0,_,_::_,_,h=>h.elim
 | n+1,_,[],_,h=>h.elim
 | n+1,m,x::l,Q,h=>by rw [Ar,jr (n:=n) (m:=m x) h]
section
variable {H H':Hp}{vs:List V}{ks:List AK}{l:List PV}
def iT.len (h:iT K H vs ks l):vs.length=ks.length:=by induction h <;> simp_all
def iT.slot (h:iT K H vs ks l):(hV ks l).length=vs.length/\∀(i:Nat) (s:SL),(hV ks l)[i]?=some (some s)->∃u,vs[i]?=some u/\vM K H u s/\(s.own=true->∃φ,s=.gI φ/\ks[i]?=some (.p φ)):=by
 induction h with
 | nil=>exact⟨rfl,fun i s e=>by simp [hV] at e⟩
 | @v u x vs ks l r t ih=>
  refine⟨by simp [hV,ih.1],fun i s e=>?_⟩;cases i with
  | zero=>simp [hV] at e;subst e;exact⟨u,rfl,.inl ⟨x,rfl,r⟩,fun z=>by cases z⟩
  | succ i=>simp [hV] at e;obtain⟨w,h1,h2,h3⟩:=ih.2 i s e;exact⟨w,by simpa using h1,h2,by simpa using h3⟩
 | @p a φ ws vs ks l e0 r t ih=>
  refine⟨by simp [hV,ih.1],fun i s e=>?_⟩;cases i with
  | zero=>simp [hV] at e;subst e;exact⟨_,rfl,.inr ⟨a,rfl,ws,e0,r⟩,fun _=>⟨φ,rfl,rfl⟩⟩
  | succ i=>simp [hV] at e;obtain⟨w,h1,h2,h3⟩:=ih.2 i s e;exact⟨w,by simpa using h1,h2,by simpa using h3⟩
 | @f a vs ks l t ih=>
  refine⟨by simp [hV,ih.1],fun i s e=>?_⟩;cases i with
  | zero=>simp [hV] at e;subst e;exact⟨_,rfl,.inr ⟨a,rfl,rfl⟩,fun z=>by cases z⟩
  | succ i=>simp [hV] at e;obtain⟨w,h1,h2,h3⟩:=ih.2 i s e;exact⟨w,by simpa using h1,h2,by simpa using h3⟩
def iT.Sq (h:iT K H vs ks l) {i:Nat}{φ:List V->Prop} (e:ks[i]?=some (.p φ)):(hV ks l)[i]?=some (some (.gI φ)):=by
 induction h generalizing i with
 | nil=>simp at e
 | v r t ih=>cases i with | zero=>simp at e | succ i=>simp [hV];exact ih (by simpa using e)
 | p e0 r t ih=>cases i with | zero=>simp at e;subst e;rfl | succ i=>simp [hV];exact ih (by simpa using e)
 | f t ih=>cases i with | zero=>simp at e | succ i=>simp [hV];exact ih (by simpa using e)
def om {n i:Nat}{s:SL} (h:(tU ks l n)[i]?=some (some s)):(hV ks l)[i]?=some (some s):=by
 unfold tU at h;by_cases c:i < (hV ks l).length
 ·rw [Ay c] at h;exact h
 ·rw [Ax (by omega),Bk] at h
  split at h <;> cases h
def lK {N:List Str}{i:Nat}{u:V} (h:vs[i]?=some u):(L2.start N vs)[i]?=some (some u):=by
 unfold L2.start;rw [Ay (by rw [Af];exact (Aj.mp h).1),Ai,h];rfl
def u4 {N:List Str}{i:Nat}{u:V} (h:(L2.start N vs)[i]?=some (some u)):vs[i]?=some u:=by
 unfold L2.start at h;by_cases c:i < vs.length
 ·rw [Ay (by simpa using c),Ai] at h;cases z:vs[i]? with
  | none=>rw [z] at h;cases h
  | some q=>rw [z] at h;cases h;rfl
 ·rw [Ax (by simpa using c),Bk] at h
  split at h <;> cases h
def iT.beg (h:iT K H vs ks l) (one:yn ks) (N:List Str):aR K H (L2.start N vs) (tU ks l N.length):=by
 obtain⟨hl,hs⟩:=h.slot;refine⟨?_,fun i s e=>?_,fun i j s t x y a e1 e2 o1 o2 q1 q2 z1 z2=>?_⟩
 ·unfold L2.start tU;rw [Ad,Ad,Af,hl,A2,A2,h.len]
 ·obtain⟨u,h1,h2,_⟩:=hs i s (om e);exact⟨u,lK h1,h2⟩
 ·obtain⟨_,_,_,h3⟩:=hs i s (om e1);obtain⟨_,_,_,h4⟩:=hs j t (om e2);obtain⟨φ,_,k1⟩:=h3 o1;obtain⟨ψ,_,k2⟩:=h4 o2;exact one i j ⟨φ,k1⟩ ⟨ψ,k2⟩
def iT.go (h:iT K H vs ks l) {N:List Str}{σ':L2.St}{bC:aX} (g:cE (L2.start N vs) (tU ks l N.length) H σ' bC H') (s':aR K H' σ' bC):Ym vs ks H H':=by
 obtain⟨hl,hs⟩:=h.slot;refine⟨fun a o e n=>(g.keep a o e fun z=>?_).1,g.there,fun a φ p=>?_⟩
 ·obtain⟨i,s,x,e1,e2,e3,e4⟩:=z;obtain⟨u,h1,h2,h3⟩:=hs i s (om e1);obtain⟨φ,rfl,k⟩:=h3 e2;rcases e4 with rfl | e4
  ·exact n φ ⟨i,k,u4 e3⟩
  ·cases e4
 ·obtain⟨i,e1,e2⟩:=p;have e3:=h.Sq e1;have hi:i < (hV ks l).length:=(Aj.mp e3).1;have e4:(tU ks l N.length)[i]?=some (some (.gI φ)):=by unfold tU;rw [Ay hi];exact e3
  rcases g.pk a φ ⟨i,e4,lK e2⟩ with⟨j,k1,k2⟩ | ⟨_,k⟩
  ·exact s'.ownAt k1 rfl k2
  ·exact k
end
section
variable {P:Program}{w:World}{mg:Str->Option Value}{base:Heap}{x qual:Str}{st:Stmt}{f:Addr}{fd:FuncData}{N ps:List Str}{k n:Nat}{ks:List AK}
def Y2 {m:NS PV n} (Fn:NR K x qual st f fd) (S:ay N ps (aj st)) (TJ:ks.length=ps.length) (one:yn ks)
  (cert:∀l:List PV,l.length=n->∀(fZ:Value) (A:Around) (outer:List Env) (s:Shared) (H:Hp) (E:XK),fD k (A.deeper (envOfC qual (aj st) s.heap.objs.size f fZ))->SF (tR qR P w K mg base N qual (aj st) f fZ A outer s H E).O3 K false (tU ks l N.length) (du st) (dY n m l) .rt) :
  gH P w K mg base qR (k+1) f fd ps (kG K ks (dY n m)):=by
 refine Fn.ok S (fun vs H Q E h=>?_) (fun fZ A outer s H vs Q E hr h=>?_)
 ·obtain⟨l,h,_⟩:=h;rw [h.len];exact TJ
 obtain⟨l,h,q⟩:=h;refine⟨_,(cert l (jr q) fZ A outer s H E hr).p,h.beg one N,(dY n m l).mono (fun v q1 u σ' bC H' g s' r=>q1 u H' (h.go g s') r) q⟩
def fnL {m:NS (List PV) n} (Fn:NR K x qual st f fd) (S:ay N ps (aj st)) (TJ:ks.length=ps.length) (one:yn ks)
  (cert:∀l:List PV,l.length=n->∀(fZ:Value) (A:Around) (outer:List Env) (s:Shared) (H:Hp) (E:XK),fD k (A.deeper (envOfC qual (aj st) s.heap.objs.size f fZ))->SF (tR qR P w K mg base N qual (aj st) f fZ A outer s H E).O3 K false (tU ks l N.length) (du st) (dY n m l) .rl) :
  gH P w K mg base qR (k+1) f fd ps (iV K ks (dY n m)):=by
 refine Fn.ok S (fun vs H Q E h=>?_) (fun fZ A outer s H vs Q E hr h=>?_)
 ·obtain⟨l,h,_⟩:=h;rw [h.len];exact TJ
 obtain⟨l,h,q⟩:=h;have sr:=h.beg one N;refine⟨_,(cert l (jr q) fZ A outer s H E hr).p,sr,(dY n m l).mono (fun z q1 a ws σ' bC H' g s' fr e r=>q1 a ws H' (h.go g s') ?_ e r) q⟩;rcases fr with fr | ⟨i,t,x,e1,e2,np,e3,e4⟩
 ·exact fr
 ·obtain⟨_,_,_,h3⟩:=h.slot.2 i t (om e1);obtain⟨φ,e,_⟩:=h3 e2;exact absurd e (np φ)
end
def lM:yn []:=fun i j ⟨_,h⟩=>by simp at h
def sg {ks:List AK} (h:yn ks):yn (.v::ks):=fun i j ⟨φ,a⟩ ⟨ψ,b⟩=>by
 cases i with
 | zero=>simp at a
 | succ i=>
  cases j with
  | zero=>simp at b
  | succ j=>rw [h i j ⟨φ,by simpa using a⟩ ⟨ψ,by simpa using b⟩]
def gW {n:Nat}{φ:List V->Prop}:yn (.p φ::Ak n .v):=fun i j ⟨χ,a⟩ ⟨ψ,b⟩=>by
 have z:∀{i:Nat}{χ:List V->Prop},(AK.p φ::Ak n .v)[i]?=some (.p χ)->i=0:=fun {i χ} a=>by
  cases i with
  | zero=>rfl
  | succ i=>
   have a:(Ak n AK.v)[i]?=some (.p χ):=by simpa using a
   rw [Bk] at a
   split at a <;> simp at a
 rw [z a,z b]
end
end FL
namespace L2
section
open PySem PySem.Spec PyProof.Rows
variable {X:Cx}
def V9 (K:Ab):R2:=fun x y H Q=>∃a b xs zs,x=.ref a/\y=.ref b/\cT K H a xs/\cT K H b zs/\xs.length+zs.length<=sizeLine/\mE H (.lst (xs++zs)) Q
def OT (K:Ab) (hK:X.K=K):jm X (binaryOp .Add) (V9 K):=by
 subst hK;intro pins s σ H x y v u Q I rx ry h;obtain⟨l,b,xs,zs,rfl,rfl,hH,hB,hz,q⟩:=h;cases rx;cases ry;obtain⟨aq,r,⟨⟨cls,dd,data,sl⟩,n,ho,hc,hd,nS⟩,_⟩:=I.list hH;obtain⟨bI,r2,⟨⟨X6,X4,data2,UN⟩,n2,NK,Rm,hd2,Rj⟩,_⟩:=I.list hB;simp only at hc hd nS Rm hd2 Rj;subst hc hd nS Rm hd2 Rj;have e:aq.toArray++bI.toArray=(aq++bI).toArray:=by simp
 have hl:=r.length;have NL:=r2.length;refine concat_meets ⟨_,ho,rfl⟩ ⟨_,NK,rfl⟩ noFill_list_add seq_list_add PySem.F.slot_list_add PySem.F.entry_list_add (PySem.F.args_list_add_2 _ _) (list_addW l b aq.toArray bI.toArray n n2 none none sl UN (by simp;omega)) ⟨ho,NK,?_⟩;rw [e];exact⟨.ref _,_,I.S6 (t':=s.toks) (r.append r2) (by rw [Ad];omega),rfl,q.at _ I.fresh⟩
end
end L2
namespace FL
section
open PySem PySem.Spec PyProof.Rows L2 PL
variable {K:Ab}
section
variable {X:Cx}{a b c e o:Expr}{pos p p1 p2 p3 p4:Pos}{fs:aX}{w wa wb:W PV}{wl wm:W (List PV)}
def GO (l m:List PV):W (List PV):=.gF (l.length+m.length<=sizeLine) (.ret (l++m))
def fQL (K:Ab) (fs:aX) (w:W (List PV)):TE:=fun σ H Q=>aR K H σ fs/\w.run fun l=>∀u H',cL σ fs H H'->aR K H' σ fs->QB K σ fs H' u l->(∀Zt,cL σ fs H' Zt->aR K Zt σ fs->∃a vs,u=.ref a/\cT K Zt a vs/\aK K [] Zt vs l)->Q u H'
structure Hb (X:Cx) (K:Ab) (fs:aX) (e:Expr) (w:W (List PV)):Prop where p:PE X e (fQL K fs w)
def ef (h:LF X K fs e wl):Hb X K fs e wl:=⟨PE.imp h.p fun σ H Q ⟨sr,q⟩=>⟨sr,wl.mono (fun l q1 a vs H1 g1 s1 n e v=>q1 _ H1 g1 s1 (.inr ⟨a,rfl,.inl ⟨sr.noOwn n,vs,e,v⟩⟩) fun H2 g2 s2=>⟨a,vs,rfl,cT.of (g2.pU e (sr.noOwn n)),g2.Kc s1 v⟩) q⟩⟩
def wA (i:Nat) {x:Str}{q0:Option Addr}{l:List PV} (hs:fs[i]?=some (some (.ol q0 l)):=by rfl) (hN:X.N[i]?=some x:=by rfl) (hv:FG X.env.scope x:=by first | exact CU rfl | exact Cz (CU rfl) | exact Cz (Cz rfl)) (hd:(x==("__debug__":Str))=false:=by decide) (ko:(x==("__classdict__":Str))=false:=by decide):Hb X K fs (.Name x pos) (.ret l):=
 ⟨PE.imp (eT hN hv hd ko) fun σ H Q ⟨sr,q⟩=>by
  obtain⟨a,ws,e1,h1,r1⟩:=cQ sr hs;refine⟨_,e1,q _ H .refl sr (.inr ⟨a,rfl,.inr ⟨i,q0,hs,e1⟩⟩) fun H2 g2 s2=>?_⟩;obtain⟨a',rH,pJ,jF,Hx⟩:=cQ s2 hs;rw [e1] at pJ;cases pJ;exact⟨a,rH,rfl,cT.of jF,Hx⟩⟩
def O8:PV->W (List PV)
 | .cl l=>.ret l
 | _=>.fail
def Sk (h:EF X K fs e w):Hb X K fs e (.bind w O8):=⟨PE.imp h.p fun σ H Q ⟨sr,q⟩=>⟨sr,w.mono (fun x q1 u1 H1 g1 s1 v1=>by
 cases v1 with
 | cl e r=>exact q1 _ H1 g1 s1 (.inl ⟨_,_,rfl,.inl e,r⟩) fun H2 g2 s2=>⟨_,_,rfl,((g2.eJ s1).f _ _ e).sq,g2.Kc s1 r⟩
 | _=>exact q1.elim) q⟩⟩
def HL (hK:X.K=K) (ha:Hb X K fs a wl) (hb:Hb X K fs b wm):LF X K fs (.BinOp a .Add b pos) (.bind wl fun l=>.bind wm fun m=>GO l m):=⟨PE.imp (HA (OT K hK) ha.p hb.p) fun σ H Q ⟨sr,q⟩=>⟨sr,wl.mono (fun l q1 u1 H1 g1 s1 _ v1=>⟨s1,wm.mono (fun m q2 u2 H2 g2 s2 _ v2=>by
 obtain⟨a,vs,rfl,h1,r1⟩:=v1 H2 g2 s2;obtain⟨b,ws,rfl,h2,r2⟩:=v2 H2 .refl s2;refine⟨a,b,vs,ws,rfl,rfl,h1,h2,by rw [r1.length,r2.length];exact q2.1,fun p H3 s3 h3 n3=>?_⟩;have gg:=g1.trans g2;exact q2.2 p _ H3 (gg.trans (cL.same s3)) (s2.same s3) (gg.there p n3) h3 (aK.tk s3.fc (r1.append r2))) q1⟩) q⟩⟩
def LI {σ:L2.St}{H H1:Hp}{Q:VK}{vs:List V}{l:List PV} (g1:cL σ fs H H1) (s1:aR K H1 σ fs) (r:aK K [] H1 vs l) (q:∀a vs H',cL σ fs H H'->aR K H' σ fs->H a=none->H' a=some (.lst vs)->aK K [] H' vs l->Q (.ref a) H'):mE H1 (.lst vs) Q:=fun p H2 s2 h2 n2=>q p vs H2 (g1.trans (cL.same s2)) (s1.same s2) (g1.there p n2) h2 (aK.tk s2.fc r)
def LR (K:Ab):CL K (K5 K) .ret:=fun {fs σ H Q u l} s v q=>by
 obtain⟨a,vs,rfl,h,rs⟩:=v.sq s;exact⟨a,vs,rfl,h,LI .refl s rs q⟩
def S9 (hK:X.K=K) (hg:Gl X "list") (hm:X.mg "list"=none) (ha:QF X K fs e wl) (he:starEach [e] X.env=(false,eval e X.env)::starEach [] X.env:=by rfl) (eO:(backTo pos (starEach [] X.env)).any (·.1)=false:=by rfl):LF X K fs (.Call (.Name "list" p) [e] [] pos) wl:=L0 (m:=.ret) (GQ K hK) (LR K) hg hm boot_list ha (by decide) (by decide) he eO
def eV (hK:X.K=K) (hg:Gl X "tuple") (hm:X.mg "tuple"=none) (ha:QF X K fs e wl) (he:starEach [e] X.env=(false,eval e X.env)::starEach [] X.env:=by rfl) (eO:(backTo pos (starEach [] X.env)).any (·.1)=false:=by rfl):EF X K fs (.Call (.Name "tuple" p) [e] [] pos) (.bind wl ng):=JS (JZ K hK) (N2 K) hg hm boot_tuple ha (by decide) (by decide) he eO
def pH (hK:X.K=K) (hg:Gl X "len") (hm:X.mg "len"=none) (ha:QF X K fs e wl) (he:starEach [e] X.env=(false,eval e X.env)::starEach [] X.env:=by rfl) (eO:(backTo pos (starEach [] X.env)).any (·.1)=false:=by rfl):EF X K fs (.Call (.Name "len" p) [e] [] pos) (.bind wl qJ):=M5 (vF K hK) (Pb K) hg hm boot_len ha (by decide) (by decide) he eO
def Ny {R:Type} (ha:EF X K fs e w) (he:starEach [e] X.env=(false,eval e X.env)::starEach [] X.env):AF X K fs [e] (Ak 1 .v) (R:=R) (fun k=>.bind w fun x=>k [x]):=af ha ak he
def eH (hK:X.K=K) (hg:Gl X "len") (hm:X.mg "len"=none) (ha:EF X K fs e w) (he:starEach [e] X.env=(false,eval e X.env)::starEach [] X.env:=by rfl) (eO:(backTo pos (starEach [] X.env)).any (·.1)=false:=by rfl):EF X K fs (.Call (.Name "len" p) [e] [] pos) (.bind w fun x=>q8 eZ [x]):=rB (n:=1) (vF K hK) (Qp K) hg hm boot_len (Ny ha he) (by decide) (by decide) he eO
def X2 (hg:Gl X "abs") (hm:X.mg "abs"=none) (ha:EF X K fs e w) (he:starEach [e] X.env=(false,eval e X.env)::starEach [] X.env:=by rfl) (eO:(backTo pos (starEach [] X.env)).any (·.1)=false:=by rfl):EF X K fs (.Call (.Name "abs" p) [e] [] pos) (.bind w fun x=>q8 Np [x]):=rB (n:=1) Nj Qr hg hm boot_abs (Ny ha he) (by decide) (by decide) he eO
def rA (hg:Gl X "int") (hm:X.mg "int"=none) (ha:EF X K fs e w) (he:starEach [e] X.env=(false,eval e X.env)::starEach [] X.env:=by rfl) (eO:(backTo pos (starEach [] X.env)).any (·.1)=false:=by rfl):EF X K fs (.Call (.Name "int" p) [e] [] pos) (.bind w fun x=>q8 tV [x]):=M4 (n:=1) J6 Qq hg hm boot_int (Ny ha he) (by decide) (by decide) he eO
def XW (hc:X.calm=true) (hg:Gl X "max") (hm:X.mg "max"=none) (ha:EF X K fs a wa) (hb:EF X K fs b wb) (he:starEach [a,b] X.env=(false,eval a X.env)::starEach [b] X.env:=by rfl) (Xq:starEach [b] X.env=(false,eval b X.env)::starEach [] X.env:=by rfl) (eO:(backTo pos (starEach [b] X.env)).any (·.1)=false:=by rfl):EF X K fs (.Call (.Name "max" p) [a,b] [] pos) (.bind wa fun x=>.bind wb fun y=>q8 Nn [x,y]):=rB (n:=2) (J1 hc) Qo hg hm boot_max (af ha (af hb ak Xq) he) (by decide) (by decide) he eO
def XU (hc:X.calm=true) (hg:Gl X "min") (hm:X.mg "min"=none) (ha:EF X K fs a wa) (hb:EF X K fs b wb) (he:starEach [a,b] X.env=(false,eval a X.env)::starEach [b] X.env:=by rfl) (Xq:starEach [b] X.env=(false,eval b X.env)::starEach [] X.env:=by rfl) (eO:(backTo pos (starEach [b] X.env)).any (·.1)=false:=by rfl):EF X K fs (.Call (.Name "min" p) [a,b] [] pos) (.bind wa fun x=>.bind wb fun y=>q8 Nm [x,y]):=rB (n:=2) (J0 hc) Qn hg hm boot_min (af ha (af hb ak Xq) he) (by decide) (by decide) he eO
def Q5 (hK:X.K=K) (hc:X.calm=true) (hg1:Gl X "list") (hm1:X.mg "list"=none) (hg2:Gl X "reversed") (UX:X.mg "reversed"=none) (he:Hb X K fs e wl)
  (zE:starEach [.Call (.Name "reversed" p3) [e] [] p4] X.env=(false,eval (.Call (.Name "reversed" p3) [e] [] p4) X.env)::starEach [] X.env:=by rfl) (rh:starEach [e] X.env=(false,eval e X.env)::starEach [] X.env:=by rfl) :
  LF X K fs (.Call (.Name "list" p1) [.Call (.Name "reversed" p3) [e] [] p4] [] p2) (.bind wl fun l=>.ret l.reverse):=⟨PE.imp (FZ K hK hc hg1 hm1 hg2 UX he.p zE rh) fun σ H Q ⟨sr,q⟩=>⟨sr,wl.mono (fun l q1 u1 H1 g1 s1 _ v1=>by
 obtain⟨a,vs,rfl,h1,r1⟩:=v1 H1 .refl s1;exact⟨a,vs,rfl,h1,LI g1 s1 r1.reverse q1⟩) q⟩⟩
def Vc:List PV->W (List Bool)
 | []=>.ret []
 | .bl b::r=>.bind (Vc r) fun l=>.ret (b::l)
 | _=>.fail
theorem xU:∀{l:List PV}{Q:List Bool->Prop},(Vc l).run Q->∃bs:List Bool,l=bs.map PV.bl/\Q bs
 | [],Q,h=>⟨[],rfl,h⟩
 | .bl b::r,Q,h=>by
  obtain⟨bs,e,q⟩:=xU (l:=r) h;exact⟨b::bs,by rw [e];rfl,q⟩
 | .aU::r,Q,h=>h.elim
 | .int _::r,Q,h=>h.elim
 | .str _::r,Q,h=>h.elim
 | .tup _::r,Q,h=>h.elim
 | .ref _::r,Q,h=>h.elim
 | .ty _::r,Q,h=>h.elim
 | .cl _::r,Q,h=>h.elim
@[simp] theorem xV:∀bs:List Bool,Vc (bs.map PV.bl)=.ret bs
 | []=>rfl
 | b::bs=>by
  show W.bind (Vc (bs.map PV.bl)) _=_;rw [xV bs];rfl
def Qw (l:List PV):W PV:=.bind (Vc l) fun bs=>.ret (.bl (bs.all id))
def Nv (l:List PV):W PV:=.bind (Vc l) fun bs=>.ret (.bl (bs.any id))
def X1 (hK:X.K=K) (hc:X.calm=true) (hg:Gl X "all") (hm:X.mg "all"=none) (ha:Hb X K fs e wl) (he:starEach [e] X.env=(false,eval e X.env)::starEach [] X.env:=by rfl) (eO:(backTo pos (starEach [] X.env)).any (·.1)=false:=by rfl):EF X K fs (.Call (.Name "all" p) [e] [] pos) (.bind wl Qw):=⟨PE.imp (gV (J8 K hK hc) hg hm boot_all (bF ha.p cX he) (by decide) (by decide) he eO) fun σ H Q ⟨sr,q⟩=>⟨sr,wl.mono (fun l q1 u1 H1 g1 s1 _ v1=>by
 obtain⟨bs,e,q2⟩:=xU (l:=l) q1;obtain⟨a,vs,rfl,h1,r1⟩:=v1 H1 .refl s1;rw [e] at r1;have:=pM r1;subst this;exact⟨a,bs,rfl,h1,q2 _ H1 g1 s1 (.bl _)⟩) q⟩⟩
def X0 (hK:X.K=K) (hc:X.calm=true) (hg:Gl X "any") (hm:X.mg "any"=none) (ha:Hb X K fs e wl) (he:starEach [e] X.env=(false,eval e X.env)::starEach [] X.env:=by rfl) (eO:(backTo pos (starEach [] X.env)).any (·.1)=false:=by rfl):EF X K fs (.Call (.Name "any" p) [e] [] pos) (.bind wl Nv):=⟨PE.imp (gV (J7 K hK hc) hg hm boot_any (bF ha.p cX he) (by decide) (by decide) he eO) fun σ H Q ⟨sr,q⟩=>⟨sr,wl.mono (fun l q1 u1 H1 g1 s1 _ v1=>by
 obtain⟨bs,e,q2⟩:=xU (l:=l) q1;obtain⟨a,vs,rfl,h1,r1⟩:=v1 H1 .refl s1;rw [e] at r1;have:=pM r1;subst this;exact⟨a,bs,rfl,h1,q2 _ H1 g1 s1 (.bl _)⟩) q⟩⟩
def gb (k:Kd) (x:PV):W PV:=match x with
 | .ref _=>.fail
 | .ty _=>.fail
 | x=>.ret (.bl (k.is x))
def K6 (K:Ab):List V->Hp->VK->Prop:=fun xs H Q=>∃x c t b,xs=[x,.ty c]/\(lY K H x t\/(t=.type "tuple"/\∃a vs,x=.ref a/\da K H a vs)\/(t=.type "list"/\∃a vs,x=.ref a/\cT K H a vs)\/(t=.type "dict"/\∃a,x=.ref a/\IsD H a))/\Bl K t (.type c)=some b/\Q (.bl b) H
def J5 (hK:X.K=K):bS X (.builtin "isinstance") (K6 K):=by
 subst hK;intro pins s σ H xs us Q I r h;obtain⟨x,c,t,b,rfl,ty | ty | ⟨rfl,a,vs,rfl,hL⟩ | ⟨rfl,a,rfl,hD⟩,e,q⟩:=h
 ·exact qb pins s σ H _ us Q I r ⟨x,c,t,b,rfl,ty,e,q⟩
 ·exact J4 X.K rfl pins s σ H _ us Q I r ⟨x,c,t,b,rfl,.inr ty,e,q⟩
 ·obtain⟨u,w,rfl,r1,r2⟩:=vals2 r;cases r1;cases r2;obtain⟨aq,_,⟨o,n,h1,h2,_⟩,_⟩:=I.list hL;exact A3 DJ I.vk ⟨o,h1,h2⟩ e (fun z=>nomatch z) fun tk=>⟨.bl b,H,I.tok _,rfl,q⟩
 ·obtain⟨u,w,rfl,r1,r2⟩:=vals2 r;cases r1;cases r2;have:∃o,s.heap.get? a=some o/\o.cls=.type "dict":=by
   rcases hD with⟨kvs,e⟩ | ⟨kvs,e⟩
   ·obtain⟨_,_,vs,_,o,_,_,h1,h2,_⟩:=zU I.bP e;exact⟨o,h1,h2.1⟩
   ·obtain⟨_,_,xs,_,o,_,_,h1,h2,_⟩:=zT I.bP e;exact⟨o,h1,h2.1⟩
  obtain⟨o,h1,h2⟩:=this;exact A3 DK I.vk ⟨o,h1,h2⟩ e (fun z=>nomatch z) fun tk=>⟨.bl b,H,I.tok _,rfl,q⟩
def fg (hK:X.K=K) (k:Kd) {x:Str} (hg:Gl X "isinstance") (hm:X.mg "isinstance"=none) (ha:EF X K fs a wa) (hgx:Gl X x) (hmx:X.mg x=none) (hv:bootBuiltins x=some (.type k.name)) (hn:x≠"__name__":=by decide) (hd:(x==("__debug__":Str))=false:=by decide)
  (he:starEach [a,.Name x p2] X.env=(false,eval a X.env)::starEach [.Name x p2] X.env:=by rfl) (Xq:starEach [Expr.Name x p2] X.env=(false,eval (.Name x p2) X.env)::starEach [] X.env:=by rfl)
  (eO:(backTo pos (starEach [Expr.Name x p2] X.env)).any (·.1)=false:=by rfl):EF X K fs (.Call (.Name "isinstance" p) [a,.Name x p2] [] pos) (.bind wa (gb k)):=
 ⟨PE.imp (gV (J5 hK) hg hm boot_isinstance (bF ha.p (bF (OL (v:=.ty k.name) hgx hmx hv rfl hn hd) cX Xq) he) (by decide) (by decide) he eO) fun σ H Q ⟨sr,q⟩=>⟨sr,wa.mono (fun x q1 u1 H1 g1 s1 v1=>by
  have fin:∀{t:Value}{y:PV},lY K H1 u1 t->Bl K t (.type k.name)=some (k.is y)->Q (.bl (k.is y)) H1->K6 K [u1,.ty k.name] H1 Q:=fun ty e q=>⟨_,_,_,_,rfl,.inl ty,e,q⟩;show K6 K [u1,.ty k.name] H1 Q;cases v1 with
  | aU=>exact fin (y:=.aU) .aU (by rw [(rg K).1 k];cases k <;> rfl) (q1 _ H1 g1 s1 (.bl _))
  | bl b=>exact fin (.bl b) (Td K b k) (q1 _ H1 g1 s1 (.bl _))
  | int b=>exact fin (.int b) (Pn K b k) (q1 _ H1 g1 s1 (.bl _))
  | str b=>exact fin (.str b) (Pm K b k) (q1 _ H1 g1 s1 (.bl _))
  | ty n=>exact q1.elim
  | ref n=>exact q1.elim
  | @dk a o kvs ks l e k1 r=>exact⟨_,_,_,_,rfl,.inr (.inr (.inr ⟨rfl,_,rfl,.inl ⟨_,.inr ⟨_,e⟩⟩⟩)),(show _=some (k.is (.dv ks l)) by rw [(rg K).2.2 k];cases k <;> rfl),q1 _ H1 g1 s1 (.bl _)⟩
  | @dt a o kvs ks l e k1 r=>exact⟨_,_,_,_,rfl,.inr (.inr (.inr ⟨rfl,_,rfl,.inr ⟨_,.inr ⟨_,e⟩⟩⟩)),(show _=some (k.is (.dv ks l)) by rw [(rg K).2.2 k];cases k <;> rfl),q1 _ H1 g1 s1 (.bl _)⟩
  | @cl p vs l e r=>exact⟨_,_,_,_,rfl,.inr (.inr (.inl ⟨rfl,_,_,rfl,e.sq⟩)),(show _=some (k.is (.cl l)) by rw [(rg K).2.1 k];cases k <;> rfl),q1 _ H1 g1 s1 (.bl _)⟩
  | @tup p vs l e r=>exact⟨_,_,_,_,rfl,.inr (.inl ⟨rfl,_,_,rfl,da.of e⟩),Pl K _ k,q1 _ H1 g1 s1 (.bl _)⟩) q⟩⟩
def yR (l:List PV):PV->W (List PV)
 | .int k=>.gF (-(2 ^ 63)<=k/\k < 2 ^ 63/\l.length*k.toNat<=sizeLine) (.ret (Ak k.toNat l).flatten)
 | _=>.fail
def LY (ha:LF X K fs a wl) (hb:EF X K fs b wb):LF X K fs (.BinOp a .Mult b pos) (.bind wl fun l=>.bind wb fun y=>yR l y):=⟨PE.imp (HA SE ha.p hb.p) fun σ H Q ⟨sr,q⟩=>⟨sr,wl.mono (fun l q1 a vs H1 g1 s1 n e v=>⟨s1,wb.mono (fun y q2 u2 H2 g2 s2 v2=>by
 cases v2 with
 | int k=>
  have no:=sr.noOwn n;have e2:=(g2.pU e no);have r2:=g2.Kc s1 v;refine⟨a,k,vs,rfl,rfl,e2,q2.1.1,q2.1.2.1,by rw [r2.length];exact q2.1.2.2,fun p hp=>?_⟩;have sm:=kJ hp (.lst (Ak k.toNat vs).flatten);have gg:=g1.trans g2;exact q2.2 p _ _ (gg.trans (cL.same sm)) (s2.same sm) (gg.there p hp) aO (aK.tk sm.fc (r2.rep k.toNat))
 | _=>exact q2.elim) q1⟩) q⟩⟩
def part:PV->W (Option Int)
 | .int i=>.ret (some i)
 | _=>.fail
def SR:OF X K fs none (.ret none):=⟨PO.imp OB fun σ H Q ⟨sr,q⟩=>q H .refl sr⟩
def SQ (h:EF X K fs e w):OF X K fs (some e) (.bind w part):=⟨PO.imp (OA h.p) fun σ H Q ⟨sr,q⟩=>⟨sr,w.mono (fun x q1 u1 H1 g1 s1 v1=>by
 cases v1 with
 | int i=>exact⟨_,rfl,q1 H1 g1 s1⟩
 | _=>exact q1.elim) q⟩⟩
def iw (h:Hb X K fs e wl) {neg:Bool}:∀σ H Q,fE K fs (.bind wl fun l=>.ret (.bl (if neg then !l.isEmpty else l.isEmpty))) σ H Q->RV (fun x y H Q=>∃p q xs,x=.ref p/\y=.ref q/\cT K H p xs/\cT K H q []/\Q (.bl (if neg then !xs.isEmpty else xs.isEmpty)) H) (fQL K fs wl) (fL K fs (.ret [])) σ H Q:=fun σ H Q ⟨sr,q⟩=>
 ⟨sr,wl.mono (fun l q1 u1 H1 g1 s1 _ v1=>⟨s1,fun a2 vs2 H2 g2 s2 n2 e2 r2=>by
  cases r2;obtain⟨a,vs,rfl,h1,r1⟩:=v1 H2 g2 s2;refine⟨a,a2,vs,rfl,rfl,h1,cT.of e2,?_⟩;rw [MW r1];exact q1 _ H2 (g1.trans g2) s2 (.bl _)⟩) q⟩
def HK:LF X K fs (.List [] pos) (.ret []):=Q7 (n:=0) ak
def XZ (hK:X.K=K) (hu:X.A.units+200 < cLine) (h:Hb X K fs e wl) (hk:behindInMarks .Eq (.List [] p2)=false:=by rfl):EF X K fs (.Compare e [.Eq] [.List [] p2] pos) (.bind wl fun l=>.ret (.bl l.isEmpty)):=⟨PE.imp (wK (sf K hK (by omega)) h.p HK.p hk) (iw (neg:=false) h)⟩
def XT (hK:X.K=K) (hu:X.A.units+200 < cLine) (h:Hb X K fs e wl) (hk:behindInMarks .NotEq (.List [] p2)=false:=by rfl):EF X K fs (.Compare e [.NotEq] [.List [] p2] pos) (.bind wl fun l=>.ret (.bl (!l.isEmpty))):=⟨PE.imp (wK (se K hK (by omega)) h.p HK.p hk) (iw (neg:=true) h)⟩
def Vw (hK:X.K=K) (hu:X.A.units+200 < cLine) (h:Hb X K fs e wl) (hk:behindInMarks .Eq (.List [] p2)=false:=by rfl):TF X K fs (.Compare e [.Eq] [.List [] p2] pos) (.bind wl fun l=>.ret l.isEmpty):=⟨PT.imp (qV (sf K hK (by omega)) h.p HK.p hk) fun σ H Q q=>iw (neg:=false) h σ H _ (T9 (w:=.bind wl fun l=>.ret (.bl l.isEmpty)) σ H Q q)⟩
def KC (hK:X.K=K) (hu:X.A.units+200 < cLine) (h:Hb X K fs e wl) (hk:behindInMarks .NotEq (.List [] p2)=false:=by rfl):TF X K fs (.Compare e [.NotEq] [.List [] p2] pos) (.bind wl fun l=>.ret (!l.isEmpty)):=⟨PT.imp (qV (se K hK (by omega)) h.p HK.p hk) fun σ H Q q=>iw (neg:=true) h σ H _ (T9 (w:=.bind wl fun l=>.ret (.bl (!l.isEmpty))) σ H Q q)⟩
def sR:List PV->W (List Int)
 | []=>.ret []
 | .int i::r=>.bind (sR r) fun l=>.ret (i::l)
 | _=>.fail
theorem pw:∀{l:List PV}{Q:List Int->Prop},(sR l).run Q->∃ns:List Int,l=ns.map PV.int/\Q ns
 | [],Q,h=>⟨[],rfl,h⟩
 | .int b::r,Q,h=>by
  obtain⟨bs,e,q⟩:=pw (l:=r) h;exact⟨b::bs,by rw [e];rfl,q⟩
 | .aU::r,Q,h=>h.elim
 | .bl _::r,Q,h=>h.elim
 | .str _::r,Q,h=>h.elim
 | .tup _::r,Q,h=>h.elim
 | .ref _::r,Q,h=>h.elim
 | .ty _::r,Q,h=>h.elim
 | .cl _::r,Q,h=>h.elim
@[simp] theorem pz:∀bs:List Int,sR (bs.map PV.int)=.ret bs
 | []=>rfl
 | b::bs=>by
  show W.bind (sR (bs.map PV.int)) _=_;rw [pz bs];rfl
end
end
section
open PySem PySem.Spec PyProof.Rows L2 PL
variable {K:Ab}
abbrev b2 (m:M2) (wa wb:W PV):W PV:=.bind wa fun x=>.bind wb fun y=>of2 m x y
abbrev t2 (m:M2) (wa wb:W PV):W Bool:=.bind wa fun x=>.bind wb fun y=>.bind (of2 m x y) Zn
abbrev c1 (m:vN) (w:W PV):W PV:=.bind w fun x=>q8 m [x]
abbrev ba (wl:W (List PV)) (wb:W PV):W PV:=.bind wl fun l=>.bind wb fun y=>Kg l y
abbrev uu (a b:W Bool):W Bool:=.bind a fun k=>if k=true then b else .ret false
abbrev UL (a b:W Bool):W Bool:=.bind a fun k=>if k=true then .ret true else b
abbrev IJ (a:W Bool):W Bool:=.bind a fun k=>.ret (!k)
abbrev hZ {α:Type} (t:W Bool) (a b:W α):W α:=.bind t fun k=>if k=true then a else b
section
variable {X:Cx}{a b c e o iter tg:Expr}{body rest:List Stmt}{pos p:Pos}{fs:aX}{S T T2:Type}{hd:S->aX}{s0:S}{w we:W PV}{wl:W (List PV)}{wt:PV->W T2}{is:List Nat}{dC:S->T2->aX}{k:S->W T}{out:T->End}{x:Bool}
def SF.xA {i:Nat}{f:PV->S->W S} (hp:PassesOwn (model X.prog X.w) X.A X.env X.xe) (hc:X.calm=true) (hi:rE X K fs tg iter wl) (hl:jo fs (hd s0)) (hg:PG X tg (cM i)) (hb:∀s p,SF X K false ((hd s).set i (some (.val p))) body (f p s) fun s'=>.nc (hd s')) (hr:∀s,SF X K x (hd s) rest (k s) out) (hs:∀x,foldedSetIterable iter X.env x=pure x:=by intro _;rfl) :
  SF X K x fs (.For tg iter body [] pos::rest) (.bind wl fun l=>.bind (eN l s0 f) k) out:=SF.for (wt:=.ret) (wb:=fun p s=>f p s) hp hc hi hl (fun s=>TZ hg) (fun _ _=>rfl) hb hr hs
def SF.T5 {wb:T2->S->W S} (hp:PassesOwn (model X.prog X.w) X.A X.env X.xe) (hc:X.calm=true) (hi:rE X K fs tg iter wl) (hl:jo fs (hd s0)) (hg:∀s,GF X K (hd s) tg is wt (dC s)) (hb:∀s t,SF X K false (dC s t) body (wb t s) fun s'=>.nc (hd s')) (hr:∀s,SF X K x (hd s) rest (k s) out) (hs:∀x,foldedSetIterable iter X.env x=pure x:=by intro _;rfl) :
  SF X K x fs (.For tg iter body [] pos::rest) (.bind wl fun l=>.bind (eN l s0 fun p s=>.bind (wt p) fun t=>wb t s) k) out:=SF.for hp hc hi hl hg (fun _ _=>rfl) hb hr hs
def SF.Ro {i:Nat}{R:Type}{inj:R->T}{f:PV->S->W (Lp S R)} (hp:PassesOwn (model X.prog X.w) X.A X.env X.xe) (hc:X.calm=true) (hi:rE X K fs tg iter wl) (hl:jo fs (hd s0)) (hg:PG X tg (cM i)) (ho:∀t,(out (inj t)).HS) (hb:∀s p,SF X K false ((hd s).set i (some (.val p))) body (f p s) (YH hd fun r=>out (inj r))) (hr:∀s,SF X K x (hd s) rest (k s) out) (hs:∀x,foldedSetIterable iter X.env x=pure x:=by intro _;rfl) :
  SF X K x fs (.For tg iter body [] pos::rest) (.bind wl fun l=>.bind (FL.kq l s0 f) (Kk k inj)) out:=SF.kq (wt:=.ret) (wb:=fun p s=>f p s) hp hc hi hl (fun s=>TZ hg) (fun _ _=>rfl) ho hb hr hs
def SF.XC {R:Type}{inj:R->T}{wb:T2->S->W (Lp S R)} (hp:PassesOwn (model X.prog X.w) X.A X.env X.xe) (hc:X.calm=true) (hi:rE X K fs tg iter wl) (hl:jo fs (hd s0)) (hg:∀s,GF X K (hd s) tg is wt (dC s)) (ho:∀t,(out (inj t)).HS) (hb:∀s t,SF X K false (dC s t) body (wb t s) (YH hd fun r=>out (inj r))) (hr:∀s,SF X K x (hd s) rest (k s) out) (hs:∀x,foldedSetIterable iter X.env x=pure x:=by intro _;rfl) :
  SF X K x fs (.For tg iter body [] pos::rest) (.bind wl fun l=>.bind (FL.kq l s0 fun p s=>.bind (wt p) fun t=>wb t s) (Kk k inj)) out:=SF.kq hp hc hi hl hg (fun _ _=>rfl) ho hb hr hs
def SF.R5 {fs3:T2->aX}{k:T2->W T} (he:EF X K fs e we) (hg:GF X K fs tg is wt fs3) (hr:∀t,SF X K x (fs3 t) rest (k t) out) (hs:swapsWithSole [tg] e pos.line X.env=pure false:=by rfl) (hw:swappedStores [tg] e X.env=pure none:=by rfl)
  (h1:(assignEach [tg] X.env).map (·.2)=[assign tg X.env]:=by rfl):SF X K x fs (.Assign [tg] e pos::rest) (.bind we fun v=>.bind (wt v) k) out:=SF.step (wG he.p hg.p hs hw h1) fun D σ H ⟨sr,q⟩=>
 ⟨sr,we.mono (fun v q1 u H1 g1 s1 v1=>⟨v,s1,v1,(wt v).mono (fun t q2 us g2 s2=>⟨_,k t,hr t,s2,(k t).mono (fun t' q3=>q3.go (g1.f.trans g2) sr s2) q2⟩) q1⟩) q⟩
def rN (v:PV):W PV:=.gF (v.dat=true) (.ret v)
def Kz (l:List PV):W (List PV):=.gF (uO l=true) (.ret l)
mutual
theorem VR.jU {ι:List Addr}{H H':Hp} (t:∀p vs,H p=some (.tup vs)->H' p=some (.tup vs)):∀{v:V}{q:PV},VR K ι H v q->q.dat=true->VR K [] H' v q
 | _,_,.aU,_=>.aU
 | _,_,.bl b,_=>.bl b
 | _,_,.int i,_=>.int i
 | _,_,.str x,_=>.str x
 | _,_,.ty n,h=>by rw [PV.dat] at h;cases h
 | _,_,.tup e r,h=>.tup (t _ _ e) (aK.jU t r (by rw [PV.dat] at h;exact h))
 | _,_,.cl e r,h=>by rw [PV.dat] at h;cases h
 | _,_,.dk _ _ _,h=>by rw [PV.dat] at h;cases h
 | _,_,.dt _ _ _,h=>by rw [PV.dat] at h;cases h
 | _,_,.ref e,h=>by rw [PV.dat] at h;cases h
theorem aK.jU {ι:List Addr}{H H':Hp} (t:∀p vs,H p=some (.tup vs)->H' p=some (.tup vs)):∀{v:List V}{q:List PV},aK K ι H v q->uO q=true->aK K [] H' v q
 | _,_,.nil,_=>.nil
 | _,_,.cons r s,h=>by
  rw [uO,AD] at h;exact .cons (VR.jU t r h.1) (aK.jU t s h.2)
end
def bor {pins:List (Addr×Obj)}{s:Shared}{σ:L2.St}{H:Hp}{i:Nat}{q0:Option Addr}{l:List PV} (I:Inv X pins σ H s) (sr:aR K H σ fs) (hs:fs[i]?=some (some (.ol q0 l))):∃a ws ob,Inv X pins σ (upd H a (.cR ob (.lst ws))) s/\aR K (upd H a (.cR ob (.lst ws))) σ (fs.set i (some (.val (.cl l))))/\
  ∀σ' s' H1,Inv X pins σ' H1 s'->cL σ (fs.set i (some (.val (.cl l)))) (upd H a (.cR ob (.lst ws))) H1->aR K H1 σ (fs.set i (some (.val (.cl l))))->Inv X pins σ' (upd H1 a (.lst ws)) s'/\cL σ fs H (upd H1 a (.lst ws))/\aR K (upd H1 a (.lst ws)) σ fs/\(∀p vs,H1 p=some (.tup vs)->upd H1 a (.lst ws) p=some (.tup vs))/\∀p vs,p≠a->H1 p=some (.lst vs)->upd H1 a (.lst ws) p=some (.lst vs):=by
 obtain⟨a,ws,e1,h1,r1⟩:=cQ sr hs;obtain⟨ob,I2⟩:=I.rj h1;have tk:=lJ (K:=K) (.cR ob (.lst ws)) h1;have h0:∀o u,X.H₀ a≠some (.cR o u):=fun o u z=>by
  have:=I.base.qN a o u z;rw [h1] at this;cases this
 refine⟨a,ws,ob,I2,⟨by simp [sr.len],fun j t z=>?_,fun j k t u b1 b2 b z1 z2 o1 o2=>?_⟩,fun σ' s' H1 J g s1=>?_⟩
 ·rcases aY z with⟨rfl,rfl⟩ | ⟨n,z⟩
  ·exact⟨_,e1,.inl ⟨_,rfl,.cl (.inl ⟨ob,aO⟩) (aK.tk tk r1)⟩⟩
  ·obtain⟨u,k1,k2⟩:=sr.at' j t z;exact⟨u,k1,k2.mono tk (fun x b o eb ow hb zz=>by
    subst eb;rw [av (fun y=>by subst y;exact n (sr.nd j i t _ x b b z hs ow rfl k1 e1 hb (.inl rfl)))];exact zz)⟩
 ·rcases aY z1 with⟨rfl,rfl⟩ | ⟨n1,z1⟩
  ·cases o1
  ·rcases aY z2 with⟨rfl,rfl⟩ | ⟨n2,z2⟩
   ·cases o2
   ·exact sr.nd j k t u b1 b2 b z1 z2 o1 o2
 ·have pf:∀φ b,e6 σ (fs.set i (some (.val (.cl l)))) φ b->e6 σ fs φ b:=fun φ b ⟨j,z1,z3⟩=>by
   rcases aY z1 with⟨_,z⟩ | ⟨n,z1⟩
   ·cases z
   ·exact⟨j,z1,z3⟩
  have npa:∀φ,¬e6 σ fs φ a:=fun φ ⟨j,z1,z3⟩=>by
   have:=sr.nd j i _ _ a a a z1 hs rfl rfl z3 e1 (.inl rfl) (.inl rfl);subst this;rw [hs] at z1;cases z1
  have e2:=g.keep a _ aO fun φ p=>npa φ (pf φ a p);have hk:=vq J.bP e2;have ge:cL σ fs H (upd H1 a (.lst ws)):=by
   refine⟨fun b o z n=>?_,fun b z=>?_⟩
   ·by_cases c:b=a
    ·subst c;rw [h1] at z;cases z;exact aO
    ·rw [av c];exact g.keep b o (by rw [av c];exact z) fun φ p=>n φ (pf φ b p)
   ·by_cases c:b=a
    ·subst c;rw [aO] at z;cases z
    ·rw [av c] at z;have:=g.there b z;rw [av c] at this;exact this
  refine⟨J.Vv e2 h0 (hk a _ aO) hk,ge,⟨sr.len,fun j t z=>?_,sr.nd⟩,fun p vs z=>?_,fun p vs n z=>by rw [av n];exact z⟩
  ·obtain⟨u,k1,k2⟩:=sr.at' j t z;refine⟨u,k1,?_⟩;by_cases c:∃φ,t=.gI φ
   ·obtain⟨φ,rfl⟩:=c;have ji:j≠i:=fun y=>by subst y;rw [hs] at z;cases z
    rcases k2 with⟨v,y,_⟩ | ⟨b,rfl,_⟩
    ·cases y
    ·obtain⟨vs,y1,y2⟩:=s1.ownAt (t:=.gI φ) (i:=j) (by rw [aD ji];exact z) rfl k1;refine .inr ⟨b,rfl,vs,?_,y2⟩;rw [av (fun y=>by subst y;exact npa φ ⟨j,z,k1⟩)];exact y1
   ·refine k2.mono (ge.eJ sr) (fun x b o eb ow hb zz=>ge.keep b o zz fun φ ⟨j',p1,p3⟩=>?_);subst eb;have:=sr.nd j j' t _ x b b z p1 ow rfl k1 p3 hb (.inl rfl);subst this;rw [z] at p1;cases p1;exact c ⟨φ,rfl⟩
  ·rw [av (fun y=>by subst y;rw [e2] at z;cases z)];exact z
def Rv (i:Nat) {q0:Option Addr}{l:List PV} (hs:fs[i]?=some (some (.ol q0 l))) (h:EF X K (fs.set i (some (.val (.cl l)))) e w):EF X K fs e (.bind w rN):=⟨fun pins s σ H Q I ⟨sr,q⟩=>by
 obtain⟨a,ws,ob,I2,s2,back⟩:=bor I sr hs;refine cj (h.p pins s σ _ (fun u H1=>∃v,cL σ (fs.set i (some (.val (.cl l)))) (upd H a (.cR ob (.lst ws))) H1/\aR K H1 σ (fs.set i (some (.val (.cl l))))/\VR K [] H1 u v/\v.dat=true/\∀u H',cL σ fs H H'->aR K H' σ fs->VR K [] H' u v->Q u H') I2 ⟨s2,w.mono (fun v q1 u H1 g1 s1 v1=>⟨v,g1,s1,v1,q1.1,q1.2⟩) q⟩) fun u s1 ⟨x,H1,I1,r1,v,g1,Ol,v1,d,q1⟩=>?_;obtain⟨I3,g3,s3,t3,_⟩:=back σ s1 H1 I1 g1 Ol;exact⟨x,_,I3,r1,q1 x _ g3 s3 (VR.jU t3 v1 d)⟩⟩
end
end
section
open PySem PySem.Spec PyProof.Rows L2 PL
variable {K:Ab}
def VP (K:Ab) (m:List PV->List PV->W (PV×List PV)):Sp:=fun vs H Q _=>∃a QP ws lo l,vs=.ref a::QP/\H a=some (.lst ws)/\aK K [] H ws lo/\aK K [] H QP l/\(m lo l).run fun t=>∀u rH H',qd a H H'->(∀b,H' b=none->H b=none)->H' a=some (.lst rH)->aK K [] H' rH t.2->VR K [] H' u t.1->Q u H'
section
variable {P:Program}{w:World}{mg:Str->Option Value}{base:Heap}{x qual:Str}{st:Stmt}{f:Addr}{fd:FuncData}{N ps:List Str}{k n:Nat}{ks:List AK}
def Nk (a:Addr) (lo l:List PV) (n:Nat):aX:=some (.ol (some a) lo)::(l.map fun v=>some (SL.val v))++Ak (n-1-l.length) none
def aK.slot {H:Hp}{vs:List V}{l:List PV} (r:aK K [] H vs l) {i:Nat}{s:SL} (h:(l.map fun v=>some (SL.val v))[i]?=some (some s)):∃u v,vs[i]?=some u/\s=.val v/\VR K [] H u v:=by
 rw [Ai] at h;cases e:l[i]? with
 | none=>rw [e] at h;cases h
 | some v=>
  rw [e] at h;obtain⟨u,h1,h2⟩:=r.get e;cases h;exact⟨u,v,h1,rfl,h2⟩
def fnO {m:List PV->NS (PV×List PV) n} (Fn:NR K x qual st f fd) (S:ay N ps (aj st)) (hn:n+1=ps.length)
  (cert:∀(a:Addr) (lo l:List PV),l.length=n->∀(fZ:Value) (A:Around) (outer:List Env) (s:Shared) (H:Hp) (E:XK),fD k (A.deeper (envOfC qual (aj st) s.heap.objs.size f fZ))->SF (tR qR P w K mg base N qual (aj st) f fZ A outer s H E).O3 K false (Nk a lo l N.length) (du st) (dY n (m lo) l) fun t=>.ro t.1 a t.2) :
  gH P w K mg base qR (k+1) f fd ps (VP K fun lo l=>dY n (m lo) l):=by
 refine Fn.ok S (fun vs H Q E h=>?_) (fun fZ A outer s H vs Q E hr h=>?_)
 ·obtain⟨a,QP,ws,lo,l,rfl,_,_,r,q⟩:=h;rw [Ar,r.length,jr q];exact hn
 obtain⟨a,QP,ws,lo,l,rfl,ha,iI,r,q⟩:=h;have hl:=jr q;have hr2:=r.length;have PU:∀{i:Nat}{s:SL},(Nk a lo l N.length)[i]?=some (some s)->(i=0/\s=.ol (some a) lo)\/∃j u v,i=j+1/\QP[j]?=some u/\s=.val v/\VR K [] H u v:=fun {i s} e=>by
  unfold Nk at e;cases i with
  | zero=>simp at e;exact .inl ⟨rfl,e.symm⟩
  | succ j=>
   rw [List.cons_append,List.getElem?_cons_succ] at e;by_cases c:j < l.length
   ·rw [Ay (by simpa using c)] at e;obtain⟨u,v,h1,h2,h3⟩:=aK.slot r e;exact .inr ⟨j,u,v,rfl,h1,h2,h3⟩
   ·rw [Ax (by simpa using c),Bk] at e
    split at e <;> cases e
 have sr:aR K H (L2.start N (.ref a::QP)) (Nk a lo l N.length):=by
  refine⟨?_,fun i s e=>?_,fun i j s t x y b e1 e2 o1 o2 q1 q2 _ _=>?_⟩
  ·unfold L2.start Nk;rw [Ad,Af,A2,Ad,Ar,Ar,Af,A2];omega
  ·rcases PU e with⟨rfl,rfl⟩ | ⟨j,u,v,rfl,h1,rfl,h3⟩
   ·exact⟨.ref a,lK rfl,.inr ⟨a,rfl,fun b z=>Option.some.inj z,ws,ha,iI⟩⟩
   ·exact⟨u,lK (by simpa using h1),.inl ⟨v,rfl,h3⟩⟩
  ·rcases PU e1 with⟨rfl,rfl⟩ | ⟨j1,u,v,rfl,h1,rfl,h3⟩
   ·rcases PU e2 with⟨rfl,rfl⟩ | ⟨j1,u,v,rfl,h1,rfl,h3⟩
    ·rfl
    ·cases o2
   ·cases o1
 refine⟨_,(cert a lo l hl fZ A outer s H E hr).p,sr,(dY n (m lo) l).mono (fun t q1 u σ' bC H' g s' ho rv=>?_) q⟩;obtain⟨i,e⟩:=ho;obtain⟨u',e',r'⟩:=s'.at' i _ e;rcases r' with⟨v,z,_⟩ | ⟨b,rfl,hb,rH,h1,h2⟩
 ·cases z
 have hba:=hb a rfl;subst hba;refine q1 u rH H' (fun c o nc e=>(g.keep c o e fun z=>?_).1) g.there h1 h2 rv;obtain⟨j,t',x,z1,z2,z3,z4⟩:=z;rcases PU z1 with⟨rfl,rfl⟩ | ⟨j1,u,v,rfl,_,rfl,_⟩
 ·have:=u4 z3;simp at this;rcases z4 with rfl | z4
  ·exact nc this.symm
  ·cases z4
 ·cases z2
def dc (G:List Int->Prop):List V->Prop:=fun ws=>∃ns:List Int,ws=ns.map V.int/\G ns
def Sr {G:List Int->Prop}{m:List PV->List PV->W (PV×List PV)}{mp:List PV->W PV} (F:gH P w K mg base qR k f fd ps (VP K m)) (hm:∀ns l Q,G ns->(mp l).run Q->(m (ns.map PV.int) l).run fun t=>Q t.1/\∃SS:List Int,t.2=SS.map PV.int/\G SS) :
  gH P w K mg base qR k f fd ps (kG K (.p (dc G)::Ak n .v) mp):=F.imp fun vs H Q E h=>by
 obtain⟨l,ha,q⟩:=h;cases ha with
 | @p a φ ws vs ks l e r t=>
  obtain⟨ns,rfl,hG⟩:=r;have tv:∀{n:Nat}{vs:List V}{l:List PV},iT K H vs (Ak n .v) l->aK K [] H vs l:=by
   intro n
   induction n with
   | zero=>intro vs l h;cases h;exact .nil
   | succ n ih=>intro vs l h;cases h with | v r t=>exact .cons r (ih t)
  refine⟨a,vs,ns.map V.int,ns.map PV.int,l,rfl,e,nQ _ _ ns,tv t,(m _ _).mono (fun t q1 u rH H' sx hth e' r' rv=>?_) (hm ns l _ hG q)⟩;obtain⟨q1,SS,et,hG'⟩:=q1;rw [et] at r';have:=nP r';subst this;refine q1 u H' ⟨fun b o eb nb=>sx b o (fun z=>?_) eb,hth,fun b φ p=>?_⟩ rv
  ·subst z;exact nb _ ⟨0,rfl,rfl⟩
  ·obtain⟨i,e1,e2⟩:=p;cases i with
   | zero=>simp at e1 e2;subst e1;subst e2;exact⟨_,e',SS,rfl,hG'⟩
   | succ i=>
    simp at e1;rw [Bk] at e1
    split at e1 <;> simp at e1
end
section
variable {X:Cx}{NF:List Stmt}{fs:aX}{T:Type}{w:W T}{out:T->End}{x:Bool}
def Wg (G:List Int->Prop) (l:List PV) (w:W T):W T:=.gF (∃ns:List Int,l=ns.map PV.int/\G ns) w
def SF.gI (i:Nat) {l:List PV}{G:List Int->Prop} (hs:fs[i]?=some (some (.ol none l))) (hr:SF X K x (fs.set i (some (.gI (dc G)))) NF w out):SF X K x fs NF (Wg G l w) out:=⟨fun pins s σ H D I ⟨sr,q⟩=>by
 obtain⟨⟨ns,el,hG⟩,q⟩:=q;obtain⟨a,ws,e1,h1,r1⟩:=cQ sr hs;subst el;have:=nP r1;subst this;obtain⟨s2,g2⟩:=sd (t':=.gI (dc G)) sr hs rfl (by simp) e1 (fun _ _ _ z=>z:qd a H H) fun tk=>⟨_,h1,ns,rfl,hG⟩;exact hr.p pins s σ H D I ⟨s2,w.mono (fun t q2=>q2.go g2 sr s2) q⟩⟩
end
end
section
open PySem PySem.Spec PyProof.Rows L2 PL
variable {K:Ab}
abbrev J9 (wa wb:W PV):W PV:=.bind wa fun x=>Qu x wb
abbrev orB (wa wb:W PV):W PV:=.bind wa fun x=>YA x wb
abbrev JQ (wl:W (List PV)):W PV:=.bind wl fun l=>.ret (.cl l)
abbrev Gh (t:W Bool) (w:W PV):W (Option PV):=.bind t fun k=>if k=true then .bind w fun v=>.ret (some v) else .ret none
section
variable {X:Cx}{c e elt tg iter:Expr}{es:List Expr}{pos p:Pos}{fs:aX}{k k' n:Nat}{ps:List Str}{x:Str}{ks:List AK}{W':W PV}{WL:W (List PV)}
def Qi {m:List PV->W PV}{B:(List PV->W PV)->W PV} (G:QK X.prog X.w X.K X.mg X.base x k ps (kG K ks m)) (hr:fD k' X.A) (hk:k<=k') (hg:Gl X x) (ha:AF X K fs (e::es) ks B) (hW:W'=B m) (nR:(x==("__debug__":Str))=false:=by decide)
  (he:starEach (e::es) X.env=(false,eval e X.env)::starEach es X.env:=by rfl) (eO:(backTo pos (starEach es X.env)).any (·.1)=false:=by rfl):EF X K fs (.Call (.Name x p) (e::es) [] pos) W':=hW▸Ul G hr hk hg ha nR he eO
def Ph {m:List PV->W (List PV)}{B:(List PV->W (List PV))->W (List PV)} (G:QK X.prog X.w X.K X.mg X.base x k ps (iV K ks m)) (hr:fD k' X.A) (hk:k<=k') (hg:Gl X x) (ha:AF X K fs (e::es) ks B) (hW:WL=B m) (nR:(x==("__debug__":Str))=false:=by decide)
  (he:starEach (e::es) X.env=(false,eval e X.env)::starEach es X.env:=by rfl) (eO:(backTo pos (starEach es X.env)).any (·.1)=false:=by rfl):LF X K fs (.Call (.Name x p) (e::es) [] pos) WL:=hW▸Tb G hr hk hg ha nR he eO
def a6 {x1}{B:(List PV->W PV)->W PV} (h:AF X K fs es (Ak n .v) B) (hW:W'=B fun l=>.ret (.tup l)) (hn:n<=1000:=by decide):EF X K fs (.Tuple es x1 pos) W':=hW▸XO h hn
def a9 {B:(List PV->W (List PV))->W (List PV)} (h:AF X K fs es (Ak n .v) B) (hW:WL=B fun l=>.ret l) (hn:n<=1000:=by decide):LF X K fs (.List es pos) WL:=hW▸Q7 h hn
variable {sc:Scope}{N':List Str}{ix:List (Option Nat)}{wl:W (List PV)}{T2:Type}{wt:PV->W T2}{is:List Nat}{dC:T2->aX}{tf:T2->W Bool}{te:T2->W PV}
def mI {i:Nat}{f:PV->W PV} (hc:X.calm=true) (S:aF X.env.scope X.N sc N' ix) (hi:rE X K fs tg iter wl) (hg:∀cl C s2 H2 fp,PG (gq X sc N' cl C s2 H2 fp) tg (cM i)) (he:∀cl C s2 H2 fp t,EF (gq X sc N' cl C s2 H2 fp) K ((bQ ix fs).set i (some (.val t))) elt (f t)) (h0:ix[i]?=some none) (hs:∀x,foldedSetIterable iter X.env x=pure x:=by intro _;rfl) :
  LF X K fs (.ListComp elt [⟨tg,iter,[],0⟩] sc pos) (.bind wl fun l=>dh l f):=
 have h1:(bQ ix fs)[i]?=some none:=by unfold bQ;rw [Ai,h0];rfl
 Q6 hc S hi (fun cl C s2 H2 fp=>TZ (hg cl C s2 H2 fp)) he (fun _=>rfl) (LV h1) (fun j hj=>by rw [Bw] at hj;subst hj;exact h0) hs
def zq {i:Nat}{tf:PV->W Bool}{te:PV->W PV} (hc:X.calm=true) (S:aF X.env.scope X.N sc N' ix) (hi:rE X K fs tg iter wl) (hg:∀cl C s2 H2 fp,PG (gq X sc N' cl C s2 H2 fp) tg (cM i)) (hf:∀cl C s2 H2 fp t,TF (gq X sc N' cl C s2 H2 fp) K ((bQ ix fs).set i (some (.val t))) c (tf t)) (he:∀cl C s2 H2 fp t,EF (gq X sc N' cl C s2 H2 fp) K ((bQ ix fs).set i (some (.val t))) elt (te t)) (h0:ix[i]?=some none) (hs:∀x,foldedSetIterable iter X.env x=pure x:=by intro _;rfl) :
  LF X K fs (.ListComp elt [⟨tg,iter,[c],0⟩] sc pos) (.bind wl fun l=>ku l fun p=>Gh (tf p) (te p)):=
 have h1:(bQ ix fs)[i]?=some none:=by unfold bQ;rw [Ai,h0];rfl
 Ta (wt:=.ret) (tf:=tf) (te:=te) hc S hi (fun cl C s2 H2 fp=>TZ (hg cl C s2 H2 fp)) (fun cl C s2 H2 fp t=>xB (hf cl C s2 H2 fp t)) he (fun _=>rfl) (LV h1) (fun j hj=>by rw [Bw] at hj;subst hj;exact h0) hs
def LZ (hc:X.calm=true) (S:aF X.env.scope X.N sc N' ix) (hi:rE X K fs tg iter wl) (hg:∀cl C s2 H2 fp,GF (gq X sc N' cl C s2 H2 fp) K (bQ ix fs) tg is wt dC) (he:∀cl C s2 H2 fp t,EF (gq X sc N' cl C s2 H2 fp) K (dC t) elt (te t))
  (hl:uV is (bQ ix fs) dC/\∀t,jo (dC t) (bQ ix fs)) (uJ:∀j∈is,ix[j]?=some none) (hs:∀x,foldedSetIterable iter X.env x=pure x:=by intro _;rfl) :
  LF X K fs (.ListComp elt [⟨tg,iter,[],0⟩] sc pos) (.bind wl fun l=>dh l fun p=>.bind (wt p) te):=Q6 hc S hi hg he (fun _=>rfl) hl uJ hs
def Q8 (hc:X.calm=true) (S:aF X.env.scope X.N sc N' ix) (hi:rE X K fs tg iter wl) (hg:∀cl C s2 H2 fp,GF (gq X sc N' cl C s2 H2 fp) K (bQ ix fs) tg is wt dC) (hf:∀cl C s2 H2 fp t,TF (gq X sc N' cl C s2 H2 fp) K (dC t) c (tf t)) (he:∀cl C s2 H2 fp t,EF (gq X sc N' cl C s2 H2 fp) K (dC t) elt (te t))
  (hl:uV is (bQ ix fs) dC/\∀t,jo (dC t) (bQ ix fs)) (uJ:∀j∈is,ix[j]?=some none) (hs:∀x,foldedSetIterable iter X.env x=pure x:=by intro _;rfl) :
  LF X K fs (.ListComp elt [⟨tg,iter,[c],0⟩] sc pos) (.bind wl fun l=>ku l fun p=>.bind (wt p) fun t=>Gh (tf t) (te t)):=Ta hc S hi hg (fun cl C s2 H2 fp t=>xB (hf cl C s2 H2 fp t)) he (fun _=>rfl) hl uJ hs
variable {rest:List Stmt}{T:Type}{out:T->End}{x0:Bool}{kk:List PV->W T}{i:Nat}{y:Str}{px kn:Pos}
def SF.KP {j:Nat}{tf:PV->W Bool}{te:PV->W PV} (hc:X.calm=true) (hN:X.N.Nodup) (Gz:X.N[i]?=some y) (hx:X.env.scope.names.lookup y=some .local) (S:aF X.env.scope X.N sc N' ix) (hi:rE X K fs tg iter wl) (hg:∀cl C s2 H2 fp,PG (gq X sc N' cl C s2 H2 fp) tg (cM j)) (hf:∀cl C s2 H2 fp t,TF (gq X sc N' cl C s2 H2 fp) K ((bQ ix fs).set j (some (.val t))) c (tf t)) (he:∀cl C s2 H2 fp t,EF (gq X sc N' cl C s2 H2 fp) K ((bQ ix fs).set j (some (.val t))) elt (te t)) (h0:ix[j]?=some none) (hr:∀l,SF X K x0 (fs.set i (some (.ol none l))) rest (kk l) out)
  (sU:swapsWith (.ListComp elt [⟨tg,iter,[c],0⟩] sc pos) (some (.Name y px)) kn.line X.env=pure true:=by rfl) (hs:∀x,foldedSetIterable iter X.env x=pure x:=by intro _;rfl) :
  SF X K x0 fs (.Assign [.Name y px] (.ListComp elt [⟨tg,iter,[c],0⟩] sc pos) kn::rest) (.bind (.bind wl fun l=>ku l fun p=>Gh (tf p) (te p)) kk) out:=
 have h1:(bQ ix fs)[j]?=some none:=by unfold bQ;rw [Ai,h0];rfl
 SF.QW (wt:=.ret) (tf:=tf) (te:=te) hc hN Gz hx S hi (fun cl C s2 H2 fp=>TZ (hg cl C s2 H2 fp)) (fun cl C s2 H2 fp t=>xB (hf cl C s2 H2 fp t)) he (fun _=>rfl) (LV h1) (fun m hj=>by rw [Bw] at hj;subst hj;exact h0) hr sU hs
def O7 {wt:PV->W T2}{te:T2->W PV}:(fun l=>dh l fun p=>.bind (wt p) te)=fun l=>ku l fun p=>.bind (wt p) fun t=>.bind (.ret true) fun k=>if k=true then .bind (te t) fun v=>.ret (some v) else .ret none:=funext fun l=>by
 rw [wV];rfl
def SF.Oh (hc:X.calm=true) (hN:X.N.Nodup) (Gz:X.N[i]?=some y) (hx:X.env.scope.names.lookup y=some .local) (S:aF X.env.scope X.N sc N' ix) (hi:rE X K fs tg iter wl) (hg:∀cl C s2 H2 fp,GF (gq X sc N' cl C s2 H2 fp) K (bQ ix fs) tg is wt dC) (he:∀cl C s2 H2 fp t,EF (gq X sc N' cl C s2 H2 fp) K (dC t) elt (te t))
  (hl:uV is (bQ ix fs) dC/\∀t,jo (dC t) (bQ ix fs)) (uJ:∀j∈is,ix[j]?=some none) (hr:∀l,SF X K x0 (fs.set i (some (.ol none l))) rest (kk l) out)
  (sU:swapsWith (.ListComp elt [⟨tg,iter,[],0⟩] sc pos) (some (.Name y px)) kn.line X.env=pure true:=by rfl) (hs:∀x,foldedSetIterable iter X.env x=pure x:=by intro _;rfl) :
  SF X K x0 fs (.Assign [.Name y px] (.ListComp elt [⟨tg,iter,[],0⟩] sc pos) kn::rest) (.bind (.bind wl fun l=>dh l fun p=>.bind (wt p) te) kk) out:=by
 rw [O7];exact SF.QW (tf:=fun _=>.ret true) hc hN Gz hx S hi hg (fun _ _ _ _ _ _=>Mz) he (fun p=>rfl) hl uJ hr sU hs
def SF.Hv {j:Nat}{f:PV->W PV} (hc:X.calm=true) (hN:X.N.Nodup) (Gz:X.N[i]?=some y) (hx:X.env.scope.names.lookup y=some .local) (S:aF X.env.scope X.N sc N' ix) (hi:rE X K fs tg iter wl) (hg:∀cl C s2 H2 fp,PG (gq X sc N' cl C s2 H2 fp) tg (cM j)) (he:∀cl C s2 H2 fp t,EF (gq X sc N' cl C s2 H2 fp) K ((bQ ix fs).set j (some (.val t))) elt (f t)) (h0:ix[j]?=some none) (hr:∀l,SF X K x0 (fs.set i (some (.ol none l))) rest (kk l) out)
  (sU:swapsWith (.ListComp elt [⟨tg,iter,[],0⟩] sc pos) (some (.Name y px)) kn.line X.env=pure true:=by rfl) (hs:∀x,foldedSetIterable iter X.env x=pure x:=by intro _;rfl) :
  SF X K x0 fs (.Assign [.Name y px] (.ListComp elt [⟨tg,iter,[],0⟩] sc pos) kn::rest) (.bind (.bind wl fun l=>dh l f) kk) out:=
 have h1:(bQ ix fs)[j]?=some none:=by unfold bQ;rw [Ai,h0];rfl
 SF.Oh (wt:=.ret) hc hN Gz hx S hi (fun cl C s2 H2 fp=>TZ (hg cl C s2 H2 fp)) he (LV h1) (fun m hj=>by rw [Bw] at hj;subst hj;exact h0) hr sU hs
end
def zM {P:Program}{w:World}{mg:Str->Option Value}{base:Heap}{f:Addr}{fd:FuncData}{ps:List Str}{k:Nat}{sp:Sp} (h:∀vs H Q E,¬sp vs H Q E):gH P w K mg base qR k f fd ps sp:=⟨fun vs H Q E q=>(h _ _ _ _ q).elim,fun A outer s H args us vs Q E _ _ _ _ q=>(h _ _ _ _ q).elim⟩
def FT {ks:List AK}{n:Nat}{m:NS PV n} (h:∀l Q,l.length=n->¬(dY n m l).run Q):∀vs H Q E,¬kG K ks (dY n m) vs H Q E:=fun vs H Q E ⟨l,_,q⟩=>h l _ (jr q) q
def Hr {ks:List AK}{n:Nat}{m:NS (List PV) n} (h:∀l Q,l.length=n->¬(dY n m l).run Q):∀vs H Q E,¬iV K ks (dY n m) vs H Q E:=fun vs H Q E ⟨l,_,q⟩=>h l _ (jr q) q
def aV {k:Nat}{A:Around} (hr:fD k A):A.units+200 < cLine:=by have:=hr.un;omega
end
section
open PySem PySem.Spec PyProof.Rows L2 PL
variable {K:Ab}
mutual
def PV.dP:PV->Bool
 | .tup l=>fx l
 | .cl l=>fx l
 | .ref _=>false
 | .ty _=>false
 | .dv _ _=>false
 | _=>true
def fx:List PV->Bool
 | []=>true
 | x::l=>PV.dP x&&fx l
end
mutual
def PV.e7:PV->Nat
 | .tup l=>dD l+1
 | .cl l=>dD l+1
 | _=>0
def dD:List PV->Nat
 | []=>0
 | x::l=>max (PV.e7 x) (dD l)
end
mutual
def de:PV->PV->Bool
 | .aU,.aU=>true
 | .bl a,.bl b=>a==b
 | .bl a,.int b=>(if a then 1 else 0)==b
 | .int a,.bl b=>a==(if b then 1 else 0)
 | .int a,.int b=>a==b
 | .str a,.str b=>a==b
 | .tup l,.tup m=>gC l m
 | .cl l,.cl m=>gC l m
 | _,_=>false
def gC:List PV->List PV->Bool
 | [],[]=>true
 | x::l,y::m=>de x y&&gC l m
 | _,_=>false
end
theorem k8:∀{l:List PV}{j:Nat}{x:PV},fx l=true->l[j]?=some x->PV.dP x=true
 | [],_,_,_,e=>by simp at e
 | y::l,0,x,h,e=>by
  simp at e;subst e;rw [fx,AD] at h;exact h.1
 | y::l,j+1,x,h,e=>by
  rw [fx,AD] at h;exact k8 h.2 (by simpa using e)
theorem pE:∀{l:List PV}{j:Nat}{x:PV},l[j]?=some x->PV.e7 x<=dD l
 | [],_,_,e=>by simp at e
 | y::l,0,x,e=>by
  simp at e;subst e;rw [dD];omega
 | y::l,j+1,x,e=>by
  have:=pE (l:=l) (j:=j) (x:=x) (by simpa using e);rw [dD];omega
mutual
theorem zP:∀(x:PV),PV.dP x=true->de x x=true
 | .aU,_=>by rw [de]
 | .bl b,_=>by rw [de];simp
 | .int i,_=>by rw [de];simp
 | .str i,_=>by rw [de];simp
 | .tup l,h=>by rw [de];exact jh l (by rw [PV.dP] at h;exact h)
 | .cl l,h=>by rw [de];exact jh l (by rw [PV.dP] at h;exact h)
 | .ref _,h=>by rw [PV.dP] at h;cases h
 | .ty _,h=>by rw [PV.dP] at h;cases h
 | .dv _ _,h=>by rw [PV.dP] at h;cases h
theorem jh:∀(l:List PV),fx l=true->gC l l=true
 | [],_=>by rw [gC]
 | x::l,h=>by
  rw [fx,AD] at h;rw [gC,zP x h.1,jh l h.2];rfl
end
def Uk (l m:List PV) (j:Nat):Bool:=match l[j]?,m[j]? with | some x,some y=>de x y | _,_=>true
theorem lg:∀(l m:List PV),((AG (min l.length m.length)).all (Uk l m)&&l.length==m.length)=gC l m
 | [],[]=>by rw [gC];rfl
 | [],_::_=>by
  rw [gC]
  ·simp
  ·intros;simp_all
  ·intros;simp_all
 | _::_,[]=>by
  rw [gC]
  ·simp
  ·intros;simp_all
  ·intros;simp_all
 | x::l,y::m=>by
  rw [gC,<- lg l m];have e:min (x::l).length (y::m).length=min l.length m.length+1:=by simp only [Ar];omega
  rw [e,List.range_succ_eq_map,List.all_cons,List.all_map];have e2:((x::l).length==(y::m).length)=(l.length==m.length):=by simp
  rw [e2,Bool.and_assoc];rfl
def zO {l m:List PV} (h:l.length≠m.length):gC l m=false:=by
 rw [<- lg];have:(l.length==m.length)=false:=by simpa using h
 rw [this,DG]
section
variable {X:Cx}{pins:List (Addr×Obj)}{σ:L2.St}{H:Hp}{s:Shared}
mutual
theorem VR.NP (I:Inv X pins σ H s):∀{v:V}{x y:PV},VR X.K [] H v x->VR X.K [] H v y->x=y
 | _,_,_,.aU,h=>by cases h;rfl
 | _,_,_,.bl b,h=>by cases h;rfl
 | _,_,_,.int b,h=>by cases h;rfl
 | _,_,_,.str b,h=>by cases h;rfl
 | _,_,_,.ty b,h=>by cases h;rfl
 | _,_,_,.ref e,h=>by simp at e
 | _,_,_,.tup e r,h=>by
  cases h with
  | tup e' r'=>
   have ee:=I.lI (da.of e) (da.of e');subst ee;rw [aK.NP I r r']
  | ref e=>simp at e
  | cl e' r'=>
   obtain⟨aq,_,⟨o,n,h1,h2,_⟩,_⟩:=I.list e'.sq;obtain⟨its',_,⟨o',jF,yu,_⟩,_⟩:=I.tuple (da.of e);rw [h1] at jF;cases jF;rw [h2] at yu;simp at yu
  | dk e' _ _=>rw [e] at e';cases e'
  | dt e' _ _=>rw [e] at e';cases e'
 | _,_,_,.dk e k r,h=>by
  cases h with
  | dk e' k' r'=>rw [e] at e';cases e';rw [k,k',aK.NP I r r']
  | dt e' _ _=>rw [e] at e';cases e'
  | ref e=>simp at e
  | tup e' _=>rw [e] at e';cases e'
  | cl e' r'=>
   obtain⟨aq,_,⟨o,n,h1,h2,_⟩,_⟩:=I.list e'.sq;obtain⟨_,_,vs,_,o',_,_,jF,yu,_⟩:=zU I.bP (.inr ⟨_,e⟩);rw [h1] at jF;cases jF;have h3:=yu.1;rw [h2] at h3;simp at h3
 | _,_,_,.dt e k r,h=>by
  cases h with
  | dt e' k' r'=>rw [e] at e';cases e';rw [k,k',aK.NP I r r']
  | dk e' _ _=>rw [e] at e';cases e'
  | ref e=>simp at e
  | tup e' _=>rw [e] at e';cases e'
  | cl e' r'=>
   obtain⟨aq,_,⟨o,n,h1,h2,_⟩,_⟩:=I.list e'.sq;obtain⟨_,_,vs,_,o',_,_,jF,yu,_⟩:=zT I.bP (.inr ⟨_,e⟩);rw [h1] at jF;cases jF;have h3:=yu.1;rw [h2] at h3;simp at h3
 | _,_,_,.cl e r,h=>by
  cases h with
  | dk e' _ _=>
   obtain⟨aq,_,⟨o,n,h1,h2,_⟩,_⟩:=I.list e.sq;obtain⟨_,_,vs,_,o',_,_,jF,yu,_⟩:=zU I.bP (.inr ⟨_,e'⟩);rw [h1] at jF;cases jF;have h3:=yu.1;rw [h2] at h3;simp at h3
  | dt e' _ _=>
   obtain⟨aq,_,⟨o,n,h1,h2,_⟩,_⟩:=I.list e.sq;obtain⟨_,_,vs,_,o',_,_,jF,yu,_⟩:=zT I.bP (.inr ⟨_,e'⟩);rw [h1] at jF;cases jF;have h3:=yu.1;rw [h2] at h3;simp at h3
  | cl e' r'=>
   obtain⟨aq,k,⟨o,n,h1,h2,h3,h4⟩,_⟩:=I.list e.sq;obtain⟨its',k',⟨o',n',jF,yu,Ms,TR⟩,_⟩:=I.list e'.sq;rw [h1] at jF;cases jF;rw [h4] at TR;have:aq=its':=by injection TR with a b;simpa using a
   subst this;have ee:=Vals.inj k k';subst ee;rw [aK.NP I r r']
  | ref e=>simp at e
  | tup e' r'=>
   obtain⟨aq,_,⟨o,n,h1,h2,_⟩,_⟩:=I.list e.sq;obtain⟨its',_,⟨o',jF,yu,_⟩,_⟩:=I.tuple (da.of e');rw [h1] at jF;cases jF;rw [h2] at yu;simp at yu
theorem aK.NP (I:Inv X pins σ H s):∀{v:List V}{x y:List PV},aK X.K [] H v x->aK X.K [] H v y->x=y
 | _,_,_,.nil,h=>by cases h;rfl
 | _,_,_,.cons r t,h=>by
  cases h with
  | cons r' t'=>rw [VR.NP I r r',aK.NP I t t']
end
structure Cmp (A:Around) (s:Shared) (w w':Value) (b:Bool):Prop where
 rc:SeqAt.RcAt A s w w' b
 ne:SeqAt.RcNeAt A s w w' (!b)
 eq:E7 A s w w' b
def Rt (I:Inv X pins σ H s) {A:Around}{vs ws:List V}{l m:List PV}{aq its':List Value} (r:Vals vs aq) (r':Vals ws its') (r1:aK X.K [] H vs l) (r2:aK X.K [] H ws m)
  (ih:∀(j:Nat) (x y:PV) (v v':V) (w w':Value),l[j]?=some x->m[j]?=some y->VR X.K [] H v x->VR X.K [] H v' y->RelV v w->RelV v' w'->E7 A s w w' (de x y)) :
  ∀j (g1:j < aq.toArray.size) (g2:j < its'.toArray.size),E7 A s aq.toArray[j] its'.toArray[j] (Uk l m j):=fun j g1 g2=>by
 have h1:j < aq.length:=by simpa using g1
 have h2:j < its'.length:=by simpa using g2
 have hl:j < l.length:=by rw [<- r1.length,r.length];exact h1
 have hm:j < m.length:=by rw [<- r2.length,r'.length];exact h2
 obtain⟨v,v1,v2⟩:=r1.get (Ae hl);obtain⟨v',Vs,ZD⟩:=r2.get (Ae hm);obtain⟨u,u1,u2⟩:=r.get v1;obtain⟨u',u1',u2'⟩:=r'.get Vs;rw [Ae h1] at u1;rw [Ae h2] at u1';cases u1;cases u1';unfold Uk;rw [Ae hl,Ae hm];have:=ih j _ _ v v' _ _ (Ae hl) (Ae hm) v2 ZD u2 u2';simpa using this
def Us (hK:X.K=K) (I:Inv X pins σ H s):∀(n:Nat) (x y:PV) (A:Around) (v v':V) (w w':Value),PV.e7 x<=n->PV.dP x=true->PV.dP y=true->VR K [] H v x->VR K [] H v' y->RelV v w->RelV v' w'->A.units+n+1 < cLine->Cmp A s w w' (de x y):=by
 subst hK;intro n
 induction n with
 | zero=>
  intro x y A v v' w w' hd dx dy hv Mg r1 r2 hu;cases hv with
  | ref e=>simp at e
  | ty e=>rw [PV.dP] at dx;cases dx
  | dk _ _ _=>rw [PV.dP] at dx;cases dx
  | dt _ _ _=>rw [PV.dP] at dx;cases dx
  | aU=>
   cases r1;cases Mg with
   | ref e=>simp at e
   | ty e=>rw [PV.dP] at dy;cases dy
   | dk _ _ _=>rw [PV.dP] at dy;cases dy
   | dt _ _ _=>rw [PV.dP] at dy;cases dy
   | aU=>
    cases r2;rw [de];exact⟨SeqAt.RcAt.none_none ,SeqAt.RcNeAt.none_none ,Er _⟩
   | bl b=>
    cases r2;rw [de] <;> try (intros;simp_all;done)
    exact⟨SeqAt.RcAt.none_bool b,SeqAt.RcNeAt.none_bool b,E7.none_bool b⟩
   | int b=>
    obtain⟨t,rfl⟩:=r2;rw [de] <;> try (intros;simp_all;done)
    exact⟨SeqAt.RcAt.none_int b t,SeqAt.RcNeAt.none_int b t,E7.none_int b t⟩
   | str b=>
    obtain⟨t,rfl⟩:=r2;rw [de] <;> try (intros;simp_all;done)
    exact⟨SeqAt.RcAt.none_str b t,SeqAt.RcNeAt.none_str b t,E7.none_str b t⟩
   | @tup pb ws m e2 yT=>
    cases r2;obtain⟨bI,k2,fu,_⟩:=I.tuple (da.of e2);rw [de] <;> try (intros;simp_all;done)
    exact⟨SeqAt.RcAt.none_tuple fu (by omega),SeqAt.RcNeAt.none_tuple fu (by omega),E7.none_tuple fu (by omega)⟩
   | @cl pb ws m e2 yT=>
    cases r2;obtain⟨bI,k2,yY,_⟩:=I.list e2.sq;have fu:=yY.isList;rw [de] <;> try (intros;simp_all;done)
    exact⟨SeqAt.RcAt.none_list fu (by omega),SeqAt.RcNeAt.none_list fu (by omega),E7.none_list fu (by omega)⟩
  | bl a=>
   cases r1;cases Mg with
   | ref e=>simp at e
   | ty e=>rw [PV.dP] at dy;cases dy
   | dk _ _ _=>rw [PV.dP] at dy;cases dy
   | dt _ _ _=>rw [PV.dP] at dy;cases dy
   | aU=>
    cases r2;rw [de] <;> try (intros;simp_all;done)
    exact⟨SeqAt.RcAt.bool_none a,SeqAt.RcNeAt.bool_none a,E7.bool_none a⟩
   | bl b=>
    cases r2;rw [de];exact⟨SeqAt.RcAt.bool_bool a b,SeqAt.RcNeAt.bool_bool a b,E7.bool_bool a b⟩
   | int b=>
    obtain⟨t,rfl⟩:=r2;rw [de];exact⟨SeqAt.RcAt.bool_int a b t,SeqAt.RcNeAt.bool_int a b t,E7.bool_int a b t⟩
   | str b=>
    obtain⟨t,rfl⟩:=r2;rw [de] <;> try (intros;simp_all;done)
    exact⟨SeqAt.RcAt.bool_str a b t,SeqAt.RcNeAt.bool_str a b t,E7.bool_str a b t⟩
   | @tup pb ws m e2 yT=>
    cases r2;obtain⟨bI,k2,fu,_⟩:=I.tuple (da.of e2);rw [de] <;> try (intros;simp_all;done)
    exact⟨SeqAt.RcAt.bool_tuple a fu (by omega),SeqAt.RcNeAt.bool_tuple a fu (by omega),E7.bool_tuple a fu (by omega)⟩
   | @cl pb ws m e2 yT=>
    cases r2;obtain⟨bI,k2,yY,_⟩:=I.list e2.sq;have fu:=yY.isList;rw [de] <;> try (intros;simp_all;done)
    exact⟨SeqAt.RcAt.bool_list a fu (by omega),SeqAt.RcNeAt.bool_list a fu (by omega),E7.bool_list a fu (by omega)⟩
  | int a=>
   obtain⟨t',rfl⟩:=r1;cases Mg with
   | ref e=>simp at e
   | ty e=>rw [PV.dP] at dy;cases dy
   | dk _ _ _=>rw [PV.dP] at dy;cases dy
   | dt _ _ _=>rw [PV.dP] at dy;cases dy
   | aU=>
    cases r2;rw [de] <;> try (intros;simp_all;done)
    exact⟨SeqAt.RcAt.int_none a t',SeqAt.RcNeAt.int_none a t',E7.int_none a t'⟩
   | bl b=>
    cases r2;rw [de];exact⟨SeqAt.RcAt.int_bool a t' b,SeqAt.RcNeAt.int_bool a t' b,E7.int_bool a t' b⟩
   | int b=>
    obtain⟨t,rfl⟩:=r2;rw [de];exact⟨SeqAt.RcAt.int_int a t' b t,SeqAt.RcNeAt.int_int a t' b t,E7.int_int a t' b t⟩
   | str b=>
    obtain⟨t,rfl⟩:=r2;rw [de] <;> try (intros;simp_all;done)
    exact⟨SeqAt.RcAt.int_str a t' b t,SeqAt.RcNeAt.int_str a t' b t,E6 a t' b t⟩
   | @tup pb ws m e2 yT=>
    cases r2;obtain⟨bI,k2,fu,_⟩:=I.tuple (da.of e2);rw [de] <;> try (intros;simp_all;done)
    exact⟨SeqAt.RcAt.int_tuple a t' fu (by omega),SeqAt.RcNeAt.int_tuple a t' fu (by omega),E7.int_tuple a t' fu (by omega)⟩
   | @cl pb ws m e2 yT=>
    cases r2;obtain⟨bI,k2,yY,_⟩:=I.list e2.sq;have fu:=yY.isList;rw [de] <;> try (intros;simp_all;done)
    exact⟨SeqAt.RcAt.int_list a t' fu (by omega),SeqAt.RcNeAt.int_list a t' fu (by omega),E7.int_list a t' fu (by omega)⟩
  | str a=>
   obtain⟨t',rfl⟩:=r1;cases Mg with
   | ref e=>simp at e
   | ty e=>rw [PV.dP] at dy;cases dy
   | dk _ _ _=>rw [PV.dP] at dy;cases dy
   | dt _ _ _=>rw [PV.dP] at dy;cases dy
   | aU=>
    cases r2;rw [de] <;> try (intros;simp_all;done)
    exact⟨SeqAt.RcAt.str_none a t',SeqAt.RcNeAt.str_none a t',E7.str_none a t'⟩
   | bl b=>
    cases r2;rw [de] <;> try (intros;simp_all;done)
    exact⟨SeqAt.RcAt.str_bool a t' b,SeqAt.RcNeAt.str_bool a t' b,E7.str_bool a t' b⟩
   | int b=>
    obtain⟨t,rfl⟩:=r2;rw [de] <;> try (intros;simp_all;done)
    exact⟨SeqAt.RcAt.str_int a t' b t,SeqAt.RcNeAt.str_int a t' b t,E4 a t' b t⟩
   | str b=>
    obtain⟨t,rfl⟩:=r2;rw [de];exact⟨SeqAt.RcAt.str_str a t' b t,SeqAt.RcNeAt.str_str a t' b t,E7.str_str a t' b t⟩
   | @tup pb ws m e2 yT=>
    cases r2;obtain⟨bI,k2,fu,_⟩:=I.tuple (da.of e2);rw [de] <;> try (intros;simp_all;done)
    exact⟨SeqAt.RcAt.str_tuple a t' fu (by omega),SeqAt.RcNeAt.str_tuple a t' fu (by omega),E7.str_tuple a t' fu (by omega)⟩
   | @cl pb ws m e2 yT=>
    cases r2;obtain⟨bI,k2,yY,_⟩:=I.list e2.sq;have fu:=yY.isList;rw [de] <;> try (intros;simp_all;done)
    exact⟨SeqAt.RcAt.str_list a t' fu (by omega),SeqAt.RcNeAt.str_list a t' fu (by omega),E7.str_list a t' fu (by omega)⟩
  | tup e r=>rw [PV.e7] at hd;omega
  | cl e r=>rw [PV.e7] at hd;omega
 | succ n ih=>
  intro x y A v v' w w' hd dx dy hv Mg r1 r2 hu;cases hv with
  | ref e=>simp at e
  | ty e=>rw [PV.dP] at dx;cases dx
  | dk _ _ _=>rw [PV.dP] at dx;cases dx
  | dt _ _ _=>rw [PV.dP] at dx;cases dx
  | aU=>exact ih _ y A _ v' _ w' (by simp [PV.e7]) dx dy (.aU) Mg r1 r2 (by omega)
  | bl a=>exact ih _ y A _ v' _ w' (by simp [PV.e7]) dx dy (.bl a) Mg r1 r2 (by omega)
  | int a=>exact ih _ y A _ v' _ w' (by simp [PV.e7]) dx dy (.int a) Mg r1 r2 (by omega)
  | str a=>exact ih _ y A _ v' _ w' (by simp [PV.e7]) dx dy (.str a) Mg r1 r2 (by omega)
  | @tup pa vs l e r=>
   cases r1;obtain⟨aq,k1,ht,_⟩:=I.tuple (da.of e);cases Mg with
   | ref e=>simp at e
   | ty e=>rw [PV.dP] at dy;cases dy
   | dk _ _ _=>rw [PV.dP] at dy;cases dy
   | dt _ _ _=>rw [PV.dP] at dy;cases dy
   | aU=>
    cases r2;rw [de] <;> try (intros;simp_all;done)
    exact⟨SeqAt.RcAt.tuple_none ht (by omega),SeqAt.RcNeAt.tuple_none ht (by omega),E7.tuple_none ht (by omega)⟩
   | bl b=>
    cases r2;rw [de] <;> try (intros;simp_all;done)
    exact⟨SeqAt.RcAt.tuple_bool b ht (by omega),SeqAt.RcNeAt.tuple_bool b ht (by omega),E7.tuple_bool b ht (by omega)⟩
   | int b=>
    obtain⟨t,rfl⟩:=r2;rw [de] <;> try (intros;simp_all;done)
    exact⟨SeqAt.RcAt.tuple_int b t ht (by omega),SeqAt.RcNeAt.tuple_int b t ht (by omega),E7.tuple_int b t ht (by omega)⟩
   | str b=>
    obtain⟨t,rfl⟩:=r2;rw [de] <;> try (intros;simp_all;done)
    exact⟨SeqAt.RcAt.tuple_str b t ht (by omega),SeqAt.RcNeAt.tuple_str b t ht (by omega),E7.tuple_str b t ht (by omega)⟩
   | @tup pb ws m e2 yT=>
    cases r2;obtain⟨bI,k2,fu,_⟩:=I.tuple (da.of e2);have d1:fx l=true:=by rw [PV.dP] at dx;exact dx
    have d2:fx m=true:=by rw [PV.dP] at dy;exact dy
    have Xu:dD l<=n:=by rw [PV.e7] at hd;omega
    have ie:=Rt I (A:=A.in1) k1 k2 r yT fun j x y v v' w w' hx hy vx vy rx ry=>(ih x y A.in1 v v' w w' (by have:=pE hx;omega) (k8 d1 hx) (k8 d2 hy) vx vy rx ry (by show A.units+1+n+1 < _;omega)).eq;have z1:aq.toArray.size=l.length:=by rw [Ag,<- k1.length,r.length]
    have z2:bI.toArray.size=m.length:=by rw [Ag,<- k2.length,yT.length]
    have same:pa=pb->gC l m=true:=fun z=>by
     subst z;have:=VR.NP I (VR.tup (K:=X.K) e r) (VR.tup (K:=X.K) e2 yT);injection this with this;subst this;exact jh _ d1
    have q1:=SeqAt.RcAt.tuples ht fu (A:=A) (by omega) ie;have q2:=SeqAt.RcNeAt.tuples ht fu (A:=A) (by omega) ie;rw [z1,z2,lg] at q1 q2;rw [de];refine⟨q1,q2,?_⟩;by_cases Rn:pa=pb
    ·rw [same Rn,Rn];exact Er _
    ·exact E5 Rn q1
   | @cl pb ws m e2 yT=>
    cases r2;obtain⟨bI,k2,yY,_⟩:=I.list e2.sq;have fu:=yY.isList;rw [de] <;> try (intros;simp_all;done)
    exact⟨SeqAt.RcAt.tuple_list ht fu (by omega),SeqAt.RcNeAt.tuple_list ht fu (by omega),E7.tuple_list ht fu (by omega)⟩
  | @cl pa vs l e r=>
   cases r1;obtain⟨aq,k1,pl,_⟩:=I.list e.sq;have ht:=pl.isList;cases Mg with
   | ref e=>simp at e
   | ty e=>rw [PV.dP] at dy;cases dy
   | dk _ _ _=>rw [PV.dP] at dy;cases dy
   | dt _ _ _=>rw [PV.dP] at dy;cases dy
   | aU=>
    cases r2;rw [de] <;> try (intros;simp_all;done)
    exact⟨SeqAt.RcAt.list_none ht (by omega),SeqAt.RcNeAt.list_none ht (by omega),E7.list_none ht (by omega)⟩
   | bl b=>
    cases r2;rw [de] <;> try (intros;simp_all;done)
    exact⟨SeqAt.RcAt.list_bool b ht (by omega),SeqAt.RcNeAt.list_bool b ht (by omega),E7.list_bool b ht (by omega)⟩
   | int b=>
    obtain⟨t,rfl⟩:=r2;rw [de] <;> try (intros;simp_all;done)
    exact⟨SeqAt.RcAt.list_int b t ht (by omega),SeqAt.RcNeAt.list_int b t ht (by omega),E7.list_int b t ht (by omega)⟩
   | str b=>
    obtain⟨t,rfl⟩:=r2;rw [de] <;> try (intros;simp_all;done)
    exact⟨SeqAt.RcAt.list_str b t ht (by omega),SeqAt.RcNeAt.list_str b t ht (by omega),E7.list_str b t ht (by omega)⟩
   | @tup pb ws m e2 yT=>
    cases r2;obtain⟨bI,k2,fu,_⟩:=I.tuple (da.of e2);rw [de] <;> try (intros;simp_all;done)
    exact⟨SeqAt.RcAt.list_tuple ht fu (by omega),SeqAt.RcNeAt.list_tuple ht fu (by omega),E7.list_tuple ht fu (by omega)⟩
   | @cl pb ws m e2 yT=>
    cases r2;obtain⟨bI,k2,yY,_⟩:=I.list e2.sq;have fu:=yY.isList;have d1:fx l=true:=by rw [PV.dP] at dx;exact dx
    have d2:fx m=true:=by rw [PV.dP] at dy;exact dy
    have Xu:dD l<=n:=by rw [PV.e7] at hd;omega
    have ie:=Rt I (A:=A.in1) k1 k2 r yT fun j x y v v' w w' hx hy vx vy rx ry=>(ih x y A.in1 v v' w w' (by have:=pE hx;omega) (k8 d1 hx) (k8 d2 hy) vx vy rx ry (by show A.units+1+n+1 < _;omega)).eq;have z1:aq.toArray.size=l.length:=by rw [Ag,<- k1.length,r.length]
    have z2:bI.toArray.size=m.length:=by rw [Ag,<- k2.length,yT.length]
    have same:pa=pb->gC l m=true:=fun z=>by
     subst z;have:=VR.NP I (VR.cl (K:=X.K) e r) (VR.cl (K:=X.K) e2 yT);injection this with this;subst this;exact jh _ d1
    have q1:SeqAt.RcAt A s (.ref pa) (.ref pb) (gC l m):=by
     by_cases hz:l.length=m.length
     ·have q:=Fd ht fu (by rw [z1,z2];exact hz) (A:=A) (by omega) ie;rw [z1] at q;rw [<- lg,hz,Nat.min_self,beq_self_eq_true,Bool.and_true];rw [hz] at q;exact q
     ·rw [zO hz];exact DS ht fu (by rw [z1,z2];simpa using hz) (by omega)
    have q2:SeqAt.RcNeAt A s (.ref pa) (.ref pb) (!gC l m):=by
     by_cases hz:l.length=m.length
     ·have q:=E3 ht fu (by rw [z1,z2];exact hz) (A:=A) (by omega) ie;rw [z1] at q;rw [<- lg,hz,Nat.min_self,beq_self_eq_true,Bool.and_true];rw [hz] at q;exact q
     ·rw [zO hz];exact Du ht fu (by rw [z1,z2];simpa using hz) (by omega)
    rw [de];refine⟨q1,q2,?_⟩;by_cases Rn:pa=pb
    ·rw [same Rn,Rn];exact Er _
    ·exact E5 Rn q1
end
end
section
open PySem PySem.Spec PyProof.Rows L2 PL
variable {K:Ab}
mutual
theorem VR.ny {ι:List Addr}{H:Hp}:∀{v:V}{q:PV},VR K ι H v q->PV.dP q=true->VR K [] H v q
 | _,_,.aU,_=>.aU
 | _,_,.bl b,_=>.bl b
 | _,_,.int i,_=>.int i
 | _,_,.str x,_=>.str x
 | _,_,.ty n,h=>by rw [PV.dP] at h;cases h
 | _,_,.dk _ _ _,h=>by rw [PV.dP] at h;cases h
 | _,_,.dt _ _ _,h=>by rw [PV.dP] at h;cases h
 | _,_,.tup e r,h=>.tup e (aK.ny r (by rw [PV.dP] at h;exact h))
 | _,_,.cl e r,h=>.cl e (aK.ny r (by rw [PV.dP] at h;exact h))
 | _,_,.ref e,h=>by rw [PV.dP] at h;cases h
theorem aK.ny {ι:List Addr}{H:Hp}:∀{v:List V}{q:List PV},aK K ι H v q->fx q=true->aK K [] H v q
 | _,_,.nil,_=>.nil
 | _,_,.cons r s,h=>by
  rw [fx,AD] at h;exact .cons (VR.ny r h.1) (aK.ny s h.2)
end
def JR (x y:PV):Prop:=PV.dP x=true/\PV.dP y=true/\PV.e7 x<=150
def eM:M2:=⟨fun x y h Q=>JR x y/\Q (.bl (de x y)) h,fun f q=>⟨q.1,f _ _ q.2⟩⟩
def oY:M2:=⟨fun x y h Q=>JR x y/\Q (.bl (!de x y)) h,fun f q=>⟨q.1,f _ _ q.2⟩⟩
def Ou (K:Ab) (neg:Bool):R2:=fun u v H Q=>∃x y,VR K [] H u x/\VR K [] H v y/\JR x y/\Q (.bl (if neg then !de x y else de x y)) H
section
variable {X:Cx}{b:Expr}
def SK (hK:X.K=K) (hu:X.A.units+200 < cLine):jm X (compareOp .Eq) (Ou K false):=fun pins s σ H u v w w' Q I r1 r2 ⟨x,y,h1,h2,⟨o1,o2,o3⟩,q⟩=>by
 exact Es (Us hK I 150 x y X.A u v w w' o3 o1 o2 h1 h2 r1 r2 (by omega)).rc ⟨.bl _,H,I,rfl,q⟩
def SH (hK:X.K=K) (hu:X.A.units+200 < cLine):jm X (compareOp .NotEq) (Ou K true):=fun pins s σ H u v w w' Q I r1 r2 ⟨x,y,h1,h2,⟨o1,o2,o3⟩,q⟩=>by
 exact DL (Us hK I 150 x y X.A u v w w' o3 o1 o2 h1 h2 r1 r2 (by omega)).ne ⟨.bl _,H,I,rfl,q⟩
def O1:M2.Ok K (Ou K false) eM:=fun {ι H h u v x y Q} hr hu hv q=>⟨x,y,VR.ny hu q.1.1,VR.ny hv q.1.2.1,q.1,q.2 ι _ H (Go.refl _ _) hr (.bl _)⟩
def OY:M2.Ok K (Ou K true) oY:=fun {ι H h u v x y Q} hr hu hv q=>⟨x,y,VR.ny hu q.1.1,VR.ny hv q.1.2.1,q.1,q.2 ι _ H (Go.refl _ _) hr (.bl _)⟩
def gn (hK:X.K=K) (hu:X.A.units+200 < cLine):JC X K .Eq b eM:=⟨⟨_,SK hK hu,O1⟩,mD _⟩
def vm (hK:X.K=K) (hu:X.A.units+200 < cLine):JC X K .NotEq b oY:=⟨⟨_,SH hK hu,OY⟩,mD _⟩
end
end
end FL
namespace L2
open PySem PySem.Spec PyProof.Rows
def tY (b:Bool) (h:Heap) (it a:Addr) (k:Nat):Prop:=match b with
 | true=>h.IsListIter it a k
 | false=>h.IsTupleIter it a k
def iQ (b:Bool) (h:Heap) (a:Addr) (xs:Array Value):Prop:=match b with
 | true=>h.IsList a xs
 | false=>h.IsTuple a xs
def tY.move {b:Bool}{h h':Heap}{it a:Addr}{k:Nat} (x:tY b h it a k) (g:∀o,h.get? it=some o->h'.get? it=some o):tY b h' it a k:=by
 cases b with
 | true=>obtain⟨o,e,p⟩:=(show h.IsListIter it a k from x);exact (show h'.IsListIter it a k from⟨o,g o e,p⟩)
 | false=>obtain⟨o,e,p⟩:=(show h.IsTupleIter it a k from x);exact (show h'.IsTupleIter it a k from⟨o,g o e,p⟩)
def iQ.move {b:Bool}{h h':Heap}{a:Addr}{xs:Array Value} (x:iQ b h a xs) (g:∀o,h.get? a=some o->h'.get? a=some o):iQ b h' a xs:=by
 cases b with
 | true=>obtain⟨o,e,p⟩:=(show h.IsList a xs from x);exact (show h'.IsList a xs from⟨o,g o e,p⟩)
 | false=>obtain⟨o,e,p⟩:=(show h.IsTuple a xs from x);exact (show h'.IsTuple a xs from⟨o,g o e,p⟩)
def tY.obj {b:Bool}{h:Heap}{it a:Addr}{k:Nat} (x:tY b h it a k):∃o,h.get? it=some o/\∀v,o.data≠.cell v:=by
 cases b with
 | true=>obtain⟨o,e,_,d⟩:=(show h.IsListIter it a k from x);exact⟨o,e,fun v z=>by rw [d] at z;cases z⟩
 | false=>obtain⟨o,e,_,d⟩:=(show h.IsTupleIter it a k from x);exact⟨o,e,fun v z=>by rw [d] at z;cases z⟩
def iQ.lt {b:Bool}{h:Heap}{a:Addr}{xs:Array Value} (x:iQ b h a xs):a < h.objs.size:=by
 cases b with
 | true=>obtain⟨o,e,p⟩:=(show h.IsList a xs from x);exact Ao e
 | false=>obtain⟨o,e,p⟩:=(show h.IsTuple a xs from x);exact Ao e
section
variable {prog:Program}{w:World}{A:Around}{E:Value->Shared->Prop}{s:Shared}
def kL {b:Bool}{it t:Addr}{i:Nat}{items:Array Value}{x:Value}{Q:Value->Shared->Prop} (h:tY b s.heap it t i) (ht:iQ b s.heap t items) (hx:items[i]?=some x)
  (q:∀h':Heap,tY b h' it t (i+1)->B6 it s.heap h'->Q x {s with heap:=h'}):wpAny (model prog w) A (Builtin.SmallTypes.nextOf (.ref it)) Q E s:=by
 cases b with
 | true=>exact wpAny_nextOf_list_item h ht hx fun h' a b=>q h' a b
 | false=>exact iq h ht hx q
def su {b:Bool}{it t:Addr}{i:Nat}{items:Array Value}{Q:Value->Shared->Prop} (hA:A.handled=none) (h:tY b s.heap it t i) (ht:iQ b s.heap t items) (hx:items[i]?=none)
  (q:∀(h':Heap) (e:Addr),Ff it s.heap h'->(∃o,h'.get? e=some o/\o.cls=.type "StopIteration")->E (.ref e) {s with heap:=h'}):wpAny (model prog w) A (Builtin.SmallTypes.nextOf (.ref it)) Q E s:=by
 cases b with
 | true=>exact wpAny_nextOf_list_end hA h ht hx fun h' e a b=>q h' e a b
 | false=>exact i9 hA h ht hx q
def Jy:Bool->String
 | true=>"list_iterator"
 | false=>"tuple_iterator"
def u5 {b:Bool}{a:Addr}{xs:Array Value}{Q:Value->Shared->Prop} (h:iQ b s.heap a xs) (q:Q (.ref s.heap.objs.size) {s with heap:=s.heap.push {cls:=.type (Jy b),data:=.fields #[.ref a,.int 0 0]}}):wpAny (model prog w) A (pyIter (.ref a)) Q E s:=by
 cases b with
 | true=>exact Cm h q
 | false=>exact Dy h q
def Hn {b:Bool}{h:Heap}{it a:Addr} (e:h.get? it=some {cls:=.type (Jy b),data:=.fields #[.ref a,.int 0 0]}):tY b h it a 0:=by
 cases b with
 | true=>exact (show h.IsListIter it a 0 from⟨_,e,rfl,rfl⟩)
 | false=>exact (show h.IsTupleIter it a 0 from⟨_,e,rfl,rfl⟩)
end
structure kc (b1 b2:Bool) (h:Heap) (z TI TO i1 i2 a1 a2:Addr) (f0:Value) (k1 k2:Nat):Prop where
 zip:IsZip h z TI TO f0
 ti:IsPair h TI (.ref i1) (.ref i2)
 to:∃a b,IsPair h TO a b
 YN:tY b1 h i1 a1 k1
 YM:tY b2 h i2 a2 k2
def rF {prog:Program}{w:World}{A:Around}{E:Value->Shared->Prop}{s:Shared}{b1 b2:Bool}{z TI TO i1 i2 a1 a2:Addr}{k1 k2:Nat}{xs ys:Array Value}{x y:Value}{Q:Value->Shared->Prop} (hA:ZipApart z TI TO i1 i2 a1 a2)
  (hz:kc b1 b2 s.heap z TI TO i1 i2 a1 a2 .none k1 k2) (Rg:iQ b1 s.heap a1 xs) (fu:iQ b2 s.heap a2 ys) (hx:xs[k1]?=some x) (hy:ys[k2]?=some y)
  (q:∀h':Heap,kc b1 b2 h' z TI TO i1 i2 a1 a2 (rawInt s.heap.objs.size) (k1+1) (k2+1)->IsPair h' s.heap.objs.size x y->(∀c o,c≠z->c≠TO->c≠i1->c≠i2->s.heap.get? c=some o->h'.get? c=some o)->Q (.ref s.heap.objs.size) {s with heap:=h'}) :
  wpAny (model prog w) A (Builtin.«zip.__next__» {pos:=[.ref z]}) (fun fin s'=>∃v,fin=Fh (Fg v)/\Q v s') E s:=by
 obtain⟨hz,PF,⟨ta,tb,hto⟩,YX,Xm⟩:=hz;show wpAny _ _ (field (.ref z) 2 >>= fun r=>_) _ _ s;refine Aa (AR hz rfl rfl ?_);show wpAny _ _ (field (.ref z) 3 >>= fun r=>_) _ _ s;refine Aa (AR hz rfl rfl ?_);show wpAny _ _ (seqItems? (.ref TI) >>= fun r=>_) _ _ s;refine Aa (Bt PF rfl ?_);show wpAny _ _ (Builtin.SmallTypes.ownedTupleIsFree (.ref z) >>= fun r=>_) _ _ s;refine Aa ?_;unfold Builtin.SmallTypes.ownedTupleIsFree;refine Aa (AR hz rfl rfl ?_);refine Ah ?_;show wpAny _ _ (rule "zip.__next__.owned-tuple-again" >>= fun r=>_) _ _ s;refine Aa (Cy ?_);refine Aa (AR hz rfl rfl ?_);show wpAny _ _ (setField (.ref z) 0 .ellipsis >>= fun r=>_) _ _ s;refine Aa (AX hz (show 0 < 5 by decide) fun h1 z1 b1=>?_);show wpAny _ _ ((forIn [(Av i1,0),(Av i2,1)] _ _) >>= fun r=>_) _ _ _;refine Aa ?_;rw [BE];have uL:∀b,b≠z->h1.get? b=s.heap.get? b:=b1.2;refine Aa ?_;refine Aa (DW ?_);show wpAny _ _ (Builtin.SmallTypes.nextOf (.ref i1) >>= fun v=>pure (some v)) _ _ _;refine Aa (kL (YX.move fun o e=>(uL _ hA.i1z).trans e) (Rg.move fun o e=>(uL _ hA.l1z).trans e) hx fun h2 j2 b2=>Ah ?_);have Mu:∀b,b≠z->b≠i1->h2.get? b=s.heap.get? b:=fun b n1 n2=>(b2.2 b n2).trans (uL b n1);have to2:IsPair h2 TO ta tb:=(Mu _ hA.TOz hA.TOi1).trans hto;show wpAny _ _ (seqItems? (.ref TO) >>= fun r=>_) _ _ _;refine Aa (Bt to2 rfl ?_);refine Aa (C2 to2 fun h3 t3 b3=>?_);have get3:∀b,b≠z->b≠i1->b≠TO->h3.get? b=s.heap.get? b:=fun b n1 n2 n3=>(b3.2 b n3).trans (Mu b n1 n2);refine Aa (C3 (Ah ?_));show wpAny _ _ (forIn [(Av i2,1)] _ _) _ _ _;rw [BE];refine Aa ?_;refine Aa (DW ?_);show wpAny _ _ (Builtin.SmallTypes.nextOf (.ref i2) >>= fun v=>pure (some v)) _ _ _;refine Aa (kL (Xm.move fun o e=>(get3 _ hA.i2z hA.i12.symm hA.TOi2.symm).trans e) (fu.move fun o e=>(get3 _ hA.l2z hA.l2i1 hA.l2TO).trans e) hy fun h4 j4 b4=>Ah ?_);have to4:IsPair h4 TO x tb:=(b4.2 _ hA.TOi2).trans t3;show wpAny _ _ (seqItems? (.ref TO) >>= fun r=>_) _ _ _;refine Aa (Bt to4 rfl ?_);refine Aa (C2 to4 fun h5 t5 b5=>?_);have to5:IsPair h5 TO x y:=t5;refine Aa (C3 (Ah ?_));show wpAny _ _ (forIn [] _ _) _ _ _;rw [DC];refine Ah ?_;show wpAny _ _ (seqItems? (.ref TO) >>= fun r=>_) _ _ _;refine Aa (Bt to5 rfl ?_);show wpAny _ _ (newTuple [x,y] >>= fun r=>_) _ _ _;have ZV:h5.objs.size=s.heap.objs.size:=b5.1.trans (b4.1.trans (b3.1.trans (b2.1.trans b1.1)));refine Aa (CJ ?_ (by show 2<=sizeLine;decide));have Xx:∀b,b≠z->b≠i1->b≠TO->b≠i2->h5.get? b=s.heap.get? b:=fun b n1 n2 n3 n4=>(b5.2 b n3).trans ((b4.2 b n4).trans (get3 b n1 n2 n3));have z5:h5.get? z=some {cls:=.type "zip",data:=.fields #[.ellipsis,.bool false,.bool false,.ref TI,.ref TO]}:=(b5.2 _ hA.TOz.symm).trans ((b4.2 _ hA.i2z.symm).trans ((b3.2 _ hA.TOz.symm).trans ((b2.2 _ hA.i1z.symm).trans z1)));have kp:∀b o,h5.get? b=some o->(h5.push {cls:=.type "tuple",data:=.seq #[x,y]}).get? b=some o:=fun b o e=>Al _ e;have aab:(h5.push {cls:=.type "tuple",data:=.seq #[x,y]}).get? h5.objs.size=some {cls:=.type "tuple",data:=.seq #[x,y]}:=Ap _ rfl;refine Aa ?_;show wpAny _ _ (setField (.ref z) 0 (rawInt h5.objs.size) >>= fun _=>setField (.ref z) 1 (.bool false)) _ _ _;refine Aa (AX (kp _ _ z5) (show 0 < 5 by decide) fun h7 z7 b7=>?_);refine AX z7 (show 1 < 5 by decide) fun h8 z8 b8=>?_;have JL:∀b,b≠z->h8.get? b=(h5.push {cls:=.type "tuple",data:=.seq #[x,y]}).get? b:=fun b n=>(b8.2 b n).trans (b7.2 b n);have nz:s.heap.objs.size≠z:=fun e=>by have:=Ao hz;rw [<- e] at this;exact AZ _ this
 refine Ah ⟨.ref h5.objs.size,rfl,?_⟩;rw [ZV];refine q h8 ⟨?_,?_,?_,?_,?_⟩ ?_ ?_
 ·rw [<- ZV];exact z8
 ·rw [IsPair,JL _ hA.TIz];exact kp _ _ ((Xx _ hA.TIz hA.TIi1 hA.TITO hA.TIi2).trans PF)
 ·exact⟨x,y,by rw [IsPair,JL _ hA.TOz];exact kp _ _ to5⟩
 ·refine j2.move fun o e=>?_;rw [JL _ hA.i1z];exact kp _ _ ((b5.2 _ hA.TOi1.symm).trans ((b4.2 _ hA.i12).trans ((b3.2 _ hA.TOi1.symm).trans e)))
 ·refine j4.move fun o e=>?_;rw [JL _ hA.i2z];exact kp _ _ ((b5.2 _ hA.TOi2.symm).trans e)
 ·rw [IsPair,JL _ nz,<- ZV];exact aab
 ·intro c o n1 n2 n3 n4 e;rw [JL _ n1];exact kp _ _ ((Xx _ n1 n3 n2 n4).trans e)
def um {prog:Program}{w:World}{A:Around}{E:Value->Shared->Prop}{s:Shared}{b1 b2:Bool}{z TI TO i1 i2 a1 a2:Addr}{k1 k2:Nat}{xs ys:Array Value}{Q:PySem.Fin->Shared->Prop} (hh:A.handled=none) (hA:ZipApart z TI TO i1 i2 a1 a2)
  (hz:kc b1 b2 s.heap z TI TO i1 i2 a1 a2 .none k1 k2) (Rg:iQ b1 s.heap a1 xs) (fu:iQ b2 s.heap a2 ys) (hx:xs[k1]?=none\/ys[k2]?=none)
  (q:∀(h':Heap) (e:Addr),(∀c o,c≠z->c≠TO->c≠i1->c≠i2->s.heap.get? c=some o->h'.get? c=some o)->(∃o,h'.get? e=some o/\o.cls=.type "StopIteration")->E (.ref e) {s with heap:=h'}) :
  wpAny (model prog w) A (Builtin.«zip.__next__» {pos:=[.ref z]}) Q E s:=by
 obtain⟨hz,PF,⟨ta,tb,hto⟩,YX,Xm⟩:=hz;show wpAny _ _ (field (.ref z) 2 >>= fun r=>_) _ _ s;refine Aa (AR hz rfl rfl ?_);show wpAny _ _ (field (.ref z) 3 >>= fun r=>_) _ _ s;refine Aa (AR hz rfl rfl ?_);show wpAny _ _ (seqItems? (.ref TI) >>= fun r=>_) _ _ s;refine Aa (Bt PF rfl ?_);show wpAny _ _ (Builtin.SmallTypes.ownedTupleIsFree (.ref z) >>= fun r=>_) _ _ s;refine Aa ?_;unfold Builtin.SmallTypes.ownedTupleIsFree;refine Aa (AR hz rfl rfl ?_);refine Ah ?_;show wpAny _ _ (rule "zip.__next__.owned-tuple-again" >>= fun r=>_) _ _ s;refine Aa (Cy ?_);refine Aa (AR hz rfl rfl ?_);show wpAny _ _ (setField (.ref z) 0 .ellipsis >>= fun r=>_) _ _ s;refine Aa (AX hz (show 0 < 5 by decide) fun h1 z1 b1'=>?_);show wpAny _ _ ((forIn [(Av i1,0),(Av i2,1)] _ _) >>= fun r=>_) _ _ _;refine Aa ?_;rw [BE];have uL:∀b,b≠z->h1.get? b=s.heap.get? b:=b1'.2;refine Aa ?_;refine Aa (DW ?_);show wpAny _ _ (Builtin.SmallTypes.nextOf (.ref i1) >>= fun v=>pure (some v)) _ _ _;have fin:∀{h2:Heap}{e:Addr},h2.get? z=some {cls:=.type "zip",data:=.fields #[.ellipsis,.bool false,.bool false,.ref TI,.ref TO]}->(∃o,h2.get? e=some o/\o.cls=.type "StopIteration")->(∀c o,c≠z->c≠TO->c≠i1->c≠i2->s.heap.get? c=some o->h2.get? c=some o)->wpAny (model prog w) A (setField (.ref z) 0 .none) (fun _ s'=>E (.ref e) s') (fun _ _=>True) {s with heap:=h2}:=fun {h2 e} z2 ex k=>by
  refine AX z2 (show 0 < 5 by decide) fun h3 z3 b3=>?_;refine q h3 e (fun c o n1 n2 n3 n4 ec=>?_) ?_
  ·rw [b3.2 _ n1];exact k c o n1 n2 n3 n4 ec
  ·obtain⟨o,eo,hc⟩:=ex;by_cases he:e=z
   ·subst he;rw [z2] at eo;cases eo;exact absurd (show BG "zip"=BG "StopIteration" from hc) (by decide)
   ·exact⟨o,(b3.2 _ he).trans eo,hc⟩
 cases hx1:xs[k1]? with
 | none=>
  refine Aa (su hh (YX.move fun o e=>(uL _ hA.i1z).trans e) (Rg.move fun o e=>(uL _ hA.l1z).trans e) hx1 fun h2 e k ex=>?_);have z2:h2.get? z=some {cls:=.type "zip",data:=.fields #[.ellipsis,.bool false,.bool false,.ref TI,.ref TO]}:=k _ _ hA.i1z.symm z1;refine AX z2 (show 0 < 5 by decide) fun h3 z3 b3=>?_;refine q h3 e (fun c o n1 n2 n3 n4 ec=>?_) ?_
  ·rw [b3.2 _ n1];exact k _ _ n3 ((uL _ n1).trans ec)
  ·obtain⟨o,eo,hc⟩:=ex;by_cases he:e=z
   ·subst he;rw [z2] at eo;cases eo;exact absurd (show BG "zip"=BG "StopIteration" from hc) (by decide)
   ·exact⟨o,(b3.2 _ he).trans eo,hc⟩
 | some x=>
  have hy:ys[k2]?=none:=by
   rcases hx with h | h
   ·rw [hx1] at h;cases h
   ·exact h
  refine Aa (kL (YX.move fun o e=>(uL _ hA.i1z).trans e) (Rg.move fun o e=>(uL _ hA.l1z).trans e) hx1 fun h2 j2 b2'=>Ah ?_);have Mu:∀b,b≠z->b≠i1->h2.get? b=s.heap.get? b:=fun b n1 n2=>(b2'.2 b n2).trans (uL b n1);have to2:IsPair h2 TO ta tb:=(Mu _ hA.TOz hA.TOi1).trans hto;show wpAny _ _ (seqItems? (.ref TO) >>= fun r=>_) _ _ _;refine Aa (Bt to2 rfl ?_);refine Aa (C2 to2 fun h3 t3 b3=>?_);have get3:∀b,b≠z->b≠i1->b≠TO->h3.get? b=s.heap.get? b:=fun b n1 n2 n3=>(b3.2 b n3).trans (Mu b n1 n2);refine Aa (C3 (Ah ?_));show wpAny _ _ (forIn [(Av i2,1)] _ _) _ _ _;rw [BE];refine Aa ?_;refine Aa (DW ?_);show wpAny _ _ (Builtin.SmallTypes.nextOf (.ref i2) >>= fun v=>pure (some v)) _ _ _;refine Aa (su hh (Xm.move fun o e=>(get3 _ hA.i2z hA.i12.symm hA.TOi2.symm).trans e) (fu.move fun o e=>(get3 _ hA.l2z hA.l2i1 hA.l2TO).trans e) hy fun h4 e k ex=>?_);have z4:h4.get? z=some {cls:=.type "zip",data:=.fields #[.ellipsis,.bool false,.bool false,.ref TI,.ref TO]}:=k _ _ hA.i2z.symm ((b3.2 _ hA.TOz.symm).trans ((b2'.2 _ hA.i1z.symm).trans z1));refine AX z4 (show 0 < 5 by decide) fun h5 z5 b5=>?_;refine q h5 e (fun c o n1 n2 n3 n4 ec=>?_) ?_
  ·rw [b5.2 _ n1];exact k _ _ n4 ((get3 _ n1 n3 n2).trans ec)
  ·obtain⟨o,eo,hc⟩:=ex;by_cases he:e=z
   ·subst he;rw [z4] at eo;cases eo;exact absurd (show BG "zip"=BG "StopIteration" from hc) (by decide)
   ·exact⟨o,(b5.2 _ he).trans eo,hc⟩
def oT {prog:Program}{w:World}{A:Around}{E:Value->Shared->Prop}{s:Shared}{b1 b2:Bool}{z TI TO i1 i2 a1 a2:Addr}{k1 k2:Nat}{xs ys:Array Value}{x y:Value}{Q:Option Value->Shared->Prop} (hA:ZipApart z TI TO i1 i2 a1 a2)
  (hz:kc b1 b2 s.heap z TI TO i1 i2 a1 a2 .none k1 k2) (Rg:iQ b1 s.heap a1 xs) (fu:iQ b2 s.heap a2 ys) (hx:xs[k1]?=some x) (hy:ys[k2]?=some y)
  (q:∀h':Heap,kc b1 b2 h' z TI TO i1 i2 a1 a2 (rawInt s.heap.objs.size) (k1+1) (k2+1)->IsPair h' s.heap.objs.size x y->(∀c o,c≠z->c≠TO->c≠i1->c≠i2->s.heap.get? c=some o->h'.get? c=some o)->Q (some (.ref s.heap.objs.size)) {s with heap:=h'}) :
  wpAny (model prog w) A (pyNext (.ref z)) Q E s:=by
 have ty:s.TypeIs (.ref z) "zip":=⟨_,hz.zip,rfl⟩;unfold pyNext;refine Aa (Cu (AM ty C8 (Bb C8 ty F.entry_zip_next ?_ (F.args_zip_next_1 _))));exact rF hA hz Rg fu hx hy fun h' a b c=>Ah (q h' a b c)
def qx {prog:Program}{w:World}{A:Around}{E:Value->Shared->Prop}{s:Shared}{b1 b2:Bool}{z TI TO i1 i2 a1 a2:Addr}{k1 k2:Nat}{xs ys:Array Value}{Q:Option Value->Shared->Prop} (hh:A.handled=none) (hA:ZipApart z TI TO i1 i2 a1 a2)
  (hz:kc b1 b2 s.heap z TI TO i1 i2 a1 a2 .none k1 k2) (Rg:iQ b1 s.heap a1 xs) (fu:iQ b2 s.heap a2 ys) (hx:xs[k1]?=none\/ys[k2]?=none)
  (q:∀h':Heap,(∀c o,c≠z->c≠TO->c≠i1->c≠i2->s.heap.get? c=some o->h'.get? c=some o)->Q none {s with heap:=h'}) :
  wpAny (model prog w) A (pyNext (.ref z)) Q E s:=by
 have ty:s.TypeIs (.ref z) "zip":=⟨_,hz.zip,rfl⟩;unfold pyNext;refine Aa (Cu (AM ty C8 (Bb C8 ty F.entry_zip_next ?_ (F.args_zip_next_1 _))));refine um (A:=A.in1) hh hA hz Rg fu hx fun h' e k ex=>?_;obtain⟨o,eo,hc⟩:=ex;refine Aa (CT (T:="StopIteration") ⟨o,eo,hc⟩ isSubtype_stop ?_);rw [if_pos rfl];exact Ah (q h' k)
def sD (b1 b2:Bool) (a1 a2:Addr) (xs ys:Array Value):Meets (Builtin.«zip.__new__» {pos:=[.type "zip",.ref a1,.ref a2]}) (fun _ R s=>iQ b1 s.heap a1 xs/\iQ b2 s.heap a2 ys/\
  ∀h':Heap,kc b1 b2 h' (s.heap.objs.size+4) (s.heap.objs.size+2) (s.heap.objs.size+3) s.heap.objs.size (s.heap.objs.size+1) a1 a2 .none 0 0->(∀b o,s.heap.get? b=some o->h'.get? b=some o)->R (.ok (.ret (.ref (s.heap.objs.size+4)))) {s with heap:=h'}):=
 .of_wp fun prog w A R s h=>by
  obtain⟨h1,h2,q⟩:=h;unfold Builtin.«zip.__new__»;refine Aa ?_;unfold Builtin.SmallTypes.newClass;refine Aa (Cc (a:=true) rfl ?_);rw [if_neg (by decide)];refine Aa (Cc sub_zip ?_);rw [if_neg (by decide)];refine Ah ?_;show wpAny _ _ (Builtin.SmallTypes.iterAll [.ref a1,.ref a2] >>= fun r=>_) _ _ s;refine Aa ?_;unfold Builtin.SmallTypes.iterAll;refine Aa ?_;rw [BE];refine Aa ?_;refine Aa (Be (u5 h1 (Ah ?_)));have k1:∀b o,s.heap.get? b=some o->(s.heap.push {cls:=.type (Jy b1),data:=.fields #[.ref a1,.int 0 0]}).get? b=some o:=fun b o e=>Al _ e;have g1:(s.heap.push {cls:=.type (Jy b1),data:=.fields #[.ref a1,.int 0 0]}).get? s.heap.objs.size=some {cls:=.type (Jy b1),data:=.fields #[.ref a1,.int 0 0]}:=Ap _ rfl;have z1:(s.heap.push {cls:=.type (Jy b1),data:=.fields #[.ref a1,.int 0 0]}).objs.size=s.heap.objs.size+1:=Cn ..;generalize s.heap.push {cls:=.type (Jy b1),data:=.fields #[.ref a1,.int 0 0]}=uk at k1 g1 z1 ⊢;show wpAny _ _ (forIn [Av a2] _ _) _ _ _;rw [BE];refine Aa ?_;refine Aa (Be (u5 (xs:=ys) (h2.move fun o e=>k1 _ _ e) (Ah ?_)));show wpAny _ _ (forIn [] _ _) _ _ _;rw [DC];refine Ah (Ah ?_);have k2:∀b o,uk.get? b=some o->(uk.push {cls:=.type (Jy b2),data:=.fields #[.ref a2,.int 0 0]}).get? b=some o:=fun b o e=>Al _ e;have g2:(uk.push {cls:=.type (Jy b2),data:=.fields #[.ref a2,.int 0 0]}).get? uk.objs.size=some {cls:=.type (Jy b2),data:=.fields #[.ref a2,.int 0 0]}:=Ap _ rfl;have z2:(uk.push {cls:=.type (Jy b2),data:=.fields #[.ref a2,.int 0 0]}).objs.size=uk.objs.size+1:=Cn ..;show wpAny _ _ (newTuple [.ref s.heap.objs.size,.ref uk.objs.size] >>= fun r=>_) _ _ {s with heap:=uk.push {cls:=.type (Jy b2),data:=.fields #[.ref a2,.int 0 0]}};generalize uk.push {cls:=.type (Jy b2),data:=.fields #[.ref a2,.int 0 0]}=xk at k2 g2 z2 ⊢;refine Aa (CJ ?_ (by show 2<=sizeLine;decide));have k3:∀b o,xk.get? b=some o->(xk.push {cls:=.type "tuple",data:=.seq [Av s.heap.objs.size,Av uk.objs.size].toArray}).get? b=some o:=fun b o e=>Al _ e;have g3:(xk.push {cls:=.type "tuple",data:=.seq [Av s.heap.objs.size,Av uk.objs.size].toArray}).get? xk.objs.size=some {cls:=.type "tuple",data:=.seq #[.ref s.heap.objs.size,.ref uk.objs.size]}:=Ap _ rfl;have z3:(xk.push {cls:=.type "tuple",data:=.seq [Av s.heap.objs.size,Av uk.objs.size].toArray}).objs.size=xk.objs.size+1:=Cn ..;show wpAny _ _ (newTuple [.none,.none] >>= fun r=>_) _ _ {s with heap:=xk.push {cls:=.type "tuple",data:=.seq [Av s.heap.objs.size,Av uk.objs.size].toArray}};generalize xk.push {cls:=.type "tuple",data:=.seq [Av s.heap.objs.size,Av uk.objs.size].toArray}=JD at k3 g3 z3 ⊢;refine Aa (CJ ?_ (by show 2<=sizeLine;decide));have k4:∀b o,JD.get? b=some o->(JD.push {cls:=.type "tuple",data:=.seq [Ba,Ba].toArray}).get? b=some o:=fun b o e=>Al _ e;have g4:(JD.push {cls:=.type "tuple",data:=.seq [Ba,Ba].toArray}).get? JD.objs.size=some {cls:=.type "tuple",data:=.seq #[.none,.none]}:=Ap _ rfl;have z4:(JD.push {cls:=.type "tuple",data:=.seq [Ba,Ba].toArray}).objs.size=JD.objs.size+1:=Cn ..;show wpAny _ _ (newObj (.type "zip") (.fields #[.none,.bool false,.bool false,.ref xk.objs.size,.ref JD.objs.size]) >>= fun r=>_) _ _ {s with heap:=JD.push {cls:=.type "tuple",data:=.seq [Ba,Ba].toArray}};generalize JD.push {cls:=.type "tuple",data:=.seq [Ba,Ba].toArray}=UW at k4 g4 z4 ⊢;refine Aa (Bd ?_ (by simp [sizeOk];decide));have k5:∀b o,UW.get? b=some o->(UW.push {cls:=.type "zip",data:=.fields #[.none,.bool false,.bool false,.ref xk.objs.size,.ref JD.objs.size]}).get? b=some o:=fun b o e=>Al _ e;have g5:(UW.push {cls:=.type "zip",data:=.fields #[.none,.bool false,.bool false,.ref xk.objs.size,.ref JD.objs.size]}).get? UW.objs.size=some {cls:=.type "zip",data:=.fields #[.none,.bool false,.bool false,.ref xk.objs.size,.ref JD.objs.size]}:=Ap _ rfl;have e1:uk.objs.size=s.heap.objs.size+1:=z1;have e2:xk.objs.size=s.heap.objs.size+2:=by rw [z2,e1]
  have e3:JD.objs.size=s.heap.objs.size+3:=by rw [z3,e2]
  have e4:UW.objs.size=s.heap.objs.size+4:=by rw [z4,e3]
  refine Ah ⟨.ref UW.objs.size,rfl,?_⟩;rw [e2,e3] at g5 k5 ⊢;rw [e4] at g5 ⊢;rw [e3] at g4;rw [e1,e2] at g3;rw [e1] at g2;refine q _ ⟨g5,k5 _ _ (k4 _ _ g3),⟨_,_,k5 _ _ g4⟩,Hn (k5 _ _ (k4 _ _ (k3 _ _ (k2 _ _ g1)))),Hn (k5 _ _ (k4 _ _ (k3 _ _ g2)))⟩ fun b o e=>k5 _ _ (k4 _ _ (k3 _ _ (k2 _ _ (k1 _ _ e))))
def JY {prog:Program}{w:World}{A:Around}{E:Value->Shared->Prop}{s:Shared}{b1 b2:Bool}{a1 a2:Addr}{xs ys:Array Value}{Q:Value->Shared->Prop} (h1:iQ b1 s.heap a1 xs) (h2:iQ b2 s.heap a2 ys)
  (q:∀h':Heap,kc b1 b2 h' (s.heap.objs.size+4) (s.heap.objs.size+2) (s.heap.objs.size+3) s.heap.objs.size (s.heap.objs.size+1) a1 a2 .none 0 0->(∀b o,s.heap.get? b=some o->h'.get? b=some o)->Q (.ref (s.heap.objs.size+4)) {s with heap:=h'}) :
  wpAny (model prog w) A (call (.type "zip") [.ref a1,.ref a2]) Q E s:=
 callType_new F.called_zip (by decide) (F.typeCall_zip_2 _ _) (F.newCall_zip_2 _ _) (fun o=>F.args_object_init_3 o _ _) F.entry_zip_new (sD b1 b2 a1 a2 xs ys) ⟨h1,h2,fun h' z k=>⟨⟨_,z.zip,rfl⟩,q h' z k⟩⟩
def Km (b:Bool) (K:Ab) (H:Hp) (a:Addr) (xs:List V):Prop:=match b with
 | true=>cT K H a xs
 | false=>da K H a xs
def Inv.UM {X:Cx}{pins:List (Addr×Obj)}{σ:L2.St}{H:Hp}{s:Shared}{b:Bool}{a:Addr}{xs:List V} (I:Inv X pins σ H s) (h:Km b X.K H a xs):∃aq:List Value,Vals xs aq/\iQ b s.heap a aq.toArray/\xs.length<=sizeLine:=by
 cases b with
 | true=>obtain⟨aq,r,p,z⟩:=I.list (show cT X.K H a xs from h);exact⟨aq,r,p.isList,z⟩
 | false=>obtain⟨aq,r,p,z⟩:=I.tuple (show da X.K H a xs from h);exact⟨aq,r,p,z⟩
def Inv.Hm {X:Cx}{pins:List (Addr×Obj)}{σ:L2.St}{H:Hp}{s:Shared}{b:Bool}{a:Addr}{xs ys:List V} (I:Inv X pins σ H s) (h:Km b X.K H a xs) (h':Km b X.K H a ys):xs=ys:=by
 cases b with
 | true=>
  obtain⟨aq,k,⟨o,n,h1,h2,h3,h4⟩,_⟩:=I.list (show cT X.K H a xs from h);obtain⟨its',k',⟨o',n',jF,yu,Ms,TR⟩,_⟩:=I.list (show cT X.K H a ys from h');rw [h1] at jF;cases jF;rw [h4] at TR;have:aq=its':=by injection TR with a b;simpa using a
  subst this;exact Vals.inj k k'
 | false=>exact I.lI h h'
def Yj (b1 b2:Bool) (K:Ab) (a1 a2:Addr):It where
 go:=fun i H=>∃xs ys x y,Km b1 K H a1 xs/\Km b2 K H a2 ys/\xs[i]?=some x/\ys[i]?=some y
 QN:=fun i H v H'=>∃p x y,v=.ref p/\H p=none/\H'=upd H p (.tup [x,y])/\(∀xs,Km b1 K H a1 xs->xs[i]?=some x)/\∀ys,Km b2 K H a2 ys->ys[i]?=some y
 stop:=fun i H=>∃xs ys,Km b1 K H a1 xs/\Km b2 K H a2 ys/\(xs.length<=i\/ys.length<=i)
def IE {P:Program}{w:World}{K:Ab}{b1 b2:Bool}{elts:List Expr}{kk:Nat}{pos:Pos}{z TI TO i1 i2 a1 a2:Addr} (hA:ZipApart z TI TO i1 i2 a1 a2):Turn P w K (.Tuple elts kk pos) (Yj b1 b2 K a1 a2) [z,TI,TO,i1,i2] z (fun i h=>kc b1 b2 h z TI TO i1 i2 a1 a2 .none i i) where
 mem:=by simp
 obj:=fun i h st b hb=>by
  simp only [Az,Br,or_false] at hb;rcases hb with rfl | rfl | rfl | rfl | rfl
  ·exact⟨_,st.zip,fun v z=>by cases z⟩
  ·exact⟨_,st.ti,fun v z=>by cases z⟩
  ·obtain⟨_,_,e⟩:=st.to;exact⟨_,e,fun v z=>by cases z⟩
  ·exact st.YN.obj
  ·exact st.YM.obj
 keep:=fun i h h' st k=>⟨k z (by simp) _ st.zip,k TI (by simp) _ st.ti,let ⟨a,b,e⟩:=st.to;⟨a,b,k TO (by simp) _ e⟩,st.YN.move fun o e=>k i1 (by simp) _ e,st.YM.move fun o e=>k i2 (by simp) _ e⟩
 item:=by
  intro X hP hw hK hc i pins s σ H E I hf st hg;subst hP hw hK;obtain⟨xs,ys,x,y,hx,hy,gx,gy⟩:=hg;obtain⟨aq,rx,tx,_⟩:=I.UM hx;obtain⟨bI,ry,ty,_⟩:=I.UM hy;obtain⟨u,gu,ru⟩:=kA rx gx;obtain⟨v,gv,rv⟩:=kA ry gy;refine oT hA st tx ty (by simpa using gu) (by simpa using gv) fun h' zt np k=>?_;refine⟨_,rfl,?_⟩;show wpAny _ _ (load z >>= fun o=>_) _ _ _;refine Aa (wpAny_load zt.zip ?_);show wpAny _ _ (if ((["enumerate","zip","dict_itemiterator","dict_reverseitemiterator","odict_iterator","itertools.zip_longest","itertools.pairwise"].contains "zip"&&(some (rawInt s.heap.objs.size)==some (rawInt s.heap.objs.size)))=true) then (do rule "for.unpacks-the-owned-tuple";setField (.ref z) 0 .none) else pure ()) _ _ _;rw [if_pos (by rw [beq_self_eq_true];decide)];refine Aa (Cy ?_);refine AX zt.zip (show 0 < 5 by decide) fun h2 z2 b2=>?_;have lt:∀b∈[z,TI,TO,i1,i2],b < s.heap.objs.size:=fun b hb=>by
   simp only [Az,Br,or_false] at hb;rcases hb with rfl | rfl | rfl | rfl | rfl
   ·exact Ao st.zip
   ·exact Ao st.ti
   ·obtain⟨_,_,e⟩:=st.to;exact Ao e
   ·obtain⟨o,e,_⟩:=st.YN.obj;exact Ao e
   ·obtain⟨o,e,_⟩:=st.YM.obj;exact Ao e
  have nz:s.heap.objs.size≠z:=fun e=>AZ _ (by have:=lt z (by simp);rw [<- e] at this;exact this);have WN:∀b o,b∉[z,TI,TO,i1,i2]->s.heap.get? b=some o->h2.get? b=some o:=fun b o hb e=>by
   have Gy:b≠z:=fun q=>hb (by simp [q]);rw [b2.2 b Gy];exact k b o Gy (fun q=>hb (by simp [q])) (fun q=>hb (by simp [q])) (fun q=>hb (by simp [q])) e
  have WC:h2.get? s.heap.objs.size=some {cls:=.type "tuple",data:=.seq #[u,v]}:=(b2.2 _ nz).trans np;have Xo:=I.bP.fresh (Am s.heap.objs.size);refine⟨.ref s.heap.objs.size,upd H s.heap.objs.size (.tup [x,y]),I.rL (t':=s.toks) hf WN (Am _) ⟨by show 2<=sizeLine;decide,[u,v],.cons ru (.cons rv .nil),⟨_,WC,rfl,_,rfl⟩⟩,rfl,⟨_,x,y,rfl,Xo,rfl,fun xs' h'=>?_,fun ys' h'=>?_⟩,⟨z2,(b2.2 _ hA.TIz).trans zt.ti,let ⟨p,q,e⟩:=zt.to;⟨p,q,(b2.2 _ hA.TOz).trans e⟩,zt.YN.move fun o e=>(b2.2 _ hA.i1z).trans e,zt.YM.move fun o e=>(b2.2 _ hA.i2z).trans e⟩,fun b hb=>?_⟩
  ·rw [I.Hm h' hx];exact gx
  ·rw [I.Hm h' hy];exact gy
  ·rw [av (AJ (lt b hb))];exact (hf b hb).1
 done:=by
  intro X hP hw hK hc i pins s σ H E I hf st hg;subst hP hw hK;obtain⟨xs,ys,hx,hy,hl⟩:=hg;obtain⟨aq,rx,tx,_⟩:=I.UM hx;obtain⟨bI,ry,ty,_⟩:=I.UM hy;have el:=rx.length;have el2:=ry.length;refine qx (I.ok.hd hc) hA st tx ty ?_ fun h' k=>⟨rfl,I.vW (t':=s.toks) hf fun b o hb e=>k b o (fun z=>hb (by simp [z])) (fun z=>hb (by simp [z])) (fun z=>hb (by simp [z])) (fun z=>hb (by simp [z])) e⟩;rcases hl with hl | hl
  ·exact .inl (by simp;omega)
  ·exact .inr (by simp;omega)
 self:=fun A i s Q E st h=>wpAny_pyIter_zip st.zip h
def WY (K:Ab) (t1 t2:TE):TI:=fun σ H R=>t1 σ H fun x H1=>t2 σ H1 fun y H2=>∃b1 b2 a b,x=.ref a/\y=.ref b/\(∃xs,Km b1 K H2 a xs)/\(∃ys,Km b2 K H2 b ys)/\R (Yj b1 b2 K a b) H2
def OD {X:Cx} (K:Ab) (hK:X.K=K) {e1 e2:Expr}{t1 t2:TE}{elts:List Expr}{kk:Nat}{tp p1 p2:Pos} (hg:Gl X "zip") (hm:X.mg "zip"=none) (h1:PE X e1 t1) (h2:PE X e2 t2)
  (zE:starEach [e1,e2] X.env=(false,eval e1 X.env)::starEach [e2] X.env:=by rfl) (rh:starEach [e2] X.env=(false,eval e2 X.env)::starEach [] X.env:=by rfl) (eO:(backTo p2 (starEach [e2] X.env)).any (·.1)=false:=by rfl) :
  PI X (.Tuple elts kk tp) (.Call (.Name "zip" p1) [e1,e2] [] p2) (WY K t1 t2):=by
 subst hK;intro pins s σ H R I h;refine BI (jE I hg hm boot_zip ?_ (by decide) (by decide));refine A8 ?_ zE eO;rw [zE,rh];show wpAny _ _ (spliced ((false,eval e1 X.env)::(false,eval e2 X.env)::backTo p2 (starEach [] X.env))) _ _ s;refine B1 (cj (h1 pins s σ H _ I h) fun u1 s1 ⟨x,H1,I1,r1,q1⟩=>?_);refine B1 (cj (h2 pins s1 σ H1 _ I1 q1) fun u2 s2 ⟨y,H2,I2,r2,b1,b2,a,b,ex,ey,⟨xs,hx⟩,⟨ys,hy⟩,q⟩=>Ck ?_);subst ex;subst ey;cases r1;cases r2;obtain⟨aq,rx,tx,_⟩:=I2.UM hx;obtain⟨bI,ry,ty,_⟩:=I2.UM hy;have l1:a < s2.heap.objs.size:=tx.lt;have l2:b < s2.heap.objs.size:=ty.lt;refine JY tx ty fun h' zt k=>?_;refine wpAny_pyIter_zip zt.zip ?_;have dd:∀i j:Nat,i≠j->s2.heap.objs.size+i≠s2.heap.objs.size+j:=fun i j n e=>n (Nat.add_left_cancel e);have na:∀i:Nat,a≠s2.heap.objs.size+i:=fun i=>AJ (Aw l1 (Bq _ _));have nb:∀i:Nat,b≠s2.heap.objs.size+i:=fun i=>AJ (Aw l2 (Bq _ _));have hA:ZipApart (s2.heap.objs.size+4) (s2.heap.objs.size+2) (s2.heap.objs.size+3) s2.heap.objs.size (s2.heap.objs.size+1) a b:=
  ⟨dd 2 4 (by decide),dd 3 4 (by decide),dd 0 4 (by decide),dd 1 4 (by decide),dd 2 3 (by decide),dd 2 0 (by decide),dd 2 1 (by decide),dd 3 0 (by decide),dd 3 1 (by decide),dd 0 1 (by decide),na 4,na 3,na 0,na 1,nb 4,nb 3,nb 0,nb 1⟩
 refine⟨_,_,_,_,H2,rfl,I2.kept (t':=s2.toks) k,IE hA,zt,fun c hc=>?_,q⟩;have hle:s2.heap.objs.size<=c:=by
  simp only [Az,Br,or_false] at hc;rcases hc with rfl | rfl | rfl | rfl | rfl
  ·exact Bq _ _
  ·exact Bq _ _
  ·exact Bq _ _
  ·exact Am _
  ·exact Bq _ _
 exact I2.zH hle (I2.bP.fresh hle)
section
variable {X:Cx}
def V0 (K:Ab):V->Option Int->Option Int->Hp->VK->Prop:=fun x lo hi H Q=>∃a xs,x=.ref a/\da K H a xs/\
 ((HT.dE xs.length 0 lo=0/\HT.dE xs.length xs.length hi=xs.length)->Q x H)/\(¬(HT.dE xs.length 0 lo=0/\HT.dE xs.length xs.length hi=xs.length)->mE H (.tup (xR xs lo hi)) Q)
def Og (K:Ab) (hK:X.K=K):Zo X (V0 K):=by
 subst hK;intro pins s σ H x v vl vu lo hi sl Q I rx hs pl pu h;obtain⟨a,xs,rfl,hT,qw,qn⟩:=h;by_cases c:HT.dE xs.length 0 lo=0/\HT.dE xs.length xs.length hi=xs.length
 ·have q:=qw c;cases rx;obtain⟨aq,r,ht,hz⟩:=I.tuple hT;have hlen:aq.toArray.size=xs.length:=by rw [Ag];exact r.length.symm
  refine⟨"tuple",_,A9.lookup,ht.typeIs,?_⟩;obtain⟨os,Ki,UZ,PQ⟩:=id hs;have U2:s.TypeIs (.ref sl) "slice":=⟨os,Ki,UZ⟩;unfold getItem
  try with_reducible refine Be ?_
  first | refine Aa (Ah ?_) | skip
  refine Aa (DM ht.typeIs (by decide) ?_);refine Aa (AM (name:=B5 "__getitem__") ht.typeIs A9
   (Bb A9 ht.typeIs entry_tuple_getitem ?_ (args_tuple_getitem _ _)))
  show wpAny _ _ (Builtin.Tuple.tupleItemsOf (.ref a) >>= _) _ _ s;refine Aa (tupleItemsOf_ ht ?_);refine Aa (B7 U2 ?_);rw [if_pos (by decide)];refine Aa (HT.iW hs pl pu ?_);show wpAny _ _ (if (((HT.dE aq.toArray.size 0 lo:Nat):Int)==0&&(1:Int)==1&&(HT.dE aq.toArray.size aq.toArray.size hi-HT.dE aq.toArray.size 0 lo)==aq.toArray.size)=true then _ else _) _ _ s;rw [if_pos (by rw [hlen,c.1,c.2];simp)];refine Aa ?_;unfold Builtin.Tuple.tupleIsExact
  first
   | refine Aa (B7 ht.typeIs (Ah ?_))
   | refine B7 ht.typeIs (Ah ?_)
  first
   | rw [if_pos (by decide)]
   | rw [if_pos rfl]
  refine Aa (Cy (Ah ⟨_,rfl,?_⟩));exact Ah ⟨.ref a,H,I,rfl,q⟩
 ·exact R1 pins s σ H _ v vl vu lo hi sl Q I rx hs pl pu ⟨a,xs,rfl,hT,c,fun p hp=>(qn c).at p hp⟩
def V8 (K:Ab):R2:=fun x y H Q=>∃a b xs ys,x=.ref a/\y=.ref b/\da K H a xs/\da K H b ys/\xs.length+ys.length<=sizeLine/\
 (xs=[]->Q (.ref b) H)/\(xs≠[]->ys=[]->Q (.ref a) H)/\(xs≠[]->ys≠[]->mE H (.tup (xs++ys)) Q)
def OS (K:Ab) (hK:X.K=K):jm X (binaryOp .Add) (V8 K):=by
 subst hK;intro pins s σ H x y v u Q I rx ry h;obtain⟨a,b,xs,ys,rfl,rfl,ha,hb,hz,q0,q1,q2⟩:=h;by_cases c:xs=[]
 ·cases rx;cases ry;obtain⟨aq,r1,p1,_⟩:=I.tuple ha;obtain⟨bI,r2,p2,_⟩:=I.tuple hb;obtain⟨⟨cls,dd,data,sl⟩,ho,hc,n,hd⟩:=id p1;obtain⟨⟨X6,X4,data2,UN⟩,NK,Rm,n2,hd2⟩:=id p2;simp only at hc hd Rm hd2;subst hc hd Rm hd2;exact concat_meets ⟨_,ho,rfl⟩ ⟨_,NK,rfl⟩ noFill_tuple_add seq_tuple_add CH CB (Cs _ _)
   (tuple_addW0 a b aq.toArray bI.toArray n n2 dd X4 sl UN (by rw [r1.jA.mpr c];rfl)) ⟨ho,NK,.ref b,H,I,rfl,q0 c⟩
 ·exact HE pins s σ H _ _ v u Q I rx ry ⟨a,b,xs,ys,rfl,rfl,ha,hb,c,hz,q1 c,fun n p hp=>(q2 c n).at p hp⟩
end
end L2
namespace FL
section
open PySem PySem.Spec PyProof.Rows L2 PL
variable {K:Ab}
section
variable {X:Cx}{a b c e:Expr}{pos p p1 p2:Pos}{fs:aX}{w wa wb:W PV}{wl wm:W (List PV)}
def addW:PV->PV->W PV
 | .int i,.int j=>.ret (.int (i+j))
 | .str a,.str b=>.gF (a.length+b.length<=sizeLine) (.ret (.str (a++b)))
 | .tup a,.tup b=>.gF (a.length+b.length<=sizeLine) (.ret (.tup (a++b)))
 | _,_=>.fail
def bU (hK:X.K=K) (ha:EF X K fs a wa) (hb:EF X K fs b wb):EF X K fs (.BinOp a .Add b pos) (.bind wa fun x=>.bind wb fun y=>addW x y):=
 ⟨PE.imp (HA ((OU K hK).or (OS K hK)) ha.p hb.p) fun σ H Q ⟨sr,q⟩=>⟨sr,wa.mono (fun x q1 u1 H1 g1 s1 v1=>⟨s1,wb.mono (fun y q2 u2 H2 g2 s2 v2=>by
  have Vs:=g2.vr s1 v1;cases Vs with
  | int i=>
   cases v2 with
   | int j=>exact .inl ⟨_,rfl,q2 _ H2 (g1.trans g2) s2 (.int _)⟩
   | _=>exact q2.elim
  | str i=>
   cases v2 with
   | str j=>exact .inl ⟨_,rfl,q2.1,q2.2 _ H2 (g1.trans g2) s2 (.str _)⟩
   | _=>exact q2.elim
  | @tup p vs l e r=>
   cases v2 with
   | @tup p' QP l' e' r'=>
    have q2:(W.gF (l.length+l'.length<=sizeLine) (W.ret (PV.tup (l++l')))).run _:=q2;refine .inr ⟨p,p',vs,QP,rfl,rfl,da.of e,da.of e',by rw [r.length,r'.length];exact q2.1,fun z=>?_,fun _ z=>?_,fun _ _ q H3 s3 h3 n3=>?_⟩
    ·have z':=(PL.aK.jA r).mp z;subst z';exact q2.2 _ H2 (g1.trans g2) s2 (.tup e' r')
    ·have z':=(PL.aK.jA r').mp z;subst z';have q2:=q2.2;rw [Dj] at q2;exact q2 _ H2 (g1.trans g2) s2 (.tup e r)
    ·exact q2.2 _ H3 ((g1.trans g2).trans (cL.same s3)) (s2.same s3) (.tup h3 (aK.tk s3.fc (r.append r')))
   | _=>exact q2.elim
  | _=>exact q2.elim) q1⟩) q⟩⟩
theorem m8:∀(l m:List PV),(iD l m).length=min l.length m.length
 | [],m=>by rw [iD];simp;intros;simp_all
 | x::l,[]=>by rw [iD];simp;intros;simp_all
 | x::l,y::m=>by rw [iD,Ar,m8 l m];simp only [Ar];omega
def Ko (l m:List PV):W (List PV):=.gF (l.length<=sizeLine) (.ret (iD l m))
def QU {H:Hp}{u:V}{l:List PV} (h:UD K H u l):∃(b:Bool) (a:Addr) (vs:List V),u=.ref a/\aK K [] H vs l/\∀H',bc K H H'->Km b K H' a vs:=by
 obtain⟨a,vs,e,h | h,r⟩:=h
 ·exact⟨true,a,vs,e,r,fun H' t=>(t.f _ _ h).sq⟩
 ·exact⟨false,a,vs,e,r,fun H' t=>da.of (t.t _ _ h)⟩
def Gu (hK:X.K=K) {elts:List Expr}{kk:Nat}{tp:Pos} (hg:Gl X "zip") (hm:X.mg "zip"=none) (ha:IF X K fs a wl) (hb:IF X K fs b wm)
  (zE:starEach [a,b] X.env=(false,eval a X.env)::starEach [b] X.env:=by rfl) (rh:starEach [b] X.env=(false,eval b X.env)::starEach [] X.env:=by rfl) (eO:(backTo p2 (starEach [b] X.env)).any (·.1)=false:=by rfl) :
  rE X K fs (.Tuple elts kk tp) (.Call (.Name "zip" p1) [a,b] [] p2) (.bind wl fun l=>.bind wm fun m=>Ko l m):=
 ⟨PI.imp (OD K hK hg hm ha.p hb.p zE rh eO) fun σ H R ⟨sr,q⟩=>⟨sr,wl.mono (fun l q1 u1 H1 g1 s1 v1=>⟨s1,wm.mono (fun m q2 u2 H2 g2 s2 v2=>by
  obtain⟨b1,a1,vs,rfl,r1,x1⟩:=QU (v1.tk (g2.eJ s1));obtain⟨b2,a2,ws,rfl,r2,x2⟩:=QU v2;have tr:bc K H2 H2:=bc.refl H2;refine⟨b1,b2,a1,a2,rfl,rfl,⟨vs,x1 H2 tr⟩,⟨ws,x2 H2 tr⟩,q2.2 _ H2 (g1.trans g2) s2 ⟨by rw [m8];have:=q2.1;omega,fun H' t=>⟨fun i pp hp=>?_,vs,ws,x1 H' t,x2 H' t,?_⟩⟩⟩
  ·obtain⟨x,y,hx,hy,rfl⟩:=rG hp;obtain⟨v,h3,h4⟩:=(aK.tk t r1).get hx;obtain⟨v',Ms,TR⟩:=(aK.tk t r2).get hy;refine⟨⟨vs,ws,v,v',x1 H' t,x2 H' t,h3,Ms⟩,fun z H3 yl=>?_⟩;obtain⟨p,x',y',rfl,hn,rfl,e1,e2⟩:=yl;have e1:=e1 vs (x1 H' t);have e2:=e2 ws (x2 H' t);rw [h3] at e1;rw [Ms] at e2;cases e1;cases e2;have sm:=kJ hn (.tup [v,v']);exact⟨sm,.tup aO (.cons (VR.tk sm.fc h4) (.cons (VR.tk sm.fc TR) .nil))⟩
  ·rw [m8,r1.length,r2.length];omega) q1⟩) q⟩⟩
variable {el eh:Option Expr}{lo hi:W (Option Int)}
def R3 (x:PV) (i j:Option Int):W PV:=match x with
 | .tup l=>.ret (.tup (uP l i j))
 | _=>.fail
def JX {l:List PV}{i j:Option Int} (h:HT.dE l.length 0 i=0/\HT.dE l.length l.length j=l.length):uP l i j=l:=by
 unfold uP;rw [h.1,h.2];simp
def XQ (hK:X.K=K) (he:EF X K fs e w) (hl:OF X K fs el lo) (hh:OF X K fs eh hi):EF X K fs (.Subscript e (.Slice el eh none p2) pos) (.bind w fun x=>.bind lo fun i=>.bind hi fun j=>R3 x i j):=⟨PE.imp (Lq (Og K hK) he.p hl.p hh.p) fun σ H Q ⟨sr,q⟩=>⟨sr,w.mono (fun x q1 u1 H1 g1 s1 v1=>⟨s1,lo.mono (fun i q2 H2 g2 s2=>⟨s2,hi.mono (fun j q3 H3 g3 s3=>by
 have Vs:=g3.vr s2 (g2.vr s1 v1);have gg:=(g1.trans g2).trans g3;cases Vs with
 | @tup p vs l e r=>
  have hlen:=r.length;refine⟨p,vs,rfl,da.of e,fun c=>?_,fun c q H4 s4 h4 n4=>?_⟩
  ·rw [hlen] at c;have q3:(W.ret (PV.tup (uP l i j))).run _:=q3;rw [JX c] at q3;exact q3 _ H3 gg s3 (.tup e r)
  ·exact q3 _ H4 (gg.trans (cL.same s4)) (s3.same s4) (.tup h4 (aK.tk s4.fc (r.cut i j)))
 | _=>exact q3.elim) q2⟩) q1⟩) q⟩⟩
end
end
section
open PySem PySem.Spec PyProof.Rows L2 PL
variable {K:Ab}
section
variable {X:Cx}{pins:List (Addr×Obj)}{σ:L2.St}{H:Hp}{s:Shared}
open Classical in
noncomputable def Ib (K:Ab) (H:Hp) (x:PV) (w:Value):Bool:=decide (∃p v,RelV v w/\VR K [] H v p/\de p x=true)
open Classical in
def MR (hK:X.K=K) (I:Inv X pins σ H s) {x p:PV}{v:V}{w:Value} (r:RelV v w) (h:VR K [] H v p):Ib K H x w=de p x:=by
 subst hK;unfold Ib;cases e:de p x with
 | true=>exact decide_eq_true ⟨p,v,r,h,e⟩
 | false=>
  refine decide_eq_false ?_;rintro⟨p',v',r',h',e'⟩;have:=K0 r r';subst this;rw [VR.NP I h h',e'] at e;cases e
theorem xG (hK:X.K=K) (I:Inv X pins σ H s) {x:PV}:∀{vs:List V}{aq:List Value}{l:List PV},Vals vs aq->aK K [] H vs l->aq.map (Ib K H x)=l.map fun y=>de y x
 | _,_,_,.nil,.nil=>rfl
 | _,_,_,.cons r t,.cons q z=>by rw [Au,Au,MR hK I r q,xG hK I t z]
def Tt (x:PV) (l:List PV):Prop:=PV.dP x=true/\fx l=true/\dD l<=150
theorem tJ (hK:X.K=K) (I:Inv X pins σ H s) {A:Around}{x:PV}{v:V}{w:Value} (hx:VR K [] H v x) (rx:RelV v w) (dx:PV.dP x=true) (hu:A.units+150+1 < cLine) :
  ∀{vs:List V}{aq:List Value}{l:List PV},Vals vs aq->aK K [] H vs l->fx l=true->dD l<=150->∀u∈aq,E7 A s u w (Ib K H x u)
 | _,_,_,.nil,.nil,_,_,u,hu=>by cases hu
 | _,_,_,.cons r t,.cons q z,d,dd,u,hm=>by
  rw [fx,AD] at d;rw [dD] at dd;rcases Az.mp hm with rfl | hm
  ·rw [MR hK I r q];exact (Us hK I 150 _ x A _ v _ w (by omega) d.1 dx q hx r rx hu).eq
  ·exact tJ hK I hx rx dx hu t z d.2 (by omega) u hm
end
def uK (x:PV) (l:List PV):Bool:=l.any fun y=>de y x
def Sg (K:Ab) (neg:Bool):R2:=fun x y H Q=>∃p vs l xp,y=.ref p/\(cT K H p vs\/da K H p vs)/\aK K [] H vs l/\VR K [] H x xp/\Tt xp l/\Q (.bl (if neg then !uK xp l else uK xp l)) H
section
variable {X:Cx}
theorem any_map' {α:Type} (f:α->Bool):∀l:List α,l.any f=(l.map f).any id
 | []=>rfl
 | x::l=>by rw [Cv,Au,Cv,any_map' f l];rfl
def Z6 (K:Ab) (hK:X.K=K) (hu:X.A.units+200 < cLine):jm X (compareOp .In) (Sg K false):=by
 intro pins s σ H x y v u Q I rx ry h;obtain⟨p,vs,l,xp,rfl,hq,hl,hx,ok,q⟩:=h;cases ry;have W9:X.A.in1.units+150+1 < cLine:=by show X.A.units+1+150+1 < _;omega
 have q:Q (.bl (uK xp l)) H:=q;have fin:∀{aq:List Value},Vals vs aq->aq.toArray.any (Ib K H xp)=uK xp l:=fun {aq} r=>by
  rw [show aq.toArray.any (Ib K H xp)=aq.any (Ib K H xp) by simp,any_map',xG hK I r hl,<- any_map'];rfl
 rcases hq with hq | hq
 ·obtain⟨aq,r,pl,hz⟩:=I.list (show cT X.K H p vs by rw [hK];exact hq);refine SeqAt.in_listAt (Ib K H xp) pl.isList (fun w hw=>tJ hK I hx rx ok.1 W9 r hl ok.2.1 ok.2.2 w (by simpa using hw)) ⟨.bl _,H,I,rfl,?_⟩;rw [fin r];exact q
 ·obtain⟨aq,r,pl,hz⟩:=I.tuple (show da X.K H p vs by rw [hK];exact hq);refine SeqAt.in_tupleAt (Ib K H xp) pl (fun w hw=>tJ hK I hx rx ok.1 W9 r hl ok.2.1 ok.2.2 w (by simpa using hw)) ⟨.bl _,H,I,rfl,?_⟩;rw [fin r];exact q
def OO (K:Ab) (hK:X.K=K) (hu:X.A.units+200 < cLine):jm X (compareOp .NotIn) (Sg K true):=by
 intro pins s σ H x y v u Q I rx ry h;obtain⟨p,vs,l,xp,rfl,hq,hl,hx,ok,q⟩:=h;cases ry;have W9:X.A.in1.units+150+1 < cLine:=by show X.A.units+1+150+1 < _;omega
 have q:Q (.bl (!uK xp l)) H:=q;have fin:∀{aq:List Value},Vals vs aq->aq.toArray.any (Ib K H xp)=uK xp l:=fun {aq} r=>by
  rw [show aq.toArray.any (Ib K H xp)=aq.any (Ib K H xp) by simp,any_map',xG hK I r hl,<- any_map'];rfl
 rcases hq with hq | hq
 ·obtain⟨aq,r,pl,hz⟩:=I.list (show cT X.K H p vs by rw [hK];exact hq);refine SeqAt.notIn_listAt (Ib K H xp) pl.isList (fun w hw=>tJ hK I hx rx ok.1 W9 r hl ok.2.1 ok.2.2 w (by simpa using hw)) ⟨.bl _,H,I,rfl,?_⟩;rw [fin r];exact q
 ·obtain⟨aq,r,pl,hz⟩:=I.tuple (show da X.K H p vs by rw [hK];exact hq);refine SeqAt.notIn_tupleAt (Ib K H xp) pl (fun w hw=>tJ hK I hx rx ok.1 W9 r hl ok.2.1 ok.2.2 w (by simpa using hw)) ⟨.bl _,H,I,rfl,?_⟩;rw [fin r];exact q
end
end
section
open PySem PySem.Spec PyProof.Rows L2 PL
variable {K:Ab}
section
variable {X:Cx}{a b c e:Expr}{pos p:Pos}{fs:aX}{wa:W PV}{wl:W (List PV)}
def Me (neg:Bool) (x:PV) (l:List PV):W Bool:=.gF (Tt x l) (.ret (if neg then !uK x l else uK x l))
def T8 {neg:Bool}:∀σ H Q,fT K fs (.bind wa fun x=>.bind wl fun l=>Me neg x l) σ H Q->RV (Sg K neg) (fE K fs wa) (fQ K fs wl) σ H fun x H'=>∃k,x=.bl k/\Q k H':=fun σ H Q ⟨sr,q⟩=>
 ⟨sr,wa.mono (fun x q1 u1 H1 g1 s1 v1=>⟨s1,wl.mono (fun l q2 u2 H2 g2 s2 v2=>by
  obtain⟨ad,vs,rfl,h,rs⟩:=v2.sq s2;exact⟨ad,vs,l,x,rfl,h,rs,g2.vr s1 v1,q2.1,_,rfl,q2.2 H2 (g1.trans g2) s2⟩) q1⟩) q⟩
def v8 (hK:X.K=K) (hu:X.A.units+200 < cLine) (ha:EF X K fs a wa) (hb:QF X K fs b wl) (hk:behindInMarks .NotIn b=false:=by rfl):TF X K fs (.Compare a [.NotIn] [b] pos) (.bind wa fun x=>.bind wl fun l=>Me true x l):=⟨PT.imp (qV (OO K hK hu) ha.p hb.p hk) (T8 (neg:=true))⟩
abbrev PC (neg:Bool) (wa:W PV) (wl:W (List PV)):W Bool:=.bind wa fun x=>.bind wl fun l=>Me neg x l
def sortI (ns:List Int):List Int:=ns.mergeSort (fun a b=>decide (a<=b))
def KJ {ms ns:List Int} (h1:ms.Perm ns) (h2:ms.Pairwise (·<=·)):ms=sortI ns:=by
 have h3:(sortI ns).Perm ns:=Cr ns _;have h4:(sortI ns).Pairwise (fun a b=>decide (a<=b)=true):=D5 (fun a b c=>by simp;omega) (fun a b=>by simp;omega) ns;exact List.Perm.eq_of_pairwise (le:=fun a b=>a<=b) (fun a b _ _ h h'=>Int.le_antisymm h h') h2 (h4.imp (by simp)) (h1.trans h3.symm)
def wo (l:List PV):W (List PV):=.bind (sR l) fun ns=>.gF (ns.length < 64) (.ret ((sortI ns).map PV.int))
def Pg (hK:X.K=K) (hg:Gl X "sorted") (hm:X.mg "sorted"=none) (ha:Hb X K fs e wl) (he:starEach [e] X.env=(false,eval e X.env)::starEach [] X.env:=by rfl) (eO:(backTo pos (starEach [] X.env)).any (·.1)=false:=by rfl):LF X K fs (.Call (.Name "sorted" p) [e] [] pos) (.bind wl wo):=⟨PE.imp (gV (GP K hK) hg hm boot_sorted (bF ha.p cX he) (by decide) (by decide) he eO) fun σ H Q ⟨sr,q⟩=>⟨sr,wl.mono (fun l q1 u1 H1 g1 s1 _ v1=>by
 obtain⟨ns,el,hC,q2⟩:=pw (l:=l) q1;obtain⟨a,vs,rfl,h1,r1⟩:=v1 H1 .refl s1;rw [el] at r1;have:=nP r1;subst this;refine⟨a,ns,rfl,h1,hC,fun ms a2 a3=>?_⟩;rw [KJ a2 a3];exact LI g1 s1 (nQ _ _ _) q2) q⟩⟩
end
end
section
open PySem PySem.Spec PyProof.Rows L2 PL
variable {K:Ab}
section
variable {X:Cx}{e:Expr}{rest:List Stmt}{pos p apos bD fM:Pos}{fs:aX}{T:Type}{out:T->End}{x:Bool}{we wi wa wb:W PV}{wl:W (List PV)}{q0:Option Addr}{l:List PV}{y:Str}
def Tq (l:List PV):PV->W PV
 | .int k=>.gF (0<=k/\k < 1000) (.Lz l[k.toNat]?)
 | _=>.fail
def SF.abg (i:Nat) {ei:Expr}{op:Operator}{ti:Yg}{M:M2}{k:List PV->W T} (hs:fs[i]?=some (some (.ol q0 l))) (hK:X.K=K) (hN:X.N[i]?=some y) (hv:FG X.env.scope y) (hi:EF X K fs ei wi) (he:EF X K fs e we) (ho:PIp X op ti) (hM:M2.Ok K ti M) (hr:∀l',SF X K x (fs.set i (some (.ol q0 l'))) rest (k l') out)
  (hd:(y==("__debug__":Str))=false:=by decide) (ko:(y==("__classdict__":Str))=false:=by decide)
  (ha:∀ov iv new,augStore ei ov iv new=(do holding [new,ov,iv] (setItem ov iv new);release [new,ov,iv] [];pure .next):=by intros;rfl) :
  SF X K x fs (.AugAssign (.Subscript (.Name y p) ei fM) op e pos::rest) (.bind wi fun n=>.bind (Tq l n) fun g=>.bind we fun v=>.bind (of2 M g v) fun r=>.bind (iX l n r) k) out:=
 SF.step (Oy (eT hN hv hd ko) hi.p (Mt K hK) he.p ho oQ ha) fun D σ H ⟨sr,q⟩=>by
  obtain⟨a,ws,e1,h1,r1⟩:=cQ sr hs;refine⟨_,e1,sr,wi.mono (fun n q1 u1 H1 g1 s1 v1=>?_) q⟩;obtain⟨a',ws1,pJ,jF,Hx⟩:=cQ s1 hs;rw [e1] at pJ;cases pJ;cases v1 with
  | int kk=>
   have q1:(0<=kk/\kk < 1000)/\(W.Lz l[kk.toNat]?).run _:=q1;obtain⟨⟨b1,b2⟩,q1⟩:=q1;cases hg:l[kk.toNat]? with
   | none=>rw [hg] at q1;exact q1.elim
   | some g=>
    rw [hg] at q1;obtain⟨u,hu,ru⟩:=Hx.get hg;refine⟨a,ws1,kk,u,rfl,rfl,cT.of jF,b1,b2,hu,s1,we.mono (fun v q2 u2 H2 g2 s2 v2=>?_) q1⟩;refine LA hM s2 (g2.vr s1 ru) v2 ((of2 M g v).mono (fun r q3 u3 H3 g3 s3 v3=>?_) q2);obtain⟨a',Vq,Rx,Ms,Sj⟩:=cQ s3 hs;rw [e1] at Rx;cases Rx;have q3:(match pW l.length kk with | some j=>W.ret (l.set j r) | none=>W.fail).run _:=q3;cases hj:pW l.length kk with
    | none=>rw [hj] at q3;exact q3.elim
    | some j=>
     rw [hj] at q3;refine⟨a,Vq,kk,j,rfl,rfl,Ms,by rw [Sj.length];exact hj,fun H4 sx h4=>?_⟩;obtain⟨s4,g4⟩:=jz s3 hs e1 sx h4 (Sj.set v3 j);exact⟨_,k _,hr _,s4,(k _).mono (fun t q4=>q4.go (((g1.trans g2).trans g3).f.trans g4) sr s4) q3⟩
  | _=>exact q1.elim
def Oe (l:List PV) (i j:PV) (m:List PV):W (List PV):=match i,j with
 | .int a,.int c=>.gF (0<=a/\a<=c/\c<=l.length/\l.length+m.length<=sizeLine) (.ret (l.take a.toNat++m++l.drop c.toNat))
 | _,_=>.fail
def SF.VQ (i:Nat) {lo hi:Expr}{p2:Pos}{k:List PV->W T} (hs:fs[i]?=some (some (.ol q0 l))) (hN:X.N[i]?=some y) (hv:FG X.env.scope y) (he:LF X K fs e wl) (hl:EF X K fs lo wa) (hh:EF X K fs hi wb) (hr:∀l',SF X K x (fs.set i (some (.ol q0 l'))) rest (k l') out)
  (ha:∀v,assign (.Subscript (.Name y p) (.Slice (some lo) (some hi) none p2) fM) X.env v=(do
   let ov <- holding [v] (eval (.Name y p) X.env)
   let iv <- holding [v,ov] (eval (.Slice (some lo) (some hi) none p2) X.env)
   standAt fM
   holding [v,ov,iv] (setItem ov iv v)
   release [iv,v,ov] []):=by intro _;rfl)
  (hd:(y==("__debug__":Str))=false:=by decide) (ko:(y==("__classdict__":Str))=false:=by decide)
  (Xb:swapsWithSole [.Subscript (.Name y p) (.Slice (some lo) (some hi) none p2) fM] e pos.line X.env=pure false:=by rfl) (hw:swappedStores [.Subscript (.Name y p) (.Slice (some lo) (some hi) none p2) fM] e X.env=pure none:=by rfl)
  (h1:(assignEach [.Subscript (.Name y p) (.Slice (some lo) (some hi) none p2) fM] X.env).map (·.2)=[assign (.Subscript (.Name y p) (.Slice (some lo) (some hi) none p2) fM) X.env]:=by rfl) :
  SF X K x fs (.Assign [.Subscript (.Name y p) (.Slice (some lo) (some hi) none p2) fM] e pos::rest) (.bind wl fun m=>.bind wa fun a=>.bind wb fun b=>.bind (Oe l a b m) k) out:=
 SF.step (wG he.p (Lo (eT hN hv hd ko) hl.p hh.p ha) Xb hw h1) fun D σ H ⟨sr,q⟩=>by
  refine⟨sr,wl.mono (fun m q1 b vb H1 g1 s1 nb eb rb=>?_) q⟩;obtain⟨a,ws,e1,h1,r1⟩:=cQ s1 hs;refine⟨_,e1,s1,wa.mono (fun i1 q2 u2 H2 g2 s2 v2=>⟨s2,wb.mono (fun j1 q3 u3 H3 g3 s3 v3=>?_) q2⟩) q1⟩;obtain⟨a',Vq,Rx,Ms,Sj⟩:=cQ s3 hs;rw [e1] at Rx;cases Rx;have ZD:=g3.vr s2 v2;have no:¬cV σ fs b:=sr.noOwn nb;have eb3:=(g2.trans g3).pU eb no;have rb3:=(g2.trans g3).Kc s1 rb;have ne:a≠b:=fun z=>no ⟨i,_,a,hs,rfl,e1,.inl z.symm⟩;cases ZD with
  | int aa=>
   cases v3 with
   | int cc=>
    have q3:(0<=aa/\aa<=cc/\cc<=l.length/\l.length+m.length<=sizeLine)/\(k (l.take aa.toNat++m++l.drop cc.toNat)).run _:=q3;obtain⟨⟨c1,c2,c3,c4⟩,q3⟩:=q3;refine⟨a,b,Vq,vb,aa,cc,rfl,rfl,rfl,rfl,Ms,eb3,ne,c1,c2,by rw [Sj.length];exact c3,by rw [Sj.length,rb3.length];exact c4,?_⟩;have sx:qd a H3 (upd H3 a (.lst (Vq.take aa.toNat++vb++Vq.drop cc.toNat))):=fun z o n hz=>by rw [av n];exact hz
    obtain⟨s4,g4⟩:=jz s3 hs e1 sx aO (((Sj.take aa.toNat).append rb3).append (Sj.drop cc.toNat));exact⟨_,k _,hr _,s4,(k _).mono (fun t q4=>q4.go (((g1.trans g2).trans g3).f.trans g4) sr s4) q3⟩
   | _=>exact q3.elim
  | _=>exact q3.elim
def R9 (l:List PV) (v:PV):W (List PV):=match v with
 | .int k=>.bind (sR l) fun ns=>.gF (k∈ns) (.ret ((ns.erase k).map PV.int))
 | _=>.fail
theorem SF.remove (i:Nat) {k:List PV->W T} (hs:fs[i]?=some (some (.ol q0 l))) (hK:X.K=K) (hN:X.N[i]?=some y) (hv:FG X.env.scope y) (he:EF X K fs e we) (hr:∀l',SF X K x (fs.set i (some (.ol q0 l'))) rest (k l') out)
  (hd:(y==("__debug__":Str))=false:=by decide) (ko:(y==("__classdict__":Str))=false:=by decide) (fW:attributeBase (.Name y p) "remove" X.env (eval (.Name y p) X.env)=eval (.Name y p) X.env:=by rfl)
  (sY:((backTo bD (starEach [e] X.env)).all (fun x=>!x.1)&&(backToKw bD (keywordEach [] X.env)).all (fun x=>x.1.isSome)
   && decide ([e].length+([]:List Keyword).length+(if ([]:List Keyword).isEmpty then 0 else 1) < 30))=true:=by rfl)
  (fV:(apos.endLine==bD.line)=true:=by rfl) (zD:starEach [e] X.env=(false,eval e X.env)::starEach [] X.env:=by rfl) (hJ:(backTo bD (starEach [] X.env)).any (·.1)=false:=by rfl)
  (sU:swapsWith (.Call (.Attribute (.Name y p) "remove" apos) [e] [] bD) none pos.line X.env=pure false:=by rfl) :
  SF X K x fs (.Expr (.Call (.Attribute (.Name y p) "remove" apos) [e] [] bD) pos::rest) (.bind we fun v=>.bind (R9 l v) k) out:=
 SF.step (nu (wL K hK BM PySem.F.slot_list_remove PySem.F.type_list_remove F5 (eT hN hv hd ko) (bF he.p cX zD) fW sY fV zD hJ) sU) fun D σ H ⟨sr,q⟩=>by
  obtain⟨a,ws,e1,h1,r1⟩:=cQ sr hs;refine⟨_,e1,.inl ⟨rfl,_,cT.of h1⟩,sr,we.mono (fun v q1 u H1 g1 s1 v1=>?_) q⟩;obtain⟨a',rH,pJ,jF,Hx⟩:=cQ s1 hs;rw [e1] at pJ;cases pJ;cases v1 with
  | int kk=>
   obtain⟨ns,el,hk,q2⟩:=pw (l:=l) q1;subst el;have:=nP Hx;subst this;refine⟨a,ns,kk,rfl,rfl,jF,hk,fun H2 sx h2=>?_⟩;obtain⟨s2,g2⟩:=jz s1 hs e1 sx h2 (nQ _ _ (ns.erase kk));exact⟨_,k _,hr _,s2,(k _).mono (fun t q3=>q3.go (g1.f.trans g2) sr s2) q2⟩
  | _=>exact q1.elim
end
end
section
open PySem PySem.Spec PyProof.Rows L2 PL
variable {K:Ab}
abbrev w2 (f:PV->PV->W PV) (wa wb:W PV):W PV:=.bind wa fun x=>.bind wb fun y=>f x y
def PR (kvs:List (Key×PV)) (k:Key):Bool:=kvs.any fun kv=>decide (kv.1=k)
def qM (kvs:List (Key×PV)) (k:Key):Option PV:=(kvs.find? fun kv=>decide (kv.1=k)).map (·.2)
def iR (K:Ab) (H:Hp) (vs:List (Key×V)) (kvs:List (Key×PV)):Prop:=vs.map (·.1)=kvs.map (·.1)/\aK K [] H (vs.map (·.2)) (kvs.map (·.2))
section
variable {H:Hp}
def iR.cons_inv {p:Key×V}{vs:List (Key×V)}{q:Key×PV}{kvs:List (Key×PV)} (h:iR K H (p::vs) (q::kvs)):p.1=q.1/\VR K [] H p.2 q.2/\iR K H vs kvs:=by
 obtain⟨h1,h2⟩:=h;rw [Au,Au] at h1 h2;injection h1 with a b;cases h2 with
 | cons r t=>exact⟨a,r,b,t⟩
theorem iR.ind {C:List (Key×V)->List (Key×PV)->Prop} (h0:C [] []) (h1:∀p q vs kvs,p.1=q.1->VR K [] H p.2 q.2->iR K H vs kvs->C vs kvs->C (p::vs) (q::kvs)):∀{vs kvs},iR K H vs kvs->C vs kvs
 | [],[],_=>h0
 | [],_::_,h=>by simp [iR] at h
 | _::_,[],h=>by simp [iR] at h
 | p::vs,q::kvs,h=>let ⟨a,b,c⟩:=h.cons_inv;h1 p q vs kvs a b c (iR.ind h0 h1 c)
def iR.has {vs:List (Key×V)}{kvs:List (Key×PV)} (h:iR K H vs kvs) (k:Key):(iU vs k).isSome=PR kvs k:=by
 rw [<- yD];unfold PR;refine iR.ind (C:=fun vs kvs=>(vs.any fun kv=>decide (kv.1=k))=kvs.any fun kv=>decide (kv.1=k)) rfl (fun p q vs kvs e _ _ ih=>?_) h;rw [Cv,Cv,ih,e]
def iR.get {vs:List (Key×V)}{kvs:List (Key×PV)} (h:iR K H vs kvs) (k:Key) {v:PV} (g:qM kvs k=some v):∃u,iU vs k=some u/\VR K [] H u v:=by
 refine iR.ind (C:=fun vs kvs=>qM kvs k=some v->∃u,iU vs k=some u/\VR K [] H u v) (fun g=>by simp [qM] at g) (fun p q vs kvs e r _ ih g=>?_) h g;by_cases c:p.1=k
 ·rw [kB c];have c':q.1=k:=e▸c;have:qM (q::kvs) k=some q.2:=by simp [qM,Bv,c']
  rw [this] at g;cases g;exact⟨_,rfl,r⟩
 ·rw [kC c];have c':¬q.1=k:=e▸c;have:qM (q::kvs) k=qM kvs k:=by simp [qM,Bv,c']
  exact ih (this▸g)
end
end
section
open PySem PySem.Spec PyProof.Rows L2 PL
variable {K:Ab}
def fAs (K:Ab) (fs:aX) (i:Nat) (w:W (List PV)):TS:=fun D σ H=>aR K H σ fs/\w.run fun l=>∀a vs H',cL σ fs H H'->aR K H' σ fs->H a=none->H' a=some (.lst vs)->aK K [] H' vs l->D.nx (σ.set i (some (.ref a))) H'
structure AS (X:Cx) (K:Ab) (fs:aX) (st:Stmt) (i:Nat) (w:W (List PV)):Prop where p:PS X st (fAs K fs i w)
section
variable {X:Cx}{st:Stmt}{rest:List Stmt}{fs:aX}{i:Nat}{wl:W (List PV)}{T:Type}{out:T->End}{x:Bool}{k:List PV->W T}
def SF.as (h:AS X K fs st i wl) (hr:∀l,SF X K x (fs.set i (some (.ol none l))) rest (k l) out):SF X K x fs (st::rest) (.bind wl k) out:=SF.step h.p fun D σ H ⟨sr,q⟩=>⟨sr,wl.mono (fun l q1 a ws H1 g1 s1 n e v1=>by
 have no:=sr.noOwn n;have s2:=s1.wB (t:=.ol none l) ⟨by simp,ws,e,v1⟩ no i;exact⟨_,k l,hr l,s2,(k l).mono (fun t q2=>q2.go (cE.wB s1 g1.f no n i) sr s2) q1⟩) q⟩
def Ux (b:Nat) {q0:Option Addr}{l:List PV} (hs:fs[b]?=some (some (.ol q0 l))) (h:AS X K (fs.set b (some (.val (.cl l)))) st i wl):AS X K fs st i (.bind wl Kz):=⟨fun pins s σ H D I ⟨sr,q⟩=>by
 obtain⟨a,ws,ob,I2,s2,back⟩:=bor I sr hs;refine cj (h.p pins s σ _ {nx:=fun σ' H1=>∃b vs l',σ'=σ.set i (some (.ref b))/\cL σ (fs.set _ (some (.val (.cl l)))) (upd H a (.cR ob (.lst ws))) H1/\aR K H1 σ (fs.set _ (some (.val (.cl l))))/\upd H a (.cR ob (.lst ws)) b=none/\H1 b=some (.lst vs)/\aK K [] H1 vs l'/\uO l'=true/\∀a vs H',cL σ fs H H'->aR K H' σ fs->H a=none->H' a=some (.lst vs)->aK K [] H' vs l'->D.nx (σ.set i (some (.ref a))) H',rt:=D.rt,bk:=D.bk,ct:=D.ct} I2 ⟨s2,wl.mono (fun l' q1 b vs H1 g1 s1 n e v1=>⟨b,vs,l',rfl,g1,s1,n,e,v1,q1.1,q1.2⟩) q⟩) fun f s1 q1=>?_;cases f with
 | next=>
  obtain⟨σ',H1,I1,b,vs,l',rfl,g1,Ol,n,eb,v1,d,q1⟩:=q1;obtain⟨I3,g3,s3,t3,k3⟩:=back _ s1 H1 I1 g1 Ol;have nb:b≠a:=fun y=>by subst y;rw [aO] at n;cases n
  exact⟨_,_,I3,q1 b vs _ g3 s3 (by rw [av nb] at n;exact n) (k3 b vs nb eb) (aK.jU t3 v1 d)⟩
 | ret v=>exact q1
 | brk=>exact q1
 | cont=>exact q1⟩
end
section
variable {X:Cx}{elt tg iter c:Expr}{ifs:List Expr}{sc:Scope}{N':List Str}{ix:List (Option Nat)}{pos:Pos}{fs:aX}{wl:W (List PV)}{T2:Type}{wt:PV->W T2}{is:List Nat}{dC:T2->aX}{tf:T2->W Bool}{te:T2->W PV}
def Ye {f:PV->W (Option PV)}{i:Nat}{y:Str}{px kn:Pos} (hc:X.calm=true) (hN:X.N.Nodup) (Gz:X.N[i]?=some y) (hx:X.env.scope.names.lookup y=some .local) (S:aF X.env.scope X.N sc N' ix) (hi:rE X K fs tg iter wl) (hg:∀cl C s2 H2 fp,GF (gq X sc N' cl C s2 H2 fp) K (bQ ix fs) tg is wt dC) (Xn:∀cl C s2 H2 fp t,FF (gq X sc N' cl C s2 H2 fp) K (dC t) ifs (tf t)) (he:∀cl C s2 H2 fp t,EF (gq X sc N' cl C s2 H2 fp) K (dC t) elt (te t))
  (hf:∀p,f p=.bind (wt p) fun t=>.bind (tf t) fun k=>if k=true then .bind (te t) fun v=>.ret (some v) else .ret none) (hl:uV is (bQ ix fs) dC/\∀t,jo (dC t) (bQ ix fs)) (uJ:∀j∈is,ix[j]?=some none)
  (sU:swapsWith (.ListComp elt [⟨tg,iter,ifs,0⟩] sc pos) (some (.Name y px)) kn.line X.env=pure true:=by rfl) (hs:∀x,foldedSetIterable iter X.env x=pure x:=by intro _;rfl) :
  AS X K fs (.Assign [.Name y px] (.ListComp elt [⟨tg,iter,ifs,0⟩] sc pos) kn) i (.bind wl fun l=>ku l f):=
 ⟨PS.imp (yW hc hN Gz hx S hi.p (fun cl C s2 H2 fp=>(hg cl C s2 H2 fp).p) (fun cl C s2 H2 fp pins s σ H Q I ⟨t,q⟩=>(Xn cl C s2 H2 fp t).p pins s σ H Q I q) (fun cl C s2 H2 fp pins s σ H Q I ⟨t,q⟩=>(he cl C s2 H2 fp t).p pins s σ H Q I q) sU hs) fun D σ H ⟨sr,q⟩=>
  MD (K:=K) S rfl hf hl.1 hl.2 uJ σ H _ ⟨sr,q⟩⟩
variable {i:Nat}{y:Str}{px kn:Pos}
def Uw {j:Nat}{tf:PV->W Bool}{te:PV->W PV} (hc:X.calm=true) (hN:X.N.Nodup) (Gz:X.N[i]?=some y) (hx:X.env.scope.names.lookup y=some .local) (S:aF X.env.scope X.N sc N' ix) (hi:rE X K fs tg iter wl) (hg:∀cl C s2 H2 fp,PG (gq X sc N' cl C s2 H2 fp) tg (cM j)) (hf:∀cl C s2 H2 fp t,TF (gq X sc N' cl C s2 H2 fp) K ((bQ ix fs).set j (some (.val t))) c (tf t)) (he:∀cl C s2 H2 fp t,EF (gq X sc N' cl C s2 H2 fp) K ((bQ ix fs).set j (some (.val t))) elt (te t)) (h0:ix[j]?=some none)
  (sU:swapsWith (.ListComp elt [⟨tg,iter,[c],0⟩] sc pos) (some (.Name y px)) kn.line X.env=pure true:=by rfl) (hs:∀x,foldedSetIterable iter X.env x=pure x:=by intro _;rfl) :
  AS X K fs (.Assign [.Name y px] (.ListComp elt [⟨tg,iter,[c],0⟩] sc pos) kn) i (.bind wl fun l=>ku l fun p=>Gh (tf p) (te p)):=
 have h1:(bQ ix fs)[j]?=some none:=by unfold bQ;rw [Ai,h0];rfl
 Ye (wt:=.ret) (tf:=tf) (te:=te) hc hN Gz hx S hi (fun cl C s2 H2 fp=>TZ (hg cl C s2 H2 fp)) (fun cl C s2 H2 fp t=>xB (hf cl C s2 H2 fp t)) he (fun _=>rfl) (LV h1) (fun m hj=>by rw [Bw] at hj;subst hj;exact h0) sU hs
end
end
end FL
namespace L2
open PySem PySem.Spec PyProof.Rows
def Inv.PZ {X:Cx}{pins:List (Addr×Obj)}{σ:St}{H:Hp}{s:Shared}{a:Addr}{kvs:List (Key×V)} (I:Inv X pins σ H s) (e:H a=some (.dK kvs)):∃o,Inv X pins σ (upd H a (.cR o (.dK kvs))) s:=by
 obtain⟨z,hs,vs,r,o,es,ep,h1,h2⟩:=(show bq X.prog X.w H s.heap a (.dK kvs) from I.bP a _ e);exact⟨o,I.write (x:=a) (e:=a) (o:=.cR o (.dK kvs)) (h':=s.heap) (t':=s.toks) (by rw [e];exact Cd) (.inl rfl) (fun b u _ z=>z) ⟨o,h1⟩ ⟨h1,z,hs,vs,r,o,es,ep,h1,h2⟩⟩
end L2
namespace FL
section
open PySem PySem.Spec PyProof.Rows L2 PL
variable {K:Ab}
def Zl (kvs:List (Key×PV)):PV:=.dv (kvs.map fun kv=>kP kv.1) (kvs.map (·.2))
def M6 (kvs:List (List Key×PV)):PV:=.dv (kvs.map fun kv=>.tup (kv.1.map kP)) (kvs.map (·.2))
def oG (K:Ab) (H:Hp) (vs:List (List Key×V)) (kvs:List (List Key×PV)):Prop:=vs.map (·.1)=kvs.map (·.1)/\aK K [] H (vs.map (·.2)) (kvs.map (·.2))
def QI (K:Ab) (H:Hp) (ob:HO) (v:PV):Prop:=(∃vs kvs,ob=.dK vs/\v=Zl kvs/\iR K H vs kvs)\/∃vs kvs,ob=.dT vs/\v=M6 kvs/\oG K H vs kvs
def fDv (K:Ab) (fs:aX) (w:W PV):TE:=fun σ H Q=>aR K H σ fs/\w.run fun v=>∀a ob H',cL σ fs H H'->aR K H' σ fs->H a=none->H' a=some ob->QI K H' ob v->Q (.ref a) H'
structure DVF (X:Cx) (K:Ab) (fs:aX) (e:Expr) (w:W PV):Prop where p:PE X e (fDv K fs w)
section
variable {σ:L2.St}{fs:aX}{H:Hp}{a:Addr}{ob:HO}{v:PV}
def rM (o':HO) (e:H a=some ob) (n1:∀vs,ob≠.tup vs) (n2:∀o u,ob≠.cR o u):bc K H (upd H a o'):=⟨fun b ws q=>by rw [av (fun z=>by subst z;rw [e] at q;cases q;exact n1 _ rfl)];exact q,fun b o u q=>by rw [av (fun z=>by subst z;rw [e] at q;cases q;exact n2 _ _ rfl)];exact q⟩
def aR.VS (s:aR K H σ fs) (n:¬cV σ fs a) (e:H a=some ob) (n1:∀vs,ob≠.tup vs) (n2:∀o u,ob≠.cR o u) (o':HO):aR K (upd H a o') σ fs:=⟨s.len,fun i t q=>by
 obtain⟨u,h1,h2⟩:=s.at' i t q;exact⟨u,h1,h2.mono (rM o' e n1 n2) (fun x b o eb ow hb z=>by subst eb;rw [av (fun y:b=a=>n ⟨i,t,x,q,ow,h1,y▸hb⟩)];exact z)⟩,s.nd⟩
def WO {vs:List (List Key×V)}{kvs:List (List Key×PV)} (h:vs.map (·.1)=kvs.map (·.1)):(kvs.map fun kv=>PV.tup (kv.1.map kP))=vs.map fun kv=>PV.tup (kv.1.map kP):=by
 have:=congrArg (EN fun k:List Key=>PV.tup (k.map kP)) h;rw [A4,A4] at this;exact this.symm
def WQ {vs:List (Key×V)}{kvs:List (Key×PV)} (h:vs.map (·.1)=kvs.map (·.1)):(kvs.map fun kv=>kP kv.1)=vs.map fun kv=>kP kv.1:=by
 have:=congrArg (EN kP) h;rw [A4,A4] at this;exact this.symm
def QI.cR {X:Cx}{pins:List (Addr×Obj)}{s:Shared}{σ':L2.St} (I:Inv X pins σ' H s) (e:H a=some ob) (d:QI K H ob v):∃u,Inv X pins σ' (upd H a u) s/\VR K [] (upd H a u) (.ref a) v/\(∀vs,ob≠.tup vs)/\∀o u,ob≠.cR o u:=by
 rcases d with⟨vs,kvs,rfl,rfl,d1,d2⟩ | ⟨vs,kvs,rfl,rfl,d1,d2⟩
 ·obtain⟨o,I2⟩:=I.PZ e;exact⟨_,I2,.dk aO (WQ d1) (aK.tk (rM _ e (by simp) (by simp)) d2),by simp,by simp⟩
 ·obtain⟨o,I2⟩:=I.freeze e;exact⟨_,I2,.dt aO (WO d1) (aK.tk (rM _ e (by simp) (by simp)) d2),by simp,by simp⟩
end
section
variable {X:Cx}{a b c e o:Expr}{pos p:Pos}{fs:aX}{w wa wb:W PV}{wl:W (List PV)}
def abc (h:DVF X K fs e w):EF X K fs e w:=⟨fun pins s σ H Q I ⟨sr,q⟩=>by
 refine cj (h.p pins s σ H (fun u H1=>∃a ob v,u=.ref a/\cL σ fs H H1/\aR K H1 σ fs/\H a=none/\H1 a=some ob/\QI K H1 ob v/\∀u H',cL σ fs H H'->aR K H' σ fs->VR K [] H' u v->Q u H') I ⟨sr,w.mono (fun v q1 a ob H1 g1 s1 n e d=>⟨a,ob,v,rfl,g1,s1,n,e,d,q1⟩) q⟩) fun u s1 ⟨v,H1,I1,r1,a,ob,v',e,g1,Ol,n,ea,d,q1⟩=>?_;subst e;obtain⟨o',I2,vr,n1,n2⟩:=d.cR I1 ea;exact⟨.ref a,_,I2,r1,q1 _ _ (g1.side n _) (Ol.VS (fun z=>sr.noOwn n z) ea n1 n2 _) vr⟩⟩
def HD (kv:List Key×PV):PV:=.tup [.tup (kv.1.map kP),kv.2]
theorem L8 (H:Hp):∀k:List Key,aK K [] H (k.map kV) (k.map kP)
 | []=>.nil
 | .inl i::k=>.cons (.int i) (L8 H k)
 | .inr i::k=>.cons (.str i) (L8 H k)
theorem HN {H:Hp}:∀{k:List Key}{vs:List V},aK K [] H vs (k.map kP)->vs=k.map kV
 | [],_,h=>by cases h;rfl
 | .inl i::k,_,h=>by
  cases h with
  | cons x t=>cases x;rw [HN t];rfl
 | .inr i::k,_,h=>by
  cases h with
  | cons x t=>cases x;rw [HN t];rfl
theorem y6 {H:Hp}:∀{kvs:List (List Key×PV)}{vs:List V},aK K [] H vs (kvs.map HD)->∃zs:List Pz,vs=zs.map (fun z=>V.ref z.pa)/\(∀z∈zs,z.At H)/\zs.map (·.k)=kvs.map (·.1)/\aK K [] H (zs.map (·.v)) (kvs.map (·.2))
 | [],_,h=>by cases h;exact⟨[],rfl,by simp,rfl,.nil⟩
 | kv::kvs,_,h=>by
  cases h with
  | cons x t=>
  obtain⟨zs,z1,z2,z3,z4⟩:=y6 t;cases x with
  | @tup p ws _ e r=>
  cases r with
  | cons x1 t1=>
  cases t1 with
  | cons x2 t2=>
  cases t2;cases x1 with
  | @tup b us _ e1 r1=>
  have:=HN r1;subst this;refine⟨⟨p,kv.1,b,_⟩::zs,by rw [Au,z1],fun z hz=>?_,by rw [Au,Au,z3],.cons x2 z4⟩;rcases Az.mp hz with rfl | hz
  ·exact⟨e,e1⟩
  ·exact z2 z hz
def GN (l:List PV):W PV:=⟨fun Q=>∃kvs:List (List Key×PV),l=kvs.map HD/\(kvs.map (·.1)).Nodup/\kvs.length<=1000/\Q (M6 kvs),fun f q=>q.imp fun kvs h=>⟨h.1,h.2.1,h.2.2.1,f _ h.2.2.2⟩⟩
def Ql (hK:X.K=K) (hc:X.calm=true) (hu:X.A.units+200 < cLine) (hg:Gl X "dict") (hm:X.mg "dict"=none) (ha:Hb X K fs e wl) (he:starEach [e] X.env=(false,eval e X.env)::starEach [] X.env:=by rfl) (eO:(backTo pos (starEach [] X.env)).any (·.1)=false:=by rfl) :
  DVF X K fs (.Call (.Name "dict" p) [e] [] pos) (.bind wl GN):=⟨PE.imp (lL (GU K hK hc (by omega)) hg hm boot_dict (bF ha.p cX he) (by decide) (by decide) he eO) fun σ H Q ⟨sr,q⟩=>⟨sr,wl.mono (fun l q1 u H1 g1 s1 v0 v1=>by
  obtain⟨kvs,rfl,nd,hl,q1⟩:=q1;obtain⟨a,vs,rfl,e3,e4⟩:=v1 H1 .refl s1;obtain⟨zs,rfl,z2,z3,z4⟩:=y6 e4;have hzl:zs.length=kvs.length:=by have:=congrArg BL z3;simpa using this
  refine⟨a,zs,rfl,e3,z2,by rw [z3];exact nd,by omega,fun p H2 s2 h2 n2=>?_⟩;exact q1 _ _ H2 (g1.trans (cL.same s2)) (s1.same s2) (g1.there _ n2) h2 (.inr ⟨_,_,rfl,rfl,by rw [A4,<- z3];rfl,by rw [A4];exact aK.tk s2.fc z4⟩)) q⟩⟩
def JT {kvs:List (List Key×PV)}{Q:PV->Prop} (nd:(kvs.map (·.1)).Nodup) (hl:kvs.length<=1000) (q:Q (M6 kvs)):(GN (kvs.map HD)).run Q:=⟨kvs,rfl,nd,hl,q⟩
def lV (kvs:List (List Key×PV)) (k:List Key):Option PV:=(kvs.find? fun kv=>decide (kv.1=k)).map (·.2)
theorem oG.get {H:Hp}{k:List Key}:∀{vs:List (List Key×V)}{kvs:List (List Key×PV)},oG K H vs kvs->(lV kvs k=none->iU vs k=none)/\∀{v},lV kvs k=some v->∃u,iU vs k=some u/\VR K [] H u v
 | [],[],_=>⟨fun _=>rfl,fun g=>by simp [lV] at g⟩
 | [],_::_,h=>by simp [oG] at h
 | _::_,[],h=>by simp [oG] at h
 | p::vs,q::kvs,h=>by
  obtain⟨h1,h2⟩:=h;rw [Au,Au] at h1 h2;injection h1 with e b;cases h2 with
  | cons r t=>
  have ih:=oG.get (k:=k) (vs:=vs) (kvs:=kvs) ⟨b,t⟩;by_cases c:p.1=k
  ·rw [kB c];have c':q.1=k:=e▸c;have:lV (q::kvs) k=some q.2:=by simp [lV,Bv,c']
   rw [this];refine⟨fun z=>(by cases z),fun {v} z=>?_⟩;cases z;exact⟨_,rfl,r⟩
  ·rw [kC c];have c':¬q.1=k:=e▸c;have:lV (q::kvs) k=lV kvs k:=by simp [lV,Bv,c']
   rw [this];exact ih
def iR.get' {H:Hp}{k:Key}:∀{vs:List (Key×V)}{kvs:List (Key×PV)},iR K H vs kvs->(qM kvs k=none->iU vs k=none)/\∀{v},qM kvs k=some v->∃u,iU vs k=some u/\VR K [] H u v:=fun {vs kvs} h=>⟨fun z=>by
 have:=h.has k;cases e:iU vs k with
 | none=>rfl
 | some u=>
  rw [e] at this;have h2:PR kvs k=true:=this.symm;unfold PR at h2;unfold qM at z;rw [Option.map_eq_none_iff,List.find?_eq_none] at z;obtain⟨x,hx,hx2⟩:=BW.mp h2;exact absurd hx2 (z x hx),fun z=>h.get k z⟩
def Ra (k:Key) (l:List PV):kP k≠.tup l:=by cases k <;> exact PV.noConfusion
def Tj {a b:Key} (h:kP a=kP b):a=b:=by
 cases a <;> cases b <;> simp [kP] at h <;> rw [h]
theorem xh:∀{a b:List Key},a.map kP=b.map kP->a=b
 | [],[],_=>rfl
 | [],_::_,h=>by simp at h
 | _::_,[],h=>by simp at h
 | x::a,y::b,h=>by
  rw [Au,Au] at h;injection h with h1 h2;rw [Tj h1,xh h2]
inductive Fw:PV->PV->Option PV->Prop
 | k (kvs:List (Key×PV)) (k:Key):kvs≠[]->Fw (Zl kvs) (kP k) (qM kvs k)
 | t (kvs:List (List Key×PV)) (k:List Key):kvs≠[]->Fw (M6 kvs) (.tup (k.map kP)) (lV kvs k)
def RM {H:Hp}{u:V}{kvs:List (Key×PV)} (h0:kvs≠[]) (h:VR K [] H u (Zl kvs)):∃a o vs,u=.ref a/\H a=some (.cR o (.dK vs))/\iR K H vs kvs:=by
 have keys:∀{vs:List (Key×V)}{kvs:List (Key×PV)},(kvs.map fun kv=>kP kv.1)=(vs.map fun kv=>kP kv.1)->vs.map (·.1)=kvs.map (·.1):=fun {vs kvs} e=>by
  have e:(kvs.map (·.1)).map kP=(vs.map (·.1)).map kP:=by rw [A4,A4];exact e
  exact (xh e).symm
 unfold Zl at h;cases h with
 | @dk a o vs _ _ e k r=>exact⟨a,o,vs,rfl,e,keys k,r⟩
 | @dt a o vs _ _ e k r=>
  cases kvs with
  | nil=>exact absurd rfl h0
  | cons x l=>cases vs with
   | nil=>simp at k
   | cons y m=>simp at k;exact absurd k.1 (Ra _ _)
def Kv {H:Hp}{u:V}{kvs:List (List Key×PV)} (h0:kvs≠[]) (h:VR K [] H u (M6 kvs)):∃a o vs,u=.ref a/\H a=some (.cR o (.dT vs))/\oG K H vs kvs:=by
 have keys:∀{vs:List (List Key×V)}{kvs:List (List Key×PV)},(kvs.map fun kv=>PV.tup (kv.1.map kP))=(vs.map fun kv=>PV.tup (kv.1.map kP))->vs.map (·.1)=kvs.map (·.1):=fun {vs kvs} e=>by
  induction kvs generalizing vs with
  | nil=>cases vs with
   | nil=>rfl
   | cons y m=>simp at e
  | cons x l ih=>cases vs with
   | nil=>simp at e
   | cons y m=>
    rw [Au,Au] at e;injection e with e1 e2;injection e1 with e1;rw [Au,Au,xh e1,ih e2]
 unfold M6 at h;cases h with
 | @dt a o vs _ _ e k r=>exact⟨a,o,vs,rfl,e,keys k,r⟩
 | @dk a o vs _ _ e k r=>
  cases kvs with
  | nil=>exact absurd rfl h0
  | cons x l=>cases vs with
   | nil=>simp at k
   | cons y m=>simp at k;exact absurd k.1.symm (Ra _ _)
def Fw.ok {H:Hp}{u z:V}{d y:PV}{r:Option PV} (h:Fw d y r) (hu:VR K [] H u d) (hz:VR K [] H z y):∃a o,u=.ref a/\IsD H a/\QJ H a z o/\(r=none->o=none)/\∀v,r=some v->∃w,o=some w/\VR K [] H w v:=by
 cases h with
 | k kvs k h0=>
  obtain⟨a,o,vs,rfl,e,d⟩:=RM h0 hu;have ez:z=kV k:=by
   cases k with
   | inl i=>cases hz;rfl
   | inr i=>cases hz;rfl
  subst ez;exact⟨a,iU vs k,rfl,.inl ⟨vs,.inr ⟨o,e⟩⟩,.inl ⟨vs,k,.inr ⟨o,e⟩,rfl,rfl⟩,(iR.get' d).1,fun v=>(iR.get' d).2⟩
 | t kvs k h0=>
  obtain⟨a,o,vs,rfl,e,d⟩:=Kv h0 hu;cases hz with
  | @tup b us _ e1 r1=>
  have:=HN r1;subst this;exact⟨a,iU vs k,rfl,.inr ⟨vs,.inr ⟨o,e⟩⟩,.inr ⟨vs,k,b,.inr ⟨o,e⟩,rfl,e1,rfl⟩,(oG.get d).1,fun v=>(oG.get d).2⟩
def dgW (d y:PV):W PV:=⟨fun Q=>∃v,Fw d y (some v)/\Q v,fun f ⟨v,a,q⟩=>⟨v,a,f _ q⟩⟩
def X3 (a b:W PV):W PV:=.bind a fun x=>.bind b fun y=>dgW x y
def M3 (hu:X.A.units+200 < cLine) (ha:EF X K fs a wa) (hb:EF X K fs b wb) (hs:UG b):EF X K fs (.Subscript a b pos) (X3 wa wb):=⟨PE.imp (OJ (by omega) ha.p hb.p hs) fun σ H Q ⟨sr,q⟩=>⟨sr,wa.mono (fun x q1 u1 H1 g1 s1 v1=>⟨s1,wb.mono (fun y q2 u2 H2 g2 s2 v2=>by
 obtain⟨v,g,q2⟩:=q2;obtain⟨a,o,rfl,_,g2',_,h⟩:=g.ok (g2.vr s1 v1) v2;obtain⟨w,rfl,vw⟩:=h v rfl;exact⟨a,w,rfl,g2',q2 _ H2 (g1.trans g2) s2 vw⟩) q1⟩) q⟩⟩
def Ij {kvs:List (List Key×PV)}{k:List Key}{v:PV}{Q:PV->Prop} (h:lV kvs k=some v) (q:Q v):(dgW (M6 kvs) (.tup (k.map kP))).run Q:=⟨v,by rw [<- h];exact .t kvs k (fun z=>by subst z;simp [lV] at h),q⟩
def L3 (d:PV):W (List PV):=⟨fun Q=>∃kvs:List (List Key×PV),d=M6 kvs/\kvs≠[]/\kvs.length<=1000/\Q (kvs.map fun kv=>.tup (kv.1.map kP)),fun f q=>q.imp fun kvs h=>⟨h.1,h.2.1,h.2.2.1,f _ h.2.2.2⟩⟩
def Pw {tg:Expr} (h:EF X K fs e w):rE X K fs tg e (.bind w L3):=⟨PI.imp (Lj h.p) fun σ H R ⟨sr,q⟩=>⟨sr,w.mono (fun x q1 u1 H1 g1 s1 v1=>by
 obtain⟨kvs,rfl,h0,hl,q1⟩:=q1;obtain⟨a,o,vs,rfl,e,d1,d2⟩:=Kv h0 v1;have len:vs.length=kvs.length:=by have:=congrArg BL d1;simpa using this
 refine⟨a,o,vs,rfl,e,q1 _ H1 g1 s1 ⟨a8 (by simpa using hl),fun H' t=>?_⟩⟩;have e':=t.z _ _ _ e;refine⟨fun i p hp=>?_,vs,e',by simp [len]⟩;rw [Ai] at hp;cases z:kvs[i]? with
 | none=>rw [z] at hp;cases hp
 | some kv=>
  rw [z] at hp;have hp:=Option.some.inj hp;subst hp;have hi:=(Aj.mp z).1;refine⟨⟨vs,e',by omega⟩,fun y H2 yy=>?_⟩;obtain⟨rfl,yy⟩:=yy;obtain⟨b,k,v,rfl,k2,k3⟩:=yy vs e';have ek:k=kv.1:=by
   have h1:(vs.map (·.1))[i]?=some k:=by rw [Ai,k2];rfl
   rw [d1,Ai,z] at h1;exact (Option.some.inj h1).symm
  subst ek;exact⟨lG.refl _,.tup k3 (L8 _ _)⟩) q⟩⟩
def Js {kvs:List (List Key×PV)}{Q:List PV->Prop} (h0:kvs≠[]) (hl:kvs.length<=1000) (q:Q (kvs.map fun kv=>.tup (kv.1.map kP))):(L3 (M6 kvs)).run Q:=⟨kvs,rfl,h0,hl,q⟩
end
end
end FL
namespace L2
open PySem PySem.Spec PyProof.Rows
section
variable {X:Cx}{pins:List (Addr×Obj)}{σ:St}{H:Hp}{s:Shared}
theorem Inv.zG (I:Inv X pins σ H s):∀bs:List Addr,(∀b∈bs,∃ws,H b=some (.lst ws))->∃H',Inv X pins σ H' s/\(∀c,c∉bs->H' c=H c)/\∀b∈bs,∃ob ws,H b=some (.lst ws)/\H' b=some (.cR ob (.lst ws))
 | [],_=>⟨H,I,fun _ _=>rfl,fun b hb=>nomatch hb⟩
 | b::bs,h=>by
  obtain⟨H',I',h1,h2⟩:=Inv.zG I bs fun c hc=>h c (.tail _ hc);by_cases hb:b∈bs
  ·refine⟨H',I',fun c hc=>h1 c fun z=>hc (.tail _ z),fun c hc=>?_⟩;rcases Az.mp hc with rfl | hc
   ·exact h2 _ hb
   ·exact h2 c hc
  ·obtain⟨ws,e⟩:=h b (.head _);obtain⟨ob,I2⟩:=I'.rj ((h1 b hb).trans e);refine⟨_,I2,fun c hc=>?_,fun c hc=>?_⟩
   ·rw [av (fun z=>by subst z;exact hc (.head _))];exact h1 c fun z=>hc (.tail _ z)
   ·by_cases cb:c=b
    ·subst cb;exact⟨ob,ws,e,aO⟩
    ·rcases Az.mp hc with z | hc
     ·exact absurd z cb
     ·obtain⟨ob',rH,e1,e2⟩:=h2 c hc;exact⟨ob',rH,e1,by rw [av cb];exact e2⟩
open Classical in
theorem Inv.Ky {f:Addr->List V} (J:Inv X pins σ H s):∀bs:List Addr,(∀b∈bs,∃ob,H b=some (.cR ob (.lst (f b))))->(∀b∈bs,∀o u,X.H₀ b≠some (.cR o u))->Inv X pins σ (fun c=>if c∈bs then some (.lst (f c)) else H c) s
 | [],_,_=>by
  have:(fun c=>if c∈([]:List Addr) then some (HO.lst (f c)) else H c)=H:=funext fun c=>if_neg (by simp);rw [this];exact J
 | b::bs,h,h0=>by
  have J2:=Inv.Ky J bs (fun c hc=>h c (.tail _ hc)) fun c hc=>h0 c (.tail _ hc);by_cases hb:b∈bs
  ·have:(fun c=>if c∈b::bs then some (HO.lst (f c)) else H c)=fun c=>if c∈bs then some (.lst (f c)) else H c:=funext fun c=>by
    by_cases z:c=b
    ·subst z;rw [if_pos (.head _),if_pos hb]
    ·by_cases y:c∈bs
     ·rw [if_pos (.tail _ y),if_pos y]
     ·rw [if_neg (fun x=>(Az.mp x).elim z y),if_neg y]
   rw [this];exact J2
  ·obtain⟨ob,e⟩:=h b (.head _);have e2:(fun c=>if c∈bs then some (HO.lst (f c)) else H c) b=some (.cR ob (.lst (f b))):=by show (if b∈bs then _ else _)=_;rw [if_neg hb];exact e
   have hk:=vq J2.bP e2;have J3:=J2.Vv e2 (h0 b (.head _)) (hk b _ aO) hk;have:(fun c=>if c∈b::bs then some (HO.lst (f c)) else H c)=upd (fun c=>if c∈bs then some (HO.lst (f c)) else H c) b (.lst (f b)):=funext fun c=>by
    by_cases z:c=b
    ·subst z;rw [if_pos (.head _),aO]
    ·rw [av z];show _=if c∈bs then _ else _
     by_cases y:c∈bs
     ·rw [if_pos (.tail _ y),if_pos y]
     ·rw [if_neg (fun x=>(Az.mp x).elim z y),if_neg y]
   rw [this];exact J3
end
end L2
namespace FL
section
open PySem PySem.Spec PyProof.Rows L2 PL
variable {K:Ab}
section
variable {σ:L2.St}{fs:aX}{H:Hp}{i:Nat}{bs:List Addr}{ls:List (List PV)}
def i5 (sr:aR K H σ fs) (hs:fs[i]?=some (some (.qY bs ls))):∃a,σ[i]?=some (some (.ref a))/\iB K H a (.qY bs ls):=by
 obtain⟨u,e1,r⟩:=sr.at' i _ hs;rcases r with⟨v,e,_⟩ | ⟨a,e,r⟩
 ·cases e
 ·subst e;exact⟨a,e1,r⟩
theorem Nc {H':Hp}:∀{bs:List Addr}{ls:List (List PV)},bs.length=ls.length->(∀(j:Nat) (b:Addr) (l:List PV),bs[j]?=some b->ls[j]?=some l->VR K [] H' (.ref b) (.cl l))->aK K [] H' (bs.map V.ref) (ls.map PV.cl)
 | [],[],_,_=>.nil
 | [],_::_,h,_=>by simp at h
 | _::_,[],h,_=>by simp at h
 | b::bs,l::ls,h,hv=>.cons (hv 0 b l rfl rfl) (Nc (by simpa using h) fun j b l h1 h2=>hv (j+1) b l (by simpa using h1) (by simpa using h2))
def Yb {X:Cx}{pins:List (Addr×Obj)}{s:Shared} (I:Inv X pins σ H s) (sr:aR K H σ fs) (hs:fs[i]?=some (some (.qY bs ls))):∃H',Inv X pins σ H' s/\aR K H' σ (fs.set i (some (.ol none (ls.map PV.cl))))/\cE σ fs H σ (fs.set i (some (.ol none (ls.map PV.cl)))) H'/\(∀c,H c=none->H' c=none)/\
  ∀σ' s' H1,Inv X pins σ' H1 s'->cL σ (fs.set i (some (.ol none (ls.map PV.cl)))) H' H1->aR K H1 σ (fs.set i (some (.ol none (ls.map PV.cl))))->∃H2,Inv X pins σ' H2 s'/\cL σ fs H H2/\aR K H2 σ fs/\(∀p vs,H1 p=some (.tup vs)->H2 p=some (.tup vs))/\∀p vs,H p=none->H1 p=some (.lst vs)->H2 p=some (.lst vs):=by
 obtain⟨a,e1,q1,q2,q3,q4,q5⟩:=i5 sr hs;have FD:∀b∈bs,∃ws,H b=some (.lst ws):=fun b hb=>by
  obtain⟨j,hj⟩:=Co hb;have h1:=(Aj.mp hj).1;obtain⟨ws,e,_⟩:=q5 j b _ hj (Ae (by rw [<- q4];exact h1));exact⟨ws,e⟩
 obtain⟨H',I',k1,k2⟩:=I.zG bs FD;have tk:bc K H H':=⟨fun b vs z=>by
  by_cases c:b∈bs
  ·obtain⟨ws,e⟩:=FD b c;rw [e] at z;cases z
  ·rw [k1 b c];exact z,fun b o u z=>by
  by_cases c:b∈bs
  ·obtain⟨ws,e⟩:=FD b c;rw [e] at z;cases z
  ·rw [k1 b c];exact z⟩
 have aU:∀c,H c=none->H' c=none:=fun c z=>by
  by_cases y:c∈bs
  ·obtain⟨ws,e⟩:=FD c y;rw [e] at z;cases z
  ·rw [k1 c y];exact z
 have it:∀{t:SL},(some t:Option SL)=some (.ol none (ls.map PV.cl))->t=.ol none (ls.map PV.cl):=fun z=>by injection z
 have s2:aR K H' σ (fs.set i (some (.ol none (ls.map PV.cl)))):=by
  refine⟨by simp [sr.len],fun j t z=>?_,fun j k t u b1 b2 b z1 z2 o1 o2=>?_⟩
  ·rcases aY z with⟨rfl,rfl⟩ | ⟨n,z⟩
   ·refine⟨_,e1,.inr ⟨a,rfl,by simp,bs.map V.ref,by rw [k1 a q2];exact q1,Nc q4 fun j b l h1 h2=>?_⟩⟩;obtain⟨ob,ws,f1,f2⟩:=k2 b (Bn h1);obtain⟨rH,f3,f4⟩:=q5 j b l h1 h2;rw [f1] at f3;cases f3;exact .cl (.inl ⟨ob,f2⟩) (aK.tk tk f4)
   ·obtain⟨u,h1,h2⟩:=sr.at' j t z;exact⟨u,h1,h2.mono tk (fun x b o eb ow hb zz=>by
     subst eb;rw [k1 b (fun y=>n (sr.nd j i t _ x a b z hs ow rfl h1 e1 hb (.inr y)))];exact zz)⟩
  ·intro y1 y2 w1 w2;have f:∀{j:Nat}{t:SL}{c:Addr},(fs.set i (some (.ol none (ls.map PV.cl))))[j]?=some (some t)->t.own=true->σ[j]?=some (some (.ref c))->t.has c b->∃t',fs[j]?=some (some t')/\t'.own=true/\t'.has c b:=fun {j t c} z ow y hb=>by
    rcases aY z with⟨rfl,rfl⟩ | ⟨n,z⟩
    ·refine⟨_,hs,rfl,?_⟩;rcases hb with hb | hb
     ·exact .inl hb
     ·cases hb
    ·exact⟨t,z,ow,hb⟩
   obtain⟨t',a1,a2,a3⟩:=f z1 o1 y1 w1;obtain⟨u',c1,c2,c3⟩:=f z2 o2 y2 w2;exact sr.nd j k t' u' b1 b2 b a1 c1 a2 c2 y1 y2 a3 c3
 have pf:∀φ b,e6 σ (fs.set i (some (.ol none (ls.map PV.cl)))) φ b->e6 σ fs φ b:=fun φ b ⟨j,z1,z3⟩=>by
  rcases aY z1 with⟨_,z⟩ | ⟨n,z1⟩
  ·cases z
  ·exact⟨j,z1,z3⟩
 have pb:∀φ b,e6 σ fs φ b->e6 σ (fs.set i (some (.ol none (ls.map PV.cl)))) φ b:=fun φ b ⟨j,z1,z3⟩=>by
  have ji:j≠i:=fun y=>by subst y;rw [hs] at z1;cases z1
  exact⟨j,by rw [aD ji];exact z1,z3⟩
 have npb:∀b∈bs,∀φ,¬e6 σ fs φ b:=fun b hb φ ⟨j,z1,z3⟩=>by
  have:=sr.nd j i _ _ b a b z1 hs rfl rfl z3 e1 (.inl rfl) (.inr hb);subst this;rw [hs] at z1;cases z1
 have gf:cE σ fs H σ (fs.set i (some (.ol none (ls.map PV.cl)))) H':=by
  refine⟨fun b o z n=>⟨?_,fun y=>?_⟩,fun b z=>?_,fun b φ z=>.inl (pb φ b z)⟩
  ·rw [k1 b (fun y=>n ⟨i,_,a,hs,rfl,e1,.inr y⟩)];exact z
  ·obtain⟨j,t,x,z1,z2,z3,z4⟩:=y;rcases aY z1 with⟨rfl,rfl⟩ | ⟨m,z1⟩
   ·rcases z4 with z4 | z4
    ·exact n ⟨j,_,x,hs,rfl,z3,.inl z4⟩
    ·cases z4
   ·exact n ⟨j,t,x,z1,z2,z3,z4⟩
  ·by_cases c:b∈bs
   ·obtain⟨ob,ws,f1,f2⟩:=k2 b c;rw [f2] at z;cases z
   ·rw [k1 b c] at z;exact z
 refine⟨H',I',s2,gf,aU,fun σ' s' H1 J g s1=>?_⟩
 classical
 have fz:∀b∈bs,∃ob,H1 b=some (.cR ob (.lst ((match H b with | some (.lst ws)=>ws | _=>[]):List V))):=fun b hb=>by
  obtain⟨ob,ws,f1,f2⟩:=k2 b hb;rw [f1];exact⟨ob,g.keep b _ f2 fun φ p=>npb b hb φ (pf φ b p)⟩
 have h0:∀b∈bs,∀o u,X.H₀ b≠some (.cR o u):=fun b hb o u z=>by
  have:=I.base.qN b o u z;obtain⟨ws,e⟩:=FD b hb;rw [e] at this;cases this
 have J2:=Inv.Ky (f:=fun b=>match H b with | some (.lst ws)=>ws | _=>[]) J bs fz h0;have uJ:∀b∈bs,(fun c=>if c∈bs then some (HO.lst (match H c with | some (.lst ws)=>ws | _=>[])) else H1 c) b=H b:=fun b hb=>by
  obtain⟨ws,e⟩:=FD b hb;show (if b∈bs then _ else _)=_;rw [if_pos hb,e]
 have JE:∀b,b∉bs->(fun c=>if c∈bs then some (HO.lst (match H c with | some (.lst ws)=>ws | _=>[])) else H1 c) b=H1 b:=fun b hb=>by
  show (if b∈bs then _ else _)=_;rw [if_neg hb]
 generalize (fun c=>if c∈bs then some (HO.lst (match H c with | some (.lst ws)=>ws | _=>[])) else H1 c)=H2 at J2 uJ JE;have ge:cL σ fs H H2:=by
  refine⟨fun b o z n=>?_,fun b z=>?_⟩
  ·by_cases c:b∈bs
   ·rw [uJ b c];exact z
   ·rw [JE b c];exact g.keep b o (by rw [k1 b c];exact z) fun φ p=>n φ (pf φ b p)
  ·by_cases c:b∈bs
   ·rw [uJ b c] at z;exact z
   ·rw [JE b c] at z;have:=g.there b z;rw [k1 b c] at this;exact this
 refine⟨H2,J2,ge,⟨sr.len,fun j t z=>?_,sr.nd⟩,fun p vs z=>?_,fun p vs n z=>?_⟩
 ·obtain⟨u,m1,m2⟩:=sr.at' j t z;refine⟨u,m1,?_⟩;by_cases c:∃φ,t=.gI φ
  ·obtain⟨φ,rfl⟩:=c;have ji:j≠i:=fun y=>by subst y;rw [hs] at z;cases z
   rcases m2 with⟨v,y,_⟩ | ⟨b,rfl,_⟩
   ·cases y
   ·obtain⟨vs,y1,y2⟩:=s1.ownAt (t:=.gI φ) (i:=j) (by rw [aD ji];exact z) rfl m1;refine .inr ⟨b,rfl,vs,?_,y2⟩;rw [JE b (fun y=>npb b y φ ⟨j,z,m1⟩)];exact y1
  ·refine m2.mono (ge.eJ sr) (fun x b o eb ow hb zz=>ge.keep b o zz fun φ ⟨j',p1,p3⟩=>?_);subst eb;have:=sr.nd j j' t _ x b b z p1 ow rfl m1 p3 hb (.inl rfl);subst this;rw [z] at p1;cases p1;exact c ⟨φ,rfl⟩
 ·rw [JE p (fun y=>by obtain⟨ob,f⟩:=fz p y;rw [f] at z;cases z)];exact z
 ·rw [JE p (fun y=>by obtain⟨ws,e⟩:=FD p y;rw [e] at n;cases n)];exact z
end
section
variable {X:Cx}{a e e1 e2:Expr}{rest:List Stmt}{pos p p' apos bD fM rO:Pos}{fs:aX}{T:Type}{out:T->End}{x:Bool}{w we w1 w2:W PV}{wl:W (List PV)}{bs:List Addr}{ls:List (List PV)}{y:Str}
def Ig (i:Nat) (hs:fs[i]?=some (some (.qY bs ls))) (h:EF X K (fs.set i (some (.ol none (ls.map PV.cl)))) e w):EF X K fs e (.bind w rN):=⟨fun pins s σ H Q I ⟨sr,q⟩=>by
 obtain⟨H',I2,s2,_,_,back⟩:=Yb I sr hs;refine cj (h.p pins s σ _ (fun u H1=>∃v,cL σ (fs.set i (some (.ol none (ls.map PV.cl)))) H' H1/\aR K H1 σ (fs.set i (some (.ol none (ls.map PV.cl))))/\VR K [] H1 u v/\v.dat=true/\∀u H',cL σ fs H H'->aR K H' σ fs->VR K [] H' u v->Q u H') I2 ⟨s2,w.mono (fun v q1 u H1 g1 s1 v1=>⟨v,g1,s1,v1,q1.1,q1.2⟩) q⟩) fun u s1 ⟨x,H1,I1,r1,v,g1,Ol,v1,d,q1⟩=>?_;obtain⟨H2,I3,g3,s3,t3,_⟩:=back σ s1 H1 I1 g1 Ol;exact⟨x,_,I3,r1,q1 x _ g3 s3 (VR.jU t3 v1 d)⟩⟩
def SF.Xz (i:Nat) {NF:List Stmt}{wt:W T} (hs:fs[i]?=some (some (.qY bs ls))) (hr:SF X K x (fs.set i (some (.ol none (ls.map PV.cl)))) NF wt out):SF X K x fs NF wt out:=⟨fun pins s σ H D I ⟨sr,q⟩=>by
 obtain⟨H',I2,s2,gf,_,_⟩:=Yb I sr hs;exact hr.p pins s σ _ D I2 ⟨s2,wt.mono (fun t q3=>q3.go gf sr s2) q⟩⟩
def SF.VT {i:Nat}{k:W T}{p2:Pos} (hN:X.N.Nodup) (hi:X.N[i]?=some y) (hx:Loc X.env.scope y) (hr:SF X K x (fs.set i (some (.qY [] []))) rest k out) (hs:swapsWith (.List [] p2) (some (.Name y p')) pos.line X.env=pure false:=by rfl)
  (hf:X.fn y=true\/X.env.scope.names.lookup y=some .local:=by first | exact .inl rfl | exact .inr rfl | assumption):SF X K x fs (.Assign [.Name y p'] (.List [] p2) pos::rest) k out:=SF.step (wD hN hi hx (HB cX) hs hf) fun D σ H ⟨sr,q⟩=>⟨Bm _,fun a H1 s1 e1 n1=>by
 have no:=sr.noOwn n1;have oa:iB K H1 a (.qY [] []):=⟨e1,by simp,by simp,rfl,fun j b l h=>by simp at h⟩;have s2:=(sr.same s1).wB (t:=.qY [] []) oa no i;exact⟨_,k,hr,s2,k.mono (fun t q2=>q2.go (cE.wB (sr.same s1) (cE.same s1 sr) no n1 i) sr s2) q⟩⟩
def Pt (ls:List (List PV)):PV->W (Nat×List PV)
 | .int k=>.Lz ((pW ls.length k).bind fun j=>(ls[j]?).map fun l=>(j,l))
 | _=>.fail
def SF.Nt (i:Nat) {k:List Addr->List (List PV)->W T} (hs:fs[i]?=some (some (.qY bs ls))) (hK:X.K=K) (hN:X.N[i]?=some y) (hv:FG X.env.scope y) (he:LF X K fs e wl) (hr:∀Zm S5,SF X K x (fs.set i (some (.qY Zm S5))) rest (k Zm S5) out)
  (hd:(y==("__debug__":Str))=false:=by decide) (ko:(y==("__classdict__":Str))=false:=by decide) (fW:attributeBase (.Name y p) "append" X.env (eval (.Name y p) X.env)=eval (.Name y p) X.env:=by rfl)
  (sY:((backTo bD (starEach [e] X.env)).all (fun x=>!x.1)&&(backToKw bD (keywordEach [] X.env)).all (fun x=>x.1.isSome)
   && decide ([e].length+([]:List Keyword).length+(if ([]:List Keyword).isEmpty then 0 else 1) < 30))=true:=by rfl)
  (fV:(apos.endLine==bD.line)=true:=by rfl) (zD:starEach [e] X.env=(false,eval e X.env)::starEach [] X.env:=by rfl) (hJ:(backTo bD (starEach [] X.env)).any (·.1)=false:=by rfl)
  (sU:swapsWith (.Call (.Attribute (.Name y p) "append" apos) [e] [] bD) none pos.line X.env=pure false:=by rfl) :
  SF X K x fs (.Expr (.Call (.Attribute (.Name y p) "append" apos) [e] [] bD) pos::rest) (.bind wl fun l=>.gF (ls.length < sizeLine) (.bind (.any fun _=>True) fun Zm=>.bind (.ret (ls++[l])) fun S5=>k Zm S5)) out:=
 SF.step (nu (wL K hK BM DU DT sA (eT hN hv hd ko) (bF he.p cX zD) fW sY fV zD hJ) sU) fun D σ H ⟨sr,q⟩=>by
  obtain⟨a,e1,q1,q2,q3,q4,q5⟩:=i5 sr hs;refine⟨_,e1,.inl ⟨rfl,_,cT.of q1⟩,sr,wl.mono (fun l ql b vs H1 g1 s1 nb eb vl=>?_) q⟩;obtain⟨a',pJ,r1,r2,r3,r4,r5⟩:=i5 s1 hs;rw [e1] at pJ;cases pJ;refine⟨a,_,_,rfl,rfl,r1,by rw [Af,r4];exact ql.1,fun H2 sx h2=>?_⟩;have hq:=ql.2 (bs++[b]) trivial;have Ha:H a≠none:=fun z=>by rw [q1] at z;cases z
  have ab:a≠b:=fun z=>Ha (z▸nb);have bin:∀c∈bs,∃ws,H c=some (.lst ws):=fun c hc=>by
   obtain⟨j,hj⟩:=Co hc;obtain⟨ws,e,_⟩:=q5 j c _ hj (Ae (by rw [<- q4];exact (Aj.mp hj).1));exact⟨ws,e⟩
  have bn:b∉bs:=fun z=>by obtain⟨ws,e⟩:=bin b z;rw [nb] at e;cases e
  have nbo:=sr.noOwn nb;have tk:bc K H1 H2:=⟨fun c us z=>sx c _ (fun w=>by subst w;rw [r1] at z;cases z) z,fun c o u z=>sx c _ (fun w=>by subst w;rw [r1] at z;cases z) z⟩;have oa:iB K H2 a (.qY (bs++[b]) (ls++[l])):=by
   refine⟨by rw [h2,A1];rfl,fun z=>?_,?_,by simp [r4],fun j c l' h1 h3=>?_⟩
   ·rcases Bh.mp z with z | z
    ·exact r2 z
    ·exact ab (by simpa using z)
   ·exact DQ.mpr ⟨r3,by simp,fun u hu v hv w=>by simp at hv;subst hv;subst w;exact bn hu⟩
   ·rcases iJ h1 with h1 | ⟨rfl,rfl⟩
    ·rcases iJ h3 with h3 | ⟨rfl,rfl⟩
     ·obtain⟨ws,f1,f2⟩:=r5 j c l' h1 h3;exact⟨ws,sx c _ (fun z=>by subst z;exact r2 (Bn h1)) f1,aK.tk tk f2⟩
     ·have:=(Aj.mp h1).1;omega
    ·rcases iJ h3 with h3 | ⟨_,rfl⟩
     ·have:=(Aj.mp h3).1;omega
     ·exact⟨vs,sx c _ (Bx ab) eb,aK.tk tk vl⟩
  have TQ:∀c,(SL.qY (bs++[b]) (ls++[l])).has a c->(SL.qY bs ls).has a c\/c=b:=fun c h=>by
   rcases h with h | h
   ·exact .inl (.inl h)
   ·rcases Bh.mp (show c∈bs++[b] from h) with h | h
    ·exact .inl (.inr h)
    ·exact .inr (by simpa using h)
  have s2:aR K H2 σ (fs.set i (some (.qY (bs++[b]) (ls++[l])))):=by
   refine⟨by simp [s1.len],fun j t z=>?_,fun j k t u b1 b2 c z1 z2 o1 o2 y1 y2 w1 w2=>?_⟩
   ·rcases aY z with⟨rfl,rfl⟩ | ⟨n,z⟩
    ·exact⟨_,e1,.inr ⟨a,rfl,oa⟩⟩
    ·obtain⟨u,m1,m2⟩:=s1.at' j t z;exact⟨u,m1,m2.mono tk (fun x c o ec ow hc zz=>sx c o (fun w=>by subst ec;subst w;exact n (s1.nd j i t _ x c c z hs ow rfl m1 e1 hc (.inl rfl))) zz)⟩
   ·have LD:∀{j:Nat}{t:SL}{c':Addr},fs[j]?=some (some t)->t.own=true->σ[j]?=some (some (.ref c'))->¬t.has c' b:=fun {j t c'} m1 m2 m3 m4=>nbo ⟨j,t,c',m1,m2,m3,m4⟩;rcases aY z1 with⟨rfl,rfl⟩ | ⟨n1,v1⟩ <;> rcases aY z2 with⟨m,rfl⟩ | ⟨n2,v2⟩
    ·exact m.symm
    ·rw [e1] at y1;cases y1;rcases TQ c w1 with w1 | w1
     ·exact s1.nd _ k _ u _ b2 c hs v2 rfl o2 e1 y2 w1 w2
     ·exact absurd (w1▸w2) (LD v2 o2 y2)
    ·subst m;rw [e1] at y2;cases y2;rcases TQ c w2 with w2 | w2
     ·exact s1.nd j _ t _ b1 _ c v1 hs o1 rfl y1 e1 w1 w2
     ·exact absurd (w2▸w1) (LD v1 o1 y1)
    ·exact s1.nd j k t u b1 b2 c v1 v2 o1 o2 y1 y2 w1 w2
  have g2:cE σ fs H σ (fs.set i (some (.qY (bs++[b]) (ls++[l])))) H2:=by
   refine⟨fun c o z n=>⟨sx c o (fun w=>by subst w;exact n ⟨i,_,c,hs,rfl,e1,.inl rfl⟩) (g1.pU z n),fun yy=>?_⟩,fun c z=>?_,fun c φ z=>?_⟩
   ·obtain⟨j,t,x,z1,z2,z3,z4⟩:=yy;rcases aY z1 with⟨rfl,rfl⟩ | ⟨m,z1⟩
    ·rw [e1] at z3;cases z3;rcases TQ c z4 with z4 | rfl
     ·exact n ⟨j,_,_,hs,rfl,e1,z4⟩
     ·rw [nb] at z;cases z
    ·exact n ⟨j,t,x,z1,z2,z3,z4⟩
   ·refine g1.there c ?_;cases zz:H1 c with
    | none=>rfl
    | some o=>
     by_cases ca:c=a
     ·subst ca;rw [h2] at z;cases z
     ·rw [sx c o ca zz] at z;cases z
   ·obtain⟨j,p1,p2⟩:=z;have ji:j≠i:=fun w=>by subst w;rw [hs] at p1;cases p1
    exact .inl ⟨j,by rw [aD ji];exact p1,p2⟩
  exact⟨_,k _ _,hr _ _,s2,(k _ _).mono (fun t q2=>q2.go g2 sr s2) hq⟩
def SF.VU (i:Nat) {k:List (List PV)->W T} (hs:fs[i]?=some (some (.qY bs ls))) (hK:X.K=K) (hN:X.N[i]?=some y) (hv:FG X.env.scope y) (he:EF X K fs e we) (h1:EF X K fs e1 w1) (h2:EF X K fs e2 w2) (uk:rC e1) (hr:∀S5,SF X K x (fs.set i (some (.qY bs S5))) rest (k S5) out)
  (ha:∀v,assign (.Subscript (.Subscript (.Name y p) e1 rO) e2 fM) X.env v=(do
   let ov <- holding [v] (eval (.Subscript (.Name y p) e1 rO) X.env)
   let iv <- holding [v,ov] (eval e2 X.env)
   standAt fM
   holding [v,ov,iv] (setItem ov iv v)
   release [v,ov,iv] []):=by intro _;rfl)
  (hd:(y==("__debug__":Str))=false:=by decide) (ko:(y==("__classdict__":Str))=false:=by decide) (Xb:swapsWithSole [.Subscript (.Subscript (.Name y p) e1 rO) e2 fM] e pos.line X.env=pure false:=by rfl) (hw:swappedStores [.Subscript (.Subscript (.Name y p) e1 rO) e2 fM] e X.env=pure none:=by rfl)
  (hq1:(assignEach [.Subscript (.Subscript (.Name y p) e1 rO) e2 fM] X.env).map (·.2)=[assign (.Subscript (.Subscript (.Name y p) e1 rO) e2 fM) X.env]:=by rfl) :
  SF X K x fs (.Assign [.Subscript (.Subscript (.Name y p) e1 rO) e2 fM] e pos::rest) (.bind we fun v=>.bind w1 fun n=>.bind (Pt ls n) fun jl=>.bind w2 fun m=>.bind (iX jl.2 m v) fun l'=>.bind (.ret (ls.set jl.1 l')) k) out:=
 SF.step (wG he.p (Lk (Lr (HP K hK) (eT hN hv hd ko) h1.p uk) h2.p oQ ha) Xb hw hq1) fun D σ H ⟨sr,q⟩=>by
  refine⟨sr,we.mono (fun v qv u H1 g1 s1 v1=>?_) q⟩;obtain⟨a,pJ,q1,q2,q3,q4,q5⟩:=i5 s1 hs;refine⟨_,pJ,s1,w1.mono (fun n qn u2 H2 g2 s2 v2=>?_) qv⟩;obtain⟨a2,Um,r1,r2,r3,r4,r5⟩:=i5 s2 hs;rw [pJ] at Um;cases Um;cases v2 with
  | int kk=>
   have qn:(W.Lz ((pW ls.length kk).bind fun j=>(ls[j]?).map fun l=>(j,l))).run _:=qn;cases hj:pW ls.length kk with
   | none=>rw [hj] at qn;exact qn.elim
   | some j=>
    have jl:=(xi hj).2.1;have hl:ls[j]?=some ls[j]:=Ae jl;rw [hj] at qn;simp only [Option.bind_some] at qn;rw [hl] at qn;have qn:(W.bind w2 fun m=>.bind (iX ls[j] m v) fun l'=>.bind (.ret (ls.set j l')) k).run _:=qn;have hb:bs[j]?=some (bs[j]'(by omega)):=Ae (by omega);generalize bs[j]'(by omega)=b at hb;generalize ls[j]=l at hl qn;have hix:cB (bs.map V.ref) kk=some (.ref b):=by
     unfold cB;rw [Af,r4,hj];show (bs.map V.ref)[j]?=_;rw [Ai,hb];rfl
    refine .inl ⟨a,_,kk,.ref b,rfl,rfl,cT.of r1,hix,s2,w2.mono (fun m qm u3 H3 g3 s3 v3=>?_) qn⟩;obtain⟨a3,Rx,p1,p2,p3,p4,p5⟩:=i5 s3 hs;rw [pJ] at Rx;cases Rx;cases v3 with
    | int k2=>
     have qm:(match pW l.length k2 with | some j2=>W.ret (l.set j2 v) | none=>W.fail).run _:=qm;cases Ml:pW l.length k2 with
     | none=>rw [Ml] at qm;exact qm.elim
     | some j2=>
      rw [Ml] at qm;obtain⟨ws,f1,f2⟩:=p5 j b l hb hl;refine⟨b,ws,k2,j2,rfl,rfl,f1,by rw [f2.length];exact Ml,fun H4 sx h4=>?_⟩;have hbm:=Bn hb;have ab:a≠b:=fun z=>p2 (z▸hbm);obtain⟨s4,g4⟩:=pR (t':=.qY bs (ls.set j (l.set j2 v))) s3 hs rfl (by simp) pJ (c:=b) (.inr hbm) (.inr hbm) (fun c h=>h) rfl sx fun tk=>by
       refine⟨sx a _ ab p1,p2,p3,by simp [p4],fun j' b' l' m1 m2=>?_⟩;by_cases c:j'=j
       ·subst c;rw [hb] at m1;cases m1;rw [BA (by omega)] at m2;cases m2;exact⟨_,h4,aK.tk tk (f2.set ((g2.trans g3).vr s1 v1) j2)⟩
       ·rw [Bp (Bx c)] at m2;obtain⟨rH,f3,f4⟩:=p5 j' b' l' m1 m2;refine⟨rH,sx b' _ (fun z=>?_) f3,aK.tk tk f4⟩;subst z;have h1:=Aj.mp hb;have h2:=Aj.mp m1;exact c ((D9 p3).mp (h2.2.trans h1.2.symm))
      exact⟨_,k _,hr _,s4,(k _).mono (fun t q3=>q3.go (((g1.trans g2).trans g3).f.trans g4) sr s4) qm⟩
    | _=>exact qm.elim
  | _=>exact qn.elim
end
end
section
open PySem PySem.Spec PyProof.Rows L2 PL
variable {K:Ab}
def un12:PV->W (PV×PV×PV)
 | .tup [a,.tup [b,c]]=>.ret (a,b,c)
 | _=>.fail
@[simp] theorem ev_un12 (a b c:PV):un12 (.tup [a,.tup [b,c]])=.ret (a,b,c):=(rfl)
section
variable {X:Cx}{fs:aX}{tg:Expr}
def g_12 {i j k:Nat} (hK:X.K=K) (h:PG X tg (JO X.K 2 (iu (cM i) (iu (JO X.K 2 (iu (cM j) (iu (cM k) JP))) JP)))):GF X K fs tg [i,j,k] un12 (fun t=>((fs.set i (some (.val t.1))).set j (some (.val t.2.1))).set k (some (.val t.2.2))):=⟨PG.imp h fun v σ H Q ⟨p,sr,r,q⟩=>by
 subst hK;unfold un12 at q
 split at q
 ·cases r with
  | tup e rs=>
   cases rs with
   | cons ra t=>
   cases t with
   | cons r2 t=>
   cases t;cases r2 with
   | tup e2 rs2=>
   cases rs2 with
   | cons rb t=>
   cases t with
   | cons rc t=>
   cases t;have s1:=sr.dI ra i;have s2:=s1.dI rb j;exact⟨_,_,rfl,da.of e,rfl,_,_,rfl,_,_,rfl,⟨_,_,rfl,da.of e2,rfl,_,_,rfl,_,_,rfl,rfl,rfl,q [_,_,_] (((cE.dI sr _ _ i).trans (cE.dI s1 _ _ j)).trans (cE.dI s2 _ _ k)) (s2.dI rc k)⟩⟩
 ·exact q.elim⟩
end
end
open PySem PySem.Spec PyProof.Rows L2 PL
def cU (ns:List Int):Prop:=∃g s c:Int,ns=[g,s,c]/\0<=g/\0<=s/\s < 2305843009213693951/\0<=c
def drawn (m:Int):W PV:=.any fun v=>∃d:Int,v=.int d/\0<=d/\d < m
def aZ:PV->W PV
 | .int m=>.gF (0 < m/\m<=1000) (drawn m)
 | _=>.fail
def oX {g:Int->Int->PV}{i j:Int}:of2 (aI g) (.int i) (.int j)=.ret (g i j):=W.ext' fun Q=>⟨CD,fun q=>⟨rfl,q⟩⟩
def qZ {C:Int->Int->Prop}{g:Int->Int->PV}{i j:Int}:of2 (UA C g) (.int i) (.int j)=.gF (C i j) (.ret (g i j)):=W.ext' fun Q=>⟨fun q=>⟨q.1,q.2.2⟩,fun q=>⟨q.1,rfl,q.2⟩⟩
section
variable (i j:Int) (a:Bool) (x y:PV) (l m:List PV) (s t:Str)
@[simp] theorem tF:of2 qA (.int i) (.int j)=.ret (.int (i-j)):=oX
@[simp] theorem MN:of2 oZ (.int i) (.int j)=.gF (IntMulOk i j) (.ret (.int (i*j))):=qZ
@[simp] theorem aba:of2 oDiv (.int i) (.int j)=.gF (QM i j) (.ret (.int (i / j))):=qZ
@[simp] theorem MP:of2 oMod (.int i) (.int j)=.gF (0 < j) (.ret (.int (i % j))):=qZ
@[simp] theorem Uc:of2 za (.int i) (.int j)=.gF (ND i j) (.ret (.int (i ^ j.toNat))):=qZ
@[simp] theorem H9:of2 oLt (.int i) (.int j)=.ret (.bl (decide (i < j))):=oX
@[simp] theorem XJ:of2 oLe (.int i) (.int j)=.ret (.bl (decide (i<=j))):=oX
@[simp] theorem Rq:of2 WB (.int i) (.int j)=.ret (.bl (decide (j < i))):=oX
@[simp] theorem XN:of2 YC (.int i) (.int j)=.ret (.bl (decide (j<=i))):=oX
@[simp] theorem XM:of2 Rc (.int i) (.int j)=.ret (.int (i+j)):=oX
def tH:of2 eM x y=.gF (JR x y) (.ret (.bl (de x y))):=W.ext' fun Q=>⟨fun q=>⟨q.1,q.2.2⟩,fun q=>⟨q.1,rfl,q.2⟩⟩
def H0:of2 oY x y=.gF (JR x y) (.ret (.bl (!de x y))):=W.ext' fun Q=>⟨fun q=>⟨q.1,q.2.2⟩,fun q=>⟨q.1,rfl,q.2⟩⟩
@[simp] theorem tG:of2 Jk x .aU=.ret (.bl x.nN):=W.ext' fun Q=>⟨CD,fun q=>⟨rfl,q⟩⟩
def Uh {c:Nat} (h:cB s.cps.toList i=some c):of2 LC (.str s) (.int i)=.gF (s.length<=sizeLine) (.ret (.str ⟨#[c]⟩)):=W.ext' fun Q=>by
 show (s.length<=sizeLine/\match cB s.cps.toList i with | some c=>_/\_ | none=>False)↔_;rw [h];exact⟨fun q=>⟨q.1,q.2.2⟩,fun q=>⟨q.1,rfl,q.2⟩⟩
@[simp] theorem gE:addW (.int i) (.int j)=.ret (.int (i+j)):=(rfl)
@[simp] theorem Qg:addW (.str s) (.str t)=.gF (s.length+t.length<=sizeLine) (.ret (.str (s++t))):=(rfl)
@[simp] theorem Ia:addW (.tup l) (.tup m)=.gF (l.length+m.length<=sizeLine) (.ret (.tup (l++m))):=(rfl)
@[simp] theorem mM:qB (.int i)=.ret (.int (-i)):=(rfl)
@[simp] theorem bB:Zn (.bl a)=.ret a:=(rfl)
@[simp] theorem U9 (w:W PV):Nf (.bl true) w=w:=(rfl)
@[simp] theorem Va (w:W PV):Nf (.bl false) w=.ret (.bl false):=(rfl)
@[simp] theorem n5 (w:W PV):Qu (.bl true) w=w:=(rfl)
@[simp] theorem Qf (w:W PV):Qu (.bl false) w=.ret (.bl false):=(rfl)
@[simp] theorem MK (w:W PV):YA (.bl true) w=.ret (.bl true):=(rfl)
@[simp] theorem MM (w:W PV):YA (.bl false) w=w:=(rfl)
@[simp] theorem Ud:SU (.bl a)=.ret (.bl (!a)):=(rfl)
@[simp] theorem cv:eK (.bl a)=.ret a:=(rfl)
@[simp] theorem Y9:eK (.int i)=.ret (i != 0):=(rfl)
@[simp] theorem Y8:eK .aU=.ret false:=(rfl)
@[simp] theorem Y7:eK (.tup l)=.ret (!l.isEmpty):=(rfl)
@[simp] theorem Za:eK (.cl l)=.ret (!l.isEmpty):=(rfl)
@[simp] theorem aG:aw (.tup l)=.ret l:=(rfl)
@[simp] theorem cg:aw (.cl l)=.ret l:=(rfl)
@[simp] theorem P7:O8 (.cl l)=.ret l:=(rfl)
@[simp] theorem bh:Kg l (.int i)=.Lz (cB l i):=(rfl)
@[simp] theorem xF:qJ l=.ret (.int l.length):=(rfl)
@[simp] theorem tE:ng l=.ret (.tup l):=(rfl)
@[simp] theorem P6:part (.int i)=.ret (some i):=(rfl)
@[simp] theorem xD:yq (.tup [x,y])=.ret (x,y):=(rfl)
@[simp] theorem Ua (z:PV):Yo (.tup [x,y,z])=.ret (x,y,z):=(rfl)
@[simp] theorem MH (z u:PV):Vu (.tup [x,y,z,u])=.ret (x,y,z,u):=(rfl)
@[simp] theorem Qe (k:Kd):gb k (.int i)=.ret (.bl (k.is (.int i))):=(rfl)
@[simp] theorem rq (k:Kd):gb k (.str s)=.ret (.bl (k.is (.str s))):=(rfl)
@[simp] theorem lS (k:Kd):gb k (.tup l)=.ret (.bl (k.is (.tup l))):=(rfl)
@[simp] theorem Zg (k:Kd):gb k (.cl l)=.ret (.bl (k.is (.cl l))):=(rfl)
@[simp] theorem Zh (k:Kd):gb k (.bl a)=.ret (.bl (k.is (.bl a))):=(rfl)
@[simp] theorem Zf (k:Kd):gb k .aU=.ret (.bl (k.is .aU)):=(rfl)
@[simp] theorem dU:q8 eZ [.tup l]=.ret (.int l.length):=W.ext' fun Q=>⟨CD,fun q=>⟨rfl,q⟩⟩
@[simp] theorem gD:q8 eZ [.cl l]=.ret (.int l.length):=W.ext' fun Q=>⟨CD,fun q=>⟨rfl,q⟩⟩
@[simp] theorem Zb:q8 eZ [.str s]=.gF (s.length<=sizeLine) (.ret (.int s.length)):=W.ext' fun Q=>⟨fun q=>⟨q.1,q.2.2⟩,fun q=>⟨q.1,rfl,q.2⟩⟩
@[simp] theorem Uj:q8 Np [.int i]=.ret (.int (if i < 0 then -i else i)):=W.ext' fun Q=>⟨CD,fun q=>⟨rfl,q⟩⟩
@[simp] theorem Zi:q8 tV [.int i]=.ret (.int i):=W.ext' fun Q=>⟨CD,fun q=>⟨rfl,q⟩⟩
@[simp] theorem nZ:q8 tV [.bl a]=.ret (.int (if a then 1 else 0)):=W.ext' fun Q=>⟨CD,fun q=>⟨rfl,q⟩⟩
@[simp] theorem Ug:q8 Nn [.int i,.int j]=.ret (.int (if j > i then j else i)):=W.ext' fun Q=>⟨CD,fun q=>⟨rfl,q⟩⟩
@[simp] theorem Ue:q8 Nm [.int i,.int j]=.ret (.int (if j < i then j else i)):=W.ext' fun Q=>⟨CD,fun q=>⟨rfl,q⟩⟩
@[simp] theorem Ub (p q:Option Int):R3 (.tup l) p q=.ret (.tup (uP l p q)):=(rfl)
@[simp] theorem fK:kf (.int j)=.gF (okN 0 j) (.ret (je 0 j.toNat)):=(rfl)
@[simp] theorem P5 (k:Int):KY (.int i) (.int j) (.int k)=.gF (k = -1/\okN j i) (.ret (p0 i (i-j).toNat)):=(rfl)
@[simp] theorem MJ:wH (l++[x])=.ret (l,x):=by unfold wH;simp
@[simp] theorem xE:yR l (.int i)=.gF (-(2 ^ 63)<=i/\i < 2 ^ 63/\l.length*i.toNat<=sizeLine) (.ret (Ak i.toNat l).flatten):=(rfl)
@[simp] theorem Qc:Kd.is .int (.int i)=true:=(rfl)
@[simp] theorem Zd:Kd.is .int (.bl a)=true:=(rfl)
@[simp] theorem Ze:Kd.is .bool (.bl a)=true:=(rfl)
@[simp] theorem Qd:Kd.is .bool (.int i)=false:=(rfl)
@[simp] theorem rm:Kd.is .str (.str s)=true:=(rfl)
@[simp] theorem nY:Kd.is .str (.tup l)=false:=(rfl)
@[simp] theorem Qb:Kd.is .str (.int i)=false:=(rfl)
@[simp] theorem P8:Kd.is .tup (.tup l)=true:=(rfl)
@[simp] theorem P9:Kd.is .tup (.str s)=false:=(rfl)
@[simp] theorem Qa:Kd.is .tup (.int i)=false:=(rfl)
@[simp] theorem Zc:Kd.is .tup (.bl a)=false:=(rfl)
@[simp] theorem cK (h0:0 < i) (h1:i<=1000):aZ (.int i)=drawn i:=W.ar ⟨h0,h1⟩
def bo {m:Int}{Q:PV->Prop} (h:∀d:Int,0<=d->d < m->Q (.int d)):(drawn m).run Q:=fun v ⟨d,e,h0,h1⟩=>e▸h d h0 h1
end
namespace W
variable {α β:Type}
def le (a b:W α):Prop:=∀Q,b.run Q->a.run Q
def le.refl (a:W α):a.le a:=fun _ h=>h
def le.of_eq {a b:W α} (h:a=b):a.le b:=h▸le.refl a
def le.ret {a:W α}{v:α}{f:α->W β}{b:W β} (h:a.le (.ret v)) (hf:(f v).le b):(a.bind f).le b:=fun Q q=>h _ (hf Q q)
def le.use {a:W α}{v:α}{Q:α->Prop} (h:a.le (.ret v)) (q:Q v):a.run Q:=h _ q
end W
section
variable {S R:Type}
@[simp] theorem XB (s:S) (f:PV->S->W S):eN [] s f=.ret s:=(rfl)
@[simp] theorem U4 (x:PV) (r:List PV) (s:S) (f:PV->S->W S):eN (x::r) s f=.bind (f x s) fun s'=>eN r s' f:=(rfl)
theorem tw {f:PV->S->W S}{Q:S->Prop} (I:List PV->S->Prop):∀{l:List PV}{s:S},I l s->(∀x r s,I (x::r) s->(f x s).run (I r))->(∀s,I [] s->Q s)->(eN l s f).run Q
 | [],s,h0,_,he=>he s h0
 | x::r,s,h0,hs,he=>(f x s).mono (fun s' h=>tw I h hs he) (hs x r s h0)
theorem tB {f:PV->S->W (Lp S R)}{Q:Lp S R->Prop} (I:List PV->S->Prop):∀{l:List PV}{s:S},I l s->(∀x r s,I (x::r) s->(f x s).run fun o=>match o with | .go s'=>I r s' | .out t=>Q (.out t))->(∀s,I [] s->Q (.go s))->(FL.kq l s f).run Q
 | [],s,h0,_,he=>he s h0
 | x::r,s,h0,hs,he=>(f x s).mono (fun o h=>match o,h with
  | .go s',h=>tB I h hs he
  | .out t,h=>h) (hs x r s h0)
def jI {f:PV->S->W S}{Q:S->Prop}{l:List PV} (I:Nat->S->Prop) {s:S} (h0:I 0 s) (hs:∀(i:Nat) (x:PV) s,l[i]?=some x->I i s->(f x s).run (I (i+1))) (he:∀s,I l.length s->Q s):(eN l s f).run Q:=by
 refine tw (fun r s=>∃i,i<=l.length/\r=l.drop i/\I i s) ⟨0,Bm _,rfl,h0⟩ (fun x r s ⟨i,hi,e,h⟩=>?_) (fun s ⟨i,hi,e,h⟩=>?_)
 ·have mJ:i < l.length:=by
   rcases CK i l.length with h | h
   ·exact h
   ·rw [El h] at e;cases e
  rw [Bf mJ] at e;injection e with e1 e2;subst e1;exact (f _ s).mono (fun s' h'=>⟨i+1,mJ,e2,h'⟩) (hs i _ s (Ae mJ) h)
 ·have:i=l.length:=by
   have:=congrArg BL e;rw [Cp] at this;simp at this;omega
  subst this;exact he s h
def P0 {f:PV->S->W (Lp S R)}{Q:Lp S R->Prop}{l:List PV} (I:Nat->S->Prop) {s:S} (h0:I 0 s) (hs:∀(i:Nat) (x:PV) s,l[i]?=some x->I i s->(f x s).run fun o=>match o with | .go s'=>I (i+1) s' | .out t=>Q (.out t)) (he:∀s,I l.length s->Q (.go s)):(FL.kq l s f).run Q:=by
 refine tB (fun r s=>∃i,i<=l.length/\r=l.drop i/\I i s) ⟨0,Bm _,rfl,h0⟩ (fun x r s ⟨i,hi,e,h⟩=>?_) (fun s ⟨i,hi,e,h⟩=>?_)
 ·have mJ:i < l.length:=by
   rcases CK i l.length with h | h
   ·exact h
   ·rw [El h] at e;cases e
  rw [Bf mJ] at e;injection e with e1 e2;subst e1;exact (f _ s).mono (fun o h'=>match o,h' with
   | .go s',h'=>⟨i+1,mJ,e2,h'⟩
   | .out t,h'=>h') (hs i _ s (Ae mJ) h)
 ·have:i=l.length:=by
   have:=congrArg BL e;rw [Cp] at this;simp at this;omega
  subst this;exact he s h
def nX {f:PV->S->W S}{Q:S->Prop}{n:Nat} (I:Nat->S->Prop) {s:S} (h0:I 0 s) (hs:∀(i:Nat) s,i < n->I i s->(f (.int (i:Int)) s).run (I (i+1))) (he:∀s,I n s->Q s):(eN (je 0 n) s f).run Q:=
 jI I h0 (fun i x s hx h=>by obtain⟨hi,rfl⟩:=pB hx;rw [Em];exact hs i s hi h) (fun s h=>he s (by rw [jd] at h;exact h))
def zL {f:PV->S->W (Lp S R)}{Q:Lp S R->Prop}{n:Nat} (I:Nat->S->Prop) {s:S} (h0:I 0 s) (hs:∀(i:Nat) s,i < n->I i s->(f (.int (i:Int)) s).run fun o=>match o with | .go s'=>I (i+1) s' | .out t=>Q (.out t)) (he:∀s,I n s->Q (.go s)):(FL.kq (je 0 n) s f).run Q:=
 P0 I h0 (fun i x s hx h=>by obtain⟨hi,rfl⟩:=pB hx;rw [Em];exact hs i s hi h) (fun s h=>he s (by rw [jd] at h;exact h))
def gN {c:S->W Bool}{b:S->W S}{Q:S->Prop} (I:Nat->S->Prop) {n:Nat}{s:S} (h0:I n s) (hs:∀n s,I n s->(c s).run fun k=>if k=true then (b s).run (fun s'=>∃m,m < n/\I m s') else Q s):(kz c b s).run Q:=by
 refine⟨n+1,?_⟩;have:∀k n s,n < k->I n s->(mx c b k s).run Q:=by
  intro k
  induction k with
  | zero=>intro n s h;omega
  | succ k ih=>
   intro n s hn h;refine (c s).mono (fun z q=>?_) (hs n s h);cases z with
   | true=>exact (b s).mono (fun s' ⟨m,hm,h'⟩=>ih m s' (by omega) h') (show (b s).run _ from q)
   | false=>exact q
 exact this (n+1) n s (by omega) h0
theorem HH {f:PV->W PV}{g:PV->PV}:∀{l:List PV},(∀x∈l,f x=.ret (g x))->dh l f=.ret (l.map g)
 | [],_=>rfl
 | x::r,h=>by
  show W.bind (f x) (fun y=>W.bind (dh r f) fun l=>W.ret (y::l))=_;rw [h x (.head _),HH fun y hy=>h y (.tail _ hy)];rfl
theorem Gg {f:PV->W (Option PV)}{g:PV->Option PV}:∀{l:List PV},(∀x∈l,f x=.ret (g x))->ku l f=.ret (l.filterMap g)
 | [],_=>rfl
 | x::r,h=>by
  show W.bind (f x) (fun o=>W.bind (ku r f) fun l=>W.ret (o.toList++l))=_;rw [h x (.head _),Gg fun y hy=>h y (.tail _ hy),Bs];cases g x <;> rfl
@[simp] theorem Qv (bs:List Bool):Qw (bs.map PV.bl)=.ret (.bl (bs.all id)):=by unfold Qw;rw [xV];rfl
@[simp] theorem Qt (bs:List Bool):Nv (bs.map PV.bl)=.ret (.bl (bs.any id)):=by unfold Nv;rw [xV];rfl
end
section
variable (i j:Int) (a b:Bool) (x y:PV) (l m:List PV) (s t:Str)
@[simp] theorem MB:de (.int i) (.int j)=(i==j):=by rw [de]
@[simp] theorem HY:de (.str s) (.str t)=(s==t):=by rw [de]
@[simp] theorem Rp:de (.bl a) (.bl b)=(a==b):=by rw [de]
@[simp] theorem aco:de (.tup l) (.tup m)=gC l m:=by rw [de]
@[simp] theorem acp:de (.cl l) (.cl m)=gC l m:=by rw [de]
@[simp] theorem aa8:gC [] []=true:=by rw [gC]
@[simp] theorem aa7:gC (x::l) (y::m)=(de x y&&gC l m):=by rw [gC]
@[simp] theorem Y1:PV.dP (.int i)=true:=by rw [PV.dP] <;> simp
@[simp] theorem aa5:PV.dP (.bl a)=true:=by rw [PV.dP] <;> simp
@[simp] theorem YZ:PV.dP (.str s)=true:=by rw [PV.dP] <;> simp
@[simp] theorem Y0:PV.dP .aU=true:=by rw [PV.dP] <;> simp
@[simp] theorem P1:PV.dP (.tup l)=fx l:=by rw [PV.dP]
@[simp] theorem aa4:PV.dP (.cl l)=fx l:=by rw [PV.dP]
@[simp] theorem XD:fx []=true:=by rw [fx]
@[simp] theorem U5:fx (x::l)=(PV.dP x&&fx l):=by rw [fx]
@[simp] theorem XH:PV.e7 (.int i)=0:=by rw [PV.e7] <;> simp
@[simp] theorem Y5:PV.e7 (.bl a)=0:=by rw [PV.e7] <;> simp
@[simp] theorem XF:PV.e7 (.str s)=0:=by rw [PV.e7] <;> simp
@[simp] theorem XG:PV.e7 .aU=0:=by rw [PV.e7] <;> simp
@[simp] theorem MC:PV.e7 (.tup l)=dD l+1:=by rw [PV.e7]
@[simp] theorem Y4:PV.e7 (.cl l)=dD l+1:=by rw [PV.e7]
@[simp] theorem U7:dD []=0:=by rw [dD]
@[simp] theorem T7:dD (x::l)=max (PV.e7 x) (dD l):=by rw [dD]
def zQ:JR (.int i) (.int j):=⟨by simp,by simp,by simp⟩
@[simp] theorem eB:of2 eM (.int i) (.int j)=.ret (.bl (i==j)):=by rw [tH,W.ar (zQ i j),MB]
@[simp] theorem GJ:of2 oY (.int i) (.int j)=.ret (.bl (!(i==j))):=by rw [H0,W.ar (zQ i j),MB]
@[simp] theorem Ui:of2 eM (.bl a) (.bl b)=.ret (.bl (a==b)):=by rw [tH,W.ar ⟨by simp,by simp,by simp⟩,Rp]
@[simp] theorem aa9:of2 oY (.bl a) (.bl b)=.ret (.bl (!(a==b))):=by rw [H0,W.ar ⟨by simp,by simp,by simp⟩,Rp]
end
theorem k7:∀{l:List PV},fx l=true↔∀x∈l,PV.dP x=true
 | []=>by simp
 | x::l=>by rw [fx,AD,k7 (l:=l)];simp
theorem lh {n:Nat}:∀{l:List PV},(∀x∈l,PV.e7 x<=n)->dD l<=n
 | [],_=>by simp
 | x::l,h=>by
  have h1:=h x (.head _);have h2:=lh (l:=l) fun y hy=>h y (.tail _ hy);rw [dD];omega
structure EV where
 P:Program
 w:World
 K:Ab
 mg:Str->Option Value
 base:Heap
structure DF where
 x:Str
 s:Stmt
 ps:List Str
 k:Nat
 sp:Ab->Sp
abbrev DF.C (d:DF) (v:EV):=QK v.P v.w v.K v.mg v.base d.x d.k d.ps (d.sp v.K)
structure DI (v:EV) (d:DF) where
 f:Addr
 fd:FuncData
 fn:NR v.K d.x d.x d.s f fd
 bi:Binds v.K fd d.ps []
 at':v.mg d.x=some (.ref f)
abbrev DI.O {v:EV}{d:DF} (D:DI v d):Prop:=gH v.P v.w v.K v.mg v.base qR d.k D.f D.fd d.ps (d.sp v.K)
def DI.c {v:EV}{d:DF} (D:DI v d) (h:D.O):d.C v:=⟨D.f,D.fd,h,D.bi,D.fn.kp,D.at'⟩
def DI.cN {v:EV}{d:DF}{k:Nat}{sp:Sp} (D:DI v d) (h:gH v.P v.w v.K v.mg v.base qR k D.f D.fd d.ps sp):QK v.P v.w v.K v.mg v.base d.x k d.ps sp:=⟨D.f,D.fd,h,D.bi,D.fn.kp,D.at'⟩
structure DX (K:Ab) (x:Str) (st:Stmt):Prop where
 ex:∃f fd,AY K mainGlobals x=some (some (.ref f))/\NR K x x st f fd
def dx {K:Ab}{x:Str}{st:Stmt}{f:Addr}{oc:Value}{od an:Option Addr}{Lw:Array (Option Value)}{kV doc pm fZ ct:Value} (a:AY K mainGlobals x=some (some (.ref f))) (l:K.lookup f=some ⟨oc,od,.func (B4 x x (jS st) (du st) (aj st) .none kV doc pm an fZ ct),Lw⟩)
  (c:Ds K fZ x=true) (k:Dr K (.ref f)=true):DX K x st:=⟨f,_,a,T4 l c k⟩
def kx {N P:List Str}{sc:Scope} (h1:sc.kind=.function:=by rfl) (h2:sc.isCoroutine=false:=by rfl) (h3:sc.isGenerator=false:=by rfl) (h4:N.Nodup:=by decide +kernel) (h5:N.take P.length=P:=by rfl) (h6:∀x∈P,sc.names.lookup x=some .local\/sc.names.lookup x=some .cell:=by decide +kernel) (h7:∀y∈sc.names,y.2≠.free:=by decide +kernel):ay N P sc:=⟨h1,h2,h3,h4,h5,h6,h7⟩
def lcs {Xs:Scope}{N:List Str}{sc:Scope}{N':List Str}{ix:List (Option Nat)} (h1:sc.kind=.function:=by rfl) (h2:∀y∈sc.names,y.2≠.cell:=by decide +kernel) (h3:∀y∈sc.names,y.2=.local->sc.names.lookup y.1=some .local:=by decide +kernel) (h4:∀y∈sc.names,y.2=.free->(Xs.names.lookup y.1=some .cell\/Xs.names.lookup y.1=some .free):=by decide +kernel) (h5:N'.Nodup:=by decide +kernel) (h6:ix.length=N'.length:=by rfl)
  (h7:((ix.zip N').all fun p=>match p.1 with | none=>true | some j=>decide (N[j]?=some p.2)&&decide (sc.names.lookup p.2=some .free))=true:=by decide +kernel):aF Xs N sc N' ix:=⟨h1,h2,h3,h4,h5,h6,h7⟩
abbrev uE (l:List (Str×NameKind)):Scope:={kind:=.function,names:=(B5 ".0",.local)::l,isGenerator:=false,isCoroutine:=false,more:=[]}
abbrev lo:NameKind:=.local
abbrev gi:NameKind:=.globalImplicit
abbrev fr:NameKind:=.free
section
variable {v:EV}{x:Str}{st:Stmt}{ps N:List Str}{k n:Nat}{ks:List AK}
def vc {m:NS PV n} (D:DI v ⟨x,st,ps,k+1,fun K=>kG K ks (dY n m)⟩) (S:ay N ps (aj st)) (cert:∀l:List PV,l.length=n->∀(fZ:Value) (A:Around) (outer:List Env) (s:Shared) (H:Hp) (E:XK),fD k (A.deeper (envOfC x (aj st) s.heap.objs.size D.f fZ))->SF (tR qR v.P v.w v.K v.mg v.base N x (aj st) D.f fZ A outer s H E).O3 v.K false (tU ks l N.length) (du st) (dY n m l) .rt)
  (TJ:ks.length=ps.length:=by rfl) (one:yn ks:=by repeat' first | exact lM | exact gW (n:=0) | exact gW (n:=1) | exact gW (n:=2) | exact gW (n:=3) | exact gW (n:=4) | exact gW (n:=5) | exact gW (n:=6) | apply sg | apply Wy):D.O:=Y2 D.fn S TJ one cert
def NI {m:NS (List PV) n} (D:DI v ⟨x,st,ps,k+1,fun K=>iV K ks (dY n m)⟩) (S:ay N ps (aj st)) (cert:∀l:List PV,l.length=n->∀(fZ:Value) (A:Around) (outer:List Env) (s:Shared) (H:Hp) (E:XK),fD k (A.deeper (envOfC x (aj st) s.heap.objs.size D.f fZ))->SF (tR qR v.P v.w v.K v.mg v.base N x (aj st) D.f fZ A outer s H E).O3 v.K false (tU ks l N.length) (du st) (dY n m l) .rl)
  (TJ:ks.length=ps.length:=by rfl) (one:yn ks:=by repeat' first | exact lM | exact gW (n:=0) | exact gW (n:=1) | exact gW (n:=2) | exact gW (n:=3) | exact gW (n:=4) | exact gW (n:=5) | exact gW (n:=6) | apply sg | apply Wy):D.O:=fnL D.fn S TJ one cert
end
section
variable {X:Cx}{K:Ab}{fs:aX}{x:Str}{k k':Nat}{ps:List Str}{ks:List AK}{e:Expr}{es:List Expr}{W':W PV}{WL:W (List PV)}{pos p:Pos}
def eC {m:List PV->W PV}{B:(List PV->W PV)->W PV} (G:QK X.prog X.w X.K X.mg X.base x k ps (kG K ks m)) (hr:fD k' X.A) (ha:AF X K fs (e::es) ks B) (hk:k<=k':=by first | exact Ez rfl | exact Am _ | omega) (hg:Gl X x:=by rfl) (hW:W'=B m:=by rfl) (nR:(x==("__debug__":Str))=false:=by decide)
  (he:starEach (e::es) X.env=(false,eval e X.env)::starEach es X.env:=by rfl) (eO:(backTo pos (starEach es X.env)).any (·.1)=false:=by rfl):EF X K fs (.Call (.Name x p) (e::es) [] pos) W':=Qi G hr hk hg ha hW nR he eO
def lC {m:List PV->W (List PV)}{B:(List PV->W (List PV))->W (List PV)} (G:QK X.prog X.w X.K X.mg X.base x k ps (iV K ks m)) (hr:fD k' X.A) (ha:AF X K fs (e::es) ks B) (hk:k<=k':=by first | exact Ez rfl | exact Am _ | omega) (hg:Gl X x:=by rfl) (hW:WL=B m:=by rfl) (nR:(x==("__debug__":Str))=false:=by decide)
  (he:starEach (e::es) X.env=(false,eval e X.env)::starEach es X.env:=by rfl) (eO:(backTo pos (starEach es X.env)).any (·.1)=false:=by rfl):LF X K fs (.Call (.Name x p) (e::es) [] pos) WL:=Ph G hr hk hg ha hW nR he eO
def fe (i:Nat) (hN:X.N.Nodup) (hi:X.N[i]?=some x:=by rfl) (hx:Loc X.env.scope x:=by first | exact .inl rfl | exact .inr rfl) (hf:X.fn x=true\/X.env.scope.names.lookup x=some .local:=by first | exact .inl rfl | exact .inr rfl | assumption):PG X (.Name x pos) (cM i):=OE hN hi hx hf
variable {T:Type}{out:T->End}{b:Bool}{rest:List Stmt}{y:Str}{p':Pos}
def sv (i:Nat) {we:W PV}{k:PV->W T} (hN:X.N.Nodup) (he:EF X K fs e we) (hr:∀v,SF X K b (fs.set i (some (.val v))) rest (k v) out) (hi:X.N[i]?=some y:=by rfl) (hx:Loc X.env.scope y:=by first | exact .inl rfl | exact .inr rfl) (hs:swapsWith e (some (.Name y p')) pos.line X.env=pure false:=by rfl)
  (hf:X.fn y=true\/X.env.scope.names.lookup y=some .local:=by first | exact .inl rfl | exact .inr rfl | assumption):SF X K b fs (.Assign [.Name y p'] e pos::rest) (.bind we k) out:=SF.set hN hi hx he hr hs hf
def sl (i:Nat) {wl:W (List PV)}{k:List PV->W T} (hN:X.N.Nodup) (he:LF X K fs e wl) (hr:∀l,SF X K b (fs.set i (some (.ol none l))) rest (k l) out) (hi:X.N[i]?=some y:=by rfl) (hx:Loc X.env.scope y:=by first | exact .inl rfl | exact .inr rfl) (hs:swapsWith e (some (.Name y p')) pos.line X.env=pure false:=by rfl)
  (hf:X.fn y=true\/X.env.scope.names.lookup y=some .local:=by first | exact .inl rfl | exact .inr rfl | assumption):SF X K b fs (.Assign [.Name y p'] e pos::rest) (.bind wl k) out:=SF.ZW hN hi hx he hr hs hf
end
def ZE {P:List Value->Prop} (h:∀a,P [a]):∀us:List Value,us.length=1->P us
 | [_],_=>h _
def us2 {P:List Value->Prop} (h:∀a b,P [a,b]):∀us:List Value,us.length=2->P us
 | a::_,e=>ZE (P:=fun l=>P (a::l)) (h _) _ (E9.inj e)
def us3 {P:List Value->Prop} (h:∀a b c,P [a,b,c]):∀us:List Value,us.length=3->P us
 | a::_,e=>us2 (P:=fun l=>P (a::l)) (h _) _ (E9.inj e)
def us4 {P:List Value->Prop} (h:∀a b c d,P [a,b,c,d]):∀us:List Value,us.length=4->P us
 | a::_,e=>us3 (P:=fun l=>P (a::l)) (h _) _ (E9.inj e)
def us5 {P:List Value->Prop} (h:∀a b c d e,P [a,b,c,d,e]):∀us:List Value,us.length=5->P us
 | a::_,e=>us4 (P:=fun l=>P (a::l)) (h _) _ (E9.inj e)
def us6 {P:List Value->Prop} (h:∀a b c d e f,P [a,b,c,d,e,f]):∀us:List Value,us.length=6->P us
 | a::_,e=>us5 (P:=fun l=>P (a::l)) (h _) _ (E9.inj e)
def DX.kM {v:EV}{h:Heap}{d:DF} (D:DX v.K d.x d.s) (X:v.K.In h) (G:h.Ns mainGlobals v.mg)
  (hb:∀(kV doc pm:Value) (an:Option Addr) (fZ ct:Value) (us:List Value),us.length=d.ps.length->bindArgs (B4 d.x d.x (jS d.s) (du d.s) (aj d.s) .none kV doc pm an fZ ct) ⟨us,[]⟩=pure (d.ps.zip us):=by
   first
    | exact fun _ _ _ _ _ _=>ZE fun _=>rfl
    | exact fun _ _ _ _ _ _=>us2 fun _ _=>rfl
    | exact fun _ _ _ _ _ _=>us3 fun _ _ _=>rfl
    | exact fun _ _ _ _ _ _=>us4 fun _ _ _ _=>rfl
    | exact fun _ _ _ _ _ _=>us5 fun _ _ _ _ _=>rfl
    | exact fun _ _ _ _ _ _=>us6 fun _ _ _ _ _ _=>rfl
    | exact fun _ _ _ _ _ _=>us7 fun _ _ _ _ _ _ _=>rfl
    | exact fun _ _ _ _ _ _=>us8 fun _ _ _ _ _ _ _ _=>rfl):Nonempty (DI v d):=by
 obtain⟨f,fd,a,F⟩:=D.ex;exact⟨⟨f,fd,F,F.binds hb,PySem.W.mg_of X G a⟩⟩
end FL
namespace My
open PySem PySem.Spec PyProof.Rows L2 PL FL
def fj (eP:PV):W (List PV):=
 W.bind (W.ret []) fun eD=>
 W.bind (W.bind (W.ret eP) fun x3=>W.ret [x3]) fun fh=>
 W.bind (kz (fun s4=>(W.bind (W.ret s4.2) fun l5=>W.ret (!l5.isEmpty))) (fun s4=>(
 W.bind (wH s4.2) fun t7=>
 W.bind (W.ret t7.2) fun x9=>W.bind (j8 s4.1 x9) fun fC=>
 hZ (IJ (W.bind (W.bind (W.ret t7.2) (gb .str)) eK)) (
 W.bind (W.bind (W.ret t7.2) aw) fun l11=>W.bind (xC t7.1 l11) fun gQ=>
 W.ret (fC,gQ)) (
 W.ret (fC,t7.1)))) (eD,fh)) fun s4=>
 (W.bind (W.ret s4.1) fun l12=>W.ret l12.reverse)
def ir (eP:PV):W PV:=
 W.bind (W.ret []) fun jt=>
 W.bind (W.ret []) fun wY=>
 W.bind (W.bind (W.ret eP) fun x3=>fj x3) fun WI=>W.bind (eN WI (jt,wY) fun wM s4=>(
 W.bind (W.bind (W.bind (W.ret wM) (gb .str)) eK) fun b=>W.bind (if b=true then (
 W.bind (W.ret wM) fun Iy=>W.bind (j8 s4.1 Iy) fun Hi=>
 W.ret (Hi,s4.2)) else (
 W.bind (wH s4.2) fun ZT=>
 W.bind (wH ZT.1) fun ZS=>
 W.bind (W.bind (W.ret ZS.2) fun Iu=>W.bind (W.ret ZT.2) fun yA=>W.ret (.tup [Iu,yA])) fun vS=>W.bind (j8 s4.1 vS) fun Hh=>
 W.ret (Hh,ZS.1))) fun yr=>
 W.bind (b2 qA (W.bind (W.ret yr.1) qJ) (W.ret (.int 1))) fun Kq=>W.bind (j8 yr.2 Kq) fun zk=>
 W.ret (yr.1,zk))) fun s4=>
 (W.bind (W.ret s4.1) ng)
def cY (cy:PV):W PV:=
 (hZ (W.bind (W.bind (W.ret cy) (gb .str)) eK) (W.ret (.tup [])) (W.ret cy))
def eu (eP:PV):W PV:=
 W.bind (W.bind (W.ret eP) fun x2=>ir x2) fun jt=>
 W.bind (W.bind (W.bind (W.ret jt) aw) fun l4=>dh l4 fun p5=>(W.ret .aU)) fun xY=>
 W.bind (W.bind (W.bind (W.ret jt) aw) fun l6=>.gF (l6.length<=sizeLine) (.ret (dQ 0 l6))) fun l19=>W.bind (eN l19 xY fun p8 s7=>W.bind (yq p8) fun t9=>(
 W.bind (W.bind (W.bind (W.ret t9.2) fun qt=>cY qt) aw) fun Pj=>W.bind (eN Pj s7 fun HW qu=>(
 W.bind (W.ret t9.1) fun oH=>W.bind (W.ret HW) fun uo=>W.bind (iX qu uo oH) fun Fm=>
 W.ret Fm)) fun qu=>
 W.ret qu)) fun s7=>
 (W.bind (W.ret s7) ng)
def di (cq:PV) (gc:PV):W PV:=
 (hZ (W.bind (W.bind (ba (W.bind (W.ret cq) aw) (W.ret gc)) (gb .str)) eK) (ba (W.bind (W.ret cq) aw) (W.ret gc)) (W.ret gc))
def fm (bJ:PV):W (List PV):=
 W.bind (W.bind (W.ret bJ) fun x2=>eu x2) fun dX=>
 W.bind (W.bind (W.bind (W.ret dX) aw) fun l4=>dh l4 fun p5=>(W.ret (.tup []))) fun lO=>
 W.bind (W.bind (b2 qA (c1 eZ (W.ret dX)) (W.ret (.int 1))) fun x6=>W.bind (W.bind (W.ret (.int 1)) qB) fun x7=>W.bind (W.bind (W.ret (.int 1)) qB) fun x8=>KY x6 x7 x8) fun Pj=>W.bind (eN Pj lO fun kW s9=>(
 W.bind (hZ (t2 Jk (ba (W.bind (W.ret dX) aw) (W.ret kW)) (W.ret .aU)) (W.ret (.tup [])) (ba (W.ret s9) (ba (W.bind (W.ret dX) aw) (W.ret kW)))) fun Fo=>
 W.bind (w2 addW (W.bind (W.ret kW) fun qr=>W.ret (.tup [qr])) (W.ret Fo)) fun oH=>W.bind (W.ret kW) fun uo=>W.bind (iX s9 uo oH) fun zm=>
 W.ret zm)) fun s9=>
 W.ret s9
def dj (pe:PV) (gc:PV):W PV:=
 (W.bind (W.bind (W.bind (c1 eZ (W.ret pe)) kf) fun l2=>ku l2 fun p3=>Gh (uu (PC true (W.ret p3) (W.bind (ba (W.bind (W.ret pe) aw) (W.ret gc)) aw)) (PC true (W.ret gc) (W.bind (ba (W.bind (W.ret pe) aw) (W.ret p3)) aw))) (W.ret p3)) ng)
def jb (bJ:PV):W PV:=
 W.bind (W.bind (W.ret bJ) fun x2=>ir x2) fun fU=>
 W.bind (W.bind (W.ret bJ) fun x4=>fm x4) fun lO=>
 (W.bind (W.bind (W.bind (c1 eZ (W.ret fU)) kf) fun l6=>dh l6 fun p7=>(W.bind (W.bind (W.ret fU) fun x8=>W.bind (W.ret p7) fun x9=>di x8 x9) fun qt=>W.bind (W.ret (.int 0)) fun yB=>W.bind (W.bind (ba (W.bind (W.ret fU) aw) (W.ret p7)) fun Iz=>cY Iz) fun qr=>W.bind (W.bind (W.ret (.cl lO)) fun oH=>W.bind (W.ret p7) fun uo=>dj oH uo) fun Vp=>W.ret (.tup [qt,yB,qr,Vp]))) ng)
def fo (cG:PV) (k_:PV):W (List PV):=
 W.bind (W.ret (.int 0)) fun Nh=>
 W.bind (t2 oLt (W.ret k_) (c1 eZ (W.ret cG))) fun b=>W.bind (if b=true then (
 W.bind (c1 Np (ba (W.bind (W.ret cG) aw) (W.ret k_))) fun Ng=>
 W.ret Ng) else (
 W.ret Nh)) fun s3=>
 W.bind (b2 oZ (b2 oMod (W.ret s3) (b2 oZ (b2 za (W.ret (.int 10)) (W.ret (.int 60))) (b2 za (W.ret (.int 10)) (W.ret (.int 60))))) (c1 tV (b2 YC (W.ret s3) (b2 za (W.ret (.int 10)) (W.ret (.int 18)))))) fun n8=>
 (W.bind (W.ret n8) fun x6=>W.bind (b2 oMod (w2 addW (w2 addW (W.ret s3) (b2 oZ (W.ret (.int 104729)) (W.ret k_))) (W.ret (.int 7))) (W.ret (.int 2305843009213693951))) fun x7=>W.bind (W.ret (.int 0)) fun x8=>W.ret [x6,x7,x8])
def fR (dg:List PV) (kg:PV):W (PV×List PV):=
 hZ (t2 WB (ba (W.ret dg) (W.ret (.int 0))) (W.ret (.int 0))) (
 W.bind (b2 oMod (ba (W.ret dg) (W.ret (.int 0))) (W.ret kg)) fun Ii=>
 W.bind (b2 oDiv (ba (W.ret dg) (W.ret (.int 0))) (W.ret kg)) fun x3=>W.bind (W.ret (.int 0)) fun x4=>W.bind (iX dg x4 x3) fun mB=>
 W.bind (W.ret Ii) fun x5=>W.ret (x5,mB)) (
 W.bind (W.ret (.int 2)) fun x6=>W.bind (Tq dg x6) fun x7=>W.bind (W.ret (.int 1)) fun x8=>W.bind (of2 Rc x7 x8) fun qt=>W.bind (iX dg x6 qt) fun gU=>
 W.bind (b2 oMod (w2 addW (w2 addW (b2 oZ (ba (W.ret gU) (W.ret (.int 1))) (W.ret (.int 69069))) (b2 oZ (W.ret (.int 9973)) (ba (W.ret gU) (W.ret (.int 2))))) (W.ret (.int 5))) (W.ret (.int 2305843009213693921))) fun sC=>
 W.bind (b2 oMod (b2 oZ (W.ret sC) (w2 addW (w2 addW (b2 oMod (W.ret sC) (W.ret (.int 999983))) (b2 oZ (W.ret (.int 2)) (ba (W.ret gU) (W.ret (.int 2))))) (W.ret (.int 3)))) (W.ret (.int 2305843009213693907))) fun qr=>W.bind (W.ret (.int 1)) fun oH=>W.bind (iX gU oH qr) fun ip=>
 W.bind (b2 oMod (b2 oDiv (ba (W.ret ip) (W.ret (.int 1))) (W.ret (.int 65537))) (W.ret kg)) fun uo=>W.ret (uo,ip))
def cI (kg:PV):W (List PV):=
 W.bind (W.ret (.str "abcdefghijklmnopqrstuvwxyz")) fun pj=>
 W.bind (W.bind (W.ret (.int 26)) fun x3=>aZ x3) fun rk=>
 W.bind (ba (W.bind (W.ret (.int 1)) fun x5=>W.bind (W.ret (.int 3)) fun x6=>W.bind (W.ret (.int 5)) fun x7=>W.bind (W.ret (.int 7)) fun x8=>W.bind (W.ret (.int 9)) fun x9=>W.bind (W.ret (.int 11)) fun qt=>W.ret [x5,x6,x7,x8,x9,qt]) (W.bind (W.ret (.int 6)) fun yB=>aZ yB)) fun FO=>
 W.bind (ba (W.bind (W.ret (.str "")) fun qr=>W.bind (W.ret (.str "k")) fun oH=>W.ret [qr,oH]) (W.bind (W.ret (.int 2)) fun uo=>aZ uo)) fun v9=>
 W.bind (W.bind (W.ret (.str "")) fun Kr=>W.bind (W.ret (.str "q")) fun Iy=>W.bind (W.ret (.str "zz")) fun vV=>W.bind (W.ret (.str "abcdef")) fun vU=>W.ret [Kr,Iy,vV,vU]) fun xH=>
 W.bind (W.ret []) fun tq=>
 W.bind (W.bind (W.ret kg) kf) fun WJ=>W.bind (eN WJ tq fun Ti R7=>(
 W.bind (b2 LC (W.ret pj) (b2 oMod (w2 addW (W.ret rk) (b2 oZ (W.ret FO) (W.ret Ti))) (W.ret (.int 26)))) fun vh=>
 W.bind (w2 addW (w2 addW (W.ret v9) (W.ret vh)) (ba (W.bind (W.ret (.cl xH)) aw) (b2 oMod (w2 addW (W.ret rk) (W.ret Ti)) (W.ret (.int 4))))) fun RL=>W.bind (j8 R7 RL) fun zJ=>
 W.ret zJ)) fun R7=>
 W.ret R7
def bL:Nat->PV->PV->W PV
 | 0,_,_=>W.fail
 | n+1,gh,qP=>
 hZ (W.bind (W.bind (W.ret qP) (gb .tup)) eK) (
 hZ (UL (IJ (W.bind (W.bind (W.ret gh) (gb .tup)) eK)) (t2 oY (c1 eZ (W.ret gh)) (c1 eZ (W.ret qP)))) (
 (W.ret (.bl false))) (
 (W.bind (W.bind (W.bind (W.bind (W.ret gh) aw) fun l1=>W.bind (W.bind (W.ret qP) aw) fun l2=>Ko l1 l2) fun l3=>dh l3 fun p4=>W.bind (yq p4) fun t5=>(W.bind (W.ret t5.1) fun x6=>W.bind (W.ret t5.2) fun x7=>bL n x6 x7)) Qw))) (
 hZ (UL (W.bind (W.bind (W.ret qP) (gb .str)) eK) (t2 Jk (W.ret qP) (W.ret .aU))) (
 (J9 (b2 eM (W.bind (W.ret gh) (gb .str)) (W.bind (W.ret qP) (gb .str))) (b2 eM (W.ret gh) (W.ret qP)))) (
 (J9 (W.bind (W.ret gh) (gb .int)) (J9 (W.bind (W.bind (W.ret gh) (gb .bool)) SU) (b2 eM (W.ret gh) (W.ret qP))))))
def cP (cq:PV) (bK:PV):W (List PV):=
 (W.bind (W.bind (W.bind (W.ret cq) aw) fun l1=>W.bind (W.bind (W.ret bK) aw) fun l2=>Ko l1 l2) fun l3=>ku l3 fun p4=>W.bind (yq p4) fun t5=>Gh (IJ (W.bind (W.bind (W.ret t5.1) (gb .str)) eK)) (W.ret t5.2))
def bb (yN:PV):W PV:=
 (ba (W.bind (W.ret yN) aw) (W.bind (c1 eZ (W.ret yN)) fun x1=>aZ x1))
def kN (cC:PV):W PV:=
 W.bind (W.bind (W.ret cC) aw) fun rP=>
 W.bind (W.bind (W.ret (.int 4)) fun x3=>aZ x3) fun QO=>
 W.bind (kz (fun s4=>(t2 WB (W.bind (W.ret s4) qJ) (W.ret (.int 1)))) (fun s4=>(
 W.bind (ba (W.bind (W.bind (b2 qA (W.bind (W.ret s4) qJ) (W.ret (.int 1))) fun x6=>aZ x6) fun x7=>W.bind (b2 qA (W.bind (W.ret s4) qJ) (W.ret (.int 2))) fun x8=>W.bind (W.ret (.int 0)) fun x9=>W.bind (W.ret (.int 0)) fun qt=>W.ret [x7,x8,x9,qt]) (W.ret QO)) fun m7=>
 W.bind (W.bind (ba (W.ret s4) (W.ret m7)) fun Iz=>W.bind (ba (W.ret s4) (w2 addW (W.ret m7) (W.ret (.int 1)))) fun qr=>W.ret (.tup [Iz,qr])) fun qX=>
 W.bind (uu (t2 eM (W.ret QO) (W.ret (.int 3))) (t2 eM (W.bind (W.ret (.int 2)) fun oH=>aZ oH) (W.ret (.int 0)))) fun b=>W.bind (if b=true then (
 W.bind (W.bind (ba (W.ret s4) (w2 addW (W.ret m7) (W.ret (.int 1)))) fun vU=>W.bind (ba (W.ret s4) (W.ret m7)) fun Iw=>W.ret (.tup [vU,Iw])) fun qW=>
 W.ret qW) else (
 W.ret qX)) fun UO=>
 W.bind (W.bind (W.ret UO) fun vT=>W.ret [vT]) fun l24=>W.bind (W.ret m7) fun yA=>W.bind (w2 addW (W.ret m7) (W.ret (.int 2))) fun vS=>W.bind (Oe s4 yA vS l24) fun qU=>
 W.ret qU)) rP) fun s4=>
 (ba (W.ret s4) (W.ret (.int 0)))
def nB:W PV:=
 (W.bind (JQ (W.bind (w2 addW (W.ret (.int 1)) (W.bind (ba (W.bind (W.ret (.int 5)) fun x1=>W.bind (W.ret (.int 8)) fun x2=>W.ret [x1,x2]) (c1 tV (b2 eM (W.bind (W.ret (.int 8)) fun x3=>aZ x3) (W.ret (.int 0))))) fun x4=>aZ x4)) fun x5=>cI x5)) fun x6=>kN x6)
def aW:Nat->PV->W (List PV)
 | 0,_=>W.fail
 | n+1,cF=>
 hZ (W.bind (W.bind (W.ret cF) (gb .str)) eK) (
 (W.bind (W.ret cF) fun x1=>W.ret [x1])) (
 W.bind (W.bind (ba (W.bind (W.ret cF) aw) (W.ret (.int 0))) fun x3=>aW n x3) fun wz=>
 W.bind (W.bind (W.ret wz) qJ) fun sE=>
 W.bind (W.bind (ba (W.bind (W.ret cF) aw) (W.ret (.int 1))) fun x5=>aW n x5) fun l18=>W.bind (eN l18 wz fun yO s6=>(
 W.bind (hZ (W.bind (W.bind (W.ret yO) (gb .str)) eK) (W.ret yO) (W.bind (w2 addW (ba (W.bind (W.ret yO) aw) (W.ret (.int 0))) (W.ret sE)) fun x9=>W.bind (w2 addW (ba (W.bind (W.ret yO) aw) (W.ret (.int 1))) (W.ret sE)) fun qt=>W.ret (.tup [x9,qt]))) fun yB=>W.bind (j8 s6 yB) fun KW=>
 W.ret KW)) fun s6=>
 (W.bind (W.ret s6) fun Tc=>W.bind (W.bind (W.bind (b2 qA (W.ret sE) (W.ret (.int 1))) fun Iz=>W.bind (b2 qA (W.bind (W.ret s6) qJ) (W.ret (.int 1))) fun qr=>W.ret (.tup [Iz,qr])) fun oH=>W.ret [oH]) fun WM=>GO Tc WM))
def dr (a7:PV):W PV:=
 W.bind (W.bind (W.bind (W.ret (.int 0)) fun x2=>W.ret [x2]) fun l3=>W.bind (c1 eZ (W.ret a7)) fun x4=>yR l3 x4) fun jT=>
 W.bind (W.bind (W.bind (W.bind (W.ret a7) aw) fun l6=>.gF (l6.length<=sizeLine) (.ret (dQ 0 l6))) fun l7=>ku l7 fun p8=>W.bind (yq p8) fun t9=>Gh (IJ (W.bind (W.bind (W.ret t9.2) (gb .str)) eK)) (W.ret t9.1)) fun Gf=>
 W.bind (W.ret (.int 0)) fun xP=>
 W.bind (kz (fun qu=>(W.bind (W.ret qu.2.1) fun l12=>W.ret (!l12.isEmpty))) (fun qu=>(
 W.bind (W.bind (W.bind (W.bind (W.ret (.cl qu.2.1)) aw) fun UT=>ku UT fun Wo=>Gh (uu (PC true (ba (W.bind (ba (W.bind (W.ret a7) aw) (W.ret Wo)) aw) (W.ret (.int 0))) (W.bind (W.ret (.cl qu.2.1)) aw)) (PC true (ba (W.bind (ba (W.bind (W.ret a7) aw) (W.ret Wo)) aw) (W.ret (.int 1))) (W.bind (W.ret (.cl qu.2.1)) aw))) (W.ret Wo)) Kz) fun yS=>
 W.bind (W.bind (W.ret (.cl yS)) fun Kr=>bb Kr) fun sW=>
 W.bind (w2 addW (w2 addW (W.ret qu.2.2) (W.ret (.int 1))) (W.bind (ba (W.bind (W.ret (.int 1)) fun vV=>W.bind (W.ret (.int 3)) fun vU=>W.bind (W.ret (.int 13)) fun Iw=>W.ret [vV,vU,Iw]) (W.bind (W.ret (.int 3)) fun Iv=>aZ Iv)) fun vT=>aZ vT)) fun xO=>
 W.bind (W.ret xO) fun yA=>W.bind (W.ret sW) fun vS=>W.bind (iX qu.1 vS yA) fun mj=>
 W.bind (W.ret sW) fun Kq=>W.bind (R9 qu.2.1 Kq) fun HI=>
 W.ret (mj,HI,xO))) (jT,Gf,xP)) fun qu=>
 (W.bind (W.ret qu.1) ng)
def fi (bJ:PV) (bK:PV) (eY:PV):W (List PV):=
 W.bind (W.bind (W.ret bJ) fun x2=>eu x2) fun dX=>
 W.bind (W.ret []) fun wO=>
 W.bind (W.bind (W.bind (W.ret eY) aw) fun l4=>.gF (l4.length<=sizeLine) (.ret (dQ 0 l4))) fun l19=>W.bind (eN l19 wO fun p6 s5=>W.bind (yq p6) fun t7=>(
 W.bind (W.bind (W.bind (W.ret bK) aw) fun l8=>.gF (l8.length<=sizeLine) (.ret (dQ 0 l8))) fun Pj=>W.bind (eN Pj s5 fun UQ s9=>W.bind (yq UQ) fun VN=>(
 hZ (uu (t2 oLe (W.ret VN.2) (W.ret t7.2)) (UL (t2 Jk (ba (W.bind (W.ret dX) aw) (W.ret VN.1)) (W.ret .aU)) (t2 oLt (W.ret t7.2) (ba (W.bind (W.ret bK) aw) (ba (W.bind (W.ret dX) aw) (W.ret VN.1)))))) (
 W.bind (W.bind (W.ret VN.1) fun qr=>W.bind (W.ret t7.1) fun oH=>W.ret (.tup [qr,oH])) fun uo=>W.bind (j8 s9 uo) fun y7=>
 W.ret y7) (
 W.ret s9))) fun s9=>
 W.ret s9)) fun s5=>
 W.ret s5
def gJ (cq:PV) (bK:PV) (eY:PV) (i7:PV) (y8:PV):W PV:=
 W.bind (ba (W.bind (W.ret y8) aw) (W.ret (.int 0))) fun lQ=>
 W.bind (ba (W.bind (W.ret y8) aw) (W.ret (.int 1))) fun nH=>
 W.bind (b2 oLt (ba (W.bind (W.ret bK) aw) (W.ret lQ)) (ba (W.bind (W.ret eY) aw) (W.ret nH))) fun vt=>
 W.bind (hZ (W.bind (W.ret vt) eK) (W.bind (W.ret lQ) fun x5=>W.ret (.tup [x5])) (W.bind (ba (W.bind (W.ret cq) aw) (W.ret lQ)) fun x6=>cY x6)) fun below_4=>
 W.bind (W.bind (W.bind (W.bind (W.ret below_4) aw) fun l8=>dh l8 fun p9=>(X3 (W.ret i7) (W.bind (W.ret p9) fun qt=>W.bind (b2 qA (W.ret nH) (W.ret (.int 1))) fun yB=>W.ret (.tup [qt,yB])))) ng) fun Hf=>
 W.bind (W.bind (W.bind (W.bind (W.ret i7) L3) fun l13=>ku l13 fun Wq=>Gh (uu (t2 eM (ba (W.bind (W.ret Wq) aw) (W.ret (.int 1))) (W.ret nH)) (t2 oY (ba (W.bind (W.ret Wq) aw) (W.ret (.int 0))) (W.ret lQ))) (X3 (W.ret i7) (W.ret Wq))) ng) fun vK=>
 (W.bind (W.bind (W.ret cq) fun uo=>W.bind (W.ret lQ) fun Vp=>di uo Vp) fun Kr=>W.bind (W.ret nH) fun Iy=>W.bind (W.ret Hf) fun vV=>W.bind (W.ret vK) fun vU=>W.ret (.tup [Kr,Iy,vV,vU]))
def jD (bJ:PV) (bK:PV):W PV:=
 W.bind (W.bind (W.ret bJ) fun x2=>ir x2) fun fU=>
 W.bind (W.bind (W.bind (W.ret (.int 0)) fun x4=>W.ret [x4]) fun l7=>W.bind (W.bind (W.bind (W.ret fU) fun x5=>W.bind (W.ret bK) fun x6=>cP x5 x6) wo) fun l8=>GO l7 l8) fun tT=>
 W.bind (W.bind (W.ret bJ) fun qt=>W.bind (W.ret bK) fun yB=>W.bind (W.ret (.cl tT)) fun Iz=>fi qt yB Iz) fun wN=>
 W.bind (W.bind (W.bind (W.bind (W.bind (W.ret (.cl wN)) aw) fun UT=>.gF (UT.length<=sizeLine) (.ret (dQ 0 UT))) fun Tc=>dh Tc fun Yz=>W.bind (yq Yz) fun ZU=>(W.bind (W.ret ZU.2) fun Iy=>W.bind (W.ret ZU.1) fun vV=>W.ret (.tup [Iy,vV]))) GN) fun sh=>
 (W.bind (W.bind (W.bind (W.ret (.cl wN)) aw) fun l20=>dh l20 fun UP=>(W.bind (W.ret fU) fun Iv=>W.bind (W.ret bK) fun vT=>W.bind (W.ret (.cl tT)) fun Iu=>W.bind (W.ret sh) fun yA=>W.bind (W.ret UP) fun vS=>gJ Iv vT Iu yA vS)) ng)
def mF (ax:PV) (bR:PV):W PV:=
 (ba (W.bind (ba (W.bind (W.ret ax) aw) (W.ret bR)) aw) (W.ret (.int 2)))
def vf (ax:PV) (bR:PV) (Vr:PV):W PV:=
 (J9 (b2 eM (W.bind (W.ret ax) fun x1=>W.bind (W.ret bR) fun x2=>mF x1 x2) (W.ret (.tup []))) (b2 eM (ba (W.bind (ba (W.bind (W.ret ax) aw) (W.ret bR)) aw) (W.ret (.int 0))) (W.ret Vr)))
def gK (my:PV):W PV:=
 (ba (W.bind (ba (W.bind (W.ret my) aw) (W.ret (.int 0))) aw) (W.bind (W.ret (.int 1)) qB))
def dN (cC:PV):W PV:=
 W.bind (W.bind (W.ret cC) aw) fun rP=>
 W.bind (W.bind (W.ret (.int 4)) fun x3=>aZ x3) fun gP=>
 W.bind (kz (fun s4=>(t2 WB (W.bind (W.ret s4) qJ) (W.ret (.int 1)))) (fun s4=>(
 W.bind (ba (W.bind (W.bind (b2 qA (W.bind (W.ret s4) qJ) (W.ret (.int 1))) fun x6=>aZ x6) fun x7=>W.bind (b2 qA (W.bind (W.ret s4) qJ) (W.ret (.int 2))) fun x8=>W.bind (W.ret (.int 0)) fun x9=>W.bind (W.ret (.int 0)) fun qt=>W.ret [x7,x8,x9,qt]) (W.ret gP)) fun m7=>
 W.bind (W.bind (ba (W.ret s4) (W.ret m7)) fun Iz=>W.bind (ba (W.ret s4) (w2 addW (W.ret m7) (W.ret (.int 1)))) fun qr=>W.ret (.tup [Iz,qr])) fun qX=>
 W.bind (uu (t2 eM (W.ret gP) (W.ret (.int 3))) (t2 eM (W.bind (W.ret (.int 2)) fun oH=>aZ oH) (W.ret (.int 0)))) fun b=>W.bind (if b=true then (
 W.bind (W.bind (ba (W.ret s4) (w2 addW (W.ret m7) (W.ret (.int 1)))) fun vU=>W.bind (ba (W.ret s4) (W.ret m7)) fun Iw=>W.ret (.tup [vU,Iw])) fun qW=>
 W.ret qW) else (
 W.ret qX)) fun UO=>
 W.bind (W.bind (W.ret UO) fun vT=>W.ret [vT]) fun l24=>W.bind (W.ret m7) fun yA=>W.bind (w2 addW (W.ret m7) (W.ret (.int 2))) fun vS=>W.bind (Oe s4 yA vS l24) fun qU=>
 W.ret qU)) rP) fun s4=>
 (ba (W.ret s4) (W.ret (.int 0)))
def c6:W PV:=
 (W.bind (JQ (W.bind (w2 addW (W.ret (.int 1)) (W.bind (ba (W.bind (W.ret (.int 5)) fun x1=>W.bind (W.ret (.int 8)) fun x2=>W.ret [x1,x2]) (c1 tV (b2 eM (W.bind (W.ret (.int 8)) fun x3=>aZ x3) (W.ret (.int 0))))) fun x4=>aZ x4)) fun x5=>cI x5)) fun x6=>dN x6)
def dm (bz:PV):W PV:=
 W.bind (W.bind (W.bind (W.ret bz) fun x2=>aW 12 x2) fun l3=>ku l3 fun p4=>Gh (W.bind (W.bind (W.ret p4) (gb .str)) eK) (W.ret p4)) fun m9=>
 W.bind (w2 addW (W.ret (.int 1)) (W.bind (ba (W.bind (W.ret (.int 6)) fun x6=>W.bind (W.ret (.int 10)) fun x7=>W.ret [x6,x7]) (c1 tV (b2 eM (W.bind (W.ret (.int 8)) fun x8=>aZ x8) (W.ret (.int 0))))) fun x9=>aZ x9)) fun LQ=>
 (W.bind (JQ (W.bind (W.bind (W.ret LQ) kf) fun l11=>dh l11 fun p12=>(W.bind (W.ret (.cl m9)) fun qr=>bb qr))) fun oH=>dN oH)
def bG (bz:PV):W PV:=
 hZ (t2 eM (W.bind (W.ret (.int 2)) fun x1=>aZ x1) (W.ret (.int 0))) (
 (W.bind (W.ret bz) fun x2=>jb x2)) (
 (W.bind (W.ret bz) fun x3=>W.bind (W.bind (JQ (W.bind (W.ret bz) fun x4=>aW 12 x4)) fun x5=>dr x5) fun x6=>jD x3 x6))
def dq (ax:PV) (bR:PV):W (List PV):=
 W.bind (ba (W.bind (W.ret ax) aw) (W.ret bR)) fun x1=>W.bind (Vu x1) fun t3=>
 W.bind (W.bind (W.bind (W.ret (.str "doubled")) fun x5=>W.bind (W.ret bR) fun x6=>W.bind (W.ret bR) fun x7=>W.ret (.tup [x5,x6,x7])) fun x8=>W.ret [x8]) fun xy=>
 W.bind (t2 eM (c1 eZ (W.ret t3.2.2.1)) (W.ret (.int 2))) fun b=>W.bind (if b=true then (
 W.bind (W.bind (W.bind (W.ret (.str "split")) fun Iw=>W.bind (ba (W.bind (W.ret t3.2.2.1) aw) (W.ret (.int 0))) fun Iv=>W.bind (ba (W.bind (W.ret t3.2.2.1) aw) (W.ret (.int 1))) fun vT=>W.ret (.tup [Iw,Iv,vT])) fun Iu=>W.bind (W.bind (W.ret (.str "split")) fun yA=>W.bind (ba (W.bind (W.ret t3.2.2.1) aw) (W.ret (.int 1))) fun vS=>W.bind (ba (W.bind (W.ret t3.2.2.1) aw) (W.ret (.int 0))) fun RL=>W.ret (.tup [yA,vS,RL])) fun Kq=>W.ret [Iu,Kq]) fun WJ=>W.bind (xC xy WJ) fun zK=>
 W.ret zK) else (
 W.ret xy)) fun VV=>
 W.bind (W.bind (W.ret t3.2.2.2) aw) fun l43=>W.bind (eN l43 VV fun i6 Oj=>(
 W.bind (W.bind (W.bind (W.ret (.str "over")) fun Zy=>W.bind (W.ret bR) fun Zx=>W.bind (W.ret i6) fun RK=>W.ret (.tup [Zy,Zx,RK])) fun Zw=>W.bind (W.bind (W.ret (.str "over")) fun Zv=>W.bind (W.ret i6) fun Zu=>W.bind (W.ret bR) fun x39=>W.ret (.tup [Zv,Zu,x39])) fun x40=>W.ret [Zw,x40]) fun l41=>W.bind (xC Oj l41) fun nW=>
 W.ret nW)) fun Oj=>
 W.ret Oj
def bM (ax:PV) (a7:PV) (aJ:PV) (cy:PV) (bR:PV):W (List PV):=
 W.bind (ba (W.bind (W.ret a7) aw) (W.ret cy)) fun yP=>
 hZ (W.bind (W.bind (W.ret yP) (gb .str)) eK) (
 (W.bind (W.bind (W.bind (W.ret (.str "found")) fun x2=>W.bind (W.ret bR) fun x3=>W.bind (W.ret bR) fun x4=>W.ret (.tup [x2,x3,x4])) fun x5=>W.ret [x5]) fun l6=>W.bind (c1 tV (J9 (b2 eM (ba (W.bind (ba (W.bind (W.ret ax) aw) (W.ret bR)) aw) (W.ret (.int 2))) (W.ret (.tup []))) (b2 eM (ba (W.bind (ba (W.bind (W.ret ax) aw) (W.ret bR)) aw) (W.ret (.int 0))) (W.ret yP)))) fun x7=>yR l6 x7)) (
 (W.bind (W.bind (W.ret ax) fun x8=>W.bind (W.ret bR) fun x9=>dq x8 x9) fun l10=>ku l10 fun Wr=>Gh (uu (W.bind (ba (W.bind (ba (W.bind (W.ret aJ) aw) (ba (W.bind (W.ret yP) aw) (W.ret (.int 0)))) aw) (ba (W.bind (W.ret Wr) aw) (W.ret (.int 1)))) eK) (W.bind (ba (W.bind (ba (W.bind (W.ret aJ) aw) (ba (W.bind (W.ret yP) aw) (W.ret (.int 1)))) aw) (ba (W.bind (W.ret Wr) aw) (W.ret (.int 2)))) eK)) (W.ret Wr)))
def fq (ax:PV) (a7:PV):W (List PV):=
 W.bind (W.bind (c1 eZ (W.ret a7)) kf) fun l32=>W.bind (eN l32 (([]:List Addr),([]:List (List PV))) fun so s3=>(
 W.bind (W.bind (W.bind (W.ret (.bl false)) fun x5=>W.ret [x5]) fun l6=>W.bind (c1 eZ (W.ret ax)) fun x7=>yR l6 x7) fun l8=>W.gF (s3.2.length < sizeLine) (W.bind (W.any fun _=>True) fun b9=>W.bind (W.ret (s3.2++[l8])) fun tu=>
 W.bind (W.bind (c1 eZ (W.ret ax)) kf) fun WI=>W.bind (eN WI (b9,tu) fun qT Ke=>(
 W.bind (W.bind (W.bind (W.bind (W.bind (W.bind (ba (W.bind (ba (W.bind (W.ret ax) aw) (W.ret qT)) aw) (W.ret (.int 2))) aw) fun Tc=>dh Tc fun Yz=>(ba (W.bind (ba (W.bind (W.ret (.cl (Ke.2.map PV.cl))) aw) (W.ret so)) aw) (W.ret Yz))) Nv) rN) rN) fun QZ=>
 W.bind (W.bind (W.bind (orB (W.ret QZ) (W.bind (W.bind (W.ret ax) fun Kr=>W.bind (W.ret a7) fun Iy=>W.bind (W.ret (.cl (Ke.2.map PV.cl))) fun vV=>W.bind (W.ret so) fun vU=>W.bind (W.ret qT) fun Iw=>bM Kr Iy vV vU Iw) fun l22=>W.ret (.bl (!l22.isEmpty)))) rN) rN) fun vT=>W.bind (W.ret so) fun Iu=>W.bind (Pt Ke.2 Iu) fun WV=>W.bind (W.ret qT) fun vS=>W.bind (iX WV.2 vS vT) fun WK=>W.bind (W.ret (Ke.2.set WV.1 WK)) fun zI=>
 W.ret (Ke.1,zI))) fun Ke=>
 W.ret Ke))) fun s3=>
 W.ret (s3.2.map PV.cl)
def cZ (ax:PV) (a7:PV) (aJ:PV) (cy:PV) (bR:PV):W PV:=
 W.bind (W.bind (W.ret bR) fun x2=>W.ret [x2]) fun kK=>
 W.bind (W.bind (c1 eZ (W.ret ax)) kf) fun l35=>W.bind (eN l35 kK fun RP s4=>(
 W.bind (W.bind (W.bind (ba (W.bind (ba (W.bind (W.ret ax) aw) (ba (W.ret s4) (W.bind (W.ret (.int 1)) qB))) aw) (W.ret (.int 2))) aw) fun l7=>ku l7 fun p8=>Gh (W.bind (ba (W.bind (ba (W.bind (W.ret aJ) aw) (W.ret cy)) aw) (W.ret p8)) eK) (W.ret p8)) fun SO=>
 W.bind (orB (W.bind (W.bind (W.ret ax) fun yB=>W.bind (W.ret a7) fun Iz=>W.bind (W.ret aJ) fun qr=>W.bind (W.ret cy) fun oH=>W.bind (ba (W.ret s4) (W.bind (W.ret (.int 1)) qB)) fun uo=>bM yB Iz qr oH uo) fun WM=>W.ret (.bl (WM.isEmpty))) (b2 eM (W.bind (W.ret (.int 3)) fun qt=>aZ qt) (W.ret (.int 0)))) fun MV=>
 hZ (uu (W.bind (W.bind (W.ret (.cl SO)) O8) fun Pj=>W.ret (!Pj.isEmpty)) (W.bind (W.ret MV) eK)) (
 W.bind (W.bind (W.ret (.cl SO)) fun vV=>bb vV) fun vU=>W.bind (j8 s4 vU) fun gz=>
 W.ret gz) (
 W.ret s4))) fun s4=>
 W.bind (kz (fun KU=>(W.bind (W.bind (W.ret ax) fun Iv=>W.bind (W.ret a7) fun vT=>W.bind (W.ret aJ) fun Iu=>W.bind (W.ret cy) fun yA=>W.bind (ba (W.ret KU) (W.bind (W.ret (.int 1)) qB)) fun vS=>bM Iv vT Iu yA vS) fun WK=>W.ret (WK.isEmpty))) (fun KU=>(
 W.bind (W.bind (JQ (W.bind (W.bind (ba (W.bind (ba (W.bind (W.ret ax) aw) (ba (W.ret KU) (W.bind (W.ret (.int 1)) qB))) aw) (W.ret (.int 2))) aw) fun WJ=>ku WJ fun Yy=>Gh (W.bind (ba (W.bind (ba (W.bind (W.ret aJ) aw) (W.ret cy)) aw) (W.ret Yy)) eK) (W.ret Yy))) fun ZA=>bb ZA) fun Zz=>W.bind (j8 KU Zz) fun nv=>
 W.ret nv)) s4) fun KU=>
 (W.bind (W.ret KU) ng)
def cJ:Nat->PV->PV->PV->PV->PV->W PV
 | 0,_,_,_,_,_=>W.fail
 | n+1,ax,a7,aJ,cy,eg=>
 W.bind (W.bind (JQ (W.bind (W.ret ax) fun x1=>W.bind (W.ret a7) fun x2=>W.bind (W.ret aJ) fun x3=>W.bind (W.ret cy) fun x4=>W.bind (ba (W.bind (W.ret eg) aw) (W.bind (W.ret (.int 1)) qB)) fun x5=>bM x1 x2 x3 x4 x5)) fun x6=>bb x6) fun x7=>W.bind (Yo x7) fun t8=>
 hZ (t2 eM (W.ret t8.1) (W.ret (.str "found"))) (
 (W.bind (W.ret eg) fun x9=>W.bind (W.ret t8.1) fun qt=>W.ret (.tup [x9,qt]))) (
 W.bind (ba (W.bind (W.ret a7) aw) (W.ret cy)) fun rY=>
 W.bind (W.bind (W.ret ax) fun qr=>W.bind (W.ret a7) fun oH=>W.bind (W.ret aJ) fun uo=>W.bind (ba (W.bind (W.ret rY) aw) (W.ret (.int 0))) fun Vp=>W.bind (W.bind (W.ret ax) fun Kr=>W.bind (W.ret a7) fun Iy=>W.bind (W.ret aJ) fun vV=>W.bind (ba (W.bind (W.ret rY) aw) (W.ret (.int 0))) fun vU=>W.bind (W.ret t8.2.1) fun Iw=>cZ Kr Iy vV vU Iw) fun Iv=>cJ n qr oH uo Vp Iv) fun zN=>
 (W.bind (W.ret eg) fun vT=>W.bind (W.ret t8.1) fun Iu=>W.bind (W.ret zN) fun yA=>W.bind (W.bind (W.ret ax) fun vS=>W.bind (W.ret a7) fun RL=>W.bind (W.ret aJ) fun Kq=>W.bind (ba (W.bind (W.ret rY) aw) (W.ret (.int 1))) fun ZC=>W.bind (W.bind (W.ret ax) fun x30=>W.bind (W.ret a7) fun ZA=>W.bind (W.ret aJ) fun Zz=>W.bind (ba (W.bind (W.ret rY) aw) (W.ret (.int 1))) fun Zy=>W.bind (W.ret t8.2.2) fun Zx=>cZ x30 ZA Zz Zy Zx) fun RK=>cJ n vS RL Kq ZC RK) fun Zw=>W.ret (.tup [vT,Iu,yA,Zw])))
def bj (ax:PV) (ic:PV):W PV:=
 W.bind (W.bind (W.ret ic) fun x2=>aW 12 x2) fun rX=>
 W.bind (W.bind (W.ret ax) fun x4=>W.bind (W.ret (.cl rX)) fun x5=>fq x4 x5) fun m6=>
 W.bind (b2 qA (c1 eZ (W.ret (.cl rX))) (W.ret (.int 1))) fun Gi=>
 W.bind (W.bind (W.bind (c1 eZ (W.ret ax)) kf) fun l9=>ku l9 fun UQ=>Gh (W.bind (W.bind (W.ret ax) fun yB=>W.bind (W.ret (.cl rX)) fun Iz=>W.bind (W.ret (.cl m6)) fun qr=>W.bind (W.ret Gi) fun oH=>W.bind (W.ret UQ) fun uo=>bM yB Iz qr oH uo) fun WM=>W.ret (!WM.isEmpty)) (W.ret UQ)) fun KL=>
 (W.bind (W.ret ax) fun Kr=>W.bind (W.ret (.cl rX)) fun Iy=>W.bind (W.ret (.cl m6)) fun vV=>W.bind (W.ret Gi) fun vU=>W.bind (W.bind (W.bind (W.ret (.cl KL)) fun Iw=>bb Iw) fun Iv=>W.ret (.tup [Iv])) fun vT=>cJ 12 Kr Iy vV vU vT)
def eU:W PV:=
 W.bind (c6) fun gA=>
 W.bind (W.bind (W.ret gA) fun x3=>bG x3) fun wd=>
 W.bind (W.bind (W.ret gA) fun x5=>dm x5) fun jw=>
 (W.bind (W.ret gA) fun x6=>W.bind (W.ret wd) fun x7=>W.bind (W.ret jw) fun x8=>W.bind (W.bind (W.ret wd) fun x9=>W.bind (W.ret jw) fun qt=>bj x9 qt) fun yB=>W.ret (.tup [x6,x7,x8,yB]))
def cO (my:PV):W (List PV):=
 W.bind (W.ret []) fun eD=>
 W.bind (W.bind (W.ret my) fun x3=>W.ret [x3]) fun fh=>
 W.bind (kz (fun s4=>(W.bind (W.ret s4.2) fun l5=>W.ret (!l5.isEmpty))) (fun s4=>(
 W.bind (wH s4.2) fun t7=>
 W.bind (W.ret t7.2) fun x9=>W.bind (j8 s4.1 x9) fun fC=>
 W.bind (W.bind (W.bind (W.ret t7.2) fun qr=>W.bind (W.bind (W.ret (.int 2)) part) fun i11=>W.bind (W.ret none) fun j12=>R3 qr i11 j12) aw) fun UT=>W.bind (xC t7.1 UT) fun gQ=>
 W.ret (fC,gQ))) (eD,fh)) fun s4=>
 (W.bind (W.ret s4.1) fun Tc=>W.ret Tc.reverse)
def dM (my:PV):W PV:=
 (W.bind (W.bind (W.bind (W.ret my) fun x1=>cO x1) fun l2=>dh l2 fun p3=>(W.bind (W.bind (W.ret p3) fun x4=>gK x4) fun x5=>W.bind (ba (W.bind (W.ret p3) aw) (W.ret (.int 1))) fun x6=>W.ret (.tup [x5,x6]))) ng)
def bu:Nat->PV->W (List PV)
 | 0,_=>W.fail
 | n+1,aP=>
 hZ (t2 eM (c1 eZ (W.ret aP)) (W.ret (.int 2))) (
 (W.bind (W.ret aP) fun x1=>W.ret [x1])) (
 (W.bind (W.bind (W.bind (ba (W.bind (W.ret aP) aw) (W.ret (.int 2))) fun x2=>bu n x2) fun l4=>W.bind (W.bind (ba (W.bind (W.ret aP) aw) (W.ret (.int 3))) fun x3=>bu n x3) fun l5=>GO l4 l5) fun l7=>W.bind (W.bind (W.ret aP) fun x6=>W.ret [x6]) fun l8=>GO l7 l8))
def aH:Nat->PV->W PV
 | 0,_=>W.fail
 | n+1,aP=>
 hZ (t2 eM (c1 eZ (W.ret aP)) (W.ret (.int 2))) (
 (W.ret (.bl true))) (
 hZ (t2 oY (W.bind (W.ret aP) fun x1=>dM x1) (w2 addW (w2 addW (W.bind (ba (W.bind (W.ret aP) aw) (W.ret (.int 2))) fun x2=>dM x2) (W.bind (ba (W.bind (W.ret aP) aw) (W.ret (.int 3))) fun x3=>dM x3)) (W.bind (W.bind (ba (W.bind (ba (W.bind (W.ret aP) aw) (W.ret (.int 0))) aw) (W.bind (W.ret (.int 1)) qB)) fun x4=>W.bind (ba (W.bind (W.ret aP) aw) (W.ret (.int 1))) fun x5=>W.ret (.tup [x4,x5])) fun x6=>W.ret (.tup [x6])))) (
 (W.ret (.bl false))) (
 (J9 (W.bind (ba (W.bind (W.ret aP) aw) (W.ret (.int 2))) fun x8=>aH n x8) (W.bind (ba (W.bind (W.ret aP) aw) (W.ret (.int 3))) fun x7=>aH n x7))))
def jC (cG:PV):W PV:=
 W.bind (W.bind (W.bind (W.ret (.int 1)) fun x3=>W.bind (W.bind (c1 eZ (W.ret cG)) fun x1=>W.bind (W.ret (.int 6)) fun x2=>q8 Nm [x1,x2]) fun x4=>q8 Nn [x3,x4]) kf) fun l44=>W.bind (kq l44 () fun YK s6=>(
 W.bind (W.bind (W.ret cG) fun x9=>W.bind (W.ret YK) fun qt=>fo x9 qt) fun rZ=>Wg cU rZ (
 W.bind (eU) fun yB=>W.bind (Vu yB) fun IK=>
 W.bind (W.bind (W.ret IK.2.2.1) fun oH=>aW 12 oH) fun nr=>
 W.bind (W.bind (W.ret (.int 3)) kf) fun l42=>W.bind (kq l42 IK.2.2.2 fun Hg yr=>(
 W.bind (W.bind (W.bind (W.bind (W.ret yr) fun vV=>bu 12 vV) fun l20=>dh l20 fun UP=>(W.bind (ba (W.bind (ba (W.bind (W.ret UP) aw) (W.ret (.int 0))) aw) (W.bind (W.ret (.int 1)) qB)) fun Iv=>W.bind (ba (W.bind (W.ret UP) aw) (W.ret (.int 1))) fun vT=>W.ret (.tup [Iv,vT]))) ng) fun xM=>
 hZ (UL (IJ (W.bind (W.bind (W.bind (W.ret yr) fun yA=>dM yA) fun vS=>W.bind (W.ret xM) fun RL=>bL 4 vS RL) eK)) (UL (t2 oY (c1 eZ (W.ret xM)) (c1 eZ (W.ret (.cl nr)))) (IJ (W.bind (W.bind (W.ret yr) fun Iu=>aH 12 Iu) eK)))) (
 W.bind (W.ret (.bl false)) fun Kq=>W.ret (Lp.out Kq)) (
 W.bind (W.bind (W.bind (W.ret (.cl nr)) aw) fun WI=>W.bind (W.bind (W.bind (W.ret yr) fun ZC=>dM ZC) aw) fun l31=>Ko WI l31) fun l40=>W.bind (kq l40 () fun p33 Yv=>W.bind (un12 p33) fun VM=>(
 hZ (uu (W.bind (W.bind (W.ret VM.1) (gb .str)) eK) (UL (t2 oY (W.ret VM.2.2) (W.ret (.str "found"))) (t2 oY (ba (W.bind (ba (W.bind (W.ret IK.2.1) aw) (W.ret VM.2.1)) aw) (W.ret (.int 0))) (W.ret VM.1)))) (
 W.bind (W.ret (.bl false)) fun RK=>W.ret (Lp.out RK)) (
 W.ret (.go ())))) (Kk (fun Yv=>
 W.bind (W.bind (W.ret IK.2.1) fun Zv=>W.bind (W.ret IK.2.2.1) fun Zu=>bj Zv Zu) fun pO=>
 W.ret (.go pO)) Lp.out)))) (Kk (fun yr=>
 W.ret (.go ())) Lp.out)))) (Kk (fun s6=>
 (W.ret (.bl true))) id)
def Tr.pv:Tr->PV
 | .leaf x=>.str x
 | .node l r=>.tup [l.pv,r.pv]
def Ent.pv:Ent->PV
 | .word x=>.str x
 | .pair a b=>.tup [.int (a:Int),.int (b:Int)]
def Hu {α:Type}{l:List α} (h:l≠[]):∃a x,l=a++[x]:=⟨l.dropLast,l.getLast h,(List.dropLast_concat_getLast h).symm⟩
def KO {a b:List Tr}{t:Tr} (h:cp a++b=t.post):bE a+b.length=t.size:=by
 have h1:=congrArg BL h;rw [Ad,t.bx] at h1;have h2:∀l:List Tr,(cp l).length=bE l:=by
  intro l
  induction l with
  | nil=>rfl
  | cons x l ih=>
   have e1:cp (x::l)=x.post++cp l:=rfl;have e2:bE (x::l)=x.size+bE l:=rfl;rw [e1,e2,Ad,ih,x.bx]
 rw [h2] at h1;exact h1
def hX {l:List PV}{x:PV} (h:l.length < 1000):j8 l x=.ret (l++[x]):=W.ar (by have:=a8 (n:=1000) (Am _);omega)
def Lv (t:Tr) (hz:t.size<=900):(fj t.pv).le (.ret (t.post.map Tr.pv)):=fun Q q=>by
 unfold fj;simp only [W.ag,W.run_bind];refine gN (fun n s=>∃ts bs:List Tr,n=bE ts/\s=(bs.map Tr.pv,ts.map Tr.pv)/\cp ts++bs.reverse=t.post) ⟨[t],[],rfl,rfl,by rw [oV];simp⟩ ?_;rintro n s ⟨ts,bs,rfl,rfl,hp⟩;have hs:=KO hp;rw [Cb] at hs;by_cases he:ts=[]
 ·subst he;have hp':bs.reverse=t.post:=hp;simp;rw [<- List.map_reverse,hp'];exact q
 ·obtain⟨us,u,rfl⟩:=Hu he;have NL:=jc us;have hsu:=u.size_pos;rw [gw,oO] at hs;simp;rw [hX (by rw [Af];omega)];cases u with
  | leaf x=>
   simp [Tr.pv];refine⟨_,?_,us,rfl,bs++[.leaf x],⟨by simp [Tr.pv],rfl⟩,?_⟩
   ·rw [gw,oO];show bE us < bE us+1;omega
   ·rw [jy,oV] at hp;rw [Dl,<- hp];simp [Tr.post]
  | node c d=>
   have e1:xC (us.map Tr.pv) [c.pv,d.pv]=.ret (us.map Tr.pv++[c.pv,d.pv]):=W.ar (a8 (by
    have:(Tr.node c d).size=c.size+d.size+1:=rfl;simp;omega))
   simp [Tr.pv,e1];refine⟨_,?_,us++[c,d],rfl,bs++[.node c d],⟨by simp [Tr.pv],by simp⟩,?_⟩
   ·have e2:bE [Tr.node c d]=c.size+d.size+1:=by rw [oO];rfl
    have e3:bE [c,d]=c.size+d.size:=by simp [bE]
    rw [gw,gw,e2,e3];omega
   ·rw [jy,oV] at hp;rw [Dl,<- hp,jy,Jd];simp [Tr.post]
def az (l:List Nat):List PV:=l.map fun (n:Nat)=>.int (n:Int)
@[simp] theorem dJ (l:List Nat):(az l).length=l.length:=Af _
@[simp] theorem LN (a b:List Nat):az (a++b)=az a++az b:=A1
@[simp] theorem Jl (a:Nat) (l:List Nat):az (a::l)=.int (a:Int)::az l:=rfl
@[simp] theorem LM:az []=[]:=rfl
def pA (n:Nat):je 0 n=az (AG n):=by
 unfold je az;refine EU fun i _=>?_;rw [Em]
theorem LU {f:PV->W (Option PV)}{p:Nat->Bool}:∀{l:List Nat},(∀k∈l,f (.int ((k:Nat):Int))=.ret (if p k=true then some (.int ((k:Nat):Int)) else none))->ku (az l) f=.ret (az (l.filter p))
 | [],_=>rfl
 | k::l,h=>by
  show W.bind (f _) (fun o=>W.bind (ku (az l) f) fun m=>W.ret (o.toList++m))=_;rw [h k (.head _),LU fun y hy=>h y (.tail _ hy),CV];cases p k <;> rfl
theorem HG {f:PV->W PV}{g:Nat->PV}:∀{l:List Nat},(∀k∈l,f (.int ((k:Nat):Int))=.ret (g k))->dh (az l) f=.ret (l.map g)
 | [],_=>rfl
 | k::l,h=>by
  show W.bind (f _) (fun y=>W.bind (dh (az l) f) fun m=>W.ret (y::m))=_;rw [h k (.head _),HG fun y hy=>h y (.tail _ hy)];rfl
def WH {l:List PV}{f:PV->W (Option PV)}{Q:List PV->Prop} (g:PV->Option PV) (h:∀x∈l,f x=.ret (g x)) (q:Q (l.filterMap g)):(ku l f).run Q:=by rw [Gg h];exact q
def LP {l:List PV}{f:PV->W PV}{Q:List PV->Prop} (g:PV->PV) (h:∀x∈l,f x=.ret (g x)) (q:Q (l.map g)):(dh l f).run Q:=by rw [HH h];exact q
def sJ {l:List Nat}{f:PV->W (Option PV)}{Q:List PV->Prop} (p:Nat->Bool) (h:∀k∈l,f (.int ((k:Nat):Int))=.ret (if p k=true then some (.int ((k:Nat):Int)) else none)) (q:Q (az (l.filter p))):(ku (az l) f).run Q:=by rw [LU h];exact q
def Jn {l:List Nat}{f:PV->W PV}{Q:List PV->Prop} (g:Nat->PV) (h:∀k∈l,f (.int ((k:Nat):Int))=.ret (g k)) (q:Q (l.map g)):(dh (az l) f).run Q:=by rw [HG h];exact q
def sk (t:Tr) (hz:t.size<=900):(ir t.pv).le (.ret (.tup ((t.nd 0).map Ent.pv))):=fun Q q=>by
 unfold ir;simp only [W.ag,W.run_bind];refine W.le.use (Lv t hz) ?_;refine tw (fun r s=>∃(k:List Tr) (told:List Ent) (ls:List Nat),r=k.map Tr.pv/\s=(told.map Ent.pv,az ls.reverse)/\run k told ls=some (t.nd 0,[t.size-1])/\told.length+k.length<=900/\ls.length<=told.length) ⟨t.post,[],[],rfl,rfl,Ja t,by simp [t.bx];omega,Am _⟩ ?_ ?_
 ·rintro x r s ⟨k,told,ls,e,rfl,h,hl,Xi⟩;cases k with
  | nil=>cases e
  | cons p k=>
   injection e with e1 e2;subst e1;subst e2;rw [Ar] at hl;cases p with
   | leaf x=>
    have a1:∀y,j8 (az ls.reverse) y=.ret (az ls.reverse++[y]):=fun y=>hX (by simp;omega);simp [Tr.pv,hX (l:=told.map Ent.pv) (by simp;omega),a1];refine⟨k,rfl,told++[Ent.word x],told.length::ls,⟨by simp [Ent.pv],by simp⟩,h,by simp;omega,by simp;omega⟩
   | node c d=>
    match ls,h,Xi with
    | b::a::ls,h,Xi=>
     rw [Ar,Ar] at Xi;have a0:az (b::a::ls).reverse=(az ls.reverse++[.int (a:Int)])++[.int (b:Int)]:=by simp
     have a1:∀y,j8 (az ls.reverse) y=.ret (az ls.reverse++[y]):=fun y=>hX (by simp;omega);rw [a0];simp only [Tr.pv,W.ag,lS,nY,cv,An,if_false,MJ];simp [hX (l:=told.map Ent.pv) (by simp;omega),a1];refine⟨k,rfl,told++[Ent.pair a b],told.length::ls,⟨by simp [Ent.pv],by simp⟩,h,by simp;omega,by simp;omega⟩
 ·rintro s ⟨k,told,ls,e,rfl,h,hl,Xi⟩;cases k with
  | nil=>
   cases h;simpa using q
  | cons p k=>cases e
def mulL {a b:Int} (h:-1000000000<=a/\a<=1000000000):IntMulOk a b:=Q2 (by omega) (by omega)
def mulR {a b:Int} (h:-1000000000<=b/\b<=1000000000):IntMulOk a b:=mul_r (by omega) (by omega)
def N5:∀ns l Q,cU ns->((dY 1 aZ) l).run Q->((fun lo l=>dY 1 (fR lo) l) (ns.map PV.int) l).run fun t=>Q t.1/\∃SS:List Int,t.2=SS.map PV.int/\cU SS:=by
 rintro ns l Q ⟨g,s,c,rfl,g0,s0,s1,c0⟩ q
 match l,q with
 | [],q=>exact q.elim
 | _::_::_,q=>exact q.elim
 | [x],q=>
  show (fR _ x).run _;have q:(aZ x).run Q:=q;cases x with
  | int m=>
   obtain⟨⟨m0,m1⟩,q⟩:=q;have q:∀d:Int,0<=d->d < m->Q (.int d):=fun d h0 h1=>q _ ⟨d,rfl,h0,h1⟩;unfold fR;generalize hA:(2305843009213693921:Int)=A;generalize hB:(2305843009213693907:Int)=B;generalize hC:(65537:Int)=C;generalize hD:(999983:Int)=D;have A0:0 < A:=by omega
   have B0:0 < B:=by omega
   have C0:0 < C:=by omega
   have D0:0 < D:=by omega
   by_cases hg:0 < g
   ·simp [cB,pW,hg,m0,iX,QM];refine⟨by omega,q _ (BS _ (by omega)) (BJ _ m0),[g / m,s,c],rfl,_,_,_,rfl,Int.ediv_nonneg g0 (by omega),s0,s1,c0⟩
   ·have e1:IntMulOk s 69069:=mulR (by omega);have e2:IntMulOk 9973 (c+1):=mulL (by omega);have e3:IntMulOk 2 (c+1):=mulL (by omega);simp [cB,pW,hg,m0,iX,Tq,e1,e2,e3,A0,B0,C0,D0];generalize hM:(s*69069+9973*(c+1)+5) % A=M;have M0:0<=M:=by rw [<- hM];exact BS _ (by omega)
    have M1:M < A:=by rw [<- hM];exact BJ _ A0
    have e4:∀y,IntMulOk M y:=fun y=>Q2 (by omega) (by omega);generalize hN:M*(M % D+2*(c+1)+3) % B=N;have N0:0<=N:=by rw [<- hN];exact BS _ (by omega)
    have N1:N < B:=by rw [<- hN];exact BJ _ B0
    refine⟨e4 _,⟨C0,by omega⟩,q _ (BS _ (by omega)) (BJ _ m0),[g,N,c+1],rfl,_,_,_,rfl,g0,N0,by omega,by omega⟩
  | _=>exact q.elim
def Uz (i:Int):0<=(if i < 0 then -i else i):=by split <;> omega
def Oz {ns:List Int}{k:Int} (k0:0<=k) {Q:List PV->Prop} (q:∀l,(∃ms:List Int,l=ms.map PV.int/\cU ms)->Q l):(fo (.cl (ns.map PV.int)) (.int k)).run Q:=by
 unfold fo;generalize hA:(2305843009213693951:Int)=A;have A0:0 < A:=by omega
 have fin:∀x:Int,0<=x->(W.bind (b2 oZ (b2 oMod (W.ret (.int x)) (b2 oZ (b2 za (W.ret (.int 10)) (W.ret (.int 60))) (b2 za (W.ret (.int 10)) (W.ret (.int 60))))) (c1 tV (b2 YC (W.ret (.int x)) (b2 za (W.ret (.int 10)) (W.ret (.int 18)))))) fun n8=>
 (W.bind (W.ret n8) fun x6=>W.bind (b2 oMod (w2 addW (w2 addW (W.ret (.int x)) (b2 oZ (W.ret (.int 104729)) (W.ret (.int k)))) (W.ret (.int 7))) (W.ret (.int A))) fun x7=>W.bind (W.ret (.int 0)) fun x8=>W.ret [x6,x7,x8])).run Q:=by
  intro x x0;have p1:ND 10 60:=⟨by decide,by decide,by decide⟩;have p2:ND 10 18:=⟨by decide,by decide,by decide⟩;simp only [W.ag,Uc,W.ar p1,W.ar p2,MN,MP,XN,nZ,gE,W.Nd,W.Om,W.ai,W.ar (mulL (show -1000000000<=(104729:Int)/\(104729:Int)<=1000000000 by decide)),W.ar A0];refine⟨IntMulOk.of_bits (by decide +kernel) (by decide +kernel),by decide +kernel,?_,?_⟩
  ·split
   ·exact mulR (by omega)
   ·exact mulR (by omega)
  ·refine q _ ⟨[_,_,_],rfl,_,_,_,rfl,Int.mul_nonneg (BS _ (by decide +kernel)) ?_,BS _ (by omega),by rw [hA];exact BJ _ A0,C7 _⟩
   split <;> decide
 by_cases mJ:k < (ns.length:Int)
 ·obtain⟨v,e,e2⟩:=Nq (xs:=ns.map PV.int) k0 (by rw [Af];exact mJ);rw [Ai] at e2;obtain⟨c,rfl⟩:∃c,v=.int c:=by
   cases z:ns[k.toNat]? with
   | none=>rw [z] at e2;cases e2
   | some c=>rw [z] at e2;exact⟨c,(Option.some.inj e2).symm⟩
  simp only [W.ag,gD,H9,Af,mJ,decide_true,bB,if_true,cg,bh,e,W.aA,Uj];exact fin _ (Uz _)
 ·simp only [W.ag,gD,H9,Af,mJ,decide_false,bB,An,if_false];exact fin 0 (C7 _)
def F7 {d:Int} (h0:0<=d) (h1:d < 6):∃st:Int,cB [PV.int 1,PV.int 3,PV.int 5,PV.int 7,PV.int 9,PV.int 11] d=some (.int st)/\(st=1\/st=3\/st=5\/st=7\/st=9\/st=11):=by
 have:d=0\/d=1\/d=2\/d=3\/d=4\/d=5:=by omega
 rcases this with rfl | rfl | rfl | rfl | rfl | rfl
 ·exact⟨1,rfl,by decide⟩
 ·exact⟨3,rfl,by decide⟩
 ·exact⟨5,rfl,by decide⟩
 ·exact⟨7,rfl,by decide⟩
 ·exact⟨9,rfl,by decide⟩
 ·exact⟨11,rfl,by decide⟩
def F8 {d:Int} (h0:0<=d) (h1:d < 2):∃bg:Str,cB [PV.str "",PV.str "k"] d=some (.str bg)/\Part bg 1:=by
 have:d=0\/d=1:=by omega
 rcases this with rfl | rfl
 ·exact⟨"",rfl,by decide +kernel,by decide +kernel⟩
 ·exact⟨"k",rfl,by decide +kernel,by decide +kernel⟩
def F9 {d:Int} (h0:0<=d) (h1:d < 4):∃bg:Str,cB [PV.str "",PV.str "q",PV.str "zz",PV.str "abcdef"] d=some (.str bg)/\Part bg 6:=by
 have:d=0\/d=1\/d=2\/d=3:=by omega
 rcases this with rfl | rfl | rfl | rfl
 ·exact⟨"",rfl,by decide +kernel,by decide +kernel⟩
 ·exact⟨"q",rfl,by decide +kernel,by decide +kernel⟩
 ·exact⟨"zz",rfl,by decide +kernel,by decide +kernel⟩
 ·exact⟨"abcdef",rfl,by decide +kernel,by decide +kernel⟩
def cx {i j:Int} (h:-1000<=i/\i<=1000/\-1000<=j/\j<=1000) (h2:j-i<=1000):okN i j:=⟨by omega,by omega,by omega,by omega,a8 (by omega)⟩
def IA {m:Int} (m0:0<=m) (m1:m<=26) {Q:List PV->Prop} (q:∀ws:List Str,ws.length=m.toNat->(∀x∈ws,Wd x)->ws.Nodup->Q (ws.map PV.str)):(cI (.int m)).run Q:=by
 unfold cI;simp only [W.ag,W.run_bind,cK 26 (by decide) (by decide),cK 6 (by decide) (by decide),cK 2 (by decide) (by decide)];refine bo fun d1 a1 b1=>bo fun d3 a3 b3=>?_;obtain⟨st,zD,kst⟩:=F7 a3 b3;simp only [bh,zD,W.aA,W.ai];refine bo fun d5 a5 b5=>?_;obtain⟨bg,hbg,kbg⟩:=F8 a5 b5;simp only [bh,hbg,W.aA,W.ai,fK,W.ar (cx (i:=0) (j:=m) (by omega) (by omega))];have abY:1<=st/\st<=11:=by omega
 have lb:=kbg.1;refine nX (fun i s=>∃ws:List Str,s=ws.map PV.str/\ws.length=i/\(∀x∈ws,Wd x)/\(ws.map fun x=>x.cps[bg.length]?)=(AG i).map fun k:Nat=>some (97+((d1+st*(0+(k:Int))) % 26).toNat)) ⟨[],rfl,rfl,by simp,rfl⟩ ?_ ?_
 ·rintro i s hi ⟨ws,rfl,hl,hw,hs⟩;have e0:0<=(d1+st*(0+(i:Int))) % 26:=BS _ (by decide);have e1:(d1+st*(0+(i:Int))) % 26 < 26:=BJ _ (by decide);have e2:(d1+st*(i:Int))=d1+st*(0+(i:Int)):=by rw [Em]
  obtain⟨en,hen,ken⟩:=F9 (d:=(d1+(i:Int)) % 4) (BS _ (by decide)) (BJ _ (by decide));have le:=ken.1;have c1:IntMulOk st (i:Int):=mulL (by omega);have c2:("abcdefghijklmnopqrstuvwxyz":Str).length<=sizeLine:=by decide +kernel
  have c3:bg.length+(⟨#[97+((d1+st*(0+(i:Int))) % 26).toNat]⟩:Str).length<=sizeLine:=a8 (by show bg.length+1<=1000;omega);have c4:(bg++(⟨#[97+((d1+st*(0+(i:Int))) % 26).toNat]⟩:Str)).length+en.length<=sizeLine:=a8 (by rw [CF];show bg.length+1+en.length<=1000;omega);simp only [W.ag,W.run_bind,MN,W.ar c1,gE,MP,W.ar (show (0:Int) < 26 by decide),W.ar (show (0:Int) < 4 by decide),e2,Uh _ _ (Jq e0 e1),W.ar c2,Qg,W.ar c3,cg,bh,hen,W.aA,W.ar c4,hX (l:=ws.map PV.str) (by rw [Af];omega),W.ai];refine⟨ws++[bg++⟨#[97+((d1+st*(0+(i:Int))) % 26).toNat]⟩++en],by rw [A1];rfl,by rw [Ad,hl];rfl,?_,by rw [A1,hs,List.range_succ,A1,List.map_singleton,List.map_singleton,IB]⟩;intro x hx;rcases Bh.mp hx with z | z
  ·exact hw x z
  ·rw [Bw.mp z];exact Ks kbg ken (by omega) (by omega)
 ·rintro s ⟨ws,rfl,hl,hw,hs⟩;refine q ws hl hw ?_;refine wU (g:=fun x:Str=>x.cps[bg.length]?) ?_;rw [hs];exact uG kst (by omega)
def Uv {α:Type}{l:List α}{k:Nat} (h:k+1 < l.length):∃a x y b,l=a++x::y::b/\a.length=k:=by
 refine⟨l.take k,l[k],l[k+1],l.drop (k+2),?_,by rw [BV];omega⟩;have e1:l.drop k=l[k]::l.drop (k+1):=Bf (by omega);have e2:l.drop (k+1)=l[k+1]::l.drop (k+2):=Bf (by omega);rw [<- e2,<- e1,List.take_append_drop]
def yI {ws:List Str} (hw:ws≠[]) (h8:ws.length<=100) {Q:PV->Prop} (q:∀t:Tr,t.aN.Perm ws->Q t.pv):(kN (.cl (ws.map PV.str))).run Q:=by
 unfold kN;simp only [W.ag,W.run_bind,cg,W.ai,cK 4 (by decide) (by decide)];refine bo fun w w0 w1=>?_;refine gN (fun n s=>∃ts:List Tr,s=ts.map Tr.pv/\n=ts.length/\ts≠[]/\(ts.flatMap Tr.aN).Perm ws/\ts.length<=100) (n:=ws.length) ⟨ws.map Tr.leaf,by simp [Tr.pv],by simp,by simpa using hw,?_,by simpa using h8⟩ ?_
 ·rw [List.flatMap_map];have:ws.flatMap (fun x=>(Tr.leaf x).aN)=ws:=by
   simp [Tr.aN,List.flatMap_singleton']
  rw [this]
 ·rintro n s ⟨ts,rfl,rfl,Mk,hp,hl⟩;by_cases h1:1 < ts.length
  ·have c0:(1:Int) < (ts.length:Int):=by omega
   simp only [W.ag,W.run_bind,xF,Af,Rq,c0,decide_true,bB,W.ai,if_true,tF,cK ((ts.length:Int)-1) (by omega) (by omega)];refine bo fun d d0 d1=>?_;obtain⟨a,ha,a0,a1⟩:∃a:Nat,cB [PV.int d,PV.int ((ts.length:Int)-2),PV.int 0,PV.int 0] w=some (.int (a:Int))/\0<=a/\a+1 < ts.length:=by
    have:w=0\/w=1\/w=2\/w=3:=by omega
    rcases this with rfl | rfl | rfl | rfl
    ·exact⟨d.toNat,by show some (PV.int d)=_;rw [Int.toNat_of_nonneg d0],by omega,by omega⟩
    ·exact⟨ts.length-2,by show some (PV.int ((ts.length:Int)-2))=_;congr 2;omega,by omega,by omega⟩
    ·exact⟨0,rfl,by omega,by omega⟩
    ·exact⟨0,rfl,by omega,by omega⟩
   obtain⟨as,x,y,bs,rfl,hk⟩:=Uv a1;have i0:cB ((as++x::y::bs).map Tr.pv) (a:Int)=some x.pv:=dW (by rw [Ai,Ax (by omega)];simp [hk]);have i1:cB ((as++x::y::bs).map Tr.pv) ((a:Int)+1)=some y.pv:=by
    have:((a:Int)+1)=((a+1:Nat):Int):=by push_cast;rfl
    rw [this];exact dW (by rw [Ai,Ax (by omega)];simp [hk])
   simp only [bh,ha,W.aA,W.ai,i0,i1,gE,W.ag];have fin:∀p:Tr,p.aN.Perm (x.aN++y.aN)->(Oe ((as++x::y::bs).map Tr.pv) (.int (a:Int)) (.int ((a:Int)+2)) [p.pv]).run fun a=>∃m,m < (as++x::y::bs).length/\∃ts:List Tr,a=ts.map Tr.pv/\m=ts.length/\ts≠[]/\(ts.flatMap Tr.aN).Perm ws/\ts.length<=100:=by
    intro p hpp;rw [Ad,Ar,Ar] at hl;refine⟨⟨by omega,by omega,?_,a8 ?_⟩,?_⟩
    ·rw [Af,Ad,Ar,Ar];push_cast;omega
    ·rw [Af,Ad,Ar,Ar];simp;omega
    ·have e:((as++x::y::bs).map Tr.pv).take (a:Int).toNat++[p.pv]++((as++x::y::bs).map Tr.pv).drop ((a:Int)+2).toNat=(as++p::bs).map Tr.pv:=by
      have t1:(a:Int).toNat=as.length:=by omega
      have t2:((a:Int)+2).toNat=as.length+2:=by omega
      rw [t1,t2,<- List.map_take,<- List.map_drop,List.take_left' rfl];have:(as++x::y::bs).drop (as.length+2)=bs:=by
       rw [show as++x::y::bs=(as++[x,y])++bs by simp,List.drop_left' (by simp)]
      rw [this];simp
     show ∃m,_/\∃ts:List Tr,_;rw [e];refine⟨(as++p::bs).length,by simp,as++p::bs,rfl,rfl,by simp,?_,by simp;omega⟩;refine List.Perm.trans ?_ hp;simp only [EY,List.flatMap_cons];refine List.Perm.append_left _ ?_;rw [<- A5];exact hpp.append_right _
   by_cases h3:w=3
   ·subst h3;simp only [eB,bB,beq_self_eq_true,W.ai,W.ag,if_true,W.run_bind,cK 2 (by decide) (by decide)];refine bo fun d2 d20 d21=>?_;by_cases h4:d2=0
    ·subst h4;simp only [eB,bB,beq_self_eq_true,W.ai,W.ag,if_true,W.run_bind,i0,i1,bh,gE,W.aA];exact fin (.node y x) List.perm_append_comm
    ·have e4:(d2==0)=false:=by simpa using h4
     simp only [eB,bB,e4,W.ai,W.ag,W.run_bind,An,if_false];exact fin (.node x y) (List.Perm.refl _)
   ·have e3:(w==3)=false:=by simpa using h3
    simp only [eB,bB,e3,W.ai,W.ag,W.run_bind,An,if_false];exact fin (.node x y) (List.Perm.refl _)
  ·have c0:¬(1:Int) < (ts.length:Int):=by omega
   simp only [W.ag,W.run_bind,xF,Af,Rq,c0,decide_false,bB,W.ai,An,if_false]
   match ts,Mk,h1,hp with
   | [t],_,_,hp=>
    have:t.aN.Perm ws:=by simpa using hp
    exact q t this
   | _::_::_,_,h1,_=>simp at h1
structure qg (t:Tr):Prop where
 ws:t.Ws
 nd:t.aN.Nodup
 Y3:t.aN.length<=8
def JK {Q:PV->Prop} (q:∀t:Tr,qg t->Q t.pv):nB.run Q:=by
 unfold nB;simp only [W.ag,W.run_bind,cK 8 (by decide) (by decide)];refine bo fun d d0 d1=>?_;obtain⟨n,hn,n0,n1⟩:∃n:Int,cB [PV.int 5,PV.int 8] (if (d==0)=true then 1 else 0)=some (.int n)/\0 < n/\n<=8:=by
  by_cases h:d=0
  ·subst h;exact⟨8,rfl,by decide,by decide⟩
  ·have e:(d==0)=false:=by simpa using h
   rw [e];exact⟨5,rfl,by decide,by decide⟩
 simp only [eB,W.ai,nZ,bh,hn,W.aA,cK n n0 (by omega)];refine bo fun k k0 k1=>?_;simp only [gE,W.ai];refine IA (by omega) (by omega) fun ws hl hw hd=>?_;refine yI (fun z=>by rw [z] at hl;simp at hl;omega) (by omega) fun t ht=>q t ⟨fun x hx=>hw x (ht.mem_iff.mp hx),ht.nodup_iff.mpr hd,by rw [ht.length_eq,hl];omega⟩
def sP:Ent->Bool
 | .word _=>false
 | .pair _ _=>true
structure Dt (t:Tr) (ds:List Int) (left:List Nat) (d:Int):Prop where
 len:ds.length=t.size
 zero:∀j,j < t.size->(sP (en t 0 j)=false\/j∈left)->ds.getD j 0=0
 up:∀j,j < t.size->j∉left->∀a b,en t 0 j=.pair a b->a∉left/\b∉left/\ds.getD a 0 < ds.getD j 0/\ds.getD b 0 < ds.getD j 0/\1<=ds.getD j 0/\ds.getD j 0<=d
 inj:∀i j,i < t.size->j < t.size->i∉left->j∉left->sP (en t 0 i)=true->sP (en t 0 j)=true->ds.getD i 0=ds.getD j 0->i=j
 pos:0<=d
 US:∀j∈left,j < t.size/\sP (en t 0 j)=true
 Yx:left.Pairwise (· < ·)
def iK {l:List Int}{i:Nat}{v:Int} (h:i < l.length):(l.set i v).getD i 0=v:=by rw [Aq,BA h];rfl
def bN {l:List Int}{i j:Nat}{v:Int} (h:i≠j):(l.set i v).getD j 0=l.getD j 0:=by rw [Aq,Bp h,<- Aq]
def uB {l:List Nat} (h:l.Pairwise (· < ·)) {x y:Nat}:y∈l.erase x↔y∈l/\y≠x:=by
 have nd:l.Nodup:=h.imp (fun z=>AJ z);rw [nd.mem_erase_iff];exact⟨fun z=>⟨z.2,z.1⟩,fun z=>⟨z.2,z.1⟩⟩
def fy (t:Tr) {j a b:Nat} (h:j < t.size) (e:en t 0 j=.pair a b):a < j/\b < j:=by
 rcases Nl t 0 j h with⟨x,e1,_⟩ | ⟨a',b',e1,e2,e3,_⟩
 ·rw [e1] at e;cases e
 ·rw [e1] at e;injection e with h1 h2;omega
def Dt.next {t:Tr}{ds:List Int}{left:List Nat}{d x:Int}{j a b:Nat} (D:Dt t ds left d) (hj:j∈left) (e:en t 0 j=.pair a b) (ha:a∉left) (hb:b∉left) (hx:0<=x):Dt t (ds.set j (d+1+x)) (left.erase j) (d+1+x):=by
 obtain⟨hjs,hjp⟩:=D.US j hj;obtain⟨haj,hbj⟩:=fy t hjs e;have NM:j < ds.length:=by rw [D.len];exact hjs
 have hm:∀y,y∈left.erase j↔y∈left/\y≠j:=fun y=>uB D.Yx;have low:∀y,y < t.size->y∉left->ds.getD y 0<=d:=fun y hy YR=>by
  cases ey:en t 0 y with
  | word w=>rw [D.zero y hy (.inl (by rw [ey];rfl))];exact D.pos
  | pair p q=>exact (D.up y hy YR p q ey).2.2.2.2.2
 refine⟨by rw [BR];exact D.len,fun y hy hc=>?_,fun y hy YR p q ey=>?_,fun u v hu hv hul hvl pu pv Rf=>?_,by have:=D.pos;omega,fun y hy=>D.US y ((hm y).mp hy).1,List.Pairwise.sublist List.erase_sublist D.Yx⟩
 ·have W5:j≠y:=fun z=>by
   subst z;rcases hc with hc | hc
   ·rw [hjp] at hc;cases hc
   ·exact ((hm j).mp hc).2 rfl
  rw [bN W5];exact D.zero y hy (hc.imp id fun z=>((hm y).mp z).1)
 ·by_cases W5:j=y
  ·subst W5;rw [e] at ey;injection ey with h1 h2;subst h1 h2;have la:=low a (by omega) ha;have lb:=low b (by omega) hb;rw [iK NM,bN (by omega),bN (by omega)];have:=D.pos;exact⟨fun z=>ha ((hm a).mp z).1,fun z=>hb ((hm b).mp z).1,by omega,by omega,by omega,by omega⟩
  ·have aal:y∉left:=fun z=>YR ((hm y).mpr ⟨z,Bx W5⟩);obtain⟨p1,p2,p3,p4,p5,p6⟩:=D.up y hy aal p q ey;have np:j≠p:=fun z=>p1 (z▸hj);have nq:j≠q:=fun z=>p2 (z▸hj);rw [bN W5,bN np,bN nq];exact⟨fun z=>p1 ((hm p).mp z).1,fun z=>p2 ((hm q).mp z).1,p3,p4,p5,by omega⟩
 ·by_cases c1:j=u
  ·by_cases c2:j=v
   ·exact c1.symm.trans c2
   ·exfalso;subst c1;have Tx:v∉left:=fun z=>hvl ((hm v).mpr ⟨z,Bx c2⟩);rw [iK NM,bN c2] at Rf;have:=low v hv Tx;omega
  ·have W8:u∉left:=fun z=>hul ((hm u).mpr ⟨z,Bx c1⟩);by_cases c2:j=v
   ·exfalso;subst c2;rw [iK NM,bN c1] at Rf;have:=low u hu W8;omega
   ·have Tx:v∉left:=fun z=>hvl ((hm v).mpr ⟨z,Bx c2⟩);rw [bN c1,bN c2] at Rf;exact D.inj u v hu hv W8 Tx pu pv Rf
def splits (t:Tr):List Nat:=(AG t.size).filter fun j=>sP (en t 0 j)
def Dt.first (t:Tr):Dt t (Ak t.size 0) (splits t) 0:=by
 have z:∀j,(Ak t.size (0:Int)).getD j 0=0:=fun j=>by
  rw [Aq,Bk]
  split <;> rfl
 have mem:∀j,j∈splits t↔j < t.size/\sP (en t 0 j)=true:=fun j=>by unfold splits;rw [AE,AL]
 refine⟨A2,fun j _ _=>z j,fun j hj hn a b e=>absurd ((mem j).mpr ⟨hj,by rw [e];rfl⟩) hn,fun i j hi hj hni _ pi _ _=>absurd ((mem i).mpr ⟨hi,pi⟩) hni,C7 _,fun j hj=>(mem j).mp hj,?_⟩;unfold splits;exact List.Pairwise.filter _ CN
def Ic (t:Tr):dQ 0 ((t.nd 0).map Ent.pv)=(AG t.size).map fun j=>PV.tup [.int ((j:Nat):Int),(en t 0 j).pv]:=by
 have hl:(dQ 0 ((t.nd 0).map Ent.pv)).length=t.size:=by rw [cz,Af,t.bf]
 apply BB;intro i;by_cases hi:i < t.size
 ·have h1:(dQ 0 ((t.nd 0).map Ent.pv))[i]?=some ((dQ 0 ((t.nd 0).map Ent.pv))[i]'(by omega)):=Ae _;obtain⟨y,hy,e⟩:=gM h1;rw [Ai,gj t 0 i hi] at hy;have Tw:(en t 0 i).pv=y:=Option.some.inj hy;rw [h1,e,<- Tw,Ai,BU hi,AQ];rfl
 ·rw [AN (by omega),AN (by rw [Af,BO];omega)]
def Pa:PV->Option PV
 | .tup [_,.str _]=>none
 | .tup [k,_]=>some k
 | _=>none
def S8 (t:Tr):(dQ 0 ((t.nd 0).map Ent.pv)).filterMap Pa=az (splits t):=by
 rw [Ic];unfold splits;generalize AG t.size=l
 induction l with
 | nil=>rfl
 | cons j l ih=>
  rw [Au,Bs,CV];cases e:en t 0 j with
  | word w=>exact ih
  | pair a b=>
   show PV.int ((j:Nat):Int)::_=_;rw [ih];rfl
def va (l:List Nat):az l=(l.map fun n=>((n:Nat):Int)).map PV.int:=by unfold az;rw [A4];rfl
theorem tI (y:Nat):∀l:List Nat,(l.map fun n=>((n:Nat):Int)).erase (y:Int)=(l.erase y).map fun n=>((n:Nat):Int)
 | []=>rfl
 | a::l=>by
  rw [Au,List.erase_cons,List.erase_cons,tI y l];by_cases c:a=y
  ·subst c;simp
  ·have c1:(((a:Nat):Int)==(y:Int))=false:=by simp;omega
   have c2:(a==y)=false:=by simpa using c
   rw [c1,c2];simp
def S2 {d:Int} (h0:0<=d) (h1:d < 3):∃m:Int,cB [PV.int 1,PV.int 3,PV.int 13] d=some (.int m)/\0 < m/\m<=13:=by
 have:d=0\/d=1\/d=2:=by omega
 rcases this with rfl | rfl | rfl
 ·exact⟨1,rfl,by decide,by decide⟩
 ·exact⟨3,rfl,by decide,by decide⟩
 ·exact⟨13,rfl,by decide,by decide⟩
theorem Hw:∀(l:List Nat) (k n:Nat),l.Pairwise (· < ·)->(∀x∈l,k<=x/\x < n)->l.length<=n-k
 | [],_,_,_,_=>Bm _
 | a::l,k,n,h,hb=>by
  have h1:=(DB.mp h);have h2:=hb a Bo;have ih:=Hw l (a+1) n h1.2 fun x hx=>⟨h1.1 x hx,(hb x (AU _ hx)).2⟩;rw [Ar];omega
def R4 (s:Nat):Ent->Ent
 | .word x=>.word x
 | .pair p q=>.pair (p+s) (q+s)
theorem F3:∀(t:Tr) (o s:Nat),t.nd (o+s)=(t.nd o).map (R4 s)
 | .leaf _,_,_=>rfl
 | .node a b,o,s=>by
  have ha:=a.size_pos;rw [Tr.nd,Tr.nd,F3 a o s,show o+s+a.size=o+a.size+s by omega,F3 b (o+a.size) s,A1,A1];congr 2;show Ent.pair _ _=Ent.pair _ _;congr 1 <;> omega
def xS {l m:List PV} (h:l.length+m.length<=1000):GO l m=.ret (l++m):=W.ar (a8 h)
theorem gL:∀(n:Nat) (t:Tr),t.depth < n->t.size<=900->(aW n t.pv).le (.ret ((t.nd 0).map Ent.pv))
 | 0,_,h,_=>by omega
 | n+1,.leaf w,_,_=>fun Q q=>by
  unfold aW;simp [Tr.pv];exact q
 | n+1,.node a b,h,hz=>fun Q q=>by
  have hs:(Tr.node a b).size=a.size+b.size+1:=rfl;have hpa:=a.size_pos;have hpb:=b.size_pos;have hd:a.depth < n/\b.depth < n:=by simp [Tr.depth] at h;omega
  unfold aW;have i0:cB [a.pv,b.pv] 0=some a.pv:=rfl;have i1:cB [a.pv,b.pv] 1=some b.pv:=rfl;simp only [Tr.pv,W.ag,W.run_bind,lS,nY,cv,An,if_false,aG,bh,i0,i1,W.aA];refine W.le.use (gL n a hd.1 (by omega)) ?_;simp only [xF,Af,a.bf,W.ai];refine W.le.use (gL n b hd.2 (by omega)) ?_;refine jI (fun i s=>s=(a.nd 0++((b.nd 0).take i).map (R4 a.size)).map Ent.pv) (by simp) (fun i x s hx hs=>?_) (fun s hs=>?_)
  ·subst hs;rw [Ai] at hx;cases e:(b.nd 0)[i]? with
   | none=>rw [e] at hx;cases hx
   | some en=>
    rw [e] at hx;have ex:en.pv=x:=Option.some.inj hx;subst ex;have hi:i < b.size:=by have:=(Aj.mp e).1;rw [b.bf] at this;exact this
    have et:(b.nd 0).take (i+1)=(b.nd 0).take i++[en]:=by rw [EL,e];rfl
    have al:∀y,j8 ((a.nd 0++((b.nd 0).take i).map (R4 a.size)).map Ent.pv) y=.ret ((a.nd 0++((b.nd 0).take i).map (R4 a.size)).map Ent.pv++[y]):=fun y=>hX (by simp [a.bf];omega);cases en with
    | word w=>
     simp only [Ent.pv,W.ag,W.run_bind,rq,rm,cv,if_true,al,W.ai,et];simp [R4,Ent.pv]
    | pair u v=>
     have j0:cB [PV.int (u:Int),PV.int (v:Int)] 0=some (.int u):=rfl;have j1:cB [PV.int (u:Int),PV.int (v:Int)] 1=some (.int v):=rfl;simp only [Ent.pv,W.ag,W.run_bind,lS,nY,cv,An,if_false,aG,bh,j0,j1,W.aA,gE,al,W.ai,et];simp [R4,Ent.pv]
  ·subst hs;rw [Ce (by rw [Af];exact Am _)];have es:(b.nd 0).map (R4 a.size)=b.nd a.size:=by rw [<- F3 b 0 a.size,AQ]
   rw [es];simp only [W.ag,W.run_bind,tF,xF,Af,Ad,a.bf,b.bf,W.ai];rw [xS (by simp [a.bf,b.bf];omega)];have e:(Tr.node a b).nd 0=a.nd 0++b.nd a.size++[.pair (a.size-1) (a.size+b.size-1)]:=by rw [Tr.nd];simp
   rw [e] at q;have e1:((a.size:Int)-1)=((a.size-1:Nat):Int):=by omega
   have e2:(((a.size+b.size:Nat):Int)-1)=((a.size+b.size-1:Nat):Int):=by omega
   rw [e1,e2];simpa [Ent.pv] using q
def pick_run {l:List PV} (h0:l≠[]) (h1:l.length<=1000) {Q:PV->Prop} (q:∀x∈l,Q x):(bb (.cl l)).run Q:=by
 unfold bb;have hp:0 < l.length:=EW.mpr h0;simp only [W.ag,W.run_bind,cg,gD,cK (l.length:Int) (by omega) (by omega),W.ai];refine bo fun d d0 d1=>?_;obtain⟨v,hv,hv2⟩:=Nq (xs:=l) d0 d1;simp only [bh,hv,W.aA,W.ai];exact q v (Bn hv2)
def Md (k:Nat) (l:List Nat) (b:Bool):Me b (.int (k:Int)) (az l)=.ret (if b then !decide (k∈l) else decide (k∈l)):=by
 have h1:Tt (.int (k:Int)) (az l):=⟨by simp,k7.mpr fun x hx=>by
  obtain⟨n,_,rfl⟩:=AA.mp hx;simp,lh fun x hx=>by
  obtain⟨n,_,rfl⟩:=AA.mp hx;simp⟩
 have h2:uK (.int (k:Int)) (az l)=decide (k∈l):=by
  unfold uK az;rw [List.any_map]
  induction l with
  | nil=>simp
  | cons a l ih=>
   have ih:=ih ⟨by simp,k7.mpr fun x hx=>by
    obtain⟨n,_,rfl⟩:=AA.mp hx;simp,lh fun x hx=>by
    obtain⟨n,_,rfl⟩:=AA.mp hx;simp⟩
   rw [Cv,ih];simp only [Function.comp,MB,Az];by_cases c:a=k
   ·subst c;simp
   ·have c1:(((a:Nat):Int)==(k:Int))=false:=by simp;omega
    have c2:¬k=a:=fun z=>c z.symm;simp [c1,c2]
 unfold Me;rw [W.ar h1,h2]
def Nb (l:List Nat):uO (az l)=true:=zW.mpr fun x hx=>by
 obtain⟨n,_,rfl⟩:=AA.mp hx;rw [PV.dat] <;> simp
def c7 (ds:List Int):List PV:=ds.map PV.int
@[simp] theorem hE (ds:List Int):(c7 ds).length=ds.length:=Af _
def Mc (ds:List Int) (y:Nat) (v:Int):(c7 ds).set y (.int v)=c7 (ds.set y v):=by unfold c7;rw [Ei]
def NH (t:Tr) (left:List Nat) (j:Nat):Bool:=match en t 0 j with
 | .pair a b=>!decide (a∈left)&&!decide (b∈left)
 | _=>false
def HQ {n k:Nat} (h:k < n):pW n (k:Int)=some k:=by
 unfold pW;rw [if_pos (by omega),if_pos (by omega)];simp
def nj {l:List PV}{k:Nat}{v:PV} (h:k < l.length):iX l (.int (k:Int)) v=.ret (l.set k v):=by
 unfold iX;simp [HQ h]
def LL (t:Tr) {j:Nat} (h:j < t.size):cB ((t.nd 0).map Ent.pv) (j:Int)=some (en t 0 j).pv:=dW (by rw [Ai,gj t 0 j h];rfl)
def JV (t:Tr) (hz:t.size<=900) {Q:PV->Prop} (q:∀ds d,Dt t ds [] d->d<=13*((splits t).length:Int)->Q (.tup (c7 ds))):(dr (.cl ((t.nd 0).map Ent.pv))).run Q:=by
 unfold dr;have hs:(splits t).length<=t.size:=by
  unfold splits;have:=AW (fun j=>sP (en t 0 j)) (AG t.size);rw [BO] at this;exact this
 have e1:yR [PV.int 0] (.int ((t.nd 0).map Ent.pv).length)=.ret (c7 (Ak t.size 0)):=by
  rw [xE,W.ar ⟨by omega,by rw [Af,t.bf];omega,a8 (by simp [t.bf];omega)⟩];congr 1;rw [Af,t.bf,AO];unfold c7;rw [List.map_replicate]
  induction t.size with
  | zero=>rfl
  | succ n ih=>rw [Bi,BP,ih];rfl
 have e3:((t.nd 0).map Ent.pv).length<=sizeLine:=a8 (by rw [Af,t.bf];omega);simp only [W.ag,gD,e1,cg,W.ar e3,W.run_bind];refine WH Pa (fun x hx=>?_) ?_
 ·rw [Ic] at hx;obtain⟨j,hj,rfl⟩:=AA.mp hx;cases en t 0 j with
  | word w=>simp [Ent.pv,Pa]
  | pair u v=>simp [Ent.pv,Pa]
 rw [S8 t];refine gN (fun n s=>∃(ds:List Int) (left:List Nat) (d:Int),s=(c7 ds,az left,PV.int d)/\n=left.length/\Dt t ds left d/\d+13*(left.length:Int)<=13*((splits t).length:Int)) ⟨_,_,0,rfl,rfl,Dt.first t,by omega⟩ ?_;rintro n s ⟨ds,left,d,rfl,rfl,D,hd⟩;by_cases he:left=[]
 ·subst he;simp;exact q ds d D (by simpa using hd)
 ·have ee:(!(az left).isEmpty)=true:=by cases left with | nil=>exact absurd rfl he | cons a l=>rfl
  have Xi:left.length<=t.size:=by
   have:=Hw left 0 t.size D.Yx fun x hx=>⟨Bm _,(D.US x hx).1⟩;omega
  obtain⟨r,hr,hr2⟩:∃r∈left,NH t left r=true:=by
   obtain⟨l0,l1,rfl⟩:∃l0 l1,left=l0::l1:=by cases left with | nil=>exact absurd rfl he | cons a l=>exact⟨a,l,rfl⟩
   refine⟨l0,.head _,?_⟩;obtain⟨h1,h2⟩:=D.US l0 (.head _);unfold NH;cases e:en t 0 l0 with
   | word w=>rw [e] at h2;cases h2
   | pair a b=>
    obtain⟨g1,g2⟩:=fy t h1 e;have low:∀y∈l0::l1,l0<=y:=fun y hy=>by
     rcases Az.mp hy with rfl | hy
     ·exact Am _
     ·exact Dp ((DB.mp D.Yx).1 y hy)
    have na:a∉l0::l1:=fun z=>by have:=low a z;omega
    have nb:b∉l0::l1:=fun z=>by have:=low b z;omega
    show (!decide _&&!decide _)=true;rw [decide_eq_false na,decide_eq_false nb];rfl
  have ne:az (left.filter (NH t left))≠[]:=by
   intro z;have:=congrArg BL z;rw [dJ] at this;have m:r∈left.filter (NH t left):=AE.mpr ⟨hr,hr2⟩;rw [D6.mp this] at m;cases m
  have e5:Kz (az (left.filter (NH t left)))=.ret (az (left.filter (NH t left))):=W.ar (Nb _);simp only [W.ai,ee,if_true,W.ag,W.run_bind];refine sJ (NH t left) (fun k hk=>?_) ?_
  ·obtain⟨h1,h2⟩:=D.US k hk;unfold NH;cases e:en t 0 k with
   | word w=>rw [e] at h2;cases h2
   | pair a b=>
    have j0:cB [PV.int (a:Int),PV.int (b:Int)] 0=some (.int a):=rfl;have j1:cB [PV.int (a:Int),PV.int (b:Int)] 1=some (.int b):=rfl;simp only [W.ag,cg,bh,LL t h1,e,Ent.pv,W.aA,aG,j0,j1,Md,if_true];by_cases ca:a∈left
    ·simp [ca]
    ·simp [ca];by_cases cb:b∈left
     ·simp [cb]
     ·simp [cb]
  rw [e5];simp only [W.ai];refine pick_run ne (by rw [dJ];have:=AW (NH t left) left;omega) fun x hx=>?_;obtain⟨j,hj,rfl⟩:=AA.mp hx;obtain⟨TL,Ml⟩:=AE.mp hj;obtain⟨js,jp⟩:=D.US j TL;cases ej:en t 0 j with
  | word w=>rw [ej] at jp;cases jp
  | pair a b=>
  unfold NH at Ml;rw [ej] at Ml;simp at Ml;simp only [gE,W.ai,cK 3 (by decide) (by decide)];refine bo fun z z0 z1=>?_;obtain⟨m,hm,m0,m1⟩:=S2 z0 z1;simp only [bh,hm,W.aA,W.ai,cK m m0 (by omega)];refine bo fun y y0 y1=>?_;have hx2:R9 (az left) (.int (j:Int))=.ret (az (left.erase j)):=by
   show W.bind (sR (az left)) _=_;rw [va,pz];show W.gF _ _=_;rw [W.ar (AA.mpr ⟨j,TL,rfl⟩),tI,<- va]
  simp only [gE,W.ai,nj (l:=c7 ds) (k:=j) (by rw [hE,D.len];exact js),hx2,Mc];refine⟨(left.erase j).length,by rw [DZ TL];have:=Ej TL;omega,_,_,_,rfl,rfl,D.next TL ej Ml.1 Ml.2 y0,?_⟩;rw [DZ TL];have:=Ej TL;omega
def qg.size {t:Tr} (g:qg t):t.size<=15:=by have:=t.size_eq;have:=g.Y3;omega
def qg.depth {t:Tr} (g:qg t):t.depth < 8:=by have:=t.n9;have:=g.Y3;omega
def Wz (t:Tr) (ds:List Int) (j:Nat):Bool:=match en t 0 j with
 | .word _=>ds.getD j 0==0
 | .pair a b=>decide (ds.getD a 0 < ds.getD j 0)&&decide (ds.getD b 0 < ds.getD j 0)&&decide (1<=ds.getD j 0)&&decide (ds.getD j 0<=99)
def Ht (t:Tr) (ds:List Int):List Int:=(splits t).map (ds.getD · 0)
def Px (t:Tr) (ds:List Int):Bool:=decide (ds.length=t.size)&&(decide (Ht t ds).Nodup&&(AG t.size).all (Wz t ds))
def int_at {ds:List Int}{j:Nat} (h:j < ds.length):cB (c7 ds) (j:Int)=some (.int (ds.getD j 0)):=dW (by
 unfold c7;rw [Ai,Ae h,Aq,Ae h];rfl)
def RG (t:Tr) (ds:List Int) (h:ds.length=t.size):iD ((t.nd 0).map Ent.pv) (c7 ds)=(AG t.size).map fun j=>PV.tup [(en t 0 j).pv,.int (ds.getD j 0)]:=by
 refine BB fun j=>?_;by_cases hj:j < t.size
 ·have hl:j < (iD ((t.nd 0).map Ent.pv) (c7 ds)).length:=by rw [m8];simp [t.bf,h];exact hj
  obtain⟨x,y,hx,hy,e⟩:=rG (Ae hl);rw [Ai,gj t 0 j hj] at hx;have yt:(en t 0 j).pv=x:=Option.some.inj hx;have NM:j < ds.length:=by omega
  unfold c7 at hy;rw [Ai,Ae NM] at hy;have Tw:PV.int ds[j]=y:=Option.some.inj hy;rw [Ae hl,e,<- yt,<- Tw,Ai,BU hj];show _=some (PV.tup [_,.int (ds.getD j 0)]);rw [Aq,Ae NM];rfl
 ·rw [AN (by rw [m8];simp [t.bf,h];omega),AN (by simp;omega)]
def split_le (t:Tr) (ds:List Int) (h:ds.length=t.size) (hz:t.size<=900):cP (.tup ((t.nd 0).map Ent.pv)) (.tup (c7 ds))=.ret (c7 (Ht t ds)):=by
 unfold cP;have c:((t.nd 0).map Ent.pv).length<=sizeLine:=a8 (by rw [Af,t.bf];omega);simp only [W.ag,aG,Ko,W.ar c,RG t ds h];rw [Gg (g:=fun x=>match x with | .tup [.str _,_]=>none | .tup [_,y]=>some y | _=>none) fun x hx=>?_]
 ·congr 1;unfold Ht splits c7;generalize AG t.size=l
  induction l with
  | nil=>rfl
  | cons j l ih=>
   rw [Au,Bs,CV,ih];cases e:en t 0 j with
   | word w=>rfl
   | pair a b=>rfl
 ·obtain⟨j,hj,rfl⟩:=AA.mp hx;cases en t 0 j with
  | word w=>simp [Ent.pv]
  | pair a b=>simp [Ent.pv]
section
variable {α β:Type}
theorem LO {c:α->PV}{f:PV->W PV}{g:α->PV}:∀{l:List α},(∀x∈l,(f (c x)).le (.ret (g x)))->(dh (l.map c) f).le (.ret (l.map g))
 | [],_=>W.le.refl _
 | x::r,h=>W.le.ret (h x (.head _)) (W.le.ret (LO fun y hy=>h y (.tail _ hy)) (W.le.refl _))
theorem Q3 {c:α->PV}{f:PV->W (Option PV)}{g:α->Option PV}:∀{l:List α},(∀x∈l,(f (c x)).le (.ret (g x)))->(ku (l.map c) f).le (.ret (l.filterMap g))
 | [],_=>W.le.refl _
 | x::r,h=>W.le.ret (h x (.head _)) (W.le.ret (Q3 fun y hy=>h y (.tail _ hy)) (W.le.of_eq (by rw [Bs];cases g x <;> rfl)))
def nA {c:α->PV}{f:PV->W PV}{Q:List PV->Prop} (g:α->PV) {l:List α} (h:∀x∈l,(f (c x)).le (.ret (g x))) (q:Q (l.map g)):(dh (l.map c) f).run Q:=LO h Q q
def w5 {c:α->PV}{f:PV->W (Option PV)}{Q:List PV->Prop} (g:α->Option PV) {l:List α} (h:∀x∈l,(f (c x)).le (.ret (g x))) (q:Q (l.filterMap g)):(ku (l.map c) f).run Q:=Q3 h Q q
theorem HX {p:α->Bool}{g:α->β}:∀l:List α,l.filterMap (fun x=>if p x=true then some (g x) else none)=(l.filter p).map g
 | []=>rfl
 | x::l=>by
  rw [Bs,CV,HX l];cases p x <;> rfl
end
def MU {α:Type} (c:α->PV) (l:List α) (k:Nat):dQ k (l.map c)=(l.zipIdx k).map fun p=>PV.tup [.int ((p.2:Nat):Int),c p.1]:=by
 induction l generalizing k with
 | nil=>rfl
 | cons a l ih=>rw [Au,dQ,ih,List.zipIdx_cons,Au]
def vp:V->PV
 | .int i=>.int i
 | .str x=>.str x
 | .bl b=>.bl b
 | _=>.aU
def Ve (t:Tr):List PV:=(ah (t.nd 0) 0 (Ak t.size V.aU)).map vp
@[simp] theorem Io (t:Tr):(Ve t).length=t.size:=by unfold Ve;rw [Af,GZ,A2]
def Ip (t:Tr) {j:Nat} (h:j < t.size):(Ve t)[j]?=some (vp (kr t 0 j .aU)):=by unfold Ve;rw [Ai,Uy t h];rfl
def eG (t:Tr):((t.nd 0).map Ent.pv).length=t.size:=by rw [Af,t.bf]
def Fl (t:Tr) (hz:t.size<=900):(eu t.pv).le (.ret (.tup (Ve t))):=fun Q q=>by
 unfold eu;have c:((t.nd 0).map Ent.pv).length<=sizeLine:=a8 (by rw [eG];omega);simp only [W.ag,W.run_bind];refine W.le.use (sk t hz) ?_;simp only [aG,W.ai];refine LP (fun _=>.aU) (fun x hx=>rfl) ?_;simp only [W.ar c,W.ai];have e0:((t.nd 0).map Ent.pv).map (fun _=>PV.aU)=(ah ((t.nd 0).take 0) 0 (Ak t.size V.aU)).map vp:=by
  rw [List.take_zero,ah,List.map_replicate,List.map_const',eG];rfl
 rw [e0];refine jI (fun i s=>s=(ah ((t.nd 0).take i) 0 (Ak t.size V.aU)).map vp) rfl (fun i x s hx hs=>?_) (fun s hs=>?_)
 ·subst hs;have hi:i < t.size:=by have:=(Aj.mp hx).1;rw [cz,eG] at this;exact this
  obtain⟨y,hy,rfl⟩:=gM hx;have e:=gj t 0 i hi;rw [Ai,e] at hy;have hy:(en t 0 i).pv=y:=Option.some.inj hy;subst hy;have et:(t.nd 0).take (i+1)=(t.nd 0).take i++[en t 0 i]:=by rw [EL,e];rfl
  have ea:ah ((t.nd 0).take (i+1)) 0 (Ak t.size V.aU)=Nx (ah ((t.nd 0).take i) 0 (Ak t.size V.aU)) (0+i) (en t 0 i):=by
   rw [et,xZ,BV,t.bf];congr 1;omega
  have hal:(ah ((t.nd 0).take i) 0 (Ak t.size V.aU)).length=t.size:=by rw [GZ,A2]
  rw [ea];generalize hA:ah ((t.nd 0).take i) 0 (Ak t.size V.aU)=A at hal ⊢;unfold cY;cases en':en t 0 i with
  | word w=>simp [Ent.pv,eN,Nx]
  | pair a b=>
   obtain⟨ha,hb⟩:=fy t hi en';have s1:iX (A.map vp) (.int (a:Int)) (.int ((0+i:Nat):Int))=.ret ((A.map vp).set a (.int ((0+i:Nat):Int))):=nj (by rw [Af];omega);have s2:iX ((A.map vp).set a (.int ((0+i:Nat):Int))) (.int (b:Int)) (.int ((0+i:Nat):Int))=.ret (((A.map vp).set a (.int ((0+i:Nat):Int))).set b (.int ((0+i:Nat):Int))):=nj (by rw [BR,Af];omega);simp only [Ent.pv,xD,W.ai,lS,nY,cv,W.run_bind,An,if_false,aG,eN,W.ag,s1,s2];show _=EN vp ((A.set a _).set b _);rw [Ei,Ei];rfl
 ·subst hs;simp only [cz,Af];rw [List.take_length];simp only [W.ag,W.run_bind,tE,W.ai];exact q
def F2 (e:Ent) (j:Nat):PV:=match e with | .word x=>.str x | .pair _ _=>.int (j:Int)
def FC (t:Tr) (ds:List Int) (b:Int) (j:Nat):Bool:=decide (ds.getD j 0<=b)&&(match kr t 0 j .aU with | .int a=>decide (b < ds.getD a.toNat 0) | _=>true)
def uj (t:Tr) (ds:List Int) (b:Int) (n j:Nat):List (Nat×Nat):=((AG j).filter (FC t ds b)).map fun k=>(k,n)
def aL (t:Tr) (ds bs:List Int):Nat->List (Nat×Nat)
 | 0=>[]
 | i+1=>aL t ds bs i++uj t ds (bs.getD i 0) i t.size
def Kf (l:List (Nat×Nat)):List PV:=l.map fun p=>.tup [.int (p.1:Int),.int (p.2:Int)]
def wj (t:Tr) (ds:List Int) (b:Int) (n j:Nat):(uj t ds b n j).length<=j:=by
 unfold uj;rw [Af];refine Bj (AW _ _) ?_;rw [BO];exact Am _
theorem jv (t:Tr) (ds bs:List Int):∀i,(aL t ds bs i).length<=i*t.size
 | 0=>Bm _
 | i+1=>by
  rw [aL,Ad];have h1:=jv t ds bs i;have h2:=wj t ds (bs.getD i 0) i t.size;rw [E8];omega
def KH (t:Tr) (ds:List Int) (b:Int) (n j:Nat):uj t ds b n (j+1)=uj t ds b n j++(if FC t ds b j then [(j,n)] else []):=by
 unfold uj;rw [List.range_succ,List.filter_append,A1];congr 1;by_cases c:FC t ds b j <;> simp [c]
def qK (p:Nat×Nat):List Key:=[.inl (p.1:Int),.inl (p.2:Int)]
def zu {p q:Nat×Nat} (h:qK p=qK q):p=q:=by
 obtain⟨a,b⟩:=p;obtain⟨c,d⟩:=q;simp [qK] at h;obtain⟨h1,h2⟩:=h;exact Prod.ext (by show a=c;omega) (by show b=d;omega)
def mC:Nat->List (Nat×Nat)->List (List Key×PV)
 | _,[]=>[]
 | k,p::l=>(qK p,.int (k:Int))::mC (k+1) l
theorem lN:∀(k:Nat) (l:List (Nat×Nat)),(mC k l).map (·.1)=l.map qK
 | _,[]=>rfl
 | k,p::l=>by rw [mC,Au,Au,lN (k+1) l]
def zb (k:Nat) (l:List (Nat×Nat)):(mC k l).length=l.length:=by have:=congrArg BL (lN k l);simpa using this
theorem si:∀(k:Nat) (l:List (Nat×Nat)) (p:Nat×Nat),p∈l->lV (mC k l) (qK p)=some (.int ((k+l.idxOf p:Nat):Int))
 | k,q::l,p,h=>by
  rw [List.idxOf_cons];by_cases c:q=p
  ·subst c;simp [mC,lV]
  ·have hp:p∈l:=(Az.mp h).elim (fun z=>absurd z.symm c) id;have ih:=si (k+1) l p hp;have c2:qK q≠qK p:=fun z=>c (zu z);have c3:(q==p)=false:=by simpa using c
   have e:lV (mC k (q::l)) (qK p)=lV (mC (k+1) l) (qK p):=by simp [mC,lV,c2]
   rw [e,ih,c3];congr 2;show ((k+1+l.idxOf p:Nat):Int)=((k+(l.idxOf p+1):Nat):Int);omega
def zZ (e:Ent) (j:Nat) (d b:Int):List Nat:=if d < b then [j] else match e with | .word _=>[] | .pair x y=>[x,y]
def RC (l:List (Nat×Nat)) (j n:Nat):List Nat:=(l.filter fun p=>decide (p.2=n)&&!decide (p.1=j)).map fun p=>l.idxOf p
def Ih (e:Ent) (l:List (Nat×Nat)) (j n:Nat) (d b:Int):PV:=.tup [F2 e j,.int (n:Int),.tup (az ((zZ e j d b).map fun x=>l.idxOf (x,n-1))),.tup (az (RC l j n))]
def HF {α β:Type}{f:α->β} (hf:∀x y,f x=f y->x=y) {l:List α} (h:l.Nodup):(l.map f).Nodup:=List.Pairwise.map f (fun a b n z=>n (hf a b z)) h
def IL (t:Tr) (ds:List Int) (b:Int) (n j:Nat):(uj t ds b n j).Nodup:=by
 unfold uj;exact HF (fun x y h=>(Prod.mk.inj h).1) (List.Pairwise.filter _ List.nodup_range)
theorem gR {t:Tr}{ds bs:List Int}:∀{i:Nat}{p:Nat×Nat},p∈aL t ds bs i->p.2 < i/\p.1 < t.size
 | 0,_,h=>by simp [aL] at h
 | i+1,p,h=>by
  rw [aL] at h;rcases Bh.mp h with h | h
  ·have:=gR h;omega
  ·unfold uj at h;obtain⟨k,hk,rfl⟩:=AA.mp h;have:=AL.mp (AE.mp hk).1;exact⟨D4 _,this⟩
theorem ju (t:Tr) (ds bs:List Int):∀i,(aL t ds bs i).Nodup
 | 0=>EM
 | i+1=>by
  rw [aL];refine DQ.mpr ⟨ju t ds bs i,IL _ _ _ _ _,fun a ha b hb z=>?_⟩;subst z;have h1:=(gR ha).1;unfold uj at hb;obtain⟨k,_,rfl⟩:=AA.mp hb;exact AZ _ h1
def g8 {l:List PV}{k:Nat}{v:PV} (h:l[k]?=some v):Kg l (.int (k:Int))=.ret v:=by
 rw [bh,dW h];rfl
def zR (ds:List Int) {i:Nat}{x:PV} (h:(dQ 0 (c7 ds))[i]?=some x):i < ds.length/\x=.tup [.int (i:Int),.int (ds.getD i 0)]:=by
 have hi:i < ds.length:=by have:=(Aj.mp h).1;rw [cz,hE] at this;exact this
 obtain⟨y,hy,rfl⟩:=gM h;unfold c7 at hy;rw [Ai,Ae hi] at hy;have hy:=Option.some.inj hy;subst hy;refine⟨hi,?_⟩;rw [AQ,Aq,Ae hi];rfl
def yM (t:Tr) (ds bs:List Int) (hd:ds.length=t.size) (hz:t.size<=100) (hb:bs.length*t.size<=900) (hb2:bs.length<=900):(fi t.pv (.tup (c7 ds)) (.cl (c7 bs))).le (.ret (Kf (aL t ds bs bs.length))):=fun Q q=>by
 unfold fi;have c1:(c7 bs).length<=sizeLine:=a8 (by rw [hE];omega);have c2:(c7 ds).length<=sizeLine:=a8 (by rw [hE];omega);simp only [W.ag,W.run_bind];refine W.le.use (Fl t (by omega)) ?_;simp only [cg,W.ai,W.ar c1];refine jI (fun i s=>s=Kf (aL t ds bs i)) rfl (fun i x s hx hs=>?_) (fun s hs=>?_)
 ·subst hs;obtain⟨hi,rfl⟩:=zR bs hx;simp only [xD,W.ai,W.run_bind,aG,W.ar c2];have hl:=jv t ds bs i;have hm:i*t.size+t.size<=900:=by
   have:(i+1)*t.size<=bs.length*t.size:=Nat.mul_le_mul_right _ hi;rw [E8] at this;omega
  refine jI (fun j s=>s=Kf (aL t ds bs i++uj t ds (bs.getD i 0) i j)) (by simp [uj]) (fun j x s hx hs=>?_) (fun s hs=>?_)
  ·subst hs;obtain⟨hj,rfl⟩:=zR ds hx;have NL:=wj t ds (bs.getD i 0) i j;simp only [xD,W.ai,W.run_bind];rw [KH];have TK:j < t.size:=by omega
   have yes:FC t ds (bs.getD i 0) j=true->(j8 (Kf (aL t ds bs i++uj t ds (bs.getD i 0) i j)) (PV.tup [.int (j:Int),.int (i:Int)])).run fun s=>s=Kf (aL t ds bs i++(uj t ds (bs.getD i 0) i j++if FC t ds (bs.getD i 0) j=true then [(j,i)] else [])):=fun c=>by
    rw [hX (by unfold Kf;rw [Af,Ad];omega),if_pos c];simp only [W.ai];unfold Kf;rw [<- A5,A1 (l₂:=[(j,i)])];rfl
   have no:FC t ds (bs.getD i 0) j=false->Kf (aL t ds bs i++uj t ds (bs.getD i 0) i j)=Kf (aL t ds bs i++(uj t ds (bs.getD i 0) i j++if FC t ds (bs.getD i 0) j=true then [(j,i)] else [])):=fun c=>by rw [c];simp
   generalize eb:bs.getD i 0=b at yes no ⊢;generalize ed:ds.getD j 0=d at *;simp only [W.ag,W.run_bind,XJ,W.ai,bB,aG,g8 (Ip t TK)];by_cases c:d<=b
   ·simp only [c,decide_true,if_true,W.run_bind,W.ai];rcases rJ t 0 j .aU [] TK with⟨_,e,_⟩ | ⟨a,_,ha,e,_⟩
    ·have sb:FC t ds b j=true:=by unfold FC;rw [e,ed];simp [c]
     rw [e];simp only [vp,tG,W.ai,bB,PV.nN,if_true];exact yes sb
    ·rw [AQ] at e;have sb:FC t ds b j=decide (b < ds.getD a 0):=by unfold FC;rw [e,ed];simp [c]
     rw [e];have i2:cB (c7 ds) (a:Int)=some (.int (ds.getD a 0)):=int_at (by omega);simp only [vp,tG,W.ai,bB,PV.nN,An,if_false,bh,i2,W.aA,H9,W.ag];by_cases c2:b < ds.getD a 0
     ·rw [decide_eq_true c2] at sb ⊢;simp only [if_true];exact yes sb
     ·rw [decide_eq_false c2] at sb ⊢;simp only [An,if_false,W.ai];exact no sb
   ·have sb:FC t ds b j=false:=by unfold FC;rw [ed];simp [c]
    simp only [c,decide_false,An,if_false,W.ai];exact no sb
  ·subst hs;rw [cz,hE,hd];rfl
 ·subst hs;rw [cz,hE];exact q
def O2 {l:List (Nat×Nat)} (h:l≠[]) (k:Nat):mC k l≠[]:=by cases l with | nil=>exact absurd rfl h | cons a l=>simp [mC]
def F1 (k:Nat) (l:List (Nat×Nat)):((mC k l).map fun kv=>PV.tup (kv.1.map kP))=l.map fun p=>PV.tup [.int (p.1:Int),.int (p.2:Int)]:=by
 have:=congrArg (EN fun x:List Key=>PV.tup (x.map kP)) (lN k l);rw [A4,A4] at this;exact this
def Ob {es:List Ent}{ds bs:List Int}{l:List (Nat×Nat)}{j n:Nat}{e:Ent} (h1:es[j]?=some e) (h2:j < ds.length) (h3:n < bs.length) (hl:l.length<=1000) (h0:l≠[])
  (hb:∀x∈zZ e j (ds.getD j 0) (bs.getD n 0),1<=n/\(x,n-1)∈l) :
  (gJ (.tup (es.map Ent.pv)) (.tup (c7 ds)) (.cl (c7 bs)) (M6 (mC 0 l)) (.tup [.int (j:Int),.int (n:Int)])).le (.ret (Ih e l j n (ds.getD j 0) (bs.getD n 0))):=fun Q q=>by
 unfold gJ;have i0:cB [PV.int (j:Int),PV.int (n:Int)] 0=some (.int j):=rfl;have i1:cB [PV.int (j:Int),PV.int (n:Int)] 1=some (.int n):=rfl;have i2:cB (c7 ds) (j:Int)=some (.int (ds.getD j 0)):=int_at h2;have i3:cB (c7 bs) (n:Int)=some (.int (bs.getD n 0)):=int_at h3;have i4:cB (es.map Ent.pv) (j:Int)=some e.pv:=dW (by rw [Ai,h1];rfl);simp only [W.ag,W.run_bind,aG,cg,bh,i0,i1,i2,i3,i4,W.aA,W.ai,H9,cv];generalize hdj:ds.getD j 0=d at *;generalize hbn:bs.getD n 0=b at *;have below:∀{R:PV->Prop},R (.tup (az (zZ e j d b)))->(if decide (d < b)=true then W.ret (PV.tup [PV.int (j:Int)]) else cY e.pv).run R:=fun {R} r=>by
  unfold zZ at r;unfold cY;by_cases c:d < b
  ·rw [if_pos c] at r;simpa [c] using r
  ·rw [if_neg c] at r;cases e with
   | word w=>simpa [c,Ent.pv] using r
   | pair a b=>simpa [c,Ent.pv] using r
 refine below ?_;simp only [W.run_bind,aG,W.ai];refine nA (fun x=>.int ((l.idxOf (x,n-1):Nat):Int)) (fun k hk=>?_) ?_
 ·obtain⟨g1,g2⟩:=hb k hk;intro R r;have en1:(n:Int)-1=((n-1:Nat):Int):=by omega
  simp only [X3,W.ag,W.run_bind,tF,W.ai,en1];rw [show PV.tup [.int (k:Int),.int ((n-1:Nat):Int)]=.tup ((qK (k,n-1)).map kP) from rfl];refine Ij (si 0 l (k,n-1) g2) ?_;rw [AQ];exact r
 simp only [W.run_bind,tE,W.ai];refine Js (O2 h0 0) (by rw [zb];exact hl) ?_;rw [F1];refine w5 (fun p=>if (decide (p.2=n)&&!decide (p.1=j))=true then some (.int ((l.idxOf p:Nat):Int)) else none) (fun p hp=>?_) ?_
 ·intro R r;obtain⟨u,v⟩:=p;have j0:cB [PV.int (u:Int),PV.int (v:Int)] 0=some (.int u):=rfl;have j1:cB [PV.int (u:Int),PV.int (v:Int)] 1=some (.int v):=rfl;simp only [X3,W.ag,W.run_bind,aG,bh,j0,j1,W.aA,W.ai,eB,GJ,bB];have get:∀{R:PV->Prop},R (.int ((l.idxOf (u,v):Nat):Int))->(dgW (M6 (mC 0 l)) (PV.tup [.int (u:Int),.int (v:Int)])).run R:=fun {R} r=>by
   rw [show PV.tup [.int (u:Int),.int (v:Int)]=.tup ((qK (u,v)).map kP) from rfl];refine Ij (si 0 l (u,v) hp) ?_;rw [AQ];exact r
  by_cases c1:v=n
  ·subst c1;by_cases c2:u=j
   ·subst c2;simp only [beq_self_eq_true,D1,if_true,W.ai,An,if_false];simpa using r
   ·have c3:((u:Int)==(j:Int))=false:=by simp;omega
    simp only [beq_self_eq_true,c3,DE,if_true,W.ai,W.run_bind];refine get ?_;simpa [c2] using r
  ·have c3:((v:Int)==(n:Int))=false:=by simp;omega
   simp only [c3,An,if_false,W.ai];simpa [c1] using r
 rw [HX];have nm:∀{R:PV->Prop},R (F2 e j)->(di (.tup (es.map Ent.pv)) (.int (j:Int))).run R:=fun {R} r=>by
  unfold di;simp only [W.ag,W.run_bind,aG,bh,i4,W.aA,W.ai];cases e with
  | word w=>simpa [Ent.pv,F2] using r
  | pair a b=>simpa [Ent.pv,F2] using r
 refine nm ?_;have e1:(l.filter fun p=>decide (p.2=n)&&!decide (p.1=j)).map (fun p=>PV.int ((l.idxOf p:Nat):Int))=az (RC l j n):=by
  unfold az RC;rw [A4];rfl
 have e2:(zZ e j d b).map (fun x=>PV.int ((l.idxOf (x,n-1):Nat):Int))=az ((zZ e j d b).map fun x=>l.idxOf (x,n-1)):=by
  unfold az;rw [A4];rfl
 rw [e1,e2];exact q
def Vb (t:Tr) (ds bs:List Int):List PV:=(aL t ds bs bs.length).map fun p=>Ih (en t 0 p.1) (aL t ds bs bs.length) p.1 p.2 (ds.getD p.1 0) (bs.getD p.2 0)
def Z7 (t:Tr) (ds bs:List Int):Prop:=∀p∈aL t ds bs bs.length,∀x∈zZ (en t 0 p.1) p.1 (ds.getD p.1 0) (bs.getD p.2 0),1<=p.2/\(x,p.2-1)∈aL t ds bs bs.length
theorem sj:∀(k:Nat) (l:List (Nat×Nat)),(l.zipIdx k).map (fun p=>PV.tup [PV.tup [.int (p.1.1:Int),.int (p.1.2:Int)],.int ((p.2:Nat):Int)])=(mC k l).map HD
 | _,[]=>rfl
 | k,p::l=>by rw [List.zipIdx_cons,Au,sj (k+1) l];rfl
def aQ (t:Tr) (ds:List Int):List Int:=0::sortI (Ht t ds)
def Hs (t:Tr) (ds:List Int):(Ht t ds).length<=t.size:=by
 unfold Ht splits;rw [Af];have:=AW (fun j=>sP (en t 0 j)) (AG t.size);rw [BO] at this;exact this
def ve {x:Int}{l:List Int}:x∈sortI l↔x∈l:=(Cr l _).mem_iff
def oM (l:List Int):(sortI l).length=l.length:=(Cr l _).length_eq
def Na (t:Tr) (ds:List Int) (hd:ds.length=t.size) (hz:t.size<=25) (h0:aL t ds (aQ t ds) (aQ t ds).length≠[]) (ok:Z7 t ds (aQ t ds)):(jD t.pv (.tup (c7 ds))).le (.ret (.tup (Vb t ds (aQ t ds)))):=fun Q q=>by
 unfold jD;simp only [W.ag,W.run_bind];refine W.le.use (sk t (by omega)) ?_;have hs:=Hs t ds;have hl:(aQ t ds).length<=t.size+1:=by unfold aQ;rw [Ar,oM];omega
 have e2:wo (c7 (Ht t ds))=.ret (c7 (sortI (Ht t ds))):=by
  unfold wo c7;rw [pz];show W.gF _ _=_;rw [W.ar (by omega)]
 have e3:GO [PV.int 0] (c7 (sortI (Ht t ds)))=.ret (c7 (aQ t ds)):=by
  rw [xS (by rw [hE,oM];simp;omega)];rfl
 simp only [split_le t ds hd (by omega),W.ai,e2,e3];have hb:(aQ t ds).length*t.size<=900:=by
  have:(aQ t ds).length*t.size<=26*25:=Nat.mul_le_mul (by omega) hz;omega
 refine W.le.use (yM t ds (aQ t ds) hd (by omega) hb (by omega)) ?_;generalize hL:aL t ds (aQ t ds) (aQ t ds).length=L at *;have hLl:L.length<=900:=by rw [<- hL];exact Bj (jv _ _ _ _) hb
 have hLm:∀p∈L,p.2 < (aQ t ds).length/\p.1 < t.size:=fun p hp=>gR (hL▸hp);have c:(Kf L).length<=sizeLine:=a8 (by unfold Kf;rw [Af];omega);simp only [cg,W.ai,W.ar c,W.ag];unfold Kf;rw [MU];refine nA (fun p:(Nat×Nat)×Nat=>PV.tup [PV.tup [.int (p.1.1:Int),.int (p.1.2:Int)],.int ((p.2:Nat):Int)]) (fun p _ R r=>by simpa using r) ?_;rw [sj];refine JT ?_ (by rw [zb];omega) ?_
 ·rw [lN];exact HF (fun _ _ h=>zu h) (hL▸ju t ds _ _)
 refine nA (fun p:Nat×Nat=>Ih (en t 0 p.1) L p.1 p.2 (ds.getD p.1 0) ((aQ t ds).getD p.2 0)) (fun p hp=>?_) ?_
 ·obtain⟨g1,g2⟩:=hLm p hp;refine Ob (gj t 0 p.1 g2) (by omega) g1 (by omega) h0 fun x hx=>?_;have:=ok p (by rw [hL];exact hp) x hx;rw [hL] at this;exact this
 ·simp only [tE,W.ai];have:Vb t ds (aQ t ds)=L.map fun p:Nat×Nat=>Ih (en t 0 p.1) L p.1 p.2 (ds.getD p.1 0) ((aQ t ds).getD p.2 0):=by unfold Vb;rw [hL]
  rw [<- this];exact q
theorem ka:∀(t:Tr) (o x:Nat) (p:V),x < t.size->(x=t.size-1/\kr t o x p=p)\/∃a u v,x < a/\a < t.size/\kr t o x p=.int ((o+a:Nat):Int)/\en t o a=.pair u v/\(u=o+x\/v=o+x)
 | .leaf _,o,x,p,h=>.inl ⟨by have:x < 1:=h;show x=0;omega,rfl⟩
 | .node l r,o,x,p,h=>by
  have es:(Tr.node l r).size=l.size+r.size+1:=rfl;have lp:=l.size_pos;have rp:=r.size_pos;have top:en (.node l r) o (l.size+r.size)=.pair (o+l.size-1) (o+l.size+r.size-1):=by rw [en,if_neg (by omega),if_neg (by omega)]
  by_cases c1:x < l.size
  ·rw [show kr (.node l r) o x p=kr l o x (.int (o+l.size+r.size:Nat)) by rw [kr,if_pos c1]];rcases ka l o x (.int (o+l.size+r.size:Nat)) c1 with⟨h1,h2⟩ | ⟨a,u,v,h1,h2,h3,h4,h5⟩
   ·exact .inr ⟨l.size+r.size,_,_,by omega,by omega,by rw [h2,A7],top,.inl (by omega)⟩
   ·exact .inr ⟨a,u,v,h1,by omega,h3,by rw [en,if_pos h2];exact h4,h5⟩
  ·by_cases c2:x < l.size+r.size
   ·rw [show kr (.node l r) o x p=kr r (o+l.size) (x-l.size) (.int (o+l.size+r.size:Nat)) by rw [kr,if_neg c1,if_pos c2]];rcases ka r (o+l.size) (x-l.size) (.int (o+l.size+r.size:Nat)) (by omega) with⟨h1,h2⟩ | ⟨a,u,v,h1,h2,h3,h4,h5⟩
    ·exact .inr ⟨l.size+r.size,_,_,by omega,by omega,by rw [h2,A7],top,.inr (by omega)⟩
    ·refine .inr ⟨l.size+a,u,v,by omega,by omega,by rw [h3,A7],?_,by omega⟩;rw [en,if_neg (by omega),if_pos (by omega),CC];exact h4
   ·exact .inl ⟨by omega,by rw [kr,if_neg c1,if_neg c2]⟩
theorem tL:∀(t:Tr) (o j:Nat) (p:V) (a b:Nat),j < t.size->en t o j=.pair a b->o<=a/\o<=b/\a < o+j/\b < o+j/\a < b/\kr t o (a-o) p=.int ((o+j:Nat):Int)/\kr t o (b-o) p=.int ((o+j:Nat):Int)
 | .leaf _,o,j,p,a,b,h,e=>by rw [en] at e;cases e
 | .node l r,o,j,p,a,b,h,e=>by
  have es:(Tr.node l r).size=l.size+r.size+1:=rfl;have lp:=l.size_pos;have rp:=r.size_pos;by_cases c1:j < l.size
  ·rw [en,if_pos c1] at e;obtain⟨h1,h2,h3,h4,h5,h6,h7⟩:=tL l o j (.int (o+l.size+r.size:Nat)) a b c1 e;refine⟨h1,h2,h3,h4,h5,?_,?_⟩
   ·rw [kr,if_pos (by omega)];exact h6
   ·rw [kr,if_pos (by omega)];exact h7
  ·by_cases c2:j < l.size+r.size
   ·rw [en,if_neg c1,if_pos c2] at e;obtain⟨h1,h2,h3,h4,h5,h6,h7⟩:=tL r (o+l.size) (j-l.size) (.int (o+l.size+r.size:Nat)) a b (by omega) e;refine⟨by omega,by omega,by omega,by omega,h5,?_,?_⟩
    ·rw [kr,if_neg (by omega),if_pos (by omega),EK,h6,show o+l.size+(j-l.size)=o+j by omega]
    ·rw [kr,if_neg (by omega),if_pos (by omega),EK,h7,show o+l.size+(j-l.size)=o+j by omega]
   ·rw [en,if_neg c1,if_neg c2] at e;injection e with e1 e2;subst e1;subst e2;have hj:j=l.size+r.size:=by omega
    subst hj;have root:∀(t:Tr) (o:Nat) (p:V),kr t o (t.size-1) p=p:=fun t o p=>by
     have tp:=t.size_pos;rcases ka t o (t.size-1) p (by omega) with⟨_,h⟩ | ⟨a,_,_,h1,h2,_⟩
     ·exact h
     ·omega
    refine⟨by omega,by omega,by omega,by omega,by omega,?_,?_⟩
    ·rw [kr,if_pos (by omega),show o+l.size-1-o=l.size-1 by omega,root,A7]
    ·rw [kr,if_neg (by omega),if_pos (by omega),show o+l.size+r.size-1-o-l.size=r.size-1 by omega,root,A7]
structure DD (t:Tr) (ds:List Int):Prop where
 len:ds.length=t.size
 leaf:∀j w,j < t.size->en t 0 j=.word w->ds.getD j 0=0
 pair:∀j a b,j < t.size->en t 0 j=.pair a b->ds.getD a 0 < ds.getD j 0/\ds.getD b 0 < ds.getD j 0/\1<=ds.getD j 0
 nd:(Ht t ds).Nodup
def DD.of {t:Tr}{ds:List Int} (h:Px t ds=true):DD t ds:=by
 unfold Px at h;rw [AD,AD,decide_eq_true_iff,decide_eq_true_iff] at h;obtain⟨h1,h2,h3⟩:=h;have h4:∀j,j < t.size->Wz t ds j=true:=fun j hj=>Eb.mp h3 j (AL.mpr hj);refine⟨h1,fun j w hj e=>?_,fun j a b hj e=>?_,h2⟩
 ·have:=h4 j hj;unfold Wz at this;rw [e] at this;exact eq_of_beq this
 ·have:=h4 j hj;unfold Wz at this;rw [e] at this;have this:(decide (ds.getD a 0 < ds.getD j 0)&&decide (ds.getD b 0 < ds.getD j 0)&&decide (1<=ds.getD j 0)&&decide (ds.getD j 0<=99))=true:=this;rw [AD,AD,AD,decide_eq_true_iff,decide_eq_true_iff,decide_eq_true_iff,decide_eq_true_iff] at this;exact⟨this.1.1.1,this.1.1.2,this.1.2⟩
def DD.mem {t:Tr}{ds:List Int} (D:DD t ds) {j:Nat} (hj:j < t.size):ds.getD j 0∈aQ t ds:=by
 unfold aQ;cases e:en t 0 j with
 | word w=>rw [D.leaf j w hj e];exact .head _
 | pair a b=>
  refine AU _ (ve.mpr ?_);unfold Ht splits;exact AA.mpr ⟨j,AE.mpr ⟨AL.mpr hj,by rw [e];rfl⟩,rfl⟩
def KI (l:List Int):(sortI l).Pairwise (·<=·):=(D5 (le:=fun a b=>decide (a<=b)) (fun a b c=>by simp;omega) (fun a b=>by simp;omega) l).imp (by simp)
def DD.inc {t:Tr}{ds:List Int} (D:DD t ds):(aQ t ds).Pairwise (· < ·):=by
 unfold aQ;refine DB.mpr ⟨fun x hx=>?_,?_⟩
 ·have hx:=ve.mp hx;unfold Ht splits at hx;obtain⟨j,hj,rfl⟩:=AA.mp hx;obtain⟨h1,h2⟩:=AE.mp hj;cases e:en t 0 j with
  | word w=>rw [e] at h2;cases h2
  | pair a b=>have:=(D.pair j a b (AL.mp h1) e).2.2;omega
 ·have nd:(sortI (Ht t ds)).Nodup:=(Cr _ _).nodup_iff.mpr D.nd;exact (List.Pairwise.and (KI _) nd).imp fun ⟨h1,h2⟩=>Int.lt_iff_le_and_ne.mpr ⟨h1,h2⟩
def sT {l:List Int} (h:l.Pairwise (· < ·)) {n:Nat} (hn:n < l.length) {x:Int} (hx:x∈l) (lt:x < l.getD n 0):1<=n/\x<=l.getD (n-1) 0:=by
 obtain⟨i,hi,rfl⟩:=EX hx;have gd:∀{k} (hk:k < l.length),l.getD k 0=l[k]:=fun {k} hk=>by rw [Aq,Ae hk];rfl
 rw [gd hn] at lt;have c:i < n:=by
  rcases CK i n with c | c
  ·exact c
  ·rcases DA c with c | c
   ·subst c;omega
   ·have:=BF.mp h _ _ hn hi c;omega
 refine⟨by omega,?_⟩;rw [gd (by omega)];rcases DA (show i<=n-1 by omega) with c2 | c2
 ·subst c2;exact C7 _
 ·have:=BF.mp h _ _ hi (by omega) c2;omega
def xj {l:List Int} (h:l.Pairwise (· < ·)) {i n:Nat} (hn:n < l.length) (hi:i < n):l.getD i 0 < l.getD n 0:=by
 have gd:∀{k} (hk:k < l.length),l.getD k 0=l[k]:=fun {k} hk=>by rw [Aq,Ae hk];rfl
 rw [gd hn,gd (by omega)];exact BF.mp h _ _ (by omega) hn hi
theorem ck {t:Tr}{ds bs:List Int}:∀{m:Nat}{j n:Nat},(j,n)∈aL t ds bs m↔n < m/\j < t.size/\FC t ds (bs.getD n 0) j=true
 | 0,j,n=>by simp [aL]
 | m+1,j,n=>by
  rw [aL,Bh,ck];unfold uj;rw [AA]
  constructor
  ·rintro (⟨h1,h2,h3⟩ | ⟨k,hk,e⟩)
   ·exact⟨by omega,h2,h3⟩
   ·obtain⟨h1,h2⟩:=AE.mp hk;injection e with e1 e2;subst e1;subst e2;exact⟨by omega,AL.mp h1,h2⟩
  ·rintro⟨h1,h2,h3⟩;by_cases c:n=m
   ·subst c;exact .inr ⟨j,AE.mpr ⟨AL.mpr h2,h3⟩,rfl⟩
   ·exact .inl ⟨by omega,h2,h3⟩
def gs {t:Tr}{ds:List Int}{b:Int}{j:Nat} (hj:j < t.size):FC t ds b j=true↔ds.getD j 0<=b/\∀a,kr t 0 j .aU=.int ((a:Nat):Int)->b < ds.getD a 0:=by
 unfold FC;rw [AD,decide_eq_true_iff];rcases ka t 0 j .aU hj with⟨_,e⟩ | ⟨a,u,v,_,ha,e,_,_⟩
 ·rw [e];exact⟨fun h=>⟨h.1,fun a z=>by cases z⟩,fun h=>⟨h.1,rfl⟩⟩
 ·rw [AQ] at e;rw [e];refine⟨fun h=>⟨h.1,fun a' z=>?_⟩,fun h=>⟨h.1,?_⟩⟩
  ·injection z with z;have:a=a':=by omega
   subst this;simpa using h.2
  ·simpa using h.2 a rfl
def DD.ok {t:Tr}{ds:List Int} (D:DD t ds):Z7 t ds (aQ t ds):=by
 rintro⟨j,n⟩ hp x hx;obtain⟨hn,hj,hs⟩:=ck.mp hp;obtain⟨zE,rh⟩:=(gs hj).mp hs;have inc:=D.inc;show 1<=n/\(x,n-1)∈_;unfold zZ at hx;by_cases c:ds.getD j 0 < (aQ t ds).getD n 0
 ·rw [if_pos c] at hx;have:x=j:=by simpa using hx
  subst this;obtain⟨g1,g2⟩:=sT inc hn (D.mem hj) c;have lt:=xj inc hn (show n-1 < n by omega);exact⟨g1,ck.mpr ⟨by omega,hj,(gs hj).mpr ⟨g2,fun a e=>by have:=rh a e;omega⟩⟩⟩
 ·rw [if_neg c] at hx;cases e:en t 0 j with
  | word w=>rw [e] at hx;cases hx
  | pair a b=>
   rw [e] at hx;obtain⟨p1,p2,p3⟩:=D.pair j a b hj e;obtain⟨_,_,a1,a2,_,a3,a4⟩:=tL t 0 j .aU a b hj e;rw [AQ,Eh] at *;have hx:x=a\/x=b:=by simpa using hx
   have eq:ds.getD j 0=(aQ t ds).getD n 0:=by omega
   have key:x < t.size/\ds.getD x 0 < ds.getD j 0/\kr t 0 x .aU=.int ((j:Nat):Int):=by
    rcases hx with rfl | rfl
    ·exact⟨by omega,p1,a3⟩
    ·exact⟨by omega,p2,a4⟩
   obtain⟨k1,k2,k3⟩:=key;obtain⟨g1,g2⟩:=sT inc hn (D.mem k1) (by omega);have lt:=xj inc hn (show n-1 < n by omega);refine⟨g1,ck.mpr ⟨by omega,k1,(gs k1).mpr ⟨g2,fun a' e'=>?_⟩⟩⟩;rw [k3] at e';injection e' with e';have:j=a':=by omega
   subst this;omega
theorem xI:∀(t:Tr) (o:Nat),∃w,en t o 0=.word w
 | .leaf w,o=>⟨w,rfl⟩
 | .node l r,o=>by rw [en,if_pos (show 0 < l.size from l.size_pos)];exact xI l o
def DD.ne {t:Tr}{ds:List Int} (D:DD t ds):aL t ds (aQ t ds) (aQ t ds).length≠[]:=by
 intro z;have:(0,0)∈aL t ds (aQ t ds) (aQ t ds).length:=by
  obtain⟨w,e⟩:=xI t 0;refine ck.mpr ⟨by simp [aQ],t.size_pos,(gs t.size_pos).mpr ⟨?_,fun a ea=>?_⟩⟩
  ·rw [D.leaf 0 w t.size_pos e];exact C7 _
  ·rcases ka t 0 0 .aU t.size_pos with⟨_,e⟩ | ⟨a',u,v,_,ha,e,ep,_⟩
   ·rw [e] at ea;cases ea
   ·rw [e,AQ] at ea;injection ea with ea;have:a'=a:=by omega
    subst this;have:=(D.pair a' u v ha ep).2.2;show (0:Int) < _;omega
 rw [z] at this;cases this
def M9 {t:Tr}{ds:List Int} (D:DD t ds) (hz:t.size<=25):(jD t.pv (.tup (c7 ds))).le (.ret (.tup (Vb t ds (aQ t ds)))):=Na t ds D.len hz D.ne D.ok
def QR (t:Tr):List PV:=(AG t.size).map fun j=>.tup (az (up t 0 j []))
@[simp] theorem NZ (t:Tr):(QR t).length=t.size:=by unfold QR;simp
def He (t:Tr) {j:Nat} (h:j < t.size):(QR t)[j]?=some (.tup (az (up t 0 j []))):=by unfold QR;simp [h]
def RN (t:Tr):∀(k j:Nat),j+k+1=t.size->(up t 0 j []).length<=k+1:=fun k=>by
 induction k using Eu with
 | ind k ih=>
  intro j hj;rcases rJ t 0 j .aU [] (by omega) with⟨q1,q2,q3⟩ | ⟨a,q1,q2,q3,q4⟩
  ·rw [q3];show 1<=k+1;omega
  ·rw [q4,Ar];have:=ih (t.size-a-1) (by omega) a (by omega);omega
def QQ (t:Tr) {j:Nat} (h:j < t.size):(up t 0 j []).length<=t.size:=by
 have:=RN t (t.size-j-1) j (by omega);omega
def FA (t:Tr) (i:Nat):List PV:=(AG t.size).map fun j=>if j+i < t.size then .tup [] else .tup (az (up t 0 j []))
def qS (t:Tr) (i:Nat):(FA t i).length=t.size:=by unfold FA;simp
def Hd (t:Tr) (i:Nat) {j:Nat} (h:j < t.size) (c:¬j+i < t.size):(FA t i)[j]?=some (.tup (az (up t 0 j []))):=by unfold FA;simp [h,c]
def NX (t:Tr) (i j:Nat) (h:j+i+1=t.size):(FA t i).set j (.tup (az (up t 0 j [])))=FA t (i+1):=by
 apply BB;intro k;by_cases hk:k < t.size
 ·by_cases e:j=k
  ·subst e;rw [BA (by rw [qS];exact hk),Hd t (i+1) hk (by omega)]
  ·rw [Bp e];unfold FA;simp only [Ai,BU hk,Cg];by_cases c:k+i < t.size
   ·rw [if_pos c,if_pos (by omega)]
   ·rw [if_neg c,if_neg (by omega)]
 ·rw [AN (by rw [BR,qS];omega),AN (by rw [qS];omega)]
def Vt (t:Tr):FA t 0=Ak t.size (.tup []):=by
 apply BB;intro k;unfold FA;by_cases hk:k < t.size
 ·simp [hk]
 ·simp [hk]
def NY (t:Tr):FA t t.size=QR t:=by
 unfold FA QR;apply EU;intro j _;rw [if_neg (by omega)]
def LS (t:Tr) (hz:t.size<=900):(fm t.pv).le (.ret (QR t)):=fun Q q=>by
 have sp:=t.size_pos;unfold fm;simp only [W.ag,W.run_bind];refine W.le.use (Fl t hz) ?_;simp only [aG,W.ai];refine LP (fun _=>.tup []) (fun x hx=>rfl) ?_;have e0:(Ve t).map (fun _=>PV.tup [])=FA t 0:=by rw [List.map_const',Io,Vt]
 have en:(((t.size:Nat):Int)-1 - -1).toNat=t.size:=by omega
 rw [e0];simp only [dU,Io,W.ag,tF,W.ai,mM,P5,en];refine⟨⟨trivial,cx (by omega) (by omega)⟩,?_⟩;show (eN _ _ _).run _;refine jI (fun i s=>s=FA t i) rfl (fun i x s hx hs=>?_) (fun s hs=>?_)
 ·subst hs;obtain⟨hi,rfl⟩:=vE hx;obtain⟨j,hj⟩:∃j:Nat,j=t.size-1-i:=⟨_,rfl⟩;have ej:(((t.size:Nat):Int)-1-(i:Int))=(j:Int):=by omega
  rw [ej];have TK:j < t.size:=by omega
  have ul:=QQ t TK;have fin:∀l:List PV,l.length<=900->.int (j:Int)::l=az (up t 0 j [])->(W.bind (addW (.tup [.int (j:Int)]) (.tup l)) fun x=>iX (FA t i) (.int (j:Int)) x).run fun s=>s=FA t (i+1):=fun l hl he=>by
   rw [Ia,W.ar (a8 (by simp;omega))];show (iX _ _ (.tup (.int (j:Int)::l))).run _;rw [he,nj (by rw [qS];exact TK),NX t i j (by omega)];rfl
  simp only [W.ag,W.run_bind,g8 (Ip t TK),W.ai];rcases rJ t 0 j .aU [] TK with⟨_,e,e2⟩ | ⟨a,ha1,ha,e,e2⟩
  ·rw [e];simp only [vp,tG,PV.nN,bB,W.ai,if_true];have:=fin [] (by simp) (by rw [e2,AQ];rfl);simpa using this
  ·rw [AQ] at e;rw [e];have i2:Kg (FA t i) (.int (a:Int))=.ret (.tup (az (up t 0 a []))):=g8 (Hd t i ha (by omega));simp only [vp,tG,PV.nN,bB,W.ai,An,if_false,i2,W.ag];have ua:=QQ t ha;have:=fin (az (up t 0 a [])) (by rw [dJ];omega) (by rw [e2];simp);simpa using this
 ·subst hs;have el:(p0 (((t.size:Nat):Int)-1) t.size).length=t.size:=by unfold p0;simp
  rw [el,NY];exact q
def Vd (t:Tr) (j:Nat):List Nat:=(AG t.size).filter fun k=>!decide (k∈up t 0 j [])&&!decide (j∈up t 0 k [])
def Nu (t:Tr) (hz:t.size<=900) {j:Nat} (hj:j < t.size):(dj (.cl (QR t)) (.int (j:Int))).le (.ret (.tup (az (Vd t j)))):=fun Q q=>by
 unfold dj;simp only [W.ag,W.run_bind,gD,NZ,fK,W.ar (cx (i:=0) (j:=(t.size:Int)) (by omega) (by omega)),W.ai,AO,pA];refine sJ (fun k=>!decide (k∈up t 0 j [])&&!decide (j∈up t 0 k [])) (fun k hk=>?_) q;have hk:=AL.mp hk;simp only [W.ag,cg,g8 (He t hj),g8 (He t hk),aG,Md,if_true];by_cases c1:k∈up t 0 j []
 ·simp [c1]
 ·by_cases c2:j∈up t 0 k []
  ·simp [c1,c2]
  ·simp [c1,c2]
def NJ:Ent->List Nat
 | .word _=>[]
 | .pair a b=>[a,b]
def JI (e:Ent):cY e.pv=.ret (.tup (az (NJ e))):=by
 unfold cY;cases e with
 | word w=>simp [Ent.pv,NJ]
 | pair a b=>simp [Ent.pv,NJ]
def O4 {es:List Ent}{j:Nat}{e:Ent} (h:es[j]?=some e):di (.tup (es.map Ent.pv)) (.int (j:Int))=.ret (F2 e j):=by
 have i1:Kg (es.map Ent.pv) (.int (j:Int))=.ret e.pv:=g8 (by rw [Ai,h];rfl);unfold di;cases e with
 | word w=>simp only [W.ag,aG,i1];rfl
 | pair a b=>simp only [W.ag,aG,i1];rfl
def grS (t:Tr) (j:Nat):PV:=.tup [F2 (en t 0 j) j,.int 0,.tup (az (NJ (en t 0 j))),.tup (az (Vd t j))]
def grL (t:Tr):List PV:=(AG t.size).map (grS t)
def JJ (t:Tr) (hz:t.size<=900):(jb t.pv).le (.ret (.tup (grL t))):=fun Q q=>by
 unfold jb;simp only [W.ag,W.run_bind];refine W.le.use (sk t hz) ?_;refine W.le.use (LS t hz) ?_;simp only [dU,eG,W.ai,fK,W.ar (cx (i:=0) (j:=(t.size:Int)) (by omega) (by omega)),AO,pA];unfold az;refine nA (grS t) (fun j hj R r=>?_) q;have hj:=AL.mp hj;have i1:Kg ((t.nd 0).map Ent.pv) (.int (j:Int))=.ret (en t 0 j).pv:=g8 (by rw [Ai,gj t 0 j hj];rfl);simp only [O4 (gj t 0 j hj),W.ag,aG,i1,JI,W.run_bind,W.ai];exact W.le.use (Nu t hz hj) r
structure Sy where
 nm:PV
 lv:Nat
 un:List Nat
 be:List Nat
def Sy.pv (s:Sy):PV:=.tup [s.nm,.int (s.lv:Int),.tup (az s.un),.tup (az s.be)]
def pC (g:List Sy):PV:=.tup (g.map Sy.pv)
def sy (g:List Sy) (i:Nat):Sy:=g.getD i ⟨.aU,0,[],[]⟩
def KD {g:List Sy}{i:Nat} (h:i < g.length):g[i]?=some (sy g i):=by
 unfold sy;rw [Aq,Ae h];rfl
def Mv {g:List Sy}{i:Nat} (h:i < g.length):Kg (g.map Sy.pv) (.int (i:Int))=.ret (sy g i).pv:=g8 (by rw [Ai,KD h];rfl)
def Gv (w:Str):PV->Bool
 | .str s=>s==w
 | _=>false
def hm (g:List Sy) (i:Nat) (w:Str):Bool:=(sy g i).un.isEmpty&&Gv w (sy g i).nm
inductive NA (g:List Sy):Nat->Nat->Prop
 | refl (i):NA g i i
 | step {i u j}:u∈(sy g i).un->NA g u j->NA g i j
structure WG (g:List Sy) (ws:List Str):Prop where
 pos:0 < g.length
 len:g.length<=300
 dn:∀i,i < g.length->∀u∈(sy g i).un,u < i
 yq:∀i,i < g.length->(sy g i).un.length<=2
 be:∀i,i < g.length->∀u∈(sy g i).be,u < g.length
 Yd:∀i,i < g.length->(sy g i).be.length<=30
 nm:∀i,i < g.length->(∃s,(sy g i).nm=.str s)\/∃n,(sy g i).nm=.int n
 aax:∀w∈ws,∃i,i < g.length/\NA g (g.length-1) i/\hm g i w=true
def Kw {g:List Sy}{i:Nat} (h:i < g.length):mF (pC g) (.int (i:Int))=.ret (.tup (az (sy g i).un)):=by
 unfold mF pC;simp only [W.ag,aG,Mv h];rfl
def eq_nil (l:List Nat) (h:l.length<=1000):of2 eM (.tup (az l)) (.tup [])=.ret (.bl l.isEmpty):=by
 have fk:fx (az l)=true:=k7.mpr fun x hx=>by
  obtain⟨n,_,rfl⟩:=AA.mp hx;simp
 have fd:dD (az l)<=1:=lh fun x hx=>by
  obtain⟨n,_,rfl⟩:=AA.mp hx;simp
 rw [tH,W.ar ⟨by simp [fk],by simp,by simp;omega⟩];cases l with
 | nil=>simp
 | cons a l=>simp [gC]
def Rr {x:PV} (h:(∃s,x=.str s)\/∃n,x=.int n) (w:Str):of2 eM x (.str w)=.ret (.bl (Gv w x)):=by
 rcases h with⟨s,rfl⟩ | ⟨n,rfl⟩
 ·rw [tH,W.ar ⟨by simp,by simp,by simp⟩,HY];rfl
 ·rw [tH,W.ar ⟨by simp,by simp,by simp⟩];simp [de,Gv]
def YV {g:List Sy}{ws:List Str} (G:WG g ws) {i:Nat} (h:i < g.length) (w:Str):vf (pC g) (.int (i:Int)) (.str w)=.ret (.bl (hm g i w)):=by
 unfold vf;have l2:=G.yq i h;have i0:cB [(sy g i).nm,PV.int ((sy g i).lv:Int),.tup (az (sy g i).un),.tup (az (sy g i).be)] 0=some (sy g i).nm:=rfl;simp only [W.ag,Kw h,eq_nil _ (show (sy g i).un.length<=1000 by omega)];unfold pC hm;cases e:(sy g i).un.isEmpty with
 | false=>simp
 | true=>simp only [n5,aG,W.ag,Mv h,Sy.pv,bh,i0,W.aA,Rr (G.nm i h) w,E1]
abbrev Dd:=Str×Nat×Nat
def d3 (d:Dd):PV:=.tup [.str d.1,.int (d.2.1:Int),.int (d.2.2:Int)]
abbrev dbl (i:Nat):Dd:=("doubled",i,i)
abbrev Z4 (i o:Nat):List Dd:=[("over",i,o),("over",o,i)]
def NG:List Nat->List Dd
 | [a,b]=>[("split",a,b),("split",b,a)]
 | _=>[]
def M8 (g:List Sy) (i:Nat):List Dd:=dbl i::(NG (sy g i).un++(sy g i).be.flatMap (Z4 i))
theorem tD (i:Nat):∀l:List Nat,(l.flatMap (Z4 i)).length=2*l.length
 | []=>rfl
 | a::l=>by rw [List.flatMap_cons,Ad,tD i l];simp;omega
def Ho (l:List Nat):(NG l).length<=2:=by unfold NG;split <;> simp
def Qk {g:List Sy}{ws:List Str} (G:WG g ws) {i:Nat} (h:i < g.length):(M8 g i).length<=63:=by
 unfold M8;rw [Ar,Ad,tD];have:=Ho (sy g i).un;have:=G.Yd i h;omega
def M7 {g:List Sy}{ws:List Str} (G:WG g ws) {i:Nat} (h:i < g.length) {d:Dd} (hd:d∈M8 g i):d.2.1 < g.length/\d.2.2 < g.length:=by
 unfold M8 at hd;rcases Az.mp hd with rfl | hd
 ·exact⟨h,h⟩
 rcases Bh.mp hd with hd | hd
 ·have hu:=G.dn i h;revert hu hd;generalize (sy g i).un=l;intro hd hu
  match l with
  | [a,b]=>
   have h1:=hu a (by simp);have h2:=hu b (by simp);simp [NG] at hd;rcases hd with rfl | rfl
   ·exact⟨by show a < _;omega,by show b < _;omega⟩
   ·exact⟨by show b < _;omega,by show a < _;omega⟩
  | []=>simp [NG] at hd
  | [_]=>simp [NG] at hd
  | _::_::_::_=>simp [NG] at hd
 ·obtain⟨o,ho,hd⟩:=List.mem_flatMap.mp hd;have:=G.be i h o ho;simp at hd;rcases hd with rfl | rfl
  ·exact⟨h,this⟩
  ·exact⟨this,h⟩
def Jr {g:List Sy}{ws:List Str} (G:WG g ws) {i:Nat} (h:i < g.length):(dq (pC g) (.int (i:Int))).le (.ret ((M8 g i).map d3)):=fun Q q=>by
 unfold dq pC;have l1:=Ho (sy g i).un;have l3:=G.Yd i h;have i0:∀a b:Nat,cB [PV.int (a:Int),PV.int (b:Int)] 0=some (.int (a:Int)):=fun _ _=>rfl;have i1:∀a b:Nat,cB [PV.int (a:Int),PV.int (b:Int)] 1=some (.int (b:Int)):=fun _ _=>rfl;simp only [W.ag,W.run_bind,aG,Mv h,W.ai,Sy.pv,MH,dU,dJ,eB,bB];have fin:∀s:List PV,s=(dbl i::NG (sy g i).un).map d3->(eN (az (sy g i).be) s fun i6 Oj=>W.bind (xC Oj [.tup [.str "over",.int (i:Int),i6],.tup [.str "over",i6,.int (i:Int)]]) fun nW=>W.ret nW).run Q:=fun s hs=>by
  refine jI (fun k s=>s=(dbl i::(NG (sy g i).un++((sy g i).be.take k).flatMap (Z4 i))).map d3) (by rw [hs];simp) (fun k x s hx hs=>?_) (fun s hs=>?_)
  ·subst hs;unfold az at hx;rw [Ai] at hx;cases eo:(sy g i).be[k]? with
   | none=>rw [eo] at hx;cases hx
   | some o=>
   rw [eo] at hx;have ex:PV.int (o:Int)=x:=Option.some.inj hx;subst ex;have et:(sy g i).be.take (k+1)=(sy g i).be.take k++[o]:=by rw [EL,eo];rfl
   have lk:((sy g i).be.take k).length<=30:=by rw [BV];omega
   unfold xC;rw [W.ar (a8 (by simp only [Af,Ar,Ad,tD];simp;omega))];simp only [W.ag,W.ai];rw [et,EY];simp [d3]
  ·subst hs;rw [dJ,List.take_length];exact q
 have hu:=G.yq i h;revert fin hu;generalize (sy g i).un=l;intro fin hu
 match l,hu with
 | [],_=>
  simp only [BD];exact fin _ rfl
 | [a],_=>
  simp only [Ar,BD];exact fin _ rfl
 | [a,b],_=>
  simp only [Jl,LM,bh,i0,i1,W.aA,W.ag,W.run_bind,W.ai,Ar,BD];refine⟨a8 (by simp),?_⟩;exact fin _ rfl
def uv (F:List (List Bool)):List PV:=F.map fun r=>.cl (r.map PV.bl)
def fa (F:List (List Bool)) (j i:Nat):Bool:=(F.getD j []).getD i false
structure FW (g:List Sy) (F:List (List Bool)) (n:Nat):Prop where
 len:n<=F.length
 row:∀j,j < n->(F.getD j []).length=g.length
def v5 {g:List Sy}{F:List (List Bool)}{n j i:Nat} (fw:FW g F n) (hj:j < n) (hi:i < g.length):(ba (W.bind (ba (W.ret (uv F)) (W.ret (.int (j:Int)))) aw) (W.ret (.int (i:Int))))=.ret (.bl (fa F j i)):=by
 have NM:j < F.length:=Aw hj fw.len;have e1:F[j]?=some (F.getD j []):=by rw [Aq,Ae NM];rfl
 have i1:Kg (uv F) (.int (j:Int))=.ret (.cl ((F.getD j []).map PV.bl)):=g8 (by unfold uv;rw [Ai,e1];rfl);have hl:=fw.row j hj;have e2:(F.getD j [])[i]?=some (fa F j i):=by unfold fa;generalize F.getD j []=r at hl;rw [Aq,Ae (by omega)];rfl
 have i2:Kg ((F.getD j []).map PV.bl) (.int (i:Int))=.ret (.bl (fa F j i)):=g8 (by rw [Ai,e2];rfl);simp only [W.ag,i1,cg,i2]
def lD (g:List Sy) (F:List (List Bool)) (e:Ent) (i:Nat):List Dd:=match e with
 | .word w=>if hm g i w=true then [("found",i,i)] else []
 | .pair a b=>(M8 g i).filter fun d=>fa F a d.2.1&&fa F b d.2.2
def qh (n:Nat):Ent->Prop
 | .word _=>True
 | .pair a b=>a < n/\b < n
def kQ {g:List Sy}{ws:List Str} (G:WG g ws) {F:List (List Bool)}{es:List Ent}{j i n:Nat}{e:Ent} (he:es[j]?=some e) (hi:i < g.length) (fw:FW g F n) (hn:qh n e) :
  (bM (pC g) (.cl (es.map Ent.pv)) (.cl (uv F)) (.int (j:Int)) (.int (i:Int))).le (.ret ((lD g F e i).map d3)):=fun Q q=>by
 unfold bM;have ie:Kg (es.map Ent.pv) (.int (j:Int))=.ret e.pv:=g8 (by rw [Ai,he];rfl);simp only [W.ag,W.run_bind,cg,ie,W.ai];cases e with
 | word w=>
  have l2:=G.yq i hi;have i0:cB [(sy g i).nm,PV.int ((sy g i).lv:Int),.tup (az (sy g i).un),.tup (az (sy g i).be)] 0=some (sy g i).nm:=rfl;have i2:cB [(sy g i).nm,PV.int ((sy g i).lv:Int),.tup (az (sy g i).un),.tup (az (sy g i).be)] 2=some (.tup (az (sy g i).un)):=rfl;have fin:∀b:Bool,hm g i w=b->(yR [PV.tup [.str "found",.int (i:Int),.int (i:Int)]] (.int (if b then 1 else 0))).run Q:=fun b hb=>by
   have q:Q ((if hm g i w=true then [(("found",i,i):Dd)] else []).map d3):=q;rw [hb] at q;cases b with
   | true=>
    rw [xE];exact⟨⟨by decide,by decide,a8 (by simp)⟩,q⟩
   | false=>
    rw [xE];exact⟨⟨by decide,by decide,a8 (by simp)⟩,q⟩
  simp only [Ent.pv,rq,rm,cv,W.ai,if_true,pC,aG,W.ag,Mv hi,Sy.pv,bh,i0,i2,W.aA,W.run_bind,eq_nil _ (show (sy g i).un.length<=1000 by omega),Rr (G.nm i hi) w];cases c:(sy g i).un.isEmpty with
  | false=>
   simp only [Qf,W.ai,nZ];exact fin false (by unfold hm;rw [c];rfl)
  | true=>
   simp only [n5,W.ai,nZ];exact fin _ (by unfold hm;rw [c];rfl)
 | pair a b=>
  obtain⟨ha,hb⟩:=hn;have j0:cB [PV.int (a:Int),PV.int (b:Int)] 0=some (.int a):=rfl;have j1:cB [PV.int (a:Int),PV.int (b:Int)] 1=some (.int b):=rfl;simp only [Ent.pv,lS,nY,cv,W.ai,An,if_false,aG,bh,j0,j1,W.aA,W.ag,W.run_bind];refine W.le.use (Jr G hi) ?_;refine w5 (fun d:Dd=>if (fa F a d.2.1&&fa F b d.2.2)=true then some (d3 d) else none) (fun d hd R r=>?_) ?_
  ·obtain⟨h1,h2⟩:=M7 G hi hd;have k1:cB [PV.str d.1,PV.int (d.2.1:Int),PV.int (d.2.2:Int)] 1=some (.int (d.2.1:Int)):=rfl;have k2:cB [PV.str d.1,PV.int (d.2.1:Int),PV.int (d.2.2:Int)] 2=some (.int (d.2.2:Int)):=rfl;have t1:=v5 fw ha h1;have t2:=v5 fw hb h2;simp only [W.ag,bh] at t1 t2;simp only [d3,aG,W.ag,bh,k1,k2,W.aA,t1,t2,cv];cases c1:fa F a d.2.1 with
   | false=>simpa [c1] using r
   | true=>
    cases c2:fa F b d.2.2 with
    | false=>simpa [c1,c2] using r
    | true=>simpa [c1,c2,d3] using r
  ·rw [HX];exact q
def iI (g:List Sy) (f:Nat->Bool):Nat->List Bool
 | 0=>[]
 | k+1=>iI g f k++[(sy g k).un.any (fun l=>(iI g f k).getD l false)||f k]
@[simp] theorem iH (g:List Sy) (f:Nat->Bool):∀k,(iI g f k).length=k
 | 0=>rfl
 | k+1=>by rw [iI,Ad,iH g f k];rfl
def jg {α:Type}{l m:List α}{i:Nat}{d:α} (h:i < l.length):(l++m).getD i d=l.getD i d:=by
 rw [Aq,Ay h,<- Aq]
def lR {α:Type}{l m:List α}{i:Nat}{d:α} (h:l.length<=i):(l++m).getD i d=m.getD (i-l.length) d:=by
 rw [Aq,Ax h,<- Aq]
theorem wy (g:List Sy) (f:Nat->Bool) {i:Nat}:∀{k:Nat},i < k->(iI g f k).getD i false=(iI g f (i+1)).getD i false
 | 0,h=>by omega
 | k+1,h=>by
  by_cases c:i=k
  ·subst c;rfl
  ·rw [iI,jg (by rw [iH];omega)];exact wy g f (by omega)
def VX (g:List Sy) (f:Nat->Bool) (dn:∀i,i < g.length->∀u∈(sy g i).un,u < i) {i:Nat} (h:i < g.length):(iI g f g.length).getD i false=((sy g i).un.any (fun l=>(iI g f g.length).getD l false)||f i):=by
 rw [wy g f h,iI,lR (by rw [iH];exact Am _),iH,B8];show (_||_)=_;congr 1;rw [Bool.eq_iff_iff,BW,BW];have key:∀l∈(sy g i).un,(iI g f i).getD l false=(iI g f g.length).getD l false:=fun l hl=>by
  have:=dn i h l hl;rw [wy g f this,wy g f (show l < g.length by omega)]
 exact⟨fun ⟨l,h1,h2⟩=>⟨l,h1,by rw [<- key l h1];exact h2⟩,fun ⟨l,h1,h2⟩=>⟨l,h1,by rw [key l h1];exact h2⟩⟩
def FE (es:List Ent) (j:Nat):Ent:=es.getD j (.word "")
def tab (g:List Sy) (es:List Ent):Nat->List (List Bool)
 | 0=>[]
 | j+1=>tab g es j++[iI g (fun i=>!(lD g (tab g es j) (FE es j) i).isEmpty) g.length]
@[simp] theorem br (g:List Sy) (es:List Ent):∀j,(tab g es j).length=j
 | 0=>rfl
 | j+1=>by rw [tab,Ad,br g es j];rfl
theorem nh (g:List Sy) (es:List Ent) {i:Nat}:∀{k:Nat},i < k->(tab g es k).getD i []=iI g (fun x=>!(lD g (tab g es i) (FE es i) x).isEmpty) g.length
 | 0,h=>by omega
 | k+1,h=>by
  by_cases c:i=k
  ·subst c;rw [tab,lR (by rw [br];exact Am _),br,B8];rfl
  ·rw [tab,jg (by rw [br];omega)];exact nh g es (by omega)
def FP (g:List Sy) (es:List Ent) (n:Nat):FW g (tab g es n) n:=⟨by rw [br];exact Am _,fun j hj=>by rw [nh g es hj,iH]⟩
def zr {g:List Sy}{F F':List (List Bool)}{e:Ent}{i n:Nat} (h:qh n e) (hf:∀j,j < n->F.getD j []=F'.getD j []):lD g F e i=lD g F' e i:=by
 cases e with
 | word w=>rfl
 | pair a b=>
  dsimp only [lD,fa];rw [hf a h.1,hf b h.2]
def N6 (g:List Sy) (es:List Ent) {j k:Nat} (h:j<=k):∀x,x < j->(tab g es j).getD x []=(tab g es k).getD x []:=fun x hx=>by rw [nh g es hx,nh g es (show x < k by omega)]
def XI {g:List Sy}{ws:List Str} (G:WG g ws) {es:List Ent}{n j i:Nat} (hj:j < n) (hi:i < g.length) (he:qh j (FE es j)):fa (tab g es n) j i=((sy g i).un.any (fun l=>fa (tab g es n) j l)||!(lD g (tab g es n) (FE es j) i).isEmpty):=by
 have e1:∀x,fa (tab g es n) j x=(iI g (fun x=>!(lD g (tab g es j) (FE es j) x).isEmpty) g.length).getD x false:=fun x=>by unfold fa;rw [nh g es hj]
 have e2:(fun l=>fa (tab g es n) j l)=fun l=>(iI g (fun x=>!(lD g (tab g es j) (FE es j) x).isEmpty) g.length).getD l false:=funext e1;rw [e2,e1,VX g _ G.dn hi,zr (F':=tab g es n) he (N6 g es (by omega))]
def vY (b:Bool):rN (.bl b)=.ret (.bl b):=W.ar (by rw [PV.dat] <;> simp)
def any_map' (f:Nat->Bool) (l:List Nat):Nv (l.map fun x=>.bl (f x))=.ret (.bl (l.any f)):=by
 have:(l.map fun x=>PV.bl (f x))=(l.map f).map PV.bl:=by rw [A4];rfl
 rw [this,Qt,List.any_map];rfl
def iE (F:List (List Bool)):List (List PV):=F.map fun r=>r.map PV.bl
def KA (F:List (List Bool)):(iE F).map PV.cl=uv F:=by unfold iE uv;rw [A4];rfl
def Pd {g:List Sy}{ws:List Str} (G:WG g ws) {es:List Ent} (hz:es.length<=900) (hes:∀j,j < es.length->qh j (FE es j)):(fq (pC g) (.cl (es.map Ent.pv))).le (.ret (uv (tab g es es.length))):=fun Q q=>by
 have gl:=G.len;unfold fq;simp only [W.ag,W.run_bind,gD,Af,fK,W.ar (cx (i:=0) (j:=(es.length:Int)) (by omega) (by omega)),W.ai,AO];refine nX (fun j s=>s.2=iE (tab g es j)) rfl (fun j s hj hs=>?_) (fun s hs=>?_)
 ·obtain⟨s1,s2⟩:=s;replace hs:s2=iE (tab g es j):=hs;subst hs;have e1:q8 eZ [pC g]=.ret (.int (g.length:Int)):=by unfold pC;rw [dU,Af]
  have e2:yR [PV.bl false] (.int (g.length:Int))=.ret ((Ak g.length false).map PV.bl):=by
   rw [xE,W.ar ⟨by omega,by omega,a8 (by simp;omega)⟩,AO];congr 1;simp
  have aaL:es[j]?=some (FE es j):=by unfold FE;rw [Aq,Ae hj];rfl
  simp only [W.ag,e1,e2,W.run_bind,W.ai];refine⟨by show (iE (tab g es j)).length < sizeLine;unfold iE;rw [Af,br];have:=a8 (n:=901) (by omega);omega,?_⟩;show ((W.any fun _=>True).bind _:W _).run _;simp only [W.run_bind];intro b9 _;simp only [fK,W.ar (cx (i:=0) (j:=(g.length:Int)) (by omega) (by omega)),W.ai,AO,W.run_bind]
  let f:Nat->Bool:=fun x=>!(lD g (tab g es j) (FE es j) x).isEmpty
  refine nX (fun i s=>s.2=iE (tab g es j++[iI g f i++Ak (g.length-i) false])) (by show _++_=_;simp [iE,iI]) (fun i s hi hs=>?_) (fun s hs=>?_)
  ·obtain⟨s1,s2⟩:=s;replace hs:s2=_:=hs;subst hs;generalize hF:tab g es j++[iI g f i++Ak (g.length-i) false]=F;have fw:FW g F (j+1):=by
    subst hF;refine⟨by simp,fun x hx=>?_⟩;by_cases c:x=j
    ·subst c;rw [lR (by rw [br];exact Am _),br,B8];show (iI g f i++_).length=_;rw [Ad,iH,A2];omega
    ·rw [jg (by rw [br];omega)];exact (FP g es j).row x (by omega)
   have ff:∀l,l < i->fa F j l=(iI g f i).getD l false:=fun l hl=>by
    subst hF;unfold fa;rw [lR (by rw [br];exact Am _),br,B8];show (iI g f i++_).getD l false=_;rw [jg (by rw [iH];exact hl)]
   have fd:lD g F (FE es j) i=lD g (tab g es j) (FE es j) i:=zr (hes j hj) fun x hx=>by
    subst hF;rw [jg (by rw [br];exact hx)]
   have un:Kg (g.map Sy.pv) (.int (i:Int))=.ret (sy g i).pv:=Mv hi;have i2:cB [(sy g i).nm,PV.int ((sy g i).lv:Int),.tup (az (sy g i).un),.tup (az (sy g i).be)] 2=some (.tup (az (sy g i).un)):=rfl;simp only [KA,pC,aG,W.ag,un,Sy.pv,bh,i2,W.aA,W.run_bind,W.ai,cg];refine Jn (fun l=>.bl (fa F j l)) (fun l hl=>?_) ?_
   ·have:=G.dn i hi l hl;have:=v5 fw (show j < j+1 by omega) (show l < g.length by omega);simpa using this
   ·rw [any_map'];have eA:(sy g i).un.any (fa F j)=(sy g i).un.any fun l=>(iI g f i).getD l false:=by
     rw [Bool.eq_iff_iff,BW,BW];exact⟨fun ⟨l,h1,h2⟩=>⟨l,h1,by rw [<- ff l (G.dn i hi l h1)];exact h2⟩,fun ⟨l,h1,h2⟩=>⟨l,h1,by rw [ff l (G.dn i hi l h1)];exact h2⟩⟩
    have fin:(W.bind (Pt (iE F) (.int (j:Int))) fun WV=>W.bind (iX WV.2 (.int (i:Int)) (.bl ((sy g i).un.any (fa F j)||f i))) fun WK=>W.ret ((s1,(iE F).set WV.1 WK):List Addr×List (List PV))).run fun s=>s.2=iE (tab g es j++[iI g f (i+1)++Ak (g.length-(i+1)) false]):=by
     have NM:j < (iE F).length:=by unfold iE;rw [Af];have:=fw.len;omega
     have e3:(iE F)[j]?=some ((iI g f i++Ak (g.length-i) false).map PV.bl):=by
      subst hF;unfold iE;rw [Ai,Ax (by rw [br];exact Am _),br,B8];rfl
     have e4:Pt (iE F) (.int (j:Int))=.ret (j,(iI g f i++Ak (g.length-i) false).map PV.bl):=by
      show W.Lz ((pW (iE F).length (j:Int)).bind fun j=>(iE F)[j]?.map fun l=>(j,l))=_;rw [HQ NM];show W.Lz ((iE F)[j]?.map _)=_;rw [e3];rfl
     rw [e4];simp only [W.ag];rw [nj (by rw [Af,Ad,iH,A2];omega)];simp only [W.ag,W.ai];subst hF;unfold iE;rw [eA];apply BB;intro x;have er:g.length-i=(g.length-(i+1))+1:=by omega
     by_cases c:x=j
     ·subst c;rw [BA (by rw [Af,Ad,br];simp),Ai,Ax (by rw [br];exact Am _),br,B8];show some _=some _;congr 1;rw [iI,er,Bi,<- Ei,EA _ _ (by rw [iH];exact Am _),iH,B8];simp
     ·rw [Bp (Bx c),Ai,Ai];by_cases c2:x < j
      ·rw [Ay (by rw [br];exact c2),Ay (by rw [br];exact c2)]
      ·rw [AN (by rw [Ad,br];simp;omega),AN (by rw [Ad,br];simp;omega)]
    simp only [W.ai,vY];cases cA:(sy g i).un.any (fa F j) with
    | true=>
     rw [cA] at fin;simp only [MK,W.ai,vY];simpa using fin
    | false=>
     rw [cA] at fin;simp only [MM,W.run_bind];refine W.le.use (kQ G (F:=F) aaL hi fw (by have:=hes j hj;revert this;cases FE es j with | word w=>exact id | pair a b=>exact fun z=>⟨Nat.lt_succ_of_lt z.1,Nat.lt_succ_of_lt z.2⟩)) ?_;have e5:(!((lD g F (FE es j) i).map d3).isEmpty)=f i:=by rw [fd,D7]
     simp only [W.ai,e5,vY];simpa using fin
  ·show s.2=iE (tab g es (j+1));rw [hs,tab,B8];simp [f]
 ·show Q (s.2.map PV.cl);rw [hs,KA];exact q
def Ch (g:List Sy):List Nat->Prop
 | []=>False
 | [i]=>i < g.length
 | i::k::r=>i < g.length/\k∈(sy g i).un/\Ch g (k::r)
theorem Ch.snoc {g:List Sy}{i u:Nat} (hu:u∈(sy g i).un) (hg:u < g.length):∀{p:List Nat},Ch g (p++[i])->Ch g (p++[i]++[u])
 | [],h=>⟨h,hu,hg⟩
 | [a],h=>⟨h.1,h.2.1,h.2.2,hu,hg⟩
 | a::b::p,h=>⟨h.1,h.2.1,Ch.snoc hu hg (p:=b::p) h.2.2⟩
theorem Ch.last {g:List Sy}{i:Nat}:∀{p:List Nat},Ch g (p++[i])->i < g.length
 | [],h=>h
 | [a],h=>h.2.2
 | a::b::p,h=>Ch.last (p:=b::p) h.2.2
def TX {g:List Sy}{i:Nat} (h:i < g.length):cB (g.map Sy.pv) (i:Int)=some (sy g i).pv:=dW (by rw [Ai,KD h];rfl)
def KG (s:Sy):cB [s.nm,PV.int (s.lv:Int),.tup (az s.un),.tup (az s.be)] 2=some (.tup (az s.un)):=(rfl)
def lP (q:List Nat) (l:Nat):cB (az (q++[l])) (-1)=some (.int (l:Int)):=by rw [LN];exact Nr _ _
structure PI (g:List Sy) (F:List (List Bool)) (j i0:Nat) (q:List Nat) (l:Nat):Prop where
 ch:Ch g (q++[l])
 hd:(q++[l]).head?=some i0
 f:fa F j l=true
 m:q.length+l<=i0
def PI.next {g:List Sy}{ws:List Str} (G:WG g ws) {F:List (List Bool)}{j i0 l u:Nat}{q:List Nat} (P:PI g F j i0 q l) (hu:u∈(sy g l).un) (hf:fa F j u=true):PI g F j i0 (q++[l]) u:=by
 have hl:=P.ch.last;have:=G.dn l hl u hu;have:=P.m;refine⟨P.ch.snoc hu (by omega),?_,hf,by rw [Ad];simp;omega⟩;rw [List.head?_append,P.hd];rfl
section
variable {g:List Sy}{ws:List Str}{F:List (List Bool)}{es:List Ent}{j n:Nat}{e:Ent}
def Ly (G:WG g ws) (fw:FW g F n) (hj:j < n) {l:Nat} (hl:l < g.length) {Q:List PV->Prop} (q:Q (az ((sy g l).un.filter fun u=>fa F j u))) :
  (ku (az (sy g l).un) fun p8=>Gh (W.bind (ba (W.bind (ba (W.ret (uv F)) (W.ret (.int (j:Int)))) aw) (W.ret p8)) eK) (W.ret p8)).run Q:=by
 refine sJ (fun u=>fa F j u) (fun u hu=>?_) q;have:=G.dn l hl u hu;rw [v5 fw hj (show u < g.length by omega)];cases fa F j u <;> simp
def vg (G:WG g ws) (he:es[j]?=some e) (fw:FW g F n) (hj:j < n) (hn:qh n e) (hc:∀i,i < g.length->fa F j i=((sy g i).un.any (fun l=>fa F j l)||!(lD g F e i).isEmpty)) {i0:Nat} (h0:i0 < g.length) (f0:fa F j i0=true) {Q:PV->Prop}
  (q:∀p l,Ch g (p++[l])->(p++[l]).head?=some i0->lD g F e l≠[]->Q (.tup (az (p++[l])))) :
  (cZ (pC g) (.cl (es.map Ent.pv)) (.cl (uv F)) (.int (j:Int)) (.int (i0:Int))).run Q:=by
 have gl:=G.len;have e1:q8 eZ [pC g]=.ret (.int (g.length:Int)):=by unfold pC;rw [dU,Af]
 unfold cZ;simp only [W.ag,W.run_bind,e1,W.ai,fK,W.ar (cx (i:=0) (j:=(g.length:Int)) (by omega) (by omega)),AO];refine nX (fun _ s=>∃p l,s=az (p++[l])/\PI g F j i0 p l) ⟨[],i0,rfl,h0,rfl,f0,by simp⟩ (fun k s hk hs=>?_) (fun s hs=>?_)
 ·obtain⟨p,l,rfl,P⟩:=hs;have hl:=P.ch.last;have yq:=G.yq l hl;have pm:=P.m;have step:∀x∈az ((sy g l).un.filter fun u=>fa F j u),(j8 (az (p++[l])) x).run fun s=>∃p l,s=az (p++[l])/\PI g F j i0 p l:=fun x hx=>by
   obtain⟨u,hu,rfl⟩:=AA.mp hx;obtain⟨hu1,hu2⟩:=AE.mp hu;rw [hX (by rw [dJ,Ad];simp;omega)];exact⟨p++[l],u,by simp,P.next G hu1 hu2⟩
  simp only [mM,bh,lP,W.aA,W.ag,W.run_bind,W.ai];simp only [pC,aG,cg,TX hl,W.aA,W.ag,W.ai,Sy.pv,KG];have on:=@Ly g ws F j n G fw hj l hl;simp only [W.ag,bh] at on;refine on ?_;refine W.le.use (kQ G he hl fw hn) ?_;have stop:∃p' l',az (p++[l])=az (p'++[l'])/\PI g F j i0 p' l':=⟨p,l,rfl,P⟩;have go:∀b:Bool,(hZ (uu (W.bind (W.bind (W.ret (.cl (az ((sy g l).un.filter fun u=>fa F j u)))) O8) fun Pj=>W.ret (!Pj.isEmpty)) (W.bind (W.ret (.bl b)) eK)) (W.bind (W.bind (W.ret (.cl (az ((sy g l).un.filter fun u=>fa F j u)))) fun vV=>bb vV) fun vU=>W.bind (j8 (az (p++[l])) vU) fun gz=>W.ret gz) (W.ret (az (p++[l])))).run fun s=>∃p l,s=az (p++[l])/\PI g F j i0 p l:=fun b=>by
   generalize hon:az ((sy g l).un.filter fun u=>fa F j u)=on at step;have onl:on.length<=1000:=by
    rw [<- hon,dJ];have:=AW (fun u=>fa F j u) (sy g l).un;omega
   simp only [W.ag,P7,cv,W.run_bind,W.ai];cases on with
   | nil=>simpa using stop
   | cons x r=>
    cases b with
    | false=>simpa using stop
    | true=>
     simp only [List.isEmpty_cons,DE,if_true,W.run_bind,W.ai];refine pick_run (by simp) onl fun y hy=>?_;simpa using step y hy
  cases cd:((lD g F e l).map d3).isEmpty with
  | true=>
   simp only [W.ai,MK];simpa using go true
  | false=>
   simp only [W.ai,MM,W.run_bind,cK 3 (by decide) (by decide)];refine bo fun d _ _=>?_;simp only [eB,W.ai];simpa using go (d==0)
 ·obtain⟨p,l,rfl,P⟩:=hs;refine gN (fun m s=>∃p,s=az (p++[m])/\PI g F j i0 p m) ⟨p,rfl,P⟩ ?_;rintro l s ⟨p,rfl,P⟩;have hl:=P.ch.last;have yq:=G.yq l hl;have pm:=P.m;simp only [mM,bh,lP,W.aA,W.ag,W.run_bind,W.ai];refine W.le.use (kQ G he hl fw hn) ?_;cases cd:((lD g F e l).map d3).isEmpty with
  | false=>
   simp only [An,if_false,tE,W.ai];refine q p l P.ch P.hd fun z=>?_;rw [z] at cd;cases cd
  | true=>
   simp only [if_true,W.run_bind];have on:=@Ly g ws F j n G fw hj l hl;simp only [W.ag,bh] at on;simp only [pC,aG,cg,TX hl,W.aA,W.ag,W.ai,Sy.pv,KG];refine on ?_;have hcl:=hc l hl;rw [P.f] at hcl;have lz:(lD g F e l).isEmpty=true:=by rw [D7] at cd;exact cd
   rw [lz] at hcl;have ha:(sy g l).un.any (fun u=>fa F j u)=true:=by simpa using hcl.symm
   obtain⟨u,hu,hfu⟩:=BW.mp ha;have mem:u∈(sy g l).un.filter fun u=>fa F j u:=AE.mpr ⟨hu,hfu⟩;refine pick_run (fun z=>?_) (by rw [dJ];have:=AW (fun u=>fa F j u) (sy g l).un;omega) fun x hx=>?_
   ·have:=congrArg BL z;rw [dJ] at this;rw [D6.mp this] at mem;cases mem
   ·obtain⟨v,hv,rfl⟩:=AA.mp hx;obtain⟨hv1,hv2⟩:=AE.mp hv;rw [hX (by rw [dJ,Ad];simp;omega)];exact⟨v,G.dn l hl v hv1,p++[l],by simp,P.next G hv1 hv2⟩
end
def ht:Tr->Nat->Nat
 | .leaf _,_=>0
 | .node l r,j=>if j < l.size then ht l j else if j < l.size+r.size then ht r (j-l.size) else (Tr.node l r).depth
theorem Mh:∀(t:Tr) (j:Nat),ht t j<=t.depth
 | .leaf _,_=>Am _
 | .node l r,j=>by
  have e:(Tr.node l r).depth=max l.depth r.depth+1:=rfl;have h1:=Mh l j;have h2:=Mh r (j-l.size);rw [ht]
  split
  ·omega
  ·split <;> omega
def HV (t:Tr):ht t (t.size-1)=t.depth:=by
 cases t with
 | leaf _=>rfl
 | node l r=>
  have es:(Tr.node l r).size=l.size+r.size+1:=rfl;rw [ht,if_neg (by omega),if_neg (by omega)]
theorem Mi:∀(t:Tr) (o j a b:Nat),j < t.size->en t o j=.pair a b->ht t (a-o) < ht t j/\ht t (b-o) < ht t j
 | .leaf _,o,j,a,b,h,e=>by rw [en] at e;cases e
 | .node l r,o,j,a,b,h,e=>by
  have es:(Tr.node l r).size=l.size+r.size+1:=rfl;have lp:=l.size_pos;have rp:=r.size_pos;by_cases c1:j < l.size
  ·rw [en,if_pos c1] at e;obtain⟨h1,h2,h3,h4,_⟩:=tL l o j .aU a b c1 e;have:=Mi l o j a b c1 e;have q1:∀x,x < l.size->ht (.node l r) x=ht l x:=fun x hx=>by rw [ht,if_pos hx]
   rw [q1 (a-o) (by omega),q1 (b-o) (by omega),q1 j c1];exact this
  ·by_cases c2:j < l.size+r.size
   ·rw [en,if_neg c1,if_pos c2] at e;obtain⟨h1,h2,h3,h4,_⟩:=tL r (o+l.size) (j-l.size) .aU a b (by omega) e;have:=Mi r (o+l.size) (j-l.size) a b (by omega) e;have q1:∀x,¬x < l.size->x < l.size+r.size->ht (.node l r) x=ht r (x-l.size):=fun x h1 h2=>by rw [ht,if_neg h1,if_pos h2]
    rw [q1 (a-o) (by omega) (by omega),q1 (b-o) (by omega) (by omega),q1 j c1 c2,EK,EK];exact this
   ·rw [en,if_neg c1,if_neg c2] at e;injection e with e1 e2;subst e1;subst e2;have er:(Tr.node l r).depth=max l.depth r.depth+1:=rfl;have ej:ht (.node l r) j=(Tr.node l r).depth:=by rw [ht,if_neg c1,if_neg c2]
    have e3:ht (.node l r) (o+l.size-1-o)=l.depth:=by rw [ht,if_pos (by omega),show o+l.size-1-o=l.size-1 by omega,HV]
    have e4:ht (.node l r) (o+l.size+r.size-1-o)=r.depth:=by rw [ht,if_neg (by omega),if_pos (by omega),show o+l.size+r.size-1-o-l.size=r.size-1 by omega,HV]
    rw [ej,e3,e4,er];omega
theorem rz:∀(t:Tr) (o j:Nat) (w:Str),j < t.size->en t o j=.word w->w∈t.aN
 | .leaf x,o,j,w,h,e=>by
  rw [en] at e;injection e with e;subst e;simp [Tr.aN]
 | .node l r,o,j,w,h,e=>by
  have es:(Tr.node l r).size=l.size+r.size+1:=rfl;by_cases c1:j < l.size
  ·rw [en,if_pos c1] at e;exact C4 _ (rz l o j w c1 e)
  ·by_cases c2:j < l.size+r.size
   ·rw [en,if_neg c1,if_pos c2] at e;exact AV _ (rz r _ (j-l.size) w (by omega) e)
   ·rw [en,if_neg c1,if_neg c2] at e;cases e
inductive Qz (g:List Sy) (t:Tr):Nat->List Nat->PV->Prop
 | leaf {j p i w}:en t 0 j=.word w->Ch g (p++[i])->hm g i w=true->Qz g t j (p++[i]) (.tup [.tup (az (p++[i])),.str "found"])
 | node {j p i a b nm x y p1 p2 wa wb}:en t 0 j=.pair a b->Ch g (p++[i])->(nm,x,y)∈M8 g i->Qz g t a (x::p1) wa->Qz g t b (y::p2) wb->Qz g t j (p++[i]) (.tup [.tup (az (p++[i])),.str nm,wa,wb])
def Uo {g:List Sy}{i:Nat}{d:Dd} (h:d∈M8 g i):(d.1==("found":Str))=false:=by
 have k1:(("doubled":Str)==("found":Str))=false:=by decide +kernel
 have k2:(("split":Str)==("found":Str))=false:=by decide +kernel
 have k3:(("over":Str)==("found":Str))=false:=by decide +kernel
 unfold M8 at h;rcases Az.mp h with rfl | h
 ·exact k1
 rcases Bh.mp h with h | h
 ·revert h;generalize (sy g i).un=l;intro h;unfold NG at h
  split at h
  ·simp at h;rcases h with rfl | rfl <;> exact k2
  ·cases h
 ·obtain⟨o,_,h⟩:=List.mem_flatMap.mp h;simp at h;rcases h with rfl | rfl <;> exact k3
def F4 (t:Tr) {j:Nat} (h:j < t.size):FE (t.nd 0) j=en t 0 j:=by unfold FE;rw [Aq,gj t 0 j h];rfl
def vA (t:Tr) {j:Nat} (h:j < t.size):qh j (en t 0 j):=by
 cases e:en t 0 j with
 | word w=>trivial
 | pair a b=>exact fy t h e
section
variable {g:List Sy}{ws:List Str}{t:Tr}
abbrev f6 (g:List Sy) (t:Tr):List (List Bool):=tab g (t.nd 0) t.size
def P4 (G:WG g ws) {j i:Nat} (hj:j < t.size) (hi:i < g.length):fa (f6 g t) j i=((sy g i).un.any (fun l=>fa (f6 g t) j l)||!(lD g (f6 g t) (en t 0 j) i).isEmpty):=by
 have:=XI G (es:=t.nd 0) (n:=t.size) hj hi (by rw [F4 t hj];exact vA t hj);rw [F4 t hj] at this;exact this
def q9 {m n:Nat}{e:Ent} (h:qh m e) (hm:m<=n):qh n e:=by
 cases e with
 | word w=>trivial
 | pair a b=>exact⟨Aw h.1 hm,Aw h.2 hm⟩
theorem sF (G:WG g ws):∀(n j:Nat),ht t j < n->j < t.size->∀(p:List Nat) (i:Nat),Ch g (p++[i])->lD g (f6 g t) (en t 0 j) i≠[]->∀{Q:PV->Prop},(∀w,Qz g t j (p++[i]) w->Q w)->
  (cJ n (pC g) (.cl ((t.nd 0).map Ent.pv)) (.cl (uv (f6 g t))) (.int (j:Int)) (.tup (az (p++[i])))).run Q
 | 0,j,h,_,_,_,_,_,_,_=>by omega
 | n+1,j,h,hj,p,i,hc,hd,Q,q=>by
  have hi:=hc.last;have fw:=FP g (t.nd 0) t.size;have ej:=gj t 0 j hj;unfold cJ;simp only [W.ag,W.run_bind,mM,aG,bh,lP,W.aA,W.ai];refine W.le.use (kQ G ej hi fw (q9 (vA t hj) (by omega))) ?_;have ll:(lD g (f6 g t) (en t 0 j) i).length<=63:=by
   cases e:en t 0 j with
   | word w=>unfold lD;simp only;split <;> simp
   | pair a b=>unfold lD;exact Bj (AW _ _) (Qk G hi)
  refine pick_run (fun z=>hd (ET.mp z)) (by rw [Af];omega) fun x hx=>?_;obtain⟨d,Mo,rfl⟩:=AA.mp hx;have e1:∀s:Str,of2 eM (.str s) (.str "found")=.ret (.bl (s==("found":Str))):=fun s=>by rw [tH,W.ar ⟨by simp,by simp,by simp⟩,HY]
  simp only [d3,Ua,W.ai,e1,W.ag,bB];cases e:en t 0 j with
  | word w=>
   rw [e] at Mo hd;have Mo:d∈(if hm g i w=true then [(("found",i,i):Dd)] else []):=Mo;have hh:hm g i w=true:=by
    cases c:hm g i w with
    | true=>rfl
    | false=>rw [c] at Mo;cases Mo
   rw [if_pos hh] at Mo;have:=Bw.mp Mo;subst this;simp only [beq_self_eq_true,if_true,W.ai];exact q _ (.leaf e hc hh)
  | pair a b=>
   rw [e] at Mo hd;have Mo:d∈(M8 g i).filter (fun d=>fa (f6 g t) a d.2.1&&fa (f6 g t) b d.2.2):=Mo;obtain⟨Xt,hd2⟩:=AE.mp Mo;rw [AD] at hd2;obtain⟨l1,l2⟩:=M7 G hi Xt;obtain⟨a1,b1⟩:=fy t hj e;obtain⟨t1,t2⟩:=Mi t 0 j a b hj e;rw [Eh] at t1 t2;have ha:a < t.size:=by omega
   have hb:b < t.size:=by omega
   have j0:cB [PV.int (a:Int),PV.int (b:Int)] 0=some (.int a):=rfl;have j1:cB [PV.int (a:Int),PV.int (b:Int)] 1=some (.int b):=rfl;simp only [Uo Xt,An,if_false,cg,W.ag,W.run_bind,bh,LL t hj,e,Ent.pv,W.aA,W.ai,aG,j0,j1];have Rk:∀(k:Nat),k < t.size->∀i,i < g.length->fa (f6 g t) k i=((sy g i).un.any (fun l=>fa (f6 g t) k l)||!(lD g (f6 g t) (en t 0 k) i).isEmpty):=fun k hk i hi=>P4 G hk hi;refine vg G (gj t 0 a ha) fw ha (q9 (vA t ha) (by omega)) (Rk a ha) l1 hd2.1 fun p1 m1 c1 h1 k1=>?_;refine sF G n a (by omega) ha p1 m1 c1 k1 fun wa Wa=>?_;refine vg G (gj t 0 b hb) fw hb (q9 (vA t hb) (by omega)) (Rk b hb) l2 hd2.2 fun p2 m2 c2 h2 k2=>?_;refine sF G n b (by omega) hb p2 m2 c2 k2 fun wb Wb=>?_;obtain⟨r1,e1⟩:∃r,p1++[m1]=d.2.1::r:=by
    cases hx:p1++[m1] with
    | nil=>rw [hx] at h1;cases h1
    | cons y r=>rw [hx] at h1;cases h1;exact⟨r,rfl⟩
   obtain⟨r2,e2⟩:∃r,p2++[m2]=d.2.2::r:=by
    cases hx:p2++[m2] with
    | nil=>rw [hx] at h2;cases h2
    | cons y r=>rw [hx] at h2;cases h2;exact⟨r,rfl⟩
   rw [e1] at Wa;rw [e2] at Wb;exact q _ (.node e hc Xt Wa Wb)
def NA.fa (G:WG g ws) {j:Nat} (hj:j < t.size) {i k:Nat} (r:NA g i k):i < g.length->My.fa (f6 g t) j k=true->My.fa (f6 g t) j i=true:=by
 induction r with
 | refl i=>intro _ h;exact h
 | @step i u k hu _ ih=>
  intro hi h;have:=G.dn i hi u hu;have h1:=ih (by omega) h;rw [P4 G hj hi,Ex];exact .inl (BW.mpr ⟨u,hu,h1⟩)
def RS (G:WG g ws) (hw:∀w∈t.aN,w∈ws):∀j,j < t.size->fa (f6 g t) j (g.length-1)=true/\∃i,i < g.length/\lD g (f6 g t) (en t 0 j) i≠[]:=fun j=>by
 have gp:=G.pos
 induction j using Eu with
 | ind j ih=>
  intro hj;cases e:en t 0 j with
  | word w=>
   obtain⟨i,hi,r,hh⟩:=G.aax w (hw w (rz t 0 j w hj e));have ne:lD g (f6 g t) (.word w) i≠[]:=by
    show (if hm g i w=true then _ else _)≠[];rw [if_pos hh];simp
   refine⟨r.fa G hj (by omega) ?_,i,hi,ne⟩;rw [P4 G hj hi,e,Ex];refine .inr ?_;cases c:lD g (f6 g t) (.word w) i with
   | nil=>exact absurd c ne
   | cons _ _=>rfl
  | pair a b=>
   obtain⟨ha,hb⟩:=fy t hj e;have h1:=(ih a ha (by omega)).1;have h2:=(ih b hb (by omega)).1;have mem:dbl (g.length-1)∈lD g (f6 g t) (.pair a b) (g.length-1):=AE.mpr ⟨.head _,by show (My.fa _ _ _&&My.fa _ _ _)=true;rw [h1,h2];rfl⟩;have ne:lD g (f6 g t) (.pair a b) (g.length-1)≠[]:=fun z=>by rw [z] at mem;cases mem
   refine⟨?_,g.length-1,by omega,ne⟩;rw [P4 G hj (by omega),e,Ex];refine .inr ?_;cases c:lD g (f6 g t) (.pair a b) (g.length-1) with
   | nil=>exact absurd c ne
   | cons _ _=>rfl
def whole_run (G:WG g ws) (hw:∀w∈t.aN,w∈ws) (hd:t.depth < 12) (hz:t.size<=900) {Q:PV->Prop} (q:∀i w,Qz g t (t.size-1) [i] w->Q w):(bj (pC g) t.pv).run Q:=by
 have tp:=t.size_pos;have gl:=G.len;have nl:(t.nd 0).length=t.size:=t.bf 0;have fw:=FP g (t.nd 0) t.size;have e1:q8 eZ [pC g]=.ret (.int (g.length:Int)):=by unfold pC;rw [dU,Af]
 have hr:t.size-1 < t.size:=by omega
 unfold bj;simp only [W.ag,W.run_bind];refine W.le.use (gL 12 t hd hz) ?_;refine W.le.use (Pd G (es:=t.nd 0) (by omega) fun j hj=>by rw [nl] at hj;rw [F4 t hj];exact vA t hj) ?_;rw [nl];have el:((t.size:Int)-1)=((t.size-1:Nat):Int):=by omega
 simp only [gD,eG,W.ai,tF,el,e1,fK,W.ar (cx (i:=0) (j:=(g.length:Int)) (by omega) (by omega)),AO,pA];have ej:=gj t 0 (t.size-1) hr;unfold az;refine w5 (fun i:Nat=>if (!(lD g (f6 g t) (en t 0 (t.size-1)) i).isEmpty)=true then some (PV.int (i:Int)) else none) (fun i hi R r=>?_) ?_
 ·have hi:=AL.mp hi;simp only [W.run_bind];refine W.le.use (kQ G ej hi fw (q9 (vA t hr) (by omega))) ?_;rw [D7];cases c:(lD g (f6 g t) (en t 0 (t.size-1)) i).isEmpty with
  | false=>simpa [c] using r
  | true=>simpa [c] using r
 ·rw [HX];obtain⟨_,i,hi,ne⟩:=RS G hw (t.size-1) hr;refine pick_run (fun z=>?_) ?_ fun x hx=>?_
  ·have mem:i∈(AG g.length).filter fun i=>!(lD g (f6 g t) (en t 0 (t.size-1)) i).isEmpty:=AE.mpr ⟨AL.mpr hi,by cases c:lD g (f6 g t) (en t 0 (t.size-1)) i with | nil=>exact absurd c ne | cons _ _=>rfl⟩;rw [ET.mp z] at mem;cases mem
  ·rw [Af];have:=AW (fun i=>!(lD g (f6 g t) (en t 0 (t.size-1)) i).isEmpty) (AG g.length);rw [BO] at this;omega
  ·obtain⟨k,hk,rfl⟩:=AA.mp hx;obtain⟨hk1,YW⟩:=AE.mp hk;have hk1:=AL.mp hk1;refine sF G 12 (t.size-1) (by have:=Mh t (t.size-1);omega) hr [] k hk1 (fun z=>?_) fun w h=>q k w h;rw [z] at YW;cases YW
end
def Uq (l:List PV) {a:Nat} (h:a<=l.length):uP l (some (a:Int)) none=l.drop a:=by
 unfold uP;rw [HT.KS,HT.Oi,Nat.min_eq_left h,Ce (by simp)]
def Dt.isD {t:Tr}{ds:List Int}{d:Int} (D:Dt t ds [] d) (h:d<=99):Px t ds=true:=by
 unfold Px;rw [AD,AD,decide_eq_true_iff,decide_eq_true_iff];refine⟨D.len,?_,Eb.mpr fun j hj=>?_⟩
 ·unfold Ht;have hp:(splits t).Pairwise (· < ·):=by unfold splits;exact List.Pairwise.filter _ CN
  rw [List.nodup_iff_pairwise_ne,DP];refine List.Pairwise.imp_of_mem (fun {x y} hx hy lt e=>?_) hp;obtain⟨x1,x2⟩:=AE.mp hx;obtain⟨y1,y2⟩:=AE.mp hy;have:=D.inj x y (AL.mp x1) (AL.mp y1) (by simp) (by simp) x2 y2 e;omega
 ·have hj':=AL.mp hj;unfold Wz;cases e:en t 0 j with
  | word w=>
   show (ds.getD j 0==0)=true;rw [D.zero j hj' (.inl (by rw [e];rfl))];rfl
  | pair a b=>
   obtain⟨_,_,h1,h2,h3,h4⟩:=D.up j hj' (by simp) a b e;show (decide (ds.getD a 0 < ds.getD j 0)&&decide (ds.getD b 0 < ds.getD j 0)&&decide (1<=ds.getD j 0)&&decide (ds.getD j 0<=99))=true;rw [decide_eq_true h1,decide_eq_true h2,decide_eq_true h3,decide_eq_true (by omega)];rfl
theorem tS:∀(t:Tr) (o:Nat),(t.nd o).countP sP+1=t.aN.length
 | .leaf _,_=>rfl
 | .node l r,o=>by
  have h1:=tS l o;have h2:=tS r (o+l.size);rw [Tr.nd,List.countP_append,List.countP_append];show _+(List.countP sP [Ent.pair _ _])+1=(l.aN++r.aN).length;rw [Ad];simp [sP];omega
def S0 (t:Tr):t.nd 0=(AG t.size).map (en t 0):=by
 refine BB fun j=>?_;by_cases h:j < t.size
 ·rw [gj t 0 j h,Ai,BU h];rfl
 ·rw [AN (by rw [t.bf];omega),AN (by simp;omega)]
def FR (t:Tr):(splits t).length+1=t.aN.length:=by
 rw [<- tS t 0,S0 t,List.countP_map];unfold splits;rw [<- List.countP_eq_length_filter];rfl
def NA.snoc {g:List Sy}{i j u:Nat} (r:NA g i j) (hu:u∈(sy g j).un):NA g i u:=by
 induction r with
 | refl i=>exact .step hu (.refl _)
 | step h _ ih=>exact .step h (ih hu)
def gS (t:Tr):List Sy:=(AG t.size).map fun j=>⟨F2 (en t 0 j) j,0,NJ (en t 0 j),Vd t j⟩
def tj (t:Tr) {j:Nat} (h:j < t.size):sy (gS t) j=⟨F2 (en t 0 j) j,0,NJ (en t 0 j),Vd t j⟩:=by
 unfold sy gS;rw [Aq,Ai,BU h];rfl
@[simp] theorem jH (t:Tr):(gS t).length=t.size:=by unfold gS;simp
def Xy (t:Tr):pC (gS t)=.tup (grL t):=by
 unfold pC gS grL;rw [A4];congr 1
def Q0 (e:Ent) (j:Nat):(∃s,F2 e j=.str s)\/∃n,F2 e j=.int n:=by
 cases e with
 | word w=>exact .inl ⟨w,rfl⟩
 | pair a b=>exact .inr ⟨_,rfl⟩
def Tz (e:Ent):(NJ e).length<=2:=by cases e <;> simp [NJ]
theorem rf:∀(s:Tr) (t:Tr) (o:Nat) (w:Str),(∀k,k < s.size->en t 0 (o+k)=en s o k)->o+s.size<=t.size->w∈s.aN->∃i,i < t.size/\NA (gS t) (o+s.size-1) i/\en t 0 i=.word w
 | .leaf x,t,o,w,hs,hz,hw=>by
  have e0:en t 0 o=.word x:=hs 0 (by show 0 < 1;decide);have hz:o+1<=t.size:=hz;have:w=x:=by simpa [Tr.aN] using hw
  subst this;exact⟨o,by omega,.refl _,e0⟩
 | .node l r,t,o,w,hs,hz,hw=>by
  have es:(Tr.node l r).size=l.size+r.size+1:=rfl;have lp:=l.size_pos;have rp:=r.size_pos;have er:en t 0 (o+(l.size+r.size))=.pair (o+l.size-1) (o+l.size+r.size-1):=by rw [hs _ (by omega),en,if_neg (by omega),if_neg (by omega)]
  have ei:o+(Tr.node l r).size-1=o+(l.size+r.size):=by omega
  have hl:∀k,k < l.size->en t 0 (o+k)=en l o k:=fun k hk=>by rw [hs k (by omega),en,if_pos hk]
  have hr:∀k,k < r.size->en t 0 (o+l.size+k)=en r (o+l.size) k:=fun k hk=>by rw [A7,hs _ (by omega),en,if_neg (by omega),if_pos (by omega),CC]
  have un:(sy (gS t) (o+(l.size+r.size))).un=[o+l.size-1,o+l.size+r.size-1]:=by rw [tj t (by omega),er];rfl
  rw [ei];rcases Bh.mp (show w∈l.aN++r.aN from hw) with hw | hw
  ·obtain⟨i,h1,h2,h3⟩:=rf l t o w hl (by omega) hw;exact⟨i,h1,.step (by rw [un];simp) h2,h3⟩
  ·obtain⟨i,h1,h2,h3⟩:=rf r t (o+l.size) w hr (by omega) hw;exact⟨i,h1,.step (by rw [un];simp) h2,h3⟩
def ID {t:Tr} (hz:t.size<=30):WG (gS t) t.aN:=by
 have tp:=t.size_pos;refine⟨by rw [jH];omega,by rw [jH];omega,fun i hi u hu=>?_,fun i hi=>?_,fun i hi u hu=>?_,fun i hi=>?_,fun i hi=>?_,fun w hw=>?_⟩
 ·rw [jH] at hi;rw [tj t hi] at hu;cases e:en t 0 i with
  | word w=>rw [e] at hu;cases hu
  | pair a b=>
   rw [e] at hu;have:=fy t hi e;have hu:u=a\/u=b:=by simpa [NJ] using hu
   omega
 ·rw [jH] at hi;rw [tj t hi];exact Tz _
 ·rw [jH] at hi ⊢;rw [tj t hi] at hu;exact AL.mp (AE.mp hu).1
 ·rw [jH] at hi;rw [tj t hi];have:=AW (fun k=>!decide (k∈up t 0 i [])&&!decide (i∈up t 0 k [])) (AG t.size);rw [BO] at this;show (Vd t i).length<=30;unfold Vd;omega
 ·rw [jH] at hi;rw [tj t hi];exact Q0 _ _
 ·obtain⟨i,h1,h2,h3⟩:=rf t t 0 w (fun k hk=>by rw [AQ]) (by omega) hw;rw [AQ] at h2;refine⟨i,by rw [jH];exact h1,by rw [jH];exact h2,?_⟩;unfold hm;rw [tj t h1,h3];simp [NJ,F2,Gv]
def dS (t:Tr) (ds bs:List Int):List Sy:=(aL t ds bs bs.length).map fun p=>⟨F2 (en t 0 p.1) p.1,p.2,(zZ (en t 0 p.1) p.1 (ds.getD p.1 0) (bs.getD p.2 0)).map fun x=>(aL t ds bs bs.length).idxOf (x,p.2-1),RC (aL t ds bs bs.length) p.1 p.2⟩
def X5 (t:Tr) (ds bs:List Int):pC (dS t ds bs)=.tup (Vb t ds bs):=by
 unfold pC dS Vb;rw [A4];congr 1
@[simp] theorem Up (t:Tr) (ds bs:List Int):(dS t ds bs).length=(aL t ds bs bs.length).length:=by unfold dS;rw [Af]
theorem pP (t:Tr) (ds bs:List Int):∀m,(aL t ds bs m).Pairwise fun p q=>p.2<=q.2
 | 0=>.nil
 | m+1=>by
  rw [aL];have IM:∀p∈uj t ds (bs.getD m 0) m t.size,p.2=m:=fun p hp=>by
   unfold uj at hp;obtain⟨k,_,rfl⟩:=AA.mp hp;rfl
  refine List.pairwise_append.mpr ⟨pP t ds bs m,?_,fun a ha b hb=>?_⟩
  ·exact BF.mpr fun i j hi hj _=>by rw [IM _ (D8 hi),IM _ (D8 hj)];exact Am _
  ·have h1:=(gR ha).1;rw [IM b hb];omega
theorem vi (t:Tr) (ds bs:List Int) (n:Nat):∀m,((aL t ds bs m).filter fun p=>decide (p.2=n)).length<=t.size
 | 0=>Bm _
 | m+1=>by
  rw [aL,List.filter_append,Ad];have ih:=vi t ds bs n m;by_cases c:n=m
  ·subst c;have z:(aL t ds bs n).filter (fun p=>decide (p.2=n))=[]:=by
    rw [Ek];intro p hp;have:=(gR hp).1;simp;omega
   rw [z];have h1:=AW (fun p:Nat×Nat=>decide (p.2=n)) (uj t ds (bs.getD n 0) n t.size);have h2:=wj t ds (bs.getD n 0) n t.size;simp only [BD];omega
  ·have z:(uj t ds (bs.getD m 0) m t.size).filter (fun p=>decide (p.2=n))=[]:=by
    rw [Ek];intro p hp;unfold uj at hp;obtain⟨k,_,rfl⟩:=AA.mp hp;simp;omega
   rw [z];simpa using ih
section
variable {t:Tr}{ds:List Int}
def DD.above (D:DD t ds) {j n:Nat} (h:(j,n)∈aL t ds (aQ t ds) (aQ t ds).length) (hn:n+1 < (aQ t ds).length):∃a,(a,n+1)∈aL t ds (aQ t ds) (aQ t ds).length/\j∈zZ (en t 0 a) a (ds.getD a 0) ((aQ t ds).getD (n+1) 0):=by
 obtain⟨hnl,hj,hs⟩:=ck.mp h;obtain⟨s1,s2⟩:=(gs hj).mp hs;have inc:=D.inc;have lt:=xj inc hn (show n < n+1 by omega);have stays:(∀a,kr t 0 j .aU=.int ((a:Nat):Int)->(aQ t ds).getD (n+1) 0 < ds.getD a 0)->∃a,(a,n+1)∈aL t ds (aQ t ds) (aQ t ds).length/\j∈zZ (en t 0 a) a (ds.getD a 0) ((aQ t ds).getD (n+1) 0):=fun hx=>
  ⟨j,ck.mpr ⟨hn,hj,(gs hj).mpr ⟨by omega,hx⟩⟩,by unfold zZ;rw [if_pos (by omega)];exact .head _⟩
 rcases ka t 0 j .aU hj with⟨_,e⟩ | ⟨a,u,v,ja,ha,e,ep,Rf⟩
 ·exact stays fun a z=>by rw [e] at z;cases z
 ·rw [AQ] at e Rf;by_cases c:(aQ t ds).getD (n+1) 0 < ds.getD a 0
  ·refine stays fun a' z=>?_;rw [e] at z;injection z with z;have:a=a':=by omega
   subst this;exact c
  ·have sa:=s2 a e;have eq:ds.getD a 0=(aQ t ds).getD (n+1) 0:=by
    rcases Int.lt_or_eq_of_le (show ds.getD a 0<=(aQ t ds).getD (n+1) 0 by omega) with c2 | c2
    ·have:=(sT inc hn (D.mem ha) c2).2;rw [Nat.add_sub_cancel] at this;omega
    ·exact c2
   refine⟨a,ck.mpr ⟨hn,ha,(gs ha).mpr ⟨by omega,fun a2 e2=>?_⟩⟩,?_⟩
   ·rcases ka t 0 a .aU ha with⟨_,e3⟩ | ⟨a3,u3,v3,_,h3,e3,ep3,W7⟩
    ·rw [e3] at e2;cases e2
    ·rw [e3] at e2;injection e2 with e2;rw [AQ] at e2 W7;have:a3=a2:=by omega
     subst this;have:=D.pair a3 u3 v3 h3 ep3;rcases W7 with rfl | rfl <;> omega
   ·unfold zZ;rw [if_neg (by omega),ep];rcases Rf with rfl | rfl <;> simp
def DD.last (D:DD t ds) {j n:Nat} (h:(j,n)∈aL t ds (aQ t ds) (aQ t ds).length) (hn:n+1=(aQ t ds).length):j=t.size-1:=by
 obtain⟨hnl,hj,hs⟩:=ck.mp h;obtain⟨s1,s2⟩:=(gs hj).mp hs;rcases ka t 0 j .aU hj with⟨e,_⟩ | ⟨a,u,v,ja,ha,e,ep,Rf⟩
 ·exact e
 ·exfalso;rw [AQ] at e;have sa:=s2 a e;have inc:=D.inc;obtain⟨i,hi,ei⟩:=EX (D.mem ha);have gd:(aQ t ds).getD i 0=ds.getD a 0:=by rw [Aq,Ae hi];exact ei
  rcases CK i n with c | c
  ·have:=xj inc hnl c;omega
  ·have:i=n:=by omega
   subst this;omega
def Gx {α:Type} [BEq α] [LawfulBEq α] {l:List α} (nd:l.Nodup) {i:Nat}{x:α} (h:l[i]?=some x):l.idxOf x=i:=by
 obtain⟨hi,e⟩:=Aj.mp h;rw [<- e];exact nd.idxOf_getElem i hi
def GY {α:Type} [BEq α] [LawfulBEq α] {l:List α}{x:α} (h:x∈l):l[l.idxOf x]?=some x:=by
 have:=Bz h;rw [Ae this,List.getElem_idxOf this]
def Ku (D:DD t ds) (hz:t.size<=15) (hb:(aQ t ds).length<=16):WG (dS t ds (aQ t ds)) t.aN:=by
 have tp:=t.size_pos;have nd:=ju t ds (aQ t ds) (aQ t ds).length;have rise:=pP t ds (aQ t ds) (aQ t ds).length;have lay:=fun n=>vi t ds (aQ t ds) n (aQ t ds).length;have ok:=D.ok;have ne:=D.ne;have ll:=jv t ds (aQ t ds) (aQ t ds).length;have above:=fun j n=>D.above (j:=j) (n:=n);have last:=fun j n=>D.last (j:=j) (n:=n);have iff:=@ck t ds (aQ t ds) (aQ t ds).length;unfold Z7 at ok;have hS:∀i p,(aL t ds (aQ t ds) (aQ t ds).length)[i]?=some p->sy (dS t ds (aQ t ds)) i=⟨F2 (en t 0 p.1) p.1,p.2,(zZ (en t 0 p.1) p.1 (ds.getD p.1 0) ((aQ t ds).getD p.2 0)).map fun x=>(aL t ds (aQ t ds) (aQ t ds).length).idxOf (x,p.2-1),RC (aL t ds (aQ t ds) (aQ t ds).length) p.1 p.2⟩:=fun i p hp=>by
  unfold sy dS;rw [Aq,Ai,hp];rfl
 have hL:(dS t ds (aQ t ds)).length=(aL t ds (aQ t ds) (aQ t ds).length).length:=Up t ds _;have hmul:(aQ t ds).length*t.size<=16*15:=Nat.mul_le_mul hb hz;generalize aL t ds (aQ t ds) (aQ t ds).length=L at *;have get:∀i,i < (dS t ds (aQ t ds)).length->∃p,L[i]?=some p/\p∈L:=fun i hi=>by
  rw [hL] at hi;exact⟨L[i],Ae hi,D8 hi⟩
 have pos:0 < L.length:=EW.mpr ne;have low:∀(i a:Nat) (p r:Nat×Nat),L[i]?=some p->L[a]?=some r->r.2 < p.2->a < i:=fun i a p r h1 h2 lt=>by
  rcases CK a i with c | c
  ·exact c
  ·exfalso;obtain⟨g1,e1⟩:=Aj.mp h1;obtain⟨g2,e2⟩:=Aj.mp h2;rcases DA c with c | c
   ·subst c;rw [h1] at h2;cases h2;omega
   ·have:=BF.mp rise i a g1 g2 c;rw [e1,e2] at this;omega
 refine⟨by rw [hL];exact pos,by rw [hL];omega,fun i hi u hu=>?_,fun i hi=>?_,fun i hi u hu=>?_,fun i hi=>?_,fun i hi=>?_,fun w hw=>?_⟩
 ·obtain⟨p,hp,hm⟩:=get i hi;rw [hS i p hp] at hu;obtain⟨x,hx,rfl⟩:=AA.mp hu;obtain⟨n1,xm⟩:=ok p hm x hx;exact low i _ p (x,p.2-1) hp (GY xm) (by show p.2-1 < p.2;omega)
 ·obtain⟨p,hp,hm⟩:=get i hi;rw [hS i p hp];show (EN _ _).length<=2;rw [Af];unfold zZ
  split
  ·simp
  ·cases en t 0 p.1 <;> simp
 ·obtain⟨p,hp,hm⟩:=get i hi;rw [hS i p hp] at hu;unfold RC at hu;obtain⟨x,hx,rfl⟩:=AA.mp hu;rw [hL];exact Bz (AE.mp hx).1
 ·obtain⟨p,hp,hm⟩:=get i hi;rw [hS i p hp];show (RC L p.1 p.2).length<=30;unfold RC;rw [Af];have h1:=lay p.2;have h2:(L.filter fun q=>decide (q.2=p.2)&&!decide (q.1=p.1)).length<=(L.filter fun q=>decide (q.2=p.2)).length:=by
   have e:L.filter (fun q=>decide (q.2=p.2)&&!decide (q.1=p.1))=(L.filter fun q=>decide (q.2=p.2)).filter fun q=>!decide (q.1=p.1):=by
    rw [List.filter_filter];refine congrArg (fun f=>L.filter f) (funext fun q=>Bool.and_comm _ _)
   rw [e];exact AW _ _
  omega
 ·obtain⟨p,hp,hm⟩:=get i hi;rw [hS i p hp];exact Q0 _ _
 ·
  have reach:∀k i,i+k+1=L.length->NA (dS t ds (aQ t ds)) (L.length-1) i:=fun k=>by
   induction k using Eu with
   | ind k ih=>
    intro i hk;obtain⟨⟨j,n⟩,hp,hm⟩:=get i (by rw [hL];omega);have nl:=(iff.mp hm).1;by_cases c:n+1 < (aQ t ds).length
    ·obtain⟨a,ha,hb⟩:=above j n hm c;have ia:=GY ha;have lt:=low _ i (a,n+1) (j,n) ia hp (by show n < n+1;omega);have il:=Bz ha;have r:=ih (L.length-L.idxOf (a,n+1)-1) (by omega) (L.idxOf (a,n+1)) (by omega);refine r.snoc ?_;rw [hS _ _ ia];refine AA.mpr ⟨j,hb,?_⟩;show L.idxOf (j,n+1-1)=i;rw [Nat.add_sub_cancel];exact Gx nd hp
    ·have hj:=last j n hm (by omega);have:i=L.length-1:=by
      obtain⟨⟨j2,n2⟩,xk,UX⟩:=get (L.length-1) (by rw [hL];omega);have n2l:=(iff.mp UX).1;rcases CK n2 n with c2 | c2
      ·have:=low i (L.length-1) _ _ hp xk c2;omega
      ·have en2:n2=n:=by omega
       have Ml:=last j2 n2 UX (by omega);subst en2;rw [Ml,<- hj] at xk;exact (Gx nd hp).symm.trans (Gx nd xk)
     rw [this];exact .refl _
  obtain⟨j,hj,_,ej⟩:=rf t t 0 w (fun k hk=>by rw [AQ]) (by omega) hw;have b0:(aQ t ds).getD 0 0=0:=rfl;have mem:(j,0)∈L:=iff.mpr ⟨by simp [aQ],hj,(gs hj).mpr ⟨by rw [D.leaf j w hj ej,b0];exact C7 _,fun a ea=>by
   rcases ka t 0 j .aU hj with⟨_,e⟩ | ⟨a',u,v,_,ha,e,ep,_⟩
   ·rw [e] at ea;cases ea
   ·rw [e,AQ] at ea;injection ea with ea;have:a'=a:=by omega
    subst this;have:=(D.pair a' u v ha ep).2.2;rw [b0];omega⟩⟩
  have il:=Bz mem;refine⟨L.idxOf (j,0),by rw [hL];exact il,by rw [hL];exact reach (L.length-L.idxOf (j,0)-1) _ (by omega),?_⟩;unfold hm;rw [hS _ _ (GY mem)];show ((EN _ (zZ (en t 0 j) j _ _)).isEmpty&&Gv w (F2 (en t 0 j) j))=true;unfold zZ;rw [b0,D.leaf j w hj ej,if_neg (by omega),ej];simp [F2,Gv]
end
def GB {Q:PV->Prop} (q:∀t:Tr,qg t->Q t.pv):c6.run Q:=JK q
def Qs {t:Tr} (g:qg t) {Q:PV->Prop} (q:∀s,WG s t.aN->Q (pC s)):(bG t.pv).run Q:=by
 have hz:=g.size;have hdp:=g.depth;unfold bG;simp only [W.ag,W.run_bind,cK 2 (by decide) (by decide)];refine bo fun d _ _=>?_;simp only [eB,bB,W.ai];cases c:d==0 with
 | true=>
  simp only [if_true];refine JJ t (by omega) Q ?_;rw [<- Xy];exact q _ (ID (by omega))
 | false=>
  simp only [An,if_false,W.run_bind];refine W.le.use (gL 12 t (by omega) (by omega)) ?_;simp only [W.ai];refine JV t (by omega) fun ds d D ad4=>?_;have PJ:(splits t).length<=7:=by have:=FR t;have:=g.Y3;omega
  have DDt:=DD.of (D.isD (by omega));have hb:(aQ t ds).length<=16:=by unfold aQ;rw [Ar,oM];have:=Hs t ds;omega
  refine M9 DDt (by omega) Q ?_;rw [<- X5];exact q _ (Ku DDt hz hb)
theorem zh {f:PV->W PV}{S:PV->Prop}:∀{l:List PV},(∀x∈l,∀R:PV->Prop,(∀v,S v->R v)->(f x).run R)->∀{Q:List PV->Prop},(∀m,m.length=l.length->(∀v∈m,S v)->Q m)->(dh l f).run Q
 | [],_,Q,q=>q [] rfl (fun _ h=>nomatch h)
 | x::l,h,Q,q=>by
  show (W.bind (f x) fun y=>W.bind (dh l f) fun m=>W.ret (y::m)).run Q;simp only [W.run_bind];refine h x (.head _) _ fun v hv=>?_;refine zh (fun y hy=>h y (.tail _ hy)) fun m hm hs=>?_;exact q (v::m) (by simp [hm]) fun u hu=>by
   rcases Az.mp hu with rfl | hu
   ·exact hv
   ·exact hs u hu
theorem Hj:∀{m:List PV}{ls:List Str},(∀v∈m,∃w∈ls,v=PV.str w)->∃ws:List Str,m=ws.map PV.str/\∀w∈ws,w∈ls
 | [],_,_=>⟨[],rfl,fun _ h=>nomatch h⟩
 | v::m,ls,h=>by
  obtain⟨w,hw,rfl⟩:=h v (.head _);obtain⟨ws,rfl,h2⟩:=Hj (m:=m) (ls:=ls) fun u hu=>h u (.tail _ hu);exact⟨w::ws,rfl,fun x hx=>by
   rcases Az.mp hx with rfl | hx
   ·exact hw
   ·exact h2 x hx⟩
def IQ {t:Tr} (g:qg t) {Q:PV->Prop} (q:∀s:Tr,(∀w∈s.aN,w∈t.aN)->s.aN.length<=10->Q s.pv):(dm t.pv).run Q:=by
 have hz:=g.size;have hdp:=g.depth;unfold dm;simp only [W.ag,W.run_bind];refine W.le.use (gL 12 t (by omega) (by omega)) ?_
 let f:PV->Option PV:=fun x=>match x with | .str w=>some (.str w) | _=>none
 have el:(t.nd 0).map Ent.pv=(AG t.size).map fun j=>(en t 0 j).pv:=by
  apply BB;intro i;by_cases hi:i < t.size
  ·rw [Ai,gj t 0 i hi,Ai,BU hi];rfl
  ·rw [AN (by rw [eG];omega),AN (by simp;omega)]
 rw [el];refine w5 (fun j=>match en t 0 j with | .word w=>some (PV.str w) | .pair _ _=>none) (fun j hj R r=>?_) ?_
 ·cases e:en t 0 j with
  | word w=>rw [e] at r;simpa [Ent.pv] using r
  | pair a b=>rw [e] at r;simpa [Ent.pv] using r
 generalize hL:(AG t.size).filterMap (fun j=>match en t 0 j with | .word w=>some (PV.str w) | .pair _ _=>none)=L;have Lm:∀v∈L,∃w∈t.aN,v=PV.str w:=fun v hv=>by
  rw [<- hL] at hv;obtain⟨j,hj,e⟩:=CA.mp hv;have hj:=AL.mp hj;cases e2:en t 0 j with
  | word w=>
   rw [e2] at e;exact⟨w,rz t 0 j w hj e2,(Option.some.inj e).symm⟩
  | pair a b=>rw [e2] at e;cases e
 have Ll:L.length<=1000:=by
  rw [<- hL];have:=List.length_filterMap_le (fun j=>match en t 0 j with | .word w=>some (PV.str w) | .pair _ _=>none) (AG t.size);rw [BO] at this;omega
 have Ln:L≠[]:=fun z=>by
  obtain⟨w,e⟩:=xI t 0;have:PV.str w∈L:=by
   rw [<- hL];exact CA.mpr ⟨0,AL.mpr t.size_pos,by rw [e]⟩
  rw [z] at this;cases this
 simp only [cK 8 (by decide) (by decide)];refine bo fun d d0 d1=>?_;obtain⟨n,hn,n0,n1⟩:∃n:Int,cB [PV.int 6,PV.int 10] (if (d==0)=true then 1 else 0)=some (.int n)/\0 < n/\n<=10:=by
  by_cases h:d=0
  ·subst h;exact⟨10,rfl,by decide,by decide⟩
  ·have e:(d==0)=false:=by simpa using h
   rw [e];exact⟨6,rfl,by decide,by decide⟩
 simp only [eB,W.ai,nZ,bh,hn,W.aA,cK n n0 (by omega)];refine bo fun k k0 k1=>?_;obtain⟨m,hm⟩:∃m:Nat,1+k=(m:Int):=⟨(1+k).toNat,by omega⟩;simp only [gE,W.ai,hm,fK,W.ar (cx (i:=0) (j:=(m:Int)) (by omega) (by omega)),AO];refine zh (S:=fun v=>∃w∈t.aN,v=PV.str w) (fun x _ R r=>pick_run Ln Ll fun v hv=>r v (Lm v hv)) fun ms hl hs=>?_;obtain⟨ws,rfl,hw⟩:=Hj hs;rw [jd,Af] at hl;refine yI (fun z=>by rw [z] at hl;simp at hl;omega) (by omega) fun s hp=>q s (fun w h=>hw w (hp.mem_iff.mp h)) (by rw [hp.length_eq];omega)
inductive WT where
 | lf (p:List Nat) (i:Nat)
 | nd (p:List Nat) (i:Nat) (nm:Str) (a b:WT)
namespace WT
def path:WT->List Nat
 | .lf p i=>p++[i]
 | .nd p i _ _ _=>p++[i]
def at':WT->Nat
 | .lf _ i=>i
 | .nd _ i _ _ _=>i
def JU:WT->Str
 | .lf _ _=>"found"
 | .nd _ _ nm _ _=>nm
def kids:WT->List WT
 | .lf _ _=>[]
 | .nd _ _ _ a b=>[a,b]
def pv:WT->PV
 | .lf p i=>.tup [.tup (az (p++[i])),.str "found"]
 | .nd p i nm a b=>.tup [.tup (az (p++[i])),.str nm,a.pv,b.pv]
def size:WT->Nat
 | .lf _ _=>1
 | .nd _ _ _ a b=>a.size+b.size+1
def depth:WT->Nat
 | .lf _ _=>0
 | .nd _ _ _ a b=>max a.depth b.depth+1
def post:WT->List WT
 | .lf p i=>[.lf p i]
 | .nd p i nm a b=>a.post++b.post++[.nd p i nm a b]
def qz (u:WT):PV:=.tup [.int (u.at':Int),.str u.JU]
def Ok (g:List Sy):WT->Tr->Prop
 | .lf p i,.leaf w=>Ch g (p++[i])/\hm g i w=true
 | .nd p i nm a b,.node l r=>Ch g (p++[i])/\(∃x y r1 r2,(nm,x,y)∈M8 g i/\a.path=x::r1/\b.path=y::r2)/\a.Ok g l/\b.Ok g r
 | _,_=>False
def yU (u:WT):u.pv=.tup (.tup (az u.path)::.str u.JU::u.kids.map pv):=by cases u <;> rfl
def HC (u:WT):∃p,u.path=p++[u.at']:=by cases u <;> exact⟨_,rfl⟩
def size_pos (u:WT):0 < u.size:=by cases u <;> simp [size]
theorem bx:∀u:WT,u.post.length=u.size
 | .lf _ _=>rfl
 | .nd _ _ _ a b=>by simp [post,size,bx a,bx b];omega
def cp (l:List WT):List WT:=l.flatMap post
def bE (l:List WT):Nat:=(l.map size).sum
def FX (u:WT):u.post=cp u.kids++[u]:=by cases u <;> simp [post,cp,kids]
def IU (u:WT):u.size=bE u.kids+1:=by cases u <;> simp [size,bE,kids]
def Je (l:List WT):(cp l).length=bE l:=by
 induction l with
 | nil=>rfl
 | cons x l ih=>
  have e:cp (x::l)=x.post++cp l:=rfl;have e2:bE (x::l)=x.size+bE l:=rfl;rw [e,e2,Ad,ih,bx]
def jc (l:List WT):l.length<=bE l:=by
 induction l with
 | nil=>exact Am _
 | cons x l ih=>
  have e2:bE (x::l)=x.size+bE l:=rfl;have:=x.size_pos;rw [Ar,e2];omega
def u9 (l m:List WT):cp (l++m)=cp l++cp m:=by simp [cp]
def oP (l m:List WT):bE (l++m)=bE l+bE m:=by simp [bE]
def L1 (u:WT):u.kids.length<=2:=by cases u <;> simp [kids]
def abe (u:WT):uP (.tup (az u.path)::.str u.JU::u.kids.map pv) (some 2) none=u.kids.map pv:=by
 have:=Uq (.tup (az u.path)::.str u.JU::u.kids.map pv) (a:=2) (by simp);rw [show ((2:Nat):Int)=2 from rfl] at this;rw [this];rfl
end WT
theorem FI {g:List Sy}{t:Tr}:∀(s:Tr) (o:Nat),(∀k,k < s.size->en t 0 (o+k)=en s o k)->∀p w,Qz g t (o+s.size-1) p w->∃u:WT,u.pv=w/\u.path=p/\u.Ok g s
 | .leaf x,o,hs,p,w,h=>by
  have e0:en t 0 o=.word x:=hs 0 (by show 0 < 1;decide);have ei:o+(Tr.leaf x).size-1=o:=by show o+1-1=o;omega
  rw [ei] at h;cases h with
  | @leaf _ q i w e c hh=>
   rw [e0] at e;cases e;exact⟨.lf q i,rfl,rfl,c,hh⟩
  | node e _ _ _ _=>rw [e0] at e;cases e
 | .node l r,o,hs,p,w,h=>by
  have es:(Tr.node l r).size=l.size+r.size+1:=rfl;have er:en t 0 (o+(l.size+r.size))=.pair (o+l.size-1) (o+l.size+r.size-1):=by rw [hs _ (by omega),en,if_neg (by omega),if_neg (by omega)]
  have ei:o+(Tr.node l r).size-1=o+(l.size+r.size):=by omega
  rw [ei] at h;have hl:∀k,k < l.size->en t 0 (o+k)=en l o k:=fun k hk=>by rw [hs k (by omega),en,if_pos hk]
  have hr:∀k,k < r.size->en t 0 (o+l.size+k)=en r (o+l.size) k:=fun k hk=>by rw [A7,hs _ (by omega),en,if_neg (by omega),if_pos (by omega),CC]
  cases h with
  | leaf e _ _=>rw [er] at e;cases e
  | @node _ q i a b nm x y p1 p2 wa wb e c hd h1 h2=>
  rw [er] at e;injection e with ea eb;subst ea;subst eb;obtain⟨u1,a1,a2,a3⟩:=FI l o hl _ _ h1;obtain⟨u2,b1,b2,b3⟩:=FI r (o+l.size) hr _ _ h2;exact⟨.nd q i nm u1 u2,by rw [WT.pv,a1,b1],rfl,c,⟨x,y,p1,p2,hd,a2,b2⟩,a3,b3⟩
def Kt {g:List Sy}{t:Tr}{p:List Nat}{w:PV} (h:Qz g t (t.size-1) p w):∃u:WT,u.pv=w/\u.path=p/\u.Ok g t:=
 FI t 0 (fun k _=>by rw [AQ]) p w (by rw [AQ];exact h)
def WT.Ok.size {g:List Sy}:∀{u:WT}{s:Tr},u.Ok g s->u.size=s.size
 | .lf _ _,.leaf _,_=>rfl
 | .nd _ _ _ a b,.node l r,h=>by
  show a.size+b.size+1=l.size+r.size+1;rw [h.2.2.1.size,h.2.2.2.size]
def WT.Ok.depth {g:List Sy}:∀{u:WT}{s:Tr},u.Ok g s->u.depth=s.depth
 | .lf _ _,.leaf _,_=>rfl
 | .nd _ _ _ a b,.node l r,h=>by
  show max a.depth b.depth+1=max l.depth r.depth+1;rw [h.2.2.1.depth,h.2.2.2.depth]
def WT.Qj (u:WT):gK u.pv=.ret (.int (u.at':Int)):=by
 obtain⟨p,e⟩:=u.HC;have k0:∀(x:PV) (l:List PV),cB (x::l) 0=some x:=fun _ _=>dW (j:=0) rfl;rw [u.yU,e];unfold gK;simp only [W.ag,aG,bh,k0,W.aA,mM,lP]
def IC (t:WT) (hz:t.size<=900):(cO t.pv).le (.ret (t.post.map WT.pv)):=fun Q q=>by
 unfold cO;simp only [W.ag,W.run_bind];refine gN (fun n s=>∃ts bs:List WT,n=WT.bE ts/\s=(bs.map WT.pv,ts.map WT.pv)/\WT.cp ts++bs.reverse=t.post) ⟨[t],[],rfl,rfl,by simp [WT.cp]⟩ ?_;rintro n s ⟨ts,bs,rfl,rfl,hp⟩;have hs:=congrArg BL hp;rw [Ad,WT.Je,Cb,t.bx] at hs;by_cases he:ts=[]
 ·subst he;have hp':bs.reverse=t.post:=hp;simp;rw [<- List.map_reverse,hp'];exact q
 ·obtain⟨us,u,rfl⟩:=Hu he;have NL:=WT.jc us;have hk:=u.L1;have hsu:=u.IU;have hkl:=WT.jc u.kids;have e0:WT.bE [u]=u.size:=by simp [WT.bE]
  rw [WT.oP,e0] at hs;have ea:j8 (bs.map WT.pv) u.pv=.ret (bs.map WT.pv++[u.pv]):=hX (by rw [Af];omega);have ex:xC (us.map WT.pv) (u.kids.map WT.pv)=.ret (us.map WT.pv++u.kids.map WT.pv):=W.ar (a8 (by simp;omega));have ne:(us.map WT.pv++[u.pv]).isEmpty=false:=by simp
  simp only [W.ag,W.ai,A1,Au,Cf,ne,DE,if_true,W.run_bind,MJ,ea];rw [u.yU];simp only [P6,W.ag,Ub,u.abe,aG,W.ai,ex];refine⟨_,?_,us++u.kids,bs++[u],rfl,?_,?_⟩
  ·rw [WT.oP,WT.oP,e0];omega
  ·rw [<- u.yU];simp
  ·rw [<- hp,WT.u9,WT.u9,Dl];have e1:WT.cp [u]=WT.cp u.kids++[u]:=by rw [<- WT.FX];simp [WT.cp]
   rw [e1];simp
theorem o4 {α:Type}{c:α->PV}{f:PV->W PV}{k:α->PV}:∀{l:List α},(∀x∈l,f (c x)=.ret (k x))->dh (l.map c) f=.ret (l.map k)
 | [],_=>rfl
 | x::r,h=>by
  show W.bind (f (c x)) (fun y=>W.bind (dh (r.map c) f) fun m=>W.ret (y::m))=_;rw [h x (.head _),o4 fun y hy=>h y (.tail _ hy)];rfl
def iZ (t:WT) (hz:t.size<=900):(dM t.pv).le (.ret (.tup (t.post.map WT.qz))):=fun Q q=>by
 have k1:∀(x y:PV) (l:List PV),cB (x::y::l) 1=some y:=fun _ _ _=>dW (j:=1) rfl;unfold dM;simp only [W.ag,W.run_bind];refine W.le.use (IC t hz) ?_;rw [o4 (c:=WT.pv) (k:=WT.qz) fun x _=>by
  simp only [W.ag,WT.Qj];rw [x.yU];simp only [W.ag,aG,bh,k1,W.aA];rfl]
 exact q
inductive Sm:Nat->PV->Prop
 | str {n s}:Sm (n+1) (.str s)
 | int {n i}:Sm (n+1) (.int i)
 | tup {n l}:(∀x∈l,Sm n x)->l.length<=900->Sm (n+1) (.tup l)
theorem yx:∀l:List PV,iD l l=l.map fun x=>PV.tup [x,x]
 | []=>by rw [iD];rfl;simp
 | x::l=>by rw [iD,yx l];rfl
theorem same_self:∀{n:Nat}{x:PV},Sm n x->(bL n x x).le (.ret (.bl true))
 | _,_,@Sm.str n s=>fun Q q=>by
  unfold bL;have e:of2 eM (.str s) (.str s)=.ret (.bl true):=by rw [tH,W.ar ⟨by simp,by simp,by simp⟩,HY];simp
  simp only [W.ag,W.run_bind,rq,P9,cv,W.ai,An,if_false,rm,if_true,Ui,beq_self_eq_true,n5,e];exact q
 | _,_,@Sm.int n i=>fun Q q=>by
  unfold bL;simp only [W.ag,W.run_bind,Qe,Qa,Qb,cv,W.ai,An,if_false,tG,PV.nN,bB,Qc,Qd,Ud,DE,n5,eB,beq_self_eq_true];exact q
 | _,_,@Sm.tup n l h hl=>fun Q q=>by
  unfold bL;simp only [W.ag,W.run_bind,lS,P8,cv,W.ai,if_true,D1,An,if_false,dU,GJ,beq_self_eq_true,bB,aG];refine⟨a8 (by omega),?_⟩;show (dh (iD l l) _).run _;rw [yx];refine nA (fun _=>.bl true) (fun x hx R r=>?_) ?_
  ·simp only [xD,W.ag,W.run_bind];exact same_self (h x hx) R r
  ·have e:l.map (fun _=>PV.bl true)=(l.map fun _=>true).map PV.bl:=by rw [A4];rfl
   rw [e,Qv];have e2:(l.map fun _=>true).all id=true:=by simp
   rw [e2];exact q
theorem oJ:∀(n:Nat) (u:WT),u.depth < n->u.size<=300->(bu n u.pv).le (.ret (u.post.map WT.pv))
 | 0,u,h,_=>by omega
 | n+1,.lf p i,h,_=>fun Q q=>by
  unfold bu;simp only [WT.pv,W.ag,W.run_bind,dU,Ar,BD,eB,bB,W.ai];exact q
 | n+1,.nd p i nm a b,h,hz=>fun Q q=>by
  have ed:(WT.nd p i nm a b).depth=max a.depth b.depth+1:=rfl;have es:(WT.nd p i nm a b).size=a.size+b.size+1:=rfl;have i2:∀a b c d:PV,cB [a,b,c,d] 2=some c:=fun _ _ _ _=>rfl;have i3:∀a b c d:PV,cB [a,b,c,d] 3=some d:=fun _ _ _ _=>rfl;have ec:(((0+1+1+1+1:Nat):Int)==2)=false:=rfl;unfold bu;simp only [WT.pv,W.ag,W.run_bind,dU,Ar,BD,eB,bB,W.ai,ec,An,if_false,aG,bh,i2,i3,W.aA];refine W.le.use (oJ n a (by omega) (by omega)) ?_;refine W.le.use (oJ n b (by omega) (by omega)) ?_;rw [xS (by rw [Af,Af,WT.bx,WT.bx];omega)];simp only [W.ai];rw [xS (by simp [WT.bx];omega)];have e:WT.pv (.nd p i nm a b)=.tup [.tup (az (p++[i])),.str nm,a.pv,b.pv]:=rfl;have q:Q ((a.post++b.post++[WT.nd p i nm a b]).map WT.pv):=q;rw [A1,A1,Au,Cf,e] at q;exact q
def OC (u:WT):PV.dP u.qz=true:=by simp [WT.qz]
def Lg (u:WT):PV.e7 u.qz<=2:=by simp [WT.qz]
def wJ (l:List WT):PV.dP (.tup (l.map WT.qz))=true:=by
 rw [P1,k7];intro x hx;obtain⟨u,_,rfl⟩:=AA.mp hx;exact OC u
def Lf (l:List WT):PV.e7 (.tup (l.map WT.qz))<=150:=by
 rw [MC];have:dD (l.map WT.qz)<=2:=lh fun x hx=>by
  obtain⟨u,_,rfl⟩:=AA.mp hx;exact Lg u
 omega
theorem oI:∀(n:Nat) (u:WT),u.depth < n->u.size<=300->(aH n u.pv).le (.ret (.bl true))
 | 0,u,h,_=>by omega
 | n+1,.lf p i,h,_=>fun Q q=>by
  unfold aH;simp only [WT.pv,W.ag,W.run_bind,dU,Ar,BD,eB,bB,W.ai];exact q
 | n+1,.nd p i nm a b,h,hz=>fun Q q=>by
  have ed:(WT.nd p i nm a b).depth=max a.depth b.depth+1:=rfl;have es:(WT.nd p i nm a b).size=a.size+b.size+1:=rfl;have i0:∀a b c d:PV,cB [a,b,c,d] 0=some a:=fun _ _ _ _=>rfl;have i1:∀a b c d:PV,cB [a,b,c,d] 1=some b:=fun _ _ _ _=>rfl;have i2:∀a b c d:PV,cB [a,b,c,d] 2=some c:=fun _ _ _ _=>rfl;have i3:∀a b c d:PV,cB [a,b,c,d] 3=some d:=fun _ _ _ _=>rfl;have ec:(((0+1+1+1+1:Nat):Int)==2)=false:=rfl;unfold aH;have pl:=iZ (.nd p i nm a b) (by omega);have e:WT.pv (.nd p i nm a b)=.tup [.tup (az (p++[i])),.str nm,a.pv,b.pv]:=rfl;rw [e] at pl ⊢;simp only [W.ag,W.run_bind,dU,Ar,BD,eB,bB,W.ai,ec,An,if_false,aG,bh,i0,i1,i2,i3,W.aA,mM,lP];refine W.le.use pl ?_;refine W.le.use (iZ a (by omega)) ?_;refine W.le.use (iZ b (by omega)) ?_;have c1:(a.post.map WT.qz).length+(b.post.map WT.qz).length<=sizeLine:=a8 (by simp [WT.bx];omega);have c2:(a.post.map WT.qz++b.post.map WT.qz).length+[PV.tup [.int (i:Int),.str nm]].length<=sizeLine:=a8 (by simp [WT.bx];omega);have ep:(WT.nd p i nm a b).post.map WT.qz=a.post.map WT.qz++b.post.map WT.qz++[.tup [.int (i:Int),.str nm]]:=by simp [WT.post,WT.qz,WT.at',WT.JU]
  have en:of2 oY (.tup ((WT.nd p i nm a b).post.map WT.qz)) (.tup ((WT.nd p i nm a b).post.map WT.qz))=.ret (.bl false):=by
   rw [H0,W.ar ⟨wJ _,wJ _,Lf _⟩,zP _ (wJ _)];rfl
  simp only [Ia,W.ar c1,W.ai,W.ag,W.ar c2];rw [<- ep,en];simp only [W.ai,bB,An,if_false,W.ag];show (W.bind _ _).run Q;simp only [W.run_bind];refine W.le.use (oI n a (by omega) (by omega)) ?_;rw [n5];exact oI n b (by omega) (by omega) Q q
def Rw (g:List Sy):Ent->WT->Prop
 | .word w,u=>u.JU="found"/\u.at' < g.length/\hm g u.at' w=true
 | .pair _ _,_=>True
inductive uX {α β:Type} (R:α->β->Prop):List α->List β->Prop
 | nil:uX R [] []
 | cons {a b l m}:R a b->uX R l m->uX R (a::l) (b::m)
def uX.app {α β:Type}{R:α->β->Prop}{l:List α}{m:List β}{l':List α}{m':List β} (h:uX R l m) (h':uX R l' m'):uX R (l++l') (m++m'):=by
 induction h with
 | nil=>exact h'
 | cons r _ ih=>exact .cons r ih
theorem wR {g:List Sy}:∀{u:WT}{s:Tr} (o:Nat),u.Ok g s->uX (Rw g) (s.nd o) u.post
 | .lf p i,.leaf w,o,h=>by
  have e:(Tr.leaf w).nd o=[.word w]:=rfl;rw [e];exact .cons ⟨rfl,h.1.last,h.2⟩ .nil
 | .nd p i nm a b,.node l r,o,h=>by
  have e:∃x y,(Tr.node l r).nd o=l.nd o++r.nd (o+l.size)++[.pair x y]:=⟨_,_,rfl⟩;obtain⟨x,y,e⟩:=e;rw [e];exact ((wR o h.2.2.1).app (wR _ h.2.2.2)).app (.cons trivial .nil)
def Xh {g:List Sy}{i:Nat}{w:Str} (h:hm g i w=true):(sy g i).nm=.str w:=by
 unfold hm at h;have h:=(Bool.and_eq_true_iff.mp h).2;revert h;cases (sy g i).nm <;> simp [Gv]
def NT {g:List Sy}:∀{l:List Ent}{m:List WT},uX (Rw g) l m->∀{T:Type}{f:PV->Unit->W (Lp Unit T)}{Q:Lp Unit T->Prop},(∀e u,Rw g e u->(f (.tup [e.pv,u.qz]) ()).run fun o=>match o with | .go _=>True | .out t=>Q (.out t))->Q (.go ())->(kq (iD (l.map Ent.pv) (m.map WT.qz)) () f).run Q:=fun {l m} h T f Q hf q=>by
 refine tB (fun r _=>∃l m,uX (Rw g) l m/\r=iD (l.map Ent.pv) (m.map WT.qz)) ⟨l,m,h,rfl⟩ (fun x r s hx=>?_) (fun _ _=>q);obtain⟨l,m,h,e⟩:=hx;cases h with
 | nil=>rw [Cf,Cf,iD] at e;cases e;simp
 | @cons a b l m r1 h1=>
  rw [Au,Au,iD] at e;injection e with e1 e2;subst e1;subst e2;refine W.mono _ (fun o ho=>?_) (hf a b r1);cases o with
  | go s=>exact⟨l,m,h1,rfl⟩
  | out t=>exact ho
def LX:∀ns:List Int,ns.length<=63->(jC (.cl (ns.map PV.int))).run (·=.bl true):=fun ns hn=>by
 unfold jC;simp only [W.ag,W.run_bind,gD,Af,Ue,Ug,W.ai];obtain⟨k,hk,k1⟩:∃k:Nat,(if (if (6:Int) < (ns.length:Int) then (6:Int) else (ns.length:Int)) > 1 then (if (6:Int) < (ns.length:Int) then (6:Int) else (ns.length:Int)) else 1)=(k:Int)/\k<=6:=by
  refine⟨(if (if (6:Int) < (ns.length:Int) then (6:Int) else (ns.length:Int)) > 1 then (if (6:Int) < (ns.length:Int) then (6:Int) else (ns.length:Int)) else 1).toNat,?_,?_⟩ <;> split <;> split <;> omega
 rw [hk];simp only [fK,W.ar (cx (i:=0) (j:=(k:Int)) (by omega) (by omega)),W.ai,AO];refine zL (fun _ _=>True) trivial (fun i _ hi _=>?_) (fun _ _=>rfl);simp only [W.run_bind];refine Oz (by omega) fun l hl=>⟨hl,?_⟩;unfold eU;simp only [W.run_bind,W.ag];refine GB fun t g=>?_;refine Qs g fun s G=>?_;refine IQ g fun u hu hul=>?_;have hz:u.size<=300:=by have:=u.size_eq;omega
 have hd:u.depth < 12:=by have:=u.n9;omega
 refine whole_run G hu hd (by omega) fun i0 w0 W0=>?_;simp only [W.ai,MH,fK,W.ar (cx (i:=0) (j:=(3:Int)) (by omega) (by omega))];refine W.le.use (gL 12 u hd (by omega)) ?_;refine zL (n:=3) (fun _ s'=>∃i,Qz s u (u.size-1) [i] s') ⟨i0,W0⟩ (fun j w hj hs=>?_) (fun _ _=>trivial);obtain⟨i,Wi⟩:=hs;obtain⟨v,rfl,_,ok⟩:=Kt Wi;have vz:=ok.size;have vd:=ok.depth;simp only [W.ag,W.run_bind];refine W.le.use (oJ 12 v (by omega) (by omega)) ?_;have k0:∀(x:PV) (l:List PV),cB (x::l) 0=some x:=fun _ _=>dW (j:=0) rfl;have k1:∀(x y:PV) (l:List PV),cB (x::y::l) 1=some y:=fun _ _ _=>dW (j:=1) rfl;rw [o4 (c:=WT.pv) (k:=WT.qz) fun x _=>by
  obtain⟨p,e⟩:=x.HC;rw [x.yU,e];simp only [W.ag,aG,bh,k0,k1,W.aA,mM,lP];rfl]
 simp only [W.ai,tE];refine W.le.use (iZ v (by omega)) ?_;refine W.le.use (same_self (n:=4) (.tup (fun x hx=>?_) (by rw [Af,WT.bx];omega))) ?_
 ·obtain⟨y,_,rfl⟩:=AA.mp hx;refine .tup (fun x hx=>?_) (by simp);simp at hx;rcases hx with rfl | rfl
  ·exact .int
  ·exact .str
 have e1:((v.post.map WT.qz).length:Int)=(((u.nd 0).map Ent.pv).length:Int):=by rw [Af,WT.bx,eG,vz]
 simp only [cv,W.ai,D1,An,if_false,W.run_bind,dU,gD,GJ,e1,beq_self_eq_true,bB];refine W.le.use (oI 12 v (by omega) (by omega)) ?_;simp only [cv,W.ai,D1,An,if_false,W.run_bind,cg];refine W.le.use (iZ v (by omega)) ?_;simp only [aG,W.ai];refine⟨a8 (by rw [eG];omega),?_⟩;refine NT (wR 0 ok) (fun e w r=>?_) ?_
 ·simp only [WT.qz,ev_un12,W.ag];cases e with
  | pair a b=>simp [Ent.pv]
  | word x=>
   obtain⟨h1,h2,h3⟩:=r;have nm:=Xh h3;have ne:∀y:Str,of2 oY (.str y) (.str y)=.ret (.bl false):=fun y=>by rw [H0,W.ar ⟨by simp,by simp,by simp⟩,HY];simp
   have ga:=TX h2;simp only [Ent.pv,rq,rm,W.ag,cv,W.run_bind,W.ai,if_true,h1,ne,bB,An,if_false,pC,aG,bh,ga,W.aA,Sy.pv,k0,nm]
 ·simp only [TU,W.run_bind,W.ag];exact whole_run G hu hd (by omega) fun i w h=>⟨i,h⟩
section
def top (i:Nat):Stmt:=PySem.Challenge.pw_treewithin_k20_places_told.main.body.getD i (.Pass ⟨0,0,0,0⟩)
def ig:ay ["tree","backward","waiting","part"] ["tree"] (aj (top 1)):=kx
def iY:ay ["tree","told","loose","part","other","one"] ["tree"] (aj (top 2)):=kx
def IZ:ay ["node"] ["node"] (aj (top 3)):=kx
abbrev t6:List Str:=["tree","told","node","ahead","number","half"]
def eE:ay t6 ["tree"] (aj (top 4)):=kx
abbrev sH:Scope:=uE [("node",lo)]
def me:aF (aj (top 4)) t6 sH ["node"] [none]:=lcs
def FU:ay ["houses","house"] ["houses","house"] (aj (top 6)):=kx
abbrev t4:List Str:=["great","ahead","house","lines","above"]
def fN:ay t4 ["great"] (aj (top 7)):=kx
abbrev sG:Scope:=uE [("house",lo)]
def md:aF (aj (top 7)) t4 sG ["house"] [none]:=lcs
abbrev oq:List Str:=["lines","house"]
def uy:ay oq ["lines","house"] (aj (top 8)):=kx
abbrev o6:Scope:=uE [("far",lo),("house",fr),("lines",fr)]
def kh:aF (aj (top 8)) oq o6 ["far","house","lines"] [none,some 1,some 0]:=lcs
abbrev Fv:List Str:=["great","houses","lines"]
def oS:ay Fv ["great"] (aj (top 9)):=kx
abbrev wX:Scope:=uE [("house",lo),("name_of",gi),("halves",gi),("apart_from",gi),("houses",fr),("lines",fr)]
def pT:aF (aj (top 9)) Fv wX ["house","houses","lines"] [none,some 1,some 2]:=lcs
def FV:ay ["way"] ["way"] (aj (top 11)):=kx
def eQ:ay ["way","backward","waiting","part"] ["way"] (aj (top 12)):=kx
abbrev Fu:List Str:=["way"]
def IX:ay Fu ["way"] (aj (top 13)):=kx
abbrev wW:Scope:=uE [("part",lo),("done_at",gi)]
def pS:aF (aj (top 13)) Fu wW ["part"] [none]:=lcs
abbrev mn:List Str:=["houses","dates"]
def rT:ay mn ["houses","dates"] (aj (top 15)):=kx
abbrev nC:Scope:=uE [("house",lo),("date",lo),("isinstance",gi),("str",gi)]
def ft:aF (aj (top 15)) mn nC ["house","date"] [none,none]:=lcs
def cW:ay ["great","dates","begins","ahead","pairs","number","begin","house","date"] ["great","dates","begins"] (aj (top 16)):=kx
abbrev pN:List Str:=["houses","dates","begins","numbers","pair","house","layer","goes_on","below","under","beside"]
def dZ:ay pN ["houses","dates","begins","numbers","pair"] (aj (top 17)):=kx
abbrev uD:Scope:=uE [("each",lo),("layer",fr),("numbers",fr)]
abbrev uC:Scope:=uE [("far",lo),("house",fr),("layer",fr),("numbers",fr)]
def nG:aF (aj (top 17)) pN uD ["each","layer","numbers"] [none,some 6,some 3]:=lcs
def nF:aF (aj (top 17)) pN uC ["far","house","layer","numbers"] [none,some 5,some 6,some 3]:=lcs
abbrev yo:List Str:=["great","dates","houses","begins","pairs","numbers"]
def kH:ay yo ["great","dates"] (aj (top 18)):=kx
abbrev zj:Scope:=uE [("number",lo),("pair",lo)]
abbrev zi:Scope:=uE [("pair",lo),("stay_of",gi),("begins",fr),("dates",fr),("houses",fr),("numbers",fr)]
def mH:aF (aj (top 18)) yo zj ["number","pair"] [none,none]:=lcs
def sL:aF (aj (top 18)) yo zi ["pair","begins","dates","houses","numbers"] [none,some 3,some 1,some 2,some 5]:=lcs
def ik:ay ["_law_script","_law_k","_law_cell","_law_digits"] ["_law_script","_law_k"] (aj (top 20)):=kx
def jx:ay ["_law_pot_here","_law_many","_law_digit","_law_mixed"] ["_law_pot_here","_law_many"] (aj (top 21)):=kx
def wx:ay ["_law_pot_here","_law_some"] ["_law_pot_here","_law_some"] (aj (top 22)):=kx
def bt:ay ["_law_pot_here","_law_many","_law_letters","_law_first","_law_turn","_law_stem","_law_ends","_law_found","_law_k","_law_letter"] ["_law_pot_here","_law_many"] (aj (top 23)):=kx
def df:ay ["_law_pot_here","_law_words_here","_law_some","_law_way_here","_law_at","_law_pair"] ["_law_pot_here","_law_words_here"] (aj (top 24)):=kx
def uA:ay ["_law_pot_here"] ["_law_pot_here"] (aj (top 25)):=kx
def fH:ay ["_law_tree_here","_law_rows","_law_many","_law_row"] ["_law_tree_here"] (aj (top 26)):=kx
abbrev ke:List Str:=["_law_pot_here","_law_rows","_law_dates_here","_law_house","_law_left","_law_date","_law_ready"]
def cn:ay ke ["_law_pot_here","_law_rows"] (aj (top 27)):=kx
abbrev pd:Scope:=uE [("_law_house",lo),("_law_row",lo),("isinstance",gi),("str",gi)]
abbrev o9:Scope:=uE [("_law_house",lo),("_law_left",fr),("_law_rows",fr)]
def f9:aF (aj (top 27)) ke pd ["_law_house","_law_row"] [none,none]:=lcs
def kl:aF (aj (top 27)) ke o9 ["_law_house","_law_left","_law_rows"] [none,some 4,some 1]:=lcs
abbrev kd:List Str:=["_law_pot_here","_law_great_here","_law_words_here","_law_many"]
def iG:ay kd ["_law_pot_here","_law_great_here"] (aj (top 28)):=kx
abbrev o8:Scope:=uE [("_law_row",lo),("isinstance",gi),("str",gi)]
abbrev o7:Scope:=uE [("_law_k",lo),("_law_pick",gi),("_law_pot_here",fr),("_law_words_here",fr)]
def kj:aF (aj (top 28)) kd o8 ["_law_row"] [none]:=lcs
def ki:aF (aj (top 28)) kd o7 ["_law_k","_law_pot_here","_law_words_here"] [none,some 0,some 2]:=lcs
def mz:ay ["_law_pot_here","_law_great_here"] ["_law_pot_here","_law_great_here"] (aj (top 29)):=kx
def cm:ay ["_law_stays","_law_stay","_law_name","_law_level","_law_under","_law_beside","_law_found","_law_other"] ["_law_stays","_law_stay"] (aj (top 30)):=kx
abbrev qf:List Str:=["_law_stays","_law_rows","_law_can_here","_law_node","_law_stay","_law_row"]
def nk:ay qf ["_law_stays","_law_rows","_law_can_here","_law_node","_law_stay"] (aj (top 31)):=kx
abbrev qG:Scope:=uE [("_law_one",lo),("_law_can_here",fr),("_law_row",fr)]
def kT:aF (aj (top 31)) qf qG ["_law_one","_law_can_here","_law_row"] [none,some 2,some 5]:=lcs
abbrev ub:List Str:=["_law_stays","_law_rows","_law_found","_law_node","_law_stay","_law_on"]
def fP:ay ub ["_law_stays","_law_rows"] (aj (top 32)):=kx
abbrev sI:Scope:=uE [("_law_low",lo),("_law_found",fr),("_law_node",fr)]
def mf:aF (aj (top 32)) ub sI ["_law_low","_law_found","_law_node"] [none,some 2,some 3]:=lcs
abbrev lH:List Str:=["_law_pot_here","_law_stays","_law_rows","_law_can_here","_law_node","_law_stay","_law_path_here","_law_turn","_law_on","_law_ends"]
def eS:ay lH ["_law_pot_here","_law_stays","_law_rows","_law_can_here","_law_node","_law_stay"] (aj (top 33)):=kx
abbrev qF:Scope:=uE [("_law_low",lo),("_law_can_here",fr),("_law_node",fr)]
abbrev qE:Scope:=uE [("_law_low",lo),("_law_can_here",fr),("_law_node",fr)]
def kS:aF (aj (top 33)) lH qF ["_law_low","_law_can_here","_law_node"] [none,some 3,some 4]:=lcs
def kR:aF (aj (top 33)) lH qE ["_law_low","_law_can_here","_law_node"] [none,some 3,some 4]:=lcs
def eF:ay ["_law_pot_here","_law_stays","_law_rows","_law_can_here","_law_node","_law_path_here","_law_deed","_law_one","_law_other","_law_row","_law_first"] ["_law_pot_here","_law_stays","_law_rows","_law_can_here","_law_node","_law_path_here"] (aj (top 34)):=kx
abbrev jn:List Str:=["_law_pot_here","_law_stays","_law_small_here","_law_rows","_law_can_here","_law_last","_law_some"]
def bV:ay jn ["_law_pot_here","_law_stays","_law_small_here"] (aj (top 35)):=kx
abbrev kO:Scope:=uE [("_law_stay",lo),("_law_done",gi),("_law_can_here",fr),("_law_last",fr),("_law_rows",fr),("_law_stays",fr)]
def gk:aF (aj (top 35)) jn kO ["_law_stay","_law_can_here","_law_last","_law_rows","_law_stays"] [none,some 4,some 5,some 3,some 1]:=lcs
def fF:ay ["_law_pot_here","_law_great_here","_law_stays","_law_small_here"] ["_law_pot_here"] (aj (top 36)):=kx
def uz:ay ["_law_way_here"] ["_law_way_here"] (aj (top 37)):=kx
abbrev qe:List Str:=["_law_found","_law_due"]
def wu:ay qe ["_law_found","_law_due"] (aj (top 38)):=kx
abbrev qD:Scope:=uE [("_law_one",lo),("_law_other",lo),("_law_same",gi)]
def gZ:aF (aj (top 38)) qe qD ["_law_one","_law_other"] [none,none]:=lcs
def kI:ay ["_law_way_here"] ["_law_way_here"] (aj (top 39)):=kx
abbrev RD:List Str:=["_law_script","_law_k","_law_pot_here","_law_great_here","_law_stays","_law_small_here","_law_way_here","_law_rows","_law_turn","_law_due","_law_row","_law_stay","_law_deed"]
def eR:ay RD ["_law_script"] (aj (top 40)):=kx
abbrev Jo:Scope:=uE [("_law_one",lo)]
def zp:aF (aj (top 40)) RD Jo ["_law_one"] [none]:=lcs
structure NB (v:EV):Prop where
 isinstance:v.mg "isinstance"=none
 str:v.mg "str"=none
 list:v.mg "list"=none
 reversed:v.mg "reversed"=none
 len:v.mg "len"=none
 tuple:v.mg "tuple"=none
 enumerate:v.mg "enumerate"=none
 range:v.mg "range"=none
 zip:v.mg "zip"=none
 sorted:v.mg "sorted"=none
 dict:v.mg "dict"=none
 abs:v.mg "abs"=none
 int:v.mg "int"=none
 any:v.mg "any"=none
 all:v.mg "all"=none
 bool:v.mg "bool"=none
 min:v.mg "min"=none
 max:v.mg "max"=none
variable {v:EV}
abbrev mV:DF:=⟨"parts_of",top 1,["tree"],1,fun K=>iV K [.v] (dY 1 fj)⟩
def Gm (D:DI v mV) (q:NB v):D.O:=
 NI (n:=1) (m:=fj) D ig fun l hl=>match l,hl with | [eP],_=>fun _ _ _ _ _ _ hr=>show SF _ _ _ [some (.val eP),none,none,none] _ (fj eP) _ from
 (sl 1 ig.nd (a9 (n:=0) ak rfl) fun eD=>
 (sl 2 ig.nd (a9 (n:=1) (af (ae 0) ak) rfl) fun fh=>
 (SF.yC (hd:=(fun (s4:List PV×List PV)=>([some (.val eP),some (.ol none s4.1),some (.ol none s4.2),none]:aX))) (s0:=(eD,fh)) AI (.keep (.keep (.keep (.keep .nil)))) (fun s4=>(QS rfl (bW 2) (fun _=>rfl))) (fun s4=>
 (SF.wI 2 3 rfl (by decide) rfl rfl (.inl rfl) ig.nd rfl (CU rfl) fun t7=>
 (SF.append 1 rfl rfl rfl (.inl rfl) (ae 3) fun fC=>
 (SF.YO (uZ (dA rfl (fg rfl .str rfl q.isinstance (ae 3) rfl q.str boot_str) (fun _=>rfl)))
 (SF.extend 2 rfl rfl rfl (.inl rfl) (au (ae 3)) fun gQ=>
 (SF.gX rfl (.keep (.keep (.keep (.drop .nil))))))
 (SF.gX rfl (.keep (.keep (.keep (.drop .nil))))))))) fun s4=>
 (SF.ma (Q5 rfl rfl rfl q.list rfl q.reversed (wA 1)) fun _=>rfl))))
abbrev og:DF:=⟨"nodes",top 2,["tree"],2,fun K=>kG K [.v] (dY 1 ir)⟩
def Po (D:DI v og) (q:NB v) (GD:mV.C v):D.O:=
 vc (n:=1) (m:=ir) D iY fun l hl=>match l,hl with | [eP],_=>fun _ _ _ _ _ _ hr=>show SF _ _ _ [some (.val eP),none,none,none,none,none] _ (ir eP) _ from
 (sl 1 iY.nd (a9 (n:=0) ak rfl) fun jt=>
 (sl 2 iY.nd (a9 (n:=0) ak rfl) fun wY=>
 (SF.xA (hd:=(fun (s4:List PV×List PV)=>([some (.val eP),some (.ol none s4.1),some (.ol none s4.2),none,none,none]:aX))) (s0:=(jt,wY)) AI rfl (dF rfl (vo (lC GD hr (af (ae 0) ak)))) (.keep (.keep (.keep (.keep (.keep (.keep .nil)))))) (fe 3 iY.nd) (fun s4 wM=>
 (SF.YQ (out1:=fun (yr:List PV×List PV)=>.nx ([some (.val eP),some (.ol none yr.1),some (.ol none yr.2),some (.val wM),none,none]:aX)) (dA rfl (fg rfl .str rfl q.isinstance (ae 3) rfl q.str boot_str) (fun _=>rfl))
 (SF.append 1 rfl rfl rfl (.inl rfl) (ae 3) fun Hi=>
 (SF.nil rfl (.keep (.keep (.keep (.keep (.keep (.keep .nil))))))))
 (SF.wI 2 4 rfl (by decide) rfl rfl (.inl rfl) iY.nd rfl (CU rfl) fun ZT=>
 (SF.wI 2 5 rfl (by decide) rfl rfl (.inl rfl) iY.nd rfl (CU rfl) fun ZS=>
 (SF.append 1 rfl rfl rfl (.inl rfl) (a6 (n:=2) (af (ae 5) (af (ae 4) ak)) rfl) fun Hh=>
 (SF.nil rfl (.keep (.keep (.keep (.keep (.drop (.drop .nil))))))))))
 fun yr=>(SF.append 2 rfl rfl rfl (.inl rfl) (pY (pH rfl rfl q.len (bW 1)) ao) fun zk=>
 (SF.gX rfl (.keep (.keep (.keep (.drop (.keep (.keep .nil)))))))))) fun s4=>
 (SF.eL (eV rfl rfl q.tuple (bW 1)) fun _=>rfl))))
abbrev lB:DF:=⟨"halves",top 3,["node"],1,fun K=>kG K [.v] (dY 1 cY)⟩
def L6 (D:DI v lB) (q:NB v):D.O:=
 vc (n:=1) (m:=cY) D IZ fun l hl=>match l,hl with | [cy],_=>fun _ _ _ _ _ _ hr=>show SF _ _ _ [some (.val cy)] _ (cY cy) _ from
 (SF.eL (MZ (dA rfl (fg rfl .str rfl q.isinstance (ae 0) rfl q.str boot_str) (fun _=>rfl)) (a6 (n:=0) ak rfl) (ae 0)) fun _=>rfl)
abbrev jW:DF:=⟨"ahead_of",top 4,["tree"],3,fun K=>kG K [.v] (dY 1 eu)⟩
def Gp (D:DI v jW) (q:NB v) (nU:og.C v) (kX:lB.C v):D.O:=
 vc (n:=1) (m:=eu) D eE fun l hl=>match l,hl with | [eP],_=>fun _ _ _ _ _ _ hr=>show SF _ _ _ [some (.val eP),none,none,none,none,none] _ (eu eP) _ from
 (sv 1 eE.nd (eC nU hr (af (ae 0) ak)) fun jt=>
 (SF.Hv (i:=3) rfl eE.nd rfl rfl me (dF rfl (c8 (ae 1))) (fun _ _ _ _ _=>(fe 0 me.nd)) (fun _ _ _ _ _ p5=>Ie) rfl fun xY=>
 (SF.T5 (hd:=(fun (s7:List PV)=>([some (.val eP),some (.val jt),none,some (.ol none s7),none,none]:aX))) (s0:=xY) AI rfl (nM rfl rfl q.enumerate (c8 (ae 1))) (.keep (.keep (.keep (.keep (.keep (.keep .nil)))))) (fun _=>(TY rfl (f7 rfl (aM (fe 4 eE.nd) (aM (fe 2 eE.nd) dR))))) (fun s7 t9=>
 (SF.xA (hd:=(fun (qu:List PV)=>([some (.val eP),some (.val jt),some (.val t9.2),some (.ol none qu),some (.val t9.1),none]:aX))) (s0:=s7) AI rfl (dF rfl (c8 (eC kX hr (af (ae 2) ak)))) (.keep (.keep (.keep (.keep (.keep (.keep .nil)))))) (fe 5 eE.nd) (fun qu HW=>
 (SF.KR 3 rfl rfl (.inl rfl) (ae 4) (ae 5) fun Fm=>
 (SF.gX rfl (.keep (.keep (.keep (.keep (.keep (.drop .nil))))))))) fun qu=>
 (SF.gX rfl (.keep (.keep (.drop (.keep (.drop (.keep .nil))))))))) fun s7=>
 (SF.eL (eV rfl rfl q.tuple (bW 3)) fun _=>rfl))))
abbrev lT:DF:=⟨"name_of",top 6,["houses","house"],1,fun K=>kG K [.v,.v] (dY 2 di)⟩
def Jw (D:DI v lT) (q:NB v):D.O:=
 vc (n:=2) (m:=di) D FU fun l hl=>match l,hl with | [cq,gc],_=>fun _ _ _ _ _ _ hr=>show SF _ _ _ [some (.val cq),some (.val gc)] _ (di cq gc) _ from
 (SF.eL (MZ (dA rfl (fg rfl .str rfl q.isinstance (aB rfl (au (ae 0)) (ae 1) (fun _ _=>rfl)) rfl q.str boot_str) (fun _=>rfl)) (aB rfl (au (ae 0)) (ae 1) (fun _ _=>rfl)) (ae 1)) fun _=>rfl)
abbrev mW:DF:=⟨"lines_up",top 7,["great"],4,fun K=>iV K [.v] (dY 1 fm)⟩
def Gn (D:DI v mW) (q:NB v) (mL:jW.C v):D.O:=
 NI (n:=1) (m:=fm) D fN fun l hl=>match l,hl with | [bJ],_=>fun _ _ _ _ _ _ hr=>show SF _ _ _ [some (.val bJ),none,none,none,none] _ (fm bJ) _ from
 (sv 1 fN.nd (eC mL hr (af (ae 0) ak)) fun dX=>
 (SF.Hv (i:=3) rfl fN.nd rfl rfl md (dF rfl (c8 (ae 1))) (fun _ _ _ _ _=>(fe 0 md.nd)) (fun _ _ _ _ _ p5=>(a6 (n:=0) ak rfl)) rfl fun lO=>
 (SF.xA (hd:=(fun (s9:List PV)=>([some (.val bJ),some (.val dX),none,some (.ol none s9),none]:aX))) (s0:=lO) AI rfl (Pu rfl q.range (pY (eH rfl rfl q.len (ae 1)) ao) (mh ao) (mh ao)) (.keep (.keep (.keep (.keep (.keep .nil))))) (fe 2 fN.nd) (fun s9 kW=>
 (sv 4 fN.nd (MZ (dB Gs (aB rfl (au (ae 1)) (ae 2) (fun _ _=>rfl)) Ie) (a6 (n:=0) ak rfl) (aB rfl (bW 3) (aB rfl (au (ae 1)) (ae 2) (fun _ _=>rfl)) (fun _ _=>rfl))) fun Fo=>
 (SF.KR 3 rfl rfl (.inl rfl) (bU rfl (a6 (n:=1) (af (ae 2) ak) rfl) (ae 4)) (ae 2) fun zm=>
 (SF.gX rfl (.keep (.keep (.drop (.keep (.drop .nil))))))))) fun s9=>
 (SF.KZ 3 rfl rfl))))
abbrev jV:DF:=⟨"apart_from",top 8,["lines","house"],1,fun K=>kG K [.v,.v] (dY 2 dj)⟩
def w6 (D:DI v jV) (q:NB v):D.O:=
 vc (n:=2) (m:=dj) D uy fun l hl=>match l,hl with | [pe,gc],_=>fun _ _ _ _ _ _ hr=>show SF _ _ _ [some (.val pe),some (.val gc)] _ (dj pe gc) _ from
 (SF.eL (eV rfl rfl q.tuple (gT (zq rfl kh (fJ rfl q.range (eH rfl rfl q.len (ae 0))) (fun _ _ _ _ _=>(fe 0 kh.nd)) (fun _ _ _ _ _ p3=>(uU.t (kF (v8 rfl (aV hr) (ae 0) (au (aB rfl (au (ae 2)) (ae 1) (fun _ _=>rfl)))) (ib (v8 rfl (aV hr) (ae 1) (au (aB rfl (au (ae 2)) (ae 0) (fun _ _=>rfl)))))))) (fun _ _ _ _ _ p3=>(ae 0)) rfl))) fun _=>rfl)
abbrev tQ:DF:=⟨"ground",top 9,["great"],5,fun K=>kG K [.v] (dY 1 jb)⟩
def L7 (D:DI v tQ) (q:NB v) (nU:og.C v) (GG:mW.C v) (pD:lT.C v) (kX:lB.C v) (xq:jV.C v):D.O:=
 vc (n:=1) (m:=jb) D oS fun l hl=>match l,hl with | [bJ],_=>fun _ _ _ _ _ _ hr=>show SF _ _ _ [some (.val bJ),none,none] _ (jb bJ) _ from
 (sv 1 oS.nd (eC nU hr (af (ae 0) ak)) fun fU=>
 (sl 2 oS.nd (lC GG hr (af (ae 0) ak)) fun lO=>
 SF.cR 2 rfl (SF.eL (eV rfl rfl q.tuple (gT (mI rfl pT (fJ rfl q.range (eH rfl rfl q.len (ae 1))) (fun _ _ _ _ _=>(fe 0 pT.nd)) (fun _ _ _ _ _ p7=>(a6 (n:=4) (af (eC pD hr (af (ae 1) (af (ae 0) ak))) (af ao (af (eC kX hr (af (aB rfl (au (ae 1)) (ae 0) (fun _ _=>rfl)) ak)) (af (eC xq hr (af (ae 2) (af (ae 0) ak))) ak)))) rfl)) rfl))) fun _=>rfl)))
abbrev pL:DF:=⟨"done_at",top 11,["way"],1,fun K=>kG K [.v] (dY 1 gK)⟩
def Jx (D:DI v pL):D.O:=
 vc (n:=1) (m:=gK) D FV fun l hl=>match l,hl with | [my],_=>fun _ _ _ _ _ _ hr=>show SF _ _ _ [some (.val my)] _ (gK my) _ from
 (SF.eL (aB rfl (au (aB rfl (au (ae 0)) ao (fun _ _=>rfl))) (mh ao) (fun _ _=>rfl)) fun _=>rfl)
abbrev iO:DF:=⟨"ways_within",top 12,["way"],1,fun K=>iV K [.v] (dY 1 cO)⟩
def uH (D:DI v iO) (q:NB v):D.O:=
 NI (n:=1) (m:=cO) D eQ fun l hl=>match l,hl with | [my],_=>fun _ _ _ _ _ _ hr=>show SF _ _ _ [some (.val my),none,none,none] _ (cO my) _ from
 (sl 1 eQ.nd (a9 (n:=0) ak rfl) fun eD=>
 (sl 2 eQ.nd (a9 (n:=1) (af (ae 0) ak) rfl) fun fh=>
 (SF.yC (hd:=(fun (s4:List PV×List PV)=>([some (.val my),some (.ol none s4.1),some (.ol none s4.2),none]:aX))) (s0:=(eD,fh)) AI (.keep (.keep (.keep (.keep .nil)))) (fun s4=>(QS rfl (bW 2) (fun _=>rfl))) (fun s4=>
 (SF.wI 2 3 rfl (by decide) rfl rfl (.inl rfl) eQ.nd rfl (CU rfl) fun t7=>
 (SF.append 1 rfl rfl rfl (.inl rfl) (ae 3) fun fC=>
 (SF.extend 2 rfl rfl rfl (.inl rfl) (au (XQ rfl (ae 3) (SQ ao) SR)) fun gQ=>
 (SF.gX rfl (.keep (.keep (.keep (.drop .nil))))))))) fun s4=>
 (SF.ma (Q5 rfl rfl rfl q.list rfl q.reversed (wA 1)) fun _=>rfl))))
abbrev oe:DF:=⟨"places",top 13,["way"],2,fun K=>kG K [.v] (dY 1 dM)⟩
def L5 (D:DI v oe) (q:NB v) (uM:iO.C v) (JN:pL.C v):D.O:=
 vc (n:=1) (m:=dM) D IX fun l hl=>match l,hl with | [my],_=>fun _ _ _ _ _ _ hr=>show SF _ _ _ [some (.val my)] _ (dM my) _ from
 (SF.eL (eV rfl rfl q.tuple (gT (mI rfl pS (dF rfl (vo (lC uM hr (af (ae 0) ak)))) (fun _ _ _ _ _=>(fe 0 pS.nd)) (fun _ _ _ _ _ p3=>(a6 (n:=2) (af (eC JN hr (af (ae 0) ak)) (af (aB rfl (au (ae 0)) ao (fun _ _=>rfl)) ak)) rfl)) rfl))) fun _=>rfl)
abbrev iP:DF:=⟨"split_dates",top 15,["houses","dates"],1,fun K=>iV K [.v,.v] (dY 2 cP)⟩
def uI (D:DI v iP) (q:NB v):D.O:=
 NI (n:=2) (m:=cP) D rT fun l hl=>match l,hl with | [cq,bK],_=>fun _ _ _ _ _ _ hr=>show SF _ _ _ [some (.val cq),some (.val bK)] _ (cP cq bK) _ from
 (SF.ma (Q8 rfl ft (Gu rfl rfl q.zip (c8 (ae 0)) (c8 (ae 1))) (fun _ _ _ _ _=>(TY rfl (f7 rfl (aM (fe 0 ft.nd) (aM (fe 1 ft.nd) dR))))) (fun _ _ _ _ _ t5=>(uZ (dA rfl (fg rfl .str rfl q.isinstance (ae 0) rfl q.str boot_str) (fun _=>rfl)))) (fun _ _ _ _ _ t5=>(ae 1)) (Pe rfl rfl (by decide)) (by decide)) fun _=>rfl)
abbrev mU:DF:=⟨"standing",top 16,["great","dates","begins"],4,fun K=>iV K [.v,.v,.v] (dY 3 fi)⟩
def Gk (D:DI v mU) (q:NB v) (mL:jW.C v):D.O:=
 NI (n:=3) (m:=fi) D cW fun l hl=>match l,hl with | [bJ,bK,eY],_=>fun _ _ _ _ _ _ hr=>show SF _ _ _ [some (.val bJ),some (.val bK),some (.val eY),none,none,none,none,none,none] _ (fi bJ bK eY) _ from
 (sv 3 cW.nd (eC mL hr (af (ae 0) ak)) fun dX=>
 (sl 4 cW.nd (a9 (n:=0) ak rfl) fun wO=>
 (SF.T5 (hd:=(fun (s5:List PV)=>([some (.val bJ),some (.val bK),some (.val eY),some (.val dX),some (.ol none s5),none,none,none,none]:aX))) (s0:=wO) AI rfl (nM rfl rfl q.enumerate (c8 (ae 2))) (.keep (.keep (.keep (.keep (.keep (.keep (.keep (.keep (.keep .nil))))))))) (fun _=>(TY rfl (f7 rfl (aM (fe 5 cW.nd) (aM (fe 6 cW.nd) dR))))) (fun s5 t7=>
 (SF.T5 (hd:=(fun (s9:List PV)=>([some (.val bJ),some (.val bK),some (.val eY),some (.val dX),some (.ol none s9),some (.val t7.1),some (.val t7.2),none,none]:aX))) (s0:=s5) AI rfl (nM rfl rfl q.enumerate (c8 (ae 1))) (.keep (.keep (.keep (.keep (.keep (.keep (.keep (.keep (.keep .nil))))))))) (fun _=>(TY rfl (f7 rfl (aM (fe 7 cW.nd) (aM (fe 8 cW.nd) dR))))) (fun s9 VN=>
 (SF.YO (uU.t (kF (dB WS (ae 8) (ae 6)) (ib (uU.t (uY (dB Gs (aB rfl (au (ae 3)) (ae 7) (fun _ _=>rfl)) Ie) (rK (dB L9 (ae 6) (aB rfl (au (ae 1)) (aB rfl (au (ae 3)) (ae 7) (fun _ _=>rfl)) (fun _ _=>rfl)))))))))
 (SF.append 4 rfl rfl rfl (.inl rfl) (a6 (n:=2) (af (ae 7) (af (ae 5) ak)) rfl) fun y7=>
 (SF.gX rfl (.keep (.keep (.keep (.keep (.keep (.keep (.keep (.drop (.drop .nil)))))))))))
 (SF.gX rfl (.keep (.keep (.keep (.keep (.keep (.keep (.keep (.drop (.drop .nil)))))))))))) fun s9=>
 (SF.gX rfl (.keep (.keep (.keep (.keep (.keep (.drop (.drop (.keep (.keep .nil)))))))))))) fun s5=>
 (SF.KZ 4 rfl rfl))))
abbrev pK:DF:=⟨"stay_of",top 17,["houses","dates","begins","numbers","pair"],2,fun K=>kG K [.v,.v,.v,.v,.v] (dY 5 gJ)⟩
def Jv (D:DI v pK) (q:NB v) (kX:lB.C v) (pD:lT.C v):D.O:=
 vc (n:=5) (m:=gJ) D dZ fun l hl=>match l,hl with | [cq,bK,eY,i7,y8],_=>fun _ _ _ _ _ _ hr=>show SF _ _ _ [some (.val cq),some (.val bK),some (.val eY),some (.val i7),some (.val y8),none,none,none,none,none,none] _ (gJ cq bK eY i7 y8) _ from
 (sv 5 dZ.nd (aB rfl (au (ae 4)) ao (fun _ _=>rfl)) fun lQ=>
 (sv 6 dZ.nd (aB rfl (au (ae 4)) ao (fun _ _=>rfl)) fun nH=>
 (sv 7 dZ.nd (mi L9 (aB rfl (au (ae 1)) (ae 5) (fun _ _=>rfl)) (aB rfl (au (ae 2)) (ae 6) (fun _ _=>rfl))) fun vt=>
 (sv 8 dZ.nd (MZ (dA rfl (ae 7) (fun _=>rfl)) (a6 (n:=1) (af (ae 5) ak) rfl) (eC kX hr (af (aB rfl (au (ae 0)) (ae 5) (fun _ _=>rfl)) ak))) fun below_4=>
 (sv 9 dZ.nd (eV rfl rfl q.tuple (gT (mI rfl nG (dF rfl (c8 (ae 8))) (fun _ _ _ _ _=>(fe 0 nG.nd)) (fun _ _ _ _ _ p9=>(M3 (aV hr) (ae 2) (a6 (n:=2) (af (ae 0) (af (pY (ae 1) ao) ak)) rfl) (fun _ _=>rfl))) rfl))) fun Hf=>
 (sv 10 dZ.nd (eV rfl rfl q.tuple (gT (zq rfl nF (Pw (ae 3)) (fun _ _ _ _ _=>(fe 0 nF.nd)) (fun _ _ _ _ _ Wq=>(uU.t (kF (dB (gn rfl (aV hr)) (aB rfl (au (ae 0)) ao (fun _ _=>rfl)) (ae 2)) (ib (dB (vm rfl (aV hr)) (aB rfl (au (ae 0)) ao (fun _ _=>rfl)) (ae 1)))))) (fun _ _ _ _ _ Wq=>(M3 (aV hr) (ae 3) (ae 0) (fun _ _=>rfl))) rfl))) fun vK=>
 (SF.eL (a6 (n:=4) (af (eC pD hr (af (ae 0) (af (ae 5) ak))) (af (ae 6) (af (ae 9) (af (ae 10) ak)))) rfl) fun _=>rfl)))))))
abbrev xQ:DF:=⟨"dated",top 18,["great","dates"],5,fun K=>kG K [.v,.v] (dY 2 jD)⟩
def Pp (D:DI v xQ) (q:NB v) (nU:og.C v) (uN:iP.C v) (GC:mU.C v) (JM:pK.C v):D.O:=
 vc (n:=2) (m:=jD) D kH fun l hl=>match l,hl with | [bJ,bK],_=>fun _ _ _ _ _ _ hr=>show SF _ _ _ [some (.val bJ),some (.val bK),none,none,none,none] _ (jD bJ bK) _ from
 (sv 2 kH.nd (eC nU hr (af (ae 0) ak)) fun fU=>
 (sl 3 kH.nd (HL rfl (ef (a9 (n:=1) (af ao ak) rfl)) (ef (Pg rfl rfl q.sorted (ef (lC uN hr (af (ae 2) (af (ae 1) ak))))))) fun tT=>
 SF.cR 3 rfl (sl 4 kH.nd (lC GC hr (af (ae 0) (af (ae 1) (af (ae 3) ak)))) fun wN=>
 SF.cR 4 rfl (sv 5 kH.nd (abc (Ql rfl rfl (aV hr) rfl q.dict (ef (LZ rfl mH (nM rfl rfl q.enumerate (c8 (ae 4))) (fun _ _ _ _ _=>(TY rfl (f7 rfl (aM (fe 0 mH.nd) (aM (fe 1 mH.nd) dR))))) (fun _ _ _ _ _ ZU=>(a6 (n:=2) (af (ae 1) (af (ae 0) ak)) rfl)) (Pe rfl rfl (by decide)) (by decide))))) fun sh=>
 (SF.eL (eV rfl rfl q.tuple (gT (mI rfl sL (dF rfl (c8 (ae 4))) (fun _ _ _ _ _=>(fe 0 sL.nd)) (fun _ _ _ _ _ UP=>(eC JM hr (af (ae 3) (af (ae 2) (af (ae 1) (af (ae 4) (af (ae 0) ak))))))) rfl))) fun _=>rfl)))))
abbrev mY:DF:=⟨"_law_pot",top 20,["_law_script","_law_k"],1,fun K=>iV K [.v,.v] (dY 2 fo)⟩
def Gq (D:DI v mY) (q:NB v):D.O:=
 NI (n:=2) (m:=fo) D ik fun l hl=>match l,hl with | [cG,k_],_=>fun _ _ _ _ _ _ hr=>show SF _ _ _ [some (.val cG),some (.val k_),none,none] _ (fo cG k_) _ from
 (sv 2 ik.nd ao fun Nh=>
 (SF.YQ (out1:=fun (s3:PV)=>.nx ([some (.val cG),some (.val k_),some (.val s3),none]:aX)) (dB L9 (ae 1) (eH rfl rfl q.len (ae 0)))
 (sv 2 ik.nd (X2 rfl q.abs (aB rfl (au (ae 0)) (ae 1) (fun _ _=>rfl))) fun Ng=>
 (SF.nil rfl (.keep (.keep (.keep (.keep .nil))))))
 (SF.nil rfl (.keep (.keep (.keep (.keep .nil)))))
 fun s3=>(sv 3 ik.nd (pZ (n6 (ae 2) (pZ (MX ao ao) (MX ao ao))) (rA rfl q.int (mi WU (ae 2) (MX ao ao)))) fun n8=>
 (SF.ma (a9 (n:=3) (af (ae 3) (af (n6 (bU rfl (bU rfl (ae 2) (pZ ao (ae 1))) ao) ao) (af ao ak))) rfl) fun _=>rfl))))
abbrev bO:DF:=⟨"_law_take",top 21,["_law_pot_here","_law_many"],1,fun K=>kG K [.p (dc cU),.v] (dY 1 aZ)⟩
def zw (D:DI v bO):D.O:=
 Sr (n:=1) (fnO (n:=1) (m:=fR) D.fn jx rfl fun ad dg l hl=>match l,hl with | [kg],_=>fun _ _ _ _ _ _ hr=>show SF _ _ _ [some (.ol (some ad) dg),some (.val kg),none,none] _ (fR dg kg) _ from
 (SF.Kh (dB Rb (aB rfl (bW 0) ao (fun _ _=>rfl)) ao)
 (sv 2 jx.nd (n6 (aB rfl (bW 0) ao (fun _ _=>rfl)) (ae 1)) fun Ii=>
 (SF.KR 0 rfl rfl (.inl rfl) (Ru (aB rfl (bW 0) ao (fun _ _=>rfl)) (ae 1)) ao fun mB=>
 (SF.VZ 0 (k:=fun x5=>(x5,mB)) rfl (ae 2) fun _=>rfl)))
 (SF.abg 0 rfl rfl rfl (.inl rfl) ao ao Ts WX fun gU=>
 (sv 3 jx.nd (n6 (bU rfl (bU rfl (pZ (aB rfl (bW 0) ao (fun _ _=>rfl)) ao) (pZ ao (aB rfl (bW 0) ao (fun _ _=>rfl)))) ao) ao) fun sC=>
 (SF.KR 0 rfl rfl (.inl rfl) (n6 (pZ (ae 3) (bU rfl (bU rfl (n6 (ae 3) ao) (pZ ao (aB rfl (bW 0) ao (fun _ _=>rfl)))) ao)) ao) ao fun ip=>
 (SF.VZ 0 (k:=fun uo=>(uo,ip)) rfl (n6 (Ru (aB rfl (bW 0) ao (fun _ _=>rfl)) ao) (ae 1)) fun _=>rfl)))))) N5
abbrev c9:DF:=⟨"_law_pick",top 22,["_law_pot_here","_law_some"],2,fun K=>kG K [.p (dc cU),.v] (dY 1 bb)⟩
def zx (D:DI v c9) (q:NB v) (aE:bO.C v):D.O:=
 vc (n:=1) (m:=bb) D wx fun l hl=>match l,hl with | [yN],_=>fun _ _ _ _ _ _ hr=>show SF _ _ _ [some (.gI (dc cU)),some (.val yN)] _ (bb yN) _ from
 (SF.eL (aB rfl (au (ae 1)) (eC aE hr (bp 0 (af (eH rfl rfl q.len (ae 1)) ak))) (fun _ _=>rfl)) fun _=>rfl)
abbrev jX:DF:=⟨"_law_words",top 23,["_law_pot_here","_law_many"],2,fun K=>iV K [.p (dc cU),.v] (dY 1 cI)⟩
def w9 (D:DI v jX) (q:NB v) (aE:bO.C v):D.O:=
 NI (n:=1) (m:=cI) D bt fun l hl=>match l,hl with | [kg],_=>fun _ _ _ _ _ _ hr=>show SF _ _ _ [some (.gI (dc cU)),some (.val kg),none,none,none,none,none,none,none,none] _ (cI kg) _ from
 (sv 2 bt.nd hU fun pj=>
 (sv 3 bt.nd (eC aE hr (bp 0 (af ao ak))) fun rk=>
 (sv 4 bt.nd (aB rfl (gT (a9 (n:=6) (af ao (af ao (af ao (af ao (af ao (af ao ak)))))) rfl)) (eC aE hr (bp 0 (af ao ak))) (fun _ _=>rfl)) fun FO=>
 (sv 5 bt.nd (aB rfl (gT (a9 (n:=2) (af hU (af hU ak)) rfl)) (eC aE hr (bp 0 (af ao ak))) (fun _ _=>rfl)) fun v9=>
 (sl 6 bt.nd (a9 (n:=4) (af hU (af hU (af hU (af hU ak)))) rfl) fun xH=>
 SF.cR 6 rfl (sl 7 bt.nd (a9 (n:=0) ak rfl) fun tq=>
 (SF.xA (hd:=(fun (R7:List PV)=>([some (.gI (dc cU)),some (.val kg),some (.val pj),some (.val rk),some (.val FO),some (.val v9),some (.val (.cl xH)),some (.ol none R7),none,none]:aX))) (s0:=tq) AI rfl (fJ rfl q.range (ae 1)) (.keep (.keep (.keep (.keep (.keep (.keep (.keep (.keep (.keep (.keep .nil)))))))))) (fe 8 bt.nd) (fun R7 Ti=>
 (sv 9 bt.nd (XY (ae 2) (n6 (bU rfl (ae 3) (pZ (ae 4) (ae 8))) ao) (fun _ _=>rfl)) fun vh=>
 (SF.append 7 rfl rfl rfl (.inl rfl) (bU rfl (bU rfl (ae 5) (ae 9)) (aB rfl (au (ae 6)) (n6 (bU rfl (ae 3) (ae 8)) ao) (fun _ _=>rfl))) fun zJ=>
 (SF.gX rfl (.keep (.keep (.keep (.keep (.keep (.keep (.keep (.keep (.drop (.drop .nil)))))))))))))) fun R7=>
 (SF.KZ 7 rfl rfl))))))))
abbrev iz:DF:=⟨"_law_tree",top 24,["_law_pot_here","_law_words_here"],2,fun K=>kG K [.p (dc cU),.v] (dY 1 dN)⟩
def zv (D:DI v iz) (q:NB v) (aE:bO.C v):D.O:=
 vc (n:=1) (m:=dN) D df fun l hl=>match l,hl with | [cC],_=>fun _ _ _ _ _ _ hr=>show SF _ _ _ [some (.gI (dc cU)),some (.val cC),none,none,none,none] _ (dN cC) _ from
 (sl 2 df.nd (S9 rfl rfl q.list (au (ae 1))) fun rP=>
 (sv 3 df.nd (eC aE hr (bp 0 (af ao ak))) fun gP=>
 (SF.yC (hd:=(fun (s4:List PV)=>([some (.gI (dc cU)),some (.val cC),some (.ol none s4),some (.val gP),none,none]:aX))) (s0:=rP) AI (.keep (.keep (.keep (.keep (.keep (.keep .nil)))))) (fun s4=>(dB Rb (pH rfl rfl q.len (bW 2)) ao)) (fun s4=>
 (sv 4 df.nd (aB rfl (gT (a9 (n:=4) (af (eC aE hr (bp 0 (af (pY (pH rfl rfl q.len (bW 2)) ao) ak))) (af (pY (pH rfl rfl q.len (bW 2)) ao) (af ao (af ao ak)))) rfl)) (ae 3) (fun _ _=>rfl)) fun m7=>
 (sv 5 df.nd (a6 (n:=2) (af (aB rfl (bW 2) (ae 4) (fun _ _=>rfl)) (af (aB rfl (bW 2) (bU rfl (ae 4) ao) (fun _ _=>rfl)) ak)) rfl) fun qX=>
 (SF.YQ (out1:=fun (UO:PV)=>.nx ([some (.gI (dc cU)),some (.val cC),some (.ol none s4),some (.val gP),some (.val m7),some (.val UO)]:aX)) (uU.t (kF (dB (gn rfl (aV hr)) (ae 3) ao) (ib (dB (gn rfl (aV hr)) (eC aE hr (bp 0 (af ao ak))) ao))))
 (sv 5 df.nd (a6 (n:=2) (af (aB rfl (bW 2) (bU rfl (ae 4) ao) (fun _ _=>rfl)) (af (aB rfl (bW 2) (ae 4) (fun _ _=>rfl)) ak)) rfl) fun qW=>
 (SF.nil rfl (.keep (.keep (.keep (.keep (.keep (.keep .nil))))))))
 (SF.nil rfl (.keep (.keep (.keep (.keep (.keep (.keep .nil)))))))
 fun UO=>(SF.VQ 2 rfl rfl (.inl rfl) (a9 (n:=1) (af (ae 5) ak) rfl) (ae 4) (bU rfl (ae 4) ao) fun qU=>
 (SF.gX rfl (.keep (.keep (.keep (.keep (.drop (.drop .nil)))))))))))) fun s4=>
 (SF.eL (aB rfl (bW 2) ao (fun _ _=>rfl)) fun _=>rfl))))
abbrev j5:DF:=⟨"_law_great",top 25,["_law_pot_here"],3,fun K=>kG K [.p (dc cU)] (dY 0 c6)⟩
def xc (D:DI v j5) (q:NB v) (kY:iz.C v) (xr:jX.C v) (aE:bO.C v):D.O:=
 vc (n:=0) (m:=c6) D uA fun l hl=>match l,hl with | [],_=>fun _ _ _ _ _ _ hr=>show SF _ _ _ [some (.gI (dc cU))] _ (c6) _ from
 (SF.eL (eC kY hr (bp 0 (af (vC (lC xr hr (bp 0 (af (bU rfl ao (eC aE hr (bp 0 (af (aB rfl (gT (a9 (n:=2) (af ao (af ao ak)) rfl)) (rA rfl q.int (mi (gn rfl (aV hr)) (eC aE hr (bp 0 (af ao ak))) ao)) (fun _ _=>rfl)) ak)))) ak)))) ak))) fun _=>rfl)
abbrev dz:DF:=⟨"_law_nodes",top 26,["_law_tree_here"],12,fun K=>iV K [.v] (dY 1 (aW 12))⟩
theorem nJ (D:DI v dz) (q:NB v):∀n,gH v.P v.w v.K v.mg v.base qR (n+0) D.f D.fd ["_law_tree_here"] (iV v.K [.v] (dY 1 (aW n)))
 | 0=>zM (Hr fun l Q hl=>match l,hl with | [cF],_=>fun h=>h.elim)
 | n+1=>have bw:=D.cN (nJ D q n)
  fnL (k:=n+0) (n:=1) (m:=aW (n+1)) D.fn fH rfl (sg lM) fun l hl=>match l,hl with | [cF],_=>fun _ _ _ _ _ _ hr=>show SF _ _ _ [some (.val cF),none,none,none] _ (aW (n+1) cF) _ from
 (SF.Kh (dA rfl (fg rfl .str rfl q.isinstance (ae 0) rfl q.str boot_str) (fun _=>rfl))
 (SF.ma (a9 (n:=1) (af (ae 0) ak) rfl) fun _=>rfl)
 (sl 1 fH.nd (lC bw hr (af (aB rfl (au (ae 0)) ao (fun _ _=>rfl)) ak)) fun wz=>
 (sv 2 fH.nd (pH rfl rfl q.len (bW 1)) fun sE=>
 (SF.xA (hd:=(fun (s6:List PV)=>([some (.val cF),some (.ol none s6),some (.val sE),none]:aX))) (s0:=wz) AI rfl (dF rfl (vo (lC bw hr (af (aB rfl (au (ae 0)) ao (fun _ _=>rfl)) ak)))) (.keep (.keep (.keep (.keep .nil)))) (fe 3 fH.nd) (fun s6 yO=>
 (SF.append 1 rfl rfl rfl (.inl rfl) (MZ (dA rfl (fg rfl .str rfl q.isinstance (ae 3) rfl q.str boot_str) (fun _=>rfl)) (ae 3) (a6 (n:=2) (af (bU rfl (aB rfl (au (ae 3)) ao (fun _ _=>rfl)) (ae 2)) (af (bU rfl (aB rfl (au (ae 3)) ao (fun _ _=>rfl)) (ae 2)) ak)) rfl)) fun KW=>
 (SF.gX rfl (.keep (.keep (.keep (.drop .nil))))))) fun s6=>
 (SF.ma (HL rfl (wA 1) (ef (a9 (n:=1) (af (a6 (n:=2) (af (pY (ae 2) ao) (af (pY (pH rfl rfl q.len (bW 1)) ao) ak)) rfl) ak) rfl))) fun _=>rfl)))))
abbrev j7:DF:=⟨"_law_dates",top 27,["_law_pot_here","_law_rows"],3,fun K=>kG K [.p (dc cU),.v] (dY 1 dr)⟩
def xg (D:DI v j7) (q:NB v) (bA:c9.C v) (aE:bO.C v):D.O:=
 vc (n:=1) (m:=dr) D cn fun l hl=>match l,hl with | [a7],_=>fun _ _ _ _ _ _ hr=>show SF _ _ _ [some (.gI (dc cU)),some (.val a7),none,none,none,none,none] _ (dr a7) _ from
 (sl 2 cn.nd (LY (a9 (n:=1) (af ao ak) rfl) (eH rfl rfl q.len (ae 1))) fun jT=>
 (sl 4 cn.nd (Q8 rfl f9 (nM rfl rfl q.enumerate (c8 (ae 1))) (fun _ _ _ _ _=>(TY rfl (f7 rfl (aM (fe 0 f9.nd) (aM (fe 1 f9.nd) dR))))) (fun _ _ _ _ _ t9=>(uZ (dA rfl (fg rfl .str rfl q.isinstance (ae 1) rfl q.str boot_str) (fun _=>rfl)))) (fun _ _ _ _ _ t9=>(ae 0)) (Pe rfl rfl (by decide)) (by decide)) fun Gf=>
 (sv 5 cn.nd ao fun xP=>
 (SF.yC (hd:=(fun (qu:List PV×List PV×PV)=>([some (.gI (dc cU)),some (.val a7),some (.ol none qu.1),none,some (.ol none qu.2.1),some (.val qu.2.2),none]:aX))) (s0:=(jT,Gf,xP)) AI (.keep (.keep (.keep (.keep (.keep (.keep (.keep .nil))))))) (fun qu=>(KC rfl (aV hr) (wA 4))) (fun qu=>
 (SF.as (Ux 4 rfl (Uw (i:=6) rfl cn.nd rfl rfl kl (dF rfl (c8 (ae 4))) (fun _ _ _ _ _=>(fe 0 kl.nd)) (fun _ _ _ _ _ Wo=>(uU.t (kF (v8 rfl (aV hr) (aB rfl (au (aB rfl (au (ae 2)) (ae 0) (fun _ _=>rfl))) ao (fun _ _=>rfl)) (au (ae 1))) (ib (v8 rfl (aV hr) (aB rfl (au (aB rfl (au (ae 2)) (ae 0) (fun _ _=>rfl))) ao (fun _ _=>rfl)) (au (ae 1))))))) (fun _ _ _ _ _ Wo=>(ae 0)) rfl)) fun yS=>
 SF.cR 6 rfl (sv 3 cn.nd (eC bA hr (bp 0 (af (ae 6) ak))) fun sW=>
 (sv 5 cn.nd (bU rfl (bU rfl (ae 5) ao) (eC aE hr (bp 0 (af (aB rfl (gT (a9 (n:=3) (af ao (af ao (af ao ak))) rfl)) (eC aE hr (bp 0 (af ao ak))) (fun _ _=>rfl)) ak)))) fun xO=>
 (SF.KR 2 rfl rfl (.inl rfl) (ae 5) (ae 3) fun mj=>
 (SF.remove 4 rfl rfl rfl (.inr (.inl rfl)) (ae 3) fun HI=>
 (SF.gX rfl (.keep (.keep (.keep (.drop (.keep (.keep (.drop .nil)))))))))))))) fun qu=>
 (SF.eL (eV rfl rfl q.tuple (bW 2)) fun _=>rfl)))))
abbrev jY:DF:=⟨"_law_small",top 28,["_law_pot_here","_law_great_here"],13,fun K=>kG K [.p (dc cU),.v] (dY 1 dm)⟩
def xa (D:DI v jY) (q:NB v) (bw:dz.C v) (aE:bO.C v) (kY:iz.C v) (bA:c9.C v):D.O:=
 vc (n:=1) (m:=dm) D iG fun l hl=>match l,hl with | [bz],_=>fun _ _ _ _ _ _ hr=>show SF _ _ _ [some (.gI (dc cU)),some (.val bz),none,none] _ (dm bz) _ from
 (sl 2 iG.nd (zq rfl kj (dF rfl (vo (lC bw hr (af (ae 1) ak)))) (fun _ _ _ _ _=>(fe 0 kj.nd)) (fun _ _ _ _ _ p4=>(dA rfl (fg rfl .str rfl q.isinstance (ae 0) rfl q.str boot_str) (fun _=>rfl))) (fun _ _ _ _ _ p4=>(ae 0)) rfl) fun m9=>
 SF.cR 2 rfl (sv 3 iG.nd (bU rfl ao (eC aE hr (bp 0 (af (aB rfl (gT (a9 (n:=2) (af ao (af ao ak)) rfl)) (rA rfl q.int (mi (gn rfl (aV hr)) (eC aE hr (bp 0 (af ao ak))) ao)) (fun _ _=>rfl)) ak)))) fun LQ=>
 (SF.eL (eC kY hr (bp 0 (af (vC (mI rfl ki (fJ rfl q.range (ae 3)) (fun _ _ _ _ _=>(fe 0 ki.nd)) (fun _ _ _ _ _ p12=>(eC bA hr (bp 1 (af (ae 2) ak)))) rfl)) ak))) fun _=>rfl)))
abbrev eX:DF:=⟨"_law_any_ground",top 29,["_law_pot_here","_law_great_here"],13,fun K=>kG K [.p (dc cU),.v] (dY 1 bG)⟩
def nK (D:DI v eX) (aE:bO.C v) (Mw:tQ.C v) (PX:xQ.C v) (xx:j7.C v) (bw:dz.C v):D.O:=
 vc (n:=1) (m:=bG) D mz fun l hl=>match l,hl with | [bz],_=>fun _ _ _ _ _ _ hr=>show SF _ _ _ [some (.gI (dc cU)),some (.val bz)] _ (bG bz) _ from
 (SF.Kh (dB (gn rfl (aV hr)) (eC aE hr (bp 0 (af ao ak))) ao)
 (SF.eL (eC Mw hr (af (ae 1) ak)) fun _=>rfl)
 (SF.eL (eC PX hr (af (ae 1) (af (eC xx hr (bp 0 (af (vC (lC bw hr (af (ae 1) ak))) ak))) ak))) fun _=>rfl))
abbrev j6:DF:=⟨"_law_deeds",top 30,["_law_stays","_law_stay"],1,fun K=>iV K [.v,.v] (dY 2 dq)⟩
def xf (D:DI v j6) (q:NB v):D.O:=
 NI (n:=2) (m:=dq) D cm fun l hl=>match l,hl with | [ax,bR],_=>fun _ _ _ _ _ _ hr=>show SF _ _ _ [some (.val ax),some (.val bR),none,none,none,none,none,none] _ (dq ax bR) _ from
 (SF.R5 (aB rfl (au (ae 0)) (ae 1) (fun _ _=>rfl)) (g_4 rfl (f7 rfl (aM (fe 2 cm.nd) (aM (fe 3 cm.nd) (aM (fe 4 cm.nd) (aM (fe 5 cm.nd) dR)))))) fun t3=>
 (sl 6 cm.nd (a9 (n:=1) (af (a6 (n:=3) (af hU (af (ae 1) (af (ae 1) ak))) rfl) ak) rfl) fun xy=>
 (SF.YQ (out1:=fun (VV:List PV)=>.nx ([some (.val ax),some (.val bR),some (.val t3.1),some (.val t3.2.1),some (.val t3.2.2.1),some (.val t3.2.2.2),some (.ol none VV),none]:aX)) (dB (gn rfl (aV hr)) (eH rfl rfl q.len (ae 4)) ao)
 (SF.extend 6 rfl rfl rfl (.inl rfl) (gT (a9 (n:=2) (af (a6 (n:=3) (af hU (af (aB rfl (au (ae 4)) ao (fun _ _=>rfl)) (af (aB rfl (au (ae 4)) ao (fun _ _=>rfl)) ak))) rfl) (af (a6 (n:=3) (af hU (af (aB rfl (au (ae 4)) ao (fun _ _=>rfl)) (af (aB rfl (au (ae 4)) ao (fun _ _=>rfl)) ak))) rfl) ak)) rfl)) fun zK=>
 (SF.nil rfl (.keep (.keep (.keep (.keep (.keep (.keep (.keep (.keep .nil))))))))))
 (SF.nil rfl (.keep (.keep (.keep (.keep (.keep (.keep (.keep (.keep .nil)))))))))
 fun VV=>(SF.xA (hd:=(fun (Oj:List PV)=>([some (.val ax),some (.val bR),some (.val t3.1),some (.val t3.2.1),some (.val t3.2.2.1),some (.val t3.2.2.2),some (.ol none Oj),none]:aX))) (s0:=VV) AI rfl (dF rfl (c8 (ae 5))) (.keep (.keep (.keep (.keep (.keep (.keep (.keep (.keep .nil)))))))) (fe 7 cm.nd) (fun Oj i6=>
 (SF.extend 6 rfl rfl rfl (.inl rfl) (gT (a9 (n:=2) (af (a6 (n:=3) (af hU (af (ae 1) (af (ae 7) ak))) rfl) (af (a6 (n:=3) (af hU (af (ae 7) (af (ae 1) ak))) rfl) ak)) rfl)) fun nW=>
 (SF.gX rfl (.keep (.keep (.keep (.keep (.keep (.keep (.keep (.drop .nil))))))))))) fun Oj=>
 (SF.KZ 6 rfl rfl)))))
abbrev eI:DF:=⟨"_law_done",top 31,["_law_stays","_law_rows","_law_can_here","_law_node","_law_stay"],2,fun K=>iV K [.v,.v,.v,.v,.v] (dY 5 bM)⟩
def zA (D:DI v eI) (q:NB v) (xw:j6.C v):D.O:=
 NI (n:=5) (m:=bM) D nk fun l hl=>match l,hl with | [ax,a7,aJ,cy,bR],_=>fun _ _ _ _ _ _ hr=>show SF _ _ _ [some (.val ax),some (.val a7),some (.val aJ),some (.val cy),some (.val bR),none] _ (bM ax a7 aJ cy bR) _ from
 (sv 5 nk.nd (aB rfl (au (ae 1)) (ae 3) (fun _ _=>rfl)) fun yP=>
 (SF.Kh (dA rfl (fg rfl .str rfl q.isinstance (ae 5) rfl q.str boot_str) (fun _=>rfl))
 (SF.ma (LY (a9 (n:=1) (af (a6 (n:=3) (af hU (af (ae 4) (af (ae 4) ak))) rfl) ak) rfl) (rA rfl q.int (zS (mi (gn rfl (aV hr)) (aB rfl (au (aB rfl (au (ae 0)) (ae 4) (fun _ _=>rfl))) ao (fun _ _=>rfl)) (a6 (n:=0) ak rfl)) (vB (mi (gn rfl (aV hr)) (aB rfl (au (aB rfl (au (ae 0)) (ae 4) (fun _ _=>rfl))) ao (fun _ _=>rfl)) (ae 5)))))) fun _=>rfl)
 (SF.ma (zq rfl kT (dF rfl (vo (lC xw hr (af (ae 0) (af (ae 4) ak))))) (fun _ _ _ _ _=>(fe 0 kT.nd)) (fun _ _ _ _ _ Wr=>(uU.t (kF (dA rfl (aB rfl (au (aB rfl (au (ae 1)) (aB rfl (au (ae 2)) ao (fun _ _=>rfl)) (fun _ _=>rfl))) (aB rfl (au (ae 0)) ao (fun _ _=>rfl)) (fun _ _=>rfl)) (fun _=>rfl)) (ib (dA rfl (aB rfl (au (aB rfl (au (ae 1)) (aB rfl (au (ae 2)) ao (fun _ _=>rfl)) (fun _ _=>rfl))) (aB rfl (au (ae 0)) ao (fun _ _=>rfl)) (fun _ _=>rfl)) (fun _=>rfl)))))) (fun _ _ _ _ _ Wr=>(ae 0)) rfl) fun _=>rfl)))
abbrev mZ:DF:=⟨"_law_can",top 32,["_law_stays","_law_rows"],3,fun K=>iV K [.v,.v] (dY 2 fq)⟩
def Gr (D:DI v mZ) (q:NB v) (cf:eI.C v):D.O:=
 NI (n:=2) (m:=fq) D fP fun l hl=>match l,hl with | [ax,a7],_=>fun _ _ _ _ _ _ hr=>show SF _ _ _ [some (.val ax),some (.val a7),none,none,none,none] _ (fq ax a7) _ from
 (SF.VT (i:=2) fP.nd rfl (Cz rfl)
 (SF.xA (hd:=(fun (s3:(List Addr×List (List PV)))=>([some (.val ax),some (.val a7),some (.qY s3.1 s3.2),none,none,none]:aX))) (s0:=(([]:List Addr),([]:List (List PV)))) AI rfl (fJ rfl q.range (eH rfl rfl q.len (ae 1))) (.keep (.keep (.keep (.keep (.keep (.keep .nil)))))) (fe 3 fP.nd) (fun s3 so=>
 (SF.Nt 2 rfl rfl rfl (.inr (.inl rfl)) (LY (a9 (n:=1) (af GL ak) rfl) (eH rfl rfl q.len (ae 0))) fun b9 tu=>
 (SF.xA (hd:=(fun (Ke:(List Addr×List (List PV)))=>([some (.val ax),some (.val a7),some (.qY Ke.1 Ke.2),some (.val so),none,none]:aX))) (s0:=(b9,tu)) AI rfl (fJ rfl q.range (eH rfl rfl q.len (ae 0))) (.keep (.keep (.keep (.keep (.keep (.keep .nil)))))) (fe 4 fP.nd) (fun Ke qT=>
 (sv 5 fP.nd (Ig 2 rfl (Rv 2 rfl (X0 rfl rfl rfl q.any (ef (mI rfl mf (dF rfl (c8 (aB rfl (au (aB rfl (au (ae 0)) (ae 4) (fun _ _=>rfl))) ao (fun _ _=>rfl)))) (fun _ _ _ _ _=>(fe 0 mf.nd)) (fun _ _ _ _ _ Yz=>(aB rfl (au (aB rfl (au (ae 1)) (ae 2) (fun _ _=>rfl))) (ae 0) (fun _ _=>rfl))) rfl))))) fun QZ=>
 (SF.VU 2 rfl rfl rfl (.inr (.inl rfl)) (Ig 2 rfl (Rv 2 rfl (XR (ae 5) (vB (XT rfl (aV hr) (ef (lC cf hr (af (ae 0) (af (ae 1) (af (ae 2) (af (ae 3) (af (ae 4) ak)))))))))))) (ae 3) (ae 4) (fun _ _=>rfl) fun zI=>
 (SF.gX rfl (.keep (.keep (.keep (.keep (.drop (.drop .nil)))))))))) fun Ke=>
 (SF.gX rfl (.keep (.keep (.keep (.drop (.keep (.keep .nil)))))))))) fun s3=>
 (SF.Xz 2 rfl (SF.KZ 2 rfl rfl))))
abbrev lF:DF:=⟨"_law_path",top 33,["_law_pot_here","_law_stays","_law_rows","_law_can_here","_law_node","_law_stay"],3,fun K=>kG K [.p (dc cU),.v,.v,.v,.v,.v] (dY 5 cZ)⟩
def zy (D:DI v lF) (q:NB v) (aE:bO.C v) (cf:eI.C v) (bA:c9.C v):D.O:=
 vc (n:=5) (m:=cZ) D eS fun l hl=>match l,hl with | [ax,a7,aJ,cy,bR],_=>fun _ _ _ _ _ _ hr=>show SF _ _ _ [some (.gI (dc cU)),some (.val ax),some (.val a7),some (.val aJ),some (.val cy),some (.val bR),none,none,none,none] _ (cZ ax a7 aJ cy bR) _ from
 (sl 6 eS.nd (a9 (n:=1) (af (ae 5) ak) rfl) fun kK=>
 (SF.xA (hd:=(fun (s4:List PV)=>([some (.gI (dc cU)),some (.val ax),some (.val a7),some (.val aJ),some (.val cy),some (.val bR),some (.ol none s4),none,none,none]:aX))) (s0:=kK) AI rfl (fJ rfl q.range (eH rfl rfl q.len (ae 1))) (.keep (.keep (.keep (.keep (.keep (.keep (.keep (.keep (.keep (.keep .nil)))))))))) (fe 7 eS.nd) (fun s4 RP=>
 (SF.KP (i:=8) rfl eS.nd rfl rfl kS (dF rfl (c8 (aB rfl (au (aB rfl (au (ae 1)) (aB rfl (bW 6) (mh ao) (fun _ _=>rfl)) (fun _ _=>rfl))) ao (fun _ _=>rfl)))) (fun _ _ _ _ _=>(fe 0 kS.nd)) (fun _ _ _ _ _ p8=>(dA rfl (aB rfl (au (aB rfl (au (ae 1)) (ae 2) (fun _ _=>rfl))) (ae 0) (fun _ _=>rfl)) (fun _=>rfl))) (fun _ _ _ _ _ p8=>(ae 0)) rfl fun SO=>
 SF.cR 8 rfl (sv 9 eS.nd (XR (XZ rfl (aV hr) (ef (lC cf hr (af (ae 1) (af (ae 2) (af (ae 3) (af (ae 4) (af (aB rfl (bW 6) (mh ao) (fun _ _=>rfl)) ak)))))))) (vB (mi (gn rfl (aV hr)) (eC aE hr (bp 0 (af ao ak))) ao))) fun MV=>
 (SF.YO (uU.t (kF (KC rfl (aV hr) (Sk (ae 8))) (ib (dA rfl (ae 9) (fun _=>rfl)))))
 (SF.append 6 rfl rfl rfl (.inl rfl) (eC bA hr (bp 0 (af (ae 8) ak))) fun gz=>
 (SF.gX rfl (.keep (.keep (.keep (.keep (.keep (.keep (.keep (.drop (.drop (.drop .nil))))))))))))
 (SF.gX rfl (.keep (.keep (.keep (.keep (.keep (.keep (.keep (.drop (.drop (.drop .nil))))))))))))))) fun s4=>
 (SF.yC (hd:=(fun (KU:List PV)=>([some (.gI (dc cU)),some (.val ax),some (.val a7),some (.val aJ),some (.val cy),some (.val bR),some (.ol none KU),none,none,none]:aX))) (s0:=s4) AI (.keep (.keep (.keep (.keep (.keep (.keep (.keep (.keep (.keep (.keep .nil)))))))))) (fun KU=>(Vw rfl (aV hr) (ef (lC cf hr (af (ae 1) (af (ae 2) (af (ae 3) (af (ae 4) (af (aB rfl (bW 6) (mh ao) (fun _ _=>rfl)) ak))))))))) (fun KU=>
 (SF.append 6 rfl rfl rfl (.inl rfl) (eC bA hr (bp 0 (af (vC (zq rfl kR (dF rfl (c8 (aB rfl (au (aB rfl (au (ae 1)) (aB rfl (bW 6) (mh ao) (fun _ _=>rfl)) (fun _ _=>rfl))) ao (fun _ _=>rfl)))) (fun _ _ _ _ _=>(fe 0 kR.nd)) (fun _ _ _ _ _ Yy=>(dA rfl (aB rfl (au (aB rfl (au (ae 1)) (ae 2) (fun _ _=>rfl))) (ae 0) (fun _ _=>rfl)) (fun _=>rfl))) (fun _ _ _ _ _ Yy=>(ae 0)) rfl)) ak))) fun nv=>
 (SF.gX rfl (.keep (.keep (.keep (.keep (.keep (.keep (.keep (.keep (.keep (.keep .nil))))))))))))) fun KU=>
 (SF.eL (eV rfl rfl q.tuple (bW 6)) fun _=>rfl))))
abbrev mX:DF:=⟨"_law_way",top 34,["_law_pot_here","_law_stays","_law_rows","_law_can_here","_law_node","_law_path_here"],15,fun K=>kG K [.p (dc cU),.v,.v,.v,.v,.v] (dY 5 (cJ 12))⟩
theorem sN (D:DI v mX) (bA:c9.C v) (cf:eI.C v) (k6:lF.C v):∀n,gH v.P v.w v.K v.mg v.base qR (n+3) D.f D.fd ["_law_pot_here","_law_stays","_law_rows","_law_can_here","_law_node","_law_path_here"] (kG v.K [.p (dc cU),.v,.v,.v,.v,.v] (dY 5 (cJ n)))
 | 0=>zM (FT fun l Q hl=>match l,hl with | [ax,a7,aJ,cy,eg],_=>fun h=>h.elim)
 | n+1=>have jG:=D.cN (sN D bA cf k6 n)
  Y2 (k:=n+3) (n:=5) (m:=cJ (n+1)) D.fn eF rfl (gW (n:=5)) fun l hl=>match l,hl with | [ax,a7,aJ,cy,eg],_=>fun _ _ _ _ _ _ hr=>show SF _ _ _ [some (.gI (dc cU)),some (.val ax),some (.val a7),some (.val aJ),some (.val cy),some (.val eg),none,none,none,none,none] _ (cJ (n+1) ax a7 aJ cy eg) _ from
 (SF.R5 (eC bA hr (bp 0 (af (vC (lC cf hr (af (ae 1) (af (ae 2) (af (ae 3) (af (ae 4) (af (aB rfl (au (ae 5)) (mh ao) (fun _ _=>rfl)) ak))))))) ak))) (g_3 rfl (f7 rfl (aM (fe 6 eF.nd) (aM (fe 7 eF.nd) (aM (fe 8 eF.nd) dR))))) fun t8=>
 (SF.Kh (dB (gn rfl (aV hr)) (ae 6) hU)
 (SF.eL (a6 (n:=2) (af (ae 5) (af (ae 6) ak)) rfl) fun _=>rfl)
 (sv 9 eF.nd (aB rfl (au (ae 2)) (ae 4) (fun _ _=>rfl)) fun rY=>
 (sv 10 eF.nd (eC jG hr (bp 0 (af (ae 1) (af (ae 2) (af (ae 3) (af (aB rfl (au (ae 9)) ao (fun _ _=>rfl)) (af (eC k6 hr (bp 0 (af (ae 1) (af (ae 2) (af (ae 3) (af (aB rfl (au (ae 9)) ao (fun _ _=>rfl)) (af (ae 7) ak))))))) ak))))))) fun zN=>
 (SF.eL (a6 (n:=4) (af (ae 5) (af (ae 6) (af (ae 10) (af (eC jG hr (bp 0 (af (ae 1) (af (ae 2) (af (ae 3) (af (aB rfl (au (ae 9)) ao (fun _ _=>rfl)) (af (eC k6 hr (bp 0 (af (ae 1) (af (ae 2) (af (ae 3) (af (aB rfl (au (ae 9)) ao (fun _ _=>rfl)) (af (ae 8) ak))))))) ak))))))) ak)))) rfl) fun _=>rfl)))))
abbrev dw:DF:=⟨"_law_whole_way",top 35,["_law_pot_here","_law_stays","_law_small_here"],16,fun K=>kG K [.p (dc cU),.v,.v] (dY 2 bj)⟩
def pq (D:DI v dw) (q:NB v) (bw:dz.C v) (GI:mZ.C v) (cf:eI.C v) (jG:mX.C v) (bA:c9.C v):D.O:=
 vc (n:=2) (m:=bj) D bV fun l hl=>match l,hl with | [ax,ic],_=>fun _ _ _ _ _ _ hr=>show SF _ _ _ [some (.gI (dc cU)),some (.val ax),some (.val ic),none,none,none,none] _ (bj ax ic) _ from
 (sl 3 bV.nd (lC bw hr (af (ae 2) ak)) fun rX=>
 SF.cR 3 rfl (sl 4 bV.nd (lC GI hr (af (ae 1) (af (ae 3) ak))) fun m6=>
 SF.cR 4 rfl (sv 5 bV.nd (pY (eH rfl rfl q.len (ae 3)) ao) fun Gi=>
 (SF.KP (i:=6) rfl bV.nd rfl rfl gk (fJ rfl q.range (eH rfl rfl q.len (ae 1))) (fun _ _ _ _ _=>(fe 0 gk.nd)) (fun _ _ _ _ _ UQ=>(KC rfl (aV hr) (ef (lC cf hr (af (ae 4) (af (ae 3) (af (ae 1) (af (ae 2) (af (ae 0) ak))))))))) (fun _ _ _ _ _ UQ=>(ae 0)) rfl fun KL=>
 SF.cR 6 rfl (SF.eL (eC jG hr (bp 0 (af (ae 1) (af (ae 3) (af (ae 4) (af (ae 5) (af (a6 (n:=1) (af (eC bA hr (bp 0 (af (ae 6) ak))) ak) rfl) ak))))))) fun _=>rfl)))))
abbrev jZ:DF:=⟨"_law_scene",top 36,["_law_pot_here"],17,fun K=>kG K [.p (dc cU)] (dY 0 eU)⟩
def xb (D:DI v jZ) (xv:j5.C v) (nV:eX.C v) (xt:jY.C v) (fv:dw.C v):D.O:=
 vc (n:=0) (m:=eU) D fF fun l hl=>match l,hl with | [],_=>fun _ _ _ _ _ _ hr=>show SF _ _ _ [some (.gI (dc cU)),none,none,none] _ (eU) _ from
 (sv 1 fF.nd (eC xv hr (bp 0 ak)) fun gA=>
 (sv 2 fF.nd (eC nV hr (bp 0 (af (ae 1) ak))) fun wd=>
 (sv 3 fF.nd (eC xt hr (bp 0 (af (ae 1) ak))) fun jw=>
 (SF.eL (a6 (n:=4) (af (ae 1) (af (ae 2) (af (ae 3) (af (eC fv hr (bp 0 (af (ae 2) (af (ae 3) ak)))) ak)))) rfl) fun _=>rfl))))
abbrev j3:DF:=⟨"_law_parts",top 37,["_law_way_here"],12,fun K=>iV K [.v] (dY 1 (bu 12))⟩
theorem nI (D:DI v j3) (q:NB v):∀n,gH v.P v.w v.K v.mg v.base qR (n+0) D.f D.fd ["_law_way_here"] (iV v.K [.v] (dY 1 (bu n)))
 | 0=>zM (Hr fun l Q hl=>match l,hl with | [aP],_=>fun h=>h.elim)
 | n+1=>have gB:=D.cN (nI D q n)
  fnL (k:=n+0) (n:=1) (m:=bu (n+1)) D.fn uz rfl (sg lM) fun l hl=>match l,hl with | [aP],_=>fun _ _ _ _ _ _ hr=>show SF _ _ _ [some (.val aP)] _ (bu (n+1) aP) _ from
 (SF.Kh (dB (gn rfl (aV hr)) (eH rfl rfl q.len (ae 0)) ao)
 (SF.ma (a9 (n:=1) (af (ae 0) ak) rfl) fun _=>rfl)
 (SF.ma (HL rfl (ef (HL rfl (ef (lC gB hr (af (aB rfl (au (ae 0)) ao (fun _ _=>rfl)) ak))) (ef (lC gB hr (af (aB rfl (au (ae 0)) ao (fun _ _=>rfl)) ak))))) (ef (a9 (n:=1) (af (ae 0) ak) rfl))) fun _=>rfl))
abbrev lE:DF:=⟨"_law_same",top 38,["_law_found","_law_due"],4,fun K=>kG K [.v,.v] (dY 2 (bL 4))⟩
theorem pV (D:DI v lE) (q:NB v):∀n,gH v.P v.w v.K v.mg v.base qR (n+0) D.f D.fd ["_law_found","_law_due"] (kG v.K [.v,.v] (dY 2 (bL n)))
 | 0=>zM (FT fun l Q hl=>match l,hl with | [gh,qP],_=>fun h=>h.elim)
 | n+1=>have kZ:=D.cN (pV D q n)
  Y2 (k:=n+0) (n:=2) (m:=bL (n+1)) D.fn wu rfl (sg (sg lM)) fun l hl=>match l,hl with | [gh,qP],_=>fun _ _ _ _ _ _ hr=>show SF _ _ _ [some (.val gh),some (.val qP)] _ (bL (n+1) gh qP) _ from
 (SF.Kh (dA rfl (fg rfl .tup rfl q.isinstance (ae 1) rfl q.tuple boot_tuple) (fun _=>rfl))
 (SF.Kh (uU.t (uY (uZ (dA rfl (fg rfl .tup rfl q.isinstance (ae 0) rfl q.tuple boot_tuple) (fun _=>rfl))) (rK (dB (vm rfl (aV hr)) (eH rfl rfl q.len (ae 0)) (eH rfl rfl q.len (ae 1))))))
 (SF.eL GL fun _=>rfl)
 (SF.eL (X1 rfl rfl rfl q.all (ef (LZ rfl gZ (Gu rfl rfl q.zip (c8 (ae 0)) (c8 (ae 1))) (fun _ _ _ _ _=>(TY rfl (f7 rfl (aM (fe 0 gZ.nd) (aM (fe 1 gZ.nd) dR))))) (fun _ _ _ _ _ t5=>(eC kZ hr (af (ae 0) (af (ae 1) ak)))) (Pe rfl rfl (by decide)) (by decide)))) fun _=>rfl))
 (SF.Kh (uU.t (uY (dA rfl (fg rfl .str rfl q.isinstance (ae 1) rfl q.str boot_str) (fun _=>rfl)) (rK (dB Gs (ae 1) Ie))))
 (SF.eL (zS (mi (gn rfl (aV hr)) (fg rfl .str rfl q.isinstance (ae 0) rfl q.str boot_str) (fg rfl .str rfl q.isinstance (ae 1) rfl q.str boot_str)) (vB (mi (gn rfl (aV hr)) (ae 0) (ae 1)))) fun _=>rfl)
 (SF.eL (zS (fg rfl .int rfl q.isinstance (ae 0) rfl q.int boot_int) (zS (XS (fg rfl .bool rfl q.isinstance (ae 0) rfl q.bool boot_bool)) (vB (mi (gn rfl (aV hr)) (ae 0) (ae 1))))) fun _=>rfl)))
abbrev dH:DF:=⟨"_law_within_right",top 39,["_law_way_here"],14,fun K=>kG K [.v] (dY 1 (aH 12))⟩
theorem gm (D:DI v dH) (q:NB v) (hR:oe.C v):∀n,gH v.P v.w v.K v.mg v.base qR (n+2) D.f D.fd ["_law_way_here"] (kG v.K [.v] (dY 1 (aH n)))
 | 0=>zM (FT fun l Q hl=>match l,hl with | [aP],_=>fun h=>h.elim)
 | n+1=>have cu:=D.cN (gm D q hR n)
  Y2 (k:=n+2) (n:=1) (m:=aH (n+1)) D.fn kI rfl (sg lM) fun l hl=>match l,hl with | [aP],_=>fun _ _ _ _ _ _ hr=>show SF _ _ _ [some (.val aP)] _ (aH (n+1) aP) _ from
 (SF.Kh (dB (gn rfl (aV hr)) (eH rfl rfl q.len (ae 0)) ao)
 (SF.eL GL fun _=>rfl)
 (SF.Kh (dB (vm rfl (aV hr)) (eC hR hr (af (ae 0) ak)) (bU rfl (bU rfl (eC hR hr (af (aB rfl (au (ae 0)) ao (fun _ _=>rfl)) ak)) (eC hR hr (af (aB rfl (au (ae 0)) ao (fun _ _=>rfl)) ak))) (a6 (n:=1) (af (a6 (n:=2) (af (aB rfl (au (aB rfl (au (ae 0)) ao (fun _ _=>rfl))) (mh ao) (fun _ _=>rfl)) (af (aB rfl (au (ae 0)) ao (fun _ _=>rfl)) ak)) rfl) ak) rfl)))
 (SF.eL GL fun _=>rfl)
 (SF.eL (zS (eC cu hr (af (aB rfl (au (ae 0)) ao (fun _ _=>rfl)) ak)) (vB (eC cu hr (af (aB rfl (au (ae 0)) ao (fun _ _=>rfl)) ak)))) fun _=>rfl)))
abbrev Ry:DF:=⟨"law",top 40,["_law_script"],18,fun K=>kG K [.v] (dY 1 jC)⟩
def WR (D:DI v Ry) (q:NB v) (GH:mY.C v) (xu:jZ.C v) (bw:dz.C v) (gB:j3.C v) (cu:dH.C v) (kZ:lE.C v) (hR:oe.C v) (fv:dw.C v):D.O:=
 vc (n:=1) (m:=jC) D eR fun l hl=>match l,hl with | [cG],_=>fun _ _ _ _ _ _ hr=>show SF _ _ _ [some (.val cG),none,none,none,none,none,none,none,none,none,none,none,none] _ (jC cG) _ from
 (SF.Ro (hd:=(fun (s6:Unit)=>([some (.val cG),none,none,none,none,none,none,none,none,none,none,none,none]:aX))) (s0:=()) (inj:=id) AI rfl (fJ rfl q.range (XW rfl rfl q.max ao (XU rfl rfl q.min (eH rfl rfl q.len (ae 0)) ao))) (.keep (.keep (.keep (.keep (.keep (.keep (.keep (.keep (.keep (.keep (.keep (.keep (.keep .nil))))))))))))) (fe 1 eR.nd) (fun _=>trivial) (fun s6 YK=>
 (sl 2 eR.nd (lC GH hr (af (ae 0) (af (ae 1) ak))) fun rZ=>SF.gI 2 rfl
 (SF.R5 (eC xu hr (bp 2 ak)) (g_4 rfl (f7 rfl (aM (fe 3 eR.nd) (aM (fe 4 eR.nd) (aM (fe 5 eR.nd) (aM (fe 6 eR.nd) dR)))))) fun IK=>
 (sl 7 eR.nd (lC bw hr (af (ae 5) ak)) fun nr=>
 SF.cR 7 rfl (SF.Ro (hd:=(fun (yr:PV)=>([some (.val cG),some (.val YK),some (.gI (dc cU)),some (.val IK.1),some (.val IK.2.1),some (.val IK.2.2.1),some (.val yr),some (.val (.cl nr)),none,none,none,none,none]:aX))) (s0:=IK.2.2.2) (inj:=Lp.out) AI rfl (fJ rfl q.range ao) (.keep (.keep (.keep (.keep (.keep (.keep (.keep (.keep (.keep (.keep (.keep (.keep (.keep .nil))))))))))))) (fe 8 eR.nd) (fun _=>trivial) (fun yr Hg=>
 (sv 9 eR.nd (eV rfl rfl q.tuple (gT (mI rfl zp (dF rfl (vo (lC gB hr (af (ae 6) ak)))) (fun _ _ _ _ _=>(fe 0 zp.nd)) (fun _ _ _ _ _ UP=>(a6 (n:=2) (af (aB rfl (au (aB rfl (au (ae 0)) ao (fun _ _=>rfl))) (mh ao) (fun _ _=>rfl)) (af (aB rfl (au (ae 0)) ao (fun _ _=>rfl)) ak)) rfl)) rfl))) fun xM=>
 (SF.Kh (uU.t (uY (uZ (dA rfl (eC kZ hr (af (eC hR hr (af (ae 6) ak)) (af (ae 9) ak))) (fun _=>rfl))) (uY (dB (vm rfl (aV hr)) (eH rfl rfl q.len (ae 9)) (eH rfl rfl q.len (ae 7))) (rK (uZ (dA rfl (eC cu hr (af (ae 6) ak)) (fun _=>rfl)))))))
 (SF.ret (k:=fun Kq=>(Lp.out Kq)) GL fun _=>rfl)
 (SF.XC (hd:=(fun (Yv:Unit)=>([some (.val cG),some (.val YK),some (.gI (dc cU)),some (.val IK.1),some (.val IK.2.1),some (.val IK.2.2.1),some (.val yr),some (.val (.cl nr)),some (.val Hg),some (.val xM),none,none,none]:aX))) (s0:=()) (inj:=Lp.out) AI rfl (Gu rfl rfl q.zip (c8 (ae 7)) (c8 (eC hR hr (af (ae 6) ak)))) (.keep (.keep (.keep (.keep (.keep (.keep (.keep (.keep (.keep (.keep (.keep (.keep (.keep .nil))))))))))))) (fun _=>(g_12 rfl (f7 rfl (aM (fe 10 eR.nd) (aM (f7 rfl (aM (fe 11 eR.nd) (aM (fe 12 eR.nd) dR))) dR))))) (fun _=>trivial) (fun Yv VM=>
 (SF.YO (uU.t (kF (dA rfl (fg rfl .str rfl q.isinstance (ae 10) rfl q.str boot_str) (fun _=>rfl)) (ib (uU.t (uY (dB (vm rfl (aV hr)) (ae 12) hU) (rK (dB (vm rfl (aV hr)) (aB rfl (au (aB rfl (au (ae 4)) (ae 11) (fun _ _=>rfl))) ao (fun _ _=>rfl)) (ae 10))))))))
 (SF.ret (k:=fun RK=>(Lp.out RK)) GL fun _=>rfl)
 (SF.gX rfl (.keep (.keep (.keep (.keep (.keep (.keep (.keep (.keep (.keep (.keep (.drop (.drop (.drop .nil)))))))))))))))) fun Yv=>
 (sv 6 eR.nd (eC fv hr (bp 2 (af (ae 4) (af (ae 5) ak)))) fun pO=>
 (SF.gX rfl (.keep (.keep (.keep (.keep (.keep (.keep (.keep (.keep (.drop (.drop (.keep (.keep (.keep .nil))))))))))))))))))) fun yr=>
 (SF.gX rfl (.keep (.drop (.drop (.drop (.drop (.drop (.drop (.drop (.keep (.keep (.keep (.keep (.keep .nil))))))))))))))))))) fun s6=>
 (SF.eL GL fun _=>rfl))
end
def Yf {v:EV}{h:Heap} (X:v.K.In h) (G:h.Ns mainGlobals v.mg) (q:NB v) (mO:DX v.K "parts_of" (top 1)) (xJ:DX v.K "nodes" (top 2)) (tN:DX v.K "halves" (top 3)) (mQ:DX v.K "ahead_of" (top 4)) (pG:DX v.K "name_of" (top 6)) (mP:DX v.K "lines_up" (top 7)) (jJ:DX v.K "apart_from" (top 8)) (tP:DX v.K "ground" (top 9)) (pI:DX v.K "done_at" (top 11)) (iL:DX v.K "ways_within" (top 12)) (tM:DX v.K "places" (top 13)) (iM:DX v.K "split_dates" (top 15)) (mN:DX v.K "standing" (top 16)) (pF:DX v.K "stay_of" (top 17)) (xK:DX v.K "dated" (top 18)) (mS:DX v.K "_law_pot" (top 20)) (lq:DX v.K "_law_take" (top 21)) (lx:DX v.K "_law_pick" (top 22)) (jK:DX v.K "_law_words" (top 23)) (lj:DX v.K "_law_tree" (top 24)) (jP:DX v.K "_law_great" (top 25)) (jO:DX v.K "_law_nodes" (top 26)) (jR:DX v.K "_law_dates" (top 27)) (jL:DX v.K "_law_small" (top 28)) (eW:DX v.K "_law_any_ground" (top 29)) (jQ:DX v.K "_law_deeds" (top 30)) (lA:DX v.K "_law_done" (top 31)) (mT:DX v.K "_law_can" (top 32)) (ly:DX v.K "_law_path" (top 33)) (mR:DX v.K "_law_way" (top 34)) (fB:DX v.K "_law_whole_way" (top 35)) (jM:DX v.K "_law_scene" (top 36)) (jN:DX v.K "_law_parts" (top 37)) (lu:DX v.K "_law_same" (top 38)) (dG:DX v.K "_law_within_right" (top 39)) (RF:DI v Ry):RF.O:=by
 obtain⟨ud⟩:=mO.kM (d:=mV) X G;obtain⟨Iq⟩:=xJ.kM (d:=og) X G;obtain⟨Fy⟩:=tN.kM (d:=lB) X G;obtain⟨uf⟩:=mQ.kM (d:=jW) X G;obtain⟨vP⟩:=pG.kM (d:=lT) X G;obtain⟨ue⟩:=mP.kM (d:=mW) X G;obtain⟨ou⟩:=jJ.kM (d:=jV) X G;obtain⟨Fz⟩:=tP.kM (d:=tQ) X G;obtain⟨vQ⟩:=pI.kM (d:=pL) X G;obtain⟨mr⟩:=iL.kM (d:=iO) X G;obtain⟨Fx⟩:=tM.kM (d:=oe) X G;obtain⟨mw⟩:=iM.kM (d:=iP) X G;obtain⟨uc⟩:=mN.kM (d:=mU) X G;obtain⟨vO⟩:=pF.kM (d:=pK) X G;obtain⟨Ir⟩:=xK.kM (d:=xQ) X G;obtain⟨uh⟩:=mS.kM (d:=mY) X G;obtain⟨qj⟩:=lq.kM (d:=bO) X G;obtain⟨qo⟩:=lx.kM (d:=c9) X G;obtain⟨ox⟩:=jK.kM (d:=jX) X G;obtain⟨qi⟩:=lj.kM (d:=iz) X G;obtain⟨oC⟩:=jP.kM (d:=j5) X G;obtain⟨oB⟩:=jO.kM (d:=dz) X G;obtain⟨oE⟩:=jR.kM (d:=j7) X G;obtain⟨oy⟩:=jL.kM (d:=jY) X G;obtain⟨iC⟩:=eW.kM (d:=eX) X G;obtain⟨oD⟩:=jQ.kM (d:=j6) X G;obtain⟨qq⟩:=lA.kM (d:=eI) X G;obtain⟨ui⟩:=mT.kM (d:=mZ) X G;obtain⟨qp⟩:=ly.kM (d:=lF) X G;obtain⟨ug⟩:=mR.kM (d:=mX) X G;obtain⟨jq⟩:=fB.kM (d:=dw) X G;obtain⟨oz⟩:=jM.kM (d:=jZ) X G;obtain⟨oA⟩:=jN.kM (d:=j3) X G;obtain⟨qk⟩:=lu.kM (d:=lE) X G;obtain⟨gr⟩:=dG.kM (d:=dH) X G;have G4:=ud.c (Gm ud q);have yb:=Iq.c (Po Iq q G4);have tW:=Fy.c (L6 Fy q);have tX:=uf.c (Gp uf q yb tW);have vL:=vP.c (Jw vP q);have G5:=ue.c (Gn ue q tX);have yc:=ou.c (w6 ou q);have Nz:=Fz.c (L7 Fz q yb G5 vL tW yc);have Kb:=vQ.c (Jx vQ);have uS:=mr.c (uH mr q);have Fq:=Fx.c (L5 Fx q uS Kb);have uT:=mw.c (uI mw q);have G3:=uc.c (Gk uc q tX);have Ka:=vO.c (Jv vO q tW vL);have QA:=Ir.c (Pp Ir q yb uT G3 Ka);have G7:=uh.c (Gq uh q);have cD:=qj.c (zw qj);have fX:=qo.c (zx qo q cD);have yd:=ox.c (w9 ox q cD);have qc:=qi.c (zv qi q cD);have yh:=oC.c (xc oC q qc yd cD);have gG:=oB.c (nJ oB q 12);have yj:=oE.c (xg oE q fX cD);have ye:=oy.c (xa oy q gG cD qc fX);have oo:=iC.c (nK iC cD Nz QA yj gG);have yi:=oD.c (xf oD q);have iA:=qq.c (zA qq q yi);have G8:=ui.c (Gr ui q iA);have Ft:=qp.c (zy qp q cD iA fX);have G6:=ug.c (sN ug fX iA Ft 12);have jk:=jq.c (pq jq q gG G8 iA G6 fX);have yf:=oz.c (xb oz yh oo ye jk);have yg:=oA.c (nI oA q 12);have Fs:=qk.c (pV qk q 4);have lZ:=gr.c (gm gr q Fq 12);exact WR RF q G7 yf gG yg lZ Fs Fq jk
def Hq (K:Ab):Sp:=fun vs H Q _=>∃(a:Addr) (ns:List Int),vs=[.ref a]/\QD H/\cT K H a (ns.map V.int)/\ns.length<=63/\∀H',Q (.bl true) H'
def Pf {K:Ab}:∀vs H Q E,Hq K vs H Q E->kG K [.v] (dY 1 jC) vs H Q E:=fun vs H Q E ⟨a,ns,e,hO,hS,hl,q⟩=>by
 subst e;have fz:RE K H a (ns.map V.int):=by
  rcases hS with (h | ⟨o,h⟩) | h
  ·rcases hO a with z | ⟨o,xs,z⟩
   ·rw [h] at z;cases z
   ·rw [h] at z;cases z
  ·exact .inl ⟨o,h⟩
  ·exact .inr h
 refine⟨[.cl (ns.map PV.int)],.v (.cl fz (nQ _ _ ns)) .nil,(jC (.cl (ns.map PV.int))).mono (fun v e u H' _ r=>?_) (LX ns hl)⟩;subst e;cases r;exact q H'
def all_mk {l:Ep}{w:World}{K:Ab}{h:Heap}{mg:Str->Option Value}{fa:Addr} (X:K.In h) (G:h.Ns mainGlobals mg) (hfa:mg "law"=some (.ref fa)) (mO:DX K "parts_of" (top 1)) (xJ:DX K "nodes" (top 2)) (tN:DX K "halves" (top 3)) (mQ:DX K "ahead_of" (top 4)) (pG:DX K "name_of" (top 6)) (mP:DX K "lines_up" (top 7)) (jJ:DX K "apart_from" (top 8)) (tP:DX K "ground" (top 9)) (pI:DX K "done_at" (top 11)) (iL:DX K "ways_within" (top 12)) (tM:DX K "places" (top 13)) (iM:DX K "split_dates" (top 15)) (mN:DX K "standing" (top 16)) (pF:DX K "stay_of" (top 17)) (xK:DX K "dated" (top 18)) (mS:DX K "_law_pot" (top 20)) (lq:DX K "_law_take" (top 21)) (lx:DX K "_law_pick" (top 22)) (jK:DX K "_law_words" (top 23)) (lj:DX K "_law_tree" (top 24)) (jP:DX K "_law_great" (top 25)) (jO:DX K "_law_nodes" (top 26)) (jR:DX K "_law_dates" (top 27)) (jL:DX K "_law_small" (top 28)) (eW:DX K "_law_any_ground" (top 29)) (jQ:DX K "_law_deeds" (top 30)) (lA:DX K "_law_done" (top 31)) (mT:DX K "_law_can" (top 32)) (ly:DX K "_law_path" (top 33)) (mR:DX K "_law_way" (top 34)) (fB:DX K "_law_whole_way" (top 35)) (jM:DX K "_law_scene" (top 36)) (jN:DX K "_law_parts" (top 37)) (lu:DX K "_law_same" (top 38)) (dG:DX K "_law_within_right" (top 39)) (XX:DX K "law" (top 40)) (vR:AY K mainGlobals "isinstance"=some none) (Vh:AY K mainGlobals "str"=some none) (RH:AY K mainGlobals "list"=some none) (FH:AY K mainGlobals "reversed"=some none) (Vk:AY K mainGlobals "len"=some none) (NU:AY K mainGlobals "tuple"=some none) (yz:AY K mainGlobals "enumerate"=some none) (NV:AY K mainGlobals "range"=some none) (Vg:AY K mainGlobals "zip"=some none) (Kp:AY K mainGlobals "sorted"=some none) (RI:AY K mainGlobals "dict"=some none) (Vo:AY K mainGlobals "abs"=some none) (Vl:AY K mainGlobals "int"=some none) (Vm:AY K mainGlobals "any"=some none) (Vn:AY K mainGlobals "all"=some none) (RJ:AY K mainGlobals "bool"=some none) (Vi:AY K mainGlobals "min"=some none) (Vj:AY K mainGlobals "max"=some none) :
  ∃fd:FuncData,(∀(s:Shared) (v:Value),BindsTo s fd ⟨[v],[]⟩ [("_law_script",v)])/\∀base:Heap,K.In base->base.Ns mainGlobals mg->gH l.prog w K mg base qR 18 fa fd ["_law_script"] (Hq K):=by
 obtain⟨f,fd,a,F⟩:=XX.ex;have e:=hfa.symm.trans (PySem.W.mg_of X G a);cases e;have fb:=F.binds (ps:=["_law_script"]) (fun _ _ _ _ _ _=>ZE fun _=>rfl);obtain⟨oc,od,kV,doc,pm,an,fZ,ct,Lw,rfl,_⟩:=id F.ex;refine⟨B4 "law" "law" (jS (top 40)) (du (top 40)) (aj (top 40)) .none kV doc pm an fZ ct,fun s v=>.of_eq rfl,fun base _ _=>?_⟩;exact (Yf (v:=⟨l.prog,w,K,mg,base⟩) X G ⟨AB X G vR,AB X G Vh,AB X G RH,AB X G FH,AB X G Vk,AB X G NU,AB X G yz,AB X G NV,AB X G Vg,AB X G Kp,AB X G RI,AB X G Vo,AB X G Vl,AB X G Vm,AB X G Vn,AB X G RJ,AB X G Vi,AB X G Vj⟩ mO xJ tN mQ pG mP jJ tP pI iL tM iM mN pF xK mS lq lx jK lj jP jO jR jL eW jQ lA mT ly mR fB jM jN lu dG ⟨_,_,F,fb,hfa⟩).imp Pf
def walk {l:Ep}{q:Program}{loose:List Str}{XP:(Str->Option Value)->Heap->Prop}{YP:World->Heap->Prop}{d:DefRec}{K:Params->Ab} (hn:l.most=some 63) (Xr:d.params.defaults=[])
  (hY:∀(w:World) (h:Heap),YP w h->(K w.params).In h)
  (F:∀(w:World) (mg:Str->Option Value) (fa:Addr) (h:Heap),(K w.params).In h->h.Ns mainGlobals mg->mg d.name=some (.ref fa)->
   ∃fd:FuncData,(∀(s:Shared) (u:Value),BindsTo s fd ⟨[u],[]⟩ [("_law_script",u)])/\∀base:Heap,(K w.params).In base->base.Ns mainGlobals mg->gH l.prog w (K w.params) mg base qR 18 fa fd ["_law_script"] (Hq (K w.params))) :
  PySem.W.WalkO q loose XP YP l.row.toRowW d [] (fun f vs=>Fi f vs):=
 L2.NW (n:=63) (k:=18) (x:="_law_script") (CX:=fun _=>qR) (sp:=fun w=>Hq (K w.params)) hn (by decide) Xr ⟨rfl,by decide,by decide,rfl⟩ hY F (fun _ _ a ns hl hO hS=>⟨a,ns,rfl,hO,hS,hl,fun _=>rfl⟩) fun _ _ _ _ _ z=>z
end My
open PySem PySem.W PyProof.Rows
inductive PySem.W.Fast|tw1389023419353465956|tw10237891173350805577|tw8571662287592299542|tw5141913025976369191|tw3533876704530071939|tw8554099428287817875|tw3522760349532922278|tw3132140389399916197|tw6433739251585975739|tw17804689945131709774|tw16718151904899263825|tw1866136515844291201|tw2860661824001083802|tw4331292069086202836|tw17430940554293922095|tw4730494915829537523|tw13190956017452730457|tw1020290030984433529|tw18436639551683665975|tw7323756290269965089|tw7916981536917709626|tw1539052398201505787|tw1716317265104293451|tw9412025736662491347|tw13468443814559110967|tw17608487501345510130|tw7689739335825047944|tw12006760950180540822|tw503086008016638821|tw2373875136466019834|tw3220004538538561374|tw5392000187447922053|tw18325048491671470832|tw10839455757717826895|tw5705813068764101159|tw3168138409088716238|tw4068761212658837013|tw3374308205733749872|tw12147322058310158379|tw1147242371345888815|tw12217823899982427327|tw7868325289623725517|tw17473517889970751808|tw5853296089690791699|tw10058516444076783994|tw16530142368979267990|tw7082126412879550755|tw5245832887080191829|tw7156984720768478649|tw9298448260667433816|tw10051481326402939281|tw16595496927924232625|tw13268805071998162000|tw4156718570315161292|tw2209587696817052520|tw6815299169094584882|tw2386320418678794682|tw16999714122582824119|tw1258520697069157744|tw6884453744125901617|tw2620410512047153068|tw10210976148081701952|tw9388537164949802232|tw9280344924256355577|tw10700449159854736680|tw4443778143486996216|tw7075907713310731233|tw12474907711436278952|tw17406820697904960450|tw15762250188560525045|tw1515515908937794650|tw10003778366480720347|tw4872064414666622772|tw11493979829299968930|tw5418641331100286789|tw10967212153344188015|tw15918453754564526026|tw8705201692540130370|tw15506717358514317022|tw13706580785279330969|tw6182777445695810237|tw990328153857607468|tw16865166542594239737|tw15646984172132347005|tw13280357763299388513|tw6915160990379945554|tw8954487231775725567|tw4237446463189435618|tw9391657216669785743|tw17539903084976245833|tw10017213447134373016|tw3395959290052129486|tw3895207605082153947|tw4069786153960775102|tw17714315817893183319|tw12970826950394916591|tw11249305516090697469|tw771715040552639322|tw3006255741175648542|tw400470837199856550|tw17445078712632458598|tw5019789760663693919|tw15427981341662911643|tw1440401668228703878|tw1298775105082532191|tw15672736217306446447|tw12750798446796691446|tw14833237106336504958|tw511505128075447867|tw11120597583313761284|tw10645231600936014992|tw1125421624642906943|tw17531012251523629560|tw8961892062971073000|tw4756892169425479867|tw2691310404883374105|tw7454239272458717849|tw7107123497255795164|tw4700145744694249511|tw13330140089582439641
def PySem.W.Fast.tw13665825820673706178:=PySem.Challenge.pw_treewithin_k20_places_told
theorem PySem.W.Fast.te13665825820673706178:PySem.Challenge.pw_treewithin_k20_places_told=PySem.W.Fast.tw13665825820673706178:=rfl
set_option maxRecDepth 100000 in
set_option maxHeartbeats 0 in
theorem PySem.Challenge.cw_treewithin_k20_places_told_holds : PySem.Challenge.rw_treewithin_k20_places_told.Holds := by
 w_on;o_law;k_head;(case hw=>w_witness2)
 k_fill
 refine My.walk (l:=PySem.Challenge.rw_treewithin_k20_places_told) rfl rfl (fun w h Y=>PySem.W.kIn_of Y) ?F
 case F=>
  intro w mg fa h KX G hmg;refine' My.all_mk KX G hmg ?d0 ?d1 ?d2 ?d3 ?d4 ?d5 ?d6 ?d7 ?d8 ?d9 ?d10 ?d11 ?d12 ?d13 ?d14 ?d15 ?d16 ?d17 ?d18 ?d19 ?d20 ?d21 ?d22 ?d23 ?d24 ?d25 ?d26 ?d27 ?d28 ?d29 ?d30 ?d31 ?d32 ?d33 ?d34 ?d35 ?z0 ?z1 ?z2 ?z3 ?z4 ?z5 ?z6 ?z7 ?z8 ?z9 ?z10 ?z11 ?z12 ?z13 ?z14 ?z15 ?z16 ?z17
  (case d0=>refine' FL.dx ?a ?l ?c ?k;(case a=>k_is);(case l=>k_is);(case c=>k_is);(case k=>k_is))
  (case d1=>refine' FL.dx ?a ?l ?c ?k;(case a=>k_is);(case l=>k_is);(case c=>k_is);(case k=>k_is))
  (case d2=>refine' FL.dx ?a ?l ?c ?k;(case a=>k_is);(case l=>k_is);(case c=>k_is);(case k=>k_is))
  (case d3=>refine' FL.dx ?a ?l ?c ?k;(case a=>k_is);(case l=>k_is);(case c=>k_is);(case k=>k_is))
  (case d4=>refine' FL.dx ?a ?l ?c ?k;(case a=>k_is);(case l=>k_is);(case c=>k_is);(case k=>k_is))
  (case d5=>refine' FL.dx ?a ?l ?c ?k;(case a=>k_is);(case l=>k_is);(case c=>k_is);(case k=>k_is))
  (case d6=>refine' FL.dx ?a ?l ?c ?k;(case a=>k_is);(case l=>k_is);(case c=>k_is);(case k=>k_is))
  (case d7=>refine' FL.dx ?a ?l ?c ?k;(case a=>k_is);(case l=>k_is);(case c=>k_is);(case k=>k_is))
  (case d8=>refine' FL.dx ?a ?l ?c ?k;(case a=>k_is);(case l=>k_is);(case c=>k_is);(case k=>k_is))
  (case d9=>refine' FL.dx ?a ?l ?c ?k;(case a=>k_is);(case l=>k_is);(case c=>k_is);(case k=>k_is))
  (case d10=>refine' FL.dx ?a ?l ?c ?k;(case a=>k_is);(case l=>k_is);(case c=>k_is);(case k=>k_is))
  (case d11=>refine' FL.dx ?a ?l ?c ?k;(case a=>k_is);(case l=>k_is);(case c=>k_is);(case k=>k_is))
  (case d12=>refine' FL.dx ?a ?l ?c ?k;(case a=>k_is);(case l=>k_is);(case c=>k_is);(case k=>k_is))
  (case d13=>refine' FL.dx ?a ?l ?c ?k;(case a=>k_is);(case l=>k_is);(case c=>k_is);(case k=>k_is))
  (case d14=>refine' FL.dx ?a ?l ?c ?k;(case a=>k_is);(case l=>k_is);(case c=>k_is);(case k=>k_is))
  (case d15=>refine' FL.dx ?a ?l ?c ?k;(case a=>k_is);(case l=>k_is);(case c=>k_is);(case k=>k_is))
  (case d16=>refine' FL.dx ?a ?l ?c ?k;(case a=>k_is);(case l=>k_is);(case c=>k_is);(case k=>k_is))
  (case d17=>refine' FL.dx ?a ?l ?c ?k;(case a=>k_is);(case l=>k_is);(case c=>k_is);(case k=>k_is))
  (case d18=>refine' FL.dx ?a ?l ?c ?k;(case a=>k_is);(case l=>k_is);(case c=>k_is);(case k=>k_is))
  (case d19=>refine' FL.dx ?a ?l ?c ?k;(case a=>k_is);(case l=>k_is);(case c=>k_is);(case k=>k_is))
  (case d20=>refine' FL.dx ?a ?l ?c ?k;(case a=>k_is);(case l=>k_is);(case c=>k_is);(case k=>k_is))
  (case d21=>refine' FL.dx ?a ?l ?c ?k;(case a=>k_is);(case l=>k_is);(case c=>k_is);(case k=>k_is))
  (case d22=>refine' FL.dx ?a ?l ?c ?k;(case a=>k_is);(case l=>k_is);(case c=>k_is);(case k=>k_is))
  (case d23=>refine' FL.dx ?a ?l ?c ?k;(case a=>k_is);(case l=>k_is);(case c=>k_is);(case k=>k_is))
  (case d24=>refine' FL.dx ?a ?l ?c ?k;(case a=>k_is);(case l=>k_is);(case c=>k_is);(case k=>k_is))
  (case d25=>refine' FL.dx ?a ?l ?c ?k;(case a=>k_is);(case l=>k_is);(case c=>k_is);(case k=>k_is))
  (case d26=>refine' FL.dx ?a ?l ?c ?k;(case a=>k_is);(case l=>k_is);(case c=>k_is);(case k=>k_is))
  (case d27=>refine' FL.dx ?a ?l ?c ?k;(case a=>k_is);(case l=>k_is);(case c=>k_is);(case k=>k_is))
  (case d28=>refine' FL.dx ?a ?l ?c ?k;(case a=>k_is);(case l=>k_is);(case c=>k_is);(case k=>k_is))
  (case d29=>refine' FL.dx ?a ?l ?c ?k;(case a=>k_is);(case l=>k_is);(case c=>k_is);(case k=>k_is))
  (case d30=>refine' FL.dx ?a ?l ?c ?k;(case a=>k_is);(case l=>k_is);(case c=>k_is);(case k=>k_is))
  (case d31=>refine' FL.dx ?a ?l ?c ?k;(case a=>k_is);(case l=>k_is);(case c=>k_is);(case k=>k_is))
  (case d32=>refine' FL.dx ?a ?l ?c ?k;(case a=>k_is);(case l=>k_is);(case c=>k_is);(case k=>k_is))
  (case d33=>refine' FL.dx ?a ?l ?c ?k;(case a=>k_is);(case l=>k_is);(case c=>k_is);(case k=>k_is))
  (case d34=>refine' FL.dx ?a ?l ?c ?k;(case a=>k_is);(case l=>k_is);(case c=>k_is);(case k=>k_is))
  (case d35=>refine' FL.dx ?a ?l ?c ?k;(case a=>k_is);(case l=>k_is);(case c=>k_is);(case k=>k_is))
  (case z0=>k_is)
  (case z1=>k_is)
  (case z2=>k_is)
  (case z3=>k_is)
  (case z4=>k_is)
  (case z5=>k_is)
  (case z6=>k_is)
  (case z7=>k_is)
  (case z8=>k_is)
  (case z9=>k_is)
  (case z10=>k_is)
  (case z11=>k_is)
  (case z12=>k_is)
  (case z13=>k_is)
  (case z14=>k_is)
  (case z15=>k_is)
  (case z16=>k_is)
  (case z17=>k_is)
#print axioms PySem.Challenge.cw_treewithin_k20_places_told_holds
