import PyProof.Rows.All
import Wide.All
import OpenK.AllK
import Wide.FinOn
import Lean
import PyProof.EqAt
import PyProof.EqKinds
import PyProof.TupleCall
import PyProof.NeKinds
import PyProof.FactsAll.tuple_2
import PyProof.FactsAll.str_0
import PyProof.FactsAll.str_1
import PyProof.FactsAll.str_2
import PyProof.FactsAll.str_3
import PyProof.Rows.MinMaxN
import PyProof.Rows.SumAny
import PyProof.Rows.SetFrom
import PyProof.ReprRoads
import PyProof.Rows.StrKeys3
import PyProof.CallFns
import KE.KSortTup
import KE.KDictSum
import PyProof.Rows.CallKwBuiltin
import KE.KMinBuiltin
import KE.KDictList
import PySem.Challenge.RW_treewithin_k73_trees_written_and_read
local macro_rules | `(tactic| omega) => `(tactic| lia)
open PySem.W renaming Frag -> Aa, nsIn -> AD, mg_none_of -> AG, findIn -> AH, kia_one -> AL, kitOne -> AQ, fnOf -> AV, keepIn -> AZ, emptyDict -> A5, instObj -> Br, codeIn -> BC, callWith_K -> BS, plainGet -> B5, mg_of -> Cb, isFn -> Cp, hasDictIn -> Cq, plainGet_of -> CT, lookIn -> C0, plainOver -> C9, methodObj -> Dc, kitx_list -> Dd, kitx_dict -> De, envX -> Ds, cellsFrom_some -> Dt, takerIn -> DD, makesIn -> DE, methodCall_KW -> DK, tabObj -> DP, hideAll_size -> DQ, hideAll_none -> DR, hideAll_get -> DY, of_hideAll -> D4, kitx_tuple -> D5, handedIn -> Ed
open PySem renaming wpAny_bind -> Ab, wpAny_pure -> Am, Addr -> AR, wpAny_Call_Name_kw -> AW, mem_of_lookup -> A1, Value -> A6, wpAny_field -> A7, wpAny_seqItems -> Be, wpAny_holding -> Bk, Str -> Bo, wpAny_callSpecial?_slot -> Bp, wpAny_setField_rec -> BF, wpAny_passesOwn -> BI, wpAny_truthy_bool -> BL, Expr -> BM, wpAny_mono -> BV, Pos -> B7, wpAny_call_entry -> B8, wpAny_newObj_type -> Cu, wpAny_updateSeq_pair -> CG, wpAny_updateSeq -> CM, wpAny_execs_nil -> CN, Shared -> CY, boot_len -> C4, wpAny_rule -> C5, wpAny_newTuple -> C6, wpAny_pyIter_list -> Dg, wpAny_letGo -> Dh, wpAny_standAt -> Dk, wpAny_onRaise -> Dl, Heap -> Dx, wpAny_specialOf -> DH, wpAny_of_eq -> DT, wpAny_listPart -> DU, Program -> D2, Within -> D8, Obj -> Eh
open List renaming length_append -> Ad, size_toArray -> Af, getElem?_eq_some_iff -> Ag, getElem?_eq_getElem -> Ai, getElem?_append_right -> Ak, getElem?_map -> Ao, getElem?_append_left -> Ap, length_map -> Aq, length_cons -> Ar, mem_append_right -> Av, mem_cons -> Ax, mem_of_getElem? -> Ay, mem_cons_of_mem -> AA, replicate -> AI, lookup_cons -> AM, drop_eq_getElem_cons -> AU, mem_singleton -> AY, append_assoc -> A2, eq_nil_of_length_eq_zero -> A8, mem_cons_self -> A9, append_nil -> Bf, length_singleton -> Bh, length_take -> Bj, mem_append_left -> Bn, getElem?_replicate -> Bq, mem_append -> Bs, map_append -> Bt, take_of_length_le -> Bv, takeWhile_cons_of_neg -> BG, length_replicate -> BH, nodup_cons -> BJ, length_reverse -> BN, range -> BW, forIn_cons -> BX, takeWhile_cons_of_pos -> B2, lookup -> B3, getElem?_set_ne -> B4, length_drop -> B9, filterMap_cons -> Ca, mem_filterMap -> Cj, getElem?_take -> Ck, getElem?_cons_succ -> Co, reverse_cons -> Cv, not_mem_nil -> CA, length -> CH, of_mem_zip -> CO, mem_filter -> CP, getElem?_zip_eq_some -> C8, getElem_mem -> Dp, drop_length -> Dq, map_map -> DA, getElem?_set_self -> DB, drop_eq_nil_of_le -> DC, length_set -> DJ, contains_iff_mem -> DN, mem_range -> DV, getElem?_of_mem -> DW, reverse_append -> DZ, length_pos_iff -> D0, map_nil -> Eb
open PySem.Heap renaming get?_push_of_some -> Ae, lt_size -> Al, get?_push_size -> An, size_push -> BO, SameBut -> B6, get?_update_other -> Cr, get?_update_self -> Cy
open PySem.Str renaming length_append -> Ah, cps_append -> AN, empty -> Bx, length -> Cz, ofString -> Du
open Nat renaming le_refl -> Aj, lt_of_lt_of_le -> Au, ne_of_lt -> AE, le_trans -> AX, lt_irrefl -> A4, zero_le -> Bw, lt_succ_self -> Bz, le_add_right -> BA, le_of_ble_eq_true -> BZ, add_sub_cancel_left -> Cn, sub_self -> Dy, le_of_lt -> Dz, add_assoc -> D3, zero_add -> D9, le_of_eq -> Ea
open PySem.Value renaming ref -> Aw, none -> Bd, type -> B1, bool -> Ci
open Bool renaming false_ne_true -> Az, false_eq_true -> AB, and_eq_true -> BQ, not_eq_true' -> Cw, eq_iff_iff -> CS, and_false -> C7, not_true -> Dm
open False renaming elim -> AJ
open PySem.NameKind renaming free -> AO, cell -> D1
open PySem.PassesOwn renaming never -> A3
open Int renaming emod_lt_of_pos -> Ba, emod_nonneg -> Bg, toNat_of_nonneg -> CV, toNat_natCast -> Di, eq_ofNat_of_zero_le -> Dr, zero_add -> Ec
open PySem.F renaming plainAttrs_list -> Bb, slot_tuple_iterator_next -> BD, type_list_append -> Cc, slot_list_append -> Cd, args_tuple_add_2 -> Ce, entry_tuple_add -> Cm, slot_tuple_add -> Cs, args_list_extend_2 -> CB, slot_zip_next -> CJ, args_tuple_iterator_next_1 -> CK, entry_list_extend -> CU, entry_tuple_iterator_next -> CW, slot_list_extend -> C2, type_list_pop -> DL, slot_list_pop -> DM
open PyProof.Rows renaming callWith_type1 -> Bc
open PySem.AutoSeq1 renaming wpAny_loadPart' -> Bi, sub_list_tuple -> CC
open PySem.Challenge renaming pw_treewithin_k73_trees_written_and_read -> Bl
open Or renaming inl -> Bm, inr -> BP
open Array renaming toList_append -> Bu
open PySem.Calls renaming spliced_cons -> BE, spliced_nil -> Ct, Name_function_global -> C3, callWith_builtin -> Dw
open ForInStep renaming yield -> BK
open True renaming intro -> BR
open PySem.Obj renaming mapSeq -> BU
open Option renaming map_some -> Cf, getD_none -> Dn
open Ne renaming symm -> Cg
open And renaming right -> CZ
open PySem.SeqAt.RcNeAt renaming lists_lengths -> C1, lists -> D6
open PySem.EqBoolInt renaming of_rcne -> Df, of_rc -> DG
open PySem.SeqAt.RcAt renaming lists_lengths -> Dj, lists -> Ee
open PySem.SeqAt renaming EqAt -> Dv
open PySem.Around renaming frames_deeper -> DS
open PySem.Data renaming seq -> D7
open PySem.IsL renaming isList -> Ef
open PySem.IntMulOk renaming of_bits -> Eg
open Sum renaming inr -> Ei, inl -> Ej
set_option compiler.extract_closed false
set_option Elab.async false
set_option linter.all false
set_option maxRecDepth 100000
set_option maxHeartbeats 1000000
open Option renaming some→al,none→be
open PyProof.Rows renaming envOfC→sB,joinParts_cons→wf,AllBare→xL
open PySem renaming Value→bn,Addr→ce,Shared→ci,wpAny→db,model→em,mainGlobals→eM,starEach→f8,Expr→gl,Heap→gt,eval→ii,rawInt→im,bootBuiltins→jp,attributeBase→lc,Program→lf,compareOp→li,Stmt→lm,holding→mo,binaryOp→nl,behindInMarks→nn,World→o0,sliceBounds→pc,IntMulOk→pi,swapsWith→pr,Around→re,FuncData→sn,NameKind→sw,assignEach→sK,swapsWithSole→tz,swappedStores→up,Scope→ut,standAt→u8,builtinsNs→wn,sizeLine_eq→wv,codeAny→ww,backTo→wE,codeAmong→wP,PassesOwn→wS,codeAny_mono→wT,call_meets→xz,letOwnedTupleGo→zn
local macro_rules | `(∅)=>`(by omega)
local macro_rules | `(⋯)=>`(by decide)
open PySem PySem.Spec PyProof.Rows
abbrev O.{u}(α:Type u):=List α
namespace L2
end L2
namespace My
end My
namespace PL
end PL
namespace FL
end FL
open L2 My PL FL
namespace L2
abbrev Key:=Sum Int Str
def jE:Key->bn->Bool
 | .inl k,v=>Value.isInt k v
 | .inr x,v=>Value.isStrOf x v
def Jg(w:o0):Key->Int
 | .inl k=>hashInt k
 | .inr x=>hashStr w x
def aW:∀{k:Key}{v:bn},jE k v=true->(∃i t,k=Ej i/\v=Value.int i t)\/(∃x t,k=Ei x/\v=Value.str x t)
 | .inl i,v,h=>by
  obtain⟨t,e⟩:=Value.isInt_shape h;exact .inl ⟨i,t,rfl,e⟩
 | .inr x,v,h=>by
  obtain⟨t,e⟩:=Value.isStrOf_shape (v:=v) h;exact .inr ⟨x,t,rfl,e⟩
def pU(i:Int)(t:Tok):jE (.inl i) (.int i t)=true:=by simp[jE,Value.isInt]
def pT(x:Str)(t:Tok):jE (.inr x) (.str x t)=true:=by simp[jE,Value.isStrOf]
def yu(a b:Int):decide ((Ej a:Key)=Ej b)=(a==b):=by
 by_cases e:a=b
 ·subst e;simp
 ·rw[decide_eq_false (λq=>e (Ej.inj q))];exact(beq_eq_false_iff_ne.mpr e).symm
def yp(a b:Str):decide ((Ei a:Key)=Ei b)=decide (a=b):=by
 by_cases e:a=b
 ·simp
 ·rw[decide_eq_false (λq=>e (Ei.inj q)),decide_eq_false e]
def yt(a:Int)(b:Str):decide ((Ej a:Key)=Ei b)=false:=decide_eq_false (λq=>nomatch q)
def yq(a:Str)(b:Int):decide ((Ei a:Key)=Ej b)=false:=decide_eq_false (λq=>nomatch q)
def bJ(prog:lf)(w:o0):PySem.KeyKind prog w Key where
 is:=jE
 hash:=Jg w
 inj:=λv a b ha hb=>by
  rcases aW ha with⟨i,t,rfl,rfl⟩ | ⟨x,t,rfl,rfl⟩
  ·rcases aW hb with⟨j,u,rfl,e⟩ | ⟨y,u,rfl,e⟩
   ·injection e with e1 _;rw[e1]
   ·exact nomatch e
  ·rcases aW hb with⟨j,u,rfl,e⟩ | ⟨y,u,rfl,e⟩
   ·exact nomatch e
   ·injection e with e1 _;rw[e1]
 byValue:=λk v h=>by
  rcases aW h with⟨i,t,rfl,rfl⟩ | ⟨x,t,rfl,rfl⟩ <;> rfl
 pyHash:=λhv h=>by
  rcases aW hv with⟨i,t,rfl,rfl⟩ | ⟨x,t,rfl,rfl⟩
  ·exact wpAny_pyHash_int h
  ·exact wpAny_pyHash_str h
 eqBool:=λhu hv h=>by
  rcases aW hu with⟨i,t,rfl,rfl⟩ | ⟨x,t,rfl,rfl⟩
  ·rcases aW hv with⟨j,u,rfl,rfl⟩ | ⟨y,u,rfl,rfl⟩
   ·rw[yu]at h;exact wpAny_eqBool_int h
   ·rw[yt]at h;exact Dv.int_str i t y u _ _ _ _ h
  ·rcases aW hv with⟨j,u,rfl,rfl⟩ | ⟨y,u,rfl,rfl⟩
   ·rw[yq]at h;exact Dv.str_int x t j u _ _ _ _ h
   ·rw[yp]at h;exact wpAny_eqBool_str h
 «strs»:=λk x t v h=>by
  rcases aW h with⟨i,u,rfl,e⟩ | ⟨y,u,rfl,e⟩
  ·exact nomatch e
  ·injection e with e1 _;subst e1;cases v <;> rfl
def lI(prog:lf)(w:o0)(i:Int)(t:Tok):(bJ prog w).is (.inl i) (.int i t)=true:=pU i t
def lH(prog:lf)(w:o0)(x:Str)(t:Tok):(bJ prog w).is (.inr x) (.str x t)=true:=pT x t
end L2
variable{us:O A6}{u:A6}{a b e:AR}{P:D2}{w:PySem.World}{h h':Dx}{α β:Type}
namespace L2
inductive V where
 | aL | bl (b:Bool) | int (i:Int) | str (x:Str) | o5 (b:Array UInt8) | yJ (b:UInt64) | ref (a:ce) | ty (n:String)
 deriving DecidableEq
def RelV:V->bn->Prop
 | .aL,u=>u=Bd
 | .bl b,u=>u=Ci b
 | .int i,u=>∃t,u=Value.int i t
 | .str x,u=>∃t,u=Value.str x t
 | .o5 b,u=>∃t,u=Value.bytes b t
 | .yJ b,u=>∃t,u=Value.float b t
 | .ref a,u=>u=Aw a
 | .ty n,u=>u=B1 n
abbrev Vals:O V->O bn->Prop:=Paired RelV
def Vals.length{xs:O V}(r:Vals xs us):xs.length=us.length:=Paired.length r
theorem Vals.get:∀{xs:O V}{us:O bn}{i:Nat}{x:V},Vals xs us->xs[i]?=al x->∃u,us[i]?=al u/\RelV x u
 | _,_,_,_,.nil,e=>by simp at e
 | _,_,0,_,.cons r _,e=>by simp at e;subst e;exact⟨_,rfl,r⟩
 | _,_,i+1,x,.cons _ t,e=>by
  obtain⟨u,h1,h2⟩:=Vals.get t (by simpa using e);exact⟨u,by simpa using h1,h2⟩
theorem Vals.set{x:V}(r:RelV x u):∀{xs:O V}{us:O bn} (i:Nat),Vals xs us->Vals (xs.set i x) (us.set i u)
 | _,_,_,.nil=>.nil
 | _,_,0,.cons _ t=>.cons r t
 | _,_,i+1,.cons q t=>.cons q (Vals.set r i t)
theorem Vals.append:∀{xs ys:O V}{us ws:O bn},Vals xs us->Vals ys ws->Vals (xs++ys) (us++ws)
 | _,_,_,_,.nil,s=>s
 | _,_,_,_,.cons r t,s=>.cons r (Vals.append t s)
theorem Vals.take:∀{xs:O V}{us:O bn} (n:Nat),Vals xs us->Vals (xs.take n) (us.take n)
 | _,_,0,_=>.nil
 | _,_,_+1,.nil=>.nil
 | _,_,n+1,.cons r t=>.cons r (Vals.take n t)
theorem Vals.drop:∀{xs:O V}{us:O bn} (n:Nat),Vals xs us->Vals (xs.drop n) (us.drop n)
 | _,_,0,r=>r
 | _,_,_+1,.nil=>.nil
 | _,_,n+1,.cons _ t=>Vals.drop n t
def kM:Option V->Option bn->Prop
 | some v,al u=>RelV v u
 | none,be=>True
 | _,_=>False
def KV{κ:Type}:O (κ×V)->O (κ×bn)->Prop:=Paired λ(p:κ×V) (q:κ×bn)=>p.1=q.1/\RelV p.2 q.2
def kV:Key->V
 | .inl i=>.int i
 | .inr x=>.str x
inductive HO where
 | lst (xs:List V)
 | tup (xs:List V)
 | dK (aM:List (Key×V)) | dT (aM:List (List Key×V))
 | set (S:Int->Bool) (n:Nat)
 | ins (C dx:ce) (fs:List (Str×V))
 | own (x:ce)
 | xd (fs:List (Str×V))
 | met (f x:ce)
 | Iu (lo hi:Int)
 | bX (o:Obj) (u:HO)
 | gQ (ps:Array bn)
 | ext (φ:gt->Prop)
abbrev Hp:=ce->Option HO
def upd(H:Hp)(a:ce)(o:HO):Hp:=λb=>if b=a then al o else H b
def aB{H:Hp}{o:HO}:upd H a o a=al o:=by unfold upd;rw[if_pos rfl]
def ah{H:Hp}{o:HO}(h:b≠a):upd H a o b=H b:=by unfold upd;rw[if_neg h]
def oB{H:Hp}{o u:HO}(h:H a=al o)(h':H b=al u)(d:o≠u):a≠b:=by
 intro e;subst e;rw[h]at h';exact d (Option.some.inj h')
def aJ{H:Hp}{o:HO}(h:H a=al o)(h':H b=be):a≠b:=by
 intro e;subst e;rw[h]at h';cases h'
section
variable(P:lf)(w:o0)
def bq(H:Hp)(h:gt)(a:ce):HO->Prop
 | .lst xs=>xs.length<=sizeLine/\∃(ak:O bn) (n:Nat),Vals xs ak/\h.get? a=al {cls:=.type "list",data:=.seq ak.toArray n}
 | .tup xs=>xs.length<=sizeLine/\∃ak:O bn,Vals xs ak/\IsTup h a ak.toArray
 | .dK aM=>aM.length<=sizeLine/\(a==sysModules)=false/\∃vs,KV aM vs/\h.DictOf (bJ P w) a vs
 | .dT aM=>aM.length<=sizeLine/\(a==sysModules)=false/\∃xs:O (O Key×ce×bn),
   Paired (λ(p:O Key×V) (q:O Key×ce×bn)=>p.1=q.1/\H q.2.1=al (.tup (p.1.map kV))/\RelV p.2 q.2.2) aM xs/\
   ∃o es ep,h.get? a=al o/\o.ExactDict/\o.data=.dict es ep/\es.toList=xs.map (entryOfKey (tupleKind (bJ P w)))/\(xs.map (·.1)).Nodup
 | .set S n=>h.SetOf (intKind P w) a S n
 | .ins C dx fs=>H dx=al (.own a)/\fs.length<=1000/\dx≠a/\h.get? a=al (Br C dx)/\
   ∃mA,h.Ns1 dx mA/\(∀f,kM (fs.lookup f) (mA f))/\D8 mA (fs.map (·.1))
 | .own _=>∃o,h.get? a=al o
 | .xd fs=>∃mA,h.Ns1 a mA/\∀f,kM (fs.lookup f) (mA f)
 | .Iu lo hi=>∃t u v,h.get? a=al {cls:=.type "range",data:=.fields #[.int lo t,.int hi u,.int 1 v]}
 | .bX o u=>h.get? a=al o/\bq H h a u
 | .gQ ps=>h.get? a=al {cls:=.none,data:=.fields ps}
 | .met f x=>h.get? a=al (Dc (.ref f) (.ref x))
 | .ext φ=>φ h/\(∃o,h.get? a=al o)/\∀h1 h2:gt,φ h1->(∀o,h1.get? a=al o->h2.get? a=al o)->φ h2
def gj(H:Hp)(h:gt):Prop:=∀a o,H a=al o->bq P w H h a o
end
section
variable{H H':Hp}{o:HO}
def bq.lt(x:bq P w H h a o):a < h.objs.size:=by
 cases o with
 | lst xs=>obtain⟨_,_,_,_,e⟩:=x;exact Al e
 | tup xs=>obtain⟨_,_,_,p⟩:=x;exact p.lt
 | dK aM=>obtain⟨_,_,_,_,o,_,_,e,_⟩:=x;exact Al e
 | dT aM=>obtain⟨_,_,_,_,o,_,_,e,_⟩:=x;exact Al e
 | set S n=>obtain⟨o,_,_,_,e,_⟩:=x;exact Al e
 | ins C dx fs=>obtain⟨_,_,_,e,_⟩:=x;exact Al e
 | own y=>obtain⟨_,e⟩:=x;exact Al e
 | xd fs=>obtain⟨_,⟨_,_,_,e,_⟩,_⟩:=x;exact Al e
 | Iu lo hi=>obtain⟨_,_,_,e⟩:=x;exact Al e
 | bX ob u=>obtain⟨e,_⟩:=x;exact Al e
 | gQ ps=>exact Al (x)
 | met f y=>exact Al (show h.get? a=al _ from x)
 | ext φ=>obtain⟨_,⟨_,e⟩,_⟩:=x;exact Al e
theorem Paired.yh{F G:α->β->Prop}:∀{l₁:List α}{l₂:List β},Paired F l₁ l₂->(∀a b,F a b->G a b)->Paired G l₁ l₂
 | _,_,.nil,_=>.nil
 | _,_,.cons r t,f=>.cons (f _ _ r) (Paired.yh t f)
def bq.k8(x:bq P w H h a o)(k:∀b u,(b=a\/H b=al (.own a))->h.get? b=al u->h'.get? b=al u)
  (ho:∀b,H b=al (.own a)->H' b=al (.own a)) (ht:∀b xs,H b=al (.tup xs)->H' b=al (.tup xs)):bq P w H' h' a o:=by
 induction o with
 | lst xs=>obtain⟨z,ak,n,r,e⟩:=x;exact⟨z,ak,n,r,k _ _ (.inl rfl) e⟩
 | tup xs=>obtain⟨z,ak,r,ob,e,c⟩:=x;exact⟨z,ak,r,ob,k _ _ (.inl rfl) e,c⟩
 | dK aM=>obtain⟨z,y,vs,r,ob,es,ep,e,c⟩:=x;exact⟨z,y,vs,r,ob,es,ep,k _ _ (.inl rfl) e,c⟩
 | dT aM=>
  obtain⟨z,y,xs,r,ob,es,ep,e,c⟩:=x;exact⟨z,y,xs,Paired.yh r λp q z=>⟨z.1,ht _ _ z.2.1,z.2.2⟩,ob,es,ep,k _ _ (.inl rfl) e,c⟩
 | set S n=>obtain⟨ob,es,ep,t,e,c⟩:=x;exact⟨ob,es,ep,t,k _ _ (.inl rfl) e,c⟩
 | ins C dx fs=>
  obtain⟨d,z,ne,e,mA,⟨od,es,ep,e2,c⟩,r⟩:=x;exact⟨ho _ d,z,ne,k _ _ (.inl rfl) e,mA,⟨od,es,ep,k _ _ (.inr d) e2,c⟩,r⟩
 | own y=>obtain⟨ob,e⟩:=x;exact⟨ob,k _ _ (.inl rfl) e⟩
 | xd fs=>obtain⟨mA,⟨od,es,ep,e,c⟩,r⟩:=x;exact⟨mA,⟨od,es,ep,k _ _ (.inl rfl) e,c⟩,r⟩
 | Iu lo hi=>obtain⟨t,u,v,e⟩:=x;exact⟨t,u,v,k _ _ (.inl rfl) e⟩
 | bX ob u ih=>obtain⟨e,q⟩:=x;exact⟨k _ _ (.inl rfl) e,ih q⟩
 | gQ ps=>
  have e:h.get? a=al {cls:=.none,data:=.fields ps}:=x;show h'.get? a=al {cls:=.none,data:=.fields ps};exact k a _ (.inl rfl) e
 | met f y=>
  have e:h.get? a=al (Dc (.ref f) (.ref y)):=x;show h'.get? a=al (Dc (.ref f) (.ref y));exact k a _ (.inl rfl) e
 | ext φ=>obtain⟨p,⟨o,e⟩,st⟩:=x;exact⟨st _ _ p λo q=>k _ _ (.inl rfl) q,⟨o,k _ _ (.inl rfl) e⟩,st⟩
def gj.lt(x:gj P w H h)(e:H a=al o):a < h.objs.size:=(x a o e).lt
def gj.fresh(x:gj P w H h)(e:h.objs.size<=a):H a=be:=by
 cases q:H a with
 | none=>rfl
 | some u=>exact absurd (Au (x.lt q) e) (A4 _)
def gj.kept(x:gj P w H h)(k:∀b u,h.get? b=al u->h'.get? b=al u):gj P w H h':=λa o e=>
 (x a o e).k8 (λb u _ q=>k b u q) (λ_ q=>q) λ_ _ q=>q
def gj.laid(x:gj P w H h)(k:∀b u,h.get? b=al u->h'.get? b=al u)(hp:h.objs.size<=a)(new:bq P w (upd H a o) h' a o):gj P w (upd H a o) h':=λb u e=>by
 have hn:=x.fresh hp;by_cases hb:b=a
 ·subst hb;rw[aB]at e;cases e;exact new
 ·rw[ah hb]at e;exact(x b u e).k8 (λc v _ q=>k c v q) (λc q=>by rw[ah (aJ q hn)];exact q) λc xs q=>by rw[ah (aJ q hn)];exact q
end
def Rd(H:Hp)(a:ce)(u:HO):Prop:=H a=al u\/∃o,H a=al (.bX o u)
def Rd.ok{H:Hp}{u:HO}(r:Rd H a u)(x:gj P w H h):bq P w H h a u:=by
 rcases r with r | ⟨o,r⟩
 ·exact x a u r
 ·obtain⟨_,q⟩:=x a _ r;exact q
def HH:Option HO->Prop
 | some (.lst _)=>True
 | some (.dK _)=>True
 | some (.dT _)=>True
 | some (.set _ _)=>True
 | some (.ins _ _ _)=>True
 | some (.ext _)=>True
 | _=>False
section
variable{H:Hp}{x:ce}{o':HO}
def gj.write(ok:gj P w H h)(mu:HH (H x))(he:e=x\/H e=al (.own x))(k:∀b u,b≠e->h.get? b=al u->h'.get? b=al u)(zw:∃u,h'.get? e=al u)
  (new:bq P w (upd H x o') h' x o'):gj P w (upd H x o') h':=λb u q=>by
 have u9:∀c y,H c=al (.own y)->c≠x:=λc y r z=>by subst z;rw[r]at mu;exact mu
 have IL:∀c xs,H c=al (.tup xs)->c≠x:=λc xs r z=>by subst z;rw[r]at mu;exact mu
 by_cases hb:b=x
 ·subst hb;rw[aB]at q;cases q;exact new
 ·rw[ah hb]at q;by_cases yG:b=e
  ·have q':H b=al (.own x):=by
    rcases he with z | z
    ·exact absurd (yG.trans z) hb
    ·rw[yG];exact z
   rw[q]at q';cases q';obtain⟨v,hv⟩:=zw;exact⟨v,by rw[yG];exact hv⟩
  ·refine(ok b u q).k8 (λc v hc r=>k c v ?_ r) (λc r=>by rw[ah (u9 c b r)];exact r) λc xs r=>by rw[ah (IL c xs r)];exact r
   rcases hc with rfl | hc
   ·exact yG
   ·rintro rfl;rcases he with z | z
    ·exact u9 c b hc z
    ·rw[hc]at z;cases z;exact hb rfl
end
structure Un(fs ex:List ce)(H H':Hp)(h h':gt):Prop where
 keep:∀b o,h.get? b=al o->H b=be->b∉fs->b∉ex->h'.get? b=al o
 slot:∀b o,h.get? b=al o->H b=be->b∈fs->b∉ex->∃sl,h'.get? b=al {o with slots:=sl}
 free:∀b o,h.get? b=al o->H b=be->b∉ex->H' b=be
 there:∀b o,h.get? b=al o->b∉ex->∃o',h'.get? b=al o'
 bI:∀b xs,H b=al (.tup xs)->H' b=al (.tup xs)
 ku:∀b o u,H b=al (.bX o u)->H' b=al (.bX o u)
 jS:∀b ps,H b=al (.gQ ps)->∃more,H' b=al (.gQ (ps++more))
section
variable{fs ex:O ce}{H H1:Hp}{h1:gt}{x:ce}{o:HO}
def Un.any(u:Un fs ex H H1 h h1){ob:Obj}(q:h.get? b=al ob)(n:H b=be)(hx:b∉ex):∃sl,h1.get? b=al {ob with slots:=sl}:=by
 by_cases hb:b∈fs
 ·exact u.slot b ob q n hb hx
 ·exact⟨ob.slots,u.keep b ob q n hb hx⟩
def Un.kept(k:∀b u,h.get? b=al u->h'.get? b=al u):Un fs ex H H h h':=
 ⟨λb ob q _ _ _=>k b ob q,λb ob q _ _ _=>⟨ob.slots,k b ob q⟩,λ_ _ _ n _=>n,λb ob q _=>⟨ob,k b ob q⟩,λ_ _ q=>q,λ_ _ _ q=>q,λ_ ps q=>⟨#[],by rw[q];simp⟩⟩
def Un.refl:Un fs ex H H h h:=Un.kept λ_ _ q=>q
def Un.laid(k:∀b u,h.get? b=al u->h'.get? b=al u)(hp:h.objs.size<=a)(hn:H a=be):Un fs ex H (upd H a o) h h' where
 keep:=λb u q _ _ _=>k b u q
 slot:=λb u q _ _ _=>⟨u.slots,k b u q⟩
 free:=λb u q n _=>by rw[ah (AE (Au (Al q) hp))];exact n
 there:=λb u q _=>⟨u,k b u q⟩
 bI:=λb xs q=>by rw[ah (aJ q hn)];exact q
 ku:=λb u xs q=>by rw[ah (aJ q hn)];exact q
 jS:=λb ps q=>⟨#[],by rw[ah (aJ q hn),q];simp⟩
def Un.write(mu:HH (H x))(he:e=x\/H e=al (.own x))(k:∀b u,b≠e->h.get? b=al u->h'.get? b=al u)(zw:∃u,h'.get? e=al u):Un fs ex H (upd H x o) h h':=by
 have hx:∀b,H b=be->b≠x:=λb n z=>by subst z;rw[n]at mu;exact mu
 have hb:∀b,H b=be->b≠e:=λb n z=>by
  subst z;rcases he with r | r
  ·exact hx b n r
  ·rw[n]at r;cases r
 have hm:∀b u,H b=al u->¬HH (al u)->b≠x:=λb u q nm z=>by subst z;rw[q]at mu;exact nm mu
 refine⟨λb u q n _ _=>k b u (hb b n) q,λb u q n _ _=>⟨u.slots,k b u (hb b n) q⟩,λb u q n _=>by rw[ah (hx b n)];exact n,λb u q _=>?_,
  λb xs q=>by rw[ah (hm b _ q λz=>z)];exact q,λb u xs q=>by rw[ah (hm b _ q λz=>z)];exact q,λb ps q=>⟨#[],by rw[ah (hm b _ q λz=>z),q];simp⟩⟩
 by_cases yG:b=e
 ·subst yG;exact zw
 ·exact⟨u,k b u yG q⟩
end
def HU(h:gt)(H:Hp):O ce:=(BW h.objs.size).filter λa=>(H a).isSome
def kn(h:gt)(H:Hp):gt:=PySem.W.hideAll h (HU h H)
def p7(h:gt)(H:Hp):(kn h H).objs.size=h.objs.size:=DQ _ _
def sI{H:Hp}{o:Obj}(e:h.get? b=al o)(n:H b=be):(kn h H).get? b=al o:=
 DY _ e λhm=>by
  have q:=(CP.mp hm).2;rw[n]at q;simp at q
def uW{H:Hp}{o:Obj}(e:(kn h H).get? b=al o):h.get? b=al o/\H b=be:=by
 have e':=D4 (HU h H) e;refine⟨e',?_⟩;cases q:H b with
 | none=>rfl
 | some x=>
  have z:(kn h H).get? b=be:=DR (HU h H) (CP.mpr ⟨DV.mpr (Al e'),by simp[q]⟩);rw[z]at e;cases e
def vZ(g h:gt)(L:ce):O (ce×Obj):=(BW h.objs.size).filterMap λa=>if a=L\/(g.get? a).isSome=true then be else (h.get? a).map λo=>(a,o)
def rest(g h:gt)(L d:ce):O (ce×Obj):=(vZ g h L).filter λp=>decide (p.1≠d)
end L2
variable{H H':L2.Hp}{o:Eh}{U:O (AR×Eh)}{g':Array PySem.GenState}{ch:O AR}{it:AR}{i j:Nat}{M:PySem.Model}{A:PySem.Around}{E:A6->CY->Prop}{v:L2.V}{Q:Unit->CY->Prop}{s':CY}
namespace L2
structure Mod(K:Aa)(mg:Str->Option bn)(base:gt):Prop where
 vm:K.In base
 glob:base.Ns eM mg
 blt:∃mb,base.Ns wn mb/\∀x:Str,x≠"__name__"->mb x=jp x
 nolimit:base.NoLimit
 bm:∃bm ob,mg "__builtins__"=al (.ref bm)/\bm≠wn/\base.get? bm=al ob/\ob.cls=.type "module"/\ob.dict=al wn/\ob.data=.plain
structure Cx where
 prog:lf
 w:o0
 K:Aa
 mg:Str->Option bn
 base:gt
 A:re
 N:List Str
 s₀:ci
 H₀:Hp
 env:Env
 outer:List Env
 stack:List Env
 ex:List ce
 fn:Str->Bool
 calm:Bool
 pn:List (ce×Obj)
 xe:bn->ci->Prop
abbrev dU(x:Str):Prop:=(x==("__debug__":Str))=false
abbrev qq(x:Str):Prop:=(x==("__classdict__":Str))=false
abbrev c6(X:Cx)(e:gl)(es:O gl):Prop:=f8 (e::es) X.env=(false,ii e X.env)::f8 es X.env
abbrev eR(X:Cx)(p:Pos)(es:O gl):Prop:=(wE p (f8 es X.env)).any (·.1)=false
abbrev uf(X:Cx)(e:gl):Prop:=∀x,foldedSetIterable e X.env x=pure x
abbrev Gs(X:Cx)(p:Pos)(l:O gl):Prop:=((wE p (f8 l X.env)).all (λx=>!x.1)&&(backToKw p (keywordEach [] X.env)).all (λx=>x.1.isSome)&&decide (l.length+([]:O Keyword).length+(if ([]:O Keyword).isEmpty then 0 else 1) < 30))=true
abbrev xl(p q:Pos):Prop:=(p.endLine==q.line)=true
abbrev ue(X:Cx)(y:Str):Prop:=X.fn y=true\/X.env.scope.names.lookup y=al .local
def frs(l:O Env):O ce:=l.filterMap (·.frame)
abbrev Cx.fs(X:Cx):O ce:=frs X.outer
def o7(sc:ut)(x:Str):Prop:=sc.names.lookup x=al .local\/sc.names.lookup x=al .cell\/sc.names.lookup x=al .free
def Loc(sc:ut)(x:Str):Prop:=sc.names.lookup x=al .local\/sc.names.lookup x=al .cell
def Look(env:Env)(h:gt)(m:Str->Option bn)(x:Str)(u:bn):Prop:=
 (env.kindOf x=al .local/\m x=al u)\/((env.kindOf x=al .cell\/env.kindOf x=al .free)/\∃c,env.cells.lookup x=al c/\h.IsCell c (al u))
structure Cx.Ok(X:Cx):Prop where
 mod:Mod X.K X.mg X.base
 kind:X.env.scope.kind=.function
 glob:X.env.globals=eM
 blt:X.env.builtins=wn
 above:X.s₀.heap.objs.size<=X.env.locals
 inj:∀x y c,X.env.cells.lookup x=al c->X.env.cells.lookup y=al c->x=y
 has:∀x,(X.env.kindOf x=al .cell\/X.env.kindOf x=al .free)->∃c,X.env.cells.lookup x=al c
 zF:∀x c,X.fn x=true->X.env.cells.lookup x=al c->X.s₀.heap.objs.size<=c
 hd:X.calm=true->X.A.handled=be
 frames:X.A.frames=al X.stack
 GB:X.stack=X.outer\/(X.stack=X.env::X.outer/\X.env.frame=al X.env.locals)
 Lx:∀b∈X.ex,b≠X.env.locals/\∀x c,X.env.cells.lookup x=al c->c≠b
 bs:∀b o,X.base.get? b=al o->X.s₀.heap.get? b=al o/\X.H₀ b=be
 uc:X.base.objs.size<=X.s₀.heap.objs.size
 rT:∀b o,X.base.get? b=al o->b∉X.ex
 sW:∀b∈X.ex,b∉X.fs
 eO:X.s₀.heap.FunFrames X.base X.outer
 vE:∀b∈X.fs,X.H₀ b=be
structure Inv(X:Cx)(U:List (ce×Obj))(σ:List (Option V))(H:Hp)(s:ci):Prop where
 ok:X.Ok
 os:s.os=X.s₀.os
 bare:xL s.gens
 base:Un X.fs X.ex X.H₀ H X.s₀.heap s.heap
 loc:∃m,s.heap.Ns X.env.locals m/\∀(i:Nat) (x:Str) (v:V),X.N[i]?=al x->σ[i]?=al (al v)->o7 X.env.scope x->∃u,RelV v u/\Look X.env s.heap m x u
 cell:∀x c,X.env.cells.lookup x=al c->∃v,s.heap.IsCell c v
 free:H X.env.locals=be
 eA:∀x c,X.env.cells.lookup x=al c->H c=be
 pin:∀p∈X.pn++U,s.heap.get? p.1=al p.2/\H p.1=be/\p.1≠X.env.locals/\p.1∉X.fs/\∀v,p.2.data≠.cell v
 aP:gj X.prog X.w H s.heap
 len:σ.length=X.N.length
section
variable{X:Cx}{σ:O (Option V)}{s:ci}
def Cx.Ok.IP(ok:X.Ok)(e:X.base.get? b=al o):b∉X.fs:=λhb=>by
 have:=(ok.eO.mem hb).1;rw[e]at this;cases this
def Inv.bs(I:Inv X U σ H s):∀b o,X.base.get? b=al o->s.heap.get? b=al o/\H b=be:=λb o e=>
 ⟨I.base.keep b o (I.ok.bs b o e).1 (I.ok.bs b o e).2 (I.ok.IP e) (I.ok.rT b o e),I.base.free b o (I.ok.bs b o e).1 (I.ok.bs b o e).2 (I.ok.rT b o e)⟩
def Inv.bk(I:Inv X U σ H s):∀b o,X.base.get? b=al o->s.heap.get? b=al o:=λb o e=>(I.bs b o e).1
def Inv.mod(I:Inv X U σ H s):Mod X.K X.mg X.base:=I.ok.mod
def Inv.eN(I:Inv X U σ H s):X.K.In s.heap:=I.ok.mod.vm.keeps I.bk
def Inv.lt(I:Inv X U σ H s):X.env.locals < s.heap.objs.size:=let ⟨_,hn,_⟩:=I.loc;hn.lt
def Inv.sz(I:Inv X U σ H s):X.s₀.heap.objs.size<=s.heap.objs.size:=AX I.ok.above (Dz I.lt)
def Inv.IM(I:Inv X U σ H s)(h:s.heap.objs.size<=a):a∉X.fs:=λhb=>by
 obtain⟨_,o,ho,_⟩:=I.ok.eO.mem hb;exact absurd (Au (Al ho) (AX I.sz h)) (A4 _)
def Inv.xg(I:Inv X U σ H s):∀x c,X.env.cells.lookup x=al c->c≠X.env.locals:=λx c e z=>by
 obtain⟨v,o,ho,hd⟩:=I.cell x c e;obtain⟨m,⟨o',es,ep,yC,JH,_⟩,_⟩:=I.loc;rw[z,yC]at ho;cases ho;rw[JH]at hd;cases hd
def Inv.eO(I:Inv X U σ H s):s.heap.FunFrames X.base X.outer:=by
 have all:∀l,(∀b∈frs l,b∈X.fs)->X.s₀.heap.FunFrames X.base l->s.heap.FunFrames X.base l:=by
  intro l
  induction l with
  | nil=>intro _ _;trivial
  | cons env r ih=>
   intro hs hl;obtain⟨hk,⟨L,o,hf,hn,ho,hd⟩,hr⟩:=hl;have hL:=hs L (by unfold frs;rw[Ca,hf];exact A9);obtain⟨sl,e⟩:=I.base.slot L o ho (I.ok.vE L hL) hL λz=>I.ok.sW L z hL;exact⟨hk,⟨L,_,hf,hn,e,hd⟩,ih (λb hb=>hs b (by unfold frs;rw[Ca,hf];exact AA _ hb)) hr⟩
 exact all X.outer (λ_ hb=>hb) I.ok.eO
def Inv.stack(I:Inv X U σ H s):s.heap.FunFrames X.base X.stack:=by
 rcases I.ok.GB with e | ⟨e,hf⟩
 ·rw[e];exact I.eO
 ·rw[e];obtain⟨m,hn,_⟩:=I.loc;refine .cons (by rw[I.ok.kind];decide) hf hn ?_ I.eO;exact Heap.get?_none_of_le (AX I.ok.uc I.ok.above)
def Inv.jT(I:Inv X U σ H s):∀b∈frs X.stack,b∈X.env.locals::X.fs:=λb hb=>by
 rcases I.ok.GB with e | ⟨e,hf⟩
 ·rw[e]at hb;exact AA _ hb
 ·rw[e]at hb;unfold frs at hb;rw[Ca,hf]at hb;exact hb
def Inv.n8(I:Inv X U σ H s):∀b∈frs X.stack,H b=be:=λb hb=>by
 rcases Ax.mp (I.jT b hb) with e | hb
 ·rw[e];exact I.free
 ·obtain⟨_,o,ho,_⟩:=I.ok.eO.mem hb;exact I.base.free b o ho (I.ok.vE b hb) λz=>I.ok.sW b z hb
def Inv.step{t':Nat}{d':Drawn}(I:Inv X U σ H s)
  (ua:∀b∈ch,(b∈X.ex\/X.s₀.heap.objs.size<=b)/\b≠X.env.locals/\(∀x c,X.env.cells.lookup x=al c->c≠b)/\∀p∈X.pn++U,p.1≠b)
  (keep:∀b o,b≠X.env.locals->b∉X.fs->b∉ch->s.heap.get? b=al o->H b=be->h'.get? b=al o)
  (slot:∀b o,b≠X.env.locals->b∈X.fs->b∉ch->s.heap.get? b=al o->H b=be->∃sl,h'.get? b=al {o with slots:=sl}) (free:∀b o,b∉ch->s.heap.get? b=al o->H b=be->H' b=be)
  (there:∀b o,b∉ch->s.heap.get? b=al o->∃o',h'.get? b=al o')
  (bI:∀b xs,H b=al (.tup xs)->H' b=al (.tup xs)) (ku:∀b o u,H b=al (.bX o u)->H' b=al (.bX o u)) (jS:∀b ps,H b=al (.gQ ps)->∃more,H' b=al (.gQ (ps++more)))
  (ns:∀m,s.heap.Ns X.env.locals m->h'.Ns X.env.locals m) (aP:gj X.prog X.w H' h') (hg:xL g') :
  Inv X U σ H' {s with heap:=h',gens:=g',drawn:=d',toks:=t'}:=by
 have K0:∀b o,X.s₀.heap.get? b=al o->b≠X.env.locals:=λb o e=>AE (Au (Al e) I.ok.above);have GN:∀b o,X.s₀.heap.get? b=al o->b∉X.ex->b∉ch:=λb o e hx hb=>by
  rcases (ua b hb).1 with z | z
  ·exact hx z
  ·exact absurd (Au (Al e) z) (A4 _)
 have Ô:∀x c,X.env.cells.lookup x=al c->∀v,s.heap.IsCell c v->h'.IsCell c v:=λx c e v ⟨o,ho,hd⟩=>by
  have E6:c∉ch:=λz=>(ua c z).2.2.1 x c e rfl;by_cases hc:c∈X.fs
  ·obtain⟨sl,q⟩:=slot c o (I.xg x c e) hc E6 ho (I.eA x c e);exact⟨_,q,hd⟩
  ·exact⟨o,keep c o (I.xg x c e) hc E6 ho (I.eA x c e),hd⟩
 refine⟨I.ok,I.os,hg,⟨λb o e n hb hx=>?_,λb o e n hb hx=>?_,λb o e n hx=>?_,λb o e hx=>?_,λb xs e=>bI b xs (I.base.bI b xs e),λb o xs e=>ku b o xs (I.base.ku b o xs e),λb ps e=>?_⟩,?_,λx c e=>?_,?_,λx c e=>?_,λp hp=>?_,aP,I.len⟩
 ·exact keep b o (K0 b o e) hb (GN b o e hx) (I.base.keep b o e n hb hx) (I.base.free b o e n hx)
 ·obtain⟨sl,e1⟩:=I.base.slot b o e n hb hx;obtain⟨Mj,e2⟩:=slot b _ (K0 b o e) hb (GN b o e hx) e1 (I.base.free b o e n hx);exact⟨Mj,e2⟩
 ·obtain⟨o',e1⟩:=I.base.there b o e hx;exact free b o' (GN b o e hx) e1 (I.base.free b o e n hx)
 ·obtain⟨o',e1⟩:=I.base.there b o e hx;exact there b o' (GN b o e hx) e1
 ·obtain⟨m1,e1⟩:=I.base.jS b ps e;obtain⟨m2,e2⟩:=jS b _ e1;exact⟨m1++m2,by rw[e2,Array.append_assoc]⟩
 ·obtain⟨m,hn,hl⟩:=I.loc;refine⟨m,ns m hn,λi x v e1 e2 e3=>?_⟩;obtain⟨u,r,l⟩:=hl i x v e1 e2 e3;refine⟨u,r,?_⟩;rcases l with l | ⟨k,c,e,z⟩
  ·exact .inl l
  ·exact .inr ⟨k,c,e,Ô x c e _ z⟩
 ·obtain⟨v,z⟩:=I.cell x c e;exact⟨v,Ô x c e v z⟩
 ·obtain⟨m,⟨o,_,_,ho,_⟩,_⟩:=I.loc;exact free _ o (λz=>(ua _ z).2.1 rfl) ho I.free
 ·obtain⟨v,o,ho,hd⟩:=I.cell x c e;exact free c o (λz=>(ua c z).2.2.1 x c e rfl) ho (I.eA x c e)
 ·obtain⟨e,n,ne,nf,d⟩:=I.pin p hp;have E6:p.1∉ch:=λz=>(ua p.1 z).2.2.2 p hp rfl;exact⟨keep p.1 p.2 ne nf E6 e n,free p.1 p.2 E6 e n,ne,nf,d⟩
def Inv.un{t':Nat}(I:Inv X U σ H s)(u:Un X.fs [] H H' s.heap h')(aP:gj X.prog X.w H' h'):Inv X U σ H' {s with heap:=h',toks:=t'}:=by
 obtain⟨m,⟨o,es,ep,ho,r⟩,_⟩:=id I.loc;obtain⟨sl,hL⟩:=u.any ho I.free (by simp);exact I.step (g':=s.gens) (d':=s.drawn) (ch:=[]) (λ_ z=>nomatch z) (λb o _ hb _ e n=>u.keep b o e n hb (by simp)) (λb o _ hb _ e n=>u.slot b o e n hb (by simp)) (λb o _ e n=>u.free b o e n (by simp)) (λb o _ e=>u.there b o e (by simp)) u.bI u.ku u.jS (λm' hm=>by
  obtain⟨o',Kg,Kh,yC,r'⟩:=hm;rw[ho]at yC;cases yC;exact⟨_,Kg,Kh,hL,r'⟩) aP I.bare
def Inv.call{t':Nat}{d':Drawn}(I:Inv X U σ H s)(u:Un (frs X.stack) ch H H' s.heap h')(aP:gj X.prog X.w H' h')(hg:xL g')
  (ua:∀b∈ch,(b∈X.ex\/X.s₀.heap.objs.size<=b)/\b≠X.env.locals/\(∀x c,X.env.cells.lookup x=al c->c≠b)/\∀p∈X.pn++U,p.1≠b) :
  Inv X U σ H' {s with heap:=h',gens:=g',drawn:=d',toks:=t'}:=by
 obtain⟨m,⟨o,es,ep,ho,r⟩,_⟩:=id I.loc;obtain⟨sl,hL⟩:=u.any ho I.free λz=>(ua _ z).2.1 rfl;exact I.step (ch:=ch) ua (λb o hL hb hc e n=>u.keep b o e n (λz=>(Ax.mp (I.jT b z)).elim hL hb) hc) (λb o _ _ hc e n=>u.any e n hc) (λb o hc e n=>u.free b o e n hc) (λb o hc e=>u.there b o e hc) u.bI u.ku u.jS (λm' hm=>by
  obtain⟨o',Kg,Kh,yC,r'⟩:=hm;rw[ho]at yC;cases yC;exact⟨_,Kg,Kh,hL,r'⟩) aP hg
def Inv.turned{t':Nat}(I:Inv X U σ H s)(k:∀b o,b≠it->s.heap.get? b=al o->h'.get? b=al o)(hn:H it=be)(hL:it≠X.env.locals)
  (h1:it∈X.ex\/X.s₀.heap.objs.size<=it) (h2:∀x c,X.env.cells.lookup x=al c->c≠it) (h3:∀p∈X.pn++U,p.1≠it):Inv X U σ H {s with heap:=h',toks:=t'}:=by
 have wG:∀b u,H b=al u->b≠it:=λb u e z=>by rw[z,hn]at e;cases e
 refine I.step (g':=s.gens) (d':=s.drawn) (ch:=[it]) (λb hb=>?_) (λb o _ _ hc e _=>k b o (λz=>hc (by simp[z])) e) (λb o _ _ hc e _=>⟨o.slots,k b o (λz=>hc (by simp[z])) e⟩) (λ_ _ _ _ n=>n)
  (λb o hc e=>⟨o,k b o (λz=>hc (by simp[z])) e⟩) (λ_ _ e=>e) (λ_ _ _ e=>e) (λb ps e=>⟨#[],by rw[e];simp⟩) (λm hm=>?_) (λb u e=>?_) I.bare
 ·have e:b=it:=by simpa using hb
  subst e;exact⟨h1,hL,h2,h3⟩
 ·obtain⟨o,es,ep,ho,r⟩:=hm;exact⟨o,es,ep,k _ o (Cg hL) ho,r⟩
 ·refine(I.aP b u e).k8 (λc v hc q=>k c v ?_ q) (λ_ q=>q) λ_ _ q=>q;rcases hc with z | z
  ·rw[z];exact wG b u e
  ·exact wG c _ z
def Inv.tok(I:Inv X U σ H s)(t:Nat):Inv X U σ H {s with toks:=t}:=I.un Un.refl I.aP
def Inv.kept{t':Nat}(I:Inv X U σ H s)(k:∀b u,s.heap.get? b=al u->h'.get? b=al u):Inv X U σ H {s with heap:=h',toks:=t'}:=I.un (Un.kept k) (I.aP.kept k)
def Inv.laid{o:HO}{t':Nat}(I:Inv X U σ H s)(k:∀b u,s.heap.get? b=al u->h'.get? b=al u)(hp:s.heap.objs.size<=a)(new:bq X.prog X.w (upd H a o) h' a o) :
  Inv X U σ (upd H a o) {s with heap:=h',toks:=t'}:=I.un (Un.laid k hp (I.aP.fresh hp)) (I.aP.laid k hp new)
def Inv.write{x:ce}{o:HO}{t':Nat}(I:Inv X U σ H s)(mu:HH (H x))(he:e=x\/H e=al (.own x))(k:∀b u,b≠e->s.heap.get? b=al u->h'.get? b=al u)(zw:∃u,h'.get? e=al u)
  (new:bq X.prog X.w (upd H x o) h' x o):Inv X U σ (upd H x o) {s with heap:=h',toks:=t'}:=I.un (Un.write mu he k zw) (I.aP.write mu he k zw new)
def Inv.oo{lz:O (ce×Obj)}(I:Inv X U σ H s)(h:∀p∈lz,s.heap.get? p.1=al p.2/\H p.1=be/\p.1≠X.env.locals/\p.1∉X.fs/\∀v,p.2.data≠.cell v):Inv X lz σ H s:=
 ⟨I.ok,I.os,I.bare,I.base,I.loc,I.cell,I.free,I.eA,λp hp=>(Bs.mp hp).elim (λz=>I.pin p (Bn _ z)) (h p),I.aP,I.len⟩
def lF{N:O Str}(hN:N.Nodup){x:Str}(a:N[i]?=al x)(b:N[j]?=al x):i=j:=by
 obtain⟨h1,e1⟩:=Ag.mp a;obtain⟨h2,e2⟩:=Ag.mp b;exact(List.getElem_inj hN).mp (e1.trans e2.symm)
def pj{x:Str}(I:Inv X U σ H s)(hN:X.N.Nodup)(hi:X.N[i]?=al x)(hx:Loc X.env.scope x)(r:RelV v u)
  (h:∀s',Inv X U (σ.set i (al v)) H s'->(∃a,B6 a s.heap s'.heap/\(a=X.env.locals\/X.env.cells.lookup x=al a))->Q () s') (hf:ue X x:=by first | exact .inl rfl | exact .inr rfl | assumption):db M A (storeName X.env x u) Q E s:=by
 obtain⟨m,hn,hl⟩:=id I.loc;have JI:(X.env.scope.kind==.class||(X.env.scope.kind==.module&&X.env.locals != X.env.globals))=false:=by rw[I.ok.kind];rfl
 have FE:i < σ.length:=by rw[I.len];exact(Ag.mp hi).1
 have xg:=I.xg;have Î:∀{a:ce}{h':gt},(∃o,s.heap.get? a=al o/\H a=be)->B6 a s.heap h'->gj X.prog X.w H h':=λ{a h'} ha hs b ob e=>by
  obtain⟨_,_,wR⟩:=ha;refine(I.aP b ob e).k8 (λc w' hc q=>(hs.2 c ?_).trans q) (λ_ q=>q) λ_ _ q=>q;rintro rfl;rcases hc with rfl | hc
  ·rw[wR]at e;cases e
  ·rw[wR]at hc;cases hc
 rcases hx with hk | hk
 ·refine wpAny_storeName_local hk hn (λh' Np hs=>?_) JI;obtain⟨oL,_,_,Nm,_⟩:=id hn;refine h _ ⟨I.ok,I.os,I.bare,⟨λb o e n hb hx=>?_,λb o e n hb hx=>?_,I.base.free,λb o e hx=>?_,I.base.bI,I.base.ku,I.base.jS⟩,⟨_,Np,λj y v' e1 e2 e3=>?_⟩,λy c e=>?_,I.free,I.eA,λp hp=>?_,Î ⟨oL,Nm,I.free⟩ hs,by simpa using I.len⟩ ⟨_,hs,.inl rfl⟩
  ·exact(hs.2 b (AE (Au (Al e) I.ok.above))).trans (I.base.keep b o e n hb hx)
  ·obtain⟨sl,e1⟩:=I.base.slot b o e n hb hx;exact⟨sl,(hs.2 b (AE (Au (Al e) I.ok.above))).trans e1⟩
  ·obtain⟨o',e1⟩:=I.base.there b o e hx;exact⟨o',(hs.2 b (AE (Au (Al e) I.ok.above))).trans e1⟩
  ·by_cases hj:j=i
   ·subst hj;rw[hi]at e1;cases e1;rw[DB FE]at e2;cases e2;exact⟨u,r,.inl ⟨hk,by simp⟩⟩
   ·rw[B4 (Cg hj)]at e2;obtain⟨u',r',q⟩:=hl j y v' e1 e2 e3;refine⟨u',r',?_⟩;rcases q with⟨k,e⟩ | ⟨k,c,e,z⟩
    ·refine .inl ⟨k,?_⟩;have:y≠x:=λe=>hj (lF hN e1 (e▸hi));simp[this,e]
    ·exact .inr ⟨k,c,e,z.sameBut hs (xg y c e)⟩
  ·obtain⟨w',z⟩:=I.cell y c e;exact⟨w',z.sameBut hs (xg y c e)⟩
  ·obtain⟨e,n,ne,nf,d⟩:=I.pin p hp;exact⟨(hs.2 p.1 ne).trans e,n,ne,nf,d⟩
 ·have yE:X.fn x=true:=by
   rcases hf with z | z
   ·exact z
   ·rw[z]at hk;cases hk
  obtain⟨c,hc⟩:=I.ok.has x (.inl hk);obtain⟨w',z⟩:=I.cell x c hc;refine wpAny_storeName_cell I.ok.kind hk hc z (λh' qw hs=>?_);obtain⟨oc,La,Jt⟩:=id z;refine h {s with heap:=h'} ⟨I.ok,I.os,I.bare,⟨λb o e n hb hx=>?_,λb o e n hb hx=>?_,I.base.free,λb o e hx=>?_,I.base.bI,I.base.ku,I.base.jS⟩,⟨m,hn.sameBut hs (Cg (xg x c hc)),λj y v' e1 e2 e3=>?_⟩,λy c' e=>?_,I.free,I.eA,λp hp=>?_,Î ⟨oc,La,I.eA x c hc⟩ hs,by simpa using I.len⟩ ⟨c,hs,.inr hc⟩
  ·exact(hs.2 b (AE (Au (Al e) (I.ok.zF x c yE hc)))).trans (I.base.keep b o e n hb hx)
  ·obtain⟨sl,e1⟩:=I.base.slot b o e n hb hx;exact⟨sl,(hs.2 b (AE (Au (Al e) (I.ok.zF x c yE hc)))).trans e1⟩
  ·obtain⟨o',e1⟩:=I.base.there b o e hx;exact⟨o',(hs.2 b (AE (Au (Al e) (I.ok.zF x c yE hc)))).trans e1⟩
  ·by_cases hj:j=i
   ·subst hj;rw[hi]at e1;cases e1;rw[DB FE]at e2;cases e2;exact⟨u,r,.inr ⟨.inl hk,c,hc,qw⟩⟩
   ·rw[B4 (Cg hj)]at e2;obtain⟨u',r',q⟩:=hl j y v' e1 e2 e3;refine⟨u',r',?_⟩;rcases q with q | ⟨k,c',e,z'⟩
    ·exact .inl q
    ·refine .inr ⟨k,c',e,z'.sameBut hs ?_⟩;rintro rfl;exact hj (lF hN e1 (I.ok.inj _ _ _ e hc▸hi))
  ·by_cases Lg:c'=c
   ·subst Lg;exact⟨_,qw⟩
   ·obtain⟨w2,z2⟩:=I.cell y c' e;exact⟨w2,z2.sameBut hs Lg⟩
  ·obtain⟨e,n,ne,nf,d⟩:=I.pin p hp;refine⟨(hs.2 p.1 ?_).trans e,n,ne,nf,d⟩;intro q;rw[q,La]at e;have q':oc=p.2:=Option.some.inj e;exact d w' (by rw[<- q'];exact Jt)
def fv{x:Str}(I:Inv X U σ H s)(hN:X.N.Nodup)(hi:X.N[i]?=al x)(hx:Loc X.env.scope x)(r:RelV v u)
  (h:∀s',Inv X U (σ.set i (al v)) H s'->Q () s') (hf:ue X x:=by first | exact .inl rfl | exact .inr rfl | assumption):db M A (storeName X.env x u) Q E s:=
 pj I hN hi hx r (λs' I' _=>h s' I') hf
def Inv.Gj(I:Inv X U σ H s)(ho:s'.os=s.os)(u:Un (frs X.stack) ch H H' s.heap s'.heap)(aP:gj X.prog X.w H' s'.heap)(hg:xL s'.gens)
  (ua:∀b∈ch,(b∈X.ex\/X.s₀.heap.objs.size<=b)/\b≠X.env.locals/\(∀x c,X.env.cells.lookup x=al c->c≠b)/\∀p∈X.pn++U,p.1≠b):Inv X U σ H' s':=by
 obtain⟨h',g',d',t',o'⟩:=s';have e:o'=s.os:=ho;subst e;exact I.call (g':=g') (t':=t') (d':=d') u aP hg ua
end
abbrev XK:=bn->Option ce->Hp->Prop
abbrev St:=O (Option V)
abbrev VK:=V->Hp->Prop
abbrev TE:=St->Hp->VK->Prop
abbrev TT:=St->Hp->(Bool->Hp->Prop)->Prop
abbrev TA:=St->Hp->(O V->Hp->Prop)->Prop
structure Ends where
 nx:St->Hp->Prop
 rt:VK
 bk:St->Hp->Prop:=λ_ _=>False
 ct:St->Hp->Prop:=λ_ _=>False
abbrev TS:=Ends->St->Hp->Prop
def EP(X:Cx)(U:O (ce×Obj))(σ:St)(Q:VK)(u:bn)(s':ci):Prop:=∃v H',Inv X U σ H' s'/\RelV v u/\Q v H'
def TP(X:Cx)(U:O (ce×Obj))(σ:St)(Q:Bool->Hp->Prop)(b:Bool)(s':ci):Prop:=∃H',Inv X U σ H' s'/\Q b H'
def AP(X:Cx)(U:O (ce×Obj))(σ:St)(Q:O V->Hp->Prop)(us:O bn)(s':ci):Prop:=∃vs H',Inv X U σ H' s'/\Vals vs us/\Q vs H'
def SP(X:Cx)(U:O (ce×Obj))(D:Ends)(f:Flow)(s':ci):Prop:=
 match f with
 | .next=>∃σ' H',Inv X U σ' H' s'/\D.nx σ' H'
 | .brk=>∃σ' H',Inv X U σ' H' s'/\D.bk σ' H'
 | .cont=>∃σ' H',Inv X U σ' H' s'/\D.ct σ' H'
 | .ret u=>∃v σ' H',Inv X U σ' H' s'/\RelV v u/\D.rt v H'
def PE(X:Cx)(e:gl)(t:TE):Prop:=
 ∀(U:O (ce×Obj)) (s:ci) (σ:St) (H:Hp) (Q:VK),Inv X U σ H s->t σ H Q->db (em X.prog X.w) X.A (ii e X.env) (EP X U σ Q) X.xe s
def PT(X:Cx)(e:gl)(t:TT):Prop:=
 ∀(U:O (ce×Obj)) (s:ci) (σ:St) (H:Hp) (Q:Bool->Hp->Prop),Inv X U σ H s->t σ H Q->db (em X.prog X.w) X.A (isTrue e X.env (ii e X.env)) (TP X U σ Q) X.xe s
def PW(X:Cx)(e:gl)(t:TT):Prop:=
 ∀(Á:Sem bn) (U:O (ce×Obj)) (s:ci) (σ:St) (H:Hp) (Q:Bool->Hp->Prop),Inv X U σ H s->t σ H Q->db (em X.prog X.w) X.A (isTrue e X.env Á) (TP X U σ Q) X.xe s
def PW.pt{X:Cx}{e:gl}{t:TT}(h:PW X e t):PT X e t:=h _
def PA(X:Cx)(es:O gl)(t:TA):Prop:=
 ∀(pos:Pos) (U:O (ce×Obj)) (s:ci) (σ:St) (H:Hp) (Q:O V->Hp->Prop),Inv X U σ H s->t σ H Q->db (em X.prog X.w) X.A (spliced (wE pos (f8 es X.env))) (AP X U σ Q) X.xe s
def PS(X:Cx)(st:lm)(t:TS):Prop:=
 ∀(U:O (ce×Obj)) (s:ci) (σ:St) (H:Hp) (D:Ends),Inv X U σ H s->t D σ H->db (em X.prog X.w) X.A (exec st X.env) (SP X U D) X.xe s
def PSs(X:Cx)(st:O lm)(t:TS):Prop:=
 ∀(U:O (ce×Obj)) (s:ci) (σ:St) (H:Hp) (D:Ends),Inv X U σ H s->t D σ H->db (em X.prog X.w) X.A (execs st X.env) (SP X U D) X.xe s
def aR{t:Sem α}{Q Q':α->ci->Prop}{s:ci}(h:db M A t Q E s)(hQ:∀a s,Q a s->Q' a s):db M A t Q' E s:=BV h hQ λ_ _ x=>x
end L2
variable{a e:BM}{X:L2.Cx}{σ:L2.St}{Q:A6->CY->Prop}{ta tb:L2.TE}{R:L2.V->L2.V->L2.Hp->Prop}{pos:B7}{op:PySem.CmpOp}
namespace L2
section
def bin{b:gl}(ha:PE X a ta)(hb:PE X b tb){s:ci}(I:Inv X U σ H s)(h:ta σ H λx H1=>tb σ H1 λy H2=>R x y H2){Q:α->ci->Prop}{f:bn->bn->Sem α}
  (hf:∀v u s2 x y H2,Inv X U σ H2 s2->RelV x v->RelV y u->R x y H2->db (em X.prog X.w) X.A (f v u) Q X.xe s2) :
  db (em X.prog X.w) X.A (ii a X.env) (λv s₁=>db (em X.prog X.w) X.A (ii b X.env) (λu s₂=>db (em X.prog X.w) X.A (f v u) Q X.xe s₂) X.xe s₁) X.xe s:=by
 refine aR (ha U s σ H _ I h) λv s1 ⟨x,H1,I1,r1,q1⟩=>?_;refine aR (hb U s1 σ H1 _ I1 q1) λu s2 ⟨y,H2,I2,r2,q2⟩=>?_;exact hf v u s2 x y H2 I2 r1 r2 q2
def z0(i:Nat):TE:=λσ H Q=>∃v,σ[i]?=al (al v)/\Q v H
def tC(v:V):TE:=λ_ H Q=>Q v H
def cy{x:Str}(hN:X.N[i]?=al x)(hv:o7 X.env.scope x)(hd:dU x:=by decide)(ek:qq x:=by decide):PE X (.Name x pos) (z0 i):=by
 intro U s σ H Q I h;obtain⟨v,e,h⟩:=h;obtain⟨m,hn,hl⟩:=I.loc;obtain⟨u,r,l⟩:=hl i x v hN e hv;have fin:EP X U σ Q u s:=⟨v,H,I,r,h⟩;rcases l with⟨hk,hm⟩ | ⟨hk,c,hc,lQ⟩
 ·exact wpAny_Name (wpAny_loadName_local I.ok.kind hk hn hm fin) hd
 ·rcases hk with hk | hk
  ·exact wpAny_Name (wpAny_loadName_cell I.ok.kind hk hc lQ fin) hd
  ·exact wpAny_Name (wpAny_loadName_free I.ok.kind hk hc lQ fin ek) hd
def bV{i j pos}:PE X (.Constant (.int i) j pos) (tC (.int i)):=λ_ _ _ H _ I h=>wpAny_Constant_int ⟨.int i,H,I.tok _,⟨_,rfl⟩,h⟩
def rC{b j pos}:PE X (.Constant (.bool b) j pos) (tC (.bl b)):=λ_ _ _ H _ I h=>Constant_bool ⟨.bl b,H,I,rfl,h⟩
def j5{j pos}:PE X (.Constant .none j pos) (tC .aL):=λ_ _ _ H _ I h=>Constant_none ⟨.aL,H,I,rfl,h⟩
def dY{x j pos}:PE X (.Constant (.str x) j pos) (tC (.str x)):=λ_ _ _ H _ I h=>Calls.Constant_str ⟨.str x,H,I.tok _,⟨_,rfl⟩,h⟩
def Gl(X:Cx)(x:Str):Prop:=X.env.kindOf x=al .globalImplicit
def hU{s:ci}{x:Str}(I:Inv X U σ H s)(hg:Gl X x)(hm:X.mg x=al u)(h:Q u s)
  (hd:dU x:=by decide):db (em X.prog X.w) X.A (ii (.Name x pos) X.env) Q E s:=
 C3 I.ok.kind hg (Calls.loadGlobal_global (by rw[I.ok.glob];exact I.mod.glob.keeps I.bk) hm h) hd
def fb{s:ci}{x:Str}(I:Inv X U σ H s)(hg:Gl X x)(hm:X.mg x=be)(hv:jp x=al u)(h:Q u s)
  (hn:x≠"__name__":=by decide) (hd:dU x:=by decide):db (em X.prog X.w) X.A (ii (.Name x pos) X.env) Q E s:=by
 obtain⟨mb,h1,h2⟩:=I.mod.blt;exact C3 I.ok.kind hg (Calls.loadGlobal_builtin (by rw[I.ok.glob];exact I.mod.glob.keeps I.bk) hm (by rw[I.ok.blt];exact h1.keeps I.bk) ((h2 x hn).trans hv) h) hd
def j7{x:Str}(hg:Gl X x)(hm:X.mg x=al u)(r:RelV v u)(hd:dU x:=by decide):PE X (.Name x pos) (tC v):=
 λ_ _ _ H _ I h=>hU I hg hm ⟨v,H,I,r,h⟩ hd
def ou{x:Str}(hg:Gl X x)(hm:X.mg x=be)(hv:jp x=al u)(r:RelV v u)(hn:x≠"__name__":=by decide)(hd:dU x:=by decide):PE X (.Name x pos) (tC v):=
 λ_ _ _ H _ I h=>fb I hg hm hv ⟨v,H,I,r,h⟩ hn hd
variable{b:gl}
def PC(X:Cx)(op:CmpOp)(a b:gl)(t:TE):Prop:=
 ∀(U:O (ce×Obj)) (s:ci) (σ:St) (H:Hp) (Q:VK),Inv X U σ H s->t σ H Q->
  db (em X.prog X.w) X.A (ii a X.env) (λv s₁=>db (em X.prog X.w) X.A (ii b X.env) (λu s₂=>db (em X.prog X.w) X.A (li op v u) (EP X U σ Q) X.xe s₂) X.xe s₁) X.xe s
def tB(t:TE):TT:=λσ H Q=>t σ H λx H1=>∃c,x=.bl c/\Q c H1
def ID{t:TE}(h:PC X op a b t)(h1:nn op b=false:=by first | exact E4 _ ⋯ ⋯ | rfl):PT X (.Compare a [op] [b] pos) (tB t):=by
 intro U s σ H Q I hw;refine wpAny_isTrue_Compare1 (aR (h U s σ H _ I hw) λv s1 h1=>aR h1 λu s2 h2=>aR h2 λc s3 ⟨x,H1,I1,r1,q1⟩=>?_) h1;obtain⟨d,rfl,q⟩:=q1;cases r1;exact BL ⟨H1,I1,q⟩
def jZ{t:TE}(h:PE X e t)(he:∀Á,isTrue e X.env Á=(do let v <- Á;u8 e.pos;mo [v] (truthy v)):=by intro _;rfl):PT X e (tB t):=by
 intro U s σ H Q I hw;refine isTrue_plain (aR (h U s σ H _ I hw) λv s1 ⟨x,H1,I1,r1,q1⟩=>?_) (he _);obtain⟨d,rfl,q⟩:=q1;cases r1;exact BL ⟨H1,I1,q⟩
variable{tA GA:TT}{rest:O gl}
def Ih(t u:TT):TT:=λσ H Q=>t σ H λc H1=>if c=true then u σ H1 Q else Q false H1
def Me(t u:TT):TT:=λσ H Q=>t σ H λc H1=>if c=true then Q true H1 else u σ H1 Q
def Ia(t:TT):TT:=λσ H Q=>t σ H λc H1=>Q (!c) H1
def oj(ha:PT X a tA):PW X (.BoolOp .And [a] pos) tA:=by
 intro wh U s σ H Q I h;refine isTrue_and (aR (ha U s σ H Q I h) λc s1 e=>?_);cases c with
 | true=>exact isTrue_and_nil e
 | false=>exact e
def xJ(ha:PT X a tA):PW X (.BoolOp .Or [a] pos) tA:=by
 intro wh U s σ H Q I h;refine isTrue_or (aR (ha U s σ H Q I h) λc s1 e=>?_);cases c with
 | false=>exact isTrue_or_nil e
 | true=>exact e
def qY(ha:PT X a tA)(hb:PW X (.BoolOp .And (b::rest) pos) GA):PW X (.BoolOp .And (a::b::rest) pos) (Ih tA GA):=by
 intro wh U s σ H Q I h;refine isTrue_and (aR (ha U s σ H _ I h) λc s1 ⟨H1,I1,q1⟩=>?_);cases c with
 | true=>exact hb wh U s1 σ H1 Q I1 q1
 | false=>exact⟨H1,I1,q1⟩
def EM(ha:PT X a tA)(hb:PW X (.BoolOp .Or (b::rest) pos) GA):PW X (.BoolOp .Or (a::b::rest) pos) (Me tA GA):=by
 intro wh U s σ H Q I h;refine isTrue_or (aR (ha U s σ H _ I h) λc s1 ⟨H1,I1,q1⟩=>?_);cases c with
 | true=>exact⟨H1,I1,q1⟩
 | false=>exact hb wh U s1 σ H1 Q I1 q1
def j0(ha:PT X a tA):PT X (.UnaryOp .Not a pos) (Ia tA):=by
 intro U s σ H Q I h;exact isTrue_not (ha U s σ H (λc H1=>Q (!c) H1) I h)
def Ew(ta tb:TE):TE:=λσ H Q=>ta σ H λx H1=>∃c,x=.bl c/\if c=true then tb σ H1 Q else Q (.bl false) H1
def rz{op}{t:TE}(h:PE X a t):PE X (.BoolOp op [a] pos) t:=λU s σ H Q I hw=>BoolOp_one (h U s σ H Q I hw)
def rD(ha:PE X a ta)(hb:PE X (.BoolOp .And (b::rest) pos) tb):PE X (.BoolOp .And (a::b::rest) pos) (Ew ta tb):=by
 intro U s σ H Q I h;refine BoolOp_and (aR (ha U s σ H _ I h) λv s1 ⟨x,H1,I1,r1,q1⟩=>?_);obtain⟨c,rfl,q1⟩:=q1;cases r1;refine BL ?_;cases c with
 | true=>exact hb U s1 σ H1 Q I1 q1
 | false=>exact⟨.bl false,H1,I1,rfl,q1⟩
def Mg(t:TT)(ta tb:TE):TE:=λσ H Q=>t σ H λc H1=>if c=true then ta σ H1 Q else tb σ H1 Q
def rA{c:gl}(hc:PT X c tA)(ha:PE X a ta)(hb:PE X b tb):PE X (.IfExp c a b pos) (Mg tA ta tb):=by
 intro U s σ H Q I h;refine wpAny_IfExp (aR (hc U s σ H _ I h) λd s1 ⟨H1,I1,q1⟩=>?_);cases d with
 | true=>exact ha U s1 σ H1 Q I1 q1
 | false=>exact hb U s1 σ H1 Q I1 q1
end
end L2
variable{xs ys:O L2.V}{y:L2.V}{D:L2.Ends}{te to:L2.TE}{es:O BM}{k n:Nat}{tg:BM}{É px py pt:B7}{body:O PySem.Stmt}
namespace L2
def bO(K:Aa)(H:Hp)(a:ce)(xs:O V):Prop:=
 Rd H a (.lst xs)\/
  ∃(o:Obj) (ak:Array bn) (n:Nat),K.lookup a=al o/\o.cls=.type "list"/\o.dict=be/\o.data=.seq ak n/\ak.size<=sizeLine/\Vals xs ak.toList
def cf(K:Aa)(H:Hp)(a:ce)(xs:O V):Prop:=
 Rd H a (.tup xs)\/
  ∃(o:Obj) (ak:Array bn) (n:Nat),K.lookup a=al o/\o.cls=.type "tuple"/\o.data=.seq ak n/\ak.size<=sizeLine/\Vals xs ak.toList
def Kr:bn->Option V
 | .none=>al .aL
 | .bool b=>al (.bl b)
 | .int i _=>al (.int i)
 | .str x _=>al (.str x)
 | .bytes b _=>al (.o5 b)
 | .float b _=>al (.yJ b)
 | .ref a=>al (.ref a)
 | .type n=>al (.ty n)
 | _=>be
def RelV.abs{x:V}(r:RelV x u):Kr u=al x:=by
 cases x with
 | aL=>cases r;rfl
 | bl _=>cases r;rfl
 | int _=>obtain⟨t,rfl⟩:=r;rfl
 | str _=>obtain⟨t,rfl⟩:=r;rfl
 | o5 _=>obtain⟨t,rfl⟩:=r;rfl
 | yJ _=>obtain⟨t,rfl⟩:=r;rfl
 | ref _=>cases r;rfl
 | ty _=>cases r;rfl
def RelV.inj{x:V}(r:RelV x u)(q:RelV y u):x=y:=Option.some.inj (r.abs.symm.trans q.abs)
theorem Vals.inj:∀{xs ys:O V}{us:O bn},Vals xs us->Vals ys us->xs=ys
 | _,_,_,.nil,.nil=>rfl
 | _,_,_,.cons r t,.cons r' t'=>by rw[r.inj r',Vals.inj t t']
section
variable{s:ci}{a:ce}
def bO.of{K:Aa}(h:H a=al (.lst xs)):bO K H a xs:=.inl (.inl h)
def cf.of{K:Aa}(h:H a=al (.tup xs)):cf K H a xs:=.inl (.inl h)
theorem Inv.list(I:Inv X U σ H s)(h:bO X.K H a xs):∃ak:O bn,Vals xs ak/\PlainL s.heap a ak.toArray/\xs.length<=sizeLine:=by
 rcases h with h | ⟨o,ak,n,hk,hc,hd,hs,hz,r⟩
 ·obtain⟨z,ak,n,r,e⟩:=h.ok I.aP;exact⟨ak,r,⟨_,n,e,rfl,rfl,rfl⟩,z⟩
 ·refine⟨ak.toList,r,⟨o,n,I.eN a o hk,hc,hd,by simpa using hs⟩,?_⟩;have e:=r.length;simp at e;omega
theorem Inv.tuple(I:Inv X U σ H s)(h:cf X.K H a xs):∃ak:O bn,Vals xs ak/\IsTup s.heap a ak.toArray/\xs.length<=sizeLine:=by
 rcases h with h | ⟨o,ak,n,hk,hc,hs,hz,r⟩
 ·obtain⟨z,ak,r,p⟩:=h.ok I.aP;exact⟨ak,r,p,z⟩
 ·refine⟨ak.toList,r,⟨o,I.eN a o hk,hc,n,by simpa using hs⟩,?_⟩;have e:=r.length;simp at e;omega
def Inv.sj(I:Inv X U σ H s)(h:bO X.K H a xs)(h':bO X.K H a ys):xs=ys:=by
 obtain⟨ak,r,⟨o,n,e,_,_,d⟩,_⟩:=I.list h;obtain⟨its',r',⟨o',n',e',_,_,d'⟩,_⟩:=I.list h';rw[e]at e';cases e';rw[d]at d';injection d' with d1 _;have:ak=its':=by simpa using congrArg Array.toList d1
 subst this;exact r.inj r'
def Inv.gp(I:Inv X U σ H s)(h:cf X.K H a xs)(h':cf X.K H a ys):xs=ys:=by
 obtain⟨ak,r,⟨o,e,_,n,d⟩,_⟩:=I.tuple h;obtain⟨its',r',⟨o',e',_,n',d'⟩,_⟩:=I.tuple h';rw[e]at e';cases e';rw[d]at d';injection d' with d1 _;have:ak=its':=by simpa using congrArg Array.toList d1
 subst this;exact r.inj r'
end
abbrev Cx.jc(X:Cx)(E:bn->ci->Prop):Cx:={X with xe:=E}
abbrev Cx.rS(X:Cx):Cx:=X.jc λ_ _=>False
def Cx.Ok.jc(ok:X.Ok)(E:bn->ci->Prop):(X.jc E).Ok:=
 ⟨ok.mod,ok.kind,ok.glob,ok.blt,ok.above,ok.inj,ok.has,ok.zF,ok.hd,ok.frames,ok.GB,ok.Lx,ok.bs,ok.uc,ok.rT,ok.sW,ok.eO,ok.vE⟩
def Cx.Ok.dW(ok:(X.jc E).Ok):X.Ok:=
 ⟨ok.mod,ok.kind,ok.glob,ok.blt,ok.above,ok.inj,ok.has,ok.zF,ok.hd,ok.frames,ok.GB,ok.Lx,ok.bs,ok.uc,ok.rT,ok.sW,ok.eO,ok.vE⟩
section
variable{s:ci}
def Inv.jc(I:Inv X U σ H s)(E:bn->ci->Prop):Inv (X.jc E) U σ H s:=⟨I.ok.jc E,I.os,I.bare,I.base,I.loc,I.cell,I.free,I.eA,I.pin,I.aP,I.len⟩
def Inv.dW(I:Inv (X.jc E) U σ H s):Inv X U σ H s:=⟨I.ok.dW,I.os,I.bare,I.base,I.loc,I.cell,I.free,I.eA,I.pin,I.aP,I.len⟩
def SP.dW{f:Flow}(h:SP (X.jc E) U D f s'):SP X U D f s':=by
 cases f with
 | next=>obtain⟨σ',H',I,q⟩:=h;exact⟨σ',H',I.dW,q⟩
 | brk=>obtain⟨σ',H',I,q⟩:=h;exact⟨σ',H',I.dW,q⟩
 | cont=>obtain⟨σ',H',I,q⟩:=h;exact⟨σ',H',I.dW,q⟩
 | ret u=>obtain⟨v,σ',H',I,r,q⟩:=h;exact⟨v,σ',H',I.dW,r,q⟩
def PSs.rS{st:O lm}{t:TS}(h:PSs X.rS st t):PSs X st t:=λU s σ H D I hw=>
 BV (h U s σ H D (I.jc _) hw) (λ_ _ q=>q.dW) λ_ _ z=>AJ z
end
section
variable{st:lm}{rest:O lm}{t u:TS}
def Ek:TS:=λD σ H=>D.nx σ H
def HY(t u:TS):TS:=λD σ H=>t {D with nx:=u D} σ H
def cM:PSs X [] Ek:=λ_ _ σ H _ I h=>CN ⟨σ,H,I,h⟩
def aE(h1:PS X st t)(h2:PSs X rest u):PSs X (st::rest) (HY t u):=by
 intro U s σ H D I h;refine wpAny_execs_cons (aR (h1 U s σ H {D with nx:=u D} I h) λf s1 q=>?_);cases f with
 | next=>
  obtain⟨σ',H',I',q⟩:=q;exact h2 U s1 σ' H' D I' q
 | ret v=>exact q
 | brk=>exact q
 | cont=>exact q
def aN(h1:PS X st t):PSs X [st] t:=by
 intro U s σ H D I h;refine wpAny_execs_cons (aR (h1 U s σ H D I h) λf s1 q=>?_);cases f with
 | next=>exact CN q
 | ret v=>exact q
 | brk=>exact q
 | cont=>exact q
def Ep:TS:=λD σ H=>D.ct σ H
def lq:PS X (.Continue pos) Ep:=λ_ _ σ H _ I h=>wpAny_Continue ⟨σ,H,I,h⟩
def Inv.quiet{s:ci}(I:Inv X U σ H s):interactive X.env=false:=by simp[interactive,I.ok.kind]
def Eo(te:TE):TS:=λD σ H=>te σ H λ_ H1=>D.nx σ H1
def cO(he:PE X e te)(hs:pr e be pos.line X.env=pure false:=by rfl):PS X (.Expr e pos) (Eo te):=by
 intro U s σ H D I h;exact wpAny_Expr_any (aR (he U s σ H _ I h) λv s1 ⟨x,H1,I1,r1,q1⟩=>⟨σ,H1,I1,q1⟩) I.quiet hs
def HZ(te:TE):TS:=λD σ H=>te σ H D.rt
def bR(he:PE X e te):PS X (.Return (al e) pos) (HZ te):=by
 intro U s σ H D I h;exact wpAny_Return_some (aR (he U s σ H _ I h) λv s1 ⟨x,H1,I1,r1,q1⟩=>⟨x,σ,H1,I1,r1,q1⟩)
def Ic(c:TT)(t u:TS):TS:=λD σ H=>c σ H λb H1=>if b=true then t D σ H1 else u D σ H1
def fB{c:gl}{a b:O lm}{tc:TT}(hc:PT X c tc)(ha:PSs X a t)(hb:PSs X b u):PS X (.If c a b pos) (Ic tc t u):=by
 intro U s σ H D I h;refine wpAny_If (aR (hc U s σ H _ I h) λd s1 ⟨H1,I1,q1⟩=>?_);cases d with
 | true=>exact ha U s1 σ H1 D I1 q1
 | false=>exact hb U s1 σ H1 D I1 q1
def qG:TS:=λ_ _ _=>False
def ir:PS X st qG:=λ_ _ _ _ _ _ h=>h.elim
end
abbrev TG:=V->St->Hp->(St->Hp->Prop)->Prop
abbrev y8:=O V->St->Hp->(St->Hp->Prop)->Prop
def PG(X:Cx)(È:gl)(t:TG):Prop:=
 ∀(U:O (ce×Obj)) (s:ci) (σ:St) (H:Hp) (v:V) (u:bn) (Q:St->Hp->Prop),Inv X U σ H s->RelV v u->t v σ H Q->
  db (em X.prog X.w) X.A (assign È X.env u) (λ_ s'=>∃σ' H',Inv X U σ' H' s'/\Q σ' H') X.xe s
def HE(X:Cx)(ts:O gl)(t:y8):Prop:=
 ∀(U:O (ce×Obj)) (s:ci) (σ:St) (H:Hp) (vs:O V) (us:O bn) (Q:St->Hp->Prop),Inv X U σ H s->Vals vs us->t vs σ H Q->
  db (em X.prog X.w) X.A (assignInOrder ((sK ts X.env).map (·.2)) us) (λ_ s'=>∃σ' H',Inv X U σ' H' s'/\Q σ' H') X.xe s
abbrev tS:=V->V->V->Hp->(Hp->Prop)->Prop
def qp(X:Cx)(t:tS):Prop:=
 ∀(U:O (ce×Obj)) (s:ci) (σ:St) (H:Hp) (o i v:V) (ov iv u:bn) (Q:Hp->Prop),Inv X U σ H s->RelV o ov->RelV i iv->RelV v u->t o i v H Q->
  db (em X.prog X.w) X.A (setItem ov iv u) (λ_ s'=>∃H',Inv X U σ H' s'/\Q H') X.xe s
section
def fR(i:Nat):TG:=λv σ H Q=>Q (σ.set i (al v)) H
def uO{x:Str}(hN:X.N.Nodup)(hi:X.N[i]?=al x)(hx:Loc X.env.scope x)(hf:ue X x:=by first | exact .inl rfl | exact .inr rfl | assumption):PG X (.Name x pos) (fR i):=by
 intro U s σ H v u Q I r h;exact wpAny_assign_Name (fv I hN hi hx r (λs' I'=>⟨_,H,I',h⟩) hf)
def FQ:y8:=λvs σ H Q=>vs=[]/\Q σ H
def sP(t:TG)(u:y8):y8:=λvs σ H Q=>∃v r,vs=v::r/\t v σ H λσ' H'=>u r σ' H' Q
def uN:HE X [] FQ:=by
 intro U s σ H vs us Q I r h;obtain⟨e,h⟩:=h;subst e;cases r;exact assignInOrder_nil ⟨σ,H,I,h⟩
def lA{t:TG}{u:y8}(h1:PG X e t)(h2:HE X es u)
  (hs:(sK (e::es) X.env).map (·.2)=assign e X.env::(sK es X.env).map (·.2):=by rfl):HE X (e::es) (sP t u):=by
 intro U s σ H vs us Q I r h;obtain⟨v,vr,e1,h⟩:=h;subst e1;cases r with
 | cons r rr=>
  rw[hs];exact assignInOrder_cons (aR (h1 U s σ H _ _ _ I r h) λ_ s1 ⟨σ1,H1,I1,q1⟩=>h2 U s1 σ1 H1 _ _ Q I1 rr q1)
def FP(K:Aa)(n:Nat)(t:y8):TG:=λv σ H Q=>∃a xs,v=.ref a/\cf K H a xs/\xs.length=n/\t xs σ H Q
def xN{t:y8}(hc:X.calm=true)(h:HE X es t)
  (hn:(sK es X.env).length=n:=by rfl) (kl:(sK es X.env).findIdx? (·.1)=be:=by rfl):PG X (.Tuple es k pos) (FP X.K n t):=by
 intro U s σ H v u Q I r hw;obtain⟨a,xs,e1,hq,hl,hw⟩:=hw;subst e1;cases r;obtain⟨ak,rv,ht,hz⟩:=I.tuple hq;exact assign_Tuple_tuple (I.ok.hd hc) ht (by simp[hn,<- hl,rv.length]) kl λh' hx=>h U _ σ H xs _ Q (I.kept λb o e=>hx b o (AE (Al e)) e) (by simpa using rv) hw
def JS(to ti:TE)(t:tS):TG:=λv σ H Q=>to σ H λo H1=>ti σ H1 λi H2=>t o i v H2 λH3=>Q σ H3
def xO{o i:gl}{ti:TE}{t:tS}(ho:PE X o to)(hi:PE X i ti)(hs:qp X t)
  (ha:∀v,assign (.Subscript o i pos) X.env v=(do
   let ov <- mo [v] (ii o X.env)
   let iv <- mo [v,ov] (ii i X.env)
   u8 pos
   mo [v,ov,iv] (setItem ov iv v)
   release [v,ov,iv] []):=by intro _;rfl):PG X (.Subscript o i pos) (JS to ti t):=by
 intro U s σ H v u Q I r h;exact Ab (Bk (aR (ho U s σ H _ I h) λov s1 ⟨x,H1,I1,r1,q1⟩=>Ab (Bk (aR (hi U s1 σ H1 _ I1 q1) λiv s2 ⟨y,H2,I2,r2,q2⟩=>Ab (Dk (Ab (Bk (aR (hs U s2 σ H2 x y v ov iv u _ I2 r1 r2 r q2) λ_ s3 ⟨H3,I3,q3⟩=>wpAny_release ⟨σ,H3,I3,q3⟩))))))))
def Eu(te:TE)(g:TG):TS:=λD σ H=>te σ H λx H1=>g x σ H1 D.nx
def rh{g:TG}(he:PE X e te)(hg:PG X tg g)(hs:tz [tg] e pos.line X.env=pure false:=by rfl)(hw:up [tg] e X.env=pure be:=by rfl)
  (h1:(sK [tg] X.env).map (·.2)=[assign tg X.env]:=by rfl):PS X (.Assign [tg] e pos) (Eu te g):=by
 intro U s σ H D I h;refine wpAny_Assign_stores (aR (he U s σ H _ I h) λv s1 ⟨x,H1,I1,r1,q1⟩=>?_) hs hw;rw[h1];exact aR (hg U s1 σ H1 x v _ I1 r1 q1) λ_ s2 q=>q
def bQ{x:Str}(hN:X.N.Nodup)(hi:X.N[i]?=al x)(hx:Loc X.env.scope x)(he:PE X e te)(hs:pr e (al (.Name x É)) pos.line X.env=pure false:=by rfl)(hf:ue X x:=by first | exact .inl rfl | exact .inr rfl | assumption) :
  PS X (.Assign [.Name x É] e pos) (Eu te (fR i)):=by
 intro U s σ H D I h;refine wpAny_Assign_Name (aR (he U s σ H _ I h) λv s1 ⟨y,H1,I1,r1,q1⟩=>?_) hs;exact fv I1 hN hi hx r1 (λs2 I2=>⟨_,H1,I2,q1⟩) hf
def H9(i j:Nat)(ta:TA):TS:=λD σ H=>ta σ H λvs H1=>∃v w,vs=[v,w]/\D.nx ((σ.set i (al v)).set j (al w)) H1
def rf{x y:Str}{b:gl}{ta:TA}{kt k2 tY}(hc:X.calm=true)(hN:X.N.Nodup)(hi:X.N[i]?=al x)(hj:X.N[j]?=al y)(zv:i≠j)
  (hx:X.env.scope.names.lookup x=al .local) (hy:X.env.scope.names.lookup y=al .local) (ha:PA X [a,b] ta)
  (hw:up [.Tuple [.Name x px,.Name y py] kt pt] (.Tuple [a,b] k2 tY) X.env=pure (al [x,y]))
  (hs:tz [.Tuple [.Name x px,.Name y py] kt pt] (.Tuple [a,b] k2 tY) pos.line X.env=pure false:=by rfl) :
  PS X (.Assign [.Tuple [.Name x px,.Name y py] kt pt] (.Tuple [a,b] k2 tY) pos) (H9 i j ta):=by
 intro U s σ H D I h;refine Ab (Dk ?_);refine Ab (Am ?_);refine Ab (Tuple_ (aR (ha _ U s σ H _ I h) λus s1 ⟨vs,H1,I1,r1,q1⟩=>?_));obtain⟨v,w,e1,q1⟩:=q1;subst e1;obtain⟨u1,u2,rfl,rv,oi⟩:∃u1 u2,us=[u1,u2]/\RelV v u1/\RelV w u2:=by
  cases r1 with
  | cons p q=>
   cases q with
   | cons p' q'=>
    cases q';exact⟨_,_,rfl,p,p'⟩
 refine Cu ?_ (by show 2<=sizeLine;decide);rw[hw];refine Ab (Am ?_);refine Ab (C5 (Ab (unpackItems_tuple (items:=#[u1,u2]) (I.ok.hd hc) (IsTup.new s1.heap _) λh' nu=>?_)));refine Ab (assignInOrder_cons (wpAny_bindName (fv ((I1.kept λb o e=>Ae _ e).kept (t':=s1.toks) λb o e=>nu b o (AE (Al e)) e) hN hj (.inl hy) oi (λs2 I4=>?_) (.inr hy))));refine assignInOrder_cons (wpAny_bindName (fv I4 hN hi (.inl hx) rv (λs3 I5=>assignInOrder_nil (Am ?_)) (.inr hx)));rw[List.set_comm _ _ (Cg zv)]at I5;exact⟨_,H1,I5,q1⟩
end
section
def xt(c:TT)(tb:TS):TS:=λD σ H=>∃W:Nat->St->Hp->Prop,(∃m,W m σ H)/\∀m σ H,W m σ H->
 c σ H λb H1=>if b=true then ∃N:St->Hp->Prop,(∀σ' H',N σ' H'->∃m',m' < m/\W m' σ' H')/\tb {D with nx:=N,ct:=N,bk:=D.nx} σ H1 else D.nx σ H1
def fy{c:gl}{tc:TT}{tb:TS}(hp:wS (em X.prog X.w) X.A X.env X.xe)(hc:PT X c tc)(hb:PSs X body tb):PS X (.While c body [] pos) (xt tc tb):=by
 intro U s σ H D I h;obtain⟨W,⟨m0,w0⟩,Ë⟩:=h;refine wpAny_While (codeAny_whileLoop (λn s'=>∃σ' H',Inv X U σ' H' s'/\W n σ' H') ?_ m0 ⟨σ,H,I,w0⟩);rintro n s1 ⟨σ1,H1,I1,w1⟩;refine BI hp (aR (hc U s1 σ1 H1 _ I1 (Ë n σ1 H1 w1)) λb s2 ⟨H2,I2,q2⟩=>?_);cases b with
 | true=>
  obtain⟨N,hN,q2⟩:=q2;refine BI hp (aR (hb U s2 σ1 H2 _ I2 q2) λf s3 q3=>?_);cases f with
  | next=>
   obtain⟨σ3,H3,I3,n3⟩:=q3;obtain⟨m',hm,w3⟩:=hN σ3 H3 n3;exact⟨m',hm,σ3,H3,I3,w3⟩
  | cont=>
   obtain⟨σ3,H3,I3,n3⟩:=q3;obtain⟨m',hm,w3⟩:=hN σ3 H3 n3;exact⟨m',hm,σ3,H3,I3,w3⟩
  | brk=>exact q3
  | ret v=>exact q3
 | false=>
  exact CN ⟨σ1,H2,I2,q2⟩
end
structure It where
 go:Nat->Hp->Prop
 ze:Nat->Hp->V->Hp->Prop
 stop:Nat->Hp->Prop
def jx(X:Cx)(U:O (ce×Obj))(H:Hp)(b:ce):Prop:=
 H b=be/\b≠X.env.locals/\b∉X.fs/\(b∈X.ex\/X.s₀.heap.objs.size<=b)/\(∀x c,X.env.cells.lookup x=al c->c≠b)/\∀p∈X.pn++U,p.1≠b
def Inv.vG{s:ci}(I:Inv X U σ H s)(hb:s.heap.objs.size<=b)(hn:H' b=be):jx X U H' b:=by
 refine⟨hn,Nat.ne_of_gt (Au I.lt hb),I.IM hb,.inr (AX I.sz hb),λx c e z=>?_,λp hp z=>?_⟩
 ·obtain⟨v,q⟩:=I.cell x c e;exact absurd (Au q.lt (by rw[z];exact hb)) (A4 _)
 ·exact absurd (Au (Al (I.pin p hp).1) (by rw[z];exact hb)) (A4 _)
structure Turn(P:lf)(w:o0)(K:Aa)(tg:gl)(J:It)(fp:List ce)(it:ce)(tn:Nat->gt->Prop):Prop where
 mem:it∈fp
 obj:∀i h,tn i h->∀b∈fp,∃o,h.get? b=al o/\∀v,o.data≠.cell v
 keep:∀i h h',tn i h->(∀b∈fp,∀o,h.get? b=al o->h'.get? b=al o)->tn i h'
 item:∀(X:Cx),X.prog=P->X.w=w->X.K=K->X.calm=true->∀(i:Nat) (U:List (ce×Obj)) (s:ci) (σ:St) (H:Hp) (E:bn->ci->Prop),Inv X U σ H s->(∀b∈fp,jx X U H b)->tn i s.heap->J.go i H->
  db (em P w) X.A (pyNext (.ref it)) (λr s1=>∃u,r=al u/\
   db (em P w) X.A (zn tg (.ref it) u) (λ_ s2=>∃x H',Inv X U σ H' s2/\RelV x u/\J.ze i H x H'/\tn (i+1) s2.heap/\∀b∈fp,H' b=be) E s1) E s
 done:∀(X:Cx),X.prog=P->X.w=w->X.K=K->X.calm=true->∀(i:Nat) (U:List (ce×Obj)) (s:ci) (σ:St) (H:Hp) (E:bn->ci->Prop),Inv X U σ H s->(∀b∈fp,jx X U H b)->tn i s.heap->J.stop i H->
  db (em P w) X.A (pyNext (.ref it)) (λr s1=>r=be/\Inv X U σ H s1) E s
 self:∀(A:re) (i:Nat) (s:ci) (Q:bn->ci->Prop) (E:bn->ci->Prop),tn i s.heap->Q (.ref it) s->db (em P w) A (pyIter (.ref it)) Q E s
abbrev TI:=St->Hp->(It->Hp->Prop)->Prop
def LH(X:Cx)(U:O (ce×Obj))(σ:St)(tg:gl)(R:It->Hp->Prop)(Jk:bn)(s2:ci):Prop:=
 ∃(it:ce) (fp:O ce) (tn:Nat->gt->Prop) (J:It) (H':Hp),Jk=.ref it/\Inv X U σ H' s2/\Turn X.prog X.w X.K tg J fp it tn/\tn 0 s2.heap/\(∀b∈fp,jx X U H' b)/\R J H'
def PI(X:Cx)(tg iter:gl)(wi:TI):Prop:=
 ∀(U:O (ce×Obj)) (s:ci) (σ:St) (H:Hp) (R:It->Hp->Prop),Inv X U σ H s->wi σ H R->
  db (em X.prog X.w) X.A (ii iter X.env) (λv s1=>db (em X.prog X.w) X.A (pyIter v) (LH X U σ tg R) X.xe s1) X.xe s
def sJ{s:ci}{n:String}{vs:Array bn}{Q:Unit->ci->Prop}(ho:s.heap.get? it=al o)(hc:o.cls=.type n)(hd:o.data=.fields vs)
  (hn:["enumerate","zip","dict_itemiterator","dict_reverseitemiterator","odict_iterator","itertools.zip_longest","itertools.pairwise"].contains n=false) (hQ:Q () s):db M A (zn tg (.ref it) u) Q E s:=by
 unfold zn;cases tg <;> first
  | exact Am hQ
  | (cases u <;> first
    | exact Am hQ
    | (
      refine Ab (wpAny_load ho ?_);rw[hc,hd];show db M A (if (["enumerate","zip","dict_itemiterator","dict_reverseitemiterator","odict_iterator","itertools.zip_longest","itertools.pairwise"].contains n&&vs[0]?==al (im _))=true then _ else _) Q E s;rw[if_neg (by intro h;rw[hn,Bool.false_and]at h;cases h)];exact Am hQ))
def LJ(K:Aa)(a:ce):It:=
 ⟨λi H=>∃xs x,bO K H a xs/\xs[i]?=al x,λi H x H'=>H'=H/\∀xs,bO K H a xs->xs[i]?=al x,λi H=>∃xs,bO K H a xs/\xs.length<=i⟩
def LI(K:Aa)(a:ce):It:=
 ⟨λi H=>∃xs x,cf K H a xs/\xs[i]?=al x,λi H x H'=>H'=H/\∀xs,cf K H a xs->xs[i]?=al x,λi H=>∃xs,cf K H a xs/\xs.length<=i⟩
def HJ(lo:Int)(n:Nat):It:=⟨λi _=>i < n,λi H x H'=>H'=H/\x=.int (lo+i),λi _=>n<=i⟩
theorem pf{K:Aa}(a it:ce):Turn P w K tg (LJ K a) [it] it (λi h=>h.IsListIter it a i) where
 mem:=by simp
 obj:=λi h st b hb=>by
  have e:b=it:=by simpa using hb
  subst e;obtain⟨o,e,c,d⟩:=st;exact⟨o,e,λv z=>by rw[d]at z;cases z⟩
 keep:=λi h h' st k=>st.at λo e=>k it (by simp) o e
 item:=by
  intro X hP hw hK hc i U s σ H E I hf st hg;subst hP hw hK;obtain⟨xs,x,hq,hx⟩:=hg;obtain⟨ak,rv,p,hz⟩:=I.list hq;obtain⟨u,hu,ru⟩:=rv.get hx;obtain⟨f0,f1,f2,f3,f4,f5⟩:=hf it (by simp);refine wpAny_pyNext_list_item st p.isList (by simpa using hu) λh' mB sb=>?_;obtain⟨o,e,c,d⟩:=id mB;exact⟨u,rfl,sJ e c d ⋯ ⟨x,H,(I.turned (λb o hb e=>(sb.2 b hb).trans e) f0 f1 f3 f4 f5),ru,⟨rfl,λys hy=>by rw[I.sj hy hq];exact hx⟩,mB,λb hb=>(hf b hb).1⟩⟩
 done:=by
  intro X hP hw hK hc i U s σ H E I hf st hg;subst hP hw hK;obtain⟨xs,hq,hx⟩:=hg;obtain⟨ak,rv,p,hz⟩:=I.list hq;obtain⟨f0,f1,f2,f3,f4,f5⟩:=hf it (by simp);have hl:=rv.length;exact wpAny_pyNext_list_end (I.ok.hd hc) st p.isList (by simp;omega) λh' eb=>⟨rfl,I.turned (t':=s.toks) (λb o hb e=>eb b o hb e) f0 f1 f3 f4 f5⟩
 self:=λ_ _ _ _ _ st h=>wpAny_pyIter_listiter st h
theorem mN{K:Aa}(a it:ce):Turn P w K tg (LI K a) [it] it (λi h=>h.IsTupleIter it a i) where
 mem:=by simp
 obj:=λi h st b hb=>by
  have e:b=it:=by simpa using hb
  subst e;obtain⟨o,e,c,d⟩:=st;exact⟨o,e,λv z=>by rw[d]at z;cases z⟩
 keep:=λi h h' st k=>st.at λo e=>k it (by simp) o e
 item:=by
  intro X hP hw hK hc i U s σ H E I hf st hg;subst hP hw hK;obtain⟨xs,x,hq,hx⟩:=hg;obtain⟨ak,rv,p,hz⟩:=I.tuple hq;obtain⟨u,hu,ru⟩:=rv.get hx;obtain⟨f0,f1,f2,f3,f4,f5⟩:=hf it (by simp);refine wpAny_pyNext_tuple_item st (p) (by simpa using hu) λh' mB sb=>?_;obtain⟨o,e,c,d⟩:=id mB;exact⟨u,rfl,sJ e c d ⋯ ⟨x,H,(I.turned (λb o hb e=>(sb.2 b hb).trans e) f0 f1 f3 f4 f5),ru,⟨rfl,λys hy=>by rw[I.gp hy hq];exact hx⟩,mB,λb hb=>(hf b hb).1⟩⟩
 done:=by
  intro X hP hw hK hc i U s σ H E I hf st hg;subst hP hw hK;obtain⟨xs,hq,hx⟩:=hg;obtain⟨ak,rv,p,hz⟩:=I.tuple hq;obtain⟨f0,f1,f2,f3,f4,f5⟩:=hf it (by simp);have hl:=rv.length;exact wpAny_pyNext_tuple_end (I.ok.hd hc) st (show s.heap.IsTuple a ak.toArray from p) (by simp;omega) λh' eb=>⟨rfl,I.turned (t':=s.toks) (λb o hb e=>eb b o hb e) f0 f1 f3 f4 f5⟩
 self:=λ_ _ _ _ _ st h=>wpAny_pyIter_tupleiter st h
theorem mO{K:Aa}(it:ce)(lo:Int)(n:Nat):Turn P w K tg (HJ lo n) [it] it (λi h=>IsRangeIter h it (lo+(i:Nat)*1) ((n:Int)-(i:Nat)) 1) where
 mem:=by simp
 obj:=λi h st b hb=>by
  have e:b=it:=by simpa using hb
  subst e;exact⟨_,st,λv z=>by
   have z':=z;cases z'⟩
 keep:=λi h h' st k=>k it (by simp) _ st
 item:=by
  intro X hP hw hK hc i U s σ H E I hf st hg;subst hP hw hK;obtain⟨f0,f1,f2,f3,f4,f5⟩:=hf it (by simp);refine(Walks.range (prog:=X.prog) (I.ok.hd hc) it lo 1 n).item i s _ _ hg st λv h' tk hv mB kk=>?_;obtain⟨t,rfl⟩:=hv;refine⟨_,rfl,sJ mB rfl rfl ⋯ ⟨.int (lo+i),H,(I.turned (λb o hb e=>kk b o (by simpa using hb) e) f0 f1 f3 f4 f5),⟨t,?_⟩,⟨rfl,rfl⟩,mB,λb hb=>(hf b hb).1⟩⟩;rw[Int.mul_one]
 done:=by
  intro X hP hw hK hc i U s σ H E I hf st hg;obtain⟨f0,f1,f2,f3,f4,f5⟩:=hf it (by simp);exact wpAny_pyNext_range_end (I.ok.hd hc) st (by have:n<=i:=hg;omega) λh' eb=>⟨rfl,I.turned (λb o hb e=>eb b o hb e) f0 f1 f3 f4 f5⟩
 self:=λ_ _ _ _ _ st h=>wpAny_pyIter_rangeiter st h
end L2
variable{fp:O AR}{iter:BM}
namespace L2
section
theorem qS{s:ci}{R:It->Hp->Prop}{lo hi:Int}{t u v:Tok}{tk:Nat}(I:Inv X U σ H s)(h1:-(2 ^ 62)<=lo)(h2:lo < 2 ^ 62)(h3:-(2 ^ 62)<=hi)(h4:hi < 2 ^ 62)
  (q:R (HJ lo (hi-lo).toNat) H):db (em X.prog X.w) X.A (pyIter (.ref s.heap.objs.size)) (LH X U σ tg R) E {s with heap:=s.heap.push {cls:=.type "range",data:=.fields #[.int lo t,.int hi u,.int 1 v]},toks:=tk}:=by
 refine wpAny_pyIter_range (IsRange.new ..) (small_one h1 h2 h3 h4) ?_;have I1:Inv X U σ H {s with heap:=s.heap.push {cls:=.type "range",data:=.fields #[.int lo t,.int hi u,.int 1 v]},toks:=tk}:=I.kept λb o e=>Ae _ e;refine⟨(s.heap.push {cls:=.type "range",data:=.fields #[.int lo t,.int hi u,.int 1 v]}).objs.size,[(s.heap.push {cls:=.type "range",data:=.fields #[.int lo t,.int hi u,.int 1 v]}).objs.size],_,_,H,rfl,
  I1.kept (t':=tk) λb o e=>Ae _ e,mO _ lo (hi-lo).toNat,?_,λb hb=>?_,q⟩
 ·have e1:lo+((0:Nat):Int)*1=lo:=by simp
  have e2:(((hi-lo).toNat:Nat):Int)-((0:Nat):Int)=Builtin.Range.rangeSize lo hi 1:=by rw[rangeSize_one];split <;> omega
  show IsRangeIter _ _ (lo+((0:Nat):Int)*1) ((((hi-lo).toNat:Nat):Int)-((0:Nat):Int)) 1;rw[e1,e2];exact An _ rfl
 ·have e:b=(s.heap.push {cls:=.type "range",data:=.fields #[.int lo t,.int hi u,.int 1 v]}).objs.size:=by simpa using hb
  subst e;exact I1.vG (Aj _) (I1.aP.fresh (Aj _))
def Fo(ta:TA):TI:=λσ H R=>ta σ H λvs H1=>∃j:Int,vs=[.int j]/\-(2 ^ 62)<=j/\j < 2 ^ 62/\R (HJ 0 j.toNat) H1
theorem pK{ta:TA}{p:Pos}(hg:Gl X "range")(hm:X.mg "range"=be)(ha:PA X [a] ta)(hs:f8 [a] X.env=[(false,ii a X.env)]:=by rfl):PI X tg (.Call (.Name "range" p) [a] [] pos) (Fo ta):=by
 intro U s σ H R I h;refine Call_ (fb I hg hm boot_range (Bc (aR (ha pos U s σ H _ I h) λus s1 ⟨vs,H1,I1,r1,q1⟩=>?_) hs rfl));obtain⟨j,e,q1,q2,q⟩:=q1;subst e;cases r1 with
 | cons r rr=>
  cases rr;obtain⟨t,rfl⟩:=r;exact call_range_1 (qS I1 ∅ ∅ q1 q2 (by simpa using q))
def Ie(wi:TI)(g:TG)(tb:TS):TS:=λD σ H=>wi σ H λJ H1=>∃W:Nat->Nat->St->Hp->Prop,(∃m,W 0 m σ H1)/\∀i m σ H,W i m σ H->
 (J.stop i H/\D.nx σ H)\/(J.go i H/\∃N:St->Hp->Prop,(∀σ' H',N σ' H'->∃m',m' < m/\W (i+1) m' σ' H')/\∀x H',J.ze i H x H'->g x σ H' λσ2 H2=>tb {D with nx:=N,ct:=N,bk:=D.nx} σ2 H2)
def gz(fp:O ce)(h:gt):O (ce×Obj):=fp.filterMap λb=>(h.get? b).map λo=>(b,o)
def dw(hb:b∈fp)(e:h.get? b=al o):(b,o)∈gz fp h:=Cj.mpr ⟨b,hb,by rw[e];rfl⟩
def pN{p:ce×Obj}(hp:p∈gz fp h):p.1∈fp/\h.get? p.1=al p.2:=by
 obtain⟨b,hb,e⟩:=Cj.mp hp;cases q:h.get? b with
 | none=>rw[q]at e;cases e
 | some o=>
  rw[q]at e;have e':=Option.some.inj e;subst e';exact⟨hb,q⟩
def Inv.pinned{s:ci}(I:Inv X U σ H s)(hf:∀b∈fp,jx X U H b)(ho:∀b∈fp,∃o,s.heap.get? b=al o/\∀v,o.data≠.cell v):Inv X (U++gz fp s.heap) σ H s:=
 I.oo λp hp=>(Bs.mp hp).elim (λz=>I.pin p (Av _ z)) λz=>by
  obtain⟨hb,e⟩:=pN z;obtain⟨f0,f1,f2,_⟩:=hf p.1 hb;obtain⟨o,e',d⟩:=ho p.1 hb;rw[e]at e';cases e';exact⟨e,f0,f1,f2,d⟩
def Inv.dX{pl:O (ce×Obj)}{s:ci}(I:Inv X (U++pl) σ H s):Inv X U σ H s:=I.oo λp hp=>I.pin p (Av _ (Bn _ hp))
def rg{wi:TI}{g:TG}{tb:TS}(hp:wS (em X.prog X.w) X.A X.env X.xe)(hc:X.calm=true)(hi:PI X tg iter wi)(hg:PG X tg g)(hb:PSs X body tb)
  (hs:uf X iter:=by intro _;rfl):PS X (.For tg iter body [] pos) (Ie wi g tb):=by
 intro U s σ H D I h;refine wpAny_For (aR (hi U s σ H _ I h) λv s1 h1=>aR h1 λJk s2 h2=>?_) hs;obtain⟨it,fp,tn,J,H2,e,I2,T,jV,f2,W,⟨m0,w0⟩,Ë⟩:=h2;subst e;have xv:∀{H':Hp},(∀b∈fp,H' b=be)->∀b∈fp,jx X U H' b:=λhn b hb=>⟨hn b hb,(f2 b hb).2⟩;refine codeAny_forLoop_any (λn s'=>∃i σ' H',Inv X U σ' H' s'/\tn i s'.heap/\(∀b∈fp,H' b=be)/\W i n σ' H') ?_ m0 ⟨0,σ,H2,I2,jV,λb hb=>(f2 b hb).1,w0⟩;rintro n s3 ⟨i,σ3,H3,I3,Ex,FR,w3⟩;rcases Ë i n σ3 H3 w3 with⟨stop,qn⟩ | ⟨go,N,hN,step⟩
 ·refine BI hp (aR (T.done X rfl rfl rfl hc i U s3 σ3 H3 X.xe I3 (xv FR) Ex stop) λr s4 ⟨hr,I4⟩=>?_);subst hr;exact CN ⟨σ3,H3,I4,qn⟩
 ·refine BI hp (aR (T.item X rfl rfl rfl hc i U s3 σ3 H3 X.xe I3 (xv FR) Ex go) λr s4 ⟨u,hr,h4⟩=>?_);subst hr;refine BI hp (aR h4 λ_ s5 ⟨x,H5,I5,r5,y5,xw,JY⟩=>?_);refine BI hp (aR (hg _ s5 σ3 H5 x u _ (I5.pinned (xv JY) (T.obj _ _ xw)) r5 (step x H5 y5)) λ_ s6 ⟨σ6,H6,I6,q6⟩=>?_);refine BI hp (aR (hb _ s6 σ6 H6 _ I6 q6) λf s7 q7=>?_);have again:∀{σ7:St}{H7:Hp},Inv X (U++gz fp s5.heap) σ7 H7 s7->N σ7 H7->∃m,m < n/\∃i σ' H',Inv X U σ' H' s7/\tn i s7.heap/\(∀b∈fp,H' b=be)/\W i m σ' H':=λ{σ7 H7} I7 n7=>by
   obtain⟨m',hm,w7⟩:=hN σ7 H7 n7;refine⟨m',hm,i+1,σ7,H7,I7.dX,T.keep _ _ _ xw λb hb o e=>(I7.pin (b,o) (Av _ (Av _ (dw hb e)))).1,λb hb=>?_,w7⟩;obtain⟨o,e,d⟩:=T.obj _ _ xw b hb;exact(I7.pin (b,o) (Av _ (Av _ (dw hb e)))).2.1
  cases f with
  | next=>obtain⟨σ7,H7,I7,n7⟩:=q7;exact again I7 n7
  | cont=>obtain⟨σ7,H7,I7,n7⟩:=q7;exact again I7 n7
  | brk=>obtain⟨σ7,H7,I7,q7⟩:=q7;exact⟨σ7,H7,I7.dX,q7⟩
  | ret v=>obtain⟨x7,σ7,H7,I7,r7,q7⟩:=q7;exact⟨x7,σ7,H7,I7.dX,r7,q7⟩
end
end L2
variable{i:Int}{g:Int->Int->Int}{ak:O A6}
namespace L2
abbrev R2:=V->V->Hp->VK->Prop
def dN(X:Cx)(f:bn->bn->Sem bn)(r:R2):Prop:=
 ∀(U:O (ce×Obj)) (s:ci) (σ:St) (H:Hp) (x y:V) (v u:bn) (Q:VK),Inv X U σ H s->RelV x v->RelV y u->r x y H Q->
  db (em X.prog X.w) X.A (f v u) (EP X U σ Q) X.xe s
def Ks(X:Cx)(f:bn->Sem bn)(r:V->Hp->VK->Prop):Prop:=
 ∀(U:O (ce×Obj)) (s:ci) (σ:St) (H:Hp) (x:V) (v:bn) (Q:VK),Inv X U σ H s->RelV x v->r x H Q->
  db (em X.prog X.w) X.A (f v) (EP X U σ Q) X.xe s
def a8(X:Cx)(f:bn)(r:O V->Hp->VK->Prop):Prop:=
 ∀(U:O (ce×Obj)) (s:ci) (σ:St) (H:Hp) (xs:O V) (us:O bn) (Q:VK),Inv X U σ H s->Vals xs us->r xs H Q->
  db (em X.prog X.w) X.A (call f us) (EP X U σ Q) X.xe s
def Kt(X:Cx)(r:V->Hp->(Bool->Hp->Prop)->Prop):Prop:=
 ∀(U:O (ce×Obj)) (s:ci) (σ:St) (H:Hp) (x:V) (v:bn) (Q:Bool->Hp->Prop),Inv X U σ H s->RelV x v->r x H Q->
  db (em X.prog X.w) X.A (truthy v) (TP X U σ Q) X.xe s
def zh(r:R2)(ta tb:TE):TE:=λσ H Q=>ta σ H λx H1=>tb σ H1 λy H2=>r x y H2 Q
def Mc(r:V->Hp->VK->Prop)(ta:TE):TE:=λσ H Q=>ta σ H λx H1=>r x H1 Q
def rI(C:Int->Int->Prop)(g:Int->Int->V):R2:=λx y H Q=>∃i j,x=.int i/\y=.int j/\C i j/\Q (g i j) H
def wC(g:Int->Int->V):R2:=λx y H Q=>∃i j,x=.int i/\y=.int j/\Q (g i j) H
def rU(g:Int->V):V->Hp->VK->Prop:=λx H Q=>∃i,x=.int i/\Q (g i) H
section
variable{b:gl}
def yZ(ha:PE X a ta)(hb:PE X b tb){s:ci}(I:Inv X U σ H s)
  (h:ta σ H λx H1=>tb σ H1 λy H2=>R x y H2) {f:bn->bn->Sem bn}
  (hf:∀v u s2 x y H2,Inv X U σ H2 s2->RelV x v->RelV y u->R x y H2->db (em X.prog X.w) X.A (f v u) Q X.xe s2) :
  db (em X.prog X.w) X.A (ii a X.env) (λv s₁=>db (em X.prog X.w) X.A (ii b X.env) (λu s₂=>db (em X.prog X.w) X.A (f v u) Q X.xe s₂) X.xe s₁) X.xe s:=by
 exact aR (ha U s σ H _ I h) λv s1 ⟨x,H1,I1,r1,q1⟩=>aR (hb U s1 σ H1 _ I1 q1) λu s2 ⟨y,H2,I2,r2,q2⟩=>hf v u s2 x y H2 I2 r1 r2 q2
def jC{op:Operator}{r:R2}(ho:dN X (nl op) r)(ha:PE X a ta)(hb:PE X b tb):PE X (.BinOp a op b pos) (zh r ta tb):=by
 intro U s σ H Q I h;exact wpAny_BinOp (yZ ha hb I h λv u s2 x y H2 I2 rx ry q=>ho U s2 σ H2 x y v u Q I2 rx ry q)
def rm{op:UnaryOp}{r:V->Hp->VK->Prop}(ho:Ks X (unaryOp op) r)(ha:PE X a ta):PE X (.UnaryOp op a pos) (Mc r ta):=by
 intro U s σ H Q I h;exact UnaryOp_ (aR (ha U s σ H _ I h) λv s1 ⟨x,H1,I1,r1,q1⟩=>ho U s1 σ H1 x v Q I1 r1 q1)
def GJ{f:bn->bn->Sem bn}{C:Int->Int->Prop}
  (rule:∀(i j:Int) (t u:Tok) (s:ci) (Q:bn->ci->Prop) (E:bn->ci->Prop),C i j->Q (.int (g i j) s.toks) {s with toks:=s.toks+1}->db (em X.prog X.w) X.A (f (.int i t) (.int j u)) Q E s) :
  dN X f (rI C λi j=>.int (g i j)):=by
 intro U s σ H x y v u Q I rx ry h;obtain⟨i,j,rfl,rfl,hc,q⟩:=h;obtain⟨t,rfl⟩:=rx;obtain⟨t',rfl⟩:=ry;exact rule i j t t' s _ _ hc ⟨.int (g i j),H,I.tok _,⟨_,rfl⟩,q⟩
def EZ{f:bn->bn->Sem bn}
  (rule:∀(i j:Int) (t u:Tok) (s:ci) (Q:bn->ci->Prop) (E:bn->ci->Prop),Q (.int (g i j) s.toks) {s with toks:=s.toks+1}->db (em X.prog X.w) X.A (f (.int i t) (.int j u)) Q E s) :
  dN X f (wC λi j=>.int (g i j)):=by
 intro U s σ H x y v u Q I rx ry h;obtain⟨i,j,rfl,rfl,q⟩:=h;obtain⟨t,rfl⟩:=rx;obtain⟨t',rfl⟩:=ry;exact rule i j t t' s _ _ ⟨.int (g i j),H,I.tok _,⟨_,rfl⟩,q⟩
def xW{f:bn->bn->Sem bn}{g:Int->Int->Bool}
  (rule:∀(i j:Int) (t u:Tok) (s:ci) (Q:bn->ci->Prop) (E:bn->ci->Prop),Q (.bool (g i j)) s->db (em X.prog X.w) X.A (f (.int i t) (.int j u)) Q E s) :
  dN X f (wC λi j=>.bl (g i j)):=by
 intro U s σ H x y v u Q I rx ry h;obtain⟨i,j,rfl,rfl,q⟩:=h;obtain⟨t,rfl⟩:=rx;obtain⟨t',rfl⟩:=ry;exact rule i j t t' s _ _ ⟨.bl (g i j),H,I,rfl,q⟩
def tX(i j:Int):Prop:=0 < j/\j < 1073741824
def tW(i j:Int):Prop:=0<=j/\j<=1000000/\i.natAbs < 2 ^ 64
def wj(i j:Int):Prop:=(-(2 ^ 64) < i/\i < 2 ^ 64)\/(-(2 ^ 64) < j/\j < 2 ^ 64)
def wj.ok{j:Int}(h:wj i j):pi i j:=by
 rcases h with⟨h1,h2⟩ | ⟨h1,h2⟩
 ·exact .of_left (intBits_le_64 h1 h2)
 ·exact .of_right (intBits_le_64 h1 h2)
def rL:dN X (nl .Add) (wC λi j=>.int (i+j)):=EZ λ_ _ _ _ _ _ _ q=>add_int q
def rH:dN X (nl .Sub) (wC λi j=>.int (i-j)):=EZ λ_ _ _ _ _ _ _ q=>sub_int q
theorem uU:dN X (nl .FloorDiv) (rI tX λi j=>.int (i / j)):=GJ λi j _ _ _ _ _ hc q=>by
 have h1:(0:Int) < j:=hc.1;have h2:j < 1073741824:=hc.2;exact floordiv_int ∅ (by rw[Int.fdiv_eq_ediv_of_nonneg i ∅];exact q) (.inl (PyProof.noPylong_small ∅))
theorem xT:dN X (nl .Mod) (rI (λ_ j=>0 < j) λi j=>.int (i % j)):=GJ λi j _ _ _ _ _ hc q=>by
 have h1:(0:Int) < j:=hc;exact mod_int' ∅ (by rw[Int.fmod_eq_emod_of_nonneg i ∅];exact q)
def xR:dN X (nl .Pow) (rI tW λi j=>.int (i ^ j.toNat)):=GJ λ_ _ _ _ _ _ _ hc q=>pow_int_small hc.1 hc.2.1 hc.2.2 q
def L6{f:bn->Sem bn}{g:Int->Int}
  (rule:∀(i:Int) (t:Tok) (s:ci) (Q:bn->ci->Prop) (E:bn->ci->Prop),Q (.int (g i) s.toks) {s with toks:=s.toks+1}->db (em X.prog X.w) X.A (f (.int i t)) Q E s) :
  Ks X f (rU λi=>.int (g i)):=by
 intro U s σ H x v Q I rx h;obtain⟨i,rfl,q⟩:=h;obtain⟨t,rfl⟩:=rx;exact rule i t s _ _ ⟨.int (g i),H,I.tok _,⟨_,rfl⟩,q⟩
def mL:Ks X (unaryOp .USub) (rU λi=>.int (-i)):=L6 λ_ _ _ _ _ q=>neg_int q
end
def Io:V->V->Bool
 | .aL,.aL=>true | .aL,.int _=>true | .int _,.aL=>true | .aL,.bl _=>true | .bl _,.aL=>true | .aL,.str _=>true | .str _,.aL=>true
 | .int _,.int _=>true | .bl _,.bl _=>true | .str _,.str _=>true | .o5 _,.o5 _=>true
 | .int _,.str _=>true | .str _,.int _=>true | .bl _,.str _=>true | .str _,.bl _=>true
 | _,_=>false
def Mo:R2:=λx y H Q=>Io x y=true/\Q (.bl (decide (x=y))) H
def vR{j:Int}:decide (V.int i=V.int j)=(i==j):=by
 rw[CS];simp
def yX{i j:Bool}:decide (V.bl i=V.bl j)=(i==j):=by
 rw[CS];simp
def vQ{i j:Str}:decide (V.str i=V.str j)=(i==j):=by
 rw[CS];simp
def vS{i j:Array UInt8}:decide (V.o5 i=V.o5 j)=(i.toList==j.toList):=by
 rw[CS];cases i;cases j;simp
section
variable{b c:gl}
def bu{s:ci}{Q:VK}{k k':Bool}(I:Inv X U σ H s)(q:Q (.bl k) H)(e:k=k'):EP X U σ Q (.bool k') s:=by
 subst e;exact⟨.bl k,H,I,rfl,q⟩
def EY:dN X (li .Eq) Mo:=by
 intro U s σ H x y v u Q I rx ry h;obtain⟨hs,q⟩:=h;cases x with
 | aL=>
  cases rx;cases y with
  | aL=>cases ry;exact PySem.EqNone.eq_none_none (bu I q (by simp))
  | bl j=>cases ry;exact PySem.EqNone.eq_none_bool (bu I q (by simp))
  | int j=>obtain⟨t',rfl⟩:=ry;exact PySem.EqNone.eq_none_int (bu I q (by simp))
  | str j=>obtain⟨t',rfl⟩:=ry;exact PySem.EqNone.eq_none_str (bu I q (by simp))
  | _=>exact absurd (hs) Az
 | bl i=>
  cases rx;cases y with
  | aL=>cases ry;exact PySem.EqNone.eq_bool_none (bu I q (by simp))
  | bl j=>cases ry;exact eq_bool (bu I q yX)
  | str j=>obtain⟨t',rfl⟩:=ry;exact PySem.EqMixed.eq_bool_str (bu I q (by simp))
  | _=>exact absurd (show false=true from hs) Az
 | int i=>
  obtain⟨t,rfl⟩:=rx;cases y with
  | aL=>cases ry;exact PySem.EqNone.eq_int_none (bu I q (by simp))
  | int j=>obtain⟨t',rfl⟩:=ry;exact eq_int (bu I q vR)
  | str j=>obtain⟨t',rfl⟩:=ry;exact PySem.EqMixed.eq_int_str (bu I q (by simp))
  | _=>exact absurd (show false=true from hs) Az
 | str i=>
  obtain⟨t,rfl⟩:=rx;cases y with
  | aL=>cases ry;exact PySem.EqNone.eq_str_none (bu I q (by simp))
  | bl j=>cases ry;exact PySem.EqMixed.eq_str_bool (bu I q (by simp))
  | int j=>obtain⟨t',rfl⟩:=ry;exact PySem.EqMixed.eq_str_int (bu I q (by simp))
  | str j=>obtain⟨t',rfl⟩:=ry;exact eq_str (bu I q vQ)
  | _=>exact absurd (show false=true from hs) Az
 | o5 i=>
  obtain⟨t,rfl⟩:=rx;cases y with
  | o5 j=>obtain⟨t',rfl⟩:=ry;exact PySem.W.eq_bytes (bu I q vS)
  | _=>exact absurd (show false=true from hs) Az
 | _=>cases y <;> exact absurd (show false=true from hs) Az
def rJ:dN X (li .Lt) (wC λi j=>.bl (decide (i < j))):=xW λ_ _ _ _ _ _ _ q=>lt_int q
def EW:dN X (li .Gt) (wC λi j=>.bl (decide (j < i))):=xW λ_ _ _ _ _ _ _ q=>gt_int q
def EX:dN X (li .GtE) (wC λi j=>.bl (decide (j<=i))):=xW λ_ _ _ _ _ _ _ q=>ge_int q
def pM:dN X (li .In) (λx y H Q=>∃i j,x=.str i/\y=.str j/\Q (.bl (!(Builtin.Str.occurrences j i 0 j.length 1).isEmpty)) H):=by
 intro U s σ H x y v u Q I rx ry h;obtain⟨i,j,rfl,rfl,q⟩:=h;obtain⟨t,rfl⟩:=rx;obtain⟨t',rfl⟩:=ry;exact in_str (bu I q rfl)
def rK:dN X (li .Is) (λx y H Q=>y=.aL/\Q (.bl (decide (x=.aL))) H):=by
 intro U s σ H x y v u Q I rx ry h;obtain⟨rfl,q⟩:=h;cases ry;refine is_none_gen (bu I q ?_);cases x <;> first
  | (cases rx;rfl)
  | (obtain⟨t,rfl⟩:=rx;rfl)
def dN.or{f:bn->bn->Sem bn}{r r':R2}(h:dN X f r)(h':dN X f r'):dN X f (λx y H Q=>r x y H Q\/r' x y H Q):=by
 intro U s σ H x y v u Q I rx ry q;rcases q with q | q
 ·exact h U s σ H x y v u Q I rx ry q
 ·exact h' U s σ H x y v u Q I rx ry q
def cW(b:gl)(h:op≠.In:=by decide)(h2:op≠.NotIn:=by decide):nn op b=false:=by
 have e1:(op==CmpOp.In)=false:=by cases op <;> first | rfl | exact absurd rfl h
 have e2:(op==CmpOp.NotIn)=false:=by cases op <;> first | rfl | exact absurd rfl h2
 cases b <;> simp[nn,e1,e2]
def hE{r:R2}(ho:dN X (li op) r)(ha:PE X a ta)(hb:PE X b tb)(hm:nn op b=false):PE X (.Compare a [op] [b] pos) (zh r ta tb):=by
 intro U s σ H Q I h;exact wpAny_Compare1 (yZ ha hb I h λv u s2 x y H2 I2 rx ry q=>ho U s2 σ H2 x y v u Q I2 rx ry q) hm
def z6(t:TE):TT:=λσ H Q=>t σ H λx H'=>∃k,x=.bl k/\Q k H'
def eJ{r:R2}(ho:dN X (li op) r)(ha:PE X a ta)(hb:PE X b tb)(hm:nn op b=false):PT X (.Compare a [op] [b] pos) (z6 (zh r ta tb)):=by
 intro U s σ H Q I h;refine wpAny_isTrue_Compare1 (aR (ha U s σ H _ I h) λv s1 ⟨x,H1,I1,r1,q1⟩=>aR (hb U s1 σ H1 _ I1 q1) λu s2 ⟨y,H2,I2,r2,q2⟩=>
  aR (ho U s2 σ H2 x y v u _ I2 r1 r2 q2) λc s3 ⟨z,H3,I3,r3,k,e,q3⟩=>?_) hm
 subst e;cases r3;exact BL ⟨H3,I3,q3⟩
def v5(K:Aa)(x:V)(H:Hp)(k:Bool):Prop:=
 match x with
 | .aL=>k=false
 | .bl b=>k=b
 | .int i=>k=(i != 0)
 | .str y=>y.length<=sizeLine/\k=((y.length:Int) != 0)
 | .o5 y=>y.size<=sizeLine/\k=((y.size:Int) != 0)
 | .ref p=>(∃xs,bO K H p xs/\k=!xs.isEmpty)\/(∃xs,cf K H p xs/\k=!xs.isEmpty)\/∃aM,H p=al (.dK aM)/\k=!aM.isEmpty
 | _=>False
def nq{κ:Type}{aM:O (κ×V)}{vs:O (κ×bn)}(r:KV aM vs):(!vs.isEmpty)=!aM.isEmpty:=by
 cases r <;> rfl
def iK(r:Vals xs ak):(!ak.toArray.isEmpty)=!xs.isEmpty:=by
 cases r <;> simp
def kf:(sizeLine:Nat) < 2 ^ 63:=by rw[wv];decide
theorem xr:Kt X (λx H Q=>∃k,v5 X.K x H k/\Q k H):=by
 intro U s σ H x v Q I rx h;obtain⟨k,e,q⟩:=h;have hs:=wv;cases x with
 | aL=>
  cases rx;have e':=e;subst e';exact truthy_none ⟨H,I,q⟩
 | bl b=>
  cases rx;have e':=e;subst e';exact BL ⟨H,I,q⟩
 | int i=>
  obtain⟨t,rfl⟩:=rx;have e':=e;subst e';exact PySem.P.truthy_int ⟨H,I,q⟩
 | str y=>
  obtain⟨t,rfl⟩:=rx;obtain⟨hy,e'⟩:y.length<=sizeLine/\k=((y.length:Int) != 0):=e;subst e';exact PySem.P.truthy_str ∅ ⟨H,I.tok _,q⟩
 | o5 y=>
  obtain⟨t,rfl⟩:=rx;obtain⟨hy,e'⟩:y.size<=sizeLine/\k=((y.size:Int) != 0):=e;subst e';exact PySem.W.truthy_bytes ∅ ⟨H,I.tok _,q⟩
 | ref p=>
  cases rx;have e':=e;rcases e' with⟨xs,hx,e'⟩ | ⟨xs,hx,e'⟩ | ⟨aM,hx,e'⟩
  ·subst e';obtain⟨ak,r,pl,hz⟩:=I.list hx;have Â:=r.length;exact wpAny_truthy_list pl.isList (by simp;omega) ⟨H,I.tok _,by rw[iK r];exact q⟩
  ·subst e';obtain⟨ak,r,pl,hz⟩:=I.tuple hx;have Â:=r.length;exact truthy_tuple pl (by simp only[Af];omega) ⟨H,I.tok _,by rw[iK r];exact q⟩
  ·subst e';obtain⟨hz,hS,vs,r,m⟩:aM.length<=sizeLine/\(p==sysModules)=false/\∃vs,KV aM vs/\s.heap.DictOf (bJ X.prog X.w) p vs:=I.aP p _ hx;have Â:=Paired.length r;exact wpAny_truthy_dict hS m ∅ ⟨H,I.tok _,by rw[nq r];exact q⟩
 | _=>exact(e).elim
def q9(ha:PE X a ta)(he:∀Á,isTrue a X.env Á=(do let v <- Á;u8 a.pos;mo [v] (truthy v))) :
  PT X a (λσ H Q=>ta σ H λx H'=>∃k,v5 X.K x H' k/\Q k H'):=by
 intro U s σ H Q I h;exact isTrue_plain (aR (ha U s σ H _ I h) λv s1 ⟨x,H1,I1,r1,q1⟩=>xr U s1 σ H1 x v Q I1 r1 q1) (he _)
def mZ:dN X (nl .Add) (λx y H Q=>∃i j,x=.str i/\y=.str j/\i.length+j.length<=sizeLine/\Q (.str (i++j)) H):=by
 intro U s σ H x y v u Q I rx ry h;obtain⟨i,j,rfl,rfl,hz,q⟩:=h;obtain⟨t,rfl⟩:=rx;obtain⟨t',rfl⟩:=ry;exact add_str (λt' tk=>⟨.str (i++j),H,I.tok _,⟨_,rfl⟩,q⟩) hz
def vals1{x:V}(r:Vals [x] us):∃u,us=[u]/\RelV x u:=by
 cases r with
 | cons r1 r2=>cases r2;exact⟨_,rfl,r1⟩
def vals2{x:V}(r:Vals [x,y] us):∃u w',us=[u,w']/\RelV x u/\RelV y w':=by
 cases r with
 | cons r1 r2=>
  cases r2 with
  | cons r3 r4=>cases r4;exact⟨_,_,rfl,r1,r3⟩
def tM:a8 X (.builtin "abs") (λxs H Q=>∃i,xs=[.int i]/\Q (.int (if i < 0 then -i else i)) H):=by
 intro U s σ H xs us Q I r h;obtain⟨i,rfl,q⟩:=h;obtain⟨u,rfl,t,rfl⟩:=vals1 r;exact call_abs_int λu tk=>⟨.int (if i < 0 then -i else i),H,I.tok _,⟨_,rfl⟩,q⟩
def ql:a8 X (.type "int") (λxs H Q=>(∃i,xs=[.int i]/\Q (.int i) H)\/∃k,xs=[.bl k]/\Q (.int (if k then 1 else 0)) H):=by
 intro U s σ H xs us Q I r h;rcases h with⟨i,rfl,q⟩ | ⟨k,rfl,q⟩
 ·obtain⟨u,rfl,t,rfl⟩:=vals1 r;exact call_int_int ⟨.int i,H,I,⟨_,rfl⟩,q⟩
 ·obtain⟨u,rfl,r1⟩:=vals1 r;cases r1;exact call_int_bool ⟨.int (if k then 1 else 0),H,I.tok _,⟨_,rfl⟩,q⟩
def Gq(K:Aa)(x:V)(H:Hp)(n:Nat):Prop:=
 match x with
 | .str y=>y.length<=sizeLine/\n=y.length
 | .o5 y=>y.size<=sizeLine/\n=y.size
 | .ref p=>(∃xs,bO K H p xs/\n=xs.length)\/∃xs,cf K H p xs/\n=xs.length
 | _=>False
theorem tL:a8 X (.builtin "len") (λxs H Q=>∃x n,xs=[x]/\Gq X.K x H n/\Q (.int n) H):=by
 intro U s σ H xs us Q I r h;obtain⟨x,n,rfl,e,q⟩:=h;obtain⟨u,rfl,rx⟩:=vals1 r;have hs:=wv;cases x with
 | str y=>
  obtain⟨t,rfl⟩:=rx;obtain⟨hy,e'⟩:y.length<=sizeLine/\n=y.length:=e;subst e';exact len_str ∅ ⟨.int _,H,I.tok _,⟨_,rfl⟩,q⟩
 | o5 y=>
  obtain⟨t,rfl⟩:=rx;obtain⟨hy,e'⟩:y.size<=sizeLine/\n=y.size:=e;subst e';exact PySem.W.len_bytes ∅ ⟨.int _,H,I.tok _,⟨_,rfl⟩,q⟩
 | ref p=>
  cases rx;have e':=e;rcases e' with⟨xs,hx,e'⟩ | ⟨xs,hx,e'⟩
  ·subst e';obtain⟨ak,r',pl,hz⟩:=I.list hx;have Â:=r'.length;exact Calls.call_len_list pl.isList (by simp;omega) ⟨.int xs.length,H,I.tok _,⟨_,by simp only[Af];rw[Â]⟩,q⟩
  ·subst e';obtain⟨ak,r',pl,hz⟩:=I.tuple hx;have Â:=r'.length;exact len_tuple pl (by simp only[Af];omega) ⟨.int xs.length,H,I.tok _,⟨_,by simp only[Af];rw[Â]⟩,q⟩
 | _=>exact(e).elim
end
end L2
variable{o:Option A6}{R:PySem.Result->CY->Prop}{pl:PySem.Sem Bool}{mA:Bo->Option A6}{prog:D2}{kw:O (Bo×A6)}{env:PySem.Env}{fm À:B7}
namespace L2
structure nU(h:gt)(x dx C:ce)(mA:Str->Option bn):Prop where
 obj:h.get? x=al (Br C dx)
 ns:h.Ns1 dx mA
 ne:dx≠x
def pR{dx:ce}(n:h.Ns1 dx mA):∃od,h.get? dx=al od/\∀name,C0 name od=al (mA name):=by
 obtain⟨o,es,ep,ho,hd,hk,_,hm⟩:=n;refine⟨o,ho,λname=>?_⟩;have e:=hm name;unfold nsFind findBy at e;rw[<- Array.find?_toList]at e;unfold C0;rw[hd];dsimp only
 split
 ·rename_i y q;rw[q]at e;exact congrArg al e
 ·rename_i q;rw[q]at e;have a:es.toList.any (·.refKey)=false:=by
   rw[List.any_eq_false];intro y hy;obtain⟨z,t,Jy⟩:=hk y (Array.mem_toList_iff.mp hy);simp[DictEntry.refKey,Jy]
  have a':¬es.toList.any (·.refKey)=true:=by rw[a];exact Az
  rw[if_neg a'];exact congrArg al e
def nU.look{x dx C:ce}(I:nU h x dx C mA):∃od,PySem.W.InstAt h x (Br C dx) C (al od)/\∀name,C0 name od=al (mA name):=
 let ⟨od,ho,hl⟩:=pR I.ns
 ⟨od,⟨I.obj,rfl,rfl,ho⟩,hl⟩
section
variable{s:ci}{K:Aa}{x dx C f:ce}{name:Str}{v:bn}
def get_map{expr:Bool}(X:K.In s.heap)(I:nU s.heap x dx C mA)(hg:B5 K C name=true)(hh:Cq K C=true)
  (ha:AH K (.ref C) name=al be) (hv:mA name=al v) (GV:Ed v=true) (h:Q v {s with toks:=s.toks+1}) :
  db (em prog w) A (getAttr (.ref x) name expr) Q E s:=by
 obtain⟨od,J,hl⟩:=I.look;exact PySem.W.get_value X J (CT hg).1 (PySem.W.findObj_own hh ha rfl (by rw[hl,hv])) GV h
def sM{Q:bn×O bn->ci->Prop}(X:K.In s.heap)(I:nU s.heap x dx C mA)(hg:B5 K C name=true)
  (hf:AH K (.ref C) name=al (al (.ref f))) (ht:Cp K (.ref f)=true) (hv:mA name=be) (h:Q (.ref f,[.ref x]) s) :
  db (em prog w) A (getMethod (.ref x) name pl) Q E s:=by
 obtain⟨od,J,hl⟩:=I.look;exact PySem.W.method_fn X J (CT hg).1 (CT hg).2 hf (beq_iff_eq.mp ht) (by show(C0 name od).map (·.isSome)=al false;rw[hl,hv];rfl) h
theorem uD{ns:O Str}{Q:Unit->ci->Prop}(X:K.In s.heap)(I:nU s.heap x dx C mA)
  (hs:AH K (.ref C) "__setattr__"=al (al (.builtin "object.__setattr__"))) (hp:C9 K C=true) (ht:DD K C name=al be) (hh:Cq K C=true)
  (hw:D8 mA ns) (pZ:ns.length<=sizeLine)
  (h:∀h',nU h' x dx C (λy=>if y=name then al v else mA y)->B6 dx s.heap h'->Q () {s with heap:=h',toks:=s.toks+2}) :
  db (em prog w) A (setAttr (.ref x) name v) Q E s:=by
 obtain⟨od,J,hl⟩:=I.look;refine PySem.W.set_plain X J hs (PySem.W.osa_open X J hp ht λb=>?_);obtain⟨cd,hc,JH⟩:=PySem.W.any_some hh;refine Ab (Am (Ab (Ab (wpAny_loadPart I.obj (Ab (PySem.W.Looks.here (s:={s with toks:=s.toks+1}) (PySem.W.looks_clsIn X hc) ?_))))));rw[JH];refine Am (Ab (Am (Ab ?_)));refine wpAny_nsSet1 (s:={s with toks:=s.toks+1}) I.ns λh' Lb mE=>?_;obtain⟨oD,OY,OZ,Nn,NC,NG⟩:=Lb.count (D8.cons name v hw);exact Ab (wpAny_lookBehind Nn (by rw[NC];exact pastItsLine_dict (AX NG (by rw[Ar];omega))) (Am (h _ ⟨(mE.2 _ (Cg I.ne)).trans I.obj,Lb,I.ne⟩ mE)))
def sh{vs:O bn}(X:K.In s.heap)(hm:DE K C=true)
  (hi:AH K (.ref C) "__init__"=al (al (.ref f))) (hf:PySem.W.typeIn K (.ref f)=al (.type "function"))
  (h:ww (em prog w) (A.under (.builtin "type.__call__" ⟨.ref C::vs,kw⟩)) (.call (.ref f) ⟨.ref (s.heap.objs.size+1)::vs,kw⟩) (PySem.W.InitBack (s.heap.objs.size+1) R)
   {s with heap:=(s.heap.push A5).push (Br C s.heap.objs.size)}) :
  ww (em prog w) A (.call (.ref C) ⟨vs,kw⟩) R s:=by
 obtain⟨hh,g,d,t,os⟩:=s;exact PySem.W.make_core (PySem.W.makes_of X hm) (PySem.W.looks_findIn X hi) (λself=>PySem.W.bind_fn X self hf) (.inl rfl) h
end
def dQ(f:Str)(v:V):O (Str×V)->O (Str×V)
 | []=>[(f,v)]
 | (g,x)::r=>if g=f then (g,v)::r else (g,x)::dQ f v r
theorem gL(f g:Str)(v:V):∀fs:O (Str×V),(dQ f v fs).lookup g=if g=f then al v else fs.lookup g
 | []=>by
  show B3 g [(f,v)]=_;by_cases h:g=f
  ·have hb:(g==f)=true:=beq_iff_eq.mpr h;simp only[B3,hb,if_pos h]
  ·have hb:=beq_eq_false_iff_ne.mpr h;simp only[B3,hb,if_neg h]
 | (k,x)::r=>by
  rw[show dQ f v ((k,x)::r)=(if k=f then (k,v)::r else (k,x)::dQ f v r) from rfl];by_cases hk:k=f
  ·rw[if_pos hk];by_cases h:g=k
   ·simp only[B3,(beq_iff_eq.mpr h),if_pos (h.trans hk)]
   ·simp only[B3,(beq_eq_false_iff_ne.mpr h),if_neg (λe:g=f=>h (e.trans hk.symm))]
  ·rw[if_neg hk];by_cases h:g=k
   ·simp only[B3,(beq_iff_eq.mpr h),if_neg (λe:g=f=>hk (h.symm.trans e))]
   ·simp only[B3,(beq_eq_false_iff_ne.mpr h)];exact(gL f g v r)
theorem gF(f:Str)(v:V):∀fs:O (Str×V),f∈(dQ f v fs).map (·.1)/\∀g,g∈fs.map (·.1)->g∈(dQ f v fs).map (·.1)
 | []=>⟨by simp[dQ],λg h=>by simp at h⟩
 | (k,x)::r=>by
  obtain⟨i1,i2⟩:=gF f v r;rw[show dQ f v ((k,x)::r)=(if k=f then (k,v)::r else (k,x)::dQ f v r) from rfl];by_cases hk:k=f
  ·subst hk;exact⟨by simp,λg h=>by simpa using h⟩
  ·rw[if_neg hk];refine⟨?_,λg h=>?_⟩
   ·exact AA _ i1
   ·rcases Ax.mp h with e | e
    ·exact Ax.mpr (.inl e)
    ·exact AA _ (i2 g e)
theorem gM(f:Str)(v:V):∀fs:O (Str×V),(dQ f v fs).length<=fs.length+1
 | []=>by simp[dQ]
 | (k,x)::r=>by
  have ih:=gM f v r;rw[show dQ f v ((k,x)::r)=(if k=f then (k,v)::r else (k,x)::dQ f v r) from rfl];by_cases hk:k=f
  ·rw[if_pos hk,Ar,Ar];omega
  ·rw[if_neg hk,Ar,Ar];omega
def kM.some_of(r:kM (al v) o):∃u,o=al u/\RelV v u:=by
 cases o with
 | none=>exact(r).elim
 | some u=>exact⟨u,rfl,r⟩
def kM.none_of(r:kM be o):o=be:=by
 cases o with
 | none=>rfl
 | some u=>exact(r).elim
def p8(r:RelV v u):Ed u=true:=by
 cases v with
 | aL=>cases (r);rfl
 | bl b=>cases (r);rfl
 | int i=>obtain⟨t,e⟩:=(r);cases e;rfl
 | str x=>obtain⟨t,e⟩:=(r);cases e;rfl
 | o5 b=>obtain⟨t,e⟩:=(r);cases e;rfl
 | yJ b=>obtain⟨t,e⟩:=(r);cases e;rfl
 | ref a=>cases (r);rfl
 | ty n=>cases (r);rfl
section
variable{a C dx:ce}{fs:O (Str×V)}
def hX(aP:gj P w H h)(e:H a=al (.ins C dx fs)):∃mA,nU h a dx C mA/\(∀f,kM (fs.lookup f) (mA f))/\D8 mA (fs.map (·.1))/\fs.length<=1000/\H dx=al (.own a):=by
 obtain⟨d,z,ne,ob,mA,n,r,q⟩:=(aP a _ e);exact⟨mA,⟨ob,n,ne⟩,r,q,z,d⟩
end
structure o9(K:Aa)(C:ce):Prop where
 pg:B5 K C Bx=true
 hd:Cq K C=true
 po:C9 K C=true
 sa:AH K (.ref C) "__setattr__"=al (al (.builtin "object.__setattr__"))
def o9.get{K:Aa}{C:ce}(c:o9 K C)(f:Str):B5 K C f=true:=c.pg
def b9(K:Aa)(C:ce)(f:Str):Prop:=AH K (.ref C) f=al be
def b9.taker{K:Aa}{C:ce}{f:Str}(n:b9 K C f):DD K C f=al be:=by
 unfold DD;rw[show AH K (.ref C) f=al be from n];rfl
structure Meth(K:Aa)(C:ce)(m:Str)(f:ce):Prop where
 at_:AH K (.ref C) m=al (al (.ref f))
 fn:Cp K (.ref f)=true
 kp:AZ K (.ref f)=true
section
variable{s:ci}{a C dx:ce}{fs:O (Str×V)}{f:Str}
def nA{b:Bool}(I:Inv X U σ H s)(e:H a=al (.ins C dx fs))(c:o9 X.K C)(n:b9 X.K C f)(l:fs.lookup f=al v)
  (h:∀u s',Inv X U σ H s'->RelV v u->Q u s'):db (em X.prog X.w) A (getAttr (.ref a) f b) Q E s:=by
 obtain⟨mA,O_,r,_,_,_⟩:=hX I.aP e;obtain⟨u,hu,ru⟩:=kM.some_of (by rw[<- l];exact r f);exact get_map I.eN O_ (c.get f) c.hd n hu (p8 ru) (h u _ (I.tok _) ru)
def iP{m:Str}{g:ce}{Q:bn×O bn->ci->Prop}(I:Inv X U σ H s)(e:H a=al (.ins C dx fs))(c:o9 X.K C)(k:Meth X.K C m g)(l:fs.lookup m=be)
  (h:Q (.ref g,[.ref a]) s):db (em X.prog X.w) A (getMethod (.ref a) m pl) Q E s:=by
 obtain⟨mA,O_,r,_,_,_⟩:=hX I.aP e;exact sM I.eN O_ (c.get m) k.at_ k.fn (kM.none_of (by rw[<- l];exact r m)) h
theorem mS{Q:Unit->ci->Prop}(I:Inv X U σ H s)(e:H a=al (.ins C dx fs))(c:o9 X.K C)(n:b9 X.K C f)(hl:fs.length < 1000)(ry:RelV y u)
  (h:∀s',Inv X U σ (upd H a (.ins C dx (dQ f y fs))) s'->Q () s'):db (em X.prog X.w) A (setAttr (.ref a) f u) Q E s:=by
 obtain⟨mA,O_,r,wi,_,ho⟩:=hX I.aP e;have hz:(fs.map (·.1)).length<=sizeLine:=by rw[Aq,wv];omega
 refine uD I.eN O_ c.sa c.po n.taker c.hd wi hz λh' O' sb=>h _ ?_;have hd:∃o,h'.get? dx=al o:=let ⟨o,_,_,e',_⟩:=O'.ns;⟨o,e'⟩;refine I.write (by rw[e];exact BR) (.inr ho) (λb q hb z=>(sb.2 b hb).trans z) hd ?_;refine⟨by rw[ah O_.ne];exact ho,?_,O_.ne,O'.obj,_,O'.ns,λg=>?_,λg hg=>?_⟩
 ·have:=gM f y fs;omega
 ·rw[gL];by_cases q:g=f
  ·rw[if_pos q,if_pos q];exact ry
  ·rw[if_neg q,if_neg q];exact r g
 ·by_cases q:g=f
  ·rw[q];exact(gF f y fs).1
  ·refine(gF f y fs).2 g (wi g λz=>hg ?_);show(if g=f then al u else mA g)=be;rw[if_neg q];exact z
def Inv.made(I:Inv X U σ H s):Inv X U σ (upd (upd H s.heap.objs.size (.own (s.heap.objs.size+1))) (s.heap.objs.size+1) (.ins C s.heap.objs.size []))
  {s with heap:=(s.heap.push A5).push (Br C s.heap.objs.size)}:=by
 have e1:(s.heap.push A5).get? s.heap.objs.size=al A5:=An s.heap rfl;have e2:((s.heap.push A5).push (Br C s.heap.objs.size)).get? (s.heap.objs.size+1)=al (Br C s.heap.objs.size):=by
  have:=An (s.heap.push A5) (o:=Br C s.heap.objs.size) rfl
  rwa [BO]at this
 have e3:(s.heap.push A5).Ns s.heap.objs.size (λ_=>be):=⟨A5,#[],_,e1,rfl,(λe he=>absurd he (by simp)),λ_=>rfl⟩;have I1:=I.laid (a:=s.heap.objs.size) (o:=.own (s.heap.objs.size+1)) (h':=s.heap.push A5) (t':=s.toks) (λb u q=>Ae _ q) (Aj _) ⟨_,e1⟩;refine I1.laid (a:=s.heap.objs.size+1) (o:=.ins C s.heap.objs.size []) (t':=s.toks) (λb u q=>Ae _ q) (Ea (BO _ _)) ?_;have ne:s.heap.objs.size≠s.heap.objs.size+1:=AE (Bz _);refine⟨by rw[ah ne,aB],Bw _,ne,e2,λ_=>be,(Heap.Ns1.of_empty e3).at λo q=>Ae _ q,λ_=>BR,λy hy=>absurd rfl hy⟩
def vX{f:Str}{s:ci}(hb:lc e f env (ii e env)=ii e env)
  (h:db (em prog w) A (ii e env) (λo s₁=>db (em prog w) A (getAttr o f true) Q E s₁) E s):db (em prog w) A (ii (.Attribute e f pos) env) Q E s:=
 Attribute_any_ h (by rw[arm_eval_Attribute,hb])
end
def Ig(K:Aa)(ta:TE)(f:Str):TE:=λσ H Q=>ta σ H λx H1=>∃a C dx fs v,x=.ref a/\H1 a=al (.ins C dx fs)/\o9 K C/\b9 K C f/\fs.lookup f=al v/\Q v H1
def Ip(K:Aa)(ta tv:TE)(f:Str):TS:=λD σ H=>tv σ H λy H1=>ta σ H1 λx H2=>∃a C dx fs,x=.ref a/\H2 a=al (.ins C dx fs)/\o9 K C/\b9 K C f/\fs.length < 1000/\
 D.nx σ (upd H2 a (.ins C dx (dQ f y fs)))
section
variable{o Ã:gl}{f:Str}{tv:TE}
def d6(he:PE X e ta)(hb:lc e f X.env (ii e X.env)=ii e X.env):PE X (.Attribute e f pos) (Ig X.K ta f):=by
 intro U s σ H Q I h;refine vX hb (aR (he U s σ H _ I h) λu s1 ⟨x,H1,I1,rx,a,C,dx,fs,v,ex,ea,c,n,l,q⟩=>?_);subst ex;obtain rfl:u=Aw a:=rx;exact nA I1 ea c n l λu' s2 I2 ru=>⟨v,H1,I2,ru,q⟩
def mU(ha:PE X o ta)(hv:PE X Ã tv)(hs:pr Ã (al (.Attribute o f É)) pos.line X.env=pure false):PS X (.Assign [.Attribute o f É] Ã pos) (Ip X.K ta tv f):=by
 intro U s σ H D I h;refine plainObj_wpAny_Assign_Attribute (aR (hv U s σ H _ I h) λu s1 ⟨y,H1,I1,ry,q⟩=>aR (ha U s1 σ H1 _ I1 q) λov s2 ⟨x,H2,I2,rx,a,C,dx,fs,ex,ea,c,n,l,q2⟩=>?_) hs;subst ex;obtain rfl:ov=Aw a:=rx;exact mS I2 ea c n l ry λs3 I3=>⟨σ,_,I3,q2⟩
def wH{m:Str}{args:O gl}{s:ci}(he:PE X e te)(I:Inv X U σ H s)
  (h:te σ H λx H1=>∃a C dx fs g,x=.ref a/\H1 a=al (.ins C dx fs)/\o9 X.K C/\Meth X.K C m g/\fs.lookup m=be/\
   ∀s1,Inv X U σ H1 s1->db (em X.prog X.w) X.A (callWith pos (.ref g) [.ref a] (wE pos (f8 args X.env)) (backToKw pos (keywordEach [] X.env))) Q X.xe s1)
  (ht:ii (.Call (.Attribute e m À) args [] pos) X.env=(do
   let ov <- ii e X.env
   u8 À.atName
   let (f,first) <- mo [ov] (getMethod ov m pl)
   callWith pos f first (wE pos (f8 args X.env)) (backToKw pos (keywordEach [] X.env)))) :
  db (em X.prog X.w) X.A (ii (.Call (.Attribute e m À) args [] pos) X.env) Q X.xe s:=by
 refine DK (pl:=pl) (aR (he U s σ H _ I h) λu s1 ⟨x,H1,I1,rx,a,C,dx,fs,g,ex,ea,c,k,l,q⟩=>?_) ht;subst ex;obtain rfl:u=Aw a:=rx;exact iP I1 ea c k l (q s1 I1)
end
section
variable{s:ci}{c:bn}{b:Bool}
inductive eG(K:Aa)(H:Hp):V->bn->Prop where
 | aL:eG K H .aL (.type "NoneType")
 | bl (x:Bool):eG K H (.bl x) (.type "bool")
 | int (i:Int):eG K H (.int i) (.type "int")
 | str (x:Str):eG K H (.str x) (.type "str")
 | yJ (x:UInt64):eG K H (.yJ x) (.type "float")
 | lst {a:ce}{xs:List V} (e:H a=al (.lst xs)):eG K H (.ref a) (.type "list")
 | bX {a:ce}{o:Obj}{xs:List V} (e:H a=al (.bX o (.lst xs))):eG K H (.ref a) (.type "list")
 | tup {a:ce}{xs:List V} (e:H a=al (.tup xs)):eG K H (.ref a) (.type "tuple")
 | dK {a:ce}{aM:List (Key×V)} (e:H a=al (.dK aM)):eG K H (.ref a) (.type "dict")
 | dT {a:ce}{aM:List (List Key×V)} (e:H a=al (.dT aM)):eG K H (.ref a) (.type "dict")
 | ins {a C dx:ce}{fs:List (Str×V)} (e:H a=al (.ins C dx fs)) (cl:o9 K C) (ha:AH K (.ref C) "__class__"=al (al (.builtin "object.__class__")))
   (hn:PySem.W.specialIn K (.builtin "object.__class__") "__get__"=al (al (.builtin "getset_descriptor.__get__"))) (K8:PySem.W.takesIn K (.builtin "object.__class__")=al true)
   (hm:PySem.W.mroIn K C (.type "object")=al true):eG K H (.ref a) (.ref C)
def pW{x:V}{t:bn}(I:Inv X U σ H s)(rx:RelV x u)(ty:eG X.K H x t)(e:AQ X.K t c=al b)(h:∀tk,Q (.bool b) {s with toks:=tk}) :
  db (em X.prog X.w) A (call (.builtin "isinstance") [u,c]) Q E s:=by
 cases ty with
 | aL=>cases (show u=Bd from rx);exact AL PySem.W.kitx_none I.eN BR e (λz=>nomatch z) h
 | bl y=>cases (show u=Ci y from rx);exact AL PySem.W.kitx_bool I.eN BR e (λz=>nomatch z) h
 | int i=>obtain⟨t,q⟩:=(show ∃t,u=Value.int i t from rx);cases q;exact AL PySem.W.kitx_int I.eN BR e (λz=>nomatch z) h
 | str y=>obtain⟨t,q⟩:=(show ∃t,u=Value.str y t from rx);cases q;exact AL PySem.W.kitx_str I.eN BR e (λz=>nomatch z) h
 | yJ y=>obtain⟨t,q⟩:=(show ∃t,u=Value.float y t from rx);cases q;exact AL PySem.W.kitx_float I.eN BR e (λz=>nomatch z) h
 | @lst a xs ea=>
  cases (show u=Aw a from rx);obtain⟨_,_,n,_,h1⟩:=(show bq X.prog X.w H s.heap a (.lst xs) from I.aP a _ ea);exact AL Dd I.eN ⟨_,h1,rfl⟩ e (λz=>nomatch z) h
 | @bX a ob xs ea=>
  cases (show u=Aw a from rx);obtain⟨_,_,_,n,_,h1⟩:=(show bq X.prog X.w H s.heap a (.bX ob (.lst xs)) from I.aP a _ ea);exact AL Dd I.eN ⟨_,h1,rfl⟩ e (λz=>nomatch z) h
 | @tup a xs ea=>
  cases (show u=Aw a from rx);obtain⟨_,_,_,p⟩:=(show bq X.prog X.w H s.heap a (.tup xs) from I.aP a _ ea);obtain⟨o,h1,h2,_⟩:=p;exact AL D5 I.eN ⟨o,h1,h2⟩ e (λz=>nomatch z) h
 | @dK a aM ea=>
  cases (show u=Aw a from rx);obtain⟨_,_,vs,_,p⟩:=(show bq X.prog X.w H s.heap a (.dK aM) from I.aP a _ ea);obtain⟨o,es,ep,h1,h2,_⟩:=p;exact AL De I.eN ⟨o,h1,h2.1⟩ e (λz=>nomatch z) h
 | @dT a aM ea=>
  cases (show u=Aw a from rx);obtain⟨_,_,xs,_,o,es,ep,h1,h2,_⟩:=(show bq X.prog X.w H s.heap a (.dT aM) from I.aP a _ ea);exact AL De I.eN ⟨o,h1,h2.1⟩ e (λz=>nomatch z) h
 | @ins a C dx fs ea cl ha hn K8 hm=>
  cases (show u=Aw a from rx);obtain⟨mA,O_,_⟩:=hX I.aP ea;obtain⟨od,J,_⟩:=O_.look;exact AL (PySem.W.kitx_own (cl.get _) cl.hd ha hn K8 hm) I.eN J e (λz=>nomatch z) h
end
end L2
variable{o:BM}{v Ä pm bh ct oc:A6}{vs:O L2.V}{mg:Bo->Option A6}{base:Dx}{fd:PySem.FuncData}{ps:O Bo}{outer:O PySem.Env}{sc scope:PySem.Scope}{qual:Bo}{an od:Option AR}{rG:Array (Option A6)}
namespace L2
structure aZ(k:Nat)(A:re):Prop where
 hd:A.handled=be
 dp:A.depth+3*k+5 < recursionLimit
 un:A.units+16*k+200 < cLine
 gd:A.guards=al []
theorem aZ.mono(r:aZ k A)(h:j<=k):aZ j A:=⟨r.hd,by have:=r.dp;omega,by have:=r.un;omega,r.gd⟩
theorem aZ.deeper(r:aZ (k+1) A)(env:Env):aZ k (A.deeper env):=
 ⟨r.hd,by have:=r.dp;show A.depth+1+3*k+5 < _;omega,by have:=r.un;show A.units+3+16*k+200 < _;omega,r.gd⟩
def ni{C:ce}:(A.under (.builtin "type.__call__" ⟨.ref C::us,kw⟩)).depth=A.depth+1:=by
 first | rfl | simp
def nh{C:ce}:(A.under (.builtin "type.__call__" ⟨.ref C::us,kw⟩)).units=A.units+1:=by
 first | rfl | simp
theorem aZ.make(r:aZ (k+1) A)(C:ce)(us:O bn)(kw:O (Str×bn)):aZ k (A.under (.builtin "type.__call__" ⟨.ref C::us,kw⟩)):=
 ⟨r.hd,by have:=r.dp;rw[ni];omega,by have:=r.un;rw[nh];omega,by have h:=r.gd;simp[Around.under,Code.guards,Code.isGuard,guardIds,pushGuards,h]⟩
theorem aZ.depth(r:aZ k A):A.depth < recursionLimit:=by have:=r.dp;omega
def Ib:TA:=λ_ H Q=>Q [] H
def Er(ta:TE)(tr:TA):TA:=λσ H Q=>ta σ H λx H1=>tr σ H1 λxs H2=>Q (x::xs) H2
section
variable{t:TA}
def az:PA X [] Ib:=λ_ _ _ _ H Q I h=>Ct ⟨[],H,I,.nil,h⟩
def ae(ha:PE X e te)(hr:PA X es t)(hs:c6 X e es:=by rfl):PA X (e::es) (Er te t):=by
 intro pos U s σ H Q I h;rw[hs];exact BE (aR (ha U s σ H _ I h) λu s1 ⟨x,H1,I1,r1,q1⟩=>aR (hr pos U s1 σ H1 _ I1 q1) λus s2 ⟨xs,H2,I2,r2,q2⟩=>⟨x::xs,H2,I2,.cons r1 r2,q2⟩)
end
abbrev Sp:=O V->Hp->VK->XK->Prop
abbrev tV:=O Env->Hp->ci->XK->bn->ci->Prop
structure kR(P:lf)(w:o0)(K:Aa)(mg:Str->Option bn)(base:gt)(A:re)(outer:List Env)(s:ci)(H:Hp):Prop where
 frames:A.frames=al outer
 mod:Mod K mg base
 bs:∀b o,base.get? b=al o->s.heap.get? b=al o/\H b=be
 uc:base.objs.size<=s.heap.objs.size
 eO:s.heap.FunFrames base outer
 vE:∀b∈frs outer,H b=be
 aP:gj P w H s.heap
 bare:xL s.gens
def CE(outer:O Env)(P:lf)(w:o0)(H:Hp)(s:ci)(Q:VK)(u:bn)(s':ci):Prop:=
 ∃v H',s'.os=s.os/\xL s'.gens/\Un (frs outer) [] H H' s.heap s'.heap/\gj P w H' s'.heap/\RelV v u/\Q v H'
def CR(CX:tV)(outer:O Env)(P:lf)(w:o0)(H:Hp)(s:ci)(Q:VK)(E:XK)(r:Result)(s':ci):Prop:=
 match r with
 | .ok (.ret u)=>CE outer P w H s Q u s'
 | .ok _=>False
 | .error e=>CX outer H s E e s'
structure bf(P:lf)(w:o0)(K:Aa)(mg:Str->Option bn)(base:gt)(CX:tV)(k:Nat)(f:ce)(fd:sn)(ps:List Str)(sp:Sp):Prop where
 len:∀vs H Q E,sp vs H Q E->vs.length=ps.length
 run:∀(A:re) (outer:List Env) (s:ci) (H:Hp) (args:Args) (us:List bn) (vs:List V) (Q:VK) (E:XK),aZ k A->kR P w K mg base A outer s H->BindsTo s fd args (ps.zip us)->Vals vs us->sp vs H Q E->
  ww (em P w) A (.call (.ref f) args) (CR CX outer P w H s Q E) s
def bf.imp{K:Aa}{CX:tV}{f:ce}{sp KR:Sp}(F:bf P w K mg base CX k f fd ps sp)
  (h:∀vs H Q E,KR vs H Q E->sp vs H Q E):bf P w K mg base CX k f fd ps KR:=
 ⟨λvs H Q E q=>F.len vs H Q E (h _ _ _ _ q),λA outer s H args us vs Q E hr he hb hv hs=>F.run A outer s H args us vs Q E hr he hb hv (h _ _ _ _ hs)⟩
def kR.make{K:Aa}{s:ci}(e:kR P w K mg base A outer s H)(C:ce)(us:O bn)(kw:O (Str×bn)) :
  kR P w K mg base (A.under (.builtin "type.__call__" ⟨.ref C::us,kw⟩)) outer s H:=⟨by first | exact e.frames | (simpa[Around.under,Code.envs,Code.isFrame,pushEnvs]using e.frames),e.mod,e.bs,e.uc,e.eO,e.vE,e.aP,e.bare⟩
section
variable{s:ci}
def Inv.yV(I:Inv X U σ H s):kR X.prog X.w X.K X.mg X.base X.A X.stack s H:=
 ⟨I.ok.frames,I.ok.mod,I.bs,AX I.ok.uc I.sz,I.stack,I.n8,I.aP,I.bare⟩
def Inv.after{Q:VK}(I:Inv X U σ H s)(h:CE X.stack X.prog X.w H s Q u s'):EP X U σ Q u s':=by
 obtain⟨v,H',os,bare,un,aP,r,q⟩:=h;obtain⟨hh,g,d,t,Mw⟩:=s';obtain rfl:Mw=s.os:=os;exact⟨v,H',I.call (h':=hh) (g':=g) (d':=d) (t':=t) (ch:=[]) un aP bare (λb z=>absurd z (by simp)),r,q⟩
end
def El(C:ce)(m:Str)(sp:Sp)(jH:O V)(E:XK)(ta:TE)(t:TA):TE:=λσ H Q=>ta σ H λx H1=>∃a dx fs,x=.ref a/\H1 a=al (.ins C dx fs)/\fs.lookup m=be/\
 t σ H1 λvs H2=>sp (x::(vs++jH)) H2 Q E
def Em(C:ce)(sp:Sp)(jH:O V)(E:XK)(t:TA):TE:=λσ H Q=>t σ H λvs H1=>∀x dx,H1 x=be->H1 dx=be->dx≠x->
 sp (.ref x::(vs++jH)) (upd (upd H1 dx (.own x)) x (.ins C dx [])) (λv H2=>v=.aL/\Q (.ref x) H2) E
def Binds(K:Aa)(fd:sn)(ps:O Str)(ds:O bn):Prop:=
 ∀(s:ci) (us:O bn),K.In s.heap->(us++ds).length=ps.length->BindsTo s fd ⟨us,[]⟩ (ps.zip (us++ds))
def Binds.all{K:Aa}(h:∀us:O bn,us.length=ps.length->bindArgs fd ⟨us,[]⟩=pure (ps.zip us)):Binds K fd ps []:=λs us _ hl=>by
 rw[Bf]at hl ⊢;exact .of_eq (h us hl)
def Passes(CX:tV)(X:Cx)(E:XK):Prop:=∀(U:O (ce×Obj)) (σ:St) (H:Hp) (s:ci) (e:bn) (s':ci),Inv X U σ H s->CX X.stack H s E e s'->X.xe e s'
section
variable{CX:tV}{f C:ce}{sp:Sp}{jH:O V}{ds:O bn}{E:XK}{x m:Str}{p:Pos}{t:TA}
def jX{s:ci}{Q:VK}(F:bf X.prog X.w X.K X.mg X.base CX k f fd ps sp)(hr:aZ k X.A)(hb:Binds X.K fd ps ds)(hd:Vals jH ds)(hx:Passes CX X E)
  (I:Inv X U σ H s) (r:Vals vs us) (h:sp (vs++jH) H Q E):db (em X.prog X.w) X.A (call (.ref f) us) (EP X U σ Q) X.xe s:=by
 have r2:Vals (vs++jH) (us++ds):=r.append hd;have hl:(us++ds).length=ps.length:=by rw[<- r2.length];exact F.len _ _ _ _ h
 refine wpAny_call (wT (F.run X.A X.stack s H ⟨us,[]⟩ (us++ds) (vs++jH) Q E hr I.yV (hb s us I.eN hl) r2 h) λr s' hq=>?_);cases r with
 | error e=>exact hx U σ H s e s' I hq
 | ok fl=>
  cases fl with
  | ret u=>exact I.after hq
  | next=>exact AJ hq
  | brk=>exact AJ hq
  | cont=>exact AJ hq
def cQ(he:PE X o ta)(c:o9 X.K C)(hm:Meth X.K C m f)(F:bf X.prog X.w X.K X.mg X.base CX k f fd ps sp)(hr:aZ k X.A)(hb:Binds X.K fd ps ds)(hd:Vals jH ds)(hx:Passes CX X E)(ha:PA X (e::es) t)
  (kl:c6 X e es:=by rfl) (bH:eR X pos es:=by rfl)
  (ht:ii (.Call (.Attribute o m À) (e::es) [] pos) X.env=(do
   let ov <- ii o X.env
   u8 À.atName
   let (f,first) <- mo [ov] (getMethod ov m pl)
   callWith pos f first (wE pos (f8 (e::es) X.env)) (backToKw pos (keywordEach [] X.env))):=by rfl) :
  PE X (.Call (.Attribute o m À) (e::es) [] pos) (El C m sp jH E ta t):=by
 intro U s σ H Q I h;refine DK (pl:=pl) (aR (he U s σ H _ I h) λu s1 ⟨x,H1,I1,rx,a,dx,fs,ex,ea,l,q⟩=>?_) ht;subst ex;obtain rfl:u=Aw a:=rx;refine iP I1 ea c hm l ?_;refine BS (first:=[.ref a]) (h₀:=X.base) I.ok.mod.vm hm.kp (aR (ha pos U s1 σ H1 _ I1 q) λus s2 ⟨vs,H2,I2,r,q2⟩=>⟨I2.eN,?_⟩) kl bH;exact jX (us:=.ref a::us) (vs:=.ref a::vs) F hr hb hd hx I2 (.cons rfl r) q2
structure Mk(K:Aa)(C f:ce):Prop where
 makes:DE K C=true
 init:AH K (.ref C) "__init__"=al (al (.ref f))
 fn:Cp K (.ref f)=true
 kp:AZ K (.ref C)=true
def qR{s:ci}{Q:VK}(M:Mk X.K C f)(F:bf X.prog X.w X.K X.mg X.base CX k f fd ps sp)(hr:aZ (k+1) X.A)(hb:Binds X.K fd ps ds)(hd:Vals jH ds)
  (hx:Passes CX X E) (I:Inv X U σ H s) (r:Vals vs us)
  (h:∀x dx,H x=be->H dx=be->dx≠x->sp (.ref x::(vs++jH)) (upd (upd H dx (.own x)) x (.ins C dx [])) (λv H2=>v=.aL/\Q (.ref x) H2) E) :
  db (em X.prog X.w) X.A (call (.ref C) us) (EP X U σ Q) X.xe s:=by
 have hq:=h (s.heap.objs.size+1) s.heap.objs.size (I.aP.fresh (Nat.le_succ _)) (I.aP.fresh (Aj _)) (AE (Bz _));have I2:=Inv.made (C:=C) I;have r2:Vals (V.ref (s.heap.objs.size+1)::(vs++jH)) (Aw (s.heap.objs.size+1)::(us++ds)):=.cons rfl (r.append hd);have hl:(Aw (s.heap.objs.size+1)::us++ds).length=ps.length:=by
  have e:=r2.length;rw[F.len _ _ _ _ hq]at e;exact e.symm
 refine wpAny_call (sh I.eN M.makes M.init (beq_iff_eq.mp M.fn) (wT (F.run _ X.stack _ _ ⟨Aw (s.heap.objs.size+1)::us,[]⟩ (Aw (s.heap.objs.size+1)::(us++ds)) _ _ E (hr.make C us [])
  (I2.yV.make C us []) (hb _ (Aw (s.heap.objs.size+1)::us) I2.eN hl) r2 hq) λr s' Fy=>?_))
 cases r with
 | error e=>exact hx U σ _ _ e s' I2 Fy
 | ok fl=>
  cases fl with
  | ret u=>
   obtain⟨v,H',I3,rv,ev,q3⟩:=I2.after Fy;subst ev;exact⟨rv,⟨V.ref (s.heap.objs.size+1),H',I3,rfl,q3⟩⟩
  | next=>exact AJ Fy
  | brk=>exact AJ Fy
  | cont=>exact AJ Fy
def uQ(M:Mk X.K C f)(F:bf X.prog X.w X.K X.mg X.base CX k f fd ps sp)(hr:aZ (k+1) X.A)(hg:Gl X x)(hm:X.mg x=al (.ref C))(hb:Binds X.K fd ps ds)(hd:Vals jH ds)(hx:Passes CX X E)
  (ha:PA X (e::es) t) (ej:dU x:=by decide) (he:c6 X e es:=by rfl) (bH:eR X pos es:=by rfl) :
  PE X (.Call (.Name x p) (e::es) [] pos) (Em C sp jH E t):=by
 intro U s σ H Q I h;exact AW (hU I hg hm (BS I.ok.mod.vm M.kp (aR (ha pos U s σ H _ I h) λus s1 ⟨vs,H1,I1,r,q⟩=>⟨I1.eN,qR M F hr hb hd hx I1 r q⟩) he bH) ej)
end
structure br(N P:List Str)(sc:ut):Prop where
 kind:sc.kind=.function
 co:sc.isCoroutine=false
 gen:sc.isGenerator=false
 nd:N.Nodup
 pre:N.take P.length=P
 par:∀x∈P,sc.names.lookup x=al .local\/sc.names.lookup x=al .cell
 yb:∀y∈sc.names,y.2≠.free
theorem jJ{kindOf:Str->Option sw}{x:Str}:∀{binds:O (Str×bn)}{m:Str->Option bn},(∀v,(x,v)∉binds)->bindL kindOf binds m x=m x
 | [],_,_=>rfl
 | (n,v)::r,m,h=>by
  unfold bindL;rw[jJ λw hw=>h w (AA _ hw)]
  split
  ·have:x≠n:=by rintro rfl;exact h v A9
   simp[this]
  ·rfl
theorem jL{kindOf:Str->Option sw}{x:Str}:∀{binds:O (Str×bn)}{m:Str->Option bn},(∀v,(x,v)∉binds)->bindC kindOf binds m x=m x
 | [],_,_=>rfl
 | (n,v)::r,m,h=>by
  unfold bindC;rw[jL λw hw=>h w (AA _ hw)]
  split
  ·rfl
  ·have:x≠n:=by rintro rfl;exact h v A9
   simp[this]
theorem jK{kindOf:Str->Option sw}{x:Str}:∀{P:O Str}{vs:O bn}{i:Nat}{m:Str->Option bn},P.Nodup->P[i]?=al x->vs[i]?=al v->kindOf x=al .local->
  bindL kindOf (P.zip vs) m x=al v
 | [],_,_,_,_,h,_,_=>by simp at h
 | _::_,[],_,_,_,_,h,_=>by simp at h
 | p::P,w::vs,0,m,nd,h1,h2,hk=>by
  simp at h1 h2;subst h1;subst h2;show bindL kindOf ((p,w)::P.zip vs) m p=_;unfold bindL;rw[jJ λv hv=>(BJ.mp nd).1 (CO hv).1,if_pos hk];simp
 | p::P,w::vs,i+1,m,nd,h1,h2,hk=>by
  unfold bindL;exact jK (BJ.mp nd).2 (by simpa using h1) (by simpa using h2) hk
theorem jM{kindOf:Str->Option sw}{x:Str}:∀{P:O Str}{vs:O bn}{i:Nat}{m:Str->Option bn},P.Nodup->P[i]?=al x->vs[i]?=al v->kindOf x≠al .local->
  bindC kindOf (P.zip vs) m x=al v
 | [],_,_,_,_,h,_,_=>by simp at h
 | _::_,[],_,_,_,_,h,_=>by simp at h
 | p::P,w::vs,0,m,nd,h1,h2,hk=>by
  simp at h1 h2;subst h1;subst h2;show bindC kindOf ((p,w)::P.zip vs) m p=_;unfold bindC;rw[jL λv hv=>(BJ.mp nd).1 (CO hv).1,if_neg hk];simp
 | p::P,w::vs,i+1,m,nd,h1,h2,hk=>by
  unfold bindC;exact jM (BJ.mp nd).2 (by simpa using h1) (by simpa using h2) hk
def start(N:O Str)(vs:O V):St:=vs.map al++AI (N.length-vs.length) be
def gZ(CX:tV)(P:lf)(w:o0)(K:Aa)(mg:Str->Option bn)(base:gt)(N:O Str)(qual:Str)(scope:ut)(f:ce)(cd:bn)(A:re)(outer:O Env)(s:ci)(H:Hp)(E:XK):Cx where
 prog:=P
 w:=w
 K:=K
 mg:=mg
 base:=base
 A:=A.deeper (sB qual scope s.heap.objs.size f cd)
 N:=N
 s₀:=s
 H₀:=H
 env:=sB qual scope s.heap.objs.size f cd
 outer:=outer
 stack:=sB qual scope s.heap.objs.size f cd::outer
 ex:=[]
 calm:=true
 fn:=λ_=>true
 pn:=[]
 xe:=λe s'=>db (em P w) (A.deeper (sB qual scope s.heap.objs.size f cd)) (leaving (sB qual scope s.heap.objs.size f cd) e) (λ_ Iq=>CX outer H s E e Iq) (λe' Iq=>CX outer H s E e' Iq) s'
def mh{x:Str}(h:sc.names.lookup x=al .cell):∃c,(cellsFrom n sc.names []).lookup x=al c:=by
 exact Option.isSome_iff_exists.mp (Dt sc.names n [] (.inl h))
theorem pY{CX:tV}{K:Aa}{N:O Str}{f:ce}{cd:bn}{s s1:ci}{E:XK}
  (S:br N ps scope) (hd:A.handled=be) (e0:kR P w K mg base A outer s H) (hl:vs.length=ps.length) (r:Vals vs us)
  (x:InCallC s s.heap.objs.size (bindL (sB qual scope s.heap.objs.size f cd).kindOf (ps.zip us) λ_=>be) (cellsFrom (s.heap.objs.size+1) scope.names []) (bindC (sB qual scope s.heap.objs.size f cd).kindOf (ps.zip us) λ_=>be) s1) :
  Inv (gZ CX P w K mg base N qual scope f cd A outer s H E) [] (start N vs) H s1:=by
 have bH:ps.length<=N.length:=by have:=congrArg CH S.pre;rw[Bj]at this;omega
 obtain⟨h1,tk,rfl,hk⟩:=x.done;have E5:∀b:ce,b∉(gZ CX P w K mg base N qual scope f cd A outer s H E).ex:=λb z=>absurd (show b∈([]) from z) (by simp);refine⟨⟨e0.mod,S.kind,rfl,rfl,Aj _,λy z c h1 h2=>?_,λy hy=>?_,λy c _ h=>?_,λ_=>hd,DS e0.frames,.inr ⟨rfl,rfl⟩,λb z=>absurd z (E5 b),e0.bs,e0.uc,λb _ _=>E5 b,λb z=>absurd z (E5 b),e0.eO,e0.vE⟩,
  rfl,e0.bare,Un.kept hk,⟨_,x.toInCall.ns,λi y v h1 h2 h3=>?_⟩,λy c h=>⟨_,x.cell y c h⟩,e0.aP.fresh (Aj _),λy c h=>?_,λp hp=>absurd (show p∈([]) from hp) (by simp),e0.aP.kept hk,?_⟩
 ·exact name_of_addr x.apart (A1 h1) (A1 h2)
 ·rcases hy with hy | hy
  ·exact mh hy
  ·exact absurd rfl (S.yb _ (A1 hy))
 ·exact Dz (x.above y c (A1 h))
 ·have hi:i < vs.length:=by
   unfold start at h2;by_cases hi:i < vs.length
   ·exact hi
   ·rw[Ak (by simpa using hi)]at h2;rw[Bq]at h2
    split at h2 <;> cases h2
  have ha:vs[i]?=al v:=by
   unfold start at h2;rw[Ap (by simpa using hi),Ao]at h2;cases e:vs[i]? with
   | none=>rw[e]at h2;cases h2
   | some a=>rw[e]at h2;cases h2;rfl
  obtain⟨u,hu,rv⟩:=r.get ha;have hp:ps[i]?=al y:=by
   rw[<- S.pre,List.getElem?_take_of_lt ∅];exact h1
  have K1:ps.Nodup:=by rw[<- S.pre];exact S.nd.sublist (List.take_sublist _ _)
  refine⟨u,rv,?_⟩;rcases S.par y (Ay hp) with k | k
  ·exact .inl ⟨k,jK K1 hp hu k⟩
  ·obtain⟨c,e⟩:=mh k;refine .inr ⟨.inl k,c,e,?_⟩;have q:=x.cell y c e;rw[jM K1 hp hu (by show scope.names.lookup y≠_;rw[k];decide)]at q;exact q
 ·exact e0.aP.fresh (Dz (x.above y c (A1 h)))
 ·unfold start;show _=N.length;rw[Ad,Aq,BH];omega
def wV{CX:tV}{K:Aa}{f:ce}{name:Str}{params:Arguments}{dV kV:bn}{N:O Str}{sp:Sp}(lk:K.lookup f=al ⟨oc,od,.func (AV name qual params body scope dV kV Ä pm an bh ct),rG⟩)(ek:BC K bh qual=true)(S:br N ps scope)
  (len:∀vs H Q E,sp vs H Q E->vs.length=ps.length)
  (lR:∀(A:re) (outer:O Env) (s:ci) (H:Hp) (vs:O V) (Q:VK) (E:XK),aZ k (A.deeper (sB qual scope s.heap.objs.size f bh))->sp vs H Q E->
   ∃t,PSs (gZ CX P w K mg base N qual scope f bh A outer s H E) body t/\t {nx:=λ_ H'=>Q .aL H',rt:=Q} (start N vs) H) :
  bf P w K mg base CX (k+1) f (AV name qual params body scope dV kV Ä pm an bh ct) ps sp:=by
 refine⟨len,λA outer s H args us vs Q E hr e0 hb r p5=>?_⟩;have hl:=len _ _ _ _ p5;have KX:K.In s.heap:=e0.mod.vm.keeps λb o e=>(e0.bs b o e).1;have lim:s.heap.NoLimit:=e0.mod.nolimit.keeps λb o e=>(e0.bs b o e).1;have FC:∀y∈ps.zip us,scope.names.lookup y.1=al .local\/(scope.names.lookup y.1=al .cell/\((cellsFrom (s.heap.objs.size+1) scope.names []).lookup y.1).isSome=true):=λ⟨n,v⟩ hy=>by
  rcases S.par n (CO hy).1 with q | q
  ·exact .inl q
  ·exact .inr ⟨q,Dt _ _ _ (.inl q)⟩
 refine codeAny_call_function hr.depth (KX _ _ lk) rfl S.co S.gen rfl (PySem.W.codeRec_of KX ek) (hb _ _ _ _ ?_);refine wpAny_newFunctionEnv_cells S.kind FC λenv he s1 x=>?_;subst he;refine⟨lim.keeps x.toInCall.keep,codeAny_func ?_⟩;obtain⟨t,ht,hq⟩:=lR A outer s H vs Q E (hr.deeper _) p5;have I:Inv (gZ CX P w K mg base N qual scope f bh A outer s H E) [] (start N vs) H s1:=pY S hr.hd e0 hl r x;refine BV (ht [] s1 (start N vs) H _ I hq) (λfl s' hs=>?_) λe s' hs=>hs;have fin:∀{σ':St}{H':Hp}{v:V}{u:bn},Inv (gZ CX P w K mg base N qual scope f bh A outer s H E) [] σ' H' s'->RelV v u->Q v H'->CE outer P w H s Q u s':=
  λ{σ' H' v u} J rv q=>⟨v,H',J.os,J.bare,J.base,J.aP,rv,q⟩
 cases fl with
 | ret u=>
  obtain⟨v,σ',H',J,rv,q⟩:=hs;exact fin J rv q
 | next=>
  obtain⟨σ',H',J,q⟩:=hs;exact fin (v:=V.aL) (u:=Bd) J rfl q
 | brk=>
  obtain⟨_,_,_,q⟩:=hs;exact AJ q
 | cont=>
  obtain⟨_,_,_,q⟩:=hs;exact AJ q
end L2
variable{T:String}
namespace L2
section
variable{x:Str}{p:Pos}{t:TA}{id:String}{r:O V->Hp->VK->Prop}
def KP(r:O V->Hp->VK->Prop)(t:TA):TE:=λσ H Q=>t σ H λvs H1=>r vs H1 Q
def bE(hc:a8 X (.builtin id) r)(hg:Gl X x)(hm:X.mg x=be)(hv:jp x=al (.builtin id))(ha:PA X (e::es) t)(hn:x≠"__name__":=by decide)(ej:dU x:=by decide)
  (he:c6 X e es:=by rfl) (bH:eR X pos es:=by rfl):PE X (.Call (.Name x p) (e::es) [] pos) (KP r t):=by
 intro U s σ H Q I h;refine AW (fb I hg hm hv ?_ hn ej);exact PyProof.Rows.callWith_builtin1 (aR (ha pos U s σ H _ I h) λus s1 ⟨vs,H1,I1,r1,q1⟩=>hc U s1 σ H1 vs us Q I1 r1 q1) he bH
def gA(hc:a8 X (.type T) r)(hg:Gl X x)(hm:X.mg x=be)(hv:jp x=al (.type T))(ha:PA X (e::es) t)(hn:x≠"__name__":=by decide)(ej:dU x:=by decide)
  (he:c6 X e es:=by rfl) (bH:eR X pos es:=by rfl):PE X (.Call (.Name x p) (e::es) [] pos) (KP r t):=by
 intro U s σ H Q I h;refine AW (fb I hg hm hv ?_ hn ej);exact Bc (aR (ha pos U s σ H _ I h) λus s1 ⟨vs,H1,I1,r1,q1⟩=>hc U s1 σ H1 vs us Q I1 r1 q1) he bH
end
end L2
namespace HT
open PySem PyProof.Rows
section
variable{s:ci}
def vT{t:ce}{vs ws:O bn}(ht:IsTup s.heap t vs.toArray)(hb:IsTup s.heap b ws.toArray)(hv:vs≠[])
  (h1:ws=[]->Q (.ref t) s) (h2:ws≠[]->Q (.ref s.heap.objs.size) {s with heap:=s.heap.push {cls:=.type "tuple",data:=.seq (vs++ws).toArray}})
  (pZ:vs.length+ws.length<=sizeLine):db (em prog w) A (nl .Add (.ref t) (.ref b)) Q E s:=by
 obtain⟨⟨cls,dd,data,sl⟩,ho,hc,n,hd⟩:=id ht;obtain⟨⟨Ko,HC,data2,GD⟩,yB,G5,n2,Ý⟩:=id hb;simp only at hc hd G5 Ý;subst hc hd G5 Ý;have e:vs.toArray++ws.toArray=(vs++ws).toArray:=by simp
 by_cases hw:ws=[]
 ·exact concat_meets ⟨_,ho,rfl⟩ ⟨_,yB,rfl⟩ noFill_tuple_add seq_tuple_add Cs Cm (Ce _ _)
   (tuple_addW1 t b vs.toArray ws.toArray n n2 dd HC sl GD (by simpa using hv) (by simp[hw])) ⟨ho,yB,h1 hw⟩
 ·refine concat_meets ⟨_,ho,rfl⟩ ⟨_,yB,rfl⟩ noFill_tuple_add seq_tuple_add Cs Cm (Ce _ _)
   (tuple_addW2 t b vs.toArray ws.toArray n n2 dd HC sl GD (by simpa using hv) (by simpa using hw) (by rw[Af,Af];exact pZ)) ⟨ho,yB,?_⟩
  rw[e];exact h2 hw
def jA(n d:Nat):Option Int->Nat
 | none=>d
 | some v=>if v < 0 then (v+(n:Int)).toNat else min v.toNat n
theorem qQ(n d:Nat):jA n d be=d:=rfl
theorem uE(n d k:Nat):jA n d (al (k:Int))=min k n:=by
 show(if k < 0 then ((k:Int)+n).toNat else min (k:Int).toNat n)=min k n;rw[if_neg ∅,Di]
end
end HT
variable{p2:B7}
namespace L2
abbrev TO:=St->Hp->(Option Int->Hp->Prop)->Prop
def PO(X:Cx)(e:Option gl)(t:TO):Prop:=
 ∀(U:O (ce×Obj)) (s:ci) (σ:St) (H:Hp) (Q:Option Int->Hp->Prop),Inv X U σ H s->t σ H Q->
  db (em X.prog X.w) X.A (evalPart e X.env) (λu s'=>∃o H',Inv X U σ H' s'/\IsPart u o/\Q o H') X.xe s
def uw:TO:=λ_ H Q=>Q be H
def z9(t:TE):TO:=λσ H Q=>t σ H λx H1=>∃i,x=.int i/\Q (al i) H1
section
variable{lo hi:Option gl}{tl th:TO}
def uL:PO X be uw:=by
 intro U s σ H Q I h;exact Am ⟨be,H,I,.none,h⟩
def uK(h:PE X e te):PO X (al e) (z9 te):=by
 intro U s σ H Q I hw;refine aR (h U s σ H _ I hw) λu s1 ⟨x,H1,I1,r1,q1⟩=>?_;obtain⟨i,rfl,q⟩:=q1;obtain⟨t,rfl⟩:=r1;exact⟨al i,H1,I1,.int i t,q⟩
def za(X:Cx)(r:V->Option Int->Option Int->Hp->VK->Prop):Prop:=
 ∀(U:O (ce×Obj)) (s:ci) (σ:St) (H:Hp) (x:V) (v vl vu:bn) (lo hi:Option Int) (sl:ce) (Q:VK),Inv X U σ H s->RelV x v->s.heap.IsSliceOf sl vl vu .none->IsPart vl lo->IsPart vu hi->r x lo hi H Q->
  ∃T id,typeLookup (.type T) "__getitem__"=pure (al (.builtin id))/\s.TypeIs v T/\db (em X.prog X.w) X.A (getItem v (.ref sl)) (EP X U σ Q) X.xe s
def Md(r:V->Option Int->Option Int->Hp->VK->Prop)(te:TE)(tl th:TO):TE:=λσ H Q=>te σ H λx H1=>tl σ H1 λl H2=>th σ H2 λu H3=>r x l u H3 Q
def rq{r:V->Option Int->Option Int->Hp->VK->Prop}(hr:za X r)(he:PE X e te)(hl:PO X lo tl)(hu:PO X hi th):PE X (.Subscript e (.Slice lo hi be p2) pos) (Md r te tl th):=by
 intro U s σ H Q I h;refine Subscript_ (aR (he U s σ H _ I h) λv s1 ⟨x,H1,I1,r1,q1⟩=>?_);refine wpAny_Slice (aR (hl U s1 σ H1 _ I1 q1) λvl s2 ⟨l,H2,I2,pl,q2⟩=>aR (hu U s2 σ H2 _ I2 q2) λvu s3 ⟨u,H3,I3,pu,q3⟩=>?_);rw[evalPart_none];refine Am ?_;have I4:Inv X U σ H3 {s3 with heap:=s3.heap.push {cls:=.type "slice",data:=.fields #[vl,vu,.none]}}:=I3.kept (t':=s3.toks) λb ob q=>Ae _ q;obtain⟨T,id,hT,ht,hg⟩:=hr U {s3 with heap:=s3.heap.push {cls:=.type "slice",data:=.fields #[vl,vu,.none]}} σ H3 x v vl vu l u s3.heap.objs.size Q I4 r1 (Heap.IsSliceOf.new ..) pl pu q3;show db (em X.prog X.w) X.A (subscriptTail e (.Slice lo hi be p2) v (.ref s3.heap.objs.size)) (EP X U σ Q) X.xe {s3 with heap:=s3.heap.push {cls:=.type "slice",data:=.fields #[vl,vu,.none]}};exact tail_any (ops:=[.ref s3.heap.objs.size,v]) ht hT hg (by with_unfolding_all rfl)
def qf(xs:O V)(lo hi:Option Int):O V:=(xs.drop (HT.jA xs.length 0 lo)).take (HT.jA xs.length xs.length hi-HT.jA xs.length 0 lo)
theorem mf(xs:O V)(lo hi:Option Int):(qf xs lo hi).length<=xs.length:=by
 unfold qf;rw[Bj,B9];omega
def wD(K:Aa):R2:=λx y H Q=>∃a b xs ys,x=.ref a/\y=.ref b/\cf K H a xs/\cf K H b ys/\xs≠[]/\xs.length+ys.length<=sizeLine/\
 (ys=[]->Q (.ref a) H)/\(ys≠[]->∀p,H p=be->Q (.ref p) (upd H p (.tup (xs++ys))))
def Vals.dr(r:Vals xs us):us=[]↔xs=[]:=by
 cases r with
 | nil=>simp
 | cons _ _=>simp
def ox:dN X (nl .Add) (wD X.K):=by
 intro U s σ H x y v u Q I rx ry h;obtain⟨a,b,xs,ys,rfl,rfl,ha,hb,hx,hz,q1,q2⟩:=h;cases rx;cases ry;obtain⟨ak,r1,p1,_⟩:=I.tuple ha;obtain⟨bt,r2,p2,_⟩:=I.tuple hb;refine HT.vT p1 p2 (λz=>hx (r1.dr.mp z)) (λz=>⟨.ref a,H,I,rfl,q1 (r2.dr.mp z)⟩) (λz=>?_) (by rw[<- r1.length,<- r2.length];exact hz);refine⟨.ref s.heap.objs.size,_,I.laid (λb ob q=>Ae _ q) (Aj _) ?_,rfl,q2 (λw=>z (r2.dr.mpr w)) _ (I.aP.fresh (Aj _))⟩;exact⟨by rw[Ad];exact hz,_,r1.append r2,IsTup.new _ _⟩
end
end L2
variable{its':O A6}
namespace L2
def lM(n:Nat)(i:Int):Option Nat:=if 0<=i then (if i < n then al i.toNat else be) else if -(n:Int)<=i then al (i+n).toNat else be
def cG(xs:List α)(i:Int):Option α:=(lM xs.length i).bind λj=>xs[j]?
theorem oG(h:lM n i=al j):seqIndex? i n=al j/\j < n/\-(n:Int)<=i/\i < n:=by
 unfold lM at h;by_cases h0:0<=i
 ·rw[if_pos h0]at h;by_cases h1:i < n
  ·rw[if_pos h1]at h;have e:=Option.some.inj h;exact⟨by rw[seqIndex_of h0 h1,e],by omega,by omega,h1⟩
  ·rw[if_neg h1]at h;cases h
 ·rw[if_neg h0]at h;by_cases h1:-n<=i
  ·rw[if_pos h1]at h;have e:=Option.some.inj h;exact⟨by rw[seqIndex_neg ∅ h1,e],by omega,h1,by omega⟩
  ·rw[if_neg h1]at h;cases h
def kJ{xs:List α}{v:α}(h:cG xs i=al v):∃j,seqIndex? i xs.length=al j/\xs[j]?=al v/\j < xs.length/\-(xs.length:Int)<=i/\i < xs.length:=by
 unfold cG at h;cases e:lM xs.length i with
 | none=>rw[e]at h;cases h
 | some j=>
  rw[e]at h;obtain⟨h1,h2,h3,h4⟩:=oG e;exact⟨j,h1,h,h2,h3,h4⟩
theorem kH{xs:List α}{v:α}(h:xs[j]?=al v):cG xs (j:Int)=al v:=by
 have hj:=(Ag.mp h).1;have e:lM xs.length j=al j:=by
  unfold lM;rw[if_pos ∅,if_pos ∅];simp
 unfold cG;rw[e];exact h
theorem i6(xs:List α)(v:α):cG (xs++[v]) (-1)=al v:=by
 have hl:(xs++[v]).length=xs.length+1:=by simp
 have e:lM (xs++[v]).length (-1)=al xs.length:=by
  unfold lM;rw[hl,if_neg ⋯,if_pos ∅];congr 1;omega
 unfold cG;rw[e];simp
def kO(b:gl):Prop:=∀o i,subscripted b false o i=operate [o,i] (getItem o i)
def ud(X:Cx)(r:R2):Prop:=
 ∀(Ã Ç:gl) (U:O (ce×Obj)) (s:ci) (σ:St) (H:Hp) (x y:V) (v u:bn) (Q:VK),Inv X U σ H s->RelV x v->RelV y u->r x y H Q->
  subscripted Ç false v u=operate [v,u] (getItem v u)->db (em X.prog X.w) X.A (subscriptTail Ã Ç v u) (EP X U σ Q) X.xe s
def HI(X:Cx)(id:String)(r:V->O V->Hp->VK->Prop):Prop:=
 ∀(U:O (ce×Obj)) (s:ci) (σ:St) (H:Hp) (x:V) (xs:O V) (v:bn) (us:O bn) (Q:VK),Inv X U σ H s->RelV x v->Vals xs us->r x xs H Q->
  db (em X.prog X.w) X.A (call (.builtin id) (v::us)) (EP X U σ Q) X.xe s
section
variable{X:Cx}{a b:gl}{ta tb:TE}{pos:Pos}
def ud.or{r r':R2}(h:ud X r)(h':ud X r'):ud X (λx y H Q=>r x y H Q\/r' x y H Q):=by
 intro Ã Ç U s σ H x y v u Q I rx ry q hs;rcases q with q | q
 ·exact h Ã Ç U s σ H x y v u Q I rx ry q hs
 ·exact h' Ã Ç U s σ H x y v u Q I rx ry q hs
def dZ{r:R2}(hr:ud X r)(ha:PE X a ta)(hb:PE X b tb)(hs:kO b):PE X (.Subscript a b pos) (zh r ta tb):=by
 intro U s σ H Q I h;exact Subscript_ (yZ ha hb I h λv u s2 x y H2 I2 rx ry q=>hr a b U s2 σ H2 x y v u Q I2 rx ry q (hs _ _))
def EH(K:Aa):R2:=λx y H Q=>∃p xs i v,x=.ref p/\y=.int i/\bO K H p xs/\cG xs i=al v/\Q v H
def EG(K:Aa):R2:=λx y H Q=>∃p xs i v,x=.ref p/\y=.int i/\cf K H p xs/\cG xs i=al v/\Q v H
def xF:R2:=λx y H Q=>∃z i c,x=.str z/\y=.int i/\z.length<=sizeLine/\cG z.cps.toList i=al c/\Q (.str ⟨#[c]⟩) H
theorem vo:ud X (EH X.K):=by
 intro Ã Ç U s σ H x y v u Q I rx ry h hs;obtain⟨p,xs,i,z,rfl,rfl,hq,he,q⟩:=h;cases rx;obtain⟨t,rfl⟩:=ry;obtain⟨ak,r,pl,hz⟩:=I.list hq;obtain⟨j,h1,h2,h3,h4,h5⟩:=kJ he;obtain⟨w,ew,oi⟩:=r.get h2;have hl:=r.length;have hn:=kf;have fin:EP X U σ Q w s:=⟨z,H,I,oi,q⟩;by_cases h0:0<=i
 ·have hj:i.toNat=j:=by
   rw[seqIndex_of h0 h5]at h1;exact Option.some.inj h1
  exact item_listR pl.isList h0 ∅ (by rw[hj];simpa using ew) fin hs
 ·have hj:(i+ak.toArray.size).toNat=j:=by
   rw[seqIndex_neg ∅ h4]at h1;rw[Af,<- hl];exact Option.some.inj h1
  exact subscriptTail_builtinR pl.isList.typeIs slot_list_getitem.lookup
   (wpAny_getItem_list_neg pl.isList ∅ (by rw[Af] <;> omega) ∅ (by rw[hj];simpa using ew) ⟨rfl,fin⟩) hs
theorem yw:ud X (EG X.K):=by
 intro Ã Ç U s σ H x y v u Q I rx ry h hs;obtain⟨p,xs,i,z,rfl,rfl,hq,he,q⟩:=h;cases rx;obtain⟨t,rfl⟩:=ry;obtain⟨ak,r,pl,hz⟩:=I.tuple hq;obtain⟨j,h1,h2,h3,h4,h5⟩:=kJ he;obtain⟨w,ew,oi⟩:=r.get h2;have hn:=kf;have fin:EP X U σ Q w s:=⟨z,H,I,oi,q⟩;exact subscriptTail_builtinR pl.typeIs slot_tuple_getitem.lookup
  (getItem_tuple pl ∅ ∅ (by rw[Af,<- r.length];exact h1) (by simpa using ew) ⟨rfl,fin⟩) hs
theorem sE:ud X xF:=by
 intro Ã Ç U s σ H x y v u Q I rx ry h hs;obtain⟨z,i,c,rfl,rfl,hz,he,q⟩:=h;obtain⟨t,rfl⟩:=rx;obtain⟨t',rfl⟩:=ry;obtain⟨j,h1,h2,h3,h4,h5⟩:=kJ he;have hl:z.cps.toList.length=z.length:=by simp[Cz]
 rw[hl]at h1 h4 h5;have hn:=kf;exact tail_any (typeIs_str s z t) slot_str_getitem.lookup (getItem_str (by
  rw[(decide_eq_false ∅),(decide_eq_false ∅),Bool.or_false]) (by rw[h1];simpa using h2) ⟨.str ⟨#[c]⟩,H,I.tok _,⟨_,rfl⟩,q⟩) hs
def KW(K:Aa):R2:=λx y H Q=>EH K x y H Q\/EG K x y H Q\/xF x y H Q
def yx:ud X (KW X.K):=vo.or (yw.or sE)
def ng(ak:O bn)(n j:Nat)(u:bn):BU (·.setIfInBounds j u) {cls:=.type "list",data:=.seq ak.toArray n}={cls:=.type "list",data:=.seq (ak.set j u).toArray n}:=by
 simp[BU]
def Inv.lst{U:O (ce×Obj)}{σ:St}{H:Hp}{s:ci}{p:ce}{xs:O V}(I:Inv X U σ H s)(h:H p=al (.lst xs)) :
  ∃(ak:O bn) (n:Nat),Vals xs ak/\s.heap.get? p=al {cls:=.type "list",data:=.seq ak.toArray n}/\xs.length<=sizeLine:=by
 obtain⟨z,ak,n,r,e⟩:=I.aP p _ h;exact⟨ak,n,r,e,z⟩
def Inv.yi{s:ci}{p:ce}{n':Nat}{f:Obj->Obj}(I:Inv X U σ H s)(h:H p=al (.lst xs))
  (ho:s.heap.get? p=al {cls:=.type "list",data:=.seq ak.toArray n}) (hf:f {cls:=.type "list",data:=.seq ak.toArray n}={cls:=.type "list",data:=.seq its'.toArray n'}) (r:Vals ys its') (hz:ys.length<=sizeLine) (t:Nat) :
  Inv X U σ (upd H p (.lst ys)) {s with heap:=s.heap.update p f,toks:=t}:=by
 have e:(s.heap.update p f).get? p=al {cls:=.type "list",data:=.seq its'.toArray n'}:=by
  rw[Cy f ho (by rw[hf] <;> rfl),hf]
 refine I.write (x:=p) (e:=p) (by rw[h];trivial) (.inl rfl) (λb u hb q=>(Cr _ _ (Cg hb)).trans q) ⟨_,e⟩ ?_;exact⟨hz,its',n',r,e⟩
def ED:V->V->V->Hp->(Hp->Prop)->Prop:=λo i v H Q=>∃p xs k j,o=.ref p/\i=.int k/\H p=al (.lst xs)/\lM xs.length k=al j/\Q (upd H p (.lst (xs.set j v)))
theorem set_list:qp X ED:=by
 intro U s σ H o i v ov iv u Q I ro ri rv h;obtain⟨p,xs,k,j,rfl,rfl,hp,hj,q⟩:=h;cases ro;obtain⟨t,rfl⟩:=ri;obtain⟨ak,n,r,ho,hz⟩:=I.lst hp;obtain⟨h1,h2,h3,h4⟩:=oG hj;have hl:=r.length;have hn:=kf;have I':=
  I.yi hp ho (ng ak n j u) (r.set rv j) (by rw[DJ];exact hz) s.toks
 by_cases h0:0<=k
 ·have hk:k.toNat=j:=by
   rw[seqIndex_of h0 h4]at h1;exact Option.some.inj h1
  exact PySem.W.ki_setAt ho h0 ∅ (by rw[Af,<- hl];exact h4) (by rw[hk];exact⟨_,I',q⟩)
 ·have hk:(k+ak.toArray.size).toNat=j:=by
   rw[seqIndex_neg ∅ h3]at h1;rw[Af,<- hl];exact Option.some.inj h1
  exact PySem.W.ki_setBack ho ∅ (by rw[Af,<- hl];exact h3) ∅ (by rw[hk];exact⟨_,I',q⟩)
theorem jW(lo hi:Option Int)(n:Nat):(pc lo hi be n).1=((HT.jA n 0 lo:Nat):Int)/\(pc lo hi be n).2.1=((HT.jA n n hi:Nat):Int)/\(pc lo hi be n).2.2=1:=by
 refine⟨?_,?_,rfl⟩
 ·cases lo with
  | none=>simp[pc,HT.jA]
  | some i=>
   simp only[pc,HT.jA,Dn];by_cases h:i < 0
   ·simp only[h,if_true] <;> omega
   ·simp only[h,if_false] <;> omega
 ·cases hi with
  | none=>simp[pc,HT.jA]
  | some i=>
   simp only[pc,HT.jA,Dn,if_true];by_cases h:i < 0
   ·simp only[h,if_true] <;> omega
   ·simp only[h,if_false] <;> omega
def jd(ak:O bn)(lo hi:Option Int):slicePick ak.toArray lo hi be=((ak.drop (HT.jA ak.length 0 lo)).take (HT.jA ak.length ak.length hi-HT.jA ak.length 0 lo)).toArray:=by
 obtain⟨h1,h2,h3⟩:=jW lo hi ak.toArray.size;unfold slicePick;rw[h1,h2,h3];simp only[sliceRange_one,pick_run] <;> rfl
def Iz(K:Aa):V->Option Int->Option Int->Hp->VK->Prop:=λx lo hi H Q=>∃a xs,x=.ref a/\bO K H a xs/\∀p,H p=be->Q (.ref p) (upd H p (.lst (qf xs lo hi)))
theorem uC:za X (Iz X.K):=by
 intro U s σ H x v vl vu lo hi sl Q I rx hs pl pu h;obtain⟨a,xs,rfl,hx,q⟩:=h;cases rx;obtain⟨ak,r,ht,hz⟩:=I.list hx;have Â:=r.length;refine⟨"list",_,slot_list_getitem.lookup,ht.isList.typeIs,?_⟩;refine wpAny_getItem_list_slice ht.isList hs pl pu .none (by simp) ?_ (by rw[Af] <;> omega);rw[jd,<- Â];refine⟨.ref s.heap.objs.size,_,I.laid (λb ob q=>Ae _ q) (Aj _) ?_,rfl,q _ (I.aP.fresh (Aj _))⟩;exact⟨AX (mf xs lo hi) hz,_,0,(r.drop (HT.jA xs.length 0 lo)).take (HT.jA xs.length xs.length hi-HT.jA xs.length 0 lo),An _ rfl⟩
theorem kE:a8 X (.type "list") (λxs H Q=>∃p ys,xs=[.ref p]/\(bO X.K H p ys\/cf X.K H p ys)/\∀l,H l=be->Q (.ref l) (upd H l (.lst ys))):=by
 intro U s σ H xs us Q I r h;obtain⟨p,ys,rfl,hq,q⟩:=h;obtain⟨u,rfl,rx⟩:=vals1 r;cases rx;have fin:∀ak,Vals ys ak->ys.length<=sizeLine->∀(h':gt) c',(∀b o',s.heap.get? b=al o'->h'.get? b=al o')->
   h'.get? s.heap.objs.size=al {cls:=.type "list",dict:=be,data:=.seq ak.toArray c',slots:=#[]}->EP X U σ Q (.ref s.heap.objs.size) {s with heap:=h'}:=λak r' hz h' c' kp e=>
  ⟨.ref s.heap.objs.size,_,I.laid (t':=s.toks) kp (Aj _) (show bq X.prog X.w _ h' _ (.lst ys) from⟨hz,ak,c',r',e⟩),rfl,q _ (I.aP.fresh (Aj _))⟩
 rcases hq with hq | hq
 ·obtain⟨ak,r',pl,hz⟩:=I.list hq;have Â:=r'.length;obtain⟨o,ho,hc,n,hd⟩:=pl.isList;exact call_list_seq p (.inl rfl) ho hc hd (λh' c' kp e=>fin ak r' hz h' c' kp e) (by simp only[Af] <;> omega)
 ·obtain⟨ak,r',pl,hz⟩:=I.tuple hq;have Â:=r'.length;obtain⟨o,ho,hc,n,hd⟩:=pl;exact call_list_seq p (.inr rfl) ho hc hd (λh' c' kp e=>fin ak r' hz h' c' kp e) (by simp only[Af] <;> omega)
theorem js:a8 X (.type "tuple") (λxs H Q=>∃p ys,xs=[.ref p]/\((bO X.K H p ys/\∀l,H l=be->Q (.ref l) (upd H l (.tup ys)))\/(cf X.K H p ys/\Q (.ref p) H))):=by
 intro U s σ H xs us Q I r h;obtain⟨p,ys,rfl,h⟩:=h;obtain⟨u,rfl,rx⟩:=vals1 r;cases rx;rcases h with⟨hq,q⟩ | ⟨hq,q⟩
 ·obtain⟨ak,r',pl,hz⟩:=I.list hq;have Â:=r'.length;refine call_tuple_list pl.isList (λh' kp=>?_) (by simp <;> omega);have I1:=I.kept (t':=s.toks) kp;have I2:=
   I1.laid (t':=s.toks) (λb o e=>Ae _ e) (Aj _) (show bq X.prog X.w _ _ _ (.tup ys) from⟨hz,ak,r',IsTup.new _ _⟩)
  exact⟨.ref h'.objs.size,_,I2,rfl,q _ (I1.aP.fresh (Aj _))⟩
 ·obtain⟨ak,r',pl,hz⟩:=I.tuple hq;exact call_tuple_same pl ⟨.ref p,H,I,rfl,q⟩
def Gz(K:Aa)(T:String)(x:V)(H:Hp):Prop:=match x with
 | .str _=>T="str"
 | .int _=>T="int"
 | .ref p=>(T="list"/\∃xs,bO K H p xs)\/(T="tuple"/\∃o,K.lookup p=al o/\o.cls=.type "tuple"/\o.dict=be)\/
   (T="dict"/\((∃aM,H p=al (.dK aM))\/∃aM,H p=al (.dT aM)))\/(T="set"/\∃S n,H p=al (.set S n))
 | _=>False
def qB{s:ci}{x:V}(I:Inv X U σ H s)(r:RelV x v)(ty:Gz X.K T x H) :
  s.TypeIs v T/\∀a,v=.ref a->∃ob,s.heap.get? a=al ob/\ob.dict=be:=by
 cases x with
 | str z=>
  obtain⟨t,rfl⟩:=r;cases (ty);exact⟨typeIs_str s z t,λ_ e=>nomatch e⟩
 | int i=>
  obtain⟨t,rfl⟩:=r;cases (ty);exact⟨typeIs_int s i t,λ_ e=>nomatch e⟩
 | ref p=>
  cases r;rcases ty with⟨rfl,xs,hq⟩ | ⟨rfl,o,hk,hc,hd⟩ | ⟨rfl,hk⟩ | ⟨rfl,S,n,hk⟩
  ·obtain⟨ak,_,pl,_⟩:=I.list hq;refine⟨pl.isList.typeIs,λa e=>?_⟩;cases e;obtain⟨o,n,e,c,hd,_⟩:=pl;exact⟨o,e,hd⟩
  ·refine⟨⟨o,I.eN p o hk,hc⟩,λa e=>?_⟩;cases e;exact⟨o,I.eN _ o hk,hd⟩
  ·have z:∃o,s.heap.get? p=al o/\o.ExactDict:=by
    rcases hk with⟨aM,hk⟩ | ⟨aM,hk⟩
    ·obtain⟨_,_,_,_,o,_,_,e,ex,_⟩:=I.aP p _ hk;exact⟨o,e,ex⟩
    ·obtain⟨_,_,_,_,o,_,_,e,ex,_⟩:=I.aP p _ hk;exact⟨o,e,ex⟩
   obtain⟨o,e,ex⟩:=z;refine⟨⟨o,e,ex.1⟩,λa e2=>?_⟩;cases e2;exact⟨o,e,ex.2.1⟩
  ·obtain⟨o,_,_,_,e,ex,_⟩:=I.aP p _ hk;refine⟨⟨o,e,ex.1⟩,λa e2=>?_⟩;cases e2;exact⟨o,e,ex.2.1⟩
 | _=>exact AJ ty
def Et(K:Aa)(T:String)(r:V->O V->Hp->VK->Prop)(to:TE):TE:=λσ H Q=>to σ H λx H1=>Gz K T x H1/\r x [] H1 Q
def KQ(K:Aa)(T:String)(r:V->O V->Hp->VK->Prop)(to:TE)(t:TA):TE:=λσ H Q=>to σ H λx H1=>Gz K T x H1/\t σ H1 λxs H2=>r x xs H2 Q
variable{o e:gl}{es:O gl}{to:TE}{t:TA}{name:Str}{À bo:Pos}{T id:String}{r:V->O V->Hp->VK->Prop}
def xQ(pa:PlainAttrs T)(slot:Slot T name id)(yz:typeOf (.builtin id)=pure (.type "method_descriptor"))(hm:HI X id r)(ho:PE X o to)
  (cC:lc o name X.env (ii o X.env)=ii o X.env:=by rfl) (cB:xl À bo:=by rfl):PE X (.Call (.Attribute o name À) [] [] bo) (Et X.K T r to):=by
 intro U s σ H Q I h;refine wpAny_Call_method0_late cC cB (aR (ho U s σ H _ I h) λv s1 ⟨x,H1,I1,r1,ty,q1⟩=>?_);obtain⟨h1,h2⟩:=qB I1 r1 ty;exact⟨T,id,pa,slot,yz,h1,h2,Dw rfl (PySem.evalArgs_none (hm U s1 σ H1 x [] v [] Q I1 r1 .nil q1))⟩
def ET(pa:PlainAttrs T)(slot:Slot T name id)(yz:typeOf (.builtin id)=pure (.type "method_descriptor"))(hm:HI X id r)(ho:PE X o to)(ha:PA X (e::es) t)
  (cC:lc o name X.env (ii o X.env)=ii o X.env:=by rfl)
  (ko:Gs X bo (e::es):=by rfl)
  (cB:xl À bo:=by rfl) (hs:c6 X e es:=by rfl) (dB:eR X bo es:=by rfl) :
  PE X (.Call (.Attribute o name À) (e::es) [] bo) (KQ X.K T r to t):=by
 intro U s σ H Q I h;refine wpAny_Call_method_late cC ko cB rfl (aR (ho U s σ H _ I h) λv s1 ⟨x,H1,I1,r1,ty,q1⟩=>?_);obtain⟨h1,h2⟩:=qB I1 r1 ty;refine⟨T,id,pa,slot,yz,h1,h2,?_⟩;have hA:=ha bo U s1 σ H1 _ I1 q1;rw[hs]at hA ⊢;exact Dw (by show(false||(wE bo (f8 es X.env)).any (·.1))=false;rw[dB] <;> rfl) (Calls.evalArgs_plain (aR hA λus s2 ⟨vs,H2,I2,r2,q2⟩=>hm U s2 σ H2 x vs v us Q I2 r1 r2 q2))
end
end L2
variable{a:Nat}{l:AR}
namespace L2
def qz(X:Cx)(id:String)(r:V->O V->Hp->VK->Prop):Prop:=
 ∀(U:O (ce×Obj)) (s:ci) (σ:St) (H:Hp) (x:V) (xs:O V) (v:bn) (us:O bn) (Q:VK),Inv X U σ H s->RelV x v->Vals xs us->r x xs H Q->
  db (em X.prog X.w) X.A (call (.builtin id) (v::us)) (EP X U σ Q) X.xe s
def Vals.one:∀{x:V}{us:O bn},Vals [x] us->∃u,us=[u]/\RelV x u
 | _,_,.cons r .nil=>⟨_,rfl,r⟩
def Vals.zero:∀{us:O bn},Vals [] us->us=[]
 | _,.nil=>rfl
def Vals.dropLast(h:Vals xs us):Vals xs.dropLast us.dropLast:=by
 induction h with
 | nil=>exact .nil
 | cons r t ih=>
  cases t with
  | nil=>exact .nil
  | cons q t'=>exact .cons r ih
theorem nG(l:List α):l.eraseIdx (l.length-1)=l.dropLast:=by
 induction l with
 | nil=>rfl
 | cons a r ih=>
  cases r with
  | nil=>rfl
  | cons b r=>
   have e:(a::b::r).length-1=((b::r).length-1)+1:=by
    have h1:(a::b::r).length=r.length+2:=rfl;have h2:(b::r).length=r.length+1:=rfl;omega
   rw[e,List.eraseIdx_cons_succ,ih]
   all_goals rfl
section
variable{s:ci}
def Inv.pP{f:Array bn->Array bn}{t':Nat}(I:Inv X U σ H s)(hH:H l=al (.lst xs))
  (e:s.heap.get? l=al {cls:=.type "list",data:=.seq ak.toArray n}) (hf:f ak.toArray=its'.toArray) (hv:Vals ys its') (hz:ys.length<=sizeLine) :
  Inv X U σ (upd H l (.lst ys)) {s with heap:=s.heap.update l (BU f),toks:=t'}:=by
 have q:=PySem.IsL.update e f;rw[hf]at q;refine I.write (by rw[hH];exact trivial) (.inl rfl) (λb' u hb hu=>(Cr s.heap (BU f) (Cg hb)).trans hu) ⟨_,q⟩ ?_;exact⟨hz,its',_,hv,q⟩
def Inv.IW{t':Nat}(I:Inv X U σ H s)(hv:Vals ys ak)(hz:ys.length<=sizeLine) :
  Inv X U σ (upd H s.heap.objs.size (.lst ys)) {s with heap:=s.heap.push {cls:=.type "list",data:=.seq ak.toArray},toks:=t'}:=
 I.laid (λ_ _ q=>Ae _ q) (Aj _) ⟨hz,ak,0,hv,An _ rfl⟩
def Inv.fresh(I:Inv X U σ H s):H s.heap.objs.size=be:=I.aP.fresh (Aj _)
def Inv.gT(I:Inv X U σ H s)(hH:H l=al (.lst xs)):xs.length<=sizeLine/\∃(ak:O bn) (n:Nat),Vals xs ak/\xs.length=ak.length/\s.heap.get? l=al {cls:=.type "list",data:=.seq ak.toArray n}:=by
 obtain⟨z,ak,n,r,e⟩:=I.aP l _ hH;exact⟨z,ak,n,r,r.length,e⟩
theorem d8(h:n<=sizeLine):Builtin.List.listTooLong n=false:=by
 exact decide_eq_false ∅
end
section
def uJ:V->O V->Hp->VK->Prop:=λx vs H Q=>∃l xs y,x=.ref l/\vs=[y]/\H l=al (.lst xs)/\xs.length < sizeLine/\Q .aL (upd H l (.lst (xs++[y])))
theorem pO:qz X "list.append" uJ:=by
 intro U s σ H x vs v us Q I rx rv h;obtain⟨l,xs,y,rfl,rfl,hH,hz,q⟩:=h;cases rx;obtain⟨u,rfl,ru⟩:=rv.one;obtain⟨z,ak,n,r,hl,e⟩:=I.gT hH;refine xz F.slot_list_append ⟨_,e,rfl⟩ F.entry_list_append (F.args_list_append_2 _ _) (PySem.list_append l ak.toArray n u (by rw[Af];omega)) ⟨e,?_⟩;refine⟨.aL,_,I.pP hH e (by simp) (r.append (.cons ru .nil)) ?_,rfl,q⟩;rw[Ad,Bh];omega
def uH:V->O V->Hp->VK->Prop:=λx vs H Q=>∃l b xs zs,x=.ref l/\vs=[.ref b]/\H l=al (.lst xs)/\H b=al (.lst zs)/\xs.length+zs.length<=sizeLine/\Q .aL (upd H l (.lst (xs++zs)))
theorem zo:qz X "list.extend" uH:=by
 intro U s σ H x vs v us Q I rx rv h;obtain⟨l,b,xs,zs,rfl,rfl,hH,hB,hz,q⟩:=h;cases rx;obtain⟨u,rfl,ru⟩:=rv.one;cases ru;obtain⟨z,ak,n,r,hl,e⟩:=I.gT hH;obtain⟨z2,bt,n2,r2,yD,e2⟩:=I.gT hB;have pZ:ak.toArray.size+bt.toArray.size<=sizeLine:=by rw[Af,Af];omega
 have lP:¬(!ak.toArray.isEmpty&&Builtin.List.listTooLong (ak.toArray.size+bt.toArray.size))=true:=by
  rw[d8 pZ,C7];exact Az
 refine xz C2 ⟨_,e,rfl⟩ CU (CB _ _)
  (AutoSeq1.list_extend_list_list_0 l ak.toArray n b bt.toArray n2 lP (by rw[Af];omega) ∅) ⟨e,e2,?_⟩
 refine⟨.aL,_,I.pP hH e (by simp) (r.append r2) ?_,rfl,q⟩;rw[Ad];omega
def IA:V->O V->Hp->VK->Prop:=λx vs H Q=>∃l xs y,x=.ref l/\vs=[]/\H l=al (.lst xs)/\xs[xs.length-1]?=al y/\Q y (upd H l (.lst xs.dropLast))
theorem yg:qz X "list.pop" IA:=by
 intro U s σ H x vs v us Q I rx rv h;obtain⟨l,xs,y,rfl,rfl,hH,hy,q⟩:=h;cases rx;have Nc:=rv.zero;subst Nc;obtain⟨z,ak,n,r,hl,e⟩:=I.gT hH;obtain⟨u,hu,ru⟩:=r.get hy;have Na:ak.toArray[ak.toArray.size-1]?=al u:=by
  show ak.toArray[ak.length-1]?=al u;rw[<- Array.getElem?_toList,<- hl];exact hu
 refine xz F.slot_list_pop ⟨_,e,rfl⟩ F.entry_list_pop (F.args_list_pop_1 _) (MeetsSeq.list_pop_last l ak.toArray n u Na (by rw[Af];omega)) ⟨e,?_⟩;refine⟨y,_,I.pP hH e ?_ r.dropLast ?_,ru,q⟩
 ·rw[Af,List.eraseIdxIfInBounds_toArray,nG]
 ·rw[List.length_dropLast];omega
def IC:R2:=λx y H Q=>∃l b xs zs,x=.ref l/\y=.ref b/\H l=al (.lst xs)/\H b=al (.lst zs)/\xs.length+zs.length<=sizeLine/\∀p,H p=be->Q (.ref p) (upd H p (.lst (xs++zs)))
theorem xV:dN X (nl .Add) IC:=by
 intro U s σ H x y v u Q I rx ry h;obtain⟨l,b,xs,zs,rfl,rfl,hH,hB,hz,q⟩:=h;cases rx;cases ry;obtain⟨z,ak,n,r,hl,e⟩:=I.gT hH;obtain⟨z2,bt,n2,r2,yD,e2⟩:=I.gT hB;refine PySem.P.add_list e e2 ?_ (by rw[Af,Af];omega);have ea:ak.toArray++bt.toArray=(ak++bt).toArray:=by simp
 rw[ea];exact⟨.ref _,_,I.IW (r.append r2) (by rw[Ad];omega),rfl,q _ I.fresh⟩
end
section
variable{s:ci}
def pq(ak bt:O bn)(a c:Nat):ak.toArray.extract 0 a++bt.toArray++ak.toArray.extract c ak.toArray.size=(ak.take a++bt++ak.drop c).toArray:=by
 apply Array.toList_inj.mp
 first
  | (
    simp;exact Bv (by simp))
  | simp
  | simp
theorem nQ{c:Nat}(zx:a<=c)(hc:c<=n):pc (al (a:Int)) (al (c:Int)) be n=((a:Int),(c:Int),1):=by
 simp only[pc,Dn];have h1:¬(a < 0):=by omega
 congr 1
 ·omega
 ·congr 1;omega
set_option maxRecDepth 100000 in
theorem je{l b sl:ce}{items new:Array bn}{n n2:Nat}{vl vu:bn}{a c:Nat}{Q:Unit->ci->Prop}
  (e:s.heap.get? l=al {cls:=.type "list",data:=.seq items n}) (e2:s.heap.get? b=al {cls:=.type "list",data:=.seq new n2}) (vv:l≠b)
  (hs:s.heap.IsSliceOf sl vl vu .none) (pl:IsPart vl (al (a:Int))) (pu:IsPart vu (al (c:Int))) (zx:a<=c) (hc:c<=items.size)
  (pZ:items.size+new.size<=sizeLine) (h:Q () {s with heap:=s.heap.update l (BU λxs=>xs.extract 0 a++new++xs.extract c xs.size)}) :
  db (em prog w) A (setItem (.ref l) (.ref sl) (.ref b)) Q E s:=by
 have hl:s.heap.IsList l items:=Ef e;have hb:s.heap.IsList b new:=Ef e2;obtain⟨os,G0,ND,JD⟩:=id hs;have Li:s.TypeIs (.ref sl) "slice":=⟨os,G0,ND⟩;have Fx:¬((rawPart be==im 0)=true):=Az;have sG:Builtin.List.listSameRef (.ref l) (.ref b)=false:=by
  unfold Builtin.List.listSameRef;exact beq_eq_false_iff_ne.mpr vv
 have Ju:(max (a:Int) (c:Int)).toNat=c:=by omega
 have Fq:((λxs:Array bn=>xs.extract 0 a++new++xs.extract c xs.size) items).size<=sizeLine+1:=by
  simp only[Array.size_append,Array.size_extract];omega
 unfold setItem
 try with_reducible refine Bk ?_
 first | refine Ab (Am ?_) | skip
 refine Ab (wpAny_sequenceKey hl.typeIs ⋯ ?_);refine Ab (Bp (name:=Du "__setitem__") hl.typeIs slot_list_setitem
  (B8 slot_list_setitem hl.typeIs entry_list_setitem ?_ (args_list_setitem _ _ _)))
 show db _ _ (Builtin.List.listSubscript? (.ref sl) >>= _) _ _ s;refine Ab ?_;unfold Builtin.List.listSubscript?;refine Ab (DH Li slice_no_index ?_);simp only[Option.isNone_none,if_true];refine Am ?_;show db _ _ (typeOf (.ref sl) >>= _) _ _ s;refine Ab (wpAny_typeOf Li ?_)
 first
  | rw[if_neg ⋯]
  | refine PySem.W.KFB.if_not ⋯ ?_
 rw[listSliceParts_eq];refine Ab (Ab (A7 G0 JD (x:=.none) rfl (Ab (DU .none ?_))));rw[if_neg Fx];refine Ab (A7 G0 JD (x:=vl) rfl (Ab (DU pl ?_)));refine Ab (A7 G0 JD (x:=vu) rfl (Ab (DU pu (Am ?_))))
 first
  | simp only[sG,AB,if_false]
  | refine PySem.W.KFB.if_not sG ?_
  | (
    dsimp only;rw[if_neg (by rw[sG];exact Az)])
 refine Ab (m:=Builtin.List.listAllItems (.ref b) "must assign iterable to extended slice") ?_;unfold Builtin.List.listAllItems;refine Ab (wpAny_typeOf hb.typeIs ?_)
 first
  | refine PySem.W.KFB.if_so ⋯ ?_
  | rw[if_pos ⋯]
  | simp only[beq_self_eq_true,Bool.true_or,if_true]
 unfold Builtin.List.listItems;refine Ab (Be e2 rfl (Am ?_));refine Ab (Ab (Be e rfl (Am ?_)));refine Ab (DT ((sliceIndices_raw (al (a:Int)) (al (c:Int)) be items.size (by simp)).trans (congrArg (pure:Int×Int×Int->Sem (Int×Int×Int)) (nQ zx hc))) ?_);show db _ _ (if ((1:Int)==1)=true then _ else _) _ _ s;rw[if_pos ⋯];refine Ab (C5 ?_)
 first
  | simp only[d8 pZ,AB,if_false]
  | refine PySem.W.KFB.if_not (d8 pZ) ?_
 first | refine Ab (Am ?_) | skip
 show db _ _ (updateSeq l (λxs=>xs.extract 0 ((a:Int)).toNat++new++xs.extract (max (a:Int) (c:Int)).toNat xs.size) >>= _) _ _ s;rw[Ju,Di];refine Ab (CM (hz:=AX (BA _ _) pZ) (_hz':=Fq) e rfl ?_);refine Ab (Dh ?_)
 first
  | exact Ab (Am (Am ⟨.none,rfl,Am h⟩))
  | exact Am ⟨.none,rfl,Am h⟩
end
section
theorem pB{s:ci}{sl:ce}{a c:Int}{vl vu:bn}{Q:Unit->ci->Prop}(I:Inv X U σ H s)
  (hH:H l=al (.lst xs)) (hB:H b=al (.lst ys)) (vv:l≠b) (hs:s.heap.IsSliceOf sl vl vu .none) (ra:RelV (.int a) vl) (rc:RelV (.int c) vu) (h0:0<=a) (zx:a<=c) (hc:c<=xs.length)
  (hz:xs.length+ys.length<=sizeLine) (h:∀s',Inv X U σ (upd H l (.lst (xs.take a.toNat++ys++xs.drop c.toNat))) s'->Q () s') :
  db (em X.prog X.w) X.A (setItem (.ref l) (.ref sl) (.ref b)) Q X.xe s:=by
 obtain⟨ta,rfl⟩:=ra;obtain⟨tc,rfl⟩:=rc;obtain⟨z,ak,n,r,hl,e⟩:=I.gT hH;obtain⟨z2,bt,n2,r2,yD,e2⟩:=I.gT hB;obtain⟨a',rfl⟩:=Dr h0;obtain⟨c',rfl⟩:=Dr (Int.le_trans h0 zx);simp only[Di]at h;refine je (a:=a') (c:=c') e e2 vv hs (.int _ _) (.int _ _) ∅ (by rw[Af];omega) (by rw[Af,Af];omega) (h _ ?_);refine I.pP (its':=ak.take a'++bt++ak.drop c') (t':=s.toks) hH e ?_ (Vals.append (Vals.append (r.take _) r2) (r.drop _)) ?_
 ·exact pq ak bt a' c'
 ·rw[Ad,Ad,Bj,B9];omega
end
end L2
variable{aM:O (O L2.Key×L2.V)}
namespace L2
def Fg{k:Key}(r:RelV (kV k) u):(bJ P w).is k u=true:=by
 cases k with
 | inl i=>obtain⟨t,e⟩:=(r);subst e;exact lI P w i t
 | inr x=>obtain⟨t,e⟩:=(r);subst e;exact lH P w x t
theorem jF:∀{ks:O Key}{us:O bn},Vals (ks.map kV) us->ItemsAre (bJ P w) ks us
 | [],_,r=>by rw[Eb]at r;cases r;exact .nil
 | k::ks,_,r=>by
  cases r with
  | cons h t=>exact .cons (Fg h) (jF t)
abbrev KT(H:Hp):O (O Key×V)->O (O Key×ce×bn)->Prop:=Paired λp q=>p.1=q.1/\H q.2.1=al (.tup (p.1.map kV))/\RelV p.2 q.2.2
def KT.keeps{xs:O (O Key×ce×bn)}(r:KT H aM xs)(ht:∀b ys,H b=al (.tup ys)->H' b=al (.tup ys)):KT H' aM xs:=
 Paired.yh r λ_ _ z=>⟨z.1,ht _ _ z.2.1,z.2.2⟩
section
variable{a:ce}
def wy{u:HO}(ok:gj P w H h)(e:Rd H a u):bq P w H h a u:=e.ok ok
def tI{aM:O (Key×V)}(ok:gj P w H h)(e:Rd H a (.dK aM)):aM.length<=sizeLine/\(a==sysModules)=false/\∃vs,KV aM vs/\h.DictOf (bJ P w) a vs:=
 show bq P w H h a (.dK aM) from wy ok e
def yr{ks:O Key}(ok:gj P w H h)(e:H a=al (.tup (ks.map kV))):(tupleKind (bJ P w)).is h ks a:=by
 obtain⟨_,ak,r,o,h1,h2,n,h3⟩:=(show bq P w H h a (.tup (ks.map kV)) from ok a _ e);exact⟨o,ak.toArray,n,h1,h2,h3,by simpa using jF r⟩
def tH(ok:gj P w H h)(e:Rd H a (.dT aM)):aM.length<=sizeLine/\(a==sysModules)=false/\
  ∃xs,KT H aM xs/\h.DictOfH (tupleKind (bJ P w)) a xs:=by
 obtain⟨z,y,xs,r,o,es,ep,h1,h2,h3,h4,h5⟩:=(wy ok e);refine⟨z,y,xs,r,o,es,ep,h1,h2,h3,h4,λx hx=>?_,h5⟩;have all:∀{l:O (O Key×V)}{m:O (O Key×ce×bn)},KT H l m->∀x∈m,(tupleKind (bJ P w)).is h x.1 x.2.1:=by
  intro l m q
  induction q with
  | nil=>intro x hx;exact nomatch hx
  | @cons p q ps qs hq t ih=>
   intro x hx;rcases Ax.mp hx with e | hx
   ·subst e;exact yr ok (by rw[<- hq.1];exact hq.2.1)
   ·exact ih x hx
 exact all r x hx
end
structure M2(X:Cx)(o:gl)(m:Str)(À:Pos)(e f:gl)(bo:Pos):Prop where
 base:lc o m X.env (ii o X.env)=ii o X.env
 few:((wE bo (f8 [e,f] X.env)).all (λx=>!x.1)&&(backToKw bo (keywordEach [] X.env)).all (λx=>x.1.isSome)
  && decide (([e,f]:List gl).length+([]:List Keyword).length+(if ([]:List Keyword).isEmpty then 0 else 1) < 30))=true
 line:(À.endLine==bo.line)=true
 trees:wE bo (f8 [e,f] X.env)=[(false,ii e X.env),(false,ii f X.env)]
def OB(H:Hp)(a:ce):Prop:=(∃aM,Rd H a (.dK aM))\/∃aM,Rd H a (.dT aM)
end L2
variable{Ð:O Bo}{XP:(Bo->Option A6)->Dx->Prop}{YP:PySem.World->Dx->Prop}
namespace Att
open PySem PySem.W PySem.Calls PyProof.Rows
def gW{P:Params}:∀(ns:O Int) (vs:O bn),WellAll P h vs (ns.map WData.int)->IntsAre vs ns:=by
 intro ns
 induction ns with
 | nil=>
  intro vs w;cases w;exact .nil
 | cons n ns ih=>
  intro vs w;cases w with
  | cons a b=>
   cases a;exact .cons _ _ (ih _ b)
theorem pD{l:OpenLaw}(hn:l.most=al n){P:Params}{args:O WData}{Õ:O bn}
  (vt:l.row.toRowW.claim.pre args=true) (Jo:WellAll P h Õ args) :
  ∃a vs ns,Õ=[Aw a]/\args=[WData.list (ns.map WData.int)]/\h.get? a=al {cls:=.type "list",data:=.seq vs.toArray}/\IntsAre vs ns/\ns.length<=n:=by
 have hc:l.pre.holds [] {args:=args}=true:=(pre_splitW vt).2;obtain⟨d,r,rfl,h1,h2⟩:=hasAllW_cons ((pre_splitW vt).1);obtain rfl:=hasAllW_nil h2;obtain⟨xs,rfl,h3⟩:=hasW_list h1;obtain⟨ns,rfl⟩:=items_int h3;have Â:ns.length<=n:=by
  unfold OpenLaw.pre at hc;have h4:(WTm.not (.lt (.lit (.int (n:Int))) (.len (.arg 0)))).holds [] {args:=[.list (ns.map .int)]}=true:=by
   have h4:=(holds_andW hc).1;rw[hn]at h4;exact h4
  have h5:=condW_of h4 (w_not (w_lt w_lit (w_len_list (w_arg rfl))));refine Nat.le_of_not_lt λq=>?_
  first
   | (rw[decide_eq_true q']at h5;exact absurd h5 ⋯)
   | (simp at h5;omega)
 cases Jo with
 | cons w1 w2=>
  cases w2;cases w1 with
  | list ho JM=>exact⟨_,_,ns,rfl,rfl,ho,gW ns _ JM,Â⟩
def pJ(l:OpenLaw)(args:O WData):l.row.toRowW.claim.post args (.bool true) args=true:=
 postW_of
  (show WShape.has [] (.bool true) .bool=true by first | rfl | decide | simp[WShape.has,WShape.arms])
  (w_eq_bool (w_res rfl) w_lit) rfl
def mj{l:OpenLaw}{q:lf}{d:DefRec}
  (hn:l.most=al n) (JE:d.params.defaults=[])
  (call:∀(w:o0) (s₀ s₁:ci) (mg mb:Str->Option bn) (fa:ce) (o:Obj) (pm cd Ä:bn) (a:ce) (vs:O bn) (ns:O Int),
   Ground q Ð [] XP w s₀ mg mb s₁.heap->YP w s₁.heap->
   s₁.heap.get? fa=al o->o.data=.func (docDef d.name d.params d.body d.scope pm cd Ä)->s₁.heap.CodeRec cd d.name->mg d.name=al (.ref fa)->
   s₁.heap.get? a=al {cls:=.type "list",data:=.seq vs.toArray}->IntsAre vs ns->ns.length<=n->s₁.gens=#[]->
   ww (em l.prog w) callerA (.call (.ref fa) ⟨[.ref a],[]⟩) (λr s'=>r=.ok (.ret (.bool true))/\OldK s₁.heap s'.heap/\s'.os=s₁.os/\xL s'.gens) s₁) :
  WalkO q Ð XP YP l.row.toRowW d [] (λf vs=>PySem.call f vs):=by
 intro w s₀ s₁ mg mb G Y fa o pm cd Ä dV kV ho hd ek hD hmg hg args Õ as vt Nt OP Jo OS;obtain rfl:dV=.none:=Dflts.none hD JE;obtain rfl:kV=.none:=Dflts.noKw hD;obtain⟨a,vs,ns,rfl,rfl,yA,Ñ,Â⟩:=pD hn vt Jo;refine enter_call (wT (call w s₀ s₁ mg mb fa o pm cd Ä a vs ns G Y ho (fd_plain hd) ek hmg yA Ñ Â hg) λr s' hq=>?_);obtain⟨rfl,h2,h3,h4⟩:=hq;exact⟨.inl ⟨.bool true,.bool true,[],rfl,λ_=>rfl,.bool true,pJ l _,λ_=>⟨List.Pairwise.nil,λ_ hm=>(nomatch hm)⟩⟩,h2,h3,h4⟩
end Att
namespace L2
theorem jy:∀{vs:O bn}{ns:O Int},IntsAre vs ns->Vals (ns.map V.int) vs
 | _,_,.nil=>.nil
 | _,_,.cons n t h=>.cons ⟨t,rfl⟩ (jy h)
end L2
variable{sp:L2.Sp}{B:Prop}
namespace L2
def bb(s:lm):Arguments:=match s with
 | .FunctionDef _ a _ _ _ _ _ _ _ _=>a
 | _=>{posonlyargs:=[],args:=[],vararg:=be,kwonlyargs:=[],kw_defaults:=[],kwarg:=be,defaults:=[]}
def aH(s:lm):O lm:=match s with
 | .FunctionDef _ _ b _ _ _ _ _ _ _=>b
 | _=>[]
def af(s:lm):ut:=match s with
 | .FunctionDef _ _ _ _ _ _ sc _ _ _=>sc
 | _=>{kind:=.function,names:=[],isGenerator:=false,isCoroutine:=false}
abbrev dS:tV:=λ_ _ _ _ _ _=>False
abbrev E0:XK:=λ_ _ _=>False
def dc:Passes dS X E0:=λ_ _ _ _ _ _ _ h=>h.elim
structure Fun(K:Aa)(x qual:Str)(st:lm)(f:ce)(fd:sn):Prop where
 ex:∃(oc:bn) (od:Option ce) (kV Ä pm:bn) (an:Option ce) (bh ct:bn) (rG:Array (Option bn)),
  fd=AV x qual (bb st) (aH st) (af st) .none kV Ä pm an bh ct/\K.lookup f=al ⟨oc,od,.func fd,rG⟩/\BC K bh qual=true
 kp:AZ K (.ref f)=true
section
variable{K:Aa}
def Fun.ok{x:Str}{st:lm}{f:ce}{N:O Str}(F:Fun K x qual st f fd)(S:br N ps (af st))(len:∀vs H Q E,sp vs H Q E->vs.length=ps.length)
  (lR:∀(bh:bn) (A:re) (outer:O Env) (s:ci) (H:Hp) (vs:O V) (Q:VK) (E:XK),aZ k (A.deeper (sB qual (af st) s.heap.objs.size f bh))->sp vs H Q E->
   ∃t,PSs (gZ dS P w K mg base N qual (af st) f bh A outer s H E).rS (aH st) t/\t {nx:=λ_ H'=>Q .aL H',rt:=Q} (start N vs) H):bf P w K mg base dS (k+1) f fd ps sp:=by
 obtain⟨oc,od,kV,Ä,pm,an,bh,ct,rG,rfl,lk,ek⟩:=F.ex;refine wV lk ek S len λA outer s H vs Q E hr p5=>?_;obtain⟨t,h,q⟩:=lR bh A outer s H vs Q E hr p5;exact⟨t,h.rS,q⟩
def Fun.binds{x:Str}{st:lm}{f:ce}(F:Fun K x qual st f fd)
  (h:∀(kV Ä pm:bn) (an:Option ce) (bh ct:bn) (us:O bn),us.length=ps.length->bindArgs (AV x qual (bb st) (aH st) (af st) .none kV Ä pm an bh ct) ⟨us,[]⟩=pure (ps.zip us)):Binds K fd ps []:=by
 obtain⟨oc,od,kV,Ä,pm,an,bh,ct,rG,rfl,lk,ek⟩:=F.ex;exact .all (h kV Ä pm an bh ct)
def iQ{x:Str}{st:lm}{f:ce}{kV:bn}(l:K.lookup f=al ⟨oc,od,.func (AV x qual (bb st) (aH st) (af st) .none kV Ä pm an bh ct),rG⟩)
  (c:BC K bh qual=true) (k:AZ K (.ref f)=true):Fun K x qual st f (AV x qual (bb st) (aH st) (af st) .none kV Ä pm an bh ct):=⟨⟨oc,od,kV,Ä,pm,an,bh,ct,rG,rfl,l,c⟩,k⟩
end
def pA(h:n<=1000):n < sizeLine:=Nat.lt_of_le_of_lt h ⋯
section
def pv(i:Nat){x:Str}(hN:X.N[i]?=al x:=by rfl)(hv:o7 X.env.scope x:=by first | exact Bm rfl | exact BP (Bm rfl) | exact BP (BP rfl))(hd:dU x:=by decide)
  (ek:qq x:=by decide):PE X (.Name x pos) (z0 i):=cy hN hv hd ek
end
def dR{A:Prop}(h:B):if false=true then A else B:=by
 exact h
def fN{A:Prop}(h:A):if true=true then A else B:=by
 exact h
def cI(H H':Hp):Prop:=∀b o,H b=al o->H' b=al o
def cI.refl(H:Hp):cI H H:=λ_ _ h=>h
def cI.free(e:cI H H')(h:H' l=Option.none):H l=Option.none:=by
 cases q:H l with
 | none=>rfl
 | some o=>
  rw[e l o q]at h;cases h
end L2
variable{b:Nat}{H2:L2.Hp}{Xs:PySem.Scope}{N':O Bo}{ix:O (Option Nat)}{Í:BM}{Ï:O BM}{cl:O (Bo×AR)}
namespace L2
def GP{o:Obj}(e:h.get? b=al o):b < h.objs.size:=Al e
def neN(h:a≠b):a≠b:=h
def ltN(h:a < b):a < b:=h
def xi{c:Nat}{v:Option bn}(q:h.IsCell c v):c < h.objs.size:=q.lt
structure bL(Xs:ut)(N:List Str)(sc:ut)(N':List Str)(ix:List (Option Nat)):Prop where
 kind:sc.kind=.function
 nc:∀y∈sc.names,y.2≠.cell
 loc:∀y∈sc.names,y.2=.local->sc.names.lookup y.1=al .local
 fr:∀y∈sc.names,y.2=.free->(Xs.names.lookup y.1=al .cell\/Xs.names.lookup y.1=al .free)
 nd:N'.Nodup
 len:ix.length=N'.length
 map:((ix.zip N').all λp=>match p.1 with | none=>true | some j=>decide (N[j]?=al p.2)&&decide (sc.names.lookup p.2=al .free))=true
def bL.at{N:O Str}(S:bL Xs N sc N' ix){i:Nat}{x:Str}(h1:ix[i]?=al (al j))(h2:N'[i]?=al x) :
  N[j]?=al x/\sc.names.lookup x=al .free:=by
 have hm:((al j,x):Option Nat×Str)∈ix.zip N':=by
  refine Ay (i:=i) ?_;rw[C8];exact⟨h1,h2⟩
 have q:=List.all_eq_true.mp S.map _ hm;simp at q;exact q
def f9(ix:O (Option Nat))(σ:St):St:=ix.map λo=>match o with | some j=>(σ[j]?).getD be | none=>be
def g8(X:Cx)(sc:ut)(N':O Str)(cl:O (Str×ce))(C:ce)(s2:ci)(H2:Hp)(fp:O ce):Cx where
 prog:=X.prog
 w:=X.w
 K:=X.K
 mg:=X.mg
 base:=X.base
 A:=X.A
 N:=N'
 s₀:=s2
 H₀:=H2
 env:=compEnvC sc cl C X.env
 outer:=X.stack
 stack:=X.stack
 ex:=fp
 calm:=X.calm
 fn:=λ_=>false
 pn:=[]
 xe:=λ_ _=>False
theorem fc:∀(names:O (Str×sw)) (cs:O (Str×ce)),(∀y∈names,y.2=.free->∃c,env.cells.lookup y.1=al c)->
  ∃cl,(forIn names cs λ(x:Str×sw) (c:O (Str×ce))=>(match x with | (name,kind)=>do
    let c <- if (kind==AO)=true then do let a <- cellOf env name;pure ((name,a)::c) else pure c
    pure (BK c):Sem (ForInStep (O (Str×ce)))))=pure cl/\(∀x c,cl.lookup x=al c->cs.lookup x=al c\/(env.cells.lookup x=al c/\(x,AO)∈names))/\(∀x,((x,AO)∈names\/(∃c,cs.lookup x=al c))->∃c,cl.lookup x=al c)
 | [],cs,_=>⟨cs,rfl,λ_ _ h=>.inl h,λx h=>h.elim (λz=>nomatch z) λz=>z⟩
 | (n,k)::r,cs,h=>by
  by_cases hk:k=.free
  ·subst hk;obtain⟨c,hc⟩:=h (n,.free) A9 rfl;obtain⟨cl,e,h1,h2⟩:=fc r ((n,c)::cs) λy hy=>h y (AA _ hy);refine⟨cl,?_,λx d hd=>?_,λx hx=>?_⟩
   ·rw[BX,<- e];simp only[beq_self_eq_true,if_true,cellOf,hc,pure_bind]
   ·rcases h1 x d hd with z | ⟨z1,z2⟩
    ·rw[AM]at z;by_cases hx:(x==n)=true
     ·rw[hx]at z;have nu:x=n:=eq_of_beq hx;subst nu;cases z;exact .inr ⟨hc,A9⟩
     ·have nu:(x==n)=false:=by simpa using hx
      rw[nu]at z;exact .inl z
    ·exact .inr ⟨z1,AA _ z2⟩
   ·refine h2 x ?_;rcases hx with hx | ⟨d,hd⟩
    ·rcases Ax.mp hx with z | z
     ·injection z with z1 _;subst z1;exact .inr ⟨c,by rw[AM];simp⟩
     ·exact .inl z
    ·by_cases hx:(x==n)=true
     ·exact .inr ⟨c,by rw[AM,hx]⟩
     ·have nu:(x==n)=false:=by simpa using hx
      exact .inr ⟨d,by rw[AM,nu];exact hd⟩
  ·obtain⟨cl,e,h1,h2⟩:=fc r cs λy hy=>h y (AA _ hy);refine⟨cl,?_,λx d hd=>?_,λx hx=>?_⟩
   ·have hb:(k==AO)=false:=by simpa using hk
    rw[BX,<- e];simp only[hb,AB,if_false,pure_bind]
   ·rcases h1 x d hd with z | ⟨z1,z2⟩
    ·exact .inl z
    ·exact .inr ⟨z1,AA _ z2⟩
   ·refine h2 x ?_;rcases hx with hx | hx
    ·rcases Ax.mp hx with z | z
     ·injection z with _ z2;exact absurd z2.symm hk
     ·exact .inl z
    ·exact .inr hx
def eV(h:∀y∈sc.names,y.2=.free->∃c,env.cells.lookup y.1=al c) :
  ∃cl,closureFor sc env=pure cl/\(∀x c,cl.lookup x=al c->env.cells.lookup x=al c/\(x,AO)∈sc.names)/\(∀x,(x,AO)∈sc.names->∃c,cl.lookup x=al c):=by
 obtain⟨cl,e,h1,h2⟩:=fc sc.names [] h;refine⟨cl,?_,λx c hc=>(h1 x c hc).resolve_left (λz=>nomatch z),λx hx=>h2 x (.inl hx)⟩;unfold closureFor;have e':(forIn sc.names ([]) λx r=>(match x with | (name,kind)=>if (kind==AO)=true then do let a <- cellOf env name;pure (BK ((name,a)::r)) else pure (BK r):Sem (ForInStep (O (Str×ce)))))=pure cl:=by
  rw[<- e]
  first
   | rfl
   | (
     congr 1;funext x r;by_cases hk)
   | simp
 simpa using e'
theorem cA{env:Env}:∀{names:O (Str×sw)}{x:Str},
  (names.map λ(n,k)=>if (k==AO&&env.scope.kind==.function&&env.kindOf n==al .cell) then (n,D1) else (n,k)).lookup x =
   (names.lookup x).map λk=>if (k==AO&&env.scope.kind==.function&&env.kindOf x==al .cell) then D1 else k
 | [],_=>rfl
 | (n,k)::r,x=>by
  have ih:=@cA env r x;show B3 x ((if (k==AO&&env.scope.kind==.function&&env.kindOf n==al .cell)=true then (n,D1) else (n,k))::_)=_;cases hx:x==n with
  | true=>
   have e:=eq_of_beq hx;subst e;by_cases hc:(k==AO&&env.scope.kind==.function&&env.kindOf x==al .cell)=true
   ·rw[if_pos hc,AM,AM,hx];simp only[Cf,hc,if_true]
   ·rw[if_neg hc,AM,AM,hx];simp only[Cf,hc];simp
  | false=>
   by_cases hc:(k==AO&&env.scope.kind==.function&&env.kindOf n==al .cell)=true
   ·rw[if_pos hc,AM,AM,hx];exact ih
   ·rw[if_neg hc,AM,AM,hx];exact ih
def HG(X:Cx)(Ï:O gl)(t:TT):Prop:=
 ∀(U:O (ce×Obj)) (s:ci) (σ:St) (H:Hp) (Q:Bool->Hp->Prop),Inv X U σ H s->t σ H Q->
  db (em X.prog X.w) X.A (forIn Ï true λc r=>if r=true then do let ok <- isTrue c X.env (ii c X.env);pure (BK ok) else pure (BK r)) (TP X U σ Q) X.xe s
def Ii:TT:=λ_ H Q=>Q true H
def uP:HG X [] Ii:=λU s σ H Q I h=>by
 exact Am ⟨H,I,h⟩
def KO(ix:O (Option Nat))(wi:TI)(g:TG)(tf:TT)(te:TE):TE:=λσ H Q=>wi σ H λJ H1=>∀D,H1 D=be->∃W:Nat->Nat->St->O V->Hp->Prop,
 (∃m,W 0 m (f9 ix σ) [] (upd H1 D (.lst [])))/\∀i m σ' ys H,W i m σ' ys H->H D=al (.lst ys)/\
  ((J.stop i H/\Q (.ref D) H)\/(J.go i H/\∀x H',J.ze i H x H'->g x σ' H' λσ2 H2=>tf σ2 H2 λb H3=>
   if b=true then te σ2 H3 λy H4=>H4 D=al (.lst ys)/\ys.length+1<=sizeLine/\∃m',m' < m/\W (i+1) m' σ2 (ys++[y]) (upd H4 D (.lst (ys++[y]))) else ∃m',m' < m/\W (i+1) m' σ2 ys H3))
def eQ{s:ci}{È:gl}{it Æ:bn}(I:Nat->ci->Prop)
  (Ë:∀n s,I n s->db (em prog w) A (pyNext it) (λr s₁=>match r with
   | none=>R (.ok .next) s₁
   | some v=>db (em prog w) A (zn È it v) (λ_ wq=>db (em prog w) A (assign È env v) (λ_ s₂=>
     db (em prog w) A (forIn Ï true λc r=>if r=true then do let ok <- isTrue c env (ii c env);pure (BK ok) else pure (BK r)) (λok s₃=>
      if ok=true then db (em prog w) A (ii Í env) (λx s₄=>
       db (em prog w) A (call (.builtin "list.append") [Æ,x]) (λ_ s₅=>∃m,m < n/\I m s₅) (λ_ _=>False) s₄) (λ_ _=>False) s₃
      else ∃m,m < n/\I m s₃) (λ_ _=>False) s₂) (λ_ _=>False) wq) (λ_ _=>False) s₁) (λ_ _=>False) s)
  n (h:I n s) :
  ww (em prog w) A (.compLoop (.ListComp Í [⟨È,iter,Ï,0⟩] scope pos) 0 it Æ env) R s:=by
 refine codeAny_loop rfl I (λn s hI=>?_) n h;refine wpAny_noted ?_;refine Ab (Dk (Ab (BV (Ë n s hI) (λr s₁ h₁=>?_) λ_ _ h'=>h'.elim)));cases r with
 | none=>exact Am h₁
 | some v=>
  refine Ab (BV h₁ (λ_ wq Fp=>?_) λ_ _ h'=>h'.elim);refine Ab (BV Fp (λ_ s₂ h₂=>Ab (BV h₂ (λok s₃ h₃=>?_) λ_ _ h'=>h'.elim)) λ_ _ h'=>h'.elim);cases ok with
  | false=>exact Am ⟨rfl,h₃⟩
  | true=>
   exact Ab (Ab (BV h₃ (λx s₄ h₄=>Ab (BV h₄ (λ_ s₅ h₅=>Am (Am ⟨rfl,h₅⟩)) λ_ _ h'=>h'.elim)) λ_ _ h'=>h'.elim))
section
variable{wi:TI}{g:TG}{tf:TT}
structure Gu(X:Cx)(U:List (ce×Obj))(H:Hp)(C:ce):Prop where
 hn:H C=be
 hL:C≠X.env.locals
 ab:X.s₀.heap.objs.size<=C
 cl:∀x c,X.env.cells.lookup x=al c->c≠C
 pn:∀p∈X.pn++U,p.1≠C
theorem ve(hc:X.calm=true)(S:bL X.env.scope X.N sc N' ix)
  (hg:∀cl C s2 H2 fp,PG (g8 X sc N' cl C s2 H2 fp) tg g) (hf:∀cl C s2 H2 fp,HG (g8 X sc N' cl C s2 H2 fp) Ï tf) (he:∀cl C s2 H2 fp,PE (g8 X sc N' cl C s2 H2 fp) Í te) {s2:ci} (gX:∀x c,cl.lookup x=al c->X.env.cells.lookup x=al c/\(x,AO)∈sc.names) (ny:∀x,(x,AO)∈sc.names->∃c,cl.lookup x=al c) {tn:Nat->gt->Prop}{J:It}{Q:VK} (I2:Inv X U σ H2 s2) (T:Turn X.prog X.w X.K tg J fp it tn) (jV:tn 0 s2.heap) (f2:∀b∈fp,jx X U H2 b)
  (hW:∀D,H2 D=be->∃W:Nat->Nat->St->O V->Hp->Prop,
   (∃m,W 0 m (f9 ix σ) [] (upd H2 D (.lst [])))/\∀i m σ' ys H,W i m σ' ys H->H D=al (.lst ys)/\
    ((J.stop i H/\Q (.ref D) H)\/(J.go i H/\∀x H',J.ze i H x H'->g x σ' H' λσ2 H2=>tf σ2 H2 λb H3=>
     if b=true then te σ2 H3 λy H4=>H4 D=al (.lst ys)/\ys.length+1<=sizeLine/\∃m',m' < m/\W (i+1) m' σ2 (ys++[y]) (upd H4 D (.lst (ys++[y]))) else ∃m',m' < m/\W (i+1) m' σ2 ys H3)))
  {RR:bn->ce->Result->ci->Prop}{E:bn->ci->Prop}
  (NN:∀D C m s' H',Inv X U σ H' s'->Q (.ref D) H'->s'.heap.Ns C m->Gu X U H' C->RR (.ref D) C (.ok .next) s') :
  db (em X.prog X.w) X.A (newList []) (λÆ s₃=>db (em X.prog X.w) X.A (newFunctionEnv sc X.env.globals cl [] X.env.qual be .none (al X.env)) (λGf s₄=>
   ww (em X.prog X.w) X.A (.compStart (.ListComp Í [⟨tg,iter,Ï,0⟩] sc pos) 0 (.ref it) Æ {Gf with scope:=relabel sc X.env}) (RR Æ Gf.locals) s₄) E s₃) E s2:=by
 refine Cu (wpAny_newFunctionEnv S.nc (by intro y hy;simp at hy) (λh₁ nv km=>?_) S.kind);generalize JP:s2.heap.push {cls:=.type "list",dict:=be,data:=.seq ([]).toArray}=G2 at nv km ⊢;have hC:G2.objs.size=s2.heap.objs.size+1:=by rw[<- JP,BO]
 obtain⟨D,hD⟩:∃D:Nat,s2.heap.objs.size=D:=⟨_,rfl⟩;obtain⟨C,NT⟩:∃C:Nat,G2.objs.size=C:=⟨_,rfl⟩;simp only[hD,NT]at nv km hC ⊢;have Ln:D≠C:=by omega
 have Ù:∀b o,s2.heap.get? b=al o->h₁.get? b=al o:=λb o e=>by
  have hb:=GP e;exact km.extBut b o (neN ∅) (Ae _ (JP▸Ae _ e))
 have FI:h₁.get? D=al {cls:=.type "list",data:=.seq ([]:O bn).toArray}:=by
  refine km.extBut D _ Ln (Ae _ ?_);rw[<- JP,<- hD];exact An _ rfl
 have Lq:H2 D=be:=I2.aP.fresh ∅;obtain⟨W,⟨m0,w0⟩,Ë⟩:=hW D Lq;have xh:∀x c,cl.lookup x=al c->∃v,s2.heap.IsCell c v:=λx c e=>I2.cell x c (gX x c e).1;have Kn:∀x c,cl.lookup x=al c->c < D:=λx c e=>by
  obtain⟨v,q⟩:=xh x c e;have:=xi q;exact ltN ∅
 have J0:∀b∈fp,b < D:=λb hb=>by
  obtain⟨o,e,_⟩:=T.obj 0 _ jV b hb;have:=GP e;exact ltN ∅
 have LG:(g8 X sc N' cl C s2 H2 fp).Ok:=by
  refine⟨I2.ok.mod,S.kind,I2.ok.glob,I2.ok.blt,?_,?_,?_,?_,I2.ok.hd,I2.ok.frames,.inl rfl,?_,I2.bs,?_,?_,?_,I2.stack,I2.n8⟩
  ·show s2.heap.objs.size<=C;omega
  ·intro x y c e1 e2;exact I2.ok.inj x y c (gX x c e1).1 (gX y c e2).1
  ·intro x hx;have nu:(relabel sc X.env).names.lookup x=al .cell\/(relabel sc X.env).names.lookup x=al .free:=hx;unfold relabel at nu;rw[cA]at nu;cases q:sc.names.lookup x with
   | none=>rw[q]at nu;simp at nu
   | some k=>
    have hm:=A1 q;by_cases hk:k=.free
    ·subst hk;exact ny x hm
    ·rw[q]at nu;have hb:(k==AO)=false:=by simpa using hk
     simp only[Cf,hb,Bool.false_and,AB,if_false]at nu;rcases nu with z | z
     ·exact absurd (Option.some.inj z) (S.nc _ hm)
     ·exact absurd (Option.some.inj z) hk
  ·intro x c yE;exact absurd yE Az
  ·intro b hb;refine⟨?_,λx c e z=>(f2 b hb).2.2.2.2.1 x c (gX x c e).1 z⟩;show b≠C;have:=ltN (J0 b hb);exact neN ∅
  ·exact AX I2.ok.uc I2.sz
  ·intro b o e hb;rcases (f2 b hb).2.2.2.1 with z | z
   ·exact I2.ok.rT b o e z
   ·have h1:=GP (h:=X.base) e;have h2:=I2.ok.uc;omega
  ·intro b hb z;rcases Ax.mp (I2.jT b z) with q | q
   ·exact(f2 b hb).2.1 q
   ·exact(f2 b hb).2.2.1 q
 have L7:Un (frs X.stack) fp H2 (upd H2 D (.lst [])) s2.heap h₁:=Un.laid Ù ∅ Lq;have IY:∀tk,Inv (g8 X sc N' cl C s2 H2 fp) [] (f9 ix σ) (upd H2 D (.lst [])) {s2 with heap:=h₁,toks:=tk}:=λtk=>by
  refine⟨LG,rfl,I2.bare,L7,⟨_,nv,λi x v e1 e2 e3=>?_⟩,λx c e=>?_,?_,λx c e=>?_,λp hp=>absurd (show p∈([]) from hp) (by simp),(I2.aP.laid Ù ∅ ⟨Bw _,[],0,.nil,FI⟩),?_⟩
  ·have qe:=e1;unfold f9 at e2;rw[Ao]at e2;cases q:ix[i]? with
   | none=>rw[q]at e2;cases e2
   | some o=>
    cases o with
    | none=>rw[q]at e2;cases e2
    | some j=>
     rw[q]at e2;have HB:(σ[j]?).getD be=al v:=Option.some.inj e2;have e4:σ[j]?=al (al v):=by
      cases z:σ[j]? with
      | none=>rw[z]at HB;cases HB
      | some y=>rw[z]at HB;exact congrArg al HB
     obtain⟨a1,a2⟩:=S.at q qe;have FA:=A1 a2;have hk:=S.fr _ FA rfl;obtain⟨m,_,hl⟩:=I2.loc;obtain⟨u,r,l⟩:=hl j x v a1 e4 (.inr hk);refine⟨u,r,.inr ⟨?_,?_⟩⟩
     ·show(relabel sc X.env).names.lookup x=al .cell\/(relabel sc X.env).names.lookup x=al .free;unfold relabel;rw[cA,a2];by_cases hb:(X.env.scope.kind==.function&&X.env.kindOf x==al .cell)=true
      ·left
       simp only[Cf,beq_self_eq_true,Bool.true_and,hb,if_true]
      ·right
       simp only[Cf,beq_self_eq_true,Bool.true_and,hb,if_false,AB]
     ·obtain⟨c,Ld⟩:=ny x FA;refine⟨c,Ld,?_⟩;rcases l with⟨k,_⟩ | ⟨k,c',e',z⟩
      ·have k':X.env.scope.names.lookup x=al .local:=k;rcases hk with y | y <;> rw[k']at y <;> cases y
      ·rw[((gX x c Ld).1)]at e';cases e';obtain⟨o,ho,hd⟩:=z;exact⟨o,Ù _ _ ho,hd⟩
  ·obtain⟨v,o,ho,hd⟩:=xh x c e;exact⟨v,o,Ù _ _ ho,hd⟩
  ·show upd H2 D (.lst []) C=be;rw[ah (Cg Ln)];exact(I2.aP.fresh ∅)
  ·have iO:=ltN (Kn x c e);rw[ah (neN ∅)];exact I2.eA x c (gX x c e).1
  ·unfold f9;rw[Aq];exact S.len
 have JZ:∀{lz:O (ce×Obj)}{H':Hp},(∀b∈fp,H' b=be)->(∀p∈lz,p.1∉fp)->∀b∈fp,jx (g8 X sc N' cl C s2 H2 fp) lz H' b:=λhn hp b hb=>by
  refine⟨hn b hb,?_,?_,.inl hb,λx c e z=>(f2 b hb).2.2.2.2.1 x c (gX x c e).1 z,λp Nl z=>?_⟩
  ·show b≠C;have:=ltN (J0 b hb);exact neN ∅
  ·exact LG.sW b hb
  ·exact hp p Nl (z▸hb)
 have Û:∀s₃:ci,s₃={s2 with heap:=h₁,toks:=s2.toks+([]:O (Str×bn)).length}->
   ww (em X.prog X.w) X.A (.compLoop (.ListComp Í [⟨tg,iter,Ï,0⟩] sc pos) 0 (.ref it) (.ref D) (compEnvC sc cl C X.env)) (RR (.ref D) C) s₃:=by
  rintro s₃ rfl;refine eQ (λn s'=>∃i σ' ys H',Inv (g8 X sc N' cl C s2 H2 fp) [] σ' H' s'/\tn i s'.heap/\(∀b∈fp,H' b=be)/\W i n σ' ys H') ?_ m0
   ⟨0,_,[],_,IY _,T.keep _ _ _ jV (λb _ o e=>Ù b o e),λb hb=>by rw[ah (AE (J0 b hb))];exact(f2 b hb).1,w0⟩
  rintro n s3 ⟨i,σ3,ys,H3,I3,Ex,FR,w3⟩;obtain⟨OW,w3⟩:=Ë i n σ3 ys H3 w3;rcases w3 with⟨stop,qn⟩ | ⟨go,step⟩
  ·refine aR (T.done (g8 X sc N' cl C s2 H2 fp) rfl rfl rfl hc i [] s3 σ3 H3 _ I3 (JZ FR (by simp)) Ex stop) λr s4 ⟨hr,I4⟩=>?_;subst hr;obtain⟨m,hn,_⟩:=I4.loc;refine NN D C m s4 H3 (I2.Gj I4.os I4.base I4.aP I4.bare λb hb=>?_) qn hn ?_
   ·obtain⟨a0,a1,a2,a3,a4,a5⟩:=f2 b hb;exact⟨a3,a1,a4,a5⟩
   ·refine⟨I4.free,?_,?_,λx c e z=>?_,λp hp z=>?_⟩
    ·have:=ltN I2.lt;exact neN ∅
    ·have:=I2.sz;omega
    ·obtain⟨v,q⟩:=I2.cell x c e;have:=xi q;exact neN (a:=c) (b:=C) ∅ z
    ·have:=GP (I2.pin p hp).1;exact neN (b:=C) ∅ z
  ·refine aR (T.item (g8 X sc N' cl C s2 H2 fp) rfl rfl rfl hc i [] s3 σ3 H3 (λ_ _=>False) I3 (JZ FR (by simp)) Ex go) λr s4 ⟨u,hr,h4⟩=>?_;subst hr;refine aR h4 λ_ s5 ⟨x,H5,I5,r5,y5,xw,JY⟩=>?_;refine aR (hg _ _ _ _ _ _ s5 σ3 H5 x u _ (I5.pinned (JZ JY (by simp)) (T.obj _ _ xw)) r5 (step x H5 y5)) λ_ s6 ⟨σ6,H6,I6,q6⟩=>?_;refine aR (hf _ _ _ _ _ _ s6 σ6 H6 _ I6 q6) λb s7 ⟨H7,I7,q7⟩=>?_;have sA:∀{s8:ci}{σ8:St}{H8:Hp},Inv (g8 X sc N' cl C s2 H2 fp) ([]++gz fp s5.heap) σ8 H8 s8->tn (i+1) s8.heap/\∀b∈fp,H8 b=be:=λ{s8 σ8 H8} I8=>by
    refine⟨T.keep _ _ _ xw λb hb o e=>(I8.pin (b,o) (Av _ (Av _ (dw hb e)))).1,λb hb=>?_⟩;obtain⟨o,e,d⟩:=T.obj _ _ xw b hb;exact(I8.pin (b,o) (Av _ (Av _ (dw hb e)))).2.1
   cases b with
   | false=>
    obtain⟨m',hm,w7⟩:=q7;obtain⟨t7,NX⟩:=sA I7;exact⟨m',hm,i+1,σ6,ys,H7,I7.dX,t7,NX,w7⟩
   | true=>
    refine aR (he _ _ _ _ _ _ s7 σ6 H7 _ I7 q7) λyv s8 ⟨y,H8,I8,r8,Lo,M8,m',hm,w8⟩=>?_;obtain⟨z,ak,k,rv,OT,e8⟩:=I8.gT Lo;obtain⟨t8,OX⟩:=sA I8;refine wpAny_list_append_plain (s:=s8) ⟨_,e8⟩ λh9 Nu Nj=>?_;obtain⟨k9,e9⟩:=Nu;have I9:Inv (g8 X sc N' cl C s2 H2 fp) ([]++gz fp s5.heap) σ6 (upd H8 D (.lst (ys++[y]))) {s8 with heap:=h9,toks:=s8.toks}:=by
     refine I8.write (x:=D) (e:=D) (by rw[Lo];exact trivial) (.inl rfl) (λb u hb hu=>(Nj.2 b hb).trans hu) ⟨_,e9⟩ ?_;refine⟨by rw[Ad,Bh];exact M8,ak++[yv],k9,(Vals.append rv (.cons r8 .nil)),?_⟩;rw[e9];simp
    obtain⟨t9,NW⟩:=sA I9;exact⟨m',hm,i+1,σ6,_,_,I9.dX,t9,NW,w8⟩
 exact codeAny_compStart_list (Û _ rfl) (T.self _ 0 _ _ _ (T.keep _ _ _ jV λb _ o e=>Ù b o e) (Û _ rfl))
def ER(hc:X.calm=true)(S:bL X.env.scope X.N sc N' ix)(hi:PI X tg iter wi)
  (hg:∀cl C s2 H2 fp,PG (g8 X sc N' cl C s2 H2 fp) tg g) (hf:∀cl C s2 H2 fp,HG (g8 X sc N' cl C s2 H2 fp) Ï tf) (he:∀cl C s2 H2 fp,PE (g8 X sc N' cl C s2 H2 fp) Í te)
  (hs:uf X iter:=by intro _;rfl):PE X (.ListComp Í [⟨tg,iter,Ï,0⟩] sc pos) (KO ix wi g tf te):=by
 intro U s σ H Q I h;obtain⟨cl,oJ,gX,ny⟩:=eV (λy hy hk=>I.ok.has y.1 (S.fr y hy hk));refine wpAny_comprehension_free rfl hs oJ S.kind S.loc (aR (hi U s σ H _ I h) λv s1 h1=>aR h1 λJk s2 h2=>?_);obtain⟨it,fp,tn,J,H2,rfl,I2,T,jV,f2,hW⟩:=h2;exact ve hc S hg hf he gX ny I2 T jV f2 hW λD C m s' H' I' q hn F=>⟨m,hn,λh' Nk=>⟨.ref D,H',I'.turned (λb o hb e=>(Nk.2 b hb).trans e) F.hn F.hL (.inr F.ab) F.cl F.pn,rfl,q⟩⟩
end
end L2
variable{a b:BM}
namespace L2
section
def eE:a8 X (.builtin "isinstance") (λxs H Q=>∃x c t b,xs=[x,.ty c]/\eG X.K H x t/\AQ X.K t (.type c)=al b/\Q (.bl b) H):=by
 intro U s σ H xs us Q I r h;obtain⟨x,c,t,b,rfl,ty,hk,q⟩:=h;obtain⟨u,w',rfl,ru,oi⟩:=vals2 r;cases (oi);exact pW I ru ty hk λtk=>⟨.bl b,H,I.tok _,rfl,q⟩
def pL(hu:X.A.units < cLine):dN X (li .NotEq) (λx y H Q=>∃p q xs,x=.ref p/\y=.ref q/\bO X.K H p xs/\bO X.K H q []/\Q (.bl (!xs.isEmpty)) H):=by
 intro U s σ H x y v u Q I rx ry h;obtain⟨p,q,xs,rfl,rfl,hp,hq,k⟩:=h;cases rx;cases ry;obtain⟨ak,r,pl,hz⟩:=I.list hp;obtain⟨bt,r2,EO,M9⟩:=I.list hq;cases r2;cases xs with
 | nil=>
  cases r;exact Df (D6 (e:=λ_=>true) pl.isList EO.isList rfl hu λj h1=>absurd h1 (by simp)) ⟨.bl false,H,I,rfl,k⟩
 | cons y ys=>
  have hl:=r.length;exact Df (C1 pl.isList EO.isList (by simp at hl ⊢;intro z;subst z;simp at hl) hu) ⟨.bl true,H,I,rfl,k⟩
def tN{bs:O Bool}:∀{us:O bn},Vals (bs.map V.bl) us->us=bs.map Ci:=by
 induction bs with
 | nil=>intro us r;rw[Eb]at r;cases r;rfl
 | cons n ns ih=>
  intro us r;cases r with
  | cons r1 r2=>
   cases r1;rw[ih r2];rfl
def nP(hc:X.calm=true):a8 X (.builtin "all") (λxs H Q=>∃(p:ce) (bs:O Bool),xs=[.ref p]/\bO X.K H p (bs.map V.bl)/\Q (.bl (bs.all id)) H):=by
 intro U s σ H xs us Q I r h;obtain⟨p,bs,rfl,hp,q⟩:=h;obtain⟨u,rfl,ru⟩:=vals1 r;cases ru;obtain⟨ak,rv,pl,hz⟩:=I.list hp;have eb:=tN rv;subst eb;have hl:=pl.isList;have iO:p < s.heap.objs.size:=by obtain⟨_,e,_⟩:=hl;exact Al e
 refine call_all_walk (Dg hl ?_);refine⟨s.heap.objs.size,[s.heap.objs.size,p],[s.heap.objs.size],(bs.map Ci).toArray.size,_,_,λi=>(bs[i]?).getD true,rfl,Walks.list (A:=X.A.in1) (I.ok.hd hc) _ p (AE iO) (bs.map Ci).toArray,
  ⟨⟨_,An _ rfl,rfl,rfl⟩,hl.push _⟩,λi v s' Q' E' hP hQ=>?_,λh' tk hk=>?_⟩
 ·have FN:(bs.map Ci)[i]?=al v:=by simpa using hP
  rw[Ao]at FN;cases e:bs[i]? with
  | none=>rw[e]at FN;cases FN
  | some b=>
   rw[e]at FN;cases FN;simp only[e]at hQ;exact BL hQ
 ·have e:((BW (bs.map Ci).toArray.size).all λi=>(bs[i]?).getD true)=bs.all id:=by
   rw[Af,Aq];exact LSm.range_all bs
  rw[e];exact⟨.bl (bs.all id),H,I.kept (LSm.kept_iter hk),rfl,q⟩
def gU(l:ce)(items:Array bn)(n:Nat)(b:ce)(dz:Array bn)(n2:Nat)(dd:Option ce)(sl:Array (Option bn))(OO:¬(!items.isEmpty&&Builtin.List.listTooLong (items.size+dz.size))=true)(vq:items.size<=sizeLine)(mE:items.size+dz.size<=sizeLine+1) :
  Meets (Builtin.«list.extend» ⟨[.ref l,.ref b],[]⟩) (λ_ R s=>s.heap.get? l=al {cls:=.type "list",dict:=be,data:=.seq items n,slots:=#[]}/\s.heap.get? b=al {cls:=.type "tuple",dict:=dd,data:=.seq dz n2,slots:=sl}/\R (.ok (.ret Bd)) {s with heap:=s.heap.update l (BU λx=>x++dz),toks:=s.toks}):=
 .of_wp λprog w A R s h=>by
  obtain⟨hp,g,d,tk,os⟩:=s;obtain⟨hl,hb,h⟩:=h;have f5:=CC;
  wp_walk using (CM hl rfl),Bi hl,Bi hb;exact⟨_,rfl,h⟩
def qV(K:Aa):V->O V->Hp->VK->Prop:=λx vs H Q=>∃l b xs zs,x=.ref l/\vs=[.ref b]/\H l=al (.lst xs)/\cf K H b zs/\xs.length+zs.length<=sizeLine/\Q .aL (upd H l (.lst (xs++zs)))
theorem m8:qz X "list.extend" (qV X.K):=by
 intro U s σ H x vs v us Q I rx rv h;obtain⟨l,b,xs,zs,rfl,rfl,hH,hB,hz,q⟩:=h;cases rx;obtain⟨u,rfl,ru⟩:=rv.one;cases ru;obtain⟨z,ak,n,r,hl,e⟩:=I.gT hH;obtain⟨bt,r2,⟨⟨cls,dd,data,sl⟩,e2,hc,n2,hd⟩,z2⟩:=I.tuple hB;subst hc hd;have yD:=r2.length;have pZ:ak.toArray.size+bt.toArray.size<=sizeLine:=by rw[Af,Af];omega
 have lP:¬(!ak.toArray.isEmpty&&Builtin.List.listTooLong (ak.toArray.size+bt.toArray.size))=true:=by
  rw[d8 pZ,C7];exact Az
 refine xz C2 ⟨_,e,rfl⟩ CU (CB _ _)
  (gU l ak.toArray n b bt.toArray n2 dd sl lP (by rw[Af];omega) ∅) ⟨e,e2,?_⟩
 refine⟨.aL,_,I.pP hH e (by simp) (r.append r2) ?_,rfl,q⟩;rw[Ad];omega
end
section
variable{CX:tV}{f:ce}{jH:O V}{ds:O bn}{E:XK}{x:Str}{p:Pos}{t:TA}
def qH(f:ce)(sp:Sp)(jH:O V)(E:XK)(ta:TE)(t:TA):TE:=λσ H Q=>ta σ H λx H1=>x=.ref f/\t σ H1 λvs H2=>sp (vs++jH) H2 Q E
def rB(F:bf X.prog X.w X.K X.mg X.base CX k f fd ps sp)(hr:aZ k X.A)(hf:PE X (.Name x p) ta)(hk:AZ X.K (.ref f)=true)(hb:Binds X.K fd ps ds)(hd:Vals jH ds)(hx:Passes CX X E)
  (ha:PA X (e::es) t) (he:c6 X e es:=by rfl) (bH:eR X pos es:=by rfl) :
  PE X (.Call (.Name x p) (e::es) [] pos) (qH f sp jH E ta t):=by
 intro U s σ H Q I h;refine AW (aR (hf U s σ H _ I h) λv s1 ⟨y,H1,I1,r1,ey,q1⟩=>?_);subst ey;cases r1;exact BS I.ok.mod.vm hk (aR (ha pos U s1 σ H1 _ I1 q1) λus s2 ⟨vs,H2,I2,r,q⟩=>⟨I2.eN,jX F hr hb hd hx I2 r q⟩) he bH
end
section
variable{lo hi:gl}{tl th:TE}
def yI(to tl th:TE):TG:=λv σ H Q=>to σ H λx H1=>tl σ H1 λi H2=>th σ H2 λj H3=>∃l b xs ys a c,x=.ref l/\v=.ref b/\i=.int a/\j=.int c/\H3 l=al (.lst xs)/\H3 b=al (.lst ys)/\l≠b/\0<=a/\a<=c/\c<=xs.length/\xs.length+ys.length<=sizeLine/\
 Q σ (upd H3 l (.lst (xs.take a.toNat++ys++xs.drop c.toNat)))
def rk(ho:PE X o to)(hl:PE X lo tl)(hh:PE X hi th)
  (ha:∀v,assign (.Subscript o (.Slice (al lo) (al hi) be p2) pos) X.env v=(do
   let ov <- mo [v] (ii o X.env)
   let iv <- mo [v,ov] (ii (.Slice (al lo) (al hi) be p2) X.env)
   u8 pos
   mo [v,ov,iv] (setItem ov iv v)
   release [iv,v,ov] []):=by intro _;rfl):PG X (.Subscript o (.Slice (al lo) (al hi) be p2) pos) (yI to tl th):=by
 intro U s σ H v u Q I r h;refine Ab (Bk (aR (ho U s σ H _ I h) λov s1 ⟨x,H1,I1,r1,q1⟩=>?_));refine Ab (Bk (wpAny_Slice ?_));refine aR (hl U s1 σ H1 _ I1 q1) λvl s2 ⟨i,H2,I2,r2,q2⟩=>aR (hh U s2 σ H2 _ I2 q2) λvu s3 ⟨j,H3,I3,r3,q3⟩=>Am ?_;obtain⟨l,b,xs,ys,a,c,rfl,rfl,rfl,rfl,hH,hB,vv,h0,zx,hc,hz,q⟩:=q3;cases r;cases r1;refine Ab (Dk (Ab (Bk (pB (I3.kept λb ob q=>Ae _ q) hH hB vv (Heap.IsSliceOf.new ..) r2 r3 h0 zx hc hz λs' I'=>?_))));exact wpAny_release ⟨σ,_,I',q⟩
end
end L2
variable{v:L2.V}{k':Nat}{bo:B7}
namespace L2
def gh(l:ce)(H H':Hp):Prop:=∀b u,b≠l->H b=al u->H' b=al u
def fw{p:ce}(h:H p=be)(o:HO):cI H (upd H p o):=λb u q=>by rw[ah (aJ q h)];exact q
def pE{p:ce}(o:HO):gh p H (upd H p o):=λb u n q=>by rw[ah n];exact q
def gS(H:Hp)(o:HO)(Q:VK):Prop:=∀p H',cI H H'->H' p=al o->H p=be->Q (.ref p) H'
def gS.at{o:HO}{Q:VK}(h:gS H o Q)(p:ce)(hp:H p=be):Q (.ref p) (upd H p o):=h p _ (fw hp o) aB hp
def mK(H:Hp)(l:ce)(o:HO)(Q:Hp->Prop):Prop:=∀H',gh l H H'->H' l=al o->Q H'
def mK.at{o:HO}{Q:Hp->Prop}(h:mK H l o Q):Q (upd H l o):=h _ (pE o) aB
def dN.mono{f:bn->bn->Sem bn}{r r':R2}(h:dN X f r)(hr:∀x y H Q,r' x y H Q->r x y H Q):dN X f r':=λU s σ H x y v u Q I rx ry q=>h U s σ H x y v u Q I rx ry (hr _ _ _ _ q)
def a8.mono{f:bn}{r r':O V->Hp->VK->Prop}(h:a8 X f r)(hr:∀xs H Q,r' xs H Q->r xs H Q):a8 X f r':=λU s σ H xs us Q I rx q=>h U s σ H xs us Q I rx (hr _ _ _ q)
def qz.mono{id:String}{r r':V->O V->Hp->VK->Prop}(h:qz X id r)(hr:∀x xs H Q,r' x xs H Q->r x xs H Q):qz X id r':=λU s σ H x xs v us Q I rx rv q=>h U s σ H x xs v us Q I rx rv (hr _ _ _ _ q)
def qp.mono{r r':tS}(h:qp X r)(hr:∀o i v H Q,r' o i v H Q->r o i v H Q):qp X r':=λU s σ H o i v ov iv u Q I ro ri rv q=>h U s σ H o i v ov iv u Q I ro ri rv (hr _ _ _ _ _ q)
def za.mono{r r':V->Option Int->Option Int->Hp->VK->Prop}(h:za X r)(hr:∀x lo hi H Q,r' x lo hi H Q->r x lo hi H Q):za X r':=λU s σ H x v vl vu lo hi sl Q I rx hs pl pu q=>h U s σ H x v vl vu lo hi sl Q I rx hs pl pu (hr _ _ _ _ _ q)
section
variable{t:TA}
def z5(t:TA):TE:=λσ H Q=>t σ H λxs H1=>xs.length<=sizeLine/\gS H1 (.tup xs) Q
def En(t:TA):TE:=λσ H Q=>t σ H λxs H1=>xs.length<=sizeLine/\gS H1 (.lst xs) Q
def fC{x1}(h:PA X es t):PE X (.Tuple es x1 pos) (z5 t):=by
 intro U s σ H Q I hq;refine wpAny_Tuple_spliced (aR (h pos U s σ H _ I hq) λus s1 ⟨xs,H1,I1,r,z,q⟩=>⟨by rw[<- r.length];exact z,?_⟩);have hf:=I1.aP.fresh (Aj _);refine⟨.ref s1.heap.objs.size,upd H1 s1.heap.objs.size (.tup xs),I1.laid (λb u e=>Ae _ e) (Aj _) ?_,rfl,q.at _ hf⟩;exact⟨z,us,r,⟨_,An _ rfl,rfl,_,rfl⟩⟩
def j6(h:PA X es t):PE X (.List es pos) (En t):=by
 intro U s σ H Q I hq;refine wpAny_List_spliced (aR (h pos U s σ H _ I hq) λus s1 ⟨xs,H1,I1,r,z,q⟩=>⟨by rw[<- r.length];exact z,?_⟩);have hf:=I1.aP.fresh (Aj _);refine⟨.ref s1.heap.objs.size,upd H1 s1.heap.objs.size (.lst xs),I1.laid (λb u e=>Ae _ e) (Aj _) ?_,rfl,q.at _ hf⟩;exact⟨z,us,0,r,An _ rfl⟩
def wA(K:Aa):R2:=λx y H Q=>match x with
 | .int i=>∃j,y=.int j/\Q (.int (i+j)) H
 | .str i=>∃j,y=.str j/\i.length+j.length<=sizeLine/\Q (.str (i++j)) H
 | .ref a=>(∃b xs zs,y=.ref b/\H a=al (.lst xs)/\H b=al (.lst zs)/\xs.length+zs.length<=sizeLine/\gS H (.lst (xs++zs)) Q)\/wD K x y H Q
 | _=>False
def uV:dN X (nl .Add) (wA X.K):=by
 refine((rL.or mZ).or (xV.or ox)).mono λx y H Q h=>?_;cases x with
 | int i=>obtain⟨j,rfl,q⟩:=h;exact .inl (.inl ⟨i,j,rfl,rfl,q⟩)
 | str i=>obtain⟨j,rfl,hl,q⟩:=h;exact .inl (.inr ⟨i,j,rfl,rfl,hl,q⟩)
 | ref a=>
  rcases h with⟨b,xs,zs,rfl,h1,h2,hz,q⟩ | h
  ·exact .inr (.inl ⟨a,b,xs,zs,rfl,rfl,h1,h2,hz,λp hp=>q.at p hp⟩)
  ·exact .inr (.inr h)
 | _=>exact h.elim
def uT:dN X (nl .Mult) (rI pi λi j=>.int (i*j)):=GJ λ_ _ _ _ _ _ _ hc q=>mul_int q hc
def wz(K:Aa):V->Option Int->Option Int->Hp->VK->Prop:=λx lo hi H Q=>∃a xs,x=.ref a/\bO K H a xs/\gS H (.lst (qf xs lo hi)) Q
def qM:za X (wz X.K):=uC.mono λx lo hi H Q ⟨a,xs,e,h,q⟩=>⟨a,xs,e,h,λp hp=>q.at p hp⟩
def nN:a8 X (.type "list") (λxs H Q=>∃p ys,xs=[.ref p]/\(bO X.K H p ys\/cf X.K H p ys)/\gS H (.lst ys) Q):=kE.mono λxs H Q ⟨p,ys,e,h,q⟩=>⟨p,ys,e,h,λl hl=>q.at l hl⟩
def qW:V->O V->Hp->VK->Prop:=λx vs H Q=>∃l xs y,x=.ref l/\vs=[y]/\H l=al (.lst xs)/\xs.length < sizeLine/\mK H l (.lst (xs++[y])) (Q .aL)
def eZ:qz X "list.append" qW:=pO.mono λx xs H Q ⟨l,ys,y,e1,e2,h,hz,q⟩=>⟨l,ys,y,e1,e2,h,hz,q.at⟩
def pG(K:Aa):V->O V->Hp->VK->Prop:=λx vs H Q=>∃l b xs zs,x=.ref l/\vs=[.ref b]/\H l=al (.lst xs)/\cf K H b zs/\xs.length+zs.length<=sizeLine/\mK H l (.lst (xs++zs)) (Q .aL)
def lG:qz X "list.extend" (pG X.K):=m8.mono λx xs H Q ⟨l,b,ys,zs,e1,e2,h1,h2,hz,q⟩=>⟨l,b,ys,zs,e1,e2,h1,h2,hz,q.at⟩
def EE:V->O V->Hp->VK->Prop:=λx vs H Q=>∃l xs y,x=.ref l/\vs=[]/\H l=al (.lst (xs++[y]))/\mK H l (.lst xs) (Q y)
def oC:qz X "list.pop" EE:=yg.mono λx xs H Q ⟨l,ys,y,e1,e2,h,q⟩=>⟨l,ys++[y],y,e1,e2,h,by simp,by rw[List.dropLast_concat];exact q.at⟩
def xB:tS:=λo i v H Q=>∃p xs k j,o=.ref p/\i=.int k/\H p=al (.lst xs)/\lM xs.length k=al j/\mK H p (.lst (xs.set j v)) Q
def pC:qp X xB:=set_list.mono λo i v H Q ⟨p,xs,k,j,e1,e2,h,hj,q⟩=>⟨p,xs,k,j,e1,e2,h,hj,q.at⟩
end
section
variable(K:Aa)(hK:X.K=K){t:TA}{name:Str}{zr:String}{r:V->O V->Hp->VK->Prop}
include hK
def bS:ud X (KW K):=hK▸yx
def oz:dN X (nl .Add) (wA K):=hK▸uV
def qL:za X (wz K):=hK▸qM
def xD(K:Aa):O V->Hp->VK->Prop:=λxs H Q=>∃x n,xs=[x]/\Gq K x H n/\Q (.int n) H
def cq:a8 X (.builtin "len") (xD K):=hK▸tL
def IB(K:Aa):O V->Hp->VK->Prop:=λxs H Q=>∃x c t b,xs=[x,.ty c]/\eG K H x t/\AQ K t (.type c)=al b/\Q (.bl b) H
def qi:a8 X (.builtin "isinstance") (IB K):=hK▸eE
def qU(K:Aa):O V->Hp->VK->Prop:=λxs H Q=>∃p ys,xs=[.ref p]/\(bO K H p ys\/cf K H p ys)/\gS H (.lst ys) Q
def nM:a8 X (.type "list") (qU K):=hK▸nN
def EL(K:Aa):O V->Hp->VK->Prop:=λxs H Q=>∃(p:ce) (bs:O Bool),xs=[.ref p]/\bO K H p (bs.map V.bl)/\Q (.bl (bs.all id)) H
def qm(hc:X.calm=true):a8 X (.builtin "all") (EL K):=hK▸nP hc
def xC(K:Aa):R2:=λx y H Q=>∃p q xs,x=.ref p/\y=.ref q/\bO K H p xs/\bO K H q []/\Q (.bl (!xs.isEmpty)) H
def mX(hu:X.A.units < cLine):dN X (li .NotEq) (xC K):=hK▸pL hu
def HX(K:Aa)(ta:TE):TT:=λσ H Q=>ta σ H λx H'=>∃k,v5 K x H' k/\Q k H'
def c9(ha:PE X a ta)(he:∀Á,isTrue a X.env Á=(do let v <- Á;u8 a.pos;mo [v] (truthy v))):PT X a (HX K ta):=hK▸q9 ha he
def oq(pa:PlainAttrs T)(slot:Slot T name zr)(yz:typeOf (.builtin zr)=pure (.type "method_descriptor"))(hm:HI X zr r)(ho:PE X o to)
  (cC:lc o name X.env (ii o X.env)=ii o X.env:=by rfl) (cB:xl À bo:=by rfl):PE X (.Call (.Attribute o name À) [] [] bo) (Et K T r to):=hK▸xQ pa slot yz hm ho cC cB
def iy(pa:PlainAttrs T)(slot:Slot T name zr)(yz:typeOf (.builtin zr)=pure (.type "method_descriptor"))(hm:HI X zr r)(ho:PE X o to)(ha:PA X (e::es) t)
  (cC:lc o name X.env (ii o X.env)=ii o X.env:=by rfl)
  (ko:Gs X bo (e::es):=by rfl)
  (cB:xl À bo:=by rfl) (hs:c6 X e es:=by rfl) (dB:eR X bo es:=by rfl) :
  PE X (.Call (.Attribute o name À) (e::es) [] bo) (KQ K T r to t):=hK▸ET pa slot yz hm ho ha cC ko cB hs dB
omit hK
end
structure mz(P:lf)(w:o0)(K:Aa)(mg:Str->Option bn)(base:gt)(x:Str)(k:Nat)(ps:List Str)(sp:Sp) where
 f:ce
 fd:sn
 ok:bf P w K mg base dS k f fd ps sp
 bi:Binds K fd ps []
 kp:AZ K (.ref f)=true
 at':mg x=al (.ref f)
section
variable{x:Str}{p:Pos}{t:TA}
def Es(sp:Sp)(t:TA):TE:=λσ H Q=>t σ H λvs H1=>sp vs H1 Q E0
def iw(G:mz X.prog X.w X.K X.mg X.base x k ps sp)(hr:aZ k' X.A)(hk:k<=k')(hg:Gl X x)(ha:PA X (e::es) t)(ej:dU x:=by decide)
  (he:c6 X e es:=by rfl) (bH:eR X pos es:=by rfl) :
  PE X (.Call (.Name x p) (e::es) [] pos) (Es sp t):=by
 intro U s σ H Q I h;refine AW (hU I hg G.at' ?_ ej);refine BS I.ok.mod.vm G.kp (aR (ha pos U s σ H _ I h) λus s1 ⟨vs,H1,I1,r,q⟩=>⟨I1.eN,?_⟩) he bH;refine jX G.ok (hr.mono hk) G.bi .nil dc I1 r ?_;rw[Bf];exact q
def wo(f:ce)(sp:Sp)(ta:TE)(t:TA):TE:=λσ H Q=>ta σ H λx H1=>x=.ref f/\t σ H1 λvs H2=>sp vs H2 Q E0
def uR{x':Str}(G:mz X.prog X.w X.K X.mg X.base x' k ps sp)(hr:aZ k' X.A)(hk:k<=k')(hf:PE X (.Name x p) ta)(ha:PA X (e::es) t)
  (he:c6 X e es:=by rfl) (bH:eR X pos es:=by rfl) :
  PE X (.Call (.Name x p) (e::es) [] pos) (wo G.f sp ta t):=by
 intro U s σ H Q I h;refine rB G.ok (hr.mono hk) hf G.kp G.bi .nil dc ha he bH U s σ H Q I ?_;unfold qH;unfold wo at h;simp;exact h
def xP(G:mz X.prog X.w X.K X.mg X.base x k ps sp)(hg:Gl X x)(ej:dU x:=by decide):PE X (.Name x p) (tC (.ref G.f)):=j7 hg G.at' rfl ej
end
section
theorem kI{xs:List α}(h0:0<=i)(h1:i < xs.length):∃v,cG xs i=al v/\xs[i.toNat]?=al v:=by
 have hk:i.toNat < xs.length:=by omega
 have q:=kH (by rw[Ai hk]);have e:i.toNat=i:=by omega
 rw[e]at q;exact⟨_,q,by rw[Ai hk]⟩
def mT{K:Aa}(h:H l=al (.lst xs)):Gz K "list" (.ref l) H:=.inl ⟨rfl,_,bO.of h⟩
def se{j:Int}(h1:-18446744073709551616 < i)(h2:i < 18446744073709551616):pi i j:=wj.ok (.inl ⟨h1,h2⟩)
def mul_r{j:Int}(h1:-18446744073709551616 < j)(h2:j < 18446744073709551616):pi i j:=wj.ok (.inr ⟨h1,h2⟩)
end
def cu(h:n<=1000):n<=sizeLine:=Dz (pA h)
section
variable(K:Aa)(hK:X.K=K)
include hK
def xG(K:Aa):R2:=λx y H Q=>∃p q xs,x=.ref p/\y=.ref q/\bO K H p xs/\bO K H q []/\Q (.bl xs.isEmpty) H
def mY(hu:X.A.units < cLine):dN X (li .Eq) (xG K):=by
 subst hK;intro U s σ H x y v u Q I rx ry h;obtain⟨p,q,xs,rfl,rfl,hp,hq,k⟩:=h;cases rx;cases ry;obtain⟨ak,r,pl,hz⟩:=I.list hp;obtain⟨bt,r2,EO,M9⟩:=I.list hq;cases r2;cases xs with
 | nil=>
  cases r;refine DG (Ee (e:=λ_=>true) pl.isList EO.isList rfl hu λj h1=>absurd h1 (by simp)) ?_;exact⟨.bl true,H,I,rfl,k⟩
 | cons y ys=>
  have hl:=r.length;refine DG (Dj pl.isList EO.isList (by simp at hl ⊢;intro z;subst z;simp at hl) hu) ?_;exact⟨.bl false,H,I,rfl,k⟩
omit hK
end
end L2
variable{items:Array A6}{p1:B7}
namespace L2
theorem Vals.lj:∀{xs:O V}{us:O bn},Vals xs us->Vals xs.reverse us.reverse
 | _,_,.nil=>.nil
 | _,_,.cons h t=>by rw[Cv,Cv];exact(Vals.lj t).append (.cons h .nil)
def yj:typeLookup (.type "list_reverseiterator") (Du "__len__")=pure be:=by kernel_rfl
def vc:typeLookup (.type "list_reverseiterator") (Du "__length_hint__")=pure (al (.builtin "list_reverseiterator.__length_hint__")):=by kernel_rfl
def uA:splitId "list_reverseiterator.__length_hint__"=al ("list_reverseiterator","__length_hint__"):=by kernel_rfl
def ux:isSubtype (.type "list_reverseiterator") (.type "list_reverseiterator")=pure true:=by kernel_rfl
def sH{s:ci}{r:ce}{Q:Bool->ci->Prop}(h:s.heap.IsRevIter r l i)(q:Q false s):db (em prog w) A (Builtin.List.listLengthHint (Aw r)) Q E s:=by
 refine Ab (DH h.typeIs yj ?_);refine Ab (DH h.typeIs vc ?_);dsimp only;rw[uA];dsimp only;exact Ab (wpAny_isInstance h.typeIs ux (Am q))
def jk{s:ci}{r S:ce}(hA:A.handled=be)(h:s.heap.IsRevIter r l (items.size-1))(hl:s.heap.IsList l items)(vv:l≠r)(JN:S≠r)(Lj:S≠l)(hz:items.size<=sizeLine)
  (hS:s.heap.get? S=al {cls:=B1 "list",data:=D7 #[]})
  (q:∀(h':gt) (tk:Nat) (Æ:Array bn) (c:Nat),(∀b o,b≠S->b≠r->s.heap.get? b=al o->h'.get? b=al o)->h'.get? S=al {cls:=B1 "list",data:=D7 Æ c}->ItemsOf (λi v=>items[items.size-1-i]?=al v) Æ items.size->R (.ok (.ret .none)) {s with heap:=h',toks:=tk}) :
  db (em prog w) A.in1 (Builtin.«list.__init__» {pos:=[Aw S,Aw r]})
   (λfin s'=>match fin with | Fin.done f=>R (Except.ok f) s' | Fin.again c'=>c'.quiet=true/\ww (em prog w) A c' R s') (λe s'=>R (Except.error e) s') s:=by
 unfold Builtin.«list.__init__»;refine Ab (wpAny_listItems hS rfl ?_);refine Ab ?_;refine CM hS rfl ?_ (by simp) (by simp);refine Ab (Dh ?_);have k1:∀b o,b≠S->s.heap.get? b=al o->(s.heap.update S (BU λ_=>#[])).get? b=al o:=λb o hb e=>by rw[Cr _ _ (Cg hb)];exact e
 have Lk:=Cy (BU λ_=>#[]) hS rfl;generalize s.heap.update S (BU λ_=>#[])=h1 at k1 Lk ⊢;have GX:h1.IsRevIter r l (items.size-1):=let ⟨o,e,p⟩:=h;⟨o,k1 _ _ (Cg JN) e,p⟩;have Nv:h1.IsList l items:=let ⟨o,e,p⟩:=hl;⟨o,k1 _ _ (Cg Lj) e,p⟩;unfold Builtin.List.listExtendWith;refine Ab (wpAny_typeOf GX.typeIs ?_);rw[if_neg (by
  have e1:Builtin.List.listSameRef (Aw S) (Aw r)=false:=by
   unfold Builtin.List.listSameRef;simpa using JN
  rw[e1];decide)]
 refine Ab (wpAny_pyIter_revIter GX ?_);refine Ab (Bk (sH GX ?_));refine Am ⟨plainId_quiet F.plain_extend_loop _,?_⟩;refine codeAny_extend_loopS (Walks.toS (Walks.listRev (A:=A.in1) hA r l vv items)) hz S (by simp[JN,Lj]) .none items.size 0 _ #[] _ (Nat.sub_zero _) (Bw _) ⟨Bw _,by simpa using GX,Nv⟩ Lk (ItemsOf.nil _) ?_;intro s' Æ c mv e io;rw[mv.eq_with];exact q s'.heap s'.toks Æ c (λb o n1 n2 e'=>mv.heap b o (by simp[n1,n2]) (k1 b o n1 e')) e io
def jt{s:ci}{r:ce}(hA:A.handled=be)(h:s.heap.IsRevIter r l (items.size-1))(hl:s.heap.IsList l items)(vv:l≠r)(hz:items.size<=sizeLine)
  (q:∀(h':gt) (tk:Nat) (Æ:Array bn) (c:Nat),(∀b o,b≠r->s.heap.get? b=al o->h'.get? b=al o)->h'.get? s.heap.objs.size=al {cls:=B1 "list",data:=D7 Æ c}->ItemsOf (λi v=>items[items.size-1-i]?=al v) Æ items.size->Q (.ref s.heap.objs.size) {s with heap:=h',toks:=tk}) :
  db (em prog w) A (call (B1 "list") [Aw r]) Q E s:=by
 have lr:=let ⟨_,e,_⟩:=h;Al e;have ll:=let ⟨_,e,_⟩:=hl;Al e;refine callType_codes F.called_list (F.typeCall_list_1 _) F.entry_list_init (code_list_new (Q₁:=λv s₁=>v=.ref s.heap.objs.size/\s₁={s with heap:=s.heap.push {cls:=B1 "list",data:=D7 #[]}}) _ ⟨rfl,rfl⟩) ?_;rintro obj s₁ ⟨rfl,rfl⟩;refine⟨⟨_,An _ rfl,rfl⟩,F.args_list_init_2 _ _,?_⟩;have kp:∀b o,s.heap.get? b=al o->(s.heap.push {cls:=B1 "list",data:=D7 #[]}).get? b=al o:=λb o e=>Ae _ e;refine jk hA (let ⟨o,e,p⟩:=h;⟨o,kp _ _ e,p⟩) (let ⟨o,e,p⟩:=hl;⟨o,kp _ _ e,p⟩) vv (λz=>by rw[z]at lr;exact A4 _ lr) (λz=>by rw[z]at ll;exact A4 _ ll) hz (An _ rfl) ?_;intro h' tk Æ c k e io;exact⟨rfl,q h' tk Æ c (λb o n e'=>k b o (λz=>by rw[z]at e';exact A4 _ (Al e')) n (kp b o e')) e io⟩
def Mf(K:Aa)(te:TE):TE:=λσ H Q=>te σ H λx H1=>∃p ys,x=.ref p/\bO K H1 p ys/\gS H1 (.lst ys.reverse) Q
section
variable(K:Aa)(hK:X.K=K){q1 q2:Pos}
include hK
theorem mW(hc:X.calm=true)(JB:Gl X "list")(Jw:X.mg "list"=be)(JA:Gl X "reversed")(Jv:X.mg "reversed"=be)(he:PE X e te)
  (vq:f8 [.Call (.Name "reversed" q1) [e] [] q2] X.env=(false,ii (.Call (.Name "reversed" q1) [e] [] q2) X.env)::f8 [] X.env:=by rfl) (mE:c6 X e []:=by rfl) :
  PE X (.Call (.Name "list" p1) [.Call (.Name "reversed" q1) [e] [] q2] [] p2) (Mf K te):=by
 intro U s σ H Q I h;subst hK;refine AW (fb I JB Jw boot_list ?_ ⋯ ⋯);refine Bc ?_ vq rfl;refine BE ?_;refine AW (fb I JA Jv boot_reversed ?_ ⋯ ⋯);refine Bc ?_ mE rfl;rw[mE];refine BE (aR (he U s σ H _ I h) λu s1 ⟨x,H1,I1,r1,pa,ys,ex,hS,q⟩=>Ct ?_);subst ex;cases r1;obtain⟨ak,rv,pl,hz⟩:=I1.list hS;have Â:=rv.length;have lp:=let ⟨_,e,_⟩:=pl.isList;Al e;refine call_reversed_list pl.isList ?_;refine Ct ?_;have kp:∀b o,s1.heap.get? b=al o->(s1.heap.push (revObj pa (ak.toArray.size-1))).get? b=al o:=λb o e=>Ae _ e;refine jt (I1.ok.hd hc) ⟨_,An _ rfl,rfl,rfl⟩ (let ⟨o,e,p⟩:=pl.isList;⟨o,kp _ _ e,p⟩) (λz=>by rw[z]at lp;exact A4 _ lp) (by rw[Af];omega) ?_;intro h' tk Æ c k e io;have ea:Æ=ak.reverse.toArray:=by
  obtain⟨z1,z2⟩:=io;apply Array.ext
  ·rw[z1,Af,Af,BN]
  ·intro j h1 h2;have:=z2 j Æ[j] (Array.getElem?_eq_getElem h1);rw[Af]at this;have hj:j < ak.length:=by rw[z1,Af]at h1;exact h1
   rw[List.getElem?_toArray]at this;have e3:ak.reverse[j]?=al Æ[j]:=by rw[List.getElem?_reverse hj];exact this
   rw[List.getElem_toArray];exact(Option.some.inj (((Ai (by rw[BN];exact hj)).symm.trans e3))).symm
 subst ea;have mE:s1.heap.objs.size<=(s1.heap.push (revObj pa (ak.toArray.size-1))).objs.size:=by simp
 exact⟨.ref _,upd H1 _ (.lst ys.reverse),I1.laid (λb o eb=>k b o (λz=>by rw[z]at eb;exact A4 _ (Al eb)) (kp b o eb)) mE ⟨by rw[BN];exact hz,ak.reverse,c,rv.lj,e⟩,rfl,q.at _ (I1.aP.fresh mE)⟩
end
end L2
variable{y:Bo}
namespace My
def Wd(x:Str):Prop:=1<=x.length/\x.length<=8/\∀c∈x.cps.toList,97<=c/\c < 123
def Part(x:Str)(n:Nat):Prop:=x.length<=n/\∀c∈x.cps.toList,97<=c/\c < 123
theorem Part.append{x:Str}{m:Nat}(a:Part x m)(b:Part y n):Part (x++y) (m+n):=by
 refine⟨?_,λc hc=>?_⟩
 ·rw[Ah];have:=a.1;have:=b.1;omega
 ·rw[AN,Bu]at hc;rcases Bs.mp hc with h | h
  ·exact a.2 c h
  ·exact b.2 c h
theorem jl{d st:Int}(h:st=1\/st=3\/st=5\/st=7\/st=9\/st=11)(hn:n<=26):((BW n).map λk:Nat=>al (97+((d+st*(0+(k:Int))) % 26).toNat)).Nodup:=by
 unfold List.Nodup;rw[List.pairwise_map];refine List.Pairwise.imp_of_mem ?_ List.pairwise_lt_range;intro a b ha hb FJ hz;have JL:=DV.mp hb;have Fq:=Option.some.inj hz;rcases h with rfl | rfl | rfl | rfl | rfl | rfl <;> omega
def ka{g:α->β}{l:List α}(h:(l.map g).Nodup):l.Nodup:=(List.pairwise_map.mp h).imp λh e=>h (congrArg g e)
def pd(x y:Str)(c:Nat):(x++⟨#[c]⟩++y).cps[x.length]?=al c:=by
 show((x.cps++#[c])++y.cps)[x.cps.size]?=al c;rw[Array.getElem?_append_left (by simp),Array.getElem?_append_right (Aj _)];simp
def nj:∀k:_root_.Fin 26,cG ("abcdefghijklmnopqrstuvwxyz":Str).cps.toList (k.val:Int)=al (97+k.val):=by decide +kernel
theorem pS{n:Int}(h0:0<=n)(h1:n < 26):cG ("abcdefghijklmnopqrstuvwxyz":Str).cps.toList n=al (97+n.toNat):=by
 have e:=nj ⟨n.toNat,by omega⟩;have e2:n.toNat=n:=by omega
 rw[e2]at e;exact e
def rN{c:Nat}(h0:97<=c)(h1:c < 123):Part ⟨#[c]⟩ 1:=by
 refine⟨Aj _,λd hd=>?_⟩;have:d=c:=by simpa using hd
 subst this;exact⟨h0,h1⟩
theorem uo{x:Str}{c:Nat}(a:Part x 2)(b:Part y 5)(h0:97<=c)(h1:c < 123):Wd (x++⟨#[c]⟩++y):=by
 have q:=(a.append (rN h0 h1)).append b;refine⟨?_,q.1,q.2⟩;rw[Ah,Ah];show 1<=x.length+1+y.length;omega
inductive Tr where
 | leaf (x:Str)
 | node (l r:Tr)
def Tr.aj:Tr->O Str
 | .leaf x=>[x]
 | .node l r=>l.aj++r.aj
def Tr.size:Tr->Nat
 | .leaf _=>1
 | .node l r=>l.size+r.size+1
def Tr.depth:Tr->Nat
 | .leaf _=>0
 | .node l r=>max l.depth r.depth+1
def Tr.Ws(t:Tr):Prop:=∀x∈t.aj,Wd x
theorem Tr.iG:∀t:Tr,1<=t.aj.length
 | .leaf _=>Aj _
 | .node l r=>by have:=l.iG;show 1<=(l.aj++r.aj).length;rw[Ad];omega
theorem Tr.iZ:∀t:Tr,t.depth < t.aj.length
 | .leaf _=>Bz 0
 | .node l r=>by
  have h1:=l.iZ;have h2:=r.iZ;have h4:=r.iG;show max l.depth r.depth+1 < (l.aj++r.aj).length;rw[Ad];omega
theorem Tr.size_eq:∀t:Tr,t.size+1=2*t.aj.length
 | .leaf _=>rfl
 | .node l r=>by
  have h1:=l.size_eq;have h2:=r.size_eq;show l.size+r.size+1+1=2*(l.aj++r.aj).length;rw[Ad];omega
theorem lK(K:Aa):AQ K (.type "str") (.type "str")=al true:=rfl
def iL:∀k:_root_.Fin 26,(!(Builtin.Str.occurrences ("abcdefghijklmnopqrstuvwxyz":Str) ⟨#[97+k.val]⟩ 0 ("abcdefghijklmnopqrstuvwxyz":Str).length 1).isEmpty)=true:=by decide +kernel
theorem nr{c:Nat}(h0:97<=c)(h1:c < 123):(!(Builtin.Str.occurrences ("abcdefghijklmnopqrstuvwxyz":Str) ⟨#[c]⟩ 0 ("abcdefghijklmnopqrstuvwxyz":Str).length 1).isEmpty)=true:=by
 have e:=iL ⟨c-97,by omega⟩;have e2:97+(c-97)=c:=by omega
 simp only[e2]at e;exact e
def bP(ts:O Tr):Nat:=(ts.map Tr.size).sum
def cj(a b:O Tr):bP (a++b)=bP a+bP b:=by unfold bP;rw[Bt,List.sum_append]
def gq(t:Tr):bP [t]=t.size:=by simp[bP]
theorem Tr.size_pos:∀t:Tr,1<=t.size
 | .leaf _=>Aj _
 | .node l r=>by show 1<=l.size+r.size+1;omega
theorem jD:∀ts:O Tr,ts.length<=bP ts
 | []=>Aj _
 | t::r=>by have:=jD r;have:=t.size_pos;show r.length+1<=t.size+bP r;omega
end My
variable{e1 e2:BM}{t1:L2.TE}
namespace L2
section
variable(K:Aa)(hK:X.K=K){k1 k2 k3:gl}{t2:TE}
def Mh(a b c:Str)(t1 t2:TE):TE:=λσ H Q=>t1 σ H λx H1=>∃u,x=.str u/\u.length<=1000/\t2 σ H1 λy H2=>∃v,y=.str v/\v.length<=1000/\Q (.str (Bx++a++u++b++v++c)) H2
theorem ES{a b c:Str}(h1:PE X k1 (tC (.str a)))(NA:PE X e1 t1)(h2:PE X k2 (tC (.str b)))(yF:PE X e2 t2)(h3:PE X k3 (tC (.str c)))(la:a.length+b.length+c.length<=100:=by decide +kernel) :
  PE X (.JoinedStr [k1,.FormattedValue e1 (-1) be p1,k2,.FormattedValue e2 (-1) be p2,k3] pos) (Mh a b c t1 t2):=by
 intro U s σ H Q I h;refine JoinedStr_many ?_;have e0:(Bx:Str).length=0:=rfl;have big:3000<=sizeLine:=by rw[wv];decide
 refine wf (aR (h1 U s σ H (λx H1=>x=.str a/\H1=H) I ⟨rfl,rfl⟩) λu0 s0 ⟨x0,H0,I0,r0,N4,N9⟩=>?_);subst N4;subst N9;obtain⟨t0,rfl⟩:=r0;refine⟨by rw[Ah];omega,?_⟩;refine wf (FormattedValue_plain (aR (NA U s0 σ _ _ I0 h) λu1 s1 ⟨x1,H1,I1,r1,u,N3,lu,h⟩=>?_));subst N3;obtain⟨OK,rfl⟩:=r1;refine formatField_str (λt' tk=>⟨by rw[Ah,Ah];omega,?_⟩) ∅;refine wf (aR (h2 U _ σ H1 (λx H2=>x=.str b/\H2=H1) (I1.tok _) ⟨rfl,rfl⟩) λu2 s2 ⟨x2,H2,I2,r2,N2,N8⟩=>?_);subst N2;subst N8;obtain⟨OJ,rfl⟩:=r2;refine⟨by rw[Ah,Ah,Ah];omega,?_⟩;refine wf (FormattedValue_plain (aR (yF U s2 σ _ _ I2 h) λu3 s3 ⟨x3,H3,I3,r3,v,N1,lv,h⟩=>?_));subst N1;obtain⟨OI,rfl⟩:=r3;refine formatField_str (λt' tk=>⟨by rw[Ah,Ah,Ah,Ah];omega,?_⟩) ∅;refine wf (aR (h3 U _ σ H3 (λx H4=>x=.str c/\H4=H3) (I3.tok _) ⟨rfl,rfl⟩) λu4 s4 ⟨x4,H4,I4,r4,N0,N7⟩=>?_);subst N0;subst N7;obtain⟨OH,rfl⟩:=r4;refine⟨by rw[Ah,Ah,Ah,Ah,Ah];omega,?_⟩;refine joinParts_nil ⟨.str _,_,I4.tok _,⟨_,rfl⟩,h⟩ (by rw[Ah,Ah,Ah,Ah,Ah];omega)
def xE:V->O V->Hp->VK->Prop:=λx vs H Q=>∃Ê l a b,x=.str Ê/\vs=[.ref l]/\H l=al (.lst [.str a,.str b])/\Ê.length+a.length+b.length<=3000/\Ê.length<=100/\Q (.str (a++Ê++b)) H
theorem sf:qz X "str.join" xE:=by
 intro U s σ H x vs v us Q I rx rv h;obtain⟨Ê,l,a,b,rfl,rfl,hH,hz,hs,q⟩:=h;obtain⟨t,rfl⟩:=rx;obtain⟨u,rfl,ru⟩:=rv.one;cases ru;have big:4000<=sizeLine:=by rw[wv];decide
 obtain⟨z,ak,n,r,hl,e⟩:=I.gT hH;obtain⟨u0,u1,rfl,r0,r1⟩:=vals2 r;obtain⟨ta,rfl⟩:=r0;obtain⟨tb,rfl⟩:=r1;refine xz F.slot_str_join (typeIs_str _ _ _) F.entry_str_join (F.args_str_join_2 _ _) (meets_str_join_list Ê t l [(a,ta),(b,tb)] ?_) ⟨⟨_,e,rfl,_,rfl⟩,?_⟩
 ·unfold Builtin.Str.tooLong;simp;omega
 ·show(Made.str (Builtin.Str.glued Ê [a,b])).post _ s;have eg:Builtin.Str.glued Ê [a,b]=a++Ê++b:=rfl;rw[eg];have lg:(a++Ê++b).length<=sizeLine:=by rw[Ah,Ah];omega
  exact⟨lg,⟨.str _,H,I.tok _,⟨_,rfl⟩,q⟩⟩
include hK
end
end L2
namespace My
def Tr.post:Tr->O Tr
 | .leaf x=>[.leaf x]
 | .node l r=>l.post++r.post++[.node l r]
def Tr.aO:∀t:Tr,t.post.length=t.size
 | .leaf _=>rfl
 | .node l r=>by show(l.post++r.post++[_]).length=l.size+r.size+1;rw[Ad,Ad,l.aO,r.aO];rfl
def da(ts:O Tr):O Tr:=(ts.map Tr.post).flatten
def dq(a b:O Tr):da (a++b)=da a++da b:=by unfold da;rw[Bt,List.flatten_append]
def gs(t:Tr):da [t]=t.post:=by simp[da]
def pI(t u:Tr):da [t,u]=t.post++u.post:=by simp[da]
inductive Ent where
 | word (x:Str)
 | pair (a b:Nat)
def Tr.nd:Tr->Nat->O Ent
 | .leaf x,_=>[.word x]
 | .node l r,o=>l.nd o++r.nd (o+l.size)++[.pair (o+l.size-1) (o+l.size+r.size-1)]
def Tr.du:∀(t:Tr) (o:Nat),(t.nd o).length=t.size
 | .leaf _,_=>rfl
 | .node l r,o=>by show(l.nd o++r.nd (o+l.size)++[_]).length=l.size+r.size+1;rw[Ad,Ad,l.du,r.du];rfl
def run:O Tr->O Ent->O Nat->Option (O Ent×O Nat)
 | [],Z,ls=>al (Z,ls)
 | .leaf x::k,Z,ls=>run k (Z++[.word x]) (Z.length::ls)
 | .node _ _::k,Z,b::a::ls=>run k (Z++[.pair a b]) (Z.length::ls)
 | .node _ _::_,_,_=>be
theorem iq:∀(t:Tr) (k:O Tr) (Z:O Ent) (ls:O Nat),run (t.post++k) Z ls=run k (Z++t.nd Z.length) ((Z.length+t.size-1)::ls)
 | .leaf x,k,Z,ls=>rfl
 | .node l r,k,Z,ls=>by
  have e1:(Tr.node l r).post++k=l.post++(r.post++(Tr.node l r::k)):=by show l.post++r.post++[_]++k=_;simp
  rw[e1,iq l,iq r];have e2:(Z++l.nd Z.length).length=Z.length+l.size:=by rw[Ad,l.du]
  rw[e2];show run k _ _=run k _ _;have e3:(Z++l.nd Z.length++r.nd (Z.length+l.size)).length=Z.length+(Tr.node l r).size-1:=by
   rw[Ad,Ad,l.du,r.du];show _=Z.length+(l.size+r.size+1)-1;omega
  rw[e3];have e4:Z++(Tr.node l r).nd Z.length=Z++l.nd Z.length++r.nd (Z.length+l.size)++[.pair (Z.length+l.size-1) (Z.length+l.size+r.size-1)]:=by
   show Z++(l.nd Z.length++r.nd (Z.length+l.size)++[_])=_;simp
  rw[e4]
def pF(t:Tr):run t.post [] []=al (t.nd 0,[t.size-1]):=by
 have:=iq t [] [] [];rw[Bf]at this;rw[this];show al ([]++t.nd 0,[0+t.size-1])=_;simp
theorem Tr.gw:∀t:Tr,t.post[t.size-1]?=al t
 | .leaf _=>rfl
 | .node l r=>by
  show(l.post++r.post++[_])[l.size+r.size+1-1]?=_;rw[Ak (by rw[Ad,l.aO,r.aO];omega),Ad,l.aO,r.aO];have:l.size+r.size+1-1-(l.size+r.size)=0:=by omega
  rw[this];rfl
theorem rZ:∀(t:Tr) (o k:Nat) (u:Tr),t.post[k]?=al u->match u with
  | .leaf x=>(t.nd o)[k]?=al (.word x)
  | .node l r=>∃a b,(t.nd o)[k]?=al (.pair (o+a) (o+b))/\a < k/\b < k/\t.post[a]?=al l/\t.post[b]?=al r
 | .leaf x,o,k,u,h=>by
  have hk:k=0:=by
   have:=(Ag.mp h).1;simp[Tr.post]at this;exact this
  subst hk;cases h;rfl
 | .node l r,o,k,u,h=>by
  have hp:(Tr.node l r).post=l.post++r.post++[.node l r]:=rfl;have hn:(Tr.node l r).nd o=l.nd o++r.nd (o+l.size)++[.pair (o+l.size-1) (o+l.size+r.size-1)]:=rfl;have lp:=l.aO;have rp:=r.aO;have ln:=l.du o;have rn:=r.du (o+l.size);rw[hp]at h;by_cases c1:k < l.size
  ·have h':l.post[k]?=al u:=by
    rw[A2,Ap ∅]at h;exact h
   have q:=rZ l o k u h';have en:((Tr.node l r).nd o)[k]?=(l.nd o)[k]?:=by rw[hn,A2,Ap ∅]
   cases u with
   | leaf x=>rw[en];exact q
   | node l2 r2=>
    obtain⟨a,b,q1,q2,q3,q4,q5⟩:=q;refine⟨a,b,by rw[en];exact q1,q2,q3,?_,?_⟩
    ·rw[hp,A2,Ap ∅];exact q4
    ·rw[hp,A2,Ap ∅];exact q5
  ·by_cases c2:k < l.size+r.size
   ·have h':r.post[k-l.size]?=al u:=by
     rw[A2,Ak ∅,Ap ∅,lp]at h;exact h
    have q:=rZ r (o+l.size) (k-l.size) u h';have en:((Tr.node l r).nd o)[k]?=(r.nd (o+l.size))[k-l.size]?:=by rw[hn,A2,Ak ∅,Ap ∅,ln]
    cases u with
    | leaf x=>rw[en];exact q
    | node l2 r2=>
     obtain⟨a,b,q1,q2,q3,q4,q5⟩:=q;refine⟨l.size+a,l.size+b,by rw[en,q1,D3,D3],by omega,by omega,?_,?_⟩
     ·rw[hp,A2,Ak ∅,Ap ∅,lp,Cn];exact q4
     ·rw[hp,A2,Ak ∅,Ap ∅,lp,Cn];exact q5
   ·have hk:k=l.size+r.size:=by
     have:=(Ag.mp h).1;rw[Ad,Ad,lp,rp]at this;simp at this;omega
    subst hk;rw[Ak (by rw[Ad];omega),Ad,lp,rp,Dy]at h;cases h;have s1:=l.size_pos;have s2:=r.size_pos;refine⟨l.size-1,l.size+(r.size-1),?_,by omega,by omega,?_,?_⟩
    ·rw[hn,Ak (by rw[Ad];omega),Ad,ln,rn,Dy];have e1:o+l.size-1=o+(l.size-1):=by omega
     have e2:o+l.size+r.size-1=o+(l.size+(r.size-1)):=by omega
     rw[e1,e2];rfl
    ·rw[hp,A2,Ap ∅];exact l.gw
    ·rw[hp,A2,Ak ∅,Ap ∅,lp,Cn];exact r.gw
def Tr.text:Tr->Str
 | .leaf x=>x
 | .node l r=>Bx++"("++l.text++","++r.text++")"
theorem Tr.text_len:∀t:Tr,t.Ws->t.text.length+3<=11*t.aj.length
 | .leaf x,h=>by have:=(h x (AY.mpr rfl)).2.1;show x.length+3<=11*1;omega
 | .node l r,h=>by
  have h1:=l.text_len λx hx=>h x (Bn _ hx);have h2:=r.text_len λx hx=>h x (Av _ hx);show(Bx++"("++l.text++","++r.text++")").length+3<=11*(l.aj++r.aj).length;rw[Ah,Ah,Ah,Ah,Ah,Ad];have e1:Bx.length=0:=rfl;have e2:("(":Str).length=1:=by decide +kernel
  have e3:(",":Str).length=1:=by decide +kernel
  have e4:(")":Str).length=1:=by decide +kernel
  omega
def Tr.tl(t:Tr):O Nat:=t.text.cps.toList
def Ga:("(":Str).cps.toList=[40]:=by decide +kernel
def Gb:(",":Str).cps.toList=[44]:=by decide +kernel
def F9:(")":Str).cps.toList=[41]:=by decide +kernel
def nX(l r:Tr)(k:O Nat):(Tr.node l r).tl++k=40::(l.tl++(44::(r.tl++(41::k)))):=by
 show(Bx++"("++l.text++","++r.text++")").cps.toList++k=_;rw[AN,AN,AN,AN,AN,Bu,Bu,Bu,Bu,Bu,Ga,Gb,F9];have:Bx.cps.toList=[]:=rfl;rw[this];simp[Tr.tl]
def uy{x:Str}(h:x.cps.toList=y.cps.toList):x=y:=by
 cases x;cases y;congr 1;exact Array.toList_inj.mp h
end My
variable{σ:L2.St}{i:Nat}
namespace L2
def fK{s:ci}{t:ce}{x:bn}(h:s.heap.IsTupleIter it t i)(ht:s.heap.IsTuple t items)(hx:items[i]?=al x)
  (q:∀h':gt,h'.IsTupleIter it t (i+1)->B6 it s.heap h'->Q x {s with heap:=h'}):db (em prog w) A (Builtin.SmallTypes.nextOf (.ref it)) Q E s:=by
 unfold Builtin.SmallTypes.nextOf;refine Ab (Bp h.typeIs BD (B8 BD h.typeIs CW ?_ (CK _)));obtain⟨o,ho,hc,hd⟩:=id h;obtain⟨ot,Js,Nf,n,Jq⟩:=id ht;show db _ _ (field (.ref it) 0 >>= λseq=>_) _ _ s;refine Ab (A7 ho hd rfl ?_);refine Ab (A7 ho hd rfl ?_);refine Ab (Be Js Jq ?_);show db _ _ (match items[i]? with | some x=>(do setField (.ref it) 1 (im (i+1));ret x) | none=>_) _ _ s;rw[hx];refine Ab (wpAny_setField ho hd (show 1 < 2 by decide) ?_);refine Am ⟨x,rfl,Am (q _ ⟨_,Cy _ ho (by rw[Obj.isFreed_of_fields (Obj.data_mapFields hd _)]),by rw[Obj.cls_mapFields];exact hc,by rw[Obj.data_mapFields hd];rfl⟩ (B6.update ..))⟩
def uz{s:ci}{Q:α->ci->Prop}(hA:A.handled=be)
  (q:∀(h':gt) (e:ce),(∀b o,s.heap.get? b=al o->h'.get? b=al o)->(∃o,h'.get? e=al o/\o.cls=.type "StopIteration")->E (.ref e) {s with heap:=h'}):db (em prog w) A (Builtin.SmallTypes.stopIteration (α:=α)) Q E s:=by
 refine Ab ?_;refine Ab (C6 ?_ ⋯);refine Ab (DT rfl ?_);refine Cu ?_ (sizeOk_excFields ..);unfold raiseNew;refine Ab (wpAny_handled ?_);rw[hA];refine wpAny_throw (q _ _ (λb o e=>Ae _ (Ae _ e)) ⟨_,An _ rfl,rfl⟩)
def gC{s:ci}{t:ce}(hA:A.handled=be)(h:s.heap.IsTupleIter it t i)(ht:s.heap.IsTuple t items)(hx:items[i]?=be)
  (q:∀(h':gt) (e:ce),Heap.ExtBut it s.heap h'->(∃o,h'.get? e=al o/\o.cls=.type "StopIteration")->E (.ref e) {s with heap:=h'}):db (em prog w) A (Builtin.SmallTypes.nextOf (.ref it)) Q E s:=by
 unfold Builtin.SmallTypes.nextOf;refine Ab (Bp h.typeIs BD (B8 BD h.typeIs CW ?_ (CK _)));obtain⟨o,ho,hc,hd⟩:=id h;obtain⟨ot,Js,Nf,n,Jq⟩:=id ht;show db _ _ (field (.ref it) 0 >>= λseq=>_) _ _ s;refine Ab (A7 ho hd rfl ?_);refine Ab (A7 ho hd rfl ?_);refine Ab (Be Js Jq ?_);show db _ _ (match items[i]? with | some x=>(do setField (.ref it) 1 (im (i+1));ret x) | none=>(do rule _;setField (.ref it) 0 .none;Builtin.SmallTypes.stopIteration)) _ _ s;rw[hx];refine Ab (C5 ?_);refine Ab (wpAny_setField ho hd (show 0 < 2 by decide) ?_);refine uz hA λh' e k ex=>q h' e (λb o n eb=>k b o ?_) ex;rw[(B6.update _ _ _).2 b n];exact eb
def Inv.qD{s:ci}{t':Nat}{a:ce}{o:HO}(I:Inv X U σ H s)(hf:∀b∈ch,jx X U H b)(k:∀b u,b∉ch->s.heap.get? b=al u->h'.get? b=al u)
  (hp:s.heap.objs.size<=a) (new:bq X.prog X.w (upd H a o) h' a o):Inv X U σ (upd H a o) {s with heap:=h',toks:=t'}:=by
 have hn:=I.aP.fresh hp;have wG:∀b u,H b=al u->b∉ch:=λb u e z=>by rw[(hf b z).1]at e;cases e
 refine I.step (λb hb=>⟨(hf b hb).2.2.2.1,(hf b hb).2.1,(hf b hb).2.2.2.2.1,(hf b hb).2.2.2.2.2⟩) (λb u _ _ hc e _=>k b u hc e) (λb u _ _ hc e _=>⟨u.slots,k b u hc e⟩)
  (λb u _ e n=>by rw[ah (AE (Au (Al e) hp))];exact n) (λb u hc e=>⟨u,k b u hc e⟩) (λb xs e=>by rw[ah (aJ e hn)];exact e) (λb u xs e=>by rw[ah (aJ e hn)];exact e)
  (λb ps e=>⟨#[],by rw[ah (aJ e hn),e];simp⟩) (λm hm=>?_) (λb u e=>?_) I.bare
 ·obtain⟨o',es,ep,ho,r⟩:=hm;exact⟨o',es,ep,k _ o' (λz=>(hf _ z).2.1 rfl) ho,r⟩
 ·by_cases hb:b=a
  ·subst hb;rw[aB]at e;cases e;exact new
  ·rw[ah hb]at e;refine(I.aP b u e).k8 (λc v hc q=>k c v ?_ q) (λc q=>by rw[ah (aJ q hn)];exact q) λc xs q=>by rw[ah (aJ q hn)];exact q
   rcases hc with z | z
   ·rw[z];exact wG b u e
   ·exact wG c _ z
def Inv.ur{s:ci}{t':Nat}(I:Inv X U σ H s)(hf:∀b∈ch,jx X U H b)(k:∀b u,b∉ch->s.heap.get? b=al u->h'.get? b=al u) :
  Inv X U σ H {s with heap:=h',toks:=t'}:=by
 have wG:∀b u,H b=al u->b∉ch:=λb u e z=>by rw[(hf b z).1]at e;cases e
 refine I.step (λb hb=>⟨(hf b hb).2.2.2.1,(hf b hb).2.1,(hf b hb).2.2.2.2.1,(hf b hb).2.2.2.2.2⟩) (λb u _ _ hc e _=>k b u hc e) (λb u _ _ hc e _=>⟨u.slots,k b u hc e⟩)
  (λ_ _ _ _ n=>n) (λb u hc e=>⟨u,k b u hc e⟩) (λ_ _ e=>e) (λ_ _ _ e=>e) (λb ps e=>⟨#[],by rw[e];simp⟩) (λm hm=>?_) (λb u e=>?_) I.bare
 ·obtain⟨o',es,ep,ho,r⟩:=hm;exact⟨o',es,ep,k _ o' (λz=>(hf _ z).2.1 rfl) ho,r⟩
 ·refine(I.aP b u e).k8 (λc v hc q=>k c v ?_ q) (λ_ q=>q) λ_ _ q=>q;rcases hc with z | z
  ·rw[z];exact wG b u e
  ·exact wG c _ z
def kY(h:Vals xs us):∀{i:Nat}{x:V},xs[i]?=al x->∃u,us[i]?=al u/\RelV x u:=by
 induction h with
 | nil=>intro i x e;simp at e
 | cons r t ih=>
  intro i x e;cases i with
  | zero=>simp at e;subst e;exact⟨_,rfl,r⟩
  | succ i=>exact ih (by simpa using e)
end L2
variable{H1:L2.Hp}{ι:O AR}
namespace PL
section
variable{K:Aa}
def tU(K:Aa)(H:Hp)(a:ce)(xs:O V):Prop:=(∃o,H a=al (.bX o (.lst xs)))\/
  ∃(o:Obj) (ak:Array bn) (n:Nat),K.lookup a=al o/\o.cls=.type "list"/\o.dict=be/\o.data=.seq ak n/\ak.size<=sizeLine/\Vals xs ak.toList
def tU.sq{a:ce}(h:tU K H a xs):bO K H a xs:=h.elim (λh=>.inl (.inr h)) .inr
def Ky(b:ce)(h:gt):Prop:=∃(ns:O Int) (ak:O bn) (n:Nat),ns.length<=sizeLine/\Vals (ns.map V.int) ak/\h.get? b=al {cls:=.type "list",data:=.seq ak.toArray n}
def Kv(a b:ce)(m:Nat)(h:gt):Prop:=∃(s c:Int) (ak:O bn) (n:Nat),0<=c/\c<=m/\Vals [.ref b,.int s,.int c] ak/\h.get? a=al {cls:=.type "list",data:=.seq ak.toArray n}
def Kw(H:Hp)(a:ce)(m:Nat):Prop:=∃b,a≠b/\H a=al (.ext (Kv a b m))/\H b=al (.ext (Ky b))
def ja(H:Hp)(a:ce):Prop:=∃m,Kw H a m
def xk(h:∀p φ,H p=al (.ext φ)->H' p=al (.ext φ)):∀a,ja H a->ja H' a:=λ_ ⟨m,b,n,e1,e2⟩=>⟨m,b,n,h _ _ e1,h _ _ e2⟩
structure aD(K:Aa)(H H':Hp):Prop where
 t:∀p vs,H p=al (.tup vs)->H' p=al (.tup vs)
 z:∀p o u,H p=al (.bX o u)->H' p=al (.bX o u)
 x:∀a,ja H a->ja H' a
def aD.f{H H':Hp}(t:aD K H H')(p:ce)(vs:O V)(h:tU K H p vs):tU K H' p vs:=h.elim (λ⟨o,h⟩=>.inl ⟨o,t.z _ _ _ h⟩) .inr
def aD.refl(H:Hp):aD K H H:=⟨λ_ _ h=>h,λ_ _ _ h=>h,λ_ h=>h⟩
def aD.trans(a:aD K H H1)(b:aD K H1 H2):aD K H H2:=⟨λp vs h=>b.t p vs (a.t p vs h),λp o w h=>b.z p o w (a.z p o w h),λp h=>b.x p (a.x p h)⟩
def _root_.L2.cI.cb(s:cI H H'):aD K H H':=⟨λp vs h=>s _ _ h,λp o u h=>s _ _ h,xk λp φ h=>s _ _ h⟩
inductive PV where
 | aL | bl (b:Bool) | int (i:Int) | str (x:Str) | tup (l:List PV) | ref (n:Nat) | ty (n:String) | cl (l:List PV) | dv (ks vs:List PV) | ob (ns:List Str) (l:List PV) | hand
def kP:Key->PV
 | .inl i=>.int i
 | .inr x=>.str x
inductive PO where
 | lst (xs:List PV) | dk (aM:List (Key×PV)) | dt (aM:List (List Key×PV)) | Mx (φ:List V->Prop)
abbrev PH:=O PO
abbrev kU:=O (Option PV)
mutual
inductive VR(K:Aa)(ι:List ce)(H:Hp):V->PV->Prop
 | aL:VR K ι H .aL .aL
 | bl (b:Bool):VR K ι H (.bl b) (.bl b)
 | int (i:Int):VR K ι H (.int i) (.int i)
 | str (x:Str):VR K ι H (.str x) (.str x)
 | ty (n:String):VR K ι H (.ty n) (.ty n)
 | tup {p:ce}{vs:List V}{l:List PV} (h:H p=al (.tup vs)) (r:ay K ι H vs l):VR K ι H (.ref p) (.tup l)
 | ref {n:Nat}{a:ce} (h:ι[n]?=al a):VR K ι H (.ref a) (.ref n)
 | cl {a:ce}{vs:List V}{l:List PV} (h:tU K H a vs) (r:ay K ι H vs l):VR K ι H (.ref a) (.cl l)
 | dk {a:ce}{o:Obj}{aM:List (Key×V)}{ks l:List PV} (h:H a=al (.bX o (.dK aM))) (e:ks=aM.map λkv=>kP kv.1) (r:ay K ι H (aM.map (·.2)) l):VR K ι H (.ref a) (.dv ks l)
 | dt {a:ce}{o:Obj}{aM:List (List Key×V)}{ks l:List PV} (h:H a=al (.bX o (.dT aM))) (e:ks=aM.map λkv=>.tup (kv.1.map kP)) (r:ay K ι H (aM.map (·.2)) l):VR K ι H (.ref a) (.dv ks l)
 | ob {a C dx:ce}{o:Obj}{fs:List (Str×V)}{ns:List Str}{l:List PV} (h:H a=al (.bX o (.ins C dx fs))) (c:o9 K C) (na:∀f∈ns,b9 K C f) (e:ns=fs.map (·.1)) (r:ay K ι H (fs.map (·.2)) l):VR K ι H (.ref a) (.ob ns l)
 | hand {a:ce} (h:ja H a):VR K ι H (.ref a) .hand
inductive ay(K:Aa)(ι:List ce)(H:Hp):List V->List PV->Prop
 | nil:ay K ι H [] []
 | cons {v:V}{p:PV}{vs:List V}{ps:List PV} (r:VR K ι H v p) (t:ay K ι H vs ps):ay K ι H (v::vs) (p::ps)
end
section
variable{ι':O ce}
mutual
theorem VR.mono(ht:aD K H H')(hi:∀(n:Nat) (a:ce),ι[n]?=al a->ι'[n]?=al a):∀{v:V}{p:PV},VR K ι H v p->VR K ι' H' v p
 | _,_,.aL=>.aL
 | _,_,.bl b=>.bl b
 | _,_,.int i=>.int i
 | _,_,.str x=>.str x
 | _,_,.ty n=>.ty n
 | _,_,.tup h r=>.tup (ht.t _ _ h) (ay.mono ht hi r)
 | _,_,.cl h r=>.cl (ht.f _ _ h) (ay.mono ht hi r)
 | _,_,.dk h e r=>.dk (ht.z _ _ _ h) e (ay.mono ht hi r)
 | _,_,.dt h e r=>.dt (ht.z _ _ _ h) e (ay.mono ht hi r)
 | _,_,.ob h c na e r=>.ob (ht.z _ _ _ h) c na e (ay.mono ht hi r)
 | _,_,.hand h=>.hand (ht.x _ h)
 | _,_,.ref h=>.ref (hi _ _ h)
theorem ay.mono(ht:aD K H H')(hi:∀(n:Nat) (a:ce),ι[n]?=al a->ι'[n]?=al a):∀{vs:O V}{ps:O PV},ay K ι H vs ps->ay K ι' H' vs ps
 | _,_,.nil=>.nil
 | _,_,.cons r t=>.cons (VR.mono ht hi r) (ay.mono ht hi t)
end
theorem ay.length:∀{vs:O V}{ps:O PV},ay K ι H vs ps->vs.length=ps.length
 | _,_,.nil=>rfl
 | _,_,.cons _ t=>by rw[Ar,Ar,ay.length t]
theorem ay.get:∀{vs:O V}{ps:O PV}{i:Nat}{p:PV},ay K ι H vs ps->ps[i]?=al p->∃v,vs[i]?=al v/\VR K ι H v p
 | _,_,_,_,.nil,e=>by simp at e
 | _,_,0,_,.cons r _,e=>by simp at e;subst e;exact⟨_,rfl,r⟩
 | _,_,i+1,p,.cons _ t,e=>by
  obtain⟨v,h1,h2⟩:=ay.get t (by simpa using e);exact⟨v,by simpa using h1,h2⟩
theorem ay.set{p:PV}(r:VR K ι H v p):∀{vs:O V}{ps:O PV} (i:Nat),ay K ι H vs ps->ay K ι H (vs.set i v) (ps.set i p)
 | _,_,_,.nil=>.nil
 | _,_,0,.cons _ t=>.cons r t
 | _,_,i+1,.cons q t=>.cons q (ay.set r i t)
theorem ay.append:∀{xs ys:O V}{us ws:O PV},ay K ι H xs us->ay K ι H ys ws->ay K ι H (xs++ys) (us++ws)
 | _,_,_,_,.nil,s=>s
 | _,_,_,_,.cons r t,s=>.cons r (ay.append t s)
theorem ay.take:∀{xs:O V}{us:O PV} (n:Nat),ay K ι H xs us->ay K ι H (xs.take n) (us.take n)
 | _,_,0,_=>.nil
 | _,_,_+1,.nil=>.nil
 | _,_,n+1,.cons r t=>.cons r (ay.take n t)
theorem ay.drop:∀{xs:O V}{us:O PV} (n:Nat),ay K ι H xs us->ay K ι H (xs.drop n) (us.drop n)
 | _,_,0,r=>r
 | _,_,_+1,.nil=>.nil
 | _,_,n+1,.cons _ t=>ay.drop n t
theorem ay.reverse:∀{xs:O V}{us:O PV},ay K ι H xs us->ay K ι H xs.reverse us.reverse
 | _,_,.nil=>.nil
 | _,_,.cons r t=>by rw[Cv,Cv];exact(ay.reverse t).append (.cons r .nil)
def ay.one{p:PV}(r:VR K ι H v p):ay K ι H [v] [p]:=.cons r .nil
end
structure Go(ι ι':List ce)(H H':Hp):Prop where
 ext:∃m,ι'=ι++m
 new:∀a,a∈ι'->a∉ι->H a=be
 keep:∀a o,a∉ι->H a=al o->H' a=al o
def Go.refl(ι:O ce)(H:Hp):Go ι ι H H:=⟨⟨[],by simp⟩,λa h n=>absurd h n,λ_ _ _ h=>h⟩
def OR(K:Aa)(ι:O ce)(H:Hp)(a:ce):PO->Prop
 | .lst xs=>∃vs,H a=al (.lst vs)/\ay K ι H vs xs
 | .dk aM=>∃vs:O (Key×V),H a=al (.dK vs)/\vs.map (·.1)=aM.map (·.1)/\ay K ι H (vs.map (·.2)) (aM.map (·.2))
 | .dt aM=>∃vs:O (O Key×V),H a=al (.dT vs)/\vs.map (·.1)=aM.map (·.1)/\ay K ι H (vs.map (·.2)) (aM.map (·.2))
 | .Mx φ=>∃vs,H a=al (.lst vs)/\φ vs
structure HR(K:Aa)(ι:List ce)(H:Hp)(h:PH):Prop where
 nd:ι.Nodup
 len:ι.length=h.length
 obj:∀(n:Nat) (a:ce) (o:PO),ι[n]?=al a->h[n]?=al o->OR K ι H a o
end
section
variable{K:Aa}
abbrev QV:=PV->PH->Prop
structure ME where
 run:kU->PH->QV->Prop
 mono:∀{ps h}{Q Q':QV},(∀v h',Q v h'->Q' v h')->run ps h Q->run ps h Q'
structure MT where
 run:kU->PH->(Bool->PH->Prop)->Prop
 mono:∀{ps h}{Q Q':Bool->PH->Prop},(∀v h',Q v h'->Q' v h')->run ps h Q->run ps h Q'
structure MA where
 run:kU->PH->(List PV->PH->Prop)->Prop
 mono:∀{ps h}{Q Q':List PV->PH->Prop},(∀v h',Q v h'->Q' v h')->run ps h Q->run ps h Q'
structure ML where
 run:kU->PH->(List PV->PH->Prop)->Prop
 mono:∀{ps h}{Q Q':List PV->PH->Prop},(∀v h',Q v h'->Q' v h')->run ps h Q->run ps h Q'
structure Src where
 items:List PV
 ok:PH->Prop
 fz:Bool
structure MI where
 run:kU->PH->(Src->PH->Prop)->Prop
 mono:∀{ps h}{Q Q':Src->PH->Prop},(∀v h',Q v h'->Q' v h')->run ps h Q->run ps h Q'
structure PD where
 nx:kU->PH->Prop
 rt:QV
 bk:kU->PH->Prop
 ct:kU->PH->Prop
structure PD.Le(D D':PD):Prop where
 nx:∀ps h,D.nx ps h->D'.nx ps h
 rt:∀v h,D.rt v h->D'.rt v h
 bk:∀ps h,D.bk ps h->D'.bk ps h
 ct:∀ps h,D.ct ps h->D'.ct ps h
structure MS where
 run:PD->kU->PH->Prop
 mono:∀{D D' ps h},PD.Le D D'->run D ps h->run D' ps h
structure MG where
 run:PV->kU->PH->(kU->PH->Prop)->Prop
 mono:∀{v ps h}{Q Q':kU->PH->Prop},(∀ps h,Q ps h->Q' ps h)->run v ps h Q->run v ps h Q'
def pQ(K:Aa)(ι:O ce)(H:Hp)(Q:VK):QV:=λp h'=>∀ι' v H',Go ι ι' H H'->HR K ι' H' h'->VR K ι' H' v p->Q v H'
def PE.imp{t t':TE}(h:PE X e t)(f:∀σ H Q,t' σ H Q->t σ H Q):PE X e t':=λU s σ H Q I q=>h U s σ H Q I (f _ _ _ q)
def PT.imp{t t':TT}(h:PT X e t)(f:∀σ H Q,t' σ H Q->t σ H Q):PT X e t':=λU s σ H Q I q=>h U s σ H Q I (f _ _ _ q)
def PW.imp{t t':TT}(h:PW X e t)(f:∀σ H Q,t' σ H Q->t σ H Q):PW X e t':=λw U s σ H Q I q=>h w U s σ H Q I (f _ _ _ q)
def PA.imp{e:O gl}{t t':TA}(h:PA X e t)(f:∀σ H Q,t' σ H Q->t σ H Q):PA X e t':=λpos U s σ H Q I q=>h pos U s σ H Q I (f _ _ _ q)
def PSs.imp{e:O lm}{t t':TS}(h:PSs X e t)(f:∀D σ H,t' D σ H->t D σ H):PSs X e t':=λU s σ H D I q=>h U s σ H D I (f _ _ _ q)
def PG.imp{t t':TG}(h:PG X e t)(f:∀v σ H Q,t' v σ H Q->t v σ H Q):PG X e t':=λU s σ H v u Q I r q=>h U s σ H v u Q I r (f _ _ _ _ q)
def PI.imp{t t':TI}(h:PI X tg e t)(f:∀σ H Q,t' σ H Q->t σ H Q):PI X tg e t':=λU s σ H R I q=>h U s σ H R I (f _ _ _ q)
section
abbrev P2:=PV->PV->PH->QV->Prop
structure M2 where
 f:P2
 mono:∀{x y h}{Q Q':QV},(∀v h',Q v h'->Q' v h')->f x y h Q->f x y h Q'
def M2.Ok(K:Aa)(r:R2)(m:M2):Prop:=∀{ι H h u v x y Q},HR K ι H h->VR K ι H u x->VR K ι H v y->m.f x y h (pQ K ι H Q)->r u v H Q
end
end
section
variable{K:Aa}
section
def ed:∀{vs:O V}{l:O PV},ay K ι H vs l->(!l.isEmpty)=!vs.isEmpty
 | _,_,.nil=>rfl
 | _,_,.cons _ _=>rfl
structure MQ where
 run:kU->PH->(Src->PH->Prop)->Prop
 mono:∀{ps h}{Q Q':Src->PH->Prop},(∀v h',Q v h'->Q' v h')->run ps h Q->run ps h Q'
end
end
section
structure O2 where
 run:List PV->kU->PH->(kU->PH->Prop)->Prop
 mono:∀{v ps h}{Q Q':kU->PH->Prop},(∀ps h,Q ps h->Q' ps h)->run v ps h Q->run v ps h Q'
end
section
variable{K:Aa}
section
structure mF where
 f:List PV->PH->QV->Prop
 mono:∀{l h}{Q Q':QV},(∀v h',Q v h'->Q' v h')->f l h Q->f l h Q'
def mF.Ok(K:Aa)(r:O V->Hp->VK->Prop)(m:mF):Prop:=∀{ι H h vs l Q},HR K ι H h->ay K ι H vs l->m.f l h (pQ K ι H Q)->r vs H Q
end
end
end PL
variable{g':Int->Int->L2.V}{g:Int->Int->PL.PV}
namespace PL
section
variable{K:Aa}
def aI(g:Int->Int->PV):M2:=⟨λx y h Q=>match x,y with | .int i,.int j=>Q (g i j) h | _,_=>False,λf q=>by
 revert q
 split
 ·exact f _ _
 ·exact λz=>z⟩
def y7(C:Int->Int->Prop)(g:Int->Int->PV):M2:=⟨λx y h Q=>match x,y with | .int i,.int j=>C i j/\Q (g i j) h | _,_=>False,λf q=>by
 revert q
 split
 ·exact λq=>⟨q.1,f _ _ q.2⟩
 ·exact λz=>z⟩
def tR(hg:∀ι H i j,VR K ι H (g' i j) (g i j)):M2.Ok K (wC g') (aI g):=by
 intro ι H h u v x y Q hr hu hv q;unfold aI at q;dsimp only at q;revert q
 split
 ·intro q;cases hu;cases hv;exact⟨_,_,rfl,rfl,q ι _ H (Go.refl _ _) hr (hg _ _ _ _)⟩
 ·exact AJ
def kK{C:Int->Int->Prop}(hg:∀ι H i j,VR K ι H (g' i j) (g i j)):M2.Ok K (rI C g') (y7 C g):=by
 intro ι H h u v x y Q hr hu hv q;unfold y7 at q;dsimp only at q;revert q
 split
 ·intro q;cases hu;cases hv;exact⟨_,_,rfl,rfl,q.1,q.2 ι _ H (Go.refl _ _) hr (hg _ _ _ _)⟩
 ·exact AJ
def m7:=aI λi j=>.int (i-j)
def cz:=y7 pi λi j=>.int (i*j)
def oDiv:=y7 tX λi j=>.int (i / j)
def oMod:=y7 (λ_ j=>0 < j) λi j=>.int (i % j)
def fF:=y7 tW λi j=>.int (i ^ j.toNat)
def IK:=aI λi j=>.bl (decide (j < i))
def E3:=aI λi j=>.bl (decide (j<=i))
section
def ay.dr:∀{vs:O V}{l:O PV},ay K ι H vs l->(vs=[]↔l=[])
 | _,_,.nil=>by simp
 | _,_,.cons _ _=>by simp
end
end
section
variable{K:Aa}
section
def PV.lN:PV->Bool
 | .aL=>true
 | _=>false
def rQ:M2:=⟨λx y h Q=>match y with | .aL=>Q (.bl x.lN) h | _=>False,λf q=>by
 revert q
 split
 ·exact f _ _
 ·exact λz=>z⟩
def pX{x:PV}(h:VR K ι H v x):decide (v=.aL)=x.lN:=by cases h <;> simp[PV.lN]
def uZ:M2.Ok K (λx y H Q=>y=.aL/\Q (.bl (decide (x=.aL))) H) rQ:=by
 intro ι H h u v x y Q hr hu hv q;cases hv with
 | aL=>exact⟨rfl,q ι _ H (Go.refl _ _) hr (by rw[pX hu];exact .bl _)⟩
 | _=>exact q.elim
end
end
end PL
variable{l:O PL.PV}
namespace PL
section
variable{K:Aa}
section
variable{c:gl}
def OL(a:MQ)(b:ME):ME:=⟨λps h Q=>a.run ps h λS h1=>b.run ps h1 λy h2=>match y with
 | .int k=>S.ok h2/\match cG S.items k with | some v=>Q v h2 | none=>False
 | _=>False,λf q=>a.mono (λ_ _ q=>b.mono (λ_ _ q=>by
  revert q
  split
  ·rintro⟨q0,q⟩;refine⟨q0,?_⟩;revert q
   split
   ·exact f _ _
   ·exact λz=>z
  ·exact λz=>z) q) q⟩
def ay.cG(r:ay K ι H vs l){k:Int}{p:PV}(e:L2.cG l k=al p):∃v,L2.cG vs k=al v/\VR K ι H v p:=by
 unfold L2.cG at e ⊢;rw[r.length];cases z:lM l.length k with
 | none=>rw[z]at e;cases e
 | some j=>
  rw[z]at e;exact r.get e
def rP:M2:=⟨λx y h Q=>match x,y with
 | .str z,.int k=>z.length<=sizeLine/\match L2.cG z.cps.toList k with | some c=>Q (.str ⟨#[c]⟩) h | none=>False
 | _,_=>False,λf q=>by
  revert q
  split
  ·rintro⟨q0,q⟩;refine⟨q0,?_⟩;revert q
   split
   ·exact f _ _
   ·exact λz=>z
  ·exact λz=>z⟩
def uY:M2.Ok K xF rP:=by
 intro ι H h u v x y Q hr hu hv q;unfold rP at q;dsimp only at q;revert q
 split
 ·rename_i z k;rintro⟨q0,q⟩;cases hu;cases hv;cases e:L2.cG z.cps.toList k with
  | none=>rw[e]at q;exact q.elim
  | some c=>rw[e]at q;exact⟨z,k,c,rfl,rfl,q0,e,q ι _ H (Go.refl _ _) hr (.str _)⟩
 ·exact AJ
def gI:mF:=⟨λl h Q=>match l with
 | [.str y]=>y.length<=sizeLine/\Q (.int y.length) h
 | [.tup l]=>Q (.int l.length) h
 | [.cl l]=>Q (.int l.length) h
 | [.ref n]=>match h[n]? with
  | some (.lst xs)=>Q (.int xs.length) h
  | _=>False
 | _=>False,λf q=>by
  revert q
  split
  ·exact λq=>⟨q.1,f _ _ q.2⟩
  ·exact f _ _
  ·exact f _ _
  ·split
   ·exact f _ _
   ·exact λz=>z
  ·exact λz=>z⟩
def vU(K:Aa):mF.Ok K (xD K) gI:=by
 intro ι H h vs l Q hr hv q;unfold gI at q;dsimp only at q;revert q
 split
 ·intro q;cases hv with
  | cons x t=>cases t;cases x;exact⟨_,_,rfl,⟨q.1,rfl⟩,q.2 ι _ H (Go.refl _ _) hr (.int _)⟩
 ·intro q;cases hv with
  | cons x t=>
   cases t;cases x with
   | tup e r=>exact⟨_,_,rfl,.inr ⟨_,cf.of e,r.length.symm⟩,q ι _ H (Go.refl _ _) hr (.int _)⟩
 ·intro q;cases hv with
  | cons x t=>
   cases t;cases x with
   | cl e r=>exact⟨_,_,rfl,.inl ⟨_,e.sq,r.length.symm⟩,q ι _ H (Go.refl _ _) hr (.int _)⟩
 ·rename_i n;cases hv with
  | cons x t=>
   cases t;cases x with
   | @ref _ a e=>
   split
   ·rename_i xs hn;intro q;obtain⟨ws,e1,e2⟩:=hr.obj n a _ e hn;exact⟨_,_,rfl,.inl ⟨ws,bO.of e1,e2.length.symm⟩,q ι _ H (Go.refl _ _) hr (.int _)⟩
   ·exact AJ
 ·exact AJ
inductive Kd where
 | str | tup | int | bool
def Kd.name:Kd->String
 | .str=>"str" | .tup=>"tuple" | .int=>"int" | .bool=>"bool"
def Kd.is:Kd->PV->Bool
 | .str,.str _=>true
 | .tup,.tup _=>true
 | .int,.int _=>true
 | .int,.bl _=>true
 | .bool,.bl _=>true
 | _,_=>false
def EI(K:Aa):O V->Hp->VK->Prop:=λxs H Q=>∃x c t b,xs=[x,.ty c]/\(eG K H x t\/(t=.type "tuple"/\∃a vs,x=.ref a/\cf K H a vs))/\AQ K t (.type c)=al b/\Q (.bl b) H
def qj(K:Aa)(hK:X.K=K):a8 X (.builtin "isinstance") (EI K):=by
 subst hK;intro U s σ H xs us Q I r h;obtain⟨x,c,t,b,rfl,ty | ⟨rfl,a,vs,rfl,hT⟩,e,q⟩:=h
 ·exact eE U s σ H _ us Q I r ⟨x,c,t,b,rfl,ty,e,q⟩
 ·obtain⟨u,w,rfl,r1,r2⟩:=vals2 r;cases r1;cases r2;obtain⟨ak,_,⟨o,h1,h2,_⟩,_⟩:=I.tuple hT;exact AL D5 I.eN ⟨o,h1,h2⟩ e (λz=>nomatch z) λtk=>⟨.bl b,H,I.tok _,rfl,q⟩
def hV(K:Aa):(∀k:Kd,AQ K (.type "NoneType") (.type k.name)=al false)/\(∀k:Kd,AQ K (.type "list") (.type k.name)=al false)/\(∀k:Kd,AQ K (.type "dict") (.type k.name)=al false):=
 ⟨λk=>by cases k <;> kernel_rfl,λk=>by cases k <;> kernel_rfl,λk=>by cases k <;> kernel_rfl⟩
def yo(K:Aa)(b:Bool)(k:Kd):AQ K (.type "bool") (.type k.name)=al (k.is (.bl b)):=by cases k <;> kernel_rfl
def vk(K:Aa)(b:Int)(k:Kd):AQ K (.type "int") (.type k.name)=al (k.is (.int b)):=by cases k <;> kernel_rfl
def vj(K:Aa)(b:Str)(k:Kd):AQ K (.type "str") (.type k.name)=al (k.is (.str b)):=by cases k <;> kernel_rfl
def vi(K:Aa)(b:O PV)(k:Kd):AQ K (.type "tuple") (.type k.name)=al (k.is (.tup b)):=by cases k <;> kernel_rfl
def ju:mF:=⟨λl h Q=>match l with | [.int i]=>Q (.int (if i < 0 then -i else i)) h | _=>False,λf q=>by
 revert q
 split
 ·exact f _ _
 ·exact λz=>z⟩
def vW:mF.Ok K (λxs H Q=>∃i,xs=[.int i]/\Q (.int (if i < 0 then -i else i)) H) ju:=by
 intro ι H h vs l Q hr hv q;unfold ju at q;dsimp only at q;revert q
 split
 ·intro q;cases hv with
  | cons x t=>cases t;cases x;exact⟨_,rfl,q ι _ H (Go.refl _ _) hr (.int _)⟩
 ·exact AJ
def kG:mF:=⟨λl h Q=>match l with | [.int i]=>Q (.int i) h | [.bl k]=>Q (.int (if k then 1 else 0)) h | _=>False,λf q=>by
 revert q
 split
 ·exact f _ _
 ·exact f _ _
 ·exact λz=>z⟩
def vV:mF.Ok K (λxs H Q=>(∃i,xs=[.int i]/\Q (.int i) H)\/∃k,xs=[.bl k]/\Q (.int (if k then 1 else 0)) H) kG:=by
 intro ι H h vs l Q hr hv q;unfold kG at q;dsimp only at q;revert q
 split
 ·intro q;cases hv with
  | cons x t=>cases t;cases x;exact .inl ⟨_,rfl,q ι _ H (Go.refl _ _) hr (.int _)⟩
 ·intro q;cases hv with
  | cons x t=>cases t;cases x;exact .inr ⟨_,rfl,q ι _ H (Go.refl _ _) hr (.int _)⟩
 ·exact AJ
end
end
section
variable{K:Aa}
section
def qT(K:Aa):O V->Hp->VK->Prop:=λxs H Q=>∃p ys,xs=[.ref p]/\((bO K H p ys/\gS H (.tup ys) Q)\/(cf K H p ys/\Q (.ref p) H))
def qh(K:Aa)(hK:X.K=K):a8 X (.type "tuple") (qT K):=by
 subst hK;exact js.mono λxs H Q ⟨p,ys,e,h⟩=>⟨p,ys,e,h.imp (λ⟨h1,h2⟩=>⟨h1,λl hl=>h2.at l hl⟩) λz=>z⟩
theorem jI:∀{bs:O Bool}{vs:O V},ay K ι H vs (bs.map PV.bl)->vs=bs.map V.bl
 | [],_,h=>by cases h;rfl
 | b::bs,_,h=>by
  cases h with
  | cons x t=>cases x;rw[jI t];rfl
structure O1 where
 run:kU->PH->(Src->PH->Prop)->Prop
 mono:∀{ps h}{Q Q':Src->PH->Prop},(∀v h',Q v h'->Q' v h')->run ps h Q->run ps h Q'
structure MO where
 run:kU->PH->(Option Int->PH->Prop)->Prop
 mono:∀{ps h}{Q Q':Option Int->PH->Prop},(∀v h',Q v h'->Q' v h')->run ps h Q->run ps h Q'
def PO.imp{e:Option gl}{t t':TO}(h:L2.PO X e t)(f:∀σ H Q,t' σ H Q->t σ H Q):L2.PO X e t':=λU s σ H Q I q=>h U s σ H Q I (f _ _ _ q)
def nL(xs:O PV)(lo hi:Option Int):O PV:=(xs.drop (HT.jA xs.length 0 lo)).take (HT.jA xs.length xs.length hi-HT.jA xs.length 0 lo)
def ay.cut(r:ay K ι H vs l)(lo hi:Option Int):ay K ι H (qf vs lo hi) (nL l lo hi):=by
 unfold qf nL;rw[r.length];exact(r.drop _).take _
end
end
section
variable{p:Pos}
def eU(lo:Int)(n:Nat):O PV:=(BW n).map λ(i:Nat)=>.int (lo+(i:Int))
def df(lo:Int)(n:Nat):(eU lo n).length=n:=by unfold eU;simp
def gG{lo:Int}{p:PV}(h:(eU lo n)[i]?=al p):i < n/\p=.int (lo+i):=by
 unfold eU at h;rw[Ao]at h;cases z:(BW n)[i]? with
 | none=>rw[z]at h;cases h
 | some k=>
  rw[z]at h;obtain⟨h1,h2⟩:=Ag.mp z;simp at h1 h2;subst h2;exact⟨h1,(Option.some.inj h).symm⟩
def uB(i:Int):Prop:=-(2 ^ 62)<=i/\i < 2 ^ 62
def GO(m:MA):MI:=⟨λps h Q=>m.run ps h λl h1=>match l with | [.int j]=>uB j/\Q ⟨eU 0 j.toNat,λ_=>True,false⟩ h1 | _=>False,λf q=>m.mono (λl h1 q=>by
 revert q
 split
 ·exact λq=>⟨q.1,f _ _ q.2⟩
 ·exact λz=>z) q⟩
def gm:O PV->O PV->O PV
 | x::l,y::m=>.tup [x,y]::gm l m
 | _,_=>[]
theorem kW:∀{l m:O PV}{i:Nat}{p:PV},(gm l m)[i]?=al p->∃x y,l[i]?=al x/\m[i]?=al y/\p=.tup [x,y]
 | [],m,i,p,h=>by simp[gm]at h
 | x::l,[],i,p,h=>by simp[gm]at h
 | x::l,y::m,0,p,h=>by simp[gm]at h;subst h;exact⟨x,y,rfl,rfl,rfl⟩
 | x::l,y::m,i+1,p,h=>by
  obtain⟨u,w,h1,h2,h3⟩:=kW (by simpa[gm]using h);exact⟨u,w,by simpa using h1,by simpa using h2,h3⟩
end
end PL
variable{p3 p4:B7}
namespace PL
section
variable{K:Aa}{p:Pos}
section
structure JC(X:Cx)(K:Aa)(op:CmpOp)(b:gl)(m:M2):Prop where
 p:∃r,dN X (li op) r/\M2.Ok K r m
 k:nn op b=false
def Fh:JC X K .Gt b IK:=⟨⟨_,EW,tR λ_ _ _ _=>.bl _⟩,cW _⟩
def Fj:JC X K .GtE b E3:=⟨⟨_,EX,tR λ_ _ _ _=>.bl _⟩,cW _⟩
def sD:JC X K .Is b rQ:=⟨⟨_,rK,uZ⟩,cW _⟩
end
end
section
variable{K:Aa}
section
def tq(h:ay K ι H vs l):vs.isEmpty=l.isEmpty:=by cases h <;> rfl
theorem ki:∀{ns:O Int}{vs:O V},ay K ι H vs (ns.map PV.int)->vs=ns.map V.int
 | [],_,h=>by cases h;rfl
 | b::bs,_,h=>by
  cases h with
  | cons x t=>cases x;rw[ki t];rfl
theorem kj(ι:O ce)(H:Hp):∀ns:O Int,ay K ι H (ns.map V.int) (ns.map PV.int)
 | []=>.nil
 | n::ns=>.cons (.int n) (kj ι H ns)
end
end
end PL
variable{a:AR}
namespace L2
section
variable{σ:St}{s:ci}
def Inv.freeze(I:Inv X U σ H s)(e:H a=al (.dT aM)):∃o,Inv X U σ (upd H a (.bX o (.dT aM))) s:=by
 obtain⟨z,hs,xs,r,o,es,ep,h1,h2,h3,h4,h5⟩:=(show bq X.prog X.w H s.heap a (.dT aM) from I.aP a _ e);refine⟨o,?_⟩;have q:=I.write (x:=a) (e:=a) (o:=.bX o (.dT aM)) (h':=s.heap) (t':=s.toks) (by rw[e];exact BR) (.inl rfl) (λb u _ z=>z) ⟨o,h1⟩
  ⟨h1,z,hs,xs,KT.keeps r λb ys eb=>by rw[ah (oB eb e (λz=>nomatch z))];exact eb,o,es,ep,h1,h2,h3,h4,h5⟩
 exact q
end
end L2
variable{o:L2.HO}{v:PL.PV}{ws:O (Bo×L2.V)}{fz:O (AR×Eh)}{φ:O L2.V->Prop}
noncomputable section
namespace FL
section
variable{K:Aa}
structure W(α:Type) where
 run:(α->Prop)->Prop
 mono:∀{Q Q':α->Prop},(∀a,Q a->Q' a)->run Q->run Q'
namespace W
variable{α β γ:Type}
def ext'{a b:W α}(h:∀Q,a.run Q↔b.run Q):a=b:=by
 cases a;cases b;congr;funext Q;exact propext (h Q)
noncomputable def ret(a:α):W α:=⟨λQ=>Q a,λh q=>h _ q⟩
noncomputable def bind(w:W α)(k:α->W β):W β:=⟨λQ=>w.run λa=>(k a).run Q,λh q=>w.mono (λa q=>(k a).mono h q) q⟩
def fail:W α:=⟨λ_=>False,λ_ q=>q⟩
def eW(p:Prop)(w:W α):W α:=⟨λQ=>p/\w.run Q,λh q=>⟨q.1,w.mono h q.2⟩⟩
def any(p:α->Prop):W α:=⟨λQ=>∀a,p a->Q a,λh q a pa=>h a (q a pa)⟩
def zk:Option α->W α
 | some a=>ret a
 | none=>fail
@[simp] theorem aq(a:α)(k:α->W β):bind (ret a) k=k a:=(rfl)
@[simp] theorem bind_assoc(w:W α)(f:α->W β)(g:β->W γ):bind (bind w f) g=bind w λa=>bind (f a) g:=(rfl)
@[simp] theorem Gm(w:W α):bind w ret=w:=(rfl)
@[simp] theorem zC(k:α->W β):bind fail k=fail:=(rfl)
@[simp] theorem ax(a:α)(Q:α->Prop):(ret a).run Q=Q a:=(rfl)
@[simp] theorem run_bind(w:W α)(k:α->W β)(Q:β->Prop):(bind w k).run Q=w.run λa=>(k a).run Q:=(rfl)
@[simp] theorem EB(Q:α->Prop):(fail:W α).run Q=False:=(rfl)
@[simp] theorem GH(p Q:α->Prop):(any p).run Q=∀a,p a->Q a:=(rfl)
@[simp] theorem uF(p:Prop)(w:W α)(Q:α->Prop):(eW p w).run Q=(p/\w.run Q):=(rfl)
@[simp] theorem tJ(p:Prop)(w:W α)(k:α->W β):bind (eW p w) k=eW p (bind w k):=(rfl)
def au{p:Prop}{w:W α}(h:p):eW p w=w:=ext' λQ=>⟨λq=>q.2,λq=>⟨h,q⟩⟩
@[simp] theorem Ge{w:W α}:eW True w=w:=au trivial
@[simp] theorem aV(a:α):zk (al a)=ret a:=(rfl)
@[simp] theorem E2:zk (be:Option α)=fail:=(rfl)
end W
inductive FD where
 | v (p:PV) | o (b:ce) (l:List PV)
def fdB:O (Str×FD)->O ce
 | []=>[]
 | (_,.v _)::l=>fdB l
 | (_,.o b _)::l=>b::fdB l
inductive FdR(K:Aa)(H:Hp):List (Str×V)->List (Str×FD)->Prop
 | nil:FdR K H [] []
 | v {n:Str}{u:V}{p:PV}{ws:List (Str×V)}{fd:List (Str×FD)} (r:VR K [] H u p) (t:FdR K H ws fd):FdR K H ((n,u)::ws) ((n,.v p)::fd)
 | o {n:Str}{b:ce}{vs:List V}{l:List PV}{ws:List (Str×V)}{fd:List (Str×FD)} (e:H b=al (.lst vs)) (r:ay K [] H vs l) (t:FdR K H ws fd):FdR K H ((n,.ref b)::ws) ((n,.o b l)::fd)
inductive SL where
 | val (v:PV) | adr (b:ce) (us:List V) (ps:List PV) (fz:List (ce×Obj)) | ol (q:Option ce) (l:List PV) | GK (bs:List ce) (ls:List (List PV)) | od (aM:List (Key×PV)) | ot (aM:List (List Key×PV)) | gk (φ:List V->Prop) | ob (q C:ce) (fd:List (Str×FD))
abbrev aX:=O (Option SL)
def o8(H:Hp)(fz:O (ce×Obj)):Prop:=∀p∈fz,∃u,H p.1=al (.bX p.2 u)
def o8.tk(h:o8 H fz)(t:aD K H H'):o8 H' fz:=λp hp=>let ⟨u,e⟩:=h p hp;⟨u,t.z _ _ _ e⟩
def _root_.L2.HO.nt:HO->Bool
 | .gQ _=>false
 | _=>true
def _root_.L2.HO.ow:HO->Bool
 | .lst _=>true
 | .dK _=>true
 | .dT _=>true
 | .ins _ _ _=>true
 | _=>false
def wF(h:o.ow=true):o.nt=true:=by cases o <;> first | rfl | cases h
class bj where
 ts:List (ce×Str)
def Kz(H:Hp)(c:bn)(q:Str):Prop:=∃a o u vs t,c=.ref a/\H a=al (.bX o u)/\o.data=.fields vs/\vs[1]?=al (.str q t)
variable[bj]
def TB(H:Hp):Prop:=∀p∈bj.ts,∃ps,H p.1=al (.gQ ps)/\TriplesOk ps.toList/\∀pos c,wP pos ps.toList=al c->Kz H c p.2
def TB.mono(h:TB H)(h1:∀a ps,H a=al (.gQ ps)->H' a=al (.gQ ps))(h2:∀a o u vs,H a=al (.bX o u)->o.data=.fields vs->∃u,H' a=al (.bX o u)):TB H':=λp hp=>by
 obtain⟨ps,e,q,k⟩:=h p hp;refine⟨ps,h1 _ _ e,q,λpos c z=>?_⟩;obtain⟨a,o,u,vs,t,e1,e2,e3,e4⟩:=k pos c z;obtain⟨u',e5⟩:=h2 a o u vs e2 e3;exact⟨a,o,u',vs,t,e1,e5,e3,e4⟩
def TB.same(h:TB H)(s:cI H H'):TB H':=h.mono (λa _ z=>s a _ z) λa _ _ _ z _=>⟨_,s a _ z⟩
def TB.qP{ob:HO}(h:TB H)(s:gh a H H')(e:H a=al ob)(n1:ob.nt=true)(n2:∀o u,ob≠.bX o u):TB H':=
 h.mono (λb _ z=>s b _ (λy=>by subst y;rw[e]at z;cases z;cases n1) z) λb _ _ _ z _=>⟨_,s b _ (λy=>by subst y;rw[e]at z;cases z;exact n2 _ _ rfl) z⟩
def SL.own:SL->Bool
 | .val _=>false
 | .adr _ _ _ _=>false
 | _=>true
def SL.wN:SL->O ce
 | .GK bs _=>bs
 | .ob _ _ fd=>fdB fd
 | _=>[]
def SL.has(s:SL)(x a:ce):Prop:=a=x\/a∈s.wN
def di(K:Aa)(H:Hp)(a:ce):SL->Prop
 | .val _=>False
 | .adr b us ps fz=>a=b/\ay K [] H us ps/\o8 H fz
 | .GK bs ls=>H a=al (.lst (bs.map V.ref))/\a∉bs/\bs.Nodup/\bs.length=ls.length/\∀(j:Nat) (b:ce) (l:O PV),bs[j]?=al b->ls[j]?=al l->∃ws,H b=al (.lst ws)/\ay K [] H ws l
 | .ol q l=>(∀b,q=al b->a=b)/\∃vs,H a=al (.lst vs)/\ay K [] H vs l
 | .od aM=>∃vs:O (Key×V),H a=al (.dK vs)/\vs.map (·.1)=aM.map (·.1)/\ay K [] H (vs.map (·.2)) (aM.map (·.2))
 | .ot aM=>∃vs:O (O Key×V),H a=al (.dT vs)/\vs.map (·.1)=aM.map (·.1)/\ay K [] H (vs.map (·.2)) (aM.map (·.2))
 | .gk φ=>∃vs,H a=al (.lst vs)/\φ vs
 | .ob q C fd=>a=q/\o9 K C/\(∀p∈fd,b9 K C p.1)/\a∉fdB fd/\(fdB fd).Nodup/\∃dx ws,H a=al (.ins C dx ws)/\FdR K H ws fd
def jN(K:Aa)(H:Hp)(u:V)(s:SL):Prop:=(∃v,s=.val v/\VR K [] H u v)\/∃a,u=.ref a/\di K H a s
def bx(σ:L2.St)(fs:aX)(a:ce):Prop:=∃(i:Nat) (s:SL) (x:ce),fs[i]?=al (al s)/\s.own=true/\σ[i]?=al (al (.ref x))/\s.has x a
def eH(σ:L2.St)(fs:aX)(φ:O V->Prop)(a:ce):Prop:=∃i:Nat,fs[i]?=al (al (.gk φ))/\σ[i]?=al (al (.ref a))
structure aG(K:Aa)(H:Hp)(σ:L2.St)(fs:aX):Prop where
 len:σ.length=fs.length
 at':∀(i:Nat) (s:SL),fs[i]?=al (al s)->∃u,σ[i]?=al (al u)/\jN K H u s
 nd:∀(i j:Nat) (s t:SL) (x y a:ce),fs[i]?=al (al s)->fs[j]?=al (al t)->s.own=true->t.own=true->σ[i]?=al (al (.ref x))->σ[j]?=al (al (.ref y))->s.has x a->t.has y a->i=j
 tb:TB H
structure bA(σ:L2.St)(fs:aX)(H:Hp)(σ':L2.St)(aK:aX)(H':Hp):Prop where
 keep:∀a o,H a=al o->¬bx σ fs a->(o.nt=true->H' a=al o)/\¬bx σ' aK a
 there:∀a,H' a=be->H a=be
 pk:∀a φ,eH σ fs φ a->eH σ' aK φ a\/(¬bx σ' aK a/\∃vs,H' a=al (.lst vs)/\φ vs)
structure bM(σ:L2.St)(fs:aX)(H H':Hp):Prop where
 keep:∀a o,H a=al o->(∀φ,¬eH σ fs φ a)->(nt:o.nt=true:=by rfl)->H' a=al o
 there:∀a,H' a=be->H a=be
section
variable{σ σ' σ1 σ2:L2.St}{fs aK sQ cK:aX}{H H' H1 H2:Hp}
def eH.jg(p:eH σ fs φ a):bx σ fs a:=let ⟨i,e1,e2⟩:=p;⟨i,_,_,e1,rfl,e2,.inl rfl⟩
def bM.refl:bM σ fs H H:=⟨λ_ _ h _ _=>h,λ_ h=>h⟩
def bM.trans(a:bM σ fs H H1)(b:bM σ fs H1 H2):bM σ fs H H2:=⟨λx o h n t=>b.keep x o (a.keep x o h n t) n t,λx h=>a.there x (b.there x h)⟩
def bM.f(g:bM σ fs H H'):bA σ fs H σ fs H':=⟨λa o h n=>⟨λt=>g.keep a o h (λφ p=>n p.jg) t,n⟩,g.there,λa φ p=>.inl p⟩
def bM.iJ(g:bM σ fs H H')(h:H a=al o)(n:¬bx σ fs a)(t:o.nt=true:=by rfl):H' a=al o:=g.keep a o h (λφ p=>n p.jg) t
def bM.same(h:cI H H'):bM σ fs H H':=⟨λa o e _ _=>h a o e,λa e=>(by
 cases z:H a with
 | none=>rfl
 | some o=>rw[h a o z]at e;cases e)⟩
def FdR.ex{fd:O (Str×FD)}(h:FdR K H ws fd){c:ce}(hc:c∈fdB fd):∃vs,H c=al (.lst vs):=by
 induction h with
 | nil=>cases hc
 | v r t ih=>exact ih hc
 | @o n b vs l ws fd e r t ih=>
  rcases Ax.mp (hc) with rfl | hc
  ·exact⟨vs,e⟩
  ·exact ih hc
def di.ex{c:ce}{s:SL}(h:di K H a s)(ho:s.own=true)(hc:s.has a c):∃o,H c=al o/\(∀vs,o≠.tup vs)/\(∀ob u,o≠.bX ob u)/\o.ow=true:=by
 cases s with
 | val _=>exact h.elim
 | adr _ _ _ _=>cases ho
 | ol q l=>obtain⟨_,vs,e,_⟩:=h;rcases hc with rfl | hc;exact⟨_,e,by simp,by simp,rfl⟩;cases hc
 | GK bs ls=>
  obtain⟨e,_,_,hl,hb⟩:=h;rcases hc with rfl | hc
  ·exact⟨_,e,by simp,by simp,rfl⟩
  ·obtain⟨j,hj⟩:=DW (hc);obtain⟨ws,e,_⟩:=hb j c _ hj (Ai (by rw[<- hl];exact((Ag.mp hj).1)));exact⟨_,e,by simp,by simp,rfl⟩
 | od l=>obtain⟨vs,e,_⟩:=h;rcases hc with rfl | hc;exact⟨_,e,by simp,by simp,rfl⟩;cases hc
 | ot l=>obtain⟨vs,e,_⟩:=h;rcases hc with rfl | hc;exact⟨_,e,by simp,by simp,rfl⟩;cases hc
 | gk l=>obtain⟨vs,e,_⟩:=h;rcases hc with rfl | hc;exact⟨_,e,by simp,by simp,rfl⟩;cases hc
 | ob q C fd=>
  obtain⟨_,_,_,_,_,dx,ws,e,r⟩:=h;rcases hc with rfl | hc
  ·exact⟨_,e,by simp,by simp,rfl⟩
  ·obtain⟨vs,e⟩:=r.ex hc;exact⟨_,e,by simp,by simp,rfl⟩
def aG.ownAt(s:aG K H σ fs){t:SL}(h1:fs[i]?=al (al t))(h2:t.own=true)(h3:σ[i]?=al (al (.ref a))):di K H a t:=by
 obtain⟨u,e,r⟩:=s.at' i t h1;rw[h3]at e;cases e;rcases r with⟨v,rfl,_⟩ | ⟨b,e,r⟩
 ·cases h2
 ·cases e;exact r
def aG.jg(s:aG K H σ fs)(h:bx σ fs a):∃o,H a=al o/\(∀vs,o≠.tup vs)/\(∀ob u,o≠.bX ob u)/\o.ow=true:=by
 obtain⟨i,t,x,h1,h2,h3,h4⟩:=h;exact(s.ownAt h1 h2 h3).ex h2 h4
def aG.noOwn(s:aG K H σ fs)(h:H a=be):¬bx σ fs a:=λz=>by
 obtain⟨o,e,_⟩:=s.jg z;rw[h]at e;cases e
def aG.yd(s:aG K H σ fs)(h:H a=al (.tup vs)):¬bx σ fs a:=λz=>by
 obtain⟨o,e,n,_⟩:=s.jg z;rw[h]at e;cases e;exact n vs rfl
def aG.ye(s:aG K H σ fs){ob:Obj}{u:HO}(h:H a=al (.bX ob u)):¬bx σ fs a:=λz=>by
 obtain⟨o,e,_,n,_⟩:=s.jg z;rw[h]at e;cases e;exact n ob u rfl
def aG.yc(s:aG K H σ fs){φ:gt->Prop}(h:H a=al (.ext φ)):¬bx σ fs a:=λz=>by
 obtain⟨o,e,_,_,n⟩:=s.jg z;rw[h]at e;cases e;cases n
def bA.refl:bA σ fs H σ fs H:=⟨λ_ _ h n=>⟨λ_=>h,n⟩,λ_ h=>h,λ_ _ h=>.inl h⟩
def bA.u9(a:bA σ fs H σ1 sQ H1)(b:bA σ1 sQ H1 σ2 cK H2){x:ce}(h:H x=al o)(n:¬bx σ fs x):¬bx σ2 cK x:=by
 cases z:H1 x with
 | none=>rw[a.there x z]at h;cases h
 | some o1=>exact(b.keep x o1 z ((a.keep x o h n).2)).2
def bA.trans(a:bA σ fs H σ1 sQ H1)(b:bA σ1 sQ H1 σ2 cK H2):bA σ fs H σ2 cK H2:=
 ⟨λx o h n=>⟨λt=>let ⟨h1,n1⟩:=a.keep x o h n;(b.keep x o (h1 t) n1).1 t,a.u9 b h n⟩,λx h=>a.there x (b.there x h),λx φ h=>(a.pk x φ h).elim (b.pk x φ) λ⟨n,vs,e,p⟩=>.inr (let ⟨h1,n1⟩:=b.keep x _ e n;⟨n1,vs,h1 rfl,p⟩)⟩
def bA.bI(g:bA σ fs H σ' aK H')(s:aG K H σ fs):aD K H H':=
 ⟨λa vs h=>(g.keep a _ h (s.yd h)).1 rfl,λa o u h=>(g.keep a _ h (s.ye h)).1 rfl,xk λa φ h=>(g.keep a _ h (s.yc h)).1 rfl⟩
def VR.tk{u:V}(t:aD K H H')(r:VR K [] H u v):VR K [] H' u v:=r.mono t λ_ _ e=>e
def ay.tk{u:O V}{v:O PV}(t:aD K H H')(r:ay K [] H u v):ay K [] H' u v:=r.mono t λ_ _ e=>e
def bA.vr(g:bA σ fs H σ' aK H')(s:aG K H σ fs){u:V}(r:VR K [] H u v):VR K [] H' u v:=VR.tk (g.bI s) r
def bM.bI(g:bM σ fs H H')(s:aG K H σ fs):aD K H H':=g.f.bI s
def bM.vr(g:bM σ fs H H')(s:aG K H σ fs){u:V}(r:VR K [] H u v):VR K [] H' u v:=VR.tk (g.bI s) r
def bM.qu(g:bM σ fs H H')(s:aG K H σ fs){u:O V}{v:O PV}(r:ay K [] H u v):ay K [] H' u v:=ay.tk (g.bI s) r
def FdR.mono{fd:O (Str×FD)}(t:aD K H H')(h:FdR K H ws fd)(e:∀c vs,c∈fdB fd->H c=al (.lst vs)->H' c=al (.lst vs)):FdR K H' ws fd:=by
 induction h with
 | nil=>exact .nil
 | v r _ ih=>exact .v (VR.tk t r) (ih e)
 | @o n b vs l ws fd q r _ ih=>exact .o (e b vs (.head _) q) (ay.tk t r) (ih λc vs hc=>e c vs (.tail _ hc))
def di.mono{s:SL}(t:aD K H H')(e:∀c o,s.own=true->s.has a c->H c=al o->o.nt=true->H' c=al o)(h:di K H a s):di K H' a s:=by
 cases s with
 | val _=>exact h
 | adr _ _ _ _=>exact⟨h.1,ay.tk t h.2.1,h.2.2.tk t⟩
 | ol _ l=>obtain⟨z,vs,q,r⟩:=h;exact⟨z,vs,e _ _ rfl (.inl rfl) q rfl,ay.tk t r⟩
 | GK bs ls=>
  obtain⟨z,h1,h2,h3,h4⟩:=h;refine⟨e _ _ rfl (.inl rfl) z rfl,h1,h2,h3,λj b l hb hl=>?_⟩;obtain⟨ws,q,r⟩:=h4 j b l hb hl;exact⟨ws,e _ _ rfl (.inr (Ay hb)) q rfl,ay.tk t r⟩
 | od l=>obtain⟨vs,q,k,r⟩:=h;exact⟨vs,e _ _ rfl (.inl rfl) q rfl,k,ay.tk t r⟩
 | ot l=>obtain⟨vs,q,k,r⟩:=h;exact⟨vs,e _ _ rfl (.inl rfl) q rfl,k,ay.tk t r⟩
 | gk φ=>obtain⟨vs,q,k⟩:=h;exact⟨vs,e _ _ rfl (.inl rfl) q rfl,k⟩
 | ob q C fd=>obtain⟨h0,h1,h2,h3,h4,dx,ws,q,r⟩:=h;exact⟨h0,h1,h2,h3,h4,dx,ws,e _ _ rfl (.inl rfl) q rfl,r.mono t λc vs hc q=>e c _ rfl (.inr hc) q rfl⟩
def jN.mono{u:V}{s:SL}(t:aD K H H')(e:∀x a o,u=.ref x->s.own=true->s.has x a->H a=al o->o.nt=true->H' a=al o)(h:jN K H u s):jN K H' u s:=by
 rcases h with⟨v,q,r⟩ | ⟨a,q,r⟩
 ·exact .inl ⟨v,q,VR.tk t r⟩
 ·exact .inr ⟨a,q,r.mono t (λc o z y w nt=>e a c o q z y w nt)⟩
def aG.same(s:aG K H σ fs)(h:cI H H'):aG K H' σ fs:=⟨s.len,λi t e=>let ⟨u,h1,h2⟩:=s.at' i t e;⟨u,h1,h2.mono h.cb (λ_ a o _ _ _ z _=>h a o z)⟩,s.nd,s.tb.same h⟩
def bA.same(h:cI H H')(s:aG K H σ fs):bA σ fs H σ fs H':=⟨λa o e n=>⟨λ_=>h a o e,n⟩,λa e=>(by
 cases z:H a with
 | none=>rfl
 | some o=>rw[h a o z]at e;cases e),λa φ p=>.inl p⟩
inductive dI:aX->aX->Prop
 | nil:dI [] []
 | drop {s:Option SL}{a b:aX} (h:dI a b):dI (s::a) (be::b)
 | keep {s:Option SL}{a b:aX} (h:dI a b):dI (s::a) (s::b)
theorem dI.at{a b:aX}(h:dI a b):∀(i:Nat) (s:SL),b[i]?=al (al s)->a[i]?=al (al s):=by
 induction h with
 | nil=>intro i s e;simp at e
 | drop h ih=>intro i s e;cases i with | zero=>simp at e | succ i=>simp at e ⊢;exact ih i s e
 | keep h ih=>intro i s e;cases i with | zero=>simpa using e | succ i=>simp at e ⊢;exact ih i s e
theorem dI.length{a b:aX}(h:dI a b):a.length=b.length:=by induction h <;> simp_all
theorem dI.refl:∀a:aX,dI a a
 | []=>.nil
 | _::a=>.keep (dI.refl a)
def aG.le(s:aG K H σ fs)(h:dI fs aK):aG K H σ aK:=⟨s.len.trans h.length,λi t e=>s.at' i t (h.at i t e),λi j t u x y a e1 e2=>s.nd i j t u x y a (h.at i t e1) (h.at j u e2),s.tb⟩
def bx.le(h:dI fs aK)(o:bx σ aK a):bx σ fs a:=let ⟨i,t,x,e1,e2,e3⟩:=o;⟨i,t,x,h.at i t e1,e2,e3⟩
def bA.le(s:aG K H σ fs)(h:dI fs aK):bA σ fs H σ aK H:=⟨λa o e n=>⟨λ_=>e,λz=>n (z.le h)⟩,λ_ e=>e,λa φ p=>by
 obtain⟨i,e1,e2⟩:=p;by_cases c:bx σ aK a
 ·obtain⟨j,t,x,c1,c2,c3,c4⟩:=c;have ij:=s.nd i j _ t a x a e1 (h.at j t c1) rfl c2 e2 c3 (.inl rfl) c4;subst ij;have:=h.at i t c1;rw[e1]at this;cases this;exact .inl ⟨i,c1,e2⟩
 ·obtain⟨vs,q,r⟩:=s.ownAt e1 rfl e2;exact .inr ⟨c,vs,q,r⟩⟩
def bB{l:O (Option α)}{x y:α}(h:(l.set i (al x))[j]?=al (al y)):(j=i/\y=x)\/(j≠i/\l[j]?=al (al y)):=by
 by_cases c:j=i
 ·subst c;rw[List.getElem?_set]at h;simp at h;exact .inl ⟨rfl,h.2.symm⟩
 ·rw[B4 (λz=>c z.symm)]at h;exact .inr ⟨c,h⟩
def ba{l:List α}{x:α}(h:i < l.length):(l.set i x)[i]?=al x:=by rw[List.getElem?_set];simp[h]
def aA{l:List α}{x:α}(h:j≠i):(l.set i x)[j]?=l[j]?:=B4 (λz=>h z.symm)
def aG.put(s:aG K H σ fs){u:V}{t:SL}(hr:jN K H u t)(hf:∀x a,u=.ref x->t.own=true->t.has x a->∀(j:Nat) (w:SL) (y:ce),j≠i->fs[j]?=al (al w)->w.own=true->σ[j]?=al (al (.ref y))->¬w.has y a):aG K H (σ.set i (al u)) (fs.set i (al t)):=by
 refine⟨by simp[s.len],λj w e=>?_,λj k w x b1 b2 a e1 e2 o1 o2 q1 q2 z1 z2=>?_,s.tb⟩
 ·rcases bB e with⟨rfl,rfl⟩ | ⟨n,e⟩
  ·have hl:j < σ.length:=by
    have:=(Ag.mp e).1;rw[DJ]at this;rw[s.len];exact this
   exact⟨u,ba hl,hr⟩
  ·obtain⟨v,h1,h2⟩:=s.at' j w e;exact⟨v,by rw[aA n];exact h1,h2⟩
 ·rcases bB e1 with⟨y1,y2⟩ | ⟨n1,f1⟩ <;> rcases bB e2 with⟨y3,y4⟩ | ⟨n2,f2⟩
  ·exact y1.trans y3.symm
  ·subst y1;subst y2;rw[aA n2]at q2;have hl:j < σ.length:=by have:=(Ag.mp q1).1;simpa using this
   rw[ba hl]at q1;cases q1;exact absurd z2 (hf _ a rfl o1 z1 k x b2 n2 f2 o2 q2)
  ·subst y3;subst y4;rw[aA n1]at q1;have hl:k < σ.length:=by have:=(Ag.mp q2).1;simpa using this
   rw[ba hl]at q2;cases q2;exact absurd z1 (hf _ a rfl o2 z2 j w b1 n1 f1 o1 q1)
  ·rw[aA n1]at q1;rw[aA n2]at q2;exact s.nd j k w x b1 b2 a f1 f2 o1 o2 q1 q2 z1 z2
def aG.dP(s:aG K H σ fs){u:V}(hr:VR K [] H u v)(i:Nat):aG K H (σ.set i (al u)) (fs.set i (al (.val v))):=s.put (.inl ⟨v,rfl,hr⟩) λ_ _ _ z=>by cases z
def lB{u:V}{t:SL}(o:bx (σ.set i (al u)) (fs.set i (al t)) a)(hl:σ.length=fs.length):bx σ fs a\/∃x,u=.ref x/\t.own=true/\t.has x a:=by
 obtain⟨j,w,x,e1,e2,e3,e4⟩:=o;rcases bB e1 with⟨rfl,rfl⟩ | ⟨n,e1⟩
 ·have h2:j < σ.length:=by have:=(Ag.mp e3).1;simpa using this
  rw[ba h2]at e3;cases e3;exact .inr ⟨x,rfl,e2,e4⟩
 ·rw[aA n]at e3;exact .inl ⟨j,w,x,e1,e2,e3,e4⟩
def om(s:aG K H σ fs){u:V}{t:SL}(p:eH σ fs φ a)(hu:∀x,u=.ref x->t.own=true->t.has x a->t=.gk φ):eH (σ.set i (al u)) (fs.set i (al t)) φ a\/¬bx (σ.set i (al u)) (fs.set i (al t)) a:=by
 obtain⟨j,e1,e2⟩:=p;by_cases c:j=i
 ·subst c;by_cases c2:∃x,u=.ref x/\t.own=true/\t.has x a
  ·obtain⟨x,c3,c4,c5⟩:=c2;have et:=hu x c3 c4 c5;subst et;rcases c5 with rfl | c5
   ·exact .inl ⟨j,by rw[ba ((Ag.mp e1).1)],by rw[ba ((Ag.mp e2).1),c3]⟩
   ·cases c5
  ·refine .inr λo=>?_;obtain⟨k,w,y,q1,q2,q3,q4⟩:=o;rcases bB q1 with⟨rfl,rfl⟩ | ⟨n,q1⟩
   ·rw[ba ((Ag.mp e2).1)]at q3;cases q3;exact c2 ⟨y,rfl,q2,q4⟩
   ·rw[aA n]at q3;exact n (s.nd k j w _ y a a q1 e1 q2 rfl q3 e2 q4 (.inl rfl))
 ·exact .inl ⟨j,by rw[aA c];exact e1,by rw[aA c];exact e2⟩
def bA.dP(s:aG K H σ fs)(u:V)(v:PV)(i:Nat):bA σ fs H (σ.set i (al u)) (fs.set i (al (.val v))) H:=
 ⟨λa o e n=>⟨λ_=>e,λz=>(lB z s.len).elim n λ⟨_,_,z,_⟩=>by cases z⟩,λ_ e=>e,λa φ p=>(om s p (λ_ _ z=>by cases z)).imp id λn=>⟨n,by
  obtain⟨j,e1,e2⟩:=p;obtain⟨vs,q,r⟩:=s.ownAt e1 rfl e2;exact⟨vs,q,r⟩⟩⟩
def aG.qZ(s:aG K H σ fs){t:SL}(hr:di K H a t)(hn:∀c,t.has a c->¬bx σ fs c)(i:Nat):aG K H (σ.set i (al (.ref a))) (fs.set i (al t)):=s.put (.inr ⟨a,rfl,hr⟩) λx c e _ hc j w y n e1 e2 e3 z=>by
 cases e;exact hn c hc ⟨j,w,y,e1,e2,e3,z⟩
def kq{t:SL}(hi:t.wN=[]){c:ce}(h:t.has a c):c=a:=by
 rcases h with h | h
 ·exact h
 ·rw[hi]at h;cases h
def aG.q8(s:aG K H σ fs){t:SL}(hr:di K H a t)(hn:¬bx σ fs a)(i:Nat)(hi:t.wN=[]:=by rfl):aG K H (σ.set i (al (.ref a))) (fs.set i (al t)):=s.qZ hr (λc hc=>by rw[kq hi hc];exact hn) i
def bA.qZ(s:aG K H1 σ fs)(g:bA σ fs H σ fs H1){t:SL}(hn:∀c,t.has a c->¬bx σ fs c)(h0:∀c,t.has a c->H c=be)(i:Nat):bA σ fs H (σ.set i (al (.ref a))) (fs.set i (al t)) H1:=by
 refine⟨λb o e n=>⟨(g.keep b o e n).1,λz=>(lB z s.len).elim n λ⟨x,z,_,y⟩=>?_⟩,g.there,λb φ p=>?_⟩
 ·cases z;rw[h0 b y]at e;cases e
 ·obtain⟨j,e1,e2⟩:=p;obtain⟨vs,q,r⟩:=s.ownAt e1 rfl e2;refine(om s ⟨j,e1,e2⟩ (λx z o y=>?_)).imp id λn=>⟨n,vs,q,r⟩;cases z;exact absurd ⟨j,_,_,e1,rfl,e2,.inl rfl⟩ (hn b y)
def bA.q8(s:aG K H1 σ fs)(g:bA σ fs H σ fs H1){t:SL}(hn:¬bx σ fs a)(h0:H a=be)(i:Nat)(hi:t.wN=[]:=by rfl):bA σ fs H (σ.set i (al (.ref a))) (fs.set i (al t)) H1:=bA.qZ s g (λc hc=>by rw[kq hi hc];exact hn) (λc hc=>by rw[kq hi hc];exact h0) i
def lD(s:aG K H σ fs){t t':SL}{c:ce}(e1:fs[i]?=al (al t))(o:t.own=true)(np:∀φ,t≠.gk φ)(e2:σ[i]?=al (al (.ref a)))(hc:t.has a c)(qw:t'.has a c)(vz:∀b,t'.has a b->t.has a b)(o':t'.own=true)(sx:gh c H H')(ht:aD K H H'->di K H' a t'):aG K H' σ (fs.set i (al t'))/\bA σ fs H σ (fs.set i (al t')) H':=by
 have oa:=s.ownAt e1 o e2;obtain⟨ob,q,n1,n2,n3⟩:=oa.ex o hc;have tk:aD K H H':=⟨λb vs z=>sx b _ (λy=>by subst y;rw[q]at z;cases z;exact n1 _ rfl) z,λb o u z=>sx b _ (λy=>by subst y;rw[q]at z;cases z;exact n2 _ _ rfl) z,xk λb φ z=>sx b _ (λy=>by subst y;rw[q]at z;cases z;cases n3) z⟩;have KZ:=ht tk;have hi:i < fs.length:=(Ag.mp e1).1;have uS:∀b,bx σ (fs.set i (al t')) b->bx σ fs b:=λb z=>by
  obtain⟨j,w,x,z1,z2,z3,z4⟩:=z;rcases bB z1 with⟨rfl,rfl⟩ | ⟨n,z1⟩
  ·rw[e2]at z3;cases z3;exact⟨j,t,a,e1,o,e2,vz b z4⟩
  ·exact⟨j,w,x,z1,z2,z3,z4⟩
 refine⟨⟨by simp[s.len],λj w e=>?_,λj k w x b1 b2 b z1 z2 o1 o2 q1 q2 y1 y2=>?_,s.tb.qP sx q (wF n3) n2⟩,⟨λb ob e n=>⟨λ_=>sx b ob (λz=>by subst z;exact n ⟨i,t,a,e1,o,e2,hc⟩) e,λz=>n (uS b z)⟩,λb e=>?_,λb φ p=>?_⟩⟩
 ·rcases bB e with⟨rfl,rfl⟩ | ⟨n,e⟩
  ·exact⟨_,e2,.inr ⟨a,rfl,KZ⟩⟩
  ·obtain⟨u,h1,h2⟩:=s.at' j w e;refine⟨u,h1,h2.mono tk (λx b ob eb ow hb z _=>sx b ob (λy=>?_) z)⟩;subst y;subst eb;exact n (s.nd j i w t x a b e e1 ow o h1 e2 hb hc)
 ·have f:∀{j:Nat}{w:SL}{y:ce},(fs.set i (al t'))[j]?=al (al w)->w.own=true->σ[j]?=al (al (.ref y))->w.has y b->∃w',fs[j]?=al (al w')/\w'.own=true/\w'.has y b:=λ{j w y} z ow qy hy=>by
   rcases bB z with⟨rfl,rfl⟩ | ⟨n,z⟩
   ·rw[e2]at qy;cases qy;exact⟨t,e1,o,vz b hy⟩
   ·exact⟨w,z,ow,hy⟩
  obtain⟨w',a1,a2,a3⟩:=f z1 o1 q1 y1;obtain⟨x',c1,c2,c3⟩:=f z2 o2 q2 y2;exact s.nd j k w' x' b1 b2 b a1 c1 a2 c2 q1 q2 a3 c3
 ·cases z:H b with
  | none=>rfl
  | some ob=>
   by_cases cc:b=c
   ·subst cc;obtain⟨o2,y,_⟩:=KZ.ex o' qw;rw[e]at y;cases y
   ·rw[sx b ob cc z]at e;cases e
 ·obtain⟨j,p1,p2⟩:=p;have ji:j≠i:=λz=>by subst z;rw[e1]at p1;cases p1;exact np φ rfl
  exact .inl ⟨j,by rw[aA ji];exact p1,p2⟩
def iz(s:aG K H σ fs){t t':SL}(e1:fs[i]?=al (al t))(o:t.own=true)(np:∀φ,t≠.gk φ)(e2:σ[i]?=al (al (.ref a)))(sx:gh a H H')(ht:aD K H H'->di K H' a t')(hi:t'.wN=t.wN:=by rfl)(o':t'.own=true:=by rfl):aG K H' σ (fs.set i (al t'))/\bA σ fs H σ (fs.set i (al t')) H':=
 lD s e1 o np e2 (.inl rfl) (.inl rfl) (λb h=>by unfold SL.has at h ⊢;rw[hi]at h;exact h) o' sx ht
end
end
end FL
open FL.W renaming bind→am,ret→ap,run_bind→ge,au→r6,aq→r9,ax→ss,ext'→wp
local macro_rules | `($a\$b)=>`(am (ap $a) $b)
variable{u:L2.V}{fs aK:FL.aX}{σ':L2.St}{wa wb:FL.W PL.PV}{wl:FL.W (O PL.PV)}
namespace FL
section
variable[bj]
variable{K:Aa}
def fE(K:Aa)(fs:aX)(w:W PV):TE:=λσ H Q=>aG K H σ fs/\w.run λv=>∀u H',bM σ fs H H'->aG K H' σ fs->VR K [] H' u v->Q u H'
def fT(K:Aa)(fs:aX)(w:W Bool):TT:=λσ H Q=>aG K H σ fs/\w.run λb=>∀H',bM σ fs H H'->aG K H' σ fs->Q b H'
def fO(K:Aa)(fs:aX)(w:W (Option Int)):TO:=λσ H Q=>aG K H σ fs/\w.run λb=>∀H',bM σ fs H H'->aG K H' σ fs->Q b H'
def fL(K:Aa)(fs:aX)(w:W (O PV)):TE:=λσ H Q=>aG K H σ fs/\w.run λl=>∀a vs H',bM σ fs H H'->aG K H' σ fs->H a=be->H' a=al (.lst vs)->ay K [] H' vs l->Q (.ref a) H'
def y9(K:Aa)(H:Hp)(u:V)(l:O PV):Prop:=∃a vs,u=.ref a/\(tU K H a vs\/H a=al (.tup vs))/\ay K [] H vs l
def v9(K:Aa)(σ:L2.St)(fs:aX)(H:Hp)(u:V)(l:O PV):Prop:=y9 K H u l\/∃a,u=.ref a/\((¬bx σ fs a/\∃vs,H a=al (.lst vs)/\ay K [] H vs l)\/∃(i:Nat) (q:Option ce),fs[i]?=al (al (.ol q l))/\σ[i]?=al (al (.ref a)))
def fQ(K:Aa)(fs:aX)(w:W (O PV)):TE:=λσ H Q=>aG K H σ fs/\w.run λl=>∀u H',bM σ fs H H'->aG K H' σ fs->v9 K σ fs H' u l->Q u H'
def fI(K:Aa)(fs:aX)(w:W (O PV)):TE:=λσ H Q=>aG K H σ fs/\w.run λl=>∀u H',bM σ fs H H'->aG K H' σ fs->y9 K H' u l->Q u H'
inductive AK where
 | v | p (φ:List V->Prop) | f (a:ce) (us:List V) (ps:List PV) (fz:List (ce×Obj))
inductive bN(K:Aa)(σ:L2.St)(fs:aX)(H:Hp):List V->List AK->List PV->Prop
 | nil:bN K σ fs H [] [] []
 | v {u:V}{x:PV}{vs:List V}{ks:List AK}{l:List PV} (r:VR K [] H u x) (t:bN K σ fs H vs ks l):bN K σ fs H (u::vs) (.v::ks) (x::l)
 | p {a:ce}{φ:List V->Prop}{vs:List V}{ks:List AK}{l:List PV} (r:eH σ fs φ a) (t:bN K σ fs H vs ks l):bN K σ fs H (.ref a::vs) (.p φ::ks) l
 | f {a:ce}{us vs:List V}{ps:List PV}{fz:List (ce×Obj)}{ks:List AK}{l:List PV} (r:ay K [] H us ps) (z:o8 H fz) (t:bN K σ fs H vs ks l):bN K σ fs H (.ref a::vs) (.f a us ps fz::ks) l
def fA(K:Aa)(fs:aX)(ks:O AK)(w:W (O PV)):TA:=λσ H Q=>aG K H σ fs/\w.run λl=>∀vs H',bM σ fs H H'->aG K H' σ fs->bN K σ fs H' vs ks l->Q vs H'
structure EF(X:Cx)(K:Aa)(fs:aX)(e:gl)(w:W PV):Prop where p:PE X e (fE K fs w)
structure LF(X:Cx)(K:Aa)(fs:aX)(e:gl)(w:W (List PV)):Prop where p:PE X e (fL K fs w)
structure QF(X:Cx)(K:Aa)(fs:aX)(e:gl)(w:W (List PV)):Prop where p:PE X e (fQ K fs w)
structure IF(X:Cx)(K:Aa)(fs:aX)(e:gl)(w:W (List PV)):Prop where p:PE X e (fI K fs w)
structure TF(X:Cx)(K:Aa)(fs:aX)(e:gl)(w:W Bool):Prop where p:PT X e (fT K fs w)
structure xj(X:Cx)(K:Aa)(fs:aX)(e:gl)(w:W Bool):Prop where p:PW X e (fT K fs w)
structure OF(X:Cx)(K:Aa)(fs:aX)(e:Option gl)(w:W (Option Int)):Prop where p:L2.PO X e (fO K fs w)
structure AF(X:Cx)(K:Aa)(fs:aX)(es:List gl)(ks:List AK){R:Type}(B:(List PV->W R)->W R):Prop where
 p:∃w:W (List PV),PA X es (fA K fs ks w)/\∀k,B k=am w k
section
def y9.tk(t:aD K H H')(h:y9 K H u l):y9 K H' u l:=by
 obtain⟨a,vs,e,q,r⟩:=h;exact⟨a,vs,e,q.imp (t.f _ _) (t.t _ _),ay.tk t r⟩
def v9.go(h:v9 K σ fs H u l)(s:aG K H σ fs)(g:bM σ fs H H'):v9 K σ fs H' u l:=by
 rcases h with h | ⟨a,e,⟨n,vs,q,r⟩ | q⟩
 ·exact .inl (h.tk (g.bI s))
 ·exact .inr ⟨a,e,.inl ⟨n,vs,(g.iJ q n),g.qu s r⟩⟩
 ·exact .inr ⟨a,e,.inr q⟩
def v9.sq(h:v9 K σ fs H u l)(s:aG K H σ fs):∃a vs,u=.ref a/\(bO K H a vs\/cf K H a vs)/\ay K [] H vs l:=by
 rcases h with⟨a,vs,e,q,r⟩ | ⟨a,e,⟨n,vs,q,r⟩ | ⟨i,_,q1,q2⟩⟩
 ·exact⟨a,vs,e,q.elim (λq=>.inl q.sq) λq=>.inr (cf.of q),r⟩
 ·exact⟨a,vs,e,.inl (bO.of q),r⟩
 ·obtain⟨_,vs,q,r⟩:=s.ownAt q1 rfl q2;exact⟨a,vs,e,.inl (bO.of q),r⟩
end
section
variable{a c o:gl}{rest:O gl}{w:W PV}
def ag(i:Nat){x:Str}(hs:fs[i]?=al (al (.val v)):=by rfl)(hN:X.N[i]?=al x:=by rfl)(hv:o7 X.env.scope x:=by first | exact Bm rfl | exact BP (Bm rfl) | exact BP (BP rfl))(hd:dU x:=by decide)(ek:qq x:=by decide):EF X K fs (.Name x pos) (.ret v):=
 ⟨PE.imp (cy hN hv hd ek) λσ H Q ⟨sr,q⟩=>by
  obtain⟨u,e1,r⟩:=sr.at' i _ hs;rcases r with⟨w,e,r⟩ | ⟨a,_,r⟩
  ·cases e;exact⟨u,e1,q u H .refl sr r⟩
  ·exact r.elim⟩
def Hd{v:V}{p:PV}(hv:∀H,VR K [] H v p)(h:PE X e (tC v)):EF X K fs e (.ret p):=⟨PE.imp h λσ H Q ⟨sr,q⟩=>q v H .refl sr (hv _)⟩
def ao{i j}:EF X K fs (.Constant (.int i) j pos) (.ret (.int i)):=Hd (λ_=>.int i) bV
def vP{b j}:EF X K fs (.Constant (.bool b) j pos) (.ret (.bl b)):=Hd (λ_=>.bl b) rC
def w6{j}:EF X K fs (.Constant .none j pos) (.ret .aL):=Hd (λ_=>.aL) j5
def bU{x j}:EF X K fs (.Constant (.str x) j pos) (.ret (.str x)):=Hd (λ_=>.str x) dY
def of2(m:M2)(x y:PV):W PV:=⟨λQ=>m.f x y [] λz h=>h=[]/\Q z,λf q=>m.mono (λ_ _ q=>⟨q.1,f _ q.2⟩) q⟩
def K9(H:Hp):HR K [] H []:=⟨List.nodup_nil,rfl,λn a o e _=>by simp at e⟩
def KY{Q:VK}{z:PV}{h:PH}(sr:aG K H σ fs)(q:h=[]/\∀u H',bM σ fs H H'->aG K H' σ fs->VR K [] H' u z->Q u H'):pQ K [] H Q z h:=λι' v H' g r x=>by
 obtain⟨e,q⟩:=q;subst e;have:ι'=[]:=A8 r.len;subst this;have sm:cI H H':=λa o z=>g.keep a o (by simp) z;exact q v H' (bM.same sm) (sr.same sm) x
def xX{r:R2}{m:M2}(hm:M2.Ok K r m){Q:VK}{v:V}{x y:PV}(sr:aG K H σ fs)(hu:VR K [] H u x)(hv:VR K [] H v y)(q:(of2 m x y).run λz=>∀u H',bM σ fs H H'->aG K H' σ fs->VR K [] H' u z->Q u H'):r u v H Q:=
 hm (K9 H) hu hv (m.mono (λz h q=>KY sr q) q)
def oT{r:R2}{m:M2}(hm:M2.Ok K r m):∀σ H Q,fE K fs (.bind wa λx=>.bind wb λy=>of2 m x y) σ H Q->zh r (fE K fs wa) (fE K fs wb) σ H Q:=λσ H Q ⟨sr,q⟩=>
 ⟨sr,wa.mono (λx q1 u1 H1 g1 s1 v1=>⟨s1,wb.mono (λy q2 u2 H2 g2 s2 v2=>xX hm s2 (g2.vr s1 v1) v2 ((of2 m x y).mono (λz q u3 H3 g3 s3 v3=>q u3 H3 ((g1.trans g2).trans g3) s3 v3) q2)) q1⟩) q⟩
def tD{op:Operator}{r:R2}{m:M2}(ho:dN X (nl op) r)(hm:M2.Ok K r m)(ha:EF X K fs a wa)(hb:EF X K fs b wb):EF X K fs (.BinOp a op b pos) (.bind wa λx=>.bind wb λy=>of2 m x y):=⟨PE.imp (jC ho ha.p hb.p) (oT hm)⟩
def tu(ha:EF X K fs a wa)(hb:EF X K fs b wb):EF X K fs (.BinOp a .Sub b pos) (.bind wa λx=>.bind wb λy=>of2 m7 x y):=tD rH (tR λ_ _ _ _=>.int _) ha hb
def f7(ha:EF X K fs a wa)(hb:EF X K fs b wb):EF X K fs (.BinOp a .Mult b pos) (.bind wa λx=>.bind wb λy=>of2 cz x y):=tD uT (kK λ_ _ _ _=>.int _) ha hb
def tE(ha:EF X K fs a wa)(hb:EF X K fs b wb):EF X K fs (.BinOp a .FloorDiv b pos) (.bind wa λx=>.bind wb λy=>of2 oDiv x y):=tD uU (kK λ_ _ _ _=>.int _) ha hb
def dM(ha:EF X K fs a wa)(hb:EF X K fs b wb):EF X K fs (.BinOp a .Mod b pos) (.bind wa λx=>.bind wb λy=>of2 oMod x y):=tD xT (kK λ_ _ _ _=>.int _) ha hb
def oX(ha:EF X K fs a wa)(hb:EF X K fs b wb):EF X K fs (.BinOp a .Pow b pos) (.bind wa λx=>.bind wb λy=>of2 fF x y):=tD xR (kK λ_ _ _ _=>.int _) ha hb
def yf:PV->W PV
 | .int i=>.ret (.int (-i))
 | _=>.fail
def F4(ha:EF X K fs a wa):EF X K fs (.UnaryOp .USub a pos) (.bind wa yf):=⟨PE.imp (rm mL ha.p) λσ H Q ⟨sr,q⟩=>⟨sr,wa.mono (λx q1 u1 H1 g1 s1 v1=>by
 cases v1 with
 | int i=>exact⟨_,rfl,q1 _ H1 g1 s1 (.int _)⟩
 | _=>exact q1.elim) q⟩⟩
def HD:PV->W Bool
 | .bl b=>.ret b
 | _=>.fail
def iY{m:M2}(hc:JC X K op b m)(ha:EF X K fs a wa)(hb:EF X K fs b wb):EF X K fs (.Compare a [op] [b] pos) (.bind wa λx=>.bind wb λy=>of2 m x y):=let ⟨_,h1,h2⟩:=hc.p;⟨PE.imp (hE h1 ha.p hb.p hc.k) (oT h2)⟩
def FZ{w:W PV}:∀σ H Q,fT K fs (.bind w HD) σ H Q->(fE K fs w) σ H λx H'=>∃k,x=.bl k/\Q k H':=λσ H Q ⟨sr,q⟩=>⟨sr,w.mono (λx q1 u1 H1 g1 s1 v1=>by
 cases v1 with
 | bl b=>exact⟨b,rfl,q1 H1 g1 s1⟩
 | _=>exact q1.elim) q⟩
def k7{m:M2}(hc:JC X K op b m)(ha:EF X K fs a wa)(hb:EF X K fs b wb):TF X K fs (.Compare a [op] [b] pos) (.bind wa λx=>.bind wb λy=>.bind (of2 m x y) HD):=let ⟨_,h1,h2⟩:=hc.p
 ⟨PT.imp (eJ h1 ha.p hb.p hc.k) λσ H Q q=>oT h2 σ H _ (FZ σ H Q q)⟩
def tK(z:PV)(w:W PV):W PV:=match z with
 | .bl true=>w
 | .bl false=>.ret (.bl false)
 | _=>.fail
def vY(x:PV)(w:W PV):W PV:=match x with
 | .bl true=>w
 | .bl false=>.ret (.bl false)
 | _=>.fail
def xa(ha:EF X K fs a wa)(hb:EF X K fs (.BoolOp .And (b::rest) pos) wb):EF X K fs (.BoolOp .And (a::b::rest) pos) (.bind wa λx=>vY x wb):=⟨PE.imp (rD ha.p hb.p) λσ H Q ⟨sr,q⟩=>⟨sr,wa.mono (λx q1 u1 H1 g1 s1 v1=>by
 cases v1 with
 | bl k=>
  cases k with
  | true=>exact⟨true,rfl,by rw[if_pos rfl];exact⟨s1,wb.mono (λ_ q u H' g s v=>q u H' (g1.trans g) s v) q1⟩⟩
  | false=>exact⟨false,rfl,by rw[if_neg Az];exact q1 _ H1 g1 s1 (.bl _)⟩
 | _=>exact q1.elim) q⟩⟩
def wZ{op}(h:EF X K fs a wa):EF X K fs (.BoolOp op [a] pos) wa:=⟨rz h.p⟩
variable{ta tb tc:W Bool}
def mM(h:TF X K fs a ta):xj X K fs (.BoolOp .Or [a] pos) ta:=⟨xJ h.p⟩
def qC(ha:TF X K fs a ta)(hb:xj X K fs (.BoolOp .Or (b::rest) pos) tb):xj X K fs (.BoolOp .Or (a::b::rest) pos) (.bind ta λk=>if k=true then .ret true else tb):=⟨PW.imp (EM ha.p hb.p) λσ H Q ⟨sr,q⟩=>⟨sr,ta.mono (λk q1 H1 g1 s1=>by
 cases k with
 | true=>exact fN (q1 H1 g1 s1)
 | false=>exact dR ⟨s1,tb.mono (λ_ q H' g s=>q H' (g1.trans g) s) q1⟩) q⟩⟩
def xj.t(h:xj X K fs a ta):TF X K fs a ta:=⟨PW.pt h.p⟩
def k6(ha:TF X K fs a ta):TF X K fs (.UnaryOp .Not a pos) (.bind ta λk=>.ret (!k)):=⟨PT.imp (j0 ha.p) λσ H Q ⟨sr,q⟩=>⟨sr,q⟩⟩
def Kj(hc:TF X K fs c tc)(ha:EF X K fs a wa)(hb:EF X K fs b wb):EF X K fs (.IfExp c a b pos) (.bind tc λk=>if k=true then wa else wb):=⟨PE.imp (rA hc.p ha.p hb.p) λσ H Q ⟨sr,q⟩=>⟨sr,tc.mono (λk q1 H1 g1 s1=>by
 cases k with
 | true=>exact fN ⟨s1,wa.mono (λ_ q u H' g s v=>q u H' (g1.trans g) s v) q1⟩
 | false=>exact dR ⟨s1,wb.mono (λ_ q u H' g s v=>q u H' (g1.trans g) s v) q1⟩) q⟩⟩
def cJ:PV->W Bool
 | .aL=>.ret false
 | .bl b=>.ret b
 | .int i=>.ret (i != 0)
 | .str y=>.eW (y.length<=sizeLine) (.ret ((y.length:Int) != 0))
 | .tup l=>.ret (!l.isEmpty)
 | .cl l=>.ret (!l.isEmpty)
 | _=>.fail
def eS(hK:X.K=K)(ha:EF X K fs a wa)(he:∀Á,isTrue a X.env Á=(do let v <- Á;u8 a.pos;mo [v] (truthy v))):TF X K fs a (.bind wa cJ):=⟨PT.imp (c9 K hK ha.p he) λσ H Q ⟨sr,q⟩=>⟨sr,wa.mono (λx q1 u1 H1 g1 s1 v1=>by
 cases v1 with
 | aL=>exact⟨false,rfl,q1 H1 g1 s1⟩
 | bl b=>exact⟨b,rfl,q1 H1 g1 s1⟩
 | int i=>exact⟨_,rfl,q1 H1 g1 s1⟩
 | str y=>exact⟨_,⟨q1.1,rfl⟩,q1.2 H1 g1 s1⟩
 | ty _=>exact q1.elim
 | dk _ _ _=>exact q1.elim
 | dt _ _ _=>exact q1.elim
 | ob _ _ _ _ _=>exact q1.elim
 | hand _=>exact q1.elim
 | ref _=>exact q1.elim
 | @tup p vs l e rs=>
  refine⟨!vs.isEmpty,.inr (.inl ⟨_,cf.of e,rfl⟩),?_⟩;rw[<- ed rs];exact q1 H1 g1 s1
 | @cl p vs l e rs=>
  refine⟨!vs.isEmpty,.inl ⟨_,e.sq,rfl⟩,?_⟩;rw[<- ed rs];exact q1 H1 g1 s1) q⟩⟩
def zY(hK:X.K=K)(ha:QF X K fs a wl)(he:∀Á,isTrue a X.env Á=(do let v <- Á;u8 a.pos;mo [v] (truthy v))):TF X K fs a (.bind wl λl=>.ret (!l.isEmpty)):=⟨PT.imp (c9 K hK ha.p he) λσ H Q ⟨sr,q⟩=>⟨sr,wl.mono (λl q1 u1 H1 g1 s1 v1=>by
 obtain⟨b,vs,rfl,h,rs⟩:=v1.sq s1;refine⟨!vs.isEmpty,?_,?_⟩
 ·exact h.elim (λh=>.inl ⟨_,h,rfl⟩) λh=>.inr (.inl ⟨_,h,rfl⟩)
 ·rw[<- ed rs];exact q1 H1 g1 s1) q⟩⟩
variable{R:Type}{ks:O AK}{B:(O PV->W R)->W R}
def aw:AF X K fs [] [] (R:=R) (λk=>k []):=⟨.ret [],PA.imp az λσ H Q ⟨sr,q⟩=>q [] H .refl sr .nil,λk=>rfl⟩
def ai(ha:EF X K fs e w)(hr:AF X K fs es ks B)(hs:c6 X e es:=by rfl):AF X K fs (e::es) (.v::ks) (λk=>.bind w λx=>B λl=>k (x::l)):=by
 obtain⟨wr,hp,hB⟩:=hr.p;refine⟨.bind w λx=>.bind wr λl=>.ret (x::l),PA.imp (ae ha.p hp hs) λσ H Q ⟨sr,q⟩=>?_,λk=>?_⟩
 ·exact⟨sr,w.mono (λx q1 u1 H1 g1 s1 v1=>⟨s1,wr.mono (λl q2 vs H2 g2 s2 v2=>q2 _ H2 (g1.trans g2) s2 (.v (g2.vr s1 v1) v2)) q1⟩) q⟩
 ·have:(λx=>B λl=>k (x::l))=λx=>am wr λl=>k (x::l):=funext λx=>hB _;rw[this];rfl
def cH(i:Nat){x:Str}(hr:AF X K fs es ks B)(hs:fs[i]?=al (al (.gk φ)):=by rfl)(hN:X.N[i]?=al x:=by rfl)(hv:o7 X.env.scope x:=by first | exact Bm rfl | exact BP (Bm rfl) | exact BP (BP rfl))(hd:dU x:=by decide)(ek:qq x:=by decide)
  (kl:f8 (.Name x pos::es) X.env=(false,ii (.Name x pos) X.env)::f8 es X.env:=by rfl):AF X K fs (.Name x pos::es) (.p φ::ks) B:=by
 obtain⟨wr,hp,hB⟩:=hr.p;refine⟨wr,PA.imp (ae (cy hN hv hd ek) hp kl) λσ H Q ⟨sr,q⟩=>?_,hB⟩;obtain⟨u,e1,r⟩:=sr.at' i _ hs;rcases r with⟨v,e,_⟩ | ⟨a,e,r⟩
 ·cases e
 ·subst e;exact⟨_,e1,sr,wr.mono (λl q2 vs H2 g2 s2 v2=>q2 _ H2 g2 s2 (.p ⟨i,hs,e1⟩ v2)) q⟩
theorem bN.qu:∀{vs:O V}{n:Nat}{l:O PV},bN K σ fs H vs (AI n .v) l->ay K [] H vs l/\l.length=n
 | _,0,_,.nil=>⟨.nil,rfl⟩
 | _,n+1,_,.v r t=>⟨.cons r (bN.qu t).1,by rw[Ar,(bN.qu t).2]⟩
def F3{x1}{B:(O PV->W PV)->W PV}(h:AF X K fs es (AI n .v) B)(hn:n<=1000:=by decide):EF X K fs (.Tuple es x1 pos) (B λl=>.ret (.tup l)):=by
 obtain⟨w,hp,hB⟩:=h.p;rw[hB];refine⟨PE.imp (fC hp) λσ H Q ⟨sr,q⟩=>⟨sr,w.mono (λl q1 vs H1 g1 s1 v1=>?_) q⟩⟩;obtain⟨v2,hl⟩:=v1.qu;exact⟨by rw[v2.length,hl];exact cu hn,λp H2 s2 e2 n2=>q1 _ H2 (g1.trans (bM.same s2)) (s1.same s2) (.tup e2 (ay.tk s2.cb v2))⟩
def wL{B:(O PV->W (O PV))->W (O PV)}(h:AF X K fs es (AI n .v) B)(hn:n<=1000:=by decide):LF X K fs (.List es pos) (B λl=>.ret l):=by
 obtain⟨w,hp,hB⟩:=h.p;rw[hB];refine⟨PE.imp (j6 hp) λσ H Q ⟨sr,q⟩=>⟨sr,w.mono (λl q1 vs H1 g1 s1 v1=>?_) q⟩⟩;obtain⟨v2,hl⟩:=v1.qu;exact⟨by rw[v2.length,hl];exact cu hn,λp H2 s2 e2 n2=>q1 _ _ H2 (g1.trans (bM.same s2)) (s1.same s2) (g1.there p n2) e2 (ay.tk s2.cb v2)⟩
end
end
end FL
namespace L2
def Inv.oO{σ:St}{s:ci}(I:Inv X U σ H s)(e:H a=al (.lst vs)):∃o,Inv X U σ (upd H a (.bX o (.lst vs))) s:=by
 obtain⟨z,ak,n,r,h1⟩:=(I.aP a _ e);exact⟨_,I.write (by rw[e];exact BR) (.inl rfl) (λb u _ z=>z) ⟨_,h1⟩ ⟨h1,z,ak,n,r,h1⟩⟩
def Inv.vF{σ:St}{s:ci}{aM:O (Key×V)}(I:Inv X U σ H s)(e:H a=al (.dK aM)):∃o,Inv X U σ (upd H a (.bX o (.dK aM))) s:=by
 obtain⟨z,hs,vs,r,o,es,ep,h1,h2⟩:=(I.aP a _ e);exact⟨o,I.write (by rw[e];exact BR) (.inl rfl) (λb u _ z=>z) ⟨o,h1⟩ ⟨h1,z,hs,vs,r,o,es,ep,h1,h2⟩⟩
end L2
variable{t:FL.SL}{ks:O FL.AK}{B:(O PL.PV->FL.W PL.PV)->FL.W PL.PV}{q0:Option AR}
namespace FL
section
variable[bj]
variable{K:Aa}
section
def g9(o':HO)(e:H a=al (.lst vs)):aD K H (upd H a o'):=⟨λb ws q=>by rw[ah (oB q e (by intro z;cases z))];exact q,λb o u q=>by rw[ah (oB q e (by intro z;cases z))];exact q,xk λb φ q=>by rw[ah (oB q e (by intro z;cases z))];exact q⟩
def Oi(aM:O (Key×PV)):PV:=.dv (aM.map λkv=>kP kv.1) (aM.map (·.2))
def Oh(aM:O (O Key×PV)):PV:=.dv (aM.map λkv=>.tup (kv.1.map kP)) (aM.map (·.2))
def EU(h:o.ow=true):∀φ,o≠.ext φ:=λφ e=>by subst e;cases h
def fo{oh:HO}(o':HO)(e:H a=al oh)(n1:∀vs,oh≠.tup vs)(n2:∀o u,oh≠.bX o u)(n3:∀φ,oh≠.ext φ:=by first | (intro φ z;cases z;done) | exact EU (by assumption)):aD K H (upd H a o'):=⟨λb ws q=>by rw[ah (λz=>by subst z;rw[e]at q;cases q;exact n1 _ rfl)];exact q,λb o u q=>by rw[ah (λz=>by subst z;rw[e]at q;cases q;exact n2 _ _ rfl)];exact q,xk λb φ q=>by rw[ah (λz=>by subst z;rw[e]at q;cases q;exact n3 _ rfl)];exact q⟩
def Fd{vs:O (O Key×V)}{aM:O (O Key×PV)}(h:vs.map (·.1)=aM.map (·.1)):(aM.map λkv=>PV.tup (kv.1.map kP))=vs.map λkv=>PV.tup (kv.1.map kP):=by
 have:=congrArg (List.map λk:O Key=>PV.tup (k.map kP)) h;rw[DA,DA]at this;exact this.symm
def Fe{vs:O (Key×V)}{aM:O (Key×PV)}(h:vs.map (·.1)=aM.map (·.1)):(aM.map λkv=>kP kv.1)=vs.map λkv=>kP kv.1:=by
 have:=congrArg (List.map kP) h;rw[DA,DA]at this;exact this.symm
def SL.bw:SL->Bool
 | .ol _ _=>true
 | .od _=>true
 | .ot _=>true
 | _=>false
def SL.bv:SL->PV
 | .ol _ l=>.cl l
 | .od aM=>Oi aM
 | .ot aM=>Oh aM
 | _=>.aL
def SL.yY(h:t.bw=true):t.own=true:=by cases t <;> first | rfl | cases h
def JW{s:ci}(I:Inv X U σ' H s)(oa:di K H a t)(hb:t.bw=true):∃ob o,H a=al o/\(∀vs,o≠.tup vs)/\(∀ob u,o≠.bX ob u)/\Inv X U σ' (upd H a (.bX ob o)) s/\VR K [] (upd H a (.bX ob o)) (.ref a) t.bv:=by
 cases t with
 | ol q l=>
  obtain⟨_,vs,e,r⟩:=oa;obtain⟨ob,I2⟩:=I.oO e;exact⟨ob,_,e,by simp,by simp,I2,.cl (.inl ⟨ob,aB⟩) (ay.tk (fo _ e (by simp) (by simp)) r)⟩
 | od l=>
  obtain⟨vs,e,k,r⟩:=oa;obtain⟨ob,I2⟩:=I.vF e;exact⟨ob,_,e,by simp,by simp,I2,.dk aB (Fe k) (ay.tk (fo _ e (by simp) (by simp)) r)⟩
 | ot l=>
  obtain⟨vs,e,k,r⟩:=oa;obtain⟨ob,I2⟩:=I.freeze e;exact⟨ob,_,e,by simp,by simp,I2,.dt aB (Fd k) (ay.tk (fo _ e (by simp) (by simp)) r)⟩
 | _=>cases hb
def aG.JV{u:HO}(sr:aG K H σ fs)(hs:fs[i]?=al (al t))(ho:t.own=true)(e1:σ[i]?=al (al (.ref a)))(h1:H a=al o)(n1:∀vs,o≠.tup vs)(n2:∀ob u,o≠.bX ob u)(vr:VR K [] (upd H a u) (.ref a) v):aG K (upd H a u) σ (fs.set i (al (.val v))):=by
 have ow:o.ow=true:=by
  obtain⟨o',z1,_,_,z2⟩:=(sr.ownAt hs ho e1).ex ho (.inl rfl);rw[h1]at z1;cases z1;exact z2
 have nt:o.nt=true:=wF ow;refine⟨by simp[sr.len],λj t' z=>?_,λj k t' u b1 b2 b z1 z2 o1 o2=>?_,sr.tb.qP (λb o n z=>by rw[ah n];exact z) h1 nt n2⟩
 ·rcases bB z with⟨rfl,rfl⟩ | ⟨n,z⟩
  ·exact⟨_,e1,.inl ⟨_,rfl,vr⟩⟩
  ·obtain⟨u,k1,k2⟩:=sr.at' j t' z;exact⟨u,k1,k2.mono (fo _ h1 n1 n2) (λx b o eb ow hb zz _=>by
    subst eb;rw[ah (λy=>by subst y;exact n (sr.nd j i t' _ x b b z hs ow ho k1 e1 hb (.inl rfl)))];exact zz)⟩
 ·rcases bB z1 with⟨rfl,rfl⟩ | ⟨n1,z1⟩
  ·cases o1
  ·rcases bB z2 with⟨rfl,rfl⟩ | ⟨n2,z2⟩
   ·cases o2
   ·exact sr.nd j k t' u b1 b2 b z1 z2 o1 o2
def aG.side(s:aG K H σ fs)(n:¬bx σ fs a)(e:H a=al (.lst vs))(o':HO):aG K (upd H a o') σ fs:=⟨s.len,λi t q=>by
 obtain⟨u,h1,h2⟩:=s.at' i t q;exact⟨u,h1,h2.mono (g9 o' e) (λx b o eb ow hb z _=>by subst eb;rw[ah (λy:b=a=>n ⟨i,t,x,q,ow,h1,y▸hb⟩)];exact z)⟩,s.nd,s.tb.qP (λb o n z=>by rw[ah n];exact z) e rfl (by simp)⟩
def bM.side(g:bM σ fs H H1)(h0:H a=be)(o':HO):bM σ fs H (upd H1 a o'):=⟨λb o e n t=>by rw[ah (aJ e h0)];exact g.keep b o e n t,λb e=>by
 by_cases c:b=a
 ·subst c;exact h0
 ·rw[ah c]at e;exact g.there b e⟩
end
section
variable{a:gl}{p:Pos}{w:W PV}
def w9(h:LF X K fs e wl):EF X K fs e (.bind wl λl=>.ret (.cl l)):=⟨λU s σ H Q I ⟨sr,q⟩=>by
 refine aR (h.p U s σ H (λu H1=>∃a vs l,u=.ref a/\bM σ fs H H1/\aG K H1 σ fs/\H a=be/\H1 a=al (.lst vs)/\ay K [] H1 vs l/\∀u H',bM σ fs H H'->aG K H' σ fs->VR K [] H' u (.cl l)->Q u H') I ⟨sr,wl.mono (λl q1 a vs H1 g1 s1 n e v=>⟨a,vs,l,rfl,g1,s1,n,e,v,q1⟩) q⟩) λu s1 ⟨v,H1,I1,r1,a,vs,l,e,g1,Mm,n,ea,vr,q1⟩=>?_;subst e;obtain⟨ob,I2⟩:=I1.oO ea;exact⟨.ref a,_,I2,r1,q1 _ _ (g1.side n _) (Mm.side (λz=>sr.noOwn n z) ea _) (.cl (.inl ⟨ob,aB⟩) (ay.tk (g9 _ ea) vr))⟩⟩
def c8:PV->W (O PV)
 | .tup l=>.ret l
 | .cl l=>.ret l
 | _=>.fail
def iM(h:EF X K fs e w):IF X K fs e (.bind w c8):=⟨PE.imp h.p λσ H Q ⟨sr,q⟩=>⟨sr,w.mono (λx q1 u1 H1 g1 s1 v1=>by
 cases v1 with
 | tup e r=>exact q1 _ H1 g1 s1 ⟨_,_,rfl,.inr e,r⟩
 | cl e r=>exact q1 _ H1 g1 s1 ⟨_,_,rfl,.inl e,r⟩
 | _=>exact q1.elim) q⟩⟩
def Fl(h:LF X K fs e wl):IF X K fs e wl:=iM (w9 h)
theorem IF.q(h:IF X K fs e wl):QF X K fs e wl:=⟨PE.imp h.p λσ H Q ⟨sr,q⟩=>⟨sr,wl.mono (λl q1 u1 H1 g1 s1 v1=>q1 u1 H1 g1 s1 (.inl v1)) q⟩⟩
def fx(h:EF X K fs e w):QF X K fs e (.bind w c8):=(iM h).q
def gK(h:LF X K fs e wl):QF X K fs e wl:=⟨PE.imp h.p λσ H Q ⟨sr,q⟩=>⟨sr,wl.mono (λl q1 a vs H1 g1 s1 n e v=>q1 _ H1 g1 s1 (.inr ⟨a,rfl,.inl ⟨sr.noOwn n,vs,e,v⟩⟩)) q⟩⟩
def cx(i:Nat){x:Str}(hs:fs[i]?=al (al (.ol q0 l)):=by rfl)(hN:X.N[i]?=al x:=by rfl)(hv:o7 X.env.scope x:=by first | exact Bm rfl | exact BP (Bm rfl) | exact BP (BP rfl))(hd:dU x:=by decide)(ek:qq x:=by decide):QF X K fs (.Name x pos) (.ret l):=
 ⟨PE.imp (cy hN hv hd ek) λσ H Q ⟨sr,q⟩=>by
  obtain⟨u,e1,r⟩:=sr.at' i _ hs;rcases r with⟨w,e,r⟩ | ⟨a,e,r⟩
  ·cases e
  ·subst e;exact⟨_,e1,q _ H .refl sr (.inr ⟨a,rfl,.inr ⟨i,q0,hs,e1⟩⟩)⟩⟩
def Ji(l:O PV):PV->W PV
 | .int i=>.zk (cG l i)
 | _=>.fail
def bZ(hK:X.K=K)(ha:QF X K fs a wl)(hb:EF X K fs b wb)(hs:kO b:=by exact λ_ _=>rfl):EF X K fs (.Subscript a b pos) (.bind wl λl=>.bind wb λy=>Ji l y):=⟨PE.imp (dZ (bS K hK) ha.p hb.p hs) λσ H Q ⟨sr,q⟩=>⟨sr,wl.mono (λl q1 u1 H1 g1 s1 v1=>⟨s1,wb.mono (λy q2 u2 H2 g2 s2 v2=>by
 cases v2 with
 | int i=>
  have q2:(W.zk (cG l i)).run _:=q2;cases z:cG l i with
  | none=>rw[z]at q2;exact q2.elim
  | some x=>
   rw[z]at q2;obtain⟨ad,vs,rfl,h,rs⟩:=(v1.go s1 g2).sq s2;obtain⟨v,e1,e2⟩:=ay.cG rs z;have q3:=q2 v H2 (g1.trans g2) s2 e2;exact h.elim (λh=>.inl ⟨ad,vs,i,v,rfl,rfl,h,e1,q3⟩) λh=>.inr (.inl ⟨ad,vs,i,v,rfl,rfl,h,e1,q3⟩)
 | _=>exact q2.elim) q1⟩) q⟩⟩
def F6(ha:EF X K fs a wa)(hb:EF X K fs b wb)(hs:kO b):EF X K fs (.Subscript a b pos) (.bind wa λx=>.bind wb λy=>of2 rP x y):=⟨PE.imp (dZ sE ha.p hb.p hs) (oT uY)⟩
def m6(m:mF)(l:O PV):W PV:=⟨λQ=>m.f l [] λz h=>h=[]/\Q z,λf q=>m.mono (λ_ _ q=>⟨q.1,f _ q.2⟩) q⟩
section
variable{x:Str}{id:String}{r:O V->Hp->VK->Prop}
def rO{m:mF}(hm:mF.Ok K r m){Q:VK}{us:O V}(sr:aG K H σ fs)(hu:ay K [] H us l)(q:(m6 m l).run λz=>∀u H',bM σ fs H H'->aG K H' σ fs->VR K [] H' u z->Q u H'):r us H Q:=hm (K9 H) hu (m.mono (λz h q=>KY sr q) q)
def oY{m:mF}(hc:a8 X (.builtin id) r)(hB:mF.Ok K r m)(hg:Gl X x)(hm:X.mg x=be)(hv:jp x=al (.builtin id))(ha:AF X K fs (e::es) (AI n .v) B)(hn:x≠"__name__":=by decide)(ej:dU x:=by decide)
  (he:c6 X e es:=by rfl) (bH:eR X pos es:=by rfl):EF X K fs (.Call (.Name x p) (e::es) [] pos) (B (m6 m)):=by
 obtain⟨w,hp,JQ⟩:=ha.p;rw[JQ];exact⟨PE.imp (bE hc hg hm hv hp hn ej he bH) λσ H Q ⟨sr,q⟩=>⟨sr,w.mono (λl q1 vs H1 g1 s1 v1=>rO hB s1 v1.qu.1 ((m6 m l).mono (λz q u H' g s v=>q u H' (g1.trans g) s v) q1)) q⟩⟩
def tF{m:mF}(hc:a8 X (.type id) r)(hB:mF.Ok K r m)(hg:Gl X x)(hm:X.mg x=be)(hv:jp x=al (.type id))(ha:AF X K fs (e::es) (AI n .v) B)(hn:x≠"__name__":=by decide)(ej:dU x:=by decide)
  (he:c6 X e es:=by rfl) (bH:eR X pos es:=by rfl):EF X K fs (.Call (.Name x p) (e::es) [] pos) (B (m6 m)):=by
 obtain⟨w,hp,JQ⟩:=ha.p;rw[JQ];exact⟨PE.imp (gA hc hg hm hv hp hn ej he bH) λσ H Q ⟨sr,q⟩=>⟨sr,w.mono (λl q1 vs H1 g1 s1 v1=>rO hB s1 v1.qu.1 ((m6 m l).mono (λz q u H' g s v=>q u H' (g1.trans g) s v) q1)) q⟩⟩
def CQ(K:Aa)(r:O V->Hp->VK->Prop)(m:O PV->W PV):Prop:=∀{fs:aX}{σ:L2.St}{H:Hp}{Q:VK}{u:V}{l:O PV},aG K H σ fs->v9 K σ fs H u l->((m l).run λz=>∀u H',bM σ fs H H'->aG K H' σ fs->VR K [] H' u z->Q u H')->r [u] H Q
def CL(K:Aa)(r:O V->Hp->VK->Prop)(m:O PV->W (O PV)):Prop:=∀{fs:aX}{σ:L2.St}{H:Hp}{Q:VK}{u:V}{l:O PV},aG K H σ fs->v9 K σ fs H u l->((m l).run λz=>∀a vs H',bM σ fs H H'->aG K H' σ fs->H a=be->H' a=al (.lst vs)->ay K [] H' vs z->Q (.ref a) H')->r [u] H Q
def tG{m:O PV->W PV}(hc:a8 X (.builtin id) r)(hB:CQ K r m)(hg:Gl X x)(hm:X.mg x=be)(hv:jp x=al (.builtin id))(ha:QF X K fs e wl)(hn:x≠"__name__":=by decide)(ej:dU x:=by decide)
  (he:c6 X e []:=by rfl) (bH:eR X pos []:=by rfl):EF X K fs (.Call (.Name x p) [e] [] pos) (.bind wl m):=⟨PE.imp (bE hc hg hm hv (ae ha.p az he) hn ej he bH) λσ H Q ⟨sr,q⟩=>⟨sr,wl.mono (λl q1 u H1 g1 s1 v1=>hB s1 v1 ((m l).mono (λz q u H' g s v=>q u H' (g1.trans g) s v) q1)) q⟩⟩
def qd{m:O PV->W PV}(hc:a8 X (.type id) r)(hB:CQ K r m)(hg:Gl X x)(hm:X.mg x=be)(hv:jp x=al (.type id))(ha:QF X K fs e wl)(hn:x≠"__name__":=by decide)(ej:dU x:=by decide)
  (he:c6 X e []:=by rfl) (bH:eR X pos []:=by rfl):EF X K fs (.Call (.Name x p) [e] [] pos) (.bind wl m):=⟨PE.imp (gA hc hg hm hv (ae ha.p az he) hn ej he bH) λσ H Q ⟨sr,q⟩=>⟨sr,wl.mono (λl q1 u H1 g1 s1 v1=>hB s1 v1 ((m l).mono (λz q u H' g s v=>q u H' (g1.trans g) s v) q1)) q⟩⟩
def GQ{m:O PV->W (O PV)}(hc:a8 X (.builtin id) r)(hB:CL K r m)(hg:Gl X x)(hm:X.mg x=be)(hv:jp x=al (.builtin id))(ha:QF X K fs e wl)(hn:x≠"__name__":=by decide)(ej:dU x:=by decide)
  (he:c6 X e []:=by rfl) (bH:eR X pos []:=by rfl):LF X K fs (.Call (.Name x p) [e] [] pos) (.bind wl m):=⟨PE.imp (bE hc hg hm hv (ae ha.p az he) hn ej he bH) λσ H Q ⟨sr,q⟩=>⟨sr,wl.mono (λl q1 u H1 g1 s1 v1=>hB s1 v1 ((m l).mono (λz q a vs H' g s n e v=>q a vs H' (g1.trans g) s (g1.there a n) e v) q1)) q⟩⟩
def sy{m:O PV->W (O PV)}(hc:a8 X (.type id) r)(hB:CL K r m)(hg:Gl X x)(hm:X.mg x=be)(hv:jp x=al (.type id))(ha:QF X K fs e wl)(hn:x≠"__name__":=by decide)(ej:dU x:=by decide)
  (he:c6 X e []:=by rfl) (bH:eR X pos []:=by rfl):LF X K fs (.Call (.Name x p) [e] [] pos) (.bind wl m):=⟨PE.imp (gA hc hg hm hv (ae ha.p az he) hn ej he bH) λσ H Q ⟨sr,q⟩=>⟨sr,wl.mono (λl q1 u H1 g1 s1 v1=>hB s1 v1 ((m l).mono (λz q a vs H' g s n e v=>q a vs H' (g1.trans g) s (g1.there a n) e v) q1)) q⟩⟩
end
def nk(l:O PV):W PV:=.ret (.int l.length)
def vd(K:Aa):CQ K (xD K) nk:=λ{fs σ H Q u l} s v q=>by
 obtain⟨a,vs,rfl,h,rs⟩:=v.sq s;refine⟨_,vs.length,rfl,?_,?_⟩
 ·exact h.elim (λh=>.inl ⟨_,h,rfl⟩) λh=>.inr ⟨_,h,rfl⟩
 ·rw[rs.length];exact q _ H .refl s (.int _)
def uu(l:O PV):W PV:=.ret (.tup l)
def uv(K:Aa):CQ K (qT K) uu:=λ{fs σ H Q u l} s v q=>by
 have fresh:∀{a:ce}{vs:O V},bO K H a vs->ay K [] H vs l->qT K [.ref a] H Q:=λ{a vs} h rs=>⟨a,vs,rfl,.inl ⟨h,λp H2 s2 e2 n2=>q _ H2 (bM.same s2) (s.same s2) (.tup e2 (ay.tk s2.cb rs))⟩⟩;rcases v with⟨a,vs,rfl,h | h,rs⟩ | ⟨a,rfl,⟨n,vs,h,rs⟩ | ⟨i,_,q1,q2⟩⟩
 ·exact fresh h.sq rs
 ·exact⟨a,vs,rfl,.inr ⟨cf.of h,q _ H .refl s (.tup h rs)⟩⟩
 ·exact fresh (bO.of h) rs
 ·obtain⟨_,vs,h,rs⟩:=s.ownAt q1 rfl q2;exact fresh (bO.of h) rs
end
end
end FL
variable{R:Type}
namespace FL
section
variable[bj]
variable{K:Aa}
def kN(vs:O V)(ks:O AK)(φ:O V->Prop)(a:ce):Prop:=∃i:Nat,ks[i]?=al (.p φ)/\vs[i]?=al (.ref a)
structure zG(vs:List V)(ks:List AK)(H H':Hp):Prop where
 keep:∀a o,H a=al o->(∀φ,¬kN vs ks φ a)->(nt:o.nt=true:=by rfl)->H' a=al o
 tb:TB H'
 there:∀a,H' a=be->H a=be
 xK:∀a φ,kN vs ks φ a->∃ws,H' a=al (.lst ws)/\φ ws
inductive cZ(K:Aa)(H:Hp):List V->List AK->List PV->Prop
 | nil:cZ K H [] [] []
 | v {u:V}{x:PV}{vs:List V}{ks:List AK}{l:List PV} (r:VR K [] H u x) (t:cZ K H vs ks l):cZ K H (u::vs) (.v::ks) (x::l)
 | p {a:ce}{φ:List V->Prop}{ws vs:List V}{ks:List AK}{l:List PV} (e:H a=al (.lst ws)) (r:φ ws) (t:cZ K H vs ks l):cZ K H (.ref a::vs) (.p φ::ks) l
 | f {a:ce}{us vs:List V}{ps:List PV}{fz:List (ce×Obj)}{ks:List AK}{l:List PV} (r:ay K [] H us ps) (z:o8 H fz) (t:cZ K H vs ks l):cZ K H (.ref a::vs) (.f a us ps fz::ks) l
def kS(K:Aa)(ks:O AK)(m:O PV->W PV):Sp:=λvs H Q _=>TB H/\∃l,cZ K H vs ks l/\(m l).run λv=>∀u H',zG vs ks H H'->VR K [] H' u v->Q u H'
def pz(K:Aa)(ks:O AK)(m:O PV->W (O PV)):Sp:=λvs H Q _=>TB H/\∃l,cZ K H vs ks l/\(m l).run λz=>∀a ws H',zG vs ks H H'->H a=be->H' a=al (.lst ws)->ay K [] H' ws z->Q (.ref a) H'
def mG(R:Type):Nat->Type
 | 0=>W R
 | n+1=>PV->mG R n
def fh:(n:Nat)->mG R n->O PV->W R
 | 0,m,[]=>m
 | n+1,m,x::l=>fh n (m x) l
 | 0,_,_::_=>.fail
 | _+1,_,[]=>.fail
section
def bN.gk(h:bN K σ fs H vs ks l)(p:kN vs ks φ a):eH σ fs φ a:=by
 obtain⟨i,e1,e2⟩:=p
 induction h generalizing i with
 | nil=>simp at e1
 | v r t ih=>cases i with | zero=>simp at e1 | succ i=>exact ih i (by simpa using e1) (by simpa using e2)
 | p r t ih=>
  cases i with
  | zero=>simp at e1 e2;subst e1;subst e2;exact r
  | succ i=>exact ih i (by simpa using e1) (by simpa using e2)
 | f r z t ih=>cases i with | zero=>simp at e1 | succ i=>exact ih i (by simpa using e1) (by simpa using e2)
def bN.c(h:bN K σ fs H vs ks l)(s:aG K H σ fs):cZ K H vs ks l:=by
 induction h with
 | nil=>exact .nil
 | v r t ih=>exact .v r ih
 | p r t ih=>
  obtain⟨i,e1,e2⟩:=r;obtain⟨ws,q,x⟩:=s.ownAt e1 rfl e2;exact .p q x ih
 | f r z t ih=>exact .f r z ih
def zG.caller(g:zG vs ks H H')(h:bN K σ fs H vs ks l)(s:aG K H σ fs):aG K H' σ fs/\bM σ fs H H':=by
 have gf:bM σ fs H H':=⟨λa o e n t=>g.keep a o e (λφ p=>n φ (h.gk p)) t,g.there⟩;have tk:=gf.bI s;refine⟨⟨s.len,λi t e=>?_,s.nd,g.tb⟩,gf⟩;obtain⟨u,h1,h2⟩:=s.at' i t e;refine⟨u,h1,?_⟩;rcases h2 with⟨v,q,r⟩ | ⟨a,q,r⟩
 ·exact .inl ⟨v,q,VR.tk tk r⟩
 ·subst q;refine .inr ⟨a,rfl,?_⟩;by_cases c:(∃φ,kN vs ks φ a)/\t.own=true
  ·obtain⟨⟨φ,p⟩,ow⟩:=c;obtain⟨j,e1,e2⟩:=h.gk p;have ij:=s.nd i j t _ a a a e e1 ow rfl h1 e2 (.inl rfl) (.inl rfl);subst ij;rw[e]at e1;cases e1;exact g.xK a φ p
  ·refine r.mono tk (λb o ow hb z nt=>g.keep b o z (λφ p=>?_) nt);obtain⟨j,e1,e2⟩:=h.gk p;have ij:=s.nd i j t _ a b b e e1 ow rfl h1 e2 hb (.inl rfl);subst ij;rw[h1]at e2;cases e2;exact c ⟨⟨φ,p⟩,ow⟩
end
section
variable{p:Pos}{x:Str}
def yW{m:O PV->W PV}(G:mz X.prog X.w X.K X.mg X.base x k ps (kS K ks m))(hr:aZ k' X.A)(hk:k<=k')(hg:Gl X x)(ha:AF X K fs (e::es) ks B)(ej:dU x:=by decide)
  (he:c6 X e es:=by rfl) (bH:eR X pos es:=by rfl):EF X K fs (.Call (.Name x p) (e::es) [] pos) (B m):=by
 obtain⟨w,hp,hB⟩:=ha.p;rw[hB];exact⟨PE.imp (iw G hr hk hg hp ej he bH) λσ H Q ⟨sr,q⟩=>⟨sr,w.mono (λl q1 vs H1 g1 s1 v1=>⟨s1.tb,l,v1.c s1,(m l).mono (λz q2 u H2 g2 r2=>let ⟨s2,g3⟩:=g2.caller v1 s1;q2 u H2 (g1.trans g3) s2 r2) q1⟩) q⟩⟩
def yn{m:O PV->W (O PV)}{B:(O PV->W (O PV))->W (O PV)}(G:mz X.prog X.w X.K X.mg X.base x k ps (pz K ks m))(hr:aZ k' X.A)(hk:k<=k')(hg:Gl X x)(ha:AF X K fs (e::es) ks B)(ej:dU x:=by decide)
  (he:c6 X e es:=by rfl) (bH:eR X pos es:=by rfl):LF X K fs (.Call (.Name x p) (e::es) [] pos) (B m):=by
 obtain⟨w,hp,hB⟩:=ha.p;rw[hB];exact⟨PE.imp (iw G hr hk hg hp ej he bH) λσ H Q ⟨sr,q⟩=>⟨sr,w.mono (λl q1 vs H1 g1 s1 v1=>⟨s1.tb,l,v1.c s1,(m l).mono (λz q2 a ws H2 g2 n2 e2 r2=>let ⟨s2,g3⟩:=g2.caller v1 s1;q2 a ws H2 (g1.trans g3) s2 (g1.there a n2) e2 r2) q1⟩) q⟩⟩
end
end
end FL
variable{t:L2.TS}{T:Type}{p':B7}
namespace FL
section
variable[bj]
variable{K:Aa}
inductive End where
 | nx (fs:aX) | nc (fs:aX) | ct (fs:aX) | rt (v:PV) | rl (l:List PV) | bk (fs:aX) | ro (v:PV) (a:ce) (l:List PV)
def kQ(σ:L2.St)(fs:aX)(H:Hp)(a:ce):Prop:=H a=be\/∃(i:Nat) (s:SL) (x:ce),fs[i]?=al (al s)/\s.own=true/\(∀φ,s≠.gk φ)/\σ[i]?=al (al (.ref x))/\s.has x a
def aY(K:Aa)(x:Bool)(σ:L2.St)(fs:aX)(H:Hp)(D:Ends):End->Prop
 | .nx aK=>x=false->∀σ' H',bA σ fs H σ' aK H'->aG K H' σ' aK->D.nx σ' H'
 | .nc aK=>∀σ' H',bA σ fs H σ' aK H'->aG K H' σ' aK->(x=false->D.nx σ' H')/\D.ct σ' H'
 | .ct aK=>∀σ' H',bA σ fs H σ' aK H'->aG K H' σ' aK->D.ct σ' H'
 | .bk aK=>∀σ' H',bA σ fs H σ' aK H'->aG K H' σ' aK->D.bk σ' H'
 | .rt v=>∀u σ' aK H',bA σ fs H σ' aK H'->aG K H' σ' aK->VR K [] H' u v->D.rt u H'
 | .ro v a l=>∀u σ' aK H',bA σ fs H σ' aK H'->aG K H' σ' aK->(∃i:Nat,aK[i]?=al (al (.ol (al a) l)))->VR K [] H' u v->D.rt u H'
 | .rl l=>∀a ws σ' aK H',bA σ fs H σ' aK H'->aG K H' σ' aK->kQ σ fs H a->H' a=al (.lst ws)->ay K [] H' ws l->D.rt (.ref a) H'
def fS(K:Aa)(x:Bool)(fs:aX)(w:W T)(out:T->End):TS:=λD σ H=>aG K H σ fs/\w.run λt=>aY K x σ fs H D (out t)
structure SF(X:Cx)(K:Aa)(x:Bool)(fs:aX)(xu:List lm){T:Type}(w:W T)(out:T->End):Prop where p:PSs X xu (fS K x fs w out)
section
variable{σ1:L2.St}{sQ:aX}{x:Bool}
def kQ.go(g:bA σ fs H σ1 sQ H1)(s:aG K H σ fs)(s1:aG K H1 σ1 sQ)(h:kQ σ1 sQ H1 a):kQ σ fs H a:=by
 rcases h with h | ⟨i,t,x,e1,e2,np,e3,e4⟩
 ·exact .inl (g.there a h)
 ·cases z:H a with
  | none=>exact .inl z
  | some o=>
   by_cases c:bx σ fs a
   ·obtain⟨j,t',y,c1,c2,c3,c4⟩:=c;by_cases d:∃φ,t'=.gk φ
    ·obtain⟨φ,rfl⟩:=d;rcases c4 with rfl | c4
     ·rcases g.pk a φ ⟨j,c1,c3⟩ with⟨k,k1,k2⟩ | ⟨n,_⟩
      ·have:=s1.nd i k t _ x a a e1 k1 e2 rfl e3 k2 e4 (.inl rfl);subst this;rw[e1]at k1;cases k1;exact absurd rfl (np φ)
      ·exact absurd ⟨i,t,x,e1,e2,e3,e4⟩ n
     ·cases c4
    ·exact .inr ⟨j,t',y,c1,c2,λφ e=>d ⟨φ,e⟩,c3,c4⟩
   ·exact absurd ⟨i,t,x,e1,e2,e3,e4⟩ (g.keep a o z c).2
def aY.go(g:bA σ fs H σ1 sQ H1)(s:aG K H σ fs)(s1:aG K H1 σ1 sQ){E:End}(h:aY K x σ fs H D E):aY K x σ1 sQ H1 D E:=by
 cases E with
 | nx aK=>exact λhx σ' H' g' s'=>h hx σ' H' (g.trans g') s'
 | nc aK=>exact λσ' H' g' s'=>h σ' H' (g.trans g') s'
 | bk aK=>exact λσ' H' g' s'=>h σ' H' (g.trans g') s'
 | ct aK=>exact λσ' H' g' s'=>h σ' H' (g.trans g') s'
 | rt v=>exact λu σ' aK H' g' s' r=>h u σ' aK H' (g.trans g') s' r
 | ro v a l=>exact λu σ' aK H' g' s' o r=>h u σ' aK H' (g.trans g') s' o r
 | rl l=>exact λa ws σ' aK H' g' s' f e r=>h a ws σ' aK H' (g.trans g') s' (f.go g s s1) e r
def aY.exit{D':Ends}(h1:D'.rt=D.rt)(h2:D'.ct=D.ct)(h3:D'.bk=D.bk){E:End}(h:aY K x σ fs H D E):aY K true σ fs H D' E:=by
 cases E with
 | nx aK=>exact λhx=>nomatch hx
 | nc aK=>exact λσ' H' g' s'=>⟨λhx=>(nomatch hx),h2▸(h σ' H' g' s').2⟩
 | bk aK=>exact λσ' H' g' s'=>h3▸h σ' H' g' s'
 | ct aK=>exact λσ' H' g' s'=>h2▸h σ' H' g' s'
 | rt v=>exact λu σ' aK H' g' s' r=>h1▸h u σ' aK H' g' s' r
 | ro v a l=>exact λu σ' aK H' g' s' o r=>h1▸h u σ' aK H' g' s' o r
 | rl l=>exact λa ws σ' aK H' g' s' f e r=>h1▸h a ws σ' aK H' g' s' f e r
end
section
variable{X:Cx}{a b c e o:gl}{pos p:Pos}{fs aK:aX}{st:lm}{xu rest sa sb:O lm}{T T1:Type}{w wk:W T}{out:T->End}{we:W PV}{wl:W (O PV)}{x:Bool}
def End.sF:End->Prop
 | .rt _=>True
 | .rl _=>True
 | .ro _ _ _=>True
 | _=>False
def aY.IG{D':Ends}{y:Bool}{E:End}(ho:E.sF)(e:D'.rt=D.rt)(h:aY K x σ fs H D E):aY K y σ fs H D' E:=by
 cases E with
 | rt v=>exact λu σ' aK H' g s r=>e▸h u σ' aK H' g s r
 | rl v=>exact λa ws σ' aK H' g s f ea r=>e▸h a ws σ' aK H' g s f ea r
 | ro v a l=>exact λu σ' aK H' g s o r=>e▸h u σ' aK H' g s o r
 | _=>exact ho.elim
def kZ(X:Cx)(K:Aa)(x:Bool)(rest:O lm){T:Type}(out:T->End):TS:=λD σ H=>∃aK w',SF X K x aK rest w' out/\fS K x aK w' out D σ H
def uG:PSs X rest (kZ X K x rest out):=λU s σ H D I ⟨aK,w',h,q⟩=>h.p U s σ H D I q
def rY:PSs X rest qG:=λ_ _ _ _ _ _ h=>h.elim
def SF.step(h:PS X st t)(hq:∀D σ H,fS K x fs w out D σ H->t {D with nx:=kZ X K x rest out D} σ H):SF X K x fs (st::rest) w out:=⟨PSs.imp (aE h uG) λD σ H q=>hq D σ H q⟩
def SF.last(h:PS X st t)(hq:∀D σ H,fS K x fs w out D σ H->t {D with nx:=λ_ _=>False} σ H):SF X K x fs (st::rest) w out:=⟨PSs.imp (aE h rY) λD σ H q=>hq D σ H q⟩
def SF.nil{t:T}(h:out t=.nx aK)(hl:dI fs aK):SF X K false fs [] (.ret t) out:=⟨PSs.imp cM λD σ H ⟨sr,q⟩=>by
 have q:aY K false σ fs H D (out t):=q;rw[h]at q;exact q rfl σ H (bA.le sr hl) (sr.le hl)⟩
def SF.jh{t:T}(h:out t=.nc aK)(hl:dI fs aK):SF X K false fs [] (.ret t) out:=⟨PSs.imp cM λD σ H ⟨sr,q⟩=>by
 have q:aY K false σ fs H D (out t):=q;rw[h]at q;exact(q σ H (bA.le sr hl) (sr.le hl)).1 rfl⟩
def SF.cont{t:T}(h:out t=.nc aK\/out t=.ct aK)(hl:dI fs aK):SF X K x fs (.Continue pos::rest) (.ret t) out:=SF.last lq λD σ H ⟨sr,q⟩=>by
 have q:aY K x σ fs H D (out t):=q;rcases h with h | h
 ·rw[h]at q;exact(q σ H (bA.le sr hl) (sr.le hl)).2
 ·rw[h]at q;exact q σ H (bA.le sr hl) (sr.le hl)
def SF.ret{k:PV->T}(he:EF X K fs e we)(h:∀v,out (k v)=.rt v):SF X K x fs (.Return (al e) pos::rest) (.bind we λv=>.ret (k v)) out:=SF.last (bR he.p) λD σ H ⟨sr,q⟩=>⟨sr,we.mono (λv q1 u H1 g1 s1 v1=>by
 have q1:aY K x σ fs H D (out (k v)):=q1;rw[h]at q1;exact q1 u σ fs H1 g1.f s1 v1) q⟩
def SF.eY{out:PV->End}(he:EF X K fs e we)(h:∀v,out v=.rt v):SF X K x fs (.Return (al e) pos::rest) we out:=SF.ret (k:=λv=>v) he h
def SF.Iw{k:O PV->T}(he:LF X K fs e wl)(h:∀l,out (k l)=.rl l):SF X K x fs (.Return (al e) pos::rest) (.bind wl λl=>.ret (k l)) out:=SF.last (bR he.p) λD σ H ⟨sr,q⟩=>⟨sr,wl.mono (λl q1 a ws H1 g1 s1 n e v1=>by
 have q1:aY K x σ fs H D (out (k l)):=q1;rw[h]at q1;exact q1 a ws σ fs H1 g1.f s1 (.inl n) e v1) q⟩
def SF.wx{out:O PV->End}(he:LF X K fs e wl)(h:∀v,out v=.rl v):SF X K x fs (.Return (al e) pos::rest) wl out:=SF.Iw he h
def SF.Iv(i:Nat){t:T}(hs:fs[i]?=al (al (.ol q0 l)))(h:out t=.rl l)(hN:X.N[i]?=al y:=by rfl)(hv:o7 X.env.scope y:=by first | exact Bm rfl | exact BP (Bm rfl) | exact BP (BP rfl))(hd:dU y:=by decide)(ek:qq y:=by decide):SF X K x fs (.Return (al (.Name y p)) pos::rest) (.ret t) out:=SF.last (bR (cy hN hv hd ek)) λD σ H ⟨sr,q⟩=>by
 have q:aY K x σ fs H D (out t):=q;rw[h]at q;obtain⟨u,e1,r⟩:=sr.at' i _ hs;rcases r with⟨v,e,_⟩ | ⟨a,e,r⟩
 ·cases e
 ·subst e;obtain⟨_,ws,q1,q2⟩:=r;exact⟨_,e1,q a ws σ fs H .refl sr (.inr ⟨i,_,_,hs,rfl,by simp,e1,.inl rfl⟩) q1 q2⟩
def SF.EC(i:Nat){ad:ce}{k:PV->T}(hs:fs[i]?=al (al (.ol (al ad) l)))(he:EF X K fs e we)(h:∀v,out (k v)=.ro v ad l):SF X K x fs (.Return (al e) pos::rest) (.bind we λv=>.ret (k v)) out:=SF.last (bR he.p) λD σ H ⟨sr,q⟩=>⟨sr,we.mono (λv q1 u H1 g1 s1 v1=>by
 have q1:aY K x σ fs H D (out (k v)):=q1;rw[h]at q1;exact q1 u σ fs H1 g1.f s1 ⟨i,hs⟩ v1) q⟩
def SF.expr{k:PV->W T}(he:EF X K fs e we)(hr:∀v,SF X K x fs rest (k v) out)(hs:pr e be pos.line X.env=pure false:=by rfl):SF X K x fs (.Expr e pos::rest) (.bind we k) out:=SF.step (cO he.p hs) λD σ H ⟨sr,q⟩=>
 ⟨sr,we.mono (λv q1 u H1 g1 s1 v1=>⟨fs,k v,hr v,s1,(k v).mono (λt q2=>q2.go g1.f sr s1) q1⟩) q⟩
def SF.set{k:PV->W T}(hN:X.N.Nodup)(hi:X.N[i]?=al y)(hx:Loc X.env.scope y)(he:EF X K fs e we)(hr:∀v,SF X K x (fs.set i (al (.val v))) rest (k v) out)(hs:pr e (al (.Name y p')) pos.line X.env=pure false:=by rfl)
  (hf:ue X y:=by first | exact .inl rfl | exact .inr rfl | assumption):SF X K x fs (.Assign [.Name y p'] e pos::rest) (.bind we k) out:=SF.step (bQ hN hi hx he.p hs hf) λD σ H ⟨sr,q⟩=>
 ⟨sr,we.mono (λv q1 u H1 g1 s1 v1=>⟨_,k v,hr v,s1.dP v1 i,(k v).mono (λt q2=>q2.go (g1.f.trans (bA.dP s1 u v i)) sr (s1.dP v1 i)) q1⟩) q⟩
def SF.Im{k:O PV->W T}(hN:X.N.Nodup)(hi:X.N[i]?=al y)(hx:Loc X.env.scope y)(he:LF X K fs e wl)(hr:∀l,SF X K x (fs.set i (al (.ol be l))) rest (k l) out)(hs:pr e (al (.Name y p')) pos.line X.env=pure false:=by rfl)
  (hf:ue X y:=by first | exact .inl rfl | exact .inr rfl | assumption):SF X K x fs (.Assign [.Name y p'] e pos::rest) (.bind wl k) out:=SF.step (bQ hN hi hx he.p hs hf) λD σ H ⟨sr,q⟩=>by
 refine⟨sr,wl.mono (λl q1 a ws H1 g1 s1 n e v1=>?_) q⟩;have no:=sr.noOwn n;have s2:=s1.q8 (t:=.ol be l) ⟨by simp,ws,e,v1⟩ no i;exact⟨_,k l,hr l,s2,(k l).mono (λt q2=>q2.go (bA.q8 s1 g1.f no n i) sr s2) q1⟩
def SF.bX(i:Nat){t:SL}(hs:fs[i]?=al (al t))(hr:SF X K x (fs.set i (al (.val t.bv))) xu w out)(hb:t.bw=true:=by rfl):SF X K x fs xu w out:=⟨λU s σ H D I ⟨sr,q⟩=>by
 obtain⟨u,e1,r⟩:=sr.at' i _ hs;have ho:=SL.yY hb;rcases r with⟨v,e,_⟩ | ⟨a,e,oa⟩
 ·subst e;cases hb
 ·subst e;obtain⟨ob,o,h1,n1,n2,I2,vr⟩:=JW I oa hb;have ow:∀b,bx σ (fs.set i (al (.val t.bv))) b->bx σ fs b:=λb z=>by
   obtain⟨j,t,x,z1,z2,z3,z4⟩:=z;rcases bB z1 with⟨rfl,rfl⟩ | ⟨n,z1⟩
   ·cases z2
   ·exact⟨j,t,x,z1,z2,z3,z4⟩
  have s2:=sr.JV hs ho e1 h1 n1 n2 vr;have g2:bA σ fs H σ (fs.set i (al (.val t.bv))) (upd H a (.bX ob o)):=by
   refine⟨λb o z n=>⟨?_,λy=>n (ow b y)⟩,λb z=>?_,λb φ z=>?_⟩
   ·intro _;rw[ah (λy=>by subst y;exact n ⟨i,_,_,hs,ho,e1,.inl rfl⟩)];exact z
   ·by_cases c:b=a
    ·subst c;rw[aB]at z;cases z
    ·rw[ah c]at z;exact z
   ·obtain⟨j,z1,z2⟩:=z;have:j≠i:=λy=>by subst y;rw[hs]at z1;cases z1;cases hb
    exact .inl ⟨j,by rw[aA this];exact z1,z2⟩
  exact hr.p U s σ _ D I2 ⟨s2,w.mono (λt q3=>q3.go g2 sr s2) q⟩⟩
variable{tc:W Bool}
def SF.Jm(hc:TF X K fs c tc)(ha:SF X K x fs sa w out)(hb:SF X K x fs sb wk out):SF X K x fs [.If c sa sb pos] (.bind tc λb=>if b=true then w else wk) out:=⟨PSs.imp (aN (fB hc.p ha.p hb.p)) λD σ H ⟨sr,q⟩=>⟨sr,tc.mono (λk q1 H1 g1 s1=>by
 cases k with
 | true=>exact fN ⟨s1,w.mono (λt q2=>q2.go g1.f sr s1) q1⟩
 | false=>exact dR ⟨s1,wk.mono (λt q2=>q2.go g1.f sr s1) q1⟩) q⟩⟩
def SF.wO(hc:TF X K fs c tc)(ha:SF X K true fs sa w out)(hb:SF X K x fs rest wk out):SF X K x fs (.If c sa [] pos::rest) (.bind tc λb=>if b=true then w else wk) out:=SF.step (fB hc.p ha.p cM) λD σ H ⟨sr,q⟩=>⟨sr,tc.mono (λk q1 H1 g1 s1=>by
 cases k with
 | true=>exact fN ⟨s1,w.mono (λt q2=>aY.exit (D:=D) (D':={D with nx:=kZ X K x rest out D}) rfl rfl rfl (q2.go g1.f sr s1)) q1⟩
 | false=>exact dR ⟨fs,wk,hb,s1,wk.mono (λt q2=>q2.go g1.f sr s1) q1⟩) q⟩
def zd(X:Cx)(K:Aa)(x:Bool)(rest:O lm){T:Type}(w:W T)(out:T->End):End->Prop
 | .nx aK=>SF X K x aK rest w out
 | .nc aK=>False
 | .bk aK=>∃t,w=.ret t/\out t=.bk aK
 | .ct aK=>∃t,w=.ret t/\(out t=.ct aK\/out t=.nc aK)
 | .rt v=>∃t,w=.ret t/\out t=.rt v
 | .rl l=>∃t,w=.ret t/\out t=.rl l
 | .ro v a l=>∃t,w=.ret t/\out t=.ro v a l
def zd.r{E:End}(sr:aG K H σ fs)(h:zd X K x rest w out E)(q:w.run λt=>aY K x σ fs H D (out t)):aY K false σ fs H {D with nx:=kZ X K x rest out D} E:=by
 cases E with
 | nx aK=>exact λ_ σ' H' g' s'=>⟨aK,w,h,s',w.mono (λt q2=>q2.go g' sr s') q⟩
 | nc aK=>exact h.elim
 | bk aK=>
  obtain⟨t,rfl,h⟩:=h;have q:aY K x σ fs H D (out t):=q;rw[h]at q;exact q
 | ct aK=>
  obtain⟨t,rfl,h⟩:=h;have q:aY K x σ fs H D (out t):=q;rcases h with h | h
  ·rw[h]at q;exact q
  ·rw[h]at q;exact λσ' H' g s=>(q σ' H' g s).2
 | rt v=>
  obtain⟨t,rfl,h⟩:=h;have q:aY K x σ fs H D (out t):=q;rw[h]at q;exact q
 | rl v=>
  obtain⟨t,rfl,h⟩:=h;have q:aY K x σ fs H D (out t):=q;rw[h]at q;exact q
 | ro v a l=>
  obtain⟨t,rfl,h⟩:=h;have q:aY K x σ fs H D (out t):=q;rw[h]at q;exact q
variable{w1 w2:W T1}{out1:T1->End}{k:T1->W T}
def SF.M7(hc:TF X K fs c tc)(ha:SF X K false fs sa w1 out1)(hb:SF X K false fs sb w2 out1)(hr:∀t,zd X K x rest (k t) out (out1 t)):SF X K x fs (.If c sa sb pos::rest) (.bind tc λb=>.bind (if b=true then w1 else w2) k) out:=SF.step (fB hc.p ha.p hb.p) λD σ H ⟨sr,q⟩=>⟨sr,tc.mono (λb q1 H1 g1 s1=>by
 have fin:∀t,(k t).run (λt=>aY K x σ fs H D (out t))->aY K false σ fs H {D with nx:=kZ X K x rest out D} (out1 t):=λt q=>(hr t).r sr q;cases b with
 | true=>exact fN ⟨s1,w1.mono (λt q2=>(fin t q2).go g1.f sr s1) q1⟩
 | false=>exact dR ⟨s1,w2.mono (λt q2=>(fin t q2).go g1.f sr s1) q1⟩) q⟩
end
end
end FL
variable{is:O Nat}
namespace FL
section
variable[bj]
variable{K:Aa}
def JF(K:Aa)(H:Hp)(J:It)(l:O PV):Prop:=l.length<=sizeLine/\∀H',aD K H H'->(∀(i:Nat) (p:PV),l[i]?=al p->J.go i H'/\∀x H2,J.ze i H' x H2->cI H' H2/\VR K [] H2 x p)/\J.stop l.length H'
def JF.tk{J:It}(t:aD K H H')(h:JF K H J l):JF K H' J l:=⟨h.1,λH2 t2=>h.2 H2 (aD.trans t t2)⟩
def Lw(K:Aa)(fs:aX)(w:W (O PV)):TI:=λσ H R=>aG K H σ fs/\w.run λl=>∀J H',bM σ fs H H'->aG K H' σ fs->JF K H' J l->R J H'
structure tT(X:Cx)(K:Aa)(fs:aX)(tg e:gl)(w:W (List PV)):Prop where p:PI X tg e (Lw K fs w)
section
variable{a:gl}{p:Pos}
def wd{ad:ce}(h:tU K H ad vs)(r:ay K [] H vs l)(hz:l.length<=sizeLine):JF K H (LJ K ad) l:=⟨hz,λH' t=>by
 have e1:=(t.f _ _ h).sq;have e2:=ay.tk t r;refine⟨λi p hp=>?_,vs,e1,by rw[e2.length];exact Aj _⟩;obtain⟨v,h3,h4⟩:=e2.get hp;refine⟨⟨vs,v,e1,h3⟩,λx H3 y=>?_⟩;obtain⟨rfl,y⟩:=y;have:=y vs e1;rw[h3]at this;cases this;exact⟨cI.refl _,h4⟩⟩
def zb{ad:ce}(h:H ad=al (.tup vs))(r:ay K [] H vs l)(hz:l.length<=sizeLine):JF K H (LI K ad) l:=⟨hz,λH' t=>by
 have e1:=cf.of (K:=K) (t.t _ _ h);have e2:=ay.tk t r;refine⟨λi p hp=>?_,vs,e1,by rw[e2.length];exact Aj _⟩;obtain⟨v,h3,h4⟩:=e2.get hp;refine⟨⟨vs,v,e1,h3⟩,λx H3 y=>?_⟩;obtain⟨rfl,y⟩:=y;have:=y vs e1;rw[h3]at this;cases this;exact⟨cI.refl _,h4⟩⟩
def kh(hK:X.K=K)(h:IF X K fs e wl):tT X K fs tg e wl:=⟨by
 subst hK;intro U s σ H R I ⟨sr,q⟩;refine aR (h.p U s σ H (λu H1=>∃l,y9 X.K H1 u l/\∀J,JF X.K H1 J l->R J H1) I ⟨sr,wl.mono (λl q1 u H1 g1 s1 v1=>⟨l,v1,λJ j=>q1 J H1 g1 s1 j⟩) q⟩) λv s1 ⟨x,H1,I1,r1,l,⟨ad,vs,e,hh,rs⟩,q1⟩=>?_;subst e;cases r1;rcases hh with hh | hh
 ·obtain⟨ak,rv,pl,hz⟩:=I1.list hh.sq;refine Dg pl.isList ?_;refine⟨s1.heap.objs.size,[s1.heap.objs.size],_,_,H1,rfl,I1.kept λb o e=>Ae _ e,pf ad _,⟨_,An _ rfl,rfl,rfl⟩,λb hb=>?_,q1 _ (wd hh rs (by rw[<- rs.length];exact hz))⟩;have e:b=s1.heap.objs.size:=by simpa using hb
  subst e;exact I1.vG (Aj _) (I1.aP.fresh (Aj _))
 ·obtain⟨ak,rv,pl,hz⟩:=I1.tuple (cf.of hh);refine wpAny_pyIter_tuple (pl) ?_;refine⟨s1.heap.objs.size,[s1.heap.objs.size],_,_,H1,rfl,I1.kept (t':=s1.toks) λb o e=>Ae _ e,mN ad _,⟨_,An _ rfl,rfl,rfl⟩,λb hb=>?_,q1 _ (zb hh rs (by rw[<- rs.length];exact hz))⟩;have e:b=s1.heap.objs.size:=by simpa using hb
  subst e;exact I1.vG (Aj _) (I1.aP.fresh (Aj _))⟩
def okN(i j:Int):Prop:=-(2 ^ 62)<=i/\i < 2 ^ 62/\-(2 ^ 62)<=j/\j < 2 ^ 62/\(j-i).toNat<=sizeLine
def gJ:PV->W (O PV)
 | .int j=>.eW (okN 0 j) (.ret (eU 0 j.toNat))
 | _=>.fail
def zc(lo:Int)(n:Nat)(hz:n<=sizeLine):JF K H (HJ lo n) (eU lo n):=⟨by rw[df];exact hz,λH' t=>⟨λi p hp=>by
  obtain⟨h1,rfl⟩:=gG hp;refine⟨h1,λx H2 y=>?_⟩;obtain⟨rfl,rfl⟩:=y;exact⟨cI.refl _,.int _⟩,by rw[df];exact Aj _⟩⟩
theorem fP(hg:Gl X "range")(hm:X.mg "range"=be)(ha:EF X K fs a wa)(hs:f8 [a] X.env=[(false,ii a X.env)]:=by rfl):tT X K fs tg (.Call (.Name "range" p) [a] [] pos) (.bind wa gJ):=
 ⟨PI.imp (pK hg hm (ae ha.p az hs) hs) λσ H R ⟨sr,q⟩=>⟨sr,wa.mono (λx q1 u1 H1 g1 s1 v1=>by
  cases v1 with
  | int j=>exact⟨_,rfl,q1.1.2.2.1,q1.1.2.2.2.1,q1.2 _ H1 g1 s1 (zc _ _ (by have:=q1.1.2.2.2.2;omega))⟩
  | _=>exact q1.elim) q⟩⟩
end
def ip:O Nat->O V->L2.St->L2.St
 | i::is,u::us,σ=>ip is us (σ.set i (al u))
 | _,_,σ=>σ
def fG(K:Aa)(fs:aX)(is:O Nat)(wt:PV->W T)(cK:T->aX):TG:=λv σ H Q=>∃p,aG K H σ fs/\VR K [] H v p/\(wt p).run λt=>∀us,bA σ fs H (ip is us σ) (cK t) H->aG K H (ip is us σ) (cK t)->Q (ip is us σ) H
structure GF(X:Cx)(K:Aa)(fs:aX)(tg:gl)(is:List Nat){T:Type}(wt:PV->W T)(cK:T->aX):Prop where p:PG X tg (fG K fs is wt cK)
def Gy:PV->W (PV×PV)
 | .tup [a,b]=>.ret (a,b)
 | _=>.fail
section
def JR(h:PG X tg (fR i)):GF X K fs tg [i] .ret (λp=>fs.set i (al (.val p))):=⟨PG.imp h λv σ H Q ⟨p,sr,r,q⟩=>q [v] (bA.dP sr v p i) (sr.dP r i)⟩
def NV(hK:X.K=K)(h:PG X tg (FP X.K 2 (sP (fR i) (sP (fR j) FQ)))):GF X K fs tg [i,j] Gy (λt=>(fs.set i (al (.val t.1))).set j (al (.val t.2))):=⟨PG.imp h λv σ H Q ⟨p,sr,r,q⟩=>by
 unfold Gy at q
 split at q
 ·cases r with
  | tup e rs=>
   cases rs with
   | cons ra t=>
   cases t with
   | cons rb t=>
   cases t;have s1:=sr.dP ra i;exact⟨_,_,rfl,cf.of e,rfl,_,_,rfl,_,_,rfl,rfl,q [_,_] ((bA.dP sr _ _ i).trans (bA.dP s1 _ _ j)) (s1.dP rb j)⟩
 ·exact q.elim⟩
end
section
variable{S T:Type}
def dD:O PV->S->(PV->S->W S)->W S
 | [],s,_=>.ret s
 | x::r,s,f=>.bind (f x s) λs'=>dD r s' f
inductive Lp(S T:Type) where
 | go (s:S) | out (t:T)
def fU:O PV->S->(PV->S->W (Lp S T))->W (Lp S T)
 | [],s,_=>.ret (.go s)
 | x::r,s,f=>.bind (f x s) λo=>match o with
  | .go s'=>fU r s' f
  | .out t=>.ret (.out t)
def ub(k:S->W T)(inj:R->T):Lp S R->W T
 | .go s=>k s
 | .out r=>.ret (inj r)
@[simp] theorem sL(k:S->W T)(inj:R->T)(s:S):ub k inj (.go s)=k s:=(rfl)
@[simp] theorem G6(k:S->W T)(inj:R->T)(r:R):ub k inj (.out r)=.ret (inj r):=(rfl)
def IV(hd:S->aX)(out:R->End):Lp S R->End
 | .go s=>.nc (hd s)
 | .out r=>out r
def eX(c:S->W Bool)(b:S->W S):Nat->S->W S
 | 0,_=>.fail
 | n+1,s=>.bind (c s) λk=>if k=true then .bind (b s) (eX c b n) else .ret s
def mJ(c:S->W Bool)(b:S->W S)(s:S):W S:=⟨λQ=>∃n,(eX c b n s).run Q,λh ⟨n,q⟩=>⟨n,(eX c b n s).mono h q⟩⟩
end
section
variable{c:gl}{rest:O lm}{S T T2:Type}{hd:S->aX}{s0:S}{wt:PV->W T2}{cK:S->T2->aX}{k:S->W T}{out:T->End}{x:Bool}{R:Type}{inj:R->T}
theorem SF.for{f:PV->S->W S}{wb:T2->S->W S}(hp:wS (em X.prog X.w) X.A X.env X.xe)(hc:X.calm=true)(hi:tT X K fs tg iter wl)(hl:dI fs (hd s0))(hg:∀s,GF X K (hd s) tg is wt (cK s))(hf:∀p s,f p s=.bind (wt p) λt=>wb t s)
  (hb:∀s t,SF X K false (cK s t) body (wb t s) λs'=>.nc (hd s')) (hr:∀s,SF X K x (hd s) rest (k s) out) (hs:uf X iter:=by intro _;rfl) :
  SF X K x fs (.For tg iter body [] pos::rest) (.bind wl λl=>.bind (dD l s0 f) k) out:=by
 refine SF.step (rg (g:=λv σ H Q=>∃s,fG K (hd s) is wt (cK s) v σ H Q) (tb:=λD σ H=>∃s t,fS K false (cK s t) (wb t s) (λs'=>.nc (hd s')) D σ H) hp hc hi.p (λU s σ H v u Q I r ⟨s1,q⟩=>(hg s1).p U s σ H v u Q I r q) (λU s σ H D I ⟨s1,t1,q⟩=>(hb s1 t1).p U s σ H D I q) hs) λD σ H ⟨sr,q⟩=>?_;refine⟨sr,wl.mono (λl q1 J H1 g1 s1 jf=>?_) q⟩;refine⟨λi m σ' H'=>∃s,aG K H' σ' (hd s)/\bA σ fs H σ' (hd s) H'/\JF K H' J l/\m=l.length-i/\i<=l.length/\(dD (l.drop i) s f).run λs'=>(k s').run λt=>aY K x σ fs H D (out t),⟨l.length,s0,s1.le hl,g1.f.trans (bA.le s1 hl),jf,by simp,Bw _,by simpa using q1⟩,?_⟩;rintro i m σ2 H2 ⟨s,s2,g2,vn,rfl,hi,q2⟩;obtain⟨j1,j2⟩:=vn.2 H2 (aD.refl H2);by_cases iO:i < l.length
 ·obtain⟨go,yl⟩:=j1 i _ (Ai iO);rw[(AU iO)]at q2;refine .inr ⟨go,λσ3 H3=>∃s',aG K H3 σ3 (hd s')/\bA σ fs H σ3 (hd s') H3/\JF K H3 J l/\(dD (l.drop (i+1)) s' f).run λs'=>(k s').run λt=>aY K x σ fs H D (out t),λσ3 H3 ⟨s',a1,a2,a3,a4⟩=>⟨l.length-(i+1),by omega,s',a1,a2,a3,rfl,iO,a4⟩,λv H3 y=>?_⟩;obtain⟨sm,vx⟩:=yl v H3 y;have q2:(f l[i] s).run λs'=>(dD (l.drop (i+1)) s' f).run λs'=>(k s').run λt=>aY K x σ fs H D (out t):=q2;rw[hf]at q2;have s3:=s2.same sm;refine⟨s,_,s3,vx,(wt l[i]).mono (λt q4 us g4 s4=>?_) q2⟩;refine⟨s,t,s4,(wb t s).mono (λs' q5 σ5 H5 g5 s5=>?_) q4⟩;have fin:∃s',aG K H5 σ5 (hd s')/\bA σ fs H σ5 (hd s') H5/\JF K H5 J l/\(dD (l.drop (i+1)) s' f).run λs'=>(k s').run λt=>aY K x σ fs H D (out t):=⟨s',s5,((g2.trans (bA.same sm s2)).trans g4).trans g5,vn.tk (aD.trans sm.cb (aD.trans (g4.bI s3) (g5.bI s4))),q5⟩;exact⟨λ_=>fin,fin⟩
 ·have e:i=l.length:=by omega
  subst e;rw[Dq]at q2;exact .inl ⟨j2,hd s,k s,hr s,s2,(k s).mono (λt q3=>q3.go g2 sr s2) q2⟩
theorem SF.fU{f:PV->S->W (Lp S R)}{wb:T2->S->W (Lp S R)}(hp:wS (em X.prog X.w) X.A X.env X.xe)(hc:X.calm=true)(hi:tT X K fs tg iter wl)(hl:dI fs (hd s0))(hg:∀s,GF X K (hd s) tg is wt (cK s))(hf:∀p s,f p s=.bind (wt p) λt=>wb t s)
  (ho:∀t,(out (inj t)).sF)
  (hb:∀s t,SF X K false (cK s t) body (wb t s) (IV hd λr=>out (inj r))) (hr:∀s,SF X K x (hd s) rest (k s) out) (hs:uf X iter:=by intro _;rfl) :
  SF X K x fs (.For tg iter body [] pos::rest) (.bind wl λl=>.bind (FL.fU l s0 f) (ub k inj)) out:=by
 refine SF.step (rg (g:=λv σ H Q=>∃s,fG K (hd s) is wt (cK s) v σ H Q) (tb:=λD σ H=>∃s t,fS K false (cK s t) (wb t s) (IV hd λr=>out (inj r)) D σ H) hp hc hi.p (λU s σ H v u Q I r ⟨s1,q⟩=>(hg s1).p U s σ H v u Q I r q) (λU s σ H D I ⟨s1,t1,q⟩=>(hb s1 t1).p U s σ H D I q) hs) λD σ H ⟨sr,q⟩=>?_;refine⟨sr,wl.mono (λl q1 J H1 g1 s1 jf=>?_) q⟩;have lo:∀D' y t,D'.rt=D.rt->aY K x σ fs H D (out (inj t))->aY K y σ fs H D' (out (inj t)):=λD' y t e h=>aY.IG (ho t) e h;refine⟨λi m σ' H'=>∃s,aG K H' σ' (hd s)/\bA σ fs H σ' (hd s) H'/\JF K H' J l/\m=l.length-i/\i<=l.length/\(FL.fU (l.drop i) s f).run λo=>(ub k inj o).run λt=>aY K x σ fs H D (out t),⟨l.length,s0,s1.le hl,g1.f.trans (bA.le s1 hl),jf,by simp,Bw _,by simpa using q1⟩,?_⟩;rintro i m σ2 H2 ⟨s,s2,g2,vn,rfl,hi,q2⟩;obtain⟨j1,j2⟩:=vn.2 H2 (aD.refl H2);by_cases iO:i < l.length
 ·obtain⟨go,yl⟩:=j1 i _ (Ai iO);rw[(AU iO)]at q2;refine .inr ⟨go,λσ3 H3=>∃s',aG K H3 σ3 (hd s')/\bA σ fs H σ3 (hd s') H3/\JF K H3 J l/\(FL.fU (l.drop (i+1)) s' f).run λo=>(ub k inj o).run λt=>aY K x σ fs H D (out t),λσ3 H3 ⟨s',a1,a2,a3,a4⟩=>⟨l.length-(i+1),by omega,s',a1,a2,a3,rfl,iO,a4⟩,λv H3 y=>?_⟩;obtain⟨sm,vx⟩:=yl v H3 y;have q2:(f l[i] s).run λo=>(match o with | .go s'=>FL.fU (l.drop (i+1)) s' f | .out t=>ap (.out t)).run λo=>(ub k inj o).run λt=>aY K x σ fs H D (out t):=q2;rw[hf]at q2;have s3:=s2.same sm;have g3:=g2.trans (bA.same sm s2);refine⟨s,_,s3,vx,(wt l[i]).mono (λt q4 us g4 s4=>?_) q2⟩;refine⟨s,t,s4,(wb t s).mono (λo q5=>?_) q4⟩;cases o with
  | out t5=>
   refine aY.go (g3.trans g4) sr s4 (lo _ false t5 ?_ q5);rfl
  | go s'=>
   intro σ5 H5 g5 s5;have fin:∃s',aG K H5 σ5 (hd s')/\bA σ fs H σ5 (hd s') H5/\JF K H5 J l/\(FL.fU (l.drop (i+1)) s' f).run λo=>(ub k inj o).run λt=>aY K x σ fs H D (out t):=⟨s',s5,(g3.trans g4).trans g5,vn.tk (aD.trans sm.cb (aD.trans (g4.bI s3) (g5.bI s4))),q5⟩;exact⟨λ_=>fin,fin⟩
 ·have e:i=l.length:=by omega
  subst e;rw[Dq]at q2;exact .inl ⟨j2,hd s,k s,hr s,s2,(k s).mono (λt q3=>q3.go g2 sr s2) q2⟩
def SF.zX{cw:S->W Bool}{b:S->W S}(hp:wS (em X.prog X.w) X.A X.env X.xe)(hl:dI fs (hd s0))(hc:∀s,TF X K (hd s) c (cw s))(hb:∀s,SF X K false (hd s) body (b s) λs'=>.nc (hd s'))(hr:∀s,SF X K x (hd s) rest (k s) out) :
  SF X K x fs (.While c body [] pos::rest) (.bind (mJ cw b s0) k) out:=by
 refine SF.step (fy (tc:=λσ H Q=>∃s,fT K (hd s) (cw s) σ H Q) (tb:=λD σ H=>∃s,fS K false (hd s) (b s) (λs'=>.nc (hd s')) D σ H) hp (λU s σ H Q I ⟨s1,q⟩=>(hc s1).p U s σ H Q I q) (λU s σ H D I ⟨s1,q⟩=>(hb s1).p U s σ H D I q)) λD σ H ⟨sr,n,q⟩=>?_;refine⟨λm σ' H'=>∃s,aG K H' σ' (hd s)/\bA σ fs H σ' (hd s) H'/\(eX cw b m s).run λs'=>(k s').run λt=>aY K x σ fs H D (out t),⟨n,s0,sr.le hl,bA.le sr hl,q⟩,?_⟩;rintro m σ1 H1 ⟨s,s1,g1,q1⟩;cases m with
 | zero=>exact q1.elim
 | succ m=>
  refine⟨s,s1,(cw s).mono (λkk q2 H2 g2 s2=>?_) q1⟩;cases kk with
  | false=>
   exact dR ⟨hd s,k s,hr s,s2,(k s).mono (λt q3=>q3.go (g1.trans g2.f) sr s2) q2⟩
  | true=>
   refine fN ?_;refine⟨λσ3 H3=>∃s,aG K H3 σ3 (hd s)/\bA σ fs H σ3 (hd s) H3/\(eX cw b m s).run λs'=>(k s').run λt=>aY K x σ fs H D (out t),λσ3 H3 a=>⟨m,Bz m,a⟩,s,s2,(b s).mono (λs' q5 σ5 H5 g5 s5=>?_) q2⟩;have fin:∃s,aG K H5 σ5 (hd s)/\bA σ fs H σ5 (hd s) H5/\(eX cw b m s).run λs'=>(k s').run λt=>aY K x σ fs H D (out t):=⟨s',s5,(g1.trans g2.f).trans g5,q5⟩;exact⟨λ_=>fin,fin⟩
end
end
end FL
variable{f:PL.PV->FL.W (Option PL.PV)}{fk:FL.aX}
namespace FL
section
variable[bj]
variable{K:Aa}
def vf:O PV->(PV->W (Option PV))->W (O PV)
 | [],_=>.ret []
 | x::r,f=>.bind (f x) λo=>.bind (vf r f) λl=>.ret (o.toList++l)
def gD:O PV->(PV->W PV)->W (O PV)
 | [],_=>.ret []
 | x::r,f=>.bind (f x) λy=>.bind (gD r f) λl=>.ret (y::l)
theorem oE(f:PV->W PV):∀l,gD l f=vf l λp=>.bind (f p) λv=>.ret (al v)
 | []=>rfl
 | x::r=>by
  show am (f x) (λy=>am (gD r f) λl=>ap (y::l))=am (f x) λy=>am (vf r _) λl=>ap (y::l);rw[oE f r]
def cX(ix:O (Option Nat))(fs:aX):aX:=ix.map λo=>match o with | some j=>(fs[j]?).getD be | none=>be
section
def gc{s:SL}(h:(cX ix fs)[i]?=al (al s)):∃j,ix[i]?=al (al j)/\fs[j]?=al (al s):=by
 unfold cX at h;rw[Ao]at h;cases q:ix[i]? with
 | none=>rw[q]at h;cases h
 | some o=>
  rw[q]at h;cases o with
  | none=>cases h
  | some j=>
   refine⟨j,rfl,?_⟩;have h:(fs[j]?).getD be=al s:=Option.some.inj h;cases z:fs[j]? with
   | none=>rw[z]at h;cases h
   | some y=>rw[z]at h;exact congrArg al h
def eL(h:ix[i]?=al (al j))(e:σ[j]?=al (al u)):(f9 ix σ)[i]?=al (al u):=by
 unfold f9;rw[Ao,h];show al ((σ[j]?).getD be)=_;rw[e];rfl
def aG.g8(s:aG K H σ fs)(inj:∀i i' j:Nat,ix[i]?=al (al j)->ix[i']?=al (al j)->i=i'):aG K H (f9 ix σ) (cX ix fs):=by
 refine⟨by unfold f9 cX;simp,λi t e=>?_,λi i' t u x y a e1 e2 o1 o2 q1 q2 z1 z2=>?_,s.tb⟩
 ·obtain⟨j,h1,h2⟩:=gc e;obtain⟨u,h3,h4⟩:=s.at' j t h2;exact⟨u,eL h1 h3,h4⟩
 ·obtain⟨j,h1,h2⟩:=gc e1;obtain⟨j',dj,kT⟩:=gc e2;obtain⟨u1,h3,_⟩:=s.at' j t h2;obtain⟨u2,vB,_⟩:=s.at' j' u kT;rw[eL h1 h3]at q1;rw[eL dj vB]at q2;cases q1;cases q2;have:=s.nd j j' t u x y a h2 kT o1 o2 h3 vB z1 z2;subst this;exact inj i i' j h1 dj
structure wg(ix:List (Option Nat))(σ:L2.St)(fs:aX)(σ':L2.St)(aK:aX):Prop where
 own:∀(i:Nat) (t:SL),aK[i]?=al (al t)->t.own=true->∃j,ix[i]?=al (al j)/\fs[j]?=al (al t)/\σ'[i]?=σ[j]?
def wg.jg(h:wg ix σ fs σ' aK)(o:bx σ' aK a):bx σ fs a:=by
 obtain⟨i,t,x,e1,e2,e3,e4⟩:=o;obtain⟨j,h1,h2,h3⟩:=h.own i t e1 e2;exact⟨j,t,x,h2,e2,h3▸e3,e4⟩
def wg.gk(h:wg ix σ fs σ' aK)(o:eH σ' aK φ a):eH σ fs φ a:=by
 obtain⟨i,e1,e3⟩:=o;obtain⟨j,h1,h2,h3⟩:=h.own i _ e1 rfl;exact⟨j,h2,h3▸e3⟩
def wg.out(h:wg ix σ fs σ' aK)(s:aG K H1 σ fs)(g:bM σ' aK H1 H2)(s2:aG K H2 σ' aK):aG K H2 σ fs/\bM σ fs H1 H2:=by
 have gf:bM σ fs H1 H2:=⟨λa o e n t=>g.keep a o e (λφ z=>n φ (h.gk z)) t,g.there⟩;refine⟨⟨s.len,λj t e=>?_,s.nd,s2.tb⟩,gf⟩;obtain⟨u,h1,h2⟩:=s.at' j t e;refine⟨u,h1,?_⟩;have tk:=gf.bI s;rcases h2 with⟨v,q,r⟩ | ⟨a,q,r⟩
 ·exact .inl ⟨v,q,VR.tk tk r⟩
 ·subst q;refine .inr ⟨a,rfl,?_⟩;by_cases c:∃b,t.own=true/\t.has a b/\bx σ' aK b
  ·obtain⟨b,ow,hb,i,t',x,c1,c2,c3,c4⟩:=c;obtain⟨j',k1,k2,k3⟩:=h.own i t' c1 c2;have jj:=s.nd j j' t t' a x b e k2 ow c2 h1 (k3▸c3) hb c4;subst jj;rw[e]at k2;cases k2;exact s2.ownAt c1 c2 (k3.trans h1)
  ·exact r.mono tk (λb o ow hb z nt=>g.iJ z (λy=>c ⟨b,ow,hb,y⟩) nt)
theorem il:∀{is:O Nat}{us:O V}{σ:L2.St}{i:Nat},i∉is->(ip is us σ)[i]?=σ[i]?
 | [],us,σ,i,_=>by cases us <;> rfl
 | j::is,[],σ,i,_=>rfl
 | j::is,u::us,σ,i,h=>by
  rw[ip,il (λz=>h (AA _ z))];exact aA (λz=>h (by rw[z];exact A9))
end
section
variable{T2:Type}{wt:PV->W T2}{cK:T2->aX}{tf:T2->W Bool}{te:T2->W PV}
structure FF(X:Cx)(K:Aa)(fs:aX)(Ï:List gl)(w:W Bool):Prop where p:HG X Ï (fT K fs w)
def yK:FF X K fs [] (.ret true):=⟨λU s σ H Q I ⟨sr,q⟩=>uP U s σ H Q I (q H .refl sr)⟩
def qr(is:O Nat)(fk:aX)(cK:T2->aX):Prop:=∀t,(cK t).length=fk.length/\∀(i:Nat) (s:SL),(cK t)[i]?=al (al s)->(i∈is/\s.own=false)\/(i∉is/\fk[i]?=al (al s))
theorem F0(S:bL X.env.scope X.N sc N' ix)(hb:fk=cX ix fs)(hf:∀p,f p=.bind (wt p) λt=>.bind (tf t) λk=>if k=true then .bind (te t) λv=>.ret (al v) else .ret be)(hl:qr is fk cK)(hr:∀t,dI (cK t) fk)(vz:∀j∈is,ix[j]?=al be) :
  ∀σ H Q,fL K fs (.bind wl λl=>vf l f) σ H Q->KO ix (Lw K fs wl) (λv σ H Q=>fG K fk is wt cK v σ H Q) (λσ H Q=>∃t,fT K (cK t) (tf t) σ H Q) (λσ H Q=>∃t,fE K (cK t) (te t) σ H Q) σ H Q:=by
 subst hb;rintro σ H Q ⟨sr,q⟩;refine⟨sr,wl.mono (λl q1 J H1 g1 s1 jf D hD=>?_) q⟩;have inj:∀i i' j:Nat,ix[i]?=al (al j)->ix[i']?=al (al j)->i=i':=λi i' j h1 h2=>by
  have hi:i < N'.length:=by rw[<- S.len];exact(Ag.mp h1).1
  have Nw:i' < N'.length:=by rw[<- S.len];exact(Ag.mp h2).1
  have e2:=(S.at h2 (Ai Nw)).1;rw[((S.at h1 (Ai hi)).1)]at e2;exact(List.getElem_inj S.nd).mp (Option.some.inj e2)
 have nD:=s1.noOwn hD;refine⟨λi m σ' ys H'=>∃Æ,aG K H' σ fs/\bM σ fs H H'/\aG K H' σ' (cX ix fs)/\wg ix σ fs σ' (cX ix fs)/\JF K H' J l/\H' D=al (.lst ys)/\ay K [] H' ys Æ/\Æ.length<=i/\m=l.length-i/\i<=l.length/\
  (vf (l.drop i) f).run λr=>∀a vs H',bM σ fs H H'->aG K H' σ fs->H a=be->H' a=al (.lst vs)->ay K [] H' vs (Æ++r)->Q (.ref a) H',⟨l.length,[],?_⟩,?_⟩
 ·have sm:=fw hD (.lst []);refine⟨s1.same sm,g1.trans (bM.same sm),(s1.same sm).g8 inj,⟨λi t e o=>?_⟩,jf.tk sm.cb,aB,.nil,Bw _,by simp,Bw _,by simpa using q1⟩;obtain⟨j,h1,h2⟩:=gc e;obtain⟨u,h3,_⟩:=s1.at' j t h2;exact⟨j,h1,h2,by rw[eL h1 h3,h3]⟩
 rintro i m σ2 ys H2 ⟨Æ,sO,gO,s2,wN,vn,hy,vy,FI,rfl,hi,q2⟩;refine⟨hy,?_⟩;obtain⟨j1,j2⟩:=vn.2 H2 (aD.refl H2);by_cases iO:i < l.length
 ·obtain⟨go,yl⟩:=j1 i _ (Ai iO);rw[(AU iO)]at q2;refine .inr ⟨go,λv H3 y=>?_⟩;obtain⟨sm,vx⟩:=yl v H3 y;have q2:(f l[i]).run λo=>(vf (l.drop (i+1)) f).run λr=>∀a vs H',bM σ fs H H'->aG K H' σ fs->H a=be->H' a=al (.lst vs)->ay K [] H' vs (Æ++(o.toList++r))->Q (.ref a) H':=q2;rw[hf]at q2;refine⟨_,(s2.same sm),vx,(wt l[i]).mono (λt q4 us g4 s4=>?_) q2⟩;have vp:wg ix σ fs (ip is us σ2) (cK t):=⟨λj u e o=>by
   rcases (hl t).2 j u e with⟨_,z⟩ | ⟨n,z⟩
   ·rw[z]at o;cases o
   ·obtain⟨j',k1,k2,k3⟩:=wN.own j u z o;exact⟨j',k1,k2,by rw[il n];exact k3⟩⟩
  refine⟨t,s4,(tf t).mono (λkk q5 H5 g5 s5=>?_) q4⟩;obtain⟨KS,JU⟩:=vp.out (sO.same sm) g5 s5;have Lr:=(gO.trans (bM.same sm)).trans JU;have K2:¬bx (ip is us σ2) (cK t) D:=λz=>nD (vp.jg z);have K7:=g5.iJ (sm _ _ hy) K2;have KD:=ay.tk (g5.bI s4) (ay.tk sm.cb vy);have K6:=(vn.tk sm.cb).tk (g5.bI s4);have Ó:∀{H6:Hp},aG K H6 (ip is us σ2) (cK t)->aG K H6 (ip is us σ2) (cX ix fs)/\wg ix σ fs (ip is us σ2) (cX ix fs):=λ{H6} z=>⟨z.le (hr t),⟨λj u e o=>vp.own j u ((hr t).at j u e) o⟩⟩;cases kk with
  | false=>
   exact dR ⟨l.length-(i+1),by omega,Æ,KS,Lr,(Ó s5).1,(Ó s5).2,K6,K7,KD,by omega,rfl,iO,q5⟩
  | true=>
   refine fN ⟨t,s5,(te t).mono (λv6 q6 u6 H6 g6 s6 L5=>?_) q5⟩;obtain⟨Ml,JT⟩:=vp.out KS g6 s6;have Fu:=g6.iJ K7 K2;have KC:=ay.tk (g6.bI s5) KD;refine⟨Fu,by rw[KC.length];have:=vn.1;omega,l.length-(i+1),by omega,Æ++[v6],Ml.side nD Fu _,(Lr.trans JT).side (g1.there D hD) _,((Ó s6).1).side (λz=>nD ((Ó s6).2.jg z)) Fu _,(Ó s6).2,(K6.tk (g6.bI s5)).tk (g9 _ Fu),aB,ay.tk (g9 (.lst (ys++[u6])) Fu) (KC.append (.cons L5 .nil)),by rw[Ad];simp;omega,rfl,iO,?_⟩;refine(vf (l.drop (i+1)) f).mono (λr q7 a vs H7 g7 s7 n e v7=>q7 a vs H7 g7 s7 n e ?_) q6;simpa using v7
 ·have e:i=l.length:=by omega
  subst e;rw[Dq]at q2;exact .inl ⟨j2,q2 D ys H2 gO sO (g1.there D hD) hy (by simpa using vy)⟩
end
end
end FL
namespace L2
def gV(l:ce)(items:Array bn)(n:Nat)(b:ce)(dz:Array bn)(n2:Nat)(sl:Array (Option bn))(OV:¬(!items.isEmpty&&Builtin.List.listTooLong (items.size+dz.size))=true)(OU:items.size<=sizeLine)(mE:items.size+dz.size<=sizeLine+1) :
  Meets (Builtin.«list.extend» ⟨[.ref l,.ref b],[]⟩) (λ_ R s=>s.heap.get? l=al {cls:=.type "list",dict:=be,data:=.seq items n,slots:=#[]}/\s.heap.get? b=al {cls:=.type "list",dict:=be,data:=.seq dz n2,slots:=sl}/\R (.ok (.ret Bd)) {s with heap:=s.heap.update l (BU λx=>x++dz),toks:=s.toks}):=
 .of_wp λprog w A R s h=>by
  obtain⟨hp,g,d,tk,os⟩:=s;obtain⟨hl,hb,h⟩:=h;have f5:=CC;
  wp_walk using (CM hl rfl),Bi hl,Bi hb;exact⟨_,rfl,h⟩
def EJ(K:Aa):V->O V->Hp->VK->Prop:=λx vs H Q=>∃l b xs zs,x=.ref l/\vs=[.ref b]/\H l=al (.lst xs)/\(bO K H b zs\/cf K H b zs)/\xs.length+zs.length<=sizeLine/\mK H l (.lst (xs++zs)) (Q .aL)
theorem va(K:Aa)(hK:X.K=K):qz X "list.extend" (EJ K):=by
 subst hK;intro U s σ H x vs v us Q I rx rv h;obtain⟨l,b,xs,zs,rfl,rfl,hH,hB | hB,hz,q⟩:=h
 ·cases rx;obtain⟨u,rfl,ru⟩:=rv.one;cases ru;obtain⟨z,ak,n,r,hl,e⟩:=I.gT hH;obtain⟨bt,r2,⟨⟨cls,dd,data,sl⟩,n2,e2,hc,hd,JG⟩,z2⟩:=I.list hB;subst hc hd JG;have yD:=r2.length;have pZ:ak.toArray.size+bt.toArray.size<=sizeLine:=by rw[Af,Af];omega
  have lP:¬(!ak.toArray.isEmpty&&Builtin.List.listTooLong (ak.toArray.size+bt.toArray.size))=true:=by
   rw[d8 pZ,C7];exact Az
  refine xz C2 ⟨_,e,rfl⟩ CU (CB _ _)
   (gV l ak.toArray n b bt.toArray n2 sl lP (by rw[Af];omega) ∅) ⟨e,e2,?_⟩
  refine⟨.aL,_,I.pP hH e (by simp) (r.append r2) ?_,rfl,q.at⟩;rw[Ad];omega
 ·exact lG U s σ H _ _ v us Q I rx rv ⟨l,b,xs,zs,rfl,rfl,hH,hB,hz,q⟩
end L2
variable{z:Bo}{we:FL.W PL.PV}
namespace FL
section
variable[bj]
variable{K:Aa}
section
variable{T2:Type}{wt:PV->W T2}{cK:T2->aX}{tf:T2->W Bool}{te:T2->W PV}
def Jc(hc:X.calm=true)(S:bL X.env.scope X.N sc N' ix)(hi:tT X K fs tg iter wl)(hg:∀cl C s2 H2 fp,GF (g8 X sc N' cl C s2 H2 fp) K (cX ix fs) tg is wt cK)(Ny:∀cl C s2 H2 fp t,FF (g8 X sc N' cl C s2 H2 fp) K (cK t) Ï (tf t))(he:∀cl C s2 H2 fp t,EF (g8 X sc N' cl C s2 H2 fp) K (cK t) Í (te t))
  (hf:∀p,f p=.bind (wt p) λt=>.bind (tf t) λk=>if k=true then .bind (te t) λv=>.ret (al v) else .ret be) (hl:qr is (cX ix fs) cK/\∀t,dI (cK t) (cX ix fs)) (vz:∀j∈is,ix[j]?=al be) (hs:uf X iter:=by intro _;rfl) :
  LF X K fs (.ListComp Í [⟨tg,iter,Ï,0⟩] sc pos) (.bind wl λl=>vf l f):=
 ⟨PE.imp (ER hc S hi.p (λcl C s2 H2 fp=>(hg cl C s2 H2 fp).p) (λcl C s2 H2 fp U s σ H Q I ⟨t,q⟩=>(Ny cl C s2 H2 fp t).p U s σ H Q I q) (λcl C s2 H2 fp U s σ H Q I ⟨t,q⟩=>(he cl C s2 H2 fp t).p U s σ H Q I q) hs) (F0 S rfl hf hl.1 hl.2 vz)⟩
def wK{f:PV->W PV}(hc:X.calm=true)(S:bL X.env.scope X.N sc N' ix)(hi:tT X K fs tg iter wl)(hg:∀cl C s2 H2 fp,GF (g8 X sc N' cl C s2 H2 fp) K (cX ix fs) tg is wt cK)(he:∀cl C s2 H2 fp t,EF (g8 X sc N' cl C s2 H2 fp) K (cK t) Í (te t))
  (hf:∀p,f p=.bind (wt p) te) (hl:qr is (cX ix fs) cK/\∀t,dI (cK t) (cX ix fs)) (vz:∀j∈is,ix[j]?=al be) (hs:uf X iter:=by intro _;rfl) :
  LF X K fs (.ListComp Í [⟨tg,iter,[],0⟩] sc pos) (.bind wl λl=>gD l f):=by
 have:(λl=>gD l f)=λl=>vf l λp=>.bind (wt p) λt=>.bind (.ret true) λk=>if k=true then .bind (te t) λv=>.ret (al v) else .ret be:=funext λl=>by
  rw[oE];congr 1;funext p;rw[hf];rfl
 rw[this];exact Jc hc S hi hg (λ_ _ _ _ _ _=>yK) he (λp=>rfl) hl vz hs
theorem kg:∀{l:aX}{i:Nat} (s:Option SL),l[i]?=al be->dI (l.set i s) l
 | [],_,_,h=>by simp at h
 | x::l,0,s,h=>by
  simp at h;subst h;exact .drop (dI.refl l)
 | x::l,i+1,s,h=>by
  exact .keep (kg s (by simpa using h))
def dI.trans{a b c:aX}(h1:dI a b)(h2:dI b c):dI a c:=by
 induction h1 generalizing c with
 | nil=>exact h2
 | drop h ih=>cases h2 with | drop h2=>exact .drop (ih h2) | keep h2=>exact .drop (ih h2)
 | keep h ih=>cases h2 with | drop h2=>exact .drop (ih h2) | keep h2=>exact .keep (ih h2)
def iI{l:aX}{is:O Nat}(hl:l.length=fk.length/\∀(j:Nat) (s:SL),l[j]?=al (al s)->(j∈is/\s.own=false)\/(j∉is/\fk[j]?=al (al s)))(hi:fk[i]?=al be) :
  (l.set i (al (.val v))).length=fk.length/\∀(j:Nat) (s:SL),(l.set i (al (.val v)))[j]?=al (al s)->(j∈is++[i]/\s.own=false)\/(j∉is++[i]/\fk[j]?=al (al s)):=by
 refine⟨by rw[DJ];exact hl.1,λj s e=>?_⟩;rcases bB e with⟨rfl,rfl⟩ | ⟨n,e⟩
 ·exact .inl ⟨by simp,rfl⟩
 ·rcases hl.2 j s e with⟨h1,h2⟩ | ⟨h1,h2⟩
  ·exact .inl ⟨by simp[h1],h2⟩
  ·exact .inr ⟨by simp[h1,n],h2⟩
def wI(fk:aX):fk.length=fk.length/\∀(j:Nat) (s:SL),fk[j]?=al (al s)->(j∈([]:O Nat)/\s.own=false)\/(j∉([]:O Nat)/\fk[j]?=al (al s)):=⟨rfl,λj s e=>.inr ⟨by simp,e⟩⟩
def Ja(hi:fk[i]?=al be):qr [i] fk (λp=>fk.set i (al (.val p)))/\∀t,dI (fk.set i (al (.val t))) fk:=⟨λt=>iI (wI fk) hi,λt=>kg _ hi⟩
def qO{l:aX}{s:Option SL}(h:l[j]?=al be)(n:j≠i):(l.set i s)[j]?=al be:=by rw[aA n];exact h
def IZ(hi:fk[i]?=al be)(hj:fk[j]?=al be)(n:j≠i):qr [i,j] fk (λt:PV×PV=>(fk.set i (al (.val t.1))).set j (al (.val t.2)))/\∀t:PV×PV,dI ((fk.set i (al (.val t.1))).set j (al (.val t.2))) fk:=
 ⟨λt=>iI (iI (wI fk) hi) hj,λt=>(kg _ (qO hj n)).trans (kg _ hi)⟩
end
section
variable{rest:O lm}{p:Pos}{T:Type}{out:T->End}{x:Bool}{wi:W PV}
def bW(sr:aG K H σ fs)(hs:fs[i]?=al (al (.ol q0 l))):∃a ws,σ[i]?=al (al (.ref a))/\H a=al (.lst ws)/\ay K [] H ws l:=by
 obtain⟨u,e1,r⟩:=sr.at' i _ hs;rcases r with⟨v,e,_⟩ | ⟨a,e,z,ws,q1,q2⟩
 ·cases e
 ·subst e;exact⟨a,ws,e1,q1,q2⟩
def fD{kX:O V}{l':O PV}(sr:aG K H σ fs)(hs:fs[i]?=al (al (.ol q0 l)))(e1:σ[i]?=al (al (.ref a)))(sx:gh a H H')(h':H' a=al (.lst kX))(r:ay K [] H kX l'):aG K H' σ (fs.set i (al (.ol q0 l')))/\bA σ fs H σ (fs.set i (al (.ol q0 l'))) H':=
 iz sr hs rfl (by simp) e1 sx λtk=>⟨(sr.ownAt hs rfl e1).1,kX,h',ay.tk tk r⟩
def i7(l:O PV)(v:PV):W (O PV):=.eW (l.length < sizeLine) (.ret (l++[v]))
theorem SF.append(i:Nat){k:O PV->W T}(hs:fs[i]?=al (al (.ol q0 l)))(hK:X.K=K)(hN:X.N[i]?=al y)(hv:o7 X.env.scope y)(he:EF X K fs e we)(hr:∀l',SF X K x (fs.set i (al (.ol q0 l'))) rest (k l') out)
  (hd:dU y:=by decide) (ek:qq y:=by decide) (cC:lc (.Name y p) "append" X.env (ii (.Name y p) X.env)=ii (.Name y p) X.env:=by rfl)
  (ko:Gs X bo [e]:=by rfl)
  (cB:xl À bo:=by rfl) (kl:c6 X e []:=by rfl) (dB:eR X bo []:=by rfl)
  (Fw:pr (.Call (.Attribute (.Name y p) "append" À) [e] [] bo) be pos.line X.env=pure false:=by rfl) :
  SF X K x fs (.Expr (.Call (.Attribute (.Name y p) "append" À) [e] [] bo) pos::rest) (.bind we λv=>.bind (i7 l v) k) out:=
 SF.step (cO (iy K hK Bb Cd Cc eZ (cy hN hv hd ek) (ae he.p az kl) cC ko cB kl dB) Fw) λD σ H ⟨sr,q⟩=>by
  obtain⟨a,ws,e1,h1,r1⟩:=bW sr hs;refine⟨_,e1,.inl ⟨rfl,_,bO.of h1⟩,sr,we.mono (λv q1 u H1 g1 s1 v1=>?_) q⟩;obtain⟨a',kX,qe,dj,pH⟩:=bW s1 hs;rw[e1]at qe;cases qe;refine⟨a,kX,u,rfl,rfl,dj,by rw[pH.length];exact q1.1,λH2 sx h2=>?_⟩;obtain⟨s2,g2⟩:=fD s1 hs e1 sx h2 (pH.append (.one v1));exact⟨_,k _,hr _,s2,(k _).mono (λt q2=>q2.go (g1.f.trans g2) sr s2) q1.2⟩
def yM(l m:O PV):W (O PV):=.eW (l.length+m.length<=sizeLine) (.ret (l++m))
theorem SF.extend(i:Nat){k:O PV->W T}(hs:fs[i]?=al (al (.ol q0 l)))(hK:X.K=K)(hN:X.N[i]?=al y)(hv:o7 X.env.scope y)(he:QF X K fs e wl)(hr:∀l',SF X K x (fs.set i (al (.ol q0 l'))) rest (k l') out)
  (hd:dU y:=by decide) (ek:qq y:=by decide) (cC:lc (.Name y p) "extend" X.env (ii (.Name y p) X.env)=ii (.Name y p) X.env:=by rfl)
  (ko:Gs X bo [e]:=by rfl)
  (cB:xl À bo:=by rfl) (kl:c6 X e []:=by rfl) (dB:eR X bo []:=by rfl)
  (Fw:pr (.Call (.Attribute (.Name y p) "extend" À) [e] [] bo) be pos.line X.env=pure false:=by rfl) :
  SF X K x fs (.Expr (.Call (.Attribute (.Name y p) "extend" À) [e] [] bo) pos::rest) (.bind wl λm=>.bind (yM l m) k) out:=
 SF.step (cO (iy K hK Bb PySem.F.slot_list_extend PySem.F.type_list_extend (va K hK) (cy hN hv hd ek) (ae he.p az kl) cC ko cB kl dB) Fw) λD σ H ⟨sr,q⟩=>by
  obtain⟨a,ws,e1,h1,r1⟩:=bW sr hs;refine⟨_,e1,.inl ⟨rfl,_,bO.of h1⟩,sr,wl.mono (λm q1 u H1 g1 s1 v1=>?_) q⟩;obtain⟨a',kX,qe,dj,pH⟩:=bW s1 hs;rw[e1]at qe;cases qe;obtain⟨b,zs,rfl,hb,rb⟩:=v1.sq s1;refine⟨a,b,kX,zs,rfl,rfl,dj,hb,by rw[pH.length,rb.length];exact q1.1,λH2 sx h2=>?_⟩;obtain⟨s2,g2⟩:=fD s1 hs e1 sx h2 (pH.append rb);exact⟨_,k _,hr _,s2,(k _).mono (λt q2=>q2.go (g1.f.trans g2) sr s2) q1.2⟩
def ly(l:O PV):W (O PV×PV):=match l.getLast? with
 | some v=>.ret (l.dropLast,v)
 | none=>.fail
def qK{l:O PV}(h:l.getLast?=al v):l=l.dropLast++[v]:=by
 rw[List.getLast?_eq_some_iff]at h;obtain⟨ys,rfl⟩:=h;simp
theorem ay.snoc:∀{ws:O V}{l:O PV}{v:PV},ay K [] H ws (l++[v])->∃zf u,ws=zf++[u]/\ay K [] H zf l/\VR K [] H u v
 | _,[],_,.cons r .nil=>⟨[],_,rfl,.nil,r⟩
 | _,x::l,v,.cons r t=>by
  obtain⟨zf,u,rfl,h1,h2⟩:=ay.snoc t;exact⟨_::zf,u,rfl,.cons r h1,h2⟩
def SF.mV(i j:Nat){k:O PV×PV->W T}(hs:fs[i]?=al (al (.ol q0 l)))(zv:j≠i)(hK:X.K=K)(hN:X.N[i]?=al y)(hv:o7 X.env.scope y)(NP:X.N.Nodup)(hj:X.N[j]?=al z)(hx:Loc X.env.scope z)(hr:∀t:O PV×PV,SF X K x ((fs.set i (al (.ol q0 t.1))).set j (al (.val t.2))) rest (k t) out)
  (hd:dU y:=by decide) (ek:qq y:=by decide) (cC:lc (.Name y p) "pop" X.env (ii (.Name y p) X.env)=ii (.Name y p) X.env:=by rfl) (cB:xl À bo:=by rfl)
  (Fw:pr (.Call (.Attribute (.Name y p) "pop" À) [] [] bo) (al (.Name z p')) pos.line X.env=pure false:=by rfl) (hf:ue X z:=by first | exact .inl rfl | exact .inr rfl | assumption) :
  SF X K x fs (.Assign [.Name z p'] (.Call (.Attribute (.Name y p) "pop" À) [] [] bo) pos::rest) (.bind (ly l) k) out:=
 SF.step (bQ NP hj hx (oq K hK Bb DM DL oC (cy hN hv hd ek) cC cB) Fw hf) λD σ H ⟨sr,q⟩=>by
  obtain⟨a,ws,e1,h1,r1⟩:=bW sr hs;have q:(ly l).run λt=>(k t).run λt=>aY K x σ fs H D (out t):=q;unfold ly at q;cases hl:l.getLast? with
  | none=>rw[hl]at q;exact q.elim
  | some v=>
   rw[hl]at q;have el:=qK hl;rw[el]at r1;obtain⟨zf,u,rfl,r0,ru⟩:=ay.snoc r1;refine⟨_,e1,.inl ⟨rfl,_,bO.of h1⟩,a,zf,u,rfl,rfl,h1,λH2 sx h2=>?_⟩;obtain⟨s2,g2⟩:=fD sr hs e1 sx h2 r0;have Mn:VR K [] H2 u v:=g2.vr sr ru;have s3:=s2.dP Mn j;exact⟨_,k _,hr (l.dropLast,v),s3,(k _).mono (λt q2=>q2.go (g2.trans (bA.dP s2 _ _ j)) sr s3) q⟩
def setW(l:O PV)(i v:PV):W (O PV):=match i with
 | .int k=>match lM l.length k with
  | some j=>.ret (l.set j v)
  | none=>.fail
 | _=>.fail
def SF.EA(i:Nat){ei:gl}{k:O PV->W T}(hs:fs[i]?=al (al (.ol q0 l)))(hN:X.N[i]?=al y)(hv:o7 X.env.scope y)(he:EF X K fs e we)(hi:EF X K fs ei wi)(hr:∀l',SF X K x (fs.set i (al (.ol q0 l'))) rest (k l') out)
  (ha:∀v,assign (.Subscript (.Name y p) ei fm) X.env v=(do
   let ov <- mo [v] (ii (.Name y p) X.env)
   let iv <- mo [v,ov] (ii ei X.env)
   u8 fm
   mo [v,ov,iv] (setItem ov iv v)
   release [v,ov,iv] []):=by intro _;rfl)
  (hd:dU y:=by decide) (ek:qq y:=by decide) (Jr:tz [.Subscript (.Name y p) ei fm] e pos.line X.env=pure false:=by rfl) (hw:up [.Subscript (.Name y p) ei fm] e X.env=pure be:=by rfl)
  (h1:(sK [.Subscript (.Name y p) ei fm] X.env).map (·.2)=[assign (.Subscript (.Name y p) ei fm) X.env]:=by rfl) :
  SF X K x fs (.Assign [.Subscript (.Name y p) ei fm] e pos::rest) (.bind we λv=>.bind wi λn=>.bind (setW l n v) k) out:=
 SF.step (rh he.p (xO (cy hN hv hd ek) hi.p pC ha) Jr hw h1) λD σ H ⟨sr,q⟩=>by
  refine⟨sr,we.mono (λv q1 u H1 g1 s1 v1=>?_) q⟩;obtain⟨a,ws,e1,h1,r1⟩:=bW s1 hs;refine⟨_,e1,s1,wi.mono (λn q2 u2 H2 g2 s2 v2=>?_) q1⟩;obtain⟨a',kX,qe,dj,pH⟩:=bW s2 hs;rw[e1]at qe;cases qe;cases v2 with
  | int kk=>
   have q2:(match lM l.length kk with | some j=>ap (l.set j v) | none=>W.fail).run _:=q2;cases hj:lM l.length kk with
   | none=>rw[hj]at q2;exact q2.elim
   | some j=>
    rw[hj]at q2;refine⟨a,kX,kk,j,rfl,rfl,dj,by rw[pH.length];exact hj,λH3 sx h3=>?_⟩;obtain⟨s3,g3⟩:=fD s2 hs e1 sx h3 (pH.set (g2.vr s1 v1) j);exact⟨_,k _,hr _,s3,(k _).mono (λt q3=>q3.go ((g1.trans g2).f.trans g3) sr s3) q2⟩
  | _=>exact q2.elim
end
end
end FL
variable{f:AR}
namespace FL
section
variable[bj]
variable{K:Aa}
def cL:O AK->O PV->aX
 | [],_=>[]
 | .v::ks,x::l=>al (.val x)::cL ks l
 | .v::_,[]=>[]
 | .p φ::ks,l=>al (.gk φ)::cL ks l
 | .f a us ps fz::ks,l=>al (.adr a us ps fz)::cL ks l
def i5(ks:O AK)(l:O PV)(n:Nat):aX:=cL ks l++AI (n-ks.length) be
def nT(ks:O AK):Prop:=∀i j:Nat,(∃φ,ks[i]?=al (.p φ))->(∃φ,ks[j]?=al (.p φ))->i=j
theorem dm:∀{n:Nat}{m:mG R n}{l:O PV}{Q:R->Prop},(fh n m l).run Q->l.length=n
 | 0,_,[],_,_=>rfl
 | 0,_,_::_,_,h=>h.elim
 | n+1,_,[],_,h=>h.elim
 | n+1,m,x::l,Q,h=>by rw[Ar,dm (n:=n) h]
section
theorem cZ.len(h:cZ K H vs ks l):vs.length=ks.length:=by induction h <;> simp_all
def cZ.slot(h:cZ K H vs ks l):(cL ks l).length=vs.length/\∀(i:Nat) (s:SL),(cL ks l)[i]?=al (al s)->∃u,vs[i]?=al u/\jN K H u s/\(s.own=true->∃φ,s=.gk φ/\ks[i]?=al (.p φ)):=by
 induction h with
 | nil=>exact⟨rfl,λi s e=>by simp[cL]at e⟩
 | @v u x vs ks l r t ih=>
  refine⟨by simp[cL,ih.1],λi s e=>?_⟩;cases i with
  | zero=>simp[cL]at e;subst e;exact⟨u,rfl,.inl ⟨x,rfl,r⟩,λz=>by cases z⟩
  | succ i=>simp[cL]at e;obtain⟨w,h1,h2,h3⟩:=ih.2 i s e;exact⟨w,by simpa using h1,h2,by simpa using h3⟩
 | @p a φ ws vs ks l e0 r t ih=>
  refine⟨by simp[cL,ih.1],λi s e=>?_⟩;cases i with
  | zero=>simp[cL]at e;subst e;exact⟨_,rfl,.inr ⟨a,rfl,ws,e0,r⟩,λ_=>⟨φ,rfl,rfl⟩⟩
  | succ i=>simp[cL]at e;obtain⟨w,h1,h2,h3⟩:=ih.2 i s e;exact⟨w,by simpa using h1,h2,by simpa using h3⟩
 | @f a us vs ps fz ks l r z t ih=>
  refine⟨by simp[cL,ih.1],λi s e=>?_⟩;cases i with
  | zero=>simp[cL]at e;subst e;exact⟨_,rfl,.inr ⟨a,rfl,rfl,r,z⟩,λz=>by cases z⟩
  | succ i=>simp[cL]at e;obtain⟨w,h1,h2,h3⟩:=ih.2 i s e;exact⟨w,by simpa using h1,h2,by simpa using h3⟩
def cZ.xK(h:cZ K H vs ks l)(e:ks[i]?=al (.p φ)):(cL ks l)[i]?=al (al (.gk φ)):=by
 induction h generalizing i with
 | nil=>simp at e
 | v r t ih=>cases i with | zero=>simp at e | succ i=>simp[cL];exact ih (by simpa using e)
 | p e0 r t ih=>cases i with | zero=>simp at e;subst e;rfl | succ i=>simp[cL];exact ih (by simpa using e)
 | f r z t ih=>cases i with | zero=>simp at e | succ i=>simp[cL];exact ih (by simpa using e)
theorem gg{s:SL}(h:(i5 ks l n)[i]?=al (al s)):(cL ks l)[i]?=al (al s):=by
 unfold i5 at h;by_cases c:i < (cL ks l).length
 ·rw[Ap c]at h;exact h
 ·rw[Ak ∅,Bq]at h
  split at h <;> cases h
def eI{N:O Str}(h:vs[i]?=al u):(L2.start N vs)[i]?=al (al u):=by
 unfold L2.start;rw[Ap (by rw[Aq];exact(Ag.mp h).1),Ao,h];rfl
def jz{N:O Str}(h:(L2.start N vs)[i]?=al (al u)):vs[i]?=al u:=by
 unfold L2.start at h;by_cases c:i < vs.length
 ·rw[Ap (by simpa using c),Ao]at h;cases z:vs[i]? with
  | none=>rw[z]at h;cases h
  | some q=>rw[z]at h;cases h;rfl
 ·rw[Ak (by simpa using c),Bq]at h
  split at h <;> cases h
def cZ.Kq(h:cZ K H vs ks l)(tb:TB H)(one:nT ks)(N:O Str):aG K H (L2.start N vs) (i5 ks l N.length):=by
 obtain⟨hl,hs⟩:=h.slot;refine⟨?_,λi s e=>?_,λi j s t x y a e1 e2 o1 o2 q1 q2 z1 z2=>?_,tb⟩
 ·unfold L2.start i5;rw[Ad,Ad,Aq,hl,BH,BH,h.len]
 ·obtain⟨u,h1,h2,_⟩:=hs i s (gg e);exact⟨u,eI h1,h2⟩
 ·obtain⟨_,_,_,h3⟩:=hs i s (gg e1);obtain⟨_,_,_,h4⟩:=hs j t (gg e2);obtain⟨φ,_,k1⟩:=h3 o1;obtain⟨ψ,_,k2⟩:=h4 o2;exact one i j ⟨φ,k1⟩ ⟨ψ,k2⟩
def cZ.go(h:cZ K H vs ks l){N:O Str}(g:bA (L2.start N vs) (i5 ks l N.length) H σ' aK H')(s':aG K H' σ' aK):zG vs ks H H':=by
 obtain⟨hl,hs⟩:=h.slot;refine⟨λa o e n=>(g.keep a o e λz=>?_).1,s'.tb,g.there,λa φ p=>?_⟩
 ·obtain⟨i,s,x,e1,e2,e3,e4⟩:=z;obtain⟨u,h1,h2,h3⟩:=hs i s (gg e1);obtain⟨φ,rfl,k⟩:=h3 e2;rcases e4 with rfl | e4
  ·exact n φ ⟨i,k,jz e3⟩
  ·cases e4
 ·obtain⟨i,e1,e2⟩:=p;have e3:=h.xK e1;have e4:(i5 ks l N.length)[i]?=al (al (.gk φ)):=by unfold i5;rw[Ap ((Ag.mp e3).1)];exact e3
  rcases g.pk a φ ⟨i,e4,eI e2⟩ with⟨j,k1,k2⟩ | ⟨_,k⟩
  ·exact s'.ownAt k1 rfl k2
  ·exact k
end
section
variable{x:Str}{st:lm}{N:O Str}
def J3{m:mG PV n}(Fn:Fun K x qual st f fd)(S:br N ps (af st))(vw:ks.length=ps.length)(one:nT ks)
  (Å:∀l:O PV,l.length=n->∀(bh:bn) (A:re) (outer:O Env) (s:ci) (H:Hp) (E:XK),aZ k (A.deeper (sB qual (af st) s.heap.objs.size f bh))->SF (gZ dS P w K mg base N qual (af st) f bh A outer s H E).rS K false (i5 ks l N.length) (aH st) (fh n m l) .rt) :
  bf P w K mg base dS (k+1) f fd ps (kS K ks (fh n m)):=by
 refine Fn.ok S (λvs H Q E h=>?_) (λbh A outer s H vs Q E hr h=>?_)
 ·obtain⟨_,l,h,_⟩:=h;rw[h.len];exact vw
 obtain⟨tb,l,h,q⟩:=h;refine⟨_,(Å l (dm q) bh A outer s H E hr).p,h.Kq tb one N,(fh n m l).mono (λv q1 u σ' aK H' g s' r=>q1 u H' (h.go g s') r) q⟩
def NZ{m:mG (O PV) n}(Fn:Fun K x qual st f fd)(S:br N ps (af st))(vw:ks.length=ps.length)(one:nT ks)
  (Å:∀l:O PV,l.length=n->∀(bh:bn) (A:re) (outer:O Env) (s:ci) (H:Hp) (E:XK),aZ k (A.deeper (sB qual (af st) s.heap.objs.size f bh))->SF (gZ dS P w K mg base N qual (af st) f bh A outer s H E).rS K false (i5 ks l N.length) (aH st) (fh n m l) .rl) :
  bf P w K mg base dS (k+1) f fd ps (pz K ks (fh n m)):=by
 refine Fn.ok S (λvs H Q E h=>?_) (λbh A outer s H vs Q E hr h=>?_)
 ·obtain⟨_,l,h,_⟩:=h;rw[h.len];exact vw
 obtain⟨tb,l,h,q⟩:=h;refine⟨_,(Å l (dm q) bh A outer s H E hr).p,(h.Kq tb one N),(fh n m l).mono (λz q1 a ws σ' aK H' g s' fr e r=>q1 a ws H' (h.go g s') ?_ e r) q⟩;rcases fr with fr | ⟨i,t,x,e1,e2,np,e3,e4⟩
 ·exact fr
 ·obtain⟨_,_,_,h3⟩:=h.slot.2 i t (gg e1);obtain⟨φ,e,_⟩:=h3 e2;exact absurd e (np φ)
end
def oA:nT []:=λi j ⟨_,h⟩=>by simp at h
def rM(h:nT ks):nT (.v::ks):=λi j ⟨φ,a⟩ ⟨ψ,b⟩=>by
 cases i with
 | zero=>simp at a
 | succ i=>
  cases j with
  | zero=>simp at b
  | succ j=>rw[h i j ⟨φ,by simpa using a⟩ ⟨ψ,by simpa using b⟩]
end
end FL
variable{o:BM}
namespace FL
section
variable[bj]
variable{K:Aa}
section
variable{a c:gl}{p:Pos}{w:W PV}
def Lv(K:Aa)(fs:aX)(w:W (O PV)):TE:=λσ H Q=>aG K H σ fs/\w.run λl=>∀u H',bM σ fs H H'->aG K H' σ fs->v9 K σ fs H' u l->(∀HK,bM σ fs H' HK->aG K HK σ fs->∃a vs,u=.ref a/\bO K HK a vs/\ay K [] HK vs l)->Q u H'
structure wc(X:Cx)(K:Aa)(fs:aX)(e:gl)(w:W (List PV)):Prop where p:PE X e (Lv K fs w)
def xI(h:LF X K fs e wl):wc X K fs e wl:=⟨PE.imp h.p λσ H Q ⟨sr,q⟩=>⟨sr,wl.mono (λl q1 a vs H1 g1 s1 n e v=>q1 _ H1 g1 s1 (.inr ⟨a,rfl,.inl ⟨sr.noOwn n,vs,e,v⟩⟩) λH2 g2 s2=>⟨a,vs,rfl,bO.of (g2.iJ e (sr.noOwn n)),g2.qu s1 v⟩) q⟩⟩
def xH(i:Nat){x:Str}(hs:fs[i]?=al (al (.ol q0 l)):=by rfl)(hN:X.N[i]?=al x:=by rfl)(hv:o7 X.env.scope x:=by first | exact Bm rfl | exact BP (Bm rfl) | exact BP (BP rfl))(hd:dU x:=by decide)(ek:qq x:=by decide):wc X K fs (.Name x pos) (.ret l):=
 ⟨PE.imp (cy hN hv hd ek) λσ H Q ⟨sr,q⟩=>by
  obtain⟨a,ws,e1,h1,r1⟩:=bW sr hs;refine⟨_,e1,q _ H .refl sr (.inr ⟨a,rfl,.inr ⟨i,q0,hs,e1⟩⟩) λH2 g2 s2=>?_⟩;obtain⟨a',kX,qe,dj,pH⟩:=bW s2 hs;rw[e1]at qe;cases qe;exact⟨a,kX,rfl,bO.of dj,pH⟩⟩
def si:PV->W (O PV)
 | .cl l=>.ret l
 | _=>.fail
def qX(h:EF X K fs e w):wc X K fs e (.bind w si):=⟨PE.imp h.p λσ H Q ⟨sr,q⟩=>⟨sr,w.mono (λx q1 u1 H1 g1 s1 v1=>by
 cases v1 with
 | cl e r=>exact q1 _ H1 g1 s1 (.inl ⟨_,_,rfl,.inl e,r⟩) λH2 g2 s2=>⟨_,_,rfl,((g2.bI s1).f _ _ e).sq,g2.qu s1 r⟩
 | _=>exact q1.elim) q⟩⟩
def rX{Q:VK}(g1:bM σ fs H H1)(s1:aG K H1 σ fs)(r:ay K [] H1 vs l)(q:∀a vs H',bM σ fs H H'->aG K H' σ fs->H a=be->H' a=al (.lst vs)->ay K [] H' vs l->Q (.ref a) H'):gS H1 (.lst vs) Q:=λp H2 s2 h2 n2=>q p vs H2 (g1.trans (bM.same s2)) (s1.same s2) (g1.there p n2) h2 (ay.tk s2.cb r)
def sk(K:Aa):CL K (qU K) .ret:=λ{fs σ H Q u l} s v q=>by
 obtain⟨a,vs,rfl,h,rs⟩:=v.sq s;exact⟨a,vs,rfl,h,rX .refl s rs q⟩
def ym(hK:X.K=K)(hg:Gl X "list")(hm:X.mg "list"=be)(ha:QF X K fs e wl)(he:c6 X e []:=by rfl)(bH:eR X pos []:=by rfl):LF X K fs (.Call (.Name "list" p) [e] [] pos) wl:=sy (nM K hK) (sk K) hg hm boot_list ha ⋯ ⋯ he bH
def vM(hK:X.K=K)(hg:Gl X "tuple")(hm:X.mg "tuple"=be)(ha:QF X K fs e wl)(he:c6 X e []:=by rfl)(bH:eR X pos []:=by rfl):EF X K fs (.Call (.Name "tuple" p) [e] [] pos) (.bind wl uu):=qd (qh K hK) (uv K) hg hm boot_tuple ha ⋯ ⋯ he bH
def nJ(hK:X.K=K)(hg:Gl X "len")(hm:X.mg "len"=be)(ha:QF X K fs e wl)(he:c6 X e []:=by rfl)(bH:eR X pos []:=by rfl):EF X K fs (.Call (.Name "len" p) [e] [] pos) (.bind wl nk):=tG (cq K hK) (vd K) hg hm boot_len ha ⋯ ⋯ he bH
def tQ(ha:EF X K fs e w)(he:f8 [e] X.env=(false,ii e X.env)::f8 [] X.env):AF X K fs [e] (AI 1 .v) (R:=R) (λk=>.bind w λx=>k [x]):=ai ha aw he
def l4(hK:X.K=K)(hg:Gl X "len")(hm:X.mg "len"=be)(ha:EF X K fs e w)(he:c6 X e []:=by rfl)(bH:eR X pos []:=by rfl):EF X K fs (.Call (.Name "len" p) [e] [] pos) (.bind w λx=>m6 gI [x]):=oY (cq K hK) (vU K) hg hm boot_len (tQ ha he) ⋯ ⋯ he bH
def xb(hg:Gl X "abs")(hm:X.mg "abs"=be)(ha:EF X K fs e w)(he:c6 X e []:=by rfl)(bH:eR X pos []:=by rfl):EF X K fs (.Call (.Name "abs" p) [e] [] pos) (.bind w λx=>m6 ju [x]):=oY tM vW hg hm boot_abs (tQ ha he) ⋯ ⋯ he bH
def oW(hg:Gl X "int")(hm:X.mg "int"=be)(ha:EF X K fs e w)(he:c6 X e []:=by rfl)(bH:eR X pos []:=by rfl):EF X K fs (.Call (.Name "int" p) [e] [] pos) (.bind w λx=>m6 kG [x]):=tF ql vV hg hm boot_int (tQ ha he) ⋯ ⋯ he bH
def Fb(hK:X.K=K)(hc:X.calm=true)(JB:Gl X "list")(Jw:X.mg "list"=be)(JA:Gl X "reversed")(Jv:X.mg "reversed"=be)(he:wc X K fs e wl)
  (vq:f8 [.Call (.Name "reversed" p3) [e] [] p4] X.env=(false,ii (.Call (.Name "reversed" p3) [e] [] p4) X.env)::f8 [] X.env:=by rfl) (mE:c6 X e []:=by rfl) :
  LF X K fs (.Call (.Name "list" p1) [.Call (.Name "reversed" p3) [e] [] p4] [] p2) (.bind wl λl=>.ret l.reverse):=⟨PE.imp (mW K hK hc JB Jw JA Jv he.p vq mE) λσ H Q ⟨sr,q⟩=>⟨sr,wl.mono (λl q1 u1 H1 g1 s1 _ v1=>by
 obtain⟨a,vs,rfl,h1,r1⟩:=v1 H1 .refl s1;exact⟨a,vs,rfl,h1,rX g1 s1 r1.reverse q1⟩) q⟩⟩
def Kp:O PV->W (O Bool)
 | []=>.ret []
 | .bl b::r=>.bind (Kp r) λl=>.ret (b::l)
 | _=>.fail
theorem o6:∀{l:O PV}{Q:O Bool->Prop},(Kp l).run Q->∃bs:O Bool,l=bs.map PV.bl/\Q bs
 | [],Q,h=>⟨[],rfl,h⟩
 | .bl b::r,Q,h=>by
  obtain⟨bs,e,q⟩:=o6 (l:=r) h;exact⟨b::bs,by rw[e];rfl,q⟩
 | .aL::r,Q,h=>h.elim
 | .int _::r,Q,h=>h.elim
 | .str _::r,Q,h=>h.elim
 | .tup _::r,Q,h=>h.elim
 | .ref _::r,Q,h=>h.elim
 | .ty _::r,Q,h=>h.elim
 | .cl _::r,Q,h=>h.elim
def Gp(l:O PV):W PV:=.bind (Kp l) λbs=>.ret (.bl (bs.all id))
def F7(hK:X.K=K)(hc:X.calm=true)(hg:Gl X "all")(hm:X.mg "all"=be)(ha:wc X K fs e wl)(he:c6 X e []:=by rfl)(bH:eR X pos []:=by rfl):EF X K fs (.Call (.Name "all" p) [e] [] pos) (.bind wl Gp):=⟨PE.imp (bE (qm K hK hc) hg hm boot_all (ae ha.p az he) ⋯ ⋯ he bH) λσ H Q ⟨sr,q⟩=>⟨sr,wl.mono (λl q1 u1 H1 g1 s1 _ v1=>by
 obtain⟨bs,e,q2⟩:=o6 q1;obtain⟨a,vs,rfl,h1,r1⟩:=v1 H1 .refl s1;rw[e]at r1;have:=jI r1;subst this;exact⟨a,bs,rfl,h1,q2 _ H1 g1 s1 (.bl _)⟩) q⟩⟩
def cm(k:Kd)(x:PV):W PV:=match x with
 | .ref _=>.fail
 | .ty _=>.fail
 | .ob _ _=>.fail
 | .hand=>.fail
 | x=>.ret (.bl (k.is x))
def wB(K:Aa):O V->Hp->VK->Prop:=λxs H Q=>∃x c t b,xs=[x,.ty c]/\(eG K H x t\/(t=.type "tuple"/\∃a vs,x=.ref a/\cf K H a vs)\/(t=.type "list"/\∃a vs,x=.ref a/\bO K H a vs)\/(t=.type "dict"/\∃a,x=.ref a/\OB H a))/\AQ K t (.type c)=al b/\Q (.bl b) H
def qk(hK:X.K=K):a8 X (.builtin "isinstance") (wB K):=by
 subst hK;intro U s σ H xs us Q I r h;obtain⟨x,c,t,b,rfl,ty | ty | ⟨rfl,a,vs,rfl,hL⟩ | ⟨rfl,a,rfl,hD⟩,e,q⟩:=h
 ·exact eE U s σ H _ us Q I r ⟨x,c,t,b,rfl,ty,e,q⟩
 ·exact qj X.K rfl U s σ H _ us Q I r ⟨x,c,t,b,rfl,.inr ty,e,q⟩
 ·obtain⟨u,w,rfl,r1,r2⟩:=vals2 r;cases r1;cases r2;obtain⟨ak,_,⟨o,n,h1,h2,_⟩,_⟩:=I.list hL;exact AL Dd I.eN ⟨o,h1,h2⟩ e (λz=>nomatch z) λtk=>⟨.bl b,H,I.tok _,rfl,q⟩
 ·obtain⟨u,w,rfl,r1,r2⟩:=vals2 r;cases r1;cases r2;have:∃o,s.heap.get? a=al o/\o.cls=.type "dict":=by
   rcases hD with⟨aM,e⟩ | ⟨aM,e⟩
   ·obtain⟨_,_,vs,_,o,_,_,h1,h2,_⟩:=tI I.aP e;exact⟨o,h1,h2.1⟩
   ·obtain⟨_,_,xs,_,o,_,_,h1,h2,_⟩:=tH I.aP e;exact⟨o,h1,h2.1⟩
  obtain⟨o,h1,h2⟩:=this;exact AL De I.eN ⟨o,h1,h2⟩ e (λz=>nomatch z) λtk=>⟨.bl b,H,I.tok _,rfl,q⟩
def eB(hK:X.K=K)(k:Kd){x:Str}(hg:Gl X "isinstance")(hm:X.mg "isinstance"=be)(ha:EF X K fs a wa)(Nx:Gl X x)(Nq:X.mg x=be)(hv:jp x=al (.type k.name))(hn:x≠"__name__":=by decide)(hd:dU x:=by decide)
  (he:f8 [a,.Name x p2] X.env=(false,ii a X.env)::f8 [.Name x p2] X.env:=by rfl) (yF:f8 [Expr.Name x p2] X.env=(false,ii (.Name x p2) X.env)::f8 [] X.env:=by rfl)
  (bH:(wE pos (f8 [Expr.Name x p2] X.env)).any (·.1)=false:=by rfl):EF X K fs (.Call (.Name "isinstance" p) [a,.Name x p2] [] pos) (.bind wa (cm k)):=
 ⟨PE.imp (bE (qk hK) hg hm boot_isinstance (ae ha.p (ae (ou (v:=.ty k.name) Nx Nq hv rfl hn hd) az yF) he) ⋯ ⋯ he bH) λσ H Q ⟨sr,q⟩=>⟨sr,wa.mono (λx q1 u1 H1 g1 s1 v1=>by
  have fin:∀{t:bn}{y:PV},eG K H1 u1 t->AQ K t (.type k.name)=al (k.is y)->Q (.bl (k.is y)) H1->wB K [u1,.ty k.name] H1 Q:=λty e q=>⟨_,_,_,_,rfl,.inl ty,e,q⟩;cases v1 with
  | aL=>exact fin .aL (by rw[(hV K).1 k];cases k <;> rfl) (q1 _ H1 g1 s1 (.bl _))
  | bl b=>exact fin (.bl b) (yo K b k) (q1 _ H1 g1 s1 (.bl _))
  | int b=>exact fin (.int b) (vk K b k) (q1 _ H1 g1 s1 (.bl _))
  | str b=>exact fin (.str b) (vj K b k) (q1 _ H1 g1 s1 (.bl _))
  | ty n=>exact q1.elim
  | ref n=>exact q1.elim
  | ob _ _ _ _ _=>exact q1.elim
  | hand _=>exact q1.elim
  | @dk a o aM ks l e k1 r=>exact⟨_,_,_,_,rfl,.inr (.inr (.inr ⟨rfl,_,rfl,.inl ⟨_,.inr ⟨_,e⟩⟩⟩)),(show _=al (k.is (.dv ks l)) by rw[(hV K).2.2 k];cases k <;> rfl),q1 _ H1 g1 s1 (.bl _)⟩
  | @dt a o aM ks l e k1 r=>exact⟨_,_,_,_,rfl,.inr (.inr (.inr ⟨rfl,_,rfl,.inr ⟨_,.inr ⟨_,e⟩⟩⟩)),(show _=al (k.is (.dv ks l)) by rw[(hV K).2.2 k];cases k <;> rfl),q1 _ H1 g1 s1 (.bl _)⟩
  | @cl p vs l e r=>exact⟨_,_,_,_,rfl,.inr (.inr (.inl ⟨rfl,_,_,rfl,e.sq⟩)),(show _=al (k.is (.cl l)) by rw[(hV K).2.1 k];cases k <;> rfl),q1 _ H1 g1 s1 (.bl _)⟩
  | @tup p vs l e r=>exact⟨_,_,_,_,rfl,.inr (.inl ⟨rfl,_,_,rfl,cf.of e⟩),vi K _ k,q1 _ H1 g1 s1 (.bl _)⟩) q⟩⟩
def Iy(l:O PV):PV->W (O PV)
 | .int k=>.eW (-(2 ^ 63)<=k/\k < 2 ^ 63/\l.length*k.toNat<=sizeLine) (.ret (AI k.toNat l).flatten)
 | _=>.fail
def part:PV->W (Option Int)
 | .int i=>.ret (al i)
 | _=>.fail
def xZ:OF X K fs be (.ret be):=⟨PO.imp uL λσ H Q ⟨sr,q⟩=>q H .refl sr⟩
def xY(h:EF X K fs e w):OF X K fs (al e) (.bind w part):=⟨PO.imp (uK h.p) λσ H Q ⟨sr,q⟩=>⟨sr,w.mono (λx q1 u1 H1 g1 s1 v1=>by
 cases v1 with
 | int i=>exact⟨_,rfl,q1 H1 g1 s1⟩
 | _=>exact q1.elim) q⟩⟩
variable{el eh:Option gl}{lo hi:W (Option Int)}
def Jb(hK:X.K=K)(he:wc X K fs e wl)(hl:OF X K fs el lo)(hh:OF X K fs eh hi):LF X K fs (.Subscript e (.Slice el eh be p2) pos) (.bind wl λl=>.bind lo λi=>.bind hi λj=>.ret (nL l i j)):=⟨PE.imp (rq (qL K hK) he.p hl.p hh.p) λσ H Q ⟨sr,q⟩=>⟨sr,wl.mono (λl q1 u1 H1 g1 s1 _ v1=>⟨s1,lo.mono (λi q2 H2 g2 s2=>⟨s2,hi.mono (λj q3 H3 g3 s3=>by
 obtain⟨a,vs,rfl,h1,r1⟩:=v1 H3 (g2.trans g3) s3;exact⟨a,vs,rfl,h1,rX ((g1.trans g2).trans g3) s3 (r1.cut i j) q3⟩) q2⟩) q1⟩) q⟩⟩
def gP(h:wc X K fs e wl){neg:Bool}:∀σ H Q,fE K fs (.bind wl λl=>.ret (.bl (if neg then !l.isEmpty else l.isEmpty))) σ H Q->zh (λx y H Q=>∃p q xs,x=.ref p/\y=.ref q/\bO K H p xs/\bO K H q []/\Q (.bl (if neg then !xs.isEmpty else xs.isEmpty)) H) (Lv K fs wl) (fL K fs (.ret [])) σ H Q:=λσ H Q ⟨sr,q⟩=>
 ⟨sr,wl.mono (λl q1 u1 H1 g1 s1 _ v1=>⟨s1,λa2 OG H2 g2 s2 n2 e2 r2=>by
  cases r2;obtain⟨a,vs,rfl,h1,r1⟩:=v1 H2 g2 s2;refine⟨a,a2,vs,rfl,rfl,h1,bO.of e2,?_⟩;rw[tq r1];exact q1 _ H2 (g1.trans g2) s2 (.bl _)⟩) q⟩
def wJ:LF X K fs (.List [] pos) (.ret []):=wL (n:=0) aw
theorem Lz(hK:X.K=K)(hu:X.A.units+200 < cLine)(h:wc X K fs e wl)(hk:nn .Eq (.List [] p2)=false:=by rfl):EF X K fs (.Compare e [.Eq] [.List [] p2] pos) (.bind wl λl=>.ret (.bl l.isEmpty)):=⟨PE.imp (hE (mY K hK ∅) h.p wJ.p hk) (gP (neg:=false) h)⟩
theorem zZ(hK:X.K=K)(hu:X.A.units+200 < cLine)(h:wc X K fs e wl)(hk:nn .NotEq (.List [] p2)=false:=by rfl):TF X K fs (.Compare e [.NotEq] [.List [] p2] pos) (.bind wl λl=>.ret (!l.isEmpty)):=⟨PT.imp (eJ (mX K hK ∅) h.p wJ.p hk) λσ H Q q=>gP (neg:=true) h σ H _ (FZ σ H Q q)⟩
end
end
end FL
variable{k2 kt:Nat}{tY:B7}
namespace FL
section
variable[bj]
variable{K:Aa}
abbrev b2(m:M2)(wa wb:W PV):W PV:=.bind wa λx=>.bind wb λy=>of2 m x y
abbrev t2(m:M2)(wa wb:W PV):W Bool:=.bind wa λx=>.bind wb λy=>.bind (of2 m x y) HD
abbrev c1(m:mF)(w:W PV):W PV:=.bind w λx=>m6 m [x]
abbrev fj(wl:W (O PV))(wb:W PV):W PV:=.bind wl λl=>.bind wb λy=>Ji l y
abbrev HV(a b:W Bool):W Bool:=.bind a λk=>if k=true then .ret true else b
abbrev qF(a:W Bool):W Bool:=.bind a λk=>.ret (!k)
abbrev dA{α:Type}(t:W Bool)(a b:W α):W α:=.bind t λk=>if k=true then a else b
section
variable{a:gl}{rest:O lm}{p:Pos}{S T:Type}{hd:S->aX}{s0:S}{w:W PV}{k:S->W T}{out:T->End}{x:Bool}
def SF.sT{f:PV->S->W S}(hp:wS (em X.prog X.w) X.A X.env X.xe)(hc:X.calm=true)(hi:tT X K fs tg iter wl)(hl:dI fs (hd s0))(hg:PG X tg (fR i))(hb:∀s p,SF X K false ((hd s).set i (al (.val p))) body (f p s) λs'=>.nc (hd s'))(hr:∀s,SF X K x (hd s) rest (k s) out)(hs:uf X iter:=by intro _;rfl) :
  SF X K x fs (.For tg iter body [] pos::rest) (.bind wl λl=>.bind (dD l s0 f) k) out:=SF.for hp hc hi hl (λs=>JR hg) (λ_ _=>rfl) hb hr hs
def SF.wU{inj:R->T}{f:PV->S->W (Lp S R)}(hp:wS (em X.prog X.w) X.A X.env X.xe)(hc:X.calm=true)(hi:tT X K fs tg iter wl)(hl:dI fs (hd s0))(hg:PG X tg (fR i))(ho:∀t,(out (inj t)).sF)(hb:∀s p,SF X K false ((hd s).set i (al (.val p))) body (f p s) (IV hd λr=>out (inj r)))(hr:∀s,SF X K x (hd s) rest (k s) out)(hs:uf X iter:=by intro _;rfl) :
  SF X K x fs (.For tg iter body [] pos::rest) (.bind wl λl=>.bind (FL.fU l s0 f) (ub k inj)) out:=SF.fU hp hc hi hl (λs=>JR hg) (λ_ _=>rfl) ho hb hr hs
def SF.par{k:PV->PV->W T}(hc:X.calm=true)(hN:X.N.Nodup)(hi:X.N[i]?=al y)(hj:X.N[j]?=al z)(zv:i≠j)(hx:X.env.scope.names.lookup y=al .local)(hy:X.env.scope.names.lookup z=al .local)
  (ha:EF X K fs a wa) (hb:EF X K fs b wb) (hr:∀u v,SF X K x ((fs.set i (al (.val u))).set j (al (.val v))) rest (k u v) out)
  (hw:up [.Tuple [.Name y px,.Name z py] kt pt] (.Tuple [a,b] k2 tY) X.env=pure (al [y,z]):=by rfl) (hs:tz [.Tuple [.Name y px,.Name z py] kt pt] (.Tuple [a,b] k2 tY) pos.line X.env=pure false:=by rfl)
  (he:f8 [a,b] X.env=(false,ii a X.env)::f8 [b] X.env:=by rfl) (yF:c6 X b []:=by rfl) :
  SF X K x fs (.Assign [.Tuple [.Name y px,.Name z py] kt pt] (.Tuple [a,b] k2 tY) pos::rest) (.bind wa λu=>.bind wb λv=>k u v) out:=
 SF.step (rf hc hN hi hj zv hx hy (ae ha.p (ae hb.p az yF) he) hw hs) λD σ H ⟨sr,q⟩=>⟨sr,wa.mono (λu q1 u1 H1 g1 s1 v1=>⟨s1,wb.mono (λv q2 u2 H2 g2 s2 v2=>by
  have s3:=s2.dP (g2.vr s1 v1) i;have s4:=s3.dP v2 j;exact⟨_,_,rfl,_,k u v,hr u v,s4,(k u v).mono (λt q3=>q3.go (((g1.trans g2).f.trans (bA.dP s2 _ _ i)).trans (bA.dP s3 _ _ j)) sr s4) q2⟩) q1⟩) q⟩
end
end
end FL
variable{G:O Int->Prop}
namespace FL
section
variable[bj]
variable{K:Aa}
def Ey(K:Aa)(m:O PV->O PV->W (PV×O PV)):Sp:=λvs H Q _=>TB H/\∃a uq ws lo l,vs=.ref a::uq/\H a=al (.lst ws)/\ay K [] H ws lo/\ay K [] H uq l/\(m lo l).run λt=>∀u kX H',(∀c o,c≠a->H c=al o->o.nt=true->H' c=al o)->TB H'->(∀b,H' b=be->H b=be)->H' a=al (.lst kX)->ay K [] H' kX t.2->VR K [] H' u t.1->Q u H'
section
variable{x:Str}{st:lm}{N:O Str}
def tP(a:ce)(lo l:O PV)(n:Nat):aX:=al (.ol (al a) lo)::(l.map λv=>al (SL.val v))++AI (n-1-l.length) be
def ay.slot(r:ay K [] H vs l){s:SL}(h:(l.map λv=>al (SL.val v))[i]?=al (al s)):∃u v,vs[i]?=al u/\s=.val v/\VR K [] H u v:=by
 rw[Ao]at h;cases e:l[i]? with
 | none=>rw[e]at h;cases h
 | some v=>
  rw[e]at h;obtain⟨u,h1,h2⟩:=r.get e;cases h;exact⟨u,v,h1,rfl,h2⟩
theorem NY{m:O PV->mG (PV×O PV) n}(Fn:Fun K x qual st f fd)(S:br N ps (af st))(hn:n+1=ps.length)
  (Å:∀(a:ce) (lo l:O PV),l.length=n->∀(bh:bn) (A:re) (outer:O Env) (s:ci) (H:Hp) (E:XK),aZ k (A.deeper (sB qual (af st) s.heap.objs.size f bh))->SF (gZ dS P w K mg base N qual (af st) f bh A outer s H E).rS K false (tP a lo l N.length) (aH st) (fh n (m lo) l) λt=>.ro t.1 a t.2) :
  bf P w K mg base dS (k+1) f fd ps (Ey K λlo l=>fh n (m lo) l):=by
 refine Fn.ok S (λvs H Q E h=>?_) (λbh A outer s H vs Q E hr h=>?_)
 ·obtain⟨_,a,uq,ws,lo,l,rfl,_,_,r,q⟩:=h;rw[Ar,r.length,dm q];exact hn
 obtain⟨tb,a,uq,ws,lo,l,rfl,ha,oi,r,q⟩:=h;have OQ:=r.length;have vC:∀{i:Nat}{s:SL},(tP a lo l N.length)[i]?=al (al s)->(i=0/\s=.ol (al a) lo)\/∃j u v,i=j+1/\uq[j]?=al u/\s=.val v/\VR K [] H u v:=λ{i s} e=>by
  unfold tP at e;cases i with
  | zero=>simp at e;exact .inl ⟨rfl,e.symm⟩
  | succ j=>
   by_cases c:j < l.length
   ·rw[Ap (by simpa using c)]at e;obtain⟨u,v,h1,h2,h3⟩:=ay.slot r e;exact .inr ⟨j,u,v,rfl,h1,h2,h3⟩
   ·rw[Ak (by simpa using c),Bq]at e
    split at e <;> cases e
 have sr:aG K H (L2.start N (.ref a::uq)) (tP a lo l N.length):=by
  refine⟨?_,λi s e=>?_,λi j s t x y b e1 e2 o1 o2 q1 q2 _ _=>?_,tb⟩
  ·unfold L2.start tP;rw[Ad,Aq,BH,Ad,Ar,Ar,Aq,BH];omega
  ·rcases vC e with⟨rfl,rfl⟩ | ⟨j,u,v,rfl,h1,rfl,h3⟩
   ·exact⟨.ref a,eI rfl,.inr ⟨a,rfl,λb z=>Option.some.inj z,ws,ha,oi⟩⟩
   ·exact⟨u,eI (by simpa using h1),.inl ⟨v,rfl,h3⟩⟩
  ·rcases vC e1 with⟨rfl,rfl⟩ | ⟨j1,u,v,rfl,h1,rfl,h3⟩
   ·rcases vC e2 with⟨rfl,rfl⟩ | ⟨j1,u,v,rfl,h1,rfl,h3⟩
    ·rfl
    ·cases o2
   ·cases o1
 refine⟨_,(Å a lo l (dm q) bh A outer s H E hr).p,sr,(fh n (m lo) l).mono (λt q1 u σ' aK H' g s' ho rv=>?_) q⟩;obtain⟨i,e⟩:=ho;obtain⟨u',e',r'⟩:=s'.at' i _ e;rcases r' with⟨v,z,_⟩ | ⟨b,rfl,hb,kX,h1,h2⟩
 ·cases z
 have NL:=hb a rfl;subst NL;refine q1 u kX H' (λc o nc e=>(g.keep c o e λz=>?_).1) s'.tb g.there h1 h2 rv;obtain⟨j,t',x,z1,z2,z3,z4⟩:=z;rcases vC z1 with⟨rfl,rfl⟩ | ⟨j1,u,v,rfl,_,rfl,_⟩
 ·have:=jz z3;simp at this;rcases z4 with rfl | z4
  ·exact nc this.symm
  ·cases z4
 ·cases z2
def i9(G:O Int->Prop):O V->Prop:=λws=>∃ns:O Int,ws=ns.map V.int/\G ns
def xM{m:O PV->O PV->W (PV×O PV)}{mp:O PV->W PV}(F:bf P w K mg base dS k f fd ps (Ey K m))(hm:∀ns l Q,G ns->(mp l).run Q->(m (ns.map PV.int) l).run λt=>Q t.1/\∃ya:O Int,t.2=ya.map PV.int/\G ya) :
  bf P w K mg base dS k f fd ps (kS K (.p (i9 G)::AI n .v) mp):=F.imp λvs H Q E h=>by
 obtain⟨tb,l,ha,q⟩:=h;cases ha with
 | @p a φ ws vs ks l e r t=>
  obtain⟨ns,rfl,hG⟩:=r;have tv:∀{n:Nat}{vs:O V}{l:O PV},cZ K H vs (AI n .v) l->ay K [] H vs l:=by
   intro n
   induction n with
   | zero=>intro vs l h;cases h;exact .nil
   | succ n ih=>intro vs l h;cases h with | v r t=>exact .cons r (ih t)
  refine⟨tb,a,vs,ns.map V.int,ns.map PV.int,l,rfl,e,kj _ _ ns,tv t,(m _ _).mono (λt q1 u kX H' sx Ma Nd e' r' rv=>?_) (hm ns l _ hG q)⟩;obtain⟨q1,ya,et,NS⟩:=q1;rw[et]at r';have:=ki r';subst this;refine q1 u H' ⟨λb o eb nb nt=>sx b o (λz=>?_) eb nt,Ma,Nd,λb φ p=>?_⟩ rv
  ·subst z;exact nb _ ⟨0,rfl,rfl⟩
  ·obtain⟨i,e1,e2⟩:=p;cases i with
   | zero=>simp at e1 e2;subst e1;subst e2;exact⟨_,e',ya,rfl,NS⟩
   | succ i=>
    simp at e1;rw[Bq]at e1
    split at e1 <;> simp at e1
end
section
variable{xu:O lm}{T:Type}{w:W T}{out:T->End}{x:Bool}
def EN(G:O Int->Prop)(l:O PV)(w:W T):W T:=.eW (∃ns:O Int,l=ns.map PV.int/\G ns) w
def SF.gk(i:Nat)(hs:fs[i]?=al (al (.ol be l)))(hr:SF X K x (fs.set i (al (.gk (i9 G)))) xu w out):SF X K x fs xu (EN G l w) out:=⟨λU s σ H D I ⟨sr,q⟩=>by
 obtain⟨⟨ns,el,hG⟩,q⟩:=q;obtain⟨a,ws,e1,h1,r1⟩:=bW sr hs;subst el;have:=ki r1;subst this;obtain⟨s2,g2⟩:=iz (t':=.gk (i9 G)) sr hs rfl (by simp) e1 (λ_ _ _ z=>z:gh a H H) λtk=>⟨_,h1,ns,rfl,hG⟩;exact hr.p U s σ H D I ⟨s2,w.mono (λt q2=>q2.go g2 sr s2) q⟩⟩
end
end
end FL
variable{W':FL.W PL.PV}
namespace FL
section
variable[bj]
variable{K:Aa}
abbrev Gn(wa wb:W PV):W PV:=.bind wa λx=>vY x wb
abbrev JX(wl:W (O PV)):W PV:=.bind wl λl=>.ret (.cl l)
section
variable{p:Pos}{x:Str}{WL:W (O PV)}
def vO{m:O PV->W PV}(G:mz X.prog X.w X.K X.mg X.base x k ps (kS K ks m))(hr:aZ k' X.A)(hk:k<=k')(hg:Gl X x)(ha:AF X K fs (e::es) ks B)(hW:W'=B m)(ej:dU x:=by decide)
  (he:c6 X e es:=by rfl) (bH:eR X pos es:=by rfl):EF X K fs (.Call (.Name x p) (e::es) [] pos) W':=hW▸yW G hr hk hg ha ej he bH
def vh{m:O PV->W (O PV)}{B:(O PV->W (O PV))->W (O PV)}(G:mz X.prog X.w X.K X.mg X.base x k ps (pz K ks m))(hr:aZ k' X.A)(hk:k<=k')(hg:Gl X x)(ha:AF X K fs (e::es) ks B)(hW:WL=B m)(ej:dU x:=by decide)
  (he:c6 X e es:=by rfl) (bH:eR X pos es:=by rfl):LF X K fs (.Call (.Name x p) (e::es) [] pos) WL:=hW▸yn G hr hk hg ha ej he bH
def dG{x1}(h:AF X K fs es (AI n .v) B)(hW:W'=B λl=>.ret (.tup l))(hn:n<=1000:=by decide):EF X K fs (.Tuple es x1 pos) W':=hW▸F3 h hn
def bF{B:(O PV->W (O PV))->W (O PV)}(h:AF X K fs es (AI n .v) B)(hW:WL=B λl=>.ret l)(hn:n<=1000:=by decide):LF X K fs (.List es pos) WL:=hW▸wL h hn
variable{T2:Type}{wt:PV->W T2}{cK:T2->aX}{te:T2->W PV}
def su{f:PV->W PV}(hc:X.calm=true)(S:bL X.env.scope X.N sc N' ix)(hi:tT X K fs tg iter wl)(hg:∀cl C s2 H2 fp,PG (g8 X sc N' cl C s2 H2 fp) tg (fR i))(he:∀cl C s2 H2 fp t,EF (g8 X sc N' cl C s2 H2 fp) K ((cX ix fs).set i (al (.val t))) Í (f t))(h0:ix[i]?=al be)(hs:uf X iter:=by intro _;rfl) :
  LF X K fs (.ListComp Í [⟨tg,iter,[],0⟩] sc pos) (.bind wl λl=>gD l f):=
 have h1:(cX ix fs)[i]?=al be:=by unfold cX;rw[Ao,h0];rfl
 wK hc S hi (λcl C s2 H2 fp=>JR (hg cl C s2 H2 fp)) he (λ_=>rfl) (Ja h1) (λj hj=>by rw[AY]at hj;subst hj;exact h0) hs
def yk(hc:X.calm=true)(S:bL X.env.scope X.N sc N' ix)(hi:tT X K fs tg iter wl)(hg:∀cl C s2 H2 fp,GF (g8 X sc N' cl C s2 H2 fp) K (cX ix fs) tg is wt cK)(he:∀cl C s2 H2 fp t,EF (g8 X sc N' cl C s2 H2 fp) K (cK t) Í (te t))
  (hl:qr is (cX ix fs) cK/\∀t,dI (cK t) (cX ix fs)) (vz:∀j∈is,ix[j]?=al be) (hs:uf X iter:=by intro _;rfl) :
  LF X K fs (.ListComp Í [⟨tg,iter,[],0⟩] sc pos) (.bind wl λl=>gD l λp=>.bind (wt p) te):=wK hc S hi hg he (λ_=>rfl) hl vz hs
end
def wW(h:∀vs H Q E,¬sp vs H Q E):bf P w K mg base dS k f fd ps sp:=⟨λvs H Q E q=>(h _ _ _ _ q).elim,λA outer s H args us vs Q E _ _ _ _ q=>(h _ _ _ _ q).elim⟩
def qJ{m:mG PV n}(h:∀l Q,l.length=n->¬(fh n m l).run Q):∀vs H Q E,¬kS K ks (fh n m) vs H Q E:=λvs H Q E ⟨_,l,_,q⟩=>h l _ (dm q) q
theorem dn(hr:aZ k A):A.units+200 < cLine:=by have:=hr.un;omega
end
section
variable[bj]
variable{K:Aa}
mutual
def PV.dJ:PV->Bool
 | .tup l=>dg l
 | .cl l=>dg l
 | .ref _=>false
 | .ty _=>false
 | .dv _ _=>false
 | .ob _ _=>false
 | .hand=>false
 | _=>true
def dg:O PV->Bool
 | []=>true
 | x::l=>PV.dJ x&&dg l
end
mutual
def PV.dE:PV->Nat
 | .tup l=>cU l+1
 | .cl l=>cU l+1
 | _=>0
def cU:O PV->Nat
 | []=>0
 | x::l=>max (PV.dE x) (cU l)
end
mutual
def fW:PV->PV->Bool
 | .aL,.aL=>true
 | .bl a,.bl b=>a==b
 | .bl a,.int b=>(if a then 1 else 0)==b
 | .int a,.bl b=>a==(if b then 1 else 0)
 | .int a,.int b=>a==b
 | .str a,.str b=>a==b
 | .tup l,.tup m=>cD l m
 | .cl l,.cl m=>cD l m
 | _,_=>false
def cD:O PV->O PV->Bool
 | [],[]=>true
 | x::l,y::m=>fW x y&&cD l m
 | _,_=>false
end
theorem iV:∀{l:O PV}{j:Nat}{x:PV},dg l=true->l[j]?=al x->PV.dJ x=true
 | [],_,_,_,e=>by simp at e
 | y::l,0,x,h,e=>by
  simp at e;subst e;rw[dg,BQ]at h;exact h.1
 | y::l,j+1,x,h,e=>by
  rw[dg,BQ]at h;exact iV h.2 (by simpa using e)
theorem jG:∀{l:O PV}{j:Nat}{x:PV},l[j]?=al x->PV.dE x<=cU l
 | [],_,_,e=>by simp at e
 | y::l,0,x,e=>by
  simp at e;subst e;rw[cU];omega
 | y::l,j+1,x,e=>by
  have:=jG (by simpa using e);rw[cU];omega
mutual
theorem lW:∀(x:PV),PV.dJ x=true->fW x x=true
 | .aL,_=>by rw[fW]
 | .bl b,_=>by rw[fW];simp
 | .int i,_=>by rw[fW];simp
 | .str i,_=>by rw[fW];simp
 | .tup l,h=>by rw[fW];exact eK l (by rw[PV.dJ]at h;exact h)
 | .cl l,h=>by rw[fW];exact eK l (by rw[PV.dJ]at h;exact h)
 | .ref _,h=>by rw[PV.dJ]at h;cases h
 | .ty _,h=>by rw[PV.dJ]at h;cases h
 | .dv _ _,h=>by rw[PV.dJ]at h;cases h
 | .ob _ _,h=>by rw[PV.dJ]at h;cases h
 | .hand,h=>by rw[PV.dJ]at h;cases h
theorem eK:∀(l:O PV),dg l=true->cD l l=true
 | [],_=>by rw[cD]
 | x::l,h=>by
  rw[dg,BQ]at h;rw[cD,lW x h.1,eK l h.2];rfl
end
def tj(l m:O PV)(j:Nat):Bool:=match l[j]?,m[j]? with | some x,al y=>fW x y | _,_=>true
theorem fV:∀(l m:O PV),((BW (min l.length m.length)).all (tj l m)&&l.length==m.length)=cD l m
 | [],[]=>by rw[cD];rfl
 | [],_::_=>by
  rw[cD]
  ·simp
  ·intros;simp_all
  ·intros;simp_all
 | _::_,[]=>by
  rw[cD]
  ·simp
  ·intros;simp_all
  ·intros;simp_all
 | x::l,y::m=>by
  rw[cD,<- fV l m];have e:min (x::l).length (y::m).length=min l.length m.length+1:=by simp only[Ar];omega
  rw[e,List.range_succ_eq_map,List.all_cons,List.all_map];have e2:((x::l).length==(y::m).length)=(l.length==m.length):=by simp
  rw[e2,Bool.and_assoc];rfl
def sU{m:O PV}(h:l.length≠m.length):cD l m=false:=by
 rw[<- fV];have:(l.length==m.length)=false:=by simpa using h
 rw[this,C7]
section
variable{s:ci}
def lU(I:Inv X U σ H s){φ:gt->Prop}(h:tU X.K H a xs):H a≠al (.ext φ):=λe=>by
 rcases h with⟨o,h⟩ | ⟨o,_,_,h,_⟩
 ·rw[e]at h;cases h
 ·have:=(I.bs a o (I.mod.vm a o h)).2;rw[e]at this;cases this
mutual
theorem VR.fnI(I:Inv X U σ H s):∀{v:V}{x y:PV},VR X.K [] H v x->VR X.K [] H v y->x=y
 | _,_,_,.aL,h=>by cases h;rfl
 | _,_,_,.bl b,h=>by cases h;rfl
 | _,_,_,.int b,h=>by cases h;rfl
 | _,_,_,.str b,h=>by cases h;rfl
 | _,_,_,.ty b,h=>by cases h;rfl
 | _,_,_,.ref e,h=>by simp at e
 | _,_,_,.tup e r,h=>by
  cases h with
  | tup e' r'=>
   have ee:=I.gp (cf.of e) (cf.of e');subst ee;rw[ay.fnI I r r']
  | ref e=>simp at e
  | cl e' r'=>
   obtain⟨ak,_,⟨o,n,h1,h2,_⟩,_⟩:=I.list e'.sq;obtain⟨its',_,⟨o',dj,kT,_⟩,_⟩:=I.tuple (cf.of e);rw[h1]at dj;cases dj;rw[h2]at kT;simp at kT
  | dk e' _ _=>rw[e]at e';cases e'
  | dt e' _ _=>rw[e]at e';cases e'
  | ob e' _ _ _ _=>rw[e]at e';cases e'
  | hand e'=>obtain⟨_,_,_,e',_⟩:=e';rw[e]at e';cases e'
 | _,_,_,.ob e c na k r,h=>by
  cases h with
  | ob e' _ _ k' r'=>rw[e]at e';cases e';rw[k,k',ay.fnI I r r']
  | hand e'=>obtain⟨_,_,_,e',_⟩:=e';rw[e]at e';cases e'
  | dk e' _ _=>rw[e]at e';cases e'
  | dt e' _ _=>rw[e]at e';cases e'
  | ref e=>simp at e
  | tup e' _=>rw[e]at e';cases e'
  | cl e' r'=>
   obtain⟨ak,_,⟨o,n,h1,h2,_⟩,_⟩:=I.list e'.sq;obtain⟨_,_,_,_,dj,_⟩:=I.aP _ _ e;rw[h1]at dj;cases dj;simp at h2
 | _,_,_,.dk e k r,h=>by
  cases h with
  | dk e' k' r'=>rw[e]at e';cases e';rw[k,k',ay.fnI I r r']
  | dt e' _ _=>rw[e]at e';cases e'
  | ob e' _ _ _ _=>rw[e]at e';cases e'
  | hand e'=>obtain⟨_,_,_,e',_⟩:=e';rw[e]at e';cases e'
  | ref e=>simp at e
  | tup e' _=>rw[e]at e';cases e'
  | cl e' r'=>
   obtain⟨ak,_,⟨o,n,h1,h2,_⟩,_⟩:=I.list e'.sq;obtain⟨_,_,vs,_,o',_,_,dj,kT,_⟩:=tI I.aP (.inr ⟨_,e⟩);rw[h1]at dj;cases dj;have h3:=kT.1;rw[h2]at h3;simp at h3
 | _,_,_,.dt e k r,h=>by
  cases h with
  | dt e' k' r'=>rw[e]at e';cases e';rw[k,k',ay.fnI I r r']
  | ob e' _ _ _ _=>rw[e]at e';cases e'
  | hand e'=>obtain⟨_,_,_,e',_⟩:=e';rw[e]at e';cases e'
  | dk e' _ _=>rw[e]at e';cases e'
  | ref e=>simp at e
  | tup e' _=>rw[e]at e';cases e'
  | cl e' r'=>
   obtain⟨ak,_,⟨o,n,h1,h2,_⟩,_⟩:=I.list e'.sq;obtain⟨_,_,vs,_,o',_,_,dj,kT,_⟩:=tH I.aP (.inr ⟨_,e⟩);rw[h1]at dj;cases dj;have h3:=kT.1;rw[h2]at h3;simp at h3
 | _,_,_,.hand e,h=>by
  obtain⟨_,_,_,e,_⟩:=id e;cases h with
  | hand _=>rfl
  | ob e' _ _ _ _=>rw[e]at e';cases e'
  | dk e' _ _=>rw[e]at e';cases e'
  | dt e' _ _=>rw[e]at e';cases e'
  | ref e=>simp at e
  | tup e' _=>rw[e]at e';cases e'
  | cl e' r'=>exact absurd e (lU I e')
 | _,_,_,.cl e r,h=>by
  cases h with
  | hand e'=>obtain⟨_,_,_,e',_⟩:=e';exact absurd e' (lU I e)
  | ob e' _ _ _ _=>
   obtain⟨ak,_,⟨o,n,h1,h2,_⟩,_⟩:=I.list e.sq;obtain⟨_,_,_,_,dj,_⟩:=I.aP _ _ e';rw[h1]at dj;cases dj;simp at h2
  | dk e' _ _=>
   obtain⟨ak,_,⟨o,n,h1,h2,_⟩,_⟩:=I.list e.sq;obtain⟨_,_,vs,_,o',_,_,dj,kT,_⟩:=tI I.aP (.inr ⟨_,e'⟩);rw[h1]at dj;cases dj;have h3:=kT.1;rw[h2]at h3;simp at h3
  | dt e' _ _=>
   obtain⟨ak,_,⟨o,n,h1,h2,_⟩,_⟩:=I.list e.sq;obtain⟨_,_,vs,_,o',_,_,dj,kT,_⟩:=tH I.aP (.inr ⟨_,e'⟩);rw[h1]at dj;cases dj;have h3:=kT.1;rw[h2]at h3;simp at h3
  | cl e' r'=>
   obtain⟨ak,k,⟨o,n,h1,h2,h3,h4⟩,_⟩:=I.list e.sq;obtain⟨its',k',⟨o',n',dj,kT,vB,yH⟩,_⟩:=I.list e'.sq;rw[h1]at dj;cases dj;rw[h4]at yH;have:ak=its':=by injection yH with a b;simpa using a
   subst this;have ee:=Vals.inj k k';subst ee;rw[ay.fnI I r r']
  | ref e=>simp at e
  | tup e' r'=>
   obtain⟨ak,_,⟨o,n,h1,h2,_⟩,_⟩:=I.list e.sq;obtain⟨its',_,⟨o',dj,kT,_⟩,_⟩:=I.tuple (cf.of e');rw[h1]at dj;cases dj;rw[h2]at kT;simp at kT
theorem ay.fnI(I:Inv X U σ H s):∀{v:O V}{x y:O PV},ay X.K [] H v x->ay X.K [] H v y->x=y
 | _,_,_,.nil,h=>by cases h;rfl
 | _,_,_,.cons r t,h=>by
  cases h with
  | cons r' t'=>rw[VR.fnI I r r',ay.fnI I t t']
end
structure OC(A:re)(s:ci)(w w':bn)(b:Bool):Prop where
 rc:SeqAt.RcAt A s w w' b
 ne:SeqAt.RcNeAt A s w w' (!b)
 eq:Dv A s w w' b
def F2(I:Inv X U σ H s){ws:O V}{m:O PV}(r:Vals vs ak)(r':Vals ws its')(r1:ay X.K [] H vs l)(r2:ay X.K [] H ws m)
  (ih:∀(j:Nat) (x y:PV) (v v':V) (w w':bn),l[j]?=al x->m[j]?=al y->VR X.K [] H v x->VR X.K [] H v' y->RelV v w->RelV v' w'->Dv A s w w' (fW x y)) :
  ∀j (g1:j < ak.toArray.size) (g2:j < its'.toArray.size),Dv A s ak.toArray[j] its'.toArray[j] (tj l m j):=λj g1 g2=>by
 have h1:j < ak.length:=by simpa using g1
 have h2:j < its'.length:=by simpa using g2
 have hl:j < l.length:=by rw[<- r1.length,r.length];exact h1
 have hm:j < m.length:=by rw[<- r2.length,r'.length];exact h2
 obtain⟨v,v1,v2⟩:=r1.get (Ai hl);obtain⟨v',HS,zg⟩:=r2.get (Ai hm);obtain⟨u,u1,u2⟩:=r.get v1;obtain⟨u',KH,L8⟩:=r'.get HS;rw[Ai h1]at u1;rw[Ai h2]at KH;cases u1;cases KH;unfold tj;rw[Ai hl,Ai hm];have:=ih j _ _ v v' _ _ (Ai hl) (Ai hm) v2 zg u2 L8;simpa using this
inductive Sh(X:Cx)(H:Hp)(s:ci):PV->bn->Prop
 | aL:Sh X H s .aL .none
 | bl (b:Bool):Sh X H s (.bl b) (.bool b)
 | int (i:Int) (t:Tok):Sh X H s (.int i) (.int i t)
 | str (x:Str) (t:Tok):Sh X H s (.str x) (.str x t)
 | tup {p:ce}{vs:List V}{ak:List bn}{l:List PV} (e:VR X.K [] H (.ref p) (.tup l)) (k:Vals vs ak) (r:ay X.K [] H vs l) (h:s.heap.IsTuple p ak.toArray):Sh X H s (.tup l) (.ref p)
 | cl {p:ce}{vs:List V}{ak:List bn}{l:List PV} (e:VR X.K [] H (.ref p) (.cl l)) (k:Vals vs ak) (r:ay X.K [] H vs l) (h:s.heap.IsList p ak.toArray):Sh X H s (.cl l) (.ref p)
def Sh.of(I:Inv X U σ H s){v:V}{x:PV}{w:bn}(h:VR X.K [] H v x)(r:RelV v w)(d:PV.dJ x=true):Sh X H s x w:=by
 cases h with
 | ref e=>simp at e
 | aL=>cases r;exact .aL
 | bl a=>cases r;exact .bl a
 | int a=>obtain⟨t,rfl⟩:=r;exact .int a t
 | str a=>obtain⟨t,rfl⟩:=r;exact .str a t
 | tup e q=>
  cases r;obtain⟨ak,k,ht,_⟩:=I.tuple (cf.of e);exact .tup (.tup e q) k q ht
 | cl e q=>
  cases r;obtain⟨ak,k,pl,_⟩:=I.list e.sq;exact .cl (.cl e q) k q pl.isList
 | _=>rw[PV.dJ]at d;cases d
set_option maxHeartbeats 8000000 in
theorem Gd(hK:X.K=K)(I:Inv X U σ H s):∀(n:Nat) (x y:PV) (A:re) (v v':V) (w w':bn),PV.dE x<=n->PV.dJ x=true->PV.dJ y=true->VR K [] H v x->VR K [] H v' y->RelV v w->RelV v' w'->A.units+n+1 < cLine->OC A s w w' (fW x y):=by
 subst hK;intro n
 induction n using Nat.strongRecOn with
 | ind n ih=>
 intro x y A v v' w w' hd dx dy hv GV r1 r2 hu;have a:=Sh.of I hv r1 dx;have b:=Sh.of I GV r2 dy;clear hv GV r1 r2;have el:∀{l m:O PV}{vs ws:O V}{ak bt:O bn},dg l=true->dg m=true->cU l < n->Vals vs ak->Vals ws bt->ay X.K [] H vs l->ay X.K [] H ws m->ak.toArray.size=l.length/\bt.toArray.size=m.length/\∀j g1 (g2:j < bt.toArray.size),Dv A.in1 s ak.toArray[j] bt.toArray[j] (tj l m j):=λd1 d2 hd k1 k2 r r'=>⟨by rw[Af,<- k1.length,r.length],by rw[Af,<- k2.length,r'.length],F2 I k1 k2 r r' λj x y v v' w w' hx hy vx vy rx ry=>(ih _ hd x y A.in1 v v' w w' (jG hx) (iV d1 hx) (iV d2 hy) vx vy rx ry (by show A.units+1+_+1 < _;omega)).eq⟩;have fin:∀{pa pb:ce}{l m:O PV},(pa=pb->l=m)->dg l=true->SeqAt.RcAt A s (.ref pa) (.ref pb) (cD l m)->Dv A s (.ref pa) (.ref pb) (cD l m):=λ{pa pb l m} h d q=>by
  by_cases FJ:pa=pb
  ·rw[h FJ,eK _ (h FJ▸d),FJ];exact Dv.same _
  ·exact Dv.of_refs FJ q
 cases a <;> cases b
 case tup.tup pa vs ak l e k r ht pb ws bt m e2 k2 r2 lO=>
  rw[PV.dE]at hd;obtain⟨z1,z2,ie⟩:=el dx dy ∅ k k2 r r2;have q1:=SeqAt.RcAt.tuples ht lO ∅ ie;have q2:=SeqAt.RcNeAt.tuples ht lO (A:=A) ∅ ie;rw[z1,z2,fV]at q1 q2;exact⟨q1,q2,fin (λz=>by subst z;have:=VR.fnI I e e2;injection this) dx q1⟩
 case cl.cl pa vs ak l e k r ht pb ws bt m e2 k2 r2 lO=>
  rw[PV.dE]at hd;obtain⟨z1,z2,ie⟩:=el dx dy ∅ k k2 r r2;by_cases hz:l.length=m.length
  ·have q1:=Ee ht lO (by rw[z1,z2];exact hz) (A:=A) ∅ ie;have q2:=D6 ht lO (by rw[z1,z2];exact hz) (A:=A) ∅ ie;have ef:(BW l.length).all (tj l m)=cD l m:=by rw[<- fV,hz,Nat.min_self,beq_self_eq_true,Bool.and_true]
   rw[z1,ef]at q1 q2;exact⟨q1,q2,fin (λz=>by subst z;have:=VR.fnI I e e2;injection this) dx q1⟩
  ·have q1:=Dj (A:=A) ht lO (by rw[z1,z2];simpa using hz) ∅;have q2:=C1 (A:=A) ht lO (by rw[z1,z2];simpa using hz) ∅;have ef:=sU hz;rw[<- ef]at q1;have q2:SeqAt.RcNeAt A s (.ref pa) (.ref pb) (!cD l m):=by rw[ef];exact q2
   exact⟨q1,q2,fin (λz=>by subst z;have:=VR.fnI I e e2;injection this) dx q1⟩
 all_goals
  clear ih el fin;rw[fW] <;> try (intros;simp_all;done)
  refine⟨?_,?_,?_⟩ <;> (try simp) <;> first | with_reducible exact .none_none | with_reducible exact .none_bool _ | with_reducible exact .none_int _ _ | with_reducible exact .none_str _ _ | with_reducible exact .none_tuple ‹_› ∅ | with_reducible exact .none_list ‹_› ∅ | with_reducible exact .bool_none _ | with_reducible exact .bool_str _ _ _ | with_reducible exact .bool_tuple _ ‹_› ∅ | with_reducible exact .bool_list _ ‹_› ∅ | with_reducible exact .int_none _ _ | with_reducible exact .int_str _ _ _ _ | with_reducible exact .int_tuple _ _ ‹_› ∅ | with_reducible exact .int_list _ _ ‹_› ∅ | with_reducible exact .str_none _ _ | with_reducible exact .str_bool _ _ _ | with_reducible exact .str_int _ _ _ _ | with_reducible exact .str_tuple _ _ ‹_› ∅ | with_reducible exact .str_list _ _ ‹_› ∅ | with_reducible exact .tuple_none ‹_› ∅ | with_reducible exact .tuple_bool _ ‹_› ∅ | with_reducible exact .tuple_int _ _ ‹_› ∅ | with_reducible exact .tuple_str _ _ ‹_› ∅ | with_reducible exact .tuple_list ‹_› ‹_› ∅ | with_reducible exact .list_none ‹_› ∅ | with_reducible exact .list_bool _ ‹_› ∅ | with_reducible exact .list_int _ _ ‹_› ∅ | with_reducible exact .list_str _ _ ‹_› ∅ | with_reducible exact .list_tuple ‹_› ‹_› ∅ | exact .same _ | exact .bool_bool _ _ | exact .bool_int _ _ _ | exact .int_bool _ _ _ | exact .int_int _ _ _ _ | exact .str_str _ _ _ _
end
end
section
variable[bj]
variable{K:Aa}
mutual
theorem VR.fJ{ι:O ce}{H:Hp}:∀{v:V}{q:PV},VR K ι H v q->PV.dJ q=true->VR K [] H v q
 | _,_,.aL,_=>.aL
 | _,_,.bl b,_=>.bl b
 | _,_,.int i,_=>.int i
 | _,_,.str x,_=>.str x
 | _,_,.ty n,h=>by rw[PV.dJ]at h;cases h
 | _,_,.dk _ _ _,h=>by rw[PV.dJ]at h;cases h
 | _,_,.dt _ _ _,h=>by rw[PV.dJ]at h;cases h
 | _,_,.ob _ _ _ _ _,h=>by rw[PV.dJ]at h;cases h
 | _,_,.hand _,h=>by rw[PV.dJ]at h;cases h
 | _,_,.tup e r,h=>.tup e (ay.fJ r (by rw[PV.dJ]at h;exact h))
 | _,_,.cl e r,h=>.cl e (ay.fJ r (by rw[PV.dJ]at h;exact h))
 | _,_,.ref e,h=>by rw[PV.dJ]at h;cases h
theorem ay.fJ{ι:O ce}{H:Hp}:∀{v:O V}{q:O PV},ay K ι H v q->dg q=true->ay K [] H v q
 | _,_,.nil,_=>.nil
 | _,_,.cons r s,h=>by
  rw[dg,BQ]at h;exact .cons (VR.fJ r h.1) (ay.fJ s h.2)
end
def qb(x y:PV):Prop:=PV.dJ x=true/\PV.dJ y=true/\PV.dE x<=150
def gB:M2:=⟨λx y h Q=>qb x y/\Q (.bl (fW x y)) h,λf q=>⟨q.1,f _ _ q.2⟩⟩
def j9:M2:=⟨λx y h Q=>qb x y/\Q (.bl (!fW x y)) h,λf q=>⟨q.1,f _ _ q.2⟩⟩
def uI(K:Aa)(neg:Bool):R2:=λu v H Q=>∃x y,VR K [] H u x/\VR K [] H v y/\qb x y/\Q (.bl (if neg then !fW x y else fW x y)) H
section
theorem xU(hK:X.K=K)(hu:X.A.units+200 < cLine):dN X (li .Eq) (uI K false):=λU s σ H u v w w' Q I r1 r2 ⟨x,y,h1,h2,⟨o1,o2,o3⟩,q⟩=>by
 exact DG (Gd hK I 150 x y X.A u v w w' o3 o1 o2 h1 h2 r1 r2 ∅).rc ⟨.bl _,H,I,rfl,q⟩
theorem xS(hK:X.K=K)(hu:X.A.units+200 < cLine):dN X (li .NotEq) (uI K true):=λU s σ H u v w w' Q I r1 r2 ⟨x,y,h1,h2,⟨o1,o2,o3⟩,q⟩=>by
 exact Df (Gd hK I 150 x y X.A u v w w' o3 o1 o2 h1 h2 r1 r2 ∅).ne ⟨.bl _,H,I,rfl,q⟩
def u7:M2.Ok K (uI K false) gB:=λ{ι H h u v x y Q} hr hu hv q=>⟨x,y,VR.fJ hu q.1.1,VR.fJ hv q.1.2.1,q.1,q.2 ι _ H (Go.refl _ _) hr (.bl _)⟩
def uX:M2.Ok K (uI K true) j9:=λ{ι H h u v x y Q} hr hu hv q=>⟨x,y,VR.fJ hu q.1.1,VR.fJ hv q.1.2.1,q.1,q.2 ι _ H (Go.refl _ _) hr (.bl _)⟩
def lL(hK:X.K=K)(hu:X.A.units+200 < cLine):JC X K .Eq b gB:=⟨⟨_,xU hK hu,u7⟩,cW _⟩
def sC(hK:X.K=K)(hu:X.A.units+200 < cLine):JC X K .NotEq b j9:=⟨⟨_,xS hK hu,uX⟩,cW _⟩
end
end
end FL
variable{xs ys:Array A6}{b b1:Bool}{t z i1 i2 a1 a2:AR}{k1 kk:Nat}{Ø:O BM}{tp:B7}
namespace L2
def i8(b:Bool)(h:gt)(it a:ce)(k:Nat):Prop:=match b with
 | true=>h.IsListIter it a k
 | false=>h.IsTupleIter it a k
def cY(b:Bool)(h:gt)(a:ce)(xs:Array bn):Prop:=match b with
 | true=>h.IsList a xs
 | false=>h.IsTuple a xs
def i8.move(x:i8 b h it a k)(g:∀o,h.get? it=al o->h'.get? it=al o):i8 b h' it a k:=by
 cases b with
 | true=>obtain⟨o,e,p⟩:=(x);exact(⟨o,g o e,p⟩)
 | false=>obtain⟨o,e,p⟩:=(x);exact(⟨o,g o e,p⟩)
def cY.move(x:cY b h a xs)(g:∀o,h.get? a=al o->h'.get? a=al o):cY b h' a xs:=by
 cases b with
 | true=>obtain⟨o,e,p⟩:=(x);exact(⟨o,g o e,p⟩)
 | false=>obtain⟨o,e,p⟩:=(x);exact(⟨o,g o e,p⟩)
def i8.obj(x:i8 b h it a k):∃o,h.get? it=al o/\∀v,o.data≠.cell v:=by
 cases b with
 | true=>obtain⟨o,e,_,d⟩:=(x);exact⟨o,e,λv z=>by rw[d]at z;cases z⟩
 | false=>obtain⟨o,e,_,d⟩:=(x);exact⟨o,e,λv z=>by rw[d]at z;cases z⟩
def cY.lt(x:cY b h a xs):a < h.objs.size:=by
 cases b with
 | true=>obtain⟨o,e,p⟩:=(x);exact Al e
 | false=>obtain⟨o,e,p⟩:=(x);exact Al e
section
variable{s:ci}
def d9{x:bn}(h:i8 b s.heap it t i)(ht:cY b s.heap t items)(hx:items[i]?=al x)
  (q:∀h':gt,i8 b h' it t (i+1)->B6 it s.heap h'->Q x {s with heap:=h'}):db (em prog w) A (Builtin.SmallTypes.nextOf (.ref it)) Q E s:=by
 cases b with
 | true=>exact wpAny_nextOf_list_item h ht hx λh' a b=>q h' a b
 | false=>exact fK h ht hx q
def iD(hA:A.handled=be)(h:i8 b s.heap it t i)(ht:cY b s.heap t items)(hx:items[i]?=be)
  (q:∀(h':gt) (e:ce),Heap.ExtBut it s.heap h'->(∃o,h'.get? e=al o/\o.cls=.type "StopIteration")->E (.ref e) {s with heap:=h'}):db (em prog w) A (Builtin.SmallTypes.nextOf (.ref it)) Q E s:=by
 cases b with
 | true=>exact wpAny_nextOf_list_end hA h ht hx λh' e a b=>q h' e a b
 | false=>exact gC hA h ht hx q
def pV:Bool->String
 | true=>"list_iterator"
 | false=>"tuple_iterator"
def jB(h:cY b s.heap a xs)(q:Q (.ref s.heap.objs.size) {s with heap:=s.heap.push {cls:=.type (pV b),data:=.fields #[.ref a,.int 0 0]}}):db (em prog w) A (pyIter (.ref a)) Q E s:=by
 cases b with
 | true=>exact Dg h q
 | false=>exact wpAny_pyIter_tuple h q
def oe(e:h.get? it=al {cls:=.type (pV b),data:=.fields #[.ref a,.int 0 0]}):i8 b h it a 0:=by
 cases b with
 | true=>exact(⟨_,e,rfl,rfl⟩)
 | false=>exact(⟨_,e,rfl,rfl⟩)
end
structure dH(b1 b2:Bool)(h:gt)(z TI TO i1 i2 a1 a2:ce)(f0:bn)(k1 k2:Nat):Prop where
 zip:IsZip h z TI TO f0
 ti:IsPair h TI (.ref i1) (.ref i2)
 to:∃a b,IsPair h TO a b
 GS:i8 b1 h i1 a1 k1
 GR:i8 b2 h i2 a2 k2
def ib{E:bn->ci->Prop}{s:ci}{b2:Bool}{TI TO:ce}{x y:bn}(hA:ZipApart z TI TO i1 i2 a1 a2)
  (hz:dH b1 b2 s.heap z TI TO i1 i2 a1 a2 .none k1 k2) (wQ:cY b1 s.heap a1 xs) (lO:cY b2 s.heap a2 ys) (hx:xs[k1]?=al x) (hy:ys[k2]?=al y)
  (q:∀h':gt,dH b1 b2 h' z TI TO i1 i2 a1 a2 (im s.heap.objs.size) (k1+1) (k2+1)->IsPair h' s.heap.objs.size x y->(∀c o,c≠z->c≠TO->c≠i1->c≠i2->s.heap.get? c=al o->h'.get? c=al o)->Q (.ref s.heap.objs.size) {s with heap:=h'}) :
  db (em prog w) A (Builtin.«zip.__next__» {pos:=[.ref z]}) (λfin s'=>∃v,fin=Fin.done (Flow.ret v)/\Q v s') E s:=by
 obtain⟨hz,GW,⟨ta,tb,Jp⟩,tZ,vA⟩:=hz;show db _ _ (field (.ref z) 2 >>= λr=>_) _ _ s;refine Ab (A7 hz rfl rfl ?_);refine Ab (A7 hz rfl rfl ?_);refine Ab (Be GW rfl ?_);refine Ab ?_;refine Ab (A7 hz rfl rfl ?_);refine Am ?_;refine Ab (C5 ?_);refine Ab (A7 hz rfl rfl ?_);refine Ab (BF hz (show 0 < 5 by decide) λh1 z1 b1=>?_);show db _ _ ((forIn [(Aw i1,0),(Aw i2,1)] _ _) >>= λr=>_) _ _ _;refine Ab ?_;rw[BX];have jm:=b1.2;refine Ab ?_;refine Ab (Dl ?_);refine Ab (d9 (tZ.move λo e=>(jm _ hA.i1z).trans e) (wQ.move λo e=>(jm _ hA.l1z).trans e) hx λh2 j2 b2=>Am ?_);have sN:∀b,b≠z->b≠i1->h2.get? b=s.heap.get? b:=λb n1 n2=>(b2.2 b n2).trans (jm b n1);have Ú:=(sN _ hA.TOz hA.TOi1).trans Jp;refine Ab (Be Ú rfl ?_);refine Ab (CG Ú λh3 t3 b3=>?_);have Ì:∀b,b≠z->b≠i1->b≠TO->h3.get? b=s.heap.get? b:=λb n1 n2 n3=>(b3.2 b n3).trans (sN b n1 n2);refine Ab (Dh (Am ?_));show db _ _ (forIn [(Aw i2,1)] _ _) _ _ _;rw[BX];refine Ab ?_;refine Ab (Dl ?_);refine Ab (d9 (vA.move λo e=>(Ì _ hA.i2z hA.i12.symm hA.TOi2.symm).trans e) (lO.move λo e=>(Ì _ hA.l2z hA.l2i1 hA.l2TO).trans e) hy λh4 j4 b4=>Am ?_);have KN:=(b4.2 _ hA.TOi2).trans t3;refine Ab (Be KN rfl ?_);refine Ab (CG KN λh5 t5 b5=>?_);have KL:=t5;refine Ab (Dh (Am ?_));refine Am ?_;refine Ab (Be KL rfl ?_);have Il:=b5.1.trans (b4.1.trans (b3.1.trans (b2.1.trans b1.1)));refine Ab (C6 ?_ (by show 2<=sizeLine;decide));have FO:∀b,b≠z->b≠i1->b≠TO->b≠i2->h5.get? b=s.heap.get? b:=λb n1 n2 n3 n4=>(b5.2 b n3).trans ((b4.2 b n4).trans (Ì b n1 n2 n3));have kp:∀b o,h5.get? b=al o->(h5.push {cls:=.type "tuple",data:=.seq #[x,y]}).get? b=al o:=λb o e=>Ae _ e;refine Ab ?_;refine Ab (BF (kp _ _ ((b5.2 _ hA.TOz.symm).trans ((b4.2 _ hA.i2z.symm).trans ((b3.2 _ hA.TOz.symm).trans ((b2.2 _ hA.i1z.symm).trans z1))))) (show 0 < 5 by decide) λh7 z7 b7=>?_);refine BF z7 (show 1 < 5 by decide) λh8 z8 b8=>?_;have p9:∀b,b≠z->h8.get? b=(h5.push {cls:=.type "tuple",data:=.seq #[x,y]}).get? b:=λb n=>(b8.2 b n).trans (b7.2 b n);have nz:s.heap.objs.size≠z:=λe=>by have:=Al hz;rw[<- e]at this;exact A4 _ this
 refine Am ⟨.ref h5.objs.size,rfl,?_⟩;rw[Il];refine q h8 ⟨?_,?_,?_,?_,?_⟩ ?_ ?_
 ·rw[<- Il];exact z8
 ·rw[IsPair,p9 _ hA.TIz];exact kp _ _ ((FO _ hA.TIz hA.TIi1 hA.TITO hA.TIi2).trans GW)
 ·exact⟨x,y,by rw[IsPair,p9 _ hA.TOz];exact kp _ _ KL⟩
 ·refine j2.move λo e=>?_;rw[p9 _ hA.i1z];exact kp _ _ ((b5.2 _ hA.TOi1.symm).trans ((b4.2 _ hA.i12).trans ((b3.2 _ hA.TOi1.symm).trans e)))
 ·refine j4.move λo e=>?_;rw[p9 _ hA.i2z];exact kp _ _ ((b5.2 _ hA.TOi2.symm).trans e)
 ·rw[IsPair,p9 _ nz,<- Il];exact(An _ rfl)
 ·intro c o n1 n2 n3 n4 e;rw[p9 _ n1];exact kp _ _ ((FO _ n1 n3 n2 n4).trans e)
def jb{s:ci}{b2:Bool}{TI TO:ce}{Q:PySem.Fin->ci->Prop}(hh:A.handled=be)(hA:ZipApart z TI TO i1 i2 a1 a2)
  (hz:dH b1 b2 s.heap z TI TO i1 i2 a1 a2 .none k1 k2) (wQ:cY b1 s.heap a1 xs) (lO:cY b2 s.heap a2 ys) (hx:xs[k1]?=be\/ys[k2]?=be)
  (q:∀(h':gt) (e:ce),(∀c o,c≠z->c≠TO->c≠i1->c≠i2->s.heap.get? c=al o->h'.get? c=al o)->(∃o,h'.get? e=al o/\o.cls=.type "StopIteration")->E (.ref e) {s with heap:=h'}) :
  db (em prog w) A (Builtin.«zip.__next__» {pos:=[.ref z]}) Q E s:=by
 obtain⟨hz,GW,⟨ta,tb,Jp⟩,tZ,vA⟩:=hz;show db _ _ (field (.ref z) 2 >>= λr=>_) _ _ s;refine Ab (A7 hz rfl rfl ?_);refine Ab (A7 hz rfl rfl ?_);refine Ab (Be GW rfl ?_);refine Ab ?_;refine Ab (A7 hz rfl rfl ?_);refine Am ?_;refine Ab (C5 ?_);refine Ab (A7 hz rfl rfl ?_);refine Ab (BF hz (show 0 < 5 by decide) λh1 z1 Ot=>?_);show db _ _ ((forIn [(Aw i1,0),(Aw i2,1)] _ _) >>= λr=>_) _ _ _;refine Ab ?_;have jm:=Ot.2;refine Ab ?_;refine Ab (Dl ?_);have fin:∀{h2:gt}{e:ce}{R:bn->ci->Prop},h2.get? z=al {cls:=.type "zip",data:=.fields #[.ellipsis,.bool false,.bool false,.ref TI,.ref TO]}->(∃o,h2.get? e=al o/\o.cls=.type "StopIteration")->(∀c o,c≠z->c≠TO->c≠i1->c≠i2->s.heap.get? c=al o->h2.get? c=al o)->db (em prog w) A (setField (.ref z) 0 .none) (λ_ s'=>E (.ref e) s') R {s with heap:=h2}:=λ{h2 e R} z2 ex k=>by
  refine BF z2 (show 0 < 5 by decide) λh3 z3 b3=>?_;refine q h3 e (λc o n1 n2 n3 n4 ec=>?_) ?_
  ·rw[b3.2 _ n1];exact k c o n1 n2 n3 n4 ec
  ·obtain⟨o,eo,hc⟩:=ex;by_cases he:e=z
   ·subst he;rw[z2]at eo;cases eo;exact absurd (show B1 "zip"=B1 "StopIteration" from hc) ⋯
   ·exact⟨o,(b3.2 _ he).trans eo,hc⟩
 cases Jn:xs[k1]? with
 | none=>
  exact Ab (iD hh (tZ.move λo e=>(jm _ hA.i1z).trans e) (wQ.move λo e=>(jm _ hA.l1z).trans e) Jn λh2 e k ex=>fin (k _ _ hA.i1z.symm z1) ex λc o n1 n2 n3 n4 ec=>k _ _ n3 ((jm _ n1).trans ec))
 | some x=>
  have hy:ys[k2]?=be:=by
   rcases hx with h | h
   ·rw[Jn]at h;cases h
   ·exact h
  refine Ab (d9 (tZ.move λo e=>(jm _ hA.i1z).trans e) (wQ.move λo e=>(jm _ hA.l1z).trans e) Jn λh2 j2 LD=>Am ?_);have sN:∀b,b≠z->b≠i1->h2.get? b=s.heap.get? b:=λb n1 n2=>(LD.2 b n2).trans (jm b n1);have Ú:=(sN _ hA.TOz hA.TOi1).trans Jp;refine Ab (Be Ú rfl ?_);refine Ab (CG Ú λh3 t3 b3=>?_);have Ì:∀b,b≠z->b≠i1->b≠TO->h3.get? b=s.heap.get? b:=λb n1 n2 n3=>(b3.2 b n3).trans (sN b n1 n2);exact Ab (Dh (Am (Ab (Ab (Dl (Ab (iD hh (vA.move λo e=>(Ì _ hA.i2z hA.i12.symm hA.TOi2.symm).trans e) (lO.move λo e=>(Ì _ hA.l2z hA.l2i1 hA.l2TO).trans e) hy λh4 e k ex=>fin (k _ _ hA.i2z.symm ((b3.2 _ hA.TOz.symm).trans ((LD.2 _ hA.i1z.symm).trans z1))) ex λc o n1 n2 n3 n4 ec=>k _ _ n4 ((Ì _ n1 n3 n2).trans ec))))))))
def gr{s:ci}{b2:Bool}{TI TO:ce}{x y:bn}{Q:Option bn->ci->Prop}(hA:ZipApart z TI TO i1 i2 a1 a2)
  (hz:dH b1 b2 s.heap z TI TO i1 i2 a1 a2 .none k1 k2) (wQ:cY b1 s.heap a1 xs) (lO:cY b2 s.heap a2 ys) (hx:xs[k1]?=al x) (hy:ys[k2]?=al y)
  (q:∀h':gt,dH b1 b2 h' z TI TO i1 i2 a1 a2 (im s.heap.objs.size) (k1+1) (k2+1)->IsPair h' s.heap.objs.size x y->(∀c o,c≠z->c≠TO->c≠i1->c≠i2->s.heap.get? c=al o->h'.get? c=al o)->Q (al (.ref s.heap.objs.size)) {s with heap:=h'}) :
  db (em prog w) A (pyNext (.ref z)) Q E s:=by
 have ty:s.TypeIs (.ref z) "zip":=⟨_,hz.zip,rfl⟩;refine Ab (wpAny_attempt (Bp ty CJ (B8 CJ ty F.entry_zip_next ?_ (F.args_zip_next_1 _))));exact ib hA hz wQ lO hx hy λh' a b c=>Am (q h' a b c)
def gR{s:ci}{b2:Bool}{TI TO:ce}{Q:Option bn->ci->Prop}(hh:A.handled=be)(hA:ZipApart z TI TO i1 i2 a1 a2)
  (hz:dH b1 b2 s.heap z TI TO i1 i2 a1 a2 .none k1 k2) (wQ:cY b1 s.heap a1 xs) (lO:cY b2 s.heap a2 ys) (hx:xs[k1]?=be\/ys[k2]?=be)
  (q:∀h':gt,(∀c o,c≠z->c≠TO->c≠i1->c≠i2->s.heap.get? c=al o->h'.get? c=al o)->Q be {s with heap:=h'}) :
  db (em prog w) A (pyNext (.ref z)) Q E s:=by
 have ty:s.TypeIs (.ref z) "zip":=⟨_,hz.zip,rfl⟩;refine Ab (wpAny_attempt (Bp ty CJ (B8 CJ ty F.entry_zip_next ?_ (F.args_zip_next_1 _))));refine jb hh hA hz wQ lO hx λh' e k ex=>?_;obtain⟨o,eo,hc⟩:=ex;exact Ab (wpAny_isInstance ⟨o,eo,hc⟩ isSubtype_stop (Am (q h' k)))
def iE(b1 b2:Bool)(a1 a2:ce)(xs ys:Array bn):Meets (Builtin.«zip.__new__» {pos:=[.type "zip",.ref a1,.ref a2]}) (λ_ R s=>cY b1 s.heap a1 xs/\cY b2 s.heap a2 ys/\
  ∀h':gt,dH b1 b2 h' (s.heap.objs.size+4) (s.heap.objs.size+2) (s.heap.objs.size+3) s.heap.objs.size (s.heap.objs.size+1) a1 a2 .none 0 0->(∀b o,s.heap.get? b=al o->h'.get? b=al o)->R (.ok (.ret (.ref (s.heap.objs.size+4)))) {s with heap:=h'}):=
 .of_wp λprog w A R s h=>by
  obtain⟨h1,h2,q⟩:=h;refine Ab ?_;refine Ab (DT rfl ?_);refine Ab (DT sub_zip ?_);refine Am ?_;refine Ab ?_;refine Ab ?_;rw[BX];refine Ab ?_;refine Ab (Bk (jB h1 (Am ?_)));have k1:∀b o,s.heap.get? b=al o->(s.heap.push {cls:=.type (pV b1),data:=.fields #[.ref a1,.int 0 0]}).get? b=al o:=λb o e=>Ae _ e;have g1:(s.heap.push {cls:=.type (pV b1),data:=.fields #[.ref a1,.int 0 0]}).get? s.heap.objs.size=al {cls:=.type (pV b1),data:=.fields #[.ref a1,.int 0 0]}:=An _ rfl;have z1:(s.heap.push {cls:=.type (pV b1),data:=.fields #[.ref a1,.int 0 0]}).objs.size=s.heap.objs.size+1:=BO ..;generalize s.heap.push {cls:=.type (pV b1),data:=.fields #[.ref a1,.int 0 0]}=oI at k1 g1 z1 ⊢;show db _ _ (forIn [Aw a2] _ _) _ _ _;rw[BX];refine Ab ?_;refine Ab (Bk (jB (h2.move λo e=>k1 _ _ e) (Am ?_)));show db _ _ (forIn [] _ _) _ _ _;refine Am (Am ?_);have k2:∀b o,oI.get? b=al o->(oI.push {cls:=.type (pV b2),data:=.fields #[.ref a2,.int 0 0]}).get? b=al o:=λb o e=>Ae _ e;have g2:(oI.push {cls:=.type (pV b2),data:=.fields #[.ref a2,.int 0 0]}).get? oI.objs.size=al {cls:=.type (pV b2),data:=.fields #[.ref a2,.int 0 0]}:=An _ rfl;have z2:(oI.push {cls:=.type (pV b2),data:=.fields #[.ref a2,.int 0 0]}).objs.size=oI.objs.size+1:=BO ..;show db _ _ (newTuple [.ref s.heap.objs.size,.ref oI.objs.size] >>= λr=>_) _ _ {s with heap:=oI.push {cls:=.type (pV b2),data:=.fields #[.ref a2,.int 0 0]}};generalize oI.push {cls:=.type (pV b2),data:=.fields #[.ref a2,.int 0 0]}=oH at k2 g2 z2 ⊢;refine Ab (C6 ?_ (by show 2<=sizeLine;decide));have k3:∀b o,oH.get? b=al o->(oH.push {cls:=.type "tuple",data:=.seq [Aw s.heap.objs.size,Aw oI.objs.size].toArray}).get? b=al o:=λb o e=>Ae _ e;have g3:(oH.push {cls:=.type "tuple",data:=.seq [Aw s.heap.objs.size,Aw oI.objs.size].toArray}).get? oH.objs.size=al {cls:=.type "tuple",data:=.seq #[.ref s.heap.objs.size,.ref oI.objs.size]}:=An _ rfl;have z3:(oH.push {cls:=.type "tuple",data:=.seq [Aw s.heap.objs.size,Aw oI.objs.size].toArray}).objs.size=oH.objs.size+1:=BO ..;generalize oH.push {cls:=.type "tuple",data:=.seq [Aw s.heap.objs.size,Aw oI.objs.size].toArray}=p6 at k3 g3 z3 ⊢;refine Ab (C6 ?_ (by show 2<=sizeLine;decide));have k4:∀b o,p6.get? b=al o->(p6.push {cls:=.type "tuple",data:=.seq [Bd,Bd].toArray}).get? b=al o:=λb o e=>Ae _ e;have g4:(p6.push {cls:=.type "tuple",data:=.seq [Bd,Bd].toArray}).get? p6.objs.size=al {cls:=.type "tuple",data:=.seq #[.none,.none]}:=An _ rfl;have z4:(p6.push {cls:=.type "tuple",data:=.seq [Bd,Bd].toArray}).objs.size=p6.objs.size+1:=BO ..;show db _ _ (newObj (.type "zip") (.fields #[.none,.bool false,.bool false,.ref oH.objs.size,.ref p6.objs.size]) >>= λr=>_) _ _ {s with heap:=p6.push {cls:=.type "tuple",data:=.seq [Bd,Bd].toArray}};generalize p6.push {cls:=.type "tuple",data:=.seq [Bd,Bd].toArray}=zu at k4 g4 z4 ⊢;refine Ab (Cu ?_ (by simp[sizeOk];decide));have k5:∀b o,zu.get? b=al o->(zu.push {cls:=.type "zip",data:=.fields #[.none,.bool false,.bool false,.ref oH.objs.size,.ref p6.objs.size]}).get? b=al o:=λb o e=>Ae _ e;have g5:(zu.push {cls:=.type "zip",data:=.fields #[.none,.bool false,.bool false,.ref oH.objs.size,.ref p6.objs.size]}).get? zu.objs.size=al {cls:=.type "zip",data:=.fields #[.none,.bool false,.bool false,.ref oH.objs.size,.ref p6.objs.size]}:=An _ rfl;have e1:=z1;have e2:oH.objs.size=s.heap.objs.size+2:=by rw[z2,e1]
  have e3:p6.objs.size=s.heap.objs.size+3:=by rw[z3,e2]
  have e4:zu.objs.size=s.heap.objs.size+4:=by rw[z4,e3]
  refine Am ⟨.ref zu.objs.size,rfl,?_⟩;rw[e2,e3]at g5 k5 ⊢;rw[e4]at g5 ⊢;rw[e3]at g4;rw[e1,e2]at g3;rw[e1]at g2;refine q _ ⟨g5,k5 _ _ (k4 _ _ g3),⟨_,_,k5 _ _ g4⟩,oe (k5 _ _ (k4 _ _ (k3 _ _ (k2 _ _ g1)))),oe (k5 _ _ (k4 _ _ (k3 _ _ g2)))⟩ λb o e=>k5 _ _ (k4 _ _ (k3 _ _ (k2 _ _ (k1 _ _ e))))
def qg{s:ci}{b2:Bool}(h1:cY b1 s.heap a1 xs)(h2:cY b2 s.heap a2 ys)
  (q:∀h':gt,dH b1 b2 h' (s.heap.objs.size+4) (s.heap.objs.size+2) (s.heap.objs.size+3) s.heap.objs.size (s.heap.objs.size+1) a1 a2 .none 0 0->(∀b o,s.heap.get? b=al o->h'.get? b=al o)->Q (.ref (s.heap.objs.size+4)) {s with heap:=h'}) :
  db (em prog w) A (call (.type "zip") [.ref a1,.ref a2]) Q E s:=
 callType_new F.called_zip ⋯ (F.typeCall_zip_2 _ _) (F.newCall_zip_2 _ _) (λo=>F.args_object_init_3 o _ _) F.entry_zip_new (iE b1 b2 a1 a2 xs ys) ⟨h1,h2,λh' z k=>⟨⟨_,z.zip,rfl⟩,q h' z k⟩⟩
def qx(b:Bool)(K:Aa)(H:Hp)(a:ce)(xs:O V):Prop:=match b with
 | true=>bO K H a xs
 | false=>cf K H a xs
def Inv.zj{s:ci}{xs:O V}(I:Inv X U σ H s)(h:qx b X.K H a xs):∃ak:O bn,Vals xs ak/\cY b s.heap a ak.toArray/\xs.length<=sizeLine:=by
 cases b with
 | true=>obtain⟨ak,r,p,z⟩:=I.list (h);exact⟨ak,r,p.isList,z⟩
 | false=>obtain⟨ak,r,p,z⟩:=I.tuple (h);exact⟨ak,r,p,z⟩
def Inv.n9{s:ci}{xs ys:O V}(I:Inv X U σ H s)(h:qx b X.K H a xs)(h':qx b X.K H a ys):xs=ys:=by
 cases b with
 | true=>
  obtain⟨ak,k,⟨o,n,h1,h2,h3,h4⟩,_⟩:=I.list (h);obtain⟨its',k',⟨o',n',dj,kT,vB,yH⟩,_⟩:=I.list (h');rw[h1]at dj;cases dj;rw[h4]at yH;have:ak=its':=by injection yH with a b;simpa using a
  subst this;exact Vals.inj k k'
 | false=>exact I.gp h h'
def Gr(b1 b2:Bool)(K:Aa)(a1 a2:ce):It where
 go:=λi H=>∃xs ys x y,qx b1 K H a1 xs/\qx b2 K H a2 ys/\xs[i]?=al x/\ys[i]?=al y
 ze:=λi H v H'=>∃p x y,v=.ref p/\H p=be/\H'=upd H p (.tup [x,y])/\(∀xs,qx b1 K H a1 xs->xs[i]?=al x)/\∀ys,qx b2 K H a2 ys->ys[i]?=al y
 stop:=λi H=>∃xs ys,qx b1 K H a1 xs/\qx b2 K H a2 ys/\(xs.length<=i\/ys.length<=i)
theorem pe{K:Aa}{b2:Bool}{TI TO:ce}(hA:ZipApart z TI TO i1 i2 a1 a2):Turn P w K (.Tuple Ø kk pos) (Gr b1 b2 K a1 a2) [z,TI,TO,i1,i2] z (λi h=>dH b1 b2 h z TI TO i1 i2 a1 a2 .none i i) where
 mem:=by simp
 obj:=λi h st b hb=>by
  simp at hb;rcases hb with rfl | rfl | rfl | rfl | rfl
  ·exact⟨_,st.zip,λv z=>by cases z⟩
  ·exact⟨_,st.ti,λv z=>by cases z⟩
  ·obtain⟨_,_,e⟩:=st.to;exact⟨_,e,λv z=>by cases z⟩
  ·exact st.GS.obj
  ·exact st.GR.obj
 keep:=λi h h' st k=>⟨k z (by simp) _ st.zip,k TI (by simp) _ st.ti,let ⟨a,b,e⟩:=st.to;⟨a,b,k TO (by simp) _ e⟩,st.GS.move λo e=>k i1 (by simp) _ e,st.GR.move λo e=>k i2 (by simp) _ e⟩
 item:=by
  intro X hP hw hK hc i U s σ H E I hf st hg;subst hP hw hK;obtain⟨xs,ys,x,y,hx,hy,gx,gy⟩:=hg;obtain⟨ak,rx,tx,_⟩:=I.zj hx;obtain⟨bt,ry,ty,_⟩:=I.zj hy;obtain⟨u,gu,ru⟩:=kY rx gx;obtain⟨v,gv,rv⟩:=kY ry gy;refine gr hA st tx ty (by simpa using gu) (by simpa using gv) λh' zt np k=>?_;refine⟨_,rfl,?_⟩;refine Ab (wpAny_load zt.zip ?_);show db _ _ (if ((["enumerate","zip","dict_itemiterator","dict_reverseitemiterator","odict_iterator","itertools.zip_longest","itertools.pairwise"].contains "zip"&&(al (im s.heap.objs.size)==al (im s.heap.objs.size)))=true) then (do rule "for.unpacks-the-owned-tuple";setField (.ref z) 0 .none) else pure ()) _ _ _;rw[if_pos (by rw[beq_self_eq_true];decide)];refine Ab (C5 ?_);refine BF zt.zip (show 0 < 5 by decide) λh2 z2 b2=>?_;have lt:∀b∈[z,TI,TO,i1,i2],b < s.heap.objs.size:=λb hb=>by
   simp only[Ax,CA,or_false]at hb;rcases hb with rfl | rfl | rfl | rfl | rfl
   ·exact Al st.zip
   ·exact Al st.ti
   ·obtain⟨_,_,e⟩:=st.to;exact Al e
   ·obtain⟨o,e,_⟩:=st.GS.obj;exact Al e
   ·obtain⟨o,e,_⟩:=st.GR.obj;exact Al e
  have MZ:∀b o,b∉[z,TI,TO,i1,i2]->s.heap.get? b=al o->h2.get? b=al o:=λb o hb e=>by
   have Fq:b≠z:=λq=>hb (by simp[q]);rw[b2.2 b Fq];exact k b o Fq (λq=>hb (by simp[q])) (λq=>hb (by simp[q])) (λq=>hb (by simp[q])) e
  refine⟨.ref s.heap.objs.size,upd H s.heap.objs.size (.tup [x,y]),I.qD hf MZ (Aj _) ⟨by show 2<=sizeLine;decide,[u,v],.cons ru (.cons rv .nil),⟨_,((b2.2 _ (λe=>A4 _ (by have:=lt z (by simp);rw[<- e]at this;exact this))).trans np),rfl,_,rfl⟩⟩,rfl,⟨_,x,y,rfl,(I.aP.fresh (Aj s.heap.objs.size)),rfl,λOE h'=>?_,λOD h'=>?_⟩,⟨z2,(b2.2 _ hA.TIz).trans zt.ti,let ⟨p,q,e⟩:=zt.to;⟨p,q,(b2.2 _ hA.TOz).trans e⟩,zt.GS.move λo e=>(b2.2 _ hA.i1z).trans e,zt.GR.move λo e=>(b2.2 _ hA.i2z).trans e⟩,λb hb=>?_⟩
  ·rw[I.n9 h' hx];exact gx
  ·rw[I.n9 h' hy];exact gy
  ·rw[ah (AE (lt b hb))];exact(hf b hb).1
 done:=by
  intro X hP hw hK hc i U s σ H E I hf st hg;subst hP hw hK;obtain⟨xs,ys,hx,hy,hl⟩:=hg;obtain⟨ak,rx,tx,_⟩:=I.zj hx;obtain⟨bt,ry,ty,_⟩:=I.zj hy;have el:=rx.length;have O0:=ry.length;refine gR (I.ok.hd hc) hA st tx ty ?_ λh' k=>⟨rfl,I.ur (t':=s.toks) hf λb o hb e=>k b o (λz=>hb (by simp[z])) (λz=>hb (by simp[z])) (λz=>hb (by simp[z])) (λz=>hb (by simp[z])) e⟩;rcases hl with hl | hl
  ·exact .inl (by simp;omega)
  ·exact .inr (by simp;omega)
 self:=λA i s Q E st h=>wpAny_pyIter_zip st.zip h
def Fm(K:Aa)(t1 t2:TE):TI:=λσ H R=>t1 σ H λx H1=>t2 σ H1 λy H2=>∃b1 b2 a b,x=.ref a/\y=.ref b/\(∃xs,qx b1 K H2 a xs)/\(∃ys,qx b2 K H2 b ys)/\R (Gr b1 b2 K a b) H2
def uM(K:Aa)(hK:X.K=K){t2:TE}(hg:Gl X "zip")(hm:X.mg "zip"=be)(h1:PE X e1 t1)(h2:PE X e2 t2)
  (vq:f8 [e1,e2] X.env=(false,ii e1 X.env)::f8 [e2] X.env:=by rfl) (mE:c6 X e2 []:=by rfl) (bH:(wE p2 (f8 [e2] X.env)).any (·.1)=false:=by rfl) :
  PI X (.Tuple Ø kk tp) (.Call (.Name "zip" p1) [e1,e2] [] p2) (Fm K t1 t2):=by
 subst hK;intro U s σ H R I h;refine AW (fb I hg hm boot_zip ?_ ⋯ ⋯);refine Bc ?_ vq bH;rw[vq,mE];refine BE (aR (h1 U s σ H _ I h) λu1 s1 ⟨x,H1,I1,r1,q1⟩=>?_);refine BE (aR (h2 U s1 σ H1 _ I1 q1) λu2 s2 ⟨y,H2,I2,r2,b1,b2,a,b,ex,ey,⟨xs,hx⟩,⟨ys,hy⟩,q⟩=>Ct ?_);subst ex;subst ey;cases r1;cases r2;obtain⟨ak,rx,tx,_⟩:=I2.zj hx;obtain⟨bt,ry,ty,_⟩:=I2.zj hy;refine qg tx ty λh' zt k=>?_;refine wpAny_pyIter_zip zt.zip ?_;have dd:∀i j:Nat,i≠j->s2.heap.objs.size+i≠s2.heap.objs.size+j:=λi j n e=>n (Nat.add_left_cancel e);have na:∀i:Nat,a≠s2.heap.objs.size+i:=λi=>AE (Au tx.lt (BA _ _));have nb:∀i:Nat,b≠s2.heap.objs.size+i:=λi=>AE (Au ty.lt (BA _ _));have hA:ZipApart (s2.heap.objs.size+4) (s2.heap.objs.size+2) (s2.heap.objs.size+3) s2.heap.objs.size (s2.heap.objs.size+1) a b:=
  ⟨dd 2 4 ⋯,dd 3 4 ⋯,dd 0 4 ⋯,dd 1 4 ⋯,dd 2 3 ⋯,dd 2 0 ⋯,dd 2 1 ⋯,dd 3 0 ⋯,dd 3 1 ⋯,dd 0 1 ⋯,na 4,na 3,na 0,na 1,nb 4,nb 3,nb 0,nb 1⟩
 refine⟨_,_,_,_,H2,rfl,I2.kept k,pe hA,zt,λc hc=>?_,q⟩;have hle:s2.heap.objs.size<=c:=by
  simp at hc;rcases hc with rfl | rfl | rfl | rfl | rfl
  ·exact BA _ _
  ·exact BA _ _
  ·exact BA _ _
  ·exact Aj _
  ·exact BA _ _
 exact I2.vG hle (I2.aP.fresh hle)
def EK(K:Aa):R2:=λx y H Q=>∃a b xs ys,x=.ref a/\y=.ref b/\cf K H a xs/\cf K H b ys/\xs.length+ys.length<=sizeLine/\
 (xs=[]->Q (.ref b) H)/\(xs≠[]->ys=[]->Q (.ref a) H)/\(xs≠[]->ys≠[]->gS H (.tup (xs++ys)) Q)
def oy(K:Aa)(hK:X.K=K):dN X (nl .Add) (EK K):=by
 subst hK;intro U s σ H x y v u Q I rx ry h;obtain⟨a,b,xs,ys,rfl,rfl,ha,hb,hz,q0,q1,q2⟩:=h;by_cases c:xs=[]
 ·cases rx;cases ry;obtain⟨ak,r1,p1,_⟩:=I.tuple ha;obtain⟨bt,r2,p2,_⟩:=I.tuple hb;obtain⟨⟨cls,dd,data,sl⟩,ho,hc,n,hd⟩:=id p1;obtain⟨⟨Ko,HC,data2,GD⟩,yB,G5,n2,Ý⟩:=id p2;subst hc hd G5 Ý;exact concat_meets ⟨_,ho,rfl⟩ ⟨_,yB,rfl⟩ noFill_tuple_add seq_tuple_add Cs Cm (Ce _ _)
   (tuple_addW0 a b ak.toArray bt.toArray n n2 dd HC sl GD (by rw[r1.dr.mpr c];rfl)) ⟨ho,yB,.ref b,H,I,rfl,q0 c⟩
 ·exact ox U s σ H _ _ v u Q I rx ry ⟨a,b,xs,ys,rfl,rfl,ha,hb,c,hz,q1 c,λn p hp=>(q2 c n).at p hp⟩
end L2
namespace FL
section
variable[bj]
variable{K:Aa}
section
variable{a b:gl}{p:Pos}{wm:W (O PV)}
def addW:PV->PV->W PV
 | .int i,.int j=>.ret (.int (i+j))
 | .str a,.str b=>.eW (a.length+b.length<=sizeLine) (.ret (.str (a++b)))
 | .tup a,.tup b=>.eW (a.length+b.length<=sizeLine) (.ret (.tup (a++b)))
 | _,_=>.fail
def bC(hK:X.K=K)(ha:EF X K fs a wa)(hb:EF X K fs b wb):EF X K fs (.BinOp a .Add b pos) (.bind wa λx=>.bind wb λy=>addW x y):=
 ⟨PE.imp (jC ((oz K hK).or (oy K hK)) ha.p hb.p) λσ H Q ⟨sr,q⟩=>⟨sr,wa.mono (λx q1 u1 H1 g1 s1 v1=>⟨s1,wb.mono (λy q2 u2 H2 g2 s2 v2=>by
  have HS:=g2.vr s1 v1;cases HS with
  | int i=>
   cases v2 with
   | int j=>exact .inl ⟨_,rfl,q2 _ H2 (g1.trans g2) s2 (.int _)⟩
   | _=>exact q2.elim
  | str i=>
   cases v2 with
   | str j=>exact .inl ⟨_,rfl,q2.1,q2.2 _ H2 (g1.trans g2) s2 (.str _)⟩
   | _=>exact q2.elim
  | @tup p vs l e r=>
   cases v2 with
   | @tup p' uq l' e' r'=>
    refine .inr ⟨p,p',vs,uq,rfl,rfl,cf.of e,cf.of e',by rw[r.length,r'.length];exact q2.1,λz=>?_,λ_ z=>?_,λ_ _ q H3 s3 h3 n3=>?_⟩
    ·have z':=(PL.ay.dr r).mp z;subst z';exact q2.2 _ H2 (g1.trans g2) s2 (.tup e' r')
    ·have z':=(PL.ay.dr r').mp z;subst z';have q2:=q2.2;rw[Bf]at q2;exact q2 _ H2 (g1.trans g2) s2 (.tup e r)
    ·exact q2.2 _ H3 ((g1.trans g2).trans (bM.same s3)) (s2.same s3) (.tup h3 (ay.tk s3.cb (r.append r')))
   | _=>exact q2.elim
  | _=>exact q2.elim) q1⟩) q⟩⟩
theorem jO:∀(l m:O PV),(gm l m).length=min l.length m.length
 | [],m=>by rw[gm];simp;intros;simp_all
 | x::l,[]=>by rw[gm];simp;intros;simp_all
 | x::l,y::m=>by rw[gm,Ar,jO l m];simp only[Ar];omega
def zJ(l m:O PV):W (O PV):=.eW (l.length<=sizeLine) (.ret (gm l m))
def wu(h:y9 K H u l):∃(b:Bool) (a:ce) (vs:O V),u=.ref a/\ay K [] H vs l/\∀H',aD K H H'->qx b K H' a vs:=by
 obtain⟨a,vs,e,h | h,r⟩:=h
 ·exact⟨true,a,vs,e,r,λH' t=>(t.f _ _ h).sq⟩
 ·exact⟨false,a,vs,e,r,λH' t=>cf.of (t.t _ _ h)⟩
theorem yy(hK:X.K=K)(hg:Gl X "zip")(hm:X.mg "zip"=be)(ha:IF X K fs a wl)(hb:IF X K fs b wm)
  (vq:f8 [a,b] X.env=(false,ii a X.env)::f8 [b] X.env:=by rfl) (mE:c6 X b []:=by rfl) (bH:(wE p2 (f8 [b] X.env)).any (·.1)=false:=by rfl) :
  tT X K fs (.Tuple Ø kk tp) (.Call (.Name "zip" p1) [a,b] [] p2) (.bind wl λl=>.bind wm λm=>zJ l m):=
 ⟨PI.imp (uM K hK hg hm ha.p hb.p vq mE bH) λσ H R ⟨sr,q⟩=>⟨sr,wl.mono (λl q1 u1 H1 g1 s1 v1=>⟨s1,wm.mono (λm q2 u2 H2 g2 s2 v2=>by
  obtain⟨b1,a1,vs,rfl,r1,x1⟩:=wu (v1.tk (g2.bI s1));obtain⟨b2,a2,ws,rfl,r2,x2⟩:=wu v2;have tr:aD K H2 H2:=aD.refl H2;refine⟨b1,b2,a1,a2,rfl,rfl,⟨vs,x1 H2 tr⟩,⟨ws,x2 H2 tr⟩,q2.2 _ H2 (g1.trans g2) s2 ⟨by rw[jO];have:=q2.1;omega,λH' t=>⟨λi pp hp=>?_,vs,ws,x1 H' t,x2 H' t,?_⟩⟩⟩
  ·obtain⟨x,y,hx,hy,rfl⟩:=kW hp;obtain⟨v,h3,h4⟩:=(ay.tk t r1).get hx;obtain⟨v',vB,yH⟩:=(ay.tk t r2).get hy;refine⟨⟨vs,ws,v,v',x1 H' t,x2 H' t,h3,vB⟩,λz H3 yl=>?_⟩;obtain⟨p,x',y',rfl,hn,rfl,e1,e2⟩:=yl;have e1:=e1 vs (x1 H' t);have e2:=e2 ws (x2 H' t);rw[h3]at e1;rw[vB]at e2;cases e1;cases e2;have sm:=fw hn (.tup [v,v']);exact⟨sm,.tup aB (.cons (VR.tk sm.cb h4) (.cons (VR.tk sm.cb yH) .nil))⟩
  ·rw[jO,r1.length,r2.length];omega) q1⟩) q⟩⟩
end
end
section
variable[bj]
variable{K:Aa}
section
variable{rest:O lm}{p:Pos}{T:Type}{out:T->End}{x:Bool}
def Jj(l:O PV):PV->W PV
 | .int k=>.eW (0<=k/\k < 1000) (.zk l[k.toNat]?)
 | _=>.fail
def xx(l:O PV)(i j:PV)(m:O PV):W (O PV):=match i,j with
 | .int a,.int c=>.eW (0<=a/\a<=c/\c<=l.length/\l.length+m.length<=sizeLine) (.ret (l.take a.toNat++m++l.drop c.toNat))
 | _,_=>.fail
def SF.Ez(i:Nat){lo hi:gl}{k:O PV->W T}(hs:fs[i]?=al (al (.ol q0 l)))(hN:X.N[i]?=al y)(hv:o7 X.env.scope y)(he:LF X K fs e wl)(hl:EF X K fs lo wa)(hh:EF X K fs hi wb)(hr:∀l',SF X K x (fs.set i (al (.ol q0 l'))) rest (k l') out)
  (ha:∀v,assign (.Subscript (.Name y p) (.Slice (al lo) (al hi) be p2) fm) X.env v=(do
   let ov <- mo [v] (ii (.Name y p) X.env)
   let iv <- mo [v,ov] (ii (.Slice (al lo) (al hi) be p2) X.env)
   u8 fm
   mo [v,ov,iv] (setItem ov iv v)
   release [iv,v,ov] []):=by intro _;rfl)
  (hd:dU y:=by decide) (ek:qq y:=by decide)
  (Jr:tz [.Subscript (.Name y p) (.Slice (al lo) (al hi) be p2) fm] e pos.line X.env=pure false:=by rfl) (hw:up [.Subscript (.Name y p) (.Slice (al lo) (al hi) be p2) fm] e X.env=pure be:=by rfl)
  (h1:(sK [.Subscript (.Name y p) (.Slice (al lo) (al hi) be p2) fm] X.env).map (·.2)=[assign (.Subscript (.Name y p) (.Slice (al lo) (al hi) be p2) fm) X.env]:=by rfl) :
  SF X K x fs (.Assign [.Subscript (.Name y p) (.Slice (al lo) (al hi) be p2) fm] e pos::rest) (.bind wl λm=>.bind wa λa=>.bind wb λb=>.bind (xx l a b m) k) out:=
 SF.step (rh he.p (rk (cy hN hv hd ek) hl.p hh.p ha) Jr hw h1) λD σ H ⟨sr,q⟩=>by
  refine⟨sr,wl.mono (λm q1 b vb H1 g1 s1 nb eb rb=>?_) q⟩;obtain⟨a,ws,e1,h1,r1⟩:=bW s1 hs;refine⟨_,e1,s1,wa.mono (λi1 q2 u2 H2 g2 s2 v2=>⟨s2,wb.mono (λj1 q3 u3 H3 g3 s3 v3=>?_) q2⟩) q1⟩;obtain⟨a',HQ,LA,vB,GI⟩:=bW s3 hs;rw[e1]at LA;cases LA;have zg:=g3.vr s2 v2;have no:¬bx σ fs b:=sr.noOwn nb;have N6:=(g2.trans g3).iJ eb no;have KU:=(g2.trans g3).qu s1 rb;have ne:a≠b:=λz=>no ⟨i,_,a,hs,rfl,e1,.inl z.symm⟩;cases zg with
  | int aa=>
   cases v3 with
   | int cc=>
    have q3:(0<=aa/\aa<=cc/\cc<=l.length/\l.length+m.length<=sizeLine)/\(k (l.take aa.toNat++m++l.drop cc.toNat)).run _:=q3;obtain⟨⟨c1,c2,c3,c4⟩,q3⟩:=q3;refine⟨a,b,HQ,vb,aa,cc,rfl,rfl,rfl,rfl,vB,N6,ne,c1,c2,by rw[GI.length];exact c3,by rw[GI.length,KU.length];exact c4,?_⟩;have sx:gh a H3 (upd H3 a (.lst (HQ.take aa.toNat++vb++HQ.drop cc.toNat))):=λz o n hz=>by rw[ah n];exact hz
    obtain⟨s4,g4⟩:=fD s3 hs e1 sx aB (((GI.take aa.toNat).append KU).append (GI.drop cc.toNat));exact⟨_,k _,hr _,s4,(k _).mono (λt q4=>q4.go (((g1.trans g2).trans g3).f.trans g4) sr s4) q3⟩
   | _=>exact q3.elim
  | _=>exact q3.elim
end
end
section
variable[bj]
variable{K:Aa}
abbrev w2(f:PV->PV->W PV)(wa wb:W PV):W PV:=.bind wa λx=>.bind wb λy=>f x y
def Mi(K:Aa)(us:O V)(qs:O PV)(fz:O (ce×Obj))(sp:Sp):Sp:=λvs H Q E=>ay K [] H us qs/\o8 H fz/\sp vs H Q E
structure CalA(P:lf)(w:o0)(K:Aa)(mg:Str->Option bn)(base:gt)(f:ce)(us:List V)(qs:List PV)(fz:List (ce×Obj))(k:Nat)(ps:List Str)(sp:Sp) where
 fd:sn
 ok:bf P w K mg base dS k f fd ps (Mi K us qs fz sp)
 bi:Binds K fd ps []
 kp:∀h:gt,K.In h->(∀b o,base.get? b=al o->h.get? b=al o)->(∀p∈fz,h.get? p.1=al p.2)->PySem.W.FnAt f h
end
section
variable[bj]
def drawn(m:Int):W PV:=.any λv=>∃d:Int,v=.int d/\0<=d/\d < m
def aQ:PV->W PV
 | .int m=>.eW (0 < m/\m<=2000) (drawn m)
 | _=>.fail
end
section
variable[bj]
def m5{i j:Int}:of2 (aI g) (.int i) (.int j)=.ret (g i j):=wp λQ=>⟨CZ,λq=>⟨rfl,q⟩⟩
def hJ{C:Int->Int->Prop}{i j:Int}:of2 (y7 C g) (.int i) (.int j)=.eW (C i j) (.ret (g i j)):=wp λQ=>⟨λq=>⟨q.1,q.2.2⟩,λq=>⟨q.1,rfl,q.2⟩⟩
section
variable(i j:Int)(a:Bool)(x y:PV)(l m:O PV)(s t:Str)
@[simp] theorem sX:of2 m7 (.int i) (.int j)=.ret (.int (i-j)):=m5
@[simp] theorem sZ:of2 cz (.int i) (.int j)=.eW (pi i j) (.ret (.int (i*j))):=hJ
@[simp] theorem Kf:of2 oDiv (.int i) (.int j)=.eW (tX i j) (.ret (.int (i / j))):=hJ
@[simp] theorem iX:of2 oMod (.int i) (.int j)=.eW (0 < j) (.ret (.int (i % j))):=hJ
@[simp] theorem yN:of2 fF (.int i) (.int j)=.eW (tW i j) (.ret (.int (i ^ j.toNat))):=hJ
@[simp] theorem Ly:of2 IK (.int i) (.int j)=.ret (.bl (decide (j < i))):=m5
@[simp] theorem F1:of2 E3 (.int i) (.int j)=.ret (.bl (decide (j<=i))):=m5
def lX:of2 gB x y=.eW (qb x y) (.ret (.bl (fW x y))):=wp λQ=>⟨λq=>⟨q.1,q.2.2⟩,λq=>⟨q.1,rfl,q.2⟩⟩
def sY:of2 j9 x y=.eW (qb x y) (.ret (.bl (!fW x y))):=wp λQ=>⟨λq=>⟨q.1,q.2.2⟩,λq=>⟨q.1,rfl,q.2⟩⟩
@[simp] theorem yS:of2 rQ x .aL=.ret (.bl x.lN):=wp λQ=>⟨CZ,λq=>⟨rfl,q⟩⟩
def yR{c:Nat}(h:cG s.cps.toList i=al c):of2 rP (.str s) (.int i)=.eW (s.length<=sizeLine) (.ret (.str ⟨#[c]⟩)):=wp λQ=>by
 show(s.length<=sizeLine/\match cG s.cps.toList i with | some c=>_/\_ | none=>False)↔_;rw[h];exact⟨λq=>⟨q.1,q.2.2⟩,λq=>⟨q.1,rfl,q.2⟩⟩
@[simp] theorem dF:addW (.int i) (.int j)=.ret (.int (i+j)):=(rfl)
@[simp] theorem vL:addW (.str s) (.str t)=.eW (s.length+t.length<=sizeLine) (.ret (.str (s++t))):=(rfl)
@[simp] theorem HA:addW (.tup l) (.tup m)=.eW (l.length+m.length<=sizeLine) (.ret (.tup (l++m))):=(rfl)
@[simp] theorem yP:yf (.int i)=.ret (.int (-i)):=(rfl)
@[simp] theorem nF:HD (.bl a)=.ret a:=(rfl)
@[simp] theorem zD(w:W PV):tK (.bl true) w=w:=(rfl)
@[simp] theorem zE(w:W PV):tK (.bl false) w=.ret (.bl false):=(rfl)
@[simp] theorem oV(w:W PV):vY (.bl true) w=w:=(rfl)
@[simp] theorem Hz(w:W PV):vY (.bl false) w=.ret (.bl false):=(rfl)
@[simp] theorem cp:cJ (.bl a)=.ret a:=(rfl)
@[simp] theorem Hg:cJ (.int i)=.ret (i != 0):=(rfl)
@[simp] theorem Hf:cJ .aL=.ret false:=(rfl)
@[simp] theorem He:cJ (.tup l)=.ret (!l.isEmpty):=(rfl)
@[simp] theorem Hh:cJ (.cl l)=.ret (!l.isEmpty):=(rfl)
@[simp] theorem fX:c8 (.tup l)=.ret l:=(rfl)
@[simp] theorem fY:c8 (.cl l)=.ret l:=(rfl)
@[simp] theorem kx:si (.cl l)=.ret l:=(rfl)
@[simp] theorem dh:Ji l (.int i)=.zk (cG l i):=(rfl)
@[simp] theorem s9:nk l=.ret (.int l.length):=(rfl)
@[simp] theorem Ka:uu l=.ret (.tup l):=(rfl)
@[simp] theorem vH:part (.int i)=.ret (al i):=(rfl)
@[simp] theorem J9:Gy (.tup [x,y])=.ret (x,y):=(rfl)
@[simp] theorem Hv(k:Kd):cm k (.int i)=.ret (.bl (k.is (.int i))):=(rfl)
@[simp] theorem kC(k:Kd):cm k (.str s)=.ret (.bl (k.is (.str s))):=(rfl)
@[simp] theorem hZ(k:Kd):cm k (.tup l)=.ret (.bl (k.is (.tup l))):=(rfl)
@[simp] theorem Hw(k:Kd):cm k (.cl l)=.ret (.bl (k.is (.cl l))):=(rfl)
@[simp] theorem Hx(k:Kd):cm k (.bl a)=.ret (.bl (k.is (.bl a))):=(rfl)
@[simp] theorem Hu(k:Kd):cm k .aL=.ret (.bl (k.is .aL)):=(rfl)
@[simp] theorem vI:m6 gI [.tup l]=.ret (.int l.length):=wp λQ=>⟨CZ,λq=>⟨rfl,q⟩⟩
@[simp] theorem ky:m6 gI [.cl l]=.ret (.int l.length):=wp λQ=>⟨CZ,λq=>⟨rfl,q⟩⟩
@[simp] theorem Hi:m6 gI [.str s]=.eW (s.length<=sizeLine) (.ret (.int s.length)):=wp λQ=>⟨λq=>⟨q.1,q.2.2⟩,λq=>⟨q.1,rfl,q.2⟩⟩
@[simp] theorem yU:m6 ju [.int i]=.ret (.int (if i < 0 then -i else i)):=wp λQ=>⟨CZ,λq=>⟨rfl,q⟩⟩
@[simp] theorem Hy:m6 kG [.int i]=.ret (.int i):=wp λQ=>⟨CZ,λq=>⟨rfl,q⟩⟩
@[simp] theorem oU:m6 kG [.bl a]=.ret (.int (if a then 1 else 0)):=wp λQ=>⟨CZ,λq=>⟨rfl,q⟩⟩
@[simp] theorem fZ:gJ (.int j)=.eW (okN 0 j) (.ret (eU 0 j.toNat)):=(rfl)
@[simp] theorem yO:ly (l++[x])=.ret (l,x):=by unfold ly;simp
@[simp] theorem Kb:Iy l (.int i)=.eW (-(2 ^ 63)<=i/\i < 2 ^ 63/\l.length*i.toNat<=sizeLine) (.ret (AI i.toNat l).flatten):=(rfl)
@[simp] theorem Hm:Kd.is .int (.int i)=true:=(rfl)
@[simp] theorem Hn:Kd.is .int (.bl a)=true:=(rfl)
@[simp] theorem Ht:Kd.is .bool (.bl a)=true:=(rfl)
@[simp] theorem Ho:Kd.is .bool (.int i)=false:=(rfl)
@[simp] theorem kB:Kd.is .str (.str s)=true:=(rfl)
@[simp] theorem kA:Kd.is .str (.tup l)=false:=(rfl)
@[simp] theorem Hl:Kd.is .str (.int i)=false:=(rfl)
@[simp] theorem vJ:Kd.is .tup (.tup l)=true:=(rfl)
@[simp] theorem vK:Kd.is .tup (.str s)=false:=(rfl)
@[simp] theorem Hj:Kd.is .tup (.int i)=false:=(rfl)
@[simp] theorem Hk:Kd.is .tup (.bl a)=false:=(rfl)
@[simp] theorem bK(h0:0 < i)(h1:i<=2000):aQ (.int i)=drawn i:=r6 ⟨h0,h1⟩
def aU{m:Int}{Q:PV->Prop}(h:∀d:Int,0<=d->d < m->Q (.int d)):(drawn m).run Q:=λv ⟨d,e,h0,h1⟩=>e▸h d h0 h1
end
namespace W
variable{α:Type}
def le(a b:W α):Prop:=∀Q,b.run Q->a.run Q
def le.use{a:W α}{v:α}{Q:α->Prop}(h:a.le (.ret v))(q:Q v):a.run Q:=h _ q
end W
section
variable{S R:Type}
@[simp] theorem FT(s:S)(f:PV->S->W S):dD [] s f=.ret s:=(rfl)
@[simp] theorem zy(x:PV)(r:O PV)(s:S)(f:PV->S->W S):dD (x::r) s f=.bind (f x s) λs'=>dD r s' f:=(rfl)
theorem iT{f:PV->S->W S}{Q:S->Prop}(I:O PV->S->Prop):∀{l:O PV}{s:S},I l s->(∀x r s,I (x::r) s->(f x s).run (I r))->(∀s,I [] s->Q s)->(dD l s f).run Q
 | [],s,h0,_,he=>he s h0
 | x::r,s,h0,hs,he=>(f x s).mono (λs' h=>iT I h hs he) (hs x r s h0)
theorem forF_run{f:PV->S->W (Lp S R)}{Q:Lp S R->Prop}(I:O PV->S->Prop):∀{l:O PV}{s:S},I l s->(∀x r s,I (x::r) s->(f x s).run λo=>match o with | .go s'=>I r s' | .out t=>Q (.out t))->(∀s,I [] s->Q (.go s))->(FL.fU l s f).run Q
 | [],s,h0,_,he=>he s h0
 | x::r,s,h0,hs,he=>(f x s).mono (λo h=>match o,h with
  | .go s',h=>forF_run I h hs he
  | .out t,h=>h) (hs x r s h0)
theorem oP{f:PV->S->W S}{Q:S->Prop}(I:Nat->S->Prop){s:S}(h0:I 0 s)(hs:∀(i:Nat) (x:PV) s,l[i]?=al x->I i s->(f x s).run (I (i+1)))(he:∀s,I l.length s->Q s):(dD l s f).run Q:=by
 refine iT (λr s=>∃i,i<=l.length/\r=l.drop i/\I i s) ⟨0,Bw _,rfl,h0⟩ (λx r s ⟨i,hi,e,h⟩=>?_) (λs ⟨i,hi,e,h⟩=>?_)
 ·have iO:i < l.length:=by
   rcases Nat.lt_or_ge i l.length with h | h
   ·exact h
   ·rw[DC h]at e;cases e
  rw[AU iO]at e;injection e with e1 e2;subst e1;exact(f _ s).mono (λs' h'=>⟨i+1,iO,e2,h'⟩) (hs i _ s (Ai iO) h)
 ·have:i=l.length:=by
   have:=congrArg CH e;rw[B9]at this;simp at this;omega
  subst this;exact he s h
theorem oQ{f:PV->S->W (Lp S R)}{Q:Lp S R->Prop}(I:Nat->S->Prop){s:S}(h0:I 0 s)(hs:∀(i:Nat) (x:PV) s,l[i]?=al x->I i s->(f x s).run λo=>match o with | .go s'=>I (i+1) s' | .out t=>Q (.out t))(he:∀s,I l.length s->Q (.go s)):(FL.fU l s f).run Q:=by
 refine forF_run (λr s=>∃i,i<=l.length/\r=l.drop i/\I i s) ⟨0,Bw _,rfl,h0⟩ (λx r s ⟨i,hi,e,h⟩=>?_) (λs ⟨i,hi,e,h⟩=>?_)
 ·have iO:i < l.length:=by
   rcases Nat.lt_or_ge i l.length with h | h
   ·exact h
   ·rw[DC h]at e;cases e
  rw[AU iO]at e;injection e with e1 e2;subst e1;exact(f _ s).mono (λo h'=>match o,h' with
   | .go s',h'=>⟨i+1,iO,e2,h'⟩
   | .out t,h'=>h') (hs i _ s (Ai iO) h)
 ·have:i=l.length:=by
   have:=congrArg CH e;simp at this;omega
  subst this;exact he s h
def iU{f:PV->S->W S}{Q:S->Prop}(I:Nat->S->Prop){s:S}(h0:I 0 s)(hs:∀(i:Nat) s,i < n->I i s->(f (.int (i:Int)) s).run (I (i+1)))(he:∀s,I n s->Q s):(dD (eU 0 n) s f).run Q:=
 oP I h0 (λi x s hx h=>by obtain⟨hi,rfl⟩:=gG hx;rw[Ec];exact hs i s hi h) (λs h=>he s (by rw[df]at h;exact h))
def sS{f:PV->S->W (Lp S R)}{Q:Lp S R->Prop}(I:Nat->S->Prop){s:S}(h0:I 0 s)(hs:∀(i:Nat) s,i < n->I i s->(f (.int (i:Int)) s).run λo=>match o with | .go s'=>I (i+1) s' | .out t=>Q (.out t))(he:∀s,I n s->Q (.go s)):(FL.fU (eU 0 n) s f).run Q:=
 oQ I h0 (λi x s hx h=>by obtain⟨hi,rfl⟩:=gG hx;rw[Ec];exact hs i s hi h) (λs h=>he s (by rw[df]at h;exact h))
theorem mI{c:S->W Bool}{b:S->W S}{Q:S->Prop}(I:Nat->S->Prop){s:S}(h0:I n s)(hs:∀n s,I n s->(c s).run λk=>if k=true then (b s).run (λs'=>∃m,m < n/\I m s') else Q s):(mJ c b s).run Q:=by
 refine⟨n+1,?_⟩;have:∀k n s,n < k->I n s->(eX c b k s).run Q:=by
  intro k
  induction k with
  | zero=>intro n s h;omega
  | succ k ih=>
   intro n s hn h;refine(c s).mono (λz q=>?_) (hs n s h);cases z with
   | true=>exact(b s).mono (λs' ⟨m,hm,h'⟩=>ih m s' ∅ h') (q)
   | false=>exact q
 exact this (n+1) n s ∅ h0
end
section
variable(i j:Int)(a b:Bool)(x y:PV)(l m:O PV)(s t:Str)
@[simp] theorem wX:fW (.int i) (.int j)=(i==j):=by rw[fW]
@[simp] theorem sV:fW (.str s) (.str t)=(s==t):=by rw[fW]
@[simp] theorem wY:fW (.bl a) (.bl b)=(a==b):=by rw[fW]
@[simp] theorem Ls:fW (.tup l) (.tup m)=cD l m:=by rw[fW]
@[simp] theorem Lu:fW (.cl l) (.cl m)=cD l m:=by rw[fW]
@[simp] theorem J5:cD [] []=true:=by rw[cD]
@[simp] theorem J4:cD (x::l) (y::m)=(fW x y&&cD l m):=by rw[cD]
@[simp] theorem Ha:PV.dJ (.int i)=true:=by rw[PV.dJ] <;> simp
@[simp] theorem J2:PV.dJ (.bl a)=true:=by rw[PV.dJ] <;> simp
@[simp] theorem G8:PV.dJ (.str s)=true:=by rw[PV.dJ] <;> simp
@[simp] theorem G9:PV.dJ .aL=true:=by rw[PV.dJ] <;> simp
@[simp] theorem G7:PV.dJ (.tup l)=dg l:=by rw[PV.dJ]
@[simp] theorem J1:PV.dJ (.cl l)=dg l:=by rw[PV.dJ]
@[simp] theorem FU:dg []=true:=by rw[dg]
@[simp] theorem zA:dg (x::l)=(PV.dJ x&&dg l):=by rw[dg]
@[simp] theorem FY:PV.dE (.int i)=0:=by rw[PV.dE] <;> simp
@[simp] theorem Hc:PV.dE (.bl a)=0:=by rw[PV.dE] <;> simp
@[simp] theorem FW:PV.dE (.str s)=0:=by rw[PV.dE] <;> simp
@[simp] theorem FX:PV.dE .aL=0:=by rw[PV.dE] <;> simp
@[simp] theorem FV:PV.dE (.tup l)=cU l+1:=by rw[PV.dE]
@[simp] theorem Hb:PV.dE (.cl l)=cU l+1:=by rw[PV.dE]
@[simp] theorem zB:cU []=0:=by rw[cU]
@[simp] theorem yL:cU (x::l)=max (PV.dE x) (cU l):=by rw[cU]
def lY:qb (.int i) (.int j):=⟨by simp,by simp,by simp⟩
@[simp] theorem yT:of2 gB (.int i) (.int j)=.ret (.bl (i==j)):=by rw[lX,r6 (lY i j),wX]
@[simp] theorem yQ:of2 j9 (.int i) (.int j)=.ret (.bl (!(i==j))):=by rw[sY,r6 (lY i j),wX]
@[simp] theorem Ke:of2 gB (.bl a) (.bl b)=.ret (.bl (a==b)):=by rw[lX,r6 ⟨by simp,by simp,by simp⟩,wY]
@[simp] theorem Kc:of2 j9 (.bl a) (.bl b)=.ret (.bl (!(a==b))):=by rw[sY,r6 ⟨by simp,by simp,by simp⟩,wY]
end
instance (priority:=10) Mb:bj:=⟨[]⟩
end
section
variable[bj]
structure EV where
 P:lf
 w:o0
 K:Aa
 mg:Str->Option bn
 base:gt
structure DF where
 x:Str
 s:lm
 ps:List Str
 k:Nat
 sp:Aa->Sp
abbrev DF.C(d:DF)(v:EV):=mz v.P v.w v.K v.mg v.base d.x d.k d.ps (d.sp v.K)
structure DI(v:EV)(d:DF) where
 f:ce
 fd:sn
 fn:Fun v.K d.x d.x d.s f fd
 bi:Binds v.K fd d.ps []
 at':v.mg d.x=al (.ref f)
abbrev DI.O{v:EV}{d:DF}(D:DI v d):Prop:=bf v.P v.w v.K v.mg v.base dS d.k D.f D.fd d.ps (d.sp v.K)
def DI.c{v:EV}{d:DF}(D:DI v d)(h:D.O):d.C v:=⟨D.f,D.fd,h,D.bi,D.fn.kp,D.at'⟩
def DI.cN{v:EV}{d:DF}(D:DI v d)(h:bf v.P v.w v.K v.mg v.base dS k D.f D.fd d.ps sp):mz v.P v.w v.K v.mg v.base d.x k d.ps sp:=⟨D.f,D.fd,h,D.bi,D.fn.kp,D.at'⟩
structure DX(K:Aa)(x:Str)(st:lm):Prop where
 ex:∃f fd,AD K eM x=al (al (.ref f))/\Fun K x x st f fd
abbrev LB(s:lm):Str:=match s with
 | .FunctionDef x _ _ _ _ _ _ _ _ _=>x
 | _=>""
def dx{K:Aa}{x:Str}{st:lm}{kV:bn}(a:AD K eM x=al (al (.ref f)))(l:K.lookup f=al ⟨oc,od,.func (AV x x (bb st) (aH st) (af st) .none kV Ä pm an bh ct),rG⟩)
  (c:BC K bh x=true) (k:AZ K (.ref f)=true):DX K x st:=⟨f,_,a,iQ l c k⟩
def oM{N P:O Str}(h1:sc.kind=.function:=by rfl)(h2:sc.isCoroutine=false:=by rfl)(h3:sc.isGenerator=false:=by rfl)(h4:N.Nodup:=by decide +kernel)(h5:N.take P.length=P:=by rfl)(h6:∀x∈P,sc.names.lookup x=al .local\/sc.names.lookup x=al .cell:=by decide +kernel)(h7:∀y∈sc.names,y.2≠.free:=by decide +kernel):br N P sc:=⟨h1,h2,h3,h4,h5,h6,h7⟩
def lcs{N:O Str}(h1:sc.kind=.function:=by rfl)(h2:∀y∈sc.names,y.2≠.cell:=by decide +kernel)(h3:∀y∈sc.names,y.2=.local->sc.names.lookup y.1=al .local:=by decide +kernel)(h4:∀y∈sc.names,y.2=.free->(Xs.names.lookup y.1=al .cell\/Xs.names.lookup y.1=al .free):=by decide +kernel)(h5:N'.Nodup:=by decide +kernel)(h6:ix.length=N'.length:=by rfl)
  (h7:((ix.zip N').all λp=>match p.1 with | none=>true | some j=>decide (N[j]?=al p.2)&&decide (sc.names.lookup p.2=al .free))=true:=by decide +kernel):bL Xs N sc N' ix:=⟨h1,h2,h3,h4,h5,h6,h7⟩
abbrev IU(l:O (Str×sw)):ut:={kind:=.function,names:=(Du ".0",.local)::l,isGenerator:=false,isCoroutine:=false,more:=[]}
abbrev lo:sw:=.local
abbrev gi:sw:=.globalImplicit
abbrev fr:sw:=.free
def lE:O AK->Nat
 | []=>0
 | .p _::ks=>lE ks+1
 | _::ks=>lE ks
theorem fH:∀{ks:O AK}{i:Nat},ks[i]?=al (.p φ)->lE ks≠0
 | [],i,h=>by simp at h
 | .p _::_,_,_=>Nat.succ_ne_zero _
 | .v::ks,0,h=>by simp at h
 | .f _ _ _ _::ks,0,h=>by simp at h
 | .v::ks,i+1,h=>fH (ks:=ks) (by simpa using h)
 | .f _ _ _ _::ks,i+1,h=>fH (ks:=ks) (i:=i) (by simpa using h)
theorem iA:∀{ks:O AK},Nat.ble (lE ks) 1=true->nT ks
 | [],_=>λi j ⟨_,h⟩=>by simp at h
 | .v::ks,h=>λi j ⟨φ,a⟩ ⟨ψ,b⟩=>by
  cases i with | zero=>simp at a | succ i=>cases j with | zero=>simp at b | succ j=>rw[iA (ks:=ks) h i j ⟨φ,by simpa using a⟩ ⟨ψ,by simpa using b⟩]
 | .f _ _ _ _::ks,h=>λi j ⟨φ,a⟩ ⟨ψ,b⟩=>by
  cases i with | zero=>simp at a | succ i=>cases j with | zero=>simp at b | succ j=>rw[iA (ks:=ks) h i j ⟨φ,by simpa using a⟩ ⟨ψ,by simpa using b⟩]
 | .p _::ks,h=>λi j ⟨φ,a⟩ ⟨ψ,b⟩=>by
  have z:lE ks+1<=1:=BZ h;cases i with | succ i=>exact absurd ∅ (fH (ks:=ks) (by simpa using a)) | zero=>cases j with | succ j=>exact absurd ∅ (fH (ks:=ks) (by simpa using b)) | zero=>rfl
abbrev mD(st:lm):O Str:=((af st).names.filter λy=>y.2==.local||y.2==.cell).map (·.1)
abbrev mC(st:lm):O Str:=(bb st).args.map (·.arg)
abbrev MK(sc:ut):O Str:=((sc.names.tail.filter λy=>y.2==.local)++sc.names.filter λy=>y.2==.free).map (·.1)
abbrev M6(N:O Str)(sc:ut):O (Option Nat):=((sc.names.tail.filter λy=>y.2==.local).map λ_=>be)++(sc.names.filter λy=>y.2==.free).map λy=>al (N.idxOf y.1)
abbrev LS(st:lm)(sc:ut):Prop:=bL (af st) (mD st) sc (MK sc) (M6 (mD st) sc)
def IQ:Nat->aX->aX
 | _,[]=>[]
 | n,s::l=>(match n % 2 with | 0=>s | _=>be)::IQ (n / 2) l
theorem dI.m:∀(n:Nat) {fs:aX},dI fs (IQ n fs)
 | _,[]=>.refl _
 | n,s::l=>by
  unfold IQ
  split
  ·exact .keep (dI.m _)
  ·exact .drop (dI.m _)
def qt:(n:Nat)->(O PV->W R->Prop)->mG R n->Prop
 | 0,B,m=>B [] m
 | n+1,B,m=>∀x:PV,qt n (λl w=>B (x::l) w) (m x)
theorem qt.all:∀{n:Nat}{B:O PV->W R->Prop}{m:mG R n},qt n B m->∀l,l.length=n->B l (fh n m l)
 | 0,_,_,h,[],_=>h
 | n+1,_,_,h,x::l,e=>qt.all (h x) l (Nat.succ.inj e)
section
variable{v:EV}{x:Str}{st:lm}
abbrev BB{T:Type}(v:EV)(x:Str)(st:lm)(k:Nat)(ks:O AK)(f:ce)(n:Nat)(m:mG T n)(o:T->End):Prop:=∀{bh:bn}{A:re}{outer:O Env}{s:ci}{H:Hp}{E:XK},aZ k (A.deeper (sB x (af st) s.heap.objs.size f bh))->(mD st).Nodup->qt n (λl w=>SF (gZ dS v.P v.w v.K v.mg v.base (mD st) x (af st) f bh A outer s H E).rS v.K false (i5 ks l (mD st).length) (aH st) w o) m
def zp{m:mG PV n}(D:DI v ⟨x,st,mC st,k+1,λK=>kS K ks (fh n m)⟩)(Å:BB v x st k ks D.f n m .rt)(vw:ks.length=(mC st).length:=by rfl)(one:Nat.ble (lE ks) 1=true:=by rfl)(S:br (mD st) (mC st) (af st):=by exact oM):D.O:=J3 D.fn S vw (iA one) λl e bh A outer s H E hr=>(Å hr S.nd).all l e
def IT{m:mG (O PV) n}(D:DI v ⟨x,st,mC st,k+1,λK=>pz K ks (fh n m)⟩)(Å:BB v x st k ks D.f n m .rl)(vw:ks.length=(mC st).length:=by rfl)(one:Nat.ble (lE ks) 1=true:=by rfl)(S:br (mD st) (mC st) (af st):=by exact oM):D.O:=NZ D.fn S vw (iA one) λl e bh A outer s H E hr=>(Å hr S.nd).all l e
end
section
variable{K:Aa}{x:Str}{WL:W (O PV)}{p:Pos}
theorem eC{m:O PV->W PV}(G:mz X.prog X.w X.K X.mg X.base x k ps (kS K ks m))(hr:aZ k' X.A)(ha:AF X K fs (e::es) ks B)(hk:k<=k':=by first | exact BZ rfl | exact Aj _ | omega)(hg:Gl X x:=by rfl)(hW:W'=B m:=by rfl)(ej:dU x:=by decide)
  (he:c6 X e es:=by rfl) (bH:eR X pos es:=by rfl):EF X K fs (.Call (.Name x p) (e::es) [] pos) W':=vO G hr hk hg ha hW ej he bH
theorem lC{m:O PV->W (O PV)}{B:(O PV->W (O PV))->W (O PV)}(G:mz X.prog X.w X.K X.mg X.base x k ps (pz K ks m))(hr:aZ k' X.A)(ha:AF X K fs (e::es) ks B)(hk:k<=k':=by first | exact BZ rfl | exact Aj _ | omega)(hg:Gl X x:=by rfl)(hW:WL=B m:=by rfl)(ej:dU x:=by decide)
  (he:c6 X e es:=by rfl) (bH:eR X pos es:=by rfl):LF X K fs (.Call (.Name x p) (e::es) [] pos) WL:=vh G hr hk hg ha hW ej he bH
def rj(i:Nat)(hN:X.N.Nodup)(hi:X.N[i]?=al x:=by rfl)(hx:Loc X.env.scope x:=by first | exact .inl rfl | exact .inr rfl)(hf:ue X x:=by first | exact .inl rfl | exact .inr rfl | assumption):PG X (.Name x pos) (fR i):=uO hN hi hx hf
variable{T:Type}{out:T->End}{rest:O lm}
def sv(i:Nat){k:PV->W T}(hN:X.N.Nodup)(he:EF X K fs e we)(hr:∀v,SF X K b (fs.set i (al (.val v))) rest (k v) out)(hi:X.N[i]?=al y:=by rfl)(hx:Loc X.env.scope y:=by first | exact .inl rfl | exact .inr rfl)(hs:pr e (al (.Name y p')) pos.line X.env=pure false:=by rfl)
  (hf:ue X y:=by first | exact .inl rfl | exact .inr rfl | assumption):SF X K b fs (.Assign [.Name y p'] e pos::rest) (.bind we k) out:=SF.set hN hi hx he hr hs hf
def sl(i:Nat){k:O PV->W T}(hN:X.N.Nodup)(he:LF X K fs e wl)(hr:∀l,SF X K b (fs.set i (al (.ol be l))) rest (k l) out)(hi:X.N[i]?=al y:=by rfl)(hx:Loc X.env.scope y:=by first | exact .inl rfl | exact .inr rfl)(hs:pr e (al (.Name y p')) pos.line X.env=pure false:=by rfl)
  (hf:ue X y:=by first | exact .inl rfl | exact .inr rfl | assumption):SF X K b fs (.Assign [.Name y p'] e pos::rest) (.bind wl k) out:=SF.Im hN hi hx he hr hs hf
end
end
end FL
variable{v:FL.EV}{m:PL.PV->FL.W PL.PV}{d:FL.DF}
namespace FL
section
variable[bj]
def Gv:(n:Nat)->(O bn->Prop)->Prop
 | 0,P=>P []
 | n+1,P=>∀x,Gv n λl=>P (x::l)
theorem usN:∀{n:Nat}{P:O bn->Prop},Gv n P->∀us:O bn,us.length=n->P us
 | 0,_,h,[],_=>h
 | n+1,_,h,x::l,e=>usN (h x) l (Nat.succ.inj e)
def DX.mk2(D:DX v.K d.x d.s)(X:v.K.In h)(G:h.Ns eM v.mg)
  (hb:∀(kV Ä pm:bn) (an:Option ce) (bh ct:bn) (us:O bn),us.length=d.ps.length->bindArgs (AV d.x d.x (bb d.s) (aH d.s) (af d.s) .none kV Ä pm an bh ct) ⟨us,[]⟩=pure (d.ps.zip us):=by exact λ_ _ _ _ _ _=>usN (by (repeat intro _);rfl)):Nonempty (DI v d):=by
 obtain⟨f,fd,a,F⟩:=D.ex;exact⟨⟨f,fd,F,F.binds hb,Cb X G a⟩⟩
def DX.go(D:DX v.K d.x d.s)(X:v.K.In h)(G:h.Ns eM v.mg){P:Prop}(k:∀D:DI v d,D.O)(r:d.C v->P)
  (hb:∀(kV Ä pm:bn) (an:Option ce) (bh ct:bn) (us:O bn),us.length=d.ps.length->bindArgs (AV d.x d.x (bb d.s) (aH d.s) (af d.s) .none kV Ä pm an bh ct) ⟨us,[]⟩=pure (d.ps.zip us):=by exact λ_ _ _ _ _ _=>usN (by (repeat intro _);rfl)):P:=by
 obtain⟨D⟩:=D.mk2 X G hb;exact r (D.c (k D))
def qI(K:Aa):Sp:=λvs H Q _=>TB H/\∃(a:ce) (ns:O Int),vs=[.ref a]/\tU K H a (ns.map V.int)/\ns.length<=63/\∀H',Q (.bl true) H'
def vg{K:Aa}(ok:∀ns:O Int,ns.length<=63->(m (.cl (ns.map PV.int))).run (·=.bl true)):∀vs H Q E,qI K vs H Q E->kS K [.v] (fh 1 m) vs H Q E:=λvs H Q E ⟨tb,a,ns,e,fz,hl,q⟩=>by
 subst e;refine⟨tb,[.cl (ns.map PV.int)],.v (.cl fz (kj _ _ ns)) .nil,(m (.cl (ns.map PV.int))).mono (λv e u H' _ r=>?_) (ok ns hl)⟩;subst e;cases r;exact q H'
structure Gw(K:Aa)(mg:Str->Option bn)(d:DF):Prop where
 f:∀v:EV,v.K=K->v.mg=mg->∀D:DI v d,D.O
def mkAll{l:PySem.W.OpenLaw}{K:Aa}{fa:ce}{st:lm}(ok:∀ns:O Int,ns.length<=63->(m (.cl (ns.map PV.int))).run (·=.bl true))(X:K.In h)(G:h.Ns eM mg)(Lc:mg "law"=al (.ref fa))(F5:DX K "law" st)
  (hb:∀(kV Ä pm:bn) (an:Option ce) (bh ct:bn) (us:O bn),us.length=1->bindArgs (AV "law" "law" (bb st) (aH st) (af st) .none kV Ä pm an bh ct) ⟨us,[]⟩=pure (([("_law_script":Str)]:O Str).zip us))
  (F:Gw K mg ⟨"law",st,["_law_script"],k,λK=>kS K [.v] (fh 1 m)⟩) :
  ∃fd:sn,(∀(s:ci) (v:bn),BindsTo s fd ⟨[v],[]⟩ [("_law_script",v)])/\∀base:gt,K.In base->base.Ns eM mg->bf l.prog w K mg base dS k fa fd ["_law_script"] (qI K):=by
 obtain⟨f,fd,a,F'⟩:=F5.ex;have e:=Lc.symm.trans (Cb X G a);cases e;obtain⟨oc,od,kV,Ä,pm,an,bh,ct,rG,rfl,_⟩:=id F'.ex;exact⟨AV "law" "law" (bb st) (aH st) (af st) .none kV Ä pm an bh ct,λs v=>.of_eq (hb kV Ä pm an bh ct [v] rfl),λbase _ _=>(F.f ⟨l.prog,w,K,mg,base⟩ rfl rfl ⟨_,_,F',(F'.binds (ps:=["_law_script"]) hb),Lc⟩).imp (vg ok)⟩
section
variable{K:Aa}{R:Type}{B:(O PV->W R)->W R}
def av(i:Nat){x:Str}{v:PV}(hr:AF X K fs es ks B)(hs:fs[i]?=al (al (.val v)):=by rfl)(hN:X.N[i]?=al x:=by rfl)(hv:o7 X.env.scope x:=by first | exact Bm rfl | exact BP (Bm rfl) | exact BP (BP rfl))(hd:dU x:=by decide)(ek:qq x:=by decide)
  (h:f8 (.Name x pos::es) X.env=(false,ii (.Name x pos) X.env)::f8 es X.env:=by rfl):AF X K fs (.Name x pos::es) (.v::ks) (λk=>.bind (.ret v) λx=>B λl=>k (x::l)):=ai (ag i hs hN hv hd ek) hr h
end
end
section
variable[bj]{K:Aa}
structure Lm where
 q:Str
 ar:Arguments
 bd:gl
 sc:ut
abbrev Lm.fn(L:Lm)(cl:O (Str×ce))(pm:bn)(cv ia:bn):sn:=PySem.W.kla_fn "<lambda>" L.q L.ar L.bd L.sc cl pm cv ia
abbrev Lm.ob(L:Lm)(cl:O (Str×ce))(pm:bn)(cv ia:bn):Obj:={cls:=.type "function",data:=.func (L.fn cl pm cv ia)}
def CodeO(o:Obj)(q:Str):Prop:=∃vs t,o.data=.fields vs/\vs[1]?=al (.str q t)
def LamIn(L:Lm)(ys:O Str)(base:gt)(a:ce)(us:O V)(fz:O (ce×Obj)):Prop:=∃cl pm c ia co,fz=[(a,L.ob cl pm (.ref c) ia),(c,co)]/\CodeO co L.q/\
 (∀x c,cl.lookup x=al c->∃v,base.IsCell c v)/\(∀x y c,cl.lookup x=al c->cl.lookup y=al c->x=y)/\∀(i:Nat) (y:Str),ys[i]?=al y->∃c v u,cl.lookup y=al c/\us[i]?=al v/\RelV v u/\base.IsCell c (al u)
structure LamS(ps ys:List Str)(sc:ut):Prop where
 kind:sc.kind=.function
 co:sc.isCoroutine=false
 gen:sc.isGenerator=false
 nd:(ps++ys).Nodup
 par:∀x∈ps,sc.names.lookup x=al .local
 fre:∀y∈ys,sc.names.lookup y=al .free
 noc:∀y∈sc.names,y.2≠.cell
 fin:∀y∈sc.names,y.2=.free->y.1∈ys
def cxL(P:lf)(w:o0)(K:Aa)(mg:Str->Option bn)(base:gt)(N:O Str)(L:Lm)(a:ce)(cl:O (Str×ce))(cv:bn)(A:re)(outer:O Env)(s:ci)(H:Hp):Cx where
 prog:=P
 w:=w
 K:=K
 mg:=mg
 base:=base
 A:=A.deeper (Ds L.q L.sc s.heap.objs.size a cv cl)
 N:=N
 s₀:=s
 H₀:=H
 env:=Ds L.q L.sc s.heap.objs.size a cv cl
 outer:=outer
 stack:=Ds L.q L.sc s.heap.objs.size a cv cl::outer
 ex:=[]
 calm:=true
 fn:=λ_=>false
 pn:=[]
 xe:=λ_ _=>False
theorem lookup_nd:∀{l:O (Str×β)}{x:Str}{u:β},(l.map (·.1)).Nodup->(x,u)∈l->l.lookup x=al u
 | (y,v)::l,x,u,nd,h=>by
  rw[List.map_cons,BJ]at nd;rw[AM];by_cases c:x=y
  ·subst c;rcases Ax.mp h with h | h
   ·cases h;simp
   ·exact absurd (List.mem_map.mpr ⟨_,h,rfl⟩) nd.1
  ·rw[beq_eq_false_iff_ne.mpr c];rcases Ax.mp h with h | h
   ·cases h;exact absurd rfl c
   ·exact lookup_nd nd.2 h
theorem zip_sub:∀(ps:O Str) (us:O bn),List.Sublist ((ps.zip us).map (·.1)) ps
 | [],_=>.slnil
 | _::_,[]=>List.nil_sublist _
 | p::ps,_::us=>(zip_sub ps us).cons₂ p
def zip_rev(nd:ps.Nodup){x:Str}{u:bn}(h1:ps[i]?=al x)(h2:us[i]?=al u):(ps.zip us).reverse.lookup x=al u:=by
 refine lookup_nd ?_ (List.mem_reverse.mpr (Ay (by rw[C8];exact⟨h1,h2⟩)));rw[List.map_reverse];exact(List.reverse_perm _).nodup_iff.mpr (nd.sublist (zip_sub ps us))
end
end FL
variable{o:Eh}{b:AR}{b0:Dx}
namespace L2
section
variable{σ:St}{s:ci}{cs:O ce}
def baseC(b0 h:gt)(cs:O ce):gt:=PySem.W.hideAll h ((BW h.objs.size).filter λb=>!(b0.get? b).isSome&&!cs.contains b)
def baseC_get(e:h.get? b=al o)(c:(∃o,b0.get? b=al o)\/b∈cs):(baseC b0 h cs).get? b=al o:=DY _ e λhm=>by
 have q:=(CP.mp hm).2;rw[BQ,Cw,Cw]at q;rcases c with⟨o',c⟩ | c
 ·rw[c]at q;simp at q
 ·have:=q.2;rw[DN.mpr c]at this;cases this
def of_baseC(e:(baseC b0 h cs).get? b=al o):h.get? b=al o/\((∃o,b0.get? b=al o)\/b∈cs):=by
 have e':=D4 _ e;refine⟨e',Classical.byContradiction λn=>?_⟩;have z:(baseC b0 h cs).get? b=be:=DR _ (CP.mpr ⟨DV.mpr (Al e'),by
  rw[BQ,Cw,Cw];refine⟨?_,?_⟩
  ·cases q:b0.get? b with
   | none=>rfl
   | some o=>exact absurd (.inl ⟨o,q⟩) n
  ·cases q:cs.contains b with
   | false=>rfl
   | true=>exact absurd (.inr (DN.mp q)) n⟩)
 rw[z]at e;cases e
theorem ff_base{b1:gt}:∀{l:O Env},h.FunFrames b0 l->(∀L∈frs l,b1.get? L=be)->h.FunFrames b1 l
 | [],_,_=>trivial
 | e::l,⟨h1,⟨L,o,h2,h3,h4⟩,h5⟩,n=>⟨h1,⟨L,o,h2,n L (by simp[frs,h2]),h4⟩,ff_base h5 λL hL=>n L (by
  unfold frs at hL ⊢;rw[Ca,h2];exact AA _ hL)⟩
def Inv.envC(I:Inv X U σ H s)(hc:∀c∈cs,∃x,X.fn x=true/\X.env.cells.lookup x=al c):kR X.prog X.w X.K X.mg (baseC X.base s.heap cs) X.A X.stack s H:=by
 have kp:∀b o,X.base.get? b=al o->(baseC X.base s.heap cs).get? b=al o:=λb o e=>baseC_get (I.bk b o e) (.inl ⟨o,e⟩);have e0:=I.yV;refine⟨e0.frames,⟨e0.mod.vm.keeps kp,e0.mod.glob.keeps kp,let ⟨mb,h1,h2⟩:=e0.mod.blt;⟨mb,h1.keeps kp,h2⟩,e0.mod.nolimit.keeps kp,let ⟨bm,ob,h1,h2,h3,h4⟩:=e0.mod.bm;⟨bm,ob,h1,h2,kp _ _ h3,h4⟩⟩,λb o e=>?_,Ea (DQ _ _),ff_base e0.eO λL hL=>?_,e0.vE,e0.aP,e0.bare⟩
 ·obtain⟨h1,⟨o',h2⟩ | h2⟩:=of_baseC e
  ·exact⟨h1,(I.bs b o' h2).2⟩
  ·obtain⟨x,_,hx⟩:=hc b h2;exact⟨h1,I.eA x b hx⟩
 ·cases z:(baseC X.base s.heap cs).get? L with
  | none=>rfl
  | some o=>
   obtain⟨h1,⟨o',h2⟩ | h2⟩:=of_baseC z
   ·rw[(e0.eO.mem hL).1]at h2;cases h2
   ·obtain⟨x,hf,hx⟩:=hc L h2;rcases Ax.mp (I.jT L hL) with h | h
    ·exact absurd h (I.xg x L hx)
    ·obtain⟨_,o2,h3,_⟩:=I.ok.eO.mem h;exact absurd (Au (Al h3) (I.ok.zF x L hf hx)) (A4 _)
def run_fnB{mi:gt}{CX:tV}{E:XK}{Q:VK}(F:bf X.prog X.w X.K X.mg mi CX k f fd ps sp)(e0:kR X.prog X.w X.K X.mg mi X.A X.stack s H)(hr:aZ k X.A)(hb:Binds X.K fd ps [])(hx:Passes CX X E)
  (I:Inv X U σ H s) (r:Vals vs us) (h:sp vs H Q E):db (em X.prog X.w) X.A (call (.ref f) us) (EP X U σ Q) X.xe s:=by
 have hl:(us++[]).length=ps.length:=by rw[Bf,<- r.length];exact F.len _ _ _ _ h
 have JL:=hb s us I.eN hl;rw[Bf]at JL;refine wpAny_call (wT (F.run X.A X.stack s H ⟨us,[]⟩ us vs Q E hr e0 JL r h) λr s' hq=>?_);cases r with
 | error e=>exact hx U σ H s e s' I hq
 | ok fl=>
  cases fl with
  | ret u=>exact I.after hq
  | next=>exact AJ hq
  | brk=>exact AJ hq
  | cont=>exact AJ hq
end
end L2
namespace FL
section
variable[bj]{K:Aa}
theorem triples_add{x y:Int}{c:bn}(n:Nat):∀l:O bn,l.length<=n->TriplesOk l->TriplesOk (l++[im x,im y,c])/\∀pos d,wP pos (l++[im x,im y,c])=al d->wP pos l=al d\/d=c:=by
 induction n with
 | zero=>
  intro l hl _;have:l=[]:=A8 ∅;subst this;refine⟨by simp[im,TriplesOk],λpos d h=>?_⟩;rw[List.nil_append]at h;simp only[im,wP]at h
  split at h
  ·cases h;exact .inr rfl
  ·cases h
 | succ n ih=>
  intro l hl h;by_cases c1:l=[]
  ·subst c1;exact ih [] (Bw _) h
  by_cases c2:∃i t j u e r,l=.int i t::.int j u::e::r
  ·obtain⟨i,t,j,u,e,r,rfl⟩:=c2;obtain⟨h1,h2⟩:=ih r (by simp at hl;omega) h;refine⟨?_,λpos d hd=>?_⟩
   ·show TriplesOk (.int i t::.int j u::e::(r++_));exact h1
   ·have hd:wP pos (.int i t::.int j u::e::(r++[im x,im y,c]))=al d:=hd;rw[codeAmong.eq_1]at hd ⊢;by_cases z:(i==↑pos.line&&j==↑pos.col)=true
    ·rw[if_pos z]at hd ⊢;exact .inl hd
    ·rw[if_neg z]at hd ⊢;exact h2 pos d hd
  ·rw[TriplesOk.eq_3 l c1 λi t j u e r z=>c2 ⟨i,t,j,u,e,r,z⟩]at h;exact h.elim
def TabIs(P:ce)(q:Str):Prop:=(P,q)∈bj.ts/\∀p∈bj.ts,p.1=P->p.2=q
structure LamK(K:Aa)(mg:Str->Option bn)(bh:bn)(P:ce):Prop where
 hd:∃c,bh=.ref c/\∀h:gt,K.In h->PySem.W.CodeHd h c P
def LamNow(X:Cx)(L:Lm)(a:ce)(fz:O (ce×Obj)):Prop:=∃cl pm c ia co,fz=[(a,L.ob cl pm (.ref c) ia),(c,co)]/\CodeO co L.q/\(∀x c,cl.lookup x=al c->X.env.cells.lookup x=al c/\(x,.free)∈L.sc.names)/\∀x,(x,.free)∈L.sc.names->∃c,cl.lookup x=al c
section
variable{s:ci}{P:ce}{L:Lm}
def lam_laid{pm ia:bn}{c tk:Nat}{co:Obj}{u0:HO}(I:Inv X U σ H {s with heap:=h',toks:=tk})(tb:TB H)(hc:H c=al (.bX co u0))(FG:CodeO co L.q)(h1:∀x c,cl.lookup x=al c->X.env.cells.lookup x=al c/\(x,.free)∈L.sc.names)(h2:∀x,(x,.free)∈L.sc.names->∃c,cl.lookup x=al c)
  (h:∀a fz H' s',Inv X U σ H' s'->LamNow X L a fz->o8 H' fz->TB H'->cI H H'->Q (.ref a) s'):Q (.ref h'.objs.size) {s with heap:=h'.push (L.ob cl pm (.ref c) ia),toks:=tk}:=by
 have hn:H h'.objs.size=be:=I.aP.fresh (Aj _);have I2:=I.laid (a:=h'.objs.size) (o:=.bX (L.ob cl pm (.ref c) ia) (.own 0)) (t':=tk) (h':=h'.push (L.ob cl pm (.ref c) ia)) (λb u z=>Ae _ z) (Aj _) ⟨An _ rfl,_,An _ rfl⟩;have sm:=fw hn (.bX (L.ob cl pm (.ref c) ia) (.own 0));refine h _ [(h'.objs.size,L.ob cl pm (.ref c) ia),(c,co)] _ _ I2 ⟨cl,pm,c,ia,co,rfl,FG,h1,h2⟩ (λp hp=>?_) (tb.same sm) sm;simp only[Ax,CA,or_false]at hp;rcases hp with rfl | rfl
 ·exact⟨_,aB⟩
 ·exact⟨u0,sm _ _ hc⟩
def lam_ok(I:Inv X U σ H s)(tb:TB H)(hK:LamK X.K X.mg X.env.code P)(hq:L.q=X.env.qual++"<lambda>")(hP:TabIs P L.q)(hd:defaultsOf L.ar X.env=([],[]))(hf:∀y∈L.sc.names,y.2=.free->X.env.kindOf y.1=al .cell\/X.env.kindOf y.1=al .free)
  (h:∀a fz H' s',Inv X U σ H' s'->LamNow X L a fz->o8 H' fz->TB H'->(∀b o,H b=al o->o.nt=true->H' b=al o)->(∀b,H' b=be->H b=be)->Q (.ref a) s'):db (em X.prog X.w) X.A (ii (.Lambda L.ar L.bd L.sc pos) X.env) Q X.xe s:=by
 obtain⟨ps,eP,tr,ck⟩:=tb _ hP.1;obtain⟨c,Lf,LC⟩:=hK.hd;obtain⟨cl,oJ,gX,ny⟩:=eV λy hy hk=>I.ok.has y.1 (hf y hy hk);have hg:=I.mod.glob.keeps I.bk;have GY:=I.aP P _ eP;have NU:eM≠P:=λz=>by
  obtain⟨o,es,ep,g1,g2,_⟩:=hg;rw[z,GY]at g1;cases g1;cases g2
 have bl:s.heap.BuiltinsAt X.mg P:=by
  obtain⟨bm,ob,b1,b2,b3,b4,b5,b6⟩:=I.mod.bm;have b7:=I.bk _ _ b3;refine⟨bm,ob,b1,b2,λz=>?_,λz=>?_,b7,b4,b5,b6⟩
  ·obtain⟨o,es,ep,g1,g2,_⟩:=hg;rw[z,g1]at b7;cases b7;rw[g2]at b6;cases b6
  ·rw[z,GY]at b7;cases b7;cases b4
 refine PySem.W.kla_eval hd ?_;rw[<- hq];cases e:wP pos ps.toList with
 | some cv=>
  obtain⟨ca,co,u,vs,t,rfl,e1,e2,e3⟩:=ck pos cv e;exact PySem.W.kla_makeFunctionHit oJ I.ok.glob hg Lf (LC _ I.eN) GY tr e bl λia h' tk kp pZ=>lam_laid (I.kept kp) tb e1 ⟨vs,t,e2,e3⟩ gX ny λa fz H' s' I' n z t' sm=>h a fz H' s' I' n z t' (λb o z _=>sm b o z) λb z=>sm.free z
 | none=>
  refine PySem.W.kla_makeFunction oJ I.ok.glob hg Lf (LC _ I.eN) GY tr e NU bl λc' ia h' tk ext h1 h2 cr GZ=>?_;obtain⟨_,co,vs,t,e0,e1,e2,e3⟩:=cr;cases e0;have hn:=I.aP.fresh h1;have cP:c'≠P:=λz=>by subst z;rw[hn]at eP;cases eP
  obtain⟨L9,Oq⟩:=triples_add (x:=pos.line) (y:=pos.col) (c:=.ref c') _ _ (Aj _) tr;have G4:upd (upd H P (.gQ (ps++#[im pos.line,im pos.col,.ref c']))) c' (.bX co (.own 0)) P=al (.gQ (ps++#[im pos.line,im pos.col,.ref c'])):=by rw[ah (Cg cP)];exact aB
  have ot:∀b u,b≠P->H b=al u->upd (upd H P (.gQ (ps++#[im pos.line,im pos.col,.ref c']))) c' (.bX co (.own 0)) b=al u:=λb u n z=>by
   rw[ah (aJ z hn),ah n];exact z
  have qw:upd (upd H P (.gQ (ps++#[im pos.line,im pos.col,.ref c']))) c' (.bX co (.own 0)) c'=al (.bX co (.own 0)):=aB;have on:∀b,b≠c'->H b=be->upd (upd H P (.gQ (ps++#[im pos.line,im pos.col,.ref c']))) c' (.bX co (.own 0)) b=be:=λb n z=>by
   rw[ah n,ah (λy=>by subst y;rw[z]at eP;cases eP)];exact z
  have inv:∀b u,upd (upd H P (.gQ (ps++#[im pos.line,im pos.col,.ref c']))) c' (.bX co (.own 0)) b=al u->(b=c'/\u=.bX co (.own 0))\/(b=P/\u=.gQ (ps++#[im pos.line,im pos.col,.ref c']))\/(b≠P/\H b=al u):=λb u z=>by
   by_cases y1:b=c'
   ·subst y1;rw[aB]at z;cases z;exact .inl ⟨rfl,rfl⟩
   ·rw[ah y1]at z;by_cases y2:b=P
    ·subst y2;rw[aB]at z;cases z;exact .inr (.inl ⟨rfl,rfl⟩)
    ·rw[ah y2]at z;exact .inr (.inr ⟨y2,z⟩)
  generalize upd (upd H P (.gQ (ps++#[im pos.line,im pos.col,.ref c']))) c' (.bX co (.own 0))=H1 at G4 ot qw on inv;have zl:∀b u,H b=al u->u.nt=true->b≠P:=λb u z nt y=>by subst y;rw[eP]at z;cases z;cases nt
  have ext':∀b o,H b=be->s.heap.get? b=al o->h'.get? b=al o:=λb o n z=>ext b o (λy=>by subst y;rw[n]at eP;cases eP) z;have un:Un X.fs [] H H1 s.heap h':=by
   refine⟨λb o z n _ _=>ext' b o n z,λb o z n _ _=>⟨o.slots,ext' b o n z⟩,λb o z n _=>on b ((λb o z=>AE (Au (Al z) h1)) b o z) n,λb o z _=>?_,λb xs z=>ot b _ (zl b _ z rfl) z,λb o u z=>ot b _ (zl b _ z rfl) z,λb qs z=>?_⟩
   ·by_cases y:b=P
    ·subst y;exact⟨_,GZ⟩
    ·exact⟨o,ext b o y z⟩
   ·by_cases y:b=P
    ·subst y;rw[eP]at z;cases z;exact⟨_,G4⟩
    ·exact⟨#[],by rw[ot b _ y z];simp⟩
  have aP:gj X.prog X.w H1 h':=λb u z=>by
   rcases inv b u z with⟨rfl,rfl⟩ | ⟨rfl,rfl⟩ | ⟨y,z⟩
   ·exact⟨e1,_,e1⟩
   ·exact GZ
   ·refine(I.aP b u z).k8 (λd v hd q=>ext d v (λw=>?_) q) (λd q=>ot d _ (zl d _ q rfl) q) λd xs q=>ot d _ (zl d _ q rfl) q;rcases hd with hd | hd
    ·exact y (hd.symm.trans w)
    ·subst w;rw[eP]at hd;cases hd
  have HW:TB H1:=λp hp=>by
   obtain⟨qs,k1,k2,k3⟩:=tb p hp;have KJ:∀cv,Kz H cv p.2->Kz H1 cv p.2:=λcv ⟨a,o,u,vs,t,f1,f2,f3,f4⟩=>⟨a,o,u,vs,t,f1,ot a _ (zl a _ f2 rfl) f2,f3,f4⟩;by_cases y:p.1=P
   ·rw[y,eP]at k1;cases k1;refine⟨_,by rw[y];exact G4,by simpa using L9,λÉ d hd=>?_⟩;rcases Oq É d (by simpa using hd) with z | rfl
    ·exact KJ _ (k3 É d z)
    ·rw[hP.2 p hp y];exact⟨c',co,_,vs,t,rfl,qw,e2,e3⟩
   ·exact⟨qs,ot _ _ y k1,k2,λÉ d z=>KJ _ (k3 É d z)⟩
  exact lam_laid (L:=L) (s:=s) (I.un (t':=tk) un aP) HW qw ⟨vs,t,e2,e3⟩ gX ny λa fz H' s' I' n z t' sm=>h a fz H' s' I' n z t' (λb o z nt=>sm b o (ot b o (zl b o z nt) z)) λb z=>by
   have z':=sm.free z;cases y:H b with
   | none=>rfl
   | some u=>
    by_cases w:b=P
    ·subst w;rw[G4]at z';cases z'
    ·rw[ot b u w y]at z';cases z'
end
def capV(is:O Nat)(σ:L2.St):O V:=is.map λi=>((σ[i]?).join).getD .aL
def fAL(X:Cx)(K:Aa)(fs:aX)(L:Lm)(is:O Nat)(qs:O PV)(k1 k2:O AK)(w:W (O PV)):TA:=λσ H Q=>aG K H σ fs/\w.run λl=>∀vs H' a fz,bM σ fs H H'->aG K H' σ fs->LamNow X L a fz->o8 H' fz->bN K σ fs H' vs (k1++.f a (capV is σ) qs fz::k2) l->Q vs H'
structure AFL(X:Cx)(K:Aa)(fs:aX)(es:List gl)(L:Lm)(is:List Nat)(qs:List PV)(k1 k2:List AK){R:Type}(B:(List PV->W R)->W R):Prop where
 p:∃w:W (List PV),PA X es (fAL X K fs L is qs k1 k2 w)/\∀k,B k=am w k
section
variable{p:Pos}{L:Lm}{qs:O PV}{k1 k2:O AK}{R:Type}{B:(O PV->W R)->W R}{P:ce}
theorem cap_vrs(sr:aG K H σ fs):∀{is:O Nat}{qs:O PV},is.map (λi=>fs[i]?)=qs.map (λq=>al (al (SL.val q)))->ay K [] H (capV is σ) qs
 | [],[],_=>.nil
 | [],_::_,h=>by simp at h
 | _::_,[],h=>by simp at h
 | i::is,q::qs,h=>by
  injection h with h1 h2;obtain⟨u,e1,r⟩:=sr.at' i _ h1;rcases r with⟨v,e,r⟩ | ⟨a,_,r⟩
  ·cases e;refine .cons ?_ (cap_vrs sr h2);show VR K [] H (((σ[i]?).join).getD .aL) q;rw[e1];exact r
  ·exact r.elim
def CapN(N:O Str)(so sl:ut)(is:O Nat)(ys:O Str):Prop:=is.map (λi=>N[i]?)=ys.map al/\(∀y∈ys,so.names.lookup y=al .cell/\(y,AO)∈sl.names)/\∀y∈sl.names,y.2=.free->y.1∈ys
instance {N:O Str}{so sl:ut}{is:O Nat}{ys:O Str}:Decidable (CapN N so sl is ys):=inferInstanceAs (Decidable (_/\_/\_))
def al_lam{ar:Arguments}{bd:gl}(q:Str)(ys:O Str)(hK:LamK X.K X.mg X.env.code P)(hP:TabIs P q)(hN:CapN X.N X.env.scope sc is ys)(hr:AF X K fs es k2 B)(hc:is.map (λi=>fs[i]?)=qs.map λq=>al (al (SL.val q)):=by rfl)(hq:q=X.env.qual++"<lambda>":=by rfl)(hd:defaultsOf ar X.env=([],[]):=by rfl)
  (kl:f8 (.Lambda ar bd sc pos::es) X.env=(false,ii (.Lambda ar bd sc pos) X.env)::f8 es X.env:=by rfl):AFL X K fs (.Lambda ar bd sc pos::es) ⟨q,ar,bd,sc⟩ is qs [] k2 B:=by
 obtain⟨w,hp,hB⟩:=hr.p;refine⟨w,λÉ U s σ H Q I ⟨sr,q⟩=>?_,hB⟩;refine BE (lam_ok (L:=⟨_,ar,bd,sc⟩) I sr.tb hK hq hP hd (λy hy hk=>.inl (hN.2.1 _ (hN.2.2 y hy hk)).1) λa fz H1 s1 I1 now z1 HW kp th=>?_);have g1:bM σ fs H H1:=⟨λb o e _ nt=>kp b o e nt,th⟩;have tk:=g1.bI sr;have zi:aG K H1 σ fs:=⟨sr.len,λi t e=>let ⟨u,h1,h2⟩:=sr.at' i t e;⟨u,h1,h2.mono tk λx b o _ _ _ z nt=>kp b o z nt⟩,sr.nd,HW⟩;refine aR (hp É U s1 σ H1 (λvs H2=>Q (.ref a::vs) H2) I1 ⟨zi,w.mono (λl q1 vs H2 g2 s2 r2=>?_) q⟩) λus s2 ⟨vs,H2,I2,r2,q2⟩=>⟨.ref a::vs,H2,I2,.cons rfl r2,q2⟩;have z2:=z1.tk (g2.bI zi);exact q1 _ H2 a fz (g1.trans g2) s2 now z2 (.f (cap_vrs s2 hc) z2 r2)
def al_cons{w:W PV}(ha:EF X K fs e w)(hr:AFL X K fs es L is qs k1 k2 B)(kl:c6 X e es:=by rfl):AFL X K fs (e::es) L is qs (.v::k1) k2 (λk=>.bind w λx=>B λl=>k (x::l)):=by
 obtain⟨wr,hp,hB⟩:=hr.p;exact⟨.bind w λx=>.bind wr λl=>.ret (x::l),PA.imp (ae ha.p hp kl) λσ H Q ⟨sr,q⟩=>⟨sr,w.mono (λx q1 u1 H1 g1 s1 v1=>⟨s1,wr.mono (λl q2 vs H2 a fz g2 s2 n z v2=>q2 _ H2 a fz (g1.trans g2) s2 n z (.v (g2.vr s1 v1) v2)) q1⟩) q⟩,λk=>by simp[hB]⟩
theorem e_callLam{ys:O Str}{x:Str}{m:O PV->W PV}{B:(O PV->W PV)->W PV}(bi:Binds X.K fd ps [])(kp:AZ X.K (.ref f)=true)(hm:X.mg x=al (.ref f))
  (G:∀mi a us fz,LamIn L ys mi a us fz->us.length=qs.length->bf X.prog X.w X.K X.mg mi dS k f fd ps (kS K (k1++.f a us qs fz::k2) m)) (yE:∀y,X.fn y=true) (hN:CapN X.N X.env.scope L.sc is ys) (hc:is.map (λi=>fs[i]?)=qs.map λq=>al (al (SL.val q))) (hr:aZ k' X.A) (ha:AFL X K fs (e::es) L is qs k1 k2 B) (hk:k<=k':=by first | exact BZ rfl | exact Aj _ | omega) (hW:W'=B m:=by rfl) (hg:Gl X x:=by rfl) (ej:dU x:=by decide)
  (he:c6 X e es:=by rfl) (bH:eR X pos es:=by rfl):EF X K fs (.Call (.Name x p) (e::es) [] pos) W':=by
 subst hW;obtain⟨w,hp,hB⟩:=ha.p;rw[hB];refine⟨λU s σ H Q I ⟨sr,q⟩=>?_⟩;refine AW (hU I hg hm ?_ ej);refine BS I.ok.mod.vm kp (aR (hp pos U s σ H (λvs H1=>∃a fz l,aG K H1 σ fs/\LamNow X L a fz/\bN K σ fs H1 vs (k1++.f a (capV is σ) qs fz::k2) l/\(m l).run λz=>∀u H2,zG vs (k1++.f a (capV is σ) qs fz::k2) H1 H2->VR K [] H2 u z->Q u H2) I ⟨sr,w.mono (λl q1 vs H1 a fz g1 s1 n z r=>⟨a,fz,l,s1,n,r,(m l).mono (λz q2 u H2 g2 r2=>let ⟨s2,g3⟩:=g2.caller r s1;q2 u H2 (g1.trans g3) s2 r2) q1⟩) q⟩)
  λus s1 ⟨vs,H1,I1,r,a,fz,l,zi,⟨cl,pm,c,ia,co,N5,FG,h1,h2⟩,ar,q1⟩=>⟨I1.eN,?_⟩) he bH
 obtain⟨NR,JO,NQ⟩:=hN;have cin:∀x c,cl.lookup x=al c->c∈ys.filterMap λy=>cl.lookup y:=λx c z=>Cj.mpr ⟨x,(λx c z=>NQ _ (h1 x c z).2 rfl) x c z,z⟩;have e1:=I1.envC (cs:=ys.filterMap λy=>cl.lookup y) λc hc=>by
  obtain⟨y,hy,z⟩:=Cj.mp hc;exact⟨y,yE y,(h1 y c z).1⟩
 have bc:∀x c v,cl.lookup x=al c->s1.heap.IsCell c v->(baseC X.base s1.heap (ys.filterMap λy=>cl.lookup y)).IsCell c v:=λx c v z ⟨o,z1,z2⟩=>⟨o,baseC_get z1 (.inr (cin x c z)),z2⟩;have Â:is.length=qs.length:=by have:=congrArg CH hc;simpa using this
 have MR:LamIn L ys (baseC X.base s1.heap (ys.filterMap λy=>cl.lookup y)) a (capV is σ) fz:=by
  refine⟨cl,pm,c,ia,co,N5,FG,λx c z=>?_,λx y c z1 z2=>I.ok.inj x y c (h1 x c z1).1 (h1 y c z2).1,λi y hy=>?_⟩
  ·obtain⟨v,hv⟩:=I1.cell x c (h1 x c z).1;exact⟨v,bc x c v z hv⟩
  ·obtain⟨c',qw⟩:=h2 y (JO y (Ay hy)).2;have tZ:(is.map λi=>X.N[i]?)[i]?=al (al y):=by rw[NR,Ao,hy];rfl
   rw[Ao]at tZ;cases z:is[i]? with
   | none=>rw[z]at tZ;cases tZ
   | some j=>
    rw[z]at tZ;have vA:(is.map λi=>fs[i]?)[i]?=al (fs[j]?):=by rw[Ao,z];rfl
    rw[hc,Ao]at vA;cases zq:qs[i]? with
    | none=>rw[zq]at vA;cases vA
    | some qv=>
     rw[zq]at vA;obtain⟨v,e2,_⟩:=zi.at' j _ ((Option.some.inj vA).symm);obtain⟨mm,_,hl⟩:=I1.loc;obtain⟨u,ru,lk⟩:=hl j y v (Option.some.inj tZ) e2 (.inr (.inl (JO y (Ay hy)).1));refine⟨c',v,u,qw,?_,ru,?_⟩
     ·unfold capV;rw[Ao,z];show al (((σ[j]?).join).getD .aL)=al v;rw[e2];rfl
     ·rcases lk with⟨k0,_⟩ | ⟨_,c2,k1,k2⟩
      ·have k0:X.env.scope.names.lookup y=al .local:=k0;rw[(JO y (Ay hy)).1]at k0;cases k0
      ·rw[(h1 y c' qw).1]at k1;cases k1;exact bc y c' _ qw k2
 exact run_fnB (G _ a _ fz MR (by unfold capV;rw[Aq];exact Â)) e1 (hr.mono hk) bi dc I1 r ⟨zi.tb,l,ar.c zi,q1⟩
end
end
end FL
variable{o:Option L2.HO}{ns:O Int}{ts:O AR}
namespace L2
def Fun.okc{K:Aa}{x:Str}{st:lm}{N:O Str}(F:Fun K x qual st f fd)(S:br N ps (af st))(len:∀vs H Q E,sp vs H Q E->vs.length=ps.length)
  (lR:∀(bh:bn) (A:re) (outer:O Env) (s:ci) (H:Hp) (vs:O V) (Q:VK) (E:XK),fd.code=bh->aZ k (A.deeper (sB qual (af st) s.heap.objs.size f bh))->sp vs H Q E->
   ∃t,PSs (gZ dS P w K mg base N qual (af st) f bh A outer s H E).rS (aH st) t/\t {nx:=λ_ H'=>Q .aL H',rt:=Q} (start N vs) H):bf P w K mg base dS (k+1) f fd ps sp:=by
 obtain⟨oc,od,kV,Ä,pm,an,bh,ct,rG,rfl,lk,ek⟩:=F.ex;refine wV lk ek S len λA outer s H vs Q E hr p5=>?_;obtain⟨t,h,q⟩:=lR bh A outer s H vs Q E rfl hr p5;exact⟨t,h.rS,q⟩
def tabH(ts:O ce)(a:ce)(o:Option HO):Hp:=λb=>if b∈ts then al (.gQ #[]) else if b=a then o else be
def tabH_t(h:b∈ts):tabH ts a o b=al (.gQ #[]):=if_pos h
def tabH_a(h:a∉ts):tabH ts a o a=o:=by unfold tabH;rw[if_neg h,if_pos rfl]
def tabH_inv{u:HO}(h:tabH ts a o b=al u):(b∈ts/\u=.gQ #[])\/(b=a/\o=al u):=by
 unfold tabH at h;by_cases c:b∈ts
 ·rw[if_pos c]at h;cases h;exact .inl ⟨c,rfl⟩
 ·rw[if_neg c]at h;by_cases d:b=a
  ·rw[if_pos d]at h;exact .inr ⟨d,h⟩
  ·rw[if_neg d]at h;cases h
def law_callT{K:Aa}{mb:Str->Option bn}{fa:ce}{x:Str}{s₁:ci}{vs:O bn}
  (KX:K.In s₁.heap) (G1:s₁.heap.Ns eM mg) (hb:s₁.heap.Ns wn mb) (NK:∀x:Str,x≠"__name__"->mb x=jp x) (Jx:s₁.heap.NoLimit) (NI:∃bm ob,mg "__builtins__"=al (.ref bm)/\bm≠wn/\s₁.heap.get? bm=al ob/\ob.cls=.type "module"/\ob.dict=al wn/\ob.data=.plain) (hg:s₁.gens=#[])
  (ha:s₁.heap.get? a=al {cls:=.type "list",data:=.seq vs.toArray}) (hi:IntsAre vs ns) (hl:ns.length<=sizeLine) (hr:aZ k callerA) (ht:∀P∈ts,s₁.heap.get? P=al (DP #[])) (Ng:∀P∈ts,K.lookup P=be) (Nh:∀P∈ts,isCodeTable s₁.heap P)
  (F:∀base:gt,K.In base->base.Ns eM mg->bf P w K mg base dS k fa fd [x] sp) (FH:∀(s:ci) (u:bn),BindsTo s fd ⟨[u],[]⟩ [(x,u)])
  (p5:∀H:Hp,(∀P∈ts,H P=al (.gQ #[]))->PL.tU K H a (ns.map V.int)->sp [.ref a] H (λv _=>v=.bl true) λ_ _ _=>False) :
  ww (em P w) callerA (.call (.ref fa) ⟨[.ref a],[]⟩) (λr s'=>r=.ok (.ret (.bool true))/\OldK s₁.heap s'.heap/\s'.os=s₁.os/\xL s'.gens) s₁:=by
 have rv:=jy hi;have IX:=hi.length;have Ü:∀H:Hp,(∀P∈ts,H P=al (.gQ #[]))->PL.tU K H a (ns.map V.int)->gj P w H s₁.heap->(∀b o,H b=al o->(b∈ts/\o=.gQ #[])\/(b=a/\K.lookup a=be/\∃o' u,o=.bX o' u))->
   ww (em P w) callerA (.call (.ref fa) ⟨[.ref a],[]⟩) (λr s'=>r=.ok (.ret (.bool true))/\OldK s₁.heap s'.heap/\s'.os=s₁.os/\xL s'.gens) s₁:=by
  intro H hT hS aP hA;have kF:∀{b:ce}{o:Obj},s₁.heap.get? b=al o->H b=be->(kn s₁.heap H).get? b=al o:=λe n=>sI e n;have E5:∀{b:ce}{o:Obj}{es:Array DictEntry}{ep:Nat},s₁.heap.get? b=al o->o.data=.dict es ep->H b=be:=λ{b o es ep} e d=>by
   cases q:H b with
   | none=>rfl
   | some u=>
    rcases hA b u q with⟨z,_⟩ | ⟨z,_⟩
    ·rw[ht b z]at e;cases e;cases d
    ·subst z;rw[ha]at e;cases e;cases d
  have GL:∀{b:ce}{m:Str->Option bn},s₁.heap.Ns b m->(kn s₁.heap H).Ns b m:=λ{b m} ⟨o,es,ep,e,d,r⟩=>⟨o,es,ep,kF e (E5 e d),d,r⟩;have Ll:K.In (kn s₁.heap H):=λb o e=>kF (KX b o e) (by
   cases q:H b with
   | none=>rfl
   | some u=>
    rcases hA b u q with⟨z,_⟩ | ⟨z,z2,_⟩
    ·rw[Ng b z]at e;cases e
    ·subst z;rw[z2]at e;cases e)
  have hM:Mod K mg (kn s₁.heap H):=⟨Ll,GL G1,⟨mb,GL hb,NK⟩,let ⟨mc,h1,h2⟩:=Jx;⟨mc,GL h1,h2⟩,let ⟨bm,ob,h1,h2,h3,h4,h5,h6⟩:=NI;⟨bm,ob,h1,h2,kF h3 (by
   cases q:H bm with
   | none=>rfl
   | some u=>
    rcases hA bm u q with⟨z,_⟩ | ⟨z,_⟩
    ·rw[ht bm z]at h3;cases h3;cases h6
    ·subst z;rw[ha]at h3;cases h3;cases h6),h4,h5,h6⟩⟩
  have e0:kR P w K mg (kn s₁.heap H) callerA [] s₁ H:=⟨rfl,hM,λb o e=>uW e,Ea (p7 _ _),trivial,λb hb=>absurd (show b∈([]:O ce) from hb) (by simp),aP,.of_eq hg⟩;refine wT ((F _ Ll (GL G1)).run callerA [] s₁ H ⟨[.ref a],[]⟩ [.ref a] [.ref a] _ _ hr e0 (FH s₁ (.ref a)) (.cons rfl .nil) (p5 H hT hS)) λr s' h=>?_;cases r with
  | error e=>exact h.elim
  | ok fl=>
   cases fl with
   | next=>exact AJ h
   | brk=>exact AJ h
   | cont=>exact AJ h
   | ret u=>
    obtain⟨v,H',os,bare,un,Fz,r',q⟩:=h;have q':v=.bl true:=q;subst q';obtain rfl:u=Ci true:=r';refine⟨rfl,⟨λb o e=>?_,λb o e=>un.there b o e (by simp)⟩,os,bare⟩;cases q:H b with
    | none=>exact .inl (un.keep b o e q (by intro z;exact absurd (show b∈([]:O ce) from z) (by simp)) (by simp))
    | some u=>
     rcases hA b u q with⟨z,rfl⟩ | ⟨z,_,o',u',rfl⟩
     ·obtain⟨more,h2⟩:=un.jS b _ q;have h3:s'.heap.get? b=al (DP (#[]++more)):=Fz b _ h2;rw[ht b z]at e;cases e;exact .inr (.inl ⟨Nh b z,rfl,#[],more,rfl,h3⟩)
     ·have z2:=un.ku b _ _ q;obtain⟨e1,_⟩:=aP b _ q;obtain⟨e2,_⟩:=Fz b _ z2;rw[e]at e1;cases e1;exact .inl e2
 have MP:a∉ts:=λz=>by rw[ht a z]at ha;cases ha
 cases hk:K.lookup a with
 | some o=>
  have e:=KX a o hk;rw[ha]at e;cases e;refine Ü (tabH ts a be) (λb hb=>tabH_t hb) (.inr ⟨_,vs.toArray,_,hk,rfl,rfl,rfl,by rw[Af,IX];exact hl,by simpa using rv⟩) (λb u z=>?_) λb u z=>?_
  ·rcases tabH_inv z with⟨y,rfl⟩ | ⟨_,y⟩
   ·exact ht b y
   ·cases y
  ·rcases tabH_inv z with⟨y,rfl⟩ | ⟨_,y⟩
   ·exact .inl ⟨y,rfl⟩
   ·cases y
 | none=>
  refine Ü (tabH ts a (al (.bX {cls:=.type "list",data:=.seq vs.toArray} (.lst (ns.map V.int))))) (λb hb=>tabH_t hb) (.inl ⟨{cls:=.type "list",data:=.seq vs.toArray},tabH_a MP⟩) (λb u z=>?_) λb u z=>?_
  ·rcases tabH_inv z with⟨y,rfl⟩ | ⟨rfl,y⟩
   ·exact ht b y
   ·cases y;exact⟨ha,by rw[Aq];exact hl,vs,_,rv,ha⟩
  ·rcases tabH_inv z with⟨y,rfl⟩ | ⟨rfl,y⟩
   ·exact .inl ⟨y,rfl⟩
   ·cases y;exact .inr ⟨rfl,hk,_,_,rfl⟩
end L2
variable{P:AR}
namespace FL
section
variable[bj]
abbrev EV.at(v:EV)(b:gt):EV:=⟨v.P,v.w,v.K,v.mg,b⟩
def DI.at(D:DI v d)(b:gt):DI (v.at b) d:=⟨D.f,D.fd,D.fn,D.bi,D.at'⟩
def mkVc{x:Str}{st:lm}{m:mG PV n}(D:DI v ⟨x,st,mC st,k+1,λK=>kS K ks (fh n m)⟩)(hc:LamK v.K v.mg D.fd.code P)
  (Å:∀{bh:bn}{A:re}{outer:O Env}{s:ci}{H:Hp}{E:XK},LamK v.K v.mg bh P->aZ k (A.deeper (sB x (af st) s.heap.objs.size D.f bh))->(mD st).Nodup->qt n (λl w=>SF (gZ dS v.P v.w v.K v.mg v.base (mD st) x (af st) D.f bh A outer s H E).rS v.K false (i5 ks l (mD st).length) (aH st) w .rt) m)
  (vw:ks.length=(mC st).length:=by rfl) (one:Nat.ble (lE ks) 1=true:=by rfl) (S:br (mD st) (mC st) (af st):=by exact oM):D.O:=by
 refine D.fn.okc S (λvs H Q E h=>?_) (λbh A outer s H vs Q E ec hr h=>?_)
 ·obtain⟨_,l,h,_⟩:=h;rw[h.len];exact vw
 obtain⟨tb,l,h,q⟩:=h;subst ec;exact⟨_,((Å hc hr S.nd).all l (dm q)).p,h.Kq tb (iA one) (mD st),(fh n m l).mono (λv q1 u σ' aK H' g s' r=>q1 u H' (h.go g s') r) q⟩
def CodeV(vs:Array bn)(c P:ce):Prop:=∃Ö tf Ò tg Jl text tt,vs[11]?=al (.ref P)/\vs.getD 11 .none=.ref P/\vs.getD 18 .none=.str Ö tf/\vs.getD 7 .none=.int Ò tg/\vs.getD 9 .none=.bool Jl/\vs.getD 10 .none=.int text tt/\c≠P
structure DXc(K:Aa)(x:Str)(st:lm)(P:ce):Prop where
 ex:∃f fd,AD K eM x=al (al (.ref f))/\Fun K x x st f fd/\∃c,fd.code=.ref c/\(∀h:gt,K.In h->PySem.W.CodeHd h c P)/\∀h:gt,K.In h->isCodeTable h P
def dxc{K:Aa}{x:Str}{st:lm}{c:ce}{cd:Option ce}{sl:Array (Option bn)}{kV:bn}{vs:Array bn}(a:AD K eM x=al (al (.ref f)))(l:K.lookup f=al ⟨oc,od,.func (AV x x (bb st) (aH st) (af st) .none kV Ä pm an (.ref c) ct),rG⟩)
  (h:BC K (.ref c) x=true) (k:AZ K (.ref f)=true) (e:K.lookup c=al ⟨.type "code",cd,.fields vs,sl⟩) (z:CodeV vs c P):DXc K x st P:=
 ⟨f,_,a,iQ l h k,c,rfl,λhp hK=>let ⟨Ö,tf,Ò,tg,Jl,text,tt,z⟩:=z;⟨_,vs,Ö,tf,Ò,tg,Jl,text,tt,hK _ _ e,rfl,rfl,z⟩,λhp hK=>let ⟨_,_,_,_,_,_,_,z,_⟩:=z;⟨c,_,vs,hK _ _ e,rfl,rfl,z⟩⟩
def DXc.mk3(D:DXc v.K d.x d.s P)(X:v.K.In h)(G:h.Ns eM v.mg)
  (hb:∀(kV Ä pm:bn) (an:Option ce) (bh ct:bn) (us:O bn),us.length=d.ps.length->bindArgs (AV d.x d.x (bb d.s) (aH d.s) (af d.s) .none kV Ä pm an bh ct) ⟨us,[]⟩=pure (d.ps.zip us):=by exact λ_ _ _ _ _ _=>usN (by (repeat intro _);rfl)):∃D:DI v d,LamK v.K v.mg D.fd.code P:=by
 obtain⟨f,fd,a,F,c,hc,hd,_⟩:=D.ex;exact⟨⟨f,fd,F,F.binds hb,Cb X G a⟩,⟨⟨c,hc,hd⟩⟩⟩
def DXc.tab{K:Aa}{x:Str}{st:lm}(D:DXc K x st P)(hK:K.In h):isCodeTable h P:=let ⟨_,_,_,_,_,_,_,z⟩:=D.ex;z h hK
def walkT{l:PySem.W.OpenLaw}{q:lf}{d:DefRec}{K:Params->Aa}(hn:l.most=al 63)(JE:d.params.defaults=[])(hr:aZ k callerA)
  (hY:∀(w:o0) (h:gt),YP w h->(K w.params).In h/\∀P∈bj.ts.map (·.1),h.get? P=al (DP #[])) (hK:∀w:o0,∀P∈bj.ts.map (·.1),(K w.params).lookup P=be) (hC:∀(w:o0) (h:gt),(K w.params).In h->∀P∈bj.ts.map (·.1),isCodeTable h P)
  (F:∀(w:o0) (mg:Str->Option bn) (fa:ce) (h:gt),(K w.params).In h->h.Ns eM mg->mg d.name=al (.ref fa)->
   ∃fd:sn,(∀(s:ci) (u:bn),BindsTo s fd ⟨[u],[]⟩ [("_law_script",u)])/\∀base:gt,(K w.params).In base->base.Ns eM mg->bf l.prog w (K w.params) mg base dS k fa fd ["_law_script"] (qI (K w.params))) :
  PySem.W.WalkO q Ð XP YP l.row.toRowW d [] (λf vs=>PySem.call f vs):=by
 refine Att.mj hn JE λw s₀ s₁ mg mb fa o pm cd Ä a vs ns G Y ho hd ek hmg yA Ñ Â hg=>?_;obtain⟨KX,hT⟩:=hY w _ Y;obtain⟨fd,hb,hF⟩:=F w mg fa _ KX G.T.g hmg;exact law_callT KX G.T.g G.T.b G.T.builtins G.T.nolimit G.T.bmain hg yA Ñ (AX Â ⋯) hr hT (hK w) (hC w _ KX) hF hb λH NM hS=>⟨λp hp=>⟨#[],NM _ (List.mem_map.mpr ⟨p,hp,rfl⟩),trivial,λpos c z=>by simp[wP]at z⟩,a,ns,rfl,hS,Â,λ_=>rfl⟩
def forK{K:Aa}(P:Aa->Prop)(_:K.In h)(p:P K):P K:=p
end
section
variable[bj]{K:Aa}
section
variable{a b:gl}{rest:O lm}{T:Type}{out:T->End}{x:Bool}
def SF.parL{z:Str}{k:O PV->PV->W T}(hc:X.calm=true)(hN:X.N.Nodup)(hi:X.N[i]?=al y)(hj:X.N[j]?=al z)(zv:i≠j)(hx:X.env.scope.names.lookup y=al .local)(hy:X.env.scope.names.lookup z=al .local)
  (ha:LF X K fs a wl) (hb:EF X K fs b wb) (hr:∀u v,SF X K x ((fs.set i (al (.ol be u))).set j (al (.val v))) rest (k u v) out)
  (hw:up [.Tuple [.Name y px,.Name z py] kt pt] (.Tuple [a,b] k2 tY) X.env=pure (al [y,z]):=by rfl) (hs:tz [.Tuple [.Name y px,.Name z py] kt pt] (.Tuple [a,b] k2 tY) pos.line X.env=pure false:=by rfl)
  (he:f8 [a,b] X.env=(false,ii a X.env)::f8 [b] X.env:=by rfl) (yF:c6 X b []:=by rfl) :
  SF X K x fs (.Assign [.Tuple [.Name y px,.Name z py] kt pt] (.Tuple [a,b] k2 tY) pos::rest) (.bind wl λu=>.bind wb λv=>k u v) out:=
 SF.step (rf hc hN hi hj zv hx hy (ae ha.p (ae hb.p az yF) he) hw hs) λD σ H ⟨sr,q⟩=>⟨sr,wl.mono (λu q1 ad vs H1 g1 s1 n1 e1 v1=>⟨s1,wb.mono (λv q2 u2 H2 g2 s2 v2=>by
  have no:=sr.noOwn n1;have oa:di K H2 ad (.ol be u):=⟨λ_ z=>(nomatch z),vs,g2.iJ e1 no,g2.qu s1 v1⟩;have s3:=s2.q8 oa no i;have s4:=s3.dP v2 j;exact⟨_,_,rfl,_,k u v,hr u v,s4,(k u v).mono (λt q3=>q3.go ((bA.q8 s2 (g1.trans g2).f no n1 i).trans (bA.dP s3 _ _ j)) sr s4) q2⟩) q1⟩) q⟩
end
end
end FL
namespace My
def potG05(ns:O Int):Prop:=∃g s:Int,ns=[g,s]/\0<=g/\0<=s/\s < 2305843009213693951
end My
namespace FL
section
variable[bj]
section
variable{K:Aa}{o:gl}{w:W PV}
def stW:PV->W Str
 | .str u=>.eW (u.length<=1000) (.ret u)
 | _=>.fail
def e_f2{a b c:Str}{l:Nat}{q1 q2 q3:Pos}(h1:EF X K fs e1 wa)(h2:EF X K fs e2 wb)(la:a.length+b.length+c.length<=100:=by decide +kernel):EF X K fs (.JoinedStr [.Constant (.str a) i q1,.FormattedValue e1 (-1) be p1,.Constant (.str b) j q2,.FormattedValue e2 (-1) be p2,.Constant (.str c) l q3] pos) (.bind wa λx=>.bind (stW x) λu=>.bind wb λy=>.bind (stW y) λv=>.ret (.str (Bx++a++u++b++v++c))):=
 ⟨PE.imp (ES dY h1.p dY h2.p dY la) λσ H Q ⟨sr,q⟩=>⟨sr,wa.mono (λx q1 u1 H1 g1 s1 v1=>by
  cases v1 with
  | str u=>
   exact⟨u,rfl,q1.1,s1,wb.mono (λy q2 u2 H2 g2 s2 v2=>by
     cases v2 with
     | str v=>exact⟨v,rfl,q2.1,q2.2 _ H2 (g1.trans g2) s2 (.str _)⟩
     | _=>exact q2.elim) q1.2⟩
  | _=>exact q1.elim) q⟩⟩
def join2W(Ê:Str)(l:O PV):W PV:=match l with
 | [.str a,.str b]=>.eW (Ê.length+a.length+b.length<=3000/\Ê.length<=100) (.ret (.str (a++Ê++b)))
 | _=>.fail
def e_join2(hK:X.K=K)(ho:EF X K fs o w)(hl:LF X K fs e wl)(cC:lc o "join" X.env (ii o X.env)=ii o X.env:=by rfl)
  (ko:Gs X bo [e]:=by rfl)
  (cB:xl À bo:=by rfl) (kl:c6 X e []:=by rfl) (dB:eR X bo []:=by rfl) :
  EF X K fs (.Call (.Attribute o "join" À) [e] [] bo) (.bind w λs=>.bind (stW s) λs=>.bind wl λl=>join2W s l):=
 ⟨PE.imp (iy K hK PySem.F.plainAttrs_str PySem.F.slot_str_join PySem.F.type_str_join sf ho.p (ae hl.p az kl) cC ko cB kl dB) λσ H Q ⟨sr,q⟩=>⟨sr,w.mono (λx q1 u1 H1 g1 s1 v1=>by
  cases v1 with
  | str Ê=>
   refine⟨rfl,s1,wl.mono (λl q2 a vs H2 g2 s2 n2 e2 v2=>?_) q1.2⟩
   match l,v2,q2 with
   | [.str a',.str b'],.cons r1 (.cons r2 .nil),q2=>
    cases r1;cases r2;exact⟨Ê,a,a',b',rfl,rfl,e2,q2.1.1,q2.1.2,q2.2 _ H2 (g1.trans g2) s2 (.str _)⟩
  | _=>exact q1.elim) q⟩⟩
end
end
end FL
variable{P:D2}{C:AR}{T:Bo}{t1:PySem.Tok}
namespace My
def clsM(j:Nat):lm->lm
 | .ClassDef _ _ _ b _ _ _ _ _ _ _=>b.getD j (.Pass ⟨0,0,0,0⟩)
 | s=>s
def tpR(i:Nat):lm:=Bl.main.body.getD i (.Pass ⟨0,0,0,0⟩)
abbrev sR:lm:=tpR 11
def RdA(C p:ce)(T:Str)(n:Nat)(H:Hp):Prop:=∃dx,H p=al (.ins C dx [("text",.str T),("place",.int n)])
def occ(s:Str)(c:Nat):Bool:=!(Builtin.Str.occurrences s ⟨#[c]⟩ 0 s.length 1).isEmpty
def at1(T:Str)(n:Nat)(s:Str):Bool:=match T.cps.toList[n]? with
 | some c=>occ s c
 | none=>false
theorem atI_n{l:List α}{c:α}(h:l[n]?=al c):cG l (n:Int)=al c:=by
 have:=(Ag.mp h).1;unfold cG lM;rw[if_pos ∅,if_pos ∅];simpa using h
def at1_lt{s:Str}(h:at1 T n s=true):∃c,T.cps.toList[n]?=al c/\occ s c=true/\n < T.length:=by
 unfold at1 at h;cases e:T.cps.toList[n]? with
 | none=>rw[e]at h;cases h
 | some c=>
  rw[e]at h;exact⟨c,rfl,h,by have:=(Ag.mp e).1;simpa[Cz]using this⟩
def spStands(C:ce):Sp:=λvs H Q _=>∃(p:ce) (T:Str) (n:Nat) (s:Str),vs=[.ref p,.str s]/\RdA C p T n H/\T.length<=sizeLine/\Q (.bl (at1 T n s)) H
structure RdK(K:Aa)(mg:Str->Option bn)(C:ce):Prop where
 cl:o9 K C
 t:b9 K C "text"
 p:b9 K C "place"
 len:mg "len"=be
section
variable{K:Aa}
theorem ok_stands(R:RdK K mg C)(F:Fun K "stands_at" "Reader.stands_at" (clsM 1 sR) f fd):bf P w K mg base dS 1 f fd ["self","signs"] (spStands C):=by
 refine F.ok (N:=["self","signs"]) oM (λvs H Q E h=>?_) (λbh A outer s H vs Q E hr h=>?_)
 ·obtain⟨_,_,_,_,rfl,_⟩:=h;rfl
 obtain⟨p,T,n,sg,rfl,⟨dx,hp⟩,hT,q⟩:=h;refine⟨_,aN (bR (rD (hE rJ (d6 (pv 0) rfl) (bE (cq K rfl) (by rfl) R.len C4 (ae (d6 (pv 0) rfl) az)) (cW _)) (rz (hE pM (dZ (bS K rfl) (d6 (pv 0) rfl) (d6 (pv 0) rfl) (λ_ _=>rfl)) (pv 1) rfl)))),?_⟩;refine⟨.ref p,rfl,p,C,dx,_,.int n,rfl,hp,R.cl,R.p,rfl,.ref p,rfl,p,C,dx,_,.str T,rfl,hp,R.cl,R.t,rfl,.str T,T.length,rfl,⟨hT,rfl⟩,_,_,rfl,rfl,_,rfl,?_⟩;cases e:T.cps.toList[n]? with
 | none=>
  have:¬((n:Int) < (T.length:Int)):=λz=>by
   have:=List.getElem?_eq_none_iff.mp e;have e2:T.cps.toList.length=T.length:=by simp[Cz]
   omega
  rw[if_neg (by simpa using this)];have:at1 T n sg=false:=by unfold at1;rw[e]
  rw[this]at q;exact q
 | some c=>
  have l1:n < T.length:=by have:=(Ag.mp e).1;simpa[Cz]using this
  rw[if_pos (by simpa using l1)];have:at1 T n sg=occ sg c:=by unfold at1;rw[e]
  rw[this]at q;exact⟨.ref p,rfl,p,C,dx,_,.str T,rfl,hp,R.cl,R.t,rfl,.ref p,rfl,p,C,dx,_,.int n,rfl,hp,R.cl,R.p,rfl,.inr (.inr ⟨T,n,c,rfl,rfl,hT,atI_n e,.str sg,rfl,_,_,rfl,rfl,q⟩)⟩
structure Mt(P:lf)(w:o0)(K:Aa)(mg:Str->Option bn)(base:gt)(C:ce)(m:Str)(k:Nat)(ps:List Str)(sp:Sp) where
 f:ce
 fd:sn
 m:Meth K C m f
 ok:bf P w K mg base dS k f fd ps sp
 bi:Binds K fd ps []
def OffP(p:ce)(H H':Hp):Prop:=∀b,b≠p->H' b=H b
def OffP.trans{p:ce}(a:OffP p H H1)(b:OffP p H1 H2):OffP p H H2:=λc n=>(b c n).trans (a c n)
def spTakeR(C:ce):Sp:=λvs H Q _=>∃(p:ce) (T:Str) (n:Nat) (s:Str) (c:Nat),vs=[.ref p,.str s]/\RdA C p T n H/\T.length<=sizeLine/\T.cps.toList[n]?=al c/\occ s c=true/\∀H',OffP p H H'->RdA C p T (n+1) H'->Q (.str ⟨#[c]⟩) H'
abbrev MtS(P:lf)(w:o0)(K:Aa)(mg:Str->Option bn)(base:gt)(C:ce):=Mt P w K mg base C "stands_at" 1 ["self","signs"] (spStands C)
abbrev MtT(P:lf)(w:o0)(K:Aa)(mg:Str->Option bn)(base:gt)(C:ce):=Mt P w K mg base C "take" 2 ["self","signs"] (spTakeR C)
def at1_of{s:Str}{c:Nat}(e:T.cps.toList[n]?=al c):at1 T n s=occ s c:=by unfold at1;rw[e]
theorem ok_take(R:RdK K mg C)(S:MtS P w K mg base C)(F:Fun K "take" "Reader.take" (clsM 2 sR) f fd):bf P w K mg base dS 2 f fd ["self","signs"] (spTakeR C):=by
 refine F.ok (N:=["self","signs"]) oM (λvs H Q E h=>?_) (λbh A outer s H vs Q E hr h=>?_)
 ·obtain⟨_,_,_,_,_,rfl,_⟩:=h;rfl
 obtain⟨p,T,n,sg,c,rfl,⟨dx,hp⟩,hT,hc,ho,q⟩:=h;refine⟨_,aE (fB (j0 (jZ (cQ (pv 0) R.cl S.m S.ok hr S.bi .nil dc (ae (pv 1) az)))) (aN ir) cM) (aE (mU (pv 0) (jC rL (d6 (pv 0) rfl) bV) rfl) (aN (bR (dZ (bS K rfl) (d6 (pv 0) rfl) (jC rH (d6 (pv 0) rfl) bV) (λ_ _=>rfl))))),?_⟩;refine⟨.ref p,rfl,p,dx,_,rfl,hp,rfl,.str sg,rfl,p,T,n,sg,rfl,⟨dx,hp⟩,hT,_,rfl,?_⟩;rw[at1_of hc,ho];refine⟨.ref p,rfl,p,C,dx,_,.int n,rfl,hp,R.cl,R.p,rfl,_,_,rfl,rfl,.ref p,rfl,p,C,dx,_,rfl,hp,R.cl,R.p,(by show 2 < 1000;decide),?_⟩;have e1:upd H p (.ins C dx (dQ "place" (.int ((n:Int)+1)) [("text",.str T),("place",.int n)])) p=al (.ins C dx [("text",.str T),("place",.int ((n+1:Nat):Int))]):=aB;have e2:OffP p H (upd H p (.ins C dx (dQ "place" (.int ((n:Int)+1)) [("text",.str T),("place",.int n)]))):=λb nb=>ah nb;generalize upd H p (.ins C dx (dQ "place" (.int ((n:Int)+1)) [("text",.str T),("place",.int n)]))=H1 at e1 e2;refine⟨.ref p,rfl,p,C,dx,_,.str T,rfl,e1,R.cl,R.t,rfl,.ref p,rfl,p,C,dx,_,.int ((n+1:Nat):Int),rfl,e1,R.cl,R.p,rfl,_,_,rfl,rfl,.inr (.inr ⟨T,_,c,rfl,rfl,hT,?_,q H1 e2 ⟨dx,e1⟩⟩)⟩;have:((n+1:Nat):Int)-1=(n:Int):=by omega
 rw[this];exact atI_n hc
def Run(T s:Str)(n most:Nat)(u:O Nat):Prop:=u≠[]/\u.length<=most/\(∀i,i < u.length->T.cps.toList[n+i]?=u[i]?)/\(∀c∈u,occ s c=true)/\(u.length=most\/at1 T (n+u.length) s=false)
def spMany(C:ce):Sp:=λvs H Q _=>∃(p:ce) (T:Str) (n:Nat) (s:Str) (most:Nat) (u:O Nat),vs=[.ref p,.str s,.int most]/\RdA C p T n H/\T.length<=sizeLine/\most<=100/\Run T s n most u/\∀H',OffP p H H'->RdA C p T (n+u.length) H'->Q (.str ⟨u.toArray⟩) H'
theorem ok_many(R:RdK K mg C)(S:MtS P w K mg base C)(M:MtT P w K mg base C)(F:Fun K "take_many" "take_many" (tpR 12) f fd):bf P w K mg base dS 3 f fd ["reader","signs","most"] (spMany C):=by
 have nd:(["reader","signs","most","told"]:O Str).Nodup:=by decide
 refine F.ok (N:=["reader","signs","most","told"]) oM (λvs H Q E h=>?_) (λbh A outer s H vs Q E hr h=>?_)
 ·obtain⟨_,_,_,_,_,_,rfl,_⟩:=h;rfl
 obtain⟨p,T,n,sg,most,u,rfl,hR,hT,hm,⟨u0,u1,u2,u3,u4⟩,q⟩:=h;refine⟨_,aE (bQ (i:=3) nd rfl (Bm rfl) (cQ (pv 0) R.cl M.m M.ok hr M.bi .nil dc (ae (pv 1) az))) (aE (fy A3 (PW.pt (qY (eJ rJ (bE (cq K rfl) (by rfl) R.len C4 (ae (pv 3) az)) (pv 2) (cW _)) (oj (jZ (cQ (pv 0) R.cl S.m S.ok (hr.mono ⋯) S.bi .nil dc (ae (pv 1) az)))))) (aN (bQ (i:=3) nd rfl (Bm rfl) (jC (oz K rfl) (pv 3) (cQ (pv 0) R.cl M.m M.ok hr M.bi .nil dc (ae (pv 1) az)))))) (aN (bR (pv 3)))),?_⟩;obtain⟨dx,hp⟩:=hR;have ul:0 < u.length:=D0.mpr u0;have t0:T.cps.toList[n]?=al u[0]:=by
  have:=u2 0 ul;rw[Nat.add_zero]at this;rw[this,Ai ul]
 refine⟨.ref p,rfl,p,dx,_,rfl,hp,rfl,.str sg,rfl,p,T,n,sg,u[0],rfl,⟨dx,hp⟩,hT,t0,u3 _ (Dp ul),λH1 o1 r1=>?_⟩;refine⟨λm σ H2=>∃i,0 < i/\i<=u.length/\m=u.length-i/\σ=[al (.ref p),al (.str sg),al (.int most),al (.str ⟨(u.take i).toArray⟩)]/\OffP p H H2/\RdA C p T (n+i) H2,⟨_,1,by omega,ul,rfl,?_,o1,r1⟩,?_⟩
 ·cases u with
  | nil=>exact absurd rfl u0
  | cons a u=>rfl
 rintro m σ H2 ⟨i,i0,i1,rfl,rfl,o2,r2⟩;have len:(⟨(u.take i).toArray⟩:Str).length=i:=by simp[Cz];omega
 refine⟨.str _,rfl,.str _,i,rfl,⟨by rw[len];exact AX (by omega:i<=100) ⋯,len.symm⟩,.int most,rfl,_,_,rfl,rfl,_,rfl,?_⟩;obtain⟨xc,h2⟩:=r2;by_cases c:i < most
 ·rw[if_pos (by simpa using c)];refine⟨.ref p,rfl,p,xc,_,rfl,h2,rfl,.str sg,rfl,p,T,n+i,sg,rfl,⟨xc,h2⟩,hT,_,rfl,?_⟩;by_cases d:i < u.length
  ·have ti:T.cps.toList[n+i]?=al u[i]:=by rw[u2 i d,Ai d]
   rw[at1_of ti,u3 _ (Dp d)];refine fN ?_;refine⟨λσ' H'=>σ'=[al (.ref p),al (.str sg),al (.int most),al (.str ⟨(u.take (i+1)).toArray⟩)]/\OffP p H H'/\RdA C p T (n+(i+1)) H',?_,?_⟩
   ·rintro σ' H' ⟨z1,z2,z3⟩;exact⟨u.length-(i+1),by omega,i+1,by omega,d,rfl,z1,z2,z3⟩
   ·refine⟨.str _,rfl,.ref p,rfl,p,xc,_,rfl,h2,rfl,.str sg,rfl,p,T,n+i,sg,u[i],rfl,⟨xc,h2⟩,hT,ti,u3 _ (Dp d),λH3 o3 r3=>⟨_,rfl,?_,?_⟩⟩
    ·rw[len];exact AX (by show i+1<=101;omega:i+1<=101) ⋯
    ·refine⟨?_,o2.trans o3,by rw[<- D3];exact r3⟩;have:(⟨(u.take i).toArray⟩:Str)++(⟨#[u[i]]⟩:Str)=⟨(u.take (i+1)).toArray⟩:=by
      show(⟨(u.take i).toArray++#[u[i]]⟩:Str)=_;congr 1;rw[List.take_succ,Ai d];simp
     rw[this];rfl
  ·have iu:i=u.length:=by omega
   have z:at1 T (n+i) sg=false:=by
    rcases u4 with z | z
    ·omega
    ·rw[iu];exact z
   rw[z];refine dR ?_;refine⟨_,rfl,?_⟩;rw[Bv ∅];exact q H2 o2 ⟨xc,by rw[<- iu];exact h2⟩
 ·rw[if_neg (by simpa using c)];refine dR ?_;refine⟨_,rfl,?_⟩;have iu:i=u.length:=by omega
  rw[Bv ∅];exact q H2 o2 ⟨xc,by rw[<- iu];exact h2⟩
structure KpP(p:ce)(H H':Hp):Prop where
 k:∀c o,c≠p->H c=al o->H' c=al o
 t:∀c,H' c=be->H c=be
def KpP.trans{p:ce}(a:KpP p H H1)(b:KpP p H1 H2):KpP p H H2:=⟨λc o n h=>b.k c o n (a.k c o n h),λc h=>a.t c (b.t c h)⟩
def KpP.same{p:ce}(s:cI H H'):KpP p H H':=⟨λc o _ h=>s c o h,λc h=>by
 cases e:H c with
 | none=>rfl
 | some o=>rw[s c o e]at h;cases h⟩
def KpP.off{p:ce}(o:OffP p H H')(r:RdA C p T n H'):KpP p H H':=⟨λc u nc h=>(o c nc).trans h,λc h=>by
 by_cases e:c=p
 ·subst e;obtain⟨dx,r⟩:=r;rw[r]at h;cases h
 ·rw[<- o c e];exact h⟩
def RdA.same{p:ce}(s:cI H H')(r:RdA C p T n H):RdA C p T n H':=let ⟨dx,r⟩:=r;⟨dx,s _ _ r⟩
abbrev FrF:=Str->Nat->Option (PV×Bool×Nat)
def spFront(K:Aa)(C:ce)(fr:FrF):Sp:=λvs H Q _=>∃(p:ce) (T:Str) (n:Nat) (x:PV) (b:Bool) (n':Nat),vs=[.ref p]/\RdA C p T n H/\T.length<=sizeLine/\fr T n=al (x,b,n')/\∀u a H',KpP p H H'->RdA C p T n' H'->H' a=al (.tup [u,.bl b])->VR K [] H' u x->Q (.ref a) H'
abbrev LTR:Str:="abcdefghijklmnopqrstuvwxyz"
def wdAt(T:Str)(n:Nat):O Nat:=((T.cps.toList.drop n).take 8).takeWhile (occ LTR)
def frT:FrF:=λT n=>if at1 T n "("=true then al (.tup [],true,n+1) else if wdAt T n=[] then be else al (.str ⟨(wdAt T n).toArray⟩,false,n+(wdAt T n).length)
theorem tw_get{f:α->Bool}:∀{l:List α}{i:Nat},i < (l.takeWhile f).length->l[i]?=(l.takeWhile f)[i]?
 | [],i,h=>by simp at h
 | a::l,i,h=>by
  by_cases c:f a=true
  ·rw[B2 c]at h ⊢;cases i with
   | zero=>rfl
   | succ i=>simpa using tw_get (l:=l) (by simpa using h)
  ·rw[BG c]at h;simp at h
theorem tw_all{f:α->Bool}:∀{l:List α}{c:α},c∈l.takeWhile f->f c=true
 | [],c,h=>by simp at h
 | a::l,c,h=>by
  by_cases e:f a=true
  ·rw[B2 e]at h;rcases Ax.mp h with rfl | h
   ·exact e
   ·exact tw_all h
  ·rw[BG e]at h;simp at h
theorem tw_end{f:α->Bool}:∀{l:List α},(l.takeWhile f).length=l.length\/∃a,l[(l.takeWhile f).length]?=al a/\f a=false
 | []=>.inl rfl
 | a::l=>by
  by_cases c:f a=true
  ·rw[B2 c];rcases tw_end (f:=f) (l:=l) with h | ⟨x,h1,h2⟩
   ·exact .inl (by simp[h])
   ·exact .inr ⟨x,by simpa using h1,h2⟩
  ·rw[BG c];exact .inr ⟨a,rfl,by simpa using c⟩
theorem run_wd(h:wdAt T n≠[]):Run T LTR n 8 (wdAt T n):=by
 have l8:(wdAt T n).length<=8:=AX (List.takeWhile_sublist _).length_le (by rw[Bj];omega);refine⟨h,l8,λi hi=>?_,λc hc=>?_,?_⟩
 ·have:=tw_get (l:=(T.cps.toList.drop n).take 8) (f:=occ LTR) hi;rw[show(wdAt T n)[i]?=_ from this.symm,Ck,if_pos ∅,List.getElem?_drop]
 ·exact tw_all hc
 ·rcases tw_end (f:=occ LTR) (l:=(T.cps.toList.drop n).take 8) with z | ⟨a,z1,z2⟩
  ·by_cases c:(wdAt T n).length=8
   ·exact .inl c
   ·refine .inr ?_;have z':(wdAt T n).length=((T.cps.toList.drop n).take 8).length:=z;rw[Bj,B9]at z';unfold at1;rw[List.getElem?_eq_none ∅]
  ·have z1:((T.cps.toList.drop n).take 8)[(wdAt T n).length]?=al a:=z1;rw[Ck]at z1
   split at z1
   ·rw[List.getElem?_drop]at z1;exact .inr (by rw[at1_of z1];exact z2)
   ·cases z1
def ok_front{t2:Tok}(R:RdK K mg C)(S:MtS P w K mg base C)(M:MtT P w K mg base C)(G:mz P w K mg base "take_many" 3 ["reader","signs","most"] (spMany C))(hl:mg "LETTERS"=al (.str LTR t1))(hn:mg "LONGEST_WORD"=al (.int 8 t2))(F:Fun K "take_tree_front" "take_tree_front" (tpR 13) f fd):bf P w K mg base dS 4 f fd ["reader"] (spFront K C frT):=by
 refine F.ok (N:=["reader"]) oM (λvs H Q E h=>?_) (λbh A outer s H vs Q E hr h=>?_)
 ·obtain⟨_,_,_,_,_,_,rfl,_⟩:=h;rfl
 obtain⟨p,T,n,x,b,n',rfl,hR,hT,hf,q⟩:=h;refine⟨_,aE (fB (jZ (cQ (pv 0) R.cl S.m S.ok (hr.mono ⋯) S.bi .nil dc (ae dY az))) (aE (cO (cQ (pv 0) R.cl M.m M.ok (hr.mono ⋯) M.bi .nil dc (ae dY az))) (aN (bR (fC (ae (fC az) (ae rC az)))))) cM) (aN (bR (fC (ae (iw G hr (Aj _) rfl (ae (pv 0) (ae (j7 (v:=.str LTR) rfl hl ⟨_,rfl⟩) (ae (j7 (v:=.int 8) rfl hn ⟨_,rfl⟩) az)))) (ae rC az))))),?_⟩;obtain⟨dx,hp⟩:=id hR;refine⟨.ref p,rfl,p,dx,_,rfl,hp,rfl,p,T,n,"(",rfl,hR,hT,_,rfl,?_⟩;unfold frT at hf;by_cases c:at1 T n "("=true
 ·rw[if_pos c]at hf;cases hf;rw[c];refine fN ?_;obtain⟨ch,h1,h2,_⟩:=at1_lt c;refine⟨.ref p,rfl,p,dx,_,rfl,hp,rfl,p,T,n,"(",ch,rfl,hR,hT,h1,h2,λH1 o1 r1=>?_⟩;refine⟨by decide,λa1 H2 s2 e2 n2=>⟨by show 2<=sizeLine;decide,λa2 H3 s3 e3 n3=>?_⟩⟩;exact q (.ref a1) a2 H3 ((KpP.off o1 r1).trans ((KpP.same s2).trans (KpP.same s3))) ((r1.same s2).same s3) e3 (.tup (s3 _ _ e2) .nil)
 ·have c':at1 T n "("=false:=by simpa using c
  rw[c']at hf ⊢;refine dR ?_;rw[if_neg ⋯]at hf
  split at hf
  ·cases hf
  next hw=>
  cases hf;refine⟨.ref p,rfl,p,T,n,LTR,8,wdAt T n,rfl,hR,hT,by decide,run_wd hw,λH1 o1 r1=>⟨by show 2<=sizeLine;decide,λa2 H3 s3 e3 n3=>?_⟩⟩;exact q _ a2 H3 ((KpP.off o1 r1).trans (KpP.same s3)) (r1.same s3) e3 (.str _)
end
end My
variable{o:L2.HO}{q:AR}{bs:O AR}{S:AR->Prop}
namespace My
abbrev Stk:=O (O PV×Option PV)
def ent:O PV×Option PV->O PV
 | (f,be)=>[.tup f]
 | (f,al x)=>[.tup f,x]
def Ents(K:Aa)(H:Hp):O ce->Stk->Prop
 | [],[]=>True
 | b::bs,e::st=>(∃ws,H b=al (.lst ws)/\ay K [] H ws (ent e)/\e.1.length<=100)/\Ents K H bs st
 | _,_=>False
structure WtA(K:Aa)(w:ce)(bs:List ce)(st:Stk)(H:Hp):Prop where
 h:H w=al (.lst (bs.reverse.map V.ref))
 nw:w∉bs
 nd:bs.Nodup
 e:Ents K H bs st
 z:st.length<=1000
section
variable{K:Aa}{H H':Hp}{p w:ce}
def tk1(k:∀c o,c≠q->H c=al o->H' c=al o)(e:H q=al o)(h:o.ow=true):aD K H H':=
 ⟨λc vs z=>k c _ (λy=>by subst y;rw[e]at z;cases z;cases h) z,λc _ u z=>k c _ (λy=>by subst y;rw[e]at z;cases z;cases h) z,xk λc φ z=>k c _ (λy=>by subst y;rw[e]at z;cases z;cases h) z⟩
theorem Ents.mono(t:aD K H H'):∀{bs:O ce}{st:Stk},(∀b∈bs,∀o,H b=al o->H' b=al o)->Ents K H bs st->Ents K H' bs st
 | [],[],_,h=>h
 | b::bs,e::st,k,⟨⟨ws,h1,h2,h3⟩,h4⟩=>⟨⟨ws,k b (.head _) _ h1,ay.tk t h2,h3⟩,Ents.mono t (λc hc=>k c (.tail _ hc)) h4⟩
 | [],_::_,_,h=>h
 | _::_,[],_,h=>h
theorem Ents.len:∀{bs:O ce}{st:Stk},Ents K H bs st->bs.length=st.length
 | [],[],_=>rfl
 | _::_,_::_,h=>congrArg (·+1) (Ents.len h.2)
 | [],_::_,h=>h.elim
 | _::_,[],h=>h.elim
theorem Ents.lst:∀{bs:O ce}{st:Stk},Ents K H bs st->∀b∈bs,∃ws,H b=al (.lst ws)
 | _::_,_::_,⟨⟨ws,h1,_⟩,h⟩,b,hb=>(Ax.mp hb).elim (λz=>z▸⟨ws,h1⟩) λz=>Ents.lst h b z
 | [],_,_,b,hb=>by simp at hb
 | _::_,[],h,_,_=>h.elim
structure KpS(S:ce->Prop)(H H':Hp):Prop where
 k:∀c o,¬S c->H c=al o->H' c=al o
 t:∀c,H' c=be->H c=be
def KpS.refl:KpS S H H:=⟨λ_ _ _ h=>h,λ_ h=>h⟩
def KpS.trans(a:KpS S H H1)(b:KpS S H1 H'):KpS S H H':=⟨λc o n h=>b.k c o n (a.k c o n h),λc h=>a.t c (b.t c h)⟩
def KpP.s(a:KpP q H H')(h:S q):KpS S H H':=⟨λc o n e=>a.k c o (λz=>n (z▸h)) e,a.t⟩
def KpS.same(s:cI H H'):KpS S H H':=⟨λc o _ h=>s c o h,(KpP.same (p:=0) s).t⟩
theorem KpS.x(x:gh q H H')(e:H' q=al o)(h:S q):KpS S H H':=⟨λc u n z=>x c u (λy=>n (y▸h)) z,λc z=>by
 cases y:H c with
 | none=>rfl
 | some u=>
  by_cases d:c=q
  ·subst d;rw[e]at z;cases z
  ·rw[x c u d y]at z;cases z⟩
def beh(T:Str):Nat->Stk->PV->Option (PV×Nat×Stk)
 | n,[],x=>al (x,n,[])
 | n,(f,be)::st,x=>if at1 T n ","=true then al (.aL,n+1,(f,al x)::st) else be
 | n,(f,al y)::st,x=>if at1 T n ")"=true then beh T (n+1) st (.tup (f++[y,x])) else be
def OwnS(p w:ce)(bs:O ce):ce->Prop:=λc=>c=p\/c=w\/c∈bs
def spBehind(K:Aa)(C:ce):Sp:=λvs H Q _=>∃(p w:ce) (u:V) (T:Str) (n:Nat) (bs:O ce) (st:Stk) (x y:PV) (n':Nat) (mB:Stk),vs=[.ref p,.ref w,u]/\RdA C p T n H/\WtA K w bs st H/\VR K [] H u x/\T.length<=sizeLine/\beh T n st x=al (y,n',mB)/\
 ∀u' Gk H',KpS (OwnS p w bs) H H'->RdA C p T n' H'->WtA K w Gk mB H'->(∀b∈Gk,b∈bs)->VR K [] H' u' y->Q u' H'
def WtA.pw{st:Stk}(h:WtA K w bs st H)(r:RdA C p T n H):p≠w/\p∉bs:=by
 obtain⟨dx,r⟩:=r;refine⟨λz=>?_,λz=>?_⟩
 ·subst z;rw[h.h]at r;cases r
 ·obtain⟨ws,e⟩:=h.e.lst p z;rw[e]at r;cases r
def WtA.mono{st:Stk}(h:WtA K w bs st H)(t:aD K H H')(k:∀b,b=w\/b∈bs->∀o,H b=al o->H' b=al o):WtA K w bs st H':=⟨k w (.inl rfl) _ h.h,h.nw,h.nd,h.e.mono t λb hb=>k b (.inr hb),h.z⟩
end
section
variable{K:Aa}
theorem ok_behind(R:RdK K mg C)(M:MtT P w K mg base C)(F:Fun K "take_behind" "take_behind" (tpR 14) f fd):bf P w K mg base dS 3 f fd ["reader","waiting","part"] (spBehind K C):=by
 have nd:(["reader","waiting","part","opened"]:O Str).Nodup:=by decide
 refine F.ok (N:=["reader","waiting","part","opened"]) oM (λvs H Q E h=>?_) (λbh A outer s H vs Q E hr h=>?_)
 ·obtain⟨_,_,_,_,_,_,_,_,_,_,_,rfl,_⟩:=h;rfl
 obtain⟨p,wt,u,T,n,bs,st,x,y,n',mB,rfl,hR,hW,hu,hT,hb,q⟩:=h;refine⟨_,aE (fy A3 (PW.pt (qY (c9 K rfl (pv 1) (λ_=>rfl)) (oj (eJ EY (bE (cq K rfl) (by rfl) R.len C4 (ae (dZ (bS K rfl) (pv 1) (rm mL bV) (λ_ _=>rfl)) az)) bV (cW _)))))
  (aE (cO (cQ (pv 0) R.cl M.m M.ok hr M.bi .nil dc (ae dY az))) (aE (bQ (i:=3) nd rfl (Bm rfl) (oq K rfl Bb DM DL oC (pv 1)))
   (aN (bQ (i:=2) nd rfl (Bm rfl) (jC (oy K rfl) (dZ (bS K rfl) (pv 3) bV (λ_ _=>rfl)) (fC (ae (dZ (bS K rfl) (pv 3) bV (λ_ _=>rfl)) (ae (pv 2) az)))))))))
  (aE (fB (j0 (c9 K rfl (pv 1) (λ_=>rfl))) (aN (bR (pv 2))) cM) (aE (cO (cQ (pv 0) R.cl M.m M.ok hr M.bi .nil dc (ae dY az)))
   (aE (cO (iy K rfl Bb Cd Cc eZ (dZ (bS K rfl) (pv 1) (rm mL bV) (λ_ _=>rfl)) (ae (pv 2) az))) (aN (bR j5))))),?_⟩
 refine⟨λm σ H2=>∃n st b2 u x o3,m=st.length/\σ=[al (.ref p),al (.ref wt),al u,o3]/\RdA C p T n H2/\WtA K wt b2 st H2/\VR K [] H2 u x/\beh T n st x=al (y,n',mB)/\KpS (OwnS p wt bs) H H2/\∀b∈b2,b∈bs,⟨_,n,st,bs,u,x,be,rfl,rfl,hR,hW,hu,hb,.refl,λ_ h=>h⟩,?_⟩;rintro m σ H2 ⟨n2,s2,b2,u2,x2,o3,rfl,rfl,r2,w2,v2,h2,k2,sub⟩;have hl:=w2.e.len;have hz:=w2.z;cases s2 with
 | nil=>
  have:b2=[]:=A8 hl;subst this;refine⟨.ref wt,rfl,false,.inl ⟨[],bO.of w2.h,rfl⟩,dR (dR ⟨.ref wt,rfl,false,.inl ⟨[],bO.of w2.h,rfl⟩,fN ⟨u2,rfl,?_⟩⟩)⟩;cases h2;exact q u2 [] H2 k2 r2 w2 (λ_ h=>(nomatch h)) v2
 | cons e s2=>
 cases b2 with
 | nil=>cases hl
 | cons b b2=>
 obtain⟨⟨ws,JK,Lh,JJ⟩,he⟩:=id w2.e;have GU:H2 wt=al (.lst (b2.reverse.map V.ref++[.ref b])):=by rw[w2.h];simp
 have nb:=BJ.mp w2.nd;have nw:=w2.nw;obtain⟨pw,pb⟩:=w2.pw r2;have bw:b≠wt:=λz=>nw (by rw[<- z];exact .head _);have IE:b≠p:=λz=>pb (by rw[<- z];exact .head _);have KI:v5 K (.ref wt) H2 true:=.inl ⟨_,bO.of GU,by simp⟩;refine⟨.ref wt,rfl,true,KI,fN ⟨.ref wt,rfl,1,rfl,.inl ⟨wt,_,-1,.ref b,rfl,rfl,bO.of GU,i6 _ _,.ref b,ws.length,rfl,.inl ⟨ws,bO.of JK,rfl⟩,rfl,_,rfl,?_⟩⟩⟩;obtain⟨fr,eo⟩:=e;cases eo with
 | none=>
  cases Lh with
  | cons r0 t0=>
  cases t0;refine dR ⟨.ref wt,rfl,true,KI,dR ?_⟩;have h2:(if at1 T n2 ","=true then al (PV.aL,n2+1,(fr,al x2)::s2) else be)=al (y,n',mB):=h2;by_cases c:at1 T n2 ","=true
  ·rw[if_pos c]at h2;cases h2;obtain⟨ch,c1,c2,_⟩:=at1_lt c;obtain⟨dx,hp⟩:=id r2;refine⟨.ref p,rfl,p,dx,_,rfl,hp,rfl,p,T,n2,",",ch,rfl,r2,hT,c1,c2,λH3 rR r3=>?_⟩;have t3:aD K H2 H3:=tk1 (λc u nc z=>(rR c nc).trans z) hp rfl;have e3:H3 wt=al (.lst (b2.reverse.map V.ref++[.ref b])):=(rR wt pw.symm).trans GU;have f3:=(rR b IE).trans JK;refine⟨.ref wt,rfl,1,rfl,.inl ⟨wt,_,-1,.ref b,rfl,rfl,bO.of e3,i6 _ _,mT f3,u2,rfl,b,_,u2,rfl,rfl,f3,by show 1 < sizeLine;decide,λH4 x4 h4=>?_⟩⟩;have t4:aD K H3 H4:=tk1 (λc u nc z=>x4 c u nc z) f3 rfl;refine q .aL (b::b2) H4 ((k2.trans ((KpP.off rR r3).s (.inl rfl))).trans (KpS.x x4 h4 (.inr (.inr (sub b (.head _)))))) ?_ ?_ sub .aL
   ·obtain⟨F8,r3⟩:=r3;exact⟨F8,x4 _ _ IE.symm r3⟩
   ·refine⟨?_,nw,w2.nd,⟨⟨_,h4,.cons (VR.tk t4 (VR.tk t3 r0)) (.cons (VR.tk t4 (VR.tk t3 v2)) .nil),JJ⟩,?_⟩,hz⟩
    ·have:=x4 _ _ bw.symm e3;rw[this];simp
    ·refine(he.mono t3 λc hc o z=>(rR c λy=>pb (y▸.tail _ hc)).trans z).mono t4 λc hc o z=>x4 c o (λy=>nb.1 (y▸hc)) z
  ·rw[if_neg c]at h2;cases h2
 | some y0=>
  cases Lh with
  | cons r0 t0=>
  cases t0 with
  | cons r1 t1=>
  cases t1;rename_i v0 v1;have h2:(if at1 T n2 ")"=true then beh T (n2+1) s2 (.tup (fr++[y0,x2])) else be)=al (y,n',mB):=h2;by_cases c:at1 T n2 ")"=true
  ·rw[if_pos c]at h2;obtain⟨ch,c1,c2,_⟩:=at1_lt c;obtain⟨dx,hp⟩:=id r2;refine fN ⟨λσ' H'=>∃n st b2 u x o3,st.length=s2.length/\σ'=[al (.ref p),al (.ref wt),al u,o3]/\RdA C p T n H'/\WtA K wt b2 st H'/\VR K [] H' u x/\beh T n st x=al (y,n',mB)/\KpS (OwnS p wt bs) H H'/\∀b∈b2,b∈bs,?_,?_⟩
   ·rintro σ' H' ⟨n,st,b2,u,x,o3,z1,z2⟩;exact⟨_,by rw[Ar,z1];exact Bz _,n,st,b2,u,x,o3,rfl,z2⟩
   refine⟨.ref p,rfl,p,dx,_,rfl,hp,rfl,p,T,n2,")",ch,rfl,r2,hT,c1,c2,λH3 rR r3=>?_⟩;have t3:aD K H2 H3:=tk1 (λc u nc z=>(rR c nc).trans z) hp rfl;have e3:H3 wt=al (.lst (b2.reverse.map V.ref++[.ref b])):=(rR wt pw.symm).trans GU;have f3:=(rR b IE).trans JK;refine⟨.ref wt,rfl,mT e3,wt,_,.ref b,rfl,rfl,e3,λH4 x4 h4=>?_⟩;have t4:aD K H3 H4:=tk1 (λc u nc z=>x4 c u nc z) e3 rfl;have f4:=x4 _ _ bw f3;refine⟨.ref b,rfl,.inl ⟨b,_,0,v0,rfl,rfl,bO.of f4,rfl,.ref b,rfl,.inl ⟨b,_,1,v1,rfl,rfl,bO.of f4,rfl,u2,rfl,by show 2<=sizeLine;decide,λa5 H5 s5 e5 n5=>?_⟩⟩⟩;have tt:=(t3.trans t4).trans s5.cb;have kk:KpS (OwnS p wt bs) H H5:=((k2.trans ((KpP.off rR r3).s (.inl rfl))).trans (KpS.x x4 h4 (.inr (.inl rfl)))).trans (KpS.same s5);have r5:RdA C p T (n2+1) H5:=let ⟨F8,r3⟩:=r3;⟨F8,s5 _ _ (x4 _ _ pw r3)⟩;have w5:WtA K wt b2 s2 H5:=⟨s5 _ _ h4,λz=>nw (.tail _ z),nb.2,he.mono tt λc hc o z=>s5 _ _ (x4 c o (λy=>nw (y▸.tail _ hc)) ((rR c λy=>pb (y▸.tail _ hc)).trans z)),by simp at hz;omega⟩;have zg:=VR.tk tt v2;have Mp:=VR.tk tt r0;have pH:=VR.tk tt r1;have MM:(fr:O PV).length<=100:=JJ;cases Mp with
   | @tup p0 Gx _ Nb Ir=>
   have l0:Gx.length<=100:=by rw[Ir.length];exact JJ
   refine⟨p0,a5,Gx,[v1,u2],rfl,rfl,cf.of Nb,cf.of e5,AX (by show Gx.length+2<=102;omega:Gx.length+2<=102) ⋯,λz=>?_,λ_ z=>(by cases z),λ_ _ a6 H6 s6 e6 n6=>?_⟩
   ·subst z;have z2:=Ir.length;have:fr=[]:=A8 z2.symm;subst this;exact⟨_,s2,b2,.ref a5,_,al (.ref b),rfl,rfl,r5,w5,.tup e5 (.cons pH (.cons zg .nil)),h2,kk,λc hc=>sub c (.tail _ hc)⟩
   ·have t6:=s6.cb (K:=K);exact⟨_,s2,b2,.ref a6,_,al (.ref b),rfl,rfl,r5.same s6,w5.mono t6 λc _ o z=>s6 c o z,.tup e6 ((ay.tk t6 Ir).append (.cons (VR.tk t6 pH) (.cons (VR.tk t6 zg) .nil))),h2,kk.trans (KpS.same s6),λc hc=>sub c (.tail _ hc)⟩
  ·rw[if_neg c]at h2;cases h2
end
end My
variable{y:PL.PV}
namespace My
def rdN(T:Str)(fr:FrF):Nat->Nat->Stk->Option (PV×Nat)
 | 0,_,_=>be
 | k+1,n,st=>match fr T n with
  | some (.tup f,true,n1)=>if f.length<=100/\st.length < 1000 then rdN T fr k n1 ((f,be)::st) else be
  | some (x,false,n1)=>match beh T n1 st x with
   | some (.aL,n2,jV)=>rdN T fr k n2 jV
   | some (y,n2,_)=>al (y,n2)
   | none=>be
  | _=>be
def rdN_some{fr:FrF}:∀{k n:Nat}{st:Stk}{y:PV}{n':Nat},rdN T fr (k+1) n st=al (y,n')->(∃f n1,fr T n=al (.tup f,true,n1)/\f.length<=100/\st.length < 1000/\rdN T fr k n1 ((f,be)::st)=al (y,n'))\/
  ∃x n1,fr T n=al (x,false,n1)/\((∃n2 jV,beh T n1 st x=al (.aL,n2,jV)/\rdN T fr k n2 jV=al (y,n'))\/∃jV,beh T n1 st x=al (y,n',jV)/\y≠.aL):=by
 intro k n st y n' h;unfold rdN at h
 split at h
 ·next f n1 e=>
  split at h
  ·next c=>exact .inl ⟨f,n1,e,c.1,c.2,h⟩
  ·cases h
 ·next x n1 e=>
  refine .inr ⟨x,n1,e,?_⟩
  split at h
  ·next n2 jV e2=>exact .inl ⟨n2,jV,e2,h⟩
  ·next y2 n2 jV ne e2=>
   cases h;exact .inr ⟨_,e2,λz=>ne z⟩
  ·cases h
 ·cases h
def vr_non{K:Aa}(h:VR K [] H .aL y):y=.aL:=by cases h;rfl
def spNest(K:Aa)(C ff:ce)(fr:FrF):Sp:=λvs H Q _=>∃(p:ce) (T:Str) (n k:Nat) (y:PV) (n':Nat),vs=[.ref p,.ref ff]/\RdA C p T n H/\T.length<=sizeLine/\rdN T fr k n []=al (y,n')/\∀u H',KpP p H H'->RdA C p T n' H'->VR K [] H' u y->Q u H'
section
variable{P:lf}{w:o0}{K:Aa}{mg:Str->Option bn}{base:gt}{f C:ce}{fd:sn}
theorem KpS.p{S:ce->Prop}{p:ce}{H H1 H2:Hp}(k:KpP p H H1)(a:KpS S H1 H2)(h:∀c,S c->c=p\/H c=be):KpP p H H2:=⟨λc o n e=>a.k c o (λz=>by
 rcases h c z with z | z
 ·exact n z
 ·rw[z]at e;cases e) (k.k c o n e),λc e=>k.t c (a.t c e)⟩
theorem ok_nest{fr:FrF}{xf:Str}(G:mz P w K mg base xf 4 ["reader"] (spFront K C fr))(B:mz P w K mg base "take_behind" 3 ["reader","waiting","part"] (spBehind K C))(F:Fun K "take_nested" "take_nested" (tpR 15) f fd):bf P w K mg base dS 5 f fd ["reader","take_front"] (spNest K C G.f fr):=by
 have nd:(["reader","take_front","waiting","whole","front"]:O Str).Nodup:=by decide
 refine F.ok (N:=["reader","take_front","waiting","whole","front"]) oM (λvs H Q E h=>?_) (λbh A outer s H vs Q E hr h=>?_)
 ·obtain⟨_,_,_,_,_,_,rfl,_⟩:=h;rfl
 obtain⟨p,T,n,k,y,n',rfl,hR,hT,hk,q⟩:=h;refine⟨_,aE (bQ (i:=2) nd rfl (Bm rfl) (j6 az)) (aE (bQ (i:=3) nd rfl (Bm rfl) j5) (aE (fy A3 (eJ rK (pv 3) j5 (cW _))
  (aE (bQ (i:=4) nd rfl (Bm rfl) (uR G hr (Aj _) (pv 1) (ae (pv 0) az)))
   (aN (fB (c9 K rfl (dZ (bS K rfl) (pv 4) bV (λ_ _=>rfl)) (λ_=>rfl))
    (aN (cO (iy K rfl Bb Cd Cc eZ (pv 2) (ae (j6 (ae (dZ (bS K rfl) (pv 4) bV (λ_ _=>rfl)) az)) az))))
    (aN (bQ (i:=3) nd rfl (Bm rfl) (iw B hr ⋯ rfl (ae (pv 0) (ae (pv 2) (ae (dZ (bS K rfl) (pv 4) bV (λ_ _=>rfl)) az))))))))))
  (aN (bR (pv 3))))),?_⟩
 refine⟨by decide,λwt H1 s1 e1 n1=>?_⟩;refine⟨λm σ H2=>KpP p H H2/\∃o4,(∃k n st bs,m=k+1/\σ=[al (.ref p),al (.ref G.f),al (.ref wt),al .aL,o4]/\RdA C p T n H2/\WtA K wt bs st H2/\(∀b∈bs,H b=be)/\rdN T fr k n st=al (y,n'))\/∃u,m=0/\σ=[al (.ref p),al (.ref G.f),al (.ref wt),al u,o4]/\RdA C p T n' H2/\VR K [] H2 u y/\u≠.aL,
  ⟨k+1,.same s1,be,.inl ⟨k,n,[],[],rfl,rfl,hR.same s1,⟨e1,by simp,by simp,trivial,by decide⟩,λ_ h=>(nomatch h),hk⟩⟩,?_⟩
 rintro m σ H2 ⟨k2,o4,⟨k,n,st,bs,rfl,rfl,r2,w2,hn,h2⟩ | ⟨u,rfl,rfl,r2,v2,ne⟩⟩
 ·refine⟨_,rfl,rfl,true,by simp,fN ?_⟩;refine⟨λσ' H'=>∃m',m' < k+1/\(KpP p H H'/\∃o4,(∃k n st bs,m'=k+1/\σ'=[al (.ref p),al (.ref G.f),al (.ref wt),al .aL,o4]/\RdA C p T n H'/\WtA K wt bs st H'/\(∀b∈bs,H b=be)/\rdN T fr k n st=al (y,n'))\/∃u,m'=0/\σ'=[al (.ref p),al (.ref G.f),al (.ref wt),al u,o4]/\RdA C p T n' H'/\VR K [] H' u y/\u≠.aL),λ_ _ z=>z,?_⟩;cases k with
  | zero=>cases h2
  | succ k=>
  obtain⟨pw,pb⟩:=w2.pw r2;refine⟨_,rfl,rfl,.ref p,rfl,?_⟩;rcases rdN_some h2 with⟨ff,n3,hf,f1,f2,h3⟩ | ⟨x,n3,hf,h3⟩
  ·refine⟨p,T,n,_,_,n3,rfl,r2,hT,hf,λu3 a3 H3 k3 r3 e3 v3=>?_⟩;obtain⟨dx,hp⟩:=id r2;have t3:aD K H2 H3:=tk1 (λc u nc z=>k3.k c u nc z) hp rfl;have w3:=w2.mono t3 λb hb o z=>k3.k b o (λy=>by
    subst y;rcases hb with hb | hb
    ·exact pw hb
    ·exact pb hb) z
   refine⟨.ref a3,rfl,.inr (.inl ⟨a3,_,1,.bl true,rfl,rfl,cf.of e3,rfl,true,rfl,fN ?_⟩)⟩;refine⟨.ref wt,rfl,mT w3.h,.ref a3,rfl,.inr (.inl ⟨a3,_,0,u3,rfl,rfl,cf.of e3,rfl,by show 1<=sizeLine;decide,λb4 H4 s4 e4 n4=>?_⟩)⟩;have t4:=s4.cb (K:=K);have w4:=w3.mono t4 λc _ o z=>s4 c o z;have bz:(bs.reverse.map V.ref).length < sizeLine:=by
    rw[Aq,BN,w2.e.len];exact Au f2 ⋯
   refine⟨wt,_,_,rfl,rfl,w4.h,bz,λH5 x5 e5=>?_⟩;have t5:aD K H4 H5:=tk1 (λc u nc z=>x5 c u nc z) w4.h rfl;have bw:b4≠wt:=λz=>by subst z;rw[w3.h]at n4;cases n4
   have nb:b4∉bs:=λz=>by obtain⟨ws,z⟩:=w3.e.lst _ z;rw[z]at n4;cases n4
   have K3:=k2.trans k3;have n0:H b4=be:=by
    have:=K3.t b4 n4;exact this
   have r4:=r3.same s4;refine⟨k+1,Bz _,KpS.p (K3.trans (.same s4)) (KpS.x (S:=λc=>c=wt) x5 e5 rfl) (λc z=>.inr (z▸n1)),_,.inl ⟨k,n3,(ff,be)::st,b4::bs,rfl,rfl,?_,?_,?_,h3⟩⟩
   ·obtain⟨F8,r4⟩:=r4;exact⟨F8,x5 _ _ pw r4⟩
   ·refine⟨by rw[e5];simp,?_,BJ.mpr ⟨nb,w2.nd⟩,⟨⟨_,x5 _ _ bw e4,.cons (VR.tk t5 (VR.tk t4 v3)) .nil,f1⟩,w4.e.mono t5 λc hc o z=>x5 c o (λy=>w2.nw (y▸hc)) z⟩,by simp;omega⟩;intro z;rcases Ax.mp z with z | z
    ·exact bw z.symm
    ·exact w2.nw z
   ·intro b hb;rcases Ax.mp hb with rfl | hb
    ·exact n0
    ·exact hn b hb
  ·refine⟨p,T,n,_,_,n3,rfl,r2,hT,hf,λu3 a3 H3 k3 r3 e3 v3=>?_⟩;obtain⟨dx,hp⟩:=id r2;have t3:aD K H2 H3:=tk1 (λc u nc z=>k3.k c u nc z) hp rfl;have w3:=w2.mono t3 λb hb o z=>k3.k b o (λy=>by
    subst y;rcases hb with hb | hb
    ·exact pw hb
    ·exact pb hb) z
   refine⟨.ref a3,rfl,.inr (.inl ⟨a3,_,1,.bl false,rfl,rfl,cf.of e3,rfl,false,rfl,dR ?_⟩)⟩;refine⟨.ref p,rfl,.ref wt,rfl,.ref a3,rfl,.inr (.inl ⟨a3,_,0,u3,rfl,rfl,cf.of e3,rfl,?_⟩)⟩;have own:∀c,OwnS p wt bs c->c=p\/H c=be:=λc z=>by
    rcases z with z | z | z
    ·exact .inl z
    ·exact .inr (z▸n1)
    ·exact .inr (hn c z)
   rcases h3 with⟨n4,GC,hb,h4⟩ | ⟨GC,hb,hy⟩
   ·refine⟨p,wt,u3,T,n3,bs,st,x,.aL,n4,GC,rfl,r3,w3,v3,hT,hb,λu' Gk H' kk r' w' sub v'=>?_⟩;cases v';exact⟨k+1,Bz _,KpS.p (k2.trans k3) kk own,_,.inl ⟨k,n4,GC,Gk,rfl,rfl,r',w',λb hb=>hn b (sub b hb),h4⟩⟩
   ·refine⟨p,wt,u3,T,n3,bs,st,x,y,n',GC,rfl,r3,w3,v3,hT,hb,λu' Gk H' kk r' w' sub v'=>?_⟩;exact⟨0,Nat.succ_pos _,KpS.p (k2.trans k3) kk own,_,.inr ⟨u',rfl,rfl,r',v',λz=>hy (vr_non (z▸v'))⟩⟩
 ·refine⟨u,rfl,rfl,false,by simp[ne],dR ⟨u,rfl,q u H2 k2 r2 v2⟩⟩
end
end My
namespace FL
section
variable[bj]
def tCalA(a:ce)(fz:O (ce×Obj))(sp:Sp)(ta:TE)(t:TA):TE:=λσ H Q=>ta σ H λx H1=>x=.ref a/\o8 H1 fz/\t σ H1 λvs H2=>o8 H2 fz/\sp vs H2 Q E0
def pe_callA{p:Pos}{x:Str}{t:TA}(G:CalA X.prog X.w X.K X.mg X.base a [] [] fz k ps sp)(hr:aZ k' X.A)(hk:k<=k')(hf:PE X (.Name x p) ta)(ha:PA X (e::es) t)
  (he:c6 X e es:=by rfl) (bH:eR X pos es:=by rfl):PE X (.Call (.Name x p) (e::es) [] pos) (tCalA a fz sp ta t):=λU s σ H Q I q=>by
 refine AW (aR (hf U s σ H _ I q) λv s1 ⟨y,H1,I1,r1,ey,z1,q1⟩=>?_);subst ey;cases r1;have kz:∀{σ':L2.St}{H':Hp}{s':ci},Inv X U σ' H' s'->o8 H' fz->PySem.W.FnAt a s'.heap:=λJ z=>G.kp _ J.eN J.bk λp hp=>let ⟨u,e⟩:=z p hp;(J.aP _ _ e).1;exact PySem.W.callWith_F (kz I1 z1) (aR (ha pos U s1 σ H1 _ I1 q1) λKG s2 ⟨vs,H2,I2,r,z2,q2⟩=>⟨kz I2 z2,jX G.ok (hr.mono hk) G.bi .nil dc I2 r (by rw[Bf];exact⟨.nil,z2,q2⟩)⟩) he bH
section
variable{K:Aa}{L:Lm}
def fn_lamP(I0:LamIn L [] base a [] fz)(S:LamS ps [] L.sc)(len:∀vs H Q E,sp vs H Q E->vs.length=ps.length)
  (hb:∀(cl:O (Str×ce)) (pm cv ia:bn) (us:O bn),us.length=ps.length->bindArgs (L.fn cl pm cv ia) ⟨us,[]⟩=pure (ps.zip us))
  (Å:∀(cl:O (Str×ce)) (cv:bn) (A:re) (outer:O Env) (s:ci) (H:Hp) (vs:O V) (Q:VK) (E:XK),aZ k (A.deeper (Ds L.q L.sc s.heap.objs.size a cv cl))->sp vs H Q E->∃t,PE (cxL P w K mg base ps L a cl cv A outer s H) L.bd t/\t (vs.map al) H Q) :
  Nonempty (CalA P w K mg base a [] [] fz (k+1) ps sp):=by
 obtain⟨cl,pm,c,ia,co,rfl,FG,lQ,Jz,NF⟩:=I0;refine⟨⟨L.fn cl pm (.ref c) ia,⟨λvs H Q E h=>len vs H Q E h.2.2,λA outer s H args KG vs Q E hr e0 NH r p5=>?_⟩,.all (hb cl pm _ ia),λh _ _ hz=>⟨_,_,_,_,hz (a,_) (A9 ..)⟩⟩⟩;obtain⟨_,z,p5⟩:=p5;obtain⟨_,z1⟩:=z (a,L.ob cl pm (.ref c) ia) (A9 ..);obtain⟨_,z2⟩:=z (c,co) (by simp);have Nr:vs.length=ps.length:=len vs H Q E p5;obtain⟨Oj,ct,d1,d2⟩:=FG;have MJ:∀y∈L.sc.names,y.2≠.free:=λy hy z=>by have:=S.fin y hy z;simp at this
 refine PySem.W.kla_callFunE hr.depth ((e0.aP _ _ z1).1) rfl S.co S.gen rfl ⟨c,co,Oj,ct,rfl,((e0.aP _ _ z2).1),d1,d2⟩ (NH _ _ _ _ ?_);refine wpAny_newFunctionEnv S.noc (λy hy=>S.par _ (CO hy).1) (λh' G1 Ni=>?_) S.kind;have hk:∀b o,s.heap.get? b=al o->h'.get? b=al o:=λb o e=>by
  rw[Ni.2 b (AE (Al e))];exact Ae _ e
 refine⟨(e0.mod.nolimit.keeps λb o e=>(e0.bs b o e).1).keeps hk,PySem.W.kla_codeExpr ?_⟩;have kc:∀{c:ce}{v:Option bn},base.IsCell c v->h'.IsCell c v:=λ⟨o,h1,h2⟩=>⟨o,hk _ _ (e0.bs _ _ h1).1,h2⟩;have nd:ps.Nodup:=by have:=S.nd;rwa [Bf]at this
 have I:Inv (cxL P w K mg base ps L a cl (.ref c) A outer s H) [] (vs.map al) H {heap:=h',gens:=s.gens,drawn:=s.drawn,toks:=s.toks+(ps.zip KG).length,os:=s.os}:=by
  refine⟨⟨e0.mod,S.kind,rfl,rfl,Aj _,Jz,λx hx=>?_,λ_ _ z=>(by cases z),λ_=>hr.hd,DS e0.frames,.inr ⟨rfl,rfl⟩,λb z=>(nomatch z),e0.bs,e0.uc,λb _ _ z=>(nomatch z),λb z=>(nomatch z),e0.eO,e0.vE⟩,
   rfl,e0.bare,Un.kept hk,⟨_,G1,λi x v h1 h2 h3=>?_⟩,λx c' e=>?_,e0.aP.fresh (Aj _),λx c' e=>?_,λp hp=>(nomatch hp),e0.aP.kept hk,?_⟩
  ·rcases hx with hx | hx
   ·exact absurd rfl (S.noc _ (A1 hx))
   ·exact absurd rfl (MJ _ (A1 hx))
  ·have h1:ps[i]?=al x:=h1;rw[Ao]at h2;cases e:vs[i]? with
   | none=>rw[e]at h2;cases h2
   | some v'=>
    rw[e]at h2;cases h2;obtain⟨u,hu,ru⟩:=r.get e;exact⟨u,ru,.inl ⟨S.par x (Ay h1),zip_rev nd h1 hu⟩⟩
  ·obtain⟨v,hv⟩:=lQ x c' e;exact⟨v,kc hv⟩
  ·obtain⟨v,o,ho,_⟩:=lQ x c' e;exact(e0.bs _ _ ho).2
  ·show(vs.map al).length=ps.length;rw[Aq,Nr]
 obtain⟨t,ht,hq⟩:=Å cl (.ref c) A outer s H vs Q E (hr.deeper _) p5;refine BV (ht [] _ _ H Q I hq) (λu s' h=>?_) λe s' h=>h.elim;obtain⟨v,H',J,ru,q'⟩:=h;exact⟨v,H',J.os,J.bare,J.base,J.aP,ru,q'⟩
end
end
end FL
namespace My
section
variable[bj]
section
variable{K:Aa}
def spRI(C:ce):Sp:=λvs H Q _=>∃(p dx:ce) (T:Str),vs=[.ref p,.str T]/\H p=al (.ins C dx [])/\∀H',OffP p H H'->RdA C p T 0 H'->Q .aL H'
def ok_rinit(R:RdK K mg C)(hi:mg "isinstance"=be)(hs:mg "str"=be)(F:Fun K "__init__" "Reader.__init__" (clsM 0 sR) f fd):bf P w K mg base dS 1 f fd ["self","text"] (spRI C):=by
 refine F.ok (N:=["self","text"]) oM (λvs H Q E h=>?_) (λbh A outer s H vs Q E hr h=>?_)
 ·obtain⟨_,_,_,rfl,_⟩:=h;rfl
 obtain⟨p,dx,T,rfl,hp,q⟩:=h;refine⟨_,aE (fB (j0 (jZ (bE (qi K rfl) (by rfl) hi boot_isinstance (ae (pv 1) (ae (ou (v:=.ty "str") rfl hs boot_str rfl) az))))) (aN ir) cM) (aE (mU (pv 0) (pv 1) rfl) (aN (mU (pv 0) bV rfl))),?_⟩;refine⟨.str T,rfl,.str T,_,_,true,rfl,.str T,lK K,true,rfl,dR ?_⟩;refine⟨.str T,rfl,.ref p,rfl,p,C,dx,_,rfl,hp,R.cl,R.t,(by show 0 < 1000;decide),?_⟩;refine⟨.ref p,rfl,p,C,dx,_,rfl,aB,R.cl,R.p,(by show 1 < 1000;decide),q _ (λb nb=>?_) ⟨dx,aB⟩⟩;rw[ah nb,ah nb]
def rtL:Lm:=match aH (tpR 17) with
 | [.Return (al (.Call _ [_,.Lambda ar bd sc _] [] _)) _]=>⟨"read_tree.<locals>.<lambda>",ar,bd,sc⟩
 | _=>⟨"",⟨[],[],be,[],[],be,[]⟩,.Constant .none 0 ⟨0,0,0,0⟩,default⟩
def spOne(K:Aa)(C:ce)(fr:FrF):Sp:=λvs H Q _=>∃(p:ce) (T:Str) (n k:Nat) (y:PV) (n':Nat),vs=[.ref p]/\RdA C p T n H/\T.length<=sizeLine/\rdN T fr k n []=al (y,n')/\∀u H',KpP p H H'->RdA C p T n' H'->VR K [] H' u y->Q u H'
def ok_lam{fr:FrF}(G:mz P w K mg base "take_tree_front" 4 ["reader"] (spFront K C fr))(N:mz P w K mg base "take_nested" 5 ["reader","take_front"] (spNest K C G.f fr))(L:LamIn rtL [] base a [] fz):Nonempty (CalA P w K mg base a [] [] fz 6 ["reader"] (spOne K C fr)):=by
 refine fn_lamP L ⟨rfl,rfl,rfl,by decide +kernel,by decide +kernel,by decide +kernel,by decide +kernel,by decide +kernel⟩ (λvs H Q E h=>?_) (λ_ _ _ _=>usN (by (repeat intro _);rfl)) λcl cv A outer s H vs Q E hr h=>?_
 ·obtain⟨_,_,_,_,_,_,rfl,_⟩:=h;rfl
 obtain⟨p,T,n,k,y,n',rfl,h⟩:=h;exact⟨_,iw N hr (Aj _) rfl (ae (pv 0) (ae (xP G rfl) az)),.ref p,rfl,p,T,n,k,y,n',rfl,h⟩
def mRT(x:PV):W PV:=⟨λQ=>∃T k y,x=.str T/\T.length<=sizeLine/\rdN T frT k 0 []=al (y,T.length)/\Q y,λh ⟨T,k,y,a,b,c,q⟩=>⟨T,k,y,a,b,c,h _ q⟩⟩
structure RMk(P:lf)(w:o0)(K:Aa)(mg:Str->Option bn)(base:gt)(C:ce) where
 f:ce
 fd:sn
 m:Mk K C f
 ok:bf P w K mg base dS 1 f fd ["self","text"] (spRI C)
 bi:Binds K fd ["self","text"] []
 at':mg "Reader"=al (.ref C)
theorem ok_all(R:RdK K mg C)(I:RMk P w K mg base C)(A:CalA P w K mg base a [] [] fz 6 ["reader"] (spOne K C frT))(F:Fun K "read_all" "read_all" (tpR 16) f fd):bf P w K mg base dS 7 f fd ["text","take"] (kS K [.v,.f a [] [] fz] (fh 1 mRT)):=by
 have nd:(["text","take","reader","told"]:O Str).Nodup:=by decide
 refine F.ok (N:=["text","take","reader","told"]) oM (λvs H Q E h=>?_) (λbh A' outer s H vs Q E hr h=>?_)
 ·obtain⟨_,_,h,_⟩:=h;cases h with | v _ t=>cases t with | f _ _ t=>cases t;rfl
 obtain⟨tb,l,h,q⟩:=h;cases h with
 | @v u x uq OM l' r t=>
 cases t with
 | @f _ _ _ _ _ _ _ r2 z t=>
 cases t;obtain⟨T,k,y,rfl,hT,hk,q⟩:=q;cases r;refine⟨_,aE (bQ (i:=2) nd rfl (Bm rfl) (uQ I.m I.ok (hr.mono ⋯) rfl I.at' I.bi .nil dc (ae (pv 0) az))) (aE (bQ (i:=3) nd rfl (Bm rfl) (pe_callA A hr (Aj _) (pv 1) (ae (pv 2) az)))
  (aE (fB (eJ rJ (d6 (pv 2) rfl) (bE (cq K rfl) (by rfl) R.len C4 (ae (pv 0) az)) (cW _)) (aN ir) cM) (aN (bR (pv 3))))),?_⟩
 refine⟨.str T,rfl,λp dx np MN ne=>⟨p,dx,T,rfl,aB,λH1 o1 r1=>⟨rfl,?_⟩⟩⟩;have sm:cI H H1:=λc o e=>by
  have n1:c≠p:=λz=>by subst z;rw[np]at e;cases e
  have n2:c≠dx:=λz=>by subst z;rw[MN]at e;cases e
  rw[o1 c n1,ah n1,ah n2];exact e
 have z1:o8 H1 fz:=λp hp=>let ⟨u,e⟩:=z p hp;⟨u,sm _ _ e⟩;refine⟨.ref a,rfl,rfl,z1,.ref p,rfl,z1,p,T,0,k,y,T.length,rfl,r1,hT,hk,λu2 H2 k2 r2 v2=>?_⟩;obtain⟨xc,oH⟩:=r2;have lt:¬((T.length:Int) < (T.length:Int)):=by omega
 refine⟨.ref p,rfl,p,C,xc,_,.int T.length,rfl,oH,R.cl,R.p,rfl,.str T,rfl,.str T,T.length,rfl,⟨hT,rfl⟩,_,_,rfl,rfl,_,rfl,?_⟩;rw[decide_eq_false lt];refine dR ?_;have s2:cI H H2:=λc o e=>k2.k c o (λz=>by subst z;rw[np]at e;cases e) (sm c o e);refine⟨u2,rfl,q u2 H2 ⟨λc o e _ _=>s2 c o e,tb.same s2,λc e=>?_,λc φ pa=>?_⟩ v2⟩
 ·cases y:H c with
  | none=>rfl
  | some o=>rw[s2 c o y]at e;cases e
 ·obtain⟨i,h1,_⟩:=pa
  match i with
  | 0=>cases h1
  | 1=>cases h1
  | i+2=>simp at h1
end
end
section
variable[bj]
structure RD(K:Aa):Prop where
 ex:∃C fi J8 fs J7 ft J6,AD K eM "Reader"=al (al (.ref C))/\Fun K "__init__" "Reader.__init__" (clsM 0 sR) fi J8/\Mk K C fi/\o9 K C/\b9 K C "text"/\b9 K C "place"/\
  Fun K "stands_at" "Reader.stands_at" (clsM 1 sR) fs J7/\Meth K C "stands_at" fs/\Fun K "take" "Reader.take" (clsM 2 sR) ft J6/\Meth K C "take" ft
def rdx{K:Aa}{f1 f2 f3:ce}{MH MF MD:bn}{MC Ow MB Ov Mz Ou:Option ce}{IJ II IH:Array (Option bn)}{M5 Km Mu Gi Oo M4 Kl Mr Gh Om M3 Kk Mq Gg Ol:bn}
  (a:AD K eM "Reader"=al (al (.ref C))) (m2:AH K (.ref C) "__init__"=al (al (.ref f1))) (l1:K.lookup f1=al ⟨MH,MC,.func (AV "__init__" "Reader.__init__" (bb (clsM 0 sR)) (aH (clsM 0 sR)) (af (clsM 0 sR)) .none M5 Km Mu Ow Gi Oo),IJ⟩)
  (c1:BC K Gi "Reader.__init__"=true) (k1:AZ K (.ref f1)=true) (m1:DE K C=true) (m3:Cp K (.ref f1)=true) (m4:AZ K (.ref C)=true) (d1:B5 K C Bx=true) (d2:Cq K C=true) (d3:C9 K C=true) (d4:AH K (.ref C) "__setattr__"=al (al (.builtin "object.__setattr__")))
  (n1:AH K (.ref C) "text"=al be) (n2:AH K (.ref C) "place"=al be)
  (g2:AH K (.ref C) "stands_at"=al (al (.ref f2))) (l2:K.lookup f2=al ⟨MF,MB,.func (AV "stands_at" "Reader.stands_at" (bb (clsM 1 sR)) (aH (clsM 1 sR)) (af (clsM 1 sR)) .none M4 Kl Mr Ov Gh Om),II⟩) (c2:BC K Gh "Reader.stands_at"=true) (k2:AZ K (.ref f2)=true) (i2:Cp K (.ref f2)=true)
  (g3:AH K (.ref C) "take"=al (al (.ref f3))) (l3:K.lookup f3=al ⟨MD,Mz,.func (AV "take" "Reader.take" (bb (clsM 2 sR)) (aH (clsM 2 sR)) (af (clsM 2 sR)) .none M3 Kk Mq Ou Gg Ol),IH⟩) (c3:BC K Gg "Reader.take"=true) (k3:AZ K (.ref f3)=true) (i3:Cp K (.ref f3)=true):RD K:=
 ⟨C,f1,_,f2,_,f3,_,a,iQ l1 c1 k1,⟨m1,m2,m3,m4⟩,⟨d1,d2,d3,d4⟩,n1,n2,iQ l2 c2 k2,⟨g2,i2,k2⟩,iQ l3 c3 k3,⟨g3,i3,k3⟩⟩
abbrev dRT:DF:=⟨"read_tree",tpR 17,["text"],8,λK=>kS K [.v] (fh 1 mRT)⟩
def mk_rt{P:ce}{t2:Tok}(X:v.K.In h)(G:h.Ns eM v.mg)(rd:RD v.K)(Og:DX v.K "take_many" (tpR 12))(Oe:DX v.K "take_tree_front" (tpR 13))(Od:DX v.K "take_behind" (tpR 14))(Oc:DX v.K "take_nested" (tpR 15))(Ob:DX v.K "read_all" (tpR 16))(Oa:DXc v.K "read_tree" (tpR 17) P)(hP:TabIs P "read_tree.<locals>.<lambda>")
  (hl:v.mg "LETTERS"=al (.str LTR t1)) (hn:v.mg "LONGEST_WORD"=al (.int 8 t2)) (q1:v.mg "len"=be) (q2:v.mg "isinstance"=be) (q3:v.mg "str"=be):Nonempty (dRT.C v):=by
 obtain⟨C,fi,J8,fs,J7,ft,J6,a,Fi,M,cl,nt,np,Fs,Ms,Ft,Oz⟩:=rd.ex;have R:RdK v.K v.mg C:=⟨cl,nt,np,q1⟩;obtain⟨LM⟩:=Og.mk2 (d:=⟨"take_many",tpR 12,["reader","signs","most"],3,λK=>spMany C⟩) X G;obtain⟨KA⟩:=Oe.mk2 (d:=⟨"take_tree_front",tpR 13,["reader"],4,λK=>spFront K C frT⟩) X G;obtain⟨LL⟩:=Od.mk2 (d:=⟨"take_behind",tpR 14,["reader","waiting","part"],3,λK=>spBehind K C⟩) X G;obtain⟨zI⟩:=Oc.mk2 (d:=⟨"take_nested",tpR 15,["reader","take_front"],5,λK=>spNest K C KA.f frT⟩) X G;obtain⟨zH⟩:=Ob.mk2 (d:=⟨"read_all",tpR 16,["text","take"],7,λK=>kS K [] (fh 1 mRT)⟩) X G;obtain⟨LK,OA⟩:=Oa.mk3 (d:=dRT) X G;have all:∀(b:gt) (ad:ce) (us:O V) (fz:O (ce×Obj)),LamIn rtL [] b ad us fz->us.length=([]:O PV).length->bf v.P v.w v.K v.mg b dS 7 zH.f zH.fd ["text","take"] (kS v.K ([.v]++.f ad us [] fz::[]) (fh 1 mRT)):=λb ad us fz L hu=>by
  have:us=[]:=A8 hu;subst this;have S:MtS v.P v.w v.K v.mg b C:=⟨fs,J7,Ms,ok_stands R Fs,Fs.binds λ_ _ _ _ _ _=>usN (by (repeat intro _);rfl)⟩;have T:MtT v.P v.w v.K v.mg b C:=⟨ft,J6,Oz,ok_take R S Ft,Ft.binds λ_ _ _ _ _ _=>usN (by (repeat intro _);rfl)⟩;have Oy:=(LM.at b).c (ok_many R S T LM.fn);have Ku:=(KA.at b).c (ok_front R S T Oy hl hn KA.fn);have Ox:=(LL.at b).c (ok_behind R T LL.fn);have N:mz v.P v.w v.K v.mg b "take_nested" 5 ["reader","take_front"] (spNest v.K C Ku.f frT):=⟨zI.f,zI.fd,ok_nest Ku Ox zI.fn,zI.bi,zI.fn.kp,zI.at'⟩;obtain⟨A⟩:=ok_lam Ku N L;exact ok_all R ⟨fi,J8,M,ok_rinit R q2 q3 Fi,Fi.binds λ_ _ _ _ _ _=>usN (by (repeat intro _);rfl),Cb X G a⟩ A zH.fn
 have cn:CapN (mD (tpR 17)) (af (tpR 17)) rtL.sc [] []:=by decide +kernel
 refine⟨LK.c (mkVc (P:=P) LK OA λ{bh A outer s H E} hc hr nd=>λx=>?_)⟩;exact SF.eY (e_callLam (L:=rtL) (ys:=[]) (is:=[]) (qs:=[]) (k1:=[.v]) (k2:=[]) zH.bi zH.fn.kp zH.at' all (λ_=>rfl) cn rfl hr (al_cons (ag 0) (al_lam "read_tree.<locals>.<lambda>" [] hc hP cn aw))) λ_=>rfl
end
def e7(bG:PV):W (O PV):=
 []\λfg=>
 am (bG\λx3=>ap [x3]) λgn=>
 am (mJ (λs4=>(s4.2\λl5=>ap (!l5.isEmpty))) (λs4=>(
 am (ly s4.2) λt7=>
 t7.2\λx9=>am (i7 s4.1 x9) λfe=>
 dA (qF (am (am (ap t7.2) (cm .str)) cJ)) (
 am (am (ap t7.2) c8) λMX=>am (yM t7.1 MX) λic=>
 ap (fe,ic)) (
 ap (fe,t7.1)))) (fg,gn)) λs4=>
 (s4.1\λJf=>ap Jf.reverse)
def hO(bG:PV):W PV:=
 []\λmQ=>
 []\λke=>
 am (bG\λx3=>e7 x3) λJd=>am (dD Jd (mQ,ke) λj8 s4=>(
 am (am (am (ap j8) (cm .str)) cJ) λb=>am (if b=true then (
 j8\λxp=>am (i7 s4.1 xp) λnW=>
 ap (nW,s4.2)) else (
 am (ly s4.2) λIk=>
 am (ly Ik.1) λIj=>
 am (Ij.2\λzS=>Ik.2\λzR=>ap (.tup [zS,zR])) λzQ=>am (i7 s4.1 zQ) λnV=>
 ap (nV,Ij.1))) λxA=>
 am (b2 m7 (am (ap xA.1) nk) (ap (.int 1))) λHN=>am (i7 xA.2 HN) λlJ=>
 ap (xA.1,lJ))) λs4=>
 (am (ap s4.1) uu)
def m__law_hand_2(bp:PV)(k_:PV):W (O PV):=
 am (dA (am (am (ap bp) si) λl2=>ap (!l2.isEmpty)) (fj (am (ap bp) c8) (b2 oMod (ap k_) (c1 gI (ap bp)))) (ap (.int 0))) λeD=>
 am (b2 cz (b2 oMod (c1 ju (ap eD)) (b2 cz (b2 cz (b2 fF (ap (.int 10)) (ap (.int 60))) (b2 fF (ap (.int 10)) (ap (.int 60)))) (b2 fF (ap (.int 10)) (ap (.int 60))))) (c1 kG (b2 E3 (c1 ju (ap eD)) (b2 fF (ap (.int 10)) (ap (.int 18)))))) λdC=>
 (dC\λx4=>am (b2 oMod (b2 cz (w2 addW (w2 addW (b2 oMod (ap eD) (ap (.int 2305843009213693921))) (b2 cz (b2 cz (ap (.int 104729)) (ap k_)) (ap k_))) (ap (.int 7))) (ap (.int 48271))) (ap (.int 2305843009213693951))) λx5=>ap [x4,x5])
def m__law_take_4(a9:O PV)(eT:PV):W (PV×O PV):=
 dA (t2 IK (fj (ap a9) (ap (.int 0))) (ap (.int 0))) (
 am (b2 oMod (fj (ap a9) (ap (.int 0))) (ap eT)) λoZ=>
 am (b2 oDiv (fj (ap a9) (ap (.int 0))) (ap eT)) λx3=>(.int 0)\λx4=>am (setW a9 x4 x3) λer=>
 oZ\λx5=>ap (x5,er)) (
 am (b2 oMod (w2 addW (b2 cz (fj (ap a9) (ap (.int 1))) (ap (.int 6364136223846793005))) (ap (.int 1442695040888963407))) (ap (.int 2305843009213693951))) λx7=>(.int 1)\λx8=>am (setW a9 x8 x7) λcR=>
 am (b2 oDiv (fj (ap cR) (ap (.int 1))) (ap (.int 524287))) λkb=>
 am (b2 oMod (b2 oDiv (b2 oMod (b2 cz (ap kb) (ap kb)) (ap (.int 1000000007))) (ap (.int 11))) (ap eT)) λqA=>ap (qA,cR))
def m__law_words_5(eT:PV):W (O PV):=
 (.str "abcdefghijklmnopqrstuvwxyz")\λgE=>
 am ((.int 26)\λx2=>aQ x2) λiW=>am (fj ((.int 1)\λx3=>(.int 3)\λx4=>(.int 5)\λx5=>(.int 7)\λx6=>(.int 9)\λx7=>(.int 11)\λx8=>ap [x3,x4,x5,x6,x7,x8]) ((.int 6)\λx9=>aQ x9)) λjU=>
 am (fj ((.str "")\λum=>(.str "")\λuk=>(.str "ab")\λuj=>ap [um,uk,uj]) ((.int 3)\λzV=>aQ zV)) λi4=>
 []\λiR=>
 am (am (ap eT) gJ) λJd=>am (dD Jd iR λFf xy=>(
 am (fj ((.str "")\λui=>(.str "a")\λHP=>(.str "zz")\λzS=>(.str "abcde")\λzR=>ap [ui,HP,zS,zR]) ((.int 4)\λzQ=>aQ zQ)) λtm=>
 am (w2 addW (w2 addW (ap i4) (b2 rP (ap gE) (b2 oMod (w2 addW (ap iW) (b2 cz (ap jU) (ap Ff))) (ap (.int 26))))) (ap tm)) λHN=>am (i7 xy HN) λlV=>
 ap lV)) λxy=>
 ap xy
def m__law_joined_2(ik:PV):W PV:=
 am (am (ap ik) c8) λlh=>am ((.int 5)\λx1=>aQ x1) λfq=>
 am (am (b2 m7 (c1 gI (ap ik)) (ap (.int 1))) gJ) λFc=>am (dD Fc lh λwM s5=>(
 am (b2 m7 (am (ap s5) nk) (ap (.int 2))) λoS=>
 am (fj ((.int 0)\λx9=>oS\λqA=>am (b2 oMod (ap wM) (w2 addW (ap oS) (ap (.int 1)))) λxq=>am (am (w2 addW (ap oS) (ap (.int 1))) λzW=>aQ zW) λum=>am (am (w2 addW (ap oS) (ap (.int 1))) λuk=>aQ uk) λuj=>ap [x9,qA,xq,um,uj]) (ap fq)) λjv=>
 am (am (am (fj (ap s5) (ap jv)) λzU=>am (fj (ap s5) (w2 addW (ap jv) (ap (.int 1)))) λxp=>ap (.tup [zU,xp])) λzT=>ap [zT]) λJe=>jv\λxo=>am (w2 addW (ap jv) (ap (.int 2))) λui=>am (xx s5 xo ui Je) λjY=>
 ap jY)) λs5=>
 (fj (ap s5) (ap (.int 0)))
def m_bracketed(E1:PV)(rF:PV):W PV:=
 (E1\λx1=>am (stW x1) λu2=>rF\λx3=>am (stW x3) λu4=>ap (.str (Bx++("(":Str)++u2++(",":Str)++u4++(")":Str))))
def m_text_of(bG:PV):W PV:=
 []\λjR=>
 am (am (bG\λx2=>hO x2) c8) λJf=>am (dD Jf jR λiC s3=>(
 dA (am (am (ap iC) (cm .str)) cJ) (
 iC\λx6=>am (i7 s3 x6) λnZ=>
 ap nZ) (
 am (am (fj (ap s3) (fj (am (ap iC) c8) (ap (.int 0)))) λx8=>am (fj (ap s3) (fj (am (ap iC) c8) (ap (.int 1)))) λx9=>m_bracketed x8 x9) λqA=>am (i7 s3 qA) λnY=>
 ap nY))) λs3=>
 (fj (ap s3) (am (ap (.int 1)) yf))
def m__law_hand_3(bp:PV)(k_:PV):W (O PV):=
 am (dA (am (am (ap bp) si) λl2=>ap (!l2.isEmpty)) (fj (am (ap bp) c8) (b2 oMod (ap k_) (c1 gI (ap bp)))) (ap (.int 0))) λeD=>
 am (b2 cz (b2 oMod (c1 ju (ap eD)) (b2 cz (b2 cz (b2 fF (ap (.int 10)) (ap (.int 60))) (b2 fF (ap (.int 10)) (ap (.int 60)))) (b2 fF (ap (.int 10)) (ap (.int 60))))) (c1 kG (b2 E3 (c1 ju (ap eD)) (b2 fF (ap (.int 10)) (ap (.int 18)))))) λoK=>
 (oK\λx4=>am (b2 oMod (b2 cz (w2 addW (w2 addW (b2 oMod (ap eD) (ap (.int 2305843009213693921))) (b2 cz (b2 cz (ap (.int 104729)) (ap k_)) (ap k_))) (ap (.int 7))) (ap (.int 48271))) (ap (.int 2305843009213693951))) λx5=>ap [x4,x5])
def m__law_joined_3(ik:PV):W PV:=
 am (am (ap ik) c8) λlh=>am ((.int 5)\λx1=>aQ x1) λfq=>
 am (am (b2 m7 (c1 gI (ap ik)) (ap (.int 1))) gJ) λFc=>am (dD Fc lh λwM s5=>(
 am (b2 m7 (am (ap s5) nk) (ap (.int 2))) λcE=>
 am (fj ((.int 0)\λx9=>cE\λqA=>am (b2 oMod (ap wM) (w2 addW (ap cE) (ap (.int 1)))) λxq=>am (am (w2 addW (ap cE) (ap (.int 1))) λzW=>aQ zW) λum=>am (am (w2 addW (ap cE) (ap (.int 1))) λuk=>aQ uk) λuj=>ap [x9,qA,xq,um,uj]) (ap fq)) λjv=>
 am (am (am (fj (ap s5) (ap jv)) λzU=>am (fj (ap s5) (w2 addW (ap jv) (ap (.int 1)))) λxp=>ap (.tup [zU,xp])) λzT=>ap [zT]) λJe=>jv\λxo=>am (w2 addW (ap jv) (ap (.int 2))) λui=>am (xx s5 xo ui Je) λjY=>
 ap jY)) λs5=>
 (fj (ap s5) (ap (.int 0)))
def m__law_text:Nat->PV->W PV
 | 0,_=>W.fail
 | n+1,bG=>
 dA (am (am (ap bG) (cm .str)) cJ) (
 (ap bG)) (
 (w2 addW (w2 addW (ap (.str "(")) ((.str ",")\λx4=>am (stW x4) λu5=>am (am (am (ap bG) c8) λl1=>gD l1 λp2=>(p2\λx3=>m__law_text n x3)) λl6=>join2W u5 l6)) (ap (.str ")"))))
def m__law_same_2:Nat->PV->PV->W PV
 | 0,_,_=>W.fail
 | n+1,c7,gY=>
 dA (am (am (ap gY) (cm .tup)) cJ) (
 dA (HV (qF (am (am (ap c7) (cm .tup)) cJ)) (t2 j9 (c1 gI (ap c7)) (c1 gI (ap gY)))) (
 (ap (.bl false))) (
 (am (am (am (am (ap c7) c8) λl1=>am (am (ap gY) c8) λl2=>zJ l1 l2) λl3=>gD l3 λp4=>am (Gy p4) λt5=>(t5.1\λx6=>t5.2\λx7=>m__law_same_2 n x6 x7)) Gp))) (
 dA (t2 rQ (ap gY) (ap .aL)) (
 (b2 rQ (ap c7) (ap .aL))) (
 dA (am (am (ap gY) (cm .str)) cJ) (
 (Gn (am (ap c7) (cm .str)) (b2 gB (ap c7) (ap gY)))) (
 dA (HV (qF (am (am (ap c7) (cm .int)) cJ)) (t2 j9 (am (ap c7) (cm .bool)) (am (ap gY) (cm .bool)))) (
 (ap (.bl false))) (
 (b2 gB (ap c7) (ap gY))))))
def m__law_far(bT:PV):W PV:=
 am (fj (am (ap bT) c8) (ap (.int 0))) λmP=>
 am ((.int 3)\λx3=>aQ x3) λmR=>
 am (am (w2 addW (ap (.int 10)) ((.int 40)\λx4=>aQ x4)) gJ) λFc=>am (dD Fc mP λJh s6=>(
 am (fj (am (ap bT) c8) (b2 oMod (ap Jh) (c1 gI (ap bT)))) λiH=>
 am (fj (am (s6\λqA=>iH\λxq=>ap (.tup [qA,xq])) λzW=>am (iH\λum=>s6\λuk=>ap (.tup [um,uk])) λuj=>am (fj (am (s6\λzV=>iH\λzU=>ap (.tup [zV,zU])) λxp=>am (iH\λzT=>s6\λL4=>ap (.tup [zT,L4])) λxo=>ap [xp,xo]) (b2 oMod (ap Jh) (ap (.int 2)))) λui=>ap [zW,uj,ui]) (ap mR)) λqE=>
 ap qE)) λs6=>
 (ap s6)
def m_law_24(bp:PV):W PV:=
 am (am (w2 addW (ap (.int 1)) (am (am (am (ap bp) si) λl1=>be\λi2=>am (am (ap (.int 16)) part) λj3=>ap (nL l1 i2 j3)) nk)) gJ) λMU=>am (fU MU () λwM s5=>(
 am (bp\λx8=>wM\λx9=>m__law_hand_3 x8 x9) λgN=>EN potG05 gN (
 am ((.int 26)\λxq=>m__law_words_5 xq) λbD=>
 am (w2 addW (ap (.int 1)) (am (fj ((.int 10)\λum=>(.int 40)\λuk=>ap [um,uk]) (c1 kG (b2 gB ((.int 8)\λuj=>aQ uj) (ap (.int 0))))) λzV=>aQ zV)) λkd=>
 am (am (JX (am (am (ap kd) gJ) λMW=>gD MW λMv=>(fj (am (ap (.cl bD)) c8) ((.int 26)\λxo=>aQ xo)))) λui=>m__law_joined_3 ui) λjQ=>
 am (am (jQ\λHP=>am ((.cl bD)\λzS=>m__law_far zS) λzR=>am (fj (am (ap (.cl bD)) c8) (ap (.int 0))) λzQ=>ap (.tup [HP,zR,zQ])) c8) λMV=>am (fU MV () λiB GG=>(
 am (iB\λL3=>m__law_text 52 L3) λcg=>
 dA (HV (qF (am (am (cg\λLY=>mRT LY) λLX=>iB\λLW=>m__law_same_2 52 LX LW) cJ)) (qF (am (am (cg\λL1=>mRT L1) λL0=>iB\λLZ=>m__law_same_2 52 L0 LZ) cJ))) (
 (.bl false)\λHM=>ap (Lp.out HM)) (
 dA (t2 j9 (iB\λLV=>m_text_of LV) (ap cg)) (
 (.bl false)\λHL=>ap (Lp.out HL)) (
 ap (.go ()))))) (ub (λGG=>
 ap (.go ())) Lp.out)))) (ub (λs5=>
 (Gn (b2 gB (am (ap (.str "(b,(a,ab))")) λLR=>mRT LR) ((.str "b")\λLQ=>am ((.str "a")\λLP=>(.str "ab")\λLO=>ap (.tup [LP,LO])) λLN=>ap (.tup [LQ,LN]))) (b2 gB ((.str "abcdefgh")\λLU=>mRT LU) (ap (.str "abcdefgh"))))) id)
end My
variable{t:My.Tr}
namespace My
def Tr.pv:Tr->PV
 | .leaf x=>.str x
 | .node l r=>.tup [l.pv,r.pv]
def Ent.pv:Ent->PV
 | .word x=>.str x
 | .pair a b=>.tup [.int (a:Int),.int (b:Int)]
def og{l:List α}(h:l≠[]):∃a x,l=a++[x]:=⟨l.dropLast,l.getLast h,(List.dropLast_concat_getLast h).symm⟩
def qN{a b:O Tr}(h:da a++b=t.post):bP a+b.length=t.size:=by
 have h1:=congrArg CH h;rw[Ad,t.aO]at h1;have h2:∀l:O Tr,(da l).length=bP l:=by
  intro l
  induction l with
  | nil=>rfl
  | cons x l ih=>
   have e1:da (x::l)=x.post++da l:=rfl;have e2:bP (x::l)=x.size+bP l:=rfl;rw[e1,e2,Ad,ih,x.aO]
 rw[h2]at h1;exact h1
theorem eF{x:PV}(h:l.length < 1000):i7 l x=.ret (l++[x]):=r6 (by have:=cu (Aj _);omega)
theorem rE(t:Tr)(hz:t.size<=900):(e7 t.pv).le (.ret (t.post.map Tr.pv)):=λQ q=>by
 refine mI (λn s=>∃ts bs:O Tr,n=bP ts/\s=(bs.map Tr.pv,ts.map Tr.pv)/\da ts++bs.reverse=t.post) ⟨[t],[],rfl,rfl,by rw[gs];simp⟩ ?_;rintro n s ⟨ts,bs,rfl,rfl,hp⟩;have hs:=qN hp;rw[BN]at hs;by_cases he:ts=[]
 ·subst he;have GZ:bs.reverse=t.post:=hp;simp;rw[<- List.map_reverse,GZ];exact q
 ·obtain⟨us,u,rfl⟩:=og he;have yD:=jD us;rw[cj,gq]at hs;simp;rw[eF (by rw[Aq];omega)];cases u with
  | leaf x=>
   simp[Tr.pv];refine⟨_,?_,us,rfl,bs++[.leaf x],⟨by simp[Tr.pv],rfl⟩,?_⟩
   ·rw[cj,gq];show bP us < bP us+1;omega
   ·rw[dq,gs]at hp;rw[DZ,<- hp];simp[Tr.post]
  | node c d=>
   have e1:yM (us.map Tr.pv) [c.pv,d.pv]=.ret (us.map Tr.pv++[c.pv,d.pv]):=r6 (cu (by
    simp;omega))
   simp[Tr.pv,e1];refine⟨_,?_,us++[c,d],rfl,bs++[.node c d],⟨by simp[Tr.pv],by simp⟩,?_⟩
   ·have e2:bP [Tr.node c d]=c.size+d.size+1:=by rw[gq];rfl
    have e3:bP [c,d]=c.size+d.size:=by simp[bP]
    rw[cj,cj,e2,e3];omega
   ·rw[dq,gs]at hp;rw[DZ,<- hp,dq,pI];simp[Tr.post]
def fM(l:O Nat):O PV:=l.map λ(n:Nat)=>.int (n:Int)
@[simp] theorem E8(l:O Nat):(fM l).length=l.length:=Aq _
@[simp] theorem E9(a b:O Nat):fM (a++b)=fM a++fM b:=Bt
@[simp] theorem zm(a:Nat)(l:O Nat):fM (a::l)=.int (a:Int)::fM l:=rfl
@[simp] theorem E7:fM []=[]:=rfl
theorem rV(t:Tr)(hz:t.size<=900):(hO t.pv).le (.ret (.tup ((t.nd 0).map Ent.pv))):=λQ q=>by
 unfold hO;simp;refine W.le.use (rE t hz) ?_;refine iT (λr s=>∃(k:O Tr) (Z:O Ent) (ls:O Nat),r=k.map Tr.pv/\s=(Z.map Ent.pv,fM ls.reverse)/\run k Z ls=al (t.nd 0,[t.size-1])/\Z.length+k.length<=900/\ls.length<=Z.length) ⟨t.post,[],[],rfl,rfl,pF t,by simp[t.aO];omega,Aj _⟩ ?_ ?_
 ·rintro x r s ⟨k,Z,ls,e,rfl,h,hl,G3⟩;cases k with
  | nil=>cases e
  | cons p k=>
   injection e with e1 e2;subst e1;subst e2;rw[Ar]at hl;cases p with
   | leaf x=>
    have a1:∀y,i7 (fM ls.reverse) y=.ret (fM ls.reverse++[y]):=λy=>eF (by simp;omega);simp[Tr.pv,eF (l:=Z.map Ent.pv) (by simp;omega),a1];refine⟨k,rfl,Z++[Ent.word x],Z.length::ls,⟨by simp[Ent.pv],by simp⟩,h,by simp;omega,by simp;omega⟩
   | node c d=>
    match ls,h,G3 with
    | b::a::ls,h,G3=>
     rw[Ar,Ar]at G3;have a0:fM (b::a::ls).reverse=(fM ls.reverse++[.int a])++[.int b]:=by simp
     have a1:∀y,i7 (fM ls.reverse) y=.ret (fM ls.reverse++[y]):=λy=>eF (by simp;omega);rw[a0];simp only[Tr.pv,r9,hZ,kA,cp,if_false,yO];simp[eF (l:=Z.map Ent.pv) (by simp;omega),a1];refine⟨k,rfl,Z++[Ent.pair a b],Z.length::ls,⟨by simp[Ent.pv],by simp⟩,h,by simp;omega,by simp;omega⟩
 ·rintro s ⟨k,Z,ls,e,rfl,h,hl,G3⟩;cases k with
  | nil=>
   cases h;simpa using q
  | cons p k=>cases e
end My
variable{a b d:Int}
namespace My
theorem mulL(h:-1000000000<=a/\a<=1000000000):pi a b:=se ∅ ∅
theorem mulR(h:-1000000000<=b/\b<=1000000000):pi a b:=mul_r ∅ ∅
theorem m9(h0:0<=d)(h1:d < 6):∃st:Int,cG [PV.int 1,PV.int 3,PV.int 5,PV.int 7,PV.int 9,PV.int 11] d=al (.int st)/\(st=1\/st=3\/st=5\/st=7\/st=9\/st=11):=by
 have:d=0\/d=1\/d=2\/d=3\/d=4\/d=5:=by omega
 rcases this with rfl | rfl | rfl | rfl | rfl | rfl
 ·exact⟨1,rfl,by decide⟩
 ·exact⟨3,rfl,by decide⟩
 ·exact⟨5,rfl,by decide⟩
 ·exact⟨7,rfl,by decide⟩
 ·exact⟨9,rfl,by decide⟩
 ·exact⟨11,rfl,by decide⟩
theorem de{i j:Int}(h:-1000<=i/\i<=1000/\-1000<=j/\j<=1000)(h2:j-i<=1000):okN i j:=⟨by omega,by omega,by omega,by omega,cu ∅⟩
theorem y6{l:List α}(h:k+1 < l.length):∃a x y b,l=a++x::y::b/\a.length=k:=by
 refine⟨l.take k,l[k],l[k+1],l.drop (k+2),?_,by rw[Bj];omega⟩;have e1:l.drop k=l[k]::l.drop (k+1):=AU ∅;have e2:=AU ∅;rw[<- e2,<- e1,List.take_append_drop]
end My
variable{Q:O PL.PV->Prop}
namespace My
theorem take_ok05:∀ns l Q,potG05 ns->((fh 1 aQ) l).run Q->((λlo l=>fh 1 (m__law_take_4 lo) l) (ns.map PV.int) l).run λt=>Q t.1/\∃ya:O Int,t.2=ya.map PV.int/\potG05 ya:=by
 rintro ns l Q ⟨g,s,rfl,g0,s0,s1⟩ q
 match l,q with
 | [],q=>exact q.elim
 | _::_::_,q=>exact q.elim
 | [x],q=>
  show(m__law_take_4 _ x).run _;have q:=q;cases x with
  | int m=>
   obtain⟨⟨m0,m1⟩,q⟩:=q;have q:∀d:Int,0<=d->d < m->Q (.int d):=λd h0 h1=>q _ ⟨d,rfl,h0,h1⟩;unfold m__law_take_4;generalize hA:(2305843009213693951:Int)=A;generalize hB:(6364136223846793005:Int)=B;generalize hC:(1442695040888963407:Int)=C;have A0:0 < A:=by omega
   by_cases hg:0 < g
   ·simp[cG,lM,hg,m0,setW,tX];refine⟨by omega,q _ (Bg _ ∅) (Ba _ m0),[g / m,s],rfl,_,_,rfl,Int.ediv_nonneg g0 ∅,s0,s1⟩
   ·have e1:pi s B:=se ∅ ∅;simp[cG,lM,hg,m0,setW,Jj,e1,A0,tX];generalize hM:(s*B+C) % A=M;have M0:0<=M:=by rw[<- hM];exact Bg _ ∅
    have M1:M < A:=by rw[<- hM];exact Ba _ A0
    refine⟨se ∅ ∅,q _ (Bg _ ∅) (Ba _ m0),[g,M],rfl,_,_,rfl,g0,M0,by omega⟩
  | _=>exact q.elim
theorem hand_run05{k:Int}(k0:0<=k)(k1:k<=1000)(q:∀l,(∃ms:O Int,l=ms.map PV.int/\potG05 ms)->Q l):(m__law_hand_2 (.cl (ns.map PV.int)) (.int k)).run Q:=by
 unfold m__law_hand_2;generalize hA:(2305843009213693951:Int)=A;generalize hB:(2305843009213693921:Int)=B;have A0:0 < A:=by omega
 have B0:0 < B:=by omega
 have fin:∀x:Int,(am (b2 cz (b2 oMod (c1 ju (ap (.int x))) (b2 cz (b2 cz (b2 fF (ap (.int 10)) (ap (.int 60))) (b2 fF (ap (.int 10)) (ap (.int 60)))) (b2 fF (ap (.int 10)) (ap (.int 60))))) (c1 kG (b2 E3 (c1 ju (ap (.int x))) (b2 fF (ap (.int 10)) (ap (.int 18)))))) λdC=>
 (dC\λx4=>am (b2 oMod (b2 cz (w2 addW (w2 addW (b2 oMod (ap (.int x)) (ap (.int B))) (b2 cz (b2 cz (ap (.int 104729)) (ap (.int k))) (ap (.int k)))) (ap (.int 7))) (ap (.int 48271))) (ap (.int A))) λx5=>ap [x4,x5])).run Q:=by
  intro x;have p1:tW 10 60:=⟨by decide,by decide,by decide⟩;have p2:tW 10 18:=⟨by decide,by decide,by decide⟩;have c1:pi 104729 k:=mulL ∅;have c2:pi (104729*k) k:=mulR ∅;have c3:∀y,pi y 48271:=λy=>mulR ∅;simp only[r9,yN,r6 p1,r6 p2,sZ,iX,F1,oU,dF,yU,W.tJ,W.uF,ss,r6 c1,r6 c2,r6 (c3 _),r6 A0,r6 B0];refine⟨Eg (by decide +kernel) (by decide +kernel),Eg (by decide +kernel) (by decide +kernel),by decide +kernel,?_,?_⟩
  ·split
   ·exact mulR ∅
   ·exact mulR ∅
  ·refine q _ ⟨[_,_],rfl,_,_,rfl,Int.mul_nonneg (Bg _ (by decide +kernel)) ?_,Bg _ ∅,by rw[hA];exact Ba _ A0⟩
   split <;> first | decide | (split <;> decide)
 cases ns with
 | nil=>
  simp only[Eb,r9,kx,List.isEmpty_nil,Dm,AB,if_false];exact fin 0
 | cons n ns=>
  have l0:(0:Int) < ((n::ns).map PV.int).length:=by simp
  obtain⟨v,e,e2⟩:=kI (xs:=(n::ns).map PV.int) (Bg k ∅) (Ba k l0);rw[Ao]at e2;obtain⟨c,rfl⟩:∃c,v=.int c:=by
   cases z:(n::ns)[(k % ((n::ns).map PV.int).length).toNat]? with
   | none=>rw[z]at e2;cases e2
   | some c=>rw[z]at e2;exact⟨c,(Option.some.inj e2).symm⟩
  have e3:(!((n::ns).map PV.int).isEmpty)=true:=rfl;simpa only[r9,kx,e3,if_true,fY,ky,iX,r6 l0,dh,e,W.aV]using fin c
theorem menuP_begin(h0:0<=d)(h1:d < 3):∃bg:Str,cG [PV.str "",PV.str "",PV.str "ab"] d=al (.str bg)/\Part bg 2:=by
 have:d=0\/d=1\/d=2:=by omega
 rcases this with rfl | rfl | rfl
 ·exact⟨"",rfl,by decide +kernel,by decide +kernel⟩
 ·exact⟨"",rfl,by decide +kernel,by decide +kernel⟩
 ·exact⟨"ab",rfl,by decide +kernel,by decide +kernel⟩
theorem menuP_end(h0:0<=d)(h1:d < 4):∃bg:Str,cG [PV.str "",PV.str "a",PV.str "zz",PV.str "abcde"] d=al (.str bg)/\Part bg 5:=by
 have:d=0\/d=1\/d=2\/d=3:=by omega
 rcases this with rfl | rfl | rfl | rfl
 ·exact⟨"",rfl,by decide +kernel,by decide +kernel⟩
 ·exact⟨"a",rfl,by decide +kernel,by decide +kernel⟩
 ·exact⟨"zz",rfl,by decide +kernel,by decide +kernel⟩
 ·exact⟨"abcde",rfl,by decide +kernel,by decide +kernel⟩
theorem words_run05{m:Int}(m0:0<=m)(m1:m<=26)(q:∀ws:O Str,ws.length=m.toNat->(∀x∈ws,Wd x)->ws.Nodup->Q (ws.map PV.str)):(m__law_words_5 (.int m)).run Q:=by
 unfold m__law_words_5;simp only[r9,ge,bK 26 ⋯ ⋯,bK 6 ⋯ ⋯,bK 3 ⋯ ⋯];refine aU λd1 a1 b1=>aU λd3 a3 b3=>?_;obtain⟨st,kl,MY⟩:=m9 a3 b3;simp only[dh,kl,W.aV,ss];refine aU λd5 a5 b5=>?_;obtain⟨bg,NJ,K5⟩:=menuP_begin a5 b5;simp only[dh,NJ,W.aV,ss,fZ,r6 (de (i:=0) (j:=m) ∅ ∅)];have lb:=K5.1;refine iU (λi s=>∃ws:O Str,s=ws.map PV.str/\ws.length=i/\(∀x∈ws,Wd x)/\(ws.map λx=>x.cps[bg.length]?)=(BW i).map λk:Nat=>al (97+((d1+st*(0+(k:Int))) % 26).toNat)) ⟨[],rfl,rfl,by simp,rfl⟩ ?_ ?_
 ·rintro i s hi ⟨ws,rfl,hl,hw,hs⟩;have e0:0<=(d1+st*(0+(i:Int))) % 26:=Bg _ ⋯;have e1:(d1+st*(0+(i:Int))) % 26 < 26:=Ba _ ⋯;have e2:(d1+st*(i:Int))=d1+st*(0+(i:Int)):=by rw[Ec]
  have c1:pi st (i:Int):=mulL ∅;have c2:("abcdefghijklmnopqrstuvwxyz":Str).length<=sizeLine:=by decide +kernel
  have c3:bg.length+(⟨#[97+((d1+st*(0+(i:Int))) % 26).toNat]⟩:Str).length<=sizeLine:=cu (by show bg.length+1<=1000;omega);simp only[r9,ge,bK 4 ⋯ ⋯];refine aU λd7 a7 b7=>?_;obtain⟨en,Nz,K4⟩:=menuP_end a7 b7;have le:=K4.1;have c4:(bg++(⟨#[97+((d1+st*(0+(i:Int))) % 26).toNat]⟩:Str)).length+en.length<=sizeLine:=cu (by rw[Ah];show bg.length+1+en.length<=1000;omega);simp only[dh,Nz,W.aV,ss,r9,sZ,r6 c1,dF,iX,r6 (show(0:Int) < 26 by decide),e2,yR _ _ (pS e0 e1),r6 c2,vL,r6 c3,r6 c4];rw[eF (by rw[Aq,hl];omega)];refine⟨ws++[bg++⟨#[97+((d1+st*(0+(i:Int))) % 26).toNat]⟩++en],by rw[Bt];rfl,by rw[Ad,hl];rfl,?_,by rw[Bt,hs,List.range_succ,Bt,List.map_singleton,List.map_singleton,pd]⟩;intro x hx;rcases Bs.mp hx with z | z
  ·exact hw x z
  ·rw[AY.mp z];exact uo K5 K4 ∅ ∅
 ·rintro s ⟨ws,rfl,hl,hw,hs⟩;have nd:(ws.map λx=>x.cps[bg.length]?).Nodup:=by rw[hs];exact jl MY ∅
  exact q ws hl hw (ka (g:=λx:Str=>x.cps[bg.length]?) nd)
end My
variable{ws:O Bo}
namespace My
theorem joined_run05(hw:ws≠[])(h8:ws.length<=100){Q:PV->Prop}(q:∀t:Tr,t.aj=ws->Q t.pv):(m__law_joined_2 (.cl (ws.map PV.str))).run Q:=by
 have wl:0 < ws.length:=D0.mpr hw;unfold m__law_joined_2;simp only[r9,ge,fY,ss,bK 5 ⋯ ⋯,ky,sX,Aq,fZ];refine aU λw w0 w1=>?_;simp only[r6 (de (i:=0) (j:=(ws.length:Int)-1) ∅ ∅),ss];refine iU (λi s=>∃ts:O Tr,s=ts.map Tr.pv/\ts.length+i=ws.length/\ts.flatMap Tr.aj=ws) ⟨ws.map Tr.leaf,by simp[Tr.pv],by simp,by simp[List.flatMap_map,Tr.aj,List.flatMap_singleton']⟩ ?_ ?_
 ·rintro i s hi ⟨ts,rfl,hl,hp⟩;have h2:2<=ts.length:=by omega
  have f0:(0:Int) < (ts.length:Int)-2+1:=by omega
  simp only[r9,ge,s9,Aq,sX,ss,dF,iX,r6 f0,bK ((ts.length:Int)-2+1) f0 ∅];refine aU λd d0 d1=>aU λe e0 e1=>?_;have m0:=Bg ((i:Int)) (show(ts.length:Int)-2+1≠0 by omega);have m1:=Ba ((i:Int)) f0;obtain⟨a,ha,a1⟩:∃a:Nat,cG [PV.int 0,PV.int ((ts.length:Int)-2),PV.int (((i:Int)) % ((ts.length:Int)-2+1)),PV.int d,PV.int e] w=al (.int (a:Int))/\a+1 < ts.length:=by
   have:w=0\/w=1\/w=2\/w=3\/w=4:=by omega
   rcases this with rfl | rfl | rfl | rfl | rfl
   ·exact⟨0,rfl,by omega⟩
   ·exact⟨ts.length-2,by show al (PV.int ((ts.length:Int)-2))=_;congr 2;omega,by omega⟩
   ·exact⟨(((i:Int)) % ((ts.length:Int)-2+1)).toNat,by show al (PV.int _)=_;rw[CV m0],by omega⟩
   ·exact⟨d.toNat,by show al (PV.int d)=_;rw[CV d0],by omega⟩
   ·exact⟨e.toNat,by show al (PV.int e)=_;rw[CV e0],by omega⟩
  obtain⟨as,x,y,bs,rfl,hk⟩:=y6 a1;have i0:cG ((as++x::y::bs).map Tr.pv) (a:Int)=al x.pv:=kH (by rw[Ao,Ak ∅];simp[hk]);have i1:cG ((as++x::y::bs).map Tr.pv) ((a:Int)+1)=al y.pv:=by
   have:((a:Int)+1)=((a+1:Nat):Int):=by push_cast;rfl
   rw[this];exact kH (by rw[Ao,Ak ∅];simp[hk])
  simp only[dh,ha,W.aV,ss,i0,i1,dF,r9];rw[Ad,Ar,Ar]at hl;refine⟨⟨by omega,by omega,?_,cu ?_⟩,?_⟩
  ·rw[Aq,Ad,Ar,Ar];push_cast;omega
  ·rw[Aq,Ad,Ar,Ar];simp;omega
  ·have e:((as++x::y::bs).map Tr.pv).take (a:Int).toNat++[.tup [x.pv,y.pv]]++((as++x::y::bs).map Tr.pv).drop ((a:Int)+2).toNat=(as++.node x y::bs).map Tr.pv:=by
    have t1:(a:Int).toNat=as.length:=by omega
    have t2:((a:Int)+2).toNat=as.length+2:=by omega
    rw[t1,t2,<- List.map_take,<- List.map_drop,List.take_left' rfl];have:(as++x::y::bs).drop (as.length+2)=bs:=by
     rw[show as++x::y::bs=(as++[x,y])++bs by simp,List.drop_left' (by simp)]
    rw[this];simp[Tr.pv]
   refine⟨as++.node x y::bs,e,by simp;omega,?_⟩;rw[<- hp];simp[List.flatMap_append,List.flatMap_cons,Tr.aj]
 ·rintro s ⟨ts,rfl,hl,hp⟩;have h1:ts.length=1:=by omega
  match ts,h1 with
  | [t],_=>
   have:t.aj=ws:=by simpa using hp
   exact q t this
end My
variable{f:PL.PV->FL.W PL.PV}
namespace My
theorem mapW_all5{S:PV->Prop}:∀{l:O PV},(∀x∈l,∀R:PV->Prop,(∀v,S v->R v)->(f x).run R)->∀{Q:O PV->Prop},(∀m,m.length=l.length->(∀v∈m,S v)->Q m)->(gD l f).run Q
 | [],_,Q,q=>q [] rfl (λ_ h=>nomatch h)
 | x::l,h,Q,q=>by
  show(am (f x) λy=>am (gD l f) λm=>ap (y::m)).run Q;simp only[ge];refine h x (.head _) _ λv hv=>?_;refine mapW_all5 (λy hy=>h y (.tail _ hy)) λm hm hs=>?_;exact q (v::m) (by simp[hm]) λu hu=>by
   rcases Ax.mp hu with rfl | hu
   ·exact hv
   ·exact hs u hu
theorem strs_of5:∀{m:O PV}{ls:O Str},(∀v∈m,∃w∈ls,v=PV.str w)->∃ws:O Str,m=ws.map PV.str/\∀w∈ws,w∈ls
 | [],_,_=>⟨[],rfl,λ_ h=>nomatch h⟩
 | v::m,ls,h=>by
  obtain⟨w,hw,rfl⟩:=h v (.head _);obtain⟨ws,rfl,h2⟩:=strs_of5 (m:=m) (ls:=ls) λu hu=>h u (.tail _ hu);exact⟨w::ws,rfl,λx hx=>by
   rcases Ax.mp hx with rfl | hx
   ·exact hw
   ·exact h2 x hx⟩
def occ_let:∀k:_root_.Fin 26,occ "(" (97+k.val)=false:=by decide +kernel
theorem occ_l{c:Nat}(h:97<=c/\c < 123):occ "(" c=false:=by
 have:=occ_let ⟨c-97,by omega⟩;have e:97+(c-97)=c:=by omega
 simpa[e]using this
def occ_pp:occ "(" 40=true:=by decide +kernel
def occ_cc:occ "," 44=true:=by decide +kernel
def occ_rr:occ ")" 41=true:=by decide +kernel
def occ_c0:occ LTR 44=false:=by decide +kernel
def occ_r0:occ LTR 41=false:=by decide +kernel
def Kx(k:O Nat):Prop:=∀c r,k=c::r->c=44\/c=41
def wd_cut{x k:O Nat}(h8:x.length<=8)(hx:∀c∈x,97<=c/\c < 123)(hk:Kx k):((x++k).take 8).takeWhile (occ LTR)=x:=by
 have all:∀c∈x,occ LTR c=true:=λc hc=>nr (hx c hc).1 (hx c hc).2;rw[List.take_append,Bv h8,List.takeWhile_append_of_pos all];have:((k.take (8-x.length)).takeWhile (occ LTR))=[]:=by
  cases k with
  | nil=>simp
  | cons c r=>
   have hc:occ LTR c=false:=by
    rcases hk c r rfl with z | z
    ·rw[z];exact occ_c0
    ·rw[z];exact occ_r0
   cases e:8-x.length with
   | zero=>simp
   | succ m=>rw[List.take_succ_cons,BG (by rw[hc];decide)]
 rw[this,Bf]
def fin(T:Str)(k n:Nat)(st:Stk)(x:PV):Option (PV×Nat):=match beh T n st x with
 | some (.aL,n2,jV)=>rdN T frT k n2 jV
 | some (y,n2,_)=>al (y,n2)
 | none=>be
theorem rd_tree:∀(t:Tr),t.Ws->∀(pre k:O Nat) (st:Stk) (fu:Nat),T.cps.toList=pre++(t.tl++k)->Kx k->st.length+t.depth < 1000->rdN T frT (fu+t.size) pre.length st=fin T fu (pre.length+t.tl.length) st t.pv
 | .leaf x,hw,pre,k,st,fu,hT,hk,hd=>by
  obtain⟨w1,w2,w3⟩:=hw x (AY.mpr rfl);have hT:T.cps.toList=pre++(x.cps.toList++k):=hT;have lx:x.cps.toList.length=x.length:=by simp[Cz]
  have ew:wdAt T pre.length=x.cps.toList:=by
   unfold wdAt;rw[hT,List.drop_left];exact wd_cut ∅ w3 hk
  have e1:at1 T pre.length "("=false:=by
   cases ex:x.cps.toList with
   | nil=>rw[ex]at lx;simp at lx;omega
   | cons c r=>
    have:T.cps.toList[pre.length]?=al c:=by rw[hT,ex];simp
    rw[at1_of this];exact occ_l (w3 c (by rw[ex];exact .head _))
  have ef:frT T pre.length=al (.str x,false,pre.length+x.length):=by
   unfold frT;rw[e1,ew,if_neg ⋯,if_neg (λz=>by rw[z]at lx;simp at lx;omega),lx]
  show rdN T frT (fu+1) pre.length st=fin T fu (pre.length+x.cps.toList.length) st (.str x);rw[lx,rdN,ef];rfl
 | .node l r,hw,pre,k,st,fu,hT,hk,hd=>by
  have dl:l.depth < (Tr.node l r).depth/\r.depth < (Tr.node l r).depth:=by
   show l.depth < max l.depth r.depth+1/\r.depth < max l.depth r.depth+1;omega
  have FK:T.cps.toList=pre++(40::(l.tl++(44::(r.tl++(41::k))))):=by rw[hT,nX]
  have len:(Tr.node l r).tl.length=l.tl.length+r.tl.length+3:=by
   have:=congrArg CH (nX l r []);simp at this;omega
  have sz:fu+(Tr.node l r).size=(fu+r.size+l.size)+1:=by show fu+(l.size+r.size+1)=_;omega
  have t1:T.cps.toList[pre.length]?=al 40:=by rw[FK];simp
  have ef:frT T pre.length=al (.tup [],true,pre.length+1):=by
   unfold frT;rw[at1_of t1,occ_pp,if_pos rfl]
  rw[sz,rdN,ef];show(if ([]:O PV).length<=100/\st.length < 1000 then rdN T frT (fu+r.size+l.size) (pre.length+1) (([],be)::st) else be)=_;rw[if_pos ⟨by simp,by omega⟩];have h1:=rd_tree l (λx hx=>hw x (Bn _ hx)) (pre++[40]) (44::(r.tl++(41::k))) (([],be)::st) (fu+r.size) (by rw[FK];simp) (λc r e=>by injection e with e;exact .inl e.symm) (by simp;omega);rw[Ad,Bh]at h1;rw[h1];have t2:T.cps.toList[pre.length+1+l.tl.length]?=al 44:=by
   rw[FK,Ak ∅];have:pre.length+1+l.tl.length-pre.length=l.tl.length+1:=by omega
   rw[this,Co,Ak (Aj _),Dy];rfl
  have b1:beh T (pre.length+1+l.tl.length) (([],be)::st) l.pv=al (.aL,pre.length+1+l.tl.length+1,([],al l.pv)::st):=by
   unfold beh;rw[at1_of t2,occ_cc,if_pos rfl]
  unfold fin;rw[b1];show rdN T frT (fu+r.size) (pre.length+1+l.tl.length+1) (([],al l.pv)::st)=_;have h2:=rd_tree r (λx hx=>hw x (Av _ hx)) (pre++[40]++l.tl++[44]) (41::k) (([],al l.pv)::st) fu (by rw[FK];simp) (λc r e=>by injection e with e;exact .inr e.symm) (by simp;omega);rw[Ad,Ad,Ad,Bh,Bh]at h2;rw[h2];have t3:T.cps.toList[pre.length+1+l.tl.length+1+r.tl.length]?=al 41:=by
   rw[FK,Ak ∅];have:pre.length+1+l.tl.length+1+r.tl.length-pre.length=(l.tl.length+1+r.tl.length)+1:=by omega
   rw[this,Co,Ak ∅];have:l.tl.length+1+r.tl.length-l.tl.length=r.tl.length+1:=by omega
   rw[this,Co,Ak (Aj _),Dy];rfl
  have b2:beh T (pre.length+1+l.tl.length+1+r.tl.length) (([],al l.pv)::st) r.pv=beh T (pre.length+(Tr.node l r).tl.length) st (Tr.node l r).pv:=by
   rw[beh,at1_of t3,occ_rr,if_pos rfl,len];have:pre.length+1+l.tl.length+1+r.tl.length+1=pre.length+(l.tl.length+r.tl.length+3):=by omega
   rw[this];rfl
  unfold fin;rw[b2]
def tl_len(t:Tr):t.tl.length=t.text.length:=by simp[Tr.tl,Cz]
theorem rt_le(t:Tr)(hw:t.Ws)(hd:t.depth < 900)(hl:t.text.length<=1000):(mRT (.str t.text)).le (.ret t.pv):=λQ q=>by
 refine⟨t.text,t.size,t.pv,rfl,AX hl ⋯,?_,q⟩;have:=rd_tree (T:=t.text) t hw [] [] [] 0 (by simp[Tr.tl]) (λ_ _ e=>by cases e) (by simp;omega);simp only[List.length_nil,D9,tl_len]at this;rw[this];unfold fin;rw[beh];cases t <;> rfl
end My
variable{u:Bo}
namespace My
def ev_stW(h:u.length<=1000):stW (.str u)=.ret u:=r6 h
def brk_eq{v:Str}(h1:u.length<=1000)(h2:v.length<=1000):m_bracketed (.str u) (.str v)=.ret (.str (Bx++"("++u++","++v++")")):=by
 unfold m_bracketed;simp only[r9,ev_stW h1,ev_stW h2]
theorem post_sub:∀(t:Tr) (k:Nat) (u:Tr),t.post[k]?=al u->t.Ws->u.Ws/\u.aj.length<=t.aj.length
 | .leaf x,k,u,h,hw=>by
  have:k=0:=by have:=(Ag.mp h).1;simp[Tr.post]at this;exact this
  subst this;simp[Tr.post]at h;subst h;exact⟨hw,Aj _⟩
 | .node l r,k,u,h,hw=>by
  have h:(l.post++r.post++[Tr.node l r])[k]?=al u:=h;have hm:=Ay h;have go:∀s:Tr,(∀k (u:Tr),s.post[k]?=al u->s.Ws->u.Ws/\u.aj.length<=s.aj.length)->s.Ws->s.aj.length<=(Tr.node l r).aj.length->u∈s.post->u.Ws/\u.aj.length<=(Tr.node l r).aj.length:=λs ih hs hl hu=>by
   obtain⟨j,hj⟩:=DW hu;obtain⟨a,b⟩:=ih j u hj hs;exact⟨a,AX b hl⟩
  have e:(Tr.node l r).aj=l.aj++r.aj:=rfl;rcases Bs.mp hm with hm | hm
  ·rcases Bs.mp hm with hm | hm
   ·exact go l (λk u=>post_sub l k u) (λx hx=>hw x (by rw[e];exact Bn _ hx)) (by rw[e,Ad];omega) hm
   ·exact go r (λk u=>post_sub r k u) (λx hx=>hw x (by rw[e];exact Av _ hx)) (by rw[e,Ad];omega) hm
  ·rw[AY.mp hm];exact⟨hw,Aj _⟩
theorem txt_small(hw:t.Ws)(hl:t.aj.length<=60):t.text.length<=1000:=by have:=t.text_len hw;omega
theorem text_le(t:Tr)(hw:t.Ws)(hl:t.aj.length<=60):(m_text_of t.pv).le (.ret (.str t.text)):=λQ q=>by
 have hz:t.size<=900:=by have:=t.size_eq;omega
 unfold m_text_of;simp only[r9,ge];refine W.le.use (rV t hz) ?_;simp only[ss,fX];refine oP (λi s=>s=(t.post.take i).map λu=>PV.str u.text) rfl (λi x s hx hs=>?_) (λs hs=>?_)
 ·subst hs;have hi:i < t.post.length:=by
   have:=(Ag.mp hx).1;rw[Aq,Tr.du]at this;rw[t.aO];exact this
  obtain⟨u,hu⟩:∃u,t.post[i]?=al u:=⟨_,Ai hi⟩;have tl:((t.post.take i).map λu=>PV.str u.text).length < 1000:=by
   have:=t.aO;rw[Aq,Bj];omega
  have nx:((t.post.take (i+1)).map λu=>PV.str u.text)=((t.post.take i).map λu=>PV.str u.text)++[PV.str u.text]:=by
   rw[List.take_succ,hu,Bt];rfl
  have n:=rZ t 0 i u hu;rw[Ao]at hx;cases u with
  | leaf y=>
   have n:(t.nd 0)[i]?=al (.word y):=n;rw[n]at hx;cases hx;show(dA (am (am (ap (PV.str y)) (cm .str)) cJ) _ _).run _;simp only[r9,ge,kC,kB,cp,ss,if_true,eF tl];exact nx.symm
  | node l r=>
   obtain⟨a,b,n1,ha,hb,pa,pb⟩:=n;rw[n1]at hx;cases hx;obtain⟨lw,ll⟩:=post_sub t a l pa hw;obtain⟨oi,rl⟩:=post_sub t b r pb hw;have ga:cG ((t.post.take i).map λu=>PV.str u.text) ((0+a:Nat):Int)=al (.str l.text):=atI_n (by rw[D9,Ao,Ck,if_pos ha,pa];rfl);have gb:cG ((t.post.take i).map λu=>PV.str u.text) ((0+b:Nat):Int)=al (.str r.text):=atI_n (by rw[D9,Ao,Ck,if_pos hb,pb];rfl);have ep:(Ent.pair (0+a) (0+b)).pv=PV.tup [.int ((0+a:Nat):Int),.int ((0+b:Nat):Int)]:=rfl;show(dA (am (am (ap (PV.tup [.int ((0+a:Nat):Int),.int ((0+b:Nat):Int)])) (cm .str)) cJ) _ _).run _;have i0:cG [PV.int ((0+a:Nat):Int),.int ((0+b:Nat):Int)] 0=al (.int ((0+a:Nat):Int)):=rfl;have i1:cG [PV.int ((0+a:Nat):Int),.int ((0+b:Nat):Int)] 1=al (.int ((0+b:Nat):Int)):=rfl;simp only[r9,ge,ep,hZ,kA,cp,ss,AB,if_false,fX,dh,i0,i1,W.aV,ga,gb,brk_eq (txt_small lw ∅) (txt_small oi ∅),eF tl];exact nx.symm
 ·subst hs;have sp:=t.size_pos;have:((t.nd 0).map Ent.pv).length=t.size:=by rw[Aq,Tr.du]
  rw[this,Bv (by rw[t.aO];exact Aj _)];have e:cG (t.post.map λu=>PV.str u.text) (-1)=al (.str t.text):=by
   have pl:=t.gw;obtain⟨a,x,z⟩:=og (l:=t.post) (λz=>by rw[z]at pl;cases pl);have:x=t:=by
    have l:=t.aO;rw[z,Ad,Bh]at l;rw[z,Ak ∅]at pl;have:t.size-1-a.length=0:=by omega
    rw[this]at pl;simpa using pl
   rw[z,Bt,this];exact i6 _ _
  simp only[r9,yP,dh,e,W.aV,ss];exact q
def node_text(l r:Tr):("(":Str)++(l.text++","++r.text)++")"=(Tr.node l r).text:=by
 apply uy;show _=(Bx++"("++l.text++","++r.text++")":Str).cps.toList;rw[AN,AN,AN,AN,AN,AN,AN,AN,AN];have:Bx.cps=#[]:=rfl;simp[this]
def map2_run{a b x:PV}(h1:(f a).le (.ret x))(h2:(f b).le (.ret y))(q:Q [x,y]):(gD [a,b] f).run Q:=by
 show(f a).run (λx=>(f b).run λy=>Q [x,y]);exact h1 _ (h2 _ q)
theorem ltext_le:∀(n:Nat) (t:Tr),t.depth < n->t.Ws->t.aj.length<=60->(m__law_text n t.pv).le (.ret (.str t.text))
 | 0,t,h,_,_=>by omega
 | n+1,.leaf x,h,hw,hl=>λQ q=>by
  show(dA (am (am (ap (PV.str x)) (cm .str)) cJ) _ _).run _;simp only[r9,kC,kB,cp,ss,if_true];exact q
 | n+1,.node l r,h,hw,hl=>λQ q=>by
  have e:(Tr.node l r).aj=l.aj++r.aj:=rfl;rw[e,Ad]at hl;have d:(Tr.node l r).depth=max l.depth r.depth+1:=rfl;have lw:l.Ws:=λx hx=>hw x (by rw[e];exact Bn _ hx);have oi:r.Ws:=λx hx=>hw x (by rw[e];exact Av _ hx);have l1:=l.text_len lw;have l2:=r.text_len oi;show(dA (am (am (ap (PV.tup [l.pv,r.pv])) (cm .str)) cJ) _ _).run _;simp only[r9,ge,hZ,kA,cp,ss,AB,if_false,Tr.pv,fX,ev_stW (show(",":Str).length<=1000 by decide +kernel)];refine map2_run (ltext_le n l ∅ lw ∅) (ltext_le n r ∅ oi ∅) ?_;have c1:(",":Str).length=1:=by decide +kernel
  have c2:("(":Str).length=1:=by decide +kernel
  have c3:(")":Str).length=1:=by decide +kernel
  refine⟨⟨by omega,by omega⟩,?_⟩;refine⟨cu (by rw[Ah,Ah];omega),cu (by rw[Ah,Ah,Ah];omega),?_⟩;rw[node_text];exact q
theorem same2_le:∀(n:Nat) (t:Tr),t.depth < n->(m__law_same_2 n t.pv t.pv).le (.ret (.bl true))
 | 0,t,h=>by omega
 | n+1,.leaf x,h=>λQ q=>by
  have e:of2 gB (.str x) (.str x)=.ret (.bl true):=by rw[lX,r6 ⟨by simp,by simp,by simp⟩,sV];simp
  show(dA (am (am (ap (PV.str x)) (cm .tup)) cJ) _ _).run _;simp only[r9,ge,Tr.pv,kC,vK,cp,ss,AB,if_false,kB,if_true,yS,PV.lN,nF,oV,e];exact q
 | n+1,.node l r,h=>λQ q=>by
  have d:(Tr.node l r).depth=max l.depth r.depth+1:=rfl;show(dA (am (am (ap (PV.tup [l.pv,r.pv])) (cm .tup)) cJ) _ _).run _;simp only[r9,ge,Tr.pv,hZ,vJ,cp,ss,if_true,Dm,AB,if_false,vI,yQ,beq_self_eq_true,nF,fX];refine⟨cu (by simp),?_⟩;have ez:gm [l.pv,r.pv] [l.pv,r.pv]=[PV.tup [l.pv,l.pv],PV.tup [r.pv,r.pv]]:=by simp[gm]
  simp only[ss,ez];refine map2_run (a:=.tup [l.pv,l.pv]) (b:=.tup [r.pv,r.pv]) (x:=.bl true) (y:=.bl true) ?_ ?_ q
  ·exact same2_le n l ∅
  ·exact same2_le n r ∅
theorem far_run(hw:ws.length=26){Q:PV->Prop}(q:∀t:Tr,(∀x∈t.aj,x∈ws)->t.aj.length<=50->Q t.pv):(m__law_far (.cl (ws.map PV.str))).run Q:=by
 unfold m__law_far;have at':∀i:Int,0<=i->i < 26->∃w∈ws,cG (ws.map PV.str) i=al (.str w):=λi h0 h1=>by
  obtain⟨v,e1,e2⟩:=kI (xs:=ws.map PV.str) h0 (by rw[Aq,hw];exact h1);rw[Ao]at e2;cases z:ws[i.toNat]? with
  | none=>rw[z]at e2;cases e2
  | some w=>rw[z]at e2;exact⟨w,Ay z,by rw[e1];exact e2.symm⟩
 obtain⟨w0,m0,e0⟩:=at' 0 ⋯ ⋯;simp only[r9,ge,fY,dh,e0,W.aV,bK 3 ⋯ ⋯,bK 40 ⋯ ⋯];refine aU λsd s0 s1=>aU λd d0 d1=>?_;simp only[dF,r9,fZ,r6 (de (i:=0) (j:=10+d) ∅ ∅),ss];refine iU (λi s=>∃t:Tr,s=t.pv/\(∀x∈t.aj,x∈ws)/\t.aj.length=i+1) ⟨.leaf w0,rfl,λx hx=>by rw[AY.mp hx];exact m0,rfl⟩ ?_ ?_
 ·rintro i s hi ⟨t,rfl,ht,hl⟩;have e1:0<=(i:Int) % 26:=Bg _ ⋯;have e2:(i:Int) % 26 < 26:=Ba _ ⋯;obtain⟨w,mw,ew⟩:=at' _ e1 e2;have r1:∃t':Tr,PV.tup [t.pv,.str w]=t'.pv/\(∀x∈t'.aj,x∈ws)/\t'.aj.length=i+1+1:=⟨.node t (.leaf w),rfl,λx hx=>by
   rcases Bs.mp hx with z | z
   ·exact ht x z
   ·rw[AY.mp z];exact mw,by show(t.aj++[w]).length=_;rw[Ad,hl];rfl⟩
  have r2:∃t':Tr,PV.tup [.str w,t.pv]=t'.pv/\(∀x∈t'.aj,x∈ws)/\t'.aj.length=i+1+1:=⟨.node (.leaf w) t,rfl,λx hx=>by
   rcases Bs.mp hx with z | z
   ·rw[AY.mp z];exact mw
   ·exact ht x z,by show([w]++t.aj).length=_;rw[Ad,hl];simp;omega⟩
  simp only[r9,fY,ky,Aq,iX,r6 (show(0:Int) < (ws.length:Int) by rw[hw];decide),dh,r6 (show(0:Int) < 2 by decide)];have ew:cG (ws.map PV.str) ((i:Int) % (ws.length:Int))=al (.str w):=by rw[hw];exact ew
  simp only[ew,W.aV,r9];obtain⟨v3,h3,k3⟩:∃v,cG [PV.tup [t.pv,.str w],.tup [.str w,t.pv]] ((i:Int) % 2)=al v/\∃t':Tr,v=t'.pv/\(∀x∈t'.aj,x∈ws)/\t'.aj.length=i+1+1:=by
   have:(i:Int) % 2=0\/(i:Int) % 2=1:=by omega
   rcases this with z | z <;> rw[z]
   ·exact⟨_,rfl,r1⟩
   ·exact⟨_,rfl,r2⟩
  simp only[h3,W.aV,r9];obtain⟨v4,h4,k4⟩:∃v,cG [PV.tup [t.pv,.str w],.tup [.str w,t.pv],v3] sd=al v/\∃t':Tr,v=t'.pv/\(∀x∈t'.aj,x∈ws)/\t'.aj.length=i+1+1:=by
   have:sd=0\/sd=1\/sd=2:=by omega
   rcases this with z | z | z <;> rw[z]
   ·exact⟨_,rfl,r1⟩
   ·exact⟨_,rfl,r2⟩
   ·exact⟨_,rfl,k3⟩
  simp only[dh,h4,W.aV,r9,ss];exact k4
 ·rintro s ⟨t,rfl,ht,hl⟩;exact q t ht ∅
def jn3:m__law_joined_3=m__law_joined_2:=(rfl)
def hd3:m__law_hand_3=m__law_hand_2:=(rfl)
def read_ab:(mRT (.str "(b,(a,ab))")).le (.ret (.tup [.str "b",.tup [.str "a",.str "ab"]])):=by
 have w1:Wd "a":=⟨by decide +kernel,by decide +kernel,by decide +kernel⟩;have w2:Wd "b":=⟨by decide +kernel,by decide +kernel,by decide +kernel⟩;have w3:Wd "ab":=⟨by decide +kernel,by decide +kernel,by decide +kernel⟩;have e:(Tr.node (.leaf "b") (.node (.leaf "a") (.leaf "ab"))).text="(b,(a,ab))":=by decide +kernel
 have:=rt_le (.node (.leaf "b") (.node (.leaf "a") (.leaf "ab"))) (λx hx=>by
  have hx:x∈(["b","a","ab"]:O Str):=hx;simp only[Ax,CA,or_false]at hx;rcases hx with rfl | rfl | rfl
  ·exact w2
  ·exact w1
  ·exact w3) ⋯ (by rw[e];decide +kernel)
 rw[e]at this;exact this
def read_8:(mRT (.str "abcdefgh")).le (.ret (.str "abcdefgh")):=rt_le (.leaf "abcdefgh") (λx hx=>by rw[AY.mp hx];exact⟨by decide +kernel,by decide +kernel,by decide +kernel⟩) ⋯ (by show("abcdefgh":Str).length<=1000;decide +kernel)
def Gd73(v:PV):Prop:=∃t:Tr,v=t.pv/\t.Ws/\t.aj.length<=50
theorem law73_ok:∀ns:O Int,ns.length<=63->(m_law_24 (.cl (ns.map PV.int))).run (·=.bl true):=by
 intro ns hn;unfold m_law_24;have hl:(nL (ns.map PV.int) be (al 16)).length<=16:=by
  unfold nL;rw[HT.qQ,show(al (16:Int))=al ((16:Nat):Int) from rfl,HT.uE];simp only[Bj,B9];omega
 generalize hm:(nL (ns.map PV.int) be (al 16)).length=m at hl;simp only[r9,ge,kx,vH,s9,hm,dF,fZ,r6 (de (i:=0) (j:=1+(m:Int)) ∅ ∅),ss,jn3,hd3];refine sS (λ_ s=>s=()) rfl (λk s hk hs=>?_) (λs hs=>?_)
 ·refine hand_run05 ∅ ∅ λl hl=>?_;refine⟨hl,?_⟩;simp only[r9,ge,ss];refine words_run05 (m:=26) ⋯ ⋯ λws wl hw _=>?_;have wl:ws.length=26:=wl;simp only[r9,ge,bK 8 ⋯ ⋯,fY];refine aU λd d0 d1=>?_;obtain⟨b,hb,b0,b1⟩:∃b:Int,cG [PV.int 10,PV.int 40] (if (d==0)=true then 1 else 0)=al (.int b)/\0 < b/\b<=40:=by
   by_cases h:d=0
   ·subst h;exact⟨40,rfl,by decide,by decide⟩
   ·have e:(d==0)=false:=by simpa using h
    rw[e];exact⟨10,rfl,by decide,by decide⟩
  simp only[yT,ss,oU,dh,hb,W.aV,bK b b0 ∅];refine aU λc c0 c1=>?_;simp only[dF,ss,fZ,r6 (de (i:=0) (j:=1+c) ∅ ∅)];refine mapW_all5 (S:=λv=>∃w∈ws,v=PV.str w) (λx _ R r=>?_) λms hl hs=>?_
  ·simp only[r9,ge,bK 26 ⋯ ⋯];refine aU λe e0 e1=>?_;obtain⟨v,hv,Fv⟩:=kI (xs:=ws.map PV.str) e0 (by rw[Aq,wl];exact e1);simp only[dh,hv,W.aV,ss];rw[Ao]at Fv;cases z:ws[e.toNat]? with
   | none=>rw[z]at Fv;cases Fv
   | some w=>
    rw[z]at Fv;exact r v ⟨w,Ay z,(Option.some.inj Fv).symm⟩
  obtain⟨us,rfl,hu⟩:=strs_of5 hs;rw[df,Aq]at hl;refine joined_run05 (λz=>by rw[z]at hl;simp at hl;omega) ∅ λt ht=>?_;refine far_run wl λt2 lO yD=>?_;obtain⟨w0,m0,e0⟩:∃w∈ws,cG (ws.map PV.str) 0=al (.str w):=by
   obtain⟨v,e1,e2⟩:=kI (xs:=ws.map PV.str) (i:=0) ⋯ (by rw[Aq,wl];decide);rw[Ao]at e2;cases z:ws[(0:Int).toNat]? with
   | none=>rw[z]at e2;cases e2
   | some w=>rw[z]at e2;exact⟨w,Ay z,by rw[e1];exact e2.symm⟩
  simp only[ss,dh,e0,W.aV,fX];have g1:Gd73 t.pv:=⟨t,rfl,λx hx=>hw x (hu x (ht▸hx)),by rw[ht];omega⟩;have g2:Gd73 t2.pv:=⟨t2,rfl,λx hx=>hw x (lO x hx),yD⟩;have g3:Gd73 (.str w0):=⟨.leaf w0,rfl,λx hx=>by rw[AY.mp hx];exact hw w0 m0,by show 1<=50;decide⟩;refine oQ (λ_ s=>s=()) rfl (λi x s hx hs=>?_) (λs hs=>?_)
  ·obtain⟨t,rfl,tw,tl⟩:Gd73 x:=by
    have:=Ay hx;simp only[Ax,CA,or_false]at this;rcases this with rfl | rfl | rfl
    ·exact g1
    ·exact g2
    ·exact g3
   have td:=t.iZ;have tt:=txt_small tw ∅;simp only[ge];refine W.le.use (ltext_le 52 t ∅ tw ∅) ?_;simp only[r9,ge,ss];refine W.le.use (rt_le t tw ∅ tt) ?_;refine W.le.use (same2_le 52 t ∅) ?_;simp only[ss,cp,Dm,AB,if_false,ge];refine W.le.use (rt_le t tw ∅ tt) ?_;refine W.le.use (same2_le 52 t ∅) ?_;simp only[ss,cp,Dm,AB,if_false,ge];refine W.le.use (text_le t tw ∅) ?_;have e:of2 j9 (.str t.text) (.str t.text)=.ret (.bl false):=by rw[sY,r6 ⟨by simp,by simp,by simp⟩,sV];simp
   simp only[ss,e,nF,r9,AB,if_false]
  ·simp only[sL,ss]
 ·simp only[sL,ge];refine W.le.use read_ab ?_;have e1:of2 gB (.tup [.str "b",.tup [.str "a",.str "ab"]]) (.tup [.str "b",.tup [.str "a",.str "ab"]])=.ret (.bl true):=by rw[lX,r6 ⟨by simp,by simp,by simp⟩,lW _ (by simp)]
  have e2:of2 gB (.str "abcdefgh") (.str "abcdefgh")=.ret (.bl true):=by rw[lX,r6 ⟨by simp,by simp,by simp⟩,sV];simp
  simp only[r9,e1,ss,oV,ge];refine W.le.use read_8 ?_;simp only[r9,e2,ss]
instance tabc:bj:=⟨[(146,"read_tree.<locals>.<lambda>")]⟩
def top(i:Nat):lm:=Bl.main.body.getD i (.Pass ⟨0,0,0,0⟩)
abbrev dV(i k:Nat)(ks:O AK)(n:Nat)(m:mG PV n):DF:=⟨LB (top i),top i,mC (top i),k,λK=>kS K ks (fh n m)⟩
abbrev dL(i k:Nat)(ks:O AK)(n:Nat)(m:mG (O PV) n):DF:=⟨LB (top i),top i,mC (top i),k,λK=>pz K ks (fh n m)⟩
abbrev dv(i k n:Nat)(m:mG PV n):DF:=dV i k (AI n .v) n m
def sc__law_take:br (mD (top 20)) (mC (top 20)) (af (top 20)):=oM
def sc__law_text:br (mD (top 23)) (mC (top 23)) (af (top 23)):=oM
abbrev lsc__law_text_0:ut:=IU [("_law_one",lo),("_law_text",gi)]
def lc__law_text_0:LS (top 23) lsc__law_text_0:=lcs
def sc__law_same:br (mD (top 24)) (mC (top 24)) (af (top 24)):=oM
abbrev lsc__law_same_0:ut:=IU [("_law_one",lo),("_law_other",lo),("_law_same",gi)]
def lc__law_same_0:LS (top 24) lsc__law_same_0:=lcs
abbrev lsc_law_0:ut:=IU [("_law_leaf",lo),("_law_take",gi),("_law_hand_here",fr),("_law_words_here",fr)]
def lc_law_0:LS (top 26) lsc_law_0:=lcs
structure NB(v:EV):Prop where
 isinstance:v.mg "isinstance"=be
 str:v.mg "str"=be
 list:v.mg "list"=be
 reversed:v.mg "reversed"=be
 len:v.mg "len"=be
 tuple:v.mg "tuple"=be
 abs:v.mg "abs"=be
 int:v.mg "int"=be
 range:v.mg "range"=be
 zip:v.mg "zip"=be
 all:v.mg "all"=be
 bool:v.mg "bool"=be
abbrev d_parts_of:DF:=dL 3 1 [.v] 1 e7
def k_parts_of(D:DI v d_parts_of)(q:NB v):D.O:=
 IT D λhr nd bG=>
 (sl 1 nd (bF (n:=0) aw rfl) λfg=>
 (sl 2 nd (bF (n:=1) (av 0 aw) rfl) λgn=>
 (SF.zX (hd:=(λ(s4:O PV×O PV)=>([al (.val bG),al (.ol be s4.1),al (.ol be s4.2),be]:aX))) (s0:=(fg,gn)) A3 (.refl _) (λs4=>(zY rfl (cx 2) (λ_=>rfl))) (λs4=>
 (SF.mV 2 3 rfl ⋯ rfl rfl (.inl rfl) nd rfl (Bm rfl) λt7=>
 (SF.append 1 rfl rfl rfl (.inl rfl) (ag 3) λfe=>
 (SF.Jm (k6 (eS rfl (eB rfl .str rfl q.isinstance (ag 3) rfl q.str boot_str) (λ_=>rfl)))
 (SF.extend 2 rfl rfl rfl (.inl rfl) (fx (ag 3)) λic=>
 (SF.jh rfl (.m 8)))
 (SF.jh rfl (.m 8)))))) λs4=>
 (SF.wx (Fb rfl rfl rfl q.list rfl q.reversed (xH 1)) λ_=>rfl))))
abbrev d_nodes:DF:=dv 4 2 1 hO
def k_nodes(D:DI v d_nodes)(q:NB v)(nB:d_parts_of.C v):D.O:=
 zp D λhr nd bG=>
 (sl 1 nd (bF (n:=0) aw rfl) λmQ=>
 (sl 2 nd (bF (n:=0) aw rfl) λke=>
 (SF.sT (hd:=(λ(s4:O PV×O PV)=>([al (.val bG),al (.ol be s4.1),al (.ol be s4.2),be,be,be]:aX))) (s0:=(mQ,ke)) A3 rfl (kh rfl (Fl (lC nB hr (av 0 aw)))) (.refl _) (rj 3 nd) (λs4 j8=>
 (SF.M7 (out1:=λ(xA:O PV×O PV)=>.nx ([al (.val bG),al (.ol be xA.1),al (.ol be xA.2),al (.val j8),be,be]:aX)) (eS rfl (eB rfl .str rfl q.isinstance (ag 3) rfl q.str boot_str) (λ_=>rfl))
 (SF.append 1 rfl rfl rfl (.inl rfl) (ag 3) λnW=>
 (SF.nil rfl (.refl _)))
 (SF.mV 2 4 rfl ⋯ rfl rfl (.inl rfl) nd rfl (Bm rfl) λIk=>
 (SF.mV 2 5 rfl ⋯ rfl rfl (.inl rfl) nd rfl (Bm rfl) λIj=>
 (SF.append 1 rfl rfl rfl (.inl rfl) (dG (n:=2) (av 5 (av 4 aw)) rfl) λnV=>
 (SF.nil rfl (.m 48)))))
 λxA=>(SF.append 2 rfl rfl rfl (.inl rfl) (tu (nJ rfl rfl q.len (cx 1)) ao) λlJ=>
 (SF.jh rfl (.m 8))))) λs4=>
 (SF.eY (vM rfl rfl q.tuple (cx 1)) λ_=>rfl))))
abbrev d_bracketed:DF:=dv 5 1 2 m_bracketed
def k_bracketed(D:DI v d_bracketed):D.O:=
 zp D λhr nd E1 rF=>
 (SF.eY (e_f2 (ag 0) (ag 1)) λ_=>rfl)
abbrev d_text_of:DF:=dv 6 3 1 m_text_of
def k_text_of(D:DI v d_text_of)(q:NB v)(vD:d_nodes.C v)(lS:d_bracketed.C v):D.O:=
 zp D λhr nd bG=>
 (sl 1 nd (bF (n:=0) aw rfl) λjR=>
 (SF.sT (hd:=(λ(s3:O PV)=>([al (.val bG),al (.ol be s3),be]:aX))) (s0:=jR) A3 rfl (kh rfl (iM (eC vD hr (av 0 aw)))) (.refl _) (rj 2 nd) (λs3 iC=>
 (SF.Jm (eS rfl (eB rfl .str rfl q.isinstance (ag 2) rfl q.str boot_str) (λ_=>rfl))
 (SF.append 1 rfl rfl rfl (.inl rfl) (ag 2) λnZ=>
 (SF.jh rfl (.m 4)))
 (SF.append 1 rfl rfl rfl (.inl rfl) (eC lS hr (ai (bZ rfl (cx 1) (bZ rfl (fx (ag 2)) ao)) (ai (bZ rfl (cx 1) (bZ rfl (fx (ag 2)) ao)) aw))) λnY=>
 (SF.jh rfl (.m 4))))) λs3=>
 (SF.eY (bZ rfl (cx 1) (F4 ao)) λ_=>rfl)))
abbrev d_read_tree:DF:=dRT
abbrev d__law_hand:DF:=dL 19 1 [.v,.v] 2 m__law_hand_3
def k__law_hand(D:DI v d__law_hand)(q:NB v):D.O:=
 IT D λhr nd bp k_=>
 (sv 2 nd (Kj (zZ rfl (dn hr) (qX (ag 0))) (bZ rfl (fx (ag 0)) (dM (ag 1) (l4 rfl rfl q.len (ag 0)))) ao) λeD=>
 (sv 3 nd (f7 (dM (xb rfl q.abs (ag 2)) (f7 (f7 (oX ao ao) (oX ao ao)) (oX ao ao))) (oW rfl q.int (iY Fj (xb rfl q.abs (ag 2)) (oX ao ao)))) λoK=>
 (SF.wx (bF (n:=2) (av 3 (ai (dM (f7 (bC rfl (bC rfl (dM (ag 2) ao) (f7 (f7 ao (ag 1)) (ag 1))) ao) ao) ao) aw)) rfl) λ_=>rfl)))
abbrev d__law_take:DF:=dV 20 1 [.p (i9 potG05),.v] 1 aQ
def k__law_take(D:DI v d__law_take):D.O:=
 xM (n:=1) (NY (n:=1) (m:=m__law_take_4) D.fn sc__law_take rfl λad a9 l hl=>match l,hl with | [eT],_=>λ_ _ _ _ _ _ hr=>show SF _ _ _ [al (.ol (al ad) a9),al (.val eT),be,be] _ (m__law_take_4 a9 eT) _ from
 (SF.wO (k7 Fh (bZ rfl (cx 0) ao) ao)
 (sv 2 sc__law_take.nd (dM (bZ rfl (cx 0) ao) (ag 1)) λoZ=>
 (SF.EA 0 rfl rfl (.inl rfl) (tE (bZ rfl (cx 0) ao) (ag 1)) ao λer=>
 (SF.EC 0 (k:=λx5=>(x5,er)) rfl (ag 2) λ_=>rfl)))
 (SF.EA 0 rfl rfl (.inl rfl) (dM (bC rfl (f7 (bZ rfl (cx 0) ao) ao) ao) ao) ao λcR=>
 (sv 3 sc__law_take.nd (tE (bZ rfl (cx 0) ao) ao) λkb=>
 (SF.EC 0 (k:=λqA=>(qA,cR)) rfl (dM (tE (dM (f7 (ag 3) (ag 3)) ao) ao) (ag 1)) λ_=>rfl))))) take_ok05
abbrev d__law_words:DF:=dL 21 2 [.p (i9 potG05),.v] 1 m__law_words_5
def k__law_words(D:DI v d__law_words)(q:NB v)(aF:d__law_take.C v):D.O:=
 IT D λhr nd eT=>
 (sv 2 nd bU λgE=>
 (SF.par (i:=3) (j:=4) rfl nd rfl rfl ⋯ rfl rfl (eC aF hr (cH 0 (ai ao aw))) (bZ rfl (gK (bF (n:=6) (ai ao (ai ao (ai ao (ai ao (ai ao (ai ao aw)))))) rfl)) (eC aF hr (cH 0 (ai ao aw)))) λiW jU=>
 (sv 5 nd (bZ rfl (gK (bF (n:=3) (ai bU (ai bU (ai bU aw))) rfl)) (eC aF hr (cH 0 (ai ao aw)))) λi4=>
 (sl 6 nd (bF (n:=0) aw rfl) λiR=>
 (SF.sT (hd:=(λ(xy:O PV)=>([al (.gk (i9 potG05)),al (.val eT),al (.val gE),al (.val iW),al (.val jU),al (.val i4),al (.ol be xy),be,be]:aX))) (s0:=iR) A3 rfl (fP rfl q.range (ag 1)) (.refl _) (rj 7 nd) (λxy Ff=>
 (sv 8 nd (bZ rfl (gK (bF (n:=4) (ai bU (ai bU (ai bU (ai bU aw)))) rfl)) (eC aF hr (cH 0 (ai ao aw)))) λtm=>
 (SF.append 6 rfl rfl rfl (.inl rfl) (bC rfl (bC rfl (ag 5) (F6 (ag 2) (dM (bC rfl (ag 3) (f7 (ag 4) (ag 7))) ao) (λ_ _=>rfl))) (ag 8)) λlV=>
 (SF.jh rfl (.m 384))))) λxy=>
 (SF.Iv 6 rfl rfl))))))
abbrev d__law_joined:DF:=dV 22 2 [.p (i9 potG05),.v] 1 m__law_joined_3
def k__law_joined(D:DI v d__law_joined)(q:NB v)(aF:d__law_take.C v):D.O:=
 zp D λhr nd ik=>
 (SF.parL (i:=2) (j:=3) rfl nd rfl rfl ⋯ rfl rfl (ym rfl rfl q.list (fx (ag 1))) (eC aF hr (cH 0 (ai ao aw))) λlh fq=>
 (SF.sT (hd:=(λ(s5:O PV)=>([al (.gk (i9 potG05)),al (.val ik),al (.ol be s5),al (.val fq),be,be,be]:aX))) (s0:=lh) A3 rfl (fP rfl q.range (tu (l4 rfl rfl q.len (ag 1)) ao)) (.refl _) (rj 4 nd) (λs5 wM=>
 (sv 5 nd (tu (nJ rfl rfl q.len (cx 2)) ao) λcE=>
 (sv 6 nd (bZ rfl (gK (bF (n:=5) (ai ao (av 5 (ai (dM (ag 4) (bC rfl (ag 5) ao)) (ai (eC aF hr (cH 0 (ai (bC rfl (ag 5) ao) aw))) (ai (eC aF hr (cH 0 (ai (bC rfl (ag 5) ao) aw))) aw))))) rfl)) (ag 3)) λjv=>
 (SF.Ez 2 rfl rfl (.inl rfl) (bF (n:=1) (ai (dG (n:=2) (ai (bZ rfl (cx 2) (ag 6)) (ai (bZ rfl (cx 2) (bC rfl (ag 6) ao)) aw)) rfl) aw) rfl) (ag 6) (bC rfl (ag 6) ao) λjY=>
 (SF.jh rfl (.m 112)))))) λs5=>
 (SF.eY (bZ rfl (cx 2) ao) λ_=>rfl)))
abbrev d__law_text:DF:=dv 23 52 1 (m__law_text 52)
theorem k__law_text(D:DI v d__law_text)(q:NB v):∀n,bf v.P v.w v.K v.mg v.base dS (n+0) D.f D.fd (mC (top 23)) (kS v.K [.v] (fh 1 (m__law_text n)))
 | 0=>wW (qJ λl Q hl=>match l,hl with | [bG],_=>λh=>h.elim)
 | n+1=>have eu:=D.cN (k__law_text D q n)
  J3 (k:=n+0) (n:=1) (m:=m__law_text (n+1)) D.fn sc__law_text rfl (rM oA) λl hl=>match l,hl with | [bG],_=>λ_ _ _ _ _ _ hr=>show SF _ _ _ [al (.val bG)] _ (m__law_text (n+1) bG) _ from
 (SF.wO (eS rfl (eB rfl .str rfl q.isinstance (ag 0) rfl q.str boot_str) (λ_=>rfl))
 (SF.eY (ag 0) λ_=>rfl)
 (SF.eY (bC rfl (bC rfl bU (e_join2 rfl bU (su rfl lc__law_text_0 (kh rfl (iM (ag 0))) (λ_ _ _ _ _=>(rj 0 lc__law_text_0.nd)) (λ_ _ _ _ _ p2=>(eC eu hr (av 0 aw))) rfl))) bU) λ_=>rfl))
abbrev d__law_same:DF:=dv 24 52 2 (m__law_same_2 52)
theorem k__law_same(D:DI v d__law_same)(q:NB v):∀n,bf v.P v.w v.K v.mg v.base dS (n+0) D.f D.fd (mC (top 24)) (kS v.K [.v,.v] (fh 2 (m__law_same_2 n)))
 | 0=>wW (qJ λl Q hl=>match l,hl with | [c7,gY],_=>λh=>h.elim)
 | n+1=>have cT:=D.cN (k__law_same D q n)
  J3 (k:=n+0) (n:=2) (m:=m__law_same_2 (n+1)) D.fn sc__law_same rfl (rM (rM oA)) λl hl=>match l,hl with | [c7,gY],_=>λ_ _ _ _ _ _ hr=>show SF _ _ _ [al (.val c7),al (.val gY)] _ (m__law_same_2 (n+1) c7 gY) _ from
 (SF.wO (eS rfl (eB rfl .tup rfl q.isinstance (ag 1) rfl q.tuple boot_tuple) (λ_=>rfl))
 (SF.wO (xj.t (qC (k6 (eS rfl (eB rfl .tup rfl q.isinstance (ag 0) rfl q.tuple boot_tuple) (λ_=>rfl))) (mM (k7 (sC rfl (dn hr)) (l4 rfl rfl q.len (ag 0)) (l4 rfl rfl q.len (ag 1))))))
 (SF.eY vP λ_=>rfl)
 (SF.eY (F7 rfl rfl rfl q.all (xI (yk rfl lc__law_same_0 (yy rfl rfl q.zip (iM (ag 0)) (iM (ag 1))) (λ_ _ _ _ _=>(NV rfl (xN rfl (lA (rj 0 lc__law_same_0.nd) (lA (rj 1 lc__law_same_0.nd) uN))))) (λ_ _ _ _ _ t5=>(eC cT hr (av 0 (av 1 aw)))) (IZ rfl rfl ⋯) ⋯))) λ_=>rfl))
 (SF.wO (k7 sD (ag 1) w6)
 (SF.eY (iY sD (ag 0) w6) λ_=>rfl)
 (SF.wO (eS rfl (eB rfl .str rfl q.isinstance (ag 1) rfl q.str boot_str) (λ_=>rfl))
 (SF.eY (xa (eB rfl .str rfl q.isinstance (ag 0) rfl q.str boot_str) (wZ (iY (lL rfl (dn hr)) (ag 0) (ag 1)))) λ_=>rfl)
 (SF.wO (xj.t (qC (k6 (eS rfl (eB rfl .int rfl q.isinstance (ag 0) rfl q.int boot_int) (λ_=>rfl))) (mM (k7 (sC rfl (dn hr)) (eB rfl .bool rfl q.isinstance (ag 0) rfl q.bool boot_bool) (eB rfl .bool rfl q.isinstance (ag 1) rfl q.bool boot_bool)))))
 (SF.eY vP λ_=>rfl)
 (SF.eY (iY (lL rfl (dn hr)) (ag 0) (ag 1)) λ_=>rfl)))))
abbrev d__law_far:DF:=dV 25 2 [.p (i9 potG05),.v] 1 m__law_far
def k__law_far(D:DI v d__law_far)(q:NB v)(aF:d__law_take.C v):D.O:=
 zp D λhr nd bT=>
 (sv 2 nd (bZ rfl (fx (ag 1)) ao) λmP=>
 (sv 3 nd (eC aF hr (cH 0 (ai ao aw))) λmR=>
 (SF.sT (hd:=(λ(s6:PV)=>([al (.gk (i9 potG05)),al (.val bT),al (.val s6),al (.val mR),be,be]:aX))) (s0:=mP) A3 rfl (fP rfl q.range (bC rfl ao (eC aF hr (cH 0 (ai ao aw))))) (.refl _) (rj 4 nd) (λs6 Jh=>
 (sv 5 nd (bZ rfl (fx (ag 1)) (dM (ag 4) (l4 rfl rfl q.len (ag 1)))) λiH=>
 (sv 2 nd (bZ rfl (gK (bF (n:=3) (ai (dG (n:=2) (av 2 (av 5 aw)) rfl) (ai (dG (n:=2) (av 5 (av 2 aw)) rfl) (ai (bZ rfl (gK (bF (n:=2) (ai (dG (n:=2) (av 2 (av 5 aw)) rfl) (ai (dG (n:=2) (av 5 (av 2 aw)) rfl) aw)) rfl)) (dM (ag 4) ao)) aw))) rfl)) (ag 3)) λqE=>
 (SF.jh rfl (.m 48))))) λs6=>
 (SF.eY (ag 2) λ_=>rfl))))
abbrev d_law:DF:=dv 26 53 1 m_law_24
def k_law(D:DI v d_law)(q:NB v)(lT:d__law_hand.C v)(kr:d__law_words.C v)(aF:d__law_take.C v)(jn:d__law_joined.C v)(nC:d__law_far.C v)(eu:d__law_text.C v)(cT:d__law_same.C v)(cS:d_read_tree.C v)(qa:d_text_of.C v):D.O:=
 zp D λhr nd bp=>
 (SF.wU (hd:=(λ(s5:Unit)=>([al (.val bp),be,be,be,be,be,be,be]:aX))) (s0:=()) (inj:=id) A3 rfl (fP rfl q.range (bC rfl ao (nJ rfl rfl q.len (gK (Jb rfl (qX (ag 0)) xZ (xY ao)))))) (.refl _) (rj 1 nd) (λ_=>trivial) (λs5 wM=>
 (sl 2 nd (lC lT hr (av 0 (av 1 aw))) λgN=>SF.gk 2 rfl
 (sl 3 nd (lC kr hr (cH 2 (ai ao aw))) λbD=>
 SF.bX 3 rfl (sv 4 nd (bC rfl ao (eC aF hr (cH 2 (ai (bZ rfl (gK (bF (n:=2) (ai ao (ai ao aw)) rfl)) (oW rfl q.int (iY (lL rfl (dn hr)) (eC aF hr (cH 2 (ai ao aw))) ao))) aw)))) λkd=>
 (sv 5 nd (eC jn hr (cH 2 (ai (w9 (su rfl lc_law_0 (fP rfl q.range (ag 4)) (λ_ _ _ _ _=>(rj 0 lc_law_0.nd)) (λ_ _ _ _ _ Mv=>(bZ rfl (fx (ag 2)) (eC aF hr (cH 1 (ai ao aw))))) rfl)) aw))) λjQ=>
 (SF.wU (hd:=(λ(GG:Unit)=>([al (.val bp),al (.val wM),al (.gk (i9 potG05)),al (.val (.cl bD)),al (.val kd),al (.val jQ),be,be]:aX))) (s0:=()) (inj:=Lp.out) A3 rfl (kh rfl (iM (dG (n:=3) (av 5 (ai (eC nC hr (cH 2 (av 3 aw))) (ai (bZ rfl (fx (ag 3)) ao) aw))) rfl))) (.refl _) (rj 6 nd) (λ_=>trivial) (λGG iB=>
 (sv 7 nd (eC eu hr (av 6 aw)) λcg=>
 (SF.wO (xj.t (qC (k6 (eS rfl (eC cT hr (ai (eC cS hr (av 7 aw)) (av 6 aw))) (λ_=>rfl))) (mM (k6 (eS rfl (eC cT hr (ai (eC cS hr (av 7 aw)) (av 6 aw))) (λ_=>rfl))))))
 (SF.ret (k:=λHM=>(Lp.out HM)) vP λ_=>rfl)
 (SF.Jm (k7 (sC rfl (dn hr)) (eC qa hr (av 6 aw)) (ag 7))
 (SF.ret (k:=λHL=>(Lp.out HL)) vP λ_=>rfl)
 (SF.jh rfl (.m 192)))))) λGG=>
 (SF.jh rfl (.m 62)))))))) λs5=>
 (SF.eY (xa (iY (lL rfl (dn hr)) (eC cS hr (ai bU aw)) (dG (n:=2) (ai bU (ai (dG (n:=2) (ai bU (ai bU aw)) rfl) aw)) rfl)) (wZ (iY (lL rfl (dn hr)) (eC cS hr (ai bU aw)) bU))) λ_=>rfl))
def all_d{K:Aa}(X:K.In h)(G:h.Ns eM mg)(nI:DX K "parts_of" (top 3))(vN:DX K "nodes" (top 4))(l7:DX K "bracketed" (top 5))(qc:DX K "text_of" (top 6))(me:DX K "_law_hand" (top 19))(ma:DX K "_law_take" (top 20))(kD:DX K "_law_words" (top 21))(jr:DX K "_law_joined" (top 22))(l9:DX K "_law_text" (top 23))(md:DX K "_law_same" (top 24))(nK:DX K "_law_far" (top 25))(Ki:RD K)(lZ:DX K "take_many" (tpR 12))(f6:DX K "take_tree_front" (tpR 13))(jq:DX K "take_behind" (tpR 14))(jo:DX K "take_nested" (tpR 15))(nH:DX K "read_all" (tpR 16))(e_read_tree:DXc K "read_tree" (top 17) 146){ph:Tok}(gH:AD K eM "LETTERS"=al (al (.str "abcdefghijklmnopqrstuvwxyz" ph))){ig:Tok}(cF:AD K eM "LONGEST_WORD"=al (al (.int 8 ig)))(jP:AD K eM "isinstance"=al be)(zL:AD K eM "str"=al be)(xm:AD K eM "list"=al be)(mH:AD K eM "reversed"=al be)(zM:AD K eM "len"=al be)(ug:AD K eM "tuple"=al be)(zP:AD K eM "abs"=al be)(zN:AD K eM "int"=al be)(uh:AD K eM "range"=al be)(zK:AD K eM "zip"=al be)(zO:AD K eM "all"=al be)(xn:AD K eM "bool"=al be):Gw K mg d_law:=by
 constructor
 rintro v rfl rfl D;have q:∀b,NB (v.at b):=λb=>⟨AG X G jP,AG X G zL,AG X G xm,AG X G mH,AG X G zM,AG X G ug,AG X G zP,AG X G zN,AG X G uh,AG X G zK,AG X G zO,AG X G xn⟩;replace gH:=Cb X G gH;replace cF:=Cb X G cF;have p:=q v.base;have my:TabIs 146 "read_tree.<locals>.<lambda>":=⟨by decide +kernel,by decide +kernel⟩;obtain⟨ml⟩:=mk_rt (v:=v) X G Ki lZ f6 jq jo nH e_read_tree my gH cF p.len p.isinstance p.str;refine nI.go (d:=d_parts_of) X G (λD=>k_parts_of D p) λnR=>?_;refine vN.go (d:=d_nodes) X G (λD=>k_nodes D p nR) λv8=>?_;refine l7.go (d:=d_bracketed) X G (λD=>k_bracketed D) λmn=>?_;refine qc.go (d:=d_text_of) X G (λD=>k_text_of D p v8 mn) λqo=>?_;refine me.go (d:=d__law_hand) X G (λD=>k__law_hand D p) λmx=>?_;refine ma.go (d:=d__law_take) X G (λD=>k__law_take D) λcV=>?_;refine kD.go (d:=d__law_words) X G (λD=>k__law_words D p cV) λkL=>?_;refine jr.go (d:=d__law_joined) X G (λD=>k__law_joined D p cV) λjw=>?_;refine l9.go (d:=d__law_text) X G (λD=>k__law_text D p 52) λmq=>?_;refine md.go (d:=d__law_same) X G (λD=>k__law_same D p 52) λmr=>?_;refine nK.go (d:=d__law_far) X G (λD=>k__law_far D p cV) λnS=>?_;exact k_law D p mx kL cV jw nS mq mr ml qo
end My
end
open PySem PySem.W PyProof.Rows
structure PySem.W.Fast:Prop where(tw9489249641262631040 tw4597642494724749712 tw18182457303099716869 tw5480129105162023900 tw13926048478792732711 tw5992882856123235663 tw10043046172819390825 tw6338838067253452532 tw3993352401482991171 tw4150497131894538743 tw17714769001409309823 tw11866793657185949606 tw708918521278302754 tw12391687898503966884 tw5640717610785805191 tw18173488131668124144 tw3140844539742992157 tw6193109005119922536 tw7723258025143989444 tw1871020726218002807 tw13446331319804669091 tw14389982420817322485 tw175909821048209458 tw412901265744124510 tw14410363683238667193 tw4865429333669999891 tw9220300911711447757 tw7239575408064204452 tw7843376962203958285 tw6820360099338977975 tw17132324718410651496 tw14765968800219724879 tw6668789568838804480 tw9444044219219806466 tw4871951547118668808 tw184576793142024138 tw4814856156676452881 tw18394029067707486377 tw12903822966537189561 tw5027147427304473515 tw2553480513043525787 tw9498343437037701585 tw3602658829095810031 tw11735546732055503998 tw10631873805778609516 tw16859337319835931838 tw189596566566756454 tw17592885780330235279 tw3850455097619969608 tw8089565395740007731 tw2421353741288418549 tw15366020827334458621 tw3748282725439623221 tw2936160857406836256 tw11368100931201751357 tw15274786275555244112 tw14868833516127167984 tw6124169492361884437 tw8442783280392935102 tw10108617557950223720 tw10673047734909353526 tw5619791619373578016 tw11319872686542127949 tw7488529691721003821 tw6642435054137003681 tw7316250020348002572 tw2761755742418072005 tw3447402040183863023 tw17580901503110715422 tw10287347992946974013 tw10438891927667118677 tw2353757916714870739 tw12491799963285867001 tw10132244652116187504 tw1575624289811505900 tw3278060316530680114 tw15207203236123246632 tw7538797269338499559 tw13624148307995822350 tw8718583972502890744 tw3622233670109443098 tw5484188279564346377 tw684128247679123010 tw5722954281100612979 tw2026229569871380300 tw2331234768282637001 tw12553527423647126359 tw12273973410966437662 tw3696889093713186478 tw11011848023631331195 tw16216223872304917397 tw14579599361111616362 tw1836887928924463546 tw10888283885952602964 tw6982246597258433197 tw4983857649293823710 tw14834122916199439529 tw18179499694588594299 tw4079588032699525245 tw10061504611019377896 tw8633277374535788375 tw11619169632945483353 tw16295068383654661321 tw15534092826269695079 tw6189544660841527989 tw15969182043373026248 tw17884173347879324909 tw13212068914140675512 tw18107324134144187544 tw9676189026898886253 tw3020408836009270201 tw8064890261865716198 tw4525979208889371458 tw6083101342247768343 tw4214877866567073842 tw5490413280297305296 tw10302180482513373900 tw13295958132717254243 tw5269293406760829236 tw16708149190079392664 tw10143167526573095866 tw9524838996776555136 tw13745739417671812362 tw5426412957529825847 tw2156026076679671624 tw11797789888067935551 tw6695705194758704198 tw17106679651639318790 tw8950105614044663441 tw8627831371074109756 tw14373894917263866869 tw7800730750988571708 tw5463921850664098004 tw17944482901902682147 tw6295849098803074275 tw13682989239780361723 tw8488716770054401592 tw17082331333053158140 tw13228391544811284518 tw8141656013935663365 tw571995067470533235 tw6847447548974784734 tw17162766629066404756 tw9720927139164788681 tw13898751669180013545 tw4516482719141808483 tw15178996903359669148 tw6457519542848907002 tw1412204795229020158 tw10328081219085185909 tw12104921108459126049 tw15787859412393135651 tw2999187557455729810 tw12900930541323679772 tw9659501514059230014 tw16318767944176590246 tw12043513637707256135 tw11416893258543610799 tw17244282575290390827 tw4798108081310310810 tw13252285003981529194 tw9381128254236734031 tw2783880961832962589 tw14444690081110637347 tw7824062452436649968 tw5655062498828785559 tw2124891734032957762 tw5963299281603505588 tw458668137638491811 tw13920045709849277504 tw789815557717149665 tw15093872498662593931 tw8819090471336207268 tw18186748925172870912 tw13245262658795118899 tw12540315601570944019 tw7285857171594519119 tw2317441433356745309 tw10207659387672379454 tw11444585011577127142 tw2999089471068781518 tw15738319237004034423 tw13648165208205827900 tw10374102209348026977 tw4874370499765792200:True)
def PySem.W.Fast.tw16849667550457099968:=PySem.Challenge.pw_treewithin_k73_trees_written_and_read
theorem PySem.W.Fast.te16849667550457099968:PySem.Challenge.pw_treewithin_k73_trees_written_and_read=PySem.W.Fast.tw16849667550457099968:=rfl
set_option maxRecDepth 100000 in
set_option maxHeartbeats 0 in
theorem PySem.Challenge.cw_treewithin_k73_trees_written_and_read_holds : PySem.Challenge.rw_treewithin_k73_trees_written_and_read.Holds := by
 w_on;o_law;k_head;(case hw=>w_witness2)
 k_fill
 refine FL.walkT (l:=PySem.Challenge.rw_treewithin_k73_trees_written_and_read) (k:=53) rfl rfl ⟨rfl,by decide,by decide,rfl⟩ (fun w h Y=>⟨PySem.W.km_in_of Y,PySem.W.km_tabs_of Y⟩) ?K ?C ?F
 case K=>
  intro w P hP;have hP:P∈[146]:=hP;simp only[List.mem_cons,List.not_mem_nil,or_false]at hP;rcases hP with rfl
  all_goals first | rfl | k_is
 case C=>
  intro w h hK P hP;have hP:P∈[146]:=hP;simp only[List.mem_cons,List.not_mem_nil,or_false]at hP;rcases hP with rfl
  ·(refine' FL.DXc.tab (x:="read_tree") (st:=My.top 17) (FL.dxc ?a ?l ?h ?k ?e ?z) hK;(case a=>k_is);(case l=>k_is);(case h=>k_is);(case k=>k_is);(case e=>k_is);(case z=>exact⟨_,_,_,_,_,_,_,rfl,rfl,rfl,rfl,rfl,rfl,by decide⟩))
 case F=>
  intro w mg fa h KX G hmg;have e8_read_tree:=FL.forK (fun K=>FL.DXc K "read_tree" (My.top 17) 146) KX (by
   show FL.DXc _ _ _ _;refine' FL.dxc ?a ?l ?h ?k ?e ?z
   case a=>k_is
   case l=>k_is
   case h=>k_is
   case k=>k_is
   case e=>k_is
   case z=>exact⟨_,_,_,_,_,_,_,rfl,rfl,rfl,rfl,rfl,rfl,by decide⟩)
  refine' FL.mkAll (st:=My.top 26) (k:=53) My.law73_ok KX G hmg ?e (fun _ _ _ _ _ _=>FL.usN fun _=>rfl) (My.all_d KX G (e_read_tree:=e8_read_tree) ..)
  all_goals try first | (refine' FL.dx ?a ?l ?c ?k;(case a=>k_is);(case l=>k_is);(case c=>k_is);(case k=>k_is)) | (refine' My.rdx ?a ?m2 ?l1 ?c1 ?k1 ?m1 ?m3 ?m4 ?d1 ?d2 ?d3 ?d4 ?n1 ?n2 ?g2 ?l2 ?c2 ?k2 ?i2 ?g3 ?l3 ?c3 ?k3 ?i3;(case a=>k_is);(case m2=>k_is);(case l1=>k_is);(case c1=>k_is);(case k1=>k_is);(case m1=>k_is);(case m3=>k_is);(case m4=>k_is);(case d1=>k_is);(case d2=>k_is);(case d3=>k_is);(case d4=>k_is);(case n1=>k_is);(case n2=>k_is);(case g2=>k_is);(case l2=>k_is);(case c2=>k_is);(case k2=>k_is);(case i2=>k_is);(case g3=>k_is);(case l3=>k_is);(case c3=>k_is);(case k3=>k_is);(case i3=>k_is)) | k_is
#print axioms PySem.Challenge.cw_treewithin_k73_trees_written_and_read_holds
