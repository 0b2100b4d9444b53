import PyProof.Rows.All
import Wide.All
import OpenK.AllK
import Wide.FinOn
import Lean
import PyProof.EqAt
import PyProof.EqKinds
import PyProof.TupleCall
import PySem.Challenge.RW_nearland_k26_whole_one_net
set_option Elab.async false
set_option linter.all false
set_option maxRecDepth 100000
open Bool renaming false_ne_true → Zg, false_eq_true → Zm, eq_iff_iff → ZW, and_eq_true → ZX, not_true → aas, not_false → aaz, not_eq_true' → aa1, and_eq_true_iff → aa8, false_and → abJ, and_false → abK, or_false → abQ, and_true → abR
open Classical renaming byContradiction → Y3
open Int renaming mul_nonneg → Zi, mul_nonneg_of_nonpos_of_nonpos → Zo, mul_nonpos_of_nonneg_of_nonpos → Zs, mul_eq_zero → Zv, mul_nonpos_of_nonpos_of_nonneg → Zx, mul_pos → ZC, emod_lt_of_pos → ZD, emod_nonneg → ZG, mul_sub → ZH, mul_neg_of_pos_of_neg → ZL, le_of_lt → ZN, lt_or_gt_of_ne → ZU, mul_le_mul_of_nonneg_right → ZV, mul_neg_of_neg_of_pos → ZY, mul_zero → Z0, sign_eq_one_of_pos → Z8, lt_or_lt_of_ne → aag, sign_eq_neg_one_of_neg → aai, mul_pos_of_neg_of_neg → aak, lt_trichotomy → aam, le_refl → aaq, mul_le_mul_of_nonneg_left → aaE, le_total → aaL, add_zero → aaM, zero_mul → aaN, neg_mul → aa4, neg_mul_neg → aa9, sign_eq_neg_one_iff_neg → abe, lt_or_eq_of_le → abf, toNat_natCast → abh, eq_of_mul_eq_mul_left → abl, sign_neg → abt, sign_eq_one_iff_pos → abv, mul_one → abG, zero_add → abV, mul_comm → abX, one_mul → ab0
open List renaming length_map → Y4, mem_cons_of_mem → Y5, mem_cons → Y6, getElem?_eq_getElem → Y7, mem_singleton → Y8, mem_of_getElem? → Y9, size_toArray → Za, getD_eq_getElem?_getD → Zd, getElem?_eq_some_iff → Ze, mem_filter → Zf, length_append → Zh, length_cons → Zj, mem_append_left → Zk, mem_cons_self → Zl, map_append → Zn, nodup_cons → Zp, mem_append → Zq, not_mem_nil → Zt, length_reverse → Zu, all_eq_true → Zw, mem_append_right → Zy, perm_append_comm → Zz, mem_map → ZA, take_length → ZE, pairwise_cons → ZF, getElem?_map → ZI, map_cons → ZK, length_take → ZO, lookup_cons → ZQ, mem_reverse → ZR, mem_flatMap → ZS, length_dropLast → ZT, mem_of_mem_take → ZZ, mem_range → Z1, append_nil → Z2, getElem_mem → Z4, mem_iff_getElem? → Z5, zip_cons_cons → Z6, take_succ → Z7, getLast?_eq_some_getLast → Z9, reverse_cons → aac, flatMap_cons → aad, length_nil → aaf, length_drop → aah, filter_cons → aaj, mem_of_getLast? → aal, nodup_append → aan, getElem?_eq_none → aap, getLast?_reverse → aar, length_pos_iff → aat, zip_nil_right → aau, getElem?_append_right → aav, getElem?_zipWith → aaw, getElem?_append_left → aax, pairwise_iff_getElem → aay, flatMap_append → aaA, head?_reverse → aaB, getElem?_set_self → aaC, forIn_cons → aaD, length_range → aaG, mem_of_mem_head? → aaH, length_filter_le → aaI, perm_cons → aaJ, pairwise_append → aaO, all_cons → aaP, drop_eq_getElem_cons → aaQ, length_zipWith → aaS, getElem?_take_of_lt → aaT, mem_filterMap → aaU, ne_nil_of_mem → aaV, forIn_nil → aaX, take_sublist → aaY, mapM_toArray → aaZ, append_assoc → aa0, any_cons → aa3, all_toArray → aa5, getElem?_set_ne → aa7, all_map → aba, filterMap_cons → abb, toList_toArray → abc, nodup_nil → abd, zip_nil_left → abg, getLast?_eq_getElem? → abj, reverse_perm → abk, length_erase_of_mem → abn, zipIdx_cons → abo, map_snd_zip → abp, getElem?_replicate → abr, length_eq_zero_iff → abw, filter_cons_of_neg → abx, filter_cons_of_pos → aby, of_mem_zip → abz, take_of_length_le → abA, drop_of_length_le → abB, zipIdx_nil → abD, length_pos_of_mem → abE, zipWith_cons_cons → abF, length_singleton → abH, pairwise_reverse → abI, drop_zero → abL, mem_erase_of_ne → abN, mem_of_mem_drop → abO, dropLast_subset → abP, filter_append → abT, ext_getElem? → abY, any_eq_true → ab1, countP_cons → ab2, perm_middle → ab3, nodup_range → ab4, foldl_cons → ab6, range_succ → ab7, drop_drop → ab8
open Nat renaming le_refl → Zb, lt_of_lt_of_le → Zc, ne_of_lt → Zr, lt_irrefl → ZJ, ne_of_gt → ZM, le_succ → ZP, zero_le → Z3, le_add_right → aaa, lt_succ_of_lt → aab, le_trans → aae, not_lt → aao, le_of_ble_eq_true → aaF, le_of_lt → aaK, add_lt_add_left → aaR, lt_or_ge → aaW, succ_ne_self → aa6, lt_trichotomy → abi, lt_succ_self → abq, min_self → abu, not_lt_zero → abC, pow_le_pow_right → abM, eq_zero_or_pos → abS, le_of_eq → abU, sub_zero → abW, min_eq_left → ab5
open Option renaming map_eq_some_iff → aa2, isSome_iff_exists → abm, getD_none → abZ
namespace HD
open PySem PySem.W PySem.Calls
def Iv (p:Program) (w:World) (n₀:Nat) (ann:Option Value):Nat→SharedT→Thread→Option SharedT
 | 0,_,_=>none
 | n+1,s,t=>match through t with
   | true=>some s
   | false=>match stepOk n₀ ann t with
     | false=>none
     | true=>match stepT (denote treeTable) p w s t with
       | some (s',t')=>Iv p w n₀ ann n s' t'
       | none=>none
theorem Dh {p:Program} {w:World} {n₀:Nat} {ann:Option Value}:∀ {n:Nat} {s s':SharedT} {t:Thread},Iv p w n₀ ann n s t=some s'→topRun treeTable p w n₀ ann n s.abs t=some s'.abs
 | 0,_,_,_,h=>nomatch h
 | n+1,s,s',t,h=>by
   unfold Iv at h
   unfold topRun
   cases a:through t with
   | true=>rw [a] at h;cases h;rfl
   | false=>
     rw [a] at h
     dsimp only at h ⊢
     cases b:stepOk n₀ ann t with
     | false=>rw [b] at h;cases h
     | true=>
       rw [b] at h
       dsimp only at h ⊢
       cases c:stepT (denote treeTable) p w s t with
       | none=>rw [c] at h;cases h
       | some x=>
         obtain ⟨s1,t1⟩:=x
         rw [c] at h
         rw [stepT_spec c]
         exact Dh h
noncomputable def FQ (P:Params):BT:=((boot_heap P).objs.toList.foldl (fun x o=>(x.1.ins x.2 o,x.2+1)) (BT.nil,0)).1
theorem Es (P:Params):absHeap (FQ P) 11 (boot_heap P).life=boot_heap P:=by kernel_rfl
theorem Et (w:World):((boot_heap w.params).isNs mainGlobals && (#[]:Array GenState).size == 0,(boot_heap w.params).objs.size,(boot_heap w.params).nsMap mainGlobals "__annotations__")=(true,11,some (.ref 6)):=by kernel_rfl
theorem Eu {p q:Program} {loose:List Str} {Xt:Shared→Bool} {α:Type} {Yf:Shared→α} {Ya:World→α} {N M:Nat} (e:opening p=plainProg p.main.scope.names) (hN:Nat.ble 600 N=true) (f:∀ s,fenceModules? p s=some s) (le:Nat.ble M N=true)
 (run:∀ (w:World) (os:OsState),(Iv p w 11 (some (.ref 6)) M ⟨FQ w.params,11,(boot_heap w.params).life,#[],boot_drawn,boot_toks,os⟩ (topStub p)).map (fun sT=>
  (staticsOk (importedModules p.main.body) (boot_heap w.params) sT.abs.heap && namesBound p sT.abs.heap && gensDone sT.abs && laidKept (boot_heap w.params) sT.abs.heap,openSeen q loose (importedModules p.main.body) Xt true sT.abs,Yf sT.abs))=some (true,openGood q loose,Ya w)):LeftO p q loose Xt Yf Ya N:=fun w=>by
 obtain ⟨⟨h,gs,d,k,os⟩,e,e'⟩:=aa2.mp (boot_open e hN f w)
 obtain ⟨rfl,rfl,rfl,rfl⟩:h=boot_heap w.params∧gs=Array.mk []∧d=boot_drawn∧k=boot_toks:=by simpa using e'
 obtain ⟨z1,z2,z3⟩:_∧_∧_:=by simpa only [Prod.mk.injEq] using Et w
 obtain ⟨sT,e1,e2⟩:=aa2.mp (run w os)
 obtain ⟨l1,l2,l3⟩:_∧_∧_:=by simpa only [Prod.mk.injEq] using e2
 have r:=topRun_mono (N - M) _ _ _ _ (Dh e1)
 rw [show M+(N - M)=N by have:=aaF le;omega] at r
 have a:SharedT.abs ⟨FQ w.params,11,(boot_heap w.params).life,#[],boot_drawn,boot_toks,os⟩= ⟨boot_heap w.params,Array.mk [],boot_drawn,boot_toks,os⟩:=by
  unfold SharedT.abs
  dsimp only
  rw [Es]
 rw [a] at r
 have t:topFrom treeTable p w N ⟨boot_heap w.params,Array.mk [],boot_drawn,boot_toks,os⟩=some sT.abs:=by
  unfold topFrom
  dsimp only
  rw [z1,z2,z3,r]
  show (match staticsOk (importedModules p.main.body) (boot_heap w.params) sT.abs.heap && namesBound p sT.abs.heap && gensDone sT.abs && laidKept (boot_heap w.params) sT.abs.heap with | true=>_ | false=>_)=_
  rw [l1]
 unfold openEnds
 rw [e]
 show (topFrom treeTable p w N _).map _=_
 rw [t]
 exact congrArg some (Prod.ext l2 l3)
def dA (s:Stmt):Arguments:=match s with
 | .FunctionDef _ a _ _ _ _ _ _ _ _=>a
 | _=>{ posonlyargs:=[],args:=[],vararg:=none,kwonlyargs:=[],kw_defaults:=[],kwarg:=none,defaults:=[] }
def dB (s:Stmt):List Stmt:=match s with
 | .FunctionDef _ _ b _ _ _ _ _ _ _=>b
 | _=>[]
def dS (s:Stmt):Scope:=match s with
 | .FunctionDef _ _ _ _ _ _ sc _ _ _=>sc
 | _=>{ kind:= .function,names:=[],isGenerator:=false,isCoroutine:=false }
abbrev pr (n:Str) (st:Stmt):Str ×Stmt:=(n,st)
def Nl (h:Heap) (n:Str):Option (Option Value):=match h.get? mainGlobals with
 | some o=>nsIn [(mainGlobals,o)] mainGlobals n
 | none=>none
def fnAt (h:Heap) (n:Str):Option (Addr ×FuncData):=match Nl h n with
 | some (some (.ref f))=>(match h.get? f with
   | some ⟨_,_,.func fd,_⟩=>some (f,fd)
   | _=>none)
 | _=>none
def nD (h:Heap) (v:Value):Option Str:=match v with
 | .ref c=>(match h.get? c with
   | some ⟨_,_,.fields vs,_⟩=>(match vs.toList with
     | _ :: .str q _ :: _=>some q
     | _=>none)
   | _=>none)
 | _=>none
def blank (fd:FuncData):FuncData:={ fd with kwdefaults:= .none,doc:= .none,pyModule:= .none,annotations:=none,code:= .none,closureTuple:= .none }
abbrev Seen:=List (Option (FuncData ×Option Str)) ×List (Option (Option Value))
def B0 (fs:List (Str ×Stmt)) (bs:List Str) (s:Shared):Seen:=
 (fs.map fun p=>(fnAt s.heap p.1).map fun x=>(blank x.2,nD s.heap x.2.code),bs.map fun b=>Nl s.heap b)
def good (fs:List (Str ×Stmt)) (bs:List Str):Seen:=
 (fs.map fun p=>some (fnOf p.1 p.1 (dA p.2) (dB p.2) (dS p.2) .none .none .none .none none .none .none,some p.1),bs.map fun _=>some none)
end HD
namespace  Pf
open PySem PySem.W PyProof.Rows
def top (i:Nat):Stmt:=PySem.Challenge.pw_nearland_k26_whole_one_net.main.body.getD i (.Pass ⟨0,0,0,0⟩)
abbrev nE:Stmt:=top 36
abbrev gn:Stmt:=top 41
abbrev jB:Stmt:=top 37
abbrev kY:Stmt:=top 38
abbrev kZ:Stmt:=top 39
abbrev k6:Stmt:=top 40
abbrev jC:Stmt:=top 42
abbrev k7:Stmt:=top 43
abbrev gE:Stmt:=top 50
abbrev jD:Stmt:=top 51
abbrev k8:Stmt:=top 52
abbrev qf:Stmt:=top 53
abbrev jE:Stmt:=top 25
abbrev B3:Stmt:=top 4
abbrev yX:Stmt:=top 6
abbrev B4:Stmt:=top 7
abbrev jF:Stmt:=top 21
abbrev k9:Stmt:=top 26
abbrev jG:Stmt:=top 12
abbrev uC:Stmt:=top 22
abbrev c7:Stmt:=top 23
abbrev fL:Stmt:=top 27
abbrev iS:Stmt:=top 9
abbrev rN:Stmt:=top 10
abbrev gZ:Stmt:=top 11
abbrev B5:Stmt:=top 19
abbrev fM:Stmt:=top 28
abbrev fO:Stmt:=top 29
abbrev jH:Stmt:=top 31
abbrev nF:Stmt:=top 14
abbrev yY:Stmt:=top 15
abbrev B6:Stmt:=top 16
abbrev uD:Stmt:=top 17
abbrev fR:Stmt:=top 30
abbrev yZ:Stmt:=top 32
abbrev qg:Stmt:=top 46
abbrev nG:Stmt:=top 45
abbrev fS:Stmt:=top 47
abbrev dH:Stmt:=top 48
abbrev lA:Stmt:=top 49
abbrev lB:Stmt:=top 44
abbrev jI:Stmt:=top 20
abbrev pH:Stmt:=top 34
abbrev iF:Stmt:=top 54
abbrev FT:Stmt:=top 55
def view:Program:={ PySem.Challenge.pw_nearland_k26_whole_one_net with main:={ PySem.Challenge.pw_nearland_k26_whole_one_net.main with body:=[top 55] } }
def loose:List Str:=(["NearError","Flat","sign","twice","turn","without_bays","outline","outline_sides","on_one_line","ring_area","apart","ring","spoils","back","triangle_of","is_triangle","rounds","directed_sides","first_alien","first_flat","least_double","least_bare","least_lonely","spoilt_fault","cover_fault","fault","swept","_law_cell","_law_ringed","_law_lined","_law_great","_law_place","_law_by_digits","_law_places","_law_twice","_law_alike","_law_laid","_law_far","_law_flipped","_law_cover_by_digits","_law_cover","_law_lifted","_law_spoils","_law_clear","_law_net","_law_first"]:List String).map Str.ofString
def fs:List (Str ×Stmt):=[HD.pr "_law_cell" nE,HD.pr "_law_by_digits" gn,HD.pr "_law_ringed" jB,HD.pr "_law_lined" kY,HD.pr "_law_great" kZ,HD.pr "_law_place" k6,HD.pr "_law_places" jC,HD.pr "_law_twice" k7,HD.pr "_law_lifted" gE,HD.pr "_law_spoils" jD,HD.pr "_law_clear" k8,HD.pr "_law_net" qf,HD.pr "first_alien" jE,HD.pr "sign" B3,HD.pr "twice" yX,HD.pr "turn" B4,HD.pr "is_triangle" jF,HD.pr "first_flat" k9,HD.pr "on_one_line" jG,HD.pr "rounds" uC,HD.pr "directed_sides" c7,HD.pr "least_double" fL,HD.pr "without_bays" iS,HD.pr "outline" rN,HD.pr "outline_sides" gZ,HD.pr "back" B5,HD.pr "least_bare" fM,HD.pr "least_lonely" fO,HD.pr "cover_fault" jH,HD.pr "ring_area" nF,HD.pr "apart" yY,HD.pr "ring" B6,HD.pr "spoils" uD,HD.pr "spoilt_fault" fR,HD.pr "fault" yZ,HD.pr "_law_far" qg,HD.pr "_law_laid" nG,HD.pr "_law_flipped" fS,HD.pr "_law_cover_by_digits" dH,HD.pr "_law_cover" lA,HD.pr "_law_alike" lB,HD.pr "triangle_of" jI,HD.pr "swept" pH,HD.pr "_law_first" iF,HD.pr "law" FT]
def bs:List Str:=["len","range","min","sorted","max","list","reversed","zip","isinstance","int","str","tuple","bool"]
set_option maxHeartbeats 0 in
theorem said:PySem.Challenge.rw_nearland_k26_whole_one_net.wellSaid=true:=by
 unfold OpenLaw.wellSaid OpenRow.wellSaid OpenRow.partSaid looksOpen
 repeat' (with_reducible refine look_both ?_ ?_)
 all_goals decide +kernel
set_option maxHeartbeats 0 in
theorem left:LeftO PySem.Challenge.rw_nearland_k26_whole_one_net.row.prog view loose (fun s=>xlAt view [] s && recOk (RowW.records (OpenRow.toRowW PySem.Challenge.rw_nearland_k26_whole_one_net.row)) s) (HD.B0 fs bs) (fun _=>HD.good fs bs) 4464:=HD.Eu (M:=1982) (by kernel_rfl) (by kernel_rfl) (fun s=>by kernel_rfl) (by kernel_rfl) (fun w os=>by kernel_rfl)
end Pf
namespace L2
open PySem PySem.Spec PyProof.Rows
abbrev Key:=Sum Int Str
def Ks:Key→Value→Bool
 | .inl k,v=>Value.isInt k v
 | .inr x,v=>Value.isStrOf x v
def QJ (w:World):Key→Int
 | .inl k=>hashInt k
 | .inr x=>hashStr w x
theorem cQ:∀ {k:Key} {v:Value},Ks k v=true→(∃ i t,k=Sum.inl i∧v=Value.int i t)∨(∃ x t,k=Sum.inr x∧v=Value.str x t)
 | .inl i,v,h=>by
   obtain ⟨t,e⟩:=Value.isInt_shape (k:=i) (v:=v) h
   exact .inl ⟨i,t,rfl,e⟩
 | .inr x,v,h=>by
   obtain ⟨t,e⟩:=Value.isStrOf_shape (x:=x) (v:=v) h
   exact .inr ⟨x,t,rfl,e⟩
theorem K4 (a b:Int):decide ((Sum.inl a:Key)=Sum.inl b)=(a == b):=by
 by_cases e:a=b
 ·subst e;simp
 ·have h:¬ (Sum.inl a:Key)=Sum.inl b:=fun q=>e (Sum.inl.inj q)
  rw [decide_eq_false h]
  exact (beq_eq_false_iff_ne.mpr e).symm
theorem K5 (a b:Str):decide ((Sum.inr a:Key)=Sum.inr b)=decide (a=b):=by
 by_cases e:a=b
 ·subst e;simp
 ·have h:¬ (Sum.inr a:Key)=Sum.inr b:=fun q=>e (Sum.inr.inj q)
  rw [decide_eq_false h,decide_eq_false e]
theorem K6 (a:Int) (b:Str):decide ((Sum.inl a:Key)=Sum.inr b)=false:=decide_eq_false (fun q=>nomatch q)
theorem K7 (a:Str) (b:Int):decide ((Sum.inr a:Key)=Sum.inl b)=false:=decide_eq_false (fun q=>nomatch q)
def Di (prog:Program) (w:World):PySem.KeyKind prog w Key where
 is:=Ks
 hash:=QJ w
 inj:=fun v a b ha hb=>by
  rcases cQ ha with ⟨i,t,rfl,rfl⟩ | ⟨x,t,rfl,rfl⟩
  ·rcases cQ hb with ⟨j,u,rfl,e⟩ | ⟨y,u,rfl,e⟩
   ·injection e with e1 _;rw [e1]
   ·exact nomatch e
  ·rcases cQ hb with ⟨j,u,rfl,e⟩ | ⟨y,u,rfl,e⟩
   ·exact nomatch e
   ·injection e with e1 _;rw [e1]
 byValue:=fun k v h=>by
  rcases cQ h with ⟨i,t,rfl,rfl⟩ | ⟨x,t,rfl,rfl⟩ <;> rfl
 pyHash:=fun hv h=>by
  rcases cQ hv with ⟨i,t,rfl,rfl⟩ | ⟨x,t,rfl,rfl⟩
  ·exact wpAny_pyHash_int h
  ·exact wpAny_pyHash_str h
 eqBool:=fun hu hv h=>by
  rcases cQ hu with ⟨i,t,rfl,rfl⟩ | ⟨x,t,rfl,rfl⟩
  ·rcases cQ hv with ⟨j,u,rfl,rfl⟩ | ⟨y,u,rfl,rfl⟩
   ·rw [K4] at h;exact wpAny_eqBool_int h
   ·rw [K6] at h;exact SeqAt.EqAt.int_str i t y u _ _ _ _ h
  ·rcases cQ hv with ⟨j,u,rfl,rfl⟩ | ⟨y,u,rfl,rfl⟩
   ·rw [K7] at h;exact SeqAt.EqAt.str_int x t j u _ _ _ _ h
   ·rw [K5] at h;exact wpAny_eqBool_str h
 «strs» :=fun k x t v h=>by
  rcases cQ h with ⟨i,u,rfl,e⟩ | ⟨y,u,rfl,e⟩
  ·exact nomatch e
  ·injection e with e1 _
   subst e1
   cases v <;> rfl
end L2
namespace L2
open PySem PySem.Spec PyProof.Rows
inductive V where
 | bJ | bl (b:Bool) | int (i:Int) | str (x:Str) | FU (b:Array UInt8) | Nm (b:UInt64) | ref (a:Addr) | ty (n:String)
 deriving DecidableEq
def RelV:V→Value→Prop
 | .bJ,u=>u=Value.none
 | .bl b,u=>u=Value.bool b
 | .int i,u=> ∃ t,u=Value.int i t
 | .str x,u=> ∃ t,u=Value.str x t
 | .FU b,u=> ∃ t,u=Value.bytes b t
 | .Nm b,u=> ∃ t,u=Value.float b t
 | .ref a,u=>u=Value.ref a
 | .ty n,u=>u=Value.type n
abbrev Vals:List V→List Value→Prop:=Paired RelV
theorem Vals.length {xs:List V} {us:List Value} (r:Vals xs us):xs.length=us.length:=Paired.length r
theorem Vals.get:∀ {xs:List V} {us:List Value} {i:Nat} {x:V},Vals xs us→xs[i]?=some x→∃ u,us[i]?=some u∧RelV x u
 | _,_,_,_,.nil,e=>by simp at e
 | _,_,0,_,.cons r _,e=>by simp at e;subst e;exact ⟨_,rfl,r⟩
 | _,_,i+1,x,.cons _ t,e=>by
   obtain ⟨u,h1,h2⟩:=Vals.get (i:=i) (x:=x) t (by simpa using e)
   exact ⟨u,by simpa using h1,h2⟩
theorem Vals.append:∀ {xs ys:List V} {us ws:List Value},Vals xs us→Vals ys ws→Vals (xs ++ ys) (us ++ ws)
 | _,_,_,_,.nil,s=>s
 | _,_,_,_,.cons r t,s=> .cons r (Vals.append t s)
theorem Vals.take:∀ {xs:List V} {us:List Value} (n:Nat),Vals xs us→Vals (xs.take n) (us.take n)
 | _,_,0,_=> .nil
 | _,_,_+1,.nil=> .nil
 | _,_,n+1,.cons r t=> .cons r (Vals.take n t)
theorem Vals.drop:∀ {xs:List V} {us:List Value} (n:Nat),Vals xs us→Vals (xs.drop n) (us.drop n)
 | _,_,0,r=>r
 | _,_,_+1,.nil=> .nil
 | _,_,n+1,.cons _ t=>Vals.drop n t
def K8:Option V→Option Value→Prop
 | some v,some u=>RelV v u
 | none,none=>True
 | _,_=>False
def KV {κ:Type}:List (κ ×V)→List (κ ×Value)→Prop:=Paired fun (p:κ ×V) (q:κ ×Value)=>p.1=q.1∧RelV p.2 q.2
def kV:Key→V
 | .inl i=> .int i
 | .inr x=> .str x
inductive HO where
 | lst (xs:List V)
 | tup (xs:List V)
 | dK (kvs:List (Key ×V)) | dT (kvs:List (List Key ×V))
 | set (S:Int→Bool) (n:Nat)
 | ins (C dx:Addr) (fs:List (Str ×V))
 | own (x:Addr)
 | xd (fs:List (Str ×V))
 | met (f x:Addr)
 | QK (lo hi:Int)
 | qG (o:Obj) (u:HO)
 | K9 (ps:Array Value)
 | ext (φ:Heap→Prop)
abbrev Hp:=Addr→Option HO
def upd (H:Hp) (a:Addr) (o:HO):Hp:=fun b=>if b=a then some o else H b
theorem fT {H:Hp} {a:Addr} {o:HO}:upd H a o a=some o:=by unfold upd;rw [if_pos rfl]
theorem bF {H:Hp} {a b:Addr} {o:HO} (h:b≠a):upd H a o b=H b:=by unfold upd;rw [if_neg h]
theorem Ku {H:Hp} {a b:Addr} {o u:HO} (h:H a=some o) (h':H b=some u) (d:o≠u):a≠b:=by
 intro e;subst e;rw [h] at h';exact d (Option.some.inj h')
theorem cC {H:Hp} {a b:Addr} {o:HO} (h:H a=some o) (h':H b=none):a≠b:=by
 intro e;subst e;rw [h] at h';cases h'
section
variable (P:Program) (w:World)
def eX (H:Hp) (h:Heap) (a:Addr):HO→Prop
 | .lst xs=>xs.length≤sizeLine∧∃ (its:List Value) (n:Nat),Vals xs its∧h.get? a=some { cls:= .type "list",data:= .seq its.toArray n }
 | .tup xs=>xs.length≤sizeLine∧∃ its:List Value,Vals xs its∧IsTup h a its.toArray
 | .dK kvs=>kvs.length≤sizeLine∧(a == sysModules)=false∧∃ vs,KV kvs vs∧h.DictOf (Di P w) a vs
 | .dT kvs=>kvs.length≤sizeLine∧(a == sysModules)=false∧∃ xs:List (List Key ×Addr ×Value),
  Paired (fun (p:List Key ×V) (q:List Key ×Addr ×Value)=>p.1=q.1∧H q.2.1=some (.tup (p.1.map kV))∧RelV p.2 q.2.2) kvs xs∧
  ∃ o es ep,h.get? a=some o∧o.ExactDict∧o.data= .dict es ep∧es.toList=xs.map (entryOfKey (tupleKind (Di P w)))∧(xs.map (·.1)).Nodup
 | .set S n=>h.SetOf (intKind P w) a S n
 | .ins C dx fs=>H dx=some (.own a)∧fs.length≤1000∧dx≠a∧h.get? a=some (PySem.W.instObj C dx)∧
  ∃ mA,h.Ns1 dx mA∧(∀ f,K8 (fs.lookup f) (mA f))∧PySem.Within mA (fs.map (·.1))
 | .own _=> ∃ o,h.get? a=some o
 | .xd fs=> ∃ mA,h.Ns1 a mA∧∀ f,K8 (fs.lookup f) (mA f)
 | .QK lo hi=> ∃ t u v,h.get? a=some { cls:= .type "range",data:= .fields #[.int lo t,.int hi u,.int 1 v] }
 | .qG o u=>h.get? a=some o∧eX H h a u
 | .K9 ps=>h.get? a=some { cls:= .none,data:= .fields ps }
 | .met f x=>h.get? a=some (PySem.W.methodObj (.ref f) (.ref x))
 | .ext φ=>φ h∧(∃ o,h.get? a=some o)∧∀ h1 h2:Heap,φ h1→(∀ o,h1.get? a=some o→h2.get? a=some o)→φ h2
def nH (H:Hp) (h:Heap):Prop:= ∀ a o,H a=some o→eX P w H h a o
end
section
variable {P:Program} {w:World} {H H':Hp} {h h':Heap} {a:Addr} {o:HO}
theorem eX.lt (x:eX P w H h a o):a < h.objs.size:=by
 cases o with
 | lst xs=>obtain ⟨_,_,_,_,e⟩:=x;exact Heap.lt_size e
 | tup xs=>obtain ⟨_,_,_,p⟩:=x;exact p.lt
 | dK kvs=>obtain ⟨_,_,_,_,o,_,_,e,_⟩:=x;exact Heap.lt_size e
 | dT kvs=>obtain ⟨_,_,_,_,o,_,_,e,_⟩:=x;exact Heap.lt_size e
 | set S n=>obtain ⟨o,_,_,_,e,_⟩:=x;exact Heap.lt_size e
 | ins C dx fs=>obtain ⟨_,_,_,e,_⟩:=x;exact Heap.lt_size e
 | own y=>obtain ⟨_,e⟩:=x;exact Heap.lt_size e
 | xd fs=>obtain ⟨_,⟨_,_,_,e,_⟩,_⟩:=x;exact Heap.lt_size e
 | QK lo hi=>obtain ⟨_,_,_,e⟩:=x;exact Heap.lt_size e
 | qG ob u=>obtain ⟨e,_⟩:=x;exact Heap.lt_size e
 | K9 ps=>exact Heap.lt_size (show h.get? a=some _ from x)
 | met f y=>exact Heap.lt_size (show h.get? a=some _ from x)
 | ext φ=>obtain ⟨_,⟨_,e⟩,_⟩:=x;exact Heap.lt_size e
theorem Paired.La {α β:Type} {F G:α→β→Prop}:∀ {l₁:List α} {l₂:List β},Paired F l₁ l₂→(∀ a b,F a b→G a b)→Paired G l₁ l₂
 | _,_,.nil,_=> .nil
 | _,_,.cons r t,f=> .cons (f _ _ r) (Paired.La t f)
theorem eX.stay (x:eX P w H h a o) (k:∀ b u,(b=a∨H b=some (.own a))→h.get? b=some u→h'.get? b=some u)
 (ho:∀ b,H b=some (.own a)→H' b=some (.own a)) (ht:∀ b xs,H b=some (.tup xs)→H' b=some (.tup xs)):eX P w H' h' a o:=by
 induction o with
 | lst xs=>obtain ⟨z,its,n,r,e⟩:=x;exact ⟨z,its,n,r,k _ _ (.inl rfl) e⟩
 | tup xs=>obtain ⟨z,its,r,ob,e,c⟩:=x;exact ⟨z,its,r,ob,k _ _ (.inl rfl) e,c⟩
 | dK kvs=>obtain ⟨z,y,vs,r,ob,es,ep,e,c⟩:=x;exact ⟨z,y,vs,r,ob,es,ep,k _ _ (.inl rfl) e,c⟩
 | dT kvs=>
   obtain ⟨z,y,xs,r,ob,es,ep,e,c⟩:=x
   exact ⟨z,y,xs,Paired.La r fun p q z=>⟨z.1,ht _ _ z.2.1,z.2.2⟩,ob,es,ep,k _ _ (.inl rfl) e,c⟩
 | set S n=>obtain ⟨ob,es,ep,t,e,c⟩:=x;exact ⟨ob,es,ep,t,k _ _ (.inl rfl) e,c⟩
 | ins C dx fs=>
   obtain ⟨d,z,ne,e,mA,⟨od,es,ep,e2,c⟩,r⟩:=x
   exact ⟨ho _ d,z,ne,k _ _ (.inl rfl) e,mA,⟨od,es,ep,k _ _ (.inr d) e2,c⟩,r⟩
 | own y=>obtain ⟨ob,e⟩:=x;exact ⟨ob,k _ _ (.inl rfl) e⟩
 | xd fs=>obtain ⟨mA,⟨od,es,ep,e,c⟩,r⟩:=x;exact ⟨mA,⟨od,es,ep,k _ _ (.inl rfl) e,c⟩,r⟩
 | QK lo hi=>obtain ⟨t,u,v,e⟩:=x;exact ⟨t,u,v,k _ _ (.inl rfl) e⟩
 | qG ob u ih=>obtain ⟨e,q⟩:=x;exact ⟨k _ _ (.inl rfl) e,ih q⟩
 | K9 ps=>
   have e:h.get? a=some { cls:= .none,data:= .fields ps }:=x
   show h'.get? a=some { cls:= .none,data:= .fields ps }
   exact k a _ (.inl rfl) e
 | met f y=>
   have e:h.get? a=some (PySem.W.methodObj (.ref f) (.ref y)):=x
   show h'.get? a=some (PySem.W.methodObj (.ref f) (.ref y))
   exact k a _ (.inl rfl) e
 | ext φ=>obtain ⟨p,⟨o,e⟩,st⟩:=x;exact ⟨st _ _ p fun o q=>k _ _ (.inl rfl) q,⟨o,k _ _ (.inl rfl) e⟩,st⟩
theorem nH.lt (x:nH P w H h) (e:H a=some o):a < h.objs.size:=(x a o e).lt
theorem nH.fresh (x:nH P w H h) (e:h.objs.size≤a):H a=none:=by
 cases q:H a with
 | none=>rfl
 | some u=>exact absurd (Zc (x.lt q) e) (ZJ _)
theorem nH.kept (x:nH P w H h) (k:∀ b u,h.get? b=some u→h'.get? b=some u):nH P w H h':=fun a o e=>
 (x a o e).stay (fun b u _ q=>k b u q) (fun _ q=>q) fun _ _ q=>q
theorem nH.laid (x:nH P w H h) (k:∀ b u,h.get? b=some u→h'.get? b=some u) (hp:h.objs.size≤a) (new:eX P w (upd H a o) h' a o):nH P w (upd H a o) h':=fun b u e=>by
 have hn:=x.fresh hp
 by_cases hb:b=a
 ·subst hb;rw [fT] at e;cases e;exact new
 ·rw [bF hb] at e
  exact (x b u e).stay (fun c v _ q=>k c v q) (fun c q=>by rw [bF (cC q hn)];exact q) fun c xs q=>by rw [bF (cC q hn)];exact q
end
def Rd (H:Hp) (a:Addr) (u:HO):Prop:=H a=some u∨∃ o,H a=some (.qG o u)
theorem Rd.ok {P:Program} {w:World} {H:Hp} {h:Heap} {a:Addr} {u:HO} (r:Rd H a u) (x:nH P w H h):eX P w H h a u:=by
 rcases r with r | ⟨o,r⟩
 ·exact x a u r
 ·obtain ⟨_,q⟩:=x a _ r
  exact q
def Qi:Option HO→Prop
 | some (.lst _)=>True
 | some (.dK _)=>True
 | some (.dT _)=>True
 | some (.set _ _)=>True
 | some (.ins _ _ _)=>True
 | some (.ext _)=>True
 | _=>False
section
variable {P:Program} {w:World} {H:Hp} {h h':Heap} {x e:Addr} {o':HO}
theorem nH.write (ok:nH P w H h) (mu:Qi (H x)) (he:e=x∨H e=some (.own x)) (k:∀ b u,b≠e→h.get? b=some u→h'.get? b=some u) (Nn:∃ u,h'.get? e=some u)
 (new:eX P w (upd H x o') h' x o'):nH P w (upd H x o') h':=fun b u q=>by
 have NL:∀ c y,H c=some (.own y)→c≠x:=fun c y r z=>by subst z;rw [r] at mu;exact mu
 have QL:∀ c xs,H c=some (.tup xs)→c≠x:=fun c xs r z=>by subst z;rw [r] at mu;exact mu
 by_cases hb:b=x
 ·subst hb;rw [fT] at q;cases q;exact new
 ·rw [bF hb] at q
  by_cases Lb:b=e
  ·have q':H b=some (.own x):=by
    rcases he with z | z
    ·exact absurd (Lb.trans z) hb
    ·rw [Lb];exact z
   rw [q] at q';cases q'
   obtain ⟨v,hv⟩:=Nn
   exact ⟨v,by rw [Lb];exact hv⟩
  ·refine (ok b u q).stay (fun c v hc r=>k c v ?_ r) (fun c r=>by rw [bF (NL c b r)];exact r) fun c xs r=>by rw [bF (QL c xs r)];exact r
   rcases hc with rfl | hc
   ·exact Lb
   ·rintro rfl
    rcases he with z | z
    ·exact NL c b hc z
    ·rw [hc] at z;cases z;exact hb rfl
end
structure Un (fs ex:List Addr) (H H':Hp) (h h':Heap):Prop where
 keep:∀ b o,h.get? b=some o→H b=none→b∉fs→b∉ex→h'.get? b=some o
 slot:∀ b o,h.get? b=some o→H b=none→b∈fs→b∉ex→∃ sl,h'.get? b=some { o with slots:=sl }
 free:∀ b o,h.get? b=some o→H b=none→b∉ex→H' b=none
 there:∀ b o,h.get? b=some o→b∉ex→∃ o',h'.get? b=some o'
 tups:∀ b xs,H b=some (.tup xs)→H' b=some (.tup xs)
 y9:∀ b o u,H b=some (.qG o u)→H' b=some (.qG o u)
 AM:∀ b ps,H b=some (.K9 ps)→∃ more,H' b=some (.K9 (ps ++ more))
section
variable {fs fs' ex ex':List Addr} {H H1 H2:Hp} {h h1 h2 h':Heap} {a x e:Addr} {o:HO}
theorem Un.any (u:Un fs ex H H1 h h1) {b:Addr} {ob:Obj} (q:h.get? b=some ob) (n:H b=none) (hx:b∉ex):∃ sl,h1.get? b=some { ob with slots:=sl }:=by
 by_cases hb:b∈fs
 ·exact u.slot b ob q n hb hx
 ·exact ⟨ob.slots,u.keep b ob q n hb hx⟩
theorem Un.kept (k:∀ b u,h.get? b=some u→h'.get? b=some u):Un fs ex H H h h':=
 ⟨fun b ob q _ _ _=>k b ob q,fun b ob q _ _ _=>⟨ob.slots,k b ob q⟩,fun _ _ _ n _=>n,fun b ob q _=>⟨ob,k b ob q⟩,fun _ _ q=>q,fun _ _ _ q=>q,fun _ ps q=>⟨#[],by rw [q];simp⟩⟩
theorem Un.refl:Un fs ex H H h h:=Un.kept fun _ _ q=>q
theorem Un.laid (k:∀ b u,h.get? b=some u→h'.get? b=some u) (hp:h.objs.size≤a) (hn:H a=none):Un fs ex H (upd H a o) h h' where
 keep:=fun b u q _ _ _=>k b u q
 slot:=fun b u q _ _ _=>⟨u.slots,k b u q⟩
 free:=fun b u q n _=>by rw [bF (Zr (Zc (Heap.lt_size q) hp))];exact n
 there:=fun b u q _=>⟨u,k b u q⟩
 tups:=fun b xs q=>by rw [bF (cC q hn)];exact q
 y9:=fun b u xs q=>by rw [bF (cC q hn)];exact q
 AM:=fun b ps q=>⟨#[],by rw [bF (cC q hn),q];simp⟩
theorem Un.write (mu:Qi (H x)) (he:e=x∨H e=some (.own x)) (k:∀ b u,b≠e→h.get? b=some u→h'.get? b=some u) (Nn:∃ u,h'.get? e=some u):Un fs ex H (upd H x o) h h':=by
 have hx:∀ b,H b=none→b≠x:=fun b n z=>by subst z;rw [n] at mu;exact mu
 have hb:∀ b,H b=none→b≠e:=fun b n z=>by
  subst z
  rcases he with r | r
  ·exact hx b n r
  ·rw [n] at r;cases r
 have hm:∀ b u,H b=some u→¬ Qi (some u)→b≠x:=fun b u q nm z=>by subst z;rw [q] at mu;exact nm mu
 refine ⟨fun b u q n _ _=>k b u (hb b n) q,fun b u q n _ _=>⟨u.slots,k b u (hb b n) q⟩,fun b u q n _=>by rw [bF (hx b n)];exact n,fun b u q _=>?_,
  fun b xs q=>by rw [bF (hm b _ q fun z=>z)];exact q,fun b u xs q=>by rw [bF (hm b _ q fun z=>z)];exact q,fun b ps q=>⟨#[],by rw [bF (hm b _ q fun z=>z),q];simp⟩⟩
 by_cases Lb:b=e
 ·subst Lb;exact Nn
 ·exact ⟨u,k b u Lb q⟩
end
def Qj (h:Heap) (H:Hp):List Addr:=(List.range h.objs.size).filter fun a=>(H a).isSome
def za (h:Heap) (H:Hp):Heap:=PySem.W.hideAll h (Qj h H)
theorem Ew (h:Heap) (H:Hp):(za h H).objs.size=h.objs.size:=PySem.W.hideAll_size _ _
theorem FW {h:Heap} {H:Hp} {b:Addr} {o:Obj} (e:h.get? b=some o) (n:H b=none):(za h H).get? b=some o:=
 PySem.W.hideAll_get _ e fun hm=>by
  have q:(H b).isSome=true:=(Zf.mp hm).2
  rw [n] at q;simp at q
theorem Iw {h:Heap} {H:Hp} {b:Addr} {o:Obj} (e:(za h H).get? b=some o):h.get? b=some o∧H b=none:=by
 have e':h.get? b=some o:=PySem.W.of_hideAll (Qj h H) e
 refine ⟨e',?_⟩
 cases q:H b with
 | none=>rfl
 | some x=>
   have hm:b∈Qj h H:=Zf.mpr ⟨Z1.mpr (Heap.lt_size e'),by simp [q]⟩
   have z:(za h H).get? b=none:=PySem.W.hideAll_none (Qj h H) hm
   rw [z] at e;cases e
def Iz (g h:Heap) (L:Addr):List (Addr ×Obj):=(List.range h.objs.size).filterMap fun a=>if a=L∨(g.get? a).isSome=true then none else (h.get? a).map fun o=>(a,o)
def rest (g h:Heap) (L d:Addr):List (Addr ×Obj):=(Iz g h L).filter fun p=>decide (p.1≠d)
end L2
namespace L2
open PySem PySem.Spec PyProof.Rows
structure Mod (K:PySem.W.Frag) (mg:Str→Option Value) (base:Heap):Prop where
 Kv:K.In base
 glob:base.Ns mainGlobals mg
 blt:∃ mb,base.Ns builtinsNs mb∧∀ x:Str,x≠"__name__"→mb x=bootBuiltins x
 nolimit:base.NoLimit
structure Cx where
 prog:Program
 w:World
 K:PySem.W.Frag
 mg:Str→Option Value
 base:Heap
 A:Around
 N:List Str
 s₀:Shared
 H₀:Hp
 env:Env
 outer:List Env
 stack:List Env
 ex:List Addr
 fn:Str→Bool
 calm:Bool
 pn:List (Addr ×Obj)
 xe:Value→Shared→Prop
def frs (l:List Env):List Addr:=l.filterMap (·.frame)
abbrev Cx.fs (X:Cx):List Addr:=frs X.outer
def QM (sc:Scope) (x:Str):Prop:=sc.names.lookup x=some .local∨sc.names.lookup x=some .cell∨sc.names.lookup x=some .free
def Loc (sc:Scope) (x:Str):Prop:=sc.names.lookup x=some .local∨sc.names.lookup x=some .cell
def Look (env:Env) (h:Heap) (m:Str→Option Value) (x:Str) (u:Value):Prop:=
 (env.kindOf x=some .local∧m x=some u)∨((env.kindOf x=some .cell∨env.kindOf x=some .free)∧∃ c,env.cells.lookup x=some c∧h.IsCell c (some u))
structure Cx.Ok (X:Cx):Prop where
 mod:Mod X.K X.mg X.base
 kind:X.env.scope.kind= .function
 glob:X.env.globals=mainGlobals
 blt:X.env.builtins=builtinsNs
 above:X.s₀.heap.objs.size≤X.env.locals
 inj:∀ x y c,X.env.cells.lookup x=some c→X.env.cells.lookup y=some c→x=y
 has:∀ x,(X.env.kindOf x=some .cell∨X.env.kindOf x=some .free)→∃ c,X.env.cells.lookup x=some c
 Np:∀ x c,X.fn x=true→X.env.cells.lookup x=some c→X.s₀.heap.objs.size≤c
 hd:X.calm=true→X.A.handled=none
 frames:X.A.frames=some X.stack
 stk:X.stack=X.outer∨(X.stack=X.env :: X.outer∧X.env.frame=some X.env.locals)
 NN:∀ b∈X.ex,b≠X.env.locals∧∀ x c,X.env.cells.lookup x=some c→c≠b
 bs:∀ b o,X.base.get? b=some o→X.s₀.heap.get? b=some o∧X.H₀ b=none
 Kw:X.base.objs.size≤X.s₀.heap.objs.size
 Ex:∀ b o,X.base.get? b=some o→b∉X.ex
 Ey:∀ b∈X.ex,b∉X.fs
 tO:X.s₀.heap.FunFrames X.base X.outer
 Lc:∀ b∈X.fs,X.H₀ b=none
structure Inv (X:Cx) (pins:List (Addr ×Obj)) (σ:List (Option V)) (H:Hp) (s:Shared):Prop where
 ok:X.Ok
 os:s.os=X.s₀.os
 bare:AllBare s.gens
 base:Un X.fs X.ex X.H₀ H X.s₀.heap s.heap
 loc:∃ m,s.heap.Ns X.env.locals m∧∀ (i:Nat) (x:Str) (v:V),X.N[i]?=some x→σ[i]?=some (some v)→QM X.env.scope x→∃ u,RelV v u∧Look X.env s.heap m x u
 cell:∀ x c,X.env.cells.lookup x=some c→∃ v,s.heap.IsCell c v
 free:H X.env.locals=none
 pW:∀ x c,X.env.cells.lookup x=some c→H c=none
 pin:∀ p∈X.pn ++ pins,s.heap.get? p.1=some p.2∧H p.1=none∧p.1≠X.env.locals∧p.1∉X.fs∧∀ v,p.2.data≠ .cell v
 hok:nH X.prog X.w H s.heap
 len:σ.length=X.N.length
section
variable {X:Cx} {pins:List (Addr ×Obj)} {σ:List (Option V)} {H H':Hp} {s:Shared} {h':Heap}
theorem Cx.Ok.QN (ok:X.Ok) {b:Addr} {o:Obj} (e:X.base.get? b=some o):b∉X.fs:=fun hb=>by
 have:=(ok.tO.mem hb).1
 rw [e] at this;cases this
theorem Inv.bs (I:Inv X pins σ H s):∀ b o,X.base.get? b=some o→s.heap.get? b=some o∧H b=none:=fun b o e=>
 ⟨I.base.keep b o (I.ok.bs b o e).1 (I.ok.bs b o e).2 (I.ok.QN e) (I.ok.Ex b o e),I.base.free b o (I.ok.bs b o e).1 (I.ok.bs b o e).2 (I.ok.Ex b o e)⟩
theorem Inv.bk (I:Inv X pins σ H s):∀ b o,X.base.get? b=some o→s.heap.get? b=some o:=fun b o e=>(I.bs b o e).1
theorem Inv.mod (I:Inv X pins σ H s):Mod X.K X.mg X.base:=I.ok.mod
theorem Inv.AG (I:Inv X pins σ H s):X.K.In s.heap:=I.ok.mod.Kv.keeps I.bk
theorem Inv.lt (I:Inv X pins σ H s):X.env.locals < s.heap.objs.size:=let ⟨_,hn,_⟩:=I.loc;hn.lt
theorem Inv.sz (I:Inv X pins σ H s):X.s₀.heap.objs.size≤s.heap.objs.size:=aae I.ok.above (aaK I.lt)
theorem Inv.QO (I:Inv X pins σ H s) {a:Addr} (h:s.heap.objs.size≤a):a∉X.fs:=fun hb=>by
 obtain ⟨_,o,ho,_⟩:=I.ok.tO.mem hb
 exact absurd (Zc (Heap.lt_size ho) (aae I.sz h)) (ZJ _)
theorem Inv.Ld (I:Inv X pins σ H s):∀ x c,X.env.cells.lookup x=some c→c≠X.env.locals:=fun x c e z=>by
 obtain ⟨v,o,ho,hd⟩:=I.cell x c e
 obtain ⟨m,⟨o',es,ep,ho',hd',_⟩,_⟩:=I.loc
 rw [z,ho'] at ho;cases ho;rw [hd'] at hd;cases hd
theorem Inv.tO (I:Inv X pins σ H s):s.heap.FunFrames X.base X.outer:=by
 have all:∀ (l:List Env),(∀ b∈frs l,b∈X.fs)→X.s₀.heap.FunFrames X.base l→s.heap.FunFrames X.base l:=by
  intro l
  induction l with
  | nil=>intro _ _;trivial
  | cons env r ih=>
    intro hs hl
    obtain ⟨hk,⟨L,o,hf,hn,ho,hd⟩,hr⟩:=hl
    have hL:L∈X.fs:=hs L (by unfold frs;rw [abb,hf];exact Zl)
    obtain ⟨sl,e⟩:=I.base.slot L o ho (I.ok.Lc L hL) hL fun z=>I.ok.Ey L z hL
    exact ⟨hk,⟨L,_,hf,hn,e,hd⟩,ih (fun b hb=>hs b (by unfold frs;rw [abb,hf];exact Y5 _ hb)) hr⟩
 exact all X.outer (fun _ hb=>hb) I.ok.tO
theorem Inv.stack (I:Inv X pins σ H s):s.heap.FunFrames X.base X.stack:=by
 rcases I.ok.stk with e | ⟨e,hf⟩
 ·rw [e];exact I.tO
 ·rw [e]
  obtain ⟨m,hn,_⟩:=I.loc
  refine .cons (by rw [I.ok.kind];decide) hf hn ?_ I.tO
  exact Heap.get?_none_of_le (aae I.ok.Kw I.ok.above)
theorem Inv.B7 (I:Inv X pins σ H s):∀ b∈frs X.stack,b∈X.env.locals :: X.fs:=fun b hb=>by
 rcases I.ok.stk with e | ⟨e,hf⟩
 ·rw [e] at hb;exact Y5 _ hb
 ·rw [e] at hb
  unfold frs at hb
  rw [abb,hf] at hb
  exact hb
theorem Inv.Dj (I:Inv X pins σ H s):∀ b∈frs X.stack,H b=none:=fun b hb=>by
 rcases Y6.mp (I.B7 b hb) with e | hb
 ·rw [e];exact I.free
 ·obtain ⟨_,o,ho,_⟩:=I.ok.tO.mem hb
  exact I.base.free b o ho (I.ok.Lc b hb) fun z=>I.ok.Ey b z hb
theorem Inv.step {g':Array GenState} {t':Nat} {d':Drawn} {ch:List Addr} (I:Inv X pins σ H s)
 (hch:∀ b∈ch,(b∈X.ex∨X.s₀.heap.objs.size≤b)∧b≠X.env.locals∧(∀ x c,X.env.cells.lookup x=some c→c≠b)∧∀ p∈X.pn ++ pins,p.1≠b)
 (keep:∀ b o,b≠X.env.locals→b∉X.fs→b∉ch→s.heap.get? b=some o→H b=none→h'.get? b=some o)
 (slot:∀ b o,b≠X.env.locals→b∈X.fs→b∉ch→s.heap.get? b=some o→H b=none→∃ sl,h'.get? b=some { o with slots:=sl }) (free:∀ b o,b∉ch→s.heap.get? b=some o→H b=none→H' b=none)
 (there:∀ b o,b∉ch→s.heap.get? b=some o→∃ o',h'.get? b=some o')
 (tups:∀ b xs,H b=some (.tup xs)→H' b=some (.tup xs)) (y9:∀ b o u,H b=some (.qG o u)→H' b=some (.qG o u)) (AM:∀ b ps,H b=some (.K9 ps)→∃ more,H' b=some (.K9 (ps ++ more)))
 (ns:∀ m,s.heap.Ns X.env.locals m→h'.Ns X.env.locals m) (hok:nH X.prog X.w H' h') (hg:AllBare g') :
 Inv X pins σ H' { s with heap:=h',gens:=g',drawn:=d',toks:=t' }:=by
 have S5:∀ b o,X.s₀.heap.get? b=some o→b≠X.env.locals:=fun b o e=>Zr (Zc (Heap.lt_size e) I.ok.above)
 have Qk:∀ b o,X.s₀.heap.get? b=some o→b∉X.ex→b∉ch:=fun b o e hx hb=>by
  rcases (hch b hb).1 with z | z
  ·exact hx z
  ·exact absurd (Zc (Heap.lt_size e) z) (ZJ _)
 have cellK:∀ x c,X.env.cells.lookup x=some c→∀ v,s.heap.IsCell c v→h'.IsCell c v:=fun x c e v ⟨o,ho,hd⟩=>by
  have NO:c∉ch:=fun z=>(hch c z).2.2.1 x c e rfl
  by_cases hc:c∈X.fs
  ·obtain ⟨sl,q⟩:=slot c o (I.Ld x c e) hc NO ho (I.pW x c e)
   exact ⟨_,q,hd⟩
  ·exact ⟨o,keep c o (I.Ld x c e) hc NO ho (I.pW x c e),hd⟩
 refine ⟨I.ok,I.os,hg,⟨fun b o e n hb hx=>?_,fun b o e n hb hx=>?_,fun b o e n hx=>?_,fun b o e hx=>?_,fun b xs e=>tups b xs (I.base.tups b xs e),fun b o xs e=>y9 b o xs (I.base.y9 b o xs e),fun b ps e=>?_⟩,?_,fun x c e=>?_,?_,fun x c e=>?_,fun p hp=>?_,hok,I.len⟩
 ·exact keep b o (S5 b o e) hb (Qk b o e hx) (I.base.keep b o e n hb hx) (I.base.free b o e n hx)
 ·obtain ⟨sl,e1⟩:=I.base.slot b o e n hb hx
  obtain ⟨Ux,e2⟩:=slot b _ (S5 b o e) hb (Qk b o e hx) e1 (I.base.free b o e n hx)
  exact ⟨Ux,e2⟩
 ·obtain ⟨o',e1⟩:=I.base.there b o e hx
  exact free b o' (Qk b o e hx) e1 (I.base.free b o e n hx)
 ·obtain ⟨o',e1⟩:=I.base.there b o e hx
  exact there b o' (Qk b o e hx) e1
 ·obtain ⟨m1,e1⟩:=I.base.AM b ps e
  obtain ⟨m2,e2⟩:=AM b _ e1
  exact ⟨m1 ++ m2,by rw [e2,Array.append_assoc]⟩
 ·obtain ⟨m,hn,hl⟩:=I.loc
  refine ⟨m,ns m hn,fun i x v e1 e2 e3=>?_⟩
  obtain ⟨u,r,l⟩:=hl i x v e1 e2 e3
  refine ⟨u,r,?_⟩
  rcases l with l | ⟨k,c,e,z⟩
  ·exact .inl l
  ·exact .inr ⟨k,c,e,cellK x c e _ z⟩
 ·obtain ⟨v,z⟩:=I.cell x c e
  exact ⟨v,cellK x c e v z⟩
 ·obtain ⟨m,⟨o,_,_,ho,_⟩,_⟩:=I.loc
  exact free _ o (fun z=>(hch _ z).2.1 rfl) ho I.free
 ·obtain ⟨v,o,ho,hd⟩:=I.cell x c e
  exact free c o (fun z=>(hch c z).2.2.1 x c e rfl) ho (I.pW x c e)
 ·obtain ⟨e,n,ne,nf,d⟩:=I.pin p hp
  have NO:p.1∉ch:=fun z=>(hch p.1 z).2.2.2 p hp rfl
  exact ⟨keep p.1 p.2 ne nf NO e n,free p.1 p.2 NO e n,ne,nf,d⟩
theorem Inv.un {t':Nat} (I:Inv X pins σ H s) (u:Un X.fs [] H H' s.heap h') (hok:nH X.prog X.w H' h'):Inv X pins σ H' { s with heap:=h',toks:=t' }:=by
 obtain ⟨m,⟨o,es,ep,ho,r⟩,_⟩:=id I.loc
 obtain ⟨sl,hL⟩:=u.any ho I.free (by simp)
 exact I.step (g':=s.gens) (d':=s.drawn) (ch:=[]) (fun _ z=>nomatch z) (fun b o _ hb _ e n=>u.keep b o e n hb (by simp)) (fun b o _ hb _ e n=>u.slot b o e n hb (by simp)) (fun b o _ e n=>u.free b o e n (by simp)) (fun b o _ e=>u.there b o e (by simp)) u.tups u.y9 u.AM (fun m' hm=>by
  obtain ⟨o',es',QS,ho',r'⟩:=hm
  rw [ho] at ho';cases ho'
  exact ⟨_,es',QS,hL,r'⟩) hok I.bare
theorem Inv.call {g':Array GenState} {t':Nat} {d':Drawn} {ch:List Addr} (I:Inv X pins σ H s) (u:Un (frs X.stack) ch H H' s.heap h') (hok:nH X.prog X.w H' h') (hg:AllBare g')
 (hch:∀ b∈ch,(b∈X.ex∨X.s₀.heap.objs.size≤b)∧b≠X.env.locals∧(∀ x c,X.env.cells.lookup x=some c→c≠b)∧∀ p∈X.pn ++ pins,p.1≠b) :
 Inv X pins σ H' { s with heap:=h',gens:=g',drawn:=d',toks:=t' }:=by
 obtain ⟨m,⟨o,es,ep,ho,r⟩,_⟩:=id I.loc
 obtain ⟨sl,hL⟩:=u.any ho I.free fun z=>(hch _ z).2.1 rfl
 exact I.step (ch:=ch) hch (fun b o hL hb hc e n=>u.keep b o e n (fun z=>(Y6.mp (I.B7 b z)).elim hL hb) hc) (fun b o _ _ hc e n=>u.any e n hc) (fun b o hc e n=>u.free b o e n hc) (fun b o hc e=>u.there b o e hc) u.tups u.y9 u.AM (fun m' hm=>by
  obtain ⟨o',es',QS,ho',r'⟩:=hm
  rw [ho] at ho';cases ho'
  exact ⟨_,es',QS,hL,r'⟩) hok hg
theorem Inv.turned {t':Nat} {it:Addr} (I:Inv X pins σ H s) (k:∀ b o,b≠it→s.heap.get? b=some o→h'.get? b=some o) (hn:H it=none) (hL:it≠X.env.locals)
 (h1:it∈X.ex∨X.s₀.heap.objs.size≤it) (h2:∀ x c,X.env.cells.lookup x=some c→c≠it) (h3:∀ p∈X.pn ++ pins,p.1≠it):Inv X pins σ H { s with heap:=h',toks:=t' }:=by
 have NP:∀ b u,H b=some u→b≠it:=fun b u e z=>by rw [z,hn] at e;cases e
 refine I.step (g':=s.gens) (d':=s.drawn) (ch:=[it]) (fun b hb=>?_) (fun b o _ _ hc e _=>k b o (fun z=>hc (by simp [z])) e) (fun b o _ _ hc e _=>⟨o.slots,k b o (fun z=>hc (by simp [z])) e⟩) (fun _ _ _ _ n=>n)
  (fun b o hc e=>⟨o,k b o (fun z=>hc (by simp [z])) e⟩) (fun _ _ e=>e) (fun _ _ _ e=>e) (fun b ps e=>⟨#[],by rw [e];simp⟩) (fun m hm=>?_) (fun b u e=>?_) I.bare
 ·have e:b=it:=by simpa using hb
  subst e
  exact ⟨h1,hL,h2,h3⟩
 ·obtain ⟨o,es,ep,ho,r⟩:=hm
  exact ⟨o,es,ep,k _ o (Ne.symm hL) ho,r⟩
 ·refine (I.hok b u e).stay (fun c v hc q=>k c v ?_ q) (fun _ q=>q) fun _ _ q=>q
  rcases hc with z | z
  ·rw [z];exact NP b u e
  ·exact NP c _ z
theorem Inv.tok (I:Inv X pins σ H s) (t:Nat):Inv X pins σ H { s with toks:=t }:=I.un (h':=s.heap) (t':=t) Un.refl I.hok
theorem Inv.kept {t':Nat} (I:Inv X pins σ H s) (k:∀ b u,s.heap.get? b=some u→h'.get? b=some u):Inv X pins σ H { s with heap:=h',toks:=t' }:=I.un (Un.kept k) (I.hok.kept k)
theorem Inv.laid {a:Addr} {o:HO} {t':Nat} (I:Inv X pins σ H s) (k:∀ b u,s.heap.get? b=some u→h'.get? b=some u) (hp:s.heap.objs.size≤a) (new:eX X.prog X.w (upd H a o) h' a o) :
 Inv X pins σ (upd H a o) { s with heap:=h',toks:=t' }:=I.un (Un.laid k hp (I.hok.fresh hp)) (I.hok.laid k hp new)
theorem Inv.write {x e:Addr} {o:HO} {t':Nat} (I:Inv X pins σ H s) (mu:Qi (H x)) (he:e=x∨H e=some (.own x)) (k:∀ b u,b≠e→s.heap.get? b=some u→h'.get? b=some u) (Nn:∃ u,h'.get? e=some u)
 (new:eX X.prog X.w (upd H x o) h' x o):Inv X pins σ (upd H x o) { s with heap:=h',toks:=t' }:=I.un (Un.write mu he k Nn) (I.hok.write mu he k Nn new)
theorem Inv.um {Kx:List (Addr ×Obj)} (I:Inv X pins σ H s) (h:∀ p∈Kx,s.heap.get? p.1=some p.2∧H p.1=none∧p.1≠X.env.locals∧p.1∉X.fs∧∀ v,p.2.data≠ .cell v):Inv X Kx σ H s:=
 ⟨I.ok,I.os,I.bare,I.base,I.loc,I.cell,I.free,I.pW,fun p hp=>(Zq.mp hp).elim (fun z=>I.pin p (Zk _ z)) (h p),I.hok,I.len⟩
theorem AN {N:List Str} (hN:N.Nodup) {i j:Nat} {x:Str} (a:N[i]?=some x) (b:N[j]?=some x):i=j:=by
 obtain ⟨h1,e1⟩:=Ze.mp a
 obtain ⟨h2,e2⟩:=Ze.mp b
 exact (List.getElem_inj hN).mp (e1.trans e2.symm)
theorem Ez {M:Model} {A:Around} {E:Value→Shared→Prop} {i:Nat} {x:Str} {v:V} {u:Value} {Q:Unit→Shared→Prop} (I:Inv X pins σ H s) (hN:X.N.Nodup) (hi:X.N[i]?=some x) (hx:Loc X.env.scope x) (r:RelV v u)
 (h:∀ s',Inv X pins (σ.set i (some v)) H s'→(∃ a,Heap.SameBut a s.heap s'.heap∧(a=X.env.locals∨X.env.cells.lookup x=some a))→Q () s') (hf:X.fn x=true∨X.env.scope.names.lookup x=some .local:=by first | exact .inl rfl | exact .inr rfl | assumption):wpAny M A (storeName X.env x u) Q E s:=by
 obtain ⟨m,hn,hl⟩:=id I.loc
 have hcls:(X.env.scope.kind == .class || (X.env.scope.kind == .module && X.env.locals !=X.env.globals))=false:=by rw [I.ok.kind];rfl
 have S6:i < σ.length:=by rw [I.len];exact (Ze.mp hi).1
 have Ld:=I.Ld
 have tracked:∀ {a:Addr} {h':Heap},(∃ o,s.heap.get? a=some o∧H a=none)→Heap.SameBut a s.heap h'→nH X.prog X.w H h':=fun {a h'} ha hs b ob e=>by
  obtain ⟨_,_,hfree⟩:=ha
  refine (I.hok b ob e).stay (fun c w' hc q=>(hs.2 c ?_).trans q) (fun _ q=>q) fun _ _ q=>q
  rintro rfl
  rcases hc with rfl | hc
  ·rw [hfree] at e;cases e
  ·rw [hfree] at hc;cases hc
 rcases hx with hk | hk
 ·refine wpAny_storeName_local hk hn (fun h' hn' hs=>?_) hcls
  obtain ⟨oL,_,_,Uy,_⟩:=id hn
  refine h _ ⟨I.ok,I.os,I.bare,⟨fun b o e n hb hx=>?_,fun b o e n hb hx=>?_,I.base.free,fun b o e hx=>?_,I.base.tups,I.base.y9,I.base.AM⟩,⟨_,hn',fun j y v' e1 e2 e3=>?_⟩,fun y c e=>?_,I.free,I.pW,fun p hp=>?_,tracked ⟨oL,Uy,I.free⟩ hs,by simpa using I.len⟩ ⟨_,hs,.inl rfl⟩
  ·exact (hs.2 b (Zr (Zc (Heap.lt_size e) I.ok.above))).trans (I.base.keep b o e n hb hx)
  ·obtain ⟨sl,e1⟩:=I.base.slot b o e n hb hx
   exact ⟨sl,(hs.2 b (Zr (Zc (Heap.lt_size e) I.ok.above))).trans e1⟩
  ·obtain ⟨o',e1⟩:=I.base.there b o e hx
   exact ⟨o',(hs.2 b (Zr (Zc (Heap.lt_size e) I.ok.above))).trans e1⟩
  ·by_cases hj:j=i
   ·subst hj
    rw [hi] at e1;cases e1
    rw [aaC S6] at e2
    cases e2
    exact ⟨u,r,.inl ⟨hk,by simp⟩⟩
   ·rw [aa7 (Ne.symm hj)] at e2
    obtain ⟨u',r',q⟩:=hl j y v' e1 e2 e3
    refine ⟨u',r',?_⟩
    rcases q with ⟨k,e⟩ | ⟨k,c,e,z⟩
    ·refine .inl ⟨k,?_⟩
     have:y≠x:=fun e=>hj (AN hN e1 (e▸hi))
     simp [this,e]
    ·exact .inr ⟨k,c,e,z.sameBut hs (Ld y c e)⟩
  ·obtain ⟨w',z⟩:=I.cell y c e
   exact ⟨w',z.sameBut hs (Ld y c e)⟩
  ·obtain ⟨e,n,ne,nf,d⟩:=I.pin p hp
   exact ⟨(hs.2 p.1 ne).trans e,n,ne,nf,d⟩
 ·have hfn:X.fn x=true:=by
   rcases hf with z | z
   ·exact z
   ·rw [z] at hk;cases hk
  obtain ⟨c,hc⟩:=I.ok.has x (.inl hk)
  obtain ⟨w',z⟩:=I.cell x c hc
  refine wpAny_storeName_cell I.ok.kind hk hc z (fun h' hc' hs=>?_)
  obtain ⟨oc,hoc,QT⟩:=id z
  refine h { s with heap:=h' } ⟨I.ok,I.os,I.bare,⟨fun b o e n hb hx=>?_,fun b o e n hb hx=>?_,I.base.free,fun b o e hx=>?_,I.base.tups,I.base.y9,I.base.AM⟩,⟨m,hn.sameBut hs (Ne.symm (Ld x c hc)),fun j y v' e1 e2 e3=>?_⟩,fun y c' e=>?_,I.free,I.pW,fun p hp=>?_,tracked ⟨oc,hoc,I.pW x c hc⟩ hs,by simpa using I.len⟩ ⟨c,hs,.inr hc⟩
  ·exact (hs.2 b (Zr (Zc (Heap.lt_size e) (I.ok.Np x c hfn hc)))).trans (I.base.keep b o e n hb hx)
  ·obtain ⟨sl,e1⟩:=I.base.slot b o e n hb hx
   exact ⟨sl,(hs.2 b (Zr (Zc (Heap.lt_size e) (I.ok.Np x c hfn hc)))).trans e1⟩
  ·obtain ⟨o',e1⟩:=I.base.there b o e hx
   exact ⟨o',(hs.2 b (Zr (Zc (Heap.lt_size e) (I.ok.Np x c hfn hc)))).trans e1⟩
  ·by_cases hj:j=i
   ·subst hj
    rw [hi] at e1;cases e1
    rw [aaC S6] at e2
    cases e2
    exact ⟨u,r,.inr ⟨.inl hk,c,hc,hc'⟩⟩
   ·rw [aa7 (Ne.symm hj)] at e2
    obtain ⟨u',r',q⟩:=hl j y v' e1 e2 e3
    refine ⟨u',r',?_⟩
    rcases q with q | ⟨k,c',e,z'⟩
    ·exact .inl q
    ·refine .inr ⟨k,c',e,z'.sameBut hs ?_⟩
     rintro rfl
     exact hj (AN hN e1 (I.ok.inj _ _ _ e hc▸hi))
  ·by_cases hcc:c'=c
   ·subst hcc;exact ⟨_,hc'⟩
   ·obtain ⟨w2,z2⟩:=I.cell y c' e
    exact ⟨w2,z2.sameBut hs hcc⟩
  ·obtain ⟨e,n,ne,nf,d⟩:=I.pin p hp
   refine ⟨(hs.2 p.1 ?_).trans e,n,ne,nf,d⟩
   intro q
   rw [q,hoc] at e
   have q':oc=p.2:=Option.some.inj e
   exact d w' (by rw [← q'];exact QT)
theorem qI {M:Model} {A:Around} {E:Value→Shared→Prop} {i:Nat} {x:Str} {v:V} {u:Value} {Q:Unit→Shared→Prop} (I:Inv X pins σ H s) (hN:X.N.Nodup) (hi:X.N[i]?=some x) (hx:Loc X.env.scope x) (r:RelV v u)
 (h:∀ s',Inv X pins (σ.set i (some v)) H s'→Q () s') (hf:X.fn x=true∨X.env.scope.names.lookup x=some .local:=by first | exact .inl rfl | exact .inr rfl | assumption):wpAny M A (storeName X.env x u) Q E s:=
 Ez I hN hi hx r (fun s' I' _=>h s' I') hf
theorem Inv.NQ {s':Shared} {ch:List Addr} (I:Inv X pins σ H s) (ho:s'.os=s.os) (u:Un (frs X.stack) ch H H' s.heap s'.heap) (hok:nH X.prog X.w H' s'.heap) (hg:AllBare s'.gens)
 (hch:∀ b∈ch,(b∈X.ex∨X.s₀.heap.objs.size≤b)∧b≠X.env.locals∧(∀ x c,X.env.cells.lookup x=some c→c≠b)∧∀ p∈X.pn ++ pins,p.1≠b):Inv X pins σ H' s':=by
 obtain ⟨h',g',d',t',o'⟩:=s'
 have e:o'=s.os:=ho
 subst e
 exact I.call (g':=g') (t':=t') (d':=d') u hok hg hch
end
abbrev XK:=Value→Option Addr→Hp→Prop
abbrev St:=List (Option V)
abbrev VK:=V→Hp→Prop
abbrev TE:=St→Hp→VK→Prop
abbrev TT:=St→Hp→(Bool→Hp→Prop)→Prop
abbrev TA:=St→Hp→(List V→Hp→Prop)→Prop
structure Ends where
 nx:St→Hp→Prop
 rt:VK
 bk:St→Hp→Prop:=fun _ _=>False
 ct:St→Hp→Prop:=fun _ _=>False
abbrev TS:=Ends→St→Hp→Prop
def EP (X:Cx) (pins:List (Addr ×Obj)) (σ:St) (Q:VK) (u:Value) (s':Shared):Prop:= ∃ v H',Inv X pins σ H' s'∧RelV v u∧Q v H'
def TP (X:Cx) (pins:List (Addr ×Obj)) (σ:St) (Q:Bool→Hp→Prop) (b:Bool) (s':Shared):Prop:= ∃ H',Inv X pins σ H' s'∧Q b H'
def AP (X:Cx) (pins:List (Addr ×Obj)) (σ:St) (Q:List V→Hp→Prop) (us:List Value) (s':Shared):Prop:= ∃ vs H',Inv X pins σ H' s'∧Vals vs us∧Q vs H'
def SP (X:Cx) (pins:List (Addr ×Obj)) (D:Ends) (f:Flow) (s':Shared):Prop:=
 match f with
 | .next=> ∃ σ' H',Inv X pins σ' H' s'∧D.nx σ' H'
 | .brk=> ∃ σ' H',Inv X pins σ' H' s'∧D.bk σ' H'
 | .cont=> ∃ σ' H',Inv X pins σ' H' s'∧D.ct σ' H'
 | .ret u=> ∃ v σ' H',Inv X pins σ' H' s'∧RelV v u∧D.rt v H'
def PE (X:Cx) (e:Expr) (t:TE):Prop:=
 ∀ (pins:List (Addr ×Obj)) (s:Shared) (σ:St) (H:Hp) (Q:VK),Inv X pins σ H s→t σ H Q→wpAny (model X.prog X.w) X.A (eval e X.env) (EP X pins σ Q) X.xe s
def PT (X:Cx) (e:Expr) (t:TT):Prop:=
 ∀ (pins:List (Addr ×Obj)) (s:Shared) (σ:St) (H:Hp) (Q:Bool→Hp→Prop),Inv X pins σ H s→t σ H Q→wpAny (model X.prog X.w) X.A (isTrue e X.env (eval e X.env)) (TP X pins σ Q) X.xe s
def PW (X:Cx) (e:Expr) (t:TT):Prop:=
 ∀ (whole:Sem Value) (pins:List (Addr ×Obj)) (s:Shared) (σ:St) (H:Hp) (Q:Bool→Hp→Prop),Inv X pins σ H s→t σ H Q→wpAny (model X.prog X.w) X.A (isTrue e X.env whole) (TP X pins σ Q) X.xe s
def PA (X:Cx) (es:List Expr) (t:TA):Prop:=
 ∀ (pos:Pos) (pins:List (Addr ×Obj)) (s:Shared) (σ:St) (H:Hp) (Q:List V→Hp→Prop),Inv X pins σ H s→t σ H Q→wpAny (model X.prog X.w) X.A (spliced (backTo pos (starEach es X.env))) (AP X pins σ Q) X.xe s
def PS (X:Cx) (st:Stmt) (t:TS):Prop:=
 ∀ (pins:List (Addr ×Obj)) (s:Shared) (σ:St) (H:Hp) (D:Ends),Inv X pins σ H s→t D σ H→wpAny (model X.prog X.w) X.A (exec st X.env) (SP X pins D) X.xe s
def B8 (X:Cx) (st:List Stmt) (t:TS):Prop:=
 ∀ (pins:List (Addr ×Obj)) (s:Shared) (σ:St) (H:Hp) (D:Ends),Inv X pins σ H s→t D σ H→wpAny (model X.prog X.w) X.A (execs st X.env) (SP X pins D) X.xe s
theorem dW {α:Type} {t:Sem α} {Q Q':α→Shared→Prop} {M:Model} {A:Around} {E:Value→Shared→Prop} {s:Shared} (h:wpAny M A t Q E s) (hQ:∀ a s,Q a s→Q' a s):wpAny M A t Q' E s:=wpAny_mono h hQ fun _ _ x=>x
end L2
namespace L2
open PySem PySem.Spec PyProof.Rows
section
variable {X:Cx}
def QU (i:Nat):TE:=fun σ H Q=> ∃ v,σ[i]?=some (some v)∧Q v H
def tC (v:V):TE:=fun _ H Q=>Q v H
theorem Lf {i:Nat} {x:Str} {pos:Pos} (hN:X.N[i]?=some x) (hv:QM X.env.scope x) (hd:(x == ("__debug__" :Str))=false:=by decide) (hcd:(x == ("__classdict__" :Str))=false:=by decide):PE X (.Name x pos) (QU i):=by
 intro pins s σ H Q I h
 obtain ⟨v,e,h⟩:=h
 obtain ⟨m,hn,hl⟩:=I.loc
 obtain ⟨u,r,l⟩:=hl i x v hN e hv
 have fin:EP X pins σ Q u s:=⟨v,H,I,r,h⟩
 rcases l with ⟨hk,hm⟩ | ⟨hk,c,hc,hcell⟩
 ·exact wpAny_Name (wpAny_loadName_local I.ok.kind hk hn hm fin) hd
 ·rcases hk with hk | hk
  ·exact wpAny_Name (wpAny_loadName_cell I.ok.kind hk hc hcell fin) hd
  ·exact wpAny_Name (wpAny_loadName_free I.ok.kind hk hc hcell fin hcd) hd
theorem Lg {i j pos}:PE X (.Constant (.int i) j pos) (tC (.int i)):=fun _ _ _ H _ I h=>wpAny_Constant_int ⟨.int i,H,I.tok _,⟨_,rfl⟩,h⟩
theorem NR {b j pos}:PE X (.Constant (.bool b) j pos) (tC (.bl b)):=fun _ _ _ H _ I h=>Constant_bool ⟨.bl b,H,I,rfl,h⟩
theorem Lh {j pos}:PE X (.Constant .none j pos) (tC .bJ):=fun _ _ _ H _ I h=>Constant_none ⟨.bJ,H,I,rfl,h⟩
theorem Li {x j pos}:PE X (.Constant (.str x) j pos) (tC (.str x)):=fun _ _ _ H _ I h=>Calls.Constant_str ⟨.str x,H,I.tok _,⟨_,rfl⟩,h⟩
def Gl (X:Cx) (x:Str):Prop:=X.env.kindOf x=some .globalImplicit
theorem IA {E:Value→Shared→Prop} {pins:List (Addr ×Obj)} {s:Shared} {σ:St} {H:Hp} {x:Str} {u:Value} {pos:Pos} {Q:Value→Shared→Prop} (I:Inv X pins σ H s) (hg:Gl X x) (hm:X.mg x=some u) (h:Q u s)
 (hd:(x == ("__debug__" :Str))=false:=by decide):wpAny (model X.prog X.w) X.A (eval (.Name x pos) X.env) Q E s:=
 Calls.Name_function_global I.ok.kind hg (Calls.loadGlobal_global (by rw [I.ok.glob];exact I.mod.glob.keeps I.bk) hm h) hd
theorem lC {E:Value→Shared→Prop} {pins:List (Addr ×Obj)} {s:Shared} {σ:St} {H:Hp} {x:Str} {u:Value} {pos:Pos} {Q:Value→Shared→Prop} (I:Inv X pins σ H s) (hg:Gl X x) (hm:X.mg x=none) (hv:bootBuiltins x=some u) (h:Q u s)
 (hn:x≠"__name__" :=by decide) (hd:(x == ("__debug__" :Str))=false:=by decide):wpAny (model X.prog X.w) X.A (eval (.Name x pos) X.env) Q E s:=by
 obtain ⟨mb,h1,h2⟩:=I.mod.blt
 exact Calls.Name_function_global I.ok.kind hg (Calls.loadGlobal_builtin (by rw [I.ok.glob];exact I.mod.glob.keeps I.bk) hm (by rw [I.ok.blt];exact h1.keeps I.bk) ((h2 x hn).trans hv) h) hd
theorem IB {x:Str} {v:V} {u:Value} {pos:Pos} (hg:Gl X x) (hm:X.mg x=none) (hv:bootBuiltins x=some u) (r:RelV v u) (hn:x≠"__name__" :=by decide) (hd:(x == ("__debug__" :Str))=false:=by decide):PE X (.Name x pos) (tC v):=
 fun _ _ _ H _ I h=>lC I hg hm hv ⟨v,H,I,r,h⟩ hn hd
variable {a b:Expr} {ta tb:TE} {pos:Pos}
def tB (t:TE):TT:=fun σ H Q=>t σ H fun x H1=> ∃ c,x= .bl c∧Q c H1
variable {tA Ql:TT} {rest:List Expr}
def QV (t u:TT):TT:=fun σ H Q=>t σ H fun c H1=>if c=true then u σ H1 Q else Q false H1
def Uz (t u:TT):TT:=fun σ H Q=>t σ H fun c H1=>if c=true then Q true H1 else u σ H1 Q
def QW (t:TT):TT:=fun σ H Q=>t σ H fun c H1=>Q (!c) H1
theorem pw_and1 (ha:PT X a tA):PW X (.BoolOp .And [a] pos) tA:=by
 intro wh pins s σ H Q I h
 refine isTrue_and (dW (ha pins s σ H Q I h) fun c s1 e=>?_)
 cases c with
 | true=>exact isTrue_and_nil e
 | false=>exact e
theorem pw_or1 (ha:PT X a tA):PW X (.BoolOp .Or [a] pos) tA:=by
 intro wh pins s σ H Q I h
 refine isTrue_or (dW (ha pins s σ H Q I h) fun c s1 e=>?_)
 cases c with
 | false=>exact isTrue_or_nil e
 | true=>exact e
theorem pw_and (ha:PT X a tA) (hb:PW X (.BoolOp .And (b :: rest) pos) Ql):PW X (.BoolOp .And (a :: b :: rest) pos) (QV tA Ql):=by
 intro wh pins s σ H Q I h
 refine isTrue_and (dW (ha pins s σ H _ I h) fun c s1 ⟨H1,I1,q1⟩=>?_)
 cases c with
 | true=>exact hb wh pins s1 σ H1 Q I1 q1
 | false=>exact ⟨H1,I1,q1⟩
theorem pw_or (ha:PT X a tA) (hb:PW X (.BoolOp .Or (b :: rest) pos) Ql):PW X (.BoolOp .Or (a :: b :: rest) pos) (Uz tA Ql):=by
 intro wh pins s σ H Q I h
 refine isTrue_or (dW (ha pins s σ H _ I h) fun c s1 ⟨H1,I1,q1⟩=>?_)
 cases c with
 | true=>exact ⟨H1,I1,q1⟩
 | false=>exact hb wh pins s1 σ H1 Q I1 q1
theorem Lj (ha:PT X a tA):PT X (.UnaryOp .Not a pos) (QW tA):=by
 intro pins s σ H Q I h
 exact isTrue_not (ha pins s σ H (fun c H1=>Q (!c) H1) I h)
def NS (ta tb:TE):TE:=fun σ H Q=>ta σ H fun x H1=> ∃ c,x= .bl c∧if c=true then tb σ H1 Q else Q (.bl false) H1
def QX (ta tb:TE):TE:=fun σ H Q=>ta σ H fun x H1=> ∃ c,x= .bl c∧if c=true then Q (.bl true) H1 else tb σ H1 Q
def NT (ta:TE):TE:=fun σ H Q=>ta σ H fun x H1=> ∃ c,x= .bl c∧Q (.bl (!c)) H1
theorem Lk (ha:PE X a ta) (hb:PE X (.BoolOp .And (b :: rest) pos) tb):PE X (.BoolOp .And (a :: b :: rest) pos) (NS ta tb):=by
 intro pins s σ H Q I h
 refine BoolOp_and (dW (ha pins s σ H _ I h) fun v s1 ⟨x,H1,I1,r1,q1⟩=>?_)
 obtain ⟨c,rfl,q1⟩:=q1
 cases r1
 refine wpAny_truthy_bool ?_
 cases c with
 | true=>exact hb pins s1 σ H1 Q I1 q1
 | false=>exact ⟨.bl false,H1,I1,rfl,q1⟩
theorem NU (ha:PE X a ta) (hb:PE X (.BoolOp .Or (b :: rest) pos) tb):PE X (.BoolOp .Or (a :: b :: rest) pos) (QX ta tb):=by
 intro pins s σ H Q I h
 refine BoolOp_or (dW (ha pins s σ H _ I h) fun v s1 ⟨x,H1,I1,r1,q1⟩=>?_)
 obtain ⟨c,rfl,q1⟩:=q1
 cases r1
 refine wpAny_truthy_bool ?_
 cases c with
 | false=>exact hb pins s1 σ H1 Q I1 q1
 | true=>exact ⟨.bl true,H1,I1,rfl,q1⟩
theorem Ll (ha:PE X a ta):PE X (.UnaryOp .Not a pos) (NT ta):=by
 intro pins s σ H Q I h
 refine UnaryOp_ (dW (ha pins s σ H _ I h) fun v s1 ⟨x,H1,I1,r1,q1⟩=>?_)
 obtain ⟨c,rfl,q1⟩:=q1
 cases r1
 exact not_of (wpAny_truthy_bool ⟨.bl (!c),H1,I1,rfl,q1⟩)
def UA (t:TT) (ta tb:TE):TE:=fun σ H Q=>t σ H fun c H1=>if c=true then ta σ H1 Q else tb σ H1 Q
theorem FY {c:Expr} (hc:PT X c tA) (ha:PE X a ta) (hb:PE X b tb):PE X (.IfExp c a b pos) (UA tA ta tb):=by
 intro pins s σ H Q I h
 refine wpAny_IfExp (dW (hc pins s σ H _ I h) fun d s1 ⟨H1,I1,q1⟩=>?_)
 cases d with
 | true=>exact ha pins s1 σ H1 Q I1 q1
 | false=>exact hb pins s1 σ H1 Q I1 q1
end
end L2
namespace L2
open PySem PySem.Spec PyProof.Rows
def iD (K:PySem.W.Frag) (H:Hp) (a:Addr) (xs:List V):Prop:=
 Rd H a (.lst xs)∨
  ∃ (o:Obj) (its:Array Value) (n:Nat),K.lookup a=some o∧o.cls= .type "list"∧o.dict=none∧o.data= .seq its n∧its.size≤sizeLine∧Vals xs its.toList
def wK (K:PySem.W.Frag) (H:Hp) (a:Addr) (xs:List V):Prop:=
 Rd H a (.tup xs)∨
  ∃ (o:Obj) (its:Array Value) (n:Nat),K.lookup a=some o∧o.cls= .type "tuple"∧o.data= .seq its n∧its.size≤sizeLine∧Vals xs its.toList
def NV:Value→Option V
 | .none=>some .bJ
 | .bool b=>some (.bl b)
 | .int i _=>some (.int i)
 | .str x _=>some (.str x)
 | .bytes b _=>some (.FU b)
 | .float b _=>some (.Nm b)
 | .ref a=>some (.ref a)
 | .type n=>some (.ty n)
 | _=>none
theorem RelV.abs {x:V} {u:Value} (r:RelV x u):NV u=some x:=by
 cases x with
 | bJ=>cases r;rfl
 | bl _=>cases r;rfl
 | int _=>obtain ⟨t,rfl⟩:=r;rfl
 | str _=>obtain ⟨t,rfl⟩:=r;rfl
 | FU _=>obtain ⟨t,rfl⟩:=r;rfl
 | Nm _=>obtain ⟨t,rfl⟩:=r;rfl
 | ref _=>cases r;rfl
 | ty _=>cases r;rfl
theorem RelV.inj {x y:V} {u:Value} (r:RelV x u) (q:RelV y u):x=y:=Option.some.inj (r.abs.symm.trans q.abs)
theorem Vals.inj:∀ {xs ys:List V} {us:List Value},Vals xs us→Vals ys us→xs=ys
 | _,_,_,.nil,.nil=>rfl
 | _,_,_,.cons r t,.cons r' t'=>by rw [r.inj r',Vals.inj t t']
section
variable {X:Cx} {pins:List (Addr ×Obj)} {σ:St} {H:Hp} {s:Shared} {a:Addr} {xs ys:List V}
theorem iD.of {K:PySem.W.Frag} (h:H a=some (.lst xs)):iD K H a xs:= .inl (.inl h)
theorem wK.of {K:PySem.W.Frag} (h:H a=some (.tup xs)):wK K H a xs:= .inl (.inl h)
theorem Inv.list (I:Inv X pins σ H s) (h:iD X.K H a xs):∃ its:List Value,Vals xs its∧PlainL s.heap a its.toArray∧xs.length≤sizeLine:=by
 rcases h with h | ⟨o,its,n,hk,hc,hd,hs,hz,r⟩
 ·obtain ⟨z,its,n,r,e⟩:=h.ok I.hok
  exact ⟨its,r,⟨_,n,e,rfl,rfl,rfl⟩,z⟩
 ·refine ⟨its.toList,r,⟨o,n,I.AG a o hk,hc,hd,by simpa using hs⟩,?_⟩
  have e:=r.length
  simp only [Array.length_toList] at e
  omega
theorem Inv.tuple (I:Inv X pins σ H s) (h:wK X.K H a xs):∃ its:List Value,Vals xs its∧IsTup s.heap a its.toArray∧xs.length≤sizeLine:=by
 rcases h with h | ⟨o,its,n,hk,hc,hs,hz,r⟩
 ·obtain ⟨z,its,r,p⟩:=h.ok I.hok
  exact ⟨its,r,p,z⟩
 ·refine ⟨its.toList,r,⟨o,I.AG a o hk,hc,n,by simpa using hs⟩,?_⟩
  have e:=r.length
  simp only [Array.length_toList] at e
  omega
theorem Inv.FZ (I:Inv X pins σ H s) (h:iD X.K H a xs) (h':iD X.K H a ys):xs=ys:=by
 obtain ⟨its,r,⟨o,n,e,_,_,d⟩,_⟩:=I.list h
 obtain ⟨its',r',⟨o',n',e',_,_,d'⟩,_⟩:=I.list h'
 rw [e] at e';cases e'
 rw [d] at d'
 injection d' with d1 _
 have:its=its':=by simpa using congrArg Array.toList d1
 subst this
 exact r.inj r'
theorem Inv.EA (I:Inv X pins σ H s) (h:wK X.K H a xs) (h':wK X.K H a ys):xs=ys:=by
 obtain ⟨its,r,⟨o,e,_,n,d⟩,_⟩:=I.tuple h
 obtain ⟨its',r',⟨o',e',_,n',d'⟩,_⟩:=I.tuple h'
 rw [e] at e';cases e'
 rw [d] at d'
 injection d' with d1 _
 have:its=its':=by simpa using congrArg Array.toList d1
 subst this
 exact r.inj r'
end
abbrev Cx.wM (X:Cx) (E:Value→Shared→Prop):Cx:={ X with xe:=E }
abbrev Cx.Ir (X:Cx):Cx:=X.wM fun _ _=>False
theorem Cx.Ok.wM {X:Cx} (ok:X.Ok) (E:Value→Shared→Prop):(X.wM E).Ok:=
 ⟨ok.mod,ok.kind,ok.glob,ok.blt,ok.above,ok.inj,ok.has,ok.Np,ok.hd,ok.frames,ok.stk,ok.NN,ok.bs,ok.Kw,ok.Ex,ok.Ey,ok.tO,ok.Lc⟩
theorem Cx.Ok.nI {X:Cx} {E:Value→Shared→Prop} (ok:(X.wM E).Ok):X.Ok:=
 ⟨ok.mod,ok.kind,ok.glob,ok.blt,ok.above,ok.inj,ok.has,ok.Np,ok.hd,ok.frames,ok.stk,ok.NN,ok.bs,ok.Kw,ok.Ex,ok.Ey,ok.tO,ok.Lc⟩
section
variable {X:Cx} {pins:List (Addr ×Obj)} {σ:St} {H:Hp} {s:Shared} {E:Value→Shared→Prop}
theorem Inv.wM (I:Inv X pins σ H s) (E:Value→Shared→Prop):Inv (X.wM E) pins σ H s:=⟨I.ok.wM E,I.os,I.bare,I.base,I.loc,I.cell,I.free,I.pW,I.pin,I.hok,I.len⟩
theorem Inv.nI (I:Inv (X.wM E) pins σ H s):Inv X pins σ H s:=⟨I.ok.nI,I.os,I.bare,I.base,I.loc,I.cell,I.free,I.pW,I.pin,I.hok,I.len⟩
theorem SP.nI {D:Ends} {f:Flow} {s':Shared} (h:SP (X.wM E) pins D f s'):SP X pins D f s':=by
 cases f with
 | next=>obtain ⟨σ',H',I,q⟩:=h;exact ⟨σ',H',I.nI,q⟩
 | brk=>obtain ⟨σ',H',I,q⟩:=h;exact ⟨σ',H',I.nI,q⟩
 | cont=>obtain ⟨σ',H',I,q⟩:=h;exact ⟨σ',H',I.nI,q⟩
 | ret u=>obtain ⟨v,σ',H',I,r,q⟩:=h;exact ⟨v,σ',H',I.nI,r,q⟩
theorem B8.Ir {st:List Stmt} {t:TS} (h:B8 X.Ir st t):B8 X st t:=fun pins s σ H D I hw=>
 wpAny_mono (h pins s σ H D (I.wM _) hw) (fun _ _ q=>q.nI) fun _ _ z=>False.elim z
end
section
variable {X:Cx} {st:Stmt} {rest:List Stmt} {t u:TS} {e:Expr} {te:TE} {pos:Pos}
def NW:TS:=fun D σ H=>D.nx σ H
def QY (t u:TS):TS:=fun D σ H=>t { D with nx:=u D } σ H
theorem IC:B8 X [] NW:=fun _ _ σ H _ I h=>wpAny_execs_nil ⟨σ,H,I,h⟩
theorem Ga (h1:PS X st t) (h2:B8 X rest u):B8 X (st :: rest) (QY t u):=by
 intro pins s σ H D I h
 refine wpAny_execs_cons (dW (h1 pins s σ H { D with nx:=u D } I h) fun f s1 q=>?_)
 cases f with
 | next=>
   obtain ⟨σ',H',I',q⟩:=q
   exact h2 pins s1 σ' H' D I' q
 | ret v=>exact q
 | brk=>exact q
 | cont=>exact q
theorem ID (h1:PS X st t):B8 X [st] t:=by
 intro pins s σ H D I h
 refine wpAny_execs_cons (dW (h1 pins s σ H D I h) fun f s1 q=>?_)
 cases f with
 | next=>exact wpAny_execs_nil q
 | ret v=>exact q
 | brk=>exact q
 | cont=>exact q
theorem Inv.quiet {pins:List (Addr ×Obj)} {σ:St} {H:Hp} {s:Shared} (I:Inv X pins σ H s):interactive X.env=false:=by simp [interactive,I.ok.kind]
def NX (te:TE):TS:=fun D σ H=>te σ H fun _ H1=>D.nx σ H1
theorem IE (he:PE X e te) (hs:swapsWith e none pos.line X.env=pure false:=by rfl):PS X (.Expr e pos) (NX te):=by
 intro pins s σ H D I h
 exact wpAny_Expr_any (dW (he pins s σ H _ I h) fun v s1 ⟨x,H1,I1,r1,q1⟩=>⟨σ,H1,I1,q1⟩) I.quiet hs
def QZ (te:TE):TS:=fun D σ H=>te σ H D.rt
theorem Lm (he:PE X e te):PS X (.Return (some e) pos) (QZ te):=by
 intro pins s σ H D I h
 exact wpAny_Return_some (dW (he pins s σ H _ I h) fun v s1 ⟨x,H1,I1,r1,q1⟩=>⟨x,σ,H1,I1,r1,q1⟩)
def Q2 (c:TT) (t u:TS):TS:=fun D σ H=>c σ H fun b H1=>if b=true then t D σ H1 else u D σ H1
theorem NY {c:Expr} {a b:List Stmt} {tc:TT} (hc:PT X c tc) (ha:B8 X a t) (hb:B8 X b u):PS X (.If c a b pos) (Q2 tc t u):=by
 intro pins s σ H D I h
 refine wpAny_If (dW (hc pins s σ H _ I h) fun d s1 ⟨H1,I1,q1⟩=>?_)
 cases d with
 | true=>exact ha pins s1 σ H1 D I1 q1
 | false=>exact hb pins s1 σ H1 D I1 q1
end
abbrev TG:=V→St→Hp→(St→Hp→Prop)→Prop
def PG (X:Cx) (target:Expr) (t:TG):Prop:=
 ∀ (pins:List (Addr ×Obj)) (s:Shared) (σ:St) (H:Hp) (v:V) (u:Value) (Q:St→Hp→Prop),Inv X pins σ H s→RelV v u→t v σ H Q→
   wpAny (model X.prog X.w) X.A (assign target X.env u) (fun _ s'=> ∃ σ' H',Inv X pins σ' H' s'∧Q σ' H') X.xe s
section
variable {X:Cx} {pos:Pos}
def Ky (i:Nat):TG:=fun v σ H Q=>Q (σ.set i (some v)) H
theorem IF {i:Nat} {x:Str} (hN:X.N.Nodup) (hi:X.N[i]?=some x) (hx:Loc X.env.scope x) (hf:X.fn x=true∨X.env.scope.names.lookup x=some .local:=by first | exact .inl rfl | exact .inr rfl | assumption):PG X (.Name x pos) (Ky i):=by
 intro pins s σ H v u Q I r h
 exact wpAny_assign_Name (qI I hN hi hx r (fun s' I'=>⟨_,H,I',h⟩) hf)
def Q3 (te:TE) (g:TG):TS:=fun D σ H=>te σ H fun x H1=>g x σ H1 D.nx
theorem Ln {i:Nat} {x:Str} {e:Expr} {te:TE} {pos':Pos} (hN:X.N.Nodup) (hi:X.N[i]?=some x) (hx:Loc X.env.scope x) (he:PE X e te) (hs:swapsWith e (some (.Name x pos')) pos.line X.env=pure false:=by rfl) (hf:X.fn x=true∨X.env.scope.names.lookup x=some .local:=by first | exact .inl rfl | exact .inr rfl | assumption) :
 PS X (.Assign [.Name x pos'] e pos) (Q3 te (Ky i)):=by
 intro pins s σ H D I h
 refine wpAny_Assign_Name (dW (he pins s σ H _ I h) fun v s1 ⟨y,H1,I1,r1,q1⟩=>?_) hs
 exact qI I1 hN hi hx r1 (fun s2 I2=>⟨_,H1,I2,q1⟩) hf
def Q4 (i j:Nat) (ta:TA):TS:=fun D σ H=>ta σ H fun vs H1=> ∃ v w,vs= [v,w]∧D.nx ((σ.set i (some v)).set j (some w)) H1
theorem Lo {i j:Nat} {x y:Str} {a b:Expr} {ta:TA} {px py pt:Pos} {kt k2 yb} (hc:X.calm=true) (hN:X.N.Nodup) (hi:X.N[i]?=some x) (hj:X.N[j]?=some y) (hij:i≠j)
 (hx:X.env.scope.names.lookup x=some .local) (hy:X.env.scope.names.lookup y=some .local) (ha:PA X [a,b] ta)
 (hw:swappedStores [.Tuple [.Name x px,.Name y py] kt pt] (.Tuple [a,b] k2 yb) X.env=pure (some [x,y]))
 (hs:swapsWithSole [.Tuple [.Name x px,.Name y py] kt pt] (.Tuple [a,b] k2 yb) pos.line X.env=pure false:=by rfl) :
 PS X (.Assign [.Tuple [.Name x px,.Name y py] kt pt] (.Tuple [a,b] k2 yb) pos) (Q4 i j ta):=by
 intro pins s σ H D I h
 rw [exec_Assign_arm]
 refine wpAny_bind (wpAny_standAt ?_)
 rw [hs]
 refine wpAny_bind (wpAny_pure ?_)
 rw [if_neg (by decide)]
 refine wpAny_bind (Tuple_ (dW (ha _ pins s σ H _ I h) fun us s1 ⟨vs,H1,I1,r1,q1⟩=>?_))
 obtain ⟨v,w,e1,q1⟩:=q1
 subst e1
 obtain ⟨u1,u2,rfl,rv,rw'⟩:∃ u1 u2,us= [u1,u2]∧RelV v u1∧RelV w u2:=by
  cases r1 with
  | cons p q=>
    cases q with
    | cons p' q'=>
      cases q'
      exact ⟨_,_,rfl,p,p'⟩
 refine wpAny_newObj_type ?_ (by show 2≤sizeLine;decide)
 have I2:Inv X pins σ H1 { s1 with heap:=s1.heap.push { cls:= .type "tuple",data:= .seq [u1,u2].toArray } }:=I1.kept (t':=s1.toks) fun b o e=>Heap.get?_push_of_some _ e
 rw [hw]
 refine wpAny_bind (wpAny_pure ?_)
 show wpAny (model X.prog X.w) X.A (do rule "assign.swapped-stores";let items ← unpackItems (.ref s1.heap.objs.size) 2 none;assignInOrder [fun v=>bindName X.env y v,fun v=>bindName X.env x v] items.reverse;pure Flow.next) _ _ _
 refine wpAny_bind (wpAny_rule (wpAny_bind (unpackItems_tuple (items:= #[u1,u2]) (I.ok.hd hc) (IsTup.new s1.heap _) fun h' hx'=>?_)))
 have I3:=I2.kept (h':=h') (t':=s1.toks) fun b o e=>hx' b o (Zr (Heap.lt_size e)) e
 show wpAny _ _ (assignInOrder [fun v=>bindName X.env y v,fun v=>bindName X.env x v] [u2,u1] >>= fun _=>pure Flow.next) _ _ _
 refine wpAny_bind (assignInOrder_cons (wpAny_bindName (qI I3 hN hj (.inl hy) rw' (fun s2 I4=>?_) (.inr hy))))
 refine assignInOrder_cons (wpAny_bindName (qI I4 hN hi (.inl hx) rv (fun s3 I5=>assignInOrder_nil (wpAny_pure ?_)) (.inr hx)))
 rw [List.set_comm _ _ (Ne.symm hij)] at I5
 exact ⟨_,H1,I5,q1⟩
end
section
variable {X:Cx} {pos:Pos}
def Lp (c:TT) (tb:TS):TS:=fun D σ H=> ∃ W:Nat→St→Hp→Prop,(∃ m,W m σ H)∧∀ m σ H,W m σ H→
 c σ H fun b H1=>if b=true then ∃ N:St→Hp→Prop,(∀ σ' H',N σ' H'→∃ m',m' < m∧W m' σ' H')∧tb { D with nx:=N,ct:=N,bk:=D.nx } σ H1 else D.nx σ H1
theorem Gb {c:Expr} {body:List Stmt} {tc:TT} {tb:TS} (hp:PassesOwn (model X.prog X.w) X.A X.env X.xe) (hc:PT X c tc) (hb:B8 X body tb):PS X (.While c body [] pos) (Lp tc tb):=by
 intro pins s σ H D I h
 obtain ⟨W,⟨m0,w0⟩,turn⟩:=h
 refine wpAny_While (codeAny_whileLoop (fun n s'=> ∃ σ' H',Inv X pins σ' H' s'∧W n σ' H') ?_ m0 ⟨σ,H,I,w0⟩)
 rintro n s1 ⟨σ1,H1,I1,w1⟩
 refine wpAny_passesOwn hp (dW (hc pins s1 σ1 H1 _ I1 (turn n σ1 H1 w1)) fun b s2 ⟨H2,I2,q2⟩=>?_)
 cases b with
 | true=>
   obtain ⟨N,hN,q2⟩:=q2
   rw [if_pos rfl]
   refine wpAny_passesOwn hp (dW (hb pins s2 σ1 H2 _ I2 q2) fun f s3 q3=>?_)
   cases f with
   | next=>
     obtain ⟨σ3,H3,I3,n3⟩:=q3
     obtain ⟨m',hm,w3⟩:=hN σ3 H3 n3
     exact ⟨m',hm,σ3,H3,I3,w3⟩
   | cont=>
     obtain ⟨σ3,H3,I3,n3⟩:=q3
     obtain ⟨m',hm,w3⟩:=hN σ3 H3 n3
     exact ⟨m',hm,σ3,H3,I3,w3⟩
   | brk=>exact q3
   | ret v=>exact q3
 | false=>
   rw [if_neg Zg]
   exact wpAny_execs_nil ⟨σ1,H2,I2,q2⟩
end
structure It where
 go:Nat→Hp→Prop
 IG:Nat→Hp→V→Hp→Prop
 stop:Nat→Hp→Prop
def nj (X:Cx) (pins:List (Addr ×Obj)) (H:Hp) (b:Addr):Prop:=
 H b=none∧b≠X.env.locals∧b∉X.fs∧(b∈X.ex∨X.s₀.heap.objs.size≤b)∧(∀ x c,X.env.cells.lookup x=some c→c≠b)∧∀ p∈X.pn ++ pins,p.1≠b
theorem Inv.Gd {X:Cx} {pins:List (Addr ×Obj)} {σ:St} {H H':Hp} {s:Shared} {b:Addr} (I:Inv X pins σ H s) (hb:s.heap.objs.size≤b) (hn:H' b=none):nj X pins H' b:=by
 refine ⟨hn,ZM (Zc I.lt hb),I.QO hb,.inr (aae I.sz hb),fun x c e z=>?_,fun p hp z=>?_⟩
 ·obtain ⟨v,q⟩:=I.cell x c e
  exact absurd (Zc q.lt (by rw [z];exact hb)) (ZJ _)
 ·exact absurd (Zc (Heap.lt_size (I.pin p hp).1) (by rw [z];exact hb)) (ZJ _)
structure Turn (P:Program) (w:World) (K:PySem.W.Frag) (tg:Expr) (J:It) (fp:List Addr) (it:Addr) (tn:Nat→Heap→Prop):Prop where
 mem:it∈fp
 obj:∀ i h,tn i h→∀ b∈fp,∃ o,h.get? b=some o∧∀ v,o.data≠ .cell v
 keep:∀ i h h',tn i h→(∀ b∈fp,∀ o,h.get? b=some o→h'.get? b=some o)→tn i h'
 item:∀ (X:Cx),X.prog=P→X.w=w→X.K=K→X.calm=true→∀ (i:Nat) (pins:List (Addr ×Obj)) (s:Shared) (σ:St) (H:Hp) (E:Value→Shared→Prop),Inv X pins σ H s→(∀ b∈fp,nj X pins H b)→tn i s.heap→J.go i H→
  wpAny (model P w) X.A (pyNext (.ref it)) (fun r s1=> ∃ u,r=some u∧
   wpAny (model P w) X.A (letOwnedTupleGo tg (.ref it) u) (fun _ s2=> ∃ x H',Inv X pins σ H' s2∧RelV x u∧J.IG i H x H'∧tn (i+1) s2.heap∧∀ b∈fp,H' b=none) E s1) E s
 done:∀ (X:Cx),X.prog=P→X.w=w→X.K=K→X.calm=true→∀ (i:Nat) (pins:List (Addr ×Obj)) (s:Shared) (σ:St) (H:Hp) (E:Value→Shared→Prop),Inv X pins σ H s→(∀ b∈fp,nj X pins H b)→tn i s.heap→J.stop i H→
  wpAny (model P w) X.A (pyNext (.ref it)) (fun r s1=>r=none∧Inv X pins σ H s1) E s
 self:∀ (A:Around) (i:Nat) (s:Shared) (Q:Value→Shared→Prop) (E:Value→Shared→Prop),tn i s.heap→Q (.ref it) s→wpAny (model P w) A (pyIter (.ref it)) Q E s
abbrev TI:=St→Hp→(It→Hp→Prop)→Prop
def Q5 (X:Cx) (pins:List (Addr ×Obj)) (σ:St) (tg:Expr) (R:It→Hp→Prop) (itv:Value) (s2:Shared):Prop:=
 ∃ (it:Addr) (fp:List Addr) (tn:Nat→Heap→Prop) (J:It) (H':Hp),itv= .ref it∧Inv X pins σ H' s2∧Turn X.prog X.w X.K tg J fp it tn∧tn 0 s2.heap∧(∀ b∈fp,nj X pins H' b)∧R J H'
def PI (X:Cx) (tg iter:Expr) (wi:TI):Prop:=
 ∀ (pins:List (Addr ×Obj)) (s:Shared) (σ:St) (H:Hp) (R:It→Hp→Prop),Inv X pins σ H s→wi σ H R→
   wpAny (model X.prog X.w) X.A (eval iter X.env) (fun v s1=>wpAny (model X.prog X.w) X.A (pyIter v) (Q5 X pins σ tg R) X.xe s1) X.xe s
theorem Ge {M:Model} {A:Around} {E:Value→Shared→Prop} {s:Shared} {tg:Expr} {it:Addr} {u:Value} {o:Obj} {n:String} {vs:Array Value} {Q:Unit→Shared→Prop} (ho:s.heap.get? it=some o) (hc:o.cls= .type n) (hd:o.data= .fields vs)
 (hn: ["enumerate","zip","dict_itemiterator","dict_reverseitemiterator","odict_iterator","itertools.zip_longest","itertools.pairwise"].contains n=false) (hQ:Q () s):wpAny M A (letOwnedTupleGo tg (.ref it) u) Q E s:=by
 unfold letOwnedTupleGo
 cases tg <;> first
  | exact wpAny_pure hQ
  | (cases u <;> first
   | exact wpAny_pure hQ
   | (refine wpAny_bind (wpAny_load ho ?_)
      rw [hc,hd]
      show wpAny M A (if (["enumerate","zip","dict_itemiterator","dict_reverseitemiterator","odict_iterator","itertools.zip_longest","itertools.pairwise"].contains n && vs[0]? == some (rawInt _))=true then _ else _) Q E s
      rw [if_neg (by intro h;rw [hn,abJ] at h;cases h)]
      exact wpAny_pure hQ))
def Q6 (K:PySem.W.Frag) (a:Addr):It:=
 ⟨fun i H=> ∃ xs x,iD K H a xs∧xs[i]?=some x,fun i H x H'=>H'=H∧∀ xs,iD K H a xs→xs[i]?=some x,fun i H=> ∃ xs,iD K H a xs∧xs.length≤i⟩
def Q7 (K:PySem.W.Frag) (a:Addr):It:=
 ⟨fun i H=> ∃ xs x,wK K H a xs∧xs[i]?=some x,fun i H x H'=>H'=H∧∀ xs,wK K H a xs→xs[i]?=some x,fun i H=> ∃ xs,wK K H a xs∧xs.length≤i⟩
def Qm (lo:Int) (n:Nat):It:=⟨fun i _=>i < n,fun i H x H'=>H'=H∧x= .int (lo+i),fun i _=>n≤i⟩
theorem EB {P:Program} {w:World} {K:PySem.W.Frag} {tg:Expr} (a it:Addr):Turn P w K tg (Q6 K a) [it] it (fun i h=>h.IsListIter it a i) where
 mem:=by simp
 obj:=fun i h st b hb=>by
  have e:b=it:=by simpa using hb
  subst e
  obtain ⟨o,e,c,d⟩:=st
  exact ⟨o,e,fun v z=>by rw [d] at z;cases z⟩
 keep:=fun i h h' st k=>st.at fun o e=>k it (by simp) o e
 item:=by
  intro X hP hw hK hc i pins s σ H E I hf st hg
  subst hP hw hK
  obtain ⟨xs,x,hq,hx⟩:=hg
  obtain ⟨its,rv,p,hz⟩:=I.list hq
  obtain ⟨u,hu,ru⟩:=rv.get hx
  obtain ⟨f0,f1,f2,f3,f4,f5⟩:=hf it (by simp)
  refine wpAny_pyNext_list_item st p.isList (x:=u) (by simpa using hu) fun h' st' sb=>?_
  have I1:Inv X pins σ H { s with heap:=h' }:=I.turned (t':=s.toks) (fun b o hb e=>(sb.2 b hb).trans e) f0 f1 f3 f4 f5
  obtain ⟨o,e,c,d⟩:=id st'
  exact ⟨u,rfl,Ge (s:={ s with heap:=h' }) e c d (by decide) ⟨x,H,I1,ru,⟨rfl,fun ys hy=>by rw [I.FZ hy hq];exact hx⟩,st',fun b hb=>(hf b hb).1⟩⟩
 done:=by
  intro X hP hw hK hc i pins s σ H E I hf st hg
  subst hP hw hK
  obtain ⟨xs,hq,hx⟩:=hg
  obtain ⟨its,rv,p,hz⟩:=I.list hq
  obtain ⟨f0,f1,f2,f3,f4,f5⟩:=hf it (by simp)
  have hl:=rv.length
  exact wpAny_pyNext_list_end (I.ok.hd hc) st p.isList (by simp;omega) fun h' eb=>⟨rfl,I.turned (t':=s.toks) (fun b o hb e=>eb b o hb e) f0 f1 f3 f4 f5⟩
 self:=fun _ _ _ _ _ st h=>wpAny_pyIter_listiter st h
theorem B9 {P:Program} {w:World} {K:PySem.W.Frag} {tg:Expr} (a it:Addr):Turn P w K tg (Q7 K a) [it] it (fun i h=>h.IsTupleIter it a i) where
 mem:=by simp
 obj:=fun i h st b hb=>by
  have e:b=it:=by simpa using hb
  subst e
  obtain ⟨o,e,c,d⟩:=st
  exact ⟨o,e,fun v z=>by rw [d] at z;cases z⟩
 keep:=fun i h h' st k=>st.at fun o e=>k it (by simp) o e
 item:=by
  intro X hP hw hK hc i pins s σ H E I hf st hg
  subst hP hw hK
  obtain ⟨xs,x,hq,hx⟩:=hg
  obtain ⟨its,rv,p,hz⟩:=I.tuple hq
  obtain ⟨u,hu,ru⟩:=rv.get hx
  obtain ⟨f0,f1,f2,f3,f4,f5⟩:=hf it (by simp)
  refine wpAny_pyNext_tuple_item st (show s.heap.IsTuple a its.toArray from p) (x:=u) (by simpa using hu) fun h' st' sb=>?_
  have I1:Inv X pins σ H { s with heap:=h' }:=I.turned (t':=s.toks) (fun b o hb e=>(sb.2 b hb).trans e) f0 f1 f3 f4 f5
  obtain ⟨o,e,c,d⟩:=id st'
  exact ⟨u,rfl,Ge (s:={ s with heap:=h' }) e c d (by decide) ⟨x,H,I1,ru,⟨rfl,fun ys hy=>by rw [I.EA hy hq];exact hx⟩,st',fun b hb=>(hf b hb).1⟩⟩
 done:=by
  intro X hP hw hK hc i pins s σ H E I hf st hg
  subst hP hw hK
  obtain ⟨xs,hq,hx⟩:=hg
  obtain ⟨its,rv,p,hz⟩:=I.tuple hq
  obtain ⟨f0,f1,f2,f3,f4,f5⟩:=hf it (by simp)
  have hl:=rv.length
  exact wpAny_pyNext_tuple_end (I.ok.hd hc) st (show s.heap.IsTuple a its.toArray from p) (by simp;omega) fun h' eb=>⟨rfl,I.turned (t':=s.toks) (fun b o hb e=>eb b o hb e) f0 f1 f3 f4 f5⟩
 self:=fun _ _ _ _ _ st h=>wpAny_pyIter_tupleiter st h
theorem Ca {P:Program} {w:World} {K:PySem.W.Frag} {tg:Expr} (it:Addr) (lo:Int) (n:Nat):Turn P w K tg (Qm lo n) [it] it (fun i h=>IsRangeIter h it (lo+(i:Nat)*1) ((n:Int) - (i:Nat)) 1) where
 mem:=by simp
 obj:=fun i h st b hb=>by
  have e:b=it:=by simpa using hb
  subst e
  exact ⟨_,st,fun v z=>by
   have z':Data.fields _=Data.cell v:=z
   cases z'⟩
 keep:=fun i h h' st k=>k it (by simp) _ st
 item:=by
  intro X hP hw hK hc i pins s σ H E I hf st hg
  subst hP hw hK
  obtain ⟨f0,f1,f2,f3,f4,f5⟩:=hf it (by simp)
  have W:=Walks.range (prog:=X.prog) (w:=X.w) (I.ok.hd hc) it lo 1 n
  refine W.item i s _ _ hg st fun v h' tk hv st' kk=>?_
  obtain ⟨t,rfl⟩:=hv
  have I1:Inv X pins σ H { s with heap:=h',toks:=tk }:=I.turned (fun b o hb e=>kk b o (by simpa using hb) e) f0 f1 f3 f4 f5
  refine ⟨_,rfl,Ge (s:={ s with heap:=h',toks:=tk }) (n:= "range_iterator") st' rfl rfl (by decide) ⟨.int (lo+i),H,I1,⟨t,?_⟩,⟨rfl,rfl⟩,st',fun b hb=>(hf b hb).1⟩⟩
  rw [abG]
 done:=by
  intro X hP hw hK hc i pins s σ H E I hf st hg
  subst hP hw hK
  obtain ⟨f0,f1,f2,f3,f4,f5⟩:=hf it (by simp)
  exact wpAny_pyNext_range_end (I.ok.hd hc) st (by have:n≤i:=hg;omega) fun h' eb=>⟨rfl,I.turned (t':=s.toks) (fun b o hb e=>eb b o hb e) f0 f1 f3 f4 f5⟩
 self:=fun _ _ _ _ _ st h=>wpAny_pyIter_rangeiter st h
end L2
namespace L2
open PySem PySem.Spec PyProof.Rows
section
variable {X:Cx} {tg:Expr}
def NZ (K:PySem.W.Frag) (tl:TE):TI:=fun σ H R=>tl σ H fun x H1=> ∃ a,x= .ref a∧(∃ xs,iD K H1 a xs)∧R (Q6 K a) H1
def Q8 (K:PySem.W.Frag) (tl:TE):TI:=fun σ H R=>tl σ H fun x H1=> ∃ a,x= .ref a∧(∃ xs,wK K H1 a xs)∧R (Q7 K a) H1
theorem Dk {l:Expr} {tl:TE} (hl:PE X l tl):PI X tg l (NZ X.K tl):=by
 intro pins s σ H R I h
 refine dW (hl pins s σ H _ I h) fun v s1 ⟨x,H1,I1,r1,q1⟩=>?_
 obtain ⟨a,e,⟨xs,hq⟩,q⟩:=q1
 subst e
 cases r1
 obtain ⟨its,rv,p,hz⟩:=I1.list hq
 refine wpAny_pyIter_list p.isList ?_
 refine ⟨s1.heap.objs.size,[s1.heap.objs.size],_,_,H1,rfl,I1.kept (t':=s1.toks) fun b o e=>Heap.get?_push_of_some _ e,EB a _,⟨_,Heap.get?_push_size _ rfl,rfl,rfl⟩,fun b hb=>?_,q⟩
 have e:b=s1.heap.objs.size:=by simpa using hb
 subst e
 exact I1.Gd (Zb _) (I1.hok.fresh (Zb _))
theorem Lq {l:Expr} {tl:TE} (hl:PE X l tl):PI X tg l (Q8 X.K tl):=by
 intro pins s σ H R I h
 refine dW (hl pins s σ H _ I h) fun v s1 ⟨x,H1,I1,r1,q1⟩=>?_
 obtain ⟨a,e,⟨xs,hq⟩,q⟩:=q1
 subst e
 cases r1
 obtain ⟨its,rv,p,hz⟩:=I1.tuple hq
 refine wpAny_pyIter_tuple (show s1.heap.IsTuple a its.toArray from p) ?_
 refine ⟨s1.heap.objs.size,[s1.heap.objs.size],_,_,H1,rfl,I1.kept (t':=s1.toks) fun b o e=>Heap.get?_push_of_some _ e,B9 a _,⟨_,Heap.get?_push_size _ rfl,rfl,rfl⟩,fun b hb=>?_,q⟩
 have e:b=s1.heap.objs.size:=by simpa using hb
 subst e
 exact I1.Gd (Zb _) (I1.hok.fresh (Zb _))
theorem Gf {pins:List (Addr ×Obj)} {σ:St} {H:Hp} {s:Shared} {R:It→Hp→Prop} {E:Value→Shared→Prop} {lo hi:Int} {t u v:Tok} {tk:Nat} (I:Inv X pins σ H s) (h1: -(2 ^ 62)≤lo) (h2:lo < 2 ^ 62) (h3: -(2 ^ 62)≤hi) (h4:hi < 2 ^ 62)
 (q:R (Qm lo (hi - lo).toNat) H):wpAny (model X.prog X.w) X.A (pyIter (.ref s.heap.objs.size)) (Q5 X pins σ tg R) E { s with heap:=s.heap.push { cls:= .type "range",data:= .fields #[.int lo t,.int hi u,.int 1 v] },toks:=tk }:=by
 refine wpAny_pyIter_range (IsRange.new ..) (small_one h1 h2 h3 h4) ?_
 have I1:Inv X pins σ H { s with heap:=s.heap.push { cls:= .type "range",data:= .fields #[.int lo t,.int hi u,.int 1 v] },toks:=tk }:=I.kept fun b o e=>Heap.get?_push_of_some _ e
 refine ⟨(s.heap.push { cls:= .type "range",data:= .fields #[.int lo t,.int hi u,.int 1 v] }).objs.size,[(s.heap.push { cls:= .type "range",data:= .fields #[.int lo t,.int hi u,.int 1 v] }).objs.size],_,_,H,rfl,
  I1.kept (t':=tk) fun b o e=>Heap.get?_push_of_some _ e,Ca _ lo (hi - lo).toNat,?_,fun b hb=>?_,q⟩
 ·have e1:lo+((0:Nat):Int)*1=lo:=by simp
  have e2:(((hi - lo).toNat:Nat):Int) - ((0:Nat):Int)=Builtin.Range.rangeSize lo hi 1:=by rw [rangeSize_one];split <;> omega
  show IsRangeIter _ _ (lo+((0:Nat):Int)*1) ((((hi - lo).toNat:Nat):Int) - ((0:Nat):Int)) 1
  rw [e1,e2]
  exact Heap.get?_push_size _ rfl
 ·have e:b=(s.heap.push { cls:= .type "range",data:= .fields #[.int lo t,.int hi u,.int 1 v] }).objs.size:=by simpa using hb
  subst e
  exact I1.Gd (Zb _) (I1.hok.fresh (Zb _))
def N1 (ta:TA):TI:=fun σ H R=>ta σ H fun vs H1=> ∃ j:Int,vs= [.int j]∧ -(2 ^ 62)≤j∧j < 2 ^ 62∧R (Qm 0 j.toNat) H1
theorem EC {a:Expr} {ta:TA} {p pos:Pos} (hg:Gl X "range") (hm:X.mg "range" =none) (ha:PA X [a] ta) (hs:starEach [a] X.env= [(false,eval a X.env)]:=by rfl):PI X tg (.Call (.Name "range" p) [a] [] pos) (N1 ta):=by
 intro pins s σ H R I h
 refine Call_ (lC I hg hm boot_range (PyProof.Rows.callWith_type1 (dW (ha pos pins s σ H _ I h) fun us s1 ⟨vs,H1,I1,r1,q1⟩=>?_) hs rfl))
 obtain ⟨j,e,q1,q2,q⟩:=q1
 subst e
 cases r1 with
 | cons r rr=>
   cases rr
   obtain ⟨t,rfl⟩:=r
   exact call_range_1 (Gf I1 (by omega) (by omega) q1 q2 (by simpa using q))
def Q9 (wi:TI) (g:TG) (tb:TS):TS:=fun D σ H=>wi σ H fun J H1=> ∃ W:Nat→Nat→St→Hp→Prop,(∃ m,W 0 m σ H1)∧∀ i m σ H,W i m σ H→
 (J.stop i H∧D.nx σ H)∨(J.go i H∧∃ N:St→Hp→Prop,(∀ σ' H',N σ' H'→∃ m',m' < m∧W (i+1) m' σ' H')∧∀ x H',J.IG i H x H'→g x σ H' fun σ2 H2=>tb { D with nx:=N,ct:=N,bk:=D.nx } σ2 H2)
def uE (fp:List Addr) (h:Heap):List (Addr ×Obj):=fp.filterMap fun b=>(h.get? b).map fun o=>(b,o)
theorem qh {fp:List Addr} {h:Heap} {b:Addr} {o:Obj} (hb:b∈fp) (e:h.get? b=some o):(b,o)∈uE fp h:=aaU.mpr ⟨b,hb,by rw [e];rfl⟩
theorem ED {fp:List Addr} {h:Heap} {p:Addr ×Obj} (hp:p∈uE fp h):p.1∈fp∧h.get? p.1=some p.2:=by
 obtain ⟨b,hb,e⟩:=aaU.mp hp
 cases q:h.get? b with
 | none=>rw [q] at e;cases e
 | some o=>
   rw [q] at e
   have e':(b,o)=p:=Option.some.inj e
   subst e'
   exact ⟨hb,q⟩
theorem Inv.pinned {pins:List (Addr ×Obj)} {σ:St} {H:Hp} {s:Shared} {fp:List Addr} (I:Inv X pins σ H s) (hf:∀ b∈fp,nj X pins H b) (ho:∀ b∈fp,∃ o,s.heap.get? b=some o∧∀ v,o.data≠ .cell v):Inv X (pins ++ uE fp s.heap) σ H s:=
 I.um fun p hp=>(Zq.mp hp).elim (fun z=>I.pin p (Zy _ z)) fun z=>by
   obtain ⟨hb,e⟩:=ED z
   obtain ⟨f0,f1,f2,_⟩:=hf p.1 hb
   obtain ⟨o,e',d⟩:=ho p.1 hb
   rw [e] at e';cases e'
   exact ⟨e,f0,f1,f2,d⟩
theorem Inv.nJ {pins pl:List (Addr ×Obj)} {σ:St} {H:Hp} {s:Shared} (I:Inv X (pins ++ pl) σ H s):Inv X pins σ H s:=I.um fun p hp=>I.pin p (Zy _ (Zk _ hp))
theorem Cb {iter:Expr} {body:List Stmt} {wi:TI} {g:TG} {tb:TS} {pos:Pos} (hp:PassesOwn (model X.prog X.w) X.A X.env X.xe) (hc:X.calm=true) (hi:PI X tg iter wi) (hg:PG X tg g) (hb:B8 X body tb)
 (hs:∀ x,foldedSetIterable iter X.env x=pure x:=by intro _;rfl):PS X (.For tg iter body [] pos) (Q9 wi g tb):=by
 intro pins s σ H D I h
 refine wpAny_For (dW (hi pins s σ H _ I h) fun v s1 h1=>dW h1 fun itv s2 h2=>?_) hs
 obtain ⟨it,fp,tn,J,H2,e,I2,T,st2,f2,W,⟨m0,w0⟩,turn⟩:=h2
 subst e
 have stat:∀ {H':Hp},(∀ b∈fp,H' b=none)→∀ b∈fp,nj X pins H' b:=fun hn b hb=>⟨hn b hb,(f2 b hb).2⟩
 refine codeAny_forLoop_any (fun n s'=> ∃ i σ' H',Inv X pins σ' H' s'∧tn i s'.heap∧(∀ b∈fp,H' b=none)∧W i n σ' H') ?_ m0 ⟨0,σ,H2,I2,st2,fun b hb=>(f2 b hb).1,w0⟩
 rintro n s3 ⟨i,σ3,H3,I3,st3,S7,w3⟩
 rcases turn i n σ3 H3 w3 with ⟨stop,qn⟩ | ⟨go,N,hN,step⟩
 ·refine wpAny_passesOwn hp (dW (T.done X rfl rfl rfl hc i pins s3 σ3 H3 X.xe I3 (stat S7) st3 stop) fun r s4 ⟨hr,I4⟩=>?_)
  subst hr
  exact wpAny_execs_nil ⟨σ3,H3,I4,qn⟩
 ·refine wpAny_passesOwn hp (dW (T.item X rfl rfl rfl hc i pins s3 σ3 H3 X.xe I3 (stat S7) st3 go) fun r s4 ⟨u,hr,h4⟩=>?_)
  subst hr
  refine wpAny_passesOwn hp (dW h4 fun _ s5 ⟨x,H5,I5,r5,y5,Nq,II⟩=>?_)
  have UB:=I5.pinned (stat II) (T.obj _ _ Nq)
  refine wpAny_passesOwn hp (dW (hg _ s5 σ3 H5 x u _ UB r5 (step x H5 y5)) fun _ s6 ⟨σ6,H6,I6,q6⟩=>?_)
  refine wpAny_passesOwn hp (dW (hb _ s6 σ6 H6 _ I6 q6) fun f s7 q7=>?_)
  have again:∀ {σ7:St} {H7:Hp},Inv X (pins ++ uE fp s5.heap) σ7 H7 s7→N σ7 H7→∃ m,m < n∧∃ i σ' H',Inv X pins σ' H' s7∧tn i s7.heap∧(∀ b∈fp,H' b=none)∧W i m σ' H':=fun {σ7 H7} I7 n7=>by
   obtain ⟨m',hm,w7⟩:=hN σ7 H7 n7
   refine ⟨m',hm,i+1,σ7,H7,I7.nJ,T.keep _ _ _ Nq fun b hb o e=>(I7.pin (b,o) (Zy _ (Zy _ (qh hb e)))).1,fun b hb=>?_,w7⟩
   obtain ⟨o,e,d⟩:=T.obj _ _ Nq b hb
   exact (I7.pin (b,o) (Zy _ (Zy _ (qh hb e)))).2.1
  cases f with
  | next=>obtain ⟨σ7,H7,I7,n7⟩:=q7;exact again I7 n7
  | cont=>obtain ⟨σ7,H7,I7,n7⟩:=q7;exact again I7 n7
  | brk=>obtain ⟨σ7,H7,I7,q7⟩:=q7;exact ⟨σ7,H7,I7.nJ,q7⟩
  | ret v=>obtain ⟨x7,σ7,H7,I7,r7,q7⟩:=q7;exact ⟨x7,σ7,H7,I7.nJ,r7,q7⟩
end
end L2
namespace L2
open PySem PySem.Spec PyProof.Rows
abbrev R2:=V→V→Hp→VK→Prop
def AH (X:Cx) (f:Value→Value→Sem Value) (r:R2):Prop:=
 ∀ (pins:List (Addr ×Obj)) (s:Shared) (σ:St) (H:Hp) (x y:V) (v u:Value) (Q:VK),Inv X pins σ H s→RelV x v→RelV y u→r x y H Q→
   wpAny (model X.prog X.w) X.A (f v u) (EP X pins σ Q) X.xe s
def Ra (X:Cx) (f:Value→Sem Value) (r:V→Hp→VK→Prop):Prop:=
 ∀ (pins:List (Addr ×Obj)) (s:Shared) (σ:St) (H:Hp) (x:V) (v:Value) (Q:VK),Inv X pins σ H s→RelV x v→r x H Q→
   wpAny (model X.prog X.w) X.A (f v) (EP X pins σ Q) X.xe s
def Dm (X:Cx) (f:Value) (r:List V→Hp→VK→Prop):Prop:=
 ∀ (pins:List (Addr ×Obj)) (s:Shared) (σ:St) (H:Hp) (xs:List V) (us:List Value) (Q:VK),Inv X pins σ H s→Vals xs us→r xs H Q→
   wpAny (model X.prog X.w) X.A (call f us) (EP X pins σ Q) X.xe s
def UC (r:R2) (ta tb:TE):TE:=fun σ H Q=>ta σ H fun x H1=>tb σ H1 fun y H2=>r x y H2 Q
def UD (r:V→Hp→VK→Prop) (ta:TE):TE:=fun σ H Q=>ta σ H fun x H1=>r x H1 Q
def rI (C:Int→Int→Prop) (g:Int→Int→V):R2:=fun x y H Q=> ∃ i j,x= .int i∧y= .int j∧C i j∧Q (g i j) H
def IJ (g:Int→Int→V):R2:=fun x y H Q=> ∃ i j,x= .int i∧y= .int j∧Q (g i j) H
def rU (g:Int→V):V→Hp→VK→Prop:=fun x H Q=> ∃ i,x= .int i∧Q (g i) H
section
variable {X:Cx} {a b c:Expr} {ta tb tc:TE} {pos:Pos}
theorem Rb (ha:PE X a ta) (hb:PE X b tb) {pins:List (Addr ×Obj)} {s:Shared} {σ:St} {H:Hp} {R:V→V→Hp→Prop} (I:Inv X pins σ H s)
 (h:ta σ H fun x H1=>tb σ H1 fun y H2=>R x y H2) {Q:Value→Shared→Prop} {f:Value→Value→Sem Value}
 (hf:∀ v u s2 x y H2,Inv X pins σ H2 s2→RelV x v→RelV y u→R x y H2→wpAny (model X.prog X.w) X.A (f v u) Q X.xe s2) :
 wpAny (model X.prog X.w) X.A (eval a X.env) (fun v s₁=>wpAny (model X.prog X.w) X.A (eval b X.env) (fun u s₂=>wpAny (model X.prog X.w) X.A (f v u) Q X.xe s₂) X.xe s₁) X.xe s:=by
 refine dW (ha pins s σ H _ I h) fun v s1 ⟨x,H1,I1,r1,q1⟩=>?_
 refine dW (hb pins s1 σ H1 _ I1 q1) fun u s2 ⟨y,H2,I2,r2,q2⟩=>?_
 exact hf v u s2 x y H2 I2 r1 r2 q2
theorem N4 {op:UnaryOp} {r:V→Hp→VK→Prop} (ho:Ra X (unaryOp op) r) (ha:PE X a ta):PE X (.UnaryOp op a pos) (UD r ta):=by
 intro pins s σ H Q I h
 exact UnaryOp_ (dW (ha pins s σ H _ I h) fun v s1 ⟨x,H1,I1,r1,q1⟩=>ho pins s1 σ H1 x v Q I1 r1 q1)
theorem N5 {f:Value→Value→Sem Value} {C:Int→Int→Prop} {g:Int→Int→Int}
 (rule:∀ (i j:Int) (t u:Tok) (s:Shared) (Q:Value→Shared→Prop) (E:Value→Shared→Prop),C i j→Q (.int (g i j) s.toks) { s with toks:=s.toks+1 }→wpAny (model X.prog X.w) X.A (f (.int i t) (.int j u)) Q E s) :
 AH X f (rI C fun i j=> .int (g i j)):=by
 intro pins s σ H x y v u Q I rx ry h
 obtain ⟨i,j,rfl,rfl,hc,q⟩:=h
 obtain ⟨t,rfl⟩:=rx
 obtain ⟨t',rfl⟩:=ry
 exact rule i j t t' s _ _ hc ⟨.int (g i j),H,I.tok _,⟨_,rfl⟩,q⟩
theorem N6 {f:Value→Value→Sem Value} {g:Int→Int→Int}
 (rule:∀ (i j:Int) (t u:Tok) (s:Shared) (Q:Value→Shared→Prop) (E:Value→Shared→Prop),Q (.int (g i j) s.toks) { s with toks:=s.toks+1 }→wpAny (model X.prog X.w) X.A (f (.int i t) (.int j u)) Q E s) :
 AH X f (IJ fun i j=> .int (g i j)):=by
 intro pins s σ H x y v u Q I rx ry h
 obtain ⟨i,j,rfl,rfl,q⟩:=h
 obtain ⟨t,rfl⟩:=rx
 obtain ⟨t',rfl⟩:=ry
 exact rule i j t t' s _ _ ⟨.int (g i j),H,I.tok _,⟨_,rfl⟩,q⟩
theorem Lr {f:Value→Value→Sem Value} {g:Int→Int→Bool}
 (rule:∀ (i j:Int) (t u:Tok) (s:Shared) (Q:Value→Shared→Prop) (E:Value→Shared→Prop),Q (.bool (g i j)) s→wpAny (model X.prog X.w) X.A (f (.int i t) (.int j u)) Q E s) :
 AH X f (IJ fun i j=> .bl (g i j)):=by
 intro pins s σ H x y v u Q I rx ry h
 obtain ⟨i,j,rfl,rfl,q⟩:=h
 obtain ⟨t,rfl⟩:=rx
 obtain ⟨t',rfl⟩:=ry
 exact rule i j t t' s _ _ ⟨.bl (g i j),H,I,rfl,q⟩
def Ls (i j:Int):Prop:=(-(2 ^ 64) < i∧i < 2 ^ 64)∨(-(2 ^ 64) < j∧j < 2 ^ 64)
theorem Ls.ok {i j:Int} (h:Ls i j):IntMulOk i j:=by
 rcases h with ⟨h1,h2⟩ | ⟨h1,h2⟩
 ·exact .of_left (intBits_le_64 h1 h2)
 ·exact .of_right (intBits_le_64 h1 h2)
theorem Lu:AH X (binaryOp .Add) (IJ fun i j=> .int (i+j)):=N6 fun _ _ _ _ _ _ _ q=>add_int q
theorem Lv:AH X (binaryOp .Sub) (IJ fun i j=> .int (i - j)):=N6 fun _ _ _ _ _ _ _ q=>sub_int q
theorem Lw:AH X (binaryOp .Mod) (rI (fun _ j=>0 < j) fun i j=> .int (i % j)):=N5 fun i j _ _ _ _ _ hc q=>by
 have h1:(0:Int) < j:=hc
 exact mod_int' (by omega) (by rw [Int.fmod_eq_emod_of_nonneg i (by omega)];exact q)
theorem UE {f:Value→Sem Value} {g:Int→Int}
 (rule:∀ (i:Int) (t:Tok) (s:Shared) (Q:Value→Shared→Prop) (E:Value→Shared→Prop),Q (.int (g i) s.toks) { s with toks:=s.toks+1 }→wpAny (model X.prog X.w) X.A (f (.int i t)) Q E s) :
 Ra X f (rU fun i=> .int (g i)):=by
 intro pins s σ H x v Q I rx h
 obtain ⟨i,rfl,q⟩:=h
 obtain ⟨t,rfl⟩:=rx
 exact rule i t s _ _ ⟨.int (g i),H,I.tok _,⟨_,rfl⟩,q⟩
theorem Lx:Ra X (unaryOp .USub) (rU fun i=> .int (-i)):=UE fun _ _ _ _ _ q=>neg_int q
end
def Ly:V→V→Bool
 | .bJ,.bJ=>true | .bJ,.int _=>true | .int _,.bJ=>true | .bJ,.bl _=>true | .bl _,.bJ=>true | .bJ,.str _=>true | .str _,.bJ=>true
 | .int _,.int _=>true | .bl _,.bl _=>true | .str _,.str _=>true | .FU _,.FU _=>true
 | .int _,.str _=>true | .str _,.int _=>true | .bl _,.str _=>true | .str _,.bl _=>true
 | _,_=>false
def UG:R2:=fun x y H Q=>Ly x y=true∧Q (.bl (decide (x=y))) H
def UH:R2:=fun x y H Q=>Ly x y=true∧Q (.bl (!decide (x=y))) H
theorem Dn {i j:Int}:decide (V.int i=V.int j)=(i == j):=by
 rw [ZW]
 simp
theorem Gg {i j:Bool}:decide (V.bl i=V.bl j)=(i == j):=by
 rw [ZW]
 simp
theorem Dp {i j:Str}:decide (V.str i=V.str j)=(i == j):=by
 rw [ZW]
 simp
theorem Dq {i j:Array UInt8}:decide (V.FU i=V.FU j)=(i.toList == j.toList):=by
 rw [ZW]
 cases i
 cases j
 simp
section
variable {X:Cx} {a b c:Expr} {ta tb tc:TE} {pos:Pos}
theorem bM {pins:List (Addr ×Obj)} {σ:St} {H:Hp} {s:Shared} {Q:VK} {k k':Bool} (I:Inv X pins σ H s) (q:Q (.bl k) H) (e:k=k'):EP X pins σ Q (.bool k') s:=by
 subst e
 exact ⟨.bl k,H,I,rfl,q⟩
theorem N7:AH X (compareOp .Eq) UG:=by
 intro pins s σ H x y v u Q I rx ry h
 obtain ⟨hs,q⟩:=h
 cases x with
 | bJ=>
   cases rx
   cases y with
   | bJ=>cases ry;exact PySem.EqNone.eq_none_none (bM I q (by simp))
   | bl j=>cases ry;exact PySem.EqNone.eq_none_bool (bM I q (by simp))
   | int j=>obtain ⟨t',rfl⟩:=ry;exact PySem.EqNone.eq_none_int (bM I q (by simp))
   | str j=>obtain ⟨t',rfl⟩:=ry;exact PySem.EqNone.eq_none_str (bM I q (by simp))
   | _=>exact absurd (show false=true from hs) Zg
 | bl i=>
   cases rx
   cases y with
   | bJ=>cases ry;exact PySem.EqNone.eq_bool_none (bM I q (by simp))
   | bl j=>cases ry;exact eq_bool (bM I q Gg)
   | str j=>obtain ⟨t',rfl⟩:=ry;exact PySem.EqMixed.eq_bool_str (bM I q (by simp))
   | _=>exact absurd (show false=true from hs) Zg
 | int i=>
   obtain ⟨t,rfl⟩:=rx
   cases y with
   | bJ=>cases ry;exact PySem.EqNone.eq_int_none (bM I q (by simp))
   | int j=>obtain ⟨t',rfl⟩:=ry;exact eq_int (bM I q Dn)
   | str j=>obtain ⟨t',rfl⟩:=ry;exact PySem.EqMixed.eq_int_str (bM I q (by simp))
   | _=>exact absurd (show false=true from hs) Zg
 | str i=>
   obtain ⟨t,rfl⟩:=rx
   cases y with
   | bJ=>cases ry;exact PySem.EqNone.eq_str_none (bM I q (by simp))
   | bl j=>cases ry;exact PySem.EqMixed.eq_str_bool (bM I q (by simp))
   | int j=>obtain ⟨t',rfl⟩:=ry;exact PySem.EqMixed.eq_str_int (bM I q (by simp))
   | str j=>obtain ⟨t',rfl⟩:=ry;exact eq_str (bM I q Dp)
   | _=>exact absurd (show false=true from hs) Zg
 | FU i=>
   obtain ⟨t,rfl⟩:=rx
   cases y with
   | FU j=>obtain ⟨t',rfl⟩:=ry;exact PySem.W.eq_bytes (bM I q Dq)
   | _=>exact absurd (show false=true from hs) Zg
 | _=>cases y <;> exact absurd (show false=true from hs) Zg
theorem N8:AH X (compareOp .NotEq) UH:=by
 intro pins s σ H x y v u Q I rx ry h
 obtain ⟨hs,q⟩:=h
 cases x with
 | bJ=>
   cases rx
   cases y with
   | bJ=>cases ry;exact PySem.EqNone.ne_none_none (bM I q (by simp))
   | bl j=>cases ry;exact PySem.EqNone.ne_none_bool (bM I q (by simp))
   | int j=>obtain ⟨t',rfl⟩:=ry;exact PySem.EqNone.ne_none_int (bM I q (by simp))
   | str j=>obtain ⟨t',rfl⟩:=ry;exact PySem.EqNone.ne_none_str (bM I q (by simp))
   | _=>exact absurd (show false=true from hs) Zg
 | bl i=>
   cases rx
   cases y with
   | bJ=>cases ry;exact PySem.EqNone.ne_bool_none (bM I q (by simp))
   | bl j=>cases ry;exact ne_bool (bM I q (congrArg not Gg))
   | str j=>obtain ⟨t',rfl⟩:=ry;exact PySem.EqMixed.ne_bool_str (bM I q (by simp))
   | _=>exact absurd (show false=true from hs) Zg
 | int i=>
   obtain ⟨t,rfl⟩:=rx
   cases y with
   | bJ=>cases ry;exact PySem.EqNone.ne_int_none (bM I q (by simp))
   | int j=>obtain ⟨t',rfl⟩:=ry;exact ne_int (bM I q (congrArg not Dn))
   | str j=>obtain ⟨t',rfl⟩:=ry;exact PySem.EqMixed.ne_int_str (bM I q (by simp))
   | _=>exact absurd (show false=true from hs) Zg
 | str i=>
   obtain ⟨t,rfl⟩:=rx
   cases y with
   | bJ=>cases ry;exact PySem.EqNone.ne_str_none (bM I q (by simp))
   | bl j=>cases ry;exact PySem.EqMixed.ne_str_bool (bM I q (by simp))
   | int j=>obtain ⟨t',rfl⟩:=ry;exact PySem.EqMixed.ne_str_int (bM I q (by simp))
   | str j=>obtain ⟨t',rfl⟩:=ry;exact ne_str (bM I q (congrArg not Dp))
   | _=>exact absurd (show false=true from hs) Zg
 | FU i=>
   obtain ⟨t,rfl⟩:=rx
   cases y with
   | FU j=>obtain ⟨t',rfl⟩:=ry;exact PySem.W.ne_bytes (bM I q (congrArg not Dq))
   | _=>exact absurd (show false=true from hs) Zg
 | _=>cases y <;> exact absurd (show false=true from hs) Zg
theorem N9:AH X (compareOp .Lt) (IJ fun i j=> .bl (decide (i < j))):=Lr fun _ _ _ _ _ _ _ q=>lt_int q
theorem Oa:AH X (compareOp .Gt) (IJ fun i j=> .bl (decide (j < i))):=Lr fun _ _ _ _ _ _ _ q=>gt_int q
theorem Ob:AH X (compareOp .GtE) (IJ fun i j=> .bl (decide (j≤i))):=Lr fun _ _ _ _ _ _ _ q=>ge_int q
theorem Lz:AH X (compareOp .Is) (fun x y H Q=>y= .bJ∧Q (.bl (decide (x= .bJ))) H):=by
 intro pins s σ H x y v u Q I rx ry h
 obtain ⟨rfl,q⟩:=h
 cases ry
 refine is_none_gen (bM I q ?_)
 cases x <;> first
  | (cases rx;rfl)
  | (obtain ⟨t,rfl⟩:=rx;rfl)
theorem IK:AH X (compareOp .IsNot) (fun x y H Q=>y= .bJ∧Q (.bl (!decide (x= .bJ))) H):=by
 intro pins s σ H x y v u Q I rx ry h
 obtain ⟨rfl,q⟩:=h
 cases ry
 refine isnot_none_gen (bM I q ?_)
 cases x <;> first
  | (cases rx;rfl)
  | (obtain ⟨t,rfl⟩:=rx;rfl)
theorem aC (b:Expr) {op:CmpOp} (h:op≠ .In:=by decide) (h2:op≠ .NotIn:=by decide):behindInMarks op b=false:=by
 have e1:(op == CmpOp.In)=false:=by cases op <;> first | rfl | exact absurd rfl h
 have e2:(op == CmpOp.NotIn)=false:=by cases op <;> first | rfl | exact absurd rfl h2
 cases b <;> simp [behindInMarks,e1,e2]
theorem Cc:(sizeLine:Nat) < 2 ^ 63:=by rw [sizeLine_eq];decide
theorem vals1 {x:V} {us:List Value} (r:Vals [x] us):∃ u,us= [u]∧RelV x u:=by
 cases r with
 | cons r1 r2=>cases r2;exact ⟨_,rfl,r1⟩
theorem vals2 {x y:V} {us:List Value} (r:Vals [x,y] us):∃ u w',us= [u,w']∧RelV x u∧RelV y w':=by
 cases r with
 | cons r1 r2=>
   cases r2 with
   | cons r3 r4=>cases r4;exact ⟨_,_,rfl,r1,r3⟩
theorem EE (hc:X.calm=true):Dm X (.builtin "min") (fun xs H Q=> ∃ i j,xs= [.int i,.int j]∧Q (.int (if j < i then j else i)) H):=by
 intro pins s σ H xs us Q I r h
 obtain ⟨i,j,rfl,q⟩:=h
 obtain ⟨u,w',rfl,⟨t,rfl⟩,⟨t',rfl⟩⟩:=vals2 r
 refine min_two_ints (I.ok.hd hc) fun h' tk k=>⟨_,H,I.kept k,?_,q⟩
 by_cases hj:j < i
 ·rw [if_pos hj,if_pos hj];exact ⟨_,rfl⟩
 ·rw [if_neg hj,if_neg hj];exact ⟨_,rfl⟩
end
end L2
namespace L2
open PySem PySem.Spec PyProof.Rows
structure LA (h:Heap) (x dx C:Addr) (mA:Str→Option Value):Prop where
 obj:h.get? x=some (PySem.W.instObj C dx)
 ns:h.Ns1 dx mA
 ne:dx≠x
theorem EF {h:Heap} {dx:Addr} {mA:Str→Option Value} (n:h.Ns1 dx mA):∃ od,h.get? dx=some od∧∀ name,PySem.W.lookIn name od=some (mA name):=by
 obtain ⟨o,es,ep,ho,hd,hk,_,hm⟩:=n
 refine ⟨o,ho,fun name=>?_⟩
 have e:=hm name
 unfold nsFind findBy at e
 rw [← Array.find?_toList] at e
 unfold PySem.W.lookIn
 rw [hd]
 dsimp only
 split
 ·rename_i y q
  rw [q] at e
  exact congrArg some e
 ·rename_i q
  rw [q] at e
  have a:es.toList.any (·.refKey)=false:=by
   rw [List.any_eq_false]
   intro y hy
   obtain ⟨z,t,hkey⟩:=hk y (Array.mem_toList_iff.mp hy)
   simp [DictEntry.refKey,hkey]
  have a':¬ es.toList.any (·.refKey)=true:=by rw [a];exact Zg
  rw [if_neg a']
  exact congrArg some e
theorem LA.look {h:Heap} {x dx C:Addr} {mA:Str→Option Value} (I:LA h x dx C mA):∃ od,PySem.W.InstAt h x (PySem.W.instObj C dx) C (some od)∧∀ name,PySem.W.lookIn name od=some (mA name):=
 let ⟨od,ho,hl⟩:=EF I.ns
 ⟨od,⟨I.obj,rfl,rfl,ho⟩,hl⟩
section
variable {prog:Program} {w:World} {A:Around} {E:Value→Shared→Prop} {s:Shared} {K:PySem.W.Frag} {x dx C f:Addr} {mA:Str→Option Value} {name:Str} {v:Value}
end
section
variable {P:Program} {w:World} {H H':Hp} {h h':Heap} {a C dx:Addr} {fs fs':List (Str ×V)}
theorem IL (hok:nH P w H h) (e:H a=some (.ins C dx fs)):∃ mA,LA h a dx C mA∧(∀ f,K8 (fs.lookup f) (mA f))∧PySem.Within mA (fs.map (·.1))∧fs.length≤1000∧H dx=some (.own a):=by
 obtain ⟨d,z,ne,ob,mA,n,r,q⟩:=(show eX P w H h a (.ins C dx fs) from hok a _ e)
 exact ⟨mA,⟨ob,n,ne⟩,r,q,z,d⟩
end
structure Rc (K:PySem.W.Frag) (C:Addr):Prop where
 pg:PySem.W.plainGet K C Str.empty=true
 hd:PySem.W.hasDictIn K C=true
 po:PySem.W.plainOver K C=true
 sa:PySem.W.findIn K (.ref C) "__setattr__" =some (some (.builtin "object.__setattr__"))
theorem Rc.get {K:PySem.W.Frag} {C:Addr} (c:Rc K C) (f:Str):PySem.W.plainGet K C f=true:=c.pg
structure Xg (K:PySem.W.Frag) (C:Addr) (f:Str) (v:V) (u:Value):Prop where
 at_:PySem.W.findIn K (.ref C) f=some (some u)
 rel:RelV v u
 get:PySem.W.specialIn K u "__get__" =some none
 cp:PySem.W.copiedNames.contains f=false
structure Meth (K:PySem.W.Frag) (C:Addr) (m:Str) (f:Addr):Prop where
 at_:PySem.W.findIn K (.ref C) m=some (some (.ref f))
 fn:PySem.W.isFn K (.ref f)=true
 kp:PySem.W.keepIn K (.ref f)=true
section
variable {X:Cx} {pins:List (Addr ×Obj)} {σ:St} {H:Hp} {s:Shared} {a C dx:Addr} {fs:List (Str ×V)} {f:Str} {v:V} {A:Around} {E:Value→Shared→Prop}
end
section
variable {X:Cx} {o e value:Expr} {f:Str} {pos pos' tpos:Pos} {ta tv:TE}
end
section
variable {X:Cx} {pins:List (Addr ×Obj)} {σ:St} {H:Hp} {s:Shared} {A:Around} {E:Value→Shared→Prop} {Q:Value→Shared→Prop} {c:Value} {b:Bool}
inductive tP (K:PySem.W.Frag) (H:Hp):V→Value→Prop where
 | bJ:tP K H .bJ (.type "NoneType")
 | bl (x:Bool):tP K H (.bl x) (.type "bool")
 | int (i:Int):tP K H (.int i) (.type "int")
 | str (x:Str):tP K H (.str x) (.type "str")
 | Nm (x:UInt64):tP K H (.Nm x) (.type "float")
 | lst {a:Addr} {xs:List V} (e:H a=some (.lst xs)):tP K H (.ref a) (.type "list")
 | qG {a:Addr} {o:Obj} {xs:List V} (e:H a=some (.qG o (.lst xs))):tP K H (.ref a) (.type "list")
 | tup {a:Addr} {xs:List V} (e:H a=some (.tup xs)):tP K H (.ref a) (.type "tuple")
 | dK {a:Addr} {kvs:List (Key ×V)} (e:H a=some (.dK kvs)):tP K H (.ref a) (.type "dict")
 | dT {a:Addr} {kvs:List (List Key ×V)} (e:H a=some (.dT kvs)):tP K H (.ref a) (.type "dict")
 | ins {a C dx:Addr} {fs:List (Str ×V)} (e:H a=some (.ins C dx fs)) (cl:Rc K C) (ha:PySem.W.findIn K (.ref C) "__class__" =some (some (.builtin "object.__class__")))
  (hn:PySem.W.specialIn K (.builtin "object.__class__") "__get__" =some (some (.builtin "getset_descriptor.__get__"))) (htk:PySem.W.takesIn K (.builtin "object.__class__")=some true)
  (hm:PySem.W.mroIn K C (.type "object")=some true):tP K H (.ref a) (.ref C)
theorem iO {x:V} {u t:Value} (I:Inv X pins σ H s) (rx:RelV x u) (ty:tP X.K H x t) (e:PySem.W.kitOne X.K t c=some b) (h:∀ tk,Q (.bool b) { s with toks:=tk }) :
 wpAny (model X.prog X.w) A (call (.builtin "isinstance") [u,c]) Q E s:=by
 cases ty with
 | bJ=>cases (show u=Value.none from rx);exact PySem.W.kia_one PySem.W.kitx_none I.AG True.intro e (fun z=>nomatch z) h
 | bl y=>cases (show u=Value.bool y from rx);exact PySem.W.kia_one PySem.W.kitx_bool I.AG True.intro e (fun z=>nomatch z) h
 | int i=>obtain ⟨t,q⟩:=(show ∃ t,u=Value.int i t from rx);cases q;exact PySem.W.kia_one PySem.W.kitx_int I.AG True.intro e (fun z=>nomatch z) h
 | str y=>obtain ⟨t,q⟩:=(show ∃ t,u=Value.str y t from rx);cases q;exact PySem.W.kia_one PySem.W.kitx_str I.AG True.intro e (fun z=>nomatch z) h
 | Nm y=>obtain ⟨t,q⟩:=(show ∃ t,u=Value.float y t from rx);cases q;exact PySem.W.kia_one PySem.W.kitx_float I.AG True.intro e (fun z=>nomatch z) h
 | @lst a xs ea=>
   cases (show u=Value.ref a from rx)
   obtain ⟨_,_,n,_,h1⟩:=(show eX X.prog X.w H s.heap a (.lst xs) from I.hok a _ ea)
   exact PySem.W.kia_one PySem.W.kitx_list I.AG ⟨_,h1,rfl⟩ e (fun z=>nomatch z) h
 | @qG a ob xs ea=>
   cases (show u=Value.ref a from rx)
   obtain ⟨_,_,_,n,_,h1⟩:=(show eX X.prog X.w H s.heap a (.qG ob (.lst xs)) from I.hok a _ ea)
   exact PySem.W.kia_one PySem.W.kitx_list I.AG ⟨_,h1,rfl⟩ e (fun z=>nomatch z) h
 | @tup a xs ea=>
   cases (show u=Value.ref a from rx)
   obtain ⟨_,_,_,p⟩:=(show eX X.prog X.w H s.heap a (.tup xs) from I.hok a _ ea)
   obtain ⟨o,h1,h2,_⟩:=p
   exact PySem.W.kia_one PySem.W.kitx_tuple I.AG ⟨o,h1,h2⟩ e (fun z=>nomatch z) h
 | @dK a kvs ea=>
   cases (show u=Value.ref a from rx)
   obtain ⟨_,_,vs,_,p⟩:=(show eX X.prog X.w H s.heap a (.dK kvs) from I.hok a _ ea)
   obtain ⟨o,es,ep,h1,h2,_⟩:=p
   exact PySem.W.kia_one PySem.W.kitx_dict I.AG ⟨o,h1,h2.1⟩ e (fun z=>nomatch z) h
 | @dT a kvs ea=>
   cases (show u=Value.ref a from rx)
   obtain ⟨_,_,xs,_,o,es,ep,h1,h2,_⟩:=(show eX X.prog X.w H s.heap a (.dT kvs) from I.hok a _ ea)
   exact PySem.W.kia_one PySem.W.kitx_dict I.AG ⟨o,h1,h2.1⟩ e (fun z=>nomatch z) h
 | @ins a C dx fs ea cl ha hn htk hm=>
   cases (show u=Value.ref a from rx)
   obtain ⟨mA,O,_⟩:=IL I.hok ea
   obtain ⟨od,J,_⟩:=O.look
   exact PySem.W.kia_one (PySem.W.kitx_own (cl.get _) cl.hd ha hn htk hm) I.AG J e (fun z=>nomatch z) h
end
end L2
namespace L2
open PySem PySem.Spec PyProof.Rows
structure jJ (k:Nat) (A:Around):Prop where
 hd:A.handled=none
 dp:A.depth+3*k+5 < recursionLimit
 un:A.units+16*k+200 < cLine
theorem jJ.mono {j k:Nat} {A:Around} (r:jJ k A) (h:j≤k):jJ j A:=⟨r.hd,by have:=r.dp;omega,by have:=r.un;omega⟩
theorem jJ.deeper {k:Nat} {A:Around} (r:jJ (k+1) A) (env:Env):jJ k (A.deeper env):=
 ⟨r.hd,by have:=r.dp;show A.depth+1+3*k+5 < _;omega,by have:=r.un;show A.units+3+16*k+200 < _;omega⟩
theorem jJ.depth {k:Nat} {A:Around} (r:jJ k A):A.depth < recursionLimit:=by have:=r.dp;omega
theorem jJ.units {k:Nat} {A:Around} (r:jJ k A):A.units+64 < cLine:=by have:=r.un;omega
def Gh:TA:=fun _ H Q=>Q [] H
def AO (ta:TE) (tr:TA):TA:=fun σ H Q=>ta σ H fun x H1=>tr σ H1 fun xs H2=>Q (x :: xs) H2
section
variable {X:Cx} {e:Expr} {es:List Expr} {te:TE} {t:TA} {pos:Pos}
theorem lD:PA X [] Gh:=fun _ _ _ _ H Q I h=>Calls.spliced_nil ⟨[],H,I,.nil,h⟩
theorem iG (ha:PE X e te) (hr:PA X es t) (hs:starEach (e :: es) X.env=(false,eval e X.env) :: starEach es X.env:=by rfl):PA X (e :: es) (AO te t):=by
 intro pos pins s σ H Q I h
 rw [hs]
 show wpAny _ _ (spliced ((false,eval e X.env) :: backTo pos (starEach es X.env))) _ _ s
 refine Calls.spliced_cons (dW (ha pins s σ H _ I h) fun u s1 ⟨x,H1,I1,r1,q1⟩=>?_)
 exact dW (hr pos pins s1 σ H1 _ I1 q1) fun us s2 ⟨xs,H2,I2,r2,q2⟩=>⟨x :: xs,H2,I2,.cons r1 r2,q2⟩
def Rf (t:TA):TE:=fun σ H Q=>t σ H fun xs H1=>xs.length≤sizeLine∧∀ p,H1 p=none→Q (.ref p) (upd H1 p (.tup xs))
def Rg (t:TA):TE:=fun σ H Q=>t σ H fun xs H1=>xs.length≤sizeLine∧∀ p,H1 p=none→Q (.ref p) (upd H1 p (.lst xs))
theorem LB {x1} (h:PA X es t):PE X (.Tuple es x1 pos) (Rf t):=by
 intro pins s σ H Q I hq
 refine wpAny_Tuple_spliced (dW (h pos pins s σ H _ I hq) fun us s1 ⟨xs,H1,I1,r,z,q⟩=>⟨by rw [← r.length];exact z,?_⟩)
 have hf:H1 s1.heap.objs.size=none:=I1.hok.fresh (Zb _)
 refine ⟨.ref s1.heap.objs.size,upd H1 s1.heap.objs.size (.tup xs),I1.laid (t':=s1.toks) (fun b u e=>Heap.get?_push_of_some _ e) (Zb _) ?_,rfl,q _ hf⟩
 exact ⟨z,us,r,⟨_,Heap.get?_push_size _ rfl,rfl,_,rfl⟩⟩
theorem LC (h:PA X es t):PE X (.List es pos) (Rg t):=by
 intro pins s σ H Q I hq
 refine wpAny_List_spliced (dW (h pos pins s σ H _ I hq) fun us s1 ⟨xs,H1,I1,r,z,q⟩=>⟨by rw [← r.length];exact z,?_⟩)
 have hf:H1 s1.heap.objs.size=none:=I1.hok.fresh (Zb _)
 refine ⟨.ref s1.heap.objs.size,upd H1 s1.heap.objs.size (.lst xs),I1.laid (t':=s1.toks) (fun b u e=>Heap.get?_push_of_some _ e) (Zb _) ?_,rfl,q _ hf⟩
 exact ⟨z,us,0,r,Heap.get?_push_size _ rfl⟩
end
abbrev Sp:=List V→Hp→VK→XK→Prop
abbrev Gi:=List Env→Hp→Shared→XK→Value→Shared→Prop
structure IM (P:Program) (w:World) (K:PySem.W.Frag) (mg:Str→Option Value) (base:Heap) (A:Around) (outer:List Env) (s:Shared) (H:Hp):Prop where
 frames:A.frames=some outer
 mod:Mod K mg base
 bs:∀ b o,base.get? b=some o→s.heap.get? b=some o∧H b=none
 Kw:base.objs.size≤s.heap.objs.size
 tO:s.heap.FunFrames base outer
 Lc:∀ b∈frs outer,H b=none
 hok:nH P w H s.heap
 bare:AllBare s.gens
def CE (outer:List Env) (P:Program) (w:World) (H:Hp) (s:Shared) (Q:VK) (u:Value) (s':Shared):Prop:=
 ∃ v H',s'.os=s.os∧AllBare s'.gens∧Un (frs outer) [] H H' s.heap s'.heap∧nH P w H' s'.heap∧RelV v u∧Q v H'
def CR (CX:Gi) (outer:List Env) (P:Program) (w:World) (H:Hp) (s:Shared) (Q:VK) (E:XK) (r:Result) (s':Shared):Prop:=
 match r with
 | .ok (.ret u)=>CE outer P w H s Q u s'
 | .ok _=>False
 | .error e=>CX outer H s E e s'
structure bS (P:Program) (w:World) (K:PySem.W.Frag) (mg:Str→Option Value) (base:Heap) (CX:Gi) (k:Nat) (f:Addr) (fd:FuncData) (ps:List Str) (sp:Sp):Prop where
 len:∀ vs H Q E,sp vs H Q E→vs.length=ps.length
 run:∀ (A:Around) (outer:List Env) (s:Shared) (H:Hp) (args:Args) (us:List Value) (vs:List V) (Q:VK) (E:XK),jJ k A→IM P w K mg base A outer s H→BindsTo s fd args (ps.zip us)→Vals vs us→sp vs H Q E→
  codeAny (model P w) A (.call (.ref f) args) (CR CX outer P w H s Q E) s
section
variable {X:Cx} {pins:List (Addr ×Obj)} {σ:St} {H:Hp} {s s':Shared}
theorem Inv.Rh (I:Inv X pins σ H s):IM X.prog X.w X.K X.mg X.base X.A X.stack s H:=
 ⟨I.ok.frames,I.ok.mod,I.bs,aae I.ok.Kw I.sz,I.stack,I.Dj,I.hok,I.bare⟩
theorem Inv.after {Q:VK} {u:Value} (I:Inv X pins σ H s) (h:CE X.stack X.prog X.w H s Q u s'):EP X pins σ Q u s':=by
 obtain ⟨v,H',os,bare,un,hok,r,q⟩:=h
 obtain ⟨hh,g,d,t,os'⟩:=s'
 obtain rfl:os'=s.os:=os
 exact ⟨v,H',I.call (h':=hh) (g':=g) (d':=d) (t':=t) (ch:=[]) un hok bare (fun b z=>absurd z (by simp)),r,q⟩
end
def Oc (sp:Sp) (FJ:List V) (E:XK) (t:TA):TE:=fun σ H Q=>t σ H fun vs H1=>sp (vs ++ FJ) H1 Q E
def Binds (K:PySem.W.Frag) (fd:FuncData) (ps:List Str) (ds:List Value):Prop:=
 ∀ (s:Shared) (us:List Value),K.In s.heap→(us ++ ds).length=ps.length→BindsTo s fd ⟨us,[]⟩ (ps.zip (us ++ ds))
theorem Binds.all {K:PySem.W.Frag} {fd:FuncData} {ps:List Str} (h:∀ us:List Value,us.length=ps.length→bindArgs fd ⟨us,[]⟩=pure (ps.zip us)):Binds K fd ps []:=fun s us _ hl=>by
 rw [Z2] at hl ⊢
 exact .of_eq (h us hl)
def Passes (CX:Gi) (X:Cx) (E:XK):Prop:= ∀ (pins:List (Addr ×Obj)) (σ:St) (H:Hp) (s:Shared) (e:Value) (s':Shared),Inv X pins σ H s→CX X.stack H s E e s'→X.xe e s'
section
variable {X:Cx} {CX:Gi} {k:Nat} {f C:Addr} {fd:FuncData} {ps:List Str} {sp:Sp} {FJ:List V} {ds:List Value} {E:XK} {x m:Str} {p pos apos:Pos} {e o:Expr} {es:List Expr} {ta:TE} {t:TA}
theorem LD {pins:List (Addr ×Obj)} {σ:St} {H:Hp} {s:Shared} {Q:VK} {us:List Value} {vs:List V} (F:bS X.prog X.w X.K X.mg X.base CX k f fd ps sp) (hr:jJ k X.A) (hb:Binds X.K fd ps ds) (hd:Vals FJ ds) (hx:Passes CX X E)
 (I:Inv X pins σ H s) (r:Vals vs us) (h:sp (vs ++ FJ) H Q E):wpAny (model X.prog X.w) X.A (call (.ref f) us) (EP X pins σ Q) X.xe s:=by
 have r2:Vals (vs ++ FJ) (us ++ ds):=r.append hd
 have hl:(us ++ ds).length=ps.length:=by rw [← r2.length];exact F.len _ _ _ _ h
 refine wpAny_call (codeAny_mono (F.run X.A X.stack s H ⟨us,[]⟩ (us ++ ds) (vs ++ FJ) Q E hr I.Rh (hb s us I.AG hl) r2 h) fun r s' hq=>?_)
 cases r with
 | error e=>exact hx pins σ H s e s' I hq
 | ok fl=>
   cases fl with
   | ret u=>exact I.after hq
   | next=>exact False.elim hq
   | brk=>exact False.elim hq
   | cont=>exact False.elim hq
theorem Dr (F:bS X.prog X.w X.K X.mg X.base CX k f fd ps sp) (hr:jJ k X.A) (hg:Gl X x) (hm:X.mg x=some (.ref f)) (hk:PySem.W.keepIn X.K (.ref f)=true) (hb:Binds X.K fd ps ds) (hd:Vals FJ ds) (hx:Passes CX X E)
 (ha:PA X (e :: es) t) (hdb:(x == ("__debug__" :Str))=false:=by decide) (he:starEach (e :: es) X.env=(false,eval e X.env) :: starEach es X.env:=by rfl) (hpl:(backTo pos (starEach es X.env)).any (·.1)=false:=by rfl) :
 PE X (.Call (.Name x p) (e :: es) [] pos) (Oc sp FJ E t):=by
 intro pins s σ H Q I h
 refine wpAny_Call_Name_kw (IA I hg hm ?_ hdb)
 refine PySem.W.callWith_K (h₀:=X.base) I.ok.mod.Kv hk (dW (ha pos pins s σ H _ I h) fun us s1 ⟨vs,H1,I1,r,q⟩=>⟨I1.AG,?_⟩) he hpl
 exact LD F hr hb hd hx I1 r q
structure Mk (K:PySem.W.Frag) (C f:Addr):Prop where
 makes:PySem.W.makesIn K C=true
 init:PySem.W.findIn K (.ref C) "__init__" =some (some (.ref f))
 fn:PySem.W.isFn K (.ref f)=true
 kp:PySem.W.keepIn K (.ref C)=true
end
section
variable {X:Cx} {CX:Gi} {k:Nat} {f C:Addr} {fd:FuncData} {ps ks:List Str} {sp:Sp} {E:XK} {x m:Str} {p pos apos kpos:Pos} {e o:Expr} {es:List Expr} {kws:List Keyword} {te ta:TE} {t tk:TA} {nm:Option Str}
structure Ri (K:PySem.W.Frag) (fd:FuncData) (ps ks:List Str) (g:List Value→List Value→List Value) (gV:List V→List V→List V):Prop where
 to:∀ (s:Shared) (us ws:List Value),K.In s.heap→(g us ws).length=ps.length→BindsTo s fd ⟨us,ks.zip ws⟩ (ps.zip (g us ws))
 rel:∀ {vs:List V} {us:List Value} {zs:List V} {ws:List Value},Vals vs us→Vals zs ws→Vals (gV vs zs) (g us ws)
variable {g:List Value→List Value→List Value} {gV:List V→List V→List V}
end
structure aI (N P:List Str) (sc:Scope):Prop where
 kind:sc.kind= .function
 co:sc.isCoroutine=false
 gen:sc.isGenerator=false
 nd:N.Nodup
 pre:N.take P.length=P
 par:∀ x∈P,sc.names.lookup x=some .local∨sc.names.lookup x=some .cell
 LF:∀ y∈sc.names,y.2≠ .free
theorem yc {kindOf:Str→Option NameKind} {x:Str}:∀ {binds:List (Str ×Value)} {m:Str→Option Value},(∀ v,(x,v)∉binds)→bindL kindOf binds m x=m x
 | [],_,_=>rfl
 | (n,v) :: r,m,h=>by
   unfold bindL
   rw [yc fun w hw=>h w (Y5 _ hw)]
   split
   ·have:x≠n:=by rintro rfl;exact h v Zl
    simp [this]
   ·rfl
theorem yd {kindOf:Str→Option NameKind} {x:Str}:∀ {binds:List (Str ×Value)} {m:Str→Option Value},(∀ v,(x,v)∉binds)→bindC kindOf binds m x=m x
 | [],_,_=>rfl
 | (n,v) :: r,m,h=>by
   unfold bindC
   rw [yd fun w hw=>h w (Y5 _ hw)]
   split
   ·rfl
   ·have:x≠n:=by rintro rfl;exact h v Zl
    simp [this]
theorem ye {kindOf:Str→Option NameKind} {x:Str} {v:Value}:∀ {P:List Str} {vs:List Value} {i:Nat} {m:Str→Option Value},P.Nodup→P[i]?=some x→vs[i]?=some v→kindOf x=some .local→
 bindL kindOf (P.zip vs) m x=some v
 | [],_,_,_,_,h,_,_=>by simp at h
 | _ :: _,[],_,_,_,_,h,_=>by simp at h
 | p :: P,w :: vs,0,m,nd,h1,h2,hk=>by
   simp at h1 h2;subst h1;subst h2
   show bindL kindOf ((p,w) :: P.zip vs) m p=_
   unfold bindL
   rw [yc fun v hv=>(Zp.mp nd).1 (abz hv).1,if_pos hk]
   simp
 | p :: P,w :: vs,i+1,m,nd,h1,h2,hk=>by
   show bindL kindOf ((p,w) :: P.zip vs) m x=_
   unfold bindL
   exact ye (i:=i) (Zp.mp nd).2 (by simpa using h1) (by simpa using h2) hk
theorem yf {kindOf:Str→Option NameKind} {x:Str} {v:Value}:∀ {P:List Str} {vs:List Value} {i:Nat} {m:Str→Option Value},P.Nodup→P[i]?=some x→vs[i]?=some v→kindOf x≠some .local→
 bindC kindOf (P.zip vs) m x=some v
 | [],_,_,_,_,h,_,_=>by simp at h
 | _ :: _,[],_,_,_,_,h,_=>by simp at h
 | p :: P,w :: vs,0,m,nd,h1,h2,hk=>by
   simp at h1 h2;subst h1;subst h2
   show bindC kindOf ((p,w) :: P.zip vs) m p=_
   unfold bindC
   rw [yd fun v hv=>(Zp.mp nd).1 (abz hv).1,if_neg hk]
   simp
 | p :: P,w :: vs,i+1,m,nd,h1,h2,hk=>by
   show bindC kindOf ((p,w) :: P.zip vs) m x=_
   unfold bindC
   exact yf (i:=i) (Zp.mp nd).2 (by simpa using h1) (by simpa using h2) hk
def start (N:List Str) (vs:List V):St:=vs.map some ++ List.replicate (N.length - vs.length) none
def tQ (CX:Gi) (P:Program) (w:World) (K:PySem.W.Frag) (mg:Str→Option Value) (base:Heap) (N:List Str) (qual:Str) (scope:Scope) (f:Addr) (cd:Value) (A:Around) (outer:List Env) (s:Shared) (H:Hp) (E:XK):Cx where
 prog:=P
 w:=w
 K:=K
 mg:=mg
 base:=base
 A:=A.deeper (envOfC qual scope s.heap.objs.size f cd)
 N:=N
 s₀:=s
 H₀:=H
 env:=envOfC qual scope s.heap.objs.size f cd
 outer:=outer
 stack:=envOfC qual scope s.heap.objs.size f cd :: outer
 ex:=[]
 calm:=true
 fn:=fun _=>true
 pn:=[]
 xe:=fun e s'=>wpAny (model P w) (A.deeper (envOfC qual scope s.heap.objs.size f cd)) (leaving (envOfC qual scope s.heap.objs.size f cd) e) (fun _ s''=>CX outer H s E e s'') (fun e' s''=>CX outer H s E e' s'') s'
theorem AQ {sc:Scope} {n:Nat} {x:Str} (h:sc.names.lookup x=some .cell):∃ c,(cellsFrom n sc.names []).lookup x=some c:=by
 have q:=PySem.W.cellsFrom_some sc.names n [] (.inl h)
 exact abm.mp q
theorem EG {CX:Gi} {P:Program} {w:World} {K:PySem.W.Frag} {mg:Str→Option Value} {base:Heap} {N ps:List Str} {qual:Str} {scope:Scope} {f:Addr} {cd:Value} {A:Around} {outer:List Env} {s s1:Shared} {H:Hp} {E:XK} {us:List Value} {vs:List V}
 (S:aI N ps scope) (hd:A.handled=none) (e0:IM P w K mg base A outer s H) (hl:vs.length=ps.length) (r:Vals vs us)
 (x:InCallC s s.heap.objs.size (bindL (envOfC qual scope s.heap.objs.size f cd).kindOf (ps.zip us) fun _=>none) (cellsFrom (s.heap.objs.size+1) scope.names []) (bindC (envOfC qual scope s.heap.objs.size f cd).kindOf (ps.zip us) fun _=>none) s1) :
 Inv (tQ CX P w K mg base N qual scope f cd A outer s H E) [] (start N vs) H s1:=by
 have hpl:ps.length≤N.length:=by have:=congrArg List.length S.pre;rw [ZO] at this;omega
 obtain ⟨h1,tk,rfl,hk⟩:=x.done
 have Od:∀ b:Addr,b∉(tQ CX P w K mg base N qual scope f cd A outer s H E).ex:=fun b z=>absurd (show b∈([]:List Addr) from z) (by simp)
 refine ⟨⟨e0.mod,S.kind,rfl,rfl,Zb _,fun y z c h1 h2=>?_,fun y hy=>?_,fun y c _ h=>?_,fun _=>hd,Around.frames_deeper e0.frames,.inr ⟨rfl,rfl⟩,fun b z=>absurd z (Od b),e0.bs,e0.Kw,fun b _ _=>Od b,fun b z=>absurd z (Od b),e0.tO,e0.Lc⟩,
  rfl,e0.bare,Un.kept hk,⟨_,x.toInCall.ns,fun i y v h1 h2 h3=>?_⟩,fun y c h=>⟨_,x.cell y c h⟩,e0.hok.fresh (Zb _),fun y c h=>?_,fun p hp=>absurd (show p∈([]:List (Addr ×Obj)) from hp) (by simp),e0.hok.kept hk,?_⟩
 ·exact name_of_addr x.apart (PySem.mem_of_lookup h1) (PySem.mem_of_lookup h2)
 ·have hy:scope.names.lookup y=some .cell∨scope.names.lookup y=some .free:=hy
  rcases hy with hy | hy
  ·exact AQ hy
  ·exact absurd rfl (S.LF _ (PySem.mem_of_lookup hy))
 ·exact aaK (x.above y c (PySem.mem_of_lookup h))
 ·have hi:i < vs.length:=by
   unfold start at h2
   by_cases hi:i < vs.length
   ·exact hi
   ·rw [aav (by simpa using hi)] at h2
    rw [abr] at h2
    split at h2 <;> cases h2
  have ha:vs[i]?=some v:=by
   unfold start at h2
   rw [aax (by simpa using hi),ZI] at h2
   cases e:vs[i]? with
   | none=>rw [e] at h2;cases h2
   | some a=>rw [e] at h2;cases h2;rfl
  obtain ⟨u,hu,rv⟩:=r.get ha
  have hp:ps[i]?=some y:=by
   rw [← S.pre,aaT (by omega)];exact h1
  have S8:ps.Nodup:=by rw [← S.pre];exact S.nd.sublist (aaY _ _)
  refine ⟨u,rv,?_⟩
  rcases S.par y (Y9 hp) with k | k
  ·exact .inl ⟨k,ye S8 hp hu k⟩
  ·obtain ⟨c,e⟩:=AQ (n:=s.heap.objs.size+1) k
   refine .inr ⟨.inl k,c,e,?_⟩
   have q:=x.cell y c e
   rw [yf S8 hp hu (by show scope.names.lookup y≠_;rw [k];decide)] at q
   exact q
 ·exact e0.hok.fresh (aaK (x.above y c (PySem.mem_of_lookup h)))
 ·unfold start
  show _=N.length
  rw [Zh,Y4,List.length_replicate]
  omega
theorem Oe {CX:Gi} {P:Program} {w:World} {K:PySem.W.Frag} {mg:Str→Option Value} {base:Heap} {k:Nat} {f:Addr} {name qual:Str} {params:Arguments} {body:List Stmt} {scope:Scope} {dV kV doc pm cdv ct oc:Value} {an od:Option Addr}
 {osl:Array (Option Value)} {N ps:List Str} {sp:Sp} (lk:K.lookup f=some ⟨oc,od,.func (PySem.W.fnOf name qual params body scope dV kV doc pm an cdv ct),osl⟩) (hcd:PySem.W.codeIn K cdv qual=true) (S:aI N ps scope)
 (len:∀ vs H Q E,sp vs H Q E→vs.length=ps.length)
 (hbody:∀ (A:Around) (outer:List Env) (s:Shared) (H:Hp) (vs:List V) (Q:VK) (E:XK),jJ k (A.deeper (envOfC qual scope s.heap.objs.size f cdv))→sp vs H Q E→
  ∃ t,B8 (tQ CX P w K mg base N qual scope f cdv A outer s H E) body t∧t { nx:=fun _ H'=>Q .bJ H',rt:=Q } (start N vs) H) :
 bS P w K mg base CX (k+1) f (PySem.W.fnOf name qual params body scope dV kV doc pm an cdv ct) ps sp:=by
 refine ⟨len,fun A outer s H args us vs Q E hr e0 hb r AR=>?_⟩
 have hl:=len _ _ _ _ AR
 have KX:K.In s.heap:=e0.mod.Kv.keeps fun b o e=>(e0.bs b o e).1
 have lim:s.heap.NoLimit:=e0.mod.nolimit.keeps fun b o e=>(e0.bs b o e).1
 have hkind:∀ y∈ps.zip us,scope.names.lookup y.1=some .local∨(scope.names.lookup y.1=some .cell∧((cellsFrom (s.heap.objs.size+1) scope.names []).lookup y.1).isSome=true):=fun ⟨n,v⟩ hy=>by
  rcases S.par n (abz hy).1 with q | q
  ·exact .inl q
  ·exact .inr ⟨q,PySem.W.cellsFrom_some _ _ _ (.inl q)⟩
 refine codeAny_call_function hr.depth (KX _ _ lk) rfl S.co S.gen rfl (PySem.W.codeRec_of KX hcd) (hb _ _ _ _ ?_)
 refine wpAny_newFunctionEnv_cells S.kind hkind fun env he s1 x=>?_
 subst he
 refine ⟨lim.keeps x.toInCall.keep,codeAny_func ?_⟩
 obtain ⟨t,ht,hq⟩:=hbody A outer s H vs Q E (hr.deeper _) AR
 have I:Inv (tQ CX P w K mg base N qual scope f cdv A outer s H E) [] (start N vs) H s1:=EG S hr.hd e0 hl r x
 refine wpAny_mono (ht [] s1 (start N vs) H _ I hq) (fun fl s' hs=>?_) fun e s' hs=>hs
 have fin:∀ {σ':St} {H':Hp} {v:V} {u:Value},Inv (tQ CX P w K mg base N qual scope f cdv A outer s H E) [] σ' H' s'→RelV v u→Q v H'→CE outer P w H s Q u s':=
  fun {σ' H' v u} J rv q=>⟨v,H',J.os,J.bare,J.base,J.hok,rv,q⟩
 cases fl with
 | ret u=>
   obtain ⟨v,σ',H',J,rv,q⟩:=hs
   exact fin J rv q
 | next=>
   obtain ⟨σ',H',J,q⟩:=hs
   exact fin (v:=V.bJ) (u:=Value.none) J rfl q
 | brk=>
   obtain ⟨_,_,_,q⟩:=hs
   exact False.elim q
 | cont=>
   obtain ⟨_,_,_,q⟩:=hs
   exact False.elim q
end L2
namespace L2
open PySem PySem.Spec PyProof.Rows
section
variable {X:Cx} {x:Str} {p pos:Pos} {e:Expr} {es:List Expr} {t:TA} {id T:String} {r:List V→Hp→VK→Prop}
end
end L2
namespace HT
open PySem PyProof.Rows
def lexLt:List Int→List Int→Bool
 | [],[]=>false
 | [],_ :: _=>true
 | _ :: _,[]=>false
 | x :: xs,y :: ys=>if x=y then lexLt xs ys else decide (x < y)
theorem lE (x y:Int) (xs ys:List Int):lexLt (x :: xs) (y :: ys)=if x=y then lexLt xs ys else decide (x < y):=rfl
theorem jK:lexLt [] []=false:=rfl
theorem nK (y:Int) (ys:List Int):lexLt [] (y :: ys)=true:=rfl
theorem nL (x:Int) (xs:List Int):lexLt (x :: xs) []=false:=rfl
theorem AS (A:Around) (s:Shared) (a:Int) (t:Tok) (c:Int) (u:Tok):∃ e,SeqAt.EqAt A s (.int a t) (.int c u) e∧(e=true↔a=c):=
 ⟨(a == c),SeqAt.EqAt.int_int a t c u,by simp⟩
theorem Gj (A:Around) (s:Shared) (a:Int) (t:Tok) (c:Int) (u:Tok) (prog:Program) (w:World) (E:Value→Shared→Prop) (Q:Value→Shared→Prop) (h:Q (.bool (decide (a < c))) s) :
 wpAny (model prog w) A (richCompare .Lt (.int a t) (.int c u)) Q E s:=
 (PyProof.Rows.lt_int h:wpAny (model prog w) A (compareOp .Lt (.int a t) (.int c u)) Q E s)
section
open PySem.SeqAt
open PySem.AutoSeq1 (wpAny_loadPart')
open PySem.MeetsSeq PySem.MeetsSeq2 PySem.MeetsSeq3
theorem wN (l b:Addr) (items items2:Array Value) (n n2:Nat) (dd dd2:Option Addr) (sl sl2:Array (Option Value)) (ns ms:List Int) (hi:IntsAre items.toList ns) (hj:IntsAre items2.toList ms) :
 Meets (Builtin.«tuple.__lt__» ⟨[.ref l,.ref b],[]⟩)
  (fun _ R s=>s.heap.get? l=some { cls:= .type "tuple",dict:=dd,data:= .seq items n,slots:=sl }∧s.heap.get? b=some { cls:= .type "tuple",dict:=dd2,data:= .seq items2 n2,slots:=sl2 }∧
   R (.ok (.ret (.bool (lexLt ns ms)))) s):=
 .of_wp fun prog w A R s h=>by
  obtain ⟨hp,g,d,tk,os⟩:=s;obtain ⟨hl,hb,h⟩:=h
  have f2:=AutoSeq1.sub_tuple_tuple
  have z1:items.size=ns.length:=by rw [← hi.length];simp
  have z2:items2.size=ms.length:=by rw [← hj.length];simp
  wp_walk using wpAny_loadPart' hl,wpAny_loadPart' hb,wpAny_forIn_list _ (fun rest b s'=>b.1=none∧s'= ⟨hp,g,d,tk,os⟩∧∃ (vs ws:List Value) (ns' ms':List Int),rest=vs.zip ws∧
   IntsAre vs ns'∧IntsAre ws ms'∧ns'.length+items2.size=ms'.length+items.size∧R (.ok (.ret (.bool (lexLt ns' ms')))) ⟨hp,g,d,tk,os⟩) _
  case turn=>
   rintro ⟨y,x⟩ rest b s' ⟨hb',rfl,vs,ws,ns',ms',hz,Gk,hwi,hlen,hR⟩
   cases Gk with
   | nil=>rw [abg] at hz;cases hz
   | cons a t Gm=>
     cases hwi with
     | nil=>rw [aau] at hz;cases hz
     | cons c u Gn=>
       rw [Z6] at hz
       injection hz with hyx hrest
       injection hyx with hy hx
       subst hy hx
       rw [lE] at hR
       simp only [Zj] at hlen
       obtain ⟨e,he,hiff⟩:=AS A.in1 ⟨hp,g,d,tk,os⟩ a t c u
       refine wpAny_bind (he prog w _ _ ?_)
       cases e with
       | true=>
         rw [if_pos (hiff.mp rfl)] at hR
         wp_walk
         exact ⟨rfl,rfl,_,_,_,_,hrest,Gm,Gn,by omega,hR⟩
       | false=>
         rw [if_neg (fun q=>absurd (hiff.mpr q) Zg)] at hR
         have Of:=Gj A.in1 ⟨hp,g,d,tk,os⟩ a t c u prog w
         wp_walk using Of
         exact ⟨_,rfl,by simpa using hR⟩
  case fin=>
   rintro ⟨b1,b2⟩ s' ⟨hb',rfl,vs,ws,ns',ms',hz,Gk,hwi,hlen,hR⟩
   simp only at hb'
   subst hb'
   have hv:lexLt ns' ms'=decide (items.size < items2.size):=by
    cases Gk with
    | nil=>
      cases hwi with
      | nil=>
        simp only [aaf] at hlen
        rw [jK]
        exact (decide_eq_false (by omega)).symm
      | cons c u hw=>
        simp only [aaf,Zj] at hlen
        rw [nK]
        exact (decide_eq_true (by omega)).symm
    | cons a t hv=>
      cases hwi with
      | nil=>
        simp only [aaf,Zj] at hlen
        rw [nL]
        exact (decide_eq_false (by omega)).symm
      | cons c u hw=>
        rw [Z6] at hz
        cases hz
   rw [hv] at hR
   wp_walk
   exact ⟨_,rfl,by simpa [Builtin.Tuple.tupleCompareSizes] using hR⟩
  case h=>
   exact ⟨rfl,rfl,items.toList,items2.toList,ns,ms,rfl,hi,hj,by omega,h⟩
end
section
variable {prog:Program} {w:World} {A:Around} {E:Value→Shared→Prop} {s:Shared}
theorem gu {l b:Addr} {items items2:Array Value} {ns ms:List Int} {Q:Value→Shared→Prop} (hl:IsTup s.heap l items) (hb:IsTup s.heap b items2) (hi:IntsAre items.toList ns) (hj:IntsAre items2.toList ms)
 (hu:A.units < cLine) (h:Q (.bool (lexLt ns ms)) s):wpAny (model prog w) A (compareOp .Lt (.ref l) (.ref b)) Q E s:=by
 obtain ⟨⟨cls,dd,data,sl⟩,ho,hc,n,hd⟩:=id hl
 obtain ⟨⟨LG,dd2,data2,sl2⟩,ho2,hc2,n2,hd2⟩:=id hb
 simp only at hc hd hc2 hd2
 subst hc hd hc2 hd2
 exact richCompare_meets_room (op:= .Lt) ⟨_,ho,rfl⟩ ⟨_,ho2,rfl⟩ PySem.F.slot_tuple_lt PySem.F.entry_tuple_lt (PySem.F.args_tuple_lt_2 _ _) (wN l b items items2 n n2 dd dd2 sl sl2 ns ms hi hj)
  ⟨ho,ho2,show Value.bool (lexLt ns ms)≠Value.notImplemented∧Q (.bool (lexLt ns ms)) s from ⟨(fun x=>nomatch x),h⟩⟩ hu
def sV (n d:Nat):Option Int→Nat
 | none=>d
 | some v=>if v < 0 then (v+(n:Int)).toNat else min v.toNat n
theorem AU (n d:Nat):sV n d none=d:=rfl
theorem Ds (n d k:Nat):sV n d (some (k:Int))=min k n:=by
 show (if (k:Int) < 0 then ((k:Int)+(n:Int)).toNat else min (k:Int).toNat n)=min k n
 rw [if_neg (by omega),abh]
end
end HT
namespace L2
open PySem PySem.Spec PyProof.Rows
abbrev TO:=St→Hp→(Option Int→Hp→Prop)→Prop
def PO (X:Cx) (e:Option Expr) (t:TO):Prop:=
 ∀ (pins:List (Addr ×Obj)) (s:Shared) (σ:St) (H:Hp) (Q:Option Int→Hp→Prop),Inv X pins σ H s→t σ H Q→
   wpAny (model X.prog X.w) X.A (evalPart e X.env) (fun u s'=> ∃ o H',Inv X pins σ H' s'∧IsPart u o∧Q o H') X.xe s
def Dt:TO:=fun _ H Q=>Q none H
def Kz (t:TE):TO:=fun σ H Q=>t σ H fun x H1=> ∃ i,x= .int i∧Q (some i) H1
theorem intsAre_of {ns:List Int}:∀ {us:List Value},Vals (ns.map V.int) us→IntsAre us ns:=by
 induction ns with
 | nil=>intro us r;rw [List.map_nil] at r;cases r;exact .nil
 | cons n ns ih=>
   intro us r
   rw [ZK] at r
   cases r with
   | cons r1 r2=>
     obtain ⟨t,e⟩:=r1
     subst e
     exact .cons n t (ih r2)
section
variable {X:Cx} {e:Expr} {te:TE} {lo hi:Option Expr} {tl th:TO} {pos p2:Pos}
theorem IP:PO X none Dt:=by
 intro pins s σ H Q I h
 rw [evalPart_none]
 exact wpAny_pure ⟨none,H,I,.none,h⟩
theorem IQ (h:PE X e te):PO X (some e) (Kz te):=by
 intro pins s σ H Q I hw
 rw [evalPart_some]
 refine dW (h pins s σ H _ I hw) fun u s1 ⟨x,H1,I1,r1,q1⟩=>?_
 obtain ⟨i,rfl,q⟩:=q1
 obtain ⟨t,rfl⟩:=r1
 exact ⟨some i,H1,I1,.int i t,q⟩
def S9 (X:Cx) (r:V→Option Int→Option Int→Hp→VK→Prop):Prop:=
 ∀ (pins:List (Addr ×Obj)) (s:Shared) (σ:St) (H:Hp) (x:V) (v vl vu:Value) (lo hi:Option Int) (sl:Addr) (Q:VK),Inv X pins σ H s→RelV x v→s.heap.IsSliceOf sl vl vu .none→IsPart vl lo→IsPart vu hi→r x lo hi H Q→
   ∃ T id,typeLookup (.type T) "__getitem__" =pure (some (.builtin id))∧s.TypeIs v T∧wpAny (model X.prog X.w) X.A (getItem v (.ref sl)) (EP X pins σ Q) X.xe s
def UI (r:V→Option Int→Option Int→Hp→VK→Prop) (te:TE) (tl th:TO):TE:=fun σ H Q=>te σ H fun x H1=>tl σ H1 fun l H2=>th σ H2 fun u H3=>r x l u H3 Q
theorem Gp {r:V→Option Int→Option Int→Hp→VK→Prop} (hr:S9 X r) (he:PE X e te) (hl:PO X lo tl) (hu:PO X hi th):PE X (.Subscript e (.Slice lo hi none p2) pos) (UI r te tl th):=by
 intro pins s σ H Q I h
 refine Subscript_ (dW (he pins s σ H _ I h) fun v s1 ⟨x,H1,I1,r1,q1⟩=>?_)
 refine wpAny_Slice (dW (hl pins s1 σ H1 _ I1 q1) fun vl s2 ⟨l,H2,I2,pl,q2⟩=>dW (hu pins s2 σ H2 _ I2 q2) fun vu s3 ⟨u,H3,I3,pu,q3⟩=>?_)
 rw [evalPart_none]
 refine wpAny_pure ?_
 have I4:Inv X pins σ H3 { s3 with heap:=s3.heap.push { cls:= .type "slice",data:= .fields #[vl,vu,.none] } }:=I3.kept (t':=s3.toks) fun b ob q=>Heap.get?_push_of_some _ q
 obtain ⟨T,id,hT,ht,hg⟩:=hr pins { s3 with heap:=s3.heap.push { cls:= .type "slice",data:= .fields #[vl,vu,.none] } } σ H3 x v vl vu l u s3.heap.objs.size Q I4 r1 (Heap.IsSliceOf.new ..) pl pu q3
 show wpAny (model X.prog X.w) X.A (subscriptTail e (.Slice lo hi none p2) v (.ref s3.heap.objs.size)) (EP X pins σ Q) X.xe { s3 with heap:=s3.heap.push { cls:= .type "slice",data:= .fields #[vl,vu,.none] } }
 exact tail_any (ops:=[.ref s3.heap.objs.size,v]) ht hT hg (by with_unfolding_all rfl)
def IS (xs:List V) (lo hi:Option Int):List V:=(xs.drop (HT.sV xs.length 0 lo)).take (HT.sV xs.length xs.length hi - HT.sV xs.length 0 lo)
theorem AV (xs:List V) (lo hi:Option Int):(IS xs lo hi).length≤xs.length:=by
 unfold IS
 rw [ZO,aah]
 omega
def Og (K:PySem.W.Frag):R2:=fun x y H Q=> ∃ a b ns ms,x= .ref a∧y= .ref b∧wK K H a (ns.map V.int)∧wK K H b (ms.map V.int)∧Q (.bl (HT.lexLt ns ms)) H
end
end L2
namespace L2
open PySem PySem.Spec PyProof.Rows
def FL (n:Nat) (i:Int):Option Nat:=if 0≤i then (if i < n then some i.toNat else none) else if -(n:Int)≤i then some (i+n).toNat else none
def uF {α:Type} (xs:List α) (i:Int):Option α:=(FL xs.length i).bind fun j=>xs[j]?
theorem IT {n:Nat} {i:Int} {j:Nat} (h:FL n i=some j):seqIndex? i n=some j∧j < n∧ -(n:Int)≤i∧i < n:=by
 unfold FL at h
 by_cases h0:0≤i
 ·rw [if_pos h0] at h
  by_cases h1:i < n
  ·rw [if_pos h1] at h
   have e:i.toNat=j:=Option.some.inj h
   exact ⟨by rw [seqIndex_of h0 h1,e],by omega,by omega,h1⟩
  ·rw [if_neg h1] at h;cases h
 ·rw [if_neg h0] at h
  by_cases h1: -(n:Int)≤i
  ·rw [if_pos h1] at h
   have e:(i+n).toNat=j:=Option.some.inj h
   exact ⟨by rw [seqIndex_neg (by omega) h1,e],by omega,h1,by omega⟩
  ·rw [if_neg h1] at h;cases h
theorem Du {α:Type} {xs:List α} {i:Int} {v:α} (h:uF xs i=some v):∃ j,seqIndex? i xs.length=some j∧xs[j]?=some v∧j < xs.length∧ -(xs.length:Int)≤i∧i < xs.length:=by
 unfold uF at h
 cases e:FL xs.length i with
 | none=>rw [e] at h;cases h
 | some j=>
   rw [e] at h
   obtain ⟨h1,h2,h3,h4⟩:=IT e
   exact ⟨j,h1,h,h2,h3,h4⟩
theorem bU {α:Type} {xs:List α} {j:Nat} {v:α} (h:xs[j]?=some v):uF xs (j:Int)=some v:=by
 have hj:j < xs.length:=(Ze.mp h).1
 have e:FL xs.length (j:Int)=some j:=by
  unfold FL
  rw [if_pos (by omega),if_pos (by omega)];simp
 unfold uF;rw [e];exact h
theorem Gq {α:Type} (xs:List α) (v:α):uF (xs ++ [v]) (-1)=some v:=by
 have hl:(xs ++ [v]).length=xs.length+1:=by simp
 have e:FL (xs ++ [v]).length (-1)=some xs.length:=by
  unfold FL
  rw [hl,if_neg (by decide),if_pos (by omega)]
  congr 1
  omega
 unfold uF
 rw [e]
 show (xs ++ [v])[xs.length]?=some v
 simp
def Dv (b:Expr):Prop:= ∀ o i,subscripted b false o i=operate [o,i] (getItem o i)
def LH (X:Cx) (r:R2):Prop:=
 ∀ (value slice:Expr) (pins:List (Addr ×Obj)) (s:Shared) (σ:St) (H:Hp) (x y:V) (v u:Value) (Q:VK),Inv X pins σ H s→RelV x v→RelV y u→r x y H Q→
   subscripted slice false v u=operate [v,u] (getItem v u)→wpAny (model X.prog X.w) X.A (subscriptTail value slice v u) (EP X pins σ Q) X.xe s
def Tc (X:Cx) (id:String) (r:V→List V→Hp→VK→Prop):Prop:=
 ∀ (pins:List (Addr ×Obj)) (s:Shared) (σ:St) (H:Hp) (x:V) (xs:List V) (v:Value) (us:List Value) (Q:VK),Inv X pins σ H s→RelV x v→Vals xs us→r x xs H Q→
   wpAny (model X.prog X.w) X.A (call (.builtin id) (v :: us)) (EP X pins σ Q) X.xe s
section
variable {X:Cx} {a b:Expr} {ta tb:TE} {pos:Pos}
theorem LH.or {r r':R2} (h:LH X r) (h':LH X r'):LH X (fun x y H Q=>r x y H Q∨r' x y H Q):=by
 intro value slice pins s σ H x y v u Q I rx ry q hs
 rcases q with q | q
 ·exact h value slice pins s σ H x y v u Q I rx ry q hs
 ·exact h' value slice pins s σ H x y v u Q I rx ry q hs
theorem Oh {r:R2} (hr:LH X r) (ha:PE X a ta) (hb:PE X b tb) (hs:Dv b):PE X (.Subscript a b pos) (UC r ta tb):=by
 intro pins s σ H Q I h
 exact Subscript_ (Rb ha hb I h fun v u s2 x y H2 I2 rx ry q=>hr a b pins s2 σ H2 x y v u Q I2 rx ry q (hs _ _))
def Rj (K:PySem.W.Frag):R2:=fun x y H Q=> ∃ p xs i v,x= .ref p∧y= .int i∧iD K H p xs∧uF xs i=some v∧Q v H
def Rk (K:PySem.W.Frag):R2:=fun x y H Q=> ∃ p xs i v,x= .ref p∧y= .int i∧wK K H p xs∧uF xs i=some v∧Q v H
theorem IU:LH X (Rj X.K):=by
 intro value slice pins s σ H x y v u Q I rx ry h hs
 obtain ⟨p,xs,i,z,rfl,rfl,hq,he,q⟩:=h
 cases rx
 obtain ⟨t,rfl⟩:=ry
 obtain ⟨its,r,pl,hz⟩:=I.list hq
 obtain ⟨j,h1,h2,h3,h4,h5⟩:=Du he
 obtain ⟨w,ew,rw'⟩:=r.get h2
 have hl:=r.length
 have hn:=Cc
 have fin:EP X pins σ Q w s:=⟨z,H,I,rw',q⟩
 by_cases h0:0≤i
 ·have hj:i.toNat=j:=by
   rw [seqIndex_of h0 h5] at h1
   exact Option.some.inj h1
  exact item_listR pl.isList h0 (by omega) (by rw [hj];simpa using ew) fin hs
 ·have hj:(i+(its.toArray.size:Int)).toNat=j:=by
   rw [seqIndex_neg (by omega) h4] at h1
   rw [Za,← hl]
   exact Option.some.inj h1
  exact subscriptTail_builtinR (x:=w) pl.isList.typeIs slot_list_getitem.lookup
   (wpAny_getItem_list_neg (Q:=fun r s'=>r=w∧EP X pins σ Q r s') pl.isList (by omega) (by rw [Za] <;> omega) (by omega) (by rw [hj];simpa using ew) ⟨rfl,fin⟩) hs
theorem LI:LH X (Rk X.K):=by
 intro value slice pins s σ H x y v u Q I rx ry h hs
 obtain ⟨p,xs,i,z,rfl,rfl,hq,he,q⟩:=h
 cases rx
 obtain ⟨t,rfl⟩:=ry
 obtain ⟨its,r,pl,hz⟩:=I.tuple hq
 obtain ⟨j,h1,h2,h3,h4,h5⟩:=Du he
 obtain ⟨w,ew,rw'⟩:=r.get h2
 have hl:=r.length
 have hn:=Cc
 have fin:EP X pins σ Q w s:=⟨z,H,I,rw',q⟩
 exact subscriptTail_builtinR (x:=w) pl.typeIs slot_tuple_getitem.lookup
  (getItem_tuple (j:=j) (Q:=fun r s'=>r=w∧EP X pins σ Q r s') pl (by omega) (by omega) (by rw [Za,← hl];exact h1) (by simpa using ew) ⟨rfl,fin⟩) hs
theorem zb (lo hi:Option Int) (n:Nat):(sliceBounds lo hi none n).1=((HT.sV n 0 lo:Nat):Int)∧(sliceBounds lo hi none n).2.1=((HT.sV n n hi:Nat):Int)∧(sliceBounds lo hi none n).2.2=1:=by
 refine ⟨?_,?_,rfl⟩
 ·cases lo with
  | none=>simp [sliceBounds,HT.sV]
  | some i=>
    simp only [sliceBounds,HT.sV,abZ,show (1:Int) > 0 by decide,if_true]
    by_cases h:i < 0
    ·simp only [h,if_true] <;> omega
    ·simp only [h,if_false] <;> omega
 ·cases hi with
  | none=>simp [sliceBounds,HT.sV]
  | some i=>
    simp only [sliceBounds,HT.sV,abZ,show (1:Int) > 0 by decide,if_true]
    by_cases h:i < 0
    ·simp only [h,if_true] <;> omega
    ·simp only [h,if_false] <;> omega
theorem wO (its:List Value) (lo hi:Option Int):slicePick its.toArray lo hi none=((its.drop (HT.sV its.length 0 lo)).take (HT.sV its.length its.length hi - HT.sV its.length 0 lo)).toArray:=by
 obtain ⟨h1,h2,h3⟩:=zb lo hi its.toArray.size
 unfold slicePick
 rw [h1,h2,h3]
 simp only [sliceRange_one,pick_run,Za] <;> rfl
def Rl (K:PySem.W.Frag):V→Option Int→Option Int→Hp→VK→Prop:=fun x lo hi H Q=> ∃ a xs,x= .ref a∧iD K H a xs∧∀ p,H p=none→Q (.ref p) (upd H p (.lst (IS xs lo hi)))
theorem IV:S9 X (Rl X.K):=by
 intro pins s σ H x v vl vu lo hi sl Q I rx hs pl pu h
 obtain ⟨a,xs,rfl,hx,q⟩:=h
 cases rx
 obtain ⟨its,r,ht,hz⟩:=I.list hx
 have hlen:=r.length
 refine ⟨"list",_,slot_list_getitem.lookup,ht.isList.typeIs,?_⟩
 refine wpAny_getItem_list_slice ht.isList hs pl pu .none (by simp) ?_ (by rw [Za] <;> omega)
 rw [wO,← hlen]
 refine ⟨.ref s.heap.objs.size,_,I.laid (t':=s.toks) (o:= .lst (IS xs lo hi)) (fun b ob q=>Heap.get?_push_of_some _ q) (Zb _) ?_,rfl,q _ (I.hok.fresh (Zb _))⟩
 exact ⟨aae (AV xs lo hi) hz,_,0,(r.drop (HT.sV xs.length 0 lo)).take (HT.sV xs.length xs.length hi - HT.sV xs.length 0 lo),Heap.get?_push_size _ rfl⟩
theorem zc:Dm X (.builtin "len") (fun xs H Q=> ∃ p ys,xs= [.ref p]∧(iD X.K H p ys∨wK X.K H p ys)∧Q (.int ys.length) H):=by
 intro pins s σ H xs us Q I r h
 obtain ⟨p,ys,rfl,hq,q⟩:=h
 obtain ⟨u,rfl,rx⟩:=vals1 r
 cases rx
 have hn:=Cc
 rcases hq with hq | hq
 ·obtain ⟨its,r',pl,hz⟩:=I.list hq
  have hlen:=r'.length
  exact Calls.call_len_list pl.isList (by simp only [Za] <;> omega) ⟨.int ys.length,H,I.tok _,⟨s.toks+1,by rw [Za,hlen]⟩,q⟩
 ·obtain ⟨its,r',pl,hz⟩:=I.tuple hq
  have hlen:=r'.length
  exact len_tuple pl (by simp only [Za] <;> omega) ⟨.int ys.length,H,I.tok _,⟨s.toks+1,by rw [Za,hlen]⟩,q⟩
theorem zd:Dm X (.type "list") (fun xs H Q=> ∃ p ys,xs= [.ref p]∧(iD X.K H p ys∨wK X.K H p ys)∧∀ l,H l=none→Q (.ref l) (upd H l (.lst ys))):=by
 intro pins s σ H xs us Q I r h
 obtain ⟨p,ys,rfl,hq,q⟩:=h
 obtain ⟨u,rfl,rx⟩:=vals1 r
 cases rx
 have fin:∀ (its:List Value),Vals ys its→ys.length≤sizeLine→∀ (h':Heap) (c':Nat),(∀ b o',s.heap.get? b=some o'→h'.get? b=some o')→
  h'.get? s.heap.objs.size=some { cls:= .type "list",dict:=none,data:= .seq its.toArray c',slots:= #[] }→EP X pins σ Q (.ref s.heap.objs.size) { s with heap:=h' }:=fun its r' hz h' c' kp e=>
  ⟨.ref s.heap.objs.size,_,I.laid (t':=s.toks) kp (Zb _) (show eX X.prog X.w _ h' _ (.lst ys) from ⟨hz,its,c',r',e⟩),rfl,q _ (I.hok.fresh (Zb _))⟩
 rcases hq with hq | hq
 ·obtain ⟨its,r',pl,hz⟩:=I.list hq
  have hlen:=r'.length
  obtain ⟨o,ho,hc,n,hd⟩:=pl.isList
  exact call_list_seq p (.inl rfl) ho hc hd (fun h' c' kp e=>fin its r' hz h' c' kp e) (by simp only [Za] <;> omega)
 ·obtain ⟨its,r',pl,hz⟩:=I.tuple hq
  have hlen:=r'.length
  obtain ⟨o,ho,hc,n,hd⟩:=pl
  exact call_list_seq p (.inr rfl) ho hc hd (fun h' c' kp e=>fin its r' hz h' c' kp e) (by simp only [Za] <;> omega)
def Rm (K:PySem.W.Frag) (T:String) (x:V) (H:Hp):Prop:=match x with
 | .str _=>T= "str"
 | .int _=>T= "int"
 | .ref p=>(T= "list"∧∃ xs,iD K H p xs)∨(T= "tuple"∧∃ o,K.lookup p=some o∧o.cls= .type "tuple"∧o.dict=none)∨
  (T= "dict"∧((∃ kvs,H p=some (.dK kvs))∨∃ kvs,H p=some (.dT kvs)))∨(T= "set"∧∃ S n,H p=some (.set S n))
 | _=>False
theorem Gr {pins:List (Addr ×Obj)} {σ:St} {H:Hp} {s:Shared} {T:String} {x:V} {v:Value} (I:Inv X pins σ H s) (r:RelV x v) (ty:Rm X.K T x H) :
 s.TypeIs v T∧∀ a,v= .ref a→∃ ob,s.heap.get? a=some ob∧ob.dict=none:=by
 cases x with
 | str z=>
   obtain ⟨t,rfl⟩:=r
   cases (show T= "str" from ty)
   exact ⟨typeIs_str s z t,fun _ e=>nomatch e⟩
 | int i=>
   obtain ⟨t,rfl⟩:=r
   cases (show T= "int" from ty)
   exact ⟨typeIs_int s i t,fun _ e=>nomatch e⟩
 | ref p=>
   cases r
   rcases ty with ⟨rfl,xs,hq⟩ | ⟨rfl,o,hk,hc,hd⟩ | ⟨rfl,hk⟩ | ⟨rfl,S,n,hk⟩
   ·obtain ⟨its,_,pl,_⟩:=I.list hq
    refine ⟨pl.isList.typeIs,fun a e=>?_⟩
    cases e
    obtain ⟨o,n,e,c,hd,_⟩:=pl
    exact ⟨o,e,hd⟩
   ·refine ⟨⟨o,I.AG p o hk,hc⟩,fun a e=>?_⟩
    cases e
    exact ⟨o,I.AG _ o hk,hd⟩
   ·have z:∃ o,s.heap.get? p=some o∧o.ExactDict:=by
     rcases hk with ⟨kvs,hk⟩ | ⟨kvs,hk⟩
     ·obtain ⟨_,_,_,_,o,_,_,e,ex,_⟩:=I.hok p _ hk
      exact ⟨o,e,ex⟩
     ·obtain ⟨_,_,_,_,o,_,_,e,ex,_⟩:=I.hok p _ hk
      exact ⟨o,e,ex⟩
    obtain ⟨o,e,ex⟩:=z
    refine ⟨⟨o,e,ex.1⟩,fun a e2=>?_⟩
    cases e2
    exact ⟨o,e,ex.2.1⟩
   ·obtain ⟨o,_,_,_,e,ex,_⟩:=I.hok p _ hk
    refine ⟨⟨o,e,ex.1⟩,fun a e2=>?_⟩
    cases e2
    exact ⟨o,e,ex.2.1⟩
 | _=>exact False.elim ty
def Oi (K:PySem.W.Frag) (T:String) (r:V→List V→Hp→VK→Prop) (to:TE):TE:=fun σ H Q=>to σ H fun x H1=>Rm K T x H1∧r x [] H1 Q
def Oj (K:PySem.W.Frag) (T:String) (r:V→List V→Hp→VK→Prop) (to:TE) (t:TA):TE:=fun σ H Q=>to σ H fun x H1=>Rm K T x H1∧t σ H1 fun xs H2=>r x xs H2 Q
variable {o e:Expr} {es:List Expr} {to:TE} {t:TA} {name:Str} {apos cpos:Pos} {T id:String} {r:V→List V→Hp→VK→Prop}
theorem LJ (pa:PlainAttrs T) (slot:Slot T name id) (hty:typeOf (.builtin id)=pure (.type "method_descriptor")) (hm:Tc X id r) (ho:PE X o to)
 (hbase:attributeBase o name X.env (eval o X.env)=eval o X.env:=by rfl) (hline:(apos.endLine == cpos.line)=true:=by rfl):PE X (.Call (.Attribute o name apos) [] [] cpos) (Oi X.K T r to):=by
 intro pins s σ H Q I h
 refine wpAny_Call_method0_late hbase hline (dW (ho pins s σ H _ I h) fun v s1 ⟨x,H1,I1,r1,ty,q1⟩=>?_)
 obtain ⟨h1,h2⟩:=Gr I1 r1 ty
 exact ⟨T,id,pa,slot,hty,h1,h2,Calls.callWith_builtin rfl (PySem.evalArgs_none (hm pins s1 σ H1 x [] v [] Q I1 r1 .nil q1))⟩
theorem sW (pa:PlainAttrs T) (slot:Slot T name id) (hty:typeOf (.builtin id)=pure (.type "method_descriptor")) (hm:Tc X id r) (ho:PE X o to) (ha:PA X (e :: es) t)
 (hbase:attributeBase o name X.env (eval o X.env)=eval o X.env:=by rfl)
 (hfew:((backTo cpos (starEach (e :: es) X.env)).all (fun x=>!x.1) && (backToKw cpos (keywordEach [] X.env)).all (fun x=>x.1.isSome)
  && decide ((e :: es).length+([]:List Keyword).length+(if ([]:List Keyword).isEmpty then 0 else 1) < 30))=true:=by rfl)
 (hline:(apos.endLine == cpos.line)=true:=by rfl) (hs:starEach (e :: es) X.env=(false,eval e X.env) :: starEach es X.env:=by rfl) (hplain:(backTo cpos (starEach es X.env)).any (·.1)=false:=by rfl) :
 PE X (.Call (.Attribute o name apos) (e :: es) [] cpos) (Oj X.K T r to t):=by
 intro pins s σ H Q I h
 refine wpAny_Call_method_late hbase hfew hline rfl (dW (ho pins s σ H _ I h) fun v s1 ⟨x,H1,I1,r1,ty,q1⟩=>?_)
 obtain ⟨h1,h2⟩:=Gr I1 r1 ty
 refine ⟨T,id,pa,slot,hty,h1,h2,?_⟩
 have hA:=ha cpos pins s1 σ H1 _ I1 q1
 rw [hs] at hA ⊢
 refine Calls.callWith_builtin (by show (false || (backTo cpos (starEach es X.env)).any (·.1))=false;rw [hplain] <;> rfl) (Calls.evalArgs_plain ?_)
 exact dW hA fun us s2 ⟨vs,H2,I2,r2,q2⟩=>hm pins s2 σ H2 x vs v us Q I2 r1 r2 q2
end
end L2
namespace L2
open PySem PySem.Spec PyProof.Rows
def Ol (X:Cx) (id:String) (r:V→List V→Hp→VK→Prop):Prop:=
 ∀ (pins:List (Addr ×Obj)) (s:Shared) (σ:St) (H:Hp) (x:V) (xs:List V) (v:Value) (us:List Value) (Q:VK),Inv X pins σ H s→RelV x v→Vals xs us→r x xs H Q→
   wpAny (model X.prog X.w) X.A (call (.builtin id) (v :: us)) (EP X pins σ Q) X.xe s
theorem Vals.one:∀ {x:V} {us:List Value},Vals [x] us→∃ u,us= [u]∧RelV x u
 | _,_,.cons r .nil=>⟨_,rfl,r⟩
theorem Vals.zero:∀ {us:List Value},Vals [] us→us= []
 | _,.nil=>rfl
theorem Vals.dropLast {xs:List V} {us:List Value} (h:Vals xs us):Vals xs.dropLast us.dropLast:=by
 induction h with
 | nil=>exact .nil
 | cons r t ih=>
   cases t with
   | nil=>exact .nil
   | cons q t'=>exact .cons r ih
theorem Cd {α:Type} (l:List α):l.eraseIdx (l.length - 1)=l.dropLast:=by
 induction l with
 | nil=>rfl
 | cons a r ih=>
   cases r with
   | nil=>rfl
   | cons b r=>
     have e:(a :: b :: r).length - 1=((b :: r).length - 1)+1:=by
      have h1:(a :: b :: r).length=r.length+2:=rfl
      have h2:(b :: r).length=r.length+1:=rfl
      omega
     rw [e,List.eraseIdx_cons_succ,ih]
     all_goals rfl
section
variable {X:Cx} {pins:List (Addr ×Obj)} {σ:St} {H:Hp} {s:Shared} {l b:Addr} {xs ys zs:List V}
theorem Inv.IW {its its':List Value} {n:Nat} {f:Array Value→Array Value} {t':Nat} (I:Inv X pins σ H s) (hH:H l=some (.lst xs))
 (e:s.heap.get? l=some { cls:= .type "list",data:= .seq its.toArray n }) (hf:f its.toArray=its'.toArray) (hv:Vals ys its') (hz:ys.length≤sizeLine) :
 Inv X pins σ (upd H l (.lst ys)) { s with heap:=s.heap.update l (Obj.mapSeq f),toks:=t' }:=by
 have q:=PySem.IsL.update e f
 rw [hf] at q
 refine I.write (x:=l) (e:=l) (by rw [hH];exact trivial) (.inl rfl) (fun b' u hb hu=>(Heap.get?_update_other s.heap (Obj.mapSeq f) (Ne.symm hb)).trans hu) ⟨_,q⟩ ?_
 exact ⟨hz,its',_,hv,q⟩
theorem Inv.Rn {its:List Value} {t':Nat} (I:Inv X pins σ H s) (hv:Vals ys its) (hz:ys.length≤sizeLine) :
 Inv X pins σ (upd H s.heap.objs.size (.lst ys)) { s with heap:=s.heap.push { cls:= .type "list",data:= .seq its.toArray },toks:=t' }:=
 I.laid (fun _ _ q=>Heap.get?_push_of_some _ q) (Zb _) ⟨hz,its,0,hv,Heap.get?_push_size _ rfl⟩
theorem Inv.fresh (I:Inv X pins σ H s):H s.heap.objs.size=none:=I.hok.fresh (Zb _)
theorem Inv.AW (I:Inv X pins σ H s) (hH:H l=some (.lst xs)):xs.length≤sizeLine∧∃ (its:List Value) (n:Nat),Vals xs its∧xs.length=its.length∧s.heap.get? l=some { cls:= .type "list",data:= .seq its.toArray n }:=by
 obtain ⟨z,its,n,r,e⟩:=I.hok l _ hH
 exact ⟨z,its,n,r,r.length,e⟩
theorem AX {n:Nat} (h:n≤sizeLine):Builtin.List.listTooLong n=false:=by
 unfold Builtin.List.listTooLong
 exact decide_eq_false (by omega)
end
section
variable {X:Cx}
def Dw:V→List V→Hp→VK→Prop:=fun x vs H Q=> ∃ l xs y,x= .ref l∧vs= [y]∧H l=some (.lst xs)∧xs.length < sizeLine∧Q .bJ (upd H l (.lst (xs ++ [y])))
theorem kF:Ol X "list.append" Dw:=by
 intro pins s σ H x vs v us Q I rx rv h
 obtain ⟨l,xs,y,rfl,rfl,hH,hz,q⟩:=h
 cases rx
 obtain ⟨u,rfl,ru⟩:=rv.one
 obtain ⟨z,its,n,r,hl,e⟩:=I.AW hH
 refine call_meets F.slot_list_append ⟨_,e,rfl⟩ F.entry_list_append (F.args_list_append_2 _ _) (PySem.list_append l its.toArray n u (by rw [Za];omega)) ⟨e,?_⟩
 refine ⟨.bJ,_,I.IW (its':=its ++ [u]) hH e (by simp) (r.append (.cons ru .nil)) ?_,rfl,q⟩
 rw [Zh,abH]
 omega
def Dy:V→List V→Hp→VK→Prop:=fun x vs H Q=> ∃ l b xs zs,x= .ref l∧vs= [.ref b]∧H l=some (.lst xs)∧H b=some (.lst zs)∧xs.length+zs.length≤sizeLine∧Q .bJ (upd H l (.lst (xs ++ zs)))
theorem yg:Ol X "list.extend" Dy:=by
 intro pins s σ H x vs v us Q I rx rv h
 obtain ⟨l,b,xs,zs,rfl,rfl,hH,hB,hz,q⟩:=h
 cases rx
 obtain ⟨u,rfl,ru⟩:=rv.one
 cases ru
 obtain ⟨z,its,n,r,hl,e⟩:=I.AW hH
 obtain ⟨z2,its2,n2,r2,hl2,e2⟩:=I.AW hB
 have hsz:its.toArray.size+its2.toArray.size≤sizeLine:=by rw [Za,Za];omega
 have Gs:¬ (!its.toArray.isEmpty && Builtin.List.listTooLong (its.toArray.size+its2.toArray.size))=true:=by
  rw [AX hsz,abK]
  exact Zg
 refine call_meets F.slot_list_extend ⟨_,e,rfl⟩ F.entry_list_extend (F.args_list_extend_2 _ _)
  (AutoSeq1.list_extend_list_list_0 l its.toArray n b its2.toArray n2 Gs (by rw [Za];omega) (by omega)) ⟨e,e2,?_⟩
 refine ⟨.bJ,_,I.IW (its':=its ++ its2) hH e (by simp) (r.append r2) ?_,rfl,q⟩
 rw [Zh]
 omega
def Om:V→List V→Hp→VK→Prop:=fun x vs H Q=> ∃ l xs y,x= .ref l∧vs= []∧H l=some (.lst xs)∧xs[xs.length - 1]?=some y∧Q y (upd H l (.lst xs.dropLast))
theorem LK:Ol X "list.pop" Om:=by
 intro pins s σ H x vs v us Q I rx rv h
 obtain ⟨l,xs,y,rfl,rfl,hH,hy,q⟩:=h
 cases rx
 have UJ:=rv.zero
 subst UJ
 obtain ⟨z,its,n,r,hl,e⟩:=I.AW hH
 obtain ⟨u,hu,ru⟩:=r.get hy
 have hy':its.toArray[its.toArray.size - 1]?=some u:=by
  show its.toArray[its.length - 1]?=some u
  rw [← Array.getElem?_toList,← hl]
  exact hu
 refine call_meets F.slot_list_pop ⟨_,e,rfl⟩ F.entry_list_pop (F.args_list_pop_1 _) (MeetsSeq.list_pop_last l its.toArray n u hy' (by rw [Za];omega)) ⟨e,?_⟩
 refine ⟨y,_,I.IW (its':=its.dropLast) hH e ?_ r.dropLast ?_,ru,q⟩
 ·show its.toArray.eraseIdxIfInBounds (its.toArray.size - 1)=its.dropLast.toArray
  rw [Za,List.eraseIdxIfInBounds_toArray,Cd]
 ·rw [ZT]
  omega
def Ro:R2:=fun x y H Q=> ∃ l b xs zs,x= .ref l∧y= .ref b∧H l=some (.lst xs)∧H b=some (.lst zs)∧xs.length+zs.length≤sizeLine∧∀ p,H p=none→Q (.ref p) (upd H p (.lst (xs ++ zs)))
theorem LL:AH X (binaryOp .Add) Ro:=by
 intro pins s σ H x y v u Q I rx ry h
 obtain ⟨l,b,xs,zs,rfl,rfl,hH,hB,hz,q⟩:=h
 cases rx
 cases ry
 obtain ⟨z,its,n,r,hl,e⟩:=I.AW hH
 obtain ⟨z2,its2,n2,r2,hl2,e2⟩:=I.AW hB
 refine PySem.P.add_list e e2 ?_ (by rw [Za,Za];omega)
 have ea:its.toArray ++ its2.toArray=(its ++ its2).toArray:=by simp
 rw [ea]
 exact ⟨.ref _,_,I.Rn (t':=s.toks) (r.append r2) (by rw [Zh];omega),rfl,q _ I.fresh⟩
end
section
variable {prog:Program} {w:World} {A:Around} {E:Value→Shared→Prop} {s:Shared}
end
section
variable {X:Cx}
end
end L2
namespace Att
open PySem PySem.W PySem.Calls PyProof.Rows
theorem tR {P:Params} {h:Heap}:∀ (ns:List Int) (vs:List Value),WellAll P h vs (ns.map WData.int)→IntsAre vs ns:=by
 intro ns
 induction ns with
 | nil=>
   intro vs w
   rw [List.map_nil] at w
   cases w
   exact .nil
 | cons n ns ih=>
   intro vs w
   rw [ZK] at w
   cases w with
   | cons a b=>
     cases a
     exact .cons _ _ (ih _ b)
theorem EH {l:OpenLaw} {n:Nat} (hn:l.most=some n) {P:Params} {h:Heap} {args:List WData} {vals:List Value}
 (hpre:l.row.toRowW.claim.pre args=true) (hwl:WellAll P h vals args) :
 ∃ a vs ns,vals= [Value.ref a]∧args= [WData.list (ns.map WData.int)]∧h.get? a=some { cls:= .type "list",data:= .seq vs.toArray }∧IntsAre vs ns∧ns.length≤n:=by
 have hsh:WShape.hasAll [] args [.list .int]=true:=(pre_splitW hpre).1
 have hc:l.pre.holds [] { args:=args }=true:=(pre_splitW hpre).2
 obtain ⟨d,r,rfl,h1,h2⟩:=hasAllW_cons hsh
 obtain rfl:=hasAllW_nil h2
 obtain ⟨xs,rfl,h3⟩:=hasW_list h1
 obtain ⟨ns,rfl⟩:=items_int h3
 have hlen:ns.length≤n:=by
  unfold OpenLaw.pre at hc
  have h4:(WTm.not (.lt (.lit (.int (n:Int))) (.len (.arg 0)))).holds [] { args:=[.list (ns.map .int)] }=true:=by
   have h4:=(holds_andW hc).1
   rw [hn] at h4
   exact h4
  have h5:=condW_of h4 (w_not (w_lt w_lit (w_len_list (w_arg rfl))))
  rw [Y4] at h5
  refine Nat.le_of_not_lt fun q=>?_
  have q':(n:Int) < ((ns.length:Nat):Int):=by omega
  first
   | (rw [decide_eq_true q'] at h5;exact absurd h5 (by decide))
   | (simp at h5;omega)
 cases hwl with
 | cons w1 w2=>
   cases w2
   cases w1 with
   | list ho hall=>exact ⟨_,_,ns,rfl,rfl,ho,tR ns _ hall,hlen⟩
theorem EI (l:OpenLaw) (args:List WData):l.row.toRowW.claim.post args (.bool true) args=true:=
 postW_of (r:=l.row.toRowW) (X:=(true == true))
  (show WShape.has [] (.bool true) .bool=true by first | rfl | decide | simp [WShape.has,WShape.arms,WShape.armsAll])
  (show (WTm.eq .res (.lit (.bool true))).value [] { args:=args,res:=some (.bool true),after:=args }=some (.bool (true == true)) from w_eq_bool (w_res rfl) w_lit) rfl
section
variable {prog:Program} {w:World} {A:Around} {E:Value→Shared→Prop} {s:Shared} {K:Frag}
end
end Att
namespace L2
open PySem PySem.Spec PyProof.Rows
theorem yh:∀ {vs:List Value} {ns:List Int},IntsAre vs ns→Vals (ns.map V.int) vs
 | _,_,.nil=> .nil
 | _,_,.cons n t h=> .cons ⟨t,rfl⟩ (yh h)
def IX (H:Hp):Prop:= ∀ b,H b=none∨∃ o xs,H b=some (.qG o (.lst xs))
theorem Gu {P:Program} {w:World} {K:PySem.W.Frag} {mg mb:Str→Option Value} {CX:Gi} {k:Nat} {fa a:Addr} {fd:FuncData} {x:Str} {sp:Sp} {s₁:Shared} {vs:List Value} {ns:List Int}
 (KX:K.In s₁.heap) (hns:s₁.heap.Ns mainGlobals mg) (hb:s₁.heap.Ns builtinsNs mb) (UK:∀ x:Str,x≠"__name__"→mb x=bootBuiltins x) (hlim:s₁.heap.NoLimit) (hg:s₁.gens= #[])
 (ha:s₁.heap.get? a=some { cls:= .type "list",data:= .seq vs.toArray }) (hi:IntsAre vs ns) (hl:ns.length≤sizeLine) (hr:jJ k callerA)
 (F:∀ base:Heap,K.In base→base.Ns mainGlobals mg→bS P w K mg base CX k fa fd [x] sp) (hbind:∀ (s:Shared) (u:Value),BindsTo s fd ⟨[u],[]⟩ [(x,u)])
 (AR:∀ H:Hp,IX H→iD K H a (ns.map V.int)→sp [.ref a] H (fun v _=>v= .bl true) fun _ _ _=>False)
 (Rp:∀ H e s',CX [] H s₁ (fun _ _ _=>False) e s'→False) :
 codeAny (model P w) callerA (.call (.ref fa) ⟨[.ref a],[]⟩) (fun r s'=>r= .ok (.ret (.bool true))∧OldK s₁.heap s'.heap∧s'.os=s₁.os∧AllBare s'.gens) s₁:=by
 have rv:=yh hi
 have Rq:=hi.length
 have core:∀ H:Hp,IX H→iD K H a (ns.map V.int)→nH P w H s₁.heap→(∀ b,H b≠none→b=a)→(H a≠none→K.lookup a=none)→
  codeAny (model P w) callerA (.call (.ref fa) ⟨[.ref a],[]⟩) (fun r s'=>r= .ok (.ret (.bool true))∧OldK s₁.heap s'.heap∧s'.os=s₁.os∧AllBare s'.gens) s₁:=by
  intro H hO hS hok hA hK
  have Dz:∀ {b:Addr} {o:Obj},s₁.heap.get? b=some o→H b=none→(za s₁.heap H).get? b=some o:=fun e n=>FW e n
  have Od:∀ {b:Addr} {o:Obj} {es:Array DictEntry} {ep:Nat},s₁.heap.get? b=some o→o.data= .dict es ep→H b=none:=fun {b o es ep} e d=>by
   cases q:H b with
   | none=>rfl
   | some u=>
     have e':b=a:=hA b (by rw [q];simp)
     subst e'
     rw [ha] at e;cases e
     have d':Data.seq vs.toArray _=Data.dict es ep:=d
     cases d'
  have Qn:∀ {b:Addr} {m:Str→Option Value},s₁.heap.Ns b m→(za s₁.heap H).Ns b m:=fun {b m} ⟨o,es,ep,e,d,r⟩=>⟨o,es,ep,Dz e (Od e d),d,r⟩
  have Td:K.In (za s₁.heap H):=fun b o e=>Dz (KX b o e) (by
   cases q:H b with
   | none=>rfl
   | some u=>
     have e':b=a:=hA b (by rw [q];simp)
     subst e'
     rw [hK (by rw [q];simp)] at e;cases e)
  have hM:Mod K mg (za s₁.heap H):=⟨Td,Qn hns,⟨mb,Qn hb,UK⟩,let ⟨mc,h1,h2⟩:=hlim;⟨mc,Qn h1,h2⟩⟩
  have e0:IM P w K mg (za s₁.heap H) callerA [] s₁ H:=⟨rfl,hM,fun b o e=>Iw e,abU (Ew _ _),trivial,fun b hb=>absurd (show b∈([]:List Addr) from hb) (by simp),hok,.of_eq hg⟩
  refine codeAny_mono ((F _ Td (Qn hns)).run callerA [] s₁ H ⟨[.ref a],[]⟩ [.ref a] [.ref a] _ _ hr e0 (hbind s₁ (.ref a)) (.cons rfl .nil) (AR H hO hS)) fun r s' h=>?_
  cases r with
  | error e=>exact (Rp H e s' h).elim
  | ok fl=>
    cases fl with
    | next=>exact False.elim h
    | brk=>exact False.elim h
    | cont=>exact False.elim h
    | ret u=>
      obtain ⟨v,H',os,bare,un,Rr,r',q⟩:=h
      have q':v= .bl true:=q
      subst q'
      obtain rfl:u=Value.bool true:=r'
      refine ⟨rfl,OldK.of_keep fun b o e=>?_,os,bare⟩
      cases q:H b with
      | none=>exact un.keep b o e q (by intro z;exact absurd (show b∈([]:List Addr) from z) (by simp)) (by simp)
      | some u=>
        rcases hO b with z | ⟨ob,xs,z⟩
        ·rw [q] at z;cases z
        ·have z2:=un.y9 b ob _ z
         obtain ⟨e1,_⟩:=hok b _ z
         obtain ⟨e2,_⟩:=Rr b _ z2
         rw [e] at e1;cases e1
         exact e2
 cases hk:K.lookup a with
 | some o=>
   have e:=KX a o hk
   rw [ha] at e
   cases e
   refine core (fun _=>none) (fun _=> .inl rfl) (.inr ⟨_,vs.toArray,_,hk,rfl,rfl,rfl,by rw [Za,Rq];exact hl,by simpa using rv⟩) (fun b u z=>by have z':(none:Option HO)=some u:=z;cases z') (fun b z=>absurd rfl z) fun z=>absurd rfl z
 | none=>
   refine core (fun b=>if b=a then some (.qG { cls:= .type "list",data:= .seq vs.toArray } (.lst (ns.map V.int))) else none) (fun b=>?_) (.inl (.inr ⟨{ cls:= .type "list",data:= .seq vs.toArray },if_pos rfl⟩)) (fun b u z=>?_) (fun b z=>?_) fun _=>hk
   ·by_cases hb:b=a
    ·exact .inr ⟨_,_,if_pos hb⟩
    ·exact .inl (if_neg hb)
   ·by_cases hb:b=a
    ·have z':=(if_pos hb).symm.trans z
     cases z'
     subst hb
     exact ⟨ha,by rw [Y4];exact hl,vs,_,rv,ha⟩
    ·have z':=(if_neg hb).symm.trans z
     cases z'
   ·by_cases hb:b=a
    ·exact hb
    ·exact absurd (if_neg hb) z
end L2
namespace L2
open PySem PySem.Spec PyProof.Rows
end L2
namespace L2
open PySem PySem.Spec PyProof.Rows
def pI (s:Stmt):Arguments:=match s with
 | .FunctionDef _ a _ _ _ _ _ _ _ _=>a
 | _=>{ posonlyargs:=[],args:=[],vararg:=none,kwonlyargs:=[],kw_defaults:=[],kwarg:=none,defaults:=[] }
def iH (s:Stmt):List Stmt:=match s with
 | .FunctionDef _ _ b _ _ _ _ _ _ _=>b
 | _=>[]
def ay (s:Stmt):Scope:=match s with
 | .FunctionDef _ _ _ _ _ _ sc _ _ _=>sc
 | _=>{ kind:= .function,names:=[],isGenerator:=false,isCoroutine:=false }
abbrev eZ:Gi:=fun _ _ _ _ _ _=>False
abbrev E0:XK:=fun _ _ _=>False
theorem KA {X:Cx}:Passes eZ X E0:=fun _ _ _ _ _ _ _ h=>h.elim
structure gY (K:PySem.W.Frag) (x qual:Str) (st:Stmt) (f:Addr) (fd:FuncData):Prop where
 ex:∃ (oc:Value) (od:Option Addr) (kV doc pm:Value) (an:Option Addr) (cdv ct:Value) (osl:Array (Option Value)),
  fd=PySem.W.fnOf x qual (pI st) (iH st) (ay st) .none kV doc pm an cdv ct∧K.lookup f=some ⟨oc,od,.func fd,osl⟩∧PySem.W.codeIn K cdv qual=true
 kp:PySem.W.keepIn K (.ref f)=true
section
variable {P:Program} {w:World} {K:PySem.W.Frag} {mg:Str→Option Value} {base:Heap}
theorem gY.ok {x qual:Str} {st:Stmt} {f:Addr} {fd:FuncData} {N ps:List Str} {k:Nat} {sp:Sp} (F:gY K x qual st f fd) (S:aI N ps (ay st)) (len:∀ vs H Q E,sp vs H Q E→vs.length=ps.length)
 (hbody:∀ (cdv:Value) (A:Around) (outer:List Env) (s:Shared) (H:Hp) (vs:List V) (Q:VK) (E:XK),jJ k (A.deeper (envOfC qual (ay st) s.heap.objs.size f cdv))→sp vs H Q E→
  ∃ t,B8 (tQ eZ P w K mg base N qual (ay st) f cdv A outer s H E).Ir (iH st) t∧t { nx:=fun _ H'=>Q .bJ H',rt:=Q } (start N vs) H):bS P w K mg base eZ (k+1) f fd ps sp:=by
 obtain ⟨oc,od,kV,doc,pm,an,cdv,ct,osl,rfl,lk,hcd⟩:=F.ex
 refine Oe lk hcd S len fun A outer s H vs Q E hr AR=>?_
 obtain ⟨t,h,q⟩:=hbody cdv A outer s H vs Q E hr AR
 exact ⟨t,h.Ir,q⟩
theorem gY.binds {x qual:Str} {st:Stmt} {f:Addr} {fd:FuncData} {ps:List Str} (F:gY K x qual st f fd)
 (h:∀ (kV doc pm:Value) (an:Option Addr) (cdv ct:Value) (us:List Value),us.length=ps.length→bindArgs (PySem.W.fnOf x qual (pI st) (iH st) (ay st) .none kV doc pm an cdv ct) ⟨us,[]⟩=pure (ps.zip us)):Binds K fd ps []:=by
 obtain ⟨oc,od,kV,doc,pm,an,cdv,ct,osl,rfl,lk,hcd⟩:=F.ex
 exact .all (h kV doc pm an cdv ct)
end
section
variable {X:Cx}
end
theorem br {c A B:Prop} [Decidable c] (h1:c→A) (h2:¬ c→B):if c then A else B:=by
 by_cases h:c
 ·rw [if_pos h]
  exact h1 h
 ·rw [if_neg h]
  exact h2 h
end L2
set_option maxHeartbeats 4000000
namespace L3
open PySem PySem.Spec PyProof.Rows L2
abbrev St:=L2.St
inductive D where
 | bJ | bl (b:Bool) | int (i:Int) | str (x:Str) | ty (n:String) | ref (a:Addr) | tup (xs:List D) | ze (xs:List D) | KC (n:String) | exc (C:Addr) (nm:Str) (xs:List D)
def Kl (K:PySem.W.Frag) (a:Addr) (xs:List V):Prop:=
 ∃ (o:Obj) (its:Array Value) (n:Nat),K.lookup a=some o∧o.cls= .type "list"∧o.dict=none∧o.data= .seq its n∧its.size≤sizeLine∧Vals xs its.toList
def Fz (K:PySem.W.Frag) (H:Hp) (a:Addr) (xs:List V):Prop:=(∃ o,H a=some (.qG o (.lst xs)))∨Kl K a xs
theorem Fz.sq {K:PySem.W.Frag} {H:Hp} {a:Addr} {xs:List V} (h:Fz K H a xs):iD K H a xs:=by
 rcases h with ⟨o,h⟩ | h
 ·exact .inl (.inr ⟨o,h⟩)
 ·exact .inr h
abbrev xO (C t:Addr):Obj:={ cls:= .ref C,data:= .fields #[.ref t,.none,.none,.none,.bool false,.none] }
abbrev yO (C t d:Addr):Obj:={ cls:= .ref C,dict:=some d,data:= .fields #[.ref t,.none,.none,.none,.bool false,.none] }
def Xo (H:Hp) (C:Addr) (nm:Str) (o:Obj) (xs:List V):Prop:=(xs= []∧∃ t,o=xO C t)∨∃ t dx od vx,xs= [vx]∧o=yO C t dx∧H dx=some (.qG od (.xd [(nm,vx)]))
mutual
def Dat (K:PySem.W.Frag) (H:Hp):D→V→Prop
 | .bJ,v=>v= .bJ
 | .bl b,v=>v= .bl b
 | .int i,v=>v= .int i
 | .str x,v=>v= .str x
 | .ty n,v=>v= .ty n
 | .ref a,v=>v= .ref a
 | .tup ds,v=> ∃ a xs,v= .ref a∧H a=some (.tup xs)∧aM K H ds xs
 | .ze ds,v=> ∃ a xs,v= .ref a∧Fz K H a xs∧aM K H ds xs
 | .KC n,v=> ∃ a o u,v= .ref a∧H a=some (.qG o u)∧o.cls= .type n
 | .exc C nm ds,v=> ∃ a o u xs,v= .ref a∧H a=some (.qG o u)∧Xo H C nm o xs∧aM K H ds xs
def aM (K:PySem.W.Frag) (H:Hp):List D→List V→Prop
 | [],xs=>xs= []
 | d :: ds,xs=> ∃ v vs,xs=v :: vs∧Dat K H d v∧aM K H ds vs
end
structure Ext (H H':Hp):Prop where
 tup:∀ b xs,H b=some (.tup xs)→H' b=some (.tup xs)
 qG:∀ b o u,H b=some (.qG o u)→H' b=some (.qG o u)
theorem Fz.mono {K:PySem.W.Frag} {H H':Hp} {a:Addr} {xs:List V} (e:Ext H H') (h:Fz K H a xs):Fz K H' a xs:=by
 rcases h with ⟨o,h⟩ | h
 ·exact .inl ⟨o,e.qG _ _ _ h⟩
 ·exact .inr h
theorem Xo.mono {H H':Hp} {C:Addr} {nm:Str} {o:Obj} {xs:List V} (e:Ext H H') (h:Xo H C nm o xs):Xo H' C nm o xs:=by
 rcases h with h | ⟨t,dx,od,vx,e1,e2,e3⟩
 ·exact .inl h
 ·exact .inr ⟨t,dx,od,vx,e1,e2,e.qG _ _ _ e3⟩
mutual
theorem Dat.mono {K:PySem.W.Frag} {H H':Hp} (e:Ext H H'):∀ (d:D) (v:V),Dat K H d v→Dat K H' d v
 | .bJ,v,h=>by simpa [Dat] using h
 | .bl b,v,h=>by simpa [Dat] using h
 | .int i,v,h=>by simpa [Dat] using h
 | .str x,v,h=>by simpa [Dat] using h
 | .ty n,v,h=>by simpa [Dat] using h
 | .ref a,v,h=>by simpa [Dat] using h
 | .tup ds,v,h=>by
   obtain ⟨a,xs,e1,e2,e3⟩:=(show ∃ a xs,v= .ref a∧H a=some (.tup xs)∧aM K H ds xs from by simpa only [Dat] using h)
   have:=aM.mono e ds xs e3
   simp only [Dat]
   exact ⟨a,xs,e1,e.tup _ _ e2,this⟩
 | .ze ds,v,h=>by
   obtain ⟨a,xs,e1,e2,e3⟩:=(show ∃ a xs,v= .ref a∧Fz K H a xs∧aM K H ds xs from by simpa only [Dat] using h)
   have:=aM.mono e ds xs e3
   simp only [Dat]
   exact ⟨a,xs,e1,e2.mono e,this⟩
 | .KC n,v,h=>by
   obtain ⟨a,o,u,e1,e2,e3⟩:=(show ∃ a o u,v= .ref a∧H a=some (.qG o u)∧o.cls= .type n from by simpa only [Dat] using h)
   simp only [Dat]
   exact ⟨a,o,u,e1,e.qG _ _ _ e2,e3⟩
 | .exc C nm ds,v,h=>by
   obtain ⟨a,o,u,xs,e1,e2,e3,e4⟩:=(show ∃ a o u xs,v= .ref a∧H a=some (.qG o u)∧Xo H C nm o xs∧aM K H ds xs from by simpa only [Dat] using h)
   have:=aM.mono e ds xs e4
   simp only [Dat]
   exact ⟨a,o,u,xs,e1,e.qG _ _ _ e2,e3.mono e,this⟩
theorem aM.mono {K:PySem.W.Frag} {H H':Hp} (e:Ext H H'):∀ (ds:List D) (xs:List V),aM K H ds xs→aM K H' ds xs
 | [],xs,h=>by simpa [aM] using h
 | d :: ds,xs,h=>by
   obtain ⟨v,vs,e1,e2,e3⟩:=(show ∃ v vs,xs=v :: vs∧Dat K H d v∧aM K H ds vs from by simpa only [aM] using h)
   have h1:=Dat.mono e d v e2
   have h2:=aM.mono e ds vs e3
   simp only [aM]
   exact ⟨v,vs,e1,h1,h2⟩
end
section
variable {K:PySem.W.Frag} {H:Hp}
theorem cE {v:V}:Dat K H .bJ v↔v= .bJ:=by simp only [Dat]
theorem bB {b:Bool} {v:V}:Dat K H (.bl b) v↔v= .bl b:=by simp only [Dat]
theorem aW {i:Int} {v:V}:Dat K H (.int i) v↔v= .int i:=by simp only [Dat]
theorem gF {x:Str} {v:V}:Dat K H (.str x) v↔v= .str x:=by simp only [Dat]
theorem Ce {n:String} {v:V}:Dat K H (.ty n) v↔v= .ty n:=by simp only [Dat]
theorem aK {a:Addr} {v:V}:Dat K H (.ref a) v↔v= .ref a:=by simp only [Dat]
theorem bH {ds:List D} {v:V}:Dat K H (.tup ds) v↔∃ a xs,v= .ref a∧H a=some (.tup xs)∧aM K H ds xs:=by simp only [Dat]
theorem qJ {ds:List D} {v:V}:Dat K H (.ze ds) v↔∃ a xs,v= .ref a∧Fz K H a xs∧aM K H ds xs:=by simp only [Dat]
theorem DA {n:String} {v:V}:Dat K H (.KC n) v↔∃ a o u,v= .ref a∧H a=some (.qG o u)∧o.cls= .type n:=by simp only [Dat]
theorem IY {C:Addr} {nm:Str} {ds:List D} {v:V}:Dat K H (.exc C nm ds) v↔∃ a o u xs,v= .ref a∧H a=some (.qG o u)∧Xo H C nm o xs∧aM K H ds xs:=by simp only [Dat]
theorem aV {xs:List V}:aM K H [] xs↔xs= []:=by simp only [aM]
theorem aQ {d:D} {ds:List D} {xs:List V}:aM K H (d :: ds) xs↔∃ v vs,xs=v :: vs∧Dat K H d v∧aM K H ds vs:=by simp only [aM]
theorem aM.length:∀ {ds:List D} {xs:List V},aM K H ds xs→ds.length=xs.length
 | [],xs,h=>by rw [aV.mp h];rfl
 | d :: ds,xs,h=>by
   obtain ⟨v,vs,rfl,_,h⟩:=aQ.mp h
   simp [aM.length h]
theorem aM.get:∀ {ds:List D} {xs:List V} {i:Nat} {d:D},aM K H ds xs→ds[i]?=some d→∃ v,xs[i]?=some v∧Dat K H d v
 | [],xs,_,_,_,e=>by simp at e
 | d :: ds,xs,i,d',h,e=>by
   obtain ⟨v,vs,rfl,h1,h2⟩:=aQ.mp h
   cases i with
   | zero=>simp at e;subst e;exact ⟨v,rfl,h1⟩
   | succ i=>exact aM.get (i:=i) h2 (by simpa using e)
theorem aM.back:∀ {ds:List D} {xs:List V} {i:Nat} {v:V},aM K H ds xs→xs[i]?=some v→∃ d,ds[i]?=some d∧Dat K H d v
 | [],xs,i,v,h,e=>by rw [aV.mp h] at e;simp at e
 | d :: ds,xs,i,v',h,e=>by
   obtain ⟨v,vs,rfl,h1,h2⟩:=aQ.mp h
   cases i with
   | zero=>simp at e;subst e;exact ⟨d,rfl,h1⟩
   | succ i=>exact aM.back (i:=i) h2 (by simpa using e)
theorem aM.append:∀ {ds es:List D} {xs ys:List V},aM K H ds xs→aM K H es ys→aM K H (ds ++ es) (xs ++ ys)
 | [],es,xs,ys,h,h'=>by rw [aV.mp h];exact h'
 | d :: ds,es,xs,ys,h,h'=>by
   obtain ⟨v,vs,rfl,h1,h2⟩:=aQ.mp h
   exact aQ.mpr ⟨v,vs ++ ys,rfl,h1,h2.append h'⟩
theorem aM.one {d:D} {v:V} (h:Dat K H d v):aM K H [d] [v]:=aQ.mpr ⟨v,[],rfl,h,aV.mpr rfl⟩
end
inductive MO where
 | lst (ds:List D)
 | Rt (kvs:List (List (List Int) ×D))
abbrev Mp:=Addr→Option MO
def aE (M:Mp) (a:Addr) (o:MO):Mp:=fun b=>if b=a then some o else M b
def Nr:Mp:=fun _=>none
theorem ah {M:Mp} {a:Addr} {o:MO}:aE M a o a=some o:=by unfold aE;rw [if_pos rfl]
theorem bg {M:Mp} {a b:Addr} {o:MO} (h:b≠a):aE M a o b=M b:=by unfold aE;rw [if_neg h]
theorem nM {M:Mp} {a:Addr} {o u:MO}:aE (aE M a o) a u=aE M a u:=by
 funext b;unfold aE;split <;> rfl
theorem ao {M:Mp} {a b:Addr} {o u:MO} (h:M b=some o) (n:M a=none):aE M a u b=some o:=by
 rw [bg (fun e=>by subst e;rw [h] at n;cases n)];exact h
def Le (M M':Mp):Prop:= ∀ a o,M a=some o→M' a=some o
theorem Le.refl (M:Mp):Le M M:=fun _ _ h=>h
theorem Le.trans {M M1 M2:Mp} (a:Le M M1) (b:Le M1 M2):Le M M2:=fun c o h=>b c o (a c o h)
theorem Le.new {M:Mp} {a:Addr} {o:MO} (n:M a=none):Le M (aE M a o):=fun _ _ h=>ao h n
def UL (ks:List (List Int)):Int:=reduceHash (Builtin.Tuple.tupleHashOf (ks.map fun k=>reduceHash (Builtin.Tuple.tupleHashOf (k.map hashInt))))
abbrev DX:=List (List (List Int) ×Addr ×Value)
def Ru (x:List (List Int) ×Addr ×Value):DictEntry:=⟨UL x.1,.ref x.2.1,x.2.2⟩
def Rv (a:Addr) (xs:DX):Heap→Prop:=fun h=> ∃ o es ep,h.get? a=some o∧o.ExactDict∧o.data= .dict es ep∧es.toList=xs.map Ru
def kD (k:List (List Int)):D:= .tup (k.map fun l=> .tup (l.map .int))
def IZ (K:PySem.W.Frag) (H:Hp) (p:List (List Int) ×D) (x:List (List Int) ×Addr ×Value):Prop:=p.1=x.1∧Dat K H (kD p.1) (.ref x.2.1)∧∃ v,Dat K H p.2 v∧RelV v x.2.2
theorem IZ.mono {K:PySem.W.Frag} {H H':Hp} (e:Ext H H') {p:List (List Int) ×D} {x:List (List Int) ×Addr ×Value} (h:IZ K H p x):IZ K H' p x:=by
 obtain ⟨h1,h2,v,h3,h4⟩:=h
 exact ⟨h1,Dat.mono e _ _ h2,v,Dat.mono e _ _ h3,h4⟩
def Nt (K:PySem.W.Frag) (H:Hp) (a:Addr):MO→Prop
 | .lst ds=> ∃ xs,H a=some (.lst xs)∧aM K H ds xs
 | .Rt kvs=> ∃ xs:DX,H a=some (.ext (Rv a xs))∧(a == sysModules)=false∧(xs.map (·.1)).Nodup∧Paired (IZ K H) kvs xs
theorem Nt.mono {K:PySem.W.Frag} {H H':Hp} {a:Addr} {o:MO} (h:Nt K H a o) (e:Ext H H') (s:∀ u,H a=some u→H' a=some u):Nt K H' a o:=by
 cases o with
 | lst ds=>
   obtain ⟨xs,e1,e2⟩:=h
   exact ⟨xs,s _ e1,aM.mono e _ _ e2⟩
 | Rt kvs=>
   obtain ⟨xs,e1,y,nd,p⟩:=h
   exact ⟨xs,s _ e1,y,nd,Paired.La p fun _ _ z=>z.mono e⟩
theorem Nt.has {K:PySem.W.Frag} {H:Hp} {a:Addr} {o:MO} (h:Nt K H a o):∃ u,H a=some u∧((∃ xs,u= .lst xs)∨∃ φ,u= .ext φ):=by
 cases o with
 | lst ds=>
   obtain ⟨xs,e1,_⟩:=h
   exact ⟨_,e1,.inl ⟨_,rfl⟩⟩
 | Rt kvs=>
   obtain ⟨xs,e1,_⟩:=h
   exact ⟨_,e1,.inr ⟨_,rfl⟩⟩
def cP (K:PySem.W.Frag) (H:Hp) (M:Mp):Prop:= ∀ a o,M a=some o→Nt K H a o
theorem cP.no {K:PySem.W.Frag} {H:Hp}:cP K H Nr:=fun _ _ h=>by cases h
theorem cP.le {K:PySem.W.Frag} {H:Hp} {M M':Mp} (h:cP K H M') (l:Le M M'):cP K H M:=fun a o e=>h a o (l a o e)
theorem cP.lst {K:PySem.W.Frag} {H:Hp} {M:Mp} {a:Addr} {ds:List D} (h:cP K H M) (e:M a=some (.lst ds)):∃ xs,H a=some (.lst xs)∧aM K H ds xs:=h a _ e
theorem cP.free {K:PySem.W.Frag} {H:Hp} {M:Mp} {a:Addr} (h:cP K H M) (e:H a=none):M a=none:=by
 cases q:M a with
 | none=>rfl
 | some o=>
   obtain ⟨u,e',_⟩:=(h a o q).has
   rw [e] at e';cases e'
theorem cP.Cf {K:PySem.W.Frag} {H:Hp} {M:Mp} {a:Addr} {u:HO} (h:cP K H M) (e:H a=some u) (n:∀ xs,u≠ .lst xs) (n2:∀ φ,u≠ .ext φ:=by intro _ z;cases z):M a=none:=by
 cases q:M a with
 | none=>rfl
 | some o=>
   obtain ⟨u',e',h'⟩:=(h a o q).has
   rw [e] at e'
   cases e'
   rcases h' with ⟨xs,z⟩ | ⟨φ,z⟩
   ·exact absurd z (n xs)
   ·exact absurd z (n2 φ)
def Fr (M:Mp) (H:Hp) (M':Mp) (H':Hp):Prop:= ∀ b o,M b=none→H b=some o→H' b=some o∧M' b=none
theorem Fr.refl (M:Mp) (H:Hp):Fr M H M H:=fun _ _ n e=>⟨e,n⟩
theorem Fr.trans {M M1 M2:Mp} {H H1 H2:Hp} (a:Fr M H M1 H1) (b:Fr M1 H1 M2 H2):Fr M H M2 H2:=fun c o n e=>
 let ⟨e1,n1⟩:=a c o n e
 b c o n1 e1
theorem Fr.le {M M1 M2:Mp} {H H1:Hp} (a:Fr M H M1 H1) (l:Le M2 M1):Fr M H M2 H1:=fun b o n e=>by
 obtain ⟨e1,n1⟩:=a b o n e
 refine ⟨e1,?_⟩
 cases q:M2 b with
 | none=>rfl
 | some u=>rw [l b u q] at n1;cases n1
theorem Fr.ext {K:PySem.W.Frag} {M M':Mp} {H H':Hp} (f:Fr M H M' H') (r:cP K H M):Ext H H':=
 ⟨fun b xs e=>(f b _ (r.Cf e (fun _ z=>by cases z)) e).1,fun b o u e=>(f b _ (r.Cf e (fun _ z=>by cases z)) e).1⟩
theorem Ext.new {H:Hp} {p:Addr} {o:HO} (n:H p=none):Ext H (upd H p o):=
 ⟨fun b xs e=>by rw [bF (cC e n)];exact e,fun b o' u e=>by rw [bF (cC e n)];exact e⟩
theorem Fr.new {M M':Mp} {H:Hp} {p:Addr} {o:HO} (n:H p=none) (h:∀ b,b≠p→M' b=M b):Fr M H M' (upd H p o):=fun b u m e=>by
 have hb:b≠p:=cC e n
 rw [bF hb,h b hb]
 exact ⟨e,m⟩
theorem Fr.write {K:PySem.W.Frag} {M:Mp} {H:Hp} {p:Addr} {o:HO} {u:MO} {v:MO} (m:M p=some u):Fr M H (aE M p v) (upd H p o):=fun b w n e=>by
 have hb:b≠p:=fun z=>by subst z;rw [m] at n;cases n
 rw [bF hb,bg hb]
 exact ⟨e,n⟩
theorem cP.new {K:PySem.W.Frag} {M:Mp} {H:Hp} {p:Addr} {o:HO} (r:cP K H M) (n:H p=none):cP K (upd H p o) M:=fun a u e=>
 (r a u e).mono (Ext.new n) fun v q=>by rw [bF (cC q n)];exact q
theorem Ext.lF {H:Hp} {p:Addr} {xs ys:List V} (h:H p=some (.lst xs)):Ext H (upd H p (.lst ys)):=
 ⟨fun b zs e=>by rw [bF (Ku e h (by intro z;cases z))];exact e,fun b o u e=>by rw [bF (Ku e h (by intro z;cases z))];exact e⟩
theorem cP.newL {K:PySem.W.Frag} {M:Mp} {H:Hp} {p:Addr} {xs:List V} {ds:List D} (r:cP K H M) (n:H p=none) (d:aM K H ds xs):cP K (upd H p (.lst xs)) (aE M p (.lst ds)):=fun a u e=>by
 by_cases ha:a=p
 ·subst ha
  rw [ah] at e;cases e
  exact ⟨xs,fT,aM.mono (Ext.new n) _ _ d⟩
 ·rw [bg ha] at e
  exact r.new n a u e
theorem cP.lF {K:PySem.W.Frag} {M:Mp} {H:Hp} {p:Addr} {xs ys:List V} {ds:List D} (r:cP K H M) (h:H p=some (.lst xs)) (d:aM K H ds ys):cP K (upd H p (.lst ys)) (aE M p (.lst ds)):=fun a u e=>by
 by_cases ha:a=p
 ·subst ha
  rw [ah] at e;cases e
  exact ⟨ys,fT,aM.mono (Ext.lF h) _ _ d⟩
 ·rw [bg ha] at e
  exact (r a u e).mono (Ext.lF h) fun v q=>by rw [bF ha];exact q
abbrev En:=List (Option D)
structure Rep (K:PySem.W.Frag) (H:Hp) (σ:St) (ρ:En) (M:Mp):Prop where
 env:∀ (i:Nat) d,ρ[i]?=some (some d)→∃ v,σ[i]?=some (some v)∧Dat K H d v
 len:ρ.length=σ.length
 mem:cP K H M
theorem Rep.go {K:PySem.W.Frag} {H H':Hp} {σ:St} {ρ:En} {M M':Mp} (r:Rep K H σ ρ M) (f:Fr M H M' H') (r':cP K H' M'):Rep K H' σ ρ M':=
 ⟨fun i d e=>let ⟨v,e1,e2⟩:=r.env i d e;⟨v,e1,Dat.mono (f.ext r.mem) _ _ e2⟩,r.len,r'⟩
theorem Rep.set {K:PySem.W.Frag} {H:Hp} {σ:St} {ρ:En} {M:Mp} {i:Nat} {d:D} {v:V} (r:Rep K H σ ρ M) (h:Dat K H d v):Rep K H (σ.set i (some v)) (ρ.set i (some d)) M:=by
 refine ⟨fun j e q=>?_,by simp [r.len],r.mem⟩
 by_cases hj:i=j
 ·subst hj
  by_cases hl:i < ρ.length
  ·rw [aaC hl] at q
   cases q
   exact ⟨v,aaC (by rw [← r.len];exact hl),h⟩
  ·rw [aap (by simp;omega)] at q;cases q
 ·rw [aa7 hj] at q ⊢
  exact r.env j e q
abbrev DK:=D→Mp→Prop
abbrev dI:=En→Mp→DK→Prop
abbrev pX:=En→Mp→(Bool→Mp→Prop)→Prop
abbrev yi:=En→Mp→(List D→Mp→Prop)→Prop
def Post (K:PySem.W.Frag) (M:Mp) (H:Hp) (Q:DK):VK:=fun v H'=> ∃ d M',Fr M H M' H'∧Dat K H' d v∧cP K H' M'∧Q d M'
def sX (K:PySem.W.Frag) (M:Mp) (H:Hp) (Q:Bool→Mp→Prop):Bool→Hp→Prop:=fun b H'=> ∃ M',Fr M H M' H'∧cP K H' M'∧Q b M'
def KD (K:PySem.W.Frag) (M:Mp) (H:Hp) (Q:List D→Mp→Prop):List V→Hp→Prop:=fun vs H'=> ∃ ds M',Fr M H M' H'∧aM K H' ds vs∧cP K H' M'∧Q ds M'
structure cK (X:Cx) (e:Expr) (t:dI):Prop where
 run:∀ (pins:List (Addr ×Obj)) (s:Shared) (σ:St) (H:Hp) (ρ:En) (M:Mp) (Q:DK),Inv X pins σ H s→Rep X.K H σ ρ M→t ρ M Q→wpAny (model X.prog X.w) X.A (eval e X.env) (EP X pins σ (Post X.K M H Q)) X.xe s
structure AY (X:Cx) (e:Expr) (t:pX):Prop where
 run:∀ (pins:List (Addr ×Obj)) (s:Shared) (σ:St) (H:Hp) (ρ:En) (M:Mp) (Q:Bool→Mp→Prop),Inv X pins σ H s→Rep X.K H σ ρ M→t ρ M Q→wpAny (model X.prog X.w) X.A (isTrue e X.env (eval e X.env)) (TP X pins σ (sX X.K M H Q)) X.xe s
structure qK (X:Cx) (e:Expr) (t:pX):Prop where
 run:∀ (whole:Sem Value) (pins:List (Addr ×Obj)) (s:Shared) (σ:St) (H:Hp) (ρ:En) (M:Mp) (Q:Bool→Mp→Prop),Inv X pins σ H s→Rep X.K H σ ρ M→t ρ M Q→wpAny (model X.prog X.w) X.A (isTrue e X.env whole) (TP X pins σ (sX X.K M H Q)) X.xe s
theorem qK.pt {X:Cx} {e:Expr} {t:pX} (h:qK X e t):AY X e t:=⟨h.run _⟩
structure DB (X:Cx) (es:List Expr) (t:yi):Prop where
 run:∀ (pos:Pos) (pins:List (Addr ×Obj)) (s:Shared) (σ:St) (H:Hp) (ρ:En) (M:Mp) (Q:List D→Mp→Prop),Inv X pins σ H s→Rep X.K H σ ρ M→t ρ M Q→wpAny (model X.prog X.w) X.A (spliced (backTo pos (starEach es X.env))) (AP X pins σ (KD X.K M H Q)) X.xe s
structure KG where
 nx:En→Mp→Prop
 rt:DK
 bk:En→Mp→Prop:=fun _ _=>False
 ct:En→Mp→Prop:=fun _ _=>False
abbrev nk:=KG→En→Mp→Prop
def kG (K:PySem.W.Frag) (M:Mp) (H:Hp) (Q:En→Mp→Prop):St→Hp→Prop:=fun σ' H'=> ∃ ρ' M',Fr M H M' H'∧Rep K H' σ' ρ' M'∧Q ρ' M'
def ends (K:PySem.W.Frag) (M:Mp) (H:Hp) (D:KG):Ends:={ nx:=kG K M H D.nx,rt:=Post K M H D.rt,bk:=kG K M H D.bk,ct:=kG K M H D.ct }
structure AI (X:Cx) (st:Stmt) (t:nk):Prop where
 run:∀ (pins:List (Addr ×Obj)) (s:Shared) (σ:St) (H:Hp) (ρ:En) (M:Mp) (D:KG),Inv X pins σ H s→Rep X.K H σ ρ M→t D ρ M→wpAny (model X.prog X.w) X.A (exec st X.env) (SP X pins (ends X.K M H D)) X.xe s
structure nu (X:Cx) (st:List Stmt) (t:nk):Prop where
 run:∀ (pins:List (Addr ×Obj)) (s:Shared) (σ:St) (H:Hp) (ρ:En) (M:Mp) (D:KG),Inv X pins σ H s→Rep X.K H σ ρ M→t D ρ M→wpAny (model X.prog X.w) X.A (execs st X.env) (SP X pins (ends X.K M H D)) X.xe s
section
variable {X:Cx}
theorem up {e:Expr} {te:TE} {t:dI} (h:PE X e te) (g:∀ σ H ρ M Q,Rep X.K H σ ρ M→t ρ M Q→te σ H (Post X.K M H Q)):cK X e t:=
 ⟨fun pins s σ H ρ M Q I r q=>h pins s σ H _ I (g σ H ρ M Q r q)⟩
theorem UM {e:Expr} {te:TT} {t:pX} (h:PT X e te) (g:∀ σ H ρ M Q,Rep X.K H σ ρ M→t ρ M Q→te σ H (sX X.K M H Q)):AY X e t:=
 ⟨fun pins s σ H ρ M Q I r q=>h pins s σ H _ I (g σ H ρ M Q r q)⟩
theorem Ja {st:Stmt} {te:TS} {t:nk} (h:PS X st te) (g:∀ σ H ρ M D,Rep X.K H σ ρ M→t D ρ M→te (ends X.K M H D) σ H):AI X st t:=
 ⟨fun pins s σ H ρ M D I r q=>h pins s σ H _ I (g σ H ρ M D r q)⟩
def dn (K:PySem.W.Frag) (t:dI):TE:=fun σ H Q'=> ∃ ρ M Q,Rep K H σ ρ M∧t ρ M Q∧∀ v H',Post K M H Q v H'→Q' v H'
def Rw (K:PySem.W.Frag) (t:pX):TT:=fun σ H Q'=> ∃ ρ M Q,Rep K H σ ρ M∧t ρ M Q∧∀ v H',sX K M H Q v H'→Q' v H'
def Te (K:PySem.W.Frag) (t:yi):TA:=fun σ H Q'=> ∃ ρ M Q,Rep K H σ ρ M∧t ρ M Q∧∀ v H',KD K M H Q v H'→Q' v H'
def Qo (K:PySem.W.Frag) (t:nk):TS:=fun D' σ H=> ∃ ρ M D,Rep K H σ ρ M∧t D ρ M∧(∀ σ' H',kG K M H D.nx σ' H'→D'.nx σ' H')∧(∀ v H',Post K M H D.rt v H'→D'.rt v H')∧(∀ σ' H',kG K M H D.bk σ' H'→D'.bk σ' H')∧(∀ σ' H',kG K M H D.ct σ' H'→D'.ct σ' H')
theorem cK.dn {e:Expr} {t:dI} (h:cK X e t):PE X e (dn X.K t):=fun pins s σ H Q' I ⟨ρ,M,Q,r,q,k⟩=>
 dW (h.run pins s σ H ρ M Q I r q) fun _ _ ⟨v,H',I',rv,p⟩=>⟨v,H',I',rv,k v H' p⟩
theorem AY.dn {e:Expr} {t:pX} (h:AY X e t):PT X e (Rw X.K t):=fun pins s σ H Q' I ⟨ρ,M,Q,r,q,k⟩=>
 dW (h.run pins s σ H ρ M Q I r q) fun _ _ ⟨H',I',p⟩=>⟨H',I',k _ H' p⟩
theorem qK.dn {e:Expr} {t:pX} (h:qK X e t):PW X e (Rw X.K t):=fun wh pins s σ H Q' I ⟨ρ,M,Q,r,q,k⟩=>
 dW (h.run wh pins s σ H ρ M Q I r q) fun _ _ ⟨H',I',p⟩=>⟨H',I',k _ H' p⟩
theorem DB.dn {es:List Expr} {t:yi} (h:DB X es t):PA X es (Te X.K t):=fun pos pins s σ H Q' I ⟨ρ,M,Q,r,q,k⟩=>
 dW (h.run pos pins s σ H ρ M Q I r q) fun _ _ ⟨vs,H',I',rv,p⟩=>⟨vs,H',I',rv,k vs H' p⟩
theorem nu.dn {sts:List Stmt} {t:nk} (h:nu X sts t):B8 X sts (Qo X.K t):=fun pins s σ H D' I ⟨ρ,M,D,r,q,k1,k2,k3,k4⟩=>
 dW (h.run pins s σ H ρ M D I r q) fun f s' z=>by
  cases f with
  | next=>obtain ⟨σ',H',I',p⟩:=z;exact ⟨σ',H',I',k1 _ _ p⟩
  | brk=>obtain ⟨σ',H',I',p⟩:=z;exact ⟨σ',H',I',k3 _ _ p⟩
  | cont=>obtain ⟨σ',H',I',p⟩:=z;exact ⟨σ',H',I',k4 _ _ p⟩
  | ret u=>obtain ⟨v,σ',H',I',rv,p⟩:=z;exact ⟨v,σ',H',I',rv,k2 _ _ p⟩
theorem eB {K:PySem.W.Frag} {t:dI} {σ:St} {H:Hp} {ρ:En} {M:Mp} {Q:DK} {Q':VK} (r:Rep K H σ ρ M) (q:t ρ M Q) (k:∀ v H' d M',Fr M H M' H'→Dat K H' d v→Rep K H' σ ρ M'→Q d M'→Q' v H'):dn K t σ H Q':=
 ⟨ρ,M,Q,r,q,fun v H' ⟨d,M',f,dv,rm,p⟩=>k v H' d M' f dv (r.go f rm) p⟩
theorem rO {K:PySem.W.Frag} {t:pX} {σ:St} {H:Hp} {ρ:En} {M:Mp} {Q:Bool→Mp→Prop} {Q':Bool→Hp→Prop} (r:Rep K H σ ρ M) (q:t ρ M Q) (k:∀ b H' M',Fr M H M' H'→Rep K H' σ ρ M'→Q b M'→Q' b H'):Rw K t σ H Q':=
 ⟨ρ,M,Q,r,q,fun b H' ⟨M',f,rm,p⟩=>k b H' M' f (r.go f rm) p⟩
theorem qi {K:PySem.W.Frag} {t:yi} {σ:St} {H:Hp} {ρ:En} {M:Mp} {Q:List D→Mp→Prop} {Q':List V→Hp→Prop} (r:Rep K H σ ρ M) (q:t ρ M Q) (k:∀ vs H' ds M',Fr M H M' H'→aM K H' ds vs→Rep K H' σ ρ M'→Q ds M'→Q' vs H'):Te K t σ H Q':=
 ⟨ρ,M,Q,r,q,fun v H' ⟨d,M',f,dv,rm,p⟩=>k v H' d M' f dv (r.go f rm) p⟩
theorem aH {K:PySem.W.Frag} {M:Mp} {H:Hp} {Q:DK} {d:D} {v:V} (rm:cP K H M) (h:Dat K H d v) (q:Q d M):Post K M H Q v H:=⟨d,M,.refl _ _,h,rm,q⟩
theorem Post.back {K:PySem.W.Frag} {M M1:Mp} {H H1:Hp} {Q:DK} {v:V} {H':Hp} (f:Fr M H M1 H1) (p:Post K M1 H1 Q v H'):Post K M H Q v H':=by
 obtain ⟨d,M',f',dv,rm,q⟩:=p
 exact ⟨d,M',f.trans f',dv,rm,q⟩
theorem sX.back {K:PySem.W.Frag} {M M1:Mp} {H H1:Hp} {Q:Bool→Mp→Prop} {b:Bool} {H':Hp} (f:Fr M H M1 H1) (p:sX K M1 H1 Q b H'):sX K M H Q b H':=by
 obtain ⟨M',f',rm,q⟩:=p
 exact ⟨M',f.trans f',rm,q⟩
theorem kG.back {K:PySem.W.Frag} {M M1:Mp} {H H1:Hp} {Q:En→Mp→Prop} {σ:St} {H':Hp} (f:Fr M H M1 H1) (p:kG K M1 H1 Q σ H'):kG K M H Q σ H':=by
 obtain ⟨ρ',M',f',r,q⟩:=p
 exact ⟨ρ',M',f.trans f',r,q⟩
end
end L3
namespace L3
open PySem PySem.Spec PyProof.Rows L2
section
variable {X:Cx} {a b c:Expr} {ta tb tc:dI} {pos:Pos}
def Oo (i:Nat):dI:=fun ρ M Q=> ∃ d,ρ[i]?=some (some d)∧Q d M
def Oq (d:D):dI:=fun _ M Q=>Q d M
theorem aa (i:Nat) {x:Str} {pos:Pos} (hN:X.N[i]?=some x:=by rfl) (hv:QM X.env.scope x:=by first | exact Or.inl rfl | exact Or.inr (Or.inl rfl) | exact Or.inr (Or.inr rfl)) (hd:(x == ("__debug__" :Str))=false:=by decide)
 (hcd:(x == ("__classdict__" :Str))=false:=by decide):cK X (.Name x pos) (Oo i):=
 up (Lf hN hv hd hcd) fun σ H ρ M Q r ⟨d,e,q⟩=>by
  obtain ⟨v,e1,e2⟩:=r.env i d e
  exact ⟨v,e1,aH r.mem e2 q⟩
theorem ai {i j pos}:cK X (.Constant (.int i) j pos) (Oq (.int i)):=up Lg fun _ _ _ _ _ r q=>aH r.mem (aW.mpr rfl) q
theorem iT {b j pos}:cK X (.Constant (.bool b) j pos) (Oq (.bl b)):=up NR fun _ _ _ _ _ r q=>aH r.mem (bB.mpr rfl) q
theorem cZ {j pos}:cK X (.Constant .none j pos) (Oq .bJ):=up Lh fun _ _ _ _ _ r q=>aH r.mem (cE.mpr rfl) q
theorem uG {x j pos}:cK X (.Constant (.str x) j pos) (Oq (.str x)):=up Li fun _ _ _ _ _ r q=>aH r.mem (gF.mpr rfl) q
theorem bC {x:Str} {n:String} {pos:Pos} (hg:Gl X x) (hm:X.mg x=none) (hv:bootBuiltins x=some (.type n)) (hn:x≠"__name__" :=by decide) (hd:(x == ("__debug__" :Str))=false:=by decide):cK X (.Name x pos) (Oq (.ty n)):=
 up (IB (v:= .ty n) hg hm hv rfl hn hd) fun _ _ _ _ _ r q=>aH r.mem (Ce.mpr rfl) q
abbrev R3:=D→D→Mp→DK→Prop
structure qH (X:Cx) (f:Value→Value→Sem Value) (t:R3):Prop where
 run:∀ (pins:List (Addr ×Obj)) (s:Shared) (σ:St) (H:Hp) (M:Mp) (x y:V) (d e:D) (v u:Value) (Q:DK),Inv X pins σ H s→cP X.K H M→RelV x v→RelV y u→Dat X.K H d x→Dat X.K H e y→t d e M Q→
  wpAny (model X.prog X.w) X.A (f v u) (EP X pins σ (Post X.K M H Q)) X.xe s
theorem Nu {f:Value→Value→Sem Value} {r:R2} {t:R3} (h:AH X f r) (g:∀ H M x y d e Q,cP X.K H M→Dat X.K H d x→Dat X.K H e y→t d e M Q→r x y H (Post X.K M H Q)):qH X f t:=
 ⟨fun pins s σ H M x y d e v u Q I rm rx ry dx dy q=>h pins s σ H x y v u _ I rx ry (g H M x y d e Q rm dx dy q)⟩
def Jb (t:R3) (ta tb:dI):dI:=fun ρ M Q=>ta ρ M fun x M1=>tb ρ M1 fun y M2=>t x y M2 Q
theorem Ot (ha:cK X a ta) (hb:cK X b tb) {pins:List (Addr ×Obj)} {s:Shared} {σ:St} {H:Hp} {ρ:En} {M:Mp} {R:D→D→Mp→Prop} (I:Inv X pins σ H s) (r:Rep X.K H σ ρ M)
 (h:ta ρ M fun x M1=>tb ρ M1 fun y M2=>R x y M2) {Q:Value→Shared→Prop} {f:Value→Value→Sem Value}
 (hf:∀ v u s2 x y d e H2 M2,Inv X pins σ H2 s2→Rep X.K H2 σ ρ M2→Fr M H M2 H2→RelV x v→RelV y u→Dat X.K H2 d x→Dat X.K H2 e y→R d e M2→wpAny (model X.prog X.w) X.A (f v u) Q X.xe s2) :
 wpAny (model X.prog X.w) X.A (eval a X.env) (fun v s₁=>wpAny (model X.prog X.w) X.A (eval b X.env) (fun u s₂=>wpAny (model X.prog X.w) X.A (f v u) Q X.xe s₂) X.xe s₁) X.xe s:=by
 refine dW (ha.run pins s σ H ρ M _ I r h) fun v s1 ⟨x,H1,I1,r1,d,M1,f1,d1,pY,q1⟩=>?_
 have R1:=r.go f1 pY
 refine dW (hb.run pins s1 σ H1 ρ M1 _ I1 R1 q1) fun u s2 ⟨y,H2,I2,r2,e,M2,f2,d2,KH,q2⟩=>?_
 exact hf v u s2 x y d e H2 M2 I2 (R1.go f2 KH) (f1.trans f2) r1 r2 (Dat.mono (f2.ext pY) _ _ d1) d2 q2
theorem au {op:Operator} {t:R3} (ho:qH X (binaryOp op) t) (ha:cK X a ta) (hb:cK X b tb):cK X (.BinOp a op b pos) (Jb t ta tb):=by
 constructor
 intro pins s σ H ρ M Q I r h
 refine wpAny_BinOp (Ot ha hb I r h fun v u s2 x y d e H2 M2 I2 R2 f rx ry dx dy q=>?_)
 exact dW (ho.run pins s2 σ H2 M2 x y d e v u Q I2 R2.mem rx ry dx dy q) fun _ _ ⟨z,H3,I3,r3,p⟩=>⟨z,H3,I3,r3,p.back f⟩
theorem fG {op:CmpOp} {t:R3} (ho:qH X (compareOp op) t) (ha:cK X a ta) (hb:cK X b tb) (hm:behindInMarks op b=false):cK X (.Compare a [op] [b] pos) (Jb t ta tb):=by
 constructor
 intro pins s σ H ρ M Q I r h
 refine wpAny_Compare1 (Ot ha hb I r h fun v u s2 x y d e H2 M2 I2 R2 f rx ry dx dy q=>?_) hm
 exact dW (ho.run pins s2 σ H2 M2 x y d e v u Q I2 R2.mem rx ry dx dy q) fun _ _ ⟨z,H3,I3,r3,p⟩=>⟨z,H3,I3,r3,p.back f⟩
def Gv (t:dI):pX:=fun ρ M Q=>t ρ M fun x M'=> ∃ k,x= .bl k∧Q k M'
theorem aJ {op:CmpOp} {t:R3} (ho:qH X (compareOp op) t) (ha:cK X a ta) (hb:cK X b tb) (hm:behindInMarks op b=false):AY X (.Compare a [op] [b] pos) (Gv (Jb t ta tb)):=by
 constructor
 intro pins s σ H ρ M Q I r h
 refine wpAny_isTrue_Compare1 (dW (ha.run pins s σ H ρ M _ I r h) fun v s1 ⟨x,H1,I1,r1,d,M1,f1,d1,pY,q1⟩=>dW (hb.run pins s1 σ H1 ρ M1 _ I1 (r.go f1 pY) q1) fun u s2 ⟨y,H2,I2,r2,e,M2,f2,d2,KH,q2⟩=>
  dW (ho.run pins s2 σ H2 M2 x y d e v u _ I2 KH r1 r2 (Dat.mono (f2.ext pY) _ _ d1) d2 q2) fun w s3 ⟨z,H3,I3,r3,dz,M3,f3,d3,UN,k,ek,q3⟩=>?_) hm
 subst ek
 obtain rfl:=bB.mp d3
 cases r3
 exact wpAny_truthy_bool ⟨H3,I3,M3,(f1.trans f2).trans f3,UN,q3⟩
theorem gj {e:Expr} {t:dI} (h:cK X e t) (he:∀ whole,isTrue e X.env whole=(do let v ← whole;standAt e.pos;holding [v] (truthy v)):=by intro _;rfl):AY X e (Gv t):=by
 constructor
 intro pins s σ H ρ M Q I r hw
 refine isTrue_plain (dW (h.run pins s σ H ρ M _ I r hw) fun v s1 ⟨x,H1,I1,r1,d,M1,f1,d1,pY,k,ek,q1⟩=>?_) (he _)
 subst ek
 obtain rfl:=bB.mp d1
 cases r1
 exact wpAny_truthy_bool ⟨H1,I1,M1,f1,pY,q1⟩
variable {tA tB:pX} {rest:List Expr}
def Ou (t u:pX):pX:=fun ρ M Q=>t ρ M fun c M1=>if c=true then u ρ M1 Q else Q false M1
def Rx (t u:pX):pX:=fun ρ M Q=>t ρ M fun c M1=>if c=true then Q true M1 else u ρ M1 Q
def Ov (t:pX):pX:=fun ρ M Q=>t ρ M fun c M1=>Q (!c) M1
theorem nN (ha:AY X a tA):qK X (.BoolOp .And [a] pos) tA:=⟨fun wh pins s σ H ρ M Q I r h=>dW (pw_and1 ha.dn wh pins s σ H _ I ⟨ρ,M,Q,r,h,fun _ _ z=>z⟩) fun _ _ z=>z⟩
theorem nO (ha:AY X a tA):qK X (.BoolOp .Or [a] pos) tA:=⟨fun wh pins s σ H ρ M Q I r h=>dW (pw_or1 ha.dn wh pins s σ H _ I ⟨ρ,M,Q,r,h,fun _ _ z=>z⟩) fun _ _ z=>z⟩
theorem sY (ha:AY X a tA) (hb:qK X (.BoolOp .And (b :: rest) pos) tB):qK X (.BoolOp .And (a :: b :: rest) pos) (Ou tA tB):=⟨fun wh pins s σ H ρ M Q I r h=>
 pw_and ha.dn hb.dn wh pins s σ H _ I (rO r h fun c H' M' f r' q=>by
  cases c with
  | true=>exact ⟨ρ,M',Q,r',q,fun _ _ p=>p.back f⟩
  | false=>exact ⟨M',f,r'.mem,q⟩)⟩
theorem tS (ha:AY X a tA) (hb:qK X (.BoolOp .Or (b :: rest) pos) tB):qK X (.BoolOp .Or (a :: b :: rest) pos) (Rx tA tB):=⟨fun wh pins s σ H ρ M Q I r h=>
 pw_or ha.dn hb.dn wh pins s σ H _ I (rO r h fun c H' M' f r' q=>by
  cases c with
  | true=>exact ⟨M',f,r'.mem,q⟩
  | false=>exact ⟨ρ,M',Q,r',q,fun _ _ p=>p.back f⟩)⟩
theorem k_not (ha:AY X a tA):AY X (.UnaryOp .Not a pos) (Ov tA):=UM (Lj ha.dn) fun σ H ρ M Q r h=>rO r h fun _ _ M' f r' q=>⟨M',f,r'.mem,q⟩
def LM (ta tb:dI):dI:=fun ρ M Q=>ta ρ M fun x M1=> ∃ c,x= .bl c∧if c=true then tb ρ M1 Q else Q (.bl false) M1
def Ow (ta tb:dI):dI:=fun ρ M Q=>ta ρ M fun x M1=> ∃ c,x= .bl c∧if c=true then Q (.bl true) M1 else tb ρ M1 Q
def LN (ta:dI):dI:=fun ρ M Q=>ta ρ M fun x M1=> ∃ c,x= .bl c∧Q (.bl (!c)) M1
theorem nP {op} {t:dI} (h:cK X a t):cK X (.BoolOp op [a] pos) t:=⟨fun pins s σ H ρ M Q I r hw=>BoolOp_one (h.run pins s σ H ρ M Q I r hw)⟩
theorem jt (ha:cK X a ta) (hb:cK X (.BoolOp .And (b :: rest) pos) tb):cK X (.BoolOp .And (a :: b :: rest) pos) (LM ta tb):=up (Lk ha.dn hb.dn) fun σ H ρ M Q r h=>eB r h fun v H' d M' f dv r' ⟨k,ek,q⟩=>by
 subst ek
 obtain rfl:=bB.mp dv
 refine ⟨k,rfl,?_⟩
 cases k with
 | true=>exact ⟨ρ,M',Q,r',q,fun _ _ p=>p.back f⟩
 | false=>exact ⟨.bl false,M',f,bB.mpr rfl,r'.mem,q⟩
theorem Ry (ha:cK X a ta) (hb:cK X (.BoolOp .Or (b :: rest) pos) tb):cK X (.BoolOp .Or (a :: b :: rest) pos) (Ow ta tb):=up (NU ha.dn hb.dn) fun σ H ρ M Q r h=>eB r h fun v H' d M' f dv r' ⟨k,ek,q⟩=>by
 subst ek
 obtain rfl:=bB.mp dv
 refine ⟨k,rfl,?_⟩
 cases k with
 | true=>exact ⟨.bl true,M',f,bB.mpr rfl,r'.mem,q⟩
 | false=>exact ⟨ρ,M',Q,r',q,fun _ _ p=>p.back f⟩
theorem DC (ha:cK X a ta):cK X (.UnaryOp .Not a pos) (LN ta):=up (Ll ha.dn) fun σ H ρ M Q r h=>eB r h fun v H' d M' f dv r' ⟨k,ek,q⟩=>by
 subst ek
 obtain rfl:=bB.mp dv
 exact ⟨k,rfl,.bl (!k),M',f,bB.mpr rfl,r'.mem,q⟩
def Rz (t:pX) (ta tb:dI):dI:=fun ρ M Q=>t ρ M fun c M1=>if c=true then ta ρ M1 Q else tb ρ M1 Q
theorem Jc {c:Expr} (hc:AY X c tA) (ha:cK X a ta) (hb:cK X b tb):cK X (.IfExp c a b pos) (Rz tA ta tb):=up (FY hc.dn ha.dn hb.dn) fun σ H ρ M Q r h=>rO r h fun k H' M' f r' q=>by
 cases k with
 | true=>exact ⟨ρ,M',Q,r',q,fun _ _ p=>p.back f⟩
 | false=>exact ⟨ρ,M',Q,r',q,fun _ _ p=>p.back f⟩
def RA (t:D→Mp→DK→Prop) (ta:dI):dI:=fun ρ M Q=>ta ρ M fun x M1=>t x M1 Q
def RB:D→Mp→DK→Prop:=fun d M Q=> ∃ i,d= .int i∧Q (.int (-i)) M
theorem nQ (ha:cK X a ta):cK X (.UnaryOp .USub a pos) (RA RB ta):=up (N4 Lx ha.dn) fun σ H ρ M Q r h=>eB r h fun v H' d M' f dv r' ⟨i,ek,q⟩=>by
 subst ek
 obtain rfl:=aW.mp dv
 exact ⟨i,rfl,.int (-i),M',f,aW.mpr rfl,r'.mem,q⟩
def Sm (n:Nat) (i:Int):Prop:=i.natAbs < 2 ^ n
def MulOk (i j:Int):Prop:= ∃ m n,Sm m i∧Sm n j∧m+n≤100000
theorem uH {k n:Nat} (h:k < 2 ^ n):k.log2≤n:=by
 rcases abS k with z | z
 ·subst z;simp
 ·exact aaK (by rw [Nat.log2_lt (by omega)];exact h)
theorem qL {n:Nat} {i:Int} (h:Sm n i):Builtin.Int.intBits i≤n+1:=by
 unfold Builtin.Int.intBits
 have:=uH h
 first
  | (split <;> omega)
  | omega
theorem MulOk.ok {i j:Int} (h:MulOk i j):IntMulOk i j:=by
 obtain ⟨m,n,h1,h2,h3⟩:=h
 have b1:=qL h1
 have b2:=qL h2
 exact IntMulOk.of_bits (by omega) (by omega)
def LO (g:Int→Int→Int):R3:=fun d e M Q=> ∃ i j,d= .int i∧e= .int j∧Q (.int (g i j)) M
def yj (C:Int→Int→Prop) (g:Int→Int→Int):R3:=fun d e M Q=> ∃ i j,d= .int i∧e= .int j∧C i j∧Q (.int (g i j)) M
def DE (g:Int→Int→Bool):R3:=fun d e M Q=> ∃ i j,d= .int i∧e= .int j∧Q (.bl (g i j)) M
theorem Ox {f:Value→Value→Sem Value} {g:Int→Int→Int} (h:AH X f (IJ fun i j=> .int (g i j))):qH X f (LO g):=Nu h fun H M x y d e Q rm dx dy ⟨i,j,e1,e2,q⟩=>by
 subst e1;subst e2
 exact ⟨i,j,aW.mp dx,aW.mp dy,aH rm (aW.mpr rfl) q⟩
theorem AZ {f:Value→Value→Sem Value} {C:Int→Int→Prop} {g:Int→Int→Int} (h:AH X f (rI C fun i j=> .int (g i j))):qH X f (yj C g):=Nu h fun H M x y d e Q rm dx dy ⟨i,j,e1,e2,hc,q⟩=>by
 subst e1;subst e2
 exact ⟨i,j,aW.mp dx,aW.mp dy,hc,aH rm (aW.mpr rfl) q⟩
theorem Gw {f:Value→Value→Sem Value} {g:Int→Int→Bool} (h:AH X f (IJ fun i j=> .bl (g i j))):qH X f (DE g):=Nu h fun H M x y d e Q rm dx dy ⟨i,j,e1,e2,q⟩=>by
 subst e1;subst e2
 exact ⟨i,j,aW.mp dx,aW.mp dy,aH rm (bB.mpr rfl) q⟩
theorem dQ:qH X (binaryOp .Add) (LO fun i j=>i+j):=Ox Lu
theorem cO:qH X (binaryOp .Sub) (LO fun i j=>i - j):=Ox Lv
theorem dR:qH X (binaryOp .Mult) (yj MulOk fun i j=>i*j):=AZ (N5 fun _ _ _ _ _ _ _ hc q=>mul_int q hc.ok)
theorem bu:qH X (binaryOp .Mod) (yj (fun _ j=>0 < j) fun i j=>i % j):=AZ Lw
def Oz (_ j:Int):Prop:=0 < j∧∃ n,Sm n j∧n≤8000
theorem cu:qH X (binaryOp .FloorDiv) (yj Oz fun i j=>i / j):=AZ (N5 fun i j _ _ _ _ _ hc q=>floordiv_int (by have:=hc.1;omega) (by rw [Int.fdiv_eq_ediv_of_nonneg _ (by have:=hc.1;omega)];exact q) (.inl (PyProof.noPylong_of_log2 (by
 obtain ⟨_,n,h1,h2⟩:=hc
 have:=uH h1
 omega))))
def Gx (i j:Int):Prop:=0≤j∧j≤1000∧i.natAbs < 2 ^ 400
theorem Gx.bits {i j:Int} (h:Gx i j):(Builtin.Int.intBits i:Int)*j≤2 ^ 27:=by
 have hb:Builtin.Int.intBits i≤401:=qL (n:=400) h.2.2
 have h1:(Builtin.Int.intBits i:Int)*j≤401*j:=ZV (by omega) h.1
 have:=h.2.1
 omega
theorem nR:qH X (binaryOp .Pow) (yj Gx fun i j=>i ^ j.toNat):=AZ (N5 fun _ _ _ _ _ _ _ hc q=>pow_int hc.1 hc.bits q)
theorem RC:qH X (compareOp .Lt) (DE fun i j=>decide (i < j)):=Gw N9
theorem Jd:qH X (compareOp .Gt) (DE fun i j=>decide (j < i)):=Gw Oa
theorem RD:qH X (compareOp .GtE) (DE fun i j=>decide (j≤i)):=Gw Ob
inductive Qp where
 | bJ | bl (b:Bool) | int (i:Int) | str (x:Str)
 deriving DecidableEq
def Qp.d:Qp→D | .bJ=> .bJ | .bl b=> .bl b | .int i=> .int i | .str x=> .str x
def Qp.v:Qp→V | .bJ=> .bJ | .bl b=> .bl b | .int i=> .int i | .str x=> .str x
end
end L3
namespace L3
open PySem PySem.Spec PyProof.Rows L2
mutual
def eg:D→D→Bool
 | .bJ,e=>match e with | .bJ=>true | _=>false
 | .bl a,e=>match e with | .bl b=>a == b | .int b=>(if a then 1 else 0) == b | _=>false
 | .int a,e=>match e with | .bl b=>a == (if b then 1 else 0) | .int b=>a == b | _=>false
 | .str a,e=>match e with | .str b=>a == b | _=>false
 | .tup as,e=>match e with | .tup bs=>dj as bs | _=>false
 | .ty _,_=>false
 | .ref _,_=>false
 | .ze _,_=>false
 | .KC _,_=>false
 | .exc _ _ _,_=>false
def dj:List D→List D→Bool
 | [],e=>match e with | []=>true | _=>false
 | a :: as,e=>match e with | []=>false | b :: bs=>eg a b && dj as bs
end
def plain:Nat→D→Bool
 | _,.bJ=>true
 | _,.bl _=>true
 | _,.int _=>true
 | _,.str _=>true
 | n+1,.tup ds=>ds.all (plain n)
 | _,_=>false
theorem A0:dj [] []=true:=by simp [dj]
theorem kH (a b:D) (as bs:List D):dj (a :: as) (b :: bs)=(eg a b && dj as bs):=by simp [dj]
theorem lG (as bs:List D):eg (.tup as) (.tup bs)=dj as bs:=by simp [eg]
theorem c6 (a b:Int):eg (.int a) (.int b)=(a == b):=by simp [eg]
theorem gP:∀ (ds es:List D),dj ds es=((List.range (min ds.length es.length)).all (fun j=>eg (ds.getD j .bJ) (es.getD j .bJ)) && (ds.length == es.length))
 | [],[]=>by simp [dj]
 | [],e :: es=>by simp [dj]
 | d :: ds,[]=>by simp [dj]
 | d :: ds,e :: es=>by
   rw [kH,gP ds es]
   have h:min (d :: ds).length (e :: es).length=min ds.length es.length+1:=by simp only [Zj];omega
   rw [h,List.range_succ_eq_map,aaP,aba]
   simp only [List.getD_cons_zero,Zj]
   have h2:((fun j=>eg ((d :: ds).getD j D.bJ) ((e :: es).getD j D.bJ))∘Nat.succ)=fun j=>eg (ds.getD j D.bJ) (es.getD j D.bJ):=by
    funext j;simp
   rw [h2]
   have h3:(ds.length+1 == es.length+1)=(ds.length == es.length):=by
    rw [ZW];simp
   rw [h3,Bool.and_assoc]
theorem kI:∀ (n:Nat) (d:D),plain n d=true→eg d d=true:=by
 intro n
 induction n with
 | zero=>intro d h;cases d <;> simp [plain] at h <;> simp [eg]
 | succ n ih=>
   intro d h
   cases d with
   | tup ds=>
     have h:ds.all (plain n)=true:=by simpa [plain] using h
     rw [lG]
     have:∀ (es:List D),es.all (plain n)=true→dj es es=true:=by
      intro es
      induction es with
      | nil=>intro _;exact A0
      | cons e es UO=>
        intro h
        rw [aaP,ZX] at h
        rw [kH,ih e h.1,UO h.2];rfl
     exact this ds h
   | _=>first | (simp [plain] at h;done) | (simp [eg];done)
section
variable {K:PySem.W.Frag} {H:Hp}
theorem Dat.inj:∀ (n:Nat) (d e:D) (v:V),plain n d=true→plain n e=true→Dat K H d v→Dat K H e v→d=e:=by
 intro n
 induction n with
 | zero=>
   intro d e v pd pe hd he
   cases d <;> simp [plain] at pd <;> cases e <;> simp [plain] at pe <;> simp only [Dat] at hd he <;> subst hd <;> first | rfl | (injection he with z;rw [z]) | cases he
 | succ n ih=>
   intro d e v pd pe hd he
   have lists:∀ (ds es:List D) (xs:List V),ds.all (plain n)=true→es.all (plain n)=true→aM K H ds xs→aM K H es xs→ds=es:=by
    intro ds
    induction ds with
    | nil=>
      intro es xs _ _ h1 h2
      rw [aV.mp h1] at h2
      cases es with
      | nil=>rfl
      | cons e es=>obtain ⟨_,_,z,_⟩:=aQ.mp h2;cases z
    | cons d ds UP=>
      intro es xs p1 p2 h1 h2
      obtain ⟨v,vs,rfl,g1,g2⟩:=aQ.mp h1
      cases es with
      | nil=>cases aV.mp h2
      | cons e es=>
        obtain ⟨v',vs',z,g3,g4⟩:=aQ.mp h2
        injection z with z1 z2
        subst z1;subst z2
        rw [aaP,ZX] at p1 p2
        rw [ih d e v p1.1 p2.1 g1 g3,UP es vs p1.2 p2.2 g2 g4]
   cases d with
   | tup ds=>
     obtain ⟨a,xs,rfl,ha,hx⟩:=bH.mp hd
     cases e with
     | tup es=>
       obtain ⟨b,ys,z,hb,hy⟩:=bH.mp he
       injection z with z
       subst z
       rw [ha] at hb
       injection hb with hb
       injection hb with hb
       subst hb
       rw [lists ds es xs (by simpa [plain] using pd) (by simpa [plain] using pe) hx hy]
     | _=>first | (simp [plain] at pe;done) | (simp only [Dat] at he;cases he)
   | _=>first
     | (simp [plain] at pd;done)
     | (cases e <;> first
      | (simp [plain] at pe;done)
      | (obtain ⟨b,ys,z,hb,hy⟩:=bH.mp he;simp only [Dat] at hd;subst hd;cases z;done)
      | (simp only [Dat] at hd he;subst hd;first | rfl | (injection he with z;rw [z]) | cases he))
end
theorem uo {α:Type} {p:α→Bool} {xs:List α} (h:xs.all p=true) {i:Nat} {x:α} (e:xs[i]?=some x):p x=true:=(Zw.mp h) x (Y9 e)
section
variable {X:Cx} {pins:List (Addr ×Obj)} {σ:St} {H:Hp} {s:Shared}
theorem eY {P:Program} {w:World} {h:Heap} {a:Addr} {xs:List V} (ok:nH P w H h) (e:H a=some (.tup xs)):∃ its:List Value,Vals xs its∧IsTup h a its.toArray∧xs.length≤sizeLine:=by
 obtain ⟨z,its,r,p⟩:=(show eX P w H h a (.tup xs) from ok a _ e)
 exact ⟨its,r,p,z⟩
theorem Gy {P:Program} {w:World} (ok:nH P w H s.heap) {K:PySem.W.Frag}:∀ (n:Nat) (A:Around) (d e:D) (x y:V) (u v:Value),A.units+n < cLine→plain n d=true→plain n e=true→Dat K H d x→Dat K H e y→RelV x u→RelV y v→SeqAt.EqAt A s u v (eg d e):=by
 intro n
 induction n with
 | zero=>
   intro A d e x y u v hu pd pe dx dy rx ry
   cases d with
   | tup ds=>simp [plain] at pd
   | ty _=>simp [plain] at pd
   | ref _=>simp [plain] at pd
   | ze _=>simp [plain] at pd
   | KC _=>simp [plain] at pd
   | exc _ _ _=>simp [plain] at pd
   | bJ=>
     obtain rfl:=cE.mp dx
     cases rx
     cases e with
     | bJ=>obtain rfl:=cE.mp dy;cases ry;simpa [eg] using SeqAt.EqAt.same (A:=A) (s:=s) Value.none
     | bl b=>obtain rfl:=bB.mp dy;cases ry;simpa [eg] using SeqAt.EqAt.none_bool (A:=A) (s:=s) b
     | int b=>obtain rfl:=aW.mp dy;obtain ⟨t,rfl⟩:=ry;simpa [eg] using SeqAt.EqAt.none_int (A:=A) (s:=s) b t
     | str b=>obtain rfl:=gF.mp dy;obtain ⟨t,rfl⟩:=ry;simpa [eg] using SeqAt.EqAt.none_str (A:=A) (s:=s) b t
     | _=>simp [plain] at pe
   | bl a=>
     obtain rfl:=bB.mp dx
     cases rx
     cases e with
     | bJ=>obtain rfl:=cE.mp dy;cases ry;simpa [eg] using SeqAt.EqAt.bool_none (A:=A) (s:=s) a
     | bl b=>obtain rfl:=bB.mp dy;cases ry;simpa [eg] using SeqAt.EqAt.bool_bool (A:=A) (s:=s) a b
     | int b=>obtain rfl:=aW.mp dy;obtain ⟨t,rfl⟩:=ry;simpa [eg] using SeqAt.EqAt.bool_int (A:=A) (s:=s) a b t
     | str b=>obtain rfl:=gF.mp dy;obtain ⟨t,rfl⟩:=ry;simpa [eg] using SeqAt.EqAt.bool_str (A:=A) (s:=s) a b t
     | _=>simp [plain] at pe
   | int a=>
     obtain rfl:=aW.mp dx
     obtain ⟨t',rfl⟩:=rx
     cases e with
     | bJ=>obtain rfl:=cE.mp dy;cases ry;simpa [eg] using SeqAt.EqAt.int_none (A:=A) (s:=s) a t'
     | bl b=>obtain rfl:=bB.mp dy;cases ry;simpa [eg] using SeqAt.EqAt.int_bool (A:=A) (s:=s) a t' b
     | int b=>obtain rfl:=aW.mp dy;obtain ⟨t,rfl⟩:=ry;simpa [eg] using SeqAt.EqAt.int_int (A:=A) (s:=s) a t' b t
     | str b=>obtain rfl:=gF.mp dy;obtain ⟨t,rfl⟩:=ry;simpa [eg] using SeqAt.EqAt.int_str (A:=A) (s:=s) a t' b t
     | _=>simp [plain] at pe
   | str a=>
     obtain rfl:=gF.mp dx
     obtain ⟨t',rfl⟩:=rx
     cases e with
     | bJ=>obtain rfl:=cE.mp dy;cases ry;simpa [eg] using SeqAt.EqAt.str_none (A:=A) (s:=s) a t'
     | bl b=>obtain rfl:=bB.mp dy;cases ry;simpa [eg] using SeqAt.EqAt.str_bool (A:=A) (s:=s) a t' b
     | int b=>obtain rfl:=aW.mp dy;obtain ⟨t,rfl⟩:=ry;simpa [eg] using SeqAt.EqAt.str_int (A:=A) (s:=s) a t' b t
     | str b=>obtain rfl:=gF.mp dy;obtain ⟨t,rfl⟩:=ry;simpa [eg] using SeqAt.EqAt.str_str (A:=A) (s:=s) a t' b t
     | _=>simp [plain] at pe
 | succ n ih=>
   intro A d e x y u v hu pd pe dx dy rx ry
   have flat:∀ (z:D),plain (n+1) z=true→(∀ zs,z≠ .tup zs)→plain n z=true:=by
    intro z pz nz
    cases z with
    | tup zs=>exact absurd rfl (nz zs)
    | _=>first | (simp [plain];done) | (simp [plain] at pz;done)
   have hun:A.units < cLine:=by omega
   cases d with
   | tup ds=>
     obtain ⟨a,xs,rfl,ha,hx⟩:=bH.mp dx
     obtain rfl:u=Value.ref a:=rx
     obtain ⟨its,rv,pt,hz⟩:=eY ok ha
     cases e with
     | tup es=>
       obtain ⟨b,ys,rfl,hb,hy⟩:=bH.mp dy
       obtain rfl:v=Value.ref b:=ry
       obtain ⟨its2,rL,yb,hz2⟩:=eY ok hb
       by_cases hab:a=b
       ·subst hab
        have:=Dat.inj (K:=K) (H:=H) (n+1) _ _ _ pd pe dx dy
        rw [← this,kI (n+1) _ pd]
        exact SeqAt.EqAt.same _
       ·refine SeqAt.EqAt.of_refs hab ?_
        have hl1:=hx.length.trans rv.length
        have hl2:=hy.length.trans rL.length
        have key:=SeqAt.RcAt.tuples (A:=A) (s:=s) (e:=fun j=>eg (ds.getD j .bJ) (es.getD j .bJ)) pt yb hun (fun j h1 h2=>?_)
        ·rw [lG,gP]
         simp only [Za,← hl1,← hl2] at key
         exact key
        ·simp only [Za] at h1 h2
         have e1:ds[j]?=some (ds.getD j .bJ):=by rw [Zd,Y7 (by omega)];rfl
         have e2:es[j]?=some (es.getD j .bJ):=by rw [Zd,Y7 (by omega)];rfl
         obtain ⟨x1,g1,g2⟩:=hx.get e1
         obtain ⟨y1,g3,g4⟩:=hy.get e2
         obtain ⟨u1,g5,g6⟩:=rv.get g1
         obtain ⟨v1,g7,g8⟩:=rL.get g3
         have q1:its.toArray[j]=u1:=by
          have:its[j]=u1:=Option.some.inj ((Y7 (by omega)).symm.trans g5)
          simpa using this
         have q2:its2.toArray[j]=v1:=by
          have:its2[j]=v1:=Option.some.inj ((Y7 (by omega)).symm.trans g7)
          simpa using this
         rw [q1,q2]
         have UQ:ds.all (plain n)=true:=by simpa [plain] using pd
         have UR:es.all (plain n)=true:=by simpa [plain] using pe
         exact ih A.in1 _ _ x1 y1 u1 v1 (by show A.units+1+n < cLine;omega) (uo UQ e1) (uo UR e2) g2 g4 g6 g8
     | bJ=>obtain rfl:=cE.mp dy;cases ry;simpa [eg] using SeqAt.EqAt.tuple_none (A:=A) (s:=s) pt hun
     | bl b=>obtain rfl:=bB.mp dy;cases ry;simpa [eg] using SeqAt.EqAt.tuple_bool (A:=A) (s:=s) b pt hun
     | int b=>obtain rfl:=aW.mp dy;obtain ⟨t,rfl⟩:=ry;simpa [eg] using SeqAt.EqAt.tuple_int (A:=A) (s:=s) b t pt hun
     | str b=>obtain rfl:=gF.mp dy;obtain ⟨t,rfl⟩:=ry;simpa [eg] using SeqAt.EqAt.tuple_str (A:=A) (s:=s) b t pt hun
     | _=>simp [plain] at pe
   | _=>
     first
     | (simp [plain] at pd;done)
     | (cases e with
      | tup es=>
        obtain ⟨b,ys,rfl,hb,hy⟩:=bH.mp dy
        obtain rfl:v=Value.ref b:=ry
        obtain ⟨its2,rL,yb,hz2⟩:=eY ok hb
        first
        | (obtain rfl:=cE.mp dx;cases rx;simpa [eg] using SeqAt.EqAt.none_tuple (A:=A) (s:=s) yb hun)
        | (obtain rfl:=bB.mp dx;cases rx;simpa [eg] using SeqAt.EqAt.bool_tuple (A:=A) (s:=s) _ yb hun)
        | (obtain rfl:=aW.mp dx;obtain ⟨t,rfl⟩:=rx;simpa [eg] using SeqAt.EqAt.int_tuple (A:=A) (s:=s) _ t yb hun)
        | (obtain rfl:=gF.mp dx;obtain ⟨t,rfl⟩:=rx;simpa [eg] using SeqAt.EqAt.str_tuple (A:=A) (s:=s) _ t yb hun)
      | _=>
        first
        | (simp [plain] at pe;done)
        | exact ih A _ _ x y u v (by omega) (flat _ pd (fun _ z=>by cases z)) (flat _ pe (fun _ z=>by cases z)) dx dy rx ry)
def Gz:D→D→Bool
 | .bJ,.bJ=>true | .bJ,.int _=>true | .int _,.bJ=>true | .bJ,.bl _=>true | .bl _,.bJ=>true | .bJ,.str _=>true | .str _,.bJ=>true
 | .int _,.int _=>true | .bl _,.bl _=>true | .str _,.str _=>true
 | _,_=>false
def Je (d e:D):Bool:=match d,e with
 | .tup ds,.tup es=>plain 10 (.tup ds) && plain 10 (.tup es)
 | d,e=>Gz d e
def RE:R3:=fun d e M Q=>Je d e=true∧Q (.bl (eg d e)) M
def RG:R3:=fun d e M Q=>Je d e=true∧Q (.bl (!eg d e)) M
theorem GA {K:PySem.W.Frag} {d e:D} {x y:V} (h:Gz d e=true) (dx:Dat K H d x) (dy:Dat K H e y):Ly x y=true∧decide (x=y)=eg d e:=by
 cases d <;> cases e <;> first
  | (simp [Gz] at h;done)
  | (simp only [Dat] at dx dy;subst dx;subst dy;refine ⟨rfl,?_⟩;rw [ZW];simp [eg])
theorem nS {P:Program} {w:World} (ok:nH P w H s.heap) {K:PySem.W.Frag} {A:Around} {ds es:List D} {xs ys:List V} {its its2:List Value} {n:Nat} (hu:A.units+n < cLine) (pd:ds.all (plain n)=true) (pe:es.all (plain n)=true) (hx:aM K H ds xs) (hy:aM K H es ys) (rv:Vals xs its) (rL:Vals ys its2) :
 ∀ j (h1:j < its.toArray.size) (h2:j < its2.toArray.size),SeqAt.EqAt A s its.toArray[j] its2.toArray[j] (eg (ds.getD j .bJ) (es.getD j .bJ)):=by
 intro j h1 h2
 have hl1:=hx.length.trans rv.length
 have hl2:=hy.length.trans rL.length
 simp only [Za] at h1 h2
 have e1:ds[j]?=some (ds.getD j .bJ):=by rw [Zd,Y7 (by omega)];rfl
 have e2:es[j]?=some (es.getD j .bJ):=by rw [Zd,Y7 (by omega)];rfl
 obtain ⟨x1,g1,g2⟩:=hx.get e1
 obtain ⟨y1,g3,g4⟩:=hy.get e2
 obtain ⟨u1,g5,g6⟩:=rv.get g1
 obtain ⟨v1,g7,g8⟩:=rL.get g3
 have q1:its.toArray[j]=u1:=by
  have:its[j]=u1:=Option.some.inj ((Y7 (by omega)).symm.trans g5)
  simpa using this
 have q2:its2.toArray[j]=v1:=by
  have:its2[j]=v1:=Option.some.inj ((Y7 (by omega)).symm.trans g7)
  simpa using this
 rw [q1,q2]
 exact Gy ok n A _ _ x1 y1 u1 v1 hu (uo pd e1) (uo pe e2) g2 g4 g6 g8
theorem e9 (hu:X.A.units+64 < cLine):qH X (compareOp .Eq) RE:=by
 constructor
 intro pins s σ H M x y d e v u Q I rm rx ry dx dy ⟨hk,q⟩
 by_cases ht:∃ ds es,d= .tup ds∧e= .tup es
 ·obtain ⟨ds,es,rfl,rfl⟩:=ht
  have hk:(plain 10 (.tup ds) && plain 10 (.tup es))=true:=hk
  rw [ZX] at hk
  obtain ⟨a,xs,rfl,ha,hx⟩:=bH.mp dx
  obtain ⟨b,ys,rfl,hb,hy⟩:=bH.mp dy
  obtain rfl:v=Value.ref a:=rx
  obtain rfl:u=Value.ref b:=ry
  obtain ⟨its,rv,pt,hz⟩:=eY I.hok ha
  obtain ⟨its2,rL,yb,hz2⟩:=eY I.hok hb
  have hl1:=hx.length.trans rv.length
  have hl2:=hy.length.trans rL.length
  refine SeqAt.RcAt.tuples (A:=X.A) (s:=s) (e:=fun j=>eg (ds.getD j .bJ) (es.getD j .bJ)) pt yb (by omega) (nS I.hok (n:=9) (by show X.A.units+1+9 < cLine;omega) (by simpa [plain] using hk.1) (by simpa [plain] using hk.2) hx hy rv rL) _ _ _ _ ?_
  refine ⟨.bl _,H,I,rfl,aH rm (bB.mpr rfl) ?_⟩
  simp only [Za,← hl1,← hl2]
  rw [lG,gP] at q
  exact q
 ·have hs:Gz d e=true:=by
   unfold Je at hk
   split at hk
   ·exact absurd ⟨_,_,rfl,rfl⟩ ht
   ·exact hk
  obtain ⟨h1,h2⟩:=GA hs dx dy
  exact N7 pins s σ H x y v u _ I rx ry ⟨h1,by rw [h2];exact aH rm (bB.mpr rfl) q⟩
theorem nT (hu:X.A.units+64 < cLine):qH X (compareOp .NotEq) RG:=by
 constructor
 intro pins s σ H M x y d e v u Q I rm rx ry dx dy ⟨hk,q⟩
 by_cases ht:∃ ds es,d= .tup ds∧e= .tup es
 ·obtain ⟨ds,es,rfl,rfl⟩:=ht
  have hk:(plain 10 (.tup ds) && plain 10 (.tup es))=true:=hk
  rw [ZX] at hk
  obtain ⟨a,xs,rfl,ha,hx⟩:=bH.mp dx
  obtain ⟨b,ys,rfl,hb,hy⟩:=bH.mp dy
  obtain rfl:v=Value.ref a:=rx
  obtain rfl:u=Value.ref b:=ry
  obtain ⟨its,rv,pt,hz⟩:=eY I.hok ha
  obtain ⟨its2,rL,yb,hz2⟩:=eY I.hok hb
  have hl1:=hx.length.trans rv.length
  have hl2:=hy.length.trans rL.length
  refine SeqAt.RcNeAt.tuples (A:=X.A) (s:=s) (e:=fun j=>eg (ds.getD j .bJ) (es.getD j .bJ)) pt yb (by omega) (nS I.hok (n:=9) (by show X.A.units+1+9 < cLine;omega) (by simpa [plain] using hk.1) (by simpa [plain] using hk.2) hx hy rv rL) _ _ _ _ ?_
  refine ⟨.bl _,H,I,rfl,aH rm (bB.mpr rfl) ?_⟩
  simp only [Za,← hl1,← hl2]
  rw [lG,gP] at q
  exact q
 ·have hs:Gz d e=true:=by
   unfold Je at hk
   split at hk
   ·exact absurd ⟨_,_,rfl,rfl⟩ ht
   ·exact hk
  obtain ⟨h1,h2⟩:=GA hs dx dy
  exact N8 pins s σ H x y v u _ I rx ry ⟨h1,by rw [h2];exact aH rm (bB.mpr rfl) q⟩
noncomputable def Qq (K:PySem.W.Frag) (H:Hp) (v:V):D:=open Classical in if h:∃ d,plain 9 d=true∧Dat K H d v then h.choose else .bJ
theorem LP {K:PySem.W.Frag} {d:D} {v:V} (p:plain 9 d=true) (h:Dat K H d v):Qq K H v=d:=by
 have hx:∃ d,plain 9 d=true∧Dat K H d v:=⟨d,p,h⟩
 unfold Qq
 rw [dif_pos hx]
 exact Dat.inj 9 _ _ v hx.choose_spec.1 p hx.choose_spec.2 h
noncomputable def AJ (K:PySem.W.Frag) (H:Hp) (d:D) (u:Value):Bool:=match NV u with
 | some v=>eg (Qq K H v) d
 | none=>false
theorem Cg {K:PySem.W.Frag} {d e:D} {v:V} {u:Value} (p:plain 9 e=true) (h:Dat K H e v) (r:RelV v u):AJ K H d u=eg e d:=by
 unfold AJ
 rw [r.abs]
 show eg (Qq K H v) d=_
 rw [LP p h]
theorem qM {K:PySem.W.Frag} {d:D}:∀ {es:List D} {xs:List V} {us:List Value},aM K H es xs→Vals xs us→es.all (plain 9)=true→us.any (AJ K H d)=es.any fun e=>eg e d
 | [],xs,us,h,r,_=>by rw [aV.mp h] at r;cases r;rfl
 | e :: es,xs,us,h,r,p=>by
   obtain ⟨v,vs,rfl,h1,h2⟩:=aQ.mp h
   cases r with
   | cons r rr=>
     rw [aaP,ZX] at p
     rw [aa3,aa3,Cg p.1 h1 r,qM h2 rr p.2]
theorem pJ {P:Program} {w:World} (ok:nH P w H s.heap) {K:PySem.W.Frag} {A:Around} {d:D} {x:V} {v:Value} (hu:A.units+9 < cLine) (pd:plain 9 d=true) (dx:Dat K H d x) (rx:RelV x v) :
 ∀ {es:List D} {xs:List V} {us:List Value},aM K H es xs→Vals xs us→es.all (plain 9)=true→∀ u∈us,SeqAt.EqAt A s u v (AJ K H d u)
 | [],xs,us,h,r,_,u,hm=>by rw [aV.mp h] at r;cases r;cases hm
 | e :: es,xs,us,h,r,p,u,hm=>by
   obtain ⟨y,ys,rfl,h1,h2⟩:=aQ.mp h
   cases r with
   | cons r rr=>
     rw [aaP,ZX] at p
     rcases Y6.mp hm with rfl | hm
     ·rw [Cg p.1 h1 r]
      exact Gy ok 9 A _ _ _ _ _ _ hu p.1 pd h1 dx r rx
     ·exact pJ ok hu pd dx rx h2 rr p.2 u hm
def inD (d:D) (es:List D):Bool:=es.any fun e=>eg e d
def OA (M:Mp) (e:D) (es:List D):Prop:=e= .tup es∨∃ a,e= .ref a∧M a=some (.lst es)
def OB (neg:Bool):R3:=fun d e M Q=> ∃ es,OA M e es∧plain 9 d=true∧es.all (plain 9)=true∧Q (.bl (if neg then !inD d es else inD d es)) M
theorem OC (hu:X.A.units+64 < cLine):qH X (compareOp .In) (OB false):=by
 constructor
 intro pins s σ H M x y d e v u Q I rm rx ry dx dy ⟨es,hs,pd,pe,q⟩
 rcases hs with rfl | ⟨a,rfl,hM⟩
 ·obtain ⟨b,ys,rfl,hb,hy⟩:=bH.mp dy
  obtain rfl:u=Value.ref b:=ry
  obtain ⟨its,rv,pt,hz⟩:=eY I.hok hb
  refine SeqAt.in_tupleAt (AJ X.K H d) pt (fun w hw=>pJ I.hok (by show X.A.units+1+9 < cLine;omega) pd dx rx hy rv pe w (by simpa using hw)) ⟨.bl _,H,I,rfl,aH rm (bB.mpr rfl) ?_⟩
  rw [show its.toArray.any (AJ X.K H d)=its.any (AJ X.K H d) by simp,qM hy rv pe]
  exact q
 ·obtain rfl:=aK.mp dy
  obtain rfl:u=Value.ref a:=ry
  obtain ⟨ys,hb,hy⟩:=rm.lst hM
  obtain ⟨its,rv,pl,hz⟩:=I.list (iD.of hb)
  refine SeqAt.in_listAt (AJ X.K H d) pl.isList (fun w hw=>pJ I.hok (by show X.A.units+1+9 < cLine;omega) pd dx rx hy rv pe w (by simpa using hw)) ⟨.bl _,H,I,rfl,aH rm (bB.mpr rfl) ?_⟩
  rw [show its.toArray.any (AJ X.K H d)=its.any (AJ X.K H d) by simp,qM hy rv pe]
  exact q
theorem iI (hu:X.A.units+64 < cLine):qH X (compareOp .NotIn) (OB true):=by
 constructor
 intro pins s σ H M x y d e v u Q I rm rx ry dx dy ⟨es,hs,pd,pe,q⟩
 rcases hs with rfl | ⟨a,rfl,hM⟩
 ·obtain ⟨b,ys,rfl,hb,hy⟩:=bH.mp dy
  obtain rfl:u=Value.ref b:=ry
  obtain ⟨its,rv,pt,hz⟩:=eY I.hok hb
  refine SeqAt.notIn_tupleAt (AJ X.K H d) pt (fun w hw=>pJ I.hok (by show X.A.units+1+9 < cLine;omega) pd dx rx hy rv pe w (by simpa using hw)) ⟨.bl _,H,I,rfl,aH rm (bB.mpr rfl) ?_⟩
  rw [show its.toArray.any (AJ X.K H d)=its.any (AJ X.K H d) by simp,qM hy rv pe]
  exact q
 ·obtain rfl:=aK.mp dy
  obtain rfl:u=Value.ref a:=ry
  obtain ⟨ys,hb,hy⟩:=rm.lst hM
  obtain ⟨its,rv,pl,hz⟩:=I.list (iD.of hb)
  refine SeqAt.notIn_listAt (AJ X.K H d) pl.isList (fun w hw=>pJ I.hok (by show X.A.units+1+9 < cLine;omega) pd dx rx hy rv pe w (by simpa using hw)) ⟨.bl _,H,I,rfl,aH rm (bB.mpr rfl) ?_⟩
  rw [show its.toArray.any (AJ X.K H d)=its.any (AJ X.K H d) by simp,qM hy rv pe]
  exact q
theorem rP {K:PySem.W.Frag}:∀ {ns:List Int} {xs:List V},aM K H (ns.map D.int) xs→xs=ns.map V.int
 | [],xs,h=>aV.mp h
 | n :: ns,xs,h=>by
   obtain ⟨v,vs,rfl,h1,h2⟩:=aQ.mp h
   rw [aW.mp h1,rP h2];rfl
def Og:R3:=fun d e M Q=> ∃ ns ms:List Int,d= .tup (ns.map D.int)∧e= .tup (ms.map D.int)∧Q (.bl (HT.lexLt ns ms)) M
theorem OD (hu:X.A.units+64 < cLine):qH X (compareOp .Lt) Og:=by
 constructor
 intro pins s σ H M x y d e v u Q I rm rx ry dx dy ⟨ns,ms,e1,e2,q⟩
 subst e1;subst e2
 obtain ⟨a,xs,rfl,ha,hx⟩:=bH.mp dx
 obtain ⟨b,ys,rfl,hb,hy⟩:=bH.mp dy
 obtain rfl:v=Value.ref a:=rx
 obtain rfl:u=Value.ref b:=ry
 obtain ⟨its,rv,pt,hz⟩:=eY I.hok ha
 obtain ⟨its2,rL,yb,hz2⟩:=eY I.hok hb
 rw [rP hx] at rv
 rw [rP hy] at rL
 exact HT.gu pt yb (by simpa using intsAre_of rv) (by simpa using intsAre_of rL) (by omega) ⟨.bl _,H,I,rfl,aH rm (bB.mpr rfl) q⟩
end
end L3
namespace L3
open PySem PySem.Spec PyProof.Rows L2
section
variable {X:Cx} {a b c e:Expr} {es:List Expr} {ta tb tc te:dI} {t:yi} {pos p:Pos}
def OE:yi:=fun _ M Q=>Q [] M
def LQ (ta:dI) (tr:yi):yi:=fun ρ M Q=>ta ρ M fun x M1=>tr ρ M1 fun xs M2=>Q (x :: xs) M2
theorem aj:DB X [] OE:=⟨fun pos pins s σ H ρ M Q I r h=>lD pos pins s σ H _ I ⟨[],M,.refl _ _,aV.mpr rfl,r.mem,h⟩⟩
theorem af (ha:cK X e te) (hr:DB X es t) (hs:starEach (e :: es) X.env=(false,eval e X.env) :: starEach es X.env:=by rfl):DB X (e :: es) (LQ te t):=⟨fun pos pins s σ H ρ M Q I r h=>
 iG ha.dn hr.dn hs pos pins s σ H _ I (eB r h fun v H' d M' f dv r' q=>qi r' q fun vs H2 ds M2 f2 FJ r2 q2=>
  ⟨d :: ds,M2,f.trans f2,aQ.mpr ⟨v,vs,rfl,Dat.mono (f2.ext r'.mem) _ _ dv,FJ⟩,r2.mem,q2⟩)⟩
def OF (t:yi):dI:=fun ρ M Q=>t ρ M fun xs M1=>xs.length≤sizeLine∧Q (.tup xs) M1
def OG (t:yi):dI:=fun ρ M Q=>t ρ M fun xs M1=>xs.length≤sizeLine∧∀ p,M1 p=none→Q (.ref p) (aE M1 p (.lst xs))
theorem cL {x1} (h:DB X es t):cK X (.Tuple es x1 pos) (OF t):=up (LB h.dn) fun σ H ρ M Q r q=>qi r q fun vs H' ds M' f dv r' ⟨hl,q⟩=>
 ⟨by rw [← dv.length];exact hl,fun p hp=>⟨.tup ds,M',f.trans (Fr.new hp fun _ _=>rfl),bH.mpr ⟨p,vs,rfl,fT,aM.mono (Ext.new hp) _ _ dv⟩,r'.mem.new hp,q⟩⟩
theorem cR (h:DB X es t):cK X (.List es pos) (OG t):=up (LC h.dn) fun σ H ρ M Q r q=>qi r q fun vs H' ds M' f dv r' ⟨hl,q⟩=>
 ⟨by rw [← dv.length];exact hl,fun p hp=>⟨.ref p,aE M' p (.lst ds),f.trans (Fr.new hp fun _ hb=>bg hb),aK.mpr rfl,r'.mem.newL hp dv,q p (r'.mem.free hp)⟩⟩
def OH (M:Mp) (e:D) (es:List D):Prop:=e= .tup es∨e= .ze es∨∃ a,e= .ref a∧M a=some (.lst es)
def RH:R3:=fun d e M Q=> ∃ xs i z,OH M d xs∧e= .int i∧uF xs i=some z∧Q z M
theorem LR {α β:Type} {xs:List α} {ys:List β} (h:xs.length=ys.length) {i:Int} {z:α} (e:uF xs i=some z):∃ j,FL ys.length i=some j∧xs[j]?=some z:=by
 unfold uF at e
 rw [h] at e
 cases q:FL ys.length i with
 | none=>rw [q] at e;cases e
 | some j=>rw [q] at e;exact ⟨j,rfl,e⟩
theorem uI {K:PySem.W.Frag} {H:Hp} {ds:List D} {xs:List V} (h:aM K H ds xs) {i:Int} {z:D} (e:uF ds i=some z):∃ v,uF xs i=some v∧Dat K H z v:=by
 obtain ⟨j,h1,h2⟩:=LR h.length e
 obtain ⟨v,h3,h4⟩:=h.get h2
 refine ⟨v,?_,h4⟩
 unfold uF
 rw [h1]
 exact h3
theorem aO (ha:cK X a ta) (hb:cK X b tb) (hs:Dv b:=by intro _ _;rfl):cK X (.Subscript a b pos) (Jb RH ta tb):=up (Oh (IU.or LI) ha.dn hb.dn hs) fun σ H ρ M Q r q=>
 eB r q fun v H' d M' f dv r' q=>eB r' q fun u H2 e M2 f2 du r2 ⟨xs,i,z,hq,ei,at',q⟩=>by
  subst ei
  obtain rfl:=aW.mp du
  have RI:=Dat.mono (f2.ext r'.mem) _ _ dv
  have fin:∀ w,Dat X.K H2 z w→Post X.K M H Q w H2:=fun w dw=>⟨z,M2,f.trans f2,dw,r2.mem,q⟩
  rcases hq with rfl | rfl | ⟨l,rfl,hl⟩
  ·obtain ⟨p,ys,rfl,hp,hy⟩:=bH.mp RI
   obtain ⟨w,h1,h2⟩:=uI hy at'
   exact .inr ⟨p,ys,i,w,rfl,rfl,wK.of hp,h1,fin w h2⟩
  ·obtain ⟨p,ys,rfl,hp,hy⟩:=qJ.mp RI
   obtain ⟨w,h1,h2⟩:=uI hy at'
   exact .inl ⟨p,ys,i,w,rfl,rfl,hp.sq,h1,fin w h2⟩
  ·obtain rfl:=aK.mp RI
   obtain ⟨ys,hp,hy⟩:=r2.mem.lst hl
   obtain ⟨w,h1,h2⟩:=uI hy at'
   exact .inl ⟨l,ys,i,w,rfl,rfl,iD.of hp,h1,fin w h2⟩
structure Call3 (X:Cx) (f:Value) (t:List D→Mp→DK→Prop):Prop where
 run:∀ (pins:List (Addr ×Obj)) (s:Shared) (σ:St) (H:Hp) (M:Mp) (xs:List V) (ds:List D) (us:List Value) (Q:DK),Inv X pins σ H s→cP X.K H M→Vals xs us→aM X.K H ds xs→t ds M Q→
  wpAny (model X.prog X.w) X.A (call f us) (EP X pins σ (Post X.K M H Q)) X.xe s
theorem GB {f:Value} {r:List V→Hp→VK→Prop} {t:List D→Mp→DK→Prop} (h:Dm X f r) (g:∀ H M xs ds Q,cP X.K H M→aM X.K H ds xs→t ds M Q→r xs H (Post X.K M H Q)):Call3 X f t:=
 ⟨fun pins s σ H M xs ds us Q I rm rs dx q=>h pins s σ H xs us _ I rs (g H M xs ds Q rm dx q)⟩
def OI (r:List D→Mp→DK→Prop) (t:yi):dI:=fun ρ M Q=>t ρ M fun ds M1=>r ds M1 Q
variable {x:Str} {id T:String} {r:List D→Mp→DK→Prop}
theorem aR (hc:Call3 X (.builtin id) r) (hg:Gl X x) (hm:X.mg x=none) (hv:bootBuiltins x=some (.builtin id)) (ha:DB X (e :: es) t) (hn:x≠"__name__" :=by decide) (hdb:(x == ("__debug__" :Str))=false:=by decide)
 (he:starEach (e :: es) X.env=(false,eval e X.env) :: starEach es X.env:=by rfl) (hpl:(backTo pos (starEach es X.env)).any (·.1)=false:=by rfl):cK X (.Call (.Name x p) (e :: es) [] pos) (OI r t):=by
 constructor
 intro pins s σ H ρ M Q I r h
 refine wpAny_Call_Name_kw (lC I hg hm hv ?_ hn hdb)
 refine PyProof.Rows.callWith_builtin1 (dW (ha.run pos pins s σ H ρ M _ I r h) fun us s1 ⟨vs,H1,I1,r1,ds,M1,f1,d1,pY,q1⟩=>?_) he hpl
 exact dW (hc.run pins s1 σ H1 M1 vs ds us Q I1 pY r1 d1 q1) fun _ _ ⟨z,H3,I3,r3,p⟩=>⟨z,H3,I3,r3,p.back f1⟩
theorem A4 (hc:Call3 X (.type T) r) (hg:Gl X x) (hm:X.mg x=none) (hv:bootBuiltins x=some (.type T)) (ha:DB X (e :: es) t) (hn:x≠"__name__" :=by decide) (hdb:(x == ("__debug__" :Str))=false:=by decide)
 (he:starEach (e :: es) X.env=(false,eval e X.env) :: starEach es X.env:=by rfl) (hpl:(backTo pos (starEach es X.env)).any (·.1)=false:=by rfl):cK X (.Call (.Name x p) (e :: es) [] pos) (OI r t):=by
 constructor
 intro pins s σ H ρ M Q I r h
 refine wpAny_Call_Name_kw (lC I hg hm hv ?_ hn hdb)
 refine PyProof.Rows.callWith_type1 (dW (ha.run pos pins s σ H ρ M _ I r h) fun us s1 ⟨vs,H1,I1,r1,ds,M1,f1,d1,pY,q1⟩=>?_) he hpl
 exact dW (hc.run pins s1 σ H1 M1 vs ds us Q I1 pY r1 d1 q1) fun _ _ ⟨z,H3,I3,r3,p⟩=>⟨z,H3,I3,r3,p.back f1⟩
theorem nU {K:PySem.W.Frag} {H:Hp} {d:D} {xs:List V} (h:aM K H [d] xs):∃ v,xs= [v]∧Dat K H d v:=by
 obtain ⟨v,vs,rfl,h1,h2⟩:=aQ.mp h
 rw [aV.mp h2]
 exact ⟨v,rfl,h1⟩
theorem qN {K:PySem.W.Frag} {H:Hp} {d e:D} {xs:List V} (h:aM K H [d,e] xs):∃ v u,xs= [v,u]∧Dat K H d v∧Dat K H e u:=by
 obtain ⟨v,vs,rfl,h1,h2⟩:=aQ.mp h
 obtain ⟨u,rfl,h3⟩:=nU h2
 exact ⟨v,u,rfl,h1,h3⟩
def RJ:List D→Mp→DK→Prop:=fun ds M Q=> ∃ d xs,ds= [d]∧OH M d xs∧Q (.int xs.length) M
theorem eE:Call3 X (.builtin "len") RJ:=GB zc fun H M xs ds Q rm dx ⟨d,ys,ei,hs,q⟩=>by
 subst ei
 obtain ⟨v,rfl,hv⟩:=nU dx
 rcases hs with rfl | rfl | ⟨l,rfl,hl⟩
 ·obtain ⟨p,zs,rfl,hp,hz⟩:=bH.mp hv
  exact ⟨p,zs,rfl,.inr (wK.of hp),aH rm (aW.mpr (by rw [hz.length])) q⟩
 ·obtain ⟨p,zs,rfl,hp,hz⟩:=qJ.mp hv
  exact ⟨p,zs,rfl,.inl hp.sq,aH rm (aW.mpr (by rw [hz.length])) q⟩
 ·obtain rfl:=aK.mp hv
  obtain ⟨zs,hp,hz⟩:=rm.lst hl
  exact ⟨l,zs,rfl,.inl (iD.of hp),aH rm (aW.mpr (by rw [hz.length])) q⟩
def OJ:List D→Mp→DK→Prop:=fun ds M Q=> ∃ i j:Int,ds= [.int i,.int j]∧Q (.int (min i j)) M
theorem LS (hc:X.calm=true):Call3 X (.builtin "min") OJ:=GB (EE hc) fun H M xs ds Q rm dx ⟨i,j,ei,q⟩=>by
 subst ei
 obtain ⟨v,u,rfl,hv,hu⟩:=qN dx
 obtain rfl:=aW.mp hv
 obtain rfl:=aW.mp hu
 refine ⟨i,j,rfl,aH rm (aW.mpr rfl) ?_⟩
 have e:(if j < i then j else i)=min i j:=by split <;> omega
 rw [e]
 exact q
inductive GC (M:Mp):D→String→Prop where
 | bJ:GC M .bJ "NoneType"
 | bl (b:Bool):GC M (.bl b) "bool"
 | int (i:Int):GC M (.int i) "int"
 | str (x:Str):GC M (.str x) "str"
 | tup (ds:List D):GC M (.tup ds) "tuple"
 | lst {a:Addr} {ds:List D} (h:M a=some (.lst ds)):GC M (.ref a) "list"
 | dct:GC M (.KC "dict") "dict"
def RK (K:PySem.W.Frag):List D→Mp→DK→Prop:=fun ds M Q=> ∃ d n m b,ds= [d,.ty m]∧GC M d n∧PySem.W.kitOne K (.type n) (.type m)=some b∧Q (.bl b) M
theorem cy:Call3 X (.builtin "isinstance") (RK X.K):=by
 constructor
 intro pins s σ H M xs ds us Q I rm rs dx ⟨d,n,m,b,ei,ty,hk,q⟩
 subst ei
 obtain ⟨v,u,rfl,hv,hu⟩:=qN dx
 obtain rfl:=Ce.mp hu
 obtain ⟨v',u',rfl,r1,r2⟩:=vals2 rs
 obtain rfl:u'=Value.type m:=r2
 have fin:∀ tk,EP X pins σ (Post X.K M H Q) (.bool b) { s with toks:=tk }:=fun tk=>⟨.bl b,H,I.tok tk,rfl,aH rm (bB.mpr rfl) q⟩
 cases ty with
 | bJ=>obtain rfl:=cE.mp hv;exact iO I r1 .bJ hk fin
 | bl k=>obtain rfl:=bB.mp hv;exact iO I r1 (.bl k) hk fin
 | int i=>obtain rfl:=aW.mp hv;exact iO I r1 (.int i) hk fin
 | str z=>obtain rfl:=gF.mp hv;exact iO I r1 (.str z) hk fin
 | tup zs=>
   obtain ⟨p,ys,rfl,hp,hy⟩:=bH.mp hv
   exact iO I r1 (.tup hp) hk fin
 | lst hM=>
   obtain rfl:=aK.mp hv
   obtain ⟨ys,hp,hy⟩:=rm.lst hM
   exact iO I r1 (.lst hp) hk fin
 | dct=>
   obtain ⟨p,o,u,rfl,hp,hc⟩:=DA.mp hv
   cases (show v'=Value.ref p from r1)
   obtain ⟨h1,_⟩:=(show eX X.prog X.w H s.heap p (.qG o u) from I.hok p _ hp)
   exact PySem.W.kia_one PySem.W.kitx_dict I.AG ⟨o,h1,hc⟩ hk (fun z=>nomatch z) fin
abbrev uq:=List D→(D→Prop)→Prop
def tT (K:PySem.W.Frag) (S:uq):Sp:=fun vs H Q _=> ∃ ds Q0,aM K H ds vs∧S ds Q0∧∀ d v H',Q0 d→Dat K H' d v→(∀ b o,H b=some o→H' b=some o)→Q v H'
abbrev pK:=List D→Mp→DK→Prop
def pU (K:PySem.W.Frag) (S:pK):Sp:=fun vs H Q _=> ∃ ds M Q0,aM K H ds vs∧cP K H M∧S ds M Q0∧∀ d M' v H',Q0 d M'→Dat K H' d v→cP K H' M'→Fr M H M' H'→Q v H'
theorem qO {K:PySem.W.Frag} {H:Hp} {ds:List D} {vs:List V} (h:aM K H ds vs):aM K H ds (vs ++ []):=by simpa using h
theorem Ext.keep {H H':Hp} (h:∀ b o,H b=some o→H' b=some o):Ext H H':=⟨fun b _ e=>h b _ e,fun b _ _ e=>h b _ e⟩
theorem cP.keep {K:PySem.W.Frag} {H H':Hp} {M:Mp} (r:cP K H M) (h:∀ b o,H b=some o→H' b=some o):cP K H' M:=fun a o e=>(r a o e).mono (Ext.keep h) fun u q=>h _ _ q
variable {k:Nat} {f:Addr} {fd:FuncData} {ps:List Str}
def LU (S:uq) (t:yi):dI:=fun ρ M Q=>t ρ M fun ds M1=>S ds fun d=>Q d M1
def LV (S:pK) (t:yi):dI:=fun ρ M Q=>t ρ M fun ds M1=>S ds M1 Q
theorem aF {S:uq} (F:bS X.prog X.w X.K X.mg X.base eZ k f fd ps (tT X.K S)) (hr:jJ k X.A) (hg:Gl X x) (hm:X.mg x=some (.ref f)) (hk:PySem.W.keepIn X.K (.ref f)=true) (hb:Binds X.K fd ps [])
 (ha:DB X (e :: es) t) (hdb:(x == ("__debug__" :Str))=false:=by decide) (he:starEach (e :: es) X.env=(false,eval e X.env) :: starEach es X.env:=by rfl) (hpl:(backTo pos (starEach es X.env)).any (·.1)=false:=by rfl) :
 cK X (.Call (.Name x p) (e :: es) [] pos) (LU S t):=
 up (Dr (FJ:=[]) (E:=E0) F hr hg hm hk hb .nil KA ha.dn hdb he hpl) fun σ H ρ M Q r q=>qi r q fun vs H' ds M' f dv r' q=>
  ⟨ds,_,qO dv,q,fun d v H2 q2 d2 kp=>⟨d,M',f.trans fun b o n e=>⟨kp b o e,n⟩,d2,r'.mem.keep kp,q2⟩⟩
theorem bD {S:pK} (F:bS X.prog X.w X.K X.mg X.base eZ k f fd ps (pU X.K S)) (hr:jJ k X.A) (hg:Gl X x) (hm:X.mg x=some (.ref f)) (hk:PySem.W.keepIn X.K (.ref f)=true) (hb:Binds X.K fd ps [])
 (ha:DB X (e :: es) t) (hdb:(x == ("__debug__" :Str))=false:=by decide) (he:starEach (e :: es) X.env=(false,eval e X.env) :: starEach es X.env:=by rfl) (hpl:(backTo pos (starEach es X.env)).any (·.1)=false:=by rfl) :
 cK X (.Call (.Name x p) (e :: es) [] pos) (LV S t):=
 up (Dr (FJ:=[]) (E:=E0) F hr hg hm hk hb .nil KA ha.dn hdb he hpl) fun σ H ρ M Q r q=>qi r q fun vs H' ds M' f dv r' q=>
  ⟨ds,M',_,qO dv,r'.mem,q,fun d M2 v H2 q2 d2 KH f2=>⟨d,M2,f.trans f2,d2,KH,q2⟩⟩
end
section
variable {X:Cx} {st:Stmt} {rest:List Stmt} {t u:nk} {e:Expr} {te:dI} {pos:Pos}
def LW:nk:=fun D ρ M=>D.nx ρ M
def OL (t u:nk):nk:=fun D ρ M=>t { D with nx:=u D } ρ M
theorem AI.dn {st:Stmt} {t:nk} (h:AI X st t):PS X st (Qo X.K t):=fun pins s σ H D' I ⟨ρ,M,D,r,q,k1,k2,k3,k4⟩=>
 dW (h.run pins s σ H ρ M D I r q) fun f s' z=>by
  cases f with
  | next=>obtain ⟨σ',H',I',p⟩:=z;exact ⟨σ',H',I',k1 _ _ p⟩
  | brk=>obtain ⟨σ',H',I',p⟩:=z;exact ⟨σ',H',I',k3 _ _ p⟩
  | cont=>obtain ⟨σ',H',I',p⟩:=z;exact ⟨σ',H',I',k4 _ _ p⟩
  | ret u=>obtain ⟨v,σ',H',I',rv,p⟩:=z;exact ⟨v,σ',H',I',rv,k2 _ _ p⟩
theorem LX {sts:List Stmt} {te:TS} {t:nk} (h:B8 X sts te) (g:∀ σ H ρ M D,Rep X.K H σ ρ M→t D ρ M→te (ends X.K M H D) σ H):nu X sts t:=
 ⟨fun pins s σ H ρ M D I r q=>h pins s σ H _ I (g σ H ρ M D r q)⟩
theorem qP {K:PySem.W.Frag} {M0:Mp} {H0:Hp} {σ:St} {H:Hp} {ρ:En} {M:Mp} {D:KG} {t:nk} (f:Fr M0 H0 M H) (r:Rep K H σ ρ M) (q:t D ρ M):Qo K t (ends K M0 H0 D) σ H:=
 ⟨ρ,M,D,r,q,fun _ _ p=>p.back f,fun _ _ p=>p.back f,fun _ _ p=>p.back f,fun _ _ p=>p.back f⟩
theorem aT:nu X [] LW:=LX IC fun σ H ρ M D r q=>⟨ρ,M,.refl _ _,r,q⟩
theorem aq (h1:AI X st t) (h2:nu X rest u):nu X (st :: rest) (OL t u):=LX (Ga h1.dn h2.dn) fun σ H ρ M D r q=>
 ⟨ρ,M,_,r,q,fun σ' H' ⟨ρ',M',f,r',q'⟩=>qP f r' q',fun _ _ p=>p,fun _ _ p=>p,fun _ _ p=>p⟩
theorem aA (h1:AI X st t):nu X [st] t:=LX (ID h1.dn) fun σ H ρ M D r q=>qP (.refl _ _) r q
def LY (te:dI):nk:=fun D ρ M=>te ρ M fun _ M1=>D.nx ρ M1
theorem nV (he:cK X e te) (hs:swapsWith e none pos.line X.env=pure false:=by rfl):AI X (.Expr e pos) (LY te):=Ja (IE he.dn hs) fun σ H ρ M D r q=>eB r q fun v H' d M' f dv r' q=>⟨ρ,M',f,r',q⟩
def OM (te:dI):nk:=fun D ρ M=>te ρ M D.rt
theorem aD (he:cK X e te):AI X (.Return (some e) pos) (OM te):=Ja (Lm he.dn) fun σ H ρ M D r q=>⟨ρ,M,_,r,q,fun _ _ p=>p⟩
def ON (c:pX) (t u:nk):nk:=fun D ρ M=>c ρ M fun b M1=>if b=true then t D ρ M1 else u D ρ M1
theorem bI {c:Expr} {a b:List Stmt} {tc:pX} (hc:AY X c tc) (ha:nu X a t) (hb:nu X b u):AI X (.If c a b pos) (ON tc t u):=Ja (NY hc.dn ha.dn hb.dn) fun σ H ρ M D r q=>rO r q fun k H' M' f r' q=>by
 cases k with
 | true=>exact qP f r' q
 | false=>exact qP f r' q
def Jf:nk:=fun _ _ _=>False
theorem Jg:AI X st Jf:=⟨fun _ _ _ _ _ _ _ _ _ h=>h.elim⟩
def KI (i:Nat) (te:dI):nk:=fun D ρ M=>te ρ M fun x M1=>D.nx (ρ.set i (some x)) M1
theorem aS {i:Nat} {x:Str} {pos':Pos} (hN:X.N.Nodup) (hi:X.N[i]?=some x) (hx:Loc X.env.scope x) (he:cK X e te) (hs:swapsWith e (some (.Name x pos')) pos.line X.env=pure false:=by rfl) (hf:X.fn x=true∨X.env.scope.names.lookup x=some .local:=by first | exact .inl rfl | exact .inr rfl | assumption) :
 AI X (.Assign [.Name x pos'] e pos) (KI i te):=Ja (Ln hN hi hx he.dn hs hf) fun σ H ρ M D r q=>eB r q fun v H' d M' f dv r' q=>⟨ρ.set i (some d),M',f,r'.set dv,q⟩
abbrev BY:=D→En→Mp→(En→Mp→Prop)→Prop
abbrev Ci:=List D→En→Mp→(En→Mp→Prop)→Prop
structure Jh (X:Cx) (target:Expr) (t:BY):Prop where
 run:∀ (pins:List (Addr ×Obj)) (s:Shared) (σ:St) (H:Hp) (ρ:En) (M:Mp) (v:V) (d:D) (u:Value) (Q:En→Mp→Prop),Inv X pins σ H s→Rep X.K H σ ρ M→RelV v u→Dat X.K H d v→t d ρ M Q→
  wpAny (model X.prog X.w) X.A (assign target X.env u) (fun _ s'=> ∃ σ' H',Inv X pins σ' H' s'∧kG X.K M H Q σ' H') X.xe s
structure Ji (X:Cx) (ts:List Expr) (t:Ci):Prop where
 run:∀ (pins:List (Addr ×Obj)) (s:Shared) (σ:St) (H:Hp) (ρ:En) (M:Mp) (vs:List V) (ds:List D) (us:List Value) (Q:En→Mp→Prop),Inv X pins σ H s→Rep X.K H σ ρ M→Vals vs us→aM X.K H ds vs→t ds ρ M Q→
  wpAny (model X.prog X.w) X.A (assignInOrder ((assignEach ts X.env).map (·.2)) us) (fun _ s'=> ∃ σ' H',Inv X pins σ' H' s'∧kG X.K M H Q σ' H') X.xe s
def LZ (i:Nat):BY:=fun d ρ M Q=>Q (ρ.set i (some d)) M
theorem bW {i:Nat} {x:Str} (hN:X.N.Nodup) (hi:X.N[i]?=some x) (hx:Loc X.env.scope x) (hf:X.fn x=true∨X.env.scope.names.lookup x=some .local:=by first | exact .inl rfl | exact .inr rfl | assumption):Jh X (.Name x pos) (LZ i):=
 ⟨fun pins s σ H ρ M v d u Q I r rv dv q=>IF hN hi hx hf pins s σ H v u _ I rv ⟨ρ.set i (some d),M,.refl _ _,r.set dv,q⟩⟩
def OO:Ci:=fun ds ρ M Q=>ds= []∧Q ρ M
def L0 (t:BY) (u:Ci):Ci:=fun ds ρ M Q=> ∃ d r,ds=d :: r∧t d ρ M fun ρ' M'=>u r ρ' M' Q
theorem L1:Ji X [] OO:=by
 constructor
 intro pins s σ H ρ M vs ds us Q I r rv dv ⟨e1,q⟩
 subst e1
 rw [aV.mp dv] at rv
 cases rv
 exact assignInOrder_nil ⟨σ,H,I,ρ,M,.refl _ _,r,q⟩
theorem zf {e:Expr} {es:List Expr} {t:BY} {u:Ci} (h1:Jh X e t) (h2:Ji X es u)
 (hs:(assignEach (e :: es) X.env).map (·.2)=assign e X.env :: (assignEach es X.env).map (·.2):=by rfl):Ji X (e :: es) (L0 t u):=by
 constructor
 intro pins s σ H ρ M vs ds us Q I r rv dv ⟨d,dr,e1,q⟩
 subst e1
 obtain ⟨v,vr,rfl,d1,d2⟩:=aQ.mp dv
 cases rv with
 | cons rv rr=>
   rw [hs]
   refine assignInOrder_cons (dW (h1.run pins s σ H ρ M v d _ _ I r rv d1 q) fun _ s1 ⟨σ1,H1,I1,ρ1,M1,f1,r1,q1⟩=>?_)
   exact dW (h2.run pins s1 σ1 H1 ρ1 M1 vr dr _ Q I1 r1 rr (aM.mono (f1.ext r.mem) _ _ d2) q1) fun _ s2 ⟨σ2,H2,I2,p⟩=>⟨σ2,H2,I2,p.back f1⟩
def OP (n:Nat) (t:Ci):BY:=fun d ρ M Q=> ∃ xs,OA M d xs∧xs.length=n∧t xs ρ M Q
theorem EJ {prog:Program} {w:World} {A:Around} {E:Value→Shared→Prop} {it l:Addr} {items:Array Value}:∀ (n i:Nat) (s:Shared) (Q:List Value→Shared→Prop),s.heap.IsListIter it l i→it≠l→s.heap.IsList l items→i+n≤items.size→
 (∀ h',h'.IsListIter it l (i+n)→Heap.SameBut it s.heap h'→Q ((items.toList.drop i).take n) { s with heap:=h' })→wpAny (model prog w) A (draw (.ref it) n) Q E s:=by
 intro n
 induction n with
 | zero=>
   intro i s Q hit _ hl hi hQ
   have:=hQ s.heap hit (.refl ..)
   rw [List.take_zero] at this
   exact wpAny_pure this
 | succ n ih=>
   intro i s Q hit hne hl hi hQ
   have hlt:i < items.size:=by omega
   show wpAny _ _ (pyNext (.ref it) >>= _) Q E s
   refine wpAny_bind (wpAny_pyNext_list_item hit hl (x:=items[i]) (by simp [hlt]) fun h₁ L4 hs₁=>?_)
   refine wpAny_bind (wpAny_holding (ih (i+1) _ _ L4 hne (hl.at fun o e=>hs₁.extBut _ o (Ne.symm hne) e) (by omega) fun h₂ RL hs₂=>wpAny_pure ?_))
   have hd:items.toList.drop i=items[i] :: items.toList.drop (i+1):=by simp [aaQ,hlt]
   have:=hQ h₂ (by rw [show i+(n+1)=i+1+n by omega];exact RL) (hs₁.trans hs₂)
   rw [hd,List.take_succ_cons] at this
   exact this
theorem rQ {prog:Program} {w:World} {A:Around} {E:Value→Shared→Prop} {s:Shared} {t:Addr} {items:Array Value} {Q:List Value→Shared→Prop} (hh:A.handled=none) (ht:s.heap.IsList t items)
 (hQ:∀ h',Heap.ExtBut s.heap.objs.size s.heap h'→Q items.toList { s with heap:=h' }):wpAny (model prog w) A (unpackItems (.ref t) items.size none) Q E s:=by
 have hlt:t≠s.heap.objs.size:=by obtain ⟨o,ho,_⟩:=ht;exact Zr (Heap.lt_size ho)
 unfold unpackItems
 refine wpAny_bind ?_
 ·unfold notIterableAtAll
  refine wpAny_bind (wpAny_specialOf ht.typeIs slot_list_iter.lookup ?_)
  refine wpAny_pure ?_
  simp only [Zm,if_false]
  refine wpAny_bind (wpAny_holding (wpAny_pyIter_list ht ?_))
  have ht0:(s.heap.push { cls:= .type "list_iterator",data:= .fields #[.ref t,rawInt 0] }).IsList t items:=by
   obtain ⟨o,ho,c,n,d⟩:=id ht
   exact ⟨o,Heap.get?_push_of_some _ ho,c,n,d⟩
  refine wpAny_bind (wpAny_holding (EJ items.size 0 _ _ ⟨_,Heap.get?_push_size _ rfl,rfl,rfl⟩ (Ne.symm hlt) ht0 (by omega) fun h₁ L4 hs₁=>?_))
  have hall:List.take items.size (List.drop 0 items.toList)=items.toList:=by
   rw [abL];exact abA (by simp)
  rw [hall]
  rw [if_neg (by simp)]
  have ht₁:h₁.IsList t items:=ht0.at fun o e=>hs₁.extBut _ o hlt e
  refine wpAny_bind (wpAny_holding (wpAny_pyNext_list_end hh L4 ht₁ (by simp) fun h₂ US=>?_))
  simp only [Option.isSome_none,Zm,if_false]
  refine wpAny_pure (hQ h₂ fun b o hb e=>US b o hb (hs₁.extBut b o hb (Heap.get?_push_of_some _ e)))
theorem OQ {es:List Expr} {k:Nat} {t:Ci} {n:Nat} (hc:X.calm=true) (h:Ji X es t)
 (hn:(assignEach es X.env).length=n:=by rfl) (hst:(assignEach es X.env).findIdx? (·.1)=none:=by rfl):Jh X (.Tuple es k pos) (OP n t):=by
 constructor
 intro pins s σ H ρ M v d u Q I r rv dv ⟨xs,hq,hl,q⟩
 rcases hq with rfl | ⟨a,rfl,hM⟩
 ·obtain ⟨a,ys,rfl,ha,hy⟩:=bH.mp dv
  obtain rfl:u=Value.ref a:=rv
  obtain ⟨its,OR,ht,hz⟩:=I.tuple (wK.of ha)
  refine assign_Tuple_tuple (I.ok.hd hc) ht (by simp [hn,← hl,hy.length,OR.length]) hst fun h' hx=>?_
  have I1:Inv X pins σ H { s with heap:=h' }:=I.kept (t':=s.toks) fun b o e=>hx b o (Zr (Heap.lt_size e)) e
  exact h.run pins _ σ H ρ M ys xs _ Q I1 r (by simpa using OR) hy q
 ·obtain rfl:=aK.mp dv
  obtain rfl:u=Value.ref a:=rv
  obtain ⟨ys,ha,hy⟩:=r.mem.lst hM
  obtain ⟨its,OR,ht,hz⟩:=I.list (iD.of ha)
  rw [assign_Tuple]
  refine wpAny_bind (wpAny_standAt ?_)
  unfold unpack
  have hsz:(assignEach es X.env).length=its.toArray.size:=by simp [hn,← hl,hy.length,OR.length]
  rw [hsz,hst]
  refine wpAny_bind (wpAny_holding (rQ (I.ok.hd hc) ht.isList fun h' hx=>?_))
  have I1:Inv X pins σ H { s with heap:=h' }:=I.kept (t':=s.toks) fun b o e=>hx b o (Zr (Heap.lt_size e)) e
  exact h.run pins _ σ H ρ M ys xs _ Q I1 r (by simpa using OR) hy q
def OS (te:dI) (g:BY):nk:=fun D ρ M=>te ρ M fun x M1=>g x ρ M1 D.nx
theorem OT {tg e:Expr} {g:BY} (he:cK X e te) (hg:Jh X tg g) (hs:swapsWithSole [tg] e pos.line X.env=pure false:=by rfl) (hw:swappedStores [tg] e X.env=pure none:=by rfl)
 (h1:(assignEach [tg] X.env).map (·.2)= [assign tg X.env]:=by rfl):AI X (.Assign [tg] e pos) (OS te g):=by
 constructor
 intro pins s σ H ρ M D I r h
 refine wpAny_Assign_stores (dW (he.run pins s σ H ρ M _ I r h) fun v s1 ⟨x,H1,I1,r1,d,M1,f1,d1,pY,q1⟩=>?_) hs hw
 rw [h1]
 exact dW (hg.run pins s1 σ H1 ρ M1 x d v _ I1 (r.go f1 pY) r1 d1 q1) fun _ s2 ⟨σ2,H2,I2,p⟩=>⟨σ2,H2,I2,p.back f1⟩
def OU (i j:Nat) (ta:yi):nk:=fun D ρ M=>ta ρ M fun vs M1=> ∃ v w,vs= [v,w]∧D.nx ((ρ.set i (some v)).set j (some w)) M1
theorem OV {i j:Nat} {x y:Str} {a b:Expr} {ta:yi} {px py pt:Pos} {kt k2 yb} (hc:X.calm=true) (hN:X.N.Nodup) (hi:X.N[i]?=some x) (hj:X.N[j]?=some y) (hij:i≠j)
 (hx:X.env.scope.names.lookup x=some .local) (hy:X.env.scope.names.lookup y=some .local) (ha:DB X [a,b] ta)
 (hw:swappedStores [.Tuple [.Name x px,.Name y py] kt pt] (.Tuple [a,b] k2 yb) X.env=pure (some [x,y]):=by rfl)
 (hs:swapsWithSole [.Tuple [.Name x px,.Name y py] kt pt] (.Tuple [a,b] k2 yb) pos.line X.env=pure false:=by rfl) :
 AI X (.Assign [.Tuple [.Name x px,.Name y py] kt pt] (.Tuple [a,b] k2 yb) pos) (OU i j ta):=Ja (Lo hc hN hi hj hij hx hy ha.dn hw hs) fun σ H ρ M D r q=>qi r q fun vs H' ds M' f dv r' ⟨d1,d2,e1,q⟩=>by
 subst e1
 obtain ⟨v,w,rfl,h1,h2⟩:=qN dv
 exact ⟨v,w,rfl,_,M',f,(r'.set h1).set h2,q⟩
variable {o:Expr} {to:dI} {es:List Expr} {t3:yi} {apos:Pos}
@[irreducible] def aU (p:Prop):Prop:=p
theorem aU.mk {p:Prop} (h:p):aU p:=by unfold aU;exact h
theorem aU.out {p:Prop} (h:aU p):p:=by unfold aU at h;exact h
def Jj (c:pX) (tb:nk):nk:=fun D ρ M=> ∃ W:Nat→En→Mp→Prop,(∃ m,W m ρ M)∧∀ m ρ M,W m ρ M→
 c ρ M fun b M1=>if b=true then tb { D with nx:=fun ρ' M'=>aU (∃ m',m' < m∧W m' ρ' M'),ct:=fun ρ' M'=>aU (∃ m',m' < m∧W m' ρ' M'),bk:=D.nx } ρ M1 else D.nx ρ M1
theorem Jk {c:Expr} {body:List Stmt} {tc:pX} {tb:nk} (hp:PassesOwn (model X.prog X.w) X.A X.env X.xe) (hc:AY X c tc) (hb:nu X body tb):AI X (.While c body [] pos) (Jj tc tb):=Ja (Gb hp hc.dn hb.dn) fun σ H ρ M D r ⟨W,⟨m0,w0⟩,turn⟩=>by
 refine ⟨fun m σ' H'=> ∃ ρ' M',Fr M H M' H'∧Rep X.K H' σ' ρ' M'∧W m ρ' M',⟨m0,ρ,M,.refl _ _,r,w0⟩,?_⟩
 rintro m σ1 H1 ⟨ρ1,M1,f1,r1,w1⟩
 refine rO r1 (turn m ρ1 M1 w1) fun k H2 M2 f2 r2 q=>?_
 cases k with
 | true=>
   refine ⟨fun σ' H'=> ∃ m',m' < m∧∃ ρ' M',Fr M H M' H'∧Rep X.K H' σ' ρ' M'∧W m' ρ' M',fun σ' H' z=>z,?_⟩
   have Jl:=f1.trans f2
   refine ⟨ρ1,M2,_,r2,q,fun σ' H' ⟨ρ',M',f,r',z⟩=>let ⟨m',hm,w'⟩:=z.out;⟨m',hm,ρ',M',Jl.trans f,r',w'⟩,fun _ _ p=>p.back Jl,fun _ _ p=>p.back Jl,fun σ' H' ⟨ρ',M',f,r',z⟩=>let ⟨m',hm,w'⟩:=z.out;⟨m',hm,ρ',M',Jl.trans f,r',w'⟩⟩
 | false=>exact ⟨ρ1,M2,f1.trans f2,r2,q⟩
def runFor (gd:Mp→Prop) (g:BY) (tb:nk) (D:KG):List L3.D→En→Mp→Prop
 | [],ρ,M=>gd M∧D.nx ρ M
 | x :: xs,ρ,M=>gd M∧g x ρ M fun ρ2 M2=>tb { D with nx:=runFor gd g tb D xs,ct:=runFor gd g tb D xs,bk:=D.nx } ρ2 M2
structure EK (K:PySem.W.Frag) (J:It) (inv:Hp→Prop) (ds:List L3.D):Prop where
 go:∀ i H,i < ds.length→inv H→J.go i H
 IG:∀ i H x H',i < ds.length→inv H→J.IG i H x H'→H'=H∧∃ d,ds[i]?=some d∧Dat K H d x
 stop:∀ H,inv H→J.stop ds.length H
theorem Jh.dn {tg:Expr} {g:BY} (h:Jh X tg g):PG X tg (fun v σ H Q=> ∃ ρ M d Q0,Rep X.K H σ ρ M∧Dat X.K H d v∧g d ρ M Q0∧∀ σ' H',kG X.K M H Q0 σ' H'→Q σ' H'):=
 fun pins s σ H v u Q I rv ⟨ρ,M,d,Q0,r,dv,q,k⟩=>dW (h.run pins s σ H ρ M v d u Q0 I r rv dv q) fun _ _ ⟨σ',H',I',p⟩=>⟨σ',H',I',k _ _ p⟩
theorem uJ {K:PySem.W.Frag} {J:It} {inv:Hp→Prop} {ds:List L3.D} {gd:Mp→Prop} {g:BY} {tb:nk} {D:KG} {σ:St} {H H0:Hp} {ρ:En} {M M0:Mp} (hJ:EK K J inv ds)
 (f0:Fr M0 H0 M H) (r:Rep K H σ ρ M)
 (stay:∀ M1 H1,Fr M H M1 H1→cP K H1 M1→gd M1→inv H1) (q:runFor gd g tb D ds ρ M) :
 ∃ W:Nat→Nat→St→Hp→Prop,(∃ m,W 0 m σ H)∧∀ i m σ H,W i m σ H→
   (J.stop i H∧(ends K M0 H0 D).nx σ H)∨(J.go i H∧∃ N:St→Hp→Prop,(∀ σ' H',N σ' H'→∃ m',m' < m∧W (i+1) m' σ' H')∧∀ x H',J.IG i H x H'→
     (∃ ρ M d Q0,Rep K H' σ ρ M∧Dat K H' d x∧g d ρ M Q0∧∀ σ2 H2,kG K M H' Q0 σ2 H2→Qo K tb { (ends K M0 H0 D) with nx:=N,ct:=N,bk:=(ends K M0 H0 D).nx } σ2 H2)):=by
 refine ⟨fun i m σ1 H1=>m=ds.length - i∧i≤ds.length∧∃ ρ1 M1,Fr M H M1 H1∧Rep K H1 σ1 ρ1 M1∧runFor gd g tb D (ds.drop i) ρ1 M1,⟨ds.length,by simp,Z3 _,ρ,M,.refl _ _,r,by simpa using q⟩,?_⟩
 rintro i m σ1 H1 ⟨rfl,hi,ρ1,M1,f1,r1,q1⟩
 by_cases hlt:i < ds.length
 ·have hdr:ds.drop i=ds[i] :: ds.drop (i+1):=aaQ hlt
  rw [hdr] at q1
  obtain ⟨hg,q1⟩:=q1
  have Tf:=stay M1 H1 f1 r1.mem hg
  refine .inr ⟨hJ.go i H1 hlt Tf,fun σ' H'=> ∃ ρ' M',Fr M H M' H'∧Rep K H' σ' ρ' M'∧runFor gd g tb D (ds.drop (i+1)) ρ' M',fun σ' H' ⟨ρ',M',f',r',q'⟩=>⟨ds.length - (i+1),by omega,rfl,hlt,ρ',M',f',r',q'⟩,fun x H' y=>?_⟩
  obtain ⟨e,d,hd1,hd2⟩:=hJ.IG i H1 x H' hlt Tf y
  subst e
  have ed:d=ds[i]:=Option.some.inj (hd1.symm.trans (Y7 hlt))
  subst ed
  refine ⟨ρ1,M1,_,_,r1,hd2,q1,fun σ2 H2 ⟨ρ2,M2,f2,r2,q2⟩=>?_⟩
  have Jl:=f1.trans f2
  have Tg:=f0.trans Jl
  exact ⟨ρ2,M2,_,r2,q2,fun σ' H' ⟨ρ',M',f,r',z⟩=>⟨ρ',M',Jl.trans f,r',z⟩,fun _ _ p=>p.back Tg,fun _ _ p=>p.back Tg,fun σ' H' ⟨ρ',M',f,r',z⟩=>⟨ρ',M',Jl.trans f,r',z⟩⟩
 ·have e:i=ds.length:=by omega
  subst e
  rw [abB (Zb _)] at q1
  obtain ⟨hg,q1⟩:=q1
  exact .inl ⟨hJ.stop H1 (stay M1 H1 f1 r1.mem hg),ρ1,M1,f0.trans f1,r1,q1⟩
def OW (te:dI) (g:BY) (tb:nk):nk:=fun D ρ M=>te ρ M fun d M1=> ∃ xs,d= .tup xs∧runFor (fun _=>True) g tb D xs ρ M1
def OX (te:dI) (g:BY) (tb:nk):nk:=fun D ρ M=>te ρ M fun d M1=> ∃ a xs,d= .ref a∧M1 a=some (.lst xs)∧runFor (fun M=>M a=some (.lst xs)) g tb D xs ρ M1
def OY (t:yi) (g:BY) (tb:nk):nk:=fun D ρ M=>t ρ M fun vs M1=> ∃ j:Int,vs= [.int j]∧ -(2 ^ 62)≤j∧j < 2 ^ 62∧runFor (fun _=>True) g tb D ((List.range j.toNat).map fun (k:Nat)=>L3.D.int (k:Int)) ρ M1
variable {tg iter:Expr} {body:List Stmt} {g:BY} {tb:nk}
theorem L5 {K:PySem.W.Frag} {a:Addr} {ds:List L3.D}:EK K (Q7 K a) (fun H=> ∃ vs,H a=some (.tup vs)∧aM K H ds vs) ds:=
 ⟨fun i H hi ⟨vs,h,hd⟩=>⟨vs,vs[i]'(by rw [← hd.length];exact hi),wK.of h,Y7 _⟩,fun i H x H' _ ⟨vs,h,hd⟩ y=>⟨y.1,hd.back (y.2 vs (wK.of h))⟩,fun H ⟨vs,h,hd⟩=>⟨vs,wK.of h,by rw [hd.length];exact Zb _⟩⟩
theorem GD {K:PySem.W.Frag} {a:Addr} {ds:List L3.D}:EK K (Q6 K a) (fun H=> ∃ vs,H a=some (.lst vs)∧aM K H ds vs) ds:=
 ⟨fun i H hi ⟨vs,h,hd⟩=>⟨vs,vs[i]'(by rw [← hd.length];exact hi),iD.of h,Y7 _⟩,fun i H x H' _ ⟨vs,h,hd⟩ y=>⟨y.1,hd.back (y.2 vs (iD.of h))⟩,fun H ⟨vs,h,hd⟩=>⟨vs,iD.of h,by rw [hd.length];exact Zb _⟩⟩
theorem L6 {K:PySem.W.Frag} {n:Nat}:EK K (Qm 0 n) (fun _=>True) ((List.range n).map fun (k:Nat)=>L3.D.int (k:Int)):=
 ⟨fun i H hi _=>by show i < n;simpa using hi,fun i H x H' hi _ y=>⟨y.1,L3.D.int (i:Int),by
  have hi:i < n:=by simpa using hi
  simp [hi],aW.mpr (by rw [y.2,abV])⟩,fun H _=>by show n≤_;simp⟩
theorem L7 (hp:PassesOwn (model X.prog X.w) X.A X.env X.xe) (hc:X.calm=true) (hi:cK X iter te) (hg:Jh X tg g) (hb:nu X body tb)
 (hs:∀ x,foldedSetIterable iter X.env x=pure x:=by intro _;rfl):AI X (.For tg iter body [] pos) (OW te g tb):=Ja (Cb hp hc (Lq hi.dn) hg.dn hb.dn hs) fun σ H ρ M D r q=>eB r q fun v H' d M' f dv r' ⟨xs,e1,q⟩=>by
 subst e1
 obtain ⟨a,ys,rfl,ha,hy⟩:=bH.mp dv
 refine ⟨a,rfl,⟨ys,wK.of ha⟩,uJ L5 f r' (fun M1 H1 f1 _ _=>⟨ys,?_,aM.mono (f1.ext r'.mem) _ _ hy⟩) q⟩
 exact (f1 a _ (r'.mem.Cf ha (fun _ z=>by cases z)) ha).1
theorem iU (hp:PassesOwn (model X.prog X.w) X.A X.env X.xe) (hc:X.calm=true) (hi:cK X iter te) (hg:Jh X tg g) (hb:nu X body tb)
 (hs:∀ x,foldedSetIterable iter X.env x=pure x:=by intro _;rfl):AI X (.For tg iter body [] pos) (OX te g tb):=Ja (Cb hp hc (Dk hi.dn) hg.dn hb.dn hs) fun σ H ρ M D r q=>eB r q fun v H' d M' f dv r' ⟨a,xs,e1,hM,q⟩=>by
 subst e1
 obtain rfl:=aK.mp dv
 obtain ⟨ys,ha,hy⟩:=r'.mem.lst hM
 exact ⟨a,rfl,⟨ys,iD.of ha⟩,uJ GD f r' (fun M1 H1 f1 pY g1=>pY.lst g1) q⟩
theorem gv {a:Expr} {t:yi} {p rpos:Pos} (hp:PassesOwn (model X.prog X.w) X.A X.env X.xe) (hc:X.calm=true) (OZ:Gl X "range") (hm:X.mg "range" =none) (ha:DB X [a] t) (hg:Jh X tg g) (hb:nu X body tb)
 (hst:starEach [a] X.env= [(false,eval a X.env)]:=by rfl)
 (hs:∀ x,foldedSetIterable (.Call (.Name "range" p) [a] [] rpos) X.env x=pure x:=by intro _;rfl):AI X (.For tg (.Call (.Name "range" p) [a] [] rpos) body [] pos) (OY t g tb):=Ja (Cb hp hc (EC OZ hm ha.dn hst) hg.dn hb.dn hs) fun σ H ρ M D r q=>qi r q fun vs H' ds M' f dv r' ⟨j,e1,h1,h2,q⟩=>by
 subst e1
 obtain ⟨v,rfl,hv⟩:=nU dv
 obtain rfl:=aW.mp hv
 exact ⟨j,rfl,h1,h2,uJ L6 f r' (fun _ _ _ _ _=>trivial) q⟩
def O0 (to te:dI):dI:=fun ρ M Q=>to ρ M fun d M1=>(∃ l xs,d= .ref l∧M1 l=some (.lst xs))∧te ρ M1 fun e M2=> ∃ l xs,d= .ref l∧M2 l=some (.lst xs)∧xs.length < sizeLine∧Q .bJ (aE M2 l (.lst (xs ++ [e])))
theorem DF {o e:Expr} {to te:dI} {apos:Pos} (ho:cK X o to) (he:cK X e te) (Jm:PE X (.Call (.Attribute o "append" apos) [e] [] pos) (Oj X.K "list" Dw (dn X.K to) (AO (dn X.K te) Gh))):cK X (.Call (.Attribute o "append" apos) [e] [] pos) (O0 to te):=
 up Jm fun σ H ρ M Q r q=>eB r q fun v H' d M' f dv r' ⟨⟨l,xs,e1,hM⟩,q⟩=>by
  subst e1
  obtain rfl:=aK.mp dv
  obtain ⟨ys,ha,hy⟩:=r'.mem.lst hM
  refine ⟨.inl ⟨rfl,_,iD.of ha⟩,eB r' q fun u H2 d2 M2 f2 du r2 ⟨l',xs',e2,Iu,hlt,q2⟩=>?_⟩
  injection e2 with e2
  subst e2
  obtain ⟨zs,hb,hz⟩:=r2.mem.lst Iu
  refine ⟨l,zs,u,rfl,rfl,hb,by rw [← hz.length];exact hlt,.bJ,_,(f.trans f2).trans (Fr.write (K:=X.K) Iu),cE.mpr rfl,r2.mem.lF hb (hz.append (aM.one du)),q2⟩
end
section
variable {P:Program} {w:World} {K:PySem.W.Frag} {mg:Str→Option Value} {base:Heap}
def qj (N:List Str) (ds:List D):En:=ds.map some ++ List.replicate (N.length - ds.length) none
theorem yk {H:Hp} {N:List Str} {ds:List D} {vs:List V} {M:Mp} (h:aM K H ds vs) (rm:cP K H M):Rep K H (L2.start N vs) (qj N ds) M:=by
 have hl:=h.length
 refine ⟨fun i d e=>?_,by unfold L2.start qj;simp [hl],rm⟩
 unfold qj at e
 by_cases hi:i < ds.length
 ·rw [aax (by simpa using hi),ZI] at e
  cases q:ds[i]? with
  | none=>rw [q] at e;cases e
  | some d'=>
    rw [q] at e
    cases e
    obtain ⟨v,h1,h2⟩:=h.get q
    refine ⟨v,?_,h2⟩
    unfold L2.start
    rw [aax (by simp;omega),ZI,h1]
    rfl
 ·rw [aav (by simpa using hi),abr] at e
  split at e <;> cases e
theorem ym {x qual:Str} {st:Stmt} {f:Addr} {fd:FuncData} {N ps:List Str} {k:Nat} {S:uq} (F:gY K x qual st f fd) (Sc:aI N ps (ay st)) (len:∀ ds Q,S ds Q→ds.length=ps.length)
 (hbody:∀ (cdv:Value) (A:Around) (outer:List Env) (s:Shared) (H:Hp),jJ k (A.deeper (envOfC qual (ay st) s.heap.objs.size f cdv))→
  ∃ t,nu (tQ eZ P w K mg base N qual (ay st) f cdv A outer s H E0).Ir (iH st) t∧∀ ds Q,S ds Q→t { nx:=fun _ _=>Q .bJ,rt:=fun d _=>Q d } (qj N ds) Nr) :
 bS P w K mg base eZ (k+1) f fd ps (tT K S):=by
 refine F.ok Sc (fun vs H Q E h=>?_) (fun cdv A outer s H vs Q E hr h=>?_)
 ·obtain ⟨ds,Q0,h1,h2,_⟩:=h
  rw [← h1.length,len ds Q0 h2]
 ·obtain ⟨ds,Q0,h1,h2,h3⟩:=h
  obtain ⟨t,ht,hq⟩:=hbody cdv A outer s H hr
  have hE:(tQ eZ P w K mg base N qual (ay st) f cdv A outer s H E).Ir=(tQ eZ P w K mg base N qual (ay st) f cdv A outer s H E0).Ir:=rfl
  refine ⟨_,nu.dn (by rw [hE];exact ht),qj N ds,Nr,_,yk h1 cP.no,hq ds Q0 h2,fun σ' H' ⟨ρ',M',f',r',q⟩=>?_,fun v H' ⟨d,M',f',dv,rm,q⟩=>?_,fun _ _ ⟨_,_,_,_,z⟩=>z.elim,fun _ _ ⟨_,_,_,_,z⟩=>z.elim⟩
  ·exact h3 .bJ .bJ H' q (cE.mpr rfl) fun b o e=>(f' b o rfl e).1
  ·exact h3 d v H' q dv fun b o e=>(f' b o rfl e).1
theorem rM {x qual:Str} {st:Stmt} {f:Addr} {fd:FuncData} {N ps:List Str} {k:Nat} {S:pK} (F:gY K x qual st f fd) (Sc:aI N ps (ay st)) (len:∀ ds M Q,S ds M Q→ds.length=ps.length)
 (hbody:∀ (cdv:Value) (A:Around) (outer:List Env) (s:Shared) (H:Hp),jJ k (A.deeper (envOfC qual (ay st) s.heap.objs.size f cdv))→
  ∃ t,nu (tQ eZ P w K mg base N qual (ay st) f cdv A outer s H E0).Ir (iH st) t∧∀ ds M Q,S ds M Q→t { nx:=fun _ M'=>aU (∃ M0,Le M0 M'∧Q .bJ M0),rt:=fun d M'=>aU (∃ M0,Le M0 M'∧Q d M0) } (qj N ds) M) :
 bS P w K mg base eZ (k+1) f fd ps (pU K S):=by
 refine F.ok Sc (fun vs H Q E h=>?_) (fun cdv A outer s H vs Q E hr h=>?_)
 ·obtain ⟨ds,M,Q0,h1,_,h2,_⟩:=h
  rw [← h1.length,len ds M Q0 h2]
 ·obtain ⟨ds,M,Q0,h1,rm,h2,h3⟩:=h
  obtain ⟨t,ht,hq⟩:=hbody cdv A outer s H hr
  have hE:(tQ eZ P w K mg base N qual (ay st) f cdv A outer s H E).Ir=(tQ eZ P w K mg base N qual (ay st) f cdv A outer s H E0).Ir:=rfl
  refine ⟨_,nu.dn (by rw [hE];exact ht),qj N ds,M,_,yk h1 rm,hq ds M Q0 h2,fun σ' H' ⟨ρ',M',f',r',z⟩=>?_,fun v H' ⟨d,M',f',dv,UT,z⟩=>?_,fun _ _ ⟨_,_,_,_,z⟩=>z.elim,fun _ _ ⟨_,_,_,_,z⟩=>z.elim⟩
  ·obtain ⟨M0,l,q⟩:=z.out
   exact h3 .bJ M0 .bJ H' q (cE.mpr rfl) (r'.mem.le l) (f'.le l)
  ·obtain ⟨M0,l,q⟩:=z.out
   exact h3 d M0 v H' q dv (UT.le l) (f'.le l)
end
end L3
namespace L3
open PySem PySem.Spec PyProof.Rows L2
section
variable {X:Cx}
def intsOf:List D→Option (List Int)
 | []=>some []
 | .int i :: ds=>(intsOf ds).map (i :: ·)
 | _ :: _=>none
theorem qk:∀ {ds:List D} {ns:List Int},intsOf ds=some ns→ds=ns.map D.int
 | [],ns,h=>by cases h;rfl
 | .int i :: ds,ns,h=>by
   have h:(intsOf ds).map (i :: ·)=some ns:=h
   cases q:intsOf ds with
   | none=>rw [q] at h;cases h
   | some ms=>
     rw [q] at h
     have h:i :: ms=ns:=Option.some.inj h
     subst h
     rw [qk q];rfl
 | .bJ :: _,ns,h=>by cases h
 | .bl _ :: _,ns,h=>by cases h
 | .str _ :: _,ns,h=>by cases h
 | .ty _ :: _,ns,h=>by cases h
 | .ref _ :: _,ns,h=>by cases h
 | .tup _ :: _,ns,h=>by cases h
 | .ze _ :: _,ns,h=>by cases h
 | .KC _ :: _,ns,h=>by cases h
 | .exc _ _ _ :: _,ns,h=>by cases h
def Th:D→D→Option Bool
 | .int i,.int j=>some (decide (i < j))
 | .tup ds,.tup es=>match intsOf ds,intsOf es with
   | some ns,some ms=>some (HT.lexLt ns ms)
   | _,_=>none
 | _,_=>none
def RM:R3:=fun d e M Q=> ∃ b,Th d e=some b∧Q (.bl b) M
theorem mZ (hu:X.A.units+64 < cLine):qH X (compareOp .Lt) RM:=by
 constructor
 intro pins s σ H M x y d e v u Q I rm rx ry dx dy ⟨b,hb,q⟩
 unfold Th at hb
 split at hb
 ·rename_i i j
  have hb:=Option.some.inj hb
  subst hb
  exact RC.run pins s σ H M x y _ _ v u Q I rm rx ry dx dy ⟨i,j,rfl,rfl,q⟩
 ·rename_i ds es
  split at hb
  ·rename_i ns ms h1 h2
   have hb:=Option.some.inj hb
   subst hb
   exact (OD hu).run pins s σ H M x y _ _ v u Q I rm rx ry dx dy ⟨ns,ms,by rw [qk h1],by rw [qk h2],q⟩
  ·cases hb
 ·cases hb
theorem bf:bootBuiltins "len" =some (.builtin "len"):=by decide +kernel
theorem iP:bootBuiltins "min" =some (.builtin "min"):=by decide +kernel
theorem EL:bootBuiltins "max" =some (.builtin "max"):=by decide +kernel
theorem cF:bootBuiltins "sorted" =some (.builtin "sorted"):=by decide +kernel
theorem av:bootBuiltins "isinstance" =some (.builtin "isinstance"):=by decide +kernel
theorem bQ:bootBuiltins "list" =some (.type "list"):=by decide +kernel
theorem fH:bootBuiltins "int" =some (.type "int"):=by decide +kernel
theorem lH:bootBuiltins "bool" =some (.type "bool"):=by decide +kernel
theorem dD:bootBuiltins "tuple" =some (.type "tuple"):=by decide +kernel
end
theorem uK {m n:Nat} (h:m≤n):2 ^ m≤2 ^ n:=abM (by decide) h
theorem Sm.le {m n:Nat} {i:Int} (h:Sm m i) (l:m≤n):Sm n i:=Zc h (uK l)
theorem Sm.L8 {n:Nat} {i j:Int} (h:Sm n j) (l:i.natAbs≤j.natAbs):Sm n i:=Nat.lt_of_le_of_lt l h
theorem Sm.add {m n:Nat} {i j:Int} (h1:Sm m i) (h2:Sm n j):Sm (max m n+1) (i+j):=by
 have a:=Zc h1 (uK (Nat.le_max_left m n))
 have b:=Zc h2 (uK (Nat.le_max_right m n))
 show (i+j).natAbs < 2 ^ (max m n+1)
 rw [Nat.pow_succ]
 have:=Int.natAbs_add_le i j
 omega
theorem Sm.neg {n:Nat} {i:Int} (h:Sm n i):Sm n (-i):=by
 show (-i).natAbs < _
 rw [Int.natAbs_neg];exact h
theorem Sm.sub {m n:Nat} {i j:Int} (h1:Sm m i) (h2:Sm n j):Sm (max m n+1) (i - j):=by
 rw [Int.sub_eq_add_neg];exact h1.add h2.neg
theorem Sm.mul {m n:Nat} {i j:Int} (h1:Sm m i) (h2:Sm n j):Sm (m+n) (i*j):=by
 show (i*j).natAbs < 2 ^ (m+n)
 rw [Int.natAbs_mul,Nat.pow_add]
 exact Nat.mul_lt_mul'' h1 h2
theorem Sm.emod {n:Nat} {i j:Int} (hj:0 < j) (h:Sm n j):Sm n (i % j):=by
 have h1:=ZG i (show j≠0 by omega)
 have h2:=ZD i hj
 exact h.L8 (by omega)
instance {n:Nat} {i:Int}:Decidable (Sm n i):=inferInstanceAs (Decidable (_ < _))
theorem Sm.sign (i:Int):Sm 1 i.sign:=by
 rcases aam i 0 with h | h | h
 ·rw [aai h];decide
 ·subst h;decide
 ·rw [Z8 h];decide
theorem MulOk.of {m n:Nat} {i j:Int} (h1:Sm m i) (h2:Sm n j) (h:m+n≤100000):MulOk i j:=⟨m,n,h1,h2,h⟩
theorem Sm.lit (i:Int):Sm (i.natAbs.log2+1) i:=Nat.lt_log2_self
theorem Sm.two:Sm 2 2:=by decide
theorem Sm.one:Sm 1 1:=by decide
theorem Sm.zero:Sm 0 0:=by decide
theorem bZ {K:PySem.W.Frag} {n:String}:PySem.W.kitOne K (.type n) (.type n)=some true:=by simp [PySem.W.kitOne]
structure Pl where
 x:Int
 y:Int
 deriving DecidableEq
def Pl.d (p:Pl):D:= .tup [.int p.x,.int p.y]
def Pl.Ok (n:Nat) (p:Pl):Prop:=Sm n p.x∧Sm n p.y
theorem cY (p q:Pl):eg p.d q.d=decide (p=q):=by
 unfold Pl.d
 rw [lG,kH,kH,A0,c6,c6,ZW]
 cases p;cases q
 simp
end L3
namespace L3
open PySem L2
theorem yo {K:PySem.W.Frag} {H:Hp}:∀ (ns:List Int),aM K H (ns.map D.int) (ns.map V.int)
 | []=>aV.mpr rfl
 | n :: ns=>aQ.mpr ⟨_,_,rfl,aW.mpr rfl,yo ns⟩
end L3
namespace L3
theorem aP {gd:Mp→Prop} {g:BY} {tb:nk} {D:KG} {ρ:En} {M:Mp} (Pv:Nat→En→Mp→Prop):∀ (xs:List L3.D),
 (∀ (i:Nat) (x:L3.D) (ρ:En) (M:Mp) (N:En→Mp→Prop),xs[i]?=some x→Pv i ρ M→(∀ ρ' M',Pv (i+1) ρ' M'→N ρ' M')→gd M∧g x ρ M fun ρ2 M2=>tb { D with nx:=N,ct:=N,bk:=D.nx } ρ2 M2)→
 (∀ ρ M,Pv xs.length ρ M→gd M∧D.nx ρ M)→Pv 0 ρ M→runFor gd g tb D xs ρ M:=by
 intro xs hs hd h0
 have key:∀ (ys:List L3.D) (i:Nat) (ρ:En) (M:Mp),xs.drop i=ys→Pv i ρ M→i≤xs.length→runFor gd g tb D ys ρ M:=by
  intro ys
  induction ys with
  | nil=>
    intro i ρ M e p hi
    have:xs.length≤i:=by
     have:=congrArg List.length e
     rw [aah] at this
     simp at this
     omega
    have:i=xs.length:=by omega
    subst this
    exact hd ρ M p
  | cons y ys ih=>
    intro i ρ M e p hi
    have hx:xs[i]?=some y:=by
     have:=congrArg (fun l=>l[0]?) e
     simpa using this
    have hlt:i < xs.length:=(Ze.mp hx).1
    refine hs i y ρ M _ hx p fun ρ' M' p'=>ih (i+1) ρ' M' ?_ p' hlt
    rw [← ab8,e]
    rfl
 exact key xs 0 ρ M rfl h0 (Z3 _)
theorem cg {n i:Nat} {x:L3.D} (h:((List.range n).map fun (k:Nat)=>L3.D.int (k:Int))[i]?=some x):i < n∧x= .int (i:Int):=by
 rw [ZI] at h
 by_cases hi:i < n
 ·rw [List.getElem?_range hi] at h
  exact ⟨hi,(Option.some.inj h).symm⟩
 ·rw [aap (by simp;omega)] at h
  cases h
end L3
namespace L3
theorem nW (a:Int):0≤a*a:=by
 rcases aaL 0 a with h | h
 ·exact Zi h h
 ·exact Zo h h
def frac (a b:Int):Pl:=⟨a.fdiv ((Int.gcd a b:Int)*b.sign),b.fdiv ((Int.gcd a b:Int)*b.sign)⟩
def low (a b:Int):Pl:=⟨a / (Int.gcd a b:Int),b / (Int.gcd a b:Int)⟩
end L3
local macro_rules | `(tactic| walk_at "sm")=> `(tactic| first | assumption | exact L3.Sm.sign _ | exact L3.Sm.zero | exact L3.Sm.one | exact L3.Sm.two | ((with_reducible apply L3.Sm.mul) <;> walk_at "sm") | ((with_reducible apply L3.Sm.sub) <;> walk_at "sm") | ((with_reducible apply L3.Sm.add) <;> walk_at "sm") | ((with_reducible apply L3.Sm.neg) <;> walk_at "sm") | ((with_reducible apply L3.Sm.abs) <;> walk_at "sm") | ((with_reducible apply L3.Sm.emod);(first | omega | decide +kernel);walk_at "sm") | exact L3.Sm.lit _)
local macro_rules | `(tactic| walk_at "smle")=> `(tactic| (apply L3.Sm.le;walk_at "sm";first | omega | decide +kernel))
namespace L3
@[irreducible] def UU (p f g:Pl):Int:=(p.x*f.y - f.x)*g.y*((p.x*f.y - f.x)*g.y)+(p.y*g.y - g.x)*f.y*((p.y*g.y - g.x)*f.y)
@[irreducible] def sq (p f g:Pl):Pl:=frac (UU p f g) (f.y*g.y*(f.y*g.y))
@[irreducible] def nr (f g p q:Pl):Int:=if (sq p f g).x*(sq q f g).y < (sq q f g).x*(sq p f g).y then 1 else if (sq q f g).x*(sq p f g).y < (sq p f g).x*(sq q f g).y then -1 else 0
end L3
namespace L3
@[irreducible] def tw (a b c:Pl):Int:=(b.x - a.x)*(c.y - a.y) - (b.y - a.y)*(c.x - a.x)
theorem gw (a b c:Pl):tw b c a=tw a b c:=by unfold tw;grind
theorem dX (a b c:Pl):tw b a c= -tw a b c:=by unfold tw;grind
theorem kJ (a b c:Pl):tw a c b= -tw a b c:=by unfold tw;grind
theorem gQ (a b:Pl):tw a a b=0:=by unfold tw;grind
theorem uL (a b:Pl):tw a b b=0:=by unfold tw;grind
theorem iV (a b:Pl):tw a b a=0:=by unfold tw;grind
def aL (p q:Pl):Prop:=p.x < q.x∨(p.x=q.x∧p.y < q.y)
instance (p q:Pl):Decidable (aL p q):=inferInstanceAs (Decidable (_∨_))
theorem aY (p:Pl):¬ aL p p:=by unfold aL;omega
theorem aZ {p q r:Pl} (a:aL p q) (b:aL q r):aL p r:=by unfold aL at *;omega
theorem aG {p q:Pl} (a:aL p q):¬ aL q p:=by unfold aL at *;omega
theorem bV (p q:Pl):aL p q∨p=q∨aL q p:=by
 unfold aL
 by_cases h:p=q
 ·exact .inr (.inl h)
 ·have:¬ (p.x=q.x∧p.y=q.y):=fun ⟨a,b⟩=>h (by cases p;cases q;simp only at a b;rw [a,b])
  omega
theorem lJ {p q:Pl} (a:aL p q):p≠q:=fun e=>aY q (e▸a)
def lo (p q:Pl):Pl:=if aL q p then q else p
def hi (p q:Pl):Pl:=if aL p q then q else p
def uM (a b c:Pl):Int:=(a.x - c.x)*(b.x - c.x)+(a.y - c.y)*(b.y - c.y)
theorem A5 {a b:Int} (ha:0 < a):(0 < a*b↔0 < b)∧(a*b < 0↔b < 0)∧(a*b=0↔b=0):=by
 rcases aam b 0 with h | h | h
 ·have:=ZL ha h
  omega
 ·subst h;simp
 ·have:=ZC ha h
  omega
theorem lK {ux uy vx vy:Int} (hc:ux*vy=uy*vx) (hu:ux < 0∨(ux=0∧uy < 0)) (hv:0 < vx∨(vx=0∧0 < vy)):ux*vx+uy*vy < 0:=by
 rcases hu with hu | ⟨hu,kE⟩
 ·rcases hv with hv | ⟨hv,hv'⟩
  ·have h1:ux*vx < 0:=by have:=ZC (show 0 < -ux by omega) hv;rw [aa4] at this;omega
   have h2:vx*(uy*vy)=ux*(vy*vy):=by grind
   have h3:=nW vy
   have h4:0≤(-ux)*(vy*vy):=Zi (by omega) h3
   rw [aa4] at h4
   have h5:=(A5 (b:=uy*vy) hv).1
   omega
  ·subst hv
   have:=ZC (show 0 < -ux by omega) hv'
   rw [aa4] at this
   omega
 ·subst hu
  rcases hv with hv | ⟨hv,hv'⟩
  ·have:=ZC (show 0 < -uy by omega) hv
   rw [aa4] at this
   omega
  ·subst hv
   have:=ZC (show 0 < -uy by omega) hv'
   rw [aa4] at this
   omega
theorem pZ {ux uy vx vy:Int} (hc:ux*vy=uy*vx) (hu:ux < 0∨(ux=0∧uy < 0)) (hv:vx < 0∨(vx=0∧vy < 0)):0 < ux*vx+uy*vy:=by
 have:=lK (ux:=ux) (uy:=uy) (vx:= -vx) (vy:= -vy) (by grind) hu (by omega)
 have e:ux* -vx+uy* -vy= -(ux*vx+uy*vy):=by grind
 omega
theorem sZ (a b c:Pl) (h0:tw a b c=0):(aL (lo a b) c∧aL c (hi a b))↔(c≠a∧c≠b∧uM a b c < 0):=by
 have hc:(a.x - c.x)*(b.y - c.y)=(a.y - c.y)*(b.x - c.x):=by unfold tw at h0;grind
 have hc':(b.x - c.x)*(a.y - c.y)=(b.y - c.y)*(a.x - c.x):=by unfold tw at h0;grind
 have e:uM a b c=(a.x - c.x)*(b.x - c.x)+(a.y - c.y)*(b.y - c.y):=rfl
 have e':uM a b c=(b.x - c.x)*(a.x - c.x)+(b.y - c.y)*(a.y - c.y):=by rw [e];grind
 have e'':uM a b c=(-(b.x - c.x))*(-(a.x - c.x))+(-(b.y - c.y))*(-(a.y - c.y)):=by rw [e];grind
 have RN:(-(b.x - c.x))*(-(a.y - c.y))=(-(b.y - c.y))*(-(a.x - c.x)):=by rw [aa9,aa9];exact hc'
 unfold lo hi
 rcases bV a c with ha | ha | ha
 ·rcases bV c b with hb | hb | hb
  ·have hab:=aZ ha hb
   rw [if_neg (aG hab),if_pos hab]
   refine ⟨fun _=>⟨(lJ ha).symm,lJ hb,?_⟩,fun _=>⟨ha,hb⟩⟩
   rw [e]
   exact lK hc (by unfold aL at ha;omega) (by unfold aL at hb;omega)
  ·subst hb
   constructor
   ·rintro ⟨_,h2⟩
    exfalso
    split at h2
    ·exact aY _ h2
    ·rename_i z;exact z ha
   ·rintro ⟨_,h2,_⟩;exact absurd rfl h2
  ·constructor
   ·rintro ⟨_,h2⟩
    exfalso
    split at h2
    ·exact aG hb h2
    ·exact aG ha h2
   ·rintro ⟨_,_,h⟩
    exfalso
    rw [e] at h
    have:=pZ hc (by unfold aL at ha;omega) (by unfold aL at hb;omega)
    omega
 ·subst ha
  constructor
  ·rintro ⟨h1,h2⟩
   exfalso
   split at h1
   ·split at h2
    ·exact aG h1 h2
    ·exact aY _ h2
   ·exact aY _ h1
  ·rintro ⟨h,_⟩;exact absurd rfl h
 ·rcases bV c b with hb | hb | hb
  ·constructor
   ·rintro ⟨h1,_⟩
    exfalso
    split at h1
    ·exact aG hb h1
    ·exact aG ha h1
   ·rintro ⟨_,_,h⟩
    exfalso
    rw [e''] at h
    have:=pZ RN (by unfold aL at hb;omega) (by unfold aL at ha;omega)
    omega
  ·subst hb
   constructor
   ·rintro ⟨h1,h2⟩
    exfalso
    split at h1
    ·exact aY _ h1
    ·rename_i z;exact z ha
   ·rintro ⟨_,h2,_⟩;exact absurd rfl h2
  ·have hba:=aZ hb ha
   rw [if_pos hba,if_neg (aG hba)]
   refine ⟨fun _=>⟨lJ ha,(lJ hb).symm,?_⟩,fun _=>⟨hb,ha⟩⟩
   rw [e']
   exact lK hc' (by unfold aL at hb;omega) (by unfold aL at ha;omega)
@[irreducible] def lM (p q:Pl):Int:=(q.x - p.x)*(q.x - p.x)+(q.y - p.y)*(q.y - p.y)
@[irreducible] def dep (a b c d:Pl):Int:=lM d a*tw d b c+lM d b*tw d c a+lM d c*tw d a b
theorem uu (a b c d:Pl):dep b c a d=dep a b c d:=by unfold dep;grind
theorem GF (a b c d:Pl):dep b a c d= -dep a b c d:=by unfold dep;have:=dX d;unfold tw;grind
theorem uN (a:Pl):lM a a=0:=by unfold lM;grind
theorem O1 (a b c:Pl):dep a b c a=0:=by unfold dep;rw [uN,gQ,iV];grind
theorem O2 (a b c:Pl):dep a b c b=0:=by unfold dep;rw [uN,gQ,iV];grind
theorem KJ (a b c:Pl):dep a b c c=0:=by unfold dep;rw [uN,gQ,iV];grind
@[irreducible] def rg (a b c d:Pl):Int:=(tw a b c).sign*(dep a b c d).sign
theorem nX (a b c d:Pl):rg b c a d=rg a b c d:=by unfold rg;rw [gw,uu]
theorem qQ (a b c d:Pl):rg b a c d=rg a b c d:=by unfold rg;rw [dX,GF,abt,abt,aa9]
end L3
namespace L3
def kX (a b c d:Pl):Prop:=rg a b c d=1∨(rg a b c d=0∧d≠a∧d≠b∧d≠c∧((aL d a∧aL d b∧aL d c)∨(aL a b∧aL a c∧aL a d∧(tw b c d).sign≠(tw b c a).sign)∨(aL b a∧aL b c∧aL b d∧(tw c a d).sign≠(tw c a b).sign)∨(aL c a∧aL c b∧aL c d∧(tw a b d).sign≠(tw a b c).sign)))
instance (a b c d:Pl):Decidable (kX a b c d):=inferInstanceAs (Decidable (_∨_))
theorem uO {a b c d:Pl} (h:kX a b c d):kX b c a d:=by
 rcases h with h | ⟨h0,n1,n2,n3,h⟩
 ·exact .inl ((nX a b c d).trans h)
 ·refine .inr ⟨(nX a b c d).trans h0,n2,n3,n1,?_⟩
  rcases h with ⟨k1,k2,k3⟩ | ⟨k1,k2,k3,k4⟩ | ⟨k1,k2,k3,k4⟩ | ⟨k1,k2,k3,k4⟩
  ·exact .inl ⟨k2,k3,k1⟩
  ·exact .inr (.inr (.inr ⟨k1,k2,k3,k4⟩))
  ·exact .inr (.inl ⟨k2,k1,k3,k4⟩)
  ·exact .inr (.inr (.inl ⟨k2,k1,k3,k4⟩))
theorem ju (a b c d:Pl):kX b c a d↔kX a b c d:=⟨fun h=>uO (uO h),uO⟩
theorem nY (i j:Int):((-i).sign≠(-j).sign)↔(i.sign≠j.sign):=by
 rw [abt,abt];omega
theorem yp {a b c d:Pl} (h:kX a b c d):kX b a c d:=by
 rcases h with h | ⟨h0,n1,n2,n3,h⟩
 ·exact .inl ((qQ a b c d).trans h)
 ·refine .inr ⟨(qQ a b c d).trans h0,n2,n1,n3,?_⟩
  rcases h with ⟨k1,k2,k3⟩ | ⟨k1,k2,k3,k4⟩ | ⟨k1,k2,k3,k4⟩ | ⟨k1,k2,k3,k4⟩
  ·exact .inl ⟨k2,k1,k3⟩
  ·refine .inr (.inr (.inl ⟨k1,k2,k3,?_⟩))
   rw [dX b c d,dX b c a]
   exact (nY _ _).mpr k4
  ·refine .inr (.inl ⟨k1,k2,k3,?_⟩)
   rw [dX c a d,dX c a b]
   exact (nY _ _).mpr k4
  ·refine .inr (.inr (.inr ⟨k2,k1,k3,?_⟩))
   rw [dX a b d,dX a b c]
   exact (nY _ _).mpr k4
theorem uP (a b c d:Pl):kX b a c d↔kX a b c d:=⟨yp,yp⟩
theorem dJ (i:Int):(i < 0∧i.sign= -1)∨(i=0∧i.sign=0)∨(0 < i∧i.sign=1):=by
 rcases aam i 0 with h | h | h
 ·exact .inl ⟨h,aai h⟩
 ·exact .inr (.inl ⟨h,by rw [h];rfl⟩)
 ·exact .inr (.inr ⟨h,Z8 h⟩)
theorem zg {p q:Pl} (h:p≠q):0 < lM p q:=by
 unfold lM
 have h1:=nW (q.x - p.x)
 have h2:=nW (q.y - p.y)
 rcases aam ((q.x - p.x)*(q.x - p.x)+(q.y - p.y)*(q.y - p.y)) 0 with z | z | z
 ·omega
 ·exfalso
  have e1:(q.x - p.x)*(q.x - p.x)=0:=by omega
  have e2:(q.y - p.y)*(q.y - p.y)=0:=by omega
  have f1:q.x - p.x=0:=by rcases Zv.mp e1 with z | z <;> exact z
  have f2:q.y - p.y=0:=by rcases Zv.mp e2 with z | z <;> exact z
  exact h (by cases p;cases q;simp only at f1 f2;congr 1 <;> omega)
 ·exact z
theorem lN {a b c d:Pl} (h:dep a b c d=0):rg a b c d=0:=by unfold rg;rw [h];simp
def UW (p q r s:Pl):Prop:=(0 < tw p q r∧tw p q s < 0)∨(tw p q r < 0∧0 < tw p q s)
theorem O3 {a b c d:Pl} (ht:tw a b c≠0) (h:dep a b c d≠0):rg a b c d≠0:=by
 unfold rg
 rcases dJ (tw a b c) with ⟨u,e⟩ | ⟨u,e⟩ | ⟨u,e⟩ <;> rcases dJ (dep a b c d) with ⟨v,f⟩ | ⟨v,f⟩ | ⟨v,f⟩ <;> rw [e,f] <;> first | decide | omega
theorem Jo {a b c d:Pl} (ht:tw a b c≠0) (h:dep a b c d≠0):kX a b c d↔rg a b c d=1:=by
 constructor
 ·rintro (z | ⟨z,_⟩)
  ·exact z
  ·exact absurd z (O3 ht h)
 ·exact .inl
def dt (a b x:Pl):Int:=(x.x - a.x)*(x.x - b.x)+(x.y - a.y)*(x.y - b.y)
theorem A6 (a b x y:Pl):dep a b x y=dt a b x*tw a b y - dt a b y*tw a b x:=by unfold dep lM tw dt;grind
theorem Jp (a b c d:Pl):kX a c b d↔kX a b c d:=by
 rw [← ju a c b d,uP,← ju,ju,ju]
theorem DG {a b c d:Pl} (h:0 < tw a b c):rg a b c d=(dep a b c d).sign:=by unfold rg;rw [Z8 h,ab0]
theorem DH {a b x y:Pl} (hx:0 < tw a b x) (h:kX a b x y):0≤dep a b x y∧x≠y:=by
 unfold kX at h
 rw [DG hx] at h
 rcases dJ (dep a b x y) with ⟨v,f⟩ | ⟨v,f⟩ | ⟨v,f⟩ <;> rw [f] at h
 ·omega
 ·refine ⟨by omega,?_⟩
  rcases h with h | h
  ·cases h
  ·exact fun e=>h.2.2.2.1 e.symm
 ·refine ⟨by omega,fun e=>?_⟩
  subst e
  rw [KJ] at v
  omega
theorem ql {a b x y:Pl} (hx:0 < tw a b x) (h:0 < dep a b x y):kX a b x y:=by
 left;rw [DG hx,Z8 h]
theorem g9 {p q:Pl} (h:p≠q):aL p q∨aL q p:=by
 rcases bV p q with z | z | z
 ·exact .inl z
 ·exact absurd z h
 ·exact .inr z
end L3
namespace L3
end L3
namespace L3
end L3
namespace L3
open PySem PySem.Spec PyProof.Rows
section
variable {P:Program} {w:World} {A:Around} {E:Value→Shared→Prop} {s:Shared} {κ:KeyKind} {kd:SortKind} {z:Array Keyed} {t:SortSt}
structure Ask (P:Program) (w:World) (A:Around) (s:Shared) (κ:KeyKind) (kd:SortKind):Prop where
 lt:∀ (E:Value→Shared→Prop) (x y:Value) (a b:κ.α) (R:Bool→Shared→Prop),κ.keyOf x=some a→κ.keyOf y=some b→R (κ.blt a b) s→wpAny (model P w) A (keyLt' kd x y) R E s
structure Mid (kd:SortKind) (z:Array Keyed) (t:SortSt):Prop where
 pm:(arrOf t).Perm z
 kd:kindOf t=kd
 ok:failedOf t=none
 no:pendingOf t= #[]
theorem Mid.sz (m:Mid kd z t):(arrOf t).size=z.size:=m.pm.size_eq
theorem Mid.put (m:Mid kd z t) {y:Array Keyed} (h:y.Perm (arrOf t)):Mid kd z (setArr t y):=⟨h.trans m.pm,m.kd,m.ok,m.no⟩
theorem Mid.key (m:Mid kd z t) (hk:KeysOf κ z) {i:Nat} (hi:i < z.size):∃ x q,(arrOf t)[i]?=some (x,q)∧κ.keyOf x=some (KK κ (arrOf t) i):=by
 have hlt:i < (arrOf t).size:=m.sz▸hi
 have e:(arrOf t)[i]?=some (arrOf t)[i]:=getElem?_pos _ i hlt
 obtain ⟨a,ha⟩:=hk (arrOf t)[i] ((Array.perm_iff_toList_perm.mp m.pm).mem_iff.mp (by simp))
 refine ⟨(arrOf t)[i].1,(arrOf t)[i].2,e,?_⟩
 have ek:KK κ (arrOf t) i=a:=by unfold KK;rw [e];simp only [ha,Option.getD_some]
 rw [ek];exact ha
theorem uQ (hA:Ask P w A s κ kd) (m:Mid kd z t) (hk:KeysOf κ z) {i j:Nat} (hi:i < z.size) (hj:j < z.size) {R:Option Bool→SortSt→Prop}
 (h:R (some (κ.blt (KK κ (arrOf t) i) (KK κ (arrOf t) j))) t):wpS (model P w) A E s (ltAt' i j) R t:=by
 obtain ⟨x,p,e1,k1⟩:=m.key hk hi
 obtain ⟨y,q,e2,k2⟩:=m.key hk hj
 rw [ltAt'_eq]
 apply wpS_bind;apply wpS_get
 show wpS (model P w) A E s (elem' (arrOf t) i >>= fun u=>elem' (arrOf t) j >>= fun v=>lt' u v) R t
 rw [elem'_eq,elem'_eq,e1,e2]
 apply wpS_bind;apply wpS_pure
 apply wpS_bind;apply wpS_pure
 rw [lt'_eq]
 apply wpS_bind;apply wpS_get
 rw [m.kd]
 refine wpS_bind (wpS_lift (wpAny_attempt (hA.lt _ x y _ _ _ k1 k2 ⟨rfl,wpS_pure h⟩)))
theorem rise {y:Array Keyed} {n:Nat} (h:SortedToK κ y n) (hl:1≤n) (hn:κ.kle (KK κ y (n - 1)) (KK κ y n)):SortedToK κ y (n+1):=by
 intro i j hij hj
 rcases aaW j n with c | c
 ·exact h i j hij c
 ·obtain rfl:j=n:=by omega
  rcases aaW i j with d | d
  ·exact KeyOrd.kle_trans (h i (j - 1) (by omega) (by omega)) hn
  ·obtain rfl:i=j:=by omega
   exact KeyOrd.kle_refl _
theorem Jq {y:Array Keyed} {n:Nat} (h:NonIncK κ y n) (hl:1≤n) (hn:κ.kle (KK κ y n) (KK κ y (n - 1))):NonIncK κ y (n+1):=by
 intro i j hij hj
 rcases aaW j n with c | c
 ·exact h i j hij c
 ·obtain rfl:j=n:=by omega
  rcases aaW i j with d | d
  ·exact KeyOrd.kle_trans hn (h i (j - 1) (by omega) (by omega))
  ·obtain rfl:i=j:=by omega
   exact KeyOrd.kle_refl _
theorem one_up (y:Array Keyed):SortedToK κ y 1:=by
 intro i j hij hj
 obtain rfl:i=j:=by omega
 exact KeyOrd.kle_refl _
theorem Mb (y:Array Keyed):NonIncK κ y 1:=by
 intro i j hij hj
 obtain rfl:i=j:=by omega
 exact KeyOrd.kle_refl _
theorem DI (hA:Ask P w A s κ kd) (hk:KeysOf κ z) (m:Mid kd z t) {a e:Nat} (he:e≤z.size) (h1:1≤a) (RO:a≤e) (up:SortedToK κ (arrOf t) a) {R:AscSt→SortSt→Prop}
 (h:∀ n,a≤n→n≤e→SortedToK κ (arrOf t) n→(n < e→κ.klt (KK κ (arrOf t) n) (KK κ (arrOf t) (n - 1)))→R (none,n) t):wpS (model P w) A E s (ascLoop a e) R t:=by
 unfold ascLoop
 refine wpS_forRange (I:=fun i b u=>b=(none,i)∧u=t∧SortedToK κ (arrOf t) i) (fun i b u hi1 hi2 hI=>?_) (fun b u hI=>?_) ⟨rfl,rfl,up⟩
 ·obtain ⟨rfl,rfl,hup⟩:=hI
  apply wpS_bind
  apply uQ hA m hk (by show i < z.size;omega) (by show i - 1 < z.size;omega)
  show wpS (model P w) A E s (if κ.blt (KK κ (arrOf u) i) (KK κ (arrOf u) (i - 1))=true then _ else _) _ u
  cases c:κ.blt (KK κ (arrOf u) i) (KK κ (arrOf u) (i - 1)) with
  | true=>rw [if_pos rfl];exact wpS_pure (h i hi1 (by omega) hup fun _=>c)
  | false=>rw [if_neg Zg];exact wpS_pure ⟨rfl,rfl,rise hup (by omega) c⟩
 ·obtain ⟨rfl,rfl,hup⟩:=hI
  have em:max a e=e:=by omega
  rw [em] at hup ⊢
  exact h e RO (Zb e) hup fun c=>absurd c (ZJ e)
theorem A7 (hA:Ask P w A s κ kd) (hk:KeysOf κ z) (m:Mid kd z t) {n e:Nat} (he:e≤z.size) (h1:1≤n) (hne:n≤e) (dn:NonIncK κ (arrOf t) n) {R:Option Nat→SortSt→Prop}
 (h:∀ i u,Mid kd z u→1≤i→i≤e→SortedToK κ (arrOf u) i→R (some i) u):wpS (model P w) A E s (tail3 n e) R t:=by
 have hz:n≤(arrOf t).size:=by have:=m.sz;omega
 have m2:=m.put (mirror_perm (arrOf t) 0 n ((n - 0) / 2))
 unfold tail3
 apply wpS_bind
 apply wpS_reverse
 apply wpS_bind
 refine DI hA hk m2 he h1 hne (fun i j hij hj=>?_) fun i h2 h3 up _=>wpS_pure (h i _ m2 (by omega) h3 up)
 show κ.kle (KK κ (mirror (arrOf t) 0 n ((n - 0) / 2)) i) (KK κ (mirror (arrOf t) 0 n ((n - 0) / 2)) j)
 rw [KK_mirror hz i,KK_mirror hz j,if_pos ⟨Z3 i,by omega⟩,if_pos ⟨Z3 j,hj⟩]
 exact dn _ _ (by omega) (by omega)
def GG (κ:KeyKind) (y:Array Keyed) (n q:Nat):Prop:=q+1≤n∧∀ i,n - (q+1)≤i→i < n→KK κ y i=KK κ y (n - 1)
theorem GH {y:Array Keyed} {n:Nat} (h:1≤n):GG κ y n 0:=by
 refine ⟨by omega,fun i h1 h2=>?_⟩
 obtain rfl:i=n - 1:=by omega
 rfl
theorem GI (hA:Ask P w A s κ kd) (hk:KeysOf κ z) (m:Mid kd z t) {a e:Nat} (he:e≤z.size) (h1:1≤a) (RO:a≤e) (dn:NonIncK κ (arrOf t) a) {R:DescSt→SortSt→Prop}
 (h:∀ n q u,Mid kd z u→a≤n→n≤e→NonIncK κ (arrOf u) n→GG κ (arrOf u) n q→R (none,n,q) u):wpS (model P w) A E s (descLoop a e) R t:=by
 unfold descLoop
 refine wpS_forRange (I:=fun i b u=>Mid kd z u∧NonIncK κ (arrOf u) i∧∃ q,GG κ (arrOf u) i q∧b=(none,i,q)) (fun i b u hi1 hi2 hI=>?_) (fun b u hI=>?_) ⟨m,dn,0,GH h1,rfl⟩
 ·obtain ⟨mu,hd,q,hq,rfl⟩:=hI
  have hz:i≤(arrOf u).size:=by have:=mu.sz;omega
  apply wpS_bind
  apply uQ hA mu hk (by show i < z.size;omega) (by show i - 1 < z.size;omega)
  show wpS (model P w) A E s (if κ.blt (KK κ (arrOf u) i) (KK κ (arrOf u) (i - 1))=true then _ else _) _ u
  cases c:κ.blt (KK κ (arrOf u) i) (KK κ (arrOf u) (i - 1)) with
  | true=>
    rw [if_pos rfl]
    have lower:NonIncK κ (arrOf u) (i+1):=Jq hd (by omega) (KeyOrd.kle_of_klt c)
    show wpS (model P w) A E s (if q > 0 then _ else _) _ u
    by_cases d:q > 0
    ·rw [if_pos d]
     apply wpS_bind
     apply wpS_reverse
     have same:=KK_mirror_equal (κ:=κ) hz hq.2
     refine wpS_pure ⟨mu.put (mirror_perm _ _ _ _),fun x y hxy hy=>?_,0,GH (by omega),rfl⟩
     show κ.kle (KK κ (mirror (arrOf u) (i - (q+1)) i _) y) (KK κ (mirror (arrOf u) (i - (q+1)) i _) x)
     rw [same,same]
     exact lower x y hxy hy
    ·rw [if_neg d]
     exact wpS_pure ⟨mu,lower,0,GH (by omega),rfl⟩
  | false=>
    rw [if_neg Zg]
    apply wpS_bind
    apply uQ hA mu hk (by show i - 1 < z.size;omega) (by show i < z.size;omega)
    show wpS (model P w) A E s (if κ.blt (KK κ (arrOf u) (i - 1)) (KK κ (arrOf u) i)=true then _ else _) _ u
    cases d:κ.blt (KK κ (arrOf u) (i - 1)) (KK κ (arrOf u) i) with
    | true=>rw [if_pos rfl];exact wpS_pure (h i q u mu hi1 (by omega) hd hq)
    | false=>
      rw [if_neg Zg]
      have alike:KK κ (arrOf u) i=KK κ (arrOf u) (i - 1):=κ.total _ _ c d
      refine wpS_pure ⟨mu,Jq hd (by omega) d,q+1,⟨by have:=hq.1;omega,fun x h2 h3=>?_⟩,rfl⟩
      rw [Nat.add_sub_cancel]
      rcases aaW x i with g | g
      ·rw [alike];exact hq.2 x (by omega) g
      ·obtain rfl:x=i:=by omega
       rfl
 ·obtain ⟨mu,hd,q,hq,rfl⟩:=hI
  have em:max a e=e:=by omega
  rw [em] at hd hq ⊢
  exact h e q u mu RO (Zb e) hd hq
theorem A8 (hA:Ask P w A s κ kd) (hk:KeysOf κ z) (m:Mid kd z t) {n e:Nat} (he:e≤z.size) (hne:n+1≤e) (dn:NonIncK κ (arrOf t) (n+1)) {R:Option Nat→SortSt→Prop}
 (h:∀ i u,Mid kd z u→1≤i→i≤e→SortedToK κ (arrOf u) i→R (some i) u):wpS (model P w) A E s (descPart n e) R t:=by
 unfold descPart
 apply wpS_bind
 refine wpS_lift (wpAny_rule ⟨rfl,?_⟩)
 apply wpS_bind
 refine GI hA hk m he (by omega) hne dn fun i q u mu h2 h3 hd hq=>?_
 have hz:i≤(arrOf u).size:=by have:=mu.sz;omega
 show wpS (model P w) A E s (if q > 0 then _ else _) R u
 by_cases d:q > 0
 ·rw [if_pos d]
  apply wpS_bind
  apply wpS_reverse
  have same:=KK_mirror_equal (κ:=κ) hz hq.2
  refine A7 hA hk (mu.put (mirror_perm _ _ _ _)) he (by omega) h3 (fun x y hxy hy=>?_) h
  show κ.kle (KK κ (mirror (arrOf u) (i - (q+1)) i _) y) (KK κ (mirror (arrOf u) (i - (q+1)) i _) x)
  rw [same,same]
  exact hd x y hxy hy
 ·rw [if_neg d]
  exact A7 hA hk mu he (by omega) h3 hd h
theorem EM (hA:Ask P w A s κ kd) (hk:KeysOf κ z) (m:Mid kd z t) {e:Nat} (he:e≤z.size) (h1:1≤e) {R:Option Nat→SortSt→Prop}
 (h:∀ i u,Mid kd z u→1≤i→i≤e→SortedToK κ (arrOf u) i→R (some i) u):wpS (model P w) A E s (countRun' 0 e) R t:=by
 rw [countRun0_eq]
 apply wpS_bind
 refine DI hA hk m he (Zb 1) h1 (one_up _) fun n h2 h3 up stop=>?_
 show wpS (model P w) A E s (if (n == e)=true then _ else _) R t
 by_cases c:n=e
 ·rw [if_pos (beq_iff_eq.mpr c)]
  exact wpS_pure (h n t m h2 h3 up)
 ·rw [if_neg fun q=>c (beq_iff_eq.mp q)]
  have less:=stop (by omega)
  by_cases d:n > 1
  ·rw [if_pos d]
   apply wpS_bind
   apply uQ hA m hk (by omega) (by show n - 1 < z.size;omega)
   show wpS (model P w) A E s (if κ.blt (KK κ (arrOf t) 0) (KK κ (arrOf t) (n - 1))=true then _ else _) R t
   cases g:κ.blt (KK κ (arrOf t) 0) (KK κ (arrOf t) (n - 1)) with
   | true=>rw [if_pos rfl];exact wpS_pure (h n t m h2 h3 up)
   | false=>
     rw [if_neg Zg]
     have hz:n≤(arrOf t).size:=by have:=m.sz;omega
     have one:∀ i,i < n→KK κ (arrOf t) i=KK κ (arrOf t) (n - 1):=fun i hi=>
      KeyOrd.kle_antisymm (up i (n - 1) (by omega) (by omega)) (KeyOrd.kle_trans (show κ.kle (KK κ (arrOf t) (n - 1)) (KK κ (arrOf t) 0) from g) (up 0 i (Z3 i) hi))
     have same:=KK_mirror_equal (κ:=κ) hz (fun i (_:0≤i) hi=>one i hi)
     apply wpS_bind
     apply wpS_reverse
     refine A8 hA hk (m.put (mirror_perm _ _ _ _)) he (by omega) (Jq (fun x y hxy hy=>?_) (by omega) ?_) h
     ·show κ.kle (KK κ (mirror (arrOf t) 0 n _) y) (KK κ (mirror (arrOf t) 0 n _) x)
      rw [same,same,one x (by omega),one y hy]
      exact KeyOrd.kle_refl _
     ·show κ.kle (KK κ (mirror (arrOf t) 0 n _) n) (KK κ (mirror (arrOf t) 0 n _) (n - 1))
      rw [same,same]
      exact KeyOrd.kle_of_klt less
  ·rw [if_neg d]
   obtain rfl:n=1:=by omega
   exact A8 hA hk m he (by omega) (Jq (Mb _) (Zb 1) (KeyOrd.kle_of_klt less)) h
structure Cut (κ:KeyKind) (y:Array Keyed) (k l r:Nat):Prop where
 lr:l≤r
 rk:r≤k
 lo:∀ i,i < l→κ.kle (KK κ y i) (KK κ y k)
 hi:∀ i,r≤i→i < k→κ.klt (KK κ y k) (KK κ y i)
theorem Cut.put {y:Array Keyed} {k l:Nat} (c:Cut κ y k l l) (hk:k < y.size) (up:SortedToK κ y k):SortedToK κ (bubble y k (k - l)) (k+1):=by
 have hl:=c.rk
 have at':∀ i,KK κ (bubble y k (k - l)) i=if i=l then KK κ y k else if l < i∧i≤k then KK κ y (i - 1) else KK κ y i:=fun i=>by
  have:=KK_bubble (κ:=κ) hk (Nat.sub_le k l) i
  have e:k - (k - l)=l:=by omega
  rw [e] at this
  exact this
 intro i j hij hj
 rw [at' i,at' j]
 by_cases i1:i=l
 ·rw [if_pos i1]
  by_cases j1:j=l
  ·rw [if_pos j1];exact KeyOrd.kle_refl _
  ·rw [if_neg j1,if_pos ⟨by omega,by omega⟩]
   exact KeyOrd.kle_of_klt (c.hi _ (by omega) (by omega))
 ·rw [if_neg i1]
  by_cases i2:l < i∧i≤k
  ·rw [if_pos i2,if_neg (by omega),if_pos ⟨by omega,by omega⟩]
   exact up _ _ (by omega) (by omega)
  ·rw [if_neg i2]
   by_cases j1:j=l
   ·rw [if_pos j1];exact c.lo i (by omega)
   ·rw [if_neg j1]
    by_cases j2:l < j∧j≤k
    ·rw [if_pos j2];exact up _ _ (by omega) (by omega)
    ·rw [if_neg j2];exact up _ _ hij (by omega)
theorem Jr (hA:Ask P w A s κ kd) (hk:KeysOf κ z) (m:Mid kd z t) {n o:Nat} (hn:n≤z.size) (ho:o≤n) (up:SortedToK κ (arrOf t) o) {R:Bool→SortSt→Prop}
 (h:∀ u,Mid kd z u→SortedToK κ (arrOf u) n→R true u):wpS (model P w) A E s (binarySort' 0 n o) R t:=by
 rw [binarySort'_eq]
 simp only [Nat.zero_add]
 apply wpS_bind
 refine wpS_mono (wpS_forRange (I:=fun k b u=>b=(none,())∧Mid kd z u∧(k≤n→SortedToK κ (arrOf u) k)∧(n < k→SortedToK κ (arrOf u) n)) (Q:=fun b u=>b=(none,())∧Mid kd z u∧SortedToK κ (arrOf u) n)
  (fun k b u hk1 hk2 hI=>?_) (fun b u hI=>?_) ⟨rfl,m,fun c=>?_,fun c=>?_⟩) fun b u hI=>?_
 ·obtain ⟨rfl,mu,up1,_⟩:=hI
  have RP:=up1 (by omega)
  apply wpS_bind
  refine wpS_mono (wpS_forRange (I:=fun x b v=>v=u∧∃ l r,b=(none,l,r)∧Cut κ (arrOf u) k l r∧r - l≤k - x) (Q:=fun b v=>v=u∧∃ l,b=(none,l,l)∧Cut κ (arrOf u) k l l)
   (fun x b v _ hx hI=>?_) (fun b v hI=>?_) ⟨rfl,0,k,rfl,⟨Z3 k,Zb k,fun i hi=>absurd hi (abC i),fun i h2 h3=>absurd h3 (aao.mpr h2)⟩,Zb _⟩) fun b v hI=>?_
  ·obtain ⟨rfl,l,r,rfl,c,hw⟩:=hI
   show wpS (model P w) A E s (if l≥r then _ else _) _ v
   by_cases d:l≥r
   ·rw [if_pos d]
    obtain rfl:l=r:=Nat.le_antisymm c.lr d
    exact wpS_pure ⟨rfl,l,rfl,c⟩
   ·rw [if_neg d]
    have hrk:=c.rk
    apply wpS_bind
    apply uQ hA mu hk (by show k < z.size;omega) (by show (l+r) / 2 < z.size;omega)
    show wpS (model P w) A E s (if κ.blt (KK κ (arrOf v) k) (KK κ (arrOf v) ((l+r) / 2))=true then _ else _) _ v
    cases g:κ.blt (KK κ (arrOf v) k) (KK κ (arrOf v) ((l+r) / 2)) with
    | true=>
      rw [if_pos rfl]
      exact wpS_pure ⟨rfl,l,(l+r) / 2,rfl,⟨by omega,by omega,c.lo,fun i h2 h3=>KeyOrd.klt_of_klt_of_kle g (RP _ i h2 h3)⟩,by omega⟩
    | false=>
      rw [if_neg Zg]
      exact wpS_pure ⟨rfl,(l+r) / 2+1,r,rfl,⟨by omega,by omega,fun i h2=>KeyOrd.kle_trans (RP i _ (by omega) (by omega)) g,c.hi⟩,by omega⟩
  ·obtain ⟨rfl,l,r,rfl,c,hw⟩:=hI
   have e:max 0 k=k:=by omega
   rw [e] at hw
   obtain rfl:l=r:=by have:=c.lr;omega
   exact ⟨rfl,l,rfl,c⟩
  ·obtain ⟨rfl,l,rfl,c⟩:=hI
   show wpS (model P w) A E s (moveDown' k l >>= fun _=>pure (ForInStep.yield (none,()))) _ v
   rw [moveDown'_eq]
   apply wpS_bind
   apply wpS_modify
   have hz:k < (arrOf v).size:=by have:=mu.sz;omega
   exact wpS_pure ⟨rfl,mu.put (bubble_perm _ _ _),fun _=>c.put hz RP,fun q=>by omega⟩
 ·obtain ⟨rfl,mu,up1,UX⟩:=hI
  refine ⟨rfl,mu,?_⟩
  rcases aaW n (max (max o 1) n) with c | c
  ·exact UX c
  ·have e:max (max o 1) n=n:=by omega
   rw [e] at up1
   exact up1 (Zb n)
 ·rcases abS o with q | q
  ·have e:max o 1=1:=by omega
   rw [e];exact one_up _
  ·have e:max o 1=o:=by omega
   rw [e];exact up
 ·have e:n=0:=by omega
  subst e
  exact fun i j _ hj=>absurd hj (abC j)
 ·obtain ⟨rfl,mu,up'⟩:=hI
  exact wpS_pure (h u mu up')
structure EN (κ:KeyKind) (z:Array Keyed) (t:SortSt):Prop where
 pm:(arrOf t).Perm z
 ok:failedOf t=none
 one:pendingOf t= #[(0,z.size,0)]
 up:SortedToK κ (arrOf t) z.size
theorem Mid.fin (m:Mid kd z t) (up:SortedToK κ (arrOf t) z.size):EN κ z (setPending t ((pendingOf t).push (0,z.size,0))):=
 ⟨m.pm,m.ok,by show (pendingOf t).push (0,z.size,0)= #[(0,z.size,0)];rw [m.no];rfl,up⟩
theorem Js (hA:Ask P w A s κ kd) (hk:KeysOf κ z) (m:Mid kd z t) (h2:2≤z.size) (h64:z.size < 64) {R:Unit→SortSt→Prop} (h:∀ u,EN κ z u→R () u):wpS (model P w) A E s sortRuns' R t:=by
 have low:minRun' z.size z.size 0=z.size:=by
  obtain ⟨k,hk⟩:∃ k,z.size=k+1:=⟨z.size - 1,by omega⟩
  have:minRun' (k+1) z.size 0=z.size+0:=by rw [minRun'_succ,if_pos h64]
  rw [← hk] at this
  exact this
 rw [sortRuns'_eq]
 apply wpS_bind;apply wpS_get
 dsimp only
 simp only [m.sz,low]
 apply wpS_bind
 refine wpS_mono (wpS_forRange (I:=fun x b u=>if x=0 then b=(none,0)∧Mid kd z u else b=(none,z.size)∧EN κ z u) (Q:=fun b u=>b=(none,z.size)∧EN κ z u) (fun x b u _ hx hI=>?_) (fun b u hI=>?_) ?_) fun b u hI=>?_
 ·by_cases c:x=0
  ·subst c
   obtain ⟨rfl,mu⟩:b=(none,0)∧Mid kd z u:=by simpa using hI
   dsimp only
   rw [if_neg (by omega:¬ (0≥z.size))]
   simp only [abW,abu,Nat.zero_add]
   apply wpS_bind
   refine EM hA hk mu (Zb _) (by omega) fun i v mv h3 h4 up=>?_
   dsimp only
   by_cases d:i < z.size
   ·rw [if_pos d]
    apply wpS_bind
    refine wpS_lift (wpAny_rule ⟨rfl,?_⟩)
    apply wpS_bind
    refine Jr hA hk mv (Zb _) h4 up fun v' Ti up'=>?_
    simp only [aas,Zm,if_false]
    apply wpS_bind;apply wpS_get
    have e:(pendingOf v').back?=none:=by rw [Ti.no];rfl
    rw [e]
    dsimp only
    apply wpS_bind
    apply wpS_modify
    exact wpS_pure ⟨rfl,Ti.fin up'⟩
   ·rw [if_neg d]
    obtain rfl:i=z.size:=by omega
    apply wpS_bind;apply wpS_get
    have e:(pendingOf v).back?=none:=by rw [mv.no];rfl
    rw [e]
    dsimp only
    apply wpS_bind
    apply wpS_modify
    exact wpS_pure ⟨rfl,mv.fin up⟩
  ·obtain ⟨rfl,fu⟩:b=(none,z.size)∧EN κ z u:=by simpa [c] using hI
   dsimp only
   rw [if_pos (Zb z.size)]
   exact wpS_pure ⟨rfl,fu⟩
 ·have c:max 0 z.size≠0:=by omega
  rw [if_neg c] at hI
  exact hI
 ·exact ⟨rfl,m⟩
 ·obtain ⟨rfl,fu⟩:=hI
  dsimp only
  apply wpS_bind
  refine wpS_mono (wpS_forRange (I:=fun _ b v=>b=(none,())∧v=u) (Q:=fun b v=>b=(none,())∧v=u) (fun x b v _ _ hI=>?_) (fun _ _ hI=>hI) ⟨rfl,rfl⟩) fun b v hI=>?_
  ·obtain ⟨rfl,rfl⟩:=hI
   apply wpS_bind;apply wpS_get
   rw [if_pos (by rw [fu.one];exact Zb 1)]
   exact wpS_pure ⟨rfl,rfl⟩
  ·obtain ⟨rfl,rfl⟩:=hI
   exact wpS_pure (h v fu)
end
end L3
namespace L3
open PySem PySem.Spec PyProof.Rows
section
variable {P:Program} {w:World} {A:Around} {E:Value→Shared→Prop} {s:Shared} {κ:KeyKind} {kd:SortKind}
def dU (h h':Heap):Prop:= ∀ b o,h.get? b=some o→h'.get? b=some o
theorem DJ {a:Addr} {vs:List Value} {n:Nat} {R:Fin→Shared→Prop} (ho:s.heap.get? a=some (seqObj "list" vs.toArray n)) (hk:KeysOf κ (pairsOf vs))
 (hd:∀ (t:Shared) (E:Value→Shared→Prop) (Q:SortKind→Shared→Prop),(∀ b o,b≠a→s.heap.get? b=some o→t.heap.get? b=some o)→2≤vs.length→Q kd t→wpAny (model P w) A (keyKind' vs.toArray) Q E t)
 (hA:∀ t:Shared,(∀ b o,b≠a→s.heap.get? b=some o→t.heap.get? b=some o)→Ask P w A t κ kd) (h64:vs.length < 64)
 (h:∀ y:Array Keyed,y.Perm (pairsOf vs)→SortedToK κ y (pairsOf vs).size→R (.done (.ret .none)) { s with heap:=sortedHeap s.heap a vs (y.map (·.2)) }) :
 wpAny (model P w) A (Builtin.«list.sort» ⟨[.ref a],[]⟩) R E s:=by
 have la:a < s.heap.objs.size:=Heap.lt_size ho
 have lz:vs.length≤sizeLine:=by rw [sizeLine_eq];omega
 rw [list_sort_plain]
 apply wpAny_bind;apply listItems_at ho rfl
 refine wpAny_bind (listUpdate_at ho rfl ?_ (hsz:=by simp only [Za];omega) (hsz2:=Z3 _))
 obtain ⟨e,h1⟩:∃ e,(s.heap.update a (Obj.mapSeq fun _=> #[])).get? a=some (seqObj "list" #[] e):=⟨_,get?_update_seq ho fun _=> #[]⟩
 apply wpAny_bind;apply seqEpoch_at h1 rfl
 refine wpAny_bind (wpAny_newTuple (hsz:=lz) ?_)
 refine wpAny_bind (wpAny_newList (hsz:=Z3 _) ?_)
 apply wpAny_holding
 show wpAny (model P w) A _ R E { s with heap:=((s.heap.update a (Obj.mapSeq fun _=> #[])).push (seqObj "tuple" vs.toArray 0)).push (seqObj "list" #[] 0) }
 generalize hh:((s.heap.update a (Obj.mapSeq fun _=> #[])).push (seqObj "tuple" vs.toArray 0)).push (seqObj "list" #[] 0)=g
 have g1:g.get? a=some (seqObj "list" #[] e):=by
  rw [← hh,Heap.get?_push_ne _ _ _ (by rw [size_push',Heap.size_update];exact Zr (aab la)),Heap.get?_push_ne _ _ _ (by rw [Heap.size_update];exact Zr la)]
  exact h1
 have g2:∀ b o,b≠a→s.heap.get? b=some o→g.get? b=some o:=fun b o hb q=>by
  have lb:=Heap.lt_size q
  rw [← hh,Heap.get?_push_ne _ _ _ (by rw [size_push',Heap.size_update];exact Zr (aab lb)),Heap.get?_push_ne _ _ _ (by rw [Heap.size_update];exact Zr lb),Heap.get?_update_ne _ _ _ _ hb]
  exact q
 have fin:∀ y:Array Keyed,y.Perm (pairsOf vs)→SortedToK κ y (pairsOf vs).size→R (.done (.ret .none)) { s with heap:=g.update a (Obj.mapSeq fun _=>y.map (·.2)) }:=fun y h2 h3=>by rw [← hh];exact h y h2 h3
 dsimp only
 have zv:vs.toArray.size=vs.length:=by simp
 have room:∀ y:Array Keyed,y.Perm (pairsOf vs)→(y.map (·.2)).size≤sizeLine+1:=fun y q=>by
  rw [Array.size_map,q.size_eq,pairsOf_size,sizeLine_eq];omega
 by_cases c:vs.toArray.size < 2
 ·rw [if_pos c,if_pos c]
  apply wpAny_bind;apply wpAny_pure
  rw [StateT.run_pure]
  apply wpAny_bind;apply wpAny_pure
  dsimp only
  apply wpAny_bind;apply seqEpoch_at g1 rfl
  apply wpAny_bind
  refine listUpdate_at g1 rfl ?_ (hsz2:=room (pairsOf vs) (Array.Perm.refl _))
  simp only [bne_self_eq_false,Zm,if_false]
  refine wpAny_pure (fin (pairsOf vs) (Array.Perm.refl _) fun i j hij hj=>?_)
  obtain rfl:i=j:=by rw [pairsOf_size] at hj;omega
  exact KeyOrd.kle_refl _
 ·rw [if_neg c,if_neg c]
  apply wpAny_bind
  refine hd _ _ _ g2 (by omega) ?_
  apply wpAny_bind
  refine wpAny_mono (Js (z:=pairsOf vs) (t:=SortSt.mk' kd (pairsOf vs) #[] 7 none) (R:=fun _ u=>EN κ (pairsOf vs) u) (hA _ g2) hk ⟨Array.Perm.refl _,rfl,rfl,rfl⟩ (by rw [pairsOf_size];omega) (by rw [pairsOf_size];exact h64) fun u q=>q) (fun r s' q=>?_) fun _ _ q=>q
  obtain ⟨⟨⟩,u⟩:=r
  obtain ⟨rfl,fu⟩:=q
  dsimp only
  apply wpAny_bind;apply seqEpoch_at g1 rfl
  apply wpAny_bind
  refine listUpdate_at g1 rfl ?_ (hsz2:=room (arrOf u) fu.pm)
  rw [fu.ok]
  simp only [bne_self_eq_false,Zm,if_false]
  exact wpAny_pure (fin (arrOf u) fu.pm fu.up)
theorem yq {l:Addr} {vs:List Value} {Q:Value→Shared→Prop} (hl:s.heap.IsList l vs.toArray) (hk:KeysOf κ (pairsOf vs))
 (hd:∀ (t:Shared) (E:Value→Shared→Prop) (Q:SortKind→Shared→Prop),dU s.heap t.heap→2≤vs.length→Q kd t→wpAny (model P w) A.in1.in1 (keyKind' vs.toArray) Q E t)
 (hA:∀ t:Shared,dU s.heap t.heap→Ask P w A.in1.in1 t κ kd) (h64:vs.length < 64)
 (h:∀ y:Array Keyed,y.Perm (pairsOf vs)→SortedToK κ y (pairsOf vs).size→Q (.ref (s.heap.objs.size+1)) { s with heap:=sortedAll s.heap vs (y.map (·.2)) }) :
 wpAny (model P w) A (call (.builtin "sorted") [.ref l]) Q E s:=by
 refine Calls.call_function_entry kind_sorted plain_sorted entry_sorted (args_sorted1 _) ?_
 unfold Builtin.«sorted»
 refine wpAny_bind (m:=checkCount "sorted" 1 1 _) (wpAny_pure ?_)
 have lz:vs.length≤sizeLine:=by rw [sizeLine_eq];omega
 refine wpAny_bind (collect_list hl (hsz:=lz) ?_)
 refine wpAny_bind (wpAny_newList (hsz:=lz) ?_)
 show wpAny (model P w) A.in1 _ _ _ { s with heap:=((s.heap.push (seqObj "list" #[] 0)).update s.heap.objs.size (Obj.mapSeq (· ++ vs.toArray))).push (seqObj "list" vs.toArray 0) }
 generalize hg:(s.heap.push (seqObj "list" #[] 0)).update s.heap.objs.size (Obj.mapSeq (· ++ vs.toArray))=g
 have gz:g.objs.size=s.heap.objs.size+1:=by rw [← hg,Heap.size_update,size_push']
 have gk:dU s.heap g:=fun b o q=>by
  have lb:=Heap.lt_size q
  rw [← hg,Heap.get?_update_ne _ _ _ _ (Zr lb),Heap.get?_push_ne _ _ _ (Zr lb)]
  exact q
 have fin:∀ y:Array Keyed,y.Perm (pairsOf vs)→SortedToK κ y (pairsOf vs).size→Q (.ref (s.heap.objs.size+1)) { s with heap:=sortedHeap (g.push (seqObj "list" vs.toArray 0)) (s.heap.objs.size+1) vs (y.map (·.2)) }:=fun y h1 h2=>by rw [← hg];exact h y h1 h2
 rw [gz]
 have at':(g.push (seqObj "list" vs.toArray 0)).get? (s.heap.objs.size+1)=some (seqObj "list" vs.toArray 0):=by rw [← gz];exact Heap.get?_push_size _ rfl
 have Jt:∀ b o,s.heap.get? b=some o→b≠s.heap.objs.size+1∧(g.push (seqObj "list" vs.toArray 0)).get? b=some o:=fun b o q=>by
  have lb:=Heap.lt_size q
  have lc:=Zr (aab lb)
  refine ⟨lc,?_⟩
  rw [Heap.get?_push_ne _ _ _ (by rw [gz];exact lc)]
  exact gk b o q
 apply wpAny_bind;apply wpAny_holding
 refine wpAny_call_entry slot_list_sort ⟨_,at',rfl⟩ entry_list_sort (DJ (κ:=κ) (kd:=kd) at' hk (fun t E Q hg=>hd t E Q fun b o q=>hg b o (Jt b o q).1 (Jt b o q).2) (fun t hg=>hA t fun b o q=>hg b o (Jt b o q).1 (Jt b o q).2) h64 fun y h1 h2=>⟨_,rfl,?_⟩) (args_list_sort _)
 exact wpAny_pure ⟨_,rfl,fin y h1 h2⟩
end
end L3
namespace L3
open PySem PySem.Spec PyProof.Rows
def p7 (h:Heap) (v:Value) (p:Pl):Prop:= ∃ (a:Addr) (o:Obj) (t u:Tok) (n:Nat),v= .ref a∧h.get? a=some o∧o.cls= .type "tuple"∧o.data= .seq #[.int p.x t,.int p.y u] n
theorem p7.grow {h h':Heap} {v:Value} {p:Pl} (a:p7 h v p) (g:dU h h'):p7 h' v p:=by
 obtain ⟨b,o,t,u,n,h1,h2,h3,h4⟩:=a
 exact ⟨b,o,t,u,n,h1,g _ _ h2,h3,h4⟩
theorem p7.inj {h:Heap} {v:Value} {p q:Pl} (a:p7 h v p) (b:p7 h v q):p=q:=by
 obtain ⟨a1,o,t,u,n,rfl,h2,h3,h4⟩:=a
 obtain ⟨a2,o',t',u',n',e,k2,k3,k4⟩:=b
 injection e with e
 subst e
 rw [h2] at k2
 injection k2 with k2
 subst k2
 rw [h4] at k4
 injection k4 with k4 _
 cases p;cases q
 simp at k4
 obtain ⟨⟨e1,_⟩,e2,_⟩:=k4
 rw [e1,e2]
open Classical in
noncomputable def zh (h:Heap):KeyKind where
 α:=Pl
 blt p q:=decide (aL p q)
 irrefl p:=decide_eq_false (aY p)
 trans p q r a b:=decide_eq_true (aZ (of_decide_eq_true a) (of_decide_eq_true b))
 negTrans p q r a:=by
  have a:=of_decide_eq_true a
  rcases bV p q with c | c | c
  ·exact .inl (decide_eq_true c)
  ·subst c;exact .inr (decide_eq_true a)
  ·exact .inr (decide_eq_true (aZ c a))
 total p q a b:=by
  rcases bV p q with c | c | c
  ·exact absurd c (of_decide_eq_false a)
  ·exact c
  ·exact absurd c (of_decide_eq_false b)
 keyOf v:=if e:∃ p,p7 h v p then some e.choose else none
 dflt:=⟨0,0⟩
open Classical in
theorem zj {h:Heap} {v:Value} {p:Pl} (a:p7 h v p):(zh h).keyOf v=some p:=by
 have e:∃ p,p7 h v p:=⟨p,a⟩
 show (if e:∃ p,p7 h v p then some e.choose else none)=some p
 rw [dif_pos e,p7.inj e.choose_spec a]
open Classical in
theorem GJ {h:Heap} {v:Value} {p:Pl} (a:(zh h).keyOf v=some p):p7 h v p:=by
 have a:(if e:∃ p,p7 h v p then some e.choose else none)=some p:=a
 by_cases e:∃ p,p7 h v p
 ·rw [dif_pos e] at a
  have:=e.choose_spec
  rwa [Option.some.inj a] at this
 ·rw [dif_neg e] at a;cases a
section
variable {P:Program} {w:World} {A:Around} {E:Value→Shared→Prop} {s:Shared}
theorem yr (f:Bool) (v u:Value):keyLt' (tuples' f) v u=(do
 let a ← Builtin.List.listItems v;let b ← Builtin.List.listItems u
 for ((c,d),k) in (a.toList.zip b.toList).zipIdx do { if !(← eqBool c d) then return ← oneLt' (f && k == 0) c d }
 return a.size < b.size):=rfl
theorem uR {b:Bool} {i j:Int} {t u:Tok} {Q:Bool→Shared→Prop} (h:Q (decide (i < j)) s):wpAny (model P w) A (oneLt' b (.int i t) (.int j u)) Q E s:=by
 cases b with
 | true=>exact oneLt_int h
 | false=>
   rw [oneLt'_eq]
   simp only [Zm,if_false]
   apply wpAny_bind
   refine (lt_int ?_:wpAny (model P w) A (compareOp .Lt (.int i t) (.int j u)) _ E s)
   exact wpAny_truthy_bool h
theorem O4 {t:Shared} {x y:Value} {p q:Pl} {f:Bool} {R:Bool→Shared→Prop} (kx:p7 t.heap x p) (ky:p7 t.heap y q) (hR:R (decide (aL p q)) t):wpAny (model P w) A (keyLt' (tuples' f) x y) R E t:=by
 obtain ⟨a,o,t1,u1,n1,rfl,h2,h3,h4⟩:=kx
 obtain ⟨b,o',t2,u2,n2,rfl,k2,k3,k4⟩:=ky
 rw [yr]
 apply wpAny_bind;apply listItems_at h2 h4
 apply wpAny_bind;apply listItems_at k2 k4
 simp only [Z6,aau,abo,abD,aaD,aaX,bind_assoc]
 apply wpAny_bind
 apply wpAny_eqBool_int
 by_cases ex:p.x=q.x
 ·have e:(p.x == q.x)=true:=beq_iff_eq.mpr ex
  rw [e]
  simp only [aas,Zm,if_false,pure_bind,bind_assoc]
  apply wpAny_bind
  apply wpAny_eqBool_int
  by_cases ey:p.y=q.y
  ·have e:(p.y == q.y)=true:=beq_iff_eq.mpr ey
   rw [e]
   simp only [aas,Zm,if_false,pure_bind]
   have en:decide (aL p q)=false:=decide_eq_false (by unfold aL;omega)
   rw [en] at hR
   exact wpAny_pure hR
  ·have e:(p.y == q.y)=false:=beq_eq_false_iff_ne.mpr ey
   rw [e]
   simp only [aaz,if_true,bind_assoc,pure_bind]
   apply wpAny_bind
   apply uR
   have en:decide (aL p q)=decide (p.y < q.y):=by rw [decide_eq_decide];unfold aL;omega
   rw [en] at hR
   exact wpAny_pure hR
 ·have e:(p.x == q.x)=false:=beq_eq_false_iff_ne.mpr ex
  rw [e]
  simp only [aaz,if_true,bind_assoc,pure_bind]
  apply wpAny_bind
  apply uR
  have en:decide (aL p q)=decide (p.x < q.x):=by rw [decide_eq_decide];unfold aL;omega
  rw [en] at hR
  exact wpAny_pure hR
theorem GK {h:Heap} {t:Shared} (g:dU h t.heap) (f:Bool):Ask P w A t (zh h) (tuples' f):=
 ⟨fun E x y p q R kx ky hR=>O4 ((GJ kx).grow g) ((GJ ky).grow g) hR⟩
theorem qR {β:Type} {f:Value→Sem β} (R:Value→β→Prop):∀ (vs:List Value) (Q:List β→Shared→Prop),(∀ v∈vs,∀ (Q:β→Shared→Prop),(∀ b,R v b→Q b s)→wpAny (model P w) A (f v) Q E s)→
 (∀ bs:List β,Paired R vs bs→Q bs s)→wpAny (model P w) A (vs.mapM f) Q E s
 | [],Q,_,h=>by rw [List.mapM_nil];exact wpAny_pure (h [] .nil)
 | v :: vs,Q,hv,h=>by
   rw [List.mapM_cons]
   apply wpAny_bind
   refine hv v (Zl ..) _ fun b rb=>?_
   apply wpAny_bind
   refine qR R vs _ (fun u hu=>hv u (Y5 _ hu)) fun bs UY=>?_
   exact wpAny_pure (h (b :: bs) (.cons rb UY))
theorem yt (v:Value):firstOfTuple' v=(typeOf v >>= fun t=>if t != .type "tuple" then pure none else Builtin.List.listItems v >>= fun a=>pure a[0]?):=rfl
theorem DL {vs:List Value} (h2:1≤vs.length) (hv:∀ v∈vs,∃ p,p7 s.heap v p) {Q:SortKind→Shared→Prop} (h:Q (tuples' true) s):wpAny (model P w) A (keyKind' vs.toArray) Q E s:=by
 rw [keyKind'_eq,aaZ]
 simp only [bind_map_left]
 apply wpAny_bind
 refine qR (fun _ b=> ∃ i t,b=some (Value.int i t)) vs _ (fun v hm Q hQ=>?_) fun bs hb=>?_
 ·obtain ⟨p,a,o,t,u,n,rfl,k2,k3,k4⟩:=hv v hm
  rw [yt]
  apply wpAny_bind
  refine wpAny_typeOf (T:= "tuple") ⟨o,k2,k3⟩ ?_
  have e:(Value.type "tuple" !=Value.type "tuple")=false:=by decide
  rw [e]
  simp only [Zm,if_false,pure_bind]
  apply wpAny_bind;apply listItems_at k2 k4
  exact wpAny_pure (hQ _ ⟨p.x,t,rfl⟩)
 ·have all:∀ (vs:List Value) (bs:List (Option Value)),Paired (fun _ b=> ∃ i t,b=some (Value.int i t)) vs bs→bs.length=vs.length∧(∀ b∈bs,∃ i t,b=some (Value.int i t)):=by
   intro vs
   induction vs with
   | nil=>intro bs q;cases q;exact ⟨rfl,fun _ z=>by cases z⟩
   | cons v vs ih=>
     intro bs q
     cases q with
     | cons q1 q2=>
       obtain ⟨l,m⟩:=ih _ q2
       refine ⟨by simp [l],fun b hb=>?_⟩
       rcases Y6.mp hb with rfl | hb
       ·exact q1
       ·exact m b hb
  obtain ⟨hl,hm⟩:=all vs bs hb
  have c:(bs.toArray.all fun b=>b.isSome)=true:=by
   simp only [aa5,Zw]
   intro b hb
   obtain ⟨i,t,rfl⟩:=hm b hb
   rfl
  rw [if_pos c]
  apply wpAny_bind;apply wpAny_rule
  rw [oneTypeOnly'_eq]
  have ef:bs.toArray.filterMap id=(bs.filterMap id).toArray:=by simp
  rw [ef,aaZ]
  simp only [bind_map_left,bind_assoc]
  apply wpAny_bind
  refine qR (fun _ b=>b=Value.type "int") _ _ (fun v hv' Q hQ=>?_) fun cs hc=>?_
  ·obtain ⟨b,hb1,hb2⟩:=aaU.mp hv'
   obtain ⟨i,t,rfl⟩:=hm b hb1
   have hb2:some (Value.int i t)=some v:=hb2
   cases hb2
   exact wpAny_typeOf (T:= "int") (typeIs_int s i t) (hQ _ rfl)
  ·have len:1≤(bs.filterMap id).length:=by
    cases bs with
    | nil=>simp at hl;omega
    | cons b bs=>
      obtain ⟨i,t,rfl⟩:=hm b (Zl ..)
      simp
   have all2:∀ (us cs:List Value),Paired (fun _ b=>b=Value.type "int") us cs→cs=us.map fun _=>Value.type "int" :=by
    intro us
    induction us with
    | nil=>intro cs q;cases q;rfl
    | cons u us ih=>intro cs q;cases q with | cons q1 q2=>rw [q1,ih _ q2];rfl
   rw [all2 _ _ hc]
   generalize bs.filterMap id=us at len
   cases us with
   | nil=>simp at len
   | cons u us=>
     have e0:(List.map (fun _=>Value.type "int") (u :: us)).toArray[0]?=some (Value.type "int"):=by simp
     rw [e0]
     have e1:((List.map (fun _=>Value.type "int") (u :: us)).toArray.all fun x=>x == Value.type "int")=true:=by
      simp only [aa5,aba,Zw]
      intro _ _;rfl
     simp only [e1,if_true,pure_bind]
     exact wpAny_pure h
end
end L3
namespace L3
open PySem PySem.Spec PyProof.Rows
section
variable {P:Program} {w:World} {A:Around} {E:Value→Shared→Prop} {s:Shared}
theorem Mc {h0:Heap} {I S:Addr} {fp wr:List Addr} {n:Nat} {Pr:Nat→Value→Prop} {St:Nat→Heap→Prop} {bt:Nat→Nat→Bool} {R:Result→Shared→Prop} (W:Walks P w A.in1 I fp wr n Pr St)
 (hc:∀ (i j:Nat) (vi vj:Value) (t:Shared) (Q:Value→Shared→Prop) (E:Value→Shared→Prop),dU h0 t.heap→Pr i vi→Pr j vj→Q (.bool (bt i j)) t→wpAny (model P w) A.in1 (richCompare .Lt vi vj) Q E t)
 (hS:S∉fp) (yu:∀ b o,h0.get? b=some o→b∉wr∧b≠S):∀ (m k:Nat) (t:Shared) (vb:Value) (c:Nat),n - (k+1)=m→k+1≤n→dU h0 t.heap→St (k+1) t.heap→Pr (argBest bt k) vb→
 t.heap.get? S=some { cls:= .type "list",dict:=none,data:= .seq #[vb,vb] c,slots:= #[] }→
 (∀ v h' tk,Pr (argBest bt (n - 1)) v→(∀ b o,b∉wr→b≠S→t.heap.get? b=some o→h'.get? b=some o)→R (.ok (.ret v)) { t with heap:=h',toks:=tk })→
 codeAny (model P w) A (.builtin "min.loop" ⟨[.ref I,.none,.ref S],[]⟩) R t:=by
 have Sw:S∉wr:=fun q=>hS (W.sub _ q)
 have nm:(toString "min" ++ toString ".loop" :String)= "min.loop" :=by decide
 intro m
 induction m with
 | zero=>
   intro k t vb c e1 e2 gr st pb hs hR
   have ek:k+1=n:=by omega
   refine codeAny_builtin F.entry_min_loop ?_
   rw [Around.under_plainId F.plain_min_loop]
   show wpAny (model P w) A.in1 (seqItems? (.ref S) >>= _) _ _ t
   apply wpAny_bind;apply wpAny_seqItems hs rfl
   show wpAny (model P w) A.in1 (tryCatch (pyNext (.ref I)) _ >>= _) _ _ t
   apply wpAny_bind;apply wpAny_tryCatch
   refine W.done t _ _ (ek▸st) fun h' tk kp=>?_
   have hs2:=kp S _ Sw hs
   show wpAny (model P w) A.in1 (updateSeq S (fun _=> #[]) >>= _) _ _ _
   apply wpAny_bind
   refine wpAny_updateSeq hs2 rfl ?_
   apply wpAny_bind;apply wpAny_letGo;apply wpAny_pure
   exact hR vb _ tk (by rw [← ek];exact pb) fun b o q1 q2 q=>(Heap.get?_update_other _ _ (Ne.symm q2)).trans (kp b o q1 q)
 | succ m ih=>
   intro k t vb c e1 e2 gr st pb hs hR
   refine codeAny_builtin F.entry_min_loop ?_
   rw [Around.under_plainId F.plain_min_loop]
   show wpAny (model P w) A.in1 (seqItems? (.ref S) >>= _) _ _ t
   apply wpAny_bind;apply wpAny_seqItems hs rfl
   show wpAny (model P w) A.in1 (tryCatch (pyNext (.ref I)) _ >>= _) _ _ t
   apply wpAny_bind;apply wpAny_tryCatch
   refine W.item (k+1) t _ _ (by omega) st fun v h' tk pv st2 kp=>?_
   have hs2:=kp S _ Sw hs
   have A9:dU h0 h':=fun b o q=>kp b o (yu b o q).1 (gr b o q)
   show wpAny (model P w) A.in1 (tryCatch (holding [v,v] (richCompare .Lt v vb >>= _)) _ >>= _) _ _ _
   apply wpAny_bind;apply wpAny_tryCatch;apply wpAny_holding;apply wpAny_bind
   refine hc (k+1) (argBest bt k) v vb _ _ _ A9 pv pb ?_
   apply wpAny_bind;apply wpAny_holding;apply wpAny_truthy_bool
   apply wpAny_bind;apply wpAny_letGo;apply wpAny_pure
   cases d:bt (k+1) (argBest bt k) with
   | true=>
     rw [if_pos rfl]
     apply wpAny_bind
     refine wpAny_updateSeq hs2 rfl ?_
     apply wpAny_bind;apply wpAny_letGo
     rw [nm]
     refine wpAny_pure ⟨plainId_quiet F.plain_min_loop _,ih (k+1) _ v _ (by omega) (by omega) (fun b o q=>(Heap.get?_update_other _ _ (Ne.symm (yu b o q).2)).trans (A9 b o q)) (W.frame _ _ _ st2 fun b q1 o q=>(Heap.get?_update_other _ _ (fun z:S=b=>hS (z▸q1))).trans q) (by simp only [argBest,d,if_true];exact pv) (Heap.get?_update_self _ hs2 rfl) fun v2 h2 Ba p2 zk=>?_⟩
     exact hR v2 h2 Ba p2 fun b o q1 q2 q=>zk b o q1 q2 ((Heap.get?_update_other _ _ (Ne.symm q2)).trans (kp b o q1 q))
   | false=>
     rw [if_neg Zg]
     apply wpAny_bind;apply wpAny_letGo
     rw [nm]
     refine wpAny_pure ⟨plainId_quiet F.plain_min_loop _,ih (k+1) _ vb c (by omega) (by omega) A9 st2 (by simp only [argBest,d,Zm,if_false];exact pb) hs2 fun v2 h2 Ba p2 zk=>?_⟩
     exact hR v2 h2 Ba p2 fun b o q1 q2 q=>zk b o q1 q2 (kp b o q1 q)
theorem yv {h0:Heap} {I S:Addr} {fp wr:List Addr} {n:Nat} {Pr:Nat→Value→Prop} {St:Nat→Heap→Prop} {bt:Nat→Nat→Bool} {R:Result→Shared→Prop} {t:Shared} {c:Nat} (W:Walks P w A.in1 I fp wr n Pr St)
 (hc:∀ (i j:Nat) (vi vj:Value) (t:Shared) (Q:Value→Shared→Prop) (E:Value→Shared→Prop),dU h0 t.heap→Pr i vi→Pr j vj→Q (.bool (bt i j)) t→wpAny (model P w) A.in1 (richCompare .Lt vi vj) Q E t)
 (hS:S∉fp) (yu:∀ b o,h0.get? b=some o→b∉wr∧b≠S) (hn:0 < n) (gr:dU h0 t.heap) (st:St 0 t.heap) (hs:t.heap.get? S=some { cls:= .type "list",dict:=none,data:= .seq #[] c,slots:= #[] })
 (hR:∀ v h' tk,Pr (argBest bt (n - 1)) v→(∀ b o,b∉wr→b≠S→t.heap.get? b=some o→h'.get? b=some o)→R (.ok (.ret v)) { t with heap:=h',toks:=tk }) :
 codeAny (model P w) A (.builtin "min.loop" ⟨[.ref I,.none,.ref S],[]⟩) R t:=by
 have Sw:S∉wr:=fun q=>hS (W.sub _ q)
 have nm:(toString "min" ++ toString ".loop" :String)= "min.loop" :=by decide
 refine codeAny_builtin F.entry_min_loop ?_
 rw [Around.under_plainId F.plain_min_loop]
 show wpAny (model P w) A.in1 (seqItems? (.ref S) >>= _) _ _ t
 apply wpAny_bind;apply wpAny_seqItems hs rfl
 show wpAny (model P w) A.in1 (tryCatch (pyNext (.ref I)) _ >>= _) _ _ t
 apply wpAny_bind;apply wpAny_tryCatch
 refine W.item 0 t _ _ hn st fun v h' tk pv st2 kp=>?_
 have hs2:=kp S _ Sw hs
 have A9:dU h0 h':=fun b o q=>kp b o (yu b o q).1 (gr b o q)
 show wpAny (model P w) A.in1 (updateSeq S (fun _=> #[v,v]) >>= _) _ _ _
 apply wpAny_bind
 refine wpAny_updateSeq hs2 rfl ?_
 rw [nm]
 refine wpAny_pure ⟨plainId_quiet F.plain_min_loop _,Mc W hc hS yu _ 0 _ v _ rfl hn (fun b o q=>(Heap.get?_update_other _ _ (Ne.symm (yu b o q).2)).trans (A9 b o q)) (W.frame _ _ _ st2 fun b q1 o q=>(Heap.get?_update_other _ _ (fun z:S=b=>hS (z▸q1))).trans q) pv (Heap.get?_update_self _ hs2 rfl) fun v2 h2 Ba p2 zk=>?_⟩
 exact hR v2 h2 Ba p2 fun b o q1 q2 q=>zk b o q1 q2 ((Heap.get?_update_other _ _ (Ne.symm q2)).trans (kp b o q1 q))
theorem Me {h0:Heap} {I S:Addr} {fp wr:List Addr} {n:Nat} {Pr:Nat→Value→Prop} {St:Nat→Heap→Prop} {bt:Nat→Nat→Bool} {R:Result→Shared→Prop} (W:Walks P w A.in1 I fp wr n Pr St)
 (hc:∀ (i j:Nat) (vi vj:Value) (t:Shared) (Q:Value→Shared→Prop) (E:Value→Shared→Prop),dU h0 t.heap→Pr i vi→Pr j vj→Q (.bool (bt i j)) t→wpAny (model P w) A.in1 (richCompare .Gt vi vj) Q E t)
 (hS:S∉fp) (yu:∀ b o,h0.get? b=some o→b∉wr∧b≠S):∀ (m k:Nat) (t:Shared) (vb:Value) (c:Nat),n - (k+1)=m→k+1≤n→dU h0 t.heap→St (k+1) t.heap→Pr (argBest bt k) vb→
 t.heap.get? S=some { cls:= .type "list",dict:=none,data:= .seq #[vb,vb] c,slots:= #[] }→
 (∀ v h' tk,Pr (argBest bt (n - 1)) v→(∀ b o,b∉wr→b≠S→t.heap.get? b=some o→h'.get? b=some o)→R (.ok (.ret v)) { t with heap:=h',toks:=tk })→
 codeAny (model P w) A (.builtin "max.loop" ⟨[.ref I,.none,.ref S],[]⟩) R t:=by
 have Sw:S∉wr:=fun q=>hS (W.sub _ q)
 have nm:(toString "max" ++ toString ".loop" :String)= "max.loop" :=by decide
 intro m
 induction m with
 | zero=>
   intro k t vb c e1 e2 gr st pb hs hR
   have ek:k+1=n:=by omega
   refine codeAny_builtin F.entry_max_loop ?_
   rw [Around.under_plainId F.plain_max_loop]
   show wpAny (model P w) A.in1 (seqItems? (.ref S) >>= _) _ _ t
   apply wpAny_bind;apply wpAny_seqItems hs rfl
   show wpAny (model P w) A.in1 (tryCatch (pyNext (.ref I)) _ >>= _) _ _ t
   apply wpAny_bind;apply wpAny_tryCatch
   refine W.done t _ _ (ek▸st) fun h' tk kp=>?_
   have hs2:=kp S _ Sw hs
   show wpAny (model P w) A.in1 (updateSeq S (fun _=> #[]) >>= _) _ _ _
   apply wpAny_bind
   refine wpAny_updateSeq hs2 rfl ?_
   apply wpAny_bind;apply wpAny_letGo;apply wpAny_pure
   exact hR vb _ tk (by rw [← ek];exact pb) fun b o q1 q2 q=>(Heap.get?_update_other _ _ (Ne.symm q2)).trans (kp b o q1 q)
 | succ m ih=>
   intro k t vb c e1 e2 gr st pb hs hR
   refine codeAny_builtin F.entry_max_loop ?_
   rw [Around.under_plainId F.plain_max_loop]
   show wpAny (model P w) A.in1 (seqItems? (.ref S) >>= _) _ _ t
   apply wpAny_bind;apply wpAny_seqItems hs rfl
   show wpAny (model P w) A.in1 (tryCatch (pyNext (.ref I)) _ >>= _) _ _ t
   apply wpAny_bind;apply wpAny_tryCatch
   refine W.item (k+1) t _ _ (by omega) st fun v h' tk pv st2 kp=>?_
   have hs2:=kp S _ Sw hs
   have A9:dU h0 h':=fun b o q=>kp b o (yu b o q).1 (gr b o q)
   show wpAny (model P w) A.in1 (tryCatch (holding [v,v] (richCompare .Gt v vb >>= _)) _ >>= _) _ _ _
   apply wpAny_bind;apply wpAny_tryCatch;apply wpAny_holding;apply wpAny_bind
   refine hc (k+1) (argBest bt k) v vb _ _ _ A9 pv pb ?_
   apply wpAny_bind;apply wpAny_holding;apply wpAny_truthy_bool
   apply wpAny_bind;apply wpAny_letGo;apply wpAny_pure
   cases d:bt (k+1) (argBest bt k) with
   | true=>
     rw [if_pos rfl]
     apply wpAny_bind
     refine wpAny_updateSeq hs2 rfl ?_
     apply wpAny_bind;apply wpAny_letGo
     rw [nm]
     refine wpAny_pure ⟨plainId_quiet F.plain_max_loop _,ih (k+1) _ v _ (by omega) (by omega) (fun b o q=>(Heap.get?_update_other _ _ (Ne.symm (yu b o q).2)).trans (A9 b o q)) (W.frame _ _ _ st2 fun b q1 o q=>(Heap.get?_update_other _ _ (fun z:S=b=>hS (z▸q1))).trans q) (by simp only [argBest,d,if_true];exact pv) (Heap.get?_update_self _ hs2 rfl) fun v2 h2 Ba p2 zk=>?_⟩
     exact hR v2 h2 Ba p2 fun b o q1 q2 q=>zk b o q1 q2 ((Heap.get?_update_other _ _ (Ne.symm q2)).trans (kp b o q1 q))
   | false=>
     rw [if_neg Zg]
     apply wpAny_bind;apply wpAny_letGo
     rw [nm]
     refine wpAny_pure ⟨plainId_quiet F.plain_max_loop _,ih (k+1) _ vb c (by omega) (by omega) A9 st2 (by simp only [argBest,d,Zm,if_false];exact pb) hs2 fun v2 h2 Ba p2 zk=>?_⟩
     exact hR v2 h2 Ba p2 fun b o q1 q2 q=>zk b o q1 q2 (kp b o q1 q)
theorem EO {h0:Heap} {I S:Addr} {fp wr:List Addr} {n:Nat} {Pr:Nat→Value→Prop} {St:Nat→Heap→Prop} {bt:Nat→Nat→Bool} {R:Result→Shared→Prop} {t:Shared} {c:Nat} (W:Walks P w A.in1 I fp wr n Pr St)
 (hc:∀ (i j:Nat) (vi vj:Value) (t:Shared) (Q:Value→Shared→Prop) (E:Value→Shared→Prop),dU h0 t.heap→Pr i vi→Pr j vj→Q (.bool (bt i j)) t→wpAny (model P w) A.in1 (richCompare .Gt vi vj) Q E t)
 (hS:S∉fp) (yu:∀ b o,h0.get? b=some o→b∉wr∧b≠S) (hn:0 < n) (gr:dU h0 t.heap) (st:St 0 t.heap) (hs:t.heap.get? S=some { cls:= .type "list",dict:=none,data:= .seq #[] c,slots:= #[] })
 (hR:∀ v h' tk,Pr (argBest bt (n - 1)) v→(∀ b o,b∉wr→b≠S→t.heap.get? b=some o→h'.get? b=some o)→R (.ok (.ret v)) { t with heap:=h',toks:=tk }) :
 codeAny (model P w) A (.builtin "max.loop" ⟨[.ref I,.none,.ref S],[]⟩) R t:=by
 have Sw:S∉wr:=fun q=>hS (W.sub _ q)
 have nm:(toString "max" ++ toString ".loop" :String)= "max.loop" :=by decide
 refine codeAny_builtin F.entry_max_loop ?_
 rw [Around.under_plainId F.plain_max_loop]
 show wpAny (model P w) A.in1 (seqItems? (.ref S) >>= _) _ _ t
 apply wpAny_bind;apply wpAny_seqItems hs rfl
 show wpAny (model P w) A.in1 (tryCatch (pyNext (.ref I)) _ >>= _) _ _ t
 apply wpAny_bind;apply wpAny_tryCatch
 refine W.item 0 t _ _ hn st fun v h' tk pv st2 kp=>?_
 have hs2:=kp S _ Sw hs
 have A9:dU h0 h':=fun b o q=>kp b o (yu b o q).1 (gr b o q)
 show wpAny (model P w) A.in1 (updateSeq S (fun _=> #[v,v]) >>= _) _ _ _
 apply wpAny_bind
 refine wpAny_updateSeq hs2 rfl ?_
 rw [nm]
 refine wpAny_pure ⟨plainId_quiet F.plain_max_loop _,Me W hc hS yu _ 0 _ v _ rfl hn (fun b o q=>(Heap.get?_update_other _ _ (Ne.symm (yu b o q).2)).trans (A9 b o q)) (W.frame _ _ _ st2 fun b q1 o q=>(Heap.get?_update_other _ _ (fun z:S=b=>hS (z▸q1))).trans q) pv (Heap.get?_update_self _ hs2 rfl) fun v2 h2 Ba p2 zk=>?_⟩
 exact hR v2 h2 Ba p2 fun b o q1 q2 q=>zk b o q1 q2 ((Heap.get?_update_other _ _ (Ne.symm q2)).trans (kp b o q1 q))
end
end L3
namespace HT
open PySem PyProof.Rows
theorem GL (A:Around) (s:Shared) (a:Int) (t:Tok) (c:Int) (u:Tok) (prog:Program) (w:World) (E:Value→Shared→Prop) (Q:Value→Shared→Prop) (h:Q (.bool (decide (c < a))) s) :
 wpAny (model prog w) A (richCompare .Gt (.int a t) (.int c u)) Q E s:=
 (PyProof.Rows.gt_int h:wpAny (model prog w) A (compareOp .Gt (.int a t) (.int c u)) Q E s)
section
open PySem.SeqAt
open PySem.AutoSeq1 (wpAny_loadPart')
open PySem.MeetsSeq PySem.MeetsSeq2 PySem.MeetsSeq3
theorem wQ (l b:Addr) (items items2:Array Value) (n n2:Nat) (dd dd2:Option Addr) (sl sl2:Array (Option Value)) (ns ms:List Int) (hi:IntsAre items.toList ns) (hj:IntsAre items2.toList ms) :
 Meets (Builtin.«tuple.__gt__» ⟨[.ref l,.ref b],[]⟩)
  (fun _ R s=>s.heap.get? l=some { cls:= .type "tuple",dict:=dd,data:= .seq items n,slots:=sl }∧s.heap.get? b=some { cls:= .type "tuple",dict:=dd2,data:= .seq items2 n2,slots:=sl2 }∧
   R (.ok (.ret (.bool (lexLt ms ns)))) s):=
 .of_wp fun prog w A R s h=>by
  obtain ⟨hp,g,d,tk,os⟩:=s;obtain ⟨hl,hb,h⟩:=h
  have f2:=AutoSeq1.sub_tuple_tuple
  have z1:items.size=ns.length:=by rw [← hi.length];simp
  have z2:items2.size=ms.length:=by rw [← hj.length];simp
  wp_walk using wpAny_loadPart' hl,wpAny_loadPart' hb,wpAny_forIn_list _ (fun rest b s'=>b.1=none∧s'= ⟨hp,g,d,tk,os⟩∧∃ (vs ws:List Value) (ns' ms':List Int),rest=vs.zip ws∧
   IntsAre vs ns'∧IntsAre ws ms'∧ns'.length+items2.size=ms'.length+items.size∧R (.ok (.ret (.bool (lexLt ms' ns')))) ⟨hp,g,d,tk,os⟩) _
  case turn=>
   rintro ⟨y,x⟩ rest b s' ⟨hb',rfl,vs,ws,ns',ms',hz,Gk,hwi,hlen,hR⟩
   cases Gk with
   | nil=>rw [abg] at hz;cases hz
   | cons a t Gm=>
     cases hwi with
     | nil=>rw [aau] at hz;cases hz
     | cons c u Gn=>
       rw [Z6] at hz
       injection hz with hyx hrest
       injection hyx with hy hx
       subst hy hx
       rw [lE] at hR
       simp only [Zj] at hlen
       obtain ⟨e,he,hiff⟩:=AS A.in1 ⟨hp,g,d,tk,os⟩ a t c u
       refine wpAny_bind (he prog w _ _ ?_)
       cases e with
       | true=>
         rw [if_pos (hiff.mp rfl).symm] at hR
         wp_walk
         exact ⟨rfl,rfl,_,_,_,_,hrest,Gm,Gn,by omega,hR⟩
       | false=>
         rw [if_neg (fun q=>absurd (hiff.mpr q.symm) Zg)] at hR
         have Of:=GL A.in1 ⟨hp,g,d,tk,os⟩ a t c u prog w
         wp_walk using Of
         exact ⟨_,rfl,by simpa using hR⟩
  case fin=>
   rintro ⟨b1,b2⟩ s' ⟨hb',rfl,vs,ws,ns',ms',hz,Gk,hwi,hlen,hR⟩
   simp only at hb'
   subst hb'
   have hv:lexLt ms' ns'=decide (items.size > items2.size):=by
    cases Gk with
    | nil=>
      cases hwi with
      | nil=>
        simp only [aaf] at hlen
        rw [jK]
        exact (decide_eq_false (by omega)).symm
      | cons c u hw=>
        simp only [aaf,Zj] at hlen
        rw [nL]
        exact (decide_eq_false (by omega)).symm
    | cons a t hv=>
      cases hwi with
      | nil=>
        simp only [aaf,Zj] at hlen
        rw [nK]
        exact (decide_eq_true (by omega)).symm
      | cons c u hw=>
        rw [Z6] at hz
        cases hz
   rw [hv] at hR
   wp_walk
   exact ⟨_,rfl,by simpa [Builtin.Tuple.tupleCompareSizes] using hR⟩
  case h=>
   exact ⟨rfl,rfl,items.toList,items2.toList,ns,ms,rfl,hi,hj,by omega,h⟩
end
section
variable {prog:Program} {w:World} {A:Around} {E:Value→Shared→Prop} {s:Shared}
theorem Cj {l b:Addr} {items items2:Array Value} {ns ms:List Int} {Q:Value→Shared→Prop} (hl:IsTup s.heap l items) (hb:IsTup s.heap b items2) (hi:IntsAre items.toList ns) (hj:IntsAre items2.toList ms)
 (hu:A.units < cLine) (h:Q (.bool (lexLt ms ns)) s):wpAny (model prog w) A (compareOp .Gt (.ref l) (.ref b)) Q E s:=by
 obtain ⟨⟨cls,dd,data,sl⟩,ho,hc,n,hd⟩:=id hl
 obtain ⟨⟨LG,dd2,data2,sl2⟩,ho2,hc2,n2,hd2⟩:=id hb
 simp only at hc hd hc2 hd2
 subst hc hd hc2 hd2
 exact richCompare_meets_room (op:= .Gt) ⟨_,ho,rfl⟩ ⟨_,ho2,rfl⟩ PySem.F.slot_tuple_gt PySem.F.entry_tuple_gt (PySem.F.args_tuple_gt_2 _ _) (wQ l b items items2 n n2 dd dd2 sl sl2 ns ms hi hj)
  ⟨ho,ho2,show Value.bool (lexLt ms ns)≠Value.notImplemented∧Q (.bool (lexLt ms ns)) s from ⟨(fun x=>nomatch x),h⟩⟩ hu
end
end HT
namespace L3
open PySem PySem.Spec PyProof.Rows L2
section
variable {X:Cx} {pos:Pos}
def O5 (c:pX) (t:nk):nk:=fun D ρ M=> ∃ J:En→Mp→Prop,(c ρ M fun b M1=>if b=true then t { D with nx:=fun ρ' M'=>aU (J ρ' M') } ρ M1 else aU (J ρ M1))∧∀ ρ M,J ρ M→D.nx ρ M
theorem O6 {c:Expr} {a:List Stmt} {tc:pX} {t:nk} (hc:AY X c tc) (ha:nu X a t):AI X (.If c a [] pos) (O5 tc t):=by
 constructor
 intro pins s σ H ρ M D I r ⟨J,q,hJ⟩
 refine dW ((bI hc ha aT).run pins s σ H ρ M { D with nx:=fun ρ' M'=>aU (J ρ' M') } I r q) fun f s' z=>?_
 cases f with
 | next=>obtain ⟨σ',H',I',ρ',M',fr,r',p⟩:=z;exact ⟨σ',H',I',ρ',M',fr,r',hJ _ _ p.out⟩
 | brk=>exact z
 | cont=>exact z
 | ret u=>exact z
theorem dY (p q:Pl):HT.lexLt [p.x,p.y] [q.x,q.y]=decide (aL p q):=by
 rw [HT.lE,HT.lE,HT.jK]
 by_cases ex:p.x=q.x
 ·rw [if_pos ex]
  by_cases ey:p.y=q.y
  ·rw [if_pos ey];exact (decide_eq_false (by unfold aL;omega)).symm
  ·rw [if_neg ey,decide_eq_decide];unfold aL;omega
 ·rw [if_neg ex,decide_eq_decide];unfold aL;omega
theorem GN {P:Program} {w:World} {K:PySem.W.Frag} {H:Hp} {h:Heap} {p:Pl} {x:V} {u:Value} (ok:nH P w H h) (d:Dat K H p.d x) (r:RelV x u):p7 h u p:=by
 obtain ⟨a,xs,rfl,ha,hx⟩:=bH.mp d
 obtain rfl:u=Value.ref a:=r
 obtain ⟨its,rv,⟨o,h1,h2,n,h3⟩,_⟩:=eY ok ha
 obtain ⟨v1,v2,rfl,d1,d2⟩:=qN hx
 obtain rfl:=aW.mp d1
 obtain rfl:=aW.mp d2
 obtain ⟨u1,u2,rfl,⟨t1,rfl⟩,⟨t2,rfl⟩⟩:=vals2 rv
 exact ⟨a,o,t1,t2,n,rfl,h1,h2,h3⟩
theorem p7.tup {h:Heap} {v:Value} {p:Pl} (a:p7 h v p):∃ (l:Addr) (its:Array Value),v= .ref l∧IsTup h l its∧IntsAre its.toList [p.x,p.y]:=by
 obtain ⟨b,o,t,u,n,h1,h2,h3,h4⟩:=a
 exact ⟨b,_,h1,⟨o,h2,h3,n,h4⟩,.cons _ _ (.cons _ _ .nil)⟩
def dF (h:Heap):List Value→List Pl→Prop:=Paired (p7 h)
theorem gR {P:Program} {w:World} {K:PySem.W.Frag} {H:Hp} {h:Heap} (ok:nH P w H h):∀ {ps:List Pl} {xs:List V} {us:List Value},aM K H (ps.map Pl.d) xs→Vals xs us→dF h us ps
 | [],xs,us,d,r=>by rw [aV.mp d] at r;cases r;exact .nil
 | p :: ps,xs,us,d,r=>by
   obtain ⟨v,vs,rfl,d1,d2⟩:=aQ.mp d
   cases r with
   | cons r rr=>exact .cons (GN ok d1 r) (gR ok d2 rr)
theorem dF.get {h:Heap}:∀ {us:List Value} {ps:List Pl} {i:Nat} {u:Value},dF h us ps→us[i]?=some u→∃ p,ps[i]?=some p∧p7 h u p
 | _,_,i,u,.nil,e=>by simp at e
 | _,_,i,u,.cons a r,e=>by
   cases i with
   | zero=>simp at e;subst e;exact ⟨_,rfl,a⟩
   | succ i=>exact dF.get (i:=i) r (by simpa using e)
theorem Vals.len {xs:List V} {us:List Value} (r:Vals xs us):us.length=xs.length:=(Vals.length r).symm
def bestOf (lt:Pl→Pl→Bool) (ps:List Pl) (i j:Nat):Bool:=lt (ps.getD i ⟨0,0⟩) (ps.getD j ⟨0,0⟩)
noncomputable def qS (h:Heap) (v:Value):Pl:=Option.getD (α:=Pl) ((zh h).keyOf v) ⟨0,0⟩
theorem DM {h:Heap} {v:Value} {p:Pl} (a:p7 h v p):qS h v=p:=by
 unfold qS
 have e:(zh h).keyOf v=some p:=zj a
 exact congrArg (fun o=>Option.getD (α:=Pl) o ⟨0,0⟩) e
theorem dF.keys {h:Heap}:∀ {us:List Value} {ps:List Pl},dF h us ps→us.map (qS h)=ps
 | _,_,.nil=>rfl
 | _,_,.cons a r=>by rw [ZK,DM a,dF.keys r]
theorem dF.mem {h:Heap}:∀ {us:List Value} {ps:List Pl} {v:Value},dF h us ps→v∈us→∃ p,p7 h v p
 | _,_,v,.nil,m=>by cases m
 | _,_,v,.cons a r,m=>by
   rcases Y6.mp m with rfl | m
   ·exact ⟨_,a⟩
   ·exact dF.mem r m
theorem cT {α:Type}:∀ {vs:List α} {p:α ×α},p∈vs.zip vs→p.1=p.2∧p.1∈vs
 | [],p,m=>by simp at m
 | v :: vs,p,m=>by
   rw [Z6] at m
   rcases Y6.mp m with rfl | m
   ·exact ⟨rfl,Zl ..⟩
   ·exact ⟨(cT m).1,Y5 _ (cT m).2⟩
theorem wR {P:Program} {w:World} {A:Around} {E:Value→Shared→Prop} {s:Shared} {l:Addr} {vs:List Value} {ps:List Pl} {Q:Value→Shared→Prop} (hl:s.heap.IsList l vs.toArray) (hv:dF s.heap vs ps) (h64:vs.length < 64)
 (h:∀ (out:List Value) (qs:List Pl),(∀ v∈out,v∈vs)→qs=out.map (qS s.heap)→qs.Perm ps→qs.Pairwise (fun p q=> ¬ aL q p)→Q (.ref (s.heap.objs.size+1)) { s with heap:=sortedAll s.heap vs out.toArray }) :
 wpAny (model P w) A (call (.builtin "sorted") [.ref l]) Q E s:=by
 have hk:KeysOf (zh s.heap) (pairsOf vs):=fun p hp=>by
  rw [pairsOf_toList] at hp
  obtain ⟨q,a⟩:=hv.mem (cT hp).2
  exact ⟨q,zj a⟩
 refine yq (κ:=zh s.heap) (kd:=tuples' true) hl hk (fun t E Q g h2 q=>DL (by omega) (fun v m=>?_) q) (fun t g=>GK g true) h64 fun y hp hs=>?_
 ·obtain ⟨p,a⟩:=hv.mem m
  exact ⟨p,a.grow g⟩
 ·have pl:y.toList.Perm (vs.zip vs):=by rw [← pairsOf_toList];exact Array.perm_iff_toList_perm.mp hp
  have same:∀ p∈y.toList,p.1=p.2∧p.1∈vs:=fun p m=>cT (pl.mem_iff.mp m)
  have eo:y.map (·.2)=(y.toList.map (·.2)).toArray:=by rw [← Array.toList_map,Array.toArray_toList]
  rw [eo]
  refine h (y.toList.map (·.2)) _ (fun v m=>?_) rfl ?_ ?_
  ·obtain ⟨p,m2,rfl⟩:=ZA.mp m
   rw [← (same p m2).1];exact (same p m2).2
  ·have q:=(pl.map (fun p=>p.2)).map (qS s.heap)
   have e:(vs.zip vs).map (fun p=>p.2)=vs:=abp (Zb _)
   rw [e,hv.keys] at q
   exact q
  ·rw [aay]
   intro i j hi hj hij
   have li:i < y.size:=by simpa using hi
   have lj:j < y.size:=by simpa using hj
   have q:=hs i j (aaK hij) (by rw [← hp.size_eq];exact lj)
   have key:∀ k (hk:k < y.size),KK (zh s.heap) y k=qS s.heap y[k].2:=fun k hk=>by
    unfold KK
    rw [getElem?_pos y k hk]
    show Option.getD (α:=Pl) ((zh s.heap).keyOf y[k].1) ⟨0,0⟩=_
    rw [(same y[k] (by simp)).1]
    rfl
   have q:(zh s.heap).blt (KK (zh s.heap) y j) (KK (zh s.heap) y i)=false:=q
   rw [key i li,key j lj] at q
   have q:decide (aL (qS s.heap y[j].2) (qS s.heap y[i].2))=false:=q
   simpa using of_decide_eq_false q
def Ju:List D→Mp→DK→Prop:=fun ds M Q=> ∃ (l:Addr) (ps:List Pl),ds= [.ref l]∧M l=some (.lst (ps.map Pl.d))∧ps.length < 64∧∀ (p:Addr) (qs:List Pl),M p=none→qs.Perm ps→qs.Pairwise (fun p q=> ¬ aL q p)→Q (.ref p) (aE M p (.lst (qs.map Pl.d)))
theorem rR {K:PySem.W.Frag} {H:Hp} {h:Heap} {P:Program} {w:World} (ok:nH P w H h) {ps:List Pl} {zs:List V} {vs:List Value} (d:aM K H (ps.map Pl.d) zs) (r:Vals zs vs):∀ (out:List Value),(∀ v∈out,v∈vs)→
 ∃ ws,Vals ws out∧aM K H ((out.map (qS h)).map Pl.d) ws
 | [],_=>⟨[],.nil,aV.mpr rfl⟩
 | v :: out,m=>by
   obtain ⟨ws,h1,h2⟩:=rR ok d r out fun u hu=>m u (Y5 _ hu)
   have one:∀ {ps:List Pl} {zs:List V} {vs:List Value},aM K H (ps.map Pl.d) zs→Vals zs vs→v∈vs→∃ (p:Pl) (x:V),RelV x v∧Dat K H p.d x:=by
    intro ps
    induction ps with
    | nil=>intro zs vs d r m;rw [aV.mp d] at r;cases r;cases m
    | cons p ps ih=>
      intro zs vs d r m
      obtain ⟨x,xs,rfl,d1,d2⟩:=aQ.mp d
      cases r with
      | cons r1 r2=>
        rcases Y6.mp m with rfl | m
        ·exact ⟨p,x,r1,d1⟩
        ·exact ih d2 r2 m
   obtain ⟨p,x,rx,dx⟩:=one d r (m v (Zl ..))
   refine ⟨x :: ws,.cons rx h1,?_⟩
   rw [ZK,ZK,DM (GN ok dx rx)]
   exact aQ.mpr ⟨x,ws,rfl,dx,h2⟩
theorem nZ:Call3 X (.builtin "sorted") Ju:=by
 constructor
 intro pins s σ H M xs ds us Q I rm rs dx ⟨l,ps,e,hM,h64,q⟩
 subst e
 obtain ⟨v,rfl,hv⟩:=nU dx
 obtain rfl:=aK.mp hv
 obtain ⟨u,rfl,r1⟩:=vals1 rs
 obtain rfl:u=Value.ref l:=r1
 obtain ⟨zs,hH,hz⟩:=rm.lst hM
 obtain ⟨its,rv,pl,hsz⟩:=I.list (iD.of (K:=X.K) hH)
 have hl:its.length=ps.length:=by rw [Vals.len rv,← hz.length,Y4]
 refine wR pl.isList (gR I.hok hz rv) (by omega) fun out qs hm eq hp hs=>?_
 obtain ⟨ws,w1,w2⟩:=rR I.hok hz rv out hm
 rw [← eq] at w2
 obtain ⟨n,hn⟩:=sortedAll_at s.heap its out.toArray
 have fr:H (s.heap.objs.size+1)=none:=I.hok.fresh (ZP _)
 have zw:ws.length≤sizeLine:=by
  rw [← w2.length,Y4,hp.length_eq,sizeLine_eq];omega
 refine ⟨.ref (s.heap.objs.size+1),upd H (s.heap.objs.size+1) (.lst ws),I.laid (t':=s.toks) (fun b o e=>sortedAll_old e) (ZP _) ⟨zw,out,n,w1,hn⟩,rfl,.ref _,aE M _ (.lst (qs.map Pl.d)),Fr.new fr fun _ hb=>bg hb,aK.mpr rfl,rm.newL fr w2,q _ _ (rm.free fr) hp hs⟩
end
end L3
local macro_rules | `(tactic| walk_at "sm")=> `(tactic| first | assumption | exact L3.Sm.sign _ | exact L3.Sm.zero | exact L3.Sm.one | exact L3.Sm.two | ((with_reducible apply L3.Sm.mul) <;> walk_at "sm") | ((with_reducible apply L3.Sm.sub) <;> walk_at "sm") | ((with_reducible apply L3.Sm.add) <;> walk_at "sm") | ((with_reducible apply L3.Sm.neg) <;> walk_at "sm") | ((with_reducible apply L3.Sm.abs) <;> walk_at "sm") | ((with_reducible apply L3.Sm.emod);(first | omega | decide +kernel);walk_at "sm") | exact L3.Sm.lit _)
local macro_rules | `(tactic| walk_at "mulok")=> `(tactic| (apply L3.MulOk.of;walk_at "sm";walk_at "sm";first | omega | decide +kernel))
local macro_rules | `(tactic| walk_at "rd1")=> `(tactic| first | refine ⟨_,rfl,?_⟩ | refine ⟨_,_,rfl,rfl,?_⟩ | refine ⟨_,_,_,Or.inl rfl,rfl,rfl,?_⟩ | (refine ⟨?side,?_⟩;(case side=>first | walk_at "mulok" | (simp only [Zj,aaf];decide) | (show (0:Int) < _;first | omega | (dsimp only;omega) | decide +kernel) | (show (0:Int)≤_;first | omega | (dsimp only;omega)) | exact ⟨by decide +kernel,by decide +kernel,by decide +kernel⟩ | exact ⟨by decide +kernel,_,L3.Sm.lit _,by decide +kernel⟩ | (left;walk_at "mulok") | exact Or.inr (Or.inr ⟨by decide,by decide⟩) | decide)) | refine ⟨rfl,?_⟩ | refine ⟨trivial,?_⟩ | refine ⟨_,Or.inl rfl,rfl,?_⟩ | refine ⟨_,_,rfl,Or.inl rfl,?_⟩ | refine ⟨_,_,_,_,rfl,L3.GC.int _,L3.bZ,?_⟩ | refine ⟨_,_,_,_,rfl,L3.GC.tup _,L3.bZ,?_⟩ | refine ⟨_,_,_,_,rfl,L3.GC.bl _,L3.bZ,?_⟩ | refine ⟨_,_,rfl,?_⟩ | refine ⟨_,_,_,rfl,?_⟩ | refine ⟨_,_,_,_,rfl,?_⟩)
local macro_rules | `(tactic| walk_at "rd")=> `(tactic| repeat walk_at "rd1")
local macro_rules | `(tactic| walk_at "smle")=> `(tactic| (apply L3.Sm.le;walk_at "sm";first | omega | decide +kernel))
local macro_rules | `(tactic| walk_at "om")=> `(tactic| first | omega | (dsimp only;omega))
namespace L3
open PySem L2
theorem n8 {a b c:Pl} (ha:a.Ok 140) (hb:b.Ok 140) (hc:c.Ok 140):Sm 290 (tw a b c):=by
 obtain ⟨a1,a2⟩:=ha
 obtain ⟨b1,b2⟩:=hb
 obtain ⟨c1,c2⟩:=hc
 unfold tw
 walk_at "smle"
theorem Ck {p q:Pl} (hp:p.Ok 140) (hq:q.Ok 140):Sm 290 (lM p q):=by
 obtain ⟨p1,p2⟩:=hp
 obtain ⟨q1,q2⟩:=hq
 unfold lM
 walk_at "smle"
theorem RQ (a b c d:Pl):inD d.d [a.d,b.d,c.d]=decide (d=a∨d=b∨d=c):=by
 unfold inD
 rw [aa3,aa3,aa3,List.any_nil,cY,cY,cY,abQ,ZW]
 simp only [Bool.or_eq_true,decide_eq_true_eq]
 grind
theorem n9 {α:Type} {qs:List α} (h:qs.length=3):∃ u v w,qs= [u,v,w]:=by
 match qs,h with
 | [u,v,w],_=>exact ⟨u,v,w,rfl⟩
theorem GO {α:Type} {v w b c:α} (h: [v,w].Perm [b,c]):(v=b∧w=c)∨(v=c∧w=b):=by
 have m:v∈[b,c]:=h.mem_iff.mp (by simp)
 rcases Y6.mp m with rfl | m
 ·exact .inl ⟨rfl,by have:=(aaJ v).mp h;simpa using this⟩
 ·have:=Y8.mp m
  subst this
  have h2:=(aaJ v).mp (h.trans (List.Perm.swap v b []))
  exact .inr ⟨rfl,by simpa using h2⟩
theorem uS {α:Type} {u v w a b c:α} (h: [u,v,w].Perm [a,b,c]):(u=a∧v=b∧w=c)∨(u=a∧v=c∧w=b)∨(u=b∧v=a∧w=c)∨(u=b∧v=c∧w=a)∨(u=c∧v=a∧w=b)∨(u=c∧v=b∧w=a):=by
 have m:u∈[a,b,c]:=h.mem_iff.mp (by simp)
 rcases Y6.mp m with rfl | m
 ·rcases GO ((aaJ u).mp h) with ⟨e1,e2⟩ | ⟨e1,e2⟩
  ·exact .inl ⟨rfl,e1,e2⟩
  ·exact .inr (.inl ⟨rfl,e1,e2⟩)
 ·rcases Y6.mp m with rfl | m
  ·have h2:=(aaJ u).mp (h.trans (List.Perm.swap u a [c]))
   rcases GO h2 with ⟨e1,e2⟩ | ⟨e1,e2⟩
   ·exact .inr (.inr (.inl ⟨rfl,e1,e2⟩))
   ·exact .inr (.inr (.inr (.inl ⟨rfl,e1,e2⟩)))
  ·have:=Y8.mp m
   subst this
   have h2:=(aaJ u).mp (h.trans ((List.Perm.cons a (List.Perm.swap u b [])).trans (List.Perm.swap u a [b])))
   rcases GO h2 with ⟨e1,e2⟩ | ⟨e1,e2⟩
   ·exact .inr (.inr (.inr (.inr (.inl ⟨rfl,e1,e2⟩))))
   ·exact .inr (.inr (.inr (.inr (.inr ⟨rfl,e1,e2⟩))))
theorem uT {n:Nat} {u v w a b c:Pl} (h: [u,v,w].Perm [a,b,c]) (ha:a.Ok n) (hb:b.Ok n) (hc:c.Ok n):u.Ok n∧v.Ok n∧w.Ok n:=by
 rcases uS h with ⟨rfl,rfl,rfl⟩ | ⟨rfl,rfl,rfl⟩ | ⟨rfl,rfl,rfl⟩ | ⟨rfl,rfl,rfl⟩ | ⟨rfl,rfl,rfl⟩ | ⟨rfl,rfl,rfl⟩ <;> exact ⟨by assumption,by assumption,by assumption⟩
theorem Bb {u v w a b c d:Pl} (h: [u,v,w].Perm [a,b,c]):kX u v w d↔kX a b c d:=by
 rcases uS h with ⟨rfl,rfl,rfl⟩ | ⟨rfl,rfl,rfl⟩ | ⟨rfl,rfl,rfl⟩ | ⟨rfl,rfl,rfl⟩ | ⟨rfl,rfl,rfl⟩ | ⟨rfl,rfl,rfl⟩
 ·exact Iff.rfl
 ·exact Jp _ _ _ _
 ·exact uP _ _ _ _
 ·exact ju _ _ _ _
 ·exact (ju _ _ _ _).trans (ju _ _ _ _)
 ·exact (uP _ _ _ _).trans (ju _ _ _ _)
theorem Jv {u v w a b c d:Pl} (h: [u,v,w].Perm [a,b,c]):rg u v w d=rg a b c d:=by
 have mid:∀ a b c d,rg a c b d=rg a b c d:=fun a b c d=>by rw [← nX a c b d,qQ b c a d,nX]
 rcases uS h with ⟨rfl,rfl,rfl⟩ | ⟨rfl,rfl,rfl⟩ | ⟨rfl,rfl,rfl⟩ | ⟨rfl,rfl,rfl⟩ | ⟨rfl,rfl,rfl⟩ | ⟨rfl,rfl,rfl⟩
 ·rfl
 ·exact mid _ _ _ _
 ·exact qQ _ _ _ _
 ·exact nX _ _ _ _
 ·exact (nX _ _ _ _).trans (nX _ _ _ _)
 ·exact (qQ _ _ _ _).trans (nX _ _ _ _)
theorem yw {a b c d u v w:Pl} (hn:tw a b c≠0) (h0:rg a b c d=0) (hd:¬ (d=a∨d=b∨d=c)) (hp: [u,v,w].Perm [a,b,c]) (s1:¬ aL v u) (s2:¬ aL w u) :
 decide (kX a b c d)=if aL d u then true else decide ((tw v w d).sign≠(tw v w u).sign):=by
 have nab:a≠b:=fun e=>by subst e;rw [gQ] at hn;exact hn rfl
 have Xh:a≠c:=fun e=>by subst e;rw [iV] at hn;exact hn rfl
 have Xi:b≠c:=fun e=>by subst e;rw [uL] at hn;exact hn rfl
 have ho:(u≠v∧u≠w)∧(d≠u∧d≠v∧d≠w):=by
  rcases uS hp with ⟨rfl,rfl,rfl⟩ | ⟨rfl,rfl,rfl⟩ | ⟨rfl,rfl,rfl⟩ | ⟨rfl,rfl,rfl⟩ | ⟨rfl,rfl,rfl⟩ | ⟨rfl,rfl,rfl⟩ <;> grind
 obtain ⟨⟨n1,n2⟩,e1,e2,e3⟩:=ho
 have b1:aL u v:=by rcases g9 n1 with z | z;exact z;exact absurd z s1
 have b2:aL u w:=by rcases g9 n2 with z | z;exact z;exact absurd z s2
 have e:decide (kX a b c d)=decide (kX u v w d):=by rw [decide_eq_decide];exact (Bb hp).symm
 rw [e]
 have h1:rg u v w d=0:=by rw [Jv hp];exact h0
 by_cases k:aL d u
 ·rw [if_pos k]
  exact decide_eq_true (.inr ⟨h1,e1,e2,e3,.inl ⟨k,aZ k b1,aZ k b2⟩⟩)
 ·rw [if_neg k,decide_eq_decide]
  have k2:aL u d:=by rcases g9 e1 with z | z;exact absurd z k;exact z
  unfold kX
  rw [h1]
  constructor
  ·rintro (z | ⟨_,_,_,_,z | z | z | z⟩)
   ·cases z
   ·exact absurd z.1 k
   ·exact z.2.2.2
   ·exact absurd z.1 s1
   ·exact absurd z.1 s2
  ·intro z
   exact .inr ⟨rfl,e1,e2,e3,.inr (.inl ⟨b1,b2,k2,z⟩)⟩
theorem Cm {a b c d u v w:Pl} (hn:tw a b c≠0) (h0:rg a b c d=0) (hd:¬ (d=a∨d=b∨d=c)) (hp: [u,v,w].Perm [a,b,c]) (hs: [u,v,w].Pairwise (fun p q=> ¬ aL q p)) :
 decide (kX a b c d)=if aL d u then true else decide ((tw v w d).sign≠(tw v w u).sign):=
 yw hn h0 hd hp ((ZF.mp hs).1 v (by simp)) ((ZF.mp hs).1 w (by simp))
instance (p q r s:Pl):Decidable (UW p q r s):=inferInstanceAs (Decidable (_∨_))
theorem ia (i j:Int):(!eg (.int i) (.int j))=decide (i≠j):=by
 rw [c6,ZW]
 simp
theorem c8 (qs:List Pl):(qs.map Pl.d).all (plain 9)=true:=by
 rw [aba,Zw]
 intro q _
 rfl
end L3
namespace L3
open PySem PySem.Spec PyProof.Rows L2
def eF (cells:List (Str ×Addr)) (names:List (Str ×NameKind)) (cs:List (Str ×Addr)):List (Str ×Addr):=
 names.foldl (fun cs y=>if (y.2 == NameKind.free)=true then (y.1,(cells.lookup y.1).getD 0) :: cs else cs) cs
theorem uU {α β:Type} {f:α→β→Sem (ForInStep β)} {g:β→α→β}:∀ {l:List α} {b:β},(∀ x∈l,∀ b,f x b=pure (.yield (g b x)))→forIn l b f=(pure (l.foldl g b):Sem β)
 | [],b,_=>rfl
 | x :: l,b,h=>by
   rw [aaD,h x (Zl ..),pure_bind]
   exact uU fun y hy=>h y (Y5 _ hy)
theorem Cn {sc:Scope} {env:Env} (h:∀ y∈sc.names,y.2= .free→∃ c,env.cells.lookup y.1=some c):closureFor sc env=pure (eF env.cells sc.names []):=by
 unfold closureFor eF
 dsimp only
 rw [uU (g:=fun cs y=>if (y.2 == NameKind.free)=true then (y.1,(env.cells.lookup y.1).getD 0) :: cs else cs)]
 ·rfl
 ·rintro ⟨n,k⟩ hy b
  by_cases hk:k= .free
  ·subst hk
   obtain ⟨c,hc⟩:=h _ hy rfl
   have hc:env.cells.lookup n=some c:=hc
   simp [cellOf,hc]
  ·have hb:(k == NameKind.free)=false:=by simpa using hk
   simp [hb]
theorem tu {cells:List (Str ×Addr)} {x:Str} {c:Addr}:∀ {names:List (Str ×NameKind)} {cs:List (Str ×Addr)},(∀ y∈names,y.2= .free→∃ c,cells.lookup y.1=some c)→(∀ x c,cs.lookup x=some c→cells.lookup x=some c)→
 (eF cells names cs).lookup x=some c→cells.lookup x=some c
 | [],cs,_,h,e=>h x c e
 | (n,k) :: r,cs,hf,h,e=>by
   refine tu (names:=r) (cs:=if (k == NameKind.free)=true then (n,(cells.lookup n).getD 0) :: cs else cs) (fun y hy=>hf y (Y5 _ hy)) (fun x c q=>?_) e
   split at q
   ·rename_i hk
    rw [ZQ] at q
    split at q
    ·rename_i hx
     have hx:=eq_of_beq hx
     subst hx
     obtain ⟨c',hc⟩:=hf (x,k) (Zl ..) (eq_of_beq hk)
     have hc:cells.lookup x=some c':=hc
     rw [hc] at q
     rw [hc];exact q
    ·exact h x c q
   ·exact h x c q
theorem tE {cells:List (Str ×Addr)} {x:Str}:∀ {names:List (Str ×NameKind)} {cs:List (Str ×Addr)},((cs.lookup x).isSome=true∨(x,NameKind.free)∈names)→((eF cells names cs).lookup x).isSome=true
 | [],cs,h=>by
   rcases h with h | h
   ·exact h
   ·cases h
 | (n,k) :: r,cs,h=>by
   refine tE (names:=r) (cs:=if (k == NameKind.free)=true then (n,(cells.lookup n).getD 0) :: cs else cs) ?_
   rcases h with h | h
   ·left
    split
    ·rw [ZQ]
     split
     ·rfl
     ·exact h
    ·exact h
   ·rcases Y6.mp h with e | h
    ·left
     cases e
     simp [ZQ]
    ·exact .inr h
theorem mem_of_lookup {β:Type} {x:Str} {b:β}:∀ {l:List (Str ×β)},l.lookup x=some b→(x,b)∈l
 | [],h=>by cases h
 | (n,c) :: r,h=>by
   rw [ZQ] at h
   split at h
   ·rename_i hx
    cases h
    have:=eq_of_beq hx
    subst this
    exact Zl ..
   ·exact Y5 _ (mem_of_lookup h)
def cU (outer:Scope) (N:List Str) (sc:Scope) (x:Str) (ys:List Str) (fs:List Nat):Bool:=
 (sc.kind == .function) && (outer.kind == .function) && sc.names.all (fun y=>!(y.2 == .cell) && (!(y.2 == .local) || sc.names.lookup y.1 == some .local) && (!(y.2 == .free) || outer.names.lookup y.1 == some .cell)) && (sc.names.lookup x == some .local) &&
  decide (ys.length=fs.length) && (ys.zip fs).all (fun p=>N[p.2]? == some p.1 && sc.names.lookup p.1 == some .free) && decide (x :: ys).Nodup
structure uV (outer:Scope) (N:List Str) (sc:Scope) (x:Str) (ys:List Str) (fs:List Nat):Prop where
 kind:sc.kind= .function
 O7:outer.kind= .function
 GP:∀ y∈sc.names,y.2≠ .cell
 names:∀ y∈sc.names,y.2= .local→sc.names.lookup y.1=some .local
 Qt:∀ y∈sc.names,y.2= .free→outer.names.lookup y.1=some .cell
 loc:sc.names.lookup x=some .local
 len:ys.length=fs.length
 at':∀ (k:Nat) y,ys[k]?=some y→∃ i,fs[k]?=some i∧N[i]?=some y∧sc.names.lookup y=some .free
 nd:(x :: ys).Nodup
theorem uV.of {outer:Scope} {N:List Str} {sc:Scope} {x:Str} {ys:List Str} {fs:List Nat} (h:cU outer N sc x ys fs=true):uV outer N sc x ys fs:=by
 unfold cU at h
 simp only [ZX,Zw,decide_eq_true_eq] at h
 obtain ⟨⟨⟨⟨⟨⟨h1,UZ⟩,h2⟩,h3⟩,h4⟩,h5⟩,h6⟩:=h
 refine ⟨eq_of_beq h1,eq_of_beq UZ,fun y hy z=>?_,fun y hy z=>?_,fun y hy z=>?_,eq_of_beq h3,h4,fun k y e=>?_,h6⟩
 ·have:=(h2 y hy).1.1
  rw [z] at this
  simp at this
 ·have:=(h2 y hy).1.2
  rw [z] at this
  simpa using this
 ·have:=(h2 y hy).2
  rw [z] at this
  simpa using this
 ·have hk:k < fs.length:=by rw [← h4];exact (Ze.mp e).1
  have ez:(ys.zip fs)[k]?=some (y,fs[k]):=by
   rw [List.getElem?_zip_eq_some]
   exact ⟨e,Y7 hk⟩
  obtain ⟨q1,q2⟩:=h5 _ (Y9 ez)
  exact ⟨fs[k],Y7 hk,eq_of_beq q1,eq_of_beq q2⟩
theorem qT {env:Env} {y:Str} (hk:env.scope.kind= .function) (hc:env.scope.names.lookup y=some .cell):∀ {names:List (Str ×NameKind)},names.lookup y=some .free→
 (names.map fun (n,k)=>if (k == NameKind.free && env.scope.kind == .function && env.kindOf n == some .cell) then (n,NameKind.cell) else (n,k)).lookup y=some .cell
 | [],h=>by cases h
 | (n,k) :: r,h=>by
   rw [ZQ] at h
   split at h
   ·rename_i hx
    cases h
    have:=eq_of_beq hx
    subst this
    have hc:env.kindOf y=some .cell:=hc
    simp [hk,hc,ZQ]
   ·rename_i hx
    have ih:=qT hk hc h
    simp only [ZK]
    split
    ·rw [ZQ,hx];exact ih
    ·rw [ZQ,hx];exact ih
abbrev AK (X:Cx) (sc:Scope) (x:Str) (ys:List Str) (cl:List (Str ×Addr)) (C:Addr) (s0:Shared) (H0:Hp) (ex:List Addr):Cx:=
 { X with N:=x :: ys,s₀:=s0,H₀:=H0,env:=compEnvC sc cl C X.env,outer:=X.stack,ex:=ex,fn:=fun _=>false,pn:=[],xe:=fun _ _=>False }
structure O8 (X:Cx) (ifs:List Expr) (t:pX):Prop where
 run:∀ (pins:List (Addr ×Obj)) (s:Shared) (σ:St) (H:Hp) (ρ:En) (M:Mp) (Q:Bool→Mp→Prop),Inv X pins σ H s→Rep X.K H σ ρ M→t ρ M Q→
  wpAny (model X.prog X.w) X.A (forIn ifs true fun c r=>if r=true then do { let ok ← isTrue c X.env (eval c X.env);pure (ForInStep.yield ok) } else pure (ForInStep.yield r)) (TP X pins σ (sX X.K M H Q)) X.xe s
def RS:pX:=fun _ M Q=>Q true M
theorem Bc {X:Cx}:O8 X [] RS:=⟨fun pins s σ H ρ M Q I r q=>wpAny_tests_nil ⟨H,I,M,.refl _ _,r.mem,q⟩⟩
theorem tF {X:Cx} {c:Expr} {t:pX} (h:AY X c t):O8 X [c] t:=⟨fun pins s σ H ρ M Q I r q=>wpAny_tests_one (h.run pins s σ H ρ M Q I r q)⟩
def tG (gd:Mp→Prop) (tt:pX) (te:dI) (fr:En) (Q:List D→Mp→Prop):List D→List D→Mp→Prop
 | [],acc,M=>gd M∧Q acc M
 | d :: ds,acc,M=>gd M∧tt (some d :: fr) M fun b M1=>if b=true then te (some d :: fr) M1 fun y M2=>tG gd tt te fr Q ds (acc ++ [y]) M2 else tG gd tt te fr Q ds acc M1
def rS (fs:List Nat) (ρ:En):En:=fs.map fun i=>(ρ[i]?).join
section
variable {X:Cx} {sc:Scope} {x:Str} {ys:List Str} {fs:List Nat}
theorem GQ {fs:List Nat} {ρ:En} {k:Nat} {d:D} (h:(rS fs ρ)[k]?=some (some d)):∃ i,fs[k]?=some i∧ρ[i]?=some (some d):=by
 unfold rS at h
 rw [ZI] at h
 cases e:fs[k]? with
 | none=>rw [e] at h;cases h
 | some i=>
   rw [e] at h
   refine ⟨i,rfl,?_⟩
   have h:(ρ[i]?).join=some d:=Option.some.inj h
   cases q:ρ[i]? with
   | none=>rw [q] at h;cases h
   | some o=>rw [q] at h;rw [show o=some d from h]
theorem ER {pins:List (Addr ×Obj)} {σ:St} {H:Hp} {s s':Shared} {C:Addr} {fp:List Addr} {cl:List (Str ×Addr)} {ρ:En} {M:Mp} (ck:uV X.env.scope X.N sc x ys fs) (I:Inv X pins σ H s) (r:Rep X.K H σ ρ M) (hcl:cl=eF X.env.cells sc.names [])
 (hC:s.heap.objs.size≤C) (old:∀ b o,s.heap.get? b=some o→s'.heap.get? b=some o) (ns:∃ m,s'.heap.Ns C m) (hos:s'.os=s.os) (hg:s'.gens=s.gens) (hf:∀ b∈fp,nj X pins H b) (hfp:∀ b∈fp,b < s.heap.objs.size) :
 ∃ σ',Inv (AK X sc x ys cl C s H fp) [] σ' H s'∧Rep X.K H σ' (none :: rS fs ρ) M:=by
 have GR:∀ y∈sc.names,y.2= .free→∃ c,X.env.cells.lookup y.1=some c:=fun y hy hk=>I.ok.has y.1 (.inl (ck.Qt y hy hk))
 have cf:∀ {y c},cl.lookup y=some c→X.env.cells.lookup y=some c:=fun {y c} e=>by rw [hcl] at e;exact tu GR (fun _ _ z=>by cases z) e
 have ch:∀ y,sc.names.lookup y=some .free→∃ c,cl.lookup y=some c:=fun y e=>by rw [hcl];exact abm.mp (tE (.inr (mem_of_lookup e)))
 have rk:∀ y k,(relabel sc X.env).names.lookup y=some k→(k= .cell∨k= .free)→∃ c,cl.lookup y=some c:=by
  intro y k e hk
  have:∃ k',sc.names.lookup y=some k'∧(k'=k∨k'= .free):=by
   clear ck GR cf ch
   revert e
   show (sc.names.map _).lookup y=some k→_
   generalize sc.names=names
   intro e
   induction names with
   | nil=>cases e
   | cons p r ih=>
     obtain ⟨n,kn⟩:=p
     simp only [ZK] at e
     rw [ZQ]
     split
     ·rename_i hx
      split at e
      ·rename_i hc
       refine ⟨kn,rfl,.inr ?_⟩
       simp only [ZX] at hc
       exact eq_of_beq hc.1.1
      ·rw [ZQ,hx] at e
       exact ⟨kn,rfl,.inl (Option.some.inj e)⟩
     ·rename_i hx
      split at e <;> (rw [ZQ,hx] at e;exact ih e)
  obtain ⟨k',e',hk'⟩:=this
  rcases hk' with rfl | rfl
  ·rcases hk with rfl | rfl
   ·exact absurd rfl (ck.GP _ (mem_of_lookup e'))
   ·exact ch y e'
  ·exact ch y e'
 have lfp:∀ b∈fp,b≠C:=fun b hb z=>absurd (Zc (hfp b hb) hC) (by rw [z];exact ZJ _)
 have ok:(AK X sc x ys cl C s H fp).Ok:={
  mod:=I.ok.mod
  kind:=ck.kind
  glob:=I.ok.glob
  blt:=I.ok.blt
  above:=hC
  inj:=fun a b c e1 e2=>I.ok.inj a b c (cf e1) (cf e2)
  has:=fun y hy=>by
   rcases hy with hy | hy
   ·exact rk y _ hy (.inl rfl)
   ·exact rk y _ hy (.inr rfl)
  Np:=fun _ _ z=>by cases z
  hd:=I.ok.hd
  frames:=I.ok.frames
  stk:= .inl rfl
  NN:=fun b hb=>⟨lfp b hb,fun y c e=>(hf b hb).2.2.2.2.1 y c (cf e)⟩
  bs:=I.bs
  Kw:=aae I.ok.Kw I.sz
  Ex:=fun b o e hb=>by
   rcases (hf b hb).2.2.2.1 with z | z
   ·exact I.ok.Ex b o e z
   ·exact absurd (Zc (Heap.lt_size (I.ok.bs b o e).1) z) (ZJ _)
  Ey:=fun b hb z=>by
   rcases Y6.mp (I.B7 b z) with e | e
   ·exact (hf b hb).2.1 e
   ·exact (hf b hb).2.2.1 e
  tO:=I.stack
  Lc:=I.Dj }
 have fC:H C=none:=I.hok.fresh hC
 obtain ⟨m,hm⟩:=ns
 refine ⟨none :: fs.map (fun i=>(σ[i]?).join),⟨ok,hos,by rw [hg];exact I.bare,Un.kept old,⟨m,hm,fun i y v e1 e2 e3=>?_⟩,fun y c e=>?_,fC,fun y c e=>I.pW y c (cf e),fun p hp=>(by cases hp),I.hok.kept old,by simp [ck.len]⟩,⟨fun i d e=>?_,?_,r.mem⟩⟩
 ·cases i with
  | zero=>cases e2
  | succ i=>
    have e1:ys[i]?=some y:=e1
    obtain ⟨j,f1,f2,f3⟩:=ck.at' i y e1
    have e2:(fs.map fun i=>(σ[i]?).join)[i]?=some (some v):=e2
    rw [ZI,f1] at e2
    have e2:(σ[j]?).join=some v:=Option.some.inj e2
    have e4:σ[j]?=some (some v):=by
     cases q:σ[j]? with
     | none=>rw [q] at e2;cases e2
     | some o=>rw [q] at e2;rw [show o=some v from e2]
    have hc:X.env.scope.names.lookup y=some .cell:=ck.Qt (y,.free) (mem_of_lookup f3) rfl
    obtain ⟨m0,_,hl⟩:=I.loc
    obtain ⟨u,ru,lk⟩:=hl j y v f2 e4 (.inr (.inl hc))
    refine ⟨u,ru,?_⟩
    rcases lk with ⟨k1,_⟩ | ⟨_,c,e5,e6⟩
    ·have k1:X.env.scope.names.lookup y=some .local:=k1
     rw [hc] at k1;cases k1
    ·obtain ⟨c',e7⟩:=ch y f3
     have:=cf e7
     rw [e5] at this
     cases this
     refine .inr ⟨.inl (qT I.ok.kind hc f3),c,e7,?_⟩
     obtain ⟨o,ho,hd⟩:=e6
     exact ⟨o,old _ _ ho,hd⟩
 ·obtain ⟨v,o,ho,hd⟩:=I.cell y c (cf e)
  exact ⟨v,o,old _ _ ho,hd⟩
 ·cases i with
  | zero=>cases e
  | succ i=>
    obtain ⟨j,f1,f2⟩:=GQ (show (rS fs ρ)[i]?=some (some d) from e)
    obtain ⟨v,g1,g2⟩:=r.env j d f2
    refine ⟨v,?_,g2⟩
    show (fs.map fun i=>(σ[i]?).join)[i]?=some (some v)
    rw [ZI,f1]
    show some ((σ[j]?).join)=_
    rw [g1];rfl
 ·simp [rS]
end
end L3
namespace L3
open PySem PySem.Spec PyProof.Rows L2
section
variable {X:Cx} {sc:Scope} {x:Str} {ys:List Str} {fs:List Nat} {elt iter:Expr} {px pos:Pos} {ifs:List Expr} {tt:pX} {te:dI}
theorem Co {α:Type} {t:Sem α} {Q Q':α→Shared→Prop} {M:Model} {A:Around} {E:Value→Shared→Prop} {s:Shared} (h:wpAny M A t Q (fun _ _=>False) s) (hQ:∀ a s,Q a s→Q' a s):wpAny M A t Q' E s:=wpAny_mono h hQ fun _ _ z=>z.elim
theorem Bd (elt target iter:Expr) (ifs:List Expr) (sc:Scope) (pos:Pos) (it acc:Value) (env:Env):compTurn (.ListComp elt [⟨target,iter,ifs,0⟩] sc pos) 0 it acc env=(standAt iter.pos >>= fun _=>pyNext it >>= fun r=>match r with
 | none=>pure (.done .next)
 | some v=>letOwnedTupleGo target it v >>= fun _=>assign target env v >>= fun _=>(forIn ifs true fun c r=>if r=true then do { let ok ← isTrue c env (eval c env);pure (ForInStep.yield ok) } else pure (ForInStep.yield r)) >>= fun ok=>
   if ok=true then (eval elt env >>= fun y=>call (.builtin "list.append") [acc,y] >>= fun _=>again (.compLoop (.ListComp elt [⟨target,iter,ifs,0⟩] sc pos) 0 it acc env)) else again (.compLoop (.ListComp elt [⟨target,iter,ifs,0⟩] sc pos) 0 it acc env)):=by
 rw [compTurn_list]
 congr 1;funext _;congr 1;funext r
 cases r with
 | none=>rfl
 | some v=>
   dsimp only
   congr 1;funext _;congr 1;funext _;congr 1;funext ok
   cases ok with
   | false=>rfl
   | true=>simp only [if_true,bind_assoc,pure_bind]
structure RT (X X':Cx) (Dl:Addr) (fp:List Addr) (tn:Nat→Heap→Prop) (M0:Mp) (H0:Hp) (fr:En) (i:Nat) (s:Shared) (acc:List D) (M:Mp):Prop where
 ex:∃ σ H y ws,Inv X' [] σ H s∧tn i s.heap∧(∀ b∈fp,H b=none)∧Rep X.K H σ (y :: fr) M∧Fr M0 H0 M H∧H Dl=some (.lst ws)∧M Dl=none∧aM X.K H acc ws∧acc.length≤i
theorem Jw (hc:X.calm=true) (ck:uV X.env.scope X.N sc x ys fs) (ht:∀ cl C s0 H0 ex,O8 (AK X sc x ys cl C s0 H0 ex) ifs tt) (he:∀ cl C s0 H0 ex,cK (AK X sc x ys cl C s0 H0 ex) elt te)
 {pins:List (Addr ×Obj)} {σ:St} {H:Hp} {s:Shared} {ρ:En} {M:Mp} {it:Addr} {fp:List Addr} {tn:Nat→Heap→Prop} {J:It} {inv:Hp→Prop} {ds:List D} {gd:Mp→Prop} {Q:DK} {E:Value→Shared→Prop} {Ma:Mp} {Ha:Hp} {use:Option (Value→Sem Unit)} {Qs:Value→Shared→Prop} (fa:Fr Ma Ha M H)
 (fin:∀ (C Dl:Addr) (s6:Shared) (H5:Hp),Inv X pins σ H5 s6→(∃ m,s6.heap.Ns C m)→nj X pins H5 C→Post X.K Ma Ha Q (.ref Dl) H5→compPost (model X.prog X.w) X.A E use Qs (.ref Dl) C (.ok .next) s6)
 (I:Inv X pins σ H s) (r:Rep X.K H σ ρ M) (T:Turn X.prog X.w X.K (.Name x px) J fp it tn) (st:tn 0 s.heap) (hf:∀ b∈fp,nj X pins H b) (hJ:EK X.K J inv ds) (hz:ds.length < sizeLine)
 (stay:∀ M1 H1,Fr M H M1 H1→cP X.K H1 M1→gd M1→inv H1) (q:tG gd tt te (rS fs ρ) (fun zs M2=> ∀ p,M2 p=none→Q (.ref p) (aE M2 p (.lst zs))) ds [] M) :
 wpAny (model X.prog X.w) X.A (newList []) (fun acc s3=>wpAny (model X.prog X.w) X.A (newFunctionEnv sc X.env.globals (eF X.env.cells sc.names []) [] X.env.qual none .none (some X.env)) (fun cenv s4=>
  codeAny (model X.prog X.w) X.A (.compStart (.ListComp elt [⟨.Name x px,iter,ifs,0⟩] sc pos) 0 (.ref it) acc { cenv with scope:=relabel sc X.env }) (compPost (model X.prog X.w) X.A E use Qs acc cenv.locals) s4) E s3) E s:=by
 have hfp:∀ b∈fp,b < s.heap.objs.size:=fun b hb=>by
  obtain ⟨o,e,_⟩:=T.obj 0 _ st b hb
  exact Heap.lt_size e
 refine wpAny_newList (hsz:=Z3 _) ?_
 have fD:H s.heap.objs.size=none:=I.hok.fresh (Zb _)
 have k1:∀ b o,s.heap.get? b=some o→(s.heap.push { cls:= .type "list",data:= .seq ([]:List Value).toArray }).get? b=some o:=fun b o e=>Heap.get?_push_of_some _ e
 have z3:(s.heap.push { cls:= .type "list",data:= .seq ([]:List Value).toArray }).objs.size=s.heap.objs.size+1:=Heap.size_push ..
 have I3:Inv X pins σ (upd H s.heap.objs.size (.lst [])) { s with heap:=s.heap.push { cls:= .type "list",data:= .seq ([]:List Value).toArray } }:=
  I.laid (t':=s.toks) k1 (Zb _) ⟨Z3 _,[],0,.nil,Heap.get?_push_size _ rfl⟩
 refine wpAny_newFunctionEnv ck.GP (fun y hy=>by cases hy) (fun h1 Tj Tn=>?_) ck.kind
 generalize KL:({ s with heap:=s.heap.push { cls:= .type "list",data:= .seq ([]:List Value).toArray } }:Shared)=s3 at I3 Tj Tn ⊢
 have U0:s3.heap.objs.size=s.heap.objs.size+1:=by rw [← KL];exact z3
 have old:∀ b o,s3.heap.get? b=some o→h1.get? b=some o:=fun b o e=>Tn.extBut b o (Zr (Heap.lt_size e)) (Heap.get?_push_of_some _ e)
 have GS:∀ b∈fp,nj X pins (upd H s.heap.objs.size (.lst [])) b:=fun b hb=>⟨by rw [bF (Zr (hfp b hb))];exact (hf b hb).1,(hf b hb).2⟩
 have To:Fr M H M (upd H s.heap.objs.size (.lst [])):=Fr.new fD fun _ _=>rfl
 have r3:Rep X.K (upd H s.heap.objs.size (.lst [])) σ ρ M:=r.go To (r.mem.new fD)
 obtain ⟨σ',I4,r4⟩:=ER (s:=s3) (s':={ s3 with heap:=h1,toks:=s3.toks+([]:List (Str ×Value)).length }) (C:=s3.heap.objs.size) (fp:=fp) ck I3 r3 rfl (Zb _) old ⟨_,Tj⟩ rfl rfl GS (fun b hb=>by rw [U0];exact aab (hfp b hb))
 have MD:M s.heap.objs.size=none:=r.mem.free fD
 have Tp:tn 0 h1:=T.keep 0 _ _ st fun b hb o e=>old b o (by rw [← KL];exact k1 b o e)
 have RU:∀ {H':Hp},(∀ b∈fp,H' b=none)→∀ b∈fp,nj (AK X sc x ys (eF X.env.cells sc.names []) s3.heap.objs.size s3 (upd H s.heap.objs.size (.lst [])) fp) [] H' b:=fun {H'} hn b hb=>
  ⟨hn b hb,(I4.ok.NN b hb).1,I4.ok.Ey b hb,.inl hb,fun y c e z=>(I4.ok.NN b hb).2 y c e z,fun p hp=>by cases hp⟩
 have loop:∀ s4:Shared,s4= { s3 with heap:=h1,toks:=s3.toks+([]:List (Str ×Value)).length }→
  codeAny (model X.prog X.w) X.A (.compLoop (.ListComp elt [⟨.Name x px,iter,ifs,0⟩] sc pos) 0 (.ref it) (.ref s.heap.objs.size) ((AK X sc x ys (eF X.env.cells sc.names []) s3.heap.objs.size s3 (upd H s.heap.objs.size (.lst [])) fp)).env) (compPost (model X.prog X.w) X.A E use Qs (.ref s.heap.objs.size) s3.heap.objs.size) s4:=by
  rintro s4 rfl
  refine codeAny_loop rfl (I:=fun n s'=> ∃ i acc M',n=ds.length - i∧i≤ds.length∧RT X (AK X sc x ys (eF X.env.cells sc.names []) s3.heap.objs.size s3 (upd H s.heap.objs.size (.lst [])) fp) s.heap.objs.size fp tn M H (rS fs ρ) i s' acc M'∧tG gd tt te (rS fs ρ) (fun zs M2=> ∀ p,M2 p=none→Q (.ref p) (aE M2 p (.lst zs))) (ds.drop i) acc M')
   (fun n s5 hI=>?_) ds.length ⟨0,[],M,rfl,Z3 _,⟨σ',_,none,[],I4,Tp,fun b hb=>(GS b hb).1,r4,To,fT,MD,aV.mpr rfl,Zb _⟩,q⟩
  obtain ⟨i,acc,M5,rfl,hi,⟨σ5,H5,y5,ws,I5,Nq,f5,r5,II,Tq,Tt,Tu,Xj⟩,q5⟩:=hI
  show wpAny (model X.prog X.w) X.A ((compTurn (.ListComp elt [⟨.Name x px,iter,ifs,0⟩] sc pos) 0 (.ref it) (.ref s.heap.objs.size) ((AK X sc x ys (eF X.env.cells sc.names []) s3.heap.objs.size s3 (upd H s.heap.objs.size (.lst [])) fp)).env).onRaise (fun z=>do { noteFrame z ((AK X sc x ys (eF X.env.cells sc.names []) s3.heap.objs.size s3 (upd H s.heap.objs.size (.lst [])) fp)).env;theTreesLotGoes z })) _ _ s5
  refine wpAny_noted ?_
  rw [Bd]
  refine wpAny_bind (wpAny_standAt ?_)
  by_cases hlt:i < ds.length
  ·have hdr:ds.drop i=ds[i] :: ds.drop (i+1):=aaQ hlt
   rw [hdr] at q5
   obtain ⟨hg,q5⟩:=q5
   have hinv:=stay M5 H5 II r5.mem hg
   refine wpAny_bind (Co (T.item (AK X sc x ys (eF X.env.cells sc.names []) s3.heap.objs.size s3 (upd H s.heap.objs.size (.lst [])) fp) rfl rfl rfl hc i [] s5 σ5 H5 (fun _ _=>False) I5 (RU f5) Nq (hJ.go i H5 hlt hinv)) fun r6 s6 ⟨u,e6,h6⟩=>?_)
   subst e6
   refine wpAny_bind (Co h6 fun _ s7 ⟨v,H7,I7,rv,yl,RV,f7⟩=>?_)
   obtain ⟨e7,d,hd1,hd2⟩:=hJ.IG i H5 v H7 hlt hinv yl
   subst e7
   have ed:d=ds[i]:=Option.some.inj (hd1.symm.trans (Y7 hlt))
   subst ed
   have U1:=I7.pinned (RU f7) (T.obj _ _ RV)
   have lx:(relabel sc X.env).names.lookup x=some .local:=lookup_relabel_local ck.loc
   refine wpAny_bind (Co ((bW (X:=(AK X sc x ys (eF X.env.cells sc.names []) s3.heap.objs.size s3 (upd H s.heap.objs.size (.lst [])) fp)) (i:=0) (x:=x) (pos:=px) ck.nd rfl (.inl lx) (.inr lx)).run _ s7 σ5 H7 (y5 :: rS fs ρ) M5 v ds[i] u (fun ρ' M'=>ρ'=some ds[i] :: rS fs ρ∧M'=M5) U1 r5 rv hd2 ⟨rfl,rfl⟩) fun _ s8 ⟨σ8,H8,I8,ρ8,M8,RW,r8,e8,U3⟩=>?_)
   subst e8 U3
   obtain ⟨U4,U5⟩:=RW _ _ Tt Tq
   refine wpAny_bind (Co ((ht _ _ _ _ _).run _ s8 σ8 H8 _ M8 _ I8 r8 q5) fun b s9 ⟨H9,I9,M9,Qu,U6,q9⟩=>?_)
   obtain ⟨Tv,Tw⟩:=Qu _ _ U5 U4
   have r9:=r8.go Qu U6
   have O9:=(II.trans RW).trans Qu
   have Tz:aM X.K H9 acc ws:=aM.mono ((RW.trans Qu).ext r5.mem) _ _ Tu
   have next:∀ {H':Hp} {s':Shared},Inv (AK X sc x ys (eF X.env.cells sc.names []) s3.heap.objs.size s3 (upd H s.heap.objs.size (.lst [])) fp) ([] ++ uE fp s7.heap) σ8 H' s'→(tn (i+1) s'.heap∧∀ b∈fp,H' b=none):=fun {H' s'} I'=>by
    have pin:∀ b∈fp,∀ o,s7.heap.get? b=some o→s'.heap.get? b=some o∧H' b=none:=fun b hb o e=>by
     have:=I'.pin (b,o) (Zy _ (Zy _ (qh hb e)))
     exact ⟨this.1,this.2.1⟩
    refine ⟨T.keep _ _ _ RV fun b hb o e=>(pin b hb o e).1,fun b hb=>?_⟩
    obtain ⟨o,e,_⟩:=T.obj _ _ RV b hb
    exact (pin b hb o e).2
   cases b with
   | false=>
     rw [if_neg Zg]
     obtain ⟨n1,n2⟩:=next I9
     exact wpAny_pure ⟨rfl,ds.length - (i+1),by omega,i+1,acc,M9,rfl,hlt,⟨σ8,H9,_,ws,I9.nJ,n1,n2,r9,O9,Tv,Tw,Tz,by omega⟩,q9⟩
   | true=>
     rw [if_pos rfl]
     refine wpAny_bind (Co ((he _ _ _ _ _).run _ s9 σ8 H9 _ M9 _ I9 r9 q9) fun U7 U8 ⟨v10,KN,U9,RX,dy,Mf,Jx,RY,Pa,Va⟩=>?_)
     obtain ⟨Pb,Pc⟩:=Jx _ _ Tw Tv
     have TF:=r9.go Jx Pa
     have Pd:aM X.K KN acc ws:=aM.mono (Jx.ext r9.mem) _ _ Tz
     have lw:ws.length < sizeLine:=by rw [← Pd.length];omega
     refine wpAny_bind (Co (kF (X:=(AK X sc x ys (eF X.env.cells sc.names []) s3.heap.objs.size s3 (upd H s.heap.objs.size (.lst [])) fp)) _ U8 σ8 KN (.ref s.heap.objs.size) [v10] (.ref s.heap.objs.size) [U7] (fun _ H'=>H'=upd KN s.heap.objs.size (.lst (ws ++ [v10]))) U9 rfl (.cons RX .nil) ⟨_,ws,v10,rfl,rfl,Pb,lw,rfl⟩) fun _ Xk ⟨_,Xl,TH,_,Vb⟩=>?_)
     subst Vb
     have ex:Ext KN (upd KN s.heap.objs.size (.lst (ws ++ [v10]))):=Ext.lF Pb
     have RZ:cP X.K (upd KN s.heap.objs.size (.lst (ws ++ [v10]))) Mf:=fun a o e=>by
      have na:a≠s.heap.objs.size:=fun z=>by rw [z,Pc] at e;cases e
      exact (Pa a o e).mono ex fun u q=>by rw [bF na];exact q
     have Vc:Rep X.K (upd KN s.heap.objs.size (.lst (ws ++ [v10]))) σ8 (some ds[i] :: rS fs ρ) Mf:=⟨fun j d e=>let ⟨v,e1,e2⟩:=TF.env j d e;⟨v,e1,Dat.mono ex _ _ e2⟩,TF.len,RZ⟩
     have R0:Fr M H Mf (upd KN s.heap.objs.size (.lst (ws ++ [v10]))):=fun b o n e=>by
      obtain ⟨e1,n1⟩:=(O9.trans Jx) b o n e
      exact ⟨by rw [bF (cC e fD)];exact e1,n1⟩
     obtain ⟨n1,n2⟩:=next TH
     exact wpAny_pure ⟨rfl,ds.length - (i+1),by omega,i+1,acc ++ [dy],Mf,rfl,hlt,⟨σ8,_,_,ws ++ [v10],TH.nJ,n1,n2,Vc,R0,fT,Pc,aM.mono ex _ _ (Pd.append (aM.one RY)),by simp;omega⟩,Va⟩
  ·have ei:i=ds.length:=by omega
   subst ei
   rw [abB (Zb _)] at q5
   obtain ⟨hg,q5⟩:=q5
   have hinv:=stay M5 H5 II r5.mem hg
   refine wpAny_bind (Co (T.done (AK X sc x ys (eF X.env.cells sc.names []) s3.heap.objs.size s3 (upd H s.heap.objs.size (.lst [])) fp) rfl rfl rfl hc ds.length [] s5 σ5 H5 (fun _ _=>False) I5 (RU f5) Nq (hJ.stop H5 hinv)) fun r6 s6 ⟨e6,I6⟩=>?_)
   subst e6
   refine wpAny_pure ?_
   obtain ⟨m,hm,_⟩:=id I6.loc
   have I7:Inv X pins σ H5 s6:=I3.NQ (s':=s6) (ch:=fp) I6.os I6.base I6.hok I6.bare fun b hb=>⟨(hf b hb).2.2.2.1,(hf b hb).2.1,(hf b hb).2.2.2.2.1,(hf b hb).2.2.2.2.2⟩
   refine fin _ _ s6 H5 I7 ⟨m,hm⟩ (I3.Gd (Zb _) I6.free) (Post.back fa ⟨.ref s.heap.objs.size,aE M5 s.heap.objs.size (.lst acc),fun b o n e=>?_,aK.mpr rfl,fun a o e=>?_,q5 _ Tt⟩)
   ·obtain ⟨e1,n1⟩:=II b o n e
    exact ⟨e1,by rw [bg (cC e fD)];exact n1⟩
   ·by_cases ha:a=s.heap.objs.size
    ·subst ha
     rw [ah] at e
     cases e
     exact ⟨ws,Tq,Tu⟩
    ·rw [bg ha] at e
     exact r5.mem a o e
 exact codeAny_compStart_list (loop _ rfl) (T.self X.A 0 _ _ _ Tp (loop _ rfl))
end
end L3
namespace L3
open PySem PySem.Spec PyProof.Rows L2
section
variable {X:Cx} {sc:Scope} {x:Str} {ys:List Str} {fs:List Nat} {elt iter:Expr} {px pos:Pos} {ifs:List Expr} {tt:pX} {te:dI} {ti:dI}
def TJ (Q:DK):List D→Mp→Prop:=fun zs M2=> ∀ p,M2 p=none→Q (.ref p) (aE M2 p (.lst zs))
def R4 (fs:List Nat) (ti:dI) (tt:pX) (te:dI):dI:=fun ρ M Q=>ti ρ M fun d M1=> ∃ a xs,d= .ref a∧M1 a=some (.lst xs)∧xs.length < sizeLine∧aU (tG (fun M=>M a=some (.lst xs)) tt te (rS fs ρ) (TJ Q) xs [] M1)
def Vd (X:Cx) (fs:List Nat) (tt:pX) (te:dI) (σ:St) (ρ:En) (M:Mp) (H:Hp) (Q:DK):It→Hp→Prop:=fun J H2=> ∃ M2 inv ds gd,Fr M H M2 H2∧Rep X.K H2 σ ρ M2∧EK X.K J inv ds∧ds.length < sizeLine∧(∀ M1 H1,Fr M2 H2 M1 H1→cP X.K H1 M1→gd M1→inv H1)∧tG gd tt te (rS fs ρ) (TJ Q) ds [] M2
theorem Jy {pins:List (Addr ×Obj)} {σ:St} {M:Mp} {H:Hp} {Q:DK} {E:Value→Shared→Prop}:∀ (C Dl:Addr) (s6:Shared) (H5:Hp),Inv X pins σ H5 s6→(∃ m,s6.heap.Ns C m)→nj X pins H5 C→Post X.K M H Q (.ref Dl) H5→
 compPost (model X.prog X.w) X.A E none (EP X pins σ (Post X.K M H Q)) (.ref Dl) C (.ok .next) s6:=fun C Dl s6 H5 I ⟨m,hm⟩ f P=>
 ⟨m,hm,fun h' sb=>⟨.ref Dl,H5,I.turned (t':=s6.toks) (fun b o hb e=>sb.extBut b o hb e) f.1 f.2.1 f.2.2.2.1 f.2.2.2.2.1 f.2.2.2.2.2,rfl,P⟩⟩
theorem Pe {use:Option (Value→Sem Unit)} {Qs:Value→Shared→Prop} {ps:Pos} (hc:X.calm=true) (hk:cU X.env.scope X.N sc x ys fs=true) (ht:∀ cl C s0 H0 ex,O8 (AK X sc x ys cl C s0 H0 ex) ifs tt) (he:∀ cl C s0 H0 ex,cK (AK X sc x ys cl C s0 H0 ex) elt te)
 (hs:∀ z,foldedSetIterable iter X.env z=pure z) {pins:List (Addr ×Obj)} {s:Shared} {σ:St} {H:Hp} {ρ:En} {M:Mp} {Q:DK} (I:Inv X pins σ H s)
 (fin:∀ (C Dl:Addr) (s6:Shared) (H5:Hp),Inv X pins σ H5 s6→(∃ m,s6.heap.Ns C m)→nj X pins H5 C→Post X.K M H Q (.ref Dl) H5→compPost (model X.prog X.w) X.A X.xe use Qs (.ref Dl) C (.ok .next) s6)
 (h:wpAny (model X.prog X.w) X.A (eval iter X.env) (fun v s1=>wpAny (model X.prog X.w) X.A (pyIter v) (Q5 X pins σ (.Name x px) (Vd X fs tt te σ ρ M H Q)) X.xe s1) X.xe s) :
 wpAny (model X.prog X.w) X.A (comprehension (.ListComp elt [⟨.Name x px,iter,ifs,0⟩] sc pos) sc X.env ps (newList []) false (eval iter X.env) use) Qs X.xe s:=by
 have ck:=uV.of hk
 refine wpAny_comprehension_free (use:=use) (cl:=eF X.env.cells sc.names []) rfl hs (Cn fun y hy z=>I.ok.has y.1 (.inl (ck.Qt y hy z))) ck.kind ck.names (dW h fun v s1 h1=>dW h1 fun itv s2 h2=>?_)
 obtain ⟨it,fp,tn,J,H2,e,I2,T,st2,f2,M2,inv,ds,gd,fr,r2,hJ,hz,stay,q⟩:=h2
 subst e
 exact Jw hc ck ht he fr fin I2 r2 T st2 f2 hJ hz stay q
structure R5 (X:Cx) (sc:Scope) (x:Str) (px:Pos) (ys:List Str) (fs:List Nat) (iter:Expr) (ifs:List Expr) (elt:Expr) (t:dI):Prop where
 run:∀ {use:Option (Value→Sem Unit)} {Qs:Value→Shared→Prop} {ps pos:Pos} {pins:List (Addr ×Obj)} {s:Shared} {σ:St} {H:Hp} {ρ:En} {M:Mp} {Q:DK},Inv X pins σ H s→Rep X.K H σ ρ M→t ρ M Q→
  (∀ (C Dl:Addr) (s6:Shared) (H5:Hp),Inv X pins σ H5 s6→(∃ m,s6.heap.Ns C m)→nj X pins H5 C→Post X.K M H Q (.ref Dl) H5→compPost (model X.prog X.w) X.A X.xe use Qs (.ref Dl) C (.ok .next) s6)→
  wpAny (model X.prog X.w) X.A (comprehension (.ListComp elt [⟨.Name x px,iter,ifs,0⟩] sc pos) sc X.env ps (newList []) false (eval iter X.env) use) Qs X.xe s
theorem Be {t:dI} (h:R5 X sc x px ys fs iter ifs elt t):cK X (.ListComp elt [⟨.Name x px,iter,ifs,0⟩] sc pos) t:=by
 constructor
 intro pins s σ H ρ M Q I r q
 rw [eval_ListComp]
 exact h.run I r q Jy
theorem GU {t:dI} {j:Nat} {y:Str} {py spos:Pos} (h:R5 X sc x px ys fs iter ifs elt t) (hN:X.N.Nodup) (hj:X.N[j]?=some y) (hy:Loc X.env.scope y)
 (hsw:swapsWith (.ListComp elt [⟨.Name x px,iter,ifs,0⟩] sc pos) (some (.Name y py)) spos.line X.env=pure true:=by rfl) (hf:X.fn y=true∨X.env.scope.names.lookup y=some .local:=by first | exact .inl rfl | exact .inr rfl) :
 AI X (.Assign [.Name y py] (.ListComp elt [⟨.Name x px,iter,ifs,0⟩] sc pos) spos) (KI j t):=by
 constructor
 intro pins s σ H ρ M D I r q
 rw [exec_Assign_Name_used _ _ _ _ hsw]
 refine wpAny_bind (wpAny_standAt (wpAny_bind ?_))
 show wpAny (model X.prog X.w) X.A (do { let _ ← comprehension (.ListComp elt [⟨.Name x px,iter,ifs,0⟩] sc pos) sc X.env _ (newList []) false (eval iter X.env) (some (assign (.Name y py) X.env)) }) _ _ s
 refine wpAny_bind (dW (h.run (use:=some (assign (.Name y py) X.env)) (Qs:=fun _ s'=>SP X pins (ends X.K M H D) .next s') I r q fun C Dl s6 H5 I6 hC f P=>?_) fun _ s' hq=>wpAny_pure (wpAny_pure hq))
 obtain ⟨m,o,es,ep,ho,hd,hrest⟩:=hC
 obtain ⟨d,M5,II,dd,Ve,q5⟩:=P
 have Vf:Inv X (pins ++ [(C,o)]) σ H5 s6:=I6.um fun p hp=>(Zq.mp hp).elim (fun z=>I6.pin p (Zy _ z)) fun z=>by
  have e:=Y8.mp z
  subst e
  exact ⟨ho,f.1,f.2.1,f.2.2.1,fun v z=>by rw [hd] at z;cases z⟩
 refine dW ((bW (i:=j) (x:=y) (pos:=py) hN hj hy hf).run _ s6 σ H5 ρ M5 (.ref Dl) d (.ref Dl) (D.nx) Vf (r.go II Ve) rfl dd q5) fun _ s7 ⟨σ7,H7,I7,ρ7,M7,Vg,r7,q7⟩=>?_
 have pin:=I7.pin (C,o) (Zy _ (Zy _ (Y8.mpr rfl)))
 refine ⟨m,⟨o,es,ep,pin.1,hd,hrest⟩,fun h' sb=>?_⟩
 have I8:Inv X pins σ7 H7 s7:=I7.um fun p hp=>I7.pin p (Zy _ (Zk _ hp))
 exact ⟨σ7,H7,I8.turned (t':=s7.toks) (fun b o hb e=>sb.extBut b o hb e) pin.2.1 f.2.1 f.2.2.2.1 f.2.2.2.2.1 f.2.2.2.2.2,ρ7,M7,II.trans Vg,r7,q7⟩
theorem kK (hc:X.calm=true) (hk:cU X.env.scope X.N sc x ys fs=true) (hi:cK X iter ti) (ht:∀ cl C s0 H0 ex,O8 (AK X sc x ys cl C s0 H0 ex) ifs tt) (he:∀ cl C s0 H0 ex,cK (AK X sc x ys cl C s0 H0 ex) elt te)
 (hs:∀ z,foldedSetIterable iter X.env z=pure z:=by intro _;rfl):R5 X sc x px ys fs iter ifs elt (R4 fs ti tt te):=by
 constructor
 intro use Qs ps pos pins s σ H ρ M Q I r h fin
 refine Pe (ρ:=ρ) hc hk ht he hs I fin (Dk hi.dn pins s σ H _ I (eB r h fun v H' d M' f dv r' ⟨a,xs,e1,hM,hz,q⟩=>?_))
 subst e1
 obtain rfl:=aK.mp dv
 obtain ⟨zs,ha,hy⟩:=r'.mem.lst hM
 exact ⟨a,rfl,⟨zs,iD.of ha⟩,M',_,xs,_,f,r',GD,hz,fun M1 H1 f1 pY g1=>pY.lst g1,q.out⟩
theorem c9 {gd:Mp→Prop} {fr:En} {Q:List D→Mp→Prop} {M:Mp} (Pv:Nat→List D→Mp→Prop):∀ (ds:List D),(∀ (i:Nat) (d:D) (acc:List D) (M:Mp) (N:List D→Mp→Prop),ds[i]?=some d→Pv i acc M→(∀ acc' M',Pv (i+1) acc' M'→N acc' M')→
 gd M∧tt (some d :: fr) M fun b M1=>if b=true then te (some d :: fr) M1 fun y M2=>N (acc ++ [y]) M2 else N acc M1)→
 (∀ acc M,Pv ds.length acc M→gd M∧Q acc M)→Pv 0 [] M→tG gd tt te fr Q ds [] M:=by
 intro ds hstep hend h0
 have key:∀ (zs:List D) (i:Nat) (acc:List D) (M:Mp),ds.drop i=zs→Pv i acc M→i≤ds.length→tG gd tt te fr Q zs acc M:=by
  intro zs
  induction zs with
  | nil=>
    intro i acc M e p hi
    have:ds.length≤i:=by
     have:=congrArg List.length e
     rw [aah] at this
     simp at this
     omega
    obtain rfl:i=ds.length:=by omega
    exact hend acc M p
  | cons z zs ih=>
    intro i acc M e p hi
    have hx:ds[i]?=some z:=by
     have:=congrArg (fun l=>l[0]?) e
     simpa using this
    have hlt:i < ds.length:=(Ze.mp hx).1
    refine hstep i z acc M _ hx p fun acc' M' p'=>ih (i+1) acc' M' ?_ p' hlt
    rw [← ab8,e]
    rfl
 exact key ds 0 [] M rfl h0 (Z3 _)
end
end L3
namespace L3
open PySem PySem.Spec PyProof.Rows L2
structure Qv (outer:Scope) (N:List Str) (sc:Scope) (x:Str) (ys:List Str) (fs:List Nat):Prop where
 kind:sc.kind= .function
 O7:outer.kind= .function
 names:∀ y∈sc.names,y.2= .local→sc.names.lookup y.1=some .local
 Qt:∀ y∈sc.names,y.2= .free→outer.names.lookup y.1=some .cell
 loc:sc.names.lookup x=some .cell
 cells:sc.names.filter (fun y=>y.2 == .cell)= [(x,.cell)]
 len:ys.length=fs.length
 at':∀ (k:Nat) y,ys[k]?=some y→∃ i,fs[k]?=some i∧N[i]?=some y∧sc.names.lookup y=some .free
 nd:(x :: ys).Nodup
section
variable {X:Cx} {sc:Scope} {x:Str} {ys:List Str} {fs:List Nat}
end
section
variable {X:Cx} {sc:Scope} {x:Str} {ys:List Str} {fs:List Nat} {elt iter:Expr} {px pos:Pos} {ifs:List Expr} {tt:pX} {te:dI} {ti:dI}
end
end L3
namespace L3
open PySem PySem.Spec PyProof.Rows L2
section
variable {X:Cx}
theorem uW {ds es:List D} (h:ds.length≠es.length):dj ds es=false:=by
 rw [gP,beq_eq_false_iff_ne.mpr h,abK]
abbrev Pg:=En→Mp→(Option Int→Mp→Prop)→Prop
structure Qw (X:Cx) (e:Option Expr) (t:Pg):Prop where
 dn:∃ t2:TO,PO X e t2∧∀ σ H ρ M Q Q',Rep X.K H σ ρ M→t ρ M Q→(∀ o H' M',Fr M H M' H'→Rep X.K H' σ ρ M'→Q o M'→Q' o H')→t2 σ H Q'
def R6:Pg:=fun _ M Q=>Q none M
def Mg (t:dI):Pg:=fun ρ M Q=>t ρ M fun d M1=> ∃ i,d= .int i∧Q (some i) M1
theorem wU:Qw X none R6:=⟨Dt,IP,fun σ H ρ M Q Q' r q k=>k none H M (.refl _ _) r q⟩
theorem jL {e:Expr} {t:dI} (h:cK X e t):Qw X (some e) (Mg t):=⟨Kz (L3.dn X.K t),IQ h.dn,fun σ H ρ M Q Q' r q k=>eB r q fun v H' d M' f dv r' ⟨i,e1,q⟩=>by
 subst e1
 obtain rfl:=aW.mp dv
 exact ⟨i,rfl,k (some i) H' M' f r' q⟩⟩
def cutD (xs:List D) (lo hi:Option Int):List D:=(xs.drop (HT.sV xs.length 0 lo)).take (HT.sV xs.length xs.length hi - HT.sV xs.length 0 lo)
theorem aM.drop {K:PySem.W.Frag} {H:Hp}:∀ {ds:List D} {xs:List V} (n:Nat),aM K H ds xs→aM K H (ds.drop n) (xs.drop n)
 | ds,xs,0,h=>h
 | [],xs,n+1,h=>by rw [aV.mp h];exact aV.mpr rfl
 | d :: ds,xs,n+1,h=>by
   obtain ⟨v,vs,rfl,_,h2⟩:=aQ.mp h
   exact aM.drop n h2
theorem aM.take {K:PySem.W.Frag} {H:Hp}:∀ {ds:List D} {xs:List V} (n:Nat),aM K H ds xs→aM K H (ds.take n) (xs.take n)
 | ds,xs,0,h=>aV.mpr rfl
 | [],xs,n+1,h=>by rw [aV.mp h];exact aV.mpr rfl
 | d :: ds,xs,n+1,h=>by
   obtain ⟨v,vs,rfl,h1,h2⟩:=aQ.mp h
   exact aQ.mpr ⟨v,vs.take n,rfl,h1,aM.take n h2⟩
def Ph:R3:=fun d e M Q=> ∃ a b xs ys,d= .ref a∧e= .ref b∧M a=some (.lst xs)∧M b=some (.lst ys)∧xs.length+ys.length≤sizeLine∧∀ p,M p=none→Q (.ref p) (aE M p (.lst (xs ++ ys)))
theorem yx:qH X (binaryOp .Add) Ph:=Nu LL fun H M x y d e Q rm dx dy ⟨a,b,xs,ys,e1,e2,ha,hb,hz,q⟩=>by
 subst e1;subst e2
 obtain rfl:=aK.mp dx
 obtain rfl:=aK.mp dy
 obtain ⟨zs,h1,h2⟩:=rm.lst ha
 obtain ⟨ws,h3,h4⟩:=rm.lst hb
 exact ⟨a,b,zs,ws,rfl,rfl,h1,h3,by rw [← h2.length,← h4.length];exact hz,fun p hp=>⟨.ref p,aE M p (.lst (xs ++ ys)),Fr.new hp fun _ hb=>bg hb,aK.mpr rfl,rm.newL hp (h2.append h4),q p (rm.free hp)⟩⟩
end
end L3
namespace L3
open PySem PySem.Spec PyProof.Rows L2
section
variable {X:Cx}
def GV (M:Mp) (d:D) (xs:List D):Prop:=d= .ze xs∨∃ a,d= .ref a∧M a=some (.lst xs)
theorem GV.of {M:Mp} {a:Addr} {xs:List D} (h:M a=some (.lst xs)):GV M (.ref a) xs:= .inr ⟨a,rfl,h⟩
theorem GV.sq {K:PySem.W.Frag} {H:Hp} {M:Mp} {d:D} {xs:List D} {x:V} (h:GV M d xs) (rm:cP K H M) (dx:Dat K H d x):∃ a zs,x= .ref a∧iD K H a zs∧aM K H xs zs:=by
 rcases h with rfl | ⟨a,rfl,hM⟩
 ·obtain ⟨a,zs,rfl,h1,h2⟩:=qJ.mp dx
  exact ⟨a,zs,rfl,h1.sq,h2⟩
 ·obtain rfl:=aK.mp dx
  obtain ⟨zs,h1,h2⟩:=rm.lst hM
  exact ⟨a,zs,rfl,iD.of h1,h2⟩
def Pj:R3:=fun d e M Q=> ∃ xs ys,GV M d xs∧GV M e ys∧xs.all (plain 9)=true∧ys.all (plain 9)=true∧Q (.bl (dj xs ys)) M
def Pk:R3:=fun d e M Q=> ∃ xs ys,GV M d xs∧GV M e ys∧xs.all (plain 9)=true∧ys.all (plain 9)=true∧Q (.bl (!dj xs ys)) M
theorem Mh (hu:X.A.units+64 < cLine):qH X (compareOp .Eq) Pj:=by
 constructor
 intro pins s σ H M x y d e v u Q I rm rx ry dx dy ⟨xs,ys,ha,hb,pa,pb,q⟩
 obtain ⟨a,zs,rfl,h1,h2⟩:=ha.sq rm dx
 obtain ⟨b,ws,rfl,h3,h4⟩:=hb.sq rm dy
 obtain rfl:v=Value.ref a:=rx
 obtain rfl:u=Value.ref b:=ry
 obtain ⟨its,rv,pl,hz⟩:=I.list h1
 obtain ⟨its2,rL,FN,hz2⟩:=I.list h3
 have l1:=h2.length.trans rv.length
 have l2:=h4.length.trans rL.length
 have fin:∀ k,k=dj xs ys→EP X pins σ (Post X.K M H Q) (.bool k) s:=fun k e=>⟨.bl k,H,I,rfl,aH rm (bB.mpr rfl) (by rw [e];exact q)⟩
 by_cases hs:its.toArray.size=its2.toArray.size
 ·refine SeqAt.RcAt.lists (A:=X.A) (s:=s) (e:=fun j=>eg (xs.getD j .bJ) (ys.getD j .bJ)) pl.isList FN.isList hs (by omega) (nS I.hok (n:=9) (by show X.A.units+1+9 < cLine;omega) pa pb h2 h4 rv rL) _ _ _ _ (fin _ ?_)
  simp only [Za] at hs
  rw [gP,Za,← l1]
  have e:ys.length=xs.length:=by omega
  rw [e,abu,beq_self_eq_true,abR]
 ·refine SeqAt.RcAt.lists_lengths (A:=X.A) (s:=s) pl.isList FN.isList (by simpa using hs) (by omega) _ _ _ _ (fin _ ?_)
  simp only [Za] at hs
  exact (uW (by omega)).symm
theorem Cp (hu:X.A.units+64 < cLine):qH X (compareOp .NotEq) Pk:=by
 constructor
 intro pins s σ H M x y d e v u Q I rm rx ry dx dy ⟨xs,ys,ha,hb,pa,pb,q⟩
 obtain ⟨a,zs,rfl,h1,h2⟩:=ha.sq rm dx
 obtain ⟨b,ws,rfl,h3,h4⟩:=hb.sq rm dy
 obtain rfl:v=Value.ref a:=rx
 obtain rfl:u=Value.ref b:=ry
 obtain ⟨its,rv,pl,hz⟩:=I.list h1
 obtain ⟨its2,rL,FN,hz2⟩:=I.list h3
 have l1:=h2.length.trans rv.length
 have l2:=h4.length.trans rL.length
 have fin:∀ k,k=(!dj xs ys)→EP X pins σ (Post X.K M H Q) (.bool k) s:=fun k e=>⟨.bl k,H,I,rfl,aH rm (bB.mpr rfl) (by rw [e];exact q)⟩
 by_cases hs:its.toArray.size=its2.toArray.size
 ·refine SeqAt.RcNeAt.lists (A:=X.A) (s:=s) (e:=fun j=>eg (xs.getD j .bJ) (ys.getD j .bJ)) pl.isList FN.isList hs (by omega) (nS I.hok (n:=9) (by show X.A.units+1+9 < cLine;omega) pa pb h2 h4 rv rL) _ _ _ _ (fin _ ?_)
  simp only [Za] at hs
  rw [gP,Za,← l1]
  have e:ys.length=xs.length:=by omega
  rw [e,abu,beq_self_eq_true,abR]
 ·refine SeqAt.RcNeAt.lists_lengths (A:=X.A) (s:=s) pl.isList FN.isList (by simpa using hs) (by omega) _ _ _ _ (fin _ ?_)
  simp only [Za] at hs
  rw [uW (by omega)]
  rfl
def Cq:D→Bool | .bJ=>true | _=>false
def R7:R3:=fun d e M Q=>e= .bJ∧Q (.bl (Cq d)) M
def Pn:R3:=fun d e M Q=>e= .bJ∧Q (.bl (!Cq d)) M
theorem yy {K:PySem.W.Frag} {H:Hp} {d:D} {x:V} (h:Dat K H d x):decide (x= .bJ)=Cq d:=by
 cases d with
 | bJ=>obtain rfl:=cE.mp h;rfl
 | bl b=>obtain rfl:=bB.mp h;rfl
 | int i=>obtain rfl:=aW.mp h;rfl
 | str z=>obtain rfl:=gF.mp h;rfl
 | ty n=>obtain rfl:=Ce.mp h;rfl
 | ref a=>obtain rfl:=aK.mp h;rfl
 | tup ds=>obtain ⟨a,xs,rfl,_⟩:=bH.mp h;rfl
 | ze ds=>obtain ⟨a,xs,rfl,_⟩:=qJ.mp h;rfl
 | KC n=>obtain ⟨a,o,u,rfl,_⟩:=DA.mp h;rfl
 | exc C nm ds=>obtain ⟨a,o,u,xs,rfl,_⟩:=IY.mp h;rfl
theorem jv:qH X (compareOp .Is) R7:=Nu Lz fun H M x y d e Q rm dx dy ⟨e1,q⟩=>by
 subst e1
 exact ⟨cE.mp dy,by rw [yy dx];exact aH rm (bB.mpr rfl) q⟩
theorem qm:qH X (compareOp .IsNot) Pn:=Nu IK fun H M x y d e Q rm dx dy ⟨e1,q⟩=>by
 subst e1
 exact ⟨cE.mp dy,by rw [yy dx];exact aH rm (bB.mpr rfl) q⟩
def Mi:List D→Mp→DK→Prop:=fun ds M Q=> ∃ d xs,ds= [d]∧GV M d xs∧∀ p,M p=none→Q (.ref p) (aE M p (.lst xs))
theorem uX:Call3 X (.type "list") Mi:=GB zd fun H M xs ds Q rm dx ⟨d,ys,e1,hs,q⟩=>by
 subst e1
 obtain ⟨v,rfl,hv⟩:=nU dx
 obtain ⟨a,zs,rfl,h1,h2⟩:=hs.sq rm hv
 exact ⟨a,zs,rfl,.inl h1,fun p hp=>⟨.ref p,aE M p (.lst ys),Fr.new hp fun _ hb=>bg hb,aK.mpr rfl,rm.newL hp h2,q p (rm.free hp)⟩⟩
def R8 (te:dI) (tl th:Pg):dI:=fun ρ M Q=>te ρ M fun d M1=>tl ρ M1 fun lo M2=>th ρ M2 fun hi M3=> ∃ xs,GV M3 d xs∧∀ p,M3 p=none→Q (.ref p) (aE M3 p (.lst (cutD xs lo hi)))
theorem ff {e:Expr} {lo hi:Option Expr} {te:dI} {tl th:Pg} {p2 pos:Pos} (he:cK X e te) (hl:Qw X lo tl) (hh:Qw X hi th):cK X (.Subscript e (.Slice lo hi none p2) pos) (R8 te tl th):=by
 obtain ⟨Xm,pl,gl⟩:=hl.dn
 obtain ⟨Xn,ph,gh⟩:=hh.dn
 refine up (Gp IV he.dn pl ph) fun σ H ρ M Q r q=>eB r q fun v H' d M' f dv r' q1=>gl _ _ _ _ _ _ r' q1 fun lo H2 M2 f2 r2 q2=>gh _ _ _ _ _ _ r2 q2 fun hi H3 M3 f3 r3 ⟨xs,hL,q3⟩=>?_
 obtain ⟨a,zs,rfl,hz,hd⟩:=hL.sq r3.mem (Dat.mono ((f2.trans f3).ext r'.mem) _ _ dv)
 have ec:cutD xs lo hi=(xs.drop (HT.sV zs.length 0 lo)).take (HT.sV zs.length zs.length hi - HT.sV zs.length 0 lo):=by unfold cutD;rw [hd.length]
 refine ⟨a,zs,rfl,hz,fun p hp=>⟨.ref p,aE M3 p (.lst (cutD xs lo hi)),((f.trans f2).trans f3).trans (Fr.new hp fun _ hb=>bg hb),aK.mpr rfl,r3.mem.newL hp ?_,q3 p (r3.mem.free hp)⟩⟩
 rw [ec]
 exact aM.take _ (aM.drop _ hd)
end
end L3
namespace L3
open PySem PySem.Spec PyProof.Rows L2
section
variable {X:Cx}
def Mj:R3:=fun d e M Q=> ∃ a b a1 a2 b1 b2 x1 x2 y1 y2,d= .ref a∧e= .ref b∧M a=some (.lst [.ref a1,.ref a2])∧M b=some (.lst [.ref b1,.ref b2])∧M a1=some (.lst x1)∧M a2=some (.lst x2)∧M b1=some (.lst y1)∧M b2=some (.lst y2)∧
 a1≠b1∧a2≠b2∧x1.all (plain 9)=true∧x2.all (plain 9)=true∧y1.all (plain 9)=true∧y2.all (plain 9)=true∧Q (.bl (dj x1 y1 && dj x2 y2)) M
theorem lP {pins:List (Addr ×Obj)} {σ:St} {H:Hp} {s:Shared} {M:Mp} {A:Around} (I:Inv X pins σ H s) (rm:cP X.K H M) (hu:A.units+12 < cLine) {a b:Addr} {xs ys:List D} (hne:a≠b) (ha:M a=some (.lst xs)) (hb:M b=some (.lst ys)) (pa:xs.all (plain 9)=true) (pb:ys.all (plain 9)=true) :
 SeqAt.EqAt A s (.ref a) (.ref b) (dj xs ys):=by
 obtain ⟨zs,h1,h2⟩:=rm.lst ha
 obtain ⟨ws,h3,h4⟩:=rm.lst hb
 obtain ⟨its,rv,pl,hz⟩:=I.list (iD.of (K:=X.K) h1)
 obtain ⟨its2,rL,FN,hz2⟩:=I.list (iD.of (K:=X.K) h3)
 have l1:=h2.length.trans rv.length
 have l2:=h4.length.trans rL.length
 refine SeqAt.EqAt.of_refs hne ?_
 by_cases hs:its.toArray.size=its2.toArray.size
 ·have key:=SeqAt.RcAt.lists (A:=A) (s:=s) (e:=fun j=>eg (xs.getD j .bJ) (ys.getD j .bJ)) pl.isList FN.isList hs (by omega) (nS I.hok (n:=9) (by show A.units+1+9 < cLine;omega) pa pb h2 h4 rv rL)
  simp only [Za] at hs
  have e:ys.length=xs.length:=by omega
  rw [gP,e,abu,beq_self_eq_true,abR]
  rw [Za,← l1] at key
  exact key
 ·have key:=SeqAt.RcAt.lists_lengths (A:=A) (s:=s) pl.isList FN.isList (by simpa using hs) (by omega)
  simp only [Za] at hs
  rw [uW (by omega)]
  exact key
theorem Jz (hu:X.A.units+64 < cLine):qH X (compareOp .Eq) Mj:=by
 constructor
 intro pins s σ H M x y d e v u Q I rm rx ry dx dy hx
 obtain ⟨a,b,a1,a2,b1,b2,x1,x2,y1,y2,e1,e2,ha,hb,h1,h2,h3,h4,n1,n2,p1,p2,p3,p4,q⟩:=hx
 subst e1;subst e2
 obtain rfl:=aK.mp dx
 obtain rfl:=aK.mp dy
 obtain rfl:v=Value.ref a:=rx
 obtain rfl:u=Value.ref b:=ry
 obtain ⟨zs,g1,g2⟩:=rm.lst ha
 obtain ⟨ws,g3,g4⟩:=rm.lst hb
 obtain ⟨z1,z2,rfl,k1,k2⟩:=qN g2
 obtain ⟨w1,w2,rfl,k3,k4⟩:=qN g4
 obtain rfl:=aK.mp k1
 obtain rfl:=aK.mp k2
 obtain rfl:=aK.mp k3
 obtain rfl:=aK.mp k4
 obtain ⟨its,rv,pl,hz⟩:=I.list (iD.of (K:=X.K) g1)
 obtain ⟨its2,rL,FN,hz2⟩:=I.list (iD.of (K:=X.K) g3)
 obtain ⟨u1,u2,rfl,r1,r2⟩:=vals2 rv
 obtain ⟨v1,v2,rfl,r3,r4⟩:=vals2 rL
 obtain rfl:u1=Value.ref a1:=r1
 obtain rfl:u2=Value.ref a2:=r2
 obtain rfl:v1=Value.ref b1:=r3
 obtain rfl:v2=Value.ref b2:=r4
 have c1:=lP (A:=X.A.in1) I rm (by show X.A.units+1+12 < cLine;omega) n1 h1 h3 p1 p3
 have c2:=lP (A:=X.A.in1) I rm (by show X.A.units+1+12 < cLine;omega) n2 h2 h4 p2 p4
 refine SeqAt.RcAt.lists (A:=X.A) (s:=s) (e:=fun j=>if j=0 then dj x1 y1 else dj x2 y2) pl.isList FN.isList rfl (by omega) ?_ _ _ _ _ ⟨.bl _,H,I,rfl,aH rm (bB.mpr rfl) ?_⟩
 ·intro j hj1 hj2
  match j,hj1,hj2 with
  | 0,_,_=>exact c1
  | 1,_,_=>exact c2
 ·have e:(List.range #[Value.ref a1,Value.ref a2].size).all (fun j=>if j=0 then dj x1 y1 else dj x2 y2)=(dj x1 y1 && dj x2 y2):=by
   simp [List.range,List.range.loop]
  rw [e]
  exact q
end
end L3
namespace L3
open PySem PySem.Spec PyProof.Rows L2
theorem lQ {ps:List Pl} {i:Nat} {x:D} (h:(ps.map Pl.d)[i]?=some x):∃ p,ps[i]?=some p∧x=p.d:=by
 rw [ZI] at h
 cases e:ps[i]? with
 | none=>rw [e] at h;cases h
 | some p=>rw [e] at h;exact ⟨p,rfl,(Option.some.inj h).symm⟩
theorem Cr (ns:List Int):(ns.map D.int).all (plain 9)=true:=by
 rw [Zw]
 intro d hd
 obtain ⟨i,_,rfl⟩:=ZA.mp hd
 rfl
theorem jM {ns:List Int} {k:Int} (h0:0≤k) (h1:k < ns.length):∃ z:Int,z∈ns∧uF (ns.map D.int) k=some (.int z):=by
 obtain ⟨j,rfl⟩:∃ j:Nat,k=(j:Int):=⟨k.toNat,by omega⟩
 have hlt:j < ns.length:=by omega
 refine ⟨ns[j],Z4 hlt,bU ?_⟩
 rw [ZI,Y7 hlt]
 rfl
theorem qo {ns:List Int} {n:Nat} {z:Int} (h:ns.all (fun z=>decide (z.natAbs < 2 ^ n))=true) (m:z∈ns):Sm n z:=of_decide_eq_true (Zw.mp h z m)
theorem qU {q:Pl} {ps:List Pl}:inD q.d (ps.map Pl.d)=decide (q∈ps):=by
 unfold inD
 rw [ZW,ab1,decide_eq_true_eq]
 constructor
 ·rintro ⟨x,hx,e⟩
  obtain ⟨p,hp,rfl⟩:=ZA.mp hx
  rw [cY] at e
  rw [← of_decide_eq_true e];exact hp
 ·intro hq
  exact ⟨q.d,ZA.mpr ⟨q,hq,rfl⟩,by rw [cY];exact decide_eq_true rfl⟩
theorem iJ {ts:List Pl} {f:Pl→Bool} {i:Nat} {t:Pl} (h:ts[i]?=some t):(ts.take (i+1)).filter f=(ts.take i).filter f ++ (if f t=true then [t] else []):=by
 rw [Z7,h,abT]
 congr 1
 show List.filter f [t]=_
 rw [aaj]
 rfl
theorem uY (ds:List D):dj ds []=ds.isEmpty:=by
 cases ds <;> simp [dj]
theorem pL {ds:List D} (h:ds.all (plain 9)=true):dj ds ds=true:=by
 have:=kI 10 (.tup ds) h
 rwa [lG] at this
theorem uZ {α:Type} (g:α→D) (xs:List α) (n:Nat) (h:n≤xs.length):cutD (xs.map g) (some (n:Int)) none=(xs.drop n).map g:=by
 unfold cutD
 rw [HT.Ds,HT.AU]
 rw [Y4,ab5 h,List.map_drop]
 exact abA (by simp)
end L3
namespace Att
open PySem PySem.W PySem.Calls PyProof.Rows
def DN (z:Int):Prop:=Builtin.Int.intBits z≤1048576
theorem u5 {N:Nat}:∀ {ns:List Int},WData.weightAll (ns.map WData.int)≤N→∀ z∈ns,Builtin.Int.intBits z≤N
 | [],_,z,m=>by cases m
 | n :: ns,h,z,m=>by
   have e:WData.weightAll ((n :: ns).map WData.int)=Builtin.Int.intBits n+1+WData.weightAll (ns.map WData.int):=by
    rw [ZK]
    simp only [WData.weightAll,WData.weight,Builtin.Int.intBits]
   rw [e] at h
   rcases Y6.mp m with rfl | m
   ·omega
   ·exact u5 (by omega) z m
theorem Ml {ns:List Int} (h:WData.layableAll [WData.list (ns.map WData.int)]=true):∀ z∈ns,DN z:=by
 have h:WData.layable (WData.list (ns.map WData.int))=true:=by simpa [WData.layableAll] using h
 unfold WData.layable at h
 have h:=of_decide_eq_true (aa8.mp h).2
 have e:WData.weight (WData.list (ns.map WData.int))=WData.weightAll (ns.map WData.int):=by simp only [WData.weight]
 rw [e] at h
 exact fun z m=>u5 h z m
theorem zl {l:OpenLaw} {n:Nat} {q:Program} {loose:List Str} {XP:(Str→Option Value)→Heap→Prop} {YP:World→Heap→Prop} {d:DefRec}
 (hn:l.most=some n) (hdf:d.params.defaults= [])
 (call:∀ (w:World) (s₀ s₁:Shared) (mg mb:Str→Option Value) (fa:Addr) (o:Obj) (pm cd doc:Value) (a:Addr) (vs:List Value) (ns:List Int),
  Ground q loose [] XP w s₀ mg mb s₁.heap→YP w s₁.heap→
  s₁.heap.get? fa=some o→o.data= .func (docDef d.name d.params d.body d.scope pm cd doc)→s₁.heap.CodeRec cd d.name→mg d.name=some (.ref fa)→
  s₁.heap.get? a=some { cls:= .type "list",data:= .seq vs.toArray }→IntsAre vs ns→ns.length≤n→(∀ z∈ns,DN z)→s₁.gens= #[]→
  codeAny (model l.prog w) callerA (.call (.ref fa) ⟨[.ref a],[]⟩) (fun r s'=>r= .ok (.ret (.bool true))∧OldK s₁.heap s'.heap∧s'.os=s₁.os∧AllBare s'.gens) s₁) :
 WalkO q loose XP YP l.row.toRowW d [] (fun f vs=>PySem.call f vs):=by
 intro w s₀ s₁ mg mb G Y fa o pm cd doc dV kV ho hd hcd hD hmg hg args vals as hpre hlay hrd hwl hlo
 obtain rfl:dV= .none:=Dflts.none hD hdf
 obtain rfl:kV= .none:=Dflts.noKw hD
 obtain ⟨a,vs,ns,rfl,rfl,hobj,hints,hlen⟩:=EH hn hpre hwl
 refine enter_call (codeAny_mono (call w s₀ s₁ mg mb fa o pm cd doc a vs ns G Y ho (fd_plain hd) hcd hmg hobj hints hlen (Ml hlay) hg) fun r s' hq=>?_)
 obtain ⟨rfl,h2,h3,h4⟩:=hq
 exact ⟨.inl ⟨.bool true,.bool true,[],rfl,fun _=>rfl,.bool true,EI l _,fun _=>⟨List.Pairwise.nil,fun _ hm=>(nomatch hm)⟩⟩,h2,h3,h4⟩
end Att
namespace L2
open PySem PySem.Spec PyProof.Rows
end L2
namespace L3
open PySem PySem.Spec PyProof.Rows L2 Att
def GW:uq:=fun ds Q=> ∃ ns:List Int,ds= [.ze (ns.map D.int)]∧ns.length≤63∧(∀ z∈ns,DN z)∧Q (.bl true)
theorem JA {K:PySem.W.Frag} {H:Hp} {a:Addr} {ns:List Int} {E:XK} (hl:ns.length≤63) (hb:∀ z∈ns,DN z) (hO:IX H) (hS:iD K H a (ns.map V.int)):tT K GW [.ref a] H (fun v _=>v= .bl true) E:=by
 have hz:Fz K H a (ns.map V.int):=by
  rcases hS with (h | ⟨o,h⟩) | h
  ·rcases hO a with z | ⟨o,xs,z⟩
   ·rw [z] at h;cases h
   ·rw [z] at h;cases h
  ·exact .inl ⟨o,h⟩
  ·exact .inr h
 exact ⟨[.ze (ns.map D.int)],fun d=>d= .bl true,aM.one (qJ.mpr ⟨a,_,rfl,hz,yo ns⟩),⟨ns,rfl,hl,hb,rfl⟩,fun d v H' q dv _=>by subst q;exact bB.mp dv⟩
def Mm (i j:Int):Prop:=MulOk i j∨Ls i j∨(DN i∧∃ n,Sm n j∧n≤1000)
theorem Mm.ok {i j:Int} (h:Mm i j):IntMulOk i j:=by
 rcases h with h | h | ⟨h,n,h1,h2⟩
 ·exact h.ok
 ·exact h.ok
 ·have:=qL h1
  exact IntMulOk.of_bits (aae h (by decide)) (aae this (by omega))
section
variable {X:Cx}
theorem jN:qH X (binaryOp .Mult) (yj Mm fun i j=>i*j):=AZ (N5 fun _ _ _ _ _ _ _ hc q=>mul_int q hc.ok)
end
end L3
namespace L3
open PySem PySem.Spec PyProof.Rows L2
def dc:List Pl→List Pl→Bool
 | [],[]=>false
 | [],_ :: _=>true
 | _ :: _,[]=>false
 | p :: ps,q :: qs=>if p=q then dc ps qs else decide (aL p q)
theorem oh:∀ ps,dc ps ps=false
 | []=>rfl
 | p :: ps=>by unfold dc;rw [if_pos rfl];exact oh ps
theorem u6:∀ ps qs,dc ps qs=true∨ps=qs∨dc qs ps=true
 | [],[]=> .inr (.inl rfl)
 | [],_ :: _=> .inl rfl
 | _ :: _,[]=> .inr (.inr rfl)
 | p :: ps,q :: qs=>by
   unfold dc
   by_cases e:p=q
   ·subst e
    rw [if_pos rfl,if_pos rfl]
    rcases u6 ps qs with h | h | h
    ·exact .inl h
    ·exact .inr (.inl (by rw [h]))
    ·exact .inr (.inr h)
   ·rw [if_neg e,if_neg (Ne.symm e)]
    rcases g9 e with h | h
    ·exact .inl (decide_eq_true h)
    ·exact .inr (.inr (decide_eq_true h))
theorem lR:∀ ps qs rs,dc ps qs=true→dc qs rs=true→dc ps rs=true
 | [],[],_,h,_=>by cases h
 | [],_ :: _,[],_,h=>by cases h
 | [],_ :: _,_ :: _,_,_=>rfl
 | _ :: _,[],_,h,_=>by cases h
 | _ :: _,_ :: _,[],_,h=>by cases h
 | p :: ps,q :: qs,r :: rs,h1,h2=>by
   unfold dc at *
   by_cases e1:p=q
   ·subst e1
    rw [if_pos rfl] at h1
    by_cases e2:p=r
    ·rw [if_pos e2] at h2 ⊢;exact lR ps qs rs h1 h2
    ·rw [if_neg e2] at h2 ⊢;exact h2
   ·rw [if_neg e1] at h1
    have b1:=of_decide_eq_true h1
    by_cases e2:q=r
    ·subst e2;rw [if_neg e1];exact h1
    ·rw [if_neg e2] at h2
     have b3:=aZ b1 (of_decide_eq_true h2)
     rw [if_neg (lJ b3)]
     exact decide_eq_true b3
def uv (n:Nat) (h:Heap) (v:Value) (ps:List Pl):Prop:=ps.length=n∧∃ (a:Addr) (o:Obj) (its:List Value) (m:Nat),v= .ref a∧h.get? a=some o∧o.cls= .type "tuple"∧o.data= .seq its.toArray m∧dF h its ps
theorem dF.grow {h h':Heap} (g:dU h h'):∀ {us:List Value} {ps:List Pl},dF h us ps→dF h' us ps
 | _,_,.nil=> .nil
 | _,_,.cons a r=> .cons (a.grow g) (dF.grow g r)
theorem uv.grow {n:Nat} {h h':Heap} {v:Value} {ps:List Pl} (a:uv n h v ps) (g:dU h h'):uv n h' v ps:=by
 obtain ⟨hl,b,o,its,m,h1,h2,h3,h4,h5⟩:=a
 exact ⟨hl,b,o,its,m,h1,g _ _ h2,h3,h4,h5.grow g⟩
theorem uv.inj {n:Nat} {h:Heap} {v:Value} {ps qs:List Pl} (a:uv n h v ps) (b:uv n h v qs):ps=qs:=by
 obtain ⟨_,a1,o,its,m,rfl,h2,h3,h4,h5⟩:=a
 obtain ⟨_,a2,o',its',m',e,k2,k3,k4,k5⟩:=b
 injection e with e
 subst e
 rw [h2] at k2
 injection k2 with k2
 subst k2
 rw [h4] at k4
 injection k4 with k4 _
 have k4:its=its':=by simpa using k4
 subst k4
 rw [← h5.keys,← k5.keys]
open Classical in
noncomputable def FO (n:Nat) (h:Heap):KeyKind where
 α:=List Pl
 blt p q:=dc p q
 irrefl p:=oh p
 trans p q r a b:=lR p q r a b
 negTrans p q r a:=by
  rcases u6 p q with c | c | c
  ·exact .inl c
  ·subst c;exact .inr a
  ·exact .inr (lR _ _ _ c a)
 total p q a b:=by
  rcases u6 p q with c | c | c
  ·rw [a] at c;cases c
  ·exact c
  ·rw [b] at c;cases c
 keyOf v:=if e:∃ p,uv n h v p then some e.choose else none
 dflt:=[]
open Classical in
theorem DO {n:Nat} {h:Heap} {v:Value} {p:List Pl} (a:uv n h v p):(FO n h).keyOf v=some p:=by
 have e:∃ p,uv n h v p:=⟨p,a⟩
 show (if e:∃ p,uv n h v p then some e.choose else none)=some p
 rw [dif_pos e,uv.inj e.choose_spec a]
open Classical in
theorem GX {n:Nat} {h:Heap} {v:Value} {p:List Pl} (a:(FO n h).keyOf v=some p):uv n h v p:=by
 have a:(if e:∃ p,uv n h v p then some e.choose else none)=some p:=a
 by_cases e:∃ p,uv n h v p
 ·rw [dif_pos e] at a
  have:=e.choose_spec
  rwa [Option.some.inj a] at this
 ·rw [dif_neg e] at a;cases a
section
variable {P:Program} {w:World} {A:Around} {E:Value→Shared→Prop} {s:Shared}
theorem rT {u v:Value} {p q:Pl} {Q:Bool→Shared→Prop} (hu:A.units < cLine) (a:p7 s.heap u p) (b:p7 s.heap v q) (h:Q (decide (p=q)) s):wpAny (model P w) A (eqBool u v) Q E s:=by
 obtain ⟨a1,o1,t1,u1,n1,rfl,h2,h3,h4⟩:=a
 obtain ⟨a2,o2,t2,u2,n2,rfl,k2,k3,k4⟩:=b
 refine wpAny_eqBool_tuple (knd:=intKind P w) (x:=[p.x,p.y]) (y:=[q.x,q.y]) hu ⟨o1,_,n1,h2,h3,h4,?_⟩ ⟨o2,_,n2,k2,k3,k4,?_⟩ ?_
 ·exact .cons (by simp [intKind,Value.isInt]) (.cons (by simp [intKind,Value.isInt]) .nil)
 ·exact .cons (by simp [intKind,Value.isInt]) (.cons (by simp [intKind,Value.isInt]) .nil)
 ·have e:decide ([p.x,p.y]= [q.x,q.y])=decide (p=q):=by
   rw [decide_eq_decide]
   cases p;cases q
   simp
  rw [e];exact h
theorem oi {u v:Value} {p q:Pl} {Q:Bool→Shared→Prop} (hu:A.units < cLine) (a:p7 s.heap u p) (b:p7 s.heap v q) (h:Q (decide (aL p q)) s):wpAny (model P w) A (oneLt' false u v) Q E s:=by
 obtain ⟨l,its,rfl,h1,h2⟩:=a.tup
 obtain ⟨l',its',rfl,k1,k2⟩:=b.tup
 rw [oneLt'_eq]
 simp only [Zm,if_false]
 apply wpAny_bind
 refine (HT.gu h1 k1 h2 k2 hu ?_:wpAny (model P w) A (compareOp .Lt (.ref l) (.ref l')) _ E s)
 refine wpAny_truthy_bool ?_
 rw [dY]
 exact h
theorem dF.cons_inv {h:Heap} {us:List Value} {p:Pl} {ps:List Pl} (a:dF h us (p :: ps)):∃ u vs,us=u :: vs∧p7 h u p∧dF h vs ps:=by
 cases a with
 | cons a r=>exact ⟨_,_,rfl,a,r⟩
theorem dF.nil_inv {h:Heap} {us:List Value} (a:dF h us []):us= []:=by
 cases a
 rfl
theorem GY {α:Type} {qs:List α} (h:qs.length=2):∃ u v,qs= [u,v]:=by
 match qs,h with
 | [u,v],_=>exact ⟨u,v,rfl⟩
theorem Po {n:Nat} (hn:n=2∨n=3) {t:Shared} {x y:Value} {ps qs:List Pl} {R:Bool→Shared→Prop} (hu:A.units < cLine) (kx:uv n t.heap x ps) (ky:uv n t.heap y qs) (hR:R (dc ps qs) t):wpAny (model P w) A (keyLt' (tuples' false) x y) R E t:=by
 obtain ⟨l1,a,o,its,m,rfl,h2,h3,h4,h5⟩:=kx
 obtain ⟨l2,b,o',its',m',rfl,k2,k3,k4,k5⟩:=ky
 rw [yr]
 apply wpAny_bind;apply listItems_at h2 h4
 apply wpAny_bind;apply listItems_at k2 k4
 rcases hn with rfl | rfl
 ·obtain ⟨p1,p2,rfl⟩:=GY l1
  obtain ⟨q1,q2,rfl⟩:=GY l2
  obtain ⟨u1,us,rfl,a1,h5⟩:=h5.cons_inv
  obtain ⟨u2,us,rfl,a2,h5⟩:=h5.cons_inv
  obtain rfl:=h5.nil_inv
  obtain ⟨v1,vs,rfl,b1,k5⟩:=k5.cons_inv
  obtain ⟨v2,vs,rfl,b2,k5⟩:=k5.cons_inv
  obtain rfl:=k5.nil_inv
  ·clear h2 h4 k2 k4 h3 k3
   simp only [abc,Z6,aau,abo,abD,aaD,aaX,bind_assoc,abJ]
   apply wpAny_bind
   refine rT hu a1 b1 ?_
   unfold dc at hR
   by_cases e1:p1=q1
   ·rw [if_pos e1] at hR
    rw [decide_eq_true e1]
    simp only [aas,Zm,if_false,pure_bind,bind_assoc]
    apply wpAny_bind
    refine rT hu a2 b2 ?_
    unfold dc at hR
    by_cases e2:p2=q2
    ·rw [if_pos e2] at hR
     rw [decide_eq_true e2]
     simp only [aas,Zm,if_false,pure_bind]
     exact wpAny_pure hR
    ·rw [if_neg e2] at hR
     rw [decide_eq_false e2]
     simp only [aaz,if_true,bind_assoc,pure_bind]
     apply wpAny_bind
     exact oi hu a2 b2 (wpAny_pure hR)
   ·rw [if_neg e1] at hR
    rw [decide_eq_false e1]
    simp only [aaz,if_true,bind_assoc,pure_bind]
    apply wpAny_bind
    exact oi hu a1 b1 (wpAny_pure hR)
 ·obtain ⟨p1,p2,p3,rfl⟩:=n9 l1
  obtain ⟨q1,q2,q3,rfl⟩:=n9 l2
  obtain ⟨u1,us,rfl,a1,h5⟩:=h5.cons_inv
  obtain ⟨u2,us,rfl,a2,h5⟩:=h5.cons_inv
  obtain ⟨u3,us,rfl,a3,h5⟩:=h5.cons_inv
  obtain rfl:=h5.nil_inv
  obtain ⟨v1,vs,rfl,b1,k5⟩:=k5.cons_inv
  obtain ⟨v2,vs,rfl,b2,k5⟩:=k5.cons_inv
  obtain ⟨v3,vs,rfl,b3,k5⟩:=k5.cons_inv
  obtain rfl:=k5.nil_inv
  ·clear h2 h4 k2 k4 h3 k3
   simp only [abc,Z6,aau,abo,abD,aaD,aaX,bind_assoc,abJ]
   apply wpAny_bind
   refine rT hu a1 b1 ?_
   unfold dc at hR
   by_cases e1:p1=q1
   ·rw [if_pos e1] at hR
    rw [decide_eq_true e1]
    simp only [aas,Zm,if_false,pure_bind,bind_assoc]
    apply wpAny_bind
    refine rT hu a2 b2 ?_
    unfold dc at hR
    by_cases e2:p2=q2
    ·rw [if_pos e2] at hR
     rw [decide_eq_true e2]
     simp only [aas,Zm,if_false,pure_bind,bind_assoc]
     apply wpAny_bind
     refine rT hu a3 b3 ?_
     unfold dc at hR
     by_cases e3:p3=q3
     ·rw [if_pos e3] at hR
      rw [decide_eq_true e3]
      simp only [aas,Zm,if_false,pure_bind]
      exact wpAny_pure hR
     ·rw [if_neg e3] at hR
      rw [decide_eq_false e3]
      simp only [aaz,if_true,bind_assoc,pure_bind]
      apply wpAny_bind
      exact oi hu a3 b3 (wpAny_pure hR)
    ·rw [if_neg e2] at hR
     rw [decide_eq_false e2]
     simp only [aaz,if_true,bind_assoc,pure_bind]
     apply wpAny_bind
     exact oi hu a2 b2 (wpAny_pure hR)
   ·rw [if_neg e1] at hR
    rw [decide_eq_false e1]
    simp only [aaz,if_true,bind_assoc,pure_bind]
    apply wpAny_bind
    exact oi hu a1 b1 (wpAny_pure hR)
theorem Mn {n:Nat} (hn:n=2∨n=3) (hu:A.units < cLine) {h:Heap} {t:Shared} (g:dU h t.heap):Ask P w A t (FO n h) (tuples' false):=
 ⟨fun E x y p q R kx ky hR=>Po hn hu ((GX kx).grow g) ((GX ky).grow g) hR⟩
theorem JB {n:Nat} (hn:n=2∨n=3) {vs:List Value} (h2:1≤vs.length) (hv:∀ v∈vs,∃ p,uv n s.heap v p) {Q:SortKind→Shared→Prop} (h:Q (tuples' false) s):wpAny (model P w) A (keyKind' vs.toArray) Q E s:=by
 rw [keyKind'_eq,aaZ]
 simp only [bind_map_left]
 apply wpAny_bind
 refine qR (fun _ b=> ∃ u p,b=some u∧p7 s.heap u p) vs _ (fun v hm Q hQ=>?_) fun bs hb=>?_
 ·obtain ⟨ps,hl,a,o,its,m,rfl,k2,k3,k4,k5⟩:=hv v hm
  rw [yt]
  apply wpAny_bind
  refine wpAny_typeOf (T:= "tuple") ⟨o,k2,k3⟩ ?_
  have e:(Value.type "tuple" !=Value.type "tuple")=false:=by decide
  rw [e]
  simp only [Zm,if_false,pure_bind]
  apply wpAny_bind;apply listItems_at k2 k4
  cases ps with
  | nil=>simp at hl;omega
  | cons p ps=>
    obtain ⟨u,us,rfl,a,_⟩:=k5.cons_inv
    exact wpAny_pure (hQ _ ⟨u,p,rfl,a⟩)
 ·have all:∀ (vs:List Value) (bs:List (Option Value)),Paired (fun _ b=> ∃ u p,b=some u∧p7 s.heap u p) vs bs→bs.length=vs.length∧(∀ b∈bs,∃ u p,b=some u∧p7 s.heap u p):=by
   intro vs
   induction vs with
   | nil=>intro bs q;cases q;exact ⟨rfl,fun _ z=>by cases z⟩
   | cons v vs ih=>
     intro bs q
     cases q with
     | cons q1 q2=>
       obtain ⟨l,m⟩:=ih _ q2
       refine ⟨by simp [l],fun b hb=>?_⟩
       rcases Y6.mp hb with rfl | hb
       ·exact q1
       ·exact m b hb
  obtain ⟨hl,hm⟩:=all vs bs hb
  have c:(bs.toArray.all fun b=>b.isSome)=true:=by
   simp only [aa5,Zw]
   intro b hb
   obtain ⟨u,p,rfl,_⟩:=hm b hb
   rfl
  rw [if_pos c]
  apply wpAny_bind;apply wpAny_rule
  rw [oneTypeOnly'_eq]
  have ef:bs.toArray.filterMap id=(bs.filterMap id).toArray:=by simp
  rw [ef,aaZ]
  simp only [bind_map_left,bind_assoc]
  apply wpAny_bind
  refine qR (fun _ b=>b=Value.type "tuple") _ _ (fun v hv' Q hQ=>?_) fun cs hc=>?_
  ·obtain ⟨b,hb1,hb2⟩:=aaU.mp hv'
   obtain ⟨u,p,rfl,a,o,t,u',m,rfl,k2,k3,k4⟩:=hm b hb1
   have hb2:some (Value.ref a)=some v:=hb2
   cases hb2
   exact wpAny_typeOf (T:= "tuple") ⟨o,k2,k3⟩ (hQ _ rfl)
  ·have len:1≤(bs.filterMap id).length:=by
    cases bs with
    | nil=>simp at hl;omega
    | cons b bs=>
      obtain ⟨u,p,rfl,_⟩:=hm b (Zl ..)
      simp
   have all2:∀ (us cs:List Value),Paired (fun _ b=>b=Value.type "tuple") us cs→cs=us.map fun _=>Value.type "tuple" :=by
    intro us
    induction us with
    | nil=>intro cs q;cases q;rfl
    | cons u us ih=>intro cs q;cases q with | cons q1 q2=>rw [q1,ih _ q2];rfl
   rw [all2 _ _ hc]
   generalize bs.filterMap id=us at len
   cases us with
   | nil=>simp at len
   | cons u us=>
     have e0:(List.map (fun _=>Value.type "tuple") (u :: us)).toArray[0]?=some (Value.type "tuple"):=by simp
     rw [e0]
     have e1:((List.map (fun _=>Value.type "tuple") (u :: us)).toArray.all fun x=>x == Value.type "tuple")=true:=by
      simp only [aa5,aba,Zw]
      intro _ _;rfl
     simp only [e1,if_true,pure_bind]
     exact wpAny_pure h
end
noncomputable def zm (n:Nat) (h:Heap) (v:Value):List Pl:=Option.getD (α:=List Pl) ((FO n h).keyOf v) []
theorem DP {n:Nat} {h:Heap} {v:Value} {p:List Pl} (a:uv n h v p):zm n h v=p:=by
 unfold zm
 have e:(FO n h).keyOf v=some p:=DO a
 exact congrArg (fun o=>Option.getD (α:=List Pl) o []) e
def iW (n:Nat) (h:Heap):List Value→List (List Pl)→Prop:=Paired (uv n h)
theorem iW.keys {n:Nat} {h:Heap}:∀ {us:List Value} {ps:List (List Pl)},iW n h us ps→us.map (zm n h)=ps
 | _,_,.nil=>rfl
 | _,_,.cons a r=>by rw [ZK,DP a,iW.keys r]
theorem iW.mem {n:Nat} {h:Heap}:∀ {us:List Value} {ps:List (List Pl)} {v:Value},iW n h us ps→v∈us→∃ p,uv n h v p
 | _,_,v,.nil,m=>by cases m
 | _,_,v,.cons a r,m=>by
   rcases Y6.mp m with rfl | m
   ·exact ⟨_,a⟩
   ·exact iW.mem r m
theorem Bf {n:Nat} (hn:n=2∨n=3) {P:Program} {w:World} {A:Around} {E:Value→Shared→Prop} {s:Shared} {l:Addr} {vs:List Value} {ps:List (List Pl)} {Q:Value→Shared→Prop} (hu:A.units+64 < cLine) (hl:s.heap.IsList l vs.toArray) (hv:iW n s.heap vs ps) (h64:vs.length < 64)
 (h:∀ (out:List Value) (qs:List (List Pl)),(∀ v∈out,v∈vs)→qs=out.map (zm n s.heap)→qs.Perm ps→qs.Pairwise (fun p q=>dc q p=false)→Q (.ref (s.heap.objs.size+1)) { s with heap:=sortedAll s.heap vs out.toArray }) :
 wpAny (model P w) A (call (.builtin "sorted") [.ref l]) Q E s:=by
 have hk:KeysOf (FO n s.heap) (pairsOf vs):=fun p hp=>by
  rw [pairsOf_toList] at hp
  obtain ⟨q,a⟩:=hv.mem (cT hp).2
  exact ⟨q,DO a⟩
 refine yq (κ:=FO n s.heap) (kd:=tuples' false) hl hk (fun t E Q g h2 q=>JB hn (by omega) (fun v m=>?_) q) (fun t g=>Mn hn (by show A.units+1+1 < cLine;omega) g) h64 fun y hp hs=>?_
 ·obtain ⟨p,a⟩:=hv.mem m
  exact ⟨p,a.grow g⟩
 ·have pl:y.toList.Perm (vs.zip vs):=by rw [← pairsOf_toList];exact Array.perm_iff_toList_perm.mp hp
  have same:∀ p∈y.toList,p.1=p.2∧p.1∈vs:=fun p m=>cT (pl.mem_iff.mp m)
  have eo:y.map (·.2)=(y.toList.map (·.2)).toArray:=by rw [← Array.toList_map,Array.toArray_toList]
  rw [eo]
  refine h (y.toList.map (·.2)) _ (fun v m=>?_) rfl ?_ ?_
  ·obtain ⟨p,m2,rfl⟩:=ZA.mp m
   rw [← (same p m2).1];exact (same p m2).2
  ·have q:=(pl.map (fun p=>p.2)).map (zm n s.heap)
   have e:(vs.zip vs).map (fun p=>p.2)=vs:=abp (Zb _)
   rw [e,hv.keys] at q
   exact q
  ·rw [aay]
   intro i j hi hj hij
   have li:i < y.size:=by simpa using hi
   have lj:j < y.size:=by simpa using hj
   have q:=hs i j (aaK hij) (by rw [← hp.size_eq];exact lj)
   have key:∀ k (hk:k < y.size),KK (FO n s.heap) y k=zm n s.heap y[k].2:=fun k hk=>by
    unfold KK
    rw [getElem?_pos y k hk]
    show Option.getD (α:=List Pl) ((FO n s.heap).keyOf y[k].1) []=_
    rw [(same y[k] (by simp)).1]
    rfl
   have q:(FO n s.heap).blt (KK (FO n s.heap) y j) (KK (FO n s.heap) y i)=false:=q
   rw [key i li,key j lj] at q
   have q:dc (zm n s.heap y[j].2) (zm n s.heap y[i].2)=false:=q
   simpa using q
def tD (ps:List Pl):D:= .tup (ps.map Pl.d)
theorem GZ {n:Nat} {P:Program} {w:World} {K:PySem.W.Frag} {H:Hp} {h:Heap} {ps:List Pl} {x:V} {u:Value} (ok:nH P w H h) (hl:ps.length=n) (d:Dat K H (tD ps) x) (r:RelV x u):uv n h u ps:=by
 obtain ⟨a,xs,rfl,ha,hx⟩:=bH.mp d
 obtain rfl:u=Value.ref a:=r
 obtain ⟨its,rv,⟨o,h1,h2,m,h3⟩,_⟩:=eY ok ha
 exact ⟨hl,a,o,its,m,rfl,h1,h2,h3,gR ok hx rv⟩
theorem rV {n:Nat} {P:Program} {w:World} {K:PySem.W.Frag} {H:Hp} {h:Heap} (ok:nH P w H h):∀ {ps:List (List Pl)} {xs:List V} {us:List Value},(∀ p∈ps,p.length=n)→aM K H (ps.map tD) xs→Vals xs us→iW n h us ps
 | [],xs,us,_,d,r=>by rw [aV.mp d] at r;cases r;exact .nil
 | p :: ps,xs,us,hl,d,r=>by
   obtain ⟨v,vs,rfl,d1,d2⟩:=aQ.mp d
   cases r with
   | cons r1 r2=>exact .cons (GZ ok (hl p (Zl ..)) d1 r1) (rV ok (fun q hq=>hl q (Y5 _ hq)) d2 r2)
theorem u7 {n:Nat} {K:PySem.W.Frag} {H:Hp} {h:Heap} {P:Program} {w:World} (ok:nH P w H h) {ps:List (List Pl)} {zs:List V} {vs:List Value} (hl:∀ p∈ps,p.length=n) (d:aM K H (ps.map tD) zs) (r:Vals zs vs):∀ (out:List Value),(∀ v∈out,v∈vs)→
 ∃ ws,Vals ws out∧aM K H ((out.map (zm n h)).map tD) ws
 | [],_=>⟨[],.nil,aV.mpr rfl⟩
 | v :: out,m=>by
   obtain ⟨ws,h1,h2⟩:=u7 ok hl d r out fun u hu=>m u (Y5 _ hu)
   have one:∀ {ps:List (List Pl)} {zs:List V} {vs:List Value},(∀ p∈ps,p.length=n)→aM K H (ps.map tD) zs→Vals zs vs→v∈vs→∃ (p:List Pl) (x:V),p.length=n∧RelV x v∧Dat K H (tD p) x:=by
    intro ps
    induction ps with
    | nil=>intro zs vs _ d r m;rw [aV.mp d] at r;cases r;cases m
    | cons p ps ih=>
      intro zs vs hl d r m
      obtain ⟨x,xs,rfl,d1,d2⟩:=aQ.mp d
      cases r with
      | cons r1 r2=>
        rcases Y6.mp m with rfl | m
        ·exact ⟨p,x,hl p (Zl ..),r1,d1⟩
        ·exact ih (fun q hq=>hl q (Y5 _ hq)) d2 r2 m
   obtain ⟨p,x,lp,rx,dx⟩:=one hl d r (m v (Zl ..))
   refine ⟨x :: ws,.cons rx h1,?_⟩
   rw [ZK,ZK,DP (GZ ok lp dx rx)]
   exact aQ.mpr ⟨x,ws,rfl,dx,h2⟩
section
variable {X:Cx}
def G0 (n:Nat):List D→Mp→DK→Prop:=fun ds M Q=> ∃ (l:Addr) (ps:List (List Pl)),ds= [.ref l]∧M l=some (.lst (ps.map tD))∧(∀ p∈ps,p.length=n)∧ps.length < 64∧∀ (p:Addr) (qs:List (List Pl)),M p=none→qs.Perm ps→qs.Pairwise (fun p q=>dc q p=false)→Q (.ref p) (aE M p (.lst (qs.map tD)))
theorem rW {n:Nat} (hn:n=2∨n=3) (hu:X.A.units+64 < cLine):Call3 X (.builtin "sorted") (G0 n):=by
 constructor
 intro pins s σ H M xs ds us Q I rm rs dx ⟨l,ps,e,hM,TL,h64,q⟩
 subst e
 obtain ⟨v,rfl,hv⟩:=nU dx
 obtain rfl:=aK.mp hv
 obtain ⟨u,rfl,r1⟩:=vals1 rs
 obtain rfl:u=Value.ref l:=r1
 obtain ⟨zs,hH,hz⟩:=rm.lst hM
 obtain ⟨its,rv,pl,hsz⟩:=I.list (iD.of (K:=X.K) hH)
 have hl:its.length=ps.length:=by rw [Vals.len rv,← hz.length,Y4]
 refine Bf hn hu pl.isList (rV I.hok TL hz rv) (by omega) fun out qs hm eq hp hs=>?_
 obtain ⟨ws,w1,w2⟩:=u7 I.hok TL hz rv out hm
 rw [← eq] at w2
 obtain ⟨m,hm'⟩:=sortedAll_at s.heap its out.toArray
 have fr:H (s.heap.objs.size+1)=none:=I.hok.fresh (ZP _)
 have zw:ws.length≤sizeLine:=by
  rw [← w2.length,Y4,hp.length_eq,sizeLine_eq];omega
 refine ⟨.ref (s.heap.objs.size+1),upd H (s.heap.objs.size+1) (.lst ws),I.laid (t':=s.toks) (fun b o e=>sortedAll_old e) (ZP _) ⟨zw,out,m,w1,hm'⟩,rfl,.ref _,aE M _ (.lst (qs.map tD)),Fr.new fr fun _ hb=>bg hb,aK.mpr rfl,rm.newL fr w2,q _ _ (rm.free fr) hp hs⟩
end
end L3
namespace L3
open PySem
def gm (t:List Pl):Prop:= ∃ u v w,t= [u,v,w]∧aL u v∧aL u w∧0 < tw u v w
theorem gm.uniq {s t:List Pl} (hs:gm s) (ht:gm t) (h:s.Perm t):s=t:=by
 obtain ⟨u,v,w,rfl,b1,b2,p1⟩:=hs
 obtain ⟨a,b,c,rfl,c1,c2,p2⟩:=ht
 rcases uS h with ⟨rfl,rfl,rfl⟩ | ⟨rfl,rfl,rfl⟩ | ⟨rfl,rfl,rfl⟩ | ⟨rfl,rfl,rfl⟩ | ⟨rfl,rfl,rfl⟩ | ⟨rfl,rfl,rfl⟩
 ·rfl
 ·rw [kJ] at p2;omega
 ·exact absurd c1 (aG b1)
 ·exact absurd c1 (aG b2)
 ·exact absurd c2 (aG b1)
 ·exact absurd c2 (aG b2)
theorem DQ {a b c:Pl} (h:tw a b c≠0):a≠b∧a≠c∧b≠c:=
 ⟨fun e=>by subst e;rw [gQ] at h;exact h rfl,fun e=>by subst e;rw [iV] at h;exact h rfl,fun e=>by subst e;rw [uL] at h;exact h rfl⟩
def G1 (a b c:Pl):List Pl:=if aL a b∧aL a c then [a,b,c] else if aL b c then [b,c,a] else [c,a,b]
theorem DR {a b c:Pl} (h:0 < tw a b c):gm (G1 a b c)∧(G1 a b c).Perm [a,b,c]:=by
 obtain ⟨n1,n2,n3⟩:=DQ (show tw a b c≠0 by omega)
 unfold G1
 by_cases k:aL a b∧aL a c
 ·rw [if_pos k]
  exact ⟨⟨a,b,c,rfl,k.1,k.2,h⟩,.refl _⟩
 ·rw [if_neg k]
  by_cases k2:aL b c
  ·rw [if_pos k2]
   refine ⟨⟨b,c,a,rfl,k2,?_,by rw [gw];exact h⟩,(Zz (l₁:=[b,c]) (l₂:=[a]))⟩
   rcases g9 n1 with z | z
   ·exact absurd ⟨z,aZ z k2⟩ k
   ·exact z
  ·rw [if_neg k2]
   have cb:aL c b:=by rcases g9 n3 with z | z;exact absurd z k2;exact z
   have ca:aL c a:=by
    rcases g9 n2 with z | z
    ·exact absurd ⟨aZ z cb,z⟩ k
    ·exact z
   exact ⟨⟨c,a,b,rfl,ca,cb,by rw [← gw c a b];exact h⟩,(Zz (l₁:=[c]) (l₂:=[a,b]))⟩
def G2 (a b c:Pl):List Pl:=if 0 < tw a b c then G1 a b c else G1 a c b
theorem zo {a b c:Pl} (h:tw a b c≠0):gm (G2 a b c)∧(G2 a b c).Perm [a,b,c]:=by
 unfold G2
 by_cases k:0 < tw a b c
 ·rw [if_pos k];exact DR k
 ·rw [if_neg k]
  obtain ⟨h1,h2⟩:=DR (a:=a) (b:=c) (c:=b) (by rw [kJ];omega)
  exact ⟨h1,h2.trans (.cons a (.swap b c []))⟩
theorem DS {u v w a b c:Pl} (h: [u,v,w].Perm [a,b,c]):tw u v w≠0↔tw a b c≠0:=by
 rcases uS h with ⟨rfl,rfl,rfl⟩ | ⟨rfl,rfl,rfl⟩ | ⟨rfl,rfl,rfl⟩ | ⟨rfl,rfl,rfl⟩ | ⟨rfl,rfl,rfl⟩ | ⟨rfl,rfl,rfl⟩
 ·exact Iff.rfl
 ·rw [kJ u v w];omega
 ·rw [dX u v w];omega
 ·rw [gw w u v]
 ·rw [← gw u v w]
 ·rw [dX v w u,gw u v w];omega
theorem Bg {t:List Pl} {a b c:Pl} (ht:gm t) (h:t.Perm [a,b,c]):tw a b c≠0∧t=G2 a b c:=by
 have hn:tw a b c≠0:=by
  obtain ⟨u,v,w,rfl,_,_,p⟩:=ht
  exact (DS h).mp (by omega)
 obtain ⟨h1,h2⟩:=zo hn
 exact ⟨hn,ht.uniq h1 (h.trans h2.symm)⟩
theorem Cs {a b c u v w:Pl} (hn:tw a b c≠0) (hp: [u,v,w].Perm [a,b,c]) (hs: [u,v,w].Pairwise (fun p q=> ¬ aL q p)) :
 G2 a b c=if 0 < tw u v w then [u,v,w] else [u,w,v]:=by
 have hn2:tw u v w≠0:=(DS hp).mpr hn
 obtain ⟨n1,n2,n3⟩:=DQ hn2
 have b1:aL u v:=by rcases g9 n1 with z | z;exact z;exact absurd z ((ZF.mp hs).1 v (by simp))
 have b2:aL u w:=by rcases g9 n2 with z | z;exact z;exact absurd z ((ZF.mp hs).1 w (by simp))
 by_cases k:0 < tw u v w
 ·rw [if_pos k]
  exact (Bg ⟨u,v,w,rfl,b1,b2,k⟩ hp).2.symm
 ·rw [if_neg k]
  exact (Bg ⟨u,w,v,rfl,b2,b1,by rw [kJ];omega⟩ ((List.Perm.cons u (.swap v w [])).trans hp)).2.symm
def gp (ps:List Pl) (i:Nat):Pl:=ps.getD i ⟨0,0⟩
def one (ok:List Pl→Bool) (a b c:Pl):List (List Pl):=if tw a b c≠0∧ok (G2 a b c)=true then [G2 a b c] else []
def yes:List Pl→Bool:=fun _=>true
def c2:Nat→Nat | 0=>0 | m+1=>c2 m+m
def c3:Nat→Nat | 0=>0 | k+1=>c3 k+c2 k
end L3
namespace L3
open PySem PySem.Spec PyProof.Rows L2
theorem Mq {u v w:Pl} (k:eg (.int (tw u v w).sign) (.int 1)=true):0 < tw u v w:=by
 rw [c6] at k
 exact abv.mp (eq_of_beq k)
theorem JC {u v w:Pl} (k:¬ eg (.int (tw u v w).sign) (.int 1)=true):¬ 0 < tw u v w:=fun z=>by
 apply k
 rw [c6,Z8 z]
 rfl
theorem fW {ts:List (List Pl)} {i:Nat} {x:D} (h:(ts.map tD)[i]?=some x):∃ t,ts[i]?=some t∧x=tD t:=by
 rw [ZI] at h
 cases e:ts[i]? with
 | none=>rw [e] at h;cases h
 | some p=>rw [e] at h;exact ⟨p,rfl,(Option.some.inj h).symm⟩
theorem cG {ts:List (List Pl)} {f:List Pl→Bool} {i:Nat} {t:List Pl} (h:ts[i]?=some t):(ts.take (i+1)).filter f=(ts.take i).filter f ++ (if f t=true then [t] else []):=by
 rw [Z7,h,abT]
 congr 1
 show List.filter f [t]=_
 rw [aaj]
 rfl
theorem zp {p q:Int} (h:p*p+q*q=0):p=0∧q=0:=by
 have sq:∀ z:Int,0≤z*z:=fun z=>by
  rcases aaL 0 z with w | w
  ·exact Zi w w
  ·exact Zo w w
 have h1:=sq p
 have h2:=sq q
 have e1:p*p=0:=by omega
 have e2:q*q=0:=by omega
 exact ⟨(Zv.mp e1).elim id id,(Zv.mp e2).elim id id⟩
theorem ES {p q r s x y:Int} (h1:p*s=q*r) (h2:(p*p+q*q)*(r*y - s*x)=(r*r+s*s)*(p*y - q*x)) (hT:(r*y - s*x) - (p*y - q*x)≠0):(p=0∧q=0)∨(r=0∧s=0):=by
 by_cases k:p*y - q*x=0
 ·rw [k,Z0] at h2
  rcases Zv.mp h2 with z | z
  ·exact .inl (zp z)
  ·exact absurd (by rw [z,k];rfl) hT
 ·have e:(p*r+q*s - (r*r+s*s))*(p*y - q*x)=0:=by grind
  rcases Zv.mp e with z | z
  ·have f:((p - r)*(p - r)+(q - s)*(q - s))*(r*r+s*s)=0:=by grind
   rcases Zv.mp f with w | w
   ·obtain ⟨w1,w2⟩:=zp w
    exfalso
    apply hT
    have:p=r:=by omega
    have:q=s:=by omega
    subst p q
    omega
   ·exact .inr (zp w)
  ·exact absurd z k
theorem zq {a b c d:Pl} (hT:tw a b c≠0) (hd:dep a b c d=0) (hl:tw b c d=0):d=b∨d=c:=by
 have key:=ES (p:=b.x - d.x) (q:=b.y - d.y) (r:=c.x - d.x) (s:=c.y - d.y) (x:=a.x - d.x) (y:=a.y - d.y) (by unfold tw at hl;grind) (by unfold dep lM at hd;unfold tw at hd hl;grind) (by intro z;apply hT;unfold tw at hl ⊢;grind)
 rcases key with ⟨z1,z2⟩ | ⟨z1,z2⟩
 ·left;cases b;cases d;simp at z1 z2 ⊢;omega
 ·right;cases c;cases d;simp at z1 z2 ⊢;omega
theorem cD (fs:List (List Pl)):(fs.map tD).all (plain 9)=true:=by
 rw [Zw]
 intro d hd
 obtain ⟨t,_,rfl⟩:=ZA.mp hd
 show (t.map Pl.d).all (plain 8)=true
 rw [Zw]
 intro d hd
 obtain ⟨p,_,rfl⟩:=ZA.mp hd
 rfl
end L3
namespace L3
open PySem PySem.Spec PyProof.Rows L2 Att
theorem qV:∀ {as bs:List Pl},as.Perm bs→as.Pairwise (fun a b=> ¬ aL b a)→bs.Pairwise (fun a b=> ¬ aL b a)→as=bs
 | [],bs,h,_,_=>by rw [List.nil_perm.mp h]
 | a :: as,[],h,_,_=>by simp at h
 | a :: as,b :: bs,h,h1,h2=>by
   obtain ⟨p1,p2⟩:=ZF.mp h1
   obtain ⟨q1,q2⟩:=ZF.mp h2
   have e:a=b:=by
    have ma:a∈b :: bs:=h.mem_iff.mp (Zl ..)
    have mb:b∈a :: as:=h.mem_iff.mpr (Zl ..)
    rcases Y6.mp ma with e | ma
    ·exact e
    rcases Y6.mp mb with e | mb
    ·exact e.symm
    rcases bV a b with c | c | c
    ·exact absurd c (q1 a ma)
    ·exact c
    ·exact absurd c (p1 b mb)
   subst e
   rw [qV ((aaJ a).mp h) p2 q2]
end L3
namespace PySem
open PySem.Calls PySem.W
theorem Ct:typeLookup (.type "list_reverseiterator") "__len__" =pure none:=by rw [typeLookup_type,builtinLookup_eq_fast];kernel_rfl
theorem G3:typeLookup (.type "list_reverseiterator") "__length_hint__" =pure (some (.builtin "list_reverseiterator.__length_hint__")):=by rw [typeLookup_type,builtinLookup_eq_fast];kernel_rfl
theorem JD:isSubtype (.type "list_reverseiterator") (.type "list_reverseiterator")=pure true:=by rw [isSubtype_type];kernel_rfl
section
variable {prog:Program} {w:World} {A:Around} {s:Shared} {R:Result→Shared→Prop} {E:Value→Shared→Prop}
variable {I:Addr} {fp wr:List Addr} {G:Array GenState→Array GenState→Prop} {n:Nat} {P:Nat→Value→Prop} {St:Nat→Shared→Prop}
theorem G4 {Q:Bool→Shared→Prop} (hT:s.TypeIs (.ref I) "list_reverseiterator") (h:Q false s):wpAny (model prog w) A (Builtin.List.listLengthHint (.ref I)) Q E s:=by
 unfold Builtin.List.listLengthHint
 refine wpAny_bind (wpAny_specialOf hT Ct ?_)
 show wpAny _ A (specialOf (Value.ref I) (Str.ofString "__length_hint__") >>= _) _ _ _
 refine wpAny_bind (wpAny_specialOf hT G3 ?_)
 have hs:splitId "list_reverseiterator.__length_hint__" =some ("list_reverseiterator","__length_hint__"):=by decide +kernel
 simp only [hs]
 refine wpAny_bind (wpAny_isInstance (T:= "list_reverseiterator") (b:=true) hT JD ?_)
 simp only [aas,Zm,if_false]
 exact wpAny_pure h
theorem rX (W:WalksS prog w A.in1 I fp wr G n P St) (hT:∀ i s,St i s→s.TypeIs (.ref I) "list_reverseiterator") (S:Addr) (res:Value) (c₀:Nat) (hst:St 0 s) (hSf:S∉fp) (hI:I∈fp)
 (hS:s.heap.get? S=some { cls:= .type "list",data:= .seq #[] c₀ })
 (hR:∀ s' acc' c',Moved (S :: wr) G s s'→s'.heap.get? S=some { cls:= .type "list",dict:=none,data:= .seq acc' c',slots:= #[] }→ItemsOf P acc' n→R (.ok (.ret res)) s') (hn:n≤sizeLine) :
 wpAny (model prog w) A.in1 (Builtin.List.listExtendWith (.ref S) (.ref I) res)
  (fun fin s'=>match fin with | .done f=>R (.ok f) s' | .again c'=>c'.quiet=true∧codeAny (model prog w) A c' R s') (fun e s'=>R (.error e) s') s:=by
 have hSI:S≠I:=fun e=>hSf (e▸hI)
 unfold Builtin.List.listExtendWith
 refine wpAny_bind (wpAny_typeOf (hT 0 _ hst) ?_)
 have h1:Builtin.List.listSameRef (.ref S) (.ref I)=false:=by simp [Builtin.List.listSameRef,hSI]
 have h2:(Value.type "list_reverseiterator" == Value.type "list")=false:=by decide
 have h3:(Value.type "list_reverseiterator" == Value.type "tuple")=false:=by decide
 simp only [h1,h2,h3,abQ,Zm,if_false]
 refine wpAny_bind (W.self 0 _ _ _ hst ?_)
 refine wpAny_bind (wpAny_holding (G4 (hT 0 _ hst) ?_))
 show wpAny _ A.in1 (again (.builtin "list.extend.loop" ⟨[.ref S,.ref I,res],[]⟩)) _ _ _
 exact wpAny_pure ⟨plainId_quiet F.plain_extend_loop _,codeAny_extend_loopS W hn _ hSf _ n 0 _ _ _ rfl (Z3 _) hst hS (ItemsOf.nil P) fun s' acc' c' hm hS' hacc=>hR s' acc' c' hm hS' hacc⟩
theorem pV (W:WalksS prog w A.in1 I fp wr G n P St) (hT:∀ i s,St i s→s.TypeIs (.ref I) "list_reverseiterator") (S:Addr) (hst:St 0 s) (hSf:S∉fp) (hI:I∈fp)
 (hS:s.heap.get? S=some { cls:= .type "list",data:= .seq #[] })
 (hR:∀ s' acc' c',Moved (S :: wr) G s s'→s'.heap.get? S=some { cls:= .type "list",dict:=none,data:= .seq acc' c',slots:= #[] }→ItemsOf P acc' n→R (.ok (.ret .none)) s') (hn:n≤sizeLine) :
 wpAny (model prog w) A.in1 (Builtin.«list.__init__» ⟨[.ref S,.ref I],[]⟩)
  (fun fin s'=>match fin with | .done f=>R (.ok f) s' | .again c'=>c'.quiet=true∧codeAny (model prog w) A c' R s') (fun e s'=>R (.error e) s') s:=by
 show wpAny _ A.in1 (do let old ← Builtin.List.listItems (.ref S);Builtin.List.listUpdate (.ref S) (fun _=> #[]);letGo old.toList.reverse;Builtin.List.listExtendWith (.ref S) (.ref I) .none) _ _ s
 refine wpAny_bind ?_
 unfold Builtin.List.listItems
 refine wpAny_bind (wpAny_seqItems hS rfl (wpAny_pure ?_))
 show wpAny _ A.in1 (updateSeq S (fun _=> #[]) >>= fun _=>letGo (#[]:Array Value).toList.reverse >>= fun _=>Builtin.List.listExtendWith (.ref S) (.ref I) .none) _ _ s
 refine wpAny_bind (wpAny_updateSeq hS rfl ?_)
 have Nv:=Heap.get?_update_self (Obj.mapSeq (fun _=>(#[]:Array Value))) hS rfl
 have JE:∀ b o,b≠S→s.heap.get? b=some o→(s.heap.update S (Obj.mapSeq (fun _=>(#[]:Array Value)))).get? b=some o:=
  fun b o hb e=>(Heap.get?_update_other _ _ (Ne.symm hb)).trans e
 refine wpAny_bind (wpAny_letGo ?_)
 refine rX W hT S .none _ (W.frame 0 s _ s.toks hst (Zb _) fun b hb o e=>JE b o (fun h=>hSf (h▸hb)) e) hSf hI Nv (fun s' acc' c' hm hS' hacc=>?_) hn
 exact hR s' acc' c' (Moved.trans W.gtrans ((Moved.refl W.grefl).then_heap (Zb _) fun b o hb e=>JE b o (fun h=>hb (h▸Zl)) e) hm) hS' hacc
theorem wV {Q:Value→Shared→Prop} (W:WalksS prog w A.in1.in1 I fp wr G n P St) (hT:∀ i s,St i s→s.TypeIs (.ref I) "list_reverseiterator") (hst:St 0 s) (hfp:∀ b∈fp,b < s.heap.objs.size) (hI:I∈fp)
 (hQ:∀ s' acc' c',Moved (s.heap.objs.size :: wr) G { s with heap:=s.heap.push { cls:= .type "list",data:= .seq #[] } } s'→
  s'.heap.get? s.heap.objs.size=some { cls:= .type "list",dict:=none,data:= .seq acc' c',slots:= #[] }→ItemsOf P acc' n→Q (.ref s.heap.objs.size) s') (hn:n≤sizeLine) :
 wpAny (model prog w) A (call (.type "list") [.ref I]) Q E s:=by
 have hSf:s.heap.objs.size∉fp:=fun hm=>ZJ _ (hfp _ hm)
 refine callType_codes (Q₁:=fun obj s₁=>obj= .ref s.heap.objs.size∧s₁= { s with heap:=s.heap.push { cls:= .type "list",data:= .seq #[] } }) F.called_list (F.typeCall_list_1 _) F.entry_list_init
  (code_list_new _ ⟨rfl,rfl⟩) fun obj s₁ h₁=>?_
 obtain ⟨rfl,rfl⟩:=h₁
 have hS:(s.heap.push { cls:= .type "list",data:= .seq #[] }).get? s.heap.objs.size=some { cls:= .type "list",data:= .seq #[] }:=Heap.get?_push_size _ rfl
 refine ⟨⟨_,hS,rfl⟩,F.args_list_init_2 _ _,pV W hT _ (W.frame 0 s _ s.toks hst (Zb _) fun b _ o e=>Heap.get?_push_of_some _ e) hSf hI hS (fun s' acc' c' hm hS' hacc=>?_) hn⟩
 exact ⟨rfl,hQ s' acc' c' hm hS' hacc⟩
end
end PySem
namespace L3
open PySem PySem.Spec PyProof.Rows L2
section
variable {X:Cx} {pos:Pos}
def R9 (to:dI):dI:=fun ρ M Q=>to ρ M fun d M1=> ∃ l xs y,d= .ref l∧M1 l=some (.lst (xs ++ [y]))∧Q y (aE M1 l (.lst xs))
theorem aM.snoc {K:PySem.W.Frag} {H:Hp}:∀ {ds:List D} {y:D} {xs:List V},aM K H (ds ++ [y]) xs→∃ zs v,xs=zs ++ [v]∧aM K H ds zs∧Dat K H y v
 | [],y,xs,h=>by
   obtain ⟨v,rfl,hv⟩:=nU h
   exact ⟨[],v,rfl,aV.mpr rfl,hv⟩
 | d :: ds,y,xs,h=>by
   obtain ⟨v,vs,rfl,h1,h2⟩:=aQ.mp h
   obtain ⟨zs,u,rfl,h3,h4⟩:=aM.snoc h2
   exact ⟨v :: zs,u,rfl,aQ.mpr ⟨v,zs,rfl,h1,h3⟩,h4⟩
theorem Pp {o:Expr} {to:dI} {apos:Pos} (ho:cK X o to) (Jm:PE X (.Call (.Attribute o "pop" apos) [] [] pos) (Oi X.K "list" Om (dn X.K to))):cK X (.Call (.Attribute o "pop" apos) [] [] pos) (R9 to):=
 up Jm fun σ H ρ M Q r q=>eB r q fun v H' d M' f dv r' ⟨l,xs,y,e1,hM,q2⟩=>by
  subst e1
  obtain rfl:=aK.mp dv
  obtain ⟨ys,ha,hy⟩:=r'.mem.lst hM
  obtain ⟨zs,u,rfl,h1,h2⟩:=aM.snoc hy
  refine ⟨.inl ⟨rfl,_,iD.of ha⟩,l,zs ++ [u],u,rfl,rfl,ha,by simp,?_⟩
  rw [List.dropLast_concat]
  exact ⟨y,aE M' l (.lst xs),f.trans (Fr.write (K:=X.K) hM),Dat.mono (Ext.lF ha) _ _ h2,r'.mem.lF ha h1,q2⟩
theorem Bh {K:PySem.W.Frag} {H:Hp}:∀ {ds:List D} {xs:List V},aM K H ds xs→aM K H ds.reverse xs.reverse
 | [],xs,h=>by rw [aV.mp h];exact aV.mpr rfl
 | d :: ds,xs,h=>by
   obtain ⟨v,vs,rfl,h1,h2⟩:=aQ.mp h
   rw [aac,aac]
   exact (Bh h2).append (aM.one h1)
theorem Bj:∀ {xs:List V} {us:List Value},Vals xs us→Vals xs.reverse us.reverse
 | _,_,.nil=> .nil
 | _,_,.cons r rr=>by
   rw [aac,aac]
   exact (Bj rr).append (.cons r .nil)
theorem u9:bootBuiltins "reversed" =some (.type "reversed"):=by decide +kernel
def Pq (te:dI):dI:=fun ρ M Q=>te ρ M fun d M1=> ∃ xs,GV M1 d xs∧∀ p,M1 p=none→Q (.ref p) (aE M1 p (.lst xs.reverse))
theorem ET {e:Expr} {te:dI} {p1 p2 pos2:Pos} (hc:X.calm=true) (OZ:Gl X "list") (hml:X.mg "list" =none) (hgr:Gl X "reversed") (hmr:X.mg "reversed" =none) (he:cK X e te)
 (s1:starEach [e] X.env= [(false,eval e X.env)]:=by rfl)
 (s2:starEach [.Call (.Name "reversed" p2) [e] [] pos2] X.env= [(false,eval (.Call (.Name "reversed" p2) [e] [] pos2) X.env)]:=by rfl) :
 cK X (.Call (.Name "list" p1) [.Call (.Name "reversed" p2) [e] [] pos2] [] pos) (Pq te):=by
 constructor
 intro pins s σ H ρ M Q I r h
 refine wpAny_Call_Name_kw (lC I OZ hml bQ ?_ (by decide) (by decide))
 refine PyProof.Rows.callWith_type1 (Q:=EP X pins σ (Post X.K M H Q)) ?_ (by rw [s2];rfl) (by rfl)
 rw [s2]
 show wpAny _ _ (spliced ((false,eval (.Call (.Name "reversed" p2) [e] [] pos2) X.env) :: backTo pos [])) _ _ s
 refine Calls.spliced_cons ?_
 refine wpAny_Call_Name_kw (lC I hgr hmr u9 ?_ (by decide) (by decide))
 refine PyProof.Rows.callWith_type1 ?_ (by rw [s1];rfl) (by rfl)
 rw [s1]
 show wpAny _ _ (spliced ((false,eval e X.env) :: backTo pos2 [])) _ _ s
 refine Calls.spliced_cons (dW (he.run pins s σ H ρ M _ I r h) fun v s1 ⟨x,H1,I1,rv,d,M1,f1,dd,pY,xs,hL,q⟩=>Calls.spliced_nil ?_)
 obtain ⟨a,zs,rfl,hz,hd⟩:=hL.sq pY dd
 obtain rfl:v=Value.ref a:=rv
 obtain ⟨its,Qx,pl,hsz⟩:=I1.list hz
 have la:a < s1.heap.objs.size:=by obtain ⟨o,e,_⟩:=pl.isList;exact Heap.lt_size e
 refine PySem.call_reversed_list pl.isList ?_
 refine Calls.spliced_nil ?_
 have yz:(s1.heap.push (PySem.revObj a ((its.toArray.size:Int) - 1))).objs.size=s1.heap.objs.size+1:=Heap.size_push ..
 have Xp:zs.length=its.length:=Qx.length
 refine wV (PySem.Walks.listRev (A:=X.A.in1.in1) (show X.A.in1.in1.handled=none from I.ok.hd hc) s1.heap.objs.size a (Zr la) its.toArray).toS (fun i s st=>st.2.1.typeIs) ?_ ?_ (by simp) (fun s' acc' c' mv hS' hacc=>?_) (by rw [Za];omega)
 ·refine ⟨Z3 _,⟨_,Heap.get?_push_size _ rfl,rfl,?_⟩,?_⟩
  ·simp [PySem.revObj]
  ·obtain ⟨o,e,c,dd⟩:=pl.isList
   exact ⟨o,Heap.get?_push_of_some _ e,c,dd⟩
 ·intro b hb
  show b < (s1.heap.push (PySem.revObj a ((its.toArray.size:Int) - 1))).objs.size
  rw [yz]
  simp only [Y6,Zt,or_false] at hb
  rcases hb with rfl | rfl
  ·exact abq _
  ·exact aab la
 ·have hS':s'.heap.get? (s1.heap.objs.size+1)=some { cls:= .type "list",dict:=none,data:= .seq acc' c',slots:= #[] }:=by rw [← yz];exact hS'
  have Sa:acc'=its.reverse.toArray:=by
   apply Array.ext'
   rw [abc]
   apply abY
   intro j
   have Xq:acc'.size=its.length:=by
    have:=hacc.1
    rw [Za] at this
    exact this
   by_cases hj:j < its.length
   ·have g1:acc'[j]?=some (acc'[j]'(by omega)):=Array.getElem?_eq_getElem (by omega)
    have g2:=hacc.2 j _ g1
    have g2:its[its.length - 1 - j]?=some (acc'[j]'(by omega)):=by simpa using g2
    rw [List.getElem?_reverse hj,g2]
    rw [Array.getElem?_toList,g1]
   ·rw [aap (by simp;omega),aap (by simp;omega)]
  subst Sa
  have kp:∀ b o,s1.heap.get? b=some o→s'.heap.get? b=some o:=fun b o e=>by
   have lb:=Heap.lt_size e
   refine mv.heap b o ?_ (Heap.get?_push_of_some _ (Heap.get?_push_of_some _ e))
   intro hb
   simp only [Y6,Zt,or_false] at hb
   rcases hb with z | z
   ·have z:b=(s1.heap.push (PySem.revObj a ((its.toArray.size:Int) - 1))).objs.size:=z
    rw [yz] at z
    rw [z] at lb
    exact absurd lb (aao.mpr (ZP _))
   ·rw [z] at lb
    exact ZJ _ lb
  have fr:H1 (s1.heap.objs.size+1)=none:=I1.hok.fresh (ZP _)
  have es:s'= { s1 with heap:=s'.heap,toks:=s'.toks }:=by
   have g:=mv.gens
   have d:=mv.drawn
   have o:=mv.os
   cases s'
   cases s1
   simp only at g d o ⊢
   subst g d o
   rfl
  have I2:Inv X pins σ (upd H1 (s1.heap.objs.size+1) (.lst zs.reverse)) { s1 with heap:=s'.heap,toks:=s'.toks }:=
   I1.laid (t':=s'.toks) kp (ZP _) ⟨by rw [Zu];exact hsz,its.reverse,c',Bj Qx,hS'⟩
  rw [es]
  have ev:(Value.ref (s1.heap.push (PySem.revObj a ((its.toArray.size:Int) - 1))).objs.size)= .ref (s1.heap.objs.size+1):=by rw [yz]
  refine ⟨.ref (s1.heap.objs.size+1),_,I2,ev,.ref _,aE M1 _ (.lst xs.reverse),f1.trans (Fr.new fr fun _ hb=>bg hb),aK.mpr rfl,pY.newL fr (Bh hd),q _ (pY.free fr)⟩
end
end L3
namespace L3
open PySem PySem.Spec PyProof.Rows L2
section
variable {X:Cx} {pos:Pos}
end
structure TM (K:PySem.W.Frag) (J:It) (inv:Hp→Prop) (ds:List L3.D):Prop where
 go:∀ i H,i < ds.length→inv H→J.go i H
 IG:∀ i H x H',i < ds.length→inv H→J.IG i H x H'→(∀ b o,H b=some o→H' b=some o)∧∃ d,ds[i]?=some d∧Dat K H' d x
 stop:∀ H,inv H→J.stop ds.length H
end L3
namespace L2
open PySem PySem.Spec PyProof.Rows
section
variable {X:Cx} {pins:List (Addr ×Obj)} {σ:St} {H:Hp} {s:Shared} {h':Heap}
theorem Inv.JF {t':Nat} {fp:List Addr} (I:Inv X pins σ H s) (k:∀ b o,b∉fp→s.heap.get? b=some o→h'.get? b=some o) (hf:∀ b∈fp,nj X pins H b):Inv X pins σ H { s with heap:=h',toks:=t' }:=by
 have NP:∀ b u,H b=some u→b∉fp:=fun b u e z=>by rw [(hf b z).1] at e;cases e
 refine I.step (g':=s.gens) (d':=s.drawn) (ch:=fp) (fun b hb=>?_) (fun b o _ _ hc e _=>k b o hc e) (fun b o _ _ hc e _=>⟨o.slots,k b o hc e⟩) (fun _ _ _ _ n=>n)
  (fun b o hc e=>⟨o,k b o hc e⟩) (fun _ _ e=>e) (fun _ _ _ e=>e) (fun b ps e=>⟨#[],by rw [e];simp⟩) (fun m hm=>?_) (fun b u e=>?_) I.bare
 ·obtain ⟨f0,f1,f2,f3,f4,f5⟩:=hf b hb
  exact ⟨f3,f1,f4,f5⟩
 ·obtain ⟨o,es,ep,ho,r⟩:=hm
  exact ⟨o,es,ep,k _ o (fun z=>(hf _ z).2.1 rfl) ho,r⟩
 ·refine (I.hok b u e).stay (fun c v hc q=>k c v ?_ q) (fun _ q=>q) fun _ _ q=>q
  rcases hc with z | z
  ·rw [z];exact NP b u e
  ·exact NP c _ z
end
section
variable {X:Cx}
theorem EU:bootBuiltins "zip" =some (.type "zip"):=by decide +kernel
end
end L2
namespace L3
open PySem PySem.Spec PyProof.Rows L2
def pairD (x y:D):D:= .tup [x,y]
section
variable {X:Cx} {pos:Pos} {body:List Stmt} {g:BY} {tb:nk}
end
end L3
namespace PySem
open PySem.Calls PySem.W
abbrev jO (h:Heap) (z TI TO T:Addr) (f:Bool):Prop:=
 h.get? z=some { cls:= .type "zip",dict:=none,data:= .fields #[rawInt T,.bool f,.bool false,.ref TI,.ref TO],slots:= #[] }
section
variable {prog:Program} {w:World} {A:Around} {E:Value→Shared→Prop} {s:Shared}
theorem Bk {M:Model} {a:Addr} {Q:Option Obj→Shared→Prop} (h:Q (s.heap.get? a) s):wpAny M A (loadIfAlive a) Q E s:=
 fun _ _ _=>h
theorem qW {z TI TO T:Addr} {f:Bool} {oT:Obj} {Q:Bool→Shared→Prop} (hz:jO s.heap z TI TO T f) (hT:s.heap.get? T=some oT)
 (hQ:∀ h',jO h' z TI TO T true→h'.objs.size=s.heap.objs.size→(∀ c o,c≠z→s.heap.get? c=some o→h'.get? c=some o)→Q false { s with heap:=h' }) :
 wpAny (model prog w) A (Builtin.SmallTypes.ownedTupleIsFree (.ref z)) Q E s:=by
 unfold Builtin.SmallTypes.ownedTupleIsFree
 refine wpAny_bind (wpAny_field hz rfl (x:=rawInt T) rfl ?_)
 show wpAny _ _ (loadIfAlive T >>= _) _ _ _
 refine wpAny_bind (Bk ?_)
 rw [hT]
 show wpAny _ _ (field (.ref z) 1 >>= _) _ _ _
 refine wpAny_bind (wpAny_field hz rfl (x:= .bool f) rfl ?_)
 cases f with
 | true=>exact wpAny_pure (hQ s.heap hz rfl fun _ _ _ e=>e)
 | false=>
   show wpAny _ _ (setField (.ref z) 1 (.bool true) >>= _) _ _ _
   refine wpAny_bind (wpAny_setField_rec hz (by simp) fun h₁ Qy hs₁=>wpAny_pure (hQ h₁ Qy hs₁.1 fun c o c1 e=>hs₁.extBut _ _ c1 e))
theorem wW {z TI TO T i1 i2 l1 l2:Addr} {f:Bool} {k1 k2:Nat} {xs ys:Array Value} {x y:Value} {oT:Obj} {Q:Value→Shared→Prop} (D:ZipApart z TI TO i1 i2 l1 l2)
 (hz:jO s.heap z TI TO T f) (hT:s.heap.get? T=some oT) (hTI:IsPair s.heap TI (.ref i1) (.ref i2))
 (h1:s.heap.IsListIter i1 l1 k1) (h2:s.heap.IsListIter i2 l2 k2) (hl1:s.heap.IsList l1 xs) (hl2:s.heap.IsList l2 ys) (hx:xs[k1]?=some x) (hy:ys[k2]?=some y)
 (hQ:∀ h',jO h' z TI TO T true→h'.IsListIter i1 l1 (k1+1)→h'.IsListIter i2 l2 (k2+1)→IsPair h' s.heap.objs.size x y→h'.objs.size=s.heap.objs.size+1→
  (∀ c o,c≠z→c≠i1→c≠i2→s.heap.get? c=some o→h'.get? c=some o)→Q (.ref s.heap.objs.size) { s with heap:=h' }) :
 wpAny (model prog w) A (Builtin.«zip.__next__» ⟨[.ref z],[]⟩) (fun fin s'=> ∃ v,fin= .done (.ret v)∧Q v s') E s:=by
 show wpAny _ _ (field (.ref z) 2 >>= _) _ _ _
 refine wpAny_bind (wpAny_field hz rfl (x:= .bool false) rfl ?_)
 show wpAny _ _ (field (.ref z) 3 >>= _) _ _ _
 refine wpAny_bind (wpAny_field hz rfl (x:= .ref TI) rfl ?_)
 refine wpAny_bind (wpAny_seqItems hTI rfl ?_)
 show wpAny _ _ (Builtin.SmallTypes.ownedTupleIsFree (.ref z) >>= _) _ _ _
 refine wpAny_bind (qW hz hT fun h₁ Qy hn₁ hk₁=>?_)
 simp only [Zm,if_false]
 have e1:h₁.IsListIter i1 l1 k1:=h1.at fun o e=>hk₁ i1 o D.i1z e
 have e2:h₁.IsListIter i2 l2 k2:=h2.at fun o e=>hk₁ i2 o D.i2z e
 have m1:h₁.IsList l1 xs:=by obtain ⟨o,e,r⟩:=hl1;exact ⟨o,hk₁ _ _ D.l1z e,r⟩
 have m2:h₁.IsList l2 ys:=by obtain ⟨o,e,r⟩:=hl2;exact ⟨o,hk₁ _ _ D.l2z e,r⟩
 refine wpAny_bind ?_
 rw [← Array.forIn_toList]
 simp only [aaD,aaX]
 refine wpAny_bind (wpAny_bind (wpAny_holding ?_))
 show wpAny _ _ (Builtin.SmallTypes.nextOf (.ref i1) >>= _) _ _ _
 refine wpAny_bind (wpAny_nextOf_list_item e1 m1 hx fun h₂ g1 hs₂=>wpAny_pure (wpAny_pure ?_))
 refine wpAny_bind (wpAny_bind (wpAny_holding ?_))
 show wpAny _ _ (Builtin.SmallTypes.nextOf (.ref i2) >>= _) _ _ _
 refine wpAny_bind (wpAny_nextOf_list_item (e2.extBut hs₂.extBut D.i12.symm) (m2.extBut hs₂.extBut D.l2i1) hy fun h₃ g2 Ny=>wpAny_pure (wpAny_pure (wpAny_pure ?_)))
 show wpAny _ _ (newTuple [x,y] >>= _) _ _ _
 refine wpAny_bind (wpAny_newTuple ?_)
 have hsz:h₃.objs.size=s.heap.objs.size:=by rw [Ny.1,hs₂.1,hn₁]
 have kp:∀ c o,c≠z→c≠i1→c≠i2→s.heap.get? c=some o→h₃.get? c=some o:=fun c o c1 c2 c3 e=>Ny.extBut _ _ c3 (hs₂.extBut _ _ c2 (hk₁ c o c1 e))
 have z3:jO h₃ z TI TO T true:=Ny.extBut _ _ D.i2z.symm (hs₂.extBut _ _ D.i1z.symm Qy)
 have g3:h₃.IsListIter i1 l1 (k1+1):=g1.extBut Ny.extBut D.i12
 have up:∀ c o,h₃.get? c=some o→(h₃.push { cls:= .type "tuple",data:= .seq #[x,y] }).get? c=some o:=fun c o e=>Heap.get?_push_of_some _ e
 refine wpAny_pure ⟨_,rfl,?_⟩
 show Q (.ref h₃.objs.size) _
 have hp:IsPair (h₃.push { cls:= .type "tuple",data:= .seq #[x,y] }) h₃.objs.size x y:=Heap.get?_push_size _ rfl
 have q:=hQ (h₃.push { cls:= .type "tuple",data:= .seq #[x,y] }) (up _ _ z3) (g3.at fun o e=>up _ o e) (g2.at fun o e=>up _ o e) (by rw [← hsz];exact hp) (by rw [Heap.size_push,hsz]) fun c o c1 c2 c3 e=>up c o (kp c o c1 c2 c3 e)
 rw [hsz]
 exact q
theorem zu {z TI TO T i1 i2 l1 l2:Addr} {f:Bool} {k1 k2:Nat} {xs ys:Array Value} {oT:Obj} {Q:Fin→Shared→Prop} (hh:A.handled=none) (D:ZipApart z TI TO i1 i2 l1 l2)
 (hz:jO s.heap z TI TO T f) (hT:s.heap.get? T=some oT) (hTI:IsPair s.heap TI (.ref i1) (.ref i2))
 (h1:s.heap.IsListIter i1 l1 k1) (h2:s.heap.IsListIter i2 l2 k2) (hl1:s.heap.IsList l1 xs) (hl2:s.heap.IsList l2 ys) (hend:xs[k1]?=none∨ys[k2]?=none)
 (hE:∀ h' e,(∀ c o,c≠z→c≠i1→c≠i2→s.heap.get? c=some o→h'.get? c=some o)→(∃ o,h'.get? e=some o∧o.cls= .type "StopIteration")→E (.ref e) { s with heap:=h' }) :
 wpAny (model prog w) A (Builtin.«zip.__next__» ⟨[.ref z],[]⟩) Q E s:=by
 show wpAny _ _ (field (.ref z) 2 >>= _) _ _ _
 refine wpAny_bind (wpAny_field hz rfl (x:= .bool false) rfl ?_)
 show wpAny _ _ (field (.ref z) 3 >>= _) _ _ _
 refine wpAny_bind (wpAny_field hz rfl (x:= .ref TI) rfl ?_)
 refine wpAny_bind (wpAny_seqItems hTI rfl ?_)
 show wpAny _ _ (Builtin.SmallTypes.ownedTupleIsFree (.ref z) >>= _) _ _ _
 refine wpAny_bind (qW hz hT fun h₁ Qy hn₁ hk₁=>?_)
 simp only [Zm,if_false]
 have e1:h₁.IsListIter i1 l1 k1:=h1.at fun o e=>hk₁ i1 o D.i1z e
 have e2:h₁.IsListIter i2 l2 k2:=h2.at fun o e=>hk₁ i2 o D.i2z e
 have m1:h₁.IsList l1 xs:=by obtain ⟨o,e,r⟩:=hl1;exact ⟨o,hk₁ _ _ D.l1z e,r⟩
 have m2:h₁.IsList l2 ys:=by obtain ⟨o,e,r⟩:=hl2;exact ⟨o,hk₁ _ _ D.l2z e,r⟩
 refine wpAny_bind ?_
 rw [← Array.forIn_toList]
 simp only [aaD,aaX]
 refine wpAny_bind (wpAny_bind (wpAny_holding ?_))
 show wpAny _ _ (Builtin.SmallTypes.nextOf (.ref i1) >>= _) _ _ _
 cases hx:xs[k1]? with
 | none=>exact wpAny_bind (wpAny_nextOf_list_end hh e1 m1 hx fun h₂ e hs₂ he=>hE h₂ e (fun c o c1 c2 c3 x=>hs₂ _ _ c2 (hk₁ c o c1 x)) he)
 | some x=>
   have hy:ys[k2]?=none:=by
    rcases hend with h | h
    ·rw [hx] at h;cases h
    ·exact h
   refine wpAny_bind (wpAny_nextOf_list_item e1 m1 hx fun h₂ g1 hs₂=>wpAny_pure (wpAny_pure ?_))
   refine wpAny_bind (wpAny_bind (wpAny_holding ?_))
   show wpAny _ _ (Builtin.SmallTypes.nextOf (.ref i2) >>= _) _ _ _
   exact wpAny_bind (wpAny_nextOf_list_end hh (e2.extBut hs₂.extBut D.i12.symm) (m2.extBut hs₂.extBut D.l2i1) hy fun h₃ e Ny he=>hE h₃ e (fun c o c1 c2 c3 x=>Ny _ _ c3 (hs₂.extBut _ _ c2 (hk₁ c o c1 x))) he)
theorem EV {z TI TO T i1 i2 l1 l2:Addr} {f:Bool} {k1 k2:Nat} {xs ys:Array Value} {x y:Value} {oT:Obj} {Q:Option Value→Shared→Prop} (D:ZipApart z TI TO i1 i2 l1 l2)
 (hz:jO s.heap z TI TO T f) (hT:s.heap.get? T=some oT) (hTI:IsPair s.heap TI (.ref i1) (.ref i2))
 (h1:s.heap.IsListIter i1 l1 k1) (h2:s.heap.IsListIter i2 l2 k2) (hl1:s.heap.IsList l1 xs) (hl2:s.heap.IsList l2 ys) (hx:xs[k1]?=some x) (hy:ys[k2]?=some y)
 (hQ:∀ h',jO h' z TI TO T true→h'.IsListIter i1 l1 (k1+1)→h'.IsListIter i2 l2 (k2+1)→IsPair h' s.heap.objs.size x y→h'.objs.size=s.heap.objs.size+1→
  (∀ c o,c≠z→c≠i1→c≠i2→s.heap.get? c=some o→h'.get? c=some o)→Q (some (.ref s.heap.objs.size)) { s with heap:=h' }) :
 wpAny (model prog w) A (pyNext (.ref z)) Q E s:=by
 have hTy:s.TypeIs (.ref z) "zip" :=⟨_,hz,rfl⟩
 unfold pyNext
 exact wpAny_bind (wpAny_attempt (wpAny_callSpecial?_slot (name:=Str.ofString "__next__") hTy F.slot_zip_next
  (wpAny_call_entry F.slot_zip_next hTy F.entry_zip_next
   (wW D hz hT hTI h1 h2 hl1 hl2 hx hy fun h' a1 a2 a3 a4 a5 a6=>wpAny_pure (hQ h' a1 a2 a3 a4 a5 a6)) (F.args_zip_next_1 _))))
theorem G5 {z TI TO T i1 i2 l1 l2:Addr} {f:Bool} {k1 k2:Nat} {xs ys:Array Value} {oT:Obj} {Q:Option Value→Shared→Prop} (hh:A.handled=none) (D:ZipApart z TI TO i1 i2 l1 l2)
 (hz:jO s.heap z TI TO T f) (hT:s.heap.get? T=some oT) (hTI:IsPair s.heap TI (.ref i1) (.ref i2))
 (h1:s.heap.IsListIter i1 l1 k1) (h2:s.heap.IsListIter i2 l2 k2) (hl1:s.heap.IsList l1 xs) (hl2:s.heap.IsList l2 ys) (hend:xs[k1]?=none∨ys[k2]?=none)
 (hQ:∀ h',(∀ c o,c≠z→c≠i1→c≠i2→s.heap.get? c=some o→h'.get? c=some o)→Q none { s with heap:=h' }):wpAny (model prog w) A (pyNext (.ref z)) Q E s:=by
 have hTy:s.TypeIs (.ref z) "zip" :=⟨_,hz,rfl⟩
 unfold pyNext
 refine wpAny_bind (wpAny_attempt (wpAny_callSpecial?_slot (name:=Str.ofString "__next__") hTy F.slot_zip_next
  (wpAny_call_entry F.slot_zip_next hTy F.entry_zip_next (zu hh D hz hT hTI h1 h2 hl1 hl2 hend fun h' e hk he=>?_) (F.args_zip_next_1 _))))
 obtain ⟨o,ho,hc⟩:=he
 refine wpAny_bind (wpAny_isInstance (T:= "StopIteration") (b:=true) ⟨o,ho,hc⟩ isSubtype_stop ?_)
 exact wpAny_pure (hQ _ hk)
def Pu (N0:Nat) (h:Heap) (z TI TO:Addr):Prop:=
 (IsZip h z TI TO .none∧∃ a b,IsPair h TO a b)∨∃ T f oT,jO h z TI TO T f∧h.get? T=some oT∧N0≤T
structure m5 (N0:Nat) (xs ys:Array Value) (z TI TO i1 i2 l1 l2:Addr) (i:Nat) (h:Heap):Prop where
 st:Pu N0 h z TI TO
 ti:IsPair h TI (.ref i1) (.ref i2)
 i1:h.IsListIter i1 l1 i
 i2:h.IsListIter i2 l2 i
 l1:h.IsList l1 xs
 l2:h.IsList l2 ys
theorem m5.next {N0:Nat} {z TI TO i1 i2 l1 l2:Addr} {i:Nat} {xs ys:Array Value} {x y:Value} {Q:Option Value→Shared→Prop} (D:ZipApart z TI TO i1 i2 l1 l2)
 (Z:m5 N0 xs ys z TI TO i1 i2 l1 l2 i s.heap) (hN:N0≤s.heap.objs.size) (lt:z < N0∧TO < N0∧i1 < N0∧i2 < N0) (hx:xs[i]?=some x) (hy:ys[i]?=some y)
 (hQ:∀ h',m5 N0 xs ys z TI TO i1 i2 l1 l2 (i+1) h'→IsPair h' s.heap.objs.size x y→h'.objs.size=s.heap.objs.size+1→
  (∀ c o,c≠z→c≠TO→c≠i1→c≠i2→s.heap.get? c=some o→h'.get? c=some o)→Q (some (.ref s.heap.objs.size)) { s with heap:=h' }) :
 wpAny (model prog w) A (pyNext (.ref z)) Q E s:=by
 obtain ⟨st,ti,a1,a2,m1,m2⟩:=Z
 have tl:∀ {h':Heap},(∀ c o,c≠z→c≠TO→c≠i1→c≠i2→s.heap.get? c=some o→h'.get? c=some o)→h'.IsList l1 xs∧h'.IsList l2 ys∧IsPair h' TI (.ref i1) (.ref i2):=fun k=>by
  refine ⟨?_,?_,k _ _ D.TIz D.TITO D.TIi1 D.TIi2 ti⟩
  ·obtain ⟨o,e,r⟩:=m1;exact ⟨o,k _ _ D.l1z D.l1TO D.l1i1 D.l1i2 e,r⟩
  ·obtain ⟨o,e,r⟩:=m2;exact ⟨o,k _ _ D.l2z D.l2TO D.l2i1 D.l2i2 e,r⟩
 rcases st with ⟨hz,a,b,hTO⟩ | ⟨T,f,oT,hz,hT,KO⟩
 ·refine wpAny_pyNext_zip_item D hz ti hTO a1 a2 m1 m2 hx hy fun h' b1 b2 b3 b4 b5 b6 b7=>?_
  obtain ⟨t1,t2,t3⟩:=tl b7
  exact hQ h' ⟨.inr ⟨_,false,_,b1,b5,hN⟩,t3,b3,b4,t1,t2⟩ b5 b6 b7
 ·refine EV D hz hT ti a1 a2 m1 m2 hx hy fun h' b1 b3 b4 b5 b6 b7=>?_
  obtain ⟨t1,t2,t3⟩:=tl fun c o c1 c2 c3 c4 e=>b7 c o c1 c3 c4 e
  exact hQ h' ⟨.inr ⟨_,true,_,b1,b7 T _ (ZM (Zc lt.1 KO)) (ZM (Zc lt.2.2.1 KO)) (ZM (Zc lt.2.2.2 KO)) hT,KO⟩,t3,b3,b4,t1,t2⟩ b5 b6 fun c o c1 c2 c3 c4 e=>b7 c o c1 c3 c4 e
theorem m5.fin {N0:Nat} {z TI TO i1 i2 l1 l2:Addr} {i:Nat} {xs ys:Array Value} {Q:Option Value→Shared→Prop} (hh:A.handled=none) (D:ZipApart z TI TO i1 i2 l1 l2)
 (Z:m5 N0 xs ys z TI TO i1 i2 l1 l2 i s.heap) (hend:xs[i]?=none∨ys[i]?=none)
 (hQ:∀ h',(∀ c o,c≠z→c≠TO→c≠i1→c≠i2→s.heap.get? c=some o→h'.get? c=some o)→Q none { s with heap:=h' }):wpAny (model prog w) A (pyNext (.ref z)) Q E s:=by
 obtain ⟨st,ti,a1,a2,m1,m2⟩:=Z
 rcases st with ⟨hz,a,b,hTO⟩ | ⟨T,f,oT,hz,hT,KO⟩
 ·exact wpAny_pyNext_zip_end hh D hz ti hTO a1 a2 m1 m2 hend hQ
 ·exact G5 hh D hz hT ti a1 a2 m1 m2 hend fun h' k=>hQ h' fun c o c1 _ c3 c4 e=>k c o c1 c3 c4 e
theorem m5.keep {N0:Nat} {z TI TO i1 i2 l1 l2 S:Addr} {i:Nat} {xs ys:Array Value} {h h':Heap} (Z:m5 N0 xs ys z TI TO i1 i2 l1 l2 i h) (hS:S < N0) (ne:S≠z∧S≠TI∧S≠TO∧S≠i1∧S≠i2∧S≠l1∧S≠l2)
 (k:∀ c o,c≠S→h.get? c=some o→h'.get? c=some o):m5 N0 xs ys z TI TO i1 i2 l1 l2 i h':=by
 obtain ⟨st,ti,a1,a2,m1,m2⟩:=Z
 obtain ⟨n1,n2,n3,n4,n5,n6,n7⟩:=ne
 refine ⟨?_,k _ _ n2.symm ti,a1.at fun o e=>k _ o n4.symm e,a2.at fun o e=>k _ o n5.symm e,?_,?_⟩
 ·rcases st with ⟨hz,a,b,hTO⟩ | ⟨T,f,oT,hz,hT,KO⟩
  ·exact .inl ⟨k _ _ n1.symm hz,a,b,k _ _ n3.symm hTO⟩
  ·exact .inr ⟨T,f,oT,k _ _ n1.symm hz,k _ _ (ZM (Zc hS KO)) hT,KO⟩
 ·obtain ⟨o,e,r⟩:=m1;exact ⟨o,k _ _ n6.symm e,r⟩
 ·obtain ⟨o,e,r⟩:=m2;exact ⟨o,k _ _ n7.symm e,r⟩
def eO (N0:Nat) (xs ys:Array Value) (h:Heap) (acc:Array Value) (i:Nat):Prop:=
 acc.size=i∧(∀ j x y,j < i→xs[j]?=some x→ys[j]?=some y→∃ p,acc[j]?=some (.ref p)∧IsPair h p x y∧N0≤p)∧acc.toList.Nodup
theorem eO.keep {N0:Nat} {xs ys:Array Value} {h h':Heap} {acc:Array Value} {i:Nat} (P:eO N0 xs ys h acc i) (k:∀ c o,N0≤c→h.get? c=some o→h'.get? c=some o):eO N0 xs ys h' acc i:=
 ⟨P.1,(fun j x y hj hx hy=>by obtain ⟨p,e1,e2,e3⟩:=P.2.1 j x y hj hx hy;exact ⟨p,e1,k p _ e3 e2,e3⟩),P.2.2⟩
theorem eO.push {N0:Nat} {xs ys:Array Value} {h:Heap} {acc:Array Value} {i:Nat} {x y:Value} {p:Addr} (P:eO N0 xs ys h acc i) (hx:xs[i]?=some x) (hy:ys[i]?=some y) (hp:IsPair h p x y) (hN:N0≤p) (hnew:Value.ref p∉acc.toList):eO N0 xs ys h (acc.push (.ref p)) (i+1):=by
 refine ⟨by rw [Array.size_push,P.1],fun j u v hj hu hv=>?_,by rw [Array.toList_push,aan];exact ⟨P.2.2,by simp,fun a ha b hb e=>by rw [Y8.mp hb] at e;rw [e] at ha;exact hnew ha⟩⟩
 by_cases e:j=i
 ·subst e
  rw [hx] at hu;rw [hy] at hv
  cases hu;cases hv
  refine ⟨p,?_,hp,hN⟩
  have:=P.1
  subst this
  exact Array.getElem?_push_size
 ·obtain ⟨q,e1,e2,e3⟩:=P.2.1 j u v (by omega) hu hv
  refine ⟨q,?_,e2,e3⟩
  rw [Array.getElem?_push,if_neg (by rw [P.1];exact e)]
  exact e1
variable {R:Result→Shared→Prop}
theorem G6 {N0:Nat} {z TI TO i1 i2 l1 l2 S:Addr} {xs ys:Array Value} (hh:A.in1.handled=none) (D:ZipApart z TI TO i1 i2 l1 l2) (lt:z < N0∧TO < N0∧i1 < N0∧i2 < N0) (KP:S < N0) (ne:S≠z∧S≠TI∧S≠TO∧S≠i1∧S≠i2∧S≠l1∧S≠l2) (n:Nat) (hn:n=min xs.size ys.size) (hsz:n≤sizeLine) (res:Value) :
 ∀ (k i:Nat) (s:Shared) (acc:Array Value) (c:Nat),n - i=k→i≤n→N0≤s.heap.objs.size→m5 N0 xs ys z TI TO i1 i2 l1 l2 i s.heap→s.heap.get? S=some { cls:= .type "list",dict:=none,data:= .seq acc c,slots:= #[] }→eO N0 xs ys s.heap acc i→
 (∀ h' acc' c',(∀ b o,b≠S→b≠z→b≠TO→b≠i1→b≠i2→s.heap.get? b=some o→h'.get? b=some o)→h'.get? S=some { cls:= .type "list",dict:=none,data:= .seq acc' c',slots:= #[] }→eO N0 xs ys h' acc' n→R (.ok (.ret res)) { s with heap:=h' })→
 codeAny (model prog w) A (.builtin "list.extend.loop" ⟨[.ref S,.ref z,res],[]⟩) R s:=by
 obtain ⟨n1,n2,n3,n4,n5,n6,n7⟩:=id ne
 intro k
 induction k with
 | zero=>
   intro i s acc c hk hi hN Z hS hP hR
   have hin:i=n:=by omega
   refine codeAny_builtin F.entry_extend_loop ?_
   rw [Around.under_plainId F.plain_extend_loop _]
   show wpAny _ A.in1 (pyNext (.ref z) >>= _) _ _ s
   have hend:xs[i]?=none∨ys[i]?=none:=by
    rcases Nat.le_total xs.size ys.size with q | q
    ·left;rw [Array.getElem?_eq_none];omega
    ·right;rw [Array.getElem?_eq_none];omega
   refine wpAny_bind (Z.fin hh D hend fun h' kp=>?_)
   subst hin
   refine wpAny_pure (hR h' acc c (fun b o b1 b2 b3 b4 b5 e=>kp b o b2 b3 b4 b5 e) (kp S _ n1 n3 n4 n5 hS) (hP.keep fun c o hc e=>kp c o ?_ ?_ ?_ ?_ e))
   ·exact ZM (Zc lt.1 hc)
   ·exact ZM (Zc lt.2.1 hc)
   ·exact ZM (Zc lt.2.2.1 hc)
   ·exact ZM (Zc lt.2.2.2 hc)
 | succ k ih=>
   intro i s acc c hk hi hN Z hS hP hR
   have hlt:i < n:=by omega
   have lx:i < xs.size:=by omega
   have ly:i < ys.size:=by omega
   refine codeAny_builtin F.entry_extend_loop ?_
   rw [Around.under_plainId F.plain_extend_loop _]
   show wpAny _ A.in1 (pyNext (.ref z) >>= _) _ _ s
   have hx:xs[i]?=some xs[i]:=Array.getElem?_eq_getElem lx
   have hy:ys[i]?=some ys[i]:=Array.getElem?_eq_getElem ly
   refine wpAny_bind (Z.next D hN lt hx hy fun h' Z' hp hz' kp=>?_)
   have hS':=kp S _ n1 n3 n4 n5 hS
   have Vh:eO N0 xs ys h' acc i:=hP.keep fun c o hc e=>kp c o (ZM (Zc lt.1 hc)) (ZM (Zc lt.2.1 hc)) (ZM (Zc lt.2.2.1 hc)) (ZM (Zc lt.2.2.2 hc)) e
   have hnew:Value.ref s.heap.objs.size∉acc.toList:=fun hm=>by
    obtain ⟨j,hj,ej⟩:=List.mem_iff_getElem.mp hm
    have hj':j < acc.size:=by simpa using hj
    have hji:j < i:=by rw [← hP.1];exact hj'
    have gx:xs[j]?=some xs[j]:=Array.getElem?_eq_getElem (by omega)
    have gy:ys[j]?=some ys[j]:=Array.getElem?_eq_getElem (by omega)
    obtain ⟨q,e1,e2,e3⟩:=hP.2.1 j _ _ hji gx gy
    rw [Array.getElem?_eq_getElem hj'] at e1
    have e4:acc[j]=Value.ref s.heap.objs.size:=by rw [← ej];simp
    rw [e4] at e1
    have e5:s.heap.objs.size=q:=by injection Option.some.inj e1
    have:=Heap.lt_size e2
    rw [← e5] at this
    exact ZJ _ this
   show wpAny _ A.in1 (updateSeq S (·.push (.ref s.heap.objs.size)) >>= _) _ _ _
   refine wpAny_bind ?_
   have up:∀ b o,b≠S→h'.get? b=some o→(h'.update S (Obj.mapSeq (·.push (.ref s.heap.objs.size)))).get? b=some o:=fun b o hb e=>(Heap.get?_update_other _ _ (Ne.symm hb)).trans e
   refine wpAny_updateSeq hS' rfl (wpAny_pure ⟨plainId_quiet F.plain_extend_loop _,ih (i+1) _ (acc.push (.ref s.heap.objs.size)) _ (by omega) hlt ?_ (Z'.keep KP ne fun c o hc e=>up c o hc e) (Heap.get?_update_self _ hS' rfl)
    ((Vh.push hx hy hp hN hnew).keep fun c o hc e=>up c o (ZM (Zc KP hc)) e) fun h'' acc' c' Sb Sd Se=>?_⟩) (by rw [hP.1];omega) (by show (acc.push _).size≤sizeLine+1;rw [Array.size_push,hP.1];omega)
   ·show N0≤(h'.update S _).objs.size
    have:(h'.update S (Obj.mapSeq (·.push (.ref s.heap.objs.size)))).objs.size=h'.objs.size:=(Heap.SameBut.update ..).1
    omega
   ·exact hR h'' acc' c' (fun b o b1 b2 b3 b4 b5 e=>Sb b o b1 b2 b3 b4 b5 (up b o b1 (kp b o b2 b3 b4 b5 e))) Sd Se
theorem Cu:typeLookup (.type "zip") "__len__" =pure none:=by rw [typeLookup_type,builtinLookup_eq_fast];kernel_rfl
theorem Bl:typeLookup (.type "zip") "__length_hint__" =pure none:=by rw [typeLookup_type,builtinLookup_eq_fast];kernel_rfl
theorem Cv {N0:Nat} {z TI TO i1 i2 l1 l2 S:Addr} {xs ys:Array Value} {c₀:Nat} (hh:A.in1.handled=none) (D:ZipApart z TI TO i1 i2 l1 l2) (lt:z < N0∧TO < N0∧i1 < N0∧i2 < N0) (KP:S < N0) (ne:S≠z∧S≠TI∧S≠TO∧S≠i1∧S≠i2∧S≠l1∧S≠l2) (n:Nat) (hn:n=min xs.size ys.size) (hsz:n≤sizeLine) (res:Value)
 (hN:N0≤s.heap.objs.size) (Z:m5 N0 xs ys z TI TO i1 i2 l1 l2 0 s.heap) (hz:IsZip s.heap z TI TO .none) (hS:s.heap.get? S=some { cls:= .type "list",data:= .seq #[] c₀ })
 (hR:∀ h' acc' c',(∀ b o,b≠S→b≠z→b≠TO→b≠i1→b≠i2→s.heap.get? b=some o→h'.get? b=some o)→h'.get? S=some { cls:= .type "list",dict:=none,data:= .seq acc' c',slots:= #[] }→eO N0 xs ys h' acc' n→R (.ok (.ret res)) { s with heap:=h' }) :
 wpAny (model prog w) A.in1 (Builtin.List.listExtendWith (.ref S) (.ref z) res)
  (fun fin s'=>match fin with | .done f=>R (.ok f) s' | .again c'=>c'.quiet=true∧codeAny (model prog w) A c' R s') (fun e s'=>R (.error e) s') s:=by
 have hTy:s.TypeIs (.ref z) "zip" :=⟨_,hz,rfl⟩
 unfold Builtin.List.listExtendWith
 refine wpAny_bind (wpAny_typeOf hTy ?_)
 have h1:Builtin.List.listSameRef (.ref S) (.ref z)=false:=by simp [Builtin.List.listSameRef,ne.1]
 have h2:(Value.type "zip" == Value.type "list")=false:=by decide
 have h3:(Value.type "zip" == Value.type "tuple")=false:=by decide
 simp only [h1,h2,h3,abQ,Zm,if_false]
 refine wpAny_bind (wpAny_pyIter_zip hz ?_)
 refine wpAny_bind (wpAny_holding ?_)
 unfold Builtin.List.listLengthHint
 refine wpAny_bind (wpAny_specialOf hTy Cu ?_)
 show wpAny _ A.in1 (specialOf (Value.ref z) (Str.ofString "__length_hint__") >>= _) _ _ _
 refine wpAny_bind (wpAny_specialOf hTy Bl ?_)
 refine wpAny_pure ?_
 show wpAny _ A.in1 (rule "list.extend.makes-room" >>= fun _=>Builtin.List.listTouch (.ref S) >>= fun _=>
  again (.builtin "list.extend.loop" ⟨[.ref S,.ref z,res],[]⟩)) _ _ _
 refine wpAny_bind (wpAny_rule ?_)
 refine wpAny_bind ?_
 show wpAny _ A.in1 (updateSeq S (·.push .none) >>= fun _=>updateSeq S (·.pop)) _ _ _
 refine wpAny_bind (wpAny_updateSeq hS rfl ?_)
 have Nv:=Heap.get?_update_self (Obj.mapSeq (·.push Value.none)) hS rfl
 refine wpAny_updateSeq (hz:=by seq_fits) Nv rfl ?_
 have Vi:=Heap.get?_update_self (Obj.mapSeq (·.pop)) Nv rfl
 have JE:∀ b o,b≠S→s.heap.get? b=some o→((s.heap.update S (Obj.mapSeq (·.push Value.none))).update S (Obj.mapSeq (·.pop))).get? b=some o:=
  fun b o hb e=>(Heap.get?_update_other _ _ (Ne.symm hb)).trans ((Heap.get?_update_other _ _ (Ne.symm hb)).trans e)
 have Sf:((s.heap.update S (Obj.mapSeq (·.push Value.none))).update S (Obj.mapSeq (·.pop))).objs.size=s.heap.objs.size:=by
  rw [(Heap.SameBut.update ..).1,(Heap.SameBut.update ..).1]
 refine wpAny_pure ⟨plainId_quiet F.plain_extend_loop _,G6 hh D lt KP ne n hn hsz res n 0 _ _ _ rfl (Z3 _) (aae hN (abU Sf.symm)) (Z.keep KP ne fun c o hc e=>JE c o hc e) Vi ⟨rfl,(fun j x y hj=>absurd hj (abC _)),abd⟩ fun h' acc' c' kp hS' hP=>?_⟩
 exact hR h' acc' c' (fun b o b1 b2 b3 b4 b5 e=>kp b o b1 b2 b3 b4 b5 (JE b o b1 e)) hS' hP
theorem wX {N0:Nat} {z TI TO i1 i2 l1 l2 S:Addr} {xs ys:Array Value} (hh:A.in1.handled=none) (D:ZipApart z TI TO i1 i2 l1 l2) (lt:z < N0∧TO < N0∧i1 < N0∧i2 < N0) (KP:S < N0) (ne:S≠z∧S≠TI∧S≠TO∧S≠i1∧S≠i2∧S≠l1∧S≠l2) (n:Nat) (hn:n=min xs.size ys.size) (hsz:n≤sizeLine)
 (hN:N0≤s.heap.objs.size) (Z:m5 N0 xs ys z TI TO i1 i2 l1 l2 0 s.heap) (hz:IsZip s.heap z TI TO .none) (hS:s.heap.get? S=some { cls:= .type "list",data:= .seq #[] })
 (hR:∀ h' acc' c',(∀ b o,b≠S→b≠z→b≠TO→b≠i1→b≠i2→s.heap.get? b=some o→h'.get? b=some o)→h'.get? S=some { cls:= .type "list",dict:=none,data:= .seq acc' c',slots:= #[] }→eO N0 xs ys h' acc' n→R (.ok (.ret .none)) { s with heap:=h' }) :
 wpAny (model prog w) A.in1 (Builtin.«list.__init__» ⟨[.ref S,.ref z],[]⟩)
  (fun fin s'=>match fin with | .done f=>R (.ok f) s' | .again c'=>c'.quiet=true∧codeAny (model prog w) A c' R s') (fun e s'=>R (.error e) s') s:=by
 show wpAny _ A.in1 (do let old ← Builtin.List.listItems (.ref S);Builtin.List.listUpdate (.ref S) (fun _=> #[]);letGo old.toList.reverse;Builtin.List.listExtendWith (.ref S) (.ref z) .none) _ _ s
 refine wpAny_bind ?_
 unfold Builtin.List.listItems
 refine wpAny_bind (wpAny_seqItems hS rfl (wpAny_pure ?_))
 show wpAny _ A.in1 (updateSeq S (fun _=> #[]) >>= fun _=>letGo (#[]:Array Value).toList.reverse >>= fun _=>Builtin.List.listExtendWith (.ref S) (.ref z) .none) _ _ s
 refine wpAny_bind (wpAny_updateSeq hS rfl ?_)
 have Nv:=Heap.get?_update_self (Obj.mapSeq (fun _=>(#[]:Array Value))) hS rfl
 have JE:∀ b o,b≠S→s.heap.get? b=some o→(s.heap.update S (Obj.mapSeq (fun _=>(#[]:Array Value)))).get? b=some o:=
  fun b o hb e=>(Heap.get?_update_other _ _ (Ne.symm hb)).trans e
 have Sf:(s.heap.update S (Obj.mapSeq (fun _=>(#[]:Array Value)))).objs.size=s.heap.objs.size:=(Heap.SameBut.update ..).1
 refine wpAny_bind (wpAny_letGo ?_)
 refine Cv hh D lt KP ne n hn hsz .none (aae hN (abU Sf.symm)) (Z.keep KP ne fun c o hc e=>JE c o hc e) (JE _ _ ne.1.symm hz) Nv fun h' acc' c' kp hS' hP=>?_
 exact hR h' acc' c' (fun b o b1 b2 b3 b4 b5 e=>kp b o b1 b2 b3 b4 b5 (JE b o b1 e)) hS' hP
theorem wY {z TI TO i1 i2 l1 l2:Addr} {xs ys:Array Value} {Q:Value→Shared→Prop} (hh:A.in1.in1.handled=none) (D:ZipApart z TI TO i1 i2 l1 l2)
 (lt:z < s.heap.objs.size∧TI < s.heap.objs.size∧TO < s.heap.objs.size∧i1 < s.heap.objs.size∧i2 < s.heap.objs.size∧l1 < s.heap.objs.size∧l2 < s.heap.objs.size) (n:Nat) (hn:n=min xs.size ys.size) (hsz:n≤sizeLine)
 (hz:IsZip s.heap z TI TO .none) (hTI:IsPair s.heap TI (.ref i1) (.ref i2)) {a b:Value} (hTO:IsPair s.heap TO a b) (h1:s.heap.IsListIter i1 l1 0) (h2:s.heap.IsListIter i2 l2 0) (hl1:s.heap.IsList l1 xs) (hl2:s.heap.IsList l2 ys)
 (hQ:∀ h' acc' c',(∀ b o,b≠z→b≠TO→b≠i1→b≠i2→s.heap.get? b=some o→h'.get? b=some o)→h'.get? s.heap.objs.size=some { cls:= .type "list",dict:=none,data:= .seq acc' c',slots:= #[] }→eO (s.heap.objs.size+1) xs ys h' acc' n→Q (.ref s.heap.objs.size) { s with heap:=h' }) :
 wpAny (model prog w) A (call (.type "list") [.ref z]) Q E s:=by
 obtain ⟨q1,q2,q3,q4,q5,q6,q7⟩:=lt
 refine callType_codes (Q₁:=fun obj s₁=>obj= .ref s.heap.objs.size∧s₁= { s with heap:=s.heap.push { cls:= .type "list",data:= .seq #[] } }) F.called_list (F.typeCall_list_1 _) F.entry_list_init
  (code_list_new _ ⟨rfl,rfl⟩) fun obj s₁ h₁=>?_
 obtain ⟨rfl,rfl⟩:=h₁
 have hS:(s.heap.push { cls:= .type "list",data:= .seq #[] }).get? s.heap.objs.size=some { cls:= .type "list",data:= .seq #[] }:=Heap.get?_push_size _ rfl
 have up:∀ c o,s.heap.get? c=some o→(s.heap.push { cls:= .type "list",data:= .seq #[] }).get? c=some o:=fun c o e=>Heap.get?_push_of_some _ e
 have Z:m5 (s.heap.objs.size+1) xs ys z TI TO i1 i2 l1 l2 0 (s.heap.push { cls:= .type "list",data:= .seq #[] }):=
  ⟨.inl ⟨up _ _ hz,a,b,up _ _ hTO⟩,up _ _ hTI,h1.at fun o e=>up _ o e,h2.at fun o e=>up _ o e,(by obtain ⟨o,e,r⟩:=hl1;exact ⟨o,up _ _ e,r⟩),(by obtain ⟨o,e,r⟩:=hl2;exact ⟨o,up _ _ e,r⟩)⟩
 refine ⟨⟨_,hS,rfl⟩,F.args_list_init_2 _ _,wX (N0:=s.heap.objs.size+1) hh D ⟨aab q1,aab q3,aab q4,aab q5⟩ (abq _) ⟨ZM q1,ZM q2,ZM q3,ZM q4,ZM q5,ZM q6,ZM q7⟩ n hn hsz
  (by show s.heap.objs.size+1≤(Heap.push _ _).objs.size;rw [Heap.size_push];exact Zb _) Z (up _ _ hz) hS fun h' acc' c' kp hS' hP=>?_⟩
 exact ⟨rfl,hQ h' acc' c' (fun b o b2 b3 b4 b5 e=>kp b o (Zr (Heap.lt_size e)) b2 b3 b4 b5 (up b o e)) hS' hP⟩
end
end PySem
namespace L2
open PySem PySem.Spec PyProof.Rows
section
variable {X:Cx} {pins:List (Addr ×Obj)} {σ:St} {H:Hp} {s:Shared}
theorem Inv.named {a:Addr} {o:HO} (I:Inv X pins σ H s) (f:nj X pins H a) (new:eX X.prog X.w (upd H a o) s.heap a o):Inv X pins σ (upd H a o) s:=by
 obtain ⟨f0,f1,f2,f3,f4,f5⟩:=f
 have nn:∀ b u,H b=some u→b≠a:=fun b u e z=>by rw [z,f0] at e;cases e
 have hok:nH X.prog X.w (upd H a o) s.heap:=fun b u e=>by
  by_cases hb:b=a
  ·subst hb;rw [fT] at e;cases e;exact new
  ·rw [bF hb] at e
   exact (I.hok b u e).stay (fun c v _ q=>q) (fun c q=>by rw [bF (nn _ _ q)];exact q) fun c xs q=>by rw [bF (nn _ _ q)];exact q
 exact I.step (h':=s.heap) (g':=s.gens) (d':=s.drawn) (t':=s.toks) (ch:=[a]) (fun b hb=>by rw [Y8.mp hb];exact ⟨f3,f1,f4,f5⟩) (fun b o _ _ _ e _=>e) (fun b o _ _ _ e _=>⟨o.slots,e⟩) (fun b o hc e n=>by rw [bF (by simpa using hc)];exact n)
  (fun b o _ e=>⟨o,e⟩) (fun b xs e=>by rw [bF (nn _ _ e)];exact e) (fun b o u e=>by rw [bF (nn _ _ e)];exact e) (fun b ps e=>⟨#[],by rw [bF (nn _ _ e),e];simp⟩) (fun m hm=>hm) hok I.bare
end
end L2
namespace L3
open PySem PySem.Spec PyProof.Rows L2
section
variable {X:Cx} {pins:List (Addr ×Obj)} {σ:St} {s:Shared}
theorem vc:∀ (L:List (Addr ×V ×V)) {H:Hp},Inv X pins σ H s→(L.map (·.1)).Nodup→(∀ q∈L,nj X pins H q.1∧∃ u v,RelV q.2.1 u∧RelV q.2.2 v∧IsPair s.heap q.1 u v)→
 ∃ H',Inv X pins σ H' s∧(∀ b o,H b=some o→H' b=some o)∧(∀ b,b∉L.map (·.1)→H' b=H b)∧∀ q∈L,H' q.1=some (.tup [q.2.1,q.2.2])
 | [],H,I,_,_=>⟨H,I,fun _ _ e=>e,fun _ _=>rfl,fun q hq=>by cases hq⟩
 | (p,x,y) :: L,H,I,nd,h=>by
   obtain ⟨f,u,v,ru,rv,hp⟩:=h (p,x,y) (by simp)
   rw [ZK,Zp] at nd
   have I1:Inv X pins σ (upd H p (.tup [x,y])) s:=I.named f ⟨by rw [sizeLine_eq];show 2≤16777216;decide,[u,v],.cons ru (.cons rv .nil),⟨_,hp,rfl,_,rfl⟩⟩
   obtain ⟨H',I',k1,k2,k3⟩:=vc L I1 nd.2 fun q hq=>by
    obtain ⟨⟨f0,fr⟩,r⟩:=h q (Y5 _ hq)
    refine ⟨⟨?_,fr⟩,r⟩
    rw [bF (fun z=>nd.1 (ZA.mpr ⟨q,hq,z⟩))]
    exact f0
   refine ⟨H',I',fun b o e=>k1 b o (by rw [bF (cC e f.1)];exact e),fun b hb=>?_,fun q hq=>?_⟩
   ·rw [ZK,Y6,not_or] at hb
    rw [k2 b hb.2,bF hb.1]
   ·rcases Y6.mp hq with e | e
    ·rw [e];exact k1 p _ fT
    ·exact k3 q e
theorem yC:∀ (ps:List Addr),Vals (ps.map V.ref) (ps.map Value.ref)
 | []=> .nil
 | p :: ps=> .cons rfl (yC ps)
theorem tH {K:PySem.W.Frag} {H:Hp}:∀ {ds:List D} {xs:List V},ds.length=xs.length→(∀ (i:Nat) (d:D),ds[i]?=some d→∃ v,xs[i]?=some v∧Dat K H d v)→aM K H ds xs
 | [],[],_,_=>aV.mpr rfl
 | d :: ds,x :: xs,hl,h=>by
   obtain ⟨v,e,hv⟩:=h 0 d rfl
   cases e
   exact aQ.mpr ⟨x,xs,rfl,hv,tH (by simpa using hl) fun i d e=>h (i+1) d e⟩
 | [],_ :: _,hl,_=>by cases hl
 | _ :: _,[],hl,_=>by cases hl
end
section
variable {X:Cx} {pos:Pos}
def Pw (t:yi):dI:=fun ρ M Q=>t ρ M fun vs M1=> ∃ a b xs ys,vs= [.ref a,.ref b]∧M1 a=some (.lst xs)∧M1 b=some (.lst ys)∧∀ p,M1 p=none→Q (.ref p) (aE M1 p (.lst (List.zipWith pairD xs ys)))
theorem EW {e1 e2:Expr} {t:yi} {p1 p2 pos2:Pos} (hc:X.calm=true) (OZ:Gl X "list") (hml:X.mg "list" =none) (Vj:Gl X "zip") (Vk:X.mg "zip" =none) (ha:DB X [e1,e2] t)
 (st1:starEach [e1,e2] X.env=(false,eval e1 X.env) :: starEach [e2] X.env:=by rfl) (hpl:(backTo pos2 (starEach [e2] X.env)).any (·.1)=false:=by rfl)
 (s2:starEach [.Call (.Name "zip" p2) [e1,e2] [] pos2] X.env= [(false,eval (.Call (.Name "zip" p2) [e1,e2] [] pos2) X.env)]:=by rfl) :
 cK X (.Call (.Name "list" p1) [.Call (.Name "zip" p2) [e1,e2] [] pos2] [] pos) (Pw t):=by
 constructor
 intro pins s σ H ρ M Q I r h
 refine wpAny_Call_Name_kw (lC I OZ hml bQ ?_ (by decide) (by decide))
 refine PyProof.Rows.callWith_type1 (Q:=EP X pins σ (Post X.K M H Q)) ?_ (by rw [s2];rfl) (by rfl)
 rw [s2]
 show wpAny _ _ (spliced ((false,eval (.Call (.Name "zip" p2) [e1,e2] [] pos2) X.env) :: backTo pos [])) _ _ s
 refine Calls.spliced_cons ?_
 refine wpAny_Call_Name_kw (lC I Vj Vk EU ?_ (by decide) (by decide))
 refine PyProof.Rows.callWith_type1 (dW (ha.run pos2 pins s σ H ρ M _ I r h) fun us s1 hq=>?_) st1 hpl
 obtain ⟨vs,H1,I1,r1,ds,M1,f1,dv,pY,a,b,xs,ys,e,Vl,Vm,q⟩:=hq
 subst e
 obtain ⟨v,u,rfl,hv,hu⟩:=qN dv
 obtain rfl:=aK.mp hv
 obtain rfl:=aK.mp hu
 obtain ⟨u1,u2,rfl,ra,rb⟩:=vals2 r1
 obtain rfl:u1=Value.ref a:=ra
 obtain rfl:u2=Value.ref b:=rb
 obtain ⟨zs,Vn,dz⟩:=pY.lst Vl
 obtain ⟨ws,Vo,dw⟩:=pY.lst Vm
 obtain ⟨its,rv,pl,hz1⟩:=I1.list (iD.of Vn)
 obtain ⟨Qz,rw',Sg,hz2⟩:=I1.list (iD.of Vo)
 have la:a < s1.heap.objs.size:=by obtain ⟨o,e,_⟩:=pl.isList;exact Heap.lt_size e
 have lb:b < s1.heap.objs.size:=by obtain ⟨o,e,_⟩:=Sg.isList;exact Heap.lt_size e
 refine call_zip_2 pl.isList Sg.isList fun h' hz hTI hTO h1 h2 hsz kp=>Calls.spliced_nil ?_
 have na:∀ k,a≠s1.heap.objs.size+k:=fun k=>Zr (Zc la (aaa _ _))
 have nb:∀ k,b≠s1.heap.objs.size+k:=fun k=>Zr (Zc lb (aaa _ _))
 have nn:∀ j k:Nat,j≠k→s1.heap.objs.size+j≠s1.heap.objs.size+k:=fun j k h e=>h (Nat.add_left_cancel e)
 have D:ZipApart (s1.heap.objs.size+4) (s1.heap.objs.size+2) (s1.heap.objs.size+3) s1.heap.objs.size (s1.heap.objs.size+1) a b:=
  ⟨nn 2 4 (by decide),nn 3 4 (by decide),nn 0 4 (by decide),nn 1 4 (by decide),nn 2 3 (by decide),nn 2 0 (by decide),nn 2 1 (by decide),nn 3 0 (by decide),nn 3 1 (by decide),nn 0 1 (by decide),na 4,na 3,na 0,na 1,nb 4,nb 3,nb 0,nb 1⟩
 have lz:=rv.length
 have lw:=rw'.length
 refine wY (s:={ s1 with heap:=h' }) (show _ from I.ok.hd hc) D (by show _ < h'.objs.size∧_;rw [hsz];exact ⟨aaR (by decide) _,aaR (by decide) _,aaR (by decide) _,Nat.lt_add_of_pos_right (by decide),aaR (by decide) _,Zc la (aaa _ _),Zc lb (aaa _ _)⟩) (min its.toArray.size Qz.toArray.size) rfl (by simp only [Za];omega) hz hTI hTO h1 h2
  (by obtain ⟨o,e,r⟩:=pl.isList;exact ⟨o,kp _ _ e,r⟩) (by obtain ⟨o,e,r⟩:=Sg.isList;exact ⟨o,kp _ _ e,r⟩) fun h'' acc c zk hS hP=>?_
 have hS:h''.get? (s1.heap.objs.size+5)=some { cls:= .type "list",dict:=none,data:= .seq acc c,slots:= #[] }:=by rw [← hsz];exact hS
 have hP:eO (s1.heap.objs.size+6) its.toArray Qz.toArray h'' acc (min its.toArray.size Qz.toArray.size):=by
  have e:s1.heap.objs.size+6=h'.objs.size+1:=by rw [hsz]
  rw [e];exact hP
 have en:min its.toArray.size Qz.toArray.size=min zs.length ws.length:=by simp only [Za];omega
 rw [en] at hP
 have I2:Inv X pins σ H1 { s1 with heap:=h',toks:=s1.toks }:=I1.kept (t':=s1.toks) kp
 have fz:∀ {H':Hp} {b:Addr},s1.heap.objs.size≤b→H' b=none→nj X pins H' b:=fun hb hn=>I1.Gd hb hn
 have I3:Inv X pins σ H1 { s1 with heap:=h'',toks:=s1.toks }:=Inv.JF (s:={ s1 with heap:=h',toks:=s1.toks }) (h':=h'') (t':=s1.toks) (fp:=[s1.heap.objs.size+4,s1.heap.objs.size+3,s1.heap.objs.size,s1.heap.objs.size+1]) I2
  (fun b o hb e=>by
   have nb:b≠s1.heap.objs.size+4∧b≠s1.heap.objs.size+3∧b≠s1.heap.objs.size∧b≠s1.heap.objs.size+1:=by simpa using hb
   exact zk b o nb.1 nb.2.1 nb.2.2.1 nb.2.2.2 e)
  (fun b hb=>by
   have hle:s1.heap.objs.size≤b:=by
    simp only [Y6,Zt,or_false] at hb
    rcases hb with rfl | rfl | rfl | rfl
    ·exact aaa _ _
    ·exact aaa _ _
    ·exact Zb _
    ·exact aaa _ _
   exact fz hle (I1.hok.fresh hle))
 have key:∀ j,j < min zs.length ws.length→∃ x y u v p,zs[j]?=some x∧ws[j]?=some y∧RelV x u∧RelV y v∧acc[j]?=some (.ref p)∧IsPair h'' p u v∧s1.heap.objs.size+6≤p:=fun j hj=>by
  have gx:zs[j]?=some (zs[j]'(by omega)):=Y7 (by omega)
  have gy:ws[j]?=some (ws[j]'(by omega)):=Y7 (by omega)
  obtain ⟨u,hu,ru⟩:=rv.get gx
  obtain ⟨v,hv,Qx⟩:=rw'.get gy
  obtain ⟨p,a1,a2,a3⟩:=hP.2.1 j u v hj (by simpa using hu) (by simpa using hv)
  exact ⟨_,_,u,v,p,gx,gy,ru,Qx,a1,a2,a3⟩
 generalize hm:min zs.length ws.length=m at *
 let pj:Nat→Addr:=fun j=>match acc[j]? with | some (.ref p)=>p | _=>0
 have Sh:∀ j,j < m→∃ x y u v,zs[j]?=some x∧ws[j]?=some y∧RelV x u∧RelV y v∧acc[j]?=some (.ref (pj j))∧IsPair h'' (pj j) u v∧s1.heap.objs.size+6≤pj j:=fun j hj=>by
  obtain ⟨x,y,u,v,p,a1,a2,a3,a4,a5,a6,a7⟩:=key j hj
  have e:pj j=p:=by show (match acc[j]? with | some (.ref p)=>p | _=>0)=p;rw [a5]
  rw [e]
  exact ⟨x,y,u,v,a1,a2,a3,a4,a5,a6,a7⟩
 have KQ:acc.toList=((List.range m).map pj).map Value.ref:=by
  apply abY
  intro j
  by_cases hj:j < m
  ·obtain ⟨x,y,u,v,a1,a2,a3,a4,a5,a6,a7⟩:=Sh j hj
   rw [Array.getElem?_toList,a5]
   simp [hj]
  ·rw [aap (by simp [hP.1];omega),aap (by simp;omega)]
 have Vp:((List.range m).map pj).Nodup:=by
  have q:=hP.2.2
  rw [KQ] at q
  exact (List.pairwise_map.mp q).imp fun hne e=>hne (congrArg _ e)
 obtain ⟨H',I4,k1,k2,k3⟩:=vc ((List.range m).map fun j=>(pj j,(zs[j]?).getD .bJ,(ws[j]?).getD .bJ)) I3 (by rw [List.map_map];exact Vp) (fun q hq=>by
  obtain ⟨j,hj,rfl⟩:=ZA.mp hq
  obtain ⟨x,y,u,v,a1,a2,a3,a4,a5,a6,a7⟩:=Sh j (Z1.mp hj)
  have hle:s1.heap.objs.size≤pj j:=aae (aaa _ _) a7
  refine ⟨fz hle (I1.hok.fresh hle),u,v,?_,?_,a6⟩
  ·show RelV ((zs[j]?).getD .bJ) u;rw [a1];exact a3
  ·show RelV ((ws[j]?).getD .bJ) v;rw [a2];exact a4)
 have Si:H' (s1.heap.objs.size+5)=none:=by
  rw [k2 _ (fun hz=>?_)]
  ·exact I1.hok.fresh (aaa _ _)
  ·rw [List.map_map] at hz
   obtain ⟨j,hj,e⟩:=ZA.mp hz
   obtain ⟨x,y,u,v,a1,a2,a3,a4,a5,a6,a7⟩:=Sh j (Z1.mp hj)
   have e:pj j=s1.heap.objs.size+5:=e
   rw [e] at a7
   exact absurd a7 (by omega)
 have hlen:((List.range m).map pj).length≤sizeLine:=by
  rw [Y4,aaG]
  omega
 have I5:Inv X pins σ (upd H' (s1.heap.objs.size+5) (.lst (((List.range m).map pj).map V.ref))) { s1 with heap:=h'',toks:=s1.toks }:=
  I4.named (fz (aaa _ _) Si) ⟨by rw [Y4];exact hlen,((List.range m).map pj).map Value.ref,c,yC _,by rw [← KQ];exact hS⟩
 have ev:(Value.ref ({ s1 with heap:=h' }:Shared).heap.objs.size)= .ref (s1.heap.objs.size+5):=by show Value.ref h'.objs.size=_;rw [hsz]
 have Sj:Ext H1 H':=Ext.keep k1
 refine ⟨.ref (s1.heap.objs.size+5),_,I5,ev,.ref _,aE M1 _ (.lst (List.zipWith pairD xs ys)),?_,aK.mpr rfl,(pY.keep k1).newL Si ?_,q _ ?_⟩
 ·refine f1.trans (Fr.trans (fun b o n e=>⟨k1 b o e,n⟩) (Fr.new Si fun _ hb=>bg hb))
 ·refine tH (by rw [aaS,Y4,Y4,aaG,← hm,dz.length,dw.length]) fun i d hd=>?_
  rw [aaw] at hd
  cases hx:xs[i]? with
  | none=>rw [hx] at hd;cases hd
  | some dx=>
    cases hy:ys[i]? with
    | none=>rw [hx,hy] at hd;cases hd
    | some dy=>
      rw [hx,hy] at hd
      have hd:pairD dx dy=d:=Option.some.inj hd
      obtain ⟨x,gx,qx⟩:=dz.get hx
      obtain ⟨y,gy,qy⟩:=dw.get hy
      have hi:i < m:=by
       have i1:=(Ze.mp gx).1
       have i2:=(Ze.mp gy).1
       omega
      have q3:=k3 (pj i,(zs[i]?).getD .bJ,(ws[i]?).getD .bJ) (ZA.mpr ⟨i,Z1.mpr hi,rfl⟩)
      rw [gx,gy] at q3
      refine ⟨.ref (pj i),by simp [hi],?_⟩
      rw [← hd]
      exact bH.mpr ⟨pj i,[x,y],rfl,q3,aM.mono Sj _ _ (aQ.mpr ⟨x,[y],rfl,qx,aM.one qy⟩)⟩
 ·exact pY.free (I1.hok.fresh (aaa _ _))
end
end L3
namespace L3
open PySem
def kL:List Pl→Pl→List Pl
 | b :: a :: r,p=>if tw a b p < 0 then kL (a :: r) p else b :: a :: r
 | [a],_=>[a]
 | [],_=>[]
def aX (st:List Pl) (p:Pl):List Pl:=p :: kL st p
structure Way where
 al:Int
 be:Int
def Way.f (w:Way) (p:Pl):Int:=w.al*p.x+w.be*p.y
theorem iX (al be ux uy vx vy px py:Int):(al*vx+be*vy)*(ux*py - uy*px)=(al*ux+be*uy)*(vx*py - vy*px)+(al*px+be*py)*(ux*vy - uy*vx):=by grind
theorem rY {a b:Int} (ha:0 < a) (h:0≤a*b):0≤b:=by
 apply Y3
 intro z
 have:a*b < 0:=ZL ha (by omega)
 omega
theorem DT {a b:Int} (ha:0 < a) (h:0 < a*b):0 < b:=by
 apply Y3
 intro z
 have:a*b≤0:=Zs (by omega) (by omega)
 omega
section
variable {w:Way}
theorem JG {z a b p:Pl} (h1:w.f z < w.f a) (h2:w.f a < w.f b) (h3:w.f b < w.f p) (t1:0≤tw z a b) (t2:0≤tw a b p):0≤tw z a p:=by
 have key:=iX w.al w.be (a.x - z.x) (a.y - z.y) (b.x - a.x) (b.y - a.y) (p.x - a.x) (p.y - a.y)
 unfold Way.f at h1 h2 h3
 have e1:tw z a b=(a.x - z.x)*(b.y - a.y) - (a.y - z.y)*(b.x - a.x):=by unfold tw;grind
 have e2:tw a b p=(b.x - a.x)*(p.y - a.y) - (b.y - a.y)*(p.x - a.x):=by unfold tw;grind
 have e3:tw z a p=(a.x - z.x)*(p.y - a.y) - (a.y - z.y)*(p.x - a.x):=by unfold tw;grind
 rw [← e1,← e2,← e3] at key
 have fU:0 < w.al*(a.x - z.x)+w.be*(a.y - z.y):=by rw [ZH,ZH];omega
 have fV:0 < w.al*(b.x - a.x)+w.be*(b.y - a.y):=by rw [ZH,ZH];omega
 have fP:0 < w.al*(p.x - a.x)+w.be*(p.y - a.y):=by rw [ZH,ZH];omega
 refine rY fV ?_
 rw [key]
 have m1:=Zi (ZN fU) t2
 have m2:=Zi (ZN fP) t1
 omega
theorem G7 {a c p q:Pl} (h1:w.f a < w.f c) (h2:w.f c < w.f p) (h3:w.f q≤w.f c) (t1:0≤tw a c q) (t2:0≤tw a c p):0≤tw c p q:=by
 have key:=iX w.al w.be (p.x - c.x) (p.y - c.y) (c.x - a.x) (c.y - a.y) (q.x - c.x) (q.y - c.y)
 unfold Way.f at h1 h2 h3
 have e1:tw a c q=(c.x - a.x)*(q.y - c.y) - (c.y - a.y)*(q.x - c.x):=by unfold tw;grind
 have e2:tw a c p= -((p.x - c.x)*(c.y - a.y) - (p.y - c.y)*(c.x - a.x)):=by unfold tw;grind
 have e3:tw c p q=(p.x - c.x)*(q.y - c.y) - (p.y - c.y)*(q.x - c.x):=by unfold tw;grind
 have Sk:(p.x - c.x)*(c.y - a.y) - (p.y - c.y)*(c.x - a.x)= -tw a c p:=by omega
 rw [← e1,Sk,← e3] at key
 have fU:0 < w.al*(c.x - a.x)+w.be*(c.y - a.y):=by rw [ZH,ZH];omega
 have fP:0 < w.al*(p.x - c.x)+w.be*(p.y - c.y):=by rw [ZH,ZH];omega
 have fQ:w.al*(q.x - c.x)+w.be*(q.y - c.y)≤0:=by rw [ZH,ZH];omega
 refine rY fU ?_
 rw [key]
 have m1:=Zi (ZN fP) t1
 have m2:0≤(w.al*(q.x - c.x)+w.be*(q.y - c.y))* -tw a c p:=Zo fQ (by omega)
 omega
theorem G8 {c d p q:Pl} (h1:w.f c < w.f d) (h2:w.f c < w.f p) (h3:w.f c < w.f q) (t1:0≤tw c d q) (t2:tw c d p < 0):0 < tw c p q:=by
 have key:=iX w.al w.be (p.x - c.x) (p.y - c.y) (d.x - c.x) (d.y - c.y) (q.x - c.x) (q.y - c.y)
 unfold Way.f at h1 h2 h3
 have e1:tw c d q=(d.x - c.x)*(q.y - c.y) - (d.y - c.y)*(q.x - c.x):=by unfold tw;grind
 have Sk:(p.x - c.x)*(d.y - c.y) - (p.y - c.y)*(d.x - c.x)= -tw c d p:=by unfold tw;grind
 have e3:tw c p q=(p.x - c.x)*(q.y - c.y) - (p.y - c.y)*(q.x - c.x):=by unfold tw;grind
 rw [← e1,Sk,← e3] at key
 have fU:0 < w.al*(d.x - c.x)+w.be*(d.y - c.y):=by rw [ZH,ZH];omega
 have fP:0 < w.al*(p.x - c.x)+w.be*(p.y - c.y):=by rw [ZH,ZH];omega
 have fQ:0 < w.al*(q.x - c.x)+w.be*(q.y - c.y):=by rw [ZH,ZH];omega
 refine DT fU ?_
 rw [key]
 have m1:=Zi (ZN fP) t1
 have m2:0 < (w.al*(q.x - c.x)+w.be*(q.y - c.y))* -tw c d p:=ZC fQ (by omega)
 omega
def zx (w:Way) (S:List Pl) (a b:Pl):Prop:= ∀ q∈S,0≤tw a b q∧(tw a b q=0→¬ (w.f a < w.f q∧w.f q < w.f b))
def p8 (w:Way) (S:List Pl):List Pl→Prop
 | b :: a :: r=>w.f a < w.f b∧zx w S a b∧p8 w S (a :: r)
 | _=>True
def DU (p:Pl):List Pl→Prop
 | b :: a :: r=>0≤tw a b p∧DU p (a :: r)
 | _=>True
structure Ch (w:Way) (S st:List Pl):Prop where
 vd:∀ q∈st,q∈S
 JH:p8 w S st
 top:∀ q∈S,∃ t,st.head?=some t∧w.f q≤w.f t
 bot:∀ q∈S,∃ t,st.getLast?=some t∧w.f t≤w.f q
 inj:∀ q∈S,∀ r∈S,w.f q=w.f r→q=r
theorem Bm {S:List Pl} {p:Pl}:∀ (r:List Pl) (b a:Pl),p8 w S (b :: a :: r)→(∀ q∈b :: a :: r,q∈S)→w.f b < w.f p→0≤tw a b p→DU p (b :: a :: r)
 | [],b,a,_,_,_,t=>⟨t,trivial⟩
 | z :: r,b,a,e,m,h,t=>by
   obtain ⟨e1,e2,e3⟩:=e
   obtain ⟨e4,e5,e6⟩:=id e3
   have t2:0≤tw z a p:=JG e4 e1 h (e5 b (m b (by simp))).1 t
   exact ⟨t,Bm r a z e3 (fun q hq=>m q (Y5 _ hq)) (by omega) t2⟩
structure Mr (w:Way) (S st:List Pl) (p c:Pl) (r:List Pl):Prop where
 eq:kL st p=c :: r
 JH:p8 w S (c :: r)
 vd:∀ q∈c :: r,q∈S
 gG:DU p (c :: r)
 lst:(c :: r).getLast?=st.getLast?
 TN:(∀ q∈S,w.f q≤w.f c)∨∃ d,w.f c < w.f d∧(∀ q∈S,0≤tw c d q)∧tw c d p < 0
theorem G9 {S:List Pl} {p:Pl} (hp:∀ q∈S,w.f q < w.f p):∀ (st:List Pl) (c:Pl) (r:List Pl),st=c :: r→p8 w S st→(∀ q∈st,q∈S)→((∀ q∈S,w.f q≤w.f c)∨∃ d,w.f c < w.f d∧(∀ q∈S,0≤tw c d q)∧tw c d p < 0)→
 ∃ c' r',Mr w S st p c' r'
 | _,c,[],rfl,e,m,f=>⟨c,[],rfl,trivial,m,trivial,rfl,f⟩
 | _,b,a :: r,rfl,e,m,f=>by
   obtain ⟨e1,e2,e3⟩:=id e
   by_cases k:tw a b p < 0
   ·obtain ⟨c',r',P⟩:=G9 hp (a :: r) a r rfl e3 (fun q hq=>m q (Y5 _ hq)) (.inr ⟨b,e1,fun q hq=>(e2 q hq).1,k⟩)
    refine ⟨c',r',?_,P.JH,P.vd,P.gG,?_,P.TN⟩
    ·show (if tw a b p < 0 then kL (a :: r) p else b :: a :: r)=_
     rw [if_pos k];exact P.eq
    ·rw [P.lst];rfl
   ·refine ⟨b,a :: r,?_,e,m,Bm r b a e m (hp b (m b (by simp))) (by omega),rfl,f⟩
    show (if tw a b p < 0 then kL (a :: r) p else b :: a :: r)=_
    rw [if_neg k]
theorem ve {S:List Pl} {p:Pl}:∀ (st:List Pl),p8 w S st→DU p st→(∀ q∈st,w.f q < w.f p)→p8 w (S ++ [p]) st
 | [],_,_,_=>trivial
 | [_],_,_,_=>trivial
 | b :: a :: r,e,l,h=>by
   obtain ⟨e1,e2,e3⟩:=e
   refine ⟨e1,fun q hq=>?_,ve (a :: r) e3 l.2 fun q hq=>h q (Y5 _ hq)⟩
   rcases Zq.mp hq with hq | hq
   ·exact e2 q hq
   ·rw [Y8.mp hq]
    exact ⟨l.1,fun _ z=>by have:=h b (by simp);omega⟩
theorem Ch.push {S st:List Pl} {p:Pl} (C:Ch w S st) (hne:S≠[]) (hp:∀ q∈S,w.f q < w.f p):Ch w (S ++ [p]) (aX st p):=by
 obtain ⟨s0,hs0⟩:=List.exists_mem_of_ne_nil S hne
 obtain ⟨b,hb,_⟩:=C.top s0 hs0
 obtain ⟨r,rfl⟩:∃ r,st=b :: r:=by
  cases st with
  | nil=>cases hb
  | cons x r=>exact ⟨r,by rw [Option.some.inj hb]⟩
 obtain ⟨c,r',P⟩:=G9 hp (b :: r) b r rfl C.JH C.vd (.inl fun q hq=>by
  obtain ⟨t,e,h⟩:=C.top q hq
  rw [← Option.some.inj e] at h
  exact h)
 have cS:c∈S:=P.vd c (by simp)
 have hcp:w.f c < w.f p:=hp c cS
 have Sl:zx w (S ++ [p]) c p:=fun q hq=>by
  rcases Zq.mp hq with hq | hq
  ·by_cases k:w.f q≤w.f c
   ·refine ⟨?_,fun _ z=>by omega⟩
    cases r' with
    | nil=>
      obtain ⟨t,e,h⟩:=C.bot q hq
      rw [← P.lst] at e
      have e:c=t:=by simpa using e
      subst e
      have:=C.inj q hq c cS (by omega)
      subst this
      rw [iV]
      exact aaq _
    | cons a r''=>
      obtain ⟨e1,e2,e3⟩:=P.JH
      exact G7 e1 hcp k (e2 q hq).1 P.gG.1
   ·rcases P.TN with f | ⟨d,d1,d2,d3⟩
    ·exact absurd (f q hq) k
    ·have:=G8 d1 hcp (by omega) (d2 q hq) d3
     exact ⟨by omega,fun z=>by omega⟩
  ·rw [Y8.mp hq,uL]
   exact ⟨aaq _,fun _ z=>by omega⟩
 refine ⟨fun q hq=>?_,?_,fun q hq=>⟨p,rfl,?_⟩,fun q hq=>?_,fun q hq r hr e=>?_⟩
 ·unfold aX at hq
  rw [P.eq] at hq
  rcases Y6.mp hq with rfl | hq
  ·simp
  ·exact Zk _ (P.vd q hq)
 ·unfold aX
  rw [P.eq]
  exact ⟨hcp,Sl,ve _ P.JH P.gG fun q hq=>hp q (P.vd q hq)⟩
 ·rcases Zq.mp hq with hq | hq
  ·have:=hp q hq;omega
  ·rw [Y8.mp hq];exact aaq _
 ·unfold aX
  rw [P.eq,List.getLast?_cons_cons,P.lst]
  rcases Zq.mp hq with hq | hq
  ·exact C.bot q hq
  ·rw [Y8.mp hq]
   obtain ⟨t,e,h⟩:=C.bot s0 hs0
   have:=hp s0 hs0
   exact ⟨t,e,by omega⟩
 ·rcases Zq.mp hq with hq | hq <;> rcases Zq.mp hr with hr | hr
  ·exact C.inj q hq r hr e
  ·rw [Y8.mp hr] at e;have:=hp q hq;omega
  ·rw [Y8.mp hq] at e;have:=hp r hr;omega
  ·rw [Y8.mp hq,Y8.mp hr]
theorem Ch.one (p:Pl):Ch w [p] (aX [] p):=by
 refine ⟨fun q hq=>hq,trivial,fun q hq=>⟨p,rfl,?_⟩,fun q hq=>⟨p,rfl,?_⟩,fun q hq r hr _=>?_⟩
 ·rw [Y8.mp hq];exact aaq _
 ·rw [Y8.mp hq];exact aaq _
 ·rw [Y8.mp hq,Y8.mp hr]
theorem Ch.all:∀ (line S st:List Pl),S≠[]→Ch w S st→(S ++ line).Pairwise (fun p q=>w.f p < w.f q)→Ch w (S ++ line) (line.foldl aX st)
 | [],S,st,_,C,_=>by rw [Z2];exact C
 | p :: line,S,st,hne,C,hs=>by
   have e:S ++ p :: line=(S ++ [p]) ++ line:=by simp
   rw [e] at hs ⊢
   have hp:∀ q∈S,w.f q < w.f p:=fun q hq=>by
    have:=(aaO.mp (aaO.mp hs).1).2.2 q hq p (by simp)
    exact this
   rw [ab6]
   exact Ch.all line (S ++ [p]) (aX st p) (by simp) (C.push hne hp) hs
theorem oj {line:List Pl} (hne:line≠[]) (hs:line.Pairwise (fun p q=>w.f p < w.f q)):Ch w line (line.foldl aX []):=by
 cases line with
 | nil=>exact absurd rfl hne
 | cons p line=>exact Ch.all line [p] (aX [] p) (by simp) (Ch.one p) hs
def zy (st:List Pl) (a b:Pl):Prop:= ∃ i:Nat,st[i+1]?=some a∧st[i]?=some b
theorem zA {S:List Pl}:∀ {st:List Pl} {a b:Pl},p8 w S st→zy st a b→w.f a < w.f b∧zx w S a b
 | [],a,b,_,⟨i,h,_⟩=>by simp at h
 | [_],a,b,_,⟨i,h,_⟩=>by simp at h
 | y :: x :: r,a,b,e,⟨i,h1,h2⟩=>by
   obtain ⟨e1,e2,e3⟩:=e
   cases i with
   | zero=>
     have z1:x=a:=by simpa using h1
     have z2:y=b:=by simpa using h2
     subst z1 z2
     exact ⟨e1,e2⟩
   | succ i=>exact zA e3 ⟨i,by simpa using h1,by simpa using h2⟩
theorem yD {S:List Pl}:∀ {st:List Pl} {t a:Pl},p8 w S st→st.head?=some t→w.f a < w.f t→(∃ z,st.getLast?=some z∧w.f z≤w.f a)→∃ c d,zy st c d∧w.f c≤w.f a∧w.f a < w.f d
 | [],t,a,_,h,_,_=>by cases h
 | [y],t,a,_,h,h1,⟨z,hz,h2⟩=>by
   have z1:y=t:=by simpa using h
   have z2:y=z:=by simpa using hz
   subst z1 z2
   omega
 | y :: x :: r,t,a,e,h,h1,hz=>by
   have z1:y=t:=by simpa using h
   subst z1
   obtain ⟨e1,e2,e3⟩:=e
   by_cases k:w.f x≤w.f a
   ·exact ⟨x,y,⟨0,rfl,rfl⟩,k,h1⟩
   ·obtain ⟨c,d,⟨i,g1,g2⟩,g3,g4⟩:=yD (t:=x) (a:=a) e3 rfl (by omega) (by
     obtain ⟨z,hz,h2⟩:=hz
     exact ⟨z,by simpa using hz,h2⟩)
    exact ⟨c,d,⟨i+1,by simpa using g1,by simpa using g2⟩,g3,g4⟩
theorem EX {a b c d:Pl} (h1:w.f c < w.f a) (h2:w.f a < w.f d) (h3:w.f a < w.f b) (t1:0≤tw a b c) (t2:0≤tw a b d):tw c d a≤0:=by
 have key:=iX w.al w.be (c.x - a.x) (c.y - a.y) (b.x - a.x) (b.y - a.y) (d.x - a.x) (d.y - a.y)
 unfold Way.f at h1 h2 h3
 have e1:(c.x - a.x)*(b.y - a.y) - (c.y - a.y)*(b.x - a.x)= -tw a b c:=by unfold tw;grind
 have e2:tw a b d=(b.x - a.x)*(d.y - a.y) - (b.y - a.y)*(d.x - a.x):=by unfold tw;grind
 have e3:tw c d a=(c.x - a.x)*(d.y - a.y) - (c.y - a.y)*(d.x - a.x):=by unfold tw;grind
 rw [e1,← e2,← e3] at key
 have fV:0 < w.al*(b.x - a.x)+w.be*(b.y - a.y):=by rw [ZH,ZH];omega
 have fC:w.al*(c.x - a.x)+w.be*(c.y - a.y) < 0:=by rw [ZH,ZH];omega
 have fD:0 < w.al*(d.x - a.x)+w.be*(d.y - a.y):=by rw [ZH,ZH];omega
 have m1:(w.al*(c.x - a.x)+w.be*(c.y - a.y))*tw a b d≤0:=Zx (by omega) t2
 have m2:(w.al*(d.x - a.x)+w.be*(d.y - a.y))* -tw a b c≤0:=Zs (by omega) (by omega)
 apply Y3
 intro z
 have:0 < (w.al*(b.x - a.x)+w.be*(b.y - a.y))*tw c d a:=ZC fV (by omega)
 omega
theorem iY {S st:List Pl} (C:Ch w S st) {a b:Pl}:zy st a b↔a∈S∧b∈S∧w.f a < w.f b∧zx w S a b:=by
 constructor
 ·intro h
  obtain ⟨h1,h2⟩:=zA C.JH h
  obtain ⟨i,g1,g2⟩:=h
  exact ⟨C.vd a (Y9 g1),C.vd b (Y9 g2),h1,h2⟩
 ·rintro ⟨ha,hb,hab,he⟩
  obtain ⟨t,ht,Xr⟩:=C.top b hb
  obtain ⟨c,d,hcd,h1,h2⟩:=yD C.JH ht (show w.f a < w.f t by omega) (C.bot a ha)
  obtain ⟨e1,e2⟩:=zA C.JH hcd
  have hc:c∈S:=by obtain ⟨i,g1,g2⟩:=hcd;exact C.vd c (Y9 g1)
  have hd:d∈S:=by obtain ⟨i,g1,g2⟩:=hcd;exact C.vd d (Y9 g2)
  have ea:c=a:=by
   apply Y3
   intro z
   have hlt:w.f c < w.f a:=by
    rcases abf h1 with y | y
    ·exact y
    ·exact absurd (C.inj c hc a ha y) z
   have t1:=EX hlt h2 hab (he c hc).1 (he d hd).1
   have t2:=(e2 a ha).1
   exact (e2 a ha).2 (by omega) ⟨hlt,h2⟩
  subst ea
  have t1:=(he d hd).1
  have t2:=(e2 b hb).1
  have t3:tw c d b= -tw c b d:=by rw [kJ]
  have t0:tw c b d=0:=by omega
  have ed:d=b:=by
   rcases aam (w.f d) (w.f b) with y | y | y
   ·exact absurd ⟨h2,y⟩ ((he d hd).2 t0)
   ·exact C.inj d hd b hb y
   ·exact absurd ⟨hab,y⟩ ((e2 b hb).2 (by omega))
  subst ed
  exact hcd
def az:Way:=⟨2 ^ 142,1⟩
def tU:Way:=⟨-2 ^ 142, -1⟩
theorem om {p q:Pl} (hp:p.y.natAbs < 2 ^ 140) (hq:q.y.natAbs < 2 ^ 140):aL p q↔az.f p < az.f q:=by
 unfold aL Way.f az
 dsimp only
 have e:(2:Int) ^ 142=5575186299632655785383929568162090376495104:=by decide
 have e2:(2:Nat) ^ 140=1393796574908163946345982392040522594123776:=by decide
 rw [e2] at hp hq
 rw [e]
 omega
theorem iQ (p:Pl):tU.f p= -az.f p:=by
 unfold Way.f tU az
 dsimp only
 have e:(2:Int) ^ 142=5575186299632655785383929568162090376495104:=by decide
 rw [e]
 omega
end
end L3
namespace L3
open PySem PySem.Spec PyProof.Rows L2
theorem fJ:bootBuiltins "str" =some (.type "str"):=by decide +kernel
theorem JI {P:Program} {w:World} {K:PySem.W.Frag} {mg:Str→Option Value} {base:Heap} {k:Nat} {f:Addr} {fd:FuncData} {ps:List Str}:bS P w K mg base eZ k f fd ps (pU K fun _ _ _=>False):=
 ⟨fun _ _ _ _ ⟨_,_,_,_,_,h,_⟩=>h.elim,fun _ _ _ _ _ _ _ _ _ _ _ _ _ ⟨_,_,_,_,_,h,_⟩=>h.elim⟩
theorem EY (b:Pl) (r:List Pl):uF ((b :: r).reverse.map Pl.d) (-1)=some b.d:=by
 rw [aac,Zn]
 exact Gq _ _
theorem EZ (b a:Pl) (r:List Pl):uF ((b :: a :: r).reverse.map Pl.d) (-2)=some a.d:=by
 have hl:((b :: a :: r).reverse.map Pl.d).length=r.length+2:=by simp
 have e:FL (r.length+2) (-2)=some r.length:=by
  unfold FL
  rw [if_neg (by decide),if_pos (by omega)]
  congr 1
  omega
 unfold uF
 rw [hl,e]
 show ((b :: a :: r).reverse.map Pl.d)[r.length]?=some a.d
 rw [aac,aac,aa0,Zn,aav (by simp)]
 simp
theorem Bo:∀ (st:List Pl) (p:Pl),(kL st p).length≤st.length
 | [],_=>Zb _
 | [_],_=>Zb _
 | b :: a :: r,p=>by
   show (if tw a b p < 0 then kL (a :: r) p else b :: a :: r).length≤_
   have:=Bo (a :: r) p
   split
   ·simp only [Zj] at this ⊢;omega
   ·exact Zb _
theorem Bp:∀ (st:List Pl) (p:Pl),∀ q∈kL st p,q∈st
 | [],_,_,h=>h
 | [_],_,_,h=>h
 | b :: a :: r,p,q,h=>by
   have h:q∈(if tw a b p < 0 then kL (a :: r) p else b :: a :: r):=h
   by_cases k:tw a b p < 0
   ·rw [if_pos k] at h
    exact Y5 _ (Bp (a :: r) p q h)
   ·rw [if_neg k] at h
    exact h
theorem Hf {a b p:Pl} {r:List Pl} (h:tw a b p < 0):kL (b :: a :: r) p=kL (a :: r) p:=by
 show (if tw a b p < 0 then kL (a :: r) p else b :: a :: r)=_
 rw [if_pos h]
theorem Hg {a b p:Pl} {r:List Pl} (h:¬ tw a b p < 0):kL (b :: a :: r) p=b :: a :: r:=by
 show (if tw a b p < 0 then kL (a :: r) p else b :: a :: r)=_
 rw [if_neg h]
theorem eS (ps:List Pl):(ps.foldl aX []).length≤ps.length:=by
 have key:∀ (ps st:List Pl),(ps.foldl aX st).length≤st.length+ps.length:=by
  intro ps
  induction ps with
  | nil=>intro st;simp
  | cons p ps ih=>
    intro st
    have h1:=ih (aX st p)
    have h2:(aX st p).length≤st.length+1:=by
     show (kL st p).length+1≤_
     have:=Bo st p
     omega
    simp only [ab6,Zj]
    omega
 simpa using key ps []
theorem rZ (ps:List Pl):∀ q∈ps.foldl aX [],q∈ps:=by
 have key:∀ (ps st:List Pl),∀ q∈ps.foldl aX st,q∈st∨q∈ps:=by
  intro ps
  induction ps with
  | nil=>intro st q h;exact .inl h
  | cons p ps ih=>
    intro st q h
    rcases ih (aX st p) q h with h | h
    ·rcases Y6.mp h with h | h
     ·exact .inr (by rw [h];exact Zl ..)
     ·exact .inl (Bp st p q h)
    ·exact .inr (Y5 _ h)
 intro q h
 rcases key ps [] q h with h | h
 ·cases h
 ·exact h
theorem Cw {ps:List Pl} {i:Nat} {p:Pl} (h:ps[i]?=some p):(ps.take (i+1)).foldl aX []=aX ((ps.take i).foldl aX []) p:=by
 rw [Z7,h,List.foldl_append]
 rfl
theorem Le.put {M M':Mp} {p:Addr} {o:MO} (h:Le M M'):Le (aE M p o) (aE M' p o):=fun c u e=>by
 by_cases hc:c=p
 ·subst hc
  rw [ah] at e ⊢;exact e
 ·rw [bg hc] at e ⊢
  exact h c u e
theorem Le.free {M M':Mp} {p:Addr} (h:Le M M') (e:M' p=none):M p=none:=by
 cases k:M p with
 | none=>rfl
 | some o=>rw [h p o k] at e;cases e
theorem Bq (ps:List Pl):cutD (ps.map Pl.d) none (some (-1))=ps.dropLast.map Pl.d:=by
 unfold cutD
 have e:HT.sV (ps.map Pl.d).length (ps.map Pl.d).length (some (-1))=ps.length - 1:=by
  unfold HT.sV
  dsimp only
  rw [if_pos (by decide),Y4]
  omega
 have e0:HT.sV (ps.map Pl.d).length 0 none=0:=rfl
 rw [e,e0,abL,abW,List.dropLast_eq_take,List.map_take]
theorem Hh {n:Nat} {z:Int} (h:Sm n z) (hn:n≤1000):Att.DN z:=by
 have:=qL h
 show Builtin.Int.intBits z≤1048576
 omega
def Flat (ps:List Pl):Prop:= ∀ p∈ps,∀ q∈ps,∀ r∈ps,tw p q r=0
def hz (qs:List Pl):Pl:=qs.headD ⟨0,0⟩
def lz (qs:List Pl):Pl:=qs.getLastD ⟨0,0⟩
theorem Ms {dx dy ux uy vx vy:Int} (h:dx≠0∨dy≠0) (h1:dx*uy - dy*ux=0) (h2:dx*vy - dy*vx=0):ux*vy - uy*vx=0:=by
 rcases h with h | h
 ·have:dx*(ux*vy - uy*vx)=0:=by grind
  exact (Zv.mp this).resolve_left h
 ·have:dy*(ux*vy - uy*vx)=0:=by grind
  exact (Zv.mp this).resolve_left h
theorem Br {a z p q r:Pl} (h:a≠z) (h1:tw a z p=0) (h2:tw a z q=0) (h3:tw a z r=0):tw p q r=0:=by
 have hd:z.x - a.x≠0∨z.y - a.y≠0:=by
  by_cases k:z.x - a.x=0
  ·right
   intro k2
   apply h
   cases a;cases z
   simp only at k k2
   rw [Pl.mk.injEq]
   omega
  ·exact .inl k
 unfold tw at h1 h2 h3 ⊢
 exact Ms hd (ux:=q.x - p.x) (uy:=q.y - p.y) (vx:=r.x - p.x) (vy:=r.y - p.y) (by grind) (by grind)
theorem yE {ps qs:List Pl} (h:qs.Perm ps):Flat qs↔Flat ps:=
 ⟨fun f p hp q hq r hr=>f p (h.mem_iff.mpr hp) q (h.mem_iff.mpr hq) r (h.mem_iff.mpr hr),fun f p hp q hq r hr=>f p (h.mem_iff.mp hp) q (h.mem_iff.mp hq) r (h.mem_iff.mp hr)⟩
def qp:Nat→D→Bool
 | 0,_=>false
 | _+1,.int _=>true
 | _+1,.bJ=>true
 | _+1,.str _=>true
 | n+1,.tup ds=>decide (ds.length≤1000) && ds.all (qp n)
 | _+1,_=>false
def Vq (M:Mp) (n:Nat) (d e:D):Prop:=(d=e∧qp n d=true)∨∃ (f g:Addr) (xs:List D),d= .ref f∧e= .ref g∧M f=some (.lst xs)∧M g=some (.lst xs)∧xs.all (qp (n - 1))=true∧xs.length≤1000
def DV (n:Nat):pK:=fun ds M Q=> ∃ d e:D,ds= [d,e]∧Vq M n d e∧Q (.bl true) M
def b8 (qs:List Pl):List Pl:=if qs.length < 2 then qs else (qs.foldl aX []).reverse.dropLast ++ (qs.reverse.foldl aX []).reverse.dropLast
def bx (b:List Pl):List (List Pl):=if b.length < 2 then [] else List.zipWith (fun p q=>[p,q]) b (b.drop 1 ++ b.take 1)
theorem oz {α:Type} (g:α→D) (xs:List α) (n:Nat) (h:n≤xs.length):cutD (xs.map g) none (some (n:Int))=(xs.take n).map g:=by
 unfold cutD
 rw [HT.Ds,HT.AU]
 rw [Y4,ab5 h,List.map_take,abL,abW]
theorem yF:∀ (as bs:List Pl),(List.zipWith (fun p q=>[p,q]) as bs).map (fun ps:List Pl=>D.tup (ps.map Pl.d))=List.zipWith pairD (as.map Pl.d) (bs.map Pl.d)
 | [],_=>by simp
 | _ :: _,[]=>by simp
 | a :: as,b :: bs=>by
   show D.tup [a.d,b.d] :: (List.zipWith (fun p q=>[p,q]) as bs).map (fun ps:List Pl=>D.tup (ps.map Pl.d))=pairD a.d b.d :: List.zipWith pairD (as.map Pl.d) (bs.map Pl.d)
   rw [yF as bs]
   rfl
end L3
namespace L3
open PySem PySem.Spec PyProof.Rows L2
section
variable {P:Program} {w:World} {A:Around} {E:Value→Shared→Prop} {s:Shared}
theorem Bs (a:Value):argsOk "min" ⟨[a],[]⟩:=by unfold argsOk;kernel_rfl
theorem Hi (a:Value):argsOk "max" ⟨[a],[]⟩:=by unfold argsOk;kernel_rfl
theorem min_list {l:Addr} {vs:List Value} {bt:Nat→Nat→Bool} {Q:Value→Shared→Prop} (pl:s.heap.IsList l vs.toArray) (hn:0 < vs.length) (hh:A.handled=none)
 (hc:∀ (i j:Nat) (vi vj:Value) (t:Shared) (Q:Value→Shared→Prop) (E:Value→Shared→Prop),dU s.heap t.heap→vs[i]?=some vi→vs[j]?=some vj→Q (.bool (bt i j)) t→wpAny (model P w) A.in1 (richCompare .Lt vi vj) Q E t)
 (h:∀ v h' tk,vs[argBest bt (vs.length - 1)]?=some v→dU s.heap h'→Q v { s with heap:=h',toks:=tk }):wpAny (model P w) A (call (.builtin "min") [.ref l]) Q E s:=by
 have nm:(toString "min" ++ toString ".loop" :String)= "min.loop" :=by decide
 have ll:l < s.heap.objs.size:=by obtain ⟨o,e,_⟩:=pl;exact Heap.lt_size e
 refine call_function_tree F.kind_min F.plain_min F.entry_min (Bs _) ?_
 show wpAny (model P w) A.in1 (Builtin.Builtins.bindParams "min" ["key","default"] 0 ⟨[],[]⟩ >>= _) _ _ s
 refine wpAny_bind (wpAny_of_eq (show Builtin.Builtins.bindParams "min" ["key","default"] 0 ⟨[],[]⟩=pure [none,none] from rfl) ?_)
 show wpAny (model P w) A.in1 (pyIter (.ref l) >>= _) _ _ s
 refine wpAny_bind (wpAny_pyIter_list pl ?_)
 have yz:(s.heap.push { cls:= .type "list_iterator",data:= .fields #[.ref l,.int 0 0] }).objs.size=s.heap.objs.size+1:=Heap.size_push ..
 apply wpAny_bind
 refine wpAny_newObj_type ?_
 rw [nm]
 refine wpAny_pure ⟨plainId_quiet F.plain_min_loop _,yv (h0:=s.heap) (Walks.list (A:=A.in1) hh s.heap.objs.size l (Zr ll) vs.toArray) (bt:=bt) (fun i j vi vj t Q E g1 p1 p2 q=>hc i j vi vj t Q E g1 (by simpa using p1) (by simpa using p2) q) ?_ (fun b o q=>?_) (by simpa using hn) (fun b o q=>Heap.get?_push_of_some _ (Heap.get?_push_of_some _ q)) ⟨⟨_,Heap.get?_push_of_some _ (Heap.get?_push_size _ rfl),rfl,rfl⟩,?_⟩ (Heap.get?_push_size _ rfl) fun v h' tk p kp=>?_⟩
 ·intro q
  rw [yz] at q
  rcases Y6.mp q with q | q
  ·exact absurd q (aa6 _)
  ·have q:=Y8.mp q
   rw [← q] at ll
   exact absurd ll (aao.mpr (ZP _))
 ·have lb:=Heap.lt_size q
  rw [yz]
  refine ⟨fun z=>?_,fun z=>?_⟩
  ·have z:=Y8.mp z
   rw [z] at lb
   exact absurd lb (ZJ _)
  ·rw [z] at lb
   exact absurd lb (aao.mpr (ZP _))
 ·obtain ⟨o,e,c,d⟩:=pl
  exact ⟨o,Heap.get?_push_of_some _ (Heap.get?_push_of_some _ e),c,d⟩
 ·refine h v h' tk (by simpa using p) fun b o q=>?_
  have lb:=Heap.lt_size q
  refine kp b o (fun z=>?_) (fun z=>?_) (Heap.get?_push_of_some _ (Heap.get?_push_of_some _ q))
  ·have z:=Y8.mp z
   rw [z] at lb
   exact absurd lb (ZJ _)
  ·rw [z,yz] at lb
   exact absurd lb (aao.mpr (ZP _))
theorem max_list {l:Addr} {vs:List Value} {bt:Nat→Nat→Bool} {Q:Value→Shared→Prop} (pl:s.heap.IsList l vs.toArray) (hn:0 < vs.length) (hh:A.handled=none)
 (hc:∀ (i j:Nat) (vi vj:Value) (t:Shared) (Q:Value→Shared→Prop) (E:Value→Shared→Prop),dU s.heap t.heap→vs[i]?=some vi→vs[j]?=some vj→Q (.bool (bt i j)) t→wpAny (model P w) A.in1 (richCompare .Gt vi vj) Q E t)
 (h:∀ v h' tk,vs[argBest bt (vs.length - 1)]?=some v→dU s.heap h'→Q v { s with heap:=h',toks:=tk }):wpAny (model P w) A (call (.builtin "max") [.ref l]) Q E s:=by
 have nm:(toString "max" ++ toString ".loop" :String)= "max.loop" :=by decide
 have ll:l < s.heap.objs.size:=by obtain ⟨o,e,_⟩:=pl;exact Heap.lt_size e
 refine call_function_tree F.kind_max F.plain_max F.entry_max (Hi _) ?_
 show wpAny (model P w) A.in1 (Builtin.Builtins.bindParams "max" ["key","default"] 0 ⟨[],[]⟩ >>= _) _ _ s
 refine wpAny_bind (wpAny_of_eq (show Builtin.Builtins.bindParams "max" ["key","default"] 0 ⟨[],[]⟩=pure [none,none] from rfl) ?_)
 show wpAny (model P w) A.in1 (pyIter (.ref l) >>= _) _ _ s
 refine wpAny_bind (wpAny_pyIter_list pl ?_)
 have yz:(s.heap.push { cls:= .type "list_iterator",data:= .fields #[.ref l,.int 0 0] }).objs.size=s.heap.objs.size+1:=Heap.size_push ..
 apply wpAny_bind
 refine wpAny_newObj_type ?_
 rw [nm]
 refine wpAny_pure ⟨plainId_quiet F.plain_max_loop _,EO (h0:=s.heap) (Walks.list (A:=A.in1) hh s.heap.objs.size l (Zr ll) vs.toArray) (bt:=bt) (fun i j vi vj t Q E g1 p1 p2 q=>hc i j vi vj t Q E g1 (by simpa using p1) (by simpa using p2) q) ?_ (fun b o q=>?_) (by simpa using hn) (fun b o q=>Heap.get?_push_of_some _ (Heap.get?_push_of_some _ q)) ⟨⟨_,Heap.get?_push_of_some _ (Heap.get?_push_size _ rfl),rfl,rfl⟩,?_⟩ (Heap.get?_push_size _ rfl) fun v h' tk p kp=>?_⟩
 ·intro q
  rw [yz] at q
  rcases Y6.mp q with q | q
  ·exact absurd q (aa6 _)
  ·have q:=Y8.mp q
   rw [← q] at ll
   exact absurd ll (aao.mpr (ZP _))
 ·have lb:=Heap.lt_size q
  rw [yz]
  refine ⟨fun z=>?_,fun z=>?_⟩
  ·have z:=Y8.mp z
   rw [z] at lb
   exact absurd lb (ZJ _)
  ·rw [z] at lb
   exact absurd lb (aao.mpr (ZP _))
 ·obtain ⟨o,e,c,d⟩:=pl
  exact ⟨o,Heap.get?_push_of_some _ (Heap.get?_push_of_some _ e),c,d⟩
 ·refine h v h' tk (by simpa using p) fun b o q=>?_
  have lb:=Heap.lt_size q
  refine kp b o (fun z=>?_) (fun z=>?_) (Heap.get?_push_of_some _ (Heap.get?_push_of_some _ q))
  ·have z:=Y8.mp z
   rw [z] at lb
   exact absurd lb (ZJ _)
  ·rw [z,yz] at lb
   exact absurd lb (aao.mpr (ZP _))
end
theorem lS {bt:Nat→Nat→Bool} (ir:∀ i,bt i i=false) (tr:∀ i j k,bt i j=true→bt j k=true→bt i k=true):∀ n k,k≤n→bt k (argBest bt n)=false
 | 0,k,h=>by
   obtain rfl:k=0:=by omega
   exact ir 0
 | n+1,k,h=>by
   have ih:=lS ir tr n
   unfold argBest
   split
   ·rename_i c
    by_cases e:k=n+1
    ·rw [e];exact ir _
    ·cases z:bt k (n+1) with
     | false=>rfl
     | true=>rw [← ih k (by omega)];exact (tr _ _ _ z c).symm
   ·rename_i c
    by_cases e:k=n+1
    ·rw [e];exact Bool.eq_false_iff.mpr c
    ·exact ih k (by omega)
section
variable {X:Cx} {pos:Pos}
def Px:List D→Mp→DK→Prop:=fun ds M Q=> ∃ (l:Addr) (ps:List Pl),ds= [.ref l]∧M l=some (.lst (ps.map Pl.d))∧ps≠[]∧∀ m∈ps,(∀ z∈ps,¬ aL z m)→Q m.d M
def Py:List D→Mp→DK→Prop:=fun ds M Q=> ∃ (l:Addr) (ps:List Pl),ds= [.ref l]∧M l=some (.lst (ps.map Pl.d))∧ps≠[]∧∀ m∈ps,(∀ z∈ps,¬ aL m z)→Q m.d M
theorem qX {ps:List Pl} {xs:List V} {us:List Value} {K:PySem.W.Frag} {H:Hp} {i:Nat} {v:Value} (dx:aM K H (ps.map Pl.d) xs) (rv:Vals xs us) (e:us[i]?=some v):i < ps.length∧∃ x,RelV x v∧Dat K H (ps.getD i ⟨0,0⟩).d x:=by
 have hi:i < us.length:=(Ze.mp e).1
 have hl:us.length=ps.length:=by rw [Vals.len rv,← dx.length,Y4]
 have lt:i < xs.length:=by rw [← dx.length,Y4];omega
 obtain ⟨u,eu,ru⟩:=Vals.get rv (Y7 lt)
 rw [e] at eu
 cases eu
 obtain ⟨d,ed,dd⟩:=dx.back (Y7 lt)
 rw [ZI,Y7 (by omega:i < ps.length)] at ed
 refine ⟨by omega,_,ru,?_⟩
 rw [Zd,Y7 (by omega:i < ps.length)]
 cases ed
 exact dd
theorem qY {ps:List Pl} {lt:Pl→Pl→Bool} {b:Nat} (hb:b < ps.length) (ir:∀ p,lt p p=false) (tr:∀ p q r,lt p q=true→lt q r=true→lt p r=true) {n:Nat} (hn:n=ps.length) (e:b=argBest (bestOf lt ps) (n - 1)) :
 ps.getD b ⟨0,0⟩∈ps∧∀ z∈ps,lt z (ps.getD b ⟨0,0⟩)=false:=by
 refine ⟨?_,fun z hz=>?_⟩
 ·rw [Zd,Y7 hb]
  exact Z4 hb
 ·obtain ⟨k,hk⟩:=Z5.mp hz
  have hk1:k < ps.length:=(Ze.mp hk).1
  have:=lS (bt:=bestOf lt ps) (fun i=>ir _) (fun i j k a b=>tr _ _ _ a b) (n - 1) k (by omega)
  rw [← e] at this
  have ek:ps.getD k ⟨0,0⟩=z:=by rw [Zd,hk];rfl
  unfold bestOf at this
  rw [ek] at this
  exact this
theorem Cy (hu:X.A.units+64 < cLine) (hc:X.calm=true):Call3 X (.builtin "min") Px:=by
 constructor
 intro pins s σ H M xs ds us Q I rm rs dx ⟨l,ps,e,hM,hne,q⟩
 subst e
 obtain ⟨v,rfl,hv⟩:=nU dx
 obtain rfl:=aK.mp hv
 obtain ⟨u,rfl,r1⟩:=vals1 rs
 obtain rfl:u=Value.ref l:=r1
 obtain ⟨zs,hH,hz⟩:=rm.lst hM
 obtain ⟨its,rv,pl,hsz⟩:=I.list (iD.of (K:=X.K) hH)
 have hl:its.length=ps.length:=by rw [Vals.len rv,← hz.length,Y4]
 have hpos:0 < ps.length:=aat.mpr hne
 have hp:=gR I.hok hz rv
 refine min_list pl.isList (by omega) (I.ok.hd hc) (bt:=bestOf (fun p q=>decide (aL p q)) ps) (fun i j vi vj t Q E g e1 e2 q=>?_) fun v h' tk e g=>?_
 ·obtain ⟨p1,f1,a1⟩:=hp.get e1
  obtain ⟨p2,f2,a2⟩:=hp.get e2
  obtain ⟨l1,i1,rfl,t1,n1⟩:=(a1.grow g).tup
  obtain ⟨l2,i2,rfl,t2,n2⟩:=(a2.grow g).tup
  have eb:bestOf (fun p q=>decide (aL p q)) ps i j=decide (aL p1 p2):=by unfold bestOf;rw [Zd,Zd,f1,f2];rfl
  rw [eb,← dY] at q
  exact (HT.gu t1 t2 n1 n2 (by show X.A.units+1 < cLine;omega) q:wpAny (model X.prog X.w) X.A.in1 (compareOp .Lt (.ref l1) (.ref l2)) Q E t)
 ·obtain ⟨hb,x,rx,dd⟩:=qX hz rv e
  obtain ⟨m1,m2⟩:=qY (lt:=fun p q=>decide (aL p q)) hb (fun p=>decide_eq_false (aY p)) (fun p q r a b=>decide_eq_true (aZ (of_decide_eq_true a) (of_decide_eq_true b))) hl rfl
  exact ⟨x,H,I.kept g,rx,aH rm dd (q _ m1 fun z hz=>of_decide_eq_false (m2 z hz))⟩
theorem Mt (hu:X.A.units+64 < cLine) (hc:X.calm=true):Call3 X (.builtin "max") Py:=by
 constructor
 intro pins s σ H M xs ds us Q I rm rs dx ⟨l,ps,e,hM,hne,q⟩
 subst e
 obtain ⟨v,rfl,hv⟩:=nU dx
 obtain rfl:=aK.mp hv
 obtain ⟨u,rfl,r1⟩:=vals1 rs
 obtain rfl:u=Value.ref l:=r1
 obtain ⟨zs,hH,hz⟩:=rm.lst hM
 obtain ⟨its,rv,pl,hsz⟩:=I.list (iD.of (K:=X.K) hH)
 have hl:its.length=ps.length:=by rw [Vals.len rv,← hz.length,Y4]
 have hpos:0 < ps.length:=aat.mpr hne
 have hp:=gR I.hok hz rv
 refine max_list pl.isList (by omega) (I.ok.hd hc) (bt:=bestOf (fun p q=>decide (aL q p)) ps) (fun i j vi vj t Q E g e1 e2 q=>?_) fun v h' tk e g=>?_
 ·obtain ⟨p1,f1,a1⟩:=hp.get e1
  obtain ⟨p2,f2,a2⟩:=hp.get e2
  obtain ⟨l1,i1,rfl,t1,n1⟩:=(a1.grow g).tup
  obtain ⟨l2,i2,rfl,t2,n2⟩:=(a2.grow g).tup
  have eb:bestOf (fun p q=>decide (aL q p)) ps i j=decide (aL p2 p1):=by unfold bestOf;rw [Zd,Zd,f1,f2];rfl
  rw [eb,← dY] at q
  exact (HT.Cj t1 t2 n1 n2 (by show X.A.units+1 < cLine;omega) q:wpAny (model X.prog X.w) X.A.in1 (compareOp .Gt (.ref l1) (.ref l2)) Q E t)
 ·obtain ⟨hb,x,rx,dd⟩:=qX hz rv e
  obtain ⟨m1,m2⟩:=qY (lt:=fun p q=>decide (aL q p)) hb (fun p=>decide_eq_false (aY p)) (fun p q r a b=>decide_eq_true (aZ (of_decide_eq_true b) (of_decide_eq_true a))) hl rfl
  exact ⟨x,H,I.kept g,rx,aH rm dd (q _ m1 fun z hz=>of_decide_eq_false (m2 z hz))⟩
end
end L3
namespace L3
open PySem PySem.Spec PyProof.Rows L2
section
open PySem.SeqAt
open PySem.AutoSeq1 (wpAny_loadPart')
open PySem.MeetsSeq PySem.MeetsSeq2 PySem.MeetsSeq3
theorem E1 (l:Addr) (items:Array Value) (n:Nat) (b:Addr) (items2:Array Value) (n2:Nat) (dd:Option Addr) (sl:Array (Option Value)) (h0:¬(!items.isEmpty && Builtin.List.listTooLong (items.size+items2.size))=true) (h1:items.size≤sizeLine) (h2:items.size+items2.size≤sizeLine+1) :
 Meets (Builtin.«list.extend» ⟨[.ref l,.ref b],[]⟩) (fun _ R s=>s.heap.get? l=some { cls:= .type "list",dict:=none,data:= .seq items n,slots:= #[] }∧s.heap.get? b=some { cls:= .type "tuple",dict:=dd,data:= .seq items2 n2,slots:=sl }∧R (.ok (.ret Value.none)) { s with heap:=s.heap.update l (Obj.mapSeq fun x=>x ++ items2),toks:=s.toks }):=
 .of_wp fun prog w A R s h=>by
  obtain ⟨hp,g,d,tk,os⟩:=s
  obtain ⟨hl,hb,h⟩:=h
  have f2:=AutoSeq1.sub_tuple_tuple
  have f3:=AutoSeq1.sub_list_list
  have f4:=AutoSeq1.sub_tuple_list
  have f5:=AutoSeq1.sub_list_tuple
  have hz':(items ++ items2).size≤sizeLine+1:=by rw [Array.size_append];exact h2
  wp_walk using (wpAny_updateSeq hl rfl (hz:=h1) (_hz':=hz')),wpAny_loadPart' hl,wpAny_loadPart' hb
  exact ⟨_,rfl,h⟩
end
section
variable {X:Cx} {pos:Pos}
theorem yG {K:PySem.W.Frag} {H:Hp} {d:D}:∀ {ds:List D} {xs:List V} {us:List Value},aM K H ds xs→Vals xs us→ds.all (plain 9)=true→us.countP (AJ K H d)=ds.countP (fun e=>eg e d)
 | [],xs,us,h,r,_=>by rw [aV.mp h] at r;cases r;rfl
 | e :: ds,xs,us,h,r,p=>by
   obtain ⟨v,vs,rfl,h1,h2⟩:=aQ.mp h
   rw [aaP,ZX] at p
   cases r with
   | cons r1 r2=>rw [ab2,ab2,yG h2 r2 p.2,Cg p.1 h1 r1]
def DW (K:PySem.W.Frag):V→List V→Hp→VK→Prop:=fun x vs H Q=> ∃ (l:Addr) (xs:List V) (y:V) (ds:List D) (d:D),x= .ref l∧vs= [y]∧H l=some (.lst xs)∧aM K H ds xs∧Dat K H d y∧plain 9 d=true∧ds.all (plain 9)=true∧Q (.int ((ds.countP (fun e=>eg e d):Nat):Int)) H
theorem Hj (hu:X.A.units+64 < cLine):Ol X "list.count" (DW X.K):=by
 intro pins s σ H x vs v us Q I rx rv h
 obtain ⟨l,xs,y,ds,d,rfl,rfl,hH,hd,dy,pd,TQ,q⟩:=h
 cases rx
 obtain ⟨u,rfl,ru⟩:=vals1 rv
 obtain ⟨z,its,n,r,hl,e⟩:=I.AW hH
 refine call_meets PySem.F.slot_list_count ⟨_,e,rfl⟩ PySem.F.entry_list_count (PySem.F.args_list_count_2 _ _) (SeqAt.list_countAt l its.toArray n none #[] u (AJ X.K H d)) ⟨e,?_,?_⟩
 ·intro w hw
  exact pJ I.hok (by show X.A.units+1+9 < cLine;omega) pd dy ru hd r TQ w (by simpa using hw)
 ·rw [yG hd r TQ]
  exact ⟨.int _,H,I.tok _,⟨_,rfl⟩,q⟩
def Mu (to te:dI):dI:=fun ρ M Q=>to ρ M fun d M1=>(∃ l xs,d= .ref l∧M1 l=some (.lst xs))∧te ρ M1 fun e M2=> ∃ (l:Addr) (xs:List D),d= .ref l∧M2 l=some (.lst xs)∧plain 9 e=true∧xs.all (plain 9)=true∧Q (.int ((xs.countP (fun y=>eg y e):Nat):Int)) M2
theorem JJ {o e:Expr} {to te:dI} {apos pos:Pos} (ho:cK X o to) (he:cK X e te) (Jm:PE X (.Call (.Attribute o "count" apos) [e] [] pos) (Oj X.K "list" (DW X.K) (dn X.K to) (AO (dn X.K te) Gh))):cK X (.Call (.Attribute o "count" apos) [e] [] pos) (Mu to te):=
 up Jm fun σ H ρ M Q r q=>eB r q fun v H' d M' f dv r' ⟨⟨l,xs,e1,hM⟩,q⟩=>by
  subst e1
  obtain rfl:=aK.mp dv
  obtain ⟨ys,ha,hy⟩:=r'.mem.lst hM
  refine ⟨.inl ⟨rfl,_,iD.of ha⟩,eB r' q fun u H2 d2 M2 f2 du r2 ⟨l',xs',e2,Iu,p1,p2,q2⟩=>?_⟩
  injection e2 with e2
  subst e2
  obtain ⟨zs,hb,hz⟩:=r2.mem.lst Iu
  exact ⟨l,zs,u,xs',d2,rfl,rfl,hb,hz,du,p1,p2,.int _,M2,f.trans f2,aW.mpr rfl,r2.mem,q2⟩
def Sn (to te:dI):dI:=fun ρ M Q=>to ρ M fun d M1=>(∃ l xs,d= .ref l∧M1 l=some (.lst xs))∧te ρ M1 fun e M2=> ∃ (l b:Addr) (xs zs:List D),d= .ref l∧e= .ref b∧M2 l=some (.lst xs)∧M2 b=some (.lst zs)∧xs.length+zs.length≤sizeLine∧Q .bJ (aE M2 l (.lst (xs ++ zs)))
theorem KR {o e:Expr} {to te:dI} {apos pos:Pos} (ho:cK X o to) (he:cK X e te) (Jm:PE X (.Call (.Attribute o "extend" apos) [e] [] pos) (Oj X.K "list" Dy (dn X.K to) (AO (dn X.K te) Gh))):cK X (.Call (.Attribute o "extend" apos) [e] [] pos) (Sn to te):=
 up Jm fun σ H ρ M Q r q=>eB r q fun v H' d M' f dv r' ⟨⟨l,xs,e1,hM⟩,q⟩=>by
  subst e1
  obtain rfl:=aK.mp dv
  obtain ⟨ys,ha,hy⟩:=r'.mem.lst hM
  refine ⟨.inl ⟨rfl,_,iD.of ha⟩,eB r' q fun u H2 d2 M2 f2 du r2 ⟨l',b,xs',zs,e2,e3,Iu,hB,hlt,q2⟩=>?_⟩
  injection e2 with e2
  subst e2 e3
  obtain rfl:=aK.mp du
  obtain ⟨ws,hb,hw⟩:=r2.mem.lst Iu
  obtain ⟨vs,hc,hv⟩:=r2.mem.lst hB
  exact ⟨l,b,ws,vs,rfl,rfl,hb,hc,by rw [← hw.length,← hv.length];exact hlt,.bJ,_,(f.trans f2).trans (Fr.write (K:=X.K) Iu),cE.mpr rfl,r2.mem.lF hb (hw.append hv),q2⟩
def KS (K:PySem.W.Frag):V→List V→Hp→VK→Prop:=fun x vs H Q=> ∃ (l:Addr) (y:V) (xs:List V) (ds:List D),x= .ref l∧vs= [y]∧H l=some (.lst xs)∧Dat K H (.tup ds) y∧xs.length+ds.length≤sizeLine∧∀ ws,aM K H ds ws→Q .bJ (upd H l (.lst (xs ++ ws)))
theorem JK:Ol X "list.extend" (KS X.K):=by
 intro pins s σ H x vs v us Q I rx rv h
 obtain ⟨l,y,xs,ds,rfl,rfl,hH,hy,hz,q⟩:=h
 cases rx
 obtain ⟨u,rfl,ru⟩:=vals1 rv
 obtain ⟨b,ws,rfl,hb,hws⟩:=bH.mp hy
 obtain rfl:u=Value.ref b:=ru
 obtain ⟨z,its,n,r,hl,e⟩:=I.AW hH
 obtain ⟨its2,r2,tp,hsz2⟩:=eY I.hok hb
 obtain ⟨⟨LG,dd2,data2,sl2⟩,ho2,hc2,n2,hd2⟩:=id tp
 simp only at hc2 hd2
 subst hc2 hd2
 have l2:its2.length=ds.length:=by rw [Vals.len r2,← hws.length]
 have l3:=hws.length
 have hsz:its.toArray.size+its2.toArray.size≤sizeLine:=by rw [Za,Za];omega
 have Gs:¬ (!its.toArray.isEmpty && Builtin.List.listTooLong (its.toArray.size+its2.toArray.size))=true:=by
  rw [AX hsz,abK]
  exact Zg
 refine call_meets PySem.F.slot_list_extend ⟨_,e,rfl⟩ PySem.F.entry_list_extend (PySem.F.args_list_extend_2 _ _) (E1 l its.toArray n b its2.toArray n2 dd2 sl2 Gs (by rw [Za];omega) (by omega)) ⟨e,ho2,?_⟩
 refine ⟨.bJ,_,I.IW (its':=its ++ its2) hH e (by simp) (r.append r2) ?_,rfl,q ws hws⟩
 rw [Zh]
 omega
def Pz (to te:dI):dI:=fun ρ M Q=>to ρ M fun d M1=>(∃ l xs,d= .ref l∧M1 l=some (.lst xs))∧te ρ M1 fun e M2=> ∃ (l:Addr) (xs ds:List D),d= .ref l∧e= .tup ds∧M2 l=some (.lst xs)∧xs.length+ds.length≤sizeLine∧Q .bJ (aE M2 l (.lst (xs ++ ds)))
theorem Mv {o e:Expr} {to te:dI} {apos pos:Pos} (ho:cK X o to) (he:cK X e te) (Jm:PE X (.Call (.Attribute o "extend" apos) [e] [] pos) (Oj X.K "list" (KS X.K) (dn X.K to) (AO (dn X.K te) Gh))):cK X (.Call (.Attribute o "extend" apos) [e] [] pos) (Pz to te):=
 up Jm fun σ H ρ M Q r q=>eB r q fun v H' d M' f dv r' ⟨⟨l,xs,e1,hM⟩,q⟩=>by
  subst e1
  obtain rfl:=aK.mp dv
  obtain ⟨ys,ha,hy⟩:=r'.mem.lst hM
  refine ⟨.inl ⟨rfl,_,iD.of ha⟩,eB r' q fun u H2 d2 M2 f2 du r2 ⟨l',xs',ds,e2,e3,Iu,hlt,q2⟩=>?_⟩
  injection e2 with e2
  subst e2 e3
  obtain ⟨ws,hb,hw⟩:=r2.mem.lst Iu
  exact ⟨l,u,ws,ds,rfl,rfl,hb,du,by rw [← hw.length];exact hlt,fun vs hv=>⟨.bJ,_,(f.trans f2).trans (Fr.write (K:=X.K) Iu),cE.mpr rfl,r2.mem.lF hb (hw.append hv),q2⟩⟩
end
end L3
namespace L3
open PySem PySem.Spec PyProof.Rows L2
section
variable {P:Program} {w:World} {A:Around} {E:Value→Shared→Prop} {s:Shared}
theorem JL {l:Addr} {vs:List Value} {bt:Nat→Nat→Bool} {Q:Value→Shared→Prop} (pl:s.heap.IsTuple l vs.toArray) (hn:0 < vs.length) (hh:A.handled=none)
 (hc:∀ (i j:Nat) (vi vj:Value) (t:Shared) (Q:Value→Shared→Prop) (E:Value→Shared→Prop),dU s.heap t.heap→vs[i]?=some vi→vs[j]?=some vj→Q (.bool (bt i j)) t→wpAny (model P w) A.in1 (richCompare .Lt vi vj) Q E t)
 (h:∀ v h' tk,vs[argBest bt (vs.length - 1)]?=some v→dU s.heap h'→Q v { s with heap:=h',toks:=tk }):wpAny (model P w) A (call (.builtin "min") [.ref l]) Q E s:=by
 have nm:(toString "min" ++ toString ".loop" :String)= "min.loop" :=by decide
 have ll:l < s.heap.objs.size:=by obtain ⟨o,e,_⟩:=pl;exact Heap.lt_size e
 refine call_function_tree F.kind_min F.plain_min F.entry_min (Bs _) ?_
 show wpAny (model P w) A.in1 (Builtin.Builtins.bindParams "min" ["key","default"] 0 ⟨[],[]⟩ >>= _) _ _ s
 refine wpAny_bind (wpAny_of_eq (show Builtin.Builtins.bindParams "min" ["key","default"] 0 ⟨[],[]⟩=pure [none,none] from rfl) ?_)
 show wpAny (model P w) A.in1 (pyIter (.ref l) >>= _) _ _ s
 refine wpAny_bind (wpAny_pyIter_tuple pl ?_)
 have yz:(s.heap.push { cls:= .type "tuple_iterator",data:= .fields #[.ref l,.int 0 0] }).objs.size=s.heap.objs.size+1:=Heap.size_push ..
 apply wpAny_bind
 refine wpAny_newObj_type ?_
 rw [nm]
 refine wpAny_pure ⟨plainId_quiet F.plain_min_loop _,yv (h0:=s.heap) (Walks.tuple (A:=A.in1) hh s.heap.objs.size l (Zr ll) vs.toArray) (bt:=bt) (fun i j vi vj t Q E g1 p1 p2 q=>hc i j vi vj t Q E g1 (by simpa using p1) (by simpa using p2) q) ?_ (fun b o q=>?_) (by simpa using hn) (fun b o q=>Heap.get?_push_of_some _ (Heap.get?_push_of_some _ q)) ⟨⟨_,Heap.get?_push_of_some _ (Heap.get?_push_size _ rfl),rfl,rfl⟩,?_⟩ (Heap.get?_push_size _ rfl) fun v h' tk p kp=>?_⟩
 ·intro q
  rw [yz] at q
  rcases Y6.mp q with q | q
  ·exact absurd q (aa6 _)
  ·have q:=Y8.mp q
   rw [← q] at ll
   exact absurd ll (aao.mpr (ZP _))
 ·have lb:=Heap.lt_size q
  rw [yz]
  refine ⟨fun z=>?_,fun z=>?_⟩
  ·have z:=Y8.mp z
   rw [z] at lb
   exact absurd lb (ZJ _)
  ·rw [z] at lb
   exact absurd lb (aao.mpr (ZP _))
 ·exact (pl.push _).push _
 ·refine h v h' tk (by simpa using p) fun b o q=>?_
  have lb:=Heap.lt_size q
  refine kp b o (fun z=>?_) (fun z=>?_) (Heap.get?_push_of_some _ (Heap.get?_push_of_some _ q))
  ·have z:=Y8.mp z
   rw [z] at lb
   exact absurd lb (ZJ _)
  ·rw [z,yz] at lb
   exact absurd lb (aao.mpr (ZP _))
end
section
variable {X:Cx} {pos:Pos}
def Mw:List D→Mp→DK→Prop:=fun ds M Q=> ∃ ps:List Pl,ds= [.tup (ps.map Pl.d)]∧ps≠[]∧∀ m∈ps,(∀ z∈ps,¬ aL z m)→Q m.d M
theorem JM (hu:X.A.units+64 < cLine) (hc:X.calm=true):Call3 X (.builtin "min") Mw:=by
 constructor
 intro pins s σ H M xs ds us Q I rm rs dx ⟨ps,e,hne,q⟩
 subst e
 obtain ⟨v,rfl,hv⟩:=nU dx
 obtain ⟨l,zs,rfl,hH,hz⟩:=bH.mp hv
 obtain ⟨u,rfl,r1⟩:=vals1 rs
 obtain rfl:u=Value.ref l:=r1
 obtain ⟨its,rv,tp,hsz⟩:=eY I.hok hH
 have hl:its.length=ps.length:=by rw [Vals.len rv,← hz.length,Y4]
 have hpos:0 < ps.length:=aat.mpr hne
 have hp:=gR I.hok hz rv
 refine JL tp (by omega) (I.ok.hd hc) (bt:=bestOf (fun p q=>decide (aL p q)) ps) (fun i j vi vj t Q E g e1 e2 q=>?_) fun v h' tk e g=>?_
 ·obtain ⟨p1,f1,a1⟩:=hp.get e1
  obtain ⟨p2,f2,a2⟩:=hp.get e2
  obtain ⟨l1,i1,rfl,t1,n1⟩:=(a1.grow g).tup
  obtain ⟨l2,i2,rfl,t2,n2⟩:=(a2.grow g).tup
  have eb:bestOf (fun p q=>decide (aL p q)) ps i j=decide (aL p1 p2):=by unfold bestOf;rw [Zd,Zd,f1,f2];rfl
  rw [eb,← dY] at q
  exact (HT.gu t1 t2 n1 n2 (by show X.A.units+1 < cLine;omega) q:wpAny (model X.prog X.w) X.A.in1 (compareOp .Lt (.ref l1) (.ref l2)) Q E t)
 ·obtain ⟨hb,x,rx,dd⟩:=qX hz rv e
  obtain ⟨m1,m2⟩:=qY (lt:=fun p q=>decide (aL p q)) hb (fun p=>decide_eq_false (aY p)) (fun p q r a b=>decide_eq_true (aZ (of_decide_eq_true a) (of_decide_eq_true b))) hl rfl
  exact ⟨x,H,I.kept g,rx,aH rm dd (q _ m1 fun z hz=>of_decide_eq_false (m2 z hz))⟩
end
section
open PySem.SeqAt
open PySem.AutoSeq1 (wpAny_loadPart')
open PySem.MeetsSeq PySem.MeetsSeq2 PySem.MeetsSeq3
theorem E2 (p q:Pl) (ps qs:List Pl):dc (p :: ps) (q :: qs)=if p=q then dc ps qs else decide (aL p q):=rfl
theorem zB (l b:Addr) (items items2:Array Value) (n n2:Nat) (dd dd2:Option Addr) (sl sl2:Array (Option Value)) (ps qs:List Pl) :
 Meets (Builtin.«tuple.__lt__» ⟨[.ref l,.ref b],[]⟩)
  (fun A R s=>A.in1.units+8 < cLine∧dF s.heap items.toList ps∧dF s.heap items2.toList qs∧s.heap.get? l=some { cls:= .type "tuple",dict:=dd,data:= .seq items n,slots:=sl }∧s.heap.get? b=some { cls:= .type "tuple",dict:=dd2,data:= .seq items2 n2,slots:=sl2 }∧
   R (.ok (.ret (.bool (dc ps qs)))) s):=
 .of_wp fun prog w A R s h=>by
  obtain ⟨hp,g,d,tk,os⟩:=s
  obtain ⟨hu,hi,hj,hl,hb,h⟩:=h
  have f2:=AutoSeq1.sub_tuple_tuple
  have z1:items.size=ps.length:=by have:=hi.length;simpa using this
  have z2:items2.size=qs.length:=by have:=hj.length;simpa using this
  wp_walk using wpAny_loadPart' hl,wpAny_loadPart' hb,wpAny_forIn_list _ (fun rest b s'=>b.1=none∧s'= ⟨hp,g,d,tk,os⟩∧∃ (vs ws:List Value) (ns' ms':List Pl),rest=vs.zip ws∧
   dF hp vs ns'∧dF hp ws ms'∧ns'.length+items2.size=ms'.length+items.size∧R (.ok (.ret (.bool (dc ns' ms')))) ⟨hp,g,d,tk,os⟩) _
  case turn=>
   rintro ⟨y,x⟩ rest b s' ⟨hb',rfl,vs,ws,ns',ms',hz,Gk,hwi,hlen,hR⟩
   cases Gk with
   | nil=>rw [abg] at hz;cases hz
   | @cons _ p _ _ a Gm=>
     cases hwi with
     | nil=>rw [aau] at hz;cases hz
     | @cons _ q _ _ c Gn=>
       rw [Z6] at hz
       injection hz with hyx hrest
       injection hyx with hy hx
       subst hy hx
       rw [E2] at hR
       simp only [Zj] at hlen
       have Of:∀ (E:Value→Shared→Prop) (Q:Value→Shared→Prop),Q (.bool (decide (aL p q))) ⟨hp,g,d,tk,os⟩→wpAny (model prog w) A.in1 (richCompare .Lt y x) Q E ⟨hp,g,d,tk,os⟩:=fun E Q k=>by
        obtain ⟨l1,i1,rfl,t1,n1⟩:=a.tup
        obtain ⟨l2,i2,rfl,t2,n2⟩:=c.tup
        rw [← dY] at k
        exact (HT.gu t1 t2 n1 n2 (by omega) k:wpAny (model prog w) A.in1 (compareOp .Lt (.ref l1) (.ref l2)) Q E ⟨hp,g,d,tk,os⟩)
       refine wpAny_bind (rT (by omega) a c ?_)
       by_cases e:p=q
       ·rw [decide_eq_true e]
        rw [if_pos e] at hR
        wp_walk
        exact ⟨rfl,rfl,_,_,_,_,hrest,Gm,Gn,by omega,hR⟩
       ·rw [decide_eq_false e]
        rw [if_neg e] at hR
        wp_walk using Of
        exact ⟨_,rfl,by simpa using hR⟩
  case fin=>
   rintro ⟨b1,b2⟩ s' ⟨hb',rfl,vs,ws,ns',ms',hz,Gk,hwi,hlen,hR⟩
   simp only at hb'
   subst hb'
   have hv:dc ns' ms'=decide (items.size < items2.size):=by
    cases Gk with
    | nil=>
      cases hwi with
      | nil=>
        simp only [aaf] at hlen
        exact (decide_eq_false (by omega)).symm
      | cons c hw=>
        simp only [aaf,Zj] at hlen
        exact (decide_eq_true (by omega)).symm
    | cons a hv=>
      cases hwi with
      | nil=>
        simp only [aaf,Zj] at hlen
        exact (decide_eq_false (by omega)).symm
      | cons c hw=>
        rw [Z6] at hz
        cases hz
   rw [hv] at hR
   wp_walk
   exact ⟨_,rfl,by simpa [Builtin.Tuple.tupleCompareSizes] using hR⟩
  case h=>
   exact ⟨rfl,rfl,items.toList,items2.toList,ps,qs,rfl,hi,hj,by omega,h⟩
end
end L3
namespace L3
open PySem PySem.Spec PyProof.Rows L2
section
variable {P:Program} {w:World} {A:Around} {E:Value→Shared→Prop} {s:Shared}
theorem JN {h0:Heap} {I S:Addr} {fp wr:List Addr} {n:Nat} {Pr:Nat→Value→Prop} {St:Nat→Heap→Prop} {bt:Nat→Nat→Bool} {R:Result→Shared→Prop} {kw:List (Str ×Value)} (W:Walks P w A.in1 I fp wr n Pr St)
 (hc:∀ (i j:Nat) (vi vj:Value) (t:Shared) (Q:Value→Shared→Prop) (E:Value→Shared→Prop),dU h0 t.heap→Pr i vi→Pr j vj→Q (.bool (bt i j)) t→wpAny (model P w) A.in1 (richCompare .Lt vi vj) Q E t)
 (hS:S∉fp) (yu:∀ b o,h0.get? b=some o→b∉wr∧b≠S):∀ (m k:Nat) (t:Shared) (vb:Value) (c:Nat),n - (k+1)=m→k+1≤n→dU h0 t.heap→St (k+1) t.heap→Pr (argBest bt k) vb→
 t.heap.get? S=some { cls:= .type "list",dict:=none,data:= .seq #[vb,vb] c,slots:= #[] }→
 (∀ v h' tk,Pr (argBest bt (n - 1)) v→(∀ b o,b∉wr→b≠S→t.heap.get? b=some o→h'.get? b=some o)→R (.ok (.ret v)) { t with heap:=h',toks:=tk })→
 codeAny (model P w) A (.builtin "min.loop" ⟨[.ref I,.none,.ref S],kw⟩) R t:=by
 have Sw:S∉wr:=fun q=>hS (W.sub _ q)
 have nm:(toString "min" ++ toString ".loop" :String)= "min.loop" :=by decide
 intro m
 induction m with
 | zero=>
   intro k t vb c e1 e2 gr st pb hs hR
   have ek:k+1=n:=by omega
   refine codeAny_builtin F.entry_min_loop ?_
   rw [Around.under_plainId F.plain_min_loop]
   show wpAny (model P w) A.in1 (seqItems? (.ref S) >>= _) _ _ t
   apply wpAny_bind;apply wpAny_seqItems hs rfl
   show wpAny (model P w) A.in1 (tryCatch (pyNext (.ref I)) _ >>= _) _ _ t
   apply wpAny_bind;apply wpAny_tryCatch
   refine W.done t _ _ (ek▸st) fun h' tk kp=>?_
   have hs2:=kp S _ Sw hs
   show wpAny (model P w) A.in1 (updateSeq S (fun _=> #[]) >>= _) _ _ _
   apply wpAny_bind
   refine wpAny_updateSeq hs2 rfl ?_
   apply wpAny_bind;apply wpAny_letGo;apply wpAny_pure
   exact hR vb _ tk (by rw [← ek];exact pb) fun b o q1 q2 q=>(Heap.get?_update_other _ _ (Ne.symm q2)).trans (kp b o q1 q)
 | succ m ih=>
   intro k t vb c e1 e2 gr st pb hs hR
   refine codeAny_builtin F.entry_min_loop ?_
   rw [Around.under_plainId F.plain_min_loop]
   show wpAny (model P w) A.in1 (seqItems? (.ref S) >>= _) _ _ t
   apply wpAny_bind;apply wpAny_seqItems hs rfl
   show wpAny (model P w) A.in1 (tryCatch (pyNext (.ref I)) _ >>= _) _ _ t
   apply wpAny_bind;apply wpAny_tryCatch
   refine W.item (k+1) t _ _ (by omega) st fun v h' tk pv st2 kp=>?_
   have hs2:=kp S _ Sw hs
   have A9:dU h0 h':=fun b o q=>kp b o (yu b o q).1 (gr b o q)
   show wpAny (model P w) A.in1 (tryCatch (holding [v,v] (richCompare .Lt v vb >>= _)) _ >>= _) _ _ _
   apply wpAny_bind;apply wpAny_tryCatch;apply wpAny_holding;apply wpAny_bind
   refine hc (k+1) (argBest bt k) v vb _ _ _ A9 pv pb ?_
   apply wpAny_bind;apply wpAny_holding;apply wpAny_truthy_bool
   apply wpAny_bind;apply wpAny_letGo;apply wpAny_pure
   cases d:bt (k+1) (argBest bt k) with
   | true=>
     rw [if_pos rfl]
     apply wpAny_bind
     refine wpAny_updateSeq hs2 rfl ?_
     apply wpAny_bind;apply wpAny_letGo
     rw [nm]
     refine wpAny_pure ⟨plainId_quiet F.plain_min_loop _,ih (k+1) _ v _ (by omega) (by omega) (fun b o q=>(Heap.get?_update_other _ _ (Ne.symm (yu b o q).2)).trans (A9 b o q)) (W.frame _ _ _ st2 fun b q1 o q=>(Heap.get?_update_other _ _ (fun z:S=b=>hS (z▸q1))).trans q) (by simp only [argBest,d,if_true];exact pv) (Heap.get?_update_self _ hs2 rfl) fun v2 h2 Ba p2 zk=>?_⟩
     exact hR v2 h2 Ba p2 fun b o q1 q2 q=>zk b o q1 q2 ((Heap.get?_update_other _ _ (Ne.symm q2)).trans (kp b o q1 q))
   | false=>
     rw [if_neg Zg]
     apply wpAny_bind;apply wpAny_letGo
     rw [nm]
     refine wpAny_pure ⟨plainId_quiet F.plain_min_loop _,ih (k+1) _ vb c (by omega) (by omega) A9 st2 (by simp only [argBest,d,Zm,if_false];exact pb) hs2 fun v2 h2 Ba p2 zk=>?_⟩
     exact hR v2 h2 Ba p2 fun b o q1 q2 q=>zk b o q1 q2 (kp b o q1 q)
theorem Cz {h0:Heap} {I S:Addr} {fp wr:List Addr} {n:Nat} {Pr:Nat→Value→Prop} {St:Nat→Heap→Prop} {bt:Nat→Nat→Bool} {R:Result→Shared→Prop} {kw:List (Str ×Value)} {t:Shared} {c:Nat} (W:Walks P w A.in1 I fp wr n Pr St)
 (hc:∀ (i j:Nat) (vi vj:Value) (t:Shared) (Q:Value→Shared→Prop) (E:Value→Shared→Prop),dU h0 t.heap→Pr i vi→Pr j vj→Q (.bool (bt i j)) t→wpAny (model P w) A.in1 (richCompare .Lt vi vj) Q E t)
 (hS:S∉fp) (yu:∀ b o,h0.get? b=some o→b∉wr∧b≠S) (hn:0 < n) (gr:dU h0 t.heap) (st:St 0 t.heap) (hs:t.heap.get? S=some { cls:= .type "list",dict:=none,data:= .seq #[] c,slots:= #[] })
 (hR:∀ v h' tk,Pr (argBest bt (n - 1)) v→(∀ b o,b∉wr→b≠S→t.heap.get? b=some o→h'.get? b=some o)→R (.ok (.ret v)) { t with heap:=h',toks:=tk }) :
 codeAny (model P w) A (.builtin "min.loop" ⟨[.ref I,.none,.ref S],kw⟩) R t:=by
 have Sw:S∉wr:=fun q=>hS (W.sub _ q)
 have nm:(toString "min" ++ toString ".loop" :String)= "min.loop" :=by decide
 refine codeAny_builtin F.entry_min_loop ?_
 rw [Around.under_plainId F.plain_min_loop]
 show wpAny (model P w) A.in1 (seqItems? (.ref S) >>= _) _ _ t
 apply wpAny_bind;apply wpAny_seqItems hs rfl
 show wpAny (model P w) A.in1 (tryCatch (pyNext (.ref I)) _ >>= _) _ _ t
 apply wpAny_bind;apply wpAny_tryCatch
 refine W.item 0 t _ _ hn st fun v h' tk pv st2 kp=>?_
 have hs2:=kp S _ Sw hs
 have A9:dU h0 h':=fun b o q=>kp b o (yu b o q).1 (gr b o q)
 show wpAny (model P w) A.in1 (updateSeq S (fun _=> #[v,v]) >>= _) _ _ _
 apply wpAny_bind
 refine wpAny_updateSeq hs2 rfl ?_
 rw [nm]
 refine wpAny_pure ⟨plainId_quiet F.plain_min_loop _,JN W hc hS yu _ 0 _ v _ rfl hn (fun b o q=>(Heap.get?_update_other _ _ (Ne.symm (yu b o q).2)).trans (A9 b o q)) (W.frame _ _ _ st2 fun b q1 o q=>(Heap.get?_update_other _ _ (fun z:S=b=>hS (z▸q1))).trans q) pv (Heap.get?_update_self _ hs2 rfl) fun v2 h2 Ba p2 zk=>?_⟩
 exact hR v2 h2 Ba p2 fun b o q1 q2 q=>zk b o q1 q2 ((Heap.get?_update_other _ _ (Ne.symm q2)).trans (kp b o q1 q))
theorem Hl (a v:Value):argsOk "min" ⟨[a],[(Str.ofString "default",v)]⟩:=by unfold argsOk;kernel_rfl
theorem yH {l:Addr} {vs:List Value} {dv:Value} {bt:Nat→Nat→Bool} {Q:Value→Shared→Prop} (pl:s.heap.IsList l vs.toArray) (hh:A.handled=none)
 (hc:∀ (i j:Nat) (vi vj:Value) (t:Shared) (Q:Value→Shared→Prop) (E:Value→Shared→Prop),dU s.heap t.heap→vs[i]?=some vi→vs[j]?=some vj→Q (.bool (bt i j)) t→wpAny (model P w) A.in1 (richCompare .Lt vi vj) Q E t)
 (h0:vs= []→∀ h' tk,dU s.heap h'→Q dv { s with heap:=h',toks:=tk })
 (h:0 < vs.length→∀ v h' tk,vs[argBest bt (vs.length - 1)]?=some v→dU s.heap h'→Q v { s with heap:=h',toks:=tk }):wpAny (model P w) A (call (.builtin "min") [.ref l] [(Str.ofString "default",dv)]) Q E s:=by
 have nm:(toString "min" ++ toString ".loop" :String)= "min.loop" :=by decide
 have ll:l < s.heap.objs.size:=by obtain ⟨o,e,_⟩:=pl;exact Heap.lt_size e
 refine kmb_tree PySem.F.kind_min PySem.F.plain_min PySem.F.entry_min (Hl _ _) ?_
 show wpAny (model P w) A.in1 (Builtin.Builtins.bindParams "min" ["key","default"] 0 ⟨[],[(Str.ofString "default",dv)]⟩ >>= _) _ _ s
 refine wpAny_bind (wpAny_of_eq (show Builtin.Builtins.bindParams "min" ["key","default"] 0 ⟨[],[(Str.ofString "default",dv)]⟩=pure [none,some dv] from rfl) ?_)
 show wpAny (model P w) A.in1 (pyIter (.ref l) >>= _) _ _ s
 refine wpAny_bind (wpAny_pyIter_list pl ?_)
 have yz:(s.heap.push { cls:= .type "list_iterator",data:= .fields #[.ref l,.int 0 0] }).objs.size=s.heap.objs.size+1:=Heap.size_push ..
 apply wpAny_bind
 refine wpAny_newObj_type ?_
 rw [nm]
 have TR:((s.heap.push { cls:= .type "list_iterator",data:= .fields #[.ref l,.int 0 0] }).push { cls:= .type "list",data:= .seq #[] }).IsListIter s.heap.objs.size l 0∧((s.heap.push { cls:= .type "list_iterator",data:= .fields #[.ref l,.int 0 0] }).push { cls:= .type "list",data:= .seq #[] }).IsList l vs.toArray:=by
  refine ⟨⟨_,Heap.get?_push_of_some _ (Heap.get?_push_size _ rfl),rfl,rfl⟩,?_⟩
  obtain ⟨o,e,c,d⟩:=pl
  exact ⟨o,Heap.get?_push_of_some _ (Heap.get?_push_of_some _ e),c,d⟩
 have Vr:s.heap.objs.size+1∉[s.heap.objs.size,l]:=fun q=>by
  rcases Y6.mp q with q | q
  ·exact absurd q (aa6 _)
  ·have q:=Y8.mp q
   rw [← q] at ll
   exact absurd ll (aao.mpr (ZP _))
 by_cases hv:vs= []
 ·subst hv
  refine wpAny_pure ⟨plainId_quiet F.plain_min_loop _,codeAny_builtin F.entry_min_loop ?_⟩
  rw [Around.under_plainId F.plain_min_loop]
  show wpAny (model P w) A.in1 (seqItems? (.ref _) >>= _) _ _ _
  apply wpAny_bind;apply wpAny_seqItems (Heap.get?_push_size _ rfl) rfl
  show wpAny (model P w) A.in1 (tryCatch (pyNext (.ref s.heap.objs.size)) _ >>= _) _ _ _
  apply wpAny_bind;apply wpAny_tryCatch
  refine (Walks.list (A:=A.in1) hh s.heap.objs.size l (Zr ll) #[]).done _ _ _ TR fun h' tk kp=>?_
  show wpAny (model P w) A.in1 (rule _ >>= _) _ _ _
  refine wpAny_bind (wpAny_rule ?_)
  refine wpAny_pure ?_
  refine h0 rfl h' tk fun b o q=>?_
  have lb:=Heap.lt_size q
  exact kp b o (fun z=>by rw [Y8.mp z] at lb;exact absurd lb (ZJ _)) (Heap.get?_push_of_some _ (Heap.get?_push_of_some _ q))
 ·have hn:0 < vs.length:=aat.mpr hv
  refine wpAny_pure ⟨plainId_quiet F.plain_min_loop _,Cz (h0:=s.heap) (Walks.list (A:=A.in1) hh s.heap.objs.size l (Zr ll) vs.toArray) (bt:=bt) (fun i j vi vj t Q E g1 p1 p2 q=>hc i j vi vj t Q E g1 (by simpa using p1) (by simpa using p2) q) (by rw [yz];exact Vr) (fun b o q=>?_) (by simpa using hn) (fun b o q=>Heap.get?_push_of_some _ (Heap.get?_push_of_some _ q)) TR (Heap.get?_push_size _ rfl) fun v h' tk p kp=>?_⟩
  ·have lb:=Heap.lt_size q
   rw [yz]
   refine ⟨fun z=>?_,fun z=>?_⟩
   ·have z:=Y8.mp z
    rw [z] at lb
    exact absurd lb (ZJ _)
   ·rw [z] at lb
    exact absurd lb (aao.mpr (ZP _))
  ·refine h hn v h' tk (by simpa using p) fun b o q=>?_
   have lb:=Heap.lt_size q
   refine kp b o (fun z=>?_) (fun z=>?_) (Heap.get?_push_of_some _ (Heap.get?_push_of_some _ q))
   ·have z:=Y8.mp z
    rw [z] at lb
    exact absurd lb (ZJ _)
   ·rw [z,yz] at lb
    exact absurd lb (aao.mpr (ZP _))
end
end L3
namespace L3
open PySem PySem.Spec PyProof.Rows L2
theorem E3 {P:Program} {w:World} {A:Around} {E:Value→Shared→Prop} {s:Shared} {n:Nat} {u v:Value} {ps qs:List Pl} {Q:Value→Shared→Prop} (a:uv n s.heap u ps) (b:uv n s.heap v qs) (hu:A.units+16 < cLine) (h:Q (.bool (dc ps qs)) s):wpAny (model P w) A (richCompare .Lt u v) Q E s:=by
 obtain ⟨_,l,⟨cls,dd,data,sl⟩,its,m,rfl,ho,hc,hd,hp⟩:=a
 obtain ⟨_,l2,⟨LG,dd2,data2,sl2⟩,its2,m2,rfl,ho2,hc2,hd2,hp2⟩:=b
 simp only at hc hd hc2 hd2
 subst hc hd hc2 hd2
 exact richCompare_meets_room (op:= .Lt) ⟨_,ho,rfl⟩ ⟨_,ho2,rfl⟩ PySem.F.slot_tuple_lt PySem.F.entry_tuple_lt (PySem.F.args_tuple_lt_2 _ _) (zB l l2 its.toArray its2.toArray m m2 dd dd2 sl sl2 ps qs)
  ⟨by show A.units+1+8 < cLine;omega,by simpa using hp,by simpa using hp2,ho,ho2,show Value.bool (dc ps qs)≠Value.notImplemented∧Q (.bool (dc ps qs)) s from ⟨(fun x=>nomatch x),h⟩⟩ (by omega)
section
variable {X:Cx} {pos:Pos}
theorem iW.get {n:Nat} {h:Heap}:∀ {us:List Value} {ps:List (List Pl)} {i:Nat} {u:Value},iW n h us ps→us[i]?=some u→∃ p,ps[i]?=some p∧uv n h u p
 | _,_,i,u,.nil,e=>by simp at e
 | _,_,i,u,.cons a r,e=>by
   cases i with
   | zero=>simp at e;subst e;exact ⟨_,rfl,a⟩
   | succ i=>exact iW.get (i:=i) r (by simpa using e)
theorem Ho {ts:List (List Pl)} {xs:List V} {us:List Value} {K:PySem.W.Frag} {H:Hp} {i:Nat} {v:Value} (dx:aM K H (ts.map tD) xs) (rv:Vals xs us) (e:us[i]?=some v):i < ts.length∧∃ x,RelV x v∧Dat K H (tD (ts.getD i [])) x:=by
 have hi:i < us.length:=(Ze.mp e).1
 have hl:us.length=ts.length:=by rw [Vals.len rv,← dx.length,Y4]
 have lt:i < xs.length:=by rw [← dx.length,Y4];omega
 obtain ⟨u,eu,ru⟩:=Vals.get rv (Y7 lt)
 rw [e] at eu
 cases eu
 obtain ⟨d,ed,dd⟩:=dx.back (Y7 lt)
 rw [ZI,Y7 (by omega:i < ts.length)] at ed
 refine ⟨by omega,_,ru,?_⟩
 rw [Zd,Y7 (by omega:i < ts.length)]
 cases ed
 exact dd
theorem E4 {ts:List (List Pl)} {b:Nat} (hb:b < ts.length) {n:Nat} (hn:n=ts.length) (e:b=argBest (fun i j=>dc (ts.getD i []) (ts.getD j [])) (n - 1)) :
 ts.getD b []∈ts∧∀ z∈ts,dc z (ts.getD b [])=false:=by
 refine ⟨?_,fun z hz=>?_⟩
 ·rw [Zd,Y7 hb]
  exact Z4 hb
 ·obtain ⟨k,hk⟩:=Z5.mp hz
  have hk1:k < ts.length:=(Ze.mp hk).1
  have:=lS (bt:=fun i j=>dc (ts.getD i []) (ts.getD j [])) (fun i=>oh _) (fun i j k a b=>lR _ _ _ a b) (n - 1) k (by omega)
  rw [← e] at this
  have ek:ts.getD k []=z:=by rw [Zd,hk];rfl
  rw [ek] at this
  exact this
structure Hq (X:Cx) (r:D→Mp→DK→Prop):Prop where
 run:∀ (pins:List (Addr ×Obj)) (s:Shared) (σ:St) (H:Hp) (M:Mp) (x:V) (d:D) (u:Value) (Q:DK),Inv X pins σ H s→cP X.K H M→RelV x u→Dat X.K H d x→r d M Q→wpAny (model X.prog X.w) X.A (call (.builtin "min") [u] [(Str.ofString "default",.none)]) (EP X pins σ (Post X.K M H Q)) X.xe s
def Mx (n:Nat):D→Mp→DK→Prop:=fun d M Q=> ∃ (l:Addr) (ts:List (List Pl)),d= .ref l∧M l=some (.lst (ts.map tD))∧(∀ t∈ts,t.length=n)∧(ts= []→Q .bJ M)∧∀ m∈ts,(∀ z∈ts,dc z m=false)→Q (tD m) M
theorem DY {n:Nat} (hu:X.A.units+64 < cLine) (hc:X.calm=true):Hq X (Mx n):=by
 constructor
 intro pins s σ H M x d u Q I rm rx dx ⟨l,ts,e,hM,hlen,q0,q⟩
 subst e
 obtain rfl:=aK.mp dx
 obtain rfl:u=Value.ref l:=rx
 obtain ⟨zs,hH,hz⟩:=rm.lst hM
 obtain ⟨its,rv,pl,hsz⟩:=I.list (iD.of (K:=X.K) hH)
 have hl:its.length=ts.length:=by rw [Vals.len rv,← hz.length,Y4]
 have hp:=rV (n:=n) I.hok hlen hz rv
 refine yH pl.isList (I.ok.hd hc) (bt:=fun i j=>dc (ts.getD i []) (ts.getD j [])) (fun i j vi vj t Q E g e1 e2 q=>?_) (fun e0 h' tk g=>?_) fun hn v h' tk e g=>?_
 ·obtain ⟨p1,f1,a1⟩:=hp.get e1
  obtain ⟨p2,f2,a2⟩:=hp.get e2
  rw [Zd,Zd,f1,f2] at q
  exact E3 (a1.grow g) (a2.grow g) (by show X.A.units+1+16 < cLine;omega) q
 ·refine ⟨.bJ,H,I.kept g,rfl,aH rm (cE.mpr rfl) (q0 ?_)⟩
  rw [e0] at hl
  exact abw.mp hl.symm
 ·obtain ⟨hb,x,rx,dd⟩:=Ho hz rv e
  obtain ⟨m1,m2⟩:=E4 hb hl rfl
  exact ⟨x,H,I.kept g,rx,aH rm dd (q _ m1 m2)⟩
def My:D→Mp→DK→Prop:=fun d M Q=> ∃ (l:Addr) (ps:List Pl),d= .ref l∧M l=some (.lst (ps.map Pl.d))∧(ps= []→Q .bJ M)∧∀ m∈ps,(∀ z∈ps,¬ aL z m)→Q m.d M
theorem JO (hu:X.A.units+64 < cLine) (hc:X.calm=true):Hq X My:=by
 constructor
 intro pins s σ H M x d u Q I rm rx dx ⟨l,ps,e,hM,q0,q⟩
 subst e
 obtain rfl:=aK.mp dx
 obtain rfl:u=Value.ref l:=rx
 obtain ⟨zs,hH,hz⟩:=rm.lst hM
 obtain ⟨its,rv,pl,hsz⟩:=I.list (iD.of (K:=X.K) hH)
 have hl:its.length=ps.length:=by rw [Vals.len rv,← hz.length,Y4]
 have hp:=gR I.hok hz rv
 refine yH pl.isList (I.ok.hd hc) (bt:=bestOf (fun p q=>decide (aL p q)) ps) (fun i j vi vj t Q E g e1 e2 q=>?_) (fun e0 h' tk g=>?_) fun hn v h' tk e g=>?_
 ·obtain ⟨p1,f1,a1⟩:=hp.get e1
  obtain ⟨p2,f2,a2⟩:=hp.get e2
  obtain ⟨l1,i1,rfl,t1,n1⟩:=(a1.grow g).tup
  obtain ⟨l2,i2,rfl,t2,n2⟩:=(a2.grow g).tup
  have eb:bestOf (fun p q=>decide (aL p q)) ps i j=decide (aL p1 p2):=by unfold bestOf;rw [Zd,Zd,f1,f2];rfl
  rw [eb,← dY] at q
  exact (HT.gu t1 t2 n1 n2 (by show X.A.units+1 < cLine;omega) q:wpAny (model X.prog X.w) X.A.in1 (compareOp .Lt (.ref l1) (.ref l2)) Q E t)
 ·refine ⟨.bJ,H,I.kept g,rfl,aH rm (cE.mpr rfl) (q0 ?_)⟩
  rw [e0] at hl
  exact abw.mp hl.symm
 ·obtain ⟨hb,x,rx,dd⟩:=qX hz rv e
  obtain ⟨m1,m2⟩:=qY (lt:=fun p q=>decide (aL p q)) hb (fun p=>decide_eq_false (aY p)) (fun p q r a b=>decide_eq_true (aZ (of_decide_eq_true a) (of_decide_eq_true b))) hl rfl
  exact ⟨x,H,I.kept g,rx,aH rm dd (q _ m1 fun z hz=>of_decide_eq_false (m2 z hz))⟩
def PB (r:D→Mp→DK→Prop) (te:dI):dI:=fun ρ M Q=>te ρ M fun d M1=>r d M1 Q
theorem CA {r:D→Mp→DK→Prop} {e:Expr} {te:dI} {p p2 p3:Pos} {k:Nat} (hc:Hq X r) (hg:Gl X "min") (hm:X.mg "min" =none) (he:cK X e te)
 (s1:starEach [e] X.env= [(false,eval e X.env)]:=by rfl):cK X (.Call (.Name "min" p) [e] [⟨some (Str.ofString "default"),.Constant .none k p2,p3⟩] pos) (PB r te):=by
 constructor
 intro pins s σ H ρ M Q I r' h
 refine wpAny_Call_Name_kw (lC I hg hm iP ?_ (by decide) (by decide))
 refine PyProof.Rows.callWith_kw ?_ (by rw [s1];rfl) (by rw [s1];rfl) (by rfl) (by rfl)
 rw [s1]
 show wpAny _ _ (spliced ((false,eval e X.env) :: backTo pos [])) _ _ s
 refine Calls.spliced_cons (dW (he.run pins s σ H ρ M _ I r' h) fun v s1 ⟨x,H1,I1,rv,d,M1,f1,dd,pY,q⟩=>Calls.spliced_nil ?_)
 refine PyProof.Rows.kws_cons (Constant_none (PyProof.Rows.kws_nil ?_))
 show wpAny _ _ (call (.builtin "min") [v] [(Str.ofString "default",.none)]) _ _ s1
 exact dW (hc.run pins s1 σ H1 M1 x d v Q I1 pY rv dd q) fun _ _ ⟨z,H3,I3,r3,p⟩=>⟨z,H3,I3,r3,p.back f1⟩
end
end L3
namespace L3
open PySem PySem.Spec PyProof.Rows L2
section
variable {P:Program} {w:World} {A:Around} {E:Value→Shared→Prop} {s:Shared}
theorem Bt {l:Addr} {vs:List Value} {Q:List Value→Shared→Prop} (hl:IsTup s.heap l vs.toArray)
 (h:Q vs { s with heap:=(s.heap.push (seqObj "list" #[] 0)).update s.heap.objs.size (Obj.mapSeq (· ++ vs.toArray)) }) (hsz:vs.length≤sizeLine) :
 wpAny (model P w) A (collect (.ref l)) Q E s:=by
 obtain ⟨o,ho,hc,n,hd⟩:=id hl
 have TU:(s.heap.push (seqObj "list" #[] 0)).get? s.heap.objs.size=some (seqObj "list" #[] 0):=Heap.get?_push_size _ rfl
 have e: #[] ++ vs.toArray=vs.toArray:=by simp
 unfold collect
 apply wpAny_bind
 apply wpAny_runValue
 apply codeAny_builtin entry_proto_collect'
 apply wpAny_bind
 refine wpAny_newList (hsz:=Z3 _) ?_
 apply wpAny_pure
 refine ⟨Code.quiet_builtin _ (by decide +kernel),codeAny_builtin entry_list_iadd' ?_⟩
 have ho':(s.heap.push (seqObj "list" #[] 0)).get? l=some o:=Heap.get?_push_of_some _ ho
 rw [Around.under_plainId (by decide +kernel)]
 refine wpAny_extend_seq (R:=fun r s'=>match r with
  | .ok (.ret v)=>wpAny (model P w) A (match v with
    | .ref a=>do
      let o ← load a
      match o.data with
      | .seq xs _=>pure xs.toList
      | _=>unsupported "internal:collect"
    | _=>unsupported "internal:collect") Q E s'
  | .ok _=>False
  | .error e=>E e s') (s:={ s with heap:=s.heap.push (seqObj "list" #[] 0) }) (T:= "tuple") s.heap.objs.size l (.ref s.heap.objs.size) 0 (.inr rfl) TU ho' hc hd ?_ (by simpa using hsz)
 apply wpAny_bind
 refine wpAny_load (get?_update_seq TU _) ?_
 show wpAny _ _ (pure ((#[]:Array Value) ++ vs.toArray).toList) Q E _
 rw [e]
 exact wpAny_pure h
variable {κ:KeyKind} {kd:SortKind}
theorem CB {l:Addr} {vs:List Value} {Q:Value→Shared→Prop} (hl:IsTup s.heap l vs.toArray) (hk:KeysOf κ (pairsOf vs))
 (hd:∀ (t:Shared) (E:Value→Shared→Prop) (Q:SortKind→Shared→Prop),dU s.heap t.heap→2≤vs.length→Q kd t→wpAny (model P w) A.in1.in1 (keyKind' vs.toArray) Q E t)
 (hA:∀ t:Shared,dU s.heap t.heap→Ask P w A.in1.in1 t κ kd) (h64:vs.length < 64)
 (h:∀ y:Array Keyed,y.Perm (pairsOf vs)→SortedToK κ y (pairsOf vs).size→Q (.ref (s.heap.objs.size+1)) { s with heap:=sortedAll s.heap vs (y.map (·.2)) }) :
 wpAny (model P w) A (call (.builtin "sorted") [.ref l]) Q E s:=by
 refine Calls.call_function_entry kind_sorted plain_sorted entry_sorted (args_sorted1 _) ?_
 unfold Builtin.«sorted»
 refine wpAny_bind (m:=checkCount "sorted" 1 1 _) (wpAny_pure ?_)
 have lz:vs.length≤sizeLine:=by rw [sizeLine_eq];omega
 refine wpAny_bind (Bt hl (hsz:=lz) ?_)
 refine wpAny_bind (wpAny_newList (hsz:=lz) ?_)
 show wpAny (model P w) A.in1 _ _ _ { s with heap:=((s.heap.push (seqObj "list" #[] 0)).update s.heap.objs.size (Obj.mapSeq (· ++ vs.toArray))).push (seqObj "list" vs.toArray 0) }
 generalize hg:(s.heap.push (seqObj "list" #[] 0)).update s.heap.objs.size (Obj.mapSeq (· ++ vs.toArray))=g
 have gz:g.objs.size=s.heap.objs.size+1:=by rw [← hg,Heap.size_update,size_push']
 have gk:dU s.heap g:=fun b o q=>by
  have lb:=Heap.lt_size q
  rw [← hg,Heap.get?_update_ne _ _ _ _ (Zr lb),Heap.get?_push_ne _ _ _ (Zr lb)]
  exact q
 have fin:∀ y:Array Keyed,y.Perm (pairsOf vs)→SortedToK κ y (pairsOf vs).size→Q (.ref (s.heap.objs.size+1)) { s with heap:=sortedHeap (g.push (seqObj "list" vs.toArray 0)) (s.heap.objs.size+1) vs (y.map (·.2)) }:=fun y h1 h2=>by rw [← hg];exact h y h1 h2
 rw [gz]
 have at':(g.push (seqObj "list" vs.toArray 0)).get? (s.heap.objs.size+1)=some (seqObj "list" vs.toArray 0):=by rw [← gz];exact Heap.get?_push_size _ rfl
 have Jt:∀ b o,s.heap.get? b=some o→b≠s.heap.objs.size+1∧(g.push (seqObj "list" vs.toArray 0)).get? b=some o:=fun b o q=>by
  have lb:=Heap.lt_size q
  have lc:=Zr (aab lb)
  refine ⟨lc,?_⟩
  rw [Heap.get?_push_ne _ _ _ (by rw [gz];exact lc)]
  exact gk b o q
 apply wpAny_bind;apply wpAny_holding
 refine wpAny_call_entry slot_list_sort ⟨_,at',rfl⟩ entry_list_sort (DJ (κ:=κ) (kd:=kd) at' hk (fun t E Q hg=>hd t E Q fun b o q=>hg b o (Jt b o q).1 (Jt b o q).2) (fun t hg=>hA t fun b o q=>hg b o (Jt b o q).1 (Jt b o q).2) h64 fun y h1 h2=>⟨_,rfl,?_⟩) (args_list_sort _)
 exact wpAny_pure ⟨_,rfl,fin y h1 h2⟩
end
theorem vf {P:Program} {w:World} {A:Around} {E:Value→Shared→Prop} {s:Shared} {l:Addr} {vs:List Value} {ps:List Pl} {Q:Value→Shared→Prop} (hl:IsTup s.heap l vs.toArray) (hv:dF s.heap vs ps) (h64:vs.length < 64)
 (h:∀ (out:List Value) (qs:List Pl),(∀ v∈out,v∈vs)→qs=out.map (qS s.heap)→qs.Perm ps→qs.Pairwise (fun p q=> ¬ aL q p)→Q (.ref (s.heap.objs.size+1)) { s with heap:=sortedAll s.heap vs out.toArray }) :
 wpAny (model P w) A (call (.builtin "sorted") [.ref l]) Q E s:=by
 have hk:KeysOf (zh s.heap) (pairsOf vs):=fun p hp=>by
  rw [pairsOf_toList] at hp
  obtain ⟨q,a⟩:=hv.mem (cT hp).2
  exact ⟨q,zj a⟩
 refine CB (κ:=zh s.heap) (kd:=tuples' true) hl hk (fun t E Q g h2 q=>DL (by omega) (fun v m=>?_) q) (fun t g=>GK g true) h64 fun y hp hs=>?_
 ·obtain ⟨p,a⟩:=hv.mem m
  exact ⟨p,a.grow g⟩
 ·have pl:y.toList.Perm (vs.zip vs):=by rw [← pairsOf_toList];exact Array.perm_iff_toList_perm.mp hp
  have same:∀ p∈y.toList,p.1=p.2∧p.1∈vs:=fun p m=>cT (pl.mem_iff.mp m)
  have eo:y.map (·.2)=(y.toList.map (·.2)).toArray:=by rw [← Array.toList_map,Array.toArray_toList]
  rw [eo]
  refine h (y.toList.map (·.2)) _ (fun v m=>?_) rfl ?_ ?_
  ·obtain ⟨p,m2,rfl⟩:=ZA.mp m
   rw [← (same p m2).1];exact (same p m2).2
  ·have q:=(pl.map (fun p=>p.2)).map (qS s.heap)
   have e:(vs.zip vs).map (fun p=>p.2)=vs:=abp (Zb _)
   rw [e,hv.keys] at q
   exact q
  ·rw [aay]
   intro i j hi hj hij
   have li:i < y.size:=by simpa using hi
   have lj:j < y.size:=by simpa using hj
   have q:=hs i j (aaK hij) (by rw [← hp.size_eq];exact lj)
   have key:∀ k (hk:k < y.size),KK (zh s.heap) y k=qS s.heap y[k].2:=fun k hk=>by
    unfold KK
    rw [getElem?_pos y k hk]
    show Option.getD (α:=Pl) ((zh s.heap).keyOf y[k].1) ⟨0,0⟩=_
    rw [(same y[k] (by simp)).1]
    rfl
   have q:(zh s.heap).blt (KK (zh s.heap) y j) (KK (zh s.heap) y i)=false:=q
   rw [key i li,key j lj] at q
   have q:decide (aL (qS s.heap y[j].2) (qS s.heap y[i].2))=false:=q
   simpa using of_decide_eq_false q
section
variable {X:Cx}
def E5:List D→Mp→DK→Prop:=fun ds M Q=> ∃ ps:List Pl,ds= [.tup (ps.map Pl.d)]∧ps.length < 64∧∀ (p:Addr) (qs:List Pl),M p=none→qs.Perm ps→qs.Pairwise (fun p q=> ¬ aL q p)→Q (.ref p) (aE M p (.lst (qs.map Pl.d)))
theorem CC:Call3 X (.builtin "sorted") E5:=by
 constructor
 intro pins s σ H M xs ds us Q I rm rs dx ⟨ps,e,h64,q⟩
 subst e
 obtain ⟨v,rfl,hv⟩:=nU dx
 obtain ⟨l,zs,rfl,hH,hz⟩:=bH.mp hv
 obtain ⟨u,rfl,r1⟩:=vals1 rs
 obtain rfl:u=Value.ref l:=r1
 obtain ⟨its,rv,tp,hsz⟩:=eY I.hok hH
 have hl:its.length=ps.length:=by rw [Vals.len rv,← hz.length,Y4]
 refine vf tp (gR I.hok hz rv) (by omega) fun out qs hm eq hp hs=>?_
 obtain ⟨ws,w1,w2⟩:=rR I.hok hz rv out hm
 rw [← eq] at w2
 obtain ⟨n,hn⟩:=sortedAll_at s.heap its out.toArray
 have fr:H (s.heap.objs.size+1)=none:=I.hok.fresh (ZP _)
 have zw:ws.length≤sizeLine:=by
  rw [← w2.length,Y4,hp.length_eq,sizeLine_eq];omega
 refine ⟨.ref (s.heap.objs.size+1),upd H (s.heap.objs.size+1) (.lst ws),I.laid (t':=s.toks) (fun b o e=>sortedAll_old e) (ZP _) ⟨zw,out,n,w1,hn⟩,rfl,.ref _,aE M _ (.lst (qs.map Pl.d)),Fr.new fr fun _ hb=>bg hb,aK.mpr rfl,rm.newL fr w2,q _ _ (rm.free fr) hp hs⟩
end
end L3
namespace L3
def Nx:List Pl→Pl→Pl→Prop
 | x :: y :: r,a,b=>(x=a∧y=b)∨Nx (y :: r) a b
 | _,_,_=>False
theorem CD (h:Pl) (r:List Pl) (a b:Pl):∀ X:List Pl,Nx (X ++ h :: r) a b↔Nx (X ++ [h]) a b∨Nx (h :: r) a b
 | []=>by
   show Nx (h :: r) a b↔Nx [h] a b∨Nx (h :: r) a b
   have:¬ Nx [h] a b:=fun z=>z
   exact ⟨.inr,fun z=>z.elim (fun y=>absurd y this) id⟩
 | [x]=>by
   show (x=a∧h=b)∨Nx (h :: r) a b↔((x=a∧h=b)∨Nx [h] a b)∨Nx (h :: r) a b
   have:¬ Nx [h] a b:=fun z=>z
   constructor
   ·rintro (z | z)
    ·exact .inl (.inl z)
    ·exact .inr z
   ·rintro ((z | z) | z)
    ·exact .inl z
    ·exact absurd z this
    ·exact .inr z
 | x :: y :: X=>by
   have ih:=CD h r a b (y :: X)
   show (x=a∧y=b)∨Nx (y :: X ++ h :: r) a b↔((x=a∧y=b)∨Nx (y :: X ++ [h]) a b)∨Nx (h :: r) a b
   rw [ih,or_assoc]
theorem pM:∀ (st:List Pl) (a b:Pl),zy st a b↔Nx st.reverse a b
 | [],a,b=>⟨fun ⟨i,h,_⟩=>by simp at h,fun z=>z.elim⟩
 | [y],a,b=>⟨fun ⟨i,h,_⟩=>by simp at h,fun z=>z.elim⟩
 | y :: x :: r,a,b=>by
   have ih:=pM (x :: r) a b
   have e:(y :: x :: r).reverse=r.reverse ++ x :: [y]:=by simp
   have e2:(x :: r).reverse=r.reverse ++ [x]:=by simp
   rw [e,CD,← e2,← ih]
   have:Nx [x,y] a b↔(x=a∧y=b):=⟨fun z=>z.elim id (fun y=>y.elim),.inl⟩
   rw [this]
   constructor
   ·rintro ⟨i,h1,h2⟩
    cases i with
    | zero=>exact .inr ⟨by simpa using h1,by simpa using h2⟩
    | succ i=>exact .inl ⟨i,by simpa using h1,by simpa using h2⟩
   ·rintro (⟨i,h1,h2⟩ | ⟨h1,h2⟩)
    ·exact ⟨i+1,by simpa using h1,by simpa using h2⟩
    ·exact ⟨0,by simp [h1],by simp [h2]⟩
theorem Bu (a b:Pl):∀ (x:Pl) (r:List Pl) (z:Pl),[a,b]∈List.zipWith (fun p q=>[p,q]) (x :: r) (r ++ [z])↔Nx (x :: r ++ [z]) a b
 | x,[],z=>by
   show [a,b]∈[[x,z]]↔(x=a∧z=b)∨Nx [z] a b
   have:¬ Nx [z] a b:=fun z=>z
   simp [this]
   exact ⟨fun ⟨h1,h2⟩=>⟨h1.symm,h2.symm⟩,fun ⟨h1,h2⟩=>⟨h1.symm,h2.symm⟩⟩
 | x,y :: r,z=>by
   have ih:=Bu a b y r z
   show [a,b]∈[x,y] :: List.zipWith (fun p q=>[p,q]) (y :: r) (r ++ [z])↔(x=a∧y=b)∨Nx (y :: r ++ [z]) a b
   rw [Y6,ih]
   simp
   constructor
   ·rintro (⟨h1,h2⟩ | h)
    ·exact .inl ⟨h1.symm,h2.symm⟩
    ·exact .inr h
   ·rintro (⟨h1,h2⟩ | h)
    ·exact .inl ⟨h1.symm,h2.symm⟩
    ·exact .inr h
theorem pO:∀ (as bs:List Pl),∀ t∈List.zipWith (fun p q=>[p,q]) as bs,∃ a b,t= [a,b]
 | [],_,t,h=>by simp at h
 | _ :: _,[],t,h=>by simp at h
 | a :: as,b :: bs,t,h=>by
   rcases Y6.mp h with h | h
   ·exact ⟨a,b,h⟩
   ·exact pO as bs t h
theorem Ch.ends {w:Way} {S st:List Pl} (C:Ch w S st) {lo hi:Pl} (hl:lo∈S) (hh:hi∈S) (h1:∀ q∈S,w.f lo≤w.f q) (h2:∀ q∈S,w.f q≤w.f hi):st.head?=some hi∧st.getLast?=some lo:=by
 obtain ⟨t,e1,e2⟩:=C.top hi hh
 obtain ⟨u,e3,e4⟩:=C.bot lo hl
 have mt:t∈S:=C.vd t (aaH e1)
 have mu:u∈S:=C.vd u (aal e3)
 have a1:=h2 t mt
 have a2:=h1 u mu
 rw [e1,e3,C.inj t mt hi hh (by omega),C.inj u mu lo hl (by omega)]
 exact ⟨rfl,rfl⟩
theorem iK {l:List Pl} {x:Pl} (h:l.getLast?=some x):l=l.dropLast ++ [x]:=by
 have hne:l≠[]:=fun z=>by rw [z] at h;simp at h
 rw [Z9 hne] at h
 have:=List.dropLast_concat_getLast hne
 rw [Option.some.inj h] at this
 exact this.symm
theorem Hr {T H:List Pl} {lo hi a b:Pl} (t1:T.head?=some lo) (t2:T.getLast?=some hi) (h1:H.head?=some hi) (h2:H.getLast?=some lo) (hne:lo≠hi) :
 [a,b]∈List.zipWith (fun p q=>[p,q]) (T.dropLast ++ H.dropLast) ((T.dropLast ++ H.dropLast).drop 1 ++ (T.dropLast ++ H.dropLast).take 1)↔Nx T a b∨Nx H a b:=by
 have eT:=iK t2
 have eH:=iK h2
 obtain ⟨X,hX⟩:∃ X,T.dropLast=lo :: X:=by
  cases e:T.dropLast with
  | nil=>
    rw [e] at eT
    rw [eT] at t1
    exact absurd (Option.some.inj t1).symm hne
  | cons x X=>
    rw [e] at eT
    rw [eT] at t1
    exact ⟨X,by rw [Option.some.inj t1]⟩
 obtain ⟨Y,hY⟩:∃ Y,H=hi :: Y:=by
  cases e:H with
  | nil=>rw [e] at h1;cases h1
  | cons x X=>rw [e] at h1;exact ⟨X,by rw [Option.some.inj h1]⟩
 rw [hX]
 show [a,b]∈List.zipWith (fun p q=>[p,q]) (lo :: (X ++ H.dropLast)) ((X ++ H.dropLast) ++ [lo])↔_
 rw [Bu]
 have e1:lo :: (X ++ H.dropLast) ++ [lo]=(lo :: X) ++ (H.dropLast ++ [lo]):=by simp
 rw [e1,← eH]
 conv=>lhs;rw [hY,CD,← hY]
 rw [← hX,← eT]
def So (a b:Pl) (ps:List Pl):Prop:= ∀ p∈ps,0≤tw a b p∧(tw a b p=0→¬ (aL (lo a b) p∧aL p (hi a b)))
theorem gS:∀ {qs:List Pl},qs.Pairwise (fun p q=>aL p q)→∀ {x y:Pl},qs.head?=some x→qs.getLast?=some y→∀ q∈qs,(q=x∨aL x q)∧(q=y∨aL q y)
 | [],_,_,_,h,_,_,_=>by cases h
 | [z],_,x,y,h1,h2,q,hq=>by
   have e1:z=x:=by simpa using h1
   have e2:z=y:=by simpa using h2
   rw [Y8.mp hq]
   exact ⟨.inl e1,.inl e2⟩
 | z :: u :: r,hs,x,y,h1,h2,q,hq=>by
   have e1:z=x:=by simpa using h1
   have h2':(u :: r).getLast?=some y:=by simpa using h2
   have ih:=gS (ZF.mp hs).2 (x:=u) rfl h2'
   have hz:=(ZF.mp hs).1
   rcases Y6.mp hq with e | hq
   ·subst e
    refine ⟨.inl e1,.inr ?_⟩
    have hy:y∈u :: r:=aal h2'
    exact hz y hy
   ·exact ⟨.inr (e1▸hz q hq),(ih q hq).2⟩
theorem vg {st:List Pl} {x y:Pl} (h1:st.head?=some x) (h2:st.getLast?=some y) (h:x≠y):2≤st.length:=by
 match st,h1,h2 with
 | [],h1,_=>cases h1
 | [z],h1,h2=>
   have e1:z=x:=by simpa using h1
   have e2:z=y:=by simpa using h2
   exact absurd (e1.symm.trans e2) h
 | _ :: _ :: _,_,_=>simp
theorem E6 {qs:List Pl} (hs:qs.Pairwise (fun p q=>aL p q)) (hok:∀ q∈qs,q.y.natAbs < 2 ^ 140) (h2:2≤qs.length) :
 2≤((qs.foldl aX []).reverse.dropLast ++ (qs.reverse.foldl aX []).reverse.dropLast).length∧∀ a b:Pl,[a,b]∈List.zipWith (fun p q=>[p,q]) ((qs.foldl aX []).reverse.dropLast ++ (qs.reverse.foldl aX []).reverse.dropLast) (((qs.foldl aX []).reverse.dropLast ++ (qs.reverse.foldl aX []).reverse.dropLast).drop 1 ++ ((qs.foldl aX []).reverse.dropLast ++ (qs.reverse.foldl aX []).reverse.dropLast).take 1)↔a∈qs∧b∈qs∧a≠b∧So a b qs:=by
 have hne:qs≠[]:=fun z=>by rw [z] at h2;simp at h2
 obtain ⟨x,hx⟩:∃ x,qs.head?=some x:=by
  cases e:qs with
  | nil=>exact absurd e hne
  | cons x r=>exact ⟨x,rfl⟩
 obtain ⟨y,hy⟩:∃ y,qs.getLast?=some y:=⟨_,Z9 hne⟩
 have mx:x∈qs:=aaH hx
 have my:y∈qs:=aal hy
 have hend:=gS hs hx hy
 have be:∀ p∈qs,∀ q∈qs,(aL p q↔az.f p < az.f q):=fun p hp q hq=>om (hok p hp) (hok q hq)
 have bw:∀ p∈qs,∀ q∈qs,(aL p q↔tU.f q < tU.f p):=fun p hp q hq=>by
  rw [be p hp q hq,iQ,iQ]
  omega
 have xy:x≠y:=by
  intro e
  cases e1:qs with
  | nil=>exact absurd e1 hne
  | cons u r=>
    cases r with
    | nil=>rw [e1] at h2;simp at h2
    | cons v r=>
      rw [e1] at hx hy hs
      have eu:u=x:=by simpa using hx
      have Sq:y∈v :: r:=aal (by simpa using hy)
      have:=(ZF.mp hs).1 y Sq
      rw [eu,e] at this
      exact aY _ this
 have C1:Ch az qs (qs.foldl aX []):=oj hne (hs.imp_of_mem fun hp hq h=>(be _ hp _ hq).mp h)
 have C2:Ch tU qs.reverse (qs.reverse.foldl aX []):=oj (by simpa using hne) (abI.mpr (hs.imp_of_mem fun hp hq h=>(bw _ hp _ hq).mp h))
 have key:∀ p∈qs,∀ q∈qs,(p=q∨aL p q)→az.f p≤az.f q∧tU.f q≤tU.f p:=fun p hp q hq k=>by
  rcases k with rfl | k
  ·exact ⟨aaq _,aaq _⟩
  ·have a1:=(be p hp q hq).mp k
   have a2:=(bw p hp q hq).mp k
   omega
 obtain ⟨p1,p2⟩:=C1.ends mx my (fun q hq=>(key x mx q hq ((hend q hq).1.imp Eq.symm id)).1) (fun q hq=>(key q hq y my (hend q hq).2).1)
 obtain ⟨r1,r2⟩:=C2.ends (lo:=y) (hi:=x) (by simpa using my) (by simpa using mx) (fun q hq=>by have hq:=ZR.mp hq;exact (key q hq y my (hend q hq).2).2) (fun q hq=>by have hq:=ZR.mp hq;exact (key x mx q hq ((hend q hq).1.imp Eq.symm id)).2)
 refine ⟨?_,fun a b=>?_⟩
 ·have l1:=vg p1 p2 (Ne.symm xy)
  have l2:=vg r1 r2 xy
  rw [Zh,ZT,ZT,Zu,Zu]
  omega
 rw [Hr (lo:=x) (hi:=y) (by rw [aaB];exact p2) (by rw [aar];exact p1) (by rw [aaB];exact r2) (by rw [aar];exact r1) xy,← pM,← pM,iY C1,iY C2]
 constructor
 ·rintro (⟨ha,hb,hab,he⟩ | ⟨ha,hb,hab,he⟩)
  ·have CF:=(be a ha b hb).mpr hab
   refine ⟨ha,hb,lJ CF,fun p hp=>⟨(he p hp).1,fun z=>?_⟩⟩
   unfold lo hi
   rw [if_neg (aG CF),if_pos CF,be a ha p hp,be p hp b hb]
   exact (he p hp).2 z
  ·have ha:=ZR.mp ha
   have hb:=ZR.mp hb
   have CF:=(bw b hb a ha).mpr hab
   refine ⟨ha,hb,(lJ CF).symm,fun p hp=>?_⟩
   have Mz:=he p (ZR.mpr hp)
   refine ⟨Mz.1,fun z=>?_⟩
   unfold lo hi
   rw [if_pos CF,if_neg (aG CF),bw b hb p hp,bw p hp a ha]
   exact fun k=>Mz.2 z ⟨k.2,k.1⟩
 ·rintro ⟨ha,hb,hab,he⟩
  rcases bV a b with k | k | k
  ·refine .inl ⟨ha,hb,(be a ha b hb).mp k,fun p hp=>⟨(he p hp).1,fun z=>?_⟩⟩
   have:=(he p hp).2 z
   unfold lo hi at this
   rw [if_neg (aG k),if_pos k,be a ha p hp,be p hp b hb] at this
   exact this
  ·exact absurd k hab
  ·refine .inr ⟨ZR.mpr ha,ZR.mpr hb,(bw b hb a ha).mp k,fun p hp=>?_⟩
   have hp:=ZR.mp hp
   refine ⟨(he p hp).1,fun z=>?_⟩
   have:=(he p hp).2 z
   unfold lo hi at this
   rw [if_pos k,if_neg (aG k),bw b hb p hp,bw p hp a ha] at this
   exact fun y=>this ⟨y.2,y.1⟩
end L3
namespace L3
theorem uw:∀ (l:List Pl),l≠[]→∃ m∈l,∀ z∈l,¬ aL z m
 | [],e=>absurd rfl e
 | [p],_=>⟨p,by simp,fun z hz=>by rw [Y8.mp hz];exact aY _⟩
 | p :: q :: l,_=>by
   obtain ⟨m,hm,k⟩:=uw (q :: l) (by simp)
   by_cases c:aL p m
   ·exact ⟨p,by simp,fun z hz=>by
     rcases Y6.mp hz with rfl | hz
     ·exact aY _
     ·exact fun y=>k z hz (aZ y c)⟩
   ·exact ⟨m,Y5 _ hm,fun z hz=>by
     rcases Y6.mp hz with rfl | hz
     ·exact c
     ·exact k z hz⟩
theorem zC:∀ (l:List Pl),l≠[]→∃ m∈l,∀ z∈l,¬ aL m z
 | [],e=>absurd rfl e
 | [p],_=>⟨p,by simp,fun z hz=>by rw [Y8.mp hz];exact aY _⟩
 | p :: q :: l,_=>by
   obtain ⟨m,hm,k⟩:=zC (q :: l) (by simp)
   by_cases c:aL m p
   ·exact ⟨p,by simp,fun z hz=>by
     rcases Y6.mp hz with rfl | hz
     ·exact aY _
     ·exact fun y=>k z hz (aZ c y)⟩
   ·exact ⟨m,Y5 _ hm,fun z hz=>by
     rcases Y6.mp hz with rfl | hz
     ·exact c
     ·exact k z hz⟩
theorem iZ {ps:List Pl} (h:ps.length < 2):Flat ps:=by
 match ps,h with
 | [],_=>exact fun p hp=>by cases hp
 | [x],_=>
   intro p hp q hq r hr
   rw [Y8.mp hp,Y8.mp hq,Y8.mp hr]
   exact gQ x x
theorem E7 {qs:List Pl} (hs:qs.Pairwise (fun a b=> ¬ aL b a)) (nd:qs.Nodup):qs.Pairwise (fun p q=>aL p q):=by
 refine (hs.and nd).imp fun {a b} h=>?_
 rcases bV a b with k | k | k
 ·exact k
 ·exact absurd k h.2
 ·exact absurd k h.1
end L3
namespace L3
open PySem L2
def Tr (t:List Pl):Prop:= ∃ a b c:Pl,t= [a,b,c]∧a.Ok 140∧b.Ok 140∧c.Ok 140
def yI:List Pl→Prop
 | [a,b,c]=>(¬ aL b a∧¬ aL c a)∧0 < tw a b c
 | _=>False
def gT:List Pl→List (List Pl)
 | [a,b,c]=>[[a,b],[b,c],[c,a]]
 | _=>[]
def bR (ts:List (List Pl)):List (List Pl):=ts.flatMap gT
def Fs {α:Type} (ts:List α) (P:α→Prop):Option α→Prop
 | none=> ∀ t∈ts,¬ P t
 | some t=> ∃ i:Nat,ts[i]?=some t∧P t∧∀ (j:Nat) (u:α),j < i→ts[j]?=some u→¬ P u
def oT:Option (List Pl)→D
 | none=> .bJ
 | some t=>tD t
def oP:Option Pl→D
 | none=> .bJ
 | some p=>p.d
theorem Fs.uniq {α:Type} {ts:List α} {P P':α→Prop} {r r':Option α} (h:Fs ts P r) (h':Fs ts P' r') (e:∀ t∈ts,(P t↔P' t)):r=r':=by
 cases r with
 | none=>
   cases r' with
   | none=>rfl
   | some t=>
     obtain ⟨i,h1,h2,_⟩:=h'
     have m:=Y9 h1
     exact absurd ((e t m).mpr h2) (h t m)
 | some t=>
   obtain ⟨i,h1,h2,h3⟩:=h
   have m:=Y9 h1
   cases r' with
   | none=>exact absurd ((e t m).mp h2) (h' t m)
   | some u=>
     obtain ⟨j,k1,k2,k3⟩:=h'
     have m2:=Y9 k1
     have:i=j:=by
      rcases abi i j with q | q | q
      ·exact absurd ((e t m).mp h2) (k3 i t q h1)
      ·exact q
      ·exact absurd ((e u m2).mpr k2) (h3 j u q k1)
     subst this
     rw [h1] at k1
     exact k1
def E8 (W:List Pl→Prop):Option (List Pl)→Prop
 | none=> ∀ w,¬ W w
 | some m=>W m∧∀ z,W z→dc z m=false
def wZ (W:Pl→Prop):Option Pl→Prop
 | none=> ∀ w,¬ W w
 | some m=>W m∧∀ z,W z→¬ aL z m
theorem wZ.uniq {W W':Pl→Prop} {r r':Option Pl} (h:wZ W r) (h':wZ W' r') (e:∀ w,W w↔W' w):r=r':=by
 cases r with
 | none=>
   cases r' with
   | none=>rfl
   | some m=>exact absurd ((e m).mpr h'.1) (h m)
 | some m=>
   cases r' with
   | none=>exact absurd ((e m).mp h.1) (h' m)
   | some n=>
     rcases bV m n with k | k | k
     ·exact absurd k (h'.2 m ((e m).mp h.1))
     ·rw [k]
     ·exact absurd k (h.2 n ((e n).mpr h'.1))
theorem E9 {ts:List (List Pl)} {i:Nat} {t:List Pl} (h:ts[i]?=some t):bR (ts.take (i+1))=bR (ts.take i) ++ gT t:=by
 unfold bR
 rw [Z7,h,aaA]
 simp
theorem Hs (t:List Pl):(gT t).length≤3:=by
 unfold gT
 split <;> simp
theorem qZ:∀ (ts:List (List Pl)),(bR ts).length≤3*ts.length
 | []=>by simp [bR]
 | t :: ts=>by
   have h1:=qZ ts
   have h2:=Hs t
   show (gT t ++ bR ts).length≤_
   rw [Zh,Zj]
   omega
theorem Hu (t:List Pl):∀ w∈gT t,∃ a b,w= [a,b]∧a∈t∧b∈t:=by
 intro w hw
 unfold gT at hw
 split at hw
 ·rename_i a b c
  simp only [Y6,Zt,or_false] at hw
  rcases hw with rfl | rfl | rfl
  ·exact ⟨a,b,rfl,by simp,by simp⟩
  ·exact ⟨b,c,rfl,by simp,by simp⟩
  ·exact ⟨c,a,rfl,by simp,by simp⟩
 ·cases hw
theorem kM {ts:List (List Pl)}:∀ w∈bR ts,∃ a b,w= [a,b]∧∃ t∈ts,a∈t∧b∈t:=by
 intro w hw
 obtain ⟨t,ht,hw⟩:=ZS.mp hw
 obtain ⟨a,b,e,h1,h2⟩:=Hu t w hw
 exact ⟨a,b,e,t,ht,h1,h2⟩
theorem CG (s t:List Pl):eg (tD s) (tD t)=decide (s=t):=by
 unfold tD
 rw [lG]
 induction s generalizing t with
 | nil=>
   cases t with
   | nil=>rfl
   | cons q t=>simp [dj]
 | cons p s ih=>
   cases t with
   | nil=>simp [dj]
   | cons q t=>
     rw [ZK,ZK,kH,cY,ih,ZW]
     simp
theorem q8 (t:List Pl) (ts:List (List Pl)):inD (tD t) (ts.map tD)=decide (t∈ts):=by
 rw [ZW,decide_eq_true_iff]
 unfold inD
 rw [ab1]
 constructor
 ·rintro ⟨d,hd,e⟩
  obtain ⟨u,hu,rfl⟩:=ZA.mp hd
  rw [CG,decide_eq_true_iff] at e
  rw [← e]
  exact hu
 ·intro h
  exact ⟨tD t,ZA.mpr ⟨t,h,rfl⟩,by rw [CG];simp⟩
theorem Fb (w:List Pl) (ws:List (List Pl)):(ws.map tD).countP (fun y=>eg y (tD w))=ws.count w:=by
 rw [List.countP_map]
 unfold List.count
 refine List.countP_congr fun x _=>?_
 simp only [Function.comp,CG,decide_eq_true_eq,beq_iff_eq]
def PC (ws:List (List Pl)) (w:List Pl):Prop:=w∈ws∧1 < ws.count w
def Hv (ws bs:List (List Pl)) (w:List Pl):Prop:=(w∈ws∧w.reverse∉ws∧w∉bs)∨(w∈bs∧w∉ws)
def PD (ps:List Pl) (ts:List (List Pl)) (p:Pl):Prop:=p∈ps∧∀ t∈ts,p∉t
def se (t:List Pl) (d:Pl):Prop:=match t with
 | [a,b,c]=>kX a b c d
 | _=>False
theorem DZ {ws:List (List Pl)} {W:List Pl→Prop} (e:∀ w,w∈ws↔W w):(ws= []→E8 W none)∧∀ m∈ws,(∀ z∈ws,dc z m=false)→E8 W (some m):=
 ⟨(fun h w hw=>by have:=(e w).mpr hw;rw [h] at this;cases this),fun m mm lm=>⟨(e m).mp mm,fun z hz=>lm z ((e z).mpr hz)⟩⟩
theorem JP {ws:List Pl} {W:Pl→Prop} (e:∀ w,w∈ws↔W w):(ws= []→wZ W none)∧∀ m∈ws,(∀ z∈ws,¬ aL z m)→wZ W (some m):=
 ⟨(fun h w hw=>by have:=(e w).mpr hw;rw [h] at this;cases this),fun m mm lm=>⟨(e m).mp mm,fun z hz=>lm z ((e z).mpr hz)⟩⟩
theorem sj (w:List Pl):plain 9 (tD w)=true:=Zw.mp (cD [w]) _ (by simp)
theorem Fc {ts:List (List Pl)} {i:Nat} {t:List Pl} (h:ts[i]?=some t):(ts.take (i+1)).flatten=(ts.take i).flatten ++ t:=by
 rw [Z7,h,List.flatten_append]
 simp
theorem Hw {ts:List (List Pl)} (h:∀ t∈ts,t.length=3):∀ i,(ts.take i).flatten.length≤3*ts.length:=fun i=>by
 have key:∀ us:List (List Pl),(∀ t∈us,t.length=3)→us.flatten.length=3*us.length:=fun us hu=>by
  induction us with
  | nil=>rfl
  | cons u us ih=>rw [List.flatten_cons,Zh,ih fun t ht=>hu t (Y5 _ ht),hu u (Zl ..),Zj];omega
 rw [key _ fun t ht=>h t (ZZ ht),ZO]
 omega
def Hx (ts:List (List Pl)) (ps:List Pl):Option (List Pl ×Pl)→Prop
 | none=> ∀ t∈ts,∀ d∈ps,¬ se t d
 | some (t,d)=>Fs ts (fun t=> ∃ d∈ps,se t d) (some t)∧wZ (fun d=>d∈ps∧se t d) (some d)
def oS:Option (List Pl ×Pl)→D
 | none=> .bJ
 | some (t,d)=> .tup [.str (Str.ofString "spoilt"),tD t,d.d]
inductive Flt where
 | Hy (t:List Pl) | flat (t:List Pl) | zD (w:List Pl) | bare (w:List Pl) | zE (p:Pl) | sA (t:List Pl) (d:Pl)
def fD:Option Flt→D
 | none=> .bJ
 | some (.Hy t)=> .tup [.str (Str.ofString "alien"),tD t]
 | some (.flat t)=> .tup [.str (Str.ofString "flat"),tD t]
 | some (.zD w)=> .tup [.str (Str.ofString "double"),tD w]
 | some (.bare w)=> .tup [.str (Str.ofString "bare"),tD w]
 | some (.zE p)=> .tup [.str (Str.ofString "lonely"),p.d]
 | some (.sA t d)=> .tup [.str (Str.ofString "spoilt"),tD t,d.d]
def MA (ps:List Pl) (ts bs:List (List Pl)) (r:Option Flt):Prop:=
 ∃ (d b:Option (List Pl)) (l:Option Pl),E8 (PC (bR ts)) d∧(d=none→E8 (Hv (bR ts) bs) b)∧(d=none→b=none→wZ (PD ps ts) l)∧
   r=match d,b,l with
    | some w,_,_=>some (.zD w)
    | none,some w,_=>some (.bare w)
    | none,none,some p=>some (.zE p)
    | none,none,none=>none
def CH (ps:List Pl) (ts bs:List (List Pl)) (r:Option Flt):Prop:=
 ∃ (al fl:Option (List Pl)),Fs ts (fun t=> ∃ q∈t,q∉ps) al∧(al=none→Fs ts (fun t=> ¬ yI t) fl)∧
   match al,fl with
   | some t,_=>r=some (.Hy t)
   | none,some t=>r=some (.flat t)
   | none,none=>(Flat ps→r=none)∧(¬ Flat ps→∃ (cf:Option Flt) (sp:Option (List Pl ×Pl)),MA ps ts bs cf∧(cf=none→Hx ts ps sp)∧r=match cf,sp with
     | some f,_=>some f
     | none,some (t,d)=>some (.sA t d)
     | none,none=>none)
def jr (ps t:List Pl):Prop:=gm t∧∀ q∈t,q∈ps
theorem jr.tr {ps t:List Pl} (h:jr ps t) (ho:∀ q∈ps,q.Ok 140):Tr t:=by
 obtain ⟨⟨u,v,w,rfl,_⟩,h2⟩:=h
 exact ⟨u,v,w,rfl,ho u (h2 u (by simp)),ho v (h2 v (by simp)),ho w (h2 w (by simp))⟩
theorem Hx.uniq {ts:List (List Pl)} {ps:List Pl} {r r':Option (List Pl ×Pl)} (h:Hx ts ps r) (h':Hx ts ps r'):r=r':=by
 cases r with
 | none=>
   cases r' with
   | none=>rfl
   | some td=>
     obtain ⟨t,d⟩:=td
     obtain ⟨⟨i,e,⟨x,hx,k⟩,_⟩,_⟩:=h'
     exact absurd k (h t (Y9 e) x hx)
 | some td=>
   obtain ⟨t,d⟩:=td
   cases r' with
   | none=>
     obtain ⟨⟨i,e,⟨x,hx,k⟩,_⟩,_⟩:=h
     exact absurd k (h' t (Y9 e) x hx)
   | some ud=>
     obtain ⟨u,e⟩:=ud
     have e1:=Option.some.inj (Fs.uniq h.1 h'.1 fun _ _=>Iff.rfl)
     subst e1
     have e2:=Option.some.inj (wZ.uniq h.2 h'.2 fun _=>Iff.rfl)
     subst e2
     rfl
theorem CI {t:List Pl} (h:t.length≤1000):qp 3 (tD t)=true:=by
 show (decide ((t.map Pl.d).length≤1000) && (t.map Pl.d).all (qp 2))=true
 rw [Y4,decide_eq_true h,Bool.true_and,aba,Zw]
 intro p _
 rfl
theorem sC {b w:List Pl} (h:w∈bx b):w.length≤1000:=by
 unfold bx at h
 split at h
 ·cases h
 ·obtain ⟨x,y,rfl⟩:=pO _ _ _ h
  exact aaF rfl
theorem MB {ps b:List Pl} {ts:List (List Pl)} {r:Option Flt} (h:CH ps ts (bx b) r) (hts:∀ t∈ts,Tr t):qp 4 (fD r)=true:=by
 have l3:∀ t∈ts,qp 3 (tD t)=true:=fun t ht=>by
  obtain ⟨x,y,z,rfl,_⟩:=hts t ht
  exact CI (aaF rfl)
 have l2:∀ w∈bR ts,w.length≤1000:=fun w hw=>by
  obtain ⟨x,y,rfl,_⟩:=kM w hw
  exact aaF rfl
 have two:∀ (s:Str) (d:D),qp 3 d=true→qp 4 (.tup [.str s,d])=true:=fun s d e=>by
  show (true && (true && (qp 3 d && true)))=true
  rw [e];rfl
 have three:∀ (s:Str) (d e:D),qp 3 d=true→qp 3 e=true→qp 4 (.tup [.str s,d,e])=true:=fun s d e e1 e2=>by
  show (true && (true && (qp 3 d && (qp 3 e && true))))=true
  rw [e1,e2];rfl
 obtain ⟨al,fl,a1,a2,a3⟩:=h
 cases al with
 | some t=>
   have a3:r=some (.Hy t):=a3
   obtain ⟨i,e,_⟩:=a1
   rw [a3]
   exact two _ _ (l3 t (Y9 e))
 | none=>
   cases fl with
   | some t=>
     have a3:r=some (.flat t):=a3
     obtain ⟨i,e,_⟩:=a2 rfl
     rw [a3]
     exact two _ _ (l3 t (Y9 e))
   | none=>
     obtain ⟨a3,a4⟩:=a3
     by_cases f:Flat ps
     ·rw [a3 f];rfl
     ·obtain ⟨cf,sp,⟨d,b,l,d1,d2,d3,d4⟩,d5,d6⟩:=a4 f
      cases d with
      | some w=>
        have d4:cf=some (.zD w):=d4
        subst d4
        have d6:r=some (.zD w):=d6
        rw [d6]
        exact two _ _ (CI (l2 w d1.1.1))
      | none=>
        cases b with
        | some w=>
          have d4:cf=some (.bare w):=d4
          subst d4
          have d6:r=some (.bare w):=d6
          rw [d6]
          refine two _ _ (CI ?_)
          rcases (d2 rfl).1 with k | k
          ·exact l2 w k.1
          ·exact sC k.1
        | none=>
          cases l with
          | some q=>
            have d4:cf=some (.zE q):=d4
            subst d4
            have d6:r=some (.zE q):=d6
            rw [d6]
            rfl
          | none=>
            have d4:cf=none:=d4
            subst d4
            cases sp with
            | none=>
              have d6:r=none:=d6
              rw [d6];rfl
            | some td=>
              obtain ⟨t,d⟩:=td
              have d6:r=some (.sA t d):=d6
              rw [d6]
              obtain ⟨⟨i,e,_⟩,_⟩:=d5 rfl
              exact three _ _ _ (l3 t (Y9 e)) rfl
theorem MC {a b c m:Pl} (mm:m∈[a,b,c]) (lm:∀ z∈[a,b,c],¬ aL z m):a=m↔(¬ aL b a∧¬ aL c a):=by
 constructor
 ·rintro rfl
  exact ⟨lm b (by simp),lm c (by simp)⟩
 ·rintro ⟨h1,h2⟩
  simp only [Y6,Zt,or_false] at mm
  have ha:=lm a (by simp)
  rcases mm with rfl | rfl | rfl
  ·rfl
  ·rcases bV a m with k | k | k
   ·exact absurd k ha
   ·exact k
   ·exact absurd k h1
  ·rcases bV a m with k | k | k
   ·exact absurd k ha
   ·exact k
   ·exact absurd k h2
end L3
namespace L3
def prs:List Pl→List (List Pl)
 | x :: y :: r=>[x,y] :: prs (y :: r)
 | _=>[]
theorem D0 (h:Pl) (r:List Pl):∀ X:List Pl,prs (X ++ h :: r)=prs (X ++ [h]) ++ prs (h :: r)
 | []=>rfl
 | [x]=>rfl
 | x :: y :: X=>by
   have ih:=D0 h r (y :: X)
   show [x,y] :: prs (y :: X ++ h :: r)= [x,y] :: prs (y :: X ++ [h]) ++ prs (h :: r)
   rw [ih]
   rfl
theorem D3:∀ (x:Pl) (r:List Pl) (z:Pl),List.zipWith (fun p q=>[p,q]) (x :: r) (r ++ [z])=prs (x :: r ++ [z])
 | x,[],z=>rfl
 | x,y :: r,z=>by
   show [x,y] :: List.zipWith (fun p q=>[p,q]) (y :: r) (r ++ [z])= [x,y] :: prs (y :: r ++ [z])
   rw [D3 y r z]
theorem zF:∀ (l:List Pl) (w:List Pl),w∈prs l→∃ a b,w= [a,b]∧Nx l a b
 | [],_,h=>by cases h
 | [_],_,h=>by cases h
 | x :: y :: r,w,h=>by
   rcases Y6.mp h with h | h
   ·exact ⟨x,y,h,.inl ⟨rfl,rfl⟩⟩
   ·obtain ⟨a,b,e,k⟩:=zF (y :: r) w h
    exact ⟨a,b,e,.inr k⟩
theorem Hz:∀ (l:List Pl) (a b:Pl),Nx l a b→[a,b]∈prs l
 | [],_,_,h=>h.elim
 | [_],_,_,h=>h.elim
 | x :: y :: r,a,b,h=>by
   rcases h with ⟨rfl,rfl⟩ | h
   ·exact Zl ..
   ·exact Y5 _ (Hz (y :: r) a b h)
theorem Fd {T H:List Pl} {lo hi:Pl} (t1:T.head?=some lo) (t2:T.getLast?=some hi) (h1:H.head?=some hi) (h2:H.getLast?=some lo) (hne:lo≠hi) :
 List.zipWith (fun p q=>[p,q]) (T.dropLast ++ H.dropLast) ((T.dropLast ++ H.dropLast).drop 1 ++ (T.dropLast ++ H.dropLast).take 1)=prs T ++ prs H:=by
 have eT:=iK t2
 have eH:=iK h2
 obtain ⟨X,hX⟩:∃ X,T.dropLast=lo :: X:=by
  cases e:T.dropLast with
  | nil=>
    rw [e] at eT
    rw [eT] at t1
    exact absurd (Option.some.inj t1).symm hne
  | cons x X=>
    rw [e] at eT
    rw [eT] at t1
    exact ⟨X,by rw [Option.some.inj t1]⟩
 obtain ⟨Y,hY⟩:∃ Y,H=hi :: Y:=by
  cases e:H with
  | nil=>rw [e] at h1;cases h1
  | cons x X=>rw [e] at h1;exact ⟨X,by rw [Option.some.inj h1]⟩
 rw [hX]
 show List.zipWith (fun p q=>[p,q]) (lo :: (X ++ H.dropLast)) ((X ++ H.dropLast) ++ [lo])=_
 rw [D3]
 have e1:lo :: (X ++ H.dropLast) ++ [lo]=(lo :: X) ++ (H.dropLast ++ [lo]):=by simp
 rw [e1,← eH]
 conv=>lhs;rw [hY,D0,← hY]
 rw [← hX,← eT]
theorem KU {z:Pl}:∀ {l:List Pl},l.getLast?=some z→2≤l.length→∃ e,Nx l e z
 | [],_,h=>by simp at h
 | [_],_,h=>by simp at h
 | [x,y],e,_=>⟨x,.inl ⟨rfl,by simpa using e⟩⟩
 | x :: y :: u :: r,e,_=>by
   obtain ⟨e',k⟩:=KU (l:=y :: u :: r) (by simpa using e) (by simp)
   exact ⟨e',.inr k⟩
theorem vh {w:Way} {S:List Pl}:∀ {st:List Pl},p8 w S st→st.Pairwise (fun b a=>w.f a < w.f b)
 | [],_=> .nil
 | [_],_=>by simp
 | y :: x :: r,e=>by
   obtain ⟨e1,_,e3⟩:=e
   have ih:=vh e3
   refine ZF.mpr ⟨fun z hz=>?_,ih⟩
   rcases Y6.mp hz with rfl | hz
   ·exact e1
   ·have:=(ZF.mp ih).1 z hz
    omega
theorem Ch.nodup {w:Way} {S st:List Pl} (C:Ch w S st):st.Nodup:=(vh C.JH).imp fun h e=>by rw [e] at h;omega
theorem sD {l m:List Pl} (nd:l.Nodup) (sub:∀ x∈l,x∈m):l.length≤m.length:=by
 induction l generalizing m with
 | nil=>simp
 | cons a l ih=>
   obtain ⟨h1,h2⟩:=Zp.mp nd
   have ma:=sub a (Zl ..)
   have:=ih (m:=m.erase a) h2 fun x hx=>(abN (show x≠a from fun e=>h1 (e▸hx))).mpr (sub x (Y5 _ hx))
   rw [abn ma] at this
   have:0 < m.length:=abE ma
   rw [Zj]
   omega
theorem CJ {w:Way} {x b e p:Pl} (h1:w.f x < w.f b) (h2:w.f x < w.f e) (h3:w.f x < w.f p) (h:0≤tw x b e) (s1:tw x b p < 0) (s2:tw e x p < 0):False:=by
 have key:=iX w.al w.be (b.x - x.x) (b.y - x.y) (e.x - x.x) (e.y - x.y) (p.x - x.x) (p.y - x.y)
 have s2':0 < (e.x - x.x)*(p.y - x.y) - (e.y - x.y)*(p.x - x.x):=by
  unfold tw at s2
  grind
 unfold Way.f at h1 h2 h3
 unfold tw at h s1
 have k1:0 < w.al*(b.x - x.x)+w.be*(b.y - x.y):=by grind
 have k2:0 < w.al*(e.x - x.x)+w.be*(e.y - x.y):=by grind
 have k3:0 < w.al*(p.x - x.x)+w.be*(p.y - x.y):=by grind
 have r1:=ZC k1 s2'
 have r2:0≤(w.al*(p.x - x.x)+w.be*(p.y - x.y))*((b.x - x.x)*(e.y - x.y) - (b.y - x.y)*(e.x - x.x)):=Zi (by omega) h
 have r3:(w.al*(e.x - x.x)+w.be*(e.y - x.y))*((b.x - x.x)*(p.y - x.y) - (b.y - x.y)*(p.x - x.x)) < 0:=ZL k2 s1
 omega
def B0 (p:Pl):List Pl→Bool
 | [a,b]=>decide (tw a b p < 0)
 | _=>false
end L3
namespace L3
def qq (bd:List Pl) (k:Nat):Option Pl:=if k=0 then bd.getLast? else bd[k - 1]?
theorem zG {bd:List Pl} {k:Nat} {a b:Pl} (hb:bd[k]?=some b) (ha:qq bd k=some a): [a,b]∈List.zipWith (fun p q=>[p,q]) bd (bd.drop 1 ++ bd.take 1):=by
 have lk:k < bd.length:=(Ze.mp hb).1
 unfold qq at ha
 rw [Z5]
 by_cases c:k=0
 ·subst c
  rw [if_pos rfl,abj] at ha
  refine ⟨bd.length - 1,?_⟩
  have e2:(bd.drop 1 ++ bd.take 1)[bd.length - 1]?=some b:=by
   rw [aav (by rw [aah];omega),aah,Nat.sub_self,aaT (by omega)]
   exact hb
  rw [aaw,ha,e2]
 ·rw [if_neg c] at ha
  refine ⟨k - 1,?_⟩
  have e2:(bd.drop 1 ++ bd.take 1)[k - 1]?=some b:=by
   rw [aax (by rw [aah];omega),List.getElem?_drop,show 1+(k - 1)=k by omega]
   exact hb
  rw [aaw,ha,e2]
theorem vm:∀ {as bs:List Pl},as.Perm bs→as.Pairwise (fun a b=> ¬ aL b a)→bs.Pairwise (fun a b=> ¬ aL b a)→as=bs
 | [],bs,h,_,_=>by rw [List.nil_perm.mp h]
 | a :: as,[],h,_,_=>by simp at h
 | a :: as,b :: bs,h,h1,h2=>by
   obtain ⟨p1,p2⟩:=ZF.mp h1
   obtain ⟨q1,q2⟩:=ZF.mp h2
   have e:a=b:=by
    rcases bV a b with k | k | k
    ·rcases Y6.mp (h.mem_iff.mp (Zl (a:=a) (l:=as))) with z | z
     ·exact z
     ·exact absurd k (q1 a z)
    ·exact k
    ·rcases Y6.mp (h.mem_iff.mpr (Zl (a:=b) (l:=bs))) with z | z
     ·exact z.symm
     ·exact absurd k (p1 b z)
   subst e
   rw [vm (List.Perm.cons_inv h) p2 q2]
end L3
namespace L3
def dZ (Q:List Pl):Prop:=Q.Pairwise (fun p q=>aL p q)∧∀ q∈Q,q.y.natAbs < 2 ^ 140
def bE (Q:List Pl) (a b:Pl):Prop:=a∈Q∧b∈Q∧a≠b∧So a b Q
def SL (Q:List Pl):List (List Pl):=bx (b8 Q)
theorem oE {Q:List Pl} (h:Q.length < 2):SL Q= []:=by
 unfold SL b8
 rw [if_pos h]
 unfold bx
 rw [if_pos h]
theorem tK {Q:List Pl} (s:dZ Q) (h:2≤Q.length):2≤(b8 Q).length∧SL Q=List.zipWith (fun p q=>[p,q]) (b8 Q) ((b8 Q).drop 1 ++ (b8 Q).take 1)∧∀ a b,[a,b]∈SL Q↔bE Q a b:=by
 obtain ⟨lb,char⟩:=E6 s.1 s.2 h
 have eo:b8 Q=(Q.foldl aX []).reverse.dropLast ++ (Q.reverse.foldl aX []).reverse.dropLast:=by unfold b8;rw [if_neg (by omega)]
 rw [← eo] at lb char
 have e:SL Q=List.zipWith (fun p q=>[p,q]) (b8 Q) ((b8 Q).drop 1 ++ (b8 Q).take 1):=by
  unfold SL bx
  rw [if_neg (by omega)]
 exact ⟨lb,e,fun a b=>by rw [e];exact char a b⟩
theorem rf {Q:List Pl} {a b:Pl} (h:bE Q a b):2≤Q.length:=sD (l:=[a,b]) (by simp [h.2.2.1]) (fun x hx=>by
 simp only [Y6,Zt,or_false] at hx
 rcases hx with rfl | rfl
 ·exact h.1
 ·exact h.2.1)
theorem cV {Q:List Pl} (s:dZ Q) {a b:Pl}: [a,b]∈SL Q↔bE Q a b:=by
 by_cases h:2≤Q.length
 ·exact (tK s h).2.2 a b
 ·rw [oE (by omega)]
  exact ⟨(fun z=>by cases z),fun z=>absurd (rf z) h⟩
theorem oF {Q w:List Pl} (h:w∈SL Q):∃ a b,w= [a,b]:=by
 unfold SL bx at h
 split at h
 ·cases h
 ·exact pO _ _ _ h
theorem JQ {Q:List Pl} (s:dZ Q) {a b:Pl} (h:bE Q a b):∃ c,bE Q c a:=by
 obtain ⟨lb,e,char⟩:=tK s (rf h)
 have m:=(char a b).mpr h
 rw [e] at m
 obtain ⟨i,hi⟩:=Z5.mp m
 rw [aaw] at hi
 have ha:(b8 Q)[i]?=some a:=by
  cases e1:(b8 Q)[i]? with
  | none=>rw [e1] at hi;simp at hi
  | some u=>
    rw [e1] at hi
    cases e2:((b8 Q).drop 1 ++ (b8 Q).take 1)[i]? with
    | none=>rw [e2] at hi;simp at hi
    | some v=>rw [e2] at hi;simp at hi;rw [hi.1]
 have li:=(Ze.mp ha).1
 obtain ⟨c,hc⟩:∃ c,qq (b8 Q) i=some c:=by
  unfold qq
  split
  ·exact ⟨_,Z9 (fun z=>by rw [z] at lb;simp at lb)⟩
  ·exact ⟨_,Y7 (by omega)⟩
 have:=zG ha hc
 rw [← e] at this
 exact ⟨c,(char c a).mp this⟩
theorem vn {Q:List Pl} (s:dZ Q) {a b:Pl} (h:bE Q a b):∃ c,bE Q b c:=by
 obtain ⟨lb,e,char⟩:=tK s (rf h)
 have m:=(char a b).mpr h
 rw [e] at m
 have hb:b∈b8 Q:=by
  obtain ⟨i,hi⟩:=Z5.mp m
  rw [aaw] at hi
  cases e1:(b8 Q)[i]? with
  | none=>rw [e1] at hi;simp at hi
  | some u=>
    rw [e1] at hi
    cases e2:((b8 Q).drop 1 ++ (b8 Q).take 1)[i]? with
    | none=>rw [e2] at hi;simp at hi
    | some v=>
      rw [e2] at hi
      simp at hi
      have mv:=Y9 e2
      rw [hi.2] at mv
      rcases Zq.mp mv with z | z
      ·exact abO z
      ·exact ZZ z
 obtain ⟨j,hj⟩:=Z5.mp hb
 have lj:=(Ze.mp hj).1
 by_cases c:j+1 < (b8 Q).length
 ·have:=zG (k:=j+1) (Y7 c) (show qq (b8 Q) (j+1)=some b by unfold qq;rw [if_neg (by omega)];exact hj)
  rw [← e] at this
  exact ⟨_,(char _ _).mp this⟩
 ·have:=zG (bd:=b8 Q) (k:=0) (a:=b) (Y7 (by omega)) (by unfold qq;rw [if_pos rfl,abj,show (b8 Q).length - 1=j by omega];exact hj)
  rw [← e] at this
  exact ⟨_,(char _ _).mp this⟩
theorem sE:∀ {l:List Pl},l.Nodup→(prs l).Nodup
 | [],_=> .nil
 | [_],_=> .nil
 | x :: y :: r,h=>by
   obtain ⟨h1,h2⟩:=Zp.mp h
   refine Zp.mpr ⟨fun z=>?_,sE h2⟩
   obtain ⟨a,b,e,k⟩:=zF _ _ z
   have:x=a:=by injection e
   rw [this] at h1
   have key:∀ (l:List Pl) (a b:Pl),Nx l a b→a∈l:=fun l=>by
    induction l with
    | nil=>intro a b k;exact k.elim
    | cons u l ih=>
      intro a b k
      cases l with
      | nil=>exact k.elim
      | cons v l=>
        rcases k with ⟨rfl,_⟩ | k
        ·simp
        ·exact Y5 _ (ih a b k)
   exact h1 (key _ _ _ k)
theorem sF {Q:List Pl} (s:dZ Q) (h2:2≤Q.length):(SL Q).Nodup∧∀ y,Q.getLast?=some y→∃ e,bE Q e y:=by
 obtain ⟨hs,hok⟩:=s
 have hne:Q≠[]:=fun z=>by rw [z] at h2;simp at h2
 obtain ⟨x,hx⟩:∃ x,Q.head?=some x:=by
  cases e:Q with
  | nil=>exact absurd e hne
  | cons x r=>exact ⟨x,rfl⟩
 obtain ⟨y,hy⟩:∃ y,Q.getLast?=some y:=⟨_,Z9 hne⟩
 have mx:x∈Q:=aaH hx
 have my:y∈Q:=aal hy
 have hend:=gS hs hx hy
 have be:∀ p∈Q,∀ q∈Q,(aL p q↔az.f p < az.f q):=fun p hp q hq=>om (hok p hp) (hok q hq)
 have bw:∀ p∈Q,∀ q∈Q,(aL p q↔tU.f q < tU.f p):=fun p hp q hq=>by
  rw [be p hp q hq,iQ,iQ]
  omega
 have xy:x≠y:=by
  intro e
  cases e1:Q with
  | nil=>exact absurd e1 hne
  | cons u r=>
    cases r with
    | nil=>rw [e1] at h2;simp at h2
    | cons v r=>
      rw [e1] at hx hy hs
      have eu:u=x:=by simpa using hx
      have Sq:y∈v :: r:=aal (by simpa using hy)
      have:=(ZF.mp hs).1 y Sq
      rw [eu,e] at this
      exact aY _ this
 have C1:Ch az Q (Q.foldl aX []):=oj hne (hs.imp_of_mem fun hp hq h=>(be _ hp _ hq).mp h)
 have C2:Ch tU Q.reverse (Q.reverse.foldl aX []):=oj (by simpa using hne) (abI.mpr (hs.imp_of_mem fun hp hq h=>(bw _ hp _ hq).mp h))
 have key:∀ p∈Q,∀ q∈Q,(p=q∨aL p q)→az.f p≤az.f q∧tU.f q≤tU.f p:=fun p hp q hq k=>by
  rcases k with rfl | k
  ·exact ⟨aaq _,aaq _⟩
  ·have a1:=(be p hp q hq).mp k
   have a2:=(bw p hp q hq).mp k
   omega
 obtain ⟨p1,p2⟩:=C1.ends mx my (fun q hq=>(key x mx q hq ((hend q hq).1.imp Eq.symm id)).1) (fun q hq=>(key q hq y my (hend q hq).2).1)
 obtain ⟨r1,r2⟩:=C2.ends (lo:=y) (hi:=x) (by simpa using my) (by simpa using mx) (fun q hq=>by have hq:=ZR.mp hq;exact (key q hq y my (hend q hq).2).2) (fun q hq=>by have hq:=ZR.mp hq;exact (key x mx q hq ((hend q hq).1.imp Eq.symm id)).2)
 have e0:=Fd (lo:=x) (hi:=y) (T:=(Q.foldl aX []).reverse) (H:=(Q.reverse.foldl aX []).reverse) (by rw [aaB];exact p2) (by rw [aar];exact p1) (by rw [aaB];exact r2) (by rw [aar];exact r1) xy
 obtain ⟨lb,e,char⟩:=tK ⟨hs,hok⟩ h2
 have eo:b8 Q=(Q.foldl aX []).reverse.dropLast ++ (Q.reverse.foldl aX []).reverse.dropLast:=by unfold b8;rw [if_neg (by omega)]
 have es:SL Q=prs (Q.foldl aX []).reverse ++ prs (Q.reverse.foldl aX []).reverse:=by
  rw [e,eo]
  exact e0
 have Vs:∀ a b,Nx (Q.foldl aX []).reverse a b→az.f a < az.f b:=fun a b k=>((iY C1).mp ((pM _ a b).mpr k)).2.2.1
 have Vt:∀ a b,Nx (Q.reverse.foldl aX []).reverse a b→az.f b < az.f a:=fun a b k=>by
  have h3:=((iY C2).mp ((pM _ a b).mpr k)).2.2.1
  rw [iQ,iQ] at h3
  omega
 have n1:=C1.nodup
 have n2:=C2.nodup
 constructor
 ·rw [es]
  refine aan.mpr ⟨sE ((abk _).nodup_iff.mpr n1),sE ((abk _).nodup_iff.mpr n2),fun v hv u hu z=>?_⟩
  subst z
  obtain ⟨a,b,rfl,k1⟩:=zF _ _ hv
  obtain ⟨c,d,e2,k2⟩:=zF _ _ hu
  injection e2 with e3 e2
  injection e2 with e4 _
  rw [← e3,← e4] at k2
  have:=Vs a b k1
  have:=Vt a b k2
  omega
 ·intro y' hy'
  rw [hy] at hy'
  cases hy'
  obtain ⟨e1,k⟩:=KU (l:=(Q.foldl aX []).reverse) (z:=y) (by rw [aar];exact p1) (by rw [Zu];exact vg p1 p2 (Ne.symm xy))
  exact ⟨e1,(char e1 y).mp (by rw [es];exact Zk _ (Hz _ _ _ k))⟩
theorem oG {Q:List Pl} (s:dZ Q):(SL Q).Nodup:=by
 by_cases h:2≤Q.length
 ·exact (sF s h).1
 ·rw [oE (by omega)]
  exact .nil
theorem vo (w:Way) (u v p o:Pl):(w.f v - w.f o)*tw o u p=(w.f u - w.f o)*tw o v p+(w.f p - w.f o)*tw o u v:=by
 unfold Way.f tw
 grind
theorem sG (a b c:Pl):tw b c a=tw a b c:=by unfold tw;grind
theorem w4 (a b c:Pl):tw c a b=tw a b c:=by unfold tw;grind
theorem eK (a b c:Pl):tw b a c= - tw a b c:=by unfold tw;grind
theorem ri (a b c:Pl):tw a c b= - tw a b c:=by unfold tw;grind
section
variable {Q:List Pl} {p:Pl}
def ME (Q:List Pl) (p:Pl):Prop:=(∀ q∈Q,aL q p)∧p.y.natAbs < 2 ^ 140
theorem dZ.f (s:dZ Q) {a b:Pl} (ha:a∈Q) (hb:b∈Q):aL a b↔az.f a < az.f b:=om (s.2 a ha) (s.2 b hb)
theorem dZ.inj (s:dZ Q) {a b:Pl} (ha:a∈Q) (hb:b∈Q) (e:az.f a=az.f b):a=b:=by
 rcases bV a b with k | k | k
 ·have:=(s.f ha hb).mp k;omega
 ·exact k
 ·have:=(s.f hb ha).mp k;omega
theorem ME.f (s:dZ Q) (h:ME Q p) {a:Pl} (ha:a∈Q):az.f a < az.f p:=(om (s.2 a ha) h.2).mp (h.1 a ha)
theorem eU (s:dZ Q) {a b q:Pl} (h:bE Q a b) (hq:q∈Q) (z:tw a b q=0):¬ ((az.f a < az.f q∧az.f q < az.f b)∨(az.f b < az.f q∧az.f q < az.f a)):=by
 obtain ⟨ha,hb,ne,r⟩:=h
 have r2:=(r q hq).2 z
 unfold lo hi at r2
 rintro (⟨k1,k2⟩ | ⟨k1,k2⟩)
 ·have ab:aL a b:=(s.f ha hb).mpr (by omega)
  rw [if_neg (aG ab),if_pos ab] at r2
  exact r2 ⟨(s.f ha hq).mpr k1,(s.f hq hb).mpr k2⟩
 ·have ba:aL b a:=(s.f hb ha).mpr (by omega)
  rw [if_pos ba,if_neg (aG ba)] at r2
  exact r2 ⟨(s.f hb hq).mpr k1,(s.f hq ha).mpr k2⟩
theorem vp (s:dZ Q) {a b:Pl} (ha:a∈Q) (hb:b∈Q) (h:∀ q∈Q,0≤tw a b q∧(tw a b q=0→¬ ((az.f a < az.f q∧az.f q < az.f b)∨(az.f b < az.f q∧az.f q < az.f a)))):So a b Q:=fun q hq=>⟨(h q hq).1,fun z k=>(h q hq).2 z (by
 unfold lo hi at k
 by_cases c:aL b a
 ·rw [if_pos c,if_neg (aG c)] at k
  exact .inr ⟨(s.f hb hq).mp k.1,(s.f hq ha).mp k.2⟩
 ·rw [if_neg c] at k
  by_cases d:aL a b
  ·rw [if_pos d] at k
   exact .inl ⟨(s.f ha hq).mp k.1,(s.f hq hb).mp k.2⟩
  ·rw [if_neg d] at k
   have:=(s.f ha hq).mp k.1
   have:=(s.f hq ha).mp k.2
   omega)⟩
theorem zH (s:dZ Q) {a b:Pl} (ha:a∈Q) (hb:b∈Q) (ne:a≠b):az.f a≠az.f b:=fun z=>ne (s.inj ha hb z)
theorem yJ (s:dZ Q) {a b c:Pl} (h1:bE Q a b) (h2:bE Q a c) (s1:tw a b p < 0) (s2:tw a c p < 0):b=c:=by
 have z1:=(h1.2.2.2 c h2.2.1).1
 have z2:=(h2.2.2.2 b h1.2.1).1
 have z3:=ri a b c
 have z:tw a b c=0:=by omega
 have z':tw a c b=0:=by omega
 apply Y3
 intro ne
 have f1:=zH s h1.1 h1.2.1 h1.2.2.1
 have f2:=zH s h2.1 h2.2.1 h2.2.2.1
 have f3:=zH s h1.2.1 h2.2.1 ne
 have b1:=eU s h1 h2.2.1 z
 have b2:=eU s h2 h1.2.1 z'
 have key:=vo az b c p a
 rw [z,Z0,aaM] at key
 rcases aag f1 with k | k
 ·rcases aag f2 with l | l
  ·omega
  ·have e1:0 < (az.f c - az.f a)*tw a b p:=aak (by omega) s1
   have e2:(az.f b - az.f a)*tw a c p < 0:=ZL (by omega) s2
   omega
 ·rcases aag f2 with l | l
  ·have e1:(az.f c - az.f a)*tw a b p < 0:=ZL (by omega) s1
   have e2:0 < (az.f b - az.f a)*tw a c p:=aak (by omega) s2
   omega
  ·omega
theorem Bv (s:dZ Q) {a b c:Pl} (h1:bE Q b a) (h2:bE Q c a) (s1:tw b a p < 0) (s2:tw c a p < 0):b=c:=by
 have z1:=(h1.2.2.2 c h2.1).1
 have z2:=(h2.2.2.2 b h1.1).1
 have z3:tw c a b= - tw b a c:=by unfold tw;grind
 have z:tw b a c=0:=by omega
 have z':tw c a b=0:=by omega
 apply Y3
 intro ne
 have f1:=zH s h1.1 h1.2.1 h1.2.2.1
 have f2:=zH s h2.1 h2.2.1 h2.2.2.1
 have f3:=zH s h1.1 h2.1 ne
 have b1:=eU s h1 h2.1 z
 have b2:=eU s h2 h1.1 z'
 have key:=vo az b c p a
 have y1:tw a b p= - tw b a p:=eK b a p
 have y2:tw a c p= - tw c a p:=eK c a p
 have y3:tw a b c=0:=by have:=eK b a c;omega
 rw [y3,Z0,aaM] at key
 have s1:0 < tw a b p:=by omega
 have s2:0 < tw a c p:=by omega
 rcases aag f1 with k | k
 ·rcases aag f2 with l | l
  ·omega
  ·have e1:0 < (az.f c - az.f a)*tw a b p:=ZC (by omega) s1
   have e2:(az.f b - az.f a)*tw a c p < 0:=ZY (by omega) s2
   omega
 ·rcases aag f2 with l | l
  ·have e1:(az.f c - az.f a)*tw a b p < 0:=ZY (by omega) s1
   have e2:0 < (az.f b - az.f a)*tw a c p:=ZC (by omega) s2
   omega
  ·omega
theorem PF (c a b p q:Pl):tw c a p*tw a b q - tw a b p*tw c a q=tw c a b*tw a p q:=by unfold tw;grind
theorem PJ (a b c p q:Pl):tw a b q*tw b c p - tw a b p*tw b c q=tw a b c*tw p b q:=by unfold tw;grind
theorem jw {a b:Pl} (ne:a≠b) (h:∀ q∈Q,tw a b q=0):Flat Q:=fun u hu v hv w hw=>Br ne (h u hu) (h v hv) (h w hw)
theorem Fe (nf:¬ Flat Q) {a b c:Pl} (h1:bE Q a b) (h2:bE Q c a) (s1:tw a b p < 0) (s2:0≤tw c a p):∀ q∈Q,0≤tw a p q:=fun q hq=>by
 have z1:=(h1.2.2.2 q hq).1
 have z2:=(h2.2.2.2 q hq).1
 have z3:=(h2.2.2.2 b h1.2.1).1
 have key:=PF c a b p q
 have e1:0≤tw c a p*tw a b q:=Zi s2 z1
 have e2:tw a b p*tw c a q≤0:=Zx (by omega) z2
 rcases abf z3 with k | k
 ·exact rY k (by omega)
 ·exfalso
  refine nf (jw h2.2.2.1 fun r hr=>?_)
  have key:=PF c a b p r
  rw [← k,aaN] at key
  have y1:=(h1.2.2.2 r hr).1
  have y2:=(h2.2.2.2 r hr).1
  have e1:0≤tw c a p*tw a b r:=Zi s2 y1
  have e2:tw a b p*tw c a r≤0:=Zx (by omega) y2
  have e3:tw a b p*tw c a r=0:=by omega
  rcases Zv.mp e3 with z | z
  ·omega
  ·exact z
theorem JR (nf:¬ Flat Q) {a b c:Pl} (h1:bE Q a b) (h2:bE Q b c) (s1:tw a b p < 0) (s2:0≤tw b c p):∀ q∈Q,0≤tw p b q:=fun q hq=>by
 have z1:=(h1.2.2.2 q hq).1
 have z2:=(h2.2.2.2 q hq).1
 have z3:=(h1.2.2.2 c h2.2.1).1
 have key:=PJ a b c p q
 have e1:0≤tw a b q*tw b c p:=Zi z1 s2
 have e2:tw a b p*tw b c q≤0:=Zx (by omega) z2
 rcases abf z3 with k | k
 ·exact rY k (by omega)
 ·exfalso
  refine nf (jw h2.2.2.1 fun r hr=>?_)
  have key:=PJ a b c p r
  rw [← k,aaN] at key
  have y1:=(h1.2.2.2 r hr).1
  have y2:=(h2.2.2.2 r hr).1
  have e1:0≤tw a b r*tw b c p:=Zi y1 s2
  have e2:tw a b p*tw b c r≤0:=Zx (by omega) y2
  have e3:tw a b p*tw b c r=0:=by omega
  rcases Zv.mp e3 with z | z
  ·omega
  ·exact z
theorem pP (s:dZ Q) (fl:Flat Q) {a b:Pl} (ha:a∈Q) (hb:b∈Q) (ne:a≠b) (h:∀ q∈Q,¬ ((az.f a < az.f q∧az.f q < az.f b)∨(az.f b < az.f q∧az.f q < az.f a))):bE Q a b:=
 ⟨ha,hb,ne,vp s ha hb fun q hq=>⟨by rw [fl a ha b hb q hq];omega,fun _=>h q hq⟩⟩
theorem zI (s:dZ Q) {a q:Pl} (ha:a∈Q) (hq:q∈Q) (ne:q≠a):∃ c∈Q,c≠a∧(az.f c < az.f a↔az.f q < az.f a)∧∀ z∈Q,¬ ((az.f a < az.f z∧az.f z < az.f c)∨(az.f c < az.f z∧az.f z < az.f a)):=by
 have fq:=zH s hq ha ne
 rcases aag fq with k | k
 ·obtain ⟨c,hc,mx⟩:=zC (Q.filter fun z=>decide (aL z a)) (aaV (Zf.mpr ⟨hq,decide_eq_true ((s.f hq ha).mpr k)⟩))
  obtain ⟨hc,ca⟩:=Zf.mp hc
  have ca:=(s.f hc ha).mp (of_decide_eq_true ca)
  refine ⟨c,hc,fun z=>by rw [z] at ca;omega,⟨fun _=>k,fun _=>ca⟩,fun z hz=>?_⟩
  rintro (⟨k1,k2⟩ | ⟨k1,k2⟩)
  ·omega
  ·exact mx z (Zf.mpr ⟨hz,decide_eq_true ((s.f hz ha).mpr k2)⟩) ((s.f hc hz).mpr k1)
 ·obtain ⟨c,hc,mn⟩:=uw (Q.filter fun z=>decide (aL a z)) (aaV (Zf.mpr ⟨hq,decide_eq_true ((s.f ha hq).mpr k)⟩))
  obtain ⟨hc,ca⟩:=Zf.mp hc
  have ca:=(s.f ha hc).mp (of_decide_eq_true ca)
  refine ⟨c,hc,fun z=>by rw [z] at ca;omega,⟨fun _=>by omega,fun _=>by omega⟩,fun z hz=>?_⟩
  rintro (⟨k1,k2⟩ | ⟨k1,k2⟩)
  ·exact mn z (Zf.mpr ⟨hz,decide_eq_true ((s.f ha hz).mpr k1)⟩) ((s.f hz hc).mpr k2)
  ·omega
theorem TV {x y A B:Int} (h:x*A=y*B) (hA:A < 0) (hB:0 < B):(0 < x→y < 0)∧(x < 0→0 < y)∧(x=0→y=0):=by
 refine ⟨fun k=>?_,fun k=>?_,fun k=>?_⟩
 ·have:=ZL k hA
  apply Y3
  intro z
  have:=Zi (a:=y) (b:=B) (by omega) (by omega)
  omega
 ·have:=aak k hA
  apply Y3
  intro z
  have:=Zx (a:=y) (b:=B) (by omega) (by omega)
  omega
 ·rw [k,aaN] at h
  rcases Zv.mp h.symm with z | z
  ·exact z
  ·omega
theorem Ss {x y A B:Int} (h:x*A=y*B) (hA:A < 0) (hxy:(0 < x∧y < 0)∨(x < 0∧0 < y)):0 < B:=by
 apply Y3
 intro z
 rcases hxy with ⟨k,l⟩ | ⟨k,l⟩
 ·have:=ZL k hA
  have:=Zo (a:=y) (b:=B) (by omega) (by omega)
  omega
 ·have:=aak k hA
  have:=Zs (a:=y) (b:=B) (by omega) (by omega)
  omega
theorem CK (s:dZ Q) (fl:Flat Q) {a b:Pl} (h1:bE Q a b) (s1:tw a b p < 0) (no:∀ c,bE Q c a→0≤tw c a p):∀ q∈Q,0≤tw a p q:=fun q hq=>by
 apply Y3
 intro k
 have z0:=fl a h1.1 b h1.2.1 q hq
 have key:=vo az b q p a
 rw [z0,Z0,aaM] at key
 have e1:tw a q p= - tw a p q:=ri a p q
 have o1:=TV key s1 (by omega)
 have nq:q≠a:=fun z=>by rw [z] at k;have:=iV a p;omega
 obtain ⟨c,hc,nc,sg,PK⟩:=zI s h1.1 hq nq
 have f1:=zH s h1.2.1 h1.1 (Ne.symm h1.2.2.1)
 have f2:=zH s hq h1.1 nq
 have f3:=zH s hc h1.1 nc
 have sd:bE Q c a:=pP s fl hc h1.1 nc fun z hz w=>PK z hz (by omega)
 have JS:=vo az b c p a
 rw [fl a h1.1 b h1.2.1 c hc,Z0,aaM] at JS
 have:=Ss JS s1 (by omega)
 have:=no c sd
 have:=eK a c p
 omega
theorem HA (s:dZ Q) (fl:Flat Q) {a b:Pl} (h1:bE Q a b) (s1:tw a b p < 0) (no:∀ c,bE Q b c→0≤tw b c p):∀ q∈Q,0≤tw p b q:=fun q hq=>by
 apply Y3
 intro k
 have z0:=fl b h1.2.1 a h1.1 q hq
 have key:=vo az a q p b
 rw [z0,Z0,aaM] at key
 have e1:tw b q p=tw p b q:=sG p b q
 have e2:=eK a b p
 have key:(az.f a - az.f b)*tw b q p=(az.f q - az.f b)*tw b a p:=key.symm
 have o1:=TV key (by omega) (by omega)
 have nq:q≠b:=fun z=>by rw [z] at k;have:=gQ p b;have:tw p b b=0:=by unfold tw;grind
                        omega
 obtain ⟨c,hc,nc,sg,PK⟩:=zI s h1.2.1 hq nq
 have f1:=zH s h1.1 h1.2.1 h1.2.2.1
 have f2:=zH s hq h1.2.1 nq
 have f3:=zH s hc h1.2.1 nc
 have sd:bE Q b c:=pP s fl h1.2.1 hc (Ne.symm nc) fun z hz w=>PK z hz (by omega)
 have JS:=vo az a c p b
 rw [fl b h1.2.1 a h1.1 c hc,Z0,aaM] at JS
 have nn:=no c sd
 have pos:0 < tw b a p:=by omega
 rcases aag f3 with l | l
 ·have e3:(az.f c - az.f b)*tw b a p < 0:=ZY (by omega) pos
  have e4:0≤(az.f a - az.f b)*tw b c p:=Zi (by omega) nn
  omega
 ·have e3:0 < (az.f c - az.f b)*tw b a p:=ZC (by omega) pos
  have e4:(az.f a - az.f b)*tw b c p≤0:=Zx (by omega) nn
  omega
theorem Ff (s:dZ Q) (bh:ME Q p) {a b q:Pl} (h1:bE Q a b) (s1:tw a b p < 0) (hq:q∈Q) (z:tw a p q=0):¬ az.f a < az.f q:=fun k=>by
 have key:=vo az b q p a
 have e1:tw a q p=0:=by have:=ri a p q;omega
 rw [e1,Z0,abV] at key
 have:=(h1.2.2.2 q hq).1
 have fp:=bh.f s h1.1
 have e2:(az.f q - az.f a)*tw a b p < 0:=ZL (by omega) s1
 have e3:0≤(az.f p - az.f a)*tw a b q:=Zi (by omega) this
 omega
theorem JT (s:dZ Q) (bh:ME Q p) {a b q:Pl} (h1:bE Q a b) (s1:tw a b p < 0) (hq:q∈Q) (z:tw p b q=0):¬ az.f b < az.f q:=fun k=>by
 have key:=vo az a q p b
 have e1:tw b q p=0:=by have:=sG p b q;omega
 rw [e1,Z0,abV] at key
 have:=(h1.2.2.2 q hq).1
 have y1:=eK a b p
 have y2:=eK a b q
 have fp:=bh.f s h1.2.1
 have e2:0 < (az.f q - az.f b)*tw b a p:=ZC (by omega) (by omega)
 have e3:(az.f p - az.f b)*tw b a q≤0:=Zs (by omega) (by omega)
 omega
theorem dZ.old (s:dZ (Q ++ [p])):dZ Q:=⟨(aaO.mp s.1).1,fun q hq=>s.2 q (Zk _ hq)⟩
theorem dZ.CL (s:dZ (Q ++ [p])):ME Q p:=⟨fun q hq=>(aaO.mp s.1).2.2 q hq p (by simp),s.2 p (by simp)⟩
theorem dZ.out (s:dZ (Q ++ [p])):p∉Q:=fun h=>aY _ (s.CL.1 p h)
theorem fF {q:Pl} (h:q∈Q ++ [p]):q∈Q∨q=p:=by
 rcases Zq.mp h with h | h
 ·exact .inl h
 ·exact .inr (Y8.mp h)
theorem i0 (s:dZ (Q ++ [p])) {a b:Pl} (ha:a∈Q) (hb:b∈Q):bE (Q ++ [p]) a b↔bE Q a b∧0≤tw a b p:=by
 constructor
 ·rintro ⟨_,_,ne,r⟩
  exact ⟨⟨ha,hb,ne,fun q hq=>r q (Zk _ hq)⟩,(r p (by simp)).1⟩
 ·rintro ⟨⟨_,_,ne,r⟩,h⟩
  refine ⟨Zk _ ha,Zk _ hb,ne,vp s (Zk _ ha) (Zk _ hb) fun q hq=>?_⟩
  rcases fF hq with hq | rfl
  ·exact ⟨(r q hq).1,fun z=>eU s.old ⟨ha,hb,ne,r⟩ hq z⟩
  ·refine ⟨h,fun _ k=>?_⟩
   have:=s.CL.f s.old ha
   have:=s.CL.f s.old hb
   omega
theorem vq (s:dZ (Q ++ [p])) {a b:Pl} (h1:bE Q a b) (s1:tw a b p < 0) (no:∀ c,bE Q c a→0≤tw c a p):bE (Q ++ [p]) a p:=by
 have all:∀ q∈Q,0≤tw a p q:=by
  by_cases fl:Flat Q
  ·exact CK s.old fl h1 s1 no
  ·obtain ⟨c,hc⟩:=JQ s.old h1
   exact Fe fl h1 hc s1 (no c hc)
 have ma:a∈Q ++ [p]:=Zk _ h1.1
 have mp:p∈Q ++ [p]:=by simp
 refine ⟨ma,mp,fun z=>s.out (z▸h1.1),vp s ma mp fun q hq=>?_⟩
 have fa:=s.CL.f s.old h1.1
 rcases fF hq with hq | rfl
 ·refine ⟨all q hq,fun z k=>?_⟩
  have:=Ff s.old s.CL h1 s1 hq z
  have:=s.CL.f s.old hq
  omega
 ·refine ⟨by have:tw a q q=0:=by unfold tw;grind
             omega,fun _ k=>by omega⟩
theorem Bw (s:dZ (Q ++ [p])) {a b:Pl} (h1:bE Q a b) (s1:tw a b p < 0) (no:∀ c,bE Q b c→0≤tw b c p):bE (Q ++ [p]) p b:=by
 have all:∀ q∈Q,0≤tw p b q:=by
  by_cases fl:Flat Q
  ·exact HA s.old fl h1 s1 no
  ·obtain ⟨c,hc⟩:=vn s.old h1
   exact JR fl h1 hc s1 (no c hc)
 have mb:b∈Q ++ [p]:=Zk _ h1.2.1
 have mp:p∈Q ++ [p]:=by simp
 refine ⟨mp,mb,fun z=>s.out (z▸h1.2.1),vp s mp mb fun q hq=>?_⟩
 have fb:=s.CL.f s.old h1.2.1
 rcases fF hq with hq | rfl
 ·refine ⟨all q hq,fun z k=>?_⟩
  have:=JT s.old s.CL h1 s1 hq z
  have:=s.CL.f s.old hq
  omega
 ·refine ⟨by have:tw q b q=0:=by unfold tw;grind
             omega,fun _ k=>by omega⟩
theorem HB (s:dZ (Q ++ [p])) {u v:Pl} (h1:bE (Q ++ [p]) u p) (h2:bE (Q ++ [p]) v p):u=v:=by
 apply Y3
 intro ne
 have z1:=(h1.2.2.2 v h2.1).1
 have z2:=(h2.2.2.2 u h1.1).1
 have z3:tw v p u= - tw u p v:=by unfold tw;grind
 have f:=zH s h1.1 h2.1 ne
 have hu:=(fF h1.1).resolve_right h1.2.2.1
 have hv:=(fF h2.1).resolve_right h2.2.2.1
 have fu:=s.CL.f s.old hu
 have fv:=s.CL.f s.old hv
 have b1:=eU s h1 h2.1 (by omega)
 have b2:=eU s h2 h1.1 (by omega)
 omega
theorem KW (s:dZ (Q ++ [p])) {u v:Pl} (h1:bE (Q ++ [p]) p u) (h2:bE (Q ++ [p]) p v):u=v:=by
 apply Y3
 intro ne
 have z1:=(h1.2.2.2 v h2.2.1).1
 have z2:=(h2.2.2.2 u h1.2.1).1
 have z3:tw p v u= - tw p u v:=ri p u v
 have f:=zH s h1.2.1 h2.2.1 ne
 have hu:=(fF h1.2.1).resolve_right (Ne.symm h1.2.2.1)
 have hv:=(fF h2.2.1).resolve_right (Ne.symm h2.2.2.1)
 have fu:=s.CL.f s.old hu
 have fv:=s.CL.f s.old hv
 have b1:=eU s h1 h2.2.1 (by omega)
 have b2:=eU s h2 h1.2.1 (by omega)
 omega
theorem Bx {Q:List Pl} (h:Q.length≤2):Flat Q:=by
 match Q,h with
 | [],_=>exact fun p hp=>by cases hp
 | [x],_=>exact iZ (by simp)
 | [x,y],_=>
   have key:∀ a∈[x,y],a=x∨a=y:=fun a ha=>by simpa using ha
   intro a ha b hb c hc
   rcases key a ha with rfl | rfl <;> rcases key b hb with rfl | rfl <;> rcases key c hc with rfl | rfl <;> (unfold tw;grind)
theorem yK (s:dZ (Q ++ [p])) (nf:¬ Flat (Q ++ [p])):∃ a b,bE Q a b∧tw a b p < 0:=by
 apply Y3
 intro none
 have un:∀ a b,bE Q a b→0≤tw a b p:=fun a b h=>Y3 fun z=>none ⟨a,b,h,by omega⟩
 have l2:2≤Q.length:=Y3 fun z=>nf (Bx (by rw [Zh];simp;omega))
 have hne:Q≠[]:=fun z=>by rw [z] at l2;simp at l2
 have hy:=Z9 hne
 obtain ⟨e,he⟩:=(sF s.old l2).2 _ hy
 have last:∀ q∈Q,q=Q.getLast hne∨aL q (Q.getLast hne):=fun q hq=>(gS s.old.1 (List.head?_eq_some_head hne) hy q hq).2
 generalize Q.getLast hne=y at he last
 obtain ⟨b,hb⟩:=vn s.old he
 have my:y∈Q:=hb.1
 have fe:az.f e < az.f y:=(s.old.f he.1 my).mp ((last e he.1).resolve_left he.2.2.1)
 have fb:az.f b < az.f y:=(s.old.f hb.2.1 my).mp ((last b hb.2.1).resolve_left (Ne.symm hb.2.2.1))
 have fp:=s.CL.f s.old my
 have u1:=un e y he
 have u2:=un y b hb
 have u3:=(he.2.2.2 b hb.2.1).1
 have g1:∀ q,tw y e q= - tw e y q:=fun q=>eK e y q
 have key:=vo az e b p y
 have k1:=g1 p
 have k2:=g1 b
 have e1:0≤(az.f b - az.f y)*tw y e p:=Zo (by omega) (by omega)
 have e2:(az.f e - az.f y)*tw y b p≤0:=Zx (by omega) u2
 have e3:(az.f p - az.f y)*tw y e b≤0:=Zs (by omega) (by omega)
 have z1:(az.f b - az.f y)*tw y e p=0:=by omega
 have z2:(az.f p - az.f y)*tw y e b=0:=by omega
 have y1:tw y e p=0:=(Zv.mp z1).resolve_left (by omega)
 have y2:tw y e b=0:=(Zv.mp z2).resolve_left (by omega)
 refine nf (jw (a:=y) (b:=e) (Ne.symm he.2.2.1) fun q hq=>?_)
 rcases fF hq with hq | rfl
 ·have key:=vo az e b q y
  rw [y2,Z0,aaM] at key
  have h1:=(he.2.2.2 q hq).1
  have h2:=(hb.2.2.2 q hq).1
  have h3:=g1 q
  have e4:0≤(az.f b - az.f y)*tw y e q:=Zo (by omega) (by omega)
  have e5:(az.f e - az.f y)*tw y b q≤0:=Zx (by omega) h2
  exact (Zv.mp (show (az.f b - az.f y)*tw y e q=0 by omega)).resolve_left (by omega)
 ·exact y1
def cM (Q:List Pl) (p:Pl):List (List Pl):=(SL Q).filter (B0 p)
theorem b9 (s:dZ Q) {a b:Pl}: [a,b]∈cM Q p↔bE Q a b∧tw a b p < 0:=by
 unfold cM
 rw [Zf,cV s]
 exact ⟨fun h=>⟨h.1,of_decide_eq_true h.2⟩,fun h=>⟨h.1,decide_eq_true h.2⟩⟩
theorem cW {w:List Pl} (h:w∈cM Q p):∃ a b,w= [a,b]:=oF (Zf.mp h).1
theorem qu (s:dZ Q):(cM Q p).Nodup:=(oG s).filter _
def w5 (w:List Pl):Pl:=w.headD ⟨0,0⟩
def zJ (w:List Pl):Pl:=w.getLastD ⟨0,0⟩
theorem pQ {α β:Type} {f:α→β}:∀ {l:List α},l.Nodup→(∀ x∈l,∀ y∈l,f x=f y→x=y)→(l.map f).Nodup
 | [],_,_=> .nil
 | a :: l,nd,h=>by
   obtain ⟨h1,h2⟩:=Zp.mp nd
   rw [ZK]
   refine Zp.mpr ⟨fun z=>?_,pQ h2 fun x hx y hy=>h x (Y5 _ hx) y (Y5 _ hy)⟩
   obtain ⟨b,hb,e⟩:=ZA.mp z
   rw [h b (Y5 _ hb) a (by simp) e] at hb
   exact h1 hb
theorem zK (s:dZ Q):((cM Q p).map w5).Nodup:=pQ (qu s) fun x hx y hy e=>by
 obtain ⟨a,b,rfl⟩:=cW hx
 obtain ⟨c,d,rfl⟩:=cW hy
 have e:a=c:=e
 subst e
 obtain ⟨h1,h2⟩:=(b9 s).mp hx
 obtain ⟨h3,h4⟩:=(b9 s).mp hy
 rw [yJ s h1 h3 h2 h4]
theorem CM (s:dZ Q):((cM Q p).map zJ).Nodup:=pQ (qu s) fun x hx y hy e=>by
 obtain ⟨a,b,rfl⟩:=cW hx
 obtain ⟨c,d,rfl⟩:=cW hy
 have e:b=d:=e
 subst e
 obtain ⟨h1,h2⟩:=(b9 s).mp hx
 obtain ⟨h3,h4⟩:=(b9 s).mp hy
 rw [Bv s h1 h3 h2 h4]
theorem By {A B:List Pl} (na:A.Nodup) (l:A.length=B.length) (h:∀ x∈A,x∈B):∀ x∈B,x∈A:=fun x hx=>by
 apply Y3
 intro n
 have:=sD (l:=x :: A) (m:=B) (Zp.mpr ⟨n,na⟩) (fun y hy=>by
  rcases Y6.mp hy with rfl | hy
  ·exact hx
  ·exact h y hy)
 rw [Zj] at this
 omega
theorem D4 (s:dZ Q) (bh:ME Q p) {a0 b0:Pl} (h0: [a0,b0]∈cM Q p) (h1:∀ x∈(cM Q p).map w5,x∈(cM Q p).map zJ) (h2:∀ x∈(cM Q p).map zJ,x∈(cM Q p).map w5):False:=by
 obtain ⟨m,hm,mn⟩:=uw ((cM Q p).map w5) (aaV (ZA.mpr ⟨_,h0,rfl⟩))
 obtain ⟨w,hw,e1⟩:=ZA.mp hm
 obtain ⟨v,hv,e2⟩:=ZA.mp (h1 m hm)
 obtain ⟨a,b,rfl⟩:=cW hw
 obtain ⟨c,d,rfl⟩:=cW hv
 have e1:a=m:=e1
 have e2:d=m:=e2
 subst e1
 subst e2
 obtain ⟨k1,k2⟩:=(b9 s).mp hw
 obtain ⟨k3,k4⟩:=(b9 s).mp hv
 have fb:az.f d < az.f b:=by
  have nb:=mn b (h2 b (ZA.mpr ⟨_,hw,rfl⟩))
  have ne:=zH s k1.1 k1.2.1 k1.2.2.1
  have:¬ az.f b < az.f d:=fun z=>nb ((s.f k1.2.1 k1.1).mpr z)
  omega
 have fc:az.f d < az.f c:=by
  have nb:=mn c (ZA.mpr ⟨_,hv,rfl⟩)
  have ne:=zH s k3.1 k3.2.1 k3.2.2.1
  have:¬ az.f c < az.f d:=fun z=>nb ((s.f k3.1 k3.2.1).mpr z)
  omega
 exact CJ fb fc (bh.f s k1.1) (k1.2.2.2 c k3.1).1 k2 k4
theorem HC (s:dZ Q) (bh:ME Q p) {a0 b0:Pl} (h0: [a0,b0]∈cM Q p):(∃ a b,(bE Q a b∧tw a b p < 0)∧∀ c,bE Q c a→0≤tw c a p)∧∃ a b,(bE Q a b∧tw a b p < 0)∧∀ c,bE Q b c→0≤tw b c p:=by
 have lens:((cM Q p).map w5).length=((cM Q p).map zJ).length:=by rw [Y4,Y4]
 constructor
 ·apply Y3
  intro no
  have sub:∀ x∈(cM Q p).map w5,x∈(cM Q p).map zJ:=fun x hx=>by
   obtain ⟨w,hw,rfl⟩:=ZA.mp hx
   obtain ⟨a,b,rfl⟩:=cW hw
   apply Y3
   intro n
   refine no ⟨a,b,(b9 s).mp hw,fun c hc=>Y3 fun z=>n ?_⟩
   exact ZA.mpr ⟨[c,a],(b9 s).mpr ⟨hc,by omega⟩,rfl⟩
  exact D4 s bh h0 sub (By (zK s) lens sub)
 ·apply Y3
  intro no
  have sub:∀ x∈(cM Q p).map zJ,x∈(cM Q p).map w5:=fun x hx=>by
   obtain ⟨w,hw,rfl⟩:=ZA.mp hx
   obtain ⟨a,b,rfl⟩:=cW hw
   apply Y3
   intro n
   refine no ⟨a,b,(b9 s).mp hw,fun c hc=>Y3 fun z=>n ?_⟩
   exact ZA.mpr ⟨[b,c],(b9 s).mpr ⟨hc,by omega⟩,rfl⟩
  exact D4 s bh h0 (By (CM s) lens.symm sub) sub
def Vu (p:Pl) (w:List Pl):List (List Pl):=[[zJ w,w5 w],[w5 w,p],[p,zJ w]]
def newD (Q:List Pl) (p:Pl):List (List Pl):=(cM Q p).flatMap (Vu p)
theorem gH (s:dZ Q) {w:List Pl}:w∈newD Q p↔∃ a b,(bE Q a b∧tw a b p < 0)∧(w= [b,a]∨w= [a,p]∨w= [p,b]):=by
 unfold newD
 rw [ZS]
 constructor
 ·rintro ⟨v,hv,hw⟩
  obtain ⟨a,b,rfl⟩:=cW hv
  refine ⟨a,b,(b9 s).mp hv,?_⟩
  have hw:w∈[[b,a],[a,p],[p,b]]:=hw
  simpa using hw
 ·rintro ⟨a,b,h,hw⟩
  refine ⟨[a,b],(b9 s).mpr h,?_⟩
  show w∈[[b,a],[a,p],[p,b]]
  simpa using hw
theorem bA {a b c d:Pl} (h: [a,b]= [c,d]):a=c∧b=d:=by
 injection h with h1 h
 injection h with h2 _
 exact ⟨h1,h2⟩
theorem Fg (s:dZ (Q ++ [p])):(newD Q p).Nodup:=by
 have so:=s.old
 have np:∀ {x y},bE Q x y→x≠p∧y≠p:=fun h=>⟨fun z=>s.out (z▸h.1),fun z=>s.out (z▸h.2.1)⟩
 unfold newD
 refine List.pairwise_flatMap.mpr ⟨fun w hw=>?_,?_⟩
 ·obtain ⟨a,b,rfl⟩:=cW hw
  obtain ⟨h1,_⟩:=(b9 so).mp hw
  obtain ⟨n1,n2⟩:=np h1
  show ([[b,a],[a,p],[p,b]]:List (List Pl)).Nodup
  simp only [Zp,Y6,Zt,or_false,not_or,not_false_eq_true,abd,and_true]
  refine ⟨⟨fun z=>n1 (bA z).2,fun z=>n2 (bA z).1⟩,fun z=>n1 (bA z).1⟩
 ·refine (qu so).imp_of_mem fun {w v} hw hv ne x hx y hy e=>?_
  subst e
  obtain ⟨a,b,rfl⟩:=cW hw
  obtain ⟨c,d,rfl⟩:=cW hv
  obtain ⟨h1,h2⟩:=(b9 so).mp hw
  obtain ⟨h3,h4⟩:=(b9 so).mp hv
  obtain ⟨n1,n2⟩:=np h1
  obtain ⟨n3,n4⟩:=np h3
  have hx:x∈[[b,a],[a,p],[p,b]]:=hx
  have hy:x∈[[d,c],[c,p],[p,d]]:=hy
  simp only [Y6,Zt,or_false] at hx hy
  rcases hx with rfl | rfl | rfl
  ·rcases hy with e | e | e
   ·obtain ⟨rfl,rfl⟩:=bA e
    exact ne rfl
   ·exact n1 (bA e).2
   ·exact n2 (bA e).1
  ·rcases hy with e | e | e
   ·exact n3 (bA e).2.symm
   ·have e:=(bA e).1
    subst e
    rw [yJ so h1 h3 h2 h4] at ne
    exact ne rfl
   ·exact n1 (bA e).1
  ·rcases hy with e | e | e
   ·exact n4 (bA e).1.symm
   ·exact n3 (bA e).1.symm
   ·have e:=(bA e).2
    subst e
    rw [Bv so h1 h3 h2 h4] at ne
    exact ne rfl
structure zL (Q:List Pl) (D:List (List Pl)):Prop where
 nd:D.Nodup
 vd:∀ w∈D,∃ a b,w= [a,b]∧a∈Q∧b∈Q
 bare:∀ a b,[a,b]∈D→[b,a]∉D→bE Q a b
 qv:∀ a b,bE Q a b→[b,a]∉D
 has:∀ a b,bE Q a b→bE Q b a∨[a,b]∈D
theorem zL.nil {Q:List Pl} (h:Q.length < 2):zL Q [] where
 nd:= .nil
 vd:=fun w hw=>by cases hw
 bare:=fun a b hw=>by cases hw
 qv:=fun a b hw=>by simp
 has:=fun a b hw=>absurd (rf hw) (by omega)
theorem yL {a b:Pl} (h1:bE Q a b) (h2:bE Q b a):Flat Q:=jw h1.2.2.1 fun q hq=>by
 have z1:=(h1.2.2.2 q hq).1
 have z2:=(h2.2.2.2 q hq).1
 have:=eK a b q
 omega
theorem yM (s:dZ Q) (fl:Flat Q) {a b:Pl} (h:bE Q a b):bE Q b a:=pP s fl h.2.1 h.1 (Ne.symm h.2.2.1) fun q hq k=>eU s h hq (fl a h.1 b h.2.1 q hq) (by omega)
theorem zL.step {D D':List (List Pl)} (s:dZ (Q ++ [p])) (c:zL Q D) (e:D'.Perm (D ++ newD Q p)):zL (Q ++ [p]) D':=by
 have so:=s.old
 have np:∀ {x y},bE Q x y→x≠p∧y≠p:=fun h=>⟨fun z=>s.out (z▸h.1),fun z=>s.out (z▸h.2.1)⟩
 have mem:∀ w,w∈D'↔w∈D∨w∈newD Q p:=fun w=>by rw [e.mem_iff,Zq]
 have pD:∀ a b,[a,b]∈D→a∈Q∧b∈Q:=fun a b h=>by
  obtain ⟨u,v,e,h1,h2⟩:=c.vd _ h
  obtain ⟨rfl,rfl⟩:=bA e
  exact ⟨h1,h2⟩
 refine ⟨?_,?_,?_,?_,?_⟩
 ·refine e.nodup_iff.mpr (aan.mpr ⟨c.nd,Fg s,fun w hw v hv z=>?_⟩)
  subst z
  obtain ⟨a,b,⟨h1,h2⟩,h3⟩:=(gH so).mp hv
  rcases h3 with rfl | rfl | rfl
  ·exact c.qv a b h1 hw
  ·exact s.out (pD _ _ hw).2
  ·exact s.out (pD _ _ hw).1
 ·intro w hw
  rcases (mem w).mp hw with h | h
  ·obtain ⟨a,b,e,h1,h2⟩:=c.vd w h
   exact ⟨a,b,e,Zk _ h1,Zk _ h2⟩
  ·obtain ⟨a,b,⟨h1,h2⟩,h3⟩:=(gH so).mp h
   have ma:a∈Q ++ [p]:=Zk _ h1.1
   have mb:b∈Q ++ [p]:=Zk _ h1.2.1
   have mp:p∈Q ++ [p]:=by simp
   rcases h3 with rfl | rfl | rfl
   ·exact ⟨_,_,rfl,mb,ma⟩
   ·exact ⟨_,_,rfl,ma,mp⟩
   ·exact ⟨_,_,rfl,mp,mb⟩
 ·intro u v hw hb
  have TX: [v,u]∉D:=fun z=>hb ((mem _).mpr (.inl z))
  have Su: [v,u]∉newD Q p:=fun z=>hb ((mem _).mpr (.inr z))
  rcases (mem _).mp hw with h | h
  ·have sd:=c.bare u v h TX
   refine (i0 s sd.1 sd.2.1).mpr ⟨sd,Y3 fun z=>Su ?_⟩
   exact (gH so).mpr ⟨u,v,⟨sd,by omega⟩,.inl rfl⟩
  ·obtain ⟨a,b,⟨h1,h2⟩,h3⟩:=(gH so).mp h
   rcases h3 with h3 | h3 | h3
   ·obtain ⟨rfl,rfl⟩:=bA h3
    rcases c.has v u h1 with k | k
    ·exact (i0 s k.1 k.2.1).mpr ⟨k,by have:=eK v u p;omega⟩
    ·exact absurd k TX
   ·obtain ⟨rfl,rfl⟩:=bA h3
    refine vq s h1 h2 fun c hc=>Y3 fun z=>Su ?_
    exact (gH so).mpr ⟨c,u,⟨hc,by omega⟩,.inr (.inr rfl)⟩
   ·obtain ⟨rfl,rfl⟩:=bA h3
    refine Bw s h1 h2 fun c hc=>Y3 fun z=>Su ?_
    exact (gH so).mpr ⟨v,c,⟨hc,by omega⟩,.inr (.inl rfl)⟩
 ·intro u v sd hw
  rcases (mem _).mp hw with h | h
  ·obtain ⟨mv,mu⟩:=pD _ _ h
   exact c.qv u v ((i0 s mu mv).mp sd).1 h
  ·obtain ⟨a,b,⟨h1,h2⟩,h3⟩:=(gH so).mp h
   rcases h3 with h3 | h3 | h3
   ·obtain ⟨rfl,rfl⟩:=bA h3
    have:=((i0 s h1.1 h1.2.1).mp sd).2
    omega
   ·obtain ⟨rfl,rfl⟩:=bA h3
    have:=(sd.2.2.2 b (Zk _ h1.2.1)).1
    have:=w4 v b u
    omega
   ·obtain ⟨rfl,rfl⟩:=bA h3
    have:=(sd.2.2.2 a (Zk _ h1.1)).1
    have:=sG a u v
    omega
 ·intro u v sd
  by_cases fl:Flat (Q ++ [p])
  ·exact .inl (yM s fl sd)
  ·right
   obtain ⟨a0,b0,h0,s0⟩:=yK s fl
   obtain ⟨⟨a1,b1,k1,Vv⟩,a2,b2,k2,Vw⟩:=HC so s.CL ((b9 so).mpr ⟨h0,s0⟩)
   rcases fF sd.1 with mu | rfl
   ·rcases fF sd.2.1 with mv | rfl
    ·obtain ⟨Sv,ge⟩:=(i0 s mu mv).mp sd
     rcases c.has u v Sv with k | k
     ·have fq:=yL Sv k
      have nz:tw u v p≠0:=fun z=>fl (jw Sv.2.2.1 fun q hq=>by
       rcases fF hq with hq | rfl
       ·exact fq u mu v mv q hq
       ·exact z)
      exact (mem _).mpr (.inr ((gH so).mpr ⟨v,u,⟨k,by have:=eK u v p;omega⟩,.inl rfl⟩))
     ·exact (mem _).mpr (.inl k)
    ·have:=HB s sd (vq s k1.1 k1.2 Vv)
     subst this
     exact (mem _).mpr (.inr ((gH so).mpr ⟨u,b1,k1,.inr (.inl rfl)⟩))
   ·have:=KW s sd (Bw s k2.1 k2.2 Vw)
    subst this
    exact (mem _).mpr (.inr ((gH so).mpr ⟨a2,v,k2,.inr (.inr rfl)⟩))
end
end L3
namespace L3
theorem sH {v w x y:Pl} (h: [v,w].Perm [x,y]):(v=x∧w=y)∨(v=y∧w=x):=by
 have m:v∈[x,y]:=h.mem_iff.mp (by simp)
 simp only [Y6,Zt,or_false] at m
 rcases m with rfl | rfl
 ·have:=List.Perm.cons_inv h
  exact .inl ⟨rfl,by simpa using this⟩
 ·have:=List.Perm.cons_inv (h.trans (List.Perm.swap v x []))
  exact .inr ⟨rfl,by simpa using this⟩
theorem JU {a b p:Pl} (h:tw a b p < 0):(gT (G2 a b p)).Perm [[b,a],[a,p],[p,b]]:=by
 obtain ⟨⟨u,v,w,e,_,_,pos⟩,pm⟩:=zo (a:=a) (b:=b) (c:=p) (by omega)
 rw [e] at pm ⊢
 have m:u∈[a,b,p]:=pm.mem_iff.mp (by simp)
 simp only [Y6,Zt,or_false] at m
 rcases m with rfl | rfl | rfl
 ·rcases sH (List.Perm.cons_inv pm) with ⟨rfl,rfl⟩ | ⟨rfl,rfl⟩
  ·omega
  ·show ([[u,v],[v,w],[w,u]]:List (List Pl)).Perm [[w,u],[u,v],[v,w]]
   exact Zz (l₁:=[[u,v],[v,w]]) (l₂:=[[w,u]])
 ·rcases sH (List.Perm.cons_inv (pm.trans (List.Perm.swap u a [p]))) with ⟨rfl,rfl⟩ | ⟨rfl,rfl⟩
  ·exact .refl _
  ·have:=sG w u v
   omega
 ·rcases sH (List.Perm.cons_inv (pm.trans (Zz (l₁:=[a,b]) (l₂:=[u])))) with ⟨rfl,rfl⟩ | ⟨rfl,rfl⟩
  ·have:=w4 v w u
   omega
  ·show ([[u,v],[v,w],[w,u]]:List (List Pl)).Perm [[v,w],[w,u],[u,v]]
   exact Zz (l₁:=[[u,v]]) (l₂:=[[v,w],[w,u]])
def BA (p:Pl) (w:List Pl):List Pl:=G2 (w5 w) (zJ w) p
def cH (qs:List Pl) (k:Nat):Pl:=qs.getD k ⟨0,0⟩
def lV (qs:List Pl):Nat→List (List Pl)
 | 0=>[]
 | k+1=>lV qs k ++ (cM (qs.take k) (cH qs k)).map (BA (cH qs k))
theorem HE (xs ys:List (List Pl)):bR (xs ++ ys)=bR xs ++ bR ys:=aaA
theorem yN {α β:Type} {f g:α→List β}:∀ {l:List α},(∀ x∈l,(f x).Perm (g x))→(l.flatMap f).Perm (l.flatMap g)
 | [],_=> .refl _
 | a :: l,h=>by
   rw [aad,aad]
   exact (h a (by simp)).append (yN fun x hx=>h x (Y5 _ hx))
theorem HF {Q:List Pl} {p:Pl} (s:dZ Q):(bR ((cM Q p).map (BA p))).Perm (newD Q p):=by
 unfold bR newD
 rw [List.flatMap_map]
 refine yN fun w hw=>?_
 obtain ⟨a,b,rfl⟩:=cW hw
 exact JU ((b9 s).mp hw).2
theorem pR {qs:List Pl} {k:Nat} (h:k < qs.length):qs.take (k+1)=qs.take k ++ [cH qs k]:=by
 rw [Z7,Y7 h]
 unfold cH
 rw [Zd,Y7 h]
 rfl
theorem dZ.take {qs:List Pl} (s:dZ qs) (k:Nat):dZ (qs.take k):=⟨s.1.sublist (aaY _ _),fun q hq=>s.2 q (ZZ hq)⟩
theorem D5 {qs:List Pl} (s:dZ qs):∀ k,k≤qs.length→zL (qs.take k) (bR (lV qs k))
 | 0,_=>zL.nil (by simp)
 | k+1,h=>by
   have st:=s.take (k+1)
   rw [pR (by omega)] at st ⊢
   refine zL.step st (D5 s k (by omega)) ?_
   show (bR (lV qs k ++ _)).Perm _
   rw [HE]
   exact (List.Perm.refl _).append (HF st.old)
theorem JV {a b p q:Pl} (h:tw a b p < 0) (hq:q=a∨q=b∨q=p):q∈G2 a b p:=(zo (a:=a) (b:=b) (c:=p) (by omega)).2.mem_iff.mpr (by simpa using hq)
theorem vt {qs:List Pl} (s:dZ qs):∀ k,k≤qs.length→¬ Flat (qs.take k)→∀ q∈qs.take k,∃ t∈lV qs k,q∈t
 | 0,_,nf,_,_=>absurd (iZ (by simp)) nf
 | k+1,h,nf,q,hq=>by
   have st:=s.take (k+1)
   rw [pR (by omega)] at st nf hq
   have so:=st.old
   have put:∀ a b,bE (qs.take k) a b→tw a b (cH qs k) < 0→(q=a∨q=b∨q=cH qs k)→∃ t∈lV qs (k+1),q∈t:=fun a b h1 h2 e=>
    ⟨BA (cH qs k) [a,b],Zy _ (ZA.mpr ⟨[a,b],(b9 so).mpr ⟨h1,h2⟩,rfl⟩),JV h2 e⟩
   rcases fF hq with hq | rfl
   ·by_cases fl:Flat (qs.take k)
    ·obtain ⟨r,hr,ne⟩:∃ r∈qs.take k,r≠q:=by
      apply Y3
      intro no
      refine nf (Bx ?_)
      have:=sD (l:=qs.take k) (m:=[q]) (so.1.imp fun h=>lJ h) (fun x hx=>by
       apply Y3
       intro z
       exact no ⟨x,hx,fun e=>z (by rw [e];simp)⟩)
      rw [Zh]
      simp at this ⊢
      omega
     obtain ⟨c,hc,nc,_,PK⟩:=zI so hq hr ne
     have sd:bE (qs.take k) q c:=pP so fl hq hc (Ne.symm nc) fun z hz w=>PK z hz w
     have nz:tw q c (cH qs k)≠0:=fun z=>nf (jw (Ne.symm nc) fun r hr=>by
      rcases fF hr with hr | rfl
      ·exact fl q hq c hc r hr
      ·exact z)
     rcases aag nz with z | z
     ·exact put q c sd z (.inl rfl)
     ·exact put c q (yM so fl sd) (by have:=eK q c (cH qs k);omega) (.inr (.inl rfl))
    ·obtain ⟨t,ht,m⟩:=vt s k (by omega) fl q hq
     exact ⟨t,Zk _ ht,m⟩
   ·obtain ⟨a,b,h1,h2⟩:=yK st nf
    exact put a b h1 h2 (.inr (.inr rfl))
theorem sub_len {α:Type} [DecidableEq α] {l m:List α} (nd:l.Nodup) (sub:∀ x∈l,x∈m):l.length≤m.length:=by
 induction l generalizing m with
 | nil=>simp
 | cons a l ih=>
   obtain ⟨h1,h2⟩:=Zp.mp nd
   have ma:=sub a (Zl ..)
   have:=ih (m:=m.erase a) h2 fun x hx=>(abN (show x≠a from fun e=>h1 (e▸hx))).mpr (sub x (Y5 _ hx))
   rw [abn ma] at this
   have:0 < m.length:=abE ma
   rw [Zj]
   omega
theorem split_len {α:Type} (f:α→Bool):∀ l:List α,l.length=(l.filter f).length+(l.filter (fun v=>!f v)).length
 | []=>rfl
 | a :: l=>by
   have ih:=split_len f l
   rw [aaj,aaj,Zj]
   cases f a with
   | true=>simp;omega
   | false=>simp;omega
theorem D6 {Q:List Pl} {p:Pl} (s:dZ (Q ++ [p])):(SL (Q ++ [p])).length+(cM Q p).length≤(SL Q).length+2:=by
 have so:=s.old
 obtain ⟨I,lI,hI⟩:∃ I:List (List Pl),I.length≤1∧∀ u,bE (Q ++ [p]) u p→[u,p]∈I:=by
  by_cases h:∃ u,bE (Q ++ [p]) u p
  ·obtain ⟨u,hu⟩:=h
   exact ⟨[[u,p]],by simp,fun v hv=>by rw [HB s hv hu];simp⟩
  ·exact ⟨[],by simp,fun v hv=>absurd ⟨v,hv⟩ h⟩
 obtain ⟨O,lO,hO⟩:∃ O:List (List Pl),O.length≤1∧∀ u,bE (Q ++ [p]) p u→[p,u]∈O:=by
  by_cases h:∃ u,bE (Q ++ [p]) p u
  ·obtain ⟨u,hu⟩:=h
   exact ⟨[[p,u]],by simp,fun v hv=>by rw [KW s hv hu];simp⟩
  ·exact ⟨[],by simp,fun v hv=>absurd ⟨v,hv⟩ h⟩
 have sp:=split_len (B0 p) (SL Q)
 have:=sub_len (l:=SL (Q ++ [p])) (m:=(SL Q).filter (fun v=>!B0 p v) ++ (I ++ O)) (oG s) (fun w hw=>by
  obtain ⟨a,b,rfl⟩:=oF hw
  have sd:=(cV s).mp hw
  rcases fF sd.1 with ma | rfl
  ·rcases fF sd.2.1 with mb | rfl
   ·obtain ⟨h1,h2⟩:=(i0 s ma mb).mp sd
    refine Zk _ (Zf.mpr ⟨(cV so).mpr h1,?_⟩)
    show (!decide (tw a b p < 0))=true
    rw [decide_eq_false (by omega)]
    rfl
   ·exact Zy _ (Zk _ (hI a sd))
  ·exact Zy _ (Zy _ (hO b sd)))
 rw [Zh,Zh] at this
 unfold cM
 omega
theorem zM {qs:List Pl} (s:dZ qs):∀ k,k≤qs.length→(lV qs k).length+(SL (qs.take k)).length≤2*k
 | 0,_=>by rw [oE (by simp)];simp [lV]
 | k+1,h=>by
   have st:=s.take (k+1)
   have ih:=zM s k (by omega)
   rw [pR (by omega)] at st ⊢
   have:=D6 st
   show (lV qs k ++ _).length+_≤_
   rw [Zh,Y4]
   omega
theorem zN {qs:List Pl} (s:dZ qs):∀ k,k≤qs.length→∀ t∈lV qs k,jr qs t
 | 0,_,t,ht=>by cases ht
 | k+1,h,t,ht=>by
   rcases Zq.mp ht with ht | ht
   ·exact zN s k (by omega) t ht
   ·obtain ⟨w,hw,rfl⟩:=ZA.mp ht
    obtain ⟨a,b,rfl⟩:=cW hw
    obtain ⟨h1,h2⟩:=(b9 (s.take k)).mp hw
    obtain ⟨h3,h4⟩:=zo (a:=a) (b:=b) (c:=cH qs k) (by omega)
    refine ⟨h3,fun q hq=>?_⟩
    have:=h4.mem_iff.mp hq
    simp only [Y6,Zt,or_false] at this
    rcases this with rfl | rfl | rfl
    ·exact ZZ h1.1
    ·exact ZZ h1.2.1
    ·unfold cH
     rw [Zd,Y7 (by omega)]
     exact Z4 _
theorem zL.perm {Q:List Pl} {D D':List (List Pl)} (c:zL Q D) (e:D'.Perm D):zL Q D' where
 nd:=e.nodup_iff.mpr c.nd
 vd:=fun w hw=>c.vd w (e.mem_iff.mp hw)
 bare:=fun a b h1 h2=>c.bare a b (e.mem_iff.mp h1) fun z=>h2 (e.mem_iff.mpr z)
 qv:=fun a b h1 h2=>c.qv a b h1 (e.mem_iff.mp h2)
 has:=fun a b h=>(c.has a b h).imp id fun z=>e.mem_iff.mpr z
end L3
namespace L3
def Vx (a b c:Pl):Prop:=aL (lo a b) c∧aL c (hi a b)∧tw a b c=0
instance (a b c:Pl):Decidable (Vx a b c):=inferInstanceAs (Decidable (_∧_))
def Vy (a b c d:Pl):Prop:=(tw a b c).sign*(tw a b d).sign= -1∧(tw c d a).sign*(tw c d b).sign= -1
instance (a b c d:Pl):Decidable (Vy a b c d):=inferInstanceAs (Decidable (_∧_))
end L3
namespace L3
open PySem L2
end L3
namespace PySem.SetTable
def Sx:Nat→SetTable→Probe→Probe
 | 0,_,p=>p
 | k+1,t,p=>Sx k t (t.advance p)
def MF (mask:Nat):Prop:=mask=7∨mask=31∨mask=127∨mask=511
def Good (t:SetTable) (n:Nat):Prop:=t.place.size=n∧t.dummies= #[]∧MF t.mask∧n*5 < t.mask*3
def live (mask:Nat) (owner:Array (Option Nat)):List (Nat ×Nat):=(List.range (mask+1)).filterMap fun j=>(owner.getD j none).map (j,·)
def Own (mask:Nat) (owner:Array (Option Nat)) (k:Nat):Prop:=owner.size=mask+1∧(live mask owner).length=k∧∀ (j v:Nat),owner[j]?=some (some v)→v < k
end PySem.SetTable
namespace PySem
open SetTable
structure gI (prog:Program) (w:World) (κ:Type) where
 is:Heap→κ→Addr→Prop
 hash:κ→Int
 draws:κ→Nat
 room:Around→Prop
 typ:∀ {s:Shared} {k:κ} {a:Addr},is s.heap k a→s.TypeIs (.ref a) "tuple"
 keeps:∀ {h h':Heap} {k:κ} {a:Addr},is h k a→(∀ b o,h.get? b=some o→o.cls= .type "tuple"→h'.get? b=some o)→is h' k a
 pyHash:∀ {A:Around} {E:Value→Shared→Prop} {s:Shared} {k:κ} {a:Addr} {Q:Int→Shared→Prop},room A→is s.heap k a→Q (hash k) { s with toks:=s.toks+draws k }→wpAny (model prog w) A (pyHash (.ref a)) Q E s
 other:∀ {A:Around} {E:Value→Shared→Prop} {s:Shared} {k l:κ} {a b:Addr} {Q:Bool→Shared→Prop},room A→is s.heap k a→is s.heap l b→k≠l→Q false s→wpAny (model prog w) A (eqBool (.ref a) (.ref b)) Q E s
 quiet:∀ {A:Around} {E:Value→Shared→Prop} {s:Shared} {k:κ} {a:Addr} {Q:Bool→Shared→Prop},is s.heap k a→Q true s→wpAny (model prog w) A (eqIsQuiet 8 (.ref a)) Q E s
 D7:∀ {A:Around} {E:Value→Shared→Prop} {s:Shared} {k:κ} {a:Addr} {Q:Bool→Shared→Prop},is s.heap k a→Q false s→wpAny (model prog w) A (ofAClassStatement 8 (.ref a)) Q E s
 KY:∀ {A:Around} {E:Value→Shared→Prop} {s:Shared} {k:κ} {a:Addr} {Q:Bool→Shared→Prop},is s.heap k a→Q true s→wpAny (model prog w) A (hashByValue 8 (.ref a)) Q E s
section
variable {prog:Program} {w:World} {κ:Type} {T:gI prog w κ} {A:Around} {E:Value→Shared→Prop} {s:Shared}
end
end PySem
namespace PySem
open SetTable
section
variable {prog:Program} {w:World} {κ:Type} {T:gI prog w κ} {A:Around} {R:Result→Shared→Prop} {I:Addr} {fp wr:List Addr} {G:Array GenState→Array GenState→Prop} {n:Nat} {P:Nat→Value→Prop} {St:Nat→Shared→Prop}
end
section
variable {prog:Program} {w:World} {κ:Type} {T:gI prog w κ} {A:Around} {E:Value→Shared→Prop} {s:Shared}
end
end PySem
namespace PySem
open SetTable
section
variable {prog:Program} {w:World} {A:Around} {E:Value→Shared→Prop} {s:Shared}
end
end PySem
namespace L3
open PySem PySem.Spec PyProof.Rows L2
section
variable {X:Cx} {pos:Pos}
end
end L3
namespace PySem
open SetTable
section
variable (prog:Program) (w:World)
inductive zO (h:Heap):List (List Int)→List Value→Prop
 | nil:zO h [] []
 | cons {k:List Int} {b:Addr} {ks:List (List Int)} {vs:List Value}:IsTupleKey (intKind prog w) h k b→zO h ks vs→zO h (k :: ks) (.ref b :: vs)
end
section
variable {prog:Program} {w:World}
variable {A:Around} {E:Value→Shared→Prop} {s:Shared}
end
end PySem
namespace L3
open PySem PySem.Spec PyProof.Rows L2
section
variable {X:Cx} {pos:Pos}
end
end L3
namespace PySem.SetTable
def PL (xs:Array Nat):Prop:= ∀ (i j a b:Nat),i < j→xs[i]?=some a→xs[j]?=some b→a < b
def Vz (t:SetTable) (j:Nat):Prop:= ∃ i:Nat,t.place[i]?=some j
def Way (t:SetTable) (VA:Nat→Prop) (h:Int) (j:Nat):Prop:= ∃ K,K < 10*turns t.mask∧(Sx K t (t.probeStart h)).j=j∧∀ m,m < K→VA (Sx m t (t.probeStart h)).j
structure Reach (t:SetTable) (es:Array (Int ×Value)):Prop where
 rise:PL t.place
 at_:∀ (i:Nat) (e:Int ×Value),es[i]?=some e→∃ j,t.place[i]?=some j∧Way t (Vz t) e.1 j
def Sy (owner:Array (Option Nat)) (x:Nat):Prop:= ∃ v,owner[x]?=some (some v)
structure Laid (t:SetTable) (owner:Array (Option Nat)) (done:List Int):Prop where
 own:Own t.mask owner done.length
 way:∀ (j v:Nat),owner[j]?=some (some v)→∃ h,done[v]?=some h∧Way t (Sy owner) h j
 all:∀ v,v < done.length→∃ j:Nat,owner[j]?=some (some v)
end PySem.SetTable
namespace PySem
open SetTable
structure QA {prog:Program} {w:World} {κ:Type} (T:gI prog w κ):Prop where
 same:∀ {A:Around} {E:Value→Shared→Prop} {s:Shared} {k:κ} {a b:Addr} {Q:Bool→Shared→Prop},T.room A→T.is s.heap k a→T.is s.heap k b→Q true s→wpAny (model prog w) A (eqBool (.ref a) (.ref b)) Q E s
section
variable {prog:Program} {w:World} {κ:Type} {T:gI prog w κ} {A:Around} {E:Value→Shared→Prop} {s:Shared}
end
end PySem
namespace PySem
open SetTable
section
variable {prog:Program} {w:World} {κ:Type} {T:gI prog w κ} {A:Around} {R:Result→Shared→Prop} {I:Addr} {fp wr:List Addr} {G:Array GenState→Array GenState→Prop} {n:Nat} {P:Nat→Value→Prop} {St:Nat→Shared→Prop}
end
section
variable {prog:Program} {w:World} {κ:Type} {T:gI prog w κ} {A:Around} {E:Value→Shared→Prop} {s:Shared}
end
end PySem
namespace PySem
open SetTable
namespace F
end F
structure VB (w:World) (h:Heap) (S:Addr) (es:Array (Int ×Value)) (ep:Nat) (t:SetTable):Prop where
 at':∃ o,h.get? S=some o∧o.ExactSet∧o.data= .set es ep t
 good:t.Good es.size
 rise:PL t.place
 led:t.led=!(w.params.followText "set-order")
 plain:t.plain=true
section
variable {prog:Program} {w:World} {A:Around} {E:Value→Shared→Prop} {s:Shared} {I S:Addr} {es:Array (Int ×Value)} {ep slot i:Nat} {t:SetTable}
end
end PySem
namespace PySem
open SetTable
section
variable {prog:Program} {w:World} {A:Around} {E:Value→Shared→Prop} {s:Shared} {S:Addr} {es:Array (Int ×Value)} {ep:Nat} {t:SetTable}
end
end PySem
namespace PySem
open SetTable
def gI.only {prog:Program} {w:World} {κ:Type} (T:gI prog w κ) (p:Addr→Prop):gI prog w κ where
 is:=fun h k b=>T.is h k b∧p b
 hash:=T.hash
 draws:=T.draws
 room:=T.room
 typ:=fun x=>T.typ x.1
 keeps:=fun x k=>⟨T.keeps x.1 k,x.2⟩
 pyHash:=fun hu hk h=>T.pyHash hu hk.1 h
 other:=fun hu hx hy ne h=>T.other hu hx.1 hy.1 ne h
 quiet:=fun hk h=>T.quiet hk.1 h
 D7:=fun hk h=>T.D7 hk.1 h
 KY:=fun hk h=>T.KY hk.1 h
end PySem
namespace L3
open PySem PySem.Spec PyProof.Rows L2
end L3
namespace L3
open PySem PySem.Spec PyProof.Rows L2
section
variable {X:Cx} {pos:Pos}
end
end L3
namespace PySem
end PySem
namespace L3
open PySem PySem.Spec PyProof.Rows L2
section
variable {X:Cx} {pos:Pos} {a b:Expr} {ta tb:dI}
end
end L3
namespace L3
open PySem PySem.Spec PyProof.Rows L2
section
variable {X:Cx}
def MG:R3:=fun d e M Q=> ∃ a b a1 a2 b1 b2 x1 x2 y1 y2,d= .ref a∧e= .ref b∧M a=some (.lst [.ref a1,.ref a2])∧M b=some (.lst [.ref b1,.ref b2])∧M a1=some (.lst x1)∧M a2=some (.lst x2)∧M b1=some (.lst y1)∧M b2=some (.lst y2)∧
 a1≠b1∧a2≠b2∧x1.all (plain 9)=true∧x2.all (plain 9)=true∧y1.all (plain 9)=true∧y2.all (plain 9)=true∧Q (.bl (!(dj x1 y1 && dj x2 y2))) M
theorem JW (hu:X.A.units+64 < cLine):qH X (compareOp .NotEq) MG:=by
 constructor
 intro pins s σ H M x y d e v u Q I rm rx ry dx dy hx
 obtain ⟨a,b,a1,a2,b1,b2,x1,x2,y1,y2,e1,e2,ha,hb,h1,h2,h3,h4,n1,n2,p1,p2,p3,p4,q⟩:=hx
 subst e1;subst e2
 obtain rfl:=aK.mp dx
 obtain rfl:=aK.mp dy
 obtain rfl:v=Value.ref a:=rx
 obtain rfl:u=Value.ref b:=ry
 obtain ⟨zs,g1,g2⟩:=rm.lst ha
 obtain ⟨ws,g3,g4⟩:=rm.lst hb
 obtain ⟨z1,z2,rfl,k1,k2⟩:=qN g2
 obtain ⟨w1,w2,rfl,k3,k4⟩:=qN g4
 obtain rfl:=aK.mp k1
 obtain rfl:=aK.mp k2
 obtain rfl:=aK.mp k3
 obtain rfl:=aK.mp k4
 obtain ⟨its,rv,pl,hz⟩:=I.list (iD.of (K:=X.K) g1)
 obtain ⟨its2,rL,FN,hz2⟩:=I.list (iD.of (K:=X.K) g3)
 obtain ⟨u1,u2,rfl,r1,r2⟩:=vals2 rv
 obtain ⟨v1,v2,rfl,r3,r4⟩:=vals2 rL
 obtain rfl:u1=Value.ref a1:=r1
 obtain rfl:u2=Value.ref a2:=r2
 obtain rfl:v1=Value.ref b1:=r3
 obtain rfl:v2=Value.ref b2:=r4
 have c1:=lP (A:=X.A.in1) I rm (by show X.A.units+1+12 < cLine;omega) n1 h1 h3 p1 p3
 have c2:=lP (A:=X.A.in1) I rm (by show X.A.units+1+12 < cLine;omega) n2 h2 h4 p2 p4
 refine SeqAt.RcNeAt.lists (A:=X.A) (s:=s) (e:=fun j=>if j=0 then dj x1 y1 else dj x2 y2) pl.isList FN.isList rfl (by omega) ?_ _ _ _ _ ⟨.bl _,H,I,rfl,aH rm (bB.mpr rfl) ?_⟩
 ·intro j hj1 hj2
  match j,hj1,hj2 with
  | 0,_,_=>exact c1
  | 1,_,_=>exact c2
 ·have e:(List.range #[Value.ref a1,Value.ref a2].size).all (fun j=>if j=0 then dj x1 y1 else dj x2 y2)=(dj x1 y1 && dj x2 y2):=by
   simp [List.range,List.range.loop]
  rw [e]
  exact q
end
end L3
namespace HT
open PySem PyProof.Rows
open PySem.SeqAt
open PySem.AutoSeq1 (wpAny_loadPart')
open PySem.MeetsSeq PySem.MeetsSeq2 PySem.MeetsSeq3
end HT
namespace L3
open PySem PySem.Spec PyProof.Rows L2
section
variable {X:Cx}
end
end L3
namespace L3
structure Pt where
 X:Int
 Y:Int
 N:Int
def hw (a b:Pl) (x:Pt):Int:=(b.x - a.x)*(x.Y - x.N*a.y) - (b.y - a.y)*(x.X - x.N*a.x)
def ny (w:Way) (a:Pl) (x:Pt):Int:=x.N*w.f a - (w.al*x.X+w.be*x.Y)
theorem jx (a b:Pl) (x:Pt):hw b a x= -hw a b x:=by unfold hw;grind
theorem MH (a b c:Pl) (x:Pt):hw a b x+hw b c x+hw c a x=x.N*tw a b c:=by unfold hw tw;grind
theorem HG (w:Way) (a b c:Pl) (x:Pt):hw b c x*ny w a x+hw c a x*ny w b x+hw a b x*ny w c x=0:=by unfold hw ny Way.f;grind
def KZ (w:Way) (x:Pt) (a b:Pl):Int:=if ny w a x≤0∧0 < ny w b x∧0 < hw a b x then 1 else 0
def wn (w:Way) (x:Pt) (a b:Pl):Int:=KZ w x a b - KZ w x b a
theorem D8 (w:Way) (x:Pt) (a b:Pl):wn w x b a= -wn w x a b:=by unfold wn;omega
theorem qw (A α:Int) (h:A≠0):(0 < A→0 < α→0 < A*α)∧(0 < A→α≤0→A*α≤0)∧(A < 0→0 < α→A*α < 0)∧(A < 0→α≤0→0≤A*α)∧(A*α=0→α=0):=
 ⟨fun a b=>ZC a b,fun a b=>Zs (by omega) b,fun a b=>ZY a b,fun a b=>Zo (by omega) b,fun e=>(Zv.mp e).resolve_left h⟩
theorem six {A B C α β γ S:Int} (hA:A≠0) (hB:B≠0) (hC:C≠0) (hS:0 < S) (s:A+B+C=S) (e:A*α+B*β+C*γ=0) (d:¬ (α=0∧β=0∧γ=0)) :
 ((if α≤0∧0 < β∧0 < C then 1 else 0) - (if β≤0∧0 < α∧C < 0 then 1 else 0))+((if β≤0∧0 < γ∧0 < A then 1 else 0) - (if γ≤0∧0 < β∧A < 0 then 1 else 0))+((if γ≤0∧0 < α∧0 < B then 1 else 0) - (if α≤0∧0 < γ∧B < 0 then 1 else 0))=if 0 < C∧0 < A∧0 < B then (1:Int) else 0:=by
 obtain ⟨a1,a2,a3,a4,a5⟩:=qw A α hA
 obtain ⟨b1,b2,b3,b4,b5⟩:=qw B β hB
 obtain ⟨c1,c2,c3,c4,c5⟩:=qw C γ hC
 generalize A*α=P at *
 generalize B*β=Q at *
 generalize C*γ=R at *
 rcases ZU hA with xA | xA <;> rcases ZU hB with xB | xB <;> rcases ZU hC with xC | xC <;>
  by_cases yα:α≤0 <;> by_cases yβ:β≤0 <;> by_cases yγ:γ≤0 <;>
  first
  | (exfalso;omega)
  | (simp only [show ¬ (0 < α)↔α≤0 by omega,show ¬ (0 < β)↔β≤0 by omega,show ¬ (0 < γ)↔γ≤0 by omega, *]
     have nα:(0 < α)↔¬ α≤0:=by omega
     have nβ:(0 < β)↔¬ β≤0:=by omega
     have nγ:(0 < γ)↔¬ γ≤0:=by omega
     have nA:(0 < A)↔¬ A < 0:=by omega
     have nB:(0 < B)↔¬ B < 0:=by omega
     have nC:(0 < C)↔¬ C < 0:=by omega
     simp [nα,nβ,nγ,nA,nB,nC, *] <;> omega)
theorem MI {w:Way} {x:Pt} {a b c:Pl} (hN:0 < x.N) (t:0 < tw a b c) (f:w.f a≠w.f b) (h1:hw a b x≠0) (h2:hw b c x≠0) (h3:hw c a x≠0) :
 wn w x a b+wn w x b c+wn w x c a=if 0 < hw a b x∧0 < hw b c x∧0 < hw c a x then 1 else 0:=by
 have s:hw b c x+hw c a x+hw a b x=x.N*tw a b c:=by rw [← MH a b c x];omega
 have k:=six (α:=ny w a x) (β:=ny w b x) (γ:=ny w c x) h2 h3 h1 (ZC hN t) s (HG w a b c x) (fun ⟨z1,z2,_⟩=>f (by
  have:x.N*w.f a=x.N*w.f b:=by unfold ny at z1 z2;omega
  exact abl (by omega) this))
 have f1:=jx a b x
 have f2:=jx b c x
 have f3:=jx c a x
 have e1:(0 < hw b a x)=(hw a b x < 0):=by rw [f1];exact propext ⟨fun _=>by omega,fun _=>by omega⟩
 have e2:(0 < hw c b x)=(hw b c x < 0):=by rw [f2];exact propext ⟨fun _=>by omega,fun _=>by omega⟩
 have e3:(0 < hw a c x)=(hw c a x < 0):=by rw [f3];exact propext ⟨fun _=>by omega,fun _=>by omega⟩
 unfold wn KZ
 simp only [e1,e2,e3]
 exact k
end L3
namespace L3
def sz (g:List Pl→Int):List (List Pl)→Int
 | []=>0
 | d :: r=>g d+sz g r
theorem HH (g:List Pl→Int):∀ a b:List (List Pl),sz g (a ++ b)=sz g a+sz g b
 | [],b=>by simp [sz]
 | d :: r,b=>by show g d+sz g (r ++ b)=g d+sz g r+sz g b;rw [HH g r b];omega
theorem D9 (g:List Pl→Int) {a b:List (List Pl)} (h:a.Perm b):sz g a=sz g b:=by
 induction h with
 | nil=>rfl
 | cons x _ ih=>show g x+_=g x+_;rw [ih]
 | swap x y l=>show g y+(g x+sz g l)=g x+(g y+sz g l);omega
 | trans _ _ i j=>rw [i,j]
theorem HJ {g:List Pl→Int} {f:List Pl→List Pl}:∀ {l:List (List Pl)},(∀ d∈l,g (f d)= -g d)→sz g (l.map f)= -sz g l
 | [],_=>rfl
 | d :: r,h=>by
   show g (f d)+sz g (r.map f)= -(g d+sz g r)
   rw [HJ fun x hx=>h x (Y5 _ hx),h d (by simp)]
   omega
theorem Ea (g:List Pl→Int) (f:List Pl→Bool):∀ l:List (List Pl),sz g l=sz g (l.filter f)+sz g (l.filter fun v=>!f v)
 | []=>rfl
 | d :: r=>by
   have ih:=Ea g f r
   cases q:f d
   ·rw [abx (by simp [q]),aby (by simp [q])]
    show g d+sz g r=_+(g d+sz g _)
    omega
   ·rw [aby (by simp [q]),abx (by simp [q])]
    show g d+sz g r=g d+sz g _+_
    omega
def wL (w:Way) (x:Pt):List Pl→Int
 | [a,b]=>wn w x a b
 | _=>0
def bk:List Pl→List Pl
 | [a,b]=>[b,a]
 | l=>l
theorem MJ:∀ {u v:List Pl},bk u=bk v→u=v:=by
 have key:∀ u,bk (bk u)=u:=fun u=>by
  match u with
  | []=>rfl
  | [_]=>rfl
  | [_,_]=>rfl
  | _ :: _ :: _ :: _=>rfl
 intro u v h
 rw [← key u,h,key v]
theorem pS {α:Type} [DecidableEq α] {a b:List α} (na:a.Nodup) (nb:b.Nodup) (h:∀ x,x∈a↔x∈b):a.Perm b:=(List.perm_ext_iff_of_nodup na nb).mpr h
theorem JX {D:List (List Pl)} (nd:D.Nodup) (two:∀ d∈D,∃ a b,d= [a,b]) {g:List Pl→Int} (hg:∀ a b,g [b,a]= -g [a,b]):sz g D=sz g (D.filter fun d=>!decide (bk d∈D)):=by
 rw [Ea g (fun d=>decide (bk d∈D)) D]
 have z:sz g (D.filter fun d=>decide (bk d∈D))=0:=by
  have n1:(D.filter fun d=>decide (bk d∈D)).Nodup:=nd.filter _
  have n2:((D.filter fun d=>decide (bk d∈D)).map bk).Nodup:=pQ n1 fun u _ v _ e=>MJ e
  have p:=pS n1 n2 fun d=>by
   rw [Zf,ZA]
   constructor
   ·rintro ⟨h1,h2⟩
    obtain ⟨a,b,rfl⟩:=two d h1
    exact ⟨[b,a],Zf.mpr ⟨of_decide_eq_true h2,decide_eq_true h1⟩,rfl⟩
   ·rintro ⟨e,he,rfl⟩
    obtain ⟨h1,h2⟩:=Zf.mp he
    obtain ⟨a,b,rfl⟩:=two e h1
    exact ⟨of_decide_eq_true h2,decide_eq_true h1⟩
  have e1:=D9 g p
  rw [HJ (f:=bk) fun d hd=>by
   obtain ⟨a,b,rfl⟩:=two d (Zf.mp hd).1
   exact hg a b] at e1
  omega
 rw [z]
 omega
theorem zL.PM {Q:List Pl} {D:List (List Pl)} (s:dZ Q) (nf:¬ Flat Q) (c:zL Q D):(D.filter fun d=>!decide (bk d∈D)).Perm (SL Q):=by
 refine pS (c.nd.filter _) (oG s) fun d=>?_
 rw [Zf]
 constructor
 ·rintro ⟨h1,h2⟩
  obtain ⟨a,b,rfl,_,_⟩:=c.vd d h1
  refine (cV s).mpr (c.bare a b h1 fun z=>?_)
  rw [aa1] at h2
  exact of_decide_eq_false h2 z
 ·intro h
  obtain ⟨a,b,rfl⟩:=oF h
  have h:=(cV s).mp h
  refine ⟨(c.has a b h).resolve_left fun z=>nf (yL h z),?_⟩
  rw [aa1]
  exact decide_eq_false (c.qv a b h)
theorem HK {Q:List Pl} {D:List (List Pl)} (s:dZ Q) (nf:¬ Flat Q) (c:zL Q D) {g:List Pl→Int} (hg:∀ a b,g [b,a]= -g [a,b]):sz g D=sz g (SL Q):=by
 rw [JX c.nd (fun d hd=>let ⟨a,b,e,_⟩:=c.vd d hd;⟨a,b,e⟩) hg]
 exact D9 g (c.PM s nf)
theorem Eb {Q:List Pl} (s:dZ Q) {a b c d:Pl} (h1:bE Q a b) (h2:bE Q c d) (ab:az.f a < az.f b) (cb:az.f c < az.f b) (cd:az.f c < az.f d) (ac:az.f a≤az.f c):a=c∧b=d:=by
 have q1:=(h1.2.2.2 c h2.1).1
 have q2:=(h1.2.2.2 d h2.2.1).1
 have q3:=(h2.2.2.2 a h1.1).1
 have q4:=(h2.2.2.2 b h1.2.1).1
 have e1:=vo az d b a c
 have r1:tw c b a= -tw a b c:=by unfold tw;grind
 rw [r1] at e1
 have m1:0≤(az.f b - az.f c)*tw c d a:=Zi (by omega) q3
 have m2:(az.f d - az.f c)* -tw a b c≤0:=Zs (by omega) (by omega)
 have m3:(az.f a - az.f c)*tw c d b≤0:=Zx (by omega) q4
 have z1:(az.f d - az.f c)* -tw a b c=0:=by omega
 have z2:tw a b c=0:=by
  rcases Zv.mp z1 with z | z <;> omega
 have VC:az.f a=az.f c:=by
  have:=eU s h1 h2.1 z2
  omega
 obtain rfl:a=c:=s.inj h1.1 h2.1 VC
 refine ⟨rfl,?_⟩
 have r2:=ri a b d
 have z3:tw a b d=0:=by omega
 have b1:=eU s h1 h2.2.1 z3
 have b2:=eU s h2 h1.2.1 (by omega)
 exact s.inj h1.2.1 h2.2.1 (by omega)
theorem MK {Q:List Pl} (s:dZ Q) {x:Pt} {a b c d:Pl} (h1:bE Q a b) (h2:bE Q c d) (k1:ny az a x≤0) (k2:0 < ny az b x) (k3:ny az c x≤0) (k4:0 < ny az d x) (hN:0 < x.N):a=c∧b=d:=by
 have lt:∀ {u v:Pl},ny az u x≤0→0 < ny az v x→az.f u < az.f v:=fun {u v} i j=>by
  unfold ny at i j
  have:x.N*az.f u < x.N*az.f v:=by omega
  exact Int.lt_of_mul_lt_mul_left this (by omega)
 rcases aaL (az.f a) (az.f c) with z | z
 ·exact Eb s h1 h2 (lt k1 k2) (lt k3 k2) (lt k3 k4) z
 ·obtain ⟨e1,e2⟩:=Eb s h2 h1 (lt k3 k4) (lt k1 k4) (lt k1 k2) z
  exact ⟨e1.symm,e2.symm⟩
theorem yP {g:List Pl→Int}:∀ {l:List (List Pl)},l.Nodup→(∀ d∈l,g d≤1)→(∀ d∈l,∀ e∈l,0 < g d→0 < g e→d=e)→sz g l≤1
 | [],_,_,_=>by simp [sz]
 | d :: r,n,h1,h2=>by
   obtain ⟨n1,n2⟩:=Zp.mp n
   show g d+sz g r≤1
   by_cases z:0 < g d
   ·have k:∀ {l:List (List Pl)},(∀ e∈l,g e≤0)→sz g l≤0:=fun {l} hl=>by
     induction l with
     | nil=>simp [sz]
     | cons e l ih=>
       have:=ih fun x hx=>hl x (Y5 _ hx)
       have:=hl e (by simp)
       show g e+sz g l≤0
       omega
    have:=k (l:=r) fun e he=>by
     apply Y3
     intro y
     have:=h2 d (by simp) e (Y5 _ he) z (by omega)
     exact n1 (this▸he)
    have:=h1 d (by simp)
    omega
   ·have:=yP n2 (fun e he=>h1 e (Y5 _ he)) (fun e he u hu=>h2 e (Y5 _ he) u (Y5 _ hu))
    omega
theorem HL (w:Way) (x:Pt) (a b:Pl):wn w x a b≤1∧(0 < wn w x a b→ny w a x≤0∧0 < ny w b x):=by
 unfold wn KZ
 split <;> rename_i h1 <;> split <;> rename_i h2
 ·exact ⟨by omega,fun _=>⟨h1.1,h1.2.1⟩⟩
 ·exact ⟨by omega,fun _=>⟨h1.1,h1.2.1⟩⟩
 ·exact ⟨by omega,fun z=>by omega⟩
 ·exact ⟨by omega,fun z=>by omega⟩
theorem JY {Q:List Pl} (s:dZ Q) {x:Pt} (hN:0 < x.N):sz (wL az x) (SL Q)≤1:=by
 refine yP (oG s) (fun d hd=>?_) fun d hd e he k1 k2=>?_
 ·obtain ⟨a,b,rfl⟩:=oF hd
  exact (HL az x a b).1
 ·obtain ⟨a,b,rfl⟩:=oF hd
  obtain ⟨u,v,rfl⟩:=oF he
  obtain ⟨i1,i2⟩:=(HL az x a b).2 k1
  obtain ⟨j1,j2⟩:=(HL az x u v).2 k2
  obtain ⟨rfl,rfl⟩:=MK s ((cV s).mp hd) ((cV s).mp he) i1 i2 j1 j2 hN
  rfl
def ins (x:Pt):List Pl→Int
 | [a,b,c]=>if 0 < hw a b x∧0 < hw b c x∧0 < hw c a x then 1 else 0
 | _=>0
def Gen (Q:List Pl) (x:Pt):Prop:=0 < x.N∧∀ a∈Q,∀ b∈Q,a≠b→hw a b x≠0
theorem jr.parts {Q t:List Pl} (h:jr Q t):∃ a b c,t= [a,b,c]∧0 < tw a b c∧a∈Q∧b∈Q∧c∈Q∧a≠b∧b≠c∧c≠a:=by
 obtain ⟨⟨a,b,c,rfl,l1,l2,p⟩,h2⟩:=h
 refine ⟨a,b,c,rfl,p,h2 a (by simp),h2 b (by simp),h2 c (by simp),fun z=>?_,fun z=>?_,fun z=>?_⟩
 ·rw [z] at p;unfold tw at p;exact absurd p (by grind)
 ·rw [z] at p;unfold tw at p;exact absurd p (by grind)
 ·rw [z] at p;unfold tw at p;exact absurd p (by grind)
theorem JZ {Q t:List Pl} {x:Pt} (s:dZ Q) (g:Gen Q x) (h:jr Q t):sz (wL az x) (gT t)=ins x t:=by
 obtain ⟨a,b,c,rfl,p,ha,hb,hc,n1,n2,n3⟩:=h.parts
 show wn az x a b+(wn az x b c+(wn az x c a+0))=if 0 < hw a b x∧0 < hw b c x∧0 < hw c a x then 1 else 0
 have:=MI (w:=az) g.1 p (zH s ha hb n1) (g.2 a ha b hb n1) (g.2 b hb c hc n2) (g.2 c hc a ha n3)
 rw [← this]
 omega
theorem zP {Q:List Pl} {x:Pt} (s:dZ Q) (g:Gen Q x):∀ {ts:List (List Pl)},(∀ t∈ts,jr Q t)→sz (wL az x) (bR ts)=sz (ins x) ts
 | [],_=>rfl
 | t :: r,h=>by
   have e:bR (t :: r)=gT t ++ bR r:=by unfold bR;rw [aad]
   rw [e,HH,JZ s g (h t (by simp)),zP s g fun u hu=>h u (Y5 _ hu)]
   rfl
structure iL (Q:List Pl) (ts:List (List Pl)):Prop where
 uz:dZ Q
 ML:zL Q (bR ts)
 lW:∀ t∈ts,jr Q t
theorem iL.MM {Q:List Pl} {ts:List (List Pl)} (c:iL Q ts) (nf:¬ Flat Q) {x:Pt} (g:Gen Q x):sz (ins x) ts≤1:=by
 rw [← zP c.uz g c.lW,HK c.uz nf c.ML fun a b=>D8 az x a b]
 exact JY c.uz g.1
theorem HM {g:List Pl→Int} (h0:∀ t,0≤g t) {t u:List Pl} (ne:t≠u):∀ {ts:List (List Pl)},t∈ts→u∈ts→g t+g u≤sz g ts
 | v :: r,ht,hu=>by
   show _≤g v+sz g r
   have one:∀ {l:List (List Pl)} {z:List Pl},z∈l→g z≤sz g l:=fun {l z} hz=>by
    induction l with
    | nil=>cases hz
    | cons e l ih=>
      have n:0≤sz g l:=by
       clear ih hz
       induction l with
       | nil=>simp [sz]
       | cons a l ih=>have:=h0 a;show 0≤g a+sz g l;omega
      show g z≤g e+sz g l
      rcases Y6.mp hz with rfl | m
      ·omega
      ·have:=ih m;have:=h0 e;omega
   rcases Y6.mp ht with e1 | k1
   ·rcases Y6.mp hu with e2 | k2
    ·exact absurd (e1.trans e2.symm) ne
    ·have:=one k2;rw [e1];omega
   ·rcases Y6.mp hu with e2 | k2
    ·have:=one k1;rw [e2];omega
    ·have:=HM h0 ne k1 k2;have:=h0 v;omega
theorem MN (x:Pt) (t:List Pl):0≤ins x t:=by
 unfold ins
 split
 ·split <;> omega
 ·omega
theorem iL.one {Q:List Pl} {ts:List (List Pl)} (c:iL Q ts) (nf:¬ Flat Q) {x:Pt} (g:Gen Q x) {t u:List Pl} (ht:t∈ts) (hu:u∈ts) (it:ins x t=1) (iu:ins x u=1):t=u:=by
 apply Y3
 intro ne
 have:=HM (MN x) ne ht hu
 have:=c.MM nf g
 omega
end L3
namespace L3
def CN (p q c d:Pl):Int:=(q.x - p.x)*(d.x - c.x)+(q.y - p.y)*(d.y - c.y)
theorem HN (g:Pl→Pl→Nat) (Q:List Pl):∃ B:Nat,∀ p∈Q,∀ q∈Q,g p q≤B:=by
 have one:∀ (h:Pl→Nat) (R:List Pl),∃ B:Nat,∀ p∈R,h p≤B:=fun h R=>by
  induction R with
  | nil=>exact ⟨0,fun p hp=>by cases hp⟩
  | cons a R ih=>
    obtain ⟨B,hB⟩:=ih
    refine ⟨B+h a,fun p hp=>?_⟩
    rcases Y6.mp hp with rfl | m
    ·omega
    ·have:=hB p m;omega
 have two:∀ (R:List Pl),∃ B:Nat,∀ p∈R,∀ q∈Q,g p q≤B:=fun R=>by
  induction R with
  | nil=>exact ⟨0,fun p hp=>by cases hp⟩
  | cons a R ih=>
    obtain ⟨B,hB⟩:=ih
    obtain ⟨C,hC⟩:=one (g a) Q
    refine ⟨B+C,fun p hp q hq=>?_⟩
    rcases Y6.mp hp with rfl | m
    ·have:=hC q hq;omega
    ·have:=hB p m q hq;omega
 exact two Q
theorem PN {B t u v:Int} (h0:0≤B) (hu: -B≤u∧u≤B) (hv: -B≤v∧v≤B) (h:0 < t∨(t=0∧(0 < u∨(u=0∧0 < v)))):0 < (B+1)*(B+1)*t+(B+1)*u+v:=by
 rcases h with h | ⟨rfl,h | ⟨rfl,h⟩⟩
 ·have m1:0≤(B+1)*(B+1)*(t - 1):=Zi (Zi (by omega) (by omega)) (by omega)
  have m2:0≤(B+1)*(u+B):=Zi (by omega) (by omega)
  have e1:(B+1)*(B+1)*(t - 1)=(B+1)*(B+1)*t - (B+1)*(B+1):=by rw [ZH,abG]
  have e2:(B+1)*(u+B)=(B+1)*u+(B+1)*B:=Int.mul_add _ _ _
  have e3:(B+1)*(B+1)=(B+1)*B+(B+1):=by rw [Int.mul_add,abG]
  omega
 ·have m2:0≤(B+1)*(u - 1):=Zi (by omega) (by omega)
  have e2:(B+1)*(u - 1)=(B+1)*u - (B+1):=by rw [ZH,abG]
  rw [Z0]
  omega
 ·rw [Z0,Z0]
  omega
theorem sI {p q c d:Pl} (n1:p≠q) (n2:c≠d) (h:tw p q d - tw p q c=0):CN p q c d≠0:=fun z=>by
 have e:(tw p q d - tw p q c)*(tw p q d - tw p q c)+CN p q c d*CN p q c d=((q.x - p.x)*(q.x - p.x)+(q.y - p.y)*(q.y - p.y))*((d.x - c.x)*(d.x - c.x)+(d.y - c.y)*(d.y - c.y)):=by unfold tw CN;grind
 rw [h,z] at e
 have pos:∀ u v:Pl,u≠v→0 < (v.x - u.x)*(v.x - u.x)+(v.y - u.y)*(v.y - u.y):=fun u v n=>by
  have s1:0≤(v.x - u.x)*(v.x - u.x):=by
   rcases aaL 0 (v.x - u.x) with k | k
   ·exact Zi k k
   ·exact Zo k k
  have s2:0≤(v.y - u.y)*(v.y - u.y):=by
   rcases aaL 0 (v.y - u.y) with k | k
   ·exact Zi k k
   ·exact Zo k k
  apply Y3
  intro k
  have z1:(v.x - u.x)*(v.x - u.x)=0:=by omega
  have z2:(v.y - u.y)*(v.y - u.y)=0:=by omega
  have z1:v.x - u.x=0:=(Zv.mp z1).elim id id
  have z2:v.y - u.y=0:=(Zv.mp z2).elim id id
  exact n (by cases u;cases v;simp only [Pl.mk.injEq];dsimp only at z1 z2;omega)
 have:=ZC (pos p q n1) (pos c d n2)
 omega
theorem Sz {Q:List Pl} {c d:Pl} (ne:c≠d):∃ x:Pt,Gen Q x∧∀ p∈Q,∀ q∈Q,(0 < tw p q c∨(tw p q c=0∧(0 < tw p q d∨(tw p q d=0∧0 < CN p q c d))))→0 < hw p q x:=by
 obtain ⟨B,hB⟩:=HN (fun p q=>(tw p q d - tw p q c).natAbs+(CN p q c d).natAbs) Q
 refine ⟨⟨((B:Int)+1)*(B+1)*c.x+(B+1)*(d.x - c.x) - (d.y - c.y),((B:Int)+1)*(B+1)*c.y+(B+1)*(d.y - c.y)+(d.x - c.x),((B:Int)+1)*(B+1)⟩,?_⟩
 have e:∀ p q,hw p q ⟨((B:Int)+1)*(B+1)*c.x+(B+1)*(d.x - c.x) - (d.y - c.y),((B:Int)+1)*(B+1)*c.y+(B+1)*(d.y - c.y)+(d.x - c.x),((B:Int)+1)*(B+1)⟩=((B:Int)+1)*(B+1)*tw p q c+(B+1)*(tw p q d - tw p q c)+CN p q c d:=fun p q=>by unfold hw tw CN;grind
 have key:∀ p∈Q,∀ q∈Q,(0 < tw p q c∨(tw p q c=0∧(0 < tw p q d∨(tw p q d=0∧0 < CN p q c d))))→0 < hw p q ⟨((B:Int)+1)*(B+1)*c.x+(B+1)*(d.x - c.x) - (d.y - c.y),((B:Int)+1)*(B+1)*c.y+(B+1)*(d.y - c.y)+(d.x - c.x),((B:Int)+1)*(B+1)⟩:=fun p hp q hq h=>by
  rw [e]
  have b:=hB p hp q hq
  exact PN (by omega) (by omega) (by omega) (h.imp id fun ⟨z,h⟩=>⟨z,h.imp (fun _=>by omega) fun ⟨z',h⟩=>⟨by omega,h⟩⟩)
 refine ⟨⟨ZC (by omega) (by omega),fun p hp q hq n z=>?_⟩,key⟩
 have fl:∀ r,tw q p r= -tw p q r:=fun r=>eK p q r
 have fd:CN q p c d= -CN p q c d:=by unfold CN;grind
 have fh:=jx p q ⟨((B:Int)+1)*(B+1)*c.x+(B+1)*(d.x - c.x) - (d.y - c.y),((B:Int)+1)*(B+1)*c.y+(B+1)*(d.y - c.y)+(d.x - c.x),((B:Int)+1)*(B+1)⟩
 have k1:=key p hp q hq
 have k2:=key q hq p hp
 rw [fl,fl,fd] at k2
 by_cases c0:tw p q c=0
 ·by_cases d0:tw p q d=0
  ·have:=sI n ne (by omega)
   rcases ZU this with y | y
   ·have:=k2 (by omega);omega
   ·have:=k1 (by omega);omega
  ·rcases ZU d0 with y | y
   ·have:=k2 (by omega);omega
   ·have:=k1 (by omega);omega
 ·rcases ZU c0 with y | y
  ·have:=k2 (by omega);omega
  ·have:=k1 (by omega);omega
def qz (t:List Pl) (a b c:Pl):Prop:=t= [a,b,c]∨t= [b,c,a]∨t= [c,a,b]
theorem qz.dir {t:List Pl} {a b c:Pl} (r:qz t a b c):(gT t).Perm [[a,b],[b,c],[c,a]]:=by
 rcases r with rfl | rfl | rfl
 ·exact .refl _
 ·show [[b,c],[c,a],[a,b]].Perm _
  exact (Zz (l₁:=[[b,c],[c,a]]) (l₂:=[[a,b]]))
 ·show [[c,a],[a,b],[b,c]].Perm _
  exact (Zz (l₁:=[[c,a]]) (l₂:=[[a,b],[b,c]]))
theorem qz.ins {t:List Pl} {a b c:Pl} (r:qz t a b c) {x:Pt} (h1:0 < hw a b x) (h2:0 < hw b c x) (h3:0 < hw c a x):ins x t=1:=by
 rcases r with rfl | rfl | rfl
 ·exact if_pos ⟨h1,h2,h3⟩
 ·exact if_pos ⟨h2,h3,h1⟩
 ·exact if_pos ⟨h3,h1,h2⟩
theorem qz.mem {t:List Pl} {a b c:Pl} (r:qz t a b c) (q:Pl):q∈t↔q=a∨q=b∨q=c:=by
 rcases r with rfl | rfl | rfl <;> simp only [Y6,Zt,or_false]
 ·exact ⟨fun h=>by rcases h with h | h | h <;> simp [h],fun h=>by rcases h with h | h | h <;> simp [h]⟩
 ·exact ⟨fun h=>by rcases h with h | h | h <;> simp [h],fun h=>by rcases h with h | h | h <;> simp [h]⟩
theorem qz.tw {Q t:List Pl} {a b c:Pl} (r:qz t a b c) (h:jr Q t):0 < tw a b c∧a∈Q∧b∈Q∧c∈Q:=by
 obtain ⟨u,v,w,rfl,p,hu,hv,hw,_⟩:=h.parts
 have e1:=sG u v w
 have e2:=w4 u v w
 rcases r with e | e | e <;> injection e with x1 e <;> injection e with x2 e <;> injection e with x3 e <;> subst x1 x2 x3
 ·exact ⟨p,hu,hv,hw⟩
 ·exact ⟨by omega,hw,hu,hv⟩
 ·exact ⟨by omega,hv,hw,hu⟩
theorem zQ {Q t:List Pl} {a b:Pl} (h:jr Q t) (m: [a,b]∈gT t):∃ c,qz t a b c:=by
 obtain ⟨u,v,w,rfl,_⟩:=h.parts
 have m: [a,b]= [u,v]∨[a,b]= [v,w]∨[a,b]= [w,u]:=by simpa [gT] using m
 rcases m with e | e | e <;> obtain ⟨rfl,rfl⟩:=bA e
 ·exact ⟨w,.inl rfl⟩
 ·exact ⟨u,.inr (.inr rfl)⟩
 ·exact ⟨v,.inr (.inl rfl)⟩
theorem kN {ts:List (List Pl)} {w:List Pl}:w∈bR ts↔∃ t∈ts,w∈gT t:=ZS
section
variable {Q:List Pl} {ts:List (List Pl)} {a b c d:Pl} {t1 t2:List Pl}
theorem vv (p1:0 < tw a b c) (p2:0 < tw b a d) (cv:tw c d a*tw c d b < 0):0 < tw c d b∧tw c d a < 0:=by
 have e:tw c d b - tw c d a=tw a b c+tw b a d:=by unfold tw;grind
 by_cases z:0 < tw c d b
 ·refine ⟨z,?_⟩
  apply Y3
  intro k
  have:=Zi (a:=tw c d a) (b:=tw c d b) (by omega) (by omega)
  omega
 ·have:=Zo (a:=tw c d a) (b:=tw c d b) (by omega) (by omega)
  omega
theorem fy (a b:Pl):tw a b a=0∧tw a b b=0∧tw a a b=0:=by unfold tw;grind
theorem iL.new_one (k:iL Q ts) (nf:¬ Flat Q) (h1:t1∈ts) (r1:qz t1 a b c) (p2:0 < tw b a d) (hd:d∈Q) (cv:tw c d a*tw c d b < 0): [c,d]∉bR ts:=fun m=>by
 obtain ⟨t,ht,m⟩:=kN.mp m
 obtain ⟨e,re⟩:=zQ (k.lW t ht) m
 obtain ⟨p1,ha,hb,hc⟩:=r1.tw (k.lW t1 h1)
 obtain ⟨p3,_,_,he⟩:=re.tw (k.lW t ht)
 obtain ⟨s1,s2⟩:=vv p1 p2 cv
 have ne:c≠d:=fun z=>by rw [z,(fy d b).2.2] at s1;omega
 obtain ⟨x,g,hx⟩:=Sz (Q:=Q) ne
 have i1:ins x t=1:=by
  refine re.ins (hx c hc d hd (.inr ⟨(fy c d).1,.inr ⟨(fy c d).2.1,?_⟩⟩)) (hx d hd e he (.inl (by have:=sG c d e;omega))) (hx e he c hc (.inr ⟨(fy e c).2.1,.inl (by have:=w4 c d e;omega)⟩))
  have n:=sI (p:=c) (q:=d) (c:=c) (d:=d) ne ne (by rw [(fy c d).1,(fy c d).2.1];omega)
  have:0≤CN c d c d:=by
   unfold CN
   have q:∀ z:Int,0≤z*z:=fun z=>by
    rcases aaL 0 z with k | k
    ·exact Zi k k
    ·exact Zo k k
   have:=q (d.x - c.x)
   have:=q (d.y - c.y)
   omega
  omega
 have i2:ins x t1=1:=by
  refine r1.ins (hx a ha b hb (.inl p1)) (hx b hb c hc (.inr ⟨(fy b c).2.1,.inl ?_⟩)) (hx c hc a ha (.inr ⟨(fy c a).1,.inl ?_⟩))
  ·have:=sG b c d;omega
  ·have:=ri c d a;omega
 have ee:=k.one nf g ht h1 i1 i2
 subst ee
 have hd':d∈t:=(re.mem d).mpr (.inr (.inl rfl))
 rcases (r1.mem d).mp hd' with z | z | z
 ·rw [z,(fy b a).2.1] at p2;omega
 ·rw [z,(fy b a).1] at p2;omega
 ·exact ne z.symm
theorem iL.J0 (k:iL Q ts) (nf:¬ Flat Q) (h1:t1∈ts) (r1:qz t1 a b c) (h2:t2∈ts) (r2:qz t2 b a d) (cv:tw c d a*tw c d b < 0): [c,d]∉bR ts∧[d,c]∉bR ts:=by
 obtain ⟨p1,ha,hb,hc⟩:=r1.tw (k.lW t1 h1)
 obtain ⟨p2,_,_,hd⟩:=r2.tw (k.lW t2 h2)
 refine ⟨k.new_one nf h1 r1 p2 hd cv,k.new_one nf h2 r2 p1 hc ?_⟩
 rw [eK c d b,eK c d a,aa9,abX]
 exact cv
theorem zL.swap {D D' E:List (List Pl)} (k:zL Q D) (p:D.Perm ([a,b] :: [b,a] :: E)) (p':D'.Perm ([c,d] :: [d,c] :: E)) (n1: [c,d]∉D) (n2: [d,c]∉D) (ne:c≠d) (hc:c∈Q) (hd:d∈Q)
 (s1:¬ bE Q a b) (s2:¬ bE Q b a) (s3:¬ bE Q c d) (s4:¬ bE Q d c):zL Q D':=by
 have m:∀ w,w∈D↔w= [a,b]∨w= [b,a]∨w∈E:=fun w=>by rw [p.mem_iff];simp only [Y6]
 have m':∀ w,w∈D'↔w= [c,d]∨w= [d,c]∨w∈E:=fun w=>by rw [p'.mem_iff];simp only [Y6]
 have nd:=p.nodup_iff.mp k.nd
 obtain ⟨e1,nd⟩:=Zp.mp nd
 obtain ⟨e2,nd⟩:=Zp.mp nd
 refine ⟨?_,?_,?_,?_,?_⟩
 ·refine p'.nodup_iff.mpr (Zp.mpr ⟨fun z=>?_,Zp.mpr ⟨fun z=>n2 ((m _).mpr (.inr (.inr z))),nd⟩⟩)
  rcases Y6.mp z with z | z
  ·exact ne (bA z).1
  ·exact n1 ((m _).mpr (.inr (.inr z)))
 ·intro w hw
  rcases (m' w).mp hw with rfl | rfl | z
  ·exact ⟨c,d,rfl,hc,hd⟩
  ·exact ⟨d,c,rfl,hd,hc⟩
  ·exact k.vd w ((m w).mpr (.inr (.inr z)))
 ·intro u v h1 h2
  have hE: [u,v]∈E:=by
   rcases (m' _).mp h1 with z | z | z
   ·obtain ⟨rfl,rfl⟩:=bA z
    exact absurd ((m' _).mpr (.inr (.inl rfl))) h2
   ·obtain ⟨rfl,rfl⟩:=bA z
    exact absurd ((m' _).mpr (.inl rfl)) h2
   ·exact z
  refine k.bare u v ((m _).mpr (.inr (.inr hE))) fun z=>?_
  rcases (m _).mp z with z | z | z
  ·obtain ⟨rfl,rfl⟩:=bA z
   exact e2 hE
  ·obtain ⟨rfl,rfl⟩:=bA z
   exact e1 (Y5 _ hE)
  ·exact h2 ((m' _).mpr (.inr (.inr z)))
 ·intro u v h z
  rcases (m' _).mp z with z | z | z
  ·obtain ⟨rfl,rfl⟩:=bA z
   exact s4 h
  ·obtain ⟨rfl,rfl⟩:=bA z
   exact s3 h
  ·exact k.qv u v h ((m _).mpr (.inr (.inr z)))
 ·intro u v h
  refine (k.has u v h).imp id fun z=>?_
  rcases (m _).mp z with z | z | z
  ·obtain ⟨rfl,rfl⟩:=bA z
   exact absurd h s1
  ·obtain ⟨rfl,rfl⟩:=bA z
   exact absurd h s2
  ·exact (m' _).mpr (.inr (.inr z))
theorem iL.nodup (k:iL Q ts):ts.Nodup:=by
 have nd:=k.ML.nd
 have lW:=k.lW
 clear k
 induction ts with
 | nil=>exact .nil
 | cons t r ih=>
   have e:bR (t :: r)=gT t ++ bR r:=by unfold bR;rw [aad]
   rw [e] at nd
   obtain ⟨_,n2,n3⟩:=aan.mp nd
   refine Zp.mpr ⟨fun z=>?_,ih n2 fun u hu=>lW u (Y5 _ hu)⟩
   obtain ⟨u,v,w,e,_⟩:=(lW t (by simp)).parts
   have m: [u,v]∈gT t:=by rw [e];simp [gT]
   exact n3 _ m _ (kN.mpr ⟨t,z,m⟩) rfl
theorem iL.flip (k:iL Q ts) (nf:¬ Flat Q) {rest ts':List (List Pl)} {u1 u2:List Pl} (p:ts.Perm (t1 :: t2 :: rest)) (r1:qz t1 a b c) (r2:qz t2 b a d) (cv:tw c d a*tw c d b < 0)
 (p':ts'.Perm (u1 :: u2 :: rest)) (v1:qz u1 a d c) (v2:qz u2 b c d) (l1:gm u1) (l2:gm u2):iL Q ts':=by
 have h1:t1∈ts:=p.mem_iff.mpr (by simp)
 have h2:t2∈ts:=p.mem_iff.mpr (by simp)
 obtain ⟨p1,ha,hb,hc⟩:=r1.tw (k.lW t1 h1)
 obtain ⟨p2,_,_,hd⟩:=r2.tw (k.lW t2 h2)
 obtain ⟨s1,s2⟩:=vv p1 p2 cv
 obtain ⟨n1,n2⟩:=k.J0 nf h1 r1 h2 r2 cv
 have ne:c≠d:=fun z=>by rw [z,(fy d b).2.2] at s1;omega
 refine ⟨k.uz,?_,fun t ht=>?_⟩
 ·have e1:(bR ts).Perm ([a,b] :: [b,a] :: ([b,c] :: [c,a] :: [a,d] :: [d,b] :: bR rest)):=by
   have q1:(bR ts).Perm (gT t1 ++ (gT t2 ++ bR rest)):=by
    have:=p.flatMap_right (f:=gT)
    unfold bR
    simpa only [aad] using this
   refine q1.trans (((r1.dir.append_right _).trans ((r2.dir.append_right _).append_left _)).trans ?_)
   exact .cons _ (ab3 (l₁:=[[b,c],[c,a]]))
  have e2:(bR ts').Perm ([c,d] :: [d,c] :: ([b,c] :: [c,a] :: [a,d] :: [d,b] :: bR rest)):=by
   have q1:(bR ts').Perm (gT u1 ++ (gT u2 ++ bR rest)):=by
    have:=p'.flatMap_right (f:=gT)
    unfold bR
    simpa only [aad] using this
   refine q1.trans (((v1.dir.append_right _).trans ((v2.dir.append_right _).append_left _)).trans ?_)
   show ([a,d] :: [d,c] :: [c,a] :: [b,c] :: [c,d] :: [d,b] :: bR rest).Perm _
   refine (ab3 (l₁:=[[a,d],[d,c],[c,a],[b,c]])).trans (.cons _ ?_)
   refine (List.Perm.swap _ _ _).trans (.cons _ ?_)
   exact (abk [[b,c],[c,a],[a,d]]).append_right _
  refine k.ML.swap e1 e2 n1 n2 ne hc hd (fun h=>?_) (fun h=>?_) (fun h=>?_) (fun h=>?_)
  ·have:=(h.2.2.2 d hd).1;have:=eK a b d;omega
  ·have:=(h.2.2.2 c hc).1;have:=eK a b c;omega
  ·have:=(h.2.2.2 a ha).1;omega
  ·have:=(h.2.2.2 b hb).1;have:=eK c d b;omega
 ·rcases Y6.mp (p'.mem_iff.mp ht) with rfl | ht
  ·exact ⟨l1,fun q hq=>by rcases (v1.mem q).mp hq with rfl | rfl | rfl <;> assumption⟩
  ·rcases Y6.mp ht with rfl | ht
   ·exact ⟨l2,fun q hq=>by rcases (v2.mem q).mp hq with rfl | rfl | rfl <;> assumption⟩
   ·exact k.lW t (p.mem_iff.mpr (Y5 _ (Y5 _ ht)))
end
end L3
namespace L3
theorem CO {Q:List Pl} {p:Pl} (s:dZ (Q ++ [p])) (h:Q≠[]):(SL (Q ++ [p])).length+(cM Q p).length=(SL Q).length+2:=by
 have g:=D6 s
 have so:=s.old
 have l2:2≤(Q ++ [p]).length:=by
  have:=aat.mpr h
  rw [Zh,abH];omega
 obtain ⟨u,hu⟩:=(sF s l2).2 p (by simp)
 obtain ⟨v,hv⟩:=vn s hu
 have sp:=split_len (B0 p) (SL Q)
 have np:∀ a b,[a,b]∈SL Q→a≠p∧b≠p:=fun a b m=>by
  have:=(cV so).mp m
  exact ⟨fun z=>s.out (z▸this.1),fun z=>s.out (z▸this.2.1)⟩
 have:=sub_len (l:=[u,p] :: [p,v] :: (SL Q).filter (fun v=>!B0 p v)) (m:=SL (Q ++ [p])) (by
  refine Zp.mpr ⟨fun z=>?_,Zp.mpr ⟨fun z=>?_,(oG so).filter _⟩⟩
  ·rcases Y6.mp z with z | z
   ·exact hu.2.2.1 (bA z).1
   ·exact (np u p (Zf.mp z).1).2 rfl
  ·exact (np p v (Zf.mp z).1).1 rfl) (fun w hw=>by
  rcases Y6.mp hw with rfl | hw
  ·exact (cV s).mpr hu
  ·rcases Y6.mp hw with rfl | hw
   ·exact (cV s).mpr hv
   ·obtain ⟨m,k⟩:=Zf.mp hw
    obtain ⟨a,b,rfl⟩:=oF m
    have sd:=(cV so).mp m
    refine (cV s).mpr ((i0 s sd.1 sd.2.1).mpr ⟨sd,?_⟩)
    replace k:(!decide (tw a b p < 0))=true:=k
    rw [aa1] at k
    have:=of_decide_eq_false k
    omega)
 rw [Zj,Zj] at this
 unfold cM at *
 omega
theorem vz {qs:List Pl} (s:dZ qs):∀ k,k+1≤qs.length→(lV qs (k+1)).length+(SL (qs.take (k+1))).length=2*k
 | 0,h=>by
   have e:SL (qs.take 0)= []:=oE (by simp)
   rw [oE (by simp;omega)]
   show (lV qs 0 ++ (cM (qs.take 0) (cH qs 0)).map (BA (cH qs 0))).length+0=0
   unfold cM
   rw [e]
   rfl
 | k+1,h=>by
   have st:=s.take (k+2)
   have ih:=vz s k (by omega)
   rw [pR (by omega)] at st ⊢
   have ne:qs.take (k+1)≠[]:=fun z=>by
    have:=congrArg List.length z
    rw [ZO,aaf] at this
    omega
   have:=CO st ne
   show (lV qs (k+1) ++ (cM (qs.take (k+1)) (cH qs (k+1))).map (BA (cH qs (k+1)))).length+_=_
   rw [Zh,Y4]
   omega
theorem Fi {qs:List Pl} (s:dZ qs) (h:2≤qs.length):(lV qs qs.length).length+(b8 qs).length+2=2*qs.length:=by
 obtain ⟨l2,e,_⟩:=tK s h
 have:=vz s (qs.length - 1) (by omega)
 rw [show qs.length - 1+1=qs.length by omega,ZE,e,aaS,Zh,aah,ZO] at this
 omega
def MP (w:List Pl):List Pl:=
 match w with
 | [a,b]=>[lo a b,hi a b]
 | w=>w
def cr:List Pl→Int
 | [a,b]=>a.x*b.y - a.y*b.x
 | _=>0
def VD (bd:List Pl) (k:Nat):Pl:=if k=0 then bd.getLastD ⟨0,0⟩ else cH bd (k - 1)
def vd (bd:List Pl):Nat→Int
 | 0=>0
 | k+1=>vd bd k+cr [VD bd k,cH bd k]
end L3
namespace L3
theorem BB {P:Pl→Prop}:∀ {l:List Pl} {x y:Pl},l.head?=some x→l.getLast?=some y→P x→¬ P y→∃ a b,Nx l a b∧P a∧¬ P b
 | [],_,_,h,_,_,_=>by cases h
 | [z],x,y,h1,h2,p,q=>by
   have e1:z=x:=by simpa using h1
   have e2:z=y:=by simpa using h2
   rw [← e1] at p
   rw [← e2] at q
   exact absurd p q
 | z :: u :: r,x,y,h1,h2,p,q=>by
   have e1:z=x:=by simpa using h1
   have h2':(u :: r).getLast?=some y:=by simpa using h2
   rw [← e1] at p
   by_cases k:P u
   ·obtain ⟨a,b,n,pa,pb⟩:=BB (l:=u :: r) rfl h2' k q
    exact ⟨a,b,.inr n,pa,pb⟩
   ·exact ⟨z,u,.inl ⟨rfl,rfl⟩,p,k⟩
theorem CP {Q:List Pl} (s:dZ Q) (h2:2≤Q.length):∃ (T:List Pl) (x y:Pl),T.head?=some x∧T.getLast?=some y∧(∀ q∈Q,az.f x≤az.f q∧az.f q≤az.f y)∧∀ a b,Nx T a b→bE Q a b:=by
 obtain ⟨hs,hok⟩:=id s
 have hne:Q≠[]:=fun z=>by rw [z] at h2;simp at h2
 obtain ⟨x,hx⟩:∃ x,Q.head?=some x:=by
  cases e:Q with
  | nil=>exact absurd e hne
  | cons x r=>exact ⟨x,rfl⟩
 obtain ⟨y,hy⟩:∃ y,Q.getLast?=some y:=⟨_,Z9 hne⟩
 have mx:x∈Q:=aaH hx
 have my:y∈Q:=aal hy
 have hend:=gS hs hx hy
 have be:∀ p∈Q,∀ q∈Q,(aL p q↔az.f p < az.f q):=fun p hp q hq=>om (hok p hp) (hok q hq)
 have C1:Ch az Q (Q.foldl aX []):=oj hne (hs.imp_of_mem fun hp hq h=>(be _ hp _ hq).mp h)
 have key:∀ p∈Q,∀ q∈Q,(p=q∨aL p q)→az.f p≤az.f q:=fun p hp q hq k=>by
  rcases k with rfl | k
  ·exact aaq _
  ·have a1:=(be p hp q hq).mp k
   omega
 have lo:∀ q∈Q,az.f x≤az.f q:=fun q hq=>key x mx q hq ((hend q hq).1.imp Eq.symm id)
 have hi:∀ q∈Q,az.f q≤az.f y:=fun q hq=>key q hq y my (hend q hq).2
 obtain ⟨p1,p2⟩:=C1.ends mx my lo hi
 refine ⟨(Q.foldl aX []).reverse,x,y,by rw [aaB];exact p2,by rw [aar];exact p1,fun q hq=>⟨lo q hq,hi q hq⟩,fun a b k=>?_⟩
 obtain ⟨c1,c2,c3,c4⟩:=(iY C1).mp ((pM _ a b).mpr k)
 refine ⟨c1,c2,fun z=>by rw [z] at c3;omega,vp s c1 c2 fun q hq=>?_⟩
 obtain ⟨k1,k2⟩:=c4 q hq
 refine ⟨k1,fun z h=>?_⟩
 have:=k2 z
 omega
theorem SA (a b p q r:Pl) (x:Pt):hw a b x*tw p q r=hw q r x*tw a b p+hw r p x*tw a b q+hw p q x*tw a b r:=by unfold hw tw;grind
theorem J1 {Q:List Pl} (s:dZ Q) (h2:2≤Q.length) {x:Pt} (g:Gen Q x) {p q r:Pl} (hp:p∈Q) (hq:q∈Q) (hr:r∈Q) (t:0 < tw p q r) (i1:0 < hw p q x) (i2:0 < hw q r x) (i3:0 < hw r p x):1≤sz (wL az x) (SL Q):=by
 have left:∀ a b,bE Q a b→0 < hw a b x:=fun a b h=>by
  have e:=SA a b p q r x
  have m1:=Zi (ZN i2) (h.2.2.2 p hp).1
  have m2:=Zi (ZN i3) (h.2.2.2 q hq).1
  have m3:=Zi (ZN i1) (h.2.2.2 r hr).1
  have n:=g.2 a h.1 b h.2.1 h.2.2.1
  apply Y3
  intro z
  have:=ZY (a:=hw a b x) (b:=tw p q r) (by omega) t
  omega
 have flat:∀ a b,bE Q a b→KZ az x b a=0:=fun a b h=>by
  unfold KZ
  rw [if_neg]
  rintro ⟨_,_,k⟩
  have:=left a b h
  rw [jx] at k
  omega
 obtain ⟨T,lo,hi,e1,e2,e3,e4⟩:=CP s h2
 have fN:∀ u v:Pl,az.f u≤az.f v→ny az u x≤ny az v x:=fun u v h=>by
  unfold ny
  have:=aaE h (ZN g.1)
  omega
 have k:=HG az p q r x
 have P1:ny az lo x≤0:=by
  apply Y3
  intro z
  have a1:=fN lo p (e3 p hp).1
  have a2:=fN lo q (e3 q hq).1
  have a3:=fN lo r (e3 r hr).1
  have m1:=ZC i2 (show 0 < ny az p x by omega)
  have m2:=ZC i3 (show 0 < ny az q x by omega)
  have m3:=ZC i1 (show 0 < ny az r x by omega)
  omega
 have P2:¬ ny az hi x≤0:=by
  intro z
  have a1:=fN p hi (e3 p hp).2
  have a2:=fN q hi (e3 q hq).2
  have a3:=fN r hi (e3 r hr).2
  have m1:=Zs (ZN i2) (show ny az p x≤0 by omega)
  have m2:=Zs (ZN i3) (show ny az q x≤0 by omega)
  have m3:=Zs (ZN i1) (show ny az r x≤0 by omega)
  have z1:ny az p x=0:=(Zv.mp (show hw q r x*ny az p x=0 by omega)).resolve_left (by omega)
  have z2:ny az q x=0:=(Zv.mp (show hw r p x*ny az q x=0 by omega)).resolve_left (by omega)
  have ne:p≠q:=fun e=>by rw [e,(fy q r).2.2] at t;omega
  have g1:=g.1
  refine zH s hp hq ne (abl (a:=x.N) (by omega) ?_)
  unfold ny at z1 z2
  omega
 obtain ⟨a,b,n,pa,pb⟩:=BB (P:=fun v=>ny az v x≤0) e1 e2 P1 P2
 have SD:=e4 a b n
 have one:wL az x [a,b]=1:=by
  show wn az x a b=1
  unfold wn
  rw [flat a b SD]
  unfold KZ
  rw [if_pos ⟨pa,by omega,left a b SD⟩]
  rfl
 have nn:∀ d∈SL Q,0≤wL az x d:=fun d hd=>by
  obtain ⟨u,v,rfl⟩:=oF hd
  show 0≤wn az x u v
  unfold wn
  rw [flat u v ((cV s).mp hd)]
  unfold KZ
  split <;> omega
 have key:∀ {l:List (List Pl)},(∀ d∈l,0≤wL az x d)→(0≤sz (wL az x) l∧∀ d∈l,wL az x d≤sz (wL az x) l):=fun {l} hl=>by
  induction l with
  | nil=>exact ⟨by simp [sz],fun d hd=>by cases hd⟩
  | cons e l ih=>
    obtain ⟨h1,h2⟩:=ih fun d hd=>hl d (Y5 _ hd)
    have h0:=hl e (by simp)
    refine ⟨by show 0≤wL az x e+sz (wL az x) l;omega,fun d hd=>?_⟩
    show _≤wL az x e+sz (wL az x) l
    rcases Y6.mp hd with rfl | hd
    ·omega
    ·have:=h2 d hd;omega
 have:=(key nn).2 [a,b] ((cV s).mpr SD)
 omega
theorem iL.some {Q:List Pl} {ts:List (List Pl)} (c:iL Q ts) (nf:¬ Flat Q) {x:Pt} (g:Gen Q x) {p q r:Pl} (hp:p∈Q) (hq:q∈Q) (hr:r∈Q) (t:0 < tw p q r) (i1:0 < hw p q x) (i2:0 < hw q r x) (i3:0 < hw r p x):∃ u∈ts,ins x u=1:=by
 have h2:2≤Q.length:=by
  apply Y3
  intro z
  exact nf (iZ (by omega))
 have k:=J1 c.uz h2 g hp hq hr t i1 i2 i3
 rw [← HK c.uz nf c.ML fun a b=>D8 az x a b,zP c.uz g c.lW] at k
 apply Y3
 intro no
 have z:∀ {l:List (List Pl)},(∀ u∈l,ins x u≠1)→sz (ins x) l≤0:=fun {l} hl=>by
  induction l with
  | nil=>simp [sz]
  | cons e l ih=>
    have h1:=ih fun d hd=>hl d (Y5 _ hd)
    have h0:=hl e (by simp)
    have:ins x e=0∨ins x e=1:=by
     unfold ins
     split
     ·split
      ·exact .inr rfl
      ·exact .inl rfl
     ·exact .inl rfl
    show ins x e+sz (ins x) l≤0
    omega
 have:=z fun u hu e=>no ⟨u,hu,e⟩
 omega
def sJ (p q:Pl) (v:Pl):Int:=(q.x - p.x)*v.y - (q.y - p.y)*v.x
def FP (p q:Pl) (v:Pl):Int:=(q.x - p.x)*v.x+(q.y - p.y)*v.y
def Lex (X:Pt) (v p q:Pl):Prop:=0 < hw p q X∨(hw p q X=0∧(0 < sJ p q v∨(sJ p q v=0∧0 < FP p q v)))
theorem J2 {p q v:Pl} (n:p≠q) (nv:v≠⟨0,0⟩) (h:sJ p q v=0):FP p q v≠0:=fun z=>by
 refine sI (p:=p) (q:=q) (c:=⟨0,0⟩) (d:=v) n (Ne.symm nv) ?_ ?_
 ·unfold tw
  unfold sJ at h
  dsimp only
  grind
 ·unfold CN
  unfold FP at z
  dsimp only
  grind
theorem beside {Q:List Pl} {X:Pt} (hN:0 < X.N) {v:Pl} (nv:v≠⟨0,0⟩):∃ x:Pt,Gen Q x∧∀ p∈Q,∀ q∈Q,Lex X v p q→0 < hw p q x:=by
 obtain ⟨B,hB⟩:=HN (fun p q=>(sJ p q v).natAbs+(FP p q v).natAbs) Q
 refine ⟨⟨((B:Int)+1)*(B+1)*X.X+(B+1)*v.x - v.y,((B:Int)+1)*(B+1)*X.Y+(B+1)*v.y+v.x,((B:Int)+1)*(B+1)*X.N⟩,?_⟩
 have e:∀ p q,hw p q ⟨((B:Int)+1)*(B+1)*X.X+(B+1)*v.x - v.y,((B:Int)+1)*(B+1)*X.Y+(B+1)*v.y+v.x,((B:Int)+1)*(B+1)*X.N⟩=((B:Int)+1)*(B+1)*hw p q X+(B+1)*sJ p q v+FP p q v:=fun p q=>by unfold hw sJ FP;grind
 have VE:0 < ((B:Int)+1)*(B+1)*X.N:=ZC (ZC (by omega) (by omega)) hN
 have key:∀ p∈Q,∀ q∈Q,Lex X v p q→0 < ((B:Int)+1)*(B+1)*hw p q X+(B+1)*sJ p q v+FP p q v:=fun p hp q hq h=>by
  have b:=hB p hp q hq
  exact PN (by omega) (by omega) (by omega) h
 refine ⟨⟨VE,fun p hp q hq n z=>?_⟩,fun p hp q hq h=>by rw [e];exact key p hp q hq h⟩
 rw [e] at z
 have f1:=jx p q X
 have f2:sJ q p v= -sJ p q v:=by unfold sJ;grind
 have f3:FP q p v= -FP p q v:=by unfold FP;grind
 have k1:=key p hp q hq
 have k2:=key q hq p hp
 have e2:((B:Int)+1)*(B+1)*hw q p X+(B+1)*sJ q p v+FP q p v= -(((B:Int)+1)*(B+1)*hw p q X+(B+1)*sJ p q v+FP p q v):=by rw [f1,f2,f3];grind
 rw [e2] at k2
 unfold Lex at k1 k2
 by_cases c0:hw p q X=0
 ·by_cases d0:sJ p q v=0
  ·have:=J2 n nv d0
   rcases ZU this with y | y
   ·have:=k2 (.inr ⟨by omega,.inr ⟨by omega,by omega⟩⟩);omega
   ·have:=k1 (.inr ⟨c0,.inr ⟨d0,y⟩⟩);omega
  ·rcases ZU d0 with y | y
   ·have:=k2 (.inr ⟨by omega,.inl (by omega)⟩);omega
   ·have:=k1 (.inr ⟨c0,.inl y⟩);omega
 ·rcases ZU c0 with y | y
  ·have:=k2 (.inl (by omega));omega
  ·have:=k1 (.inl y);omega
def Wk (X:Pt) (a b c:Pl):Prop:=0≤hw a b X∧0≤hw b c X∧0≤hw c a X
theorem into {X:Pt} (hN:0 < X.N) {a b c:Pl} (t:0 < tw a b c) (h:Wk X a b c):∃ v:Pl,v≠⟨0,0⟩∧Lex X v a b∧Lex X v b c∧Lex X v c a:=by
 have pN:=ZC hN t
 have e1:sJ a b ⟨X.N*(a.x+b.x+c.x) - 3*X.X,X.N*(a.y+b.y+c.y) - 3*X.Y⟩=X.N*tw a b c - 3*hw a b X:=by unfold sJ tw hw;grind
 have e2:sJ b c ⟨X.N*(a.x+b.x+c.x) - 3*X.X,X.N*(a.y+b.y+c.y) - 3*X.Y⟩=X.N*tw a b c - 3*hw b c X:=by unfold sJ tw hw;grind
 have e3:sJ c a ⟨X.N*(a.x+b.x+c.x) - 3*X.X,X.N*(a.y+b.y+c.y) - 3*X.Y⟩=X.N*tw a b c - 3*hw c a X:=by unfold sJ tw hw;grind
 generalize (⟨X.N*(a.x+b.x+c.x) - 3*X.X,X.N*(a.y+b.y+c.y) - 3*X.Y⟩:Pl)=v at e1 e2 e3
 obtain ⟨h1,h2,h3⟩:=h
 by_cases z:v= ⟨0,0⟩
 ·have y1:sJ a b v=0:=by rw [z];unfold sJ;grind
  have y2:sJ b c v=0:=by rw [z];unfold sJ;grind
  have y3:sJ c a v=0:=by rw [z];unfold sJ;grind
  exact ⟨⟨1,0⟩,by simp,.inl (by omega),.inl (by omega),.inl (by omega)⟩
 ·have one:∀ p q,0≤hw p q X→sJ p q v=X.N*tw a b c - 3*hw p q X→Lex X v p q:=fun p q k e=>by
   by_cases y:hw p q X=0
   ·exact .inr ⟨y,.inl (by omega)⟩
   ·exact .inl (by omega)
  exact ⟨v,z,one a b h1 e1,one b c h2 e2,one c a h3 e3⟩
section
variable {Q:List Pl} {ts:List (List Pl)} {X:Pt}
theorem Fj {a b c:Pl} (t:0 < tw a b c) (h1:hw a b X=0) (h2:hw b c X=0):X.X=X.N*b.x∧X.Y=X.N*b.y:=by
 have e1:tw a b c*(X.X - X.N*b.x)=hw a b X*(c.x - b.x)+hw b c X*(a.x - b.x):=by unfold tw hw;grind
 have e2:tw a b c*(X.Y - X.N*b.y)=hw a b X*(c.y - b.y)+hw b c X*(a.y - b.y):=by unfold tw hw;grind
 rw [h1,h2,aaN,aaN] at e1 e2
 have z1:=(Zv.mp (e1.trans (by omega))).resolve_left (by omega)
 have z2:=(Zv.mp (e2.trans (by omega))).resolve_left (by omega)
 omega
theorem iL.holds (k:iL Q ts) (nf:¬ Flat Q) (hN:0 < X.N) {p q r:Pl} (hp:p∈Q) (hq:q∈Q) (hr:r∈Q) (t:0 < tw p q r) (h:Wk X p q r):∃ u∈ts,∃ a b c,u= [a,b,c]∧Wk X a b c:=by
 obtain ⟨v,nv,g1,g2,g3⟩:=into hN t h
 obtain ⟨x,g,hx⟩:=beside (Q:=Q) hN nv
 obtain ⟨u,hu,i⟩:=k.some nf g hp hq hr t (hx _ hp _ hq g1) (hx _ hq _ hr g2) (hx _ hr _ hp g3)
 obtain ⟨a,b,c,rfl,_,ha,hb,hc,_⟩:=(k.lW u hu).parts
 have i:(if 0 < hw a b x∧0 < hw b c x∧0 < hw c a x then (1:Int) else 0)=1:=i
 have i3:0 < hw a b x∧0 < hw b c x∧0 < hw c a x:=by
  apply Y3
  intro z
  rw [if_neg z] at i
  omega
 have nn:∀ a∈Q,∀ b∈Q,0 < hw a b x→0≤hw a b X:=fun a ha b hb i=>by
  apply Y3
  intro z
  have:=hx b hb a ha (.inl (by rw [jx];omega))
  rw [jx] at this
  omega
 exact ⟨_,hu,a,b,c,rfl,nn a ha b hb i3.1,nn b hb c hc i3.2.1,nn c hc a ha i3.2.2⟩
end
end L3
namespace L3
section
variable {Q:List Pl} {X:Pt}
end
end L3
namespace L3
section
variable {Q:List Pl} {us:List (List Pl)} {X:Pt} {w:List Pl→Bool}
end
end L3
namespace L3
def gG (H:Pl→Int) (a b c p:Pl):Int:=tw a b c*H p - (tw b c p*H a+tw c a p*H b+tw a b p*H c)
def K0 (p:Pl):Int:=p.x*p.x+p.y*p.y
theorem J3 (a b c d:Pl):gG K0 a b c d= -dep a b c d:=by unfold gG K0 dep lM tw;grind
theorem J4 (K C:Int) (f g:Pl→Int) (a b c d:Pl):gG (fun p=>K*f p - g p+C) a b c d=K*gG f a b c d - gG g a b c d:=by unfold gG tw;grind
theorem Ec (H:Pl→Int) (a b c p:Pl):gG H b c a p=gG H a b c p:=by unfold gG tw;grind
theorem PR (H:Pl→Int) (a b c:Pl):gG H a b c a=0:=by unfold gG tw;grind
theorem PU (H:Pl→Int) (a b c:Pl):gG H a b c b=0:=by unfold gG tw;grind
theorem PV (H:Pl→Int) (a b c:Pl):gG H a b c c=0:=by unfold gG tw;grind
theorem HP (H:Pl→Int) (a b c d:Pl):gG H a b d c= -gG H a b c d:=by unfold gG tw;grind
theorem Fl (H:Pl→Int) (a b c q p:Pl):gG H b a q p*tw a b c=gG H a b c p*tw b a q - gG H a b c q*tw b a p:=by unfold gG tw;grind
theorem HQ (H:Pl→Int) (a b c q p:Pl):gG H a b q p*tw a b c=gG H a b c p*tw a b q - gG H a b c q*tw a b p:=by unfold gG tw;grind
theorem zR {α:Type} (f:α→Int):∀ l:List α,∃ B:Nat,∀ x∈l,(f x).natAbs≤B
 | []=>⟨0,fun x hx=>by cases hx⟩
 | y :: r=>by
   obtain ⟨B,hB⟩:=zR f r
   refine ⟨B+(f y).natAbs,fun x hx=>?_⟩
   rcases Y6.mp hx with rfl | hx
   ·omega
   ·have:=hB x hx;omega
theorem MQ (f:Pl→Pl→Pl→Int) (Q:List Pl):∃ B:Nat,∀ a∈Q,∀ b∈Q,∀ c∈Q,(f a b c).natAbs≤B:=by
 obtain ⟨B,hB⟩:=zR id (Q.flatMap fun a=>Q.flatMap fun b=>Q.map fun c=>f a b c)
 exact ⟨B,fun a ha b hb c hc=>hB _ (ZS.mpr ⟨a,ha,ZS.mpr ⟨b,hb,ZA.mpr ⟨c,hc,rfl⟩⟩⟩)⟩
theorem MR (f:Pl→Pl→Pl→Pl→Int) (Q:List Pl):∃ B:Nat,∀ a∈Q,∀ b∈Q,∀ c∈Q,∀ d∈Q,(f a b c d).natAbs≤B:=by
 obtain ⟨B,hB⟩:=zR id (Q.flatMap fun a=>Q.flatMap fun b=>Q.flatMap fun c=>Q.map fun d=>f a b c d)
 exact ⟨B,fun a ha b hb c hc d hd=>hB _ (ZS.mpr ⟨a,ha,ZS.mpr ⟨b,hb,ZS.mpr ⟨c,hc,ZA.mpr ⟨d,hd,rfl⟩⟩⟩⟩)⟩
theorem Ed {α:Type} {f g:α→Bool}:∀ {l:List α},(∀ x∈l,f x=true→g x=true)→(l.filter f).length≤(l.filter g).length
 | [],_=>Zb _
 | y :: r,h=>by
   have ih:=Ed (l:=r) fun x hx=>h x (Y5 _ hx)
   rw [aaj,aaj]
   have hy:=h y (by simp)
   cases e1:f y <;> cases e2:g y <;> simp_all <;> omega
theorem Ef {α:Type} {f g:α→Bool} {y:α}:∀ {l:List α},(∀ x∈l,f x=true→g x=true)→y∈l→f y=false→g y=true→(l.filter f).length < (l.filter g).length
 | z :: r,h,m,e1,e2=>by
   have hr:∀ x∈r,f x=true→g x=true:=fun x hx=>h x (Y5 _ hx)
   have le:=Ed hr
   rw [aaj,aaj]
   rcases Y6.mp m with rfl | m
   ·simp [e1,e2];omega
   ·have ih:=Ef hr m e1 e2
    have hz:=h z (by simp)
    cases e3:f z <;> cases e4:g z <;> simp_all <;> omega
theorem PX (Q:List Pl) (B:Nat) (hB:0 < B):∃ w:Pl→Int,(∀ p∈Q,0 < w p)∧∀ p∈Q,∀ q∈Q,aL p q→(B:Int)*w q≤w p:=by
 refine ⟨fun p=>((B ^ (Q.filter fun q=>decide (aL p q)).length:Nat):Int),fun p _=>?_,fun p _ q hq h=>?_⟩
 ·have:=Nat.pow_pos (n:=(Q.filter fun q=>decide (aL p q)).length) hB
  show (0:Int) < ((B ^ (Q.filter fun q=>decide (aL p q)).length:Nat):Int)
  omega
 ·have lt:(Q.filter fun r=>decide (aL q r)).length < (Q.filter fun r=>decide (aL p r)).length:=
   Ef (y:=q) (fun x _ hx=>decide_eq_true (aZ h (of_decide_eq_true hx))) hq (decide_eq_false (aY q)) (decide_eq_true h)
  have h1:B ^ ((Q.filter fun r=>decide (aL q r)).length+1)≤B ^ (Q.filter fun r=>decide (aL p r)).length:=abM hB lt
  rw [Nat.pow_succ,Nat.mul_comm] at h1
  show (B:Int)*((B ^ (Q.filter fun r=>decide (aL q r)).length:Nat):Int)≤((B ^ (Q.filter fun r=>decide (aL p r)).length:Nat):Int)
  rw [← Int.natCast_mul]
  exact Int.ofNat_le.mpr h1
structure Ht (Q:List Pl) (H:Pl→Int):Prop where
 PY:∀ a∈Q,∀ b∈Q,∀ c∈Q,∀ d∈Q,0 < tw a b c→(kX a b c d↔gG H a b c d < 0)
 gen:∀ a∈Q,∀ b∈Q,∀ c∈Q,∀ d∈Q,0 < tw a b c→gG H a b c d=0→d=a∨d=b∨d=c
 nn:∀ p∈Q,0≤H p
theorem rj {T:Nat} {k t1 t2 t3:Int} {w w1 w2 w3:Int} (hk:k≠0) (b1:t1.natAbs≤T) (b2:t2.natAbs≤T) (b3:t3.natAbs≤T) (p1:0 < w1) (p2:0 < w2) (p3:0 < w3)
 (l1:((3*T+1:Nat):Int)*w1≤w) (l2:((3*T+1:Nat):Int)*w2≤w) (l3:((3*T+1:Nat):Int)*w3≤w) (hw0:0 < w):(0 < k→0 < k*w+t1*w1+t2*w2+t3*w3)∧(k < 0→k*w+t1*w1+t2*w2+t3*w3 < 0):=by
 have bnd:∀ {t v:Int},t.natAbs≤T→0 < v→ -((T:Int)*v)≤t*v∧t*v≤(T:Int)*v:=fun {t v} ht hv=>by
  have c1:t≤(T:Int):=by omega
  have c2: -(T:Int)≤t:=by omega
  have d1:=ZV c1 (ZN hv)
  have d2:=ZV c2 (ZN hv)
  rw [aa4] at d2
  exact ⟨d2,d1⟩
 have e:∀ v:Int,((3*T+1:Nat):Int)*v=3*((T:Int)*v)+v:=fun v=>by
  have:((3*T+1:Nat):Int)=3*(T:Int)+1:=by omega
  rw [this];grind
 rw [e] at l1 l2 l3
 have x1:=bnd b1 p1
 have x2:=bnd b2 p2
 have x3:=bnd b3 p3
 refine ⟨fun h=>?_,fun h=>?_⟩
 ·have:1*w≤k*w:=ZV (by omega) (ZN hw0)
  omega
 ·have:k*w≤(-1)*w:=ZV (by omega) (ZN hw0)
  omega
theorem vA {a b c d:Pl} (hT:0 < tw a b c) (h0:dep a b c d=0) (nb:d≠b) (nc:d≠c):tw b c d≠0:=fun z=>by
 rcases zq (by omega) h0 z with h | h
 ·exact nb h
 ·exact nc h
theorem Fo (a b c d:Pl) (n1:a≠b) (n2:b≠c) (n3:c≠a) (n4:d≠a) (n5:d≠b) (n6:d≠c):(aL d a∧aL d b∧aL d c)∨(aL a b∧aL a c∧aL a d)∨(aL b a∧aL b c∧aL b d)∨(aL c a∧aL c b∧aL c d):=by
 have x:∀ {p q:Pl},p≠q→aL p q∨aL q p:=fun {p q} n=>by
  rcases bV p q with h | h | h
  ·exact .inl h
  ·exact absurd h n
  ·exact .inr h
 rcases x n1 with h1 | h1 <;> rcases x n2 with h2 | h2 <;> rcases x n3 with h3 | h3 <;> rcases x n4 with h4 | h4 <;> rcases x n5 with h5 | h5 <;> rcases x n6 with h6 | h6 <;>
 first
 | exact .inl ⟨h4,h5,h6⟩
 | exact .inr (.inl ⟨h1,h3,h4⟩)
 | exact .inr (.inr (.inl ⟨h1,h2,h5⟩))
 | exact .inr (.inr (.inr ⟨h3,h2,h6⟩))
 | (exfalso;unfold aL at h1 h2 h3 h4 h5 h6;omega)
theorem Fp (Q:List Pl):∃ H,Ht Q H:=by
 obtain ⟨T,hT⟩:=MQ tw Q
 obtain ⟨w,wp,wl⟩:=PX Q (3*T+1) (by omega)
 obtain ⟨K,hK⟩:=MR (gG w) Q
 obtain ⟨C,hC⟩:=zR (fun p=>((K:Int)+1)*K0 p - w p) Q
 have PZ:∀ a∈Q,∀ b∈Q,∀ c∈Q,∀ d∈Q,0 < tw a b c→dep a b c d=0→d≠a→d≠b→d≠c→gG w a b c d≠0∧(kX a b c d↔0 < gG w a b c d):=by
  intro a ha b hb c hc d hd p h0 n4 n5 n6
  have n1:a≠b:=fun z=>by rw [z] at p;unfold tw at p;grind
  have n2:b≠c:=fun z=>by rw [z] at p;unfold tw at p;grind
  have n3:c≠a:=fun z=>by rw [z] at p;unfold tw at p;grind
  have r0:=lN h0
  have s1:=vA p h0 n5 n6
  have s2:=vA (a:=b) (b:=c) (c:=a) (d:=d) (by have:=sG a b c;omega) (by rw [uu];exact h0) n6 n4
  have s3:=vA (a:=c) (b:=a) (c:=b) (d:=d) (by have:=w4 a b c;omega) (by rw [← uu c a b d];exact h0) n4 n5
  have e:gG w a b c d=tw a b c*w d+(-tw b c d)*w a+(-tw c a d)*w b+(-tw a b d)*w c:=by unfold gG;grind
  have sg:∀ {i:Int},i≠0→∀ {j:Int},0 < j→(i.sign≠j.sign↔i < 0):=fun {i} hi {j} hj=>by
   rw [Z8 hj]
   constructor
   ·intro h
    apply Y3
    intro z
    exact h (Z8 (by omega))
   ·intro h z
    rw [aai h] at z
    omega
  have g1:=sG a b c
  have g2:=w4 a b c
  have b1:=hT a ha b hb c hc
  have b2:=hT b hb c hc d hd
  have b3:=hT c hc a ha d hd
  have b4:=hT a ha b hb d hd
  have u1:=sg s1 (show 0 < tw b c a by omega)
  have u2:=sg s2 (show 0 < tw c a b by omega)
  have u3:=sg s3 (show 0 < tw a b c by omega)
  rcases Fo a b c d n1 n2 n3 n4 n5 n6 with ⟨m1,m2,m3⟩ | ⟨m1,m2,m3⟩ | ⟨m1,m2,m3⟩ | ⟨m1,m2,m3⟩
  ·have o:=rj (k:=tw a b c) (t1:= -tw b c d) (t2:= -tw c a d) (t3:= -tw a b d) (by omega) (by omega) (by omega) (by omega) (wp a ha) (wp b hb) (wp c hc) (wl d hd a ha m1) (wl d hd b hb m2) (wl d hd c hc m3) (wp d hd)
   have l:=o.1 p
   refine ⟨by omega,fun _=>by omega,fun _=> .inr ⟨r0,n4,n5,n6,.inl ⟨m1,m2,m3⟩⟩⟩
  ·have o:=rj (k:= -tw b c d) (t1:=tw a b c) (t2:= -tw c a d) (t3:= -tw a b d) (by omega) (by omega) (by omega) (by omega) (wp d hd) (wp b hb) (wp c hc) (wl a ha d hd m3) (wl a ha b hb m1) (wl a ha c hc m2) (wp a ha)
   refine ⟨fun z=>?_,fun h=>?_,fun h=>?_⟩
   ·rcases ZU s1 with q | q
    ·have:=o.1 (by omega);omega
    ·have:=o.2 (by omega);omega
   ·have:tw b c d < 0:=by
     rcases h with h | ⟨_,_,_,_,⟨h,_⟩ | ⟨_,_,_,h⟩ | ⟨h,_⟩ | ⟨h,_⟩⟩
     ·omega
     ·exact absurd h (aG m3)
     ·exact u1.mp h
     ·exact absurd h (aG m1)
     ·exact absurd h (aG m2)
    have:=o.1 (by omega)
    omega
   ·refine .inr ⟨r0,n4,n5,n6,.inr (.inl ⟨m1,m2,m3,u1.mpr ?_⟩)⟩
    apply Y3
    intro z
    have:=o.2 (by omega)
    omega
  ·have o:=rj (k:= -tw c a d) (t1:=tw a b c) (t2:= -tw b c d) (t3:= -tw a b d) (by omega) (by omega) (by omega) (by omega) (wp d hd) (wp a ha) (wp c hc) (wl b hb d hd m3) (wl b hb a ha m1) (wl b hb c hc m2) (wp b hb)
   refine ⟨fun z=>?_,fun h=>?_,fun h=>?_⟩
   ·rcases ZU s2 with q | q
    ·have:=o.1 (by omega);omega
    ·have:=o.2 (by omega);omega
   ·have:tw c a d < 0:=by
     rcases h with h | ⟨_,_,_,_,⟨_,h,_⟩ | ⟨h,_⟩ | ⟨_,_,_,h⟩ | ⟨_,h,_⟩⟩
     ·omega
     ·exact absurd h (aG m3)
     ·exact absurd h (aG m1)
     ·exact u2.mp h
     ·exact absurd h (aG m2)
    have:=o.1 (by omega)
    omega
   ·refine .inr ⟨r0,n4,n5,n6,.inr (.inr (.inl ⟨m1,m2,m3,u2.mpr ?_⟩))⟩
    apply Y3
    intro z
    have:=o.2 (by omega)
    omega
  ·have o:=rj (k:= -tw a b d) (t1:=tw a b c) (t2:= -tw b c d) (t3:= -tw c a d) (by omega) (by omega) (by omega) (by omega) (wp d hd) (wp a ha) (wp b hb) (wl c hc d hd m3) (wl c hc a ha m1) (wl c hc b hb m2) (wp c hc)
   refine ⟨fun z=>?_,fun h=>?_,fun h=>?_⟩
   ·rcases ZU s3 with q | q
    ·have:=o.1 (by omega);omega
    ·have:=o.2 (by omega);omega
   ·have:tw a b d < 0:=by
     rcases h with h | ⟨_,_,_,_,⟨_,_,h⟩ | ⟨_,h,_⟩ | ⟨_,h,_⟩ | ⟨_,_,_,h⟩⟩
     ·omega
     ·exact absurd h (aG m3)
     ·exact absurd h (aG m1)
     ·exact absurd h (aG m2)
     ·exact u3.mp h
    have:=o.1 (by omega)
    omega
   ·refine .inr ⟨r0,n4,n5,n6,.inr (.inr (.inr ⟨m1,m2,m3,u3.mpr ?_⟩))⟩
    apply Y3
    intro z
    have:=o.2 (by omega)
    omega
 have eH:∀ a b c d,gG (fun p=>((K:Int)+1)*K0 p - w p+(C:Int)) a b c d= -(((K:Int)+1)*dep a b c d) - gG w a b c d:=fun a b c d=>by rw [J4,J3];grind
 have pos:∀ a∈Q,∀ b∈Q,∀ c∈Q,∀ d∈Q,0 < dep a b c d→gG (fun p=>((K:Int)+1)*K0 p - w p+(C:Int)) a b c d < 0:=fun a ha b hb c hc d hd h=>by
  rw [eH]
  have:=hK a ha b hb c hc d hd
  have:((K:Int)+1)*1≤((K:Int)+1)*dep a b c d:=aaE (by omega) (by omega)
  omega
 have neg:∀ a∈Q,∀ b∈Q,∀ c∈Q,∀ d∈Q,dep a b c d < 0→0 < gG (fun p=>((K:Int)+1)*K0 p - w p+(C:Int)) a b c d:=fun a ha b hb c hc d hd h=>by
  rw [eH]
  have:=hK a ha b hb c hc d hd
  have:((K:Int)+1)*dep a b c d≤((K:Int)+1)*(-1):=aaE (by omega) (by omega)
  omega
 refine ⟨fun p=>((K:Int)+1)*K0 p - w p+(C:Int),⟨fun a ha b hb c hc d hd p=>?_,fun a ha b hb c hc d hd p z=>?_,fun p hp=>?_⟩⟩
 ·rcases aam (dep a b c d) 0 with h | h | h
  ·have:=neg a ha b hb c hc d hd h
   refine ⟨fun s=>?_,fun s=>by omega⟩
   have:=(DH p s).1
   omega
  ·by_cases n4:d=a
   ·subst n4
    rw [PR]
    refine ⟨fun s=>?_,fun s=>by omega⟩
    rcases s with s | ⟨_,n,_⟩
    ·rw [lN h] at s;omega
    ·exact absurd rfl n
   by_cases n5:d=b
   ·subst n5
    rw [PU]
    refine ⟨fun s=>?_,fun s=>by omega⟩
    rcases s with s | ⟨_,_,n,_⟩
    ·rw [lN h] at s;omega
    ·exact absurd rfl n
   by_cases n6:d=c
   ·subst n6
    rw [PV]
    refine ⟨fun s=>?_,fun s=>by omega⟩
    rcases s with s | ⟨_,_,_,n,_⟩
    ·rw [lN h] at s;omega
    ·exact absurd rfl n
   have t:=(PZ a ha b hb c hc d hd p h n4 n5 n6).2
   rw [eH,h,Z0,t]
   omega
  ·have:=pos a ha b hb c hc d hd h
   exact ⟨fun _=>this,fun _=>ql p h⟩
 ·rcases aam (dep a b c d) 0 with h | h | h
  ·have:=neg a ha b hb c hc d hd h;omega
  ·apply Y3
   intro y
   have t:=(PZ a ha b hb c hc d hd p h (fun e=>y (.inl e)) (fun e=>y (.inr (.inl e))) (fun e=>y (.inr (.inr e)))).1
   rw [eH,h,Z0] at z
   omega
  ·have:=pos a ha b hb c hc d hd h;omega
 ·have:=hC p hp
  show 0≤((K:Int)+1)*K0 p - w p+(C:Int)
  omega
end L3
namespace L3
section
variable {Q:List Pl} {H:Pl→Int}
def Eg (Q:List Pl) (t:List Pl):Prop:= ∀ d∈Q,¬ se t d
theorem Ht.P0 (h:Ht Q H) {t:List Pl} (hT:jr Q t) {a b c:Pl} (r:qz t a b c) {d:Pl} (hd:d∈Q):se t d↔gG H a b c d < 0:=by
 obtain ⟨p,ha,hb,hc⟩:=r.tw hT
 rcases r with rfl | rfl | rfl
 ·exact h.PY a ha b hb c hc d hd p
 ·rw [← Ec H a b c d]
  exact h.PY b hb c hc a ha d hd (by have:=sG a b c;omega)
 ·rw [Ec H c a b d]
  exact h.PY c hc a ha b hb d hd (by have:=w4 a b c;omega)
theorem Ht.Nz (h:Ht Q H) {t:List Pl} (hT:jr Q t) {a b c:Pl} (r:qz t a b c):Eg Q t↔∀ d∈Q,0≤gG H a b c d:=by
 constructor
 ·intro k d hd
  have:=k d hd
  rw [h.P0 hT r hd] at this
  omega
 ·intro k d hd
  rw [h.P0 hT r hd]
  have:=k d hd
  omega
theorem HR {a b c:Pl} (p:0 < tw a b c):∃ t,gm t∧qz t a b c:=by
 have g1:=sG a b c
 have g2:=w4 a b c
 have n1:a≠b:=fun z=>by rw [z] at p;unfold tw at p;grind
 have n2:b≠c:=fun z=>by rw [z] at p;unfold tw at p;grind
 have n3:c≠a:=fun z=>by rw [z] at p;unfold tw at p;grind
 have x:∀ {p q:Pl},p≠q→aL p q∨aL q p:=fun {p q} n=>by
  rcases bV p q with h | h | h
  ·exact .inl h
  ·exact absurd h n
  ·exact .inr h
 rcases x n1 with h1 | h1
 ·rcases x n3 with h3 | h3
  ·exact ⟨[c,a,b],⟨c,a,b,rfl,h3,aZ h3 h1,by omega⟩,.inr (.inr rfl)⟩
  ·exact ⟨[a,b,c],⟨a,b,c,rfl,h1,h3,p⟩,.inl rfl⟩
 ·rcases x n2 with h2 | h2
  ·exact ⟨[b,c,a],⟨b,c,a,rfl,h2,h1,by omega⟩,.inr (.inl rfl)⟩
  ·exact ⟨[c,a,b],⟨c,a,b,rfl,aZ h2 h1,h2,by omega⟩,.inr (.inr rfl)⟩
theorem qz.MS {t:List Pl} {a b c:Pl} (r:qz t a b c) (i:gm t) (ha:a∈Q) (hb:b∈Q) (hc:c∈Q):jr Q t:=⟨i,fun q hq=>by
 rcases (r.mem q).mp hq with rfl | rfl | rfl <;> assumption⟩
theorem yQ {f g:Pl→Int}:∀ {l:List Pl},l≠[]→(∀ p∈l,0 < g p)→∃ q∈l,∀ p∈l,f q*g p≤f p*g q
 | [x],_,hg=>⟨x,by simp,fun p hp=>by rw [Y8.mp hp];exact aaq _⟩
 | x :: y :: r,_,hg=>by
   obtain ⟨q,hq,h⟩:=yQ (f:=f) (g:=g) (l:=y :: r) (by simp) fun p hp=>hg p (Y5 _ hp)
   have gx:=hg x (by simp)
   have gq:=hg q (Y5 _ hq)
   rcases aaL (f q*g x) (f x*g q) with k | k
   ·refine ⟨q,Y5 _ hq,fun p hp=>?_⟩
    rcases Y6.mp hp with rfl | hp
    ·exact k
    ·exact h p hp
   ·refine ⟨x,by simp,fun p hp=>?_⟩
    rcases Y6.mp hp with rfl | hp
    ·exact aaq _
    ·have Mz:=h p hp
     have gp:=hg p (Y5 _ hp)
     refine Int.le_of_mul_le_mul_right ?_ gq
     have a1:=ZV k (ZN gp)
     have a2:=ZV Mz (ZN gx)
     have e1:f x*g q*g p=f x*g p*g q:=by grind
     have e2:f q*g x*g p=f q*g p*g x:=by grind
     have e3:f p*g q*g x=f p*g x*g q:=by grind
     omega
theorem vB {a b c d:Pl} (h:d=a∨d=b∨d=c):¬ kX a b c d:=fun s=>by
 have z:dep a b c d=0:=by
  rcases h with rfl | rfl | rfl
  ·exact O1 _ _ _
  ·exact O2 _ _ _
  ·exact KJ _ _ _
 rcases s with s | ⟨_,n1,n2,n3,_⟩
 ·rw [lN z] at s;omega
 ·rcases h with h | h | h
  ·exact n1 h
  ·exact n2 h
  ·exact n3 h
theorem HS (a b p:Pl):dt a b p=uM a b p:=by unfold dt uM;grind
theorem CQ {a b c p:Pl} (t:0 < tw a b c) (z:tw a b p=0) (nb:¬ (aL (lo a b) p∧aL p (hi a b))):¬ kX a b c p:=fun s=>by
 by_cases e1:p=a
 ·exact vB (.inl e1) s
 by_cases e2:p=b
 ·exact vB (.inr (.inl e2)) s
 have d0:=(DH t s).1
 have e:dep a b c p= -(dt a b p*tw a b c):=by rw [A6,z,Z0];omega
 have n:¬ uM a b p < 0:=fun k=>nb ((sZ a b p z).mpr ⟨e1,e2,k⟩)
 rw [← HS] at n
 have d1:dt a b p≤0:=by
  apply Y3
  intro y
  have:=ZC (show 0 < dt a b p by omega) t
  omega
 have d2:dt a b p=0:=by omega
 have d3:dep a b c p=0:=by rw [e,d2];omega
 rcases zq (a:=c) (b:=a) (c:=b) (d:=p) (by have:=w4 a b c;omega) (by rw [← uu c a b p];exact d3) z with h | h
 ·exact e1 h
 ·exact e2 h
theorem BC {a b c p:Pl} (t:0 < tw a b c) (z:tw a b p=0) (nb:aL (lo a b) p∧aL p (hi a b)):kX a b c p:=by
 obtain ⟨_,_,d⟩:=(sZ a b p z).mp nb
 rw [← HS] at d
 refine ql t ?_
 rw [A6,z,Z0]
 have:=ZY d t
 omega
theorem CS {ts:List (List Pl)} (nd:ts.Nodup) (lW:∀ t∈ts,jr Q t) (h:∀ t∈ts,∀ u∈ts,∀ w,w∈gT t→w∈gT u→t=u):(bR ts).Nodup:=by
 induction ts with
 | nil=>exact .nil
 | cons t r ih=>
   have e:bR (t :: r)=gT t ++ bR r:=by unfold bR;rw [aad]
   rw [e]
   obtain ⟨n1,n2⟩:=Zp.mp nd
   refine aan.mpr ⟨?_,ih n2 (fun u hu=>lW u (Y5 _ hu)) fun u hu v hv=>h u (Y5 _ hu) v (Y5 _ hv),fun w hw v hv z=>?_⟩
   ·obtain ⟨a,b,c,rfl,_,_,_,_,n1,n2,n3⟩:=(lW t (by simp)).parts
    show ([[a,b],[b,c],[c,a]]:List (List Pl)).Nodup
    simp [n1,n2,n3,n1.symm,n2.symm,n3.symm]
   ·subst z
    obtain ⟨u,hu,hm⟩:=kN.mp hv
    have:=h t (by simp) u (Y5 _ hu) w hw hm
    rw [this] at n1
    exact n1 hu
theorem Ht.HU (h:Ht Q H) {a b c d:Pl} (ha:a∈Q) (hb:b∈Q) (hc:c∈Q) (hd:d∈Q) (p1:0 < tw a b c) (p2:0 < tw a b d) (k1:∀ q∈Q,0≤gG H a b c q) (k2:∀ q∈Q,0≤gG H a b d q):d=c:=by
 have e:=HP H a b c d
 have x1:=k1 d hd
 have x2:=k2 c hc
 rcases h.gen a ha b hb c hc d hd p1 (by omega) with rfl | rfl | rfl
 ·unfold tw at p2;exact absurd p2 (by grind)
 ·unfold tw at p2;exact absurd p2 (by grind)
 ·rfl
theorem Ht.over (h:Ht Q H) {a b:Pl} (ha:a∈Q) (hb:b∈Q) {c:Pl} (hc:c∈Q) (p:0 < tw a b c) (rt:∀ {q},q∈Q→0 < tw a b q→(∀ r∈Q,0 < tw a b r→0≤gG H a b q r)→∀ r∈Q,tw a b r≤0→0≤gG H a b q r):∃ q∈Q,0 < tw a b q∧∀ r∈Q,0≤gG H a b q r:=by
 have mem:∀ q,q∈Q.filter (fun q=>decide (0 < tw a b q))↔q∈Q∧0 < tw a b q:=fun q=>by rw [Zf,decide_eq_true_eq]
 obtain ⟨q,hq,hm⟩:=yQ (f:=gG H a b c) (g:=tw a b) (l:=Q.filter fun q=>decide (0 < tw a b q)) (aaV ((mem c).mpr ⟨hc,p⟩)) fun r hr=>((mem r).mp hr).2
 obtain ⟨hq,pq⟩:=(mem q).mp hq
 have lf:∀ r∈Q,0 < tw a b r→0≤gG H a b q r:=fun r hr pr=>by
  have e:=HQ H a b c q r
  have:=hm r ((mem r).mpr ⟨hr,pr⟩)
  refine rY p ?_
  rw [abX,e]
  omega
 refine ⟨q,hq,pq,fun r hr=>?_⟩
 rcases Int.lt_or_le 0 (tw a b r) with y | y
 ·exact lf r hr y
 ·exact rt hq pq lf r hr y
theorem Ht.past (h:Ht Q H) {a b c:Pl} (ha:a∈Q) (hb:b∈Q) (hc:c∈Q) (p:0 < tw a b c) (k:∀ q∈Q,0≤gG H a b c q) {e:Pl} (he:e∈Q) (pe:0 < tw b a e):∃ q∈Q,0 < tw b a q∧∀ r∈Q,0≤gG H b a q r:=by
 refine h.over hb ha he pe fun {q} hq pq _ r hr y=>?_
 have i:=Fl H a b c q r
 refine rY p ?_
 rw [abX,i]
 have x1:=Zi (k r hr) (ZN pq)
 have x2:=Zs (k q hq) y
 omega
theorem BD (s:dZ Q) {ns:List (List Pl)} (nd:ns.Nodup) (mem:∀ t,t∈ns↔jr Q t∧Eg Q t):iL Q ns:=by
 obtain ⟨H,h⟩:=Fp Q
 have lW:∀ t∈ns,jr Q t:=fun t ht=>((mem t).mp ht).1
 have Nz:∀ t∈ns,∀ {a b c:Pl},qz t a b c→∀ d∈Q,0≤gG H a b c d:=fun t ht {a b c} r=>(h.Nz (lW t ht) r).mp ((mem t).mp ht).2
 have dm:∀ a b,[a,b]∈bR ns↔a∈Q∧b∈Q∧∃ c∈Q,0 < tw a b c∧∀ d∈Q,0≤gG H a b c d:=fun a b=>by
  constructor
  ·intro m
   obtain ⟨t,ht,m⟩:=kN.mp m
   obtain ⟨c,r⟩:=zQ (lW t ht) m
   obtain ⟨p,ha,hb,hc⟩:=r.tw (lW t ht)
   exact ⟨ha,hb,c,hc,p,Nz t ht r⟩
  ·rintro ⟨ha,hb,c,hc,p,k⟩
   obtain ⟨t,i,r⟩:=HR p
   have ti:jr Q t:=r.MS i ha hb hc
   refine kN.mpr ⟨t,(mem t).mpr ⟨ti,(h.Nz ti r).mpr k⟩,r.dir.mem_iff.mpr (by simp)⟩
 refine ⟨s,⟨CS nd lW fun t ht u hu w m1 m2=>?_,fun w hw=>?_,fun a b m1 m2=>?_,fun a b sd m=>?_,fun a b sd=>?_⟩,lW⟩
 ·obtain ⟨a,b,rfl,_⟩:=kM w (kN.mpr ⟨t,ht,m1⟩)
  obtain ⟨c,r1⟩:=zQ (lW t ht) m1
  obtain ⟨d,r2⟩:=zQ (lW u hu) m2
  obtain ⟨p1,ha,hb,hc⟩:=r1.tw (lW t ht)
  obtain ⟨p2,_,_,hd⟩:=r2.tw (lW u hu)
  obtain rfl:=h.HU ha hb hc hd p1 p2 (Nz t ht r1) (Nz u hu r2)
  refine gm.uniq (lW t ht).1 (lW u hu).1 ?_
  have q1:∀ {v:List Pl},qz v a b d→v.Perm [a,b,d]:=fun {v} r=>by
   rcases r with rfl | rfl | rfl
   ·exact .refl _
   ·exact (Zz (l₁:=[b,d]) (l₂:=[a]))
   ·exact (Zz (l₁:=[d]) (l₂:=[a,b]))
  exact (q1 r1).trans (q1 r2).symm
 ·obtain ⟨a,b,rfl,_⟩:=kM w hw
  obtain ⟨ha,hb,_⟩:=(dm a b).mp hw
  exact ⟨a,b,rfl,ha,hb⟩
 ·obtain ⟨ha,hb,c,hc,p,k⟩:=(dm a b).mp m1
  refine ⟨ha,hb,fun z=>by rw [z] at p;unfold tw at p;exact absurd p (by grind),fun q hq=>⟨?_,fun z nb=>?_⟩⟩
  ·apply Y3
   intro y
   obtain ⟨e,he,pe,ke⟩:=h.past ha hb hc p k hq (by have:=eK a b q;omega)
   exact m2 ((dm b a).mpr ⟨hb,ha,e,he,pe,ke⟩)
  ·have:=(h.PY a ha b hb c hc q hq p).mp (BC p z nb)
   have:=k q hq
   omega
 ·obtain ⟨hb,ha,c,hc,p,_⟩:=(dm b a).mp m
  have:=(sd.2.2.2 c hc).1
  have:=eK a b c
  omega
 ·obtain ⟨ha,hb,ne,QB⟩:=sd
  by_cases fl:∀ q∈Q,tw a b q=0
  ·refine .inl ⟨hb,ha,ne.symm,fun q hq=>⟨by have:=eK a b q;have:=fl q hq;omega,fun _ nb=>(QB q hq).2 (fl q hq) ?_⟩⟩
   have e1:lo b a=lo a b:=by
    unfold lo
    rcases bV a b with y | y | y
    ·rw [if_pos y,if_neg (aG y)]
    ·exact absurd y ne
    ·rw [if_neg (aG y),if_pos y]
   have e2:hi b a=hi a b:=by
    unfold hi
    rcases bV a b with y | y | y
    ·rw [if_pos y,if_neg (aG y)]
    ·exact absurd y ne
    ·rw [if_neg (aG y),if_pos y]
   rw [e1,e2] at nb
   exact nb
  ·obtain ⟨c,hc,pc⟩:∃ c∈Q,0 < tw a b c:=by
    apply Y3
    intro z
    refine fl fun q hq=>?_
    have:=(QB q hq).1
    apply Y3
    intro y
    exact z ⟨q,hq,by omega⟩
   obtain ⟨q,hq,pq,kq⟩:=h.over ha hb hc pc fun {q} hq pq _ r hr y=>by
    have:=(QB r hr).1
    have ns:=CQ pq (show tw a b r=0 by omega) ((QB r hr).2 (by omega))
    rw [h.PY a ha b hb q hq r hr pq] at ns
    omega
   exact .inr ((dm a b).mpr ⟨ha,hb,q,hq,pq,kq⟩)
end
end L3
namespace L3
section
variable {Q:List Pl} {ts:List (List Pl)} {H:Pl→Int}
def Full (Q:List Pl) (ts:List (List Pl)):Prop:= ∀ q∈Q,∃ t∈ts,q∈t
def QC (d:Pl):Pt:=⟨d.x,d.y,1⟩
theorem tL (a b d:Pl):hw a b (QC d)=tw a b d:=by unfold hw QC tw;grind
end
end L3
namespace L3
section
variable {Q:List Pl} {ts us:List (List Pl)} {H:Pl→Int} {a b c d:Pl}
theorem MT (a b c p:Pl):tw a b c*dep a b c p=tw b c p*tw c a p*lM a b+tw c a p*tw a b p*lM b c+tw a b p*tw b c p*lM c a:=by unfold dep lM tw;grind
theorem sL {p:Pl} (t:0 < tw a b c) (z1:tw a b p=0) (z2:tw b c p=0):p=b:=by
 obtain ⟨e1,e2⟩:=Fj (X:=QC p) t (by rw [tL];exact z1) (by rw [tL];exact z2)
 have e1:p.x=1*b.x:=e1
 have e2:p.y=1*b.y:=e2
 cases p
 cases b
 simp only at e1 e2
 rw [e1,e2,ab0,ab0]
theorem CT {p:Pl} (t:0 < tw a b c) (w1:0≤tw a b p) (w2:0≤tw b c p) (w3:0≤tw c a p) (na:p≠a) (nb:p≠b) (nc:p≠c):kX a b c p:=by
 refine ql t (DT t ?_)
 rw [MT]
 have n1:a≠b:=fun z=>by rw [z] at t;unfold tw at t;grind
 have n2:b≠c:=fun z=>by rw [z] at t;unfold tw at t;grind
 have n3:c≠a:=fun z=>by rw [z] at t;unfold tw at t;grind
 have d1:=zg n1
 have d2:=zg n2
 have d3:=zg n3
 have m1:=Zi (Zi w2 w3) (ZN d1)
 have m2:=Zi (Zi w3 w1) (ZN d2)
 have m3:=Zi (Zi w1 w2) (ZN d3)
 have k1:¬ (tw a b p=0∧tw b c p=0):=fun z=>nb (sL t z.1 z.2)
 have k2:¬ (tw b c p=0∧tw c a p=0):=fun z=>nc (sL (a:=b) (b:=c) (c:=a) (by have:=sG a b c;omega) z.1 z.2)
 have k3:¬ (tw c a p=0∧tw a b p=0):=fun z=>na (sL (a:=c) (b:=a) (c:=b) (by have:=w4 a b c;omega) z.1 z.2)
 by_cases z1:tw a b p=0
 ·have:=ZC (ZC (show 0 < tw b c p by omega) (show 0 < tw c a p by omega)) d1
  omega
 by_cases z2:tw b c p=0
 ·have:=ZC (ZC (show 0 < tw c a p by omega) (show 0 < tw a b p by omega)) d2
  omega
 have:=ZC (ZC (show 0 < tw a b p by omega) (show 0 < tw b c p by omega)) d3
 omega
def P4 (ts us:List (List Pl)) (a b c d:Pl):Prop:= ∃ t1 t2 u1 u2,t1∈ts∧t2∈ts∧qz t1 a b c∧qz t2 b a d∧qz u1 a d c∧qz u2 b c d∧gm u1∧gm u2∧tw c d a*tw c d b < 0∧us.Perm (u1 :: u2 :: ts.filter (fun t=>decide (t∉[t1,t2])))
theorem MU {t1 t2:List Pl} (nd:ts.Nodup) (n:t1≠t2) (h1:t1∈ts) (h2:t2∈ts):ts.Perm (t1 :: t2 :: ts.filter (fun t=>decide (t∉[t1,t2]))):=by
 refine pS nd (Zp.mpr ⟨fun z=>?_,Zp.mpr ⟨fun z=>?_,nd.filter _⟩⟩) fun t=>?_
 ·rcases Y6.mp z with z | z
  ·exact n z
  ·exact of_decide_eq_true (Zf.mp z).2 (by simp)
 ·exact of_decide_eq_true (Zf.mp z).2 (by simp)
 ·rw [Y6,Y6,Zf]
  constructor
  ·intro h
   by_cases e1:t=t1
   ·exact .inl e1
   ·by_cases e2:t=t2
    ·exact .inr (.inl e2)
    ·exact .inr (.inr ⟨h,decide_eq_true (by simp [e1,e2])⟩)
  ·rintro (rfl | rfl | h)
   ·exact h1
   ·exact h2
   ·exact h.1
theorem J5 {t1 t2:List Pl} (h1:jr Q t1) (h2:jr Q t2) (r1:qz t1 a b c) (r2:qz t2 b a d):t1≠t2:=fun z=>by
 obtain ⟨p1,_⟩:=r1.tw h1
 obtain ⟨p2,_⟩:=r2.tw h2
 rw [z] at r1
 have:c=d:=by
  rcases (r1.mem d).mp ((r2.mem d).mpr (by simp)) with h | h | h
  ·rw [h] at p2;unfold tw at p2;exact absurd p2 (by grind)
  ·rw [h] at p2;unfold tw at p2;exact absurd p2 (by grind)
  ·exact h.symm
 rw [this] at p1
 have:=eK a b d
 omega
theorem P4.SE (k:iL Q ts) (nf:¬ Flat Q) (h:P4 ts us a b c d):iL Q us:=by
 obtain ⟨t1,t2,u1,u2,m1,m2,r1,r2,v1,v2,i1,i2,cv,hp⟩:=h
 exact k.flip nf (MU k.nodup (J5 (k.lW _ m1) (k.lW _ m2) r1 r2) m1 m2) r1 r2 cv hp v1 v2 i1 i2
theorem P4.full (fu:Full Q ts) (h:P4 ts us a b c d):Full Q us:=fun q hq=>by
 obtain ⟨t1,t2,u1,u2,m1,m2,r1,r2,v1,v2,i1,i2,cv,hp⟩:=h
 obtain ⟨t,ht,qt⟩:=fu q hq
 have j1:u1∈us:=hp.mem_iff.mpr (by simp)
 have j2:u2∈us:=hp.mem_iff.mpr (by simp)
 have four:q=a∨q=b∨q=c∨q=d→∃ u∈us,q∈u:=fun h4=>by
  rcases h4 with y | y | y | y
  ·exact ⟨u1,j1,(v1.mem q).mpr (.inl y)⟩
  ·exact ⟨u2,j2,(v2.mem q).mpr (.inl y)⟩
  ·exact ⟨u2,j2,(v2.mem q).mpr (.inr (.inl y))⟩
  ·exact ⟨u2,j2,(v2.mem q).mpr (.inr (.inr y))⟩
 by_cases e1:t=t1
 ·rw [e1] at qt
  refine four ?_
  rcases (r1.mem q).mp qt with y | y | y <;> simp [y]
 ·by_cases e2:t=t2
  ·rw [e2] at qt
   refine four ?_
   rcases (r2.mem q).mp qt with y | y | y <;> simp [y]
  ·exact ⟨t,hp.mem_iff.mpr (Y5 _ (Y5 _ (Zf.mpr ⟨ht,decide_eq_true (by simp [e1,e2])⟩))),qt⟩
end
end L3
namespace L3
section
variable {Q ps:List Pl} {ts:List (List Pl)}
theorem Eh {w:List Pl}:∀ {as bs:List Pl},w∈List.zipWith (fun p q=>[p,q]) as bs→∃ a b,w= [a,b]
 | [],_,h=>by simp at h
 | _ :: _,[],h=>by simp at h
 | x :: as,y :: bs,h=>by
   rw [abF] at h
   rcases Y6.mp h with rfl | h
   ·exact ⟨x,y,rfl⟩
   ·exact Eh h
theorem HV {t:List Pl} (h:gm t):yI t:=by
 obtain ⟨a,b,c,rfl,b1,b2,p⟩:=h
 exact ⟨⟨aG b1,aG b2⟩,p⟩
theorem Ei {P:List Pl→Prop} {r:Option (List Pl)} (h:Fs ts P r) (n:∀ t∈ts,¬ P t):r=none:=by
 have:Fs ts P none:=fun t ht=>n t ht
 exact Fs.uniq h this fun _ _=>Iff.rfl
theorem yR {w:List Pl}:∀ {l:List (List Pl)},l.Nodup→l.count w≤1
 | [],_=>by simp
 | x :: r,nd=>by
   obtain ⟨n,nd⟩:=Zp.mp nd
   have ih:=yR (w:=w) nd
   rw [List.count_cons]
   by_cases e:x=w
   ·subst e
    rw [List.count_eq_zero.mpr n]
    simp
   ·have:(x == w)=false:=by simpa using e
    rw [this]
    simpa using ih
theorem BE (hp:Q.Perm ps) (k:iL Q ts) (fe:Flat Q→ts= []) (fu:¬ Flat Q→Full Q ts) {r:Option Flt} (h:CH ps ts (bx (b8 Q)) r):∃ sp,Hx ts ps sp∧r=match sp with
 | some (t,d)=>some (.sA t d)
 | none=>none:=by
 obtain ⟨al,fl,a1,a2,a3⟩:=h
 have e1:al=none:=Ei a1 fun t ht ⟨q,hq,n⟩=>n (hp.mem_iff.mp ((k.lW t ht).2 q hq))
 subst e1
 have e2:fl=none:=Ei (a2 rfl) fun t ht n=>n (HV (k.lW t ht).1)
 subst e2
 have a3:(Flat ps→r=none)∧(¬ Flat ps→∃ (cf:Option Flt) (sp:Option (List Pl ×Pl)),MA ps ts (bx (b8 Q)) cf∧(cf=none→Hx ts ps sp)∧r=match cf,sp with
  | some f,_=>some f
  | none,some (t,d)=>some (.sA t d)
  | none,none=>none):=a3
 by_cases f:Flat Q
 ·refine ⟨none,fun t ht=>?_,a3.1 ((yE hp).mp f)⟩
  rw [fe f] at ht
  cases ht
 ·obtain ⟨cf,sp,h1,h2,h3⟩:=a3.2 fun z=>f ((yE hp).mpr z)
  have h2':2≤Q.length:=by
   apply Y3
   intro z
   exact f (iZ (by omega))
  obtain ⟨_,_,sl⟩:=tK k.uz h2'
  obtain ⟨d,b,l,c1,c2,c3,c4⟩:=h1
  have e3:d=none:=by
   cases d with
   | none=>rfl
   | some w=>
     have:=yR (w:=w) k.ML.nd
     have c1:PC (bR ts) w∧_:=c1
     have:=c1.1.2
     omega
  subst e3
  have e4:b=none:=by
   cases b with
   | none=>rfl
   | some w=>
     have c2:Hv (bR ts) (bx (b8 Q)) w∧_:=c2 rfl
     rcases c2.1 with ⟨m1,m2,m3⟩ | ⟨m1,m2⟩
     ·obtain ⟨x,y,rfl,_⟩:=kM w m1
      exact absurd ((sl x y).mpr (k.ML.bare x y m1 m2)) m3
     ·have two:∃ x y,w= [x,y]:=by
       have m1:w∈SL Q:=m1
       rw [(tK k.uz h2').2.1] at m1
       exact Eh m1
      obtain ⟨x,y,rfl⟩:=two
      have sd:=(sl x y).mp m1
      rcases k.ML.has x y sd with z | z
      ·refine absurd (jw sd.2.2.1 fun q hq=>?_) f
       have:=(sd.2.2.2 q hq).1
       have:=(z.2.2.2 q hq).1
       have:=eK x y q
       omega
      ·exact absurd z m2
  subst e4
  have e5:l=none:=by
   cases l with
   | none=>rfl
   | some p=>
     have c3:PD ps ts p∧_:=c3 rfl rfl
     obtain ⟨t,ht,m⟩:=fu f p (hp.mem_iff.mpr c3.1.1)
     exact absurd m (c3.1.2 t ht)
  subst e5
  have c4:cf=none:=c4
  subst c4
  refine ⟨sp,h2 rfl,?_⟩
  rw [h3]
  cases sp with
  | none=>rfl
  | some s=>rfl
theorem HW (s:dZ Q) (nf:¬ Flat Q) {ns:List (List Pl)} (nd:ns.Nodup) (mem:∀ t,t∈ns↔jr Q t∧Eg Q t):Full Q ns:=fun p hp=>by
 have k:=BD s nd mem
 obtain ⟨q,hq,r,hr,t⟩:∃ q∈Q,∃ r∈Q,0 < tw p q r:=by
  apply Y3
  intro z
  apply nf
  have z0:∀ q∈Q,∀ r∈Q,tw p q r=0:=fun q hq r hr=>by
   have n1:¬ 0 < tw p q r:=fun y=>z ⟨q,hq,r,hr,y⟩
   have n2:¬ 0 < tw p r q:=fun y=>z ⟨r,hr,q,hq,y⟩
   have:=ri p q r
   omega
  by_cases e:∀ q∈Q,q=p
  ·exact fun u hu v hv w hw=>by rw [e u hu,e v hv,e w hw];unfold tw;grind
  ·obtain ⟨q,hq,ne⟩:∃ q∈Q,q≠p:=by
    apply Y3
    intro y
    exact e fun q hq=>Y3 fun n=>y ⟨q,hq,n⟩
   exact jw (a:=p) (b:=q) (Ne.symm ne) fun r hr=>z0 q hq r hr
 have hN:0 < (QC p).N:=by show (0:Int) < 1;decide
 obtain ⟨u,hu,a,b,c,rfl,wk⟩:=k.holds nf hN hp hq hr t (by
  unfold Wk
  rw [tL,tL,tL]
  have e1:tw p q p=0:=by unfold tw;grind
  have e2:tw r p p=0:=by unfold tw;grind
  have e3:=sG p q r
  omega)
 refine ⟨_,hu,?_⟩
 unfold Wk at wk
 rw [tL,tL,tL] at wk
 obtain ⟨hT,hC⟩:=(mem _).mp hu
 have r0:qz [a,b,c] a b c:= .inl rfl
 obtain ⟨pt,_⟩:=r0.tw hT
 apply Y3
 intro n
 exact hC p hp (CT pt wk.1 wk.2.1 wk.2.2 (fun e=>n (by simp [e])) (fun e=>n (by simp [e])) (fun e=>n (by simp [e])))
def jP (a b c:Pl):List Pl:=if tw a b c < 0 then [a,c,b] else [a,b,c]
open Classical in
noncomputable def qA (Q:List Pl) (a b c:Pl):List (List Pl):=if tw a b c≠0∧Eg Q (jP a b c) then [jP a b c] else []
noncomputable def tV (Q row:List Pl) (j k i:Nat):List (List Pl):=(row.take i).flatMap fun a=>qA Q a (cH row k) (cH row j)
noncomputable def vC (Q row:List Pl) (j k:Nat):List (List Pl):=(List.range k).flatMap fun k=>tV Q row j k k
noncomputable def tW (Q row:List Pl) (j:Nat):List (List Pl):=(List.range j).flatMap fun j=>vC Q row j j
theorem rq {α β:Type} {f:α→List β}:∀ {l:List α},l.Nodup→(∀ x∈l,(f x).Nodup)→(∀ x∈l,∀ y∈l,∀ z,z∈f x→z∈f y→x=y)→(l.flatMap f).Nodup
 | [],_,_,_=> .nil
 | x :: r,nd,h1,h2=>by
   obtain ⟨n,nd⟩:=Zp.mp nd
   rw [aad]
   refine aan.mpr ⟨h1 x (by simp),rq nd (fun y hy=>h1 y (Y5 _ hy)) fun y hy z hz=>h2 y (Y5 _ hy) z (Y5 _ hz),fun u hu v hv e=>?_⟩
   subst e
   obtain ⟨y,hy,m⟩:=ZS.mp hv
   have:=h2 x (by simp) y (Y5 _ hy) u hu m
   rw [this] at n
   exact n hy
theorem pT (a b c:Pl):(jP a b c).Perm [a,b,c]:=by
 unfold jP
 split
 ·exact .cons _ (.swap _ _ _)
 ·exact .refl _
theorem Ej {a b c:Pl} (h1:aL a b) (h2:aL b c) (n:tw a b c≠0):gm (jP a b c):=by
 unfold jP
 split
 ·exact ⟨a,c,b,rfl,aZ h1 h2,h1,by have:=ri a b c;omega⟩
 ·exact ⟨a,b,c,rfl,h1,aZ h1 h2,by omega⟩
theorem gU {a b c:Pl} {t:List Pl}:t∈qA Q a b c↔tw a b c≠0∧Eg Q (jP a b c)∧t=jP a b c:=by
 unfold qA
 split
 ·rename_i h
  rw [Y8]
  exact ⟨fun e=>⟨h.1,h.2,e⟩,fun e=>e.2.2⟩
 ·rename_i h
  constructor
  ·intro m;cases m
  ·intro m;exact absurd ⟨m.1,m.2.1⟩ h
theorem BF {a b c:Pl} (n:tw a b c≠0) (h:Eg Q (jP a b c)):qA Q a b c= [jP a b c]:=by
 unfold qA
 rw [if_pos ⟨n,h⟩]
theorem rz {a b c:Pl} (n:¬ (tw a b c≠0∧Eg Q (jP a b c))):qA Q a b c= []:=by
 unfold qA
 rw [if_neg n]
theorem CU (a b c:Pl):(qA Q a b c).Nodup:=by
 unfold qA
 split
 ·simp
 ·exact .nil
theorem vD {a b c a' b' c':Pl} (h1:aL a b) (h2:aL b c) (h3:aL a' b') (h4:aL b' c') (e:jP a b c=jP a' b' c'):a=a'∧b=b'∧c=c':=by
 have p: [a,b,c].Perm [a',b',c']:=(pT a b c).symm.trans (e▸pT a' b' c')
 have s:∀ {x y z:Pl},aL x y→aL y z→[x,y,z].Pairwise (fun a b=> ¬ aL b a):=fun {x y z} h k=>by
  simp only [ZF,Y6,Zt,or_false,forall_eq_or_imp,forall_eq,List.Pairwise.nil,and_true,false_implies,implies_true]
  exact ⟨⟨aG h,aG (aZ h k)⟩,aG k⟩
 have:=qV p (s h1 h2) (s h3 h4)
 simpa using this
theorem jQ {row:List Pl} {i:Nat} (h:i < row.length):row[i]?=some (cH row i):=by
 unfold cH
 rw [Zd,Y7 h]
 rfl
theorem dM {row:List Pl} (s:row.Pairwise (fun p q=>aL p q)) {i k:Nat} (h:i < k) (hk:k < row.length):aL (cH row i) (cH row k):=by
 have e1:=jQ (show i < row.length by omega)
 have e2:=jQ hk
 rw [Y7 (by omega)] at e1
 rw [Y7 hk] at e2
 have:=aay.mp s i k (by omega) hk h
 rw [Option.some.inj e1,Option.some.inj e2] at this
 exact this
theorem Ek {row:List Pl} (s:row.Pairwise (fun p q=>aL p q)) {i k:Nat} (hi:i < row.length) (hk:k < row.length) (e:cH row i=cH row k):i=k:=by
 rcases abi i k with h | h | h
 ·exact absurd (e▸dM s h hk) (aY _)
 ·exact h
 ·exact absurd (e▸dM s h hi) (aY _)
theorem oH {row:List Pl} {k:Nat} {a:Pl} (hk:k≤row.length):a∈row.take k↔∃ i,i < k∧a=cH row i:=by
 rw [List.mem_take_iff_getElem]
 constructor
 ·rintro ⟨i,hi,rfl⟩
  refine ⟨i,by omega,?_⟩
  have:=jQ (show i < row.length by omega)
  rw [Y7 (by omega)] at this
  exact Option.some.inj this
 ·rintro ⟨i,hi,rfl⟩
  refine ⟨i,by omega,?_⟩
  have:=jQ (show i < row.length by omega)
  rw [Y7 (by omega)] at this
  exact Option.some.inj this
theorem rA {row:List Pl} {j k i:Nat} (hi:i≤row.length) {t:List Pl}:t∈tV Q row j k i↔∃ i',i' < i∧t∈qA Q (cH row i') (cH row k) (cH row j):=by
 unfold tV
 rw [ZS]
 constructor
 ·rintro ⟨a,ha,m⟩
  obtain ⟨i',h,rfl⟩:=(oH hi).mp ha
  exact ⟨i',h,m⟩
 ·rintro ⟨i',h,m⟩
  exact ⟨_,(oH hi).mpr ⟨i',h,rfl⟩,m⟩
theorem HX {row:List Pl} (s:row.Pairwise (fun p q=>aL p q)) (hm:∀ q,q∈row↔q∈Q):(tW Q row row.length).Nodup∧∀ t,t∈tW Q row row.length↔jr Q t∧Eg Q t:=by
 have mJ:∀ {j t},j≤row.length→t∈vC Q row j j→∃ i k,i < k∧k < j∧t∈qA Q (cH row i) (cH row k) (cH row j):=fun {j t} hj m=>by
  obtain ⟨k,hk,m⟩:=ZS.mp m
  have hk:=Z1.mp hk
  obtain ⟨i,hi,m⟩:=(rA (by omega)).mp m
  exact ⟨i,k,hi,hk,m⟩
 constructor
 ·refine rq ab4 (fun j hj=>?_) fun j hj j' hj' t m m'=>?_
  ·have hj:=Z1.mp hj
   refine rq ab4 (fun k hk=>?_) fun k hk k' hk' t m m'=>?_
   ·have hk:=Z1.mp hk
    refine rq ((s.imp fun h=>lJ h).sublist (aaY _ _)) (fun a _=>CU _ _ _) fun a ha a' ha' t m m'=>?_
    obtain ⟨i,hi,rfl⟩:=(oH (by omega)).mp ha
    obtain ⟨i',hi',rfl⟩:=(oH (by omega)).mp ha'
    obtain ⟨_,_,e⟩:=gU.mp m
    obtain ⟨_,_,e'⟩:=gU.mp m'
    exact (vD (dM s hi (by omega)) (dM s hk hj) (dM s hi' (by omega)) (dM s hk hj) (e.symm.trans e')).1
   ·have hk:=Z1.mp hk
    have hk':=Z1.mp hk'
    obtain ⟨i,hi,m⟩:=(rA (by omega)).mp m
    obtain ⟨i',hi',m'⟩:=(rA (by omega)).mp m'
    obtain ⟨_,_,e⟩:=gU.mp m
    obtain ⟨_,_,e'⟩:=gU.mp m'
    exact Ek s (by omega) (by omega) (vD (dM s hi (by omega)) (dM s hk hj) (dM s hi' (by omega)) (dM s hk' hj) (e.symm.trans e')).2.1
  ·have hj:=Z1.mp hj
   have hj':=Z1.mp hj'
   obtain ⟨i,k,hi,hk,m⟩:=mJ (by omega) m
   obtain ⟨i',k',hi',hk',m'⟩:=mJ (by omega) m'
   obtain ⟨_,_,e⟩:=gU.mp m
   obtain ⟨_,_,e'⟩:=gU.mp m'
   exact Ek s hj hj' (vD (dM s hi (by omega)) (dM s hk hj) (dM s hi' (by omega)) (dM s hk' hj') (e.symm.trans e')).2.2
 ·intro t
  have ix:∀ q∈Q,∃ i,i < row.length∧q=cH row i:=fun q hq=>by
   have:=(oH (row:=row) (k:=row.length) (a:=q) (Zb _)).mp (by rw [ZE];exact (hm q).mpr hq)
   exact this
  have iq:∀ i,i < row.length→cH row i∈Q:=fun i hi=>(hm _).mp (Y9 (jQ hi))
  have K1:∀ {i k},i < row.length→k < row.length→aL (cH row i) (cH row k)→i < k:=fun {i k} hi hk b=>by
   rcases abi i k with h | h | h
   ·exact h
   ·rw [h] at b;exact absurd b (aY _)
   ·exact absurd b (aG (dM s h hi))
  constructor
  ·intro m
   obtain ⟨j,hj,m⟩:=ZS.mp m
   have hj:=Z1.mp hj
   obtain ⟨i,k,hi,hk,m⟩:=mJ (by omega) m
   obtain ⟨n,cl,rfl⟩:=gU.mp m
   refine ⟨⟨Ej (dM s hi (by omega)) (dM s hk hj) n,fun q hq=>?_⟩,cl⟩
   have:=(pT _ _ _).mem_iff.mp hq
   simp only [Y6,Zt,or_false] at this
   rcases this with rfl | rfl | rfl <;> exact iq _ (by omega)
  ·rintro ⟨hT,cl⟩
   have put:∀ {x y z:Pl},x∈Q→y∈Q→z∈Q→aL x y→aL y z→tw x y z≠0→t=jP x y z→t∈tW Q row row.length:=fun {x y z} hx hy hz b1 b2 n e=>by
    obtain ⟨i,hi,rfl⟩:=ix x hx
    obtain ⟨k,hk,rfl⟩:=ix y hy
    obtain ⟨j,hj,rfl⟩:=ix z hz
    have ik:=K1 hi hk b1
    have kj:=K1 hk hj b2
    refine ZS.mpr ⟨j,Z1.mpr hj,ZS.mpr ⟨k,Z1.mpr kj,(rA (by omega)).mpr ⟨i,ik,gU.mpr ⟨n,?_,e⟩⟩⟩⟩
    rw [← e]
    exact cl
   obtain ⟨⟨x,y,z,rfl,b1,b2,p⟩,hm2⟩:=hT
   have hx:=hm2 x (by simp)
   have hy:=hm2 y (by simp)
   have hz:=hm2 z (by simp)
   have ne:y≠z:=fun e=>by rw [e] at p;unfold tw at p;exact absurd p (by grind)
   rcases bV y z with h | h | h
   ·refine put hx hy hz b1 h (by omega) ?_
    unfold jP
    rw [if_neg (by omega)]
   ·exact absurd h ne
   ·have:=ri x y z
    refine put hx hz hy b2 h (by omega) ?_
    unfold jP
    rw [if_pos (by omega)]
def P5:Nat→Nat
 | 0=>0
 | k+1=>P5 k+k
def P6:Nat→Nat
 | 0=>0
 | j+1=>P6 j+P5 j
theorem HY (a b c:Pl):(qA Q a b c).length≤1:=by
 unfold qA
 split <;> simp
theorem BG (row:List Pl) (j k:Nat):∀ i,(tV Q row j k i).length≤i:=fun i=>by
 unfold tV
 have key:∀ l:List Pl,(l.flatMap fun a=>qA Q a (cH row k) (cH row j)).length≤l.length:=fun l=>by
  induction l with
  | nil=>exact Zb _
  | cons x r ih=>
    rw [aad,Zh,Zj]
    have:=HY (Q:=Q) x (cH row k) (cH row j)
    omega
 have:=key (row.take i)
 rw [ZO] at this
 omega
theorem yS (row:List Pl) (j k:Nat):vC Q row j (k+1)=vC Q row j k ++ tV Q row j k k:=by
 unfold vC
 rw [ab7,aaA]
 simp
theorem yT (row:List Pl) (j:Nat):tW Q row (j+1)=tW Q row j ++ vC Q row j j:=by
 unfold tW
 rw [ab7,aaA]
 simp
theorem iR {row:List Pl} {j k i:Nat} (h:i < row.length):tV Q row j k (i+1)=tV Q row j k i ++ qA Q (cH row i) (cH row k) (cH row j):=by
 unfold tV
 rw [Z7,jQ h,aaA]
 simp
theorem vE (row:List Pl) (j:Nat):∀ k,(vC Q row j k).length≤P5 k
 | 0=>Zb _
 | k+1=>by
   rw [yS,Zh]
   have:=vE row j k
   have:=BG (Q:=Q) row j k k
   unfold P5
   omega
theorem vF (row:List Pl):∀ j,(tW Q row j).length≤P6 j
 | 0=>Zb _
 | j+1=>by
   rw [yT,Zh]
   have:=vF row j
   have:=vE (Q:=Q) row j j
   unfold P6
   omega
end
end L3
namespace HD
open PySem PySem.W L2
theorem P7:dA=pI:=funext fun s=>by cases s <;> rfl
theorem P8:dB=iH:=funext fun s=>by cases s <;> rfl
theorem P9:dS=ay:=funext fun s=>by cases s <;> rfl
def BZ (h:Heap):List Addr→Frag
 | []=>[]
 | a :: r=>match h.get? a with
   | some o=>(a,o) :: BZ h r
   | none=>BZ h r
theorem CV (h:Heap):∀ as:List Addr,(BZ h as).In h
 | [],_,_,e=>nomatch e
 | b :: r,a,o,e=>by
   unfold BZ at e
   cases q:h.get? b with
   | none=>rw [q] at e;exact CV h r a o e
   | some x=>
     rw [q] at e
     replace e:List.lookup a ((b,x) :: BZ h r)=some o:=e
     rw [ZQ] at e
     cases z:a == b with
     | true=>
       rw [z] at e
       obtain rfl:a=b:=eq_of_beq z
       cases e;exact q
     | false=>rw [z] at e;exact CV h r a o e
theorem vG {h:Heap} {a:Addr} {o:Obj} (e:h.get? a=some o):∀ {as:List Addr},a∈as→(BZ h as).lookup a=some o
 | b :: r,m=>by
   unfold BZ
   by_cases z:a=b
   ·subst z
    rw [e]
    show List.lookup a ((a,o) :: BZ h r)=some o
    rw [ZQ,beq_self_eq_true]
   ·have m':a∈r:=by
     rcases Y6.mp m with y | y
     ·exact absurd y z
     ·exact y
    cases q:h.get? b with
    | none=>exact vG e m'
    | some x=>
      show List.lookup a ((b,x) :: BZ h r)=some o
      rw [ZQ,beq_eq_false_iff_ne.mpr z]
      exact vG e m'
theorem J6 {K:Frag} {o:Obj} (e:K.lookup mainGlobals=some o) (n:Str):nsIn K mainGlobals n=nsIn [(mainGlobals,o)] mainGlobals n:=by
 unfold nsIn
 rw [e]
 rfl
def adr (h:Heap) (n:Str):List Addr:=match fnAt h n with
 | some (f,fd)=>f :: (match fd.code with | .ref c=>[c] | _=>[])
 | none=>[]
def SG (h:Heap) (fs:List (Str ×Stmt)):List Addr:=mainGlobals :: fs.flatMap fun p=>adr h p.1
def TY (K:Frag) (p:Str ×Stmt):Prop:= ∃ f fd,nsIn K mainGlobals p.1=some (some (.ref f))∧gY K p.1 p.1 p.2 f fd
def CH (K:Frag):List (Str ×Stmt)→Prop
 | []=>True
 | p :: r=>TY K p∧CH K r
def AllB (K:Frag):List Str→Prop
 | []=>True
 | b :: r=>nsIn K mainGlobals b=some none∧AllB K r
def YP (fs:List (Str ×Stmt)) (bs:List Str) (h:Heap):Prop:= ∃ K:Frag,K.In h∧CH K fs∧AllB K bs
theorem keeps {fs:List (Str ×Stmt)} {bs:List Str} {h h':Heap} (y:YP fs bs h) (k:∀ b o,h.get? b=some o→h'.get? b=some o):YP fs bs h':=
 let ⟨K,i,a,b⟩:=y
 ⟨K,i.keeps k,a,b⟩
theorem HZ {h:Heap} {as:List Addr} {n:Str} {r:Option Value} (m:mainGlobals∈as) (e:Nl h n=some r):nsIn (BZ h as) mainGlobals n=some r:=by
 unfold Nl at e
 cases q:h.get? mainGlobals with
 | none=>rw [q] at e;cases e
 | some o=>rw [q] at e;rw [J6 (vG q m)];exact e
theorem J7 {h:Heap} {n:Str} {f:Addr} {fd:FuncData} (e:fnAt h n=some (f,fd)):Nl h n=some (some (.ref f))∧∃ oc od sl,h.get? f=some ⟨oc,od,.func fd,sl⟩:=by
 unfold fnAt at e
 split at e
 ·rename_i g hg
  split at e
  ·rename_i oc od fd' sl hq
   cases e
   exact ⟨hg,oc,od,sl,hq⟩
  ·cases e
 ·cases e
theorem BH {h:Heap} {v:Value} {q:Str} {as:List Addr} (e:nD h v=some q) (m:∀ c,v= .ref c→c∈as):codeIn (BZ h as) v q=true:=by
 unfold nD at e
 split at e
 ·rename_i c
  split at e
  ·rename_i oc od vs sl hc
   split at e
   ·rename_i a q' tk r hv
    cases e
    unfold codeIn
    dsimp only
    rw [vG hc (m c rfl)]
    dsimp only
    rw [hv]
    dsimp only
    exact beq_self_eq_true _
   ·cases e
  ·cases e
 ·cases e
theorem MV {h:Heap} {p:Str ×Stmt} {as:List Addr} (m0:mainGlobals∈as) (m:∀ a∈adr h p.1,a∈as)
 (e:(fnAt h p.1).map (fun x=>(blank x.2,nD h x.2.code))=some (fnOf p.1 p.1 (pI p.2) (iH p.2) (ay p.2) .none .none .none .none none .none .none,some p.1)):TY (BZ h as) p:=by
 obtain ⟨⟨f,fd⟩,hf,hq⟩:=aa2.mp e
 obtain ⟨h1,oc,od,sl,h2⟩:=J7 hf
 obtain ⟨e1,e2⟩:=Prod.mk.inj hq
 have hadr:adr h p.1=f :: (match fd.code with | .ref c=>[c] | _=>[]):=by unfold adr;rw [hf]
 have SH:f∈as:=m f (by rw [hadr];exact .head _)
 have lk:=vG h2 SH
 have hc:codeIn (BZ h as) fd.code p.1=true:=BH e2 fun c hc=>m c (by rw [hadr,hc];exact .tail _ (.head _))
 have hfd:fd=fnOf p.1 p.1 (pI p.2) (iH p.2) (ay p.2) .none fd.kwdefaults fd.doc fd.pyModule fd.annotations fd.code fd.closureTuple:=by
  cases fd
  unfold blank at e1
  simp only [FuncData.mk.injEq] at e1
  obtain ⟨a1,a2,a3,a4,a5,a6,a7,a8,a9⟩:=e1
  simp only [FuncData.mk.injEq]
  exact ⟨a1,a2,a3,a4,a5,a6,a7,a8,trivial,trivial,trivial,trivial,trivial,trivial,by simpa using a9⟩
 refine ⟨f,fd,HZ m0 h1,⟨oc,od,fd.kwdefaults,fd.doc,fd.pyModule,fd.annotations,fd.code,fd.closureTuple,sl,hfd,lk,hc⟩,?_⟩
 unfold keepIn
 dsimp only
 rw [lk]
theorem El {h:Heap} {as:List Addr} (m0:mainGlobals∈as):∀ {fs:List (Str ×Stmt)},(∀ a∈fs.flatMap (fun p=>adr h p.1),a∈as)→
 fs.map (fun p=>(fnAt h p.1).map fun x=>(blank x.2,nD h x.2.code))=fs.map (fun p=>some (fnOf p.1 p.1 (pI p.2) (iH p.2) (ay p.2) .none .none .none .none none .none .none,some p.1))→CH (BZ h as) fs
 | [],_,_=>trivial
 | p :: r,m,e=>by
   rw [ZK,ZK] at e
   obtain ⟨e1,e2⟩:=List.cons.inj e
   rw [aad] at m
   exact ⟨MV m0 (fun a ha=>m a (Zq.mpr (.inl ha))) e1,El m0 (fun a ha=>m a (Zq.mpr (.inr ha))) e2⟩
theorem allB_of {h:Heap} {as:List Addr} (m0:mainGlobals∈as):∀ {bs:List Str},bs.map (fun b=>Nl h b)=bs.map (fun _=>some none)→AllB (BZ h as) bs
 | [],_=>trivial
 | b :: r,e=>by
   rw [ZK,ZK] at e
   obtain ⟨e1,e2⟩:=List.cons.inj e
   exact ⟨HZ m0 e1,allB_of m0 e2⟩
theorem MW {fs:List (Str ×Stmt)} {bs:List Str} {s:Shared} (e:B0 fs bs s=good fs bs):YP fs bs s.heap:=
 let ⟨e1,e2⟩:=Prod.mk.inj (by rw [good,P7,P8,P9] at e;exact e)
 ⟨BZ s.heap (SG s.heap fs),CV _ _,El (.head _) (fun _ ha=> .tail _ ha) e1,allB_of (.head _) e2⟩
theorem Ia {l:OpenLaw} {n k:Nat} {q:Program} {loose:List Str} {XP:(Str→Option Value)→Heap→Prop} {YP:World→Heap→Prop} {d:DefRec} {CX:Gi} {sp:Frag→Sp} {x:Str}
 (hn:l.most=some n) (hn2:n≤sizeLine) (hdf:d.params.defaults= []) (hr:jJ k callerA)
 (F:∀ (w:World) (mg:Str→Option Value) (fa:Addr) (h:Heap),YP w h→h.Ns mainGlobals mg→mg d.name=some (.ref fa)→
  ∃ (K:Frag) (fd:FuncData),K.In h∧(∀ (s:Shared) (u:Value),BindsTo s fd ⟨[u],[]⟩ [(x,u)])∧
    ∀ base:Heap,K.In base→base.Ns mainGlobals mg→bS l.prog w K mg base CX k fa fd [x] (sp K))
 (AR:∀ (K:Frag) (H:Hp) (a:Addr) (ns:List Int),ns.length≤n→(∀ z∈ns,Att.DN z)→IX H→iD K H a (ns.map V.int)→sp K [.ref a] H (fun v _=>v= .bl true) fun _ _ _=>False)
 (Rp:∀ (H:Hp) (s:Shared) (e:Value) (s':Shared),CX [] H s (fun _ _ _=>False) e s'→False) :
 WalkO q loose XP YP l.row.toRowW d [] (fun f vs=>PySem.call f vs):=by
 refine Att.zl hn hdf fun w s₀ s₁ mg mb fa o pm cd doc a vs ns G Y ho hd hcd hmg hobj hints hlen hbig hg=>?_
 obtain ⟨K,fd,KX,hb,hF⟩:=F w mg fa _ Y G.T.g hmg
 exact Gu (CX:=CX) (sp:=sp K) KX G.T.g G.T.b G.T.builtins G.T.nolimit hg hobj hints (aae hlen hn2) hr hF hb (fun H hO hS=>AR K H a ns hlen hbig hO hS) fun H e s'=>Rp H s₁ e s'
end HD
namespace Pf
open PySem L2 L3
set_option genInjectivity false in
set_option genSizeOf false in
structure Ad where
 oJ:Addr
 lX:FuncData
 gA:Addr
 fX:FuncData
 jR:Addr
 i6:FuncData
 lY:Addr
 jS:FuncData
 lZ:Addr
 jT:FuncData
 l0:Addr
 jU:FuncData
 jV:Addr
 i7:FuncData
 l8:Addr
 jW:FuncData
 jX:Addr
 i8:FuncData
 jY:Addr
 i9:FuncData
 l9:Addr
 jZ:FuncData
 qB:Addr
 oK:FuncData
 j3:Addr
 ja:FuncData
 CW:Addr
 zS:FuncData
 zT:Addr
 vH:FuncData
 CY:Addr
 zU:FuncData
 j4:Addr
 jb:FuncData
 mh:Addr
 j5:FuncData
 j6:Addr
 jc:FuncData
 vI:Addr
 sM:FuncData
 gB:Addr
 fY:FuncData
 jd:Addr
 ic:FuncData
 je:Addr
 ie:FuncData
 sN:Addr
 qC:FuncData
 ig:Addr
 gC:FuncData
 CZ:Addr
 zV:FuncData
 mj:Addr
 j7:FuncData
 jf:Addr
 iw:FuncData
 j8:Addr
 jg:FuncData
 oM:Addr
 mw:FuncData
 zW:Addr
 vJ:FuncData
 C0:Addr
 zX:FuncData
 vK:Addr
 sO:FuncData
 jh:Addr
 iy:FuncData
 zY:Addr
 vL:FuncData
 qD:Addr
 oO:FuncData
 oQ:Addr
 mC:FuncData
 ji:Addr
 iz:FuncData
 dN:Addr
 dg:FuncData
 mD:Addr
 j9:FuncData
 cX:Addr
 cI:FuncData
 kc:Addr
 jj:FuncData
 zZ:Addr
 vM:FuncData
 mE:Addr
 kg:FuncData
 Ib:Addr
 C3:FuncData
structure Txt (K:PySem.W.Frag) (mg:Str→Option Value) (t:Ad):Prop where
 bK:gY K "_law_cell" "_law_cell" nE t.oJ t.lX
 cj:mg "_law_cell" =some (.ref t.oJ)
 gD:gY K "_law_by_digits" "_law_by_digits" gn t.gA t.fX
 sP:mg "_law_by_digits" =some (.ref t.gA)
 gJ:gY K "_law_ringed" "_law_ringed" jB t.jR t.i6
 p9:mg "_law_ringed" =some (.ref t.jR)
 mF:gY K "_law_lined" "_law_lined" kY t.lY t.jS
 Aa:mg "_law_lined" =some (.ref t.lY)
 mG:gY K "_law_great" "_law_great" kZ t.lZ t.jT
 Ab:mg "_law_great" =some (.ref t.lZ)
 mH:gY K "_law_place" "_law_place" k6 t.l0 t.jU
 Ac:mg "_law_place" =some (.ref t.l0)
 kh:gY K "_law_places" "_law_places" jC t.jV t.i7
 w6:mg "_law_places" =some (.ref t.jV)
 bN:gY K "_law_twice" "_law_twice" k7 t.l8 t.jW
 cz:mg "_law_twice" =some (.ref t.l8)
 ki:gY K "_law_lifted" "_law_lifted" gE t.jX t.i8
 w9:mg "_law_lifted" =some (.ref t.jX)
 gK:gY K "_law_spoils" "_law_spoils" jD t.jY t.i9
 qa:mg "_law_spoils" =some (.ref t.jY)
 mK:gY K "_law_clear" "_law_clear" k8 t.l9 t.jZ
 Ae:mg "_law_clear" =some (.ref t.l9)
 qE:gY K "_law_net" "_law_net" qf t.qB t.oK
 C4:mg "_law_net" =some (.ref t.qB)
 ko:gY K "first_alien" "first_alien" jE t.j3 t.ja
 xg:mg "first_alien" =some (.ref t.j3)
 vN:gY K "sign" "sign" B3 t.CW t.zS
 C5:mg "sign" =some (.ref t.CW)
 mL:gY K "twice" "twice" yX t.zT t.vH
 rB:mg "twice" =some (.ref t.zT)
 mO:gY K "turn" "turn" B4 t.CY t.zU
 qF:mg "turn" =some (.ref t.CY)
 kr:gY K "is_triangle" "is_triangle" jF t.j4 t.jb
 xh:mg "is_triangle" =some (.ref t.j4)
 mP:gY K "first_flat" "first_flat" k9 t.mh t.j5
 Af:mg "first_flat" =some (.ref t.mh)
 ku:gY K "on_one_line" "on_one_line" jG t.j6 t.jc
 xj:mg "on_one_line" =some (.ref t.j6)
 rC:gY K "rounds" "rounds" uC t.vI t.sM
 BI:mg "rounds" =some (.ref t.vI)
 eV:gY K "directed_sides" "directed_sides" c7 t.gB t.fY
 kO:mg "directed_sides" =some (.ref t.gB)
 jk:gY K "least_double" "least_double" fL t.jd t.ic
 vO:mg "least_double" =some (.ref t.jd)
 fZ:gY K "without_bays" "without_bays" iS t.je t.ie
 oR:mg "without_bays" =some (.ref t.je)
 sQ:gY K "outline" "outline" rN t.sN t.qC
 Fq:mg "outline" =some (.ref t.sN)
 fB:gY K "outline_sides" "outline_sides" gZ t.ig t.gC
 m6:mg "outline_sides" =some (.ref t.ig)
 C6:gY K "back" "back" B5 t.CZ t.zV
 MX:mg "back" =some (.ref t.CZ)
 mQ:gY K "least_bare" "least_bare" fM t.mj t.j7
 Ag:mg "least_bare" =some (.ref t.mj)
 jl:gY K "least_lonely" "least_lonely" fO t.jf t.iw
 vP:mg "least_lonely" =some (.ref t.jf)
 kB:gY K "cover_fault" "cover_fault" jH t.j8 t.jg
 xm:mg "cover_fault" =some (.ref t.j8)
 oU:gY K "ring_area" "ring_area" nF t.oM t.mw
 BJ:mg "ring_area" =some (.ref t.oM)
 rD:gY K "apart" "apart" yY t.zW t.vJ
 Ah:mg "apart" =some (.ref t.zW)
 C7:gY K "ring" "ring" B6 t.C0 t.zX
 MY:mg "ring" =some (.ref t.C0)
 vQ:gY K "spoils" "spoils" uD t.vK t.sO
 Ic:mg "spoils" =some (.ref t.vK)
 jm:gY K "spoilt_fault" "spoilt_fault" fR t.jh t.iy
 vR:mg "spoilt_fault" =some (.ref t.jh)
 uA:gY K "fault" "fault" yZ t.zY t.vL
 Em:mg "fault" =some (.ref t.zY)
 mR:gY K "_law_far" "_law_far" qg t.qD t.oO
 vS:mg "_law_far" =some (.ref t.qD)
 fK:gY K "_law_laid" "_law_laid" nG t.oQ t.mC
 jy:mg "_law_laid" =some (.ref t.oQ)
 gb:gY K "_law_flipped" "_law_flipped" fS t.ji t.iz
 oV:mg "_law_flipped" =some (.ref t.ji)
 dO:gY K "_law_cover_by_digits" "_law_cover_by_digits" dH t.dN t.dg
 mS:mg "_law_cover_by_digits" =some (.ref t.dN)
 mT:gY K "_law_cover" "_law_cover" lA t.mD t.j9
 Ai:mg "_law_cover" =some (.ref t.mD)
 cA:gY K "_law_alike" "_law_alike" lB t.cX t.cI
 gc:mg "_law_alike" =some (.ref t.cX)
 gM:gY K "triangle_of" "triangle_of" jI t.kc t.jj
 qb:mg "triangle_of" =some (.ref t.kc)
 Aj:gY K "swept" "swept" pH t.zZ t.vM
 J8:mg "swept" =some (.ref t.zZ)
 mU:gY K "_law_first" "_law_first" iF t.mE t.kg
 Ak:mg "_law_first" =some (.ref t.mE)
 K2:gY K "law" "law" FT t.Ib t.C3
 TZ:mg "law" =some (.ref t.Ib)
 cN:mg "len" =none
 dh:mg "range" =none
 oW:mg "min" =none
 eW:mg "sorted" =none
 MZ:mg "max" =none
 dP:mg "list" =none
 BK:mg "reversed" =none
 Na:mg "zip" =none
 aB:mg "isinstance" =none
 oX:mg "int" =none
 oY:mg "str" =none
 gW:mg "tuple" =none
 uB:mg "bool" =none
theorem rE:aI ["_law_script","_law_k","_law_number"] ["_law_script","_law_k"] (ay nE):=⟨rfl,rfl,rfl,by decide +kernel,rfl,by decide +kernel,by decide +kernel⟩
theorem bL:aI ["_law_script","_law_most","_law_head","_law_base","_law_number","_law_places_here","_law_k","_law_p"] ["_law_script","_law_most"] (ay gn):=⟨rfl,rfl,rfl,by decide +kernel,rfl,by decide +kernel,by decide +kernel⟩
theorem cB:aI ["_law_cell_here","_law_far_here","_law_x","_law_y","_law_spot","_law_across","_law_up","_law_k"] ["_law_cell_here","_law_far_here","_law_x","_law_y"] (ay jB):=⟨rfl,rfl,rfl,by decide +kernel,rfl,by decide +kernel,by decide +kernel⟩
theorem gO:aI ["_law_cell_here","_law_frame","_law_spanned","_law_x","_law_y"] ["_law_cell_here","_law_frame"] (ay kY):=⟨rfl,rfl,rfl,by decide +kernel,rfl,by decide +kernel,by decide +kernel⟩
theorem kC:aI ["_law_cell_here","_law_x","_law_y"] ["_law_cell_here"] (ay kZ):=⟨rfl,rfl,rfl,by decide +kernel,rfl,by decide +kernel,by decide +kernel⟩
theorem xo:aI ["_law_kind","_law_cell_here","_law_frame","_law_k"] ["_law_kind","_law_cell_here","_law_frame","_law_k"] (ay k6):=⟨rfl,rfl,rfl,by decide +kernel,rfl,by decide +kernel,by decide +kernel⟩
theorem di:aI ["_law_script","_law_most","_law_head","_law_frame","_law_places_here","_law_k","_law_p"] ["_law_script","_law_most"] (ay jC):=⟨rfl,rfl,rfl,by decide +kernel,rfl,by decide +kernel,by decide +kernel⟩
theorem xq:aI ["_law_a","_law_b","_law_c"] ["_law_a","_law_b","_law_c"] (ay k7):=⟨rfl,rfl,rfl,by decide +kernel,rfl,by decide +kernel,by decide +kernel⟩
theorem jn:aI ["_law_a","_law_b","_law_c","_law_d","_law_high","_law_found"] ["_law_a","_law_b","_law_c","_law_d"] (ay gE):=⟨rfl,rfl,rfl,by decide +kernel,rfl,by decide +kernel,by decide +kernel⟩
theorem eL:aI ["_law_t","_law_d","_law_a","_law_b","_law_c","_law_lifted_here"] ["_law_t","_law_d"] (ay jD):=⟨rfl,rfl,rfl,by decide +kernel,rfl,by decide +kernel,by decide +kernel⟩
theorem qc:aI ["_law_t","_law_places_here","_law_d"] ["_law_t","_law_places_here"] (ay k8):=⟨rfl,rfl,rfl,by decide +kernel,rfl,by decide +kernel,by decide +kernel⟩
theorem dG:aI ["_law_places_here","_law_row","_law_found","_law_j","_law_k","_law_a","_law_t"] ["_law_places_here"] (ay qf):=⟨rfl,rfl,rfl,by decide +kernel,rfl,by decide +kernel,by decide +kernel⟩
theorem jo:aI ["places","triples","t","corner"] ["places","triples"] (ay jE):=⟨rfl,rfl,rfl,by decide +kernel,rfl,by decide +kernel,by decide +kernel⟩
theorem J9:aI ["number"] ["number"] (ay B3):=⟨rfl,rfl,rfl,by decide +kernel,rfl,by decide +kernel,by decide +kernel⟩
theorem Ie:aI ["a","b","c"] ["a","b","c"] (ay yX):=⟨rfl,rfl,rfl,by decide +kernel,rfl,by decide +kernel,by decide +kernel⟩
theorem Ka:aI ["a","b","c"] ["a","b","c"] (ay B4):=⟨rfl,rfl,rfl,by decide +kernel,rfl,by decide +kernel,by decide +kernel⟩
theorem vU:aI ["t"] ["t"] (ay jF):=⟨rfl,rfl,rfl,by decide +kernel,rfl,by decide +kernel,by decide +kernel⟩
theorem qd:aI ["triples","t"] ["triples"] (ay k9):=⟨rfl,rfl,rfl,by decide +kernel,rfl,by decide +kernel,by decide +kernel⟩
theorem oZ:aI ["places","p"] ["places"] (ay jG):=⟨rfl,rfl,rfl,by decide +kernel,rfl,by decide +kernel,by decide +kernel⟩
theorem Ft:aI ["t"] ["t"] (ay uC):=⟨rfl,rfl,rfl,by decide +kernel,rfl,by decide +kernel,by decide +kernel⟩
theorem gf:aI ["cover","ways","t"] ["cover"] (ay c7):=⟨rfl,rfl,rfl,by decide +kernel,rfl,by decide +kernel,by decide +kernel⟩
theorem m8:aI ["triples","ways"] ["triples"] (ay fL):=⟨rfl,rfl,rfl,by decide +kernel,rfl,by decide +kernel,by decide +kernel⟩
theorem iA:aI ["line","chain","p"] ["line"] (ay iS):=⟨rfl,rfl,rfl,by decide +kernel,rfl,by decide +kernel,by decide +kernel⟩
theorem mV:aI ["places","line","there","home"] ["places"] (ay rN):=⟨rfl,rfl,rfl,by decide +kernel,rfl,by decide +kernel,by decide +kernel⟩
theorem kP:aI ["places","border"] ["places"] (ay gZ):=⟨rfl,rfl,rfl,by decide +kernel,rfl,by decide +kernel,by decide +kernel⟩
theorem Kc:aI ["way"] ["way"] (ay B5):=⟨rfl,rfl,rfl,by decide +kernel,rfl,by decide +kernel,by decide +kernel⟩
theorem fj:aI ["places","triples","ways","border","ragged","missing"] ["places","triples"] (ay fM):=⟨rfl,rfl,rfl,by decide +kernel,rfl,by decide +kernel,by decide +kernel⟩
theorem iB:aI ["places","triples","corners","t"] ["places","triples"] (ay fO):=⟨rfl,rfl,rfl,by decide +kernel,rfl,by decide +kernel,by decide +kernel⟩
theorem gg:aI ["places","triples","double","bare","lonely"] ["places","triples"] (ay jH):=⟨rfl,rfl,rfl,by decide +kernel,rfl,by decide +kernel,by decide +kernel⟩
theorem rF:aI ["a","b","c","area"] ["a","b","c"] (ay nF):=⟨rfl,rfl,rfl,by decide +kernel,rfl,by decide +kernel,by decide +kernel⟩
theorem vV:aI ["p","q","right","up"] ["p","q"] (ay yY):=⟨rfl,rfl,rfl,by decide +kernel,rfl,by decide +kernel,by decide +kernel⟩
theorem Al:aI ["a","b","c","d","area","depth"] ["a","b","c","d"] (ay B6):=⟨rfl,rfl,rfl,by decide +kernel,rfl,by decide +kernel,by decide +kernel⟩
theorem sR:aI ["a","b","c","d","lies","three"] ["a","b","c","d"] (ay uD):=⟨rfl,rfl,rfl,by decide +kernel,rfl,by decide +kernel,by decide +kernel⟩
theorem iC:aI ["places","triples","t","spoilers"] ["places","triples"] (ay fR):=⟨rfl,rfl,rfl,by decide +kernel,rfl,by decide +kernel,by decide +kernel⟩
theorem rG:aI ["places","triples","alien","flat","found"] ["places","triples"] (ay yZ):=⟨rfl,rfl,rfl,by decide +kernel,rfl,by decide +kernel,by decide +kernel⟩
theorem o4:aI ["_law_cover_here","_law_a","_law_b","_law_t","_law_k"] ["_law_cover_here","_law_a","_law_b"] (ay qg):=⟨rfl,rfl,rfl,by decide +kernel,rfl,by decide +kernel,by decide +kernel⟩
theorem Am:aI ["_law_a","_law_b","_law_c"] ["_law_a","_law_b","_law_c"] (ay nG):=⟨rfl,rfl,rfl,by decide +kernel,rfl,by decide +kernel,by decide +kernel⟩
theorem fE:aI ["_law_cover_here","_law_a","_law_b","_law_c","_law_d","_law_gone"] ["_law_cover_here","_law_a","_law_b"] (ay fS):=⟨rfl,rfl,rfl,by decide +kernel,rfl,by decide +kernel,by decide +kernel⟩
theorem bT:aI ["_law_number","_law_cover_here","_law_k","_law_t"] ["_law_number","_law_cover_here"] (ay dH):=⟨rfl,rfl,rfl,by decide +kernel,rfl,by decide +kernel,by decide +kernel⟩
theorem fk:aI ["_law_script","_law_start","_law_cover_here","_law_k","_law_number","_law_t"] ["_law_script","_law_start","_law_cover_here"] (ay lA):=⟨rfl,rfl,rfl,by decide +kernel,rfl,by decide +kernel,by decide +kernel⟩
theorem cJ:aI ["_law_found","_law_due","_law_k"] ["_law_found","_law_due"] (ay lB):=⟨rfl,rfl,rfl,by decide +kernel,rfl,by decide +kernel,by decide +kernel⟩
theorem o5:aI ["a","b","c","three"] ["a","b","c"] (ay jI):=⟨rfl,rfl,rfl,by decide +kernel,rfl,by decide +kernel,by decide +kernel⟩
theorem kQ:aI ["places","line","cover","k","p","seen"] ["places"] (ay pH):=⟨rfl,rfl,rfl,by decide +kernel,rfl,by decide +kernel,by decide +kernel⟩
theorem qe:aI ["_law_cover_here","_law_net_here","_law_places_here","_law_t"] ["_law_cover_here","_law_net_here","_law_places_here"] (ay iF):=⟨rfl,rfl,rfl,by decide +kernel,rfl,by decide +kernel,by decide +kernel⟩
theorem jq:aI ["_law_script","_law_most","_law_places_here","_law_net_here","_law_cut","_law_handed","_law_found","_law_cover_here"] ["_law_script"] (ay FT):=⟨rfl,rfl,rfl,by decide +kernel,rfl,by decide +kernel,by decide +kernel⟩
section
variable {P:Program} {w:World} {K:PySem.W.Frag} {mg:Str→Option Value} {base:Heap} {t:Ad}
theorem bO (T:Txt K mg t):Binds K t.lX ["_law_script","_law_k"] []:=T.bK.binds fun _ _ _ _ _ _ us hl=>match us,hl with | [_,_],_=>rfl
def BL:uq:=fun ds Q=> ∃ (ns:List Int) (k:Int),ds= [.ze (ns.map L3.D.int),.int k]∧(∀ z∈ns,Att.DN z)∧ns.length≤63∧0≤k∧k≤1000∧∀ z:Int,Att.DN z→Q (.int z)
theorem bP (T:Txt K mg t):bS P w K mg base eZ 1 t.oJ t.lX ["_law_script","_law_k"] (tT K BL):=by
 refine ym T.bK rE (fun ds Q h=>by (first | (obtain ⟨_,rfl,_⟩:=h;rfl) | (obtain ⟨_,_,rfl,_⟩:=h;rfl) | (obtain ⟨_,_,_,rfl,_⟩:=h;rfl) | (obtain ⟨_,_,_,_,rfl,_⟩:=h;rfl) | (obtain ⟨_,_,_,_,_,rfl,_⟩:=h;rfl) | (obtain ⟨_,_,_,_,_,_,rfl,_⟩:=h;rfl) | (obtain ⟨_,_,_,_,_,_,_,rfl,_⟩:=h;rfl))) (fun cdv A outer s H hr=>?_)
 have hu:=hr.units
 refine ⟨_,(aq (bI (aJ (mZ hu) (aa 1) (aR eE (by rfl) T.cN bf (af (aa 0) aj)) (aC _)) (aA (aD (aO (aa 0) (aa 1)))) aT)
  (aq (bI (aJ (Mh hu) (aa 0) (cR aj) (aC _)) (aA (aD (au bu (au jN (au jN (aa 1) (aa 1)) ai) ai))) aT)
  (aq (aS (i:=2) rE.nd rfl (Or.inl rfl) (au bu (au jN (au dQ (au bu (aO (aa 0) (au bu (aa 1) (aR eE (by rfl) T.cN bf (af (aa 0) aj)))) ai) (au jN (au jN (aa 1) (aa 1)) ai)) ai) ai))
  (aA (aD (au bu (au jN (aa 2) (aa 2)) ai)))))),fun ds Q h=>?_⟩
 obtain ⟨ns,k,rfl,hb,hlen,hk,hk2,h⟩:=h
 have sk:Sm 11 k:=by
  show k.natAbs < 2 ^ 11
  omega
 walk_at "rd"
 refine ⟨_,_,rfl,.inr (.inl rfl),?_⟩
 walk_at "rd"
 refine br (fun c=>?_) (fun c=>?_)
 ·have c:k < ((ns.map L3.D.int).length:Int):=of_decide_eq_true c
  rw [Y4] at c
  obtain ⟨z,mz,hz⟩:=jM hk c
  walk_at "rd"
  exact ⟨_,k,.int z,.inr (.inl rfl),rfl,hz,h z (hb z mz)⟩
 ·walk_at "rd"
  intro p hp
  refine ⟨_,_,.inl rfl,.of ah,Cr ns,rfl,?_⟩
  walk_at "rd"
  refine br (fun c=>?_) (fun c=>?_)
  ·walk_at "rd"
   exact h _ (Hh (n:=31) (by walk_at "smle") (by decide))
  ·have hne:ns≠[]:=fun z=>c (by rw [z];rfl)
   have hpos:0 < ns.length:=aat.mpr hne
   walk_at "rd"
   refine ⟨_,_,rfl,.inr (.inl rfl),?_⟩
   walk_at "rd"
   refine ⟨by rw [Y4];omega,?_⟩
   rw [Y4]
   obtain ⟨z,_,hz⟩:=jM (ns:=ns) (k:=k % (ns.length:Int)) (ZG _ (by omega)) (ZD _ (by omega))
   refine ⟨_,_,.int z,.inr (.inl rfl),rfl,hz,?_⟩
   walk_at "rd"
   exact h _ (Hh (n:=31) (by walk_at "smle") (by decide))
theorem rH (T:Txt K mg t):Binds K t.fX ["_law_script","_law_most"] []:=T.gD.binds fun _ _ _ _ _ _ us hl=>match us,hl with | [_,_],_=>rfl
def sS:pK:=fun ds M Q=> ∃ (ns:List Int) (m:Int),ds= [.ze (ns.map L3.D.int),.int m]∧(∀ z∈ns,Att.DN z)∧ns.length≤63∧0≤m∧m≤40∧∀ (p:Addr) (ps:List Pl),M p=none→ps.Nodup→(∀ q∈ps,q.Ok 136)→(ps.length:Int)≤m→Q (.ref p) (aE M p (.lst (ps.map Pl.d)))
theorem rJ (T:Txt K mg t):bS P w K mg base eZ 2 t.gA t.fX ["_law_script","_law_most"] (pU K sS):=by
 refine rM T.gD bL (fun ds M Q h=>by (first | (obtain ⟨_,rfl,_⟩:=h;rfl) | (obtain ⟨_,_,rfl,_⟩:=h;rfl) | (obtain ⟨_,_,_,rfl,_⟩:=h;rfl) | (obtain ⟨_,_,_,_,rfl,_⟩:=h;rfl) | (obtain ⟨_,_,_,_,_,rfl,_⟩:=h;rfl) | (obtain ⟨_,_,_,_,_,_,rfl,_⟩:=h;rfl) | (obtain ⟨_,_,_,_,_,_,_,rfl,_⟩:=h;rfl))) (fun cdv A outer s H hr=>?_)
 have hu:=hr.units
 refine ⟨_,(aq (aS (i:=2) bL.nd rfl (Or.inl rfl) (au cu (aF (bP T) (hr.mono (by decide)) (by rfl) T.cj T.bK.kp (bO T) (af (aa 0) (af ai aj))) ai))
  (aq (aS (i:=3) bL.nd rfl (Or.inl rfl) (au dQ ai (au bu (aF (bP T) (hr.mono (by decide)) (by rfl) T.cj T.bK.kp (bO T) (af (aa 0) (af ai aj))) (aO (cR (af ai (af ai (af (au dR ai (au nR ai ai)) aj)))) (au bu (aa 2) ai)))))
  (aq (aS (i:=4) bL.nd rfl (Or.inl rfl) (aF (bP T) (hr.mono (by decide)) (by rfl) T.cj T.bK.kp (bO T) (af (aa 0) (af ai aj))))
  (aq (aS (i:=5) bL.nd rfl (Or.inl rfl) (cR aj))
  (aq (gv PassesOwn.never rfl (by rfl) T.dh (af (au bu (au cu (aa 2) ai) (au dQ (aa 1) ai)) aj) (bW (i:=6) bL.nd rfl (Or.inl rfl)) (aq (aS (i:=7) bL.nd rfl (Or.inl rfl) (cL (af (au cO (au bu (aa 4) (aa 3)) (au cu (aa 3) ai)) (af (au cO (au bu (au cu (aa 4) (aa 3)) (aa 3)) (au cu (aa 3) ai)) aj))))
  (aq (aS (i:=4) bL.nd rfl (Or.inl rfl) (au cu (au cu (aa 4) (aa 3)) (aa 3)))
  (aA (bI (aJ (iI hu) (aa 7) (aa 5) (by with_unfolding_all rfl)) (aA (nV (DF (aa 5) (aa 7) (sW PySem.F.plainAttrs_list PySem.F.slot_list_append PySem.F.type_list_append kF (cK.dn (aa 5)) (iG (cK.dn (aa 7)) lD))))) aT)))))
  (aA (aD (aa 5)))))))),fun ds M Q h=>?_⟩
 obtain ⟨ns,m,rfl,hb,hlen,hm0,hm1,h⟩:=h
 walk_at "rd"
 refine ⟨hb,hlen,by decide,by decide,fun NB _=>?_⟩
 walk_at "rd"
 refine ⟨hb,hlen,by decide,by decide,fun Qa _=>?_⟩
 walk_at "rd"
 intro q hq
 walk_at "rd"
 obtain ⟨z0,m0,e0⟩:=jM (ns:=[3,40,2*10 ^ 39]) (k:=NB / 2 % 3) (ZG _ (by decide)) (ZD _ (by decide))
 have s0:∀ z∈([3,40,2*10 ^ 39]:List Int),0 < z∧z≤2*10 ^ 39:=by decide
 obtain ⟨z1,z2⟩:=s0 z0 m0
 refine ⟨_,_,_,.inr (.inr ⟨q,rfl,ah⟩),rfl,e0,?_⟩
 have SI:Le M (aE M q (MO.lst [D.int 3,D.int 40,D.int ((fun i j:Int=>i*j) 2 ((fun i j:Int=>i ^ j.toNat) 10 39))])):=Le.new hq
 generalize aE M q (MO.lst [D.int 3,D.int 40,D.int ((fun i j:Int=>i*j) 2 ((fun i j:Int=>i ^ j.toNat) 10 39))])=M1 at SI ⊢
 walk_at "rd"
 have Xs:0≤Qa % z0:=ZG _ (by omega)
 have Xu:Qa % z0 < z0:=ZD _ z1
 refine ⟨hb,hlen,by decide,by decide,fun VF _=>?_⟩
 walk_at "rd"
 intro p hp
 walk_at "rd"
 have e0:0≤NB / 2 / 3 % (m+1):=ZG _ (by omega)
 have e1:NB / 2 / 3 % (m+1) < m+1:=ZD _ (by omega)
 have bq:2≤2+Qa % z0∧2+Qa % z0≤2*10 ^ 39+1:=by omega
 dsimp only at e0 e1 ⊢
 generalize 2+Qa % z0=bs at bq ⊢
 obtain ⟨Xv,Xw⟩:=bq
 have sB:L3.Sm 132 bs:=by show Int.natAbs _ < 2 ^ 132;omega
 refine ⟨by omega,by omega,?_⟩
 refine aP (fun i ρ M'=> ∃ (ps:List Pl) (nn:Int) (y1 y2:Option L3.D),ρ= [some (.ze (ns.map L3.D.int)),some (.int m),some (.int (NB / 2)),some (.int bs),some (.int nn),some (.ref p),y1,y2]∧ps.length≤i∧ps.Nodup∧(∀ q∈ps,q.Ok 136)∧M'=aE M1 p (.lst (ps.map Pl.d))) _ ?_ ?_ ⟨[],VF,_,_,rfl,Zb _,abd,(fun q hq=>by cases hq),rfl⟩
 ·rintro i x ρ M' N hx ⟨ps,nn,y1,y2,rfl,hl,nd,ho,rfl⟩ hN
  obtain ⟨hi,rfl⟩:=cg hx
  have hi:i < 41:=by omega
  refine ⟨trivial,?_⟩
  have r0:0≤nn % bs:=ZG _ (by omega)
  have r1:nn % bs < bs:=ZD _ (by omega)
  have r2:0≤nn / bs % bs:=ZG _ (by omega)
  have r3:nn / bs % bs < bs:=ZD _ (by omega)
  have h0:0 < bs:=by omega
  walk_at "rd"
  refine ⟨⟨h0,132,sB,by decide⟩,?_⟩
  walk_at "rd"
  refine ⟨⟨h0,132,sB,by decide⟩,?_⟩
  walk_at "rd"
  refine ⟨⟨h0,132,sB,by decide⟩,?_⟩
  walk_at "rd"
  refine ⟨_,.inr ⟨p,rfl,ah⟩,rfl,c8 ps,?_⟩
  walk_at "rd"
  have oq:(⟨nn % bs - bs / 2,nn / bs % bs - bs / 2⟩:Pl).Ok 136:=⟨by show Int.natAbs _ < 2 ^ 136;dsimp only;omega,by show Int.natAbs _ < 2 ^ 136;dsimp only;omega⟩
  dsimp only
  rw [if_pos rfl,show L3.inD (D.tup [D.int (nn % bs - bs / 2),D.int (nn / bs % bs - bs / 2)]) (ps.map Pl.d)=decide ((⟨nn % bs - bs / 2,nn / bs % bs - bs / 2⟩:Pl)∈ps) from qU (q:=⟨nn % bs - bs / 2,nn / bs % bs - bs / 2⟩)]
  refine br (fun k=>?_) (fun k=>?_)
  ·have k:(⟨nn % bs - bs / 2,nn / bs % bs - bs / 2⟩:Pl)∉ps:=fun z=>by rw [decide_eq_true z] at k;cases k
   walk_at "rd"
   refine ⟨⟨p,_,rfl,ah⟩,?_⟩
   walk_at "rd"
   refine ⟨p,_,rfl,ah,?_,?_⟩
   ·rw [Y4]
    have:(1000:Nat) < sizeLine:=by decide
    omega
   ·rw [nM]
    refine hN _ _ ⟨ps ++ [⟨nn % bs - bs / 2,nn / bs % bs - bs / 2⟩],_,_,_,rfl,by simp;omega,?_,?_,by rw [Zn];rfl⟩
    ·rw [aan]
     exact ⟨nd,by simp,fun a ha b hb e=>by rw [Y8.mp hb] at e;subst e;exact k ha⟩
    ·intro z hz
     rcases Zq.mp hz with hz | hz
     ·exact ho z hz
     ·rw [Y8.mp hz];exact oq
  ·exact hN _ _ ⟨ps,_,_,_,rfl,by omega,nd,ho,rfl⟩
 ·rintro ρ M' ⟨ps,nn,y1,y2,rfl,hl,nd,ho,rfl⟩
  refine ⟨trivial,?_⟩
  walk_at "rd"
  refine aU.mk ⟨aE M p (.lst (ps.map Pl.d)),SI.put,h p ps (SI.free hp) nd ho ?_⟩
  simp at hl
  omega
theorem o6 (T:Txt K mg t):Binds K t.i6 ["_law_cell_here","_law_far_here","_law_x","_law_y"] []:=T.gJ.binds fun _ _ _ _ _ _ us hl=>match us,hl with | [_,_,_,_],_=>rfl
def xr:uq:=fun ds Q=> ∃ c f x y:Int,ds= [.int c,.int f,.int x,.int y]∧Sm 40 f∧Sm 70 x∧Sm 70 y∧∀ p:Pl,p.Ok 136→Q p.d
theorem o7 (T:Txt K mg t):bS P w K mg base eZ 1 t.jR t.i6 ["_law_cell_here","_law_far_here","_law_x","_law_y"] (tT K xr):=by
 refine ym T.gJ cB (fun ds Q h=>by (first | (obtain ⟨_,rfl,_⟩:=h;rfl) | (obtain ⟨_,_,rfl,_⟩:=h;rfl) | (obtain ⟨_,_,_,rfl,_⟩:=h;rfl) | (obtain ⟨_,_,_,_,rfl,_⟩:=h;rfl) | (obtain ⟨_,_,_,_,_,rfl,_⟩:=h;rfl) | (obtain ⟨_,_,_,_,_,_,rfl,_⟩:=h;rfl) | (obtain ⟨_,_,_,_,_,_,_,rfl,_⟩:=h;rfl))) (fun cdv A outer s H hr=>?_)
 have hu:=hr.units
 refine ⟨_,(aq (aS (i:=4) cB.nd rfl (Or.inl rfl) (au bu (aa 0) ai))
  (aq (aS (i:=5) cB.nd rfl (Or.inl rfl) (aO (cR (af ai (af ai (af ai aj)))) (au bu (aa 4) ai)))
  (aq (aS (i:=6) cB.nd rfl (Or.inl rfl) (aO (cR (af ai (af ai (af ai aj)))) (au bu (aa 4) ai)))
  (aq (gv PassesOwn.never rfl (by rfl) T.dh (af (au cu (aa 4) ai) aj) (bW (i:=7) cB.nd rfl (Or.inl rfl)) (aA (OV (i:=5) (j:=6) rfl cB.nd rfl rfl (by decide) rfl rfl (af (nQ (aa 6)) (af (aa 5) aj)))))
  (aq (bI (aJ (e9 hu) (aa 4) ai (aC _)) (aq (aS (i:=5) cB.nd rfl (Or.inl rfl) ai)
  (aA (aS (i:=6) cB.nd rfl (Or.inl rfl) ai))) aT)
  (aA (aD (cL (af (au dQ (aa 2) (au dR (aa 1) (aa 5))) (af (au dQ (aa 3) (au dR (aa 1) (aa 6))) aj)))))))))),fun ds Q h=>?_⟩
 obtain ⟨c,f,x,y,rfl,sf,sx,sy,h⟩:=h
 walk_at "rd"
 intro p hp
 walk_at "rd"
 obtain ⟨z1,m1,e1⟩:=jM (ns:=[5,4,3]) (k:=c % 13 % 3) (ZG _ (by decide)) (ZD _ (by decide))
 have s1:Sm 3 z1:=qo (ns:=[5,4,3]) (by decide) m1
 refine ⟨_,_,_,.inr (.inr ⟨p,rfl,ah⟩),rfl,e1,?_⟩
 walk_at "rd"
 intro q hq
 walk_at "rd"
 obtain ⟨z2,m2,e2⟩:=jM (ns:=[0,3,4]) (k:=c % 13 % 3) (ZG _ (by decide)) (ZD _ (by decide))
 have s2:Sm 3 z2:=qo (ns:=[0,3,4]) (by decide) m2
 refine ⟨_,_,_,.inr (.inr ⟨q,rfl,ah⟩),rfl,e2,?_⟩
 walk_at "rd"
 have Xx:c % 13 < 13:=ZD _ (by decide)
 have VG:0≤c % 13:=ZG _ (by decide)
 refine ⟨by dsimp only;omega,by dsimp only;omega,?_⟩
 refine aP (fun i ρ M'=> ∃ (u v:Int) (y1:Option L3.D),ρ= [some (.int c),some (.int f),some (.int x),some (.int y),some (.int (c % 13)),some (.int u),some (.int v),y1]∧Sm 3 u∧Sm 3 v) _ ?_ ?_ ⟨_,_,_,rfl,s1,s2⟩
 ·rintro i d ρ M' N hx ⟨u,v,y1,rfl,su,sv⟩ hN
  obtain ⟨hi,rfl⟩:=cg hx
  refine ⟨trivial,?_⟩
  walk_at "rd"
  exact hN _ _ ⟨_,_,_,rfl,sv.neg,su⟩
 ·rintro ρ M' ⟨u,v,y1,rfl,su,sv⟩
  refine ⟨trivial,?_⟩
  walk_at "rd"
  refine br (fun _=>?_) (fun _=>?_)
  ·walk_at "rd"
   exact h ⟨_,_⟩ ⟨by walk_at "smle",by walk_at "smle"⟩
  ·walk_at "rd"
   exact h ⟨_,_⟩ ⟨by walk_at "smle",by walk_at "smle"⟩
theorem xu (T:Txt K mg t):Binds K t.jS ["_law_cell_here","_law_frame"] []:=T.mF.binds fun _ _ _ _ _ _ us hl=>match us,hl with | [_,_],_=>rfl
def An:uq:=fun ds Q=> ∃ c f:Int,ds= [.int c,.int f]∧∀ p:Pl,p.Ok 136→Q p.d
theorem xw (T:Txt K mg t):bS P w K mg base eZ 1 t.lY t.jS ["_law_cell_here","_law_frame"] (tT K An):=by
 refine ym T.mF gO (fun ds Q h=>by (first | (obtain ⟨_,rfl,_⟩:=h;rfl) | (obtain ⟨_,_,rfl,_⟩:=h;rfl) | (obtain ⟨_,_,_,rfl,_⟩:=h;rfl) | (obtain ⟨_,_,_,_,rfl,_⟩:=h;rfl) | (obtain ⟨_,_,_,_,_,rfl,_⟩:=h;rfl) | (obtain ⟨_,_,_,_,_,_,rfl,_⟩:=h;rfl) | (obtain ⟨_,_,_,_,_,_,_,rfl,_⟩:=h;rfl))) (fun cdv A outer s H hr=>?_)
 have hu:=hr.units
 refine ⟨_,(aq (aS (i:=2) gO.nd rfl (Or.inl rfl) (au dR (au cO (au bu (au cu (aa 0) ai) ai) ai) (aO (cR (af ai (af (au nR ai ai) aj))) (au bu (au cu (aa 1) ai) ai))))
  (aq (aS (i:=3) gO.nd rfl (Or.inl rfl) (au dQ (au dR (aa 2) (aO (cR (af ai (af ai (af ai (af ai aj))))) (au bu (aa 1) ai))) (au bu (au cu (aa 1) ai) ai)))
  (aq (aS (i:=4) gO.nd rfl (Or.inl rfl) (au cO (au dR (aa 2) (aO (cR (af ai (af ai (af ai (af (nQ ai) aj))))) (au bu (aa 1) ai))) ai))
  (aq (bI (qK.pt (sY (aJ (e9 hu) (au bu (au cu (aa 1) ai) ai) ai (aC _)) (nN (aJ (e9 hu) (au bu (aa 0) ai) ai (aC _))))) (aA (aD (cL (af (au dQ (aa 3) (au bu (au cu (aa 0) ai) ai)) (af (au dQ (au dQ (aa 4) ai) (au bu (au cu (aa 0) ai) ai)) aj))))) aT)
  (aA (aD (cL (af (aa 3) (af (aa 4) aj))))))))),fun ds Q h=>?_⟩
 obtain ⟨c,f,rfl,h⟩:=h
 walk_at "rd"
 intro p hp
 walk_at "rd"
 obtain ⟨z0,m0,e0⟩:=jM (ns:=[1,10 ^ 30]) (k:=f / 4 % 2) (ZG _ (by decide)) (ZD _ (by decide))
 have s0:Sm 100 z0:=qo (ns:=[1,10 ^ 30]) (by decide) m0
 refine ⟨_,_,_,.inr (.inr ⟨p,rfl,ah⟩),rfl,e0,?_⟩
 walk_at "rd"
 intro q hq
 walk_at "rd"
 obtain ⟨z1,m1,e1⟩:=jM (ns:=[1,0,1,3]) (k:=f % 4) (ZG _ (by decide)) (ZD _ (by decide))
 have s1:Sm 3 z1:=qo (ns:=[1,0,1,3]) (by decide) m1
 refine ⟨_,_,_,.inr (.inr ⟨q,rfl,ah⟩),rfl,e1,?_⟩
 walk_at "rd"
 intro r hr
 walk_at "rd"
 obtain ⟨z2,m2,e2⟩:=jM (ns:=[0,1,2, -2]) (k:=f % 4) (ZG _ (by decide)) (ZD _ (by decide))
 have s2:Sm 3 z2:=qo (ns:=[0,1,2, -2]) (by decide) m2
 refine ⟨_,_,_,.inr (.inr ⟨r,rfl,ah⟩),rfl,e2,?_⟩
 walk_at "rd"
 have fin:∀ x y,Sm 136 x→Sm 136 y→Q (.tup [.int x,.int y]):=fun x y a b=>h ⟨x,y⟩ ⟨a,b⟩
 refine br (fun _=>?_) (fun _=>?_)
 ·walk_at "rd"
  refine br (fun _=>?_) (fun _=>?_)
  ·walk_at "rd"
   exact fin _ _ (by walk_at "smle") (by walk_at "smle")
  ·walk_at "rd"
   exact fin _ _ (by walk_at "smle") (by walk_at "smle")
 ·walk_at "rd"
  exact fin _ _ (by walk_at "smle") (by walk_at "smle")
theorem xx (T:Txt K mg t):Binds K t.jT ["_law_cell_here"] []:=T.mG.binds fun _ _ _ _ _ _ us hl=>match us,hl with | [_],_=>rfl
def Ao:uq:=fun ds Q=> ∃ c:Int,ds= [.int c]∧Att.DN c∧∀ p:Pl,p.Ok 136→Q p.d
theorem xD (T:Txt K mg t):bS P w K mg base eZ 1 t.lZ t.jT ["_law_cell_here"] (tT K Ao):=by
 refine ym T.mG kC (fun ds Q h=>by (first | (obtain ⟨_,rfl,_⟩:=h;rfl) | (obtain ⟨_,_,rfl,_⟩:=h;rfl) | (obtain ⟨_,_,_,rfl,_⟩:=h;rfl) | (obtain ⟨_,_,_,_,rfl,_⟩:=h;rfl) | (obtain ⟨_,_,_,_,_,rfl,_⟩:=h;rfl) | (obtain ⟨_,_,_,_,_,_,rfl,_⟩:=h;rfl) | (obtain ⟨_,_,_,_,_,_,_,rfl,_⟩:=h;rfl))) (fun cdv A outer s H hr=>?_)
 have hu:=hr.units
 refine ⟨_,(aq (aS (i:=1) kC.nd rfl (Or.inl rfl) (au bu (au jN (aa 0) ai) (au nR ai ai)))
  (aq (aS (i:=2) kC.nd rfl (Or.inl rfl) (au bu (au jN (aa 0) ai) (au dQ (au nR ai ai) ai)))
  (aA (aD (cL (af (au cO (aa 1) (au jN ai (au nR ai ai))) (af (au cO (aa 2) (au jN ai (au nR ai ai))) aj))))))),fun ds Q h=>?_⟩
 obtain ⟨c,rfl,bc,h⟩:=h
 walk_at "rd"
 refine ⟨Or.inr (Or.inr ⟨bc,200,by decide +kernel,by decide⟩),?_⟩
 walk_at "rd"
 refine ⟨Or.inr (Or.inr ⟨bc,200,by decide +kernel,by decide⟩),?_⟩
 walk_at "rd"
 exact h ⟨_,_⟩ ⟨by walk_at "smle",by walk_at "smle"⟩
theorem xE (T:Txt K mg t):Binds K t.jU ["_law_kind","_law_cell_here","_law_frame","_law_k"] []:=T.mH.binds fun _ _ _ _ _ _ us hl=>match us,hl with | [_,_,_,_],_=>rfl
def Aq:uq:=fun ds Q=> ∃ k c f i:Int,ds= [.int k,.int c,.int f,.int i]∧Att.DN c∧∀ p:Pl,p.Ok 136→Q p.d
theorem xF (T:Txt K mg t):bS P w K mg base eZ 2 t.l0 t.jU ["_law_kind","_law_cell_here","_law_frame","_law_k"] (tT K Aq):=by
 refine ym T.mH xo (fun ds Q h=>by (first | (obtain ⟨_,rfl,_⟩:=h;rfl) | (obtain ⟨_,_,rfl,_⟩:=h;rfl) | (obtain ⟨_,_,_,rfl,_⟩:=h;rfl) | (obtain ⟨_,_,_,_,rfl,_⟩:=h;rfl) | (obtain ⟨_,_,_,_,_,rfl,_⟩:=h;rfl) | (obtain ⟨_,_,_,_,_,_,rfl,_⟩:=h;rfl) | (obtain ⟨_,_,_,_,_,_,_,rfl,_⟩:=h;rfl))) (fun cdv A outer s H hr=>?_)
 have hu:=hr.units
 refine ⟨_,(aq (bI (aJ (e9 hu) (aa 0) ai (aC _)) (aA (aD (cL (af (au dQ (au nR ai ai) (au bu (aa 1) ai)) (af (au cO (au bu (au cu (aa 1) ai) ai) (au dR ai (au nR ai ai))) aj))))) aT)
  (aq (bI (aJ (e9 hu) (aa 0) ai (aC _)) (aA (aD (aF (o7 T) (hr.mono (by decide)) (by rfl) T.p9 T.gJ.kp (o6 T) (af (aa 1) (af (au dQ ai (au bu (aa 2) (au nR ai ai))) (af (au cO (au bu (au cu (aa 2) ai) ai) ai) (af (nQ (au bu (au cu (aa 2) ai) (au nR ai ai))) aj))))))) aT)
  (aq (bI (aJ (e9 hu) (aa 0) ai (aC _)) (aA (aD (aF (xw T) (hr.mono (by decide)) (by rfl) T.Aa T.mF.kp (xu T) (af (aa 1) (af (aa 2) aj))))) aT)
  (aq (bI (aJ (e9 hu) (aa 0) ai (aC _)) (aA (aD (aF (xD T) (hr.mono (by decide)) (by rfl) T.Ab T.mG.kp (xx T) (af (aa 1) aj)))) aT)
  (aq (bI (aJ (e9 hu) (aa 0) ai (aC _)) (aA (aD (cL (af (au cO (au bu (aa 1) ai) ai) (af (au cO (au bu (au cu (aa 1) ai) ai) ai) aj))))) aT)
  (aq (bI (qK.pt (sY (aJ (e9 hu) (aa 0) ai (aC _)) (nN (aJ (e9 hu) (au bu (aa 3) ai) ai (aC _))))) (aA (aD (aF (o7 T) (hr.mono (by decide)) (by rfl) T.p9 T.gJ.kp (o6 T) (af (aa 1) (af ai (af ai (af (nQ ai) aj))))))) aT)
  (aq (bI (aJ (e9 hu) (aa 0) ai (aC _)) (aA (aD (cL (af (au cO (au bu (aa 1) ai) ai) (af (au cO (au bu (au cu (aa 1) ai) ai) ai) aj))))) aT)
  (aq (bI (aJ (e9 hu) (aa 0) ai (aC _)) (aA (aD (cL (af (au dQ (au bu (aa 1) ai) (aO (cR (af ai (af (au nR ai ai) aj))) (au bu (au cu (aa 1) ai) ai))) (af (au bu (au cu (aa 1) ai) ai) aj))))) aT)
  (aA (aD (cL (af (au bu (aa 1) ai) (af (au bu (au cu (aa 1) ai) ai) aj))))))))))))),fun ds Q h=>?_⟩
 obtain ⟨k,c,f,i,rfl,bc,h⟩:=h
 have fin:∀ x y,Sm 136 x→Sm 136 y→Q (.tup [.int x,.int y]):=fun x y a b=>h ⟨x,y⟩ ⟨a,b⟩
 walk_at "rd"
 refine br (fun _=>?_) (fun _=>?_)
 ·walk_at "rd"
  exact fin _ _ (by walk_at "smle") (by walk_at "smle")
 walk_at "rd"
 refine br (fun _=>?_) (fun _=>?_)
 ·walk_at "rd"
  have n1:Sm 40 (1+f % 10 ^ 9):=by walk_at "smle"
  have n2:Sm 70 (f / 7 % 2001 - 1000):=by walk_at "smle"
  have n3:Sm 70 (-(f / 11 % 10 ^ 20)):=by walk_at "smle"
  exact ⟨n1,n2,n3,fun p hp=>h p hp⟩
 walk_at "rd"
 refine br (fun _=>?_) (fun _=>?_)
 ·walk_at "rd"
  exact fun p hp=>h p hp
 walk_at "rd"
 refine br (fun _=>?_) (fun _=>?_)
 ·walk_at "rd"
  exact ⟨bc,fun p hp=>h p hp⟩
 walk_at "rd"
 refine br (fun _=>?_) (fun _=>?_)
 ·walk_at "rd"
  exact fin _ _ (by walk_at "smle") (by walk_at "smle")
 walk_at "rd"
 refine br (fun _=>?_) (fun _=>?_)
 ·walk_at "rd"
  refine br (fun _=>?_) (fun _=>?_)
  ·walk_at "rd"
   exact fun p hp=>h p hp
  walk_at "rd"
  refine br (fun _=>?_) (fun _=>?_)
  ·walk_at "rd"
   exact fin _ _ (by walk_at "smle") (by walk_at "smle")
  walk_at "rd"
  refine br (fun _=>?_) (fun _=>?_)
  ·walk_at "rd"
   intro p hp
   walk_at "rd"
   obtain ⟨z1,m1,e1⟩:=jM (ns:=[0,10 ^ 38]) (k:=c / 9 % 2) (ZG _ (by decide)) (ZD _ (by decide))
   have s1:Sm 128 z1:=qo (ns:=[0,10 ^ 38]) (by decide) m1
   refine ⟨_,_,_,.inr (.inr ⟨p,rfl,ah⟩),rfl,e1,?_⟩
   walk_at "rd"
   exact fin _ _ (by walk_at "smle") (by walk_at "smle")
  walk_at "rd"
  exact fin _ _ (by walk_at "smle") (by walk_at "smle")
 ·walk_at "rd"
  refine br (fun _=>?_) (fun _=>?_)
  ·walk_at "rd"
   exact fin _ _ (by walk_at "smle") (by walk_at "smle")
  walk_at "rd"
  refine br (fun _=>?_) (fun _=>?_)
  ·walk_at "rd"
   intro p hp
   walk_at "rd"
   obtain ⟨z1,m1,e1⟩:=jM (ns:=[0,10 ^ 38]) (k:=c / 9 % 2) (ZG _ (by decide)) (ZD _ (by decide))
   have s1:Sm 128 z1:=qo (ns:=[0,10 ^ 38]) (by decide) m1
   refine ⟨_,_,_,.inr (.inr ⟨p,rfl,ah⟩),rfl,e1,?_⟩
   walk_at "rd"
   exact fin _ _ (by walk_at "smle") (by walk_at "smle")
  walk_at "rd"
  exact fin _ _ (by walk_at "smle") (by walk_at "smle")
theorem vW (T:Txt K mg t):Binds K t.i7 ["_law_script","_law_most"] []:=T.kh.binds fun _ _ _ _ _ _ us hl=>match us,hl with | [_,_],_=>rfl
def xG:pK:=fun ds M Q=> ∃ (ns:List Int) (m:Int),ds= [.ze (ns.map L3.D.int),.int m]∧(∀ z∈ns,Att.DN z)∧ns.length≤63∧0≤m∧m≤40∧∀ (p:Addr) (ps:List Pl),M p=none→ps.Nodup→(∀ q∈ps,q.Ok 136)→(ps.length:Int)≤m→Q (.ref p) (aE M p (.lst (ps.map Pl.d)))
theorem vX (T:Txt K mg t):bS P w K mg base eZ 3 t.jV t.i7 ["_law_script","_law_most"] (pU K xG):=by
 refine rM T.kh di (fun ds M Q h=>by (first | (obtain ⟨_,rfl,_⟩:=h;rfl) | (obtain ⟨_,_,rfl,_⟩:=h;rfl) | (obtain ⟨_,_,_,rfl,_⟩:=h;rfl) | (obtain ⟨_,_,_,_,rfl,_⟩:=h;rfl) | (obtain ⟨_,_,_,_,_,rfl,_⟩:=h;rfl) | (obtain ⟨_,_,_,_,_,_,rfl,_⟩:=h;rfl) | (obtain ⟨_,_,_,_,_,_,_,rfl,_⟩:=h;rfl))) (fun cdv A outer s H hr=>?_)
 have hu:=hr.units
 refine ⟨_,(aq (bI (aJ (e9 hu) (au bu (aF (bP T) (hr.mono (by decide)) (by rfl) T.cj T.bK.kp (bO T) (af (aa 0) (af ai aj))) ai) ai (aC _)) (aA (aD (bD (rJ T) (hr.mono (by decide)) (by rfl) T.sP T.gD.kp (rH T) (af (aa 0) (af (aa 1) aj))))) aT)
  (aq (aS (i:=2) di.nd rfl (Or.inl rfl) (aF (bP T) (hr.mono (by decide)) (by rfl) T.cj T.bK.kp (bO T) (af (aa 0) (af ai aj))))
  (aq (aS (i:=3) di.nd rfl (Or.inl rfl) (aF (bP T) (hr.mono (by decide)) (by rfl) T.cj T.bK.kp (bO T) (af (aa 0) (af ai aj))))
  (aq (aS (i:=4) di.nd rfl (Or.inl rfl) (cR aj))
  (aq (gv PassesOwn.never rfl (by rfl) T.dh (af (aR (LS rfl) (by rfl) T.oW iP (af (aa 1) (af (au bu (au cu (aa 2) ai) (au dQ (aa 1) ai)) aj))) aj) (bW (i:=5) di.nd rfl (Or.inl rfl)) (aq (aS (i:=6) di.nd rfl (Or.inl rfl) (aF (xF T) (hr.mono (by decide)) (by rfl) T.Ac T.mH.kp (xE T) (af (au bu (aa 2) ai) (af (aF (bP T) (hr.mono (by decide)) (by rfl) T.cj T.bK.kp (bO T) (af (aa 0) (af (au dQ (aa 5) ai) aj))) (af (aa 3) (af (aa 5) aj))))))
  (aA (bI (aJ (iI hu) (aa 6) (aa 4) (by with_unfolding_all rfl)) (aA (nV (DF (aa 4) (aa 6) (sW PySem.F.plainAttrs_list PySem.F.slot_list_append PySem.F.type_list_append kF (cK.dn (aa 4)) (iG (cK.dn (aa 6)) lD))))) aT))))
  (aA (aD (aa 4)))))))),fun ds M Q h=>?_⟩
 obtain ⟨ns,m,rfl,hb,hlen,hm0,hm1,h⟩:=h
 walk_at "rd"
 refine ⟨hb,hlen,by decide,by decide,fun NB _=>?_⟩
 walk_at "rd"
 refine br (fun _=>?_) (fun _=>?_)
 ·walk_at "rd"
  refine ⟨hb,hlen,hm0,hm1,fun p ps hp nd ho hl=>?_⟩
  walk_at "rd"
  exact aU.mk ⟨_,Le.refl _,h p ps hp nd ho hl⟩
 ·walk_at "rd"
  refine ⟨hb,hlen,by decide,by decide,fun hd _=>?_⟩
  walk_at "rd"
  refine ⟨hb,hlen,by decide,by decide,fun fr _=>?_⟩
  walk_at "rd"
  intro p hp
  walk_at "rd"
  have e0:0≤hd / 8 % (m+3):=ZG _ (by omega)
  refine ⟨by dsimp only;omega,by dsimp only;omega,?_⟩
  refine aP (fun i ρ M'=> ∃ (ps:List Pl) (y1 y2:Option L3.D),ρ= [some (.ze (ns.map L3.D.int)),some (.int m),some (.int hd),some (.int fr),some (.ref p),y1,y2]∧ps.length≤i∧ps.Nodup∧(∀ q∈ps,q.Ok 136)∧M'=aE M p (.lst (ps.map Pl.d))) _ ?_ ?_ ⟨[],_,_,rfl,Zb _,abd,(fun q hq=>by cases hq),rfl⟩
  ·rintro i x ρ M' N hx ⟨ps,y1,y2,rfl,hl,nd,ho,rfl⟩ hN
   obtain ⟨hi,rfl⟩:=cg hx
   have hi:i < 41:=by dsimp only at hi;omega
   refine ⟨trivial,?_⟩
   walk_at "rd"
   refine ⟨hb,hlen,by dsimp only;omega,by dsimp only;omega,fun z1 bz=>?_⟩
   walk_at "rd"
   refine ⟨bz,fun q hq=>?_⟩
   walk_at "rd"
   refine ⟨_,.inr ⟨p,rfl,ah⟩,rfl,c8 ps,?_⟩
   walk_at "rd"
   rw [if_pos rfl,qU]
   refine br (fun k=>?_) (fun k=>?_)
   ·have k:q∉ps:=fun z=>by rw [decide_eq_true z] at k;cases k
    walk_at "rd"
    refine ⟨⟨p,_,rfl,ah⟩,?_⟩
    walk_at "rd"
    refine ⟨p,_,rfl,ah,?_,?_⟩
    ·rw [Y4]
     have:(1000:Nat) < sizeLine:=by decide
     omega
    ·rw [nM]
     refine hN _ _ ⟨ps ++ [q],_,_,rfl,by simp;omega,?_,?_,by simp⟩
     ·rw [aan]
      exact ⟨nd,by simp,fun a ha b hb e=>by rw [Y8.mp hb] at e;subst e;exact k ha⟩
     ·intro z hz
      rcases Zq.mp hz with hz | hz
      ·exact ho z hz
      ·rw [Y8.mp hz];exact hq
   ·exact hN _ _ ⟨ps,_,_,rfl,by omega,nd,ho,rfl⟩
  ·rintro ρ M' ⟨ps,y1,y2,rfl,hl,nd,ho,rfl⟩
   refine ⟨trivial,?_⟩
   walk_at "rd"
   refine aU.mk ⟨_,Le.refl _,h p ps hp nd ho ?_⟩
   simp at hl
   omega
theorem bX (T:Txt K mg t):Binds K t.jW ["_law_a","_law_b","_law_c"] []:=T.bN.binds fun _ _ _ _ _ _ us hl=>match us,hl with | [_,_,_],_=>rfl
def Ar:uq:=fun ds Q=> ∃ a b c:Pl,ds= [a.d,b.d,c.d]∧a.Ok 140∧b.Ok 140∧c.Ok 140∧Q (.int (tw a b c))
theorem bY (T:Txt K mg t):bS P w K mg base eZ 1 t.l8 t.jW ["_law_a","_law_b","_law_c"] (tT K Ar):=by
 refine ym T.bN xq (fun ds Q h=>by (first | (obtain ⟨_,rfl,_⟩:=h;rfl) | (obtain ⟨_,_,rfl,_⟩:=h;rfl) | (obtain ⟨_,_,_,rfl,_⟩:=h;rfl) | (obtain ⟨_,_,_,_,rfl,_⟩:=h;rfl) | (obtain ⟨_,_,_,_,_,rfl,_⟩:=h;rfl) | (obtain ⟨_,_,_,_,_,_,rfl,_⟩:=h;rfl) | (obtain ⟨_,_,_,_,_,_,_,rfl,_⟩:=h;rfl))) (fun cdv A outer s H hr=>?_)
 have hu:=hr.units
 refine ⟨_,(aA (aD (au cO (au dR (au cO (aO (aa 1) ai) (aO (aa 0) ai)) (au cO (aO (aa 2) ai) (aO (aa 0) ai))) (au dR (au cO (aO (aa 1) ai) (aO (aa 0) ai)) (au cO (aO (aa 2) ai) (aO (aa 0) ai)))))),fun ds Q h=>?_⟩
 obtain ⟨a,b,c,rfl,⟨a1,a2⟩,⟨b1,b2⟩,⟨c1,c2⟩,h⟩:=h
 unfold tw at h
 walk_at "rd"
 exact h
theorem vY (T:Txt K mg t):Binds K t.i8 ["_law_a","_law_b","_law_c","_law_d"] []:=T.ki.binds fun _ _ _ _ _ _ us hl=>match us,hl with | [_,_,_,_],_=>rfl
def xH:uq:=fun ds Q=> ∃ a b c d:Pl,ds= [a.d,b.d,c.d,d.d]∧a.Ok 140∧b.Ok 140∧c.Ok 140∧d.Ok 140∧Q (.int (dep a b c d*tw a b c))
theorem vZ (T:Txt K mg t):bS P w K mg base eZ 2 t.jX t.i8 ["_law_a","_law_b","_law_c","_law_d"] (tT K xH):=by
 refine ym T.ki jn (fun ds Q h=>by (first | (obtain ⟨_,rfl,_⟩:=h;rfl) | (obtain ⟨_,_,rfl,_⟩:=h;rfl) | (obtain ⟨_,_,_,rfl,_⟩:=h;rfl) | (obtain ⟨_,_,_,_,rfl,_⟩:=h;rfl) | (obtain ⟨_,_,_,_,_,rfl,_⟩:=h;rfl) | (obtain ⟨_,_,_,_,_,_,rfl,_⟩:=h;rfl) | (obtain ⟨_,_,_,_,_,_,_,rfl,_⟩:=h;rfl))) (fun cdv A outer s H hr=>?_)
 have hu:=hr.units
 refine ⟨_,(aq (GU (j:=4) (kK (ys:=["_law_d"]) (fs:=[3]) rfl (by show cU (ay gE) ["_law_a","_law_b","_law_c","_law_d","_law_high","_law_found"] _ _ _ _=true;decide +kernel) (cR (af (aa 0) (af (aa 1) (af (aa 2) aj)))) (fun cl C s0 H0 ex=>Bc) (fun cl C s0 H0 ex=>(au dQ (au dR (au cO (aO (aa 0) ai) (aO (aa 1) ai)) (au cO (aO (aa 0) ai) (aO (aa 1) ai))) (au dR (au cO (aO (aa 0) ai) (aO (aa 1) ai)) (au cO (aO (aa 0) ai) (aO (aa 1) ai)))))) jn.nd rfl (Or.inl rfl))
  (aq (aS (i:=5) jn.nd rfl (Or.inl rfl) (au dQ (au dQ (au dR (aO (aa 4) ai) (aF (bY T) (hr.mono (by decide)) (by rfl) T.cz T.bN.kp (bX T) (af (aa 3) (af (aa 1) (af (aa 2) aj))))) (au dR (aO (aa 4) ai) (aF (bY T) (hr.mono (by decide)) (by rfl) T.cz T.bN.kp (bX T) (af (aa 3) (af (aa 2) (af (aa 0) aj)))))) (au dR (aO (aa 4) ai) (aF (bY T) (hr.mono (by decide)) (by rfl) T.cz T.bN.kp (bX T) (af (aa 3) (af (aa 0) (af (aa 1) aj)))))))
  (aA (aD (au dR (aa 5) (aF (bY T) (hr.mono (by decide)) (by rfl) T.cz T.bN.kp (bX T) (af (aa 0) (af (aa 1) (af (aa 2) aj))))))))),fun ds Q h=>?_⟩
 obtain ⟨a,b,c,d,rfl,ha,hb,hc,hd,h⟩:=h
 walk_at "rd"
 intro p hp
 refine ⟨p,_,rfl,ah,by show 3 < sizeLine;decide,aU.mk (c9 (fun i acc M4=>M4 p=some (.lst ([a,b,c].map Pl.d))∧acc=(([a,b,c].take i).map (fun q=>lM d q)).map L3.D.int) _ ?_ ?_ ⟨ah,rfl⟩)⟩
 ·rintro i x acc M4 N hx ⟨hP,rfl⟩ hN
  obtain ⟨q,hq,rfl⟩:=lQ (ps:=[a,b,c]) hx
  have oq:q.Ok 140:=by
   have mq:=Y9 hq
   simp only [Y6,Zt,or_false] at mq
   rcases mq with rfl | rfl | rfl
   ·exact ha
   ·exact hb
   ·exact hc
  obtain ⟨q1,q2⟩:=oq
  obtain ⟨d1,d2⟩:=id hd
  refine ⟨hP,?_⟩
  walk_at "rd"
  refine hN _ _ ⟨hP,?_⟩
  rw [Z7,hq,Zn,Zn]
  have ea:lM d q=(q.x - d.x)*(q.x - d.x)+(q.y - d.y)*(q.y - d.y):=by unfold lM;rfl
  show _=_ ++ [L3.D.int (lM d q)]
  rw [ea]
 rintro acc M4 ⟨hP,hacc⟩
 have hacc:acc= [lM d a,lM d b,lM d c].map L3.D.int:=hacc
 subst hacc
 refine ⟨hP,fun u kE=>?_⟩
 have hU:aE M4 u (.lst ([lM d a,lM d b,lM d c].map L3.D.int)) u=some (.lst ([lM d a,lM d b,lM d c].map L3.D.int)):=ah
 generalize aE M4 u (.lst ([lM d a,lM d b,lM d c].map L3.D.int))=M5 at hU ⊢
 have sa:∀ q:Pl,q.Ok 140→Sm 290 (lM d q):=fun q oq=>by
  obtain ⟨q1,q2⟩:=oq
  obtain ⟨d1,d2⟩:=id hd
  unfold lM
  walk_at "smle"
 have s1:=sa a ha
 have s2:=sa b hb
 have s3:=sa c hc
 have t1:=n8 hd hb hc
 have t2:=n8 hd hc ha
 have t3:=n8 hd ha hb
 have t4:=n8 ha hb hc
 unfold dep at h
 generalize lM d a=A1 at *
 generalize lM d b=A2 at *
 generalize lM d c=A3 at *
 walk_at "rd"
 refine ⟨_,_,_,.inr (.inr ⟨u,rfl,hU⟩),rfl,bU (j:=0) rfl,?_⟩
 walk_at "rd"
 refine ⟨hd,hb,hc,?_⟩
 walk_at "rd"
 refine ⟨_,_,_,.inr (.inr ⟨u,rfl,hU⟩),rfl,bU (j:=1) rfl,?_⟩
 walk_at "rd"
 refine ⟨hd,hc,ha,?_⟩
 walk_at "rd"
 refine ⟨_,_,_,.inr (.inr ⟨u,rfl,hU⟩),rfl,bU (j:=2) rfl,?_⟩
 walk_at "rd"
 refine ⟨hd,ha,hb,?_⟩
 walk_at "rd"
 refine ⟨ha,hb,hc,?_⟩
 walk_at "rd"
 exact h
theorem o8 (T:Txt K mg t):Binds K t.i9 ["_law_t","_law_d"] []:=T.gK.binds fun _ _ _ _ _ _ us hl=>match us,hl with | [_,_],_=>rfl
def xJ:uq:=fun ds Q=> ∃ u v w d:Pl,ds= [tD [u,v,w],d.d]∧u.Ok 140∧v.Ok 140∧w.Ok 140∧d.Ok 140∧tw u v w≠0∧∀ r:Bool,(r=true↔kX u v w d)→Q (.bl r)
theorem Fv {a b c d:Pl} (hn:tw a b c≠0) (s1:¬ aL b a) (s2:¬ aL c a):kX a b c d↔(if dep a b c d*tw a b c≠0∨(d=a∨d=b∨d=c) then 0 < dep a b c d*tw a b c else aL d a∨tw b c a*tw b c d < 0):=by
 by_cases h0:dep a b c d=0
 ·rw [h0,aaN]
  by_cases hd:d=a∨d=b∨d=c
  ·rw [if_pos (.inr hd)]
   have:=lN h0
   constructor
   ·rintro (k | ⟨_,n1,n2,n3,_⟩)
    ·omega
    ·rcases hd with e | e | e
     ·exact absurd e n1
     ·exact absurd e n2
     ·exact absurd e n3
   ·intro k;omega
  ·rw [if_neg (by simp [hd])]
   have e:=yw hn (lN h0) hd (.refl _) s1 s2
   have nz:tw b c d≠0:=fun z=>by
    rcases zq hn h0 z with e | e
    ·exact hd (.inr (.inl e))
    ·exact hd (.inr (.inr e))
   have na:tw b c a≠0:=by rw [gw];exact hn
   rw [← decide_eq_true_iff (p:=kX a b c d),e]
   by_cases k:aL d a
   ·simp [k]
   ·rw [if_neg k,decide_eq_true_iff]
    generalize tw b c d=X at *
    generalize tw b c a=Y at *
    rcases dJ X with ⟨x1,x2⟩ | ⟨x1,x2⟩ | ⟨x1,x2⟩
    ·rcases dJ Y with ⟨y1,y2⟩ | ⟨y1,y2⟩ | ⟨y1,y2⟩
     ·have:=aak y1 x1
      rw [x2,y2]
      simp [k]
      omega
     ·exact absurd y1 na
     ·have:=ZL y1 x1
      rw [x2,y2]
      simp [k]
      omega
    ·exact absurd x1 nz
    ·rcases dJ Y with ⟨y1,y2⟩ | ⟨y1,y2⟩ | ⟨y1,y2⟩
     ·have:=ZY y1 x1
      rw [x2,y2]
      simp [k]
      omega
     ·exact absurd y1 na
     ·have:=ZC y1 x1
      rw [x2,y2]
      simp [k]
      omega
 ·have np:dep a b c d*tw a b c≠0:=fun z=>by
   rcases Zv.mp z with z | z
   ·exact h0 z
   ·exact hn z
  rw [if_pos (.inl np),Jo hn h0]
  unfold rg
  generalize dep a b c d=X at *
  generalize tw a b c=Y at *
  rcases dJ X with ⟨x1,x2⟩ | ⟨x1,x2⟩ | ⟨x1,x2⟩
  ·rcases dJ Y with ⟨y1,y2⟩ | ⟨y1,y2⟩ | ⟨y1,y2⟩
   ·have:=aak x1 y1
    rw [x2,y2]
    simp
    omega
   ·exact absurd y1 hn
   ·have:=ZY x1 y1
    rw [x2,y2]
    simp
    omega
  ·exact absurd x1 h0
  ·rcases dJ Y with ⟨y1,y2⟩ | ⟨y1,y2⟩ | ⟨y1,y2⟩
   ·have:=ZL x1 y1
    rw [x2,y2]
    simp
    omega
   ·exact absurd y1 hn
   ·have:=ZC x1 y1
    rw [x2,y2]
    simp
    omega
theorem C8 {a b c u v w:Pl} (h: [a,b,c].Perm [u,v,w]) (hn:tw u v w≠0):tw a b c≠0:=by
 have e1:=gw u v w
 have e2:=gw v w u
 have e3:=dX u v w
 have e4:=kJ u v w
 have e5:=dX v w u
 have e6:=dX w u v
 rcases uS h with ⟨rfl,rfl,rfl⟩ | ⟨rfl,rfl,rfl⟩ | ⟨rfl,rfl,rfl⟩ | ⟨rfl,rfl,rfl⟩ | ⟨rfl,rfl,rfl⟩ | ⟨rfl,rfl,rfl⟩ <;> omega
theorem o9 (T:Txt K mg t):bS P w K mg base eZ 3 t.jY t.i9 ["_law_t","_law_d"] (tT K xJ):=by
 refine ym T.gK eL (fun ds Q h=>by (first | (obtain ⟨_,rfl,_⟩:=h;rfl) | (obtain ⟨_,_,rfl,_⟩:=h;rfl) | (obtain ⟨_,_,_,rfl,_⟩:=h;rfl) | (obtain ⟨_,_,_,_,rfl,_⟩:=h;rfl) | (obtain ⟨_,_,_,_,_,rfl,_⟩:=h;rfl) | (obtain ⟨_,_,_,_,_,_,rfl,_⟩:=h;rfl) | (obtain ⟨_,_,_,_,_,_,_,rfl,_⟩:=h;rfl))) (fun cdv A outer s H hr=>?_)
 have hu:=hr.units
 refine ⟨_,(aq (OT (aR CC (by rfl) T.eW cF (af (aa 0) aj)) (OQ rfl (zf (bW (i:=2) eL.nd rfl (Or.inl rfl)) (zf (bW (i:=3) eL.nd rfl (Or.inl rfl)) (zf (bW (i:=4) eL.nd rfl (Or.inl rfl)) L1)))))
  (aq (aS (i:=5) eL.nd rfl (Or.inl rfl) (aF (vZ T) (hr.mono (by decide)) (by rfl) T.w9 T.ki.kp (vY T) (af (aa 2) (af (aa 3) (af (aa 4) (af (aa 1) aj))))))
  (aq (bI (qK.pt (tS (aJ (nT hu) (aa 5) ai (aC _)) (nO (aJ (OC hu) (aa 1) (aa 0) (by with_unfolding_all rfl))))) (aA (aD (fG Jd (aa 5) ai (aC _)))) aT)
  (aA (aD (Ry (fG (mZ hu) (aa 1) (aa 2) (aC _)) (nP (fG (mZ hu) (au dR (aF (bY T) (hr.mono (by decide)) (by rfl) T.cz T.bN.kp (bX T) (af (aa 3) (af (aa 4) (af (aa 2) aj)))) (aF (bY T) (hr.mono (by decide)) (by rfl) T.cz T.bN.kp (bX T) (af (aa 3) (af (aa 4) (af (aa 1) aj))))) ai (aC _))))))))),fun ds Q h=>?_⟩
 obtain ⟨u,v,w',d,rfl,hu1,hv1,hw1,hd,hn,h⟩:=h
 refine ⟨_,rfl,?_⟩
 refine ⟨[u,v,w'],rfl,by show 3 < 64;decide,fun p qs hp bG iE=>?_⟩
 obtain ⟨a,b,c,rfl⟩:=n9 bG.length_eq
 obtain ⟨oa,ob,oc⟩:=uT bG hu1 hv1 hw1
 have nz:=C8 bG hn
 have s1:¬ aL b a:=(ZF.mp iE).1 b (by simp)
 have s2:¬ aL c a:=(ZF.mp iE).1 c (by simp)
 have key:=(Bb (d:=d) bG).symm.trans (Fv nz s1 s2)
 have hin:(d=u∨d=v∨d=w')↔(d=a∨d=b∨d=c):=by
  have:=bG.mem_iff (a:=d)
  simp only [Y6,Zt,or_false] at this
  exact this.symm
 refine ⟨_,.inr ⟨p,rfl,ah⟩,rfl,?_⟩
 walk_at "rd"
 refine ⟨oa,ob,oc,hd,?_⟩
 walk_at "rd"
 rw [ia]
 have t1:=n8 ob oc oa
 have t2:=n8 ob oc hd
 refine br (fun k=>?_) (fun k=>?_)
 ·have k:dep a b c d*tw a b c≠0:=of_decide_eq_true k
  rw [if_pos (.inl k)] at key
  walk_at "rd"
  refine h _ ?_
  rw [key,decide_eq_true_iff]
 ·have k:¬ dep a b c d*tw a b c≠0:=fun z=>k (decide_eq_true z)
  refine ⟨_,rfl,?_⟩
  refine ⟨_,rfl,?_⟩
  refine ⟨_,Or.inl rfl,rfl,rfl,?_⟩
  walk_at "rd"
  rw [qU]
  refine br (fun k2=>?_) (fun k2=>?_)
  ·have k2:d∈[u,v,w']:=of_decide_eq_true k2
   simp only [Y6,Zt,or_false] at k2
   rw [if_pos (.inr (hin.mp k2))] at key
   walk_at "rd"
   refine h _ ?_
   rw [key,decide_eq_true_iff]
  ·have k2:¬ d∈[u,v,w']:=fun z=>k2 (decide_eq_true z)
   simp only [Y6,Zt,or_false] at k2
   rw [if_neg (fun z=>z.elim k (fun z=>k2 (hin.mpr z)))] at key
   walk_at "rd"
   rw [dY]
   cases c1:decide (aL d a) with
   | true=>
     walk_at "rd"
     exact h true ⟨fun _=>key.mpr (.inl (of_decide_eq_true c1)),fun _=>rfl⟩
   | false=>
     walk_at "rd"
     refine ⟨ob,oc,oa,?_⟩
     walk_at "rd"
     refine ⟨ob,oc,hd,?_⟩
     walk_at "rd"
     refine h _ ?_
     rw [key,decide_eq_true_iff]
     exact ⟨.inr,fun z=>z.resolve_left (of_decide_eq_false c1)⟩
theorem xK (T:Txt K mg t):Binds K t.jZ ["_law_t","_law_places_here"] []:=T.mK.binds fun _ _ _ _ _ _ us hl=>match us,hl with | [_,_],_=>rfl
def As:pK:=fun ds M Q=> ∃ (t:List Pl) (l:Addr),ds= [tD t,.ref l]∧∃ ps:List Pl,M l=some (.lst (ps.map Pl.d))∧jr ps t∧(∀ q∈ps,q.Ok 140)∧∀ r:Bool,(r=true↔Eg ps t)→Q (.bl r) M
theorem xM (T:Txt K mg t):bS P w K mg base eZ 4 t.l9 t.jZ ["_law_t","_law_places_here"] (pU K As):=by
 refine rM T.mK qc (fun ds M Q h=>by (first | (obtain ⟨_,rfl,_⟩:=h;rfl) | (obtain ⟨_,_,rfl,_⟩:=h;rfl) | (obtain ⟨_,_,_,rfl,_⟩:=h;rfl) | (obtain ⟨_,_,_,_,rfl,_⟩:=h;rfl) | (obtain ⟨_,_,_,_,_,rfl,_⟩:=h;rfl) | (obtain ⟨_,_,_,_,_,_,rfl,_⟩:=h;rfl) | (obtain ⟨_,_,_,_,_,_,_,rfl,_⟩:=h;rfl))) (fun cdv A outer s H hr=>?_)
 have hu:=hr.units
 refine ⟨_,(aq (iU PassesOwn.never rfl (aa 1) (bW (i:=2) qc.nd rfl (Or.inl rfl)) (aA (bI (gj (aF (o9 T) (hr.mono (by decide)) (by rfl) T.qa T.gK.kp (o8 T) (af (aa 0) (af (aa 2) aj)))) (aA (aD iT)) aT)))
  (aA (aD iT))),fun ds M Q h=>?_⟩
 obtain ⟨t,l,rfl,ps,hM,hT,ho,h⟩:=h
 obtain ⟨a,b,c,rfl,p,ha,hb,hc,_⟩:=hT.parts
 walk_at "rd"
 refine ⟨l,_,rfl,hM,?_⟩
 refine aP (fun i ρ M'=>M'=M∧(∃ y,ρ= [some (tD [a,b,c]),some (.ref l),y])∧∀ d∈ps.take i,¬ se [a,b,c] d) _ ?_ ?_ ⟨rfl,⟨_,rfl⟩,by simp⟩
 ·rintro i x ρ M' N hx ⟨rfl,⟨y,rfl⟩,hn⟩ hN
  obtain ⟨d,hd,rfl⟩:=lQ hx
  have md:=Y9 hd
  refine ⟨hM,?_⟩
  walk_at "rd"
  refine ⟨ho a ha,ho b hb,ho c hc,ho d md,by omega,fun r hr=>?_⟩
  cases r with
  | true=>
    walk_at "rd"
    exact aU.mk ⟨_,Le.refl _,h false ⟨(fun z=>by cases z),fun z=>absurd (hr.mp rfl) (z d md)⟩⟩
  | false=>
    walk_at "rd"
    refine hN _ _ ⟨rfl,⟨_,rfl⟩,fun e he=>?_⟩
    rw [Z7,hd] at he
    rcases Zq.mp he with he | he
    ·exact hn e he
    ·have he:e=d:=by simpa using he
     subst he
     exact fun z=>by cases hr.mpr z
 ·rintro ρ M' ⟨rfl,⟨y,rfl⟩,hn⟩
  refine ⟨hM,?_⟩
  rw [Y4,ZE] at hn
  walk_at "rd"
  exact aU.mk ⟨_,Le.refl _,h true ⟨fun _=>hn,fun _=>rfl⟩⟩
theorem BN (T:Txt K mg t):Binds K t.oK ["_law_places_here"] []:=T.qE.binds fun _ _ _ _ _ _ us hl=>match us,hl with | [_],_=>rfl
theorem BO:∀ {l:List Pl},l.Nodup→l.Pairwise (fun p q=> ¬ aL q p)→l.Pairwise (fun p q=>aL p q):=fun {l} nd so=>by
 have:l.Pairwise (fun p q=>p≠q∧¬ aL q p):=nd.and so
 refine this.imp fun {p q} h=>?_
 rcases bV p q with k | k | k
 ·exact k
 ·exact absurd k h.1
 ·exact absurd k h.2
def C9:pK:=fun ds M Q=> ∃ l:Addr,ds= [.ref l]∧∃ ps:List Pl,M l=some (.lst (ps.map Pl.d))∧ps.Nodup∧ps.length≤7∧(∀ q∈ps,q.Ok 140)∧∀ (p:Addr) (ns:List (List Pl)),M p=none→ns.Nodup→(∀ t,t∈ns↔jr ps t∧Eg ps t)→ns.Pairwise (fun p q=>dc q p=false)→ns.length≤40→Q (.ref p) (aE M p (.lst (ns.map tD)))
theorem BP (T:Txt K mg t):bS P w K mg base eZ 5 t.qB t.oK ["_law_places_here"] (pU K C9):=by
 refine rM T.qE dG (fun ds M Q h=>by (first | (obtain ⟨_,rfl,_⟩:=h;rfl) | (obtain ⟨_,_,rfl,_⟩:=h;rfl) | (obtain ⟨_,_,_,rfl,_⟩:=h;rfl) | (obtain ⟨_,_,_,_,rfl,_⟩:=h;rfl) | (obtain ⟨_,_,_,_,_,rfl,_⟩:=h;rfl) | (obtain ⟨_,_,_,_,_,_,rfl,_⟩:=h;rfl) | (obtain ⟨_,_,_,_,_,_,_,rfl,_⟩:=h;rfl))) (fun cdv A outer s H hr=>?_)
 have hu:=hr.units
 refine ⟨_,(aq (aS (i:=1) dG.nd rfl (Or.inl rfl) (aR nZ (by rfl) T.eW cF (af (aa 0) aj)))
  (aq (aS (i:=2) dG.nd rfl (Or.inl rfl) (cR aj))
  (aq (gv PassesOwn.never rfl (by rfl) T.dh (af (aR eE (by rfl) T.cN bf (af (aa 1) aj)) aj) (bW (i:=3) dG.nd rfl (Or.inl rfl)) (aA (gv PassesOwn.never rfl (by rfl) T.dh (af (aa 3) aj) (bW (i:=4) dG.nd rfl (Or.inl rfl)) (aA (iU PassesOwn.never rfl (ff (aa 1) wU (jL (aa 4))) (bW (i:=5) dG.nd rfl (Or.inl rfl)) (aq (aS (i:=6) dG.nd rfl (Or.inl rfl) (cL (af (aa 5) (af (aO (aa 1) (aa 4)) (af (aO (aa 1) (aa 3)) aj)))))
  (aq (bI (aJ (mZ hu) (aF (bY T) (hr.mono (by decide)) (by rfl) T.cz T.bN.kp (bX T) (af (aa 5) (af (aO (aa 1) (aa 4)) (af (aO (aa 1) (aa 3)) aj)))) ai (aC _)) (aA (aS (i:=6) dG.nd rfl (Or.inl rfl) (cL (af (aa 5) (af (aO (aa 1) (aa 3)) (af (aO (aa 1) (aa 4)) aj)))))) aT)
  (aA (bI (qK.pt (sY (aJ (nT hu) (aF (bY T) (hr.mono (by decide)) (by rfl) T.cz T.bN.kp (bX T) (af (aa 5) (af (aO (aa 1) (aa 4)) (af (aO (aa 1) (aa 3)) aj)))) ai (aC _)) (nN (gj (bD (xM T) (hr.mono (by decide)) (by rfl) T.Ae T.mK.kp (xK T) (af (aa 6) (af (aa 0) aj))))))) (aA (nV (DF (aa 2) (aa 6) (sW PySem.F.plainAttrs_list PySem.F.slot_list_append PySem.F.type_list_append kF (cK.dn (aa 2)) (iG (cK.dn (aa 6)) lD))))) aT)))))))))
  (aA (aD (aR (rW (n:=3) (.inr rfl) hu) (by rfl) T.eW cF (af (aa 2) aj))))))),fun ds M Q h=>?_⟩
 obtain ⟨l,rfl,ps,hM,nd,l7,ho,h⟩:=h
 have sl:(1000:Nat) < sizeLine:=by decide
 walk_at "rd"
 refine ⟨l,ps,rfl,hM,by omega,fun r row hr bG hso=>?_⟩
 have str:row.Pairwise (fun p q=>aL p q):=BO (bG.nodup_iff.mpr nd) hso
 have lr:row.length=ps.length:=bG.length_eq
 have hmr:∀ q,q∈row↔q∈ps:=fun q=>bG.mem_iff
 have oN:∀ i,i < row.length→(cH row i).Ok 140:=fun i hi=>ho _ ((hmr _).mp (Y9 (jQ hi)))
 have aN:∀ i,i < row.length→uF (row.map Pl.d) (i:Int)=some (cH row i).d:=fun i hi=>bU (by rw [ZI,jQ hi];rfl)
 have hR:aE M r (.lst (row.map Pl.d)) r=some (.lst (row.map Pl.d)):=ah
 have hM:=ao (u:=MO.lst (row.map Pl.d)) hM hr
 have le:=Le.new (o:=MO.lst (row.map Pl.d)) hr
 generalize aE M r (.lst (row.map Pl.d))=M1 at hR hM le ⊢
 walk_at "rd"
 intro f hf
 have T3:M f=none:=le.free hf
 have nl:l≠f:=fun z=>by rw [z,hf] at hM;cases hM
 have nr:r≠f:=fun z=>by rw [z,hf] at hR;cases hR
 have hF:aE M1 f (.lst []) f=some (.lst []):=ah
 have hR:=ao (u:=MO.lst []) hR hf
 have hM:=ao (u:=MO.lst []) hM hf
 have le:=le.trans (Le.new (o:=MO.lst []) hf)
 generalize aE M1 f (.lst [])=M2 at hR hM hF le ⊢
 walk_at "rd"
 refine ⟨_,_,rfl,.inr (.inr ⟨r,rfl,hR⟩),?_⟩
 rw [Y4]
 walk_at "rd"
 refine ⟨by omega,by omega,?_⟩
 refine aP (fun j ρ M'=>(∃ y3 y4 y5 y6,ρ= [some (.ref l),some (.ref r),some (.ref f),y3,y4,y5,y6])∧M' l=some (.lst (ps.map Pl.d))∧M' r=some (.lst (row.map Pl.d))∧M' f=some (.lst ((tW ps row j).map tD))∧Le M M') _ ?_ ?_ ⟨⟨_,_,_,_,rfl⟩,hM,hR,hF,le⟩
 ·rintro j x ρ M' N hx ⟨⟨y3,y4,y5,y6,rfl⟩,hM,hR,hF,le⟩ hN
  obtain ⟨hj,rfl⟩:=cg hx
  have hj:j < row.length:=by omega
  refine ⟨trivial,?_⟩
  walk_at "rd"
  refine ⟨by omega,by omega,?_⟩
  refine aP (fun k ρ M'=>(∃ y4 y5 y6,ρ= [some (.ref l),some (.ref r),some (.ref f),some (.int (j:Int)),y4,y5,y6])∧M' l=some (.lst (ps.map Pl.d))∧M' r=some (.lst (row.map Pl.d))∧M' f=some (.lst ((tW ps row j ++ vC ps row j k).map tD))∧Le M M') _ ?_ ?_ ⟨⟨_,_,_,rfl⟩,hM,hR,by rw [hF];simp [vC],le⟩
  ·rintro k x ρ M' N2 rK ⟨⟨y4,y5,y6,rfl⟩,hM,hR,hF,le⟩ AL
   obtain ⟨hk,rfl⟩:=cg rK
   have hk:k < j:=by omega
   refine ⟨trivial,?_⟩
   walk_at "rd"
   refine ⟨_,.of hR,fun c hc=>?_⟩
   rw [oz Pl.d row k (by omega)]
   have nc:c≠f:=fun z=>by rw [z,hF] at hc;cases hc
   have hC:aE M' c (.lst ((row.take k).map Pl.d)) c=some (.lst ((row.take k).map Pl.d)):=ah
   have hM:=ao (u:=MO.lst ((row.take k).map Pl.d)) hM hc
   have hR:=ao (u:=MO.lst ((row.take k).map Pl.d)) hR hc
   have hF:=ao (u:=MO.lst ((row.take k).map Pl.d)) hF hc
   have le:=le.trans (Le.new (o:=MO.lst ((row.take k).map Pl.d)) hc)
   generalize aE M' c (.lst ((row.take k).map Pl.d))=M3 at hM hR hF hC le ⊢
   refine ⟨c,_,rfl,hC,?_⟩
   have VH:(row.take k).length=k:=by rw [ZO];omega
   refine aP (fun i ρ M'=>(∃ y5 y6,ρ= [some (.ref l),some (.ref r),some (.ref f),some (.int (j:Int)),some (.int (k:Int)),y5,y6])∧M' l=some (.lst (ps.map Pl.d))∧M' r=some (.lst (row.map Pl.d))∧M' c=some (.lst ((row.take k).map Pl.d))∧M' f=some (.lst ((tW ps row j ++ vC ps row j k ++ tV ps row j k i).map tD))∧Le M M') _ ?_ ?_ ⟨⟨_,_,rfl⟩,hM,hR,hC,by rw [hF];simp [tV],le⟩
   ·rintro i x ρ M' N3 VI ⟨⟨y5,y6,rfl⟩,hM,hR,hC,hF,le⟩ NC
    obtain ⟨a,ha,rfl⟩:=lQ VI
    have hi:i < k:=by have:=(Ze.mp ha).1;omega
    have ea:a=cH row i:=by
     rw [aaT hi,jQ (by omega)] at ha
     exact (Option.some.inj ha).symm
    subst ea
    refine ⟨hC,?_⟩
    have oA:=oN i (by omega)
    have oB:=oN k (by omega)
    have oC:=oN j (by omega)
    have ll:(tW ps row j ++ vC ps row j k ++ tV ps row j k i).length≤900:=by
     rw [Zh,Zh]
     have:=vF (Q:=ps) row j
     have:=vE (Q:=ps) row j k
     have:=BG (Q:=ps) row j k i
     have b:∀ n,n≤7→P6 n≤40∧P5 n≤40:=by decide
     have:=b j (by omega)
     have:=b k (by omega)
     omega
    have Qc:tw (cH row i) (cH row k) (cH row j)≠0→jr ps (jP (cH row i) (cH row k) (cH row j)):=fun n=>⟨Ej (dM str hi (by omega)) (dM str hk hj) n,fun q hq=>by
     have:=(pT _ _ _).mem_iff.mp hq
     simp only [Y6,Zt,or_false] at this
     rcases this with rfl | rfl | rfl <;> exact (hmr _).mp (Y9 (jQ (by omega)))⟩
    walk_at "rd"
    refine ⟨_,_,_,.inr (.inr ⟨r,rfl,hR⟩),rfl,aN k (by omega),?_⟩
    walk_at "rd"
    refine ⟨_,_,_,.inr (.inr ⟨r,rfl,hR⟩),rfl,aN j (by omega),?_⟩
    walk_at "rd"
    refine ⟨_,_,_,.inr (.inr ⟨r,rfl,hR⟩),rfl,aN k (by omega),?_⟩
    walk_at "rd"
    refine ⟨_,_,_,.inr (.inr ⟨r,rfl,hR⟩),rfl,aN j (by omega),?_⟩
    walk_at "rd"
    refine ⟨oA,oB,oC,?_⟩
    walk_at "rd"
    refine br (fun k1=>?_) (fun k1=>?_)
    ·have k1:tw (cH row i) (cH row k) (cH row j) < 0:=of_decide_eq_true k1
     walk_at "rd"
     refine ⟨_,_,_,.inr (.inr ⟨r,rfl,hR⟩),rfl,aN j (by omega),?_⟩
     walk_at "rd"
     refine ⟨_,_,_,.inr (.inr ⟨r,rfl,hR⟩),rfl,aN k (by omega),?_⟩
     walk_at "rd"
     refine ⟨_,_,_,.inr (.inr ⟨r,rfl,hR⟩),rfl,aN k (by omega),?_⟩
     walk_at "rd"
     refine ⟨_,_,_,.inr (.inr ⟨r,rfl,hR⟩),rfl,aN j (by omega),?_⟩
     walk_at "rd"
     refine ⟨oA,oB,oC,?_⟩
     walk_at "rd"
     rw [ia]
     refine br (fun k2=>?_) (fun k2=>?_)
     ·have k2:tw (cH row i) (cH row k) (cH row j)≠0:=of_decide_eq_true k2
      have eT:jP (cH row i) (cH row k) (cH row j)= [cH row i,cH row j,cH row k]:=by unfold jP;rw [if_pos k1]
      have MS:=Qc k2
      rw [eT] at MS
      walk_at "rd"
      refine ⟨[cH row i,cH row j,cH row k],l,rfl,ps,hM,MS,ho,fun b hb=>?_⟩
      cases b with
      | true=>
        walk_at "rd"
        refine ⟨⟨f,_,rfl,hF⟩,?_⟩
        walk_at "rd"
        refine ⟨f,_,rfl,hF,by rw [Y4];omega,?_⟩
        refine NC _ _ ⟨⟨_,_,rfl⟩,(bg nl).trans hM,(bg nr).trans hR,(bg nc).trans hC,?_,fun a o e=>by rw [bg (fun z=>by rw [z,T3] at e;cases e)];exact le a o e⟩
        rw [ah,iR (by omega),BF k2 (by rw [eT];exact hb.mp rfl),eT,← aa0,Zn (l₂:=[[cH row i,cH row j,cH row k]])]
        rfl
      | false=>
        walk_at "rd"
        refine NC _ _ ⟨⟨_,_,rfl⟩,hM,hR,hC,?_,le⟩
        rw [hF,iR (by omega),rz (fun z=>by rw [eT] at z;cases hb.mpr z.2),Z2]
     ·have k2:¬ tw (cH row i) (cH row k) (cH row j)≠0:=fun z=>k2 (decide_eq_true z)
      walk_at "rd"
      refine NC _ _ ⟨⟨_,_,rfl⟩,hM,hR,hC,?_,le⟩
      rw [hF,iR (by omega),rz (fun z=>k2 z.1),Z2]
    ·have k1:¬ tw (cH row i) (cH row k) (cH row j) < 0:=fun z=>k1 (decide_eq_true z)
     walk_at "rd"
     refine ⟨_,_,_,.inr (.inr ⟨r,rfl,hR⟩),rfl,aN k (by omega),?_⟩
     walk_at "rd"
     refine ⟨_,_,_,.inr (.inr ⟨r,rfl,hR⟩),rfl,aN j (by omega),?_⟩
     walk_at "rd"
     refine ⟨oA,oB,oC,?_⟩
     walk_at "rd"
     rw [ia]
     refine br (fun k2=>?_) (fun k2=>?_)
     ·have k2:tw (cH row i) (cH row k) (cH row j)≠0:=of_decide_eq_true k2
      have eT:jP (cH row i) (cH row k) (cH row j)= [cH row i,cH row k,cH row j]:=by unfold jP;rw [if_neg k1]
      have MS:=Qc k2
      rw [eT] at MS
      walk_at "rd"
      refine ⟨[cH row i,cH row k,cH row j],l,rfl,ps,hM,MS,ho,fun b hb=>?_⟩
      cases b with
      | true=>
        walk_at "rd"
        refine ⟨⟨f,_,rfl,hF⟩,?_⟩
        walk_at "rd"
        refine ⟨f,_,rfl,hF,by rw [Y4];omega,?_⟩
        refine NC _ _ ⟨⟨_,_,rfl⟩,(bg nl).trans hM,(bg nr).trans hR,(bg nc).trans hC,?_,fun a o e=>by rw [bg (fun z=>by rw [z,T3] at e;cases e)];exact le a o e⟩
        rw [ah,iR (by omega),BF k2 (by rw [eT];exact hb.mp rfl),eT,← aa0,Zn (l₂:=[[cH row i,cH row k,cH row j]])]
        rfl
      | false=>
        walk_at "rd"
        refine NC _ _ ⟨⟨_,_,rfl⟩,hM,hR,hC,?_,le⟩
        rw [hF,iR (by omega),rz (fun z=>by rw [eT] at z;cases hb.mpr z.2),Z2]
     ·have k2:¬ tw (cH row i) (cH row k) (cH row j)≠0:=fun z=>k2 (decide_eq_true z)
      walk_at "rd"
      refine NC _ _ ⟨⟨_,_,rfl⟩,hM,hR,hC,?_,le⟩
      rw [hF,iR (by omega),rz (fun z=>k2 z.1),Z2]
   ·rintro ρ M' ⟨⟨y5,y6,rfl⟩,hM,hR,hC,hF,le⟩
    refine ⟨hC,?_⟩
    rw [Y4,VH,aa0,← yS] at hF
    exact AL _ _ ⟨⟨_,_,_,rfl⟩,hM,hR,hF,le⟩
  ·rintro ρ M' ⟨⟨y4,y5,y6,rfl⟩,hM,hR,hF,le⟩
   refine ⟨trivial,?_⟩
   rw [Y4,aaG,abh,← yT] at hF
   exact hN _ _ ⟨⟨_,_,_,_,rfl⟩,hM,hR,hF,le⟩
 ·rintro ρ M' ⟨⟨y3,y4,y5,y6,rfl⟩,hM,hR,hF,le⟩
  refine ⟨trivial,?_⟩
  rw [Y4,aaG,abh] at hF
  obtain ⟨SJ,Fw⟩:=HX (Q:=ps) str hmr
  have ln:(tW ps row row.length).length≤40:=by
   have:=vF (Q:=ps) row row.length
   have b:∀ n,n≤7→P6 n≤40:=by decide
   have:=b row.length (by omega)
   omega
  walk_at "rd"
  refine ⟨f,_,rfl,hF,fun t ht=>by obtain ⟨_,_,_,rfl,_⟩:=((Fw t).mp ht).1.parts;rfl,by omega,fun x vs hx hp hso=>?_⟩
  exact aU.mk ⟨_,le.put,h x vs (le.free hx) (hp.nodup_iff.mpr SJ) (fun t=>hp.mem_iff.trans (Fw t)) hso (by rw [hp.length_eq];exact ln)⟩
theorem v5 (T:Txt K mg t):Binds K t.ja ["places","triples"] []:=T.ko.binds fun _ _ _ _ _ _ us hl=>match us,hl with | [_,_],_=>rfl
def xN:pK:=fun ds M Q=> ∃ l c:Addr,ds= [.ref l,.ref c]∧∃ (ps:List Pl) (ts:List (List Pl)),M l=some (.lst (ps.map Pl.d))∧M c=some (.lst (ts.map tD))∧(∀ t∈ts,Tr t)∧∀ r:Option (List Pl),Fs ts (fun t=> ∃ q∈t,q∉ps) r→Q (oT r) M
theorem v7 (T:Txt K mg t):bS P w K mg base eZ 1 t.j3 t.ja ["places","triples"] (pU K xN):=by
 refine rM T.ko jo (fun ds M Q h=>by (first | (obtain ⟨_,rfl,_⟩:=h;rfl) | (obtain ⟨_,_,rfl,_⟩:=h;rfl) | (obtain ⟨_,_,_,rfl,_⟩:=h;rfl) | (obtain ⟨_,_,_,_,rfl,_⟩:=h;rfl) | (obtain ⟨_,_,_,_,_,rfl,_⟩:=h;rfl) | (obtain ⟨_,_,_,_,_,_,rfl,_⟩:=h;rfl) | (obtain ⟨_,_,_,_,_,_,_,rfl,_⟩:=h;rfl))) (fun cdv A outer s H hr=>?_)
 have hu:=hr.units
 refine ⟨_,(aq (iU PassesOwn.never rfl (aa 1) (bW (i:=2) jo.nd rfl (Or.inl rfl)) (aA (L7 PassesOwn.never rfl (aa 2) (bW (i:=3) jo.nd rfl (Or.inl rfl)) (aA (bI (aJ (iI hu) (aa 3) (aa 0) (by with_unfolding_all rfl)) (aA (aD (aa 2))) aT)))))
  (aA (aD cZ))),fun ds M Q h=>?_⟩
 obtain ⟨l,c,rfl,ps,ts,hM,hC,hts,h⟩:=h
 walk_at "rd"
 refine ⟨c,_,rfl,hC,?_⟩
 refine aP (fun i ρ M'=>M'=M∧(∃ y1 y2:Option L3.D,ρ= [some (.ref l),some (.ref c),y1,y2])∧∀ (j:Nat) (u:List Pl),j < i→ts[j]?=some u→¬ ∃ q∈u,q∉ps) _ ?_ ?_ ⟨rfl,⟨_,_,rfl⟩,fun j u z=>by omega⟩
 ·rintro i x ρ M' N hx ⟨rfl,⟨y1,y2,rfl⟩,hf⟩ hN
  obtain ⟨t,ht,rfl⟩:=fW hx
  obtain ⟨a,b,d,et,oa,ob,oc⟩:=hts t (Y9 ht)
  refine ⟨hC,?_⟩
  refine ⟨_,rfl,?_⟩
  refine ⟨_,rfl,?_⟩
  refine aP (fun j ρ M2=>M2=M'∧(∃ y2:Option L3.D,ρ= [some (.ref l),some (.ref c),some (tD t),y2])∧∀ q∈t.take j,q∈ps) _ ?_ ?_ ⟨rfl,⟨_,rfl⟩,fun q hq=>by cases hq⟩
  ·rintro j x ρ M2 N2 rK ⟨rfl,⟨y2,rfl⟩,hg⟩ AL
   obtain ⟨q,hq,rfl⟩:=lQ rK
   refine ⟨trivial,?_⟩
   walk_at "rd"
   refine ⟨_,.inr ⟨l,rfl,hM⟩,rfl,c8 ps,?_⟩
   walk_at "rd"
   rw [if_pos rfl,qU]
   refine br (fun k=>?_) (fun k=>?_)
   ·have k:q∉ps:=fun z=>by rw [decide_eq_true z] at k;cases k
    walk_at "rd"
    exact aU.mk ⟨_,Le.refl _,h (some t) ⟨i,ht,⟨q,Y9 hq,k⟩,hf⟩⟩
   ·have k:q∈ps:=Y3 fun z=>k (by rw [decide_eq_false z];rfl)
    refine AL _ _ ⟨rfl,⟨_,rfl⟩,fun z hz=>?_⟩
    rw [Z7,hq] at hz
    rcases Zq.mp hz with hz | hz
    ·exact hg z hz
    ·rw [Y8.mp hz];exact k
  ·rintro ρ M2 ⟨rfl,⟨y2,rfl⟩,hg⟩
   rw [Y4,ZE] at hg
   refine ⟨trivial,hN _ _ ⟨rfl,⟨_,_,rfl⟩,fun j u hj kE=>?_⟩⟩
   by_cases e:j=i
   ·subst e
    rw [ht] at kE
    cases kE
    rintro ⟨q,mq,nq⟩
    exact nq (hg q mq)
   ·exact hf j u (by omega) kE
 ·rintro ρ M' ⟨rfl,⟨y1,y2,rfl⟩,hf⟩
  refine ⟨hC,?_⟩
  walk_at "rd"
  refine aU.mk ⟨_,Le.refl _,h none fun t ht=>?_⟩
  obtain ⟨j,hj⟩:=Z5.mp ht
  exact hf j t (by rw [Y4];exact (Ze.mp hj).1) hj
theorem Au (T:Txt K mg t):Binds K t.zS ["number"] []:=T.vN.binds fun _ _ _ _ _ _ us hl=>match us,hl with | [_],_=>rfl
def Nb:uq:=fun ds Q=> ∃ i:Int,ds= [.int i]∧Q (.int i.sign)
theorem Av (T:Txt K mg t):bS P w K mg base eZ 1 t.CW t.zS ["number"] (tT K Nb):=by
 refine ym T.vN J9 (fun ds Q h=>by (first | (obtain ⟨_,rfl,_⟩:=h;rfl) | (obtain ⟨_,_,rfl,_⟩:=h;rfl) | (obtain ⟨_,_,_,rfl,_⟩:=h;rfl) | (obtain ⟨_,_,_,_,rfl,_⟩:=h;rfl) | (obtain ⟨_,_,_,_,_,rfl,_⟩:=h;rfl) | (obtain ⟨_,_,_,_,_,_,rfl,_⟩:=h;rfl) | (obtain ⟨_,_,_,_,_,_,_,rfl,_⟩:=h;rfl))) (fun cdv A outer s H hr=>?_)
 have hu:=hr.units
 refine ⟨_,(aq (bI (aJ Jd (aa 0) ai (aC _)) (aA (aD ai)) aT)
  (aq (bI (aJ (mZ hu) (aa 0) ai (aC _)) (aA (aD (nQ ai))) aT)
  (aA (aD ai)))),fun ds Q h=>?_⟩
 obtain ⟨i,rfl,h⟩:=h
 walk_at "rd"
 refine br (fun c=>?_) (fun c=>?_)
 ·have c:0 < i:=of_decide_eq_true c
  rw [Z8 c] at h
  exact h
 ·have c:¬ 0 < i:=fun z=>c (decide_eq_true z)
  walk_at "rd"
  refine br (fun e=>?_) (fun e=>?_)
  ·have e:i < 0:=of_decide_eq_true e
   rw [aai e] at h
   walk_at "rd"
   exact h
  ·have e:¬ i < 0:=fun z=>e (decide_eq_true z)
   have z:i=0:=by omega
   subst z
   exact h
theorem pA (T:Txt K mg t):Binds K t.vH ["a","b","c"] []:=T.mL.binds fun _ _ _ _ _ _ us hl=>match us,hl with | [_,_,_],_=>rfl
def Kd:uq:=fun ds Q=> ∃ a b c:Pl,ds= [a.d,b.d,c.d]∧a.Ok 140∧b.Ok 140∧c.Ok 140∧Q (.int (tw a b c))
theorem pB (T:Txt K mg t):bS P w K mg base eZ 1 t.zT t.vH ["a","b","c"] (tT K Kd):=by
 refine ym T.mL Ie (fun ds Q h=>by (first | (obtain ⟨_,rfl,_⟩:=h;rfl) | (obtain ⟨_,_,rfl,_⟩:=h;rfl) | (obtain ⟨_,_,_,rfl,_⟩:=h;rfl) | (obtain ⟨_,_,_,_,rfl,_⟩:=h;rfl) | (obtain ⟨_,_,_,_,_,rfl,_⟩:=h;rfl) | (obtain ⟨_,_,_,_,_,_,rfl,_⟩:=h;rfl) | (obtain ⟨_,_,_,_,_,_,_,rfl,_⟩:=h;rfl))) (fun cdv A outer s H hr=>?_)
 have hu:=hr.units
 refine ⟨_,(aA (aD (au cO (au dR (au cO (aO (aa 1) ai) (aO (aa 0) ai)) (au cO (aO (aa 2) ai) (aO (aa 0) ai))) (au dR (au cO (aO (aa 1) ai) (aO (aa 0) ai)) (au cO (aO (aa 2) ai) (aO (aa 0) ai)))))),fun ds Q h=>?_⟩
 obtain ⟨a,b,c,rfl,⟨a1,a2⟩,⟨b1,b2⟩,⟨c1,c2⟩,h⟩:=h
 unfold tw at h
 walk_at "rd"
 exact h
theorem mW (T:Txt K mg t):Binds K t.zU ["a","b","c"] []:=T.mO.binds fun _ _ _ _ _ _ us hl=>match us,hl with | [_,_,_],_=>rfl
def Nc:uq:=fun ds Q=> ∃ a b c:Pl,ds= [a.d,b.d,c.d]∧a.Ok 140∧b.Ok 140∧c.Ok 140∧Q (.int (tw a b c).sign)
theorem mX (T:Txt K mg t):bS P w K mg base eZ 2 t.CY t.zU ["a","b","c"] (tT K Nc):=by
 refine ym T.mO Ka (fun ds Q h=>by (first | (obtain ⟨_,rfl,_⟩:=h;rfl) | (obtain ⟨_,_,rfl,_⟩:=h;rfl) | (obtain ⟨_,_,_,rfl,_⟩:=h;rfl) | (obtain ⟨_,_,_,_,rfl,_⟩:=h;rfl) | (obtain ⟨_,_,_,_,_,rfl,_⟩:=h;rfl) | (obtain ⟨_,_,_,_,_,_,rfl,_⟩:=h;rfl) | (obtain ⟨_,_,_,_,_,_,_,rfl,_⟩:=h;rfl))) (fun cdv A outer s H hr=>?_)
 have hu:=hr.units
 refine ⟨_,(aA (aD (aF (Av T) (hr.mono (by decide)) (by rfl) T.C5 T.vN.kp (Au T) (af (aF (pB T) (hr.mono (by decide)) (by rfl) T.rB T.mL.kp (pA T) (af (aa 0) (af (aa 1) (af (aa 2) aj)))) aj)))),fun ds Q h=>?_⟩
 obtain ⟨a,b,c,rfl,ha,hb,hc,h⟩:=h
 walk_at "rd"
 refine ⟨ha,hb,hc,?_⟩
 walk_at "rd"
 exact h
theorem v8 (T:Txt K mg t):Binds K t.jb ["t"] []:=T.kr.binds fun _ _ _ _ _ _ us hl=>match us,hl with | [_],_=>rfl
def xP:uq:=fun ds Q=> ∃ a b c:Pl,ds= [tD [a,b,c]]∧a.Ok 140∧b.Ok 140∧c.Ok 140∧∀ r:Bool,(r=true↔yI [a,b,c])→Q (.bl r)
theorem v9 (T:Txt K mg t):bS P w K mg base eZ 3 t.j4 t.jb ["t"] (tT K xP):=by
 refine ym T.kr vU (fun ds Q h=>by (first | (obtain ⟨_,rfl,_⟩:=h;rfl) | (obtain ⟨_,_,rfl,_⟩:=h;rfl) | (obtain ⟨_,_,_,rfl,_⟩:=h;rfl) | (obtain ⟨_,_,_,_,rfl,_⟩:=h;rfl) | (obtain ⟨_,_,_,_,_,rfl,_⟩:=h;rfl) | (obtain ⟨_,_,_,_,_,_,rfl,_⟩:=h;rfl) | (obtain ⟨_,_,_,_,_,_,_,rfl,_⟩:=h;rfl))) (fun cdv A outer s H hr=>?_)
 have hu:=hr.units
 refine ⟨_,(aA (aD (jt (fG (e9 hu) (aO (aa 0) ai) (aR (JM hu rfl) (by rfl) T.oW iP (af (aa 0) aj)) (aC _)) (nP (fG (e9 hu) (aF (mX T) (hr.mono (by decide)) (by rfl) T.qF T.mO.kp (mW T) (af (aO (aa 0) ai) (af (aO (aa 0) ai) (af (aO (aa 0) ai) aj)))) ai (aC _)))))),fun ds Q h=>?_⟩
 obtain ⟨a,b,c,rfl,ha,hb,hc,h⟩:=h
 refine ⟨_,rfl,?_⟩
 refine ⟨_,_,_,Or.inl rfl,rfl,rfl,?_⟩
 refine ⟨_,rfl,?_⟩
 refine ⟨[a,b,c],rfl,by simp,fun m mm lm=>?_⟩
 have key:=MC mm lm
 walk_at "rd"
 rw [cY]
 cases c1:decide (a=m) with
 | false=>
   walk_at "rd"
   exact h false ⟨(fun z=>by cases z),fun z=>absurd (key.mpr z.1) (of_decide_eq_false c1)⟩
 | true=>
   have e:=key.mp (of_decide_eq_true c1)
   refine ⟨_,rfl,?_⟩
   refine ⟨_,_,_,Or.inl rfl,rfl,rfl,?_⟩
   refine ⟨_,rfl,?_⟩
   refine ⟨_,_,_,Or.inl rfl,rfl,rfl,?_⟩
   refine ⟨_,rfl,?_⟩
   refine ⟨_,_,_,Or.inl rfl,rfl,rfl,?_⟩
   refine ⟨a,b,c,rfl,ha,hb,hc,?_⟩
   walk_at "rd"
   rw [c6]
   refine h _ ?_
   rw [beq_iff_eq,abv]
   exact ⟨fun z=>⟨e,z⟩,fun z=>z.2⟩
theorem xQ (T:Txt K mg t):Binds K t.j5 ["triples"] []:=T.mP.binds fun _ _ _ _ _ _ us hl=>match us,hl with | [_],_=>rfl
def Aw:pK:=fun ds M Q=> ∃ c:Addr,ds= [.ref c]∧∃ ts:List (List Pl),M c=some (.lst (ts.map tD))∧(∀ t∈ts,Tr t)∧∀ r:Option (List Pl),Fs ts (fun t=> ¬ yI t) r→Q (oT r) M
theorem xR (T:Txt K mg t):bS P w K mg base eZ 4 t.mh t.j5 ["triples"] (pU K Aw):=by
 refine rM T.mP qd (fun ds M Q h=>by (first | (obtain ⟨_,rfl,_⟩:=h;rfl) | (obtain ⟨_,_,rfl,_⟩:=h;rfl) | (obtain ⟨_,_,_,rfl,_⟩:=h;rfl) | (obtain ⟨_,_,_,_,rfl,_⟩:=h;rfl) | (obtain ⟨_,_,_,_,_,rfl,_⟩:=h;rfl) | (obtain ⟨_,_,_,_,_,_,rfl,_⟩:=h;rfl) | (obtain ⟨_,_,_,_,_,_,_,rfl,_⟩:=h;rfl))) (fun cdv A outer s H hr=>?_)
 have hu:=hr.units
 refine ⟨_,(aq (iU PassesOwn.never rfl (aa 0) (bW (i:=1) qd.nd rfl (Or.inl rfl)) (aA (bI (k_not (gj (aF (v9 T) (hr.mono (by decide)) (by rfl) T.xh T.kr.kp (v8 T) (af (aa 1) aj)))) (aA (aD (aa 1))) aT)))
  (aA (aD cZ))),fun ds M Q h=>?_⟩
 obtain ⟨c,rfl,ts,hC,hts,h⟩:=h
 walk_at "rd"
 refine ⟨c,_,rfl,hC,?_⟩
 refine aP (fun i ρ M'=>M'=M∧(∃ y1:Option L3.D,ρ= [some (.ref c),y1])∧∀ (j:Nat) (u:List Pl),j < i→ts[j]?=some u→¬ ¬ yI u) _ ?_ ?_ ⟨rfl,⟨_,rfl⟩,fun j u z=>by omega⟩
 ·rintro i x ρ M' N hx ⟨rfl,⟨y1,rfl⟩,hf⟩ hN
  obtain ⟨t,ht,rfl⟩:=fW hx
  obtain ⟨a,b,d,rfl,oa,ob,oc⟩:=hts t (Y9 ht)
  refine ⟨hC,?_⟩
  refine ⟨_,rfl,?_⟩
  refine ⟨a,b,d,rfl,oa,ob,oc,fun r hr'=>?_⟩
  walk_at "rd"
  cases r with
  | false=>
    walk_at "rd"
    exact aU.mk ⟨_,Le.refl _,h (some [a,b,d]) ⟨i,ht,fun z=>absurd (hr'.mpr z) (by decide),hf⟩⟩
  | true=>
    walk_at "rd"
    refine hN _ _ ⟨rfl,⟨_,rfl⟩,fun j u hj kE=>?_⟩
    by_cases e:j=i
    ·subst e
     rw [ht] at kE
     cases kE
     exact fun z=>z (hr'.mp rfl)
    ·exact hf j u (by omega) kE
 ·rintro ρ M' ⟨rfl,⟨y1,rfl⟩,hf⟩
  refine ⟨hC,?_⟩
  walk_at "rd"
  refine aU.mk ⟨_,Le.refl _,h none fun t ht=>?_⟩
  obtain ⟨j,hj⟩:=Z5.mp ht
  exact hf j t (by rw [Y4];exact (Ze.mp hj).1) hj
theorem wc (T:Txt K mg t):Binds K t.jc ["places"] []:=T.ku.binds fun _ _ _ _ _ _ us hl=>match us,hl with | [_],_=>rfl
def xS:pK:=fun ds M Q=> ∃ l:Addr,ds= [.ref l]∧∃ ps:List Pl,M l=some (.lst (ps.map Pl.d))∧(∀ q∈ps,q.Ok 140)∧∀ r:Bool,(r=true↔Flat ps)→Q (.bl r) M
theorem SK (i:Int):eg (.int i.sign) (.int 0)=decide (i=0):=by
 rw [c6,ZW]
 simp [Int.sign_eq_zero_iff_zero]
theorem Ig {ps:List Pl} {m n:Pl} (h1:∀ z∈ps,¬ aL z m) (h2:∀ z∈ps,¬ aL n z) (h:∀ q∈ps,tw m n q=0):Flat ps:=fun p hp q hq r hr=>by
 by_cases e:m=n
 ·have all:∀ z∈ps,z=m:=fun z hz=>by
   rcases bV z m with k | k | k
   ·exact absurd k (h1 z hz)
   ·exact k
   ·rw [e] at k;exact absurd k (h2 z hz)
  rw [all p hp,all q hq,all r hr,gQ]
 ·exact Br e (h p hp) (h q hq) (h r hr)
theorem Ih {ps:List Pl} {m m':Pl} (a:m∈ps) (b:m'∈ps) (h1:∀ z∈ps,¬ aL z m) (h2:∀ z∈ps,¬ aL z m'):m=m':=by
 rcases bV m m' with k | k | k
 ·exact absurd k (h2 m a)
 ·exact k
 ·exact absurd k (h1 m' b)
theorem Fx {ps:List Pl} {m m':Pl} (a:m∈ps) (b:m'∈ps) (h1:∀ z∈ps,¬ aL m z) (h2:∀ z∈ps,¬ aL m' z):m=m':=by
 rcases bV m m' with k | k | k
 ·exact absurd k (h1 m' b)
 ·exact k
 ·exact absurd k (h2 m a)
theorem we (T:Txt K mg t):bS P w K mg base eZ 3 t.j6 t.jc ["places"] (pU K xS):=by
 refine rM T.ku oZ (fun ds M Q h=>by (first | (obtain ⟨_,rfl,_⟩:=h;rfl) | (obtain ⟨_,_,rfl,_⟩:=h;rfl) | (obtain ⟨_,_,_,rfl,_⟩:=h;rfl) | (obtain ⟨_,_,_,_,rfl,_⟩:=h;rfl) | (obtain ⟨_,_,_,_,_,rfl,_⟩:=h;rfl) | (obtain ⟨_,_,_,_,_,_,rfl,_⟩:=h;rfl) | (obtain ⟨_,_,_,_,_,_,_,rfl,_⟩:=h;rfl))) (fun cdv A outer s H hr=>?_)
 have hu:=hr.units
 refine ⟨_,(aq (iU PassesOwn.never rfl (aa 0) (bW (i:=1) oZ.nd rfl (Or.inl rfl)) (aA (bI (aJ (nT hu) (aF (mX T) (hr.mono (by decide)) (by rfl) T.qF T.mO.kp (mW T) (af (aR (Cy hu rfl) (by rfl) T.oW iP (af (aa 0) aj)) (af (aR (Mt hu rfl) (by rfl) T.MZ EL (af (aa 0) aj)) (af (aa 1) aj)))) ai (aC _)) (aA (aD iT)) aT)))
  (aA (aD iT))),fun ds M Q h=>?_⟩
 obtain ⟨l,rfl,ps,hM,ho,h⟩:=h
 walk_at "rd"
 refine ⟨l,_,rfl,hM,?_⟩
 refine aP (fun i ρ M'=>M'=M∧(∃ y1:Option L3.D,ρ= [some (.ref l),y1])∧∀ q∈ps.take i,∀ m n:Pl,m∈ps→n∈ps→(∀ z∈ps,¬ aL z m)→(∀ z∈ps,¬ aL n z)→tw m n q=0) _ ?_ ?_ ⟨rfl,⟨_,rfl⟩,fun q hq=>by cases hq⟩
 ·rintro i x ρ M' N hx ⟨rfl,⟨y1,rfl⟩,hf⟩ hN
  obtain ⟨p,hp,rfl⟩:=lQ hx
  have mp:=Y9 hp
  have hne:ps≠[]:=fun z=>by rw [z] at mp;cases mp
  refine ⟨hM,?_⟩
  walk_at "rd"
  refine ⟨l,ps,rfl,hM,hne,fun m mm lm=>?_⟩
  walk_at "rd"
  refine ⟨l,ps,rfl,hM,hne,fun n mn ln=>?_⟩
  walk_at "rd"
  refine ⟨ho m mm,ho n mn,ho p mp,?_⟩
  walk_at "rd"
  rw [SK]
  refine br (fun k=>?_) (fun k=>?_)
  ·have k:tw m n p≠0:=fun z=>by rw [decide_eq_true z] at k;cases k
   walk_at "rd"
   exact aU.mk ⟨_,Le.refl _,h false ⟨(fun z=>by cases z),fun z=>absurd (z m mm n mn p mp) k⟩⟩
  ·have k:tw m n p=0:=Y3 fun z=>k (by rw [decide_eq_false z];rfl)
   refine hN _ _ ⟨rfl,⟨_,rfl⟩,fun q hq m' n' a b c d=>?_⟩
   rw [Z7,hp] at hq
   rcases Zq.mp hq with hq | hq
   ·exact hf q hq m' n' a b c d
   ·rw [Y8.mp hq,Ih a mm c lm,Fx b mn d ln]
    exact k
 ·rintro ρ M' ⟨rfl,⟨y1,rfl⟩,hf⟩
  refine ⟨hM,?_⟩
  walk_at "rd"
  rw [Y4,ZE] at hf
  refine aU.mk ⟨_,Le.refl _,h true ⟨fun _=>?_,fun _=>rfl⟩⟩
  by_cases e:ps= []
  ·rw [e]
   exact fun p hp=>by cases hp
  ·obtain ⟨m,mm,lm⟩:=uw ps e
   obtain ⟨n,mn,ln⟩:=zC ps e
   exact Ig lm ln fun q hq=>hf q hq m n mm mn lm ln
theorem yU (T:Txt K mg t):Binds K t.sM ["t"] []:=T.rC.binds fun _ _ _ _ _ _ us hl=>match us,hl with | [_],_=>rfl
def Ii:pK:=fun ds M Q=> ∃ a b c:Pl,ds= [tD [a,b,c]]∧∀ p,M p=none→Q (.ref p) (aE M p (.lst ([[a,b,c],[b,c,a],[c,a,b]].map tD)))
theorem yV (T:Txt K mg t):bS P w K mg base eZ 1 t.vI t.sM ["t"] (pU K Ii):=by
 refine rM T.rC Ft (fun ds M Q h=>by (first | (obtain ⟨_,rfl,_⟩:=h;rfl) | (obtain ⟨_,_,rfl,_⟩:=h;rfl) | (obtain ⟨_,_,_,rfl,_⟩:=h;rfl) | (obtain ⟨_,_,_,_,rfl,_⟩:=h;rfl) | (obtain ⟨_,_,_,_,_,rfl,_⟩:=h;rfl) | (obtain ⟨_,_,_,_,_,_,rfl,_⟩:=h;rfl) | (obtain ⟨_,_,_,_,_,_,_,rfl,_⟩:=h;rfl))) (fun cdv A outer s H hr=>?_)
 have hu:=hr.units
 refine ⟨_,(aA (aD (cR (af (cL (af (aO (aa 0) ai) (af (aO (aa 0) ai) (af (aO (aa 0) ai) aj)))) (af (cL (af (aO (aa 0) ai) (af (aO (aa 0) ai) (af (aO (aa 0) ai) aj)))) (af (cL (af (aO (aa 0) ai) (af (aO (aa 0) ai) (af (aO (aa 0) ai) aj)))) aj)))))),fun ds M Q h=>?_⟩
 obtain ⟨a,b,c,rfl,h⟩:=h
 walk_at "rd"
 intro p hp
 exact aU.mk ⟨_,Le.refl _,h p hp⟩
theorem jz (T:Txt K mg t):Binds K t.fY ["cover"] []:=T.eV.binds fun _ _ _ _ _ _ us hl=>match us,hl with | [_],_=>rfl
def sU:pK:=fun ds M Q=> ∃ l:Addr,ds= [.ref l]∧∃ ts:List (List Pl),M l=some (.lst (ts.map tD))∧(∀ t∈ts,Tr t)∧ts.length≤200∧∀ p,M p=none→Q (.ref p) (aE M p (.lst ((bR ts).map tD)))
theorem jA (T:Txt K mg t):bS P w K mg base eZ 2 t.gB t.fY ["cover"] (pU K sU):=by
 refine rM T.eV gf (fun ds M Q h=>by (first | (obtain ⟨_,rfl,_⟩:=h;rfl) | (obtain ⟨_,_,rfl,_⟩:=h;rfl) | (obtain ⟨_,_,_,rfl,_⟩:=h;rfl) | (obtain ⟨_,_,_,_,rfl,_⟩:=h;rfl) | (obtain ⟨_,_,_,_,_,rfl,_⟩:=h;rfl) | (obtain ⟨_,_,_,_,_,_,rfl,_⟩:=h;rfl) | (obtain ⟨_,_,_,_,_,_,_,rfl,_⟩:=h;rfl))) (fun cdv A outer s H hr=>?_)
 have hu:=hr.units
 refine ⟨_,(aq (aS (i:=1) gf.nd rfl (Or.inl rfl) (cR aj))
  (aq (iU PassesOwn.never rfl (aa 0) (bW (i:=2) gf.nd rfl (Or.inl rfl)) (aA (nV (KR (aa 1) (Be (kK (ys:=[]) (fs:=[]) rfl (by show cU (ay c7) ["cover","ways","t"] _ _ _ _=true;decide +kernel) (bD (yV T) (hr.mono (by decide)) (by rfl) T.BI T.rC.kp (yU T) (af (aa 2) aj)) (fun cl C s0 H0 ex=>Bc) (fun cl C s0 H0 ex=>(cL (af (aO (aa 0) ai) (af (aO (aa 0) ai) aj)))))) (sW PySem.F.plainAttrs_list PySem.F.slot_list_extend PySem.F.type_list_extend yg (cK.dn (aa 1)) (iG (cK.dn (Be (kK (ys:=[]) (fs:=[]) rfl (by show cU (ay c7) ["cover","ways","t"] _ _ _ _=true;decide +kernel) (bD (yV T) (hr.mono (by decide)) (by rfl) T.BI T.rC.kp (yU T) (af (aa 2) aj)) (fun cl C s0 H0 ex=>Bc) (fun cl C s0 H0 ex=>(cL (af (aO (aa 0) ai) (af (aO (aa 0) ai) aj))))))) lD))))))
  (aA (aD (aa 1))))),fun ds M Q h=>?_⟩
 obtain ⟨l,rfl,ts,hM,hts,Ij,h⟩:=h
 have sl:(1000:Nat) < sizeLine:=by decide
 walk_at "rd"
 intro p hp
 have SM:l≠p:=fun z=>by rw [← z,hM] at hp;cases hp
 walk_at "rd"
 refine ⟨l,_,rfl,ao hM hp,?_⟩
 refine aP (fun i ρ M'=>(∃ y:Option L3.D,ρ= [some (.ref l),some (.ref p),y])∧M' l=some (.lst (ts.map tD))∧M' p=some (.lst ((bR (ts.take i)).map tD))∧Le M M') _ ?_ ?_ ⟨⟨_,rfl⟩,ao hM hp,ah,Le.new hp⟩
 ·rintro i x ρ M' N hx ⟨⟨y,rfl⟩,hM,hP,le⟩ hN
  obtain ⟨t,ht,rfl⟩:=fW hx
  obtain ⟨a,b,c,rfl,oa,ob,oc⟩:=hts t (Y9 ht)
  refine ⟨hM,?_⟩
  walk_at "rd"
  refine ⟨⟨p,_,rfl,hP⟩,?_⟩
  refine ⟨_,rfl,?_⟩
  refine ⟨a,b,c,rfl,fun q hq=>?_⟩
  have hM:=ao (u:=MO.lst ([[a,b,c],[b,c,a],[c,a,b]].map tD)) hM hq
  have hP:=ao (u:=MO.lst ([[a,b,c],[b,c,a],[c,a,b]].map tD)) hP hq
  have le:=le.trans (Le.new (o:=MO.lst ([[a,b,c],[b,c,a],[c,a,b]].map tD)) hq)
  have hQ:aE M' q (.lst ([[a,b,c],[b,c,a],[c,a,b]].map tD)) q=some (.lst ([[a,b,c],[b,c,a],[c,a,b]].map tD)):=ah
  generalize aE M' q (.lst ([[a,b,c],[b,c,a],[c,a,b]].map tD))=M2 at hM hP hQ le ⊢
  refine ⟨q,_,rfl,hQ,by show 3 < sizeLine;omega,aU.mk (c9 (fun j acc M4=>M4=M2∧acc=(([[a,b],[b,c],[c,a]].take j)).map tD) _ ?_ ?_ ⟨rfl,rfl⟩)⟩
  ·rintro j d acc M4 N2 rK ⟨rfl,rfl⟩ AL
   obtain ⟨u,kE,rfl⟩:=fW rK
   have hj:j < 3:=(Ze.mp kE).1
   have hj:j=0∨j=1∨j=2:=by omega
   refine ⟨hQ,?_⟩
   rcases hj with rfl | rfl | rfl
   ·cases kE
    walk_at "rd"
    exact AL _ _ ⟨rfl,rfl⟩
   ·cases kE
    walk_at "rd"
    exact AL _ _ ⟨rfl,rfl⟩
   ·cases kE
    walk_at "rd"
    exact AL _ _ ⟨rfl,rfl⟩
  ·rintro acc M4 ⟨rfl,hacc⟩
   have hacc:acc= [[a,b],[b,c],[c,a]].map tD:=hacc
   subst hacc
   refine ⟨hQ,fun u kE=>?_⟩
   have ld:=qZ (ts.take i)
   rw [ZO] at ld
   have Xy:u≠p:=fun z=>by rw [z,hP] at kE;cases kE
   refine ⟨p,u,_,_,rfl,rfl,ao hP kE,ah,by rw [Y4];show _+3≤sizeLine;omega,?_⟩
   refine hN _ _ ⟨⟨_,rfl⟩,?_,?_,fun x o e=>?_⟩
   ·rw [bg SM]
    exact ao hM kE
   ·rw [ah,E9 ht,Zn]
    rfl
   ·rw [bg (fun z=>by rw [z,hp] at e;cases e)]
    exact ao (le _ _ e) kE
 ·rintro ρ M' ⟨⟨y,rfl⟩,hM,hP,le⟩
  refine ⟨hM,?_⟩
  walk_at "rd"
  rw [Y4,ZE] at hP
  refine aU.mk ⟨aE M p (.lst ((bR ts).map tD)),fun b o e=>?_,h p hp⟩
  by_cases hb:b=p
  ·subst hb
   rw [ah] at e
   rw [hP]
   exact e
  ·rw [bg hb] at e
   exact le _ _ e
theorem tX (T:Txt K mg t):Binds K t.ic ["triples"] []:=T.jk.binds fun _ _ _ _ _ _ us hl=>match us,hl with | [_],_=>rfl
def wg:pK:=fun ds M Q=> ∃ c:Addr,ds= [.ref c]∧∃ ts:List (List Pl),M c=some (.lst (ts.map tD))∧(∀ t∈ts,Tr t)∧ts.length≤200∧∀ r:Option (List Pl),E8 (PC (bR ts)) r→Q (oT r) M
theorem tY (T:Txt K mg t):bS P w K mg base eZ 3 t.jd t.ic ["triples"] (pU K wg):=by
 refine rM T.jk m8 (fun ds M Q h=>by (first | (obtain ⟨_,rfl,_⟩:=h;rfl) | (obtain ⟨_,_,rfl,_⟩:=h;rfl) | (obtain ⟨_,_,_,rfl,_⟩:=h;rfl) | (obtain ⟨_,_,_,_,rfl,_⟩:=h;rfl) | (obtain ⟨_,_,_,_,_,rfl,_⟩:=h;rfl) | (obtain ⟨_,_,_,_,_,_,rfl,_⟩:=h;rfl) | (obtain ⟨_,_,_,_,_,_,_,rfl,_⟩:=h;rfl))) (fun cdv A outer s H hr=>?_)
 have hu:=hr.units
 refine ⟨_,(aq (aS (i:=1) m8.nd rfl (Or.inr rfl) (bD (jA T) (hr.mono (by decide)) (by rfl) T.kO T.eV.kp (jz T) (af (aa 0) aj)))
  (aA (aD (CA (DY (n:=2) hu rfl) (by rfl) T.oW (Be (kK (ys:=["ways"]) (fs:=[1]) rfl (by show cU (ay fL) ["triples","ways"] _ _ _ _=true;decide +kernel) (aa 1) (fun cl C s0 H0 ex=>tF (aJ Jd (JJ (aa 1) (aa 0) (sW PySem.F.plainAttrs_list PySem.F.slot_list_count PySem.F.type_list_count (Hj hu) (cK.dn (aa 1)) (iG (cK.dn (aa 0)) lD))) ai (aC _))) (fun cl C s0 H0 ex=>(aa 0)))))))),fun ds M Q h=>?_⟩
 obtain ⟨c,rfl,ts,hC,hts,Ij,h⟩:=h
 have sl:(1000:Nat) < sizeLine:=by decide
 have ld:=qZ ts
 walk_at "rd"
 refine ⟨ts,hC,hts,Ij,fun p hp=>?_⟩
 have le:=Le.new (o:=MO.lst ((bR ts).map tD)) hp
 have hP:aE M p (.lst ((bR ts).map tD)) p=some (.lst ((bR ts).map tD)):=ah
 generalize aE M p (.lst ((bR ts).map tD))=M1 at hP le ⊢
 have two:=kM (ts:=ts)
 generalize bR ts=ws at hP ld two h ⊢
 walk_at "rd"
 refine ⟨p,_,rfl,hP,by rw [Y4];omega,aU.mk (c9 (fun i acc M4=>M4=M1∧acc=((ws.take i).filter (fun w=>decide (1 < ws.count w))).map tD) _ ?_ ?_ ⟨rfl,rfl⟩)⟩
 ·rintro i d acc M4 N hx ⟨rfl,rfl⟩ hN
  obtain ⟨w,hw,rfl⟩:=fW hx
  refine ⟨hP,?_⟩
  walk_at "rd"
  refine ⟨⟨p,_,rfl,hP⟩,?_⟩
  walk_at "rd"
  refine ⟨p,_,rfl,hP,(Zw.mp (cD [w])) _ (by simp),cD ws,?_⟩
  rw [Fb]
  walk_at "rd"
  refine br (fun k=>?_) (fun k=>?_)
  ·have k:(1:Int) < (ws.count w:Int):=of_decide_eq_true k
   walk_at "rd"
   refine hN _ _ ⟨rfl,?_⟩
   rw [cG hw,if_pos (decide_eq_true (by omega)),Zn]
   rfl
  ·have k:¬ (1:Int) < (ws.count w:Int):=fun z=>k (decide_eq_true z)
   refine hN _ _ ⟨rfl,?_⟩
   rw [cG hw,if_neg (fun z=>k (by have:=of_decide_eq_true z;omega)),Z2]
 rintro acc M4 ⟨rfl,rfl⟩
 refine ⟨hP,fun q hq=>?_⟩
 rw [Y4,ZE]
 obtain ⟨m0,m1⟩:=DZ (ws:=ws.filter (fun w=>decide (1 < ws.count w))) (W:=PC ws) (fun w=>by unfold PC;rw [Zf];simp)
 refine ⟨q,_,rfl,ah,fun t ht=>?_,fun e0=>aU.mk ⟨M,le.trans (Le.new hq),h none (m0 e0)⟩,fun m mm lm=>aU.mk ⟨M,le.trans (Le.new hq),h (some m) (m1 m mm lm)⟩⟩
 obtain ⟨a,b,e,_⟩:=two t (Zf.mp ht).1
 rw [e]
 rfl
theorem m9 (T:Txt K mg t):Binds K t.ie ["line"] []:=T.fZ.binds fun _ _ _ _ _ _ us hl=>match us,hl with | [_],_=>rfl
def wj:pK:=fun ds M Q=> ∃ (l:Addr) (ps:List Pl),ds= [.ref l]∧M l=some (.lst (ps.map Pl.d))∧ps.length≤1000∧(∀ q∈ps,q.Ok 140)∧∀ p,M p=none→Q (.ref p) (aE M p (.lst ((ps.foldl aX []).reverse.map Pl.d)))
theorem ng (T:Txt K mg t):bS P w K mg base eZ 3 t.je t.ie ["line"] (pU K wj):=by
 refine rM T.fZ iA (fun ds M Q h=>by (first | (obtain ⟨_,rfl,_⟩:=h;rfl) | (obtain ⟨_,_,rfl,_⟩:=h;rfl) | (obtain ⟨_,_,_,rfl,_⟩:=h;rfl) | (obtain ⟨_,_,_,_,rfl,_⟩:=h;rfl) | (obtain ⟨_,_,_,_,_,rfl,_⟩:=h;rfl) | (obtain ⟨_,_,_,_,_,_,rfl,_⟩:=h;rfl) | (obtain ⟨_,_,_,_,_,_,_,rfl,_⟩:=h;rfl))) (fun cdv A outer s H hr=>?_)
 have hu:=hr.units
 refine ⟨_,(aq (aS (i:=1) iA.nd rfl (Or.inl rfl) (cR aj))
  (aq (iU PassesOwn.never rfl (aa 0) (bW (i:=2) iA.nd rfl (Or.inl rfl)) (aq (Jk PassesOwn.never (qK.pt (sY (aJ Jd (aR eE (by rfl) T.cN bf (af (aa 1) aj)) ai (aC _)) (nN (aJ (e9 hu) (aF (mX T) (hr.mono (by decide)) (by rfl) T.qF T.mO.kp (mW T) (af (aO (aa 1) (nQ ai)) (af (aO (aa 1) (nQ ai)) (af (aa 2) aj)))) (nQ ai) (aC _))))) (aA (nV (Pp (aa 1) (LJ PySem.F.plainAttrs_list PySem.F.slot_list_pop PySem.F.type_list_pop LK (cK.dn (aa 1)))))))
  (aA (nV (DF (aa 1) (aa 2) (sW PySem.F.plainAttrs_list PySem.F.slot_list_append PySem.F.type_list_append kF (cK.dn (aa 1)) (iG (cK.dn (aa 2)) lD)))))))
  (aA (aD (aa 1))))),fun ds M Q h=>?_⟩
 obtain ⟨l,ps,rfl,hM,hlen,ho,h⟩:=h
 walk_at "rd"
 intro p hp
 have hl:∀ o,aE M p o l=some (.lst (ps.map Pl.d)):=fun o=>ao hM hp
 walk_at "rd"
 refine ⟨l,_,rfl,hl _,?_⟩
 refine aP (fun i ρ M'=>M'=aE M p (.lst (((ps.take i).foldl aX []).reverse.map Pl.d))∧∃ y:Option L3.D,ρ= [some (.ref l),some (.ref p),y]) _ ?_ ?_ ⟨rfl,_,rfl⟩
 ·rintro i x ρ M' N hx ⟨rfl,y,rfl⟩ hN
  obtain ⟨d,hd,rfl⟩:=lQ hx
  have od:=ho d (Y9 hd)
  have VJ:∀ q∈(ps.take i).foldl aX [],q.Ok 140:=fun q hq=>ho q (ZZ (rZ _ q hq))
  have lst:=eS (ps.take i)
  have eN:=Cw hd
  have lt:(ps.take i).length≤1000:=by rw [ZO];omega
  generalize hst:(ps.take i).foldl aX []=st at *
  refine ⟨hl _,?_⟩
  walk_at "rd"
  refine ⟨fun m ρ M'=> ∃ st':List Pl,M'=aE M p (.lst (st'.reverse.map Pl.d))∧ρ= [some (.ref l),some (.ref p),some d.d]∧m=st'.length∧kL st' d=kL st d∧(∀ q∈st',q.Ok 140)∧st'.length≤1000,⟨_,st,rfl,rfl,rfl,rfl,VJ,by omega⟩,?_⟩
  rintro m ρ M' ⟨st',rfl,rfl,rfl,ep,os,ls⟩
  walk_at "rd"
  refine ⟨_,_,rfl,.inr (.inr ⟨p,rfl,ah⟩),?_⟩
  walk_at "rd"
  rw [Y4,Zu]
  refine br (fun c=>?_) (fun c=>?_)
  ·have c:(1:Int) < (st'.length:Int):=of_decide_eq_true c
   obtain ⟨b,a,r,rfl⟩:∃ b a r,st'=b :: a :: r:=by
    match st',c with
    | b :: a :: r,_=>exact ⟨b,a,r,rfl⟩
    | [x],c=>exact absurd c (by show ¬ (1:Int) < 1;decide)
    | [],c=>exact absurd c (by decide)
   walk_at "rd"
   refine ⟨_,_,a.d,.inr (.inr ⟨p,rfl,ah⟩),rfl,EZ b a r,?_⟩
   walk_at "rd"
   refine ⟨_,_,b.d,.inr (.inr ⟨p,rfl,ah⟩),rfl,EY b _,?_⟩
   walk_at "rd"
   refine ⟨os a (by simp),os b (by simp),od,?_⟩
   walk_at "rd"
   rw [c6]
   refine br (fun k=>?_) (fun k=>?_)
   ·have k:=eq_of_beq k
    have k:tw a b d < 0:=abe.mp k
    walk_at "rd"
    refine ⟨p,_,b.d,rfl,by rw [aac,Zn];exact ah,?_⟩
    rw [nM]
    exact aU.mk ⟨_,abq _,a :: r,rfl,rfl,rfl,by rw [← ep,Hf k],fun q hq=>os q (Y5 _ hq),by simp only [Zj] at ls ⊢;omega⟩
   ·have k:¬ tw a b d < 0:=fun z=>k (by rw [aai z];rfl)
    have ez:=Hg (r:=r) k
    generalize b :: a :: r=st' at *
    walk_at "rd"
    refine ⟨⟨p,_,rfl,ah⟩,?_⟩
    walk_at "rd"
    refine ⟨p,_,rfl,ah,?_,?_⟩
    ·rw [Y4,Zu]
     have:(1000:Nat) < sizeLine:=by decide
     omega
    ·rw [nM]
     refine hN _ _ ⟨?_,_,rfl⟩
     have e:aX st d=d :: st':=by
      show d :: kL st d=_
      rw [← ep,ez]
     rw [eN,e,aac,Zn]
     rfl
  ·have c:¬ (1:Int) < (st'.length:Int):=fun z=>c (decide_eq_true z)
   have ez:kL st' d=st':=by
    match st',c with
    | [],_=>rfl
    | [_],_=>rfl
    | b :: a :: r,c=>exact absurd (show (1:Int) < ((b :: a :: r).length:Int) by simp only [Zj];omega) c
   walk_at "rd"
   refine ⟨⟨p,_,rfl,ah⟩,?_⟩
   walk_at "rd"
   refine ⟨p,_,rfl,ah,?_,?_⟩
   ·rw [Y4,Zu]
    have:(1000:Nat) < sizeLine:=by decide
    omega
   ·rw [nM]
    refine hN _ _ ⟨?_,_,rfl⟩
    have e:aX st d=d :: st':=by
     show d :: kL st d=_
     rw [← ep,ez]
    rw [eN,e,aac,Zn]
    rfl
 ·rintro ρ M' ⟨rfl,y,rfl⟩
  refine ⟨hl _,?_⟩
  walk_at "rd"
  refine aU.mk ⟨_,Le.refl _,?_⟩
  rw [Y4,ZE]
  exact h p hp
theorem Dc (T:Txt K mg t):Binds K t.qC ["places"] []:=T.sQ.binds fun _ _ _ _ _ _ us hl=>match us,hl with | [_],_=>rfl
def Fy:pK:=fun ds M Q=> ∃ (l:Addr) (ps:List Pl),ds= [.ref l]∧M l=some (.lst (ps.map Pl.d))∧ps.length < 64∧(∀ q∈ps,q.Ok 140)∧∀ (p:Addr) (qs:List Pl),M p=none→qs.Perm ps→qs.Pairwise (fun p q=> ¬ aL q p)→Q (.ref p) (aE M p (.lst ((b8 qs).map Pl.d)))
theorem Dd (T:Txt K mg t):bS P w K mg base eZ 4 t.sN t.qC ["places"] (pU K Fy):=by
 refine rM T.sQ mV (fun ds M Q h=>by (first | (obtain ⟨_,rfl,_⟩:=h;rfl) | (obtain ⟨_,_,rfl,_⟩:=h;rfl) | (obtain ⟨_,_,_,rfl,_⟩:=h;rfl) | (obtain ⟨_,_,_,_,rfl,_⟩:=h;rfl) | (obtain ⟨_,_,_,_,_,rfl,_⟩:=h;rfl) | (obtain ⟨_,_,_,_,_,_,rfl,_⟩:=h;rfl) | (obtain ⟨_,_,_,_,_,_,_,rfl,_⟩:=h;rfl))) (fun cdv A outer s H hr=>?_)
 have hu:=hr.units
 refine ⟨_,(aq (aS (i:=1) mV.nd rfl (Or.inl rfl) (aR nZ (by rfl) T.eW cF (af (aa 0) aj)))
  (aq (bI (aJ (mZ hu) (aR eE (by rfl) T.cN bf (af (aa 1) aj)) ai (aC _)) (aA (aD (aa 1))) aT)
  (aq (aS (i:=2) mV.nd rfl (Or.inl rfl) (bD (ng T) (hr.mono (by decide)) (by rfl) T.oR T.fZ.kp (m9 T) (af (aa 1) aj)))
  (aq (aS (i:=3) mV.nd rfl (Or.inl rfl) (bD (ng T) (hr.mono (by decide)) (by rfl) T.oR T.fZ.kp (m9 T) (af (ET (by rfl) (by rfl) T.dP (by rfl) T.BK (aa 1)) aj)))
  (aA (aD (au yx (ff (aa 2) wU (jL (nQ ai))) (ff (aa 3) wU (jL (nQ ai)))))))))),fun ds M Q h=>?_⟩
 obtain ⟨l,ps,rfl,hM,h64,ho,h⟩:=h
 walk_at "rd"
 refine ⟨l,ps,rfl,hM,h64,fun p qs hp bG iE=>?_⟩
 have oq:∀ q∈qs,q.Ok 140:=fun q hq=>ho q (bG.mem_iff.mp hq)
 have lq:qs.length < 64:=by rw [bG.length_eq];exact h64
 walk_at "rd"
 refine ⟨_,_,rfl,.inr (.inr ⟨p,rfl,ah⟩),?_⟩
 walk_at "rd"
 rw [Y4]
 refine br (fun c=>?_) (fun c=>?_)
 ·have c:(qs.length:Int) < 2:=of_decide_eq_true c
  have e:b8 qs=qs:=by unfold b8;rw [if_pos (by omega)]
  have q:=h p qs hp bG iE
  rw [e] at q
  walk_at "rd"
  exact aU.mk ⟨_,Le.refl _,q⟩
 ·have c:¬ (qs.length:Int) < 2:=fun z=>c (decide_eq_true z)
  have h':∀ r,M r=none→Q (.ref r) (aE M r (.lst ((b8 qs).map Pl.d))):=fun r hr=>h r qs hr bG iE
  walk_at "rd"
  refine ⟨p,qs,rfl,ah,by omega,oq,fun p1 hp1=>?_⟩
  walk_at "rd"
  have e:b8 qs=(qs.foldl aX []).reverse.dropLast ++ (qs.reverse.foldl aX []).reverse.dropLast:=by unfold b8;rw [if_neg (by omega)]
  rw [e] at h'
  have lt:(qs.foldl aX []).reverse.length≤64:=by
   have:=eS qs
   rw [Zu];omega
  have lh:(qs.reverse.foldl aX []).reverse.length≤64:=by
   have:=eS qs.reverse
   rw [Zu] at this ⊢;omega
  generalize (qs.foldl aX []).reverse=th at *
  have hQ:aE (aE M p (.lst (qs.map Pl.d))) p1 (.lst (th.map Pl.d)) p=some (.lst (qs.map Pl.d)):=ao ah hp1
  have hT:aE (aE M p (.lst (qs.map Pl.d))) p1 (.lst (th.map Pl.d)) p1=some (.lst (th.map Pl.d)):=ah
  have le:=(Le.new (o:= .lst (qs.map Pl.d)) hp).trans (Le.new (o:= .lst (th.map Pl.d)) hp1)
  generalize aE (aE M p (.lst (qs.map Pl.d))) p1 (.lst (th.map Pl.d))=M2 at hQ hT le ⊢
  refine ⟨_,.of hQ,fun p2 hp2=>?_⟩
  rw [← List.map_reverse]
  have hT2:=ao (u:=MO.lst (qs.reverse.map Pl.d)) hT hp2
  have Ke:=le.trans (Le.new (o:= .lst (qs.reverse.map Pl.d)) hp2)
  have hR:aE M2 p2 (.lst (qs.reverse.map Pl.d)) p2=some (.lst (qs.reverse.map Pl.d)):=ah
  generalize aE M2 p2 (.lst (qs.reverse.map Pl.d))=M3 at hT2 Ke hR ⊢
  refine ⟨p2,qs.reverse,rfl,hR,by rw [Zu];omega,fun q hq=>oq q (ZR.mp hq),fun p3 hp3=>?_⟩
  have Xz:th.length≤64:=by omega
  generalize (qs.reverse.foldl aX []).reverse=hm at *
  have QD:=ao (u:=MO.lst (hm.map Pl.d)) hT2 hp3
  have ND:=Ke.trans (Le.new (o:= .lst (hm.map Pl.d)) hp3)
  have hH:aE M3 p3 (.lst (hm.map Pl.d)) p3=some (.lst (hm.map Pl.d)):=ah
  generalize aE M3 p3 (.lst (hm.map Pl.d))=M4 at QD ND hH ⊢
  walk_at "rd"
  refine ⟨_,.of QD,fun p4 QE=>?_⟩
  rw [Bq]
  have T4:=ao (u:=MO.lst (th.dropLast.map Pl.d)) hH QE
  have T5:=ND.trans (Le.new (o:= .lst (th.dropLast.map Pl.d)) QE)
  have hA:aE M4 p4 (.lst (th.dropLast.map Pl.d)) p4=some (.lst (th.dropLast.map Pl.d)):=ah
  generalize aE M4 p4 (.lst (th.dropLast.map Pl.d))=M5 at T4 T5 hA ⊢
  walk_at "rd"
  refine ⟨_,.of T4,fun p5 T6=>?_⟩
  rw [Bq]
  have T7:=ao (u:=MO.lst (hm.dropLast.map Pl.d)) hA T6
  have SN:=T5.trans (Le.new (o:= .lst (hm.dropLast.map Pl.d)) T6)
  have hB:aE M5 p5 (.lst (hm.dropLast.map Pl.d)) p5=some (.lst (hm.dropLast.map Pl.d)):=ah
  generalize aE M5 p5 (.lst (hm.dropLast.map Pl.d))=M6 at T7 SN hB ⊢
  refine ⟨p4,p5,_,_,rfl,rfl,T7,hB,?_,fun p6 VL=>?_⟩
  ·rw [Y4,Y4,ZT,ZT]
   have:(1000:Nat) < sizeLine:=by decide
   omega
  ·rw [← Zn]
   exact aU.mk ⟨_,SN.put,h' p6 (SN.free VL)⟩
theorem kR (T:Txt K mg t):Binds K t.gC ["places"] []:=T.fB.binds fun _ _ _ _ _ _ us hl=>match us,hl with | [_],_=>rfl
def tZ:pK:=fun ds M Q=> ∃ (l:Addr) (ps:List Pl),ds= [.ref l]∧M l=some (.lst (ps.map Pl.d))∧ps.length < 64∧(∀ q∈ps,q.Ok 140)∧∀ (p:Addr) (qs:List Pl),M p=none→qs.Perm ps→qs.Pairwise (fun p q=> ¬ aL q p)→Q (.ref p) (aE M p (.lst ((bx (b8 qs)).map tD)))
theorem kT (T:Txt K mg t):bS P w K mg base eZ 5 t.ig t.gC ["places"] (pU K tZ):=by
 refine rM T.fB kP (fun ds M Q h=>by (first | (obtain ⟨_,rfl,_⟩:=h;rfl) | (obtain ⟨_,_,rfl,_⟩:=h;rfl) | (obtain ⟨_,_,_,rfl,_⟩:=h;rfl) | (obtain ⟨_,_,_,_,rfl,_⟩:=h;rfl) | (obtain ⟨_,_,_,_,_,rfl,_⟩:=h;rfl) | (obtain ⟨_,_,_,_,_,_,rfl,_⟩:=h;rfl) | (obtain ⟨_,_,_,_,_,_,_,rfl,_⟩:=h;rfl))) (fun cdv A outer s H hr=>?_)
 have hu:=hr.units
 refine ⟨_,(aq (aS (i:=1) kP.nd rfl (Or.inl rfl) (bD (Dd T) (hr.mono (by decide)) (by rfl) T.Fq T.sQ.kp (Dc T) (af (aa 0) aj)))
  (aq (bI (aJ (mZ hu) (aR eE (by rfl) T.cN bf (af (aa 1) aj)) ai (aC _)) (aA (aD (cR aj))) aT)
  (aA (aD (EW (by rfl) (by rfl) T.dP (by rfl) T.Na (af (aa 1) (af (au yx (ff (aa 1) (jL ai) wU) (ff (aa 1) wU (jL ai))) aj))))))),fun ds M Q h=>?_⟩
 obtain ⟨l,ps,rfl,hM,h64,ho,h⟩:=h
 walk_at "rd"
 refine ⟨l,ps,rfl,hM,h64,ho,fun p qs hp bG iE=>?_⟩
 have h':∀ r,M r=none→Q (.ref r) (aE M r (.lst ((bx (b8 qs)).map tD))):=fun r hr=>h r qs hr bG iE
 have lo:(b8 qs).length≤200:=by
  have l1:=eS qs
  have l2:=eS qs.reverse
  have l3:=bG.length_eq
  rw [Zu] at l2
  unfold b8
  split
  ·omega
  ·rw [Zh,ZT,ZT,Zu,Zu]
   omega
 generalize b8 qs=bd at *
 walk_at "rd"
 refine ⟨_,_,rfl,.inr (.inr ⟨p,rfl,ah⟩),?_⟩
 walk_at "rd"
 rw [Y4]
 refine br (fun c=>?_) (fun c=>?_)
 ·have c:(bd.length:Int) < 2:=of_decide_eq_true c
  walk_at "rd"
  intro r hr
  have q:=h' r ((Le.new hp).free hr)
  unfold bx at q
  rw [if_pos (by omega)] at q
  exact aU.mk ⟨_,(Le.new hp).put,q⟩
 ·have c:¬ (bd.length:Int) < 2:=fun z=>c (decide_eq_true z)
  walk_at "rd"
  have le:=Le.new (o:= .lst (bd.map Pl.d)) hp
  have hB:aE M p (.lst (bd.map Pl.d)) p=some (.lst (bd.map Pl.d)):=ah
  generalize aE M p (.lst (bd.map Pl.d))=M1 at hB le ⊢
  refine ⟨_,.of hB,fun p1 hp1=>?_⟩
  have VM:cutD (bd.map Pl.d) (some 1) none=(bd.drop 1).map Pl.d:=uZ Pl.d bd 1 (by omega)
  have VN:cutD (bd.map Pl.d) none (some 1)=(bd.take 1).map Pl.d:=oz Pl.d bd 1 (by omega)
  rw [VM]
  have SO:=ao (u:=MO.lst ((bd.drop 1).map Pl.d)) hB hp1
  have T8:=le.trans (Le.new (o:= .lst ((bd.drop 1).map Pl.d)) hp1)
  have hA:aE M1 p1 (.lst ((bd.drop 1).map Pl.d)) p1=some (.lst ((bd.drop 1).map Pl.d)):=ah
  generalize aE M1 p1 (.lst ((bd.drop 1).map Pl.d))=M2 at SO T8 hA ⊢
  walk_at "rd"
  refine ⟨_,.of SO,fun p2 hp2=>?_⟩
  rw [VN]
  have hB2:=ao (u:=MO.lst ((bd.take 1).map Pl.d)) SO hp2
  have T9:=ao (u:=MO.lst ((bd.take 1).map Pl.d)) hA hp2
  have Ke:=T8.trans (Le.new (o:= .lst ((bd.take 1).map Pl.d)) hp2)
  have hC:aE M2 p2 (.lst ((bd.take 1).map Pl.d)) p2=some (.lst ((bd.take 1).map Pl.d)):=ah
  generalize aE M2 p2 (.lst ((bd.take 1).map Pl.d))=M3 at hB2 T9 Ke hC ⊢
  refine ⟨p1,p2,_,_,rfl,rfl,T9,hC,?_,fun p3 hp3=>?_⟩
  ·rw [Y4,Y4,aah,ZO]
   have:(1000:Nat) < sizeLine:=by decide
   omega
  rw [← Zn]
  have Ua:=ao (u:=MO.lst ((bd.drop 1 ++ bd.take 1).map Pl.d)) hB2 hp3
  have ND:=Ke.trans (Le.new (o:= .lst ((bd.drop 1 ++ bd.take 1).map Pl.d)) hp3)
  have hE:aE M3 p3 (.lst ((bd.drop 1 ++ bd.take 1).map Pl.d)) p3=some (.lst ((bd.drop 1 ++ bd.take 1).map Pl.d)):=ah
  generalize aE M3 p3 (.lst ((bd.drop 1 ++ bd.take 1).map Pl.d))=M4 at Ua ND hE ⊢
  refine ⟨p,p3,_,_,rfl,Ua,hE,fun p4 QE=>?_⟩
  have q:=h' p4 (ND.free QE)
  unfold bx at q
  rw [if_neg (by omega)] at q
  have ez:=yF bd (bd.drop 1 ++ bd.take 1)
  rw [show ((List.zipWith (fun p q=>[p,q]) bd (bd.drop 1 ++ bd.take 1)).map tD)=_ from ez] at q
  exact aU.mk ⟨_,ND.put,q⟩
theorem Kf (T:Txt K mg t):Binds K t.zV ["way"] []:=T.C6.binds fun _ _ _ _ _ _ us hl=>match us,hl with | [_],_=>rfl
def Nd:uq:=fun ds Q=> ∃ a b:Pl,ds= [tD [a,b]]∧Q (tD [b,a])
theorem Kg (T:Txt K mg t):bS P w K mg base eZ 1 t.CZ t.zV ["way"] (tT K Nd):=by
 refine ym T.C6 Kc (fun ds Q h=>by (first | (obtain ⟨_,rfl,_⟩:=h;rfl) | (obtain ⟨_,_,rfl,_⟩:=h;rfl) | (obtain ⟨_,_,_,rfl,_⟩:=h;rfl) | (obtain ⟨_,_,_,_,rfl,_⟩:=h;rfl) | (obtain ⟨_,_,_,_,_,rfl,_⟩:=h;rfl) | (obtain ⟨_,_,_,_,_,_,rfl,_⟩:=h;rfl) | (obtain ⟨_,_,_,_,_,_,_,rfl,_⟩:=h;rfl))) (fun cdv A outer s H hr=>?_)
 have hu:=hr.units
 refine ⟨_,(aA (aD (cL (af (aO (aa 0) ai) (af (aO (aa 0) ai) aj))))),fun ds Q h=>?_⟩
 obtain ⟨a,b,rfl,h⟩:=h
 walk_at "rd"
 exact h
theorem xT (T:Txt K mg t):Binds K t.j7 ["places","triples"] []:=T.mQ.binds fun _ _ _ _ _ _ us hl=>match us,hl with | [_,_],_=>rfl
def Ax:pK:=fun ds M Q=> ∃ l c:Addr,ds= [.ref l,.ref c]∧∃ (ps:List Pl) (ts:List (List Pl)),M l=some (.lst (ps.map Pl.d))∧M c=some (.lst (ts.map tD))∧(∀ t∈ts,Tr t)∧ts.length≤200∧ps.length < 64∧(∀ q∈ps,q.Ok 140)∧∀ (qs:List Pl) (r:Option (List Pl)),qs.Perm ps→qs.Pairwise (fun p q=> ¬ aL q p)→E8 (Hv (bR ts) (bx (b8 qs))) r→Q (oT r) M
theorem sC (bd:List Pl):∀ w∈bx bd,∃ a b,w= [a,b]:=by
 intro w hw
 unfold bx at hw
 split at hw
 ·cases hw
 ·exact pO _ _ w hw
theorem Ik (qs:List Pl):(b8 qs).length≤2*qs.length:=by
 have l1:=eS qs
 have l2:=eS qs.reverse
 rw [Zu] at l2
 unfold b8
 split
 ·omega
 ·rw [Zh,ZT,ZT,Zu,Zu]
  omega
theorem FA (bd:List Pl):(bx bd).length≤bd.length:=by
 unfold bx
 split
 ·simp
 ·rw [aaS]
  omega
theorem xU (T:Txt K mg t):bS P w K mg base eZ 6 t.mj t.j7 ["places","triples"] (pU K Ax):=by
 refine rM T.mQ fj (fun ds M Q h=>by (first | (obtain ⟨_,rfl,_⟩:=h;rfl) | (obtain ⟨_,_,rfl,_⟩:=h;rfl) | (obtain ⟨_,_,_,rfl,_⟩:=h;rfl) | (obtain ⟨_,_,_,_,rfl,_⟩:=h;rfl) | (obtain ⟨_,_,_,_,_,rfl,_⟩:=h;rfl) | (obtain ⟨_,_,_,_,_,_,rfl,_⟩:=h;rfl) | (obtain ⟨_,_,_,_,_,_,_,rfl,_⟩:=h;rfl))) (fun cdv A outer s H hr=>?_)
 have hu:=hr.units
 refine ⟨_,(aq (aS (i:=2) fj.nd rfl (Or.inr rfl) (bD (jA T) (hr.mono (by decide)) (by rfl) T.kO T.eV.kp (jz T) (af (aa 1) aj)))
  (aq (aS (i:=3) fj.nd rfl (Or.inr rfl) (bD (kT T) (hr.mono (by decide)) (by rfl) T.m6 T.fB.kp (kR T) (af (aa 0) aj)))
  (aq (GU (j:=4) (kK (ys:=["ways","border"]) (fs:=[2,3]) rfl (by show cU (ay fM) ["places","triples","ways","border","ragged","missing"] _ _ _ _=true;decide +kernel) (aa 2) (fun cl C s0 H0 ex=>tF (qK.pt (sY (aJ (iI hu) (aF (Kg T) (hr.mono (by decide)) (by rfl) T.MX T.C6.kp (Kf T) (af (aa 0) aj)) (aa 1) (by with_unfolding_all rfl)) (nN (aJ (iI hu) (aa 0) (aa 2) (by with_unfolding_all rfl)))))) (fun cl C s0 H0 ex=>(aa 0))) fj.nd rfl (Or.inl rfl))
  (aq (GU (j:=5) (kK (ys:=["ways"]) (fs:=[2]) rfl (by show cU (ay fM) ["places","triples","ways","border","ragged","missing"] _ _ _ _=true;decide +kernel) (aa 3) (fun cl C s0 H0 ex=>tF (aJ (iI hu) (aa 0) (aa 1) (by with_unfolding_all rfl))) (fun cl C s0 H0 ex=>(aa 0))) fj.nd rfl (Or.inl rfl))
  (aA (aD (CA (DY (n:=2) hu rfl) (by rfl) T.oW (au yx (aa 4) (aa 5))))))))),fun ds M Q h=>?_⟩
 obtain ⟨l,c,rfl,ps,ts,hM,hC,hts,Ij,h64,ho,h⟩:=h
 have sl:(1000:Nat) < sizeLine:=by decide
 have ld:=qZ ts
 walk_at "rd"
 refine ⟨ts,hC,hts,Ij,fun p hp=>?_⟩
 have le:=Le.new (o:=MO.lst ((bR ts).map tD)) hp
 have hM:=ao (u:=MO.lst ((bR ts).map tD)) hM hp
 have hP:aE M p (.lst ((bR ts).map tD)) p=some (.lst ((bR ts).map tD)):=ah
 generalize aE M p (.lst ((bR ts).map tD))=M1 at hP hM le ⊢
 have two:=kM (ts:=ts)
 walk_at "rd"
 refine ⟨l,ps,rfl,hM,h64,ho,fun b qs hb bG iE=>?_⟩
 have h:=fun r=>h qs r bG iE
 have lb:(bx (b8 qs)).length≤200:=by
  have:=FA (b8 qs)
  have:=Ik qs
  have:=bG.length_eq
  omega
 have Qd:=sC (b8 qs)
 generalize bx (b8 qs)=bs at lb Qd h ⊢
 generalize bR ts=ws at hP ld two h ⊢
 have le:=le.trans (Le.new (o:=MO.lst (bs.map tD)) hb)
 have hP:=ao (u:=MO.lst (bs.map tD)) hP hb
 have hB:aE M1 b (.lst (bs.map tD)) b=some (.lst (bs.map tD)):=ah
 generalize aE M1 b (.lst (bs.map tD))=M2 at hP hB le ⊢
 walk_at "rd"
 refine ⟨p,_,rfl,hP,by rw [Y4];omega,aU.mk (c9 (fun i acc M4=>M4=M2∧acc=((ws.take i).filter (fun w=>decide (w.reverse∉ws∧w∉bs))).map tD) _ ?_ ?_ ⟨rfl,rfl⟩)⟩
 ·rintro i d acc M4 N hx ⟨rfl,rfl⟩ hN
  obtain ⟨w,hw,rfl⟩:=fW hx
  obtain ⟨a,b',e,_⟩:=two w (Y9 hw)
  subst e
  have yes:([a,b'].reverse∉ws∧[a,b']∉bs)→N (((ws.take i).filter (fun w=>decide (w.reverse∉ws∧w∉bs))).map tD ++ [tD [a,b']]) M4:=fun k=>hN _ _ ⟨rfl,by rw [cG hw,if_pos (decide_eq_true k),Zn];rfl⟩
  have no:¬ ([a,b'].reverse∉ws∧[a,b']∉bs)→N (((ws.take i).filter (fun w=>decide (w.reverse∉ws∧w∉bs))).map tD) M4:=fun k=>hN _ _ ⟨rfl,by rw [cG hw,if_neg (fun z=>k (of_decide_eq_true z)),Z2]⟩
  refine ⟨hP,?_⟩
  refine ⟨_,rfl,?_⟩
  refine ⟨a,b',rfl,?_⟩
  walk_at "rd"
  refine ⟨_,.inr ⟨p,rfl,hP⟩,rfl,cD ws,?_⟩
  walk_at "rd"
  rw [if_pos rfl,q8]
  refine br (fun k=>?_) (fun k=>?_)
  ·have k: [b',a]∉ws:=fun z=>by rw [decide_eq_true z] at k;cases k
   walk_at "rd"
   refine ⟨_,.inr ⟨b,rfl,hB⟩,rfl,cD bs,?_⟩
   walk_at "rd"
   rw [if_pos rfl,q8]
   refine br (fun k2=>?_) (fun k2=>?_)
   ·have k2: [a,b']∉bs:=fun z=>by rw [decide_eq_true z] at k2;cases k2
    walk_at "rd"
    exact yes ⟨k,k2⟩
   ·have k2: [a,b']∈bs:=Y3 fun z=>k2 (by rw [decide_eq_false z];rfl)
    exact no fun z=>z.2 k2
  ·have k: [b',a]∈ws:=Y3 fun z=>k (by rw [decide_eq_false z];rfl)
   exact no fun z=>z.1 k
 rintro acc M4 ⟨rfl,rfl⟩
 refine ⟨hP,fun q hq=>?_⟩
 rw [Y4,ZE]
 have lf:=aaI (fun w=>decide (w.reverse∉ws∧w∉bs)) ws
 have mf:∀ w,w∈ws.filter (fun w=>decide (w.reverse∉ws∧w∉bs))↔(w∈ws∧w.reverse∉ws∧w∉bs):=fun w=>by rw [Zf];simp
 generalize ws.filter (fun w=>decide (w.reverse∉ws∧w∉bs))=rg at lf mf ⊢
 have le:=le.trans (Le.new (o:=MO.lst (rg.map tD)) hq)
 have hP:=ao (u:=MO.lst (rg.map tD)) hP hq
 have hB:=ao (u:=MO.lst (rg.map tD)) hB hq
 have hQ:aE M4 q (.lst (rg.map tD)) q=some (.lst (rg.map tD)):=ah
 generalize aE M4 q (.lst (rg.map tD))=M5 at hP hB hQ le ⊢
 walk_at "rd"
 refine ⟨b,_,rfl,hB,by rw [Y4];omega,aU.mk (c9 (fun i acc M6=>M6=M5∧acc=((bs.take i).filter (fun w=>decide (w∉ws))).map tD) _ ?_ ?_ ⟨rfl,rfl⟩)⟩
 ·rintro i d acc M6 N hx ⟨rfl,rfl⟩ hN
  obtain ⟨w,hw,rfl⟩:=fW hx
  refine ⟨hB,?_⟩
  walk_at "rd"
  refine ⟨_,.inr ⟨p,rfl,hP⟩,sj w,cD ws,?_⟩
  walk_at "rd"
  rw [if_pos rfl,q8]
  refine br (fun k=>?_) (fun k=>?_)
  ·have k:w∉ws:=fun z=>by rw [decide_eq_true z] at k;cases k
   walk_at "rd"
   refine hN _ _ ⟨rfl,?_⟩
   rw [cG hw,if_pos (decide_eq_true k),Zn]
   rfl
  ·have k:w∈ws:=Y3 fun z=>k (by rw [decide_eq_false z];rfl)
   refine hN _ _ ⟨rfl,?_⟩
   rw [cG hw,if_neg (fun z=>absurd k (of_decide_eq_true z)),Z2]
 rintro acc M6 ⟨rfl,rfl⟩
 refine ⟨hB,fun u kE=>?_⟩
 rw [Y4,ZE]
 have lg:=aaI (fun w=>decide (w∉ws)) bs
 have mg':∀ w,w∈bs.filter (fun w=>decide (w∉ws))↔(w∈bs∧w∉ws):=fun w=>by rw [Zf];simp
 generalize bs.filter (fun w=>decide (w∉ws))=ms at lg mg' ⊢
 have le:=le.trans (Le.new (o:=MO.lst (ms.map tD)) kE)
 have hQ:=ao (u:=MO.lst (ms.map tD)) hQ kE
 have hU:aE M6 u (.lst (ms.map tD)) u=some (.lst (ms.map tD)):=ah
 generalize aE M6 u (.lst (ms.map tD))=M7 at hQ hU le ⊢
 walk_at "rd"
 refine ⟨q,u,_,_,rfl,rfl,hQ,hU,by rw [Y4,Y4];omega,fun v hv=>?_⟩
 rw [← Zn]
 obtain ⟨m0,m1⟩:=DZ (ws:=rg ++ ms) (W:=Hv ws bs) (fun w=>by unfold Hv;rw [Zq,mf,mg'])
 have le:=le.trans (Le.new (o:=MO.lst ((rg ++ ms).map tD)) hv)
 refine ⟨v,_,rfl,ah,fun t ht=>?_,fun e0=>aU.mk ⟨M,le,h none (m0 e0)⟩,fun m mm lm=>aU.mk ⟨M,le,h (some m) (m1 m mm lm)⟩⟩
 rcases Zq.mp ht with ht | ht
 ·obtain ⟨a,b',e,_⟩:=two t ((mf t).mp ht).1
  rw [e]
  rfl
 ·obtain ⟨a,b',e⟩:=Qd t ((mg' t).mp ht).1
  rw [e]
  rfl
theorem t6 (T:Txt K mg t):Binds K t.iw ["places","triples"] []:=T.jl.binds fun _ _ _ _ _ _ us hl=>match us,hl with | [_,_],_=>rfl
def wm:pK:=fun ds M Q=> ∃ l c:Addr,ds= [.ref l,.ref c]∧∃ (ps:List Pl) (ts:List (List Pl)),M l=some (.lst (ps.map Pl.d))∧M c=some (.lst (ts.map tD))∧(∀ t∈ts,Tr t)∧ts.length≤200∧ps.length < 64∧∀ r:Option Pl,wZ (PD ps ts) r→Q (oP r) M
theorem t7 (T:Txt K mg t):bS P w K mg base eZ 1 t.jf t.iw ["places","triples"] (pU K wm):=by
 refine rM T.jl iB (fun ds M Q h=>by (first | (obtain ⟨_,rfl,_⟩:=h;rfl) | (obtain ⟨_,_,rfl,_⟩:=h;rfl) | (obtain ⟨_,_,_,rfl,_⟩:=h;rfl) | (obtain ⟨_,_,_,_,rfl,_⟩:=h;rfl) | (obtain ⟨_,_,_,_,_,rfl,_⟩:=h;rfl) | (obtain ⟨_,_,_,_,_,_,rfl,_⟩:=h;rfl) | (obtain ⟨_,_,_,_,_,_,_,rfl,_⟩:=h;rfl))) (fun cdv A outer s H hr=>?_)
 have hu:=hr.units
 refine ⟨_,(aq (aS (i:=2) iB.nd rfl (Or.inr rfl) (cR aj))
  (aq (iU PassesOwn.never rfl (aa 1) (bW (i:=3) iB.nd rfl (Or.inl rfl)) (aA (nV (Mv (aa 2) (aa 3) (sW PySem.F.plainAttrs_list PySem.F.slot_list_extend PySem.F.type_list_extend JK (cK.dn (aa 2)) (iG (cK.dn (aa 3)) lD))))))
  (aA (aD (CA (JO hu rfl) (by rfl) T.oW (Be (kK (ys:=["corners"]) (fs:=[2]) rfl (by show cU (ay fO) ["places","triples","corners","t"] _ _ _ _=true;decide +kernel) (aa 0) (fun cl C s0 H0 ex=>tF (aJ (iI hu) (aa 0) (aa 1) (by with_unfolding_all rfl))) (fun cl C s0 H0 ex=>(aa 0))))))))),fun ds M Q h=>?_⟩
 obtain ⟨l,c,rfl,ps,ts,hM,hC,hts,Ij,h64,h⟩:=h
 have sl:(1000:Nat) < sizeLine:=by decide
 have h3:∀ t∈ts,t.length=3:=fun t ht=>by obtain ⟨a,b,d,rfl,_⟩:=hts t ht;rfl
 walk_at "rd"
 intro p hp
 have SM:l≠p:=fun z=>by rw [← z,hM] at hp;cases hp
 have VO:c≠p:=fun z=>by rw [← z,hC] at hp;cases hp
 walk_at "rd"
 refine ⟨c,_,rfl,ao hC hp,?_⟩
 refine aP (fun i ρ M'=>(∃ y:Option L3.D,ρ= [some (.ref l),some (.ref c),some (.ref p),y])∧M' l=some (.lst (ps.map Pl.d))∧M' c=some (.lst (ts.map tD))∧M' p=some (.lst ((ts.take i).flatten.map Pl.d))∧Le M M') _ ?_ ?_ ⟨⟨_,rfl⟩,ao hM hp,ao hC hp,ah,Le.new hp⟩
 ·rintro i x ρ M' N hx ⟨⟨y,rfl⟩,hM,hC,hP,le⟩ hN
  obtain ⟨t,ht,rfl⟩:=fW hx
  refine ⟨hC,?_⟩
  walk_at "rd"
  refine ⟨⟨p,_,rfl,hP⟩,?_⟩
  refine ⟨_,rfl,?_⟩
  refine ⟨p,_,t.map Pl.d,rfl,rfl,hP,by rw [Y4,Y4,h3 t (Y9 ht)];have:=Hw h3 i;omega,?_⟩
  rw [← Zn,← Fc ht]
  refine hN _ _ ⟨⟨_,rfl⟩,by rw [bg SM];exact hM,by rw [bg VO];exact hC,ah,fun x o e=>?_⟩
  rw [bg (fun z=>by rw [z,hp] at e;cases e)]
  exact le _ _ e
 ·rintro ρ M' ⟨⟨y,rfl⟩,hM,hC,hP,le⟩
  refine ⟨hC,?_⟩
  rw [Y4,ZE] at hP
  walk_at "rd"
  refine ⟨l,_,rfl,hM,by rw [Y4];omega,aU.mk (c9 (fun i acc M4=>M4=M'∧acc=((ps.take i).filter (fun q=>decide (q∉ts.flatten))).map Pl.d) _ ?_ ?_ ⟨rfl,rfl⟩)⟩
  ·rintro i d acc M4 N hx ⟨rfl,rfl⟩ hN
   obtain ⟨q,hq,rfl⟩:=lQ hx
   refine ⟨hM,?_⟩
   walk_at "rd"
   refine ⟨_,.inr ⟨p,rfl,hP⟩,rfl,c8 _,?_⟩
   walk_at "rd"
   rw [if_pos rfl,qU]
   refine br (fun k=>?_) (fun k=>?_)
   ·have k:q∉ts.flatten:=fun z=>by rw [decide_eq_true z] at k;cases k
    walk_at "rd"
    refine hN _ _ ⟨rfl,?_⟩
    rw [iJ hq,if_pos (decide_eq_true k),Zn]
    rfl
   ·have k:q∈ts.flatten:=Y3 fun z=>k (by rw [decide_eq_false z];rfl)
    refine hN _ _ ⟨rfl,?_⟩
    rw [iJ hq,if_neg (fun z=>absurd k (of_decide_eq_true z)),Z2]
  ·rintro acc M4 ⟨rfl,rfl⟩
   refine ⟨hM,fun u kE=>?_⟩
   rw [Y4,ZE]
   obtain ⟨m0,m1⟩:=JP (ws:=ps.filter (fun q=>decide (q∉ts.flatten))) (W:=PD ps ts) (fun w=>by
    unfold PD
    rw [Zf,decide_eq_true_iff,List.mem_flatten]
    exact ⟨fun z=>⟨z.1,fun t ht hw=>z.2 ⟨t,ht,hw⟩⟩,fun z=>⟨z.1,fun ⟨t,ht,hw⟩=>z.2 t ht hw⟩⟩)
   exact ⟨u,_,rfl,ah,fun e0=>aU.mk ⟨M,le.trans (Le.new kE),h none (m0 e0)⟩,fun m mm lm=>aU.mk ⟨M,le.trans (Le.new kE),h (some m) (m1 m mm lm)⟩⟩
theorem wo (T:Txt K mg t):Binds K t.jg ["places","triples"] []:=T.kB.binds fun _ _ _ _ _ _ us hl=>match us,hl with | [_,_],_=>rfl
def xV:pK:=fun ds M Q=> ∃ l c:Addr,ds= [.ref l,.ref c]∧∃ (ps:List Pl) (ts:List (List Pl)),M l=some (.lst (ps.map Pl.d))∧M c=some (.lst (ts.map tD))∧(∀ t∈ts,Tr t)∧ts.length≤200∧ps.length < 64∧(∀ q∈ps,q.Ok 140)∧∀ (qs:List Pl) (r:Option Flt),qs.Perm ps→qs.Pairwise (fun p q=> ¬ aL q p)→MA ps ts (bx (b8 qs)) r→Q (fD r) M
theorem yW (ps:List Pl):∃ qs:List Pl,qs.Perm ps∧qs.Pairwise (fun p q=> ¬ aL q p):=by
 have tot:∀ a b:Pl,(!decide (aL b a) || !decide (aL a b))=true:=fun a b=>by
  by_cases h:aL b a
  ·simp [h,aG h]
  ·simp [h]
 have VP:∀ a b c:Pl,(!decide (aL b a))=true→(!decide (aL c b))=true→(!decide (aL c a))=true:=fun a b c h1 h2=>by
  simp only [aa1,decide_eq_false_iff_not] at *
  intro h3
  rcases bV b c with k | k | k
  ·exact h1 (aZ k h3)
  ·subst k;exact h1 h3
  ·exact h2 k
 refine ⟨ps.mergeSort (fun a b=>!decide (aL b a)),List.mergeSort_perm _ _,?_⟩
 refine (List.pairwise_mergeSort VP tot ps).imp fun h=>?_
 simpa using h
theorem wu (T:Txt K mg t):bS P w K mg base eZ 7 t.j8 t.jg ["places","triples"] (pU K xV):=by
 refine rM T.kB gg (fun ds M Q h=>by (first | (obtain ⟨_,rfl,_⟩:=h;rfl) | (obtain ⟨_,_,rfl,_⟩:=h;rfl) | (obtain ⟨_,_,_,rfl,_⟩:=h;rfl) | (obtain ⟨_,_,_,_,rfl,_⟩:=h;rfl) | (obtain ⟨_,_,_,_,_,rfl,_⟩:=h;rfl) | (obtain ⟨_,_,_,_,_,_,rfl,_⟩:=h;rfl) | (obtain ⟨_,_,_,_,_,_,_,rfl,_⟩:=h;rfl))) (fun cdv A outer s H hr=>?_)
 have hu:=hr.units
 refine ⟨_,(aq (aS (i:=2) gg.nd rfl (Or.inl rfl) (bD (tY T) (hr.mono (by decide)) (by rfl) T.vO T.jk.kp (tX T) (af (aa 1) aj)))
  (aq (bI (aJ qm (aa 2) cZ (aC _)) (aA (aD (cL (af uG (af (aa 2) aj))))) aT)
  (aq (aS (i:=3) gg.nd rfl (Or.inl rfl) (bD (xU T) (hr.mono (by decide)) (by rfl) T.Ag T.mQ.kp (xT T) (af (aa 0) (af (aa 1) aj))))
  (aq (bI (aJ qm (aa 3) cZ (aC _)) (aA (aD (cL (af uG (af (aa 3) aj))))) aT)
  (aq (aS (i:=4) gg.nd rfl (Or.inl rfl) (bD (t7 T) (hr.mono (by decide)) (by rfl) T.vP T.jl.kp (t6 T) (af (aa 0) (af (aa 1) aj))))
  (aq (bI (aJ qm (aa 4) cZ (aC _)) (aA (aD (cL (af uG (af (aa 4) aj))))) aT)
  (aA (aD cZ)))))))),fun ds M Q h=>?_⟩
 obtain ⟨l,c,rfl,ps,ts,hM,hC,hts,Ij,h64,ho,h⟩:=h
 walk_at "rd"
 refine ⟨ts,hC,hts,Ij,fun d hd=>?_⟩
 cases d with
 | some w=>
   obtain ⟨qs,q1,q2⟩:=yW ps
   walk_at "rd"
   exact aU.mk ⟨M,Le.refl _,h qs _ q1 q2 ⟨some w,none,none,hd,(fun z=>by cases z),(fun z=>by cases z),rfl⟩⟩
 | none=>
   walk_at "rd"
   refine ⟨ps,ts,hM,hC,hts,Ij,h64,ho,fun qs b q1 q2 hb=>?_⟩
   cases b with
   | some w=>
     walk_at "rd"
     exact aU.mk ⟨M,Le.refl _,h qs _ q1 q2 ⟨none,some w,none,hd,fun _=>hb,(fun _ z=>by cases z),rfl⟩⟩
   | none=>
     walk_at "rd"
     refine ⟨ps,ts,hM,hC,hts,Ij,h64,fun p hp=>?_⟩
     cases p with
     | some p=>
       walk_at "rd"
       exact aU.mk ⟨M,Le.refl _,h qs _ q1 q2 ⟨none,none,some p,hd,fun _=>hb,fun _ _=>hp,rfl⟩⟩
     | none=>
       walk_at "rd"
       exact aU.mk ⟨M,Le.refl _,h qs _ q1 q2 ⟨none,none,none,hd,fun _=>hb,fun _ _=>hp,rfl⟩⟩
theorem Ay (T:Txt K mg t):Binds K t.mw ["a","b","c"] []:=T.oU.binds fun _ _ _ _ _ _ us hl=>match us,hl with | [_,_,_],_=>rfl
def BQ:uq:=fun ds Q=> ∃ a b c:Pl,ds= [a.d,b.d,c.d]∧a.Ok 140∧b.Ok 140∧c.Ok 140∧tw a b c≠0∧Q (.int (tw a b c))
theorem Az (T:Txt K mg t):bS P w K mg base eZ 2 t.oM t.mw ["a","b","c"] (tT K BQ):=by
 refine ym T.oU rF (fun ds Q h=>by (first | (obtain ⟨_,rfl,_⟩:=h;rfl) | (obtain ⟨_,_,rfl,_⟩:=h;rfl) | (obtain ⟨_,_,_,rfl,_⟩:=h;rfl) | (obtain ⟨_,_,_,_,rfl,_⟩:=h;rfl) | (obtain ⟨_,_,_,_,_,rfl,_⟩:=h;rfl) | (obtain ⟨_,_,_,_,_,_,rfl,_⟩:=h;rfl) | (obtain ⟨_,_,_,_,_,_,_,rfl,_⟩:=h;rfl))) (fun cdv A outer s H hr=>?_)
 have hu:=hr.units
 refine ⟨_,(aq (aS (i:=3) rF.nd rfl (Or.inl rfl) (aF (pB T) (hr.mono (by decide)) (by rfl) T.rB T.mL.kp (pA T) (af (aa 0) (af (aa 1) (af (aa 2) aj)))))
  (aq (bI (aJ (e9 hu) (aa 3) ai (aC _)) (aA Jg) aT)
  (aA (aD (aa 3))))),fun ds Q h=>?_⟩
 obtain ⟨a,b,c,rfl,ha,hb,hc,hn,h⟩:=h
 walk_at "rd"
 refine ⟨ha,hb,hc,?_⟩
 walk_at "rd"
 refine br (fun k=>?_) (fun _=>?_)
 ·exfalso
  rw [c6] at k
  exact hn (eq_of_beq k)
 walk_at "rd"
 exact h
theorem wz (T:Txt K mg t):Binds K t.vJ ["p","q"] []:=T.rD.binds fun _ _ _ _ _ _ us hl=>match us,hl with | [_,_],_=>rfl
def Kh:uq:=fun ds Q=> ∃ p q:Pl,ds= [p.d,q.d]∧p.Ok 140∧q.Ok 140∧Q (.int (lM p q))
theorem wA (T:Txt K mg t):bS P w K mg base eZ 1 t.zW t.vJ ["p","q"] (tT K Kh):=by
 refine ym T.rD vV (fun ds Q h=>by (first | (obtain ⟨_,rfl,_⟩:=h;rfl) | (obtain ⟨_,_,rfl,_⟩:=h;rfl) | (obtain ⟨_,_,_,rfl,_⟩:=h;rfl) | (obtain ⟨_,_,_,_,rfl,_⟩:=h;rfl) | (obtain ⟨_,_,_,_,_,rfl,_⟩:=h;rfl) | (obtain ⟨_,_,_,_,_,_,rfl,_⟩:=h;rfl) | (obtain ⟨_,_,_,_,_,_,_,rfl,_⟩:=h;rfl))) (fun cdv A outer s H hr=>?_)
 have hu:=hr.units
 refine ⟨_,(aq (aS (i:=2) vV.nd rfl (Or.inl rfl) (au cO (aO (aa 1) ai) (aO (aa 0) ai)))
  (aq (aS (i:=3) vV.nd rfl (Or.inl rfl) (au cO (aO (aa 1) ai) (aO (aa 0) ai)))
  (aA (aD (au dQ (au dR (aa 2) (aa 2)) (au dR (aa 3) (aa 3))))))),fun ds Q h=>?_⟩
 obtain ⟨p,q,rfl,⟨p1,p2⟩,⟨q1,q2⟩,h⟩:=h
 unfold lM at h
 walk_at "rd"
 exact h
theorem Km (T:Txt K mg t):Binds K t.zX ["a","b","c","d"] []:=T.C7.binds fun _ _ _ _ _ _ us hl=>match us,hl with | [_,_,_,_],_=>rfl
def Nf:uq:=fun ds Q=> ∃ a b c d:Pl,ds= [a.d,b.d,c.d,d.d]∧a.Ok 140∧b.Ok 140∧c.Ok 140∧d.Ok 140∧tw a b c≠0∧Q (.int (rg a b c d))
theorem Kn (T:Txt K mg t):bS P w K mg base eZ 3 t.C0 t.zX ["a","b","c","d"] (tT K Nf):=by
 refine ym T.C7 Al (fun ds Q h=>by (first | (obtain ⟨_,rfl,_⟩:=h;rfl) | (obtain ⟨_,_,rfl,_⟩:=h;rfl) | (obtain ⟨_,_,_,rfl,_⟩:=h;rfl) | (obtain ⟨_,_,_,_,rfl,_⟩:=h;rfl) | (obtain ⟨_,_,_,_,_,rfl,_⟩:=h;rfl) | (obtain ⟨_,_,_,_,_,_,rfl,_⟩:=h;rfl) | (obtain ⟨_,_,_,_,_,_,_,rfl,_⟩:=h;rfl))) (fun cdv A outer s H hr=>?_)
 have hu:=hr.units
 refine ⟨_,(aq (aS (i:=4) Al.nd rfl (Or.inl rfl) (aF (Az T) (hr.mono (by decide)) (by rfl) T.BJ T.oU.kp (Ay T) (af (aa 0) (af (aa 1) (af (aa 2) aj)))))
  (aq (aS (i:=5) Al.nd rfl (Or.inl rfl) (au dQ (au dQ (au dR (aF (wA T) (hr.mono (by decide)) (by rfl) T.Ah T.rD.kp (wz T) (af (aa 3) (af (aa 0) aj))) (aF (pB T) (hr.mono (by decide)) (by rfl) T.rB T.mL.kp (pA T) (af (aa 3) (af (aa 1) (af (aa 2) aj))))) (au dR (aF (wA T) (hr.mono (by decide)) (by rfl) T.Ah T.rD.kp (wz T) (af (aa 3) (af (aa 1) aj))) (aF (pB T) (hr.mono (by decide)) (by rfl) T.rB T.mL.kp (pA T) (af (aa 3) (af (aa 2) (af (aa 0) aj)))))) (au dR (aF (wA T) (hr.mono (by decide)) (by rfl) T.Ah T.rD.kp (wz T) (af (aa 3) (af (aa 2) aj))) (aF (pB T) (hr.mono (by decide)) (by rfl) T.rB T.mL.kp (pA T) (af (aa 3) (af (aa 0) (af (aa 1) aj)))))))
  (aA (aD (au dR (aF (Av T) (hr.mono (by decide)) (by rfl) T.C5 T.vN.kp (Au T) (af (aa 4) aj)) (aF (Av T) (hr.mono (by decide)) (by rfl) T.C5 T.vN.kp (Au T) (af (aa 5) aj))))))),fun ds Q h=>?_⟩
 obtain ⟨a,b,c,d,rfl,ha,hb,hc,hd,hn,h⟩:=h
 have s1:=Ck hd ha
 have s2:=Ck hd hb
 have s3:=Ck hd hc
 have t1:=n8 hd hb hc
 have t2:=n8 hd hc ha
 have t3:=n8 hd ha hb
 walk_at "rd"
 refine ⟨ha,hb,hc,hn,?_⟩
 walk_at "rd"
 refine ⟨hd,ha,?_⟩
 walk_at "rd"
 refine ⟨hd,hb,hc,?_⟩
 walk_at "rd"
 refine ⟨hd,hb,?_⟩
 walk_at "rd"
 refine ⟨hd,hc,ha,?_⟩
 walk_at "rd"
 refine ⟨hd,hc,?_⟩
 walk_at "rd"
 refine ⟨hd,ha,hb,?_⟩
 walk_at "rd"
 unfold rg dep at h
 exact h
theorem FD (T:Txt K mg t):Binds K t.sO ["a","b","c","d"] []:=T.vQ.binds fun _ _ _ _ _ _ us hl=>match us,hl with | [_,_,_,_],_=>rfl
def Il:uq:=fun ds Q=> ∃ a b c d:Pl,ds= [a.d,b.d,c.d,d.d]∧a.Ok 140∧b.Ok 140∧c.Ok 140∧d.Ok 140∧tw a b c≠0∧Q (.bl (decide (kX a b c d)))
theorem FE (T:Txt K mg t):bS P w K mg base eZ 4 t.vK t.sO ["a","b","c","d"] (tT K Il):=by
 refine ym T.vQ sR (fun ds Q h=>by (first | (obtain ⟨_,rfl,_⟩:=h;rfl) | (obtain ⟨_,_,rfl,_⟩:=h;rfl) | (obtain ⟨_,_,_,rfl,_⟩:=h;rfl) | (obtain ⟨_,_,_,_,rfl,_⟩:=h;rfl) | (obtain ⟨_,_,_,_,_,rfl,_⟩:=h;rfl) | (obtain ⟨_,_,_,_,_,_,rfl,_⟩:=h;rfl) | (obtain ⟨_,_,_,_,_,_,_,rfl,_⟩:=h;rfl))) (fun cdv A outer s H hr=>?_)
 have hu:=hr.units
 refine ⟨_,(aq (aS (i:=4) sR.nd rfl (Or.inl rfl) (aF (Kn T) (hr.mono (by decide)) (by rfl) T.MY T.C7.kp (Km T) (af (aa 0) (af (aa 1) (af (aa 2) (af (aa 3) aj))))))
  (aq (bI (aJ (nT hu) (aa 4) ai (aC _)) (aA (aD (fG (e9 hu) (aa 4) ai (aC _)))) aT)
  (aq (bI (aJ (OC hu) (aa 3) (cL (af (aa 0) (af (aa 1) (af (aa 2) aj)))) (by with_unfolding_all rfl)) (aA (aD iT)) aT)
  (aq (aS (i:=5) sR.nd rfl (Or.inl rfl) (aR nZ (by rfl) T.eW cF (af (cR (af (aa 0) (af (aa 1) (af (aa 2) aj)))) aj)))
  (aq (bI (aJ (mZ hu) (aa 3) (aO (aa 5) ai) (aC _)) (aA (aD iT)) aT)
  (aA (aD (fG (nT hu) (aF (mX T) (hr.mono (by decide)) (by rfl) T.qF T.mO.kp (mW T) (af (aO (aa 5) ai) (af (aO (aa 5) ai) (af (aa 3) aj)))) (aF (mX T) (hr.mono (by decide)) (by rfl) T.qF T.mO.kp (mW T) (af (aO (aa 5) ai) (af (aO (aa 5) ai) (af (aO (aa 5) ai) aj)))) (aC _))))))))),fun ds Q h=>?_⟩
 obtain ⟨a,b,c,d,rfl,ha,hb,hc,hd,hn,h⟩:=h
 walk_at "rd"
 refine ⟨ha,hb,hc,hd,hn,?_⟩
 walk_at "rd"
 refine br (fun k=>?_) (fun k=>?_)
 ·have k:rg a b c d≠0:=fun z=>by rw [z] at k;exact absurd k (by decide)
  walk_at "rd"
  have e:decide (kX a b c d)=eg (.int (rg a b c d)) (.int 1):=by
   rw [c6,ZW]
   simp [kX,k]
  rw [e] at h
  exact h
 ·have k:rg a b c d=0:=by
   apply Y3
   intro z
   apply k
   rw [c6,beq_eq_false_iff_ne.mpr z]
   rfl
  walk_at "rd"
  rw [RQ]
  refine br (fun k2=>?_) (fun k2=>?_)
  ·have k2:=of_decide_eq_true k2
   walk_at "rd"
   have e:decide (kX a b c d)=false:=decide_eq_false (fun z=>by unfold kX at z;rw [k] at z;grind)
   rw [e] at h
   exact h
  ·have k2:¬ (d=a∨d=b∨d=c):=fun z=>k2 (decide_eq_true z)
   walk_at "rd"
   intro l hl
   refine ⟨l,[a,b,c],rfl,ah,by show 3 < 64;decide,fun p qs hp bG iE=>?_⟩
   obtain ⟨u,v,w,rfl⟩:=n9 bG.length_eq
   obtain ⟨hu,hv,hw⟩:=uT bG ha hb hc
   have key:=Cm hn k k2 bG iE
   rw [key] at h
   walk_at "rd"
   refine ⟨_,_,_,.inr (.inr ⟨p,rfl,ah⟩),rfl,rfl,?_⟩
   walk_at "rd"
   rw [dY]
   refine br (fun k3=>?_) (fun k3=>?_)
   ·rw [if_pos (of_decide_eq_true k3)] at h
    walk_at "rd"
    exact h
   ·rw [if_neg (fun z=>k3 (decide_eq_true z))] at h
    walk_at "rd"
    refine ⟨_,_,_,.inr (.inr ⟨p,rfl,ah⟩),rfl,rfl,?_⟩
    walk_at "rd"
    refine ⟨_,_,_,.inr (.inr ⟨p,rfl,ah⟩),rfl,rfl,?_⟩
    walk_at "rd"
    refine ⟨hv,hw,hd,?_⟩
    walk_at "rd"
    refine ⟨_,_,_,.inr (.inr ⟨p,rfl,ah⟩),rfl,rfl,?_⟩
    walk_at "rd"
    refine ⟨_,_,_,.inr (.inr ⟨p,rfl,ah⟩),rfl,rfl,?_⟩
    walk_at "rd"
    refine ⟨_,_,_,.inr (.inr ⟨p,rfl,ah⟩),rfl,rfl,?_⟩
    walk_at "rd"
    refine ⟨hv,hw,hu,?_⟩
    walk_at "rd"
    rw [ia]
    exact h
theorem t8 (T:Txt K mg t):Binds K t.iy ["places","triples"] []:=T.jm.binds fun _ _ _ _ _ _ us hl=>match us,hl with | [_,_],_=>rfl
def wB:pK:=fun ds M Q=> ∃ l c:Addr,ds= [.ref l,.ref c]∧∃ (ps:List Pl) (ts:List (List Pl)),M l=some (.lst (ps.map Pl.d))∧M c=some (.lst (ts.map tD))∧(∀ t∈ts,Tr t∧yI t)∧ps.length < 64∧(∀ q∈ps,q.Ok 140)∧∀ r:Option (List Pl ×Pl),Hx ts ps r→Q (oS r) M
theorem t9 (T:Txt K mg t):bS P w K mg base eZ 5 t.jh t.iy ["places","triples"] (pU K wB):=by
 refine rM T.jm iC (fun ds M Q h=>by (first | (obtain ⟨_,rfl,_⟩:=h;rfl) | (obtain ⟨_,_,rfl,_⟩:=h;rfl) | (obtain ⟨_,_,_,rfl,_⟩:=h;rfl) | (obtain ⟨_,_,_,_,rfl,_⟩:=h;rfl) | (obtain ⟨_,_,_,_,_,rfl,_⟩:=h;rfl) | (obtain ⟨_,_,_,_,_,_,rfl,_⟩:=h;rfl) | (obtain ⟨_,_,_,_,_,_,_,rfl,_⟩:=h;rfl))) (fun cdv A outer s H hr=>?_)
 have hu:=hr.units
 refine ⟨_,(aq (iU PassesOwn.never rfl (aa 1) (bW (i:=2) iC.nd rfl (Or.inr rfl)) (aq (GU (j:=3) (kK (ys:=["t"]) (fs:=[2]) rfl (by show cU (ay fR) ["places","triples","t","spoilers"] _ _ _ _=true;decide +kernel) (aa 0) (fun cl C s0 H0 ex=>tF (gj (aF (FE T) (hr.mono (by decide)) (by rfl) T.Ic T.vQ.kp (FD T) (af (aO (aa 1) ai) (af (aO (aa 1) ai) (af (aO (aa 1) ai) (af (aa 0) aj))))))) (fun cl C s0 H0 ex=>(aa 0))) iC.nd rfl (Or.inl rfl))
  (aA (bI (aJ (Cp hu) (aa 3) (cR aj) (aC _)) (aA (aD (cL (af uG (af (aa 2) (af (aR (Cy hu rfl) (by rfl) T.oW iP (af (aa 3) aj)) aj)))))) aT))))
  (aA (aD cZ))),fun ds M Q h=>?_⟩
 obtain ⟨l,c,rfl,ps,ts,hM,hC,hts,h64,ho,h⟩:=h
 have sl:(1000:Nat) < sizeLine:=by decide
 walk_at "rd"
 refine ⟨c,_,rfl,hC,?_⟩
 refine aP (fun i ρ M'=>Le M M'∧M' l=some (.lst (ps.map Pl.d))∧M' c=some (.lst (ts.map tD))∧(∃ y1 y2:Option L3.D,ρ= [some (.ref l),some (.ref c),y1,y2])∧∀ (j:Nat) (u:List Pl),j < i→ts[j]?=some u→¬ ∃ d∈ps,se u d) _ ?_ ?_ ⟨Le.refl _,hM,hC,⟨_,_,rfl⟩,fun j u z=>by omega⟩
 ·rintro i x ρ M' N hx ⟨le,hM,hC,⟨y1,y2,rfl⟩,hf⟩ hN
  obtain ⟨t,ht,rfl⟩:=fW hx
  obtain ⟨⟨a,b,d,et,oa,ob,oc⟩,lW⟩:=hts t (Y9 ht)
  subst et
  have nz:tw a b d≠0:=by have:=lW.2;omega
  refine ⟨hC,?_⟩
  walk_at "rd"
  refine ⟨l,_,rfl,hM,by rw [Y4];omega,aU.mk (c9 (fun i acc M4=>M4=M'∧acc=((ps.take i).filter (fun q=>decide (kX a b d q))).map Pl.d) _ ?_ ?_ ⟨rfl,rfl⟩)⟩
  ·rintro i d' acc M4 N hx ⟨rfl,rfl⟩ hN
   obtain ⟨q,hq,rfl⟩:=lQ hx
   refine ⟨hM,?_⟩
   refine ⟨_,rfl,?_⟩
   refine ⟨_,_,_,Or.inl rfl,rfl,rfl,?_⟩
   refine ⟨_,rfl,?_⟩
   refine ⟨_,_,_,Or.inl rfl,rfl,rfl,?_⟩
   refine ⟨_,rfl,?_⟩
   refine ⟨_,_,_,Or.inl rfl,rfl,rfl,?_⟩
   refine ⟨_,rfl,?_⟩
   refine ⟨a,b,d,q,rfl,oa,ob,oc,ho q (Y9 hq),nz,?_⟩
   walk_at "rd"
   refine br (fun k=>?_) (fun k=>?_)
   ·walk_at "rd"
    refine hN _ _ ⟨rfl,?_⟩
    rw [iJ hq,if_pos k,Zn]
    rfl
   ·refine hN _ _ ⟨rfl,?_⟩
    rw [iJ hq,if_neg k,Z2]
  rintro acc M4 ⟨rfl,rfl⟩
  refine ⟨hM,fun u kE=>?_⟩
  rw [Y4,ZE]
  have mf:∀ w,w∈ps.filter (fun q=>decide (kX a b d q))↔(w∈ps∧se [a,b,d] w):=fun w=>by rw [Zf,decide_eq_true_iff];rfl
  generalize ps.filter (fun q=>decide (kX a b d q))=ss at mf ⊢
  have le:=le.trans (Le.new (o:=MO.lst (ss.map Pl.d)) kE)
  have hM:=ao (u:=MO.lst (ss.map Pl.d)) hM kE
  have hC:=ao (u:=MO.lst (ss.map Pl.d)) hC kE
  have hU:aE M4 u (.lst (ss.map Pl.d)) u=some (.lst (ss.map Pl.d)):=ah
  generalize aE M4 u (.lst (ss.map Pl.d))=M5 at hM hC hU le ⊢
  walk_at "rd"
  intro e he
  refine ⟨_,_,.of (ao hU he),.of ah,c8 _,rfl,?_⟩
  rw [uY]
  have le:=le.trans (Le.new (o:=MO.lst []) he)
  have hM:=ao (u:=MO.lst []) hM he
  have hC:=ao (u:=MO.lst []) hC he
  have hU:=ao (u:=MO.lst []) hU he
  generalize aE M5 e (.lst [])=M6 at hM hC hU le ⊢
  cases es:ss with
  | nil=>
    walk_at "rd"
    refine hN _ _ ⟨le,hM,hC,⟨_,_,rfl⟩,fun j v hj hv=>?_⟩
    by_cases ej:j=i
    ·subst ej
     rw [ht] at hv
     cases hv
     rintro ⟨q,mq,VQ⟩
     have:=(mf q).mpr ⟨mq,VQ⟩
     rw [es] at this
     cases this
    ·exact hf j v (by omega) hv
  | cons s0 sr=>
    rw [← es]
    have hne:ss≠[]:=by rw [es];simp
    have en:(ss.map Pl.d).isEmpty=false:=by rw [es];rfl
    rw [en]
    walk_at "rd"
    refine ⟨u,ss,rfl,hU,hne,fun m mm lm=>?_⟩
    have mk:=(mf m).mp mm
    walk_at "rd"
    exact aU.mk ⟨M,le,h (some ([a,b,d],m)) ⟨⟨i,ht,⟨m,mk⟩,hf⟩,mk,fun z hz=>lm z ((mf z).mpr hz)⟩⟩
 ·rintro ρ M' ⟨le,hM,hC,⟨y1,y2,rfl⟩,hf⟩
  refine ⟨hC,?_⟩
  walk_at "rd"
  refine aU.mk ⟨M,le,h none fun t ht d hd sp=>?_⟩
  obtain ⟨j,hj⟩:=Z5.mp ht
  exact hf j t (by rw [Y4];exact (Ze.mp hj).1) hj ⟨d,hd,sp⟩
theorem BR (T:Txt K mg t):Binds K t.vL ["places","triples"] []:=T.uA.binds fun _ _ _ _ _ _ us hl=>match us,hl with | [_,_],_=>rfl
def Ko:pK:=fun ds M Q=> ∃ l c:Addr,ds= [.ref l,.ref c]∧∃ (ps:List Pl) (ts:List (List Pl)),M l=some (.lst (ps.map Pl.d))∧M c=some (.lst (ts.map tD))∧(∀ t∈ts,Tr t)∧ts.length≤200∧ps.length < 64∧(∀ q∈ps,q.Ok 140)∧∀ (qs:List Pl) (r:Option Flt),qs.Perm ps→qs.Pairwise (fun p q=> ¬ aL q p)→CH ps ts (bx (b8 qs)) r→Q (fD r) M
theorem BS (T:Txt K mg t):bS P w K mg base eZ 8 t.zY t.vL ["places","triples"] (pU K Ko):=by
 refine rM T.uA rG (fun ds M Q h=>by (first | (obtain ⟨_,rfl,_⟩:=h;rfl) | (obtain ⟨_,_,rfl,_⟩:=h;rfl) | (obtain ⟨_,_,_,rfl,_⟩:=h;rfl) | (obtain ⟨_,_,_,_,rfl,_⟩:=h;rfl) | (obtain ⟨_,_,_,_,_,rfl,_⟩:=h;rfl) | (obtain ⟨_,_,_,_,_,_,rfl,_⟩:=h;rfl) | (obtain ⟨_,_,_,_,_,_,_,rfl,_⟩:=h;rfl))) (fun cdv A outer s H hr=>?_)
 have hu:=hr.units
 refine ⟨_,(aq (aS (i:=2) rG.nd rfl (Or.inl rfl) (bD (v7 T) (hr.mono (by decide)) (by rfl) T.xg T.ko.kp (v5 T) (af (aa 0) (af (aa 1) aj))))
  (aq (bI (aJ qm (aa 2) cZ (aC _)) (aA (aD (cL (af uG (af (aa 2) aj))))) aT)
  (aq (aS (i:=3) rG.nd rfl (Or.inl rfl) (bD (xR T) (hr.mono (by decide)) (by rfl) T.Af T.mP.kp (xQ T) (af (aa 1) aj)))
  (aq (bI (aJ qm (aa 3) cZ (aC _)) (aA (aD (cL (af uG (af (aa 3) aj))))) aT)
  (aq (bI (gj (bD (we T) (hr.mono (by decide)) (by rfl) T.xj T.ku.kp (wc T) (af (aa 0) aj))) (aA (aD cZ)) aT)
  (aq (aS (i:=4) rG.nd rfl (Or.inl rfl) (bD (wu T) (hr.mono (by decide)) (by rfl) T.xm T.kB.kp (wo T) (af (aa 0) (af (aa 1) aj))))
  (aq (bI (aJ qm (aa 4) cZ (aC _)) (aA (aD (aa 4))) aT)
  (aA (aD (bD (t9 T) (hr.mono (by decide)) (by rfl) T.vR T.jm.kp (t8 T) (af (aa 0) (af (aa 1) aj)))))))))))),fun ds M Q h=>?_⟩
 obtain ⟨l,c,rfl,ps,ts,hM,hC,hts,Ij,h64,ho,h⟩:=h
 obtain ⟨SQ,SR,SS⟩:=yW ps
 walk_at "rd"
 refine ⟨ps,ts,hM,hC,hts,fun al hal=>?_⟩
 cases al with
 | some t=>
   walk_at "rd"
   exact aU.mk ⟨M,Le.refl _,h SQ _ SR SS ⟨some t,none,hal,(fun z=>by cases z),rfl⟩⟩
 | none=>
   walk_at "rd"
   refine ⟨ts,hC,hts,fun fl hfl=>?_⟩
   cases fl with
   | some t=>
     walk_at "rd"
     exact aU.mk ⟨M,Le.refl _,h SQ _ SR SS ⟨none,some t,hal,fun _=>hfl,rfl⟩⟩
   | none=>
     walk_at "rd"
     refine ⟨ps,hM,ho,fun r hr'=>?_⟩
     walk_at "rd"
     refine br (fun k=>?_) (fun k=>?_)
     ·walk_at "rd"
      exact aU.mk ⟨M,Le.refl _,h SQ none SR SS ⟨none,none,hal,fun _=>hfl,fun _=>rfl,fun z=>absurd (hr'.mp k) z⟩⟩
     ·have nf:¬ Flat ps:=fun z=>k (hr'.mpr z)
      walk_at "rd"
      refine ⟨ps,ts,hM,hC,hts,Ij,h64,ho,fun qs cf q1 q2 hcf=>?_⟩
      cases cf with
      | some f=>
        have fin:aU (∃ M0,Le M0 M∧Q (fD (some f)) M0):=aU.mk ⟨M,Le.refl _,h qs _ q1 q2 ⟨none,none,hal,fun _=>hfl,fun z=>absurd z nf,fun _=>⟨some f,none,hcf,(fun z=>by cases z),rfl⟩⟩⟩
        cases f <;> (walk_at "rd";exact fin)
      | none=>
        walk_at "rd"
        refine ⟨ps,ts,hM,hC,fun t ht=>⟨hts t ht,Y3 fun z=>hfl t ht z⟩,h64,ho,fun sp AR=>?_⟩
        cases sp with
        | none=>exact aU.mk ⟨M,Le.refl _,h qs none q1 q2 ⟨none,none,hal,fun _=>hfl,fun z=>absurd z nf,fun _=>⟨none,none,hcf,fun _=>AR,rfl⟩⟩⟩
        | some td=>
          obtain ⟨t,d⟩:=td
          exact aU.mk ⟨M,Le.refl _,h qs (some (.sA t d)) q1 q2 ⟨none,none,hal,fun _=>hfl,fun z=>absurd z nf,fun _=>⟨none,some (t,d),hcf,fun _=>AR,rfl⟩⟩⟩
theorem tM (T:Txt K mg t):Binds K t.oO ["_law_cover_here","_law_a","_law_b"] []:=T.mR.binds fun _ _ _ _ _ _ us hl=>match us,hl with | [_,_,_],_=>rfl
def Qe (ts:List (List Pl)) (a b:Pl):Option Pl→Prop
 | none=>True
 | some c=> ∃ t∈ts,t= [c,a,b]∨t= [b,c,a]∨t= [a,b,c]
def De:pK:=fun ds M Q=> ∃ (l:Addr) (a b:Pl),ds= [.ref l,a.d,b.d]∧∃ ts:List (List Pl),M l=some (.lst (ts.map tD))∧(∀ t∈ts,Tr t)∧∀ r:Option Pl,Qe ts a b r→Q (oP r) M
theorem tN (T:Txt K mg t):bS P w K mg base eZ 1 t.qD t.oO ["_law_cover_here","_law_a","_law_b"] (pU K De):=by
 refine rM T.mR o4 (fun ds M Q h=>by (first | (obtain ⟨_,rfl,_⟩:=h;rfl) | (obtain ⟨_,_,rfl,_⟩:=h;rfl) | (obtain ⟨_,_,_,rfl,_⟩:=h;rfl) | (obtain ⟨_,_,_,_,rfl,_⟩:=h;rfl) | (obtain ⟨_,_,_,_,_,rfl,_⟩:=h;rfl) | (obtain ⟨_,_,_,_,_,_,rfl,_⟩:=h;rfl) | (obtain ⟨_,_,_,_,_,_,_,rfl,_⟩:=h;rfl))) (fun cdv A outer s H hr=>?_)
 have hu:=hr.units
 refine ⟨_,(aq (iU PassesOwn.never rfl (aa 0) (bW (i:=3) o4.nd rfl (Or.inl rfl)) (aA (gv PassesOwn.never rfl (by rfl) T.dh (af ai aj) (bW (i:=4) o4.nd rfl (Or.inl rfl)) (aA (bI (qK.pt (sY (aJ (e9 hu) (aO (aa 3) (au cO (aa 4) ai)) (aa 1) (aC _)) (nN (aJ (e9 hu) (aO (aa 3) (au cO (aa 4) ai)) (aa 2) (aC _))))) (aA (aD (aO (aa 3) (aa 4)))) aT)))))
  (aA (aD cZ))),fun ds M Q h=>?_⟩
 obtain ⟨l,a,b,rfl,ts,hM,hts,h⟩:=h
 walk_at "rd"
 refine ⟨l,_,rfl,hM,?_⟩
 refine aP (fun i ρ M'=>M'=M∧∃ y1 y2:Option L3.D,ρ= [some (.ref l),some a.d,some b.d,y1,y2]) _ ?_ ?_ ⟨rfl,_,_,rfl⟩
 ·rintro i x ρ M' N hx ⟨rfl,y1,y2,rfl⟩ hN
  obtain ⟨t,ht,rfl⟩:=fW hx
  have mt:=Y9 ht
  obtain ⟨u,v,w',rfl,_⟩:=hts t mt
  refine ⟨hM,?_⟩
  walk_at "rd"
  rw [cY]
  refine br (fun k1=>?_) (fun k1=>?_)
  ·walk_at "rd"
   rw [cY]
   refine br (fun k2=>?_) (fun k2=>?_)
   ·have k1:=of_decide_eq_true k1
    have k2:=of_decide_eq_true k2
    subst k1 k2
    walk_at "rd"
    exact aU.mk ⟨_,Le.refl _,h (some u) ⟨_,mt,.inl rfl⟩⟩
   ·walk_at "rd"
    rw [cY]
    refine br (fun k1=>?_) (fun k1=>?_)
    ·walk_at "rd"
     rw [cY]
     refine br (fun k2=>?_) (fun k2=>?_)
     ·have k1:=of_decide_eq_true k1
      have k2:=of_decide_eq_true k2
      subst k1 k2
      walk_at "rd"
      exact aU.mk ⟨_,Le.refl _,h (some v) ⟨_,mt,.inr (.inl rfl)⟩⟩
     ·walk_at "rd"
      rw [cY]
      refine br (fun k1=>?_) (fun k1=>?_)
      ·walk_at "rd"
       rw [cY]
       refine br (fun k2=>?_) (fun k2=>?_)
       ·have k1:=of_decide_eq_true k1
        have k2:=of_decide_eq_true k2
        subst k1 k2
        walk_at "rd"
        exact aU.mk ⟨_,Le.refl _,h (some w') ⟨_,mt,.inr (.inr rfl)⟩⟩
       ·walk_at "rd"
        exact hN _ _ ⟨rfl,_,_,rfl⟩
      ·walk_at "rd"
       exact hN _ _ ⟨rfl,_,_,rfl⟩
    ·walk_at "rd"
     rw [cY]
     refine br (fun k1=>?_) (fun k1=>?_)
     ·walk_at "rd"
      rw [cY]
      refine br (fun k2=>?_) (fun k2=>?_)
      ·have k1:=of_decide_eq_true k1
       have k2:=of_decide_eq_true k2
       subst k1 k2
       walk_at "rd"
       exact aU.mk ⟨_,Le.refl _,h (some w') ⟨_,mt,.inr (.inr rfl)⟩⟩
      ·walk_at "rd"
       exact hN _ _ ⟨rfl,_,_,rfl⟩
     ·walk_at "rd"
      exact hN _ _ ⟨rfl,_,_,rfl⟩
  ·walk_at "rd"
   rw [cY]
   refine br (fun k1=>?_) (fun k1=>?_)
   ·walk_at "rd"
    rw [cY]
    refine br (fun k2=>?_) (fun k2=>?_)
    ·have k1:=of_decide_eq_true k1
     have k2:=of_decide_eq_true k2
     subst k1 k2
     walk_at "rd"
     exact aU.mk ⟨_,Le.refl _,h (some v) ⟨_,mt,.inr (.inl rfl)⟩⟩
    ·walk_at "rd"
     rw [cY]
     refine br (fun k1=>?_) (fun k1=>?_)
     ·walk_at "rd"
      rw [cY]
      refine br (fun k2=>?_) (fun k2=>?_)
      ·have k1:=of_decide_eq_true k1
       have k2:=of_decide_eq_true k2
       subst k1 k2
       walk_at "rd"
       exact aU.mk ⟨_,Le.refl _,h (some w') ⟨_,mt,.inr (.inr rfl)⟩⟩
      ·walk_at "rd"
       exact hN _ _ ⟨rfl,_,_,rfl⟩
     ·walk_at "rd"
      exact hN _ _ ⟨rfl,_,_,rfl⟩
   ·walk_at "rd"
    rw [cY]
    refine br (fun k1=>?_) (fun k1=>?_)
    ·walk_at "rd"
     rw [cY]
     refine br (fun k2=>?_) (fun k2=>?_)
     ·have k1:=of_decide_eq_true k1
      have k2:=of_decide_eq_true k2
      subst k1 k2
      walk_at "rd"
      exact aU.mk ⟨_,Le.refl _,h (some w') ⟨_,mt,.inr (.inr rfl)⟩⟩
     ·walk_at "rd"
      exact hN _ _ ⟨rfl,_,_,rfl⟩
    ·walk_at "rd"
     exact hN _ _ ⟨rfl,_,_,rfl⟩
 ·rintro ρ M' ⟨rfl,y1,y2,rfl⟩
  refine ⟨hM,?_⟩
  walk_at "rd"
  exact aU.mk ⟨_,Le.refl _,h none trivial⟩
theorem iM (T:Txt K mg t):Binds K t.mC ["_law_a","_law_b","_law_c"] []:=T.fK.binds fun _ _ _ _ _ _ us hl=>match us,hl with | [_,_,_],_=>rfl
def laid (a b c:Pl):List Pl:=if aL b a∧aL b c then [b,c,a] else if aL c a∧aL c b then [c,a,b] else [a,b,c]
def BU:uq:=fun ds Q=> ∃ a b c:Pl,ds= [a.d,b.d,c.d]∧Q (tD (laid a b c))
theorem iN (T:Txt K mg t):bS P w K mg base eZ 1 t.oQ t.mC ["_law_a","_law_b","_law_c"] (tT K BU):=by
 refine ym T.fK Am (fun ds Q h=>by (first | (obtain ⟨_,rfl,_⟩:=h;rfl) | (obtain ⟨_,_,rfl,_⟩:=h;rfl) | (obtain ⟨_,_,_,rfl,_⟩:=h;rfl) | (obtain ⟨_,_,_,_,rfl,_⟩:=h;rfl) | (obtain ⟨_,_,_,_,_,rfl,_⟩:=h;rfl) | (obtain ⟨_,_,_,_,_,_,rfl,_⟩:=h;rfl) | (obtain ⟨_,_,_,_,_,_,_,rfl,_⟩:=h;rfl))) (fun cdv A outer s H hr=>?_)
 have hu:=hr.units
 refine ⟨_,(aq (bI (qK.pt (sY (aJ (mZ hu) (aa 1) (aa 0) (aC _)) (nN (aJ (mZ hu) (aa 1) (aa 2) (aC _))))) (aA (aD (cL (af (aa 1) (af (aa 2) (af (aa 0) aj)))))) aT)
  (aq (bI (qK.pt (sY (aJ (mZ hu) (aa 2) (aa 0) (aC _)) (nN (aJ (mZ hu) (aa 2) (aa 1) (aC _))))) (aA (aD (cL (af (aa 2) (af (aa 0) (af (aa 1) aj)))))) aT)
  (aA (aD (cL (af (aa 0) (af (aa 1) (af (aa 2) aj)))))))),fun ds Q h=>?_⟩
 obtain ⟨a,b,c,rfl,h⟩:=h
 unfold laid at h
 walk_at "rd"
 rw [dY]
 refine br (fun k1=>?_) (fun k1=>?_)
 ·walk_at "rd"
  rw [dY]
  refine br (fun k2=>?_) (fun k2=>?_)
  ·rw [if_pos ⟨of_decide_eq_true k1,of_decide_eq_true k2⟩] at h
   walk_at "rd"
   exact h
  ·rw [if_neg (fun z=>k2 (decide_eq_true z.2))] at h
   walk_at "rd"
   rw [dY]
   refine br (fun k3=>?_) (fun k3=>?_)
   ·walk_at "rd"
    rw [dY]
    refine br (fun k4=>?_) (fun k4=>?_)
    ·rw [if_pos ⟨of_decide_eq_true k3,of_decide_eq_true k4⟩] at h
     walk_at "rd"
     exact h
    ·rw [if_neg (fun z=>k4 (decide_eq_true z.2))] at h
     walk_at "rd"
     exact h
   ·rw [if_neg (fun z=>k3 (decide_eq_true z.1))] at h
    walk_at "rd"
    exact h
 ·rw [if_neg (fun z=>k1 (decide_eq_true z.1))] at h
  walk_at "rd"
  rw [dY]
  refine br (fun k3=>?_) (fun k3=>?_)
  ·walk_at "rd"
   rw [dY]
   refine br (fun k4=>?_) (fun k4=>?_)
   ·rw [if_pos ⟨of_decide_eq_true k3,of_decide_eq_true k4⟩] at h
    walk_at "rd"
    exact h
   ·rw [if_neg (fun z=>k4 (decide_eq_true z.2))] at h
    walk_at "rd"
    exact h
  ·rw [if_neg (fun z=>k3 (decide_eq_true z.1))] at h
   walk_at "rd"
   exact h
theorem nh (T:Txt K mg t):Binds K t.iz ["_law_cover_here","_law_a","_law_b"] []:=T.gb.binds fun _ _ _ _ _ _ us hl=>match us,hl with | [_,_,_],_=>rfl
theorem gi {a b c:Pl} (h:0 < tw a b c):gm (laid a b c)∧(laid a b c).Perm [a,b,c]:=by
 obtain ⟨n1,n2,n3⟩:=DQ (show tw a b c≠0 by omega)
 unfold laid
 by_cases k:aL b a∧aL b c
 ·rw [if_pos k]
  exact ⟨⟨b,c,a,rfl,k.2,k.1,by rw [gw];exact h⟩,(Zz (l₁:=[b,c]) (l₂:=[a]))⟩
 ·rw [if_neg k]
  by_cases k2:aL c a∧aL c b
  ·rw [if_pos k2]
   exact ⟨⟨c,a,b,rfl,k2.1,k2.2,by rw [← gw c a b];exact h⟩,(Zz (l₁:=[c]) (l₂:=[a,b]))⟩
  ·rw [if_neg k2]
   have ab:aL a b:=by
    rcases g9 n1 with z | z
    ·exact z
    ·rcases g9 n3 with y | y
     ·exact absurd ⟨z,y⟩ k
     ·exact absurd ⟨aZ y z,y⟩ k2
   have ac:aL a c:=by
    rcases g9 n2 with z | z
    ·exact z
    ·exact absurd ⟨z,aZ z ab⟩ k2
   exact ⟨⟨a,b,c,rfl,ab,ac,h⟩,.refl _⟩
theorem AA {a b c:Pl} (h:gm [a,b,c]):0 < tw a b c:=by
 obtain ⟨u,v,w,e,_,_,p⟩:=h
 injection e with e1 e
 injection e with e2 e
 injection e with e3 e
 rw [e1,e2,e3]
 exact p
theorem BV {ps:List Pl} {ts:List (List Pl)} {a b c:Pl} (h:Qe ts a b (some c)) (hT:∀ t∈ts,jr ps t):0 < tw a b c∧laid a b c∈ts∧a∈ps∧b∈ps∧c∈ps:=by
 obtain ⟨t,ht,e⟩:=h
 obtain ⟨h1,h2⟩:=hT t ht
 have r1:=gw a b c
 have r2:=gw b c a
 rcases e with rfl | rfl | rfl
 ·have p:0 < tw a b c:=by have:=AA h1;omega
  obtain ⟨k1,k2⟩:=gi p
  refine ⟨p,?_,h2 a (by simp),h2 b (by simp),h2 c (by simp)⟩
  rw [k1.uniq h1 (k2.trans (Zz (l₁:=[a,b]) (l₂:=[c])))]
  exact ht
 ·have p:0 < tw a b c:=by have:=AA h1;omega
  obtain ⟨k1,k2⟩:=gi p
  refine ⟨p,?_,h2 a (by simp),h2 b (by simp),h2 c (by simp)⟩
  rw [k1.uniq h1 (k2.trans (Zz (l₁:=[a]) (l₂:=[b,c])))]
  exact ht
 ·have p:0 < tw a b c:=AA h1
  obtain ⟨k1,k2⟩:=gi p
  refine ⟨p,?_,h2 a (by simp),h2 b (by simp),h2 c (by simp)⟩
  rw [k1.uniq h1 k2]
  exact ht
theorem BW {a b c d:Pl} (h1:0 < tw a b c) (h2:0 < tw b a d):laid a b c≠laid b a d:=fun e=>by
 obtain ⟨_,k1⟩:=gi h1
 obtain ⟨_,k2⟩:=gi h2
 rw [e] at k1
 have k:=k1.symm.trans k2
 have m:c∈[b,a,d]:=k.mem_iff.mp (by simp)
 obtain ⟨_,n2,n3⟩:=DQ (show tw a b c≠0 by omega)
 simp only [Y6,Zt,or_false] at m
 rcases m with m | m | m
 ·exact n3 m.symm
 ·exact n2 m.symm
 ·rw [m] at h1
  have:=dX a b d
  omega
theorem wC {a b c d:Pl} (h1:0 < tw a b c) (h2:0 < tw b a d) (h:tw c d a*tw c d b < 0):0 < tw a d c∧0 < tw b c d:=by
 have e1:tw a d c= - tw c d a:=by unfold tw;grind
 have e2:tw b c d=tw c d b:=by unfold tw;grind
 have e3:tw c d b - tw c d a=tw a b c+tw b a d:=by unfold tw;grind
 rw [e1,e2]
 generalize tw c d a=A at *
 generalize tw c d b=B at *
 rcases aam A 0 with z | z | z
 ·refine ⟨by omega,?_⟩
  apply Y3
  intro w
  have:=Zo (a:=A) (b:=B) (by omega) (by omega)
  omega
 ·rw [z,aaN] at h;omega
 ·have:=Zi (a:=A) (b:=B) (by omega) (by omega)
  omega
theorem pY {f:List Pl→Bool} {g:List Pl}:∀ {ts:List (List Pl)},g∈ts→f g=false→(ts.filter f).length+1≤ts.length
 | [],h,_=>by cases h
 | t :: ts,h,hf=>by
   rw [aaj,Zj]
   have l:=aaI f ts
   by_cases e:t=g
   ·rw [e,if_neg (by rw [hf];simp)]
    omega
   ·rcases Y6.mp h with h | h
    ·exact absurd h.symm e
    ·have:=pY h hf
     split
     ·rw [Zj];omega
     ·omega
theorem KH {f:List Pl→Bool} {g1 g2:List Pl} (n:g1≠g2) (f1:f g1=false) (f2:f g2=false):∀ {ts:List (List Pl)},g1∈ts→g2∈ts→(ts.filter f).length+2≤ts.length
 | [],h,_=>by cases h
 | t :: ts,h1,h2=>by
   rw [aaj,Zj]
   by_cases e:t=g1
   ·rw [e,if_neg (by rw [f1];simp)]
    rcases Y6.mp h2 with h | h
    ·rw [e] at h;exact absurd h.symm n
    ·have:=pY h f2;omega
   ·by_cases e2:t=g2
    ·rw [e2,if_neg (by rw [f2];simp)]
     rcases Y6.mp h1 with h | h
     ·exact absurd h.symm e
     ·have:=pY h f1;omega
    ·rcases Y6.mp h1 with h | h
     ·exact absurd h.symm e
     ·rcases Y6.mp h2 with h' | h'
      ·exact absurd h'.symm e2
      ·have:=KH n f1 f2 h h'
       split
       ·rw [Zj];omega
       ·omega
theorem gX (a b c:Pl):qz (laid a b c) a b c:=by
 unfold laid
 split
 ·exact .inr (.inl rfl)
 ·split
  ·exact .inr (.inr rfl)
  ·exact .inl rfl
/-- as it was,or a side turned over -/
def wD (ts us:List (List Pl)):Prop:=us=ts∨∃ a b c d:Pl,0 < tw a b c∧0 < tw b a d∧laid a b c∈ts∧laid b a d∈ts∧tw c d a*tw c d b < 0∧us.Perm (ts.filter (fun t=>decide (t∉[laid a b c,laid b a d])) ++ [laid a d c,laid b c d])
theorem FF {ts:List (List Pl)} {t1 t2:List Pl} (nd:ts.Nodup) (n:t1≠t2) (h1:t1∈ts) (h2:t2∈ts):ts.Perm (t1 :: t2 :: ts.filter (fun t=>decide (t∉[t1,t2]))):=by
 refine pS nd (Zp.mpr ⟨fun z=>?_,Zp.mpr ⟨fun z=>?_,nd.filter _⟩⟩) fun t=>?_
 ·rcases Y6.mp z with z | z
  ·exact n z
  ·exact of_decide_eq_true (Zf.mp z).2 (by simp)
 ·exact of_decide_eq_true (Zf.mp z).2 (by simp)
 ·rw [Y6,Y6,Zf]
  constructor
  ·intro h
   by_cases e1:t=t1
   ·exact .inl e1
   ·by_cases e2:t=t2
    ·exact .inr (.inl e2)
    ·exact .inr (.inr ⟨h,decide_eq_true (by simp [e1,e2])⟩)
  ·rintro (rfl | rfl | h)
   ·exact h1
   ·exact h2
   ·exact h.1
theorem K3 {Q:List Pl} {ts us:List (List Pl)} (k:iL Q ts) (nf:¬ Flat Q) (h:wD ts us):iL Q us∧us.length=ts.length:=by
 rcases h with rfl | ⟨a,b,c,d,p1,p2,m1,m2,cv,hp⟩
 ·exact ⟨k,rfl⟩
 ·have SV:=BW p1 p2
  obtain ⟨q1,q2⟩:=wC p1 p2 cv
  have e:=FF k.nodup SV m1 m2
  have Mz:us.Perm (laid a d c :: laid b c d :: ts.filter (fun t=>decide (t∉[laid a b c,laid b a d]))):=hp.trans (Zz (l₂:=[laid a d c,laid b c d]))
  refine ⟨k.flip nf e (gX a b c) (gX b a d) cv Mz (gX a d c) (gX b c d) (gi q1).1 (gi q2).1,?_⟩
  rw [Mz.length_eq,e.length_eq]
  rfl
def wF:pK:=fun ds M Q=> ∃ (l:Addr) (a b:Pl),ds= [.ref l,a.d,b.d]∧∃ (ps:List Pl) (ts:List (List Pl)),M l=some (.lst (ts.map tD))∧(∀ t∈ts,jr ps t)∧ts.length≤20∧(∀ q∈ps,q.Ok 140)∧∀ (p:Addr) (us:List (List Pl)) (M':Mp),Le M M'→M' p=some (.lst (us.map tD))→(∀ t∈us,jr ps t)→us.length≤20→wD ts us→(us=ts∨us.Pairwise (fun p q=>dc q p=false))→Q (.ref p) M'
theorem ni (T:Txt K mg t):bS P w K mg base eZ 2 t.ji t.iz ["_law_cover_here","_law_a","_law_b"] (pU K wF):=by
 refine rM T.gb fE (fun ds M Q h=>by (first | (obtain ⟨_,rfl,_⟩:=h;rfl) | (obtain ⟨_,_,rfl,_⟩:=h;rfl) | (obtain ⟨_,_,_,rfl,_⟩:=h;rfl) | (obtain ⟨_,_,_,_,rfl,_⟩:=h;rfl) | (obtain ⟨_,_,_,_,_,rfl,_⟩:=h;rfl) | (obtain ⟨_,_,_,_,_,_,rfl,_⟩:=h;rfl) | (obtain ⟨_,_,_,_,_,_,_,rfl,_⟩:=h;rfl))) (fun cdv A outer s H hr=>?_)
 have hu:=hr.units
 refine ⟨_,(aq (aS (i:=3) fE.nd rfl (Or.inl rfl) (bD (tN T) (hr.mono (by decide)) (by rfl) T.vS T.mR.kp (tM T) (af (aa 0) (af (aa 1) (af (aa 2) aj)))))
  (aq (aS (i:=4) fE.nd rfl (Or.inl rfl) (bD (tN T) (hr.mono (by decide)) (by rfl) T.vS T.mR.kp (tM T) (af (aa 0) (af (aa 2) (af (aa 1) aj)))))
  (aq (bI (qK.pt (tS (aJ jv (aa 3) cZ (aC _)) (tS (aJ jv (aa 4) cZ (aC _)) (nO (aJ RD (au dR (aF (bY T) (hr.mono (by decide)) (by rfl) T.cz T.bN.kp (bX T) (af (aa 3) (af (aa 4) (af (aa 1) aj)))) (aF (bY T) (hr.mono (by decide)) (by rfl) T.cz T.bN.kp (bX T) (af (aa 3) (af (aa 4) (af (aa 2) aj))))) ai (aC _)))))) (aA (aD (aa 0))) aT)
  (aq (aS (i:=5) fE.nd rfl (Or.inr rfl) (cR (af (aF (iN T) (hr.mono (by decide)) (by rfl) T.jy T.fK.kp (iM T) (af (aa 1) (af (aa 2) (af (aa 3) aj)))) (af (aF (iN T) (hr.mono (by decide)) (by rfl) T.jy T.fK.kp (iM T) (af (aa 2) (af (aa 1) (af (aa 4) aj)))) aj))))
  (aA (aD (aR (rW (n:=3) (.inr rfl) hu) (by rfl) T.eW cF (af (au yx (Be (kK (ys:=["_law_gone"]) (fs:=[5]) rfl (by show cU (ay fS) ["_law_cover_here","_law_a","_law_b","_law_c","_law_d","_law_gone"] _ _ _ _=true;decide +kernel) (aa 0) (fun cl C s0 H0 ex=>tF (aJ (iI hu) (aa 0) (aa 1) (by with_unfolding_all rfl))) (fun cl C s0 H0 ex=>(aa 0)))) (cR (af (aF (iN T) (hr.mono (by decide)) (by rfl) T.jy T.fK.kp (iM T) (af (aa 1) (af (aa 4) (af (aa 3) aj)))) (af (aF (iN T) (hr.mono (by decide)) (by rfl) T.jy T.fK.kp (iM T) (af (aa 2) (af (aa 3) (af (aa 4) aj)))) aj)))) aj)))))))),fun ds M Q h=>?_⟩
 obtain ⟨l,a,b,rfl,ps,ts,hM,hT,lt,ho,h⟩:=h
 have sl:(1000:Nat) < sizeLine:=by decide
 have Ub:∀ t∈ts,Tr t:=fun t ht=>(hT t ht).tr ho
 have same:aU (∃ M0,Le M0 M∧Q (.ref l) M0):=aU.mk ⟨M,Le.refl _,h l ts M (Le.refl _) hM hT lt (.inl rfl) (.inl rfl)⟩
 walk_at "rd"
 refine ⟨ts,hM,Ub,fun r1 hr1=>?_⟩
 walk_at "rd"
 refine ⟨ts,hM,Ub,fun r2 hr2=>?_⟩
 cases r1 with
 | none=>
   walk_at "rd"
   exact same
 | some c=>
   cases r2 with
   | none=>
     walk_at "rd"
     exact same
   | some d=>
     obtain ⟨p1,m1,ma,mb,mc⟩:=BV hr1 hT
     obtain ⟨p2,m2,_,_,md⟩:=BV hr2 hT
     have t1:=n8 (ho c mc) (ho d md) (ho a ma)
     have t2:=n8 (ho c mc) (ho d md) (ho b mb)
     walk_at "rd"
     refine ⟨ho c mc,ho d md,ho a ma,?_⟩
     walk_at "rd"
     refine ⟨ho c mc,ho d md,ho b mb,?_⟩
     walk_at "rd"
     refine br (fun k=>?_) (fun k=>?_)
     ·walk_at "rd"
      exact same
     have k:tw c d a*tw c d b < 0:=by
      apply Y3
      intro z
      exact k (decide_eq_true (Int.not_lt.mp z))
     obtain ⟨q1,q2⟩:=wC p1 p2 k
     have SV:=BW p1 p2
     obtain ⟨i1,j1⟩:=gi q1
     obtain ⟨i2,j2⟩:=gi q2
     have in1:jr ps (laid a d c):=⟨i1,fun q hq=>by
      have:=j1.mem_iff.mp hq
      simp only [Y6,Zt,or_false] at this
      rcases this with rfl | rfl | rfl <;> assumption⟩
     have VR:jr ps (laid b c d):=⟨i2,fun q hq=>by
      have:=j2.mem_iff.mp hq
      simp only [Y6,Zt,or_false] at this
      rcases this with rfl | rfl | rfl <;> assumption⟩
     walk_at "rd"
     intro g hg
     have eG: [tD (laid a b c),tD (laid b a d)]= [laid a b c,laid b a d].map tD:=rfl
     have eN: [tD (laid a d c),tD (laid b c d)]= [laid a d c,laid b c d].map tD:=rfl
     have hfe:∀ f:List Pl→Bool,(∀ t,f t=decide (t∉[laid a b c,laid b a d]))→(ts.filter f).length+2≤ts.length:=fun f hf=>KH SV (by rw [hf];simp) (by rw [hf];simp) m1 m2
     have hfe:=hfe (fun t=>decide (t∉[laid a b c,laid b a d])) fun t=>rfl
     have QF:∀ us:List (List Pl),us.Perm (ts.filter (fun t=>decide (t∉[laid a b c,laid b a d])) ++ [laid a d c,laid b c d])→wD ts us:=fun us hp=> .inr ⟨a,b,c,d,p1,p2,m1,m2,k,hp⟩
     try rw [eG]
     generalize [laid a b c,laid b a d]=gs at hfe QF ⊢
     have hM:=ao (u:=MO.lst (gs.map tD)) hM hg
     have le:=Le.new (o:=MO.lst (gs.map tD)) hg
     have hG:aE M g (.lst (gs.map tD)) g=some (.lst (gs.map tD)):=ah
     generalize aE M g (.lst (gs.map tD))=M1 at hM hG le ⊢
     walk_at "rd"
     refine ⟨l,_,rfl,hM,by rw [Y4];omega,aU.mk (c9 (fun j acc M5=>M5=M1∧acc=((ts.take j).filter (fun t=>decide (t∉gs))).map tD) _ ?_ ?_ ⟨rfl,rfl⟩)⟩
     ·rintro j v acc M5 N2 rK ⟨rfl,rfl⟩ AL
      obtain ⟨t',ht,rfl⟩:=fW rK
      refine ⟨hM,?_⟩
      walk_at "rd"
      refine ⟨_,.inr ⟨g,rfl,hG⟩,sj t',cD gs,?_⟩
      walk_at "rd"
      rw [q8,if_pos rfl]
      refine br (fun k=>?_) (fun k=>?_)
      ·have k:t'∉gs:=fun z=>by rw [decide_eq_true z] at k;cases k
       walk_at "rd"
       refine AL _ _ ⟨rfl,?_⟩
       rw [cG ht,if_pos (decide_eq_true k),Zn]
       rfl
      ·have k:t'∈gs:=Y3 fun z=>k (by rw [decide_eq_false z];rfl)
       refine AL _ _ ⟨rfl,?_⟩
       rw [cG ht,if_neg (fun z=>of_decide_eq_true (p:=t'∉gs) z k),Z2]
     ·rintro acc M5 ⟨rfl,rfl⟩
      refine ⟨hM,fun f hf=>?_⟩
      rw [Y4,ZE]
      have hT2:∀ t∈ts.filter (fun t=>decide (t∉gs)),jr ps t:=fun t ht=>hT t (Zf.mp ht).1
      generalize ts.filter (fun t=>decide (t∉gs))=fs at hfe hT2 QF ⊢
      have le:=le.trans (Le.new (o:=MO.lst (fs.map tD)) hf)
      have hF:aE M5 f (.lst (fs.map tD)) f=some (.lst (fs.map tD)):=ah
      generalize aE M5 f (.lst (fs.map tD))=M6 at hF le ⊢
      walk_at "rd"
      intro e he
      have lf:([laid a d c,laid b c d]:List (List Pl)).length=2:=rfl
      have QD:∀ t∈[laid a d c,laid b c d],jr ps t:=fun t ht=>by
       simp only [Y6,Zt,or_false] at ht
       rcases ht with rfl | rfl
       ·exact in1
       ·exact VR
      try rw [eN]
      clear eN eG
      generalize [laid a d c,laid b c d]=ns at *
      have hF:=ao (u:=MO.lst (ns.map tD)) hF he
      have le:=le.trans (Le.new (o:=MO.lst (ns.map tD)) he)
      have hE:aE M6 e (.lst (ns.map tD)) e=some (.lst (ns.map tD)):=ah
      generalize aE M6 e (.lst (ns.map tD))=M7 at hF hE le ⊢
      refine ⟨f,e,_,_,rfl,rfl,hF,hE,by rw [Y4,Y4];omega,fun u kE=>?_⟩
      rw [← Zn]
      have SW:∀ t∈fs ++ ns,jr ps t:=fun t ht=>by
       rcases Zq.mp ht with ht | ht
       ·exact hT2 t ht
       ·exact QD t ht
      have l4:(fs ++ ns).length≤20:=by rw [Zh];omega
      generalize fs ++ ns=rs at SW l4 QF ⊢
      have le:=le.trans (Le.new (o:=MO.lst (rs.map tD)) kE)
      have hU:aE M7 u (.lst (rs.map tD)) u=some (.lst (rs.map tD)):=ah
      generalize aE M7 u (.lst (rs.map tD))=M8 at hU le ⊢
      walk_at "rd"
      refine ⟨u,rs,rfl,hU,fun t ht=>?_,by omega,fun x vs hx bG hso=>?_⟩
      ·obtain ⟨⟨u,v,w,e,_⟩,_⟩:=SW t ht
       rw [e]
       rfl
      exact aU.mk ⟨_,Le.refl _,h x vs _ (le.trans (Le.new hx)) ah (fun t ht=>SW t (bG.mem_iff.mp ht)) (by rw [bG.length_eq];exact l4) (QF vs bG) (.inr hso)⟩
theorem kU (T:Txt K mg t):Binds K t.dg ["_law_number","_law_cover_here"] []:=T.dO.binds fun _ _ _ _ _ _ us hl=>match us,hl with | [_,_],_=>rfl
theorem Qf (x y w:Pl) {i:Int} (h0:0≤i) (h3:i < 3):∃ p:Pl,uF [x.d,y.d,w.d] i=some p.d:=by
 have:i=0∨i=1∨i=2:=by omega
 rcases this with rfl | rfl | rfl
 ·exact ⟨x,rfl⟩
 ·exact ⟨y,rfl⟩
 ·exact ⟨w,rfl⟩
def mY:pK:=fun ds M Q=> ∃ (z:Int) (l:Addr),ds= [.int z,.ref l]∧∃ (ps:List Pl) (ts:List (List Pl)),M l=some (.lst (ts.map tD))∧(∀ t∈ts,jr ps t)∧ts.length≤20∧(∀ q∈ps,q.Ok 140)∧∃ I:List (List Pl)→Prop,I ts∧(∀ us vs,I us→wD us vs→(vs=us∨vs.Pairwise (fun p q=>dc q p=false))→I vs)∧∀ (p:Addr) (us:List (List Pl)) (M':Mp),Le M M'→M' p=some (.lst (us.map tD))→(∀ t∈us,jr ps t)→us.length≤20→I us→Q (.ref p) M'
theorem kW (T:Txt K mg t):bS P w K mg base eZ 3 t.dN t.dg ["_law_number","_law_cover_here"] (pU K mY):=by
 refine rM T.dO bT (fun ds M Q h=>by (first | (obtain ⟨_,rfl,_⟩:=h;rfl) | (obtain ⟨_,_,rfl,_⟩:=h;rfl) | (obtain ⟨_,_,_,rfl,_⟩:=h;rfl) | (obtain ⟨_,_,_,_,rfl,_⟩:=h;rfl) | (obtain ⟨_,_,_,_,_,rfl,_⟩:=h;rfl) | (obtain ⟨_,_,_,_,_,_,rfl,_⟩:=h;rfl) | (obtain ⟨_,_,_,_,_,_,_,rfl,_⟩:=h;rfl))) (fun cdv A outer s H hr=>?_)
 have hu:=hr.units
 refine ⟨_,(aq (gv PassesOwn.never rfl (by rfl) T.dh (af ai aj) (bW (i:=2) bT.nd rfl (Or.inl rfl)) (aA (bI (aJ (Cp hu) (aa 1) (cR aj) (aC _)) (aq (aS (i:=3) bT.nd rfl (Or.inl rfl) (aO (aa 1) (au bu (au cu (aa 0) ai) (aR eE (by rfl) T.cN bf (af (aa 1) aj)))))
  (aq (aS (i:=1) bT.nd rfl (Or.inl rfl) (bD (ni T) (hr.mono (by decide)) (by rfl) T.oV T.gb.kp (nh T) (af (aa 1) (af (aO (aa 3) (au bu (aa 0) ai)) (af (aO (aa 3) (au bu (au dQ (aa 0) ai) ai)) aj)))))
  (aA (aS (i:=0) bT.nd rfl (Or.inl rfl) (au cu (au cu (aa 0) ai) (aR eE (by rfl) T.cN bf (af (aa 1) aj))))))) aT)))
  (aA (aD (aa 1)))),fun ds M Q h=>?_⟩
 obtain ⟨z,l,rfl,ps,ts,hM,hT,lt,ho,I,hI,hS,h⟩:=h
 generalize XA:(24:Int)=XC
 walk_at "rd"
 refine ⟨by omega,by omega,?_⟩
 refine aP (fun i ρ M'=> ∃ (zz:Int) (q:Addr) (us:List (List Pl)) (y2 y3:Option L3.D),ρ= [some (.int zz),some (.ref q),y2,y3]∧Le M M'∧M' q=some (.lst (us.map tD))∧(∀ t∈us,jr ps t)∧us.length≤20∧I us) _ ?_ ?_ ⟨z,l,ts,_,_,rfl,Le.refl _,hM,hT,lt,hI⟩
 ·rintro i v ρ M' N xW ⟨z,q,us,y2,y3,rfl,le,hU,hT,lt,hI⟩ hN
  obtain ⟨hi,rfl⟩:=cg xW
  refine ⟨trivial,?_⟩
  walk_at "rd"
  intro e he
  refine ⟨_,_,.of (ao hU he),.of ah,cD _,rfl,?_⟩
  rw [uY]
  have le:=le.trans (Le.new (o:=MO.lst []) he)
  have hU:=ao (u:=MO.lst []) hU he
  generalize aE M' e (.lst [])=M1 at hU le ⊢
  cases es:us with
  | nil=>
    subst es
    walk_at "rd"
    exact hN _ _ ⟨z,q,[],_,_,rfl,le,hU,hT,lt,hI⟩
  | cons u0 ur=>
    rw [← es]
    have en:(us.map tD).isEmpty=false:=by rw [es];rfl
    have lu:0 < us.length:=by rw [es];simp
    rw [en]
    walk_at "rd"
    refine ⟨_,_,rfl,.inr (.inr ⟨q,rfl,hU⟩),?_⟩
    rw [Y4]
    walk_at "rd"
    have j0:0≤z / 3 % (us.length:Int):=ZG _ (by omega)
    have j1:z / 3 % (us.length:Int) < (us.length:Int):=ZD _ (by omega)
    obtain ⟨j,hj⟩:∃ j:Nat,z / 3 % (us.length:Int)=(j:Int):=⟨(z / 3 % (us.length:Int)).toNat,by omega⟩
    have lj:j < us.length:=by omega
    obtain ⟨t',ht⟩:∃ t',us[j]?=some t':=⟨us[j],Y7 lj⟩
    obtain ⟨⟨x,y,v,et,_⟩,_⟩:=hT t' (Y9 ht)
    subst et
    refine ⟨_,_,_,.inr (.inr ⟨q,rfl,hU⟩),rfl,(show uF (us.map tD) (z / 3 % (us.length:Int))=some (tD [x,y,v]) from by rw [hj];exact bU (by rw [ZI,ht];rfl)),?_⟩
    obtain ⟨a,ha⟩:=Qf x y v (i:=z % 3) (by omega) (by omega)
    obtain ⟨b,hb'⟩:=Qf x y v (i:=(z+1) % 3) (by omega) (by omega)
    walk_at "rd"
    refine ⟨_,_,_,Or.inl rfl,rfl,ha,?_⟩
    walk_at "rd"
    refine ⟨_,_,_,Or.inl rfl,rfl,hb',?_⟩
    walk_at "rd"
    refine ⟨ps,us,hU,hT,lt,ho,fun p' us' M2 Ke hU' SX lt' QG hso'=>?_⟩
    walk_at "rd"
    refine ⟨_,_,rfl,.inr (.inr ⟨p',rfl,hU'⟩),?_⟩
    rw [Y4]
    have XD:0 < us'.length:=by
     rcases QG with rfl | ⟨_,_,_,_,_,_,_,_,_,hp⟩
     ·exact lu
     ·rw [hp.length_eq,Zh]
      simp
    walk_at "rd"
    refine ⟨⟨by omega,7,by show Int.natAbs _ < 2 ^ 7;omega,by decide⟩,?_⟩
    walk_at "rd"
    exact hN _ _ ⟨_,p',us',_,_,rfl,le.trans Ke,hU',SX,lt',hS _ _ hI QG hso'⟩
 ·rintro ρ M' ⟨z,q,us,y2,y3,rfl,le,hU,hT,lt,hI⟩
  refine ⟨trivial,?_⟩
  walk_at "rd"
  exact aU.mk ⟨_,Le.refl _,h q us M' le hU hT lt hI⟩
theorem xX (T:Txt K mg t):Binds K t.j9 ["_law_script","_law_start","_law_cover_here"] []:=T.mT.binds fun _ _ _ _ _ _ us hl=>match us,hl with | [_,_,_],_=>rfl
theorem Uc (x y w:Pl) {i:Int} (h0:0≤i) (h3:i < 3):∃ p:Pl,uF [x.d,y.d,w.d] i=some p.d:=by
 have:i=0∨i=1∨i=2:=by omega
 rcases this with rfl | rfl | rfl
 ·exact ⟨x,rfl⟩
 ·exact ⟨y,rfl⟩
 ·exact ⟨w,rfl⟩
def AB:pK:=fun ds M Q=> ∃ (ns:List Int) (k:Int) (l:Addr),ds= [.ze (ns.map L3.D.int),.int k,.ref l]∧(∀ z∈ns,Att.DN z)∧ns.length≤63∧0≤k∧k≤900∧∃ (ps:List Pl) (ts:List (List Pl)),M l=some (.lst (ts.map tD))∧(∀ t∈ts,jr ps t)∧ts.length≤20∧(∀ q∈ps,q.Ok 140)∧∃ I:List (List Pl)→Prop,I ts∧(∀ us vs,I us→wD us vs→(vs=us∨vs.Pairwise (fun p q=>dc q p=false))→I vs)∧∀ (p:Addr) (us:List (List Pl)) (M':Mp),Le M M'→M' p=some (.lst (us.map tD))→(∀ t∈us,jr ps t)→us.length≤20→I us→Q (.ref p) M'
theorem xY (T:Txt K mg t):bS P w K mg base eZ 4 t.mD t.j9 ["_law_script","_law_start","_law_cover_here"] (pU K AB):=by
 refine rM T.mT fk (fun ds M Q h=>by (first | (obtain ⟨_,rfl,_⟩:=h;rfl) | (obtain ⟨_,_,rfl,_⟩:=h;rfl) | (obtain ⟨_,_,_,rfl,_⟩:=h;rfl) | (obtain ⟨_,_,_,_,rfl,_⟩:=h;rfl) | (obtain ⟨_,_,_,_,_,rfl,_⟩:=h;rfl) | (obtain ⟨_,_,_,_,_,_,rfl,_⟩:=h;rfl) | (obtain ⟨_,_,_,_,_,_,_,rfl,_⟩:=h;rfl))) (fun cdv A outer s H hr=>?_)
 have hu:=hr.units
 refine ⟨_,(aq (bI (aJ (e9 hu) (au bu (aF (bP T) (hr.mono (by decide)) (by rfl) T.cj T.bK.kp (bO T) (af (aa 0) (af ai aj))) ai) ai (aC _)) (aA (aD (bD (kW T) (hr.mono (by decide)) (by rfl) T.mS T.dO.kp (kU T) (af (aF (bP T) (hr.mono (by decide)) (by rfl) T.cj T.bK.kp (bO T) (af (aa 0) (af (aa 1) aj))) (af (aa 2) aj))))) aT)
  (aq (gv PassesOwn.never rfl (by rfl) T.dh (af ai aj) (bW (i:=3) fk.nd rfl (Or.inl rfl)) (aq (aS (i:=4) fk.nd rfl (Or.inl rfl) (aF (bP T) (hr.mono (by decide)) (by rfl) T.cj T.bK.kp (bO T) (af (aa 0) (af (au dQ (aa 1) (aa 3)) aj))))
  (aA (bI (aJ (Cp hu) (aa 2) (cR aj) (aC _)) (aq (aS (i:=5) fk.nd rfl (Or.inl rfl) (aO (aa 2) (au bu (au cu (aa 4) ai) (aR eE (by rfl) T.cN bf (af (aa 2) aj)))))
  (aA (aS (i:=2) fk.nd rfl (Or.inl rfl) (bD (ni T) (hr.mono (by decide)) (by rfl) T.oV T.gb.kp (nh T) (af (aa 2) (af (aO (aa 5) (au bu (aa 4) ai)) (af (aO (aa 5) (au bu (au dQ (aa 4) ai) ai)) aj))))))) aT))))
  (aA (aD (aa 2))))),fun ds M Q h=>?_⟩
 obtain ⟨ns,k,l,rfl,hb,hlen,k0,k1,ps,ts,hM,hT,lt,ho,I,hI,hS,h⟩:=h
 generalize h6:(6:Int)=n6
 walk_at "rd"
 refine ⟨hb,hlen,by decide,by decide,fun NB _=>?_⟩
 walk_at "rd"
 refine br (fun _=>?_) (fun _=>?_)
 ·walk_at "rd"
  refine ⟨hb,hlen,k0,by omega,fun Ud _=>?_⟩
  walk_at "rd"
  refine ⟨ps,ts,hM,hT,lt,ho,I,hI,hS,fun p us M2 le hU hT2 VS VT=>?_⟩
  walk_at "rd"
  exact aU.mk ⟨_,Le.refl _,h p us M2 le hU hT2 VS VT⟩
 ·walk_at "rd"
  refine ⟨by omega,by omega,?_⟩
  refine aP (fun i ρ M'=> ∃ (q:Addr) (us:List (List Pl)) (y1 y2 y3:Option L3.D),ρ= [some (.ze (ns.map L3.D.int)),some (.int k),some (.ref q),y1,y2,y3]∧Le M M'∧M' q=some (.lst (us.map tD))∧(∀ t∈us,jr ps t)∧us.length≤20∧I us) _ ?_ ?_ ⟨l,ts,_,_,_,rfl,Le.refl _,hM,hT,lt,hI⟩
  ·rintro i v ρ M' N xW ⟨q,us,y1,y2,y3,rfl,le,hU,hT,lt,hI⟩ hN
   obtain ⟨hi,rfl⟩:=cg xW
   have hi:i < 6:=by omega
   refine ⟨trivial,?_⟩
   walk_at "rd"
   refine ⟨hb,hlen,by dsimp only;omega,by dsimp only;omega,fun z bz=>?_⟩
   walk_at "rd"
   intro e he
   refine ⟨_,_,.of (ao hU he),.of ah,cD _,rfl,?_⟩
   rw [uY]
   have le:=le.trans (Le.new (o:=MO.lst []) he)
   have hU:=ao (u:=MO.lst []) hU he
   generalize aE M' e (.lst [])=M1 at hU le ⊢
   cases es:us with
   | nil=>
     subst es
     walk_at "rd"
     exact hN _ _ ⟨q,[],_,_,_,rfl,le,hU,hT,lt,hI⟩
   | cons u0 ur=>
     rw [← es]
     have en:(us.map tD).isEmpty=false:=by rw [es];rfl
     have lu:0 < us.length:=by rw [es];simp
     rw [en]
     walk_at "rd"
     refine ⟨_,_,rfl,.inr (.inr ⟨q,rfl,hU⟩),?_⟩
     rw [Y4]
     walk_at "rd"
     have j0:0≤z / 3 % (us.length:Int):=ZG _ (by omega)
     have j1:z / 3 % (us.length:Int) < (us.length:Int):=ZD _ (by omega)
     obtain ⟨j,hj⟩:∃ j:Nat,z / 3 % (us.length:Int)=(j:Int):=⟨(z / 3 % (us.length:Int)).toNat,by omega⟩
     have lj:j < us.length:=by omega
     obtain ⟨t',ht⟩:∃ t',us[j]?=some t':=⟨us[j],Y7 lj⟩
     obtain ⟨⟨x,y,v,et,_⟩,_⟩:=hT t' (Y9 ht)
     subst et
     refine ⟨_,_,_,.inr (.inr ⟨q,rfl,hU⟩),rfl,(show uF (us.map tD) (z / 3 % (us.length:Int))=some (tD [x,y,v]) from by rw [hj];exact bU (by rw [ZI,ht];rfl)),?_⟩
     obtain ⟨a,ha⟩:=Uc x y v (i:=z % 3) (by omega) (by omega)
     obtain ⟨b,hb'⟩:=Uc x y v (i:=(z+1) % 3) (by omega) (by omega)
     walk_at "rd"
     refine ⟨_,_,_,Or.inl rfl,rfl,ha,?_⟩
     walk_at "rd"
     refine ⟨_,_,_,Or.inl rfl,rfl,hb',?_⟩
     walk_at "rd"
     refine ⟨ps,us,hU,hT,lt,ho,fun p' us' M2 Ke hU' SX lt' QG hso'=>?_⟩
     walk_at "rd"
     exact hN _ _ ⟨p',us',_,_,_,rfl,le.trans Ke,hU',SX,lt',hS _ _ hI QG hso'⟩
  ·rintro ρ M' ⟨q,us,y1,y2,y3,rfl,le,hU,hT,lt,hI⟩
   refine ⟨trivial,?_⟩
   walk_at "rd"
   exact aU.mk ⟨_,Le.refl _,h q us M' le hU hT lt hI⟩
theorem fm (T:Txt K mg t):Binds K t.cI ["_law_found","_law_due"] []:=T.cA.binds fun _ _ _ _ _ _ us hl=>match us,hl with | [_,_],_=>rfl
theorem ua (T:Txt K mg t):bS P w K mg base eZ 0 t.cX t.cI ["_law_found","_law_due"] (pU K fun _ _ _=>False):=JI
def wG:pK:=DV 1
theorem uc (T:Txt K mg t):bS P w K mg base eZ 1 t.cX t.cI ["_law_found","_law_due"] (pU K wG):=by
 refine rM T.cA cJ (fun ds M Q h=>by (first | (obtain ⟨_,rfl,_⟩:=h;rfl) | (obtain ⟨_,_,rfl,_⟩:=h;rfl) | (obtain ⟨_,_,_,rfl,_⟩:=h;rfl) | (obtain ⟨_,_,_,_,rfl,_⟩:=h;rfl) | (obtain ⟨_,_,_,_,_,rfl,_⟩:=h;rfl) | (obtain ⟨_,_,_,_,_,_,rfl,_⟩:=h;rfl) | (obtain ⟨_,_,_,_,_,_,_,rfl,_⟩:=h;rfl))) (fun cdv A outer s H hr=>?_)
 have hu:=hr.units
 refine ⟨_,(aq (bI (qK.pt (tS (aJ jv (aa 1) cZ (aC _)) (nO (gj (aR cy (by rfl) T.aB av (af (aa 1) (af (bC (by rfl) T.oY fJ) aj))))))) (aA (aD (Jc (aJ jv (aa 1) cZ (aC _)) (fG jv (aa 0) cZ (aC _)) (jt (aR cy (by rfl) T.aB av (af (aa 0) (af (bC (by rfl) T.oY fJ) aj))) (nP (fG (e9 hu) (aa 0) (aa 1) (aC _))))))) aT)
  (aq (bI (gj (aR cy (by rfl) T.aB av (af (aa 1) (af (bC (by rfl) T.oX fH) aj)))) (aA (aD (jt (aR cy (by rfl) T.aB av (af (aa 0) (af (bC (by rfl) T.oX fH) aj))) (jt (DC (aR cy (by rfl) T.aB av (af (aa 0) (af (bC (by rfl) T.uB lH) aj)))) (nP (fG (e9 hu) (aa 0) (aa 1) (aC _))))))) aT)
  (aq (bI (qK.pt (tS (aJ (nT hu) (aR cy (by rfl) T.aB av (af (aa 0) (af (bC (by rfl) T.gW dD) aj))) (aR cy (by rfl) T.aB av (af (aa 1) (af (bC (by rfl) T.gW dD) aj))) (aC _)) (nO (aJ (nT hu) (aR cy (by rfl) T.aB av (af (aa 0) (af (bC (by rfl) T.dP bQ) aj))) (aR cy (by rfl) T.aB av (af (aa 1) (af (bC (by rfl) T.dP bQ) aj))) (aC _))))) (aA (aD iT)) aT)
  (aq (bI (aJ (nT hu) (aR eE (by rfl) T.cN bf (af (aa 0) aj)) (aR eE (by rfl) T.cN bf (af (aa 1) aj)) (aC _)) (aA (aD iT)) aT)
  (aq (gv PassesOwn.never rfl (by rfl) T.dh (af (aR eE (by rfl) T.cN bf (af (aa 1) aj)) aj) (bW (i:=2) cJ.nd rfl (Or.inl rfl)) (aA (bI (k_not (gj (bD (ua T) (hr.mono (by decide)) (by rfl) T.gc T.cA.kp (fm T) (af (aO (aa 0) (aa 2)) (af (aO (aa 1) (aa 2)) aj))))) (aA (aD iT)) aT)))
  (aA (aD iT))))))),fun ds M Q h=>?_⟩
 obtain ⟨d,e,rfl,ha,h⟩:=h
 rcases ha with ⟨rfl,ha⟩ | ⟨f,g,xs,rfl,rfl,hf,hg,hx,hl⟩
 ·cases d with
  | int i=>
    walk_at "rd"
    refine ⟨_,_,_,false,rfl,.int _,by rfl,?_⟩
    walk_at "rd"
    refine ⟨_,_,_,false,rfl,.int _,by rfl,?_⟩
    walk_at "rd"
    have e:eg (.int i) (.int i)=true:=by rw [c6];simp
    rw [e]
    exact aU.mk ⟨_,Le.refl _,h⟩
  | bJ=>
    walk_at "rd"
    exact aU.mk ⟨_,Le.refl _,h⟩
  | str x=>
    walk_at "rd"
    refine ⟨_,_,_,true,rfl,.str _,bZ,?_⟩
    walk_at "rd"
    refine ⟨_,_,_,true,rfl,.str _,bZ,?_⟩
    walk_at "rd"
    have e:eg (.str x) (.str x)=true:=kI 1 _ rfl
    rw [e]
    exact aU.mk ⟨_,Le.refl _,h⟩
  | tup xs=>
    obtain ⟨hl,hx⟩:xs.length≤1000∧xs.all (qp 0)=true:=by
     have ha:(decide (xs.length≤1000) && xs.all (qp 0))=true:=ha
     rw [ZX] at ha
     exact ⟨of_decide_eq_true ha.1,ha.2⟩
    walk_at "rd"
    refine ⟨_,_,_,false,rfl,.tup _,by rfl,?_⟩
    walk_at "rd"
    refine ⟨_,_,_,false,rfl,.tup _,by rfl,?_⟩
    walk_at "rd"
    refine ⟨_,_,_,false,rfl,.tup _,by rfl,?_⟩
    walk_at "rd"
    refine ⟨_,_,_,false,rfl,.tup _,by rfl,?_⟩
    walk_at "rd"
    rw [ia]
    refine br (fun z=>absurd rfl (of_decide_eq_true z)) (fun _=>?_)
    walk_at "rd"
    refine ⟨by omega,by omega,?_⟩
    refine aP (fun i ρ M'=>M'=M∧∃ y:Option L3.D,ρ= [some (.tup xs),some (.tup xs),y]) _ ?_ ?_ ⟨rfl,_,rfl⟩
    ·rintro i x ρ M' Nx xW ⟨rfl,y,rfl⟩ hN
     obtain ⟨hi,rfl⟩:=cg xW
     have hi:i < xs.length:=by simpa using hi
     have gx:xs[i]?=some xs[i]:=Y7 hi
     have rK:qp 0 xs[i]=true:=Zw.mp hx _ (Z4 hi)
     refine ⟨trivial,?_⟩
     walk_at "rd"
     exact absurd rK (by show ¬ false=true;decide)
    ·rintro ρ M' ⟨rfl,y,rfl⟩
     refine ⟨trivial,?_⟩
     walk_at "rd"
     exact aU.mk ⟨_,Le.refl _,h⟩
  | _=>cases ha
 ·walk_at "rd"
  refine ⟨_,_,_,false,rfl,.lst hg,by rfl,?_⟩
  walk_at "rd"
  refine ⟨_,_,_,false,rfl,.lst hg,by rfl,?_⟩
  walk_at "rd"
  refine ⟨_,_,_,false,rfl,.lst hf,by rfl,?_⟩
  walk_at "rd"
  refine ⟨_,_,_,false,rfl,.lst hg,by rfl,?_⟩
  walk_at "rd"
  refine ⟨_,_,_,true,rfl,.lst hf,bZ,?_⟩
  walk_at "rd"
  refine ⟨_,_,_,true,rfl,.lst hg,bZ,?_⟩
  walk_at "rd"
  refine ⟨_,_,rfl,.inr (.inr ⟨f,rfl,hf⟩),?_⟩
  walk_at "rd"
  refine ⟨_,_,rfl,.inr (.inr ⟨g,rfl,hg⟩),?_⟩
  walk_at "rd"
  rw [ia]
  refine br (fun z=>absurd rfl (of_decide_eq_true z)) (fun _=>?_)
  walk_at "rd"
  refine ⟨_,_,rfl,.inr (.inr ⟨g,rfl,hg⟩),?_⟩
  refine ⟨_,rfl,by omega,by omega,?_⟩
  refine aP (fun i ρ M'=>M'=M∧∃ y:Option L3.D,ρ= [some (.ref f),some (.ref g),y]) _ ?_ ?_ ⟨rfl,_,rfl⟩
  ·rintro i x ρ M' Nx xW ⟨rfl,y,rfl⟩ hN
   obtain ⟨hi,rfl⟩:=cg xW
   have hi:i < xs.length:=by simpa using hi
   have gx:xs[i]?=some xs[i]:=Y7 hi
   have rK:qp 0 xs[i]=true:=Zw.mp hx _ (Z4 hi)
   refine ⟨trivial,?_⟩
   walk_at "rd"
   exact absurd rK (by show ¬ false=true;decide)
  ·rintro ρ M' ⟨rfl,y,rfl⟩
   refine ⟨trivial,?_⟩
   walk_at "rd"
   exact aU.mk ⟨_,Le.refl _,h⟩
def wH:pK:=DV 2
theorem ue (T:Txt K mg t):bS P w K mg base eZ 2 t.cX t.cI ["_law_found","_law_due"] (pU K wH):=by
 refine rM T.cA cJ (fun ds M Q h=>by (first | (obtain ⟨_,rfl,_⟩:=h;rfl) | (obtain ⟨_,_,rfl,_⟩:=h;rfl) | (obtain ⟨_,_,_,rfl,_⟩:=h;rfl) | (obtain ⟨_,_,_,_,rfl,_⟩:=h;rfl) | (obtain ⟨_,_,_,_,_,rfl,_⟩:=h;rfl) | (obtain ⟨_,_,_,_,_,_,rfl,_⟩:=h;rfl) | (obtain ⟨_,_,_,_,_,_,_,rfl,_⟩:=h;rfl))) (fun cdv A outer s H hr=>?_)
 have hu:=hr.units
 refine ⟨_,(aq (bI (qK.pt (tS (aJ jv (aa 1) cZ (aC _)) (nO (gj (aR cy (by rfl) T.aB av (af (aa 1) (af (bC (by rfl) T.oY fJ) aj))))))) (aA (aD (Jc (aJ jv (aa 1) cZ (aC _)) (fG jv (aa 0) cZ (aC _)) (jt (aR cy (by rfl) T.aB av (af (aa 0) (af (bC (by rfl) T.oY fJ) aj))) (nP (fG (e9 hu) (aa 0) (aa 1) (aC _))))))) aT)
  (aq (bI (gj (aR cy (by rfl) T.aB av (af (aa 1) (af (bC (by rfl) T.oX fH) aj)))) (aA (aD (jt (aR cy (by rfl) T.aB av (af (aa 0) (af (bC (by rfl) T.oX fH) aj))) (jt (DC (aR cy (by rfl) T.aB av (af (aa 0) (af (bC (by rfl) T.uB lH) aj)))) (nP (fG (e9 hu) (aa 0) (aa 1) (aC _))))))) aT)
  (aq (bI (qK.pt (tS (aJ (nT hu) (aR cy (by rfl) T.aB av (af (aa 0) (af (bC (by rfl) T.gW dD) aj))) (aR cy (by rfl) T.aB av (af (aa 1) (af (bC (by rfl) T.gW dD) aj))) (aC _)) (nO (aJ (nT hu) (aR cy (by rfl) T.aB av (af (aa 0) (af (bC (by rfl) T.dP bQ) aj))) (aR cy (by rfl) T.aB av (af (aa 1) (af (bC (by rfl) T.dP bQ) aj))) (aC _))))) (aA (aD iT)) aT)
  (aq (bI (aJ (nT hu) (aR eE (by rfl) T.cN bf (af (aa 0) aj)) (aR eE (by rfl) T.cN bf (af (aa 1) aj)) (aC _)) (aA (aD iT)) aT)
  (aq (gv PassesOwn.never rfl (by rfl) T.dh (af (aR eE (by rfl) T.cN bf (af (aa 1) aj)) aj) (bW (i:=2) cJ.nd rfl (Or.inl rfl)) (aA (bI (k_not (gj (bD (uc T) (hr.mono (by decide)) (by rfl) T.gc T.cA.kp (fm T) (af (aO (aa 0) (aa 2)) (af (aO (aa 1) (aa 2)) aj))))) (aA (aD iT)) aT)))
  (aA (aD iT))))))),fun ds M Q h=>?_⟩
 obtain ⟨d,e,rfl,ha,h⟩:=h
 rcases ha with ⟨rfl,ha⟩ | ⟨f,g,xs,rfl,rfl,hf,hg,hx,hl⟩
 ·cases d with
  | int i=>
    walk_at "rd"
    refine ⟨_,_,_,false,rfl,.int _,by rfl,?_⟩
    walk_at "rd"
    refine ⟨_,_,_,false,rfl,.int _,by rfl,?_⟩
    walk_at "rd"
    have e:eg (.int i) (.int i)=true:=by rw [c6];simp
    rw [e]
    exact aU.mk ⟨_,Le.refl _,h⟩
  | bJ=>
    walk_at "rd"
    exact aU.mk ⟨_,Le.refl _,h⟩
  | str x=>
    walk_at "rd"
    refine ⟨_,_,_,true,rfl,.str _,bZ,?_⟩
    walk_at "rd"
    refine ⟨_,_,_,true,rfl,.str _,bZ,?_⟩
    walk_at "rd"
    have e:eg (.str x) (.str x)=true:=kI 1 _ rfl
    rw [e]
    exact aU.mk ⟨_,Le.refl _,h⟩
  | tup xs=>
    obtain ⟨hl,hx⟩:xs.length≤1000∧xs.all (qp 1)=true:=by
     have ha:(decide (xs.length≤1000) && xs.all (qp 1))=true:=ha
     rw [ZX] at ha
     exact ⟨of_decide_eq_true ha.1,ha.2⟩
    walk_at "rd"
    refine ⟨_,_,_,false,rfl,.tup _,by rfl,?_⟩
    walk_at "rd"
    refine ⟨_,_,_,false,rfl,.tup _,by rfl,?_⟩
    walk_at "rd"
    refine ⟨_,_,_,false,rfl,.tup _,by rfl,?_⟩
    walk_at "rd"
    refine ⟨_,_,_,false,rfl,.tup _,by rfl,?_⟩
    walk_at "rd"
    rw [ia]
    refine br (fun z=>absurd rfl (of_decide_eq_true z)) (fun _=>?_)
    walk_at "rd"
    refine ⟨by omega,by omega,?_⟩
    refine aP (fun i ρ M'=>M'=M∧∃ y:Option L3.D,ρ= [some (.tup xs),some (.tup xs),y]) _ ?_ ?_ ⟨rfl,_,rfl⟩
    ·rintro i x ρ M' Nx xW ⟨rfl,y,rfl⟩ hN
     obtain ⟨hi,rfl⟩:=cg xW
     have hi:i < xs.length:=by simpa using hi
     have gx:xs[i]?=some xs[i]:=Y7 hi
     have rK:qp 1 xs[i]=true:=Zw.mp hx _ (Z4 hi)
     refine ⟨trivial,?_⟩
     walk_at "rd"
     refine ⟨_,_,xs[i],.inl rfl,rfl,bU gx,?_⟩
     walk_at "rd"
     refine ⟨_,_,xs[i],.inl rfl,rfl,bU gx,?_⟩
     walk_at "rd"
     refine ⟨.inl ⟨rfl,rK⟩,?_⟩
     walk_at "rd"
     exact hN _ _ ⟨rfl,_,rfl⟩
    ·rintro ρ M' ⟨rfl,y,rfl⟩
     refine ⟨trivial,?_⟩
     walk_at "rd"
     exact aU.mk ⟨_,Le.refl _,h⟩
  | _=>cases ha
 ·walk_at "rd"
  refine ⟨_,_,_,false,rfl,.lst hg,by rfl,?_⟩
  walk_at "rd"
  refine ⟨_,_,_,false,rfl,.lst hg,by rfl,?_⟩
  walk_at "rd"
  refine ⟨_,_,_,false,rfl,.lst hf,by rfl,?_⟩
  walk_at "rd"
  refine ⟨_,_,_,false,rfl,.lst hg,by rfl,?_⟩
  walk_at "rd"
  refine ⟨_,_,_,true,rfl,.lst hf,bZ,?_⟩
  walk_at "rd"
  refine ⟨_,_,_,true,rfl,.lst hg,bZ,?_⟩
  walk_at "rd"
  refine ⟨_,_,rfl,.inr (.inr ⟨f,rfl,hf⟩),?_⟩
  walk_at "rd"
  refine ⟨_,_,rfl,.inr (.inr ⟨g,rfl,hg⟩),?_⟩
  walk_at "rd"
  rw [ia]
  refine br (fun z=>absurd rfl (of_decide_eq_true z)) (fun _=>?_)
  walk_at "rd"
  refine ⟨_,_,rfl,.inr (.inr ⟨g,rfl,hg⟩),?_⟩
  refine ⟨_,rfl,by omega,by omega,?_⟩
  refine aP (fun i ρ M'=>M'=M∧∃ y:Option L3.D,ρ= [some (.ref f),some (.ref g),y]) _ ?_ ?_ ⟨rfl,_,rfl⟩
  ·rintro i x ρ M' Nx xW ⟨rfl,y,rfl⟩ hN
   obtain ⟨hi,rfl⟩:=cg xW
   have hi:i < xs.length:=by simpa using hi
   have gx:xs[i]?=some xs[i]:=Y7 hi
   have rK:qp 1 xs[i]=true:=Zw.mp hx _ (Z4 hi)
   refine ⟨trivial,?_⟩
   walk_at "rd"
   refine ⟨_,_,xs[i],.inr (.inr ⟨f,rfl,hf⟩),rfl,bU gx,?_⟩
   walk_at "rd"
   refine ⟨_,_,xs[i],.inr (.inr ⟨g,rfl,hg⟩),rfl,bU gx,?_⟩
   walk_at "rd"
   refine ⟨.inl ⟨rfl,rK⟩,?_⟩
   walk_at "rd"
   exact hN _ _ ⟨rfl,_,rfl⟩
  ·rintro ρ M' ⟨rfl,y,rfl⟩
   refine ⟨trivial,?_⟩
   walk_at "rd"
   exact aU.mk ⟨_,Le.refl _,h⟩
def wI:pK:=DV 3
theorem uf (T:Txt K mg t):bS P w K mg base eZ 3 t.cX t.cI ["_law_found","_law_due"] (pU K wI):=by
 refine rM T.cA cJ (fun ds M Q h=>by (first | (obtain ⟨_,rfl,_⟩:=h;rfl) | (obtain ⟨_,_,rfl,_⟩:=h;rfl) | (obtain ⟨_,_,_,rfl,_⟩:=h;rfl) | (obtain ⟨_,_,_,_,rfl,_⟩:=h;rfl) | (obtain ⟨_,_,_,_,_,rfl,_⟩:=h;rfl) | (obtain ⟨_,_,_,_,_,_,rfl,_⟩:=h;rfl) | (obtain ⟨_,_,_,_,_,_,_,rfl,_⟩:=h;rfl))) (fun cdv A outer s H hr=>?_)
 have hu:=hr.units
 refine ⟨_,(aq (bI (qK.pt (tS (aJ jv (aa 1) cZ (aC _)) (nO (gj (aR cy (by rfl) T.aB av (af (aa 1) (af (bC (by rfl) T.oY fJ) aj))))))) (aA (aD (Jc (aJ jv (aa 1) cZ (aC _)) (fG jv (aa 0) cZ (aC _)) (jt (aR cy (by rfl) T.aB av (af (aa 0) (af (bC (by rfl) T.oY fJ) aj))) (nP (fG (e9 hu) (aa 0) (aa 1) (aC _))))))) aT)
  (aq (bI (gj (aR cy (by rfl) T.aB av (af (aa 1) (af (bC (by rfl) T.oX fH) aj)))) (aA (aD (jt (aR cy (by rfl) T.aB av (af (aa 0) (af (bC (by rfl) T.oX fH) aj))) (jt (DC (aR cy (by rfl) T.aB av (af (aa 0) (af (bC (by rfl) T.uB lH) aj)))) (nP (fG (e9 hu) (aa 0) (aa 1) (aC _))))))) aT)
  (aq (bI (qK.pt (tS (aJ (nT hu) (aR cy (by rfl) T.aB av (af (aa 0) (af (bC (by rfl) T.gW dD) aj))) (aR cy (by rfl) T.aB av (af (aa 1) (af (bC (by rfl) T.gW dD) aj))) (aC _)) (nO (aJ (nT hu) (aR cy (by rfl) T.aB av (af (aa 0) (af (bC (by rfl) T.dP bQ) aj))) (aR cy (by rfl) T.aB av (af (aa 1) (af (bC (by rfl) T.dP bQ) aj))) (aC _))))) (aA (aD iT)) aT)
  (aq (bI (aJ (nT hu) (aR eE (by rfl) T.cN bf (af (aa 0) aj)) (aR eE (by rfl) T.cN bf (af (aa 1) aj)) (aC _)) (aA (aD iT)) aT)
  (aq (gv PassesOwn.never rfl (by rfl) T.dh (af (aR eE (by rfl) T.cN bf (af (aa 1) aj)) aj) (bW (i:=2) cJ.nd rfl (Or.inl rfl)) (aA (bI (k_not (gj (bD (ue T) (hr.mono (by decide)) (by rfl) T.gc T.cA.kp (fm T) (af (aO (aa 0) (aa 2)) (af (aO (aa 1) (aa 2)) aj))))) (aA (aD iT)) aT)))
  (aA (aD iT))))))),fun ds M Q h=>?_⟩
 obtain ⟨d,e,rfl,ha,h⟩:=h
 rcases ha with ⟨rfl,ha⟩ | ⟨f,g,xs,rfl,rfl,hf,hg,hx,hl⟩
 ·cases d with
  | int i=>
    walk_at "rd"
    refine ⟨_,_,_,false,rfl,.int _,by rfl,?_⟩
    walk_at "rd"
    refine ⟨_,_,_,false,rfl,.int _,by rfl,?_⟩
    walk_at "rd"
    have e:eg (.int i) (.int i)=true:=by rw [c6];simp
    rw [e]
    exact aU.mk ⟨_,Le.refl _,h⟩
  | bJ=>
    walk_at "rd"
    exact aU.mk ⟨_,Le.refl _,h⟩
  | str x=>
    walk_at "rd"
    refine ⟨_,_,_,true,rfl,.str _,bZ,?_⟩
    walk_at "rd"
    refine ⟨_,_,_,true,rfl,.str _,bZ,?_⟩
    walk_at "rd"
    have e:eg (.str x) (.str x)=true:=kI 1 _ rfl
    rw [e]
    exact aU.mk ⟨_,Le.refl _,h⟩
  | tup xs=>
    obtain ⟨hl,hx⟩:xs.length≤1000∧xs.all (qp 2)=true:=by
     have ha:(decide (xs.length≤1000) && xs.all (qp 2))=true:=ha
     rw [ZX] at ha
     exact ⟨of_decide_eq_true ha.1,ha.2⟩
    walk_at "rd"
    refine ⟨_,_,_,false,rfl,.tup _,by rfl,?_⟩
    walk_at "rd"
    refine ⟨_,_,_,false,rfl,.tup _,by rfl,?_⟩
    walk_at "rd"
    refine ⟨_,_,_,false,rfl,.tup _,by rfl,?_⟩
    walk_at "rd"
    refine ⟨_,_,_,false,rfl,.tup _,by rfl,?_⟩
    walk_at "rd"
    rw [ia]
    refine br (fun z=>absurd rfl (of_decide_eq_true z)) (fun _=>?_)
    walk_at "rd"
    refine ⟨by omega,by omega,?_⟩
    refine aP (fun i ρ M'=>M'=M∧∃ y:Option L3.D,ρ= [some (.tup xs),some (.tup xs),y]) _ ?_ ?_ ⟨rfl,_,rfl⟩
    ·rintro i x ρ M' Nx xW ⟨rfl,y,rfl⟩ hN
     obtain ⟨hi,rfl⟩:=cg xW
     have hi:i < xs.length:=by simpa using hi
     have gx:xs[i]?=some xs[i]:=Y7 hi
     have rK:qp 2 xs[i]=true:=Zw.mp hx _ (Z4 hi)
     refine ⟨trivial,?_⟩
     walk_at "rd"
     refine ⟨_,_,xs[i],.inl rfl,rfl,bU gx,?_⟩
     walk_at "rd"
     refine ⟨_,_,xs[i],.inl rfl,rfl,bU gx,?_⟩
     walk_at "rd"
     refine ⟨.inl ⟨rfl,rK⟩,?_⟩
     walk_at "rd"
     exact hN _ _ ⟨rfl,_,rfl⟩
    ·rintro ρ M' ⟨rfl,y,rfl⟩
     refine ⟨trivial,?_⟩
     walk_at "rd"
     exact aU.mk ⟨_,Le.refl _,h⟩
  | _=>cases ha
 ·walk_at "rd"
  refine ⟨_,_,_,false,rfl,.lst hg,by rfl,?_⟩
  walk_at "rd"
  refine ⟨_,_,_,false,rfl,.lst hg,by rfl,?_⟩
  walk_at "rd"
  refine ⟨_,_,_,false,rfl,.lst hf,by rfl,?_⟩
  walk_at "rd"
  refine ⟨_,_,_,false,rfl,.lst hg,by rfl,?_⟩
  walk_at "rd"
  refine ⟨_,_,_,true,rfl,.lst hf,bZ,?_⟩
  walk_at "rd"
  refine ⟨_,_,_,true,rfl,.lst hg,bZ,?_⟩
  walk_at "rd"
  refine ⟨_,_,rfl,.inr (.inr ⟨f,rfl,hf⟩),?_⟩
  walk_at "rd"
  refine ⟨_,_,rfl,.inr (.inr ⟨g,rfl,hg⟩),?_⟩
  walk_at "rd"
  rw [ia]
  refine br (fun z=>absurd rfl (of_decide_eq_true z)) (fun _=>?_)
  walk_at "rd"
  refine ⟨_,_,rfl,.inr (.inr ⟨g,rfl,hg⟩),?_⟩
  refine ⟨_,rfl,by omega,by omega,?_⟩
  refine aP (fun i ρ M'=>M'=M∧∃ y:Option L3.D,ρ= [some (.ref f),some (.ref g),y]) _ ?_ ?_ ⟨rfl,_,rfl⟩
  ·rintro i x ρ M' Nx xW ⟨rfl,y,rfl⟩ hN
   obtain ⟨hi,rfl⟩:=cg xW
   have hi:i < xs.length:=by simpa using hi
   have gx:xs[i]?=some xs[i]:=Y7 hi
   have rK:qp 2 xs[i]=true:=Zw.mp hx _ (Z4 hi)
   refine ⟨trivial,?_⟩
   walk_at "rd"
   refine ⟨_,_,xs[i],.inr (.inr ⟨f,rfl,hf⟩),rfl,bU gx,?_⟩
   walk_at "rd"
   refine ⟨_,_,xs[i],.inr (.inr ⟨g,rfl,hg⟩),rfl,bU gx,?_⟩
   walk_at "rd"
   refine ⟨.inl ⟨rfl,rK⟩,?_⟩
   walk_at "rd"
   exact hN _ _ ⟨rfl,_,rfl⟩
  ·rintro ρ M' ⟨rfl,y,rfl⟩
   refine ⟨trivial,?_⟩
   walk_at "rd"
   exact aU.mk ⟨_,Le.refl _,h⟩
def pC:pK:=DV 4
theorem ug (T:Txt K mg t):bS P w K mg base eZ 4 t.cX t.cI ["_law_found","_law_due"] (pU K pC):=by
 refine rM T.cA cJ (fun ds M Q h=>by (first | (obtain ⟨_,rfl,_⟩:=h;rfl) | (obtain ⟨_,_,rfl,_⟩:=h;rfl) | (obtain ⟨_,_,_,rfl,_⟩:=h;rfl) | (obtain ⟨_,_,_,_,rfl,_⟩:=h;rfl) | (obtain ⟨_,_,_,_,_,rfl,_⟩:=h;rfl) | (obtain ⟨_,_,_,_,_,_,rfl,_⟩:=h;rfl) | (obtain ⟨_,_,_,_,_,_,_,rfl,_⟩:=h;rfl))) (fun cdv A outer s H hr=>?_)
 have hu:=hr.units
 refine ⟨_,(aq (bI (qK.pt (tS (aJ jv (aa 1) cZ (aC _)) (nO (gj (aR cy (by rfl) T.aB av (af (aa 1) (af (bC (by rfl) T.oY fJ) aj))))))) (aA (aD (Jc (aJ jv (aa 1) cZ (aC _)) (fG jv (aa 0) cZ (aC _)) (jt (aR cy (by rfl) T.aB av (af (aa 0) (af (bC (by rfl) T.oY fJ) aj))) (nP (fG (e9 hu) (aa 0) (aa 1) (aC _))))))) aT)
  (aq (bI (gj (aR cy (by rfl) T.aB av (af (aa 1) (af (bC (by rfl) T.oX fH) aj)))) (aA (aD (jt (aR cy (by rfl) T.aB av (af (aa 0) (af (bC (by rfl) T.oX fH) aj))) (jt (DC (aR cy (by rfl) T.aB av (af (aa 0) (af (bC (by rfl) T.uB lH) aj)))) (nP (fG (e9 hu) (aa 0) (aa 1) (aC _))))))) aT)
  (aq (bI (qK.pt (tS (aJ (nT hu) (aR cy (by rfl) T.aB av (af (aa 0) (af (bC (by rfl) T.gW dD) aj))) (aR cy (by rfl) T.aB av (af (aa 1) (af (bC (by rfl) T.gW dD) aj))) (aC _)) (nO (aJ (nT hu) (aR cy (by rfl) T.aB av (af (aa 0) (af (bC (by rfl) T.dP bQ) aj))) (aR cy (by rfl) T.aB av (af (aa 1) (af (bC (by rfl) T.dP bQ) aj))) (aC _))))) (aA (aD iT)) aT)
  (aq (bI (aJ (nT hu) (aR eE (by rfl) T.cN bf (af (aa 0) aj)) (aR eE (by rfl) T.cN bf (af (aa 1) aj)) (aC _)) (aA (aD iT)) aT)
  (aq (gv PassesOwn.never rfl (by rfl) T.dh (af (aR eE (by rfl) T.cN bf (af (aa 1) aj)) aj) (bW (i:=2) cJ.nd rfl (Or.inl rfl)) (aA (bI (k_not (gj (bD (uf T) (hr.mono (by decide)) (by rfl) T.gc T.cA.kp (fm T) (af (aO (aa 0) (aa 2)) (af (aO (aa 1) (aa 2)) aj))))) (aA (aD iT)) aT)))
  (aA (aD iT))))))),fun ds M Q h=>?_⟩
 obtain ⟨d,e,rfl,ha,h⟩:=h
 rcases ha with ⟨rfl,ha⟩ | ⟨f,g,xs,rfl,rfl,hf,hg,hx,hl⟩
 ·cases d with
  | int i=>
    walk_at "rd"
    refine ⟨_,_,_,false,rfl,.int _,by rfl,?_⟩
    walk_at "rd"
    refine ⟨_,_,_,false,rfl,.int _,by rfl,?_⟩
    walk_at "rd"
    have e:eg (.int i) (.int i)=true:=by rw [c6];simp
    rw [e]
    exact aU.mk ⟨_,Le.refl _,h⟩
  | bJ=>
    walk_at "rd"
    exact aU.mk ⟨_,Le.refl _,h⟩
  | str x=>
    walk_at "rd"
    refine ⟨_,_,_,true,rfl,.str _,bZ,?_⟩
    walk_at "rd"
    refine ⟨_,_,_,true,rfl,.str _,bZ,?_⟩
    walk_at "rd"
    have e:eg (.str x) (.str x)=true:=kI 1 _ rfl
    rw [e]
    exact aU.mk ⟨_,Le.refl _,h⟩
  | tup xs=>
    obtain ⟨hl,hx⟩:xs.length≤1000∧xs.all (qp 3)=true:=by
     have ha:(decide (xs.length≤1000) && xs.all (qp 3))=true:=ha
     rw [ZX] at ha
     exact ⟨of_decide_eq_true ha.1,ha.2⟩
    walk_at "rd"
    refine ⟨_,_,_,false,rfl,.tup _,by rfl,?_⟩
    walk_at "rd"
    refine ⟨_,_,_,false,rfl,.tup _,by rfl,?_⟩
    walk_at "rd"
    refine ⟨_,_,_,false,rfl,.tup _,by rfl,?_⟩
    walk_at "rd"
    refine ⟨_,_,_,false,rfl,.tup _,by rfl,?_⟩
    walk_at "rd"
    rw [ia]
    refine br (fun z=>absurd rfl (of_decide_eq_true z)) (fun _=>?_)
    walk_at "rd"
    refine ⟨by omega,by omega,?_⟩
    refine aP (fun i ρ M'=>M'=M∧∃ y:Option L3.D,ρ= [some (.tup xs),some (.tup xs),y]) _ ?_ ?_ ⟨rfl,_,rfl⟩
    ·rintro i x ρ M' Nx xW ⟨rfl,y,rfl⟩ hN
     obtain ⟨hi,rfl⟩:=cg xW
     have hi:i < xs.length:=by simpa using hi
     have gx:xs[i]?=some xs[i]:=Y7 hi
     have rK:qp 3 xs[i]=true:=Zw.mp hx _ (Z4 hi)
     refine ⟨trivial,?_⟩
     walk_at "rd"
     refine ⟨_,_,xs[i],.inl rfl,rfl,bU gx,?_⟩
     walk_at "rd"
     refine ⟨_,_,xs[i],.inl rfl,rfl,bU gx,?_⟩
     walk_at "rd"
     refine ⟨.inl ⟨rfl,rK⟩,?_⟩
     walk_at "rd"
     exact hN _ _ ⟨rfl,_,rfl⟩
    ·rintro ρ M' ⟨rfl,y,rfl⟩
     refine ⟨trivial,?_⟩
     walk_at "rd"
     exact aU.mk ⟨_,Le.refl _,h⟩
  | _=>cases ha
 ·walk_at "rd"
  refine ⟨_,_,_,false,rfl,.lst hg,by rfl,?_⟩
  walk_at "rd"
  refine ⟨_,_,_,false,rfl,.lst hg,by rfl,?_⟩
  walk_at "rd"
  refine ⟨_,_,_,false,rfl,.lst hf,by rfl,?_⟩
  walk_at "rd"
  refine ⟨_,_,_,false,rfl,.lst hg,by rfl,?_⟩
  walk_at "rd"
  refine ⟨_,_,_,true,rfl,.lst hf,bZ,?_⟩
  walk_at "rd"
  refine ⟨_,_,_,true,rfl,.lst hg,bZ,?_⟩
  walk_at "rd"
  refine ⟨_,_,rfl,.inr (.inr ⟨f,rfl,hf⟩),?_⟩
  walk_at "rd"
  refine ⟨_,_,rfl,.inr (.inr ⟨g,rfl,hg⟩),?_⟩
  walk_at "rd"
  rw [ia]
  refine br (fun z=>absurd rfl (of_decide_eq_true z)) (fun _=>?_)
  walk_at "rd"
  refine ⟨_,_,rfl,.inr (.inr ⟨g,rfl,hg⟩),?_⟩
  refine ⟨_,rfl,by omega,by omega,?_⟩
  refine aP (fun i ρ M'=>M'=M∧∃ y:Option L3.D,ρ= [some (.ref f),some (.ref g),y]) _ ?_ ?_ ⟨rfl,_,rfl⟩
  ·rintro i x ρ M' Nx xW ⟨rfl,y,rfl⟩ hN
   obtain ⟨hi,rfl⟩:=cg xW
   have hi:i < xs.length:=by simpa using hi
   have gx:xs[i]?=some xs[i]:=Y7 hi
   have rK:qp 3 xs[i]=true:=Zw.mp hx _ (Z4 hi)
   refine ⟨trivial,?_⟩
   walk_at "rd"
   refine ⟨_,_,xs[i],.inr (.inr ⟨f,rfl,hf⟩),rfl,bU gx,?_⟩
   walk_at "rd"
   refine ⟨_,_,xs[i],.inr (.inr ⟨g,rfl,hg⟩),rfl,bU gx,?_⟩
   walk_at "rd"
   refine ⟨.inl ⟨rfl,rK⟩,?_⟩
   walk_at "rd"
   exact hN _ _ ⟨rfl,_,rfl⟩
  ·rintro ρ M' ⟨rfl,y,rfl⟩
   refine ⟨trivial,?_⟩
   walk_at "rd"
   exact aU.mk ⟨_,Le.refl _,h⟩
def AD:pK:=pC
theorem xZ (T:Txt K mg t):bS P w K mg base eZ 4 t.cX t.cI ["_law_found","_law_due"] (pU K AD):=ug T
theorem pF (T:Txt K mg t):Binds K t.jj ["a","b","c"] []:=T.gM.binds fun _ _ _ _ _ _ us hl=>match us,hl with | [_,_,_],_=>rfl
def x6:uq:=fun ds Q=> ∃ a b c:Pl,ds= [a.d,b.d,c.d]∧a.Ok 140∧b.Ok 140∧c.Ok 140∧tw a b c≠0∧Q (tD (G2 a b c))
theorem pG (T:Txt K mg t):bS P w K mg base eZ 3 t.kc t.jj ["a","b","c"] (tT K x6):=by
 refine ym T.gM o5 (fun ds Q h=>by (first | (obtain ⟨_,rfl,_⟩:=h;rfl) | (obtain ⟨_,_,rfl,_⟩:=h;rfl) | (obtain ⟨_,_,_,rfl,_⟩:=h;rfl) | (obtain ⟨_,_,_,_,rfl,_⟩:=h;rfl) | (obtain ⟨_,_,_,_,_,rfl,_⟩:=h;rfl) | (obtain ⟨_,_,_,_,_,_,rfl,_⟩:=h;rfl) | (obtain ⟨_,_,_,_,_,_,_,rfl,_⟩:=h;rfl))) (fun cdv A outer s H hr=>?_)
 have hu:=hr.units
 refine ⟨_,(aq (aS (i:=3) o5.nd rfl (Or.inl rfl) (aR nZ (by rfl) T.eW cF (af (cR (af (aa 0) (af (aa 1) (af (aa 2) aj)))) aj)))
  (aq (bI (aJ (e9 hu) (aF (mX T) (hr.mono (by decide)) (by rfl) T.qF T.mO.kp (mW T) (af (aO (aa 3) ai) (af (aO (aa 3) ai) (af (aO (aa 3) ai) aj)))) ai (aC _)) (aA (aD (cL (af (aO (aa 3) ai) (af (aO (aa 3) ai) (af (aO (aa 3) ai) aj)))))) aT)
  (aA (aD (cL (af (aO (aa 3) ai) (af (aO (aa 3) ai) (af (aO (aa 3) ai) aj)))))))),fun ds Q h=>?_⟩
 obtain ⟨a,b,c,rfl,ha,hb,hc,hn,h⟩:=h
 walk_at "rd"
 intro l hl
 refine ⟨l,[a,b,c],rfl,ah,by show 3 < 64;decide,fun p qs hp bG iE=>?_⟩
 obtain ⟨u,v,w,rfl⟩:=n9 bG.length_eq
 obtain ⟨ou,ov,ow⟩:=uT bG ha hb hc
 rw [Cs hn bG iE] at h
 walk_at "rd"
 refine ⟨_,_,_,.inr (.inr ⟨p,rfl,ah⟩),rfl,rfl,?_⟩
 walk_at "rd"
 refine ⟨_,_,_,.inr (.inr ⟨p,rfl,ah⟩),rfl,rfl,?_⟩
 walk_at "rd"
 refine ⟨_,_,_,.inr (.inr ⟨p,rfl,ah⟩),rfl,rfl,?_⟩
 walk_at "rd"
 refine ⟨ou,ov,ow,?_⟩
 walk_at "rd"
 refine br (fun k=>?_) (fun k=>?_)
 ·rw [if_pos (Mq k)] at h
  walk_at "rd"
  refine ⟨_,_,_,.inr (.inr ⟨p,rfl,ah⟩),rfl,rfl,?_⟩
  walk_at "rd"
  refine ⟨_,_,_,.inr (.inr ⟨p,rfl,ah⟩),rfl,rfl,?_⟩
  walk_at "rd"
  refine ⟨_,_,_,.inr (.inr ⟨p,rfl,ah⟩),rfl,rfl,?_⟩
  walk_at "rd"
  exact h
 ·rw [if_neg (JC k)] at h
  walk_at "rd"
  refine ⟨_,_,_,.inr (.inr ⟨p,rfl,ah⟩),rfl,rfl,?_⟩
  walk_at "rd"
  refine ⟨_,_,_,.inr (.inr ⟨p,rfl,ah⟩),rfl,rfl,?_⟩
  walk_at "rd"
  refine ⟨_,_,_,.inr (.inr ⟨p,rfl,ah⟩),rfl,rfl,?_⟩
  walk_at "rd"
  exact h
theorem Im (T:Txt K mg t):Binds K t.vM ["places"] []:=T.Aj.binds fun _ _ _ _ _ _ us hl=>match us,hl with | [_],_=>rfl
theorem Eo {w:List Pl}:∀ {as bs:List Pl},w∈List.zipWith (fun p q=>[p,q]) as bs→∃ a∈as,∃ b∈bs,w= [a,b]
 | [],_,h=>by simp at h
 | a :: as,[],h=>by simp at h
 | a :: as,b :: bs,h=>by
   rw [abF] at h
   rcases Y6.mp h with h | h
   ·exact ⟨a,by simp,b,by simp,h⟩
   ·obtain ⟨x,hx,y,hy,e⟩:=Eo h
    exact ⟨x,Y5 _ hx,y,Y5 _ hy,e⟩
theorem BX {qs:List Pl} {q:Pl} (h:q∈b8 qs):q∈qs:=by
 unfold b8 at h
 split at h
 ·exact h
 ·rcases Zq.mp h with h | h
  ·exact rZ qs q (ZR.mp (abP _ h))
  ·exact ZR.mp (rZ _ q (ZR.mp (abP _ h)))
theorem FG {qs w:List Pl} (h:w∈bx (b8 qs)):∃ a b,w= [a,b]∧a∈qs∧b∈qs:=by
 unfold bx at h
 split at h
 ·cases h
 ·obtain ⟨a,ha,b,hb,e⟩:=Eo h
  refine ⟨a,b,e,BX ha,BX ?_⟩
  rcases Zq.mp hb with hb | hb
  ·exact abO hb
  ·exact ZZ hb
theorem Df (qs:List Pl):(bx (b8 qs)).length≤2*qs.length:=by
 have l1:=eS qs
 have l2:=eS qs.reverse
 rw [Zu] at l2
 have:(b8 qs).length≤2*qs.length:=by
  unfold b8
  split
  ·omega
  ·rw [Zh,ZT,ZT,Zu,Zu]
   omega
 unfold bx
 split
 ·exact Z3 _
 ·rw [aaS]
  omega
theorem FH {α:Type} {f:α→List Pl} {xs:List α} {i:Nat} {x:α} (h:xs[i]?=some x):(xs.take (i+1)).map f=(xs.take i).map f ++ [f x]:=by
 rw [Z7,h,Zn]
 rfl
def Kp:pK:=fun ds M Q=> ∃ l:Addr,ds= [.ref l]∧∃ ps:List Pl,M l=some (.lst (ps.map Pl.d))∧ps.Nodup∧ps.length≤16∧(∀ q∈ps,q.Ok 140)∧∀ (p:Addr) (qs:List Pl) (ts:List (List Pl)),M p=none→qs.Perm ps→dZ qs→ts.Perm (lV qs qs.length)→ts.Pairwise (fun a b=>dc b a=false)→Q (.ref p) (aE M p (.lst (ts.map tD)))
theorem Io (T:Txt K mg t):bS P w K mg base eZ 6 t.zZ t.vM ["places"] (pU K Kp):=by
 refine rM T.Aj kQ (fun ds M Q h=>by (first | (obtain ⟨_,rfl,_⟩:=h;rfl) | (obtain ⟨_,_,rfl,_⟩:=h;rfl) | (obtain ⟨_,_,_,rfl,_⟩:=h;rfl) | (obtain ⟨_,_,_,_,rfl,_⟩:=h;rfl) | (obtain ⟨_,_,_,_,_,rfl,_⟩:=h;rfl) | (obtain ⟨_,_,_,_,_,_,rfl,_⟩:=h;rfl) | (obtain ⟨_,_,_,_,_,_,_,rfl,_⟩:=h;rfl))) (fun cdv A outer s H hr=>?_)
 have hu:=hr.units
 refine ⟨_,(aq (aS (i:=1) kQ.nd rfl (Or.inl rfl) (aR nZ (by rfl) T.eW cF (af (aa 0) aj)))
  (aq (aS (i:=2) kQ.nd rfl (Or.inl rfl) (cR aj))
  (aq (gv PassesOwn.never rfl (by rfl) T.dh (af (aR eE (by rfl) T.cN bf (af (aa 1) aj)) aj) (bW (i:=3) kQ.nd rfl (Or.inl rfl)) (aq (aS (i:=4) kQ.nd rfl (Or.inr rfl) (aO (aa 1) (aa 3)))
  (aq (GU (j:=5) (kK (ys:=["p"]) (fs:=[4]) rfl (by show cU (ay pH) ["places","line","cover","k","p","seen"] _ _ _ _=true;decide +kernel) (bD (kT T) (hr.mono (by decide)) (by rfl) T.m6 T.fB.kp (kR T) (af (ff (aa 1) wU (jL (aa 3))) aj)) (fun cl C s0 H0 ex=>tF (aJ (e9 hu) (aF (mX T) (hr.mono (by decide)) (by rfl) T.qF T.mO.kp (mW T) (af (aO (aa 0) ai) (af (aO (aa 0) ai) (af (aa 1) aj)))) (nQ ai) (aC _))) (fun cl C s0 H0 ex=>(aa 0))) kQ.nd rfl (Or.inl rfl))
  (aA (nV (KR (aa 2) (Be (kK (ys:=["p"]) (fs:=[4]) rfl (by show cU (ay pH) ["places","line","cover","k","p","seen"] _ _ _ _=true;decide +kernel) (aa 5) (fun cl C s0 H0 ex=>Bc) (fun cl C s0 H0 ex=>(aF (pG T) (hr.mono (by decide)) (by rfl) T.qb T.gM.kp (pF T) (af (aO (aa 0) ai) (af (aO (aa 0) ai) (af (aa 1) aj))))))) (sW PySem.F.plainAttrs_list PySem.F.slot_list_extend PySem.F.type_list_extend yg (cK.dn (aa 2)) (iG (cK.dn (Be (kK (ys:=["p"]) (fs:=[4]) rfl (by show cU (ay pH) ["places","line","cover","k","p","seen"] _ _ _ _=true;decide +kernel) (aa 5) (fun cl C s0 H0 ex=>Bc) (fun cl C s0 H0 ex=>(aF (pG T) (hr.mono (by decide)) (by rfl) T.qb T.gM.kp (pF T) (af (aO (aa 0) ai) (af (aO (aa 0) ai) (af (aa 1) aj)))))))) lD))))))))
  (aA (aD (aR (rW (n:=3) (.inr rfl) hu) (by rfl) T.eW cF (af (aa 2) aj))))))),fun ds M Q h=>?_⟩
 obtain ⟨l,rfl,ps,hM,nd,VU,ho,h⟩:=h
 have sl:(1000:Nat) < sizeLine:=by decide
 walk_at "rd"
 refine ⟨l,ps,rfl,hM,by omega,fun a qs ha bG iE=>?_⟩
 have VV:qs.Nodup:=bG.nodup_iff.mpr nd
 have strict:=E7 iE VV
 have oq:∀ q∈qs,q.Ok 140:=fun q hq=>ho q (bG.mem_iff.mp hq)
 have lq:qs.length≤16:=by rw [bG.length_eq];exact VU
 have uz:dZ qs:=⟨strict,fun q hq=>(oq q hq).2⟩
 have hA:aE M a (.lst (qs.map Pl.d)) a=some (.lst (qs.map Pl.d)):=ah
 have le:=Le.new (o:=MO.lst (qs.map Pl.d)) ha
 generalize aE M a (.lst (qs.map Pl.d))=M1 at hA le ⊢
 walk_at "rd"
 intro b hb
 have nb:M b=none:=le.free hb
 have nab:a≠b:=fun z=>by rw [← z,hA] at hb;cases hb
 have hA:=ao (u:=MO.lst []) hA hb
 have le:=le.trans (Le.new (o:=MO.lst []) hb)
 have hB:aE M1 b (.lst []) b=some (.lst []):=ah
 generalize aE M1 b (.lst [])=M2 at hA hB le ⊢
 walk_at "rd"
 refine ⟨_,_,rfl,.inr (.inr ⟨a,rfl,hA⟩),?_⟩
 rw [Y4]
 walk_at "rd"
 refine ⟨by omega,by omega,?_⟩
 refine aP (fun i ρ M'=> ∃ (y1 y2 y3:Option L3.D),ρ= [some (.ref l),some (.ref a),some (.ref b),y1,y2,y3]∧Le M M'∧M' a=some (.lst (qs.map Pl.d))∧M' b=some (.lst ((lV qs i).map tD))) _ ?_ ?_ ⟨_,_,_,rfl,le,hA,hB⟩
 ·rintro i v ρ M' N xW ⟨y1,y2,y3,rfl,le,hA,hB⟩ hN
  obtain ⟨hi,rfl⟩:=cg xW
  have hi:i < qs.length:=by omega
  obtain ⟨p,hp⟩:∃ p,qs[i]?=some p:=⟨qs[i],Y7 hi⟩
  have mp:=Y9 hp
  have ep:p=cH qs i:=by unfold cH;rw [Zd,hp];rfl
  have lc:=zM uz i (by omega)
  refine ⟨trivial,?_⟩
  walk_at "rd"
  refine ⟨_,_,_,.inr (.inr ⟨a,rfl,hA⟩),rfl,bU (by rw [ZI,hp];rfl),?_⟩
  walk_at "rd"
  refine ⟨_,.of hA,fun c hc=>?_⟩
  have ec:cutD (qs.map Pl.d) none (some (i:Int))=(qs.take i).map Pl.d:=oz Pl.d qs i (by omega)
  rw [ec]
  have hA:=ao (u:=MO.lst ((qs.take i).map Pl.d)) hA hc
  have hB:=ao (u:=MO.lst ((qs.take i).map Pl.d)) hB hc
  have le:=le.trans (Le.new (o:=MO.lst ((qs.take i).map Pl.d)) hc)
  have hC:aE M' c (.lst ((qs.take i).map Pl.d)) c=some (.lst ((qs.take i).map Pl.d)):=ah
  generalize aE M' c (.lst ((qs.take i).map Pl.d))=M3 at hA hB hC le ⊢
  walk_at "rd"
  refine ⟨c,qs.take i,rfl,hC,by rw [ZO];omega,fun q hq=>oq q (ZZ hq),fun d us hd wJ Ng=>?_⟩
  obtain rfl:=vm wJ Ng (iE.sublist (aaY _ _))
  have hW:∀ w∈bx (b8 (qs.take i)),∃ x y,w= [x,y]∧x∈qs∧y∈qs:=fun w hw=>by
   obtain ⟨x,y,e,hx,hy⟩:=FG hw
   exact ⟨x,y,e,ZZ hx,ZZ hy⟩
  have lw:=Df (qs.take i)
  rw [ZO] at lw
  have lw:(bx (b8 (qs.take i))).length≤32:=by omega
  obtain ⟨ws,Ue⟩:∃ ws,SL (qs.take i)=ws:=⟨_,rfl⟩
  rw [show bx (b8 (qs.take i))=ws from Ue] at hW lw ⊢
  have hA:=ao (u:=MO.lst (ws.map tD)) hA hd
  have hB:=ao (u:=MO.lst (ws.map tD)) hB hd
  have le:=le.trans (Le.new (o:=MO.lst (ws.map tD)) hd)
  have hD:aE M3 d (.lst (ws.map tD)) d=some (.lst (ws.map tD)):=ah
  generalize aE M3 d (.lst (ws.map tD))=M4 at hA hB hD le ⊢
  refine ⟨d,_,rfl,hD,by rw [Y4];omega,aU.mk (c9 (fun j acc M5=>M5=M4∧acc=((ws.take j).filter (B0 p)).map tD) _ ?_ ?_ ⟨rfl,rfl⟩)⟩
  ·rintro j v acc M5 N2 rK ⟨rfl,rfl⟩ AL
   obtain ⟨w',hw,rfl⟩:=fW rK
   obtain ⟨x,y,rfl,mx,my⟩:=hW w' (Y9 hw)
   refine ⟨hD,?_⟩
   refine ⟨_,rfl,?_⟩
   refine ⟨_,_,_,Or.inl rfl,rfl,rfl,?_⟩
   refine ⟨_,rfl,?_⟩
   refine ⟨_,_,_,Or.inl rfl,rfl,rfl,?_⟩
   walk_at "rd"
   refine ⟨oq x mx,oq y my,oq p mp,?_⟩
   walk_at "rd"
   rw [c6]
   refine br (fun k=>?_) (fun k=>?_)
   ·have k:tw x y p < 0:=abe.mp (eq_of_beq k)
    walk_at "rd"
    refine AL _ _ ⟨rfl,?_⟩
    rw [cG hw,if_pos (show B0 p [x,y]=true from decide_eq_true k),Zn]
    rfl
   ·have k:¬ tw x y p < 0:=fun z=>k (by rw [aai z];rfl)
    refine AL _ _ ⟨rfl,?_⟩
    rw [cG hw,if_neg (fun z:B0 p [x,y]=true=>k (of_decide_eq_true z)),Z2]
  ·rintro acc M5 ⟨rfl,rfl⟩
   refine ⟨hD,fun f hf=>?_⟩
   rw [Y4,ZE]
   have hS:∀ w∈ws.filter (B0 p),∃ x y,w= [x,y]∧x∈qs∧y∈qs∧tw x y p < 0:=fun w hw=>by
    obtain ⟨hw,sw⟩:=Zf.mp hw
    obtain ⟨x,y,rfl,mx,my⟩:=hW w hw
    exact ⟨x,y,rfl,mx,my,of_decide_eq_true sw⟩
   have ls:(ws.filter (B0 p)).length≤32:=aae (aaI _ _) lw
   obtain ⟨ss,Ug⟩:∃ ss,ws.filter (B0 p)=ss:=⟨_,rfl⟩
   rw [Ug] at hS ls ⊢
   have hA:=ao (u:=MO.lst (ss.map tD)) hA hf
   have hB:=ao (u:=MO.lst (ss.map tD)) hB hf
   have le:=le.trans (Le.new (o:=MO.lst (ss.map tD)) hf)
   have hF:aE M5 f (.lst (ss.map tD)) f=some (.lst (ss.map tD)):=ah
   generalize aE M5 f (.lst (ss.map tD))=M6 at hA hB hF le ⊢
   walk_at "rd"
   refine ⟨⟨b,_,rfl,hB⟩,?_⟩
   walk_at "rd"
   refine ⟨f,_,rfl,hF,by rw [Y4];omega,aU.mk (c9 (fun j acc M5=>M5=M6∧acc=((ss.take j).map (BA p)).map tD) _ ?_ ?_ ⟨rfl,rfl⟩)⟩
   ·rintro j v acc M5 N2 rK ⟨rfl,rfl⟩ AL
    obtain ⟨w',hw,rfl⟩:=fW rK
    obtain ⟨x,y,rfl,mx,my,sx⟩:=hS w' (Y9 hw)
    refine ⟨hF,?_⟩
    walk_at "rd"
    refine ⟨oq x mx,oq y my,oq p mp,by omega,?_⟩
    walk_at "rd"
    refine AL _ _ ⟨rfl,?_⟩
    rw [FH hw,Zn]
    rfl
   ·rintro acc M5 ⟨rfl,rfl⟩
    refine ⟨hF,fun g hg=>?_⟩
    rw [Y4,ZE]
    have XE:b≠g:=fun z=>by rw [z,hg] at hB;cases hB
    refine ⟨b,g,_,_,rfl,rfl,ao hB hg,ah,by rw [Y4,Y4,Y4];omega,?_⟩
    rw [← Zn]
    have en:lV qs (i+1)=lV qs i ++ ss.map (BA p):=by
     show lV qs i ++ (cM (qs.take i) (cH qs i)).map (BA (cH qs i))=_
     rw [← ep]
     unfold cM
     rw [Ue,Ug]
    rw [← en]
    refine hN _ _ ⟨_,_,_,rfl,fun x o e=>?_,?_,ah⟩
    ·rw [bg (fun z=>by rw [z,nb] at e;cases e)]
     exact ao (le _ _ e) hg
    ·rw [bg nab]
     exact ao hA hg
 ·rintro ρ M' ⟨y1,y2,y3,rfl,le,hA,hB⟩
  refine ⟨trivial,?_⟩
  rw [Y4,aaG,show ((qs.length:Int)).toNat=qs.length by omega] at hB
  have lc:=zM uz qs.length (Zb _)
  walk_at "rd"
  refine ⟨b,_,rfl,hB,fun t ht=>?_,by omega,fun g rs hg AE Nh=>?_⟩
  ·obtain ⟨⟨u,v,w,e,_⟩,_⟩:=zN uz qs.length (Zb _) t ht
   rw [e]
   rfl
  exact aU.mk ⟨_,le.put,h g qs rs (le.free hg) bG uz AE Nh⟩
theorem x8 (T:Txt K mg t):Binds K t.kg ["_law_cover_here","_law_net_here","_law_places_here"] []:=T.mU.binds fun _ _ _ _ _ _ us hl=>match us,hl with | [_,_,_],_=>rfl
def AF:pK:=fun ds M Q=> ∃ c n l:Addr,ds= [.ref c,.ref n,.ref l]∧∃ (ts ns:List (List Pl)) (ps:List Pl),M c=some (.lst (ts.map tD))∧M n=some (.lst (ns.map tD))∧M l=some (.lst (ps.map Pl.d))∧(∀ t∈ts,jr ps t)∧(∀ t,t∈ns↔jr ps t∧Eg ps t)∧(∀ q∈ps,q.Ok 140)∧ps.length≤40∧∀ sp,Hx ts ps sp→Q (oS sp) M
theorem x9 (T:Txt K mg t):bS P w K mg base eZ 4 t.mE t.kg ["_law_cover_here","_law_net_here","_law_places_here"] (pU K AF):=by
 refine rM T.mU qe (fun ds M Q h=>by (first | (obtain ⟨_,rfl,_⟩:=h;rfl) | (obtain ⟨_,_,rfl,_⟩:=h;rfl) | (obtain ⟨_,_,_,rfl,_⟩:=h;rfl) | (obtain ⟨_,_,_,_,rfl,_⟩:=h;rfl) | (obtain ⟨_,_,_,_,_,rfl,_⟩:=h;rfl) | (obtain ⟨_,_,_,_,_,_,rfl,_⟩:=h;rfl) | (obtain ⟨_,_,_,_,_,_,_,rfl,_⟩:=h;rfl))) (fun cdv A outer s H hr=>?_)
 have hu:=hr.units
 refine ⟨_,(aq (iU PassesOwn.never rfl (aa 0) (bW (i:=3) qe.nd rfl (Or.inr rfl)) (aA (bI (aJ (iI hu) (aa 3) (aa 1) (by with_unfolding_all rfl)) (aA (aD (cL (af uG (af (aa 3) (af (aR (Cy hu rfl) (by rfl) T.oW iP (af (Be (kK (ys:=["_law_t"]) (fs:=[3]) rfl (by show cU (ay iF) ["_law_cover_here","_law_net_here","_law_places_here","_law_t"] _ _ _ _=true;decide +kernel) (aa 2) (fun cl C s0 H0 ex=>tF (gj (aF (o9 T) (hr.mono (by decide)) (by rfl) T.qa T.gK.kp (o8 T) (af (aa 1) (af (aa 0) aj))))) (fun cl C s0 H0 ex=>(aa 0)))) aj)) aj)))))) aT)))
  (aA (aD cZ))),fun ds M Q h=>?_⟩
 obtain ⟨c,n,l,rfl,ts,ns,ps,hC,VW,hM,hT,hmem,ho,lp,h⟩:=h
 have sl:(1000:Nat) < sizeLine:=by decide
 walk_at "rd"
 refine ⟨c,_,rfl,hC,?_⟩
 refine aP (fun i ρ M'=>M'=M∧(∃ y,ρ= [some (.ref c),some (.ref n),some (.ref l),y])∧∀ (j:Nat) (u:List Pl),j < i→ts[j]?=some u→¬ ∃ d∈ps,se u d) _ ?_ ?_ ⟨rfl,⟨_,rfl⟩,fun j u hj=>by omega⟩
 ·rintro i x ρ M' N hx ⟨rfl,⟨y,rfl⟩,hn⟩ hN
  obtain ⟨t,ht,rfl⟩:=fW hx
  have mt:=Y9 ht
  have Uh:=hT t mt
  refine ⟨hC,?_⟩
  walk_at "rd"
  refine ⟨_,.inr ⟨n,rfl,VW⟩,sj t,cD ns,?_⟩
  walk_at "rd"
  rw [q8,if_pos rfl]
  by_cases Kv:t∈ns
  ·rw [decide_eq_true Kv]
   walk_at "rd"
   refine hN _ _ ⟨rfl,⟨_,rfl⟩,fun j u hj kE=>?_⟩
   by_cases e:j=i
   ·subst e
    rw [ht] at kE
    obtain rfl:=Option.some.inj kE
    rintro ⟨d,hd,sp⟩
    exact ((hmem t).mp Kv).2 d hd sp
   ·exact hn j u (by omega) kE
  rw [decide_eq_false Kv]
  have ex:∃ d∈ps,se t d:=by
   apply Y3
   intro z
   exact Kv ((hmem t).mpr ⟨Uh,fun d hd sp=>z ⟨d,hd,sp⟩⟩)
  obtain ⟨a,b,c',et,p,ha,hb,hc,_⟩:=Uh.parts
  walk_at "rd"
  refine ⟨l,_,rfl,hM,by rw [Y4];omega,aU.mk (c9 (fun j acc M5=>M5=M'∧∃ qs:List Pl,acc=qs.map Pl.d∧qs.length≤j∧∀ d,d∈qs↔d∈ps.take j∧se t d) _ ?_ ?_ ⟨rfl,[],rfl,Zb _,by simp⟩)⟩
  ·rintro j x acc M5 N2 rK ⟨rfl,qs,rfl,lq,hq⟩ AL
   obtain ⟨d,hd,rfl⟩:=lQ rK
   have md:=Y9 hd
   refine ⟨hM,?_⟩
   have tk:∀ e,e∈ps.take (j+1)↔e∈ps.take j∨e=d:=fun e=>by
    rw [Z7,hd,Zq]
    simp
   subst et
   walk_at "rd"
   refine ⟨ho a ha,ho b hb,ho c' hc,ho d md,by omega,fun r hr=>?_⟩
   cases r with
   | true=>
     walk_at "rd"
     refine AL _ _ ⟨rfl,qs ++ [d],by rw [Zn];rfl,by rw [Zh];simp;omega,fun e=>?_⟩
     rw [Zq,tk,Y8,hq]
     have sd:se [a,b,c'] d:=hr.mp rfl
     constructor
     ·rintro (⟨h1,h2⟩ | rfl)
      ·exact ⟨.inl h1,h2⟩
      ·exact ⟨.inr rfl,sd⟩
     ·rintro ⟨h1 | h1,h2⟩
      ·exact .inl ⟨h1,h2⟩
      ·exact .inr h1
   | false=>
     walk_at "rd"
     refine AL _ _ ⟨rfl,qs,rfl,by omega,fun e=>?_⟩
     rw [tk,hq]
     have sd:¬ se [a,b,c'] d:=fun z=>by cases hr.mpr z
     constructor
     ·rintro ⟨h1,h2⟩
      exact ⟨.inl h1,h2⟩
     ·rintro ⟨h1 | h1,h2⟩
      ·exact ⟨h1,h2⟩
      ·rw [h1] at h2;exact absurd h2 sd
  rintro acc M5 ⟨rfl,qs,rfl,lq,hq⟩
  rw [Y4,ZE] at hq
  refine ⟨hM,fun r hr=>?_⟩
  walk_at "rd"
  refine ⟨r,qs,rfl,ah,fun z=>?_,fun d hd hmin=>?_⟩
  ·obtain ⟨d,hd,sp⟩:=ex
   have:=(hq d).mpr ⟨hd,sp⟩
   rw [z] at this
   cases this
  walk_at "rd"
  refine aU.mk ⟨_,Le.new hr,h (some (t,d)) ⟨⟨i,ht,ex,hn⟩,(hq d).mp hd,fun z hz=>hmin z ((hq z).mpr hz)⟩⟩
 ·rintro ρ M' ⟨rfl,⟨y,rfl⟩,hn⟩
  refine ⟨hC,?_⟩
  rw [Y4] at hn
  walk_at "rd"
  refine aU.mk ⟨_,Le.refl _,h none fun t ht d hd sp=>?_⟩
  obtain ⟨i,hi⟩:=List.getElem?_of_mem ht
  exact hn i t (Ze.mp hi).1 hi ⟨d,hd,sp⟩
theorem SY (T:Txt K mg t):Binds K t.C3 ["_law_script"] []:=T.K2.binds fun _ _ _ _ _ _ us hl=>match us,hl with | [_],_=>rfl
abbrev Ip:=GW
theorem FI {us vs:List (List Pl)} (h:wD us vs):vs=us∨∃ a b c d,P4 us vs a b c d:=by
 rcases h with rfl | ⟨a,b,c,d,p1,p2,m1,m2,cv,hp⟩
 ·exact .inl rfl
 ·obtain ⟨q1,q2⟩:=wC p1 p2 cv
  exact .inr ⟨a,b,c,d,laid a b c,laid b a d,laid a d c,laid b c d,m1,m2,gX a b c,gX b a d,gX a d c,gX b c d,(gi q1).1,(gi q2).1,cv,hp.trans Zz⟩
def Ep (Q:List Pl) (us:List (List Pl)):Prop:=iL Q us∧(Flat Q→us= [])∧(¬ Flat Q→Full Q us)
theorem Dg {Q:List Pl} {us vs:List (List Pl)} (h:Ep Q us) (f:wD us vs) (_:vs=us∨vs.Pairwise (fun p q=>dc q p=false)):Ep Q vs:=by
 rcases FI f with rfl | ⟨a,b,c,d,f⟩
 ·exact h
 have nf:¬ Flat Q:=fun fl=>by
  obtain ⟨t1,_,_,_,m1,_⟩:=f
  rw [h.2.1 fl] at m1
  cases m1
 exact ⟨f.SE h.1 nf,fun fl=>absurd fl nf,fun _=>f.full (h.2.2 nf)⟩
theorem Kq {qs ps:List Pl} {ts:List (List Pl)} (uz:dZ qs) (bG:qs.Perm ps) (NF:ts.Perm (lV qs qs.length)) (XF:ps.length≤12):Ep qs ts∧ts.length≤20:=by
 have Ui:∀ t∈ts,jr qs t:=fun t ht=>zN uz qs.length (Zb _) t (NF.mem_iff.mp ht)
 have fe:Flat qs→ts= []:=fun fl=>by
  cases e:ts with
  | nil=>rfl
  | cons t0 tr=>
    obtain ⟨u,v,w,et,pos,kE,hv',VX,_⟩:=(Ui t0 (by rw [e];simp)).parts
    have:=fl u kE v hv' w VX
    omega
 refine ⟨⟨⟨uz,zL.perm (by have:=D5 uz qs.length (Zb _);rw [ZE] at this;exact this) (List.Perm.flatMap_right _ NF),Ui⟩,fe,fun nf q hq=>?_⟩,?_⟩
 ·obtain ⟨t,ht,mq⟩:=vt uz qs.length (Zb _) (by rw [ZE];exact nf) q (by rw [ZE];exact hq)
  exact ⟨t,NF.mem_iff.mpr ht,mq⟩
 ·by_cases fl:Flat qs
  ·rw [fe fl];exact Z3 _
  ·have h2:2≤qs.length:=by
    apply Y3
    intro z
    exact fl (iZ (by omega))
   have c:=Fi uz h2
   have l2:=(tK uz h2).1
   rw [NF.length_eq]
   have:=bG.length_eq
   omega
theorem Hx.uniq {ts:List (List Pl)} {ps:List Pl} {r r':Option (List Pl ×Pl)} (h:Hx ts ps r) (h':Hx ts ps r'):r=r':=by
 match r,r',h,h' with
 | none,none,_,_=>rfl
 | none,some (t,d),h,h'=>
   obtain ⟨⟨i,hi,⟨e,he,sp⟩,_⟩,_⟩:=h'
   exact absurd sp (h t (Y9 hi) e he)
 | some (t,d),none,h,h'=>
   obtain ⟨⟨i,hi,⟨e,he,sp⟩,_⟩,_⟩:=h
   exact absurd sp (h' t (Y9 hi) e he)
 | some (t,d),some (t',d'),h,h'=>
   obtain rfl:t=t':=Option.some.inj (Fs.uniq h.1 h'.1 fun _ _=>Iff.rfl)
   obtain rfl:d=d':=Option.some.inj (wZ.uniq h.2 h'.2 fun _=>Iff.rfl)
   rfl
theorem Ni (T:Txt K mg t):bS P w K mg base eZ 9 t.Ib t.C3 ["_law_script"] (tT K Ip):=by
 refine ym T.K2 jq (fun ds Q h=>by (first | (obtain ⟨_,rfl,_⟩:=h;rfl) | (obtain ⟨_,_,rfl,_⟩:=h;rfl) | (obtain ⟨_,_,_,rfl,_⟩:=h;rfl) | (obtain ⟨_,_,_,_,rfl,_⟩:=h;rfl) | (obtain ⟨_,_,_,_,_,rfl,_⟩:=h;rfl) | (obtain ⟨_,_,_,_,_,_,rfl,_⟩:=h;rfl) | (obtain ⟨_,_,_,_,_,_,_,rfl,_⟩:=h;rfl))) (fun cdv A outer s H hr=>?_)
 have hu:=hr.units
 refine ⟨_,(aq (aS (i:=1) jq.nd rfl (Or.inl rfl) ai)
  (aq (O6 (aJ (e9 hu) (au bu (aF (bP T) (hr.mono (by decide)) (by rfl) T.cj T.bK.kp (bO T) (af (aa 0) (af ai aj))) ai) ai (aC _)) (aA (aS (i:=1) jq.nd rfl (Or.inl rfl) ai)))
  (aq (aS (i:=2) jq.nd rfl (Or.inl rfl) (bD (vX T) (hr.mono (by decide)) (by rfl) T.w6 T.kh.kp (vW T) (af (aa 0) (af (aa 1) aj))))
  (aq (aS (i:=3) jq.nd rfl (Or.inl rfl) (bD (BP T) (hr.mono (by decide)) (by rfl) T.C4 T.qE.kp (BN T) (af (aa 2) aj)))
  (aq (aS (i:=4) jq.nd rfl (Or.inl rfl) (au bu (aF (bP T) (hr.mono (by decide)) (by rfl) T.cj T.bK.kp (bO T) (af (aa 0) (af ai aj))) (au dQ (aR eE (by rfl) T.cN bf (af (aa 3) aj)) ai)))
  (aq (aS (i:=5) jq.nd rfl (Or.inl rfl) (cR (af (A4 uX (by rfl) T.dP bQ (af (aa 2) aj)) (af (au yx (ff (aa 3) (jL (aa 4)) wU) (ff (aa 3) wU (jL (aa 4)))) aj))))
  (aq (aS (i:=6) jq.nd rfl (Or.inl rfl) (bD (BS T) (hr.mono (by decide)) (by rfl) T.Em T.uA.kp (BR T) (af (aO (aa 5) ai) (af (aO (aa 5) ai) aj))))
  (aq (bI (qK.pt (tS (aJ qm (aa 6) cZ (aC _)) (nO (aJ (JW hu) (aa 5) (cR (af (aa 2) (af (au yx (ff (aa 3) (jL (aa 4)) wU) (ff (aa 3) wU (jL (aa 4)))) aj))) (aC _))))) (aA (aD iT)) aT)
  (aq (aS (i:=7) jq.nd rfl (Or.inl rfl) (bD (xY T) (hr.mono (by decide)) (by rfl) T.Ai T.mT.kp (xX T) (af (aa 0) (af ai (af (A4 uX (by rfl) T.dP bQ (af (bD (Io T) (hr.mono (by decide)) (by rfl) T.J8 T.Aj.kp (Im T) (af (A4 uX (by rfl) T.dP bQ (af (aa 2) aj)) aj)) aj)) aj)))))
  (aq (aS (i:=5) jq.nd rfl (Or.inl rfl) (cR (af (A4 uX (by rfl) T.dP bQ (af (aa 2) aj)) (af (A4 uX (by rfl) T.dP bQ (af (aa 7) aj)) aj))))
  (aq (aS (i:=6) jq.nd rfl (Or.inl rfl) (bD (BS T) (hr.mono (by decide)) (by rfl) T.Em T.uA.kp (BR T) (af (aO (aa 5) ai) (af (aO (aa 5) ai) aj))))
  (aA (aD (jt (fG (Jz hu) (aa 5) (cR (af (aa 2) (af (aa 7) aj))) (aC _)) (nP (bD (xZ T) (hr.mono (by decide)) (by rfl) T.gc T.cA.kp (fm T) (af (aa 6) (af (bD (x9 T) (hr.mono (by decide)) (by rfl) T.Ak T.mU.kp (x8 T) (af (aa 7) (af (aa 3) (af (aa 2) aj)))) aj)))))))))))))))))),fun ds Q h=>?_⟩
 obtain ⟨ns,rfl,hl,hb,h⟩:=h
 have sl:(1000:Nat) < sizeLine:=by decide
 walk_at "rd"
 refine ⟨fun ρ M'=>M'=Nr∧∃ m:Int,ρ= [some (.ze (ns.map L3.D.int)),some (.int m),none,none,none,none,none,none]∧0≤m∧m≤7,?_,?_⟩
 ·walk_at "rd"
  refine ⟨hb,hl,by decide,by decide,fun XG _=>?_⟩
  walk_at "rd"
  refine br (fun _=>?_) (fun _=>?_)
  ·walk_at "rd"
   exact aU.mk ⟨rfl,7,rfl,by decide,by decide⟩
  ·walk_at "rd"
   exact aU.mk ⟨rfl,6,rfl,by decide,by decide⟩
 rintro ρ M' ⟨rfl,m,rfl,m0,m7⟩
 walk_at "rd"
 refine ⟨hb,hl,m0,by omega,fun l ps XH nd ho hlen=>?_⟩
 have ya:∀ q∈ps,q.Ok 140:=fun q hq=>⟨(ho q hq).1.le (by decide),(ho q hq).2.le (by decide)⟩
 have l7:ps.length≤7:=by omega
 have hM:aE Nr l (.lst (ps.map Pl.d)) l=some (.lst (ps.map Pl.d)):=ah
 generalize aE Nr l (.lst (ps.map Pl.d))=M0 at hM ⊢
 walk_at "rd"
 refine ⟨ps,hM,nd,l7,ya,fun n nt hn SJ Fw XI ln=>?_⟩
 have hN:aE M0 n (.lst (nt.map tD)) n=some (.lst (nt.map tD)):=ah
 have hM:=ao (u:=MO.lst (nt.map tD)) hM hn
 generalize aE M0 n (.lst (nt.map tD))=M1 at hM hN ⊢
 walk_at "rd"
 refine ⟨hb,hl,by decide,by decide,fun QH _=>?_⟩
 walk_at "rd"
 refine ⟨_,_,rfl,.inr (.inr ⟨n,rfl,hN⟩),?_⟩
 rw [Y4]
 walk_at "rd"
 have c0:0≤QH % ((nt.length:Int)+1):=ZG _ (by omega)
 have c1:QH % ((nt.length:Int)+1) < (nt.length:Int)+1:=ZD _ (by omega)
 dsimp only
 obtain ⟨k,hk⟩:∃ k:Nat,QH % ((nt.length:Int)+1)=(k:Int):=⟨(QH % ((nt.length:Int)+1)).toNat,by omega⟩
 rw [hk]
 have lk:k≤nt.length:=by omega
 walk_at "rd"
 refine ⟨_,_,rfl,.of hM,fun l3 hl3=>?_⟩
 have n1:l3≠l:=fun z=>by rw [z,hM] at hl3;cases hl3
 have uh:aE M1 l3 (.lst (ps.map Pl.d)) l3=some (.lst (ps.map Pl.d)):=ah
 have hM:=ao (u:=MO.lst (ps.map Pl.d)) hM hl3
 have hN:=ao (u:=MO.lst (ps.map Pl.d)) hN hl3
 generalize aE M1 l3 (.lst (ps.map Pl.d))=M2 at hM hN uh ⊢
 walk_at "rd"
 refine ⟨_,.of hN,fun s1 hs1=>?_⟩
 rw [uZ tD nt k lk]
 have NG:aE M2 s1 (.lst ((nt.drop k).map tD)) s1=some (.lst ((nt.drop k).map tD)):=ah
 have hM:=ao (u:=MO.lst ((nt.drop k).map tD)) hM hs1
 have hN:=ao (u:=MO.lst ((nt.drop k).map tD)) hN hs1
 have uh:=ao (u:=MO.lst ((nt.drop k).map tD)) uh hs1
 generalize aE M2 s1 (.lst ((nt.drop k).map tD))=M3 at hM hN uh NG ⊢
 walk_at "rd"
 refine ⟨_,.of hN,fun s2 hs2=>?_⟩
 rw [oz tD nt k lk]
 have S0:aE M3 s2 (.lst ((nt.take k).map tD)) s2=some (.lst ((nt.take k).map tD)):=ah
 have hM:=ao (u:=MO.lst ((nt.take k).map tD)) hM hs2
 have hN:=ao (u:=MO.lst ((nt.take k).map tD)) hN hs2
 have uh:=ao (u:=MO.lst ((nt.take k).map tD)) uh hs2
 have NG:=ao (u:=MO.lst ((nt.take k).map tD)) NG hs2
 generalize aE M3 s2 (.lst ((nt.take k).map tD))=M4 at hM hN uh NG S0 ⊢
 walk_at "rd"
 refine ⟨s1,s2,_,_,rfl,rfl,NG,S0,by rw [Y4,Y4,aah,ZO];omega,fun u kE=>?_⟩
 rw [← Zn]
 have rp:(nt.drop k ++ nt.take k).Perm nt:=Zz.trans (by rw [List.take_append_drop])
 generalize er:nt.drop k ++ nt.take k=rt at rp ⊢
 have lr:rt.length≤40:=by rw [rp.length_eq];exact ln
 have hU:aE M4 u (.lst (rt.map tD)) u=some (.lst (rt.map tD)):=ah
 have hM:=ao (u:=MO.lst (rt.map tD)) hM kE
 have hN:=ao (u:=MO.lst (rt.map tD)) hN kE
 have uh:=ao (u:=MO.lst (rt.map tD)) uh kE
 generalize aE M4 u (.lst (rt.map tD))=M5 at hM hN uh hU ⊢
 walk_at "rd"
 intro g hg
 have hG:aE M5 g (.lst [.ref l3,.ref u]) g=some (.lst [.ref l3,.ref u]):=ah
 have hM:=ao (u:=MO.lst [.ref l3,.ref u]) hM hg
 have hN:=ao (u:=MO.lst [.ref l3,.ref u]) hN hg
 have uh:=ao (u:=MO.lst [.ref l3,.ref u]) uh hg
 have hU:=ao (u:=MO.lst [.ref l3,.ref u]) hU hg
 generalize aE M5 g (.lst [.ref l3,.ref u])=M6 at hM hN uh hU hG ⊢
 have VY:∀ t∈rt,jr ps t:=fun t ht=>((Fw t).mp (rp.mem_iff.mp ht)).1
 have VZ:∀ {qs:List Pl},qs.Perm ps→qs.Pairwise (fun p q=> ¬ aL q p)→dZ qs:=fun {qs} hp hs=>⟨BO (hp.nodup_iff.mpr nd) hs,fun q hq=>(ya q (hp.mem_iff.mp hq)).2⟩
 walk_at "rd"
 refine ⟨_,_,_,.inr (.inr ⟨g,rfl,hG⟩),rfl,bU (j:=0) rfl,?_⟩
 walk_at "rd"
 refine ⟨_,_,_,.inr (.inr ⟨g,rfl,hG⟩),rfl,bU (j:=1) rfl,?_⟩
 refine ⟨l3,u,rfl,ps,rt,uh,hU,fun t ht=>(VY t ht).tr ya,by omega,by omega,ya,fun qs r bG hso Iq=>?_⟩
 have uz:=VZ bG hso
 have cq:∀ t,Eg ps t↔Eg qs t:=fun t=>⟨fun c d hd=>c d (bG.mem_iff.mp hd),fun c d hd=>c d (bG.mem_iff.mpr hd)⟩
 have tq:∀ t,jr ps t↔jr qs t:=fun t=>⟨fun c=>⟨c.1,fun q hq=>bG.mem_iff.mpr (c.2 q hq)⟩,fun c=>⟨c.1,fun q hq=>bG.mem_iff.mp (c.2 q hq)⟩⟩
 have Uj:rt.Nodup:=rp.nodup_iff.mpr SJ
 have Nj:∀ t,t∈rt↔jr qs t∧Eg qs t:=fun t=>by rw [rp.mem_iff,Fw,cq,tq]
 have kn:=BD uz Uj Nj
 have V0:r=none:=by
  obtain ⟨sp,AR,e⟩:=BE bG kn (fun fl=>by
   cases e2:rt with
   | nil=>rfl
   | cons t0 tr=>
     obtain ⟨a,b,c,et,pos,ha,hb',hc,_⟩:=(kn.lW t0 (by rw [e2];simp)).parts
     have:=fl a ha b hb' c hc
     omega) (fun nf=>HW uz nf Uj Nj) Iq
  match sp,AR,e with
  | none,_,e=>exact e
  | some (t,d),AR,_=>
    obtain ⟨⟨i,hi,⟨d',hd',sd⟩,_⟩,_⟩:=AR
    exact absurd sd (((Nj t).mp (Y9 hi)).2 d' (bG.mem_iff.mpr hd'))
 subst V0
 walk_at "rd"
 refine ⟨_,.of hN,fun s3 KL=>?_⟩
 rw [uZ tD nt k lk]
 have NH:aE M6 s3 (.lst ((nt.drop k).map tD)) s3=some (.lst ((nt.drop k).map tD)):=ah
 have hM:=ao (u:=MO.lst ((nt.drop k).map tD)) hM KL
 have hN:=ao (u:=MO.lst ((nt.drop k).map tD)) hN KL
 have uh:=ao (u:=MO.lst ((nt.drop k).map tD)) uh KL
 have hU:=ao (u:=MO.lst ((nt.drop k).map tD)) hU KL
 have hG:=ao (u:=MO.lst ((nt.drop k).map tD)) hG KL
 generalize aE M6 s3 (.lst ((nt.drop k).map tD))=M7 at hM hN uh hU hG NH ⊢
 walk_at "rd"
 refine ⟨_,.of hN,fun s4 NI=>?_⟩
 rw [oz tD nt k lk]
 have S1:aE M7 s4 (.lst ((nt.take k).map tD)) s4=some (.lst ((nt.take k).map tD)):=ah
 have hM:=ao (u:=MO.lst ((nt.take k).map tD)) hM NI
 have hN:=ao (u:=MO.lst ((nt.take k).map tD)) hN NI
 have uh:=ao (u:=MO.lst ((nt.take k).map tD)) uh NI
 have hU:=ao (u:=MO.lst ((nt.take k).map tD)) hU NI
 have hG:=ao (u:=MO.lst ((nt.take k).map tD)) hG NI
 have NH:=ao (u:=MO.lst ((nt.take k).map tD)) NH NI
 generalize aE M7 s4 (.lst ((nt.take k).map tD))=M8 at hM hN uh hU hG NH S1 ⊢
 walk_at "rd"
 refine ⟨s3,s4,_,_,rfl,rfl,NH,S1,by rw [Y4,Y4,aah,ZO];omega,fun u2 Nk=>?_⟩
 rw [← Zn,er]
 have n2:u≠u2:=fun z=>by rw [← z,hU] at Nk;cases Nk
 have S2:aE M8 u2 (.lst (rt.map tD)) u2=some (.lst (rt.map tD)):=ah
 have hM:=ao (u:=MO.lst (rt.map tD)) hM Nk
 have hN:=ao (u:=MO.lst (rt.map tD)) hN Nk
 have uh:=ao (u:=MO.lst (rt.map tD)) uh Nk
 have hU:=ao (u:=MO.lst (rt.map tD)) hU Nk
 have hG:=ao (u:=MO.lst (rt.map tD)) hG Nk
 generalize aE M8 u2 (.lst (rt.map tD))=M9 at hM hN uh hU hG S2 ⊢
 walk_at "rd"
 intro f hf
 refine ⟨g,f,l3,u,l,u2,_,_,_,_,rfl,rfl,ao hG hf,ah,ao uh hf,ao hU hf,ao hM hf,ao S2 hf,n1,n2,c8 ps,cD rt,c8 ps,cD rt,?_⟩
 rw [pL (c8 ps),pL (cD rt)]
 have hM:=ao (u:=MO.lst [.ref l,.ref u2]) hM hf
 have hN:=ao (u:=MO.lst [.ref l,.ref u2]) hN hf
 generalize aE M9 f (.lst [.ref l,.ref u2])=Mf at hM hN ⊢
 clear NG S0 NH S1 hU S2 hG uh Iq
 walk_at "rd"
 refine ⟨_,_,rfl,.of hM,fun l5 Uk=>?_⟩
 have Ul:aE Mf l5 (.lst (ps.map Pl.d)) l5=some (.lst (ps.map Pl.d)):=ah
 have hM:=ao (u:=MO.lst (ps.map Pl.d)) hM Uk
 have hN:=ao (u:=MO.lst (ps.map Pl.d)) hN Uk
 generalize aE Mf l5 (.lst (ps.map Pl.d))=Um at hM hN Ul ⊢
 walk_at "rd"
 refine ⟨ps,Ul,nd,by omega,ya,fun f2 Uo ts hf2 wJ MP NF hst=>?_⟩
 obtain ⟨I0,lT⟩:=Kq MP wJ NF (by omega)
 have hTI:∀ t∈ts,jr ps t:=fun t ht=>⟨(I0.1.lW t ht).1,fun q hq=>wJ.mem_iff.mp ((I0.1.lW t ht).2 q hq)⟩
 have Up:aE Um f2 (.lst (ts.map tD)) f2=some (.lst (ts.map tD)):=ah
 have hM:=ao (u:=MO.lst (ts.map tD)) hM hf2
 have hN:=ao (u:=MO.lst (ts.map tD)) hN hf2
 generalize aE Um f2 (.lst (ts.map tD))=Uq at hM hN Up ⊢
 walk_at "rd"
 refine ⟨_,_,rfl,.of Up,fun c2 hc2=>?_⟩
 have Ur:aE Uq c2 (.lst (ts.map tD)) c2=some (.lst (ts.map tD)):=ah
 have hM:=ao (u:=MO.lst (ts.map tD)) hM hc2
 have hN:=ao (u:=MO.lst (ts.map tD)) hN hc2
 generalize aE Uq c2 (.lst (ts.map tD))=XJ at hM hN Ur ⊢
 walk_at "rd"
 refine ⟨hb,hl,by decide,by decide,ps,ts,Ur,hTI,lT,ya,Ep Uo,I0,fun us vs=>Dg,fun c3 us Us le hU hTU lU hI=>?_⟩
 have hM:=le _ _ hM
 have hN:=le _ _ hN
 walk_at "rd"
 refine ⟨_,_,rfl,.of hM,fun l6 Qg=>?_⟩
 have n3:l6≠l:=fun z=>by rw [z,hM] at Qg;cases Qg
 have Kr:aE Us l6 (.lst (ps.map Pl.d)) l6=some (.lst (ps.map Pl.d)):=ah
 have hM:=ao (u:=MO.lst (ps.map Pl.d)) hM Qg
 have hN:=ao (u:=MO.lst (ps.map Pl.d)) hN Qg
 have hU:=ao (u:=MO.lst (ps.map Pl.d)) hU Qg
 generalize aE Us l6 (.lst (ps.map Pl.d))=Ut at hM hN hU Kr ⊢
 walk_at "rd"
 refine ⟨_,_,rfl,.of hU,fun Er NJ=>?_⟩
 have n4:Er≠c3:=fun z=>by rw [z,hU] at NJ;cases NJ
 have NK:aE Ut Er (.lst (us.map tD)) Er=some (.lst (us.map tD)):=ah
 have hM:=ao (u:=MO.lst (us.map tD)) hM NJ
 have hN:=ao (u:=MO.lst (us.map tD)) hN NJ
 have hU:=ao (u:=MO.lst (us.map tD)) hU NJ
 have Kr:=ao (u:=MO.lst (us.map tD)) Kr NJ
 generalize aE Ut Er (.lst (us.map tD))=Uu at hM hN hU Kr NK ⊢
 walk_at "rd"
 intro g2 Qh
 have QI:aE Uu g2 (.lst [.ref l6,.ref Er]) g2=some (.lst [.ref l6,.ref Er]):=ah
 have hM:=ao (u:=MO.lst [.ref l6,.ref Er]) hM Qh
 have hN:=ao (u:=MO.lst [.ref l6,.ref Er]) hN Qh
 have hU:=ao (u:=MO.lst [.ref l6,.ref Er]) hU Qh
 have Kr:=ao (u:=MO.lst [.ref l6,.ref Er]) Kr Qh
 have NK:=ao (u:=MO.lst [.ref l6,.ref Er]) NK Qh
 generalize aE Uu g2 (.lst [.ref l6,.ref Er])=V1 at hM hN hU Kr NK QI ⊢
 walk_at "rd"
 refine ⟨_,_,_,.inr (.inr ⟨g2,rfl,QI⟩),rfl,bU (j:=0) rfl,?_⟩
 walk_at "rd"
 refine ⟨_,_,_,.inr (.inr ⟨g2,rfl,QI⟩),rfl,bU (j:=1) rfl,?_⟩
 refine ⟨l6,Er,rfl,ps,us,Kr,NK,fun t ht=>(hTU t ht).tr ya,by omega,by omega,ya,fun V2 r AE S3 Iq=>?_⟩
 obtain rfl:V2=Uo:=vm (AE.trans wJ.symm) S3 (MP.1.imp fun z=>aG z)
 have ak:=MB Iq (fun t ht=>(hTU t ht).tr ya)
 obtain ⟨sp,AR,V3⟩:=BE AE hI.1 hI.2.1 hI.2.2 Iq
 have eo:fD r=oS sp:=by
  rw [V3]
  match sp with
  | none=>rfl
  | some (t,d)=>rfl
 rw [eo] at ak ⊢
 walk_at "rd"
 intro f3 GS
 refine ⟨g2,f3,l6,Er,l,c3,_,_,_,_,rfl,rfl,ao QI GS,ah,ao Kr GS,ao NK GS,ao hM GS,ao hU GS,n3,n4,c8 ps,cD us,c8 ps,cD us,?_⟩
 rw [pL (c8 ps),pL (cD us)]
 have hM:=ao (u:=MO.lst [.ref l,.ref c3]) hM GS
 have hN:=ao (u:=MO.lst [.ref l,.ref c3]) hN GS
 have hU:=ao (u:=MO.lst [.ref l,.ref c3]) hU GS
 generalize aE V1 f3 (.lst [.ref l,.ref c3])=XM at hM hN hU ⊢
 walk_at "rd"
 refine ⟨us,nt,ps,hU,hN,hM,hTU,Fw,ya,by omega,fun XN S4=>?_⟩
 obtain rfl:=S4.uniq AR
 walk_at "rd"
 refine ⟨.inl ⟨rfl,ak⟩,?_⟩
 exact h
end
theorem all_mk {P:Program} {w:World} {h:Heap} {mg:Str→Option Value} {fa:Addr} (Y:HD.YP fs bs h) (G:h.Ns mainGlobals mg) (SH:mg "law" =some (.ref fa)):∃ (K:PySem.W.Frag) (fd:FuncData),K.In h∧(∀ (s:Shared) (v:Value),BindsTo s fd ⟨[v],[]⟩ [("_law_script",v)])∧∀ base:Heap,K.In base→base.Ns mainGlobals mg→bS P w K mg base eZ 9 fa fd ["_law_script"] (tT K Ip):=by
 obtain ⟨K,X,H,B⟩:=Y
 unfold fs at H
 unfold bs at B
 obtain ⟨⟨f0,d0,a0,F0⟩,H⟩:=H
 obtain ⟨⟨f1,d1,a1,F1⟩,H⟩:=H
 obtain ⟨⟨f2,d2,a2,F2⟩,H⟩:=H
 obtain ⟨⟨f3,d3,a3,F3⟩,H⟩:=H
 obtain ⟨⟨f4,d4,a4,F4⟩,H⟩:=H
 obtain ⟨⟨f5,d5,a5,F5⟩,H⟩:=H
 obtain ⟨⟨f6,d6,a6,F6⟩,H⟩:=H
 obtain ⟨⟨f7,d7,a7,F7⟩,H⟩:=H
 obtain ⟨⟨f8,d8,a8,F8⟩,H⟩:=H
 obtain ⟨⟨f9,d9,a9,F9⟩,H⟩:=H
 obtain ⟨⟨XO,XQ,V4,V5⟩,H⟩:=H
 obtain ⟨⟨XR,XS,V6,V7⟩,H⟩:=H
 obtain ⟨⟨Jl,XT,V8,V9⟩,H⟩:=H
 obtain ⟨⟨XU,XW,Wa,Wb⟩,H⟩:=H
 obtain ⟨⟨XX,XY,Wc,Wd⟩,H⟩:=H
 obtain ⟨⟨XZ,X0,We,Wf⟩,H⟩:=H
 obtain ⟨⟨X3,X4,Wg,Wh⟩,H⟩:=H
 obtain ⟨⟨X5,X6,Wi,Wj⟩,H⟩:=H
 obtain ⟨⟨X7,X8,Wl,Wm⟩,H⟩:=H
 obtain ⟨⟨X9,Yb,Wn,Wo⟩,H⟩:=H
 obtain ⟨⟨Yc,Yd,Wq,Wr⟩,H⟩:=H
 obtain ⟨⟨Ye,Yg,Ws,Wt⟩,H⟩:=H
 obtain ⟨⟨Yh,Yi,Wu,Wv⟩,H⟩:=H
 obtain ⟨⟨Yj,Yk,Ww,Wx⟩,H⟩:=H
 obtain ⟨⟨Yl,Ym,Wy,Wz⟩,H⟩:=H
 obtain ⟨⟨Yn,Yo,WA,WB⟩,H⟩:=H
 obtain ⟨⟨Yp,Yq,WC,WD⟩,H⟩:=H
 obtain ⟨⟨Yr,Ys,WE,WG⟩,H⟩:=H
 obtain ⟨⟨Yt,Yu,WH,WI⟩,H⟩:=H
 obtain ⟨⟨Yv,Yw,WJ,WK⟩,H⟩:=H
 obtain ⟨⟨Yx,Yy,WL,WM⟩,H⟩:=H
 obtain ⟨⟨Yz,YA,WN,WO⟩,H⟩:=H
 obtain ⟨⟨f32,YB,a32,WQ⟩,H⟩:=H
 obtain ⟨⟨YC,YD,WR,WS⟩,H⟩:=H
 obtain ⟨⟨YE,YF,WT,WU⟩,H⟩:=H
 obtain ⟨⟨YG,YH,WV,WW⟩,H⟩:=H
 obtain ⟨⟨YI,YJ,WX,WY⟩,H⟩:=H
 obtain ⟨⟨YK,YL,WZ,W0⟩,H⟩:=H
 obtain ⟨⟨YM,YN,W2,W3⟩,H⟩:=H
 obtain ⟨⟨YO,YQ,W4,W5⟩,H⟩:=H
 obtain ⟨⟨YR,YS,W6,W7⟩,H⟩:=H
 obtain ⟨⟨YT,YU,W8,W9⟩,H⟩:=H
 obtain ⟨⟨YV,YW,Xa,Xb⟩,H⟩:=H
 obtain ⟨⟨YX,YY,Xc,Xd⟩,H⟩:=H
 obtain ⟨⟨YZ,Y0,Uv,Uw⟩,H⟩:=H
 obtain ⟨z0,B⟩:=B
 obtain ⟨z1,B⟩:=B
 obtain ⟨z2,B⟩:=B
 obtain ⟨z3,B⟩:=B
 obtain ⟨z4,B⟩:=B
 obtain ⟨z5,B⟩:=B
 obtain ⟨z6,B⟩:=B
 obtain ⟨z7,B⟩:=B
 obtain ⟨z8,B⟩:=B
 obtain ⟨z9,B⟩:=B
 obtain ⟨Xe,B⟩:=B
 obtain ⟨Xf,B⟩:=B
 obtain ⟨Ud,B⟩:=B
 have e:=SH.symm.trans (PySem.W.mg_of X G Uv)
 cases e
 have T:Txt K mg ⟨_,_,_,_,_,_,_,_,_,_,_,_,_,_,_,_,_,_,_,_,_,_,_,_,_,_,_,_,_,_,_,_,_,_,_,_,_,_,_,_,_,_,_,_,_,_,_,_,_,_,_,_,_,_,_,_,_,_,_,_,_,_,_,_,_,_,_,_,_,_,_,_,_,_,_,_,_,_,_,_,_,_,_,_,_,_,_,_,_,_⟩:=⟨F0,PySem.W.mg_of X G a0,F1,PySem.W.mg_of X G a1,F2,PySem.W.mg_of X G a2,F3,PySem.W.mg_of X G a3,F4,PySem.W.mg_of X G a4,F5,PySem.W.mg_of X G a5,F6,PySem.W.mg_of X G a6,F7,PySem.W.mg_of X G a7,F8,PySem.W.mg_of X G a8,F9,PySem.W.mg_of X G a9,V5,PySem.W.mg_of X G V4,V7,PySem.W.mg_of X G V6,V9,PySem.W.mg_of X G V8,Wb,PySem.W.mg_of X G Wa,Wd,PySem.W.mg_of X G Wc,Wf,PySem.W.mg_of X G We,Wh,PySem.W.mg_of X G Wg,Wj,PySem.W.mg_of X G Wi,Wm,PySem.W.mg_of X G Wl,Wo,PySem.W.mg_of X G Wn,Wr,PySem.W.mg_of X G Wq,Wt,PySem.W.mg_of X G Ws,Wv,PySem.W.mg_of X G Wu,Wx,PySem.W.mg_of X G Ww,Wz,PySem.W.mg_of X G Wy,WB,PySem.W.mg_of X G WA,WD,PySem.W.mg_of X G WC,WG,PySem.W.mg_of X G WE,WI,PySem.W.mg_of X G WH,WK,PySem.W.mg_of X G WJ,WM,PySem.W.mg_of X G WL,WO,PySem.W.mg_of X G WN,WQ,PySem.W.mg_of X G a32,WS,PySem.W.mg_of X G WR,WU,PySem.W.mg_of X G WT,WW,PySem.W.mg_of X G WV,WY,PySem.W.mg_of X G WX,W0,PySem.W.mg_of X G WZ,W3,PySem.W.mg_of X G W2,W5,PySem.W.mg_of X G W4,W7,PySem.W.mg_of X G W6,W9,PySem.W.mg_of X G W8,Xb,PySem.W.mg_of X G Xa,Xd,PySem.W.mg_of X G Xc,Uw,PySem.W.mg_of X G Uv,PySem.W.mg_none_of X G z0,PySem.W.mg_none_of X G z1,PySem.W.mg_none_of X G z2,PySem.W.mg_none_of X G z3,PySem.W.mg_none_of X G z4,PySem.W.mg_none_of X G z5,PySem.W.mg_none_of X G z6,PySem.W.mg_none_of X G z7,PySem.W.mg_none_of X G z8,PySem.W.mg_none_of X G z9,PySem.W.mg_none_of X G Xe,PySem.W.mg_none_of X G Xf,PySem.W.mg_none_of X G Ud⟩
 refine ⟨K,_,X,fun s v=>?_,fun base _ _=>Ni T⟩
 obtain ⟨_,_,_,_,_,_,_,_,_,rfl,_,_⟩:=Uw.ex
 exact .of_eq rfl
end Pf
open PySem PySem.W PyProof.Rows
set_option maxRecDepth 100000 in
set_option maxHeartbeats 0 in
theorem PySem.Challenge.cw_nearland_k26_whole_one_net_holds : PySem.Challenge.rw_nearland_k26_whole_one_net.Holds := by
 refine holds_law Pf.said fun said=>?_
 refine holds_open (q:=Pf.view) (loose:=Pf.loose) (Xt:=fun s=>xlAt Pf.view [] s && recOk (RowW.records (OpenRow.toRowW PySem.Challenge.rw_nearland_k26_whole_one_net.row)) s) (XP:=XL Pf.view []) (Yf:=HD.B0 Pf.fs Pf.bs) (Ya:=fun _=>HD.good Pf.fs Pf.bs) (YP:=fun _ h=>HD.YP Pf.fs Pf.bs h) (N:=4464) Pf.left (fun _ _ e=>HD.MW e) (fun _ _ _ y k=>HD.keeps y k) (fun s e=>xl_of s (aa8.mp e).1) XL.keeps (by rfl) (by rfl) (by rfl) (fun s e=>recFacts_of (aa8.mp e).2) (by rfl) said (by decide +kernel) ⟨rfl,rfl,rfl,rfl,rfl,by decide +kernel⟩ (by w_witness2) ?hc
 refine HD.Ia (l:=PySem.Challenge.rw_nearland_k26_whole_one_net) (n:=63) (k:=9) (x:= "_law_script") (CX:=L2.eZ) (sp:=fun K=>L3.tT K Pf.Ip) rfl (by decide) rfl ⟨rfl,by decide,by decide⟩ (fun w mg fa h Y G hmg=>Pf.all_mk Y G hmg) (fun K H a ns hl hb hO hS=>L3.JA hl hb hO hS) (fun _ _ _ _ z=>z)
