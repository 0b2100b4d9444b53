import PyProof.Rows.All
import Wide.All
import OpenK.AllK
import Wide.FinOn
import Lean
import PyProof.EqAt
import PyProof.EqKinds
import PyProof.TupleCall
import PySem.Challenge.RW_nearland_k44_halves
set_option Elab.async false
set_option linter.all false
set_option maxRecDepth 100000
open Bool renaming false_eq_true → Vt, false_ne_true → Vx, eq_iff_iff → V0, not_true → V9, and_eq_true → Wc, not_eq_true' → Wv, not_false → WH, and_true → Xq, and_eq_true_iff → Xs, or_false → XJ, false_and → Yh, or_eq_true → Yz, and_assoc → YE
open Classical renaming byContradiction → Vi
open Int renaming mul_nonneg → Vs, mul_eq_zero → VB, mul_nonneg_of_nonpos_of_nonpos → VD, mul_nonpos_of_nonneg_of_nonpos → VE, le_of_lt → VF, mul_nonpos_of_nonpos_of_nonneg → VG, mul_pos → VH, mul_le_mul_of_nonneg_right → VL, mul_sub → VS, sign_eq_one_of_pos → V1, mul_zero → V3, lt_or_gt_of_ne → V4, mul_neg_of_pos_of_neg → V6, mul_neg_of_neg_of_pos → V7, le_refl → Wa, lt_or_lt_of_ne → Wg, mul_assoc → Wm, mul_comm → Wn, sign_eq_neg_one_of_neg → Ww, emod_lt_of_pos → WC, lt_trichotomy → WG, le_total → WK, emod_nonneg → WM, mul_pos_of_neg_of_neg → WO, sign_eq_one_iff_pos → WS, add_zero → WT, zero_mul → WU, mul_le_mul_of_nonneg_left → W0, mul_lt_mul_of_pos_right → W7, neg_mul_neg → Xb, neg_mul → Xm, lt_or_eq_of_le → XE, one_mul → XF, le_of_mul_le_mul_right → XG, toNat_natCast → XH, eq_of_mul_eq_mul_left → XQ, zero_add → X0, sign_neg → X3, mul_one → Ye
open List renaming mem_cons_of_mem → Vj, length_map → Vk, mem_cons → Vl, mem_singleton → Vm, getElem?_eq_getElem → Vn, size_toArray → Vo, mem_append_left → Vq, mem_filter → Vu, mem_append → Vv, mem_append_right → Vw, mem_of_getElem? → Vy, mem_cons_self → Vz, length_append → VA, nodup_cons → VC, pairwise_cons → VI, mem_map → VJ, map_append → VM, length_cons → VN, getElem?_eq_some_iff → VO, map_cons → VP, perm_append_comm → VR, getElem?_map → VT, nodup_append → VU, length_reverse → VV, getD_eq_getElem?_getD → VX, not_mem_nil → VY, take_length → VZ, lookup_cons → V2, all_eq_true → V8, getLast?_eq_some_getLast → Wb, mem_reverse → Wd, mem_flatMap → We, reverse_cons → Wf, length_drop → Wh, flatMap_cons → Wl, ne_nil_of_mem → Wo, length_take → Wq, length_dropLast → Wr, pairwise_append → Ws, mem_of_getLast? → Wt, getElem?_eq_none → Wy, filter_cons → Wz, getLast?_reverse → WA, zip_cons_cons → WB, mem_of_mem_take → WD, append_nil → WE, getElem?_append_right → WI, getElem?_zipWith → WJ, length_nil → WL, getElem?_append_left → WN, toList_toArray → WR, head?_reverse → WV, getElem?_set_self → WX, take_of_length_le → WY, forIn_cons → WZ, mem_of_mem_head? → W2, mem_iff_getElem? → W3, take_append_drop → W4, perm_cons → W5, take_succ → W6, any_cons → W8, drop_eq_getElem_cons → W9, length_erase_of_mem → Xc, mem_filterMap → Xd, zip_nil_right → Xe, forIn_nil → Xh, mapM_toArray → Xi, length_pos_of_mem → Xj, length_singleton → Xk, all_cons → Xl, all_toArray → Xn, getElem?_set_ne → Xr, mem_erase_of_ne → Xu, filterMap_cons → Xw, length_zipWith → Xy, dropLast_concat_getLast → Xz, flatMap_append → XA, mem_range → XC, nodup_nil → XD, pairwise_iff_getElem → XI, exists_mem_of_ne_nil → XM, getLast?_eq_getElem? → XN, reverse_perm → XO, take_add_one → XR, getElem?_take_of_lt → XT, zipIdx_cons → XU, getElem_mem → XW, any_eq_true → XX, getElem?_replicate → XY, all_map → XZ, map_map → X4, getElem?_cons_zero → X5, filter_cons_of_neg → X6, filter_cons_of_pos → X7, of_mem_zip → X8, drop_of_length_le → X9, zipIdx_nil → Yc, find?_cons → Yd, pairwise_reverse → Yg, drop_zero → Yi, length_pos_iff → Yl, mergeSort_perm → Ym, filter_append → Yo, any_eq_false → Yr, take_sublist → Ys, ext_getElem? → Yt, length_range → Yu, foldl_append → Yv, map_snd_zip → Yx, perm_middle → Yy, foldl_cons → YB, take_left' → YC, drop_left' → YD, drop_drop → YF
open Nat renaming lt_of_lt_of_le → Vp, le_refl → Vr, ne_of_lt → VQ, ne_of_gt → VW, le_add_right → V5, zero_le → Wi, lt_succ_of_lt → Wj, lt_irrefl → Wu, le_trans → Wx, le_succ → WQ, add_lt_add_left → Xa, le_of_lt → Xf, lt_or_ge → Xg, lt_succ_self → Xp, min_self → Xv, not_lt → Xx, not_lt_zero → Yb, pow_le_pow_right → Yj, add_assoc → Yk, eq_zero_or_pos → Yn, le_of_eq → Yp, sub_zero → Yq, min_eq_left → YA
open Option renaming map_eq_some_iff → WW, isSome_iff_exists → XS, getD_none → Yw
namespace HD
open PySem PySem.W PySem.Calls
def Fj (p:Program) (w:World) (n₀:Nat) (ann:Option Value):Nat→SharedT→Thread→Option SharedT
 | 0,_,_=>none
 | n+1,s,t=>match through t with
   | true=>some s
   | false=>match stepOk n₀ ann t with
     | false=>none
     | true=>match stepT (denote treeTable) p w s t with
       | some (s',t')=>Fj p w n₀ ann n s' t'
       | none=>none
theorem AD {p:Program} {w:World} {n₀:Nat} {ann:Option Value}:∀ {n:Nat} {s s':SharedT} {t:Thread},Fj p w n₀ ann n s t=some s'→topRun treeTable p w n₀ ann n s.abs t=some s'.abs
 | 0,_,_,_,h=>nomatch h
 | n+1,s,s',t,h=>by
   unfold Fj at h
   unfold topRun
   cases a:through t with
   | true=>rw [a] at h;cases h;rfl
   | false=>
     rw [a] at h
     dsimp only at h ⊢
     cases b:stepOk n₀ ann t with
     | false=>rw [b] at h;cases h
     | true=>
       rw [b] at h
       dsimp only at h ⊢
       cases c:stepT (denote treeTable) p w s t with
       | none=>rw [c] at h;cases h
       | some x=>
         obtain ⟨s1,t1⟩:=x
         rw [c] at h
         rw [stepT_spec c]
         exact AD h
noncomputable def CW (P:Params):BT:=((boot_heap P).objs.toList.foldl (fun x o=>(x.1.ins x.2 o,x.2+1)) (BT.nil,0)).1
theorem BB (P:Params):absHeap (CW P) 11 (boot_heap P).life=boot_heap P:=by kernel_rfl
theorem BC (w:World):((boot_heap w.params).isNs mainGlobals && (#[]:Array GenState).size == 0,(boot_heap w.params).objs.size,(boot_heap w.params).nsMap mainGlobals "__annotations__")=(true,11,some (.ref 6)):=by kernel_rfl
theorem BD {p q:Program} {loose:List Str} {Xt:Shared→Bool} {α:Type} {Yf:Shared→α} {Ya:World→α} {N M:Nat} (e:opening p=plainProg p.main.scope.names) (hN:Nat.ble 600 N=true) (f:∀ s,fenceModules? p s=some s) (le:Nat.ble M N=true)
 (run:∀ (w:World) (os:OsState),(Fj p w 11 (some (.ref 6)) M ⟨CW w.params,11,(boot_heap w.params).life,#[],boot_drawn,boot_toks,os⟩ (topStub p)).map (fun sT=>
  (staticsOk (importedModules p.main.body) (boot_heap w.params) sT.abs.heap && namesBound p sT.abs.heap && gensDone sT.abs && laidKept (boot_heap w.params) sT.abs.heap,openSeen q loose (importedModules p.main.body) Xt true sT.abs,Yf sT.abs))=some (true,openGood q loose,Ya w)):LeftO p q loose Xt Yf Ya N:=fun w=>by
 obtain ⟨⟨h,gs,d,k,os⟩,e,e'⟩:=WW.mp (boot_open e hN f w)
 obtain ⟨rfl,rfl,rfl,rfl⟩:h=boot_heap w.params∧gs=Array.mk []∧d=boot_drawn∧k=boot_toks:=by simpa using e'
 obtain ⟨z1,z2,z3⟩:_∧_∧_:=by simpa only [Prod.mk.injEq] using BC w
 obtain ⟨sT,e1,e2⟩:=WW.mp (run w os)
 obtain ⟨l1,l2,l3⟩:_∧_∧_:=by simpa only [Prod.mk.injEq] using e2
 have r:=topRun_mono (N - M) _ _ _ _ (AD e1)
 rw [show M+(N - M)=N by have:=Nat.le_of_ble_eq_true le;omega] at r
 have a:SharedT.abs ⟨CW w.params,11,(boot_heap w.params).life,#[],boot_drawn,boot_toks,os⟩= ⟨boot_heap w.params,Array.mk [],boot_drawn,boot_toks,os⟩:=by
  unfold SharedT.abs
  dsimp only
  rw [BB]
 rw [a] at r
 have t:topFrom treeTable p w N ⟨boot_heap w.params,Array.mk [],boot_drawn,boot_toks,os⟩=some sT.abs:=by
  unfold topFrom
  dsimp only
  rw [z1,z2,z3,r]
  show (match staticsOk (importedModules p.main.body) (boot_heap w.params) sT.abs.heap && namesBound p sT.abs.heap && gensDone sT.abs && laidKept (boot_heap w.params) sT.abs.heap with | true=>_ | false=>_)=_
  rw [l1]
 unfold openEnds
 rw [e]
 show (topFrom treeTable p w N _).map _=_
 rw [t]
 exact congrArg some (Prod.ext l2 l3)
def dA (s:Stmt):Arguments:=match s with
 | .FunctionDef _ a _ _ _ _ _ _ _ _=>a
 | _=>{ posonlyargs:=[],args:=[],vararg:=none,kwonlyargs:=[],kw_defaults:=[],kwarg:=none,defaults:=[] }
def dB (s:Stmt):List Stmt:=match s with
 | .FunctionDef _ _ b _ _ _ _ _ _ _=>b
 | _=>[]
def dS (s:Stmt):Scope:=match s with
 | .FunctionDef _ _ _ _ _ _ sc _ _ _=>sc
 | _=>{ kind:= .function,names:=[],isGenerator:=false,isCoroutine:=false }
abbrev pr (n:Str) (st:Stmt):Str ×Stmt:=(n,st)
def Kz (h:Heap) (n:Str):Option (Option Value):=match h.get? mainGlobals with
 | some o=>nsIn [(mainGlobals,o)] mainGlobals n
 | none=>none
def fnAt (h:Heap) (n:Str):Option (Addr ×FuncData):=match Kz h n with
 | some (some (.ref f))=>(match h.get? f with
   | some ⟨_,_,.func fd,_⟩=>some (f,fd)
   | _=>none)
 | _=>none
def jP (h:Heap) (v:Value):Option Str:=match v with
 | .ref c=>(match h.get? c with
   | some ⟨_,_,.fields vs,_⟩=>(match vs.toList with
     | _ :: .str q _ :: _=>some q
     | _=>none)
   | _=>none)
 | _=>none
def blank (fd:FuncData):FuncData:={ fd with kwdefaults:= .none,doc:= .none,pyModule:= .none,annotations:=none,code:= .none,closureTuple:= .none }
abbrev Seen:=List (Option (FuncData ×Option Str)) ×List (Option (Option Value))
def Fl (fs:List (Str ×Stmt)) (bs:List Str) (s:Shared):Seen:=
 (fs.map fun p=>(fnAt s.heap p.1).map fun x=>(blank x.2,jP s.heap x.2.code),bs.map fun b=>Kz s.heap b)
def good (fs:List (Str ×Stmt)) (bs:List Str):Seen:=
 (fs.map fun p=>some (fnOf p.1 p.1 (dA p.2) (dB p.2) (dS p.2) .none .none .none .none none .none .none,some p.1),bs.map fun _=>some none)
end HD
namespace  Pf
open PySem PySem.W PyProof.Rows
def top (i:Nat):Stmt:=PySem.Challenge.pw_nearland_k44_halves.main.body.getD i (.Pass ⟨0,0,0,0⟩)
abbrev jh:Stmt:=top 28
abbrev jQ:Stmt:=top 29
abbrev iE:Stmt:=top 30
abbrev qO:Stmt:=top 21
abbrev vA:Stmt:=top 6
abbrev jR:Stmt:=top 13
abbrev zf:Stmt:=top 4
abbrev vB:Stmt:=top 14
abbrev zg:Stmt:=top 15
abbrev zh:Stmt:=top 7
abbrev qP:Stmt:=top 16
abbrev jS:Stmt:=top 19
abbrev eE:Stmt:=top 26
abbrev gC:Stmt:=top 9
abbrev oO:Stmt:=top 10
abbrev fY:Stmt:=top 11
abbrev gD:Stmt:=top 22
abbrev ji:Stmt:=top 23
abbrev iF:Stmt:=top 18
abbrev dM:Stmt:=top 24
abbrev qQ:Stmt:=top 25
abbrev fk:Stmt:=top 34
abbrev jj:Stmt:=top 31
abbrev iG:Stmt:=top 32
abbrev iH:Stmt:=top 33
abbrev cJ:Stmt:=top 35
abbrev ie:Stmt:=top 37
abbrev ig:Stmt:=top 36
abbrev AE:Stmt:=top 38
def view:Program:={ PySem.Challenge.pw_nearland_k44_halves with main:={ PySem.Challenge.pw_nearland_k44_halves.main with body:=[top 38] } }
def loose:List Str:=(["NearError","Flat","sign","twice","turn","without_bays","outline","outline_sides","ring_area","apart","ring","spoils","triangle_of","is_spoilt","parted","first_across","net_corner","triangles_across","halves","by_halving","_law_given","_law_spot","_law_ground","_law_twice","_law_within","_law_spoils","_law_triangles","_law_is_net","_law_both","_law_gone"]:List String).map Str.ofString
def fs:List (Str ×Stmt):=[HD.pr "_law_given" jh,HD.pr "_law_spot" jQ,HD.pr "_law_ground" iE,HD.pr "parted" qO,HD.pr "twice" vA,HD.pr "ring_area" jR,HD.pr "sign" zf,HD.pr "apart" vB,HD.pr "ring" zg,HD.pr "turn" zh,HD.pr "spoils" qP,HD.pr "is_spoilt" jS,HD.pr "by_halving" eE,HD.pr "without_bays" gC,HD.pr "outline" oO,HD.pr "outline_sides" fY,HD.pr "first_across" gD,HD.pr "net_corner" ji,HD.pr "triangle_of" iF,HD.pr "triangles_across" dM,HD.pr "halves" qQ,HD.pr "_law_triangles" fk,HD.pr "_law_twice" jj,HD.pr "_law_within" iG,HD.pr "_law_spoils" iH,HD.pr "_law_is_net" cJ,HD.pr "_law_gone" ie,HD.pr "_law_both" ig,HD.pr "law" AE]
def bs:List Str:=["len","range","sorted","list","reversed","zip","isinstance","tuple","bool","min"]
set_option maxHeartbeats 0 in
theorem said:PySem.Challenge.rw_nearland_k44_halves.wellSaid=true:=by
 unfold OpenLaw.wellSaid OpenRow.wellSaid OpenRow.partSaid looksOpen
 repeat' (with_reducible refine look_both ?_ ?_)
 all_goals decide +kernel
set_option maxHeartbeats 0 in
theorem left:LeftO PySem.Challenge.rw_nearland_k44_halves.row.prog view loose (fun s=>xlAt view [] s && recOk (RowW.records (OpenRow.toRowW PySem.Challenge.rw_nearland_k44_halves.row)) s) (HD.Fl fs bs) (fun _=>HD.good fs bs) 3470:=HD.BD (M:=1485) (by kernel_rfl) (by kernel_rfl) (fun s=>by kernel_rfl) (by kernel_rfl) (fun w os=>by kernel_rfl)
end Pf
namespace L2
open PySem PySem.Spec PyProof.Rows
abbrev Key:=Sum Int Str
def Hy:Key→Value→Bool
 | .inl k,v=>Value.isInt k v
 | .inr x,v=>Value.isStrOf x v
def NP (w:World):Key→Int
 | .inl k=>hashInt k
 | .inr x=>hashStr w x
theorem bW:∀ {k:Key} {v:Value},Hy k v=true→(∃ i t,k=Sum.inl i∧v=Value.int i t)∨(∃ x t,k=Sum.inr x∧v=Value.str x t)
 | .inl i,v,h=>by
   obtain ⟨t,e⟩:=Value.isInt_shape (k:=i) (v:=v) h
   exact .inl ⟨i,t,rfl,e⟩
 | .inr x,v,h=>by
   obtain ⟨t,e⟩:=Value.isStrOf_shape (x:=x) (v:=v) h
   exact .inr ⟨x,t,rfl,e⟩
theorem Ip (a b:Int):decide ((Sum.inl a:Key)=Sum.inl b)=(a == b):=by
 by_cases e:a=b
 ·subst e;simp
 ·have h:¬ (Sum.inl a:Key)=Sum.inl b:=fun q=>e (Sum.inl.inj q)
  rw [decide_eq_false h]
  exact (beq_eq_false_iff_ne.mpr e).symm
theorem Iq (a b:Str):decide ((Sum.inr a:Key)=Sum.inr b)=decide (a=b):=by
 by_cases e:a=b
 ·subst e;simp
 ·have h:¬ (Sum.inr a:Key)=Sum.inr b:=fun q=>e (Sum.inr.inj q)
  rw [decide_eq_false h,decide_eq_false e]
theorem Ir (a:Int) (b:Str):decide ((Sum.inl a:Key)=Sum.inr b)=false:=decide_eq_false (fun q=>nomatch q)
theorem Iu (a:Str) (b:Int):decide ((Sum.inr a:Key)=Sum.inl b)=false:=decide_eq_false (fun q=>nomatch q)
def AF (prog:Program) (w:World):PySem.KeyKind prog w Key where
 is:=Hy
 hash:=NP w
 inj:=fun v a b ha hb=>by
  rcases bW ha with ⟨i,t,rfl,rfl⟩ | ⟨x,t,rfl,rfl⟩
  ·rcases bW hb with ⟨j,u,rfl,e⟩ | ⟨y,u,rfl,e⟩
   ·injection e with e1 _;rw [e1]
   ·exact nomatch e
  ·rcases bW hb with ⟨j,u,rfl,e⟩ | ⟨y,u,rfl,e⟩
   ·exact nomatch e
   ·injection e with e1 _;rw [e1]
 byValue:=fun k v h=>by
  rcases bW h with ⟨i,t,rfl,rfl⟩ | ⟨x,t,rfl,rfl⟩ <;> rfl
 pyHash:=fun hv h=>by
  rcases bW hv with ⟨i,t,rfl,rfl⟩ | ⟨x,t,rfl,rfl⟩
  ·exact wpAny_pyHash_int h
  ·exact wpAny_pyHash_str h
 eqBool:=fun hu hv h=>by
  rcases bW hu with ⟨i,t,rfl,rfl⟩ | ⟨x,t,rfl,rfl⟩
  ·rcases bW hv with ⟨j,u,rfl,rfl⟩ | ⟨y,u,rfl,rfl⟩
   ·rw [Ip] at h;exact wpAny_eqBool_int h
   ·rw [Ir] at h;exact SeqAt.EqAt.int_str i t y u _ _ _ _ h
  ·rcases bW hv with ⟨j,u,rfl,rfl⟩ | ⟨y,u,rfl,rfl⟩
   ·rw [Iu] at h;exact SeqAt.EqAt.str_int x t j u _ _ _ _ h
   ·rw [Iq] at h;exact wpAny_eqBool_str h
 «strs» :=fun k x t v h=>by
  rcases bW h with ⟨i,u,rfl,e⟩ | ⟨y,u,rfl,e⟩
  ·exact nomatch e
  ·injection e with e1 _
   subst e1
   cases v <;> rfl
end L2
namespace L2
open PySem PySem.Spec PyProof.Rows
inductive V where
 | aZ | bl (b:Bool) | int (i:Int) | str (x:Str) | CY (b:Array UInt8) | KA (b:UInt64) | ref (a:Addr) | ty (n:String)
 deriving DecidableEq
def RelV:V→Value→Prop
 | .aZ,u=>u=Value.none
 | .bl b,u=>u=Value.bool b
 | .int i,u=> ∃ t,u=Value.int i t
 | .str x,u=> ∃ t,u=Value.str x t
 | .CY b,u=> ∃ t,u=Value.bytes b t
 | .KA b,u=> ∃ t,u=Value.float b t
 | .ref a,u=>u=Value.ref a
 | .ty n,u=>u=Value.type n
abbrev Vals:List V→List Value→Prop:=Paired RelV
theorem Vals.length {xs:List V} {us:List Value} (r:Vals xs us):xs.length=us.length:=Paired.length r
theorem Vals.get:∀ {xs:List V} {us:List Value} {i:Nat} {x:V},Vals xs us→xs[i]?=some x→∃ u,us[i]?=some u∧RelV x u
 | _,_,_,_,.nil,e=>by simp at e
 | _,_,0,_,.cons r _,e=>by simp at e;subst e;exact ⟨_,rfl,r⟩
 | _,_,i+1,x,.cons _ t,e=>by
   obtain ⟨u,h1,h2⟩:=Vals.get (i:=i) (x:=x) t (by simpa using e)
   exact ⟨u,by simpa using h1,h2⟩
theorem Vals.append:∀ {xs ys:List V} {us ws:List Value},Vals xs us→Vals ys ws→Vals (xs ++ ys) (us ++ ws)
 | _,_,_,_,.nil,s=>s
 | _,_,_,_,.cons r t,s=> .cons r (Vals.append t s)
theorem Vals.take:∀ {xs:List V} {us:List Value} (n:Nat),Vals xs us→Vals (xs.take n) (us.take n)
 | _,_,0,_=> .nil
 | _,_,_+1,.nil=> .nil
 | _,_,n+1,.cons r t=> .cons r (Vals.take n t)
theorem Vals.drop:∀ {xs:List V} {us:List Value} (n:Nat),Vals xs us→Vals (xs.drop n) (us.drop n)
 | _,_,0,r=>r
 | _,_,_+1,.nil=> .nil
 | _,_,n+1,.cons _ t=>Vals.drop n t
def Iv:Option V→Option Value→Prop
 | some v,some u=>RelV v u
 | none,none=>True
 | _,_=>False
def KV {κ:Type}:List (κ ×V)→List (κ ×Value)→Prop:=Paired fun (p:κ ×V) (q:κ ×Value)=>p.1=q.1∧RelV p.2 q.2
def kV:Key→V
 | .inl i=> .int i
 | .inr x=> .str x
inductive HO where
 | lst (xs:List V)
 | tup (xs:List V)
 | dK (kvs:List (Key ×V)) | dT (kvs:List (List Key ×V))
 | set (S:Int→Bool) (n:Nat)
 | ins (C dx:Addr) (fs:List (Str ×V))
 | own (x:Addr)
 | xd (fs:List (Str ×V))
 | met (f x:Addr)
 | NQ (lo hi:Int)
 | lF (o:Obj) (u:HO)
 | Iw (ps:Array Value)
 | ext (φ:Heap→Prop)
abbrev Hp:=Addr→Option HO
def upd (H:Hp) (a:Addr) (o:HO):Hp:=fun b=>if b=a then some o else H b
theorem bN {H:Hp} {a:Addr} {o:HO}:upd H a o a=some o:=by unfold upd;rw [if_pos rfl]
theorem aQ {H:Hp} {a b:Addr} {o:HO} (h:b≠a):upd H a o b=H b:=by unfold upd;rw [if_neg h]
theorem AG {H:Hp} {a b:Addr} {o u:HO} (h:H a=some o) (h':H b=some u) (d:o≠u):a≠b:=by
 intro e;subst e;rw [h] at h';exact d (Option.some.inj h')
theorem bI {H:Hp} {a b:Addr} {o:HO} (h:H a=some o) (h':H b=none):a≠b:=by
 intro e;subst e;rw [h] at h';cases h'
section
variable (P:Program) (w:World)
def cF (H:Hp) (h:Heap) (a:Addr):HO→Prop
 | .lst xs=>xs.length≤sizeLine∧∃ (its:List Value) (n:Nat),Vals xs its∧h.get? a=some { cls:= .type "list",data:= .seq its.toArray n }
 | .tup xs=>xs.length≤sizeLine∧∃ its:List Value,Vals xs its∧IsTup h a its.toArray
 | .dK kvs=>kvs.length≤sizeLine∧(a == sysModules)=false∧∃ vs,KV kvs vs∧h.DictOf (AF P w) a vs
 | .dT kvs=>kvs.length≤sizeLine∧(a == sysModules)=false∧∃ xs:List (List Key ×Addr ×Value),
  Paired (fun (p:List Key ×V) (q:List Key ×Addr ×Value)=>p.1=q.1∧H q.2.1=some (.tup (p.1.map kV))∧RelV p.2 q.2.2) kvs xs∧
  ∃ o es ep,h.get? a=some o∧o.ExactDict∧o.data= .dict es ep∧es.toList=xs.map (entryOfKey (tupleKind (AF P w)))∧(xs.map (·.1)).Nodup
 | .set S n=>h.SetOf (intKind P w) a S n
 | .ins C dx fs=>H dx=some (.own a)∧fs.length≤1000∧dx≠a∧h.get? a=some (PySem.W.instObj C dx)∧
  ∃ mA,h.Ns1 dx mA∧(∀ f,Iv (fs.lookup f) (mA f))∧PySem.Within mA (fs.map (·.1))
 | .own _=> ∃ o,h.get? a=some o
 | .xd fs=> ∃ mA,h.Ns1 a mA∧∀ f,Iv (fs.lookup f) (mA f)
 | .NQ lo hi=> ∃ t u v,h.get? a=some { cls:= .type "range",data:= .fields #[.int lo t,.int hi u,.int 1 v] }
 | .lF o u=>h.get? a=some o∧cF H h a u
 | .Iw ps=>h.get? a=some { cls:= .none,data:= .fields ps }
 | .met f x=>h.get? a=some (PySem.W.methodObj (.ref f) (.ref x))
 | .ext φ=>φ h∧(∃ o,h.get? a=some o)∧∀ h1 h2:Heap,φ h1→(∀ o,h1.get? a=some o→h2.get? a=some o)→φ h2
def jk (H:Hp) (h:Heap):Prop:= ∀ a o,H a=some o→cF P w H h a o
end
section
variable {P:Program} {w:World} {H H':Hp} {h h':Heap} {a:Addr} {o:HO}
theorem cF.lt (x:cF P w H h a o):a < h.objs.size:=by
 cases o with
 | lst xs=>obtain ⟨_,_,_,_,e⟩:=x;exact Heap.lt_size e
 | tup xs=>obtain ⟨_,_,_,p⟩:=x;exact p.lt
 | dK kvs=>obtain ⟨_,_,_,_,o,_,_,e,_⟩:=x;exact Heap.lt_size e
 | dT kvs=>obtain ⟨_,_,_,_,o,_,_,e,_⟩:=x;exact Heap.lt_size e
 | set S n=>obtain ⟨o,_,_,_,e,_⟩:=x;exact Heap.lt_size e
 | ins C dx fs=>obtain ⟨_,_,_,e,_⟩:=x;exact Heap.lt_size e
 | own y=>obtain ⟨_,e⟩:=x;exact Heap.lt_size e
 | xd fs=>obtain ⟨_,⟨_,_,_,e,_⟩,_⟩:=x;exact Heap.lt_size e
 | NQ lo hi=>obtain ⟨_,_,_,e⟩:=x;exact Heap.lt_size e
 | lF ob u=>obtain ⟨e,_⟩:=x;exact Heap.lt_size e
 | Iw ps=>exact Heap.lt_size (show h.get? a=some _ from x)
 | met f y=>exact Heap.lt_size (show h.get? a=some _ from x)
 | ext φ=>obtain ⟨_,⟨_,e⟩,_⟩:=x;exact Heap.lt_size e
theorem Paired.Fo {α β:Type} {F G:α→β→Prop}:∀ {l₁:List α} {l₂:List β},Paired F l₁ l₂→(∀ a b,F a b→G a b)→Paired G l₁ l₂
 | _,_,.nil,_=> .nil
 | _,_,.cons r t,f=> .cons (f _ _ r) (Paired.Fo t f)
theorem cF.stay (x:cF P w H h a o) (k:∀ b u,(b=a∨H b=some (.own a))→h.get? b=some u→h'.get? b=some u)
 (ho:∀ b,H b=some (.own a)→H' b=some (.own a)) (ht:∀ b xs,H b=some (.tup xs)→H' b=some (.tup xs)):cF P w H' h' a o:=by
 induction o with
 | lst xs=>obtain ⟨z,its,n,r,e⟩:=x;exact ⟨z,its,n,r,k _ _ (.inl rfl) e⟩
 | tup xs=>obtain ⟨z,its,r,ob,e,c⟩:=x;exact ⟨z,its,r,ob,k _ _ (.inl rfl) e,c⟩
 | dK kvs=>obtain ⟨z,y,vs,r,ob,es,ep,e,c⟩:=x;exact ⟨z,y,vs,r,ob,es,ep,k _ _ (.inl rfl) e,c⟩
 | dT kvs=>
   obtain ⟨z,y,xs,r,ob,es,ep,e,c⟩:=x
   exact ⟨z,y,xs,Paired.Fo r fun p q z=>⟨z.1,ht _ _ z.2.1,z.2.2⟩,ob,es,ep,k _ _ (.inl rfl) e,c⟩
 | set S n=>obtain ⟨ob,es,ep,t,e,c⟩:=x;exact ⟨ob,es,ep,t,k _ _ (.inl rfl) e,c⟩
 | ins C dx fs=>
   obtain ⟨d,z,ne,e,mA,⟨od,es,ep,e2,c⟩,r⟩:=x
   exact ⟨ho _ d,z,ne,k _ _ (.inl rfl) e,mA,⟨od,es,ep,k _ _ (.inr d) e2,c⟩,r⟩
 | own y=>obtain ⟨ob,e⟩:=x;exact ⟨ob,k _ _ (.inl rfl) e⟩
 | xd fs=>obtain ⟨mA,⟨od,es,ep,e,c⟩,r⟩:=x;exact ⟨mA,⟨od,es,ep,k _ _ (.inl rfl) e,c⟩,r⟩
 | NQ lo hi=>obtain ⟨t,u,v,e⟩:=x;exact ⟨t,u,v,k _ _ (.inl rfl) e⟩
 | lF ob u ih=>obtain ⟨e,q⟩:=x;exact ⟨k _ _ (.inl rfl) e,ih q⟩
 | Iw ps=>
   have e:h.get? a=some { cls:= .none,data:= .fields ps }:=x
   show h'.get? a=some { cls:= .none,data:= .fields ps }
   exact k a _ (.inl rfl) e
 | met f y=>
   have e:h.get? a=some (PySem.W.methodObj (.ref f) (.ref y)):=x
   show h'.get? a=some (PySem.W.methodObj (.ref f) (.ref y))
   exact k a _ (.inl rfl) e
 | ext φ=>obtain ⟨p,⟨o,e⟩,st⟩:=x;exact ⟨st _ _ p fun o q=>k _ _ (.inl rfl) q,⟨o,k _ _ (.inl rfl) e⟩,st⟩
theorem jk.lt (x:jk P w H h) (e:H a=some o):a < h.objs.size:=(x a o e).lt
theorem jk.fresh (x:jk P w H h) (e:h.objs.size≤a):H a=none:=by
 cases q:H a with
 | none=>rfl
 | some u=>exact absurd (Vp (x.lt q) e) (Wu _)
theorem jk.kept (x:jk P w H h) (k:∀ b u,h.get? b=some u→h'.get? b=some u):jk P w H h':=fun a o e=>
 (x a o e).stay (fun b u _ q=>k b u q) (fun _ q=>q) fun _ _ q=>q
theorem jk.laid (x:jk P w H h) (k:∀ b u,h.get? b=some u→h'.get? b=some u) (hp:h.objs.size≤a) (new:cF P w (upd H a o) h' a o):jk P w (upd H a o) h':=fun b u e=>by
 have hn:=x.fresh hp
 by_cases hb:b=a
 ·subst hb;rw [bN] at e;cases e;exact new
 ·rw [aQ hb] at e
  exact (x b u e).stay (fun c v _ q=>k c v q) (fun c q=>by rw [aQ (bI q hn)];exact q) fun c xs q=>by rw [aQ (bI q hn)];exact q
end
def Rd (H:Hp) (a:Addr) (u:HO):Prop:=H a=some u∨∃ o,H a=some (.lF o u)
theorem Rd.ok {P:Program} {w:World} {H:Hp} {h:Heap} {a:Addr} {u:HO} (r:Rd H a u) (x:jk P w H h):cF P w H h a u:=by
 rcases r with r | ⟨o,r⟩
 ·exact x a u r
 ·obtain ⟨_,q⟩:=x a _ r
  exact q
def Nk:Option HO→Prop
 | some (.lst _)=>True
 | some (.dK _)=>True
 | some (.dT _)=>True
 | some (.set _ _)=>True
 | some (.ins _ _ _)=>True
 | some (.ext _)=>True
 | _=>False
section
variable {P:Program} {w:World} {H:Hp} {h h':Heap} {x e:Addr} {o':HO}
theorem jk.write (ok:jk P w H h) (mu:Nk (H x)) (he:e=x∨H e=some (.own x)) (k:∀ b u,b≠e→h.get? b=some u→h'.get? b=some u) (KC:∃ u,h'.get? e=some u)
 (new:cF P w (upd H x o') h' x o'):jk P w (upd H x o') h':=fun b u q=>by
 have KQ:∀ c y,H c=some (.own y)→c≠x:=fun c y r z=>by subst z;rw [r] at mu;exact mu
 have NR:∀ c xs,H c=some (.tup xs)→c≠x:=fun c xs r z=>by subst z;rw [r] at mu;exact mu
 by_cases hb:b=x
 ·subst hb;rw [bN] at q;cases q;exact new
 ·rw [aQ hb] at q
  by_cases Iz:b=e
  ·have q':H b=some (.own x):=by
    rcases he with z | z
    ·exact absurd (Iz.trans z) hb
    ·rw [Iz];exact z
   rw [q] at q';cases q'
   obtain ⟨v,hv⟩:=KC
   exact ⟨v,by rw [Iz];exact hv⟩
  ·refine (ok b u q).stay (fun c v hc r=>k c v ?_ r) (fun c r=>by rw [aQ (KQ c b r)];exact r) fun c xs r=>by rw [aQ (NR c xs r)];exact r
   rcases hc with rfl | hc
   ·exact Iz
   ·rintro rfl
    rcases he with z | z
    ·exact KQ c b hc z
    ·rw [hc] at z;cases z;exact hb rfl
end
structure Un (fs ex:List Addr) (H H':Hp) (h h':Heap):Prop where
 keep:∀ b o,h.get? b=some o→H b=none→b∉fs→b∉ex→h'.get? b=some o
 slot:∀ b o,h.get? b=some o→H b=none→b∈fs→b∉ex→∃ sl,h'.get? b=some { o with slots:=sl }
 free:∀ b o,h.get? b=some o→H b=none→b∉ex→H' b=none
 there:∀ b o,h.get? b=some o→b∉ex→∃ o',h'.get? b=some o'
 tups:∀ b xs,H b=some (.tup xs)→H' b=some (.tup xs)
 vC:∀ b o u,H b=some (.lF o u)→H' b=some (.lF o u)
 xE:∀ b ps,H b=some (.Iw ps)→∃ more,H' b=some (.Iw (ps ++ more))
section
variable {fs fs' ex ex':List Addr} {H H1 H2:Hp} {h h1 h2 h':Heap} {a x e:Addr} {o:HO}
theorem Un.any (u:Un fs ex H H1 h h1) {b:Addr} {ob:Obj} (q:h.get? b=some ob) (n:H b=none) (hx:b∉ex):∃ sl,h1.get? b=some { ob with slots:=sl }:=by
 by_cases hb:b∈fs
 ·exact u.slot b ob q n hb hx
 ·exact ⟨ob.slots,u.keep b ob q n hb hx⟩
theorem Un.kept (k:∀ b u,h.get? b=some u→h'.get? b=some u):Un fs ex H H h h':=
 ⟨fun b ob q _ _ _=>k b ob q,fun b ob q _ _ _=>⟨ob.slots,k b ob q⟩,fun _ _ _ n _=>n,fun b ob q _=>⟨ob,k b ob q⟩,fun _ _ q=>q,fun _ _ _ q=>q,fun _ ps q=>⟨#[],by rw [q];simp⟩⟩
theorem Un.refl:Un fs ex H H h h:=Un.kept fun _ _ q=>q
theorem Un.laid (k:∀ b u,h.get? b=some u→h'.get? b=some u) (hp:h.objs.size≤a) (hn:H a=none):Un fs ex H (upd H a o) h h' where
 keep:=fun b u q _ _ _=>k b u q
 slot:=fun b u q _ _ _=>⟨u.slots,k b u q⟩
 free:=fun b u q n _=>by rw [aQ (VQ (Vp (Heap.lt_size q) hp))];exact n
 there:=fun b u q _=>⟨u,k b u q⟩
 tups:=fun b xs q=>by rw [aQ (bI q hn)];exact q
 vC:=fun b u xs q=>by rw [aQ (bI q hn)];exact q
 xE:=fun b ps q=>⟨#[],by rw [aQ (bI q hn),q];simp⟩
theorem Un.write (mu:Nk (H x)) (he:e=x∨H e=some (.own x)) (k:∀ b u,b≠e→h.get? b=some u→h'.get? b=some u) (KC:∃ u,h'.get? e=some u):Un fs ex H (upd H x o) h h':=by
 have hx:∀ b,H b=none→b≠x:=fun b n z=>by subst z;rw [n] at mu;exact mu
 have hb:∀ b,H b=none→b≠e:=fun b n z=>by
  subst z
  rcases he with r | r
  ·exact hx b n r
  ·rw [n] at r;cases r
 have hm:∀ b u,H b=some u→¬ Nk (some u)→b≠x:=fun b u q nm z=>by subst z;rw [q] at mu;exact nm mu
 refine ⟨fun b u q n _ _=>k b u (hb b n) q,fun b u q n _ _=>⟨u.slots,k b u (hb b n) q⟩,fun b u q n _=>by rw [aQ (hx b n)];exact n,fun b u q _=>?_,
  fun b xs q=>by rw [aQ (hm b _ q fun z=>z)];exact q,fun b u xs q=>by rw [aQ (hm b _ q fun z=>z)];exact q,fun b ps q=>⟨#[],by rw [aQ (hm b _ q fun z=>z),q];simp⟩⟩
 by_cases Iz:b=e
 ·subst Iz;exact KC
 ·exact ⟨u,k b u Iz q⟩
end
def Nl (h:Heap) (H:Hp):List Addr:=(List.range h.objs.size).filter fun a=>(H a).isSome
def vD (h:Heap) (H:Hp):Heap:=PySem.W.hideAll h (Nl h H)
theorem BE (h:Heap) (H:Hp):(vD h H).objs.size=h.objs.size:=PySem.W.hideAll_size _ _
theorem CZ {h:Heap} {H:Hp} {b:Addr} {o:Obj} (e:h.get? b=some o) (n:H b=none):(vD h H).get? b=some o:=
 PySem.W.hideAll_get _ e fun hm=>by
  have q:(H b).isSome=true:=(Vu.mp hm).2
  rw [n] at q;simp at q
theorem Fp {h:Heap} {H:Hp} {b:Addr} {o:Obj} (e:(vD h H).get? b=some o):h.get? b=some o∧H b=none:=by
 have e':h.get? b=some o:=PySem.W.of_hideAll (Nl h H) e
 refine ⟨e',?_⟩
 cases q:H b with
 | none=>rfl
 | some x=>
   have hm:b∈Nl h H:=Vu.mpr ⟨XC.mpr (Heap.lt_size e'),by simp [q]⟩
   have z:(vD h H).get? b=none:=PySem.W.hideAll_none (Nl h H) hm
   rw [z] at e;cases e
def Fq (g h:Heap) (L:Addr):List (Addr ×Obj):=(List.range h.objs.size).filterMap fun a=>if a=L∨(g.get? a).isSome=true then none else (h.get? a).map fun o=>(a,o)
def rest (g h:Heap) (L d:Addr):List (Addr ×Obj):=(Fq g h L).filter fun p=>decide (p.1≠d)
end L2
namespace L2
open PySem PySem.Spec PyProof.Rows
structure Mod (K:PySem.W.Frag) (mg:Str→Option Value) (base:Heap):Prop where
 IA:K.In base
 glob:base.Ns mainGlobals mg
 blt:∃ mb,base.Ns builtinsNs mb∧∀ x:Str,x≠"__name__"→mb x=bootBuiltins x
 nolimit:base.NoLimit
structure Cx where
 prog:Program
 w:World
 K:PySem.W.Frag
 mg:Str→Option Value
 base:Heap
 A:Around
 N:List Str
 s₀:Shared
 H₀:Hp
 env:Env
 outer:List Env
 stack:List Env
 ex:List Addr
 fn:Str→Bool
 calm:Bool
 pn:List (Addr ×Obj)
 xe:Value→Shared→Prop
def frs (l:List Env):List Addr:=l.filterMap (·.frame)
abbrev Cx.fs (X:Cx):List Addr:=frs X.outer
def NS (sc:Scope) (x:Str):Prop:=sc.names.lookup x=some .local∨sc.names.lookup x=some .cell∨sc.names.lookup x=some .free
def Loc (sc:Scope) (x:Str):Prop:=sc.names.lookup x=some .local∨sc.names.lookup x=some .cell
def Look (env:Env) (h:Heap) (m:Str→Option Value) (x:Str) (u:Value):Prop:=
 (env.kindOf x=some .local∧m x=some u)∨((env.kindOf x=some .cell∨env.kindOf x=some .free)∧∃ c,env.cells.lookup x=some c∧h.IsCell c (some u))
structure Cx.Ok (X:Cx):Prop where
 mod:Mod X.K X.mg X.base
 kind:X.env.scope.kind= .function
 glob:X.env.globals=mainGlobals
 blt:X.env.builtins=builtinsNs
 above:X.s₀.heap.objs.size≤X.env.locals
 inj:∀ x y c,X.env.cells.lookup x=some c→X.env.cells.lookup y=some c→x=y
 has:∀ x,(X.env.kindOf x=some .cell∨X.env.kindOf x=some .free)→∃ c,X.env.cells.lookup x=some c
 KD:∀ x c,X.fn x=true→X.env.cells.lookup x=some c→X.s₀.heap.objs.size≤c
 hd:X.calm=true→X.A.handled=none
 frames:X.A.frames=some X.stack
 stk:X.stack=X.outer∨(X.stack=X.env :: X.outer∧X.env.frame=some X.env.locals)
 KR:∀ b∈X.ex,b≠X.env.locals∧∀ x c,X.env.cells.lookup x=some c→c≠b
 bs:∀ b o,X.base.get? b=some o→X.s₀.heap.get? b=some o∧X.H₀ b=none
 Hz:X.base.objs.size≤X.s₀.heap.objs.size
 BF:∀ b o,X.base.get? b=some o→b∉X.ex
 BG:∀ b∈X.ex,b∉X.fs
 qg:X.s₀.heap.FunFrames X.base X.outer
 IB:∀ b∈X.fs,X.H₀ b=none
structure Inv (X:Cx) (pins:List (Addr ×Obj)) (σ:List (Option V)) (H:Hp) (s:Shared):Prop where
 ok:X.Ok
 os:s.os=X.s₀.os
 bare:AllBare s.gens
 base:Un X.fs X.ex X.H₀ H X.s₀.heap s.heap
 loc:∃ m,s.heap.Ns X.env.locals m∧∀ (i:Nat) (x:Str) (v:V),X.N[i]?=some x→σ[i]?=some (some v)→NS X.env.scope x→∃ u,RelV v u∧Look X.env s.heap m x u
 cell:∀ x c,X.env.cells.lookup x=some c→∃ v,s.heap.IsCell c v
 free:H X.env.locals=none
 lG:∀ x c,X.env.cells.lookup x=some c→H c=none
 pin:∀ p∈X.pn ++ pins,s.heap.get? p.1=some p.2∧H p.1=none∧p.1≠X.env.locals∧p.1∉X.fs∧∀ v,p.2.data≠ .cell v
 hok:jk X.prog X.w H s.heap
 len:σ.length=X.N.length
section
variable {X:Cx} {pins:List (Addr ×Obj)} {σ:List (Option V)} {H H':Hp} {s:Shared} {h':Heap}
theorem Cx.Ok.NT (ok:X.Ok) {b:Addr} {o:Obj} (e:X.base.get? b=some o):b∉X.fs:=fun hb=>by
 have:=(ok.qg.mem hb).1
 rw [e] at this;cases this
theorem Inv.bs (I:Inv X pins σ H s):∀ b o,X.base.get? b=some o→s.heap.get? b=some o∧H b=none:=fun b o e=>
 ⟨I.base.keep b o (I.ok.bs b o e).1 (I.ok.bs b o e).2 (I.ok.NT e) (I.ok.BF b o e),I.base.free b o (I.ok.bs b o e).1 (I.ok.bs b o e).2 (I.ok.BF b o e)⟩
theorem Inv.bk (I:Inv X pins σ H s):∀ b o,X.base.get? b=some o→s.heap.get? b=some o:=fun b o e=>(I.bs b o e).1
theorem Inv.mod (I:Inv X pins σ H s):Mod X.K X.mg X.base:=I.ok.mod
theorem Inv.xq (I:Inv X pins σ H s):X.K.In s.heap:=I.ok.mod.IA.keeps I.bk
theorem Inv.lt (I:Inv X pins σ H s):X.env.locals < s.heap.objs.size:=let ⟨_,hn,_⟩:=I.loc;hn.lt
theorem Inv.sz (I:Inv X pins σ H s):X.s₀.heap.objs.size≤s.heap.objs.size:=Wx I.ok.above (Xf I.lt)
theorem Inv.NU (I:Inv X pins σ H s) {a:Addr} (h:s.heap.objs.size≤a):a∉X.fs:=fun hb=>by
 obtain ⟨_,o,ho,_⟩:=I.ok.qg.mem hb
 exact absurd (Vp (Heap.lt_size ho) (Wx I.sz h)) (Wu _)
theorem Inv.IC (I:Inv X pins σ H s):∀ x c,X.env.cells.lookup x=some c→c≠X.env.locals:=fun x c e z=>by
 obtain ⟨v,o,ho,hd⟩:=I.cell x c e
 obtain ⟨m,⟨o',es,ep,ho',hd',_⟩,_⟩:=I.loc
 rw [z,ho'] at ho;cases ho;rw [hd'] at hd;cases hd
theorem Inv.qg (I:Inv X pins σ H s):s.heap.FunFrames X.base X.outer:=by
 have all:∀ (l:List Env),(∀ b∈frs l,b∈X.fs)→X.s₀.heap.FunFrames X.base l→s.heap.FunFrames X.base l:=by
  intro l
  induction l with
  | nil=>intro _ _;trivial
  | cons env r ih=>
    intro hs hl
    obtain ⟨hk,⟨L,o,hf,hn,ho,hd⟩,hr⟩:=hl
    have hL:L∈X.fs:=hs L (by unfold frs;rw [Xw,hf];exact Vz)
    obtain ⟨sl,e⟩:=I.base.slot L o ho (I.ok.IB L hL) hL fun z=>I.ok.BG L z hL
    exact ⟨hk,⟨L,_,hf,hn,e,hd⟩,ih (fun b hb=>hs b (by unfold frs;rw [Xw,hf];exact Vj _ hb)) hr⟩
 exact all X.outer (fun _ hb=>hb) I.ok.qg
theorem Inv.stack (I:Inv X pins σ H s):s.heap.FunFrames X.base X.stack:=by
 rcases I.ok.stk with e | ⟨e,hf⟩
 ·rw [e];exact I.qg
 ·rw [e]
  obtain ⟨m,hn,_⟩:=I.loc
  refine .cons (by rw [I.ok.kind];decide) hf hn ?_ I.qg
  exact Heap.get?_none_of_le (Wx I.ok.Hz I.ok.above)
theorem Inv.zj (I:Inv X pins σ H s):∀ b∈frs X.stack,b∈X.env.locals :: X.fs:=fun b hb=>by
 rcases I.ok.stk with e | ⟨e,hf⟩
 ·rw [e] at hb;exact Vj _ hb
 ·rw [e] at hb
  unfold frs at hb
  rw [Xw,hf] at hb
  exact hb
theorem Inv.AH (I:Inv X pins σ H s):∀ b∈frs X.stack,H b=none:=fun b hb=>by
 rcases Vl.mp (I.zj b hb) with e | hb
 ·rw [e];exact I.free
 ·obtain ⟨_,o,ho,_⟩:=I.ok.qg.mem hb
  exact I.base.free b o ho (I.ok.IB b hb) fun z=>I.ok.BG b z hb
theorem Inv.step {g':Array GenState} {t':Nat} {d':Drawn} {ch:List Addr} (I:Inv X pins σ H s)
 (hch:∀ b∈ch,(b∈X.ex∨X.s₀.heap.objs.size≤b)∧b≠X.env.locals∧(∀ x c,X.env.cells.lookup x=some c→c≠b)∧∀ p∈X.pn ++ pins,p.1≠b)
 (keep:∀ b o,b≠X.env.locals→b∉X.fs→b∉ch→s.heap.get? b=some o→H b=none→h'.get? b=some o)
 (slot:∀ b o,b≠X.env.locals→b∈X.fs→b∉ch→s.heap.get? b=some o→H b=none→∃ sl,h'.get? b=some { o with slots:=sl }) (free:∀ b o,b∉ch→s.heap.get? b=some o→H b=none→H' b=none)
 (there:∀ b o,b∉ch→s.heap.get? b=some o→∃ o',h'.get? b=some o')
 (tups:∀ b xs,H b=some (.tup xs)→H' b=some (.tup xs)) (vC:∀ b o u,H b=some (.lF o u)→H' b=some (.lF o u)) (xE:∀ b ps,H b=some (.Iw ps)→∃ more,H' b=some (.Iw (ps ++ more)))
 (ns:∀ m,s.heap.Ns X.env.locals m→h'.Ns X.env.locals m) (hok:jk X.prog X.w H' h') (hg:AllBare g') :
 Inv X pins σ H' { s with heap:=h',gens:=g',drawn:=d',toks:=t' }:=by
 have Qw:∀ b o,X.s₀.heap.get? b=some o→b≠X.env.locals:=fun b o e=>VQ (Vp (Heap.lt_size e) I.ok.above)
 have Nm:∀ b o,X.s₀.heap.get? b=some o→b∉X.ex→b∉ch:=fun b o e hx hb=>by
  rcases (hch b hb).1 with z | z
  ·exact hx z
  ·exact absurd (Vp (Heap.lt_size e) z) (Wu _)
 have cellK:∀ x c,X.env.cells.lookup x=some c→∀ v,s.heap.IsCell c v→h'.IsCell c v:=fun x c e v ⟨o,ho,hd⟩=>by
  have KS:c∉ch:=fun z=>(hch c z).2.2.1 x c e rfl
  by_cases hc:c∈X.fs
  ·obtain ⟨sl,q⟩:=slot c o (I.IC x c e) hc KS ho (I.lG x c e)
   exact ⟨_,q,hd⟩
  ·exact ⟨o,keep c o (I.IC x c e) hc KS ho (I.lG x c e),hd⟩
 refine ⟨I.ok,I.os,hg,⟨fun b o e n hb hx=>?_,fun b o e n hb hx=>?_,fun b o e n hx=>?_,fun b o e hx=>?_,fun b xs e=>tups b xs (I.base.tups b xs e),fun b o xs e=>vC b o xs (I.base.vC b o xs e),fun b ps e=>?_⟩,?_,fun x c e=>?_,?_,fun x c e=>?_,fun p hp=>?_,hok,I.len⟩
 ·exact keep b o (Qw b o e) hb (Nm b o e hx) (I.base.keep b o e n hb hx) (I.base.free b o e n hx)
 ·obtain ⟨sl,e1⟩:=I.base.slot b o e n hb hx
  obtain ⟨Rz,e2⟩:=slot b _ (Qw b o e) hb (Nm b o e hx) e1 (I.base.free b o e n hx)
  exact ⟨Rz,e2⟩
 ·obtain ⟨o',e1⟩:=I.base.there b o e hx
  exact free b o' (Nm b o e hx) e1 (I.base.free b o e n hx)
 ·obtain ⟨o',e1⟩:=I.base.there b o e hx
  exact there b o' (Nm b o e hx) e1
 ·obtain ⟨m1,e1⟩:=I.base.xE b ps e
  obtain ⟨m2,e2⟩:=xE b _ e1
  exact ⟨m1 ++ m2,by rw [e2,Array.append_assoc]⟩
 ·obtain ⟨m,hn,hl⟩:=I.loc
  refine ⟨m,ns m hn,fun i x v e1 e2 e3=>?_⟩
  obtain ⟨u,r,l⟩:=hl i x v e1 e2 e3
  refine ⟨u,r,?_⟩
  rcases l with l | ⟨k,c,e,z⟩
  ·exact .inl l
  ·exact .inr ⟨k,c,e,cellK x c e _ z⟩
 ·obtain ⟨v,z⟩:=I.cell x c e
  exact ⟨v,cellK x c e v z⟩
 ·obtain ⟨m,⟨o,_,_,ho,_⟩,_⟩:=I.loc
  exact free _ o (fun z=>(hch _ z).2.1 rfl) ho I.free
 ·obtain ⟨v,o,ho,hd⟩:=I.cell x c e
  exact free c o (fun z=>(hch c z).2.2.1 x c e rfl) ho (I.lG x c e)
 ·obtain ⟨e,n,ne,nf,d⟩:=I.pin p hp
  have KS:p.1∉ch:=fun z=>(hch p.1 z).2.2.2 p hp rfl
  exact ⟨keep p.1 p.2 ne nf KS e n,free p.1 p.2 KS e n,ne,nf,d⟩
theorem Inv.un {t':Nat} (I:Inv X pins σ H s) (u:Un X.fs [] H H' s.heap h') (hok:jk X.prog X.w H' h'):Inv X pins σ H' { s with heap:=h',toks:=t' }:=by
 obtain ⟨m,⟨o,es,ep,ho,r⟩,_⟩:=id I.loc
 obtain ⟨sl,hL⟩:=u.any ho I.free (by simp)
 exact I.step (g':=s.gens) (d':=s.drawn) (ch:=[]) (fun _ z=>nomatch z) (fun b o _ hb _ e n=>u.keep b o e n hb (by simp)) (fun b o _ hb _ e n=>u.slot b o e n hb (by simp)) (fun b o _ e n=>u.free b o e n (by simp)) (fun b o _ e=>u.there b o e (by simp)) u.tups u.vC u.xE (fun m' hm=>by
  obtain ⟨o',es',NV,ho',r'⟩:=hm
  rw [ho] at ho';cases ho'
  exact ⟨_,es',NV,hL,r'⟩) hok I.bare
theorem Inv.call {g':Array GenState} {t':Nat} {d':Drawn} {ch:List Addr} (I:Inv X pins σ H s) (u:Un (frs X.stack) ch H H' s.heap h') (hok:jk X.prog X.w H' h') (hg:AllBare g')
 (hch:∀ b∈ch,(b∈X.ex∨X.s₀.heap.objs.size≤b)∧b≠X.env.locals∧(∀ x c,X.env.cells.lookup x=some c→c≠b)∧∀ p∈X.pn ++ pins,p.1≠b) :
 Inv X pins σ H' { s with heap:=h',gens:=g',drawn:=d',toks:=t' }:=by
 obtain ⟨m,⟨o,es,ep,ho,r⟩,_⟩:=id I.loc
 obtain ⟨sl,hL⟩:=u.any ho I.free fun z=>(hch _ z).2.1 rfl
 exact I.step (ch:=ch) hch (fun b o hL hb hc e n=>u.keep b o e n (fun z=>(Vl.mp (I.zj b z)).elim hL hb) hc) (fun b o _ _ hc e n=>u.any e n hc) (fun b o hc e n=>u.free b o e n hc) (fun b o hc e=>u.there b o e hc) u.tups u.vC u.xE (fun m' hm=>by
  obtain ⟨o',es',NV,ho',r'⟩:=hm
  rw [ho] at ho';cases ho'
  exact ⟨_,es',NV,hL,r'⟩) hok hg
theorem Inv.turned {t':Nat} {it:Addr} (I:Inv X pins σ H s) (k:∀ b o,b≠it→s.heap.get? b=some o→h'.get? b=some o) (hn:H it=none) (hL:it≠X.env.locals)
 (h1:it∈X.ex∨X.s₀.heap.objs.size≤it) (h2:∀ x c,X.env.cells.lookup x=some c→c≠it) (h3:∀ p∈X.pn ++ pins,p.1≠it):Inv X pins σ H { s with heap:=h',toks:=t' }:=by
 have KU:∀ b u,H b=some u→b≠it:=fun b u e z=>by rw [z,hn] at e;cases e
 refine I.step (g':=s.gens) (d':=s.drawn) (ch:=[it]) (fun b hb=>?_) (fun b o _ _ hc e _=>k b o (fun z=>hc (by simp [z])) e) (fun b o _ _ hc e _=>⟨o.slots,k b o (fun z=>hc (by simp [z])) e⟩) (fun _ _ _ _ n=>n)
  (fun b o hc e=>⟨o,k b o (fun z=>hc (by simp [z])) e⟩) (fun _ _ e=>e) (fun _ _ _ e=>e) (fun b ps e=>⟨#[],by rw [e];simp⟩) (fun m hm=>?_) (fun b u e=>?_) I.bare
 ·have e:b=it:=by simpa using hb
  subst e
  exact ⟨h1,hL,h2,h3⟩
 ·obtain ⟨o,es,ep,ho,r⟩:=hm
  exact ⟨o,es,ep,k _ o (Ne.symm hL) ho,r⟩
 ·refine (I.hok b u e).stay (fun c v hc q=>k c v ?_ q) (fun _ q=>q) fun _ _ q=>q
  rcases hc with z | z
  ·rw [z];exact KU b u e
  ·exact KU c _ z
theorem Inv.tok (I:Inv X pins σ H s) (t:Nat):Inv X pins σ H { s with toks:=t }:=I.un (h':=s.heap) (t':=t) Un.refl I.hok
theorem Inv.kept {t':Nat} (I:Inv X pins σ H s) (k:∀ b u,s.heap.get? b=some u→h'.get? b=some u):Inv X pins σ H { s with heap:=h',toks:=t' }:=I.un (Un.kept k) (I.hok.kept k)
theorem Inv.laid {a:Addr} {o:HO} {t':Nat} (I:Inv X pins σ H s) (k:∀ b u,s.heap.get? b=some u→h'.get? b=some u) (hp:s.heap.objs.size≤a) (new:cF X.prog X.w (upd H a o) h' a o) :
 Inv X pins σ (upd H a o) { s with heap:=h',toks:=t' }:=I.un (Un.laid k hp (I.hok.fresh hp)) (I.hok.laid k hp new)
theorem Inv.write {x e:Addr} {o:HO} {t':Nat} (I:Inv X pins σ H s) (mu:Nk (H x)) (he:e=x∨H e=some (.own x)) (k:∀ b u,b≠e→s.heap.get? b=some u→h'.get? b=some u) (KC:∃ u,h'.get? e=some u)
 (new:cF X.prog X.w (upd H x o) h' x o):Inv X pins σ (upd H x o) { s with heap:=h',toks:=t' }:=I.un (Un.write mu he k KC) (I.hok.write mu he k KC new)
theorem Inv.qB {HA:List (Addr ×Obj)} (I:Inv X pins σ H s) (h:∀ p∈HA,s.heap.get? p.1=some p.2∧H p.1=none∧p.1≠X.env.locals∧p.1∉X.fs∧∀ v,p.2.data≠ .cell v):Inv X HA σ H s:=
 ⟨I.ok,I.os,I.bare,I.base,I.loc,I.cell,I.free,I.lG,fun p hp=>(Vv.mp hp).elim (fun z=>I.pin p (Vq _ z)) (h p),I.hok,I.len⟩
theorem xF {N:List Str} (hN:N.Nodup) {i j:Nat} {x:Str} (a:N[i]?=some x) (b:N[j]?=some x):i=j:=by
 obtain ⟨h1,e1⟩:=VO.mp a
 obtain ⟨h2,e2⟩:=VO.mp b
 exact (List.getElem_inj hN).mp (e1.trans e2.symm)
theorem BH {M:Model} {A:Around} {E:Value→Shared→Prop} {i:Nat} {x:Str} {v:V} {u:Value} {Q:Unit→Shared→Prop} (I:Inv X pins σ H s) (hN:X.N.Nodup) (hi:X.N[i]?=some x) (hx:Loc X.env.scope x) (r:RelV v u)
 (h:∀ s',Inv X pins (σ.set i (some v)) H s'→(∃ a,Heap.SameBut a s.heap s'.heap∧(a=X.env.locals∨X.env.cells.lookup x=some a))→Q () s') (hf:X.fn x=true∨X.env.scope.names.lookup x=some .local:=by first | exact .inl rfl | exact .inr rfl | assumption):wpAny M A (storeName X.env x u) Q E s:=by
 obtain ⟨m,hn,hl⟩:=id I.loc
 have hcls:(X.env.scope.kind == .class || (X.env.scope.kind == .module && X.env.locals !=X.env.globals))=false:=by rw [I.ok.kind];rfl
 have Qx:i < σ.length:=by rw [I.len];exact (VO.mp hi).1
 have IC:=I.IC
 have tracked:∀ {a:Addr} {h':Heap},(∃ o,s.heap.get? a=some o∧H a=none)→Heap.SameBut a s.heap h'→jk X.prog X.w H h':=fun {a h'} ha hs b ob e=>by
  obtain ⟨_,_,hfree⟩:=ha
  refine (I.hok b ob e).stay (fun c w' hc q=>(hs.2 c ?_).trans q) (fun _ q=>q) fun _ _ q=>q
  rintro rfl
  rcases hc with rfl | hc
  ·rw [hfree] at e;cases e
  ·rw [hfree] at hc;cases hc
 rcases hx with hk | hk
 ·refine wpAny_storeName_local hk hn (fun h' hn' hs=>?_) hcls
  obtain ⟨oL,_,_,RA,_⟩:=id hn
  refine h _ ⟨I.ok,I.os,I.bare,⟨fun b o e n hb hx=>?_,fun b o e n hb hx=>?_,I.base.free,fun b o e hx=>?_,I.base.tups,I.base.vC,I.base.xE⟩,⟨_,hn',fun j y v' e1 e2 e3=>?_⟩,fun y c e=>?_,I.free,I.lG,fun p hp=>?_,tracked ⟨oL,RA,I.free⟩ hs,by simpa using I.len⟩ ⟨_,hs,.inl rfl⟩
  ·exact (hs.2 b (VQ (Vp (Heap.lt_size e) I.ok.above))).trans (I.base.keep b o e n hb hx)
  ·obtain ⟨sl,e1⟩:=I.base.slot b o e n hb hx
   exact ⟨sl,(hs.2 b (VQ (Vp (Heap.lt_size e) I.ok.above))).trans e1⟩
  ·obtain ⟨o',e1⟩:=I.base.there b o e hx
   exact ⟨o',(hs.2 b (VQ (Vp (Heap.lt_size e) I.ok.above))).trans e1⟩
  ·by_cases hj:j=i
   ·subst hj
    rw [hi] at e1;cases e1
    rw [WX Qx] at e2
    cases e2
    exact ⟨u,r,.inl ⟨hk,by simp⟩⟩
   ·rw [Xr (Ne.symm hj)] at e2
    obtain ⟨u',r',q⟩:=hl j y v' e1 e2 e3
    refine ⟨u',r',?_⟩
    rcases q with ⟨k,e⟩ | ⟨k,c,e,z⟩
    ·refine .inl ⟨k,?_⟩
     have:y≠x:=fun e=>hj (xF hN e1 (e▸hi))
     simp [this,e]
    ·exact .inr ⟨k,c,e,z.sameBut hs (IC y c e)⟩
  ·obtain ⟨w',z⟩:=I.cell y c e
   exact ⟨w',z.sameBut hs (IC y c e)⟩
  ·obtain ⟨e,n,ne,nf,d⟩:=I.pin p hp
   exact ⟨(hs.2 p.1 ne).trans e,n,ne,nf,d⟩
 ·have hfn:X.fn x=true:=by
   rcases hf with z | z
   ·exact z
   ·rw [z] at hk;cases hk
  obtain ⟨c,hc⟩:=I.ok.has x (.inl hk)
  obtain ⟨w',z⟩:=I.cell x c hc
  refine wpAny_storeName_cell I.ok.kind hk hc z (fun h' hc' hs=>?_)
  obtain ⟨oc,hoc,NW⟩:=id z
  refine h { s with heap:=h' } ⟨I.ok,I.os,I.bare,⟨fun b o e n hb hx=>?_,fun b o e n hb hx=>?_,I.base.free,fun b o e hx=>?_,I.base.tups,I.base.vC,I.base.xE⟩,⟨m,hn.sameBut hs (Ne.symm (IC x c hc)),fun j y v' e1 e2 e3=>?_⟩,fun y c' e=>?_,I.free,I.lG,fun p hp=>?_,tracked ⟨oc,hoc,I.lG x c hc⟩ hs,by simpa using I.len⟩ ⟨c,hs,.inr hc⟩
  ·exact (hs.2 b (VQ (Vp (Heap.lt_size e) (I.ok.KD x c hfn hc)))).trans (I.base.keep b o e n hb hx)
  ·obtain ⟨sl,e1⟩:=I.base.slot b o e n hb hx
   exact ⟨sl,(hs.2 b (VQ (Vp (Heap.lt_size e) (I.ok.KD x c hfn hc)))).trans e1⟩
  ·obtain ⟨o',e1⟩:=I.base.there b o e hx
   exact ⟨o',(hs.2 b (VQ (Vp (Heap.lt_size e) (I.ok.KD x c hfn hc)))).trans e1⟩
  ·by_cases hj:j=i
   ·subst hj
    rw [hi] at e1;cases e1
    rw [WX Qx] at e2
    cases e2
    exact ⟨u,r,.inr ⟨.inl hk,c,hc,hc'⟩⟩
   ·rw [Xr (Ne.symm hj)] at e2
    obtain ⟨u',r',q⟩:=hl j y v' e1 e2 e3
    refine ⟨u',r',?_⟩
    rcases q with q | ⟨k,c',e,z'⟩
    ·exact .inl q
    ·refine .inr ⟨k,c',e,z'.sameBut hs ?_⟩
     rintro rfl
     exact hj (xF hN e1 (I.ok.inj _ _ _ e hc▸hi))
  ·by_cases hcc:c'=c
   ·subst hcc;exact ⟨_,hc'⟩
   ·obtain ⟨w2,z2⟩:=I.cell y c' e
    exact ⟨w2,z2.sameBut hs hcc⟩
  ·obtain ⟨e,n,ne,nf,d⟩:=I.pin p hp
   refine ⟨(hs.2 p.1 ?_).trans e,n,ne,nf,d⟩
   intro q
   rw [q,hoc] at e
   have q':oc=p.2:=Option.some.inj e
   exact d w' (by rw [← q'];exact NW)
theorem xG {M:Model} {A:Around} {E:Value→Shared→Prop} {i:Nat} {x:Str} {v:V} {u:Value} {Q:Unit→Shared→Prop} (I:Inv X pins σ H s) (hN:X.N.Nodup) (hi:X.N[i]?=some x) (hx:Loc X.env.scope x) (r:RelV v u)
 (h:∀ s',Inv X pins (σ.set i (some v)) H s'→Q () s') (hf:X.fn x=true∨X.env.scope.names.lookup x=some .local:=by first | exact .inl rfl | exact .inr rfl | assumption):wpAny M A (storeName X.env x u) Q E s:=
 BH I hN hi hx r (fun s' I' _=>h s' I') hf
theorem Inv.KW {s':Shared} {ch:List Addr} (I:Inv X pins σ H s) (ho:s'.os=s.os) (u:Un (frs X.stack) ch H H' s.heap s'.heap) (hok:jk X.prog X.w H' s'.heap) (hg:AllBare s'.gens)
 (hch:∀ b∈ch,(b∈X.ex∨X.s₀.heap.objs.size≤b)∧b≠X.env.locals∧(∀ x c,X.env.cells.lookup x=some c→c≠b)∧∀ p∈X.pn ++ pins,p.1≠b):Inv X pins σ H' s':=by
 obtain ⟨h',g',d',t',o'⟩:=s'
 have e:o'=s.os:=ho
 subst e
 exact I.call (g':=g') (t':=t') (d':=d') u hok hg hch
end
abbrev XK:=Value→Option Addr→Hp→Prop
abbrev St:=List (Option V)
abbrev VK:=V→Hp→Prop
abbrev TE:=St→Hp→VK→Prop
abbrev TT:=St→Hp→(Bool→Hp→Prop)→Prop
abbrev TA:=St→Hp→(List V→Hp→Prop)→Prop
structure Ends where
 nx:St→Hp→Prop
 rt:VK
 bk:St→Hp→Prop:=fun _ _=>False
 ct:St→Hp→Prop:=fun _ _=>False
abbrev TS:=Ends→St→Hp→Prop
def EP (X:Cx) (pins:List (Addr ×Obj)) (σ:St) (Q:VK) (u:Value) (s':Shared):Prop:= ∃ v H',Inv X pins σ H' s'∧RelV v u∧Q v H'
def TP (X:Cx) (pins:List (Addr ×Obj)) (σ:St) (Q:Bool→Hp→Prop) (b:Bool) (s':Shared):Prop:= ∃ H',Inv X pins σ H' s'∧Q b H'
def AP (X:Cx) (pins:List (Addr ×Obj)) (σ:St) (Q:List V→Hp→Prop) (us:List Value) (s':Shared):Prop:= ∃ vs H',Inv X pins σ H' s'∧Vals vs us∧Q vs H'
def SP (X:Cx) (pins:List (Addr ×Obj)) (D:Ends) (f:Flow) (s':Shared):Prop:=
 match f with
 | .next=> ∃ σ' H',Inv X pins σ' H' s'∧D.nx σ' H'
 | .brk=> ∃ σ' H',Inv X pins σ' H' s'∧D.bk σ' H'
 | .cont=> ∃ σ' H',Inv X pins σ' H' s'∧D.ct σ' H'
 | .ret u=> ∃ v σ' H',Inv X pins σ' H' s'∧RelV v u∧D.rt v H'
def PE (X:Cx) (e:Expr) (t:TE):Prop:=
 ∀ (pins:List (Addr ×Obj)) (s:Shared) (σ:St) (H:Hp) (Q:VK),Inv X pins σ H s→t σ H Q→wpAny (model X.prog X.w) X.A (eval e X.env) (EP X pins σ Q) X.xe s
def PT (X:Cx) (e:Expr) (t:TT):Prop:=
 ∀ (pins:List (Addr ×Obj)) (s:Shared) (σ:St) (H:Hp) (Q:Bool→Hp→Prop),Inv X pins σ H s→t σ H Q→wpAny (model X.prog X.w) X.A (isTrue e X.env (eval e X.env)) (TP X pins σ Q) X.xe s
def PW (X:Cx) (e:Expr) (t:TT):Prop:=
 ∀ (whole:Sem Value) (pins:List (Addr ×Obj)) (s:Shared) (σ:St) (H:Hp) (Q:Bool→Hp→Prop),Inv X pins σ H s→t σ H Q→wpAny (model X.prog X.w) X.A (isTrue e X.env whole) (TP X pins σ Q) X.xe s
def PA (X:Cx) (es:List Expr) (t:TA):Prop:=
 ∀ (pos:Pos) (pins:List (Addr ×Obj)) (s:Shared) (σ:St) (H:Hp) (Q:List V→Hp→Prop),Inv X pins σ H s→t σ H Q→wpAny (model X.prog X.w) X.A (spliced (backTo pos (starEach es X.env))) (AP X pins σ Q) X.xe s
def PS (X:Cx) (st:Stmt) (t:TS):Prop:=
 ∀ (pins:List (Addr ×Obj)) (s:Shared) (σ:St) (H:Hp) (D:Ends),Inv X pins σ H s→t D σ H→wpAny (model X.prog X.w) X.A (exec st X.env) (SP X pins D) X.xe s
def zk (X:Cx) (st:List Stmt) (t:TS):Prop:=
 ∀ (pins:List (Addr ×Obj)) (s:Shared) (σ:St) (H:Hp) (D:Ends),Inv X pins σ H s→t D σ H→wpAny (model X.prog X.w) X.A (execs st X.env) (SP X pins D) X.xe s
theorem cM {α:Type} {t:Sem α} {Q Q':α→Shared→Prop} {M:Model} {A:Around} {E:Value→Shared→Prop} {s:Shared} (h:wpAny M A t Q E s) (hQ:∀ a s,Q a s→Q' a s):wpAny M A t Q' E s:=wpAny_mono h hQ fun _ _ x=>x
end L2
namespace L2
open PySem PySem.Spec PyProof.Rows
section
variable {X:Cx}
def NX (i:Nat):TE:=fun σ H Q=> ∃ v,σ[i]?=some (some v)∧Q v H
def tC (v:V):TE:=fun _ H Q=>Q v H
theorem ID {i:Nat} {x:Str} {pos:Pos} (hN:X.N[i]?=some x) (hv:NS X.env.scope x) (hd:(x == ("__debug__" :Str))=false:=by decide) (hcd:(x == ("__classdict__" :Str))=false:=by decide):PE X (.Name x pos) (NX i):=by
 intro pins s σ H Q I h
 obtain ⟨v,e,h⟩:=h
 obtain ⟨m,hn,hl⟩:=I.loc
 obtain ⟨u,r,l⟩:=hl i x v hN e hv
 have fin:EP X pins σ Q u s:=⟨v,H,I,r,h⟩
 rcases l with ⟨hk,hm⟩ | ⟨hk,c,hc,hcell⟩
 ·exact wpAny_Name (wpAny_loadName_local I.ok.kind hk hn hm fin) hd
 ·rcases hk with hk | hk
  ·exact wpAny_Name (wpAny_loadName_cell I.ok.kind hk hc hcell fin) hd
  ·exact wpAny_Name (wpAny_loadName_free I.ok.kind hk hc hcell fin hcd) hd
theorem IE {i j pos}:PE X (.Constant (.int i) j pos) (tC (.int i)):=fun _ _ _ H _ I h=>wpAny_Constant_int ⟨.int i,H,I.tok _,⟨_,rfl⟩,h⟩
theorem KY {b j pos}:PE X (.Constant (.bool b) j pos) (tC (.bl b)):=fun _ _ _ H _ I h=>Constant_bool ⟨.bl b,H,I,rfl,h⟩
theorem IF {j pos}:PE X (.Constant .none j pos) (tC .aZ):=fun _ _ _ H _ I h=>Constant_none ⟨.aZ,H,I,rfl,h⟩
def Gl (X:Cx) (x:Str):Prop:=X.env.kindOf x=some .globalImplicit
theorem Ft {E:Value→Shared→Prop} {pins:List (Addr ×Obj)} {s:Shared} {σ:St} {H:Hp} {x:Str} {u:Value} {pos:Pos} {Q:Value→Shared→Prop} (I:Inv X pins σ H s) (hg:Gl X x) (hm:X.mg x=some u) (h:Q u s)
 (hd:(x == ("__debug__" :Str))=false:=by decide):wpAny (model X.prog X.w) X.A (eval (.Name x pos) X.env) Q E s:=
 Calls.Name_function_global I.ok.kind hg (Calls.loadGlobal_global (by rw [I.ok.glob];exact I.mod.glob.keeps I.bk) hm h) hd
theorem jT {E:Value→Shared→Prop} {pins:List (Addr ×Obj)} {s:Shared} {σ:St} {H:Hp} {x:Str} {u:Value} {pos:Pos} {Q:Value→Shared→Prop} (I:Inv X pins σ H s) (hg:Gl X x) (hm:X.mg x=none) (hv:bootBuiltins x=some u) (h:Q u s)
 (hn:x≠"__name__" :=by decide) (hd:(x == ("__debug__" :Str))=false:=by decide):wpAny (model X.prog X.w) X.A (eval (.Name x pos) X.env) Q E s:=by
 obtain ⟨mb,h1,h2⟩:=I.mod.blt
 exact Calls.Name_function_global I.ok.kind hg (Calls.loadGlobal_builtin (by rw [I.ok.glob];exact I.mod.glob.keeps I.bk) hm (by rw [I.ok.blt];exact h1.keeps I.bk) ((h2 x hn).trans hv) h) hd
theorem Fv {x:Str} {v:V} {u:Value} {pos:Pos} (hg:Gl X x) (hm:X.mg x=none) (hv:bootBuiltins x=some u) (r:RelV v u) (hn:x≠"__name__" :=by decide) (hd:(x == ("__debug__" :Str))=false:=by decide):PE X (.Name x pos) (tC v):=
 fun _ _ _ H _ I h=>jT I hg hm hv ⟨v,H,I,r,h⟩ hn hd
variable {a b:Expr} {ta tb:TE} {pos:Pos}
def tB (t:TE):TT:=fun σ H Q=>t σ H fun x H1=> ∃ c,x= .bl c∧Q c H1
variable {tA Nn:TT} {rest:List Expr}
def NY (t u:TT):TT:=fun σ H Q=>t σ H fun c H1=>if c=true then u σ H1 Q else Q false H1
def RB (t u:TT):TT:=fun σ H Q=>t σ H fun c H1=>if c=true then Q true H1 else u σ H1 Q
def NZ (t:TT):TT:=fun σ H Q=>t σ H fun c H1=>Q (!c) H1
theorem pw_and1 (ha:PT X a tA):PW X (.BoolOp .And [a] pos) tA:=by
 intro wh pins s σ H Q I h
 refine isTrue_and (cM (ha pins s σ H Q I h) fun c s1 e=>?_)
 cases c with
 | true=>exact isTrue_and_nil e
 | false=>exact e
theorem pw_or1 (ha:PT X a tA):PW X (.BoolOp .Or [a] pos) tA:=by
 intro wh pins s σ H Q I h
 refine isTrue_or (cM (ha pins s σ H Q I h) fun c s1 e=>?_)
 cases c with
 | false=>exact isTrue_or_nil e
 | true=>exact e
theorem pw_and (ha:PT X a tA) (hb:PW X (.BoolOp .And (b :: rest) pos) Nn):PW X (.BoolOp .And (a :: b :: rest) pos) (NY tA Nn):=by
 intro wh pins s σ H Q I h
 refine isTrue_and (cM (ha pins s σ H _ I h) fun c s1 ⟨H1,I1,q1⟩=>?_)
 cases c with
 | true=>exact hb wh pins s1 σ H1 Q I1 q1
 | false=>exact ⟨H1,I1,q1⟩
theorem pw_or (ha:PT X a tA) (hb:PW X (.BoolOp .Or (b :: rest) pos) Nn):PW X (.BoolOp .Or (a :: b :: rest) pos) (RB tA Nn):=by
 intro wh pins s σ H Q I h
 refine isTrue_or (cM (ha pins s σ H _ I h) fun c s1 ⟨H1,I1,q1⟩=>?_)
 cases c with
 | true=>exact ⟨H1,I1,q1⟩
 | false=>exact hb wh pins s1 σ H1 Q I1 q1
theorem IG (ha:PT X a tA):PT X (.UnaryOp .Not a pos) (NZ tA):=by
 intro pins s σ H Q I h
 exact isTrue_not (ha pins s σ H (fun c H1=>Q (!c) H1) I h)
def KZ (ta tb:TE):TE:=fun σ H Q=>ta σ H fun x H1=> ∃ c,x= .bl c∧if c=true then tb σ H1 Q else Q (.bl false) H1
def Oa (ta tb:TE):TE:=fun σ H Q=>ta σ H fun x H1=> ∃ c,x= .bl c∧if c=true then Q (.bl true) H1 else tb σ H1 Q
theorem II (ha:PE X a ta) (hb:PE X (.BoolOp .And (b :: rest) pos) tb):PE X (.BoolOp .And (a :: b :: rest) pos) (KZ ta tb):=by
 intro pins s σ H Q I h
 refine BoolOp_and (cM (ha pins s σ H _ I h) fun v s1 ⟨x,H1,I1,r1,q1⟩=>?_)
 obtain ⟨c,rfl,q1⟩:=q1
 cases r1
 refine wpAny_truthy_bool ?_
 cases c with
 | true=>exact hb pins s1 σ H1 Q I1 q1
 | false=>exact ⟨.bl false,H1,I1,rfl,q1⟩
theorem K0 (ha:PE X a ta) (hb:PE X (.BoolOp .Or (b :: rest) pos) tb):PE X (.BoolOp .Or (a :: b :: rest) pos) (Oa ta tb):=by
 intro pins s σ H Q I h
 refine BoolOp_or (cM (ha pins s σ H _ I h) fun v s1 ⟨x,H1,I1,r1,q1⟩=>?_)
 obtain ⟨c,rfl,q1⟩:=q1
 cases r1
 refine wpAny_truthy_bool ?_
 cases c with
 | false=>exact hb pins s1 σ H1 Q I1 q1
 | true=>exact ⟨.bl true,H1,I1,rfl,q1⟩
def RC (t:TT) (ta tb:TE):TE:=fun σ H Q=>t σ H fun c H1=>if c=true then ta σ H1 Q else tb σ H1 Q
theorem C0 {c:Expr} (hc:PT X c tA) (ha:PE X a ta) (hb:PE X b tb):PE X (.IfExp c a b pos) (RC tA ta tb):=by
 intro pins s σ H Q I h
 refine wpAny_IfExp (cM (hc pins s σ H _ I h) fun d s1 ⟨H1,I1,q1⟩=>?_)
 cases d with
 | true=>exact ha pins s1 σ H1 Q I1 q1
 | false=>exact hb pins s1 σ H1 Q I1 q1
end
end L2
namespace L2
open PySem PySem.Spec PyProof.Rows
def iI (K:PySem.W.Frag) (H:Hp) (a:Addr) (xs:List V):Prop:=
 Rd H a (.lst xs)∨
  ∃ (o:Obj) (its:Array Value) (n:Nat),K.lookup a=some o∧o.cls= .type "list"∧o.dict=none∧o.data= .seq its n∧its.size≤sizeLine∧Vals xs its.toList
def qC (K:PySem.W.Frag) (H:Hp) (a:Addr) (xs:List V):Prop:=
 Rd H a (.tup xs)∨
  ∃ (o:Obj) (its:Array Value) (n:Nat),K.lookup a=some o∧o.cls= .type "tuple"∧o.data= .seq its n∧its.size≤sizeLine∧Vals xs its.toList
def K1:Value→Option V
 | .none=>some .aZ
 | .bool b=>some (.bl b)
 | .int i _=>some (.int i)
 | .str x _=>some (.str x)
 | .bytes b _=>some (.CY b)
 | .float b _=>some (.KA b)
 | .ref a=>some (.ref a)
 | .type n=>some (.ty n)
 | _=>none
theorem RelV.abs {x:V} {u:Value} (r:RelV x u):K1 u=some x:=by
 cases x with
 | aZ=>cases r;rfl
 | bl _=>cases r;rfl
 | int _=>obtain ⟨t,rfl⟩:=r;rfl
 | str _=>obtain ⟨t,rfl⟩:=r;rfl
 | CY _=>obtain ⟨t,rfl⟩:=r;rfl
 | KA _=>obtain ⟨t,rfl⟩:=r;rfl
 | ref _=>cases r;rfl
 | ty _=>cases r;rfl
theorem RelV.inj {x y:V} {u:Value} (r:RelV x u) (q:RelV y u):x=y:=Option.some.inj (r.abs.symm.trans q.abs)
theorem Vals.inj:∀ {xs ys:List V} {us:List Value},Vals xs us→Vals ys us→xs=ys
 | _,_,_,.nil,.nil=>rfl
 | _,_,_,.cons r t,.cons r' t'=>by rw [r.inj r',Vals.inj t t']
section
variable {X:Cx} {pins:List (Addr ×Obj)} {σ:St} {H:Hp} {s:Shared} {a:Addr} {xs ys:List V}
theorem iI.of {K:PySem.W.Frag} (h:H a=some (.lst xs)):iI K H a xs:= .inl (.inl h)
theorem qC.of {K:PySem.W.Frag} (h:H a=some (.tup xs)):qC K H a xs:= .inl (.inl h)
theorem Inv.list (I:Inv X pins σ H s) (h:iI X.K H a xs):∃ its:List Value,Vals xs its∧PlainL s.heap a its.toArray∧xs.length≤sizeLine:=by
 rcases h with h | ⟨o,its,n,hk,hc,hd,hs,hz,r⟩
 ·obtain ⟨z,its,n,r,e⟩:=h.ok I.hok
  exact ⟨its,r,⟨_,n,e,rfl,rfl,rfl⟩,z⟩
 ·refine ⟨its.toList,r,⟨o,n,I.xq a o hk,hc,hd,by simpa using hs⟩,?_⟩
  have e:=r.length
  simp only [Array.length_toList] at e
  omega
theorem Inv.tuple (I:Inv X pins σ H s) (h:qC X.K H a xs):∃ its:List Value,Vals xs its∧IsTup s.heap a its.toArray∧xs.length≤sizeLine:=by
 rcases h with h | ⟨o,its,n,hk,hc,hs,hz,r⟩
 ·obtain ⟨z,its,r,p⟩:=h.ok I.hok
  exact ⟨its,r,p,z⟩
 ·refine ⟨its.toList,r,⟨o,I.xq a o hk,hc,n,by simpa using hs⟩,?_⟩
  have e:=r.length
  simp only [Array.length_toList] at e
  omega
theorem Inv.C3 (I:Inv X pins σ H s) (h:iI X.K H a xs) (h':iI X.K H a ys):xs=ys:=by
 obtain ⟨its,r,⟨o,n,e,_,_,d⟩,_⟩:=I.list h
 obtain ⟨its',r',⟨o',n',e',_,_,d'⟩,_⟩:=I.list h'
 rw [e] at e';cases e'
 rw [d] at d'
 injection d' with d1 _
 have:its=its':=by simpa using congrArg Array.toList d1
 subst this
 exact r.inj r'
theorem Inv.BI (I:Inv X pins σ H s) (h:qC X.K H a xs) (h':qC X.K H a ys):xs=ys:=by
 obtain ⟨its,r,⟨o,e,_,n,d⟩,_⟩:=I.tuple h
 obtain ⟨its',r',⟨o',e',_,n',d'⟩,_⟩:=I.tuple h'
 rw [e] at e';cases e'
 rw [d] at d'
 injection d' with d1 _
 have:its=its':=by simpa using congrArg Array.toList d1
 subst this
 exact r.inj r'
end
abbrev Cx.tP (X:Cx) (E:Value→Shared→Prop):Cx:={ X with xe:=E }
abbrev Cx.Fe (X:Cx):Cx:=X.tP fun _ _=>False
theorem Cx.Ok.tP {X:Cx} (ok:X.Ok) (E:Value→Shared→Prop):(X.tP E).Ok:=
 ⟨ok.mod,ok.kind,ok.glob,ok.blt,ok.above,ok.inj,ok.has,ok.KD,ok.hd,ok.frames,ok.stk,ok.KR,ok.bs,ok.Hz,ok.BF,ok.BG,ok.qg,ok.IB⟩
theorem Cx.Ok.jU {X:Cx} {E:Value→Shared→Prop} (ok:(X.tP E).Ok):X.Ok:=
 ⟨ok.mod,ok.kind,ok.glob,ok.blt,ok.above,ok.inj,ok.has,ok.KD,ok.hd,ok.frames,ok.stk,ok.KR,ok.bs,ok.Hz,ok.BF,ok.BG,ok.qg,ok.IB⟩
section
variable {X:Cx} {pins:List (Addr ×Obj)} {σ:St} {H:Hp} {s:Shared} {E:Value→Shared→Prop}
theorem Inv.tP (I:Inv X pins σ H s) (E:Value→Shared→Prop):Inv (X.tP E) pins σ H s:=⟨I.ok.tP E,I.os,I.bare,I.base,I.loc,I.cell,I.free,I.lG,I.pin,I.hok,I.len⟩
theorem Inv.jU (I:Inv (X.tP E) pins σ H s):Inv X pins σ H s:=⟨I.ok.jU,I.os,I.bare,I.base,I.loc,I.cell,I.free,I.lG,I.pin,I.hok,I.len⟩
theorem SP.jU {D:Ends} {f:Flow} {s':Shared} (h:SP (X.tP E) pins D f s'):SP X pins D f s':=by
 cases f with
 | next=>obtain ⟨σ',H',I,q⟩:=h;exact ⟨σ',H',I.jU,q⟩
 | brk=>obtain ⟨σ',H',I,q⟩:=h;exact ⟨σ',H',I.jU,q⟩
 | cont=>obtain ⟨σ',H',I,q⟩:=h;exact ⟨σ',H',I.jU,q⟩
 | ret u=>obtain ⟨v,σ',H',I,r,q⟩:=h;exact ⟨v,σ',H',I.jU,r,q⟩
theorem zk.Fe {st:List Stmt} {t:TS} (h:zk X.Fe st t):zk X st t:=fun pins s σ H D I hw=>
 wpAny_mono (h pins s σ H D (I.tP _) hw) (fun _ _ q=>q.jU) fun _ _ z=>False.elim z
end
section
variable {X:Cx} {st:Stmt} {rest:List Stmt} {t u:TS} {e:Expr} {te:TE} {pos:Pos}
def K2:TS:=fun D σ H=>D.nx σ H
def Ob (t u:TS):TS:=fun D σ H=>t { D with nx:=u D } σ H
theorem Fw:zk X [] K2:=fun _ _ σ H _ I h=>wpAny_execs_nil ⟨σ,H,I,h⟩
theorem C4 (h1:PS X st t) (h2:zk X rest u):zk X (st :: rest) (Ob t u):=by
 intro pins s σ H D I h
 refine wpAny_execs_cons (cM (h1 pins s σ H { D with nx:=u D } I h) fun f s1 q=>?_)
 cases f with
 | next=>
   obtain ⟨σ',H',I',q⟩:=q
   exact h2 pins s1 σ' H' D I' q
 | ret v=>exact q
 | brk=>exact q
 | cont=>exact q
theorem Fx (h1:PS X st t):zk X [st] t:=by
 intro pins s σ H D I h
 refine wpAny_execs_cons (cM (h1 pins s σ H D I h) fun f s1 q=>?_)
 cases f with
 | next=>exact wpAny_execs_nil q
 | ret v=>exact q
 | brk=>exact q
 | cont=>exact q
theorem Inv.quiet {pins:List (Addr ×Obj)} {σ:St} {H:Hp} {s:Shared} (I:Inv X pins σ H s):interactive X.env=false:=by simp [interactive,I.ok.kind]
def K3 (te:TE):TS:=fun D σ H=>te σ H fun _ H1=>D.nx σ H1
theorem Fy (he:PE X e te) (hs:swapsWith e none pos.line X.env=pure false:=by rfl):PS X (.Expr e pos) (K3 te):=by
 intro pins s σ H D I h
 exact wpAny_Expr_any (cM (he pins s σ H _ I h) fun v s1 ⟨x,H1,I1,r1,q1⟩=>⟨σ,H1,I1,q1⟩) I.quiet hs
def Oc (te:TE):TS:=fun D σ H=>te σ H D.rt
theorem IJ (he:PE X e te):PS X (.Return (some e) pos) (Oc te):=by
 intro pins s σ H D I h
 exact wpAny_Return_some (cM (he pins s σ H _ I h) fun v s1 ⟨x,H1,I1,r1,q1⟩=>⟨x,σ,H1,I1,r1,q1⟩)
def Od (c:TT) (t u:TS):TS:=fun D σ H=>c σ H fun b H1=>if b=true then t D σ H1 else u D σ H1
theorem K4 {c:Expr} {a b:List Stmt} {tc:TT} (hc:PT X c tc) (ha:zk X a t) (hb:zk X b u):PS X (.If c a b pos) (Od tc t u):=by
 intro pins s σ H D I h
 refine wpAny_If (cM (hc pins s σ H _ I h) fun d s1 ⟨H1,I1,q1⟩=>?_)
 cases d with
 | true=>exact ha pins s1 σ H1 D I1 q1
 | false=>exact hb pins s1 σ H1 D I1 q1
end
abbrev TG:=V→St→Hp→(St→Hp→Prop)→Prop
def PG (X:Cx) (target:Expr) (t:TG):Prop:=
 ∀ (pins:List (Addr ×Obj)) (s:Shared) (σ:St) (H:Hp) (v:V) (u:Value) (Q:St→Hp→Prop),Inv X pins σ H s→RelV v u→t v σ H Q→
   wpAny (model X.prog X.w) X.A (assign target X.env u) (fun _ s'=> ∃ σ' H',Inv X pins σ' H' s'∧Q σ' H') X.xe s
abbrev FA:=V→V→V→Hp→(Hp→Prop)→Prop
def K5 (X:Cx) (t:FA):Prop:=
 ∀ (pins:List (Addr ×Obj)) (s:Shared) (σ:St) (H:Hp) (o i v:V) (ov iv u:Value) (Q:Hp→Prop),Inv X pins σ H s→RelV o ov→RelV i iv→RelV v u→t o i v H Q→
   wpAny (model X.prog X.w) X.A (setItem ov iv u) (fun _ s'=> ∃ H',Inv X pins σ H' s'∧Q H') X.xe s
section
variable {X:Cx} {pos:Pos}
def HB (i:Nat):TG:=fun v σ H Q=>Q (σ.set i (some v)) H
theorem FD {i:Nat} {x:Str} (hN:X.N.Nodup) (hi:X.N[i]?=some x) (hx:Loc X.env.scope x) (hf:X.fn x=true∨X.env.scope.names.lookup x=some .local:=by first | exact .inl rfl | exact .inr rfl | assumption):PG X (.Name x pos) (HB i):=by
 intro pins s σ H v u Q I r h
 exact wpAny_assign_Name (xG I hN hi hx r (fun s' I'=>⟨_,H,I',h⟩) hf)
def Oe (to ti:TE) (t:FA):TG:=fun v σ H Q=>to σ H fun o H1=>ti σ H1 fun i H2=>t o i v H2 fun H3=>Q σ H3
theorem IK {o i:Expr} {to ti:TE} {t:FA} (ho:PE X o to) (hi:PE X i ti) (hs:K5 X t)
 (ha:∀ v,assign (.Subscript o i pos) X.env v=(do
  let ov ← holding [v] (eval o X.env)
  let iv ← holding [v,ov] (eval i X.env)
  standAt pos
  holding [v,ov,iv] (setItem ov iv v)
  release [v,ov,iv] []):=by intro _;rfl):PG X (.Subscript o i pos) (Oe to ti t):=by
 intro pins s σ H v u Q I r h
 rw [ha]
 refine wpAny_bind (wpAny_holding (cM (ho pins s σ H _ I h) fun ov s1 ⟨x,H1,I1,r1,q1⟩=>?_))
 refine wpAny_bind (wpAny_holding (cM (hi pins s1 σ H1 _ I1 q1) fun iv s2 ⟨y,H2,I2,r2,q2⟩=>?_))
 refine wpAny_bind (wpAny_standAt (wpAny_bind (wpAny_holding (cM (hs pins s2 σ H2 x y v ov iv u _ I2 r1 r2 r q2) fun _ s3 ⟨H3,I3,q3⟩=>?_))))
 exact wpAny_release ⟨σ,H3,I3,q3⟩
def Of (te:TE) (g:TG):TS:=fun D σ H=>te σ H fun x H1=>g x σ H1 D.nx
theorem IL {i:Nat} {x:Str} {e:Expr} {te:TE} {pos':Pos} (hN:X.N.Nodup) (hi:X.N[i]?=some x) (hx:Loc X.env.scope x) (he:PE X e te) (hs:swapsWith e (some (.Name x pos')) pos.line X.env=pure false:=by rfl) (hf:X.fn x=true∨X.env.scope.names.lookup x=some .local:=by first | exact .inl rfl | exact .inr rfl | assumption) :
 PS X (.Assign [.Name x pos'] e pos) (Of te (HB i)):=by
 intro pins s σ H D I h
 refine wpAny_Assign_Name (cM (he pins s σ H _ I h) fun v s1 ⟨y,H1,I1,r1,q1⟩=>?_) hs
 exact xG I1 hN hi hx r1 (fun s2 I2=>⟨_,H1,I2,q1⟩) hf
end
section
variable {X:Cx} {pos:Pos}
def IM (c:TT) (tb:TS):TS:=fun D σ H=> ∃ W:Nat→St→Hp→Prop,(∃ m,W m σ H)∧∀ m σ H,W m σ H→
 c σ H fun b H1=>if b=true then ∃ N:St→Hp→Prop,(∀ σ' H',N σ' H'→∃ m',m' < m∧W m' σ' H')∧tb { D with nx:=N,ct:=N,bk:=D.nx } σ H1 else D.nx σ H1
theorem C5 {c:Expr} {body:List Stmt} {tc:TT} {tb:TS} (hp:PassesOwn (model X.prog X.w) X.A X.env X.xe) (hc:PT X c tc) (hb:zk X body tb):PS X (.While c body [] pos) (IM tc tb):=by
 intro pins s σ H D I h
 obtain ⟨W,⟨m0,w0⟩,turn⟩:=h
 refine wpAny_While (codeAny_whileLoop (fun n s'=> ∃ σ' H',Inv X pins σ' H' s'∧W n σ' H') ?_ m0 ⟨σ,H,I,w0⟩)
 rintro n s1 ⟨σ1,H1,I1,w1⟩
 refine wpAny_passesOwn hp (cM (hc pins s1 σ1 H1 _ I1 (turn n σ1 H1 w1)) fun b s2 ⟨H2,I2,q2⟩=>?_)
 cases b with
 | true=>
   obtain ⟨N,hN,q2⟩:=q2
   rw [if_pos rfl]
   refine wpAny_passesOwn hp (cM (hb pins s2 σ1 H2 _ I2 q2) fun f s3 q3=>?_)
   cases f with
   | next=>
     obtain ⟨σ3,H3,I3,n3⟩:=q3
     obtain ⟨m',hm,w3⟩:=hN σ3 H3 n3
     exact ⟨m',hm,σ3,H3,I3,w3⟩
   | cont=>
     obtain ⟨σ3,H3,I3,n3⟩:=q3
     obtain ⟨m',hm,w3⟩:=hN σ3 H3 n3
     exact ⟨m',hm,σ3,H3,I3,w3⟩
   | brk=>exact q3
   | ret v=>exact q3
 | false=>
   rw [if_neg Vx]
   exact wpAny_execs_nil ⟨σ1,H2,I2,q2⟩
end
structure It where
 go:Nat→Hp→Prop
 Ff:Nat→Hp→V→Hp→Prop
 stop:Nat→Hp→Prop
def jL (X:Cx) (pins:List (Addr ×Obj)) (H:Hp) (b:Addr):Prop:=
 H b=none∧b≠X.env.locals∧b∉X.fs∧(b∈X.ex∨X.s₀.heap.objs.size≤b)∧(∀ x c,X.env.cells.lookup x=some c→c≠b)∧∀ p∈X.pn ++ pins,p.1≠b
theorem Inv.BJ {X:Cx} {pins:List (Addr ×Obj)} {σ:St} {H H':Hp} {s:Shared} {b:Addr} (I:Inv X pins σ H s) (hb:s.heap.objs.size≤b) (hn:H' b=none):jL X pins H' b:=by
 refine ⟨hn,VW (Vp I.lt hb),I.NU hb,.inr (Wx I.sz hb),fun x c e z=>?_,fun p hp z=>?_⟩
 ·obtain ⟨v,q⟩:=I.cell x c e
  exact absurd (Vp q.lt (by rw [z];exact hb)) (Wu _)
 ·exact absurd (Vp (Heap.lt_size (I.pin p hp).1) (by rw [z];exact hb)) (Wu _)
structure Turn (P:Program) (w:World) (K:PySem.W.Frag) (tg:Expr) (J:It) (fp:List Addr) (it:Addr) (tn:Nat→Heap→Prop):Prop where
 mem:it∈fp
 obj:∀ i h,tn i h→∀ b∈fp,∃ o,h.get? b=some o∧∀ v,o.data≠ .cell v
 keep:∀ i h h',tn i h→(∀ b∈fp,∀ o,h.get? b=some o→h'.get? b=some o)→tn i h'
 item:∀ (X:Cx),X.prog=P→X.w=w→X.K=K→X.calm=true→∀ (i:Nat) (pins:List (Addr ×Obj)) (s:Shared) (σ:St) (H:Hp) (E:Value→Shared→Prop),Inv X pins σ H s→(∀ b∈fp,jL X pins H b)→tn i s.heap→J.go i H→
  wpAny (model P w) X.A (pyNext (.ref it)) (fun r s1=> ∃ u,r=some u∧
   wpAny (model P w) X.A (letOwnedTupleGo tg (.ref it) u) (fun _ s2=> ∃ x H',Inv X pins σ H' s2∧RelV x u∧J.Ff i H x H'∧tn (i+1) s2.heap∧∀ b∈fp,H' b=none) E s1) E s
 done:∀ (X:Cx),X.prog=P→X.w=w→X.K=K→X.calm=true→∀ (i:Nat) (pins:List (Addr ×Obj)) (s:Shared) (σ:St) (H:Hp) (E:Value→Shared→Prop),Inv X pins σ H s→(∀ b∈fp,jL X pins H b)→tn i s.heap→J.stop i H→
  wpAny (model P w) X.A (pyNext (.ref it)) (fun r s1=>r=none∧Inv X pins σ H s1) E s
 self:∀ (A:Around) (i:Nat) (s:Shared) (Q:Value→Shared→Prop) (E:Value→Shared→Prop),tn i s.heap→Q (.ref it) s→wpAny (model P w) A (pyIter (.ref it)) Q E s
abbrev TI:=St→Hp→(It→Hp→Prop)→Prop
def Og (X:Cx) (pins:List (Addr ×Obj)) (σ:St) (tg:Expr) (R:It→Hp→Prop) (itv:Value) (s2:Shared):Prop:=
 ∃ (it:Addr) (fp:List Addr) (tn:Nat→Heap→Prop) (J:It) (H':Hp),itv= .ref it∧Inv X pins σ H' s2∧Turn X.prog X.w X.K tg J fp it tn∧tn 0 s2.heap∧(∀ b∈fp,jL X pins H' b)∧R J H'
def PI (X:Cx) (tg iter:Expr) (wi:TI):Prop:=
 ∀ (pins:List (Addr ×Obj)) (s:Shared) (σ:St) (H:Hp) (R:It→Hp→Prop),Inv X pins σ H s→wi σ H R→
   wpAny (model X.prog X.w) X.A (eval iter X.env) (fun v s1=>wpAny (model X.prog X.w) X.A (pyIter v) (Og X pins σ tg R) X.xe s1) X.xe s
theorem AI {M:Model} {A:Around} {E:Value→Shared→Prop} {s:Shared} {tg:Expr} {it:Addr} {u:Value} {o:Obj} {n:String} {vs:Array Value} {Q:Unit→Shared→Prop} (ho:s.heap.get? it=some o) (hc:o.cls= .type n) (hd:o.data= .fields vs)
 (hn: ["enumerate","zip","dict_itemiterator","dict_reverseitemiterator","odict_iterator","itertools.zip_longest","itertools.pairwise"].contains n=false) (hQ:Q () s):wpAny M A (letOwnedTupleGo tg (.ref it) u) Q E s:=by
 unfold letOwnedTupleGo
 cases tg <;> first
  | exact wpAny_pure hQ
  | (cases u <;> first
   | exact wpAny_pure hQ
   | (refine wpAny_bind (wpAny_load ho ?_)
      rw [hc,hd]
      show wpAny M A (if (["enumerate","zip","dict_itemiterator","dict_reverseitemiterator","odict_iterator","itertools.zip_longest","itertools.pairwise"].contains n && vs[0]? == some (rawInt _))=true then _ else _) Q E s
      rw [if_neg (by intro h;rw [hn,Yh] at h;cases h)]
      exact wpAny_pure hQ))
def Oh (K:PySem.W.Frag) (a:Addr):It:=
 ⟨fun i H=> ∃ xs x,iI K H a xs∧xs[i]?=some x,fun i H x H'=>H'=H∧∀ xs,iI K H a xs→xs[i]?=some x,fun i H=> ∃ xs,iI K H a xs∧xs.length≤i⟩
def Oi (K:PySem.W.Frag) (a:Addr):It:=
 ⟨fun i H=> ∃ xs x,qC K H a xs∧xs[i]?=some x,fun i H x H'=>H'=H∧∀ xs,qC K H a xs→xs[i]?=some x,fun i H=> ∃ xs,qC K H a xs∧xs.length≤i⟩
def Np (lo:Int) (n:Nat):It:=⟨fun i _=>i < n,fun i H x H'=>H'=H∧x= .int (lo+i),fun i _=>n≤i⟩
theorem BK {P:Program} {w:World} {K:PySem.W.Frag} {tg:Expr} (a it:Addr):Turn P w K tg (Oh K a) [it] it (fun i h=>h.IsListIter it a i) where
 mem:=by simp
 obj:=fun i h st b hb=>by
  have e:b=it:=by simpa using hb
  subst e
  obtain ⟨o,e,c,d⟩:=st
  exact ⟨o,e,fun v z=>by rw [d] at z;cases z⟩
 keep:=fun i h h' st k=>st.at fun o e=>k it (by simp) o e
 item:=by
  intro X hP hw hK hc i pins s σ H E I hf st hg
  subst hP hw hK
  obtain ⟨xs,x,hq,hx⟩:=hg
  obtain ⟨its,rv,p,hz⟩:=I.list hq
  obtain ⟨u,hu,ru⟩:=rv.get hx
  obtain ⟨f0,f1,f2,f3,f4,f5⟩:=hf it (by simp)
  refine wpAny_pyNext_list_item st p.isList (x:=u) (by simpa using hu) fun h' st' sb=>?_
  have I1:Inv X pins σ H { s with heap:=h' }:=I.turned (t':=s.toks) (fun b o hb e=>(sb.2 b hb).trans e) f0 f1 f3 f4 f5
  obtain ⟨o,e,c,d⟩:=id st'
  exact ⟨u,rfl,AI (s:={ s with heap:=h' }) e c d (by decide) ⟨x,H,I1,ru,⟨rfl,fun ys hy=>by rw [I.C3 hy hq];exact hx⟩,st',fun b hb=>(hf b hb).1⟩⟩
 done:=by
  intro X hP hw hK hc i pins s σ H E I hf st hg
  subst hP hw hK
  obtain ⟨xs,hq,hx⟩:=hg
  obtain ⟨its,rv,p,hz⟩:=I.list hq
  obtain ⟨f0,f1,f2,f3,f4,f5⟩:=hf it (by simp)
  have hl:=rv.length
  exact wpAny_pyNext_list_end (I.ok.hd hc) st p.isList (by simp;omega) fun h' eb=>⟨rfl,I.turned (t':=s.toks) (fun b o hb e=>eb b o hb e) f0 f1 f3 f4 f5⟩
 self:=fun _ _ _ _ _ st h=>wpAny_pyIter_listiter st h
theorem zl {P:Program} {w:World} {K:PySem.W.Frag} {tg:Expr} (a it:Addr):Turn P w K tg (Oi K a) [it] it (fun i h=>h.IsTupleIter it a i) where
 mem:=by simp
 obj:=fun i h st b hb=>by
  have e:b=it:=by simpa using hb
  subst e
  obtain ⟨o,e,c,d⟩:=st
  exact ⟨o,e,fun v z=>by rw [d] at z;cases z⟩
 keep:=fun i h h' st k=>st.at fun o e=>k it (by simp) o e
 item:=by
  intro X hP hw hK hc i pins s σ H E I hf st hg
  subst hP hw hK
  obtain ⟨xs,x,hq,hx⟩:=hg
  obtain ⟨its,rv,p,hz⟩:=I.tuple hq
  obtain ⟨u,hu,ru⟩:=rv.get hx
  obtain ⟨f0,f1,f2,f3,f4,f5⟩:=hf it (by simp)
  refine wpAny_pyNext_tuple_item st (show s.heap.IsTuple a its.toArray from p) (x:=u) (by simpa using hu) fun h' st' sb=>?_
  have I1:Inv X pins σ H { s with heap:=h' }:=I.turned (t':=s.toks) (fun b o hb e=>(sb.2 b hb).trans e) f0 f1 f3 f4 f5
  obtain ⟨o,e,c,d⟩:=id st'
  exact ⟨u,rfl,AI (s:={ s with heap:=h' }) e c d (by decide) ⟨x,H,I1,ru,⟨rfl,fun ys hy=>by rw [I.BI hy hq];exact hx⟩,st',fun b hb=>(hf b hb).1⟩⟩
 done:=by
  intro X hP hw hK hc i pins s σ H E I hf st hg
  subst hP hw hK
  obtain ⟨xs,hq,hx⟩:=hg
  obtain ⟨its,rv,p,hz⟩:=I.tuple hq
  obtain ⟨f0,f1,f2,f3,f4,f5⟩:=hf it (by simp)
  have hl:=rv.length
  exact wpAny_pyNext_tuple_end (I.ok.hd hc) st (show s.heap.IsTuple a its.toArray from p) (by simp;omega) fun h' eb=>⟨rfl,I.turned (t':=s.toks) (fun b o hb e=>eb b o hb e) f0 f1 f3 f4 f5⟩
 self:=fun _ _ _ _ _ st h=>wpAny_pyIter_tupleiter st h
theorem zm {P:Program} {w:World} {K:PySem.W.Frag} {tg:Expr} (it:Addr) (lo:Int) (n:Nat):Turn P w K tg (Np lo n) [it] it (fun i h=>IsRangeIter h it (lo+(i:Nat)*1) ((n:Int) - (i:Nat)) 1) where
 mem:=by simp
 obj:=fun i h st b hb=>by
  have e:b=it:=by simpa using hb
  subst e
  exact ⟨_,st,fun v z=>by
   have z':Data.fields _=Data.cell v:=z
   cases z'⟩
 keep:=fun i h h' st k=>k it (by simp) _ st
 item:=by
  intro X hP hw hK hc i pins s σ H E I hf st hg
  subst hP hw hK
  obtain ⟨f0,f1,f2,f3,f4,f5⟩:=hf it (by simp)
  have W:=Walks.range (prog:=X.prog) (w:=X.w) (I.ok.hd hc) it lo 1 n
  refine W.item i s _ _ hg st fun v h' tk hv st' kk=>?_
  obtain ⟨t,rfl⟩:=hv
  have I1:Inv X pins σ H { s with heap:=h',toks:=tk }:=I.turned (fun b o hb e=>kk b o (by simpa using hb) e) f0 f1 f3 f4 f5
  refine ⟨_,rfl,AI (s:={ s with heap:=h',toks:=tk }) (n:= "range_iterator") st' rfl rfl (by decide) ⟨.int (lo+i),H,I1,⟨t,?_⟩,⟨rfl,rfl⟩,st',fun b hb=>(hf b hb).1⟩⟩
  rw [Ye]
 done:=by
  intro X hP hw hK hc i pins s σ H E I hf st hg
  subst hP hw hK
  obtain ⟨f0,f1,f2,f3,f4,f5⟩:=hf it (by simp)
  exact wpAny_pyNext_range_end (I.ok.hd hc) st (by have:n≤i:=hg;omega) fun h' eb=>⟨rfl,I.turned (t':=s.toks) (fun b o hb e=>eb b o hb e) f0 f1 f3 f4 f5⟩
 self:=fun _ _ _ _ _ st h=>wpAny_pyIter_rangeiter st h
end L2
namespace L2
open PySem PySem.Spec PyProof.Rows
section
variable {X:Cx} {tg:Expr}
def K6 (K:PySem.W.Frag) (tl:TE):TI:=fun σ H R=>tl σ H fun x H1=> ∃ a,x= .ref a∧(∃ xs,iI K H1 a xs)∧R (Oh K a) H1
def Oj (K:PySem.W.Frag) (tl:TE):TI:=fun σ H R=>tl σ H fun x H1=> ∃ a,x= .ref a∧(∃ xs,qC K H1 a xs)∧R (Oi K a) H1
theorem qD {l:Expr} {tl:TE} (hl:PE X l tl):PI X tg l (K6 X.K tl):=by
 intro pins s σ H R I h
 refine cM (hl pins s σ H _ I h) fun v s1 ⟨x,H1,I1,r1,q1⟩=>?_
 obtain ⟨a,e,⟨xs,hq⟩,q⟩:=q1
 subst e
 cases r1
 obtain ⟨its,rv,p,hz⟩:=I1.list hq
 refine wpAny_pyIter_list p.isList ?_
 refine ⟨s1.heap.objs.size,[s1.heap.objs.size],_,_,H1,rfl,I1.kept (t':=s1.toks) fun b o e=>Heap.get?_push_of_some _ e,BK a _,⟨_,Heap.get?_push_size _ rfl,rfl,rfl⟩,fun b hb=>?_,q⟩
 have e:b=s1.heap.objs.size:=by simpa using hb
 subst e
 exact I1.BJ (Vr _) (I1.hok.fresh (Vr _))
theorem C6 {l:Expr} {tl:TE} (hl:PE X l tl):PI X tg l (Oj X.K tl):=by
 intro pins s σ H R I h
 refine cM (hl pins s σ H _ I h) fun v s1 ⟨x,H1,I1,r1,q1⟩=>?_
 obtain ⟨a,e,⟨xs,hq⟩,q⟩:=q1
 subst e
 cases r1
 obtain ⟨its,rv,p,hz⟩:=I1.tuple hq
 refine wpAny_pyIter_tuple (show s1.heap.IsTuple a its.toArray from p) ?_
 refine ⟨s1.heap.objs.size,[s1.heap.objs.size],_,_,H1,rfl,I1.kept (t':=s1.toks) fun b o e=>Heap.get?_push_of_some _ e,zl a _,⟨_,Heap.get?_push_size _ rfl,rfl,rfl⟩,fun b hb=>?_,q⟩
 have e:b=s1.heap.objs.size:=by simpa using hb
 subst e
 exact I1.BJ (Vr _) (I1.hok.fresh (Vr _))
theorem C7 {pins:List (Addr ×Obj)} {σ:St} {H:Hp} {s:Shared} {R:It→Hp→Prop} {E:Value→Shared→Prop} {lo hi:Int} {t u v:Tok} {tk:Nat} (I:Inv X pins σ H s) (h1: -(2 ^ 62)≤lo) (h2:lo < 2 ^ 62) (h3: -(2 ^ 62)≤hi) (h4:hi < 2 ^ 62)
 (q:R (Np lo (hi - lo).toNat) H):wpAny (model X.prog X.w) X.A (pyIter (.ref s.heap.objs.size)) (Og X pins σ tg R) E { s with heap:=s.heap.push { cls:= .type "range",data:= .fields #[.int lo t,.int hi u,.int 1 v] },toks:=tk }:=by
 refine wpAny_pyIter_range (IsRange.new ..) (small_one h1 h2 h3 h4) ?_
 have I1:Inv X pins σ H { s with heap:=s.heap.push { cls:= .type "range",data:= .fields #[.int lo t,.int hi u,.int 1 v] },toks:=tk }:=I.kept fun b o e=>Heap.get?_push_of_some _ e
 refine ⟨(s.heap.push { cls:= .type "range",data:= .fields #[.int lo t,.int hi u,.int 1 v] }).objs.size,[(s.heap.push { cls:= .type "range",data:= .fields #[.int lo t,.int hi u,.int 1 v] }).objs.size],_,_,H,rfl,
  I1.kept (t':=tk) fun b o e=>Heap.get?_push_of_some _ e,zm _ lo (hi - lo).toNat,?_,fun b hb=>?_,q⟩
 ·have e1:lo+((0:Nat):Int)*1=lo:=by simp
  have e2:(((hi - lo).toNat:Nat):Int) - ((0:Nat):Int)=Builtin.Range.rangeSize lo hi 1:=by rw [rangeSize_one];split <;> omega
  show IsRangeIter _ _ (lo+((0:Nat):Int)*1) ((((hi - lo).toNat:Nat):Int) - ((0:Nat):Int)) 1
  rw [e1,e2]
  exact Heap.get?_push_size _ rfl
 ·have e:b=(s.heap.push { cls:= .type "range",data:= .fields #[.int lo t,.int hi u,.int 1 v] }).objs.size:=by simpa using hb
  subst e
  exact I1.BJ (Vr _) (I1.hok.fresh (Vr _))
def K7 (ta:TA):TI:=fun σ H R=>ta σ H fun vs H1=> ∃ j:Int,vs= [.int j]∧ -(2 ^ 62)≤j∧j < 2 ^ 62∧R (Np 0 j.toNat) H1
theorem BL {a:Expr} {ta:TA} {p pos:Pos} (hg:Gl X "range") (hm:X.mg "range" =none) (ha:PA X [a] ta) (hs:starEach [a] X.env= [(false,eval a X.env)]:=by rfl):PI X tg (.Call (.Name "range" p) [a] [] pos) (K7 ta):=by
 intro pins s σ H R I h
 refine Call_ (jT I hg hm boot_range (PyProof.Rows.callWith_type1 (cM (ha pos pins s σ H _ I h) fun us s1 ⟨vs,H1,I1,r1,q1⟩=>?_) hs rfl))
 obtain ⟨j,e,q1,q2,q⟩:=q1
 subst e
 cases r1 with
 | cons r rr=>
   cases rr
   obtain ⟨t,rfl⟩:=r
   exact call_range_1 (C7 I1 (by omega) (by omega) q1 q2 (by simpa using q))
def Ol (wi:TI) (g:TG) (tb:TS):TS:=fun D σ H=>wi σ H fun J H1=> ∃ W:Nat→Nat→St→Hp→Prop,(∃ m,W 0 m σ H1)∧∀ i m σ H,W i m σ H→
 (J.stop i H∧D.nx σ H)∨(J.go i H∧∃ N:St→Hp→Prop,(∀ σ' H',N σ' H'→∃ m',m' < m∧W (i+1) m' σ' H')∧∀ x H',J.Ff i H x H'→g x σ H' fun σ2 H2=>tb { D with nx:=N,ct:=N,bk:=D.nx } σ2 H2)
def qR (fp:List Addr) (h:Heap):List (Addr ×Obj):=fp.filterMap fun b=>(h.get? b).map fun o=>(b,o)
theorem l7 {fp:List Addr} {h:Heap} {b:Addr} {o:Obj} (hb:b∈fp) (e:h.get? b=some o):(b,o)∈qR fp h:=Xd.mpr ⟨b,hb,by rw [e];rfl⟩
theorem BN {fp:List Addr} {h:Heap} {p:Addr ×Obj} (hp:p∈qR fp h):p.1∈fp∧h.get? p.1=some p.2:=by
 obtain ⟨b,hb,e⟩:=Xd.mp hp
 cases q:h.get? b with
 | none=>rw [q] at e;cases e
 | some o=>
   rw [q] at e
   have e':(b,o)=p:=Option.some.inj e
   subst e'
   exact ⟨hb,q⟩
theorem Inv.pinned {pins:List (Addr ×Obj)} {σ:St} {H:Hp} {s:Shared} {fp:List Addr} (I:Inv X pins σ H s) (hf:∀ b∈fp,jL X pins H b) (ho:∀ b∈fp,∃ o,s.heap.get? b=some o∧∀ v,o.data≠ .cell v):Inv X (pins ++ qR fp s.heap) σ H s:=
 I.qB fun p hp=>(Vv.mp hp).elim (fun z=>I.pin p (Vw _ z)) fun z=>by
   obtain ⟨hb,e⟩:=BN z
   obtain ⟨f0,f1,f2,_⟩:=hf p.1 hb
   obtain ⟨o,e',d⟩:=ho p.1 hb
   rw [e] at e';cases e'
   exact ⟨e,f0,f1,f2,d⟩
theorem Inv.jV {pins pl:List (Addr ×Obj)} {σ:St} {H:Hp} {s:Shared} (I:Inv X (pins ++ pl) σ H s):Inv X pins σ H s:=I.qB fun p hp=>I.pin p (Vw _ (Vq _ hp))
theorem oQ {iter:Expr} {body:List Stmt} {wi:TI} {g:TG} {tb:TS} {pos:Pos} (hp:PassesOwn (model X.prog X.w) X.A X.env X.xe) (hc:X.calm=true) (hi:PI X tg iter wi) (hg:PG X tg g) (hb:zk X body tb)
 (hs:∀ x,foldedSetIterable iter X.env x=pure x:=by intro _;rfl):PS X (.For tg iter body [] pos) (Ol wi g tb):=by
 intro pins s σ H D I h
 refine wpAny_For (cM (hi pins s σ H _ I h) fun v s1 h1=>cM h1 fun itv s2 h2=>?_) hs
 obtain ⟨it,fp,tn,J,H2,e,I2,T,st2,f2,W,⟨m0,w0⟩,turn⟩:=h2
 subst e
 have stat:∀ {H':Hp},(∀ b∈fp,H' b=none)→∀ b∈fp,jL X pins H' b:=fun hn b hb=>⟨hn b hb,(f2 b hb).2⟩
 refine codeAny_forLoop_any (fun n s'=> ∃ i σ' H',Inv X pins σ' H' s'∧tn i s'.heap∧(∀ b∈fp,H' b=none)∧W i n σ' H') ?_ m0 ⟨0,σ,H2,I2,st2,fun b hb=>(f2 b hb).1,w0⟩
 rintro n s3 ⟨i,σ3,H3,I3,st3,Qy,w3⟩
 rcases turn i n σ3 H3 w3 with ⟨stop,qn⟩ | ⟨go,N,hN,step⟩
 ·refine wpAny_passesOwn hp (cM (T.done X rfl rfl rfl hc i pins s3 σ3 H3 X.xe I3 (stat Qy) st3 stop) fun r s4 ⟨hr,I4⟩=>?_)
  subst hr
  exact wpAny_execs_nil ⟨σ3,H3,I4,qn⟩
 ·refine wpAny_passesOwn hp (cM (T.item X rfl rfl rfl hc i pins s3 σ3 H3 X.xe I3 (stat Qy) st3 go) fun r s4 ⟨u,hr,h4⟩=>?_)
  subst hr
  refine wpAny_passesOwn hp (cM h4 fun _ s5 ⟨x,H5,I5,r5,y5,KG,FE⟩=>?_)
  have RD:=I5.pinned (stat FE) (T.obj _ _ KG)
  refine wpAny_passesOwn hp (cM (hg _ s5 σ3 H5 x u _ RD r5 (step x H5 y5)) fun _ s6 ⟨σ6,H6,I6,q6⟩=>?_)
  refine wpAny_passesOwn hp (cM (hb _ s6 σ6 H6 _ I6 q6) fun f s7 q7=>?_)
  have again:∀ {σ7:St} {H7:Hp},Inv X (pins ++ qR fp s5.heap) σ7 H7 s7→N σ7 H7→∃ m,m < n∧∃ i σ' H',Inv X pins σ' H' s7∧tn i s7.heap∧(∀ b∈fp,H' b=none)∧W i m σ' H':=fun {σ7 H7} I7 n7=>by
   obtain ⟨m',hm,w7⟩:=hN σ7 H7 n7
   refine ⟨m',hm,i+1,σ7,H7,I7.jV,T.keep _ _ _ KG fun b hb o e=>(I7.pin (b,o) (Vw _ (Vw _ (l7 hb e)))).1,fun b hb=>?_,w7⟩
   obtain ⟨o,e,d⟩:=T.obj _ _ KG b hb
   exact (I7.pin (b,o) (Vw _ (Vw _ (l7 hb e)))).2.1
  cases f with
  | next=>obtain ⟨σ7,H7,I7,n7⟩:=q7;exact again I7 n7
  | cont=>obtain ⟨σ7,H7,I7,n7⟩:=q7;exact again I7 n7
  | brk=>obtain ⟨σ7,H7,I7,q7⟩:=q7;exact ⟨σ7,H7,I7.jV,q7⟩
  | ret v=>obtain ⟨x7,σ7,H7,I7,r7,q7⟩:=q7;exact ⟨x7,σ7,H7,I7.jV,r7,q7⟩
end
end L2
namespace L2
open PySem PySem.Spec PyProof.Rows
abbrev R2:=V→V→Hp→VK→Prop
def xr (X:Cx) (f:Value→Value→Sem Value) (r:R2):Prop:=
 ∀ (pins:List (Addr ×Obj)) (s:Shared) (σ:St) (H:Hp) (x y:V) (v u:Value) (Q:VK),Inv X pins σ H s→RelV x v→RelV y u→r x y H Q→
   wpAny (model X.prog X.w) X.A (f v u) (EP X pins σ Q) X.xe s
def Om (X:Cx) (f:Value→Sem Value) (r:V→Hp→VK→Prop):Prop:=
 ∀ (pins:List (Addr ×Obj)) (s:Shared) (σ:St) (H:Hp) (x:V) (v:Value) (Q:VK),Inv X pins σ H s→RelV x v→r x H Q→
   wpAny (model X.prog X.w) X.A (f v) (EP X pins σ Q) X.xe s
def C8 (X:Cx) (f:Value) (r:List V→Hp→VK→Prop):Prop:=
 ∀ (pins:List (Addr ×Obj)) (s:Shared) (σ:St) (H:Hp) (xs:List V) (us:List Value) (Q:VK),Inv X pins σ H s→Vals xs us→r xs H Q→
   wpAny (model X.prog X.w) X.A (call f us) (EP X pins σ Q) X.xe s
def RE (r:R2) (ta tb:TE):TE:=fun σ H Q=>ta σ H fun x H1=>tb σ H1 fun y H2=>r x y H2 Q
def RG (r:V→Hp→VK→Prop) (ta:TE):TE:=fun σ H Q=>ta σ H fun x H1=>r x H1 Q
def rI (C:Int→Int→Prop) (g:Int→Int→V):R2:=fun x y H Q=> ∃ i j,x= .int i∧y= .int j∧C i j∧Q (g i j) H
def FF (g:Int→Int→V):R2:=fun x y H Q=> ∃ i j,x= .int i∧y= .int j∧Q (g i j) H
def rU (g:Int→V):V→Hp→VK→Prop:=fun x H Q=> ∃ i,x= .int i∧Q (g i) H
section
variable {X:Cx} {a b c:Expr} {ta tb tc:TE} {pos:Pos}
theorem Oo (ha:PE X a ta) (hb:PE X b tb) {pins:List (Addr ×Obj)} {s:Shared} {σ:St} {H:Hp} {R:V→V→Hp→Prop} (I:Inv X pins σ H s)
 (h:ta σ H fun x H1=>tb σ H1 fun y H2=>R x y H2) {Q:Value→Shared→Prop} {f:Value→Value→Sem Value}
 (hf:∀ v u s2 x y H2,Inv X pins σ H2 s2→RelV x v→RelV y u→R x y H2→wpAny (model X.prog X.w) X.A (f v u) Q X.xe s2) :
 wpAny (model X.prog X.w) X.A (eval a X.env) (fun v s₁=>wpAny (model X.prog X.w) X.A (eval b X.env) (fun u s₂=>wpAny (model X.prog X.w) X.A (f v u) Q X.xe s₂) X.xe s₁) X.xe s:=by
 refine cM (ha pins s σ H _ I h) fun v s1 ⟨x,H1,I1,r1,q1⟩=>?_
 refine cM (hb pins s1 σ H1 _ I1 q1) fun u s2 ⟨y,H2,I2,r2,q2⟩=>?_
 exact hf v u s2 x y H2 I2 r1 r2 q2
theorem K8 {op:UnaryOp} {r:V→Hp→VK→Prop} (ho:Om X (unaryOp op) r) (ha:PE X a ta):PE X (.UnaryOp op a pos) (RG r ta):=by
 intro pins s σ H Q I h
 exact UnaryOp_ (cM (ha pins s σ H _ I h) fun v s1 ⟨x,H1,I1,r1,q1⟩=>ho pins s1 σ H1 x v Q I1 r1 q1)
theorem K9 {f:Value→Value→Sem Value} {C:Int→Int→Prop} {g:Int→Int→Int}
 (rule:∀ (i j:Int) (t u:Tok) (s:Shared) (Q:Value→Shared→Prop) (E:Value→Shared→Prop),C i j→Q (.int (g i j) s.toks) { s with toks:=s.toks+1 }→wpAny (model X.prog X.w) X.A (f (.int i t) (.int j u)) Q E s) :
 xr X f (rI C fun i j=> .int (g i j)):=by
 intro pins s σ H x y v u Q I rx ry h
 obtain ⟨i,j,rfl,rfl,hc,q⟩:=h
 obtain ⟨t,rfl⟩:=rx
 obtain ⟨t',rfl⟩:=ry
 exact rule i j t t' s _ _ hc ⟨.int (g i j),H,I.tok _,⟨_,rfl⟩,q⟩
theorem La {f:Value→Value→Sem Value} {g:Int→Int→Int}
 (rule:∀ (i j:Int) (t u:Tok) (s:Shared) (Q:Value→Shared→Prop) (E:Value→Shared→Prop),Q (.int (g i j) s.toks) { s with toks:=s.toks+1 }→wpAny (model X.prog X.w) X.A (f (.int i t) (.int j u)) Q E s) :
 xr X f (FF fun i j=> .int (g i j)):=by
 intro pins s σ H x y v u Q I rx ry h
 obtain ⟨i,j,rfl,rfl,q⟩:=h
 obtain ⟨t,rfl⟩:=rx
 obtain ⟨t',rfl⟩:=ry
 exact rule i j t t' s _ _ ⟨.int (g i j),H,I.tok _,⟨_,rfl⟩,q⟩
theorem IP {f:Value→Value→Sem Value} {g:Int→Int→Bool}
 (rule:∀ (i j:Int) (t u:Tok) (s:Shared) (Q:Value→Shared→Prop) (E:Value→Shared→Prop),Q (.bool (g i j)) s→wpAny (model X.prog X.w) X.A (f (.int i t) (.int j u)) Q E s) :
 xr X f (FF fun i j=> .bl (g i j)):=by
 intro pins s σ H x y v u Q I rx ry h
 obtain ⟨i,j,rfl,rfl,q⟩:=h
 obtain ⟨t,rfl⟩:=rx
 obtain ⟨t',rfl⟩:=ry
 exact rule i j t t' s _ _ ⟨.bl (g i j),H,I,rfl,q⟩
def FG (i j:Int):Prop:=(-(2 ^ 64) < i∧i < 2 ^ 64)∨(-(2 ^ 64) < j∧j < 2 ^ 64)
theorem FG.ok {i j:Int} (h:FG i j):IntMulOk i j:=by
 rcases h with ⟨h1,h2⟩ | ⟨h1,h2⟩
 ·exact .of_left (intBits_le_64 h1 h2)
 ·exact .of_right (intBits_le_64 h1 h2)
theorem IQ:xr X (binaryOp .Add) (FF fun i j=> .int (i+j)):=La fun _ _ _ _ _ _ _ q=>add_int q
theorem IS:xr X (binaryOp .Sub) (FF fun i j=> .int (i - j)):=La fun _ _ _ _ _ _ _ q=>sub_int q
theorem IT:xr X (binaryOp .Mod) (rI (fun _ j=>0 < j) fun i j=> .int (i % j)):=K9 fun i j _ _ _ _ _ hc q=>by
 have h1:(0:Int) < j:=hc
 exact mod_int' (by omega) (by rw [Int.fmod_eq_emod_of_nonneg i (by omega)];exact q)
theorem RH {f:Value→Sem Value} {g:Int→Int}
 (rule:∀ (i:Int) (t:Tok) (s:Shared) (Q:Value→Shared→Prop) (E:Value→Shared→Prop),Q (.int (g i) s.toks) { s with toks:=s.toks+1 }→wpAny (model X.prog X.w) X.A (f (.int i t)) Q E s) :
 Om X f (rU fun i=> .int (g i)):=by
 intro pins s σ H x v Q I rx h
 obtain ⟨i,rfl,q⟩:=h
 obtain ⟨t,rfl⟩:=rx
 exact rule i t s _ _ ⟨.int (g i),H,I.tok _,⟨_,rfl⟩,q⟩
theorem IU:Om X (unaryOp .USub) (rU fun i=> .int (-i)):=RH fun _ _ _ _ _ q=>neg_int q
end
def IV:V→V→Bool
 | .aZ,.aZ=>true | .aZ,.int _=>true | .int _,.aZ=>true | .aZ,.bl _=>true | .bl _,.aZ=>true | .aZ,.str _=>true | .str _,.aZ=>true
 | .int _,.int _=>true | .bl _,.bl _=>true | .str _,.str _=>true | .CY _,.CY _=>true
 | .int _,.str _=>true | .str _,.int _=>true | .bl _,.str _=>true | .str _,.bl _=>true
 | _,_=>false
def RI:R2:=fun x y H Q=>IV x y=true∧Q (.bl (decide (x=y))) H
def RJ:R2:=fun x y H Q=>IV x y=true∧Q (.bl (!decide (x=y))) H
theorem AJ {i j:Int}:decide (V.int i=V.int j)=(i == j):=by
 rw [V0]
 simp
theorem C9 {i j:Bool}:decide (V.bl i=V.bl j)=(i == j):=by
 rw [V0]
 simp
theorem AK {i j:Str}:decide (V.str i=V.str j)=(i == j):=by
 rw [V0]
 simp
theorem AL {i j:Array UInt8}:decide (V.CY i=V.CY j)=(i.toList == j.toList):=by
 rw [V0]
 cases i
 cases j
 simp
section
variable {X:Cx} {a b c:Expr} {ta tb tc:TE} {pos:Pos}
theorem aY {pins:List (Addr ×Obj)} {σ:St} {H:Hp} {s:Shared} {Q:VK} {k k':Bool} (I:Inv X pins σ H s) (q:Q (.bl k) H) (e:k=k'):EP X pins σ Q (.bool k') s:=by
 subst e
 exact ⟨.bl k,H,I,rfl,q⟩
theorem Lb:xr X (compareOp .Eq) RI:=by
 intro pins s σ H x y v u Q I rx ry h
 obtain ⟨hs,q⟩:=h
 cases x with
 | aZ=>
   cases rx
   cases y with
   | aZ=>cases ry;exact PySem.EqNone.eq_none_none (aY I q (by simp))
   | bl j=>cases ry;exact PySem.EqNone.eq_none_bool (aY I q (by simp))
   | int j=>obtain ⟨t',rfl⟩:=ry;exact PySem.EqNone.eq_none_int (aY I q (by simp))
   | str j=>obtain ⟨t',rfl⟩:=ry;exact PySem.EqNone.eq_none_str (aY I q (by simp))
   | _=>exact absurd (show false=true from hs) Vx
 | bl i=>
   cases rx
   cases y with
   | aZ=>cases ry;exact PySem.EqNone.eq_bool_none (aY I q (by simp))
   | bl j=>cases ry;exact eq_bool (aY I q C9)
   | str j=>obtain ⟨t',rfl⟩:=ry;exact PySem.EqMixed.eq_bool_str (aY I q (by simp))
   | _=>exact absurd (show false=true from hs) Vx
 | int i=>
   obtain ⟨t,rfl⟩:=rx
   cases y with
   | aZ=>cases ry;exact PySem.EqNone.eq_int_none (aY I q (by simp))
   | int j=>obtain ⟨t',rfl⟩:=ry;exact eq_int (aY I q AJ)
   | str j=>obtain ⟨t',rfl⟩:=ry;exact PySem.EqMixed.eq_int_str (aY I q (by simp))
   | _=>exact absurd (show false=true from hs) Vx
 | str i=>
   obtain ⟨t,rfl⟩:=rx
   cases y with
   | aZ=>cases ry;exact PySem.EqNone.eq_str_none (aY I q (by simp))
   | bl j=>cases ry;exact PySem.EqMixed.eq_str_bool (aY I q (by simp))
   | int j=>obtain ⟨t',rfl⟩:=ry;exact PySem.EqMixed.eq_str_int (aY I q (by simp))
   | str j=>obtain ⟨t',rfl⟩:=ry;exact eq_str (aY I q AK)
   | _=>exact absurd (show false=true from hs) Vx
 | CY i=>
   obtain ⟨t,rfl⟩:=rx
   cases y with
   | CY j=>obtain ⟨t',rfl⟩:=ry;exact PySem.W.eq_bytes (aY I q AL)
   | _=>exact absurd (show false=true from hs) Vx
 | _=>cases y <;> exact absurd (show false=true from hs) Vx
theorem Lc:xr X (compareOp .NotEq) RJ:=by
 intro pins s σ H x y v u Q I rx ry h
 obtain ⟨hs,q⟩:=h
 cases x with
 | aZ=>
   cases rx
   cases y with
   | aZ=>cases ry;exact PySem.EqNone.ne_none_none (aY I q (by simp))
   | bl j=>cases ry;exact PySem.EqNone.ne_none_bool (aY I q (by simp))
   | int j=>obtain ⟨t',rfl⟩:=ry;exact PySem.EqNone.ne_none_int (aY I q (by simp))
   | str j=>obtain ⟨t',rfl⟩:=ry;exact PySem.EqNone.ne_none_str (aY I q (by simp))
   | _=>exact absurd (show false=true from hs) Vx
 | bl i=>
   cases rx
   cases y with
   | aZ=>cases ry;exact PySem.EqNone.ne_bool_none (aY I q (by simp))
   | bl j=>cases ry;exact ne_bool (aY I q (congrArg not C9))
   | str j=>obtain ⟨t',rfl⟩:=ry;exact PySem.EqMixed.ne_bool_str (aY I q (by simp))
   | _=>exact absurd (show false=true from hs) Vx
 | int i=>
   obtain ⟨t,rfl⟩:=rx
   cases y with
   | aZ=>cases ry;exact PySem.EqNone.ne_int_none (aY I q (by simp))
   | int j=>obtain ⟨t',rfl⟩:=ry;exact ne_int (aY I q (congrArg not AJ))
   | str j=>obtain ⟨t',rfl⟩:=ry;exact PySem.EqMixed.ne_int_str (aY I q (by simp))
   | _=>exact absurd (show false=true from hs) Vx
 | str i=>
   obtain ⟨t,rfl⟩:=rx
   cases y with
   | aZ=>cases ry;exact PySem.EqNone.ne_str_none (aY I q (by simp))
   | bl j=>cases ry;exact PySem.EqMixed.ne_str_bool (aY I q (by simp))
   | int j=>obtain ⟨t',rfl⟩:=ry;exact PySem.EqMixed.ne_str_int (aY I q (by simp))
   | str j=>obtain ⟨t',rfl⟩:=ry;exact ne_str (aY I q (congrArg not AK))
   | _=>exact absurd (show false=true from hs) Vx
 | CY i=>
   obtain ⟨t,rfl⟩:=rx
   cases y with
   | CY j=>obtain ⟨t',rfl⟩:=ry;exact PySem.W.ne_bytes (aY I q (congrArg not AL))
   | _=>exact absurd (show false=true from hs) Vx
 | _=>cases y <;> exact absurd (show false=true from hs) Vx
theorem Ld:xr X (compareOp .Lt) (FF fun i j=> .bl (decide (i < j))):=IP fun _ _ _ _ _ _ _ q=>lt_int q
theorem Lf:xr X (compareOp .LtE) (FF fun i j=> .bl (decide (i≤j))):=IP fun _ _ _ _ _ _ _ q=>le_int q
theorem Lg:xr X (compareOp .Gt) (FF fun i j=> .bl (decide (j < i))):=IP fun _ _ _ _ _ _ _ q=>gt_int q
theorem IW:xr X (compareOp .Is) (fun x y H Q=>y= .aZ∧Q (.bl (decide (x= .aZ))) H):=by
 intro pins s σ H x y v u Q I rx ry h
 obtain ⟨rfl,q⟩:=h
 cases ry
 refine is_none_gen (aY I q ?_)
 cases x <;> first
  | (cases rx;rfl)
  | (obtain ⟨t,rfl⟩:=rx;rfl)
theorem FH:xr X (compareOp .IsNot) (fun x y H Q=>y= .aZ∧Q (.bl (!decide (x= .aZ))) H):=by
 intro pins s σ H x y v u Q I rx ry h
 obtain ⟨rfl,q⟩:=h
 cases ry
 refine isnot_none_gen (aY I q ?_)
 cases x <;> first
  | (cases rx;rfl)
  | (obtain ⟨t,rfl⟩:=rx;rfl)
theorem aK (b:Expr) {op:CmpOp} (h:op≠ .In:=by decide) (h2:op≠ .NotIn:=by decide):behindInMarks op b=false:=by
 have e1:(op == CmpOp.In)=false:=by cases op <;> first | rfl | exact absurd rfl h
 have e2:(op == CmpOp.NotIn)=false:=by cases op <;> first | rfl | exact absurd rfl h2
 cases b <;> simp [behindInMarks,e1,e2]
theorem zo:(sizeLine:Nat) < 2 ^ 63:=by rw [sizeLine_eq];decide
theorem vals1 {x:V} {us:List Value} (r:Vals [x] us):∃ u,us= [u]∧RelV x u:=by
 cases r with
 | cons r1 r2=>cases r2;exact ⟨_,rfl,r1⟩
theorem vals2 {x y:V} {us:List Value} (r:Vals [x,y] us):∃ u w',us= [u,w']∧RelV x u∧RelV y w':=by
 cases r with
 | cons r1 r2=>
   cases r2 with
   | cons r3 r4=>cases r4;exact ⟨_,_,rfl,r1,r3⟩
end
end L2
namespace L2
open PySem PySem.Spec PyProof.Rows
structure IX (h:Heap) (x dx C:Addr) (mA:Str→Option Value):Prop where
 obj:h.get? x=some (PySem.W.instObj C dx)
 ns:h.Ns1 dx mA
 ne:dx≠x
theorem BO {h:Heap} {dx:Addr} {mA:Str→Option Value} (n:h.Ns1 dx mA):∃ od,h.get? dx=some od∧∀ name,PySem.W.lookIn name od=some (mA name):=by
 obtain ⟨o,es,ep,ho,hd,hk,_,hm⟩:=n
 refine ⟨o,ho,fun name=>?_⟩
 have e:=hm name
 unfold nsFind findBy at e
 rw [← Array.find?_toList] at e
 unfold PySem.W.lookIn
 rw [hd]
 dsimp only
 split
 ·rename_i y q
  rw [q] at e
  exact congrArg some e
 ·rename_i q
  rw [q] at e
  have a:es.toList.any (·.refKey)=false:=by
   rw [Yr]
   intro y hy
   obtain ⟨z,t,hkey⟩:=hk y (Array.mem_toList_iff.mp hy)
   simp [DictEntry.refKey,hkey]
  have a':¬ es.toList.any (·.refKey)=true:=by rw [a];exact Vx
  rw [if_neg a']
  exact congrArg some e
theorem IX.look {h:Heap} {x dx C:Addr} {mA:Str→Option Value} (I:IX h x dx C mA):∃ od,PySem.W.InstAt h x (PySem.W.instObj C dx) C (some od)∧∀ name,PySem.W.lookIn name od=some (mA name):=
 let ⟨od,ho,hl⟩:=BO I.ns
 ⟨od,⟨I.obj,rfl,rfl,ho⟩,hl⟩
section
variable {prog:Program} {w:World} {A:Around} {E:Value→Shared→Prop} {s:Shared} {K:PySem.W.Frag} {x dx C f:Addr} {mA:Str→Option Value} {name:Str} {v:Value}
end
section
variable {P:Program} {w:World} {H H':Hp} {h h':Heap} {a C dx:Addr} {fs fs':List (Str ×V)}
theorem FI (hok:jk P w H h) (e:H a=some (.ins C dx fs)):∃ mA,IX h a dx C mA∧(∀ f,Iv (fs.lookup f) (mA f))∧PySem.Within mA (fs.map (·.1))∧fs.length≤1000∧H dx=some (.own a):=by
 obtain ⟨d,z,ne,ob,mA,n,r,q⟩:=(show cF P w H h a (.ins C dx fs) from hok a _ e)
 exact ⟨mA,⟨ob,n,ne⟩,r,q,z,d⟩
end
structure Oq (K:PySem.W.Frag) (C:Addr):Prop where
 pg:PySem.W.plainGet K C Str.empty=true
 hd:PySem.W.hasDictIn K C=true
 po:PySem.W.plainOver K C=true
 sa:PySem.W.findIn K (.ref C) "__setattr__" =some (some (.builtin "object.__setattr__"))
theorem Oq.get {K:PySem.W.Frag} {C:Addr} (c:Oq K C) (f:Str):PySem.W.plainGet K C f=true:=c.pg
structure Ur (K:PySem.W.Frag) (C:Addr) (f:Str) (v:V) (u:Value):Prop where
 at_:PySem.W.findIn K (.ref C) f=some (some u)
 rel:RelV v u
 get:PySem.W.specialIn K u "__get__" =some none
 cp:PySem.W.copiedNames.contains f=false
structure Meth (K:PySem.W.Frag) (C:Addr) (m:Str) (f:Addr):Prop where
 at_:PySem.W.findIn K (.ref C) m=some (some (.ref f))
 fn:PySem.W.isFn K (.ref f)=true
 kp:PySem.W.keepIn K (.ref f)=true
section
variable {X:Cx} {pins:List (Addr ×Obj)} {σ:St} {H:Hp} {s:Shared} {a C dx:Addr} {fs:List (Str ×V)} {f:Str} {v:V} {A:Around} {E:Value→Shared→Prop}
end
section
variable {X:Cx} {o e value:Expr} {f:Str} {pos pos' tpos:Pos} {ta tv:TE}
end
section
variable {X:Cx} {pins:List (Addr ×Obj)} {σ:St} {H:Hp} {s:Shared} {A:Around} {E:Value→Shared→Prop} {Q:Value→Shared→Prop} {c:Value} {b:Bool}
inductive qh (K:PySem.W.Frag) (H:Hp):V→Value→Prop where
 | aZ:qh K H .aZ (.type "NoneType")
 | bl (x:Bool):qh K H (.bl x) (.type "bool")
 | int (i:Int):qh K H (.int i) (.type "int")
 | str (x:Str):qh K H (.str x) (.type "str")
 | KA (x:UInt64):qh K H (.KA x) (.type "float")
 | lst {a:Addr} {xs:List V} (e:H a=some (.lst xs)):qh K H (.ref a) (.type "list")
 | lF {a:Addr} {o:Obj} {xs:List V} (e:H a=some (.lF o (.lst xs))):qh K H (.ref a) (.type "list")
 | tup {a:Addr} {xs:List V} (e:H a=some (.tup xs)):qh K H (.ref a) (.type "tuple")
 | dK {a:Addr} {kvs:List (Key ×V)} (e:H a=some (.dK kvs)):qh K H (.ref a) (.type "dict")
 | dT {a:Addr} {kvs:List (List Key ×V)} (e:H a=some (.dT kvs)):qh K H (.ref a) (.type "dict")
 | ins {a C dx:Addr} {fs:List (Str ×V)} (e:H a=some (.ins C dx fs)) (cl:Oq K C) (ha:PySem.W.findIn K (.ref C) "__class__" =some (some (.builtin "object.__class__")))
  (hn:PySem.W.specialIn K (.builtin "object.__class__") "__get__" =some (some (.builtin "getset_descriptor.__get__"))) (htk:PySem.W.takesIn K (.builtin "object.__class__")=some true)
  (hm:PySem.W.mroIn K C (.type "object")=some true):qh K H (.ref a) (.ref C)
theorem gA {x:V} {u t:Value} (I:Inv X pins σ H s) (rx:RelV x u) (ty:qh X.K H x t) (e:PySem.W.kitOne X.K t c=some b) (h:∀ tk,Q (.bool b) { s with toks:=tk }) :
 wpAny (model X.prog X.w) A (call (.builtin "isinstance") [u,c]) Q E s:=by
 cases ty with
 | aZ=>cases (show u=Value.none from rx);exact PySem.W.kia_one PySem.W.kitx_none I.xq True.intro e (fun z=>nomatch z) h
 | bl y=>cases (show u=Value.bool y from rx);exact PySem.W.kia_one PySem.W.kitx_bool I.xq True.intro e (fun z=>nomatch z) h
 | int i=>obtain ⟨t,q⟩:=(show ∃ t,u=Value.int i t from rx);cases q;exact PySem.W.kia_one PySem.W.kitx_int I.xq True.intro e (fun z=>nomatch z) h
 | str y=>obtain ⟨t,q⟩:=(show ∃ t,u=Value.str y t from rx);cases q;exact PySem.W.kia_one PySem.W.kitx_str I.xq True.intro e (fun z=>nomatch z) h
 | KA y=>obtain ⟨t,q⟩:=(show ∃ t,u=Value.float y t from rx);cases q;exact PySem.W.kia_one PySem.W.kitx_float I.xq True.intro e (fun z=>nomatch z) h
 | @lst a xs ea=>
   cases (show u=Value.ref a from rx)
   obtain ⟨_,_,n,_,h1⟩:=(show cF X.prog X.w H s.heap a (.lst xs) from I.hok a _ ea)
   exact PySem.W.kia_one PySem.W.kitx_list I.xq ⟨_,h1,rfl⟩ e (fun z=>nomatch z) h
 | @lF a ob xs ea=>
   cases (show u=Value.ref a from rx)
   obtain ⟨_,_,_,n,_,h1⟩:=(show cF X.prog X.w H s.heap a (.lF ob (.lst xs)) from I.hok a _ ea)
   exact PySem.W.kia_one PySem.W.kitx_list I.xq ⟨_,h1,rfl⟩ e (fun z=>nomatch z) h
 | @tup a xs ea=>
   cases (show u=Value.ref a from rx)
   obtain ⟨_,_,_,p⟩:=(show cF X.prog X.w H s.heap a (.tup xs) from I.hok a _ ea)
   obtain ⟨o,h1,h2,_⟩:=p
   exact PySem.W.kia_one PySem.W.kitx_tuple I.xq ⟨o,h1,h2⟩ e (fun z=>nomatch z) h
 | @dK a kvs ea=>
   cases (show u=Value.ref a from rx)
   obtain ⟨_,_,vs,_,p⟩:=(show cF X.prog X.w H s.heap a (.dK kvs) from I.hok a _ ea)
   obtain ⟨o,es,ep,h1,h2,_⟩:=p
   exact PySem.W.kia_one PySem.W.kitx_dict I.xq ⟨o,h1,h2.1⟩ e (fun z=>nomatch z) h
 | @dT a kvs ea=>
   cases (show u=Value.ref a from rx)
   obtain ⟨_,_,xs,_,o,es,ep,h1,h2,_⟩:=(show cF X.prog X.w H s.heap a (.dT kvs) from I.hok a _ ea)
   exact PySem.W.kia_one PySem.W.kitx_dict I.xq ⟨o,h1,h2.1⟩ e (fun z=>nomatch z) h
 | @ins a C dx fs ea cl ha hn htk hm=>
   cases (show u=Value.ref a from rx)
   obtain ⟨mA,O,_⟩:=FI I.hok ea
   obtain ⟨od,J,_⟩:=O.look
   exact PySem.W.kia_one (PySem.W.kitx_own (cl.get _) cl.hd ha hn htk hm) I.xq J e (fun z=>nomatch z) h
end
end L2
namespace L2
open PySem PySem.Spec PyProof.Rows
structure iJ (k:Nat) (A:Around):Prop where
 hd:A.handled=none
 dp:A.depth+3*k+5 < recursionLimit
 un:A.units+16*k+200 < cLine
theorem iJ.mono {j k:Nat} {A:Around} (r:iJ k A) (h:j≤k):iJ j A:=⟨r.hd,by have:=r.dp;omega,by have:=r.un;omega⟩
theorem iJ.deeper {k:Nat} {A:Around} (r:iJ (k+1) A) (env:Env):iJ k (A.deeper env):=
 ⟨r.hd,by have:=r.dp;show A.depth+1+3*k+5 < _;omega,by have:=r.un;show A.units+3+16*k+200 < _;omega⟩
theorem iJ.depth {k:Nat} {A:Around} (r:iJ k A):A.depth < recursionLimit:=by have:=r.dp;omega
theorem iJ.units {k:Nat} {A:Around} (r:iJ k A):A.units+64 < cLine:=by have:=r.un;omega
def Lh:TA:=fun _ H Q=>Q [] H
def HC (ta:TE) (tr:TA):TA:=fun σ H Q=>ta σ H fun x H1=>tr σ H1 fun xs H2=>Q (x :: xs) H2
section
variable {X:Cx} {e:Expr} {es:List Expr} {te:TE} {t:TA} {pos:Pos}
theorem l8:PA X [] Lh:=fun _ _ _ _ H Q I h=>Calls.spliced_nil ⟨[],H,I,.nil,h⟩
theorem jl (ha:PE X e te) (hr:PA X es t) (hs:starEach (e :: es) X.env=(false,eval e X.env) :: starEach es X.env:=by rfl):PA X (e :: es) (HC te t):=by
 intro pos pins s σ H Q I h
 rw [hs]
 show wpAny _ _ (spliced ((false,eval e X.env) :: backTo pos (starEach es X.env))) _ _ s
 refine Calls.spliced_cons (cM (ha pins s σ H _ I h) fun u s1 ⟨x,H1,I1,r1,q1⟩=>?_)
 exact cM (hr pos pins s1 σ H1 _ I1 q1) fun us s2 ⟨xs,H2,I2,r2,q2⟩=>⟨x :: xs,H2,I2,.cons r1 r2,q2⟩
def Ot (t:TA):TE:=fun σ H Q=>t σ H fun xs H1=>xs.length≤sizeLine∧∀ p,H1 p=none→Q (.ref p) (upd H1 p (.tup xs))
def Ou (t:TA):TE:=fun σ H Q=>t σ H fun xs H1=>xs.length≤sizeLine∧∀ p,H1 p=none→Q (.ref p) (upd H1 p (.lst xs))
theorem IY {x1} (h:PA X es t):PE X (.Tuple es x1 pos) (Ot t):=by
 intro pins s σ H Q I hq
 refine wpAny_Tuple_spliced (cM (h pos pins s σ H _ I hq) fun us s1 ⟨xs,H1,I1,r,z,q⟩=>⟨by rw [← r.length];exact z,?_⟩)
 have hf:H1 s1.heap.objs.size=none:=I1.hok.fresh (Vr _)
 refine ⟨.ref s1.heap.objs.size,upd H1 s1.heap.objs.size (.tup xs),I1.laid (t':=s1.toks) (fun b u e=>Heap.get?_push_of_some _ e) (Vr _) ?_,rfl,q _ hf⟩
 exact ⟨z,us,r,⟨_,Heap.get?_push_size _ rfl,rfl,_,rfl⟩⟩
theorem zq (h:PA X es t):PE X (.List es pos) (Ou t):=by
 intro pins s σ H Q I hq
 refine wpAny_List_spliced (cM (h pos pins s σ H _ I hq) fun us s1 ⟨xs,H1,I1,r,z,q⟩=>⟨by rw [← r.length];exact z,?_⟩)
 have hf:H1 s1.heap.objs.size=none:=I1.hok.fresh (Vr _)
 refine ⟨.ref s1.heap.objs.size,upd H1 s1.heap.objs.size (.lst xs),I1.laid (t':=s1.toks) (fun b u e=>Heap.get?_push_of_some _ e) (Vr _) ?_,rfl,q _ hf⟩
 exact ⟨z,us,0,r,Heap.get?_push_size _ rfl⟩
end
abbrev Sp:=List V→Hp→VK→XK→Prop
abbrev Dc:=List Env→Hp→Shared→XK→Value→Shared→Prop
structure FJ (P:Program) (w:World) (K:PySem.W.Frag) (mg:Str→Option Value) (base:Heap) (A:Around) (outer:List Env) (s:Shared) (H:Hp):Prop where
 frames:A.frames=some outer
 mod:Mod K mg base
 bs:∀ b o,base.get? b=some o→s.heap.get? b=some o∧H b=none
 Hz:base.objs.size≤s.heap.objs.size
 qg:s.heap.FunFrames base outer
 IB:∀ b∈frs outer,H b=none
 hok:jk P w H s.heap
 bare:AllBare s.gens
def CE (outer:List Env) (P:Program) (w:World) (H:Hp) (s:Shared) (Q:VK) (u:Value) (s':Shared):Prop:=
 ∃ v H',s'.os=s.os∧AllBare s'.gens∧Un (frs outer) [] H H' s.heap s'.heap∧jk P w H' s'.heap∧RelV v u∧Q v H'
def CR (CX:Dc) (outer:List Env) (P:Program) (w:World) (H:Hp) (s:Shared) (Q:VK) (E:XK) (r:Result) (s':Shared):Prop:=
 match r with
 | .ok (.ret u)=>CE outer P w H s Q u s'
 | .ok _=>False
 | .error e=>CX outer H s E e s'
structure bD (P:Program) (w:World) (K:PySem.W.Frag) (mg:Str→Option Value) (base:Heap) (CX:Dc) (k:Nat) (f:Addr) (fd:FuncData) (ps:List Str) (sp:Sp):Prop where
 len:∀ vs H Q E,sp vs H Q E→vs.length=ps.length
 run:∀ (A:Around) (outer:List Env) (s:Shared) (H:Hp) (args:Args) (us:List Value) (vs:List V) (Q:VK) (E:XK),iJ k A→FJ P w K mg base A outer s H→BindsTo s fd args (ps.zip us)→Vals vs us→sp vs H Q E→
  codeAny (model P w) A (.call (.ref f) args) (CR CX outer P w H s Q E) s
section
variable {X:Cx} {pins:List (Addr ×Obj)} {σ:St} {H:Hp} {s s':Shared}
theorem Inv.Ov (I:Inv X pins σ H s):FJ X.prog X.w X.K X.mg X.base X.A X.stack s H:=
 ⟨I.ok.frames,I.ok.mod,I.bs,Wx I.ok.Hz I.sz,I.stack,I.AH,I.hok,I.bare⟩
theorem Inv.after {Q:VK} {u:Value} (I:Inv X pins σ H s) (h:CE X.stack X.prog X.w H s Q u s'):EP X pins σ Q u s':=by
 obtain ⟨v,H',os,bare,un,hok,r,q⟩:=h
 obtain ⟨hh,g,d,t,os'⟩:=s'
 obtain rfl:os'=s.os:=os
 exact ⟨v,H',I.call (h':=hh) (g':=g) (d':=d) (t':=t) (ch:=[]) un hok bare (fun b z=>absurd z (by simp)),r,q⟩
end
def Li (sp:Sp) (CM:List V) (E:XK) (t:TA):TE:=fun σ H Q=>t σ H fun vs H1=>sp (vs ++ CM) H1 Q E
def Binds (K:PySem.W.Frag) (fd:FuncData) (ps:List Str) (ds:List Value):Prop:=
 ∀ (s:Shared) (us:List Value),K.In s.heap→(us ++ ds).length=ps.length→BindsTo s fd ⟨us,[]⟩ (ps.zip (us ++ ds))
theorem Binds.all {K:PySem.W.Frag} {fd:FuncData} {ps:List Str} (h:∀ us:List Value,us.length=ps.length→bindArgs fd ⟨us,[]⟩=pure (ps.zip us)):Binds K fd ps []:=fun s us _ hl=>by
 rw [WE] at hl ⊢
 exact .of_eq (h us hl)
def Passes (CX:Dc) (X:Cx) (E:XK):Prop:= ∀ (pins:List (Addr ×Obj)) (σ:St) (H:Hp) (s:Shared) (e:Value) (s':Shared),Inv X pins σ H s→CX X.stack H s E e s'→X.xe e s'
section
variable {X:Cx} {CX:Dc} {k:Nat} {f C:Addr} {fd:FuncData} {ps:List Str} {sp:Sp} {CM:List V} {ds:List Value} {E:XK} {x m:Str} {p pos apos:Pos} {e o:Expr} {es:List Expr} {ta:TE} {t:TA}
theorem IZ {pins:List (Addr ×Obj)} {σ:St} {H:Hp} {s:Shared} {Q:VK} {us:List Value} {vs:List V} (F:bD X.prog X.w X.K X.mg X.base CX k f fd ps sp) (hr:iJ k X.A) (hb:Binds X.K fd ps ds) (hd:Vals CM ds) (hx:Passes CX X E)
 (I:Inv X pins σ H s) (r:Vals vs us) (h:sp (vs ++ CM) H Q E):wpAny (model X.prog X.w) X.A (call (.ref f) us) (EP X pins σ Q) X.xe s:=by
 have r2:Vals (vs ++ CM) (us ++ ds):=r.append hd
 have hl:(us ++ ds).length=ps.length:=by rw [← r2.length];exact F.len _ _ _ _ h
 refine wpAny_call (codeAny_mono (F.run X.A X.stack s H ⟨us,[]⟩ (us ++ ds) (vs ++ CM) Q E hr I.Ov (hb s us I.xq hl) r2 h) fun r s' hq=>?_)
 cases r with
 | error e=>exact hx pins σ H s e s' I hq
 | ok fl=>
   cases fl with
   | ret u=>exact I.after hq
   | next=>exact False.elim hq
   | brk=>exact False.elim hq
   | cont=>exact False.elim hq
theorem AM (F:bD X.prog X.w X.K X.mg X.base CX k f fd ps sp) (hr:iJ k X.A) (hg:Gl X x) (hm:X.mg x=some (.ref f)) (hk:PySem.W.keepIn X.K (.ref f)=true) (hb:Binds X.K fd ps ds) (hd:Vals CM ds) (hx:Passes CX X E)
 (ha:PA X (e :: es) t) (hdb:(x == ("__debug__" :Str))=false:=by decide) (he:starEach (e :: es) X.env=(false,eval e X.env) :: starEach es X.env:=by rfl) (hpl:(backTo pos (starEach es X.env)).any (·.1)=false:=by rfl) :
 PE X (.Call (.Name x p) (e :: es) [] pos) (Li sp CM E t):=by
 intro pins s σ H Q I h
 refine wpAny_Call_Name_kw (Ft I hg hm ?_ hdb)
 refine PySem.W.callWith_K (h₀:=X.base) I.ok.mod.IA hk (cM (ha pos pins s σ H _ I h) fun us s1 ⟨vs,H1,I1,r,q⟩=>⟨I1.xq,?_⟩) he hpl
 exact IZ F hr hb hd hx I1 r q
structure Mk (K:PySem.W.Frag) (C f:Addr):Prop where
 makes:PySem.W.makesIn K C=true
 init:PySem.W.findIn K (.ref C) "__init__" =some (some (.ref f))
 fn:PySem.W.isFn K (.ref f)=true
 kp:PySem.W.keepIn K (.ref C)=true
end
section
variable {X:Cx} {CX:Dc} {k:Nat} {f C:Addr} {fd:FuncData} {ps ks:List Str} {sp:Sp} {E:XK} {x m:Str} {p pos apos kpos:Pos} {e o:Expr} {es:List Expr} {kws:List Keyword} {te ta:TE} {t tk:TA} {nm:Option Str}
structure Ow (K:PySem.W.Frag) (fd:FuncData) (ps ks:List Str) (g:List Value→List Value→List Value) (gV:List V→List V→List V):Prop where
 to:∀ (s:Shared) (us ws:List Value),K.In s.heap→(g us ws).length=ps.length→BindsTo s fd ⟨us,ks.zip ws⟩ (ps.zip (g us ws))
 rel:∀ {vs:List V} {us:List Value} {zs:List V} {ws:List Value},Vals vs us→Vals zs ws→Vals (gV vs zs) (g us ws)
variable {g:List Value→List Value→List Value} {gV:List V→List V→List V}
end
structure aN (N P:List Str) (sc:Scope):Prop where
 kind:sc.kind= .function
 co:sc.isCoroutine=false
 gen:sc.isGenerator=false
 nd:N.Nodup
 pre:N.take P.length=P
 par:∀ x∈P,sc.names.lookup x=some .local∨sc.names.lookup x=some .cell
 I0:∀ y∈sc.names,y.2≠ .free
theorem uq {kindOf:Str→Option NameKind} {x:Str}:∀ {binds:List (Str ×Value)} {m:Str→Option Value},(∀ v,(x,v)∉binds)→bindL kindOf binds m x=m x
 | [],_,_=>rfl
 | (n,v) :: r,m,h=>by
   unfold bindL
   rw [uq fun w hw=>h w (Vj _ hw)]
   split
   ·have:x≠n:=by rintro rfl;exact h v Vz
    simp [this]
   ·rfl
theorem ur {kindOf:Str→Option NameKind} {x:Str}:∀ {binds:List (Str ×Value)} {m:Str→Option Value},(∀ v,(x,v)∉binds)→bindC kindOf binds m x=m x
 | [],_,_=>rfl
 | (n,v) :: r,m,h=>by
   unfold bindC
   rw [ur fun w hw=>h w (Vj _ hw)]
   split
   ·rfl
   ·have:x≠n:=by rintro rfl;exact h v Vz
    simp [this]
theorem uu {kindOf:Str→Option NameKind} {x:Str} {v:Value}:∀ {P:List Str} {vs:List Value} {i:Nat} {m:Str→Option Value},P.Nodup→P[i]?=some x→vs[i]?=some v→kindOf x=some .local→
 bindL kindOf (P.zip vs) m x=some v
 | [],_,_,_,_,h,_,_=>by simp at h
 | _ :: _,[],_,_,_,_,h,_=>by simp at h
 | p :: P,w :: vs,0,m,nd,h1,h2,hk=>by
   simp at h1 h2;subst h1;subst h2
   show bindL kindOf ((p,w) :: P.zip vs) m p=_
   unfold bindL
   rw [uq fun v hv=>(VC.mp nd).1 (X8 hv).1,if_pos hk]
   simp
 | p :: P,w :: vs,i+1,m,nd,h1,h2,hk=>by
   show bindL kindOf ((p,w) :: P.zip vs) m x=_
   unfold bindL
   exact uu (i:=i) (VC.mp nd).2 (by simpa using h1) (by simpa using h2) hk
theorem uv {kindOf:Str→Option NameKind} {x:Str} {v:Value}:∀ {P:List Str} {vs:List Value} {i:Nat} {m:Str→Option Value},P.Nodup→P[i]?=some x→vs[i]?=some v→kindOf x≠some .local→
 bindC kindOf (P.zip vs) m x=some v
 | [],_,_,_,_,h,_,_=>by simp at h
 | _ :: _,[],_,_,_,_,h,_=>by simp at h
 | p :: P,w :: vs,0,m,nd,h1,h2,hk=>by
   simp at h1 h2;subst h1;subst h2
   show bindC kindOf ((p,w) :: P.zip vs) m p=_
   unfold bindC
   rw [ur fun v hv=>(VC.mp nd).1 (X8 hv).1,if_neg hk]
   simp
 | p :: P,w :: vs,i+1,m,nd,h1,h2,hk=>by
   show bindC kindOf ((p,w) :: P.zip vs) m x=_
   unfold bindC
   exact uv (i:=i) (VC.mp nd).2 (by simpa using h1) (by simpa using h2) hk
def start (N:List Str) (vs:List V):St:=vs.map some ++ List.replicate (N.length - vs.length) none
def qi (CX:Dc) (P:Program) (w:World) (K:PySem.W.Frag) (mg:Str→Option Value) (base:Heap) (N:List Str) (qual:Str) (scope:Scope) (f:Addr) (cd:Value) (A:Around) (outer:List Env) (s:Shared) (H:Hp) (E:XK):Cx where
 prog:=P
 w:=w
 K:=K
 mg:=mg
 base:=base
 A:=A.deeper (envOfC qual scope s.heap.objs.size f cd)
 N:=N
 s₀:=s
 H₀:=H
 env:=envOfC qual scope s.heap.objs.size f cd
 outer:=outer
 stack:=envOfC qual scope s.heap.objs.size f cd :: outer
 ex:=[]
 calm:=true
 fn:=fun _=>true
 pn:=[]
 xe:=fun e s'=>wpAny (model P w) (A.deeper (envOfC qual scope s.heap.objs.size f cd)) (leaving (envOfC qual scope s.heap.objs.size f cd) e) (fun _ s''=>CX outer H s E e s'') (fun e' s''=>CX outer H s E e' s'') s'
theorem xH {sc:Scope} {n:Nat} {x:Str} (h:sc.names.lookup x=some .cell):∃ c,(cellsFrom n sc.names []).lookup x=some c:=by
 have q:=PySem.W.cellsFrom_some sc.names n [] (.inl h)
 exact XS.mp q
theorem BP {CX:Dc} {P:Program} {w:World} {K:PySem.W.Frag} {mg:Str→Option Value} {base:Heap} {N ps:List Str} {qual:Str} {scope:Scope} {f:Addr} {cd:Value} {A:Around} {outer:List Env} {s s1:Shared} {H:Hp} {E:XK} {us:List Value} {vs:List V}
 (S:aN N ps scope) (hd:A.handled=none) (e0:FJ P w K mg base A outer s H) (hl:vs.length=ps.length) (r:Vals vs us)
 (x:InCallC s s.heap.objs.size (bindL (envOfC qual scope s.heap.objs.size f cd).kindOf (ps.zip us) fun _=>none) (cellsFrom (s.heap.objs.size+1) scope.names []) (bindC (envOfC qual scope s.heap.objs.size f cd).kindOf (ps.zip us) fun _=>none) s1) :
 Inv (qi CX P w K mg base N qual scope f cd A outer s H E) [] (start N vs) H s1:=by
 have hpl:ps.length≤N.length:=by have:=congrArg List.length S.pre;rw [Wq] at this;omega
 obtain ⟨h1,tk,rfl,hk⟩:=x.done
 have Lj:∀ b:Addr,b∉(qi CX P w K mg base N qual scope f cd A outer s H E).ex:=fun b z=>absurd (show b∈([]:List Addr) from z) (by simp)
 refine ⟨⟨e0.mod,S.kind,rfl,rfl,Vr _,fun y z c h1 h2=>?_,fun y hy=>?_,fun y c _ h=>?_,fun _=>hd,Around.frames_deeper e0.frames,.inr ⟨rfl,rfl⟩,fun b z=>absurd z (Lj b),e0.bs,e0.Hz,fun b _ _=>Lj b,fun b z=>absurd z (Lj b),e0.qg,e0.IB⟩,
  rfl,e0.bare,Un.kept hk,⟨_,x.toInCall.ns,fun i y v h1 h2 h3=>?_⟩,fun y c h=>⟨_,x.cell y c h⟩,e0.hok.fresh (Vr _),fun y c h=>?_,fun p hp=>absurd (show p∈([]:List (Addr ×Obj)) from hp) (by simp),e0.hok.kept hk,?_⟩
 ·exact name_of_addr x.apart (PySem.mem_of_lookup h1) (PySem.mem_of_lookup h2)
 ·have hy:scope.names.lookup y=some .cell∨scope.names.lookup y=some .free:=hy
  rcases hy with hy | hy
  ·exact xH hy
  ·exact absurd rfl (S.I0 _ (PySem.mem_of_lookup hy))
 ·exact Xf (x.above y c (PySem.mem_of_lookup h))
 ·have hi:i < vs.length:=by
   unfold start at h2
   by_cases hi:i < vs.length
   ·exact hi
   ·rw [WI (by simpa using hi)] at h2
    rw [XY] at h2
    split at h2 <;> cases h2
  have ha:vs[i]?=some v:=by
   unfold start at h2
   rw [WN (by simpa using hi),VT] at h2
   cases e:vs[i]? with
   | none=>rw [e] at h2;cases h2
   | some a=>rw [e] at h2;cases h2;rfl
  obtain ⟨u,hu,rv⟩:=r.get ha
  have hp:ps[i]?=some y:=by
   rw [← S.pre,XT (by omega)];exact h1
  have Qz:ps.Nodup:=by rw [← S.pre];exact S.nd.sublist (Ys _ _)
  refine ⟨u,rv,?_⟩
  rcases S.par y (Vy hp) with k | k
  ·exact .inl ⟨k,uu Qz hp hu k⟩
  ·obtain ⟨c,e⟩:=xH (n:=s.heap.objs.size+1) k
   refine .inr ⟨.inl k,c,e,?_⟩
   have q:=x.cell y c e
   rw [uv Qz hp hu (by show scope.names.lookup y≠_;rw [k];decide)] at q
   exact q
 ·exact e0.hok.fresh (Xf (x.above y c (PySem.mem_of_lookup h)))
 ·unfold start
  show _=N.length
  rw [VA,Vk,List.length_replicate]
  omega
theorem Lk {CX:Dc} {P:Program} {w:World} {K:PySem.W.Frag} {mg:Str→Option Value} {base:Heap} {k:Nat} {f:Addr} {name qual:Str} {params:Arguments} {body:List Stmt} {scope:Scope} {dV kV doc pm cdv ct oc:Value} {an od:Option Addr}
 {osl:Array (Option Value)} {N ps:List Str} {sp:Sp} (lk:K.lookup f=some ⟨oc,od,.func (PySem.W.fnOf name qual params body scope dV kV doc pm an cdv ct),osl⟩) (hcd:PySem.W.codeIn K cdv qual=true) (S:aN N ps scope)
 (len:∀ vs H Q E,sp vs H Q E→vs.length=ps.length)
 (hbody:∀ (A:Around) (outer:List Env) (s:Shared) (H:Hp) (vs:List V) (Q:VK) (E:XK),iJ k (A.deeper (envOfC qual scope s.heap.objs.size f cdv))→sp vs H Q E→
  ∃ t,zk (qi CX P w K mg base N qual scope f cdv A outer s H E) body t∧t { nx:=fun _ H'=>Q .aZ H',rt:=Q } (start N vs) H) :
 bD P w K mg base CX (k+1) f (PySem.W.fnOf name qual params body scope dV kV doc pm an cdv ct) ps sp:=by
 refine ⟨len,fun A outer s H args us vs Q E hr e0 hb r HE=>?_⟩
 have hl:=len _ _ _ _ HE
 have KX:K.In s.heap:=e0.mod.IA.keeps fun b o e=>(e0.bs b o e).1
 have lim:s.heap.NoLimit:=e0.mod.nolimit.keeps fun b o e=>(e0.bs b o e).1
 have hkind:∀ y∈ps.zip us,scope.names.lookup y.1=some .local∨(scope.names.lookup y.1=some .cell∧((cellsFrom (s.heap.objs.size+1) scope.names []).lookup y.1).isSome=true):=fun ⟨n,v⟩ hy=>by
  rcases S.par n (X8 hy).1 with q | q
  ·exact .inl q
  ·exact .inr ⟨q,PySem.W.cellsFrom_some _ _ _ (.inl q)⟩
 refine codeAny_call_function hr.depth (KX _ _ lk) rfl S.co S.gen rfl (PySem.W.codeRec_of KX hcd) (hb _ _ _ _ ?_)
 refine wpAny_newFunctionEnv_cells S.kind hkind fun env he s1 x=>?_
 subst he
 refine ⟨lim.keeps x.toInCall.keep,codeAny_func ?_⟩
 obtain ⟨t,ht,hq⟩:=hbody A outer s H vs Q E (hr.deeper _) HE
 have I:Inv (qi CX P w K mg base N qual scope f cdv A outer s H E) [] (start N vs) H s1:=BP S hr.hd e0 hl r x
 refine wpAny_mono (ht [] s1 (start N vs) H _ I hq) (fun fl s' hs=>?_) fun e s' hs=>hs
 have fin:∀ {σ':St} {H':Hp} {v:V} {u:Value},Inv (qi CX P w K mg base N qual scope f cdv A outer s H E) [] σ' H' s'→RelV v u→Q v H'→CE outer P w H s Q u s':=
  fun {σ' H' v u} J rv q=>⟨v,H',J.os,J.bare,J.base,J.hok,rv,q⟩
 cases fl with
 | ret u=>
   obtain ⟨v,σ',H',J,rv,q⟩:=hs
   exact fin J rv q
 | next=>
   obtain ⟨σ',H',J,q⟩:=hs
   exact fin (v:=V.aZ) (u:=Value.none) J rfl q
 | brk=>
   obtain ⟨_,_,_,q⟩:=hs
   exact False.elim q
 | cont=>
   obtain ⟨_,_,_,q⟩:=hs
   exact False.elim q
end L2
namespace L2
open PySem PySem.Spec PyProof.Rows
section
variable {X:Cx} {x:Str} {p pos:Pos} {e:Expr} {es:List Expr} {t:TA} {id T:String} {r:List V→Hp→VK→Prop}
end
end L2
namespace HT
open PySem PyProof.Rows
def lexLt:List Int→List Int→Bool
 | [],[]=>false
 | [],_ :: _=>true
 | _ :: _,[]=>false
 | x :: xs,y :: ys=>if x=y then lexLt xs ys else decide (x < y)
theorem l9 (x y:Int) (xs ys:List Int):lexLt (x :: xs) (y :: ys)=if x=y then lexLt xs ys else decide (x < y):=rfl
theorem lH:lexLt [] []=false:=rfl
theorem qT (y:Int) (ys:List Int):lexLt [] (y :: ys)=true:=rfl
theorem qU (x:Int) (xs:List Int):lexLt (x :: xs) []=false:=rfl
theorem Dd (A:Around) (s:Shared) (a:Int) (t:Tok) (c:Int) (u:Tok):∃ e,SeqAt.EqAt A s (.int a t) (.int c u) e∧(e=true↔a=c):=
 ⟨(a == c),SeqAt.EqAt.int_int a t c u,by simp⟩
theorem De (A:Around) (s:Shared) (a:Int) (t:Tok) (c:Int) (u:Tok) (prog:Program) (w:World) (E:Value→Shared→Prop) (Q:Value→Shared→Prop) (h:Q (.bool (decide (a < c))) s) :
 wpAny (model prog w) A (richCompare .Lt (.int a t) (.int c u)) Q E s:=
 (PyProof.Rows.lt_int h:wpAny (model prog w) A (compareOp .Lt (.int a t) (.int c u)) Q E s)
section
open PySem.SeqAt
open PySem.AutoSeq1 (wpAny_loadPart')
open PySem.MeetsSeq PySem.MeetsSeq2 PySem.MeetsSeq3
theorem tQ (l b:Addr) (items items2:Array Value) (n n2:Nat) (dd dd2:Option Addr) (sl sl2:Array (Option Value)) (ns ms:List Int) (hi:IntsAre items.toList ns) (hj:IntsAre items2.toList ms) :
 Meets (Builtin.«tuple.__lt__» ⟨[.ref l,.ref b],[]⟩)
  (fun _ R s=>s.heap.get? l=some { cls:= .type "tuple",dict:=dd,data:= .seq items n,slots:=sl }∧s.heap.get? b=some { cls:= .type "tuple",dict:=dd2,data:= .seq items2 n2,slots:=sl2 }∧
   R (.ok (.ret (.bool (lexLt ns ms)))) s):=
 .of_wp fun prog w A R s h=>by
  obtain ⟨hp,g,d,tk,os⟩:=s;obtain ⟨hl,hb,h⟩:=h
  have f2:=AutoSeq1.sub_tuple_tuple
  have z1:items.size=ns.length:=by rw [← hi.length];simp
  have z2:items2.size=ms.length:=by rw [← hj.length];simp
  wp_walk using wpAny_loadPart' hl,wpAny_loadPart' hb,wpAny_forIn_list _ (fun rest b s'=>b.1=none∧s'= ⟨hp,g,d,tk,os⟩∧∃ (vs ws:List Value) (ns' ms':List Int),rest=vs.zip ws∧
   IntsAre vs ns'∧IntsAre ws ms'∧ns'.length+items2.size=ms'.length+items.size∧R (.ok (.ret (.bool (lexLt ns' ms')))) ⟨hp,g,d,tk,os⟩) _
  case turn=>
   rintro ⟨y,x⟩ rest b s' ⟨hb',rfl,vs,ws,ns',ms',hz,Ox,hwi,hlen,hR⟩
   cases Ox with
   | nil=>rw [List.zip_nil_left] at hz;cases hz
   | cons a t Oz=>
     cases hwi with
     | nil=>rw [Xe] at hz;cases hz
     | cons c u OA=>
       rw [WB] at hz
       injection hz with hyx hrest
       injection hyx with hy hx
       subst hy hx
       rw [l9] at hR
       simp only [VN] at hlen
       obtain ⟨e,he,hiff⟩:=Dd A.in1 ⟨hp,g,d,tk,os⟩ a t c u
       refine wpAny_bind (he prog w _ _ ?_)
       cases e with
       | true=>
         rw [if_pos (hiff.mp rfl)] at hR
         wp_walk
         exact ⟨rfl,rfl,_,_,_,_,hrest,Oz,OA,by omega,hR⟩
       | false=>
         rw [if_neg (fun q=>absurd (hiff.mpr q) Vx)] at hR
         have RK:=De A.in1 ⟨hp,g,d,tk,os⟩ a t c u prog w
         wp_walk using RK
         exact ⟨_,rfl,by simpa using hR⟩
  case fin=>
   rintro ⟨b1,b2⟩ s' ⟨hb',rfl,vs,ws,ns',ms',hz,Ox,hwi,hlen,hR⟩
   simp only at hb'
   subst hb'
   have hv:lexLt ns' ms'=decide (items.size < items2.size):=by
    cases Ox with
    | nil=>
      cases hwi with
      | nil=>
        simp only [WL] at hlen
        rw [lH]
        exact (decide_eq_false (by omega)).symm
      | cons c u hw=>
        simp only [WL,VN] at hlen
        rw [qT]
        exact (decide_eq_true (by omega)).symm
    | cons a t hv=>
      cases hwi with
      | nil=>
        simp only [WL,VN] at hlen
        rw [qU]
        exact (decide_eq_false (by omega)).symm
      | cons c u hw=>
        rw [WB] at hz
        cases hz
   rw [hv] at hR
   wp_walk
   exact ⟨_,rfl,by simpa [Builtin.Tuple.tupleCompareSizes] using hR⟩
  case h=>
   exact ⟨rfl,rfl,items.toList,items2.toList,ns,ms,rfl,hi,hj,by omega,h⟩
end
section
variable {prog:Program} {w:World} {A:Around} {E:Value→Shared→Prop} {s:Shared}
theorem mh {l b:Addr} {items items2:Array Value} {ns ms:List Int} {Q:Value→Shared→Prop} (hl:IsTup s.heap l items) (hb:IsTup s.heap b items2) (hi:IntsAre items.toList ns) (hj:IntsAre items2.toList ms)
 (hu:A.units < cLine) (h:Q (.bool (lexLt ns ms)) s):wpAny (model prog w) A (compareOp .Lt (.ref l) (.ref b)) Q E s:=by
 obtain ⟨⟨cls,dd,data,sl⟩,ho,hc,n,hd⟩:=id hl
 obtain ⟨⟨RL,dd2,data2,sl2⟩,ho2,hc2,n2,hd2⟩:=id hb
 simp only at hc hd hc2 hd2
 subst hc hd hc2 hd2
 exact richCompare_meets_room (op:= .Lt) ⟨_,ho,rfl⟩ ⟨_,ho2,rfl⟩ PySem.F.slot_tuple_lt PySem.F.entry_tuple_lt (PySem.F.args_tuple_lt_2 _ _) (tQ l b items items2 n n2 dd dd2 sl sl2 ns ms hi hj)
  ⟨ho,ho2,show Value.bool (lexLt ns ms)≠Value.notImplemented∧Q (.bool (lexLt ns ms)) s from ⟨(fun x=>nomatch x),h⟩⟩ hu
def pU (n d:Nat):Option Int→Nat
 | none=>d
 | some v=>if v < 0 then (v+(n:Int)).toNat else min v.toNat n
theorem xJ (n d:Nat):pU n d none=d:=rfl
theorem AN (n d k:Nat):pU n d (some (k:Int))=min k n:=by
 show (if (k:Int) < 0 then ((k:Int)+(n:Int)).toNat else min (k:Int).toNat n)=min k n
 rw [if_neg (by omega),XH]
end
end HT
namespace L2
open PySem PySem.Spec PyProof.Rows
abbrev TO:=St→Hp→(Option Int→Hp→Prop)→Prop
def PO (X:Cx) (e:Option Expr) (t:TO):Prop:=
 ∀ (pins:List (Addr ×Obj)) (s:Shared) (σ:St) (H:Hp) (Q:Option Int→Hp→Prop),Inv X pins σ H s→t σ H Q→
   wpAny (model X.prog X.w) X.A (evalPart e X.env) (fun u s'=> ∃ o H',Inv X pins σ H' s'∧IsPart u o∧Q o H') X.xe s
def AO:TO:=fun _ H Q=>Q none H
def HF (t:TE):TO:=fun σ H Q=>t σ H fun x H1=> ∃ i,x= .int i∧Q (some i) H1
theorem intsAre_of {ns:List Int}:∀ {us:List Value},Vals (ns.map V.int) us→IntsAre us ns:=by
 induction ns with
 | nil=>intro us r;rw [List.map_nil] at r;cases r;exact .nil
 | cons n ns ih=>
   intro us r
   rw [VP] at r
   cases r with
   | cons r1 r2=>
     obtain ⟨t,e⟩:=r1
     subst e
     exact .cons n t (ih r2)
section
variable {X:Cx} {e:Expr} {te:TE} {lo hi:Option Expr} {tl th:TO} {pos p2:Pos}
theorem FL:PO X none AO:=by
 intro pins s σ H Q I h
 rw [evalPart_none]
 exact wpAny_pure ⟨none,H,I,.none,h⟩
theorem FN (h:PE X e te):PO X (some e) (HF te):=by
 intro pins s σ H Q I hw
 rw [evalPart_some]
 refine cM (h pins s σ H _ I hw) fun u s1 ⟨x,H1,I1,r1,q1⟩=>?_
 obtain ⟨i,rfl,q⟩:=q1
 obtain ⟨t,rfl⟩:=r1
 exact ⟨some i,H1,I1,.int i t,q⟩
def QA (X:Cx) (r:V→Option Int→Option Int→Hp→VK→Prop):Prop:=
 ∀ (pins:List (Addr ×Obj)) (s:Shared) (σ:St) (H:Hp) (x:V) (v vl vu:Value) (lo hi:Option Int) (sl:Addr) (Q:VK),Inv X pins σ H s→RelV x v→s.heap.IsSliceOf sl vl vu .none→IsPart vl lo→IsPart vu hi→r x lo hi H Q→
   ∃ T id,typeLookup (.type T) "__getitem__" =pure (some (.builtin id))∧s.TypeIs v T∧wpAny (model X.prog X.w) X.A (getItem v (.ref sl)) (EP X pins σ Q) X.xe s
def RM (r:V→Option Int→Option Int→Hp→VK→Prop) (te:TE) (tl th:TO):TE:=fun σ H Q=>te σ H fun x H1=>tl σ H1 fun l H2=>th σ H2 fun u H3=>r x l u H3 Q
theorem Df {r:V→Option Int→Option Int→Hp→VK→Prop} (hr:QA X r) (he:PE X e te) (hl:PO X lo tl) (hu:PO X hi th):PE X (.Subscript e (.Slice lo hi none p2) pos) (RM r te tl th):=by
 intro pins s σ H Q I h
 refine Subscript_ (cM (he pins s σ H _ I h) fun v s1 ⟨x,H1,I1,r1,q1⟩=>?_)
 refine wpAny_Slice (cM (hl pins s1 σ H1 _ I1 q1) fun vl s2 ⟨l,H2,I2,pl,q2⟩=>cM (hu pins s2 σ H2 _ I2 q2) fun vu s3 ⟨u,H3,I3,pu,q3⟩=>?_)
 rw [evalPart_none]
 refine wpAny_pure ?_
 have I4:Inv X pins σ H3 { s3 with heap:=s3.heap.push { cls:= .type "slice",data:= .fields #[vl,vu,.none] } }:=I3.kept (t':=s3.toks) fun b ob q=>Heap.get?_push_of_some _ q
 obtain ⟨T,id,hT,ht,hg⟩:=hr pins { s3 with heap:=s3.heap.push { cls:= .type "slice",data:= .fields #[vl,vu,.none] } } σ H3 x v vl vu l u s3.heap.objs.size Q I4 r1 (Heap.IsSliceOf.new ..) pl pu q3
 show wpAny (model X.prog X.w) X.A (subscriptTail e (.Slice lo hi none p2) v (.ref s3.heap.objs.size)) (EP X pins σ Q) X.xe { s3 with heap:=s3.heap.push { cls:= .type "slice",data:= .fields #[vl,vu,.none] } }
 exact tail_any (ops:=[.ref s3.heap.objs.size,v]) ht hT hg (by with_unfolding_all rfl)
def FO (xs:List V) (lo hi:Option Int):List V:=(xs.drop (HT.pU xs.length 0 lo)).take (HT.pU xs.length xs.length hi - HT.pU xs.length 0 lo)
theorem xK (xs:List V) (lo hi:Option Int):(FO xs lo hi).length≤xs.length:=by
 unfold FO
 rw [Wq,Wh]
 omega
def Ll (K:PySem.W.Frag):R2:=fun x y H Q=> ∃ a b ns ms,x= .ref a∧y= .ref b∧qC K H a (ns.map V.int)∧qC K H b (ms.map V.int)∧Q (.bl (HT.lexLt ns ms)) H
end
end L2
namespace L2
open PySem PySem.Spec PyProof.Rows
def CN (n:Nat) (i:Int):Option Nat:=if 0≤i then (if i < n then some i.toNat else none) else if -(n:Int)≤i then some (i+n).toNat else none
def uw {α:Type} (xs:List α) (i:Int):Option α:=(CN xs.length i).bind fun j=>xs[j]?
theorem FP {n:Nat} {i:Int} {j:Nat} (h:CN n i=some j):seqIndex? i n=some j∧j < n∧ -(n:Int)≤i∧i < n:=by
 unfold CN at h
 by_cases h0:0≤i
 ·rw [if_pos h0] at h
  by_cases h1:i < n
  ·rw [if_pos h1] at h
   have e:i.toNat=j:=Option.some.inj h
   exact ⟨by rw [seqIndex_of h0 h1,e],by omega,by omega,h1⟩
  ·rw [if_neg h1] at h;cases h
 ·rw [if_neg h0] at h
  by_cases h1: -(n:Int)≤i
  ·rw [if_pos h1] at h
   have e:(i+n).toNat=j:=Option.some.inj h
   exact ⟨by rw [seqIndex_neg (by omega) h1,e],by omega,h1,by omega⟩
  ·rw [if_neg h1] at h;cases h
theorem AQ {α:Type} {xs:List α} {i:Int} {v:α} (h:uw xs i=some v):∃ j,seqIndex? i xs.length=some j∧xs[j]?=some v∧j < xs.length∧ -(xs.length:Int)≤i∧i < xs.length:=by
 unfold uw at h
 cases e:CN xs.length i with
 | none=>rw [e] at h;cases h
 | some j=>
   rw [e] at h
   obtain ⟨h1,h2,h3,h4⟩:=FP e
   exact ⟨j,h1,h,h2,h3,h4⟩
theorem AR {α:Type} {xs:List α} {j:Nat} {v:α} (h:xs[j]?=some v):uw xs (j:Int)=some v:=by
 have hj:j < xs.length:=(VO.mp h).1
 have e:CN xs.length (j:Int)=some j:=by
  unfold CN
  rw [if_pos (by omega),if_pos (by omega)];simp
 unfold uw;rw [e];exact h
theorem xM {α:Type} (xs:List α) (v:α):uw (xs ++ [v]) (-1)=some v:=by
 have hl:(xs ++ [v]).length=xs.length+1:=by simp
 have e:CN (xs ++ [v]).length (-1)=some xs.length:=by
  unfold CN
  rw [hl,if_neg (by decide),if_pos (by omega)]
  congr 1
  omega
 unfold uw
 rw [e]
 show (xs ++ [v])[xs.length]?=some v
 simp
def AS (b:Expr):Prop:= ∀ o i,subscripted b false o i=operate [o,i] (getItem o i)
def Ja (X:Cx) (r:R2):Prop:=
 ∀ (value slice:Expr) (pins:List (Addr ×Obj)) (s:Shared) (σ:St) (H:Hp) (x y:V) (v u:Value) (Q:VK),Inv X pins σ H s→RelV x v→RelV y u→r x y H Q→
   subscripted slice false v u=operate [v,u] (getItem v u)→wpAny (model X.prog X.w) X.A (subscriptTail value slice v u) (EP X pins σ Q) X.xe s
def QB (X:Cx) (id:String) (r:V→List V→Hp→VK→Prop):Prop:=
 ∀ (pins:List (Addr ×Obj)) (s:Shared) (σ:St) (H:Hp) (x:V) (xs:List V) (v:Value) (us:List Value) (Q:VK),Inv X pins σ H s→RelV x v→Vals xs us→r x xs H Q→
   wpAny (model X.prog X.w) X.A (call (.builtin id) (v :: us)) (EP X pins σ Q) X.xe s
section
variable {X:Cx} {a b:Expr} {ta tb:TE} {pos:Pos}
theorem Ja.or {r r':R2} (h:Ja X r) (h':Ja X r'):Ja X (fun x y H Q=>r x y H Q∨r' x y H Q):=by
 intro value slice pins s σ H x y v u Q I rx ry q hs
 rcases q with q | q
 ·exact h value slice pins s σ H x y v u Q I rx ry q hs
 ·exact h' value slice pins s σ H x y v u Q I rx ry q hs
theorem Lm {r:R2} (hr:Ja X r) (ha:PE X a ta) (hb:PE X b tb) (hs:AS b):PE X (.Subscript a b pos) (RE r ta tb):=by
 intro pins s σ H Q I h
 exact Subscript_ (Oo ha hb I h fun v u s2 x y H2 I2 rx ry q=>hr a b pins s2 σ H2 x y v u Q I2 rx ry q (hs _ _))
def OB (K:PySem.W.Frag):R2:=fun x y H Q=> ∃ p xs i v,x= .ref p∧y= .int i∧iI K H p xs∧uw xs i=some v∧Q v H
def OC (K:PySem.W.Frag):R2:=fun x y H Q=> ∃ p xs i v,x= .ref p∧y= .int i∧qC K H p xs∧uw xs i=some v∧Q v H
theorem FQ:Ja X (OB X.K):=by
 intro value slice pins s σ H x y v u Q I rx ry h hs
 obtain ⟨p,xs,i,z,rfl,rfl,hq,he,q⟩:=h
 cases rx
 obtain ⟨t,rfl⟩:=ry
 obtain ⟨its,r,pl,hz⟩:=I.list hq
 obtain ⟨j,h1,h2,h3,h4,h5⟩:=AQ he
 obtain ⟨w,ew,rw'⟩:=r.get h2
 have hl:=r.length
 have hn:=zo
 have fin:EP X pins σ Q w s:=⟨z,H,I,rw',q⟩
 by_cases h0:0≤i
 ·have hj:i.toNat=j:=by
   rw [seqIndex_of h0 h5] at h1
   exact Option.some.inj h1
  exact item_listR pl.isList h0 (by omega) (by rw [hj];simpa using ew) fin hs
 ·have hj:(i+(its.toArray.size:Int)).toNat=j:=by
   rw [seqIndex_neg (by omega) h4] at h1
   rw [Vo,← hl]
   exact Option.some.inj h1
  exact subscriptTail_builtinR (x:=w) pl.isList.typeIs slot_list_getitem.lookup
   (wpAny_getItem_list_neg (Q:=fun r s'=>r=w∧EP X pins σ Q r s') pl.isList (by omega) (by rw [Vo] <;> omega) (by omega) (by rw [hj];simpa using ew) ⟨rfl,fin⟩) hs
theorem Jb:Ja X (OC X.K):=by
 intro value slice pins s σ H x y v u Q I rx ry h hs
 obtain ⟨p,xs,i,z,rfl,rfl,hq,he,q⟩:=h
 cases rx
 obtain ⟨t,rfl⟩:=ry
 obtain ⟨its,r,pl,hz⟩:=I.tuple hq
 obtain ⟨j,h1,h2,h3,h4,h5⟩:=AQ he
 obtain ⟨w,ew,rw'⟩:=r.get h2
 have hl:=r.length
 have hn:=zo
 have fin:EP X pins σ Q w s:=⟨z,H,I,rw',q⟩
 exact subscriptTail_builtinR (x:=w) pl.typeIs slot_tuple_getitem.lookup
  (getItem_tuple (j:=j) (Q:=fun r s'=>r=w∧EP X pins σ Q r s') pl (by omega) (by omega) (by rw [Vo,← hl];exact h1) (by simpa using ew) ⟨rfl,fin⟩) hs
theorem vE (lo hi:Option Int) (n:Nat):(sliceBounds lo hi none n).1=((HT.pU n 0 lo:Nat):Int)∧(sliceBounds lo hi none n).2.1=((HT.pU n n hi:Nat):Int)∧(sliceBounds lo hi none n).2.2=1:=by
 refine ⟨?_,?_,rfl⟩
 ·cases lo with
  | none=>simp [sliceBounds,HT.pU]
  | some i=>
    simp only [sliceBounds,HT.pU,Yw,show (1:Int) > 0 by decide,if_true]
    by_cases h:i < 0
    ·simp only [h,if_true] <;> omega
    ·simp only [h,if_false] <;> omega
 ·cases hi with
  | none=>simp [sliceBounds,HT.pU]
  | some i=>
    simp only [sliceBounds,HT.pU,Yw,show (1:Int) > 0 by decide,if_true]
    by_cases h:i < 0
    ·simp only [h,if_true] <;> omega
    ·simp only [h,if_false] <;> omega
theorem tR (its:List Value) (lo hi:Option Int):slicePick its.toArray lo hi none=((its.drop (HT.pU its.length 0 lo)).take (HT.pU its.length its.length hi - HT.pU its.length 0 lo)).toArray:=by
 obtain ⟨h1,h2,h3⟩:=vE lo hi its.toArray.size
 unfold slicePick
 rw [h1,h2,h3]
 simp only [sliceRange_one,pick_run,Vo] <;> rfl
def OD (K:PySem.W.Frag):V→Option Int→Option Int→Hp→VK→Prop:=fun x lo hi H Q=> ∃ a xs,x= .ref a∧iI K H a xs∧∀ p,H p=none→Q (.ref p) (upd H p (.lst (FO xs lo hi)))
theorem FT:QA X (OD X.K):=by
 intro pins s σ H x v vl vu lo hi sl Q I rx hs pl pu h
 obtain ⟨a,xs,rfl,hx,q⟩:=h
 cases rx
 obtain ⟨its,r,ht,hz⟩:=I.list hx
 have hlen:=r.length
 refine ⟨"list",_,slot_list_getitem.lookup,ht.isList.typeIs,?_⟩
 refine wpAny_getItem_list_slice ht.isList hs pl pu .none (by simp) ?_ (by rw [Vo] <;> omega)
 rw [tR,← hlen]
 refine ⟨.ref s.heap.objs.size,_,I.laid (t':=s.toks) (o:= .lst (FO xs lo hi)) (fun b ob q=>Heap.get?_push_of_some _ q) (Vr _) ?_,rfl,q _ (I.hok.fresh (Vr _))⟩
 exact ⟨Wx (xK xs lo hi) hz,_,0,(r.drop (HT.pU xs.length 0 lo)).take (HT.pU xs.length xs.length hi - HT.pU xs.length 0 lo),Heap.get?_push_size _ rfl⟩
theorem vF:C8 X (.builtin "len") (fun xs H Q=> ∃ p ys,xs= [.ref p]∧(iI X.K H p ys∨qC X.K H p ys)∧Q (.int ys.length) H):=by
 intro pins s σ H xs us Q I r h
 obtain ⟨p,ys,rfl,hq,q⟩:=h
 obtain ⟨u,rfl,rx⟩:=vals1 r
 cases rx
 have hn:=zo
 rcases hq with hq | hq
 ·obtain ⟨its,r',pl,hz⟩:=I.list hq
  have hlen:=r'.length
  exact Calls.call_len_list pl.isList (by simp only [Vo] <;> omega) ⟨.int ys.length,H,I.tok _,⟨s.toks+1,by rw [Vo,hlen]⟩,q⟩
 ·obtain ⟨its,r',pl,hz⟩:=I.tuple hq
  have hlen:=r'.length
  exact len_tuple pl (by simp only [Vo] <;> omega) ⟨.int ys.length,H,I.tok _,⟨s.toks+1,by rw [Vo,hlen]⟩,q⟩
theorem vG:C8 X (.type "list") (fun xs H Q=> ∃ p ys,xs= [.ref p]∧(iI X.K H p ys∨qC X.K H p ys)∧∀ l,H l=none→Q (.ref l) (upd H l (.lst ys))):=by
 intro pins s σ H xs us Q I r h
 obtain ⟨p,ys,rfl,hq,q⟩:=h
 obtain ⟨u,rfl,rx⟩:=vals1 r
 cases rx
 have fin:∀ (its:List Value),Vals ys its→ys.length≤sizeLine→∀ (h':Heap) (c':Nat),(∀ b o',s.heap.get? b=some o'→h'.get? b=some o')→
  h'.get? s.heap.objs.size=some { cls:= .type "list",dict:=none,data:= .seq its.toArray c',slots:= #[] }→EP X pins σ Q (.ref s.heap.objs.size) { s with heap:=h' }:=fun its r' hz h' c' kp e=>
  ⟨.ref s.heap.objs.size,_,I.laid (t':=s.toks) kp (Vr _) (show cF X.prog X.w _ h' _ (.lst ys) from ⟨hz,its,c',r',e⟩),rfl,q _ (I.hok.fresh (Vr _))⟩
 rcases hq with hq | hq
 ·obtain ⟨its,r',pl,hz⟩:=I.list hq
  have hlen:=r'.length
  obtain ⟨o,ho,hc,n,hd⟩:=pl.isList
  exact call_list_seq p (.inl rfl) ho hc hd (fun h' c' kp e=>fin its r' hz h' c' kp e) (by simp only [Vo] <;> omega)
 ·obtain ⟨its,r',pl,hz⟩:=I.tuple hq
  have hlen:=r'.length
  obtain ⟨o,ho,hc,n,hd⟩:=pl
  exact call_list_seq p (.inr rfl) ho hc hd (fun h' c' kp e=>fin its r' hz h' c' kp e) (by simp only [Vo] <;> omega)
def OE (K:PySem.W.Frag) (T:String) (x:V) (H:Hp):Prop:=match x with
 | .str _=>T= "str"
 | .int _=>T= "int"
 | .ref p=>(T= "list"∧∃ xs,iI K H p xs)∨(T= "tuple"∧∃ o,K.lookup p=some o∧o.cls= .type "tuple"∧o.dict=none)∨
  (T= "dict"∧((∃ kvs,H p=some (.dK kvs))∨∃ kvs,H p=some (.dT kvs)))∨(T= "set"∧∃ S n,H p=some (.set S n))
 | _=>False
theorem Dg {pins:List (Addr ×Obj)} {σ:St} {H:Hp} {s:Shared} {T:String} {x:V} {v:Value} (I:Inv X pins σ H s) (r:RelV x v) (ty:OE X.K T x H) :
 s.TypeIs v T∧∀ a,v= .ref a→∃ ob,s.heap.get? a=some ob∧ob.dict=none:=by
 cases x with
 | str z=>
   obtain ⟨t,rfl⟩:=r
   cases (show T= "str" from ty)
   exact ⟨typeIs_str s z t,fun _ e=>nomatch e⟩
 | int i=>
   obtain ⟨t,rfl⟩:=r
   cases (show T= "int" from ty)
   exact ⟨typeIs_int s i t,fun _ e=>nomatch e⟩
 | ref p=>
   cases r
   rcases ty with ⟨rfl,xs,hq⟩ | ⟨rfl,o,hk,hc,hd⟩ | ⟨rfl,hk⟩ | ⟨rfl,S,n,hk⟩
   ·obtain ⟨its,_,pl,_⟩:=I.list hq
    refine ⟨pl.isList.typeIs,fun a e=>?_⟩
    cases e
    obtain ⟨o,n,e,c,hd,_⟩:=pl
    exact ⟨o,e,hd⟩
   ·refine ⟨⟨o,I.xq p o hk,hc⟩,fun a e=>?_⟩
    cases e
    exact ⟨o,I.xq _ o hk,hd⟩
   ·have z:∃ o,s.heap.get? p=some o∧o.ExactDict:=by
     rcases hk with ⟨kvs,hk⟩ | ⟨kvs,hk⟩
     ·obtain ⟨_,_,_,_,o,_,_,e,ex,_⟩:=I.hok p _ hk
      exact ⟨o,e,ex⟩
     ·obtain ⟨_,_,_,_,o,_,_,e,ex,_⟩:=I.hok p _ hk
      exact ⟨o,e,ex⟩
    obtain ⟨o,e,ex⟩:=z
    refine ⟨⟨o,e,ex.1⟩,fun a e2=>?_⟩
    cases e2
    exact ⟨o,e,ex.2.1⟩
   ·obtain ⟨o,_,_,_,e,ex,_⟩:=I.hok p _ hk
    refine ⟨⟨o,e,ex.1⟩,fun a e2=>?_⟩
    cases e2
    exact ⟨o,e,ex.2.1⟩
 | _=>exact False.elim ty
def Ln (K:PySem.W.Frag) (T:String) (r:V→List V→Hp→VK→Prop) (to:TE):TE:=fun σ H Q=>to σ H fun x H1=>OE K T x H1∧r x [] H1 Q
def QC (K:PySem.W.Frag) (T:String) (r:V→List V→Hp→VK→Prop) (to:TE) (t:TA):TE:=fun σ H Q=>to σ H fun x H1=>OE K T x H1∧t σ H1 fun xs H2=>r x xs H2 Q
variable {o e:Expr} {es:List Expr} {to:TE} {t:TA} {name:Str} {apos cpos:Pos} {T id:String} {r:V→List V→Hp→VK→Prop}
theorem Jc (pa:PlainAttrs T) (slot:Slot T name id) (hty:typeOf (.builtin id)=pure (.type "method_descriptor")) (hm:QB X id r) (ho:PE X o to)
 (hbase:attributeBase o name X.env (eval o X.env)=eval o X.env:=by rfl) (hline:(apos.endLine == cpos.line)=true:=by rfl):PE X (.Call (.Attribute o name apos) [] [] cpos) (Ln X.K T r to):=by
 intro pins s σ H Q I h
 refine wpAny_Call_method0_late hbase hline (cM (ho pins s σ H _ I h) fun v s1 ⟨x,H1,I1,r1,ty,q1⟩=>?_)
 obtain ⟨h1,h2⟩:=Dg I1 r1 ty
 exact ⟨T,id,pa,slot,hty,h1,h2,Calls.callWith_builtin rfl (PySem.evalArgs_none (hm pins s1 σ H1 x [] v [] Q I1 r1 .nil q1))⟩
theorem uz (pa:PlainAttrs T) (slot:Slot T name id) (hty:typeOf (.builtin id)=pure (.type "method_descriptor")) (hm:QB X id r) (ho:PE X o to) (ha:PA X (e :: es) t)
 (hbase:attributeBase o name X.env (eval o X.env)=eval o X.env:=by rfl)
 (hfew:((backTo cpos (starEach (e :: es) X.env)).all (fun x=>!x.1) && (backToKw cpos (keywordEach [] X.env)).all (fun x=>x.1.isSome)
  && decide ((e :: es).length+([]:List Keyword).length+(if ([]:List Keyword).isEmpty then 0 else 1) < 30))=true:=by rfl)
 (hline:(apos.endLine == cpos.line)=true:=by rfl) (hs:starEach (e :: es) X.env=(false,eval e X.env) :: starEach es X.env:=by rfl) (hplain:(backTo cpos (starEach es X.env)).any (·.1)=false:=by rfl) :
 PE X (.Call (.Attribute o name apos) (e :: es) [] cpos) (QC X.K T r to t):=by
 intro pins s σ H Q I h
 refine wpAny_Call_method_late hbase hfew hline rfl (cM (ho pins s σ H _ I h) fun v s1 ⟨x,H1,I1,r1,ty,q1⟩=>?_)
 obtain ⟨h1,h2⟩:=Dg I1 r1 ty
 refine ⟨T,id,pa,slot,hty,h1,h2,?_⟩
 have hA:=ha cpos pins s1 σ H1 _ I1 q1
 rw [hs] at hA ⊢
 refine Calls.callWith_builtin (by show (false || (backTo cpos (starEach es X.env)).any (·.1))=false;rw [hplain] <;> rfl) (Calls.evalArgs_plain ?_)
 exact cM hA fun us s2 ⟨vs,H2,I2,r2,q2⟩=>hm pins s2 σ H2 x vs v us Q I2 r1 r2 q2
end
end L2
namespace L2
open PySem PySem.Spec PyProof.Rows
def QD (X:Cx) (id:String) (r:V→List V→Hp→VK→Prop):Prop:=
 ∀ (pins:List (Addr ×Obj)) (s:Shared) (σ:St) (H:Hp) (x:V) (xs:List V) (v:Value) (us:List Value) (Q:VK),Inv X pins σ H s→RelV x v→Vals xs us→r x xs H Q→
   wpAny (model X.prog X.w) X.A (call (.builtin id) (v :: us)) (EP X pins σ Q) X.xe s
theorem Vals.one:∀ {x:V} {us:List Value},Vals [x] us→∃ u,us= [u]∧RelV x u
 | _,_,.cons r .nil=>⟨_,rfl,r⟩
theorem Vals.zero:∀ {us:List Value},Vals [] us→us= []
 | _,.nil=>rfl
theorem Vals.dropLast {xs:List V} {us:List Value} (h:Vals xs us):Vals xs.dropLast us.dropLast:=by
 induction h with
 | nil=>exact .nil
 | cons r t ih=>
   cases t with
   | nil=>exact .nil
   | cons q t'=>exact .cons r ih
theorem zu {α:Type} (l:List α):l.eraseIdx (l.length - 1)=l.dropLast:=by
 induction l with
 | nil=>rfl
 | cons a r ih=>
   cases r with
   | nil=>rfl
   | cons b r=>
     have e:(a :: b :: r).length - 1=((b :: r).length - 1)+1:=by
      have h1:(a :: b :: r).length=r.length+2:=rfl
      have h2:(b :: r).length=r.length+1:=rfl
      omega
     rw [e,List.eraseIdx_cons_succ,ih]
     all_goals rfl
section
variable {X:Cx} {pins:List (Addr ×Obj)} {σ:St} {H:Hp} {s:Shared} {l b:Addr} {xs ys zs:List V}
theorem Inv.Lo {its its':List Value} {n:Nat} {f:Array Value→Array Value} {t':Nat} (I:Inv X pins σ H s) (hH:H l=some (.lst xs))
 (e:s.heap.get? l=some { cls:= .type "list",data:= .seq its.toArray n }) (hf:f its.toArray=its'.toArray) (hv:Vals ys its') (hz:ys.length≤sizeLine) :
 Inv X pins σ (upd H l (.lst ys)) { s with heap:=s.heap.update l (Obj.mapSeq f),toks:=t' }:=by
 have q:=PySem.IsL.update e f
 rw [hf] at q
 refine I.write (x:=l) (e:=l) (by rw [hH];exact trivial) (.inl rfl) (fun b' u hb hu=>(Heap.get?_update_other s.heap (Obj.mapSeq f) (Ne.symm hb)).trans hu) ⟨_,q⟩ ?_
 exact ⟨hz,its',_,hv,q⟩
theorem Inv.OF {its:List Value} {t':Nat} (I:Inv X pins σ H s) (hv:Vals ys its) (hz:ys.length≤sizeLine) :
 Inv X pins σ (upd H s.heap.objs.size (.lst ys)) { s with heap:=s.heap.push { cls:= .type "list",data:= .seq its.toArray },toks:=t' }:=
 I.laid (fun _ _ q=>Heap.get?_push_of_some _ q) (Vr _) ⟨hz,its,0,hv,Heap.get?_push_size _ rfl⟩
theorem Inv.fresh (I:Inv X pins σ H s):H s.heap.objs.size=none:=I.hok.fresh (Vr _)
theorem Inv.FU (I:Inv X pins σ H s) (hH:H l=some (.lst xs)):xs.length≤sizeLine∧∃ (its:List Value) (n:Nat),Vals xs its∧xs.length=its.length∧s.heap.get? l=some { cls:= .type "list",data:= .seq its.toArray n }:=by
 obtain ⟨z,its,n,r,e⟩:=I.hok l _ hH
 exact ⟨z,its,n,r,r.length,e⟩
end
section
variable {X:Cx}
def AU:V→List V→Hp→VK→Prop:=fun x vs H Q=> ∃ l xs y,x= .ref l∧vs= [y]∧H l=some (.lst xs)∧xs.length < sizeLine∧Q .aZ (upd H l (.lst (xs ++ [y])))
theorem fm:QD X "list.append" AU:=by
 intro pins s σ H x vs v us Q I rx rv h
 obtain ⟨l,xs,y,rfl,rfl,hH,hz,q⟩:=h
 cases rx
 obtain ⟨u,rfl,ru⟩:=rv.one
 obtain ⟨z,its,n,r,hl,e⟩:=I.FU hH
 refine call_meets F.slot_list_append ⟨_,e,rfl⟩ F.entry_list_append (F.args_list_append_2 _ _) (PySem.list_append l its.toArray n u (by rw [Vo];omega)) ⟨e,?_⟩
 refine ⟨.aZ,_,I.Lo (its':=its ++ [u]) hH e (by simp) (r.append (.cons ru .nil)) ?_,rfl,q⟩
 rw [VA,Xk]
 omega
def Lp:V→List V→Hp→VK→Prop:=fun x vs H Q=> ∃ l xs y,x= .ref l∧vs= []∧H l=some (.lst xs)∧xs[xs.length - 1]?=some y∧Q y (upd H l (.lst xs.dropLast))
theorem Jd:QD X "list.pop" Lp:=by
 intro pins s σ H x vs v us Q I rx rv h
 obtain ⟨l,xs,y,rfl,rfl,hH,hy,q⟩:=h
 cases rx
 have RN:=rv.zero
 subst RN
 obtain ⟨z,its,n,r,hl,e⟩:=I.FU hH
 obtain ⟨u,hu,ru⟩:=r.get hy
 have hy':its.toArray[its.toArray.size - 1]?=some u:=by
  show its.toArray[its.length - 1]?=some u
  rw [← Array.getElem?_toList,← hl]
  exact hu
 refine call_meets F.slot_list_pop ⟨_,e,rfl⟩ F.entry_list_pop (F.args_list_pop_1 _) (MeetsSeq.list_pop_last l its.toArray n u hy' (by rw [Vo];omega)) ⟨e,?_⟩
 refine ⟨y,_,I.Lo (its':=its.dropLast) hH e ?_ r.dropLast ?_,ru,q⟩
 ·show its.toArray.eraseIdxIfInBounds (its.toArray.size - 1)=its.dropLast.toArray
  rw [Vo,List.eraseIdxIfInBounds_toArray,zu]
 ·rw [Wr]
  omega
def OG:R2:=fun x y H Q=> ∃ l b xs zs,x= .ref l∧y= .ref b∧H l=some (.lst xs)∧H b=some (.lst zs)∧xs.length+zs.length≤sizeLine∧∀ p,H p=none→Q (.ref p) (upd H p (.lst (xs ++ zs)))
theorem Je:xr X (binaryOp .Add) OG:=by
 intro pins s σ H x y v u Q I rx ry h
 obtain ⟨l,b,xs,zs,rfl,rfl,hH,hB,hz,q⟩:=h
 cases rx
 cases ry
 obtain ⟨z,its,n,r,hl,e⟩:=I.FU hH
 obtain ⟨z2,its2,n2,r2,hl2,e2⟩:=I.FU hB
 refine PySem.P.add_list e e2 ?_ (by rw [Vo,Vo];omega)
 have ea:its.toArray ++ its2.toArray=(its ++ its2).toArray:=by simp
 rw [ea]
 exact ⟨.ref _,_,I.OF (t':=s.toks) (r.append r2) (by rw [VA];omega),rfl,q _ I.fresh⟩
end
section
variable {prog:Program} {w:World} {A:Around} {E:Value→Shared→Prop} {s:Shared}
end
section
variable {X:Cx}
end
end L2
namespace Att
open PySem PySem.W PySem.Calls PyProof.Rows
theorem qj {P:Params} {h:Heap}:∀ (ns:List Int) (vs:List Value),WellAll P h vs (ns.map WData.int)→IntsAre vs ns:=by
 intro ns
 induction ns with
 | nil=>
   intro vs w
   rw [List.map_nil] at w
   cases w
   exact .nil
 | cons n ns ih=>
   intro vs w
   rw [VP] at w
   cases w with
   | cons a b=>
     cases a
     exact .cons _ _ (ih _ b)
theorem BQ {l:OpenLaw} {n:Nat} (hn:l.most=some n) {P:Params} {h:Heap} {args:List WData} {vals:List Value}
 (hpre:l.row.toRowW.claim.pre args=true) (hwl:WellAll P h vals args) :
 ∃ a vs ns,vals= [Value.ref a]∧args= [WData.list (ns.map WData.int)]∧h.get? a=some { cls:= .type "list",data:= .seq vs.toArray }∧IntsAre vs ns∧ns.length≤n:=by
 have hsh:WShape.hasAll [] args [.list .int]=true:=(pre_splitW hpre).1
 have hc:l.pre.holds [] { args:=args }=true:=(pre_splitW hpre).2
 obtain ⟨d,r,rfl,h1,h2⟩:=hasAllW_cons hsh
 obtain rfl:=hasAllW_nil h2
 obtain ⟨xs,rfl,h3⟩:=hasW_list h1
 obtain ⟨ns,rfl⟩:=items_int h3
 have hlen:ns.length≤n:=by
  unfold OpenLaw.pre at hc
  have h4:(WTm.not (.lt (.lit (.int (n:Int))) (.len (.arg 0)))).holds [] { args:=[.list (ns.map .int)] }=true:=by
   have h4:=(holds_andW hc).1
   rw [hn] at h4
   exact h4
  have h5:=condW_of h4 (w_not (w_lt w_lit (w_len_list (w_arg rfl))))
  rw [Vk] at h5
  refine Nat.le_of_not_lt fun q=>?_
  have q':(n:Int) < ((ns.length:Nat):Int):=by omega
  first
   | (rw [decide_eq_true q'] at h5;exact absurd h5 (by decide))
   | (simp at h5;omega)
 cases hwl with
 | cons w1 w2=>
   cases w2
   cases w1 with
   | list ho hall=>exact ⟨_,_,ns,rfl,rfl,ho,qj ns _ hall,hlen⟩
theorem BR (l:OpenLaw) (args:List WData):l.row.toRowW.claim.post args (.bool true) args=true:=
 postW_of (r:=l.row.toRowW) (X:=(true == true))
  (show WShape.has [] (.bool true) .bool=true by first | rfl | decide | simp [WShape.has,WShape.arms,WShape.armsAll])
  (show (WTm.eq .res (.lit (.bool true))).value [] { args:=args,res:=some (.bool true),after:=args }=some (.bool (true == true)) from w_eq_bool (w_res rfl) w_lit) rfl
section
variable {prog:Program} {w:World} {A:Around} {E:Value→Shared→Prop} {s:Shared} {K:Frag}
end
end Att
namespace L2
open PySem PySem.Spec PyProof.Rows
theorem uA:∀ {vs:List Value} {ns:List Int},IntsAre vs ns→Vals (ns.map V.int) vs
 | _,_,.nil=> .nil
 | _,_,.cons n t h=> .cons ⟨t,rfl⟩ (uA h)
def FW (H:Hp):Prop:= ∀ b,H b=none∨∃ o xs,H b=some (.lF o (.lst xs))
theorem Dh {P:Program} {w:World} {K:PySem.W.Frag} {mg mb:Str→Option Value} {CX:Dc} {k:Nat} {fa a:Addr} {fd:FuncData} {x:Str} {sp:Sp} {s₁:Shared} {vs:List Value} {ns:List Int}
 (KX:K.In s₁.heap) (hns:s₁.heap.Ns mainGlobals mg) (hb:s₁.heap.Ns builtinsNs mb) (RO:∀ x:Str,x≠"__name__"→mb x=bootBuiltins x) (hlim:s₁.heap.NoLimit) (hg:s₁.gens= #[])
 (ha:s₁.heap.get? a=some { cls:= .type "list",data:= .seq vs.toArray }) (hi:IntsAre vs ns) (hl:ns.length≤sizeLine) (hr:iJ k callerA)
 (F:∀ base:Heap,K.In base→base.Ns mainGlobals mg→bD P w K mg base CX k fa fd [x] sp) (hbind:∀ (s:Shared) (u:Value),BindsTo s fd ⟨[u],[]⟩ [(x,u)])
 (HE:∀ H:Hp,FW H→iI K H a (ns.map V.int)→sp [.ref a] H (fun v _=>v= .bl true) fun _ _ _=>False)
 (OH:∀ H e s',CX [] H s₁ (fun _ _ _=>False) e s'→False) :
 codeAny (model P w) callerA (.call (.ref fa) ⟨[.ref a],[]⟩) (fun r s'=>r= .ok (.ret (.bool true))∧OldK s₁.heap s'.heap∧s'.os=s₁.os∧AllBare s'.gens) s₁:=by
 have rv:=uA hi
 have OI:=hi.length
 have core:∀ H:Hp,FW H→iI K H a (ns.map V.int)→jk P w H s₁.heap→(∀ b,H b≠none→b=a)→(H a≠none→K.lookup a=none)→
  codeAny (model P w) callerA (.call (.ref fa) ⟨[.ref a],[]⟩) (fun r s'=>r= .ok (.ret (.bool true))∧OldK s₁.heap s'.heap∧s'.os=s₁.os∧AllBare s'.gens) s₁:=by
  intro H hO hS hok hA hK
  have AV:∀ {b:Addr} {o:Obj},s₁.heap.get? b=some o→H b=none→(vD s₁.heap H).get? b=some o:=fun e n=>CZ e n
  have Lj:∀ {b:Addr} {o:Obj} {es:Array DictEntry} {ep:Nat},s₁.heap.get? b=some o→o.data= .dict es ep→H b=none:=fun {b o es ep} e d=>by
   cases q:H b with
   | none=>rfl
   | some u=>
     have e':b=a:=hA b (by rw [q];simp)
     subst e'
     rw [ha] at e;cases e
     have d':Data.seq vs.toArray _=Data.dict es ep:=d
     cases d'
  have Nq:∀ {b:Addr} {m:Str→Option Value},s₁.heap.Ns b m→(vD s₁.heap H).Ns b m:=fun {b m} ⟨o,es,ep,e,d,r⟩=>⟨o,es,ep,AV e (Lj e d),d,r⟩
  have QE:K.In (vD s₁.heap H):=fun b o e=>AV (KX b o e) (by
   cases q:H b with
   | none=>rfl
   | some u=>
     have e':b=a:=hA b (by rw [q];simp)
     subst e'
     rw [hK (by rw [q];simp)] at e;cases e)
  have hM:Mod K mg (vD s₁.heap H):=⟨QE,Nq hns,⟨mb,Nq hb,RO⟩,let ⟨mc,h1,h2⟩:=hlim;⟨mc,Nq h1,h2⟩⟩
  have e0:FJ P w K mg (vD s₁.heap H) callerA [] s₁ H:=⟨rfl,hM,fun b o e=>Fp e,Yp (BE _ _),trivial,fun b hb=>absurd (show b∈([]:List Addr) from hb) (by simp),hok,.of_eq hg⟩
  refine codeAny_mono ((F _ QE (Nq hns)).run callerA [] s₁ H ⟨[.ref a],[]⟩ [.ref a] [.ref a] _ _ hr e0 (hbind s₁ (.ref a)) (.cons rfl .nil) (HE H hO hS)) fun r s' h=>?_
  cases r with
  | error e=>exact (OH H e s' h).elim
  | ok fl=>
    cases fl with
    | next=>exact False.elim h
    | brk=>exact False.elim h
    | cont=>exact False.elim h
    | ret u=>
      obtain ⟨v,H',os,bare,un,OJ,r',q⟩:=h
      have q':v= .bl true:=q
      subst q'
      obtain rfl:u=Value.bool true:=r'
      refine ⟨rfl,OldK.of_keep fun b o e=>?_,os,bare⟩
      cases q:H b with
      | none=>exact un.keep b o e q (by intro z;exact absurd (show b∈([]:List Addr) from z) (by simp)) (by simp)
      | some u=>
        rcases hO b with z | ⟨ob,xs,z⟩
        ·rw [q] at z;cases z
        ·have z2:=un.vC b ob _ z
         obtain ⟨e1,_⟩:=hok b _ z
         obtain ⟨e2,_⟩:=OJ b _ z2
         rw [e] at e1;cases e1
         exact e2
 cases hk:K.lookup a with
 | some o=>
   have e:=KX a o hk
   rw [ha] at e
   cases e
   refine core (fun _=>none) (fun _=> .inl rfl) (.inr ⟨_,vs.toArray,_,hk,rfl,rfl,rfl,by rw [Vo,OI];exact hl,by simpa using rv⟩) (fun b u z=>by have z':(none:Option HO)=some u:=z;cases z') (fun b z=>absurd rfl z) fun z=>absurd rfl z
 | none=>
   refine core (fun b=>if b=a then some (.lF { cls:= .type "list",data:= .seq vs.toArray } (.lst (ns.map V.int))) else none) (fun b=>?_) (.inl (.inr ⟨{ cls:= .type "list",data:= .seq vs.toArray },if_pos rfl⟩)) (fun b u z=>?_) (fun b z=>?_) fun _=>hk
   ·by_cases hb:b=a
    ·exact .inr ⟨_,_,if_pos hb⟩
    ·exact .inl (if_neg hb)
   ·by_cases hb:b=a
    ·have z':=(if_pos hb).symm.trans z
     cases z'
     subst hb
     exact ⟨ha,by rw [Vk];exact hl,vs,_,rv,ha⟩
    ·have z':=(if_neg hb).symm.trans z
     cases z'
   ·by_cases hb:b=a
    ·exact hb
    ·exact absurd (if_neg hb) z
end L2
namespace L2
open PySem PySem.Spec PyProof.Rows
end L2
namespace L2
open PySem PySem.Spec PyProof.Rows
def kZ (s:Stmt):Arguments:=match s with
 | .FunctionDef _ a _ _ _ _ _ _ _ _=>a
 | _=>{ posonlyargs:=[],args:=[],vararg:=none,kwonlyargs:=[],kw_defaults:=[],kwarg:=none,defaults:=[] }
def gj (s:Stmt):List Stmt:=match s with
 | .FunctionDef _ _ b _ _ _ _ _ _ _=>b
 | _=>[]
def aq (s:Stmt):Scope:=match s with
 | .FunctionDef _ _ _ _ _ _ sc _ _ _=>sc
 | _=>{ kind:= .function,names:=[],isGenerator:=false,isCoroutine:=false }
abbrev ff:Dc:=fun _ _ _ _ _ _=>False
abbrev E0:XK:=fun _ _ _=>False
theorem HG {X:Cx}:Passes ff X E0:=fun _ _ _ _ _ _ _ h=>h.elim
structure jN (K:PySem.W.Frag) (x qual:Str) (st:Stmt) (f:Addr) (fd:FuncData):Prop where
 ex:∃ (oc:Value) (od:Option Addr) (kV doc pm:Value) (an:Option Addr) (cdv ct:Value) (osl:Array (Option Value)),
  fd=PySem.W.fnOf x qual (kZ st) (gj st) (aq st) .none kV doc pm an cdv ct∧K.lookup f=some ⟨oc,od,.func fd,osl⟩∧PySem.W.codeIn K cdv qual=true
 kp:PySem.W.keepIn K (.ref f)=true
section
variable {P:Program} {w:World} {K:PySem.W.Frag} {mg:Str→Option Value} {base:Heap}
theorem jN.ok {x qual:Str} {st:Stmt} {f:Addr} {fd:FuncData} {N ps:List Str} {k:Nat} {sp:Sp} (F:jN K x qual st f fd) (S:aN N ps (aq st)) (len:∀ vs H Q E,sp vs H Q E→vs.length=ps.length)
 (hbody:∀ (cdv:Value) (A:Around) (outer:List Env) (s:Shared) (H:Hp) (vs:List V) (Q:VK) (E:XK),iJ k (A.deeper (envOfC qual (aq st) s.heap.objs.size f cdv))→sp vs H Q E→
  ∃ t,zk (qi ff P w K mg base N qual (aq st) f cdv A outer s H E).Fe (gj st) t∧t { nx:=fun _ H'=>Q .aZ H',rt:=Q } (start N vs) H):bD P w K mg base ff (k+1) f fd ps sp:=by
 obtain ⟨oc,od,kV,doc,pm,an,cdv,ct,osl,rfl,lk,hcd⟩:=F.ex
 refine Lk lk hcd S len fun A outer s H vs Q E hr HE=>?_
 obtain ⟨t,h,q⟩:=hbody cdv A outer s H vs Q E hr HE
 exact ⟨t,h.Fe,q⟩
theorem jN.binds {x qual:Str} {st:Stmt} {f:Addr} {fd:FuncData} {ps:List Str} (F:jN K x qual st f fd)
 (h:∀ (kV doc pm:Value) (an:Option Addr) (cdv ct:Value) (us:List Value),us.length=ps.length→bindArgs (PySem.W.fnOf x qual (kZ st) (gj st) (aq st) .none kV doc pm an cdv ct) ⟨us,[]⟩=pure (ps.zip us)):Binds K fd ps []:=by
 obtain ⟨oc,od,kV,doc,pm,an,cdv,ct,osl,rfl,lk,hcd⟩:=F.ex
 exact .all (h kV doc pm an cdv ct)
end
section
variable {X:Cx}
end
theorem xN {A B:Prop} (h:B):if false=true then A else B:=by
 rw [if_neg Vx]
 exact h
theorem Jf {A B:Prop} (h:A):if true=true then A else B:=by
 rw [if_pos rfl]
 exact h
theorem fR {c A B:Prop} [Decidable c] (h1:c→A) (h2:¬ c→B):if c then A else B:=by
 by_cases h:c
 ·rw [if_pos h]
  exact h1 h
 ·rw [if_neg h]
  exact h2 h
end L2
set_option maxHeartbeats 4000000
namespace L3
open PySem PySem.Spec PyProof.Rows L2
abbrev St:=L2.St
inductive D where
 | aZ | bl (b:Bool) | int (i:Int) | str (x:Str) | ty (n:String) | ref (a:Addr) | tup (xs:List D) | zx (xs:List D) | HH (n:String) | exc (C:Addr) (nm:Str) (xs:List D)
def Kl (K:PySem.W.Frag) (a:Addr) (xs:List V):Prop:=
 ∃ (o:Obj) (its:Array Value) (n:Nat),K.lookup a=some o∧o.cls= .type "list"∧o.dict=none∧o.data= .seq its n∧its.size≤sizeLine∧Vals xs its.toList
def Fz (K:PySem.W.Frag) (H:Hp) (a:Addr) (xs:List V):Prop:=(∃ o,H a=some (.lF o (.lst xs)))∨Kl K a xs
theorem Fz.sq {K:PySem.W.Frag} {H:Hp} {a:Addr} {xs:List V} (h:Fz K H a xs):iI K H a xs:=by
 rcases h with ⟨o,h⟩ | h
 ·exact .inl (.inr ⟨o,h⟩)
 ·exact .inr h
abbrev xO (C t:Addr):Obj:={ cls:= .ref C,data:= .fields #[.ref t,.none,.none,.none,.bool false,.none] }
abbrev yO (C t d:Addr):Obj:={ cls:= .ref C,dict:=some d,data:= .fields #[.ref t,.none,.none,.none,.bool false,.none] }
def Xo (H:Hp) (C:Addr) (nm:Str) (o:Obj) (xs:List V):Prop:=(xs= []∧∃ t,o=xO C t)∨∃ t dx od vx,xs= [vx]∧o=yO C t dx∧H dx=some (.lF od (.xd [(nm,vx)]))
mutual
def Dat (K:PySem.W.Frag) (H:Hp):D→V→Prop
 | .aZ,v=>v= .aZ
 | .bl b,v=>v= .bl b
 | .int i,v=>v= .int i
 | .str x,v=>v= .str x
 | .ty n,v=>v= .ty n
 | .ref a,v=>v= .ref a
 | .tup ds,v=> ∃ a xs,v= .ref a∧H a=some (.tup xs)∧aC K H ds xs
 | .zx ds,v=> ∃ a xs,v= .ref a∧Fz K H a xs∧aC K H ds xs
 | .HH n,v=> ∃ a o u,v= .ref a∧H a=some (.lF o u)∧o.cls= .type n
 | .exc C nm ds,v=> ∃ a o u xs,v= .ref a∧H a=some (.lF o u)∧Xo H C nm o xs∧aC K H ds xs
def aC (K:PySem.W.Frag) (H:Hp):List D→List V→Prop
 | [],xs=>xs= []
 | d :: ds,xs=> ∃ v vs,xs=v :: vs∧Dat K H d v∧aC K H ds vs
end
structure Ext (H H':Hp):Prop where
 tup:∀ b xs,H b=some (.tup xs)→H' b=some (.tup xs)
 lF:∀ b o u,H b=some (.lF o u)→H' b=some (.lF o u)
theorem Ext.trans {H H1 H2:Hp} (a:Ext H H1) (b:Ext H1 H2):Ext H H2:=⟨fun c xs h=>b.tup c xs (a.tup c xs h),fun c o u h=>b.lF c o u (a.lF c o u h)⟩
theorem Fz.mono {K:PySem.W.Frag} {H H':Hp} {a:Addr} {xs:List V} (e:Ext H H') (h:Fz K H a xs):Fz K H' a xs:=by
 rcases h with ⟨o,h⟩ | h
 ·exact .inl ⟨o,e.lF _ _ _ h⟩
 ·exact .inr h
theorem Xo.mono {H H':Hp} {C:Addr} {nm:Str} {o:Obj} {xs:List V} (e:Ext H H') (h:Xo H C nm o xs):Xo H' C nm o xs:=by
 rcases h with h | ⟨t,dx,od,vx,e1,e2,e3⟩
 ·exact .inl h
 ·exact .inr ⟨t,dx,od,vx,e1,e2,e.lF _ _ _ e3⟩
mutual
theorem Dat.mono {K:PySem.W.Frag} {H H':Hp} (e:Ext H H'):∀ (d:D) (v:V),Dat K H d v→Dat K H' d v
 | .aZ,v,h=>by simpa [Dat] using h
 | .bl b,v,h=>by simpa [Dat] using h
 | .int i,v,h=>by simpa [Dat] using h
 | .str x,v,h=>by simpa [Dat] using h
 | .ty n,v,h=>by simpa [Dat] using h
 | .ref a,v,h=>by simpa [Dat] using h
 | .tup ds,v,h=>by
   obtain ⟨a,xs,e1,e2,e3⟩:=(show ∃ a xs,v= .ref a∧H a=some (.tup xs)∧aC K H ds xs from by simpa only [Dat] using h)
   have:=aC.mono e ds xs e3
   simp only [Dat]
   exact ⟨a,xs,e1,e.tup _ _ e2,this⟩
 | .zx ds,v,h=>by
   obtain ⟨a,xs,e1,e2,e3⟩:=(show ∃ a xs,v= .ref a∧Fz K H a xs∧aC K H ds xs from by simpa only [Dat] using h)
   have:=aC.mono e ds xs e3
   simp only [Dat]
   exact ⟨a,xs,e1,e2.mono e,this⟩
 | .HH n,v,h=>by
   obtain ⟨a,o,u,e1,e2,e3⟩:=(show ∃ a o u,v= .ref a∧H a=some (.lF o u)∧o.cls= .type n from by simpa only [Dat] using h)
   simp only [Dat]
   exact ⟨a,o,u,e1,e.lF _ _ _ e2,e3⟩
 | .exc C nm ds,v,h=>by
   obtain ⟨a,o,u,xs,e1,e2,e3,e4⟩:=(show ∃ a o u xs,v= .ref a∧H a=some (.lF o u)∧Xo H C nm o xs∧aC K H ds xs from by simpa only [Dat] using h)
   have:=aC.mono e ds xs e4
   simp only [Dat]
   exact ⟨a,o,u,xs,e1,e.lF _ _ _ e2,e3.mono e,this⟩
theorem aC.mono {K:PySem.W.Frag} {H H':Hp} (e:Ext H H'):∀ (ds:List D) (xs:List V),aC K H ds xs→aC K H' ds xs
 | [],xs,h=>by simpa [aC] using h
 | d :: ds,xs,h=>by
   obtain ⟨v,vs,e1,e2,e3⟩:=(show ∃ v vs,xs=v :: vs∧Dat K H d v∧aC K H ds vs from by simpa only [aC] using h)
   have h1:=Dat.mono e d v e2
   have h2:=aC.mono e ds vs e3
   simp only [aC]
   exact ⟨v,vs,e1,h1,h2⟩
end
section
variable {K:PySem.W.Frag} {H:Hp}
theorem cz {v:V}:Dat K H .aZ v↔v= .aZ:=by simp only [Dat]
theorem aV {b:Bool} {v:V}:Dat K H (.bl b) v↔v= .bl b:=by simp only [Dat]
theorem aP {i:Int} {v:V}:Dat K H (.int i) v↔v= .int i:=by simp only [Dat]
theorem gm {x:Str} {v:V}:Dat K H (.str x) v↔v= .str x:=by simp only [Dat]
theorem zy {n:String} {v:V}:Dat K H (.ty n) v↔v= .ty n:=by simp only [Dat]
theorem aF {a:Addr} {v:V}:Dat K H (.ref a) v↔v= .ref a:=by simp only [Dat]
theorem aR {ds:List D} {v:V}:Dat K H (.tup ds) v↔∃ a xs,v= .ref a∧H a=some (.tup xs)∧aC K H ds xs:=by simp only [Dat]
theorem m6 {ds:List D} {v:V}:Dat K H (.zx ds) v↔∃ a xs,v= .ref a∧Fz K H a xs∧aC K H ds xs:=by simp only [Dat]
theorem AW {n:String} {v:V}:Dat K H (.HH n) v↔∃ a o u,v= .ref a∧H a=some (.lF o u)∧o.cls= .type n:=by simp only [Dat]
theorem FY {C:Addr} {nm:Str} {ds:List D} {v:V}:Dat K H (.exc C nm ds) v↔∃ a o u xs,v= .ref a∧H a=some (.lF o u)∧Xo H C nm o xs∧aC K H ds xs:=by simp only [Dat]
theorem aH {xs:List V}:aC K H [] xs↔xs= []:=by simp only [aC]
theorem aA {d:D} {ds:List D} {xs:List V}:aC K H (d :: ds) xs↔∃ v vs,xs=v :: vs∧Dat K H d v∧aC K H ds vs:=by simp only [aC]
theorem aC.length:∀ {ds:List D} {xs:List V},aC K H ds xs→ds.length=xs.length
 | [],xs,h=>by rw [aH.mp h];rfl
 | d :: ds,xs,h=>by
   obtain ⟨v,vs,rfl,_,h⟩:=aA.mp h
   simp [aC.length h]
theorem aC.get:∀ {ds:List D} {xs:List V} {i:Nat} {d:D},aC K H ds xs→ds[i]?=some d→∃ v,xs[i]?=some v∧Dat K H d v
 | [],xs,_,_,_,e=>by simp at e
 | d :: ds,xs,i,d',h,e=>by
   obtain ⟨v,vs,rfl,h1,h2⟩:=aA.mp h
   cases i with
   | zero=>simp at e;subst e;exact ⟨v,rfl,h1⟩
   | succ i=>exact aC.get (i:=i) h2 (by simpa using e)
theorem aC.back:∀ {ds:List D} {xs:List V} {i:Nat} {v:V},aC K H ds xs→xs[i]?=some v→∃ d,ds[i]?=some d∧Dat K H d v
 | [],xs,i,v,h,e=>by rw [aH.mp h] at e;simp at e
 | d :: ds,xs,i,v',h,e=>by
   obtain ⟨v,vs,rfl,h1,h2⟩:=aA.mp h
   cases i with
   | zero=>simp at e;subst e;exact ⟨d,rfl,h1⟩
   | succ i=>exact aC.back (i:=i) h2 (by simpa using e)
theorem aC.append:∀ {ds es:List D} {xs ys:List V},aC K H ds xs→aC K H es ys→aC K H (ds ++ es) (xs ++ ys)
 | [],es,xs,ys,h,h'=>by rw [aH.mp h];exact h'
 | d :: ds,es,xs,ys,h,h'=>by
   obtain ⟨v,vs,rfl,h1,h2⟩:=aA.mp h
   exact aA.mpr ⟨v,vs ++ ys,rfl,h1,h2.append h'⟩
theorem aC.one {d:D} {v:V} (h:Dat K H d v):aC K H [d] [v]:=aA.mpr ⟨v,[],rfl,h,aH.mpr rfl⟩
end
inductive MO where
 | lst (ds:List D)
 | lJ (kvs:List (List (List Int) ×D))
abbrev Mp:=Addr→Option MO
def ay (M:Mp) (a:Addr) (o:MO):Mp:=fun b=>if b=a then some o else M b
def Lq:Mp:=fun _=>none
theorem ah {M:Mp} {a:Addr} {o:MO}:ay M a o a=some o:=by unfold ay;rw [if_pos rfl]
theorem aE {M:Mp} {a b:Addr} {o:MO} (h:b≠a):ay M a o b=M b:=by unfold ay;rw [if_neg h]
theorem m7 {M:Mp} {a:Addr} {o u:MO}:ay (ay M a o) a u=ay M a u:=by
 funext b;unfold ay;split <;> rfl
theorem av {M:Mp} {a b:Addr} {o u:MO} (h:M b=some o) (n:M a=none):ay M a u b=some o:=by
 rw [aE (fun e=>by subst e;rw [h] at n;cases n)];exact h
def Le (M M':Mp):Prop:= ∀ a o,M a=some o→M' a=some o
theorem Le.refl (M:Mp):Le M M:=fun _ _ h=>h
theorem Le.trans {M M1 M2:Mp} (a:Le M M1) (b:Le M1 M2):Le M M2:=fun c o h=>b c o (a c o h)
theorem Le.new {M:Mp} {a:Addr} {o:MO} (n:M a=none):Le M (ay M a o):=fun _ _ h=>av h n
def zz (ks:List (List Int)):Int:=reduceHash (Builtin.Tuple.tupleHashOf (ks.map fun k=>reduceHash (Builtin.Tuple.tupleHashOf (k.map hashInt))))
abbrev DX:=List (List (List Int) ×Addr ×Value)
def Di (x:List (List Int) ×Addr ×Value):DictEntry:=⟨zz x.1,.ref x.2.1,x.2.2⟩
def i0 (a:Addr) (xs:DX):Heap→Prop:=fun h=> ∃ o es,h.get? a=some o∧o.ExactDict∧o.data= .dict es xs.length∧es.toList=xs.map Di
def kD (k:List (List Int)):D:= .tup (k.map fun l=> .tup (l.map .int))
def jM (K:PySem.W.Frag) (H:Hp) (p:List (List Int) ×D) (x:List (List Int) ×Addr ×Value):Prop:=p.1=x.1∧Dat K H (kD p.1) (.ref x.2.1)∧∃ v,Dat K H p.2 v∧RelV v x.2.2
theorem jM.mono {K:PySem.W.Frag} {H H':Hp} (e:Ext H H') {p:List (List Int) ×D} {x:List (List Int) ×Addr ×Value} (h:jM K H p x):jM K H' p x:=by
 obtain ⟨h1,h2,v,h3,h4⟩:=h
 exact ⟨h1,Dat.mono e _ _ h2,v,Dat.mono e _ _ h3,h4⟩
def KH (K:PySem.W.Frag) (H:Hp) (a:Addr):MO→Prop
 | .lst ds=> ∃ xs,H a=some (.lst xs)∧aC K H ds xs
 | .lJ kvs=> ∃ xs:DX,H a=some (.ext (i0 a xs))∧(a == sysModules)=false∧(xs.map (·.1)).Nodup∧Paired (jM K H) kvs xs
theorem KH.mono {K:PySem.W.Frag} {H H':Hp} {a:Addr} {o:MO} (h:KH K H a o) (e:Ext H H') (s:∀ u,H a=some u→H' a=some u):KH K H' a o:=by
 cases o with
 | lst ds=>
   obtain ⟨xs,e1,e2⟩:=h
   exact ⟨xs,s _ e1,aC.mono e _ _ e2⟩
 | lJ kvs=>
   obtain ⟨xs,e1,y,nd,p⟩:=h
   exact ⟨xs,s _ e1,y,nd,Paired.Fo p fun _ _ z=>z.mono e⟩
theorem KH.has {K:PySem.W.Frag} {H:Hp} {a:Addr} {o:MO} (h:KH K H a o):∃ u,H a=some u∧((∃ xs,u= .lst xs)∨∃ φ,u= .ext φ):=by
 cases o with
 | lst ds=>
   obtain ⟨xs,e1,_⟩:=h
   exact ⟨_,e1,.inl ⟨_,rfl⟩⟩
 | lJ kvs=>
   obtain ⟨xs,e1,_⟩:=h
   exact ⟨_,e1,.inr ⟨_,rfl⟩⟩
def bE (K:PySem.W.Frag) (H:Hp) (M:Mp):Prop:= ∀ a o,M a=some o→KH K H a o
theorem bE.no {K:PySem.W.Frag} {H:Hp}:bE K H Lq:=fun _ _ h=>by cases h
theorem bE.le {K:PySem.W.Frag} {H:Hp} {M M':Mp} (h:bE K H M') (l:Le M M'):bE K H M:=fun a o e=>h a o (l a o e)
theorem bE.lst {K:PySem.W.Frag} {H:Hp} {M:Mp} {a:Addr} {ds:List D} (h:bE K H M) (e:M a=some (.lst ds)):∃ xs,H a=some (.lst xs)∧aC K H ds xs:=h a _ e
theorem bE.free {K:PySem.W.Frag} {H:Hp} {M:Mp} {a:Addr} (h:bE K H M) (e:H a=none):M a=none:=by
 cases q:M a with
 | none=>rfl
 | some o=>
   obtain ⟨u,e',_⟩:=(h a o q).has
   rw [e] at e';cases e'
theorem bE.vH {K:PySem.W.Frag} {H:Hp} {M:Mp} {a:Addr} {u:HO} (h:bE K H M) (e:H a=some u) (n:∀ xs,u≠ .lst xs) (n2:∀ φ,u≠ .ext φ:=by intro _ z;cases z):M a=none:=by
 cases q:M a with
 | none=>rfl
 | some o=>
   obtain ⟨u',e',h'⟩:=(h a o q).has
   rw [e] at e'
   cases e'
   rcases h' with ⟨xs,z⟩ | ⟨φ,z⟩
   ·exact absurd z (n xs)
   ·exact absurd z (n2 φ)
def Fr (M:Mp) (H:Hp) (M':Mp) (H':Hp):Prop:= ∀ b o,M b=none→H b=some o→H' b=some o∧M' b=none
theorem Fr.refl (M:Mp) (H:Hp):Fr M H M H:=fun _ _ n e=>⟨e,n⟩
theorem Fr.trans {M M1 M2:Mp} {H H1 H2:Hp} (a:Fr M H M1 H1) (b:Fr M1 H1 M2 H2):Fr M H M2 H2:=fun c o n e=>
 let ⟨e1,n1⟩:=a c o n e
 b c o n1 e1
theorem Fr.le {M M1 M2:Mp} {H H1:Hp} (a:Fr M H M1 H1) (l:Le M2 M1):Fr M H M2 H1:=fun b o n e=>by
 obtain ⟨e1,n1⟩:=a b o n e
 refine ⟨e1,?_⟩
 cases q:M2 b with
 | none=>rfl
 | some u=>rw [l b u q] at n1;cases n1
theorem Fr.ext {K:PySem.W.Frag} {M M':Mp} {H H':Hp} (f:Fr M H M' H') (r:bE K H M):Ext H H':=
 ⟨fun b xs e=>(f b _ (r.vH e (fun _ z=>by cases z)) e).1,fun b o u e=>(f b _ (r.vH e (fun _ z=>by cases z)) e).1⟩
theorem Ext.new {H:Hp} {p:Addr} {o:HO} (n:H p=none):Ext H (upd H p o):=
 ⟨fun b xs e=>by rw [aQ (bI e n)];exact e,fun b o' u e=>by rw [aQ (bI e n)];exact e⟩
theorem Fr.new {M M':Mp} {H:Hp} {p:Addr} {o:HO} (n:H p=none) (h:∀ b,b≠p→M' b=M b):Fr M H M' (upd H p o):=fun b u m e=>by
 have hb:b≠p:=bI e n
 rw [aQ hb,h b hb]
 exact ⟨e,m⟩
theorem Fr.write {K:PySem.W.Frag} {M:Mp} {H:Hp} {p:Addr} {o:HO} {u:MO} {v:MO} (m:M p=some u):Fr M H (ay M p v) (upd H p o):=fun b w n e=>by
 have hb:b≠p:=fun z=>by subst z;rw [m] at n;cases n
 rw [aQ hb,aE hb]
 exact ⟨e,n⟩
theorem bE.new {K:PySem.W.Frag} {M:Mp} {H:Hp} {p:Addr} {o:HO} (r:bE K H M) (n:H p=none):bE K (upd H p o) M:=fun a u e=>
 (r a u e).mono (Ext.new n) fun v q=>by rw [aQ (bI q n)];exact q
theorem Ext.mj {H:Hp} {p:Addr} {xs ys:List V} (h:H p=some (.lst xs)):Ext H (upd H p (.lst ys)):=
 ⟨fun b zs e=>by rw [aQ (AG e h (by intro z;cases z))];exact e,fun b o u e=>by rw [aQ (AG e h (by intro z;cases z))];exact e⟩
theorem bE.newL {K:PySem.W.Frag} {M:Mp} {H:Hp} {p:Addr} {xs:List V} {ds:List D} (r:bE K H M) (n:H p=none) (d:aC K H ds xs):bE K (upd H p (.lst xs)) (ay M p (.lst ds)):=fun a u e=>by
 by_cases ha:a=p
 ·subst ha
  rw [ah] at e;cases e
  exact ⟨xs,bN,aC.mono (Ext.new n) _ _ d⟩
 ·rw [aE ha] at e
  exact r.new n a u e
theorem bE.mj {K:PySem.W.Frag} {M:Mp} {H:Hp} {p:Addr} {xs ys:List V} {ds:List D} (r:bE K H M) (h:H p=some (.lst xs)) (d:aC K H ds ys):bE K (upd H p (.lst ys)) (ay M p (.lst ds)):=fun a u e=>by
 by_cases ha:a=p
 ·subst ha
  rw [ah] at e;cases e
  exact ⟨ys,bN,aC.mono (Ext.mj h) _ _ d⟩
 ·rw [aE ha] at e
  exact (r a u e).mono (Ext.mj h) fun v q=>by rw [aQ ha];exact q
theorem Ext.vI {H:Hp} {p:Addr} {φ:Heap→Prop} {o:HO} (h:H p=some (.ext φ)):Ext H (upd H p o):=
 ⟨fun b zs e=>by rw [aQ (AG e h (by intro z;cases z))];exact e,fun b o u e=>by rw [aQ (AG e h (by intro z;cases z))];exact e⟩
theorem bE.newD {K:PySem.W.Frag} {M:Mp} {H:Hp} {p:Addr} (r:bE K H M) (n:H p=none) (y:(p == sysModules)=false):bE K (upd H p (.ext (i0 p []))) (ay M p (.lJ [])):=fun a u e=>by
 by_cases ha:a=p
 ·subst ha
  rw [ah] at e;cases e
  exact ⟨[],bN,y,XD,.nil⟩
 ·rw [aE ha] at e
  exact r.new n a u e
theorem bE.lJ {K:PySem.W.Frag} {H:Hp} {M:Mp} {a:Addr} {kvs:List (List (List Int) ×D)} (h:bE K H M) (e:M a=some (.lJ kvs)):∃ xs:DX,H a=some (.ext (i0 a xs))∧(a == sysModules)=false∧(xs.map (·.1)).Nodup∧Paired (jM K H) kvs xs:=h a _ e
theorem bE.vI {K:PySem.W.Frag} {M:Mp} {H:Hp} {p:Addr} {φ:Heap→Prop} {xs:DX} {kvs:List (List (List Int) ×D)} (r:bE K H M) (h:H p=some (.ext φ)) (y:(p == sysModules)=false) (nd:(xs.map (·.1)).Nodup) (d:Paired (jM K H) kvs xs) :
 bE K (upd H p (.ext (i0 p xs))) (ay M p (.lJ kvs)):=fun a u e=>by
 by_cases ha:a=p
 ·subst ha
  rw [ah] at e;cases e
  exact ⟨xs,bN,y,nd,Paired.Fo d fun _ _ z=>z.mono (Ext.vI h)⟩
 ·rw [aE ha] at e
  exact (r a u e).mono (Ext.vI h) fun v q=>by rw [aQ ha];exact q
abbrev En:=List (Option D)
structure Rep (K:PySem.W.Frag) (H:Hp) (σ:St) (ρ:En) (M:Mp):Prop where
 env:∀ (i:Nat) d,ρ[i]?=some (some d)→∃ v,σ[i]?=some (some v)∧Dat K H d v
 len:ρ.length=σ.length
 mem:bE K H M
theorem Rep.go {K:PySem.W.Frag} {H H':Hp} {σ:St} {ρ:En} {M M':Mp} (r:Rep K H σ ρ M) (f:Fr M H M' H') (r':bE K H' M'):Rep K H' σ ρ M':=
 ⟨fun i d e=>let ⟨v,e1,e2⟩:=r.env i d e;⟨v,e1,Dat.mono (f.ext r.mem) _ _ e2⟩,r.len,r'⟩
theorem Rep.set {K:PySem.W.Frag} {H:Hp} {σ:St} {ρ:En} {M:Mp} {i:Nat} {d:D} {v:V} (r:Rep K H σ ρ M) (h:Dat K H d v):Rep K H (σ.set i (some v)) (ρ.set i (some d)) M:=by
 refine ⟨fun j e q=>?_,by simp [r.len],r.mem⟩
 by_cases hj:i=j
 ·subst hj
  by_cases hl:i < ρ.length
  ·rw [WX hl] at q
   cases q
   exact ⟨v,WX (by rw [← r.len];exact hl),h⟩
  ·rw [Wy (by simp;omega)] at q;cases q
 ·rw [Xr hj] at q ⊢
  exact r.env j e q
abbrev DK:=D→Mp→Prop
abbrev cP:=En→Mp→DK→Prop
abbrev mY:=En→Mp→(Bool→Mp→Prop)→Prop
abbrev tN:=En→Mp→(List D→Mp→Prop)→Prop
def Post (K:PySem.W.Frag) (M:Mp) (H:Hp) (Q:DK):VK:=fun v H'=> ∃ d M',Fr M H M' H'∧Dat K H' d v∧bE K H' M'∧Q d M'
def pV (K:PySem.W.Frag) (M:Mp) (H:Hp) (Q:Bool→Mp→Prop):Bool→Hp→Prop:=fun b H'=> ∃ M',Fr M H M' H'∧bE K H' M'∧Q b M'
def HJ (K:PySem.W.Frag) (M:Mp) (H:Hp) (Q:List D→Mp→Prop):List V→Hp→Prop:=fun vs H'=> ∃ ds M',Fr M H M' H'∧aC K H' ds vs∧bE K H' M'∧Q ds M'
structure cg (X:Cx) (e:Expr) (t:cP):Prop where
 run:∀ (pins:List (Addr ×Obj)) (s:Shared) (σ:St) (H:Hp) (ρ:En) (M:Mp) (Q:DK),Inv X pins σ H s→Rep X.K H σ ρ M→t ρ M Q→wpAny (model X.prog X.w) X.A (eval e X.env) (EP X pins σ (Post X.K M H Q)) X.xe s
structure y9 (X:Cx) (e:Expr) (t:mY):Prop where
 run:∀ (pins:List (Addr ×Obj)) (s:Shared) (σ:St) (H:Hp) (ρ:En) (M:Mp) (Q:Bool→Mp→Prop),Inv X pins σ H s→Rep X.K H σ ρ M→t ρ M Q→wpAny (model X.prog X.w) X.A (isTrue e X.env (eval e X.env)) (TP X pins σ (pV X.K M H Q)) X.xe s
structure pW (X:Cx) (e:Expr) (t:mY):Prop where
 run:∀ (whole:Sem Value) (pins:List (Addr ×Obj)) (s:Shared) (σ:St) (H:Hp) (ρ:En) (M:Mp) (Q:Bool→Mp→Prop),Inv X pins σ H s→Rep X.K H σ ρ M→t ρ M Q→wpAny (model X.prog X.w) X.A (isTrue e X.env whole) (TP X pins σ (pV X.K M H Q)) X.xe s
theorem pW.pt {X:Cx} {e:Expr} {t:mY} (h:pW X e t):y9 X e t:=⟨h.run _⟩
structure zA (X:Cx) (es:List Expr) (t:tN):Prop where
 run:∀ (pos:Pos) (pins:List (Addr ×Obj)) (s:Shared) (σ:St) (H:Hp) (ρ:En) (M:Mp) (Q:List D→Mp→Prop),Inv X pins σ H s→Rep X.K H σ ρ M→t ρ M Q→wpAny (model X.prog X.w) X.A (spliced (backTo pos (starEach es X.env))) (AP X pins σ (HJ X.K M H Q)) X.xe s
structure HK where
 nx:En→Mp→Prop
 rt:DK
 bk:En→Mp→Prop:=fun _ _=>False
 ct:En→Mp→Prop:=fun _ _=>False
abbrev i6:=HK→En→Mp→Prop
def i7 (K:PySem.W.Frag) (M:Mp) (H:Hp) (Q:En→Mp→Prop):St→Hp→Prop:=fun σ' H'=> ∃ ρ' M',Fr M H M' H'∧Rep K H' σ' ρ' M'∧Q ρ' M'
def ends (K:PySem.W.Frag) (M:Mp) (H:Hp) (D:HK):Ends:={ nx:=i7 K M H D.nx,rt:=Post K M H D.rt,bk:=i7 K M H D.bk,ct:=i7 K M H D.ct }
structure vJ (X:Cx) (st:Stmt) (t:i6):Prop where
 run:∀ (pins:List (Addr ×Obj)) (s:Shared) (σ:St) (H:Hp) (ρ:En) (M:Mp) (D:HK),Inv X pins σ H s→Rep X.K H σ ρ M→t D ρ M→wpAny (model X.prog X.w) X.A (exec st X.env) (SP X pins (ends X.K M H D)) X.xe s
structure i8 (X:Cx) (st:List Stmt) (t:i6):Prop where
 run:∀ (pins:List (Addr ×Obj)) (s:Shared) (σ:St) (H:Hp) (ρ:En) (M:Mp) (D:HK),Inv X pins σ H s→Rep X.K H σ ρ M→t D ρ M→wpAny (model X.prog X.w) X.A (execs st X.env) (SP X pins (ends X.K M H D)) X.xe s
section
variable {X:Cx}
theorem up {e:Expr} {te:TE} {t:cP} (h:PE X e te) (g:∀ σ H ρ M Q,Rep X.K H σ ρ M→t ρ M Q→te σ H (Post X.K M H Q)):cg X e t:=
 ⟨fun pins s σ H ρ M Q I r q=>h pins s σ H _ I (g σ H ρ M Q r q)⟩
theorem RP {e:Expr} {te:TT} {t:mY} (h:PT X e te) (g:∀ σ H ρ M Q,Rep X.K H σ ρ M→t ρ M Q→te σ H (pV X.K M H Q)):y9 X e t:=
 ⟨fun pins s σ H ρ M Q I r q=>h pins s σ H _ I (g σ H ρ M Q r q)⟩
theorem AX {st:Stmt} {te:TS} {t:i6} (h:PS X st te) (g:∀ σ H ρ M D,Rep X.K H σ ρ M→t D ρ M→te (ends X.K M H D) σ H):vJ X st t:=
 ⟨fun pins s σ H ρ M D I r q=>h pins s σ H _ I (g σ H ρ M D r q)⟩
def dn (K:PySem.W.Frag) (t:cP):TE:=fun σ H Q'=> ∃ ρ M Q,Rep K H σ ρ M∧t ρ M Q∧∀ v H',Post K M H Q v H'→Q' v H'
def OL (K:PySem.W.Frag) (t:mY):TT:=fun σ H Q'=> ∃ ρ M Q,Rep K H σ ρ M∧t ρ M Q∧∀ v H',pV K M H Q v H'→Q' v H'
def QF (K:PySem.W.Frag) (t:tN):TA:=fun σ H Q'=> ∃ ρ M Q,Rep K H σ ρ M∧t ρ M Q∧∀ v H',HJ K M H Q v H'→Q' v H'
def Nr (K:PySem.W.Frag) (t:i6):TS:=fun D' σ H=> ∃ ρ M D,Rep K H σ ρ M∧t D ρ M∧(∀ σ' H',i7 K M H D.nx σ' H'→D'.nx σ' H')∧(∀ v H',Post K M H D.rt v H'→D'.rt v H')∧(∀ σ' H',i7 K M H D.bk σ' H'→D'.bk σ' H')∧(∀ σ' H',i7 K M H D.ct σ' H'→D'.ct σ' H')
theorem cg.dn {e:Expr} {t:cP} (h:cg X e t):PE X e (dn X.K t):=fun pins s σ H Q' I ⟨ρ,M,Q,r,q,k⟩=>
 cM (h.run pins s σ H ρ M Q I r q) fun _ _ ⟨v,H',I',rv,p⟩=>⟨v,H',I',rv,k v H' p⟩
theorem y9.dn {e:Expr} {t:mY} (h:y9 X e t):PT X e (OL X.K t):=fun pins s σ H Q' I ⟨ρ,M,Q,r,q,k⟩=>
 cM (h.run pins s σ H ρ M Q I r q) fun _ _ ⟨H',I',p⟩=>⟨H',I',k _ H' p⟩
theorem pW.dn {e:Expr} {t:mY} (h:pW X e t):PW X e (OL X.K t):=fun wh pins s σ H Q' I ⟨ρ,M,Q,r,q,k⟩=>
 cM (h.run wh pins s σ H ρ M Q I r q) fun _ _ ⟨H',I',p⟩=>⟨H',I',k _ H' p⟩
theorem zA.dn {es:List Expr} {t:tN} (h:zA X es t):PA X es (QF X.K t):=fun pos pins s σ H Q' I ⟨ρ,M,Q,r,q,k⟩=>
 cM (h.run pos pins s σ H ρ M Q I r q) fun _ _ ⟨vs,H',I',rv,p⟩=>⟨vs,H',I',rv,k vs H' p⟩
theorem i8.dn {sts:List Stmt} {t:i6} (h:i8 X sts t):zk X sts (Nr X.K t):=fun pins s σ H D' I ⟨ρ,M,D,r,q,k1,k2,k3,k4⟩=>
 cM (h.run pins s σ H ρ M D I r q) fun f s' z=>by
  cases f with
  | next=>obtain ⟨σ',H',I',p⟩:=z;exact ⟨σ',H',I',k1 _ _ p⟩
  | brk=>obtain ⟨σ',H',I',p⟩:=z;exact ⟨σ',H',I',k3 _ _ p⟩
  | cont=>obtain ⟨σ',H',I',p⟩:=z;exact ⟨σ',H',I',k4 _ _ p⟩
  | ret u=>obtain ⟨v,σ',H',I',rv,p⟩:=z;exact ⟨v,σ',H',I',rv,k2 _ _ p⟩
theorem dU {K:PySem.W.Frag} {t:cP} {σ:St} {H:Hp} {ρ:En} {M:Mp} {Q:DK} {Q':VK} (r:Rep K H σ ρ M) (q:t ρ M Q) (k:∀ v H' d M',Fr M H M' H'→Dat K H' d v→Rep K H' σ ρ M'→Q d M'→Q' v H'):dn K t σ H Q':=
 ⟨ρ,M,Q,r,q,fun v H' ⟨d,M',f,dv,rm,p⟩=>k v H' d M' f dv (r.go f rm) p⟩
theorem oR {K:PySem.W.Frag} {t:mY} {σ:St} {H:Hp} {ρ:En} {M:Mp} {Q:Bool→Mp→Prop} {Q':Bool→Hp→Prop} (r:Rep K H σ ρ M) (q:t ρ M Q) (k:∀ b H' M',Fr M H M' H'→Rep K H' σ ρ M'→Q b M'→Q' b H'):OL K t σ H Q':=
 ⟨ρ,M,Q,r,q,fun b H' ⟨M',f,rm,p⟩=>k b H' M' f (r.go f rm) p⟩
theorem jW {K:PySem.W.Frag} {t:tN} {σ:St} {H:Hp} {ρ:En} {M:Mp} {Q:List D→Mp→Prop} {Q':List V→Hp→Prop} (r:Rep K H σ ρ M) (q:t ρ M Q) (k:∀ vs H' ds M',Fr M H M' H'→aC K H' ds vs→Rep K H' σ ρ M'→Q ds M'→Q' vs H'):QF K t σ H Q':=
 ⟨ρ,M,Q,r,q,fun v H' ⟨d,M',f,dv,rm,p⟩=>k v H' d M' f dv (r.go f rm) p⟩
theorem aD {K:PySem.W.Frag} {M:Mp} {H:Hp} {Q:DK} {d:D} {v:V} (rm:bE K H M) (h:Dat K H d v) (q:Q d M):Post K M H Q v H:=⟨d,M,.refl _ _,h,rm,q⟩
theorem Post.back {K:PySem.W.Frag} {M M1:Mp} {H H1:Hp} {Q:DK} {v:V} {H':Hp} (f:Fr M H M1 H1) (p:Post K M1 H1 Q v H'):Post K M H Q v H':=by
 obtain ⟨d,M',f',dv,rm,q⟩:=p
 exact ⟨d,M',f.trans f',dv,rm,q⟩
theorem pV.back {K:PySem.W.Frag} {M M1:Mp} {H H1:Hp} {Q:Bool→Mp→Prop} {b:Bool} {H':Hp} (f:Fr M H M1 H1) (p:pV K M1 H1 Q b H'):pV K M H Q b H':=by
 obtain ⟨M',f',rm,q⟩:=p
 exact ⟨M',f.trans f',rm,q⟩
theorem i7.back {K:PySem.W.Frag} {M M1:Mp} {H H1:Hp} {Q:En→Mp→Prop} {σ:St} {H':Hp} (f:Fr M H M1 H1) (p:i7 K M1 H1 Q σ H'):i7 K M H Q σ H':=by
 obtain ⟨ρ',M',f',r,q⟩:=p
 exact ⟨ρ',M',f.trans f',r,q⟩
end
end L3
namespace L3
open PySem PySem.Spec PyProof.Rows L2
section
variable {X:Cx} {a b c:Expr} {ta tb tc:cP} {pos:Pos}
def Lr (i:Nat):cP:=fun ρ M Q=> ∃ d,ρ[i]?=some (some d)∧Q d M
def Nt (d:D):cP:=fun _ M Q=>Q d M
theorem aa (i:Nat) {x:Str} {pos:Pos} (hN:X.N[i]?=some x:=by rfl) (hv:NS X.env.scope x:=by first | exact Or.inl rfl | exact Or.inr (Or.inl rfl) | exact Or.inr (Or.inr rfl)) (hd:(x == ("__debug__" :Str))=false:=by decide)
 (hcd:(x == ("__classdict__" :Str))=false:=by decide):cg X (.Name x pos) (Lr i):=
 up (ID hN hv hd hcd) fun σ H ρ M Q r ⟨d,e,q⟩=>by
  obtain ⟨v,e1,e2⟩:=r.env i d e
  exact ⟨v,e1,aD r.mem e2 q⟩
theorem ai {i j pos}:cg X (.Constant (.int i) j pos) (Nt (.int i)):=up IE fun _ _ _ _ _ r q=>aD r.mem (aP.mpr rfl) q
theorem gE {b j pos}:cg X (.Constant (.bool b) j pos) (Nt (.bl b)):=up KY fun _ _ _ _ _ r q=>aD r.mem (aV.mpr rfl) q
theorem xP {j pos}:cg X (.Constant .none j pos) (Nt .aZ):=up IF fun _ _ _ _ _ r q=>aD r.mem (cz.mpr rfl) q
theorem oS {x:Str} {n:String} {pos:Pos} (hg:Gl X x) (hm:X.mg x=none) (hv:bootBuiltins x=some (.type n)) (hn:x≠"__name__" :=by decide) (hd:(x == ("__debug__" :Str))=false:=by decide):cg X (.Name x pos) (Nt (.ty n)):=
 up (Fv (v:= .ty n) hg hm hv rfl hn hd) fun _ _ _ _ _ r q=>aD r.mem (zy.mpr rfl) q
abbrev R3:=D→D→Mp→DK→Prop
structure lK (X:Cx) (f:Value→Value→Sem Value) (t:R3):Prop where
 run:∀ (pins:List (Addr ×Obj)) (s:Shared) (σ:St) (H:Hp) (M:Mp) (x y:V) (d e:D) (v u:Value) (Q:DK),Inv X pins σ H s→bE X.K H M→RelV x v→RelV y u→Dat X.K H d x→Dat X.K H e y→t d e M Q→
  wpAny (model X.prog X.w) X.A (f v u) (EP X pins σ (Post X.K M H Q)) X.xe s
theorem KI {f:Value→Value→Sem Value} {r:R2} {t:R3} (h:xr X f r) (g:∀ H M x y d e Q,bE X.K H M→Dat X.K H d x→Dat X.K H e y→t d e M Q→r x y H (Post X.K M H Q)):lK X f t:=
 ⟨fun pins s σ H M x y d e v u Q I rm rx ry dx dy q=>h pins s σ H x y v u _ I rx ry (g H M x y d e Q rm dx dy q)⟩
def FZ (t:R3) (ta tb:cP):cP:=fun ρ M Q=>ta ρ M fun x M1=>tb ρ M1 fun y M2=>t x y M2 Q
theorem Ls (ha:cg X a ta) (hb:cg X b tb) {pins:List (Addr ×Obj)} {s:Shared} {σ:St} {H:Hp} {ρ:En} {M:Mp} {R:D→D→Mp→Prop} (I:Inv X pins σ H s) (r:Rep X.K H σ ρ M)
 (h:ta ρ M fun x M1=>tb ρ M1 fun y M2=>R x y M2) {Q:Value→Shared→Prop} {f:Value→Value→Sem Value}
 (hf:∀ v u s2 x y d e H2 M2,Inv X pins σ H2 s2→Rep X.K H2 σ ρ M2→Fr M H M2 H2→RelV x v→RelV y u→Dat X.K H2 d x→Dat X.K H2 e y→R d e M2→wpAny (model X.prog X.w) X.A (f v u) Q X.xe s2) :
 wpAny (model X.prog X.w) X.A (eval a X.env) (fun v s₁=>wpAny (model X.prog X.w) X.A (eval b X.env) (fun u s₂=>wpAny (model X.prog X.w) X.A (f v u) Q X.xe s₂) X.xe s₁) X.xe s:=by
 refine cM (ha.run pins s σ H ρ M _ I r h) fun v s1 ⟨x,H1,I1,r1,d,M1,f1,d1,oM,q1⟩=>?_
 have R1:=r.go f1 oM
 refine cM (hb.run pins s1 σ H1 ρ M1 _ I1 R1 q1) fun u s2 ⟨y,H2,I2,r2,e,M2,f2,d2,Lu,q2⟩=>?_
 exact hf v u s2 x y d e H2 M2 I2 (R1.go f2 Lu) (f1.trans f2) r1 r2 (Dat.mono (f2.ext oM) _ _ d1) d2 q2
theorem au {op:Operator} {t:R3} (ho:lK X (binaryOp op) t) (ha:cg X a ta) (hb:cg X b tb):cg X (.BinOp a op b pos) (FZ t ta tb):=by
 constructor
 intro pins s σ H ρ M Q I r h
 refine wpAny_BinOp (Ls ha hb I r h fun v u s2 x y d e H2 M2 I2 R2 f rx ry dx dy q=>?_)
 exact cM (ho.run pins s2 σ H2 M2 x y d e v u Q I2 R2.mem rx ry dx dy q) fun _ _ ⟨z,H3,I3,r3,p⟩=>⟨z,H3,I3,r3,p.back f⟩
theorem lM {op:CmpOp} {t:R3} (ho:lK X (compareOp op) t) (ha:cg X a ta) (hb:cg X b tb) (hm:behindInMarks op b=false):cg X (.Compare a [op] [b] pos) (FZ t ta tb):=by
 constructor
 intro pins s σ H ρ M Q I r h
 refine wpAny_Compare1 (Ls ha hb I r h fun v u s2 x y d e H2 M2 I2 R2 f rx ry dx dy q=>?_) hm
 exact cM (ho.run pins s2 σ H2 M2 x y d e v u Q I2 R2.mem rx ry dx dy q) fun _ _ ⟨z,H3,I3,r3,p⟩=>⟨z,H3,I3,r3,p.back f⟩
def Dj (t:cP):mY:=fun ρ M Q=>t ρ M fun x M'=> ∃ k,x= .bl k∧Q k M'
theorem aW {op:CmpOp} {t:R3} (ho:lK X (compareOp op) t) (ha:cg X a ta) (hb:cg X b tb) (hm:behindInMarks op b=false):y9 X (.Compare a [op] [b] pos) (Dj (FZ t ta tb)):=by
 constructor
 intro pins s σ H ρ M Q I r h
 refine wpAny_isTrue_Compare1 (cM (ha.run pins s σ H ρ M _ I r h) fun v s1 ⟨x,H1,I1,r1,d,M1,f1,d1,oM,q1⟩=>cM (hb.run pins s1 σ H1 ρ M1 _ I1 (r.go f1 oM) q1) fun u s2 ⟨y,H2,I2,r2,e,M2,f2,d2,Lu,q2⟩=>
  cM (ho.run pins s2 σ H2 M2 x y d e v u _ I2 Lu r1 r2 (Dat.mono (f2.ext oM) _ _ d1) d2 q2) fun w s3 ⟨z,H3,I3,r3,dz,M3,f3,d3,RQ,k,ek,q3⟩=>?_) hm
 subst ek
 obtain rfl:=aV.mp d3
 cases r3
 exact wpAny_truthy_bool ⟨H3,I3,M3,(f1.trans f2).trans f3,RQ,q3⟩
theorem c8 {e:Expr} {t:cP} (h:cg X e t) (he:∀ whole,isTrue e X.env whole=(do let v ← whole;standAt e.pos;holding [v] (truthy v)):=by intro _;rfl):y9 X e (Dj t):=by
 constructor
 intro pins s σ H ρ M Q I r hw
 refine isTrue_plain (cM (h.run pins s σ H ρ M _ I r hw) fun v s1 ⟨x,H1,I1,r1,d,M1,f1,d1,oM,k,ek,q1⟩=>?_) (he _)
 subst ek
 obtain rfl:=aV.mp d1
 cases r1
 exact wpAny_truthy_bool ⟨H1,I1,M1,f1,oM,q1⟩
variable {tA tB:mY} {rest:List Expr}
def Lv (t u:mY):mY:=fun ρ M Q=>t ρ M fun c M1=>if c=true then u ρ M1 Q else Q false M1
def OM (t u:mY):mY:=fun ρ M Q=>t ρ M fun c M1=>if c=true then Q true M1 else u ρ M1 Q
def Lw (t:mY):mY:=fun ρ M Q=>t ρ M fun c M1=>Q (!c) M1
theorem oU (ha:y9 X a tA):pW X (.BoolOp .And [a] pos) tA:=⟨fun wh pins s σ H ρ M Q I r h=>cM (pw_and1 ha.dn wh pins s σ H _ I ⟨ρ,M,Q,r,h,fun _ _ z=>z⟩) fun _ _ z=>z⟩
theorem lN (ha:y9 X a tA):pW X (.BoolOp .Or [a] pos) tA:=⟨fun wh pins s σ H ρ M Q I r h=>cM (pw_or1 ha.dn wh pins s σ H _ I ⟨ρ,M,Q,r,h,fun _ _ z=>z⟩) fun _ _ z=>z⟩
theorem qV (ha:y9 X a tA) (hb:pW X (.BoolOp .And (b :: rest) pos) tB):pW X (.BoolOp .And (a :: b :: rest) pos) (Lv tA tB):=⟨fun wh pins s σ H ρ M Q I r h=>
 pw_and ha.dn hb.dn wh pins s σ H _ I (oR r h fun c H' M' f r' q=>by
  cases c with
  | true=>exact ⟨ρ,M',Q,r',q,fun _ _ p=>p.back f⟩
  | false=>exact ⟨M',f,r'.mem,q⟩)⟩
theorem qk (ha:y9 X a tA) (hb:pW X (.BoolOp .Or (b :: rest) pos) tB):pW X (.BoolOp .Or (a :: b :: rest) pos) (OM tA tB):=⟨fun wh pins s σ H ρ M Q I r h=>
 pw_or ha.dn hb.dn wh pins s σ H _ I (oR r h fun c H' M' f r' q=>by
  cases c with
  | true=>exact ⟨M',f,r'.mem,q⟩
  | false=>exact ⟨ρ,M',Q,r',q,fun _ _ p=>p.back f⟩)⟩
theorem k_not (ha:y9 X a tA):y9 X (.UnaryOp .Not a pos) (Lw tA):=RP (IG ha.dn) fun σ H ρ M Q r h=>oR r h fun _ _ M' f r' q=>⟨M',f,r'.mem,q⟩
def Jg (ta tb:cP):cP:=fun ρ M Q=>ta ρ M fun x M1=> ∃ c,x= .bl c∧if c=true then tb ρ M1 Q else Q (.bl false) M1
def Lx (ta tb:cP):cP:=fun ρ M Q=>ta ρ M fun x M1=> ∃ c,x= .bl c∧if c=true then Q (.bl true) M1 else tb ρ M1 Q
theorem Dk {op} {t:cP} (h:cg X a t):cg X (.BoolOp op [a] pos) t:=⟨fun pins s σ H ρ M Q I r hw=>BoolOp_one (h.run pins s σ H ρ M Q I r hw)⟩
theorem Ly (ha:cg X a ta) (hb:cg X (.BoolOp .And (b :: rest) pos) tb):cg X (.BoolOp .And (a :: b :: rest) pos) (Jg ta tb):=up (II ha.dn hb.dn) fun σ H ρ M Q r h=>dU r h fun v H' d M' f dv r' ⟨k,ek,q⟩=>by
 subst ek
 obtain rfl:=aV.mp dv
 refine ⟨k,rfl,?_⟩
 cases k with
 | true=>exact ⟨ρ,M',Q,r',q,fun _ _ p=>p.back f⟩
 | false=>exact ⟨.bl false,M',f,aV.mpr rfl,r'.mem,q⟩
theorem Lz (ha:cg X a ta) (hb:cg X (.BoolOp .Or (b :: rest) pos) tb):cg X (.BoolOp .Or (a :: b :: rest) pos) (Lx ta tb):=up (K0 ha.dn hb.dn) fun σ H ρ M Q r h=>dU r h fun v H' d M' f dv r' ⟨k,ek,q⟩=>by
 subst ek
 obtain rfl:=aV.mp dv
 refine ⟨k,rfl,?_⟩
 cases k with
 | true=>exact ⟨.bl true,M',f,aV.mpr rfl,r'.mem,q⟩
 | false=>exact ⟨ρ,M',Q,r',q,fun _ _ p=>p.back f⟩
def ON (t:mY) (ta tb:cP):cP:=fun ρ M Q=>t ρ M fun c M1=>if c=true then ta ρ M1 Q else tb ρ M1 Q
theorem LA {c:Expr} (hc:y9 X c tA) (ha:cg X a ta) (hb:cg X b tb):cg X (.IfExp c a b pos) (ON tA ta tb):=up (C0 hc.dn ha.dn hb.dn) fun σ H ρ M Q r h=>oR r h fun k H' M' f r' q=>by
 cases k with
 | true=>exact ⟨ρ,M',Q,r',q,fun _ _ p=>p.back f⟩
 | false=>exact ⟨ρ,M',Q,r',q,fun _ _ p=>p.back f⟩
def OO (t:D→Mp→DK→Prop) (ta:cP):cP:=fun ρ M Q=>ta ρ M fun x M1=>t x M1 Q
def OP:D→Mp→DK→Prop:=fun d M Q=> ∃ i,d= .int i∧Q (.int (-i)) M
theorem fj (ha:cg X a ta):cg X (.UnaryOp .USub a pos) (OO OP ta):=up (K8 IU ha.dn) fun σ H ρ M Q r h=>dU r h fun v H' d M' f dv r' ⟨i,ek,q⟩=>by
 subst ek
 obtain rfl:=aP.mp dv
 exact ⟨i,rfl,.int (-i),M',f,aP.mpr rfl,r'.mem,q⟩
def Sm (n:Nat) (i:Int):Prop:=i.natAbs < 2 ^ n
def MulOk (i j:Int):Prop:= ∃ m n,Sm m i∧Sm n j∧m+n≤100000
theorem qW {k n:Nat} (h:k < 2 ^ n):k.log2≤n:=by
 rcases Yn k with z | z
 ·subst z;simp
 ·exact Xf (by rw [Nat.log2_lt (by omega)];exact h)
theorem vK {n:Nat} {i:Int} (h:Sm n i):Builtin.Int.intBits i≤n+1:=by
 unfold Builtin.Int.intBits
 have:=qW h
 first
  | (split <;> omega)
  | omega
theorem MulOk.ok {i j:Int} (h:MulOk i j):IntMulOk i j:=by
 obtain ⟨m,n,h1,h2,h3⟩:=h
 have b1:=vK h1
 have b2:=vK h2
 exact IntMulOk.of_bits (by omega) (by omega)
def Jh (g:Int→Int→Int):R3:=fun d e M Q=> ∃ i j,d= .int i∧e= .int j∧Q (.int (g i j)) M
def uB (C:Int→Int→Prop) (g:Int→Int→Int):R3:=fun d e M Q=> ∃ i j,d= .int i∧e= .int j∧C i j∧Q (.int (g i j)) M
def AY (g:Int→Int→Bool):R3:=fun d e M Q=> ∃ i j,d= .int i∧e= .int j∧Q (.bl (g i j)) M
theorem LB {f:Value→Value→Sem Value} {g:Int→Int→Int} (h:xr X f (FF fun i j=> .int (g i j))):lK X f (Jh g):=KI h fun H M x y d e Q rm dx dy ⟨i,j,e1,e2,q⟩=>by
 subst e1;subst e2
 exact ⟨i,j,aP.mp dx,aP.mp dy,aD rm (aP.mpr rfl) q⟩
theorem xQ {f:Value→Value→Sem Value} {C:Int→Int→Prop} {g:Int→Int→Int} (h:xr X f (rI C fun i j=> .int (g i j))):lK X f (uB C g):=KI h fun H M x y d e Q rm dx dy ⟨i,j,e1,e2,hc,q⟩=>by
 subst e1;subst e2
 exact ⟨i,j,aP.mp dx,aP.mp dy,hc,aD rm (aP.mpr rfl) q⟩
theorem Dm {f:Value→Value→Sem Value} {g:Int→Int→Bool} (h:xr X f (FF fun i j=> .bl (g i j))):lK X f (AY g):=KI h fun H M x y d e Q rm dx dy ⟨i,j,e1,e2,q⟩=>by
 subst e1;subst e2
 exact ⟨i,j,aP.mp dx,aP.mp dy,aD rm (aV.mpr rfl) q⟩
theorem fS:lK X (binaryOp .Add) (Jh fun i j=>i+j):=LB IQ
theorem eF:lK X (binaryOp .Sub) (Jh fun i j=>i - j):=LB IS
theorem c9:lK X (binaryOp .Mult) (uB MulOk fun i j=>i*j):=xQ (K9 fun _ _ _ _ _ _ _ hc q=>mul_int q hc.ok)
theorem dW:lK X (binaryOp .Mod) (uB (fun _ j=>0 < j) fun i j=>i % j):=xQ IT
def LC (_ j:Int):Prop:=0 < j∧∃ n,Sm n j∧n≤8000
theorem mC:lK X (binaryOp .FloorDiv) (uB LC fun i j=>i / j):=xQ (K9 fun i j _ _ _ _ _ hc q=>floordiv_int (by have:=hc.1;omega) (by rw [Int.fdiv_eq_ediv_of_nonneg _ (by have:=hc.1;omega)];exact q) (.inl (PyProof.noPylong_of_log2 (by
 obtain ⟨_,n,h1,h2⟩:=hc
 have:=qW h1
 omega))))
def Dn (i j:Int):Prop:=0≤j∧j≤1000∧i.natAbs < 2 ^ 400
theorem Dn.bits {i j:Int} (h:Dn i j):(Builtin.Int.intBits i:Int)*j≤2 ^ 27:=by
 have hb:Builtin.Int.intBits i≤401:=vK (n:=400) h.2.2
 have h1:(Builtin.Int.intBits i:Int)*j≤401*j:=VL (by omega) h.1
 have:=h.2.1
 omega
theorem uC:lK X (binaryOp .Pow) (uB Dn fun i j=>i ^ j.toNat):=xQ (K9 fun _ _ _ _ _ _ _ hc q=>pow_int hc.1 hc.bits q)
theorem OQ:lK X (compareOp .Lt) (AY fun i j=>decide (i < j)):=Dm Ld
theorem OR:lK X (compareOp .LtE) (AY fun i j=>decide (i≤j)):=Dm Lf
theorem Ji:lK X (compareOp .Gt) (AY fun i j=>decide (j < i)):=Dm Lg
inductive Nu where
 | aZ | bl (b:Bool) | int (i:Int) | str (x:Str)
 deriving DecidableEq
def Nu.d:Nu→D | .aZ=> .aZ | .bl b=> .bl b | .int i=> .int i | .str x=> .str x
def Nu.v:Nu→V | .aZ=> .aZ | .bl b=> .bl b | .int i=> .int i | .str x=> .str x
end
end L3
namespace L3
open PySem PySem.Spec PyProof.Rows L2
mutual
def er:D→D→Bool
 | .aZ,e=>match e with | .aZ=>true | _=>false
 | .bl a,e=>match e with | .bl b=>a == b | .int b=>(if a then 1 else 0) == b | _=>false
 | .int a,e=>match e with | .bl b=>a == (if b then 1 else 0) | .int b=>a == b | _=>false
 | .str a,e=>match e with | .str b=>a == b | _=>false
 | .tup as,e=>match e with | .tup bs=>cG as bs | _=>false
 | .ty _,_=>false
 | .ref _,_=>false
 | .zx _,_=>false
 | .HH _,_=>false
 | .exc _ _ _,_=>false
def cG:List D→List D→Bool
 | [],e=>match e with | []=>true | _=>false
 | a :: as,e=>match e with | []=>false | b :: bs=>er a b && cG as bs
end
def plain:Nat→D→Bool
 | _,.aZ=>true
 | _,.bl _=>true
 | _,.int _=>true
 | _,.str _=>true
 | n+1,.tup ds=>ds.all (plain n)
 | _,_=>false
theorem jX:cG [] []=true:=by simp [cG]
theorem i9 (a b:D) (as bs:List D):cG (a :: as) (b :: bs)=(er a b && cG as bs):=by simp [cG]
theorem jm (as bs:List D):er (.tup as) (.tup bs)=cG as bs:=by simp [er]
theorem eG (a b:Int):er (.int a) (.int b)=(a == b):=by simp [er]
theorem eK:∀ (ds es:List D),cG ds es=((List.range (min ds.length es.length)).all (fun j=>er (ds.getD j .aZ) (es.getD j .aZ)) && (ds.length == es.length))
 | [],[]=>by simp [cG]
 | [],e :: es=>by simp [cG]
 | d :: ds,[]=>by simp [cG]
 | d :: ds,e :: es=>by
   rw [i9,eK ds es]
   have h:min (d :: ds).length (e :: es).length=min ds.length es.length+1:=by simp only [VN];omega
   rw [h,List.range_succ_eq_map,Xl,XZ]
   simp only [List.getD_cons_zero,VN]
   have h2:((fun j=>er ((d :: ds).getD j D.aZ) ((e :: es).getD j D.aZ))∘Nat.succ)=fun j=>er (ds.getD j D.aZ) (es.getD j D.aZ):=by
    funext j;simp
   rw [h2]
   have h3:(ds.length+1 == es.length+1)=(ds.length == es.length):=by
    rw [V0];simp
   rw [h3,YE]
theorem xR:∀ (n:Nat) (d:D),plain n d=true→er d d=true:=by
 intro n
 induction n with
 | zero=>intro d h;cases d <;> simp [plain] at h <;> simp [er]
 | succ n ih=>
   intro d h
   cases d with
   | tup ds=>
     have h:ds.all (plain n)=true:=by simpa [plain] using h
     rw [jm]
     have:∀ (es:List D),es.all (plain n)=true→cG es es=true:=by
      intro es
      induction es with
      | nil=>intro _;exact jX
      | cons e es RS=>
        intro h
        rw [Xl,Wc] at h
        rw [i9,ih e h.1,RS h.2];rfl
     exact this ds h
   | _=>first | (simp [plain] at h;done) | (simp [er];done)
section
variable {K:PySem.W.Frag} {H:Hp}
theorem Dat.inj:∀ (n:Nat) (d e:D) (v:V),plain n d=true→plain n e=true→Dat K H d v→Dat K H e v→d=e:=by
 intro n
 induction n with
 | zero=>
   intro d e v pd pe hd he
   cases d <;> simp [plain] at pd <;> cases e <;> simp [plain] at pe <;> simp only [Dat] at hd he <;> subst hd <;> first | rfl | (injection he with z;rw [z]) | cases he
 | succ n ih=>
   intro d e v pd pe hd he
   have lists:∀ (ds es:List D) (xs:List V),ds.all (plain n)=true→es.all (plain n)=true→aC K H ds xs→aC K H es xs→ds=es:=by
    intro ds
    induction ds with
    | nil=>
      intro es xs _ _ h1 h2
      rw [aH.mp h1] at h2
      cases es with
      | nil=>rfl
      | cons e es=>obtain ⟨_,_,z,_⟩:=aA.mp h2;cases z
    | cons d ds RT=>
      intro es xs p1 p2 h1 h2
      obtain ⟨v,vs,rfl,g1,g2⟩:=aA.mp h1
      cases es with
      | nil=>cases aH.mp h2
      | cons e es=>
        obtain ⟨v',vs',z,g3,g4⟩:=aA.mp h2
        injection z with z1 z2
        subst z1;subst z2
        rw [Xl,Wc] at p1 p2
        rw [ih d e v p1.1 p2.1 g1 g3,RT es vs p1.2 p2.2 g2 g4]
   cases d with
   | tup ds=>
     obtain ⟨a,xs,rfl,ha,hx⟩:=aR.mp hd
     cases e with
     | tup es=>
       obtain ⟨b,ys,z,hb,hy⟩:=aR.mp he
       injection z with z
       subst z
       rw [ha] at hb
       injection hb with hb
       injection hb with hb
       subst hb
       rw [lists ds es xs (by simpa [plain] using pd) (by simpa [plain] using pe) hx hy]
     | _=>first | (simp [plain] at pe;done) | (simp only [Dat] at he;cases he)
   | _=>first
     | (simp [plain] at pd;done)
     | (cases e <;> first
      | (simp [plain] at pe;done)
      | (obtain ⟨b,ys,z,hb,hy⟩:=aR.mp he;simp only [Dat] at hd;subst hd;cases z;done)
      | (simp only [Dat] at hd he;subst hd;first | rfl | (injection he with z;rw [z]) | cases he))
end
theorem qE {α:Type} {p:α→Bool} {xs:List α} (h:xs.all p=true) {i:Nat} {x:α} (e:xs[i]?=some x):p x=true:=(V8.mp h) x (Vy e)
section
variable {X:Cx} {pins:List (Addr ×Obj)} {σ:St} {H:Hp} {s:Shared}
theorem dN {P:Program} {w:World} {h:Heap} {a:Addr} {xs:List V} (ok:jk P w H h) (e:H a=some (.tup xs)):∃ its:List Value,Vals xs its∧IsTup h a its.toArray∧xs.length≤sizeLine:=by
 obtain ⟨z,its,r,p⟩:=(show cF P w H h a (.tup xs) from ok a _ e)
 exact ⟨its,r,p,z⟩
theorem Dp {P:Program} {w:World} (ok:jk P w H s.heap) {K:PySem.W.Frag}:∀ (n:Nat) (A:Around) (d e:D) (x y:V) (u v:Value),A.units+n < cLine→plain n d=true→plain n e=true→Dat K H d x→Dat K H e y→RelV x u→RelV y v→SeqAt.EqAt A s u v (er d e):=by
 intro n
 induction n with
 | zero=>
   intro A d e x y u v hu pd pe dx dy rx ry
   cases d with
   | tup ds=>simp [plain] at pd
   | ty _=>simp [plain] at pd
   | ref _=>simp [plain] at pd
   | zx _=>simp [plain] at pd
   | HH _=>simp [plain] at pd
   | exc _ _ _=>simp [plain] at pd
   | aZ=>
     obtain rfl:=cz.mp dx
     cases rx
     cases e with
     | aZ=>obtain rfl:=cz.mp dy;cases ry;simpa [er] using SeqAt.EqAt.same (A:=A) (s:=s) Value.none
     | bl b=>obtain rfl:=aV.mp dy;cases ry;simpa [er] using SeqAt.EqAt.none_bool (A:=A) (s:=s) b
     | int b=>obtain rfl:=aP.mp dy;obtain ⟨t,rfl⟩:=ry;simpa [er] using SeqAt.EqAt.none_int (A:=A) (s:=s) b t
     | str b=>obtain rfl:=gm.mp dy;obtain ⟨t,rfl⟩:=ry;simpa [er] using SeqAt.EqAt.none_str (A:=A) (s:=s) b t
     | _=>simp [plain] at pe
   | bl a=>
     obtain rfl:=aV.mp dx
     cases rx
     cases e with
     | aZ=>obtain rfl:=cz.mp dy;cases ry;simpa [er] using SeqAt.EqAt.bool_none (A:=A) (s:=s) a
     | bl b=>obtain rfl:=aV.mp dy;cases ry;simpa [er] using SeqAt.EqAt.bool_bool (A:=A) (s:=s) a b
     | int b=>obtain rfl:=aP.mp dy;obtain ⟨t,rfl⟩:=ry;simpa [er] using SeqAt.EqAt.bool_int (A:=A) (s:=s) a b t
     | str b=>obtain rfl:=gm.mp dy;obtain ⟨t,rfl⟩:=ry;simpa [er] using SeqAt.EqAt.bool_str (A:=A) (s:=s) a b t
     | _=>simp [plain] at pe
   | int a=>
     obtain rfl:=aP.mp dx
     obtain ⟨t',rfl⟩:=rx
     cases e with
     | aZ=>obtain rfl:=cz.mp dy;cases ry;simpa [er] using SeqAt.EqAt.int_none (A:=A) (s:=s) a t'
     | bl b=>obtain rfl:=aV.mp dy;cases ry;simpa [er] using SeqAt.EqAt.int_bool (A:=A) (s:=s) a t' b
     | int b=>obtain rfl:=aP.mp dy;obtain ⟨t,rfl⟩:=ry;simpa [er] using SeqAt.EqAt.int_int (A:=A) (s:=s) a t' b t
     | str b=>obtain rfl:=gm.mp dy;obtain ⟨t,rfl⟩:=ry;simpa [er] using SeqAt.EqAt.int_str (A:=A) (s:=s) a t' b t
     | _=>simp [plain] at pe
   | str a=>
     obtain rfl:=gm.mp dx
     obtain ⟨t',rfl⟩:=rx
     cases e with
     | aZ=>obtain rfl:=cz.mp dy;cases ry;simpa [er] using SeqAt.EqAt.str_none (A:=A) (s:=s) a t'
     | bl b=>obtain rfl:=aV.mp dy;cases ry;simpa [er] using SeqAt.EqAt.str_bool (A:=A) (s:=s) a t' b
     | int b=>obtain rfl:=aP.mp dy;obtain ⟨t,rfl⟩:=ry;simpa [er] using SeqAt.EqAt.str_int (A:=A) (s:=s) a t' b t
     | str b=>obtain rfl:=gm.mp dy;obtain ⟨t,rfl⟩:=ry;simpa [er] using SeqAt.EqAt.str_str (A:=A) (s:=s) a t' b t
     | _=>simp [plain] at pe
 | succ n ih=>
   intro A d e x y u v hu pd pe dx dy rx ry
   have flat:∀ (z:D),plain (n+1) z=true→(∀ zs,z≠ .tup zs)→plain n z=true:=by
    intro z pz nz
    cases z with
    | tup zs=>exact absurd rfl (nz zs)
    | _=>first | (simp [plain];done) | (simp [plain] at pz;done)
   have hun:A.units < cLine:=by omega
   cases d with
   | tup ds=>
     obtain ⟨a,xs,rfl,ha,hx⟩:=aR.mp dx
     obtain rfl:u=Value.ref a:=rx
     obtain ⟨its,rv,pt,hz⟩:=dN ok ha
     cases e with
     | tup es=>
       obtain ⟨b,ys,rfl,hb,hy⟩:=aR.mp dy
       obtain rfl:v=Value.ref b:=ry
       obtain ⟨its2,m8,CO,hz2⟩:=dN ok hb
       by_cases hab:a=b
       ·subst hab
        have:=Dat.inj (K:=K) (H:=H) (n+1) _ _ _ pd pe dx dy
        rw [← this,xR (n+1) _ pd]
        exact SeqAt.EqAt.same _
       ·refine SeqAt.EqAt.of_refs hab ?_
        have hl1:=hx.length.trans rv.length
        have hl2:=hy.length.trans m8.length
        have key:=SeqAt.RcAt.tuples (A:=A) (s:=s) (e:=fun j=>er (ds.getD j .aZ) (es.getD j .aZ)) pt CO hun (fun j h1 h2=>?_)
        ·rw [jm,eK]
         simp only [Vo,← hl1,← hl2] at key
         exact key
        ·simp only [Vo] at h1 h2
         have e1:ds[j]?=some (ds.getD j .aZ):=by rw [VX,Vn (by omega)];rfl
         have e2:es[j]?=some (es.getD j .aZ):=by rw [VX,Vn (by omega)];rfl
         obtain ⟨x1,g1,g2⟩:=hx.get e1
         obtain ⟨y1,g3,g4⟩:=hy.get e2
         obtain ⟨u1,g5,g6⟩:=rv.get g1
         obtain ⟨v1,g7,g8⟩:=m8.get g3
         have q1:its.toArray[j]=u1:=by
          have:its[j]=u1:=Option.some.inj ((Vn (by omega)).symm.trans g5)
          simpa using this
         have q2:its2.toArray[j]=v1:=by
          have:its2[j]=v1:=Option.some.inj ((Vn (by omega)).symm.trans g7)
          simpa using this
         rw [q1,q2]
         have RU:ds.all (plain n)=true:=by simpa [plain] using pd
         have RV:es.all (plain n)=true:=by simpa [plain] using pe
         exact ih A.in1 _ _ x1 y1 u1 v1 (by show A.units+1+n < cLine;omega) (qE RU e1) (qE RV e2) g2 g4 g6 g8
     | aZ=>obtain rfl:=cz.mp dy;cases ry;simpa [er] using SeqAt.EqAt.tuple_none (A:=A) (s:=s) pt hun
     | bl b=>obtain rfl:=aV.mp dy;cases ry;simpa [er] using SeqAt.EqAt.tuple_bool (A:=A) (s:=s) b pt hun
     | int b=>obtain rfl:=aP.mp dy;obtain ⟨t,rfl⟩:=ry;simpa [er] using SeqAt.EqAt.tuple_int (A:=A) (s:=s) b t pt hun
     | str b=>obtain rfl:=gm.mp dy;obtain ⟨t,rfl⟩:=ry;simpa [er] using SeqAt.EqAt.tuple_str (A:=A) (s:=s) b t pt hun
     | _=>simp [plain] at pe
   | _=>
     first
     | (simp [plain] at pd;done)
     | (cases e with
      | tup es=>
        obtain ⟨b,ys,rfl,hb,hy⟩:=aR.mp dy
        obtain rfl:v=Value.ref b:=ry
        obtain ⟨its2,m8,CO,hz2⟩:=dN ok hb
        first
        | (obtain rfl:=cz.mp dx;cases rx;simpa [er] using SeqAt.EqAt.none_tuple (A:=A) (s:=s) CO hun)
        | (obtain rfl:=aV.mp dx;cases rx;simpa [er] using SeqAt.EqAt.bool_tuple (A:=A) (s:=s) _ CO hun)
        | (obtain rfl:=aP.mp dx;obtain ⟨t,rfl⟩:=rx;simpa [er] using SeqAt.EqAt.int_tuple (A:=A) (s:=s) _ t CO hun)
        | (obtain rfl:=gm.mp dx;obtain ⟨t,rfl⟩:=rx;simpa [er] using SeqAt.EqAt.str_tuple (A:=A) (s:=s) _ t CO hun)
      | _=>
        first
        | (simp [plain] at pe;done)
        | exact ih A _ _ x y u v (by omega) (flat _ pd (fun _ z=>by cases z)) (flat _ pe (fun _ z=>by cases z)) dx dy rx ry)
def Dq:D→D→Bool
 | .aZ,.aZ=>true | .aZ,.int _=>true | .int _,.aZ=>true | .aZ,.bl _=>true | .bl _,.aZ=>true | .aZ,.str _=>true | .str _,.aZ=>true
 | .int _,.int _=>true | .bl _,.bl _=>true | .str _,.str _=>true
 | _,_=>false
def Ga (d e:D):Bool:=match d,e with
 | .tup ds,.tup es=>plain 10 (.tup ds) && plain 10 (.tup es)
 | d,e=>Dq d e
def OS:R3:=fun d e M Q=>Ga d e=true∧Q (.bl (er d e)) M
def OT:R3:=fun d e M Q=>Ga d e=true∧Q (.bl (!er d e)) M
theorem Dr {K:PySem.W.Frag} {d e:D} {x y:V} (h:Dq d e=true) (dx:Dat K H d x) (dy:Dat K H e y):IV x y=true∧decide (x=y)=er d e:=by
 cases d <;> cases e <;> first
  | (simp [Dq] at h;done)
  | (simp only [Dat] at dx dy;subst dx;subst dy;refine ⟨rfl,?_⟩;rw [V0];simp [er])
theorem ja {P:Program} {w:World} (ok:jk P w H s.heap) {K:PySem.W.Frag} {A:Around} {ds es:List D} {xs ys:List V} {its its2:List Value} {n:Nat} (hu:A.units+n < cLine) (pd:ds.all (plain n)=true) (pe:es.all (plain n)=true) (hx:aC K H ds xs) (hy:aC K H es ys) (rv:Vals xs its) (m8:Vals ys its2) :
 ∀ j (h1:j < its.toArray.size) (h2:j < its2.toArray.size),SeqAt.EqAt A s its.toArray[j] its2.toArray[j] (er (ds.getD j .aZ) (es.getD j .aZ)):=by
 intro j h1 h2
 have hl1:=hx.length.trans rv.length
 have hl2:=hy.length.trans m8.length
 simp only [Vo] at h1 h2
 have e1:ds[j]?=some (ds.getD j .aZ):=by rw [VX,Vn (by omega)];rfl
 have e2:es[j]?=some (es.getD j .aZ):=by rw [VX,Vn (by omega)];rfl
 obtain ⟨x1,g1,g2⟩:=hx.get e1
 obtain ⟨y1,g3,g4⟩:=hy.get e2
 obtain ⟨u1,g5,g6⟩:=rv.get g1
 obtain ⟨v1,g7,g8⟩:=m8.get g3
 have q1:its.toArray[j]=u1:=by
  have:its[j]=u1:=Option.some.inj ((Vn (by omega)).symm.trans g5)
  simpa using this
 have q2:its2.toArray[j]=v1:=by
  have:its2[j]=v1:=Option.some.inj ((Vn (by omega)).symm.trans g7)
  simpa using this
 rw [q1,q2]
 exact Dp ok n A _ _ x1 y1 u1 v1 hu (qE pd e1) (qE pe e2) g2 g4 g6 g8
theorem tS (hu:X.A.units+64 < cLine):lK X (compareOp .Eq) OS:=by
 constructor
 intro pins s σ H M x y d e v u Q I rm rx ry dx dy ⟨hk,q⟩
 by_cases ht:∃ ds es,d= .tup ds∧e= .tup es
 ·obtain ⟨ds,es,rfl,rfl⟩:=ht
  have hk:(plain 10 (.tup ds) && plain 10 (.tup es))=true:=hk
  rw [Wc] at hk
  obtain ⟨a,xs,rfl,ha,hx⟩:=aR.mp dx
  obtain ⟨b,ys,rfl,hb,hy⟩:=aR.mp dy
  obtain rfl:v=Value.ref a:=rx
  obtain rfl:u=Value.ref b:=ry
  obtain ⟨its,rv,pt,hz⟩:=dN I.hok ha
  obtain ⟨its2,m8,CO,hz2⟩:=dN I.hok hb
  have hl1:=hx.length.trans rv.length
  have hl2:=hy.length.trans m8.length
  refine SeqAt.RcAt.tuples (A:=X.A) (s:=s) (e:=fun j=>er (ds.getD j .aZ) (es.getD j .aZ)) pt CO (by omega) (ja I.hok (n:=9) (by show X.A.units+1+9 < cLine;omega) (by simpa [plain] using hk.1) (by simpa [plain] using hk.2) hx hy rv m8) _ _ _ _ ?_
  refine ⟨.bl _,H,I,rfl,aD rm (aV.mpr rfl) ?_⟩
  simp only [Vo,← hl1,← hl2]
  rw [jm,eK] at q
  exact q
 ·have hs:Dq d e=true:=by
   unfold Ga at hk
   split at hk
   ·exact absurd ⟨_,_,rfl,rfl⟩ ht
   ·exact hk
  obtain ⟨h1,h2⟩:=Dr hs dx dy
  exact Lb pins s σ H x y v u _ I rx ry ⟨h1,by rw [h2];exact aD rm (aV.mpr rfl) q⟩
theorem BS (hu:X.A.units+64 < cLine):lK X (compareOp .NotEq) OT:=by
 constructor
 intro pins s σ H M x y d e v u Q I rm rx ry dx dy ⟨hk,q⟩
 by_cases ht:∃ ds es,d= .tup ds∧e= .tup es
 ·obtain ⟨ds,es,rfl,rfl⟩:=ht
  have hk:(plain 10 (.tup ds) && plain 10 (.tup es))=true:=hk
  rw [Wc] at hk
  obtain ⟨a,xs,rfl,ha,hx⟩:=aR.mp dx
  obtain ⟨b,ys,rfl,hb,hy⟩:=aR.mp dy
  obtain rfl:v=Value.ref a:=rx
  obtain rfl:u=Value.ref b:=ry
  obtain ⟨its,rv,pt,hz⟩:=dN I.hok ha
  obtain ⟨its2,m8,CO,hz2⟩:=dN I.hok hb
  have hl1:=hx.length.trans rv.length
  have hl2:=hy.length.trans m8.length
  refine SeqAt.RcNeAt.tuples (A:=X.A) (s:=s) (e:=fun j=>er (ds.getD j .aZ) (es.getD j .aZ)) pt CO (by omega) (ja I.hok (n:=9) (by show X.A.units+1+9 < cLine;omega) (by simpa [plain] using hk.1) (by simpa [plain] using hk.2) hx hy rv m8) _ _ _ _ ?_
  refine ⟨.bl _,H,I,rfl,aD rm (aV.mpr rfl) ?_⟩
  simp only [Vo,← hl1,← hl2]
  rw [jm,eK] at q
  exact q
 ·have hs:Dq d e=true:=by
   unfold Ga at hk
   split at hk
   ·exact absurd ⟨_,_,rfl,rfl⟩ ht
   ·exact hk
  obtain ⟨h1,h2⟩:=Dr hs dx dy
  exact Lc pins s σ H x y v u _ I rx ry ⟨h1,by rw [h2];exact aD rm (aV.mpr rfl) q⟩
noncomputable def Nv (K:PySem.W.Frag) (H:Hp) (v:V):D:=open Classical in if h:∃ d,plain 9 d=true∧Dat K H d v then h.choose else .aZ
theorem Jj {K:PySem.W.Frag} {d:D} {v:V} (p:plain 9 d=true) (h:Dat K H d v):Nv K H v=d:=by
 have hx:∃ d,plain 9 d=true∧Dat K H d v:=⟨d,p,h⟩
 unfold Nv
 rw [dif_pos hx]
 exact Dat.inj 9 _ _ v hx.choose_spec.1 p hx.choose_spec.2 h
noncomputable def za (K:PySem.W.Frag) (H:Hp) (d:D) (u:Value):Bool:=match K1 u with
 | some v=>er (Nv K H v) d
 | none=>false
theorem Ds {K:PySem.W.Frag} {d e:D} {v:V} {u:Value} (p:plain 9 e=true) (h:Dat K H e v) (r:RelV v u):za K H d u=er e d:=by
 unfold za
 rw [r.abs]
 show er (Nv K H v) d=_
 rw [Jj p h]
theorem m9 {K:PySem.W.Frag} {d:D}:∀ {es:List D} {xs:List V} {us:List Value},aC K H es xs→Vals xs us→es.all (plain 9)=true→us.any (za K H d)=es.any fun e=>er e d
 | [],xs,us,h,r,_=>by rw [aH.mp h] at r;cases r;rfl
 | e :: es,xs,us,h,r,p=>by
   obtain ⟨v,vs,rfl,h1,h2⟩:=aA.mp h
   cases r with
   | cons r rr=>
     rw [Xl,Wc] at p
     rw [W8,W8,Ds p.1 h1 r,m9 h2 rr p.2]
theorem ng {P:Program} {w:World} (ok:jk P w H s.heap) {K:PySem.W.Frag} {A:Around} {d:D} {x:V} {v:Value} (hu:A.units+9 < cLine) (pd:plain 9 d=true) (dx:Dat K H d x) (rx:RelV x v) :
 ∀ {es:List D} {xs:List V} {us:List Value},aC K H es xs→Vals xs us→es.all (plain 9)=true→∀ u∈us,SeqAt.EqAt A s u v (za K H d u)
 | [],xs,us,h,r,_,u,hm=>by rw [aH.mp h] at r;cases r;cases hm
 | e :: es,xs,us,h,r,p,u,hm=>by
   obtain ⟨y,ys,rfl,h1,h2⟩:=aA.mp h
   cases r with
   | cons r rr=>
     rw [Xl,Wc] at p
     rcases Vl.mp hm with rfl | hm
     ·rw [Ds p.1 h1 r]
      exact Dp ok 9 A _ _ _ _ _ _ hu p.1 pd h1 dx r rx
     ·exact ng ok hu pd dx rx h2 rr p.2 u hm
def inD (d:D) (es:List D):Bool:=es.any fun e=>er e d
def LD (M:Mp) (e:D) (es:List D):Prop:=e= .tup es∨∃ a,e= .ref a∧M a=some (.lst es)
def LF (neg:Bool):R3:=fun d e M Q=> ∃ es,LD M e es∧plain 9 d=true∧es.all (plain 9)=true∧Q (.bl (if neg then !inD d es else inD d es)) M
theorem zB (hu:X.A.units+64 < cLine):lK X (compareOp .In) (LF false):=by
 constructor
 intro pins s σ H M x y d e v u Q I rm rx ry dx dy ⟨es,hs,pd,pe,q⟩
 rcases hs with rfl | ⟨a,rfl,hM⟩
 ·obtain ⟨b,ys,rfl,hb,hy⟩:=aR.mp dy
  obtain rfl:u=Value.ref b:=ry
  obtain ⟨its,rv,pt,hz⟩:=dN I.hok hb
  refine SeqAt.in_tupleAt (za X.K H d) pt (fun w hw=>ng I.hok (by show X.A.units+1+9 < cLine;omega) pd dx rx hy rv pe w (by simpa using hw)) ⟨.bl _,H,I,rfl,aD rm (aV.mpr rfl) ?_⟩
  rw [show its.toArray.any (za X.K H d)=its.any (za X.K H d) by simp,m9 hy rv pe]
  exact q
 ·obtain rfl:=aF.mp dy
  obtain rfl:u=Value.ref a:=ry
  obtain ⟨ys,hb,hy⟩:=rm.lst hM
  obtain ⟨its,rv,pl,hz⟩:=I.list (iI.of hb)
  refine SeqAt.in_listAt (za X.K H d) pl.isList (fun w hw=>ng I.hok (by show X.A.units+1+9 < cLine;omega) pd dx rx hy rv pe w (by simpa using hw)) ⟨.bl _,H,I,rfl,aD rm (aV.mpr rfl) ?_⟩
  rw [show its.toArray.any (za X.K H d)=its.any (za X.K H d) by simp,m9 hy rv pe]
  exact q
theorem nh (hu:X.A.units+64 < cLine):lK X (compareOp .NotIn) (LF true):=by
 constructor
 intro pins s σ H M x y d e v u Q I rm rx ry dx dy ⟨es,hs,pd,pe,q⟩
 rcases hs with rfl | ⟨a,rfl,hM⟩
 ·obtain ⟨b,ys,rfl,hb,hy⟩:=aR.mp dy
  obtain rfl:u=Value.ref b:=ry
  obtain ⟨its,rv,pt,hz⟩:=dN I.hok hb
  refine SeqAt.notIn_tupleAt (za X.K H d) pt (fun w hw=>ng I.hok (by show X.A.units+1+9 < cLine;omega) pd dx rx hy rv pe w (by simpa using hw)) ⟨.bl _,H,I,rfl,aD rm (aV.mpr rfl) ?_⟩
  rw [show its.toArray.any (za X.K H d)=its.any (za X.K H d) by simp,m9 hy rv pe]
  exact q
 ·obtain rfl:=aF.mp dy
  obtain rfl:u=Value.ref a:=ry
  obtain ⟨ys,hb,hy⟩:=rm.lst hM
  obtain ⟨its,rv,pl,hz⟩:=I.list (iI.of hb)
  refine SeqAt.notIn_listAt (za X.K H d) pl.isList (fun w hw=>ng I.hok (by show X.A.units+1+9 < cLine;omega) pd dx rx hy rv pe w (by simpa using hw)) ⟨.bl _,H,I,rfl,aD rm (aV.mpr rfl) ?_⟩
  rw [show its.toArray.any (za X.K H d)=its.any (za X.K H d) by simp,m9 hy rv pe]
  exact q
theorem oV {K:PySem.W.Frag}:∀ {ns:List Int} {xs:List V},aC K H (ns.map D.int) xs→xs=ns.map V.int
 | [],xs,h=>aH.mp h
 | n :: ns,xs,h=>by
   obtain ⟨v,vs,rfl,h1,h2⟩:=aA.mp h
   rw [aP.mp h1,oV h2];rfl
def Ll:R3:=fun d e M Q=> ∃ ns ms:List Int,d= .tup (ns.map D.int)∧e= .tup (ms.map D.int)∧Q (.bl (HT.lexLt ns ms)) M
theorem LG (hu:X.A.units+64 < cLine):lK X (compareOp .Lt) Ll:=by
 constructor
 intro pins s σ H M x y d e v u Q I rm rx ry dx dy ⟨ns,ms,e1,e2,q⟩
 subst e1;subst e2
 obtain ⟨a,xs,rfl,ha,hx⟩:=aR.mp dx
 obtain ⟨b,ys,rfl,hb,hy⟩:=aR.mp dy
 obtain rfl:v=Value.ref a:=rx
 obtain rfl:u=Value.ref b:=ry
 obtain ⟨its,rv,pt,hz⟩:=dN I.hok ha
 obtain ⟨its2,m8,CO,hz2⟩:=dN I.hok hb
 rw [oV hx] at rv
 rw [oV hy] at m8
 exact HT.mh pt CO (by simpa using intsAre_of rv) (by simpa using intsAre_of m8) (by omega) ⟨.bl _,H,I,rfl,aD rm (aV.mpr rfl) q⟩
end
end L3
namespace L3
open PySem PySem.Spec PyProof.Rows L2
section
variable {X:Cx} {a b c e:Expr} {es:List Expr} {ta tb tc te:cP} {t:tN} {pos p:Pos}
def LH:tN:=fun _ M Q=>Q [] M
def Jk (ta:cP) (tr:tN):tN:=fun ρ M Q=>ta ρ M fun x M1=>tr ρ M1 fun xs M2=>Q (x :: xs) M2
theorem ak:zA X [] LH:=⟨fun pos pins s σ H ρ M Q I r h=>l8 pos pins s σ H _ I ⟨[],M,.refl _ _,aH.mpr rfl,r.mem,h⟩⟩
theorem af (ha:cg X e te) (hr:zA X es t) (hs:starEach (e :: es) X.env=(false,eval e X.env) :: starEach es X.env:=by rfl):zA X (e :: es) (Jk te t):=⟨fun pos pins s σ H ρ M Q I r h=>
 jl ha.dn hr.dn hs pos pins s σ H _ I (dU r h fun v H' d M' f dv r' q=>jW r' q fun vs H2 ds M2 f2 CM r2 q2=>
  ⟨d :: ds,M2,f.trans f2,aA.mpr ⟨v,vs,rfl,Dat.mono (f2.ext r'.mem) _ _ dv,CM⟩,r2.mem,q2⟩)⟩
def LI (t:tN):cP:=fun ρ M Q=>t ρ M fun xs M1=>xs.length≤sizeLine∧Q (.tup xs) M1
def LJ (t:tN):cP:=fun ρ M Q=>t ρ M fun xs M1=>xs.length≤sizeLine∧∀ p,M1 p=none→Q (.ref p) (ay M1 p (.lst xs))
theorem cQ {x1} (h:zA X es t):cg X (.Tuple es x1 pos) (LI t):=up (IY h.dn) fun σ H ρ M Q r q=>jW r q fun vs H' ds M' f dv r' ⟨hl,q⟩=>
 ⟨by rw [← dv.length];exact hl,fun p hp=>⟨.tup ds,M',f.trans (Fr.new hp fun _ _=>rfl),aR.mpr ⟨p,vs,rfl,bN,aC.mono (Ext.new hp) _ _ dv⟩,r'.mem.new hp,q⟩⟩
theorem dc (h:zA X es t):cg X (.List es pos) (LJ t):=up (zq h.dn) fun σ H ρ M Q r q=>jW r q fun vs H' ds M' f dv r' ⟨hl,q⟩=>
 ⟨by rw [← dv.length];exact hl,fun p hp=>⟨.ref p,ay M' p (.lst ds),f.trans (Fr.new hp fun _ hb=>aE hb),aF.mpr rfl,r'.mem.newL hp dv,q p (r'.mem.free hp)⟩⟩
def LK (M:Mp) (e:D) (es:List D):Prop:=e= .tup es∨e= .zx es∨∃ a,e= .ref a∧M a=some (.lst es)
def OU:R3:=fun d e M Q=> ∃ xs i z,LK M d xs∧e= .int i∧uw xs i=some z∧Q z M
theorem Jl {α β:Type} {xs:List α} {ys:List β} (h:xs.length=ys.length) {i:Int} {z:α} (e:uw xs i=some z):∃ j,CN ys.length i=some j∧xs[j]?=some z:=by
 unfold uw at e
 rw [h] at e
 cases q:CN ys.length i with
 | none=>rw [q] at e;cases e
 | some j=>rw [q] at e;exact ⟨j,rfl,e⟩
theorem qX {K:PySem.W.Frag} {H:Hp} {ds:List D} {xs:List V} (h:aC K H ds xs) {i:Int} {z:D} (e:uw ds i=some z):∃ v,uw xs i=some v∧Dat K H z v:=by
 obtain ⟨j,h1,h2⟩:=Jl h.length e
 obtain ⟨v,h3,h4⟩:=h.get h2
 refine ⟨v,?_,h4⟩
 unfold uw
 rw [h1]
 exact h3
theorem aT (ha:cg X a ta) (hb:cg X b tb) (hs:AS b:=by intro _ _;rfl):cg X (.Subscript a b pos) (FZ OU ta tb):=up (Lm (FQ.or Jb) ha.dn hb.dn hs) fun σ H ρ M Q r q=>
 dU r q fun v H' d M' f dv r' q=>dU r' q fun u H2 e M2 f2 du r2 ⟨xs,i,z,hq,ei,at',q⟩=>by
  subst ei
  obtain rfl:=aP.mp du
  have LL:=Dat.mono (f2.ext r'.mem) _ _ dv
  have fin:∀ w,Dat X.K H2 z w→Post X.K M H Q w H2:=fun w dw=>⟨z,M2,f.trans f2,dw,r2.mem,q⟩
  rcases hq with rfl | rfl | ⟨l,rfl,hl⟩
  ·obtain ⟨p,ys,rfl,hp,hy⟩:=aR.mp LL
   obtain ⟨w,h1,h2⟩:=qX hy at'
   exact .inr ⟨p,ys,i,w,rfl,rfl,qC.of hp,h1,fin w h2⟩
  ·obtain ⟨p,ys,rfl,hp,hy⟩:=m6.mp LL
   obtain ⟨w,h1,h2⟩:=qX hy at'
   exact .inl ⟨p,ys,i,w,rfl,rfl,hp.sq,h1,fin w h2⟩
  ·obtain rfl:=aF.mp LL
   obtain ⟨ys,hp,hy⟩:=r2.mem.lst hl
   obtain ⟨w,h1,h2⟩:=qX hy at'
   exact .inl ⟨l,ys,i,w,rfl,rfl,iI.of hp,h1,fin w h2⟩
structure Call3 (X:Cx) (f:Value) (t:List D→Mp→DK→Prop):Prop where
 run:∀ (pins:List (Addr ×Obj)) (s:Shared) (σ:St) (H:Hp) (M:Mp) (xs:List V) (ds:List D) (us:List Value) (Q:DK),Inv X pins σ H s→bE X.K H M→Vals xs us→aC X.K H ds xs→t ds M Q→
  wpAny (model X.prog X.w) X.A (call f us) (EP X pins σ (Post X.K M H Q)) X.xe s
theorem HL {f:Value} {r:List V→Hp→VK→Prop} {t:List D→Mp→DK→Prop} (h:C8 X f r) (g:∀ H M xs ds Q,bE X.K H M→aC X.K H ds xs→t ds M Q→r xs H (Post X.K M H Q)):Call3 X f t:=
 ⟨fun pins s σ H M xs ds us Q I rm rs dx q=>h pins s σ H xs us _ I rs (g H M xs ds Q rm dx q)⟩
def LM (r:List D→Mp→DK→Prop) (t:tN):cP:=fun ρ M Q=>t ρ M fun ds M1=>r ds M1 Q
variable {x:Str} {id T:String} {r:List D→Mp→DK→Prop}
theorem cj (hc:Call3 X (.builtin id) r) (hg:Gl X x) (hm:X.mg x=none) (hv:bootBuiltins x=some (.builtin id)) (ha:zA X (e :: es) t) (hn:x≠"__name__" :=by decide) (hdb:(x == ("__debug__" :Str))=false:=by decide)
 (he:starEach (e :: es) X.env=(false,eval e X.env) :: starEach es X.env:=by rfl) (hpl:(backTo pos (starEach es X.env)).any (·.1)=false:=by rfl):cg X (.Call (.Name x p) (e :: es) [] pos) (LM r t):=by
 constructor
 intro pins s σ H ρ M Q I r h
 refine wpAny_Call_Name_kw (jT I hg hm hv ?_ hn hdb)
 refine PyProof.Rows.callWith_builtin1 (cM (ha.run pos pins s σ H ρ M _ I r h) fun us s1 ⟨vs,H1,I1,r1,ds,M1,f1,d1,oM,q1⟩=>?_) he hpl
 exact cM (hc.run pins s1 σ H1 M1 vs ds us Q I1 oM r1 d1 q1) fun _ _ ⟨z,H3,I3,r3,p⟩=>⟨z,H3,I3,r3,p.back f1⟩
theorem LN (hc:Call3 X (.type T) r) (hg:Gl X x) (hm:X.mg x=none) (hv:bootBuiltins x=some (.type T)) (ha:zA X (e :: es) t) (hn:x≠"__name__" :=by decide) (hdb:(x == ("__debug__" :Str))=false:=by decide)
 (he:starEach (e :: es) X.env=(false,eval e X.env) :: starEach es X.env:=by rfl) (hpl:(backTo pos (starEach es X.env)).any (·.1)=false:=by rfl):cg X (.Call (.Name x p) (e :: es) [] pos) (LM r t):=by
 constructor
 intro pins s σ H ρ M Q I r h
 refine wpAny_Call_Name_kw (jT I hg hm hv ?_ hn hdb)
 refine PyProof.Rows.callWith_type1 (cM (ha.run pos pins s σ H ρ M _ I r h) fun us s1 ⟨vs,H1,I1,r1,ds,M1,f1,d1,oM,q1⟩=>?_) he hpl
 exact cM (hc.run pins s1 σ H1 M1 vs ds us Q I1 oM r1 d1 q1) fun _ _ ⟨z,H3,I3,r3,p⟩=>⟨z,H3,I3,r3,p.back f1⟩
theorem qY {K:PySem.W.Frag} {H:Hp} {d:D} {xs:List V} (h:aC K H [d] xs):∃ v,xs= [v]∧Dat K H d v:=by
 obtain ⟨v,vs,rfl,h1,h2⟩:=aA.mp h
 rw [aH.mp h2]
 exact ⟨v,rfl,h1⟩
theorem xS {K:PySem.W.Frag} {H:Hp} {d e:D} {xs:List V} (h:aC K H [d,e] xs):∃ v u,xs= [v,u]∧Dat K H d v∧Dat K H e u:=by
 obtain ⟨v,vs,rfl,h1,h2⟩:=aA.mp h
 obtain ⟨u,rfl,h3⟩:=qY h2
 exact ⟨v,u,rfl,h1,h3⟩
def OV:List D→Mp→DK→Prop:=fun ds M Q=> ∃ d xs,ds= [d]∧LK M d xs∧Q (.int xs.length) M
theorem jG:Call3 X (.builtin "len") OV:=HL vF fun H M xs ds Q rm dx ⟨d,ys,ei,hs,q⟩=>by
 subst ei
 obtain ⟨v,rfl,hv⟩:=qY dx
 rcases hs with rfl | rfl | ⟨l,rfl,hl⟩
 ·obtain ⟨p,zs,rfl,hp,hz⟩:=aR.mp hv
  exact ⟨p,zs,rfl,.inr (qC.of hp),aD rm (aP.mpr (by rw [hz.length])) q⟩
 ·obtain ⟨p,zs,rfl,hp,hz⟩:=m6.mp hv
  exact ⟨p,zs,rfl,.inl hp.sq,aD rm (aP.mpr (by rw [hz.length])) q⟩
 ·obtain rfl:=aF.mp hv
  obtain ⟨zs,hp,hz⟩:=rm.lst hl
  exact ⟨l,zs,rfl,.inl (iI.of hp),aD rm (aP.mpr (by rw [hz.length])) q⟩
inductive Dt (M:Mp):D→String→Prop where
 | aZ:Dt M .aZ "NoneType"
 | bl (b:Bool):Dt M (.bl b) "bool"
 | int (i:Int):Dt M (.int i) "int"
 | str (x:Str):Dt M (.str x) "str"
 | tup (ds:List D):Dt M (.tup ds) "tuple"
 | lst {a:Addr} {ds:List D} (h:M a=some (.lst ds)):Dt M (.ref a) "list"
 | dct:Dt M (.HH "dict") "dict"
def OW (K:PySem.W.Frag):List D→Mp→DK→Prop:=fun ds M Q=> ∃ d n m b,ds= [d,.ty m]∧Dt M d n∧PySem.W.kitOne K (.type n) (.type m)=some b∧Q (.bl b) M
theorem uD:Call3 X (.builtin "isinstance") (OW X.K):=by
 constructor
 intro pins s σ H M xs ds us Q I rm rs dx ⟨d,n,m,b,ei,ty,hk,q⟩
 subst ei
 obtain ⟨v,u,rfl,hv,hu⟩:=xS dx
 obtain rfl:=zy.mp hu
 obtain ⟨v',u',rfl,r1,r2⟩:=vals2 rs
 obtain rfl:u'=Value.type m:=r2
 have fin:∀ tk,EP X pins σ (Post X.K M H Q) (.bool b) { s with toks:=tk }:=fun tk=>⟨.bl b,H,I.tok tk,rfl,aD rm (aV.mpr rfl) q⟩
 cases ty with
 | aZ=>obtain rfl:=cz.mp hv;exact gA I r1 .aZ hk fin
 | bl k=>obtain rfl:=aV.mp hv;exact gA I r1 (.bl k) hk fin
 | int i=>obtain rfl:=aP.mp hv;exact gA I r1 (.int i) hk fin
 | str z=>obtain rfl:=gm.mp hv;exact gA I r1 (.str z) hk fin
 | tup zs=>
   obtain ⟨p,ys,rfl,hp,hy⟩:=aR.mp hv
   exact gA I r1 (.tup hp) hk fin
 | lst hM=>
   obtain rfl:=aF.mp hv
   obtain ⟨ys,hp,hy⟩:=rm.lst hM
   exact gA I r1 (.lst hp) hk fin
 | dct=>
   obtain ⟨p,o,u,rfl,hp,hc⟩:=AW.mp hv
   cases (show v'=Value.ref p from r1)
   obtain ⟨h1,_⟩:=(show cF X.prog X.w H s.heap p (.lF o u) from I.hok p _ hp)
   exact PySem.W.kia_one PySem.W.kitx_dict I.xq ⟨o,h1,hc⟩ hk (fun z=>nomatch z) fin
abbrev xu:=List D→(D→Prop)→Prop
def vL (K:PySem.W.Frag) (S:xu):Sp:=fun vs H Q _=> ∃ ds Q0,aC K H ds vs∧S ds Q0∧∀ d v H',Q0 d→Dat K H' d v→(∀ b o,H b=some o→H' b=some o)→Q v H'
abbrev uE:=List D→Mp→DK→Prop
def mZ (K:PySem.W.Frag) (S:uE):Sp:=fun vs H Q _=> ∃ ds M Q0,aC K H ds vs∧bE K H M∧S ds M Q0∧∀ d M' v H',Q0 d M'→Dat K H' d v→bE K H' M'→Fr M H M' H'→Q v H'
theorem ni {K:PySem.W.Frag} {H:Hp} {ds:List D} {vs:List V} (h:aC K H ds vs):aC K H ds (vs ++ []):=by simpa using h
theorem Ext.keep {H H':Hp} (h:∀ b o,H b=some o→H' b=some o):Ext H H':=⟨fun b _ e=>h b _ e,fun b _ _ e=>h b _ e⟩
theorem bE.keep {K:PySem.W.Frag} {H H':Hp} {M:Mp} (r:bE K H M) (h:∀ b o,H b=some o→H' b=some o):bE K H' M:=fun a o e=>(r a o e).mono (Ext.keep h) fun u q=>h _ _ q
variable {k:Nat} {f:Addr} {fd:FuncData} {ps:List Str}
def Jm (S:xu) (t:tN):cP:=fun ρ M Q=>t ρ M fun ds M1=>S ds fun d=>Q d M1
def Jo (S:uE) (t:tN):cP:=fun ρ M Q=>t ρ M fun ds M1=>S ds M1 Q
theorem aJ {S:xu} (F:bD X.prog X.w X.K X.mg X.base ff k f fd ps (vL X.K S)) (hr:iJ k X.A) (hg:Gl X x) (hm:X.mg x=some (.ref f)) (hk:PySem.W.keepIn X.K (.ref f)=true) (hb:Binds X.K fd ps [])
 (ha:zA X (e :: es) t) (hdb:(x == ("__debug__" :Str))=false:=by decide) (he:starEach (e :: es) X.env=(false,eval e X.env) :: starEach es X.env:=by rfl) (hpl:(backTo pos (starEach es X.env)).any (·.1)=false:=by rfl) :
 cg X (.Call (.Name x p) (e :: es) [] pos) (Jm S t):=
 up (AM (CM:=[]) (E:=E0) F hr hg hm hk hb .nil HG ha.dn hdb he hpl) fun σ H ρ M Q r q=>jW r q fun vs H' ds M' f dv r' q=>
  ⟨ds,_,ni dv,q,fun d v H2 q2 d2 kp=>⟨d,M',f.trans fun b o n e=>⟨kp b o e,n⟩,d2,r'.mem.keep kp,q2⟩⟩
theorem bz {S:uE} (F:bD X.prog X.w X.K X.mg X.base ff k f fd ps (mZ X.K S)) (hr:iJ k X.A) (hg:Gl X x) (hm:X.mg x=some (.ref f)) (hk:PySem.W.keepIn X.K (.ref f)=true) (hb:Binds X.K fd ps [])
 (ha:zA X (e :: es) t) (hdb:(x == ("__debug__" :Str))=false:=by decide) (he:starEach (e :: es) X.env=(false,eval e X.env) :: starEach es X.env:=by rfl) (hpl:(backTo pos (starEach es X.env)).any (·.1)=false:=by rfl) :
 cg X (.Call (.Name x p) (e :: es) [] pos) (Jo S t):=
 up (AM (CM:=[]) (E:=E0) F hr hg hm hk hb .nil HG ha.dn hdb he hpl) fun σ H ρ M Q r q=>jW r q fun vs H' ds M' f dv r' q=>
  ⟨ds,M',_,ni dv,r'.mem,q,fun d M2 v H2 q2 d2 Lu f2=>⟨d,M2,f.trans f2,d2,Lu,q2⟩⟩
end
section
variable {X:Cx} {st:Stmt} {rest:List Stmt} {t u:i6} {e:Expr} {te:cP} {pos:Pos}
def Jp:i6:=fun D ρ M=>D.nx ρ M
def LO (t u:i6):i6:=fun D ρ M=>t { D with nx:=u D } ρ M
theorem vJ.dn {st:Stmt} {t:i6} (h:vJ X st t):PS X st (Nr X.K t):=fun pins s σ H D' I ⟨ρ,M,D,r,q,k1,k2,k3,k4⟩=>
 cM (h.run pins s σ H ρ M D I r q) fun f s' z=>by
  cases f with
  | next=>obtain ⟨σ',H',I',p⟩:=z;exact ⟨σ',H',I',k1 _ _ p⟩
  | brk=>obtain ⟨σ',H',I',p⟩:=z;exact ⟨σ',H',I',k3 _ _ p⟩
  | cont=>obtain ⟨σ',H',I',p⟩:=z;exact ⟨σ',H',I',k4 _ _ p⟩
  | ret u=>obtain ⟨v,σ',H',I',rv,p⟩:=z;exact ⟨v,σ',H',I',rv,k2 _ _ p⟩
theorem Jq {sts:List Stmt} {te:TS} {t:i6} (h:zk X sts te) (g:∀ σ H ρ M D,Rep X.K H σ ρ M→t D ρ M→te (ends X.K M H D) σ H):i8 X sts t:=
 ⟨fun pins s σ H ρ M D I r q=>h pins s σ H _ I (g σ H ρ M D r q)⟩
theorem nj {K:PySem.W.Frag} {M0:Mp} {H0:Hp} {σ:St} {H:Hp} {ρ:En} {M:Mp} {D:HK} {t:i6} (f:Fr M0 H0 M H) (r:Rep K H σ ρ M) (q:t D ρ M):Nr K t (ends K M0 H0 D) σ H:=
 ⟨ρ,M,D,r,q,fun _ _ p=>p.back f,fun _ _ p=>p.back f,fun _ _ p=>p.back f,fun _ _ p=>p.back f⟩
theorem bx:i8 X [] Jp:=Jq Fw fun σ H ρ M D r q=>⟨ρ,M,.refl _ _,r,q⟩
theorem ao (h1:vJ X st t) (h2:i8 X rest u):i8 X (st :: rest) (LO t u):=Jq (C4 h1.dn h2.dn) fun σ H ρ M D r q=>
 ⟨ρ,M,_,r,q,fun σ' H' ⟨ρ',M',f,r',q'⟩=>nj f r' q',fun _ _ p=>p,fun _ _ p=>p,fun _ _ p=>p⟩
theorem aB (h1:vJ X st t):i8 X [st] t:=Jq (Fx h1.dn) fun σ H ρ M D r q=>nj (.refl _ _) r q
def Jr (te:cP):i6:=fun D ρ M=>te ρ M fun _ M1=>D.nx ρ M1
theorem mD (he:cg X e te) (hs:swapsWith e none pos.line X.env=pure false:=by rfl):vJ X (.Expr e pos) (Jr te):=AX (Fy he.dn hs) fun σ H ρ M D r q=>dU r q fun v H' d M' f dv r' q=>⟨ρ,M',f,r',q⟩
def LP (te:cP):i6:=fun D ρ M=>te ρ M D.rt
theorem aG (he:cg X e te):vJ X (.Return (some e) pos) (LP te):=AX (IJ he.dn) fun σ H ρ M D r q=>⟨ρ,M,_,r,q,fun _ _ p=>p⟩
def LQ (c:mY) (t u:i6):i6:=fun D ρ M=>c ρ M fun b M1=>if b=true then t D ρ M1 else u D ρ M1
theorem cH {c:Expr} {a b:List Stmt} {tc:mY} (hc:y9 X c tc) (ha:i8 X a t) (hb:i8 X b u):vJ X (.If c a b pos) (LQ tc t u):=AX (K4 hc.dn ha.dn hb.dn) fun σ H ρ M D r q=>oR r q fun k H' M' f r' q=>by
 cases k with
 | true=>exact nj f r' q
 | false=>exact nj f r' q
def Gb:i6:=fun _ _ _=>False
theorem Gd:vJ X st Gb:=⟨fun _ _ _ _ _ _ _ _ _ h=>h.elim⟩
def HM (i:Nat) (te:cP):i6:=fun D ρ M=>te ρ M fun x M1=>D.nx (ρ.set i (some x)) M1
theorem aX {i:Nat} {x:Str} {pos':Pos} (hN:X.N.Nodup) (hi:X.N[i]?=some x) (hx:Loc X.env.scope x) (he:cg X e te) (hs:swapsWith e (some (.Name x pos')) pos.line X.env=pure false:=by rfl) (hf:X.fn x=true∨X.env.scope.names.lookup x=some .local:=by first | exact .inl rfl | exact .inr rfl | assumption) :
 vJ X (.Assign [.Name x pos'] e pos) (HM i te):=AX (IL hN hi hx he.dn hs hf) fun σ H ρ M D r q=>dU r q fun v H' d M' f dv r' q=>⟨ρ.set i (some d),M',f,r'.set dv,q⟩
abbrev tO:=D→En→Mp→(En→Mp→Prop)→Prop
abbrev zC:=List D→En→Mp→(En→Mp→Prop)→Prop
structure BU (X:Cx) (target:Expr) (t:tO):Prop where
 run:∀ (pins:List (Addr ×Obj)) (s:Shared) (σ:St) (H:Hp) (ρ:En) (M:Mp) (v:V) (d:D) (u:Value) (Q:En→Mp→Prop),Inv X pins σ H s→Rep X.K H σ ρ M→RelV v u→Dat X.K H d v→t d ρ M Q→
  wpAny (model X.prog X.w) X.A (assign target X.env u) (fun _ s'=> ∃ σ' H',Inv X pins σ' H' s'∧i7 X.K M H Q σ' H') X.xe s
structure Ge (X:Cx) (ts:List Expr) (t:zC):Prop where
 run:∀ (pins:List (Addr ×Obj)) (s:Shared) (σ:St) (H:Hp) (ρ:En) (M:Mp) (vs:List V) (ds:List D) (us:List Value) (Q:En→Mp→Prop),Inv X pins σ H s→Rep X.K H σ ρ M→Vals vs us→aC X.K H ds vs→t ds ρ M Q→
  wpAny (model X.prog X.w) X.A (assignInOrder ((assignEach ts X.env).map (·.2)) us) (fun _ s'=> ∃ σ' H',Inv X pins σ' H' s'∧i7 X.K M H Q σ' H') X.xe s
def Js (i:Nat):tO:=fun d ρ M Q=>Q (ρ.set i (some d)) M
theorem bF {i:Nat} {x:Str} (hN:X.N.Nodup) (hi:X.N[i]?=some x) (hx:Loc X.env.scope x) (hf:X.fn x=true∨X.env.scope.names.lookup x=some .local:=by first | exact .inl rfl | exact .inr rfl | assumption):BU X (.Name x pos) (Js i):=
 ⟨fun pins s σ H ρ M v d u Q I r rv dv q=>FD hN hi hx hf pins s σ H v u _ I rv ⟨ρ.set i (some d),M,.refl _ _,r.set dv,q⟩⟩
def LR:zC:=fun ds ρ M Q=>ds= []∧Q ρ M
def Jt (t:tO) (u:zC):zC:=fun ds ρ M Q=> ∃ d r,ds=d :: r∧t d ρ M fun ρ' M'=>u r ρ' M' Q
theorem qZ:Ge X [] LR:=by
 constructor
 intro pins s σ H ρ M vs ds us Q I r rv dv ⟨e1,q⟩
 subst e1
 rw [aH.mp dv] at rv
 cases rv
 exact assignInOrder_nil ⟨σ,H,I,ρ,M,.refl _ _,r,q⟩
theorem cO {e:Expr} {es:List Expr} {t:tO} {u:zC} (h1:BU X e t) (h2:Ge X es u)
 (hs:(assignEach (e :: es) X.env).map (·.2)=assign e X.env :: (assignEach es X.env).map (·.2):=by rfl):Ge X (e :: es) (Jt t u):=by
 constructor
 intro pins s σ H ρ M vs ds us Q I r rv dv ⟨d,dr,e1,q⟩
 subst e1
 obtain ⟨v,vr,rfl,d1,d2⟩:=aA.mp dv
 cases rv with
 | cons rv rr=>
   rw [hs]
   refine assignInOrder_cons (cM (h1.run pins s σ H ρ M v d _ _ I r rv d1 q) fun _ s1 ⟨σ1,H1,I1,ρ1,M1,f1,r1,q1⟩=>?_)
   exact cM (h2.run pins s1 σ1 H1 ρ1 M1 vr dr _ Q I1 r1 rr (aC.mono (f1.ext r.mem) _ _ d2) q1) fun _ s2 ⟨σ2,H2,I2,p⟩=>⟨σ2,H2,I2,p.back f1⟩
def LS (n:Nat) (t:zC):tO:=fun d ρ M Q=> ∃ xs,LD M d xs∧xs.length=n∧t xs ρ M Q
theorem BV {prog:Program} {w:World} {A:Around} {E:Value→Shared→Prop} {it l:Addr} {items:Array Value}:∀ (n i:Nat) (s:Shared) (Q:List Value→Shared→Prop),s.heap.IsListIter it l i→it≠l→s.heap.IsList l items→i+n≤items.size→
 (∀ h',h'.IsListIter it l (i+n)→Heap.SameBut it s.heap h'→Q ((items.toList.drop i).take n) { s with heap:=h' })→wpAny (model prog w) A (draw (.ref it) n) Q E s:=by
 intro n
 induction n with
 | zero=>
   intro i s Q hit _ hl hi hQ
   have:=hQ s.heap hit (.refl ..)
   rw [List.take_zero] at this
   exact wpAny_pure this
 | succ n ih=>
   intro i s Q hit hne hl hi hQ
   have hlt:i < items.size:=by omega
   show wpAny _ _ (pyNext (.ref it) >>= _) Q E s
   refine wpAny_bind (wpAny_pyNext_list_item hit hl (x:=items[i]) (by simp [hlt]) fun h₁ Ju hs₁=>?_)
   refine wpAny_bind (wpAny_holding (ih (i+1) _ _ Ju hne (hl.at fun o e=>hs₁.extBut _ o (Ne.symm hne) e) (by omega) fun h₂ OX hs₂=>wpAny_pure ?_))
   have hd:items.toList.drop i=items[i] :: items.toList.drop (i+1):=by simp [W9,hlt]
   have:=hQ h₂ (by rw [show i+(n+1)=i+1+n by omega];exact OX) (hs₁.trans hs₂)
   rw [hd,List.take_succ_cons] at this
   exact this
theorem oW {prog:Program} {w:World} {A:Around} {E:Value→Shared→Prop} {s:Shared} {t:Addr} {items:Array Value} {Q:List Value→Shared→Prop} (hh:A.handled=none) (ht:s.heap.IsList t items)
 (hQ:∀ h',Heap.ExtBut s.heap.objs.size s.heap h'→Q items.toList { s with heap:=h' }):wpAny (model prog w) A (unpackItems (.ref t) items.size none) Q E s:=by
 have hlt:t≠s.heap.objs.size:=by obtain ⟨o,ho,_⟩:=ht;exact VQ (Heap.lt_size ho)
 unfold unpackItems
 refine wpAny_bind ?_
 ·unfold notIterableAtAll
  refine wpAny_bind (wpAny_specialOf ht.typeIs slot_list_iter.lookup ?_)
  refine wpAny_pure ?_
  simp only [Vt,if_false]
  refine wpAny_bind (wpAny_holding (wpAny_pyIter_list ht ?_))
  have ht0:(s.heap.push { cls:= .type "list_iterator",data:= .fields #[.ref t,rawInt 0] }).IsList t items:=by
   obtain ⟨o,ho,c,n,d⟩:=id ht
   exact ⟨o,Heap.get?_push_of_some _ ho,c,n,d⟩
  refine wpAny_bind (wpAny_holding (BV items.size 0 _ _ ⟨_,Heap.get?_push_size _ rfl,rfl,rfl⟩ (Ne.symm hlt) ht0 (by omega) fun h₁ Ju hs₁=>?_))
  have hall:List.take items.size (List.drop 0 items.toList)=items.toList:=by
   rw [Yi];exact WY (by simp)
  rw [hall]
  rw [if_neg (by simp)]
  have ht₁:h₁.IsList t items:=ht0.at fun o e=>hs₁.extBut _ o hlt e
  refine wpAny_bind (wpAny_holding (wpAny_pyNext_list_end hh Ju ht₁ (by simp) fun h₂ RW=>?_))
  simp only [Option.isSome_none,Vt,if_false]
  refine wpAny_pure (hQ h₂ fun b o hb e=>RW b o hb (hs₁.extBut b o hb (Heap.get?_push_of_some _ e)))
theorem xT {es:List Expr} {k:Nat} {t:zC} {n:Nat} (hc:X.calm=true) (h:Ge X es t)
 (hn:(assignEach es X.env).length=n:=by rfl) (hst:(assignEach es X.env).findIdx? (·.1)=none:=by rfl):BU X (.Tuple es k pos) (LS n t):=by
 constructor
 intro pins s σ H ρ M v d u Q I r rv dv ⟨xs,hq,hl,q⟩
 rcases hq with rfl | ⟨a,rfl,hM⟩
 ·obtain ⟨a,ys,rfl,ha,hy⟩:=aR.mp dv
  obtain rfl:u=Value.ref a:=rv
  obtain ⟨its,LU,ht,hz⟩:=I.tuple (qC.of ha)
  refine assign_Tuple_tuple (I.ok.hd hc) ht (by simp [hn,← hl,hy.length,LU.length]) hst fun h' hx=>?_
  have I1:Inv X pins σ H { s with heap:=h' }:=I.kept (t':=s.toks) fun b o e=>hx b o (VQ (Heap.lt_size e)) e
  exact h.run pins _ σ H ρ M ys xs _ Q I1 r (by simpa using LU) hy q
 ·obtain rfl:=aF.mp dv
  obtain rfl:u=Value.ref a:=rv
  obtain ⟨ys,ha,hy⟩:=r.mem.lst hM
  obtain ⟨its,LU,ht,hz⟩:=I.list (iI.of ha)
  rw [assign_Tuple]
  refine wpAny_bind (wpAny_standAt ?_)
  unfold unpack
  have hsz:(assignEach es X.env).length=its.toArray.size:=by simp [hn,← hl,hy.length,LU.length]
  rw [hsz,hst]
  refine wpAny_bind (wpAny_holding (oW (I.ok.hd hc) ht.isList fun h' hx=>?_))
  have I1:Inv X pins σ H { s with heap:=h' }:=I.kept (t':=s.toks) fun b o e=>hx b o (VQ (Heap.lt_size e)) e
  exact h.run pins _ σ H ρ M ys xs _ Q I1 r (by simpa using LU) hy q
def LV (te:cP) (g:tO):i6:=fun D ρ M=>te ρ M fun x M1=>g x ρ M1 D.nx
theorem Du {tg e:Expr} {g:tO} (he:cg X e te) (hg:BU X tg g) (hs:swapsWithSole [tg] e pos.line X.env=pure false:=by rfl) (hw:swappedStores [tg] e X.env=pure none:=by rfl)
 (h1:(assignEach [tg] X.env).map (·.2)= [assign tg X.env]:=by rfl):vJ X (.Assign [tg] e pos) (LV te g):=by
 constructor
 intro pins s σ H ρ M D I r h
 refine wpAny_Assign_stores (cM (he.run pins s σ H ρ M _ I r h) fun v s1 ⟨x,H1,I1,r1,d,M1,f1,d1,oM,q1⟩=>?_) hs hw
 rw [h1]
 exact cM (hg.run pins s1 σ H1 ρ M1 x d v _ I1 (r.go f1 oM) r1 d1 q1) fun _ s2 ⟨σ2,H2,I2,p⟩=>⟨σ2,H2,I2,p.back f1⟩
variable {o:Expr} {to:cP} {es:List Expr} {t3:tN} {apos:Pos}
@[irreducible] def bO (p:Prop):Prop:=p
theorem bO.mk {p:Prop} (h:p):bO p:=by unfold bO;exact h
theorem bO.out {p:Prop} (h:bO p):p:=by unfold bO at h;exact h
def Gf (c:mY) (tb:i6):i6:=fun D ρ M=> ∃ W:Nat→En→Mp→Prop,(∃ m,W m ρ M)∧∀ m ρ M,W m ρ M→
 c ρ M fun b M1=>if b=true then tb { D with nx:=fun ρ' M'=>bO (∃ m',m' < m∧W m' ρ' M'),ct:=fun ρ' M'=>bO (∃ m',m' < m∧W m' ρ' M'),bk:=D.nx } ρ M1 else D.nx ρ M1
theorem AZ {c:Expr} {body:List Stmt} {tc:mY} {tb:i6} (hp:PassesOwn (model X.prog X.w) X.A X.env X.xe) (hc:y9 X c tc) (hb:i8 X body tb):vJ X (.While c body [] pos) (Gf tc tb):=AX (C5 hp hc.dn hb.dn) fun σ H ρ M D r ⟨W,⟨m0,w0⟩,turn⟩=>by
 refine ⟨fun m σ' H'=> ∃ ρ' M',Fr M H M' H'∧Rep X.K H' σ' ρ' M'∧W m ρ' M',⟨m0,ρ,M,.refl _ _,r,w0⟩,?_⟩
 rintro m σ1 H1 ⟨ρ1,M1,f1,r1,w1⟩
 refine oR r1 (turn m ρ1 M1 w1) fun k H2 M2 f2 r2 q=>?_
 cases k with
 | true=>
   refine ⟨fun σ' H'=> ∃ m',m' < m∧∃ ρ' M',Fr M H M' H'∧Rep X.K H' σ' ρ' M'∧W m' ρ' M',fun σ' H' z=>z,?_⟩
   have Dv:=f1.trans f2
   refine ⟨ρ1,M2,_,r2,q,fun σ' H' ⟨ρ',M',f,r',z⟩=>let ⟨m',hm,w'⟩:=z.out;⟨m',hm,ρ',M',Dv.trans f,r',w'⟩,fun _ _ p=>p.back Dv,fun _ _ p=>p.back Dv,fun σ' H' ⟨ρ',M',f,r',z⟩=>let ⟨m',hm,w'⟩:=z.out;⟨m',hm,ρ',M',Dv.trans f,r',w'⟩⟩
 | false=>exact ⟨ρ1,M2,f1.trans f2,r2,q⟩
def runFor (gd:Mp→Prop) (g:tO) (tb:i6) (D:HK):List L3.D→En→Mp→Prop
 | [],ρ,M=>gd M∧D.nx ρ M
 | x :: xs,ρ,M=>gd M∧g x ρ M fun ρ2 M2=>tb { D with nx:=runFor gd g tb D xs,ct:=runFor gd g tb D xs,bk:=D.nx } ρ2 M2
structure zD (K:PySem.W.Frag) (J:It) (inv:Hp→Prop) (ds:List L3.D):Prop where
 go:∀ i H,i < ds.length→inv H→J.go i H
 Ff:∀ i H x H',i < ds.length→inv H→J.Ff i H x H'→H'=H∧∃ d,ds[i]?=some d∧Dat K H d x
 stop:∀ H,inv H→J.stop ds.length H
theorem BU.dn {tg:Expr} {g:tO} (h:BU X tg g):PG X tg (fun v σ H Q=> ∃ ρ M d Q0,Rep X.K H σ ρ M∧Dat X.K H d v∧g d ρ M Q0∧∀ σ' H',i7 X.K M H Q0 σ' H'→Q σ' H'):=
 fun pins s σ H v u Q I rv ⟨ρ,M,d,Q0,r,dv,q,k⟩=>cM (h.run pins s σ H ρ M v d u Q0 I r rv dv q) fun _ _ ⟨σ',H',I',p⟩=>⟨σ',H',I',k _ _ p⟩
theorem jb {K:PySem.W.Frag} {J:It} {inv:Hp→Prop} {ds:List L3.D} {gd:Mp→Prop} {g:tO} {tb:i6} {D:HK} {σ:St} {H H0:Hp} {ρ:En} {M M0:Mp} (hJ:zD K J inv ds)
 (f0:Fr M0 H0 M H) (r:Rep K H σ ρ M)
 (stay:∀ M1 H1,Fr M H M1 H1→bE K H1 M1→gd M1→inv H1) (q:runFor gd g tb D ds ρ M) :
 ∃ W:Nat→Nat→St→Hp→Prop,(∃ m,W 0 m σ H)∧∀ i m σ H,W i m σ H→
   (J.stop i H∧(ends K M0 H0 D).nx σ H)∨(J.go i H∧∃ N:St→Hp→Prop,(∀ σ' H',N σ' H'→∃ m',m' < m∧W (i+1) m' σ' H')∧∀ x H',J.Ff i H x H'→
     (∃ ρ M d Q0,Rep K H' σ ρ M∧Dat K H' d x∧g d ρ M Q0∧∀ σ2 H2,i7 K M H' Q0 σ2 H2→Nr K tb { (ends K M0 H0 D) with nx:=N,ct:=N,bk:=(ends K M0 H0 D).nx } σ2 H2)):=by
 refine ⟨fun i m σ1 H1=>m=ds.length - i∧i≤ds.length∧∃ ρ1 M1,Fr M H M1 H1∧Rep K H1 σ1 ρ1 M1∧runFor gd g tb D (ds.drop i) ρ1 M1,⟨ds.length,by simp,Wi _,ρ,M,.refl _ _,r,by simpa using q⟩,?_⟩
 rintro i m σ1 H1 ⟨rfl,hi,ρ1,M1,f1,r1,q1⟩
 by_cases hlt:i < ds.length
 ·have hdr:ds.drop i=ds[i] :: ds.drop (i+1):=W9 hlt
  rw [hdr] at q1
  obtain ⟨hg,q1⟩:=q1
  have QG:=stay M1 H1 f1 r1.mem hg
  refine .inr ⟨hJ.go i H1 hlt QG,fun σ' H'=> ∃ ρ' M',Fr M H M' H'∧Rep K H' σ' ρ' M'∧runFor gd g tb D (ds.drop (i+1)) ρ' M',fun σ' H' ⟨ρ',M',f',r',q'⟩=>⟨ds.length - (i+1),by omega,rfl,hlt,ρ',M',f',r',q'⟩,fun x H' y=>?_⟩
  obtain ⟨e,d,hd1,hd2⟩:=hJ.Ff i H1 x H' hlt QG y
  subst e
  have ed:d=ds[i]:=Option.some.inj (hd1.symm.trans (Vn hlt))
  subst ed
  refine ⟨ρ1,M1,_,_,r1,hd2,q1,fun σ2 H2 ⟨ρ2,M2,f2,r2,q2⟩=>?_⟩
  have Dv:=f1.trans f2
  have QH:=f0.trans Dv
  exact ⟨ρ2,M2,_,r2,q2,fun σ' H' ⟨ρ',M',f,r',z⟩=>⟨ρ',M',Dv.trans f,r',z⟩,fun _ _ p=>p.back QH,fun _ _ p=>p.back QH,fun σ' H' ⟨ρ',M',f,r',z⟩=>⟨ρ',M',Dv.trans f,r',z⟩⟩
 ·have e:i=ds.length:=by omega
  subst e
  rw [X9 (Vr _)] at q1
  obtain ⟨hg,q1⟩:=q1
  exact .inl ⟨hJ.stop H1 (stay M1 H1 f1 r1.mem hg),ρ1,M1,f0.trans f1,r1,q1⟩
def LW (te:cP) (g:tO) (tb:i6):i6:=fun D ρ M=>te ρ M fun d M1=> ∃ xs,d= .tup xs∧runFor (fun _=>True) g tb D xs ρ M1
def LX (te:cP) (g:tO) (tb:i6):i6:=fun D ρ M=>te ρ M fun d M1=> ∃ a xs,d= .ref a∧M1 a=some (.lst xs)∧runFor (fun M=>M a=some (.lst xs)) g tb D xs ρ M1
def LY (t:tN) (g:tO) (tb:i6):i6:=fun D ρ M=>t ρ M fun xs M1=>xs.length≤sizeLine∧runFor (fun _=>True) g tb D xs ρ M1
def LZ (t:tN) (g:tO) (tb:i6):i6:=fun D ρ M=>t ρ M fun vs M1=> ∃ j:Int,vs= [.int j]∧ -(2 ^ 62)≤j∧j < 2 ^ 62∧runFor (fun _=>True) g tb D ((List.range j.toNat).map fun (k:Nat)=>L3.D.int (k:Int)) ρ M1
variable {tg iter:Expr} {body:List Stmt} {g:tO} {tb:i6}
theorem Dw {K:PySem.W.Frag} {a:Addr} {ds:List L3.D}:zD K (Oi K a) (fun H=> ∃ vs,H a=some (.tup vs)∧aC K H ds vs) ds:=
 ⟨fun i H hi ⟨vs,h,hd⟩=>⟨vs,vs[i]'(by rw [← hd.length];exact hi),qC.of h,Vn _⟩,fun i H x H' _ ⟨vs,h,hd⟩ y=>⟨y.1,hd.back (y.2 vs (qC.of h))⟩,fun H ⟨vs,h,hd⟩=>⟨vs,qC.of h,by rw [hd.length];exact Vr _⟩⟩
theorem vM {K:PySem.W.Frag} {a:Addr} {ds:List L3.D}:zD K (Oh K a) (fun H=> ∃ vs,H a=some (.lst vs)∧aC K H ds vs) ds:=
 ⟨fun i H hi ⟨vs,h,hd⟩=>⟨vs,vs[i]'(by rw [← hd.length];exact hi),iI.of h,Vn _⟩,fun i H x H' _ ⟨vs,h,hd⟩ y=>⟨y.1,hd.back (y.2 vs (iI.of h))⟩,fun H ⟨vs,h,hd⟩=>⟨vs,iI.of h,by rw [hd.length];exact Vr _⟩⟩
theorem Jv {K:PySem.W.Frag} {n:Nat}:zD K (Np 0 n) (fun _=>True) ((List.range n).map fun (k:Nat)=>L3.D.int (k:Int)):=
 ⟨fun i H hi _=>by show i < n;simpa using hi,fun i H x H' hi _ y=>⟨y.1,L3.D.int (i:Int),by
  have hi:i < n:=by simpa using hi
  simp [hi],aP.mpr (by rw [y.2,X0])⟩,fun H _=>by show n≤_;simp⟩
theorem Jw (hp:PassesOwn (model X.prog X.w) X.A X.env X.xe) (hc:X.calm=true) (hi:cg X iter te) (hg:BU X tg g) (hb:i8 X body tb)
 (hs:∀ x,foldedSetIterable iter X.env x=pure x:=by intro _;rfl):vJ X (.For tg iter body [] pos) (LW te g tb):=AX (oQ hp hc (C6 hi.dn) hg.dn hb.dn hs) fun σ H ρ M D r q=>dU r q fun v H' d M' f dv r' ⟨xs,e1,q⟩=>by
 subst e1
 obtain ⟨a,ys,rfl,ha,hy⟩:=aR.mp dv
 refine ⟨a,rfl,⟨ys,qC.of ha⟩,jb Dw f r' (fun M1 H1 f1 _ _=>⟨ys,?_,aC.mono (f1.ext r'.mem) _ _ hy⟩) q⟩
 exact (f1 a _ (r'.mem.vH ha (fun _ z=>by cases z)) ha).1
theorem jY (hp:PassesOwn (model X.prog X.w) X.A X.env X.xe) (hc:X.calm=true) (hi:cg X iter te) (hg:BU X tg g) (hb:i8 X body tb)
 (hs:∀ x,foldedSetIterable iter X.env x=pure x:=by intro _;rfl):vJ X (.For tg iter body [] pos) (LX te g tb):=AX (oQ hp hc (qD hi.dn) hg.dn hb.dn hs) fun σ H ρ M D r q=>dU r q fun v H' d M' f dv r' ⟨a,xs,e1,hM,q⟩=>by
 subst e1
 obtain rfl:=aF.mp dv
 obtain ⟨ys,ha,hy⟩:=r'.mem.lst hM
 exact ⟨a,rfl,⟨ys,iI.of ha⟩,jb vM f r' (fun M1 H1 f1 oM g1=>oM.lst g1) q⟩
theorem Jx {es:List Expr} {t:tN} {Dy:Pos} (hp:PassesOwn (model X.prog X.w) X.A X.env X.xe) (hc:X.calm=true) (hi:zA X es t) (hg:BU X tg g) (hb:i8 X body tb)
 (hs:∀ x,foldedSetIterable (.List es Dy) X.env x=pure x:=by intro _;rfl):vJ X (.For tg (.List es Dy) body [] pos) (LY t g tb):=AX (oQ hp hc (qD (zq hi.dn)) hg.dn hb.dn hs) fun σ H ρ M D r q=>jW r q fun vs H' ds M' f dv r' ⟨hl,q⟩=>by
 refine ⟨by rw [← dv.length];exact hl,fun p hp=>⟨p,rfl,⟨vs,iI.of bN⟩,?_⟩⟩
 have fr:Fr M' H' M' (upd H' p (.lst vs)):=Fr.new hp fun _ _=>rfl
 have r2:=r'.go fr (r'.mem.new hp)
 exact jb vM (f.trans fr) r2 (fun M1 H1 f1 _ _=>⟨vs,(f1 p _ (r'.mem.free hp) bN).1,aC.mono ((Ext.new hp).trans (f1.ext r2.mem)) _ _ dv⟩) q
theorem Jy {a:Expr} {t:tN} {p rpos:Pos} (hp:PassesOwn (model X.prog X.w) X.A X.env X.xe) (hc:X.calm=true) (L0:Gl X "range") (hm:X.mg "range" =none) (ha:zA X [a] t) (hg:BU X tg g) (hb:i8 X body tb)
 (hst:starEach [a] X.env= [(false,eval a X.env)]:=by rfl)
 (hs:∀ x,foldedSetIterable (.Call (.Name "range" p) [a] [] rpos) X.env x=pure x:=by intro _;rfl):vJ X (.For tg (.Call (.Name "range" p) [a] [] rpos) body [] pos) (LZ t g tb):=AX (oQ hp hc (BL L0 hm ha.dn hst) hg.dn hb.dn hs) fun σ H ρ M D r q=>jW r q fun vs H' ds M' f dv r' ⟨j,e1,h1,h2,q⟩=>by
 subst e1
 obtain ⟨v,rfl,hv⟩:=qY dv
 obtain rfl:=aP.mp hv
 exact ⟨j,rfl,h1,h2,jb Jv f r' (fun _ _ _ _ _=>trivial) q⟩
def L1 (to te:cP):cP:=fun ρ M Q=>to ρ M fun d M1=>(∃ l xs,d= .ref l∧M1 l=some (.lst xs))∧te ρ M1 fun e M2=> ∃ l xs,d= .ref l∧M2 l=some (.lst xs)∧xs.length < sizeLine∧Q .aZ (ay M2 l (.lst (xs ++ [e])))
theorem uF {o e:Expr} {to te:cP} {apos:Pos} (ho:cg X o to) (he:cg X e te) (OY:PE X (.Call (.Attribute o "append" apos) [e] [] pos) (QC X.K "list" AU (dn X.K to) (HC (dn X.K te) Lh))):cg X (.Call (.Attribute o "append" apos) [e] [] pos) (L1 to te):=
 up OY fun σ H ρ M Q r q=>dU r q fun v H' d M' f dv r' ⟨⟨l,xs,e1,hM⟩,q⟩=>by
  subst e1
  obtain rfl:=aF.mp dv
  obtain ⟨ys,ha,hy⟩:=r'.mem.lst hM
  refine ⟨.inl ⟨rfl,_,iI.of ha⟩,dU r' q fun u H2 d2 M2 f2 du r2 ⟨l',xs',e2,Jz,hlt,q2⟩=>?_⟩
  injection e2 with e2
  subst e2
  obtain ⟨zs,hb,hz⟩:=r2.mem.lst Jz
  refine ⟨l,zs,u,rfl,rfl,hb,by rw [← hz.length];exact hlt,.aZ,_,(f.trans f2).trans (Fr.write (K:=X.K) Jz),cz.mpr rfl,r2.mem.mj hb (hz.append (aC.one du)),q2⟩
end
section
variable {P:Program} {w:World} {K:PySem.W.Frag} {mg:Str→Option Value} {base:Heap}
def mE (N:List Str) (ds:List D):En:=ds.map some ++ List.replicate (N.length - ds.length) none
theorem uG {H:Hp} {N:List Str} {ds:List D} {vs:List V} {M:Mp} (h:aC K H ds vs) (rm:bE K H M):Rep K H (L2.start N vs) (mE N ds) M:=by
 have hl:=h.length
 refine ⟨fun i d e=>?_,by unfold L2.start mE;simp [hl],rm⟩
 unfold mE at e
 by_cases hi:i < ds.length
 ·rw [WN (by simpa using hi),VT] at e
  cases q:ds[i]? with
  | none=>rw [q] at e;cases e
  | some d'=>
    rw [q] at e
    cases e
    obtain ⟨v,h1,h2⟩:=h.get q
    refine ⟨v,?_,h2⟩
    unfold L2.start
    rw [WN (by simp;omega),VT,h1]
    rfl
 ·rw [WI (by simpa using hi),XY] at e
  split at e <;> cases e
theorem A0 {x qual:Str} {st:Stmt} {f:Addr} {fd:FuncData} {N ps:List Str} {k:Nat} {S:xu} (F:jN K x qual st f fd) (Sc:aN N ps (aq st)) (len:∀ ds Q,S ds Q→ds.length=ps.length)
 (hbody:∀ (cdv:Value) (A:Around) (outer:List Env) (s:Shared) (H:Hp),iJ k (A.deeper (envOfC qual (aq st) s.heap.objs.size f cdv))→
  ∃ t,i8 (qi ff P w K mg base N qual (aq st) f cdv A outer s H E0).Fe (gj st) t∧∀ ds Q,S ds Q→t { nx:=fun _ _=>Q .aZ,rt:=fun d _=>Q d } (mE N ds) Lq) :
 bD P w K mg base ff (k+1) f fd ps (vL K S):=by
 refine F.ok Sc (fun vs H Q E h=>?_) (fun cdv A outer s H vs Q E hr h=>?_)
 ·obtain ⟨ds,Q0,h1,h2,_⟩:=h
  rw [← h1.length,len ds Q0 h2]
 ·obtain ⟨ds,Q0,h1,h2,h3⟩:=h
  obtain ⟨t,ht,hq⟩:=hbody cdv A outer s H hr
  have hE:(qi ff P w K mg base N qual (aq st) f cdv A outer s H E).Fe=(qi ff P w K mg base N qual (aq st) f cdv A outer s H E0).Fe:=rfl
  refine ⟨_,i8.dn (by rw [hE];exact ht),mE N ds,Lq,_,uG h1 bE.no,hq ds Q0 h2,fun σ' H' ⟨ρ',M',f',r',q⟩=>?_,fun v H' ⟨d,M',f',dv,rm,q⟩=>?_,fun _ _ ⟨_,_,_,_,z⟩=>z.elim,fun _ _ ⟨_,_,_,_,z⟩=>z.elim⟩
  ·exact h3 .aZ .aZ H' q (cz.mpr rfl) fun b o e=>(f' b o rfl e).1
  ·exact h3 d v H' q dv fun b o e=>(f' b o rfl e).1
theorem zE {x qual:Str} {st:Stmt} {f:Addr} {fd:FuncData} {N ps:List Str} {k:Nat} {S:uE} (F:jN K x qual st f fd) (Sc:aN N ps (aq st)) (len:∀ ds M Q,S ds M Q→ds.length=ps.length)
 (hbody:∀ (cdv:Value) (A:Around) (outer:List Env) (s:Shared) (H:Hp),iJ k (A.deeper (envOfC qual (aq st) s.heap.objs.size f cdv))→
  ∃ t,i8 (qi ff P w K mg base N qual (aq st) f cdv A outer s H E0).Fe (gj st) t∧∀ ds M Q,S ds M Q→t { nx:=fun _ M'=>bO (∃ M0,Le M0 M'∧Q .aZ M0),rt:=fun d M'=>bO (∃ M0,Le M0 M'∧Q d M0) } (mE N ds) M) :
 bD P w K mg base ff (k+1) f fd ps (mZ K S):=by
 refine F.ok Sc (fun vs H Q E h=>?_) (fun cdv A outer s H vs Q E hr h=>?_)
 ·obtain ⟨ds,M,Q0,h1,_,h2,_⟩:=h
  rw [← h1.length,len ds M Q0 h2]
 ·obtain ⟨ds,M,Q0,h1,rm,h2,h3⟩:=h
  obtain ⟨t,ht,hq⟩:=hbody cdv A outer s H hr
  have hE:(qi ff P w K mg base N qual (aq st) f cdv A outer s H E).Fe=(qi ff P w K mg base N qual (aq st) f cdv A outer s H E0).Fe:=rfl
  refine ⟨_,i8.dn (by rw [hE];exact ht),mE N ds,M,_,uG h1 rm,hq ds M Q0 h2,fun σ' H' ⟨ρ',M',f',r',z⟩=>?_,fun v H' ⟨d,M',f',dv,RX,z⟩=>?_,fun _ _ ⟨_,_,_,_,z⟩=>z.elim,fun _ _ ⟨_,_,_,_,z⟩=>z.elim⟩
  ·obtain ⟨M0,l,q⟩:=z.out
   exact h3 .aZ M0 .aZ H' q (cz.mpr rfl) (r'.mem.le l) (f'.le l)
  ·obtain ⟨M0,l,q⟩:=z.out
   exact h3 d M0 v H' q dv (RX.le l) (f'.le l)
end
end L3
namespace L3
open PySem PySem.Spec PyProof.Rows L2
section
variable {X:Cx}
def intsOf:List D→Option (List Int)
 | []=>some []
 | .int i :: ds=>(intsOf ds).map (i :: ·)
 | _ :: _=>none
theorem mF:∀ {ds:List D} {ns:List Int},intsOf ds=some ns→ds=ns.map D.int
 | [],ns,h=>by cases h;rfl
 | .int i :: ds,ns,h=>by
   have h:(intsOf ds).map (i :: ·)=some ns:=h
   cases q:intsOf ds with
   | none=>rw [q] at h;cases h
   | some ms=>
     rw [q] at h
     have h:i :: ms=ns:=Option.some.inj h
     subst h
     rw [mF q];rfl
 | .aZ :: _,ns,h=>by cases h
 | .bl _ :: _,ns,h=>by cases h
 | .str _ :: _,ns,h=>by cases h
 | .ty _ :: _,ns,h=>by cases h
 | .ref _ :: _,ns,h=>by cases h
 | .tup _ :: _,ns,h=>by cases h
 | .zx _ :: _,ns,h=>by cases h
 | .HH _ :: _,ns,h=>by cases h
 | .exc _ _ _ :: _,ns,h=>by cases h
def QI:D→D→Option Bool
 | .int i,.int j=>some (decide (i < j))
 | .tup ds,.tup es=>match intsOf ds,intsOf es with
   | some ns,some ms=>some (HT.lexLt ns ms)
   | _,_=>none
 | _,_=>none
def OZ:R3:=fun d e M Q=> ∃ b,QI d e=some b∧Q (.bl b) M
theorem lP (hu:X.A.units+64 < cLine):lK X (compareOp .Lt) OZ:=by
 constructor
 intro pins s σ H M x y d e v u Q I rm rx ry dx dy ⟨b,hb,q⟩
 unfold QI at hb
 split at hb
 ·rename_i i j
  have hb:=Option.some.inj hb
  subst hb
  exact OQ.run pins s σ H M x y _ _ v u Q I rm rx ry dx dy ⟨i,j,rfl,rfl,q⟩
 ·rename_i ds es
  split at hb
  ·rename_i ns ms h1 h2
   have hb:=Option.some.inj hb
   subst hb
   exact (LG hu).run pins s σ H M x y _ _ v u Q I rm rx ry dx dy ⟨ns,ms,by rw [mF h1],by rw [mF h2],q⟩
  ·cases hb
 ·cases hb
theorem bV:bootBuiltins "len" =some (.builtin "len"):=by decide +kernel
theorem BW:bootBuiltins "min" =some (.builtin "min"):=by decide +kernel
theorem bX:bootBuiltins "sorted" =some (.builtin "sorted"):=by decide +kernel
theorem bM:bootBuiltins "isinstance" =some (.builtin "isinstance"):=by decide +kernel
theorem jn:bootBuiltins "list" =some (.type "list"):=by decide +kernel
theorem q8:bootBuiltins "bool" =some (.type "bool"):=by decide +kernel
theorem jZ:bootBuiltins "tuple" =some (.type "tuple"):=by decide +kernel
end
theorem rf {m n:Nat} (h:m≤n):2 ^ m≤2 ^ n:=Yj (by decide) h
theorem Sm.le {m n:Nat} {i:Int} (h:Sm m i) (l:m≤n):Sm n i:=Vp h (rf l)
theorem Sm.JA {n:Nat} {i j:Int} (h:Sm n j) (l:i.natAbs≤j.natAbs):Sm n i:=Nat.lt_of_le_of_lt l h
theorem Sm.add {m n:Nat} {i j:Int} (h1:Sm m i) (h2:Sm n j):Sm (max m n+1) (i+j):=by
 have a:=Vp h1 (rf (Nat.le_max_left m n))
 have b:=Vp h2 (rf (Nat.le_max_right m n))
 show (i+j).natAbs < 2 ^ (max m n+1)
 rw [Nat.pow_succ]
 have:=Int.natAbs_add_le i j
 omega
theorem Sm.neg {n:Nat} {i:Int} (h:Sm n i):Sm n (-i):=by
 show (-i).natAbs < _
 rw [Int.natAbs_neg];exact h
theorem Sm.sub {m n:Nat} {i j:Int} (h1:Sm m i) (h2:Sm n j):Sm (max m n+1) (i - j):=by
 rw [Int.sub_eq_add_neg];exact h1.add h2.neg
theorem Sm.mul {m n:Nat} {i j:Int} (h1:Sm m i) (h2:Sm n j):Sm (m+n) (i*j):=by
 show (i*j).natAbs < 2 ^ (m+n)
 rw [Int.natAbs_mul,Nat.pow_add]
 exact Nat.mul_lt_mul'' h1 h2
theorem Sm.emod {n:Nat} {i j:Int} (hj:0 < j) (h:Sm n j):Sm n (i % j):=by
 have h1:=WM i (show j≠0 by omega)
 have h2:=WC i hj
 exact h.JA (by omega)
instance {n:Nat} {i:Int}:Decidable (Sm n i):=inferInstanceAs (Decidable (_ < _))
theorem Sm.sign (i:Int):Sm 1 i.sign:=by
 rcases WG i 0 with h | h | h
 ·rw [Ww h];decide
 ·subst h;decide
 ·rw [V1 h];decide
theorem MulOk.of {m n:Nat} {i j:Int} (h1:Sm m i) (h2:Sm n j) (h:m+n≤100000):MulOk i j:=⟨m,n,h1,h2,h⟩
theorem Sm.lit (i:Int):Sm (i.natAbs.log2+1) i:=Nat.lt_log2_self
theorem Sm.two:Sm 2 2:=by decide
theorem Sm.one:Sm 1 1:=by decide
theorem nk {K:PySem.W.Frag} {n:String}:PySem.W.kitOne K (.type n) (.type n)=some true:=by simp [PySem.W.kitOne]
structure Pl where
 x:Int
 y:Int
 deriving DecidableEq
def Pl.d (p:Pl):D:= .tup [.int p.x,.int p.y]
def Pl.Ok (n:Nat) (p:Pl):Prop:=Sm n p.x∧Sm n p.y
theorem oX (p q:Pl):er p.d q.d=decide (p=q):=by
 unfold Pl.d
 rw [jm,i9,i9,jX,eG,eG,V0]
 cases p;cases q
 simp
end L3
namespace L3
open PySem L2
def A1:xu:=fun ds Q=> ∃ ns:List Int,ds= [.zx (ns.map D.int)]∧ns.length≤63∧Q (.bl true)
theorem uH {K:PySem.W.Frag} {H:Hp}:∀ (ns:List Int),aC K H (ns.map D.int) (ns.map V.int)
 | []=>aH.mpr rfl
 | n :: ns=>aA.mpr ⟨_,_,rfl,aP.mpr rfl,uH ns⟩
theorem JB {K:PySem.W.Frag} {H:Hp} {a:Addr} {ns:List Int} {E:XK} (hl:ns.length≤63) (hO:FW H) (hS:iI K H a (ns.map V.int)):vL K A1 [.ref a] H (fun v _=>v= .bl true) E:=by
 have hz:Fz K H a (ns.map V.int):=by
  rcases hS with (h | ⟨o,h⟩) | h
  ·rcases hO a with z | ⟨o,xs,z⟩
   ·rw [z] at h;cases h
   ·rw [z] at h;cases h
  ·exact .inl ⟨o,h⟩
  ·exact .inr h
 exact ⟨[.zx (ns.map D.int)],fun d=>d= .bl true,aC.one (m6.mpr ⟨a,_,rfl,hz,uH ns⟩),⟨ns,rfl,hl,rfl⟩,fun d v H' q dv _=>by subst q;exact aV.mp dv⟩
end L3
namespace L3
theorem bP {gd:Mp→Prop} {g:tO} {tb:i6} {D:HK} {ρ:En} {M:Mp} (Pv:Nat→En→Mp→Prop):∀ (xs:List L3.D),
 (∀ (i:Nat) (x:L3.D) (ρ:En) (M:Mp) (N:En→Mp→Prop),xs[i]?=some x→Pv i ρ M→(∀ ρ' M',Pv (i+1) ρ' M'→N ρ' M')→gd M∧g x ρ M fun ρ2 M2=>tb { D with nx:=N,ct:=N,bk:=D.nx } ρ2 M2)→
 (∀ ρ M,Pv xs.length ρ M→gd M∧D.nx ρ M)→Pv 0 ρ M→runFor gd g tb D xs ρ M:=by
 intro xs hs hd h0
 have key:∀ (ys:List L3.D) (i:Nat) (ρ:En) (M:Mp),xs.drop i=ys→Pv i ρ M→i≤xs.length→runFor gd g tb D ys ρ M:=by
  intro ys
  induction ys with
  | nil=>
    intro i ρ M e p hi
    have:xs.length≤i:=by
     have:=congrArg List.length e
     rw [Wh] at this
     simp at this
     omega
    have:i=xs.length:=by omega
    subst this
    exact hd ρ M p
  | cons y ys ih=>
    intro i ρ M e p hi
    have hx:xs[i]?=some y:=by
     have:=congrArg (fun l=>l[0]?) e
     simpa using this
    have hlt:i < xs.length:=(VO.mp hx).1
    refine hs i y ρ M _ hx p fun ρ' M' p'=>ih (i+1) ρ' M' ?_ p' hlt
    rw [← YF,e]
    rfl
 exact key xs 0 ρ M rfl h0 (Wi _)
theorem BX {n i:Nat} {x:L3.D} (h:((List.range n).map fun (k:Nat)=>L3.D.int (k:Int))[i]?=some x):i < n∧x= .int (i:Int):=by
 rw [VT] at h
 by_cases hi:i < n
 ·rw [List.getElem?_range hi] at h
  exact ⟨hi,(Option.some.inj h).symm⟩
 ·rw [Wy (by simp;omega)] at h
  cases h
end L3
namespace L3
theorem j0 (a:Int):0≤a*a:=by
 rcases WK 0 a with h | h
 ·exact Vs h h
 ·exact VD h h
def frac (a b:Int):Pl:=⟨a.fdiv ((Int.gcd a b:Int)*b.sign),b.fdiv ((Int.gcd a b:Int)*b.sign)⟩
def low (a b:Int):Pl:=⟨a / (Int.gcd a b:Int),b / (Int.gcd a b:Int)⟩
end L3
local macro_rules | `(tactic| walk_at "sm")=> `(tactic| first | assumption | exact L3.Sm.sign _ | exact L3.Sm.zero | exact L3.Sm.one | exact L3.Sm.two | ((with_reducible apply L3.Sm.mul) <;> walk_at "sm") | ((with_reducible apply L3.Sm.sub) <;> walk_at "sm") | ((with_reducible apply L3.Sm.add) <;> walk_at "sm") | ((with_reducible apply L3.Sm.neg) <;> walk_at "sm") | ((with_reducible apply L3.Sm.abs) <;> walk_at "sm") | ((with_reducible apply L3.Sm.emod);(first | omega | decide +kernel);walk_at "sm") | exact L3.Sm.lit _)
local macro_rules | `(tactic| walk_at "smle")=> `(tactic| (apply L3.Sm.le;walk_at "sm";first | omega | decide +kernel))
namespace L3
@[irreducible] def RY (p f g:Pl):Int:=(p.x*f.y - f.x)*g.y*((p.x*f.y - f.x)*g.y)+(p.y*g.y - g.x)*f.y*((p.y*g.y - g.x)*f.y)
@[irreducible] def sq (p f g:Pl):Pl:=frac (RY p f g) (f.y*g.y*(f.y*g.y))
end L3
namespace L3
@[irreducible] def tw (a b c:Pl):Int:=(b.x - a.x)*(c.y - a.y) - (b.y - a.y)*(c.x - a.x)
theorem iK (a b c:Pl):tw b c a=tw a b c:=by unfold tw;grind
theorem fH (a b c:Pl):tw b a c= -tw a b c:=by unfold tw;grind
theorem j3 (a b c:Pl):tw a c b= -tw a b c:=by unfold tw;grind
theorem gF (a b:Pl):tw a a b=0:=by unfold tw;grind
theorem rj (a b:Pl):tw a b b=0:=by unfold tw;grind
theorem gG (a b:Pl):tw a b a=0:=by unfold tw;grind
def aI (p q:Pl):Prop:=p.x < q.x∨(p.x=q.x∧p.y < q.y)
instance (p q:Pl):Decidable (aI p q):=inferInstanceAs (Decidable (_∨_))
theorem bg (p:Pl):¬ aI p p:=by unfold aI;omega
theorem bA {p q r:Pl} (a:aI p q) (b:aI q r):aI p r:=by unfold aI at *;omega
theorem az {p q:Pl} (a:aI p q):¬ aI q p:=by unfold aI at *;omega
theorem bT (p q:Pl):aI p q∨p=q∨aI q p:=by
 unfold aI
 by_cases h:p=q
 ·exact .inr (.inl h)
 ·have:¬ (p.x=q.x∧p.y=q.y):=fun ⟨a,b⟩=>h (by cases p;cases q;simp only at a b;rw [a,b])
  omega
theorem j4 {p q:Pl} (a:aI p q):p≠q:=fun e=>bg q (e▸a)
def lo (p q:Pl):Pl:=if aI q p then q else p
def hi (p q:Pl):Pl:=if aI p q then q else p
def rq (a b c:Pl):Int:=(a.x - c.x)*(b.x - c.x)+(a.y - c.y)*(b.y - c.y)
theorem xU {a b:Int} (ha:0 < a):(0 < a*b↔0 < b)∧(a*b < 0↔b < 0)∧(a*b=0↔b=0):=by
 rcases WG b 0 with h | h | h
 ·have:=V6 ha h
  omega
 ·subst h;simp
 ·have:=VH ha h
  omega
theorem jo {ux uy vx vy:Int} (hc:ux*vy=uy*vx) (hu:ux < 0∨(ux=0∧uy < 0)) (hv:0 < vx∨(vx=0∧0 < vy)):ux*vx+uy*vy < 0:=by
 rcases hu with hu | ⟨hu,ia⟩
 ·rcases hv with hv | ⟨hv,hv'⟩
  ·have h1:ux*vx < 0:=by have:=VH (show 0 < -ux by omega) hv;rw [Xm] at this;omega
   have h2:vx*(uy*vy)=ux*(vy*vy):=by grind
   have h3:=j0 vy
   have h4:0≤(-ux)*(vy*vy):=Vs (by omega) h3
   rw [Xm] at h4
   have h5:=(xU (b:=uy*vy) hv).1
   omega
  ·subst hv
   have:=VH (show 0 < -ux by omega) hv'
   rw [Xm] at this
   omega
 ·subst hu
  rcases hv with hv | ⟨hv,hv'⟩
  ·have:=VH (show 0 < -uy by omega) hv
   rw [Xm] at this
   omega
  ·subst hv
   have:=VH (show 0 < -uy by omega) hv'
   rw [Xm] at this
   omega
theorem lQ {ux uy vx vy:Int} (hc:ux*vy=uy*vx) (hu:ux < 0∨(ux=0∧uy < 0)) (hv:vx < 0∨(vx=0∧vy < 0)):0 < ux*vx+uy*vy:=by
 have:=jo (ux:=ux) (uy:=uy) (vx:= -vx) (vy:= -vy) (by grind) hu (by omega)
 have e:ux* -vx+uy* -vy= -(ux*vx+uy*vy):=by grind
 omega
theorem pX (a b c:Pl) (h0:tw a b c=0):(aI (lo a b) c∧aI c (hi a b))↔(c≠a∧c≠b∧rq a b c < 0):=by
 have hc:(a.x - c.x)*(b.y - c.y)=(a.y - c.y)*(b.x - c.x):=by unfold tw at h0;grind
 have hc':(b.x - c.x)*(a.y - c.y)=(b.y - c.y)*(a.x - c.x):=by unfold tw at h0;grind
 have e:rq a b c=(a.x - c.x)*(b.x - c.x)+(a.y - c.y)*(b.y - c.y):=rfl
 have e':rq a b c=(b.x - c.x)*(a.x - c.x)+(b.y - c.y)*(a.y - c.y):=by rw [e];grind
 have e'':rq a b c=(-(b.x - c.x))*(-(a.x - c.x))+(-(b.y - c.y))*(-(a.y - c.y)):=by rw [e];grind
 have O0:(-(b.x - c.x))*(-(a.y - c.y))=(-(b.y - c.y))*(-(a.x - c.x)):=by rw [Xb,Xb];exact hc'
 unfold lo hi
 rcases bT a c with ha | ha | ha
 ·rcases bT c b with hb | hb | hb
  ·have hab:=bA ha hb
   rw [if_neg (az hab),if_pos hab]
   refine ⟨fun _=>⟨(j4 ha).symm,j4 hb,?_⟩,fun _=>⟨ha,hb⟩⟩
   rw [e]
   exact jo hc (by unfold aI at ha;omega) (by unfold aI at hb;omega)
  ·subst hb
   constructor
   ·rintro ⟨_,h2⟩
    exfalso
    split at h2
    ·exact bg _ h2
    ·rename_i z;exact z ha
   ·rintro ⟨_,h2,_⟩;exact absurd rfl h2
  ·constructor
   ·rintro ⟨_,h2⟩
    exfalso
    split at h2
    ·exact az hb h2
    ·exact az ha h2
   ·rintro ⟨_,_,h⟩
    exfalso
    rw [e] at h
    have:=lQ hc (by unfold aI at ha;omega) (by unfold aI at hb;omega)
    omega
 ·subst ha
  constructor
  ·rintro ⟨h1,h2⟩
   exfalso
   split at h1
   ·split at h2
    ·exact az h1 h2
    ·exact bg _ h2
   ·exact bg _ h1
  ·rintro ⟨h,_⟩;exact absurd rfl h
 ·rcases bT c b with hb | hb | hb
  ·constructor
   ·rintro ⟨h1,_⟩
    exfalso
    split at h1
    ·exact az hb h1
    ·exact az ha h1
   ·rintro ⟨_,_,h⟩
    exfalso
    rw [e''] at h
    have:=lQ O0 (by unfold aI at hb;omega) (by unfold aI at ha;omega)
    omega
  ·subst hb
   constructor
   ·rintro ⟨h1,h2⟩
    exfalso
    split at h1
    ·exact bg _ h1
    ·rename_i z;exact z ha
   ·rintro ⟨_,h2,_⟩;exact absurd rfl h2
  ·have hba:=bA hb ha
   rw [if_pos hba,if_neg (az hba)]
   refine ⟨fun _=>⟨j4 ha,(j4 hb).symm,?_⟩,fun _=>⟨hb,ha⟩⟩
   rw [e']
   exact jo hc' (by unfold aI at hb;omega) (by unfold aI at ha;omega)
@[irreducible] def vN (p q:Pl):Int:=(q.x - p.x)*(q.x - p.x)+(q.y - p.y)*(q.y - p.y)
@[irreducible] def dep (a b c d:Pl):Int:=vN d a*tw d b c+vN d b*tw d c a+vN d c*tw d a b
theorem qF (a b c d:Pl):dep b c a d=dep a b c d:=by unfold dep;grind
theorem Dz (a b c d:Pl):dep b a c d= -dep a b c d:=by unfold dep;have:=fH d;unfold tw;grind
theorem rz (a:Pl):vN a a=0:=by unfold vN;grind
theorem L4 (a b c:Pl):dep a b c a=0:=by unfold dep;rw [rz,gF,gG];grind
theorem L5 (a b c:Pl):dep a b c b=0:=by unfold dep;rw [rz,gF,gG];grind
theorem HN (a b c:Pl):dep a b c c=0:=by unfold dep;rw [rz,gF,gG];grind
@[irreducible] def rg (a b c d:Pl):Int:=(tw a b c).sign*(dep a b c d).sign
theorem j5 (a b c d:Pl):rg b c a d=rg a b c d:=by unfold rg;rw [iK,qF]
theorem ny (a b c d:Pl):rg b a c d=rg a b c d:=by unfold rg;rw [fH,Dz,X3,X3,Xb]
end L3
namespace L3
def eB (a b c d:Pl):Prop:=rg a b c d=1∨(rg a b c d=0∧d≠a∧d≠b∧d≠c∧((aI d a∧aI d b∧aI d c)∨(aI a b∧aI a c∧aI a d∧(tw b c d).sign≠(tw b c a).sign)∨(aI b a∧aI b c∧aI b d∧(tw c a d).sign≠(tw c a b).sign)∨(aI c a∧aI c b∧aI c d∧(tw a b d).sign≠(tw a b c).sign)))
instance (a b c d:Pl):Decidable (eB a b c d):=inferInstanceAs (Decidable (_∨_))
theorem rA {a b c d:Pl} (h:eB a b c d):eB b c a d:=by
 rcases h with h | ⟨h0,n1,n2,n3,h⟩
 ·exact .inl ((j5 a b c d).trans h)
 ·refine .inr ⟨(j5 a b c d).trans h0,n2,n3,n1,?_⟩
  rcases h with ⟨k1,k2,k3⟩ | ⟨k1,k2,k3,k4⟩ | ⟨k1,k2,k3,k4⟩ | ⟨k1,k2,k3,k4⟩
  ·exact .inl ⟨k2,k3,k1⟩
  ·exact .inr (.inr (.inr ⟨k1,k2,k3,k4⟩))
  ·exact .inr (.inl ⟨k2,k1,k3,k4⟩)
  ·exact .inr (.inr (.inl ⟨k2,k1,k3,k4⟩))
theorem eL (a b c d:Pl):eB b c a d↔eB a b c d:=⟨fun h=>rA (rA h),rA⟩
theorem j6 (i j:Int):((-i).sign≠(-j).sign)↔(i.sign≠j.sign):=by
 rw [X3,X3];omega
theorem uI {a b c d:Pl} (h:eB a b c d):eB b a c d:=by
 rcases h with h | ⟨h0,n1,n2,n3,h⟩
 ·exact .inl ((ny a b c d).trans h)
 ·refine .inr ⟨(ny a b c d).trans h0,n2,n1,n3,?_⟩
  rcases h with ⟨k1,k2,k3⟩ | ⟨k1,k2,k3,k4⟩ | ⟨k1,k2,k3,k4⟩ | ⟨k1,k2,k3,k4⟩
  ·exact .inl ⟨k2,k1,k3⟩
  ·refine .inr (.inr (.inl ⟨k1,k2,k3,?_⟩))
   rw [fH b c d,fH b c a]
   exact (j6 _ _).mpr k4
  ·refine .inr (.inl ⟨k1,k2,k3,?_⟩)
   rw [fH c a d,fH c a b]
   exact (j6 _ _).mpr k4
  ·refine .inr (.inr (.inr ⟨k2,k1,k3,?_⟩))
   rw [fH a b d,fH a b c]
   exact (j6 _ _).mpr k4
theorem rB (a b c d:Pl):eB b a c d↔eB a b c d:=⟨uI,uI⟩
theorem mG (i:Int):(i < 0∧i.sign= -1)∨(i=0∧i.sign=0)∨(0 < i∧i.sign=1):=by
 rcases WG i 0 with h | h | h
 ·exact .inl ⟨h,Ww h⟩
 ·exact .inr (.inl ⟨h,by rw [h];rfl⟩)
 ·exact .inr (.inr ⟨h,V1 h⟩)
theorem vO {p q:Pl} (h:p≠q):0 < vN p q:=by
 unfold vN
 have h1:=j0 (q.x - p.x)
 have h2:=j0 (q.y - p.y)
 rcases WG ((q.x - p.x)*(q.x - p.x)+(q.y - p.y)*(q.y - p.y)) 0 with z | z | z
 ·omega
 ·exfalso
  have e1:(q.x - p.x)*(q.x - p.x)=0:=by omega
  have e2:(q.y - p.y)*(q.y - p.y)=0:=by omega
  have f1:q.x - p.x=0:=by rcases VB.mp e1 with z | z <;> exact z
  have f2:q.y - p.y=0:=by rcases VB.mp e2 with z | z <;> exact z
  exact h (by cases p;cases q;simp only at f1 f2;congr 1 <;> omega)
 ·exact z
theorem k7 {a b c d:Pl} (h:dep a b c d=0):rg a b c d=0:=by unfold rg;rw [h];simp
def RZ (p q r s:Pl):Prop:=(0 < tw p q r∧tw p q s < 0)∨(tw p q r < 0∧0 < tw p q s)
theorem L6 {a b c d:Pl} (ht:tw a b c≠0) (h:dep a b c d≠0):rg a b c d≠0:=by
 unfold rg
 rcases mG (tw a b c) with ⟨u,e⟩ | ⟨u,e⟩ | ⟨u,e⟩ <;> rcases mG (dep a b c d) with ⟨v,f⟩ | ⟨v,f⟩ | ⟨v,f⟩ <;> rw [e,f] <;> first | decide | omega
theorem Gg {a b c d:Pl} (ht:tw a b c≠0) (h:dep a b c d≠0):eB a b c d↔rg a b c d=1:=by
 constructor
 ·rintro (z | ⟨z,_⟩)
  ·exact z
  ·exact absurd z (L6 ht h)
 ·exact .inl
def dt (a b x:Pl):Int:=(x.x - a.x)*(x.x - b.x)+(x.y - a.y)*(x.y - b.y)
theorem xV (a b x y:Pl):dep a b x y=dt a b x*tw a b y - dt a b y*tw a b x:=by unfold dep vN tw dt;grind
theorem Gh (a b c d:Pl):eB a c b d↔eB a b c d:=by
 rw [← eL a c b d,rB,← eL,eL,eL]
theorem vP {a b c d:Pl} (h:0 < tw a b c):rg a b c d=(dep a b c d).sign:=by unfold rg;rw [V1 h,XF]
theorem nD {a b x y:Pl} (hx:0 < tw a b x) (h:eB a b x y):0≤dep a b x y∧x≠y:=by
 unfold eB at h
 rw [vP hx] at h
 rcases mG (dep a b x y) with ⟨v,f⟩ | ⟨v,f⟩ | ⟨v,f⟩ <;> rw [f] at h
 ·omega
 ·refine ⟨by omega,?_⟩
  rcases h with h | h
  ·cases h
  ·exact fun e=>h.2.2.2.1 e.symm
 ·refine ⟨by omega,fun e=>?_⟩
  subst e
  rw [HN] at v
  omega
theorem mH {a b x y:Pl} (hx:0 < tw a b x) (h:0 < dep a b x y):eB a b x y:=by
 left;rw [vP hx,V1 h]
theorem jq {p q:Pl} (h:p≠q):aI p q∨aI q p:=by
 rcases bT p q with z | z | z
 ·exact .inl z
 ·exact absurd z h
 ·exact .inr z
end L3
namespace L3
end L3
namespace L3
end L3
namespace L3
open PySem PySem.Spec PyProof.Rows
section
variable {P:Program} {w:World} {A:Around} {E:Value→Shared→Prop} {s:Shared} {κ:KeyKind} {kd:SortKind} {z:Array Keyed} {t:SortSt}
structure Ask (P:Program) (w:World) (A:Around) (s:Shared) (κ:KeyKind) (kd:SortKind):Prop where
 lt:∀ (E:Value→Shared→Prop) (x y:Value) (a b:κ.α) (R:Bool→Shared→Prop),κ.keyOf x=some a→κ.keyOf y=some b→R (κ.blt a b) s→wpAny (model P w) A (keyLt' kd x y) R E s
structure Mid (kd:SortKind) (z:Array Keyed) (t:SortSt):Prop where
 pm:(arrOf t).Perm z
 kd:kindOf t=kd
 ok:failedOf t=none
 no:pendingOf t= #[]
theorem Mid.sz (m:Mid kd z t):(arrOf t).size=z.size:=m.pm.size_eq
theorem Mid.put (m:Mid kd z t) {y:Array Keyed} (h:y.Perm (arrOf t)):Mid kd z (setArr t y):=⟨h.trans m.pm,m.kd,m.ok,m.no⟩
theorem Mid.key (m:Mid kd z t) (hk:KeysOf κ z) {i:Nat} (hi:i < z.size):∃ x q,(arrOf t)[i]?=some (x,q)∧κ.keyOf x=some (KK κ (arrOf t) i):=by
 have hlt:i < (arrOf t).size:=m.sz▸hi
 have e:(arrOf t)[i]?=some (arrOf t)[i]:=getElem?_pos _ i hlt
 obtain ⟨a,ha⟩:=hk (arrOf t)[i] ((Array.perm_iff_toList_perm.mp m.pm).mem_iff.mp (by simp))
 refine ⟨(arrOf t)[i].1,(arrOf t)[i].2,e,?_⟩
 have ek:KK κ (arrOf t) i=a:=by unfold KK;rw [e];simp only [ha,Option.getD_some]
 rw [ek];exact ha
theorem rC (hA:Ask P w A s κ kd) (m:Mid kd z t) (hk:KeysOf κ z) {i j:Nat} (hi:i < z.size) (hj:j < z.size) {R:Option Bool→SortSt→Prop}
 (h:R (some (κ.blt (KK κ (arrOf t) i) (KK κ (arrOf t) j))) t):wpS (model P w) A E s (ltAt' i j) R t:=by
 obtain ⟨x,p,e1,k1⟩:=m.key hk hi
 obtain ⟨y,q,e2,k2⟩:=m.key hk hj
 rw [ltAt'_eq]
 apply wpS_bind;apply wpS_get
 show wpS (model P w) A E s (elem' (arrOf t) i >>= fun u=>elem' (arrOf t) j >>= fun v=>lt' u v) R t
 rw [elem'_eq,elem'_eq,e1,e2]
 apply wpS_bind;apply wpS_pure
 apply wpS_bind;apply wpS_pure
 rw [lt'_eq]
 apply wpS_bind;apply wpS_get
 rw [m.kd]
 refine wpS_bind (wpS_lift (wpAny_attempt (hA.lt _ x y _ _ _ k1 k2 ⟨rfl,wpS_pure h⟩)))
theorem rise {y:Array Keyed} {n:Nat} (h:SortedToK κ y n) (hl:1≤n) (hn:κ.kle (KK κ y (n - 1)) (KK κ y n)):SortedToK κ y (n+1):=by
 intro i j hij hj
 rcases Xg j n with c | c
 ·exact h i j hij c
 ·obtain rfl:j=n:=by omega
  rcases Xg i j with d | d
  ·exact KeyOrd.kle_trans (h i (j - 1) (by omega) (by omega)) hn
  ·obtain rfl:i=j:=by omega
   exact KeyOrd.kle_refl _
theorem Gi {y:Array Keyed} {n:Nat} (h:NonIncK κ y n) (hl:1≤n) (hn:κ.kle (KK κ y n) (KK κ y (n - 1))):NonIncK κ y (n+1):=by
 intro i j hij hj
 rcases Xg j n with c | c
 ·exact h i j hij c
 ·obtain rfl:j=n:=by omega
  rcases Xg i j with d | d
  ·exact KeyOrd.kle_trans hn (h i (j - 1) (by omega) (by omega))
  ·obtain rfl:i=j:=by omega
   exact KeyOrd.kle_refl _
theorem one_up (y:Array Keyed):SortedToK κ y 1:=by
 intro i j hij hj
 obtain rfl:i=j:=by omega
 exact KeyOrd.kle_refl _
theorem JC (y:Array Keyed):NonIncK κ y 1:=by
 intro i j hij hj
 obtain rfl:i=j:=by omega
 exact KeyOrd.kle_refl _
theorem A2 (hA:Ask P w A s κ kd) (hk:KeysOf κ z) (m:Mid kd z t) {a e:Nat} (he:e≤z.size) (h1:1≤a) (O1:a≤e) (up:SortedToK κ (arrOf t) a) {R:AscSt→SortSt→Prop}
 (h:∀ n,a≤n→n≤e→SortedToK κ (arrOf t) n→(n < e→κ.klt (KK κ (arrOf t) n) (KK κ (arrOf t) (n - 1)))→R (none,n) t):wpS (model P w) A E s (ascLoop a e) R t:=by
 unfold ascLoop
 refine wpS_forRange (I:=fun i b u=>b=(none,i)∧u=t∧SortedToK κ (arrOf t) i) (fun i b u hi1 hi2 hI=>?_) (fun b u hI=>?_) ⟨rfl,rfl,up⟩
 ·obtain ⟨rfl,rfl,hup⟩:=hI
  apply wpS_bind
  apply rC hA m hk (by show i < z.size;omega) (by show i - 1 < z.size;omega)
  show wpS (model P w) A E s (if κ.blt (KK κ (arrOf u) i) (KK κ (arrOf u) (i - 1))=true then _ else _) _ u
  cases c:κ.blt (KK κ (arrOf u) i) (KK κ (arrOf u) (i - 1)) with
  | true=>rw [if_pos rfl];exact wpS_pure (h i hi1 (by omega) hup fun _=>c)
  | false=>rw [if_neg Vx];exact wpS_pure ⟨rfl,rfl,rise hup (by omega) c⟩
 ·obtain ⟨rfl,rfl,hup⟩:=hI
  have em:max a e=e:=by omega
  rw [em] at hup ⊢
  exact h e O1 (Vr e) hup fun c=>absurd c (Wu e)
theorem xW (hA:Ask P w A s κ kd) (hk:KeysOf κ z) (m:Mid kd z t) {n e:Nat} (he:e≤z.size) (h1:1≤n) (hne:n≤e) (dn:NonIncK κ (arrOf t) n) {R:Option Nat→SortSt→Prop}
 (h:∀ i u,Mid kd z u→1≤i→i≤e→SortedToK κ (arrOf u) i→R (some i) u):wpS (model P w) A E s (tail3 n e) R t:=by
 have hz:n≤(arrOf t).size:=by have:=m.sz;omega
 have m2:=m.put (mirror_perm (arrOf t) 0 n ((n - 0) / 2))
 unfold tail3
 apply wpS_bind
 apply wpS_reverse
 apply wpS_bind
 refine A2 hA hk m2 he h1 hne (fun i j hij hj=>?_) fun i h2 h3 up _=>wpS_pure (h i _ m2 (by omega) h3 up)
 show κ.kle (KK κ (mirror (arrOf t) 0 n ((n - 0) / 2)) i) (KK κ (mirror (arrOf t) 0 n ((n - 0) / 2)) j)
 rw [KK_mirror hz i,KK_mirror hz j,if_pos ⟨Wi i,by omega⟩,if_pos ⟨Wi j,hj⟩]
 exact dn _ _ (by omega) (by omega)
def DA (κ:KeyKind) (y:Array Keyed) (n q:Nat):Prop:=q+1≤n∧∀ i,n - (q+1)≤i→i < n→KK κ y i=KK κ y (n - 1)
theorem DB {y:Array Keyed} {n:Nat} (h:1≤n):DA κ y n 0:=by
 refine ⟨by omega,fun i h1 h2=>?_⟩
 obtain rfl:i=n - 1:=by omega
 rfl
theorem DC (hA:Ask P w A s κ kd) (hk:KeysOf κ z) (m:Mid kd z t) {a e:Nat} (he:e≤z.size) (h1:1≤a) (O1:a≤e) (dn:NonIncK κ (arrOf t) a) {R:DescSt→SortSt→Prop}
 (h:∀ n q u,Mid kd z u→a≤n→n≤e→NonIncK κ (arrOf u) n→DA κ (arrOf u) n q→R (none,n,q) u):wpS (model P w) A E s (descLoop a e) R t:=by
 unfold descLoop
 refine wpS_forRange (I:=fun i b u=>Mid kd z u∧NonIncK κ (arrOf u) i∧∃ q,DA κ (arrOf u) i q∧b=(none,i,q)) (fun i b u hi1 hi2 hI=>?_) (fun b u hI=>?_) ⟨m,dn,0,DB h1,rfl⟩
 ·obtain ⟨mu,hd,q,hq,rfl⟩:=hI
  have hz:i≤(arrOf u).size:=by have:=mu.sz;omega
  apply wpS_bind
  apply rC hA mu hk (by show i < z.size;omega) (by show i - 1 < z.size;omega)
  show wpS (model P w) A E s (if κ.blt (KK κ (arrOf u) i) (KK κ (arrOf u) (i - 1))=true then _ else _) _ u
  cases c:κ.blt (KK κ (arrOf u) i) (KK κ (arrOf u) (i - 1)) with
  | true=>
    rw [if_pos rfl]
    have lower:NonIncK κ (arrOf u) (i+1):=Gi hd (by omega) (KeyOrd.kle_of_klt c)
    show wpS (model P w) A E s (if q > 0 then _ else _) _ u
    by_cases d:q > 0
    ·rw [if_pos d]
     apply wpS_bind
     apply wpS_reverse
     have same:=KK_mirror_equal (κ:=κ) hz hq.2
     refine wpS_pure ⟨mu.put (mirror_perm _ _ _ _),fun x y hxy hy=>?_,0,DB (by omega),rfl⟩
     show κ.kle (KK κ (mirror (arrOf u) (i - (q+1)) i _) y) (KK κ (mirror (arrOf u) (i - (q+1)) i _) x)
     rw [same,same]
     exact lower x y hxy hy
    ·rw [if_neg d]
     exact wpS_pure ⟨mu,lower,0,DB (by omega),rfl⟩
  | false=>
    rw [if_neg Vx]
    apply wpS_bind
    apply rC hA mu hk (by show i - 1 < z.size;omega) (by show i < z.size;omega)
    show wpS (model P w) A E s (if κ.blt (KK κ (arrOf u) (i - 1)) (KK κ (arrOf u) i)=true then _ else _) _ u
    cases d:κ.blt (KK κ (arrOf u) (i - 1)) (KK κ (arrOf u) i) with
    | true=>rw [if_pos rfl];exact wpS_pure (h i q u mu hi1 (by omega) hd hq)
    | false=>
      rw [if_neg Vx]
      have alike:KK κ (arrOf u) i=KK κ (arrOf u) (i - 1):=κ.total _ _ c d
      refine wpS_pure ⟨mu,Gi hd (by omega) d,q+1,⟨by have:=hq.1;omega,fun x h2 h3=>?_⟩,rfl⟩
      rw [Nat.add_sub_cancel]
      rcases Xg x i with g | g
      ·rw [alike];exact hq.2 x (by omega) g
      ·obtain rfl:x=i:=by omega
       rfl
 ·obtain ⟨mu,hd,q,hq,rfl⟩:=hI
  have em:max a e=e:=by omega
  rw [em] at hd hq ⊢
  exact h e q u mu O1 (Vr e) hd hq
theorem xX (hA:Ask P w A s κ kd) (hk:KeysOf κ z) (m:Mid kd z t) {n e:Nat} (he:e≤z.size) (hne:n+1≤e) (dn:NonIncK κ (arrOf t) (n+1)) {R:Option Nat→SortSt→Prop}
 (h:∀ i u,Mid kd z u→1≤i→i≤e→SortedToK κ (arrOf u) i→R (some i) u):wpS (model P w) A E s (descPart n e) R t:=by
 unfold descPart
 apply wpS_bind
 refine wpS_lift (wpAny_rule ⟨rfl,?_⟩)
 apply wpS_bind
 refine DC hA hk m he (by omega) hne dn fun i q u mu h2 h3 hd hq=>?_
 have hz:i≤(arrOf u).size:=by have:=mu.sz;omega
 show wpS (model P w) A E s (if q > 0 then _ else _) R u
 by_cases d:q > 0
 ·rw [if_pos d]
  apply wpS_bind
  apply wpS_reverse
  have same:=KK_mirror_equal (κ:=κ) hz hq.2
  refine xW hA hk (mu.put (mirror_perm _ _ _ _)) he (by omega) h3 (fun x y hxy hy=>?_) h
  show κ.kle (KK κ (mirror (arrOf u) (i - (q+1)) i _) y) (KK κ (mirror (arrOf u) (i - (q+1)) i _) x)
  rw [same,same]
  exact hd x y hxy hy
 ·rw [if_neg d]
  exact xW hA hk mu he (by omega) h3 hd h
theorem BY (hA:Ask P w A s κ kd) (hk:KeysOf κ z) (m:Mid kd z t) {e:Nat} (he:e≤z.size) (h1:1≤e) {R:Option Nat→SortSt→Prop}
 (h:∀ i u,Mid kd z u→1≤i→i≤e→SortedToK κ (arrOf u) i→R (some i) u):wpS (model P w) A E s (countRun' 0 e) R t:=by
 rw [countRun0_eq]
 apply wpS_bind
 refine A2 hA hk m he (Vr 1) h1 (one_up _) fun n h2 h3 up stop=>?_
 show wpS (model P w) A E s (if (n == e)=true then _ else _) R t
 by_cases c:n=e
 ·rw [if_pos (beq_iff_eq.mpr c)]
  exact wpS_pure (h n t m h2 h3 up)
 ·rw [if_neg fun q=>c (beq_iff_eq.mp q)]
  have less:=stop (by omega)
  by_cases d:n > 1
  ·rw [if_pos d]
   apply wpS_bind
   apply rC hA m hk (by omega) (by show n - 1 < z.size;omega)
   show wpS (model P w) A E s (if κ.blt (KK κ (arrOf t) 0) (KK κ (arrOf t) (n - 1))=true then _ else _) R t
   cases g:κ.blt (KK κ (arrOf t) 0) (KK κ (arrOf t) (n - 1)) with
   | true=>rw [if_pos rfl];exact wpS_pure (h n t m h2 h3 up)
   | false=>
     rw [if_neg Vx]
     have hz:n≤(arrOf t).size:=by have:=m.sz;omega
     have one:∀ i,i < n→KK κ (arrOf t) i=KK κ (arrOf t) (n - 1):=fun i hi=>
      KeyOrd.kle_antisymm (up i (n - 1) (by omega) (by omega)) (KeyOrd.kle_trans (show κ.kle (KK κ (arrOf t) (n - 1)) (KK κ (arrOf t) 0) from g) (up 0 i (Wi i) hi))
     have same:=KK_mirror_equal (κ:=κ) hz (fun i (_:0≤i) hi=>one i hi)
     apply wpS_bind
     apply wpS_reverse
     refine xX hA hk (m.put (mirror_perm _ _ _ _)) he (by omega) (Gi (fun x y hxy hy=>?_) (by omega) ?_) h
     ·show κ.kle (KK κ (mirror (arrOf t) 0 n _) y) (KK κ (mirror (arrOf t) 0 n _) x)
      rw [same,same,one x (by omega),one y hy]
      exact KeyOrd.kle_refl _
     ·show κ.kle (KK κ (mirror (arrOf t) 0 n _) n) (KK κ (mirror (arrOf t) 0 n _) (n - 1))
      rw [same,same]
      exact KeyOrd.kle_of_klt less
  ·rw [if_neg d]
   obtain rfl:n=1:=by omega
   exact xX hA hk m he (by omega) (Gi (JC _) (Vr 1) (KeyOrd.kle_of_klt less)) h
structure Cut (κ:KeyKind) (y:Array Keyed) (k l r:Nat):Prop where
 lr:l≤r
 rk:r≤k
 lo:∀ i,i < l→κ.kle (KK κ y i) (KK κ y k)
 hi:∀ i,r≤i→i < k→κ.klt (KK κ y k) (KK κ y i)
theorem Cut.put {y:Array Keyed} {k l:Nat} (c:Cut κ y k l l) (hk:k < y.size) (up:SortedToK κ y k):SortedToK κ (bubble y k (k - l)) (k+1):=by
 have hl:=c.rk
 have at':∀ i,KK κ (bubble y k (k - l)) i=if i=l then KK κ y k else if l < i∧i≤k then KK κ y (i - 1) else KK κ y i:=fun i=>by
  have:=KK_bubble (κ:=κ) hk (Nat.sub_le k l) i
  have e:k - (k - l)=l:=by omega
  rw [e] at this
  exact this
 intro i j hij hj
 rw [at' i,at' j]
 by_cases i1:i=l
 ·rw [if_pos i1]
  by_cases j1:j=l
  ·rw [if_pos j1];exact KeyOrd.kle_refl _
  ·rw [if_neg j1,if_pos ⟨by omega,by omega⟩]
   exact KeyOrd.kle_of_klt (c.hi _ (by omega) (by omega))
 ·rw [if_neg i1]
  by_cases i2:l < i∧i≤k
  ·rw [if_pos i2,if_neg (by omega),if_pos ⟨by omega,by omega⟩]
   exact up _ _ (by omega) (by omega)
  ·rw [if_neg i2]
   by_cases j1:j=l
   ·rw [if_pos j1];exact c.lo i (by omega)
   ·rw [if_neg j1]
    by_cases j2:l < j∧j≤k
    ·rw [if_pos j2];exact up _ _ (by omega) (by omega)
    ·rw [if_neg j2];exact up _ _ hij (by omega)
theorem Gj (hA:Ask P w A s κ kd) (hk:KeysOf κ z) (m:Mid kd z t) {n o:Nat} (hn:n≤z.size) (ho:o≤n) (up:SortedToK κ (arrOf t) o) {R:Bool→SortSt→Prop}
 (h:∀ u,Mid kd z u→SortedToK κ (arrOf u) n→R true u):wpS (model P w) A E s (binarySort' 0 n o) R t:=by
 rw [binarySort'_eq]
 simp only [Nat.zero_add]
 apply wpS_bind
 refine wpS_mono (wpS_forRange (I:=fun k b u=>b=(none,())∧Mid kd z u∧(k≤n→SortedToK κ (arrOf u) k)∧(n < k→SortedToK κ (arrOf u) n)) (Q:=fun b u=>b=(none,())∧Mid kd z u∧SortedToK κ (arrOf u) n)
  (fun k b u hk1 hk2 hI=>?_) (fun b u hI=>?_) ⟨rfl,m,fun c=>?_,fun c=>?_⟩) fun b u hI=>?_
 ·obtain ⟨rfl,mu,up1,_⟩:=hI
  have O2:=up1 (by omega)
  apply wpS_bind
  refine wpS_mono (wpS_forRange (I:=fun x b v=>v=u∧∃ l r,b=(none,l,r)∧Cut κ (arrOf u) k l r∧r - l≤k - x) (Q:=fun b v=>v=u∧∃ l,b=(none,l,l)∧Cut κ (arrOf u) k l l)
   (fun x b v _ hx hI=>?_) (fun b v hI=>?_) ⟨rfl,0,k,rfl,⟨Wi k,Vr k,fun i hi=>absurd hi (Yb i),fun i h2 h3=>absurd h3 (Xx.mpr h2)⟩,Vr _⟩) fun b v hI=>?_
  ·obtain ⟨rfl,l,r,rfl,c,hw⟩:=hI
   show wpS (model P w) A E s (if l≥r then _ else _) _ v
   by_cases d:l≥r
   ·rw [if_pos d]
    obtain rfl:l=r:=Nat.le_antisymm c.lr d
    exact wpS_pure ⟨rfl,l,rfl,c⟩
   ·rw [if_neg d]
    have hrk:=c.rk
    apply wpS_bind
    apply rC hA mu hk (by show k < z.size;omega) (by show (l+r) / 2 < z.size;omega)
    show wpS (model P w) A E s (if κ.blt (KK κ (arrOf v) k) (KK κ (arrOf v) ((l+r) / 2))=true then _ else _) _ v
    cases g:κ.blt (KK κ (arrOf v) k) (KK κ (arrOf v) ((l+r) / 2)) with
    | true=>
      rw [if_pos rfl]
      exact wpS_pure ⟨rfl,l,(l+r) / 2,rfl,⟨by omega,by omega,c.lo,fun i h2 h3=>KeyOrd.klt_of_klt_of_kle g (O2 _ i h2 h3)⟩,by omega⟩
    | false=>
      rw [if_neg Vx]
      exact wpS_pure ⟨rfl,(l+r) / 2+1,r,rfl,⟨by omega,by omega,fun i h2=>KeyOrd.kle_trans (O2 i _ (by omega) (by omega)) g,c.hi⟩,by omega⟩
  ·obtain ⟨rfl,l,r,rfl,c,hw⟩:=hI
   have e:max 0 k=k:=by omega
   rw [e] at hw
   obtain rfl:l=r:=by have:=c.lr;omega
   exact ⟨rfl,l,rfl,c⟩
  ·obtain ⟨rfl,l,rfl,c⟩:=hI
   show wpS (model P w) A E s (moveDown' k l >>= fun _=>pure (ForInStep.yield (none,()))) _ v
   rw [moveDown'_eq]
   apply wpS_bind
   apply wpS_modify
   have hz:k < (arrOf v).size:=by have:=mu.sz;omega
   exact wpS_pure ⟨rfl,mu.put (bubble_perm _ _ _),fun _=>c.put hz O2,fun q=>by omega⟩
 ·obtain ⟨rfl,mu,up1,R0⟩:=hI
  refine ⟨rfl,mu,?_⟩
  rcases Xg n (max (max o 1) n) with c | c
  ·exact R0 c
  ·have e:max (max o 1) n=n:=by omega
   rw [e] at up1
   exact up1 (Vr n)
 ·rcases Yn o with q | q
  ·have e:max o 1=1:=by omega
   rw [e];exact one_up _
  ·have e:max o 1=o:=by omega
   rw [e];exact up
 ·have e:n=0:=by omega
  subst e
  exact fun i j _ hj=>absurd hj (Yb j)
 ·obtain ⟨rfl,mu,up'⟩:=hI
  exact wpS_pure (h u mu up')
structure BZ (κ:KeyKind) (z:Array Keyed) (t:SortSt):Prop where
 pm:(arrOf t).Perm z
 ok:failedOf t=none
 one:pendingOf t= #[(0,z.size,0)]
 up:SortedToK κ (arrOf t) z.size
theorem Mid.fin (m:Mid kd z t) (up:SortedToK κ (arrOf t) z.size):BZ κ z (setPending t ((pendingOf t).push (0,z.size,0))):=
 ⟨m.pm,m.ok,by show (pendingOf t).push (0,z.size,0)= #[(0,z.size,0)];rw [m.no];rfl,up⟩
theorem Gk (hA:Ask P w A s κ kd) (hk:KeysOf κ z) (m:Mid kd z t) (h2:2≤z.size) (h64:z.size < 64) {R:Unit→SortSt→Prop} (h:∀ u,BZ κ z u→R () u):wpS (model P w) A E s sortRuns' R t:=by
 have low:minRun' z.size z.size 0=z.size:=by
  obtain ⟨k,hk⟩:∃ k,z.size=k+1:=⟨z.size - 1,by omega⟩
  have:minRun' (k+1) z.size 0=z.size+0:=by rw [minRun'_succ,if_pos h64]
  rw [← hk] at this
  exact this
 rw [sortRuns'_eq]
 apply wpS_bind;apply wpS_get
 dsimp only
 simp only [m.sz,low]
 apply wpS_bind
 refine wpS_mono (wpS_forRange (I:=fun x b u=>if x=0 then b=(none,0)∧Mid kd z u else b=(none,z.size)∧BZ κ z u) (Q:=fun b u=>b=(none,z.size)∧BZ κ z u) (fun x b u _ hx hI=>?_) (fun b u hI=>?_) ?_) fun b u hI=>?_
 ·by_cases c:x=0
  ·subst c
   obtain ⟨rfl,mu⟩:b=(none,0)∧Mid kd z u:=by simpa using hI
   dsimp only
   rw [if_neg (by omega:¬ (0≥z.size))]
   simp only [Yq,Xv,Nat.zero_add]
   apply wpS_bind
   refine BY hA hk mu (Vr _) (by omega) fun i v mv h3 h4 up=>?_
   dsimp only
   by_cases d:i < z.size
   ·rw [if_pos d]
    apply wpS_bind
    refine wpS_lift (wpAny_rule ⟨rfl,?_⟩)
    apply wpS_bind
    refine Gj hA hk mv (Vr _) h4 up fun v' QJ up'=>?_
    simp only [V9,Vt,if_false]
    apply wpS_bind;apply wpS_get
    have e:(pendingOf v').back?=none:=by rw [QJ.no];rfl
    rw [e]
    dsimp only
    apply wpS_bind
    apply wpS_modify
    exact wpS_pure ⟨rfl,QJ.fin up'⟩
   ·rw [if_neg d]
    obtain rfl:i=z.size:=by omega
    apply wpS_bind;apply wpS_get
    have e:(pendingOf v).back?=none:=by rw [mv.no];rfl
    rw [e]
    dsimp only
    apply wpS_bind
    apply wpS_modify
    exact wpS_pure ⟨rfl,mv.fin up⟩
  ·obtain ⟨rfl,fu⟩:b=(none,z.size)∧BZ κ z u:=by simpa [c] using hI
   dsimp only
   rw [if_pos (Vr z.size)]
   exact wpS_pure ⟨rfl,fu⟩
 ·have c:max 0 z.size≠0:=by omega
  rw [if_neg c] at hI
  exact hI
 ·exact ⟨rfl,m⟩
 ·obtain ⟨rfl,fu⟩:=hI
  dsimp only
  apply wpS_bind
  refine wpS_mono (wpS_forRange (I:=fun _ b v=>b=(none,())∧v=u) (Q:=fun b v=>b=(none,())∧v=u) (fun x b v _ _ hI=>?_) (fun _ _ hI=>hI) ⟨rfl,rfl⟩) fun b v hI=>?_
  ·obtain ⟨rfl,rfl⟩:=hI
   apply wpS_bind;apply wpS_get
   rw [if_pos (by rw [fu.one];exact Vr 1)]
   exact wpS_pure ⟨rfl,rfl⟩
  ·obtain ⟨rfl,rfl⟩:=hI
   exact wpS_pure (h v fu)
end
end L3
namespace L3
open PySem PySem.Spec PyProof.Rows
section
variable {P:Program} {w:World} {A:Around} {E:Value→Shared→Prop} {s:Shared} {κ:KeyKind} {kd:SortKind}
def j7 (h h':Heap):Prop:= ∀ b o,h.get? b=some o→h'.get? b=some o
theorem Gm {a:Addr} {vs:List Value} {n:Nat} {R:Fin→Shared→Prop} (ho:s.heap.get? a=some (seqObj "list" vs.toArray n)) (hk:KeysOf κ (pairsOf vs))
 (hd:∀ (t:Shared) (E:Value→Shared→Prop) (Q:SortKind→Shared→Prop),(∀ b o,b≠a→s.heap.get? b=some o→t.heap.get? b=some o)→2≤vs.length→Q kd t→wpAny (model P w) A (keyKind' vs.toArray) Q E t)
 (hA:∀ t:Shared,(∀ b o,b≠a→s.heap.get? b=some o→t.heap.get? b=some o)→Ask P w A t κ kd) (h64:vs.length < 64)
 (h:∀ y:Array Keyed,y.Perm (pairsOf vs)→SortedToK κ y (pairsOf vs).size→R (.done (.ret .none)) { s with heap:=sortedHeap s.heap a vs (y.map (·.2)) }) :
 wpAny (model P w) A (Builtin.«list.sort» ⟨[.ref a],[]⟩) R E s:=by
 have la:a < s.heap.objs.size:=Heap.lt_size ho
 have lz:vs.length≤sizeLine:=by rw [sizeLine_eq];omega
 rw [list_sort_plain]
 apply wpAny_bind;apply listItems_at ho rfl
 refine wpAny_bind (listUpdate_at ho rfl ?_ (hsz:=by simp only [Vo];omega) (hsz2:=Wi _))
 obtain ⟨e,h1⟩:∃ e,(s.heap.update a (Obj.mapSeq fun _=> #[])).get? a=some (seqObj "list" #[] e):=⟨_,get?_update_seq ho fun _=> #[]⟩
 apply wpAny_bind;apply seqEpoch_at h1 rfl
 refine wpAny_bind (wpAny_newTuple (hsz:=lz) ?_)
 refine wpAny_bind (wpAny_newList (hsz:=Wi _) ?_)
 apply wpAny_holding
 show wpAny (model P w) A _ R E { s with heap:=((s.heap.update a (Obj.mapSeq fun _=> #[])).push (seqObj "tuple" vs.toArray 0)).push (seqObj "list" #[] 0) }
 generalize hh:((s.heap.update a (Obj.mapSeq fun _=> #[])).push (seqObj "tuple" vs.toArray 0)).push (seqObj "list" #[] 0)=g
 have g1:g.get? a=some (seqObj "list" #[] e):=by
  rw [← hh,Heap.get?_push_ne _ _ _ (by rw [size_push',Heap.size_update];exact VQ (Wj la)),Heap.get?_push_ne _ _ _ (by rw [Heap.size_update];exact VQ la)]
  exact h1
 have g2:∀ b o,b≠a→s.heap.get? b=some o→g.get? b=some o:=fun b o hb q=>by
  have lb:=Heap.lt_size q
  rw [← hh,Heap.get?_push_ne _ _ _ (by rw [size_push',Heap.size_update];exact VQ (Wj lb)),Heap.get?_push_ne _ _ _ (by rw [Heap.size_update];exact VQ lb),Heap.get?_update_ne _ _ _ _ hb]
  exact q
 have fin:∀ y:Array Keyed,y.Perm (pairsOf vs)→SortedToK κ y (pairsOf vs).size→R (.done (.ret .none)) { s with heap:=g.update a (Obj.mapSeq fun _=>y.map (·.2)) }:=fun y h2 h3=>by rw [← hh];exact h y h2 h3
 dsimp only
 have zv:vs.toArray.size=vs.length:=by simp
 have room:∀ y:Array Keyed,y.Perm (pairsOf vs)→(y.map (·.2)).size≤sizeLine+1:=fun y q=>by
  rw [Array.size_map,q.size_eq,pairsOf_size,sizeLine_eq];omega
 by_cases c:vs.toArray.size < 2
 ·rw [if_pos c,if_pos c]
  apply wpAny_bind;apply wpAny_pure
  rw [StateT.run_pure]
  apply wpAny_bind;apply wpAny_pure
  dsimp only
  apply wpAny_bind;apply seqEpoch_at g1 rfl
  apply wpAny_bind
  refine listUpdate_at g1 rfl ?_ (hsz2:=room (pairsOf vs) (Array.Perm.refl _))
  simp only [bne_self_eq_false,Vt,if_false]
  refine wpAny_pure (fin (pairsOf vs) (Array.Perm.refl _) fun i j hij hj=>?_)
  obtain rfl:i=j:=by rw [pairsOf_size] at hj;omega
  exact KeyOrd.kle_refl _
 ·rw [if_neg c,if_neg c]
  apply wpAny_bind
  refine hd _ _ _ g2 (by omega) ?_
  apply wpAny_bind
  refine wpAny_mono (Gk (z:=pairsOf vs) (t:=SortSt.mk' kd (pairsOf vs) #[] 7 none) (R:=fun _ u=>BZ κ (pairsOf vs) u) (hA _ g2) hk ⟨Array.Perm.refl _,rfl,rfl,rfl⟩ (by rw [pairsOf_size];omega) (by rw [pairsOf_size];exact h64) fun u q=>q) (fun r s' q=>?_) fun _ _ q=>q
  obtain ⟨⟨⟩,u⟩:=r
  obtain ⟨rfl,fu⟩:=q
  dsimp only
  apply wpAny_bind;apply seqEpoch_at g1 rfl
  apply wpAny_bind
  refine listUpdate_at g1 rfl ?_ (hsz2:=room (arrOf u) fu.pm)
  rw [fu.ok]
  simp only [bne_self_eq_false,Vt,if_false]
  exact wpAny_pure (fin (arrOf u) fu.pm fu.up)
theorem uJ {l:Addr} {vs:List Value} {Q:Value→Shared→Prop} (hl:s.heap.IsList l vs.toArray) (hk:KeysOf κ (pairsOf vs))
 (hd:∀ (t:Shared) (E:Value→Shared→Prop) (Q:SortKind→Shared→Prop),j7 s.heap t.heap→2≤vs.length→Q kd t→wpAny (model P w) A.in1.in1 (keyKind' vs.toArray) Q E t)
 (hA:∀ t:Shared,j7 s.heap t.heap→Ask P w A.in1.in1 t κ kd) (h64:vs.length < 64)
 (h:∀ y:Array Keyed,y.Perm (pairsOf vs)→SortedToK κ y (pairsOf vs).size→Q (.ref (s.heap.objs.size+1)) { s with heap:=sortedAll s.heap vs (y.map (·.2)) }) :
 wpAny (model P w) A (call (.builtin "sorted") [.ref l]) Q E s:=by
 refine Calls.call_function_entry kind_sorted plain_sorted entry_sorted (args_sorted1 _) ?_
 unfold Builtin.«sorted»
 refine wpAny_bind (m:=checkCount "sorted" 1 1 _) (wpAny_pure ?_)
 have lz:vs.length≤sizeLine:=by rw [sizeLine_eq];omega
 refine wpAny_bind (collect_list hl (hsz:=lz) ?_)
 refine wpAny_bind (wpAny_newList (hsz:=lz) ?_)
 show wpAny (model P w) A.in1 _ _ _ { s with heap:=((s.heap.push (seqObj "list" #[] 0)).update s.heap.objs.size (Obj.mapSeq (· ++ vs.toArray))).push (seqObj "list" vs.toArray 0) }
 generalize hg:(s.heap.push (seqObj "list" #[] 0)).update s.heap.objs.size (Obj.mapSeq (· ++ vs.toArray))=g
 have gz:g.objs.size=s.heap.objs.size+1:=by rw [← hg,Heap.size_update,size_push']
 have gk:j7 s.heap g:=fun b o q=>by
  have lb:=Heap.lt_size q
  rw [← hg,Heap.get?_update_ne _ _ _ _ (VQ lb),Heap.get?_push_ne _ _ _ (VQ lb)]
  exact q
 have fin:∀ y:Array Keyed,y.Perm (pairsOf vs)→SortedToK κ y (pairsOf vs).size→Q (.ref (s.heap.objs.size+1)) { s with heap:=sortedHeap (g.push (seqObj "list" vs.toArray 0)) (s.heap.objs.size+1) vs (y.map (·.2)) }:=fun y h1 h2=>by rw [← hg];exact h y h1 h2
 rw [gz]
 have at':(g.push (seqObj "list" vs.toArray 0)).get? (s.heap.objs.size+1)=some (seqObj "list" vs.toArray 0):=by rw [← gz];exact Heap.get?_push_size _ rfl
 have Ny:∀ b o,s.heap.get? b=some o→b≠s.heap.objs.size+1∧(g.push (seqObj "list" vs.toArray 0)).get? b=some o:=fun b o q=>by
  have lb:=Heap.lt_size q
  have lc:=VQ (Wj lb)
  refine ⟨lc,?_⟩
  rw [Heap.get?_push_ne _ _ _ (by rw [gz];exact lc)]
  exact gk b o q
 apply wpAny_bind;apply wpAny_holding
 refine wpAny_call_entry slot_list_sort ⟨_,at',rfl⟩ entry_list_sort (Gm (κ:=κ) (kd:=kd) at' hk (fun t E Q hg=>hd t E Q fun b o q=>hg b o (Ny b o q).1 (Ny b o q).2) (fun t hg=>hA t fun b o q=>hg b o (Ny b o q).1 (Ny b o q).2) h64 fun y h1 h2=>⟨_,rfl,?_⟩) (args_list_sort _)
 exact wpAny_pure ⟨_,rfl,fin y h1 h2⟩
end
end L3
namespace L3
open PySem PySem.Spec PyProof.Rows
def lR (h:Heap) (v:Value) (p:Pl):Prop:= ∃ (a:Addr) (o:Obj) (t u:Tok) (n:Nat),v= .ref a∧h.get? a=some o∧o.cls= .type "tuple"∧o.data= .seq #[.int p.x t,.int p.y u] n
theorem lR.grow {h h':Heap} {v:Value} {p:Pl} (a:lR h v p) (g:j7 h h'):lR h' v p:=by
 obtain ⟨b,o,t,u,n,h1,h2,h3,h4⟩:=a
 exact ⟨b,o,t,u,n,h1,g _ _ h2,h3,h4⟩
theorem lR.inj {h:Heap} {v:Value} {p q:Pl} (a:lR h v p) (b:lR h v q):p=q:=by
 obtain ⟨a1,o,t,u,n,rfl,h2,h3,h4⟩:=a
 obtain ⟨a2,o',t',u',n',e,k2,k3,k4⟩:=b
 injection e with e
 subst e
 rw [h2] at k2
 injection k2 with k2
 subst k2
 rw [h4] at k4
 injection k4 with k4 _
 cases p;cases q
 simp at k4
 obtain ⟨⟨e1,_⟩,e2,_⟩:=k4
 rw [e1,e2]
open Classical in
noncomputable def CP (h:Heap):KeyKind where
 α:=Pl
 blt p q:=decide (aI p q)
 irrefl p:=decide_eq_false (bg p)
 trans p q r a b:=decide_eq_true (bA (of_decide_eq_true a) (of_decide_eq_true b))
 negTrans p q r a:=by
  have a:=of_decide_eq_true a
  rcases bT p q with c | c | c
  ·exact .inl (decide_eq_true c)
  ·subst c;exact .inr (decide_eq_true a)
  ·exact .inr (decide_eq_true (bA c a))
 total p q a b:=by
  rcases bT p q with c | c | c
  ·exact absurd c (of_decide_eq_false a)
  ·exact c
  ·exact absurd c (of_decide_eq_false b)
 keyOf v:=if e:∃ p,lR h v p then some e.choose else none
 dflt:=⟨0,0⟩
open Classical in
theorem A3 {h:Heap} {v:Value} {p:Pl} (a:lR h v p):(CP h).keyOf v=some p:=by
 have e:∃ p,lR h v p:=⟨p,a⟩
 show (if e:∃ p,lR h v p then some e.choose else none)=some p
 rw [dif_pos e,lR.inj e.choose_spec a]
open Classical in
theorem DE {h:Heap} {v:Value} {p:Pl} (a:(CP h).keyOf v=some p):lR h v p:=by
 have a:(if e:∃ p,lR h v p then some e.choose else none)=some p:=a
 by_cases e:∃ p,lR h v p
 ·rw [dif_pos e] at a
  have:=e.choose_spec
  rwa [Option.some.inj a] at this
 ·rw [dif_neg e] at a;cases a
section
variable {P:Program} {w:World} {A:Around} {E:Value→Shared→Prop} {s:Shared}
theorem uK (f:Bool) (v u:Value):keyLt' (tuples' f) v u=(do
 let a ← Builtin.List.listItems v;let b ← Builtin.List.listItems u
 for ((c,d),k) in (a.toList.zip b.toList).zipIdx do { if !(← eqBool c d) then return ← oneLt' (f && k == 0) c d }
 return a.size < b.size):=rfl
theorem rD {b:Bool} {i j:Int} {t u:Tok} {Q:Bool→Shared→Prop} (h:Q (decide (i < j)) s):wpAny (model P w) A (oneLt' b (.int i t) (.int j u)) Q E s:=by
 cases b with
 | true=>exact oneLt_int h
 | false=>
   rw [oneLt'_eq]
   simp only [Vt,if_false]
   apply wpAny_bind
   refine (lt_int ?_:wpAny (model P w) A (compareOp .Lt (.int i t) (.int j u)) _ E s)
   exact wpAny_truthy_bool h
theorem L7 {t:Shared} {x y:Value} {p q:Pl} {f:Bool} {R:Bool→Shared→Prop} (kx:lR t.heap x p) (ky:lR t.heap y q) (hR:R (decide (aI p q)) t):wpAny (model P w) A (keyLt' (tuples' f) x y) R E t:=by
 obtain ⟨a,o,t1,u1,n1,rfl,h2,h3,h4⟩:=kx
 obtain ⟨b,o',t2,u2,n2,rfl,k2,k3,k4⟩:=ky
 rw [uK]
 apply wpAny_bind;apply listItems_at h2 h4
 apply wpAny_bind;apply listItems_at k2 k4
 simp only [WB,Xe,XU,Yc,WZ,Xh,bind_assoc]
 apply wpAny_bind
 apply wpAny_eqBool_int
 by_cases ex:p.x=q.x
 ·have e:(p.x == q.x)=true:=beq_iff_eq.mpr ex
  rw [e]
  simp only [V9,Vt,if_false,pure_bind,bind_assoc]
  apply wpAny_bind
  apply wpAny_eqBool_int
  by_cases ey:p.y=q.y
  ·have e:(p.y == q.y)=true:=beq_iff_eq.mpr ey
   rw [e]
   simp only [V9,Vt,if_false,pure_bind]
   have en:decide (aI p q)=false:=decide_eq_false (by unfold aI;omega)
   rw [en] at hR
   exact wpAny_pure hR
  ·have e:(p.y == q.y)=false:=beq_eq_false_iff_ne.mpr ey
   rw [e]
   simp only [WH,if_true,bind_assoc,pure_bind]
   apply wpAny_bind
   apply rD
   have en:decide (aI p q)=decide (p.y < q.y):=by rw [decide_eq_decide];unfold aI;omega
   rw [en] at hR
   exact wpAny_pure hR
 ·have e:(p.x == q.x)=false:=beq_eq_false_iff_ne.mpr ex
  rw [e]
  simp only [WH,if_true,bind_assoc,pure_bind]
  apply wpAny_bind
  apply rD
  have en:decide (aI p q)=decide (p.x < q.x):=by rw [decide_eq_decide];unfold aI;omega
  rw [en] at hR
  exact wpAny_pure hR
theorem JD {h:Heap} {t:Shared} (g:j7 h t.heap) (f:Bool):Ask P w A t (CP h) (tuples' f):=
 ⟨fun E x y p q R kx ky hR=>L7 ((DE kx).grow g) ((DE ky).grow g) hR⟩
theorem nE {β:Type} {f:Value→Sem β} (R:Value→β→Prop):∀ (vs:List Value) (Q:List β→Shared→Prop),(∀ v∈vs,∀ (Q:β→Shared→Prop),(∀ b,R v b→Q b s)→wpAny (model P w) A (f v) Q E s)→
 (∀ bs:List β,Paired R vs bs→Q bs s)→wpAny (model P w) A (vs.mapM f) Q E s
 | [],Q,_,h=>by rw [List.mapM_nil];exact wpAny_pure (h [] .nil)
 | v :: vs,Q,hv,h=>by
   rw [List.mapM_cons]
   apply wpAny_bind
   refine hv v (Vz ..) _ fun b rb=>?_
   apply wpAny_bind
   refine nE R vs _ (fun u hu=>hv u (Vj _ hu)) fun bs R4=>?_
   exact wpAny_pure (h (b :: bs) (.cons rb R4))
theorem uL (v:Value):firstOfTuple' v=(typeOf v >>= fun t=>if t != .type "tuple" then pure none else Builtin.List.listItems v >>= fun a=>pure a[0]?):=rfl
theorem Gn {vs:List Value} (h2:1≤vs.length) (hv:∀ v∈vs,∃ p,lR s.heap v p) {Q:SortKind→Shared→Prop} (h:Q (tuples' true) s):wpAny (model P w) A (keyKind' vs.toArray) Q E s:=by
 rw [keyKind'_eq,Xi]
 simp only [bind_map_left]
 apply wpAny_bind
 refine nE (fun _ b=> ∃ i t,b=some (Value.int i t)) vs _ (fun v hm Q hQ=>?_) fun bs hb=>?_
 ·obtain ⟨p,a,o,t,u,n,rfl,k2,k3,k4⟩:=hv v hm
  rw [uL]
  apply wpAny_bind
  refine wpAny_typeOf (T:= "tuple") ⟨o,k2,k3⟩ ?_
  have e:(Value.type "tuple" !=Value.type "tuple")=false:=by decide
  rw [e]
  simp only [Vt,if_false,pure_bind]
  apply wpAny_bind;apply listItems_at k2 k4
  exact wpAny_pure (hQ _ ⟨p.x,t,rfl⟩)
 ·have all:∀ (vs:List Value) (bs:List (Option Value)),Paired (fun _ b=> ∃ i t,b=some (Value.int i t)) vs bs→bs.length=vs.length∧(∀ b∈bs,∃ i t,b=some (Value.int i t)):=by
   intro vs
   induction vs with
   | nil=>intro bs q;cases q;exact ⟨rfl,fun _ z=>by cases z⟩
   | cons v vs ih=>
     intro bs q
     cases q with
     | cons q1 q2=>
       obtain ⟨l,m⟩:=ih _ q2
       refine ⟨by simp [l],fun b hb=>?_⟩
       rcases Vl.mp hb with rfl | hb
       ·exact q1
       ·exact m b hb
  obtain ⟨hl,hm⟩:=all vs bs hb
  have c:(bs.toArray.all fun b=>b.isSome)=true:=by
   simp only [Xn,V8]
   intro b hb
   obtain ⟨i,t,rfl⟩:=hm b hb
   rfl
  rw [if_pos c]
  apply wpAny_bind;apply wpAny_rule
  rw [oneTypeOnly'_eq]
  have ef:bs.toArray.filterMap id=(bs.filterMap id).toArray:=by simp
  rw [ef,Xi]
  simp only [bind_map_left,bind_assoc]
  apply wpAny_bind
  refine nE (fun _ b=>b=Value.type "int") _ _ (fun v hv' Q hQ=>?_) fun cs hc=>?_
  ·obtain ⟨b,hb1,hb2⟩:=Xd.mp hv'
   obtain ⟨i,t,rfl⟩:=hm b hb1
   have hb2:some (Value.int i t)=some v:=hb2
   cases hb2
   exact wpAny_typeOf (T:= "int") (typeIs_int s i t) (hQ _ rfl)
  ·have len:1≤(bs.filterMap id).length:=by
    cases bs with
    | nil=>simp at hl;omega
    | cons b bs=>
      obtain ⟨i,t,rfl⟩:=hm b (Vz ..)
      simp
   have all2:∀ (us cs:List Value),Paired (fun _ b=>b=Value.type "int") us cs→cs=us.map fun _=>Value.type "int" :=by
    intro us
    induction us with
    | nil=>intro cs q;cases q;rfl
    | cons u us ih=>intro cs q;cases q with | cons q1 q2=>rw [q1,ih _ q2];rfl
   rw [all2 _ _ hc]
   generalize bs.filterMap id=us at len
   cases us with
   | nil=>simp at len
   | cons u us=>
     have e0:(List.map (fun _=>Value.type "int") (u :: us)).toArray[0]?=some (Value.type "int"):=by simp
     rw [e0]
     have e1:((List.map (fun _=>Value.type "int") (u :: us)).toArray.all fun x=>x == Value.type "int")=true:=by
      simp only [Xn,XZ,V8]
      intro _ _;rfl
     simp only [e1,if_true,pure_bind]
     exact wpAny_pure h
end
end L3
namespace L3
open PySem PySem.Spec PyProof.Rows
section
variable {P:Program} {w:World} {A:Around} {E:Value→Shared→Prop} {s:Shared}
theorem JE {h0:Heap} {I S:Addr} {fp wr:List Addr} {n:Nat} {Pr:Nat→Value→Prop} {St:Nat→Heap→Prop} {bt:Nat→Nat→Bool} {R:Result→Shared→Prop} (W:Walks P w A.in1 I fp wr n Pr St)
 (hc:∀ (i j:Nat) (vi vj:Value) (t:Shared) (Q:Value→Shared→Prop) (E:Value→Shared→Prop),j7 h0 t.heap→Pr i vi→Pr j vj→Q (.bool (bt i j)) t→wpAny (model P w) A.in1 (richCompare .Lt vi vj) Q E t)
 (hS:S∉fp) (KJ:∀ b o,h0.get? b=some o→b∉wr∧b≠S):∀ (m k:Nat) (t:Shared) (vb:Value) (c:Nat),n - (k+1)=m→k+1≤n→j7 h0 t.heap→St (k+1) t.heap→Pr (argBest bt k) vb→
 t.heap.get? S=some { cls:= .type "list",dict:=none,data:= .seq #[vb,vb] c,slots:= #[] }→
 (∀ v h' tk,Pr (argBest bt (n - 1)) v→(∀ b o,b∉wr→b≠S→t.heap.get? b=some o→h'.get? b=some o)→R (.ok (.ret v)) { t with heap:=h',toks:=tk })→
 codeAny (model P w) A (.builtin "min.loop" ⟨[.ref I,.none,.ref S],[]⟩) R t:=by
 have Sw:S∉wr:=fun q=>hS (W.sub _ q)
 have nm:(toString "min" ++ toString ".loop" :String)= "min.loop" :=by decide
 intro m
 induction m with
 | zero=>
   intro k t vb c e1 e2 gr st pb hs hR
   have ek:k+1=n:=by omega
   refine codeAny_builtin F.entry_min_loop ?_
   rw [Around.under_plainId F.plain_min_loop]
   show wpAny (model P w) A.in1 (seqItems? (.ref S) >>= _) _ _ t
   apply wpAny_bind;apply wpAny_seqItems hs rfl
   show wpAny (model P w) A.in1 (tryCatch (pyNext (.ref I)) _ >>= _) _ _ t
   apply wpAny_bind;apply wpAny_tryCatch
   refine W.done t _ _ (ek▸st) fun h' tk kp=>?_
   have hs2:=kp S _ Sw hs
   show wpAny (model P w) A.in1 (updateSeq S (fun _=> #[]) >>= _) _ _ _
   apply wpAny_bind
   refine wpAny_updateSeq hs2 rfl ?_
   apply wpAny_bind;apply wpAny_letGo;apply wpAny_pure
   exact hR vb _ tk (by rw [← ek];exact pb) fun b o q1 q2 q=>(Heap.get?_update_other _ _ (Ne.symm q2)).trans (kp b o q1 q)
 | succ m ih=>
   intro k t vb c e1 e2 gr st pb hs hR
   refine codeAny_builtin F.entry_min_loop ?_
   rw [Around.under_plainId F.plain_min_loop]
   show wpAny (model P w) A.in1 (seqItems? (.ref S) >>= _) _ _ t
   apply wpAny_bind;apply wpAny_seqItems hs rfl
   show wpAny (model P w) A.in1 (tryCatch (pyNext (.ref I)) _ >>= _) _ _ t
   apply wpAny_bind;apply wpAny_tryCatch
   refine W.item (k+1) t _ _ (by omega) st fun v h' tk pv st2 kp=>?_
   have hs2:=kp S _ Sw hs
   have L8:j7 h0 h':=fun b o q=>kp b o (KJ b o q).1 (gr b o q)
   show wpAny (model P w) A.in1 (tryCatch (holding [v,v] (richCompare .Lt v vb >>= _)) _ >>= _) _ _ _
   apply wpAny_bind;apply wpAny_tryCatch;apply wpAny_holding;apply wpAny_bind
   refine hc (k+1) (argBest bt k) v vb _ _ _ L8 pv pb ?_
   apply wpAny_bind;apply wpAny_holding;apply wpAny_truthy_bool
   apply wpAny_bind;apply wpAny_letGo;apply wpAny_pure
   cases d:bt (k+1) (argBest bt k) with
   | true=>
     rw [if_pos rfl]
     apply wpAny_bind
     refine wpAny_updateSeq hs2 rfl ?_
     apply wpAny_bind;apply wpAny_letGo
     rw [nm]
     refine wpAny_pure ⟨plainId_quiet F.plain_min_loop _,ih (k+1) _ v _ (by omega) (by omega) (fun b o q=>(Heap.get?_update_other _ _ (Ne.symm (KJ b o q).2)).trans (L8 b o q)) (W.frame _ _ _ st2 fun b q1 o q=>(Heap.get?_update_other _ _ (fun z:S=b=>hS (z▸q1))).trans q) (by simp only [argBest,d,if_true];exact pv) (Heap.get?_update_self _ hs2 rfl) fun v2 h2 Mb p2 JF=>?_⟩
     exact hR v2 h2 Mb p2 fun b o q1 q2 q=>JF b o q1 q2 ((Heap.get?_update_other _ _ (Ne.symm q2)).trans (kp b o q1 q))
   | false=>
     rw [if_neg Vx]
     apply wpAny_bind;apply wpAny_letGo
     rw [nm]
     refine wpAny_pure ⟨plainId_quiet F.plain_min_loop _,ih (k+1) _ vb c (by omega) (by omega) L8 st2 (by simp only [argBest,d,Vt,if_false];exact pb) hs2 fun v2 h2 Mb p2 JF=>?_⟩
     exact hR v2 h2 Mb p2 fun b o q1 q2 q=>JF b o q1 q2 (kp b o q1 q)
theorem B0 {h0:Heap} {I S:Addr} {fp wr:List Addr} {n:Nat} {Pr:Nat→Value→Prop} {St:Nat→Heap→Prop} {bt:Nat→Nat→Bool} {R:Result→Shared→Prop} {t:Shared} {c:Nat} (W:Walks P w A.in1 I fp wr n Pr St)
 (hc:∀ (i j:Nat) (vi vj:Value) (t:Shared) (Q:Value→Shared→Prop) (E:Value→Shared→Prop),j7 h0 t.heap→Pr i vi→Pr j vj→Q (.bool (bt i j)) t→wpAny (model P w) A.in1 (richCompare .Lt vi vj) Q E t)
 (hS:S∉fp) (KJ:∀ b o,h0.get? b=some o→b∉wr∧b≠S) (hn:0 < n) (gr:j7 h0 t.heap) (st:St 0 t.heap) (hs:t.heap.get? S=some { cls:= .type "list",dict:=none,data:= .seq #[] c,slots:= #[] })
 (hR:∀ v h' tk,Pr (argBest bt (n - 1)) v→(∀ b o,b∉wr→b≠S→t.heap.get? b=some o→h'.get? b=some o)→R (.ok (.ret v)) { t with heap:=h',toks:=tk }) :
 codeAny (model P w) A (.builtin "min.loop" ⟨[.ref I,.none,.ref S],[]⟩) R t:=by
 have Sw:S∉wr:=fun q=>hS (W.sub _ q)
 have nm:(toString "min" ++ toString ".loop" :String)= "min.loop" :=by decide
 refine codeAny_builtin F.entry_min_loop ?_
 rw [Around.under_plainId F.plain_min_loop]
 show wpAny (model P w) A.in1 (seqItems? (.ref S) >>= _) _ _ t
 apply wpAny_bind;apply wpAny_seqItems hs rfl
 show wpAny (model P w) A.in1 (tryCatch (pyNext (.ref I)) _ >>= _) _ _ t
 apply wpAny_bind;apply wpAny_tryCatch
 refine W.item 0 t _ _ hn st fun v h' tk pv st2 kp=>?_
 have hs2:=kp S _ Sw hs
 have L8:j7 h0 h':=fun b o q=>kp b o (KJ b o q).1 (gr b o q)
 show wpAny (model P w) A.in1 (updateSeq S (fun _=> #[v,v]) >>= _) _ _ _
 apply wpAny_bind
 refine wpAny_updateSeq hs2 rfl ?_
 rw [nm]
 refine wpAny_pure ⟨plainId_quiet F.plain_min_loop _,JE W hc hS KJ _ 0 _ v _ rfl hn (fun b o q=>(Heap.get?_update_other _ _ (Ne.symm (KJ b o q).2)).trans (L8 b o q)) (W.frame _ _ _ st2 fun b q1 o q=>(Heap.get?_update_other _ _ (fun z:S=b=>hS (z▸q1))).trans q) pv (Heap.get?_update_self _ hs2 rfl) fun v2 h2 Mb p2 JF=>?_⟩
 exact hR v2 h2 Mb p2 fun b o q1 q2 q=>JF b o q1 q2 ((Heap.get?_update_other _ _ (Ne.symm q2)).trans (kp b o q1 q))
theorem DF {vs:List Value} {bt:Nat→Nat→Bool} {Q:Value→Shared→Prop} (ha:argsOk "min" ⟨vs,[]⟩) (h2:2≤vs.length) (hz:vs.length < 64) (hh:A.handled=none)
 (hc:∀ (i j:Nat) (vi vj:Value) (t:Shared) (Q:Value→Shared→Prop) (E:Value→Shared→Prop),j7 s.heap t.heap→vs[i]?=some vi→vs[j]?=some vj→Q (.bool (bt i j)) t→wpAny (model P w) A.in1 (richCompare .Lt vi vj) Q E t)
 (h:∀ v h' tk,vs[argBest bt (vs.length - 1)]?=some v→j7 s.heap h'→Q v { s with heap:=h',toks:=tk }):wpAny (model P w) A (call (.builtin "min") vs) Q E s:=by
 have nm:(toString "min" ++ toString ".loop" :String)= "min.loop" :=by decide
 have lz:vs.length≤sizeLine:=by rw [sizeLine_eq];omega
 refine call_function_tree F.kind_min F.plain_min F.entry_min ha ?_
 match vs,h2 with
 | v1 :: v2 :: rest,_=>
   show wpAny (model P w) A.in1 (Builtin.Builtins.bindParams "min" ["key","default"] 0 ⟨[],[]⟩ >>= _) _ _ s
   refine wpAny_bind (wpAny_of_eq (show Builtin.Builtins.bindParams "min" ["key","default"] 0 ⟨[],[]⟩=pure [none,none] from rfl) ?_)
   show wpAny (model P w) A.in1 (newTuple (v1 :: v2 :: rest) >>= _) _ _ s
   refine wpAny_bind (wpAny_newTuple (hsz:=lz) ?_)
   have DG:(s.heap.push { cls:= .type "tuple",data:= .seq (v1 :: v2 :: rest).toArray }).objs.size=s.heap.objs.size+1:=Heap.size_push ..
   have tp:(s.heap.push { cls:= .type "tuple",data:= .seq (v1 :: v2 :: rest).toArray }).IsTuple s.heap.objs.size (v1 :: v2 :: rest).toArray:=⟨_,Heap.get?_push_size _ rfl,rfl,0,rfl⟩
   refine wpAny_bind (wpAny_pyIter_tuple tp ?_)
   generalize hg:s.heap.push { cls:= .type "tuple",data:= .seq (v1 :: v2 :: rest).toArray }=g at DG tp
   have k0:j7 s.heap g:=fun b o q=>by rw [← hg];exact Heap.get?_push_of_some _ q
   apply wpAny_bind
   refine wpAny_newObj_type ?_
   have O3:(g.push { cls:= .type "tuple_iterator",data:= .fields #[.ref s.heap.objs.size,.int 0 0] }).objs.size=s.heap.objs.size+2:=by rw [Heap.size_push,DG]
   rw [nm]
   refine wpAny_pure ⟨plainId_quiet F.plain_min_loop _,B0 (h0:=s.heap) (Walks.tuple (A:=A.in1) hh _ s.heap.objs.size (by rw [DG];exact VQ (Xp _)) (v1 :: v2 :: rest).toArray) (bt:=bt) (fun i j vi vj t Q E g1 p1 p2 q=>hc i j vi vj t Q E g1 (by simpa using p1) (by simpa using p2) q) ?_ (fun b o q=>?_) (by simp) (fun b o q=>Heap.get?_push_of_some _ (Heap.get?_push_of_some _ (k0 b o q))) ⟨⟨_,Heap.get?_push_of_some _ (Heap.get?_push_size _ rfl),rfl,rfl⟩,(tp.push _).push _⟩ (Heap.get?_push_size _ rfl) fun v h' tk p kp=>?_⟩
   ·intro q
    rw [DG,O3] at q
    rcases Vl.mp q with q | q
    ·exact absurd q (by intro z;exact absurd (Nat.succ.inj z) (Nat.succ_ne_self _))
    ·have q:=Vm.mp q
     exact absurd q (by intro z;have:s.heap.objs.size+2=s.heap.objs.size:=z;omega)
   ·have lb:=Heap.lt_size q
    rw [DG,O3]
    refine ⟨fun z=>?_,fun z=>?_⟩
    ·have z:=Vm.mp z
     rw [z] at lb
     exact absurd lb (Xx.mpr (WQ _))
    ·rw [z] at lb
     exact absurd lb (Xx.mpr (V5 _ 2))
   ·refine h v h' tk (by simpa using p) fun b o q=>?_
    have lb:=Heap.lt_size q
    refine kp b o (fun z=>?_) (fun z=>?_) (Heap.get?_push_of_some _ (Heap.get?_push_of_some _ (k0 b o q)))
    ·have z:=Vm.mp z
     rw [z,DG] at lb
     exact absurd lb (Xx.mpr (WQ _))
    ·rw [z,O3] at lb
     exact absurd lb (Xx.mpr (V5 _ 2))
end
end L3
namespace HT
open PySem PyProof.Rows
section
open PySem.SeqAt
open PySem.AutoSeq1 (wpAny_loadPart')
open PySem.MeetsSeq PySem.MeetsSeq2 PySem.MeetsSeq3
end
section
variable {prog:Program} {w:World} {A:Around} {E:Value→Shared→Prop} {s:Shared}
end
end HT
namespace L3
open PySem PySem.Spec PyProof.Rows L2
section
variable {X:Cx} {pos:Pos}
def JG (t:tN) (g:tO) (tb:i6):i6:=fun D ρ M=>t ρ M fun xs M1=>xs.length≤sizeLine∧bO (runFor (fun _=>True) g tb D xs ρ M1)
theorem Gp {tg:Expr} {body:List Stmt} {g:tO} {tb:i6} {es:List Expr} {t:tN} {Dy:Pos} (hp:PassesOwn (model X.prog X.w) X.A X.env X.xe) (hc:X.calm=true) (hi:zA X es t) (hg:BU X tg g) (hb:i8 X body tb)
 (hs:∀ x,foldedSetIterable (.List es Dy) X.env x=pure x:=by intro _;rfl):vJ X (.For tg (.List es Dy) body [] pos) (JG t g tb):=AX (oQ hp hc (qD (zq hi.dn)) hg.dn hb.dn hs) fun σ H ρ M D r q=>jW r q fun vs H' ds M' f dv r' ⟨hl,q⟩=>by
 refine ⟨by rw [← dv.length];exact hl,fun p hp=>⟨p,rfl,⟨vs,iI.of bN⟩,?_⟩⟩
 have fr:Fr M' H' M' (upd H' p (.lst vs)):=Fr.new hp fun _ _=>rfl
 have r2:=r'.go fr (r'.mem.new hp)
 exact jb vM (f.trans fr) r2 (fun M1 H1 f1 _ _=>⟨vs,(f1 p _ (r'.mem.free hp) bN).1,aC.mono ((Ext.new hp).trans (f1.ext r2.mem)) _ _ dv⟩) q.out
theorem nG (p q:Pl):HT.lexLt [p.x,p.y] [q.x,q.y]=decide (aI p q):=by
 rw [HT.l9,HT.l9,HT.lH]
 by_cases ex:p.x=q.x
 ·rw [if_pos ex]
  by_cases ey:p.y=q.y
  ·rw [if_pos ey];exact (decide_eq_false (by unfold aI;omega)).symm
  ·rw [if_neg ey,decide_eq_decide];unfold aI;omega
 ·rw [if_neg ex,decide_eq_decide];unfold aI;omega
theorem DH {P:Program} {w:World} {K:PySem.W.Frag} {H:Hp} {h:Heap} {p:Pl} {x:V} {u:Value} (ok:jk P w H h) (d:Dat K H p.d x) (r:RelV x u):lR h u p:=by
 obtain ⟨a,xs,rfl,ha,hx⟩:=aR.mp d
 obtain rfl:u=Value.ref a:=r
 obtain ⟨its,rv,⟨o,h1,h2,n,h3⟩,_⟩:=dN ok ha
 obtain ⟨v1,v2,rfl,d1,d2⟩:=xS hx
 obtain rfl:=aP.mp d1
 obtain rfl:=aP.mp d2
 obtain ⟨u1,u2,rfl,⟨t1,rfl⟩,⟨t2,rfl⟩⟩:=vals2 rv
 exact ⟨a,o,t1,t2,n,rfl,h1,h2,h3⟩
theorem lR.tup {h:Heap} {v:Value} {p:Pl} (a:lR h v p):∃ (l:Addr) (its:Array Value),v= .ref l∧IsTup h l its∧IntsAre its.toList [p.x,p.y]:=by
 obtain ⟨b,o,t,u,n,h1,h2,h3,h4⟩:=a
 exact ⟨b,_,h1,⟨o,h2,h3,n,h4⟩,.cons _ _ (.cons _ _ .nil)⟩
def dg (h:Heap):List Value→List Pl→Prop:=Paired (lR h)
theorem nH {P:Program} {w:World} {K:PySem.W.Frag} {H:Hp} {h:Heap} (ok:jk P w H h):∀ {ps:List Pl} {xs:List V} {us:List Value},aC K H (ps.map Pl.d) xs→Vals xs us→dg h us ps
 | [],xs,us,d,r=>by rw [aH.mp d] at r;cases r;exact .nil
 | p :: ps,xs,us,d,r=>by
   obtain ⟨v,vs,rfl,d1,d2⟩:=aA.mp d
   cases r with
   | cons r rr=>exact .cons (DH ok d1 r) (nH ok d2 rr)
theorem dg.get {h:Heap}:∀ {us:List Value} {ps:List Pl} {i:Nat} {u:Value},dg h us ps→us[i]?=some u→∃ p,ps[i]?=some p∧lR h u p
 | _,_,i,u,.nil,e=>by simp at e
 | _,_,i,u,.cons a r,e=>by
   cases i with
   | zero=>simp at e;subst e;exact ⟨_,rfl,a⟩
   | succ i=>exact dg.get (i:=i) r (by simpa using e)
theorem Vals.len {xs:List V} {us:List Value} (r:Vals xs us):us.length=xs.length:=(Vals.length r).symm
def bestOf (lt:Pl→Pl→Bool) (ps:List Pl) (i j:Nat):Bool:=lt (ps.getD i ⟨0,0⟩) (ps.getD j ⟨0,0⟩)
def Mc (lt:Pl→Pl→Bool):List D→Mp→DK→Prop:=fun ds M Q=> ∃ ps:List Pl,ds=ps.map Pl.d∧2≤ps.length∧ps.length≤4∧Q (ps.getD (argBest (bestOf lt ps) (ps.length - 1)) ⟨0,0⟩).d M
theorem rE (bt:Nat→Nat→Bool):∀ n,argBest bt n≤n
 | 0=>Vr 0
 | n+1=>by
   unfold argBest
   split
   ·exact Vr _
   ·exact Nat.le_succ_of_le (rE bt n)
theorem Gq (a b:Value):argsOk "min" ⟨[a,b],[]⟩:=by unfold argsOk;kernel_rfl
theorem Gr (a b c:Value):argsOk "min" ⟨[a,b,c],[]⟩:=by unfold argsOk;kernel_rfl
theorem Gs (a b c d:Value):argsOk "min" ⟨[a,b,c,d],[]⟩:=by unfold argsOk;kernel_rfl
theorem JH:∀ (vs:List Value),2≤vs.length→vs.length≤4→argsOk "min" ⟨vs,[]⟩:=by
 intro vs h2 h4
 cases vs with
 | nil=>exact absurd h2 (by decide)
 | cons a vs=>
   cases vs with
   | nil=>exact absurd h2 (by simp)
   | cons b vs=>
     cases vs with
     | nil=>exact Gq a b
     | cons c vs=>
       cases vs with
       | nil=>exact Gr a b c
       | cons d vs=>
         cases vs with
         | nil=>exact Gs a b c d
         | cons e vs=>exact absurd h4 (by simp only [VN];omega)
theorem JI (hu:X.A.units+64 < cLine) (hc:X.calm=true):Call3 X (.builtin "min") (Mc fun p q=>decide (aI p q)):=by
 constructor
 intro pins s σ H M xs ds us Q I rm rs dx ⟨ps,e,h2,h4,q⟩
 subst e
 have hl:us.length=ps.length:=by rw [Vals.len rs,← dx.length,Vk]
 have hp:=nH I.hok dx rs
 refine DF (JH us (by omega) (by omega)) (by omega) (by omega) (I.ok.hd hc) (bt:=bestOf (fun p q=>decide (aI p q)) ps) (fun i j vi vj t Q E g e1 e2 q=>?_) fun v h' tk e g=>?_
 ·obtain ⟨p1,f1,a1⟩:=hp.get e1
  obtain ⟨p2,f2,a2⟩:=hp.get e2
  obtain ⟨l1,i1,rfl,t1,n1⟩:=(a1.grow g).tup
  obtain ⟨l2,i2,rfl,t2,n2⟩:=(a2.grow g).tup
  have eb:bestOf (fun p q=>decide (aI p q)) ps i j=decide (aI p1 p2):=by unfold bestOf;rw [VX,VX,f1,f2];rfl
  rw [eb,← nG] at q
  exact (HT.mh t1 t2 n1 n2 (by show X.A.units+1 < cLine;omega) q:wpAny (model X.prog X.w) X.A.in1 (compareOp .Lt (.ref l1) (.ref l2)) Q E t)
 ·rw [hl] at e
  obtain ⟨x,ex,rx⟩:∃ x,xs[argBest (bestOf (fun p q=>decide (aI p q)) ps) (ps.length - 1)]?=some x∧RelV x v:=by
   have lt:argBest (bestOf (fun p q=>decide (aI p q)) ps) (ps.length - 1) < xs.length:=by
    have:=rE (bestOf (fun p q=>decide (aI p q)) ps) (ps.length - 1)
    rw [← dx.length,Vk];omega
   obtain ⟨u,eu,ru⟩:=Vals.get rs (Vn lt)
   rw [e] at eu
   cases eu
   exact ⟨_,Vn lt,ru⟩
  obtain ⟨d,ed,dd⟩:=dx.back ex
  rw [VT] at ed
  have eq:d=(ps.getD (argBest (bestOf (fun p q=>decide (aI p q)) ps) (ps.length - 1)) ⟨0,0⟩).d:=by
   rw [VX]
   cases z:ps[argBest (bestOf (fun p q=>decide (aI p q)) ps) (ps.length - 1)]? with
   | none=>rw [z] at ed;cases ed
   | some p=>rw [z] at ed;cases ed;rfl
  subst eq
  exact ⟨x,H,I.kept g,rx,aD rm dd q⟩
noncomputable def vQ (h:Heap) (v:Value):Pl:=Option.getD (α:=Pl) ((CP h).keyOf v) ⟨0,0⟩
theorem A4 {h:Heap} {v:Value} {p:Pl} (a:lR h v p):vQ h v=p:=by
 unfold vQ
 have e:(CP h).keyOf v=some p:=A3 a
 exact congrArg (fun o=>Option.getD (α:=Pl) o ⟨0,0⟩) e
theorem dg.keys {h:Heap}:∀ {us:List Value} {ps:List Pl},dg h us ps→us.map (vQ h)=ps
 | _,_,.nil=>rfl
 | _,_,.cons a r=>by rw [VP,A4 a,dg.keys r]
theorem dg.mem {h:Heap}:∀ {us:List Value} {ps:List Pl} {v:Value},dg h us ps→v∈us→∃ p,lR h v p
 | _,_,v,.nil,m=>by cases m
 | _,_,v,.cons a r,m=>by
   rcases Vl.mp m with rfl | m
   ·exact ⟨_,a⟩
   ·exact dg.mem r m
theorem cV {α:Type}:∀ {vs:List α} {p:α ×α},p∈vs.zip vs→p.1=p.2∧p.1∈vs
 | [],p,m=>by simp at m
 | v :: vs,p,m=>by
   rw [WB] at m
   rcases Vl.mp m with rfl | m
   ·exact ⟨rfl,Vz ..⟩
   ·exact ⟨(cV m).1,Vj _ (cV m).2⟩
theorem tT {P:Program} {w:World} {A:Around} {E:Value→Shared→Prop} {s:Shared} {l:Addr} {vs:List Value} {ps:List Pl} {Q:Value→Shared→Prop} (hl:s.heap.IsList l vs.toArray) (hv:dg s.heap vs ps) (h64:vs.length < 64)
 (h:∀ (out:List Value) (qs:List Pl),(∀ v∈out,v∈vs)→qs=out.map (vQ s.heap)→qs.Perm ps→qs.Pairwise (fun p q=> ¬ aI q p)→Q (.ref (s.heap.objs.size+1)) { s with heap:=sortedAll s.heap vs out.toArray }) :
 wpAny (model P w) A (call (.builtin "sorted") [.ref l]) Q E s:=by
 have hk:KeysOf (CP s.heap) (pairsOf vs):=fun p hp=>by
  rw [pairsOf_toList] at hp
  obtain ⟨q,a⟩:=hv.mem (cV hp).2
  exact ⟨q,A3 a⟩
 refine uJ (κ:=CP s.heap) (kd:=tuples' true) hl hk (fun t E Q g h2 q=>Gn (by omega) (fun v m=>?_) q) (fun t g=>JD g true) h64 fun y hp hs=>?_
 ·obtain ⟨p,a⟩:=hv.mem m
  exact ⟨p,a.grow g⟩
 ·have pl:y.toList.Perm (vs.zip vs):=by rw [← pairsOf_toList];exact Array.perm_iff_toList_perm.mp hp
  have same:∀ p∈y.toList,p.1=p.2∧p.1∈vs:=fun p m=>cV (pl.mem_iff.mp m)
  have eo:y.map (·.2)=(y.toList.map (·.2)).toArray:=by rw [← Array.toList_map,Array.toArray_toList]
  rw [eo]
  refine h (y.toList.map (·.2)) _ (fun v m=>?_) rfl ?_ ?_
  ·obtain ⟨p,m2,rfl⟩:=VJ.mp m
   rw [← (same p m2).1];exact (same p m2).2
  ·have q:=(pl.map (fun p=>p.2)).map (vQ s.heap)
   have e:(vs.zip vs).map (fun p=>p.2)=vs:=Yx (Vr _)
   rw [e,hv.keys] at q
   exact q
  ·rw [XI]
   intro i j hi hj hij
   have li:i < y.size:=by simpa using hi
   have lj:j < y.size:=by simpa using hj
   have q:=hs i j (Xf hij) (by rw [← hp.size_eq];exact lj)
   have key:∀ k (hk:k < y.size),KK (CP s.heap) y k=vQ s.heap y[k].2:=fun k hk=>by
    unfold KK
    rw [getElem?_pos y k hk]
    show Option.getD (α:=Pl) ((CP s.heap).keyOf y[k].1) ⟨0,0⟩=_
    rw [(same y[k] (by simp)).1]
    rfl
   have q:(CP s.heap).blt (KK (CP s.heap) y j) (KK (CP s.heap) y i)=false:=q
   rw [key i li,key j lj] at q
   have q:decide (aI (vQ s.heap y[j].2) (vQ s.heap y[i].2))=false:=q
   simpa using of_decide_eq_false q
def Gu:List D→Mp→DK→Prop:=fun ds M Q=> ∃ (l:Addr) (ps:List Pl),ds= [.ref l]∧M l=some (.lst (ps.map Pl.d))∧ps.length < 64∧∀ (p:Addr) (qs:List Pl),M p=none→qs.Perm ps→qs.Pairwise (fun p q=> ¬ aI q p)→Q (.ref p) (ay M p (.lst (qs.map Pl.d)))
theorem uM {K:PySem.W.Frag} {H:Hp} {h:Heap} {P:Program} {w:World} (ok:jk P w H h) {ps:List Pl} {zs:List V} {vs:List Value} (d:aC K H (ps.map Pl.d) zs) (r:Vals zs vs):∀ (out:List Value),(∀ v∈out,v∈vs)→
 ∃ ws,Vals ws out∧aC K H ((out.map (vQ h)).map Pl.d) ws
 | [],_=>⟨[],.nil,aH.mpr rfl⟩
 | v :: out,m=>by
   obtain ⟨ws,h1,h2⟩:=uM ok d r out fun u hu=>m u (Vj _ hu)
   have one:∀ {ps:List Pl} {zs:List V} {vs:List Value},aC K H (ps.map Pl.d) zs→Vals zs vs→v∈vs→∃ (p:Pl) (x:V),RelV x v∧Dat K H p.d x:=by
    intro ps
    induction ps with
    | nil=>intro zs vs d r m;rw [aH.mp d] at r;cases r;cases m
    | cons p ps ih=>
      intro zs vs d r m
      obtain ⟨x,xs,rfl,d1,d2⟩:=aA.mp d
      cases r with
      | cons r1 r2=>
        rcases Vl.mp m with rfl | m
        ·exact ⟨p,x,r1,d1⟩
        ·exact ih d2 r2 m
   obtain ⟨p,x,rx,dx⟩:=one d r (m v (Vz ..))
   refine ⟨x :: ws,.cons rx h1,?_⟩
   rw [VP,VP,A4 (DH ok dx rx)]
   exact aA.mpr ⟨x,ws,rfl,dx,h2⟩
theorem j8:Call3 X (.builtin "sorted") Gu:=by
 constructor
 intro pins s σ H M xs ds us Q I rm rs dx ⟨l,ps,e,hM,h64,q⟩
 subst e
 obtain ⟨v,rfl,hv⟩:=qY dx
 obtain rfl:=aF.mp hv
 obtain ⟨u,rfl,r1⟩:=vals1 rs
 obtain rfl:u=Value.ref l:=r1
 obtain ⟨zs,hH,hz⟩:=rm.lst hM
 obtain ⟨its,rv,pl,hsz⟩:=I.list (iI.of (K:=X.K) hH)
 have hl:its.length=ps.length:=by rw [Vals.len rv,← hz.length,Vk]
 refine tT pl.isList (nH I.hok hz rv) (by omega) fun out qs hm eq hp hs=>?_
 obtain ⟨ws,w1,w2⟩:=uM I.hok hz rv out hm
 rw [← eq] at w2
 obtain ⟨n,hn⟩:=sortedAll_at s.heap its out.toArray
 have fr:H (s.heap.objs.size+1)=none:=I.hok.fresh (WQ _)
 have zw:ws.length≤sizeLine:=by
  rw [← w2.length,Vk,hp.length_eq,sizeLine_eq];omega
 refine ⟨.ref (s.heap.objs.size+1),upd H (s.heap.objs.size+1) (.lst ws),I.laid (t':=s.toks) (fun b o e=>sortedAll_old e) (WQ _) ⟨zw,out,n,w1,hn⟩,rfl,.ref _,ay M _ (.lst (qs.map Pl.d)),Fr.new fr fun _ hb=>aE hb,aF.mpr rfl,rm.newL fr w2,q _ _ (rm.free fr) hp hs⟩
end
end L3
local macro_rules | `(tactic| walk_at "sm")=> `(tactic| first | assumption | exact L3.Sm.sign _ | exact L3.Sm.zero | exact L3.Sm.one | exact L3.Sm.two | ((with_reducible apply L3.Sm.mul) <;> walk_at "sm") | ((with_reducible apply L3.Sm.sub) <;> walk_at "sm") | ((with_reducible apply L3.Sm.add) <;> walk_at "sm") | ((with_reducible apply L3.Sm.neg) <;> walk_at "sm") | ((with_reducible apply L3.Sm.abs) <;> walk_at "sm") | ((with_reducible apply L3.Sm.emod);(first | omega | decide +kernel);walk_at "sm") | exact L3.Sm.lit _)
local macro_rules | `(tactic| walk_at "mulok")=> `(tactic| (apply L3.MulOk.of;walk_at "sm";walk_at "sm";first | omega | decide +kernel))
local macro_rules | `(tactic| walk_at "rd1")=> `(tactic| first | refine ⟨_,rfl,?_⟩ | refine ⟨_,_,rfl,rfl,?_⟩ | refine ⟨_,_,_,Or.inl rfl,rfl,rfl,?_⟩ | (refine ⟨?side,?_⟩;(case side=>first | walk_at "mulok" | (simp only [VN,WL];decide) | (show (0:Int) < _;first | omega | (dsimp only;omega) | decide +kernel) | (show (0:Int)≤_;first | omega | (dsimp only;omega)) | exact ⟨by decide +kernel,by decide +kernel,by decide +kernel⟩ | exact ⟨by decide +kernel,_,L3.Sm.lit _,by decide +kernel⟩ | (left;walk_at "mulok") | exact Or.inr (Or.inr ⟨by decide,by decide⟩) | decide)) | refine ⟨rfl,?_⟩ | refine ⟨trivial,?_⟩ | refine ⟨_,Or.inl rfl,rfl,?_⟩ | refine ⟨_,_,rfl,Or.inl rfl,?_⟩ | refine ⟨_,_,_,_,rfl,L3.Dt.int _,L3.nk,?_⟩ | refine ⟨_,_,_,_,rfl,L3.Dt.tup _,L3.nk,?_⟩ | refine ⟨_,_,_,_,rfl,L3.Dt.bl _,L3.nk,?_⟩ | refine ⟨_,_,rfl,?_⟩ | refine ⟨_,_,_,rfl,?_⟩ | refine ⟨_,_,_,_,rfl,?_⟩)
local macro_rules | `(tactic| walk_at "rd")=> `(tactic| repeat walk_at "rd1")
local macro_rules | `(tactic| walk_at "smle")=> `(tactic| (apply L3.Sm.le;walk_at "sm";first | omega | decide +kernel))
local macro_rules | `(tactic| walk_at "om")=> `(tactic| first | omega | (dsimp only;omega))
namespace L3
open PySem L2
theorem A5 {a b c:Pl} (ha:a.Ok 140) (hb:b.Ok 140) (hc:c.Ok 140):Sm 290 (tw a b c):=by
 obtain ⟨a1,a2⟩:=ha
 obtain ⟨b1,b2⟩:=hb
 obtain ⟨c1,c2⟩:=hc
 unfold tw
 walk_at "smle"
theorem zF {p q:Pl} (hp:p.Ok 140) (hq:q.Ok 140):Sm 290 (vN p q):=by
 obtain ⟨p1,p2⟩:=hp
 obtain ⟨q1,q2⟩:=hq
 unfold vN
 walk_at "smle"
theorem O4 (a b c d:Pl):inD d.d [a.d,b.d,c.d]=decide (d=a∨d=b∨d=c):=by
 unfold inD
 rw [W8,W8,W8,List.any_nil,oX,oX,oX,XJ,V0]
 simp only [Yz,decide_eq_true_eq]
 grind
theorem nI {α:Type} {qs:List α} (h:qs.length=3):∃ u v w,qs= [u,v,w]:=by
 match qs,h with
 | [u,v,w],_=>exact ⟨u,v,w,rfl⟩
theorem DI {α:Type} {v w b c:α} (h: [v,w].Perm [b,c]):(v=b∧w=c)∨(v=c∧w=b):=by
 have m:v∈[b,c]:=h.mem_iff.mp (by simp)
 rcases Vl.mp m with rfl | m
 ·exact .inl ⟨rfl,by have:=(W5 v).mp h;simpa using this⟩
 ·have:=Vm.mp m
  subst this
  have h2:=(W5 v).mp (h.trans (List.Perm.swap v b []))
  exact .inr ⟨rfl,by simpa using h2⟩
theorem uN {α:Type} {u v w a b c:α} (h: [u,v,w].Perm [a,b,c]):(u=a∧v=b∧w=c)∨(u=a∧v=c∧w=b)∨(u=b∧v=a∧w=c)∨(u=b∧v=c∧w=a)∨(u=c∧v=a∧w=b)∨(u=c∧v=b∧w=a):=by
 have m:u∈[a,b,c]:=h.mem_iff.mp (by simp)
 rcases Vl.mp m with rfl | m
 ·rcases DI ((W5 u).mp h) with ⟨e1,e2⟩ | ⟨e1,e2⟩
  ·exact .inl ⟨rfl,e1,e2⟩
  ·exact .inr (.inl ⟨rfl,e1,e2⟩)
 ·rcases Vl.mp m with rfl | m
  ·have h2:=(W5 u).mp (h.trans (List.Perm.swap u a [c]))
   rcases DI h2 with ⟨e1,e2⟩ | ⟨e1,e2⟩
   ·exact .inr (.inr (.inl ⟨rfl,e1,e2⟩))
   ·exact .inr (.inr (.inr (.inl ⟨rfl,e1,e2⟩)))
  ·have:=Vm.mp m
   subst this
   have h2:=(W5 u).mp (h.trans ((List.Perm.cons a (List.Perm.swap u b [])).trans (List.Perm.swap u a [b])))
   rcases DI h2 with ⟨e1,e2⟩ | ⟨e1,e2⟩
   ·exact .inr (.inr (.inr (.inr (.inl ⟨rfl,e1,e2⟩))))
   ·exact .inr (.inr (.inr (.inr (.inr ⟨rfl,e1,e2⟩))))
theorem xY {n:Nat} {u v w a b c:Pl} (h: [u,v,w].Perm [a,b,c]) (ha:a.Ok n) (hb:b.Ok n) (hc:c.Ok n):u.Ok n∧v.Ok n∧w.Ok n:=by
 rcases uN h with ⟨rfl,rfl,rfl⟩ | ⟨rfl,rfl,rfl⟩ | ⟨rfl,rfl,rfl⟩ | ⟨rfl,rfl,rfl⟩ | ⟨rfl,rfl,rfl⟩ | ⟨rfl,rfl,rfl⟩ <;> exact ⟨by assumption,by assumption,by assumption⟩
theorem DJ {u v w a b c d:Pl} (h: [u,v,w].Perm [a,b,c]):eB u v w d↔eB a b c d:=by
 rcases uN h with ⟨rfl,rfl,rfl⟩ | ⟨rfl,rfl,rfl⟩ | ⟨rfl,rfl,rfl⟩ | ⟨rfl,rfl,rfl⟩ | ⟨rfl,rfl,rfl⟩ | ⟨rfl,rfl,rfl⟩
 ·exact Iff.rfl
 ·exact Gh _ _ _ _
 ·exact rB _ _ _ _
 ·exact eL _ _ _ _
 ·exact (eL _ _ _ _).trans (eL _ _ _ _)
 ·exact (rB _ _ _ _).trans (eL _ _ _ _)
theorem Gv {u v w a b c d:Pl} (h: [u,v,w].Perm [a,b,c]):rg u v w d=rg a b c d:=by
 have mid:∀ a b c d,rg a c b d=rg a b c d:=fun a b c d=>by rw [← j5 a c b d,ny b c a d,j5]
 rcases uN h with ⟨rfl,rfl,rfl⟩ | ⟨rfl,rfl,rfl⟩ | ⟨rfl,rfl,rfl⟩ | ⟨rfl,rfl,rfl⟩ | ⟨rfl,rfl,rfl⟩ | ⟨rfl,rfl,rfl⟩
 ·rfl
 ·exact mid _ _ _ _
 ·exact ny _ _ _ _
 ·exact j5 _ _ _ _
 ·exact (j5 _ _ _ _).trans (j5 _ _ _ _)
 ·exact (ny _ _ _ _).trans (j5 _ _ _ _)
theorem uO {a b c d u v w:Pl} (hn:tw a b c≠0) (h0:rg a b c d=0) (hd:¬ (d=a∨d=b∨d=c)) (hp: [u,v,w].Perm [a,b,c]) (s1:¬ aI v u) (s2:¬ aI w u) :
 decide (eB a b c d)=if aI d u then true else decide ((tw v w d).sign≠(tw v w u).sign):=by
 have nab:a≠b:=fun e=>by subst e;rw [gF] at hn;exact hn rfl
 have O5:a≠c:=fun e=>by subst e;rw [gG] at hn;exact hn rfl
 have O6:b≠c:=fun e=>by subst e;rw [rj] at hn;exact hn rfl
 have ho:(u≠v∧u≠w)∧(d≠u∧d≠v∧d≠w):=by
  rcases uN hp with ⟨rfl,rfl,rfl⟩ | ⟨rfl,rfl,rfl⟩ | ⟨rfl,rfl,rfl⟩ | ⟨rfl,rfl,rfl⟩ | ⟨rfl,rfl,rfl⟩ | ⟨rfl,rfl,rfl⟩ <;> grind
 obtain ⟨⟨n1,n2⟩,e1,e2,e3⟩:=ho
 have b1:aI u v:=by rcases jq n1 with z | z;exact z;exact absurd z s1
 have b2:aI u w:=by rcases jq n2 with z | z;exact z;exact absurd z s2
 have e:decide (eB a b c d)=decide (eB u v w d):=by rw [decide_eq_decide];exact (DJ hp).symm
 rw [e]
 have h1:rg u v w d=0:=by rw [Gv hp];exact h0
 by_cases k:aI d u
 ·rw [if_pos k]
  exact decide_eq_true (.inr ⟨h1,e1,e2,e3,.inl ⟨k,bA k b1,bA k b2⟩⟩)
 ·rw [if_neg k,decide_eq_decide]
  have k2:aI u d:=by rcases jq e1 with z | z;exact absurd z k;exact z
  unfold eB
  rw [h1]
  constructor
  ·rintro (z | ⟨_,_,_,_,z | z | z | z⟩)
   ·cases z
   ·exact absurd z.1 k
   ·exact z.2.2.2
   ·exact absurd z.1 s1
   ·exact absurd z.1 s2
  ·intro z
   exact .inr ⟨rfl,e1,e2,e3,.inr (.inl ⟨b1,b2,k2,z⟩)⟩
theorem zG {a b c d u v w:Pl} (hn:tw a b c≠0) (h0:rg a b c d=0) (hd:¬ (d=a∨d=b∨d=c)) (hp: [u,v,w].Perm [a,b,c]) (hs: [u,v,w].Pairwise (fun p q=> ¬ aI q p)) :
 decide (eB a b c d)=if aI d u then true else decide ((tw v w d).sign≠(tw v w u).sign):=
 uO hn h0 hd hp ((VI.mp hs).1 v (by simp)) ((VI.mp hs).1 w (by simp))
instance (p q r s:Pl):Decidable (RZ p q r s):=inferInstanceAs (Decidable (_∨_))
theorem DL (i j:Int):(!er (.int i) (.int j))=decide (i≠j):=by
 rw [eG,V0]
 simp
theorem bB (qs:List Pl):(qs.map Pl.d).all (plain 9)=true:=by
 rw [XZ,V8]
 intro q _
 rfl
end L3
namespace L3
open PySem PySem.Spec PyProof.Rows L2
def cR (cells:List (Str ×Addr)) (names:List (Str ×NameKind)) (cs:List (Str ×Addr)):List (Str ×Addr):=
 names.foldl (fun cs y=>if (y.2 == NameKind.free)=true then (y.1,(cells.lookup y.1).getD 0) :: cs else cs) cs
theorem rF {α β:Type} {f:α→β→Sem (ForInStep β)} {g:β→α→β}:∀ {l:List α} {b:β},(∀ x∈l,∀ b,f x b=pure (.yield (g b x)))→forIn l b f=(pure (l.foldl g b):Sem β)
 | [],b,_=>rfl
 | x :: l,b,h=>by
   rw [WZ,h x (Vz ..),pure_bind]
   exact rF fun y hy=>h y (Vj _ hy)
theorem zH {sc:Scope} {env:Env} (h:∀ y∈sc.names,y.2= .free→∃ c,env.cells.lookup y.1=some c):closureFor sc env=pure (cR env.cells sc.names []):=by
 unfold closureFor cR
 dsimp only
 rw [rF (g:=fun cs y=>if (y.2 == NameKind.free)=true then (y.1,(env.cells.lookup y.1).getD 0) :: cs else cs)]
 ·rfl
 ·rintro ⟨n,k⟩ hy b
  by_cases hk:k= .free
  ·subst hk
   obtain ⟨c,hc⟩:=h _ hy rfl
   have hc:env.cells.lookup n=some c:=hc
   simp [cellOf,hc]
  ·have hb:(k == NameKind.free)=false:=by simpa using hk
   simp [hb]
theorem pY {cells:List (Str ×Addr)} {x:Str} {c:Addr}:∀ {names:List (Str ×NameKind)} {cs:List (Str ×Addr)},(∀ y∈names,y.2= .free→∃ c,cells.lookup y.1=some c)→(∀ x c,cs.lookup x=some c→cells.lookup x=some c)→
 (cR cells names cs).lookup x=some c→cells.lookup x=some c
 | [],cs,_,h,e=>h x c e
 | (n,k) :: r,cs,hf,h,e=>by
   refine pY (names:=r) (cs:=if (k == NameKind.free)=true then (n,(cells.lookup n).getD 0) :: cs else cs) (fun y hy=>hf y (Vj _ hy)) (fun x c q=>?_) e
   split at q
   ·rename_i hk
    rw [V2] at q
    split at q
    ·rename_i hx
     have hx:=eq_of_beq hx
     subst hx
     obtain ⟨c',hc⟩:=hf (x,k) (Vz ..) (eq_of_beq hk)
     have hc:cells.lookup x=some c':=hc
     rw [hc] at q
     rw [hc];exact q
    ·exact h x c q
   ·exact h x c q
theorem pZ {cells:List (Str ×Addr)} {x:Str}:∀ {names:List (Str ×NameKind)} {cs:List (Str ×Addr)},((cs.lookup x).isSome=true∨(x,NameKind.free)∈names)→((cR cells names cs).lookup x).isSome=true
 | [],cs,h=>by
   rcases h with h | h
   ·exact h
   ·cases h
 | (n,k) :: r,cs,h=>by
   refine pZ (names:=r) (cs:=if (k == NameKind.free)=true then (n,(cells.lookup n).getD 0) :: cs else cs) ?_
   rcases h with h | h
   ·left
    split
    ·rw [V2]
     split
     ·rfl
     ·exact h
    ·exact h
   ·rcases Vl.mp h with e | h
    ·left
     cases e
     simp [V2]
    ·exact .inr h
theorem mem_of_lookup {β:Type} {x:Str} {b:β}:∀ {l:List (Str ×β)},l.lookup x=some b→(x,b)∈l
 | [],h=>by cases h
 | (n,c) :: r,h=>by
   rw [V2] at h
   split at h
   ·rename_i hx
    cases h
    have:=eq_of_beq hx
    subst this
    exact Vz ..
   ·exact Vj _ (mem_of_lookup h)
def cW (outer:Scope) (N:List Str) (sc:Scope) (x:Str) (ys:List Str) (fs:List Nat):Bool:=
 (sc.kind == .function) && (outer.kind == .function) && sc.names.all (fun y=>!(y.2 == .cell) && (!(y.2 == .local) || sc.names.lookup y.1 == some .local) && (!(y.2 == .free) || outer.names.lookup y.1 == some .cell)) && (sc.names.lookup x == some .local) &&
  decide (ys.length=fs.length) && (ys.zip fs).all (fun p=>N[p.2]? == some p.1 && sc.names.lookup p.1 == some .free) && decide (x :: ys).Nodup
structure rG (outer:Scope) (N:List Str) (sc:Scope) (x:Str) (ys:List Str) (fs:List Nat):Prop where
 kind:sc.kind= .function
 Me:outer.kind= .function
 DM:∀ y∈sc.names,y.2≠ .cell
 names:∀ y∈sc.names,y.2= .local→sc.names.lookup y.1=some .local
 Nz:∀ y∈sc.names,y.2= .free→outer.names.lookup y.1=some .cell
 loc:sc.names.lookup x=some .local
 len:ys.length=fs.length
 at':∀ (k:Nat) y,ys[k]?=some y→∃ i,fs[k]?=some i∧N[i]?=some y∧sc.names.lookup y=some .free
 nd:(x :: ys).Nodup
theorem rG.of {outer:Scope} {N:List Str} {sc:Scope} {x:Str} {ys:List Str} {fs:List Nat} (h:cW outer N sc x ys fs=true):rG outer N sc x ys fs:=by
 unfold cW at h
 simp only [Wc,V8,decide_eq_true_eq] at h
 obtain ⟨⟨⟨⟨⟨⟨h1,R5⟩,h2⟩,h3⟩,h4⟩,h5⟩,h6⟩:=h
 refine ⟨eq_of_beq h1,eq_of_beq R5,fun y hy z=>?_,fun y hy z=>?_,fun y hy z=>?_,eq_of_beq h3,h4,fun k y e=>?_,h6⟩
 ·have:=(h2 y hy).1.1
  rw [z] at this
  simp at this
 ·have:=(h2 y hy).1.2
  rw [z] at this
  simpa using this
 ·have:=(h2 y hy).2
  rw [z] at this
  simpa using this
 ·have hk:k < fs.length:=by rw [← h4];exact (VO.mp e).1
  have ez:(ys.zip fs)[k]?=some (y,fs[k]):=by
   rw [List.getElem?_zip_eq_some]
   exact ⟨e,Vn hk⟩
  obtain ⟨q1,q2⟩:=h5 _ (Vy ez)
  exact ⟨fs[k],Vn hk,eq_of_beq q1,eq_of_beq q2⟩
theorem nJ {env:Env} {y:Str} (hk:env.scope.kind= .function) (hc:env.scope.names.lookup y=some .cell):∀ {names:List (Str ×NameKind)},names.lookup y=some .free→
 (names.map fun (n,k)=>if (k == NameKind.free && env.scope.kind == .function && env.kindOf n == some .cell) then (n,NameKind.cell) else (n,k)).lookup y=some .cell
 | [],h=>by cases h
 | (n,k) :: r,h=>by
   rw [V2] at h
   split at h
   ·rename_i hx
    cases h
    have:=eq_of_beq hx
    subst this
    have hc:env.kindOf y=some .cell:=hc
    simp [hk,hc,V2]
   ·rename_i hx
    have ih:=nJ hk hc h
    simp only [VP]
    split
    ·rw [V2,hx];exact ih
    ·rw [V2,hx];exact ih
abbrev uP (X:Cx) (sc:Scope) (x:Str) (ys:List Str) (cl:List (Str ×Addr)) (C:Addr) (s0:Shared) (H0:Hp) (ex:List Addr):Cx:=
 { X with N:=x :: ys,s₀:=s0,H₀:=H0,env:=compEnvC sc cl C X.env,outer:=X.stack,ex:=ex,fn:=fun _=>false,pn:=[],xe:=fun _ _=>False }
structure Mf (X:Cx) (ifs:List Expr) (t:mY):Prop where
 run:∀ (pins:List (Addr ×Obj)) (s:Shared) (σ:St) (H:Hp) (ρ:En) (M:Mp) (Q:Bool→Mp→Prop),Inv X pins σ H s→Rep X.K H σ ρ M→t ρ M Q→
  wpAny (model X.prog X.w) X.A (forIn ifs true fun c r=>if r=true then do { let ok ← isTrue c X.env (eval c X.env);pure (ForInStep.yield ok) } else pure (ForInStep.yield r)) (TP X pins σ (pV X.K M H Q)) X.xe s
theorem p7 {X:Cx} {c:Expr} {t:mY} (h:y9 X c t):Mf X [c] t:=⟨fun pins s σ H ρ M Q I r q=>wpAny_tests_one (h.run pins s σ H ρ M Q I r q)⟩
def nK (gd:Mp→Prop) (tt:mY) (te:cP) (fr:En) (Q:List D→Mp→Prop):List D→List D→Mp→Prop
 | [],acc,M=>gd M∧Q acc M
 | d :: ds,acc,M=>gd M∧tt (some d :: fr) M fun b M1=>if b=true then te (some d :: fr) M1 fun y M2=>nK gd tt te fr Q ds (acc ++ [y]) M2 else nK gd tt te fr Q ds acc M1
def nL (fs:List Nat) (ρ:En):En:=fs.map fun i=>(ρ[i]?).join
section
variable {X:Cx} {sc:Scope} {x:Str} {ys:List Str} {fs:List Nat}
theorem DN {fs:List Nat} {ρ:En} {k:Nat} {d:D} (h:(nL fs ρ)[k]?=some (some d)):∃ i,fs[k]?=some i∧ρ[i]?=some (some d):=by
 unfold nL at h
 rw [VT] at h
 cases e:fs[k]? with
 | none=>rw [e] at h;cases h
 | some i=>
   rw [e] at h
   refine ⟨i,rfl,?_⟩
   have h:(ρ[i]?).join=some d:=Option.some.inj h
   cases q:ρ[i]? with
   | none=>rw [q] at h;cases h
   | some o=>rw [q] at h;rw [show o=some d from h]
theorem B3 {pins:List (Addr ×Obj)} {σ:St} {H:Hp} {s s':Shared} {C:Addr} {fp:List Addr} {cl:List (Str ×Addr)} {ρ:En} {M:Mp} (ck:rG X.env.scope X.N sc x ys fs) (I:Inv X pins σ H s) (r:Rep X.K H σ ρ M) (hcl:cl=cR X.env.cells sc.names [])
 (hC:s.heap.objs.size≤C) (old:∀ b o,s.heap.get? b=some o→s'.heap.get? b=some o) (ns:∃ m,s'.heap.Ns C m) (hos:s'.os=s.os) (hg:s'.gens=s.gens) (hf:∀ b∈fp,jL X pins H b) (hfp:∀ b∈fp,b < s.heap.objs.size) :
 ∃ σ',Inv (uP X sc x ys cl C s H fp) [] σ' H s'∧Rep X.K H σ' (none :: nL fs ρ) M:=by
 have DO:∀ y∈sc.names,y.2= .free→∃ c,X.env.cells.lookup y.1=some c:=fun y hy hk=>I.ok.has y.1 (.inl (ck.Nz y hy hk))
 have cf:∀ {y c},cl.lookup y=some c→X.env.cells.lookup y=some c:=fun {y c} e=>by rw [hcl] at e;exact pY DO (fun _ _ z=>by cases z) e
 have ch:∀ y,sc.names.lookup y=some .free→∃ c,cl.lookup y=some c:=fun y e=>by rw [hcl];exact XS.mp (pZ (.inr (mem_of_lookup e)))
 have rk:∀ y k,(relabel sc X.env).names.lookup y=some k→(k= .cell∨k= .free)→∃ c,cl.lookup y=some c:=by
  intro y k e hk
  have:∃ k',sc.names.lookup y=some k'∧(k'=k∨k'= .free):=by
   clear ck DO cf ch
   revert e
   show (sc.names.map _).lookup y=some k→_
   generalize sc.names=names
   intro e
   induction names with
   | nil=>cases e
   | cons p r ih=>
     obtain ⟨n,kn⟩:=p
     simp only [VP] at e
     rw [V2]
     split
     ·rename_i hx
      split at e
      ·rename_i hc
       refine ⟨kn,rfl,.inr ?_⟩
       simp only [Wc] at hc
       exact eq_of_beq hc.1.1
      ·rw [V2,hx] at e
       exact ⟨kn,rfl,.inl (Option.some.inj e)⟩
     ·rename_i hx
      split at e <;> (rw [V2,hx] at e;exact ih e)
  obtain ⟨k',e',hk'⟩:=this
  rcases hk' with rfl | rfl
  ·rcases hk with rfl | rfl
   ·exact absurd rfl (ck.DM _ (mem_of_lookup e'))
   ·exact ch y e'
  ·exact ch y e'
 have lfp:∀ b∈fp,b≠C:=fun b hb z=>absurd (Vp (hfp b hb) hC) (by rw [z];exact Wu _)
 have ok:(uP X sc x ys cl C s H fp).Ok:={
  mod:=I.ok.mod
  kind:=ck.kind
  glob:=I.ok.glob
  blt:=I.ok.blt
  above:=hC
  inj:=fun a b c e1 e2=>I.ok.inj a b c (cf e1) (cf e2)
  has:=fun y hy=>by
   rcases hy with hy | hy
   ·exact rk y _ hy (.inl rfl)
   ·exact rk y _ hy (.inr rfl)
  KD:=fun _ _ z=>by cases z
  hd:=I.ok.hd
  frames:=I.ok.frames
  stk:= .inl rfl
  KR:=fun b hb=>⟨lfp b hb,fun y c e=>(hf b hb).2.2.2.2.1 y c (cf e)⟩
  bs:=I.bs
  Hz:=Wx I.ok.Hz I.sz
  BF:=fun b o e hb=>by
   rcases (hf b hb).2.2.2.1 with z | z
   ·exact I.ok.BF b o e z
   ·exact absurd (Vp (Heap.lt_size (I.ok.bs b o e).1) z) (Wu _)
  BG:=fun b hb z=>by
   rcases Vl.mp (I.zj b z) with e | e
   ·exact (hf b hb).2.1 e
   ·exact (hf b hb).2.2.1 e
  qg:=I.stack
  IB:=I.AH }
 have fC:H C=none:=I.hok.fresh hC
 obtain ⟨m,hm⟩:=ns
 refine ⟨none :: fs.map (fun i=>(σ[i]?).join),⟨ok,hos,by rw [hg];exact I.bare,Un.kept old,⟨m,hm,fun i y v e1 e2 e3=>?_⟩,fun y c e=>?_,fC,fun y c e=>I.lG y c (cf e),fun p hp=>(by cases hp),I.hok.kept old,by simp [ck.len]⟩,⟨fun i d e=>?_,?_,r.mem⟩⟩
 ·cases i with
  | zero=>cases e2
  | succ i=>
    have e1:ys[i]?=some y:=e1
    obtain ⟨j,f1,f2,f3⟩:=ck.at' i y e1
    have e2:(fs.map fun i=>(σ[i]?).join)[i]?=some (some v):=e2
    rw [VT,f1] at e2
    have e2:(σ[j]?).join=some v:=Option.some.inj e2
    have e4:σ[j]?=some (some v):=by
     cases q:σ[j]? with
     | none=>rw [q] at e2;cases e2
     | some o=>rw [q] at e2;rw [show o=some v from e2]
    have hc:X.env.scope.names.lookup y=some .cell:=ck.Nz (y,.free) (mem_of_lookup f3) rfl
    obtain ⟨m0,_,hl⟩:=I.loc
    obtain ⟨u,ru,lk⟩:=hl j y v f2 e4 (.inr (.inl hc))
    refine ⟨u,ru,?_⟩
    rcases lk with ⟨k1,_⟩ | ⟨_,c,e5,e6⟩
    ·have k1:X.env.scope.names.lookup y=some .local:=k1
     rw [hc] at k1;cases k1
    ·obtain ⟨c',e7⟩:=ch y f3
     have:=cf e7
     rw [e5] at this
     cases this
     refine .inr ⟨.inl (nJ I.ok.kind hc f3),c,e7,?_⟩
     obtain ⟨o,ho,hd⟩:=e6
     exact ⟨o,old _ _ ho,hd⟩
 ·obtain ⟨v,o,ho,hd⟩:=I.cell y c (cf e)
  exact ⟨v,o,old _ _ ho,hd⟩
 ·cases i with
  | zero=>cases e
  | succ i=>
    obtain ⟨j,f1,f2⟩:=DN (show (nL fs ρ)[i]?=some (some d) from e)
    obtain ⟨v,g1,g2⟩:=r.env j d f2
    refine ⟨v,?_,g2⟩
    show (fs.map fun i=>(σ[i]?).join)[i]?=some (some v)
    rw [VT,f1]
    show some ((σ[j]?).join)=_
    rw [g1];rfl
 ·simp [nL]
end
end L3
namespace L3
open PySem PySem.Spec PyProof.Rows L2
section
variable {X:Cx} {sc:Scope} {x:Str} {ys:List Str} {fs:List Nat} {elt iter:Expr} {px pos:Pos} {ifs:List Expr} {tt:mY} {te:cP}
theorem zI {α:Type} {t:Sem α} {Q Q':α→Shared→Prop} {M:Model} {A:Around} {E:Value→Shared→Prop} {s:Shared} (h:wpAny M A t Q (fun _ _=>False) s) (hQ:∀ a s,Q a s→Q' a s):wpAny M A t Q' E s:=wpAny_mono h hQ fun _ _ z=>z.elim
theorem xZ (elt target iter:Expr) (ifs:List Expr) (sc:Scope) (pos:Pos) (it acc:Value) (env:Env):compTurn (.ListComp elt [⟨target,iter,ifs,0⟩] sc pos) 0 it acc env=(standAt iter.pos >>= fun _=>pyNext it >>= fun r=>match r with
 | none=>pure (.done .next)
 | some v=>letOwnedTupleGo target it v >>= fun _=>assign target env v >>= fun _=>(forIn ifs true fun c r=>if r=true then do { let ok ← isTrue c env (eval c env);pure (ForInStep.yield ok) } else pure (ForInStep.yield r)) >>= fun ok=>
   if ok=true then (eval elt env >>= fun y=>call (.builtin "list.append") [acc,y] >>= fun _=>again (.compLoop (.ListComp elt [⟨target,iter,ifs,0⟩] sc pos) 0 it acc env)) else again (.compLoop (.ListComp elt [⟨target,iter,ifs,0⟩] sc pos) 0 it acc env)):=by
 rw [compTurn_list]
 congr 1;funext _;congr 1;funext r
 cases r with
 | none=>rfl
 | some v=>
   dsimp only
   congr 1;funext _;congr 1;funext _;congr 1;funext ok
   cases ok with
   | false=>rfl
   | true=>simp only [if_true,bind_assoc,pure_bind]
structure O7 (X X':Cx) (Dl:Addr) (fp:List Addr) (tn:Nat→Heap→Prop) (M0:Mp) (H0:Hp) (fr:En) (i:Nat) (s:Shared) (acc:List D) (M:Mp):Prop where
 ex:∃ σ H y ws,Inv X' [] σ H s∧tn i s.heap∧(∀ b∈fp,H b=none)∧Rep X.K H σ (y :: fr) M∧Fr M0 H0 M H∧H Dl=some (.lst ws)∧M Dl=none∧aC X.K H acc ws∧acc.length≤i
theorem Gw (hc:X.calm=true) (ck:rG X.env.scope X.N sc x ys fs) (ht:∀ cl C s0 H0 ex,Mf (uP X sc x ys cl C s0 H0 ex) ifs tt) (he:∀ cl C s0 H0 ex,cg (uP X sc x ys cl C s0 H0 ex) elt te)
 {pins:List (Addr ×Obj)} {σ:St} {H:Hp} {s:Shared} {ρ:En} {M:Mp} {it:Addr} {fp:List Addr} {tn:Nat→Heap→Prop} {J:It} {inv:Hp→Prop} {ds:List D} {gd:Mp→Prop} {Q:DK} {E:Value→Shared→Prop} {Ma:Mp} {Ha:Hp} {use:Option (Value→Sem Unit)} {Qs:Value→Shared→Prop} (fa:Fr Ma Ha M H)
 (fin:∀ (C Dl:Addr) (s6:Shared) (H5:Hp),Inv X pins σ H5 s6→(∃ m,s6.heap.Ns C m)→jL X pins H5 C→Post X.K Ma Ha Q (.ref Dl) H5→compPost (model X.prog X.w) X.A E use Qs (.ref Dl) C (.ok .next) s6)
 (I:Inv X pins σ H s) (r:Rep X.K H σ ρ M) (T:Turn X.prog X.w X.K (.Name x px) J fp it tn) (st:tn 0 s.heap) (hf:∀ b∈fp,jL X pins H b) (hJ:zD X.K J inv ds) (hz:ds.length < sizeLine)
 (stay:∀ M1 H1,Fr M H M1 H1→bE X.K H1 M1→gd M1→inv H1) (q:nK gd tt te (nL fs ρ) (fun zs M2=> ∀ p,M2 p=none→Q (.ref p) (ay M2 p (.lst zs))) ds [] M) :
 wpAny (model X.prog X.w) X.A (newList []) (fun acc s3=>wpAny (model X.prog X.w) X.A (newFunctionEnv sc X.env.globals (cR X.env.cells sc.names []) [] X.env.qual none .none (some X.env)) (fun cenv s4=>
  codeAny (model X.prog X.w) X.A (.compStart (.ListComp elt [⟨.Name x px,iter,ifs,0⟩] sc pos) 0 (.ref it) acc { cenv with scope:=relabel sc X.env }) (compPost (model X.prog X.w) X.A E use Qs acc cenv.locals) s4) E s3) E s:=by
 have hfp:∀ b∈fp,b < s.heap.objs.size:=fun b hb=>by
  obtain ⟨o,e,_⟩:=T.obj 0 _ st b hb
  exact Heap.lt_size e
 refine wpAny_newList (hsz:=Wi _) ?_
 have fD:H s.heap.objs.size=none:=I.hok.fresh (Vr _)
 have k1:∀ b o,s.heap.get? b=some o→(s.heap.push { cls:= .type "list",data:= .seq ([]:List Value).toArray }).get? b=some o:=fun b o e=>Heap.get?_push_of_some _ e
 have z3:(s.heap.push { cls:= .type "list",data:= .seq ([]:List Value).toArray }).objs.size=s.heap.objs.size+1:=Heap.size_push ..
 have I3:Inv X pins σ (upd H s.heap.objs.size (.lst [])) { s with heap:=s.heap.push { cls:= .type "list",data:= .seq ([]:List Value).toArray } }:=
  I.laid (t':=s.toks) k1 (Vr _) ⟨Wi _,[],0,.nil,Heap.get?_push_size _ rfl⟩
 refine wpAny_newFunctionEnv ck.DM (fun y hy=>by cases hy) (fun h1 QK QL=>?_) ck.kind
 generalize QM:({ s with heap:=s.heap.push { cls:= .type "list",data:= .seq ([]:List Value).toArray } }:Shared)=s3 at I3 QK QL ⊢
 have R6:s3.heap.objs.size=s.heap.objs.size+1:=by rw [← QM];exact z3
 have old:∀ b o,s3.heap.get? b=some o→h1.get? b=some o:=fun b o e=>QL.extBut b o (VQ (Heap.lt_size e)) (Heap.get?_push_of_some _ e)
 have QN:∀ b∈fp,jL X pins (upd H s.heap.objs.size (.lst [])) b:=fun b hb=>⟨by rw [aQ (VQ (hfp b hb))];exact (hf b hb).1,(hf b hb).2⟩
 have QO:Fr M H M (upd H s.heap.objs.size (.lst [])):=Fr.new fD fun _ _=>rfl
 have r3:Rep X.K (upd H s.heap.objs.size (.lst [])) σ ρ M:=r.go QO (r.mem.new fD)
 obtain ⟨σ',I4,r4⟩:=B3 (s:=s3) (s':={ s3 with heap:=h1,toks:=s3.toks+([]:List (Str ×Value)).length }) (C:=s3.heap.objs.size) (fp:=fp) ck I3 r3 rfl (Vr _) old ⟨_,QK⟩ rfl rfl QN (fun b hb=>by rw [R6];exact Wj (hfp b hb))
 have MD:M s.heap.objs.size=none:=r.mem.free fD
 have QS:tn 0 h1:=T.keep 0 _ _ st fun b hb o e=>old b o (by rw [← QM];exact k1 b o e)
 have O8:∀ {H':Hp},(∀ b∈fp,H' b=none)→∀ b∈fp,jL (uP X sc x ys (cR X.env.cells sc.names []) s3.heap.objs.size s3 (upd H s.heap.objs.size (.lst [])) fp) [] H' b:=fun {H'} hn b hb=>
  ⟨hn b hb,(I4.ok.KR b hb).1,I4.ok.BG b hb,.inl hb,fun y c e z=>(I4.ok.KR b hb).2 y c e z,fun p hp=>by cases hp⟩
 have loop:∀ s4:Shared,s4= { s3 with heap:=h1,toks:=s3.toks+([]:List (Str ×Value)).length }→
  codeAny (model X.prog X.w) X.A (.compLoop (.ListComp elt [⟨.Name x px,iter,ifs,0⟩] sc pos) 0 (.ref it) (.ref s.heap.objs.size) ((uP X sc x ys (cR X.env.cells sc.names []) s3.heap.objs.size s3 (upd H s.heap.objs.size (.lst [])) fp)).env) (compPost (model X.prog X.w) X.A E use Qs (.ref s.heap.objs.size) s3.heap.objs.size) s4:=by
  rintro s4 rfl
  refine codeAny_loop rfl (I:=fun n s'=> ∃ i acc M',n=ds.length - i∧i≤ds.length∧O7 X (uP X sc x ys (cR X.env.cells sc.names []) s3.heap.objs.size s3 (upd H s.heap.objs.size (.lst [])) fp) s.heap.objs.size fp tn M H (nL fs ρ) i s' acc M'∧nK gd tt te (nL fs ρ) (fun zs M2=> ∀ p,M2 p=none→Q (.ref p) (ay M2 p (.lst zs))) (ds.drop i) acc M')
   (fun n s5 hI=>?_) ds.length ⟨0,[],M,rfl,Wi _,⟨σ',_,none,[],I4,QS,fun b hb=>(QN b hb).1,r4,QO,bN,MD,aH.mpr rfl,Vr _⟩,q⟩
  obtain ⟨i,acc,M5,rfl,hi,⟨σ5,H5,y5,ws,I5,KG,f5,r5,FE,QT,QU,QV,Us⟩,q5⟩:=hI
  show wpAny (model X.prog X.w) X.A ((compTurn (.ListComp elt [⟨.Name x px,iter,ifs,0⟩] sc pos) 0 (.ref it) (.ref s.heap.objs.size) ((uP X sc x ys (cR X.env.cells sc.names []) s3.heap.objs.size s3 (upd H s.heap.objs.size (.lst [])) fp)).env).onRaise (fun z=>do { noteFrame z ((uP X sc x ys (cR X.env.cells sc.names []) s3.heap.objs.size s3 (upd H s.heap.objs.size (.lst [])) fp)).env;theTreesLotGoes z })) _ _ s5
  refine wpAny_noted ?_
  rw [xZ]
  refine wpAny_bind (wpAny_standAt ?_)
  by_cases hlt:i < ds.length
  ·have hdr:ds.drop i=ds[i] :: ds.drop (i+1):=W9 hlt
   rw [hdr] at q5
   obtain ⟨hg,q5⟩:=q5
   have hinv:=stay M5 H5 FE r5.mem hg
   refine wpAny_bind (zI (T.item (uP X sc x ys (cR X.env.cells sc.names []) s3.heap.objs.size s3 (upd H s.heap.objs.size (.lst [])) fp) rfl rfl rfl hc i [] s5 σ5 H5 (fun _ _=>False) I5 (O8 f5) KG (hJ.go i H5 hlt hinv)) fun r6 s6 ⟨u,e6,h6⟩=>?_)
   subst e6
   refine wpAny_bind (zI h6 fun _ s7 ⟨v,H7,I7,rv,yl,O9,f7⟩=>?_)
   obtain ⟨e7,d,hd1,hd2⟩:=hJ.Ff i H5 v H7 hlt hinv yl
   subst e7
   have ed:d=ds[i]:=Option.some.inj (hd1.symm.trans (Vn hlt))
   subst ed
   have R7:=I7.pinned (O8 f7) (T.obj _ _ O9)
   have lx:(relabel sc X.env).names.lookup x=some .local:=lookup_relabel_local ck.loc
   refine wpAny_bind (zI ((bF (X:=(uP X sc x ys (cR X.env.cells sc.names []) s3.heap.objs.size s3 (upd H s.heap.objs.size (.lst [])) fp)) (i:=0) (x:=x) (pos:=px) ck.nd rfl (.inl lx) (.inr lx)).run _ s7 σ5 H7 (y5 :: nL fs ρ) M5 v ds[i] u (fun ρ' M'=>ρ'=some ds[i] :: nL fs ρ∧M'=M5) R7 r5 rv hd2 ⟨rfl,rfl⟩) fun _ s8 ⟨σ8,H8,I8,ρ8,M8,Pa,r8,e8,R8⟩=>?_)
   subst e8 R8
   obtain ⟨R9,Sa⟩:=Pa _ _ QU QT
   refine wpAny_bind (zI ((ht _ _ _ _ _).run _ s8 σ8 H8 _ M8 _ I8 r8 q5) fun b s9 ⟨H9,I9,M9,NB,Sb,q9⟩=>?_)
   obtain ⟨QW,QX⟩:=NB _ _ Sa R9
   have r9:=r8.go NB Sb
   have Mg:=(FE.trans Pa).trans NB
   have QY:aC X.K H9 acc ws:=aC.mono ((Pa.trans NB).ext r5.mem) _ _ QV
   have next:∀ {H':Hp} {s':Shared},Inv (uP X sc x ys (cR X.env.cells sc.names []) s3.heap.objs.size s3 (upd H s.heap.objs.size (.lst [])) fp) ([] ++ qR fp s7.heap) σ8 H' s'→(tn (i+1) s'.heap∧∀ b∈fp,H' b=none):=fun {H' s'} I'=>by
    have pin:∀ b∈fp,∀ o,s7.heap.get? b=some o→s'.heap.get? b=some o∧H' b=none:=fun b hb o e=>by
     have:=I'.pin (b,o) (Vw _ (Vw _ (l7 hb e)))
     exact ⟨this.1,this.2.1⟩
    refine ⟨T.keep _ _ _ O9 fun b hb o e=>(pin b hb o e).1,fun b hb=>?_⟩
    obtain ⟨o,e,_⟩:=T.obj _ _ O9 b hb
    exact (pin b hb o e).2
   cases b with
   | false=>
     rw [if_neg Vx]
     obtain ⟨n1,n2⟩:=next I9
     exact wpAny_pure ⟨rfl,ds.length - (i+1),by omega,i+1,acc,M9,rfl,hlt,⟨σ8,H9,_,ws,I9.jV,n1,n2,r9,Mg,QW,QX,QY,by omega⟩,q9⟩
   | true=>
     rw [if_pos rfl]
     refine wpAny_bind (zI ((he _ _ _ _ _).run _ s9 σ8 H9 _ M9 _ I9 r9 q9) fun Sd Se ⟨v10,HP,Sf,Pb,dy,KL,Gx,Pc,Mh,Sg⟩=>?_)
     obtain ⟨Mi,Mj⟩:=Gx _ _ QX QW
     have QZ:=r9.go Gx Mh
     have Ml:aC X.K HP acc ws:=aC.mono (Gx.ext r9.mem) _ _ QY
     have lw:ws.length < sizeLine:=by rw [← Ml.length];omega
     refine wpAny_bind (zI (fm (X:=(uP X sc x ys (cR X.env.cells sc.names []) s3.heap.objs.size s3 (upd H s.heap.objs.size (.lst [])) fp)) _ Se σ8 HP (.ref s.heap.objs.size) [v10] (.ref s.heap.objs.size) [Sd] (fun _ H'=>H'=upd HP s.heap.objs.size (.lst (ws ++ [v10]))) Sf rfl (.cons Pb .nil) ⟨_,ws,v10,rfl,rfl,Mi,lw,rfl⟩) fun _ Ut ⟨_,Uu,Q2,_,Sh⟩=>?_)
     subst Sh
     have ex:Ext HP (upd HP s.heap.objs.size (.lst (ws ++ [v10]))):=Ext.mj Mi
     have Pd:bE X.K (upd HP s.heap.objs.size (.lst (ws ++ [v10]))) KL:=fun a o e=>by
      have na:a≠s.heap.objs.size:=fun z=>by rw [z,Mj] at e;cases e
      exact (Mh a o e).mono ex fun u q=>by rw [aQ na];exact q
     have Si:Rep X.K (upd HP s.heap.objs.size (.lst (ws ++ [v10]))) σ8 (some ds[i] :: nL fs ρ) KL:=⟨fun j d e=>let ⟨v,e1,e2⟩:=QZ.env j d e;⟨v,e1,Dat.mono ex _ _ e2⟩,QZ.len,Pd⟩
     have Pe:Fr M H KL (upd HP s.heap.objs.size (.lst (ws ++ [v10]))):=fun b o n e=>by
      obtain ⟨e1,n1⟩:=(Mg.trans Gx) b o n e
      exact ⟨by rw [aQ (bI e fD)];exact e1,n1⟩
     obtain ⟨n1,n2⟩:=next Q2
     exact wpAny_pure ⟨rfl,ds.length - (i+1),by omega,i+1,acc ++ [dy],KL,rfl,hlt,⟨σ8,_,_,ws ++ [v10],Q2.jV,n1,n2,Si,Pe,bN,Mj,aC.mono ex _ _ (Ml.append (aC.one Pc)),by simp;omega⟩,Sg⟩
  ·have ei:i=ds.length:=by omega
   subst ei
   rw [X9 (Vr _)] at q5
   obtain ⟨hg,q5⟩:=q5
   have hinv:=stay M5 H5 FE r5.mem hg
   refine wpAny_bind (zI (T.done (uP X sc x ys (cR X.env.cells sc.names []) s3.heap.objs.size s3 (upd H s.heap.objs.size (.lst [])) fp) rfl rfl rfl hc ds.length [] s5 σ5 H5 (fun _ _=>False) I5 (O8 f5) KG (hJ.stop H5 hinv)) fun r6 s6 ⟨e6,I6⟩=>?_)
   subst e6
   refine wpAny_pure ?_
   obtain ⟨m,hm,_⟩:=id I6.loc
   have I7:Inv X pins σ H5 s6:=I3.KW (s':=s6) (ch:=fp) I6.os I6.base I6.hok I6.bare fun b hb=>⟨(hf b hb).2.2.2.1,(hf b hb).2.1,(hf b hb).2.2.2.2.1,(hf b hb).2.2.2.2.2⟩
   refine fin _ _ s6 H5 I7 ⟨m,hm⟩ (I3.BJ (Vr _) I6.free) (Post.back fa ⟨.ref s.heap.objs.size,ay M5 s.heap.objs.size (.lst acc),fun b o n e=>?_,aF.mpr rfl,fun a o e=>?_,q5 _ QU⟩)
   ·obtain ⟨e1,n1⟩:=FE b o n e
    exact ⟨e1,by rw [aE (bI e fD)];exact n1⟩
   ·by_cases ha:a=s.heap.objs.size
    ·subst ha
     rw [ah] at e
     cases e
     exact ⟨ws,QT,QV⟩
    ·rw [aE ha] at e
     exact r5.mem a o e
 exact codeAny_compStart_list (loop _ rfl) (T.self X.A 0 _ _ _ QS (loop _ rfl))
end
end L3
namespace L3
open PySem PySem.Spec PyProof.Rows L2
section
variable {X:Cx} {sc:Scope} {x:Str} {ys:List Str} {fs:List Nat} {elt iter:Expr} {px pos:Pos} {ifs:List Expr} {tt:mY} {te:cP} {ti:cP}
def Pg (Q:DK):List D→Mp→Prop:=fun zs M2=> ∀ p,M2 p=none→Q (.ref p) (ay M2 p (.lst zs))
def Ph (fs:List Nat) (ti:cP) (tt:mY) (te:cP):cP:=fun ρ M Q=>ti ρ M fun d M1=> ∃ xs,d= .tup xs∧xs.length < sizeLine∧bO (nK (fun _=>True) tt te (nL fs ρ) (Pg Q) xs [] M1)
def Pj (fs:List Nat) (ti:cP) (tt:mY) (te:cP):cP:=fun ρ M Q=>ti ρ M fun d M1=> ∃ a xs,d= .ref a∧M1 a=some (.lst xs)∧xs.length < sizeLine∧bO (nK (fun M=>M a=some (.lst xs)) tt te (nL fs ρ) (Pg Q) xs [] M1)
def Sj (X:Cx) (fs:List Nat) (tt:mY) (te:cP) (σ:St) (ρ:En) (M:Mp) (H:Hp) (Q:DK):It→Hp→Prop:=fun J H2=> ∃ M2 inv ds gd,Fr M H M2 H2∧Rep X.K H2 σ ρ M2∧zD X.K J inv ds∧ds.length < sizeLine∧(∀ M1 H1,Fr M2 H2 M1 H1→bE X.K H1 M1→gd M1→inv H1)∧nK gd tt te (nL fs ρ) (Pg Q) ds [] M2
theorem Gy {pins:List (Addr ×Obj)} {σ:St} {M:Mp} {H:Hp} {Q:DK} {E:Value→Shared→Prop}:∀ (C Dl:Addr) (s6:Shared) (H5:Hp),Inv X pins σ H5 s6→(∃ m,s6.heap.Ns C m)→jL X pins H5 C→Post X.K M H Q (.ref Dl) H5→
 compPost (model X.prog X.w) X.A E none (EP X pins σ (Post X.K M H Q)) (.ref Dl) C (.ok .next) s6:=fun C Dl s6 H5 I ⟨m,hm⟩ f P=>
 ⟨m,hm,fun h' sb=>⟨.ref Dl,H5,I.turned (t':=s6.toks) (fun b o hb e=>sb.extBut b o hb e) f.1 f.2.1 f.2.2.2.1 f.2.2.2.2.1 f.2.2.2.2.2,rfl,P⟩⟩
theorem HQ {use:Option (Value→Sem Unit)} {Qs:Value→Shared→Prop} {ps:Pos} (hc:X.calm=true) (hk:cW X.env.scope X.N sc x ys fs=true) (ht:∀ cl C s0 H0 ex,Mf (uP X sc x ys cl C s0 H0 ex) ifs tt) (he:∀ cl C s0 H0 ex,cg (uP X sc x ys cl C s0 H0 ex) elt te)
 (hs:∀ z,foldedSetIterable iter X.env z=pure z) {pins:List (Addr ×Obj)} {s:Shared} {σ:St} {H:Hp} {ρ:En} {M:Mp} {Q:DK} (I:Inv X pins σ H s)
 (fin:∀ (C Dl:Addr) (s6:Shared) (H5:Hp),Inv X pins σ H5 s6→(∃ m,s6.heap.Ns C m)→jL X pins H5 C→Post X.K M H Q (.ref Dl) H5→compPost (model X.prog X.w) X.A X.xe use Qs (.ref Dl) C (.ok .next) s6)
 (h:wpAny (model X.prog X.w) X.A (eval iter X.env) (fun v s1=>wpAny (model X.prog X.w) X.A (pyIter v) (Og X pins σ (.Name x px) (Sj X fs tt te σ ρ M H Q)) X.xe s1) X.xe s) :
 wpAny (model X.prog X.w) X.A (comprehension (.ListComp elt [⟨.Name x px,iter,ifs,0⟩] sc pos) sc X.env ps (newList []) false (eval iter X.env) use) Qs X.xe s:=by
 have ck:=rG.of hk
 refine wpAny_comprehension_free (use:=use) (cl:=cR X.env.cells sc.names []) rfl hs (zH fun y hy z=>I.ok.has y.1 (.inl (ck.Nz y hy z))) ck.kind ck.names (cM h fun v s1 h1=>cM h1 fun itv s2 h2=>?_)
 obtain ⟨it,fp,tn,J,H2,e,I2,T,st2,f2,M2,inv,ds,gd,fr,r2,hJ,hz,stay,q⟩:=h2
 subst e
 exact Gw hc ck ht he fr fin I2 r2 T st2 f2 hJ hz stay q
structure NC (X:Cx) (sc:Scope) (x:Str) (px:Pos) (ys:List Str) (fs:List Nat) (iter:Expr) (ifs:List Expr) (elt:Expr) (t:cP):Prop where
 run:∀ {use:Option (Value→Sem Unit)} {Qs:Value→Shared→Prop} {ps pos:Pos} {pins:List (Addr ×Obj)} {s:Shared} {σ:St} {H:Hp} {ρ:En} {M:Mp} {Q:DK},Inv X pins σ H s→Rep X.K H σ ρ M→t ρ M Q→
  (∀ (C Dl:Addr) (s6:Shared) (H5:Hp),Inv X pins σ H5 s6→(∃ m,s6.heap.Ns C m)→jL X pins H5 C→Post X.K M H Q (.ref Dl) H5→compPost (model X.prog X.w) X.A X.xe use Qs (.ref Dl) C (.ok .next) s6)→
  wpAny (model X.prog X.w) X.A (comprehension (.ListComp elt [⟨.Name x px,iter,ifs,0⟩] sc pos) sc X.env ps (newList []) false (eval iter X.env) use) Qs X.xe s
theorem B4 {t:cP} (h:NC X sc x px ys fs iter ifs elt t):cg X (.ListComp elt [⟨.Name x px,iter,ifs,0⟩] sc pos) t:=by
 constructor
 intro pins s σ H ρ M Q I r q
 rw [eval_ListComp]
 exact h.run I r q Gy
theorem Mm {t:cP} {j:Nat} {y:Str} {py spos:Pos} (h:NC X sc x px ys fs iter ifs elt t) (hN:X.N.Nodup) (hj:X.N[j]?=some y) (hy:Loc X.env.scope y)
 (hsw:swapsWith (.ListComp elt [⟨.Name x px,iter,ifs,0⟩] sc pos) (some (.Name y py)) spos.line X.env=pure true:=by rfl) (hf:X.fn y=true∨X.env.scope.names.lookup y=some .local:=by first | exact .inl rfl | exact .inr rfl) :
 vJ X (.Assign [.Name y py] (.ListComp elt [⟨.Name x px,iter,ifs,0⟩] sc pos) spos) (HM j t):=by
 constructor
 intro pins s σ H ρ M D I r q
 rw [exec_Assign_Name_used _ _ _ _ hsw]
 refine wpAny_bind (wpAny_standAt (wpAny_bind ?_))
 show wpAny (model X.prog X.w) X.A (do { let _ ← comprehension (.ListComp elt [⟨.Name x px,iter,ifs,0⟩] sc pos) sc X.env _ (newList []) false (eval iter X.env) (some (assign (.Name y py) X.env)) }) _ _ s
 refine wpAny_bind (cM (h.run (use:=some (assign (.Name y py) X.env)) (Qs:=fun _ s'=>SP X pins (ends X.K M H D) .next s') I r q fun C Dl s6 H5 I6 hC f P=>?_) fun _ s' hq=>wpAny_pure (wpAny_pure hq))
 obtain ⟨m,o,es,ep,ho,hd,hrest⟩:=hC
 obtain ⟨d,M5,FE,dd,Sk,q5⟩:=P
 have Sl:Inv X (pins ++ [(C,o)]) σ H5 s6:=I6.qB fun p hp=>(Vv.mp hp).elim (fun z=>I6.pin p (Vw _ z)) fun z=>by
  have e:=Vm.mp z
  subst e
  exact ⟨ho,f.1,f.2.1,f.2.2.1,fun v z=>by rw [hd] at z;cases z⟩
 refine cM ((bF (i:=j) (x:=y) (pos:=py) hN hj hy hf).run _ s6 σ H5 ρ M5 (.ref Dl) d (.ref Dl) (D.nx) Sl (r.go FE Sk) rfl dd q5) fun _ s7 ⟨σ7,H7,I7,ρ7,M7,Sn,r7,q7⟩=>?_
 have pin:=I7.pin (C,o) (Vw _ (Vw _ (Vm.mpr rfl)))
 refine ⟨m,⟨o,es,ep,pin.1,hd,hrest⟩,fun h' sb=>?_⟩
 have I8:Inv X pins σ7 H7 s7:=I7.qB fun p hp=>I7.pin p (Vw _ (Vq _ hp))
 exact ⟨σ7,H7,I8.turned (t':=s7.toks) (fun b o hb e=>sb.extBut b o hb e) pin.2.1 f.2.1 f.2.2.2.1 f.2.2.2.2.1 f.2.2.2.2.2,ρ7,M7,FE.trans Sn,r7,q7⟩
theorem Mn (hc:X.calm=true) (hk:cW X.env.scope X.N sc x ys fs=true) (hi:cg X iter ti) (ht:∀ cl C s0 H0 ex,Mf (uP X sc x ys cl C s0 H0 ex) ifs tt) (he:∀ cl C s0 H0 ex,cg (uP X sc x ys cl C s0 H0 ex) elt te)
 (hs:∀ z,foldedSetIterable iter X.env z=pure z:=by intro _;rfl):NC X sc x px ys fs iter ifs elt (Ph fs ti tt te):=by
 constructor
 intro use Qs ps pos pins s σ H ρ M Q I r h fin
 refine HQ (ρ:=ρ) hc hk ht he hs I fin (C6 hi.dn pins s σ H _ I (dU r h fun v H' d M' f dv r' ⟨xs,e1,hz,q⟩=>?_))
 subst e1
 obtain ⟨a,zs,rfl,ha,hy⟩:=aR.mp dv
 refine ⟨a,rfl,⟨zs,qC.of ha⟩,M',_,xs,_,f,r',Dw,hz,fun M1 H1 f1 _ _=>⟨zs,?_,aC.mono (f1.ext r'.mem) _ _ hy⟩,q.out⟩
 exact (f1 a _ (r'.mem.vH ha (fun _ z=>by cases z)) ha).1
theorem rH (hc:X.calm=true) (hk:cW X.env.scope X.N sc x ys fs=true) (hi:cg X iter ti) (ht:∀ cl C s0 H0 ex,Mf (uP X sc x ys cl C s0 H0 ex) ifs tt) (he:∀ cl C s0 H0 ex,cg (uP X sc x ys cl C s0 H0 ex) elt te)
 (hs:∀ z,foldedSetIterable iter X.env z=pure z:=by intro _;rfl):NC X sc x px ys fs iter ifs elt (Pj fs ti tt te):=by
 constructor
 intro use Qs ps pos pins s σ H ρ M Q I r h fin
 refine HQ (ρ:=ρ) hc hk ht he hs I fin (qD hi.dn pins s σ H _ I (dU r h fun v H' d M' f dv r' ⟨a,xs,e1,hM,hz,q⟩=>?_))
 subst e1
 obtain rfl:=aF.mp dv
 obtain ⟨zs,ha,hy⟩:=r'.mem.lst hM
 exact ⟨a,rfl,⟨zs,iI.of ha⟩,M',_,xs,_,f,r',vM,hz,fun M1 H1 f1 oM g1=>oM.lst g1,q.out⟩
theorem dX {gd:Mp→Prop} {fr:En} {Q:List D→Mp→Prop} {M:Mp} (Pv:Nat→List D→Mp→Prop):∀ (ds:List D),(∀ (i:Nat) (d:D) (acc:List D) (M:Mp) (N:List D→Mp→Prop),ds[i]?=some d→Pv i acc M→(∀ acc' M',Pv (i+1) acc' M'→N acc' M')→
 gd M∧tt (some d :: fr) M fun b M1=>if b=true then te (some d :: fr) M1 fun y M2=>N (acc ++ [y]) M2 else N acc M1)→
 (∀ acc M,Pv ds.length acc M→gd M∧Q acc M)→Pv 0 [] M→nK gd tt te fr Q ds [] M:=by
 intro ds hstep hend h0
 have key:∀ (zs:List D) (i:Nat) (acc:List D) (M:Mp),ds.drop i=zs→Pv i acc M→i≤ds.length→nK gd tt te fr Q zs acc M:=by
  intro zs
  induction zs with
  | nil=>
    intro i acc M e p hi
    have:ds.length≤i:=by
     have:=congrArg List.length e
     rw [Wh] at this
     simp at this
     omega
    obtain rfl:i=ds.length:=by omega
    exact hend acc M p
  | cons z zs ih=>
    intro i acc M e p hi
    have hx:ds[i]?=some z:=by
     have:=congrArg (fun l=>l[0]?) e
     simpa using this
    have hlt:i < ds.length:=(VO.mp hx).1
    refine hstep i z acc M _ hx p fun acc' M' p'=>ih (i+1) acc' M' ?_ p' hlt
    rw [← YF,e]
    rfl
 exact key ds 0 [] M rfl h0 (Wi _)
end
end L3
namespace L3
open PySem PySem.Spec PyProof.Rows L2
structure ND (outer:Scope) (N:List Str) (sc:Scope) (x:Str) (ys:List Str) (fs:List Nat):Prop where
 kind:sc.kind= .function
 Me:outer.kind= .function
 names:∀ y∈sc.names,y.2= .local→sc.names.lookup y.1=some .local
 Nz:∀ y∈sc.names,y.2= .free→outer.names.lookup y.1=some .cell
 loc:sc.names.lookup x=some .cell
 cells:sc.names.filter (fun y=>y.2 == .cell)= [(x,.cell)]
 len:ys.length=fs.length
 at':∀ (k:Nat) y,ys[k]?=some y→∃ i,fs[k]?=some i∧N[i]?=some y∧sc.names.lookup y=some .free
 nd:(x :: ys).Nodup
section
variable {X:Cx} {sc:Scope} {x:Str} {ys:List Str} {fs:List Nat}
end
section
variable {X:Cx} {sc:Scope} {x:Str} {ys:List Str} {fs:List Nat} {elt iter:Expr} {px pos:Pos} {ifs:List Expr} {tt:mY} {te:cP} {ti:cP}
end
end L3
namespace L3
open PySem PySem.Spec PyProof.Rows L2
section
variable {X:Cx}
theorem nM {ds es:List D} (h:ds.length≠es.length):cG ds es=false:=by
 rw [eK,beq_eq_false_iff_ne.mpr h,Bool.and_false]
def Pk:R3:=fun d e M Q=> ∃ a b xs ys,d= .ref a∧e= .ref b∧M a=some (.lst xs)∧M b=some (.lst ys)∧xs.all (plain 9)=true∧ys.all (plain 9)=true∧Q (.bl (cG xs ys)) M
theorem HR (hu:X.A.units+64 < cLine):lK X (compareOp .Eq) Pk:=by
 constructor
 intro pins s σ H M x y d e v u Q I rm rx ry dx dy ⟨a,b,xs,ys,e1,e2,ha,hb,pa,pb,q⟩
 subst e1;subst e2
 obtain rfl:=aF.mp dx
 obtain rfl:=aF.mp dy
 obtain rfl:v=Value.ref a:=rx
 obtain rfl:u=Value.ref b:=ry
 obtain ⟨zs,h1,h2⟩:=rm.lst ha
 obtain ⟨ws,h3,h4⟩:=rm.lst hb
 obtain ⟨its,rv,pl,hz⟩:=I.list (iI.of (K:=X.K) h1)
 obtain ⟨its2,m8,B5,hz2⟩:=I.list (iI.of (K:=X.K) h3)
 have l1:=h2.length.trans rv.length
 have l2:=h4.length.trans m8.length
 have fin:∀ k,k=cG xs ys→EP X pins σ (Post X.K M H Q) (.bool k) s:=fun k e=>⟨.bl k,H,I,rfl,aD rm (aV.mpr rfl) (by rw [e];exact q)⟩
 by_cases hs:its.toArray.size=its2.toArray.size
 ·refine SeqAt.RcAt.lists (A:=X.A) (s:=s) (e:=fun j=>er (xs.getD j .aZ) (ys.getD j .aZ)) pl.isList B5.isList hs (by omega) (ja I.hok (n:=9) (by show X.A.units+1+9 < cLine;omega) pa pb h2 h4 rv m8) _ _ _ _ (fin _ ?_)
  simp only [Vo] at hs
  rw [eK,Vo,← l1]
  have e:ys.length=xs.length:=by omega
  rw [e,Xv,beq_self_eq_true,Xq]
 ·refine SeqAt.RcAt.lists_lengths (A:=X.A) (s:=s) pl.isList B5.isList (by simpa using hs) (by omega) _ _ _ _ (fin _ ?_)
  simp only [Vo] at hs
  exact (nM (by omega)).symm
abbrev Mq:=En→Mp→(Option Int→Mp→Prop)→Prop
structure NF (X:Cx) (e:Option Expr) (t:Mq):Prop where
 dn:∃ t2:TO,PO X e t2∧∀ σ H ρ M Q Q',Rep X.K H σ ρ M→t ρ M Q→(∀ o H' M',Fr M H M' H'→Rep X.K H' σ ρ M'→Q o M'→Q' o H')→t2 σ H Q'
def Pn:Mq:=fun _ M Q=>Q none M
def JJ (t:cP):Mq:=fun ρ M Q=>t ρ M fun d M1=> ∃ i,d= .int i∧Q (some i) M1
theorem x6:NF X none Pn:=⟨AO,FL,fun σ H ρ M Q Q' r q k=>k none H M (.refl _ _) r q⟩
theorem j9 {e:Expr} {t:cP} (h:cg X e t):NF X (some e) (JJ t):=⟨HF (L3.dn X.K t),FN h.dn,fun σ H ρ M Q Q' r q k=>dU r q fun v H' d M' f dv r' ⟨i,e1,q⟩=>by
 subst e1
 obtain rfl:=aP.mp dv
 exact ⟨i,rfl,k (some i) H' M' f r' q⟩⟩
def cutD (xs:List D) (lo hi:Option Int):List D:=(xs.drop (HT.pU xs.length 0 lo)).take (HT.pU xs.length xs.length hi - HT.pU xs.length 0 lo)
theorem aC.drop {K:PySem.W.Frag} {H:Hp}:∀ {ds:List D} {xs:List V} (n:Nat),aC K H ds xs→aC K H (ds.drop n) (xs.drop n)
 | ds,xs,0,h=>h
 | [],xs,n+1,h=>by rw [aH.mp h];exact aH.mpr rfl
 | d :: ds,xs,n+1,h=>by
   obtain ⟨v,vs,rfl,_,h2⟩:=aA.mp h
   exact aC.drop n h2
theorem aC.take {K:PySem.W.Frag} {H:Hp}:∀ {ds:List D} {xs:List V} (n:Nat),aC K H ds xs→aC K H (ds.take n) (xs.take n)
 | ds,xs,0,h=>aH.mpr rfl
 | [],xs,n+1,h=>by rw [aH.mp h];exact aH.mpr rfl
 | d :: ds,xs,n+1,h=>by
   obtain ⟨v,vs,rfl,h1,h2⟩:=aA.mp h
   exact aA.mpr ⟨v,vs.take n,rfl,h1,aC.take n h2⟩
def Mr:R3:=fun d e M Q=> ∃ a b xs ys,d= .ref a∧e= .ref b∧M a=some (.lst xs)∧M b=some (.lst ys)∧xs.length+ys.length≤sizeLine∧∀ p,M p=none→Q (.ref p) (ay M p (.lst (xs ++ ys)))
theorem lT:lK X (binaryOp .Add) Mr:=KI Je fun H M x y d e Q rm dx dy ⟨a,b,xs,ys,e1,e2,ha,hb,hz,q⟩=>by
 subst e1;subst e2
 obtain rfl:=aF.mp dx
 obtain rfl:=aF.mp dy
 obtain ⟨zs,h1,h2⟩:=rm.lst ha
 obtain ⟨ws,h3,h4⟩:=rm.lst hb
 exact ⟨a,b,zs,ws,rfl,rfl,h1,h3,by rw [← h2.length,← h4.length];exact hz,fun p hp=>⟨.ref p,ay M p (.lst (xs ++ ys)),Fr.new hp fun _ hb=>aE hb,aF.mpr rfl,rm.newL hp (h2.append h4),q p (rm.free hp)⟩⟩
def Po (i j:Int):Prop:=MulOk i j∨FG i j
theorem zJ:lK X (binaryOp .Mult) (uB Po fun i j=>i*j):=xQ (K9 fun _ _ _ _ _ _ _ hc q=>mul_int q (hc.elim MulOk.ok FG.ok))
end
end L3
namespace L3
open PySem PySem.Spec PyProof.Rows L2
section
variable {X:Cx}
def DP (M:Mp) (d:D) (xs:List D):Prop:=d= .zx xs∨∃ a,d= .ref a∧M a=some (.lst xs)
theorem DP.of {M:Mp} {a:Addr} {xs:List D} (h:M a=some (.lst xs)):DP M (.ref a) xs:= .inr ⟨a,rfl,h⟩
theorem DP.sq {K:PySem.W.Frag} {H:Hp} {M:Mp} {d:D} {xs:List D} {x:V} (h:DP M d xs) (rm:bE K H M) (dx:Dat K H d x):∃ a zs,x= .ref a∧iI K H a zs∧aC K H xs zs:=by
 rcases h with rfl | ⟨a,rfl,hM⟩
 ·obtain ⟨a,zs,rfl,h1,h2⟩:=m6.mp dx
  exact ⟨a,zs,rfl,h1.sq,h2⟩
 ·obtain rfl:=aF.mp dx
  obtain ⟨zs,h1,h2⟩:=rm.lst hM
  exact ⟨a,zs,rfl,iI.of h1,h2⟩
def Ms:R3:=fun d e M Q=> ∃ xs ys,DP M d xs∧DP M e ys∧xs.all (plain 9)=true∧ys.all (plain 9)=true∧Q (.bl (cG xs ys)) M
def Mt:R3:=fun d e M Q=> ∃ xs ys,DP M d xs∧DP M e ys∧xs.all (plain 9)=true∧ys.all (plain 9)=true∧Q (.bl (!cG xs ys)) M
theorem DQ (hu:X.A.units+64 < cLine):lK X (compareOp .Eq) Ms:=by
 constructor
 intro pins s σ H M x y d e v u Q I rm rx ry dx dy ⟨xs,ys,ha,hb,pa,pb,q⟩
 obtain ⟨a,zs,rfl,h1,h2⟩:=ha.sq rm dx
 obtain ⟨b,ws,rfl,h3,h4⟩:=hb.sq rm dy
 obtain rfl:v=Value.ref a:=rx
 obtain rfl:u=Value.ref b:=ry
 obtain ⟨its,rv,pl,hz⟩:=I.list h1
 obtain ⟨its2,m8,B5,hz2⟩:=I.list h3
 have l1:=h2.length.trans rv.length
 have l2:=h4.length.trans m8.length
 have fin:∀ k,k=cG xs ys→EP X pins σ (Post X.K M H Q) (.bool k) s:=fun k e=>⟨.bl k,H,I,rfl,aD rm (aV.mpr rfl) (by rw [e];exact q)⟩
 by_cases hs:its.toArray.size=its2.toArray.size
 ·refine SeqAt.RcAt.lists (A:=X.A) (s:=s) (e:=fun j=>er (xs.getD j .aZ) (ys.getD j .aZ)) pl.isList B5.isList hs (by omega) (ja I.hok (n:=9) (by show X.A.units+1+9 < cLine;omega) pa pb h2 h4 rv m8) _ _ _ _ (fin _ ?_)
  simp only [Vo] at hs
  rw [eK,Vo,← l1]
  have e:ys.length=xs.length:=by omega
  rw [e,Xv,beq_self_eq_true,Xq]
 ·refine SeqAt.RcAt.lists_lengths (A:=X.A) (s:=s) pl.isList B5.isList (by simpa using hs) (by omega) _ _ _ _ (fin _ ?_)
  simp only [Vo] at hs
  exact (nM (by omega)).symm
theorem oY (hu:X.A.units+64 < cLine):lK X (compareOp .NotEq) Mt:=by
 constructor
 intro pins s σ H M x y d e v u Q I rm rx ry dx dy ⟨xs,ys,ha,hb,pa,pb,q⟩
 obtain ⟨a,zs,rfl,h1,h2⟩:=ha.sq rm dx
 obtain ⟨b,ws,rfl,h3,h4⟩:=hb.sq rm dy
 obtain rfl:v=Value.ref a:=rx
 obtain rfl:u=Value.ref b:=ry
 obtain ⟨its,rv,pl,hz⟩:=I.list h1
 obtain ⟨its2,m8,B5,hz2⟩:=I.list h3
 have l1:=h2.length.trans rv.length
 have l2:=h4.length.trans m8.length
 have fin:∀ k,k=(!cG xs ys)→EP X pins σ (Post X.K M H Q) (.bool k) s:=fun k e=>⟨.bl k,H,I,rfl,aD rm (aV.mpr rfl) (by rw [e];exact q)⟩
 by_cases hs:its.toArray.size=its2.toArray.size
 ·refine SeqAt.RcNeAt.lists (A:=X.A) (s:=s) (e:=fun j=>er (xs.getD j .aZ) (ys.getD j .aZ)) pl.isList B5.isList hs (by omega) (ja I.hok (n:=9) (by show X.A.units+1+9 < cLine;omega) pa pb h2 h4 rv m8) _ _ _ _ (fin _ ?_)
  simp only [Vo] at hs
  rw [eK,Vo,← l1]
  have e:ys.length=xs.length:=by omega
  rw [e,Xv,beq_self_eq_true,Xq]
 ·refine SeqAt.RcNeAt.lists_lengths (A:=X.A) (s:=s) pl.isList B5.isList (by simpa using hs) (by omega) _ _ _ _ (fin _ ?_)
  simp only [Vo] at hs
  rw [nM (by omega)]
  rfl
def zK:D→Bool | .aZ=>true | _=>false
def Pp:R3:=fun d e M Q=>e= .aZ∧Q (.bl (zK d)) M
def Mu:R3:=fun d e M Q=>e= .aZ∧Q (.bl (!zK d)) M
theorem uQ {K:PySem.W.Frag} {H:Hp} {d:D} {x:V} (h:Dat K H d x):decide (x= .aZ)=zK d:=by
 cases d with
 | aZ=>obtain rfl:=cz.mp h;rfl
 | bl b=>obtain rfl:=aV.mp h;rfl
 | int i=>obtain rfl:=aP.mp h;rfl
 | str z=>obtain rfl:=gm.mp h;rfl
 | ty n=>obtain rfl:=zy.mp h;rfl
 | ref a=>obtain rfl:=aF.mp h;rfl
 | tup ds=>obtain ⟨a,xs,rfl,_⟩:=aR.mp h;rfl
 | zx ds=>obtain ⟨a,xs,rfl,_⟩:=m6.mp h;rfl
 | HH n=>obtain ⟨a,o,u,rfl,_⟩:=AW.mp h;rfl
 | exc C nm ds=>obtain ⟨a,o,u,xs,rfl,_⟩:=FY.mp h;rfl
theorem HS:lK X (compareOp .Is) Pp:=KI IW fun H M x y d e Q rm dx dy ⟨e1,q⟩=>by
 subst e1
 exact ⟨cz.mp dy,by rw [uQ dx];exact aD rm (aV.mpr rfl) q⟩
theorem JK:lK X (compareOp .IsNot) Mu:=KI FH fun H M x y d e Q rm dx dy ⟨e1,q⟩=>by
 subst e1
 exact ⟨cz.mp dy,by rw [uQ dx];exact aD rm (aV.mpr rfl) q⟩
def JL:List D→Mp→DK→Prop:=fun ds M Q=> ∃ d xs,ds= [d]∧DP M d xs∧∀ p,M p=none→Q (.ref p) (ay M p (.lst xs))
theorem JM:Call3 X (.type "list") JL:=HL vG fun H M xs ds Q rm dx ⟨d,ys,e1,hs,q⟩=>by
 subst e1
 obtain ⟨v,rfl,hv⟩:=qY dx
 obtain ⟨a,zs,rfl,h1,h2⟩:=hs.sq rm hv
 exact ⟨a,zs,rfl,.inl h1,fun p hp=>⟨.ref p,ay M p (.lst ys),Fr.new hp fun _ hb=>aE hb,aF.mpr rfl,rm.newL hp h2,q p (rm.free hp)⟩⟩
def Pq (te:cP) (tl th:Mq):cP:=fun ρ M Q=>te ρ M fun d M1=>tl ρ M1 fun lo M2=>th ρ M2 fun hi M3=> ∃ xs,DP M3 d xs∧∀ p,M3 p=none→Q (.ref p) (ay M3 p (.lst (cutD xs lo hi)))
theorem fT {e:Expr} {lo hi:Option Expr} {te:cP} {tl th:Mq} {p2 pos:Pos} (he:cg X e te) (hl:NF X lo tl) (hh:NF X hi th):cg X (.Subscript e (.Slice lo hi none p2) pos) (Pq te tl th):=by
 obtain ⟨Uv,pl,gl⟩:=hl.dn
 obtain ⟨Uw,ph,gh⟩:=hh.dn
 refine up (Df FT he.dn pl ph) fun σ H ρ M Q r q=>dU r q fun v H' d M' f dv r' q1=>gl _ _ _ _ _ _ r' q1 fun lo H2 M2 f2 r2 q2=>gh _ _ _ _ _ _ r2 q2 fun hi H3 M3 f3 r3 ⟨xs,hL,q3⟩=>?_
 obtain ⟨a,zs,rfl,hz,hd⟩:=hL.sq r3.mem (Dat.mono ((f2.trans f3).ext r'.mem) _ _ dv)
 have ec:cutD xs lo hi=(xs.drop (HT.pU zs.length 0 lo)).take (HT.pU zs.length zs.length hi - HT.pU zs.length 0 lo):=by unfold cutD;rw [hd.length]
 refine ⟨a,zs,rfl,hz,fun p hp=>⟨.ref p,ay M3 p (.lst (cutD xs lo hi)),((f.trans f2).trans f3).trans (Fr.new hp fun _ hb=>aE hb),aF.mpr rfl,r3.mem.newL hp ?_,q3 p (r3.mem.free hp)⟩⟩
 rw [ec]
 exact aC.take _ (aC.drop _ hd)
end
end L3
namespace L3
open PySem PySem.Spec PyProof.Rows L2
section
variable {X:Cx}
theorem mJ {pins:List (Addr ×Obj)} {σ:St} {H:Hp} {s:Shared} {M:Mp} {A:Around} (I:Inv X pins σ H s) (rm:bE X.K H M) (hu:A.units+12 < cLine) {a b:Addr} {xs ys:List D} (hne:a≠b) (ha:M a=some (.lst xs)) (hb:M b=some (.lst ys)) (pa:xs.all (plain 9)=true) (pb:ys.all (plain 9)=true) :
 SeqAt.EqAt A s (.ref a) (.ref b) (cG xs ys):=by
 obtain ⟨zs,h1,h2⟩:=rm.lst ha
 obtain ⟨ws,h3,h4⟩:=rm.lst hb
 obtain ⟨its,rv,pl,hz⟩:=I.list (iI.of (K:=X.K) h1)
 obtain ⟨its2,m8,B5,hz2⟩:=I.list (iI.of (K:=X.K) h3)
 have l1:=h2.length.trans rv.length
 have l2:=h4.length.trans m8.length
 refine SeqAt.EqAt.of_refs hne ?_
 by_cases hs:its.toArray.size=its2.toArray.size
 ·have key:=SeqAt.RcAt.lists (A:=A) (s:=s) (e:=fun j=>er (xs.getD j .aZ) (ys.getD j .aZ)) pl.isList B5.isList hs (by omega) (ja I.hok (n:=9) (by show A.units+1+9 < cLine;omega) pa pb h2 h4 rv m8)
  simp only [Vo] at hs
  have e:ys.length=xs.length:=by omega
  rw [eK,e,Xv,beq_self_eq_true,Xq]
  rw [Vo,← l1] at key
  exact key
 ·have key:=SeqAt.RcAt.lists_lengths (A:=A) (s:=s) pl.isList B5.isList (by simpa using hs) (by omega)
  simp only [Vo] at hs
  rw [nM (by omega)]
  exact key
end
end L3
namespace L3
open PySem PySem.Spec PyProof.Rows L2
theorem kg {ps:List Pl} {i:Nat} {x:D} (h:(ps.map Pl.d)[i]?=some x):∃ p,ps[i]?=some p∧x=p.d:=by
 rw [VT] at h
 cases e:ps[i]? with
 | none=>rw [e] at h;cases h
 | some p=>rw [e] at h;exact ⟨p,rfl,(Option.some.inj h).symm⟩
theorem DR {ps:List Pl} {f:Pl→Bool} {i:Nat} {p:Pl} (h:ps[i]?=some p):(ps.take (i+1)).any f=((ps.take i).any f || f p):=by
 rw [W6,h,List.any_append]
 simp
theorem zL (ns:List Int):(ns.map D.int).all (plain 9)=true:=by
 rw [V8]
 intro d hd
 obtain ⟨i,_,rfl⟩:=VJ.mp hd
 rfl
theorem oZ {ns:List Int} {k:Int} (h0:0≤k) (h1:k < ns.length):∃ z:Int,z∈ns∧uw (ns.map D.int) k=some (.int z):=by
 obtain ⟨j,rfl⟩:∃ j:Nat,k=(j:Int):=⟨k.toNat,by omega⟩
 have hlt:j < ns.length:=by omega
 refine ⟨ns[j],XW hlt,AR ?_⟩
 rw [VT,Vn hlt]
 rfl
theorem zM {ns:List Int} {n:Nat} {z:Int} (h:ns.all (fun z=>decide (z.natAbs < 2 ^ n))=true) (m:z∈ns):Sm n z:=of_decide_eq_true (V8.mp h z m)
theorem gn {q:Pl} {ps:List Pl}:inD q.d (ps.map Pl.d)=decide (q∈ps):=by
 unfold inD
 rw [V0,XX,decide_eq_true_eq]
 constructor
 ·rintro ⟨x,hx,e⟩
  obtain ⟨p,hp,rfl⟩:=VJ.mp hx
  rw [oX] at e
  rw [← of_decide_eq_true e];exact hp
 ·intro hq
  exact ⟨q.d,VJ.mpr ⟨q,hq,rfl⟩,by rw [oX];exact decide_eq_true rfl⟩
theorem gu {ts:List Pl} {f:Pl→Bool} {i:Nat} {t:Pl} (h:ts[i]?=some t):(ts.take (i+1)).filter f=(ts.take i).filter f ++ (if f t=true then [t] else []):=by
 rw [W6,h,Yo]
 congr 1
 show List.filter f [t]=_
 rw [Wz]
 rfl
theorem x8 (ds:List D):cG ds []=ds.isEmpty:=by
 cases ds <;> simp [cG]
theorem fy {ds:List D} (h:ds.all (plain 9)=true):cG ds ds=true:=by
 have:=xR 10 (.tup ds) h
 rwa [jm] at this
theorem rJ {α:Type} (g:α→D) (xs:List α) (n:Nat) (h:n≤xs.length):cutD (xs.map g) (some (n:Int)) none=(xs.drop n).map g:=by
 unfold cutD
 rw [HT.AN,HT.xJ]
 rw [Vk,YA h,List.map_drop]
 exact WY (by simp)
end L3
namespace Att
open PySem PySem.W PySem.Calls PyProof.Rows
def Pu (z:Int):Prop:=Builtin.Int.intBits z≤1048576
theorem rK {N:Nat}:∀ {ns:List Int},WData.weightAll (ns.map WData.int)≤N→∀ z∈ns,Builtin.Int.intBits z≤N
 | [],_,z,m=>by cases m
 | n :: ns,h,z,m=>by
   have e:WData.weightAll ((n :: ns).map WData.int)=Builtin.Int.intBits n+1+WData.weightAll (ns.map WData.int):=by
    rw [VP]
    simp only [WData.weightAll,WData.weight,Builtin.Int.intBits]
   rw [e] at h
   rcases Vl.mp m with rfl | m
   ·omega
   ·exact rK (by omega) z m
theorem JN {ns:List Int} (h:WData.layableAll [WData.list (ns.map WData.int)]=true):∀ z∈ns,Pu z:=by
 have h:WData.layable (WData.list (ns.map WData.int))=true:=by simpa [WData.layableAll] using h
 unfold WData.layable at h
 have h:=of_decide_eq_true (Xs.mp h).2
 have e:WData.weight (WData.list (ns.map WData.int))=WData.weightAll (ns.map WData.int):=by simp only [WData.weight]
 rw [e] at h
 exact fun z m=>rK h z m
theorem vR {l:OpenLaw} {n:Nat} {q:Program} {loose:List Str} {XP:(Str→Option Value)→Heap→Prop} {YP:World→Heap→Prop} {d:DefRec}
 (hn:l.most=some n) (hdf:d.params.defaults= [])
 (call:∀ (w:World) (s₀ s₁:Shared) (mg mb:Str→Option Value) (fa:Addr) (o:Obj) (pm cd doc:Value) (a:Addr) (vs:List Value) (ns:List Int),
  Ground q loose [] XP w s₀ mg mb s₁.heap→YP w s₁.heap→
  s₁.heap.get? fa=some o→o.data= .func (docDef d.name d.params d.body d.scope pm cd doc)→s₁.heap.CodeRec cd d.name→mg d.name=some (.ref fa)→
  s₁.heap.get? a=some { cls:= .type "list",data:= .seq vs.toArray }→IntsAre vs ns→ns.length≤n→(∀ z∈ns,Pu z)→s₁.gens= #[]→
  codeAny (model l.prog w) callerA (.call (.ref fa) ⟨[.ref a],[]⟩) (fun r s'=>r= .ok (.ret (.bool true))∧OldK s₁.heap s'.heap∧s'.os=s₁.os∧AllBare s'.gens) s₁) :
 WalkO q loose XP YP l.row.toRowW d [] (fun f vs=>PySem.call f vs):=by
 intro w s₀ s₁ mg mb G Y fa o pm cd doc dV kV ho hd hcd hD hmg hg args vals as hpre hlay hrd hwl hlo
 obtain rfl:dV= .none:=Dflts.none hD hdf
 obtain rfl:kV= .none:=Dflts.noKw hD
 obtain ⟨a,vs,ns,rfl,rfl,hobj,hints,hlen⟩:=BQ hn hpre hwl
 refine enter_call (codeAny_mono (call w s₀ s₁ mg mb fa o pm cd doc a vs ns G Y ho (fd_plain hd) hcd hmg hobj hints hlen (JN hlay) hg) fun r s' hq=>?_)
 obtain ⟨rfl,h2,h3,h4⟩:=hq
 exact ⟨.inl ⟨.bool true,.bool true,[],rfl,fun _=>rfl,.bool true,BR l _,fun _=>⟨List.Pairwise.nil,fun _ hm=>(nomatch hm)⟩⟩,h2,h3,h4⟩
end Att
namespace L2
open PySem PySem.Spec PyProof.Rows
end L2
namespace L3
open PySem PySem.Spec PyProof.Rows L2 Att
section
variable {X:Cx}
end
end L3
namespace L3
open PySem PySem.Spec PyProof.Rows L2
def cy:List Pl→List Pl→Bool
 | [],[]=>false
 | [],_ :: _=>true
 | _ :: _,[]=>false
 | p :: ps,q :: qs=>if p=q then cy ps qs else decide (aI p q)
theorem kh:∀ ps,cy ps ps=false
 | []=>rfl
 | p :: ps=>by unfold cy;rw [if_pos rfl];exact kh ps
theorem ki:∀ ps qs,cy ps qs=true∨ps=qs∨cy qs ps=true
 | [],[]=> .inr (.inl rfl)
 | [],_ :: _=> .inl rfl
 | _ :: _,[]=> .inr (.inr rfl)
 | p :: ps,q :: qs=>by
   unfold cy
   by_cases e:p=q
   ·subst e
    rw [if_pos rfl,if_pos rfl]
    rcases ki ps qs with h | h | h
    ·exact .inl h
    ·exact .inr (.inl (by rw [h]))
    ·exact .inr (.inr h)
   ·rw [if_neg e,if_neg (Ne.symm e)]
    rcases jq e with h | h
    ·exact .inl (decide_eq_true h)
    ·exact .inr (.inr (decide_eq_true h))
theorem gH:∀ ps qs rs,cy ps qs=true→cy qs rs=true→cy ps rs=true
 | [],[],_,h,_=>by cases h
 | [],_ :: _,[],_,h=>by cases h
 | [],_ :: _,_ :: _,_,_=>rfl
 | _ :: _,[],_,h,_=>by cases h
 | _ :: _,_ :: _,[],_,h=>by cases h
 | p :: ps,q :: qs,r :: rs,h1,h2=>by
   unfold cy at *
   by_cases e1:p=q
   ·subst e1
    rw [if_pos rfl] at h1
    by_cases e2:p=r
    ·rw [if_pos e2] at h2 ⊢;exact gH ps qs rs h1 h2
    ·rw [if_neg e2] at h2 ⊢;exact h2
   ·rw [if_neg e1] at h1
    have b1:=of_decide_eq_true h1
    by_cases e2:q=r
    ·subst e2;rw [if_neg e1];exact h1
    ·rw [if_neg e2] at h2
     have b3:=bA b1 (of_decide_eq_true h2)
     rw [if_neg (j4 b3)]
     exact decide_eq_true b3
def tU (n:Nat) (h:Heap) (v:Value) (ps:List Pl):Prop:=ps.length=n∧∃ (a:Addr) (o:Obj) (its:List Value) (m:Nat),v= .ref a∧h.get? a=some o∧o.cls= .type "tuple"∧o.data= .seq its.toArray m∧dg h its ps
theorem dg.grow {h h':Heap} (g:j7 h h'):∀ {us:List Value} {ps:List Pl},dg h us ps→dg h' us ps
 | _,_,.nil=> .nil
 | _,_,.cons a r=> .cons (a.grow g) (dg.grow g r)
theorem tU.grow {n:Nat} {h h':Heap} {v:Value} {ps:List Pl} (a:tU n h v ps) (g:j7 h h'):tU n h' v ps:=by
 obtain ⟨hl,b,o,its,m,h1,h2,h3,h4,h5⟩:=a
 exact ⟨hl,b,o,its,m,h1,g _ _ h2,h3,h4,h5.grow g⟩
theorem tU.inj {n:Nat} {h:Heap} {v:Value} {ps qs:List Pl} (a:tU n h v ps) (b:tU n h v qs):ps=qs:=by
 obtain ⟨_,a1,o,its,m,rfl,h2,h3,h4,h5⟩:=a
 obtain ⟨_,a2,o',its',m',e,k2,k3,k4,k5⟩:=b
 injection e with e
 subst e
 rw [h2] at k2
 injection k2 with k2
 subst k2
 rw [h4] at k4
 injection k4 with k4 _
 have k4:its=its':=by simpa using k4
 subst k4
 rw [← h5.keys,← k5.keys]
open Classical in
noncomputable def CQ (n:Nat) (h:Heap):KeyKind where
 α:=List Pl
 blt p q:=cy p q
 irrefl p:=kh p
 trans p q r a b:=gH p q r a b
 negTrans p q r a:=by
  rcases ki p q with c | c | c
  ·exact .inl c
  ·subst c;exact .inr a
  ·exact .inr (gH _ _ _ c a)
 total p q a b:=by
  rcases ki p q with c | c | c
  ·rw [a] at c;cases c
  ·exact c
  ·rw [b] at c;cases c
 keyOf v:=if e:∃ p,tU n h v p then some e.choose else none
 dflt:=[]
open Classical in
theorem A6 {n:Nat} {h:Heap} {v:Value} {p:List Pl} (a:tU n h v p):(CQ n h).keyOf v=some p:=by
 have e:∃ p,tU n h v p:=⟨p,a⟩
 show (if e:∃ p,tU n h v p then some e.choose else none)=some p
 rw [dif_pos e,tU.inj e.choose_spec a]
open Classical in
theorem DS {n:Nat} {h:Heap} {v:Value} {p:List Pl} (a:(CQ n h).keyOf v=some p):tU n h v p:=by
 have a:(if e:∃ p,tU n h v p then some e.choose else none)=some p:=a
 by_cases e:∃ p,tU n h v p
 ·rw [dif_pos e] at a
  have:=e.choose_spec
  rwa [Option.some.inj a] at this
 ·rw [dif_neg e] at a;cases a
section
variable {P:Program} {w:World} {A:Around} {E:Value→Shared→Prop} {s:Shared}
theorem rL {u v:Value} {p q:Pl} {Q:Bool→Shared→Prop} (hu:A.units < cLine) (a:lR s.heap u p) (b:lR s.heap v q) (h:Q (decide (p=q)) s):wpAny (model P w) A (eqBool u v) Q E s:=by
 obtain ⟨a1,o1,t1,u1,n1,rfl,h2,h3,h4⟩:=a
 obtain ⟨a2,o2,t2,u2,n2,rfl,k2,k3,k4⟩:=b
 refine wpAny_eqBool_tuple (knd:=intKind P w) (x:=[p.x,p.y]) (y:=[q.x,q.y]) hu ⟨o1,_,n1,h2,h3,h4,?_⟩ ⟨o2,_,n2,k2,k3,k4,?_⟩ ?_
 ·exact .cons (by simp [intKind,Value.isInt]) (.cons (by simp [intKind,Value.isInt]) .nil)
 ·exact .cons (by simp [intKind,Value.isInt]) (.cons (by simp [intKind,Value.isInt]) .nil)
 ·have e:decide ([p.x,p.y]= [q.x,q.y])=decide (p=q):=by
   rw [decide_eq_decide]
   cases p;cases q
   simp
  rw [e];exact h
theorem kj {u v:Value} {p q:Pl} {Q:Bool→Shared→Prop} (hu:A.units < cLine) (a:lR s.heap u p) (b:lR s.heap v q) (h:Q (decide (aI p q)) s):wpAny (model P w) A (oneLt' false u v) Q E s:=by
 obtain ⟨l,its,rfl,h1,h2⟩:=a.tup
 obtain ⟨l',its',rfl,k1,k2⟩:=b.tup
 rw [oneLt'_eq]
 simp only [Vt,if_false]
 apply wpAny_bind
 refine (HT.mh h1 k1 h2 k2 hu ?_:wpAny (model P w) A (compareOp .Lt (.ref l) (.ref l')) _ E s)
 refine wpAny_truthy_bool ?_
 rw [nG]
 exact h
theorem dg.cons_inv {h:Heap} {us:List Value} {p:Pl} {ps:List Pl} (a:dg h us (p :: ps)):∃ u vs,us=u :: vs∧lR h u p∧dg h vs ps:=by
 cases a with
 | cons a r=>exact ⟨_,_,rfl,a,r⟩
theorem dg.nil_inv {h:Heap} {us:List Value} (a:dg h us []):us= []:=by
 cases a
 rfl
theorem DT {α:Type} {qs:List α} (h:qs.length=2):∃ u v,qs= [u,v]:=by
 match qs,h with
 | [u,v],_=>exact ⟨u,v,rfl⟩
theorem Mv {n:Nat} (hn:n=2∨n=3) {t:Shared} {x y:Value} {ps qs:List Pl} {R:Bool→Shared→Prop} (hu:A.units < cLine) (kx:tU n t.heap x ps) (ky:tU n t.heap y qs) (hR:R (cy ps qs) t):wpAny (model P w) A (keyLt' (tuples' false) x y) R E t:=by
 obtain ⟨l1,a,o,its,m,rfl,h2,h3,h4,h5⟩:=kx
 obtain ⟨l2,b,o',its',m',rfl,k2,k3,k4,k5⟩:=ky
 rw [uK]
 apply wpAny_bind;apply listItems_at h2 h4
 apply wpAny_bind;apply listItems_at k2 k4
 rcases hn with rfl | rfl
 ·obtain ⟨p1,p2,rfl⟩:=DT l1
  obtain ⟨q1,q2,rfl⟩:=DT l2
  obtain ⟨u1,us,rfl,a1,h5⟩:=h5.cons_inv
  obtain ⟨u2,us,rfl,a2,h5⟩:=h5.cons_inv
  obtain rfl:=h5.nil_inv
  obtain ⟨v1,vs,rfl,b1,k5⟩:=k5.cons_inv
  obtain ⟨v2,vs,rfl,b2,k5⟩:=k5.cons_inv
  obtain rfl:=k5.nil_inv
  ·clear h2 h4 k2 k4 h3 k3
   simp only [WR,WB,Xe,XU,Yc,WZ,Xh,bind_assoc,Yh]
   apply wpAny_bind
   refine rL hu a1 b1 ?_
   unfold cy at hR
   by_cases e1:p1=q1
   ·rw [if_pos e1] at hR
    rw [decide_eq_true e1]
    simp only [V9,Vt,if_false,pure_bind,bind_assoc]
    apply wpAny_bind
    refine rL hu a2 b2 ?_
    unfold cy at hR
    by_cases e2:p2=q2
    ·rw [if_pos e2] at hR
     rw [decide_eq_true e2]
     simp only [V9,Vt,if_false,pure_bind]
     exact wpAny_pure hR
    ·rw [if_neg e2] at hR
     rw [decide_eq_false e2]
     simp only [WH,if_true,bind_assoc,pure_bind]
     apply wpAny_bind
     exact kj hu a2 b2 (wpAny_pure hR)
   ·rw [if_neg e1] at hR
    rw [decide_eq_false e1]
    simp only [WH,if_true,bind_assoc,pure_bind]
    apply wpAny_bind
    exact kj hu a1 b1 (wpAny_pure hR)
 ·obtain ⟨p1,p2,p3,rfl⟩:=nI l1
  obtain ⟨q1,q2,q3,rfl⟩:=nI l2
  obtain ⟨u1,us,rfl,a1,h5⟩:=h5.cons_inv
  obtain ⟨u2,us,rfl,a2,h5⟩:=h5.cons_inv
  obtain ⟨u3,us,rfl,a3,h5⟩:=h5.cons_inv
  obtain rfl:=h5.nil_inv
  obtain ⟨v1,vs,rfl,b1,k5⟩:=k5.cons_inv
  obtain ⟨v2,vs,rfl,b2,k5⟩:=k5.cons_inv
  obtain ⟨v3,vs,rfl,b3,k5⟩:=k5.cons_inv
  obtain rfl:=k5.nil_inv
  ·clear h2 h4 k2 k4 h3 k3
   simp only [WR,WB,Xe,XU,Yc,WZ,Xh,bind_assoc,Yh]
   apply wpAny_bind
   refine rL hu a1 b1 ?_
   unfold cy at hR
   by_cases e1:p1=q1
   ·rw [if_pos e1] at hR
    rw [decide_eq_true e1]
    simp only [V9,Vt,if_false,pure_bind,bind_assoc]
    apply wpAny_bind
    refine rL hu a2 b2 ?_
    unfold cy at hR
    by_cases e2:p2=q2
    ·rw [if_pos e2] at hR
     rw [decide_eq_true e2]
     simp only [V9,Vt,if_false,pure_bind,bind_assoc]
     apply wpAny_bind
     refine rL hu a3 b3 ?_
     unfold cy at hR
     by_cases e3:p3=q3
     ·rw [if_pos e3] at hR
      rw [decide_eq_true e3]
      simp only [V9,Vt,if_false,pure_bind]
      exact wpAny_pure hR
     ·rw [if_neg e3] at hR
      rw [decide_eq_false e3]
      simp only [WH,if_true,bind_assoc,pure_bind]
      apply wpAny_bind
      exact kj hu a3 b3 (wpAny_pure hR)
    ·rw [if_neg e2] at hR
     rw [decide_eq_false e2]
     simp only [WH,if_true,bind_assoc,pure_bind]
     apply wpAny_bind
     exact kj hu a2 b2 (wpAny_pure hR)
   ·rw [if_neg e1] at hR
    rw [decide_eq_false e1]
    simp only [WH,if_true,bind_assoc,pure_bind]
    apply wpAny_bind
    exact kj hu a1 b1 (wpAny_pure hR)
theorem JO {n:Nat} (hn:n=2∨n=3) (hu:A.units < cLine) {h:Heap} {t:Shared} (g:j7 h t.heap):Ask P w A t (CQ n h) (tuples' false):=
 ⟨fun E x y p q R kx ky hR=>Mv hn hu ((DS kx).grow g) ((DS ky).grow g) hR⟩
theorem Gz {n:Nat} (hn:n=2∨n=3) {vs:List Value} (h2:1≤vs.length) (hv:∀ v∈vs,∃ p,tU n s.heap v p) {Q:SortKind→Shared→Prop} (h:Q (tuples' false) s):wpAny (model P w) A (keyKind' vs.toArray) Q E s:=by
 rw [keyKind'_eq,Xi]
 simp only [bind_map_left]
 apply wpAny_bind
 refine nE (fun _ b=> ∃ u p,b=some u∧lR s.heap u p) vs _ (fun v hm Q hQ=>?_) fun bs hb=>?_
 ·obtain ⟨ps,hl,a,o,its,m,rfl,k2,k3,k4,k5⟩:=hv v hm
  rw [uL]
  apply wpAny_bind
  refine wpAny_typeOf (T:= "tuple") ⟨o,k2,k3⟩ ?_
  have e:(Value.type "tuple" !=Value.type "tuple")=false:=by decide
  rw [e]
  simp only [Vt,if_false,pure_bind]
  apply wpAny_bind;apply listItems_at k2 k4
  cases ps with
  | nil=>simp at hl;omega
  | cons p ps=>
    obtain ⟨u,us,rfl,a,_⟩:=k5.cons_inv
    exact wpAny_pure (hQ _ ⟨u,p,rfl,a⟩)
 ·have all:∀ (vs:List Value) (bs:List (Option Value)),Paired (fun _ b=> ∃ u p,b=some u∧lR s.heap u p) vs bs→bs.length=vs.length∧(∀ b∈bs,∃ u p,b=some u∧lR s.heap u p):=by
   intro vs
   induction vs with
   | nil=>intro bs q;cases q;exact ⟨rfl,fun _ z=>by cases z⟩
   | cons v vs ih=>
     intro bs q
     cases q with
     | cons q1 q2=>
       obtain ⟨l,m⟩:=ih _ q2
       refine ⟨by simp [l],fun b hb=>?_⟩
       rcases Vl.mp hb with rfl | hb
       ·exact q1
       ·exact m b hb
  obtain ⟨hl,hm⟩:=all vs bs hb
  have c:(bs.toArray.all fun b=>b.isSome)=true:=by
   simp only [Xn,V8]
   intro b hb
   obtain ⟨u,p,rfl,_⟩:=hm b hb
   rfl
  rw [if_pos c]
  apply wpAny_bind;apply wpAny_rule
  rw [oneTypeOnly'_eq]
  have ef:bs.toArray.filterMap id=(bs.filterMap id).toArray:=by simp
  rw [ef,Xi]
  simp only [bind_map_left,bind_assoc]
  apply wpAny_bind
  refine nE (fun _ b=>b=Value.type "tuple") _ _ (fun v hv' Q hQ=>?_) fun cs hc=>?_
  ·obtain ⟨b,hb1,hb2⟩:=Xd.mp hv'
   obtain ⟨u,p,rfl,a,o,t,u',m,rfl,k2,k3,k4⟩:=hm b hb1
   have hb2:some (Value.ref a)=some v:=hb2
   cases hb2
   exact wpAny_typeOf (T:= "tuple") ⟨o,k2,k3⟩ (hQ _ rfl)
  ·have len:1≤(bs.filterMap id).length:=by
    cases bs with
    | nil=>simp at hl;omega
    | cons b bs=>
      obtain ⟨u,p,rfl,_⟩:=hm b (Vz ..)
      simp
   have all2:∀ (us cs:List Value),Paired (fun _ b=>b=Value.type "tuple") us cs→cs=us.map fun _=>Value.type "tuple" :=by
    intro us
    induction us with
    | nil=>intro cs q;cases q;rfl
    | cons u us ih=>intro cs q;cases q with | cons q1 q2=>rw [q1,ih _ q2];rfl
   rw [all2 _ _ hc]
   generalize bs.filterMap id=us at len
   cases us with
   | nil=>simp at len
   | cons u us=>
     have e0:(List.map (fun _=>Value.type "tuple") (u :: us)).toArray[0]?=some (Value.type "tuple"):=by simp
     rw [e0]
     have e1:((List.map (fun _=>Value.type "tuple") (u :: us)).toArray.all fun x=>x == Value.type "tuple")=true:=by
      simp only [Xn,XZ,V8]
      intro _ _;rfl
     simp only [e1,if_true,pure_bind]
     exact wpAny_pure h
end
noncomputable def vS (n:Nat) (h:Heap) (v:Value):List Pl:=Option.getD (α:=List Pl) ((CQ n h).keyOf v) []
theorem A7 {n:Nat} {h:Heap} {v:Value} {p:List Pl} (a:tU n h v p):vS n h v=p:=by
 unfold vS
 have e:(CQ n h).keyOf v=some p:=A6 a
 exact congrArg (fun o=>Option.getD (α:=List Pl) o []) e
def ko (n:Nat) (h:Heap):List Value→List (List Pl)→Prop:=Paired (tU n h)
theorem ko.keys {n:Nat} {h:Heap}:∀ {us:List Value} {ps:List (List Pl)},ko n h us ps→us.map (vS n h)=ps
 | _,_,.nil=>rfl
 | _,_,.cons a r=>by rw [VP,A7 a,ko.keys r]
theorem ko.mem {n:Nat} {h:Heap}:∀ {us:List Value} {ps:List (List Pl)} {v:Value},ko n h us ps→v∈us→∃ p,tU n h v p
 | _,_,v,.nil,m=>by cases m
 | _,_,v,.cons a r,m=>by
   rcases Vl.mp m with rfl | m
   ·exact ⟨_,a⟩
   ·exact ko.mem r m
theorem x9 {n:Nat} (hn:n=2∨n=3) {P:Program} {w:World} {A:Around} {E:Value→Shared→Prop} {s:Shared} {l:Addr} {vs:List Value} {ps:List (List Pl)} {Q:Value→Shared→Prop} (hu:A.units+64 < cLine) (hl:s.heap.IsList l vs.toArray) (hv:ko n s.heap vs ps) (h64:vs.length < 64)
 (h:∀ (out:List Value) (qs:List (List Pl)),(∀ v∈out,v∈vs)→qs=out.map (vS n s.heap)→qs.Perm ps→qs.Pairwise (fun p q=>cy q p=false)→Q (.ref (s.heap.objs.size+1)) { s with heap:=sortedAll s.heap vs out.toArray }) :
 wpAny (model P w) A (call (.builtin "sorted") [.ref l]) Q E s:=by
 have hk:KeysOf (CQ n s.heap) (pairsOf vs):=fun p hp=>by
  rw [pairsOf_toList] at hp
  obtain ⟨q,a⟩:=hv.mem (cV hp).2
  exact ⟨q,A6 a⟩
 refine uJ (κ:=CQ n s.heap) (kd:=tuples' false) hl hk (fun t E Q g h2 q=>Gz hn (by omega) (fun v m=>?_) q) (fun t g=>JO hn (by show A.units+1+1 < cLine;omega) g) h64 fun y hp hs=>?_
 ·obtain ⟨p,a⟩:=hv.mem m
  exact ⟨p,a.grow g⟩
 ·have pl:y.toList.Perm (vs.zip vs):=by rw [← pairsOf_toList];exact Array.perm_iff_toList_perm.mp hp
  have same:∀ p∈y.toList,p.1=p.2∧p.1∈vs:=fun p m=>cV (pl.mem_iff.mp m)
  have eo:y.map (·.2)=(y.toList.map (·.2)).toArray:=by rw [← Array.toList_map,Array.toArray_toList]
  rw [eo]
  refine h (y.toList.map (·.2)) _ (fun v m=>?_) rfl ?_ ?_
  ·obtain ⟨p,m2,rfl⟩:=VJ.mp m
   rw [← (same p m2).1];exact (same p m2).2
  ·have q:=(pl.map (fun p=>p.2)).map (vS n s.heap)
   have e:(vs.zip vs).map (fun p=>p.2)=vs:=Yx (Vr _)
   rw [e,hv.keys] at q
   exact q
  ·rw [XI]
   intro i j hi hj hij
   have li:i < y.size:=by simpa using hi
   have lj:j < y.size:=by simpa using hj
   have q:=hs i j (Xf hij) (by rw [← hp.size_eq];exact lj)
   have key:∀ k (hk:k < y.size),KK (CQ n s.heap) y k=vS n s.heap y[k].2:=fun k hk=>by
    unfold KK
    rw [getElem?_pos y k hk]
    show Option.getD (α:=List Pl) ((CQ n s.heap).keyOf y[k].1) []=_
    rw [(same y[k] (by simp)).1]
    rfl
   have q:(CQ n s.heap).blt (KK (CQ n s.heap) y j) (KK (CQ n s.heap) y i)=false:=q
   rw [key i li,key j lj] at q
   have q:cy (vS n s.heap y[j].2) (vS n s.heap y[i].2)=false:=q
   simpa using q
def tD (ps:List Pl):D:= .tup (ps.map Pl.d)
theorem DU {n:Nat} {P:Program} {w:World} {K:PySem.W.Frag} {H:Hp} {h:Heap} {ps:List Pl} {x:V} {u:Value} (ok:jk P w H h) (hl:ps.length=n) (d:Dat K H (tD ps) x) (r:RelV x u):tU n h u ps:=by
 obtain ⟨a,xs,rfl,ha,hx⟩:=aR.mp d
 obtain rfl:u=Value.ref a:=r
 obtain ⟨its,rv,⟨o,h1,h2,m,h3⟩,_⟩:=dN ok ha
 exact ⟨hl,a,o,its,m,rfl,h1,h2,h3,nH ok hx rv⟩
theorem uR {n:Nat} {P:Program} {w:World} {K:PySem.W.Frag} {H:Hp} {h:Heap} (ok:jk P w H h):∀ {ps:List (List Pl)} {xs:List V} {us:List Value},(∀ p∈ps,p.length=n)→aC K H (ps.map tD) xs→Vals xs us→ko n h us ps
 | [],xs,us,_,d,r=>by rw [aH.mp d] at r;cases r;exact .nil
 | p :: ps,xs,us,hl,d,r=>by
   obtain ⟨v,vs,rfl,d1,d2⟩:=aA.mp d
   cases r with
   | cons r1 r2=>exact .cons (DU ok (hl p (Vz ..)) d1 r1) (uR ok (fun q hq=>hl q (Vj _ hq)) d2 r2)
theorem rM {n:Nat} {K:PySem.W.Frag} {H:Hp} {h:Heap} {P:Program} {w:World} (ok:jk P w H h) {ps:List (List Pl)} {zs:List V} {vs:List Value} (hl:∀ p∈ps,p.length=n) (d:aC K H (ps.map tD) zs) (r:Vals zs vs):∀ (out:List Value),(∀ v∈out,v∈vs)→
 ∃ ws,Vals ws out∧aC K H ((out.map (vS n h)).map tD) ws
 | [],_=>⟨[],.nil,aH.mpr rfl⟩
 | v :: out,m=>by
   obtain ⟨ws,h1,h2⟩:=rM ok hl d r out fun u hu=>m u (Vj _ hu)
   have one:∀ {ps:List (List Pl)} {zs:List V} {vs:List Value},(∀ p∈ps,p.length=n)→aC K H (ps.map tD) zs→Vals zs vs→v∈vs→∃ (p:List Pl) (x:V),p.length=n∧RelV x v∧Dat K H (tD p) x:=by
    intro ps
    induction ps with
    | nil=>intro zs vs _ d r m;rw [aH.mp d] at r;cases r;cases m
    | cons p ps ih=>
      intro zs vs hl d r m
      obtain ⟨x,xs,rfl,d1,d2⟩:=aA.mp d
      cases r with
      | cons r1 r2=>
        rcases Vl.mp m with rfl | m
        ·exact ⟨p,x,hl p (Vz ..),r1,d1⟩
        ·exact ih (fun q hq=>hl q (Vj _ hq)) d2 r2 m
   obtain ⟨p,x,lp,rx,dx⟩:=one hl d r (m v (Vz ..))
   refine ⟨x :: ws,.cons rx h1,?_⟩
   rw [VP,VP,A7 (DU ok lp dx rx)]
   exact aA.mpr ⟨x,ws,rfl,dx,h2⟩
section
variable {X:Cx}
def DV (n:Nat):List D→Mp→DK→Prop:=fun ds M Q=> ∃ (l:Addr) (ps:List (List Pl)),ds= [.ref l]∧M l=some (.lst (ps.map tD))∧(∀ p∈ps,p.length=n)∧ps.length < 64∧∀ (p:Addr) (qs:List (List Pl)),M p=none→qs.Perm ps→qs.Pairwise (fun p q=>cy q p=false)→Q (.ref p) (ay M p (.lst (qs.map tD)))
theorem o4 {n:Nat} (hn:n=2∨n=3) (hu:X.A.units+64 < cLine):Call3 X (.builtin "sorted") (DV n):=by
 constructor
 intro pins s σ H M xs ds us Q I rm rs dx ⟨l,ps,e,hM,Q3,h64,q⟩
 subst e
 obtain ⟨v,rfl,hv⟩:=qY dx
 obtain rfl:=aF.mp hv
 obtain ⟨u,rfl,r1⟩:=vals1 rs
 obtain rfl:u=Value.ref l:=r1
 obtain ⟨zs,hH,hz⟩:=rm.lst hM
 obtain ⟨its,rv,pl,hsz⟩:=I.list (iI.of (K:=X.K) hH)
 have hl:its.length=ps.length:=by rw [Vals.len rv,← hz.length,Vk]
 refine x9 hn hu pl.isList (uR I.hok Q3 hz rv) (by omega) fun out qs hm eq hp hs=>?_
 obtain ⟨ws,w1,w2⟩:=rM I.hok Q3 hz rv out hm
 rw [← eq] at w2
 obtain ⟨m,hm'⟩:=sortedAll_at s.heap its out.toArray
 have fr:H (s.heap.objs.size+1)=none:=I.hok.fresh (WQ _)
 have zw:ws.length≤sizeLine:=by
  rw [← w2.length,Vk,hp.length_eq,sizeLine_eq];omega
 refine ⟨.ref (s.heap.objs.size+1),upd H (s.heap.objs.size+1) (.lst ws),I.laid (t':=s.toks) (fun b o e=>sortedAll_old e) (WQ _) ⟨zw,out,m,w1,hm'⟩,rfl,.ref _,ay M _ (.lst (qs.map tD)),Fr.new fr fun _ hb=>aE hb,aF.mpr rfl,rm.newL fr w2,q _ _ (rm.free fr) hp hs⟩
end
end L3
namespace L3
open PySem
def dY (t:List Pl):Prop:= ∃ u v w,t= [u,v,w]∧aI u v∧aI u w∧0 < tw u v w
theorem dY.uniq {s t:List Pl} (hs:dY s) (ht:dY t) (h:s.Perm t):s=t:=by
 obtain ⟨u,v,w,rfl,b1,b2,p1⟩:=hs
 obtain ⟨a,b,c,rfl,c1,c2,p2⟩:=ht
 rcases uN h with ⟨rfl,rfl,rfl⟩ | ⟨rfl,rfl,rfl⟩ | ⟨rfl,rfl,rfl⟩ | ⟨rfl,rfl,rfl⟩ | ⟨rfl,rfl,rfl⟩ | ⟨rfl,rfl,rfl⟩
 ·rfl
 ·rw [j3] at p2;omega
 ·exact absurd c1 (az b1)
 ·exact absurd c1 (az b2)
 ·exact absurd c2 (az b1)
 ·exact absurd c2 (az b2)
theorem HU {a b c:Pl} (h:tw a b c≠0):a≠b∧a≠c∧b≠c:=
 ⟨fun e=>by subst e;rw [gF] at h;exact h rfl,fun e=>by subst e;rw [gG] at h;exact h rfl,fun e=>by subst e;rw [rj] at h;exact h rfl⟩
def DW (a b c:Pl):List Pl:=if aI a b∧aI a c then [a,b,c] else if aI b c then [b,c,a] else [c,a,b]
theorem A8 {a b c:Pl} (h:0 < tw a b c):dY (DW a b c)∧(DW a b c).Perm [a,b,c]:=by
 obtain ⟨n1,n2,n3⟩:=HU (show tw a b c≠0 by omega)
 unfold DW
 by_cases k:aI a b∧aI a c
 ·rw [if_pos k]
  exact ⟨⟨a,b,c,rfl,k.1,k.2,h⟩,.refl _⟩
 ·rw [if_neg k]
  by_cases k2:aI b c
  ·rw [if_pos k2]
   refine ⟨⟨b,c,a,rfl,k2,?_,by rw [iK];exact h⟩,(VR (l₁:=[b,c]) (l₂:=[a]))⟩
   rcases jq n1 with z | z
   ·exact absurd ⟨z,bA z k2⟩ k
   ·exact z
  ·rw [if_neg k2]
   have cb:aI c b:=by rcases jq n3 with z | z;exact absurd z k2;exact z
   have ca:aI c a:=by
    rcases jq n2 with z | z
    ·exact absurd ⟨bA z cb,z⟩ k
    ·exact z
   exact ⟨⟨c,a,b,rfl,ca,cb,by rw [← iK c a b];exact h⟩,(VR (l₁:=[c]) (l₂:=[a,b]))⟩
def tV (a b c:Pl):List Pl:=if 0 < tw a b c then DW a b c else DW a c b
theorem vU {a b c:Pl} (h:tw a b c≠0):dY (tV a b c)∧(tV a b c).Perm [a,b,c]:=by
 unfold tV
 by_cases k:0 < tw a b c
 ·rw [if_pos k];exact A8 k
 ·rw [if_neg k]
  obtain ⟨h1,h2⟩:=A8 (a:=a) (b:=c) (c:=b) (by rw [j3];omega)
  exact ⟨h1,h2.trans (.cons a (.swap b c []))⟩
theorem A9 {u v w a b c:Pl} (h: [u,v,w].Perm [a,b,c]):tw u v w≠0↔tw a b c≠0:=by
 rcases uN h with ⟨rfl,rfl,rfl⟩ | ⟨rfl,rfl,rfl⟩ | ⟨rfl,rfl,rfl⟩ | ⟨rfl,rfl,rfl⟩ | ⟨rfl,rfl,rfl⟩ | ⟨rfl,rfl,rfl⟩
 ·exact Iff.rfl
 ·rw [j3 u v w];omega
 ·rw [fH u v w];omega
 ·rw [iK w u v]
 ·rw [← iK u v w]
 ·rw [fH v w u,iK u v w];omega
theorem nN {t:List Pl} {a b c:Pl} (ht:dY t) (h:t.Perm [a,b,c]):tw a b c≠0∧t=tV a b c:=by
 have hn:tw a b c≠0:=by
  obtain ⟨u,v,w,rfl,_,_,p⟩:=ht
  exact (A9 h).mp (by omega)
 obtain ⟨h1,h2⟩:=vU hn
 exact ⟨hn,ht.uniq h1 (h.trans h2.symm)⟩
theorem zN {a b c u v w:Pl} (hn:tw a b c≠0) (hp: [u,v,w].Perm [a,b,c]) (hs: [u,v,w].Pairwise (fun p q=> ¬ aI q p)) :
 tV a b c=if 0 < tw u v w then [u,v,w] else [u,w,v]:=by
 have hn2:tw u v w≠0:=(A9 hp).mpr hn
 obtain ⟨n1,n2,n3⟩:=HU hn2
 have b1:aI u v:=by rcases jq n1 with z | z;exact z;exact absurd z ((VI.mp hs).1 v (by simp))
 have b2:aI u w:=by rcases jq n2 with z | z;exact z;exact absurd z ((VI.mp hs).1 w (by simp))
 by_cases k:0 < tw u v w
 ·rw [if_pos k]
  exact (nN ⟨u,v,w,rfl,b1,b2,k⟩ hp).2.symm
 ·rw [if_neg k]
  exact (nN ⟨u,w,v,rfl,b2,b1,by rw [j3];omega⟩ ((List.Perm.cons u (.swap v w [])).trans hp)).2.symm
def gp (ps:List Pl) (i:Nat):Pl:=ps.getD i ⟨0,0⟩
def one (ok:List Pl→Bool) (a b c:Pl):List (List Pl):=if tw a b c≠0∧ok (tV a b c)=true then [tV a b c] else []
def c2:Nat→Nat | 0=>0 | m+1=>c2 m+m
def c3:Nat→Nat | 0=>0 | k+1=>c3 k+c2 k
end L3
namespace L3
open PySem PySem.Spec PyProof.Rows L2
theorem JP {u v w:Pl} (k:er (.int (tw u v w).sign) (.int 1)=true):0 < tw u v w:=by
 rw [eG] at k
 exact WS.mp (eq_of_beq k)
theorem GA {u v w:Pl} (k:¬ er (.int (tw u v w).sign) (.int 1)=true):¬ 0 < tw u v w:=fun z=>by
 apply k
 rw [eG,V1 z]
 rfl
def JQ (ps:List Pl) (a b c:Pl):Bool:=ps.any fun d=>decide (eB a b c d)
theorem jr {ts:List (List Pl)} {i:Nat} {x:D} (h:(ts.map tD)[i]?=some x):∃ t,ts[i]?=some t∧x=tD t:=by
 rw [VT] at h
 cases e:ts[i]? with
 | none=>rw [e] at h;cases h
 | some p=>rw [e] at h;exact ⟨p,rfl,(Option.some.inj h).symm⟩
theorem dZ {ts:List (List Pl)} {f:List Pl→Bool} {i:Nat} {t:List Pl} (h:ts[i]?=some t):(ts.take (i+1)).filter f=(ts.take i).filter f ++ (if f t=true then [t] else []):=by
 rw [W6,h,Yo]
 congr 1
 show List.filter f [t]=_
 rw [Wz]
 rfl
def Mw:List Int:=[5,4,3,0, -3, -4, -5, -4, -3,0,3,4,0]
def Mx:List Int:=[0,3,4,5,4,3,0, -3, -4, -5, -4, -3,0]
def vV (a b c d:Pl):Nat→Int
 | 0=>0
 | 1=>0+((c.x - d.x)*(c.x - d.x)+(c.y - d.y)*(c.y - d.y))*tw d a b
 | 2=>0+((c.x - d.x)*(c.x - d.x)+(c.y - d.y)*(c.y - d.y))*tw d a b+((a.x - d.x)*(a.x - d.x)+(a.y - d.y)*(a.y - d.y))*tw d b c
 | _=>0+((c.x - d.x)*(c.x - d.x)+(c.y - d.y)*(c.y - d.y))*tw d a b+((a.x - d.x)*(a.x - d.x)+(a.y - d.y)*(a.y - d.y))*tw d b c+((b.x - d.x)*(b.x - d.x)+(b.y - d.y)*(b.y - d.y))*tw d c a
theorem DY (a b c d:Pl):dep a b c d=0+((c.x - d.x)*(c.x - d.x)+(c.y - d.y)*(c.y - d.y))*tw d a b+((a.x - d.x)*(a.x - d.x)+(a.y - d.y)*(a.y - d.y))*tw d b c+((b.x - d.x)*(b.x - d.x)+(b.y - d.y)*(b.y - d.y))*tw d c a:=by
 unfold dep vN
 omega
theorem vW {p q:Int} (h:p*p+q*q=0):p=0∧q=0:=by
 have sq:∀ z:Int,0≤z*z:=fun z=>by
  rcases WK 0 z with w | w
  ·exact Vs w w
  ·exact VD w w
 have h1:=sq p
 have h2:=sq q
 have e1:p*p=0:=by omega
 have e2:q*q=0:=by omega
 exact ⟨(VB.mp e1).elim id id,(VB.mp e2).elim id id⟩
theorem B6 {p q r s x y:Int} (h1:p*s=q*r) (h2:(p*p+q*q)*(r*y - s*x)=(r*r+s*s)*(p*y - q*x)) (hT:(r*y - s*x) - (p*y - q*x)≠0):(p=0∧q=0)∨(r=0∧s=0):=by
 by_cases k:p*y - q*x=0
 ·rw [k,V3] at h2
  rcases VB.mp h2 with z | z
  ·exact .inl (vW z)
  ·exact absurd (by rw [z,k];rfl) hT
 ·have e:(p*r+q*s - (r*r+s*s))*(p*y - q*x)=0:=by grind
  rcases VB.mp e with z | z
  ·have f:((p - r)*(p - r)+(q - s)*(q - s))*(r*r+s*s)=0:=by grind
   rcases VB.mp f with w | w
   ·obtain ⟨w1,w2⟩:=vW w
    exfalso
    apply hT
    have:p=r:=by omega
    have:q=s:=by omega
    subst p q
    omega
   ·exact .inr (vW w)
  ·exact absurd z k
theorem vX {a b c d:Pl} (hT:tw a b c≠0) (hd:dep a b c d=0) (hl:tw b c d=0):d=b∨d=c:=by
 have key:=B6 (p:=b.x - d.x) (q:=b.y - d.y) (r:=c.x - d.x) (s:=c.y - d.y) (x:=a.x - d.x) (y:=a.y - d.y) (by unfold tw at hl;grind) (by unfold dep vN at hd;unfold tw at hd hl;grind) (by intro z;apply hT;unfold tw at hl ⊢;grind)
 rcases key with ⟨z1,z2⟩ | ⟨z1,z2⟩
 ·left;cases b;cases d;simp at z1 z2 ⊢;omega
 ·right;cases c;cases d;simp at z1 z2 ⊢;omega
theorem GB {a b c d:Pl} (h:0 < tw a b c) (hd:d=a∨d=b∨d=c):¬ eB a b c d:=by
 intro z
 rcases hd with rfl | rfl | rfl
 ·have z:=(eL d b c d).mpr z
  exact (nD (by rw [iK];exact h) z).2 rfl
 ·have z:=(eL d c a d).mpr ((eL a d c d).mpr z)
  exact (nD (by rw [iK,iK];exact h) z).2 rfl
 ·exact (nD h z).2 rfl
theorem B7 {a b c d:Pl} (b1:aI a b) (b2:aI a c) (h:0 < tw a b c) (hd:¬ (d=a∨d=b∨d=c)) (h0:dep a b c d=0):decide (eB a b c d)=(decide (aI d a) || decide (tw b c d < 0)):=by
 have hn:tw a b c≠0:=by omega
 rw [uO hn (k7 h0) hd (.refl _) (az b1) (az b2)]
 have nz:tw b c d≠0:=fun z=>by
  rcases vX hn h0 z with e | e
  ·exact hd (.inr (.inl e))
  ·exact hd (.inr (.inr e))
 by_cases k:aI d a
 ·rw [if_pos k,decide_eq_true k];rfl
 ·rw [if_neg k,decide_eq_false k,Bool.false_or,decide_eq_decide,iK a b c,V1 h]
  constructor
  ·intro z
   apply Vi
   intro w
   exact z (V1 (by omega))
  ·intro z w
   have:=WS.mp w
   omega
theorem kr:∀ {as bs:List (List Pl)},as.Perm bs→as.Pairwise (fun a b=>cy b a=false)→bs.Pairwise (fun a b=>cy b a=false)→as=bs
 | [],bs,h,_,_=>by rw [List.nil_perm.mp h]
 | a :: as,[],h,_,_=>by simp at h
 | a :: as,b :: bs,h,h1,h2=>by
   obtain ⟨p1,p2⟩:=VI.mp h1
   obtain ⟨q1,q2⟩:=VI.mp h2
   have e:a=b:=by
    have ma:a∈b :: bs:=h.mem_iff.mp (Vz ..)
    have mb:b∈a :: as:=h.mem_iff.mpr (Vz ..)
    rcases Vl.mp ma with e | ma
    ·exact e
    rcases Vl.mp mb with e | mb
    ·exact e.symm
    rcases ki a b with c | c | c
    ·rw [q1 a ma] at c;cases c
    ·exact c
    ·rw [p1 b mb] at c;cases c
   subst e
   rw [kr ((W5 a).mp h) p2 q2]
theorem cI (fs:List (List Pl)):(fs.map tD).all (plain 9)=true:=by
 rw [V8]
 intro d hd
 obtain ⟨t,_,rfl⟩:=VJ.mp hd
 show (t.map Pl.d).all (plain 8)=true
 rw [V8]
 intro d hd
 obtain ⟨p,_,rfl⟩:=VJ.mp hd
 rfl
end L3
namespace L3
open PySem PySem.Spec PyProof.Rows L2 Att
end L3
namespace PySem
open PySem.Calls PySem.W
theorem zO:typeLookup (.type "list_reverseiterator") "__len__" =pure none:=by rw [typeLookup_type,builtinLookup_eq_fast];kernel_rfl
theorem DZ:typeLookup (.type "list_reverseiterator") "__length_hint__" =pure (some (.builtin "list_reverseiterator.__length_hint__")):=by rw [typeLookup_type,builtinLookup_eq_fast];kernel_rfl
theorem GC:isSubtype (.type "list_reverseiterator") (.type "list_reverseiterator")=pure true:=by rw [isSubtype_type];kernel_rfl
section
variable {prog:Program} {w:World} {A:Around} {s:Shared} {R:Result→Shared→Prop} {E:Value→Shared→Prop}
variable {I:Addr} {fp wr:List Addr} {G:Array GenState→Array GenState→Prop} {n:Nat} {P:Nat→Value→Prop} {St:Nat→Shared→Prop}
theorem D3 {Q:Bool→Shared→Prop} (hT:s.TypeIs (.ref I) "list_reverseiterator") (h:Q false s):wpAny (model prog w) A (Builtin.List.listLengthHint (.ref I)) Q E s:=by
 unfold Builtin.List.listLengthHint
 refine wpAny_bind (wpAny_specialOf hT zO ?_)
 show wpAny _ A (specialOf (Value.ref I) (Str.ofString "__length_hint__") >>= _) _ _ _
 refine wpAny_bind (wpAny_specialOf hT DZ ?_)
 have hs:splitId "list_reverseiterator.__length_hint__" =some ("list_reverseiterator","__length_hint__"):=by decide +kernel
 simp only [hs]
 refine wpAny_bind (wpAny_isInstance (T:= "list_reverseiterator") (b:=true) hT GC ?_)
 simp only [V9,Vt,if_false]
 exact wpAny_pure h
theorem o5 (W:WalksS prog w A.in1 I fp wr G n P St) (hT:∀ i s,St i s→s.TypeIs (.ref I) "list_reverseiterator") (S:Addr) (res:Value) (c₀:Nat) (hst:St 0 s) (hSf:S∉fp) (hI:I∈fp)
 (hS:s.heap.get? S=some { cls:= .type "list",data:= .seq #[] c₀ })
 (hR:∀ s' acc' c',Moved (S :: wr) G s s'→s'.heap.get? S=some { cls:= .type "list",dict:=none,data:= .seq acc' c',slots:= #[] }→ItemsOf P acc' n→R (.ok (.ret res)) s') (hn:n≤sizeLine) :
 wpAny (model prog w) A.in1 (Builtin.List.listExtendWith (.ref S) (.ref I) res)
  (fun fin s'=>match fin with | .done f=>R (.ok f) s' | .again c'=>c'.quiet=true∧codeAny (model prog w) A c' R s') (fun e s'=>R (.error e) s') s:=by
 have hSI:S≠I:=fun e=>hSf (e▸hI)
 unfold Builtin.List.listExtendWith
 refine wpAny_bind (wpAny_typeOf (hT 0 _ hst) ?_)
 have h1:Builtin.List.listSameRef (.ref S) (.ref I)=false:=by simp [Builtin.List.listSameRef,hSI]
 have h2:(Value.type "list_reverseiterator" == Value.type "list")=false:=by decide
 have h3:(Value.type "list_reverseiterator" == Value.type "tuple")=false:=by decide
 simp only [h1,h2,h3,XJ,Vt,if_false]
 refine wpAny_bind (W.self 0 _ _ _ hst ?_)
 refine wpAny_bind (wpAny_holding (D3 (hT 0 _ hst) ?_))
 show wpAny _ A.in1 (again (.builtin "list.extend.loop" ⟨[.ref S,.ref I,res],[]⟩)) _ _ _
 exact wpAny_pure ⟨plainId_quiet F.plain_extend_loop _,codeAny_extend_loopS W hn _ hSf _ n 0 _ _ _ rfl (Wi _) hst hS (ItemsOf.nil P) fun s' acc' c' hm hS' hacc=>hR s' acc' c' hm hS' hacc⟩
theorem lC (W:WalksS prog w A.in1 I fp wr G n P St) (hT:∀ i s,St i s→s.TypeIs (.ref I) "list_reverseiterator") (S:Addr) (hst:St 0 s) (hSf:S∉fp) (hI:I∈fp)
 (hS:s.heap.get? S=some { cls:= .type "list",data:= .seq #[] })
 (hR:∀ s' acc' c',Moved (S :: wr) G s s'→s'.heap.get? S=some { cls:= .type "list",dict:=none,data:= .seq acc' c',slots:= #[] }→ItemsOf P acc' n→R (.ok (.ret .none)) s') (hn:n≤sizeLine) :
 wpAny (model prog w) A.in1 (Builtin.«list.__init__» ⟨[.ref S,.ref I],[]⟩)
  (fun fin s'=>match fin with | .done f=>R (.ok f) s' | .again c'=>c'.quiet=true∧codeAny (model prog w) A c' R s') (fun e s'=>R (.error e) s') s:=by
 show wpAny _ A.in1 (do let old ← Builtin.List.listItems (.ref S);Builtin.List.listUpdate (.ref S) (fun _=> #[]);letGo old.toList.reverse;Builtin.List.listExtendWith (.ref S) (.ref I) .none) _ _ s
 refine wpAny_bind ?_
 unfold Builtin.List.listItems
 refine wpAny_bind (wpAny_seqItems hS rfl (wpAny_pure ?_))
 show wpAny _ A.in1 (updateSeq S (fun _=> #[]) >>= fun _=>letGo (#[]:Array Value).toList.reverse >>= fun _=>Builtin.List.listExtendWith (.ref S) (.ref I) .none) _ _ s
 refine wpAny_bind (wpAny_updateSeq hS rfl ?_)
 have KN:=Heap.get?_update_self (Obj.mapSeq (fun _=>(#[]:Array Value))) hS rfl
 have GD:∀ b o,b≠S→s.heap.get? b=some o→(s.heap.update S (Obj.mapSeq (fun _=>(#[]:Array Value)))).get? b=some o:=
  fun b o hb e=>(Heap.get?_update_other _ _ (Ne.symm hb)).trans e
 refine wpAny_bind (wpAny_letGo ?_)
 refine o5 W hT S .none _ (W.frame 0 s _ s.toks hst (Vr _) fun b hb o e=>GD b o (fun h=>hSf (h▸hb)) e) hSf hI KN (fun s' acc' c' hm hS' hacc=>?_) hn
 exact hR s' acc' c' (Moved.trans W.gtrans ((Moved.refl W.grefl).then_heap (Vr _) fun b o hb e=>GD b o (fun h=>hb (h▸Vz)) e) hm) hS' hacc
theorem tW {Q:Value→Shared→Prop} (W:WalksS prog w A.in1.in1 I fp wr G n P St) (hT:∀ i s,St i s→s.TypeIs (.ref I) "list_reverseiterator") (hst:St 0 s) (hfp:∀ b∈fp,b < s.heap.objs.size) (hI:I∈fp)
 (hQ:∀ s' acc' c',Moved (s.heap.objs.size :: wr) G { s with heap:=s.heap.push { cls:= .type "list",data:= .seq #[] } } s'→
  s'.heap.get? s.heap.objs.size=some { cls:= .type "list",dict:=none,data:= .seq acc' c',slots:= #[] }→ItemsOf P acc' n→Q (.ref s.heap.objs.size) s') (hn:n≤sizeLine) :
 wpAny (model prog w) A (call (.type "list") [.ref I]) Q E s:=by
 have hSf:s.heap.objs.size∉fp:=fun hm=>Wu _ (hfp _ hm)
 refine callType_codes (Q₁:=fun obj s₁=>obj= .ref s.heap.objs.size∧s₁= { s with heap:=s.heap.push { cls:= .type "list",data:= .seq #[] } }) F.called_list (F.typeCall_list_1 _) F.entry_list_init
  (code_list_new _ ⟨rfl,rfl⟩) fun obj s₁ h₁=>?_
 obtain ⟨rfl,rfl⟩:=h₁
 have hS:(s.heap.push { cls:= .type "list",data:= .seq #[] }).get? s.heap.objs.size=some { cls:= .type "list",data:= .seq #[] }:=Heap.get?_push_size _ rfl
 refine ⟨⟨_,hS,rfl⟩,F.args_list_init_2 _ _,lC W hT _ (W.frame 0 s _ s.toks hst (Vr _) fun b _ o e=>Heap.get?_push_of_some _ e) hSf hI hS (fun s' acc' c' hm hS' hacc=>?_) hn⟩
 exact ⟨rfl,hQ s' acc' c' hm hS' hacc⟩
end
end PySem
namespace L3
open PySem PySem.Spec PyProof.Rows L2
section
variable {X:Cx} {pos:Pos}
def Pw (to:cP):cP:=fun ρ M Q=>to ρ M fun d M1=> ∃ l xs y,d= .ref l∧M1 l=some (.lst (xs ++ [y]))∧Q y (ay M1 l (.lst xs))
theorem aC.snoc {K:PySem.W.Frag} {H:Hp}:∀ {ds:List D} {y:D} {xs:List V},aC K H (ds ++ [y]) xs→∃ zs v,xs=zs ++ [v]∧aC K H ds zs∧Dat K H y v
 | [],y,xs,h=>by
   obtain ⟨v,rfl,hv⟩:=qY h
   exact ⟨[],v,rfl,aH.mpr rfl,hv⟩
 | d :: ds,y,xs,h=>by
   obtain ⟨v,vs,rfl,h1,h2⟩:=aA.mp h
   obtain ⟨zs,u,rfl,h3,h4⟩:=aC.snoc h2
   exact ⟨v :: zs,u,rfl,aA.mpr ⟨v,zs,rfl,h1,h3⟩,h4⟩
theorem My {o:Expr} {to:cP} {apos:Pos} (ho:cg X o to) (OY:PE X (.Call (.Attribute o "pop" apos) [] [] pos) (Ln X.K "list" Lp (dn X.K to))):cg X (.Call (.Attribute o "pop" apos) [] [] pos) (Pw to):=
 up OY fun σ H ρ M Q r q=>dU r q fun v H' d M' f dv r' ⟨l,xs,y,e1,hM,q2⟩=>by
  subst e1
  obtain rfl:=aF.mp dv
  obtain ⟨ys,ha,hy⟩:=r'.mem.lst hM
  obtain ⟨zs,u,rfl,h1,h2⟩:=aC.snoc hy
  refine ⟨.inl ⟨rfl,_,iI.of ha⟩,l,zs ++ [u],u,rfl,rfl,ha,by simp,?_⟩
  rw [List.dropLast_concat]
  exact ⟨y,ay M' l (.lst xs),f.trans (Fr.write (K:=X.K) hM),Dat.mono (Ext.mj ha) _ _ h2,r'.mem.mj ha h1,q2⟩
theorem ya {K:PySem.W.Frag} {H:Hp}:∀ {ds:List D} {xs:List V},aC K H ds xs→aC K H ds.reverse xs.reverse
 | [],xs,h=>by rw [aH.mp h];exact aH.mpr rfl
 | d :: ds,xs,h=>by
   obtain ⟨v,vs,rfl,h1,h2⟩:=aA.mp h
   rw [Wf,Wf]
   exact (ya h2).append (aC.one h1)
theorem yb:∀ {xs:List V} {us:List Value},Vals xs us→Vals xs.reverse us.reverse
 | _,_,.nil=> .nil
 | _,_,.cons r rr=>by
   rw [Wf,Wf]
   exact (yb rr).append (.cons r .nil)
theorem rN:bootBuiltins "reversed" =some (.type "reversed"):=by decide +kernel
def Mz (te:cP):cP:=fun ρ M Q=>te ρ M fun d M1=> ∃ xs,DP M1 d xs∧∀ p,M1 p=none→Q (.ref p) (ay M1 p (.lst xs.reverse))
theorem B8 {e:Expr} {te:cP} {p1 p2 pos2:Pos} (hc:X.calm=true) (L0:Gl X "list") (hml:X.mg "list" =none) (hgr:Gl X "reversed") (hmr:X.mg "reversed" =none) (he:cg X e te)
 (s1:starEach [e] X.env= [(false,eval e X.env)]:=by rfl)
 (s2:starEach [.Call (.Name "reversed" p2) [e] [] pos2] X.env= [(false,eval (.Call (.Name "reversed" p2) [e] [] pos2) X.env)]:=by rfl) :
 cg X (.Call (.Name "list" p1) [.Call (.Name "reversed" p2) [e] [] pos2] [] pos) (Mz te):=by
 constructor
 intro pins s σ H ρ M Q I r h
 refine wpAny_Call_Name_kw (jT I L0 hml jn ?_ (by decide) (by decide))
 refine PyProof.Rows.callWith_type1 (Q:=EP X pins σ (Post X.K M H Q)) ?_ (by rw [s2];rfl) (by rfl)
 rw [s2]
 show wpAny _ _ (spliced ((false,eval (.Call (.Name "reversed" p2) [e] [] pos2) X.env) :: backTo pos [])) _ _ s
 refine Calls.spliced_cons ?_
 refine wpAny_Call_Name_kw (jT I hgr hmr rN ?_ (by decide) (by decide))
 refine PyProof.Rows.callWith_type1 ?_ (by rw [s1];rfl) (by rfl)
 rw [s1]
 show wpAny _ _ (spliced ((false,eval e X.env) :: backTo pos2 [])) _ _ s
 refine Calls.spliced_cons (cM (he.run pins s σ H ρ M _ I r h) fun v s1 ⟨x,H1,I1,rv,d,M1,f1,dd,oM,xs,hL,q⟩=>Calls.spliced_nil ?_)
 obtain ⟨a,zs,rfl,hz,hd⟩:=hL.sq oM dd
 obtain rfl:v=Value.ref a:=rv
 obtain ⟨its,NG,pl,hsz⟩:=I1.list hz
 have la:a < s1.heap.objs.size:=by obtain ⟨o,e,_⟩:=pl.isList;exact Heap.lt_size e
 refine PySem.call_reversed_list pl.isList ?_
 refine Calls.spliced_nil ?_
 have DG:(s1.heap.push (PySem.revObj a ((its.toArray.size:Int) - 1))).objs.size=s1.heap.objs.size+1:=Heap.size_push ..
 have Ux:zs.length=its.length:=NG.length
 refine tW (PySem.Walks.listRev (A:=X.A.in1.in1) (show X.A.in1.in1.handled=none from I.ok.hd hc) s1.heap.objs.size a (VQ la) its.toArray).toS (fun i s st=>st.2.1.typeIs) ?_ ?_ (by simp) (fun s' acc' c' mv hS' hacc=>?_) (by rw [Vo];omega)
 ·refine ⟨Wi _,⟨_,Heap.get?_push_size _ rfl,rfl,?_⟩,?_⟩
  ·simp [PySem.revObj]
  ·obtain ⟨o,e,c,dd⟩:=pl.isList
   exact ⟨o,Heap.get?_push_of_some _ e,c,dd⟩
 ·intro b hb
  show b < (s1.heap.push (PySem.revObj a ((its.toArray.size:Int) - 1))).objs.size
  rw [DG]
  simp only [Vl,VY,or_false] at hb
  rcases hb with rfl | rfl
  ·exact Xp _
  ·exact Wj la
 ·have hS':s'.heap.get? (s1.heap.objs.size+1)=some { cls:= .type "list",dict:=none,data:= .seq acc' c',slots:= #[] }:=by rw [← DG];exact hS'
  have Px:acc'=its.reverse.toArray:=by
   apply Array.ext'
   rw [WR]
   apply Yt
   intro j
   have Uy:acc'.size=its.length:=by
    have:=hacc.1
    rw [Vo] at this
    exact this
   by_cases hj:j < its.length
   ·have g1:acc'[j]?=some (acc'[j]'(by omega)):=Array.getElem?_eq_getElem (by omega)
    have g2:=hacc.2 j _ g1
    have g2:its[its.length - 1 - j]?=some (acc'[j]'(by omega)):=by simpa using g2
    rw [List.getElem?_reverse hj,g2]
    rw [Array.getElem?_toList,g1]
   ·rw [Wy (by simp;omega),Wy (by simp;omega)]
  subst Px
  have kp:∀ b o,s1.heap.get? b=some o→s'.heap.get? b=some o:=fun b o e=>by
   have lb:=Heap.lt_size e
   refine mv.heap b o ?_ (Heap.get?_push_of_some _ (Heap.get?_push_of_some _ e))
   intro hb
   simp only [Vl,VY,or_false] at hb
   rcases hb with z | z
   ·have z:b=(s1.heap.push (PySem.revObj a ((its.toArray.size:Int) - 1))).objs.size:=z
    rw [DG] at z
    rw [z] at lb
    exact absurd lb (Xx.mpr (WQ _))
   ·rw [z] at lb
    exact Wu _ lb
  have fr:H1 (s1.heap.objs.size+1)=none:=I1.hok.fresh (WQ _)
  have es:s'= { s1 with heap:=s'.heap,toks:=s'.toks }:=by
   have g:=mv.gens
   have d:=mv.drawn
   have o:=mv.os
   cases s'
   cases s1
   simp only at g d o ⊢
   subst g d o
   rfl
  have I2:Inv X pins σ (upd H1 (s1.heap.objs.size+1) (.lst zs.reverse)) { s1 with heap:=s'.heap,toks:=s'.toks }:=
   I1.laid (t':=s'.toks) kp (WQ _) ⟨by rw [VV];exact hsz,its.reverse,c',yb NG,hS'⟩
  rw [es]
  have ev:(Value.ref (s1.heap.push (PySem.revObj a ((its.toArray.size:Int) - 1))).objs.size)= .ref (s1.heap.objs.size+1):=by rw [DG]
  refine ⟨.ref (s1.heap.objs.size+1),_,I2,ev,.ref _,ay M1 _ (.lst xs.reverse),f1.trans (Fr.new fr fun _ hb=>aE hb),aF.mpr rfl,oM.newL fr (ya hd),q _ (oM.free fr)⟩
end
end L3
namespace L3
open PySem PySem.Spec PyProof.Rows L2
section
variable {X:Cx} {pos:Pos}
end
structure Q4 (K:PySem.W.Frag) (J:It) (inv:Hp→Prop) (ds:List L3.D):Prop where
 go:∀ i H,i < ds.length→inv H→J.go i H
 Ff:∀ i H x H',i < ds.length→inv H→J.Ff i H x H'→(∀ b o,H b=some o→H' b=some o)∧∃ d,ds[i]?=some d∧Dat K H' d x
 stop:∀ H,inv H→J.stop ds.length H
end L3
namespace L2
open PySem PySem.Spec PyProof.Rows
section
variable {X:Cx} {pins:List (Addr ×Obj)} {σ:St} {H:Hp} {s:Shared} {h':Heap}
theorem Inv.GF {t':Nat} {fp:List Addr} (I:Inv X pins σ H s) (k:∀ b o,b∉fp→s.heap.get? b=some o→h'.get? b=some o) (hf:∀ b∈fp,jL X pins H b):Inv X pins σ H { s with heap:=h',toks:=t' }:=by
 have KU:∀ b u,H b=some u→b∉fp:=fun b u e z=>by rw [(hf b z).1] at e;cases e
 refine I.step (g':=s.gens) (d':=s.drawn) (ch:=fp) (fun b hb=>?_) (fun b o _ _ hc e _=>k b o hc e) (fun b o _ _ hc e _=>⟨o.slots,k b o hc e⟩) (fun _ _ _ _ n=>n)
  (fun b o hc e=>⟨o,k b o hc e⟩) (fun _ _ e=>e) (fun _ _ _ e=>e) (fun b ps e=>⟨#[],by rw [e];simp⟩) (fun m hm=>?_) (fun b u e=>?_) I.bare
 ·obtain ⟨f0,f1,f2,f3,f4,f5⟩:=hf b hb
  exact ⟨f3,f1,f4,f5⟩
 ·obtain ⟨o,es,ep,ho,r⟩:=hm
  exact ⟨o,es,ep,k _ o (fun z=>(hf _ z).2.1 rfl) ho,r⟩
 ·refine (I.hok b u e).stay (fun c v hc q=>k c v ?_ q) (fun _ q=>q) fun _ _ q=>q
  rcases hc with z | z
  ·rw [z];exact KU b u e
  ·exact KU c _ z
end
section
variable {X:Cx}
theorem B9:bootBuiltins "zip" =some (.type "zip"):=by decide +kernel
end
end L2
namespace L3
open PySem PySem.Spec PyProof.Rows L2
def pairD (x y:D):D:= .tup [x,y]
section
variable {X:Cx} {pos:Pos} {body:List Stmt} {g:tO} {tb:i6}
end
end L3
namespace PySem
open PySem.Calls PySem.W
abbrev iL (h:Heap) (z TI TO T:Addr) (f:Bool):Prop:=
 h.get? z=some { cls:= .type "zip",dict:=none,data:= .fields #[rawInt T,.bool f,.bool false,.ref TI,.ref TO],slots:= #[] }
section
variable {prog:Program} {w:World} {A:Around} {E:Value→Shared→Prop} {s:Shared}
theorem yc {M:Model} {a:Addr} {Q:Option Obj→Shared→Prop} (h:Q (s.heap.get? a) s):wpAny M A (loadIfAlive a) Q E s:=
 fun _ _ _=>h
theorem nO {z TI TO T:Addr} {f:Bool} {oT:Obj} {Q:Bool→Shared→Prop} (hz:iL s.heap z TI TO T f) (hT:s.heap.get? T=some oT)
 (hQ:∀ h',iL h' z TI TO T true→h'.objs.size=s.heap.objs.size→(∀ c o,c≠z→s.heap.get? c=some o→h'.get? c=some o)→Q false { s with heap:=h' }) :
 wpAny (model prog w) A (Builtin.SmallTypes.ownedTupleIsFree (.ref z)) Q E s:=by
 unfold Builtin.SmallTypes.ownedTupleIsFree
 refine wpAny_bind (wpAny_field hz rfl (x:=rawInt T) rfl ?_)
 show wpAny _ _ (loadIfAlive T >>= _) _ _ _
 refine wpAny_bind (yc ?_)
 rw [hT]
 show wpAny _ _ (field (.ref z) 1 >>= _) _ _ _
 refine wpAny_bind (wpAny_field hz rfl (x:= .bool f) rfl ?_)
 cases f with
 | true=>exact wpAny_pure (hQ s.heap hz rfl fun _ _ _ e=>e)
 | false=>
   show wpAny _ _ (setField (.ref z) 1 (.bool true) >>= _) _ _ _
   refine wpAny_bind (wpAny_setField_rec hz (by simp) fun h₁ NH hs₁=>wpAny_pure (hQ h₁ NH hs₁.1 fun c o c1 e=>hs₁.extBut _ _ c1 e))
theorem tX {z TI TO T i1 i2 l1 l2:Addr} {f:Bool} {k1 k2:Nat} {xs ys:Array Value} {x y:Value} {oT:Obj} {Q:Value→Shared→Prop} (D:ZipApart z TI TO i1 i2 l1 l2)
 (hz:iL s.heap z TI TO T f) (hT:s.heap.get? T=some oT) (hTI:IsPair s.heap TI (.ref i1) (.ref i2))
 (h1:s.heap.IsListIter i1 l1 k1) (h2:s.heap.IsListIter i2 l2 k2) (hl1:s.heap.IsList l1 xs) (hl2:s.heap.IsList l2 ys) (hx:xs[k1]?=some x) (hy:ys[k2]?=some y)
 (hQ:∀ h',iL h' z TI TO T true→h'.IsListIter i1 l1 (k1+1)→h'.IsListIter i2 l2 (k2+1)→IsPair h' s.heap.objs.size x y→h'.objs.size=s.heap.objs.size+1→
  (∀ c o,c≠z→c≠i1→c≠i2→s.heap.get? c=some o→h'.get? c=some o)→Q (.ref s.heap.objs.size) { s with heap:=h' }) :
 wpAny (model prog w) A (Builtin.«zip.__next__» ⟨[.ref z],[]⟩) (fun fin s'=> ∃ v,fin= .done (.ret v)∧Q v s') E s:=by
 show wpAny _ _ (field (.ref z) 2 >>= _) _ _ _
 refine wpAny_bind (wpAny_field hz rfl (x:= .bool false) rfl ?_)
 show wpAny _ _ (field (.ref z) 3 >>= _) _ _ _
 refine wpAny_bind (wpAny_field hz rfl (x:= .ref TI) rfl ?_)
 refine wpAny_bind (wpAny_seqItems hTI rfl ?_)
 show wpAny _ _ (Builtin.SmallTypes.ownedTupleIsFree (.ref z) >>= _) _ _ _
 refine wpAny_bind (nO hz hT fun h₁ NH hn₁ hk₁=>?_)
 simp only [Vt,if_false]
 have e1:h₁.IsListIter i1 l1 k1:=h1.at fun o e=>hk₁ i1 o D.i1z e
 have e2:h₁.IsListIter i2 l2 k2:=h2.at fun o e=>hk₁ i2 o D.i2z e
 have m1:h₁.IsList l1 xs:=by obtain ⟨o,e,r⟩:=hl1;exact ⟨o,hk₁ _ _ D.l1z e,r⟩
 have m2:h₁.IsList l2 ys:=by obtain ⟨o,e,r⟩:=hl2;exact ⟨o,hk₁ _ _ D.l2z e,r⟩
 refine wpAny_bind ?_
 rw [← Array.forIn_toList]
 simp only [WZ,Xh]
 refine wpAny_bind (wpAny_bind (wpAny_holding ?_))
 show wpAny _ _ (Builtin.SmallTypes.nextOf (.ref i1) >>= _) _ _ _
 refine wpAny_bind (wpAny_nextOf_list_item e1 m1 hx fun h₂ g1 hs₂=>wpAny_pure (wpAny_pure ?_))
 refine wpAny_bind (wpAny_bind (wpAny_holding ?_))
 show wpAny _ _ (Builtin.SmallTypes.nextOf (.ref i2) >>= _) _ _ _
 refine wpAny_bind (wpAny_nextOf_list_item (e2.extBut hs₂.extBut D.i12.symm) (m2.extBut hs₂.extBut D.l2i1) hy fun h₃ g2 KO=>wpAny_pure (wpAny_pure (wpAny_pure ?_)))
 show wpAny _ _ (newTuple [x,y] >>= _) _ _ _
 refine wpAny_bind (wpAny_newTuple ?_)
 have hsz:h₃.objs.size=s.heap.objs.size:=by rw [KO.1,hs₂.1,hn₁]
 have kp:∀ c o,c≠z→c≠i1→c≠i2→s.heap.get? c=some o→h₃.get? c=some o:=fun c o c1 c2 c3 e=>KO.extBut _ _ c3 (hs₂.extBut _ _ c2 (hk₁ c o c1 e))
 have z3:iL h₃ z TI TO T true:=KO.extBut _ _ D.i2z.symm (hs₂.extBut _ _ D.i1z.symm NH)
 have g3:h₃.IsListIter i1 l1 (k1+1):=g1.extBut KO.extBut D.i12
 have up:∀ c o,h₃.get? c=some o→(h₃.push { cls:= .type "tuple",data:= .seq #[x,y] }).get? c=some o:=fun c o e=>Heap.get?_push_of_some _ e
 refine wpAny_pure ⟨_,rfl,?_⟩
 show Q (.ref h₃.objs.size) _
 have hp:IsPair (h₃.push { cls:= .type "tuple",data:= .seq #[x,y] }) h₃.objs.size x y:=Heap.get?_push_size _ rfl
 have q:=hQ (h₃.push { cls:= .type "tuple",data:= .seq #[x,y] }) (up _ _ z3) (g3.at fun o e=>up _ o e) (g2.at fun o e=>up _ o e) (by rw [← hsz];exact hp) (by rw [Heap.size_push,hsz]) fun c o c1 c2 c3 e=>up c o (kp c o c1 c2 c3 e)
 rw [hsz]
 exact q
theorem vY {z TI TO T i1 i2 l1 l2:Addr} {f:Bool} {k1 k2:Nat} {xs ys:Array Value} {oT:Obj} {Q:Fin→Shared→Prop} (hh:A.handled=none) (D:ZipApart z TI TO i1 i2 l1 l2)
 (hz:iL s.heap z TI TO T f) (hT:s.heap.get? T=some oT) (hTI:IsPair s.heap TI (.ref i1) (.ref i2))
 (h1:s.heap.IsListIter i1 l1 k1) (h2:s.heap.IsListIter i2 l2 k2) (hl1:s.heap.IsList l1 xs) (hl2:s.heap.IsList l2 ys) (hend:xs[k1]?=none∨ys[k2]?=none)
 (hE:∀ h' e,(∀ c o,c≠z→c≠i1→c≠i2→s.heap.get? c=some o→h'.get? c=some o)→(∃ o,h'.get? e=some o∧o.cls= .type "StopIteration")→E (.ref e) { s with heap:=h' }) :
 wpAny (model prog w) A (Builtin.«zip.__next__» ⟨[.ref z],[]⟩) Q E s:=by
 show wpAny _ _ (field (.ref z) 2 >>= _) _ _ _
 refine wpAny_bind (wpAny_field hz rfl (x:= .bool false) rfl ?_)
 show wpAny _ _ (field (.ref z) 3 >>= _) _ _ _
 refine wpAny_bind (wpAny_field hz rfl (x:= .ref TI) rfl ?_)
 refine wpAny_bind (wpAny_seqItems hTI rfl ?_)
 show wpAny _ _ (Builtin.SmallTypes.ownedTupleIsFree (.ref z) >>= _) _ _ _
 refine wpAny_bind (nO hz hT fun h₁ NH hn₁ hk₁=>?_)
 simp only [Vt,if_false]
 have e1:h₁.IsListIter i1 l1 k1:=h1.at fun o e=>hk₁ i1 o D.i1z e
 have e2:h₁.IsListIter i2 l2 k2:=h2.at fun o e=>hk₁ i2 o D.i2z e
 have m1:h₁.IsList l1 xs:=by obtain ⟨o,e,r⟩:=hl1;exact ⟨o,hk₁ _ _ D.l1z e,r⟩
 have m2:h₁.IsList l2 ys:=by obtain ⟨o,e,r⟩:=hl2;exact ⟨o,hk₁ _ _ D.l2z e,r⟩
 refine wpAny_bind ?_
 rw [← Array.forIn_toList]
 simp only [WZ,Xh]
 refine wpAny_bind (wpAny_bind (wpAny_holding ?_))
 show wpAny _ _ (Builtin.SmallTypes.nextOf (.ref i1) >>= _) _ _ _
 cases hx:xs[k1]? with
 | none=>exact wpAny_bind (wpAny_nextOf_list_end hh e1 m1 hx fun h₂ e hs₂ he=>hE h₂ e (fun c o c1 c2 c3 x=>hs₂ _ _ c2 (hk₁ c o c1 x)) he)
 | some x=>
   have hy:ys[k2]?=none:=by
    rcases hend with h | h
    ·rw [hx] at h;cases h
    ·exact h
   refine wpAny_bind (wpAny_nextOf_list_item e1 m1 hx fun h₂ g1 hs₂=>wpAny_pure (wpAny_pure ?_))
   refine wpAny_bind (wpAny_bind (wpAny_holding ?_))
   show wpAny _ _ (Builtin.SmallTypes.nextOf (.ref i2) >>= _) _ _ _
   exact wpAny_bind (wpAny_nextOf_list_end hh (e2.extBut hs₂.extBut D.i12.symm) (m2.extBut hs₂.extBut D.l2i1) hy fun h₃ e KO he=>hE h₃ e (fun c o c1 c2 c3 x=>KO _ _ c3 (hs₂.extBut _ _ c2 (hk₁ c o c1 x))) he)
theorem Ca {z TI TO T i1 i2 l1 l2:Addr} {f:Bool} {k1 k2:Nat} {xs ys:Array Value} {x y:Value} {oT:Obj} {Q:Option Value→Shared→Prop} (D:ZipApart z TI TO i1 i2 l1 l2)
 (hz:iL s.heap z TI TO T f) (hT:s.heap.get? T=some oT) (hTI:IsPair s.heap TI (.ref i1) (.ref i2))
 (h1:s.heap.IsListIter i1 l1 k1) (h2:s.heap.IsListIter i2 l2 k2) (hl1:s.heap.IsList l1 xs) (hl2:s.heap.IsList l2 ys) (hx:xs[k1]?=some x) (hy:ys[k2]?=some y)
 (hQ:∀ h',iL h' z TI TO T true→h'.IsListIter i1 l1 (k1+1)→h'.IsListIter i2 l2 (k2+1)→IsPair h' s.heap.objs.size x y→h'.objs.size=s.heap.objs.size+1→
  (∀ c o,c≠z→c≠i1→c≠i2→s.heap.get? c=some o→h'.get? c=some o)→Q (some (.ref s.heap.objs.size)) { s with heap:=h' }) :
 wpAny (model prog w) A (pyNext (.ref z)) Q E s:=by
 have hTy:s.TypeIs (.ref z) "zip" :=⟨_,hz,rfl⟩
 unfold pyNext
 exact wpAny_bind (wpAny_attempt (wpAny_callSpecial?_slot (name:=Str.ofString "__next__") hTy F.slot_zip_next
  (wpAny_call_entry F.slot_zip_next hTy F.entry_zip_next
   (tX D hz hT hTI h1 h2 hl1 hl2 hx hy fun h' a1 a2 a3 a4 a5 a6=>wpAny_pure (hQ h' a1 a2 a3 a4 a5 a6)) (F.args_zip_next_1 _))))
theorem D4 {z TI TO T i1 i2 l1 l2:Addr} {f:Bool} {k1 k2:Nat} {xs ys:Array Value} {oT:Obj} {Q:Option Value→Shared→Prop} (hh:A.handled=none) (D:ZipApart z TI TO i1 i2 l1 l2)
 (hz:iL s.heap z TI TO T f) (hT:s.heap.get? T=some oT) (hTI:IsPair s.heap TI (.ref i1) (.ref i2))
 (h1:s.heap.IsListIter i1 l1 k1) (h2:s.heap.IsListIter i2 l2 k2) (hl1:s.heap.IsList l1 xs) (hl2:s.heap.IsList l2 ys) (hend:xs[k1]?=none∨ys[k2]?=none)
 (hQ:∀ h',(∀ c o,c≠z→c≠i1→c≠i2→s.heap.get? c=some o→h'.get? c=some o)→Q none { s with heap:=h' }):wpAny (model prog w) A (pyNext (.ref z)) Q E s:=by
 have hTy:s.TypeIs (.ref z) "zip" :=⟨_,hz,rfl⟩
 unfold pyNext
 refine wpAny_bind (wpAny_attempt (wpAny_callSpecial?_slot (name:=Str.ofString "__next__") hTy F.slot_zip_next
  (wpAny_call_entry F.slot_zip_next hTy F.entry_zip_next (vY hh D hz hT hTI h1 h2 hl1 hl2 hend fun h' e hk he=>?_) (F.args_zip_next_1 _))))
 obtain ⟨o,ho,hc⟩:=he
 refine wpAny_bind (wpAny_isInstance (T:= "StopIteration") (b:=true) ⟨o,ho,hc⟩ isSubtype_stop ?_)
 exact wpAny_pure (hQ _ hk)
def MA (N0:Nat) (h:Heap) (z TI TO:Addr):Prop:=
 (IsZip h z TI TO .none∧∃ a b,IsPair h TO a b)∨∃ T f oT,iL h z TI TO T f∧h.get? T=some oT∧N0≤T
structure jH (N0:Nat) (xs ys:Array Value) (z TI TO i1 i2 l1 l2:Addr) (i:Nat) (h:Heap):Prop where
 st:MA N0 h z TI TO
 ti:IsPair h TI (.ref i1) (.ref i2)
 i1:h.IsListIter i1 l1 i
 i2:h.IsListIter i2 l2 i
 l1:h.IsList l1 xs
 l2:h.IsList l2 ys
theorem jH.next {N0:Nat} {z TI TO i1 i2 l1 l2:Addr} {i:Nat} {xs ys:Array Value} {x y:Value} {Q:Option Value→Shared→Prop} (D:ZipApart z TI TO i1 i2 l1 l2)
 (Z:jH N0 xs ys z TI TO i1 i2 l1 l2 i s.heap) (hN:N0≤s.heap.objs.size) (lt:z < N0∧TO < N0∧i1 < N0∧i2 < N0) (hx:xs[i]?=some x) (hy:ys[i]?=some y)
 (hQ:∀ h',jH N0 xs ys z TI TO i1 i2 l1 l2 (i+1) h'→IsPair h' s.heap.objs.size x y→h'.objs.size=s.heap.objs.size+1→
  (∀ c o,c≠z→c≠TO→c≠i1→c≠i2→s.heap.get? c=some o→h'.get? c=some o)→Q (some (.ref s.heap.objs.size)) { s with heap:=h' }) :
 wpAny (model prog w) A (pyNext (.ref z)) Q E s:=by
 obtain ⟨st,ti,a1,a2,m1,m2⟩:=Z
 have tl:∀ {h':Heap},(∀ c o,c≠z→c≠TO→c≠i1→c≠i2→s.heap.get? c=some o→h'.get? c=some o)→h'.IsList l1 xs∧h'.IsList l2 ys∧IsPair h' TI (.ref i1) (.ref i2):=fun k=>by
  refine ⟨?_,?_,k _ _ D.TIz D.TITO D.TIi1 D.TIi2 ti⟩
  ·obtain ⟨o,e,r⟩:=m1;exact ⟨o,k _ _ D.l1z D.l1TO D.l1i1 D.l1i2 e,r⟩
  ·obtain ⟨o,e,r⟩:=m2;exact ⟨o,k _ _ D.l2z D.l2TO D.l2i1 D.l2i2 e,r⟩
 rcases st with ⟨hz,a,b,hTO⟩ | ⟨T,f,oT,hz,hT,HV⟩
 ·refine wpAny_pyNext_zip_item D hz ti hTO a1 a2 m1 m2 hx hy fun h' b1 b2 b3 b4 b5 b6 b7=>?_
  obtain ⟨t1,t2,t3⟩:=tl b7
  exact hQ h' ⟨.inr ⟨_,false,_,b1,b5,hN⟩,t3,b3,b4,t1,t2⟩ b5 b6 b7
 ·refine Ca D hz hT ti a1 a2 m1 m2 hx hy fun h' b1 b3 b4 b5 b6 b7=>?_
  obtain ⟨t1,t2,t3⟩:=tl fun c o c1 c2 c3 c4 e=>b7 c o c1 c3 c4 e
  exact hQ h' ⟨.inr ⟨_,true,_,b1,b7 T _ (VW (Vp lt.1 HV)) (VW (Vp lt.2.2.1 HV)) (VW (Vp lt.2.2.2 HV)) hT,HV⟩,t3,b3,b4,t1,t2⟩ b5 b6 fun c o c1 c2 c3 c4 e=>b7 c o c1 c3 c4 e
theorem jH.fin {N0:Nat} {z TI TO i1 i2 l1 l2:Addr} {i:Nat} {xs ys:Array Value} {Q:Option Value→Shared→Prop} (hh:A.handled=none) (D:ZipApart z TI TO i1 i2 l1 l2)
 (Z:jH N0 xs ys z TI TO i1 i2 l1 l2 i s.heap) (hend:xs[i]?=none∨ys[i]?=none)
 (hQ:∀ h',(∀ c o,c≠z→c≠TO→c≠i1→c≠i2→s.heap.get? c=some o→h'.get? c=some o)→Q none { s with heap:=h' }):wpAny (model prog w) A (pyNext (.ref z)) Q E s:=by
 obtain ⟨st,ti,a1,a2,m1,m2⟩:=Z
 rcases st with ⟨hz,a,b,hTO⟩ | ⟨T,f,oT,hz,hT,HV⟩
 ·exact wpAny_pyNext_zip_end hh D hz ti hTO a1 a2 m1 m2 hend hQ
 ·exact D4 hh D hz hT ti a1 a2 m1 m2 hend fun h' k=>hQ h' fun c o c1 _ c3 c4 e=>k c o c1 c3 c4 e
theorem jH.keep {N0:Nat} {z TI TO i1 i2 l1 l2 S:Addr} {i:Nat} {xs ys:Array Value} {h h':Heap} (Z:jH N0 xs ys z TI TO i1 i2 l1 l2 i h) (hS:S < N0) (ne:S≠z∧S≠TI∧S≠TO∧S≠i1∧S≠i2∧S≠l1∧S≠l2)
 (k:∀ c o,c≠S→h.get? c=some o→h'.get? c=some o):jH N0 xs ys z TI TO i1 i2 l1 l2 i h':=by
 obtain ⟨st,ti,a1,a2,m1,m2⟩:=Z
 obtain ⟨n1,n2,n3,n4,n5,n6,n7⟩:=ne
 refine ⟨?_,k _ _ n2.symm ti,a1.at fun o e=>k _ o n4.symm e,a2.at fun o e=>k _ o n5.symm e,?_,?_⟩
 ·rcases st with ⟨hz,a,b,hTO⟩ | ⟨T,f,oT,hz,hT,HV⟩
  ·exact .inl ⟨k _ _ n1.symm hz,a,b,k _ _ n3.symm hTO⟩
  ·exact .inr ⟨T,f,oT,k _ _ n1.symm hz,k _ _ (VW (Vp hS HV)) hT,HV⟩
 ·obtain ⟨o,e,r⟩:=m1;exact ⟨o,k _ _ n6.symm e,r⟩
 ·obtain ⟨o,e,r⟩:=m2;exact ⟨o,k _ _ n7.symm e,r⟩
def cX (N0:Nat) (xs ys:Array Value) (h:Heap) (acc:Array Value) (i:Nat):Prop:=
 acc.size=i∧(∀ j x y,j < i→xs[j]?=some x→ys[j]?=some y→∃ p,acc[j]?=some (.ref p)∧IsPair h p x y∧N0≤p)∧acc.toList.Nodup
theorem cX.keep {N0:Nat} {xs ys:Array Value} {h h':Heap} {acc:Array Value} {i:Nat} (P:cX N0 xs ys h acc i) (k:∀ c o,N0≤c→h.get? c=some o→h'.get? c=some o):cX N0 xs ys h' acc i:=
 ⟨P.1,(fun j x y hj hx hy=>by obtain ⟨p,e1,e2,e3⟩:=P.2.1 j x y hj hx hy;exact ⟨p,e1,k p _ e3 e2,e3⟩),P.2.2⟩
theorem cX.push {N0:Nat} {xs ys:Array Value} {h:Heap} {acc:Array Value} {i:Nat} {x y:Value} {p:Addr} (P:cX N0 xs ys h acc i) (hx:xs[i]?=some x) (hy:ys[i]?=some y) (hp:IsPair h p x y) (hN:N0≤p) (hnew:Value.ref p∉acc.toList):cX N0 xs ys h (acc.push (.ref p)) (i+1):=by
 refine ⟨by rw [Array.size_push,P.1],fun j u v hj hu hv=>?_,by rw [Array.toList_push,VU];exact ⟨P.2.2,by simp,fun a ha b hb e=>by rw [Vm.mp hb] at e;rw [e] at ha;exact hnew ha⟩⟩
 by_cases e:j=i
 ·subst e
  rw [hx] at hu;rw [hy] at hv
  cases hu;cases hv
  refine ⟨p,?_,hp,hN⟩
  have:=P.1
  subst this
  exact Array.getElem?_push_size
 ·obtain ⟨q,e1,e2,e3⟩:=P.2.1 j u v (by omega) hu hv
  refine ⟨q,?_,e2,e3⟩
  rw [Array.getElem?_push,if_neg (by rw [P.1];exact e)]
  exact e1
variable {R:Result→Shared→Prop}
theorem D5 {N0:Nat} {z TI TO i1 i2 l1 l2 S:Addr} {xs ys:Array Value} (hh:A.in1.handled=none) (D:ZipApart z TI TO i1 i2 l1 l2) (lt:z < N0∧TO < N0∧i1 < N0∧i2 < N0) (HW:S < N0) (ne:S≠z∧S≠TI∧S≠TO∧S≠i1∧S≠i2∧S≠l1∧S≠l2) (n:Nat) (hn:n=min xs.size ys.size) (hsz:n≤sizeLine) (res:Value) :
 ∀ (k i:Nat) (s:Shared) (acc:Array Value) (c:Nat),n - i=k→i≤n→N0≤s.heap.objs.size→jH N0 xs ys z TI TO i1 i2 l1 l2 i s.heap→s.heap.get? S=some { cls:= .type "list",dict:=none,data:= .seq acc c,slots:= #[] }→cX N0 xs ys s.heap acc i→
 (∀ h' acc' c',(∀ b o,b≠S→b≠z→b≠TO→b≠i1→b≠i2→s.heap.get? b=some o→h'.get? b=some o)→h'.get? S=some { cls:= .type "list",dict:=none,data:= .seq acc' c',slots:= #[] }→cX N0 xs ys h' acc' n→R (.ok (.ret res)) { s with heap:=h' })→
 codeAny (model prog w) A (.builtin "list.extend.loop" ⟨[.ref S,.ref z,res],[]⟩) R s:=by
 obtain ⟨n1,n2,n3,n4,n5,n6,n7⟩:=id ne
 intro k
 induction k with
 | zero=>
   intro i s acc c hk hi hN Z hS hP hR
   have hin:i=n:=by omega
   refine codeAny_builtin F.entry_extend_loop ?_
   rw [Around.under_plainId F.plain_extend_loop _]
   show wpAny _ A.in1 (pyNext (.ref z) >>= _) _ _ s
   have hend:xs[i]?=none∨ys[i]?=none:=by
    rcases Nat.le_total xs.size ys.size with q | q
    ·left;rw [Array.getElem?_eq_none];omega
    ·right;rw [Array.getElem?_eq_none];omega
   refine wpAny_bind (Z.fin hh D hend fun h' kp=>?_)
   subst hin
   refine wpAny_pure (hR h' acc c (fun b o b1 b2 b3 b4 b5 e=>kp b o b2 b3 b4 b5 e) (kp S _ n1 n3 n4 n5 hS) (hP.keep fun c o hc e=>kp c o ?_ ?_ ?_ ?_ e))
   ·exact VW (Vp lt.1 hc)
   ·exact VW (Vp lt.2.1 hc)
   ·exact VW (Vp lt.2.2.1 hc)
   ·exact VW (Vp lt.2.2.2 hc)
 | succ k ih=>
   intro i s acc c hk hi hN Z hS hP hR
   have hlt:i < n:=by omega
   have lx:i < xs.size:=by omega
   have ly:i < ys.size:=by omega
   refine codeAny_builtin F.entry_extend_loop ?_
   rw [Around.under_plainId F.plain_extend_loop _]
   show wpAny _ A.in1 (pyNext (.ref z) >>= _) _ _ s
   have hx:xs[i]?=some xs[i]:=Array.getElem?_eq_getElem lx
   have hy:ys[i]?=some ys[i]:=Array.getElem?_eq_getElem ly
   refine wpAny_bind (Z.next D hN lt hx hy fun h' Z' hp hz' kp=>?_)
   have hS':=kp S _ n1 n3 n4 n5 hS
   have So:cX N0 xs ys h' acc i:=hP.keep fun c o hc e=>kp c o (VW (Vp lt.1 hc)) (VW (Vp lt.2.1 hc)) (VW (Vp lt.2.2.1 hc)) (VW (Vp lt.2.2.2 hc)) e
   have hnew:Value.ref s.heap.objs.size∉acc.toList:=fun hm=>by
    obtain ⟨j,hj,ej⟩:=List.mem_iff_getElem.mp hm
    have hj':j < acc.size:=by simpa using hj
    have hji:j < i:=by rw [← hP.1];exact hj'
    have gx:xs[j]?=some xs[j]:=Array.getElem?_eq_getElem (by omega)
    have gy:ys[j]?=some ys[j]:=Array.getElem?_eq_getElem (by omega)
    obtain ⟨q,e1,e2,e3⟩:=hP.2.1 j _ _ hji gx gy
    rw [Array.getElem?_eq_getElem hj'] at e1
    have e4:acc[j]=Value.ref s.heap.objs.size:=by rw [← ej];simp
    rw [e4] at e1
    have e5:s.heap.objs.size=q:=by injection Option.some.inj e1
    have:=Heap.lt_size e2
    rw [← e5] at this
    exact Wu _ this
   show wpAny _ A.in1 (updateSeq S (·.push (.ref s.heap.objs.size)) >>= _) _ _ _
   refine wpAny_bind ?_
   have up:∀ b o,b≠S→h'.get? b=some o→(h'.update S (Obj.mapSeq (·.push (.ref s.heap.objs.size)))).get? b=some o:=fun b o hb e=>(Heap.get?_update_other _ _ (Ne.symm hb)).trans e
   refine wpAny_updateSeq hS' rfl (wpAny_pure ⟨plainId_quiet F.plain_extend_loop _,ih (i+1) _ (acc.push (.ref s.heap.objs.size)) _ (by omega) hlt ?_ (Z'.keep HW ne fun c o hc e=>up c o hc e) (Heap.get?_update_self _ hS' rfl)
    ((So.push hx hy hp hN hnew).keep fun c o hc e=>up c o (VW (Vp HW hc)) e) fun h'' acc' c' Py Pz PB=>?_⟩) (by rw [hP.1];omega) (by show (acc.push _).size≤sizeLine+1;rw [Array.size_push,hP.1];omega)
   ·show N0≤(h'.update S _).objs.size
    have:(h'.update S (Obj.mapSeq (·.push (.ref s.heap.objs.size)))).objs.size=h'.objs.size:=(Heap.SameBut.update ..).1
    omega
   ·exact hR h'' acc' c' (fun b o b1 b2 b3 b4 b5 e=>Py b o b1 b2 b3 b4 b5 (up b o b1 (kp b o b2 b3 b4 b5 e))) Pz PB
theorem zP:typeLookup (.type "zip") "__len__" =pure none:=by rw [typeLookup_type,builtinLookup_eq_fast];kernel_rfl
theorem yd:typeLookup (.type "zip") "__length_hint__" =pure none:=by rw [typeLookup_type,builtinLookup_eq_fast];kernel_rfl
theorem zQ {N0:Nat} {z TI TO i1 i2 l1 l2 S:Addr} {xs ys:Array Value} {c₀:Nat} (hh:A.in1.handled=none) (D:ZipApart z TI TO i1 i2 l1 l2) (lt:z < N0∧TO < N0∧i1 < N0∧i2 < N0) (HW:S < N0) (ne:S≠z∧S≠TI∧S≠TO∧S≠i1∧S≠i2∧S≠l1∧S≠l2) (n:Nat) (hn:n=min xs.size ys.size) (hsz:n≤sizeLine) (res:Value)
 (hN:N0≤s.heap.objs.size) (Z:jH N0 xs ys z TI TO i1 i2 l1 l2 0 s.heap) (hz:IsZip s.heap z TI TO .none) (hS:s.heap.get? S=some { cls:= .type "list",data:= .seq #[] c₀ })
 (hR:∀ h' acc' c',(∀ b o,b≠S→b≠z→b≠TO→b≠i1→b≠i2→s.heap.get? b=some o→h'.get? b=some o)→h'.get? S=some { cls:= .type "list",dict:=none,data:= .seq acc' c',slots:= #[] }→cX N0 xs ys h' acc' n→R (.ok (.ret res)) { s with heap:=h' }) :
 wpAny (model prog w) A.in1 (Builtin.List.listExtendWith (.ref S) (.ref z) res)
  (fun fin s'=>match fin with | .done f=>R (.ok f) s' | .again c'=>c'.quiet=true∧codeAny (model prog w) A c' R s') (fun e s'=>R (.error e) s') s:=by
 have hTy:s.TypeIs (.ref z) "zip" :=⟨_,hz,rfl⟩
 unfold Builtin.List.listExtendWith
 refine wpAny_bind (wpAny_typeOf hTy ?_)
 have h1:Builtin.List.listSameRef (.ref S) (.ref z)=false:=by simp [Builtin.List.listSameRef,ne.1]
 have h2:(Value.type "zip" == Value.type "list")=false:=by decide
 have h3:(Value.type "zip" == Value.type "tuple")=false:=by decide
 simp only [h1,h2,h3,XJ,Vt,if_false]
 refine wpAny_bind (wpAny_pyIter_zip hz ?_)
 refine wpAny_bind (wpAny_holding ?_)
 unfold Builtin.List.listLengthHint
 refine wpAny_bind (wpAny_specialOf hTy zP ?_)
 show wpAny _ A.in1 (specialOf (Value.ref z) (Str.ofString "__length_hint__") >>= _) _ _ _
 refine wpAny_bind (wpAny_specialOf hTy yd ?_)
 refine wpAny_pure ?_
 show wpAny _ A.in1 (rule "list.extend.makes-room" >>= fun _=>Builtin.List.listTouch (.ref S) >>= fun _=>
  again (.builtin "list.extend.loop" ⟨[.ref S,.ref z,res],[]⟩)) _ _ _
 refine wpAny_bind (wpAny_rule ?_)
 refine wpAny_bind ?_
 show wpAny _ A.in1 (updateSeq S (·.push .none) >>= fun _=>updateSeq S (·.pop)) _ _ _
 refine wpAny_bind (wpAny_updateSeq hS rfl ?_)
 have KN:=Heap.get?_update_self (Obj.mapSeq (·.push Value.none)) hS rfl
 refine wpAny_updateSeq (hz:=by seq_fits) KN rfl ?_
 have Sq:=Heap.get?_update_self (Obj.mapSeq (·.pop)) KN rfl
 have GD:∀ b o,b≠S→s.heap.get? b=some o→((s.heap.update S (Obj.mapSeq (·.push Value.none))).update S (Obj.mapSeq (·.pop))).get? b=some o:=
  fun b o hb e=>(Heap.get?_update_other _ _ (Ne.symm hb)).trans ((Heap.get?_update_other _ _ (Ne.symm hb)).trans e)
 have PC:((s.heap.update S (Obj.mapSeq (·.push Value.none))).update S (Obj.mapSeq (·.pop))).objs.size=s.heap.objs.size:=by
  rw [(Heap.SameBut.update ..).1,(Heap.SameBut.update ..).1]
 refine wpAny_pure ⟨plainId_quiet F.plain_extend_loop _,D5 hh D lt HW ne n hn hsz res n 0 _ _ _ rfl (Wi _) (Wx hN (Yp PC.symm)) (Z.keep HW ne fun c o hc e=>GD c o hc e) Sq ⟨rfl,(fun j x y hj=>absurd hj (Yb _)),XD⟩ fun h' acc' c' kp hS' hP=>?_⟩
 exact hR h' acc' c' (fun b o b1 b2 b3 b4 b5 e=>kp b o b1 b2 b3 b4 b5 (GD b o b1 e)) hS' hP
theorem tY {N0:Nat} {z TI TO i1 i2 l1 l2 S:Addr} {xs ys:Array Value} (hh:A.in1.handled=none) (D:ZipApart z TI TO i1 i2 l1 l2) (lt:z < N0∧TO < N0∧i1 < N0∧i2 < N0) (HW:S < N0) (ne:S≠z∧S≠TI∧S≠TO∧S≠i1∧S≠i2∧S≠l1∧S≠l2) (n:Nat) (hn:n=min xs.size ys.size) (hsz:n≤sizeLine)
 (hN:N0≤s.heap.objs.size) (Z:jH N0 xs ys z TI TO i1 i2 l1 l2 0 s.heap) (hz:IsZip s.heap z TI TO .none) (hS:s.heap.get? S=some { cls:= .type "list",data:= .seq #[] })
 (hR:∀ h' acc' c',(∀ b o,b≠S→b≠z→b≠TO→b≠i1→b≠i2→s.heap.get? b=some o→h'.get? b=some o)→h'.get? S=some { cls:= .type "list",dict:=none,data:= .seq acc' c',slots:= #[] }→cX N0 xs ys h' acc' n→R (.ok (.ret .none)) { s with heap:=h' }) :
 wpAny (model prog w) A.in1 (Builtin.«list.__init__» ⟨[.ref S,.ref z],[]⟩)
  (fun fin s'=>match fin with | .done f=>R (.ok f) s' | .again c'=>c'.quiet=true∧codeAny (model prog w) A c' R s') (fun e s'=>R (.error e) s') s:=by
 show wpAny _ A.in1 (do let old ← Builtin.List.listItems (.ref S);Builtin.List.listUpdate (.ref S) (fun _=> #[]);letGo old.toList.reverse;Builtin.List.listExtendWith (.ref S) (.ref z) .none) _ _ s
 refine wpAny_bind ?_
 unfold Builtin.List.listItems
 refine wpAny_bind (wpAny_seqItems hS rfl (wpAny_pure ?_))
 show wpAny _ A.in1 (updateSeq S (fun _=> #[]) >>= fun _=>letGo (#[]:Array Value).toList.reverse >>= fun _=>Builtin.List.listExtendWith (.ref S) (.ref z) .none) _ _ s
 refine wpAny_bind (wpAny_updateSeq hS rfl ?_)
 have KN:=Heap.get?_update_self (Obj.mapSeq (fun _=>(#[]:Array Value))) hS rfl
 have GD:∀ b o,b≠S→s.heap.get? b=some o→(s.heap.update S (Obj.mapSeq (fun _=>(#[]:Array Value)))).get? b=some o:=
  fun b o hb e=>(Heap.get?_update_other _ _ (Ne.symm hb)).trans e
 have PC:(s.heap.update S (Obj.mapSeq (fun _=>(#[]:Array Value)))).objs.size=s.heap.objs.size:=(Heap.SameBut.update ..).1
 refine wpAny_bind (wpAny_letGo ?_)
 refine zQ hh D lt HW ne n hn hsz .none (Wx hN (Yp PC.symm)) (Z.keep HW ne fun c o hc e=>GD c o hc e) (GD _ _ ne.1.symm hz) KN fun h' acc' c' kp hS' hP=>?_
 exact hR h' acc' c' (fun b o b1 b2 b3 b4 b5 e=>kp b o b1 b2 b3 b4 b5 (GD b o b1 e)) hS' hP
theorem tZ {z TI TO i1 i2 l1 l2:Addr} {xs ys:Array Value} {Q:Value→Shared→Prop} (hh:A.in1.in1.handled=none) (D:ZipApart z TI TO i1 i2 l1 l2)
 (lt:z < s.heap.objs.size∧TI < s.heap.objs.size∧TO < s.heap.objs.size∧i1 < s.heap.objs.size∧i2 < s.heap.objs.size∧l1 < s.heap.objs.size∧l2 < s.heap.objs.size) (n:Nat) (hn:n=min xs.size ys.size) (hsz:n≤sizeLine)
 (hz:IsZip s.heap z TI TO .none) (hTI:IsPair s.heap TI (.ref i1) (.ref i2)) {a b:Value} (hTO:IsPair s.heap TO a b) (h1:s.heap.IsListIter i1 l1 0) (h2:s.heap.IsListIter i2 l2 0) (hl1:s.heap.IsList l1 xs) (hl2:s.heap.IsList l2 ys)
 (hQ:∀ h' acc' c',(∀ b o,b≠z→b≠TO→b≠i1→b≠i2→s.heap.get? b=some o→h'.get? b=some o)→h'.get? s.heap.objs.size=some { cls:= .type "list",dict:=none,data:= .seq acc' c',slots:= #[] }→cX (s.heap.objs.size+1) xs ys h' acc' n→Q (.ref s.heap.objs.size) { s with heap:=h' }) :
 wpAny (model prog w) A (call (.type "list") [.ref z]) Q E s:=by
 obtain ⟨q1,q2,q3,q4,q5,q6,q7⟩:=lt
 refine callType_codes (Q₁:=fun obj s₁=>obj= .ref s.heap.objs.size∧s₁= { s with heap:=s.heap.push { cls:= .type "list",data:= .seq #[] } }) F.called_list (F.typeCall_list_1 _) F.entry_list_init
  (code_list_new _ ⟨rfl,rfl⟩) fun obj s₁ h₁=>?_
 obtain ⟨rfl,rfl⟩:=h₁
 have hS:(s.heap.push { cls:= .type "list",data:= .seq #[] }).get? s.heap.objs.size=some { cls:= .type "list",data:= .seq #[] }:=Heap.get?_push_size _ rfl
 have up:∀ c o,s.heap.get? c=some o→(s.heap.push { cls:= .type "list",data:= .seq #[] }).get? c=some o:=fun c o e=>Heap.get?_push_of_some _ e
 have Z:jH (s.heap.objs.size+1) xs ys z TI TO i1 i2 l1 l2 0 (s.heap.push { cls:= .type "list",data:= .seq #[] }):=
  ⟨.inl ⟨up _ _ hz,a,b,up _ _ hTO⟩,up _ _ hTI,h1.at fun o e=>up _ o e,h2.at fun o e=>up _ o e,(by obtain ⟨o,e,r⟩:=hl1;exact ⟨o,up _ _ e,r⟩),(by obtain ⟨o,e,r⟩:=hl2;exact ⟨o,up _ _ e,r⟩)⟩
 refine ⟨⟨_,hS,rfl⟩,F.args_list_init_2 _ _,tY (N0:=s.heap.objs.size+1) hh D ⟨Wj q1,Wj q3,Wj q4,Wj q5⟩ (Xp _) ⟨VW q1,VW q2,VW q3,VW q4,VW q5,VW q6,VW q7⟩ n hn hsz
  (by show s.heap.objs.size+1≤(Heap.push _ _).objs.size;rw [Heap.size_push];exact Vr _) Z (up _ _ hz) hS fun h' acc' c' kp hS' hP=>?_⟩
 exact ⟨rfl,hQ h' acc' c' (fun b o b2 b3 b4 b5 e=>kp b o (VQ (Heap.lt_size e)) b2 b3 b4 b5 (up b o e)) hS' hP⟩
end
end PySem
namespace L2
open PySem PySem.Spec PyProof.Rows
section
variable {X:Cx} {pins:List (Addr ×Obj)} {σ:St} {H:Hp} {s:Shared}
theorem Inv.named {a:Addr} {o:HO} (I:Inv X pins σ H s) (f:jL X pins H a) (new:cF X.prog X.w (upd H a o) s.heap a o):Inv X pins σ (upd H a o) s:=by
 obtain ⟨f0,f1,f2,f3,f4,f5⟩:=f
 have nn:∀ b u,H b=some u→b≠a:=fun b u e z=>by rw [z,f0] at e;cases e
 have hok:jk X.prog X.w (upd H a o) s.heap:=fun b u e=>by
  by_cases hb:b=a
  ·subst hb;rw [bN] at e;cases e;exact new
  ·rw [aQ hb] at e
   exact (I.hok b u e).stay (fun c v _ q=>q) (fun c q=>by rw [aQ (nn _ _ q)];exact q) fun c xs q=>by rw [aQ (nn _ _ q)];exact q
 exact I.step (h':=s.heap) (g':=s.gens) (d':=s.drawn) (t':=s.toks) (ch:=[a]) (fun b hb=>by rw [Vm.mp hb];exact ⟨f3,f1,f4,f5⟩) (fun b o _ _ _ e _=>e) (fun b o _ _ _ e _=>⟨o.slots,e⟩) (fun b o hc e n=>by rw [aQ (by simpa using hc)];exact n)
  (fun b o _ e=>⟨o,e⟩) (fun b xs e=>by rw [aQ (nn _ _ e)];exact e) (fun b o u e=>by rw [aQ (nn _ _ e)];exact e) (fun b ps e=>⟨#[],by rw [aQ (nn _ _ e),e];simp⟩) (fun m hm=>hm) hok I.bare
end
end L2
namespace L3
open PySem PySem.Spec PyProof.Rows L2
section
variable {X:Cx} {pins:List (Addr ×Obj)} {σ:St} {s:Shared}
theorem rO:∀ (L:List (Addr ×V ×V)) {H:Hp},Inv X pins σ H s→(L.map (·.1)).Nodup→(∀ q∈L,jL X pins H q.1∧∃ u v,RelV q.2.1 u∧RelV q.2.2 v∧IsPair s.heap q.1 u v)→
 ∃ H',Inv X pins σ H' s∧(∀ b o,H b=some o→H' b=some o)∧(∀ b,b∉L.map (·.1)→H' b=H b)∧∀ q∈L,H' q.1=some (.tup [q.2.1,q.2.2])
 | [],H,I,_,_=>⟨H,I,fun _ _ e=>e,fun _ _=>rfl,fun q hq=>by cases hq⟩
 | (p,x,y) :: L,H,I,nd,h=>by
   obtain ⟨f,u,v,ru,rv,hp⟩:=h (p,x,y) (by simp)
   rw [VP,VC] at nd
   have I1:Inv X pins σ (upd H p (.tup [x,y])) s:=I.named f ⟨by rw [sizeLine_eq];show 2≤16777216;decide,[u,v],.cons ru (.cons rv .nil),⟨_,hp,rfl,_,rfl⟩⟩
   obtain ⟨H',I',k1,k2,k3⟩:=rO L I1 nd.2 fun q hq=>by
    obtain ⟨⟨f0,fr⟩,r⟩:=h q (Vj _ hq)
    refine ⟨⟨?_,fr⟩,r⟩
    rw [aQ (fun z=>nd.1 (VJ.mpr ⟨q,hq,z⟩))]
    exact f0
   refine ⟨H',I',fun b o e=>k1 b o (by rw [aQ (bI e f.1)];exact e),fun b hb=>?_,fun q hq=>?_⟩
   ·rw [VP,Vl,not_or] at hb
    rw [k2 b hb.2,aQ hb.1]
   ·rcases Vl.mp hq with e | e
    ·rw [e];exact k1 p _ bN
    ·exact k3 q e
theorem uS:∀ (ps:List Addr),Vals (ps.map V.ref) (ps.map Value.ref)
 | []=> .nil
 | p :: ps=> .cons rfl (uS ps)
theorem p8 {K:PySem.W.Frag} {H:Hp}:∀ {ds:List D} {xs:List V},ds.length=xs.length→(∀ (i:Nat) (d:D),ds[i]?=some d→∃ v,xs[i]?=some v∧Dat K H d v)→aC K H ds xs
 | [],[],_,_=>aH.mpr rfl
 | d :: ds,x :: xs,hl,h=>by
   obtain ⟨v,e,hv⟩:=h 0 d rfl
   cases e
   exact aA.mpr ⟨x,xs,rfl,hv,p8 (by simpa using hl) fun i d e=>h (i+1) d e⟩
 | [],_ :: _,hl,_=>by cases hl
 | _ :: _,[],hl,_=>by cases hl
end
section
variable {X:Cx} {pos:Pos}
def MB (t:tN):cP:=fun ρ M Q=>t ρ M fun vs M1=> ∃ a b xs ys,vs= [.ref a,.ref b]∧M1 a=some (.lst xs)∧M1 b=some (.lst ys)∧∀ p,M1 p=none→Q (.ref p) (ay M1 p (.lst (List.zipWith pairD xs ys)))
theorem Cb {e1 e2:Expr} {t:tN} {p1 p2 pos2:Pos} (hc:X.calm=true) (L0:Gl X "list") (hml:X.mg "list" =none) (Ss:Gl X "zip") (Su:X.mg "zip" =none) (ha:zA X [e1,e2] t)
 (st1:starEach [e1,e2] X.env=(false,eval e1 X.env) :: starEach [e2] X.env:=by rfl) (hpl:(backTo pos2 (starEach [e2] X.env)).any (·.1)=false:=by rfl)
 (s2:starEach [.Call (.Name "zip" p2) [e1,e2] [] pos2] X.env= [(false,eval (.Call (.Name "zip" p2) [e1,e2] [] pos2) X.env)]:=by rfl) :
 cg X (.Call (.Name "list" p1) [.Call (.Name "zip" p2) [e1,e2] [] pos2] [] pos) (MB t):=by
 constructor
 intro pins s σ H ρ M Q I r h
 refine wpAny_Call_Name_kw (jT I L0 hml jn ?_ (by decide) (by decide))
 refine PyProof.Rows.callWith_type1 (Q:=EP X pins σ (Post X.K M H Q)) ?_ (by rw [s2];rfl) (by rfl)
 rw [s2]
 show wpAny _ _ (spliced ((false,eval (.Call (.Name "zip" p2) [e1,e2] [] pos2) X.env) :: backTo pos [])) _ _ s
 refine Calls.spliced_cons ?_
 refine wpAny_Call_Name_kw (jT I Ss Su B9 ?_ (by decide) (by decide))
 refine PyProof.Rows.callWith_type1 (cM (ha.run pos2 pins s σ H ρ M _ I r h) fun us s1 hq=>?_) st1 hpl
 obtain ⟨vs,H1,I1,r1,ds,M1,f1,dv,oM,a,b,xs,ys,e,Sv,Sx,q⟩:=hq
 subst e
 obtain ⟨v,u,rfl,hv,hu⟩:=xS dv
 obtain rfl:=aF.mp hv
 obtain rfl:=aF.mp hu
 obtain ⟨u1,u2,rfl,ra,rb⟩:=vals2 r1
 obtain rfl:u1=Value.ref a:=ra
 obtain rfl:u2=Value.ref b:=rb
 obtain ⟨zs,Sy,dz⟩:=oM.lst Sv
 obtain ⟨ws,Sz,dw⟩:=oM.lst Sx
 obtain ⟨its,rv,pl,hz1⟩:=I1.list (iI.of Sy)
 obtain ⟨NI,rw',PD,hz2⟩:=I1.list (iI.of Sz)
 have la:a < s1.heap.objs.size:=by obtain ⟨o,e,_⟩:=pl.isList;exact Heap.lt_size e
 have lb:b < s1.heap.objs.size:=by obtain ⟨o,e,_⟩:=PD.isList;exact Heap.lt_size e
 refine call_zip_2 pl.isList PD.isList fun h' hz hTI hTO h1 h2 hsz kp=>Calls.spliced_nil ?_
 have na:∀ k,a≠s1.heap.objs.size+k:=fun k=>VQ (Vp la (V5 _ _))
 have nb:∀ k,b≠s1.heap.objs.size+k:=fun k=>VQ (Vp lb (V5 _ _))
 have nn:∀ j k:Nat,j≠k→s1.heap.objs.size+j≠s1.heap.objs.size+k:=fun j k h e=>h (Nat.add_left_cancel e)
 have D:ZipApart (s1.heap.objs.size+4) (s1.heap.objs.size+2) (s1.heap.objs.size+3) s1.heap.objs.size (s1.heap.objs.size+1) a b:=
  ⟨nn 2 4 (by decide),nn 3 4 (by decide),nn 0 4 (by decide),nn 1 4 (by decide),nn 2 3 (by decide),nn 2 0 (by decide),nn 2 1 (by decide),nn 3 0 (by decide),nn 3 1 (by decide),nn 0 1 (by decide),na 4,na 3,na 0,na 1,nb 4,nb 3,nb 0,nb 1⟩
 have lz:=rv.length
 have lw:=rw'.length
 refine tZ (s:={ s1 with heap:=h' }) (show _ from I.ok.hd hc) D (by show _ < h'.objs.size∧_;rw [hsz];exact ⟨Xa (by decide) _,Xa (by decide) _,Xa (by decide) _,Nat.lt_add_of_pos_right (by decide),Xa (by decide) _,Vp la (V5 _ _),Vp lb (V5 _ _)⟩) (min its.toArray.size NI.toArray.size) rfl (by simp only [Vo];omega) hz hTI hTO h1 h2
  (by obtain ⟨o,e,r⟩:=pl.isList;exact ⟨o,kp _ _ e,r⟩) (by obtain ⟨o,e,r⟩:=PD.isList;exact ⟨o,kp _ _ e,r⟩) fun h'' acc c JF hS hP=>?_
 have hS:h''.get? (s1.heap.objs.size+5)=some { cls:= .type "list",dict:=none,data:= .seq acc c,slots:= #[] }:=by rw [← hsz];exact hS
 have hP:cX (s1.heap.objs.size+6) its.toArray NI.toArray h'' acc (min its.toArray.size NI.toArray.size):=by
  have e:s1.heap.objs.size+6=h'.objs.size+1:=by rw [hsz]
  rw [e];exact hP
 have en:min its.toArray.size NI.toArray.size=min zs.length ws.length:=by simp only [Vo];omega
 rw [en] at hP
 have I2:Inv X pins σ H1 { s1 with heap:=h',toks:=s1.toks }:=I1.kept (t':=s1.toks) kp
 have fz:∀ {H':Hp} {b:Addr},s1.heap.objs.size≤b→H' b=none→jL X pins H' b:=fun hb hn=>I1.BJ hb hn
 have I3:Inv X pins σ H1 { s1 with heap:=h'',toks:=s1.toks }:=Inv.GF (s:={ s1 with heap:=h',toks:=s1.toks }) (h':=h'') (t':=s1.toks) (fp:=[s1.heap.objs.size+4,s1.heap.objs.size+3,s1.heap.objs.size,s1.heap.objs.size+1]) I2
  (fun b o hb e=>by
   have nb:b≠s1.heap.objs.size+4∧b≠s1.heap.objs.size+3∧b≠s1.heap.objs.size∧b≠s1.heap.objs.size+1:=by simpa using hb
   exact JF b o nb.1 nb.2.1 nb.2.2.1 nb.2.2.2 e)
  (fun b hb=>by
   have hle:s1.heap.objs.size≤b:=by
    simp only [Vl,VY,or_false] at hb
    rcases hb with rfl | rfl | rfl | rfl
    ·exact V5 _ _
    ·exact V5 _ _
    ·exact Vr _
    ·exact V5 _ _
   exact fz hle (I1.hok.fresh hle))
 have key:∀ j,j < min zs.length ws.length→∃ x y u v p,zs[j]?=some x∧ws[j]?=some y∧RelV x u∧RelV y v∧acc[j]?=some (.ref p)∧IsPair h'' p u v∧s1.heap.objs.size+6≤p:=fun j hj=>by
  have gx:zs[j]?=some (zs[j]'(by omega)):=Vn (by omega)
  have gy:ws[j]?=some (ws[j]'(by omega)):=Vn (by omega)
  obtain ⟨u,hu,ru⟩:=rv.get gx
  obtain ⟨v,hv,NG⟩:=rw'.get gy
  obtain ⟨p,a1,a2,a3⟩:=hP.2.1 j u v hj (by simpa using hu) (by simpa using hv)
  exact ⟨_,_,u,v,p,gx,gy,ru,NG,a1,a2,a3⟩
 generalize hm:min zs.length ws.length=m at *
 let pj:Nat→Addr:=fun j=>match acc[j]? with | some (.ref p)=>p | _=>0
 have PF:∀ j,j < m→∃ x y u v,zs[j]?=some x∧ws[j]?=some y∧RelV x u∧RelV y v∧acc[j]?=some (.ref (pj j))∧IsPair h'' (pj j) u v∧s1.heap.objs.size+6≤pj j:=fun j hj=>by
  obtain ⟨x,y,u,v,p,a1,a2,a3,a4,a5,a6,a7⟩:=key j hj
  have e:pj j=p:=by show (match acc[j]? with | some (.ref p)=>p | _=>0)=p;rw [a5]
  rw [e]
  exact ⟨x,y,u,v,a1,a2,a3,a4,a5,a6,a7⟩
 have HX:acc.toList=((List.range m).map pj).map Value.ref:=by
  apply Yt
  intro j
  by_cases hj:j < m
  ·obtain ⟨x,y,u,v,a1,a2,a3,a4,a5,a6,a7⟩:=PF j hj
   rw [Array.getElem?_toList,a5]
   simp [hj]
  ·rw [Wy (by simp [hP.1];omega),Wy (by simp;omega)]
 have SA:((List.range m).map pj).Nodup:=by
  have q:=hP.2.2
  rw [HX] at q
  exact (List.pairwise_map.mp q).imp fun hne e=>hne (congrArg _ e)
 obtain ⟨H',I4,k1,k2,k3⟩:=rO ((List.range m).map fun j=>(pj j,(zs[j]?).getD .aZ,(ws[j]?).getD .aZ)) I3 (by rw [X4];exact SA) (fun q hq=>by
  obtain ⟨j,hj,rfl⟩:=VJ.mp hq
  obtain ⟨x,y,u,v,a1,a2,a3,a4,a5,a6,a7⟩:=PF j (XC.mp hj)
  have hle:s1.heap.objs.size≤pj j:=Wx (V5 _ _) a7
  refine ⟨fz hle (I1.hok.fresh hle),u,v,?_,?_,a6⟩
  ·show RelV ((zs[j]?).getD .aZ) u;rw [a1];exact a3
  ·show RelV ((ws[j]?).getD .aZ) v;rw [a2];exact a4)
 have PJ:H' (s1.heap.objs.size+5)=none:=by
  rw [k2 _ (fun hz=>?_)]
  ·exact I1.hok.fresh (V5 _ _)
  ·rw [X4] at hz
   obtain ⟨j,hj,e⟩:=VJ.mp hz
   obtain ⟨x,y,u,v,a1,a2,a3,a4,a5,a6,a7⟩:=PF j (XC.mp hj)
   have e:pj j=s1.heap.objs.size+5:=e
   rw [e] at a7
   exact absurd a7 (by omega)
 have hlen:((List.range m).map pj).length≤sizeLine:=by
  rw [Vk,Yu]
  omega
 have I5:Inv X pins σ (upd H' (s1.heap.objs.size+5) (.lst (((List.range m).map pj).map V.ref))) { s1 with heap:=h'',toks:=s1.toks }:=
  I4.named (fz (V5 _ _) PJ) ⟨by rw [Vk];exact hlen,((List.range m).map pj).map Value.ref,c,uS _,by rw [← HX];exact hS⟩
 have ev:(Value.ref ({ s1 with heap:=h' }:Shared).heap.objs.size)= .ref (s1.heap.objs.size+5):=by show Value.ref h'.objs.size=_;rw [hsz]
 have PK:Ext H1 H':=Ext.keep k1
 refine ⟨.ref (s1.heap.objs.size+5),_,I5,ev,.ref _,ay M1 _ (.lst (List.zipWith pairD xs ys)),?_,aF.mpr rfl,(oM.keep k1).newL PJ ?_,q _ ?_⟩
 ·refine f1.trans (Fr.trans (fun b o n e=>⟨k1 b o e,n⟩) (Fr.new PJ fun _ hb=>aE hb))
 ·refine p8 (by rw [Xy,Vk,Vk,Yu,← hm,dz.length,dw.length]) fun i d hd=>?_
  rw [WJ] at hd
  cases hx:xs[i]? with
  | none=>rw [hx] at hd;cases hd
  | some dx=>
    cases hy:ys[i]? with
    | none=>rw [hx,hy] at hd;cases hd
    | some dy=>
      rw [hx,hy] at hd
      have hd:pairD dx dy=d:=Option.some.inj hd
      obtain ⟨x,gx,qx⟩:=dz.get hx
      obtain ⟨y,gy,qy⟩:=dw.get hy
      have hi:i < m:=by
       have i1:=(VO.mp gx).1
       have i2:=(VO.mp gy).1
       omega
      have q3:=k3 (pj i,(zs[i]?).getD .aZ,(ws[i]?).getD .aZ) (VJ.mpr ⟨i,XC.mpr hi,rfl⟩)
      rw [gx,gy] at q3
      refine ⟨.ref (pj i),by simp [hi],?_⟩
      rw [← hd]
      exact aR.mpr ⟨pj i,[x,y],rfl,q3,aC.mono PK _ _ (aA.mpr ⟨x,[y],rfl,qx,aC.one qy⟩)⟩
 ·exact oM.free (I1.hok.fresh (V5 _ _))
end
end L3
namespace L3
open PySem
def jc:List Pl→Pl→List Pl
 | b :: a :: r,p=>if tw a b p < 0 then jc (a :: r) p else b :: a :: r
 | [a],_=>[a]
 | [],_=>[]
def aM (st:List Pl) (p:Pl):List Pl:=p :: jc st p
structure Way where
 al:Int
 be:Int
def Way.f (w:Way) (p:Pl):Int:=w.al*p.x+w.be*p.y
theorem gI (al be ux uy vx vy px py:Int):(al*vx+be*vy)*(ux*py - uy*px)=(al*ux+be*uy)*(vx*py - vy*px)+(al*px+be*py)*(ux*vy - uy*vx):=by grind
theorem kB {a b:Int} (ha:0 < a) (h:0≤a*b):0≤b:=by
 apply Vi
 intro z
 have:a*b < 0:=V6 ha (by omega)
 omega
theorem qG {a b:Int} (ha:0 < a) (h:0 < a*b):0 < b:=by
 apply Vi
 intro z
 have:a*b≤0:=VE (by omega) (by omega)
 omega
section
variable {w:Way}
theorem GG {z a b p:Pl} (h1:w.f z < w.f a) (h2:w.f a < w.f b) (h3:w.f b < w.f p) (t1:0≤tw z a b) (t2:0≤tw a b p):0≤tw z a p:=by
 have key:=gI w.al w.be (a.x - z.x) (a.y - z.y) (b.x - a.x) (b.y - a.y) (p.x - a.x) (p.y - a.y)
 unfold Way.f at h1 h2 h3
 have e1:tw z a b=(a.x - z.x)*(b.y - a.y) - (a.y - z.y)*(b.x - a.x):=by unfold tw;grind
 have e2:tw a b p=(b.x - a.x)*(p.y - a.y) - (b.y - a.y)*(p.x - a.x):=by unfold tw;grind
 have e3:tw z a p=(a.x - z.x)*(p.y - a.y) - (a.y - z.y)*(p.x - a.x):=by unfold tw;grind
 rw [← e1,← e2,← e3] at key
 have fU:0 < w.al*(a.x - z.x)+w.be*(a.y - z.y):=by rw [VS,VS];omega
 have fV:0 < w.al*(b.x - a.x)+w.be*(b.y - a.y):=by rw [VS,VS];omega
 have fP:0 < w.al*(p.x - a.x)+w.be*(p.y - a.y):=by rw [VS,VS];omega
 refine kB fV ?_
 rw [key]
 have m1:=Vs (VF fU) t2
 have m2:=Vs (VF fP) t1
 omega
theorem D6 {a c p q:Pl} (h1:w.f a < w.f c) (h2:w.f c < w.f p) (h3:w.f q≤w.f c) (t1:0≤tw a c q) (t2:0≤tw a c p):0≤tw c p q:=by
 have key:=gI w.al w.be (p.x - c.x) (p.y - c.y) (c.x - a.x) (c.y - a.y) (q.x - c.x) (q.y - c.y)
 unfold Way.f at h1 h2 h3
 have e1:tw a c q=(c.x - a.x)*(q.y - c.y) - (c.y - a.y)*(q.x - c.x):=by unfold tw;grind
 have e2:tw a c p= -((p.x - c.x)*(c.y - a.y) - (p.y - c.y)*(c.x - a.x)):=by unfold tw;grind
 have e3:tw c p q=(p.x - c.x)*(q.y - c.y) - (p.y - c.y)*(q.x - c.x):=by unfold tw;grind
 have PL:(p.x - c.x)*(c.y - a.y) - (p.y - c.y)*(c.x - a.x)= -tw a c p:=by omega
 rw [← e1,PL,← e3] at key
 have fU:0 < w.al*(c.x - a.x)+w.be*(c.y - a.y):=by rw [VS,VS];omega
 have fP:0 < w.al*(p.x - c.x)+w.be*(p.y - c.y):=by rw [VS,VS];omega
 have fQ:w.al*(q.x - c.x)+w.be*(q.y - c.y)≤0:=by rw [VS,VS];omega
 refine kB fU ?_
 rw [key]
 have m1:=Vs (VF fP) t1
 have m2:0≤(w.al*(q.x - c.x)+w.be*(q.y - c.y))* -tw a c p:=VD fQ (by omega)
 omega
theorem D7 {c d p q:Pl} (h1:w.f c < w.f d) (h2:w.f c < w.f p) (h3:w.f c < w.f q) (t1:0≤tw c d q) (t2:tw c d p < 0):0 < tw c p q:=by
 have key:=gI w.al w.be (p.x - c.x) (p.y - c.y) (d.x - c.x) (d.y - c.y) (q.x - c.x) (q.y - c.y)
 unfold Way.f at h1 h2 h3
 have e1:tw c d q=(d.x - c.x)*(q.y - c.y) - (d.y - c.y)*(q.x - c.x):=by unfold tw;grind
 have PL:(p.x - c.x)*(d.y - c.y) - (p.y - c.y)*(d.x - c.x)= -tw c d p:=by unfold tw;grind
 have e3:tw c p q=(p.x - c.x)*(q.y - c.y) - (p.y - c.y)*(q.x - c.x):=by unfold tw;grind
 rw [← e1,PL,← e3] at key
 have fU:0 < w.al*(d.x - c.x)+w.be*(d.y - c.y):=by rw [VS,VS];omega
 have fP:0 < w.al*(p.x - c.x)+w.be*(p.y - c.y):=by rw [VS,VS];omega
 have fQ:0 < w.al*(q.x - c.x)+w.be*(q.y - c.y):=by rw [VS,VS];omega
 refine qG fU ?_
 rw [key]
 have m1:=Vs (VF fP) t1
 have m2:0 < (w.al*(q.x - c.x)+w.be*(q.y - c.y))* -tw c d p:=VH fQ (by omega)
 omega
def vZ (w:Way) (S:List Pl) (a b:Pl):Prop:= ∀ q∈S,0≤tw a b q∧(tw a b q=0→¬ (w.f a < w.f q∧w.f q < w.f b))
def lU (w:Way) (S:List Pl):List Pl→Prop
 | b :: a :: r=>w.f a < w.f b∧vZ w S a b∧lU w S (a :: r)
 | _=>True
def Ba (p:Pl):List Pl→Prop
 | b :: a :: r=>0≤tw a b p∧Ba p (a :: r)
 | _=>True
structure Ch (w:Way) (S st:List Pl):Prop where
 rP:∀ q∈st,q∈S
 GH:lU w S st
 top:∀ q∈S,∃ t,st.head?=some t∧w.f q≤w.f t
 bot:∀ q∈S,∃ t,st.getLast?=some t∧w.f t≤w.f q
 inj:∀ q∈S,∀ r∈S,w.f q=w.f r→q=r
theorem ye {S:List Pl} {p:Pl}:∀ (r:List Pl) (b a:Pl),lU w S (b :: a :: r)→(∀ q∈b :: a :: r,q∈S)→w.f b < w.f p→0≤tw a b p→Ba p (b :: a :: r)
 | [],b,a,_,_,_,t=>⟨t,trivial⟩
 | z :: r,b,a,e,m,h,t=>by
   obtain ⟨e1,e2,e3⟩:=e
   obtain ⟨e4,e5,e6⟩:=id e3
   have t2:0≤tw z a p:=GG e4 e1 h (e5 b (m b (by simp))).1 t
   exact ⟨t,ye r a z e3 (fun q hq=>m q (Vj _ hq)) (by omega) t2⟩
structure JR (w:Way) (S st:List Pl) (p c:Pl) (r:List Pl):Prop where
 eq:jc st p=c :: r
 GH:lU w S (c :: r)
 rP:∀ q∈c :: r,q∈S
 cK:Ba p (c :: r)
 lst:(c :: r).getLast?=st.getLast?
 Q5:(∀ q∈S,w.f q≤w.f c)∨∃ d,w.f c < w.f d∧(∀ q∈S,0≤tw c d q)∧tw c d p < 0
theorem D8 {S:List Pl} {p:Pl} (hp:∀ q∈S,w.f q < w.f p):∀ (st:List Pl) (c:Pl) (r:List Pl),st=c :: r→lU w S st→(∀ q∈st,q∈S)→((∀ q∈S,w.f q≤w.f c)∨∃ d,w.f c < w.f d∧(∀ q∈S,0≤tw c d q)∧tw c d p < 0)→
 ∃ c' r',JR w S st p c' r'
 | _,c,[],rfl,e,m,f=>⟨c,[],rfl,trivial,m,trivial,rfl,f⟩
 | _,b,a :: r,rfl,e,m,f=>by
   obtain ⟨e1,e2,e3⟩:=id e
   by_cases k:tw a b p < 0
   ·obtain ⟨c',r',P⟩:=D8 hp (a :: r) a r rfl e3 (fun q hq=>m q (Vj _ hq)) (.inr ⟨b,e1,fun q hq=>(e2 q hq).1,k⟩)
    refine ⟨c',r',?_,P.GH,P.rP,P.cK,?_,P.Q5⟩
    ·show (if tw a b p < 0 then jc (a :: r) p else b :: a :: r)=_
     rw [if_pos k];exact P.eq
    ·rw [P.lst];rfl
   ·refine ⟨b,a :: r,?_,e,m,ye r b a e m (hp b (m b (by simp))) (by omega),rfl,f⟩
    show (if tw a b p < 0 then jc (a :: r) p else b :: a :: r)=_
    rw [if_neg k]
theorem rQ {S:List Pl} {p:Pl}:∀ (st:List Pl),lU w S st→Ba p st→(∀ q∈st,w.f q < w.f p)→lU w (S ++ [p]) st
 | [],_,_,_=>trivial
 | [_],_,_,_=>trivial
 | b :: a :: r,e,l,h=>by
   obtain ⟨e1,e2,e3⟩:=e
   refine ⟨e1,fun q hq=>?_,rQ (a :: r) e3 l.2 fun q hq=>h q (Vj _ hq)⟩
   rcases Vv.mp hq with hq | hq
   ·exact e2 q hq
   ·rw [Vm.mp hq]
    exact ⟨l.1,fun _ z=>by have:=h b (by simp);omega⟩
theorem Ch.push {S st:List Pl} {p:Pl} (C:Ch w S st) (hne:S≠[]) (hp:∀ q∈S,w.f q < w.f p):Ch w (S ++ [p]) (aM st p):=by
 obtain ⟨s0,hs0⟩:=XM S hne
 obtain ⟨b,hb,_⟩:=C.top s0 hs0
 obtain ⟨r,rfl⟩:∃ r,st=b :: r:=by
  cases st with
  | nil=>cases hb
  | cons x r=>exact ⟨r,by rw [Option.some.inj hb]⟩
 obtain ⟨c,r',P⟩:=D8 hp (b :: r) b r rfl C.GH C.rP (.inl fun q hq=>by
  obtain ⟨t,e,h⟩:=C.top q hq
  rw [← Option.some.inj e] at h
  exact h)
 have cS:c∈S:=P.rP c (by simp)
 have hcp:w.f c < w.f p:=hp c cS
 have GI:vZ w (S ++ [p]) c p:=fun q hq=>by
  rcases Vv.mp hq with hq | hq
  ·by_cases k:w.f q≤w.f c
   ·refine ⟨?_,fun _ z=>by omega⟩
    cases r' with
    | nil=>
      obtain ⟨t,e,h⟩:=C.bot q hq
      rw [← P.lst] at e
      have e:c=t:=by simpa using e
      subst e
      have:=C.inj q hq c cS (by omega)
      subst this
      rw [gG]
      exact Wa _
    | cons a r''=>
      obtain ⟨e1,e2,e3⟩:=P.GH
      exact D6 e1 hcp k (e2 q hq).1 P.cK.1
   ·rcases P.Q5 with f | ⟨d,d1,d2,d3⟩
    ·exact absurd (f q hq) k
    ·have:=D7 d1 hcp (by omega) (d2 q hq) d3
     exact ⟨by omega,fun z=>by omega⟩
  ·rw [Vm.mp hq,rj]
   exact ⟨Wa _,fun _ z=>by omega⟩
 refine ⟨fun q hq=>?_,?_,fun q hq=>⟨p,rfl,?_⟩,fun q hq=>?_,fun q hq r hr e=>?_⟩
 ·unfold aM at hq
  rw [P.eq] at hq
  rcases Vl.mp hq with rfl | hq
  ·simp
  ·exact Vq _ (P.rP q hq)
 ·unfold aM
  rw [P.eq]
  exact ⟨hcp,GI,rQ _ P.GH P.cK fun q hq=>hp q (P.rP q hq)⟩
 ·rcases Vv.mp hq with hq | hq
  ·have:=hp q hq;omega
  ·rw [Vm.mp hq];exact Wa _
 ·unfold aM
  rw [P.eq,List.getLast?_cons_cons,P.lst]
  rcases Vv.mp hq with hq | hq
  ·exact C.bot q hq
  ·rw [Vm.mp hq]
   obtain ⟨t,e,h⟩:=C.bot s0 hs0
   have:=hp s0 hs0
   exact ⟨t,e,by omega⟩
 ·rcases Vv.mp hq with hq | hq <;> rcases Vv.mp hr with hr | hr
  ·exact C.inj q hq r hr e
  ·rw [Vm.mp hr] at e;have:=hp q hq;omega
  ·rw [Vm.mp hq] at e;have:=hp r hr;omega
  ·rw [Vm.mp hq,Vm.mp hr]
theorem Ch.one (p:Pl):Ch w [p] (aM [] p):=by
 refine ⟨fun q hq=>hq,trivial,fun q hq=>⟨p,rfl,?_⟩,fun q hq=>⟨p,rfl,?_⟩,fun q hq r hr _=>?_⟩
 ·rw [Vm.mp hq];exact Wa _
 ·rw [Vm.mp hq];exact Wa _
 ·rw [Vm.mp hq,Vm.mp hr]
theorem Ch.all:∀ (line S st:List Pl),S≠[]→Ch w S st→(S ++ line).Pairwise (fun p q=>w.f p < w.f q)→Ch w (S ++ line) (line.foldl aM st)
 | [],S,st,_,C,_=>by rw [WE];exact C
 | p :: line,S,st,hne,C,hs=>by
   have e:S ++ p :: line=(S ++ [p]) ++ line:=by simp
   rw [e] at hs ⊢
   have hp:∀ q∈S,w.f q < w.f p:=fun q hq=>by
    have:=(Ws.mp (Ws.mp hs).1).2.2 q hq p (by simp)
    exact this
   rw [YB]
   exact Ch.all line (S ++ [p]) (aM st p) (by simp) (C.push hne hp) hs
theorem kC {line:List Pl} (hne:line≠[]) (hs:line.Pairwise (fun p q=>w.f p < w.f q)):Ch w line (line.foldl aM []):=by
 cases line with
 | nil=>exact absurd rfl hne
 | cons p line=>exact Ch.all line [p] (aM [] p) (by simp) (Ch.one p) hs
def v5 (st:List Pl) (a b:Pl):Prop:= ∃ i:Nat,st[i+1]?=some a∧st[i]?=some b
theorem v7 {S:List Pl}:∀ {st:List Pl} {a b:Pl},lU w S st→v5 st a b→w.f a < w.f b∧vZ w S a b
 | [],a,b,_,⟨i,h,_⟩=>by simp at h
 | [_],a,b,_,⟨i,h,_⟩=>by simp at h
 | y :: x :: r,a,b,e,⟨i,h1,h2⟩=>by
   obtain ⟨e1,e2,e3⟩:=e
   cases i with
   | zero=>
     have z1:x=a:=by simpa using h1
     have z2:y=b:=by simpa using h2
     subst z1 z2
     exact ⟨e1,e2⟩
   | succ i=>exact v7 e3 ⟨i,by simpa using h1,by simpa using h2⟩
theorem uT {S:List Pl}:∀ {st:List Pl} {t a:Pl},lU w S st→st.head?=some t→w.f a < w.f t→(∃ z,st.getLast?=some z∧w.f z≤w.f a)→∃ c d,v5 st c d∧w.f c≤w.f a∧w.f a < w.f d
 | [],t,a,_,h,_,_=>by cases h
 | [y],t,a,_,h,h1,⟨z,hz,h2⟩=>by
   have z1:y=t:=by simpa using h
   have z2:y=z:=by simpa using hz
   subst z1 z2
   omega
 | y :: x :: r,t,a,e,h,h1,hz=>by
   have z1:y=t:=by simpa using h
   subst z1
   obtain ⟨e1,e2,e3⟩:=e
   by_cases k:w.f x≤w.f a
   ·exact ⟨x,y,⟨0,rfl,rfl⟩,k,h1⟩
   ·obtain ⟨c,d,⟨i,g1,g2⟩,g3,g4⟩:=uT (t:=x) (a:=a) e3 rfl (by omega) (by
     obtain ⟨z,hz,h2⟩:=hz
     exact ⟨z,by simpa using hz,h2⟩)
    exact ⟨c,d,⟨i+1,by simpa using g1,by simpa using g2⟩,g3,g4⟩
theorem Cc {a b c d:Pl} (h1:w.f c < w.f a) (h2:w.f a < w.f d) (h3:w.f a < w.f b) (t1:0≤tw a b c) (t2:0≤tw a b d):tw c d a≤0:=by
 have key:=gI w.al w.be (c.x - a.x) (c.y - a.y) (b.x - a.x) (b.y - a.y) (d.x - a.x) (d.y - a.y)
 unfold Way.f at h1 h2 h3
 have e1:(c.x - a.x)*(b.y - a.y) - (c.y - a.y)*(b.x - a.x)= -tw a b c:=by unfold tw;grind
 have e2:tw a b d=(b.x - a.x)*(d.y - a.y) - (b.y - a.y)*(d.x - a.x):=by unfold tw;grind
 have e3:tw c d a=(c.x - a.x)*(d.y - a.y) - (c.y - a.y)*(d.x - a.x):=by unfold tw;grind
 rw [e1,← e2,← e3] at key
 have fV:0 < w.al*(b.x - a.x)+w.be*(b.y - a.y):=by rw [VS,VS];omega
 have fC:w.al*(c.x - a.x)+w.be*(c.y - a.y) < 0:=by rw [VS,VS];omega
 have fD:0 < w.al*(d.x - a.x)+w.be*(d.y - a.y):=by rw [VS,VS];omega
 have m1:(w.al*(c.x - a.x)+w.be*(c.y - a.y))*tw a b d≤0:=VG (by omega) t2
 have m2:(w.al*(d.x - a.x)+w.be*(d.y - a.y))* -tw a b c≤0:=VE (by omega) (by omega)
 apply Vi
 intro z
 have:0 < (w.al*(b.x - a.x)+w.be*(b.y - a.y))*tw c d a:=VH fV (by omega)
 omega
theorem gJ {S st:List Pl} (C:Ch w S st) {a b:Pl}:v5 st a b↔a∈S∧b∈S∧w.f a < w.f b∧vZ w S a b:=by
 constructor
 ·intro h
  obtain ⟨h1,h2⟩:=v7 C.GH h
  obtain ⟨i,g1,g2⟩:=h
  exact ⟨C.rP a (Vy g1),C.rP b (Vy g2),h1,h2⟩
 ·rintro ⟨ha,hb,hab,he⟩
  obtain ⟨t,ht,Uz⟩:=C.top b hb
  obtain ⟨c,d,hcd,h1,h2⟩:=uT C.GH ht (show w.f a < w.f t by omega) (C.bot a ha)
  obtain ⟨e1,e2⟩:=v7 C.GH hcd
  have hc:c∈S:=by obtain ⟨i,g1,g2⟩:=hcd;exact C.rP c (Vy g1)
  have hd:d∈S:=by obtain ⟨i,g1,g2⟩:=hcd;exact C.rP d (Vy g2)
  have ea:c=a:=by
   apply Vi
   intro z
   have hlt:w.f c < w.f a:=by
    rcases XE h1 with y | y
    ·exact y
    ·exact absurd (C.inj c hc a ha y) z
   have t1:=Cc hlt h2 hab (he c hc).1 (he d hd).1
   have t2:=(e2 a ha).1
   exact (e2 a ha).2 (by omega) ⟨hlt,h2⟩
  subst ea
  have t1:=(he d hd).1
  have t2:=(e2 b hb).1
  have t3:tw c d b= -tw c b d:=by rw [j3]
  have t0:tw c b d=0:=by omega
  have ed:d=b:=by
   rcases WG (w.f d) (w.f b) with y | y | y
   ·exact absurd ⟨h2,y⟩ ((he d hd).2 t0)
   ·exact C.inj d hd b hb y
   ·exact absurd ⟨hab,y⟩ ((e2 b hb).2 (by omega))
  subst ed
  exact hcd
def aj:Way:=⟨2 ^ 142,1⟩
def ql:Way:=⟨-2 ^ 142, -1⟩
theorem kE {p q:Pl} (hp:p.y.natAbs < 2 ^ 140) (hq:q.y.natAbs < 2 ^ 140):aI p q↔aj.f p < aj.f q:=by
 unfold aI Way.f aj
 dsimp only
 have e:(2:Int) ^ 142=5575186299632655785383929568162090376495104:=by decide
 have e2:(2:Nat) ^ 140=1393796574908163946345982392040522594123776:=by decide
 rw [e2] at hp hq
 rw [e]
 omega
theorem gB (p:Pl):ql.f p= -aj.f p:=by
 unfold Way.f ql aj
 dsimp only
 have e:(2:Int) ^ 142=5575186299632655785383929568162090376495104:=by decide
 rw [e]
 omega
end
end L3
namespace L3
open PySem PySem.Spec PyProof.Rows L2
theorem Cd (b:Pl) (r:List Pl):uw ((b :: r).reverse.map Pl.d) (-1)=some b.d:=by
 rw [Wf,VM]
 exact xM _ _
theorem Ce (b a:Pl) (r:List Pl):uw ((b :: a :: r).reverse.map Pl.d) (-2)=some a.d:=by
 have hl:((b :: a :: r).reverse.map Pl.d).length=r.length+2:=by simp
 have e:CN (r.length+2) (-2)=some r.length:=by
  unfold CN
  rw [if_neg (by decide),if_pos (by omega)]
  congr 1
  omega
 unfold uw
 rw [hl,e]
 show ((b :: a :: r).reverse.map Pl.d)[r.length]?=some a.d
 rw [Wf,Wf,List.append_assoc,VM,WI (by simp)]
 simp
theorem yf:∀ (st:List Pl) (p:Pl),(jc st p).length≤st.length
 | [],_=>Vr _
 | [_],_=>Vr _
 | b :: a :: r,p=>by
   show (if tw a b p < 0 then jc (a :: r) p else b :: a :: r).length≤_
   have:=yf (a :: r) p
   split
   ·simp only [VN] at this ⊢;omega
   ·exact Vr _
theorem yg:∀ (st:List Pl) (p:Pl),∀ q∈jc st p,q∈st
 | [],_,_,h=>h
 | [_],_,_,h=>h
 | b :: a :: r,p,q,h=>by
   have h:q∈(if tw a b p < 0 then jc (a :: r) p else b :: a :: r):=h
   by_cases k:tw a b p < 0
   ·rw [if_pos k] at h
    exact Vj _ (yg (a :: r) p q h)
   ·rw [if_neg k] at h
    exact h
theorem D9 {a b p:Pl} {r:List Pl} (h:tw a b p < 0):jc (b :: a :: r) p=jc (a :: r) p:=by
 show (if tw a b p < 0 then jc (a :: r) p else b :: a :: r)=_
 rw [if_pos h]
theorem Ea {a b p:Pl} {r:List Pl} (h:¬ tw a b p < 0):jc (b :: a :: r) p=b :: a :: r:=by
 show (if tw a b p < 0 then jc (a :: r) p else b :: a :: r)=_
 rw [if_neg h]
theorem jd (ps:List Pl):(ps.foldl aM []).length≤ps.length:=by
 have key:∀ (ps st:List Pl),(ps.foldl aM st).length≤st.length+ps.length:=by
  intro ps
  induction ps with
  | nil=>intro st;simp
  | cons p ps ih=>
    intro st
    have h1:=ih (aM st p)
    have h2:(aM st p).length≤st.length+1:=by
     show (jc st p).length+1≤_
     have:=yf st p
     omega
    simp only [YB,VN]
    omega
 simpa using key ps []
theorem Cf (ps:List Pl):∀ q∈ps.foldl aM [],q∈ps:=by
 have key:∀ (ps st:List Pl),∀ q∈ps.foldl aM st,q∈st∨q∈ps:=by
  intro ps
  induction ps with
  | nil=>intro st q h;exact .inl h
  | cons p ps ih=>
    intro st q h
    rcases ih (aM st p) q h with h | h
    ·rcases Vl.mp h with h | h
     ·exact .inr (by rw [h];exact Vz ..)
     ·exact .inl (yg st p q h)
    ·exact .inr (Vj _ h)
 intro q h
 rcases key ps [] q h with h | h
 ·cases h
 ·exact h
theorem zR {ps:List Pl} {i:Nat} {p:Pl} (h:ps[i]?=some p):(ps.take (i+1)).foldl aM []=aM ((ps.take i).foldl aM []) p:=by
 rw [W6,h,Yv]
 rfl
theorem Le.put {M M':Mp} {p:Addr} {o:MO} (h:Le M M'):Le (ay M p o) (ay M' p o):=fun c u e=>by
 by_cases hc:c=p
 ·subst hc
  rw [ah] at e ⊢;exact e
 ·rw [aE hc] at e ⊢
  exact h c u e
theorem Le.free {M M':Mp} {p:Addr} (h:Le M M') (e:M' p=none):M p=none:=by
 cases k:M p with
 | none=>rfl
 | some o=>rw [h p o k] at e;cases e
theorem yh (ps:List Pl):cutD (ps.map Pl.d) none (some (-1))=ps.dropLast.map Pl.d:=by
 unfold cutD
 have e:HT.pU (ps.map Pl.d).length (ps.map Pl.d).length (some (-1))=ps.length - 1:=by
  unfold HT.pU
  dsimp only
  rw [if_pos (by decide),Vk]
  omega
 have e0:HT.pU (ps.map Pl.d).length 0 none=0:=rfl
 rw [e,e0,Yi,Yq,List.dropLast_eq_take,List.map_take]
def Flat (ps:List Pl):Prop:= ∀ p∈ps,∀ q∈ps,∀ r∈ps,tw p q r=0
def hz (qs:List Pl):Pl:=qs.headD ⟨0,0⟩
def lz (qs:List Pl):Pl:=qs.getLastD ⟨0,0⟩
theorem JS {dx dy ux uy vx vy:Int} (h:dx≠0∨dy≠0) (h1:dx*uy - dy*ux=0) (h2:dx*vy - dy*vx=0):ux*vy - uy*vx=0:=by
 rcases h with h | h
 ·have:dx*(ux*vy - uy*vx)=0:=by grind
  exact (VB.mp this).resolve_left h
 ·have:dy*(ux*vy - uy*vx)=0:=by grind
  exact (VB.mp this).resolve_left h
theorem Eb {a z p q r:Pl} (h:a≠z) (h1:tw a z p=0) (h2:tw a z q=0) (h3:tw a z r=0):tw p q r=0:=by
 have hd:z.x - a.x≠0∨z.y - a.y≠0:=by
  by_cases k:z.x - a.x=0
  ·right
   intro k2
   apply h
   cases a;cases z
   simp only at k k2
   rw [Pl.mk.injEq]
   omega
  ·exact .inl k
 unfold tw at h1 h2 h3 ⊢
 exact JS hd (ux:=q.x - p.x) (uy:=q.y - p.y) (vx:=r.x - p.x) (vy:=r.y - p.y) (by grind) (by grind)
def bQ (qs:List Pl):List Pl:=if qs.length < 2 then qs else (qs.foldl aM []).reverse.dropLast ++ (qs.reverse.foldl aM []).reverse.dropLast
def bY (b:List Pl):List (List Pl):=if b.length < 2 then [] else List.zipWith (fun p q=>[p,q]) b (b.drop 1 ++ b.take 1)
theorem rR {α:Type} (g:α→D) (xs:List α) (n:Nat) (h:n≤xs.length):cutD (xs.map g) none (some (n:Int))=(xs.take n).map g:=by
 unfold cutD
 rw [HT.AN,HT.xJ]
 rw [Vk,YA h,List.map_take,Yi,Yq]
theorem uU:∀ (as bs:List Pl),(List.zipWith (fun p q=>[p,q]) as bs).map (fun ps:List Pl=>D.tup (ps.map Pl.d))=List.zipWith pairD (as.map Pl.d) (bs.map Pl.d)
 | [],_=>by simp
 | _ :: _,[]=>by simp
 | a :: as,b :: bs=>by
   show D.tup [a.d,b.d] :: (List.zipWith (fun p q=>[p,q]) as bs).map (fun ps:List Pl=>D.tup (ps.map Pl.d))=pairD a.d b.d :: List.zipWith pairD (as.map Pl.d) (bs.map Pl.d)
   rw [uU as bs]
   rfl
end L3
namespace L3
open PySem PySem.Spec PyProof.Rows L2
section
variable {P:Program} {w:World} {A:Around} {E:Value→Shared→Prop} {s:Shared}
end
section
variable {X:Cx} {pos:Pos}
end
end L3
namespace L3
open PySem PySem.Spec PyProof.Rows L2
section
open PySem.SeqAt
open PySem.AutoSeq1 (wpAny_loadPart')
open PySem.MeetsSeq PySem.MeetsSeq2 PySem.MeetsSeq3
end
section
variable {X:Cx} {pos:Pos}
end
end L3
namespace L3
open PySem PySem.Spec PyProof.Rows L2
section
variable {P:Program} {w:World} {A:Around} {E:Value→Shared→Prop} {s:Shared}
end
section
variable {X:Cx} {pos:Pos}
end
section
open PySem.SeqAt
open PySem.AutoSeq1 (wpAny_loadPart')
open PySem.MeetsSeq PySem.MeetsSeq2 PySem.MeetsSeq3
end
end L3
namespace L3
open PySem PySem.Spec PyProof.Rows L2
section
variable {P:Program} {w:World} {A:Around} {E:Value→Shared→Prop} {s:Shared}
end
end L3
namespace L3
open PySem PySem.Spec PyProof.Rows L2
section
variable {X:Cx} {pos:Pos}
structure Q6 (X:Cx) (r:D→Mp→DK→Prop):Prop where
 run:∀ (pins:List (Addr ×Obj)) (s:Shared) (σ:St) (H:Hp) (M:Mp) (x:V) (d:D) (u:Value) (Q:DK),Inv X pins σ H s→bE X.K H M→RelV x u→Dat X.K H d x→r d M Q→wpAny (model X.prog X.w) X.A (call (.builtin "min") [u] [(Str.ofString "default",.none)]) (EP X pins σ (Post X.K M H Q)) X.xe s
end
end L3
namespace L3
open PySem PySem.Spec PyProof.Rows L2
section
variable {P:Program} {w:World} {A:Around} {E:Value→Shared→Prop} {s:Shared}
variable {κ:KeyKind} {kd:SortKind}
end
section
variable {X:Cx}
end
end L3
namespace L3
def Nx:List Pl→Pl→Pl→Prop
 | x :: y :: r,a,b=>(x=a∧y=b)∨Nx (y :: r) a b
 | _,_,_=>False
theorem zS (h:Pl) (r:List Pl) (a b:Pl):∀ X:List Pl,Nx (X ++ h :: r) a b↔Nx (X ++ [h]) a b∨Nx (h :: r) a b
 | []=>by
   show Nx (h :: r) a b↔Nx [h] a b∨Nx (h :: r) a b
   have:¬ Nx [h] a b:=fun z=>z
   exact ⟨.inr,fun z=>z.elim (fun y=>absurd y this) id⟩
 | [x]=>by
   show (x=a∧h=b)∨Nx (h :: r) a b↔((x=a∧h=b)∨Nx [h] a b)∨Nx (h :: r) a b
   have:¬ Nx [h] a b:=fun z=>z
   constructor
   ·rintro (z | z)
    ·exact .inl (.inl z)
    ·exact .inr z
   ·rintro ((z | z) | z)
    ·exact .inl z
    ·exact absurd z this
    ·exact .inr z
 | x :: y :: X=>by
   have ih:=zS h r a b (y :: X)
   show (x=a∧y=b)∨Nx (y :: X ++ h :: r) a b↔((x=a∧y=b)∨Nx (y :: X ++ [h]) a b)∨Nx (h :: r) a b
   rw [ih,or_assoc]
theorem k8:∀ (st:List Pl) (a b:Pl),v5 st a b↔Nx st.reverse a b
 | [],a,b=>⟨fun ⟨i,h,_⟩=>by simp at h,fun z=>z.elim⟩
 | [y],a,b=>⟨fun ⟨i,h,_⟩=>by simp at h,fun z=>z.elim⟩
 | y :: x :: r,a,b=>by
   have ih:=k8 (x :: r) a b
   have e:(y :: x :: r).reverse=r.reverse ++ x :: [y]:=by simp
   have e2:(x :: r).reverse=r.reverse ++ [x]:=by simp
   rw [e,zS,← e2,← ih]
   have:Nx [x,y] a b↔(x=a∧y=b):=⟨fun z=>z.elim id (fun y=>y.elim),.inl⟩
   rw [this]
   constructor
   ·rintro ⟨i,h1,h2⟩
    cases i with
    | zero=>exact .inr ⟨by simpa using h1,by simpa using h2⟩
    | succ i=>exact .inl ⟨i,by simpa using h1,by simpa using h2⟩
   ·rintro (⟨i,h1,h2⟩ | ⟨h1,h2⟩)
    ·exact ⟨i+1,by simpa using h1,by simpa using h2⟩
    ·exact ⟨0,by simp [h1],by simp [h2]⟩
theorem yi (a b:Pl):∀ (x:Pl) (r:List Pl) (z:Pl),[a,b]∈List.zipWith (fun p q=>[p,q]) (x :: r) (r ++ [z])↔Nx (x :: r ++ [z]) a b
 | x,[],z=>by
   show [a,b]∈[[x,z]]↔(x=a∧z=b)∨Nx [z] a b
   have:¬ Nx [z] a b:=fun z=>z
   simp [this]
   exact ⟨fun ⟨h1,h2⟩=>⟨h1.symm,h2.symm⟩,fun ⟨h1,h2⟩=>⟨h1.symm,h2.symm⟩⟩
 | x,y :: r,z=>by
   have ih:=yi a b y r z
   show [a,b]∈[x,y] :: List.zipWith (fun p q=>[p,q]) (y :: r) (r ++ [z])↔(x=a∧y=b)∨Nx (y :: r ++ [z]) a b
   rw [Vl,ih]
   simp
   constructor
   ·rintro (⟨h1,h2⟩ | h)
    ·exact .inl ⟨h1.symm,h2.symm⟩
    ·exact .inr h
   ·rintro (⟨h1,h2⟩ | h)
    ·exact .inl ⟨h1.symm,h2.symm⟩
    ·exact .inr h
theorem uV:∀ (as bs:List Pl),∀ t∈List.zipWith (fun p q=>[p,q]) as bs,∃ a b,t= [a,b]
 | [],_,t,h=>by simp at h
 | _ :: _,[],t,h=>by simp at h
 | a :: as,b :: bs,t,h=>by
   rcases Vl.mp h with h | h
   ·exact ⟨a,b,h⟩
   ·exact uV as bs t h
theorem Ch.ends {w:Way} {S st:List Pl} (C:Ch w S st) {lo hi:Pl} (hl:lo∈S) (hh:hi∈S) (h1:∀ q∈S,w.f lo≤w.f q) (h2:∀ q∈S,w.f q≤w.f hi):st.head?=some hi∧st.getLast?=some lo:=by
 obtain ⟨t,e1,e2⟩:=C.top hi hh
 obtain ⟨u,e3,e4⟩:=C.bot lo hl
 have mt:t∈S:=C.rP t (W2 e1)
 have mu:u∈S:=C.rP u (Wt e3)
 have a1:=h2 t mt
 have a2:=h1 u mu
 rw [e1,e3,C.inj t mt hi hh (by omega),C.inj u mu lo hl (by omega)]
 exact ⟨rfl,rfl⟩
theorem gv {l:List Pl} {x:Pl} (h:l.getLast?=some x):l=l.dropLast ++ [x]:=by
 have hne:l≠[]:=fun z=>by rw [z] at h;simp at h
 rw [Wb hne] at h
 have:=Xz hne
 rw [Option.some.inj h] at this
 exact this.symm
theorem Ec {T H:List Pl} {lo hi a b:Pl} (t1:T.head?=some lo) (t2:T.getLast?=some hi) (h1:H.head?=some hi) (h2:H.getLast?=some lo) (hne:lo≠hi) :
 [a,b]∈List.zipWith (fun p q=>[p,q]) (T.dropLast ++ H.dropLast) ((T.dropLast ++ H.dropLast).drop 1 ++ (T.dropLast ++ H.dropLast).take 1)↔Nx T a b∨Nx H a b:=by
 have eT:=gv t2
 have eH:=gv h2
 obtain ⟨X,hX⟩:∃ X,T.dropLast=lo :: X:=by
  cases e:T.dropLast with
  | nil=>
    rw [e] at eT
    rw [eT] at t1
    exact absurd (Option.some.inj t1).symm hne
  | cons x X=>
    rw [e] at eT
    rw [eT] at t1
    exact ⟨X,by rw [Option.some.inj t1]⟩
 obtain ⟨Y,hY⟩:∃ Y,H=hi :: Y:=by
  cases e:H with
  | nil=>rw [e] at h1;cases h1
  | cons x X=>rw [e] at h1;exact ⟨X,by rw [Option.some.inj h1]⟩
 rw [hX]
 show [a,b]∈List.zipWith (fun p q=>[p,q]) (lo :: (X ++ H.dropLast)) ((X ++ H.dropLast) ++ [lo])↔_
 rw [yi]
 have e1:lo :: (X ++ H.dropLast) ++ [lo]=(lo :: X) ++ (H.dropLast ++ [lo]):=by simp
 rw [e1,← eH]
 conv=>lhs;rw [hY,zS,← hY]
 rw [← hX,← eT]
def PM (a b:Pl) (ps:List Pl):Prop:= ∀ p∈ps,0≤tw a b p∧(tw a b p=0→¬ (aI (lo a b) p∧aI p (hi a b)))
theorem fW:∀ {qs:List Pl},qs.Pairwise (fun p q=>aI p q)→∀ {x y:Pl},qs.head?=some x→qs.getLast?=some y→∀ q∈qs,(q=x∨aI x q)∧(q=y∨aI q y)
 | [],_,_,_,h,_,_,_=>by cases h
 | [z],_,x,y,h1,h2,q,hq=>by
   have e1:z=x:=by simpa using h1
   have e2:z=y:=by simpa using h2
   rw [Vm.mp hq]
   exact ⟨.inl e1,.inl e2⟩
 | z :: u :: r,hs,x,y,h1,h2,q,hq=>by
   have e1:z=x:=by simpa using h1
   have h2':(u :: r).getLast?=some y:=by simpa using h2
   have ih:=fW (VI.mp hs).2 (x:=u) rfl h2'
   have hz:=(VI.mp hs).1
   rcases Vl.mp hq with e | hq
   ·subst e
    refine ⟨.inl e1,.inr ?_⟩
    have hy:y∈u :: r:=Wt h2'
    exact hz y hy
   ·exact ⟨.inr (e1▸hz q hq),(ih q hq).2⟩
theorem rS {st:List Pl} {x y:Pl} (h1:st.head?=some x) (h2:st.getLast?=some y) (h:x≠y):2≤st.length:=by
 match st,h1,h2 with
 | [],h1,_=>cases h1
 | [z],h1,h2=>
   have e1:z=x:=by simpa using h1
   have e2:z=y:=by simpa using h2
   exact absurd (e1.symm.trans e2) h
 | _ :: _ :: _,_,_=>simp
theorem Cg {qs:List Pl} (hs:qs.Pairwise (fun p q=>aI p q)) (hok:∀ q∈qs,q.y.natAbs < 2 ^ 140) (h2:2≤qs.length) :
 2≤((qs.foldl aM []).reverse.dropLast ++ (qs.reverse.foldl aM []).reverse.dropLast).length∧∀ a b:Pl,[a,b]∈List.zipWith (fun p q=>[p,q]) ((qs.foldl aM []).reverse.dropLast ++ (qs.reverse.foldl aM []).reverse.dropLast) (((qs.foldl aM []).reverse.dropLast ++ (qs.reverse.foldl aM []).reverse.dropLast).drop 1 ++ ((qs.foldl aM []).reverse.dropLast ++ (qs.reverse.foldl aM []).reverse.dropLast).take 1)↔a∈qs∧b∈qs∧a≠b∧PM a b qs:=by
 have hne:qs≠[]:=fun z=>by rw [z] at h2;simp at h2
 obtain ⟨x,hx⟩:∃ x,qs.head?=some x:=by
  cases e:qs with
  | nil=>exact absurd e hne
  | cons x r=>exact ⟨x,rfl⟩
 obtain ⟨y,hy⟩:∃ y,qs.getLast?=some y:=⟨_,Wb hne⟩
 have mx:x∈qs:=W2 hx
 have my:y∈qs:=Wt hy
 have hend:=fW hs hx hy
 have be:∀ p∈qs,∀ q∈qs,(aI p q↔aj.f p < aj.f q):=fun p hp q hq=>kE (hok p hp) (hok q hq)
 have bw:∀ p∈qs,∀ q∈qs,(aI p q↔ql.f q < ql.f p):=fun p hp q hq=>by
  rw [be p hp q hq,gB,gB]
  omega
 have xy:x≠y:=by
  intro e
  cases e1:qs with
  | nil=>exact absurd e1 hne
  | cons u r=>
    cases r with
    | nil=>rw [e1] at h2;simp at h2
    | cons v r=>
      rw [e1] at hx hy hs
      have eu:u=x:=by simpa using hx
      have PN:y∈v :: r:=Wt (by simpa using hy)
      have:=(VI.mp hs).1 y PN
      rw [eu,e] at this
      exact bg _ this
 have C1:Ch aj qs (qs.foldl aM []):=kC hne (hs.imp_of_mem fun hp hq h=>(be _ hp _ hq).mp h)
 have C2:Ch ql qs.reverse (qs.reverse.foldl aM []):=kC (by simpa using hne) (Yg.mpr (hs.imp_of_mem fun hp hq h=>(bw _ hp _ hq).mp h))
 have key:∀ p∈qs,∀ q∈qs,(p=q∨aI p q)→aj.f p≤aj.f q∧ql.f q≤ql.f p:=fun p hp q hq k=>by
  rcases k with rfl | k
  ·exact ⟨Wa _,Wa _⟩
  ·have a1:=(be p hp q hq).mp k
   have a2:=(bw p hp q hq).mp k
   omega
 obtain ⟨p1,p2⟩:=C1.ends mx my (fun q hq=>(key x mx q hq ((hend q hq).1.imp Eq.symm id)).1) (fun q hq=>(key q hq y my (hend q hq).2).1)
 obtain ⟨r1,r2⟩:=C2.ends (lo:=y) (hi:=x) (by simpa using my) (by simpa using mx) (fun q hq=>by have hq:=Wd.mp hq;exact (key q hq y my (hend q hq).2).2) (fun q hq=>by have hq:=Wd.mp hq;exact (key x mx q hq ((hend q hq).1.imp Eq.symm id)).2)
 refine ⟨?_,fun a b=>?_⟩
 ·have l1:=rS p1 p2 (Ne.symm xy)
  have l2:=rS r1 r2 xy
  rw [VA,Wr,Wr,VV,VV]
  omega
 rw [Ec (lo:=x) (hi:=y) (by rw [WV];exact p2) (by rw [WA];exact p1) (by rw [WV];exact r2) (by rw [WA];exact r1) xy,← k8,← k8,gJ C1,gJ C2]
 constructor
 ·rintro (⟨ha,hb,hab,he⟩ | ⟨ha,hb,hab,he⟩)
  ·have zT:=(be a ha b hb).mpr hab
   refine ⟨ha,hb,j4 zT,fun p hp=>⟨(he p hp).1,fun z=>?_⟩⟩
   unfold lo hi
   rw [if_neg (az zT),if_pos zT,be a ha p hp,be p hp b hb]
   exact (he p hp).2 z
  ·have ha:=Wd.mp ha
   have hb:=Wd.mp hb
   have zT:=(bw b hb a ha).mpr hab
   refine ⟨ha,hb,(j4 zT).symm,fun p hp=>?_⟩
   have HY:=he p (Wd.mpr hp)
   refine ⟨HY.1,fun z=>?_⟩
   unfold lo hi
   rw [if_pos zT,if_neg (az zT),bw b hb p hp,bw p hp a ha]
   exact fun k=>HY.2 z ⟨k.2,k.1⟩
 ·rintro ⟨ha,hb,hab,he⟩
  rcases bT a b with k | k | k
  ·refine .inl ⟨ha,hb,(be a ha b hb).mp k,fun p hp=>⟨(he p hp).1,fun z=>?_⟩⟩
   have:=(he p hp).2 z
   unfold lo hi at this
   rw [if_neg (az k),if_pos k,be a ha p hp,be p hp b hb] at this
   exact this
  ·exact absurd k hab
  ·refine .inr ⟨Wd.mpr ha,Wd.mpr hb,(bw b hb a ha).mp k,fun p hp=>?_⟩
   have hp:=Wd.mp hp
   refine ⟨(he p hp).1,fun z=>?_⟩
   have:=(he p hp).2 z
   unfold lo hi at this
   rw [if_pos k,if_neg (az k),bw b hb p hp,bw p hp a ha] at this
   exact fun y=>this ⟨y.2,y.1⟩
end L3
namespace L3
theorem v8:∀ (l:List Pl),l≠[]→∃ m∈l,∀ z∈l,¬ aI z m
 | [],e=>absurd rfl e
 | [p],_=>⟨p,by simp,fun z hz=>by rw [Vm.mp hz];exact bg _⟩
 | p :: q :: l,_=>by
   obtain ⟨m,hm,k⟩:=v8 (q :: l) (by simp)
   by_cases c:aI p m
   ·exact ⟨p,by simp,fun z hz=>by
     rcases Vl.mp hz with rfl | hz
     ·exact bg _
     ·exact fun y=>k z hz (bA y c)⟩
   ·exact ⟨m,Vj _ hm,fun z hz=>by
     rcases Vl.mp hz with rfl | hz
     ·exact c
     ·exact k z hz⟩
theorem Bb:∀ (l:List Pl),l≠[]→∃ m∈l,∀ z∈l,¬ aI m z
 | [],e=>absurd rfl e
 | [p],_=>⟨p,by simp,fun z hz=>by rw [Vm.mp hz];exact bg _⟩
 | p :: q :: l,_=>by
   obtain ⟨m,hm,k⟩:=Bb (q :: l) (by simp)
   by_cases c:aI m p
   ·exact ⟨p,by simp,fun z hz=>by
     rcases Vl.mp hz with rfl | hz
     ·exact bg _
     ·exact fun y=>k z hz (bA c y)⟩
   ·exact ⟨m,Vj _ hm,fun z hz=>by
     rcases Vl.mp hz with rfl | hz
     ·exact c
     ·exact k z hz⟩
theorem gK {ps:List Pl} (h:ps.length < 2):Flat ps:=by
 match ps,h with
 | [],_=>exact fun p hp=>by cases hp
 | [x],_=>
   intro p hp q hq r hr
   rw [Vm.mp hp,Vm.mp hq,Vm.mp hr]
   exact gF x x
theorem uW {qs:List Pl} (hs:qs.Pairwise (fun a b=> ¬ aI b a)) (nd:qs.Nodup):qs.Pairwise (fun p q=>aI p q):=by
 refine (hs.and nd).imp fun {a b} h=>?_
 rcases bT a b with k | k | k
 ·exact k
 ·exact absurd k h.2
 ·exact absurd k h.1
end L3
namespace L3
open PySem L2
def MC:List Pl→Prop
 | [a,b,c]=>(¬ aI b a∧¬ aI c a)∧0 < tw a b c
 | _=>False
def dh:List Pl→List (List Pl)
 | [a,b,c]=>[[a,b],[b,c],[c,a]]
 | _=>[]
def aU (ts:List (List Pl)):List (List Pl):=ts.flatMap dh
def Fs {α:Type} (ts:List α) (P:α→Prop):Option α→Prop
 | none=> ∀ t∈ts,¬ P t
 | some t=> ∃ i:Nat,ts[i]?=some t∧P t∧∀ (j:Nat) (u:α),j < i→ts[j]?=some u→¬ P u
def oT:Option (List Pl)→D
 | none=> .aZ
 | some t=>tD t
def ME (W:List Pl→Prop):Option (List Pl)→Prop
 | none=> ∀ w,¬ W w
 | some m=>W m∧∀ z,W z→cy z m=false
def MF (W:Pl→Prop):Option Pl→Prop
 | none=> ∀ w,¬ W w
 | some m=>W m∧∀ z,W z→¬ aI z m
theorem Ci {ts:List (List Pl)} {i:Nat} {t:List Pl} (h:ts[i]?=some t):aU (ts.take (i+1))=aU (ts.take i) ++ dh t:=by
 unfold aU
 rw [W6,h,XA]
 simp
theorem Ed (t:List Pl):(dh t).length≤3:=by
 unfold dh
 split <;> simp
theorem yj:∀ (ts:List (List Pl)),(aU ts).length≤3*ts.length
 | []=>by simp [aU]
 | t :: ts=>by
   have h1:=yj ts
   have h2:=Ed t
   show (dh t ++ aU ts).length≤_
   rw [VA,VN]
   omega
theorem Ef (t:List Pl):∀ w∈dh t,∃ a b,w= [a,b]∧a∈t∧b∈t:=by
 intro w hw
 unfold dh at hw
 split at hw
 ·rename_i a b c
  simp only [Vl,VY,or_false] at hw
  rcases hw with rfl | rfl | rfl
  ·exact ⟨a,b,rfl,by simp,by simp⟩
  ·exact ⟨b,c,rfl,by simp,by simp⟩
  ·exact ⟨c,a,rfl,by simp,by simp⟩
 ·cases hw
theorem yk {ts:List (List Pl)}:∀ w∈aU ts,∃ a b,w= [a,b]∧∃ t∈ts,a∈t∧b∈t:=by
 intro w hw
 obtain ⟨t,ht,hw⟩:=We.mp hw
 obtain ⟨a,b,e,h1,h2⟩:=Ef t w hw
 exact ⟨a,b,e,t,ht,h1,h2⟩
theorem Eg (s t:List Pl):er (tD s) (tD t)=decide (s=t):=by
 unfold tD
 rw [jm]
 induction s generalizing t with
 | nil=>
   cases t with
   | nil=>rfl
   | cons q t=>simp [cG]
 | cons p s ih=>
   cases t with
   | nil=>simp [cG]
   | cons q t=>
     rw [VP,VP,i9,oX,ih,V0]
     simp
theorem v9 (t:List Pl) (ts:List (List Pl)):inD (tD t) (ts.map tD)=decide (t∈ts):=by
 rw [V0,decide_eq_true_iff]
 unfold inD
 rw [XX]
 constructor
 ·rintro ⟨d,hd,e⟩
  obtain ⟨u,hu,rfl⟩:=VJ.mp hd
  rw [Eg,decide_eq_true_iff] at e
  rw [← e]
  exact hu
 ·intro h
  exact ⟨tD t,VJ.mpr ⟨t,h,rfl⟩,by rw [Eg];simp⟩
def SD (ws:List (List Pl)) (w:List Pl):Prop:=w∈ws∧1 < ws.count w
def PR (ws bs:List (List Pl)) (w:List Pl):Prop:=(w∈ws∧w.reverse∉ws∧w∉bs)∨(w∈bs∧w∉ws)
def SE (ps:List Pl) (ts:List (List Pl)) (p:Pl):Prop:=p∈ps∧∀ t∈ts,p∉t
def t6 (t:List Pl) (d:Pl):Prop:=match t with
 | [a,b,c]=>eB a b c d
 | _=>False
theorem o6 (w:List Pl):plain 9 (tD w)=true:=V8.mp (cI [w]) _ (by simp)
def SG (ts:List (List Pl)) (ps:List Pl):Option (List Pl ×Pl)→Prop
 | none=> ∀ t∈ts,∀ d∈ps,¬ t6 t d
 | some (t,d)=>Fs ts (fun t=> ∃ d∈ps,t6 t d) (some t)∧MF (fun d=>d∈ps∧t6 t d) (some d)
inductive Flt where
 | HZ (t:List Pl) | flat (t:List Pl) | Eh (w:List Pl) | bare (w:List Pl) | Ei (p:Pl) | Ej (t:List Pl) (d:Pl)
def fD:Option Flt→D
 | none=> .aZ
 | some (.HZ t)=> .tup [.str (Str.ofString "alien"),tD t]
 | some (.flat t)=> .tup [.str (Str.ofString "flat"),tD t]
 | some (.Eh w)=> .tup [.str (Str.ofString "double"),tD w]
 | some (.bare w)=> .tup [.str (Str.ofString "bare"),tD w]
 | some (.Ei p)=> .tup [.str (Str.ofString "lonely"),p.d]
 | some (.Ej t d)=> .tup [.str (Str.ofString "spoilt"),tD t,d.d]
def PU (ps:List Pl) (ts bs:List (List Pl)) (r:Option Flt):Prop:=
 ∃ (d b:Option (List Pl)) (l:Option Pl),ME (SD (aU ts)) d∧(d=none→ME (PR (aU ts) bs) b)∧(d=none→b=none→MF (SE ps ts) l)∧
   r=match d,b,l with
    | some w,_,_=>some (.Eh w)
    | none,some w,_=>some (.bare w)
    | none,none,some p=>some (.Ei p)
    | none,none,none=>none
def GJ (ps:List Pl) (ts bs:List (List Pl)) (r:Option Flt):Prop:=
 ∃ (al fl:Option (List Pl)),Fs ts (fun t=> ∃ q∈t,q∉ps) al∧(al=none→Fs ts (fun t=> ¬ MC t) fl)∧
   match al,fl with
   | some t,_=>r=some (.HZ t)
   | none,some t=>r=some (.flat t)
   | none,none=>(Flat ps→r=none)∧(¬ Flat ps→∃ (cf:Option Flt) (sp:Option (List Pl ×Pl)),PU ps ts bs cf∧(cf=none→SG ts ps sp)∧r=match cf,sp with
     | some f,_=>some f
     | none,some (t,d)=>some (.Ej t d)
     | none,none=>none)
def ic (ps t:List Pl):Prop:=dY t∧∀ q∈t,q∈ps
end L3
namespace L3
def prs:List Pl→List (List Pl)
 | x :: y :: r=>[x,y] :: prs (y :: r)
 | _=>[]
theorem Bc (h:Pl) (r:List Pl):∀ X:List Pl,prs (X ++ h :: r)=prs (X ++ [h]) ++ prs (h :: r)
 | []=>rfl
 | [x]=>rfl
 | x :: y :: X=>by
   have ih:=Bc h r (y :: X)
   show [x,y] :: prs (y :: X ++ h :: r)= [x,y] :: prs (y :: X ++ [h]) ++ prs (h :: r)
   rw [ih]
   rfl
theorem Bd:∀ (x:Pl) (r:List Pl) (z:Pl),List.zipWith (fun p q=>[p,q]) (x :: r) (r ++ [z])=prs (x :: r ++ [z])
 | x,[],z=>rfl
 | x,y :: r,z=>by
   show [x,y] :: List.zipWith (fun p q=>[p,q]) (y :: r) (r ++ [z])= [x,y] :: prs (y :: r ++ [z])
   rw [Bd y r z]
theorem wc:∀ (l:List Pl) (w:List Pl),w∈prs l→∃ a b,w= [a,b]∧Nx l a b
 | [],_,h=>by cases h
 | [_],_,h=>by cases h
 | x :: y :: r,w,h=>by
   rcases Vl.mp h with h | h
   ·exact ⟨x,y,h,.inl ⟨rfl,rfl⟩⟩
   ·obtain ⟨a,b,e,k⟩:=wc (y :: r) w h
    exact ⟨a,b,e,.inr k⟩
theorem Ek:∀ (l:List Pl) (a b:Pl),Nx l a b→[a,b]∈prs l
 | [],_,_,h=>h.elim
 | [_],_,_,h=>h.elim
 | x :: y :: r,a,b,h=>by
   rcases h with ⟨rfl,rfl⟩ | h
   ·exact Vz ..
   ·exact Vj _ (Ek (y :: r) a b h)
theorem Cj {T H:List Pl} {lo hi:Pl} (t1:T.head?=some lo) (t2:T.getLast?=some hi) (h1:H.head?=some hi) (h2:H.getLast?=some lo) (hne:lo≠hi) :
 List.zipWith (fun p q=>[p,q]) (T.dropLast ++ H.dropLast) ((T.dropLast ++ H.dropLast).drop 1 ++ (T.dropLast ++ H.dropLast).take 1)=prs T ++ prs H:=by
 have eT:=gv t2
 have eH:=gv h2
 obtain ⟨X,hX⟩:∃ X,T.dropLast=lo :: X:=by
  cases e:T.dropLast with
  | nil=>
    rw [e] at eT
    rw [eT] at t1
    exact absurd (Option.some.inj t1).symm hne
  | cons x X=>
    rw [e] at eT
    rw [eT] at t1
    exact ⟨X,by rw [Option.some.inj t1]⟩
 obtain ⟨Y,hY⟩:∃ Y,H=hi :: Y:=by
  cases e:H with
  | nil=>rw [e] at h1;cases h1
  | cons x X=>rw [e] at h1;exact ⟨X,by rw [Option.some.inj h1]⟩
 rw [hX]
 show List.zipWith (fun p q=>[p,q]) (lo :: (X ++ H.dropLast)) ((X ++ H.dropLast) ++ [lo])=_
 rw [Bd]
 have e1:lo :: (X ++ H.dropLast) ++ [lo]=(lo :: X) ++ (H.dropLast ++ [lo]):=by simp
 rw [e1,← eH]
 conv=>lhs;rw [hY,Bc,← hY]
 rw [← hX,← eT]
theorem Ia {z:Pl}:∀ {l:List Pl},l.getLast?=some z→2≤l.length→∃ e,Nx l e z
 | [],_,h=>by simp at h
 | [_],_,h=>by simp at h
 | [x,y],e,_=>⟨x,.inl ⟨rfl,by simpa using e⟩⟩
 | x :: y :: u :: r,e,_=>by
   obtain ⟨e',k⟩:=Ia (l:=y :: u :: r) (by simpa using e) (by simp)
   exact ⟨e',.inr k⟩
theorem rT {w:Way} {S:List Pl}:∀ {st:List Pl},lU w S st→st.Pairwise (fun b a=>w.f a < w.f b)
 | [],_=> .nil
 | [_],_=>by simp
 | y :: x :: r,e=>by
   obtain ⟨e1,_,e3⟩:=e
   have ih:=rT e3
   refine VI.mpr ⟨fun z hz=>?_,ih⟩
   rcases Vl.mp hz with rfl | hz
   ·exact e1
   ·have:=(VI.mp ih).1 z hz
    omega
theorem Ch.nodup {w:Way} {S st:List Pl} (C:Ch w S st):st.Nodup:=(rT C.GH).imp fun h e=>by rw [e] at h;omega
theorem o7 {l m:List Pl} (nd:l.Nodup) (sub:∀ x∈l,x∈m):l.length≤m.length:=by
 induction l generalizing m with
 | nil=>simp
 | cons a l ih=>
   obtain ⟨h1,h2⟩:=VC.mp nd
   have ma:=sub a (Vz ..)
   have:=ih (m:=m.erase a) h2 fun x hx=>(Xu (show x≠a from fun e=>h1 (e▸hx))).mpr (sub x (Vj _ hx))
   rw [Xc ma] at this
   have:0 < m.length:=Xj ma
   rw [VN]
   omega
theorem zU {w:Way} {x b e p:Pl} (h1:w.f x < w.f b) (h2:w.f x < w.f e) (h3:w.f x < w.f p) (h:0≤tw x b e) (s1:tw x b p < 0) (s2:tw e x p < 0):False:=by
 have key:=gI w.al w.be (b.x - x.x) (b.y - x.y) (e.x - x.x) (e.y - x.y) (p.x - x.x) (p.y - x.y)
 have s2':0 < (e.x - x.x)*(p.y - x.y) - (e.y - x.y)*(p.x - x.x):=by
  unfold tw at s2
  grind
 unfold Way.f at h1 h2 h3
 unfold tw at h s1
 have k1:0 < w.al*(b.x - x.x)+w.be*(b.y - x.y):=by grind
 have k2:0 < w.al*(e.x - x.x)+w.be*(e.y - x.y):=by grind
 have k3:0 < w.al*(p.x - x.x)+w.be*(p.y - x.y):=by grind
 have r1:=VH k1 s2'
 have r2:0≤(w.al*(p.x - x.x)+w.be*(p.y - x.y))*((b.x - x.x)*(e.y - x.y) - (b.y - x.y)*(e.x - x.x)):=Vs (by omega) h
 have r3:(w.al*(e.x - x.x)+w.be*(e.y - x.y))*((b.x - x.x)*(p.y - x.y) - (b.y - x.y)*(p.x - x.x)) < 0:=V6 k2 s1
 omega
def Fl (p:Pl):List Pl→Bool
 | [a,b]=>decide (tw a b p < 0)
 | _=>false
end L3
namespace L3
def mK (bd:List Pl) (k:Nat):Option Pl:=if k=0 then bd.getLast? else bd[k - 1]?
theorem we {bd:List Pl} {k:Nat} {a b:Pl} (hb:bd[k]?=some b) (ha:mK bd k=some a): [a,b]∈List.zipWith (fun p q=>[p,q]) bd (bd.drop 1 ++ bd.take 1):=by
 have lk:k < bd.length:=(VO.mp hb).1
 unfold mK at ha
 rw [W3]
 by_cases c:k=0
 ·subst c
  rw [if_pos rfl,XN] at ha
  refine ⟨bd.length - 1,?_⟩
  have e2:(bd.drop 1 ++ bd.take 1)[bd.length - 1]?=some b:=by
   rw [WI (by rw [Wh];omega),Wh,Nat.sub_self,XT (by omega)]
   exact hb
  rw [WJ,ha,e2]
 ·rw [if_neg c] at ha
  refine ⟨k - 1,?_⟩
  have e2:(bd.drop 1 ++ bd.take 1)[k - 1]?=some b:=by
   rw [WN (by rw [Wh];omega),List.getElem?_drop,show 1+(k - 1)=k by omega]
   exact hb
  rw [WJ,ha,e2]
theorem nP:∀ {as bs:List Pl},as.Perm bs→as.Pairwise (fun a b=> ¬ aI b a)→bs.Pairwise (fun a b=> ¬ aI b a)→as=bs
 | [],bs,h,_,_=>by rw [List.nil_perm.mp h]
 | a :: as,[],h,_,_=>by simp at h
 | a :: as,b :: bs,h,h1,h2=>by
   obtain ⟨p1,p2⟩:=VI.mp h1
   obtain ⟨q1,q2⟩:=VI.mp h2
   have e:a=b:=by
    rcases bT a b with k | k | k
    ·rcases Vl.mp (h.mem_iff.mp (Vz (a:=a) (l:=as))) with z | z
     ·exact z
     ·exact absurd k (q1 a z)
    ·exact k
    ·rcases Vl.mp (h.mem_iff.mpr (Vz (a:=b) (l:=bs))) with z | z
     ·exact z.symm
     ·exact absurd k (p1 b z)
   subst e
   rw [nP (List.Perm.cons_inv h) p2 q2]
end L3
namespace L3
def cE (Q:List Pl):Prop:=Q.Pairwise (fun p q=>aI p q)∧∀ q∈Q,q.y.natAbs < 2 ^ 140
def aO (Q:List Pl) (a b:Pl):Prop:=a∈Q∧b∈Q∧a≠b∧PM a b Q
def SL (Q:List Pl):List (List Pl):=bY (bQ Q)
theorem nQ {Q:List Pl} (h:Q.length < 2):SL Q= []:=by
 unfold SL bQ
 rw [if_pos h]
 unfold bY
 rw [if_pos h]
theorem uX {Q:List Pl} (s:cE Q) (h:2≤Q.length):2≤(bQ Q).length∧SL Q=List.zipWith (fun p q=>[p,q]) (bQ Q) ((bQ Q).drop 1 ++ (bQ Q).take 1)∧∀ a b,[a,b]∈SL Q↔aO Q a b:=by
 obtain ⟨lb,char⟩:=Cg s.1 s.2 h
 have eo:bQ Q=(Q.foldl aM []).reverse.dropLast ++ (Q.reverse.foldl aM []).reverse.dropLast:=by unfold bQ;rw [if_neg (by omega)]
 rw [← eo] at lb char
 have e:SL Q=List.zipWith (fun p q=>[p,q]) (bQ Q) ((bQ Q).drop 1 ++ (bQ Q).take 1):=by
  unfold SL bY
  rw [if_neg (by omega)]
 exact ⟨lb,e,fun a b=>by rw [e];exact char a b⟩
theorem nR {Q:List Pl} {a b:Pl} (h:aO Q a b):2≤Q.length:=o7 (l:=[a,b]) (by simp [h.2.2.1]) (fun x hx=>by
 simp only [Vl,VY,or_false] at hx
 rcases hx with rfl | rfl
 ·exact h.1
 ·exact h.2.1)
theorem bR {Q:List Pl} (s:cE Q) {a b:Pl}: [a,b]∈SL Q↔aO Q a b:=by
 by_cases h:2≤Q.length
 ·exact (uX s h).2.2 a b
 ·rw [nQ (by omega)]
  exact ⟨(fun z=>by cases z),fun z=>absurd (nR z) h⟩
theorem iM {Q w:List Pl} (h:w∈SL Q):∃ a b,w= [a,b]:=by
 unfold SL bY at h
 split at h
 ·cases h
 ·exact uV _ _ _ h
theorem GK {Q:List Pl} (s:cE Q) {a b:Pl} (h:aO Q a b):∃ c,aO Q c a:=by
 obtain ⟨lb,e,char⟩:=uX s (nR h)
 have m:=(char a b).mpr h
 rw [e] at m
 obtain ⟨i,hi⟩:=W3.mp m
 rw [WJ] at hi
 have ha:(bQ Q)[i]?=some a:=by
  cases e1:(bQ Q)[i]? with
  | none=>rw [e1] at hi;simp at hi
  | some u=>
    rw [e1] at hi
    cases e2:((bQ Q).drop 1 ++ (bQ Q).take 1)[i]? with
    | none=>rw [e2] at hi;simp at hi
    | some v=>rw [e2] at hi;simp at hi;rw [hi.1]
 have li:=(VO.mp ha).1
 obtain ⟨c,hc⟩:∃ c,mK (bQ Q) i=some c:=by
  unfold mK
  split
  ·exact ⟨_,Wb (fun z=>by rw [z] at lb;simp at lb)⟩
  ·exact ⟨_,Vn (by omega)⟩
 have:=we ha hc
 rw [← e] at this
 exact ⟨c,(char c a).mp this⟩
theorem rV {Q:List Pl} (s:cE Q) {a b:Pl} (h:aO Q a b):∃ c,aO Q b c:=by
 obtain ⟨lb,e,char⟩:=uX s (nR h)
 have m:=(char a b).mpr h
 rw [e] at m
 have hb:b∈bQ Q:=by
  obtain ⟨i,hi⟩:=W3.mp m
  rw [WJ] at hi
  cases e1:(bQ Q)[i]? with
  | none=>rw [e1] at hi;simp at hi
  | some u=>
    rw [e1] at hi
    cases e2:((bQ Q).drop 1 ++ (bQ Q).take 1)[i]? with
    | none=>rw [e2] at hi;simp at hi
    | some v=>
      rw [e2] at hi
      simp at hi
      have mv:=Vy e2
      rw [hi.2] at mv
      rcases Vv.mp mv with z | z
      ·exact List.mem_of_mem_drop z
      ·exact WD z
 obtain ⟨j,hj⟩:=W3.mp hb
 have lj:=(VO.mp hj).1
 by_cases c:j+1 < (bQ Q).length
 ·have:=we (k:=j+1) (Vn c) (show mK (bQ Q) (j+1)=some b by unfold mK;rw [if_neg (by omega)];exact hj)
  rw [← e] at this
  exact ⟨_,(char _ _).mp this⟩
 ·have:=we (bd:=bQ Q) (k:=0) (a:=b) (Vn (by omega)) (by unfold mK;rw [if_pos rfl,XN,show (bQ Q).length - 1=j by omega];exact hj)
  rw [← e] at this
  exact ⟨_,(char _ _).mp this⟩
theorem o8:∀ {l:List Pl},l.Nodup→(prs l).Nodup
 | [],_=> .nil
 | [_],_=> .nil
 | x :: y :: r,h=>by
   obtain ⟨h1,h2⟩:=VC.mp h
   refine VC.mpr ⟨fun z=>?_,o8 h2⟩
   obtain ⟨a,b,e,k⟩:=wc _ _ z
   have:x=a:=by injection e
   rw [this] at h1
   have key:∀ (l:List Pl) (a b:Pl),Nx l a b→a∈l:=fun l=>by
    induction l with
    | nil=>intro a b k;exact k.elim
    | cons u l ih=>
      intro a b k
      cases l with
      | nil=>exact k.elim
      | cons v l=>
        rcases k with ⟨rfl,_⟩ | k
        ·simp
        ·exact Vj _ (ih a b k)
   exact h1 (key _ _ _ k)
theorem o9 {Q:List Pl} (s:cE Q) (h2:2≤Q.length):(SL Q).Nodup∧∀ y,Q.getLast?=some y→∃ e,aO Q e y:=by
 obtain ⟨hs,hok⟩:=s
 have hne:Q≠[]:=fun z=>by rw [z] at h2;simp at h2
 obtain ⟨x,hx⟩:∃ x,Q.head?=some x:=by
  cases e:Q with
  | nil=>exact absurd e hne
  | cons x r=>exact ⟨x,rfl⟩
 obtain ⟨y,hy⟩:∃ y,Q.getLast?=some y:=⟨_,Wb hne⟩
 have mx:x∈Q:=W2 hx
 have my:y∈Q:=Wt hy
 have hend:=fW hs hx hy
 have be:∀ p∈Q,∀ q∈Q,(aI p q↔aj.f p < aj.f q):=fun p hp q hq=>kE (hok p hp) (hok q hq)
 have bw:∀ p∈Q,∀ q∈Q,(aI p q↔ql.f q < ql.f p):=fun p hp q hq=>by
  rw [be p hp q hq,gB,gB]
  omega
 have xy:x≠y:=by
  intro e
  cases e1:Q with
  | nil=>exact absurd e1 hne
  | cons u r=>
    cases r with
    | nil=>rw [e1] at h2;simp at h2
    | cons v r=>
      rw [e1] at hx hy hs
      have eu:u=x:=by simpa using hx
      have PN:y∈v :: r:=Wt (by simpa using hy)
      have:=(VI.mp hs).1 y PN
      rw [eu,e] at this
      exact bg _ this
 have C1:Ch aj Q (Q.foldl aM []):=kC hne (hs.imp_of_mem fun hp hq h=>(be _ hp _ hq).mp h)
 have C2:Ch ql Q.reverse (Q.reverse.foldl aM []):=kC (by simpa using hne) (Yg.mpr (hs.imp_of_mem fun hp hq h=>(bw _ hp _ hq).mp h))
 have key:∀ p∈Q,∀ q∈Q,(p=q∨aI p q)→aj.f p≤aj.f q∧ql.f q≤ql.f p:=fun p hp q hq k=>by
  rcases k with rfl | k
  ·exact ⟨Wa _,Wa _⟩
  ·have a1:=(be p hp q hq).mp k
   have a2:=(bw p hp q hq).mp k
   omega
 obtain ⟨p1,p2⟩:=C1.ends mx my (fun q hq=>(key x mx q hq ((hend q hq).1.imp Eq.symm id)).1) (fun q hq=>(key q hq y my (hend q hq).2).1)
 obtain ⟨r1,r2⟩:=C2.ends (lo:=y) (hi:=x) (by simpa using my) (by simpa using mx) (fun q hq=>by have hq:=Wd.mp hq;exact (key q hq y my (hend q hq).2).2) (fun q hq=>by have hq:=Wd.mp hq;exact (key x mx q hq ((hend q hq).1.imp Eq.symm id)).2)
 have e0:=Cj (lo:=x) (hi:=y) (T:=(Q.foldl aM []).reverse) (H:=(Q.reverse.foldl aM []).reverse) (by rw [WV];exact p2) (by rw [WA];exact p1) (by rw [WV];exact r2) (by rw [WA];exact r1) xy
 obtain ⟨lb,e,char⟩:=uX ⟨hs,hok⟩ h2
 have eo:bQ Q=(Q.foldl aM []).reverse.dropLast ++ (Q.reverse.foldl aM []).reverse.dropLast:=by unfold bQ;rw [if_neg (by omega)]
 have es:SL Q=prs (Q.foldl aM []).reverse ++ prs (Q.reverse.foldl aM []).reverse:=by
  rw [e,eo]
  exact e0
 have SH:∀ a b,Nx (Q.foldl aM []).reverse a b→aj.f a < aj.f b:=fun a b k=>((gJ C1).mp ((k8 _ a b).mpr k)).2.2.1
 have SI:∀ a b,Nx (Q.reverse.foldl aM []).reverse a b→aj.f b < aj.f a:=fun a b k=>by
  have h3:=((gJ C2).mp ((k8 _ a b).mpr k)).2.2.1
  rw [gB,gB] at h3
  omega
 have n1:=C1.nodup
 have n2:=C2.nodup
 constructor
 ·rw [es]
  refine VU.mpr ⟨o8 ((XO _).nodup_iff.mpr n1),o8 ((XO _).nodup_iff.mpr n2),fun v hv u hu z=>?_⟩
  subst z
  obtain ⟨a,b,rfl,k1⟩:=wc _ _ hv
  obtain ⟨c,d,e2,k2⟩:=wc _ _ hu
  injection e2 with e3 e2
  injection e2 with e4 _
  rw [← e3,← e4] at k2
  have:=SH a b k1
  have:=SI a b k2
  omega
 ·intro y' hy'
  rw [hy] at hy'
  cases hy'
  obtain ⟨e1,k⟩:=Ia (l:=(Q.foldl aM []).reverse) (z:=y) (by rw [WA];exact p1) (by rw [VV];exact rS p1 p2 (Ne.symm xy))
  exact ⟨e1,(char e1 y).mp (by rw [es];exact Vq _ (Ek _ _ _ k))⟩
theorem kF {Q:List Pl} (s:cE Q):(SL Q).Nodup:=by
 by_cases h:2≤Q.length
 ·exact (o9 s h).1
 ·rw [nQ (by omega)]
  exact .nil
theorem rW (w:Way) (u v p o:Pl):(w.f v - w.f o)*tw o u p=(w.f u - w.f o)*tw o v p+(w.f p - w.f o)*tw o u v:=by
 unfold Way.f tw
 grind
theorem iN (a b c:Pl):tw b c a=tw a b c:=by unfold tw;grind
theorem mL (a b c:Pl):tw c a b=tw a b c:=by unfold tw;grind
theorem bU (a b c:Pl):tw b a c= - tw a b c:=by unfold tw;grind
theorem uY (a b c:Pl):tw a c b= - tw a b c:=by unfold tw;grind
section
variable {Q:List Pl} {p:Pl}
def JT (Q:List Pl) (p:Pl):Prop:=(∀ q∈Q,aI q p)∧p.y.natAbs < 2 ^ 140
theorem cE.f (s:cE Q) {a b:Pl} (ha:a∈Q) (hb:b∈Q):aI a b↔aj.f a < aj.f b:=kE (s.2 a ha) (s.2 b hb)
theorem cE.inj (s:cE Q) {a b:Pl} (ha:a∈Q) (hb:b∈Q) (e:aj.f a=aj.f b):a=b:=by
 rcases bT a b with k | k | k
 ·have:=(s.f ha hb).mp k;omega
 ·exact k
 ·have:=(s.f hb ha).mp k;omega
theorem JT.f (s:cE Q) (h:JT Q p) {a:Pl} (ha:a∈Q):aj.f a < aj.f p:=(kE (s.2 a ha) h.2).mp (h.1 a ha)
theorem cY (s:cE Q) {a b q:Pl} (h:aO Q a b) (hq:q∈Q) (z:tw a b q=0):¬ ((aj.f a < aj.f q∧aj.f q < aj.f b)∨(aj.f b < aj.f q∧aj.f q < aj.f a)):=by
 obtain ⟨ha,hb,ne,r⟩:=h
 have r2:=(r q hq).2 z
 unfold lo hi at r2
 rintro (⟨k1,k2⟩ | ⟨k1,k2⟩)
 ·have ab:aI a b:=(s.f ha hb).mpr (by omega)
  rw [if_neg (az ab),if_pos ab] at r2
  exact r2 ⟨(s.f ha hq).mpr k1,(s.f hq hb).mpr k2⟩
 ·have ba:aI b a:=(s.f hb ha).mpr (by omega)
  rw [if_pos ba,if_neg (az ba)] at r2
  exact r2 ⟨(s.f hb hq).mpr k1,(s.f hq ha).mpr k2⟩
theorem rX (s:cE Q) {a b:Pl} (ha:a∈Q) (hb:b∈Q) (h:∀ q∈Q,0≤tw a b q∧(tw a b q=0→¬ ((aj.f a < aj.f q∧aj.f q < aj.f b)∨(aj.f b < aj.f q∧aj.f q < aj.f a)))):PM a b Q:=fun q hq=>⟨(h q hq).1,fun z k=>(h q hq).2 z (by
 unfold lo hi at k
 by_cases c:aI b a
 ·rw [if_pos c,if_neg (az c)] at k
  exact .inr ⟨(s.f hb hq).mp k.1,(s.f hq ha).mp k.2⟩
 ·rw [if_neg c] at k
  by_cases d:aI a b
  ·rw [if_pos d] at k
   exact .inl ⟨(s.f ha hq).mp k.1,(s.f hq hb).mp k.2⟩
  ·rw [if_neg d] at k
   have:=(s.f ha hq).mp k.1
   have:=(s.f hq ha).mp k.2
   omega)⟩
theorem wg (s:cE Q) {a b:Pl} (ha:a∈Q) (hb:b∈Q) (ne:a≠b):aj.f a≠aj.f b:=fun z=>ne (s.inj ha hb z)
theorem uZ (s:cE Q) {a b c:Pl} (h1:aO Q a b) (h2:aO Q a c) (s1:tw a b p < 0) (s2:tw a c p < 0):b=c:=by
 have z1:=(h1.2.2.2 c h2.2.1).1
 have z2:=(h2.2.2.2 b h1.2.1).1
 have z3:=uY a b c
 have z:tw a b c=0:=by omega
 have z':tw a c b=0:=by omega
 apply Vi
 intro ne
 have f1:=wg s h1.1 h1.2.1 h1.2.2.1
 have f2:=wg s h2.1 h2.2.1 h2.2.2.1
 have f3:=wg s h1.2.1 h2.2.1 ne
 have b1:=cY s h1 h2.2.1 z
 have b2:=cY s h2 h1.2.1 z'
 have key:=rW aj b c p a
 rw [z,V3,WT] at key
 rcases Wg f1 with k | k
 ·rcases Wg f2 with l | l
  ·omega
  ·have e1:0 < (aj.f c - aj.f a)*tw a b p:=WO (by omega) s1
   have e2:(aj.f b - aj.f a)*tw a c p < 0:=V6 (by omega) s2
   omega
 ·rcases Wg f2 with l | l
  ·have e1:(aj.f c - aj.f a)*tw a b p < 0:=V6 (by omega) s1
   have e2:0 < (aj.f b - aj.f a)*tw a c p:=WO (by omega) s2
   omega
  ·omega
theorem ym (s:cE Q) {a b c:Pl} (h1:aO Q b a) (h2:aO Q c a) (s1:tw b a p < 0) (s2:tw c a p < 0):b=c:=by
 have z1:=(h1.2.2.2 c h2.1).1
 have z2:=(h2.2.2.2 b h1.1).1
 have z3:tw c a b= - tw b a c:=by unfold tw;grind
 have z:tw b a c=0:=by omega
 have z':tw c a b=0:=by omega
 apply Vi
 intro ne
 have f1:=wg s h1.1 h1.2.1 h1.2.2.1
 have f2:=wg s h2.1 h2.2.1 h2.2.2.1
 have f3:=wg s h1.1 h2.1 ne
 have b1:=cY s h1 h2.1 z
 have b2:=cY s h2 h1.1 z'
 have key:=rW aj b c p a
 have y1:tw a b p= - tw b a p:=bU b a p
 have y2:tw a c p= - tw c a p:=bU c a p
 have y3:tw a b c=0:=by have:=bU b a c;omega
 rw [y3,V3,WT] at key
 have s1:0 < tw a b p:=by omega
 have s2:0 < tw a c p:=by omega
 rcases Wg f1 with k | k
 ·rcases Wg f2 with l | l
  ·omega
  ·have e1:0 < (aj.f c - aj.f a)*tw a b p:=VH (by omega) s1
   have e2:(aj.f b - aj.f a)*tw a c p < 0:=V7 (by omega) s2
   omega
 ·rcases Wg f2 with l | l
  ·have e1:(aj.f c - aj.f a)*tw a b p < 0:=V7 (by omega) s1
   have e2:0 < (aj.f b - aj.f a)*tw a c p:=VH (by omega) s2
   omega
  ·omega
theorem MG (c a b p q:Pl):tw c a p*tw a b q - tw a b p*tw c a q=tw c a b*tw a p q:=by unfold tw;grind
theorem MH (a b c p q:Pl):tw a b q*tw b c p - tw a b p*tw b c q=tw a b c*tw p b q:=by unfold tw;grind
theorem k9 {a b:Pl} (ne:a≠b) (h:∀ q∈Q,tw a b q=0):Flat Q:=fun u hu v hv w hw=>Eb ne (h u hu) (h v hv) (h w hw)
theorem Ck (nf:¬ Flat Q) {a b c:Pl} (h1:aO Q a b) (h2:aO Q c a) (s1:tw a b p < 0) (s2:0≤tw c a p):∀ q∈Q,0≤tw a p q:=fun q hq=>by
 have z1:=(h1.2.2.2 q hq).1
 have z2:=(h2.2.2.2 q hq).1
 have z3:=(h2.2.2.2 b h1.2.1).1
 have key:=MG c a b p q
 have e1:0≤tw c a p*tw a b q:=Vs s2 z1
 have e2:tw a b p*tw c a q≤0:=VG (by omega) z2
 rcases XE z3 with k | k
 ·exact kB k (by omega)
 ·exfalso
  refine nf (k9 h2.2.2.1 fun r hr=>?_)
  have key:=MG c a b p r
  rw [← k,WU] at key
  have y1:=(h1.2.2.2 r hr).1
  have y2:=(h2.2.2.2 r hr).1
  have e1:0≤tw c a p*tw a b r:=Vs s2 y1
  have e2:tw a b p*tw c a r≤0:=VG (by omega) y2
  have e3:tw a b p*tw c a r=0:=by omega
  rcases VB.mp e3 with z | z
  ·omega
  ·exact z
theorem GL (nf:¬ Flat Q) {a b c:Pl} (h1:aO Q a b) (h2:aO Q b c) (s1:tw a b p < 0) (s2:0≤tw b c p):∀ q∈Q,0≤tw p b q:=fun q hq=>by
 have z1:=(h1.2.2.2 q hq).1
 have z2:=(h2.2.2.2 q hq).1
 have z3:=(h1.2.2.2 c h2.2.1).1
 have key:=MH a b c p q
 have e1:0≤tw a b q*tw b c p:=Vs z1 s2
 have e2:tw a b p*tw b c q≤0:=VG (by omega) z2
 rcases XE z3 with k | k
 ·exact kB k (by omega)
 ·exfalso
  refine nf (k9 h2.2.2.1 fun r hr=>?_)
  have key:=MH a b c p r
  rw [← k,WU] at key
  have y1:=(h1.2.2.2 r hr).1
  have y2:=(h2.2.2.2 r hr).1
  have e1:0≤tw a b r*tw b c p:=Vs y1 s2
  have e2:tw a b p*tw b c r≤0:=VG (by omega) y2
  have e3:tw a b p*tw b c r=0:=by omega
  rcases VB.mp e3 with z | z
  ·omega
  ·exact z
theorem lg (s:cE Q) (fl:Flat Q) {a b:Pl} (ha:a∈Q) (hb:b∈Q) (ne:a≠b) (h:∀ q∈Q,¬ ((aj.f a < aj.f q∧aj.f q < aj.f b)∨(aj.f b < aj.f q∧aj.f q < aj.f a))):aO Q a b:=
 ⟨ha,hb,ne,rX s ha hb fun q hq=>⟨by rw [fl a ha b hb q hq];omega,fun _=>h q hq⟩⟩
theorem wj (s:cE Q) {a q:Pl} (ha:a∈Q) (hq:q∈Q) (ne:q≠a):∃ c∈Q,c≠a∧(aj.f c < aj.f a↔aj.f q < aj.f a)∧∀ z∈Q,¬ ((aj.f a < aj.f z∧aj.f z < aj.f c)∨(aj.f c < aj.f z∧aj.f z < aj.f a)):=by
 have fq:=wg s hq ha ne
 rcases Wg fq with k | k
 ·obtain ⟨c,hc,mx⟩:=Bb (Q.filter fun z=>decide (aI z a)) (Wo (Vu.mpr ⟨hq,decide_eq_true ((s.f hq ha).mpr k)⟩))
  obtain ⟨hc,ca⟩:=Vu.mp hc
  have ca:=(s.f hc ha).mp (of_decide_eq_true ca)
  refine ⟨c,hc,fun z=>by rw [z] at ca;omega,⟨fun _=>k,fun _=>ca⟩,fun z hz=>?_⟩
  rintro (⟨k1,k2⟩ | ⟨k1,k2⟩)
  ·omega
  ·exact mx z (Vu.mpr ⟨hz,decide_eq_true ((s.f hz ha).mpr k2)⟩) ((s.f hc hz).mpr k1)
 ·obtain ⟨c,hc,mn⟩:=v8 (Q.filter fun z=>decide (aI a z)) (Wo (Vu.mpr ⟨hq,decide_eq_true ((s.f ha hq).mpr k)⟩))
  obtain ⟨hc,ca⟩:=Vu.mp hc
  have ca:=(s.f ha hc).mp (of_decide_eq_true ca)
  refine ⟨c,hc,fun z=>by rw [z] at ca;omega,⟨fun _=>by omega,fun _=>by omega⟩,fun z hz=>?_⟩
  rintro (⟨k1,k2⟩ | ⟨k1,k2⟩)
  ·exact mn z (Vu.mpr ⟨hz,decide_eq_true ((s.f ha hz).mpr k1)⟩) ((s.f hz hc).mpr k2)
  ·omega
theorem NJ {x y A B:Int} (h:x*A=y*B) (hA:A < 0) (hB:0 < B):(0 < x→y < 0)∧(x < 0→0 < y)∧(x=0→y=0):=by
 refine ⟨fun k=>?_,fun k=>?_,fun k=>?_⟩
 ·have:=V6 k hA
  apply Vi
  intro z
  have:=Vs (a:=y) (b:=B) (by omega) (by omega)
  omega
 ·have:=WO k hA
  apply Vi
  intro z
  have:=VG (a:=y) (b:=B) (by omega) (by omega)
  omega
 ·rw [k,WU] at h
  rcases VB.mp h.symm with z | z
  ·exact z
  ·omega
theorem PV {x y A B:Int} (h:x*A=y*B) (hA:A < 0) (hxy:(0 < x∧y < 0)∨(x < 0∧0 < y)):0 < B:=by
 apply Vi
 intro z
 rcases hxy with ⟨k,l⟩ | ⟨k,l⟩
 ·have:=V6 k hA
  have:=VD (a:=y) (b:=B) (by omega) (by omega)
  omega
 ·have:=WO k hA
  have:=VE (a:=y) (b:=B) (by omega) (by omega)
  omega
theorem zV (s:cE Q) (fl:Flat Q) {a b:Pl} (h1:aO Q a b) (s1:tw a b p < 0) (no:∀ c,aO Q c a→0≤tw c a p):∀ q∈Q,0≤tw a p q:=fun q hq=>by
 apply Vi
 intro k
 have z0:=fl a h1.1 b h1.2.1 q hq
 have key:=rW aj b q p a
 rw [z0,V3,WT] at key
 have e1:tw a q p= - tw a p q:=uY a p q
 have o1:=NJ key s1 (by omega)
 have nq:q≠a:=fun z=>by rw [z] at k;have:=gG a p;omega
 obtain ⟨c,hc,nc,sg,MI⟩:=wj s h1.1 hq nq
 have f1:=wg s h1.2.1 h1.1 (Ne.symm h1.2.2.1)
 have f2:=wg s hq h1.1 nq
 have f3:=wg s hc h1.1 nc
 have sd:aO Q c a:=lg s fl hc h1.1 nc fun z hz w=>MI z hz (by omega)
 have GN:=rW aj b c p a
 rw [fl a h1.1 b h1.2.1 c hc,V3,WT] at GN
 have:=PV GN s1 (by omega)
 have:=no c sd
 have:=bU a c p
 omega
theorem El (s:cE Q) (fl:Flat Q) {a b:Pl} (h1:aO Q a b) (s1:tw a b p < 0) (no:∀ c,aO Q b c→0≤tw b c p):∀ q∈Q,0≤tw p b q:=fun q hq=>by
 apply Vi
 intro k
 have z0:=fl b h1.2.1 a h1.1 q hq
 have key:=rW aj a q p b
 rw [z0,V3,WT] at key
 have e1:tw b q p=tw p b q:=iN p b q
 have e2:=bU a b p
 have key:(aj.f a - aj.f b)*tw b q p=(aj.f q - aj.f b)*tw b a p:=key.symm
 have o1:=NJ key (by omega) (by omega)
 have nq:q≠b:=fun z=>by rw [z] at k;have:=gF p b;have:tw p b b=0:=by unfold tw;grind
                        omega
 obtain ⟨c,hc,nc,sg,MI⟩:=wj s h1.2.1 hq nq
 have f1:=wg s h1.1 h1.2.1 h1.2.2.1
 have f2:=wg s hq h1.2.1 nq
 have f3:=wg s hc h1.2.1 nc
 have sd:aO Q b c:=lg s fl h1.2.1 hc (Ne.symm nc) fun z hz w=>MI z hz (by omega)
 have GN:=rW aj a c p b
 rw [fl b h1.2.1 a h1.1 c hc,V3,WT] at GN
 have nn:=no c sd
 have pos:0 < tw b a p:=by omega
 rcases Wg f3 with l | l
 ·have e3:(aj.f c - aj.f b)*tw b a p < 0:=V7 (by omega) pos
  have e4:0≤(aj.f a - aj.f b)*tw b c p:=Vs (by omega) nn
  omega
 ·have e3:0 < (aj.f c - aj.f b)*tw b a p:=VH (by omega) pos
  have e4:(aj.f a - aj.f b)*tw b c p≤0:=VG (by omega) nn
  omega
theorem Cm (s:cE Q) (bh:JT Q p) {a b q:Pl} (h1:aO Q a b) (s1:tw a b p < 0) (hq:q∈Q) (z:tw a p q=0):¬ aj.f a < aj.f q:=fun k=>by
 have key:=rW aj b q p a
 have e1:tw a q p=0:=by have:=uY a p q;omega
 rw [e1,V3,X0] at key
 have:=(h1.2.2.2 q hq).1
 have fp:=bh.f s h1.1
 have e2:(aj.f q - aj.f a)*tw a b p < 0:=V6 (by omega) s1
 have e3:0≤(aj.f p - aj.f a)*tw a b q:=Vs (by omega) this
 omega
theorem GO (s:cE Q) (bh:JT Q p) {a b q:Pl} (h1:aO Q a b) (s1:tw a b p < 0) (hq:q∈Q) (z:tw p b q=0):¬ aj.f b < aj.f q:=fun k=>by
 have key:=rW aj a q p b
 have e1:tw b q p=0:=by have:=iN p b q;omega
 rw [e1,V3,X0] at key
 have:=(h1.2.2.2 q hq).1
 have y1:=bU a b p
 have y2:=bU a b q
 have fp:=bh.f s h1.2.1
 have e2:0 < (aj.f q - aj.f b)*tw b a p:=VH (by omega) (by omega)
 have e3:(aj.f p - aj.f b)*tw b a q≤0:=VE (by omega) (by omega)
 omega
theorem cE.old (s:cE (Q ++ [p])):cE Q:=⟨(Ws.mp s.1).1,fun q hq=>s.2 q (Vq _ hq)⟩
theorem cE.zW (s:cE (Q ++ [p])):JT Q p:=⟨fun q hq=>(Ws.mp s.1).2.2 q hq p (by simp),s.2 p (by simp)⟩
theorem cE.out (s:cE (Q ++ [p])):p∉Q:=fun h=>bg _ (s.zW.1 p h)
theorem dO {q:Pl} (h:q∈Q ++ [p]):q∈Q∨q=p:=by
 rcases Vv.mp h with h | h
 ·exact .inl h
 ·exact .inr (Vm.mp h)
theorem gM (s:cE (Q ++ [p])) {a b:Pl} (ha:a∈Q) (hb:b∈Q):aO (Q ++ [p]) a b↔aO Q a b∧0≤tw a b p:=by
 constructor
 ·rintro ⟨_,_,ne,r⟩
  exact ⟨⟨ha,hb,ne,fun q hq=>r q (Vq _ hq)⟩,(r p (by simp)).1⟩
 ·rintro ⟨⟨_,_,ne,r⟩,h⟩
  refine ⟨Vq _ ha,Vq _ hb,ne,rX s (Vq _ ha) (Vq _ hb) fun q hq=>?_⟩
  rcases dO hq with hq | rfl
  ·exact ⟨(r q hq).1,fun z=>cY s.old ⟨ha,hb,ne,r⟩ hq z⟩
  ·refine ⟨h,fun _ k=>?_⟩
   have:=s.zW.f s.old ha
   have:=s.zW.f s.old hb
   omega
theorem rY (s:cE (Q ++ [p])) {a b:Pl} (h1:aO Q a b) (s1:tw a b p < 0) (no:∀ c,aO Q c a→0≤tw c a p):aO (Q ++ [p]) a p:=by
 have all:∀ q∈Q,0≤tw a p q:=by
  by_cases fl:Flat Q
  ·exact zV s.old fl h1 s1 no
  ·obtain ⟨c,hc⟩:=GK s.old h1
   exact Ck fl h1 hc s1 (no c hc)
 have ma:a∈Q ++ [p]:=Vq _ h1.1
 have mp:p∈Q ++ [p]:=by simp
 refine ⟨ma,mp,fun z=>s.out (z▸h1.1),rX s ma mp fun q hq=>?_⟩
 have fa:=s.zW.f s.old h1.1
 rcases dO hq with hq | rfl
 ·refine ⟨all q hq,fun z k=>?_⟩
  have:=Cm s.old s.zW h1 s1 hq z
  have:=s.zW.f s.old hq
  omega
 ·refine ⟨by have:tw a q q=0:=by unfold tw;grind
             omega,fun _ k=>by omega⟩
theorem yo (s:cE (Q ++ [p])) {a b:Pl} (h1:aO Q a b) (s1:tw a b p < 0) (no:∀ c,aO Q b c→0≤tw b c p):aO (Q ++ [p]) p b:=by
 have all:∀ q∈Q,0≤tw p b q:=by
  by_cases fl:Flat Q
  ·exact El s.old fl h1 s1 no
  ·obtain ⟨c,hc⟩:=rV s.old h1
   exact GL fl h1 hc s1 (no c hc)
 have mb:b∈Q ++ [p]:=Vq _ h1.2.1
 have mp:p∈Q ++ [p]:=by simp
 refine ⟨mp,mb,fun z=>s.out (z▸h1.2.1),rX s mp mb fun q hq=>?_⟩
 have fb:=s.zW.f s.old h1.2.1
 rcases dO hq with hq | rfl
 ·refine ⟨all q hq,fun z k=>?_⟩
  have:=GO s.old s.zW h1 s1 hq z
  have:=s.zW.f s.old hq
  omega
 ·refine ⟨by have:tw q b q=0:=by unfold tw;grind
             omega,fun _ k=>by omega⟩
theorem Em (s:cE (Q ++ [p])) {u v:Pl} (h1:aO (Q ++ [p]) u p) (h2:aO (Q ++ [p]) v p):u=v:=by
 apply Vi
 intro ne
 have z1:=(h1.2.2.2 v h2.1).1
 have z2:=(h2.2.2.2 u h1.1).1
 have z3:tw v p u= - tw u p v:=by unfold tw;grind
 have f:=wg s h1.1 h2.1 ne
 have hu:=(dO h1.1).resolve_right h1.2.2.1
 have hv:=(dO h2.1).resolve_right h2.2.2.1
 have fu:=s.zW.f s.old hu
 have fv:=s.zW.f s.old hv
 have b1:=cY s h1 h2.1 (by omega)
 have b2:=cY s h2 h1.1 (by omega)
 omega
theorem Ib (s:cE (Q ++ [p])) {u v:Pl} (h1:aO (Q ++ [p]) p u) (h2:aO (Q ++ [p]) p v):u=v:=by
 apply Vi
 intro ne
 have z1:=(h1.2.2.2 v h2.2.1).1
 have z2:=(h2.2.2.2 u h1.2.1).1
 have z3:tw p v u= - tw p u v:=uY p u v
 have f:=wg s h1.2.1 h2.2.1 ne
 have hu:=(dO h1.2.1).resolve_right (Ne.symm h1.2.2.1)
 have hv:=(dO h2.2.1).resolve_right (Ne.symm h2.2.2.1)
 have fu:=s.zW.f s.old hu
 have fv:=s.zW.f s.old hv
 have b1:=cY s h1 h2.2.1 (by omega)
 have b2:=cY s h2 h1.2.1 (by omega)
 omega
theorem yp {Q:List Pl} (h:Q.length≤2):Flat Q:=by
 match Q,h with
 | [],_=>exact fun p hp=>by cases hp
 | [x],_=>exact gK (by simp)
 | [x,y],_=>
   have key:∀ a∈[x,y],a=x∨a=y:=fun a ha=>by simpa using ha
   intro a ha b hb c hc
   rcases key a ha with rfl | rfl <;> rcases key b hb with rfl | rfl <;> rcases key c hc with rfl | rfl <;> (unfold tw;grind)
theorem u0 (s:cE (Q ++ [p])) (nf:¬ Flat (Q ++ [p])):∃ a b,aO Q a b∧tw a b p < 0:=by
 apply Vi
 intro none
 have un:∀ a b,aO Q a b→0≤tw a b p:=fun a b h=>Vi fun z=>none ⟨a,b,h,by omega⟩
 have l2:2≤Q.length:=Vi fun z=>nf (yp (by rw [VA];simp;omega))
 have hne:Q≠[]:=fun z=>by rw [z] at l2;simp at l2
 have hy:=Wb hne
 obtain ⟨e,he⟩:=(o9 s.old l2).2 _ hy
 have last:∀ q∈Q,q=Q.getLast hne∨aI q (Q.getLast hne):=fun q hq=>(fW s.old.1 (List.head?_eq_some_head hne) hy q hq).2
 generalize Q.getLast hne=y at he last
 obtain ⟨b,hb⟩:=rV s.old he
 have my:y∈Q:=hb.1
 have fe:aj.f e < aj.f y:=(s.old.f he.1 my).mp ((last e he.1).resolve_left he.2.2.1)
 have fb:aj.f b < aj.f y:=(s.old.f hb.2.1 my).mp ((last b hb.2.1).resolve_left (Ne.symm hb.2.2.1))
 have fp:=s.zW.f s.old my
 have u1:=un e y he
 have u2:=un y b hb
 have u3:=(he.2.2.2 b hb.2.1).1
 have g1:∀ q,tw y e q= - tw e y q:=fun q=>bU e y q
 have key:=rW aj e b p y
 have k1:=g1 p
 have k2:=g1 b
 have e1:0≤(aj.f b - aj.f y)*tw y e p:=VD (by omega) (by omega)
 have e2:(aj.f e - aj.f y)*tw y b p≤0:=VG (by omega) u2
 have e3:(aj.f p - aj.f y)*tw y e b≤0:=VE (by omega) (by omega)
 have z1:(aj.f b - aj.f y)*tw y e p=0:=by omega
 have z2:(aj.f p - aj.f y)*tw y e b=0:=by omega
 have y1:tw y e p=0:=(VB.mp z1).resolve_left (by omega)
 have y2:tw y e b=0:=(VB.mp z2).resolve_left (by omega)
 refine nf (k9 (a:=y) (b:=e) (Ne.symm he.2.2.1) fun q hq=>?_)
 rcases dO hq with hq | rfl
 ·have key:=rW aj e b q y
  rw [y2,V3,WT] at key
  have h1:=(he.2.2.2 q hq).1
  have h2:=(hb.2.2.2 q hq).1
  have h3:=g1 q
  have e4:0≤(aj.f b - aj.f y)*tw y e q:=VD (by omega) (by omega)
  have e5:(aj.f e - aj.f y)*tw y b q≤0:=VG (by omega) h2
  exact (VB.mp (show (aj.f b - aj.f y)*tw y e q=0 by omega)).resolve_left (by omega)
 ·exact y1
def bZ (Q:List Pl) (p:Pl):List (List Pl):=(SL Q).filter (Fl p)
theorem bq (s:cE Q) {a b:Pl}: [a,b]∈bZ Q p↔aO Q a b∧tw a b p < 0:=by
 unfold bZ
 rw [Vu,bR s]
 exact ⟨fun h=>⟨h.1,of_decide_eq_true h.2⟩,fun h=>⟨h.1,decide_eq_true h.2⟩⟩
theorem b8 {w:List Pl} (h:w∈bZ Q p):∃ a b,w= [a,b]:=iM (Vu.mp h).1
theorem mO (s:cE Q):(bZ Q p).Nodup:=(kF s).filter _
def t7 (w:List Pl):Pl:=w.headD ⟨0,0⟩
def wm (w:List Pl):Pl:=w.getLastD ⟨0,0⟩
theorem lA {α β:Type} {f:α→β}:∀ {l:List α},l.Nodup→(∀ x∈l,∀ y∈l,f x=f y→x=y)→(l.map f).Nodup
 | [],_,_=> .nil
 | a :: l,nd,h=>by
   obtain ⟨h1,h2⟩:=VC.mp nd
   rw [VP]
   refine VC.mpr ⟨fun z=>?_,lA h2 fun x hx y hy=>h x (Vj _ hx) y (Vj _ hy)⟩
   obtain ⟨b,hb,e⟩:=VJ.mp z
   rw [h b (Vj _ hb) a (by simp) e] at hb
   exact h1 hb
theorem wo (s:cE Q):((bZ Q p).map t7).Nodup:=lA (mO s) fun x hx y hy e=>by
 obtain ⟨a,b,rfl⟩:=b8 hx
 obtain ⟨c,d,rfl⟩:=b8 hy
 have e:a=c:=e
 subst e
 obtain ⟨h1,h2⟩:=(bq s).mp hx
 obtain ⟨h3,h4⟩:=(bq s).mp hy
 rw [uZ s h1 h3 h2 h4]
theorem zX (s:cE Q):((bZ Q p).map wm).Nodup:=lA (mO s) fun x hx y hy e=>by
 obtain ⟨a,b,rfl⟩:=b8 hx
 obtain ⟨c,d,rfl⟩:=b8 hy
 have e:b=d:=e
 subst e
 obtain ⟨h1,h2⟩:=(bq s).mp hx
 obtain ⟨h3,h4⟩:=(bq s).mp hy
 rw [ym s h1 h3 h2 h4]
theorem yq {A B:List Pl} (na:A.Nodup) (l:A.length=B.length) (h:∀ x∈A,x∈B):∀ x∈B,x∈A:=fun x hx=>by
 apply Vi
 intro n
 have:=o7 (l:=x :: A) (m:=B) (VC.mpr ⟨n,na⟩) (fun y hy=>by
  rcases Vl.mp hy with rfl | hy
  ·exact hx
  ·exact h y hy)
 rw [VN] at this
 omega
theorem Be (s:cE Q) (bh:JT Q p) {a0 b0:Pl} (h0: [a0,b0]∈bZ Q p) (h1:∀ x∈(bZ Q p).map t7,x∈(bZ Q p).map wm) (h2:∀ x∈(bZ Q p).map wm,x∈(bZ Q p).map t7):False:=by
 obtain ⟨m,hm,mn⟩:=v8 ((bZ Q p).map t7) (Wo (VJ.mpr ⟨_,h0,rfl⟩))
 obtain ⟨w,hw,e1⟩:=VJ.mp hm
 obtain ⟨v,hv,e2⟩:=VJ.mp (h1 m hm)
 obtain ⟨a,b,rfl⟩:=b8 hw
 obtain ⟨c,d,rfl⟩:=b8 hv
 have e1:a=m:=e1
 have e2:d=m:=e2
 subst e1
 subst e2
 obtain ⟨k1,k2⟩:=(bq s).mp hw
 obtain ⟨k3,k4⟩:=(bq s).mp hv
 have fb:aj.f d < aj.f b:=by
  have nb:=mn b (h2 b (VJ.mpr ⟨_,hw,rfl⟩))
  have ne:=wg s k1.1 k1.2.1 k1.2.2.1
  have:¬ aj.f b < aj.f d:=fun z=>nb ((s.f k1.2.1 k1.1).mpr z)
  omega
 have fc:aj.f d < aj.f c:=by
  have nb:=mn c (VJ.mpr ⟨_,hv,rfl⟩)
  have ne:=wg s k3.1 k3.2.1 k3.2.2.1
  have:¬ aj.f c < aj.f d:=fun z=>nb ((s.f k3.1 k3.2.1).mpr z)
  omega
 exact zU fb fc (bh.f s k1.1) (k1.2.2.2 c k3.1).1 k2 k4
theorem Eo (s:cE Q) (bh:JT Q p) {a0 b0:Pl} (h0: [a0,b0]∈bZ Q p):(∃ a b,(aO Q a b∧tw a b p < 0)∧∀ c,aO Q c a→0≤tw c a p)∧∃ a b,(aO Q a b∧tw a b p < 0)∧∀ c,aO Q b c→0≤tw b c p:=by
 have lens:((bZ Q p).map t7).length=((bZ Q p).map wm).length:=by rw [Vk,Vk]
 constructor
 ·apply Vi
  intro no
  have sub:∀ x∈(bZ Q p).map t7,x∈(bZ Q p).map wm:=fun x hx=>by
   obtain ⟨w,hw,rfl⟩:=VJ.mp hx
   obtain ⟨a,b,rfl⟩:=b8 hw
   apply Vi
   intro n
   refine no ⟨a,b,(bq s).mp hw,fun c hc=>Vi fun z=>n ?_⟩
   exact VJ.mpr ⟨[c,a],(bq s).mpr ⟨hc,by omega⟩,rfl⟩
  exact Be s bh h0 sub (yq (wo s) lens sub)
 ·apply Vi
  intro no
  have sub:∀ x∈(bZ Q p).map wm,x∈(bZ Q p).map t7:=fun x hx=>by
   obtain ⟨w,hw,rfl⟩:=VJ.mp hx
   obtain ⟨a,b,rfl⟩:=b8 hw
   apply Vi
   intro n
   refine no ⟨a,b,(bq s).mp hw,fun c hc=>Vi fun z=>n ?_⟩
   exact VJ.mpr ⟨[b,c],(bq s).mpr ⟨hc,by omega⟩,rfl⟩
  exact Be s bh h0 (yq (zX s) lens.symm sub) sub
def SJ (p:Pl) (w:List Pl):List (List Pl):=[[wm w,t7 w],[t7 w,p],[p,wm w]]
def newD (Q:List Pl) (p:Pl):List (List Pl):=(bZ Q p).flatMap (SJ p)
theorem fJ (s:cE Q) {w:List Pl}:w∈newD Q p↔∃ a b,(aO Q a b∧tw a b p < 0)∧(w= [b,a]∨w= [a,p]∨w= [p,b]):=by
 unfold newD
 rw [We]
 constructor
 ·rintro ⟨v,hv,hw⟩
  obtain ⟨a,b,rfl⟩:=b8 hv
  refine ⟨a,b,(bq s).mp hv,?_⟩
  have hw:w∈[[b,a],[a,p],[p,b]]:=hw
  simpa using hw
 ·rintro ⟨a,b,h,hw⟩
  refine ⟨[a,b],(bq s).mpr h,?_⟩
  show w∈[[b,a],[a,p],[p,b]]
  simpa using hw
theorem aL {a b c d:Pl} (h: [a,b]= [c,d]):a=c∧b=d:=by
 injection h with h1 h
 injection h with h2 _
 exact ⟨h1,h2⟩
theorem Cn (s:cE (Q ++ [p])):(newD Q p).Nodup:=by
 have so:=s.old
 have np:∀ {x y},aO Q x y→x≠p∧y≠p:=fun h=>⟨fun z=>s.out (z▸h.1),fun z=>s.out (z▸h.2.1)⟩
 unfold newD
 refine List.pairwise_flatMap.mpr ⟨fun w hw=>?_,?_⟩
 ·obtain ⟨a,b,rfl⟩:=b8 hw
  obtain ⟨h1,_⟩:=(bq so).mp hw
  obtain ⟨n1,n2⟩:=np h1
  show ([[b,a],[a,p],[p,b]]:List (List Pl)).Nodup
  simp only [VC,Vl,VY,or_false,not_or,not_false_eq_true,XD,and_true]
  refine ⟨⟨fun z=>n1 (aL z).2,fun z=>n2 (aL z).1⟩,fun z=>n1 (aL z).1⟩
 ·refine (mO so).imp_of_mem fun {w v} hw hv ne x hx y hy e=>?_
  subst e
  obtain ⟨a,b,rfl⟩:=b8 hw
  obtain ⟨c,d,rfl⟩:=b8 hv
  obtain ⟨h1,h2⟩:=(bq so).mp hw
  obtain ⟨h3,h4⟩:=(bq so).mp hv
  obtain ⟨n1,n2⟩:=np h1
  obtain ⟨n3,n4⟩:=np h3
  have hx:x∈[[b,a],[a,p],[p,b]]:=hx
  have hy:x∈[[d,c],[c,p],[p,d]]:=hy
  simp only [Vl,VY,or_false] at hx hy
  rcases hx with rfl | rfl | rfl
  ·rcases hy with e | e | e
   ·obtain ⟨rfl,rfl⟩:=aL e
    exact ne rfl
   ·exact n1 (aL e).2
   ·exact n2 (aL e).1
  ·rcases hy with e | e | e
   ·exact n3 (aL e).2.symm
   ·have e:=(aL e).1
    subst e
    rw [uZ so h1 h3 h2 h4] at ne
    exact ne rfl
   ·exact n1 (aL e).1
  ·rcases hy with e | e | e
   ·exact n4 (aL e).1.symm
   ·exact n3 (aL e).1.symm
   ·have e:=(aL e).2
    subst e
    rw [ym so h1 h3 h2 h4] at ne
    exact ne rfl
structure zY (Q:List Pl) (D:List (List Pl)):Prop where
 nd:D.Nodup
 rP:∀ w∈D,∃ a b,w= [a,b]∧a∈Q∧b∈Q
 bare:∀ a b,[a,b]∈D→[b,a]∉D→aO Q a b
 rZ:∀ a b,aO Q a b→[b,a]∉D
 has:∀ a b,aO Q a b→aO Q b a∨[a,b]∈D
theorem zY.nil {Q:List Pl} (h:Q.length < 2):zY Q [] where
 nd:= .nil
 rP:=fun w hw=>by cases hw
 bare:=fun a b hw=>by cases hw
 rZ:=fun a b hw=>by simp
 has:=fun a b hw=>absurd (nR hw) (by omega)
theorem pA {a b:Pl} (h1:aO Q a b) (h2:aO Q b a):Flat Q:=k9 h1.2.2.1 fun q hq=>by
 have z1:=(h1.2.2.2 q hq).1
 have z2:=(h2.2.2.2 q hq).1
 have:=bU a b q
 omega
theorem u5 (s:cE Q) (fl:Flat Q) {a b:Pl} (h:aO Q a b):aO Q b a:=lg s fl h.2.1 h.1 (Ne.symm h.2.2.1) fun q hq k=>cY s h hq (fl a h.1 b h.2.1 q hq) (by omega)
theorem zY.step {D D':List (List Pl)} (s:cE (Q ++ [p])) (c:zY Q D) (e:D'.Perm (D ++ newD Q p)):zY (Q ++ [p]) D':=by
 have so:=s.old
 have np:∀ {x y},aO Q x y→x≠p∧y≠p:=fun h=>⟨fun z=>s.out (z▸h.1),fun z=>s.out (z▸h.2.1)⟩
 have mem:∀ w,w∈D'↔w∈D∨w∈newD Q p:=fun w=>by rw [e.mem_iff,Vv]
 have pD:∀ a b,[a,b]∈D→a∈Q∧b∈Q:=fun a b h=>by
  obtain ⟨u,v,e,h1,h2⟩:=c.rP _ h
  obtain ⟨rfl,rfl⟩:=aL e
  exact ⟨h1,h2⟩
 refine ⟨?_,?_,?_,?_,?_⟩
 ·refine e.nodup_iff.mpr (VU.mpr ⟨c.nd,Cn s,fun w hw v hv z=>?_⟩)
  subst z
  obtain ⟨a,b,⟨h1,h2⟩,h3⟩:=(fJ so).mp hv
  rcases h3 with rfl | rfl | rfl
  ·exact c.rZ a b h1 hw
  ·exact s.out (pD _ _ hw).2
  ·exact s.out (pD _ _ hw).1
 ·intro w hw
  rcases (mem w).mp hw with h | h
  ·obtain ⟨a,b,e,h1,h2⟩:=c.rP w h
   exact ⟨a,b,e,Vq _ h1,Vq _ h2⟩
  ·obtain ⟨a,b,⟨h1,h2⟩,h3⟩:=(fJ so).mp h
   have ma:a∈Q ++ [p]:=Vq _ h1.1
   have mb:b∈Q ++ [p]:=Vq _ h1.2.1
   have mp:p∈Q ++ [p]:=by simp
   rcases h3 with rfl | rfl | rfl
   ·exact ⟨_,_,rfl,mb,ma⟩
   ·exact ⟨_,_,rfl,ma,mp⟩
   ·exact ⟨_,_,rfl,mp,mb⟩
 ·intro u v hw hb
  have Q7: [v,u]∉D:=fun z=>hb ((mem _).mpr (.inl z))
  have PX: [v,u]∉newD Q p:=fun z=>hb ((mem _).mpr (.inr z))
  rcases (mem _).mp hw with h | h
  ·have sd:=c.bare u v h Q7
   refine (gM s sd.1 sd.2.1).mpr ⟨sd,Vi fun z=>PX ?_⟩
   exact (fJ so).mpr ⟨u,v,⟨sd,by omega⟩,.inl rfl⟩
  ·obtain ⟨a,b,⟨h1,h2⟩,h3⟩:=(fJ so).mp h
   rcases h3 with h3 | h3 | h3
   ·obtain ⟨rfl,rfl⟩:=aL h3
    rcases c.has v u h1 with k | k
    ·exact (gM s k.1 k.2.1).mpr ⟨k,by have:=bU v u p;omega⟩
    ·exact absurd k Q7
   ·obtain ⟨rfl,rfl⟩:=aL h3
    refine rY s h1 h2 fun c hc=>Vi fun z=>PX ?_
    exact (fJ so).mpr ⟨c,u,⟨hc,by omega⟩,.inr (.inr rfl)⟩
   ·obtain ⟨rfl,rfl⟩:=aL h3
    refine yo s h1 h2 fun c hc=>Vi fun z=>PX ?_
    exact (fJ so).mpr ⟨v,c,⟨hc,by omega⟩,.inr (.inl rfl)⟩
 ·intro u v sd hw
  rcases (mem _).mp hw with h | h
  ·obtain ⟨mv,mu⟩:=pD _ _ h
   exact c.rZ u v ((gM s mu mv).mp sd).1 h
  ·obtain ⟨a,b,⟨h1,h2⟩,h3⟩:=(fJ so).mp h
   rcases h3 with h3 | h3 | h3
   ·obtain ⟨rfl,rfl⟩:=aL h3
    have:=((gM s h1.1 h1.2.1).mp sd).2
    omega
   ·obtain ⟨rfl,rfl⟩:=aL h3
    have:=(sd.2.2.2 b (Vq _ h1.2.1)).1
    have:=mL v b u
    omega
   ·obtain ⟨rfl,rfl⟩:=aL h3
    have:=(sd.2.2.2 a (Vq _ h1.1)).1
    have:=iN a u v
    omega
 ·intro u v sd
  by_cases fl:Flat (Q ++ [p])
  ·exact .inl (u5 s fl sd)
  ·right
   obtain ⟨a0,b0,h0,s0⟩:=u0 s fl
   obtain ⟨⟨a1,b1,k1,SK⟩,a2,b2,k2,SM⟩:=Eo so s.zW ((bq so).mpr ⟨h0,s0⟩)
   rcases dO sd.1 with mu | rfl
   ·rcases dO sd.2.1 with mv | rfl
    ·obtain ⟨PY,ge⟩:=(gM s mu mv).mp sd
     rcases c.has u v PY with k | k
     ·have fq:=pA PY k
      have nz:tw u v p≠0:=fun z=>fl (k9 PY.2.2.1 fun q hq=>by
       rcases dO hq with hq | rfl
       ·exact fq u mu v mv q hq
       ·exact z)
      exact (mem _).mpr (.inr ((fJ so).mpr ⟨v,u,⟨k,by have:=bU u v p;omega⟩,.inl rfl⟩))
     ·exact (mem _).mpr (.inl k)
    ·have:=Em s sd (rY s k1.1 k1.2 SK)
     subst this
     exact (mem _).mpr (.inr ((fJ so).mpr ⟨u,b1,k1,.inr (.inl rfl)⟩))
   ·have:=Ib s sd (yo s k2.1 k2.2 SM)
    subst this
    exact (mem _).mpr (.inr ((fJ so).mpr ⟨a2,v,k2,.inr (.inr rfl)⟩))
end
end L3
namespace L3
theorem pB {v w x y:Pl} (h: [v,w].Perm [x,y]):(v=x∧w=y)∨(v=y∧w=x):=by
 have m:v∈[x,y]:=h.mem_iff.mp (by simp)
 simp only [Vl,VY,or_false] at m
 rcases m with rfl | rfl
 ·have:=List.Perm.cons_inv h
  exact .inl ⟨rfl,by simpa using this⟩
 ·have:=List.Perm.cons_inv (h.trans (List.Perm.swap v x []))
  exact .inr ⟨rfl,by simpa using this⟩
theorem GP {a b p:Pl} (h:tw a b p < 0):(dh (tV a b p)).Perm [[b,a],[a,p],[p,b]]:=by
 obtain ⟨⟨u,v,w,e,_,_,pos⟩,pm⟩:=vU (a:=a) (b:=b) (c:=p) (by omega)
 rw [e] at pm ⊢
 have m:u∈[a,b,p]:=pm.mem_iff.mp (by simp)
 simp only [Vl,VY,or_false] at m
 rcases m with rfl | rfl | rfl
 ·rcases pB (List.Perm.cons_inv pm) with ⟨rfl,rfl⟩ | ⟨rfl,rfl⟩
  ·omega
  ·show ([[u,v],[v,w],[w,u]]:List (List Pl)).Perm [[w,u],[u,v],[v,w]]
   exact VR (l₁:=[[u,v],[v,w]]) (l₂:=[[w,u]])
 ·rcases pB (List.Perm.cons_inv (pm.trans (List.Perm.swap u a [p]))) with ⟨rfl,rfl⟩ | ⟨rfl,rfl⟩
  ·exact .refl _
  ·have:=iN w u v
   omega
 ·rcases pB (List.Perm.cons_inv (pm.trans (VR (l₁:=[a,b]) (l₂:=[u])))) with ⟨rfl,rfl⟩ | ⟨rfl,rfl⟩
  ·have:=mL v w u
   omega
  ·show ([[u,v],[v,w],[w,u]]:List (List Pl)).Perm [[v,w],[w,u],[u,v]]
   exact VR (l₁:=[[u,v]]) (l₂:=[[v,w],[w,u]])
def Ep (p:Pl) (w:List Pl):List Pl:=tV (t7 w) (wm w) p
def yr (qs:List Pl) (k:Nat):Pl:=qs.getD k ⟨0,0⟩
def qm (qs:List Pl):Nat→List (List Pl)
 | 0=>[]
 | k+1=>qm qs k ++ (bZ (qs.take k) (yr qs k)).map (Ep (yr qs k))
theorem Er (xs ys:List (List Pl)):aU (xs ++ ys)=aU xs ++ aU ys:=XA
theorem u6 {α β:Type} {f g:α→List β}:∀ {l:List α},(∀ x∈l,(f x).Perm (g x))→(l.flatMap f).Perm (l.flatMap g)
 | [],_=> .refl _
 | a :: l,h=>by
   rw [Wl,Wl]
   exact (h a (by simp)).append (u6 fun x hx=>h x (Vj _ hx))
theorem Es {Q:List Pl} {p:Pl} (s:cE Q):(aU ((bZ Q p).map (Ep p))).Perm (newD Q p):=by
 unfold aU newD
 rw [List.flatMap_map]
 refine u6 fun w hw=>?_
 obtain ⟨a,b,rfl⟩:=b8 hw
 exact GP ((bq s).mp hw).2
theorem pC {qs:List Pl} {k:Nat} (h:k < qs.length):qs.take (k+1)=qs.take k ++ [yr qs k]:=by
 rw [W6,Vn h]
 unfold yr
 rw [VX,Vn h]
 rfl
theorem cE.take {qs:List Pl} (s:cE qs) (k:Nat):cE (qs.take k):=⟨s.1.sublist (Ys _ _),fun q hq=>s.2 q (WD hq)⟩
theorem Bf {qs:List Pl} (s:cE qs):∀ k,k≤qs.length→zY (qs.take k) (aU (qm qs k))
 | 0,_=>zY.nil (by simp)
 | k+1,h=>by
   have st:=s.take (k+1)
   rw [pC (by omega)] at st ⊢
   refine zY.step st (Bf s k (by omega)) ?_
   show (aU (qm qs k ++ _)).Perm _
   rw [Er]
   exact (List.Perm.refl _).append (Es st.old)
theorem GQ {a b p q:Pl} (h:tw a b p < 0) (hq:q=a∨q=b∨q=p):q∈tV a b p:=(vU (a:=a) (b:=b) (c:=p) (by omega)).2.mem_iff.mpr (by simpa using hq)
theorem se {qs:List Pl} (s:cE qs):∀ k,k≤qs.length→¬ Flat (qs.take k)→∀ q∈qs.take k,∃ t∈qm qs k,q∈t
 | 0,_,nf,_,_=>absurd (gK (by simp)) nf
 | k+1,h,nf,q,hq=>by
   have st:=s.take (k+1)
   rw [pC (by omega)] at st nf hq
   have so:=st.old
   have put:∀ a b,aO (qs.take k) a b→tw a b (yr qs k) < 0→(q=a∨q=b∨q=yr qs k)→∃ t∈qm qs (k+1),q∈t:=fun a b h1 h2 e=>
    ⟨Ep (yr qs k) [a,b],Vw _ (VJ.mpr ⟨[a,b],(bq so).mpr ⟨h1,h2⟩,rfl⟩),GQ h2 e⟩
   rcases dO hq with hq | rfl
   ·by_cases fl:Flat (qs.take k)
    ·obtain ⟨r,hr,ne⟩:∃ r∈qs.take k,r≠q:=by
      apply Vi
      intro no
      refine nf (yp ?_)
      have:=o7 (l:=qs.take k) (m:=[q]) (so.1.imp fun h=>j4 h) (fun x hx=>by
       apply Vi
       intro z
       exact no ⟨x,hx,fun e=>z (by rw [e];simp)⟩)
      rw [VA]
      simp at this ⊢
      omega
     obtain ⟨c,hc,nc,_,MI⟩:=wj so hq hr ne
     have sd:aO (qs.take k) q c:=lg so fl hq hc (Ne.symm nc) fun z hz w=>MI z hz w
     have nz:tw q c (yr qs k)≠0:=fun z=>nf (k9 (Ne.symm nc) fun r hr=>by
      rcases dO hr with hr | rfl
      ·exact fl q hq c hc r hr
      ·exact z)
     rcases Wg nz with z | z
     ·exact put q c sd z (.inl rfl)
     ·exact put c q (u5 so fl sd) (by have:=bU q c (yr qs k);omega) (.inr (.inl rfl))
    ·obtain ⟨t,ht,m⟩:=se s k (by omega) fl q hq
     exact ⟨t,Vq _ ht,m⟩
   ·obtain ⟨a,b,h1,h2⟩:=u0 st nf
    exact put a b h1 h2 (.inr (.inr rfl))
theorem sub_len {α:Type} [DecidableEq α] {l m:List α} (nd:l.Nodup) (sub:∀ x∈l,x∈m):l.length≤m.length:=by
 induction l generalizing m with
 | nil=>simp
 | cons a l ih=>
   obtain ⟨h1,h2⟩:=VC.mp nd
   have ma:=sub a (Vz ..)
   have:=ih (m:=m.erase a) h2 fun x hx=>(Xu (show x≠a from fun e=>h1 (e▸hx))).mpr (sub x (Vj _ hx))
   rw [Xc ma] at this
   have:0 < m.length:=Xj ma
   rw [VN]
   omega
theorem split_len {α:Type} (f:α→Bool):∀ l:List α,l.length=(l.filter f).length+(l.filter (fun v=>!f v)).length
 | []=>rfl
 | a :: l=>by
   have ih:=split_len f l
   rw [Wz,Wz,VN]
   cases f a with
   | true=>simp;omega
   | false=>simp;omega
theorem GR {Q:List Pl} {p:Pl} (s:cE (Q ++ [p])):(SL (Q ++ [p])).length+(bZ Q p).length≤(SL Q).length+2:=by
 have so:=s.old
 obtain ⟨I,lI,hI⟩:∃ I:List (List Pl),I.length≤1∧∀ u,aO (Q ++ [p]) u p→[u,p]∈I:=by
  by_cases h:∃ u,aO (Q ++ [p]) u p
  ·obtain ⟨u,hu⟩:=h
   exact ⟨[[u,p]],by simp,fun v hv=>by rw [Em s hv hu];simp⟩
  ·exact ⟨[],by simp,fun v hv=>absurd ⟨v,hv⟩ h⟩
 obtain ⟨O,lO,hO⟩:∃ O:List (List Pl),O.length≤1∧∀ u,aO (Q ++ [p]) p u→[p,u]∈O:=by
  by_cases h:∃ u,aO (Q ++ [p]) p u
  ·obtain ⟨u,hu⟩:=h
   exact ⟨[[p,u]],by simp,fun v hv=>by rw [Ib s hv hu];simp⟩
  ·exact ⟨[],by simp,fun v hv=>absurd ⟨v,hv⟩ h⟩
 have sp:=split_len (Fl p) (SL Q)
 have:=sub_len (l:=SL (Q ++ [p])) (m:=(SL Q).filter (fun v=>!Fl p v) ++ (I ++ O)) (kF s) (fun w hw=>by
  obtain ⟨a,b,rfl⟩:=iM hw
  have sd:=(bR s).mp hw
  rcases dO sd.1 with ma | rfl
  ·rcases dO sd.2.1 with mb | rfl
   ·obtain ⟨h1,h2⟩:=(gM s ma mb).mp sd
    refine Vq _ (Vu.mpr ⟨(bR so).mpr h1,?_⟩)
    show (!decide (tw a b p < 0))=true
    rw [decide_eq_false (by omega)]
    rfl
   ·exact Vw _ (Vq _ (hI a sd))
  ·exact Vw _ (Vw _ (hO b sd)))
 rw [VA,VA] at this
 unfold bZ
 omega
theorem Bg {qs:List Pl} (s:cE qs):∀ k,k≤qs.length→∀ t∈qm qs k,ic qs t
 | 0,_,t,ht=>by cases ht
 | k+1,h,t,ht=>by
   rcases Vv.mp ht with ht | ht
   ·exact Bg s k (by omega) t ht
   ·obtain ⟨w,hw,rfl⟩:=VJ.mp ht
    obtain ⟨a,b,rfl⟩:=b8 hw
    obtain ⟨h1,h2⟩:=(bq (s.take k)).mp hw
    obtain ⟨h3,h4⟩:=vU (a:=a) (b:=b) (c:=yr qs k) (by omega)
    refine ⟨h3,fun q hq=>?_⟩
    have:=h4.mem_iff.mp hq
    simp only [Vl,VY,or_false] at this
    rcases this with rfl | rfl | rfl
    ·exact WD h1.1
    ·exact WD h1.2.1
    ·unfold yr
     rw [VX,Vn (by omega)]
     exact XW _
end L3
namespace L3
def SN (a b c:Pl):Prop:=aI (lo a b) c∧aI c (hi a b)∧tw a b c=0
instance (a b c:Pl):Decidable (SN a b c):=inferInstanceAs (Decidable (_∧_))
def SO (a b c d:Pl):Prop:=(tw a b c).sign*(tw a b d).sign= -1∧(tw c d a).sign*(tw c d b).sign= -1
instance (a b c d:Pl):Decidable (SO a b c d):=inferInstanceAs (Decidable (_∧_))
end L3
namespace L3
open PySem L2
end L3
namespace PySem.SetTable
def PZ:Nat→SetTable→Probe→Probe
 | 0,_,p=>p
 | k+1,t,p=>PZ k t (t.advance p)
theorem len_sub {α:Type} [DecidableEq α] {l m:List α} (nd:l.Nodup) (sub:∀ x∈l,x∈m):l.length≤m.length:=by
 induction l generalizing m with
 | nil=>simp
 | cons a l ih=>
   obtain ⟨h1,h2⟩:=VC.mp nd
   have ma:=sub a (Vz ..)
   have:=ih (m:=m.erase a) h2 fun x hx=>(Xu (show x≠a from fun e=>h1 (e▸hx))).mpr (sub x (Vj _ hx))
   rw [Xc ma] at this
   have:0 < m.length:=Xj ma
   rw [VN]
   omega
def JU (mask:Nat):Prop:=mask=7∨mask=31∨mask=127∨mask=511
def Good (t:SetTable) (n:Nat):Prop:=t.place.size=n∧t.dummies= #[]∧JU t.mask∧n*5 < t.mask*3
def live (mask:Nat) (owner:Array (Option Nat)):List (Nat ×Nat):=(List.range (mask+1)).filterMap fun j=>(owner.getD j none).map (j,·)
def Own (mask:Nat) (owner:Array (Option Nat)) (k:Nat):Prop:=owner.size=mask+1∧(live mask owner).length=k∧∀ (j v:Nat),owner[j]?=some (some v)→v < k
end PySem.SetTable
namespace PySem
open SetTable
structure fK (prog:Program) (w:World) (κ:Type) where
 is:Heap→κ→Addr→Prop
 hash:κ→Int
 draws:κ→Nat
 room:Around→Prop
 typ:∀ {s:Shared} {k:κ} {a:Addr},is s.heap k a→s.TypeIs (.ref a) "tuple"
 keeps:∀ {h h':Heap} {k:κ} {a:Addr},is h k a→(∀ b o,h.get? b=some o→o.cls= .type "tuple"→h'.get? b=some o)→is h' k a
 pyHash:∀ {A:Around} {E:Value→Shared→Prop} {s:Shared} {k:κ} {a:Addr} {Q:Int→Shared→Prop},room A→is s.heap k a→Q (hash k) { s with toks:=s.toks+draws k }→wpAny (model prog w) A (pyHash (.ref a)) Q E s
 other:∀ {A:Around} {E:Value→Shared→Prop} {s:Shared} {k l:κ} {a b:Addr} {Q:Bool→Shared→Prop},room A→is s.heap k a→is s.heap l b→k≠l→Q false s→wpAny (model prog w) A (eqBool (.ref a) (.ref b)) Q E s
 quiet:∀ {A:Around} {E:Value→Shared→Prop} {s:Shared} {k:κ} {a:Addr} {Q:Bool→Shared→Prop},is s.heap k a→Q true s→wpAny (model prog w) A (eqIsQuiet 8 (.ref a)) Q E s
 Bh:∀ {A:Around} {E:Value→Shared→Prop} {s:Shared} {k:κ} {a:Addr} {Q:Bool→Shared→Prop},is s.heap k a→Q false s→wpAny (model prog w) A (ofAClassStatement 8 (.ref a)) Q E s
 Ic:∀ {A:Around} {E:Value→Shared→Prop} {s:Shared} {k:κ} {a:Addr} {Q:Bool→Shared→Prop},is s.heap k a→Q true s→wpAny (model prog w) A (hashByValue 8 (.ref a)) Q E s
section
variable {prog:Program} {w:World} {κ:Type} {T:fK prog w κ} {A:Around} {E:Value→Shared→Prop} {s:Shared}
end
end PySem
namespace PySem
open SetTable
section
variable {prog:Program} {w:World} {κ:Type} {T:fK prog w κ} {A:Around} {R:Result→Shared→Prop} {I:Addr} {fp wr:List Addr} {G:Array GenState→Array GenState→Prop} {n:Nat} {P:Nat→Value→Prop} {St:Nat→Shared→Prop}
end
section
variable {prog:Program} {w:World} {κ:Type} {T:fK prog w κ} {A:Around} {E:Value→Shared→Prop} {s:Shared}
end
end PySem
namespace PySem
open SetTable
section
variable {prog:Program} {w:World} {A:Around} {E:Value→Shared→Prop} {s:Shared}
end
end PySem
namespace L3
open PySem PySem.Spec PyProof.Rows L2
section
variable {X:Cx} {pos:Pos}
end
end L3
namespace PySem
open SetTable
section
variable (prog:Program) (w:World)
inductive b9 (h:Heap):List (List Int)→List Value→Prop
 | nil:b9 h [] []
 | cons {k:List Int} {b:Addr} {ks:List (List Int)} {vs:List Value}:IsTupleKey (intKind prog w) h k b→b9 h ks vs→b9 h (k :: ks) (.ref b :: vs)
def dP (h:Heap) (ks:List (List Int)) (a:Addr):Prop:= ∃ o items n,h.get? a=some o∧o.cls= .type "tuple"∧o.data= .seq items n∧b9 prog w h ks items.toList
end
section
variable {prog:Program} {w:World}
theorem dP.typ {s:Shared} {ks:List (List Int)} {a:Addr} (x:dP prog w s.heap ks a):s.TypeIs (.ref a) "tuple" :=let ⟨o,_,_,ho,hc,_⟩:=x;⟨o,ho,hc⟩
variable {A:Around} {E:Value→Shared→Prop} {s:Shared}
def zZ (ks:List (List Int)):Nat:=(ks.map fun k=>k.length+1).sum+1
def Et (prog:Program) (w:World) (ks:List (List Int)):Int:=reduceHash (Builtin.Tuple.tupleHashOf (ks.map (tupleKeyHash (intKind prog w))))
theorem Co {ks:List (List Int)} {a:Addr} {Q:Int→Shared→Prop} (hu:A.units+8 < cLine) (hk:dP prog w s.heap ks a) (h:Q (Et prog w ks) { s with toks:=s.toks+zZ ks }) :
 wpAny (model prog w) A (pyHash (.ref a)) Q E s:=by
 have hT:=hk.typ
 obtain ⟨o,items,n,ho,_,hd,hi⟩:=hk
 unfold pyHash pyHashByItsType
 refine wpAny_bind (wpAny_cRoomFor_or (.inr (by omega)) ?_)
 refine wpAny_bind (wpAny_specialOf hT F.slot_tuple_hash.lookup ?_)
 refine (?_:wpAny _ _ (if (some (Value.builtin "tuple.__hash__") == some Value.none)=true then _ else _) Q E s)
 rw [if_neg (by rw [beq_builtin_none];exact Vx)]
 refine wpAny_bind (wpAny_specialOf hT F.slot_tuple_hash.lookup ?_)
 refine (?_:wpAny _ _ (callSpecialIfBoundUnlessNone? (.ref a) "__hash__" _ >>= _) Q E s)
 refine wpAny_bind (wpAny_callSpecialIfBoundUnlessNone?_slot hT F.slot_tuple_hash (wpAny_call_entry F.slot_tuple_hash hT F.entry_tuple_hash ?_ (F.args_tuple_hash_1 _)))
 refine (?_:wpAny _ _ (Builtin.Tuple.tupleItemsOf (.ref a) >>= _) _ _ s)
 refine wpAny_bind (wpAny_tupleItemsOf ho hd (wpAny_bind ?_))
 rw [← Array.forIn_toList]
 refine wpAny_forIn_list _ (fun rest (b:Array Int) s'=> ∃ done left,ks=done ++ left∧b9 prog w s.heap left rest∧b.toList=done.map (tupleKeyHash (intKind prog w))∧s'= { s with toks:=s.toks+(done.map fun k=>k.length+1).sum }) _ ?_ ?_ _ _ ⟨[],ks,rfl,hi,rfl,rfl⟩
 ·rintro x rest b s' ⟨done,left,rfl,hl,hb,rfl⟩
  cases hl with
  | @cons k c ks' _ h1 hl'=>
    refine wpAny_bind (wpAny_pyHash_tuple (s:={ s with toks:=s.toks+(done.map fun k=>k.length+1).sum }) (by show A.units+1 < cLine;omega) h1 ?_)
    have fin:∃ Eu Ie,done ++ k :: ks'=Eu ++ Ie∧b9 prog w s.heap Ie rest∧(b.push (tupleKeyHash (intKind prog w) k)).toList=Eu.map (tupleKeyHash (intKind prog w))∧
     ({ s with toks:=s.toks+(done.map fun k=>k.length+1).sum+(k.length+1) }:Shared)= { s with toks:=s.toks+(Eu.map fun k=>k.length+1).sum }:=
     ⟨done ++ [k],ks',by simp,hl',by simp [hb],by simp [Yk]⟩
    first
     | exact wpAny_pure fin
     | exact wpAny_bind (wpAny_pure (wpAny_pure fin))
 ·rintro b s' ⟨done,left,rfl,hl,hb,rfl⟩
  cases hl
  rw [WE] at h
  refine (?_:wpAny _ _ (retInt (Builtin.Tuple.tupleHashOf b.toList)) _ _ _)
  rw [hb]
  refine wpAny_ret_mkInt ?_
  unfold Et reduceHash zZ at h
  generalize Builtin.Tuple.tupleHashOf (done.map (tupleKeyHash (intKind prog w)))=z at h ⊢
  refine (?_:wpAny _ _ (if (decide (-(2:Int) ^ 63≤z) && decide (z < 2 ^ 63))=true then _ else _) Q E _)
  by_cases c:(decide (-(2:Int) ^ 63≤z) && decide (z < 2 ^ 63))=true
  ·rw [if_pos c] at h ⊢
   exact wpAny_pure (by simpa [Yk] using h)
  ·rw [if_neg c] at h ⊢
   exact wpAny_bind (wpAny_rule (wpAny_pure (by simpa [Yk] using h)))
theorem yt {x y:List (List Int)} {a b:Addr} {P:Fin→Shared→Prop} (hu:A.units+4 < cLine) (hx:dP prog w s.heap x a) (hy:dP prog w s.heap y b) (h:P (.done (.ret (.bool (decide (x=y))))) s) :
 wpAny (model prog w) A (Builtin.«tuple.__eq__» ⟨[.ref a,.ref b],[]⟩) P E s:=by
 have hTb:=hy.typ
 obtain ⟨oa,xs,na,hoa,_,hda,SQ⟩:=hx
 obtain ⟨ob,ys,nb,hob,_,hdb,hib⟩:=hy
 refine (?_:wpAny _ _ (isInstance (.ref b) (.type "tuple") >>= _) _ _ s)
 refine wpAny_bind (wpAny_isInstance hTb isSubtype_tuple_tuple ?_)
 simp only [V9,Vt,if_false]
 refine wpAny_bind (wpAny_tupleItemsOf hoa hda (wpAny_bind (wpAny_tupleItemsOf hob hdb (wpAny_bind ?_))))
 refine wpAny_forIn_list _ (fun rest r s'=>r.1=none∧s'=s∧∃ x' y' us vs,rest=List.zip us vs∧b9 prog w s.heap x' us∧b9 prog w s.heap y' vs∧decide (x'=y')=decide (x=y)∧(us.length == vs.length)=(xs.size == ys.size)) _ ?_ ?_ _ _ ⟨rfl,rfl,x,y,xs.toList,ys.toList,rfl,SQ,hib,rfl,by simp⟩
 ·rintro ⟨u,v⟩ rest r s' ⟨hr,rfl,x',y',us,vs,hz,hx',hy',GS,hlen⟩
  cases hx' with
  | nil=>simp at hz
  | @cons k1 c1 Q8 us' h1 P0=>
    cases hy' with
    | nil=>simp at hz
    | @cons k2 c2 Q9 vs' h2 P4=>
      simp only [WB,List.cons.injEq,Prod.mk.injEq] at hz
      obtain ⟨⟨rfl,rfl⟩,rfl⟩:=hz
      refine wpAny_bind (wpAny_eqBool_tuple (by omega) h1 h2 ?_)
      by_cases hk:k1=k2
      ·subst hk
       rw [decide_eq_true rfl]
       simp only [V9,Vt,if_false]
       refine wpAny_pure ⟨rfl,rfl,Q8,Q9,us',vs',rfl,P0,P4,?_,by simpa using hlen⟩
       rw [← GS]
       by_cases c:Q8=Q9 <;> simp [c]
      ·rw [decide_eq_false hk]
       simp only [WH,if_true]
       rw [show decide (x=y)=false by rw [← GS];simp [hk]] at h
       exact wpAny_bind (wpAny_pure (wpAny_pure (wpAny_pure h)))
 ·rintro ⟨r1,r2⟩ s' ⟨hr,rfl,x',y',us,vs,hz,hx',hy',GS,hlen⟩
  simp only at hr
  subst hr
  refine wpAny_pure ?_
  have P5:(xs.size == ys.size)=decide (x=y):=by
   rw [← GS,← hlen]
   cases hx' with
   | nil=>cases hy' <;> simp
   | cons _ _=>
     cases hy' with
     | nil=>simp
     | cons _ _=>simp at hz
  refine (?_:P (.done (.ret (.bool (xs.size == ys.size)))) s')
  rw [P5]
  exact h
theorem b9.inj {h:Heap} {x y:List (List Int)} {vs:List Value} (hx:b9 prog w h x vs) (hy:b9 prog w h y vs):x=y:=by
 induction hx generalizing y with
 | nil=>cases hy;rfl
 | cons h1 _ ih=>
   cases hy with
   | cons h2 t2=>rw [h1.inj h2,ih t2]
theorem dP.inj {h:Heap} {a:Addr} {x y:List (List Int)} (hx:dP prog w h x a) (hy:dP prog w h y a):x=y:=by
 obtain ⟨o,items,n,ho,_,hd,hi⟩:=hx
 obtain ⟨o',items',n',ho',_,hd',hi'⟩:=hy
 rw [ho] at ho'
 cases ho'
 rw [hd] at hd'
 injection hd' with h1 _
 subst h1
 exact hi.inj hi'
theorem JV {x y:List (List Int)} {a b:Addr} {Q:Bool→Shared→Prop} (hu:A.units+8 < cLine) (hx:dP prog w s.heap x a) (hy:dP prog w s.heap y b) (ne:x≠y) (h:Q false s) :
 wpAny (model prog w) A (eqBool (.ref a) (.ref b)) Q E s:=by
 unfold eqBool
 try with_reducible refine wpAny_holding ?_
 refine (?_:wpAny _ _ (if (Value.ref a == Value.ref b)=true then _ else _) Q E s)
 by_cases hab:(Value.ref a == Value.ref b)=true
 ·have e:a=b:=by have:=eq_of_beq hab;injection this
  subst e
  exact absurd (hx.inj hy) ne
 ·rw [if_neg hab]
  exact wpAny_bind (wpAny_richCompare_same_room (op:= .Eq) hx.typ hy.typ F.slot_tuple_eq
   (wpAny_call_entry F.slot_tuple_eq hx.typ F.entry_tuple_eq (yt (by show A.units+1+4 < cLine;omega) hx hy (by rw [decide_eq_false ne];exact ⟨_,rfl,(fun e=>nomatch e),wpAny_truthy_bool h⟩)) (F.args_tuple_eq_2 _ _)) (by omega))
theorem Ew (d:Nat) {k:List Int} {a:Addr} {Q:Bool→Shared→Prop} (hx:IsTupleKey (intKind prog w) s.heap k a) (q:Q true s):wpAny (model prog w) A (eqIsQuiet (d+1) (.ref a)) Q E s:=by
 have hT:=hx.typeIs
 obtain ⟨o,items,n,ho,_,hd,hi⟩:=hx
 unfold eqIsQuiet
 refine wpAny_bind (wpAny_specialOf hT F.slot_tuple_eq.lookup ?_)
 refine (?_:wpAny _ _ (isInstance (.ref a) (.type "tuple") >>= _) _ _ s)
 refine wpAny_bind (wpAny_isInstance hT isSubtype_tuple_tuple ?_)
 simp only [V9,Vt,if_false]
 refine wpAny_bind (wpAny_seqItems ho hd (wpAny_bind ?_))
 refine (?_:wpAny _ _ (forIn items _ _) _ _ s)
 rw [← Array.forIn_toList]
 refine wpAny_forIn_list _ (fun rest r s'=>r.1=none∧s'=s∧∀ v∈rest,carriedByValue v=true) _ ?_ ?_ _ _ ⟨rfl,rfl,hi.byValue⟩
 ·rintro v rest r s' ⟨hr,rfl,hall⟩
  rw [eqIsQuiet_byValue _ (hall v Vz)]
  refine wpAny_bind (wpAny_pure ?_)
  simp only [V9,Vt,if_false]
  exact wpAny_pure ⟨rfl,rfl,fun u ia=>hall u (Vj _ ia)⟩
 ·rintro ⟨r1,r2⟩ s' ⟨hr,rfl,_⟩
  simp only at hr
  subst hr
  exact wpAny_pure q
theorem b9.all {h:Heap} {x:List (List Int)} {vs:List Value} (hx:b9 prog w h x vs):∀ v∈vs,∃ b k,v= .ref b∧IsTupleKey (intKind prog w) h k b:=by
 induction hx with
 | nil=>intro v hv;cases hv
 | cons h1 _ ih=>
   intro v hv
   rcases Vl.mp hv with rfl | hv
   ·exact ⟨_,_,rfl,h1⟩
   ·exact ih v hv
theorem JW {k:List (List Int)} {a:Addr} {Q:Bool→Shared→Prop} (hx:dP prog w s.heap k a) (q:Q true s):wpAny (model prog w) A (eqIsQuiet 8 (.ref a)) Q E s:=by
 have hT:=hx.typ
 obtain ⟨o,items,n,ho,_,hd,hi⟩:=hx
 unfold eqIsQuiet
 refine wpAny_bind (wpAny_specialOf hT F.slot_tuple_eq.lookup ?_)
 refine (?_:wpAny _ _ (isInstance (.ref a) (.type "tuple") >>= _) _ _ s)
 refine wpAny_bind (wpAny_isInstance hT isSubtype_tuple_tuple ?_)
 simp only [V9,Vt,if_false]
 refine wpAny_bind (wpAny_seqItems ho hd (wpAny_bind ?_))
 refine (?_:wpAny _ _ (forIn items _ _) _ _ s)
 rw [← Array.forIn_toList]
 refine wpAny_forIn_list _ (fun rest r s'=>r.1=none∧s'=s∧∀ v∈rest,∃ b k,v=Value.ref b∧IsTupleKey (intKind prog w) s.heap k b) _ ?_ ?_ _ _ ⟨rfl,rfl,hi.all⟩
 ·rintro v rest r s' ⟨hr,rfl,hall⟩
  obtain ⟨b,k,rfl,hb⟩:=hall v Vz
  refine wpAny_bind (Ew 6 hb ?_)
  simp only [V9,Vt,if_false]
  exact wpAny_pure ⟨rfl,rfl,fun u ia=>hall u (Vj _ ia)⟩
 ·rintro ⟨r1,r2⟩ s' ⟨hr,rfl,_⟩
  simp only at hr
  subst hr
  exact wpAny_pure q
end
end PySem
namespace L3
open PySem PySem.Spec PyProof.Rows L2
def kG (w:List Pl):List (List Int):=w.map fun p=>[p.x,p.y]
section
variable {X:Cx} {pos:Pos}
end
end L3
namespace PySem.SetTable
def MJ (xs:Array Nat):Prop:= ∀ (i j a b:Nat),i < j→xs[i]?=some a→xs[j]?=some b→a < b
def SR (t:SetTable) (j:Nat):Prop:= ∃ i:Nat,t.place[i]?=some j
def Way (t:SetTable) (SS:Nat→Prop) (h:Int) (j:Nat):Prop:= ∃ K,K < 10*turns t.mask∧(PZ K t (t.probeStart h)).j=j∧∀ m,m < K→SS (PZ m t (t.probeStart h)).j
structure Reach (t:SetTable) (es:Array (Int ×Value)):Prop where
 rise:MJ t.place
 at_:∀ (i:Nat) (e:Int ×Value),es[i]?=some e→∃ j,t.place[i]?=some j∧Way t (SR t) e.1 j
def P6 (owner:Array (Option Nat)) (x:Nat):Prop:= ∃ v,owner[x]?=some (some v)
structure Laid (t:SetTable) (owner:Array (Option Nat)) (done:List Int):Prop where
 own:Own t.mask owner done.length
 way:∀ (j v:Nat),owner[j]?=some (some v)→∃ h,done[v]?=some h∧Way t (P6 owner) h j
 all:∀ v,v < done.length→∃ j:Nat,owner[j]?=some (some v)
end PySem.SetTable
namespace PySem
open SetTable
structure NK {prog:Program} {w:World} {κ:Type} (T:fK prog w κ):Prop where
 same:∀ {A:Around} {E:Value→Shared→Prop} {s:Shared} {k:κ} {a b:Addr} {Q:Bool→Shared→Prop},T.room A→T.is s.heap k a→T.is s.heap k b→Q true s→wpAny (model prog w) A (eqBool (.ref a) (.ref b)) Q E s
section
variable {prog:Program} {w:World} {κ:Type} {T:fK prog w κ} {A:Around} {E:Value→Shared→Prop} {s:Shared}
end
end PySem
namespace PySem
open SetTable
section
variable {prog:Program} {w:World} {κ:Type} {T:fK prog w κ} {A:Around} {R:Result→Shared→Prop} {I:Addr} {fp wr:List Addr} {G:Array GenState→Array GenState→Prop} {n:Nat} {P:Nat→Value→Prop} {St:Nat→Shared→Prop}
end
section
variable {prog:Program} {w:World} {κ:Type} {T:fK prog w κ} {A:Around} {E:Value→Shared→Prop} {s:Shared}
end
end PySem
namespace PySem
open SetTable
namespace F
end F
structure SV (w:World) (h:Heap) (S:Addr) (es:Array (Int ×Value)) (ep:Nat) (t:SetTable):Prop where
 at':∃ o,h.get? S=some o∧o.ExactSet∧o.data= .set es ep t
 good:t.Good es.size
 rise:MJ t.place
 led:t.led=!(w.params.followText "set-order")
 plain:t.plain=true
section
variable {prog:Program} {w:World} {A:Around} {E:Value→Shared→Prop} {s:Shared} {I S:Addr} {es:Array (Int ×Value)} {ep slot i:Nat} {t:SetTable}
end
end PySem
namespace PySem
open SetTable
section
variable {prog:Program} {w:World} {A:Around} {E:Value→Shared→Prop} {s:Shared} {S:Addr} {es:Array (Int ×Value)} {ep:Nat} {t:SetTable}
end
end PySem
namespace PySem
open SetTable
def fK.only {prog:Program} {w:World} {κ:Type} (T:fK prog w κ) (p:Addr→Prop):fK prog w κ where
 is:=fun h k b=>T.is h k b∧p b
 hash:=T.hash
 draws:=T.draws
 room:=T.room
 typ:=fun x=>T.typ x.1
 keeps:=fun x k=>⟨T.keeps x.1 k,x.2⟩
 pyHash:=fun hu hk h=>T.pyHash hu hk.1 h
 other:=fun hu hx hy ne h=>T.other hu hx.1 hy.1 ne h
 quiet:=fun hk h=>T.quiet hk.1 h
 Bh:=fun hk h=>T.Bh hk.1 h
 Ic:=fun hk h=>T.Ic hk.1 h
theorem MK {prog:Program} {w:World} {A:Around} {E:Value→Shared→Prop} {s:Shared} {x:List (List Int)} {a b:Addr} {Q:Bool→Shared→Prop} (hu:A.units+8 < cLine) (hx:dP prog w s.heap x a) (hy:dP prog w s.heap x b) (h:Q true s) :
 wpAny (model prog w) A (eqBool (.ref a) (.ref b)) Q E s:=by
 unfold eqBool
 try with_reducible refine wpAny_holding ?_
 refine (?_:wpAny _ _ (if (Value.ref a == Value.ref b)=true then _ else _) Q E s)
 by_cases hab:(Value.ref a == Value.ref b)=true
 ·rw [if_pos hab]
  exact (wpAny_pure h:wpAny (model prog w) A (pure true) Q E s)
 ·rw [if_neg hab]
  exact wpAny_bind (wpAny_richCompare_same_room (op:= .Eq) hx.typ hy.typ F.slot_tuple_eq
   (wpAny_call_entry F.slot_tuple_eq hx.typ F.entry_tuple_eq (yt (by show A.units+1+4 < cLine;omega) hx hy (by rw [decide_eq_true rfl];exact ⟨_,rfl,(fun e=>nomatch e),wpAny_truthy_bool h⟩)) (F.args_tuple_eq_2 _ _)) (by omega))
end PySem
namespace L3
open PySem PySem.Spec PyProof.Rows L2
end L3
namespace L3
open PySem PySem.Spec PyProof.Rows L2
section
variable {X:Cx} {pos:Pos}
end
end L3
namespace PySem
theorem b9.JX {prog:Program} {w:World} {h h':Heap} {ks:List (List Int)} {vs:List Value} {d:Addr} {o:Obj} {es:Array DictEntry} {ep:Nat} (x:b9 prog w h ks vs) (ho:h.get? d=some o) (hd:o.data= .dict es ep) (hs:Heap.SameBut d h h'):b9 prog w h' ks vs:=by
 induction x with
 | nil=>exact .nil
 | cons a _ ih=>exact .cons (a.keeps ho hd hs) ih
def kH (prog:Program) (w:World):HeapKind prog w (List (List Int)) where
 is:=dP prog w
 hash:=Et prog w
 draws:=zZ
 room:=fun A=>A.units+8 < cLine
 inj:=fun hx hy=>hx.inj hy
 keeps:=fun {h h' k a d o es ep} x ho hd hs=>by
  obtain ⟨o',items,n,ho',hc,hd',hi⟩:=x
  have hne:a≠d:=by
   rintro rfl
   obtain rfl:o'=o:=Option.some.inj (ho'.symm.trans ho)
   rw [hd] at hd';exact nomatch hd'
  exact ⟨o',items,n,(hs.2 a hne).trans ho',hc,hd',hi.JX ho hd hs⟩
 pyHash:=fun hu hk h=>Co hu hk h
 eqBool:=fun {A E s x y a b Q} hu hx hy h=>by
  by_cases e:x=y
  ·subst e
   rw [decide_eq_true rfl] at h
   exact MK hu hx hy h
  ·rw [decide_eq_false e] at h
   exact JV hu hx hy e h
 quiet:=fun hk h=>JW hk h
def Bj {prog:Program} {w:World} {K:Type} [DecidableEq K] (knd:HeapKind prog w K) (h:Heap) (d:Addr) (xs:List (K ×Addr ×Value)):Prop:= ∃ o es,h.get? d=some o∧o.ExactDict∧o.data= .dict es xs.length∧es.toList=xs.map (entryOfKey knd)
theorem Ex {prog:Program} {w:World} {K:Type} [DecidableEq K] {knd:HeapKind prog w K} {A:Around} {E:Value→Shared→Prop} {s:Shared} {d a:Addr} {k:K} {v:Value} {xs:List (K ×Addr ×Value)} {Q:Unit→Shared→Prop} (hu:knd.room A) (hkey:knd.is s.heap k a) (hl:Bj knd s.heap d xs) (hm:s.heap.DictOfH knd d xs) (hsz:xs.length≤sizeLine)
 (q:∀ h',Bj knd h' d (storedH xs k a v)→Heap.SameBut d s.heap h'→Q () { s with heap:=h',toks:=s.toks+knd.draws k }):wpAny (model prog w) A (dictSet d (.ref a) v) Q E s:=by
 obtain ⟨_,_,_,_,_,_,_,his,hn⟩:=hm
 obtain ⟨o,es,ho,hc,hd,he⟩:=hl
 unfold dictSet
 try with_reducible refine wpAny_holding ?_
 refine wpAny_bind (knd.pyHash hu hkey ?_)
 unfold dictSetHashed
 try with_reducible refine wpAny_holding ?_
 refine wpAny_bind (wpAny_dictFind_heap (s:={ s with toks:=s.toks+knd.draws k }) hu hkey ho hd he his hn (fun no=>?_) fun j p hj=>?_)
 ·have e:=storedH_new (atKey_none_of_get no) a v
  have el:xs.length+1=(storedH xs k a v).length:=by rw [e,VA];rfl
  refine wpAny_bind (wpAny_rule (wpAny_updateDictKeys (hz:=by have e:=size_of_entries he;omega) (s:={ s with toks:=s.toks+knd.draws k }) ho hd (q _ ⟨_,_,Heap.get?_update_self _ ho (Obj.isFreed_of_dict (Obj.data_mapDictKeys hd _)),hc.mapDictKeys _,(Obj.data_mapDictKeys hd _).trans (congrArg (fun n=>Data.dict _ n) el),?_⟩ (Heap.SameBut.update ..))))
  rw [e]
  simp [he,entryOfKey]
 ·have e:=storedH_old (atKey_of_get hn hj) a v
  have el:xs.length=(storedH xs k a v).length:=by rw [e,Vk]
  refine wpAny_bind (wpAny_rule (wpAny_bind (wpAny_updateDict (s:={ s with toks:=s.toks+knd.draws k }) ho hd (wpAny_point (q _ ⟨_,_,Heap.get?_update_self _ ho (Obj.isFreed_of_dict (Obj.data_mapDict hd _)),hc.mapDict _,(Obj.data_mapDict hd _).trans (congrArg (fun n=>Data.dict _ n) el),?_⟩ (Heap.SameBut.update ..))))))
  rw [e]
  have:=modify_map_putAt (entryOfKey knd) (fun e:DictEntry=>{ e with val:=v }) k v (fun _ _=>rfl) hn hj
  rw [← he] at this
  obtain ⟨l⟩:=es
  simpa using this
theorem yv {prog:Program} {w:World} {K:Type} [DecidableEq K] {knd:HeapKind prog w K} {A:Around} {E:Value→Shared→Prop} {s:Shared} {d a:Addr} {k:K} {v:Value} {xs:List (K ×Addr ×Value)} {Q:Unit→Shared→Prop} (hu:knd.room A.in1) (hkey:knd.is s.heap k a) (hl:Bj knd s.heap d xs) (hm:s.heap.DictOfH knd d xs) (hsz:xs.length≤sizeLine)
 (q:∀ h',Bj knd h' d (storedH xs k a v)→Heap.SameBut d s.heap h'→Q () { s with heap:=h',toks:=s.toks+knd.draws k }):wpAny (model prog w) A (setItem (.ref d) (.ref a) v) Q E s:=by
 unfold setItem
 try with_reducible refine wpAny_holding ?_
 refine wpAny_bind (wpAny_sequenceKey hm.typeIs (by decide) (wpAny_bind (wpAny_callSpecial?_slot (name:=Str.ofString "__setitem__") hm.typeIs slot_dict_setitem (wpAny_call_entry slot_dict_setitem hm.typeIs entry_dict_setitem ?_ (args_dict_setitem _ _ _)))))
 show wpAny _ _ (Builtin.Dict.notOrdered "__setitem__" ⟨[.ref d,.ref a,v],[]⟩ >>= _) _ _ s
 refine wpAny_bind (wpAny_notOrdered_dict hm.typeIs ?_)
 show wpAny _ _ (dictSet d (.ref a) v >>= _) _ _ s
 exact wpAny_bind (Ex hu hkey hl hm hsz fun h' l m=>wpAny_pure ⟨.none,rfl,wpAny_pure (q h' l m)⟩)
theorem sj {prog:Program} {w:World} {K:Type} [DecidableEq K] {knd:HeapKind prog w K} {A:Around} {E:Value→Shared→Prop} {s:Shared} {d a:Addr} {k:K} {xs:List (K ×Addr ×Value)} {Q:Value→Shared→Prop} (hu:knd.room A.in1) (hkey:knd.is s.heap k a) (hd:(d == sysModules)=false) (hm:s.heap.DictOfH knd d xs)
 (h:Q (.bool (!(atKey xs k).isSome)) { s with toks:=s.toks+knd.draws k }):wpAny (model prog w) A (compareOp .NotIn (.ref a) (.ref d)) Q E s:=by
 show wpAny _ _ (do return .bool (!(← contains (.ref d) (.ref a)))) Q E s
 refine wpAny_bind ?_
 unfold contains
 try with_reducible refine wpAny_holding ?_
 refine wpAny_bind (wpAny_specialOf hm.typeIs slot_dict_contains.lookup ?_)
 show wpAny _ _ (if (some (Value.builtin "dict.__contains__") == some Value.none)=true then _ else _) _ E s
 rw [if_neg (by rw [beq_builtin_none];exact Vx)]
 refine wpAny_bind (wpAny_callSpecialUnlessNone?_slot (name:=Str.ofString "__contains__") hm.typeIs slot_dict_contains
  (wpAny_call_entry slot_dict_contains hm.typeIs entry_dict_contains ?_ (args_dict_contains _ _)))
 show wpAny _ _ (dictGet d (.ref a) >>= _) _ _ s
 refine wpAny_bind (wpAny_dictGet_heap hu hkey hm ?_)
 cases hf:atKey xs k with
 | some p=>
   rw [hf] at h
   show wpAny _ _ (ret (.bool true)) _ _ _
   exact wpAny_pure ⟨_,rfl,wpAny_truthy_bool (wpAny_pure h)⟩
 | none=>
   rw [hf] at h
   show wpAny _ _ (Builtin.Dict.pendingKey? d (.ref a) >>= _) _ _ _
   exact wpAny_bind (wpAny_pendingKey_other hd (wpAny_pure ⟨_,rfl,wpAny_truthy_bool (wpAny_pure h)⟩))
end PySem
namespace L3
open PySem PySem.Spec PyProof.Rows L2
def p9 (kvs:List (List (List Int) ×D)) (k:List (List Int)):Option D:=(kvs.find? fun p=>decide (p.1=k)).map (·.2)
def u7 (kvs:List (List (List Int) ×D)) (k:List (List Int)) (d:D):List (List (List Int) ×D):=if (p9 kvs k).isSome then kvs.map fun p=>if p.1=k then (p.1,d) else p else kvs ++ [(k,d)]
theorem Ey {P:Program} {w:World} {K:PySem.W.Frag} {H:Hp} {h:Heap} (ok:jk P w H h) {l:List Int} {v:V} {u:Value} (d:Dat K H (.tup (l.map .int)) v) (r:RelV v u):∃ b,u= .ref b∧IsTupleKey (intKind P w) h l b:=by
 obtain ⟨a,xs,rfl,ha,hx⟩:=aR.mp d
 obtain rfl:u=Value.ref a:=r
 obtain ⟨its,rv,⟨o,h1,h2,n,h3⟩,hsz⟩:=dN ok ha
 refine ⟨a,rfl,o,its.toArray,n,h1,h2,h3,?_⟩
 rw [WR]
 clear h3 h2 h1 ha d hsz
 induction l generalizing xs its with
 | nil=>
   rw [aH.mp hx] at rv
   cases rv
   exact .nil
 | cons i l ih=>
   obtain ⟨v,vs,rfl,d1,d2⟩:=aA.mp hx
   cases rv with
   | cons r1 r2=>
     obtain rfl:=aP.mp d1
     obtain ⟨t,rfl⟩:=r1
     exact .cons (intKind_is _ _ _ _) (ih _ d2 _ r2)
theorem wu {P:Program} {w:World} {K:PySem.W.Frag} {H:Hp} {h:Heap} (ok:jk P w H h) {k:List (List Int)} {b:Addr} (d:Dat K H (kD k) (.ref b)):dP P w h k b:=by
 obtain ⟨a,xs,e,ha,hx⟩:=aR.mp d
 cases e
 obtain ⟨its,rv,⟨o,h1,h2,n,h3⟩,hsz⟩:=dN ok ha
 refine ⟨o,its.toArray,n,h1,h2,h3,?_⟩
 rw [WR]
 clear h3 h2 h1 ha d hsz
 induction k generalizing xs its with
 | nil=>
   rw [show ([]:List (List Int)).map (fun l=>D.tup (l.map .int))= [] from rfl] at hx
   rw [aH.mp hx] at rv
   cases rv
   exact .nil
 | cons l k ih=>
   rw [VP] at hx
   obtain ⟨v,vs,rfl,d1,d2⟩:=aA.mp hx
   cases rv with
   | cons r1 r2=>
     obtain ⟨b,rfl,q⟩:=Ey ok d1 r1
     exact .cons q (ih _ d2 _ r2)
theorem sr {α β:Type} {F:α→β→Prop}:∀ {l₁:List α} {l₂:List β},Paired F l₁ l₂→∀ y∈l₂,∃ x∈l₁,F x y
 | _,_,.nil,y,m=>by cases m
 | _,_,.cons r t,y,m=>by
   rcases Vl.mp m with rfl | m
   ·exact ⟨_,Vz,r⟩
   ·obtain ⟨x,m1,q⟩:=sr t y m
    exact ⟨x,Vj _ m1,q⟩
theorem gO {α β:Type} {F:α→β→Prop}:∀ {l₁:List α} {l₂:List β},Paired F l₁ l₂→l₁.length=l₂.length
 | _,_,.nil=>rfl
 | _,_,.cons _ t=>by simp [gO t]
theorem Aa {P:Program} {w:World} {K:PySem.W.Frag} {H:Hp} {h:Heap} (ok:jk P w H h) {a:Addr} {xs:DX} {kvs:List (List (List Int) ×D)} (hH:H a=some (.ext (i0 a xs))) (nd:(xs.map (·.1)).Nodup) (pk:Paired (jM K H) kvs xs):h.DictOfH (kH P w) a xs:=by
 obtain ⟨⟨o,es,h1,h2,h3,h4⟩,_⟩:=(show cF P w H h a (.ext (i0 a xs)) from ok a _ hH)
 refine ⟨o,es,_,h1,h2,h3,h4,fun x m=>?_,nd⟩
 obtain ⟨p,_,e,q,_⟩:=sr pk x m
 rw [← e]
 exact wu ok q
theorem nT {K:PySem.W.Frag} {H:Hp} (k:List (List Int)):∀ {kvs:List (List (List Int) ×D)} {xs:DX},Paired (jM K H) kvs xs→(p9 kvs k=none∧atKey xs k=none)∨∃ d p v,p9 kvs k=some d∧atKey xs k=some p∧Dat K H d v∧RelV v p.2
 | _,_,.nil=> .inl ⟨rfl,rfl⟩
 | _,_,.cons (a:=p) (b:=x) r t=>by
   obtain ⟨e,_,v,dv,rv⟩:=r
   unfold p9 atKey
   rw [Yd,Yd,← e]
   by_cases c:p.1=k
   ·rw [decide_eq_true c]
    exact .inr ⟨p.2,x.2,v,rfl,rfl,dv,rv⟩
   ·rw [decide_eq_false c]
    exact nT k t
theorem Ez {K:PySem.W.Frag} {H:Hp} {k:List (List Int)} {a:Addr} {d:D} {v:V} {u:Value} (hk:Dat K H (kD k) (.ref a)) (hd:Dat K H d v) (r:RelV v u) {kvs:List (List (List Int) ×D)} {xs:DX} (pk:Paired (jM K H) kvs xs):Paired (jM K H) (u7 kvs k d) (storedH xs k a u):=by
 have app:∀ {l₁:List (List (List Int) ×D)} {l₂:DX},Paired (jM K H) l₁ l₂→Paired (jM K H) (l₁ ++ [(k,d)]) (l₂ ++ [(k,a,u)]):=by
  intro l₁ l₂ p
  induction p with
  | nil=>exact .cons ⟨rfl,hk,v,hd,r⟩ .nil
  | cons q _ ih=>exact .cons q ih
 have rep:∀ {l₁:List (List (List Int) ×D)} {l₂:DX},Paired (jM K H) l₁ l₂→Paired (jM K H) (l₁.map fun p=>if p.1=k then (p.1,d) else p) (l₂.map (putAt k u)):=by
  intro l₁ l₂ p
  induction p with
  | nil=>exact .nil
  | @cons p x _ _ q _ ih=>
    refine .cons ?_ ih
    obtain ⟨e,q1,q2⟩:=q
    unfold putAt
    dsimp only
    rw [← e]
    by_cases c:p.1=k
    ·rw [if_pos c,if_pos c]
     exact ⟨rfl,q1,v,hd,r⟩
    ·rw [if_neg c,if_neg c]
     exact ⟨e,q1,q2⟩
 unfold u7
 rcases nT k pk with ⟨h1,h2⟩ | ⟨z,p,_,h1,h2,_⟩
 ·rw [h1,storedH_new h2]
  exact app pk
 ·rw [h1,storedH_old h2]
  exact rep pk
section
variable {X:Cx} {pos:Pos} {a b:Expr} {ta tb:cP}
theorem GU {pins:List (Addr ×Obj)} {σ:St} {H:Hp} {s:Shared} (I:Inv X pins σ H s):sysModules < s.heap.objs.size:=Nat.lt_trans (show sysModules < mainGlobals by decide) (I.mod.glob.keeps I.bk).lt
def JY:cP:=fun _ M Q=> ∀ p,M p=none→Q (.ref p) (ay M p (.lJ []))
theorem JZ:cg X (.Dict [] [] pos) JY:=by
 constructor
 intro pins s σ H ρ M Q I r h
 have fr:H s.heap.objs.size=none:=I.hok.fresh (Vr _)
 refine wpAny_Dict_empty ⟨.ref s.heap.objs.size,_,I.laid (a:=s.heap.objs.size) (o:= .ext (i0 s.heap.objs.size [])) (t':=s.toks) (fun _ _ q=>Heap.get?_push_of_some _ q) (Vr _) ⟨⟨_,#[],Heap.get?_push_size _ rfl,⟨rfl,rfl,rfl⟩,rfl,rfl⟩,⟨_,Heap.get?_push_size _ rfl⟩,?_⟩,rfl,.ref _,ay M _ (.lJ []),Fr.new fr fun _ hb=>aE hb,aF.mpr rfl,r.mem.newD fr (beq_eq_false_iff_ne.mpr (Ne.symm (VQ (GU I)))),h _ (r.mem.free fr)⟩
 rintro h1 h2 ⟨o,es,e,q⟩ k
 exact ⟨o,es,k o e,q⟩
def EA (neg:Bool):R3:=fun d e M Q=> ∃ a k kvs,d=kD k∧e= .ref a∧M a=some (.lJ kvs)∧Q (.bl (neg !=(p9 kvs k).isSome)) M
theorem wz {K:PySem.W.Frag} {H:Hp} {k:List (List Int)} {v:V} (d:Dat K H (kD k) v):∃ b,v= .ref b:=by
 obtain ⟨b,_,e,_⟩:=aR.mp d
 exact ⟨b,e⟩
theorem GV (hu:X.A.units+64 < cLine):lK X (compareOp .In) (EA false):=by
 constructor
 intro pins s σ H M x y d e v u Q I rm rx ry dx dy ⟨a,k,kvs,e1,e2,hM,q⟩
 subst e1;subst e2
 obtain ⟨b,rfl⟩:=wz dx
 obtain rfl:=aF.mp dy
 obtain rfl:v=Value.ref b:=rx
 obtain rfl:u=Value.ref a:=ry
 obtain ⟨xs,hH,hy,nd,pk⟩:=rm.lJ hM
 refine wpAny_in_heap (knd:=kH X.prog X.w) (by show X.A.units+1+8 < cLine;omega) (wu I.hok dx) hy (Aa I.hok hH nd pk) ⟨.bl _,H,I.tok _,rfl,aD rm (aV.mpr rfl) ?_⟩
 rcases nT k pk with ⟨h1,h2⟩ | ⟨_,p,_,h1,h2,_⟩
 ·rw [h2];rw [h1] at q;exact q
 ·rw [h2];rw [h1] at q;exact q
theorem Ab (hu:X.A.units+64 < cLine):lK X (compareOp .NotIn) (EA true):=by
 constructor
 intro pins s σ H M x y d e v u Q I rm rx ry dx dy ⟨a,k,kvs,e1,e2,hM,q⟩
 subst e1;subst e2
 obtain ⟨b,rfl⟩:=wz dx
 obtain rfl:=aF.mp dy
 obtain rfl:v=Value.ref b:=rx
 obtain rfl:u=Value.ref a:=ry
 obtain ⟨xs,hH,hy,nd,pk⟩:=rm.lJ hM
 refine sj (knd:=kH X.prog X.w) (by show X.A.units+1+8 < cLine;omega) (wu I.hok dx) hy (Aa I.hok hH nd pk) ⟨.bl _,H,I.tok _,rfl,aD rm (aV.mpr rfl) ?_⟩
 rcases nT k pk with ⟨h1,h2⟩ | ⟨_,p,_,h1,h2,_⟩
 ·rw [h2];rw [h1] at q;exact q
 ·rw [h2];rw [h1] at q;exact q
def ML (K:PySem.W.Frag):FA:=fun x y v H Q=> ∃ (a b:Addr) (xs:DX) (kvs:List (List (List Int) ×D)) (k:List (List Int)),x= .ref a∧y= .ref b∧H a=some (.ext (i0 a xs))∧(xs.map (·.1)).Nodup∧Paired (jM K H) kvs xs∧Dat K H (kD k) (.ref b)∧xs.length≤sizeLine∧
 ∀ u,RelV v u→((storedH xs k b u).map (·.1)).Nodup→Q (upd H a (.ext (i0 a (storedH xs k b u))))
theorem GW (hu:X.A.units+64 < cLine):K5 X (ML X.K):=by
 intro pins s σ H o i v ov iv u Q I ro ri rv hx
 obtain ⟨a,b,xs,kvs,k,e1,e2,hH,nd,pk,dk,hz,q⟩:=hx
 subst e1;subst e2
 obtain rfl:ov=Value.ref a:=ro
 obtain rfl:iv=Value.ref b:=ri
 have dd:=Aa I.hok hH nd pk
 obtain ⟨dl,_⟩:=(show cF X.prog X.w H s.heap a (.ext (i0 a xs)) from I.hok a _ hH)
 have P7:((storedH xs k b u).map (·.1)).Nodup:=by
  unfold storedH
  split
  ·rw [keys_map_putAt];exact nd
  ·rename_i z
   rw [VM,VU]
   refine ⟨nd,by simp,fun x hx y hy e=>?_⟩
   have ey:y=k:=by simpa using hy
   obtain ⟨p,hp,ep⟩:=VJ.mp hx
   have:atKey xs k≠none:=by
    unfold atKey
    intro n
    rw [Option.map_eq_none_iff,List.find?_eq_none] at n
    exact n p hp (by simp [ep,e,ey])
   exact this (by simpa using z)
 refine yv (knd:=kH X.prog X.w) (by show X.A.units+1+8 < cLine;omega) (wu I.hok dk) dl dd hz fun h' SW hs=>?_
 obtain ⟨o,es,g1,g2,g3,g4⟩:=SW
 refine ⟨_,I.write (x:=a) (e:=a) (o:= .ext (i0 a (storedH xs k b u))) (t':=s.toks+(kH X.prog X.w).draws k) (by rw [hH];trivial) (.inl rfl) (fun c z nc e=>(hs.2 c nc).trans e) ⟨o,g1⟩ ⟨⟨o,es,g1,g2,g3,g4⟩,⟨o,g1⟩,?_⟩,q u rv P7⟩
 rintro h1 h2 ⟨o,es,e,q⟩ k
 exact ⟨o,es,k o e,q⟩
def MM (to ti:cP):tO:=fun d ρ M Q=>to ρ M fun o M1=>ti ρ M1 fun i M2=> ∃ l kvs k,o= .ref l∧i=kD k∧M2 l=some (.lJ kvs)∧kvs.length≤1000∧Q ρ (ay M2 l (.lJ (u7 kvs k d)))
theorem J0 (hu:X.A.units+64 < cLine) {o i:Expr} {to ti:cP} {pos:Pos} (ho:cg X o to) (hi:cg X i ti)
 (ha:∀ v,assign (.Subscript o i pos) X.env v=(do
  let ov ← holding [v] (eval o X.env)
  let iv ← holding [v,ov] (eval i X.env)
  standAt pos
  holding [v,ov,iv] (setItem ov iv v)
  release [v,ov,iv] []):=by intro _;rfl):BU X (.Subscript o i pos) (MM to ti):=by
 constructor
 intro pins s σ H ρ M v d u Q I r rv dv q
 refine IK ho.dn hi.dn (GW hu) ha pins s σ H v u _ I rv (dU r q fun x H1 d1 M1 f1 dx r1 q1=>dU r1 q1 fun y H2 d2 M2 f2 dy r2 ⟨l,kvs,k,e1,e2,hM,hz,q2⟩=>?_)
 subst e1 e2
 obtain rfl:=aF.mp dx
 obtain ⟨b,rfl⟩:=wz dy
 obtain ⟨xs,hH,hy,nd,pk⟩:=r2.mem.lJ hM
 have LL:=Dat.mono ((f1.trans f2).ext r.mem) _ _ dv
 have Dv:=f1.trans f2
 refine ⟨l,b,xs,kvs,k,rfl,rfl,hH,nd,pk,dy,by rw [← gO pk,sizeLine_eq];omega,fun u' ru P7=>?_⟩
 have fw:Fr M2 H2 (ay M2 l (.lJ (u7 kvs k d))) (upd H2 l (.ext (i0 l (storedH xs k b u')))):=Fr.write (K:=X.K) hM
 exact ⟨ρ,_,Dv.trans fw,r2.go fw (r2.mem.vI hH hy P7 (Ez dy LL ru pk)),q2⟩
end
end L3
namespace PySem
section
variable {prog:Program} {w:World} {A:Around} {E:Value→Shared→Prop} {s:Shared} {it d:Addr} {i n ep:Nat} {od:Obj} {es:Array DictEntry}
theorem Ac {Q:Value→Shared→Prop} (nm:(d == sysModules)=false) (hT:s.TypeIs (.ref d) "dict") (ho:s.heap.get? d=some od) (hd:od.data= .dict es ep)
 (q:Q (.ref s.heap.objs.size) { s with heap:=s.heap.push { cls:= .type "dict_keyiterator",data:= .fields #[.ref d,.int 0 0,.int es.size 0,.int ep 0] } }):wpAny (model prog w) A (pyIter (.ref d)) Q E s:=by
 refine wpAny_pyIter_slot hT F.slot_dict_iter (wpAny_call_entry F.slot_dict_iter hT F.entry_dict_iter ?_ (F.args_dict_iter_1 _))
 unfold Builtin.«dict.__iter__» Builtin.Dict.dictSlotNone
 refine wpAny_bind (wpAny_bind (wpAny_notOrdered_dict hT (show wpAny _ _ (pure (Value.ref d)) _ _ s from wpAny_pure ?_)))
 show wpAny _ _ (Builtin.Dict.showsAll d >>= _) _ _ s
 unfold Builtin.Dict.showsAll
 rw [if_neg (by rw [nm];exact Vx)]
 refine wpAny_bind (wpAny_pure (wpAny_bind (wpAny_dictEntries ho hd (wpAny_bind (wpAny_dictEpoch ho hd (wpAny_bind (wpAny_newObj_type (wpAny_pure ⟨_,rfl,"dict_keyiterator",_,⟨_,Heap.get?_push_size _ rfl,rfl⟩,F.slot_dict_keyiterator_next.lookup,?_⟩))))))))
 simpa [rawInt] using q
theorem Cp {Q:Option Value→Shared→Prop} {e:DictEntry} (hit:s.heap.IsKeyIter it d i n ep) (hod:s.heap.get? d=some od) (MN:od.data= .dict es ep) (hn:es.size=n) (hx:es[i]?=some e)
 (q:∀ h',h'.IsKeyIter it d (i+1) n ep→Heap.SameBut it s.heap h'→Q (some e.key) { s with heap:=h' }):wpAny (model prog w) A (pyNext (.ref it)) Q E s:=by
 obtain ⟨o,ho,hc,hd⟩:=id hit
 unfold pyNext
 refine wpAny_bind (wpAny_attempt (wpAny_callSpecial?_slot (name:=Str.ofString "__next__") hit.typeIs F.slot_dict_keyiterator_next (wpAny_call_entry F.slot_dict_keyiterator_next hit.typeIs F.entry_dict_keyiterator_next ?_ (F.args_dict_keyiterator_next_1 _))))
 refine wpAny_bind (wpAny_pure (wpAny_bind (wpAny_bind ?_)))
 first | refine wpAny_bind (wpAny_typeNameOfWhole_keyiter hit.typeIs (wpAny_pure ?_)) | refine wpAny_bind (wpAny_typeNameOf_keyiter hit.typeIs (wpAny_pure ?_))
 refine wpAny_bind (wpAny_fieldsOf ho hd ?_)
 simp only [show Builtin.Dict_items.ownsTuple "dict_keyiterator" =false by decide,Vt,if_false]
 show wpAny _ _ (if (Value.ref d == Value.none)=true then _ else _) _ _ s
 rw [if_neg (show ¬ ((Value.ref d == Value.none)=true) from Vx)]
 refine wpAny_bind (wpAny_pure (wpAny_bind (wpAny_dictEntries hod MN ?_)))
 rw [if_neg (by rw [hn];simp)]
 refine wpAny_bind (wpAny_pure (wpAny_bind (wpAny_dictEpoch hod MN ?_)))
 rw [if_neg (by simp)]
 refine wpAny_pure ?_
 simp only [show ¬ ((i:Int) < 0) from by omega,if_false,XH,hx]
 refine wpAny_bind ?_
 first | refine wpAny_bind (wpAny_typeNameOfWhole_keyiter hit.typeIs (wpAny_pure ?_)) | refine wpAny_bind (wpAny_typeNameOf_keyiter hit.typeIs (wpAny_pure ?_))
 refine wpAny_bind (wpAny_isOneOf_keyiter hit.typeIs ?_)
 refine wpAny_bind (show wpAny _ _ (setField (.ref it) 1 (rawInt ((i:Int)+1))) _ _ s from wpAny_setField ho hd (by simp) ?_)
 have MP:(s.heap.update it (Obj.mapFields (·.setIfInBounds 1 (rawInt ((i:Int)+1))))).IsKeyIter it d (i+1) n ep:=
  ⟨_,Heap.get?_update_self _ ho (Obj.isFreed_of_fields (Obj.data_mapFields hd _)),(Obj.cls_mapFields ..).trans hc,by rw [Obj.data_mapFields hd];simp [rawInt]⟩
 refine wpAny_bind (wpAny_holding (wpAny_bind (wpAny_isOneOf_keyiter (s:={ s with heap:=s.heap.update it (Obj.mapFields (·.setIfInBounds 1 (rawInt ((i:Int)+1)))) }) MP.typeIs ?_)))
 exact (show wpAny _ _ (pure e.key) _ _ _ from wpAny_pure (wpAny_pure ⟨_,rfl,wpAny_pure (q _ MP (Heap.SameBut.update ..))⟩))
theorem EB {Q:Option Value→Shared→Prop} (hh:A.handled=none) (hit:s.heap.IsKeyIter it d i n ep) (hod:s.heap.get? d=some od) (MN:od.data= .dict es ep) (hn:es.size=n) (hge:es.size≤i)
 (q:∀ h',Heap.ExtBut it s.heap h'→Q none { s with heap:=h' }):wpAny (model prog w) A (pyNext (.ref it)) Q E s:=by
 obtain ⟨o,ho,hc,hd⟩:=id hit
 unfold pyNext
 refine wpAny_bind (wpAny_attempt (wpAny_callSpecial?_slot (name:=Str.ofString "__next__") hit.typeIs F.slot_dict_keyiterator_next (wpAny_call_entry F.slot_dict_keyiterator_next hit.typeIs F.entry_dict_keyiterator_next ?_ (F.args_dict_keyiterator_next_1 _))))
 refine wpAny_bind (wpAny_pure (wpAny_bind (wpAny_bind ?_)))
 first | refine wpAny_bind (wpAny_typeNameOfWhole_keyiter hit.typeIs (wpAny_pure ?_)) | refine wpAny_bind (wpAny_typeNameOf_keyiter hit.typeIs (wpAny_pure ?_))
 refine wpAny_bind (wpAny_fieldsOf ho hd ?_)
 simp only [show Builtin.Dict_items.ownsTuple "dict_keyiterator" =false by decide,Vt,if_false]
 show wpAny _ _ (if (Value.ref d == Value.none)=true then _ else _) _ _ s
 rw [if_neg (show ¬ ((Value.ref d == Value.none)=true) from Vx)]
 refine wpAny_bind (wpAny_pure (wpAny_bind (wpAny_dictEntries hod MN ?_)))
 rw [if_neg (by rw [hn];simp)]
 refine wpAny_bind (wpAny_pure (wpAny_bind (wpAny_dictEpoch hod MN ?_)))
 rw [if_neg (by simp)]
 refine wpAny_pure ?_
 simp only [show ¬ ((i:Int) < 0) from by omega,if_false,XH,Array.getElem?_eq_none hge]
 refine wpAny_bind ?_
 first | refine wpAny_bind (wpAny_typeNameOfWhole_keyiter hit.typeIs (wpAny_pure ?_)) | refine wpAny_bind (wpAny_typeNameOf_keyiter hit.typeIs (wpAny_pure ?_))
 refine wpAny_bind (show wpAny _ _ (setField (.ref it) 0 .none) _ _ s from wpAny_setField ho hd (by simp) ?_)
 refine wpAny_bind (show wpAny _ _ (newExc (.type "StopIteration") []) _ _ _ from ?_)
 simp only [newExc,newTuple]
 refine wpAny_bind (wpAny_newObj_type ?_ (by size_fits))
 refine wpAny_bind (m:=firstArgMember _ _) (wpAny_of_eq (a:=Value.none) (by first | rfl | (simp only [firstArgMember];rfl)) ?_)
 refine wpAny_newObj_type ?_ (by size_fits)
 simp only [raiseNew]
 refine wpAny_bind (wpAny_handled ?_)
 rw [show A.in1.handled=none from hh]
 refine wpAny_bind (wpAny_pure (wpAny_throw ?_))
 refine wpAny_bind (wpAny_isInstance (T:= "StopIteration") (b:=true) ⟨_,Heap.get?_push_size _ rfl,rfl⟩ isSubtype_stop ?_)
 exact wpAny_pure (q _ (((Heap.SameBut.update ..).extBut.push _).push _))
end
end PySem
namespace L2
open PySem PySem.Spec PyProof.Rows L3
def P8 (d:Addr) (n:Nat):It:=
 ⟨fun i H=> ∃ xs:DX,H d=some (.ext (i0 d xs))∧xs.length=n∧i < n,
  fun i H x H'=>H'=H∧∃ b,x= .ref b∧∀ xs:DX,H d=some (.ext (i0 d xs))→∃ e,xs[i]?=some e∧e.2.1=b,
  fun i H=> ∃ xs:DX,H d=some (.ext (i0 d xs))∧xs.length=n∧n≤i⟩
theorem qH {P:Program} {w:World} {H:Hp} {h:Heap} (ok:jk P w H h) {d:Addr} {xs:DX} (hH:H d=some (.ext (i0 d xs))):i0 d xs h:=(show cF P w H h d (.ext (i0 d xs)) from ok d _ hH).1
theorem Cq {P:Program} {w:World} {K:PySem.W.Frag} {tg:Expr} (d it:Addr) (n:Nat):Turn P w K tg (P8 d n) [it] it (fun i h=>h.IsKeyIter it d i n n) where
 mem:=by simp
 obj:=fun i h st b hb=>by
  obtain rfl:b=it:=by simpa using hb
  obtain ⟨o,e,c,d⟩:=st
  exact ⟨o,e,fun v z=>by rw [d] at z;cases z⟩
 keep:=fun i h h' st k=>st.at fun o e=>k it (by simp) o e
 item:=by
  intro X hP hw hK hc i pins s σ H E I hf st hg
  subst hP hw hK
  obtain ⟨xs,hH,hn,hi⟩:=hg
  obtain ⟨o,es,h1,h2,h3,h4⟩:=qH I.hok hH
  obtain ⟨f0,f1,f2,f3,f4,f5⟩:=hf it (by simp)
  have hz:es.size=n:=by rw [← Array.length_toList,h4,Vk];exact hn
  have hx:es[i]?=some (Di (xs[i]'(by omega))):=by
   rw [← Array.getElem?_toList,h4,VT,Vn (by omega)]
   rfl
  refine Cp (ep:=n) st h1 (by rw [h3,hn]) hz hx fun h' st' sb=>?_
  have I1:Inv X pins σ H { s with heap:=h' }:=I.turned (t':=s.toks) (fun b o hb e=>(sb.2 b hb).trans e) f0 f1 f3 f4 f5
  obtain ⟨o',e,c,dd⟩:=id st'
  refine ⟨_,rfl,AI (s:={ s with heap:=h' }) e c dd (by decide) ⟨.ref (xs[i]'(by omega)).2.1,H,I1,rfl,⟨rfl,_,rfl,fun ys hy=>?_⟩,st',fun b hb=>(hf b hb).1⟩⟩
  obtain ⟨o2,SX,g1,g2,g3,g4⟩:=qH I.hok hy
  obtain rfl:o2=o:=Option.some.inj (g1.symm.trans h1)
  have ee:SX=es:=by rw [g3] at h3;injection h3
  rw [ee,h4] at g4
  have q:(ys.map Di)[i]?=some (Di (xs[i]'(by omega))):=by rw [← g4,VT,Vn (by omega)];rfl
  rw [VT] at q
  obtain ⟨e,q1,q2⟩:=WW.mp q
  refine ⟨e,q1,?_⟩
  have:=congrArg DictEntry.key q2
  unfold Di at this
  exact Value.ref.inj this
 done:=by
  intro X hP hw hK hc i pins s σ H E I hf st hg
  subst hP hw hK
  obtain ⟨xs,hH,hn,hi⟩:=hg
  obtain ⟨o,es,h1,h2,h3,h4⟩:=qH I.hok hH
  obtain ⟨f0,f1,f2,f3,f4,f5⟩:=hf it (by simp)
  have hz:es.size=n:=by rw [← Array.length_toList,h4,Vk];exact hn
  exact EB (ep:=n) (I.ok.hd hc) st h1 (by rw [h3,hn]) hz (by omega) fun h' eb=>⟨rfl,I.turned (t':=s.toks) (fun b o hb e=>eb b o hb e) f0 f1 f3 f4 f5⟩
 self:=fun _ _ _ _ _ st h=>wpAny_pyIter_keyiter st h
def MQ (tl:TE):TI:=fun σ H R=>tl σ H fun x H1=> ∃ (a:Addr) (xs:DX),x= .ref a∧(a == sysModules)=false∧H1 a=some (.ext (i0 a xs))∧R (P8 a xs.length) H1
theorem GX {X:Cx} {tg l:Expr} {tl:TE} (hl:PE X l tl):PI X tg l (MQ tl):=by
 intro pins s σ H R I h
 refine cM (hl pins s σ H _ I h) fun v s1 ⟨x,H1,I1,r1,q1⟩=>?_
 obtain ⟨a,xs,e,nm,hH,q⟩:=q1
 subst e
 cases r1
 obtain ⟨o,es,h1,h2,h3,h4⟩:=qH I1.hok hH
 have hz:es.size=xs.length:=by rw [← Array.length_toList,h4,Vk]
 refine Ac nm ⟨o,h1,h2.1⟩ h1 h3 ?_
 rw [hz]
 refine ⟨s1.heap.objs.size,[s1.heap.objs.size],_,_,H1,rfl,I1.kept (t':=s1.toks) fun b o e=>Heap.get?_push_of_some _ e,Cq a _ _,⟨_,Heap.get?_push_size _ rfl,rfl,rfl⟩,fun b hb=>?_,q⟩
 obtain rfl:b=s1.heap.objs.size:=by simpa using hb
 exact I1.BJ (Vr _) (I1.hok.fresh (Vr _))
end L2
namespace L3
open PySem PySem.Spec PyProof.Rows L2
theorem J1 {K:PySem.W.Frag} {a:Addr} {kvs:List (List (List Int) ×D)}:zD K (P8 a kvs.length) (fun H=> ∃ xs:DX,H a=some (.ext (i0 a xs))∧Paired (jM K H) kvs xs) (kvs.map fun p=>kD p.1) where
 go:=fun i H hi ⟨xs,h,pk⟩=>⟨xs,h,(gO pk).symm,by simpa using hi⟩
 Ff:=fun i H x H' hi ⟨xs,h,pk⟩ ⟨e,b,eb,k⟩=>by
  subst eb
  obtain ⟨y,hy,ey⟩:=k xs h
  refine ⟨e,?_⟩
  rw [Vk] at hi
  have:∀ {l₁:List (List (List Int) ×D)} {l₂:DX} {i:Nat},Paired (jM K H) l₁ l₂→l₂[i]?=some y→∃ p,l₁[i]?=some p∧jM K H p y:=by
   intro l₁ l₂ i pk
   induction pk generalizing i with
   | nil=>intro z;simp at z
   | cons r _ ih=>
     intro z
     cases i with
     | zero=>
       rw [X5] at z
       cases z
       exact ⟨_,X5,r⟩
     | succ j=>
       rw [List.getElem?_cons_succ] at z ⊢
       exact ih z
  obtain ⟨p,hp,_,dk,_⟩:=this pk hy
  refine ⟨kD p.1,by rw [VT,hp];rfl,?_⟩
  rw [← ey]
  exact dk
 stop:=fun H ⟨xs,h,pk⟩=>⟨xs,h,(gO pk).symm,by simp⟩
section
variable {X:Cx} {pos:Pos} {tg iter:Expr} {body:List Stmt} {te:cP} {g:tO} {tb:i6}
def MR (te:cP) (g:tO) (tb:i6):i6:=fun D ρ M=>te ρ M fun d M1=> ∃ a kvs,d= .ref a∧M1 a=some (.lJ kvs)∧runFor (fun M=>M a=some (.lJ kvs)) g tb D (kvs.map fun p=>kD p.1) ρ M1
theorem J2 (hp:PassesOwn (model X.prog X.w) X.A X.env X.xe) (hc:X.calm=true) (hi:cg X iter te) (hg:BU X tg g) (hb:i8 X body tb)
 (hs:∀ x,foldedSetIterable iter X.env x=pure x:=by intro _;rfl):vJ X (.For tg iter body [] pos) (MR te g tb):=AX (oQ hp hc (GX hi.dn) hg.dn hb.dn hs) fun σ H ρ M D r q=>dU r q fun v H' d M' f dv r' ⟨a,kvs,e1,hM,q⟩=>by
 subst e1
 obtain rfl:=aF.mp dv
 obtain ⟨xs,hH,nm,_,pk⟩:=r'.mem.lJ hM
 refine ⟨a,xs,rfl,nm,hH,?_⟩
 rw [← gO pk]
 exact jb J1 f r' (fun M1 H1 f1 oM g1=>by obtain ⟨ys,h,_,_,p⟩:=oM.lJ g1;exact ⟨ys,h,p⟩) q
end
end L3
namespace L3
open PySem PySem.Spec PyProof.Rows L2
section
variable {X:Cx}
end
end L3
namespace L3
open PySem PySem.Spec PyProof.Rows L2
section
variable {X:Cx}
theorem vals3 {v1 v2 v3:V} {us:List Value} (h:Vals [v1,v2,v3] us):∃ u1 u2 u3,us= [u1,u2,u3]∧RelV v1 u1∧RelV v2 u2∧RelV v3 u3:=by
 cases h with
 | cons r1 h=>
   obtain ⟨u2,u3,rfl,r2,r3⟩:=vals2 h
   exact ⟨_,u2,u3,rfl,r1,r2,r3⟩
def MS:R3:=fun d e M Q=> ∃ a1 a2 a3 b1 b2 b3 x1 x2 x3 y1 y2 y3,d= .tup [.ref a1,.ref a2,.ref a3]∧e= .tup [.ref b1,.ref b2,.ref b3]∧M a1=some (.lst x1)∧M a2=some (.lst x2)∧M a3=some (.lst x3)∧M b1=some (.lst y1)∧M b2=some (.lst y2)∧M b3=some (.lst y3)∧
 (a1≠b1∧a2≠b2∧a3≠b3)∧(x1.all (plain 9)=true∧x2.all (plain 9)=true∧x3.all (plain 9)=true)∧(y1.all (plain 9)=true∧y2.all (plain 9)=true∧y3.all (plain 9)=true)∧Q (.bl (cG x1 y1 && cG x2 y2 && cG x3 y3)) M
theorem J3 (hu:X.A.units+64 < cLine):lK X (compareOp .Eq) MS:=by
 constructor
 intro pins s σ H M x y d e v u Q I rm rx ry dx dy hx
 obtain ⟨a1,a2,a3,b1,b2,b3,x1,x2,x3,y1,y2,y3,e1,e2,h1,h2,h3,h4,h5,h6,⟨n1,n2,n3⟩,⟨p1,p2,p3⟩,⟨p4,p5,p6⟩,q⟩:=hx
 subst e1;subst e2
 obtain ⟨a,xs,rfl,ha,hx⟩:=aR.mp dx
 obtain ⟨b,ys,rfl,hb,hy⟩:=aR.mp dy
 obtain rfl:v=Value.ref a:=rx
 obtain rfl:u=Value.ref b:=ry
 obtain ⟨w1,xs,rfl,k1,hx⟩:=aA.mp hx
 obtain ⟨w2,w3,rfl,k2,k3⟩:=xS hx
 obtain ⟨w4,ys,rfl,k4,hy⟩:=aA.mp hy
 obtain ⟨w5,w6,rfl,k5,k6⟩:=xS hy
 obtain rfl:=aF.mp k1
 obtain rfl:=aF.mp k2
 obtain rfl:=aF.mp k3
 obtain rfl:=aF.mp k4
 obtain rfl:=aF.mp k5
 obtain rfl:=aF.mp k6
 obtain ⟨its,rv,pl,hz⟩:=I.tuple (qC.of (K:=X.K) ha)
 obtain ⟨its2,m8,B5,hz2⟩:=I.tuple (qC.of (K:=X.K) hb)
 obtain ⟨u1,u2,u3,rfl,r1,r2,r3⟩:=vals3 rv
 obtain ⟨v1,v2,v3,rfl,r4,r5,r6⟩:=vals3 m8
 obtain rfl:u1=Value.ref a1:=r1
 obtain rfl:u2=Value.ref a2:=r2
 obtain rfl:u3=Value.ref a3:=r3
 obtain rfl:v1=Value.ref b1:=r4
 obtain rfl:v2=Value.ref b2:=r5
 obtain rfl:v3=Value.ref b3:=r6
 have c1:=mJ (A:=X.A.in1) I rm (by show X.A.units+1+12 < cLine;omega) n1 h1 h4 p1 p4
 have c2:=mJ (A:=X.A.in1) I rm (by show X.A.units+1+12 < cLine;omega) n2 h2 h5 p2 p5
 have c3:=mJ (A:=X.A.in1) I rm (by show X.A.units+1+12 < cLine;omega) n3 h3 h6 p3 p6
 refine SeqAt.RcAt.tuples (A:=X.A) (s:=s) (e:=fun j=>if j=0 then cG x1 y1 else if j=1 then cG x2 y2 else cG x3 y3) (show s.heap.IsTuple a #[Value.ref a1,Value.ref a2,Value.ref a3] from pl) (show s.heap.IsTuple b #[Value.ref b1,Value.ref b2,Value.ref b3] from B5) (by omega) ?_ _ _ _ _ ⟨.bl _,H,I,rfl,aD rm (aV.mpr rfl) ?_⟩
 ·intro j hj1 hj2
  match j,hj1,hj2 with
  | 0,_,_=>exact c1
  | 1,_,_=>exact c2
  | 2,_,_=>exact c3
 ·have e:((List.range (min #[Value.ref a1,Value.ref a2,Value.ref a3].size #[Value.ref b1,Value.ref b2,Value.ref b3].size)).all (fun j=>if j=0 then cG x1 y1 else if j=1 then cG x2 y2 else cG x3 y3) && #[Value.ref a1,Value.ref a2,Value.ref a3].size == #[Value.ref b1,Value.ref b2,Value.ref b3].size)=(cG x1 y1 && cG x2 y2 && cG x3 y3):=by
   simp [List.range,List.range.loop,YE]
  rw [e]
  exact q
theorem EC {P:Program} {w:World} {K:PySem.W.Frag} {mg:Str→Option Value} {base:Heap} {k:Nat} {f:Addr} {fd:FuncData} {ps:List Str} {S:uE} (hS:∀ ds M Q,¬ S ds M Q):bD P w K mg base ff k f fd ps (mZ K S):=
 ⟨fun _ _ _ _ ⟨_,_,_,_,_,h,_⟩=>(hS _ _ _ h).elim,fun _ _ _ _ _ _ _ _ _ _ _ _ _ ⟨_,_,_,_,_,h,_⟩=>(hS _ _ _ h).elim⟩
end
end L3
namespace HT
open PySem PyProof.Rows
open PySem.SeqAt
open PySem.AutoSeq1 (wpAny_loadPart')
open PySem.MeetsSeq PySem.MeetsSeq2 PySem.MeetsSeq3
end HT
namespace L3
open PySem PySem.Spec PyProof.Rows L2
section
variable {X:Cx}
end
end L3
namespace L3
structure Pt where
 X:Int
 Y:Int
 N:Int
def hw (a b:Pl) (x:Pt):Int:=(b.x - a.x)*(x.Y - x.N*a.y) - (b.y - a.y)*(x.X - x.N*a.x)
def jO (w:Way) (a:Pl) (x:Pt):Int:=x.N*w.f a - (w.al*x.X+w.be*x.Y)
theorem iw (a b:Pl) (x:Pt):hw b a x= -hw a b x:=by unfold hw;grind
theorem J4 (a b c:Pl) (x:Pt):hw a b x+hw b c x+hw c a x=x.N*tw a b c:=by unfold hw tw;grind
theorem ED (w:Way) (a b c:Pl) (x:Pt):hw b c x*jO w a x+hw c a x*jO w b x+hw a b x*jO w c x=0:=by unfold hw jO Way.f;grind
def Ig (w:Way) (x:Pt) (a b:Pl):Int:=if jO w a x≤0∧0 < jO w b x∧0 < hw a b x then 1 else 0
def wn (w:Way) (x:Pt) (a b:Pl):Int:=Ig w x a b - Ig w x b a
theorem Bk (w:Way) (x:Pt) (a b:Pl):wn w x b a= -wn w x a b:=by unfold wn;omega
theorem mP (A α:Int) (h:A≠0):(0 < A→0 < α→0 < A*α)∧(0 < A→α≤0→A*α≤0)∧(A < 0→0 < α→A*α < 0)∧(A < 0→α≤0→0≤A*α)∧(A*α=0→α=0):=
 ⟨fun a b=>VH a b,fun a b=>VE (by omega) b,fun a b=>V7 a b,fun a b=>VD (by omega) b,fun e=>(VB.mp e).resolve_left h⟩
theorem six {A B C α β γ S:Int} (hA:A≠0) (hB:B≠0) (hC:C≠0) (hS:0 < S) (s:A+B+C=S) (e:A*α+B*β+C*γ=0) (d:¬ (α=0∧β=0∧γ=0)) :
 ((if α≤0∧0 < β∧0 < C then 1 else 0) - (if β≤0∧0 < α∧C < 0 then 1 else 0))+((if β≤0∧0 < γ∧0 < A then 1 else 0) - (if γ≤0∧0 < β∧A < 0 then 1 else 0))+((if γ≤0∧0 < α∧0 < B then 1 else 0) - (if α≤0∧0 < γ∧B < 0 then 1 else 0))=if 0 < C∧0 < A∧0 < B then (1:Int) else 0:=by
 obtain ⟨a1,a2,a3,a4,a5⟩:=mP A α hA
 obtain ⟨b1,b2,b3,b4,b5⟩:=mP B β hB
 obtain ⟨c1,c2,c3,c4,c5⟩:=mP C γ hC
 generalize A*α=P at *
 generalize B*β=Q at *
 generalize C*γ=R at *
 rcases V4 hA with xA | xA <;> rcases V4 hB with xB | xB <;> rcases V4 hC with xC | xC <;>
  by_cases yα:α≤0 <;> by_cases yβ:β≤0 <;> by_cases yγ:γ≤0 <;>
  first
  | (exfalso;omega)
  | (simp only [show ¬ (0 < α)↔α≤0 by omega,show ¬ (0 < β)↔β≤0 by omega,show ¬ (0 < γ)↔γ≤0 by omega, *]
     have nα:(0 < α)↔¬ α≤0:=by omega
     have nβ:(0 < β)↔¬ β≤0:=by omega
     have nγ:(0 < γ)↔¬ γ≤0:=by omega
     have nA:(0 < A)↔¬ A < 0:=by omega
     have nB:(0 < B)↔¬ B < 0:=by omega
     have nC:(0 < C)↔¬ C < 0:=by omega
     simp [nα,nβ,nγ,nA,nB,nC, *] <;> omega)
theorem J5 {w:Way} {x:Pt} {a b c:Pl} (hN:0 < x.N) (t:0 < tw a b c) (f:w.f a≠w.f b) (h1:hw a b x≠0) (h2:hw b c x≠0) (h3:hw c a x≠0) :
 wn w x a b+wn w x b c+wn w x c a=if 0 < hw a b x∧0 < hw b c x∧0 < hw c a x then 1 else 0:=by
 have s:hw b c x+hw c a x+hw a b x=x.N*tw a b c:=by rw [← J4 a b c x];omega
 have k:=six (α:=jO w a x) (β:=jO w b x) (γ:=jO w c x) h2 h3 h1 (VH hN t) s (ED w a b c x) (fun ⟨z1,z2,_⟩=>f (by
  have:x.N*w.f a=x.N*w.f b:=by unfold jO at z1 z2;omega
  exact XQ (by omega) this))
 have f1:=iw a b x
 have f2:=iw b c x
 have f3:=iw c a x
 have e1:(0 < hw b a x)=(hw a b x < 0):=by rw [f1];exact propext ⟨fun _=>by omega,fun _=>by omega⟩
 have e2:(0 < hw c b x)=(hw b c x < 0):=by rw [f2];exact propext ⟨fun _=>by omega,fun _=>by omega⟩
 have e3:(0 < hw a c x)=(hw c a x < 0):=by rw [f3];exact propext ⟨fun _=>by omega,fun _=>by omega⟩
 unfold wn Ig
 simp only [e1,e2,e3]
 exact k
end L3
namespace L3
def sz (g:List Pl→Int):List (List Pl)→Int
 | []=>0
 | d :: r=>g d+sz g r
theorem EE (g:List Pl→Int):∀ a b:List (List Pl),sz g (a ++ b)=sz g a+sz g b
 | [],b=>by simp [sz]
 | d :: r,b=>by show g d+sz g (r ++ b)=g d+sz g r+sz g b;rw [EE g r b];omega
theorem qI (g:List Pl→Int) {a b:List (List Pl)} (h:a.Perm b):sz g a=sz g b:=by
 induction h with
 | nil=>rfl
 | cons x _ ih=>show g x+_=g x+_;rw [ih]
 | swap x y l=>show g y+(g x+sz g l)=g x+(g y+sz g l);omega
 | trans _ _ i j=>rw [i,j]
theorem EF {g:List Pl→Int} {f:List Pl→List Pl}:∀ {l:List (List Pl)},(∀ d∈l,g (f d)= -g d)→sz g (l.map f)= -sz g l
 | [],_=>rfl
 | d :: r,h=>by
   show g (f d)+sz g (r.map f)= -(g d+sz g r)
   rw [EF fun x hx=>h x (Vj _ hx),h d (by simp)]
   omega
theorem Bl (g:List Pl→Int) (f:List Pl→Bool):∀ l:List (List Pl),sz g l=sz g (l.filter f)+sz g (l.filter fun v=>!f v)
 | []=>rfl
 | d :: r=>by
   have ih:=Bl g f r
   cases q:f d
   ·rw [X6 (by simp [q]),X7 (by simp [q])]
    show g d+sz g r=_+(g d+sz g _)
    omega
   ·rw [X7 (by simp [q]),X6 (by simp [q])]
    show g d+sz g r=g d+sz g _+_
    omega
def wL (w:Way) (x:Pt):List Pl→Int
 | [a,b]=>wn w x a b
 | _=>0
def bk:List Pl→List Pl
 | [a,b]=>[b,a]
 | l=>l
theorem J6:∀ {u v:List Pl},bk u=bk v→u=v:=by
 have key:∀ u,bk (bk u)=u:=fun u=>by
  match u with
  | []=>rfl
  | [_]=>rfl
  | [_,_]=>rfl
  | _ :: _ :: _ :: _=>rfl
 intro u v h
 rw [← key u,h,key v]
theorem je {α:Type} [DecidableEq α] {a b:List α} (na:a.Nodup) (nb:b.Nodup) (h:∀ x,x∈a↔x∈b):a.Perm b:=(List.perm_ext_iff_of_nodup na nb).mpr h
theorem GY {D:List (List Pl)} (nd:D.Nodup) (two:∀ d∈D,∃ a b,d= [a,b]) {g:List Pl→Int} (hg:∀ a b,g [b,a]= -g [a,b]):sz g D=sz g (D.filter fun d=>!decide (bk d∈D)):=by
 rw [Bl g (fun d=>decide (bk d∈D)) D]
 have z:sz g (D.filter fun d=>decide (bk d∈D))=0:=by
  have n1:(D.filter fun d=>decide (bk d∈D)).Nodup:=nd.filter _
  have n2:((D.filter fun d=>decide (bk d∈D)).map bk).Nodup:=lA n1 fun u _ v _ e=>J6 e
  have p:=je n1 n2 fun d=>by
   rw [Vu,VJ]
   constructor
   ·rintro ⟨h1,h2⟩
    obtain ⟨a,b,rfl⟩:=two d h1
    exact ⟨[b,a],Vu.mpr ⟨of_decide_eq_true h2,decide_eq_true h1⟩,rfl⟩
   ·rintro ⟨e,he,rfl⟩
    obtain ⟨h1,h2⟩:=Vu.mp he
    obtain ⟨a,b,rfl⟩:=two e h1
    exact ⟨of_decide_eq_true h2,decide_eq_true h1⟩
  have e1:=qI g p
  rw [EF (f:=bk) fun d hd=>by
   obtain ⟨a,b,rfl⟩:=two d (Vu.mp hd).1
   exact hg a b] at e1
  omega
 rw [z]
 omega
theorem zY.MT {Q:List Pl} {D:List (List Pl)} (s:cE Q) (nf:¬ Flat Q) (c:zY Q D):(D.filter fun d=>!decide (bk d∈D)).Perm (SL Q):=by
 refine je (c.nd.filter _) (kF s) fun d=>?_
 rw [Vu]
 constructor
 ·rintro ⟨h1,h2⟩
  obtain ⟨a,b,rfl,_,_⟩:=c.rP d h1
  refine (bR s).mpr (c.bare a b h1 fun z=>?_)
  rw [Wv] at h2
  exact of_decide_eq_false h2 z
 ·intro h
  obtain ⟨a,b,rfl⟩:=iM h
  have h:=(bR s).mp h
  refine ⟨(c.has a b h).resolve_left fun z=>nf (pA h z),?_⟩
  rw [Wv]
  exact decide_eq_false (c.rZ a b h)
theorem EG {Q:List Pl} {D:List (List Pl)} (s:cE Q) (nf:¬ Flat Q) (c:zY Q D) {g:List Pl→Int} (hg:∀ a b,g [b,a]= -g [a,b]):sz g D=sz g (SL Q):=by
 rw [GY c.nd (fun d hd=>let ⟨a,b,e,_⟩:=c.rP d hd;⟨a,b,e⟩) hg]
 exact qI g (c.MT s nf)
theorem Bm {Q:List Pl} (s:cE Q) {a b c d:Pl} (h1:aO Q a b) (h2:aO Q c d) (ab:aj.f a < aj.f b) (cb:aj.f c < aj.f b) (cd:aj.f c < aj.f d) (ac:aj.f a≤aj.f c):a=c∧b=d:=by
 have q1:=(h1.2.2.2 c h2.1).1
 have q2:=(h1.2.2.2 d h2.2.1).1
 have q3:=(h2.2.2.2 a h1.1).1
 have q4:=(h2.2.2.2 b h1.2.1).1
 have e1:=rW aj d b a c
 have r1:tw c b a= -tw a b c:=by unfold tw;grind
 rw [r1] at e1
 have m1:0≤(aj.f b - aj.f c)*tw c d a:=Vs (by omega) q3
 have m2:(aj.f d - aj.f c)* -tw a b c≤0:=VE (by omega) (by omega)
 have m3:(aj.f a - aj.f c)*tw c d b≤0:=VG (by omega) q4
 have z1:(aj.f d - aj.f c)* -tw a b c=0:=by omega
 have z2:tw a b c=0:=by
  rcases VB.mp z1 with z | z <;> omega
 have SY:aj.f a=aj.f c:=by
  have:=cY s h1 h2.1 z2
  omega
 obtain rfl:a=c:=s.inj h1.1 h2.1 SY
 refine ⟨rfl,?_⟩
 have r2:=uY a b d
 have z3:tw a b d=0:=by omega
 have b1:=cY s h1 h2.2.1 z3
 have b2:=cY s h2 h1.2.1 (by omega)
 exact s.inj h1.2.1 h2.2.1 (by omega)
theorem J7 {Q:List Pl} (s:cE Q) {x:Pt} {a b c d:Pl} (h1:aO Q a b) (h2:aO Q c d) (k1:jO aj a x≤0) (k2:0 < jO aj b x) (k3:jO aj c x≤0) (k4:0 < jO aj d x) (hN:0 < x.N):a=c∧b=d:=by
 have lt:∀ {u v:Pl},jO aj u x≤0→0 < jO aj v x→aj.f u < aj.f v:=fun {u v} i j=>by
  unfold jO at i j
  have:x.N*aj.f u < x.N*aj.f v:=by omega
  exact Int.lt_of_mul_lt_mul_left this (by omega)
 rcases WK (aj.f a) (aj.f c) with z | z
 ·exact Bm s h1 h2 (lt k1 k2) (lt k3 k2) (lt k3 k4) z
 ·obtain ⟨e1,e2⟩:=Bm s h2 h1 (lt k3 k4) (lt k1 k4) (lt k1 k2) z
  exact ⟨e1.symm,e2.symm⟩
theorem u9 {g:List Pl→Int}:∀ {l:List (List Pl)},l.Nodup→(∀ d∈l,g d≤1)→(∀ d∈l,∀ e∈l,0 < g d→0 < g e→d=e)→sz g l≤1
 | [],_,_,_=>by simp [sz]
 | d :: r,n,h1,h2=>by
   obtain ⟨n1,n2⟩:=VC.mp n
   show g d+sz g r≤1
   by_cases z:0 < g d
   ·have k:∀ {l:List (List Pl)},(∀ e∈l,g e≤0)→sz g l≤0:=fun {l} hl=>by
     induction l with
     | nil=>simp [sz]
     | cons e l ih=>
       have:=ih fun x hx=>hl x (Vj _ hx)
       have:=hl e (by simp)
       show g e+sz g l≤0
       omega
    have:=k (l:=r) fun e he=>by
     apply Vi
     intro y
     have:=h2 d (by simp) e (Vj _ he) z (by omega)
     exact n1 (this▸he)
    have:=h1 d (by simp)
    omega
   ·have:=u9 n2 (fun e he=>h1 e (Vj _ he)) (fun e he u hu=>h2 e (Vj _ he) u (Vj _ hu))
    omega
theorem EH (w:Way) (x:Pt) (a b:Pl):wn w x a b≤1∧(0 < wn w x a b→jO w a x≤0∧0 < jO w b x):=by
 unfold wn Ig
 split <;> rename_i h1 <;> split <;> rename_i h2
 ·exact ⟨by omega,fun _=>⟨h1.1,h1.2.1⟩⟩
 ·exact ⟨by omega,fun _=>⟨h1.1,h1.2.1⟩⟩
 ·exact ⟨by omega,fun z=>by omega⟩
 ·exact ⟨by omega,fun z=>by omega⟩
theorem GZ {Q:List Pl} (s:cE Q) {x:Pt} (hN:0 < x.N):sz (wL aj x) (SL Q)≤1:=by
 refine u9 (kF s) (fun d hd=>?_) fun d hd e he k1 k2=>?_
 ·obtain ⟨a,b,rfl⟩:=iM hd
  exact (EH aj x a b).1
 ·obtain ⟨a,b,rfl⟩:=iM hd
  obtain ⟨u,v,rfl⟩:=iM he
  obtain ⟨i1,i2⟩:=(EH aj x a b).2 k1
  obtain ⟨j1,j2⟩:=(EH aj x u v).2 k2
  obtain ⟨rfl,rfl⟩:=J7 s ((bR s).mp hd) ((bR s).mp he) i1 i2 j1 j2 hN
  rfl
def ins (x:Pt):List Pl→Int
 | [a,b,c]=>if 0 < hw a b x∧0 < hw b c x∧0 < hw c a x then 1 else 0
 | _=>0
def Gen (Q:List Pl) (x:Pt):Prop:=0 < x.N∧∀ a∈Q,∀ b∈Q,a≠b→hw a b x≠0
theorem ic.parts {Q t:List Pl} (h:ic Q t):∃ a b c,t= [a,b,c]∧0 < tw a b c∧a∈Q∧b∈Q∧c∈Q∧a≠b∧b≠c∧c≠a:=by
 obtain ⟨⟨a,b,c,rfl,l1,l2,p⟩,h2⟩:=h
 refine ⟨a,b,c,rfl,p,h2 a (by simp),h2 b (by simp),h2 c (by simp),fun z=>?_,fun z=>?_,fun z=>?_⟩
 ·rw [z] at p;unfold tw at p;exact absurd p (by grind)
 ·rw [z] at p;unfold tw at p;exact absurd p (by grind)
 ·rw [z] at p;unfold tw at p;exact absurd p (by grind)
theorem G0 {Q t:List Pl} {x:Pt} (s:cE Q) (g:Gen Q x) (h:ic Q t):sz (wL aj x) (dh t)=ins x t:=by
 obtain ⟨a,b,c,rfl,p,ha,hb,hc,n1,n2,n3⟩:=h.parts
 show wn aj x a b+(wn aj x b c+(wn aj x c a+0))=if 0 < hw a b x∧0 < hw b c x∧0 < hw c a x then 1 else 0
 have:=J5 (w:=aj) g.1 p (wg s ha hb n1) (g.2 a ha b hb n1) (g.2 b hb c hc n2) (g.2 c hc a ha n3)
 rw [← this]
 omega
theorem wA {Q:List Pl} {x:Pt} (s:cE Q) (g:Gen Q x):∀ {ts:List (List Pl)},(∀ t∈ts,ic Q t)→sz (wL aj x) (aU ts)=sz (ins x) ts
 | [],_=>rfl
 | t :: r,h=>by
   have e:aU (t :: r)=dh t ++ aU r:=by unfold aU;rw [Wl]
   rw [e,EE,G0 s g (h t (by simp)),wA s g fun u hu=>h u (Vj _ hu)]
   rfl
structure bJ (Q:List Pl) (ts:List (List Pl)):Prop where
 m5:cE Q
 wB:zY Q (aU ts)
 bK:∀ t∈ts,ic Q t
theorem bJ.J8 {Q:List Pl} {ts:List (List Pl)} (c:bJ Q ts) (nf:¬ Flat Q) {x:Pt} (g:Gen Q x):sz (ins x) ts≤1:=by
 rw [← wA c.m5 g c.bK,EG c.m5 nf c.wB fun a b=>Bk aj x a b]
 exact GZ c.m5 g.1
theorem EI {g:List Pl→Int} (h0:∀ t,0≤g t) {t u:List Pl} (ne:t≠u):∀ {ts:List (List Pl)},t∈ts→u∈ts→g t+g u≤sz g ts
 | v :: r,ht,hu=>by
   show _≤g v+sz g r
   have one:∀ {l:List (List Pl)} {z:List Pl},z∈l→g z≤sz g l:=fun {l z} hz=>by
    induction l with
    | nil=>cases hz
    | cons e l ih=>
      have n:0≤sz g l:=by
       clear ih hz
       induction l with
       | nil=>simp [sz]
       | cons a l ih=>have:=h0 a;show 0≤g a+sz g l;omega
      show g z≤g e+sz g l
      rcases Vl.mp hz with rfl | m
      ·omega
      ·have:=ih m;have:=h0 e;omega
   rcases Vl.mp ht with e1 | k1
   ·rcases Vl.mp hu with e2 | k2
    ·exact absurd (e1.trans e2.symm) ne
    ·have:=one k2;rw [e1];omega
   ·rcases Vl.mp hu with e2 | k2
    ·have:=one k1;rw [e2];omega
    ·have:=EI h0 ne k1 k2;have:=h0 v;omega
theorem J9 (x:Pt) (t:List Pl):0≤ins x t:=by
 unfold ins
 split
 ·split <;> omega
 ·omega
theorem bJ.one {Q:List Pl} {ts:List (List Pl)} (c:bJ Q ts) (nf:¬ Flat Q) {x:Pt} (g:Gen Q x) {t u:List Pl} (ht:t∈ts) (hu:u∈ts) (it:ins x t=1) (iu:ins x u=1):t=u:=by
 apply Vi
 intro ne
 have:=EI (J9 x) ne ht hu
 have:=c.J8 nf g
 omega
end L3
namespace L3
def Ae (p q c d:Pl):Int:=(q.x - p.x)*(d.x - c.x)+(q.y - p.y)*(d.y - c.y)
theorem EJ (g:Pl→Pl→Nat) (Q:List Pl):∃ B:Nat,∀ p∈Q,∀ q∈Q,g p q≤B:=by
 have one:∀ (h:Pl→Nat) (R:List Pl),∃ B:Nat,∀ p∈R,h p≤B:=fun h R=>by
  induction R with
  | nil=>exact ⟨0,fun p hp=>by cases hp⟩
  | cons a R ih=>
    obtain ⟨B,hB⟩:=ih
    refine ⟨B+h a,fun p hp=>?_⟩
    rcases Vl.mp hp with rfl | m
    ·omega
    ·have:=hB p m;omega
 have two:∀ (R:List Pl),∃ B:Nat,∀ p∈R,∀ q∈Q,g p q≤B:=fun R=>by
  induction R with
  | nil=>exact ⟨0,fun p hp=>by cases hp⟩
  | cons a R ih=>
    obtain ⟨B,hB⟩:=ih
    obtain ⟨C,hC⟩:=one (g a) Q
    refine ⟨B+C,fun p hp q hq=>?_⟩
    rcases Vl.mp hp with rfl | m
    ·have:=hC q hq;omega
    ·have:=hB p m q hq;omega
 exact two Q
theorem MU {B t u v:Int} (h0:0≤B) (hu: -B≤u∧u≤B) (hv: -B≤v∧v≤B) (h:0 < t∨(t=0∧(0 < u∨(u=0∧0 < v)))):0 < (B+1)*(B+1)*t+(B+1)*u+v:=by
 rcases h with h | ⟨rfl,h | ⟨rfl,h⟩⟩
 ·have m1:0≤(B+1)*(B+1)*(t - 1):=Vs (Vs (by omega) (by omega)) (by omega)
  have m2:0≤(B+1)*(u+B):=Vs (by omega) (by omega)
  have e1:(B+1)*(B+1)*(t - 1)=(B+1)*(B+1)*t - (B+1)*(B+1):=by rw [VS,Ye]
  have e2:(B+1)*(u+B)=(B+1)*u+(B+1)*B:=Int.mul_add _ _ _
  have e3:(B+1)*(B+1)=(B+1)*B+(B+1):=by rw [Int.mul_add,Ye]
  omega
 ·have m2:0≤(B+1)*(u - 1):=Vs (by omega) (by omega)
  have e2:(B+1)*(u - 1)=(B+1)*u - (B+1):=by rw [VS,Ye]
  rw [V3]
  omega
 ·rw [V3,V3]
  omega
theorem pG {p q c d:Pl} (n1:p≠q) (n2:c≠d) (h:tw p q d - tw p q c=0):Ae p q c d≠0:=fun z=>by
 have e:(tw p q d - tw p q c)*(tw p q d - tw p q c)+Ae p q c d*Ae p q c d=((q.x - p.x)*(q.x - p.x)+(q.y - p.y)*(q.y - p.y))*((d.x - c.x)*(d.x - c.x)+(d.y - c.y)*(d.y - c.y)):=by unfold tw Ae;grind
 rw [h,z] at e
 have pos:∀ u v:Pl,u≠v→0 < (v.x - u.x)*(v.x - u.x)+(v.y - u.y)*(v.y - u.y):=fun u v n=>by
  have s1:0≤(v.x - u.x)*(v.x - u.x):=by
   rcases WK 0 (v.x - u.x) with k | k
   ·exact Vs k k
   ·exact VD k k
  have s2:0≤(v.y - u.y)*(v.y - u.y):=by
   rcases WK 0 (v.y - u.y) with k | k
   ·exact Vs k k
   ·exact VD k k
  apply Vi
  intro k
  have z1:(v.x - u.x)*(v.x - u.x)=0:=by omega
  have z2:(v.y - u.y)*(v.y - u.y)=0:=by omega
  have z1:v.x - u.x=0:=(VB.mp z1).elim id id
  have z2:v.y - u.y=0:=(VB.mp z2).elim id id
  exact n (by cases u;cases v;simp only [Pl.mk.injEq];dsimp only at z1 z2;omega)
 have:=VH (pos p q n1) (pos c d n2)
 omega
theorem P9 {Q:List Pl} {c d:Pl} (ne:c≠d):∃ x:Pt,Gen Q x∧∀ p∈Q,∀ q∈Q,(0 < tw p q c∨(tw p q c=0∧(0 < tw p q d∨(tw p q d=0∧0 < Ae p q c d))))→0 < hw p q x:=by
 obtain ⟨B,hB⟩:=EJ (fun p q=>(tw p q d - tw p q c).natAbs+(Ae p q c d).natAbs) Q
 refine ⟨⟨((B:Int)+1)*(B+1)*c.x+(B+1)*(d.x - c.x) - (d.y - c.y),((B:Int)+1)*(B+1)*c.y+(B+1)*(d.y - c.y)+(d.x - c.x),((B:Int)+1)*(B+1)⟩,?_⟩
 have e:∀ p q,hw p q ⟨((B:Int)+1)*(B+1)*c.x+(B+1)*(d.x - c.x) - (d.y - c.y),((B:Int)+1)*(B+1)*c.y+(B+1)*(d.y - c.y)+(d.x - c.x),((B:Int)+1)*(B+1)⟩=((B:Int)+1)*(B+1)*tw p q c+(B+1)*(tw p q d - tw p q c)+Ae p q c d:=fun p q=>by unfold hw tw Ae;grind
 have key:∀ p∈Q,∀ q∈Q,(0 < tw p q c∨(tw p q c=0∧(0 < tw p q d∨(tw p q d=0∧0 < Ae p q c d))))→0 < hw p q ⟨((B:Int)+1)*(B+1)*c.x+(B+1)*(d.x - c.x) - (d.y - c.y),((B:Int)+1)*(B+1)*c.y+(B+1)*(d.y - c.y)+(d.x - c.x),((B:Int)+1)*(B+1)⟩:=fun p hp q hq h=>by
  rw [e]
  have b:=hB p hp q hq
  exact MU (by omega) (by omega) (by omega) (h.imp id fun ⟨z,h⟩=>⟨z,h.imp (fun _=>by omega) fun ⟨z',h⟩=>⟨by omega,h⟩⟩)
 refine ⟨⟨VH (by omega) (by omega),fun p hp q hq n z=>?_⟩,key⟩
 have fl:∀ r,tw q p r= -tw p q r:=fun r=>bU p q r
 have fd:Ae q p c d= -Ae p q c d:=by unfold Ae;grind
 have fh:=iw p q ⟨((B:Int)+1)*(B+1)*c.x+(B+1)*(d.x - c.x) - (d.y - c.y),((B:Int)+1)*(B+1)*c.y+(B+1)*(d.y - c.y)+(d.x - c.x),((B:Int)+1)*(B+1)⟩
 have k1:=key p hp q hq
 have k2:=key q hq p hp
 rw [fl,fl,fd] at k2
 by_cases c0:tw p q c=0
 ·by_cases d0:tw p q d=0
  ·have:=pG n ne (by omega)
   rcases V4 this with y | y
   ·have:=k2 (by omega);omega
   ·have:=k1 (by omega);omega
  ·rcases V4 d0 with y | y
   ·have:=k2 (by omega);omega
   ·have:=k1 (by omega);omega
 ·rcases V4 c0 with y | y
  ·have:=k2 (by omega);omega
  ·have:=k1 (by omega);omega
def bS (t:List Pl) (a b c:Pl):Prop:=t= [a,b,c]∨t= [b,c,a]∨t= [c,a,b]
theorem bS.dir {t:List Pl} {a b c:Pl} (r:bS t a b c):(dh t).Perm [[a,b],[b,c],[c,a]]:=by
 rcases r with rfl | rfl | rfl
 ·exact .refl _
 ·show [[b,c],[c,a],[a,b]].Perm _
  exact (VR (l₁:=[[b,c],[c,a]]) (l₂:=[[a,b]]))
 ·show [[c,a],[a,b],[b,c]].Perm _
  exact (VR (l₁:=[[c,a]]) (l₂:=[[a,b],[b,c]]))
theorem bS.ins {t:List Pl} {a b c:Pl} (r:bS t a b c) {x:Pt} (h1:0 < hw a b x) (h2:0 < hw b c x) (h3:0 < hw c a x):ins x t=1:=by
 rcases r with rfl | rfl | rfl
 ·exact if_pos ⟨h1,h2,h3⟩
 ·exact if_pos ⟨h2,h3,h1⟩
 ·exact if_pos ⟨h3,h1,h2⟩
theorem bS.mem {t:List Pl} {a b c:Pl} (r:bS t a b c) (q:Pl):q∈t↔q=a∨q=b∨q=c:=by
 rcases r with rfl | rfl | rfl <;> simp only [Vl,VY,or_false]
 ·exact ⟨fun h=>by rcases h with h | h | h <;> simp [h],fun h=>by rcases h with h | h | h <;> simp [h]⟩
 ·exact ⟨fun h=>by rcases h with h | h | h <;> simp [h],fun h=>by rcases h with h | h | h <;> simp [h]⟩
theorem bS.tw {Q t:List Pl} {a b c:Pl} (r:bS t a b c) (h:ic Q t):0 < tw a b c∧a∈Q∧b∈Q∧c∈Q:=by
 obtain ⟨u,v,w,rfl,p,hu,hv,hw,_⟩:=h.parts
 have e1:=iN u v w
 have e2:=mL u v w
 rcases r with e | e | e <;> injection e with x1 e <;> injection e with x2 e <;> injection e with x3 e <;> subst x1 x2 x3
 ·exact ⟨p,hu,hv,hw⟩
 ·exact ⟨by omega,hw,hu,hv⟩
 ·exact ⟨by omega,hv,hw,hu⟩
theorem jt {Q t:List Pl} {a b:Pl} (h:ic Q t) (m: [a,b]∈dh t):∃ c,bS t a b c:=by
 obtain ⟨u,v,w,rfl,_⟩:=h.parts
 have m: [a,b]= [u,v]∨[a,b]= [v,w]∨[a,b]= [w,u]:=by simpa [dh] using m
 rcases m with e | e | e <;> obtain ⟨rfl,rfl⟩:=aL e
 ·exact ⟨w,.inl rfl⟩
 ·exact ⟨u,.inr (.inr rfl)⟩
 ·exact ⟨v,.inr (.inl rfl)⟩
theorem br {ts:List (List Pl)} {w:List Pl}:w∈aU ts↔∃ t∈ts,w∈dh t:=We
section
variable {Q:List Pl} {ts:List (List Pl)} {a b c d:Pl} {t1 t2:List Pl}
theorem ju (p1:0 < tw a b c) (p2:0 < tw b a d) (cv:tw c d a*tw c d b < 0):0 < tw c d b∧tw c d a < 0:=by
 have e:tw c d b - tw c d a=tw a b c+tw b a d:=by unfold tw;grind
 by_cases z:0 < tw c d b
 ·refine ⟨z,?_⟩
  apply Vi
  intro k
  have:=Vs (a:=tw c d a) (b:=tw c d b) (by omega) (by omega)
  omega
 ·have:=VD (a:=tw c d a) (b:=tw c d b) (by omega) (by omega)
  omega
theorem dJ (a b:Pl):tw a b a=0∧tw a b b=0∧tw a a b=0:=by unfold tw;grind
theorem bJ.new_one (k:bJ Q ts) (nf:¬ Flat Q) (h1:t1∈ts) (r1:bS t1 a b c) (p2:0 < tw b a d) (hd:d∈Q) (cv:tw c d a*tw c d b < 0): [c,d]∉aU ts:=fun m=>by
 obtain ⟨t,ht,m⟩:=br.mp m
 obtain ⟨e,re⟩:=jt (k.bK t ht) m
 obtain ⟨p1,ha,hb,hc⟩:=r1.tw (k.bK t1 h1)
 obtain ⟨p3,_,_,he⟩:=re.tw (k.bK t ht)
 obtain ⟨s1,s2⟩:=ju p1 p2 cv
 have ne:c≠d:=fun z=>by rw [z,(dJ d b).2.2] at s1;omega
 obtain ⟨x,g,hx⟩:=P9 (Q:=Q) ne
 have i1:ins x t=1:=by
  refine re.ins (hx c hc d hd (.inr ⟨(dJ c d).1,.inr ⟨(dJ c d).2.1,?_⟩⟩)) (hx d hd e he (.inl (by have:=iN c d e;omega))) (hx e he c hc (.inr ⟨(dJ e c).2.1,.inl (by have:=mL c d e;omega)⟩))
  have n:=pG (p:=c) (q:=d) (c:=c) (d:=d) ne ne (by rw [(dJ c d).1,(dJ c d).2.1];omega)
  have:0≤Ae c d c d:=by
   unfold Ae
   have q:∀ z:Int,0≤z*z:=fun z=>by
    rcases WK 0 z with k | k
    ·exact Vs k k
    ·exact VD k k
   have:=q (d.x - c.x)
   have:=q (d.y - c.y)
   omega
  omega
 have i2:ins x t1=1:=by
  refine r1.ins (hx a ha b hb (.inl p1)) (hx b hb c hc (.inr ⟨(dJ b c).2.1,.inl ?_⟩)) (hx c hc a ha (.inr ⟨(dJ c a).1,.inl ?_⟩))
  ·have:=iN b c d;omega
  ·have:=uY c d a;omega
 have ee:=k.one nf g ht h1 i1 i2
 subst ee
 have hd':d∈t:=(re.mem d).mpr (.inr (.inl rfl))
 rcases (r1.mem d).mp hd' with z | z | z
 ·rw [z,(dJ b a).2.1] at p2;omega
 ·rw [z,(dJ b a).1] at p2;omega
 ·exact ne z.symm
theorem bJ.G1 (k:bJ Q ts) (nf:¬ Flat Q) (h1:t1∈ts) (r1:bS t1 a b c) (h2:t2∈ts) (r2:bS t2 b a d) (cv:tw c d a*tw c d b < 0): [c,d]∉aU ts∧[d,c]∉aU ts:=by
 obtain ⟨p1,ha,hb,hc⟩:=r1.tw (k.bK t1 h1)
 obtain ⟨p2,_,_,hd⟩:=r2.tw (k.bK t2 h2)
 refine ⟨k.new_one nf h1 r1 p2 hd cv,k.new_one nf h2 r2 p1 hc ?_⟩
 rw [bU c d b,bU c d a,Xb,Wn]
 exact cv
theorem zY.swap {D D' E:List (List Pl)} (k:zY Q D) (p:D.Perm ([a,b] :: [b,a] :: E)) (p':D'.Perm ([c,d] :: [d,c] :: E)) (n1: [c,d]∉D) (n2: [d,c]∉D) (ne:c≠d) (hc:c∈Q) (hd:d∈Q)
 (s1:¬ aO Q a b) (s2:¬ aO Q b a) (s3:¬ aO Q c d) (s4:¬ aO Q d c):zY Q D':=by
 have m:∀ w,w∈D↔w= [a,b]∨w= [b,a]∨w∈E:=fun w=>by rw [p.mem_iff];simp only [Vl]
 have m':∀ w,w∈D'↔w= [c,d]∨w= [d,c]∨w∈E:=fun w=>by rw [p'.mem_iff];simp only [Vl]
 have nd:=p.nodup_iff.mp k.nd
 obtain ⟨e1,nd⟩:=VC.mp nd
 obtain ⟨e2,nd⟩:=VC.mp nd
 refine ⟨?_,?_,?_,?_,?_⟩
 ·refine p'.nodup_iff.mpr (VC.mpr ⟨fun z=>?_,VC.mpr ⟨fun z=>n2 ((m _).mpr (.inr (.inr z))),nd⟩⟩)
  rcases Vl.mp z with z | z
  ·exact ne (aL z).1
  ·exact n1 ((m _).mpr (.inr (.inr z)))
 ·intro w hw
  rcases (m' w).mp hw with rfl | rfl | z
  ·exact ⟨c,d,rfl,hc,hd⟩
  ·exact ⟨d,c,rfl,hd,hc⟩
  ·exact k.rP w ((m w).mpr (.inr (.inr z)))
 ·intro u v h1 h2
  have hE: [u,v]∈E:=by
   rcases (m' _).mp h1 with z | z | z
   ·obtain ⟨rfl,rfl⟩:=aL z
    exact absurd ((m' _).mpr (.inr (.inl rfl))) h2
   ·obtain ⟨rfl,rfl⟩:=aL z
    exact absurd ((m' _).mpr (.inl rfl)) h2
   ·exact z
  refine k.bare u v ((m _).mpr (.inr (.inr hE))) fun z=>?_
  rcases (m _).mp z with z | z | z
  ·obtain ⟨rfl,rfl⟩:=aL z
   exact e2 hE
  ·obtain ⟨rfl,rfl⟩:=aL z
   exact e1 (Vj _ hE)
  ·exact h2 ((m' _).mpr (.inr (.inr z)))
 ·intro u v h z
  rcases (m' _).mp z with z | z | z
  ·obtain ⟨rfl,rfl⟩:=aL z
   exact s4 h
  ·obtain ⟨rfl,rfl⟩:=aL z
   exact s3 h
  ·exact k.rZ u v h ((m _).mpr (.inr (.inr z)))
 ·intro u v h
  refine (k.has u v h).imp id fun z=>?_
  rcases (m _).mp z with z | z | z
  ·obtain ⟨rfl,rfl⟩:=aL z
   exact absurd h s1
  ·obtain ⟨rfl,rfl⟩:=aL z
   exact absurd h s2
  ·exact (m' _).mpr (.inr (.inr z))
theorem bJ.nodup (k:bJ Q ts):ts.Nodup:=by
 have nd:=k.wB.nd
 have bK:=k.bK
 clear k
 induction ts with
 | nil=>exact .nil
 | cons t r ih=>
   have e:aU (t :: r)=dh t ++ aU r:=by unfold aU;rw [Wl]
   rw [e] at nd
   obtain ⟨_,n2,n3⟩:=VU.mp nd
   refine VC.mpr ⟨fun z=>?_,ih n2 fun u hu=>bK u (Vj _ hu)⟩
   obtain ⟨u,v,w,e,_⟩:=(bK t (by simp)).parts
   have m: [u,v]∈dh t:=by rw [e];simp [dh]
   exact n3 _ m _ (br.mpr ⟨t,z,m⟩) rfl
theorem bJ.flip (k:bJ Q ts) (nf:¬ Flat Q) {rest ts':List (List Pl)} {u1 u2:List Pl} (p:ts.Perm (t1 :: t2 :: rest)) (r1:bS t1 a b c) (r2:bS t2 b a d) (cv:tw c d a*tw c d b < 0)
 (p':ts'.Perm (u1 :: u2 :: rest)) (v1:bS u1 a d c) (v2:bS u2 b c d) (l1:dY u1) (l2:dY u2):bJ Q ts':=by
 have h1:t1∈ts:=p.mem_iff.mpr (by simp)
 have h2:t2∈ts:=p.mem_iff.mpr (by simp)
 obtain ⟨p1,ha,hb,hc⟩:=r1.tw (k.bK t1 h1)
 obtain ⟨p2,_,_,hd⟩:=r2.tw (k.bK t2 h2)
 obtain ⟨s1,s2⟩:=ju p1 p2 cv
 obtain ⟨n1,n2⟩:=k.G1 nf h1 r1 h2 r2 cv
 have ne:c≠d:=fun z=>by rw [z,(dJ d b).2.2] at s1;omega
 refine ⟨k.m5,?_,fun t ht=>?_⟩
 ·have e1:(aU ts).Perm ([a,b] :: [b,a] :: ([b,c] :: [c,a] :: [a,d] :: [d,b] :: aU rest)):=by
   have q1:(aU ts).Perm (dh t1 ++ (dh t2 ++ aU rest)):=by
    have:=p.flatMap_right (f:=dh)
    unfold aU
    simpa only [Wl] using this
   refine q1.trans (((r1.dir.append_right _).trans ((r2.dir.append_right _).append_left _)).trans ?_)
   exact .cons _ (Yy (l₁:=[[b,c],[c,a]]))
  have e2:(aU ts').Perm ([c,d] :: [d,c] :: ([b,c] :: [c,a] :: [a,d] :: [d,b] :: aU rest)):=by
   have q1:(aU ts').Perm (dh u1 ++ (dh u2 ++ aU rest)):=by
    have:=p'.flatMap_right (f:=dh)
    unfold aU
    simpa only [Wl] using this
   refine q1.trans (((v1.dir.append_right _).trans ((v2.dir.append_right _).append_left _)).trans ?_)
   show ([a,d] :: [d,c] :: [c,a] :: [b,c] :: [c,d] :: [d,b] :: aU rest).Perm _
   refine (Yy (l₁:=[[a,d],[d,c],[c,a],[b,c]])).trans (.cons _ ?_)
   refine (List.Perm.swap _ _ _).trans (.cons _ ?_)
   exact (XO [[b,c],[c,a],[a,d]]).append_right _
  refine k.wB.swap e1 e2 n1 n2 ne hc hd (fun h=>?_) (fun h=>?_) (fun h=>?_) (fun h=>?_)
  ·have:=(h.2.2.2 d hd).1;have:=bU a b d;omega
  ·have:=(h.2.2.2 c hc).1;have:=bU a b c;omega
  ·have:=(h.2.2.2 a ha).1;omega
  ·have:=(h.2.2.2 b hb).1;have:=bU c d b;omega
 ·rcases Vl.mp (p'.mem_iff.mp ht) with rfl | ht
  ·exact ⟨l1,fun q hq=>by rcases (v1.mem q).mp hq with rfl | rfl | rfl <;> assumption⟩
  ·rcases Vl.mp ht with rfl | ht
   ·exact ⟨l2,fun q hq=>by rcases (v2.mem q).mp hq with rfl | rfl | rfl <;> assumption⟩
   ·exact k.bK t (p.mem_iff.mpr (Vj _ (Vj _ ht)))
end
end L3
namespace L3
theorem Af {Q:List Pl} {p:Pl} (s:cE (Q ++ [p])) (h:Q≠[]):(SL (Q ++ [p])).length+(bZ Q p).length=(SL Q).length+2:=by
 have g:=GR s
 have so:=s.old
 have l2:2≤(Q ++ [p]).length:=by
  have:=Yl.mpr h
  rw [VA,Xk];omega
 obtain ⟨u,hu⟩:=(o9 s l2).2 p (by simp)
 obtain ⟨v,hv⟩:=rV s hu
 have sp:=split_len (Fl p) (SL Q)
 have np:∀ a b,[a,b]∈SL Q→a≠p∧b≠p:=fun a b m=>by
  have:=(bR so).mp m
  exact ⟨fun z=>s.out (z▸this.1),fun z=>s.out (z▸this.2.1)⟩
 have:=sub_len (l:=[u,p] :: [p,v] :: (SL Q).filter (fun v=>!Fl p v)) (m:=SL (Q ++ [p])) (by
  refine VC.mpr ⟨fun z=>?_,VC.mpr ⟨fun z=>?_,(kF so).filter _⟩⟩
  ·rcases Vl.mp z with z | z
   ·exact hu.2.2.1 (aL z).1
   ·exact (np u p (Vu.mp z).1).2 rfl
  ·exact (np p v (Vu.mp z).1).1 rfl) (fun w hw=>by
  rcases Vl.mp hw with rfl | hw
  ·exact (bR s).mpr hu
  ·rcases Vl.mp hw with rfl | hw
   ·exact (bR s).mpr hv
   ·obtain ⟨m,k⟩:=Vu.mp hw
    obtain ⟨a,b,rfl⟩:=iM m
    have sd:=(bR so).mp m
    refine (bR s).mpr ((gM s sd.1 sd.2.1).mpr ⟨sd,?_⟩)
    replace k:(!decide (tw a b p < 0))=true:=k
    rw [Wv] at k
    have:=of_decide_eq_false k
    omega)
 rw [VN,VN] at this
 unfold bZ at *
 omega
theorem sy {qs:List Pl} (s:cE qs):∀ k,k+1≤qs.length→(qm qs (k+1)).length+(SL (qs.take (k+1))).length=2*k
 | 0,h=>by
   have e:SL (qs.take 0)= []:=nQ (by simp)
   rw [nQ (by simp;omega)]
   show (qm qs 0 ++ (bZ (qs.take 0) (yr qs 0)).map (Ep (yr qs 0))).length+0=0
   unfold bZ
   rw [e]
   rfl
 | k+1,h=>by
   have st:=s.take (k+2)
   have ih:=sy s k (by omega)
   rw [pC (by omega)] at st ⊢
   have ne:qs.take (k+1)≠[]:=fun z=>by
    have:=congrArg List.length z
    rw [Wq,WL] at this
    omega
   have:=Af st ne
   show (qm qs (k+1) ++ (bZ (qs.take (k+1)) (yr qs (k+1))).map (Ep (yr qs (k+1)))).length+_=_
   rw [VA,Vk]
   omega
theorem Cr {qs:List Pl} (s:cE qs) (h:2≤qs.length):(qm qs qs.length).length+(bQ qs).length+2=2*qs.length:=by
 obtain ⟨l2,e,_⟩:=uX s h
 have:=sy s (qs.length - 1) (by omega)
 rw [show qs.length - 1+1=qs.length by omega,VZ,e,Xy,VA,Wh,Wq] at this
 omega
def cr:List Pl→Int
 | [a,b]=>a.x*b.y - a.y*b.x
 | _=>0
def S0 (bd:List Pl) (k:Nat):Pl:=if k=0 then bd.getLastD ⟨0,0⟩ else yr bd (k - 1)
def rP (bd:List Pl):Nat→Int
 | 0=>0
 | k+1=>rP bd k+cr [S0 bd k,yr bd k]
end L3
namespace L3
theorem yw {P:Pl→Prop}:∀ {l:List Pl} {x y:Pl},l.head?=some x→l.getLast?=some y→P x→¬ P y→∃ a b,Nx l a b∧P a∧¬ P b
 | [],_,_,h,_,_,_=>by cases h
 | [z],x,y,h1,h2,p,q=>by
   have e1:z=x:=by simpa using h1
   have e2:z=y:=by simpa using h2
   rw [← e1] at p
   rw [← e2] at q
   exact absurd p q
 | z :: u :: r,x,y,h1,h2,p,q=>by
   have e1:z=x:=by simpa using h1
   have h2':(u :: r).getLast?=some y:=by simpa using h2
   rw [← e1] at p
   by_cases k:P u
   ·obtain ⟨a,b,n,pa,pb⟩:=yw (l:=u :: r) rfl h2' k q
    exact ⟨a,b,.inr n,pa,pb⟩
   ·exact ⟨z,u,.inl ⟨rfl,rfl⟩,p,k⟩
theorem Ag {Q:List Pl} (s:cE Q) (h2:2≤Q.length):∃ (T:List Pl) (x y:Pl),T.head?=some x∧T.getLast?=some y∧(∀ q∈Q,aj.f x≤aj.f q∧aj.f q≤aj.f y)∧∀ a b,Nx T a b→aO Q a b:=by
 obtain ⟨hs,hok⟩:=id s
 have hne:Q≠[]:=fun z=>by rw [z] at h2;simp at h2
 obtain ⟨x,hx⟩:∃ x,Q.head?=some x:=by
  cases e:Q with
  | nil=>exact absurd e hne
  | cons x r=>exact ⟨x,rfl⟩
 obtain ⟨y,hy⟩:∃ y,Q.getLast?=some y:=⟨_,Wb hne⟩
 have mx:x∈Q:=W2 hx
 have my:y∈Q:=Wt hy
 have hend:=fW hs hx hy
 have be:∀ p∈Q,∀ q∈Q,(aI p q↔aj.f p < aj.f q):=fun p hp q hq=>kE (hok p hp) (hok q hq)
 have C1:Ch aj Q (Q.foldl aM []):=kC hne (hs.imp_of_mem fun hp hq h=>(be _ hp _ hq).mp h)
 have key:∀ p∈Q,∀ q∈Q,(p=q∨aI p q)→aj.f p≤aj.f q:=fun p hp q hq k=>by
  rcases k with rfl | k
  ·exact Wa _
  ·have a1:=(be p hp q hq).mp k
   omega
 have lo:∀ q∈Q,aj.f x≤aj.f q:=fun q hq=>key x mx q hq ((hend q hq).1.imp Eq.symm id)
 have hi:∀ q∈Q,aj.f q≤aj.f y:=fun q hq=>key q hq y my (hend q hq).2
 obtain ⟨p1,p2⟩:=C1.ends mx my lo hi
 refine ⟨(Q.foldl aM []).reverse,x,y,by rw [WV];exact p2,by rw [WA];exact p1,fun q hq=>⟨lo q hq,hi q hq⟩,fun a b k=>?_⟩
 obtain ⟨c1,c2,c3,c4⟩:=(gJ C1).mp ((k8 _ a b).mpr k)
 refine ⟨c1,c2,fun z=>by rw [z] at c3;omega,rX s c1 c2 fun q hq=>?_⟩
 obtain ⟨k1,k2⟩:=c4 q hq
 refine ⟨k1,fun z h=>?_⟩
 have:=k2 z
 omega
theorem MV (a b p q r:Pl) (x:Pt):hw a b x*tw p q r=hw q r x*tw a b p+hw r p x*tw a b q+hw p q x*tw a b r:=by unfold hw tw;grind
theorem G2 {Q:List Pl} (s:cE Q) (h2:2≤Q.length) {x:Pt} (g:Gen Q x) {p q r:Pl} (hp:p∈Q) (hq:q∈Q) (hr:r∈Q) (t:0 < tw p q r) (i1:0 < hw p q x) (i2:0 < hw q r x) (i3:0 < hw r p x):1≤sz (wL aj x) (SL Q):=by
 have left:∀ a b,aO Q a b→0 < hw a b x:=fun a b h=>by
  have e:=MV a b p q r x
  have m1:=Vs (VF i2) (h.2.2.2 p hp).1
  have m2:=Vs (VF i3) (h.2.2.2 q hq).1
  have m3:=Vs (VF i1) (h.2.2.2 r hr).1
  have n:=g.2 a h.1 b h.2.1 h.2.2.1
  apply Vi
  intro z
  have:=V7 (a:=hw a b x) (b:=tw p q r) (by omega) t
  omega
 have flat:∀ a b,aO Q a b→Ig aj x b a=0:=fun a b h=>by
  unfold Ig
  rw [if_neg]
  rintro ⟨_,_,k⟩
  have:=left a b h
  rw [iw] at k
  omega
 obtain ⟨T,lo,hi,e1,e2,e3,e4⟩:=Ag s h2
 have fN:∀ u v:Pl,aj.f u≤aj.f v→jO aj u x≤jO aj v x:=fun u v h=>by
  unfold jO
  have:=W0 h (VF g.1)
  omega
 have k:=ED aj p q r x
 have P1:jO aj lo x≤0:=by
  apply Vi
  intro z
  have a1:=fN lo p (e3 p hp).1
  have a2:=fN lo q (e3 q hq).1
  have a3:=fN lo r (e3 r hr).1
  have m1:=VH i2 (show 0 < jO aj p x by omega)
  have m2:=VH i3 (show 0 < jO aj q x by omega)
  have m3:=VH i1 (show 0 < jO aj r x by omega)
  omega
 have P2:¬ jO aj hi x≤0:=by
  intro z
  have a1:=fN p hi (e3 p hp).2
  have a2:=fN q hi (e3 q hq).2
  have a3:=fN r hi (e3 r hr).2
  have m1:=VE (VF i2) (show jO aj p x≤0 by omega)
  have m2:=VE (VF i3) (show jO aj q x≤0 by omega)
  have m3:=VE (VF i1) (show jO aj r x≤0 by omega)
  have z1:jO aj p x=0:=(VB.mp (show hw q r x*jO aj p x=0 by omega)).resolve_left (by omega)
  have z2:jO aj q x=0:=(VB.mp (show hw r p x*jO aj q x=0 by omega)).resolve_left (by omega)
  have ne:p≠q:=fun e=>by rw [e,(dJ q r).2.2] at t;omega
  have g1:=g.1
  refine wg s hp hq ne (XQ (a:=x.N) (by omega) ?_)
  unfold jO at z1 z2
  omega
 obtain ⟨a,b,n,pa,pb⟩:=yw (P:=fun v=>jO aj v x≤0) e1 e2 P1 P2
 have Qa:=e4 a b n
 have one:wL aj x [a,b]=1:=by
  show wn aj x a b=1
  unfold wn
  rw [flat a b Qa]
  unfold Ig
  rw [if_pos ⟨pa,by omega,left a b Qa⟩]
  rfl
 have nn:∀ d∈SL Q,0≤wL aj x d:=fun d hd=>by
  obtain ⟨u,v,rfl⟩:=iM hd
  show 0≤wn aj x u v
  unfold wn
  rw [flat u v ((bR s).mp hd)]
  unfold Ig
  split <;> omega
 have key:∀ {l:List (List Pl)},(∀ d∈l,0≤wL aj x d)→(0≤sz (wL aj x) l∧∀ d∈l,wL aj x d≤sz (wL aj x) l):=fun {l} hl=>by
  induction l with
  | nil=>exact ⟨by simp [sz],fun d hd=>by cases hd⟩
  | cons e l ih=>
    obtain ⟨h1,h2⟩:=ih fun d hd=>hl d (Vj _ hd)
    have h0:=hl e (by simp)
    refine ⟨by show 0≤wL aj x e+sz (wL aj x) l;omega,fun d hd=>?_⟩
    show _≤wL aj x e+sz (wL aj x) l
    rcases Vl.mp hd with rfl | hd
    ·omega
    ·have:=h2 d hd;omega
 have:=(key nn).2 [a,b] ((bR s).mpr Qa)
 omega
theorem bJ.some {Q:List Pl} {ts:List (List Pl)} (c:bJ Q ts) (nf:¬ Flat Q) {x:Pt} (g:Gen Q x) {p q r:Pl} (hp:p∈Q) (hq:q∈Q) (hr:r∈Q) (t:0 < tw p q r) (i1:0 < hw p q x) (i2:0 < hw q r x) (i3:0 < hw r p x):∃ u∈ts,ins x u=1:=by
 have h2:2≤Q.length:=by
  apply Vi
  intro z
  exact nf (gK (by omega))
 have k:=G2 c.m5 h2 g hp hq hr t i1 i2 i3
 rw [← EG c.m5 nf c.wB fun a b=>Bk aj x a b,wA c.m5 g c.bK] at k
 apply Vi
 intro no
 have z:∀ {l:List (List Pl)},(∀ u∈l,ins x u≠1)→sz (ins x) l≤0:=fun {l} hl=>by
  induction l with
  | nil=>simp [sz]
  | cons e l ih=>
    have h1:=ih fun d hd=>hl d (Vj _ hd)
    have h0:=hl e (by simp)
    have:ins x e=0∨ins x e=1:=by
     unfold ins
     split
     ·split
      ·exact .inr rfl
      ·exact .inl rfl
     ·exact .inl rfl
    show ins x e+sz (ins x) l≤0
    omega
 have:=z fun u hu e=>no ⟨u,hu,e⟩
 omega
def lV (p q:Pl) (v:Pl):Int:=(q.x - p.x)*v.y - (q.y - p.y)*v.x
def zb (p q:Pl) (v:Pl):Int:=(q.x - p.x)*v.x+(q.y - p.y)*v.y
def Lex (X:Pt) (v p q:Pl):Prop:=0 < hw p q X∨(hw p q X=0∧(0 < lV p q v∨(lV p q v=0∧0 < zb p q v)))
theorem Bo {p q v:Pl} (n:p≠q) (nv:v≠⟨0,0⟩) (h:lV p q v=0):zb p q v≠0:=fun z=>by
 refine pG (p:=p) (q:=q) (c:=⟨0,0⟩) (d:=v) n (Ne.symm nv) ?_ ?_
 ·unfold tw
  unfold lV at h
  dsimp only
  grind
 ·unfold Ae
  unfold zb at z
  dsimp only
  grind
theorem beside {Q:List Pl} {X:Pt} (hN:0 < X.N) {v:Pl} (nv:v≠⟨0,0⟩):∃ x:Pt,Gen Q x∧∀ p∈Q,∀ q∈Q,Lex X v p q→0 < hw p q x:=by
 obtain ⟨B,hB⟩:=EJ (fun p q=>(lV p q v).natAbs+(zb p q v).natAbs) Q
 refine ⟨⟨((B:Int)+1)*(B+1)*X.X+(B+1)*v.x - v.y,((B:Int)+1)*(B+1)*X.Y+(B+1)*v.y+v.x,((B:Int)+1)*(B+1)*X.N⟩,?_⟩
 have e:∀ p q,hw p q ⟨((B:Int)+1)*(B+1)*X.X+(B+1)*v.x - v.y,((B:Int)+1)*(B+1)*X.Y+(B+1)*v.y+v.x,((B:Int)+1)*(B+1)*X.N⟩=((B:Int)+1)*(B+1)*hw p q X+(B+1)*lV p q v+zb p q v:=fun p q=>by unfold hw lV zb;grind
 have S1:0 < ((B:Int)+1)*(B+1)*X.N:=VH (VH (by omega) (by omega)) hN
 have key:∀ p∈Q,∀ q∈Q,Lex X v p q→0 < ((B:Int)+1)*(B+1)*hw p q X+(B+1)*lV p q v+zb p q v:=fun p hp q hq h=>by
  have b:=hB p hp q hq
  exact MU (by omega) (by omega) (by omega) h
 refine ⟨⟨S1,fun p hp q hq n z=>?_⟩,fun p hp q hq h=>by rw [e];exact key p hp q hq h⟩
 rw [e] at z
 have f1:=iw p q X
 have f2:lV q p v= -lV p q v:=by unfold lV;grind
 have f3:zb q p v= -zb p q v:=by unfold zb;grind
 have k1:=key p hp q hq
 have k2:=key q hq p hp
 have e2:((B:Int)+1)*(B+1)*hw q p X+(B+1)*lV q p v+zb q p v= -(((B:Int)+1)*(B+1)*hw p q X+(B+1)*lV p q v+zb p q v):=by rw [f1,f2,f3];grind
 rw [e2] at k2
 unfold Lex at k1 k2
 by_cases c0:hw p q X=0
 ·by_cases d0:lV p q v=0
  ·have:=Bo n nv d0
   rcases V4 this with y | y
   ·have:=k2 (.inr ⟨by omega,.inr ⟨by omega,by omega⟩⟩);omega
   ·have:=k1 (.inr ⟨c0,.inr ⟨d0,y⟩⟩);omega
  ·rcases V4 d0 with y | y
   ·have:=k2 (.inr ⟨by omega,.inl (by omega)⟩);omega
   ·have:=k1 (.inr ⟨c0,.inl y⟩);omega
 ·rcases V4 c0 with y | y
  ·have:=k2 (.inl (by omega));omega
  ·have:=k1 (.inl y);omega
def Wk (X:Pt) (a b c:Pl):Prop:=0≤hw a b X∧0≤hw b c X∧0≤hw c a X
theorem into {X:Pt} (hN:0 < X.N) {a b c:Pl} (t:0 < tw a b c) (h:Wk X a b c):∃ v:Pl,v≠⟨0,0⟩∧Lex X v a b∧Lex X v b c∧Lex X v c a:=by
 have pN:=VH hN t
 have e1:lV a b ⟨X.N*(a.x+b.x+c.x) - 3*X.X,X.N*(a.y+b.y+c.y) - 3*X.Y⟩=X.N*tw a b c - 3*hw a b X:=by unfold lV tw hw;grind
 have e2:lV b c ⟨X.N*(a.x+b.x+c.x) - 3*X.X,X.N*(a.y+b.y+c.y) - 3*X.Y⟩=X.N*tw a b c - 3*hw b c X:=by unfold lV tw hw;grind
 have e3:lV c a ⟨X.N*(a.x+b.x+c.x) - 3*X.X,X.N*(a.y+b.y+c.y) - 3*X.Y⟩=X.N*tw a b c - 3*hw c a X:=by unfold lV tw hw;grind
 generalize (⟨X.N*(a.x+b.x+c.x) - 3*X.X,X.N*(a.y+b.y+c.y) - 3*X.Y⟩:Pl)=v at e1 e2 e3
 obtain ⟨h1,h2,h3⟩:=h
 by_cases z:v= ⟨0,0⟩
 ·have y1:lV a b v=0:=by rw [z];unfold lV;grind
  have y2:lV b c v=0:=by rw [z];unfold lV;grind
  have y3:lV c a v=0:=by rw [z];unfold lV;grind
  exact ⟨⟨1,0⟩,by simp,.inl (by omega),.inl (by omega),.inl (by omega)⟩
 ·have one:∀ p q,0≤hw p q X→lV p q v=X.N*tw a b c - 3*hw p q X→Lex X v p q:=fun p q k e=>by
   by_cases y:hw p q X=0
   ·exact .inr ⟨y,.inl (by omega)⟩
   ·exact .inl (by omega)
  exact ⟨v,z,one a b h1 e1,one b c h2 e2,one c a h3 e3⟩
section
variable {Q:List Pl} {ts:List (List Pl)} {X:Pt}
theorem bJ.same (k:bJ Q ts) (nf:¬ Flat Q) (hN:0 < X.N) {t u:List Pl} (ht:t∈ts) (hu:u∈ts) {a b c a' b' c':Pl} (r:bS t a b c) (r':bS u a' b' c') {v:Pl} (nv:v≠⟨0,0⟩)
 (h1:Lex X v a b) (h2:Lex X v b c) (h3:Lex X v c a) (g1:Lex X v a' b') (g2:Lex X v b' c') (g3:Lex X v c' a'):t=u:=by
 obtain ⟨_,ha,hb,hc⟩:=r.tw (k.bK t ht)
 obtain ⟨_,ha',hb',hc'⟩:=r'.tw (k.bK u hu)
 obtain ⟨x,g,hx⟩:=beside (Q:=Q) hN nv
 exact k.one nf g ht hu (r.ins (hx _ ha _ hb h1) (hx _ hb _ hc h2) (hx _ hc _ ha h3)) (r'.ins (hx _ ha' _ hb' g1) (hx _ hb' _ hc' g2) (hx _ hc' _ ha' g3))
theorem bJ.alone (k:bJ Q ts) (nf:¬ Flat Q) (hN:0 < X.N) {t u:List Pl} (ht:t∈ts) (hu:u∈ts) {a b c a' b' c':Pl} (r:bS t a b c) (r':bS u a' b' c') (h1:0 < hw a b X) (h2:0 < hw b c X) (h3:0 < hw c a X) (h:Wk X a' b' c'):t=u:=by
 obtain ⟨p,_⟩:=r'.tw (k.bK u hu)
 obtain ⟨v,nv,g1,g2,g3⟩:=into hN p h
 exact k.same nf hN ht hu r r' nv (.inl h1) (.inl h2) (.inl h3) g1 g2 g3
theorem vc {a b c:Pl} (t:0 < tw a b c) (h1:hw a b X=0) (h2:hw b c X=0):X.X=X.N*b.x∧X.Y=X.N*b.y:=by
 have e1:tw a b c*(X.X - X.N*b.x)=hw a b X*(c.x - b.x)+hw b c X*(a.x - b.x):=by unfold tw hw;grind
 have e2:tw a b c*(X.Y - X.N*b.y)=hw a b X*(c.y - b.y)+hw b c X*(a.y - b.y):=by unfold tw hw;grind
 rw [h1,h2,WU,WU] at e1 e2
 have z1:=(VB.mp (e1.trans (by omega))).resolve_left (by omega)
 have z2:=(VB.mp (e2.trans (by omega))).resolve_left (by omega)
 omega
end
end L3
namespace L3
section
variable {Q:List Pl} {X:Pt}
end
end L3
namespace L3
def cK (H:Pl→Int) (a b c p:Pl):Int:=tw a b c*H p - (tw b c p*H a+tw c a p*H b+tw a b p*H c)
def Ih (p:Pl):Int:=p.x*p.x+p.y*p.y
theorem G3 (a b c d:Pl):cK Ih a b c d= -dep a b c d:=by unfold cK Ih dep vN tw;grind
theorem G4 (K C:Int) (f g:Pl→Int) (a b c d:Pl):cK (fun p=>K*f p - g p+C) a b c d=K*cK f a b c d - cK g a b c d:=by unfold cK tw;grind
theorem qJ (H:Pl→Int) (a b c p:Pl):cK H b c a p=cK H a b c p:=by unfold cK tw;grind
theorem Ii (H:Pl→Int) (a b c:Pl):cK H a b c a=0:=by unfold cK tw;grind
theorem Ij (H:Pl→Int) (a b c:Pl):cK H a b c b=0:=by unfold cK tw;grind
theorem Bp (H:Pl→Int) (a b c:Pl):cK H a b c c=0:=by unfold cK tw;grind
theorem yx (H:Pl→Int) (a b c d:Pl):cK H a b d c= -cK H a b c d:=by unfold cK tw;grind
theorem vd (H:Pl→Int) (a b c q p:Pl):cK H b a q p*tw a b c=cK H a b c p*tw b a q - cK H a b c q*tw b a p:=by unfold cK tw;grind
theorem yy (H:Pl→Int) (a b c q p:Pl):cK H a b q p*tw a b c=cK H a b c p*tw a b q - cK H a b c q*tw a b p:=by unfold cK tw;grind
theorem sA {α:Type} (f:α→Int):∀ l:List α,∃ B:Nat,∀ x∈l,(f x).natAbs≤B
 | []=>⟨0,fun x hx=>by cases hx⟩
 | y :: r=>by
   obtain ⟨B,hB⟩:=sA f r
   refine ⟨B+(f y).natAbs,fun x hx=>?_⟩
   rcases Vl.mp hx with rfl | hx
   ·omega
   ·have:=hB x hx;omega
theorem Ka (f:Pl→Pl→Pl→Int) (Q:List Pl):∃ B:Nat,∀ a∈Q,∀ b∈Q,∀ c∈Q,(f a b c).natAbs≤B:=by
 obtain ⟨B,hB⟩:=sA id (Q.flatMap fun a=>Q.flatMap fun b=>Q.map fun c=>f a b c)
 exact ⟨B,fun a ha b hb c hc=>hB _ (We.mpr ⟨a,ha,We.mpr ⟨b,hb,VJ.mpr ⟨c,hc,rfl⟩⟩⟩)⟩
theorem Kc (f:Pl→Pl→Pl→Pl→Int) (Q:List Pl):∃ B:Nat,∀ a∈Q,∀ b∈Q,∀ c∈Q,∀ d∈Q,(f a b c d).natAbs≤B:=by
 obtain ⟨B,hB⟩:=sA id (Q.flatMap fun a=>Q.flatMap fun b=>Q.flatMap fun c=>Q.map fun d=>f a b c d)
 exact ⟨B,fun a ha b hb c hc d hd=>hB _ (We.mpr ⟨a,ha,We.mpr ⟨b,hb,We.mpr ⟨c,hc,VJ.mpr ⟨d,hd,rfl⟩⟩⟩⟩)⟩
theorem Bq {α:Type} {f g:α→Bool}:∀ {l:List α},(∀ x∈l,f x=true→g x=true)→(l.filter f).length≤(l.filter g).length
 | [],_=>Vr _
 | y :: r,h=>by
   have ih:=Bq (l:=r) fun x hx=>h x (Vj _ hx)
   rw [Wz,Wz]
   have hy:=h y (by simp)
   cases e1:f y <;> cases e2:g y <;> simp_all <;> omega
theorem Br {α:Type} {f g:α→Bool} {y:α}:∀ {l:List α},(∀ x∈l,f x=true→g x=true)→y∈l→f y=false→g y=true→(l.filter f).length < (l.filter g).length
 | z :: r,h,m,e1,e2=>by
   have hr:∀ x∈r,f x=true→g x=true:=fun x hx=>h x (Vj _ hx)
   have le:=Bq hr
   rw [Wz,Wz]
   rcases Vl.mp m with rfl | m
   ·simp [e1,e2];omega
   ·have ih:=Br hr m e1 e2
    have hz:=h z (by simp)
    cases e3:f z <;> cases e4:g z <;> simp_all <;> omega
theorem MW (Q:List Pl) (B:Nat) (hB:0 < B):∃ w:Pl→Int,(∀ p∈Q,0 < w p)∧∀ p∈Q,∀ q∈Q,aI p q→(B:Int)*w q≤w p:=by
 refine ⟨fun p=>((B ^ (Q.filter fun q=>decide (aI p q)).length:Nat):Int),fun p _=>?_,fun p _ q hq h=>?_⟩
 ·have:=Nat.pow_pos (n:=(Q.filter fun q=>decide (aI p q)).length) hB
  show (0:Int) < ((B ^ (Q.filter fun q=>decide (aI p q)).length:Nat):Int)
  omega
 ·have lt:(Q.filter fun r=>decide (aI q r)).length < (Q.filter fun r=>decide (aI p r)).length:=
   Br (y:=q) (fun x _ hx=>decide_eq_true (bA h (of_decide_eq_true hx))) hq (decide_eq_false (bg q)) (decide_eq_true h)
  have h1:B ^ ((Q.filter fun r=>decide (aI q r)).length+1)≤B ^ (Q.filter fun r=>decide (aI p r)).length:=Yj hB lt
  rw [Nat.pow_succ,Nat.mul_comm] at h1
  show (B:Int)*((B ^ (Q.filter fun r=>decide (aI q r)).length:Nat):Int)≤((B ^ (Q.filter fun r=>decide (aI p r)).length:Nat):Int)
  rw [← Int.natCast_mul]
  exact Int.ofNat_le.mpr h1
structure Ht (Q:List Pl) (H:Pl→Int):Prop where
 xw:∀ a∈Q,∀ b∈Q,∀ c∈Q,∀ d∈Q,0 < tw a b c→(eB a b c d↔cK H a b c d < 0)
 gen:∀ a∈Q,∀ b∈Q,∀ c∈Q,∀ d∈Q,0 < tw a b c→cK H a b c d=0→d=a∨d=b∨d=c
 nn:∀ p∈Q,0≤H p
theorem nU {T:Nat} {k t1 t2 t3:Int} {w w1 w2 w3:Int} (hk:k≠0) (b1:t1.natAbs≤T) (b2:t2.natAbs≤T) (b3:t3.natAbs≤T) (p1:0 < w1) (p2:0 < w2) (p3:0 < w3)
 (l1:((3*T+1:Nat):Int)*w1≤w) (l2:((3*T+1:Nat):Int)*w2≤w) (l3:((3*T+1:Nat):Int)*w3≤w) (hw0:0 < w):(0 < k→0 < k*w+t1*w1+t2*w2+t3*w3)∧(k < 0→k*w+t1*w1+t2*w2+t3*w3 < 0):=by
 have bnd:∀ {t v:Int},t.natAbs≤T→0 < v→ -((T:Int)*v)≤t*v∧t*v≤(T:Int)*v:=fun {t v} ht hv=>by
  have c1:t≤(T:Int):=by omega
  have c2: -(T:Int)≤t:=by omega
  have d1:=VL c1 (VF hv)
  have d2:=VL c2 (VF hv)
  rw [Xm] at d2
  exact ⟨d2,d1⟩
 have e:∀ v:Int,((3*T+1:Nat):Int)*v=3*((T:Int)*v)+v:=fun v=>by
  have:((3*T+1:Nat):Int)=3*(T:Int)+1:=by omega
  rw [this];grind
 rw [e] at l1 l2 l3
 have x1:=bnd b1 p1
 have x2:=bnd b2 p2
 have x3:=bnd b3 p3
 refine ⟨fun h=>?_,fun h=>?_⟩
 ·have:1*w≤k*w:=VL (by omega) (VF hw0)
  omega
 ·have:k*w≤(-1)*w:=VL (by omega) (VF hw0)
  omega
theorem sC {a b c d:Pl} (hT:0 < tw a b c) (h0:dep a b c d=0) (nb:d≠b) (nc:d≠c):tw b c d≠0:=fun z=>by
 rcases vX (by omega) h0 z with h | h
 ·exact nb h
 ·exact nc h
theorem Cs (a b c d:Pl) (n1:a≠b) (n2:b≠c) (n3:c≠a) (n4:d≠a) (n5:d≠b) (n6:d≠c):(aI d a∧aI d b∧aI d c)∨(aI a b∧aI a c∧aI a d)∨(aI b a∧aI b c∧aI b d)∨(aI c a∧aI c b∧aI c d):=by
 have x:∀ {p q:Pl},p≠q→aI p q∨aI q p:=fun {p q} n=>by
  rcases bT p q with h | h | h
  ·exact .inl h
  ·exact absurd h n
  ·exact .inr h
 rcases x n1 with h1 | h1 <;> rcases x n2 with h2 | h2 <;> rcases x n3 with h3 | h3 <;> rcases x n4 with h4 | h4 <;> rcases x n5 with h5 | h5 <;> rcases x n6 with h6 | h6 <;>
 first
 | exact .inl ⟨h4,h5,h6⟩
 | exact .inr (.inl ⟨h1,h3,h4⟩)
 | exact .inr (.inr (.inl ⟨h1,h2,h5⟩))
 | exact .inr (.inr (.inr ⟨h3,h2,h6⟩))
 | (exfalso;unfold aI at h1 h2 h3 h4 h5 h6;omega)
theorem fB (Q:List Pl):∃ H,Ht Q H:=by
 obtain ⟨T,hT⟩:=Ka tw Q
 obtain ⟨w,wp,wl⟩:=MW Q (3*T+1) (by omega)
 obtain ⟨K,hK⟩:=Kc (cK w) Q
 obtain ⟨C,hC⟩:=sA (fun p=>((K:Int)+1)*Ih p - w p) Q
 have MX:∀ a∈Q,∀ b∈Q,∀ c∈Q,∀ d∈Q,0 < tw a b c→dep a b c d=0→d≠a→d≠b→d≠c→cK w a b c d≠0∧(eB a b c d↔0 < cK w a b c d):=by
  intro a ha b hb c hc d hd p h0 n4 n5 n6
  have n1:a≠b:=fun z=>by rw [z] at p;unfold tw at p;grind
  have n2:b≠c:=fun z=>by rw [z] at p;unfold tw at p;grind
  have n3:c≠a:=fun z=>by rw [z] at p;unfold tw at p;grind
  have r0:=k7 h0
  have s1:=sC p h0 n5 n6
  have s2:=sC (a:=b) (b:=c) (c:=a) (d:=d) (by have:=iN a b c;omega) (by rw [qF];exact h0) n6 n4
  have s3:=sC (a:=c) (b:=a) (c:=b) (d:=d) (by have:=mL a b c;omega) (by rw [← qF c a b d];exact h0) n4 n5
  have e:cK w a b c d=tw a b c*w d+(-tw b c d)*w a+(-tw c a d)*w b+(-tw a b d)*w c:=by unfold cK;grind
  have sg:∀ {i:Int},i≠0→∀ {j:Int},0 < j→(i.sign≠j.sign↔i < 0):=fun {i} hi {j} hj=>by
   rw [V1 hj]
   constructor
   ·intro h
    apply Vi
    intro z
    exact h (V1 (by omega))
   ·intro h z
    rw [Ww h] at z
    omega
  have g1:=iN a b c
  have g2:=mL a b c
  have b1:=hT a ha b hb c hc
  have b2:=hT b hb c hc d hd
  have b3:=hT c hc a ha d hd
  have b4:=hT a ha b hb d hd
  have u1:=sg s1 (show 0 < tw b c a by omega)
  have u2:=sg s2 (show 0 < tw c a b by omega)
  have u3:=sg s3 (show 0 < tw a b c by omega)
  rcases Cs a b c d n1 n2 n3 n4 n5 n6 with ⟨m1,m2,m3⟩ | ⟨m1,m2,m3⟩ | ⟨m1,m2,m3⟩ | ⟨m1,m2,m3⟩
  ·have o:=nU (k:=tw a b c) (t1:= -tw b c d) (t2:= -tw c a d) (t3:= -tw a b d) (by omega) (by omega) (by omega) (by omega) (wp a ha) (wp b hb) (wp c hc) (wl d hd a ha m1) (wl d hd b hb m2) (wl d hd c hc m3) (wp d hd)
   have l:=o.1 p
   refine ⟨by omega,fun _=>by omega,fun _=> .inr ⟨r0,n4,n5,n6,.inl ⟨m1,m2,m3⟩⟩⟩
  ·have o:=nU (k:= -tw b c d) (t1:=tw a b c) (t2:= -tw c a d) (t3:= -tw a b d) (by omega) (by omega) (by omega) (by omega) (wp d hd) (wp b hb) (wp c hc) (wl a ha d hd m3) (wl a ha b hb m1) (wl a ha c hc m2) (wp a ha)
   refine ⟨fun z=>?_,fun h=>?_,fun h=>?_⟩
   ·rcases V4 s1 with q | q
    ·have:=o.1 (by omega);omega
    ·have:=o.2 (by omega);omega
   ·have:tw b c d < 0:=by
     rcases h with h | ⟨_,_,_,_,⟨h,_⟩ | ⟨_,_,_,h⟩ | ⟨h,_⟩ | ⟨h,_⟩⟩
     ·omega
     ·exact absurd h (az m3)
     ·exact u1.mp h
     ·exact absurd h (az m1)
     ·exact absurd h (az m2)
    have:=o.1 (by omega)
    omega
   ·refine .inr ⟨r0,n4,n5,n6,.inr (.inl ⟨m1,m2,m3,u1.mpr ?_⟩)⟩
    apply Vi
    intro z
    have:=o.2 (by omega)
    omega
  ·have o:=nU (k:= -tw c a d) (t1:=tw a b c) (t2:= -tw b c d) (t3:= -tw a b d) (by omega) (by omega) (by omega) (by omega) (wp d hd) (wp a ha) (wp c hc) (wl b hb d hd m3) (wl b hb a ha m1) (wl b hb c hc m2) (wp b hb)
   refine ⟨fun z=>?_,fun h=>?_,fun h=>?_⟩
   ·rcases V4 s2 with q | q
    ·have:=o.1 (by omega);omega
    ·have:=o.2 (by omega);omega
   ·have:tw c a d < 0:=by
     rcases h with h | ⟨_,_,_,_,⟨_,h,_⟩ | ⟨h,_⟩ | ⟨_,_,_,h⟩ | ⟨_,h,_⟩⟩
     ·omega
     ·exact absurd h (az m3)
     ·exact absurd h (az m1)
     ·exact u2.mp h
     ·exact absurd h (az m2)
    have:=o.1 (by omega)
    omega
   ·refine .inr ⟨r0,n4,n5,n6,.inr (.inr (.inl ⟨m1,m2,m3,u2.mpr ?_⟩))⟩
    apply Vi
    intro z
    have:=o.2 (by omega)
    omega
  ·have o:=nU (k:= -tw a b d) (t1:=tw a b c) (t2:= -tw b c d) (t3:= -tw c a d) (by omega) (by omega) (by omega) (by omega) (wp d hd) (wp a ha) (wp b hb) (wl c hc d hd m3) (wl c hc a ha m1) (wl c hc b hb m2) (wp c hc)
   refine ⟨fun z=>?_,fun h=>?_,fun h=>?_⟩
   ·rcases V4 s3 with q | q
    ·have:=o.1 (by omega);omega
    ·have:=o.2 (by omega);omega
   ·have:tw a b d < 0:=by
     rcases h with h | ⟨_,_,_,_,⟨_,_,h⟩ | ⟨_,h,_⟩ | ⟨_,h,_⟩ | ⟨_,_,_,h⟩⟩
     ·omega
     ·exact absurd h (az m3)
     ·exact absurd h (az m1)
     ·exact absurd h (az m2)
     ·exact u3.mp h
    have:=o.1 (by omega)
    omega
   ·refine .inr ⟨r0,n4,n5,n6,.inr (.inr (.inr ⟨m1,m2,m3,u3.mpr ?_⟩))⟩
    apply Vi
    intro z
    have:=o.2 (by omega)
    omega
 have eH:∀ a b c d,cK (fun p=>((K:Int)+1)*Ih p - w p+(C:Int)) a b c d= -(((K:Int)+1)*dep a b c d) - cK w a b c d:=fun a b c d=>by rw [G4,G3];grind
 have pos:∀ a∈Q,∀ b∈Q,∀ c∈Q,∀ d∈Q,0 < dep a b c d→cK (fun p=>((K:Int)+1)*Ih p - w p+(C:Int)) a b c d < 0:=fun a ha b hb c hc d hd h=>by
  rw [eH]
  have:=hK a ha b hb c hc d hd
  have:((K:Int)+1)*1≤((K:Int)+1)*dep a b c d:=W0 (by omega) (by omega)
  omega
 have neg:∀ a∈Q,∀ b∈Q,∀ c∈Q,∀ d∈Q,dep a b c d < 0→0 < cK (fun p=>((K:Int)+1)*Ih p - w p+(C:Int)) a b c d:=fun a ha b hb c hc d hd h=>by
  rw [eH]
  have:=hK a ha b hb c hc d hd
  have:((K:Int)+1)*dep a b c d≤((K:Int)+1)*(-1):=W0 (by omega) (by omega)
  omega
 refine ⟨fun p=>((K:Int)+1)*Ih p - w p+(C:Int),⟨fun a ha b hb c hc d hd p=>?_,fun a ha b hb c hc d hd p z=>?_,fun p hp=>?_⟩⟩
 ·rcases WG (dep a b c d) 0 with h | h | h
  ·have:=neg a ha b hb c hc d hd h
   refine ⟨fun s=>?_,fun s=>by omega⟩
   have:=(nD p s).1
   omega
  ·by_cases n4:d=a
   ·subst n4
    rw [Ii]
    refine ⟨fun s=>?_,fun s=>by omega⟩
    rcases s with s | ⟨_,n,_⟩
    ·rw [k7 h] at s;omega
    ·exact absurd rfl n
   by_cases n5:d=b
   ·subst n5
    rw [Ij]
    refine ⟨fun s=>?_,fun s=>by omega⟩
    rcases s with s | ⟨_,_,n,_⟩
    ·rw [k7 h] at s;omega
    ·exact absurd rfl n
   by_cases n6:d=c
   ·subst n6
    rw [Bp]
    refine ⟨fun s=>?_,fun s=>by omega⟩
    rcases s with s | ⟨_,_,_,n,_⟩
    ·rw [k7 h] at s;omega
    ·exact absurd rfl n
   have t:=(MX a ha b hb c hc d hd p h n4 n5 n6).2
   rw [eH,h,V3,t]
   omega
  ·have:=pos a ha b hb c hc d hd h
   exact ⟨fun _=>this,fun _=>mH p h⟩
 ·rcases WG (dep a b c d) 0 with h | h | h
  ·have:=neg a ha b hb c hc d hd h;omega
  ·apply Vi
   intro y
   have t:=(MX a ha b hb c hc d hd p h (fun e=>y (.inl e)) (fun e=>y (.inr (.inl e))) (fun e=>y (.inr (.inr e)))).1
   rw [eH,h,V3] at z
   omega
  ·have:=pos a ha b hb c hc d hd h;omega
 ·have:=hC p hp
  show 0≤((K:Int)+1)*Ih p - w p+(C:Int)
  omega
end L3
namespace L3
section
variable {Q:List Pl} {H:Pl→Int}
def oN (Q:List Pl) (t:List Pl):Prop:= ∀ d∈Q,¬ t6 t d
theorem Ht.Ct (h:Ht Q H) {t:List Pl} (hT:ic Q t) {a b c:Pl} (r:bS t a b c) {d:Pl} (hd:d∈Q):t6 t d↔cK H a b c d < 0:=by
 obtain ⟨p,ha,hb,hc⟩:=r.tw hT
 rcases r with rfl | rfl | rfl
 ·exact h.xw a ha b hb c hc d hd p
 ·rw [← qJ H a b c d]
  exact h.xw b hb c hc a ha d hd (by have:=iN a b c;omega)
 ·rw [qJ H c a b d]
  exact h.xw c hc a ha b hb d hd (by have:=mL a b c;omega)
theorem Ht.G5 (h:Ht Q H) {t:List Pl} (hT:ic Q t) {a b c:Pl} (r:bS t a b c):oN Q t↔∀ d∈Q,0≤cK H a b c d:=by
 constructor
 ·intro k d hd
  have:=k d hd
  rw [h.Ct hT r hd] at this
  omega
 ·intro k d hd
  rw [h.Ct hT r hd]
  have:=k d hd
  omega
theorem yz {a b c:Pl} (p:0 < tw a b c):∃ t,dY t∧bS t a b c:=by
 have g1:=iN a b c
 have g2:=mL a b c
 have n1:a≠b:=fun z=>by rw [z] at p;unfold tw at p;grind
 have n2:b≠c:=fun z=>by rw [z] at p;unfold tw at p;grind
 have n3:c≠a:=fun z=>by rw [z] at p;unfold tw at p;grind
 have x:∀ {p q:Pl},p≠q→aI p q∨aI q p:=fun {p q} n=>by
  rcases bT p q with h | h | h
  ·exact .inl h
  ·exact absurd h n
  ·exact .inr h
 rcases x n1 with h1 | h1
 ·rcases x n3 with h3 | h3
  ·exact ⟨[c,a,b],⟨c,a,b,rfl,h3,bA h3 h1,by omega⟩,.inr (.inr rfl)⟩
  ·exact ⟨[a,b,c],⟨a,b,c,rfl,h1,h3,p⟩,.inl rfl⟩
 ·rcases x n2 with h2 | h2
  ·exact ⟨[b,c,a],⟨b,c,a,rfl,h2,h1,by omega⟩,.inr (.inl rfl)⟩
  ·exact ⟨[c,a,b],⟨c,a,b,rfl,bA h2 h1,h2,by omega⟩,.inr (.inr rfl)⟩
theorem bS.S2 {t:List Pl} {a b c:Pl} (r:bS t a b c) (i:dY t) (ha:a∈Q) (hb:b∈Q) (hc:c∈Q):ic Q t:=⟨i,fun q hq=>by
 rcases (r.mem q).mp hq with rfl | rfl | rfl <;> assumption⟩
theorem ve {f g:Pl→Int}:∀ {l:List Pl},l≠[]→(∀ p∈l,0 < g p)→∃ q∈l,∀ p∈l,f q*g p≤f p*g q
 | [x],_,hg=>⟨x,by simp,fun p hp=>by rw [Vm.mp hp];exact Wa _⟩
 | x :: y :: r,_,hg=>by
   obtain ⟨q,hq,h⟩:=ve (f:=f) (g:=g) (l:=y :: r) (by simp) fun p hp=>hg p (Vj _ hp)
   have gx:=hg x (by simp)
   have gq:=hg q (Vj _ hq)
   rcases WK (f q*g x) (f x*g q) with k | k
   ·refine ⟨q,Vj _ hq,fun p hp=>?_⟩
    rcases Vl.mp hp with rfl | hp
    ·exact k
    ·exact h p hp
   ·refine ⟨x,by simp,fun p hp=>?_⟩
    rcases Vl.mp hp with rfl | hp
    ·exact Wa _
    ·have HY:=h p hp
     have gp:=hg p (Vj _ hp)
     refine XG ?_ gq
     have a1:=VL k (VF gp)
     have a2:=VL HY (VF gx)
     have e1:f x*g q*g p=f x*g p*g q:=by grind
     have e2:f q*g x*g p=f q*g p*g x:=by grind
     have e3:f p*g q*g x=f p*g x*g q:=by grind
     omega
theorem sD {a b c d:Pl} (h:d=a∨d=b∨d=c):¬ eB a b c d:=fun s=>by
 have z:dep a b c d=0:=by
  rcases h with rfl | rfl | rfl
  ·exact L4 _ _ _
  ·exact L5 _ _ _
  ·exact HN _ _ _
 rcases s with s | ⟨_,n1,n2,n3,_⟩
 ·rw [k7 z] at s;omega
 ·rcases h with h | h | h
  ·exact n1 h
  ·exact n2 h
  ·exact n3 h
theorem EK (a b p:Pl):dt a b p=rq a b p:=by unfold dt rq;grind
theorem Ah {a b c p:Pl} (t:0 < tw a b c) (z:tw a b p=0) (nb:¬ (aI (lo a b) p∧aI p (hi a b))):¬ eB a b c p:=fun s=>by
 by_cases e1:p=a
 ·exact sD (.inl e1) s
 by_cases e2:p=b
 ·exact sD (.inr (.inl e2)) s
 have d0:=(nD t s).1
 have e:dep a b c p= -(dt a b p*tw a b c):=by rw [xV,z,V3];omega
 have n:¬ rq a b p < 0:=fun k=>nb ((pX a b p z).mpr ⟨e1,e2,k⟩)
 rw [← EK] at n
 have d1:dt a b p≤0:=by
  apply Vi
  intro y
  have:=VH (show 0 < dt a b p by omega) t
  omega
 have d2:dt a b p=0:=by omega
 have d3:dep a b c p=0:=by rw [e,d2];omega
 rcases vX (a:=c) (b:=a) (c:=b) (d:=p) (by have:=mL a b c;omega) (by rw [← qF c a b p];exact d3) z with h | h
 ·exact e1 h
 ·exact e2 h
theorem yC {a b c p:Pl} (t:0 < tw a b c) (z:tw a b p=0) (nb:aI (lo a b) p∧aI p (hi a b)):eB a b c p:=by
 obtain ⟨_,_,d⟩:=(pX a b p z).mp nb
 rw [← EK] at d
 refine mH t ?_
 rw [xV,z,V3]
 have:=V7 d t
 omega
theorem Ai {ts:List (List Pl)} (nd:ts.Nodup) (bK:∀ t∈ts,ic Q t) (h:∀ t∈ts,∀ u∈ts,∀ w,w∈dh t→w∈dh u→t=u):(aU ts).Nodup:=by
 induction ts with
 | nil=>exact .nil
 | cons t r ih=>
   have e:aU (t :: r)=dh t ++ aU r:=by unfold aU;rw [Wl]
   rw [e]
   obtain ⟨n1,n2⟩:=VC.mp nd
   refine VU.mpr ⟨?_,ih n2 (fun u hu=>bK u (Vj _ hu)) fun u hu v hv=>h u (Vj _ hu) v (Vj _ hv),fun w hw v hv z=>?_⟩
   ·obtain ⟨a,b,c,rfl,_,_,_,_,n1,n2,n3⟩:=(bK t (by simp)).parts
    show ([[a,b],[b,c],[c,a]]:List (List Pl)).Nodup
    simp [n1,n2,n3,n1.symm,n2.symm,n3.symm]
   ·subst z
    obtain ⟨u,hu,hm⟩:=br.mp hv
    have:=h t (by simp) u (Vj _ hu) w hw hm
    rw [this] at n1
    exact n1 hu
theorem Ht.EL (h:Ht Q H) {a b c d:Pl} (ha:a∈Q) (hb:b∈Q) (hc:c∈Q) (hd:d∈Q) (p1:0 < tw a b c) (p2:0 < tw a b d) (k1:∀ q∈Q,0≤cK H a b c q) (k2:∀ q∈Q,0≤cK H a b d q):d=c:=by
 have e:=yx H a b c d
 have x1:=k1 d hd
 have x2:=k2 c hc
 rcases h.gen a ha b hb c hc d hd p1 (by omega) with rfl | rfl | rfl
 ·unfold tw at p2;exact absurd p2 (by grind)
 ·unfold tw at p2;exact absurd p2 (by grind)
 ·rfl
theorem Ht.over (h:Ht Q H) {a b:Pl} (ha:a∈Q) (hb:b∈Q) {c:Pl} (hc:c∈Q) (p:0 < tw a b c) (rt:∀ {q},q∈Q→0 < tw a b q→(∀ r∈Q,0 < tw a b r→0≤cK H a b q r)→∀ r∈Q,tw a b r≤0→0≤cK H a b q r):∃ q∈Q,0 < tw a b q∧∀ r∈Q,0≤cK H a b q r:=by
 have mem:∀ q,q∈Q.filter (fun q=>decide (0 < tw a b q))↔q∈Q∧0 < tw a b q:=fun q=>by rw [Vu,decide_eq_true_eq]
 obtain ⟨q,hq,hm⟩:=ve (f:=cK H a b c) (g:=tw a b) (l:=Q.filter fun q=>decide (0 < tw a b q)) (Wo ((mem c).mpr ⟨hc,p⟩)) fun r hr=>((mem r).mp hr).2
 obtain ⟨hq,pq⟩:=(mem q).mp hq
 have lf:∀ r∈Q,0 < tw a b r→0≤cK H a b q r:=fun r hr pr=>by
  have e:=yy H a b c q r
  have:=hm r ((mem r).mpr ⟨hr,pr⟩)
  refine kB p ?_
  rw [Wn,e]
  omega
 refine ⟨q,hq,pq,fun r hr=>?_⟩
 rcases Int.lt_or_le 0 (tw a b r) with y | y
 ·exact lf r hr y
 ·exact rt hq pq lf r hr y
theorem Ht.past (h:Ht Q H) {a b c:Pl} (ha:a∈Q) (hb:b∈Q) (hc:c∈Q) (p:0 < tw a b c) (k:∀ q∈Q,0≤cK H a b c q) {e:Pl} (he:e∈Q) (pe:0 < tw b a e):∃ q∈Q,0 < tw b a q∧∀ r∈Q,0≤cK H b a q r:=by
 refine h.over hb ha he pe fun {q} hq pq _ r hr y=>?_
 have i:=vd H a b c q r
 refine kB p ?_
 rw [Wn,i]
 have x1:=Vs (k r hr) (VF pq)
 have x2:=VE (k q hq) y
 omega
theorem sE (s:cE Q) {ns:List (List Pl)} (nd:ns.Nodup) (mem:∀ t,t∈ns↔ic Q t∧oN Q t):bJ Q ns:=by
 obtain ⟨H,h⟩:=fB Q
 have bK:∀ t∈ns,ic Q t:=fun t ht=>((mem t).mp ht).1
 have G5:∀ t∈ns,∀ {a b c:Pl},bS t a b c→∀ d∈Q,0≤cK H a b c d:=fun t ht {a b c} r=>(h.G5 (bK t ht) r).mp ((mem t).mp ht).2
 have dm:∀ a b,[a,b]∈aU ns↔a∈Q∧b∈Q∧∃ c∈Q,0 < tw a b c∧∀ d∈Q,0≤cK H a b c d:=fun a b=>by
  constructor
  ·intro m
   obtain ⟨t,ht,m⟩:=br.mp m
   obtain ⟨c,r⟩:=jt (bK t ht) m
   obtain ⟨p,ha,hb,hc⟩:=r.tw (bK t ht)
   exact ⟨ha,hb,c,hc,p,G5 t ht r⟩
  ·rintro ⟨ha,hb,c,hc,p,k⟩
   obtain ⟨t,i,r⟩:=yz p
   have ti:ic Q t:=r.S2 i ha hb hc
   refine br.mpr ⟨t,(mem t).mpr ⟨ti,(h.G5 ti r).mpr k⟩,r.dir.mem_iff.mpr (by simp)⟩
 refine ⟨s,⟨Ai nd bK fun t ht u hu w m1 m2=>?_,fun w hw=>?_,fun a b m1 m2=>?_,fun a b sd m=>?_,fun a b sd=>?_⟩,bK⟩
 ·obtain ⟨a,b,rfl,_⟩:=yk w (br.mpr ⟨t,ht,m1⟩)
  obtain ⟨c,r1⟩:=jt (bK t ht) m1
  obtain ⟨d,r2⟩:=jt (bK u hu) m2
  obtain ⟨p1,ha,hb,hc⟩:=r1.tw (bK t ht)
  obtain ⟨p2,_,_,hd⟩:=r2.tw (bK u hu)
  obtain rfl:=h.EL ha hb hc hd p1 p2 (G5 t ht r1) (G5 u hu r2)
  refine dY.uniq (bK t ht).1 (bK u hu).1 ?_
  have q1:∀ {v:List Pl},bS v a b d→v.Perm [a,b,d]:=fun {v} r=>by
   rcases r with rfl | rfl | rfl
   ·exact .refl _
   ·exact (VR (l₁:=[b,d]) (l₂:=[a]))
   ·exact (VR (l₁:=[d]) (l₂:=[a,b]))
  exact (q1 r1).trans (q1 r2).symm
 ·obtain ⟨a,b,rfl,_⟩:=yk w hw
  obtain ⟨ha,hb,_⟩:=(dm a b).mp hw
  exact ⟨a,b,rfl,ha,hb⟩
 ·obtain ⟨ha,hb,c,hc,p,k⟩:=(dm a b).mp m1
  refine ⟨ha,hb,fun z=>by rw [z] at p;unfold tw at p;exact absurd p (by grind),fun q hq=>⟨?_,fun z nb=>?_⟩⟩
  ·apply Vi
   intro y
   obtain ⟨e,he,pe,ke⟩:=h.past ha hb hc p k hq (by have:=bU a b q;omega)
   exact m2 ((dm b a).mpr ⟨hb,ha,e,he,pe,ke⟩)
  ·have:=(h.xw a ha b hb c hc q hq p).mp (yC p z nb)
   have:=k q hq
   omega
 ·obtain ⟨hb,ha,c,hc,p,_⟩:=(dm b a).mp m
  have:=(sd.2.2.2 c hc).1
  have:=bU a b c
  omega
 ·obtain ⟨ha,hb,ne,Cu⟩:=sd
  by_cases fl:∀ q∈Q,tw a b q=0
  ·refine .inl ⟨hb,ha,ne.symm,fun q hq=>⟨by have:=bU a b q;have:=fl q hq;omega,fun _ nb=>(Cu q hq).2 (fl q hq) ?_⟩⟩
   have e1:lo b a=lo a b:=by
    unfold lo
    rcases bT a b with y | y | y
    ·rw [if_pos y,if_neg (az y)]
    ·exact absurd y ne
    ·rw [if_neg (az y),if_pos y]
   have e2:hi b a=hi a b:=by
    unfold hi
    rcases bT a b with y | y | y
    ·rw [if_pos y,if_neg (az y)]
    ·exact absurd y ne
    ·rw [if_neg (az y),if_pos y]
   rw [e1,e2] at nb
   exact nb
  ·obtain ⟨c,hc,pc⟩:∃ c∈Q,0 < tw a b c:=by
    apply Vi
    intro z
    refine fl fun q hq=>?_
    have:=(Cu q hq).1
    apply Vi
    intro y
    exact z ⟨q,hq,by omega⟩
   obtain ⟨q,hq,pq,kq⟩:=h.over ha hb hc pc fun {q} hq pq _ r hr y=>by
    have:=(Cu r hr).1
    have ns:=Ah pq (show tw a b r=0 by omega) ((Cu r hr).2 (by omega))
    rw [h.xw a ha b hb q hq r hr pq] at ns
    omega
   exact .inr ((dm a b).mpr ⟨ha,hb,q,hq,pq,kq⟩)
end
end L3
namespace L3
section
variable {Q:List Pl} {ts:List (List Pl)} {H:Pl→Int}
def Full (Q:List Pl) (ts:List (List Pl)):Prop:= ∀ q∈Q,∃ t∈ts,q∈t
def EM (d:Pl):Pt:=⟨d.x,d.y,1⟩
theorem cT (a b d:Pl):hw a b (EM d)=tw a b d:=by unfold hw EM tw;grind
theorem bS.next {t:List Pl} {a b c:Pl} (r:bS t a b c):bS t b c a:=by
 rcases r with r | r | r
 ·exact .inr (.inr r)
 ·exact .inl r
 ·exact .inr (.inl r)
theorem bS.EN {t:List Pl} (h:ic Q t) {d:Pl} (hd:d∈t):∃ e f,bS t d e f:=by
 obtain ⟨a,b,c,rfl,_⟩:=h.parts
 simp only [Vl,VY,or_false] at hd
 rcases hd with rfl | rfl | rfl
 ·exact ⟨_,_,.inl rfl⟩
 ·exact ⟨_,_,.inr (.inr rfl)⟩
 ·exact ⟨_,_,.inr (.inl rfl)⟩
theorem bJ.NJ (k:bJ Q ts) {t:List Pl} (ht:t∈ts) {a b c:Pl} (r:bS t a b c) {d:Pl} (hd:d∈Q) (n:tw a b d < 0):∃ u∈ts,∃ e,bS u b a e:=by
 have m: [a,b]∈aU ts:=br.mpr ⟨t,ht,r.dir.mem_iff.mpr (by simp)⟩
 have: [b,a]∈aU ts:=by
  apply Vi
  intro z
  have:=((k.wB.bare a b m z).2.2.2 d hd).1
  omega
 obtain ⟨u,hu,m2⟩:=br.mp this
 obtain ⟨e,r2⟩:=jt (k.bK u hu) m2
 exact ⟨u,hu,e,r2⟩
theorem wC (k:bJ Q ts) (nf:¬ Flat Q) {t u:List Pl} (ht:t∈ts) (hu:u∈ts) {a b c d e f:Pl} (r:bS t a b c) (ru:bS u d e f) (na:d≠a) (nb:d≠b) (nc:d≠c) (z:tw a b d=0) (p2:0 < tw b c d) (p3:0 < tw c a d):False:=by
 obtain ⟨pt,ha,hb,hc⟩:=r.tw (k.bK t ht)
 obtain ⟨pu,hd,he,hf⟩:=ru.tw (k.bK u hu)
 have hN:0 < (EM d).N:=by show (0:Int) < 1;decide
 have wk:Wk (EM d) d e f:=by
  unfold Wk
  rw [cT,cT,cT]
  have e1:tw d e d=0:=by unfold tw;grind
  have e2:tw f d d=0:=by unfold tw;grind
  have e3:=iN d e f
  omega
 obtain ⟨v,nv,g1,g2,g3⟩:=into hN pu wk
 have dt:d∉t:=fun m=>by
  rcases (r.mem d).mp m with h | h | h
  ·exact na h
  ·exact nb h
  ·exact nc h
 have du:d∈u:=(ru.mem d).mpr (.inl rfl)
 have ne:a≠b:=fun y=>by rw [y] at pt;unfold tw at pt;exact absurd pt (by grind)
 by_cases lx:Lex (EM d) v a b
 ·have:=k.same nf hN ht hu r ru nv lx (.inl (by rw [cT];exact p2)) (.inl (by rw [cT];exact p3)) g1 g2 g3
  rw [this] at dt
  exact dt du
 ·have Ra:Lex (EM d) v b a:=by
   refine .inr ⟨by rw [iw,cT,z];omega,?_⟩
   have c1:lV b a v= -lV a b v:=by unfold lV;grind
   have c2:zb b a v= -zb a b v:=by unfold zb;grind
   have c3:=Bo ne nv
   have n1:¬ 0 < lV a b v:=fun y=>lx (.inr ⟨by rw [cT,z],.inl y⟩)
   have n2:¬ (lV a b v=0∧0 < zb a b v):=fun y=>lx (.inr ⟨by rw [cT,z],.inr y⟩)
   omega
  by_cases sd: [b,a]∈aU ts
  ·obtain ⟨w,EO,m2⟩:=br.mp sd
   obtain ⟨g,rw'⟩:=jt (k.bK w EO) m2
   obtain ⟨pw,_,_,hg⟩:=rw'.tw (k.bK w EO)
   have i1:tw a g d*tw a b c=tw c a d*tw b a g:=by
    have:tw a g d*tw a b c=tw c a d*tw b a g+tw a b d*tw a g c:=by unfold tw;grind
    rw [z,WU] at this
    omega
   have i2:tw g b d*tw a b c=tw b c d*tw b a g:=by
    have:tw g b d*tw a b c=tw b c d*tw b a g+tw a b d*tw g b c:=by unfold tw;grind
    rw [z,WU] at this
    omega
   have q1:0 < tw a g d:=qG pt (by rw [Wn,i1];exact VH p3 pw)
   have q2:0 < tw g b d:=qG pt (by rw [Wn,i2];exact VH p2 pw)
   have:=k.same nf hN EO hu rw' ru nv Ra (.inl (by rw [cT];exact q1)) (.inl (by rw [cT];exact q2)) g1 g2 g3
   rw [← this] at du
   rcases (rw'.mem d).mp du with y | y | y
   ·exact nb y
   ·exact na y
   ·rw [← y] at q1;unfold tw at q1;exact absurd q1 (by grind)
  ·have m: [a,b]∈aU ts:=br.mpr ⟨t,ht,r.dir.mem_iff.mpr (by simp)⟩
   have Cu:=(k.wB.bare a b m sd).2.2.2
   obtain ⟨x,_,hx⟩:=beside (Q:=Q) hN nv
   have x1:=hx _ hd _ he g1
   have x2:=hx _ he _ hf g2
   have x3:=hx _ hf _ hd g3
   have x4:=hx _ hb _ ha Ra
   have i:=MV a b d e f x
   have y1:=Vs (VF x2) (Cu d hd).1
   have y2:=Vs (VF x3) (Cu e he).1
   have y3:=Vs (VF x1) (Cu f hf).1
   have:hw a b x < 0:=by have:=iw b a x;omega
   have:=V7 this pu
   omega
theorem bJ.empty (k:bJ Q ts) (nf:¬ Flat Q) (fu:Full Q ts) {t:List Pl} (ht:t∈ts) {a b c d:Pl} (r:bS t a b c) (hd:d∈Q) (w1:0≤tw a b d) (w2:0≤tw b c d) (w3:0≤tw c a d):d=a∨d=b∨d=c:=by
 obtain ⟨u,hu,du⟩:=fu d hd
 obtain ⟨e,f,ru⟩:=bS.EN (k.bK u hu) du
 obtain ⟨pt,ha,hb,hc⟩:=r.tw (k.bK t ht)
 obtain ⟨pu,_,_,_⟩:=ru.tw (k.bK u hu)
 apply Vi
 intro no
 have na:d≠a:=fun y=>no (.inl y)
 have nb:d≠b:=fun y=>no (.inr (.inl y))
 have nc:d≠c:=fun y=>no (.inr (.inr y))
 have at2:∀ {a b c:Pl},0 < tw a b c→d≠b→¬ (tw a b d=0∧tw b c d=0):=fun {a b c} p n z=>by
  obtain ⟨e1,e2⟩:=vc (X:=EM d) p (by rw [cT];exact z.1) (by rw [cT];exact z.2)
  have e1:d.x=1*b.x:=e1
  have e2:d.y=1*b.y:=e2
  apply n
  cases d
  cases b
  simp only at e1 e2
  rw [e1,e2,XF,XF]
 have n1:=at2 pt nb
 have n2:=at2 (a:=b) (b:=c) (c:=a) (by have:=iN a b c;omega) nc
 have n3:=at2 (a:=c) (b:=a) (c:=b) (by have:=mL a b c;omega) na
 by_cases z1:tw a b d=0
 ·exact wC k nf ht hu r ru na nb nc z1 (by omega) (by omega)
 by_cases z2:tw b c d=0
 ·exact wC k nf ht hu r.next ru nb nc na z2 (by omega) (by omega)
 by_cases z3:tw c a d=0
 ·exact wC k nf ht hu r.next.next ru nc na nb z3 (by omega) (by omega)
 have hN:0 < (EM d).N:=by show (0:Int) < 1;decide
 have:=k.alone nf hN ht hu r ru (by rw [cT];omega) (by rw [cT];omega) (by rw [cT];omega) (by
  unfold Wk
  rw [cT,cT,cT]
  have e1:tw d e d=0:=by unfold tw;grind
  have e2:tw f d d=0:=by unfold tw;grind
  have e3:=iN d e f
  omega)
 rw [← this] at du
 exact no ((r.mem d).mp du)
theorem sF {α:Type} {f g:α→Int}:∀ {l:List α},l≠[]→(∀ p∈l,0 < g p)→∃ q∈l,∀ p∈l,f q*g p≤f p*g q
 | [x],_,hg=>⟨x,by simp,fun p hp=>by rw [Vm.mp hp];exact Wa _⟩
 | x :: y :: r,_,hg=>by
   obtain ⟨q,hq,h⟩:=sF (f:=f) (g:=g) (l:=y :: r) (by simp) fun p hp=>hg p (Vj _ hp)
   have gx:=hg x (by simp)
   have gq:=hg q (Vj _ hq)
   rcases WK (f q*g x) (f x*g q) with k | k
   ·refine ⟨q,Vj _ hq,fun p hp=>?_⟩
    rcases Vl.mp hp with rfl | hp
    ·exact k
    ·exact h p hp
   ·refine ⟨x,by simp,fun p hp=>?_⟩
    rcases Vl.mp hp with rfl | hp
    ·exact Wa _
    ·have HY:=h p hp
     have gp:=hg p (Vj _ hp)
     refine XG ?_ gq
     have a1:=VL k (VF gp)
     have a2:=VL HY (VF gx)
     have e1:f x*g q*g p=f x*g p*g q:=by grind
     have e2:f q*g x*g p=f q*g p*g x:=by grind
     have e3:f p*g q*g x=f p*g x*g q:=by grind
     omega
def Qc (H:Pl→Int) (d:Pl):List Pl→Int
 | [a,b,c]=>cK H a b c d
 | _=>0
def Qd:List Pl→Int
 | [a,b,c]=>tw a b c
 | _=>0
theorem Bs {t:List Pl} {a b c:Pl} (r:bS t a b c):Qd t=tw a b c:=by
 rcases r with rfl | rfl | rfl
 ·rfl
 ·exact iN a b c
 ·exact mL a b c
theorem Bt {t:List Pl} {a b c:Pl} (r:bS t a b c) (H:Pl→Int) (d:Pl):Qc H d t=cK H a b c d:=by
 rcases r with rfl | rfl | rfl
 ·rfl
 ·exact qJ H a b c d
 ·exact (qJ H c a b d).symm
def Calm (ts:List (List Pl)):Prop:= ∀ t∈ts,∀ u∈ts,∀ a b c e,bS t a b c→bS u b a e→¬ t6 t e
theorem bJ.calm (k:bJ Q ts) (nf:¬ Flat Q) (fu:Full Q ts) (ca:Calm ts):∀ t∈ts,oN Q t:=by
 obtain ⟨H,h⟩:=fB Q
 intro u hu d hd
 have tp:∀ t∈ts,0 < L3.Qd t:=fun t ht=>by
  obtain ⟨a,b,c,rfl,p,_⟩:=(k.bK t ht).parts
  exact p
 obtain ⟨t,ht,hm⟩:=sF (f:=L3.Qc H d) (g:=L3.Qd) (l:=ts) (Wo hu) tp
 have nx:∀ a b c,bS t a b c→0≤tw a b d:=fun a b c r=>by
  apply Vi
  intro y
  obtain ⟨w,EO,e,rw'⟩:=k.NJ ht r hd (by omega)
  obtain ⟨pt,ha,hb,hc⟩:=r.tw (k.bK t ht)
  obtain ⟨pw,_,_,he⟩:=rw'.tw (k.bK w EO)
  have i:=vd H a b c e d
  have m:=hm w EO
  rw [Bt r,Bs r,Bt rw',Bs rw'] at m
  have l0:0 < cK H a b c e:=by
   have n:=ca t ht w EO a b c e r rw'
   rw [h.Ct (k.bK t ht) r he] at n
   have:cK H a b c e≠0:=fun z=>by
    rcases h.gen a ha b hb c hc e he pt z with rfl | rfl | rfl
    ·unfold tw at pw;exact absurd pw (by grind)
    ·unfold tw at pw;exact absurd pw (by grind)
    ·have:=bU a b e;omega
   omega
  have:=VH l0 (show 0 < tw b a d by have:=bU a b d;omega)
  omega
 obtain ⟨a,b,c,rfl,pt,_⟩:=(k.bK t ht).parts
 have r:bS [a,b,c] a b c:= .inl rfl
 have z:L3.Qc H d [a,b,c]=0:=by
  show cK H a b c d=0
  rcases k.empty nf fu ht r hd (nx _ _ _ r) (nx _ _ _ r.next) (nx _ _ _ r.next.next) with rfl | rfl | rfl
  ·exact Ii _ _ _ _
  ·exact Ij _ _ _ _
  ·exact Bp _ _ _ _
 have m:=hm u hu
 rw [z,WU] at m
 obtain ⟨a',b',c',rfl,pu,_⟩:=(k.bK u hu).parts
 rw [h.Ct (k.bK _ hu) (.inl rfl) hd]
 have m:0≤cK H a' b' c' d*tw a b c:=m
 have:=kB pt (by rw [Wn];exact m)
 omega
theorem inner {t:List Pl} (hT:ic Q t) {a b c:Pl} (r:bS t a b c):∃ x:Pt,Gen Q x∧0 < hw a b x∧0 < hw b c x∧0 < hw c a x:=by
 obtain ⟨p,ha,hb,hc⟩:=r.tw hT
 have hN:0 < (EM a).N:=by show (0:Int) < 1;decide
 have wk:Wk (EM a) a b c:=by
  unfold Wk
  rw [cT,cT,cT]
  have e1:tw a b a=0:=by unfold tw;grind
  have e2:tw c a a=0:=by unfold tw;grind
  have e3:=iN a b c
  omega
 obtain ⟨v,nv,g1,g2,g3⟩:=into hN p wk
 obtain ⟨x,g,hx⟩:=beside (Q:=Q) hN nv
 exact ⟨x,g,hx _ ha _ hb g1,hx _ hb _ hc g2,hx _ hc _ ha g3⟩
theorem bJ.all (k:bJ Q ts) (nf:¬ Flat Q) {ns:List (List Pl)} (n:bJ Q ns) (sub:∀ t∈ts,t∈ns):∀ t∈ns,t∈ts:=fun t ht=>by
 have hT:=n.bK t ht
 obtain ⟨a,b,c,rfl,p,ha,hb,hc,_⟩:=hT.parts
 have r:bS [a,b,c] a b c:= .inl rfl
 obtain ⟨x,g,x1,x2,x3⟩:=inner hT r
 obtain ⟨u,hu,iu⟩:=k.some nf g ha hb hc p x1 x2 x3
 have:=n.one nf g ht (sub u hu) (r.ins x1 x2 x3) iu
 rw [this]
 exact hu
end
end L3
namespace L3
section
variable {Q:List Pl} {ts us:List (List Pl)} {H:Pl→Int} {a b c d:Pl}
theorem Kd (a b c p:Pl):tw a b c*dep a b c p=tw b c p*tw c a p*vN a b+tw c a p*tw a b p*vN b c+tw a b p*tw b c p*vN c a:=by unfold dep vN tw;grind
theorem pH {p:Pl} (t:0 < tw a b c) (z1:tw a b p=0) (z2:tw b c p=0):p=b:=by
 obtain ⟨e1,e2⟩:=vc (X:=EM p) t (by rw [cT];exact z1) (by rw [cT];exact z2)
 have e1:p.x=1*b.x:=e1
 have e2:p.y=1*b.y:=e2
 cases p
 cases b
 simp only at e1 e2
 rw [e1,e2,XF,XF]
theorem sG {p:Pl} (t:0 < tw a b c) (w1:0≤tw a b p) (w2:0≤tw b c p) (w3:0≤tw c a p) (na:p≠a) (nb:p≠b) (nc:p≠c):eB a b c p:=by
 refine mH t (qG t ?_)
 rw [Kd]
 have n1:a≠b:=fun z=>by rw [z] at t;unfold tw at t;grind
 have n2:b≠c:=fun z=>by rw [z] at t;unfold tw at t;grind
 have n3:c≠a:=fun z=>by rw [z] at t;unfold tw at t;grind
 have d1:=vO n1
 have d2:=vO n2
 have d3:=vO n3
 have m1:=Vs (Vs w2 w3) (VF d1)
 have m2:=Vs (Vs w3 w1) (VF d2)
 have m3:=Vs (Vs w1 w2) (VF d3)
 have k1:¬ (tw a b p=0∧tw b c p=0):=fun z=>nb (pH t z.1 z.2)
 have k2:¬ (tw b c p=0∧tw c a p=0):=fun z=>nc (pH (a:=b) (b:=c) (c:=a) (by have:=iN a b c;omega) z.1 z.2)
 have k3:¬ (tw c a p=0∧tw a b p=0):=fun z=>na (pH (a:=c) (b:=a) (c:=b) (by have:=mL a b c;omega) z.1 z.2)
 by_cases z1:tw a b p=0
 ·have:=VH (VH (show 0 < tw b c p by omega) (show 0 < tw c a p by omega)) d1
  omega
 by_cases z2:tw b c p=0
 ·have:=VH (VH (show 0 < tw c a p by omega) (show 0 < tw a b p by omega)) d2
  omega
 have:=VH (VH (show 0 < tw a b p by omega) (show 0 < tw b c p by omega)) d3
 omega
theorem Ke (H:Pl→Int) (a b c d:Pl):cK H a d c b= -cK H a b c d:=by unfold cK tw;grind
theorem Kf (H:Pl→Int) (a b c d:Pl):cK H d b c a= -cK H a b c d:=by unfold cK tw;grind
theorem G6 (H:Pl→Int) (a b c d:Pl):cK H b a d c=cK H a b c d:=by unfold cK tw;grind
theorem G7 (p1:0 < tw a b c) (p2:0 < tw b a d):eB a b c d↔eB b a d c:=by
 obtain ⟨H,h⟩:=fB [a,b,c,d]
 rw [h.xw a (by simp) b (by simp) c (by simp) d (by simp) p1,h.xw b (by simp) a (by simp) d (by simp) c (by simp) p2,G6]
theorem Cv (p1:0 < tw a b c) (p2:0 < tw b a d) (s:eB a b c d):0 < tw c d b∧tw c d a < 0:=by
 obtain ⟨H,h⟩:=fB [a,b,c,d]
 have s:=(h.xw a (by simp) b (by simp) c (by simp) d (by simp) p1).mp s
 have f:=bU a b d
 have ne:∀ {x y z:Pl},0 < tw x y z→x≠y∧y≠z∧z≠x:=fun {x y z} p=>⟨fun e=>by rw [e] at p;unfold tw at p;grind,fun e=>by rw [e] at p;unfold tw at p;grind,fun e=>by rw [e] at p;unfold tw at p;grind⟩
 obtain ⟨n1,n2,n3⟩:=ne p1
 obtain ⟨_,n4,n5⟩:=ne p2
 have n6:c≠d:=fun e=>by rw [e] at p1;omega
 constructor
 ·apply Vi
  intro y
  have e1:tw a d b=tw b a d:=iN b a d
  have e2:tw d c b= -tw c d b:=bU c d b
  have e3:tw c a b=tw a b c:=mL a b c
  have e4:tw a d c=tw a d b+tw d c b+tw c a b:=by unfold tw;grind
  have pos:0 < tw a d c:=by omega
  have sp:=sG (p:=b) pos (by omega) (by omega) (by omega) n1.symm n5.symm n2
  have:=(h.xw a (by simp) d (by simp) c (by simp) b (by simp) pos).mp sp
  rw [Ke] at this
  omega
 ·apply Vi
  intro y
  have e1:tw d b a=tw b a d:=mL b a d
  have e2:tw b c a=tw a b c:=iN a b c
  have e4:tw d b c=tw d b a+tw b c a+tw c d a:=by unfold tw;grind
  have pos:0 < tw d b c:=by omega
  have sp:=sG (p:=a) pos (by omega) (by omega) (by omega) n4 n1 n3.symm
  have:=(h.xw d (by simp) b (by simp) c (by simp) a (by simp) pos).mp sp
  rw [Kf] at this
  omega
theorem sH {α β:Type} {f:α→List β} {w:β}:∀ {l:List α},(l.flatMap f).Nodup→∀ {t u:α},t∈l→u∈l→w∈f t→w∈f u→t=u
 | x :: r,nd,t,u,ht,hu,m1,m2=>by
   rw [Wl] at nd
   obtain ⟨_,n2,n3⟩:=VU.mp nd
   rcases Vl.mp ht with e1 | h1
   ·rcases Vl.mp hu with e2 | h2
    ·rw [e1,e2]
    ·rw [e1] at m1
     exact absurd rfl (n3 w m1 w (We.mpr ⟨u,h2,m2⟩))
   ·rcases Vl.mp hu with e2 | h2
    ·rw [e2] at m2
     exact absurd rfl (n3 w m2 w (We.mpr ⟨t,h1,m1⟩))
    ·exact sH n2 h1 h2 m1 m2
theorem bJ.Bu (k:bJ Q ts) {t u:List Pl} {w:List Pl} (ht:t∈ts) (hu:u∈ts) (m1:w∈dh t) (m2:w∈dh u):t=u:=sH k.wB.nd ht hu m1 m2
theorem bS.t8 {t:List Pl} (r:bS t a b c): [a,b]∈dh t:=r.dir.mem_iff.mpr (by simp)
def Aj (ts us:List (List Pl)) (a b c d:Pl):Prop:= ∃ t1 t2 u1 u2,t1∈ts∧t2∈ts∧bS t1 a b c∧bS t2 b a d∧bS u1 a d c∧bS u2 b c d∧dY u1∧dY u2∧tw c d a*tw c d b < 0∧us.Perm (u1 :: u2 :: ts.filter (fun t=>decide (t∉[t1,t2])))
theorem Ak {t1 t2:List Pl} (nd:ts.Nodup) (n:t1≠t2) (h1:t1∈ts) (h2:t2∈ts):ts.Perm (t1 :: t2 :: ts.filter (fun t=>decide (t∉[t1,t2]))):=by
 refine je nd (VC.mpr ⟨fun z=>?_,VC.mpr ⟨fun z=>?_,nd.filter _⟩⟩) fun t=>?_
 ·rcases Vl.mp z with z | z
  ·exact n z
  ·exact of_decide_eq_true (Vu.mp z).2 (by simp)
 ·exact of_decide_eq_true (Vu.mp z).2 (by simp)
 ·rw [Vl,Vl,Vu]
  constructor
  ·intro h
   by_cases e1:t=t1
   ·exact .inl e1
   ·by_cases e2:t=t2
    ·exact .inr (.inl e2)
    ·exact .inr (.inr ⟨h,decide_eq_true (by simp [e1,e2])⟩)
  ·rintro (rfl | rfl | h)
   ·exact h1
   ·exact h2
   ·exact h.1
theorem wD {t1 t2:List Pl} (h1:ic Q t1) (h2:ic Q t2) (r1:bS t1 a b c) (r2:bS t2 b a d):t1≠t2:=fun z=>by
 obtain ⟨p1,_⟩:=r1.tw h1
 obtain ⟨p2,_⟩:=r2.tw h2
 rw [z] at r1
 have:c=d:=by
  rcases (r1.mem d).mp ((r2.mem d).mpr (by simp)) with h | h | h
  ·rw [h] at p2;unfold tw at p2;exact absurd p2 (by grind)
  ·rw [h] at p2;unfold tw at p2;exact absurd p2 (by grind)
  ·exact h.symm
 rw [this] at p1
 have:=bU a b d
 omega
theorem Aj.G8 (k:bJ Q ts) (nf:¬ Flat Q) (h:Aj ts us a b c d):bJ Q us:=by
 obtain ⟨t1,t2,u1,u2,m1,m2,r1,r2,v1,v2,i1,i2,cv,hp⟩:=h
 exact k.flip nf (Ak k.nodup (wD (k.bK _ m1) (k.bK _ m2) r1 r2) m1 m2) r1 r2 cv hp v1 v2 i1 i2
theorem Aj.len (k:bJ Q ts) (h:Aj ts us a b c d):us.length=ts.length:=by
 obtain ⟨t1,t2,u1,u2,m1,m2,r1,r2,v1,v2,i1,i2,cv,hp⟩:=h
 rw [hp.length_eq,(Ak k.nodup (wD (k.bK _ m1) (k.bK _ m2) r1 r2) m1 m2).length_eq]
 rfl
theorem Aj.full (fu:Full Q ts) (h:Aj ts us a b c d):Full Q us:=fun q hq=>by
 obtain ⟨t1,t2,u1,u2,m1,m2,r1,r2,v1,v2,i1,i2,cv,hp⟩:=h
 obtain ⟨t,ht,qt⟩:=fu q hq
 have j1:u1∈us:=hp.mem_iff.mpr (by simp)
 have j2:u2∈us:=hp.mem_iff.mpr (by simp)
 have four:q=a∨q=b∨q=c∨q=d→∃ u∈us,q∈u:=fun h4=>by
  rcases h4 with y | y | y | y
  ·exact ⟨u1,j1,(v1.mem q).mpr (.inl y)⟩
  ·exact ⟨u2,j2,(v2.mem q).mpr (.inl y)⟩
  ·exact ⟨u2,j2,(v2.mem q).mpr (.inr (.inl y))⟩
  ·exact ⟨u2,j2,(v2.mem q).mpr (.inr (.inr y))⟩
 by_cases e1:t=t1
 ·rw [e1] at qt
  refine four ?_
  rcases (r1.mem q).mp qt with y | y | y <;> simp [y]
 ·by_cases e2:t=t2
  ·rw [e2] at qt
   refine four ?_
   rcases (r2.mem q).mp qt with y | y | y <;> simp [y]
  ·exact ⟨t,hp.mem_iff.mpr (Vj _ (Vj _ (Vu.mpr ⟨ht,decide_eq_true (by simp [e1,e2])⟩))),qt⟩
end
end L3
namespace L3
open PySem PySem.Spec PyProof.Rows L2
theorem sJ {α:Type} [DecidableEq α] {l m:List α} (nd:l.Nodup) (sub:∀ x∈l,x∈m):l.length≤m.length:=PySem.SetTable.len_sub nd sub
theorem iy (ps:List Pl):kD (kG ps)=tD ps:=by
 unfold kD kG tD
 rw [X4]
 rfl
section
variable {Q:List Pl} {ts:List (List Pl)}
def Fg (ts:List (List Pl)) (a b c d:Pl):Prop:=(∃ t∈ts,bS t a b c)∧∃ t∈ts,bS t b a d
def pI (ts:List (List Pl)) (s:List Pl):Prop:= ∃ a b c d:Pl,s= [a,b]∧aI a b∧Fg ts a b c d∧eB a b c d
theorem Cw {t:List Pl} {a b c d:Pl} (hT:ic Q t) (r:bS t a b c) (r':bS t a b d):c=d:=by
 obtain ⟨x,y,z,rfl,_,_,_,_,n1,n2,n3⟩:=hT.parts
 unfold bS at r r'
 simp only [List.cons.injEq,and_true] at r r'
 rcases r with ⟨rfl,rfl,rfl⟩ | ⟨rfl,rfl,rfl⟩ | ⟨rfl,rfl,rfl⟩ <;> rcases r' with ⟨h1,h2,h3⟩ | ⟨h1,h2,h3⟩ | ⟨h1,h2,h3⟩ <;> first | exact h3 | exact h1 | exact h2 | (exfalso;simp_all)
theorem yD (nd:(aU ts).Nodup) (bK:∀ t∈ts,ic Q t) {t u:List Pl} {a b c d:Pl} (ht:t∈ts) (hu:u∈ts) (r:bS t a b c) (r':bS u a b d):t=u∧c=d:=by
 have e:t=u:=sH nd ht hu r.t8 r'.t8
 subst e
 exact ⟨rfl,Cw (bK t ht) r r'⟩
theorem qK {a b c:Pl} (p:0 < tw a b c) {x y z:Pl} (h: [x,y,z].Perm [a,b,c]):bS (tV x y z) a b c∧dY (tV x y z):=by
 obtain ⟨t,i,r⟩:=yz p
 have q1:t.Perm [a,b,c]:=by
  rcases r with rfl | rfl | rfl
  ·exact .refl _
  ·exact (VR (l₁:=[b,c]) (l₂:=[a]))
  ·exact (VR (l₁:=[c]) (l₂:=[a,b]))
 obtain ⟨_,e⟩:=nN i (q1.trans h.symm)
 rw [← e]
 exact ⟨r,i⟩
theorem yE (x y z:Pl): [x,y,z].Perm [x,z,y]:= .cons _ (.swap _ _ _)
theorem Fg.one (nd:(aU ts).Nodup) (bK:∀ t∈ts,ic Q t) {a b c d c' d':Pl} (h:Fg ts a b c d) (h':Fg ts a b c' d'):c=c'∧d=d':=by
 obtain ⟨⟨t,ht,r⟩,⟨w,hw,r2⟩⟩:=h
 obtain ⟨⟨t',ht',r'⟩,⟨w',EO,r2'⟩⟩:=h'
 exact ⟨(yD nd bK ht ht' r r').2,(yD nd bK hw EO r2 r2').2⟩
theorem Cy (a b c d:Pl):tw d c a*tw d c b=tw c d a*tw c d b:=by rw [bU c d a,bU c d b,Xb]
theorem ER (k:bJ Q ts) {t u:List Pl} {a b c d:Pl} (ht:t∈ts) (hu:u∈ts) (r1:bS t a b c) (r2:bS u b a d) (cv:tw c d a*tw c d b < 0) {us:List (List Pl)} {v1 v2:List Pl} (e1:bS v1 a d c∧dY v1) (e2:bS v2 b c d∧dY v2) (hp:us.Perm (ts.filter (fun x=>decide (x∉[t,u])) ++ [v1,v2])):Aj ts us a b c d:=
 ⟨t,u,v1,v2,ht,hu,r1,r2,e1.1,e2.1,e1.2,e2.2,cv,hp.trans VR⟩
theorem yF (k:bJ Q ts) {t u:List Pl} {a b c d:Pl} (ht:t∈ts) (hu:u∈ts) (h:(bS t a b c∧bS u b a d)∨(bS t b a c∧bS u a b d)) :
 (tw c d a*tw c d b < 0→∀ us:List (List Pl),us.Perm (ts.filter (fun x=>decide (x∉[t,u])) ++ [tV a c d,tV b c d])→∃ c' d',Fg ts a b c' d'∧Aj ts us a b c' d')∧
 (¬ (tw c d a*tw c d b < 0)→¬ ∃ c' d',Fg ts a b c' d'∧tw c' d' a*tw c' d' b < 0):=by
 rcases h with ⟨r1,r2⟩ | ⟨r1,r2⟩
 ·have ad:Fg ts a b c d:=⟨⟨t,ht,r1⟩,⟨u,hu,r2⟩⟩
  obtain ⟨p1,_⟩:=r1.tw (k.bK t ht)
  obtain ⟨p2,_⟩:=r2.tw (k.bK u hu)
  refine ⟨fun cv us hp=>⟨c,d,ad,?_⟩,fun n ⟨c',d',h1,h2⟩=>?_⟩
  ·obtain ⟨s1,s2⟩:=ju p1 p2 cv
   have g1:tw a d c= -tw c d a:=by unfold tw;grind
   have g2:=iN b c d
   exact ER k ht hu r1 r2 cv (qK (by omega) (yE a c d)) (qK (by omega) (.refl _)) hp
  ·obtain ⟨rfl,rfl⟩:=ad.one k.wB.nd k.bK h1
   exact n h2
 ·have ad:Fg ts a b d c:=⟨⟨u,hu,r2⟩,⟨t,ht,r1⟩⟩
  obtain ⟨p1,_⟩:=r1.tw (k.bK t ht)
  obtain ⟨p2,_⟩:=r2.tw (k.bK u hu)
  have pf:=Cy a b c d
  refine ⟨fun cv us hp=>⟨d,c,ad,?_⟩,fun n ⟨c',d',h1,h2⟩=>?_⟩
  ·obtain ⟨s1,s2⟩:=ju p2 p1 (by omega)
   have g1:tw a c d= -tw d c a:=by unfold tw;grind
   have g2:tw b d c=tw d c b:=by unfold tw;grind
   have ef:ts.filter (fun x=>decide (x∉[t,u]))=ts.filter (fun x=>decide (x∉[u,t])):=List.filter_congr fun x _=>by
    rw [decide_eq_decide]
    simp only [Vl,VY,or_false]
    exact ⟨fun h z=>h z.symm,fun h z=>h z.symm⟩
   rw [ef] at hp
   exact ER k hu ht r2 r1 (by omega) (qK (by omega) (.refl _)) (qK (by omega) (yE b c d)) hp
  ·obtain ⟨rfl,rfl⟩:=ad.one k.wB.nd k.bK h1
   omega
theorem ES {t:List Pl} {a b c d:Pl} (hT:ic Q t) (r:bS t a b c) (hd:d∈Q):t6 t d↔eB a b c d:=by
 obtain ⟨H,h⟩:=fB Q
 obtain ⟨p,ha,hb,hc⟩:=r.tw hT
 rw [h.Ct hT r hd,h.xw a ha b hb c hc d hd p]
theorem pI.turns {s:List Pl} (bK:∀ t∈ts,ic Q t) (h:pI ts s):∃ a b c d,s= [a,b]∧aI a b∧Fg ts a b c d∧tw c d a*tw c d b < 0∧eB a b c d:=by
 obtain ⟨a,b,c,d,e,hb,⟨⟨t,ht,r⟩,⟨u,hu,r2⟩⟩,sp⟩:=h
 obtain ⟨p1,_⟩:=r.tw (bK t ht)
 obtain ⟨p2,_⟩:=r2.tw (bK u hu)
 obtain ⟨q1,q2⟩:=Cv p1 p2 sp
 exact ⟨a,b,c,d,e,hb,⟨⟨t,ht,r⟩,⟨u,hu,r2⟩⟩,V7 q2 q1,sp⟩
theorem Aj.Rb {us:List (List Pl)} {a b c d:Pl} (f:Aj ts us a b c d):Fg ts a b c d:=by
 obtain ⟨t1,t2,_,_,m1,m2,r1,r2,_⟩:=f
 exact ⟨⟨t1,m1,r1⟩,⟨t2,m2,r2⟩⟩
end
end L3
namespace L3
section
variable {Q:List Pl} {ts us vs:List (List Pl)} {H:Pl→Int} {a b c d:Pl}
end
end L3
namespace L3
section
variable {Q:List Pl} {ts us vs:List (List Pl)} {H:Pl→Int} {a b c d:Pl}
def mQ (H:Pl→Int):List Pl→Int
 | [a,b,c]=>tw a b c*(H a+H b+H c)
 | _=>0
def Ik (H:Pl→Int) (ts:List (List Pl)):Int:=sz (mQ H) ts
theorem nV {t:List Pl} (r:bS t a b c) (H:Pl→Int):mQ H t=tw a b c*(H a+H b+H c):=by
 rcases r with rfl | rfl | rfl
 ·rfl
 ·show tw b c a*(H b+H c+H a)=_
  rw [iN]
  congr 1
  omega
 ·show tw c a b*(H c+H a+H b)=_
  rw [mL]
  congr 1
  omega
theorem ET (bK:∀ t∈ts,ic Q t) (h:∀ p∈Q,0≤H p):0≤Ik H ts:=by
 unfold Ik
 induction ts with
 | nil=>exact Wa _
 | cons t r ih=>
   have i:=ih fun u hu=>bK u (Vj _ hu)
   obtain ⟨a,b,c,rfl,p,ha,hb,hc,_⟩:=(bK t (by simp)).parts
   have:=Vs (VF p) (show 0≤H a+H b+H c by have:=h a ha;have:=h b hb;have:=h c hc;omega)
   show 0≤tw a b c*(H a+H b+H c)+sz (mQ H) r
   omega
theorem Aj.Ik (k:bJ Q us) (f:Aj us vs a b c d) (H:Pl→Int):Ik H vs=Ik H us+cK H a b c d:=by
 obtain ⟨t1,t2,u1,u2,m1,m2,r1,r2,v1,v2,i1,i2,cv,hp⟩:=f
 have e1:=qI (mQ H) hp
 have e2:=qI (mQ H) (Ak k.nodup (wD (k.bK _ m1) (k.bK _ m2) r1 r2) m1 m2)
 have e3:sz (mQ H) (u1 :: u2 :: us.filter (fun t=>decide (t∉[t1,t2])))=mQ H u1+(mQ H u2+sz (mQ H) (us.filter (fun t=>decide (t∉[t1,t2])))):=rfl
 have e4:sz (mQ H) (t1 :: t2 :: us.filter (fun t=>decide (t∉[t1,t2])))=mQ H t1+(mQ H t2+sz (mQ H) (us.filter (fun t=>decide (t∉[t1,t2])))):=rfl
 rw [e3,nV v1,nV v2] at e1
 rw [e4,nV r1,nV r2] at e2
 have e5:tw a d c*(H a+H d+H c)+tw b c d*(H b+H c+H d)=tw a b c*(H a+H b+H c)+tw b a d*(H b+H a+H d)+cK H a b c d:=by unfold cK tw;grind
 show sz (mQ H) vs=sz (mQ H) us+cK H a b c d
 omega
def S3 (us:List (List Pl)) (s o:List Pl) (vs:List (List Pl)):Prop:= ∃ a b c d:Pl,s= [a,b]∧aI a b∧o= [lo c d,hi c d]∧eB a b c d∧Aj us vs a b c d∧vs.Pairwise (fun p q=>cy q p=false)
inductive Run:List (List Pl)→List (List Pl ×List Pl)→List (List Pl)→Prop
 | nil (us:List (List Pl)):Run us [] us
 | cons {us vs ws:List (List Pl)} {s o:List Pl} {ss:List (List Pl ×List Pl)}:S3 us s o vs→Run vs ss ws→Run us ((s,o) :: ss) ws
theorem Aj.EU (k:bJ Q us) (h:Ht Q H) (f:Aj us vs a b c d):eB a b c d↔cK H a b c d < 0:=by
 obtain ⟨t1,t2,_,_,m1,m2,r1,r2,_⟩:=f
 obtain ⟨p1,ha,hb,hc⟩:=r1.tw (k.bK _ m1)
 obtain ⟨_,_,_,hd⟩:=r2.tw (k.bK _ m2)
 exact h.xw a ha b hb c hc d hd p1
end
end L3
namespace L3
section
variable {Q:List Pl} {ts us vs:List (List Pl)} {a b c d:Pl}
theorem Cz (nf:¬ Flat Q) (MY:∀ l:List (List Pl),∃ m:List (List Pl),m.Perm l∧m.Pairwise (fun p q=>cy q p=false)):∀ (n:Nat) {H:Pl→Int} (_:Ht Q H) {us:List (List Pl)},(Ik H us).toNat≤n→bJ Q us→Full Q us→∃ ss ws,Run us ss ws∧bJ Q ws∧Full Q ws∧∀ s,¬ pI ws s:=by
 intro n
 induction n with
 | zero=>
   intro H h us hv k fu
   by_cases w:∃ s,pI us s
   ·obtain ⟨s,w⟩:=w
    obtain ⟨a,b,c,d,rfl,hb,⟨⟨t,ht,r1⟩,⟨u,hu,r2⟩⟩,cv,sp⟩:=w.turns k.bK
    obtain ⟨p1,ha,hb',hc⟩:=r1.tw (k.bK t ht)
    obtain ⟨p2,_,_,hd⟩:=r2.tw (k.bK u hu)
    obtain ⟨m,hm,so⟩:=MY (us.filter (fun x=>decide (x∉[t,u])) ++ [tV a c d,tV b c d])
    obtain ⟨c',d',_,f⟩:=(yF k ht hu (.inl ⟨r1,r2⟩)).1 cv m hm
    obtain ⟨rfl,rfl⟩:=f.Rb.one k.wB.nd k.bK ⟨⟨t,ht,r1⟩,⟨u,hu,r2⟩⟩
    have l:=(f.EU k h).mp sp
    have e:=f.Ik k H
    have n1:=ET (f.G8 k nf).bK h.nn
    omega
   ·exact ⟨[],us,.nil us,k,fu,fun s ws=>w ⟨s,ws⟩⟩
 | succ n ih=>
   intro H h us hv k fu
   by_cases w:∃ s,pI us s
   ·obtain ⟨s,w⟩:=w
    obtain ⟨a,b,c,d,rfl,hb,⟨⟨t,ht,r1⟩,⟨u,hu,r2⟩⟩,cv,sp⟩:=w.turns k.bK
    obtain ⟨m,hm,so⟩:=MY (us.filter (fun x=>decide (x∉[t,u])) ++ [tV a c d,tV b c d])
    obtain ⟨c',d',_,f⟩:=(yF k ht hu (.inl ⟨r1,r2⟩)).1 cv m hm
    obtain ⟨rfl,rfl⟩:=f.Rb.one k.wB.nd k.bK ⟨⟨t,ht,r1⟩,⟨u,hu,r2⟩⟩
    have l:=(f.EU k h).mp sp
    have e:=f.Ik k H
    have n1:=ET (f.G8 k nf).bK h.nn
    obtain ⟨ss,ws,run,k2,Qe,no⟩:=ih h (us:=m) (by omega) (f.G8 k nf) (f.full fu)
    exact ⟨_,ws,.cons ⟨a,b,_,_,rfl,hb,rfl,sp,f,so⟩ run,k2,Qe,no⟩
   ·exact ⟨[],us,.nil us,k,fu,fun s ws=>w ⟨s,ws⟩⟩
theorem G9 (k:bJ Q ts) (no:∀ s,¬ pI ts s):Calm ts:=fun t ht u hu a b c e r1 r2 sp=>by
 obtain ⟨p1,ha,hb,hc⟩:=r1.tw (k.bK t ht)
 obtain ⟨p2,_,_,he⟩:=r2.tw (k.bK u hu)
 have Rc:=(ES (k.bK t ht) r1 he).mp sp
 rcases bT a b with h | h | h
 ·exact no _ ⟨a,b,c,e,rfl,h,⟨⟨t,ht,r1⟩,⟨u,hu,r2⟩⟩,Rc⟩
 ·rw [h] at p1;unfold tw at p1;exact absurd p1 (by grind)
 ·exact no _ ⟨b,a,e,c,rfl,h,⟨⟨u,hu,r2⟩,⟨t,ht,r1⟩⟩,(G7 p1 p2).mp Rc⟩
end
end L3
namespace L3
section
variable {Q:List Pl} {ns:List (List Pl)} {p:Pl}
end
end L3
namespace L3
section
variable {Q:List Pl} {ts us ws:List (List Pl)}
theorem t9 {p q r:List Pl} (h1:cy q p=false) (h2:cy r q=false):cy r p=false:=by
 cases e:cy r p with
 | false=>rfl
 | true=>
   rcases ki p q with a | a | a
   ·have:=gH _ _ _ e a
    rw [h2] at this
    cases this
   ·subst a
    rw [h2] at e
    cases e
   ·rw [h1] at a
    cases a
def Al (x:List Pl):List (List Pl)→List (List Pl)
 | []=>[x]
 | y :: r=>if cy y x=true then y :: Al x r else x :: y :: r
theorem pJ (x:List Pl):∀ l,(Al x l).Perm (x :: l)
 | []=> .refl _
 | y :: r=>by
   unfold Al
   split
   ·exact (List.Perm.cons y (pJ x r)).trans (.swap _ _ _)
   ·exact .refl _
theorem qa (x:List Pl):∀ {l:List (List Pl)},l.Pairwise (fun p q=>cy q p=false)→(Al x l).Pairwise (fun p q=>cy q p=false)
 | [],_=>by simp [Al]
 | y :: r,s=>by
   obtain ⟨s1,s2⟩:=VI.mp s
   unfold Al
   split
   ·rename_i h
    refine VI.mpr ⟨fun z hz=>?_,qa x s2⟩
    rcases Vl.mp ((pJ x r).mem_iff.mp hz) with rfl | hz
    ·cases e:cy z y with
     | false=>rfl
     | true=>
       have:=gH _ _ _ h e
       rw [kh] at this
       cases this
    ·exact s1 z hz
   ·rename_i h
    have h:cy y x=false:=by simpa using h
    refine VI.mpr ⟨fun z hz=>?_,s⟩
    rcases Vl.mp hz with rfl | hz
    ·exact h
    ·exact t9 h (s1 z hz)
theorem vf:∀ l:List (List Pl),∃ m:List (List Pl),m.Perm l∧m.Pairwise (fun p q=>cy q p=false)
 | []=>⟨[],.refl _,.nil⟩
 | x :: r=>by
   obtain ⟨m,hp,hs⟩:=vf r
   exact ⟨Al x m,(pJ x m).trans (.cons x hp),qa x hs⟩
theorem Run.EV {ss:List (List Pl ×List Pl)} (r:Run us ss ws):∀ (_:bJ Q us) (_:¬ Flat Q),ws.length=us.length:=by
 induction r with
 | nil us=>intro _ _;rfl
 | cons a _ ih=>
   intro k nf
   obtain ⟨a',b',c',d',rfl,hb,rfl,sp,f,_⟩:=a
   rw [ih (f.G8 k nf) nf,f.len k]
theorem Bv (s:cE Q) {ns:List (List Pl)} (nd:ns.Nodup) (mem:∀ t,t∈ns↔ic Q t∧oN Q t):ns.length≤2*Q.length:=by
 by_cases fl:Flat Q
 ·cases e:ns with
  | nil=>simp
  | cons t0 tr=>
    obtain ⟨u,v,w,et,pos,ia,hv',EO,_⟩:=((mem t0).mp (by rw [e];simp)).1.parts
    have:=fl u ia v hv' w EO
    omega
 ·have h2:2≤Q.length:=by
   apply Vi
   intro z
   exact fl (gK (by omega))
  have c:=Cr s h2
  have kc:bJ Q (qm Q Q.length):=⟨s,by have:=Bf s Q.length (Vr _);rw [VZ] at this;exact this,fun t ht=>Bg s Q.length (Vr _) t ht⟩
  have fu:Full Q (qm Q Q.length):=fun q hq=>se s Q.length (Vr _) (by rw [VZ];exact fl) q (by rw [VZ];exact hq)
  obtain ⟨H,h⟩:=fB Q
  obtain ⟨ss,ws,run,k2,Qe,no⟩:=Cz fl vf _ h (Vr _) kc fu
  have cl:=k2.calm fl Qe (G9 k2 no)
  have sub:∀ t∈ws,t∈ns:=fun t ht=>(mem t).mpr ⟨k2.bK t ht,cl t ht⟩
  have kn:=sE s nd mem
  have e:=(je nd k2.nodup fun t=>⟨k2.all fl kn sub t,sub t⟩).length_eq
  have e2:=run.EV kc fl
  omega
end
end L3
namespace L3
section
variable {Q:List Pl} {ns:List (List Pl)} {p:Pl}
theorem bS.perm {t:List Pl} {a b c:Pl} (r:bS t a b c):t.Perm [a,b,c]:=by
 rcases r with rfl | rfl | rfl
 ·exact .refl _
 ·exact VR (l₁:=[b,c]) (l₂:=[a])
 ·exact VR (l₁:=[c]) (l₂:=[a,b])
theorem CA (ps:List Pl) (nd:ps.Nodup):∃ qs:List Pl,qs.Perm ps∧qs.Pairwise (fun p q=>aI p q):=by
 have tot:∀ a b:Pl,(!decide (aI b a) || !decide (aI a b))=true:=fun a b=>by
  by_cases h:aI b a
  ·simp [h,az h]
  ·simp [h]
 have S4:∀ a b c:Pl,(!decide (aI b a))=true→(!decide (aI c b))=true→(!decide (aI c a))=true:=fun a b c h1 h2=>by
  simp only [Wv,decide_eq_false_iff_not] at *
  intro h3
  rcases bT b c with k | k | k
  ·exact h1 (bA k h3)
  ·subst k;exact h1 h3
  ·exact h2 k
 refine ⟨ps.mergeSort (fun a b=>!decide (aI b a)),Ym _ _,?_⟩
 refine uW ((List.pairwise_mergeSort S4 tot ps).imp fun h=>?_) ((Ym ps _).nodup_iff.mpr nd)
 simpa using h
end
end L3
namespace L3
open PySem PySem.Spec PyProof.Rows L2
def xx (ws:List (List Pl)):List (List (List Int) ×D):=ws.map fun w=>(kG w,.bl true)
theorem sL:∀ {v w:List Pl},kG v=kG w→v=w
 | [],[],_=>rfl
 | [],_ :: _,h=>by unfold kG at h;simp at h
 | _ :: _,[],h=>by unfold kG at h;simp at h
 | a :: v,b :: w,h=>by
   unfold kG at h
   rw [VP,VP] at h
   obtain ⟨h1,h2⟩:=List.cons.inj h
   have e:a=b:=by
    cases a;cases b
    simp only [List.cons.injEq,and_true] at h1
    rw [h1.1,h1.2]
   rw [e,sL (v:=v) (w:=w) h2]
theorem lB (w:List Pl):∀ ws:List (List Pl),(p9 (xx ws) (kG w)).isSome=decide (w∈ws)
 | []=>by simp [p9,xx]
 | v :: ws=>by
   have ih:=lB w ws
   unfold p9 xx at ih ⊢
   rw [VP,Yd]
   by_cases c:v=w
   ·subst c
    rw [decide_eq_true rfl]
    simp
   ·rw [decide_eq_false (fun z=>c (sL z))]
    dsimp only
    rw [ih]
    apply decide_eq_decide.mpr
    rw [Vl]
    exact ⟨fun z=> .inr z,fun z=>z.resolve_left fun y=>c y.symm⟩
theorem wF {w:List Pl} {ws:List (List Pl)} (h:w∉ws):u7 (xx ws) (kG w) (.bl true)=xx (ws ++ [w]):=by
 unfold u7
 rw [lB,decide_eq_false h]
 unfold xx
 rw [VM]
 rfl
theorem EW (ws:List (List Pl)):(xx ws).map (fun p=>kD p.1)=ws.map tD:=by
 unfold xx
 rw [X4]
 apply List.map_congr_left
 intro w _
 exact iy w
theorem wG (ws:List (List Pl)):(xx ws).length=ws.length:=by unfold xx;rw [Vk]
theorem MZ (b c:Pl):∃ m:Pl,[b,c].getD (argBest (bestOf (fun p q=>decide (aI p q)) [b,c]) ([b,c].length - 1)) ⟨0,0⟩=m∧(m=b∨m=c):=by
 rw [show argBest (bestOf (fun p q=>decide (aI p q)) [b,c]) ([b,c].length - 1)=argBest (bestOf (fun p q=>decide (aI p q)) [b,c]) 1 from rfl]
 unfold argBest argBest bestOf
 by_cases h1:aI c b
 ·exact ⟨c,by simp [h1],.inr rfl⟩
 ·exact ⟨b,by simp [h1],.inl rfl⟩
theorem Kg {ps:List Pl} {q:Pl} (m:q∈ps):∃ a b:Pl,a∈ps∧b∈ps∧uw (ps.map Pl.d) 0=some a.d∧uw (ps.map Pl.d) (-1)=some b.d:=by
 have h:ps≠[]:=Wo m
 obtain ⟨a,r,rfl⟩:=List.exists_cons_of_ne_nil h
 refine ⟨a,(a :: r).getLast h,by simp,List.getLast_mem h,AR (j:=0) rfl,?_⟩
 have e:(a :: r)=(a :: r).dropLast ++ [(a :: r).getLast h]:=(Xz h).symm
 have:(a :: r).map Pl.d=((a :: r).dropLast.map Pl.d) ++ [((a :: r).getLast h).d]:=by
  have:=congrArg (List.map Pl.d) e
  rw [VM] at this
  exact this
 rw [this]
 exact xM _ _
theorem Am {ts:List (List Pl)} (h:(aU ts).Nodup) (i:Nat):(aU (ts.take i)).Nodup:=by
 rw [← W4 i ts] at h
 unfold aU at h ⊢
 rw [XA] at h
 exact (VU.mp h).1
theorem EX {Q:List Pl} (s:cE Q) (k:bJ Q []):Flat Q:=by
 by_cases h2:Q.length < 2
 ·exact gK (by omega)
 ·obtain ⟨l,e,sl⟩:=uX s (by omega)
  obtain ⟨w,hw⟩:∃ w,w∈SL Q:=by
   apply XM
   intro z
   rw [z] at e
   have:=congrArg List.length e
   rw [Xy,VA,Wh,Wq,WL] at this
   omega
  obtain ⟨a,b,rfl⟩:=iM hw
  have sd:=(sl a b).mp hw
  rcases k.wB.has a b sd with h | h
  ·exact pA sd h
  ·unfold aU at h
   cases h
end L3
namespace L3
section
variable {Q F S:List Pl} {ns:List (List Pl)}
theorem yG {α:Type} {f g:α→Int}:∀ {l:List α},l≠[]→(∀ p∈l,0 < g p)→∃ q∈l,∀ p∈l,f q*g p≤f p*g q
 | [x],_,hg=>⟨x,by simp,fun p hp=>by rw [Vm.mp hp];exact Wa _⟩
 | x :: y :: r,_,hg=>by
   obtain ⟨q,hq,h⟩:=yG (f:=f) (g:=g) (l:=y :: r) (by simp) fun p hp=>hg p (Vj _ hp)
   have gx:=hg x (by simp)
   have gq:=hg q (Vj _ hq)
   rcases WK (f q*g x) (f x*g q) with k | k
   ·refine ⟨q,Vj _ hq,fun p hp=>?_⟩
    rcases Vl.mp hp with rfl | hp
    ·exact k
    ·exact h p hp
   ·refine ⟨x,by simp,fun p hp=>?_⟩
    rcases Vl.mp hp with rfl | hp
    ·exact Wa _
    ·have gp:=hg p (Vj _ hp)
     have HY:=h p hp
     refine Vi fun z=>?_
     have z:f p*g x < f x*g p:=by omega
     have e1:=W7 z gq
     have e2:=VL k (VF gp)
     have e3:=VL HY (VF gx)
     have i1:f x*g p*g q=f x*g q*g p:=by rw [Wm,Wn (g p),← Wm]
     have i2:f q*g x*g p=f q*g p*g x:=by rw [Wm,Wn (g x),← Wm]
     have i3:f p*g x*g q=f p*g q*g x:=by rw [Wm,Wn (g x),← Wm]
     omega
def fX (p:Pl):Int:=2 ^ 142*p.x+p.y
theorem Hf {p q:Pl} (h:aI p q) (hp:p.y.natAbs < 2 ^ 140) (hq:q.y.natAbs < 2 ^ 140):fX p < fX q:=by
 unfold fX
 rcases h with h | ⟨h1,h2⟩
 ·have:p.x+1≤q.x:=h
  omega
 ·rw [h1]
  omega
def cN (T:Int) (a b:Pl):Int:=(2*fX b - T)*a.y+(T - 2*fX a)*b.y
def cD (a b:Pl):Int:=2*fX b - 2*fX a
theorem nW (T:Int) (x y x' y':Pl):cN T x' y'*cD x y - cN T x y*cD x' y'=2 ^ 143*((2*fX y' - T)*tw x y x'+(T - 2*fX x')*tw x y y'):=by
 unfold cN cD fX tw
 grind
structure xD (Q F S:List Pl) (T:Int):Prop where
 mem:∀ q,q∈Q↔q∈F∨q∈S
 low:∀ q∈F,2*fX q < T
 high:∀ q∈S,T < 2*fX q
theorem An (s:cE (F ++ S)):∃ T,xD (F ++ S) F S T:=by
 have lt:∀ p∈F ++ S,∀ q∈F ++ S,aI p q→fX p < fX q:=fun p hp q hq h=>Hf h (s.2 p hp) (s.2 q hq)
 obtain ⟨h1,h2,h3⟩:=Ws.mp s.1
 rcases List.eq_nil_or_concat F with e | ⟨F',l,e⟩
 ·obtain ⟨B,hB⟩:=sA fX S
  refine ⟨-(2*B) - 1,fun q=>Vv,fun q hq=>?_,fun q hq=>?_⟩
  ·rw [e] at hq;cases hq
  ·have:=hB q hq
   omega
 ·rw [List.concat_eq_append] at e
  have ml:l∈F:=by rw [e];simp
  refine ⟨2*fX l+1,fun q=>Vv,fun q hq=>?_,fun q hq=>?_⟩
  ·rw [e] at hq h1
   rcases Vv.mp hq with z | z
   ·have:=lt q (by rw [e];simp [z]) l (Vq _ ml) ((Ws.mp h1).2.2 q z l (by simp))
    omega
   ·rw [Vm.mp z];omega
  ·have:=lt l (Vq _ ml) q (Vw _ hq) (h3 l ml q hq)
   omega
variable {T:Int}
theorem xD.apart (v:xD Q F S T) {q:Pl} (h1:q∈F) (h2:q∈S):False:=by
 have:=v.low q h1
 have:=v.high q h2
 omega
theorem xD.cpos (v:xD Q F S T) {a b:Pl} (h1:a∈F) (h2:b∈S):0 < cD a b:=by
 have:=v.low a h1
 have:=v.high b h2
 unfold cD
 omega
theorem Ao (a b:Pl):tw a b b=0:=by unfold tw;grind
theorem wH (a b:Pl):tw a b a=0:=by unfold tw;grind
theorem xD.Rf (v:xD Q F S T) {a b c:Pl} (h2:b∈S) (p:0 < tw a b c):cN T a b*cD c b < cN T c b*cD a b:=by
 have i:=nW T a b c b
 rw [Ao,V3,WT] at i
 have:=v.high b h2
 have:=VH (show (0:Int) < 2 ^ 143 by decide) (VH (show 0 < 2*fX b - T by omega) p)
 omega
theorem xD.AX (v:xD Q F S T) {a b c:Pl} (h1:a∈F) (p:0 < tw a b c):cN T a b*cD a c < cN T a c*cD a b:=by
 have i:=nW T a b a c
 rw [wH,V3,X0] at i
 have:=v.low a h1
 have:=VH (show (0:Int) < 2 ^ 143 by decide) (VH (show 0 < T - 2*fX a by omega) p)
 omega
def CB (ns ts:List (List Pl)) (x y:Pl):Prop:= ∀ t∈ns,∀ z,bS t x y z→t∈ts
theorem vg (v:xD Q F S T) (k:bJ Q ns) {ts:List (List Pl)} (hS:∀ x∈F,∀ y∈S,aO Q x y→CB ns ts x y)
 (hN:∀ t∈ts,∀ x y z,bS t x y z→x∈F→y∈S→(z∈F→CB ns ts z y)∧(z∈S→CB ns ts x z)) {t:List Pl} (ht:t∈ns) {x y z:Pl} (r:bS t x y z) (hx:x∈F) (hy:y∈S):t∈ts:=by
 apply Vi
 intro nt
 let B:List (List Pl):=(aU ns).filter fun w=>match w with
  | [a,b]=>decide (a∈F) && decide (b∈S) && !decide (w∈aU (ns.filter fun t=>decide (t∈ts)))
  | _=>false
 have mB:∀ w,w∈B↔∃ a b,w= [a,b]∧a∈F∧b∈S∧∃ t∈ns,t∉ts∧[a,b]∈dh t:=fun w=>by
  show w∈(aU ns).filter _↔_
  rw [Vu]
  constructor
  ·rintro ⟨h1,h2⟩
   obtain ⟨a,b,rfl,_⟩:=k.wB.rP w h1
   simp only [Wc,decide_eq_true_eq,Wv,decide_eq_false_iff_not] at h2
   obtain ⟨⟨h2,h3⟩,h4⟩:=h2
   obtain ⟨t,ht,m⟩:=br.mp h1
   exact ⟨a,b,rfl,h2,h3,t,ht,fun z=>h4 (br.mpr ⟨t,Vu.mpr ⟨ht,decide_eq_true z⟩,m⟩),m⟩
  ·rintro ⟨a,b,rfl,h1,h2,t,ht,nt,m⟩
   refine ⟨br.mpr ⟨t,ht,m⟩,?_⟩
   simp only [Wc,decide_eq_true_eq,Wv,decide_eq_false_iff_not]
   refine ⟨⟨h1,h2⟩,fun z=>nt ?_⟩
   obtain ⟨u,hu,m2⟩:=br.mp z
   obtain ⟨hu,yu⟩:=Vu.mp hu
   rw [k.Bu ht hu m m2]
   exact of_decide_eq_true yu
 have ne:B≠[]:=Wo ((mB [x,y]).mpr ⟨x,y,rfl,hx,hy,t,ht,nt,r.t8⟩)
 let f:List Pl→Int:=fun w=>match w with | [a,b]=>cN T a b | _=>0
 let g:List Pl→Int:=fun w=>match w with | [a,b]=>cD a b | _=>0
 obtain ⟨w,hw,hm⟩:=yG (f:=f) (g:=g) ne fun w hw=>by
  obtain ⟨a,b,rfl,h1,h2,_⟩:=(mB w).mp hw
  exact v.cpos h1 h2
 obtain ⟨a,b,rfl,ha,hb,t,ht,nt,m⟩:=(mB w).mp hw
 obtain ⟨c,r⟩:=jt (k.bK t ht) m
 by_cases dn: [b,a]∈aU ns
 ·obtain ⟨u,hu,m2⟩:=br.mp dn
  obtain ⟨e,r2⟩:=jt (k.bK u hu) m2
  obtain ⟨pe,_,_,he⟩:=r2.tw (k.bK u hu)
  rcases (v.mem e).mp he with he | he
  ·
   have r3:bS u e b a:=r2.next.next
   have p3:=(r3.tw (k.bK u hu)).1
   have ia:u∈ts:=by
    apply Vi
    intro n
    have q:=hm [e,b] ((mB _).mpr ⟨e,b,rfl,he,hb,u,hu,n,r3.t8⟩)
    have q2:=v.Rf hb p3
    have q:cN T a b*cD e b≤cN T e b*cD a b:=q
    omega
   exact nt ((hN u ia e b a r3 he hb).1 ha t ht c r)
  ·have r3:bS u a e b:=r2.next
   have p3:=(r3.tw (k.bK u hu)).1
   have ia:u∈ts:=by
    apply Vi
    intro n
    have q:=hm [a,e] ((mB _).mpr ⟨a,e,rfl,ha,he,u,hu,n,r3.t8⟩)
    have q2:=v.AX ha p3
    have q:cN T a b*cD a e≤cN T a e*cD a b:=q
    omega
   exact nt ((hN u ia a e b r3 ha he).2 hb t ht c r)
 ·exact nt (hS a ha b hb (k.wB.bare a b (br.mpr ⟨t,ht,m⟩) dn) t ht c r)
theorem CC (v:xD Q F S T) {x y x' y':Pl} (s:aO Q x y) (s':aO Q x' y') (hx:x∈F) (hy:y∈S) (hx':x'∈F) (hy':y'∈S) (bf:∀ p∈F,∀ q∈S,aI p q):x=x'∧y=y':=by
 have i:=nW T x y x' y'
 have i':=nW T x' y' x y
 have l1:=v.low x hx
 have l2:=v.low x' hx'
 have h1:=v.high y hy
 have h2:=v.high y' hy'
 obtain ⟨_,_,_,Cu⟩:=s
 obtain ⟨_,_,_,Hg⟩:=s'
 have Il:∀ {q},q∈F→q∈Q:=fun {q} h=>(v.mem q).mpr (.inl h)
 have Im:∀ {q},q∈S→q∈Q:=fun {q} h=>(v.mem q).mpr (.inr h)
 have e1:=(Cu x' (Il hx')).1
 have e2:=(Cu y' (Im hy')).1
 have e3:=(Hg x (Il hx)).1
 have e4:=(Hg y (Im hy)).1
 have m1:=Vs (show 0≤2*fX y' - T by omega) e1
 have m2:=Vs (show 0≤T - 2*fX x' by omega) e2
 have m3:=Vs (show 0≤2*fX y - T by omega) e3
 have m4:=Vs (show 0≤T - 2*fX x by omega) e4
 have z1:(2*fX y' - T)*tw x y x'=0:=by omega
 have z2:(T - 2*fX x')*tw x y y'=0:=by omega
 have z3:(2*fX y - T)*tw x' y' x=0:=by omega
 have z4:(T - 2*fX x)*tw x' y' y=0:=by omega
 have z1:=(VB.mp z1).resolve_left (by omega)
 have z2:=(VB.mp z2).resolve_left (by omega)
 have z3:=(VB.mp z3).resolve_left (by omega)
 have z4:=(VB.mp z4).resolve_left (by omega)
 have lo1:∀ {a b:Pl},aI a b→lo a b=a∧hi a b=b:=fun {a b} h=>⟨by unfold lo;rw [if_neg (az h)],by unfold hi;rw [if_pos h]⟩
 obtain ⟨a1,a2⟩:=lo1 (bf x hx y hy)
 obtain ⟨a3,a4⟩:=lo1 (bf x' hx' y' hy')
 have n1:=(Cu x' (Il hx')).2 z1
 have n2:=(Cu y' (Im hy')).2 z2
 have n3:=(Hg x (Il hx)).2 z3
 have n4:=(Hg y (Im hy)).2 z4
 rw [a1,a2] at n1 n2
 rw [a3,a4] at n3 n4
 constructor
 ·rcases bT x x' with h | h | h
  ·exact absurd ⟨h,bf x' hx' y hy⟩ n1
  ·exact h
  ·exact absurd ⟨h,bf x hx y' hy'⟩ n3
 ·rcases bT y y' with h | h | h
  ·exact absurd ⟨bf x' hx' y hy,h⟩ n4
  ·exact h
  ·exact absurd ⟨bf x hx y' hy',h⟩ n2
end
end L3
namespace L3
section
variable {Q F S:List Pl} {ns:List (List Pl)} {T:Int}
def CD (a b:Pl) (c:Option Pl) (d:Pl):Bool:=decide (0 < tw a b d) && (match c with | none=>true | some e=>decide (eB a b e d))
def vh (a b:Pl) (rs:List Pl):Option Pl:=rs.foldl (fun c d=>if CD a b c d=true then some d else c) none
theorem EY (a b:Pl) (rs:List Pl) (d:Pl):vh a b (rs ++ [d])=if CD a b (vh a b rs) d=true then some d else vh a b rs:=by
 unfold vh
 rw [Yv]
 rfl
theorem yH {a b:Pl} {rs:List Pl} {i:Nat} {d:Pl} (h:rs[i]?=some d):vh a b (rs.take (i+1))=if CD a b (vh a b (rs.take i)) d=true then some d else vh a b (rs.take i):=by
 rw [XR,h]
 exact EY a b _ d
theorem sM {H:Pl→Int} (h:Ht Q H) {a b:Pl} (ha:a∈Q) (hb:b∈Q) (rs:List Pl) (hr:∀ d∈rs,d∈Q):∀ i:Nat,(vh a b (rs.take i)=none→∀ d∈rs.take i,¬ 0 < tw a b d)∧∀ e,vh a b (rs.take i)=some e→e∈rs∧0 < tw a b e∧∀ d∈rs.take i,0 < tw a b d→¬ eB a b e d
 | 0=>⟨fun _ d hd=>by simp at hd,fun e he=>by cases he⟩
 | i+1=>by
   obtain ⟨i1,i2⟩:=sM h ha hb rs hr i
   by_cases li:i < rs.length
   ·have hg:rs[i]?=some rs[i]:=Vn li
    have md:rs[i]∈rs:=XW li
    have et:rs.take (i+1)=rs.take i ++ [rs[i]]:=by rw [XR,hg];rfl
    rw [yH hg,et]
    generalize rs[i]=d0 at *
    have sub:∀ d∈rs.take i,d∈Q:=fun d hd=>hr d (WD hd)
    have hd0:=hr d0 md
    cases ec:vh a b (rs.take i) with
    | none=>
      rw [ec] at i1
      unfold CD
      simp only [Xq,decide_eq_true_eq]
      by_cases p:0 < tw a b d0
      ·rw [if_pos p]
       refine ⟨(fun z=>by cases z),fun e he=>?_⟩
       cases he
       refine ⟨md,p,fun d hd pd=>?_⟩
       rcases Vv.mp hd with z | z
       ·exact absurd pd (i1 rfl d z)
       ·rw [Vm] at z
        subst z
        rw [h.xw a ha b hb d hd0 d hd0 p,Bp]
        omega
      ·rw [if_neg p]
       refine ⟨fun _ d hd=>?_,fun e he=>by cases he⟩
       rcases Vv.mp hd with z | z
       ·exact i1 rfl d z
       ·rw [Vm] at z;subst z;exact p
    | some c=>
      obtain ⟨c1,c2,c3⟩:=i2 c ec
      have hc:=hr c c1
      unfold CD
      simp only [Wc,decide_eq_true_eq]
      by_cases p:0 < tw a b d0∧eB a b c d0
      ·rw [if_pos p]
       obtain ⟨p,sp⟩:=p
       refine ⟨(fun z=>by cases z),fun e he=>?_⟩
       cases he
       refine ⟨md,p,fun d hd pd=>?_⟩
       have l0:=(h.xw a ha b hb c hc d0 hd0 c2).mp sp
       rcases Vv.mp hd with z | z
       ·have n:=c3 d z pd
        rw [h.xw a ha b hb c hc d (sub d z) c2] at n
        rw [h.xw a ha b hb d0 hd0 d (sub d z) p]
        have i:=yy H a b c d0 d
        have y1:=Vs (show 0≤cK H a b c d by omega) (VF p)
        have y2:=VG (VF l0) (VF pd)
        have:0≤cK H a b d0 d:=kB c2 (by rw [Wn,i];omega)
        omega
       ·rw [Vm] at z
        subst z
        rw [h.xw a ha b hb d hd0 d hd0 p,Bp]
        omega
      ·rw [if_neg p]
       refine ⟨(fun z=>by cases z),fun e he=>?_⟩
       cases he
       refine ⟨c1,c2,fun d hd pd=>?_⟩
       rcases Vv.mp hd with z | z
       ·exact c3 d z pd
       ·rw [Vm] at z
        subst z
        exact fun sp=>p ⟨pd,sp⟩
   ·rw [WY (by omega)]
    rw [WY (by omega)] at i1 i2
    exact ⟨i1,i2⟩
theorem CF {t:List Pl} {a b c c':Pl} (hT:ic Q t) (r:bS t a b c) (r':bS t a b c'):c'=c:=by
 have p:=(r'.tw hT).1
 rcases (r.mem c').mp ((r'.mem c').mpr (.inr (.inr rfl))) with z | z | z
 ·rw [z,wH] at p;omega
 ·rw [z,Ao] at p;omega
 ·exact z
theorem CG (k:bJ Q ns) {a b:Pl} (e:aO Q a b∨[b,a]∈aU ns):(∃ t∈ns,∃ c,bS t a b c)∨∀ q∈Q,¬ 0 < tw a b q:=by
 have go: [a,b]∈aU ns→∃ t∈ns,∃ c,bS t a b c:=fun m=>by
  obtain ⟨t,ht,m⟩:=br.mp m
  obtain ⟨c,r⟩:=jt (k.bK t ht) m
  exact ⟨t,ht,c,r⟩
 rcases e with sd | dn
 ·rcases k.wB.has a b sd with h | h
  ·refine .inr fun q hq=>?_
   have:=(h.2.2.2 q hq).1
   have:=bU a b q
   omega
  ·exact .inl (go h)
 ·by_cases m: [a,b]∈aU ns
  ·exact .inl (go m)
  ·have sd:=k.wB.bare b a dn m
   refine .inr fun q hq=>?_
   have:=(sd.2.2.2 q hq).1
   have:=bU a b q
   omega
theorem Hh {H:Pl→Int} (h:Ht Q H) (k:bJ Q ns) (mem:∀ t,t∈ns↔ic Q t∧oN Q t) {a b:Pl} (ha:a∈Q) (hb:b∈Q) (e:aO Q a b∨[b,a]∈aU ns) {rs:List Pl} (hr:∀ d,d∈rs↔d∈Q) :
 (vh a b rs=none∧∀ t∈ns,∀ z,¬ bS t a b z)∨∃ c,vh a b rs=some c∧c∈Q∧0 < tw a b c∧∃ t∈ns,bS t a b c:=by
 obtain ⟨s1,s2⟩:=sM h ha hb rs (fun d hd=>(hr d).mp hd) rs.length
 rw [VZ] at s1 s2
 cases ec:vh a b rs with
 | none=>
   refine .inl ⟨rfl,fun t ht z r=>?_⟩
   obtain ⟨p,_,_,hz⟩:=r.tw (k.bK t ht)
   exact s1 ec z ((hr z).mpr hz) p
 | some c=>
   obtain ⟨m,p,q⟩:=s2 c ec
   have hc:=(hr c).mp m
   refine .inr ⟨c,rfl,hc,p,?_⟩
   rcases CG k e with ⟨t,ht,z,r⟩ | n
   ·obtain ⟨pz,_,_,hz⟩:=r.tw (k.bK t ht)
    have n1:=q z ((hr z).mpr hz) pz
    rw [h.xw a ha b hb c hc z hz p] at n1
    have n2:=((mem t).mp ht).2 c hc
    rw [h.Ct (k.bK t ht) r hc] at n2
    have e:=yx H a b c z
    rcases h.gen a ha b hb c hc z hz p (by omega) with y | y | y
    ·rw [y,wH] at pz;omega
    ·rw [y,Ao] at pz;omega
    ·rw [y] at r;exact ⟨t,ht,r⟩
   ·exact absurd p (n c hc)
theorem sN {a b c d e f:Int} (hb:0 < b) (hd:0 < d) (hf:0 < f) (h1:a*d < c*b) (h2:c*f < e*d):a*f < e*b:=by
 have e1:=W7 h1 hf
 have e2:=W7 h2 hb
 have i1:c*b*f=c*f*b:=by rw [Wm,Wn b,← Wm]
 have i2:a*d*f=a*f*d:=by rw [Wm,Wn d,← Wm]
 have i3:e*d*b=e*b*d:=by rw [Wm,Wn d,← Wm]
 exact Int.lt_of_mul_lt_mul_right (show a*f*d < e*b*d by omega) (VF hd)
structure CS (Q F S:List Pl) (ns:List (List Pl)) (T:Int) (x0 y0:Pl) (ts:List (List Pl)) (a b:Pl):Prop where
 ha:a∈F
 hb:b∈S
 GI:aO Q a b∨[b,a]∈aU ns
 sub:∀ t∈ts,t∈ns∧∃ x y z,bS t x y z∧x∈F∧y∈S
 nd:ts.Nodup
 start:(x0=a∧y0=b)∨CB ns ts x0 y0
 next:∀ t∈ts,∀ x y z,bS t x y z→x∈F→y∈S→(z∈F→(z=a∧y=b)∨CB ns ts z y)∧(z∈S→(x=a∧z=b)∨CB ns ts x z)
 below:∀ t∈ts,∀ x y z,bS t x y z→x∈F→y∈S→cN T x y*cD a b < cN T a b*cD x y
theorem CS.begin {x0 y0:Pl} (s:aO Q x0 y0) (hx:x0∈F) (hy:y0∈S):CS Q F S ns T x0 y0 [] x0 y0 where
 ha:=hx
 hb:=hy
 GI:= .inl s
 sub:=fun t ht=>by cases ht
 nd:= .nil
 start:= .inl ⟨rfl,rfl⟩
 next:=fun t ht=>by cases ht
 below:=fun t ht=>by cases ht
theorem CS.step (v:xD Q F S T) (k:bJ Q ns) {x0 y0 a b c:Pl} {ts:List (List Pl)} (ch:CS Q F S ns T x0 y0 ts a b) {t0:List Pl} (h0:t0∈ns) (r0:bS t0 a b c) :
 t0∉ts∧(c∈F→CS Q F S ns T x0 y0 (ts ++ [t0]) c b)∧(c∈S→CS Q F S ns T x0 y0 (ts ++ [t0]) a c):=by
 have hT:=k.bK t0 h0
 have p0:=(r0.tw hT).1
 have fresh:t0∉ts:=fun z=>Int.lt_irrefl _ (ch.below t0 z a b c r0 ch.ha ch.hb)
 have only:∀ x y z,bS t0 x y z→x∈F→y∈S→x=a∧y=b∧z=c:=fun x y z r hx hy=>by
  have:=r0.dir.mem_iff.mp r.t8
  simp only [Vl,VY,or_false] at this
  rcases this with e | e | e
  ·obtain ⟨rfl,rfl⟩:=aL e
   exact ⟨rfl,rfl,CF hT r0 r⟩
  ·exact absurd ch.hb (fun z=>v.apart ((aL e).1▸hx) z)
  ·exact absurd ch.ha (fun z=>v.apart z ((aL e).2▸hy))
 have mono:∀ {x y},CB ns ts x y→CB ns (ts ++ [t0]) x y:=fun d t ht z r=>Vq _ (d t ht z r)
 have Kh:CB ns (ts ++ [t0]) a b:=fun t ht z r=>by
  rw [k.Bu ht h0 r.t8 r0.t8]
  simp
 have sub:∀ t∈ts ++ [t0],t∈ns∧∃ x y z,bS t x y z∧x∈F∧y∈S:=fun t ht=>by
  rcases Vv.mp ht with z | z
  ·exact ch.sub t z
  ·rw [Vm.mp z];exact ⟨h0,a,b,c,r0,ch.ha,ch.hb⟩
 have nd:(ts ++ [t0]).Nodup:=VU.mpr ⟨ch.nd,by simp,fun x hx y hy e=>by rw [Vm] at hy;subst hy;exact fresh (e▸hx)⟩
 have st:∀ a' b',(x0=a'∧y0=b')∨CB ns (ts ++ [t0]) x0 y0:=fun a' b'=>by
  rcases ch.start with ⟨rfl,rfl⟩ | d
  ·exact .inr Kh
  ·exact .inr (mono d)
 have nx:∀ t∈ts,∀ x y z,bS t x y z→x∈F→y∈S→(z∈F→CB ns (ts ++ [t0]) z y)∧(z∈S→CB ns (ts ++ [t0]) x z):=fun t ht x y z r hx hy=>by
  obtain ⟨n1,n2⟩:=ch.next t ht x y z r hx hy
  constructor
  ·intro hz
   rcases n1 hz with ⟨rfl,rfl⟩ | d
   ·exact Kh
   ·exact mono d
  ·intro hz
   rcases n2 hz with ⟨rfl,rfl⟩ | d
   ·exact Kh
   ·exact mono d
 refine ⟨fresh,fun hc=>⟨hc,ch.hb,.inr (br.mpr ⟨t0,h0,r0.next.t8⟩),sub,nd,st c b,fun t ht x y z r hx hy=>?_,fun t ht x y z r hx hy=>?_⟩,fun hc=>⟨ch.ha,hc,.inr (br.mpr ⟨t0,h0,r0.next.next.t8⟩),sub,nd,st a c,fun t ht x y z r hx hy=>?_,fun t ht x y z r hx hy=>?_⟩⟩
 ·rcases Vv.mp ht with q | q
  ·exact ⟨fun hz=> .inr ((nx t q x y z r hx hy).1 hz),fun hz=> .inr ((nx t q x y z r hx hy).2 hz)⟩
  ·rw [Vm] at q
   subst q
   obtain ⟨rfl,rfl,rfl⟩:=only x y z r hx hy
   exact ⟨fun _=> .inl ⟨rfl,rfl⟩,fun hz=>(v.apart hc hz).elim⟩
 ·have up:=v.Rf ch.hb p0
  rcases Vv.mp ht with q | q
  ·exact sN (v.cpos hx hy) (v.cpos ch.ha ch.hb) (v.cpos hc ch.hb) (ch.below t q x y z r hx hy) up
  ·rw [Vm] at q
   subst q
   obtain ⟨rfl,rfl,rfl⟩:=only x y z r hx hy
   exact up
 ·rcases Vv.mp ht with q | q
  ·exact ⟨fun hz=> .inr ((nx t q x y z r hx hy).1 hz),fun hz=> .inr ((nx t q x y z r hx hy).2 hz)⟩
  ·rw [Vm] at q
   subst q
   obtain ⟨rfl,rfl,rfl⟩:=only x y z r hx hy
   exact ⟨fun hz=>(v.apart hz hc).elim,fun _=> .inl ⟨rfl,rfl⟩⟩
 ·have up:=v.AX ch.ha p0
  rcases Vv.mp ht with q | q
  ·exact sN (v.cpos hx hy) (v.cpos ch.ha ch.hb) (v.cpos ch.ha hc) (ch.below t q x y z r hx hy) up
  ·rw [Vm] at q
   subst q
   obtain ⟨rfl,rfl,rfl⟩:=only x y z r hx hy
   exact up
def Fi (F S t:List Pl):Prop:=(∃ p∈t,p∈F)∧∃ p∈t,p∈S
theorem wI (v:xD Q F S T) {t:List Pl} (hT:ic Q t):Fi F S t↔∃ x y z,bS t x y z∧x∈F∧y∈S:=by
 constructor
 ·rintro ⟨⟨p,hp,pF⟩,⟨q,hq,qS⟩⟩
  obtain ⟨e,f,r⟩:=bS.EN hT hp
  obtain ⟨_,_,he,hf⟩:=r.tw hT
  rcases (v.mem e).mp he with y | y
  ·rcases (r.mem q).mp hq with rfl | rfl | rfl
   ·exact (v.apart pF qS).elim
   ·exact (v.apart y qS).elim
   ·exact ⟨e,q,p,r.next,y,qS⟩
  ·exact ⟨p,e,f,r,pF,y⟩
 ·rintro ⟨x,y,z,r,hx,hy⟩
  exact ⟨⟨x,(r.mem x).mpr (.inl rfl),hx⟩,⟨y,(r.mem y).mpr (.inr (.inl rfl)),hy⟩⟩
theorem CS.last (v:xD Q F S T) (k:bJ Q ns) (bf:∀ p∈F,∀ q∈S,aI p q) {x0 y0 a b:Pl} {ts:List (List Pl)} (s0:aO Q x0 y0) (S5:x0∈F) (S6:y0∈S) (ch:CS Q F S ns T x0 y0 ts a b) (no:∀ t∈ns,∀ z,¬ bS t a b z) (t:List Pl):t∈ts↔t∈ns∧Fi F S t:=by
 have Kh:CB ns ts a b:=fun t ht z r=>absurd r (no t ht z)
 constructor
 ·intro ht
  obtain ⟨h1,h2⟩:=ch.sub t ht
  exact ⟨h1,(wI v (k.bK t h1)).mpr h2⟩
 ·rintro ⟨h1,h2⟩
  obtain ⟨x,y,z,r,hx,hy⟩:=(wI v (k.bK t h1)).mp h2
  refine vg v k (fun x hx y hy sd=>?_) (fun t ht x y z r hx hy=>?_) h1 r hx hy
  ·obtain ⟨rfl,rfl⟩:=CC v sd s0 hx hy S5 S6 bf
   rcases ch.start with ⟨rfl,rfl⟩ | d
   ·exact Kh
   ·exact d
  ·obtain ⟨n1,n2⟩:=ch.next t ht x y z r hx hy
   constructor
   ·intro hz
    rcases n1 hz with ⟨rfl,rfl⟩ | d
    ·exact Kh
    ·exact d
   ·intro hz
    rcases n2 hz with ⟨rfl,rfl⟩ | d
    ·exact Kh
    ·exact d
theorem EZ (v:xD Q F S T) (k:bJ Q ns) (no:∀ x∈F,∀ y∈S,¬ aO Q x y) {t:List Pl} (ht:t∈ns):¬ Fi F S t:=fun h=>by
 obtain ⟨x,y,z,r,hx,hy⟩:=(wI v (k.bK t ht)).mp h
 have:=vg (ts:=[]) v k (fun x hx y hy sd=>absurd sd (no x hx y hy)) (fun t ht=>by cases ht) ht r hx hy
 cases this
theorem nX (v:xD Q F S T) (t:List Pl):(ic Q t∧oN Q t)↔((ic F t∧oN F t)∧oN S t)∨((ic S t∧oN S t)∧oN F t)∨((ic Q t∧oN Q t)∧Fi F S t):=by
 have cq:oN Q t↔oN F t∧oN S t:=⟨fun c=>⟨fun d hd=>c d ((v.mem d).mpr (.inl hd)),fun d hd=>c d ((v.mem d).mpr (.inr hd))⟩,fun c d hd=>by
  rcases (v.mem d).mp hd with z | z
  ·exact c.1 d z
  ·exact c.2 d z⟩
 constructor
 ·rintro ⟨hT,hC⟩
  by_cases b:Fi F S t
  ·exact .inr (.inr ⟨⟨hT,hC⟩,b⟩)
  ·obtain ⟨c1,c2⟩:=cq.mp hC
   by_cases f:∃ p∈t,p∈F
   ·refine .inl ⟨⟨⟨hT.1,fun q hq=>?_⟩,c1⟩,c2⟩
    exact ((v.mem q).mp (hT.2 q hq)).resolve_right fun z=>b ⟨f,q,hq,z⟩
   ·refine .inr (.inl ⟨⟨⟨hT.1,fun q hq=>?_⟩,c2⟩,c1⟩)
    exact ((v.mem q).mp (hT.2 q hq)).resolve_left fun z=>f ⟨q,hq,z⟩
 ·rintro (⟨⟨h1,h2⟩,h3⟩ | ⟨⟨h1,h2⟩,h3⟩ | ⟨h,_⟩)
  ·exact ⟨⟨h1.1,fun q hq=>(v.mem q).mpr (.inl (h1.2 q hq))⟩,cq.mpr ⟨h2,h3⟩⟩
  ·exact ⟨⟨h1.1,fun q hq=>(v.mem q).mpr (.inr (h1.2 q hq))⟩,cq.mpr ⟨h3,h2⟩⟩
  ·exact h
theorem vm {α:Type} [DecidableEq α]:∀ l:List α,∃ m:List α,m.Nodup∧∀ x,x∈m↔x∈l
 | []=>⟨[],.nil,fun x=>Iff.rfl⟩
 | a :: l=>by
   obtain ⟨m,nd,h⟩:=vm l
   by_cases z:a∈m
   ·refine ⟨m,nd,fun x=>?_⟩
    rw [h,Vl]
    exact ⟨.inr,fun y=>y.elim (fun e=>e▸(h a).mp z) id⟩
   ·refine ⟨a :: m,VC.mpr ⟨z,nd⟩,fun x=>?_⟩
    rw [Vl,Vl,h]
theorem mR (Q:List Pl):∃ ns:List (List Pl),ns.Nodup∧∀ t,t∈ns↔ic Q t∧oN Q t:=by
 obtain ⟨m,nd,h⟩:=vm (Q.flatMap fun a=>Q.flatMap fun b=>Q.map fun c=>[a,b,c])
 refine ⟨m.filter fun t=> @decide (ic Q t∧oN Q t) (Classical.propDecidable _),nd.filter _,fun t=>?_⟩
 rw [Vu,h,@decide_eq_true_iff _ (Classical.propDecidable _)]
 refine ⟨fun z=>z.2,fun z=>⟨?_,z⟩⟩
 obtain ⟨a,b,c,rfl,_,ha,hb,hc,_⟩:=z.1.parts
 simp only [We,VJ]
 exact ⟨a,ha,b,hb,c,hc,rfl⟩
def E1 (Q:List Pl) (us:List (List Pl)):Prop:=us.Nodup∧(∀ t,t∈us↔ic Q t∧oN Q t)∧us.Pairwise (fun p q=>cy q p=false)∧us.length≤44
def wJ (Q F S:List Pl) (us:List (List Pl)):Prop:=us.Nodup∧(∀ t,t∈us↔(ic Q t∧oN Q t)∧Fi F S t)∧us.Pairwise (fun p q=>cy q p=false)∧us.length≤44
theorem wJ.of (s:cE Q) (lq:Q.length≤20) {ts us:List (List Pl)} (nd:ts.Nodup) (h:∀ t,t∈ts↔(ic Q t∧oN Q t)∧Fi F S t) (p:us.Perm ts) (so:us.Pairwise (fun p q=>cy q p=false)):wJ Q F S us:=by
 obtain ⟨ns,Na,mem⟩:=mR Q
 have l:=Bv s Na mem
 have:=sJ nd fun t ht=>(mem t).mpr ((h t).mp ht).1
 exact ⟨p.nodup_iff.mpr nd,fun t=>p.mem_iff.trans (h t),so,by rw [p.length_eq];omega⟩
theorem wJ.short (s:cE Q) (lq:Q.length≤20) {ts:List (List Pl)} (nd:ts.Nodup) (h:∀ t∈ts,ic Q t∧oN Q t):ts.length≤44:=by
 obtain ⟨ns,Na,mem⟩:=mR Q
 have l:=Bv s Na mem
 have:=sJ nd fun t ht=>(mem t).mpr (h t ht)
 omega
def vn (S t:List Pl):Bool:=match t with
 | [a,b,c]=>JQ S a b c
 | _=>false
theorem Bw {t:List Pl} (h:dY t):vn S t=false↔oN S t:=by
 obtain ⟨a,b,c,rfl,_⟩:=h
 unfold vn JQ oN t6
 rw [Yr]
 constructor
 ·intro z d hd
  have:=z d hd
  rwa [decide_eq_true_eq] at this
 ·intro z d hd
  rw [decide_eq_true_eq]
  exact z d hd
theorem CH (v:xD Q F S T) (s:cE Q) (lq:Q.length≤20) {us vs ws:List (List Pl)} (k1:E1 F us) (k2:E1 S vs) (k3:wJ Q F S ws) :
 (us.filter (fun t=>!vn S t) ++ vs.filter (fun t=>!vn F t) ++ ws).Nodup∧(∀ t,t∈us.filter (fun t=>!vn S t) ++ vs.filter (fun t=>!vn F t) ++ ws↔ic Q t∧oN Q t)∧(us.filter (fun t=>!vn S t) ++ vs.filter (fun t=>!vn F t) ++ ws).length≤44:=by
 obtain ⟨nu,mu,su,lu⟩:=k1
 obtain ⟨nv,mv,sv,lv⟩:=k2
 obtain ⟨nw,mw,sw,lw⟩:=k3
 have Km:∀ {R t:List Pl},ic R t→∃ p∈t,p∈R:=fun {R t} h=>by
  obtain ⟨a,b,c,rfl,_,ha,_⟩:=h.parts
  exact ⟨a,by simp,ha⟩
 have mm:∀ t,t∈us.filter (fun t=>!vn S t) ++ vs.filter (fun t=>!vn F t) ++ ws↔ic Q t∧oN Q t:=fun t=>by
  rw [nX v t,Vv,Vv,Vu,Vu,mu,mv,mw,or_assoc]
  refine or_congr (and_congr_right fun h=>?_) (or_congr (and_congr_right fun h=>?_) Iff.rfl)
  ·rw [Wv,Bw h.1.1]
  ·rw [Wv,Bw h.1.1]
 have nn:(us.filter (fun t=>!vn S t) ++ vs.filter (fun t=>!vn F t) ++ ws).Nodup:=by
  refine VU.mpr ⟨VU.mpr ⟨nu.filter _,nv.filter _,fun x hx y hy e=>?_⟩,nw,fun x hx y hy e=>?_⟩
  ·subst e
   have h1:=((mu x).mp (Vu.mp hx).1).1
   have h2:=((mv x).mp (Vu.mp hy).1).1
   obtain ⟨p,hp,Qf⟩:=Km h1
   exact v.apart Qf (h2.2 p hp)
  ·subst e
   obtain ⟨⟨p,hp,Qf⟩,⟨q,hq,S7⟩⟩:=((mw x).mp hy).2
   rcases Vv.mp hx with z | z
   ·exact v.apart (((mu x).mp (Vu.mp z).1).1.2 q hq) S7
   ·exact v.apart Qf (((mv x).mp (Vu.mp z).1).1.2 p hp)
 exact ⟨nn,mm,wJ.short s lq nn fun t ht=>(mm t).mp ht⟩
end
end L3
namespace HD
open PySem PySem.W L2
theorem Nb:dA=kZ:=funext fun s=>by cases s <;> rfl
theorem Nc:dB=gj:=funext fun s=>by cases s <;> rfl
theorem Nd:dS=aq:=funext fun s=>by cases s <;> rfl
def zc (h:Heap):List Addr→Frag
 | []=>[]
 | a :: r=>match h.get? a with
   | some o=>(a,o) :: zc h r
   | none=>zc h r
theorem Aq (h:Heap):∀ as:List Addr,(zc h as).In h
 | [],_,_,e=>nomatch e
 | b :: r,a,o,e=>by
   unfold zc at e
   cases q:h.get? b with
   | none=>rw [q] at e;exact Aq h r a o e
   | some x=>
     rw [q] at e
     replace e:List.lookup a ((b,x) :: zc h r)=some o:=e
     rw [V2] at e
     cases z:a == b with
     | true=>
       rw [z] at e
       obtain rfl:a=b:=eq_of_beq z
       cases e;exact q
     | false=>rw [z] at e;exact Aq h r a o e
theorem sO {h:Heap} {a:Addr} {o:Obj} (e:h.get? a=some o):∀ {as:List Addr},a∈as→(zc h as).lookup a=some o
 | b :: r,m=>by
   unfold zc
   by_cases z:a=b
   ·subst z
    rw [e]
    show List.lookup a ((a,o) :: zc h r)=some o
    rw [V2,beq_self_eq_true]
   ·have m':a∈r:=by
     rcases Vl.mp m with y | y
     ·exact absurd y z
     ·exact y
    cases q:h.get? b with
    | none=>exact sO e m'
    | some x=>
      show List.lookup a ((b,x) :: zc h r)=some o
      rw [V2,beq_eq_false_iff_ne.mpr z]
      exact sO e m'
theorem Hi {K:Frag} {o:Obj} (e:K.lookup mainGlobals=some o) (n:Str):nsIn K mainGlobals n=nsIn [(mainGlobals,o)] mainGlobals n:=by
 unfold nsIn
 rw [e]
 rfl
def adr (h:Heap) (n:Str):List Addr:=match fnAt h n with
 | some (f,fd)=>f :: (match fd.code with | .ref c=>[c] | _=>[])
 | none=>[]
def Qg (h:Heap) (fs:List (Str ×Stmt)):List Addr:=mainGlobals :: fs.flatMap fun p=>adr h p.1
def Rg (K:Frag) (p:Str ×Stmt):Prop:= ∃ f fd,nsIn K mainGlobals p.1=some (some (.ref f))∧jN K p.1 p.1 p.2 f fd
def GJ (K:Frag):List (Str ×Stmt)→Prop
 | []=>True
 | p :: r=>Rg K p∧GJ K r
def AllB (K:Frag):List Str→Prop
 | []=>True
 | b :: r=>nsIn K mainGlobals b=some none∧AllB K r
def YP (fs:List (Str ×Stmt)) (bs:List Str) (h:Heap):Prop:= ∃ K:Frag,K.In h∧GJ K fs∧AllB K bs
theorem keeps {fs:List (Str ×Stmt)} {bs:List Str} {h h':Heap} (y:YP fs bs h) (k:∀ b o,h.get? b=some o→h'.get? b=some o):YP fs bs h':=
 let ⟨K,i,a,b⟩:=y
 ⟨K,i.keeps k,a,b⟩
theorem E2 {h:Heap} {as:List Addr} {n:Str} {r:Option Value} (m:mainGlobals∈as) (e:Kz h n=some r):nsIn (zc h as) mainGlobals n=some r:=by
 unfold Kz at e
 cases q:h.get? mainGlobals with
 | none=>rw [q] at e;cases e
 | some o=>rw [q] at e;rw [Hi (sO q m)];exact e
theorem Hj {h:Heap} {n:Str} {f:Addr} {fd:FuncData} (e:fnAt h n=some (f,fd)):Kz h n=some (some (.ref f))∧∃ oc od sl,h.get? f=some ⟨oc,od,.func fd,sl⟩:=by
 unfold fnAt at e
 split at e
 ·rename_i g hg
  split at e
  ·rename_i oc od fd' sl hq
   cases e
   exact ⟨hg,oc,od,sl,hq⟩
  ·cases e
 ·cases e
theorem yI {h:Heap} {v:Value} {q:Str} {as:List Addr} (e:jP h v=some q) (m:∀ c,v= .ref c→c∈as):codeIn (zc h as) v q=true:=by
 unfold jP at e
 split at e
 ·rename_i c
  split at e
  ·rename_i oc od vs sl hc
   split at e
   ·rename_i a q' tk r hv
    cases e
    unfold codeIn
    dsimp only
    rw [sO hc (m c rfl)]
    dsimp only
    rw [hv]
    dsimp only
    exact beq_self_eq_true _
   ·cases e
  ·cases e
 ·cases e
theorem Kn {h:Heap} {p:Str ×Stmt} {as:List Addr} (m0:mainGlobals∈as) (m:∀ a∈adr h p.1,a∈as)
 (e:(fnAt h p.1).map (fun x=>(blank x.2,jP h x.2.code))=some (fnOf p.1 p.1 (kZ p.2) (gj p.2) (aq p.2) .none .none .none .none none .none .none,some p.1)):Rg (zc h as) p:=by
 obtain ⟨⟨f,fd⟩,hf,hq⟩:=WW.mp e
 obtain ⟨h1,oc,od,sl,h2⟩:=Hj hf
 obtain ⟨e1,e2⟩:=Prod.mk.inj hq
 have hadr:adr h p.1=f :: (match fd.code with | .ref c=>[c] | _=>[]):=by unfold adr;rw [hf]
 have Qh:f∈as:=m f (by rw [hadr];exact .head _)
 have lk:=sO h2 Qh
 have hc:codeIn (zc h as) fd.code p.1=true:=yI e2 fun c hc=>m c (by rw [hadr,hc];exact .tail _ (.head _))
 have hfd:fd=fnOf p.1 p.1 (kZ p.2) (gj p.2) (aq p.2) .none fd.kwdefaults fd.doc fd.pyModule fd.annotations fd.code fd.closureTuple:=by
  cases fd
  unfold blank at e1
  simp only [FuncData.mk.injEq] at e1
  obtain ⟨a1,a2,a3,a4,a5,a6,a7,a8,a9⟩:=e1
  simp only [FuncData.mk.injEq]
  exact ⟨a1,a2,a3,a4,a5,a6,a7,a8,trivial,trivial,trivial,trivial,trivial,trivial,by simpa using a9⟩
 refine ⟨f,fd,E2 m0 h1,⟨oc,od,fd.kwdefaults,fd.doc,fd.pyModule,fd.annotations,fd.code,fd.closureTuple,sl,hfd,lk,hc⟩,?_⟩
 unfold keepIn
 dsimp only
 rw [lk]
theorem Bx {h:Heap} {as:List Addr} (m0:mainGlobals∈as):∀ {fs:List (Str ×Stmt)},(∀ a∈fs.flatMap (fun p=>adr h p.1),a∈as)→
 fs.map (fun p=>(fnAt h p.1).map fun x=>(blank x.2,jP h x.2.code))=fs.map (fun p=>some (fnOf p.1 p.1 (kZ p.2) (gj p.2) (aq p.2) .none .none .none .none none .none .none,some p.1))→GJ (zc h as) fs
 | [],_,_=>trivial
 | p :: r,m,e=>by
   rw [VP,VP] at e
   obtain ⟨e1,e2⟩:=List.cons.inj e
   rw [Wl] at m
   exact ⟨Kn m0 (fun a ha=>m a (Vv.mpr (.inl ha))) e1,Bx m0 (fun a ha=>m a (Vv.mpr (.inr ha))) e2⟩
theorem allB_of {h:Heap} {as:List Addr} (m0:mainGlobals∈as):∀ {bs:List Str},bs.map (fun b=>Kz h b)=bs.map (fun _=>some none)→AllB (zc h as) bs
 | [],_=>trivial
 | b :: r,e=>by
   rw [VP,VP] at e
   obtain ⟨e1,e2⟩:=List.cons.inj e
   exact ⟨E2 m0 e1,allB_of m0 e2⟩
theorem Ko {fs:List (Str ×Stmt)} {bs:List Str} {s:Shared} (e:Fl fs bs s=good fs bs):YP fs bs s.heap:=
 let ⟨e1,e2⟩:=Prod.mk.inj (by rw [good,Nb,Nc,Nd] at e;exact e)
 ⟨zc s.heap (Qg s.heap fs),Aq _ _,Bx (.head _) (fun _ ha=> .tail _ ha) e1,allB_of (.head _) e2⟩
theorem E3 {l:OpenLaw} {n k:Nat} {q:Program} {loose:List Str} {XP:(Str→Option Value)→Heap→Prop} {YP:World→Heap→Prop} {d:DefRec} {CX:Dc} {sp:Frag→Sp} {x:Str}
 (hn:l.most=some n) (hn2:n≤sizeLine) (hdf:d.params.defaults= []) (hr:iJ k callerA)
 (F:∀ (w:World) (mg:Str→Option Value) (fa:Addr) (h:Heap),YP w h→h.Ns mainGlobals mg→mg d.name=some (.ref fa)→
  ∃ (K:Frag) (fd:FuncData),K.In h∧(∀ (s:Shared) (u:Value),BindsTo s fd ⟨[u],[]⟩ [(x,u)])∧
    ∀ base:Heap,K.In base→base.Ns mainGlobals mg→bD l.prog w K mg base CX k fa fd [x] (sp K))
 (HE:∀ (K:Frag) (H:Hp) (a:Addr) (ns:List Int),ns.length≤n→(∀ z∈ns,Att.Pu z)→FW H→iI K H a (ns.map V.int)→sp K [.ref a] H (fun v _=>v= .bl true) fun _ _ _=>False)
 (OH:∀ (H:Hp) (s:Shared) (e:Value) (s':Shared),CX [] H s (fun _ _ _=>False) e s'→False) :
 WalkO q loose XP YP l.row.toRowW d [] (fun f vs=>PySem.call f vs):=by
 refine Att.vR hn hdf fun w s₀ s₁ mg mb fa o pm cd doc a vs ns G Y ho hd hcd hmg hobj hints hlen hbig hg=>?_
 obtain ⟨K,fd,KX,hb,hF⟩:=F w mg fa _ Y G.T.g hmg
 exact Dh (CX:=CX) (sp:=sp K) KX G.T.g G.T.b G.T.builtins G.T.nolimit hg hobj hints (Wx hlen hn2) hr hF hb (fun H hO hS=>HE K H a ns hlen hbig hO hS) fun H e s'=>OH H s₁ e s'
end HD
namespace Pf
open PySem L2 L3
set_option genInjectivity false in
set_option genSizeOf false in
structure Ad where
 jv:Addr
 iO:FuncData
 kI:Addr
 jw:FuncData
 iP:Addr
 gP:FuncData
 sP:Addr
 pK:FuncData
 wK:Addr
 sQ:FuncData
 kJ:Addr
 jx:FuncData
 Ar:Addr
 wM:FuncData
 wN:Addr
 sR:FuncData
 As:Addr
 wO:FuncData
 Au:Addr
 wQ:FuncData
 sS:Addr
 pL:FuncData
 kK:Addr
 jy:FuncData
 bL:Addr
 bC:FuncData
 gQ:Addr
 fZ:FuncData
 pM:Addr
 mS:FuncData
 gb:Addr
 fE:FuncData
 gR:Addr
 gc:FuncData
 jz:Addr
 iQ:FuncData
 iR:Addr
 gS:FuncData
 dQ:Addr
 c7:FuncData
 eO:Addr
 cZ:FuncData
 fF:Addr
 eS:FuncData
 jA:Addr
 iS:FuncData
 iT:Addr
 gT:FuncData
 iU:Addr
 gU:FuncData
 iV:Addr
 gW:FuncData
 kL:Addr
 jB:FuncData
 kM:Addr
 jC:FuncData
 E4:Addr
 Av:FuncData
structure Txt (K:PySem.W.Frag) (mg:Str→Option Value) (t:Ad):Prop where
 cA:jN K "_law_given" "_law_given" jh t.jv t.iO
 eU:mg "_law_given" =some (.ref t.jv)
 kN:jN K "_law_spot" "_law_spot" jQ t.kI t.jw
 yJ:mg "_law_spot" =some (.ref t.kI)
 iW:jN K "_law_ground" "_law_ground" iE t.iP t.gP
 ua:mg "_law_ground" =some (.ref t.iP)
 nY:jN K "parted" "parted" qO t.sP t.pK
 yK:mg "parted" =some (.ref t.sP)
 jD:jN K "twice" "twice" vA t.wK t.sQ
 nZ:mg "twice" =some (.ref t.wK)
 kO:jN K "ring_area" "ring_area" jR t.kJ t.jx
 yL:mg "ring_area" =some (.ref t.kJ)
 sU:jN K "sign" "sign" zf t.Ar t.wM
 Aw:mg "sign" =some (.ref t.Ar)
 n8:jN K "apart" "apart" vB t.wN t.sR
 wR:mg "apart" =some (.ref t.wN)
 Ax:jN K "ring" "ring" zg t.As t.wO
 Kp:mg "ring" =some (.ref t.As)
 mT:jN K "turn" "turn" zh t.Au t.wQ
 sV:mg "turn" =some (.ref t.Au)
 n9:jN K "spoils" "spoils" qP t.sS t.pL
 yM:mg "spoils" =some (.ref t.sS)
 iz:jN K "is_spoilt" "is_spoilt" jS t.kK t.jy
 qb:mg "is_spoilt" =some (.ref t.kK)
 eV:jN K "by_halving" "by_halving" eE t.bL t.bC
 jE:mg "by_halving" =some (.ref t.bL)
 eW:jN K "without_bays" "without_bays" gC t.gQ t.fZ
 kP:mg "without_bays" =some (.ref t.gQ)
 pO:jN K "outline" "outline" oO t.pM t.mS
 CI:mg "outline" =some (.ref t.pM)
 gf:jN K "outline_sides" "outline_sides" fY t.gb t.fE
 qo:mg "outline_sides" =some (.ref t.gb)
 gX:jN K "first_across" "first_across" gD t.gR t.gc
 sW:mg "first_across" =some (.ref t.gR)
 gw:jN K "net_corner" "net_corner" ji t.jz t.iQ
 oh:mg "net_corner" =some (.ref t.jz)
 fL:jN K "triangle_of" "triangle_of" iF t.iR t.gS
 lW:mg "triangle_of" =some (.ref t.iR)
 dR:jN K "triangles_across" "triangles_across" dM t.dQ t.c7
 mU:mg "triangles_across" =some (.ref t.dQ)
 oi:jN K "halves" "halves" qQ t.eO t.cZ
 yN:mg "halves" =some (.ref t.eO)
 c6:jN K "_law_triangles" "_law_triangles" fk t.fF t.eS
 jf:mg "_law_triangles" =some (.ref t.fF)
 cB:jN K "_law_twice" "_law_twice" jj t.jA t.iS
 eX:mg "_law_twice" =some (.ref t.jA)
 iX:jN K "_law_within" "_law_within" iG t.iT t.gT
 uc:mg "_law_within" =some (.ref t.iT)
 fM:jN K "_law_spoils" "_law_spoils" iH t.iU t.gU
 lX:mg "_law_spoils" =some (.ref t.iU)
 di:jN K "_law_is_net" "_law_is_net" cJ t.iV t.gW
 iY:mg "_law_is_net" =some (.ref t.iV)
 iA:jN K "_law_gone" "_law_gone" ie t.kL t.jB
 qc:mg "_law_gone" =some (.ref t.kL)
 iB:jN K "_law_both" "_law_both" ig t.kM t.jC
 qd:mg "_law_both" =some (.ref t.kM)
 Io:jN K "law" "law" AE t.E4 t.Av
 Rh:mg "law" =some (.ref t.E4)
 gg:mg "len" =none
 E5:mg "range" =none
 eg:mg "sorted" =none
 qL:mg "list" =none
 yP:mg "reversed" =none
 Kq:mg "zip" =none
 cL:mg "isinstance" =none
 sX:mg "tuple" =none
 By:mg "bool" =none
 Kr:mg "min" =none
theorem lY:aN ["_law_script","_law_k","_law_more"] ["_law_script","_law_k"] (aq jh):=⟨rfl,rfl,rfl,by decide +kernel,rfl,by decide +kernel,by decide +kernel⟩
theorem eY:aN ["_law_head","_law_one","_law_two","_law_kind","_law_right","_law_high","_law_size"] ["_law_head","_law_one","_law_two"] (aq jQ):=⟨rfl,rfl,rfl,by decide +kernel,rfl,by decide +kernel,by decide +kernel⟩
theorem cu:aN ["_law_script","_law_head","_law_many","_law_found","_law_k","_law_spot_here"] ["_law_script"] (aq iE):=⟨rfl,rfl,rfl,by decide +kernel,rfl,by decide +kernel,by decide +kernel⟩
theorem pP:aN ["places","line","half"] ["places"] (aq qO):=⟨rfl,rfl,rfl,by decide +kernel,rfl,by decide +kernel,by decide +kernel⟩
theorem E6:aN ["a","b","c"] ["a","b","c"] (aq vA):=⟨rfl,rfl,rfl,by decide +kernel,rfl,by decide +kernel,by decide +kernel⟩
theorem oj:aN ["a","b","c","area"] ["a","b","c"] (aq jR):=⟨rfl,rfl,rfl,by decide +kernel,rfl,by decide +kernel,by decide +kernel⟩
theorem Hl:aN ["number"] ["number"] (aq zf):=⟨rfl,rfl,rfl,by decide +kernel,rfl,by decide +kernel,by decide +kernel⟩
theorem sY:aN ["p","q","right","up"] ["p","q"] (aq vB):=⟨rfl,rfl,rfl,by decide +kernel,rfl,by decide +kernel,by decide +kernel⟩
theorem wU:aN ["a","b","c","d","area","depth"] ["a","b","c","d"] (aq zg):=⟨rfl,rfl,rfl,by decide +kernel,rfl,by decide +kernel,by decide +kernel⟩
theorem Ho:aN ["a","b","c"] ["a","b","c"] (aq zh):=⟨rfl,rfl,rfl,by decide +kernel,rfl,by decide +kernel,by decide +kernel⟩
theorem pQ:aN ["a","b","c","d","lies","three"] ["a","b","c","d"] (aq qP):=⟨rfl,rfl,rfl,by decide +kernel,rfl,by decide +kernel,by decide +kernel⟩
theorem om:aN ["places","t","d"] ["places","t"] (aq jS):=⟨rfl,rfl,rfl,by decide +kernel,rfl,by decide +kernel,by decide +kernel⟩
theorem dD:aN ["places","parts","nets","first","second"] ["places"] (aq eE):=⟨rfl,rfl,rfl,by decide +kernel,rfl,by decide +kernel,by decide +kernel⟩
theorem gi:aN ["line","chain","p"] ["line"] (aq gC):=⟨rfl,rfl,rfl,by decide +kernel,rfl,by decide +kernel,by decide +kernel⟩
theorem jF:aN ["places","line","there","home"] ["places"] (aq oO):=⟨rfl,rfl,rfl,by decide +kernel,rfl,by decide +kernel,by decide +kernel⟩
theorem jg:aN ["places","border"] ["places"] (aq fY):=⟨rfl,rfl,rfl,by decide +kernel,rfl,by decide +kernel,by decide +kernel⟩
theorem jI:aN ["first","second","way"] ["first","second"] (aq gD):=⟨rfl,rfl,rfl,by decide +kernel,rfl,by decide +kernel,by decide +kernel⟩
theorem fO:aN ["places","way","corner","d"] ["places","way"] (aq ji):=⟨rfl,rfl,rfl,by decide +kernel,rfl,by decide +kernel,by decide +kernel⟩
theorem kQ:aN ["a","b","c","three"] ["a","b","c"] (aq iF):=⟨rfl,rfl,rfl,by decide +kernel,rfl,by decide +kernel,by decide +kernel⟩
theorem bu:aN ["first","second","way","across","corner"] ["first","second"] (aq dM):=⟨rfl,rfl,rfl,by decide +kernel,rfl,by decide +kernel,by decide +kernel⟩
theorem vo:aN ["places","parts"] ["places"] (aq qQ):=⟨rfl,rfl,rfl,by decide +kernel,rfl,by decide +kernel,by decide +kernel⟩
theorem eZ:aN ["_law_found","_law_places","_law_t","_law_corner"] ["_law_found","_law_places"] (aq fk):=⟨rfl,rfl,rfl,by decide +kernel,rfl,by decide +kernel,by decide +kernel⟩
theorem ud:aN ["_law_a","_law_b","_law_c"] ["_law_a","_law_b","_law_c"] (aq jj):=⟨rfl,rfl,rfl,by decide +kernel,rfl,by decide +kernel,by decide +kernel⟩
theorem bG:aN ["_law_a","_law_b","_law_c","_law_d","_law_found","_law_one","_law_two","_law_far","_law_right","_law_high"] ["_law_a","_law_b","_law_c","_law_d"] (aq iG):=⟨rfl,rfl,rfl,by decide +kernel,rfl,by decide +kernel,by decide +kernel⟩
theorem cU:aN ["_law_triangle","_law_d","_law_a","_law_b","_law_c","_law_depth"] ["_law_triangle","_law_d"] (aq iH):=⟨rfl,rfl,rfl,by decide +kernel,rfl,by decide +kernel,by decide +kernel⟩
theorem bH:aN ["_law_places","_law_found","_law_sides","_law_a","_law_b","_law_c","_law_side"] ["_law_places","_law_found"] (aq cJ):=⟨rfl,rfl,rfl,by decide +kernel,rfl,by decide +kernel,by decide +kernel⟩
theorem oz:aN ["_law_half","_law_far","_law_net","_law_triangle"] ["_law_half","_law_far","_law_net"] (aq ie):=⟨rfl,rfl,rfl,by decide +kernel,rfl,by decide +kernel,by decide +kernel⟩
theorem wV:aN ["_law_triangle","_law_first"] ["_law_triangle","_law_first"] (aq ig):=⟨rfl,rfl,rfl,by decide +kernel,rfl,by decide +kernel,by decide +kernel⟩
theorem fG:aN ["_law_script","_law_places","_law_handed","_law_found","_law_net","_law_row","_law_first","_law_second","_law_one","_law_other","_law_across","_law_triangle","_law_kept"] ["_law_script"] (aq AE):=⟨rfl,rfl,rfl,by decide +kernel,rfl,by decide +kernel,by decide +kernel⟩
section
variable {P:Program} {w:World} {K:PySem.W.Frag} {mg:Str→Option Value} {base:Heap} {t:Ad}
theorem dF (T:Txt K mg t):Binds K t.iO ["_law_script","_law_k"] []:=T.cA.binds fun _ _ _ _ _ _ us hl=>match us,hl with | [_,_],_=>rfl
def wW:xu:=fun ds Q=> ∃ (ns:List Int) (k:Int),ds= [.zx (ns.map L3.D.int),.int k]∧ns.length≤63∧0≤k∧k≤1000∧∀ z:Int,Q (.int z)
theorem dG (T:Txt K mg t):bD P w K mg base ff 1 t.jv t.iO ["_law_script","_law_k"] (vL K wW):=by
 refine A0 T.cA lY (fun ds Q h=>by (first | (obtain ⟨_,rfl,_⟩:=h;rfl) | (obtain ⟨_,_,rfl,_⟩:=h;rfl) | (obtain ⟨_,_,_,rfl,_⟩:=h;rfl) | (obtain ⟨_,_,_,_,rfl,_⟩:=h;rfl) | (obtain ⟨_,_,_,_,_,rfl,_⟩:=h;rfl) | (obtain ⟨_,_,_,_,_,_,rfl,_⟩:=h;rfl) | (obtain ⟨_,_,_,_,_,_,_,rfl,_⟩:=h;rfl))) (fun cdv A outer s H hr=>?_)
 have hu:=hr.units
 refine ⟨_,(ao (cH (aW (lP hu) (aa 1) (cj jG (by rfl) T.gg bV (af (aa 0) ak)) (aK _)) (aB (aG (aT (aa 0) (aa 1)))) bx)
  (ao (aX (i:=2) lY.nd rfl (Or.inl rfl) (au zJ (au zJ (au fS (aa 1) ai) (au fS (aa 1) ai)) ai))
  (aB (aG (LA (aW (DQ hu) (aa 0) (dc ak) (aK _)) (aa 2) (au fS (aa 2) (au zJ (aT (aa 0) (au dW (aa 1) (cj jG (by rfl) T.gg bV (af (aa 0) ak)))) (au fS (aa 1) ai)))))))),fun ds Q h=>?_⟩
 obtain ⟨ns,k,rfl,hlen,hk,hk2,h⟩:=h
 have sk:Sm 11 k:=by
  show k.natAbs < 2 ^ 11
  omega
 walk_at "rd"
 refine ⟨_,_,rfl,.inr (.inl rfl),?_⟩
 walk_at "rd"
 refine fR (fun c=>?_) (fun c=>?_)
 ·have c:k < ((ns.map L3.D.int).length:Int):=of_decide_eq_true c
  rw [Vk] at c
  obtain ⟨z,_,hz⟩:=oZ hk c
  walk_at "rd"
  exact ⟨_,k,.int z,.inr (.inl rfl),rfl,hz,h z⟩
 ·walk_at "rd"
  intro p hp
  refine ⟨_,_,.inl rfl,.of ah,zL ns,rfl,?_⟩
  walk_at "rd"
  refine fR (fun c=>?_) (fun c=>?_)
  ·walk_at "rd"
   exact h _
  ·have hne:ns≠[]:=fun z=>c (by rw [z];rfl)
   have hpos:0 < ns.length:=Yl.mpr hne
   walk_at "rd"
   refine ⟨_,_,rfl,.inr (.inl rfl),?_⟩
   walk_at "rd"
   refine ⟨by rw [Vk];omega,?_⟩
   rw [Vk]
   obtain ⟨z,_,hz⟩:=oZ (ns:=ns) (k:=k % (ns.length:Int)) (WM _ (by omega)) (WC _ (by omega))
   refine ⟨_,_,.int z,.inr (.inl rfl),rfl,hz,?_⟩
   walk_at "rd"
   refine ⟨Or.inr (Or.inr (show -(2 ^ 64) < k+5∧k+5 < 2 ^ 64 from ⟨by omega,by omega⟩)),?_⟩
   walk_at "rd"
   exact h _
theorem wX (T:Txt K mg t):Binds K t.jw ["_law_head","_law_one","_law_two"] []:=T.kN.binds fun _ _ _ _ _ _ us hl=>match us,hl with | [_,_,_],_=>rfl
def yQ:xu:=fun ds Q=> ∃ h o t:Int,ds= [.int h,.int o,.int t]∧∀ p:Pl,p.Ok 140→Q p.d
theorem wY (T:Txt K mg t):bD P w K mg base ff 1 t.kI t.jw ["_law_head","_law_one","_law_two"] (vL K yQ):=by
 refine A0 T.kN eY (fun ds Q h=>by (first | (obtain ⟨_,rfl,_⟩:=h;rfl) | (obtain ⟨_,_,rfl,_⟩:=h;rfl) | (obtain ⟨_,_,_,rfl,_⟩:=h;rfl) | (obtain ⟨_,_,_,_,rfl,_⟩:=h;rfl) | (obtain ⟨_,_,_,_,_,rfl,_⟩:=h;rfl) | (obtain ⟨_,_,_,_,_,_,rfl,_⟩:=h;rfl) | (obtain ⟨_,_,_,_,_,_,_,rfl,_⟩:=h;rfl))) (fun cdv A outer s H hr=>?_)
 have hu:=hr.units
 refine ⟨_,(ao (aX (i:=3) eY.nd rfl (Or.inl rfl) (au dW (aa 0) ai))
  (ao (cH (aW (tS hu) (aa 3) ai (aK _)) (aB (aG (cQ (af (au dW (aa 1) ai) (af (au dW (aa 2) ai) ak))))) bx)
  (ao (cH (aW (tS hu) (aa 3) ai (aK _)) (aB (aG (cQ (af (au fS (au dW (aa 1) ai) (au uC ai ai)) (af (au eF (au dW (aa 2) ai) (au c9 ai (au uC ai ai))) ak))))) bx)
  (ao (cH (aW (tS hu) (aa 3) ai (aK _)) (ao (aX (i:=4) eY.nd rfl (Or.inl rfl) (aT (dc (af ai (af ai (af ai (af ai (af (fj ai) (af (fj ai) (af (fj ai) (af (fj ai) (af (fj ai) (af ai (af ai (af ai (af ai ak)))))))))))))) (au dW (aa 1) ai)))
  (ao (aX (i:=5) eY.nd rfl (Or.inl rfl) (aT (dc (af ai (af ai (af ai (af ai (af ai (af ai (af ai (af (fj ai) (af (fj ai) (af (fj ai) (af (fj ai) (af (fj ai) (af ai ak)))))))))))))) (au dW (aa 1) ai)))
  (ao (aX (i:=6) eY.nd rfl (Or.inl rfl) (au fS ai (au dW (au mC (aa 0) ai) ai)))
  (aB (aG (cQ (af (au eF (au c9 (aa 4) (aa 6)) (au dW (au mC (aa 0) ai) ai)) (af (au fS (au c9 (aa 5) (aa 6)) (au dW (au mC (aa 0) ai) ai)) ak)))))))) bx)
  (ao (cH (aW (tS hu) (aa 3) ai (aK _)) (aB (aG (cQ (af (au eF (au dW (aa 1) ai) ai) (af (au fS (au c9 ai (au dW (aa 1) ai)) (aT (dc (af ai (af ai (af ai (af ai (af (fj ai) ak)))))) (au dW (aa 2) ai))) ak))))) bx)
  (ao (cH (aW (tS hu) (aa 3) ai (aK _)) (aB (aG (cQ (af (au dW (aa 1) ai) (af (au dW (aa 2) ai) ak))))) bx)
  (aB (aG (cQ (af (au eF (au dW (aa 1) (au fS (au c9 ai (au uC ai ai)) ai)) (au uC ai ai)) (af (au eF (au dW (aa 2) (au fS (au c9 ai (au uC ai ai)) ai)) (au uC ai ai)) ak))))))))))),fun ds Q h=>?_⟩
 obtain ⟨h0,o,t,rfl,h⟩:=h
 walk_at "rd"
 refine fR (fun _=>?_) (fun _=>?_)
 ·walk_at "rd"
  exact h ⟨_,_⟩ ⟨by walk_at "smle",by walk_at "smle"⟩
 walk_at "rd"
 refine fR (fun _=>?_) (fun _=>?_)
 ·walk_at "rd"
  exact h ⟨_,_⟩ ⟨by walk_at "smle",by walk_at "smle"⟩
 walk_at "rd"
 refine fR (fun _=>?_) (fun _=>?_)
 ·walk_at "rd"
  intro p hp
  walk_at "rd"
  obtain ⟨z1,m1,e1⟩:=oZ (ns:=Mw) (k:=o % 13) (WM _ (by decide)) (WC _ (by decide))
  refine ⟨_,_,_,.inr (.inr ⟨p,rfl,ah⟩),rfl,e1,?_⟩
  walk_at "rd"
  intro q hq
  walk_at "rd"
  obtain ⟨z2,m2,e2⟩:=oZ (ns:=Mx) (k:=o % 13) (WM _ (by decide)) (WC _ (by decide))
  refine ⟨_,_,_,.inr (.inr ⟨q,rfl,ah⟩),rfl,e2,?_⟩
  have s1:Sm 3 z1:=zM (by decide) m1
  have s2:Sm 3 z2:=zM (by decide) m2
  walk_at "rd"
  exact h ⟨_,_⟩ ⟨by walk_at "smle",by walk_at "smle"⟩
 walk_at "rd"
 refine fR (fun _=>?_) (fun _=>?_)
 ·walk_at "rd"
  intro p hp
  walk_at "rd"
  obtain ⟨z1,m1,e1⟩:=oZ (ns:=[0,0,0,1, -1]) (k:=t % 5) (WM _ (by decide)) (WC _ (by decide))
  refine ⟨_,_,_,.inr (.inr ⟨p,rfl,ah⟩),rfl,e1,?_⟩
  have s1:Sm 3 z1:=zM (ns:=[0,0,0,1, -1]) (by decide) m1
  walk_at "rd"
  exact h ⟨_,_⟩ ⟨by walk_at "smle",by walk_at "smle"⟩
 walk_at "rd"
 refine fR (fun _=>?_) (fun _=>?_)
 ·walk_at "rd"
  exact h ⟨_,_⟩ ⟨by walk_at "smle",by walk_at "smle"⟩
 walk_at "rd"
 exact h ⟨_,_⟩ ⟨by walk_at "smle",by walk_at "smle"⟩
theorem sZ (T:Txt K mg t):Binds K t.gP ["_law_script"] []:=T.iW.binds fun _ _ _ _ _ _ us hl=>match us,hl with | [_],_=>rfl
def ue:uE:=fun ds M Q=> ∃ ns:List Int,ds= [.zx (ns.map L3.D.int)]∧ns.length≤63∧∀ (p:Addr) (ps:List Pl),M p=none→ps.Nodup→(∀ q∈ps,q.Ok 140)→ps.length≤16→Q (.ref p) (ay M p (.lst (ps.map Pl.d)))
theorem tu (T:Txt K mg t):bD P w K mg base ff 2 t.iP t.gP ["_law_script"] (mZ K ue):=by
 refine zE T.iW cu (fun ds M Q h=>by (first | (obtain ⟨_,rfl,_⟩:=h;rfl) | (obtain ⟨_,_,rfl,_⟩:=h;rfl) | (obtain ⟨_,_,_,rfl,_⟩:=h;rfl) | (obtain ⟨_,_,_,_,rfl,_⟩:=h;rfl) | (obtain ⟨_,_,_,_,_,rfl,_⟩:=h;rfl) | (obtain ⟨_,_,_,_,_,_,rfl,_⟩:=h;rfl) | (obtain ⟨_,_,_,_,_,_,_,rfl,_⟩:=h;rfl))) (fun cdv A outer s H hr=>?_)
 have hu:=hr.units
 refine ⟨_,(ao (aX (i:=1) cu.nd rfl (Or.inl rfl) (aJ (dG T) (hr.mono (by decide)) (by rfl) T.eU T.cA.kp (dF T) (af (aa 0) (af ai ak))))
  (ao (aX (i:=2) cu.nd rfl (Or.inl rfl) (au dW (au mC (aJ (dG T) (hr.mono (by decide)) (by rfl) T.eU T.cA.kp (dF T) (af (aa 0) (af ai ak))) ai) (aT (dc (af ai (af ai (af ai (af ai (af ai (af ai (af ai (af ai ak))))))))) (au dW (aJ (dG T) (hr.mono (by decide)) (by rfl) T.eU T.cA.kp (dF T) (af (aa 0) (af ai ak))) ai))))
  (ao (aX (i:=3) cu.nd rfl (Or.inl rfl) (dc ak))
  (ao (Jy PassesOwn.never rfl (by rfl) T.E5 (af (aa 2) ak) (bF (i:=4) cu.nd rfl (Or.inl rfl)) (ao (aX (i:=5) cu.nd rfl (Or.inl rfl) (aJ (wY T) (hr.mono (by decide)) (by rfl) T.yJ T.kN.kp (wX T) (af (aa 1) (af (aJ (dG T) (hr.mono (by decide)) (by rfl) T.eU T.cA.kp (dF T) (af (aa 0) (af (au fS ai (au c9 ai (aa 4))) ak))) (af (aJ (dG T) (hr.mono (by decide)) (by rfl) T.eU T.cA.kp (dF T) (af (aa 0) (af (au fS ai (au c9 ai (aa 4))) ak))) ak)))))
  (aB (cH (aW (nh hu) (aa 5) (aa 3) (by with_unfolding_all rfl)) (aB (mD (uF (aa 3) (aa 5) (uz PySem.F.plainAttrs_list PySem.F.slot_list_append PySem.F.type_list_append fm (cg.dn (aa 3)) (jl (cg.dn (aa 5)) l8))))) bx))))
  (aB (aG (aa 3))))))),fun ds M Q h=>?_⟩
 obtain ⟨ns,rfl,hlen,h⟩:=h
 walk_at "rd"
 refine ⟨hlen,by decide,by decide,fun hd=>?_⟩
 walk_at "rd"
 refine ⟨hlen,by decide,by decide,fun nm=>?_⟩
 walk_at "rd"
 intro u hu
 walk_at "rd"
 refine ⟨hlen,by decide,by decide,fun S8=>?_⟩
 walk_at "rd"
 obtain ⟨z,mz,ez⟩:=oZ (ns:=[9,7,8,6,9,17,7,8]) (k:=S8 % 8) (WM _ (by decide)) (WC _ (by decide))
 have S9:0 < z∧z≤17:=(show ∀ z∈[9,7,8,6,9,17,7,(8:Int)],0 < z∧z≤17 by decide) z mz
 refine ⟨_,_,_,.inr (.inr ⟨u,rfl,ah⟩),rfl,ez,?_⟩
 have zp:=S9.1
 walk_at "rd"
 intro p hp
 have le:=Le.new (o:=MO.lst ([9,7,8,6,9,17,7,8].map L3.D.int)) hu
 have m0:0≤nm / 8 % z:=WM _ (by omega)
 have m1:nm / 8 % z < z:=WC _ (by omega)
 dsimp only
 generalize nm / 8 % z=many at *
 replace le:Le M (ay M u (.lst [.int 9,.int 7,.int 8,.int 6,.int 9,.int 17,.int 7,.int 8])):=le
 generalize ay M u (.lst [.int 9,.int 7,.int 8,.int 6,.int 9,.int 17,.int 7,.int 8])=M1 at *
 walk_at "rd"
 refine ⟨by omega,by omega,?_⟩
 refine bP (fun i ρ M'=> ∃ (ps:List Pl) (y1 y2:Option L3.D),ρ= [some (.zx (ns.map L3.D.int)),some (.int hd),some (.int many),some (.ref p),y1,y2]∧ps.length≤i∧ps.Nodup∧(∀ q∈ps,q.Ok 140)∧M'=ay M1 p (.lst (ps.map Pl.d))) _ ?_ ?_ ⟨[],_,_,rfl,Vr _,XD,(fun q hq=>by cases hq),rfl⟩
 ·rintro i x ρ M' N hx ⟨ps,y1,y2,rfl,hl,nd,ho,rfl⟩ hN
  obtain ⟨hi,rfl⟩:=BX hx
  have hi:i < 17:=by omega
  have si:Sm 10 ((i:Nat):Int):=by
   show i < 2 ^ 10
   omega
  refine ⟨trivial,?_⟩
  walk_at "rd"
  refine ⟨hlen,by dsimp only;omega,by dsimp only;omega,fun z1=>?_⟩
  walk_at "rd"
  refine ⟨hlen,by dsimp only;omega,by dsimp only;omega,fun z2=>?_⟩
  refine ⟨_,_,_,rfl,fun q hq=>?_⟩
  walk_at "rd"
  refine ⟨_,.inr ⟨p,rfl,ah⟩,rfl,bB ps,?_⟩
  walk_at "rd"
  rw [if_pos rfl,gn]
  refine fR (fun k=>?_) (fun k=>?_)
  ·have k:q∉ps:=fun z=>by rw [decide_eq_true z] at k;cases k
   walk_at "rd"
   refine ⟨⟨p,_,rfl,ah⟩,?_⟩
   walk_at "rd"
   refine ⟨p,_,rfl,ah,?_,?_⟩
   ·rw [Vk]
    have:(1000:Nat) < sizeLine:=by decide
    omega
   ·rw [m7]
    refine hN _ _ ⟨ps ++ [q],_,_,rfl,by simp;omega,?_,?_,by simp⟩
    ·rw [VU]
     exact ⟨nd,by simp,fun a ha b hb e=>by rw [Vm.mp hb] at e;subst e;exact k ha⟩
    ·intro z hz
     rcases Vv.mp hz with hz | hz
     ·exact ho z hz
     ·rw [Vm.mp hz];exact hq
  ·exact hN _ _ ⟨ps,_,_,rfl,by omega,nd,ho,rfl⟩
 ·rintro ρ M' ⟨ps,y1,y2,rfl,hl,nd,ho,rfl⟩
  refine ⟨trivial,?_⟩
  walk_at "rd"
  refine bO.mk ⟨_,?_,h p ps (le.free hp) nd ho ?_⟩
  ·intro c o e
   by_cases z:c=p
   ·subst z
    rw [ah] at e ⊢
    exact e
   ·rw [aE z] at e ⊢
    exact le _ _ e
  ·simp at hl
   omega
theorem vp (T:Txt K mg t):Binds K t.pK ["places"] []:=T.nY.binds fun _ _ _ _ _ _ us hl=>match us,hl with | [_],_=>rfl
def E7:uE:=fun ds M Q=> ∃ (l:Addr) (ps:List Pl),ds= [.ref l]∧M l=some (.lst (ps.map Pl.d))∧ps.length < 64∧∀ (a b:Addr) (qs:List Pl) (M':Mp),Le M M'→qs.Perm ps→qs.Pairwise (fun p q=> ¬ aI q p)→M' a=some (.lst ((qs.take (ps.length / 2)).map Pl.d))→M' b=some (.lst ((qs.drop (ps.length / 2)).map Pl.d))→Q (.tup [.ref a,.ref b]) M'
theorem vq (T:Txt K mg t):bD P w K mg base ff 1 t.sP t.pK ["places"] (mZ K E7):=by
 refine zE T.nY pP (fun ds M Q h=>by (first | (obtain ⟨_,rfl,_⟩:=h;rfl) | (obtain ⟨_,_,rfl,_⟩:=h;rfl) | (obtain ⟨_,_,_,rfl,_⟩:=h;rfl) | (obtain ⟨_,_,_,_,rfl,_⟩:=h;rfl) | (obtain ⟨_,_,_,_,_,rfl,_⟩:=h;rfl) | (obtain ⟨_,_,_,_,_,_,rfl,_⟩:=h;rfl) | (obtain ⟨_,_,_,_,_,_,_,rfl,_⟩:=h;rfl))) (fun cdv A outer s H hr=>?_)
 have hu:=hr.units
 refine ⟨_,(ao (aX (i:=1) pP.nd rfl (Or.inl rfl) (cj j8 (by rfl) T.eg bX (af (aa 0) ak)))
  (ao (aX (i:=2) pP.nd rfl (Or.inl rfl) (au mC (cj jG (by rfl) T.gg bV (af (aa 1) ak)) ai))
  (aB (aG (cQ (af (fT (aa 1) x6 (j9 (aa 2))) (af (fT (aa 1) (j9 (aa 2)) x6) ak))))))),fun ds M Q h=>?_⟩
 obtain ⟨l,ps,rfl,hM,lp,h⟩:=h
 walk_at "rd"
 refine ⟨l,ps,rfl,hM,lp,fun c qs hc aS hso=>?_⟩
 have hC:ay M c (.lst (qs.map Pl.d)) c=some (.lst (qs.map Pl.d)):=ah
 have le:=Le.new (o:=MO.lst (qs.map Pl.d)) hc
 generalize ay M c (.lst (qs.map Pl.d))=M1 at hC le ⊢
 walk_at "rd"
 refine ⟨_,_,rfl,.inr (.inr ⟨c,rfl,hC⟩),?_⟩
 walk_at "rd"
 have e2:((qs.map Pl.d).length:Int) / 2=((ps.length / 2:Nat):Int):=by rw [Vk,aS.length_eq];omega
 dsimp only
 rw [e2]
 refine ⟨_,.of hC,fun a ha=>?_⟩
 rw [rR Pl.d qs _ (by rw [aS.length_eq];omega)]
 have hA:ay M1 a (.lst ((qs.take (ps.length / 2)).map Pl.d)) a=some (.lst ((qs.take (ps.length / 2)).map Pl.d)):=ah
 have hC:=av (u:=MO.lst ((qs.take (ps.length / 2)).map Pl.d)) hC ha
 have le:=le.trans (Le.new (o:=MO.lst ((qs.take (ps.length / 2)).map Pl.d)) ha)
 generalize ay M1 a (.lst ((qs.take (ps.length / 2)).map Pl.d))=M2 at hA hC le ⊢
 walk_at "rd"
 refine ⟨_,.of hC,fun b hb=>?_⟩
 rw [rJ Pl.d qs _ (by rw [aS.length_eq];omega)]
 walk_at "rd"
 exact bO.mk ⟨_,Le.refl _,h a b qs _ (le.trans (Le.new hb)) aS hso (av hA hb) ah⟩
theorem kR (T:Txt K mg t):Binds K t.sQ ["a","b","c"] []:=T.jD.binds fun _ _ _ _ _ _ us hl=>match us,hl with | [_,_,_],_=>rfl
def Hq:xu:=fun ds Q=> ∃ a b c:Pl,ds= [a.d,b.d,c.d]∧a.Ok 140∧b.Ok 140∧c.Ok 140∧Q (.int (tw a b c))
theorem kT (T:Txt K mg t):bD P w K mg base ff 1 t.wK t.sQ ["a","b","c"] (vL K Hq):=by
 refine A0 T.jD E6 (fun ds Q h=>by (first | (obtain ⟨_,rfl,_⟩:=h;rfl) | (obtain ⟨_,_,rfl,_⟩:=h;rfl) | (obtain ⟨_,_,_,rfl,_⟩:=h;rfl) | (obtain ⟨_,_,_,_,rfl,_⟩:=h;rfl) | (obtain ⟨_,_,_,_,_,rfl,_⟩:=h;rfl) | (obtain ⟨_,_,_,_,_,_,rfl,_⟩:=h;rfl) | (obtain ⟨_,_,_,_,_,_,_,rfl,_⟩:=h;rfl))) (fun cdv A outer s H hr=>?_)
 have hu:=hr.units
 refine ⟨_,(aB (aG (au eF (au c9 (au eF (aT (aa 1) ai) (aT (aa 0) ai)) (au eF (aT (aa 2) ai) (aT (aa 0) ai))) (au c9 (au eF (aT (aa 1) ai) (aT (aa 0) ai)) (au eF (aT (aa 2) ai) (aT (aa 0) ai)))))),fun ds Q h=>?_⟩
 obtain ⟨a,b,c,rfl,⟨a1,a2⟩,⟨b1,b2⟩,⟨c1,c2⟩,h⟩:=h
 unfold tw at h
 walk_at "rd"
 exact h
theorem wZ (T:Txt K mg t):Binds K t.jx ["a","b","c"] []:=T.kO.binds fun _ _ _ _ _ _ us hl=>match us,hl with | [_,_,_],_=>rfl
def yR:xu:=fun ds Q=> ∃ a b c:Pl,ds= [a.d,b.d,c.d]∧a.Ok 140∧b.Ok 140∧c.Ok 140∧tw a b c≠0∧Q (.int (tw a b c))
theorem w9 (T:Txt K mg t):bD P w K mg base ff 2 t.kJ t.jx ["a","b","c"] (vL K yR):=by
 refine A0 T.kO oj (fun ds Q h=>by (first | (obtain ⟨_,rfl,_⟩:=h;rfl) | (obtain ⟨_,_,rfl,_⟩:=h;rfl) | (obtain ⟨_,_,_,rfl,_⟩:=h;rfl) | (obtain ⟨_,_,_,_,rfl,_⟩:=h;rfl) | (obtain ⟨_,_,_,_,_,rfl,_⟩:=h;rfl) | (obtain ⟨_,_,_,_,_,_,rfl,_⟩:=h;rfl) | (obtain ⟨_,_,_,_,_,_,_,rfl,_⟩:=h;rfl))) (fun cdv A outer s H hr=>?_)
 have hu:=hr.units
 refine ⟨_,(ao (aX (i:=3) oj.nd rfl (Or.inl rfl) (aJ (kT T) (hr.mono (by decide)) (by rfl) T.nZ T.jD.kp (kR T) (af (aa 0) (af (aa 1) (af (aa 2) ak)))))
  (ao (cH (aW (tS hu) (aa 3) ai (aK _)) (aB Gd) bx)
  (aB (aG (aa 3))))),fun ds Q h=>?_⟩
 obtain ⟨a,b,c,rfl,ha,hb,hc,hn,h⟩:=h
 walk_at "rd"
 refine ⟨ha,hb,hc,?_⟩
 walk_at "rd"
 refine fR (fun k=>?_) (fun _=>?_)
 ·exfalso
  rw [eG] at k
  exact hn (eq_of_beq k)
 walk_at "rd"
 exact h
theorem xg (T:Txt K mg t):Binds K t.wM ["number"] []:=T.sU.binds fun _ _ _ _ _ _ us hl=>match us,hl with | [_],_=>rfl
def Ks:xu:=fun ds Q=> ∃ i:Int,ds= [.int i]∧Q (.int i.sign)
theorem xh (T:Txt K mg t):bD P w K mg base ff 1 t.Ar t.wM ["number"] (vL K Ks):=by
 refine A0 T.sU Hl (fun ds Q h=>by (first | (obtain ⟨_,rfl,_⟩:=h;rfl) | (obtain ⟨_,_,rfl,_⟩:=h;rfl) | (obtain ⟨_,_,_,rfl,_⟩:=h;rfl) | (obtain ⟨_,_,_,_,rfl,_⟩:=h;rfl) | (obtain ⟨_,_,_,_,_,rfl,_⟩:=h;rfl) | (obtain ⟨_,_,_,_,_,_,rfl,_⟩:=h;rfl) | (obtain ⟨_,_,_,_,_,_,_,rfl,_⟩:=h;rfl))) (fun cdv A outer s H hr=>?_)
 have hu:=hr.units
 refine ⟨_,(ao (cH (aW Ji (aa 0) ai (aK _)) (aB (aG ai)) bx)
  (ao (cH (aW (lP hu) (aa 0) ai (aK _)) (aB (aG (fj ai))) bx)
  (aB (aG ai)))),fun ds Q h=>?_⟩
 obtain ⟨i,rfl,h⟩:=h
 walk_at "rd"
 refine fR (fun c=>?_) (fun c=>?_)
 ·have c:0 < i:=of_decide_eq_true c
  rw [V1 c] at h
  exact h
 ·have c:¬ 0 < i:=fun z=>c (decide_eq_true z)
  walk_at "rd"
  refine fR (fun e=>?_) (fun e=>?_)
  ·have e:i < 0:=of_decide_eq_true e
   rw [Ww e] at h
   walk_at "rd"
   exact h
  ·have e:¬ i < 0:=fun z=>e (decide_eq_true z)
   have z:i=0:=by omega
   subst z
   exact h
theorem tE (T:Txt K mg t):Binds K t.sR ["p","q"] []:=T.n8.binds fun _ _ _ _ _ _ us hl=>match us,hl with | [_,_],_=>rfl
def Hr:xu:=fun ds Q=> ∃ p q:Pl,ds= [p.d,q.d]∧p.Ok 140∧q.Ok 140∧Q (.int (vN p q))
theorem tF (T:Txt K mg t):bD P w K mg base ff 1 t.wN t.sR ["p","q"] (vL K Hr):=by
 refine A0 T.n8 sY (fun ds Q h=>by (first | (obtain ⟨_,rfl,_⟩:=h;rfl) | (obtain ⟨_,_,rfl,_⟩:=h;rfl) | (obtain ⟨_,_,_,rfl,_⟩:=h;rfl) | (obtain ⟨_,_,_,_,rfl,_⟩:=h;rfl) | (obtain ⟨_,_,_,_,_,rfl,_⟩:=h;rfl) | (obtain ⟨_,_,_,_,_,_,rfl,_⟩:=h;rfl) | (obtain ⟨_,_,_,_,_,_,_,rfl,_⟩:=h;rfl))) (fun cdv A outer s H hr=>?_)
 have hu:=hr.units
 refine ⟨_,(ao (aX (i:=2) sY.nd rfl (Or.inl rfl) (au eF (aT (aa 1) ai) (aT (aa 0) ai)))
  (ao (aX (i:=3) sY.nd rfl (Or.inl rfl) (au eF (aT (aa 1) ai) (aT (aa 0) ai)))
  (aB (aG (au fS (au c9 (aa 2) (aa 2)) (au c9 (aa 3) (aa 3))))))),fun ds Q h=>?_⟩
 obtain ⟨p,q,rfl,⟨p1,p2⟩,⟨q1,q2⟩,h⟩:=h
 unfold vN at h
 walk_at "rd"
 exact h
theorem Hs (T:Txt K mg t):Binds K t.wO ["a","b","c","d"] []:=T.Ax.binds fun _ _ _ _ _ _ us hl=>match us,hl with | [_,_,_,_],_=>rfl
def Ku:xu:=fun ds Q=> ∃ a b c d:Pl,ds= [a.d,b.d,c.d,d.d]∧a.Ok 140∧b.Ok 140∧c.Ok 140∧d.Ok 140∧tw a b c≠0∧Q (.int (rg a b c d))
theorem Hu (T:Txt K mg t):bD P w K mg base ff 3 t.As t.wO ["a","b","c","d"] (vL K Ku):=by
 refine A0 T.Ax wU (fun ds Q h=>by (first | (obtain ⟨_,rfl,_⟩:=h;rfl) | (obtain ⟨_,_,rfl,_⟩:=h;rfl) | (obtain ⟨_,_,_,rfl,_⟩:=h;rfl) | (obtain ⟨_,_,_,_,rfl,_⟩:=h;rfl) | (obtain ⟨_,_,_,_,_,rfl,_⟩:=h;rfl) | (obtain ⟨_,_,_,_,_,_,rfl,_⟩:=h;rfl) | (obtain ⟨_,_,_,_,_,_,_,rfl,_⟩:=h;rfl))) (fun cdv A outer s H hr=>?_)
 have hu:=hr.units
 refine ⟨_,(ao (aX (i:=4) wU.nd rfl (Or.inl rfl) (aJ (w9 T) (hr.mono (by decide)) (by rfl) T.yL T.kO.kp (wZ T) (af (aa 0) (af (aa 1) (af (aa 2) ak)))))
  (ao (aX (i:=5) wU.nd rfl (Or.inl rfl) (au fS (au fS (au c9 (aJ (tF T) (hr.mono (by decide)) (by rfl) T.wR T.n8.kp (tE T) (af (aa 3) (af (aa 0) ak))) (aJ (kT T) (hr.mono (by decide)) (by rfl) T.nZ T.jD.kp (kR T) (af (aa 3) (af (aa 1) (af (aa 2) ak))))) (au c9 (aJ (tF T) (hr.mono (by decide)) (by rfl) T.wR T.n8.kp (tE T) (af (aa 3) (af (aa 1) ak))) (aJ (kT T) (hr.mono (by decide)) (by rfl) T.nZ T.jD.kp (kR T) (af (aa 3) (af (aa 2) (af (aa 0) ak)))))) (au c9 (aJ (tF T) (hr.mono (by decide)) (by rfl) T.wR T.n8.kp (tE T) (af (aa 3) (af (aa 2) ak))) (aJ (kT T) (hr.mono (by decide)) (by rfl) T.nZ T.jD.kp (kR T) (af (aa 3) (af (aa 0) (af (aa 1) ak)))))))
  (aB (aG (au c9 (aJ (xh T) (hr.mono (by decide)) (by rfl) T.Aw T.sU.kp (xg T) (af (aa 4) ak)) (aJ (xh T) (hr.mono (by decide)) (by rfl) T.Aw T.sU.kp (xg T) (af (aa 5) ak))))))),fun ds Q h=>?_⟩
 obtain ⟨a,b,c,d,rfl,ha,hb,hc,hd,hn,h⟩:=h
 have s1:=zF hd ha
 have s2:=zF hd hb
 have s3:=zF hd hc
 have t1:=A5 hd hb hc
 have t2:=A5 hd hc ha
 have t3:=A5 hd ha hb
 walk_at "rd"
 refine ⟨ha,hb,hc,hn,?_⟩
 walk_at "rd"
 refine ⟨hd,ha,?_⟩
 walk_at "rd"
 refine ⟨hd,hb,hc,?_⟩
 walk_at "rd"
 refine ⟨hd,hb,?_⟩
 walk_at "rd"
 refine ⟨hd,hc,ha,?_⟩
 walk_at "rd"
 refine ⟨hd,hc,?_⟩
 walk_at "rd"
 refine ⟨hd,ha,hb,?_⟩
 walk_at "rd"
 unfold rg dep at h
 exact h
theorem oA (T:Txt K mg t):Binds K t.wQ ["a","b","c"] []:=T.mT.binds fun _ _ _ _ _ _ us hl=>match us,hl with | [_,_,_],_=>rfl
def Kv:xu:=fun ds Q=> ∃ a b c:Pl,ds= [a.d,b.d,c.d]∧a.Ok 140∧b.Ok 140∧c.Ok 140∧Q (.int (tw a b c).sign)
theorem oB (T:Txt K mg t):bD P w K mg base ff 2 t.Au t.wQ ["a","b","c"] (vL K Kv):=by
 refine A0 T.mT Ho (fun ds Q h=>by (first | (obtain ⟨_,rfl,_⟩:=h;rfl) | (obtain ⟨_,_,rfl,_⟩:=h;rfl) | (obtain ⟨_,_,_,rfl,_⟩:=h;rfl) | (obtain ⟨_,_,_,_,rfl,_⟩:=h;rfl) | (obtain ⟨_,_,_,_,_,rfl,_⟩:=h;rfl) | (obtain ⟨_,_,_,_,_,_,rfl,_⟩:=h;rfl) | (obtain ⟨_,_,_,_,_,_,_,rfl,_⟩:=h;rfl))) (fun cdv A outer s H hr=>?_)
 have hu:=hr.units
 refine ⟨_,(aB (aG (aJ (xh T) (hr.mono (by decide)) (by rfl) T.Aw T.sU.kp (xg T) (af (aJ (kT T) (hr.mono (by decide)) (by rfl) T.nZ T.jD.kp (kR T) (af (aa 0) (af (aa 1) (af (aa 2) ak)))) ak)))),fun ds Q h=>?_⟩
 obtain ⟨a,b,c,rfl,ha,hb,hc,h⟩:=h
 walk_at "rd"
 refine ⟨ha,hb,hc,?_⟩
 walk_at "rd"
 exact h
theorem vt (T:Txt K mg t):Binds K t.pL ["a","b","c","d"] []:=T.n9.binds fun _ _ _ _ _ _ us hl=>match us,hl with | [_,_,_,_],_=>rfl
def E8:xu:=fun ds Q=> ∃ a b c d:Pl,ds= [a.d,b.d,c.d,d.d]∧a.Ok 140∧b.Ok 140∧c.Ok 140∧d.Ok 140∧tw a b c≠0∧Q (.bl (decide (eB a b c d)))
theorem vv (T:Txt K mg t):bD P w K mg base ff 4 t.sS t.pL ["a","b","c","d"] (vL K E8):=by
 refine A0 T.n9 pQ (fun ds Q h=>by (first | (obtain ⟨_,rfl,_⟩:=h;rfl) | (obtain ⟨_,_,rfl,_⟩:=h;rfl) | (obtain ⟨_,_,_,rfl,_⟩:=h;rfl) | (obtain ⟨_,_,_,_,rfl,_⟩:=h;rfl) | (obtain ⟨_,_,_,_,_,rfl,_⟩:=h;rfl) | (obtain ⟨_,_,_,_,_,_,rfl,_⟩:=h;rfl) | (obtain ⟨_,_,_,_,_,_,_,rfl,_⟩:=h;rfl))) (fun cdv A outer s H hr=>?_)
 have hu:=hr.units
 refine ⟨_,(ao (aX (i:=4) pQ.nd rfl (Or.inl rfl) (aJ (Hu T) (hr.mono (by decide)) (by rfl) T.Kp T.Ax.kp (Hs T) (af (aa 0) (af (aa 1) (af (aa 2) (af (aa 3) ak))))))
  (ao (cH (aW (BS hu) (aa 4) ai (aK _)) (aB (aG (lM (tS hu) (aa 4) ai (aK _)))) bx)
  (ao (cH (aW (zB hu) (aa 3) (cQ (af (aa 0) (af (aa 1) (af (aa 2) ak)))) (by with_unfolding_all rfl)) (aB (aG gE)) bx)
  (ao (aX (i:=5) pQ.nd rfl (Or.inl rfl) (cj j8 (by rfl) T.eg bX (af (dc (af (aa 0) (af (aa 1) (af (aa 2) ak)))) ak)))
  (ao (cH (aW (lP hu) (aa 3) (aT (aa 5) ai) (aK _)) (aB (aG gE)) bx)
  (aB (aG (lM (BS hu) (aJ (oB T) (hr.mono (by decide)) (by rfl) T.sV T.mT.kp (oA T) (af (aT (aa 5) ai) (af (aT (aa 5) ai) (af (aa 3) ak)))) (aJ (oB T) (hr.mono (by decide)) (by rfl) T.sV T.mT.kp (oA T) (af (aT (aa 5) ai) (af (aT (aa 5) ai) (af (aT (aa 5) ai) ak)))) (aK _))))))))),fun ds Q h=>?_⟩
 obtain ⟨a,b,c,d,rfl,ha,hb,hc,hd,hn,h⟩:=h
 walk_at "rd"
 refine ⟨ha,hb,hc,hd,hn,?_⟩
 walk_at "rd"
 refine fR (fun k=>?_) (fun k=>?_)
 ·have k:rg a b c d≠0:=fun z=>by rw [z] at k;exact absurd k (by decide)
  walk_at "rd"
  have e:decide (eB a b c d)=er (.int (rg a b c d)) (.int 1):=by
   rw [eG,V0]
   simp [eB,k]
  rw [e] at h
  exact h
 ·have k:rg a b c d=0:=by
   apply Vi
   intro z
   apply k
   rw [eG,beq_eq_false_iff_ne.mpr z]
   rfl
  walk_at "rd"
  rw [O4]
  refine fR (fun k2=>?_) (fun k2=>?_)
  ·have k2:=of_decide_eq_true k2
   walk_at "rd"
   have e:decide (eB a b c d)=false:=decide_eq_false (fun z=>by unfold eB at z;rw [k] at z;grind)
   rw [e] at h
   exact h
  ·have k2:¬ (d=a∨d=b∨d=c):=fun z=>k2 (decide_eq_true z)
   walk_at "rd"
   intro l hl
   refine ⟨l,[a,b,c],rfl,ah,by show 3 < 64;decide,fun p qs hp aS lZ=>?_⟩
   obtain ⟨u,v,w,rfl⟩:=nI aS.length_eq
   obtain ⟨hu,hv,hw⟩:=xY aS ha hb hc
   have key:=zG hn k k2 aS lZ
   rw [key] at h
   walk_at "rd"
   refine ⟨_,_,_,.inr (.inr ⟨p,rfl,ah⟩),rfl,rfl,?_⟩
   walk_at "rd"
   rw [nG]
   refine fR (fun k3=>?_) (fun k3=>?_)
   ·rw [if_pos (of_decide_eq_true k3)] at h
    walk_at "rd"
    exact h
   ·rw [if_neg (fun z=>k3 (decide_eq_true z))] at h
    walk_at "rd"
    refine ⟨_,_,_,.inr (.inr ⟨p,rfl,ah⟩),rfl,rfl,?_⟩
    walk_at "rd"
    refine ⟨_,_,_,.inr (.inr ⟨p,rfl,ah⟩),rfl,rfl,?_⟩
    walk_at "rd"
    refine ⟨hv,hw,hd,?_⟩
    walk_at "rd"
    refine ⟨_,_,_,.inr (.inr ⟨p,rfl,ah⟩),rfl,rfl,?_⟩
    walk_at "rd"
    refine ⟨_,_,_,.inr (.inr ⟨p,rfl,ah⟩),rfl,rfl,?_⟩
    walk_at "rd"
    refine ⟨_,_,_,.inr (.inr ⟨p,rfl,ah⟩),rfl,rfl,?_⟩
    walk_at "rd"
    refine ⟨hv,hw,hu,?_⟩
    walk_at "rd"
    rw [DL]
    exact h
theorem oE (T:Txt K mg t):Binds K t.jy ["places","t"] []:=T.iz.binds fun _ _ _ _ _ _ us hl=>match us,hl with | [_,_],_=>rfl
def yS:uE:=fun ds M Q=> ∃ (l:Addr) (ps:List Pl) (a b c:Pl),ds= [.ref l,tD [a,b,c]]∧M l=some (.lst (ps.map Pl.d))∧(∀ q∈ps,q.Ok 140)∧a.Ok 140∧b.Ok 140∧c.Ok 140∧tw a b c≠0∧Q (.bl (JQ ps a b c)) M
theorem oF (T:Txt K mg t):bD P w K mg base ff 5 t.kK t.jy ["places","t"] (mZ K yS):=by
 refine zE T.iz om (fun ds M Q h=>by (first | (obtain ⟨_,rfl,_⟩:=h;rfl) | (obtain ⟨_,_,rfl,_⟩:=h;rfl) | (obtain ⟨_,_,_,rfl,_⟩:=h;rfl) | (obtain ⟨_,_,_,_,rfl,_⟩:=h;rfl) | (obtain ⟨_,_,_,_,_,rfl,_⟩:=h;rfl) | (obtain ⟨_,_,_,_,_,_,rfl,_⟩:=h;rfl) | (obtain ⟨_,_,_,_,_,_,_,rfl,_⟩:=h;rfl))) (fun cdv A outer s H hr=>?_)
 have hu:=hr.units
 refine ⟨_,(ao (jY PassesOwn.never rfl (aa 0) (bF (i:=2) om.nd rfl (Or.inl rfl)) (aB (cH (c8 (aJ (vv T) (hr.mono (by decide)) (by rfl) T.yM T.n9.kp (vt T) (af (aT (aa 1) ai) (af (aT (aa 1) ai) (af (aT (aa 1) ai) (af (aa 2) ak)))))) (aB (aG gE)) bx)))
  (aB (aG gE))),fun ds M Q h=>?_⟩
 obtain ⟨l,ps,a,b,c,rfl,hM,ho,ha,hb,hc,hn,h⟩:=h
 walk_at "rd"
 refine ⟨l,_,rfl,hM,?_⟩
 refine bP (fun i ρ M'=>M'=M∧(∃ y:Option L3.D,ρ= [some (.ref l),some (tD [a,b,c]),y])∧(ps.take i).any (fun d=>decide (eB a b c d))=false) _ ?_ ?_ ⟨rfl,⟨_,rfl⟩,rfl⟩
 ·rintro i x ρ M' N hx ⟨rfl,⟨y,rfl⟩,hf⟩ hN
  obtain ⟨d,hd,rfl⟩:=kg hx
  have od:=ho d (Vy hd)
  refine ⟨hM,?_⟩
  walk_at "rd"
  refine ⟨ha,hb,hc,od,hn,?_⟩
  walk_at "rd"
  refine fR (fun k=>?_) (fun k=>?_)
  ·walk_at "rd"
   have e:JQ ps a b c=true:=XX.mpr ⟨d,Vy hd,k⟩
   rw [e] at h
   exact bO.mk ⟨_,Le.refl _,h⟩
  ·have k:decide (eB a b c d)=false:=by simpa using k
   exact hN _ _ ⟨rfl,⟨_,rfl⟩,by rw [DR hd,hf,k];rfl⟩
 ·rintro ρ M' ⟨rfl,⟨y,rfl⟩,hf⟩
  refine ⟨hM,?_⟩
  walk_at "rd"
  rw [Vk,VZ] at hf
  have e:JQ ps a b c=false:=hf
  rw [e] at h
  exact bO.mk ⟨_,Le.refl _,h⟩
theorem iZ (T:Txt K mg t):Binds K t.bC ["places"] []:=T.eV.binds fun _ _ _ _ _ _ us hl=>match us,hl with | [_],_=>rfl
theorem jJ (T:Txt K mg t):Binds K t.fZ ["line"] []:=T.eW.binds fun _ _ _ _ _ _ us hl=>match us,hl with | [_],_=>rfl
def tG:uE:=fun ds M Q=> ∃ (l:Addr) (ps:List Pl),ds= [.ref l]∧M l=some (.lst (ps.map Pl.d))∧ps.length≤1000∧(∀ q∈ps,q.Ok 140)∧∀ p,M p=none→Q (.ref p) (ay M p (.lst ((ps.foldl aM []).reverse.map Pl.d)))
theorem jK (T:Txt K mg t):bD P w K mg base ff 3 t.gQ t.fZ ["line"] (mZ K tG):=by
 refine zE T.eW gi (fun ds M Q h=>by (first | (obtain ⟨_,rfl,_⟩:=h;rfl) | (obtain ⟨_,_,rfl,_⟩:=h;rfl) | (obtain ⟨_,_,_,rfl,_⟩:=h;rfl) | (obtain ⟨_,_,_,_,rfl,_⟩:=h;rfl) | (obtain ⟨_,_,_,_,_,rfl,_⟩:=h;rfl) | (obtain ⟨_,_,_,_,_,_,rfl,_⟩:=h;rfl) | (obtain ⟨_,_,_,_,_,_,_,rfl,_⟩:=h;rfl))) (fun cdv A outer s H hr=>?_)
 have hu:=hr.units
 refine ⟨_,(ao (aX (i:=1) gi.nd rfl (Or.inl rfl) (dc ak))
  (ao (jY PassesOwn.never rfl (aa 0) (bF (i:=2) gi.nd rfl (Or.inl rfl)) (ao (AZ PassesOwn.never (pW.pt (qV (aW Ji (cj jG (by rfl) T.gg bV (af (aa 1) ak)) ai (aK _)) (oU (aW (tS hu) (aJ (oB T) (hr.mono (by decide)) (by rfl) T.sV T.mT.kp (oA T) (af (aT (aa 1) (fj ai)) (af (aT (aa 1) (fj ai)) (af (aa 2) ak)))) (fj ai) (aK _))))) (aB (mD (My (aa 1) (Jc PySem.F.plainAttrs_list PySem.F.slot_list_pop PySem.F.type_list_pop Jd (cg.dn (aa 1)))))))
  (aB (mD (uF (aa 1) (aa 2) (uz PySem.F.plainAttrs_list PySem.F.slot_list_append PySem.F.type_list_append fm (cg.dn (aa 1)) (jl (cg.dn (aa 2)) l8)))))))
  (aB (aG (aa 1))))),fun ds M Q h=>?_⟩
 obtain ⟨l,ps,rfl,hM,hlen,ho,h⟩:=h
 walk_at "rd"
 intro p hp
 have hl:∀ o,ay M p o l=some (.lst (ps.map Pl.d)):=fun o=>av hM hp
 walk_at "rd"
 refine ⟨l,_,rfl,hl _,?_⟩
 refine bP (fun i ρ M'=>M'=ay M p (.lst (((ps.take i).foldl aM []).reverse.map Pl.d))∧∃ y:Option L3.D,ρ= [some (.ref l),some (.ref p),y]) _ ?_ ?_ ⟨rfl,_,rfl⟩
 ·rintro i x ρ M' N hx ⟨rfl,y,rfl⟩ hN
  obtain ⟨d,hd,rfl⟩:=kg hx
  have od:=ho d (Vy hd)
  have Tc:∀ q∈(ps.take i).foldl aM [],q.Ok 140:=fun q hq=>ho q (WD (Cf _ q hq))
  have lst:=jd (ps.take i)
  have eN:=zR hd
  have lt:(ps.take i).length≤1000:=by rw [Wq];omega
  generalize hst:(ps.take i).foldl aM []=st at *
  refine ⟨hl _,?_⟩
  walk_at "rd"
  refine ⟨fun m ρ M'=> ∃ st':List Pl,M'=ay M p (.lst (st'.reverse.map Pl.d))∧ρ= [some (.ref l),some (.ref p),some d.d]∧m=st'.length∧jc st' d=jc st d∧(∀ q∈st',q.Ok 140)∧st'.length≤1000,⟨_,st,rfl,rfl,rfl,rfl,Tc,by omega⟩,?_⟩
  rintro m ρ M' ⟨st',rfl,rfl,rfl,ep,os,ls⟩
  walk_at "rd"
  refine ⟨_,_,rfl,.inr (.inr ⟨p,rfl,ah⟩),?_⟩
  walk_at "rd"
  rw [Vk,VV]
  refine fR (fun c=>?_) (fun c=>?_)
  ·have c:(1:Int) < (st'.length:Int):=of_decide_eq_true c
   obtain ⟨b,a,r,rfl⟩:∃ b a r,st'=b :: a :: r:=by
    match st',c with
    | b :: a :: r,_=>exact ⟨b,a,r,rfl⟩
    | [x],c=>exact absurd c (by show ¬ (1:Int) < 1;decide)
    | [],c=>exact absurd c (by decide)
   walk_at "rd"
   refine ⟨_,_,a.d,.inr (.inr ⟨p,rfl,ah⟩),rfl,Ce b a r,?_⟩
   walk_at "rd"
   refine ⟨_,_,b.d,.inr (.inr ⟨p,rfl,ah⟩),rfl,Cd b _,?_⟩
   walk_at "rd"
   refine ⟨os a (by simp),os b (by simp),od,?_⟩
   walk_at "rd"
   rw [eG]
   refine fR (fun k=>?_) (fun k=>?_)
   ·have k:=eq_of_beq k
    have k:tw a b d < 0:=Int.sign_eq_neg_one_iff_neg.mp k
    walk_at "rd"
    refine ⟨p,_,b.d,rfl,by rw [Wf,VM];exact ah,?_⟩
    rw [m7]
    exact bO.mk ⟨_,Xp _,a :: r,rfl,rfl,rfl,by rw [← ep,D9 k],fun q hq=>os q (Vj _ hq),by simp only [VN] at ls ⊢;omega⟩
   ·have k:¬ tw a b d < 0:=fun z=>k (by rw [Ww z];rfl)
    have ez:=Ea (r:=r) k
    generalize b :: a :: r=st' at *
    walk_at "rd"
    refine ⟨⟨p,_,rfl,ah⟩,?_⟩
    walk_at "rd"
    refine ⟨p,_,rfl,ah,?_,?_⟩
    ·rw [Vk,VV]
     have:(1000:Nat) < sizeLine:=by decide
     omega
    ·rw [m7]
     refine hN _ _ ⟨?_,_,rfl⟩
     have e:aM st d=d :: st':=by
      show d :: jc st d=_
      rw [← ep,ez]
     rw [eN,e,Wf,VM]
     rfl
  ·have c:¬ (1:Int) < (st'.length:Int):=fun z=>c (decide_eq_true z)
   have ez:jc st' d=st':=by
    match st',c with
    | [],_=>rfl
    | [_],_=>rfl
    | b :: a :: r,c=>exact absurd (show (1:Int) < ((b :: a :: r).length:Int) by simp only [VN];omega) c
   walk_at "rd"
   refine ⟨⟨p,_,rfl,ah⟩,?_⟩
   walk_at "rd"
   refine ⟨p,_,rfl,ah,?_,?_⟩
   ·rw [Vk,VV]
    have:(1000:Nat) < sizeLine:=by decide
    omega
   ·rw [m7]
    refine hN _ _ ⟨?_,_,rfl⟩
    have e:aM st d=d :: st':=by
     show d :: jc st d=_
     rw [← ep,ez]
    rw [eN,e,Wf,VM]
    rfl
 ·rintro ρ M' ⟨rfl,y,rfl⟩
  refine ⟨hl _,?_⟩
  walk_at "rd"
  refine bO.mk ⟨_,Le.refl _,?_⟩
  rw [Vk,VZ]
  exact h p hp
theorem Ay (T:Txt K mg t):Binds K t.mS ["places"] []:=T.pO.binds fun _ _ _ _ _ _ us hl=>match us,hl with | [_],_=>rfl
def CJ:uE:=fun ds M Q=> ∃ (l:Addr) (ps:List Pl),ds= [.ref l]∧M l=some (.lst (ps.map Pl.d))∧ps.length < 64∧(∀ q∈ps,q.Ok 140)∧∀ (p:Addr) (qs:List Pl),M p=none→qs.Perm ps→qs.Pairwise (fun p q=> ¬ aI q p)→Q (.ref p) (ay M p (.lst ((bQ qs).map Pl.d)))
theorem Az (T:Txt K mg t):bD P w K mg base ff 4 t.pM t.mS ["places"] (mZ K CJ):=by
 refine zE T.pO jF (fun ds M Q h=>by (first | (obtain ⟨_,rfl,_⟩:=h;rfl) | (obtain ⟨_,_,rfl,_⟩:=h;rfl) | (obtain ⟨_,_,_,rfl,_⟩:=h;rfl) | (obtain ⟨_,_,_,_,rfl,_⟩:=h;rfl) | (obtain ⟨_,_,_,_,_,rfl,_⟩:=h;rfl) | (obtain ⟨_,_,_,_,_,_,rfl,_⟩:=h;rfl) | (obtain ⟨_,_,_,_,_,_,_,rfl,_⟩:=h;rfl))) (fun cdv A outer s H hr=>?_)
 have hu:=hr.units
 refine ⟨_,(ao (aX (i:=1) jF.nd rfl (Or.inl rfl) (cj j8 (by rfl) T.eg bX (af (aa 0) ak)))
  (ao (cH (aW (lP hu) (cj jG (by rfl) T.gg bV (af (aa 1) ak)) ai (aK _)) (aB (aG (aa 1))) bx)
  (ao (aX (i:=2) jF.nd rfl (Or.inl rfl) (bz (jK T) (hr.mono (by decide)) (by rfl) T.kP T.eW.kp (jJ T) (af (aa 1) ak)))
  (ao (aX (i:=3) jF.nd rfl (Or.inl rfl) (bz (jK T) (hr.mono (by decide)) (by rfl) T.kP T.eW.kp (jJ T) (af (B8 (by rfl) (by rfl) T.qL (by rfl) T.yP (aa 1)) ak)))
  (aB (aG (au lT (fT (aa 2) x6 (j9 (fj ai))) (fT (aa 3) x6 (j9 (fj ai)))))))))),fun ds M Q h=>?_⟩
 obtain ⟨l,ps,rfl,hM,h64,ho,h⟩:=h
 walk_at "rd"
 refine ⟨l,ps,rfl,hM,h64,fun p qs hp aS lZ=>?_⟩
 have oq:∀ q∈qs,q.Ok 140:=fun q hq=>ho q (aS.mem_iff.mp hq)
 have lq:qs.length < 64:=by rw [aS.length_eq];exact h64
 walk_at "rd"
 refine ⟨_,_,rfl,.inr (.inr ⟨p,rfl,ah⟩),?_⟩
 walk_at "rd"
 rw [Vk]
 refine fR (fun c=>?_) (fun c=>?_)
 ·have c:(qs.length:Int) < 2:=of_decide_eq_true c
  have e:bQ qs=qs:=by unfold bQ;rw [if_pos (by omega)]
  have q:=h p qs hp aS lZ
  rw [e] at q
  walk_at "rd"
  exact bO.mk ⟨_,Le.refl _,q⟩
 ·have c:¬ (qs.length:Int) < 2:=fun z=>c (decide_eq_true z)
  have h':∀ r,M r=none→Q (.ref r) (ay M r (.lst ((bQ qs).map Pl.d))):=fun r hr=>h r qs hr aS lZ
  walk_at "rd"
  refine ⟨p,qs,rfl,ah,by omega,oq,fun p1 hp1=>?_⟩
  walk_at "rd"
  have e:bQ qs=(qs.foldl aM []).reverse.dropLast ++ (qs.reverse.foldl aM []).reverse.dropLast:=by unfold bQ;rw [if_neg (by omega)]
  rw [e] at h'
  have lt:(qs.foldl aM []).reverse.length≤64:=by
   have:=jd qs
   rw [VV];omega
  have lh:(qs.reverse.foldl aM []).reverse.length≤64:=by
   have:=jd qs.reverse
   rw [VV] at this ⊢;omega
  generalize (qs.foldl aM []).reverse=th at *
  have hQ:ay (ay M p (.lst (qs.map Pl.d))) p1 (.lst (th.map Pl.d)) p=some (.lst (qs.map Pl.d)):=av ah hp1
  have hT:ay (ay M p (.lst (qs.map Pl.d))) p1 (.lst (th.map Pl.d)) p1=some (.lst (th.map Pl.d)):=ah
  have le:=(Le.new (o:= .lst (qs.map Pl.d)) hp).trans (Le.new (o:= .lst (th.map Pl.d)) hp1)
  generalize ay (ay M p (.lst (qs.map Pl.d))) p1 (.lst (th.map Pl.d))=M2 at hQ hT le ⊢
  refine ⟨_,.of hQ,fun p2 hp2=>?_⟩
  rw [← List.map_reverse]
  have hT2:=av (u:=MO.lst (qs.reverse.map Pl.d)) hT hp2
  have tH:=le.trans (Le.new (o:= .lst (qs.reverse.map Pl.d)) hp2)
  have hR:ay M2 p2 (.lst (qs.reverse.map Pl.d)) p2=some (.lst (qs.reverse.map Pl.d)):=ah
  generalize ay M2 p2 (.lst (qs.reverse.map Pl.d))=M3 at hT2 tH hR ⊢
  refine ⟨p2,qs.reverse,rfl,hR,by rw [VV];omega,fun q hq=>oq q (Wd.mp hq),fun p3 hp3=>?_⟩
  have UA:th.length≤64:=by omega
  generalize (qs.reverse.foldl aM []).reverse=hm at *
  have Ri:=av (u:=MO.lst (hm.map Pl.d)) hT2 hp3
  have qM:=tH.trans (Le.new (o:= .lst (hm.map Pl.d)) hp3)
  have hH:ay M3 p3 (.lst (hm.map Pl.d)) p3=some (.lst (hm.map Pl.d)):=ah
  generalize ay M3 p3 (.lst (hm.map Pl.d))=M4 at Ri qM hH ⊢
  walk_at "rd"
  refine ⟨_,.of Ri,fun p4 NL=>?_⟩
  rw [yh]
  have Rj:=av (u:=MO.lst (th.dropLast.map Pl.d)) hH NL
  have CT:=qM.trans (Le.new (o:= .lst (th.dropLast.map Pl.d)) NL)
  have hA:ay M4 p4 (.lst (th.dropLast.map Pl.d)) p4=some (.lst (th.dropLast.map Pl.d)):=ah
  generalize ay M4 p4 (.lst (th.dropLast.map Pl.d))=M5 at Rj CT hA ⊢
  walk_at "rd"
  refine ⟨_,.of Rj,fun p5 Rk=>?_⟩
  rw [yh]
  have Rl:=av (u:=MO.lst (hm.dropLast.map Pl.d)) hA Rk
  have zd:=CT.trans (Le.new (o:= .lst (hm.dropLast.map Pl.d)) Rk)
  have hB:ay M5 p5 (.lst (hm.dropLast.map Pl.d)) p5=some (.lst (hm.dropLast.map Pl.d)):=ah
  generalize ay M5 p5 (.lst (hm.dropLast.map Pl.d))=M6 at Rl zd hB ⊢
  refine ⟨p4,p5,_,_,rfl,rfl,Rl,hB,?_,fun p6 Td=>?_⟩
  ·rw [Vk,Vk,Wr,Wr]
   have:(1000:Nat) < sizeLine:=by decide
   omega
  ·rw [← VM]
   exact bO.mk ⟨_,zd.put,h' p6 (zd.free Td)⟩
theorem pR (T:Txt K mg t):Binds K t.fE ["places"] []:=T.gf.binds fun _ _ _ _ _ _ us hl=>match us,hl with | [_],_=>rfl
def qp:uE:=fun ds M Q=> ∃ (l:Addr) (ps:List Pl),ds= [.ref l]∧M l=some (.lst (ps.map Pl.d))∧ps.length < 64∧(∀ q∈ps,q.Ok 140)∧∀ (p:Addr) (qs:List Pl),M p=none→qs.Perm ps→qs.Pairwise (fun p q=> ¬ aI q p)→Q (.ref p) (ay M p (.lst ((bY (bQ qs)).map tD)))
theorem pS (T:Txt K mg t):bD P w K mg base ff 5 t.gb t.fE ["places"] (mZ K qp):=by
 refine zE T.gf jg (fun ds M Q h=>by (first | (obtain ⟨_,rfl,_⟩:=h;rfl) | (obtain ⟨_,_,rfl,_⟩:=h;rfl) | (obtain ⟨_,_,_,rfl,_⟩:=h;rfl) | (obtain ⟨_,_,_,_,rfl,_⟩:=h;rfl) | (obtain ⟨_,_,_,_,_,rfl,_⟩:=h;rfl) | (obtain ⟨_,_,_,_,_,_,rfl,_⟩:=h;rfl) | (obtain ⟨_,_,_,_,_,_,_,rfl,_⟩:=h;rfl))) (fun cdv A outer s H hr=>?_)
 have hu:=hr.units
 refine ⟨_,(ao (aX (i:=1) jg.nd rfl (Or.inl rfl) (bz (Az T) (hr.mono (by decide)) (by rfl) T.CI T.pO.kp (Ay T) (af (aa 0) ak)))
  (ao (cH (aW (lP hu) (cj jG (by rfl) T.gg bV (af (aa 1) ak)) ai (aK _)) (aB (aG (dc ak))) bx)
  (aB (aG (Cb (by rfl) (by rfl) T.qL (by rfl) T.Kq (af (aa 1) (af (au lT (fT (aa 1) (j9 ai) x6) (fT (aa 1) x6 (j9 ai))) ak))))))),fun ds M Q h=>?_⟩
 obtain ⟨l,ps,rfl,hM,h64,ho,h⟩:=h
 walk_at "rd"
 refine ⟨l,ps,rfl,hM,h64,ho,fun p qs hp aS lZ=>?_⟩
 have h':∀ r,M r=none→Q (.ref r) (ay M r (.lst ((bY (bQ qs)).map tD))):=fun r hr=>h r qs hr aS lZ
 have lo:(bQ qs).length≤200:=by
  have l1:=jd qs
  have l2:=jd qs.reverse
  have l3:=aS.length_eq
  rw [VV] at l2
  unfold bQ
  split
  ·omega
  ·rw [VA,Wr,Wr,VV,VV]
   omega
 generalize bQ qs=bd at *
 walk_at "rd"
 refine ⟨_,_,rfl,.inr (.inr ⟨p,rfl,ah⟩),?_⟩
 walk_at "rd"
 rw [Vk]
 refine fR (fun c=>?_) (fun c=>?_)
 ·have c:(bd.length:Int) < 2:=of_decide_eq_true c
  walk_at "rd"
  intro r hr
  have q:=h' r ((Le.new hp).free hr)
  unfold bY at q
  rw [if_pos (by omega)] at q
  exact bO.mk ⟨_,(Le.new hp).put,q⟩
 ·have c:¬ (bd.length:Int) < 2:=fun z=>c (decide_eq_true z)
  walk_at "rd"
  have le:=Le.new (o:= .lst (bd.map Pl.d)) hp
  have hB:ay M p (.lst (bd.map Pl.d)) p=some (.lst (bd.map Pl.d)):=ah
  generalize ay M p (.lst (bd.map Pl.d))=M1 at hB le ⊢
  refine ⟨_,.of hB,fun p1 hp1=>?_⟩
  have Te:cutD (bd.map Pl.d) (some 1) none=(bd.drop 1).map Pl.d:=rJ Pl.d bd 1 (by omega)
  have Tf:cutD (bd.map Pl.d) none (some 1)=(bd.take 1).map Pl.d:=rR Pl.d bd 1 (by omega)
  rw [Te]
  have Qi:=av (u:=MO.lst ((bd.drop 1).map Pl.d)) hB hp1
  have yT:=le.trans (Le.new (o:= .lst ((bd.drop 1).map Pl.d)) hp1)
  have hA:ay M1 p1 (.lst ((bd.drop 1).map Pl.d)) p1=some (.lst ((bd.drop 1).map Pl.d)):=ah
  generalize ay M1 p1 (.lst ((bd.drop 1).map Pl.d))=M2 at Qi yT hA ⊢
  walk_at "rd"
  refine ⟨_,.of Qi,fun p2 hp2=>?_⟩
  rw [Tf]
  have hB2:=av (u:=MO.lst ((bd.take 1).map Pl.d)) Qi hp2
  have Rm:=av (u:=MO.lst ((bd.take 1).map Pl.d)) hA hp2
  have tH:=yT.trans (Le.new (o:= .lst ((bd.take 1).map Pl.d)) hp2)
  have hC:ay M2 p2 (.lst ((bd.take 1).map Pl.d)) p2=some (.lst ((bd.take 1).map Pl.d)):=ah
  generalize ay M2 p2 (.lst ((bd.take 1).map Pl.d))=M3 at hB2 Rm tH hC ⊢
  refine ⟨p1,p2,_,_,rfl,rfl,Rm,hC,?_,fun p3 hp3=>?_⟩
  ·rw [Vk,Vk,Wh,Wq]
   have:(1000:Nat) < sizeLine:=by decide
   omega
  rw [← VM]
  have Rn:=av (u:=MO.lst ((bd.drop 1 ++ bd.take 1).map Pl.d)) hB2 hp3
  have qM:=tH.trans (Le.new (o:= .lst ((bd.drop 1 ++ bd.take 1).map Pl.d)) hp3)
  have hE:ay M3 p3 (.lst ((bd.drop 1 ++ bd.take 1).map Pl.d)) p3=some (.lst ((bd.drop 1 ++ bd.take 1).map Pl.d)):=ah
  generalize ay M3 p3 (.lst ((bd.drop 1 ++ bd.take 1).map Pl.d))=M4 at Rn qM hE ⊢
  refine ⟨p,p3,_,_,rfl,Rn,hE,fun p4 NL=>?_⟩
  have q:=h' p4 (qM.free NL)
  unfold bY at q
  rw [if_neg (by omega)] at q
  have ez:=uU bd (bd.drop 1 ++ bd.take 1)
  rw [show ((List.zipWith (fun p q=>[p,q]) bd (bd.drop 1 ++ bd.take 1)).map tD)=_ from ez] at q
  exact bO.mk ⟨_,qM.put,q⟩
theorem qq (T:Txt K mg t):Binds K t.gc ["first","second"] []:=T.gX.binds fun _ _ _ _ _ _ us hl=>match us,hl with | [_,_],_=>rfl
def tK:uE:=fun ds M Q=> ∃ (f g:Addr),ds= [.ref f,.ref g]∧∃ (F S:List Pl),M f=some (.lst (F.map Pl.d))∧M g=some (.lst (S.map Pl.d))∧cE (F ++ S)∧(F ++ S).length≤20∧(∀ q∈F ++ S,q.Ok 140)∧((∀ x∈F,∀ y∈S,¬ aO (F ++ S) x y)→Q .aZ M)∧∀ x∈F,∀ y∈S,aO (F ++ S) x y→Q (tD [x,y]) M
theorem qu (T:Txt K mg t):bD P w K mg base ff 6 t.gR t.gc ["first","second"] (mZ K tK):=by
 refine zE T.gX jI (fun ds M Q h=>by (first | (obtain ⟨_,rfl,_⟩:=h;rfl) | (obtain ⟨_,_,rfl,_⟩:=h;rfl) | (obtain ⟨_,_,_,rfl,_⟩:=h;rfl) | (obtain ⟨_,_,_,_,rfl,_⟩:=h;rfl) | (obtain ⟨_,_,_,_,_,rfl,_⟩:=h;rfl) | (obtain ⟨_,_,_,_,_,_,rfl,_⟩:=h;rfl) | (obtain ⟨_,_,_,_,_,_,_,rfl,_⟩:=h;rfl))) (fun cdv A outer s H hr=>?_)
 have hu:=hr.units
 refine ⟨_,(ao (jY PassesOwn.never rfl (bz (pS T) (hr.mono (by decide)) (by rfl) T.qo T.gf.kp (pR T) (af (au lT (aa 0) (aa 1)) ak)) (bF (i:=2) jI.nd rfl (Or.inl rfl)) (aB (cH (pW.pt (qV (aW (zB hu) (aT (aa 2) ai) (aa 0) (by with_unfolding_all rfl)) (oU (aW (zB hu) (aT (aa 2) ai) (aa 1) (by with_unfolding_all rfl))))) (aB (aG (aa 2))) bx)))
  (aB (aG xP))),fun ds M Q h=>?_⟩
 obtain ⟨f,g,rfl,F,S,hF,hG,m5,lq,ho,h1,h2⟩:=h
 have sl:(1000:Nat) < sizeLine:=by decide
 walk_at "rd"
 have Qj:=lq
 rw [VA] at Qj
 refine ⟨f,g,_,_,rfl,rfl,hF,hG,by rw [Vk,Vk];omega,fun u ia=>?_⟩
 rw [← VM]
 have hU:ay M u (.lst ((F ++ S).map Pl.d)) u=some (.lst ((F ++ S).map Pl.d)):=ah
 have hF:=av (u:=MO.lst ((F ++ S).map Pl.d)) hF ia
 have hG:=av (u:=MO.lst ((F ++ S).map Pl.d)) hG ia
 have le:=Le.new (o:=MO.lst ((F ++ S).map Pl.d)) ia
 generalize ay M u (.lst ((F ++ S).map Pl.d))=M1 at hU hF hG le ⊢
 walk_at "rd"
 refine ⟨u,F ++ S,rfl,hU,by omega,ho,fun o qs ho' aS hso=>?_⟩
 obtain rfl:qs=F ++ S:=nP aS hso (m5.1.imp fun h=>az h)
 have hO:ay M1 o (.lst ((bY (bQ (F ++ S))).map tD)) o=some (.lst ((bY (bQ (F ++ S))).map tD)):=ah
 have hF:=av (u:=MO.lst ((bY (bQ (F ++ S))).map tD)) hF ho'
 have hG:=av (u:=MO.lst ((bY (bQ (F ++ S))).map tD)) hG ho'
 have le:=le.trans (Le.new (o:=MO.lst ((bY (bQ (F ++ S))).map tD)) ho')
 generalize ay M1 o (.lst ((bY (bQ (F ++ S))).map tD))=M2 at hO hF hG le ⊢
 have sI:∀ a b,[a,b]∈bY (bQ (F ++ S))↔aO (F ++ S) a b:=fun a b=>bR m5
 have Tg:∀ w∈bY (bQ (F ++ S)),∃ a b,w= [a,b]:=fun w hw=>iM hw
 generalize bY (bQ (F ++ S))=bs at *
 walk_at "rd"
 refine ⟨o,_,rfl,hO,?_⟩
 refine bP (fun i ρ M'=>M'=M2∧(∃ y:Option L3.D,ρ= [some (.ref f),some (.ref g),y])∧∀ w∈bs.take i,∀ a b,w= [a,b]→a∈F→b∈S→False) _ ?_ ?_ ⟨rfl,⟨_,rfl⟩,fun w hw=>by simp at hw⟩
 ·rintro i x ρ M' N hx ⟨rfl,⟨y,rfl⟩,no⟩ hN
  obtain ⟨w,hw,rfl⟩:=jr hx
  have mw:=Vy hw
  obtain ⟨a,b,rfl⟩:=Tg w mw
  have et:bs.take (i+1)=bs.take i ++ [[a,b]]:=by rw [XR,hw];rfl
  refine ⟨hO,?_⟩
  walk_at "rd"
  refine ⟨_,.inr ⟨f,rfl,hF⟩,rfl,bB F,?_⟩
  rw [if_neg (by decide),gn]
  walk_at "rd"
  by_cases ka:a∈F
  ·rw [decide_eq_true ka]
   walk_at "rd"
   refine ⟨_,.inr ⟨g,rfl,hG⟩,rfl,bB S,?_⟩
   rw [if_neg (by decide),gn]
   walk_at "rd"
   by_cases kb:b∈S
   ·rw [decide_eq_true kb]
    refine Jf ?_
    walk_at "rd"
    exact bO.mk ⟨M,le,h2 a ka b kb ((sI a b).mp mw)⟩
   ·rw [decide_eq_false kb]
    refine xN ?_
    walk_at "rd"
    refine hN _ _ ⟨rfl,⟨_,rfl⟩,fun w hw a' b' e h3 h4=>?_⟩
    rw [et] at hw
    rcases Vv.mp hw with z | z
    ·exact no w z a' b' e h3 h4
    ·rw [Vm] at z
     subst z
     obtain ⟨rfl,rfl⟩:=aL e
     exact kb h4
  ·rw [decide_eq_false ka]
   refine xN ?_
   walk_at "rd"
   refine hN _ _ ⟨rfl,⟨_,rfl⟩,fun w hw a' b' e h3 h4=>?_⟩
   rw [et] at hw
   rcases Vv.mp hw with z | z
   ·exact no w z a' b' e h3 h4
   ·rw [Vm] at z
    subst z
    obtain ⟨rfl,rfl⟩:=aL e
    exact ka h3
 ·rintro ρ M' ⟨rfl,⟨y,rfl⟩,no⟩
  refine ⟨hO,?_⟩
  rw [Vk,VZ] at no
  walk_at "rd"
  exact bO.mk ⟨M,le,h1 fun x hx y hy sd=>no [x,y] ((sI x y).mpr sd) x y rfl hx hy⟩
theorem l5 (T:Txt K mg t):Binds K t.iQ ["places","way"] []:=T.gw.binds fun _ _ _ _ _ _ us hl=>match us,hl with | [_,_],_=>rfl
def CK:Option Pl→L3.D
 | none=> .aZ
 | some c=>c.d
def xj:uE:=fun ds M Q=> ∃ (l:Addr) (a b:Pl),ds= [.ref l,tD [a,b]]∧∃ rs:List Pl,M l=some (.lst (rs.map Pl.d))∧(∀ q∈rs,q.Ok 140)∧a.Ok 140∧b.Ok 140∧(∃ Q H,Ht Q H∧a∈Q∧b∈Q∧∀ d∈rs,d∈Q)∧Q (CK (vh a b rs)) M
theorem l6 (T:Txt K mg t):bD P w K mg base ff 5 t.jz t.iQ ["places","way"] (mZ K xj):=by
 refine zE T.gw fO (fun ds M Q h=>by (first | (obtain ⟨_,rfl,_⟩:=h;rfl) | (obtain ⟨_,_,rfl,_⟩:=h;rfl) | (obtain ⟨_,_,_,rfl,_⟩:=h;rfl) | (obtain ⟨_,_,_,_,rfl,_⟩:=h;rfl) | (obtain ⟨_,_,_,_,_,rfl,_⟩:=h;rfl) | (obtain ⟨_,_,_,_,_,_,rfl,_⟩:=h;rfl) | (obtain ⟨_,_,_,_,_,_,_,rfl,_⟩:=h;rfl))) (fun cdv A outer s H hr=>?_)
 have hu:=hr.units
 refine ⟨_,(ao (aX (i:=2) fO.nd rfl (Or.inl rfl) xP)
  (ao (jY PassesOwn.never rfl (aa 0) (bF (i:=3) fO.nd rfl (Or.inl rfl)) (aB (cH (pW.pt (qV (aW (tS hu) (aJ (oB T) (hr.mono (by decide)) (by rfl) T.sV T.mT.kp (oA T) (af (aT (aa 1) ai) (af (aT (aa 1) ai) (af (aa 3) ak)))) ai (aK _)) (oU (pW.pt (qk (aW HS (aa 2) xP (aK _)) (lN (c8 (aJ (vv T) (hr.mono (by decide)) (by rfl) T.yM T.n9.kp (vt T) (af (aT (aa 1) ai) (af (aT (aa 1) ai) (af (aa 2) (af (aa 3) ak)))))))))))) (aB (aX (i:=2) fO.nd rfl (Or.inl rfl) (aa 3))) bx)))
  (aB (aG (aa 2))))),fun ds M Q h=>?_⟩
 obtain ⟨l,a,b,rfl,rs,hM,ho,oa,ob,⟨Q0,H0,ht,ha,hb,hr⟩,h⟩:=h
 walk_at "rd"
 refine ⟨l,_,rfl,hM,?_⟩
 refine bP (fun i ρ M'=>M'=M∧∃ y:Option L3.D,ρ= [some (.ref l),some (tD [a,b]),some (CK (vh a b (rs.take i))),y]) _ ?_ ?_ ⟨rfl,_,rfl⟩
 ·rintro i x ρ M' N hx ⟨rfl,y,rfl⟩ hN
  obtain ⟨d,hd,rfl⟩:=kg hx
  have od:=ho d (Vy hd)
  have ct:=yH (a:=a) (b:=b) hd
  have cs:=(sM ht ha hb rs hr i).2
  refine ⟨hM,?_⟩
  walk_at "rd"
  refine ⟨oa,ob,od,?_⟩
  walk_at "rd"
  have eb:L3.er (.int (tw a b d).sign) (.int 1)=decide (0 < tw a b d):=by
   rw [eG,V0,decide_eq_true_eq,beq_iff_eq]
   exact WS
  rw [eb]
  unfold CD at ct
  by_cases p:0 < tw a b d
  ·rw [decide_eq_true p] at ct ⊢
   refine Jf ?_
   cases ec:vh a b (rs.take i) with
   | none=>
     rw [ec] at ct
     walk_at "rd"
     refine hN _ _ ⟨rfl,some d.d,?_⟩
     rw [ct]
     rfl
   | some e=>
     rw [ec] at ct
     obtain ⟨me,pe,_⟩:=cs e ec
     walk_at "rd"
     refine ⟨oa,ob,ho e me,od,by omega,?_⟩
     walk_at "rd"
     have ct:vh a b (rs.take (i+1))=if eB a b e d then some d else some e:=by simpa using ct
     by_cases sp:eB a b e d
     ·rw [decide_eq_true sp]
      walk_at "rd"
      refine hN _ _ ⟨rfl,some d.d,?_⟩
      rw [ct,if_pos sp]
      rfl
     ·rw [decide_eq_false sp]
      walk_at "rd"
      refine hN _ _ ⟨rfl,some d.d,?_⟩
      rw [ct,if_neg sp]
      rfl
  ·rw [decide_eq_false p] at ct ⊢
   refine xN ?_
   walk_at "rd"
   refine hN _ _ ⟨rfl,some d.d,?_⟩
   rw [ct]
   rfl
 ·rintro ρ M' ⟨rfl,y,rfl⟩
  refine ⟨hM,?_⟩
  rw [Vk,VZ]
  walk_at "rd"
  exact bO.mk ⟨_,Le.refl _,h⟩
theorem kU (T:Txt K mg t):Binds K t.gS ["a","b","c"] []:=T.fL.binds fun _ _ _ _ _ _ us hl=>match us,hl with | [_,_,_],_=>rfl
def uf:xu:=fun ds Q=> ∃ a b c:Pl,ds= [a.d,b.d,c.d]∧a.Ok 140∧b.Ok 140∧c.Ok 140∧tw a b c≠0∧Q (tD (tV a b c))
theorem kW (T:Txt K mg t):bD P w K mg base ff 3 t.iR t.gS ["a","b","c"] (vL K uf):=by
 refine A0 T.fL kQ (fun ds Q h=>by (first | (obtain ⟨_,rfl,_⟩:=h;rfl) | (obtain ⟨_,_,rfl,_⟩:=h;rfl) | (obtain ⟨_,_,_,rfl,_⟩:=h;rfl) | (obtain ⟨_,_,_,_,rfl,_⟩:=h;rfl) | (obtain ⟨_,_,_,_,_,rfl,_⟩:=h;rfl) | (obtain ⟨_,_,_,_,_,_,rfl,_⟩:=h;rfl) | (obtain ⟨_,_,_,_,_,_,_,rfl,_⟩:=h;rfl))) (fun cdv A outer s H hr=>?_)
 have hu:=hr.units
 refine ⟨_,(ao (aX (i:=3) kQ.nd rfl (Or.inl rfl) (cj j8 (by rfl) T.eg bX (af (dc (af (aa 0) (af (aa 1) (af (aa 2) ak)))) ak)))
  (ao (cH (aW (tS hu) (aJ (oB T) (hr.mono (by decide)) (by rfl) T.sV T.mT.kp (oA T) (af (aT (aa 3) ai) (af (aT (aa 3) ai) (af (aT (aa 3) ai) ak)))) ai (aK _)) (aB (aG (cQ (af (aT (aa 3) ai) (af (aT (aa 3) ai) (af (aT (aa 3) ai) ak)))))) bx)
  (aB (aG (cQ (af (aT (aa 3) ai) (af (aT (aa 3) ai) (af (aT (aa 3) ai) ak)))))))),fun ds Q h=>?_⟩
 obtain ⟨a,b,c,rfl,ha,hb,hc,hn,h⟩:=h
 walk_at "rd"
 intro l hl
 refine ⟨l,[a,b,c],rfl,ah,by show 3 < 64;decide,fun p qs hp aS lZ=>?_⟩
 obtain ⟨u,v,w,rfl⟩:=nI aS.length_eq
 obtain ⟨ou,ov,ow⟩:=xY aS ha hb hc
 rw [zN hn aS lZ] at h
 walk_at "rd"
 refine ⟨_,_,_,.inr (.inr ⟨p,rfl,ah⟩),rfl,rfl,?_⟩
 walk_at "rd"
 refine ⟨_,_,_,.inr (.inr ⟨p,rfl,ah⟩),rfl,rfl,?_⟩
 walk_at "rd"
 refine ⟨_,_,_,.inr (.inr ⟨p,rfl,ah⟩),rfl,rfl,?_⟩
 walk_at "rd"
 refine ⟨ou,ov,ow,?_⟩
 walk_at "rd"
 refine fR (fun k=>?_) (fun k=>?_)
 ·rw [if_pos (JP k)] at h
  walk_at "rd"
  refine ⟨_,_,_,.inr (.inr ⟨p,rfl,ah⟩),rfl,rfl,?_⟩
  walk_at "rd"
  refine ⟨_,_,_,.inr (.inr ⟨p,rfl,ah⟩),rfl,rfl,?_⟩
  walk_at "rd"
  refine ⟨_,_,_,.inr (.inr ⟨p,rfl,ah⟩),rfl,rfl,?_⟩
  walk_at "rd"
  exact h
 ·rw [if_neg (GA k)] at h
  walk_at "rd"
  refine ⟨_,_,_,.inr (.inr ⟨p,rfl,ah⟩),rfl,rfl,?_⟩
  walk_at "rd"
  refine ⟨_,_,_,.inr (.inr ⟨p,rfl,ah⟩),rfl,rfl,?_⟩
  walk_at "rd"
  refine ⟨_,_,_,.inr (.inr ⟨p,rfl,ah⟩),rfl,rfl,?_⟩
  walk_at "rd"
  exact h
theorem lD (T:Txt K mg t):Binds K t.c7 ["first","second"] []:=T.dR.binds fun _ _ _ _ _ _ us hl=>match us,hl with | [_,_],_=>rfl
def mV:uE:=fun ds M Q=> ∃ (f g:Addr),ds= [.ref f,.ref g]∧∃ (F S:List Pl),M f=some (.lst (F.map Pl.d))∧M g=some (.lst (S.map Pl.d))∧cE (F ++ S)∧(F ++ S).length≤20∧(∀ q∈F ++ S,q.Ok 140)∧∀ (r:Addr) (us:List (List Pl)) (M':Mp),M r=none→Le M M'→M' r=some (.lst (us.map tD))→wJ (F ++ S) F S us→Q (.ref r) M'
theorem lE (T:Txt K mg t):bD P w K mg base ff 7 t.dQ t.c7 ["first","second"] (mZ K mV):=by
 refine zE T.dR bu (fun ds M Q h=>by (first | (obtain ⟨_,rfl,_⟩:=h;rfl) | (obtain ⟨_,_,rfl,_⟩:=h;rfl) | (obtain ⟨_,_,_,rfl,_⟩:=h;rfl) | (obtain ⟨_,_,_,_,rfl,_⟩:=h;rfl) | (obtain ⟨_,_,_,_,_,rfl,_⟩:=h;rfl) | (obtain ⟨_,_,_,_,_,_,rfl,_⟩:=h;rfl) | (obtain ⟨_,_,_,_,_,_,_,rfl,_⟩:=h;rfl))) (fun cdv A outer s H hr=>?_)
 have hu:=hr.units
 refine ⟨_,(ao (aX (i:=2) bu.nd rfl (Or.inl rfl) (bz (qu T) (hr.mono (by decide)) (by rfl) T.sW T.gX.kp (qq T) (af (aa 0) (af (aa 1) ak))))
  (ao (cH (aW HS (aa 2) xP (aK _)) (aB (aG (dc ak))) bx)
  (ao (aX (i:=3) bu.nd rfl (Or.inl rfl) (dc ak))
  (ao (aX (i:=4) bu.nd rfl (Or.inl rfl) (bz (l6 T) (hr.mono (by decide)) (by rfl) T.oh T.gw.kp (l5 T) (af (au lT (aa 0) (aa 1)) (af (aa 2) ak))))
  (ao (AZ PassesOwn.never (aW JK (aa 4) xP (aK _)) (ao (mD (uF (aa 3) (aJ (kW T) (hr.mono (by decide)) (by rfl) T.lW T.fL.kp (kU T) (af (aT (aa 2) ai) (af (aT (aa 2) ai) (af (aa 4) ak)))) (uz PySem.F.plainAttrs_list PySem.F.slot_list_append PySem.F.type_list_append fm (cg.dn (aa 3)) (jl (cg.dn (aJ (kW T) (hr.mono (by decide)) (by rfl) T.lW T.fL.kp (kU T) (af (aT (aa 2) ai) (af (aT (aa 2) ai) (af (aa 4) ak))))) l8))))
  (ao (aX (i:=2) bu.nd rfl (Or.inl rfl) (LA (aW (zB hu) (aa 4) (aa 0) (by with_unfolding_all rfl)) (cQ (af (aa 4) (af (aT (aa 2) ai) ak))) (cQ (af (aT (aa 2) ai) (af (aa 4) ak)))))
  (aB (aX (i:=4) bu.nd rfl (Or.inl rfl) (bz (l6 T) (hr.mono (by decide)) (by rfl) T.oh T.gw.kp (l5 T) (af (au lT (aa 0) (aa 1)) (af (aa 2) ak))))))))
  (aB (aG (cj (o4 (n:=3) (.inr rfl) hu) (by rfl) T.eg bX (af (aa 3) ak))))))))),fun ds M Q h=>?_⟩
 obtain ⟨f,g,rfl,F,S,hF,hG,m5,lq,ho,h⟩:=h
 have sl:(1000:Nat) < sizeLine:=by decide
 obtain ⟨T,v⟩:=An m5
 obtain ⟨ns,Na,mem⟩:=mR (F ++ S)
 have kv:=sE m5 Na mem
 have bf:∀ p∈F,∀ q∈S,aI p q:=(Ws.mp m5.1).2.2
 obtain ⟨H,ht⟩:=fB (F ++ S)
 walk_at "rd"
 refine ⟨F,S,hF,hG,m5,lq,ho,fun no=>?_,fun x hx y hy sd=>?_⟩
 ·walk_at "rd"
  intro r hr
  walk_at "rd"
  exact bO.mk ⟨_,Le.refl _,h r [] _ hr (Le.new hr) ah ⟨.nil,fun t=>⟨fun z=>(by cases z),fun z=>absurd z.2 (EZ v kv no ((mem t).mpr z.1))⟩,.nil,by simp⟩⟩
 ·walk_at "rd"
  intro ac hac
  have le:=Le.new (o:=MO.lst []) hac
  have CU:ay M ac (.lst []) ac=some (.lst []):=ah
  generalize ay M ac (.lst [])=M1 at le CU ⊢
  have Qj:=lq
  rw [VA] at Qj
  have Il:∀ {q},q∈F→q∈F ++ S:=fun {q} h=>Vq _ h
  have Im:∀ {q},q∈S→q∈F ++ S:=fun {q} h=>Vw _ h
  walk_at "rd"
  refine ⟨f,g,_,_,rfl,rfl,le _ _ hF,le _ _ hG,by rw [Vk,Vk];omega,fun u ia=>?_⟩
  rw [← VM]
  have hU:ay M1 u (.lst ((F ++ S).map Pl.d)) u=some (.lst ((F ++ S).map Pl.d)):=ah
  have CU:=av (u:=MO.lst ((F ++ S).map Pl.d)) CU ia
  have le:=le.trans (Le.new (o:=MO.lst ((F ++ S).map Pl.d)) ia)
  generalize ay M1 u (.lst ((F ++ S).map Pl.d))=M2 at hU CU le ⊢
  walk_at "rd"
  refine ⟨F ++ S,hU,ho,ho x (Il hx),ho y (Im hy),⟨F ++ S,H,ht,Il hx,Im hy,fun d hd=>hd⟩,?_⟩
  walk_at "rd"
  refine ⟨fun m ρ M'=> ∃ (ts:List (List Pl)) (a b:Pl),ρ= [some (.ref f),some (.ref g),some (tD [a,b]),some (.ref ac),some (CK (vh a b (F ++ S)))]∧Le M M'∧M' ac=some (.lst (ts.map tD))∧CS (F ++ S) F S ns T x y ts a b∧m=100 - ts.length,⟨_,[],x,y,rfl,le,CU,CS.begin sd hx hy,rfl⟩,?_⟩
  rintro m ρ M' ⟨ts,a,b,rfl,le,CU,ch,rfl⟩
  have ha:=Il ch.ha
  have hb:=Im ch.hb
  have UB:ts.length≤44:=wJ.short m5 lq ch.nd fun t ht=>(mem t).mp (ch.sub t ht).1
  rcases Hh (rs:=F ++ S) ht kv mem ha hb ch.GI (fun d=>Iff.rfl) with ⟨ec,no⟩ | ⟨c,ec,hc,pc,t0,h0,r0⟩
  ·rw [ec]
   walk_at "rd"
   refine ⟨ac,ts,rfl,CU,fun t ht=>?_,by omega,fun r us hr pu su=>?_⟩
   ·obtain ⟨_,_,_,rfl,_⟩:=(kv.bK t (ch.sub t ht).1).parts
    rfl
   have mr:M r=none:=by
    cases e:M r with
    | none=>rfl
    | some o=>rw [le _ _ e] at hr;cases hr
   have la:=ch.last v kv bf sd hx hy no
   walk_at "rd"
   exact bO.mk ⟨_,Le.refl _,h r us _ mr (le.trans (Le.new hr)) ah (wJ.of m5 lq ch.nd (fun t=>(la t).trans (and_congr_left' (mem t))) pu su)⟩
  ·rw [ec,show CK (some c)=c.d from rfl]
   obtain ⟨fresh,nF,nS⟩:=ch.step v kv h0 r0
   have et:t0=tV a b c:=(nN (kv.bK t0 h0).1 r0.perm).2
   walk_at "rd"
   refine ⟨⟨ac,_,rfl,CU⟩,?_⟩
   walk_at "rd"
   refine ⟨ho a ha,ho b hb,ho c hc,by omega,?_⟩
   refine ⟨ac,_,rfl,CU,by rw [Vk];omega,?_⟩
   rw [show ts.map tD ++ [tD (tV a b c)]=(ts ++ [t0]).map tD by rw [VM,et];rfl]
   have CU:=ah (M:=M') (a:=ac) (o:=MO.lst ((ts ++ [t0]).map tD))
   have le:Le M (ay M' ac (.lst ((ts ++ [t0]).map tD))):=fun z o e=>by
    rw [aE (fun y=>by rw [y,hac] at e;cases e)]
    exact le _ _ e
   generalize ay M' ac (.lst ((ts ++ [t0]).map tD))=M3 at CU le ⊢
   walk_at "rd"
   refine ⟨_,.inr ⟨f,rfl,le _ _ hF⟩,rfl,bB F,?_⟩
   rw [if_neg (by decide),gn]
   have fin:∀ (a' b':Pl) (u:Addr),M3 u=none→CS (F ++ S) F S ns T x y (ts ++ [t0]) a' b'→∃ m',m' < 100 - ts.length∧∃ (ts:List (List Pl)) (a b:Pl),[some (.ref f),some (.ref g),some (tD [a',b']),some (.ref ac),some (CK (vh a' b' (F ++ S)))]= [some (.ref f),some (.ref g),some (tD [a,b]),some (L3.D.ref ac),some (CK (vh a b (F ++ S)))]∧Le M (ay M3 u (.lst ((F ++ S).map Pl.d)))∧ay M3 u (.lst ((F ++ S).map Pl.d)) ac=some (.lst (ts.map tD))∧CS (F ++ S) F S ns T x y ts a b∧m'=100 - ts.length:=fun a' b' u ia ch'=>⟨_,by rw [VA,Xk];omega,ts ++ [t0],a',b',rfl,le.trans (Le.new ia),av CU ia,ch',rfl⟩
   by_cases kc:c∈F
   ·rw [decide_eq_true kc]
    walk_at "rd"
    refine ⟨f,g,_,_,rfl,rfl,le _ _ hF,le _ _ hG,by rw [Vk,Vk];omega,fun u ia=>?_⟩
    rw [← VM]
    walk_at "rd"
    refine ⟨F ++ S,ah,ho,ho c hc,ho b hb,⟨F ++ S,H,ht,hc,hb,fun d hd=>hd⟩,?_⟩
    walk_at "rd"
    exact bO.mk (fin c b u ia (nF kc))
   ·rw [decide_eq_false kc]
    have Th:c∈S:=((v.mem c).mp hc).resolve_left kc
    walk_at "rd"
    refine ⟨f,g,_,_,rfl,rfl,le _ _ hF,le _ _ hG,by rw [Vk,Vk];omega,fun u ia=>?_⟩
    rw [← VM]
    walk_at "rd"
    refine ⟨F ++ S,ah,ho,ho a ha,ho c hc,⟨F ++ S,H,ht,ha,hc,fun d hd=>hd⟩,?_⟩
    walk_at "rd"
    exact bO.mk (fin a c u ia (nS Th))
theorem vz (T:Txt K mg t):Binds K t.cZ ["places"] []:=T.oi.binds fun _ _ _ _ _ _ us hl=>match us,hl with | [_],_=>rfl
def gY (n:Nat):uE:=fun ds M Q=>0 < n∧∃ (l:Addr) (ps:List Pl),ds= [.ref l]∧M l=some (.lst (ps.map Pl.d))∧ps.Nodup∧ps.length≤2*n∧ps.length≤20∧(∀ q∈ps,q.Ok 140)∧∀ (a b c:Addr) (qs:List Pl) (us vs ws:List (List Pl)) (M':Mp),M a=none→M b=none→M c=none→a≠b→a≠c→b≠c→Le M M'→qs.Perm ps→cE qs→M' a=some (.lst (us.map tD))→M' b=some (.lst (vs.map tD))→M' c=some (.lst (ws.map tD))→E1 (qs.take (ps.length / 2)) us→E1 (qs.drop (ps.length / 2)) vs→wJ qs (qs.take (ps.length / 2)) (qs.drop (ps.length / 2)) ws→Q (.tup [.ref a,.ref b,.ref c]) M'
def cC (n:Nat):uE:=fun ds M Q=> ∃ (l:Addr) (ps:List Pl),ds= [.ref l]∧M l=some (.lst (ps.map Pl.d))∧ps.Nodup∧ps.length≤n∧ps.length≤20∧(∀ q∈ps,q.Ok 140)∧∀ (r:Addr) (us:List (List Pl)) (M':Mp),M r=none→Le M M'→M' r=some (.lst (us.map tD))→E1 ps us→Q (.ref r) M'
theorem mW (T:Txt K mg t) {L n m:Nat} (hL:8≤L) (hm:m=n) (ih:bD P w K mg base ff L t.bL t.bC ["places"] (mZ K (cC n))):bD P w K mg base ff (L+1) t.eO t.cZ ["places"] (mZ K (gY m)):=by
 refine zE T.oi vo (fun ds M Q h=>by (first | (obtain ⟨_,rfl,_⟩:=h;rfl) | (obtain ⟨_,_,rfl,_⟩:=h;rfl) | (obtain ⟨_,_,_,rfl,_⟩:=h;rfl) | (obtain ⟨_,_,_,_,rfl,_⟩:=h;rfl) | (obtain ⟨_,_,_,_,_,rfl,_⟩:=h;rfl) | (obtain ⟨_,_,_,_,_,_,rfl,_⟩:=h;rfl) | (obtain ⟨_,_,_,_,_,_,_,rfl,_⟩:=h;rfl))) (fun cdv A outer s H hr=>?_)
 have hu:=hr.units
 refine ⟨_,(ao (aX (i:=1) vo.nd rfl (Or.inl rfl) (bz (vq T) (hr.mono (by omega)) (by rfl) T.yK T.nY.kp (vp T) (af (aa 0) ak)))
  (aB (aG (cQ (af (bz ih (hr.mono (by omega)) (by rfl) T.jE T.eV.kp (iZ T) (af (aT (aa 1) ai) ak)) (af (bz ih (hr.mono (by omega)) (by rfl) T.jE T.eV.kp (iZ T) (af (aT (aa 1) ai) ak)) (af (bz (lE T) (hr.mono (by omega)) (by rfl) T.mU T.dR.kp (lD T) (af (aT (aa 1) ai) (af (aT (aa 1) ai) ak))) ak))))))),fun ds M Q h=>?_⟩
 obtain ⟨n0,l,ps,rfl,hM,nd,lp,Ro,ho,h⟩:=h
 subst hm
 walk_at "rd"
 refine ⟨l,ps,rfl,hM,by omega,fun a b qs M1 yT aS hso hA hB=>?_⟩
 have NN:qs.Nodup:=aS.nodup_iff.mpr nd
 have ze:∀ q∈qs,q.Ok 140:=fun q hq=>ho q (aS.mem_iff.mp hq)
 have m5:cE qs:=⟨uW hso NN,fun q hq=>(ze q hq).2⟩
 have lq:=aS.length_eq
 have Nf:qs.take (ps.length / 2) ++ qs.drop (ps.length / 2)=qs:=W4 _ _
 have l1:(qs.take (ps.length / 2)).length=ps.length / 2:=by rw [Wq];omega
 have l2:(qs.drop (ps.length / 2)).length=ps.length - ps.length / 2:=by rw [Wh];omega
 generalize qs.take (ps.length / 2)=F at *
 generalize qs.drop (ps.length / 2)=S at *
 subst Nf
 obtain ⟨nF,nS,_⟩:=VU.mp NN
 walk_at "rd"
 refine ⟨a,F,rfl,hA,nF,by omega,by omega,fun q hq=>ze q (Vq _ hq),fun r1 us M2 f1 tH Hv k1=>?_⟩
 have hA:=tH _ _ hA
 have hB:=tH _ _ hB
 walk_at "rd"
 refine ⟨b,S,rfl,hB,nS,by omega,by omega,fun q hq=>ze q (Vw _ hq),fun r2 vs M3 f2 qM Hw k2=>?_⟩
 have hA:=qM _ _ hA
 have hB:=qM _ _ hB
 have Rp:r1≠r2:=fun z=>by rw [← z,Hv] at f2;cases f2
 have Hv:=qM _ _ Hv
 walk_at "rd"
 refine ⟨F,S,hA,hB,m5,by omega,ze,fun r3 ws M4 f3 CT CV k3=>?_⟩
 have Rq:r1≠r3:=fun z=>by rw [← z,Hv] at f3;cases f3
 have Rr:r2≠r3:=fun z=>by rw [← z,Hw] at f3;cases f3
 walk_at "rd"
 exact bO.mk ⟨_,Le.refl _,h r1 r2 r3 (F ++ S) us vs ws _ (yT.free f1) ((yT.trans tH).free f2) (((yT.trans tH).trans qM).free f3) Rp Rq Rr (((yT.trans tH).trans qM).trans CT) aS m5 (CT _ _ Hv) (CT _ _ Hw) CV (by rw [YC l1];exact k1) (by rw [YD l1];exact k2) (by rw [YC l1,YD l1];exact k3)⟩
theorem e9 (T:Txt K mg t) {L n m:Nat} (hL:8≤L) (hm:m≤2∨(0 < n∧m≤2*n)) (ih:bD P w K mg base ff L t.eO t.cZ ["places"] (mZ K (gY n))):bD P w K mg base ff (L+1) t.bL t.bC ["places"] (mZ K (cC m)):=by
 refine zE T.eV dD (fun ds M Q h=>by (first | (obtain ⟨_,rfl,_⟩:=h;rfl) | (obtain ⟨_,_,rfl,_⟩:=h;rfl) | (obtain ⟨_,_,_,rfl,_⟩:=h;rfl) | (obtain ⟨_,_,_,_,rfl,_⟩:=h;rfl) | (obtain ⟨_,_,_,_,_,rfl,_⟩:=h;rfl) | (obtain ⟨_,_,_,_,_,_,rfl,_⟩:=h;rfl) | (obtain ⟨_,_,_,_,_,_,_,rfl,_⟩:=h;rfl))) (fun cdv A outer s H hr=>?_)
 have hu:=hr.units
 refine ⟨_,(ao (cH (aW (lP hu) (cj jG (by rfl) T.gg bV (af (aa 0) ak)) ai (aK _)) (aB (aG (dc ak))) bx)
  (ao (aX (i:=1) dD.nd rfl (Or.inr rfl) (bz (vq T) (hr.mono (by omega)) (by rfl) T.yK T.nY.kp (vp T) (af (aa 0) ak)))
  (ao (aX (i:=2) dD.nd rfl (Or.inl rfl) (bz ih (hr.mono (by omega)) (by rfl) T.yN T.oi.kp (vz T) (af (aa 0) ak)))
  (ao (Mm (j:=3) (rH (ys:=["parts"]) (fs:=[1]) rfl (by show cW (aq eE) ["places","parts","nets","first","second"] _ _ _ _=true;decide +kernel) (aT (aa 2) ai) (fun cl C s0 H0 ex=>p7 (k_not (c8 (bz (oF T) (hr.mono (by omega)) (by rfl) T.qb T.iz.kp (oE T) (af (aT (aa 1) ai) (af (aa 0) ak)))))) (fun cl C s0 H0 ex=>(aa 0))) dD.nd rfl (Or.inl rfl))
  (ao (Mm (j:=4) (rH (ys:=["parts"]) (fs:=[1]) rfl (by show cW (aq eE) ["places","parts","nets","first","second"] _ _ _ _=true;decide +kernel) (aT (aa 2) ai) (fun cl C s0 H0 ex=>p7 (k_not (c8 (bz (oF T) (hr.mono (by omega)) (by rfl) T.qb T.iz.kp (oE T) (af (aT (aa 1) ai) (af (aa 0) ak)))))) (fun cl C s0 H0 ex=>(aa 0))) dD.nd rfl (Or.inl rfl))
  (aB (aG (cj (o4 (n:=3) (.inr rfl) hu) (by rfl) T.eg bX (af (au lT (au lT (aa 3) (aa 4)) (aT (aa 2) ai)) ak))))))))),fun ds M Q h=>?_⟩
 obtain ⟨l,ps,rfl,hM,nd,lp,Ro,ho,h⟩:=h
 have sl:(1000:Nat) < sizeLine:=by decide
 walk_at "rd"
 refine ⟨_,_,rfl,.inr (.inr ⟨l,rfl,hM⟩),?_⟩
 walk_at "rd"
 rw [Vk]
 refine fR (fun k=>?_) (fun k=>?_)
 ·have k:ps.length < 3:=by have:=of_decide_eq_true k;omega
  walk_at "rd"
  intro r hr
  walk_at "rd"
  refine bO.mk ⟨_,Le.refl _,h r [] _ hr (Le.new hr) ah ⟨.nil,fun t=>⟨fun z=>(by cases z),fun z=>?_⟩,.nil,by simp⟩⟩
  obtain ⟨a,b,c,rfl,_,ha,hb,hc,n1,n2,n3⟩:=z.1.parts
  have:=sJ (l:=[a,b,c]) (m:=ps) (by simp [n1,n2,n3.symm]) (fun x hx=>by
   simp only [Vl,VY,or_false] at hx
   rcases hx with rfl | rfl | rfl <;> assumption)
  simp only [VN,WL] at this
  omega
 have k:3≤ps.length:=by
  apply Vi
  intro z
  exact k (decide_eq_true (by omega))
 have n0:0 < n:=by omega
 walk_at "rd"
 refine ⟨l,ps,rfl,hM,by omega,fun a b qs M1 yT aS hso hA hB=>?_⟩
 have hM:=yT _ _ hM
 walk_at "rd"
 refine ⟨n0,l,ps,rfl,hM,nd,by omega,Ro,ho,fun r1 r2 r3 mX us vs ws M2 f1 f2 f3 Rp Rq Rr tH AA m5 Hv Hw CV k1 k2 k3=>?_⟩
 obtain rfl:mX=qs:=nP (AA.trans aS.symm) (m5.1.imp fun h=>az h) hso
 have le:=yT.trans tH
 have hA:=tH _ _ hA
 have hB:=tH _ _ hB
 have ze:∀ q∈mX,q.Ok 140:=fun q hq=>ho q (aS.mem_iff.mp hq)
 have lq:=aS.length_eq
 have Nf:mX.take (ps.length / 2) ++ mX.drop (ps.length / 2)=mX:=W4 _ _
 generalize mX.take (ps.length / 2)=F at *
 generalize mX.drop (ps.length / 2)=S at *
 subst Nf
 obtain ⟨T,v⟩:=An m5
 obtain ⟨nn,mm,ll⟩:=CH v m5 (by omega) k1 k2 k3
 obtain ⟨nu,mu,su,lu⟩:=k1
 obtain ⟨nv,mv,sv,lv⟩:=k2
 obtain ⟨nw,mw,sw,lw⟩:=k3
 walk_at "rd"
 refine ⟨r1,_,rfl,Hv,by rw [Vk];omega,bO.mk (dX (fun j acc M4=>M4=M2∧acc=((us.take j).filter (fun t=>!vn S t)).map tD) _ ?_ ?_ ⟨rfl,rfl⟩)⟩
 ·rintro j x acc M4 N2 yU ⟨rfl,rfl⟩ qN
  obtain ⟨t,ht,rfl⟩:=jr yU
  obtain ⟨x1,x2,x3,rfl,pt,h1,h2,h3,_⟩:=((mu t).mp (Vy ht)).1.parts
  refine ⟨Hv,?_⟩
  walk_at "rd"
  refine ⟨b,S,x1,x2,x3,rfl,hB,fun q hq=>ze q (Vw _ hq),ze x1 (Vq _ h1),ze x2 (Vq _ h2),ze x3 (Vq _ h3),by omega,?_⟩
  rw [show JQ S x1 x2 x3=vn S [x1,x2,x3] from rfl]
  walk_at "rd"
  cases e:vn S [x1,x2,x3] with
  | true=>
    walk_at "rd"
    refine qN _ _ ⟨rfl,?_⟩
    rw [dZ ht,if_neg (by rw [e];simp),WE]
  | false=>
    walk_at "rd"
    refine qN _ _ ⟨rfl,?_⟩
    rw [dZ ht,if_pos (by rw [e];rfl),VM]
    rfl
 rintro acc M4 ⟨rfl,hacc⟩
 rw [Vk,VZ] at hacc
 subst hacc
 refine ⟨Hv,fun c hc=>?_⟩
 generalize us.filter (fun t=>!vn S t)=fs at *
 have hC:ay M4 c (.lst (fs.map tD)) c=some (.lst (fs.map tD)):=ah
 have hA:=av (u:=MO.lst (fs.map tD)) hA hc
 have Hw:=av (u:=MO.lst (fs.map tD)) Hw hc
 have CV:=av (u:=MO.lst (fs.map tD)) CV hc
 have le:=le.trans (Le.new (o:=MO.lst (fs.map tD)) hc)
 generalize ay M4 c (.lst (fs.map tD))=M5 at hC hA Hw CV le ⊢
 walk_at "rd"
 refine ⟨r2,_,rfl,Hw,by rw [Vk];omega,bO.mk (dX (fun j acc M4=>M4=M5∧acc=((vs.take j).filter (fun t=>!vn F t)).map tD) _ ?_ ?_ ⟨rfl,rfl⟩)⟩
 ·rintro j x acc M4 N2 yU ⟨rfl,rfl⟩ qN
  obtain ⟨t,ht,rfl⟩:=jr yU
  obtain ⟨x1,x2,x3,rfl,pt,h1,h2,h3,_⟩:=((mv t).mp (Vy ht)).1.parts
  refine ⟨Hw,?_⟩
  walk_at "rd"
  refine ⟨a,F,x1,x2,x3,rfl,hA,fun q hq=>ze q (Vq _ hq),ze x1 (Vw _ h1),ze x2 (Vw _ h2),ze x3 (Vw _ h3),by omega,?_⟩
  rw [show JQ F x1 x2 x3=vn F [x1,x2,x3] from rfl]
  walk_at "rd"
  cases e:vn F [x1,x2,x3] with
  | true=>
    walk_at "rd"
    refine qN _ _ ⟨rfl,?_⟩
    rw [dZ ht,if_neg (by rw [e];simp),WE]
  | false=>
    walk_at "rd"
    refine qN _ _ ⟨rfl,?_⟩
    rw [dZ ht,if_pos (by rw [e];rfl),VM]
    rfl
 rintro acc M6 ⟨rfl,hacc⟩
 rw [Vk,VZ] at hacc
 subst hacc
 refine ⟨Hw,fun d hd=>?_⟩
 generalize vs.filter (fun t=>!vn F t)=ss at *
 have hD:ay M6 d (.lst (ss.map tD)) d=some (.lst (ss.map tD)):=ah
 have hC:=av (u:=MO.lst (ss.map tD)) hC hd
 have CV:=av (u:=MO.lst (ss.map tD)) CV hd
 have le:=le.trans (Le.new (o:=MO.lst (ss.map tD)) hd)
 generalize ay M6 d (.lst (ss.map tD))=M7 at hC hD CV le ⊢
 have Ti:=ll
 rw [VA,VA] at Ti
 walk_at "rd"
 refine ⟨c,d,_,_,rfl,rfl,hC,hD,by rw [Vk,Vk];omega,fun e he=>?_⟩
 rw [← VM]
 have hE:ay M7 e (.lst ((fs ++ ss).map tD)) e=some (.lst ((fs ++ ss).map tD)):=ah
 have CV:=av (u:=MO.lst ((fs ++ ss).map tD)) CV he
 have le:=le.trans (Le.new (o:=MO.lst ((fs ++ ss).map tD)) he)
 generalize ay M7 e (.lst ((fs ++ ss).map tD))=M8 at hE CV le ⊢
 walk_at "rd"
 refine ⟨e,r3,_,_,rfl,rfl,hE,CV,by rw [Vk,Vk,VA];omega,fun g hg=>?_⟩
 rw [← VM]
 have hG:ay M8 g (.lst ((fs ++ ss ++ ws).map tD)) g=some (.lst ((fs ++ ss ++ ws).map tD)):=ah
 have le:=le.trans (Le.new (o:=MO.lst ((fs ++ ss ++ ws).map tD)) hg)
 generalize ay M8 g (.lst ((fs ++ ss ++ ws).map tD))=M9 at hG le ⊢
 walk_at "rd"
 refine ⟨g,_,rfl,hG,fun t ht=>?_,by omega,fun r xs hr px sx=>?_⟩
 ·obtain ⟨_,_,_,rfl,_⟩:=((mm t).mp ht).1.parts
  rfl
 walk_at "rd"
 refine bO.mk ⟨_,Le.refl _,h r xs _ (le.free hr) (le.trans (Le.new hr)) ah ⟨px.nodup_iff.mpr nn,fun t=>(px.mem_iff.trans (mm t)).trans ?_,sx,by rw [px.length_eq];exact ll⟩⟩
 exact and_congr ⟨fun c=>⟨c.1,fun q m=>aS.mem_iff.mp (c.2 q m)⟩,fun c=>⟨c.1,fun q m=>aS.mem_iff.mpr (c.2 q m)⟩⟩ ⟨fun c d hd=>c d (aS.mem_iff.mpr hd),fun c d hd=>c d (aS.mem_iff.mp hd)⟩
theorem yV (T:Txt K mg t):bD P w K mg base ff 8 t.eO t.cZ ["places"] (mZ K (gY 0)):=EC fun _ _ _ h=>by obtain ⟨h,_⟩:=h;omega
theorem qv (T:Txt K mg t):bD P w K mg base ff 9 t.bL t.bC ["places"] (mZ K (cC 2)):=e9 T (by decide) (by decide) (yV T)
theorem yW (T:Txt K mg t):bD P w K mg base ff 10 t.eO t.cZ ["places"] (mZ K (gY 2)):=mW T (by decide) rfl (qv T)
theorem qw (T:Txt K mg t):bD P w K mg base ff 11 t.bL t.bC ["places"] (mZ K (cC 4)):=e9 T (by decide) (by decide) (yW T)
theorem yX (T:Txt K mg t):bD P w K mg base ff 12 t.eO t.cZ ["places"] (mZ K (gY 4)):=mW T (by decide) rfl (qw T)
theorem qz (T:Txt K mg t):bD P w K mg base ff 13 t.bL t.bC ["places"] (mZ K (cC 8)):=e9 T (by decide) (by decide) (yX T)
theorem qe (T:Txt K mg t):bD P w K mg base ff 14 t.eO t.cZ ["places"] (mZ K (gY 8)):=mW T (by decide) rfl (qz T)
theorem qA (T:Txt K mg t):bD P w K mg base ff 15 t.bL t.bC ["places"] (mZ K (cC 16)):=e9 T (by decide) (by decide) (qe T)
theorem CL (T:Txt K mg t):bD P w K mg base ff 14 t.eO t.cZ ["places"] (mZ K (gY 8)):=qe T
theorem ug (T:Txt K mg t):bD P w K mg base ff 15 t.bL t.bC ["places"] (mZ K (cC 16)):=qA T
theorem iC (T:Txt K mg t):Binds K t.eS ["_law_found","_law_places"] []:=T.c6.binds fun _ _ _ _ _ _ us hl=>match us,hl with | [_,_],_=>rfl
def pT:uE:=fun ds M Q=> ∃ (f l:Addr) (fs:List (List Pl)) (ps:List Pl),ds= [.ref f,.ref l]∧M f=some (.lst (fs.map tD))∧M l=some (.lst (ps.map Pl.d))∧fs.length < 64∧fs.Pairwise (fun a b=>cy b a=false)∧(∀ t∈fs,dY t∧∀ p∈t,p∈ps)∧Q (.bl true) M
theorem iD (T:Txt K mg t):bD P w K mg base ff 1 t.fF t.eS ["_law_found","_law_places"] (mZ K pT):=by
 refine zE T.c6 eZ (fun ds M Q h=>by (first | (obtain ⟨_,rfl,_⟩:=h;rfl) | (obtain ⟨_,_,rfl,_⟩:=h;rfl) | (obtain ⟨_,_,_,rfl,_⟩:=h;rfl) | (obtain ⟨_,_,_,_,rfl,_⟩:=h;rfl) | (obtain ⟨_,_,_,_,_,rfl,_⟩:=h;rfl) | (obtain ⟨_,_,_,_,_,_,rfl,_⟩:=h;rfl) | (obtain ⟨_,_,_,_,_,_,_,rfl,_⟩:=h;rfl))) (fun cdv A outer s H hr=>?_)
 have hu:=hr.units
 refine ⟨_,(ao (cH (pW.pt (qk (k_not (c8 (cj uD (by rfl) T.cL bM (af (aa 0) (af (oS (by rfl) T.qL jn) ak))))) (lN (aW (oY hu) (aa 0) (cj (o4 (n:=3) (.inr rfl) hu) (by rfl) T.eg bX (af (aa 0) ak)) (aK _))))) (aB (aG gE)) bx)
  (ao (jY PassesOwn.never rfl (aa 0) (bF (i:=2) eZ.nd rfl (Or.inl rfl)) (ao (cH (pW.pt (qk (k_not (c8 (cj uD (by rfl) T.cL bM (af (aa 2) (af (oS (by rfl) T.sX jZ) ak))))) (lN (aW (BS hu) (cj jG (by rfl) T.gg bV (af (aa 2) ak)) ai (aK _))))) (aB (aG gE)) bx)
  (aB (Jw PassesOwn.never rfl (aa 2) (bF (i:=3) eZ.nd rfl (Or.inl rfl)) (ao (cH (pW.pt (qk (k_not (c8 (cj uD (by rfl) T.cL bM (af (aa 3) (af (oS (by rfl) T.sX jZ) ak))))) (lN (aW (nh hu) (aa 3) (aa 1) (by with_unfolding_all rfl))))) (aB (aG gE)) bx)
  (aB (cH (pW.pt (qk (c8 (cj uD (by rfl) T.cL bM (af (aT (aa 3) ai) (af (oS (by rfl) T.By q8) ak)))) (lN (c8 (cj uD (by rfl) T.cL bM (af (aT (aa 3) ai) (af (oS (by rfl) T.By q8) ak))))))) (aB (aG gE)) bx)))))))
  (aB (aG gE)))),fun ds M Q h=>?_⟩
 obtain ⟨f,l,fs,ps,rfl,hf,hM,h64,lZ,hfs,h⟩:=h
 walk_at "rd"
 refine ⟨_,_,_,true,rfl,.lst hf,nk,?_⟩
 walk_at "rd"
 refine ⟨f,fs,rfl,hf,fun t ht=>?_,h64,fun p gs hp aS hs2=>?_⟩
 ·obtain ⟨⟨u,v,w,rfl,_⟩,_⟩:=hfs t ht
  rfl
 obtain rfl:=kr aS hs2 lZ
 refine ⟨_,_,.of (av hf hp),.of ah,cI _,cI _,?_⟩
 walk_at "rd"
 rw [fy (cI _)]
 refine xN ?_
 have hf2:=av (u:=MO.lst (gs.map tD)) hf hp
 have Jz:=av (u:=MO.lst (gs.map tD)) hM hp
 have le:Le M (ay M p (.lst (gs.map tD))):=Le.new hp
 generalize ay M p (.lst (gs.map tD))=M2 at hf2 Jz le ⊢
 walk_at "rd"
 refine ⟨f,_,rfl,hf2,?_⟩
 refine bP (fun i ρ M'=>M'=M2∧∃ y1 y2:Option L3.D,ρ= [some (.ref f),some (.ref l),y1,y2]) _ ?_ ?_ ⟨rfl,_,_,rfl⟩
 ·rintro i x ρ M' N hx ⟨rfl,y1,y2,rfl⟩ hN
  obtain ⟨t,ht,rfl⟩:=jr hx
  obtain ⟨⟨u,v,w,rfl,_⟩,hmem⟩:=hfs t (Vy ht)
  refine ⟨hf2,?_⟩
  walk_at "rd"
  refine ⟨_,.inr ⟨l,rfl,Jz⟩,rfl,bB ps,?_⟩
  walk_at "rd"
  rw [if_pos rfl,gn,decide_eq_true (hmem u (by simp))]
  refine xN ?_
  walk_at "rd"
  refine ⟨_,_,_,false,rfl,.int _,by rfl,?_⟩
  walk_at "rd"
  refine ⟨_,_,_,false,rfl,.int _,by rfl,?_⟩
  walk_at "rd"
  refine ⟨_,.inr ⟨l,rfl,Jz⟩,rfl,bB ps,?_⟩
  walk_at "rd"
  rw [if_pos rfl,gn,decide_eq_true (hmem v (by simp))]
  refine xN ?_
  walk_at "rd"
  refine ⟨_,_,_,false,rfl,.int _,by rfl,?_⟩
  walk_at "rd"
  refine ⟨_,_,_,false,rfl,.int _,by rfl,?_⟩
  walk_at "rd"
  refine ⟨_,.inr ⟨l,rfl,Jz⟩,rfl,bB ps,?_⟩
  walk_at "rd"
  rw [if_pos rfl,gn,decide_eq_true (hmem w (by simp))]
  refine xN ?_
  walk_at "rd"
  refine ⟨_,_,_,false,rfl,.int _,by rfl,?_⟩
  walk_at "rd"
  refine ⟨_,_,_,false,rfl,.int _,by rfl,?_⟩
  walk_at "rd"
  exact hN _ _ ⟨rfl,_,_,rfl⟩
 ·rintro ρ M' ⟨rfl,y1,y2,rfl⟩
  refine ⟨hf2,?_⟩
  walk_at "rd"
  exact bO.mk ⟨_,le,h⟩
theorem dH (T:Txt K mg t):Binds K t.iS ["_law_a","_law_b","_law_c"] []:=T.cB.binds fun _ _ _ _ _ _ us hl=>match us,hl with | [_,_,_],_=>rfl
def xm:xu:=fun ds Q=> ∃ a b c:Pl,ds= [a.d,b.d,c.d]∧a.Ok 140∧b.Ok 140∧c.Ok 140∧Q (.int (tw a b c))
theorem dI (T:Txt K mg t):bD P w K mg base ff 1 t.jA t.iS ["_law_a","_law_b","_law_c"] (vL K xm):=by
 refine A0 T.cB ud (fun ds Q h=>by (first | (obtain ⟨_,rfl,_⟩:=h;rfl) | (obtain ⟨_,_,rfl,_⟩:=h;rfl) | (obtain ⟨_,_,_,rfl,_⟩:=h;rfl) | (obtain ⟨_,_,_,_,rfl,_⟩:=h;rfl) | (obtain ⟨_,_,_,_,_,rfl,_⟩:=h;rfl) | (obtain ⟨_,_,_,_,_,_,rfl,_⟩:=h;rfl) | (obtain ⟨_,_,_,_,_,_,_,rfl,_⟩:=h;rfl))) (fun cdv A outer s H hr=>?_)
 have hu:=hr.units
 refine ⟨_,(aB (aG (au eF (au c9 (au eF (aT (aa 1) ai) (aT (aa 0) ai)) (au eF (aT (aa 2) ai) (aT (aa 0) ai))) (au c9 (au eF (aT (aa 1) ai) (aT (aa 0) ai)) (au eF (aT (aa 2) ai) (aT (aa 0) ai)))))),fun ds Q h=>?_⟩
 obtain ⟨a,b,c,rfl,⟨a1,a2⟩,⟨b1,b2⟩,⟨c1,c2⟩,h⟩:=h
 unfold tw at h
 walk_at "rd"
 exact h
theorem tL (T:Txt K mg t):Binds K t.gT ["_law_a","_law_b","_law_c","_law_d"] []:=T.iX.binds fun _ _ _ _ _ _ us hl=>match us,hl with | [_,_,_,_],_=>rfl
def uh:xu:=fun ds Q=> ∃ a b c d:Pl,ds= [a.d,b.d,c.d,d.d]∧a.Ok 140∧b.Ok 140∧c.Ok 140∧d.Ok 140∧Q (.int (dep a b c d))
theorem tM (T:Txt K mg t):bD P w K mg base ff 2 t.iT t.gT ["_law_a","_law_b","_law_c","_law_d"] (vL K uh):=by
 refine A0 T.iX bG (fun ds Q h=>by (first | (obtain ⟨_,rfl,_⟩:=h;rfl) | (obtain ⟨_,_,rfl,_⟩:=h;rfl) | (obtain ⟨_,_,_,rfl,_⟩:=h;rfl) | (obtain ⟨_,_,_,_,rfl,_⟩:=h;rfl) | (obtain ⟨_,_,_,_,_,rfl,_⟩:=h;rfl) | (obtain ⟨_,_,_,_,_,_,rfl,_⟩:=h;rfl) | (obtain ⟨_,_,_,_,_,_,_,rfl,_⟩:=h;rfl))) (fun cdv A outer s H hr=>?_)
 have hu:=hr.units
 refine ⟨_,(ao (aX (i:=4) bG.nd rfl (Or.inl rfl) ai)
  (ao (Gp PassesOwn.never rfl (af (cQ (af (aa 0) (af (aa 1) (af (aa 2) ak)))) (af (cQ (af (aa 1) (af (aa 2) (af (aa 0) ak)))) (af (cQ (af (aa 2) (af (aa 0) (af (aa 1) ak)))) ak))) (xT rfl (cO (bF (i:=5) bG.nd rfl (Or.inl rfl)) (cO (bF (i:=6) bG.nd rfl (Or.inl rfl)) (cO (bF (i:=7) bG.nd rfl (Or.inl rfl)) qZ)))) (ao (aX (i:=8) bG.nd rfl (Or.inl rfl) (au eF (aT (aa 7) ai) (aT (aa 3) ai)))
  (ao (aX (i:=9) bG.nd rfl (Or.inl rfl) (au eF (aT (aa 7) ai) (aT (aa 3) ai)))
  (aB (aX (i:=4) bG.nd rfl (Or.inl rfl) (au fS (aa 4) (au c9 (au fS (au c9 (aa 8) (aa 8)) (au c9 (aa 9) (aa 9))) (aJ (dI T) (hr.mono (by decide)) (by rfl) T.eX T.cB.kp (dH T) (af (aa 3) (af (aa 5) (af (aa 6) ak)))))))))))
  (aB (aG (aa 4))))),fun ds Q h=>?_⟩
 obtain ⟨a,b,c,d,rfl,ha,hb,hc,hd,h⟩:=h
 obtain ⟨d1,d2⟩:=id hd
 walk_at "rd"
 refine bO.mk (bP (fun i ρ M'=> ∃ y1 y2 y3 y4 y5:Option L3.D,ρ= [some a.d,some b.d,some c.d,some d.d,some (.int (vV a b c d i)),y1,y2,y3,y4,y5]) _ ?_ ?_ ⟨_,_,_,_,_,rfl⟩)
 ·rintro i x ρ M' N hx ⟨y1,y2,y3,y4,y5,rfl⟩ hN
  obtain ⟨p,q,f,rfl,hp,hq,hf,he⟩:∃ p q f:Pl,x= .tup [p.d,q.d,f.d]∧p.Ok 140∧q.Ok 140∧f.Ok 140∧vV a b c d (i+1)=vV a b c d i+((f.x - d.x)*(f.x - d.x)+(f.y - d.y)*(f.y - d.y))*tw d p q:=by
   match i,hx with
   | 0,e=>exact ⟨a,b,c,(Option.some.inj e).symm,ha,hb,hc,rfl⟩
   | 1,e=>exact ⟨b,c,a,(Option.some.inj e).symm,hb,hc,ha,rfl⟩
   | 2,e=>exact ⟨c,a,b,(Option.some.inj e).symm,hc,ha,hb,rfl⟩
  have t1:=A5 hd hp hq
  obtain ⟨f1,f2⟩:=id hf
  refine ⟨trivial,?_⟩
  walk_at "rd"
  refine ⟨hd,hp,hq,?_⟩
  walk_at "rd"
  refine hN _ _ ⟨some p.d,some q.d,some f.d,some (.int (f.x - d.x)),some (.int (f.y - d.y)),?_⟩
  rw [he]
  rfl
 ·rintro ρ M' ⟨y1,y2,y3,y4,y5,rfl⟩
  refine ⟨trivial,?_⟩
  walk_at "rd"
  have e:dep a b c d=vV a b c d 3:=DY a b c d
  rw [e] at h
  exact h
theorem kX (T:Txt K mg t):Binds K t.gU ["_law_triangle","_law_d"] []:=T.fM.binds fun _ _ _ _ _ _ us hl=>match us,hl with | [_,_],_=>rfl
def um:xu:=fun ds Q=> ∃ a b c d:Pl,ds= [tD [a,b,c],d.d]∧a.Ok 140∧b.Ok 140∧c.Ok 140∧d.Ok 140∧aI a b∧aI a c∧0 < tw a b c∧Q (.bl (decide (eB a b c d)))
theorem kY (T:Txt K mg t):bD P w K mg base ff 3 t.iU t.gU ["_law_triangle","_law_d"] (vL K um):=by
 refine A0 T.fM cU (fun ds Q h=>by (first | (obtain ⟨_,rfl,_⟩:=h;rfl) | (obtain ⟨_,_,rfl,_⟩:=h;rfl) | (obtain ⟨_,_,_,rfl,_⟩:=h;rfl) | (obtain ⟨_,_,_,_,rfl,_⟩:=h;rfl) | (obtain ⟨_,_,_,_,_,rfl,_⟩:=h;rfl) | (obtain ⟨_,_,_,_,_,_,rfl,_⟩:=h;rfl) | (obtain ⟨_,_,_,_,_,_,_,rfl,_⟩:=h;rfl))) (fun cdv A outer s H hr=>?_)
 have hu:=hr.units
 refine ⟨_,(ao (Du (aa 0) (xT rfl (cO (bF (i:=2) cU.nd rfl (Or.inl rfl)) (cO (bF (i:=3) cU.nd rfl (Or.inl rfl)) (cO (bF (i:=4) cU.nd rfl (Or.inl rfl)) qZ)))))
  (ao (cH (aW (zB hu) (aa 1) (aa 0) (by with_unfolding_all rfl)) (aB (aG gE)) bx)
  (ao (aX (i:=5) cU.nd rfl (Or.inl rfl) (aJ (tM T) (hr.mono (by decide)) (by rfl) T.uc T.iX.kp (tL T) (af (aa 2) (af (aa 3) (af (aa 4) (af (aa 1) ak))))))
  (ao (cH (aW (BS hu) (aa 5) ai (aK _)) (aB (aG (lM Ji (aa 5) ai (aK _)))) bx)
  (aB (aG (Lz (lM (lP hu) (aa 1) (aa 2) (aK _)) (Dk (lM (lP hu) (aJ (dI T) (hr.mono (by decide)) (by rfl) T.eX T.cB.kp (dH T) (af (aa 3) (af (aa 4) (af (aa 1) ak)))) ai (aK _)))))))))),fun ds Q h=>?_⟩
 obtain ⟨a,b,c,d,rfl,ha,hb,hc,hd,b1,b2,ht,h⟩:=h
 walk_at "rd"
 rw [gn]
 refine fR (fun k=>?_) (fun k=>?_)
 ·walk_at "rd"
  rw [decide_eq_false (GB ht (by simpa using of_decide_eq_true k))] at h
  exact h
 have k:¬ (d=a∨d=b∨d=c):=fun z=>k (decide_eq_true (by simpa using z))
 walk_at "rd"
 refine ⟨ha,hb,hc,hd,?_⟩
 walk_at "rd"
 rw [DL]
 refine fR (fun q=>?_) (fun q=>?_)
 ·have q:=of_decide_eq_true q
  walk_at "rd"
  have e:decide (eB a b c d)=decide (0 < dep a b c d):=by
   rw [decide_eq_decide,Gg (by omega) q,vP ht]
   exact WS
  rw [e] at h
  exact h
 have q:dep a b c d=0:=by
  apply Vi
  intro z
  exact q (decide_eq_true z)
 rw [B7 b1 b2 ht k q] at h
 walk_at "rd"
 rw [nG]
 refine fR (fun w=>?_) (fun w=>?_)
 ·rw [decide_eq_true (of_decide_eq_true w)] at h
  exact h
 have w:decide (aI d a)=false:=by simpa using w
 rw [w] at h
 walk_at "rd"
 refine ⟨hb,hc,hd,?_⟩
 walk_at "rd"
 exact h
theorem gZ (T:Txt K mg t):Binds K t.gW ["_law_places","_law_found"] []:=T.di.binds fun _ _ _ _ _ _ us hl=>match us,hl with | [_,_],_=>rfl
def uo:uE:=fun ds M Q=> ∃ (l f:Addr) (ps:List Pl) (fs:List (List Pl)),ds= [.ref l,.ref f]∧M l=some (.lst (ps.map Pl.d))∧M f=some (.lst (fs.map tD))∧ps.Nodup∧ps.length≤17∧(∀ q∈ps,q.Ok 140)∧fs.Nodup∧(∀ t,t∈fs↔ic ps t∧oN ps t)∧fs.Pairwise (fun p q=>cy q p=false)∧fs.length≤44∧Q (.bl true) M
theorem g9 (T:Txt K mg t):bD P w K mg base ff 4 t.iV t.gW ["_law_places","_law_found"] (mZ K uo):=by
 refine zE T.di bH (fun ds M Q h=>by (first | (obtain ⟨_,rfl,_⟩:=h;rfl) | (obtain ⟨_,_,rfl,_⟩:=h;rfl) | (obtain ⟨_,_,_,rfl,_⟩:=h;rfl) | (obtain ⟨_,_,_,_,rfl,_⟩:=h;rfl) | (obtain ⟨_,_,_,_,_,rfl,_⟩:=h;rfl) | (obtain ⟨_,_,_,_,_,_,rfl,_⟩:=h;rfl) | (obtain ⟨_,_,_,_,_,_,_,rfl,_⟩:=h;rfl))) (fun cdv A outer s H hr=>?_)
 have hu:=hr.units
 refine ⟨_,(ao (cH (k_not (c8 (bz (iD T) (hr.mono (by decide)) (by rfl) T.jf T.c6.kp (iC T) (af (aa 1) (af (aa 0) ak))))) (aB (aG gE)) bx)
  (ao (aX (i:=2) bH.nd rfl (Or.inl rfl) JZ)
  (ao (jY PassesOwn.never rfl (aa 1) (xT rfl (cO (bF (i:=3) bH.nd rfl (Or.inr rfl)) (cO (bF (i:=4) bH.nd rfl (Or.inr rfl)) (cO (bF (i:=5) bH.nd rfl (Or.inr rfl)) qZ)))) (ao (cH (pW.pt (qk (k_not (aW (lP hu) (aa 3) (cj (JI hu rfl) (by rfl) T.Kr BW (af (aa 4) (af (aa 5) ak))) (aK _))) (lN (aW OR (aJ (dI T) (hr.mono (by decide)) (by rfl) T.eX T.cB.kp (dH T) (af (aa 3) (af (aa 4) (af (aa 5) ak)))) ai (aK _))))) (aB (aG gE)) bx)
  (ao (cH (aW (oY hu) (B4 (rH (ys:=["_law_a","_law_b","_law_c"]) (fs:=[3,4,5]) rfl (by show cW (aq cJ) ["_law_places","_law_found","_law_sides","_law_a","_law_b","_law_c","_law_side"] _ _ _ _=true;decide +kernel) (aa 0) (fun cl C s0 H0 ex=>p7 (c8 (aJ (kY T) (hr.mono (by decide)) (by rfl) T.lX T.fM.kp (kX T) (af (cQ (af (aa 1) (af (aa 2) (af (aa 3) ak)))) (af (aa 0) ak))))) (fun cl C s0 H0 ex=>(aa 0)))) (dc ak) (aK _)) (aB (aG gE)) bx)
  (aB (Jx PassesOwn.never rfl (af (cQ (af (aa 3) (af (aa 4) ak))) (af (cQ (af (aa 4) (af (aa 5) ak))) (af (cQ (af (aa 5) (af (aa 3) ak))) ak))) (bF (i:=6) bH.nd rfl (Or.inl rfl)) (ao (cH (aW (GV hu) (aa 6) (aa 2) (by with_unfolding_all rfl)) (aB (aG gE)) bx)
  (aB (Du gE (J0 hu (aa 2) (aa 6))))))))))
  (ao (J2 PassesOwn.never rfl (aa 2) (xT rfl (cO (bF (i:=3) bH.nd rfl (Or.inr rfl)) (cO (bF (i:=4) bH.nd rfl (Or.inr rfl)) qZ))) (aB (cH (pW.pt (qV (aW (Ab hu) (cQ (af (aa 4) (af (aa 3) ak))) (aa 2) (by with_unfolding_all rfl)) (oU (aW (oY hu) (B4 (rH (ys:=["_law_a","_law_b"]) (fs:=[3,4]) rfl (by show cW (aq cJ) ["_law_places","_law_found","_law_sides","_law_a","_law_b","_law_c","_law_side"] _ _ _ _=true;decide +kernel) (aa 0) (fun cl C s0 H0 ex=>p7 (aW (lP hu) (aJ (dI T) (hr.mono (by decide)) (by rfl) T.eX T.cB.kp (dH T) (af (aa 1) (af (aa 2) (af (aa 0) ak)))) ai (aK _))) (fun cl C s0 H0 ex=>(aa 0)))) (dc ak) (aK _))))) (aB (aG gE)) bx)))
  (aB (aG (Lz (lM (oY hu) (aa 1) (dc ak) (aK _)) (Dk (lM (HR hu) (B4 (rH (ys:=["_law_places"]) (fs:=[0]) rfl (by show cW (aq cJ) ["_law_places","_law_found","_law_sides","_law_a","_law_b","_law_c","_law_side"] _ _ _ _=true;decide +kernel) (aa 0) (fun cl C s0 H0 ex=>p7 (aW (BS hu) (aJ (dI T) (hr.mono (by decide)) (by rfl) T.eX T.cB.kp (dH T) (af (aT (aa 1) ai) (af (aT (aa 1) (fj ai)) (af (aa 0) ak)))) ai (aK _))) (fun cl C s0 H0 ex=>(aa 0)))) (dc ak) (aK _)))))))))),fun ds M Q h=>?_⟩
 obtain ⟨l,f,ps,fs,rfl,hM,hF,nd,lp,ho,Tj,mf,sf,lf,h⟩:=h
 have sl:(1000:Nat) < sizeLine:=by decide
 obtain ⟨qs,hq,hs⟩:=CA ps nd
 have m5:cE qs:=⟨hs,fun q m=>(ho q (hq.mem_iff.mp m)).2⟩
 have mq:∀ t,t∈fs↔ic qs t∧oN qs t:=fun t=>(mf t).trans (and_congr ⟨fun c=>⟨c.1,fun q m=>hq.mem_iff.mpr (c.2 q m)⟩,fun c=>⟨c.1,fun q m=>hq.mem_iff.mp (c.2 q m)⟩⟩ ⟨fun c d hd=>c d (hq.mem_iff.mp hd),fun c d hd=>c d (hq.mem_iff.mpr hd)⟩)
 have kv:=sE m5 Tj mq
 walk_at "rd"
 refine ⟨f,l,fs,ps,rfl,hF,hM,by omega,sf,fun t ht=>((mf t).mp ht).1,?_⟩
 walk_at "rd"
 intro p hp
 have le:=Le.new (o:=MO.lJ []) hp
 have hP:ay M p (.lJ []) p=some (.lJ []):=ah
 generalize ay M p (.lJ [])=M1 at le hP ⊢
 walk_at "rd"
 refine ⟨f,_,rfl,le _ _ hF,?_⟩
 refine bP (fun i ρ M'=>(∃ y3 y4 y5 y6:Option L3.D,ρ= [some (.ref l),some (.ref f),some (.ref p),y3,y4,y5,y6])∧Le M M'∧M' p=some (.lJ (xx (aU (fs.take i))))) _ ?_ ?_ ⟨⟨_,_,_,_,rfl⟩,le,hP⟩
 ·rintro i x ρ M' N hx ⟨⟨y3,y4,y5,y6,rfl⟩,le,hP⟩ hN
  obtain ⟨t,ht,rfl⟩:=jr hx
  have mt:=Vy ht
  obtain ⟨⟨⟨a,b,c,rfl,b1,b2,pt⟩,hin⟩,cl⟩:=(mf t).mp mt
  have ha:=hin a (by simp)
  have hb:=hin b (by simp)
  have hc:=hin c (by simp)
  refine ⟨le _ _ hF,?_⟩
  walk_at "rd"
  refine ⟨[b,c],rfl,by show 2≤2;decide,by show 2≤4;decide,?_⟩
  obtain ⟨m,em,hm⟩:=MZ b c
  rw [em]
  have bm:aI a m:=by rcases hm with rfl | rfl <;> assumption
  walk_at "rd"
  rw [nG,decide_eq_true bm]
  walk_at "rd"
  refine ⟨ho a ha,ho b hb,ho c hc,?_⟩
  walk_at "rd"
  refine fR (fun k=>absurd (of_decide_eq_true k) (by omega)) (fun _=>?_)
  walk_at "rd"
  refine ⟨l,_,rfl,le _ _ hM,by rw [Vk];omega,bO.mk (dX (fun j acc M4=>M4=M'∧acc= []) _ ?_ ?_ ⟨rfl,rfl⟩)⟩
  ·rintro j x acc M4 N2 yU ⟨rfl,rfl⟩ qN
   obtain ⟨q,hq',rfl⟩:=kg yU
   have E9:=Vy hq'
   refine ⟨le _ _ hM,?_⟩
   walk_at "rd"
   refine ⟨ho a ha,ho b hb,ho c hc,ho q E9,b1,b2,pt,?_⟩
   rw [decide_eq_false (show ¬ eB a b c q from cl q E9)]
   walk_at "rd"
   exact qN _ _ ⟨rfl,rfl⟩
  rintro acc M4 ⟨rfl,rfl⟩
  refine ⟨le _ _ hM,fun u ia=>?_⟩
  have hP:=av (u:=MO.lst []) hP ia
  have le:=le.trans (Le.new (o:=MO.lst []) ia)
  have hU:ay M4 u (.lst []) u=some (.lst []):=ah
  generalize ay M4 u (.lst [])=M5 at hP le hU ⊢
  walk_at "rd"
  intro v hv
  refine ⟨_,_,.of (av hU hv),.of ah,rfl,rfl,?_⟩
  have hP:=av (u:=MO.lst []) hP hv
  have le:=le.trans (Le.new (o:=MO.lst []) hv)
  generalize ay M5 v (.lst [])=M6 at hP le ⊢
  rw [jX]
  have dt:=Ci ht
  have Rt:(aU (fs.take i) ++ [[a,b],[b,c],[c,a]]).Nodup:=by
   rw [show ([[a,b],[b,c],[c,a]]:List (List Pl))=dh [a,b,c] from rfl,← dt]
   exact Am kv.wB.nd _
  have ld:(aU (fs.take i)).length≤200:=by
   have:=yj (fs.take i)
   rw [Wq] at this
   omega
  rw [VU] at Rt
  obtain ⟨_,Qk,dj⟩:=Rt
  have n1: [a,b]∉aU (fs.take i):=fun z=>dj _ z _ (by simp) rfl
  have n2: [b,c]∉aU (fs.take i) ++ [[a,b]]:=fun z=>by
   rcases Vv.mp z with z | z
   ·exact dj _ z _ (by simp) rfl
   ·rw [Vm] at z
    exact (VI.mp Qk).1 [b,c] (by simp) z.symm
  have n3: [c,a]∉(aU (fs.take i) ++ [[a,b]]) ++ [[b,c]]:=fun z=>by
   rcases Vv.mp z with z | z
   ·rcases Vv.mp z with z | z
    ·exact dj _ z _ (by simp) rfl
    ·rw [Vm] at z
     exact (VI.mp Qk).1 [c,a] (by simp) z.symm
   ·rw [Vm] at z
    exact (VI.mp (VI.mp Qk).2).1 [c,a] (by simp) z.symm
  have e3:aU (fs.take (i+1))=((aU (fs.take i) ++ [[a,b]]) ++ [[b,c]]) ++ [[c,a]]:=by rw [dt];simp [dh]
  generalize aU (fs.take i)=D0 at *
  have keep:∀ {M7:Mp} {o:MO},Le M M7→Le M (ay M7 p o):=fun {M7 o} l c o' e=>by
   rw [aE (fun z=>by rw [z,hp] at e;cases e)]
   exact l _ _ e
  walk_at "rd"
  refine ⟨p,kG [a,b],_,(iy [a,b]).symm,rfl,hP,?_⟩
  rw [lB,decide_eq_false n1]
  walk_at "rd"
  refine ⟨p,_,kG [a,b],rfl,(iy [a,b]).symm,hP,by rw [wG];omega,?_⟩
  rw [wF n1]
  have hP:=ah (M:=M6) (a:=p) (o:=MO.lJ (xx (D0 ++ [[a,b]])))
  have le:=keep (o:=MO.lJ (xx (D0 ++ [[a,b]]))) le
  generalize ay M6 p (.lJ (xx (D0 ++ [[a,b]])))=M7 at hP le ⊢
  walk_at "rd"
  refine ⟨p,kG [b,c],_,(iy [b,c]).symm,rfl,hP,?_⟩
  rw [lB,decide_eq_false n2]
  walk_at "rd"
  refine ⟨p,_,kG [b,c],rfl,(iy [b,c]).symm,hP,by rw [wG,VA];simp;omega,?_⟩
  rw [wF n2]
  have hP:=ah (M:=M7) (a:=p) (o:=MO.lJ (xx ((D0 ++ [[a,b]]) ++ [[b,c]])))
  have le:=keep (o:=MO.lJ (xx ((D0 ++ [[a,b]]) ++ [[b,c]]))) le
  generalize ay M7 p (.lJ (xx ((D0 ++ [[a,b]]) ++ [[b,c]])))=M8 at hP le ⊢
  walk_at "rd"
  refine ⟨p,kG [c,a],_,(iy [c,a]).symm,rfl,hP,?_⟩
  rw [lB,decide_eq_false n3]
  walk_at "rd"
  refine ⟨p,_,kG [c,a],rfl,(iy [c,a]).symm,hP,by rw [wG,VA,VA];simp;omega,?_⟩
  rw [wF n3,← e3]
  walk_at "rd"
  exact hN _ _ ⟨⟨_,_,_,_,rfl⟩,keep le,ah⟩
 ·rintro ρ M' ⟨⟨y3,y4,y5,y6,rfl⟩,le,hP⟩
  refine ⟨le _ _ hF,?_⟩
  rw [Vk,VZ] at hP
  walk_at "rd"
  refine ⟨p,_,rfl,hP,?_⟩
  rw [EW]
  refine bP (fun i ρ M'=>(∃ y3 y4 y5 y6:Option L3.D,ρ= [some (.ref l),some (.ref f),some (.ref p),y3,y4,y5,y6])∧Le M M'∧M' p=some (.lJ (xx (aU fs)))) _ ?_ ?_ ⟨⟨_,_,_,_,rfl⟩,le,hP⟩
  ·rintro i x ρ M' N hx ⟨⟨y3,y4,y5,y6,rfl⟩,le,hP⟩ hN
   obtain ⟨w,hw,rfl⟩:=jr hx
   have mw:=Vy hw
   obtain ⟨a,b,rfl,ha,hb⟩:=kv.wB.rP w mw
   have ha:=hq.mem_iff.mp ha
   have hb:=hq.mem_iff.mp hb
   refine ⟨hP,?_⟩
   walk_at "rd"
   refine ⟨p,kG [b,a],_,(iy [b,a]).symm,rfl,hP,?_⟩
   rw [lB]
   walk_at "rd"
   by_cases dn: [b,a]∈aU fs
   ·rw [decide_eq_true dn]
    refine xN ?_
    walk_at "rd"
    exact hN _ _ ⟨⟨_,_,_,_,rfl⟩,le,hP⟩
   ·rw [decide_eq_false dn]
    have sd:=kv.wB.bare a b mw dn
    refine Jf ?_
    walk_at "rd"
    refine ⟨l,_,rfl,le _ _ hM,by rw [Vk];omega,bO.mk (dX (fun j acc M4=>M4=M'∧acc= []) _ ?_ ?_ ⟨rfl,rfl⟩)⟩
    ·rintro j x acc M4 N2 yU ⟨rfl,rfl⟩ qN
     obtain ⟨q,hq',rfl⟩:=kg yU
     have E9:=Vy hq'
     refine ⟨le _ _ hM,?_⟩
     walk_at "rd"
     refine ⟨ho a ha,ho b hb,ho q E9,?_⟩
     walk_at "rd"
     have:=(sd.2.2.2 q (hq.mem_iff.mpr E9)).1
     refine fR (fun k=>absurd (of_decide_eq_true k) (by omega)) (fun _=>?_)
     exact qN _ _ ⟨rfl,rfl⟩
    rintro acc M4 ⟨rfl,rfl⟩
    refine ⟨le _ _ hM,fun u ia=>?_⟩
    have hP:=av (u:=MO.lst []) hP ia
    have le:=le.trans (Le.new (o:=MO.lst []) ia)
    have hU:ay M4 u (.lst []) u=some (.lst []):=ah
    generalize ay M4 u (.lst [])=M5 at hP le hU ⊢
    walk_at "rd"
    intro v hv
    refine ⟨_,_,.of (av hU hv),.of ah,rfl,rfl,?_⟩
    rw [jX]
    walk_at "rd"
    exact hN _ _ ⟨⟨_,_,_,_,rfl⟩,le.trans (Le.new hv),av hP hv⟩
  ·rintro ρ M' ⟨⟨y3,y4,y5,y6,rfl⟩,le,hP⟩
   refine ⟨hP,?_⟩
   walk_at "rd"
   intro e he
   refine ⟨_,_,.of ((Le.new he) _ _ (le _ _ hF)),.of ah,cI fs,rfl,?_⟩
   rw [x8]
   cases Tn:fs with
   | cons t0 tr=>
     walk_at "rd"
     exact bO.mk ⟨_,le.trans (Le.new he),h⟩
   | nil=>
     have fl:Flat qs:=EX m5 (Tn▸kv)
     walk_at "rd"
     have hE:ay M' e (.lst []) e=some (.lst []):=ah
     have le:=le.trans (Le.new (o:=MO.lst []) he)
     generalize ay M' e (.lst [])=M2 at hE le ⊢
     refine ⟨l,_,rfl,le _ _ hM,by rw [Vk];omega,bO.mk (dX (fun j acc M4=>M4=M2∧acc= []) _ ?_ ?_ ⟨rfl,rfl⟩)⟩
     ·rintro j x acc M4 N2 yU ⟨rfl,rfl⟩ qN
      obtain ⟨q,hq',rfl⟩:=kg yU
      have E9:=Vy hq'
      refine ⟨le _ _ hM,?_⟩
      obtain ⟨x0,x1,m0,m1,e0,e1⟩:=Kg E9
      walk_at "rd"
      refine ⟨_,_,_,.inr (.inr ⟨l,rfl,le _ _ hM⟩),rfl,e0,?_⟩
      walk_at "rd"
      refine ⟨_,_,_,.inr (.inr ⟨l,rfl,le _ _ hM⟩),rfl,e1,?_⟩
      walk_at "rd"
      refine ⟨ho x0 m0,ho x1 m1,ho q E9,?_⟩
      rw [fl x0 (hq.mem_iff.mpr m0) x1 (hq.mem_iff.mpr m1) q (hq.mem_iff.mpr E9)]
      walk_at "rd"
      exact qN _ _ ⟨rfl,rfl⟩
     rintro acc M4 ⟨rfl,rfl⟩
     refine ⟨le _ _ hM,fun u ia=>?_⟩
     walk_at "rd"
     intro v hv
     refine ⟨u,v,_,_,rfl,rfl,av ah hv,ah,rfl,rfl,?_⟩
     rw [jX]
     walk_at "rd"
     exact bO.mk ⟨_,le.trans ((Le.new ia).trans (Le.new hv)),h⟩
theorem oG (T:Txt K mg t):Binds K t.jB ["_law_half","_law_far","_law_net"] []:=T.iA.binds fun _ _ _ _ _ _ us hl=>match us,hl with | [_,_,_],_=>rfl
def yY:uE:=fun ds M Q=> ∃ (x f n:Addr),ds= [.ref x,.ref f,.ref n]∧∃ (hs ns:List (List Pl)) (S:List Pl),M x=some (.lst (hs.map tD))∧M f=some (.lst (S.map Pl.d))∧M n=some (.lst (ns.map tD))∧S.length≤20∧(∀ q∈S,q.Ok 140)∧(∀ t∈hs,dY t∧∀ q∈t,q.Ok 140)∧(∀ t∈hs,t∉ns→∃ d∈S,t6 t d)∧Q (.bl true) M
theorem oH (T:Txt K mg t):bD P w K mg base ff 4 t.kL t.jB ["_law_half","_law_far","_law_net"] (mZ K yY):=by
 refine zE T.iA oz (fun ds M Q h=>by (first | (obtain ⟨_,rfl,_⟩:=h;rfl) | (obtain ⟨_,_,rfl,_⟩:=h;rfl) | (obtain ⟨_,_,_,rfl,_⟩:=h;rfl) | (obtain ⟨_,_,_,_,rfl,_⟩:=h;rfl) | (obtain ⟨_,_,_,_,_,rfl,_⟩:=h;rfl) | (obtain ⟨_,_,_,_,_,_,rfl,_⟩:=h;rfl) | (obtain ⟨_,_,_,_,_,_,_,rfl,_⟩:=h;rfl))) (fun cdv A outer s H hr=>?_)
 have hu:=hr.units
 refine ⟨_,(ao (jY PassesOwn.never rfl (aa 0) (bF (i:=3) oz.nd rfl (Or.inr rfl)) (aB (cH (pW.pt (qV (aW (nh hu) (aa 3) (aa 2) (by with_unfolding_all rfl)) (oU (aW (HR hu) (B4 (rH (ys:=["_law_triangle"]) (fs:=[3]) rfl (by show cW (aq ie) ["_law_half","_law_far","_law_net","_law_triangle"] _ _ _ _=true;decide +kernel) (aa 1) (fun cl C s0 H0 ex=>p7 (c8 (aJ (kY T) (hr.mono (by decide)) (by rfl) T.lX T.fM.kp (kX T) (af (aa 1) (af (aa 0) ak))))) (fun cl C s0 H0 ex=>(aa 0)))) (dc ak) (aK _))))) (aB (aG gE)) bx)))
  (aB (aG gE))),fun ds M Q h=>?_⟩
 obtain ⟨x,f,n,rfl,hs,ns,S,hX,hF,To,lS,ho,ht,hg,h⟩:=h
 have sl:(1000:Nat) < sizeLine:=by decide
 walk_at "rd"
 refine ⟨x,_,rfl,hX,?_⟩
 refine bP (fun i ρ M'=>Le M M'∧∃ y:Option L3.D,ρ= [some (.ref x),some (.ref f),some (.ref n),y]) _ ?_ ?_ ⟨Le.refl _,_,rfl⟩
 ·rintro i z ρ M' N hx ⟨le,y,rfl⟩ hN
  obtain ⟨t,ht',rfl⟩:=jr hx
  have mt:=Vy ht'
  obtain ⟨⟨a,b,c,rfl,b1,b2,pt⟩,ok⟩:=ht t mt
  refine ⟨le _ _ hX,?_⟩
  walk_at "rd"
  refine ⟨_,.inr ⟨n,rfl,le _ _ To⟩,o6 _,cI ns,?_⟩
  rw [v9,if_pos rfl]
  by_cases IA: [a,b,c]∈ns
  ·rw [decide_eq_true IA]
   walk_at "rd"
   exact hN _ _ ⟨le,_,rfl⟩
  ·rw [decide_eq_false IA]
   obtain ⟨d0,hd0,Tp⟩:=hg _ mt IA
   walk_at "rd"
   refine ⟨f,_,rfl,le _ _ hF,by rw [Vk];omega,bO.mk (dX (fun j acc M4=>M4=M'∧acc=((S.take j).filter (fun d=>decide (eB a b c d))).map Pl.d) _ ?_ ?_ ⟨rfl,rfl⟩)⟩
   ·rintro j w acc M4 N2 yU ⟨rfl,rfl⟩ qN
    obtain ⟨q,hq',rfl⟩:=kg yU
    have E9:=Vy hq'
    refine ⟨le _ _ hF,?_⟩
    walk_at "rd"
    refine ⟨ok a (by simp),ok b (by simp),ok c (by simp),ho q E9,b1,b2,pt,?_⟩
    by_cases sp:eB a b c q
    ·rw [decide_eq_true sp]
     walk_at "rd"
     refine qN _ _ ⟨rfl,?_⟩
     rw [gu hq',if_pos (decide_eq_true sp),VM]
     rfl
    ·rw [decide_eq_false sp]
     walk_at "rd"
     refine qN _ _ ⟨rfl,?_⟩
     rw [gu hq',if_neg (by rw [decide_eq_true_iff];exact sp),WE]
   rintro acc M4 ⟨rfl,hacc⟩
   rw [Vk,VZ] at hacc
   subst hacc
   refine ⟨le _ _ hF,fun u ia=>?_⟩
   walk_at "rd"
   intro v hv
   have ne:(S.filter (fun d=>decide (eB a b c d)))≠[]:=Wo (Vu.mpr ⟨hd0,decide_eq_true Tp⟩)
   refine ⟨u,v,_,_,rfl,rfl,av ah hv,ah,bB _,rfl,?_⟩
   rw [x8,show ((S.filter (fun d=>decide (eB a b c d))).map Pl.d).isEmpty=false by rw [List.isEmpty_map];cases e:S.filter (fun d=>decide (eB a b c d)) with
    | nil=>exact absurd e ne
    | cons _ _=>rfl]
   walk_at "rd"
   exact hN _ _ ⟨le.trans ((Le.new ia).trans (Le.new hv)),_,rfl⟩
 ·rintro ρ M' ⟨le,y,rfl⟩
  refine ⟨le _ _ hX,?_⟩
  walk_at "rd"
  exact bO.mk ⟨M,le,h⟩
theorem oJ (T:Txt K mg t):Binds K t.jC ["_law_triangle","_law_first"] []:=T.iB.binds fun _ _ _ _ _ _ us hl=>match us,hl with | [_,_],_=>rfl
def xo (F t:List Pl):Bool:=decide ((t.filter (fun p=>decide (p∈F))).length=1∨(t.filter (fun p=>decide (p∈F))).length=2)
def yZ:uE:=fun ds M Q=> ∃ (f:Addr) (a b c:Pl),ds= [tD [a,b,c],.ref f]∧∃ F:List Pl,M f=some (.lst (F.map Pl.d))∧Q (.bl (xo F [a,b,c])) M
theorem oK (T:Txt K mg t):bD P w K mg base ff 1 t.kM t.jC ["_law_triangle","_law_first"] (mZ K yZ):=by
 refine zE T.iB wV (fun ds M Q h=>by (first | (obtain ⟨_,rfl,_⟩:=h;rfl) | (obtain ⟨_,_,rfl,_⟩:=h;rfl) | (obtain ⟨_,_,_,rfl,_⟩:=h;rfl) | (obtain ⟨_,_,_,_,rfl,_⟩:=h;rfl) | (obtain ⟨_,_,_,_,_,rfl,_⟩:=h;rfl) | (obtain ⟨_,_,_,_,_,_,rfl,_⟩:=h;rfl) | (obtain ⟨_,_,_,_,_,_,_,rfl,_⟩:=h;rfl))) (fun cdv A outer s H hr=>?_)
 have hu:=hr.units
 refine ⟨_,(aB (aG (lM (zB hu) (cj jG (by rfl) T.gg bV (af (B4 (Mn (ys:=["_law_first"]) (fs:=[1]) rfl (by show cW (aq ig) ["_law_triangle","_law_first"] _ _ _ _=true;decide +kernel) (aa 0) (fun cl C s0 H0 ex=>p7 (aW (zB hu) (aa 0) (aa 1) (by with_unfolding_all rfl))) (fun cl C s0 H0 ex=>(aa 0)))) ak)) (cQ (af ai (af ai ak))) (by with_unfolding_all rfl)))),fun ds M Q h=>?_⟩
 obtain ⟨f,a,b,c,rfl,F,hF,h⟩:=h
 have sl:(1000:Nat) < sizeLine:=by decide
 walk_at "rd"
 refine ⟨by rw [Vk];show 3 < sizeLine;omega,bO.mk (dX (fun j acc M4=>M4=M∧acc=(([a,b,c].take j).filter (fun p=>decide (p∈F))).map Pl.d) _ ?_ ?_ ⟨rfl,rfl⟩)⟩
 ·rintro j x acc M4 N2 yU ⟨rfl,rfl⟩ qN
  obtain ⟨q,hq',rfl⟩:=kg yU
  refine ⟨trivial,?_⟩
  walk_at "rd"
  refine ⟨_,.inr ⟨f,rfl,hF⟩,rfl,bB F,?_⟩
  rw [if_neg (by decide),gn]
  by_cases k:q∈F
  ·rw [decide_eq_true k]
   walk_at "rd"
   refine qN _ _ ⟨rfl,?_⟩
   rw [gu hq',if_pos (decide_eq_true k),VM]
   rfl
  ·rw [decide_eq_false k]
   walk_at "rd"
   refine qN _ _ ⟨rfl,?_⟩
   rw [gu hq',if_neg (by rw [decide_eq_true_iff];exact k),WE]
 rintro acc M4 ⟨rfl,hacc⟩
 rw [Vk,VZ] at hacc
 subst hacc
 refine ⟨trivial,fun u ia=>?_⟩
 walk_at "rd"
 refine ⟨_,_,rfl,.inr (.inr ⟨u,rfl,ah⟩),?_⟩
 walk_at "rd"
 have e:inD (.int (((([a,b,c].filter (fun p=>decide (p∈F))).map Pl.d).length:Nat):Int)) [.int 1,.int 2]=xo F [a,b,c]:=by
  rw [Vk]
  unfold xo
  generalize ([a,b,c].filter (fun p=>decide (p∈F))).length=k
  simp only [inD,W8,List.any_nil,eG,XJ]
  rw [V0,decide_eq_true_iff]
  simp only [Yz,beq_iff_eq]
  omega
 rw [if_neg (by decide),e]
 exact bO.mk ⟨_,Le.new ia,h⟩
theorem Ql (T:Txt K mg t):Binds K t.Av ["_law_script"] []:=T.Io.binds fun _ _ _ _ _ _ us hl=>match us,hl with | [_],_=>rfl
theorem BA {Q F S t:List Pl} {T:Int} (v:xD Q F S T) (hT:ic Q t):xo F t=true↔Fi F S t:=by
 obtain ⟨a,b,c,rfl,_,ha,hb,hc,_⟩:=hT.parts
 have f:∀ q,q∈Q→(q∈F∧q∉S)∨(q∉F∧q∈S):=fun q hq=>by
  rcases (v.mem q).mp hq with z | z
  ·exact .inl ⟨z,fun y=>v.apart z y⟩
  ·exact .inr ⟨fun y=>v.apart y z,z⟩
 unfold xo Fi
 rcases f a ha with ⟨a1,a2⟩ | ⟨a1,a2⟩ <;> rcases f b hb with ⟨b1,b2⟩ | ⟨b1,b2⟩ <;> rcases f c hc with ⟨c1,c2⟩ | ⟨c1,c2⟩ <;> simp [a1,a2,b1,b2,c1,c2]
abbrev Fb:=A1
theorem Kw (T:Txt K mg t):bD P w K mg base ff 16 t.E4 t.Av ["_law_script"] (vL K Fb):=by
 refine A0 T.Io fG (fun ds Q h=>by (first | (obtain ⟨_,rfl,_⟩:=h;rfl) | (obtain ⟨_,_,rfl,_⟩:=h;rfl) | (obtain ⟨_,_,_,rfl,_⟩:=h;rfl) | (obtain ⟨_,_,_,_,rfl,_⟩:=h;rfl) | (obtain ⟨_,_,_,_,_,rfl,_⟩:=h;rfl) | (obtain ⟨_,_,_,_,_,_,rfl,_⟩:=h;rfl) | (obtain ⟨_,_,_,_,_,_,_,rfl,_⟩:=h;rfl))) (fun cdv A outer s H hr=>?_)
 have hu:=hr.units
 refine ⟨_,(ao (aX (i:=1) fG.nd rfl (Or.inl rfl) (bz (tu T) (hr.mono (by decide)) (by rfl) T.ua T.iW.kp (sZ T) (af (aa 0) ak)))
  (ao (aX (i:=2) fG.nd rfl (Or.inl rfl) (LN JM (by rfl) T.qL jn (af (aa 1) ak)))
  (ao (aX (i:=3) fG.nd rfl (Or.inl rfl) (bz (CL T) (hr.mono (by decide)) (by rfl) T.yN T.oi.kp (vz T) (af (aa 2) ak)))
  (ao (aX (i:=4) fG.nd rfl (Or.inl rfl) (bz (ug T) (hr.mono (by decide)) (by rfl) T.jE T.eV.kp (iZ T) (af (aa 2) ak)))
  (ao (cH (pW.pt (qk (aW (oY hu) (aa 2) (aa 1) (aK _)) (qk (k_not (c8 (cj uD (by rfl) T.cL bM (af (aa 3) (af (oS (by rfl) T.sX jZ) ak))))) (qk (aW (BS hu) (cj jG (by rfl) T.gg bV (af (aa 3) ak)) ai (aK _)) (lN (k_not (c8 (bz (g9 T) (hr.mono (by decide)) (by rfl) T.iY T.di.kp (gZ T) (af (aa 1) (af (aa 4) ak)))))))))) (aB (aG gE)) bx)
  (ao (aX (i:=5) fG.nd rfl (Or.inl rfl) (cj j8 (by rfl) T.eg bX (af (aa 1) ak)))
  (ao (aX (i:=6) fG.nd rfl (Or.inr rfl) (fT (aa 5) x6 (j9 (au mC (cj jG (by rfl) T.gg bV (af (aa 5) ak)) ai))))
  (ao (aX (i:=7) fG.nd rfl (Or.inl rfl) (fT (aa 5) (j9 (au mC (cj jG (by rfl) T.gg bV (af (aa 5) ak)) ai)) x6))
  (ao (Du (aa 3) (xT rfl (cO (bF (i:=8) fG.nd rfl (Or.inl rfl)) (cO (bF (i:=9) fG.nd rfl (Or.inl rfl)) (cO (bF (i:=10) fG.nd rfl (Or.inl rfl)) qZ)))))
  (ao (cH (pW.pt (qk (k_not (c8 (bz (g9 T) (hr.mono (by decide)) (by rfl) T.iY T.di.kp (gZ T) (af (aa 6) (af (aa 8) ak))))) (lN (k_not (c8 (bz (g9 T) (hr.mono (by decide)) (by rfl) T.iY T.di.kp (gZ T) (af (aa 7) (af (aa 9) ak)))))))) (aB (aG gE)) bx)
  (ao (cH (pW.pt (qk (k_not (c8 (bz (iD T) (hr.mono (by decide)) (by rfl) T.jf T.c6.kp (iC T) (af (aa 10) (af (aa 1) ak))))) (lN (aW (oY hu) (aa 10) (B4 (rH (ys:=["_law_first"]) (fs:=[6]) rfl (by show cW (aq AE) ["_law_script","_law_places","_law_handed","_law_found","_law_net","_law_row","_law_first","_law_second","_law_one","_law_other","_law_across","_law_triangle","_law_kept"] _ _ _ _=true;decide +kernel) (aa 4) (fun cl C s0 H0 ex=>p7 (c8 (bz (oK T) (hr.mono (by decide)) (by rfl) T.qd T.iB.kp (oJ T) (af (aa 0) (af (aa 1) ak))))) (fun cl C s0 H0 ex=>(aa 0)))) (aK _))))) (aB (aG gE)) bx)
  (ao (jY PassesOwn.never rfl (aa 4) (bF (i:=11) fG.nd rfl (Or.inl rfl)) (aB (cH (pW.pt (qV (k_not (c8 (bz (oK T) (hr.mono (by decide)) (by rfl) T.qd T.iB.kp (oJ T) (af (aa 11) (af (aa 6) ak))))) (qV (aW (nh hu) (aa 11) (aa 8) (by with_unfolding_all rfl)) (oU (aW (nh hu) (aa 11) (aa 9) (by with_unfolding_all rfl)))))) (aB (aG gE)) bx)))
  (ao (cH (pW.pt (qk (k_not (c8 (bz (oH T) (hr.mono (by decide)) (by rfl) T.qc T.iA.kp (oG T) (af (aa 8) (af (aa 7) (af (aa 4) ak)))))) (lN (k_not (c8 (bz (oH T) (hr.mono (by decide)) (by rfl) T.qc T.iA.kp (oG T) (af (aa 9) (af (aa 6) (af (aa 4) ak))))))))) (aB (aG gE)) bx)
  (ao (aX (i:=12) fG.nd rfl (Or.inl rfl) (cQ (af (au lT (aa 8) (dc (af ai ak))) (af (au lT (aa 9) (dc (af ai ak))) (af (au lT (aa 10) (dc (af ai ak))) ak)))))
  (ao (mD (uF (aa 8) ai (uz PySem.F.plainAttrs_list PySem.F.slot_list_append PySem.F.type_list_append fm (cg.dn (aa 8)) (jl (cg.dn ai) l8))))
  (ao (mD (uF (aa 9) ai (uz PySem.F.plainAttrs_list PySem.F.slot_list_append PySem.F.type_list_append fm (cg.dn (aa 9)) (jl (cg.dn ai) l8))))
  (ao (mD (uF (aa 10) ai (uz PySem.F.plainAttrs_list PySem.F.slot_list_append PySem.F.type_list_append fm (cg.dn (aa 10)) (jl (cg.dn ai) l8))))
  (aB (aG (Ly (lM (J3 hu) (aa 3) (aa 12) (aK _)) (Dk (lM (DQ hu) (aa 2) (aa 1) (aK _))))))))))))))))))))))),fun ds Q h=>?_⟩
 obtain ⟨ns,rfl,hl,h⟩:=h
 have sl:(1000:Nat) < sizeLine:=by decide
 walk_at "rd"
 refine ⟨hl,fun l ps UC nd ho hlen=>?_⟩
 have hP:ay Lq l (.lst (ps.map Pl.d)) l=some (.lst (ps.map Pl.d)):=ah
 generalize ay Lq l (.lst (ps.map Pl.d))=M1 at hP ⊢
 walk_at "rd"
 refine ⟨_,_,rfl,.of hP,fun e he=>?_⟩
 have UD:l≠e:=fun z=>by rw [z,he] at hP;cases hP
 have hE:ay M1 e (.lst (ps.map Pl.d)) e=some (.lst (ps.map Pl.d)):=ah
 have hP:=av (u:=MO.lst (ps.map Pl.d)) hP he
 generalize ay M1 e (.lst (ps.map Pl.d))=M2 at hE hP ⊢
 walk_at "rd"
 refine ⟨e,ps,rfl,hE,nd,by omega,by omega,ho,fun a b c qs us vs ws M3 fa fb fc nab O5 O6 qM aS m5 hA hB hC k1 k2 k3=>?_⟩
 have Tq:e≠a:=fun z=>by rw [z,fa] at hE;cases hE
 have Tr:e≠b:=fun z=>by rw [z,fb] at hE;cases hE
 have Tt:e≠c:=fun z=>by rw [z,fc] at hE;cases hE
 have Tu:l≠a:=fun z=>by rw [z,fa] at hP;cases hP
 have Tv:l≠b:=fun z=>by rw [z,fb] at hP;cases hP
 have Tw:l≠c:=fun z=>by rw [z,fc] at hP;cases hP
 have hE:=qM _ _ hE
 have hP:=qM _ _ hP
 walk_at "rd"
 refine ⟨e,ps,rfl,hE,nd,by omega,by omega,ho,fun n xs M4 fn CT hN k4=>?_⟩
 have hE:=CT _ _ hE
 have hP:=CT _ _ hP
 have hA:=CT _ _ hA
 have hB:=CT _ _ hB
 have hC:=CT _ _ hC
 obtain ⟨nx,mx,sx,lx⟩:=k4
 have ze:∀ q∈qs,q.Ok 140:=fun q hq=>ho q (aS.mem_iff.mp hq)
 walk_at "rd"
 refine ⟨_,_,.of hE,.of hP,bB ps,bB ps,?_⟩
 rw [fy (bB ps)]
 walk_at "rd"
 refine ⟨l,n,ps,xs,rfl,hP,hN,nd,by omega,ho,nx,mx,sx,lx,?_⟩
 walk_at "rd"
 refine ⟨l,ps,rfl,hP,by omega,fun r mX hr AA hso=>?_⟩
 obtain rfl:mX=qs:=nP (AA.trans aS.symm) hso (m5.1.imp fun h=>az h)
 have hR:ay M4 r (.lst (mX.map Pl.d)) r=some (.lst (mX.map Pl.d)):=ah
 have le:=Le.new (o:=MO.lst (mX.map Pl.d)) hr
 have hE:=le _ _ hE
 have hP:=le _ _ hP
 have hA:=le _ _ hA
 have hB:=le _ _ hB
 have hC:=le _ _ hC
 have hN:=le _ _ hN
 generalize ay M4 r (.lst (mX.map Pl.d))=M5 at hR hE hP hA hB hC hN ⊢
 walk_at "rd"
 refine ⟨_,_,rfl,.inr (.inr ⟨r,rfl,hR⟩),?_⟩
 walk_at "rd"
 have e2:((mX.map Pl.d).length:Int) / 2=((ps.length / 2:Nat):Int):=by rw [Vk,aS.length_eq];omega
 dsimp only
 rw [e2]
 refine ⟨_,.of hR,fun f hf=>?_⟩
 rw [rR Pl.d mX _ (by rw [aS.length_eq];omega)]
 have Fc:ay M5 f (.lst ((mX.take (ps.length / 2)).map Pl.d)) f=some (.lst ((mX.take (ps.length / 2)).map Pl.d)):=ah
 have zd:=Le.new (o:=MO.lst ((mX.take (ps.length / 2)).map Pl.d)) hf
 generalize ay M5 f (.lst ((mX.take (ps.length / 2)).map Pl.d))=M6 at Fc zd ⊢
 walk_at "rd"
 refine ⟨_,_,rfl,.inr (.inr ⟨r,rfl,zd _ _ hR⟩),?_⟩
 walk_at "rd"
 dsimp only
 rw [e2]
 refine ⟨_,.of (zd _ _ hR),fun g hg=>?_⟩
 rw [rJ Pl.d mX _ (by rw [aS.length_eq];omega)]
 have KP:ay M6 g (.lst ((mX.drop (ps.length / 2)).map Pl.d)) g=some (.lst ((mX.drop (ps.length / 2)).map Pl.d)):=ah
 have Fc:=av (u:=MO.lst ((mX.drop (ps.length / 2)).map Pl.d)) Fc hg
 have zd:=zd.trans (Le.new (o:=MO.lst ((mX.drop (ps.length / 2)).map Pl.d)) hg)
 generalize ay M6 g (.lst ((mX.drop (ps.length / 2)).map Pl.d))=M7 at Fc KP zd ⊢
 have hA:=zd _ _ hA
 have hB:=zd _ _ hB
 have hC:=zd _ _ hC
 have hN:=zd _ _ hN
 have hP:=zd _ _ hP
 have hE:=zd _ _ hE
 have NN:mX.Nodup:=aS.nodup_iff.mpr nd
 have Nf:mX.take (ps.length / 2) ++ mX.drop (ps.length / 2)=mX:=W4 _ _
 have lq:=aS.length_eq
 clear e2 hso
 generalize mX.take (ps.length / 2)=F at *
 generalize mX.drop (ps.length / 2)=S at *
 subst Nf
 rw [VA] at lq
 obtain ⟨nF,nS,_⟩:=VU.mp NN
 obtain ⟨T0,v⟩:=An m5
 obtain ⟨nu,mu,su,lu⟩:=k1
 obtain ⟨nv,mv,sv,lv⟩:=k2
 obtain ⟨nw,mw,sw,lw⟩:=k3
 have Qm:∀ q∈F,q.Ok 140:=fun q hq=>ze q (Vq _ hq)
 have Qn:∀ q∈S,q.Ok 140:=fun q hq=>ze q (Vw _ hq)
 have NO:∀ t,t∈xs↔ic (F ++ S) t∧oN (F ++ S) t:=fun t=>(mx t).trans (and_congr ⟨fun c=>⟨c.1,fun q m=>aS.mem_iff.mpr (c.2 q m)⟩,fun c=>⟨c.1,fun q m=>aS.mem_iff.mp (c.2 q m)⟩⟩ ⟨fun c d hd=>c d (aS.mem_iff.mp hd),fun c d hd=>c d (aS.mem_iff.mpr hd)⟩)
 walk_at "rd"
 refine ⟨f,a,F,us,rfl,Fc,hA,nF,by omega,Qm,nu,mu,su,lu,?_⟩
 walk_at "rd"
 refine ⟨g,b,S,vs,rfl,KP,hB,nS,by omega,Qn,nv,mv,sv,lv,?_⟩
 walk_at "rd"
 refine ⟨c,l,ws,ps,rfl,hC,hP,by omega,sw,fun t ht=>⟨((mw t).mp ht).1.1.1,fun q hq=>aS.mem_iff.mp (((mw t).mp ht).1.1.2 q hq)⟩,?_⟩
 walk_at "rd"
 refine ⟨n,_,rfl,hN,by rw [Vk];omega,bO.mk (dX (fun j acc M9=>M9=M7∧acc=((xs.take j).filter (xo F)).map tD) _ ?_ ?_ ⟨rfl,rfl⟩)⟩
 ·rintro j z acc M9 N2 yU ⟨rfl,rfl⟩ qN
  obtain ⟨t,ht,rfl⟩:=jr yU
  obtain ⟨x1,x2,x3,rfl,_⟩:=((mx t).mp (Vy ht)).1.parts
  refine ⟨hN,?_⟩
  walk_at "rd"
  refine ⟨F,Fc,?_⟩
  cases e:xo F [x1,x2,x3] with
  | true=>
    walk_at "rd"
    refine qN _ _ ⟨rfl,?_⟩
    rw [dZ ht,if_pos e,VM]
    rfl
  | false=>
    walk_at "rd"
    refine qN _ _ ⟨rfl,?_⟩
    rw [dZ ht,if_neg (by rw [e];simp),WE]
 rintro acc M9 ⟨rfl,hacc⟩
 rw [Vk,VZ] at hacc
 subst hacc
 refine ⟨hN,fun u ia=>?_⟩
 have ew:xs.filter (xo F)=ws:=by
  refine kr (je (nx.filter _) nw fun t=>?_) (sx.filter _) sw
  rw [Vu,NO,mw]
  exact and_congr_right fun z=>BA v z.1
 rw [ew]
 refine ⟨_,_,.of (av hC ia),.of ah,cI ws,cI ws,?_⟩
 rw [fy (cI ws)]
 have Fc:=av (u:=MO.lst (ws.map tD)) Fc ia
 have KP:=av (u:=MO.lst (ws.map tD)) KP ia
 have hA:=av (u:=MO.lst (ws.map tD)) hA ia
 have hB:=av (u:=MO.lst (ws.map tD)) hB ia
 have hC:=av (u:=MO.lst (ws.map tD)) hC ia
 have hN:=av (u:=MO.lst (ws.map tD)) hN ia
 have hP:=av (u:=MO.lst (ws.map tD)) hP ia
 have hE:=av (u:=MO.lst (ws.map tD)) hE ia
 generalize ay M9 u (.lst (ws.map tD))=KL at Fc KP hA hB hC hN hP hE ⊢
 walk_at "rd"
 refine ⟨n,_,rfl,hN,?_⟩
 refine bP (fun i ρ M'=>M'=KL∧∃ y:Option L3.D,ρ= [some (.zx (ns.map L3.D.int)),some (.ref l),some (.ref e),some (.tup [.ref a,.ref b,.ref c]),some (.ref n),some (.ref r),some (.ref f),some (.ref g),some (.ref a),some (.ref b),some (.ref c),y,none]) _ ?_ ?_ ⟨rfl,_,rfl⟩
 ·rintro i z ρ M' N yU ⟨rfl,y,rfl⟩ qN
  obtain ⟨t,ht,rfl⟩:=jr yU
  have mt:=(NO t).mp (Vy ht)
  have bi:=BA v mt.1
  have hm:=(nX v t).mp mt
  obtain ⟨x1,x2,x3,rfl,_⟩:=mt.1.parts
  refine ⟨hN,?_⟩
  walk_at "rd"
  refine ⟨F,Fc,?_⟩
  cases eb:xo F [x1,x2,x3] with
  | true=>
    walk_at "rd"
    exact qN _ _ ⟨rfl,_,rfl⟩
  | false=>
    have nb:¬ Fi F S [x1,x2,x3]:=fun z=>by rw [bi.mpr z] at eb;cases eb
    walk_at "rd"
    refine ⟨_,.inr ⟨a,rfl,hA⟩,o6 _,cI us,?_⟩
    rw [v9,if_pos rfl]
    by_cases ku: [x1,x2,x3]∈us
    ·rw [decide_eq_true ku]
     walk_at "rd"
     exact qN _ _ ⟨rfl,_,rfl⟩
    ·rw [decide_eq_false ku]
     have kv: [x1,x2,x3]∈vs:=by
      rcases hm with z | z | z
      ·exact absurd ((mu _).mpr z.1) ku
      ·exact (mv _).mpr z.1
      ·exact absurd z.2 nb
     walk_at "rd"
     refine ⟨_,.inr ⟨b,rfl,hB⟩,o6 _,cI vs,?_⟩
     rw [v9,if_pos rfl,decide_eq_true kv]
     walk_at "rd"
     exact qN _ _ ⟨rfl,_,rfl⟩
 rintro ρ M' ⟨rfl,y,rfl⟩
 refine ⟨hN,?_⟩
 have G5:∀ {R t:List Pl},(¬ ∃ d∈R,t6 t d)→oN R t:=fun h d hd sp=>h ⟨d,hd,sp⟩
 walk_at "rd"
 refine ⟨us,xs,S,hA,KP,hN,by omega,Qn,fun t ht=>⟨((mu t).mp ht).1.1,fun q hq=>Qm q (((mu t).mp ht).1.2 q hq)⟩,fun t ht nt=>Vi fun z=>nt ((NO t).mpr ((nX v t).mpr (.inl ⟨(mu t).mp ht,G5 z⟩))),?_⟩
 walk_at "rd"
 refine ⟨vs,xs,F,hB,Fc,hN,by omega,Qm,fun t ht=>⟨((mv t).mp ht).1.1,fun q hq=>Qn q (((mv t).mp ht).1.2 q hq)⟩,fun t ht nt=>Vi fun z=>nt ((NO t).mpr ((nX v t).mpr (.inr (.inl ⟨(mv t).mp ht,G5 z⟩)))),?_⟩
 walk_at "rd"
 have qf:Le M' M':=Le.refl _
 intro p1 hp1
 have yT:=Le.new (o:=MO.lst [.int 1]) hp1
 have Ru:ay M' p1 (.lst [.int 1]) p1=some (.lst [.int 1]):=ah
 generalize ay M' p1 (.lst [.int 1])=N1 at yT Ru ⊢
 refine ⟨a,p1,_,_,rfl,rfl,(qf.trans yT) _ _ hA,Ru,by rw [Vk];show _+1≤_;omega,fun q1 hq1=>?_⟩
 have Ng:q1≠a:=fun z=>by rw [z,(qf.trans yT) _ _ hA] at hq1;cases hq1
 have Qo:q1≠b:=fun z=>by rw [z,(qf.trans yT) _ _ hB] at hq1;cases hq1
 have Qp:q1≠c:=fun z=>by rw [z,(qf.trans yT) _ _ hC] at hq1;cases hq1
 have AB:ay N1 q1 (.lst (us.map tD ++ [.int 1])) q1=some (.lst (us.map tD ++ [.int 1])):=ah
 have Nh:=Le.new (o:=MO.lst (us.map tD ++ [.int 1])) hq1
 have qf:=qf.trans (yT.trans Nh)
 generalize ay N1 q1 (.lst (us.map tD ++ [.int 1]))=N2 at AB Nh qf ⊢
 walk_at "rd"
 intro p2 hp2
 have tH:=Le.new (o:=MO.lst [.int 2]) hp2
 have Rv:ay N2 p2 (.lst [.int 2]) p2=some (.lst [.int 2]):=ah
 generalize ay N2 p2 (.lst [.int 2])=N3 at tH Rv ⊢
 refine ⟨b,p2,_,_,rfl,rfl,(qf.trans tH) _ _ hB,Rv,by rw [Vk];show _+1≤_;omega,fun q2 hq2=>?_⟩
 have Qq:q2≠a:=fun z=>by rw [z,(qf.trans tH) _ _ hA] at hq2;cases hq2
 have Ni:q2≠b:=fun z=>by rw [z,(qf.trans tH) _ _ hB] at hq2;cases hq2
 have Qt:q2≠c:=fun z=>by rw [z,(qf.trans tH) _ _ hC] at hq2;cases hq2
 have zz:ay N3 q2 (.lst (vs.map tD ++ [.int 2])) q2=some (.lst (vs.map tD ++ [.int 2])):=ah
 have Kx:=Le.new (o:=MO.lst (vs.map tD ++ [.int 2])) hq2
 have qf:=qf.trans (tH.trans Kx)
 generalize ay N3 q2 (.lst (vs.map tD ++ [.int 2]))=N4 at zz Kx qf ⊢
 walk_at "rd"
 intro p3 hp3
 have qM:=Le.new (o:=MO.lst [.int 3]) hp3
 have Rw:ay N4 p3 (.lst [.int 3]) p3=some (.lst [.int 3]):=ah
 generalize ay N4 p3 (.lst [.int 3])=N5 at qM Rw ⊢
 refine ⟨c,p3,_,_,rfl,rfl,(qf.trans qM) _ _ hC,Rw,by rw [Vk];show _+1≤_;omega,fun q3 Ky=>?_⟩
 have Qu:q3≠a:=fun z=>by rw [z,(qf.trans qM) _ _ hA] at Ky;cases Ky
 have Qv:q3≠b:=fun z=>by rw [z,(qf.trans qM) _ _ hB] at Ky;cases Ky
 have Nj:q3≠c:=fun z=>by rw [z,(qf.trans qM) _ _ hC] at Ky;cases Ky
 have Fd:ay N5 q3 (.lst (ws.map tD ++ [.int 3])) q3=some (.lst (ws.map tD ++ [.int 3])):=ah
 have Hx:=Le.new (o:=MO.lst (ws.map tD ++ [.int 3])) Ky
 have qf:=qf.trans (qM.trans Hx)
 generalize ay N5 q3 (.lst (ws.map tD ++ [.int 3]))=N6 at Fd Hx qf ⊢
 walk_at "rd"
 have AB:=(tH.trans Kx) _ _ AB
 have AB:=(qM.trans Hx) _ _ AB
 have zz:=(qM.trans Hx) _ _ zz
 have hA:=qf _ _ hA
 have hB:=qf _ _ hB
 have hC:=qf _ _ hC
 have hP:=qf _ _ hP
 have hE:=qf _ _ hE
 refine ⟨⟨a,_,rfl,hA⟩,?_⟩
 walk_at "rd"
 refine ⟨a,_,rfl,hA,by rw [Vk];omega,?_⟩
 have hA:=ah (M:=N6) (a:=a) (o:=MO.lst (us.map tD ++ [.int 1]))
 have hB:=(aE (M:=N6) (o:=MO.lst (us.map tD ++ [.int 1])) nab.symm).trans hB
 have hC:=(aE (M:=N6) (o:=MO.lst (us.map tD ++ [.int 1])) O5.symm).trans hC
 have hP:=(aE (M:=N6) (o:=MO.lst (us.map tD ++ [.int 1])) Tu).trans hP
 have hE:=(aE (M:=N6) (o:=MO.lst (us.map tD ++ [.int 1])) Tq).trans hE
 have AB:=(aE (M:=N6) (o:=MO.lst (us.map tD ++ [.int 1])) Ng).trans AB
 have zz:=(aE (M:=N6) (o:=MO.lst (us.map tD ++ [.int 1])) Qq).trans zz
 have Fd:=(aE (M:=N6) (o:=MO.lst (us.map tD ++ [.int 1])) Qu).trans Fd
 generalize ay N6 a (.lst (us.map tD ++ [.int 1]))=N7 at hA hB hC hP hE AB zz Fd ⊢
 walk_at "rd"
 refine ⟨⟨b,_,rfl,hB⟩,?_⟩
 walk_at "rd"
 refine ⟨b,_,rfl,hB,by rw [Vk];omega,?_⟩
 have hB:=ah (M:=N7) (a:=b) (o:=MO.lst (vs.map tD ++ [.int 2]))
 have hA:=(aE (M:=N7) (o:=MO.lst (vs.map tD ++ [.int 2])) nab).trans hA
 have hC:=(aE (M:=N7) (o:=MO.lst (vs.map tD ++ [.int 2])) O6.symm).trans hC
 have hP:=(aE (M:=N7) (o:=MO.lst (vs.map tD ++ [.int 2])) Tv).trans hP
 have hE:=(aE (M:=N7) (o:=MO.lst (vs.map tD ++ [.int 2])) Tr).trans hE
 have AB:=(aE (M:=N7) (o:=MO.lst (vs.map tD ++ [.int 2])) Qo).trans AB
 have zz:=(aE (M:=N7) (o:=MO.lst (vs.map tD ++ [.int 2])) Ni).trans zz
 have Fd:=(aE (M:=N7) (o:=MO.lst (vs.map tD ++ [.int 2])) Qv).trans Fd
 generalize ay N7 b (.lst (vs.map tD ++ [.int 2]))=N8 at hA hB hC hP hE AB zz Fd ⊢
 walk_at "rd"
 refine ⟨⟨c,_,rfl,hC⟩,?_⟩
 walk_at "rd"
 refine ⟨c,_,rfl,hC,by rw [Vk];omega,?_⟩
 have hC:=ah (M:=N8) (a:=c) (o:=MO.lst (ws.map tD ++ [.int 3]))
 have hA:=(aE (M:=N8) (o:=MO.lst (ws.map tD ++ [.int 3])) O5).trans hA
 have hB:=(aE (M:=N8) (o:=MO.lst (ws.map tD ++ [.int 3])) O6).trans hB
 have hP:=(aE (M:=N8) (o:=MO.lst (ws.map tD ++ [.int 3])) Tw).trans hP
 have hE:=(aE (M:=N8) (o:=MO.lst (ws.map tD ++ [.int 3])) Tt).trans hE
 have AB:=(aE (M:=N8) (o:=MO.lst (ws.map tD ++ [.int 3])) Qp).trans AB
 have zz:=(aE (M:=N8) (o:=MO.lst (ws.map tD ++ [.int 3])) Qt).trans zz
 have Fd:=(aE (M:=N8) (o:=MO.lst (ws.map tD ++ [.int 3])) Nj).trans Fd
 generalize ay N8 c (.lst (ws.map tD ++ [.int 3]))=N9 at hA hB hC hP hE AB zz Fd ⊢
 have pl:∀ (zs:List (List Pl)) (i:Int),(zs.map tD ++ [L3.D.int i]).all (plain 9)=true:=fun zs i=>by
  rw [List.all_append,cI]
  rfl
 walk_at "rd"
 refine ⟨a,b,c,q1,q2,q3,_,_,_,_,_,_,rfl,rfl,hA,hB,hC,AB,zz,Fd,⟨Ng.symm,Ni.symm,Nj.symm⟩,⟨pl us 1,pl vs 2,pl ws 3⟩,⟨pl us 1,pl vs 2,pl ws 3⟩,?_⟩
 rw [fy (pl us 1),fy (pl vs 2),fy (pl ws 3)]
 walk_at "rd"
 refine ⟨_,_,.of hE,.of hP,bB ps,bB ps,?_⟩
 rw [fy (bB ps)]
 exact h
end
theorem all_mk {P:Program} {w:World} {h:Heap} {mg:Str→Option Value} {fa:Addr} (Y:HD.YP fs bs h) (G:h.Ns mainGlobals mg) (Qh:mg "law" =some (.ref fa)):∃ (K:PySem.W.Frag) (fd:FuncData),K.In h∧(∀ (s:Shared) (v:Value),BindsTo s fd ⟨[v],[]⟩ [("_law_script",v)])∧∀ base:Heap,K.In base→base.Ns mainGlobals mg→bD P w K mg base ff 16 fa fd ["_law_script"] (vL K Fb):=by
 obtain ⟨K,X,H,B⟩:=Y
 unfold fs at H
 unfold bs at B
 obtain ⟨⟨f0,d0,a0,F0⟩,H⟩:=H
 obtain ⟨⟨f1,d1,a1,F1⟩,H⟩:=H
 obtain ⟨⟨f2,d2,a2,F2⟩,H⟩:=H
 obtain ⟨⟨f3,d3,a3,F3⟩,H⟩:=H
 obtain ⟨⟨f4,d4,a4,F4⟩,H⟩:=H
 obtain ⟨⟨f5,d5,a5,F5⟩,H⟩:=H
 obtain ⟨⟨f6,d6,a6,F6⟩,H⟩:=H
 obtain ⟨⟨f7,d7,a7,F7⟩,H⟩:=H
 obtain ⟨⟨f8,d8,a8,F8⟩,H⟩:=H
 obtain ⟨⟨f9,d9,a9,F9⟩,H⟩:=H
 obtain ⟨⟨UE,UG,Tz,TF⟩,H⟩:=H
 obtain ⟨⟨UH,UI,TH,TJ⟩,H⟩:=H
 obtain ⟨⟨Dv,UJ,TL,TM⟩,H⟩:=H
 obtain ⟨⟨UK,UL,TN,TQ⟩,H⟩:=H
 obtain ⟨⟨UM,UN,TR,TU⟩,H⟩:=H
 obtain ⟨⟨UO,UP,TV,TX⟩,H⟩:=H
 obtain ⟨⟨UQ,UR,TY,TZ⟩,H⟩:=H
 obtain ⟨⟨US,UT,T3,T4⟩,H⟩:=H
 obtain ⟨⟨UU,UW,T5,T6⟩,H⟩:=H
 obtain ⟨⟨UX,UY,T7,T8⟩,H⟩:=H
 obtain ⟨⟨UZ,U0,T9,Ua⟩,H⟩:=H
 obtain ⟨⟨U1,U3,Ub,Uc⟩,H⟩:=H
 obtain ⟨⟨U4,U5,Ud,Ue⟩,H⟩:=H
 obtain ⟨⟨U6,U7,Ug,Uh⟩,H⟩:=H
 obtain ⟨⟨U8,U9,Ui,Uj⟩,H⟩:=H
 obtain ⟨⟨Va,Vb,Uk,Ul⟩,H⟩:=H
 obtain ⟨⟨Vc,Vd,Um,Uo⟩,H⟩:=H
 obtain ⟨⟨Ve,Vf,Up,Uq⟩,H⟩:=H
 obtain ⟨⟨Vg,Vh,Rx,Ry⟩,H⟩:=H
 obtain ⟨z0,B⟩:=B
 obtain ⟨z1,B⟩:=B
 obtain ⟨z2,B⟩:=B
 obtain ⟨z3,B⟩:=B
 obtain ⟨z4,B⟩:=B
 obtain ⟨z5,B⟩:=B
 obtain ⟨z6,B⟩:=B
 obtain ⟨z7,B⟩:=B
 obtain ⟨z8,B⟩:=B
 obtain ⟨z9,B⟩:=B
 have e:=Qh.symm.trans (PySem.W.mg_of X G Rx)
 cases e
 have T:Txt K mg ⟨_,_,_,_,_,_,_,_,_,_,_,_,_,_,_,_,_,_,_,_,_,_,_,_,_,_,_,_,_,_,_,_,_,_,_,_,_,_,_,_,_,_,_,_,_,_,_,_,_,_,_,_,_,_,_,_,_,_⟩:=⟨F0,PySem.W.mg_of X G a0,F1,PySem.W.mg_of X G a1,F2,PySem.W.mg_of X G a2,F3,PySem.W.mg_of X G a3,F4,PySem.W.mg_of X G a4,F5,PySem.W.mg_of X G a5,F6,PySem.W.mg_of X G a6,F7,PySem.W.mg_of X G a7,F8,PySem.W.mg_of X G a8,F9,PySem.W.mg_of X G a9,TF,PySem.W.mg_of X G Tz,TJ,PySem.W.mg_of X G TH,TM,PySem.W.mg_of X G TL,TQ,PySem.W.mg_of X G TN,TU,PySem.W.mg_of X G TR,TX,PySem.W.mg_of X G TV,TZ,PySem.W.mg_of X G TY,T4,PySem.W.mg_of X G T3,T6,PySem.W.mg_of X G T5,T8,PySem.W.mg_of X G T7,Ua,PySem.W.mg_of X G T9,Uc,PySem.W.mg_of X G Ub,Ue,PySem.W.mg_of X G Ud,Uh,PySem.W.mg_of X G Ug,Uj,PySem.W.mg_of X G Ui,Ul,PySem.W.mg_of X G Uk,Uo,PySem.W.mg_of X G Um,Uq,PySem.W.mg_of X G Up,Ry,PySem.W.mg_of X G Rx,PySem.W.mg_none_of X G z0,PySem.W.mg_none_of X G z1,PySem.W.mg_none_of X G z2,PySem.W.mg_none_of X G z3,PySem.W.mg_none_of X G z4,PySem.W.mg_none_of X G z5,PySem.W.mg_none_of X G z6,PySem.W.mg_none_of X G z7,PySem.W.mg_none_of X G z8,PySem.W.mg_none_of X G z9⟩
 refine ⟨K,_,X,fun s v=>?_,fun base _ _=>Kw T⟩
 obtain ⟨_,_,_,_,_,_,_,_,_,rfl,_,_⟩:=Ry.ex
 exact .of_eq rfl
end Pf
open PySem PySem.W PyProof.Rows
set_option maxRecDepth 100000 in
set_option maxHeartbeats 0 in
theorem PySem.Challenge.cw_nearland_k44_halves_holds : PySem.Challenge.rw_nearland_k44_halves.Holds := by
 refine holds_law Pf.said fun said=>?_
 refine holds_open (q:=Pf.view) (loose:=Pf.loose) (Xt:=fun s=>xlAt Pf.view [] s && recOk (RowW.records (OpenRow.toRowW PySem.Challenge.rw_nearland_k44_halves.row)) s) (XP:=XL Pf.view []) (Yf:=HD.Fl Pf.fs Pf.bs) (Ya:=fun _=>HD.good Pf.fs Pf.bs) (YP:=fun _ h=>HD.YP Pf.fs Pf.bs h) (N:=3470) Pf.left (fun _ _ e=>HD.Ko e) (fun _ _ _ y k=>HD.keeps y k) (fun s e=>xl_of s (Xs.mp e).1) XL.keeps (by rfl) (by rfl) (by rfl) (fun s e=>recFacts_of (Xs.mp e).2) (by rfl) said (by decide +kernel) ⟨rfl,rfl,rfl,rfl,rfl,by decide +kernel⟩ (by w_witness2) ?hc
 refine HD.E3 (l:=PySem.Challenge.rw_nearland_k44_halves) (n:=63) (k:=16) (x:= "_law_script") (CX:=L2.ff) (sp:=fun K=>L3.vL K Pf.Fb) rfl (by decide) rfl ⟨rfl,by decide,by decide⟩ (fun w mg fa h Y G hmg=>Pf.all_mk Y G hmg) (fun K H a ns hl hb hO hS=>L3.JB hl hO hS) (fun _ _ _ _ z=>z)
