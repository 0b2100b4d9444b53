import PyProof.Rows.All
import Wide.All
import OpenK.AllK
import Wide.FinOn
import Lean
import PyProof.EqAt
import PyProof.EqKinds
import PyProof.TupleCall
import PySem.Challenge.RW_nearland_k43_put_in_any_order
set_option Elab.async false
set_option linter.all false
set_option maxRecDepth 100000
open Bool renaming false_eq_true → TH, false_ne_true → TJ, eq_iff_iff → Uo, not_true → UA, and_eq_true → UU, not_false → U5, not_eq_true' → VE, and_eq_true_iff → VN, false_and → Wv, or_false → WB, and_true → WC, and_false → WV
open Classical renaming byContradiction → Tj
open Int renaming mul_nonneg → TF, mul_nonpos_of_nonneg_of_nonpos → TQ, mul_nonneg_of_nonpos_of_nonpos → TX, mul_nonpos_of_nonpos_of_nonneg → TY, le_of_lt → T3, mul_eq_zero → T6, mul_pos → T8, mul_le_mul_of_nonneg_right → Ui, mul_sub → Uj, sign_eq_one_of_pos → Up, lt_or_gt_of_ne → Ut, mul_neg_of_pos_of_neg → Uv, mul_neg_of_neg_of_pos → Uw, mul_zero → Ux, le_refl → UG, lt_or_lt_of_ne → UJ, emod_lt_of_pos → UO, sign_eq_neg_one_of_neg → US, toNat_natCast → U0, emod_nonneg → U1, lt_trichotomy → U3, mul_comm → U4, mul_pos_of_neg_of_neg → Vb, le_total → Ve, sign_eq_one_iff_pos → Vf, zero_mul → Vg, mul_le_mul_of_nonneg_left → Vl, add_zero → Vp, neg_mul_neg → Vu, neg_mul → VH, sign_eq_neg_one_iff_neg → VW, lt_or_eq_of_le → VX, one_mul → VY, le_of_mul_le_mul_right → VZ, eq_of_mul_eq_mul_left → V4, sign_neg → Wc, mul_one → Wr, zero_add → WJ, lt_or_le → WL
open List renaming mem_cons_of_mem → Tn, length_map → To, mem_cons → Tp, getElem?_eq_getElem → Tq, mem_singleton → Tt, mem_filter → Tu, size_toArray → Tv, length_append → TL, mem_of_getElem? → TM, mem_cons_self → TN, mem_append_left → TR, mem_append → TU, mem_map → TV, pairwise_cons → TZ, nodup_cons → T4, map_append → T5, mem_append_right → T7, getElem?_eq_some_iff → T9, length_reverse → Ua, nodup_append → Ub, perm_append_comm → Uc, map_cons → Ud, length_cons → Ug, getElem?_map → Uh, take_length → Uk, getD_eq_getElem?_getD → Um, lookup_cons → Uq, not_mem_nil → Ur, mem_reverse → Us, length_take → Uy, all_eq_true → Uz, length_dropLast → UB, getLast?_eq_some_getLast → UC, reverse_cons → UE, flatMap_cons → UH, mem_of_mem_take → UK, length_drop → UL, mem_flatMap → UM, mem_of_getLast? → UP, append_nil → UR, getElem?_eq_none → UT, filter_cons → UW, getLast?_reverse → UX, zip_cons_cons → UY, ne_nil_of_mem → UZ, getElem?_append_right → U6, getElem?_zipWith → U7, length_filter_le → U8, length_nil → U9, getElem?_append_left → Va, toList_toArray → Vd, head?_reverse → Vh, getElem?_set_self → Vj, forIn_cons → Vk, mem_of_mem_head? → Vm, mem_iff_getElem? → Vn, perm_cons → Vo, pairwise_append → Vq, drop_eq_getElem_cons → Vr, length_zipWith → Vt, mem_filterMap → Vv, zip_nil_right → Vw, forIn_nil → Vz, take_sublist → VA, mapM_toArray → VB, length_range → VC, reverse_perm → VD, all_cons → VF, any_cons → VG, all_toArray → VI, getElem_mem → VL, getElem?_set_ne → VM, reverse_reverse → VO, filterMap_cons → VP, dropLast_concat_getLast → VR, flatMap_append → VS, mem_range → VT, nodup_nil → VU, take_succ → VV, pairwise_iff_getElem → V0, pairwise_map → V1, exists_mem_of_ne_nil → V2, getLast?_eq_getElem? → V3, take_add_one → V5, getElem?_take_of_lt → V7, length_erase_of_mem → V8, zipIdx_cons → V9, getElem?_replicate → Wa, all_map → Wb, map_map → We, getElem?_cons_zero → Wf, filter_cons_of_neg → Wg, filter_cons_of_pos → Wh, of_mem_zip → Wi, take_of_length_le → Wj, drop_of_length_le → Wl, zipIdx_nil → Wn, length_pos_of_mem → Wo, find?_cons → Wq, length_singleton → Ws, pairwise_reverse → Wt, take_append_drop → Wu, drop_zero → Ww, mem_erase_of_ne → Wy, mem_of_mem_drop → Wz, dropLast_subset → WA, length_pos_iff → WE, mergeSort_perm → WG, ext_getElem? → WM, map_snd_zip → WO, any_eq_true → WQ, perm_middle → WR, map_reverse → WS, foldl_cons → WU, drop_drop → WW
open Nat renaming lt_of_lt_of_le → Tw, le_refl → Tz, ne_of_lt → Ue, ne_of_gt → Ul, le_add_right → Uu, zero_le → UD, le_trans → UI, lt_succ_of_lt → UN, lt_irrefl → UQ, le_succ → Vc, add_lt_add_left → Vs, le_of_lt → Vx, lt_or_ge → Vy, lt_succ_self → VJ, not_lt → VQ, min_self → Wd, not_lt_zero → Wm, pow_le_pow_right → Wx, add_assoc → WD, eq_zero_or_pos → WH, le_of_eq → WI, sub_zero → WK, min_eq_left → WT
open Option renaming map_eq_some_iff → Vi, isSome_iff_exists → V6, getD_none → WN
namespace HD
open PySem PySem.W PySem.Calls
def DY (p:Program) (w:World) (n₀:Nat) (ann:Option Value):Nat→SharedT→Thread→Option SharedT
 | 0,_,_=>none
 | n+1,s,t=>match through t with
   | true=>some s
   | false=>match stepOk n₀ ann t with
     | false=>none
     | true=>match stepT (denote treeTable) p w s t with
       | some (s',t')=>DY p w n₀ ann n s' t'
       | none=>none
theorem zb {p:Program} {w:World} {n₀:Nat} {ann:Option Value}:∀ {n:Nat} {s s':SharedT} {t:Thread},DY p w n₀ ann n s t=some s'→topRun treeTable p w n₀ ann n s.abs t=some s'.abs
 | 0,_,_,_,h=>nomatch h
 | n+1,s,s',t,h=>by
   unfold DY at h
   unfold topRun
   cases a:through t with
   | true=>rw [a] at h;cases h;rfl
   | false=>
     rw [a] at h
     dsimp only at h ⊢
     cases b:stepOk n₀ ann t with
     | false=>rw [b] at h;cases h
     | true=>
       rw [b] at h
       dsimp only at h ⊢
       cases c:stepT (denote treeTable) p w s t with
       | none=>rw [c] at h;cases h
       | some x=>
         obtain ⟨s1,t1⟩:=x
         rw [c] at h
         rw [stepT_spec c]
         exact zb h
noncomputable def Bu (P:Params):BT:=((boot_heap P).objs.toList.foldl (fun x o=>(x.1.ins x.2 o,x.2+1)) (BT.nil,0)).1
theorem Al (P:Params):absHeap (Bu P) 11 (boot_heap P).life=boot_heap P:=by kernel_rfl
theorem Am (w:World):((boot_heap w.params).isNs mainGlobals && (#[]:Array GenState).size == 0,(boot_heap w.params).objs.size,(boot_heap w.params).nsMap mainGlobals "__annotations__")=(true,11,some (.ref 6)):=by kernel_rfl
theorem An {p q:Program} {loose:List Str} {Xt:Shared→Bool} {α:Type} {Yf:Shared→α} {Ya:World→α} {N M:Nat} (e:opening p=plainProg p.main.scope.names) (hN:Nat.ble 600 N=true) (f:∀ s,fenceModules? p s=some s) (le:Nat.ble M N=true)
 (run:∀ (w:World) (os:OsState),(DY p w 11 (some (.ref 6)) M ⟨Bu w.params,11,(boot_heap w.params).life,#[],boot_drawn,boot_toks,os⟩ (topStub p)).map (fun sT=>
  (staticsOk (importedModules p.main.body) (boot_heap w.params) sT.abs.heap && namesBound p sT.abs.heap && gensDone sT.abs && laidKept (boot_heap w.params) sT.abs.heap,openSeen q loose (importedModules p.main.body) Xt true sT.abs,Yf sT.abs))=some (true,openGood q loose,Ya w)):LeftO p q loose Xt Yf Ya N:=fun w=>by
 obtain ⟨⟨h,gs,d,k,os⟩,e,e'⟩:=Vi.mp (boot_open e hN f w)
 obtain ⟨rfl,rfl,rfl,rfl⟩:h=boot_heap w.params∧gs=Array.mk []∧d=boot_drawn∧k=boot_toks:=by simpa using e'
 obtain ⟨z1,z2,z3⟩:_∧_∧_:=by simpa only [Prod.mk.injEq] using Am w
 obtain ⟨sT,e1,e2⟩:=Vi.mp (run w os)
 obtain ⟨l1,l2,l3⟩:_∧_∧_:=by simpa only [Prod.mk.injEq] using e2
 have r:=topRun_mono (N - M) _ _ _ _ (zb e1)
 rw [show M+(N - M)=N by have:=Nat.le_of_ble_eq_true le;omega] at r
 have a:SharedT.abs ⟨Bu w.params,11,(boot_heap w.params).life,#[],boot_drawn,boot_toks,os⟩= ⟨boot_heap w.params,Array.mk [],boot_drawn,boot_toks,os⟩:=by
  unfold SharedT.abs
  dsimp only
  rw [Al]
 rw [a] at r
 have t:topFrom treeTable p w N ⟨boot_heap w.params,Array.mk [],boot_drawn,boot_toks,os⟩=some sT.abs:=by
  unfold topFrom
  dsimp only
  rw [z1,z2,z3,r]
  show (match staticsOk (importedModules p.main.body) (boot_heap w.params) sT.abs.heap && namesBound p sT.abs.heap && gensDone sT.abs && laidKept (boot_heap w.params) sT.abs.heap with | true=>_ | false=>_)=_
  rw [l1]
 unfold openEnds
 rw [e]
 show (topFrom treeTable p w N _).map _=_
 rw [t]
 exact congrArg some (Prod.ext l2 l3)
def dA (s:Stmt):Arguments:=match s with
 | .FunctionDef _ a _ _ _ _ _ _ _ _=>a
 | _=>{ posonlyargs:=[],args:=[],vararg:=none,kwonlyargs:=[],kw_defaults:=[],kwarg:=none,defaults:=[] }
def dB (s:Stmt):List Stmt:=match s with
 | .FunctionDef _ _ b _ _ _ _ _ _ _=>b
 | _=>[]
def dS (s:Stmt):Scope:=match s with
 | .FunctionDef _ _ _ _ _ _ sc _ _ _=>sc
 | _=>{ kind:= .function,names:=[],isGenerator:=false,isCoroutine:=false }
abbrev pr (n:Str) (st:Stmt):Str ×Stmt:=(n,st)
def IW (h:Heap) (n:Str):Option (Option Value):=match h.get? mainGlobals with
 | some o=>nsIn [(mainGlobals,o)] mainGlobals n
 | none=>none
def fnAt (h:Heap) (n:Str):Option (Addr ×FuncData):=match IW h n with
 | some (some (.ref f))=>(match h.get? f with
   | some ⟨_,_,.func fd,_⟩=>some (f,fd)
   | _=>none)
 | _=>none
def jr (h:Heap) (v:Value):Option Str:=match v with
 | .ref c=>(match h.get? c with
   | some ⟨_,_,.fields vs,_⟩=>(match vs.toList with
     | _ :: .str q _ :: _=>some q
     | _=>none)
   | _=>none)
 | _=>none
def blank (fd:FuncData):FuncData:={ fd with kwdefaults:= .none,doc:= .none,pyModule:= .none,annotations:=none,code:= .none,closureTuple:= .none }
abbrev Seen:=List (Option (FuncData ×Option Str)) ×List (Option (Option Value))
def DZ (fs:List (Str ×Stmt)) (bs:List Str) (s:Shared):Seen:=
 (fs.map fun p=>(fnAt s.heap p.1).map fun x=>(blank x.2,jr s.heap x.2.code),bs.map fun b=>IW s.heap b)
def good (fs:List (Str ×Stmt)) (bs:List Str):Seen:=
 (fs.map fun p=>some (fnOf p.1 p.1 (dA p.2) (dB p.2) (dS p.2) .none .none .none .none none .none .none,some p.1),bs.map fun _=>some none)
end HD
namespace  Pf
open PySem PySem.W PyProof.Rows
def top (i:Nat):Stmt:=PySem.Challenge.pw_nearland_k43_put_in_any_order.main.body.getD i (.Pass ⟨0,0,0,0⟩)
abbrev iU:Stmt:=top 28
abbrev jt:Stmt:=top 29
abbrev gM:Stmt:=top 30
abbrev ug:Stmt:=top 7
abbrev ju:Stmt:=top 14
abbrev xN:Stmt:=top 5
abbrev uh:Stmt:=top 15
abbrev xP:Stmt:=top 16
abbrev xQ:Stmt:=top 8
abbrev pH:Stmt:=top 17
abbrev xR:Stmt:=top 19
abbrev pI:Stmt:=top 21
abbrev bX:Stmt:=top 22
abbrev fX:Stmt:=top 10
abbrev mU:Stmt:=top 11
abbrev fy:Stmt:=top 12
abbrev dN:Stmt:=top 24
abbrev gO:Stmt:=top 20
abbrev fY:Stmt:=top 25
abbrev iV:Stmt:=top 26
abbrev eE:Stmt:=top 34
abbrev iW:Stmt:=top 31
abbrev gP:Stmt:=top 32
abbrev gQ:Stmt:=top 33
abbrev cz:Stmt:=top 35
abbrev sI:Stmt:=top 36
def view:Program:={ PySem.Challenge.pw_nearland_k43_put_in_any_order with main:={ PySem.Challenge.pw_nearland_k43_put_in_any_order.main with body:=[top 36] } }
def loose:List Str:=(["NearError","Flat","Twice","sign","twice","turn","without_bays","outline","outline_sides","ring_area","apart","ring","spoils","back","triangle_of","rounds","directed_sides","seen_sides","put_in","by_putting","_law_given","_law_spot","_law_ground","_law_twice","_law_within","_law_spoils","_law_triangles","_law_is_net"]:List String).map Str.ofString
def fs:List (Str ×Stmt):=[HD.pr "_law_given" iU,HD.pr "_law_spot" jt,HD.pr "_law_ground" gM,HD.pr "twice" ug,HD.pr "ring_area" ju,HD.pr "sign" xN,HD.pr "apart" uh,HD.pr "ring" xP,HD.pr "turn" xQ,HD.pr "spoils" pH,HD.pr "back" xR,HD.pr "rounds" pI,HD.pr "directed_sides" bX,HD.pr "without_bays" fX,HD.pr "outline" mU,HD.pr "outline_sides" fy,HD.pr "seen_sides" dN,HD.pr "triangle_of" gO,HD.pr "put_in" fY,HD.pr "by_putting" iV,HD.pr "_law_triangles" eE,HD.pr "_law_twice" iW,HD.pr "_law_within" gP,HD.pr "_law_spoils" gQ,HD.pr "_law_is_net" cz,HD.pr "law" sI]
def bs:List Str:=["len","range","sorted","list","reversed","zip","isinstance","tuple","bool","min","max"]
set_option maxHeartbeats 0 in
theorem said:PySem.Challenge.rw_nearland_k43_put_in_any_order.wellSaid=true:=by
 unfold OpenLaw.wellSaid OpenRow.wellSaid OpenRow.partSaid looksOpen
 repeat' (with_reducible refine look_both ?_ ?_)
 all_goals decide +kernel
set_option maxHeartbeats 0 in
theorem left:LeftO PySem.Challenge.rw_nearland_k43_put_in_any_order.row.prog view loose (fun s=>xlAt view [] s && recOk (RowW.records (OpenRow.toRowW PySem.Challenge.rw_nearland_k43_put_in_any_order.row)) s) (HD.DZ fs bs) (fun _=>HD.good fs bs) 3762:=HD.An (M:=1631) (by kernel_rfl) (by kernel_rfl) (fun s=>by kernel_rfl) (by kernel_rfl) (fun w os=>by kernel_rfl)
end Pf
namespace L2
open PySem PySem.Spec PyProof.Rows
abbrev Key:=Sum Int Str
def FO:Key→Value→Bool
 | .inl k,v=>Value.isInt k v
 | .inr x,v=>Value.isStrOf x v
def L1 (w:World):Key→Int
 | .inl k=>hashInt k
 | .inr x=>hashStr w x
theorem bP:∀ {k:Key} {v:Value},FO k v=true→(∃ i t,k=Sum.inl i∧v=Value.int i t)∨(∃ x t,k=Sum.inr x∧v=Value.str x t)
 | .inl i,v,h=>by
   obtain ⟨t,e⟩:=Value.isInt_shape (k:=i) (v:=v) h
   exact .inl ⟨i,t,rfl,e⟩
 | .inr x,v,h=>by
   obtain ⟨t,e⟩:=Value.isStrOf_shape (x:=x) (v:=v) h
   exact .inr ⟨x,t,rfl,e⟩
theorem GD (a b:Int):decide ((Sum.inl a:Key)=Sum.inl b)=(a == b):=by
 by_cases e:a=b
 ·subst e;simp
 ·have h:¬ (Sum.inl a:Key)=Sum.inl b:=fun q=>e (Sum.inl.inj q)
  rw [decide_eq_false h]
  exact (beq_eq_false_iff_ne.mpr e).symm
theorem GF (a b:Str):decide ((Sum.inr a:Key)=Sum.inr b)=decide (a=b):=by
 by_cases e:a=b
 ·subst e;simp
 ·have h:¬ (Sum.inr a:Key)=Sum.inr b:=fun q=>e (Sum.inr.inj q)
  rw [decide_eq_false h,decide_eq_false e]
theorem GG (a:Int) (b:Str):decide ((Sum.inl a:Key)=Sum.inr b)=false:=decide_eq_false (fun q=>nomatch q)
theorem GH (a:Str) (b:Int):decide ((Sum.inr a:Key)=Sum.inl b)=false:=decide_eq_false (fun q=>nomatch q)
def zc (prog:Program) (w:World):PySem.KeyKind prog w Key where
 is:=FO
 hash:=L1 w
 inj:=fun v a b ha hb=>by
  rcases bP ha with ⟨i,t,rfl,rfl⟩ | ⟨x,t,rfl,rfl⟩
  ·rcases bP hb with ⟨j,u,rfl,e⟩ | ⟨y,u,rfl,e⟩
   ·injection e with e1 _;rw [e1]
   ·exact nomatch e
  ·rcases bP hb with ⟨j,u,rfl,e⟩ | ⟨y,u,rfl,e⟩
   ·exact nomatch e
   ·injection e with e1 _;rw [e1]
 byValue:=fun k v h=>by
  rcases bP h with ⟨i,t,rfl,rfl⟩ | ⟨x,t,rfl,rfl⟩ <;> rfl
 pyHash:=fun hv h=>by
  rcases bP hv with ⟨i,t,rfl,rfl⟩ | ⟨x,t,rfl,rfl⟩
  ·exact wpAny_pyHash_int h
  ·exact wpAny_pyHash_str h
 eqBool:=fun hu hv h=>by
  rcases bP hu with ⟨i,t,rfl,rfl⟩ | ⟨x,t,rfl,rfl⟩
  ·rcases bP hv with ⟨j,u,rfl,rfl⟩ | ⟨y,u,rfl,rfl⟩
   ·rw [GD] at h;exact wpAny_eqBool_int h
   ·rw [GG] at h;exact SeqAt.EqAt.int_str i t y u _ _ _ _ h
  ·rcases bP hv with ⟨j,u,rfl,rfl⟩ | ⟨y,u,rfl,rfl⟩
   ·rw [GH] at h;exact SeqAt.EqAt.str_int x t j u _ _ _ _ h
   ·rw [GF] at h;exact wpAny_eqBool_str h
 «strs» :=fun k x t v h=>by
  rcases bP h with ⟨i,u,rfl,e⟩ | ⟨y,u,rfl,e⟩
  ·exact nomatch e
  ·injection e with e1 _
   subst e1
   cases v <;> rfl
end L2
namespace L2
open PySem PySem.Spec PyProof.Rows
inductive V where
 | bz | bl (b:Bool) | int (i:Int) | str (x:Str) | Bv (b:Array UInt8) | IX (b:UInt64) | ref (a:Addr) | ty (n:String)
 deriving DecidableEq
def RelV:V→Value→Prop
 | .bz,u=>u=Value.none
 | .bl b,u=>u=Value.bool b
 | .int i,u=> ∃ t,u=Value.int i t
 | .str x,u=> ∃ t,u=Value.str x t
 | .Bv b,u=> ∃ t,u=Value.bytes b t
 | .IX b,u=> ∃ t,u=Value.float b t
 | .ref a,u=>u=Value.ref a
 | .ty n,u=>u=Value.type n
abbrev Vals:List V→List Value→Prop:=Paired RelV
theorem Vals.length {xs:List V} {us:List Value} (r:Vals xs us):xs.length=us.length:=Paired.length r
theorem Vals.get:∀ {xs:List V} {us:List Value} {i:Nat} {x:V},Vals xs us→xs[i]?=some x→∃ u,us[i]?=some u∧RelV x u
 | _,_,_,_,.nil,e=>by simp at e
 | _,_,0,_,.cons r _,e=>by simp at e;subst e;exact ⟨_,rfl,r⟩
 | _,_,i+1,x,.cons _ t,e=>by
   obtain ⟨u,h1,h2⟩:=Vals.get (i:=i) (x:=x) t (by simpa using e)
   exact ⟨u,by simpa using h1,h2⟩
theorem Vals.append:∀ {xs ys:List V} {us ws:List Value},Vals xs us→Vals ys ws→Vals (xs ++ ys) (us ++ ws)
 | _,_,_,_,.nil,s=>s
 | _,_,_,_,.cons r t,s=> .cons r (Vals.append t s)
theorem Vals.take:∀ {xs:List V} {us:List Value} (n:Nat),Vals xs us→Vals (xs.take n) (us.take n)
 | _,_,0,_=> .nil
 | _,_,_+1,.nil=> .nil
 | _,_,n+1,.cons r t=> .cons r (Vals.take n t)
theorem Vals.drop:∀ {xs:List V} {us:List Value} (n:Nat),Vals xs us→Vals (xs.drop n) (us.drop n)
 | _,_,0,r=>r
 | _,_,_+1,.nil=> .nil
 | _,_,n+1,.cons _ t=>Vals.drop n t
def GI:Option V→Option Value→Prop
 | some v,some u=>RelV v u
 | none,none=>True
 | _,_=>False
def KV {κ:Type}:List (κ ×V)→List (κ ×Value)→Prop:=Paired fun (p:κ ×V) (q:κ ×Value)=>p.1=q.1∧RelV p.2 q.2
def kV:Key→V
 | .inl i=> .int i
 | .inr x=> .str x
inductive HO where
 | lst (xs:List V)
 | tup (xs:List V)
 | dK (kvs:List (Key ×V)) | dT (kvs:List (List Key ×V))
 | set (S:Int→Bool) (n:Nat)
 | ins (C dx:Addr) (fs:List (Str ×V))
 | own (x:Addr)
 | xd (fs:List (Str ×V))
 | met (f x:Addr)
 | L4 (lo hi:Int)
 | kW (o:Obj) (u:HO)
 | GJ (ps:Array Value)
 | ext (φ:Heap→Prop)
abbrev Hp:=Addr→Option HO
def upd (H:Hp) (a:Addr) (o:HO):Hp:=fun b=>if b=a then some o else H b
theorem bN {H:Hp} {a:Addr} {o:HO}:upd H a o a=some o:=by unfold upd;rw [if_pos rfl]
theorem aQ {H:Hp} {a b:Addr} {o:HO} (h:b≠a):upd H a o b=H b:=by unfold upd;rw [if_neg h]
theorem zd {H:Hp} {a b:Addr} {o u:HO} (h:H a=some o) (h':H b=some u) (d:o≠u):a≠b:=by
 intro e;subst e;rw [h] at h';exact d (Option.some.inj h')
theorem bE {H:Hp} {a b:Addr} {o:HO} (h:H a=some o) (h':H b=none):a≠b:=by
 intro e;subst e;rw [h] at h';cases h'
section
variable (P:Program) (w:World)
def cy (H:Hp) (h:Heap) (a:Addr):HO→Prop
 | .lst xs=>xs.length≤sizeLine∧∃ (its:List Value) (n:Nat),Vals xs its∧h.get? a=some { cls:= .type "list",data:= .seq its.toArray n }
 | .tup xs=>xs.length≤sizeLine∧∃ its:List Value,Vals xs its∧IsTup h a its.toArray
 | .dK kvs=>kvs.length≤sizeLine∧(a == sysModules)=false∧∃ vs,KV kvs vs∧h.DictOf (zc P w) a vs
 | .dT kvs=>kvs.length≤sizeLine∧(a == sysModules)=false∧∃ xs:List (List Key ×Addr ×Value),
  Paired (fun (p:List Key ×V) (q:List Key ×Addr ×Value)=>p.1=q.1∧H q.2.1=some (.tup (p.1.map kV))∧RelV p.2 q.2.2) kvs xs∧
  ∃ o es ep,h.get? a=some o∧o.ExactDict∧o.data= .dict es ep∧es.toList=xs.map (entryOfKey (tupleKind (zc P w)))∧(xs.map (·.1)).Nodup
 | .set S n=>h.SetOf (intKind P w) a S n
 | .ins C dx fs=>H dx=some (.own a)∧fs.length≤1000∧dx≠a∧h.get? a=some (PySem.W.instObj C dx)∧
  ∃ mA,h.Ns1 dx mA∧(∀ f,GI (fs.lookup f) (mA f))∧PySem.Within mA (fs.map (·.1))
 | .own _=> ∃ o,h.get? a=some o
 | .xd fs=> ∃ mA,h.Ns1 a mA∧∀ f,GI (fs.lookup f) (mA f)
 | .L4 lo hi=> ∃ t u v,h.get? a=some { cls:= .type "range",data:= .fields #[.int lo t,.int hi u,.int 1 v] }
 | .kW o u=>h.get? a=some o∧cy H h a u
 | .GJ ps=>h.get? a=some { cls:= .none,data:= .fields ps }
 | .met f x=>h.get? a=some (PySem.W.methodObj (.ref f) (.ref x))
 | .ext φ=>φ h∧(∃ o,h.get? a=some o)∧∀ h1 h2:Heap,φ h1→(∀ o,h1.get? a=some o→h2.get? a=some o)→φ h2
def iX (H:Hp) (h:Heap):Prop:= ∀ a o,H a=some o→cy P w H h a o
end
section
variable {P:Program} {w:World} {H H':Hp} {h h':Heap} {a:Addr} {o:HO}
theorem cy.lt (x:cy P w H h a o):a < h.objs.size:=by
 cases o with
 | lst xs=>obtain ⟨_,_,_,_,e⟩:=x;exact Heap.lt_size e
 | tup xs=>obtain ⟨_,_,_,p⟩:=x;exact p.lt
 | dK kvs=>obtain ⟨_,_,_,_,o,_,_,e,_⟩:=x;exact Heap.lt_size e
 | dT kvs=>obtain ⟨_,_,_,_,o,_,_,e,_⟩:=x;exact Heap.lt_size e
 | set S n=>obtain ⟨o,_,_,_,e,_⟩:=x;exact Heap.lt_size e
 | ins C dx fs=>obtain ⟨_,_,_,e,_⟩:=x;exact Heap.lt_size e
 | own y=>obtain ⟨_,e⟩:=x;exact Heap.lt_size e
 | xd fs=>obtain ⟨_,⟨_,_,_,e,_⟩,_⟩:=x;exact Heap.lt_size e
 | L4 lo hi=>obtain ⟨_,_,_,e⟩:=x;exact Heap.lt_size e
 | kW ob u=>obtain ⟨e,_⟩:=x;exact Heap.lt_size e
 | GJ ps=>exact Heap.lt_size (show h.get? a=some _ from x)
 | met f y=>exact Heap.lt_size (show h.get? a=some _ from x)
 | ext φ=>obtain ⟨_,⟨_,e⟩,_⟩:=x;exact Heap.lt_size e
theorem Paired.D3 {α β:Type} {F G:α→β→Prop}:∀ {l₁:List α} {l₂:List β},Paired F l₁ l₂→(∀ a b,F a b→G a b)→Paired G l₁ l₂
 | _,_,.nil,_=> .nil
 | _,_,.cons r t,f=> .cons (f _ _ r) (Paired.D3 t f)
theorem cy.stay (x:cy P w H h a o) (k:∀ b u,(b=a∨H b=some (.own a))→h.get? b=some u→h'.get? b=some u)
 (ho:∀ b,H b=some (.own a)→H' b=some (.own a)) (ht:∀ b xs,H b=some (.tup xs)→H' b=some (.tup xs)):cy P w H' h' a o:=by
 induction o with
 | lst xs=>obtain ⟨z,its,n,r,e⟩:=x;exact ⟨z,its,n,r,k _ _ (.inl rfl) e⟩
 | tup xs=>obtain ⟨z,its,r,ob,e,c⟩:=x;exact ⟨z,its,r,ob,k _ _ (.inl rfl) e,c⟩
 | dK kvs=>obtain ⟨z,y,vs,r,ob,es,ep,e,c⟩:=x;exact ⟨z,y,vs,r,ob,es,ep,k _ _ (.inl rfl) e,c⟩
 | dT kvs=>
   obtain ⟨z,y,xs,r,ob,es,ep,e,c⟩:=x
   exact ⟨z,y,xs,Paired.D3 r fun p q z=>⟨z.1,ht _ _ z.2.1,z.2.2⟩,ob,es,ep,k _ _ (.inl rfl) e,c⟩
 | set S n=>obtain ⟨ob,es,ep,t,e,c⟩:=x;exact ⟨ob,es,ep,t,k _ _ (.inl rfl) e,c⟩
 | ins C dx fs=>
   obtain ⟨d,z,ne,e,mA,⟨od,es,ep,e2,c⟩,r⟩:=x
   exact ⟨ho _ d,z,ne,k _ _ (.inl rfl) e,mA,⟨od,es,ep,k _ _ (.inr d) e2,c⟩,r⟩
 | own y=>obtain ⟨ob,e⟩:=x;exact ⟨ob,k _ _ (.inl rfl) e⟩
 | xd fs=>obtain ⟨mA,⟨od,es,ep,e,c⟩,r⟩:=x;exact ⟨mA,⟨od,es,ep,k _ _ (.inl rfl) e,c⟩,r⟩
 | L4 lo hi=>obtain ⟨t,u,v,e⟩:=x;exact ⟨t,u,v,k _ _ (.inl rfl) e⟩
 | kW ob u ih=>obtain ⟨e,q⟩:=x;exact ⟨k _ _ (.inl rfl) e,ih q⟩
 | GJ ps=>
   have e:h.get? a=some { cls:= .none,data:= .fields ps }:=x
   show h'.get? a=some { cls:= .none,data:= .fields ps }
   exact k a _ (.inl rfl) e
 | met f y=>
   have e:h.get? a=some (PySem.W.methodObj (.ref f) (.ref y)):=x
   show h'.get? a=some (PySem.W.methodObj (.ref f) (.ref y))
   exact k a _ (.inl rfl) e
 | ext φ=>obtain ⟨p,⟨o,e⟩,st⟩:=x;exact ⟨st _ _ p fun o q=>k _ _ (.inl rfl) q,⟨o,k _ _ (.inl rfl) e⟩,st⟩
theorem iX.lt (x:iX P w H h) (e:H a=some o):a < h.objs.size:=(x a o e).lt
theorem iX.fresh (x:iX P w H h) (e:h.objs.size≤a):H a=none:=by
 cases q:H a with
 | none=>rfl
 | some u=>exact absurd (Tw (x.lt q) e) (UQ _)
theorem iX.kept (x:iX P w H h) (k:∀ b u,h.get? b=some u→h'.get? b=some u):iX P w H h':=fun a o e=>
 (x a o e).stay (fun b u _ q=>k b u q) (fun _ q=>q) fun _ _ q=>q
theorem iX.laid (x:iX P w H h) (k:∀ b u,h.get? b=some u→h'.get? b=some u) (hp:h.objs.size≤a) (new:cy P w (upd H a o) h' a o):iX P w (upd H a o) h':=fun b u e=>by
 have hn:=x.fresh hp
 by_cases hb:b=a
 ·subst hb;rw [bN] at e;cases e;exact new
 ·rw [aQ hb] at e
  exact (x b u e).stay (fun c v _ q=>k c v q) (fun c q=>by rw [aQ (bE q hn)];exact q) fun c xs q=>by rw [aQ (bE q hn)];exact q
end
def Rd (H:Hp) (a:Addr) (u:HO):Prop:=H a=some u∨∃ o,H a=some (.kW o u)
theorem Rd.ok {P:Program} {w:World} {H:Hp} {h:Heap} {a:Addr} {u:HO} (r:Rd H a u) (x:iX P w H h):cy P w H h a u:=by
 rcases r with r | ⟨o,r⟩
 ·exact x a u r
 ·obtain ⟨_,q⟩:=x a _ r
  exact q
def Ly:Option HO→Prop
 | some (.lst _)=>True
 | some (.dK _)=>True
 | some (.dT _)=>True
 | some (.set _ _)=>True
 | some (.ins _ _ _)=>True
 | some (.ext _)=>True
 | _=>False
section
variable {P:Program} {w:World} {H:Hp} {h h':Heap} {x e:Addr} {o':HO}
theorem iX.write (ok:iX P w H h) (mu:Ly (H x)) (he:e=x∨H e=some (.own x)) (k:∀ b u,b≠e→h.get? b=some u→h'.get? b=some u) (IY:∃ u,h'.get? e=some u)
 (new:cy P w (upd H x o') h' x o'):iX P w (upd H x o') h':=fun b u q=>by
 have Ji:∀ c y,H c=some (.own y)→c≠x:=fun c y r z=>by subst z;rw [r] at mu;exact mu
 have L5:∀ c xs,H c=some (.tup xs)→c≠x:=fun c xs r z=>by subst z;rw [r] at mu;exact mu
 by_cases hb:b=x
 ·subst hb;rw [bN] at q;cases q;exact new
 ·rw [aQ hb] at q
  by_cases GK:b=e
  ·have q':H b=some (.own x):=by
    rcases he with z | z
    ·exact absurd (GK.trans z) hb
    ·rw [GK];exact z
   rw [q] at q';cases q'
   obtain ⟨v,hv⟩:=IY
   exact ⟨v,by rw [GK];exact hv⟩
  ·refine (ok b u q).stay (fun c v hc r=>k c v ?_ r) (fun c r=>by rw [aQ (Ji c b r)];exact r) fun c xs r=>by rw [aQ (L5 c xs r)];exact r
   rcases hc with rfl | hc
   ·exact GK
   ·rintro rfl
    rcases he with z | z
    ·exact Ji c b hc z
    ·rw [hc] at z;cases z;exact hb rfl
end
structure Un (fs ex:List Addr) (H H':Hp) (h h':Heap):Prop where
 keep:∀ b o,h.get? b=some o→H b=none→b∉fs→b∉ex→h'.get? b=some o
 slot:∀ b o,h.get? b=some o→H b=none→b∈fs→b∉ex→∃ sl,h'.get? b=some { o with slots:=sl }
 free:∀ b o,h.get? b=some o→H b=none→b∉ex→H' b=none
 there:∀ b o,h.get? b=some o→b∉ex→∃ o',h'.get? b=some o'
 tups:∀ b xs,H b=some (.tup xs)→H' b=some (.tup xs)
 um:∀ b o u,H b=some (.kW o u)→H' b=some (.kW o u)
 vV:∀ b ps,H b=some (.GJ ps)→∃ more,H' b=some (.GJ (ps ++ more))
section
variable {fs fs' ex ex':List Addr} {H H1 H2:Hp} {h h1 h2 h':Heap} {a x e:Addr} {o:HO}
theorem Un.any (u:Un fs ex H H1 h h1) {b:Addr} {ob:Obj} (q:h.get? b=some ob) (n:H b=none) (hx:b∉ex):∃ sl,h1.get? b=some { ob with slots:=sl }:=by
 by_cases hb:b∈fs
 ·exact u.slot b ob q n hb hx
 ·exact ⟨ob.slots,u.keep b ob q n hb hx⟩
theorem Un.kept (k:∀ b u,h.get? b=some u→h'.get? b=some u):Un fs ex H H h h':=
 ⟨fun b ob q _ _ _=>k b ob q,fun b ob q _ _ _=>⟨ob.slots,k b ob q⟩,fun _ _ _ n _=>n,fun b ob q _=>⟨ob,k b ob q⟩,fun _ _ q=>q,fun _ _ _ q=>q,fun _ ps q=>⟨#[],by rw [q];simp⟩⟩
theorem Un.refl:Un fs ex H H h h:=Un.kept fun _ _ q=>q
theorem Un.laid (k:∀ b u,h.get? b=some u→h'.get? b=some u) (hp:h.objs.size≤a) (hn:H a=none):Un fs ex H (upd H a o) h h' where
 keep:=fun b u q _ _ _=>k b u q
 slot:=fun b u q _ _ _=>⟨u.slots,k b u q⟩
 free:=fun b u q n _=>by rw [aQ (Ue (Tw (Heap.lt_size q) hp))];exact n
 there:=fun b u q _=>⟨u,k b u q⟩
 tups:=fun b xs q=>by rw [aQ (bE q hn)];exact q
 um:=fun b u xs q=>by rw [aQ (bE q hn)];exact q
 vV:=fun b ps q=>⟨#[],by rw [aQ (bE q hn),q];simp⟩
theorem Un.write (mu:Ly (H x)) (he:e=x∨H e=some (.own x)) (k:∀ b u,b≠e→h.get? b=some u→h'.get? b=some u) (IY:∃ u,h'.get? e=some u):Un fs ex H (upd H x o) h h':=by
 have hx:∀ b,H b=none→b≠x:=fun b n z=>by subst z;rw [n] at mu;exact mu
 have hb:∀ b,H b=none→b≠e:=fun b n z=>by
  subst z
  rcases he with r | r
  ·exact hx b n r
  ·rw [n] at r;cases r
 have hm:∀ b u,H b=some u→¬ Ly (some u)→b≠x:=fun b u q nm z=>by subst z;rw [q] at mu;exact nm mu
 refine ⟨fun b u q n _ _=>k b u (hb b n) q,fun b u q n _ _=>⟨u.slots,k b u (hb b n) q⟩,fun b u q n _=>by rw [aQ (hx b n)];exact n,fun b u q _=>?_,
  fun b xs q=>by rw [aQ (hm b _ q fun z=>z)];exact q,fun b u xs q=>by rw [aQ (hm b _ q fun z=>z)];exact q,fun b ps q=>⟨#[],by rw [aQ (hm b _ q fun z=>z),q];simp⟩⟩
 by_cases GK:b=e
 ·subst GK;exact IY
 ·exact ⟨u,k b u GK q⟩
end
def Lz (h:Heap) (H:Hp):List Addr:=(List.range h.objs.size).filter fun a=>(H a).isSome
def uo (h:Heap) (H:Hp):Heap:=PySem.W.hideAll h (Lz h H)
theorem Ao (h:Heap) (H:Hp):(uo h H).objs.size=h.objs.size:=PySem.W.hideAll_size _ _
theorem Bw {h:Heap} {H:Hp} {b:Addr} {o:Obj} (e:h.get? b=some o) (n:H b=none):(uo h H).get? b=some o:=
 PySem.W.hideAll_get _ e fun hm=>by
  have q:(H b).isSome=true:=(Tu.mp hm).2
  rw [n] at q;simp at q
theorem D4 {h:Heap} {H:Hp} {b:Addr} {o:Obj} (e:(uo h H).get? b=some o):h.get? b=some o∧H b=none:=by
 have e':h.get? b=some o:=PySem.W.of_hideAll (Lz h H) e
 refine ⟨e',?_⟩
 cases q:H b with
 | none=>rfl
 | some x=>
   have hm:b∈Lz h H:=Tu.mpr ⟨VT.mpr (Heap.lt_size e'),by simp [q]⟩
   have z:(uo h H).get? b=none:=PySem.W.hideAll_none (Lz h H) hm
   rw [z] at e;cases e
def D5 (g h:Heap) (L:Addr):List (Addr ×Obj):=(List.range h.objs.size).filterMap fun a=>if a=L∨(g.get? a).isSome=true then none else (h.get? a).map fun o=>(a,o)
def rest (g h:Heap) (L d:Addr):List (Addr ×Obj):=(D5 g h L).filter fun p=>decide (p.1≠d)
end L2
namespace L2
open PySem PySem.Spec PyProof.Rows
structure Mod (K:PySem.W.Frag) (mg:Str→Option Value) (base:Heap):Prop where
 vP:K.In base
 glob:base.Ns mainGlobals mg
 blt:∃ mb,base.Ns builtinsNs mb∧∀ x:Str,x≠"__name__"→mb x=bootBuiltins x
 nolimit:base.NoLimit
structure Cx where
 prog:Program
 w:World
 K:PySem.W.Frag
 mg:Str→Option Value
 base:Heap
 A:Around
 N:List Str
 s₀:Shared
 H₀:Hp
 env:Env
 outer:List Env
 stack:List Env
 ex:List Addr
 fn:Str→Bool
 calm:Bool
 pn:List (Addr ×Obj)
 xe:Value→Shared→Prop
def frs (l:List Env):List Addr:=l.filterMap (·.frame)
abbrev Cx.fs (X:Cx):List Addr:=frs X.outer
def L6 (sc:Scope) (x:Str):Prop:=sc.names.lookup x=some .local∨sc.names.lookup x=some .cell∨sc.names.lookup x=some .free
def Loc (sc:Scope) (x:Str):Prop:=sc.names.lookup x=some .local∨sc.names.lookup x=some .cell
def Look (env:Env) (h:Heap) (m:Str→Option Value) (x:Str) (u:Value):Prop:=
 (env.kindOf x=some .local∧m x=some u)∨((env.kindOf x=some .cell∨env.kindOf x=some .free)∧∃ c,env.cells.lookup x=some c∧h.IsCell c (some u))
structure Cx.Ok (X:Cx):Prop where
 mod:Mod X.K X.mg X.base
 kind:X.env.scope.kind= .function
 glob:X.env.globals=mainGlobals
 blt:X.env.builtins=builtinsNs
 above:X.s₀.heap.objs.size≤X.env.locals
 inj:∀ x y c,X.env.cells.lookup x=some c→X.env.cells.lookup y=some c→x=y
 has:∀ x,(X.env.kindOf x=some .cell∨X.env.kindOf x=some .free)→∃ c,X.env.cells.lookup x=some c
 IZ:∀ x c,X.fn x=true→X.env.cells.lookup x=some c→X.s₀.heap.objs.size≤c
 hd:X.calm=true→X.A.handled=none
 frames:X.A.frames=some X.stack
 stk:X.stack=X.outer∨(X.stack=X.env :: X.outer∧X.env.frame=some X.env.locals)
 Jj:∀ b∈X.ex,b≠X.env.locals∧∀ x c,X.env.cells.lookup x=some c→c≠b
 bs:∀ b o,X.base.get? b=some o→X.s₀.heap.get? b=some o∧X.H₀ b=none
 FP:X.base.objs.size≤X.s₀.heap.objs.size
 Aq:∀ b o,X.base.get? b=some o→b∉X.ex
 Ar:∀ b∈X.ex,b∉X.fs
 oM:X.s₀.heap.FunFrames X.base X.outer
 GL:∀ b∈X.fs,X.H₀ b=none
structure Inv (X:Cx) (pins:List (Addr ×Obj)) (σ:List (Option V)) (H:Hp) (s:Shared):Prop where
 ok:X.Ok
 os:s.os=X.s₀.os
 bare:AllBare s.gens
 base:Un X.fs X.ex X.H₀ H X.s₀.heap s.heap
 loc:∃ m,s.heap.Ns X.env.locals m∧∀ (i:Nat) (x:Str) (v:V),X.N[i]?=some x→σ[i]?=some (some v)→L6 X.env.scope x→∃ u,RelV v u∧Look X.env s.heap m x u
 cell:∀ x c,X.env.cells.lookup x=some c→∃ v,s.heap.IsCell c v
 free:H X.env.locals=none
 kH:∀ x c,X.env.cells.lookup x=some c→H c=none
 pin:∀ p∈X.pn ++ pins,s.heap.get? p.1=some p.2∧H p.1=none∧p.1≠X.env.locals∧p.1∉X.fs∧∀ v,p.2.data≠ .cell v
 hok:iX X.prog X.w H s.heap
 len:σ.length=X.N.length
section
variable {X:Cx} {pins:List (Addr ×Obj)} {σ:List (Option V)} {H H':Hp} {s:Shared} {h':Heap}
theorem Cx.Ok.L7 (ok:X.Ok) {b:Addr} {o:Obj} (e:X.base.get? b=some o):b∉X.fs:=fun hb=>by
 have:=(ok.oM.mem hb).1
 rw [e] at this;cases this
theorem Inv.bs (I:Inv X pins σ H s):∀ b o,X.base.get? b=some o→s.heap.get? b=some o∧H b=none:=fun b o e=>
 ⟨I.base.keep b o (I.ok.bs b o e).1 (I.ok.bs b o e).2 (I.ok.L7 e) (I.ok.Aq b o e),I.base.free b o (I.ok.bs b o e).1 (I.ok.bs b o e).2 (I.ok.Aq b o e)⟩
theorem Inv.bk (I:Inv X pins σ H s):∀ b o,X.base.get? b=some o→s.heap.get? b=some o:=fun b o e=>(I.bs b o e).1
theorem Inv.mod (I:Inv X pins σ H s):Mod X.K X.mg X.base:=I.ok.mod
theorem Inv.vQ (I:Inv X pins σ H s):X.K.In s.heap:=I.ok.mod.vP.keeps I.bk
theorem Inv.lt (I:Inv X pins σ H s):X.env.locals < s.heap.objs.size:=let ⟨_,hn,_⟩:=I.loc;hn.lt
theorem Inv.sz (I:Inv X pins σ H s):X.s₀.heap.objs.size≤s.heap.objs.size:=UI I.ok.above (Vx I.lt)
theorem Inv.L8 (I:Inv X pins σ H s) {a:Addr} (h:s.heap.objs.size≤a):a∉X.fs:=fun hb=>by
 obtain ⟨_,o,ho,_⟩:=I.ok.oM.mem hb
 exact absurd (Tw (Heap.lt_size ho) (UI I.sz h)) (UQ _)
theorem Inv.GN (I:Inv X pins σ H s):∀ x c,X.env.cells.lookup x=some c→c≠X.env.locals:=fun x c e z=>by
 obtain ⟨v,o,ho,hd⟩:=I.cell x c e
 obtain ⟨m,⟨o',es,ep,ho',hd',_⟩,_⟩:=I.loc
 rw [z,ho'] at ho;cases ho;rw [hd'] at hd;cases hd
theorem Inv.oM (I:Inv X pins σ H s):s.heap.FunFrames X.base X.outer:=by
 have all:∀ (l:List Env),(∀ b∈frs l,b∈X.fs)→X.s₀.heap.FunFrames X.base l→s.heap.FunFrames X.base l:=by
  intro l
  induction l with
  | nil=>intro _ _;trivial
  | cons env r ih=>
    intro hs hl
    obtain ⟨hk,⟨L,o,hf,hn,ho,hd⟩,hr⟩:=hl
    have hL:L∈X.fs:=hs L (by unfold frs;rw [VP,hf];exact TN)
    obtain ⟨sl,e⟩:=I.base.slot L o ho (I.ok.GL L hL) hL fun z=>I.ok.Ar L z hL
    exact ⟨hk,⟨L,_,hf,hn,e,hd⟩,ih (fun b hb=>hs b (by unfold frs;rw [VP,hf];exact Tn _ hb)) hr⟩
 exact all X.outer (fun _ hb=>hb) I.ok.oM
theorem Inv.stack (I:Inv X pins σ H s):s.heap.FunFrames X.base X.stack:=by
 rcases I.ok.stk with e | ⟨e,hf⟩
 ·rw [e];exact I.oM
 ·rw [e]
  obtain ⟨m,hn,_⟩:=I.loc
  refine .cons (by rw [I.ok.kind];decide) hf hn ?_ I.oM
  exact Heap.get?_none_of_le (UI I.ok.FP I.ok.above)
theorem Inv.xS (I:Inv X pins σ H s):∀ b∈frs X.stack,b∈X.env.locals :: X.fs:=fun b hb=>by
 rcases I.ok.stk with e | ⟨e,hf⟩
 ·rw [e] at hb;exact Tn _ hb
 ·rw [e] at hb
  unfold frs at hb
  rw [VP,hf] at hb
  exact hb
theorem Inv.ze (I:Inv X pins σ H s):∀ b∈frs X.stack,H b=none:=fun b hb=>by
 rcases Tp.mp (I.xS b hb) with e | hb
 ·rw [e];exact I.free
 ·obtain ⟨_,o,ho,_⟩:=I.ok.oM.mem hb
  exact I.base.free b o ho (I.ok.GL b hb) fun z=>I.ok.Ar b z hb
theorem Inv.step {g':Array GenState} {t':Nat} {d':Drawn} {ch:List Addr} (I:Inv X pins σ H s)
 (hch:∀ b∈ch,(b∈X.ex∨X.s₀.heap.objs.size≤b)∧b≠X.env.locals∧(∀ x c,X.env.cells.lookup x=some c→c≠b)∧∀ p∈X.pn ++ pins,p.1≠b)
 (keep:∀ b o,b≠X.env.locals→b∉X.fs→b∉ch→s.heap.get? b=some o→H b=none→h'.get? b=some o)
 (slot:∀ b o,b≠X.env.locals→b∈X.fs→b∉ch→s.heap.get? b=some o→H b=none→∃ sl,h'.get? b=some { o with slots:=sl }) (free:∀ b o,b∉ch→s.heap.get? b=some o→H b=none→H' b=none)
 (there:∀ b o,b∉ch→s.heap.get? b=some o→∃ o',h'.get? b=some o')
 (tups:∀ b xs,H b=some (.tup xs)→H' b=some (.tup xs)) (um:∀ b o u,H b=some (.kW o u)→H' b=some (.kW o u)) (vV:∀ b ps,H b=some (.GJ ps)→∃ more,H' b=some (.GJ (ps ++ more)))
 (ns:∀ m,s.heap.Ns X.env.locals m→h'.Ns X.env.locals m) (hok:iX X.prog X.w H' h') (hg:AllBare g') :
 Inv X pins σ H' { s with heap:=h',gens:=g',drawn:=d',toks:=t' }:=by
 have OG:∀ b o,X.s₀.heap.get? b=some o→b≠X.env.locals:=fun b o e=>Ue (Tw (Heap.lt_size e) I.ok.above)
 have LA:∀ b o,X.s₀.heap.get? b=some o→b∉X.ex→b∉ch:=fun b o e hx hb=>by
  rcases (hch b hb).1 with z | z
  ·exact hx z
  ·exact absurd (Tw (Heap.lt_size e) z) (UQ _)
 have cellK:∀ x c,X.env.cells.lookup x=some c→∀ v,s.heap.IsCell c v→h'.IsCell c v:=fun x c e v ⟨o,ho,hd⟩=>by
  have Jk:c∉ch:=fun z=>(hch c z).2.2.1 x c e rfl
  by_cases hc:c∈X.fs
  ·obtain ⟨sl,q⟩:=slot c o (I.GN x c e) hc Jk ho (I.kH x c e)
   exact ⟨_,q,hd⟩
  ·exact ⟨o,keep c o (I.GN x c e) hc Jk ho (I.kH x c e),hd⟩
 refine ⟨I.ok,I.os,hg,⟨fun b o e n hb hx=>?_,fun b o e n hb hx=>?_,fun b o e n hx=>?_,fun b o e hx=>?_,fun b xs e=>tups b xs (I.base.tups b xs e),fun b o xs e=>um b o xs (I.base.um b o xs e),fun b ps e=>?_⟩,?_,fun x c e=>?_,?_,fun x c e=>?_,fun p hp=>?_,hok,I.len⟩
 ·exact keep b o (OG b o e) hb (LA b o e hx) (I.base.keep b o e n hb hx) (I.base.free b o e n hx)
 ·obtain ⟨sl,e1⟩:=I.base.slot b o e n hb hx
  obtain ⟨PR,e2⟩:=slot b _ (OG b o e) hb (LA b o e hx) e1 (I.base.free b o e n hx)
  exact ⟨PR,e2⟩
 ·obtain ⟨o',e1⟩:=I.base.there b o e hx
  exact free b o' (LA b o e hx) e1 (I.base.free b o e n hx)
 ·obtain ⟨o',e1⟩:=I.base.there b o e hx
  exact there b o' (LA b o e hx) e1
 ·obtain ⟨m1,e1⟩:=I.base.vV b ps e
  obtain ⟨m2,e2⟩:=vV b _ e1
  exact ⟨m1 ++ m2,by rw [e2,Array.append_assoc]⟩
 ·obtain ⟨m,hn,hl⟩:=I.loc
  refine ⟨m,ns m hn,fun i x v e1 e2 e3=>?_⟩
  obtain ⟨u,r,l⟩:=hl i x v e1 e2 e3
  refine ⟨u,r,?_⟩
  rcases l with l | ⟨k,c,e,z⟩
  ·exact .inl l
  ·exact .inr ⟨k,c,e,cellK x c e _ z⟩
 ·obtain ⟨v,z⟩:=I.cell x c e
  exact ⟨v,cellK x c e v z⟩
 ·obtain ⟨m,⟨o,_,_,ho,_⟩,_⟩:=I.loc
  exact free _ o (fun z=>(hch _ z).2.1 rfl) ho I.free
 ·obtain ⟨v,o,ho,hd⟩:=I.cell x c e
  exact free c o (fun z=>(hch c z).2.2.1 x c e rfl) ho (I.kH x c e)
 ·obtain ⟨e,n,ne,nf,d⟩:=I.pin p hp
  have Jk:p.1∉ch:=fun z=>(hch p.1 z).2.2.2 p hp rfl
  exact ⟨keep p.1 p.2 ne nf Jk e n,free p.1 p.2 Jk e n,ne,nf,d⟩
theorem Inv.un {t':Nat} (I:Inv X pins σ H s) (u:Un X.fs [] H H' s.heap h') (hok:iX X.prog X.w H' h'):Inv X pins σ H' { s with heap:=h',toks:=t' }:=by
 obtain ⟨m,⟨o,es,ep,ho,r⟩,_⟩:=id I.loc
 obtain ⟨sl,hL⟩:=u.any ho I.free (by simp)
 exact I.step (g':=s.gens) (d':=s.drawn) (ch:=[]) (fun _ z=>nomatch z) (fun b o _ hb _ e n=>u.keep b o e n hb (by simp)) (fun b o _ hb _ e n=>u.slot b o e n hb (by simp)) (fun b o _ e n=>u.free b o e n (by simp)) (fun b o _ e=>u.there b o e (by simp)) u.tups u.um u.vV (fun m' hm=>by
  obtain ⟨o',es',Mb,ho',r'⟩:=hm
  rw [ho] at ho';cases ho'
  exact ⟨_,es',Mb,hL,r'⟩) hok I.bare
theorem Inv.call {g':Array GenState} {t':Nat} {d':Drawn} {ch:List Addr} (I:Inv X pins σ H s) (u:Un (frs X.stack) ch H H' s.heap h') (hok:iX X.prog X.w H' h') (hg:AllBare g')
 (hch:∀ b∈ch,(b∈X.ex∨X.s₀.heap.objs.size≤b)∧b≠X.env.locals∧(∀ x c,X.env.cells.lookup x=some c→c≠b)∧∀ p∈X.pn ++ pins,p.1≠b) :
 Inv X pins σ H' { s with heap:=h',gens:=g',drawn:=d',toks:=t' }:=by
 obtain ⟨m,⟨o,es,ep,ho,r⟩,_⟩:=id I.loc
 obtain ⟨sl,hL⟩:=u.any ho I.free fun z=>(hch _ z).2.1 rfl
 exact I.step (ch:=ch) hch (fun b o hL hb hc e n=>u.keep b o e n (fun z=>(Tp.mp (I.xS b z)).elim hL hb) hc) (fun b o _ _ hc e n=>u.any e n hc) (fun b o hc e n=>u.free b o e n hc) (fun b o hc e=>u.there b o e hc) u.tups u.um u.vV (fun m' hm=>by
  obtain ⟨o',es',Mb,ho',r'⟩:=hm
  rw [ho] at ho';cases ho'
  exact ⟨_,es',Mb,hL,r'⟩) hok hg
theorem Inv.turned {t':Nat} {it:Addr} (I:Inv X pins σ H s) (k:∀ b o,b≠it→s.heap.get? b=some o→h'.get? b=some o) (hn:H it=none) (hL:it≠X.env.locals)
 (h1:it∈X.ex∨X.s₀.heap.objs.size≤it) (h2:∀ x c,X.env.cells.lookup x=some c→c≠it) (h3:∀ p∈X.pn ++ pins,p.1≠it):Inv X pins σ H { s with heap:=h',toks:=t' }:=by
 have Jl:∀ b u,H b=some u→b≠it:=fun b u e z=>by rw [z,hn] at e;cases e
 refine I.step (g':=s.gens) (d':=s.drawn) (ch:=[it]) (fun b hb=>?_) (fun b o _ _ hc e _=>k b o (fun z=>hc (by simp [z])) e) (fun b o _ _ hc e _=>⟨o.slots,k b o (fun z=>hc (by simp [z])) e⟩) (fun _ _ _ _ n=>n)
  (fun b o hc e=>⟨o,k b o (fun z=>hc (by simp [z])) e⟩) (fun _ _ e=>e) (fun _ _ _ e=>e) (fun b ps e=>⟨#[],by rw [e];simp⟩) (fun m hm=>?_) (fun b u e=>?_) I.bare
 ·have e:b=it:=by simpa using hb
  subst e
  exact ⟨h1,hL,h2,h3⟩
 ·obtain ⟨o,es,ep,ho,r⟩:=hm
  exact ⟨o,es,ep,k _ o (Ne.symm hL) ho,r⟩
 ·refine (I.hok b u e).stay (fun c v hc q=>k c v ?_ q) (fun _ q=>q) fun _ _ q=>q
  rcases hc with z | z
  ·rw [z];exact Jl b u e
  ·exact Jl c _ z
theorem Inv.tok (I:Inv X pins σ H s) (t:Nat):Inv X pins σ H { s with toks:=t }:=I.un (h':=s.heap) (t':=t) Un.refl I.hok
theorem Inv.kept {t':Nat} (I:Inv X pins σ H s) (k:∀ b u,s.heap.get? b=some u→h'.get? b=some u):Inv X pins σ H { s with heap:=h',toks:=t' }:=I.un (Un.kept k) (I.hok.kept k)
theorem Inv.laid {a:Addr} {o:HO} {t':Nat} (I:Inv X pins σ H s) (k:∀ b u,s.heap.get? b=some u→h'.get? b=some u) (hp:s.heap.objs.size≤a) (new:cy X.prog X.w (upd H a o) h' a o) :
 Inv X pins σ (upd H a o) { s with heap:=h',toks:=t' }:=I.un (Un.laid k hp (I.hok.fresh hp)) (I.hok.laid k hp new)
theorem Inv.write {x e:Addr} {o:HO} {t':Nat} (I:Inv X pins σ H s) (mu:Ly (H x)) (he:e=x∨H e=some (.own x)) (k:∀ b u,b≠e→s.heap.get? b=some u→h'.get? b=some u) (IY:∃ u,h'.get? e=some u)
 (new:cy X.prog X.w (upd H x o) h' x o):Inv X pins σ (upd H x o) { s with heap:=h',toks:=t' }:=I.un (Un.write mu he k IY) (I.hok.write mu he k IY new)
theorem Inv.oY {FQ:List (Addr ×Obj)} (I:Inv X pins σ H s) (h:∀ p∈FQ,s.heap.get? p.1=some p.2∧H p.1=none∧p.1≠X.env.locals∧p.1∉X.fs∧∀ v,p.2.data≠ .cell v):Inv X FQ σ H s:=
 ⟨I.ok,I.os,I.bare,I.base,I.loc,I.cell,I.free,I.kH,fun p hp=>(TU.mp hp).elim (fun z=>I.pin p (TR _ z)) (h p),I.hok,I.len⟩
theorem vW {N:List Str} (hN:N.Nodup) {i j:Nat} {x:Str} (a:N[i]?=some x) (b:N[j]?=some x):i=j:=by
 obtain ⟨h1,e1⟩:=T9.mp a
 obtain ⟨h2,e2⟩:=T9.mp b
 exact (List.getElem_inj hN).mp (e1.trans e2.symm)
theorem As {M:Model} {A:Around} {E:Value→Shared→Prop} {i:Nat} {x:Str} {v:V} {u:Value} {Q:Unit→Shared→Prop} (I:Inv X pins σ H s) (hN:X.N.Nodup) (hi:X.N[i]?=some x) (hx:Loc X.env.scope x) (r:RelV v u)
 (h:∀ s',Inv X pins (σ.set i (some v)) H s'→(∃ a,Heap.SameBut a s.heap s'.heap∧(a=X.env.locals∨X.env.cells.lookup x=some a))→Q () s') (hf:X.fn x=true∨X.env.scope.names.lookup x=some .local:=by first | exact .inl rfl | exact .inr rfl | assumption):wpAny M A (storeName X.env x u) Q E s:=by
 obtain ⟨m,hn,hl⟩:=id I.loc
 have hcls:(X.env.scope.kind == .class || (X.env.scope.kind == .module && X.env.locals !=X.env.globals))=false:=by rw [I.ok.kind];rfl
 have OH:i < σ.length:=by rw [I.len];exact (T9.mp hi).1
 have GN:=I.GN
 have tracked:∀ {a:Addr} {h':Heap},(∃ o,s.heap.get? a=some o∧H a=none)→Heap.SameBut a s.heap h'→iX X.prog X.w H h':=fun {a h'} ha hs b ob e=>by
  obtain ⟨_,_,hfree⟩:=ha
  refine (I.hok b ob e).stay (fun c w' hc q=>(hs.2 c ?_).trans q) (fun _ q=>q) fun _ _ q=>q
  rintro rfl
  rcases hc with rfl | hc
  ·rw [hfree] at e;cases e
  ·rw [hfree] at hc;cases hc
 rcases hx with hk | hk
 ·refine wpAny_storeName_local hk hn (fun h' hn' hs=>?_) hcls
  obtain ⟨oL,_,_,PU,_⟩:=id hn
  refine h _ ⟨I.ok,I.os,I.bare,⟨fun b o e n hb hx=>?_,fun b o e n hb hx=>?_,I.base.free,fun b o e hx=>?_,I.base.tups,I.base.um,I.base.vV⟩,⟨_,hn',fun j y v' e1 e2 e3=>?_⟩,fun y c e=>?_,I.free,I.kH,fun p hp=>?_,tracked ⟨oL,PU,I.free⟩ hs,by simpa using I.len⟩ ⟨_,hs,.inl rfl⟩
  ·exact (hs.2 b (Ue (Tw (Heap.lt_size e) I.ok.above))).trans (I.base.keep b o e n hb hx)
  ·obtain ⟨sl,e1⟩:=I.base.slot b o e n hb hx
   exact ⟨sl,(hs.2 b (Ue (Tw (Heap.lt_size e) I.ok.above))).trans e1⟩
  ·obtain ⟨o',e1⟩:=I.base.there b o e hx
   exact ⟨o',(hs.2 b (Ue (Tw (Heap.lt_size e) I.ok.above))).trans e1⟩
  ·by_cases hj:j=i
   ·subst hj
    rw [hi] at e1;cases e1
    rw [Vj OH] at e2
    cases e2
    exact ⟨u,r,.inl ⟨hk,by simp⟩⟩
   ·rw [VM (Ne.symm hj)] at e2
    obtain ⟨u',r',q⟩:=hl j y v' e1 e2 e3
    refine ⟨u',r',?_⟩
    rcases q with ⟨k,e⟩ | ⟨k,c,e,z⟩
    ·refine .inl ⟨k,?_⟩
     have:y≠x:=fun e=>hj (vW hN e1 (e▸hi))
     simp [this,e]
    ·exact .inr ⟨k,c,e,z.sameBut hs (GN y c e)⟩
  ·obtain ⟨w',z⟩:=I.cell y c e
   exact ⟨w',z.sameBut hs (GN y c e)⟩
  ·obtain ⟨e,n,ne,nf,d⟩:=I.pin p hp
   exact ⟨(hs.2 p.1 ne).trans e,n,ne,nf,d⟩
 ·have hfn:X.fn x=true:=by
   rcases hf with z | z
   ·exact z
   ·rw [z] at hk;cases hk
  obtain ⟨c,hc⟩:=I.ok.has x (.inl hk)
  obtain ⟨w',z⟩:=I.cell x c hc
  refine wpAny_storeName_cell I.ok.kind hk hc z (fun h' hc' hs=>?_)
  obtain ⟨oc,hoc,Mc⟩:=id z
  refine h { s with heap:=h' } ⟨I.ok,I.os,I.bare,⟨fun b o e n hb hx=>?_,fun b o e n hb hx=>?_,I.base.free,fun b o e hx=>?_,I.base.tups,I.base.um,I.base.vV⟩,⟨m,hn.sameBut hs (Ne.symm (GN x c hc)),fun j y v' e1 e2 e3=>?_⟩,fun y c' e=>?_,I.free,I.kH,fun p hp=>?_,tracked ⟨oc,hoc,I.kH x c hc⟩ hs,by simpa using I.len⟩ ⟨c,hs,.inr hc⟩
  ·exact (hs.2 b (Ue (Tw (Heap.lt_size e) (I.ok.IZ x c hfn hc)))).trans (I.base.keep b o e n hb hx)
  ·obtain ⟨sl,e1⟩:=I.base.slot b o e n hb hx
   exact ⟨sl,(hs.2 b (Ue (Tw (Heap.lt_size e) (I.ok.IZ x c hfn hc)))).trans e1⟩
  ·obtain ⟨o',e1⟩:=I.base.there b o e hx
   exact ⟨o',(hs.2 b (Ue (Tw (Heap.lt_size e) (I.ok.IZ x c hfn hc)))).trans e1⟩
  ·by_cases hj:j=i
   ·subst hj
    rw [hi] at e1;cases e1
    rw [Vj OH] at e2
    cases e2
    exact ⟨u,r,.inr ⟨.inl hk,c,hc,hc'⟩⟩
   ·rw [VM (Ne.symm hj)] at e2
    obtain ⟨u',r',q⟩:=hl j y v' e1 e2 e3
    refine ⟨u',r',?_⟩
    rcases q with q | ⟨k,c',e,z'⟩
    ·exact .inl q
    ·refine .inr ⟨k,c',e,z'.sameBut hs ?_⟩
     rintro rfl
     exact hj (vW hN e1 (I.ok.inj _ _ _ e hc▸hi))
  ·by_cases hcc:c'=c
   ·subst hcc;exact ⟨_,hc'⟩
   ·obtain ⟨w2,z2⟩:=I.cell y c' e
    exact ⟨w2,z2.sameBut hs hcc⟩
  ·obtain ⟨e,n,ne,nf,d⟩:=I.pin p hp
   refine ⟨(hs.2 p.1 ?_).trans e,n,ne,nf,d⟩
   intro q
   rw [q,hoc] at e
   have q':oc=p.2:=Option.some.inj e
   exact d w' (by rw [← q'];exact Mc)
theorem vX {M:Model} {A:Around} {E:Value→Shared→Prop} {i:Nat} {x:Str} {v:V} {u:Value} {Q:Unit→Shared→Prop} (I:Inv X pins σ H s) (hN:X.N.Nodup) (hi:X.N[i]?=some x) (hx:Loc X.env.scope x) (r:RelV v u)
 (h:∀ s',Inv X pins (σ.set i (some v)) H s'→Q () s') (hf:X.fn x=true∨X.env.scope.names.lookup x=some .local:=by first | exact .inl rfl | exact .inr rfl | assumption):wpAny M A (storeName X.env x u) Q E s:=
 As I hN hi hx r (fun s' I' _=>h s' I') hf
theorem Inv.Jm {s':Shared} {ch:List Addr} (I:Inv X pins σ H s) (ho:s'.os=s.os) (u:Un (frs X.stack) ch H H' s.heap s'.heap) (hok:iX X.prog X.w H' s'.heap) (hg:AllBare s'.gens)
 (hch:∀ b∈ch,(b∈X.ex∨X.s₀.heap.objs.size≤b)∧b≠X.env.locals∧(∀ x c,X.env.cells.lookup x=some c→c≠b)∧∀ p∈X.pn ++ pins,p.1≠b):Inv X pins σ H' s':=by
 obtain ⟨h',g',d',t',o'⟩:=s'
 have e:o'=s.os:=ho
 subst e
 exact I.call (g':=g') (t':=t') (d':=d') u hok hg hch
end
abbrev XK:=Value→Option Addr→Hp→Prop
abbrev St:=List (Option V)
abbrev VK:=V→Hp→Prop
abbrev TE:=St→Hp→VK→Prop
abbrev TT:=St→Hp→(Bool→Hp→Prop)→Prop
abbrev TA:=St→Hp→(List V→Hp→Prop)→Prop
structure Ends where
 nx:St→Hp→Prop
 rt:VK
 bk:St→Hp→Prop:=fun _ _=>False
 ct:St→Hp→Prop:=fun _ _=>False
abbrev TS:=Ends→St→Hp→Prop
def EP (X:Cx) (pins:List (Addr ×Obj)) (σ:St) (Q:VK) (u:Value) (s':Shared):Prop:= ∃ v H',Inv X pins σ H' s'∧RelV v u∧Q v H'
def TP (X:Cx) (pins:List (Addr ×Obj)) (σ:St) (Q:Bool→Hp→Prop) (b:Bool) (s':Shared):Prop:= ∃ H',Inv X pins σ H' s'∧Q b H'
def AP (X:Cx) (pins:List (Addr ×Obj)) (σ:St) (Q:List V→Hp→Prop) (us:List Value) (s':Shared):Prop:= ∃ vs H',Inv X pins σ H' s'∧Vals vs us∧Q vs H'
def SP (X:Cx) (pins:List (Addr ×Obj)) (D:Ends) (f:Flow) (s':Shared):Prop:=
 match f with
 | .next=> ∃ σ' H',Inv X pins σ' H' s'∧D.nx σ' H'
 | .brk=> ∃ σ' H',Inv X pins σ' H' s'∧D.bk σ' H'
 | .cont=> ∃ σ' H',Inv X pins σ' H' s'∧D.ct σ' H'
 | .ret u=> ∃ v σ' H',Inv X pins σ' H' s'∧RelV v u∧D.rt v H'
def PE (X:Cx) (e:Expr) (t:TE):Prop:=
 ∀ (pins:List (Addr ×Obj)) (s:Shared) (σ:St) (H:Hp) (Q:VK),Inv X pins σ H s→t σ H Q→wpAny (model X.prog X.w) X.A (eval e X.env) (EP X pins σ Q) X.xe s
def PT (X:Cx) (e:Expr) (t:TT):Prop:=
 ∀ (pins:List (Addr ×Obj)) (s:Shared) (σ:St) (H:Hp) (Q:Bool→Hp→Prop),Inv X pins σ H s→t σ H Q→wpAny (model X.prog X.w) X.A (isTrue e X.env (eval e X.env)) (TP X pins σ Q) X.xe s
def PW (X:Cx) (e:Expr) (t:TT):Prop:=
 ∀ (whole:Sem Value) (pins:List (Addr ×Obj)) (s:Shared) (σ:St) (H:Hp) (Q:Bool→Hp→Prop),Inv X pins σ H s→t σ H Q→wpAny (model X.prog X.w) X.A (isTrue e X.env whole) (TP X pins σ Q) X.xe s
def PA (X:Cx) (es:List Expr) (t:TA):Prop:=
 ∀ (pos:Pos) (pins:List (Addr ×Obj)) (s:Shared) (σ:St) (H:Hp) (Q:List V→Hp→Prop),Inv X pins σ H s→t σ H Q→wpAny (model X.prog X.w) X.A (spliced (backTo pos (starEach es X.env))) (AP X pins σ Q) X.xe s
def PS (X:Cx) (st:Stmt) (t:TS):Prop:=
 ∀ (pins:List (Addr ×Obj)) (s:Shared) (σ:St) (H:Hp) (D:Ends),Inv X pins σ H s→t D σ H→wpAny (model X.prog X.w) X.A (exec st X.env) (SP X pins D) X.xe s
def xT (X:Cx) (st:List Stmt) (t:TS):Prop:=
 ∀ (pins:List (Addr ×Obj)) (s:Shared) (σ:St) (H:Hp) (D:Ends),Inv X pins σ H s→t D σ H→wpAny (model X.prog X.w) X.A (execs st X.env) (SP X pins D) X.xe s
theorem cF {α:Type} {t:Sem α} {Q Q':α→Shared→Prop} {M:Model} {A:Around} {E:Value→Shared→Prop} {s:Shared} (h:wpAny M A t Q E s) (hQ:∀ a s,Q a s→Q' a s):wpAny M A t Q' E s:=wpAny_mono h hQ fun _ _ x=>x
end L2
namespace L2
open PySem PySem.Spec PyProof.Rows
section
variable {X:Cx}
def Me (i:Nat):TE:=fun σ H Q=> ∃ v,σ[i]?=some (some v)∧Q v H
def tC (v:V):TE:=fun _ H Q=>Q v H
theorem GO {i:Nat} {x:Str} {pos:Pos} (hN:X.N[i]?=some x) (hv:L6 X.env.scope x) (hd:(x == ("__debug__" :Str))=false:=by decide) (hcd:(x == ("__classdict__" :Str))=false:=by decide):PE X (.Name x pos) (Me i):=by
 intro pins s σ H Q I h
 obtain ⟨v,e,h⟩:=h
 obtain ⟨m,hn,hl⟩:=I.loc
 obtain ⟨u,r,l⟩:=hl i x v hN e hv
 have fin:EP X pins σ Q u s:=⟨v,H,I,r,h⟩
 rcases l with ⟨hk,hm⟩ | ⟨hk,c,hc,hcell⟩
 ·exact wpAny_Name (wpAny_loadName_local I.ok.kind hk hn hm fin) hd
 ·rcases hk with hk | hk
  ·exact wpAny_Name (wpAny_loadName_cell I.ok.kind hk hc hcell fin) hd
  ·exact wpAny_Name (wpAny_loadName_free I.ok.kind hk hc hcell fin hcd) hd
theorem GP {i j pos}:PE X (.Constant (.int i) j pos) (tC (.int i)):=fun _ _ _ H _ I h=>wpAny_Constant_int ⟨.int i,H,I.tok _,⟨_,rfl⟩,h⟩
theorem Jo {b j pos}:PE X (.Constant (.bool b) j pos) (tC (.bl b)):=fun _ _ _ H _ I h=>Constant_bool ⟨.bl b,H,I,rfl,h⟩
def Gl (X:Cx) (x:Str):Prop:=X.env.kindOf x=some .globalImplicit
theorem D6 {E:Value→Shared→Prop} {pins:List (Addr ×Obj)} {s:Shared} {σ:St} {H:Hp} {x:Str} {u:Value} {pos:Pos} {Q:Value→Shared→Prop} (I:Inv X pins σ H s) (hg:Gl X x) (hm:X.mg x=some u) (h:Q u s)
 (hd:(x == ("__debug__" :Str))=false:=by decide):wpAny (model X.prog X.w) X.A (eval (.Name x pos) X.env) Q E s:=
 Calls.Name_function_global I.ok.kind hg (Calls.loadGlobal_global (by rw [I.ok.glob];exact I.mod.glob.keeps I.bk) hm h) hd
theorem jv {E:Value→Shared→Prop} {pins:List (Addr ×Obj)} {s:Shared} {σ:St} {H:Hp} {x:Str} {u:Value} {pos:Pos} {Q:Value→Shared→Prop} (I:Inv X pins σ H s) (hg:Gl X x) (hm:X.mg x=none) (hv:bootBuiltins x=some u) (h:Q u s)
 (hn:x≠"__name__" :=by decide) (hd:(x == ("__debug__" :Str))=false:=by decide):wpAny (model X.prog X.w) X.A (eval (.Name x pos) X.env) Q E s:=by
 obtain ⟨mb,h1,h2⟩:=I.mod.blt
 exact Calls.Name_function_global I.ok.kind hg (Calls.loadGlobal_builtin (by rw [I.ok.glob];exact I.mod.glob.keeps I.bk) hm (by rw [I.ok.blt];exact h1.keeps I.bk) ((h2 x hn).trans hv) h) hd
theorem D7 {x:Str} {v:V} {u:Value} {pos:Pos} (hg:Gl X x) (hm:X.mg x=none) (hv:bootBuiltins x=some u) (r:RelV v u) (hn:x≠"__name__" :=by decide) (hd:(x == ("__debug__" :Str))=false:=by decide):PE X (.Name x pos) (tC v):=
 fun _ _ _ H _ I h=>jv I hg hm hv ⟨v,H,I,r,h⟩ hn hd
variable {a b:Expr} {ta tb:TE} {pos:Pos}
def tB (t:TE):TT:=fun σ H Q=>t σ H fun x H1=> ∃ c,x= .bl c∧Q c H1
variable {tA LB:TT} {rest:List Expr}
def Mf (t u:TT):TT:=fun σ H Q=>t σ H fun c H1=>if c=true then u σ H1 Q else Q false H1
def PV (t u:TT):TT:=fun σ H Q=>t σ H fun c H1=>if c=true then Q true H1 else u σ H1 Q
def Mg (t:TT):TT:=fun σ H Q=>t σ H fun c H1=>Q (!c) H1
theorem pw_and1 (ha:PT X a tA):PW X (.BoolOp .And [a] pos) tA:=by
 intro wh pins s σ H Q I h
 refine isTrue_and (cF (ha pins s σ H Q I h) fun c s1 e=>?_)
 cases c with
 | true=>exact isTrue_and_nil e
 | false=>exact e
theorem pw_or1 (ha:PT X a tA):PW X (.BoolOp .Or [a] pos) tA:=by
 intro wh pins s σ H Q I h
 refine isTrue_or (cF (ha pins s σ H Q I h) fun c s1 e=>?_)
 cases c with
 | false=>exact isTrue_or_nil e
 | true=>exact e
theorem pw_and (ha:PT X a tA) (hb:PW X (.BoolOp .And (b :: rest) pos) LB):PW X (.BoolOp .And (a :: b :: rest) pos) (Mf tA LB):=by
 intro wh pins s σ H Q I h
 refine isTrue_and (cF (ha pins s σ H _ I h) fun c s1 ⟨H1,I1,q1⟩=>?_)
 cases c with
 | true=>exact hb wh pins s1 σ H1 Q I1 q1
 | false=>exact ⟨H1,I1,q1⟩
theorem pw_or (ha:PT X a tA) (hb:PW X (.BoolOp .Or (b :: rest) pos) LB):PW X (.BoolOp .Or (a :: b :: rest) pos) (PV tA LB):=by
 intro wh pins s σ H Q I h
 refine isTrue_or (cF (ha pins s σ H _ I h) fun c s1 ⟨H1,I1,q1⟩=>?_)
 cases c with
 | true=>exact ⟨H1,I1,q1⟩
 | false=>exact hb wh pins s1 σ H1 Q I1 q1
theorem GQ (ha:PT X a tA):PT X (.UnaryOp .Not a pos) (Mg tA):=by
 intro pins s σ H Q I h
 exact isTrue_not (ha pins s σ H (fun c H1=>Q (!c) H1) I h)
def Mh (ta tb:TE):TE:=fun σ H Q=>ta σ H fun x H1=> ∃ c,x= .bl c∧if c=true then Q (.bl true) H1 else tb σ H1 Q
theorem Jp (ha:PE X a ta) (hb:PE X (.BoolOp .Or (b :: rest) pos) tb):PE X (.BoolOp .Or (a :: b :: rest) pos) (Mh ta tb):=by
 intro pins s σ H Q I h
 refine BoolOp_or (cF (ha pins s σ H _ I h) fun v s1 ⟨x,H1,I1,r1,q1⟩=>?_)
 obtain ⟨c,rfl,q1⟩:=q1
 cases r1
 refine wpAny_truthy_bool ?_
 cases c with
 | false=>exact hb pins s1 σ H1 Q I1 q1
 | true=>exact ⟨.bl true,H1,I1,rfl,q1⟩
def PX (t:TT) (ta tb:TE):TE:=fun σ H Q=>t σ H fun c H1=>if c=true then ta σ H1 Q else tb σ H1 Q
theorem Bx {c:Expr} (hc:PT X c tA) (ha:PE X a ta) (hb:PE X b tb):PE X (.IfExp c a b pos) (PX tA ta tb):=by
 intro pins s σ H Q I h
 refine wpAny_IfExp (cF (hc pins s σ H _ I h) fun d s1 ⟨H1,I1,q1⟩=>?_)
 cases d with
 | true=>exact ha pins s1 σ H1 Q I1 q1
 | false=>exact hb pins s1 σ H1 Q I1 q1
end
end L2
namespace L2
open PySem PySem.Spec PyProof.Rows
def iE (K:PySem.W.Frag) (H:Hp) (a:Addr) (xs:List V):Prop:=
 Rd H a (.lst xs)∨
  ∃ (o:Obj) (its:Array Value) (n:Nat),K.lookup a=some o∧o.cls= .type "list"∧o.dict=none∧o.data= .seq its n∧its.size≤sizeLine∧Vals xs its.toList
def rH (K:PySem.W.Frag) (H:Hp) (a:Addr) (xs:List V):Prop:=
 Rd H a (.tup xs)∨
  ∃ (o:Obj) (its:Array Value) (n:Nat),K.lookup a=some o∧o.cls= .type "tuple"∧o.data= .seq its n∧its.size≤sizeLine∧Vals xs its.toList
def Jq:Value→Option V
 | .none=>some .bz
 | .bool b=>some (.bl b)
 | .int i _=>some (.int i)
 | .str x _=>some (.str x)
 | .bytes b _=>some (.Bv b)
 | .float b _=>some (.IX b)
 | .ref a=>some (.ref a)
 | .type n=>some (.ty n)
 | _=>none
theorem RelV.abs {x:V} {u:Value} (r:RelV x u):Jq u=some x:=by
 cases x with
 | bz=>cases r;rfl
 | bl _=>cases r;rfl
 | int _=>obtain ⟨t,rfl⟩:=r;rfl
 | str _=>obtain ⟨t,rfl⟩:=r;rfl
 | Bv _=>obtain ⟨t,rfl⟩:=r;rfl
 | IX _=>obtain ⟨t,rfl⟩:=r;rfl
 | ref _=>cases r;rfl
 | ty _=>cases r;rfl
theorem RelV.inj {x y:V} {u:Value} (r:RelV x u) (q:RelV y u):x=y:=Option.some.inj (r.abs.symm.trans q.abs)
theorem Vals.inj:∀ {xs ys:List V} {us:List Value},Vals xs us→Vals ys us→xs=ys
 | _,_,_,.nil,.nil=>rfl
 | _,_,_,.cons r t,.cons r' t'=>by rw [r.inj r',Vals.inj t t']
section
variable {X:Cx} {pins:List (Addr ×Obj)} {σ:St} {H:Hp} {s:Shared} {a:Addr} {xs ys:List V}
theorem iE.of {K:PySem.W.Frag} (h:H a=some (.lst xs)):iE K H a xs:= .inl (.inl h)
theorem rH.of {K:PySem.W.Frag} (h:H a=some (.tup xs)):rH K H a xs:= .inl (.inl h)
theorem Inv.list (I:Inv X pins σ H s) (h:iE X.K H a xs):∃ its:List Value,Vals xs its∧PlainL s.heap a its.toArray∧xs.length≤sizeLine:=by
 rcases h with h | ⟨o,its,n,hk,hc,hd,hs,hz,r⟩
 ·obtain ⟨z,its,n,r,e⟩:=h.ok I.hok
  exact ⟨its,r,⟨_,n,e,rfl,rfl,rfl⟩,z⟩
 ·refine ⟨its.toList,r,⟨o,n,I.vQ a o hk,hc,hd,by simpa using hs⟩,?_⟩
  have e:=r.length
  simp only [Array.length_toList] at e
  omega
theorem Inv.tuple (I:Inv X pins σ H s) (h:rH X.K H a xs):∃ its:List Value,Vals xs its∧IsTup s.heap a its.toArray∧xs.length≤sizeLine:=by
 rcases h with h | ⟨o,its,n,hk,hc,hs,hz,r⟩
 ·obtain ⟨z,its,r,p⟩:=h.ok I.hok
  exact ⟨its,r,p,z⟩
 ·refine ⟨its.toList,r,⟨o,I.vQ a o hk,hc,n,by simpa using hs⟩,?_⟩
  have e:=r.length
  simp only [Array.length_toList] at e
  omega
theorem Inv.By (I:Inv X pins σ H s) (h:iE X.K H a xs) (h':iE X.K H a ys):xs=ys:=by
 obtain ⟨its,r,⟨o,n,e,_,_,d⟩,_⟩:=I.list h
 obtain ⟨its',r',⟨o',n',e',_,_,d'⟩,_⟩:=I.list h'
 rw [e] at e';cases e'
 rw [d] at d'
 injection d' with d1 _
 have:its=its':=by simpa using congrArg Array.toList d1
 subst this
 exact r.inj r'
theorem Inv.Au (I:Inv X pins σ H s) (h:rH X.K H a xs) (h':rH X.K H a ys):xs=ys:=by
 obtain ⟨its,r,⟨o,e,_,n,d⟩,_⟩:=I.tuple h
 obtain ⟨its',r',⟨o',e',_,n',d'⟩,_⟩:=I.tuple h'
 rw [e] at e';cases e'
 rw [d] at d'
 injection d' with d1 _
 have:its=its':=by simpa using congrArg Array.toList d1
 subst this
 exact r.inj r'
end
abbrev Cx.rJ (X:Cx) (E:Value→Shared→Prop):Cx:={ X with xe:=E }
abbrev Cx.DS (X:Cx):Cx:=X.rJ fun _ _=>False
theorem Cx.Ok.rJ {X:Cx} (ok:X.Ok) (E:Value→Shared→Prop):(X.rJ E).Ok:=
 ⟨ok.mod,ok.kind,ok.glob,ok.blt,ok.above,ok.inj,ok.has,ok.IZ,ok.hd,ok.frames,ok.stk,ok.Jj,ok.bs,ok.FP,ok.Aq,ok.Ar,ok.oM,ok.GL⟩
theorem Cx.Ok.jw {X:Cx} {E:Value→Shared→Prop} (ok:(X.rJ E).Ok):X.Ok:=
 ⟨ok.mod,ok.kind,ok.glob,ok.blt,ok.above,ok.inj,ok.has,ok.IZ,ok.hd,ok.frames,ok.stk,ok.Jj,ok.bs,ok.FP,ok.Aq,ok.Ar,ok.oM,ok.GL⟩
section
variable {X:Cx} {pins:List (Addr ×Obj)} {σ:St} {H:Hp} {s:Shared} {E:Value→Shared→Prop}
theorem Inv.rJ (I:Inv X pins σ H s) (E:Value→Shared→Prop):Inv (X.rJ E) pins σ H s:=⟨I.ok.rJ E,I.os,I.bare,I.base,I.loc,I.cell,I.free,I.kH,I.pin,I.hok,I.len⟩
theorem Inv.jw (I:Inv (X.rJ E) pins σ H s):Inv X pins σ H s:=⟨I.ok.jw,I.os,I.bare,I.base,I.loc,I.cell,I.free,I.kH,I.pin,I.hok,I.len⟩
theorem SP.jw {D:Ends} {f:Flow} {s':Shared} (h:SP (X.rJ E) pins D f s'):SP X pins D f s':=by
 cases f with
 | next=>obtain ⟨σ',H',I,q⟩:=h;exact ⟨σ',H',I.jw,q⟩
 | brk=>obtain ⟨σ',H',I,q⟩:=h;exact ⟨σ',H',I.jw,q⟩
 | cont=>obtain ⟨σ',H',I,q⟩:=h;exact ⟨σ',H',I.jw,q⟩
 | ret u=>obtain ⟨v,σ',H',I,r,q⟩:=h;exact ⟨v,σ',H',I.jw,r,q⟩
theorem xT.DS {st:List Stmt} {t:TS} (h:xT X.DS st t):xT X st t:=fun pins s σ H D I hw=>
 wpAny_mono (h pins s σ H D (I.rJ _) hw) (fun _ _ q=>q.jw) fun _ _ z=>False.elim z
end
section
variable {X:Cx} {st:Stmt} {rest:List Stmt} {t u:TS} {e:Expr} {te:TE} {pos:Pos}
def Jr:TS:=fun D σ H=>D.nx σ H
def Mi (t u:TS):TS:=fun D σ H=>t { D with nx:=u D } σ H
theorem D8:xT X [] Jr:=fun _ _ σ H _ I h=>wpAny_execs_nil ⟨σ,H,I,h⟩
theorem BA (h1:PS X st t) (h2:xT X rest u):xT X (st :: rest) (Mi t u):=by
 intro pins s σ H D I h
 refine wpAny_execs_cons (cF (h1 pins s σ H { D with nx:=u D } I h) fun f s1 q=>?_)
 cases f with
 | next=>
   obtain ⟨σ',H',I',q⟩:=q
   exact h2 pins s1 σ' H' D I' q
 | ret v=>exact q
 | brk=>exact q
 | cont=>exact q
theorem D9 (h1:PS X st t):xT X [st] t:=by
 intro pins s σ H D I h
 refine wpAny_execs_cons (cF (h1 pins s σ H D I h) fun f s1 q=>?_)
 cases f with
 | next=>exact wpAny_execs_nil q
 | ret v=>exact q
 | brk=>exact q
 | cont=>exact q
theorem Inv.quiet {pins:List (Addr ×Obj)} {σ:St} {H:Hp} {s:Shared} (I:Inv X pins σ H s):interactive X.env=false:=by simp [interactive,I.ok.kind]
def Js (te:TE):TS:=fun D σ H=>te σ H fun _ H1=>D.nx σ H1
theorem Ea (he:PE X e te) (hs:swapsWith e none pos.line X.env=pure false:=by rfl):PS X (.Expr e pos) (Js te):=by
 intro pins s σ H D I h
 exact wpAny_Expr_any (cF (he pins s σ H _ I h) fun v s1 ⟨x,H1,I1,r1,q1⟩=>⟨σ,H1,I1,q1⟩) I.quiet hs
def Mj (te:TE):TS:=fun D σ H=>te σ H D.rt
theorem GR (he:PE X e te):PS X (.Return (some e) pos) (Mj te):=by
 intro pins s σ H D I h
 exact wpAny_Return_some (cF (he pins s σ H _ I h) fun v s1 ⟨x,H1,I1,r1,q1⟩=>⟨x,σ,H1,I1,r1,q1⟩)
def Ml (c:TT) (t u:TS):TS:=fun D σ H=>c σ H fun b H1=>if b=true then t D σ H1 else u D σ H1
theorem Jt {c:Expr} {a b:List Stmt} {tc:TT} (hc:PT X c tc) (ha:xT X a t) (hb:xT X b u):PS X (.If c a b pos) (Ml tc t u):=by
 intro pins s σ H D I h
 refine wpAny_If (cF (hc pins s σ H _ I h) fun d s1 ⟨H1,I1,q1⟩=>?_)
 cases d with
 | true=>exact ha pins s1 σ H1 D I1 q1
 | false=>exact hb pins s1 σ H1 D I1 q1
end
abbrev TG:=V→St→Hp→(St→Hp→Prop)→Prop
def PG (X:Cx) (target:Expr) (t:TG):Prop:=
 ∀ (pins:List (Addr ×Obj)) (s:Shared) (σ:St) (H:Hp) (v:V) (u:Value) (Q:St→Hp→Prop),Inv X pins σ H s→RelV v u→t v σ H Q→
   wpAny (model X.prog X.w) X.A (assign target X.env u) (fun _ s'=> ∃ σ' H',Inv X pins σ' H' s'∧Q σ' H') X.xe s
abbrev Eb:=V→V→V→Hp→(Hp→Prop)→Prop
def Ju (X:Cx) (t:Eb):Prop:=
 ∀ (pins:List (Addr ×Obj)) (s:Shared) (σ:St) (H:Hp) (o i v:V) (ov iv u:Value) (Q:Hp→Prop),Inv X pins σ H s→RelV o ov→RelV i iv→RelV v u→t o i v H Q→
   wpAny (model X.prog X.w) X.A (setItem ov iv u) (fun _ s'=> ∃ H',Inv X pins σ H' s'∧Q H') X.xe s
section
variable {X:Cx} {pos:Pos}
def FT (i:Nat):TG:=fun v σ H Q=>Q (σ.set i (some v)) H
theorem Ec {i:Nat} {x:Str} (hN:X.N.Nodup) (hi:X.N[i]?=some x) (hx:Loc X.env.scope x) (hf:X.fn x=true∨X.env.scope.names.lookup x=some .local:=by first | exact .inl rfl | exact .inr rfl | assumption):PG X (.Name x pos) (FT i):=by
 intro pins s σ H v u Q I r h
 exact wpAny_assign_Name (vX I hN hi hx r (fun s' I'=>⟨_,H,I',h⟩) hf)
def Mm (to ti:TE) (t:Eb):TG:=fun v σ H Q=>to σ H fun o H1=>ti σ H1 fun i H2=>t o i v H2 fun H3=>Q σ H3
theorem GS {o i:Expr} {to ti:TE} {t:Eb} (ho:PE X o to) (hi:PE X i ti) (hs:Ju X t)
 (ha:∀ v,assign (.Subscript o i pos) X.env v=(do
  let ov ← holding [v] (eval o X.env)
  let iv ← holding [v,ov] (eval i X.env)
  standAt pos
  holding [v,ov,iv] (setItem ov iv v)
  release [v,ov,iv] []):=by intro _;rfl):PG X (.Subscript o i pos) (Mm to ti t):=by
 intro pins s σ H v u Q I r h
 rw [ha]
 refine wpAny_bind (wpAny_holding (cF (ho pins s σ H _ I h) fun ov s1 ⟨x,H1,I1,r1,q1⟩=>?_))
 refine wpAny_bind (wpAny_holding (cF (hi pins s1 σ H1 _ I1 q1) fun iv s2 ⟨y,H2,I2,r2,q2⟩=>?_))
 refine wpAny_bind (wpAny_standAt (wpAny_bind (wpAny_holding (cF (hs pins s2 σ H2 x y v ov iv u _ I2 r1 r2 r q2) fun _ s3 ⟨H3,I3,q3⟩=>?_))))
 exact wpAny_release ⟨σ,H3,I3,q3⟩
def Mn (te:TE) (g:TG):TS:=fun D σ H=>te σ H fun x H1=>g x σ H1 D.nx
theorem GU {i:Nat} {x:Str} {e:Expr} {te:TE} {pos':Pos} (hN:X.N.Nodup) (hi:X.N[i]?=some x) (hx:Loc X.env.scope x) (he:PE X e te) (hs:swapsWith e (some (.Name x pos')) pos.line X.env=pure false:=by rfl) (hf:X.fn x=true∨X.env.scope.names.lookup x=some .local:=by first | exact .inl rfl | exact .inr rfl | assumption) :
 PS X (.Assign [.Name x pos'] e pos) (Mn te (FT i)):=by
 intro pins s σ H D I h
 refine wpAny_Assign_Name (cF (he pins s σ H _ I h) fun v s1 ⟨y,H1,I1,r1,q1⟩=>?_) hs
 exact vX I1 hN hi hx r1 (fun s2 I2=>⟨_,H1,I2,q1⟩) hf
end
section
variable {X:Cx} {pos:Pos}
def GV (c:TT) (tb:TS):TS:=fun D σ H=> ∃ W:Nat→St→Hp→Prop,(∃ m,W m σ H)∧∀ m σ H,W m σ H→
 c σ H fun b H1=>if b=true then ∃ N:St→Hp→Prop,(∀ σ' H',N σ' H'→∃ m',m' < m∧W m' σ' H')∧tb { D with nx:=N,ct:=N,bk:=D.nx } σ H1 else D.nx σ H1
theorem BB {c:Expr} {body:List Stmt} {tc:TT} {tb:TS} (hp:PassesOwn (model X.prog X.w) X.A X.env X.xe) (hc:PT X c tc) (hb:xT X body tb):PS X (.While c body [] pos) (GV tc tb):=by
 intro pins s σ H D I h
 obtain ⟨W,⟨m0,w0⟩,turn⟩:=h
 refine wpAny_While (codeAny_whileLoop (fun n s'=> ∃ σ' H',Inv X pins σ' H' s'∧W n σ' H') ?_ m0 ⟨σ,H,I,w0⟩)
 rintro n s1 ⟨σ1,H1,I1,w1⟩
 refine wpAny_passesOwn hp (cF (hc pins s1 σ1 H1 _ I1 (turn n σ1 H1 w1)) fun b s2 ⟨H2,I2,q2⟩=>?_)
 cases b with
 | true=>
   obtain ⟨N,hN,q2⟩:=q2
   rw [if_pos rfl]
   refine wpAny_passesOwn hp (cF (hb pins s2 σ1 H2 _ I2 q2) fun f s3 q3=>?_)
   cases f with
   | next=>
     obtain ⟨σ3,H3,I3,n3⟩:=q3
     obtain ⟨m',hm,w3⟩:=hN σ3 H3 n3
     exact ⟨m',hm,σ3,H3,I3,w3⟩
   | cont=>
     obtain ⟨σ3,H3,I3,n3⟩:=q3
     obtain ⟨m',hm,w3⟩:=hN σ3 H3 n3
     exact ⟨m',hm,σ3,H3,I3,w3⟩
   | brk=>exact q3
   | ret v=>exact q3
 | false=>
   rw [if_neg TJ]
   exact wpAny_execs_nil ⟨σ1,H2,I2,q2⟩
end
structure It where
 go:Nat→Hp→Prop
 DT:Nat→Hp→V→Hp→Prop
 stop:Nat→Hp→Prop
def jl (X:Cx) (pins:List (Addr ×Obj)) (H:Hp) (b:Addr):Prop:=
 H b=none∧b≠X.env.locals∧b∉X.fs∧(b∈X.ex∨X.s₀.heap.objs.size≤b)∧(∀ x c,X.env.cells.lookup x=some c→c≠b)∧∀ p∈X.pn ++ pins,p.1≠b
theorem Inv.Av {X:Cx} {pins:List (Addr ×Obj)} {σ:St} {H H':Hp} {s:Shared} {b:Addr} (I:Inv X pins σ H s) (hb:s.heap.objs.size≤b) (hn:H' b=none):jl X pins H' b:=by
 refine ⟨hn,Ul (Tw I.lt hb),I.L8 hb,.inr (UI I.sz hb),fun x c e z=>?_,fun p hp z=>?_⟩
 ·obtain ⟨v,q⟩:=I.cell x c e
  exact absurd (Tw q.lt (by rw [z];exact hb)) (UQ _)
 ·exact absurd (Tw (Heap.lt_size (I.pin p hp).1) (by rw [z];exact hb)) (UQ _)
structure Turn (P:Program) (w:World) (K:PySem.W.Frag) (tg:Expr) (J:It) (fp:List Addr) (it:Addr) (tn:Nat→Heap→Prop):Prop where
 mem:it∈fp
 obj:∀ i h,tn i h→∀ b∈fp,∃ o,h.get? b=some o∧∀ v,o.data≠ .cell v
 keep:∀ i h h',tn i h→(∀ b∈fp,∀ o,h.get? b=some o→h'.get? b=some o)→tn i h'
 item:∀ (X:Cx),X.prog=P→X.w=w→X.K=K→X.calm=true→∀ (i:Nat) (pins:List (Addr ×Obj)) (s:Shared) (σ:St) (H:Hp) (E:Value→Shared→Prop),Inv X pins σ H s→(∀ b∈fp,jl X pins H b)→tn i s.heap→J.go i H→
  wpAny (model P w) X.A (pyNext (.ref it)) (fun r s1=> ∃ u,r=some u∧
   wpAny (model P w) X.A (letOwnedTupleGo tg (.ref it) u) (fun _ s2=> ∃ x H',Inv X pins σ H' s2∧RelV x u∧J.DT i H x H'∧tn (i+1) s2.heap∧∀ b∈fp,H' b=none) E s1) E s
 done:∀ (X:Cx),X.prog=P→X.w=w→X.K=K→X.calm=true→∀ (i:Nat) (pins:List (Addr ×Obj)) (s:Shared) (σ:St) (H:Hp) (E:Value→Shared→Prop),Inv X pins σ H s→(∀ b∈fp,jl X pins H b)→tn i s.heap→J.stop i H→
  wpAny (model P w) X.A (pyNext (.ref it)) (fun r s1=>r=none∧Inv X pins σ H s1) E s
 self:∀ (A:Around) (i:Nat) (s:Shared) (Q:Value→Shared→Prop) (E:Value→Shared→Prop),tn i s.heap→Q (.ref it) s→wpAny (model P w) A (pyIter (.ref it)) Q E s
abbrev TI:=St→Hp→(It→Hp→Prop)→Prop
def Mq (X:Cx) (pins:List (Addr ×Obj)) (σ:St) (tg:Expr) (R:It→Hp→Prop) (itv:Value) (s2:Shared):Prop:=
 ∃ (it:Addr) (fp:List Addr) (tn:Nat→Heap→Prop) (J:It) (H':Hp),itv= .ref it∧Inv X pins σ H' s2∧Turn X.prog X.w X.K tg J fp it tn∧tn 0 s2.heap∧(∀ b∈fp,jl X pins H' b)∧R J H'
def PI (X:Cx) (tg iter:Expr) (wi:TI):Prop:=
 ∀ (pins:List (Addr ×Obj)) (s:Shared) (σ:St) (H:Hp) (R:It→Hp→Prop),Inv X pins σ H s→wi σ H R→
   wpAny (model X.prog X.w) X.A (eval iter X.env) (fun v s1=>wpAny (model X.prog X.w) X.A (pyIter v) (Mq X pins σ tg R) X.xe s1) X.xe s
theorem zf {M:Model} {A:Around} {E:Value→Shared→Prop} {s:Shared} {tg:Expr} {it:Addr} {u:Value} {o:Obj} {n:String} {vs:Array Value} {Q:Unit→Shared→Prop} (ho:s.heap.get? it=some o) (hc:o.cls= .type n) (hd:o.data= .fields vs)
 (hn: ["enumerate","zip","dict_itemiterator","dict_reverseitemiterator","odict_iterator","itertools.zip_longest","itertools.pairwise"].contains n=false) (hQ:Q () s):wpAny M A (letOwnedTupleGo tg (.ref it) u) Q E s:=by
 unfold letOwnedTupleGo
 cases tg <;> first
  | exact wpAny_pure hQ
  | (cases u <;> first
   | exact wpAny_pure hQ
   | (refine wpAny_bind (wpAny_load ho ?_)
      rw [hc,hd]
      show wpAny M A (if (["enumerate","zip","dict_itemiterator","dict_reverseitemiterator","odict_iterator","itertools.zip_longest","itertools.pairwise"].contains n && vs[0]? == some (rawInt _))=true then _ else _) Q E s
      rw [if_neg (by intro h;rw [hn,Wv] at h;cases h)]
      exact wpAny_pure hQ))
def Mr (K:PySem.W.Frag) (a:Addr):It:=
 ⟨fun i H=> ∃ xs x,iE K H a xs∧xs[i]?=some x,fun i H x H'=>H'=H∧∀ xs,iE K H a xs→xs[i]?=some x,fun i H=> ∃ xs,iE K H a xs∧xs.length≤i⟩
def Ms (K:PySem.W.Frag) (a:Addr):It:=
 ⟨fun i H=> ∃ xs x,rH K H a xs∧xs[i]?=some x,fun i H x H'=>H'=H∧∀ xs,rH K H a xs→xs[i]?=some x,fun i H=> ∃ xs,rH K H a xs∧xs.length≤i⟩
def LC (lo:Int) (n:Nat):It:=⟨fun i _=>i < n,fun i H x H'=>H'=H∧x= .int (lo+i),fun i _=>n≤i⟩
theorem Aw {P:Program} {w:World} {K:PySem.W.Frag} {tg:Expr} (a it:Addr):Turn P w K tg (Mr K a) [it] it (fun i h=>h.IsListIter it a i) where
 mem:=by simp
 obj:=fun i h st b hb=>by
  have e:b=it:=by simpa using hb
  subst e
  obtain ⟨o,e,c,d⟩:=st
  exact ⟨o,e,fun v z=>by rw [d] at z;cases z⟩
 keep:=fun i h h' st k=>st.at fun o e=>k it (by simp) o e
 item:=by
  intro X hP hw hK hc i pins s σ H E I hf st hg
  subst hP hw hK
  obtain ⟨xs,x,hq,hx⟩:=hg
  obtain ⟨its,rv,p,hz⟩:=I.list hq
  obtain ⟨u,hu,ru⟩:=rv.get hx
  obtain ⟨f0,f1,f2,f3,f4,f5⟩:=hf it (by simp)
  refine wpAny_pyNext_list_item st p.isList (x:=u) (by simpa using hu) fun h' st' sb=>?_
  have I1:Inv X pins σ H { s with heap:=h' }:=I.turned (t':=s.toks) (fun b o hb e=>(sb.2 b hb).trans e) f0 f1 f3 f4 f5
  obtain ⟨o,e,c,d⟩:=id st'
  exact ⟨u,rfl,zf (s:={ s with heap:=h' }) e c d (by decide) ⟨x,H,I1,ru,⟨rfl,fun ys hy=>by rw [I.By hy hq];exact hx⟩,st',fun b hb=>(hf b hb).1⟩⟩
 done:=by
  intro X hP hw hK hc i pins s σ H E I hf st hg
  subst hP hw hK
  obtain ⟨xs,hq,hx⟩:=hg
  obtain ⟨its,rv,p,hz⟩:=I.list hq
  obtain ⟨f0,f1,f2,f3,f4,f5⟩:=hf it (by simp)
  have hl:=rv.length
  exact wpAny_pyNext_list_end (I.ok.hd hc) st p.isList (by simp;omega) fun h' eb=>⟨rfl,I.turned (t':=s.toks) (fun b o hb e=>eb b o hb e) f0 f1 f3 f4 f5⟩
 self:=fun _ _ _ _ _ st h=>wpAny_pyIter_listiter st h
theorem xU {P:Program} {w:World} {K:PySem.W.Frag} {tg:Expr} (a it:Addr):Turn P w K tg (Ms K a) [it] it (fun i h=>h.IsTupleIter it a i) where
 mem:=by simp
 obj:=fun i h st b hb=>by
  have e:b=it:=by simpa using hb
  subst e
  obtain ⟨o,e,c,d⟩:=st
  exact ⟨o,e,fun v z=>by rw [d] at z;cases z⟩
 keep:=fun i h h' st k=>st.at fun o e=>k it (by simp) o e
 item:=by
  intro X hP hw hK hc i pins s σ H E I hf st hg
  subst hP hw hK
  obtain ⟨xs,x,hq,hx⟩:=hg
  obtain ⟨its,rv,p,hz⟩:=I.tuple hq
  obtain ⟨u,hu,ru⟩:=rv.get hx
  obtain ⟨f0,f1,f2,f3,f4,f5⟩:=hf it (by simp)
  refine wpAny_pyNext_tuple_item st (show s.heap.IsTuple a its.toArray from p) (x:=u) (by simpa using hu) fun h' st' sb=>?_
  have I1:Inv X pins σ H { s with heap:=h' }:=I.turned (t':=s.toks) (fun b o hb e=>(sb.2 b hb).trans e) f0 f1 f3 f4 f5
  obtain ⟨o,e,c,d⟩:=id st'
  exact ⟨u,rfl,zf (s:={ s with heap:=h' }) e c d (by decide) ⟨x,H,I1,ru,⟨rfl,fun ys hy=>by rw [I.Au hy hq];exact hx⟩,st',fun b hb=>(hf b hb).1⟩⟩
 done:=by
  intro X hP hw hK hc i pins s σ H E I hf st hg
  subst hP hw hK
  obtain ⟨xs,hq,hx⟩:=hg
  obtain ⟨its,rv,p,hz⟩:=I.tuple hq
  obtain ⟨f0,f1,f2,f3,f4,f5⟩:=hf it (by simp)
  have hl:=rv.length
  exact wpAny_pyNext_tuple_end (I.ok.hd hc) st (show s.heap.IsTuple a its.toArray from p) (by simp;omega) fun h' eb=>⟨rfl,I.turned (t':=s.toks) (fun b o hb e=>eb b o hb e) f0 f1 f3 f4 f5⟩
 self:=fun _ _ _ _ _ st h=>wpAny_pyIter_tupleiter st h
theorem xV {P:Program} {w:World} {K:PySem.W.Frag} {tg:Expr} (it:Addr) (lo:Int) (n:Nat):Turn P w K tg (LC lo n) [it] it (fun i h=>IsRangeIter h it (lo+(i:Nat)*1) ((n:Int) - (i:Nat)) 1) where
 mem:=by simp
 obj:=fun i h st b hb=>by
  have e:b=it:=by simpa using hb
  subst e
  exact ⟨_,st,fun v z=>by
   have z':Data.fields _=Data.cell v:=z
   cases z'⟩
 keep:=fun i h h' st k=>k it (by simp) _ st
 item:=by
  intro X hP hw hK hc i pins s σ H E I hf st hg
  subst hP hw hK
  obtain ⟨f0,f1,f2,f3,f4,f5⟩:=hf it (by simp)
  have W:=Walks.range (prog:=X.prog) (w:=X.w) (I.ok.hd hc) it lo 1 n
  refine W.item i s _ _ hg st fun v h' tk hv st' kk=>?_
  obtain ⟨t,rfl⟩:=hv
  have I1:Inv X pins σ H { s with heap:=h',toks:=tk }:=I.turned (fun b o hb e=>kk b o (by simpa using hb) e) f0 f1 f3 f4 f5
  refine ⟨_,rfl,zf (s:={ s with heap:=h',toks:=tk }) (n:= "range_iterator") st' rfl rfl (by decide) ⟨.int (lo+i),H,I1,⟨t,?_⟩,⟨rfl,rfl⟩,st',fun b hb=>(hf b hb).1⟩⟩
  rw [Wr]
 done:=by
  intro X hP hw hK hc i pins s σ H E I hf st hg
  subst hP hw hK
  obtain ⟨f0,f1,f2,f3,f4,f5⟩:=hf it (by simp)
  exact wpAny_pyNext_range_end (I.ok.hd hc) st (by have:n≤i:=hg;omega) fun h' eb=>⟨rfl,I.turned (t':=s.toks) (fun b o hb e=>eb b o hb e) f0 f1 f3 f4 f5⟩
 self:=fun _ _ _ _ _ st h=>wpAny_pyIter_rangeiter st h
end L2
namespace L2
open PySem PySem.Spec PyProof.Rows
section
variable {X:Cx} {tg:Expr}
def Jv (K:PySem.W.Frag) (tl:TE):TI:=fun σ H R=>tl σ H fun x H1=> ∃ a,x= .ref a∧(∃ xs,iE K H1 a xs)∧R (Mr K a) H1
def Mt (K:PySem.W.Frag) (tl:TE):TI:=fun σ H R=>tl σ H fun x H1=> ∃ a,x= .ref a∧(∃ xs,rH K H1 a xs)∧R (Ms K a) H1
theorem oZ {l:Expr} {tl:TE} (hl:PE X l tl):PI X tg l (Jv X.K tl):=by
 intro pins s σ H R I h
 refine cF (hl pins s σ H _ I h) fun v s1 ⟨x,H1,I1,r1,q1⟩=>?_
 obtain ⟨a,e,⟨xs,hq⟩,q⟩:=q1
 subst e
 cases r1
 obtain ⟨its,rv,p,hz⟩:=I1.list hq
 refine wpAny_pyIter_list p.isList ?_
 refine ⟨s1.heap.objs.size,[s1.heap.objs.size],_,_,H1,rfl,I1.kept (t':=s1.toks) fun b o e=>Heap.get?_push_of_some _ e,Aw a _,⟨_,Heap.get?_push_size _ rfl,rfl,rfl⟩,fun b hb=>?_,q⟩
 have e:b=s1.heap.objs.size:=by simpa using hb
 subst e
 exact I1.Av (Tz _) (I1.hok.fresh (Tz _))
theorem GW {l:Expr} {tl:TE} (hl:PE X l tl):PI X tg l (Mt X.K tl):=by
 intro pins s σ H R I h
 refine cF (hl pins s σ H _ I h) fun v s1 ⟨x,H1,I1,r1,q1⟩=>?_
 obtain ⟨a,e,⟨xs,hq⟩,q⟩:=q1
 subst e
 cases r1
 obtain ⟨its,rv,p,hz⟩:=I1.tuple hq
 refine wpAny_pyIter_tuple (show s1.heap.IsTuple a its.toArray from p) ?_
 refine ⟨s1.heap.objs.size,[s1.heap.objs.size],_,_,H1,rfl,I1.kept (t':=s1.toks) fun b o e=>Heap.get?_push_of_some _ e,xU a _,⟨_,Heap.get?_push_size _ rfl,rfl,rfl⟩,fun b hb=>?_,q⟩
 have e:b=s1.heap.objs.size:=by simpa using hb
 subst e
 exact I1.Av (Tz _) (I1.hok.fresh (Tz _))
theorem BC {pins:List (Addr ×Obj)} {σ:St} {H:Hp} {s:Shared} {R:It→Hp→Prop} {E:Value→Shared→Prop} {lo hi:Int} {t u v:Tok} {tk:Nat} (I:Inv X pins σ H s) (h1: -(2 ^ 62)≤lo) (h2:lo < 2 ^ 62) (h3: -(2 ^ 62)≤hi) (h4:hi < 2 ^ 62)
 (q:R (LC lo (hi - lo).toNat) H):wpAny (model X.prog X.w) X.A (pyIter (.ref s.heap.objs.size)) (Mq X pins σ tg R) E { s with heap:=s.heap.push { cls:= .type "range",data:= .fields #[.int lo t,.int hi u,.int 1 v] },toks:=tk }:=by
 refine wpAny_pyIter_range (IsRange.new ..) (small_one h1 h2 h3 h4) ?_
 have I1:Inv X pins σ H { s with heap:=s.heap.push { cls:= .type "range",data:= .fields #[.int lo t,.int hi u,.int 1 v] },toks:=tk }:=I.kept fun b o e=>Heap.get?_push_of_some _ e
 refine ⟨(s.heap.push { cls:= .type "range",data:= .fields #[.int lo t,.int hi u,.int 1 v] }).objs.size,[(s.heap.push { cls:= .type "range",data:= .fields #[.int lo t,.int hi u,.int 1 v] }).objs.size],_,_,H,rfl,
  I1.kept (t':=tk) fun b o e=>Heap.get?_push_of_some _ e,xV _ lo (hi - lo).toNat,?_,fun b hb=>?_,q⟩
 ·have e1:lo+((0:Nat):Int)*1=lo:=by simp
  have e2:(((hi - lo).toNat:Nat):Int) - ((0:Nat):Int)=Builtin.Range.rangeSize lo hi 1:=by rw [rangeSize_one];split <;> omega
  show IsRangeIter _ _ (lo+((0:Nat):Int)*1) ((((hi - lo).toNat:Nat):Int) - ((0:Nat):Int)) 1
  rw [e1,e2]
  exact Heap.get?_push_size _ rfl
 ·have e:b=(s.heap.push { cls:= .type "range",data:= .fields #[.int lo t,.int hi u,.int 1 v] }).objs.size:=by simpa using hb
  subst e
  exact I1.Av (Tz _) (I1.hok.fresh (Tz _))
def Jw (ta:TA):TI:=fun σ H R=>ta σ H fun vs H1=> ∃ j:Int,vs= [.int j]∧ -(2 ^ 62)≤j∧j < 2 ^ 62∧R (LC 0 j.toNat) H1
theorem Ax {a:Expr} {ta:TA} {p pos:Pos} (hg:Gl X "range") (hm:X.mg "range" =none) (ha:PA X [a] ta) (hs:starEach [a] X.env= [(false,eval a X.env)]:=by rfl):PI X tg (.Call (.Name "range" p) [a] [] pos) (Jw ta):=by
 intro pins s σ H R I h
 refine Call_ (jv I hg hm boot_range (PyProof.Rows.callWith_type1 (cF (ha pos pins s σ H _ I h) fun us s1 ⟨vs,H1,I1,r1,q1⟩=>?_) hs rfl))
 obtain ⟨j,e,q1,q2,q⟩:=q1
 subst e
 cases r1 with
 | cons r rr=>
   cases rr
   obtain ⟨t,rfl⟩:=r
   exact call_range_1 (BC I1 (by omega) (by omega) q1 q2 (by simpa using q))
def Mu (wi:TI) (g:TG) (tb:TS):TS:=fun D σ H=>wi σ H fun J H1=> ∃ W:Nat→Nat→St→Hp→Prop,(∃ m,W 0 m σ H1)∧∀ i m σ H,W i m σ H→
 (J.stop i H∧D.nx σ H)∨(J.go i H∧∃ N:St→Hp→Prop,(∀ σ' H',N σ' H'→∃ m',m' < m∧W (i+1) m' σ' H')∧∀ x H',J.DT i H x H'→g x σ H' fun σ2 H2=>tb { D with nx:=N,ct:=N,bk:=D.nx } σ2 H2)
def pJ (fp:List Addr) (h:Heap):List (Addr ×Obj):=fp.filterMap fun b=>(h.get? b).map fun o=>(b,o)
theorem kX {fp:List Addr} {h:Heap} {b:Addr} {o:Obj} (hb:b∈fp) (e:h.get? b=some o):(b,o)∈pJ fp h:=Vv.mpr ⟨b,hb,by rw [e];rfl⟩
theorem Ay {fp:List Addr} {h:Heap} {p:Addr ×Obj} (hp:p∈pJ fp h):p.1∈fp∧h.get? p.1=some p.2:=by
 obtain ⟨b,hb,e⟩:=Vv.mp hp
 cases q:h.get? b with
 | none=>rw [q] at e;cases e
 | some o=>
   rw [q] at e
   have e':(b,o)=p:=Option.some.inj e
   subst e'
   exact ⟨hb,q⟩
theorem Inv.pinned {pins:List (Addr ×Obj)} {σ:St} {H:Hp} {s:Shared} {fp:List Addr} (I:Inv X pins σ H s) (hf:∀ b∈fp,jl X pins H b) (ho:∀ b∈fp,∃ o,s.heap.get? b=some o∧∀ v,o.data≠ .cell v):Inv X (pins ++ pJ fp s.heap) σ H s:=
 I.oY fun p hp=>(TU.mp hp).elim (fun z=>I.pin p (T7 _ z)) fun z=>by
   obtain ⟨hb,e⟩:=Ay z
   obtain ⟨f0,f1,f2,_⟩:=hf p.1 hb
   obtain ⟨o,e',d⟩:=ho p.1 hb
   rw [e] at e';cases e'
   exact ⟨e,f0,f1,f2,d⟩
theorem Inv.jx {pins pl:List (Addr ×Obj)} {σ:St} {H:Hp} {s:Shared} (I:Inv X (pins ++ pl) σ H s):Inv X pins σ H s:=I.oY fun p hp=>I.pin p (T7 _ (TR _ hp))
theorem mV {iter:Expr} {body:List Stmt} {wi:TI} {g:TG} {tb:TS} {pos:Pos} (hp:PassesOwn (model X.prog X.w) X.A X.env X.xe) (hc:X.calm=true) (hi:PI X tg iter wi) (hg:PG X tg g) (hb:xT X body tb)
 (hs:∀ x,foldedSetIterable iter X.env x=pure x:=by intro _;rfl):PS X (.For tg iter body [] pos) (Mu wi g tb):=by
 intro pins s σ H D I h
 refine wpAny_For (cF (hi pins s σ H _ I h) fun v s1 h1=>cF h1 fun itv s2 h2=>?_) hs
 obtain ⟨it,fp,tn,J,H2,e,I2,T,st2,f2,W,⟨m0,w0⟩,turn⟩:=h2
 subst e
 have stat:∀ {H':Hp},(∀ b∈fp,H' b=none)→∀ b∈fp,jl X pins H' b:=fun hn b hb=>⟨hn b hb,(f2 b hb).2⟩
 refine codeAny_forLoop_any (fun n s'=> ∃ i σ' H',Inv X pins σ' H' s'∧tn i s'.heap∧(∀ b∈fp,H' b=none)∧W i n σ' H') ?_ m0 ⟨0,σ,H2,I2,st2,fun b hb=>(f2 b hb).1,w0⟩
 rintro n s3 ⟨i,σ3,H3,I3,st3,OI,w3⟩
 rcases turn i n σ3 H3 w3 with ⟨stop,qn⟩ | ⟨go,N,hN,step⟩
 ·refine wpAny_passesOwn hp (cF (T.done X rfl rfl rfl hc i pins s3 σ3 H3 X.xe I3 (stat OI) st3 stop) fun r s4 ⟨hr,I4⟩=>?_)
  subst hr
  exact wpAny_execs_nil ⟨σ3,H3,I4,qn⟩
 ·refine wpAny_passesOwn hp (cF (T.item X rfl rfl rfl hc i pins s3 σ3 H3 X.xe I3 (stat OI) st3 go) fun r s4 ⟨u,hr,h4⟩=>?_)
  subst hr
  refine wpAny_passesOwn hp (cF h4 fun _ s5 ⟨x,H5,I5,r5,y5,I0,Ed⟩=>?_)
  have PY:=I5.pinned (stat Ed) (T.obj _ _ I0)
  refine wpAny_passesOwn hp (cF (hg _ s5 σ3 H5 x u _ PY r5 (step x H5 y5)) fun _ s6 ⟨σ6,H6,I6,q6⟩=>?_)
  refine wpAny_passesOwn hp (cF (hb _ s6 σ6 H6 _ I6 q6) fun f s7 q7=>?_)
  have again:∀ {σ7:St} {H7:Hp},Inv X (pins ++ pJ fp s5.heap) σ7 H7 s7→N σ7 H7→∃ m,m < n∧∃ i σ' H',Inv X pins σ' H' s7∧tn i s7.heap∧(∀ b∈fp,H' b=none)∧W i m σ' H':=fun {σ7 H7} I7 n7=>by
   obtain ⟨m',hm,w7⟩:=hN σ7 H7 n7
   refine ⟨m',hm,i+1,σ7,H7,I7.jx,T.keep _ _ _ I0 fun b hb o e=>(I7.pin (b,o) (T7 _ (T7 _ (kX hb e)))).1,fun b hb=>?_,w7⟩
   obtain ⟨o,e,d⟩:=T.obj _ _ I0 b hb
   exact (I7.pin (b,o) (T7 _ (T7 _ (kX hb e)))).2.1
  cases f with
  | next=>obtain ⟨σ7,H7,I7,n7⟩:=q7;exact again I7 n7
  | cont=>obtain ⟨σ7,H7,I7,n7⟩:=q7;exact again I7 n7
  | brk=>obtain ⟨σ7,H7,I7,q7⟩:=q7;exact ⟨σ7,H7,I7.jx,q7⟩
  | ret v=>obtain ⟨x7,σ7,H7,I7,r7,q7⟩:=q7;exact ⟨x7,σ7,H7,I7.jx,r7,q7⟩
end
end L2
namespace L2
open PySem PySem.Spec PyProof.Rows
abbrev R2:=V→V→Hp→VK→Prop
def xF (X:Cx) (f:Value→Value→Sem Value) (r:R2):Prop:=
 ∀ (pins:List (Addr ×Obj)) (s:Shared) (σ:St) (H:Hp) (x y:V) (v u:Value) (Q:VK),Inv X pins σ H s→RelV x v→RelV y u→r x y H Q→
   wpAny (model X.prog X.w) X.A (f v u) (EP X pins σ Q) X.xe s
def Mv (X:Cx) (f:Value→Sem Value) (r:V→Hp→VK→Prop):Prop:=
 ∀ (pins:List (Addr ×Obj)) (s:Shared) (σ:St) (H:Hp) (x:V) (v:Value) (Q:VK),Inv X pins σ H s→RelV x v→r x H Q→
   wpAny (model X.prog X.w) X.A (f v) (EP X pins σ Q) X.xe s
def zg (X:Cx) (f:Value) (r:List V→Hp→VK→Prop):Prop:=
 ∀ (pins:List (Addr ×Obj)) (s:Shared) (σ:St) (H:Hp) (xs:List V) (us:List Value) (Q:VK),Inv X pins σ H s→Vals xs us→r xs H Q→
   wpAny (model X.prog X.w) X.A (call f us) (EP X pins σ Q) X.xe s
def PZ (r:R2) (ta tb:TE):TE:=fun σ H Q=>ta σ H fun x H1=>tb σ H1 fun y H2=>r x y H2 Q
def P0 (r:V→Hp→VK→Prop) (ta:TE):TE:=fun σ H Q=>ta σ H fun x H1=>r x H1 Q
def rI (C:Int→Int→Prop) (g:Int→Int→V):R2:=fun x y H Q=> ∃ i j,x= .int i∧y= .int j∧C i j∧Q (g i j) H
def Ef (g:Int→Int→V):R2:=fun x y H Q=> ∃ i j,x= .int i∧y= .int j∧Q (g i j) H
def rU (g:Int→V):V→Hp→VK→Prop:=fun x H Q=> ∃ i,x= .int i∧Q (g i) H
section
variable {X:Cx} {a b c:Expr} {ta tb tc:TE} {pos:Pos}
theorem Mw (ha:PE X a ta) (hb:PE X b tb) {pins:List (Addr ×Obj)} {s:Shared} {σ:St} {H:Hp} {R:V→V→Hp→Prop} (I:Inv X pins σ H s)
 (h:ta σ H fun x H1=>tb σ H1 fun y H2=>R x y H2) {Q:Value→Shared→Prop} {f:Value→Value→Sem Value}
 (hf:∀ v u s2 x y H2,Inv X pins σ H2 s2→RelV x v→RelV y u→R x y H2→wpAny (model X.prog X.w) X.A (f v u) Q X.xe s2) :
 wpAny (model X.prog X.w) X.A (eval a X.env) (fun v s₁=>wpAny (model X.prog X.w) X.A (eval b X.env) (fun u s₂=>wpAny (model X.prog X.w) X.A (f v u) Q X.xe s₂) X.xe s₁) X.xe s:=by
 refine cF (ha pins s σ H _ I h) fun v s1 ⟨x,H1,I1,r1,q1⟩=>?_
 refine cF (hb pins s1 σ H1 _ I1 q1) fun u s2 ⟨y,H2,I2,r2,q2⟩=>?_
 exact hf v u s2 x y H2 I2 r1 r2 q2
theorem Jx {op:UnaryOp} {r:V→Hp→VK→Prop} (ho:Mv X (unaryOp op) r) (ha:PE X a ta):PE X (.UnaryOp op a pos) (P0 r ta):=by
 intro pins s σ H Q I h
 exact UnaryOp_ (cF (ha pins s σ H _ I h) fun v s1 ⟨x,H1,I1,r1,q1⟩=>ho pins s1 σ H1 x v Q I1 r1 q1)
theorem Jy {f:Value→Value→Sem Value} {C:Int→Int→Prop} {g:Int→Int→Int}
 (rule:∀ (i j:Int) (t u:Tok) (s:Shared) (Q:Value→Shared→Prop) (E:Value→Shared→Prop),C i j→Q (.int (g i j) s.toks) { s with toks:=s.toks+1 }→wpAny (model X.prog X.w) X.A (f (.int i t) (.int j u)) Q E s) :
 xF X f (rI C fun i j=> .int (g i j)):=by
 intro pins s σ H x y v u Q I rx ry h
 obtain ⟨i,j,rfl,rfl,hc,q⟩:=h
 obtain ⟨t,rfl⟩:=rx
 obtain ⟨t',rfl⟩:=ry
 exact rule i j t t' s _ _ hc ⟨.int (g i j),H,I.tok _,⟨_,rfl⟩,q⟩
theorem Jz {f:Value→Value→Sem Value} {g:Int→Int→Int}
 (rule:∀ (i j:Int) (t u:Tok) (s:Shared) (Q:Value→Shared→Prop) (E:Value→Shared→Prop),Q (.int (g i j) s.toks) { s with toks:=s.toks+1 }→wpAny (model X.prog X.w) X.A (f (.int i t) (.int j u)) Q E s) :
 xF X f (Ef fun i j=> .int (g i j)):=by
 intro pins s σ H x y v u Q I rx ry h
 obtain ⟨i,j,rfl,rfl,q⟩:=h
 obtain ⟨t,rfl⟩:=rx
 obtain ⟨t',rfl⟩:=ry
 exact rule i j t t' s _ _ ⟨.int (g i j),H,I.tok _,⟨_,rfl⟩,q⟩
theorem GX {f:Value→Value→Sem Value} {g:Int→Int→Bool}
 (rule:∀ (i j:Int) (t u:Tok) (s:Shared) (Q:Value→Shared→Prop) (E:Value→Shared→Prop),Q (.bool (g i j)) s→wpAny (model X.prog X.w) X.A (f (.int i t) (.int j u)) Q E s) :
 xF X f (Ef fun i j=> .bl (g i j)):=by
 intro pins s σ H x y v u Q I rx ry h
 obtain ⟨i,j,rfl,rfl,q⟩:=h
 obtain ⟨t,rfl⟩:=rx
 obtain ⟨t',rfl⟩:=ry
 exact rule i j t t' s _ _ ⟨.bl (g i j),H,I,rfl,q⟩
def Eg (i j:Int):Prop:=(-(2 ^ 64) < i∧i < 2 ^ 64)∨(-(2 ^ 64) < j∧j < 2 ^ 64)
theorem Eg.ok {i j:Int} (h:Eg i j):IntMulOk i j:=by
 rcases h with ⟨h1,h2⟩ | ⟨h1,h2⟩
 ·exact .of_left (intBits_le_64 h1 h2)
 ·exact .of_right (intBits_le_64 h1 h2)
theorem GY:xF X (binaryOp .Add) (Ef fun i j=> .int (i+j)):=Jz fun _ _ _ _ _ _ _ q=>add_int q
theorem GZ:xF X (binaryOp .Sub) (Ef fun i j=> .int (i - j)):=Jz fun _ _ _ _ _ _ _ q=>sub_int q
theorem G0:xF X (binaryOp .Mod) (rI (fun _ j=>0 < j) fun i j=> .int (i % j)):=Jy fun i j _ _ _ _ _ hc q=>by
 have h1:(0:Int) < j:=hc
 exact mod_int' (by omega) (by rw [Int.fmod_eq_emod_of_nonneg i (by omega)];exact q)
theorem P4 {f:Value→Sem Value} {g:Int→Int}
 (rule:∀ (i:Int) (t:Tok) (s:Shared) (Q:Value→Shared→Prop) (E:Value→Shared→Prop),Q (.int (g i) s.toks) { s with toks:=s.toks+1 }→wpAny (model X.prog X.w) X.A (f (.int i t)) Q E s) :
 Mv X f (rU fun i=> .int (g i)):=by
 intro pins s σ H x v Q I rx h
 obtain ⟨i,rfl,q⟩:=h
 obtain ⟨t,rfl⟩:=rx
 exact rule i t s _ _ ⟨.int (g i),H,I.tok _,⟨_,rfl⟩,q⟩
theorem G1:Mv X (unaryOp .USub) (rU fun i=> .int (-i)):=P4 fun _ _ _ _ _ q=>neg_int q
end
def G2:V→V→Bool
 | .bz,.bz=>true | .bz,.int _=>true | .int _,.bz=>true | .bz,.bl _=>true | .bl _,.bz=>true | .bz,.str _=>true | .str _,.bz=>true
 | .int _,.int _=>true | .bl _,.bl _=>true | .str _,.str _=>true | .Bv _,.Bv _=>true
 | .int _,.str _=>true | .str _,.int _=>true | .bl _,.str _=>true | .str _,.bl _=>true
 | _,_=>false
def P5:R2:=fun x y H Q=>G2 x y=true∧Q (.bl (decide (x=y))) H
def P6:R2:=fun x y H Q=>G2 x y=true∧Q (.bl (!decide (x=y))) H
theorem zh {i j:Int}:decide (V.int i=V.int j)=(i == j):=by
 rw [Uo]
 simp
theorem BD {i j:Bool}:decide (V.bl i=V.bl j)=(i == j):=by
 rw [Uo]
 simp
theorem zj {i j:Str}:decide (V.str i=V.str j)=(i == j):=by
 rw [Uo]
 simp
theorem zk {i j:Array UInt8}:decide (V.Bv i=V.Bv j)=(i.toList == j.toList):=by
 rw [Uo]
 cases i
 cases j
 simp
section
variable {X:Cx} {a b c:Expr} {ta tb tc:TE} {pos:Pos}
theorem aX {pins:List (Addr ×Obj)} {σ:St} {H:Hp} {s:Shared} {Q:VK} {k k':Bool} (I:Inv X pins σ H s) (q:Q (.bl k) H) (e:k=k'):EP X pins σ Q (.bool k') s:=by
 subst e
 exact ⟨.bl k,H,I,rfl,q⟩
theorem JA:xF X (compareOp .Eq) P5:=by
 intro pins s σ H x y v u Q I rx ry h
 obtain ⟨hs,q⟩:=h
 cases x with
 | bz=>
   cases rx
   cases y with
   | bz=>cases ry;exact PySem.EqNone.eq_none_none (aX I q (by simp))
   | bl j=>cases ry;exact PySem.EqNone.eq_none_bool (aX I q (by simp))
   | int j=>obtain ⟨t',rfl⟩:=ry;exact PySem.EqNone.eq_none_int (aX I q (by simp))
   | str j=>obtain ⟨t',rfl⟩:=ry;exact PySem.EqNone.eq_none_str (aX I q (by simp))
   | _=>exact absurd (show false=true from hs) TJ
 | bl i=>
   cases rx
   cases y with
   | bz=>cases ry;exact PySem.EqNone.eq_bool_none (aX I q (by simp))
   | bl j=>cases ry;exact eq_bool (aX I q BD)
   | str j=>obtain ⟨t',rfl⟩:=ry;exact PySem.EqMixed.eq_bool_str (aX I q (by simp))
   | _=>exact absurd (show false=true from hs) TJ
 | int i=>
   obtain ⟨t,rfl⟩:=rx
   cases y with
   | bz=>cases ry;exact PySem.EqNone.eq_int_none (aX I q (by simp))
   | int j=>obtain ⟨t',rfl⟩:=ry;exact eq_int (aX I q zh)
   | str j=>obtain ⟨t',rfl⟩:=ry;exact PySem.EqMixed.eq_int_str (aX I q (by simp))
   | _=>exact absurd (show false=true from hs) TJ
 | str i=>
   obtain ⟨t,rfl⟩:=rx
   cases y with
   | bz=>cases ry;exact PySem.EqNone.eq_str_none (aX I q (by simp))
   | bl j=>cases ry;exact PySem.EqMixed.eq_str_bool (aX I q (by simp))
   | int j=>obtain ⟨t',rfl⟩:=ry;exact PySem.EqMixed.eq_str_int (aX I q (by simp))
   | str j=>obtain ⟨t',rfl⟩:=ry;exact eq_str (aX I q zj)
   | _=>exact absurd (show false=true from hs) TJ
 | Bv i=>
   obtain ⟨t,rfl⟩:=rx
   cases y with
   | Bv j=>obtain ⟨t',rfl⟩:=ry;exact PySem.W.eq_bytes (aX I q zk)
   | _=>exact absurd (show false=true from hs) TJ
 | _=>cases y <;> exact absurd (show false=true from hs) TJ
theorem JB:xF X (compareOp .NotEq) P6:=by
 intro pins s σ H x y v u Q I rx ry h
 obtain ⟨hs,q⟩:=h
 cases x with
 | bz=>
   cases rx
   cases y with
   | bz=>cases ry;exact PySem.EqNone.ne_none_none (aX I q (by simp))
   | bl j=>cases ry;exact PySem.EqNone.ne_none_bool (aX I q (by simp))
   | int j=>obtain ⟨t',rfl⟩:=ry;exact PySem.EqNone.ne_none_int (aX I q (by simp))
   | str j=>obtain ⟨t',rfl⟩:=ry;exact PySem.EqNone.ne_none_str (aX I q (by simp))
   | _=>exact absurd (show false=true from hs) TJ
 | bl i=>
   cases rx
   cases y with
   | bz=>cases ry;exact PySem.EqNone.ne_bool_none (aX I q (by simp))
   | bl j=>cases ry;exact ne_bool (aX I q (congrArg not BD))
   | str j=>obtain ⟨t',rfl⟩:=ry;exact PySem.EqMixed.ne_bool_str (aX I q (by simp))
   | _=>exact absurd (show false=true from hs) TJ
 | int i=>
   obtain ⟨t,rfl⟩:=rx
   cases y with
   | bz=>cases ry;exact PySem.EqNone.ne_int_none (aX I q (by simp))
   | int j=>obtain ⟨t',rfl⟩:=ry;exact ne_int (aX I q (congrArg not zh))
   | str j=>obtain ⟨t',rfl⟩:=ry;exact PySem.EqMixed.ne_int_str (aX I q (by simp))
   | _=>exact absurd (show false=true from hs) TJ
 | str i=>
   obtain ⟨t,rfl⟩:=rx
   cases y with
   | bz=>cases ry;exact PySem.EqNone.ne_str_none (aX I q (by simp))
   | bl j=>cases ry;exact PySem.EqMixed.ne_str_bool (aX I q (by simp))
   | int j=>obtain ⟨t',rfl⟩:=ry;exact PySem.EqMixed.ne_str_int (aX I q (by simp))
   | str j=>obtain ⟨t',rfl⟩:=ry;exact ne_str (aX I q (congrArg not zj))
   | _=>exact absurd (show false=true from hs) TJ
 | Bv i=>
   obtain ⟨t,rfl⟩:=rx
   cases y with
   | Bv j=>obtain ⟨t',rfl⟩:=ry;exact PySem.W.ne_bytes (aX I q (congrArg not zk))
   | _=>exact absurd (show false=true from hs) TJ
 | _=>cases y <;> exact absurd (show false=true from hs) TJ
theorem JC:xF X (compareOp .Lt) (Ef fun i j=> .bl (decide (i < j))):=GX fun _ _ _ _ _ _ _ q=>lt_int q
theorem JD:xF X (compareOp .LtE) (Ef fun i j=> .bl (decide (i≤j))):=GX fun _ _ _ _ _ _ _ q=>le_int q
theorem JE:xF X (compareOp .Gt) (Ef fun i j=> .bl (decide (j < i))):=GX fun _ _ _ _ _ _ _ q=>gt_int q
theorem aL (b:Expr) {op:CmpOp} (h:op≠ .In:=by decide) (h2:op≠ .NotIn:=by decide):behindInMarks op b=false:=by
 have e1:(op == CmpOp.In)=false:=by cases op <;> first | rfl | exact absurd rfl h
 have e2:(op == CmpOp.NotIn)=false:=by cases op <;> first | rfl | exact absurd rfl h2
 cases b <;> simp [behindInMarks,e1,e2]
theorem xW:(sizeLine:Nat) < 2 ^ 63:=by rw [sizeLine_eq];decide
theorem vals1 {x:V} {us:List Value} (r:Vals [x] us):∃ u,us= [u]∧RelV x u:=by
 cases r with
 | cons r1 r2=>cases r2;exact ⟨_,rfl,r1⟩
theorem vals2 {x y:V} {us:List Value} (r:Vals [x,y] us):∃ u w',us= [u,w']∧RelV x u∧RelV y w':=by
 cases r with
 | cons r1 r2=>
   cases r2 with
   | cons r3 r4=>cases r4;exact ⟨_,_,rfl,r1,r3⟩
theorem Az (hc:X.calm=true):zg X (.builtin "max") (fun xs H Q=> ∃ i j,xs= [.int i,.int j]∧Q (.int (if j > i then j else i)) H):=by
 intro pins s σ H xs us Q I r h
 obtain ⟨i,j,rfl,q⟩:=h
 obtain ⟨u,w',rfl,⟨t,rfl⟩,⟨t',rfl⟩⟩:=vals2 r
 refine max_two_ints (I.ok.hd hc) fun h' tk k=>⟨_,H,I.kept k,?_,q⟩
 by_cases hj:j > i
 ·rw [if_pos hj,if_pos hj];exact ⟨_,rfl⟩
 ·rw [if_neg hj,if_neg hj];exact ⟨_,rfl⟩
end
end L2
namespace L2
open PySem PySem.Spec PyProof.Rows
structure G3 (h:Heap) (x dx C:Addr) (mA:Str→Option Value):Prop where
 obj:h.get? x=some (PySem.W.instObj C dx)
 ns:h.Ns1 dx mA
 ne:dx≠x
theorem AA {h:Heap} {dx:Addr} {mA:Str→Option Value} (n:h.Ns1 dx mA):∃ od,h.get? dx=some od∧∀ name,PySem.W.lookIn name od=some (mA name):=by
 obtain ⟨o,es,ep,ho,hd,hk,_,hm⟩:=n
 refine ⟨o,ho,fun name=>?_⟩
 have e:=hm name
 unfold nsFind findBy at e
 rw [← Array.find?_toList] at e
 unfold PySem.W.lookIn
 rw [hd]
 dsimp only
 split
 ·rename_i y q
  rw [q] at e
  exact congrArg some e
 ·rename_i q
  rw [q] at e
  have a:es.toList.any (·.refKey)=false:=by
   rw [List.any_eq_false]
   intro y hy
   obtain ⟨z,t,hkey⟩:=hk y (Array.mem_toList_iff.mp hy)
   simp [DictEntry.refKey,hkey]
  have a':¬ es.toList.any (·.refKey)=true:=by rw [a];exact TJ
  rw [if_neg a']
  exact congrArg some e
theorem G3.look {h:Heap} {x dx C:Addr} {mA:Str→Option Value} (I:G3 h x dx C mA):∃ od,PySem.W.InstAt h x (PySem.W.instObj C dx) C (some od)∧∀ name,PySem.W.lookIn name od=some (mA name):=
 let ⟨od,ho,hl⟩:=AA I.ns
 ⟨od,⟨I.obj,rfl,rfl,ho⟩,hl⟩
section
variable {prog:Program} {w:World} {A:Around} {E:Value→Shared→Prop} {s:Shared} {K:PySem.W.Frag} {x dx C f:Addr} {mA:Str→Option Value} {name:Str} {v:Value}
end
section
variable {P:Program} {w:World} {H H':Hp} {h h':Heap} {a C dx:Addr} {fs fs':List (Str ×V)}
theorem Eh (hok:iX P w H h) (e:H a=some (.ins C dx fs)):∃ mA,G3 h a dx C mA∧(∀ f,GI (fs.lookup f) (mA f))∧PySem.Within mA (fs.map (·.1))∧fs.length≤1000∧H dx=some (.own a):=by
 obtain ⟨d,z,ne,ob,mA,n,r,q⟩:=(show cy P w H h a (.ins C dx fs) from hok a _ e)
 exact ⟨mA,⟨ob,n,ne⟩,r,q,z,d⟩
end
structure Mx (K:PySem.W.Frag) (C:Addr):Prop where
 pg:PySem.W.plainGet K C Str.empty=true
 hd:PySem.W.hasDictIn K C=true
 po:PySem.W.plainOver K C=true
 sa:PySem.W.findIn K (.ref C) "__setattr__" =some (some (.builtin "object.__setattr__"))
theorem Mx.get {K:PySem.W.Frag} {C:Addr} (c:Mx K C) (f:Str):PySem.W.plainGet K C f=true:=c.pg
structure Sd (K:PySem.W.Frag) (C:Addr) (f:Str) (v:V) (u:Value):Prop where
 at_:PySem.W.findIn K (.ref C) f=some (some u)
 rel:RelV v u
 get:PySem.W.specialIn K u "__get__" =some none
 cp:PySem.W.copiedNames.contains f=false
structure Meth (K:PySem.W.Frag) (C:Addr) (m:Str) (f:Addr):Prop where
 at_:PySem.W.findIn K (.ref C) m=some (some (.ref f))
 fn:PySem.W.isFn K (.ref f)=true
 kp:PySem.W.keepIn K (.ref f)=true
section
variable {X:Cx} {pins:List (Addr ×Obj)} {σ:St} {H:Hp} {s:Shared} {a C dx:Addr} {fs:List (Str ×V)} {f:Str} {v:V} {A:Around} {E:Value→Shared→Prop}
end
section
variable {X:Cx} {o e value:Expr} {f:Str} {pos pos' tpos:Pos} {ta tv:TE}
end
section
variable {X:Cx} {pins:List (Addr ×Obj)} {σ:St} {H:Hp} {s:Shared} {A:Around} {E:Value→Shared→Prop} {Q:Value→Shared→Prop} {c:Value} {b:Bool}
inductive oN (K:PySem.W.Frag) (H:Hp):V→Value→Prop where
 | bz:oN K H .bz (.type "NoneType")
 | bl (x:Bool):oN K H (.bl x) (.type "bool")
 | int (i:Int):oN K H (.int i) (.type "int")
 | str (x:Str):oN K H (.str x) (.type "str")
 | IX (x:UInt64):oN K H (.IX x) (.type "float")
 | lst {a:Addr} {xs:List V} (e:H a=some (.lst xs)):oN K H (.ref a) (.type "list")
 | kW {a:Addr} {o:Obj} {xs:List V} (e:H a=some (.kW o (.lst xs))):oN K H (.ref a) (.type "list")
 | tup {a:Addr} {xs:List V} (e:H a=some (.tup xs)):oN K H (.ref a) (.type "tuple")
 | dK {a:Addr} {kvs:List (Key ×V)} (e:H a=some (.dK kvs)):oN K H (.ref a) (.type "dict")
 | dT {a:Addr} {kvs:List (List Key ×V)} (e:H a=some (.dT kvs)):oN K H (.ref a) (.type "dict")
 | ins {a C dx:Addr} {fs:List (Str ×V)} (e:H a=some (.ins C dx fs)) (cl:Mx K C) (ha:PySem.W.findIn K (.ref C) "__class__" =some (some (.builtin "object.__class__")))
  (hn:PySem.W.specialIn K (.builtin "object.__class__") "__get__" =some (some (.builtin "getset_descriptor.__get__"))) (htk:PySem.W.takesIn K (.builtin "object.__class__")=some true)
  (hm:PySem.W.mroIn K C (.type "object")=some true):oN K H (.ref a) (.ref C)
theorem fS {x:V} {u t:Value} (I:Inv X pins σ H s) (rx:RelV x u) (ty:oN X.K H x t) (e:PySem.W.kitOne X.K t c=some b) (h:∀ tk,Q (.bool b) { s with toks:=tk }) :
 wpAny (model X.prog X.w) A (call (.builtin "isinstance") [u,c]) Q E s:=by
 cases ty with
 | bz=>cases (show u=Value.none from rx);exact PySem.W.kia_one PySem.W.kitx_none I.vQ True.intro e (fun z=>nomatch z) h
 | bl y=>cases (show u=Value.bool y from rx);exact PySem.W.kia_one PySem.W.kitx_bool I.vQ True.intro e (fun z=>nomatch z) h
 | int i=>obtain ⟨t,q⟩:=(show ∃ t,u=Value.int i t from rx);cases q;exact PySem.W.kia_one PySem.W.kitx_int I.vQ True.intro e (fun z=>nomatch z) h
 | str y=>obtain ⟨t,q⟩:=(show ∃ t,u=Value.str y t from rx);cases q;exact PySem.W.kia_one PySem.W.kitx_str I.vQ True.intro e (fun z=>nomatch z) h
 | IX y=>obtain ⟨t,q⟩:=(show ∃ t,u=Value.float y t from rx);cases q;exact PySem.W.kia_one PySem.W.kitx_float I.vQ True.intro e (fun z=>nomatch z) h
 | @lst a xs ea=>
   cases (show u=Value.ref a from rx)
   obtain ⟨_,_,n,_,h1⟩:=(show cy X.prog X.w H s.heap a (.lst xs) from I.hok a _ ea)
   exact PySem.W.kia_one PySem.W.kitx_list I.vQ ⟨_,h1,rfl⟩ e (fun z=>nomatch z) h
 | @kW a ob xs ea=>
   cases (show u=Value.ref a from rx)
   obtain ⟨_,_,_,n,_,h1⟩:=(show cy X.prog X.w H s.heap a (.kW ob (.lst xs)) from I.hok a _ ea)
   exact PySem.W.kia_one PySem.W.kitx_list I.vQ ⟨_,h1,rfl⟩ e (fun z=>nomatch z) h
 | @tup a xs ea=>
   cases (show u=Value.ref a from rx)
   obtain ⟨_,_,_,p⟩:=(show cy X.prog X.w H s.heap a (.tup xs) from I.hok a _ ea)
   obtain ⟨o,h1,h2,_⟩:=p
   exact PySem.W.kia_one PySem.W.kitx_tuple I.vQ ⟨o,h1,h2⟩ e (fun z=>nomatch z) h
 | @dK a kvs ea=>
   cases (show u=Value.ref a from rx)
   obtain ⟨_,_,vs,_,p⟩:=(show cy X.prog X.w H s.heap a (.dK kvs) from I.hok a _ ea)
   obtain ⟨o,es,ep,h1,h2,_⟩:=p
   exact PySem.W.kia_one PySem.W.kitx_dict I.vQ ⟨o,h1,h2.1⟩ e (fun z=>nomatch z) h
 | @dT a kvs ea=>
   cases (show u=Value.ref a from rx)
   obtain ⟨_,_,xs,_,o,es,ep,h1,h2,_⟩:=(show cy X.prog X.w H s.heap a (.dT kvs) from I.hok a _ ea)
   exact PySem.W.kia_one PySem.W.kitx_dict I.vQ ⟨o,h1,h2.1⟩ e (fun z=>nomatch z) h
 | @ins a C dx fs ea cl ha hn htk hm=>
   cases (show u=Value.ref a from rx)
   obtain ⟨mA,O,_⟩:=Eh I.hok ea
   obtain ⟨od,J,_⟩:=O.look
   exact PySem.W.kia_one (PySem.W.kitx_own (cl.get _) cl.hd ha hn htk hm) I.vQ J e (fun z=>nomatch z) h
end
end L2
namespace L2
open PySem PySem.Spec PyProof.Rows
structure gR (k:Nat) (A:Around):Prop where
 hd:A.handled=none
 dp:A.depth+3*k+5 < recursionLimit
 un:A.units+16*k+200 < cLine
theorem gR.mono {j k:Nat} {A:Around} (r:gR k A) (h:j≤k):gR j A:=⟨r.hd,by have:=r.dp;omega,by have:=r.un;omega⟩
theorem gR.deeper {k:Nat} {A:Around} (r:gR (k+1) A) (env:Env):gR k (A.deeper env):=
 ⟨r.hd,by have:=r.dp;show A.depth+1+3*k+5 < _;omega,by have:=r.un;show A.units+3+16*k+200 < _;omega⟩
theorem gR.depth {k:Nat} {A:Around} (r:gR k A):A.depth < recursionLimit:=by have:=r.dp;omega
theorem gR.units {k:Nat} {A:Around} (r:gR k A):A.units+64 < cLine:=by have:=r.un;omega
def G4:TA:=fun _ H Q=>Q [] H
def BE (ta:TE) (tr:TA):TA:=fun σ H Q=>ta σ H fun x H1=>tr σ H1 fun xs H2=>Q (x :: xs) H2
section
variable {X:Cx} {e:Expr} {es:List Expr} {te:TE} {t:TA} {pos:Pos}
theorem uq:PA X [] G4:=fun _ _ _ _ H Q I h=>Calls.spliced_nil ⟨[],H,I,.nil,h⟩
theorem o4 (ha:PE X e te) (hr:PA X es t) (hs:starEach (e :: es) X.env=(false,eval e X.env) :: starEach es X.env:=by rfl):PA X (e :: es) (BE te t):=by
 intro pos pins s σ H Q I h
 rw [hs]
 show wpAny _ _ (spliced ((false,eval e X.env) :: backTo pos (starEach es X.env))) _ _ s
 refine Calls.spliced_cons (cF (ha pins s σ H _ I h) fun u s1 ⟨x,H1,I1,r1,q1⟩=>?_)
 exact cF (hr pos pins s1 σ H1 _ I1 q1) fun us s2 ⟨xs,H2,I2,r2,q2⟩=>⟨x :: xs,H2,I2,.cons r1 r2,q2⟩
def My (t:TA):TE:=fun σ H Q=>t σ H fun xs H1=>xs.length≤sizeLine∧∀ p,H1 p=none→Q (.ref p) (upd H1 p (.tup xs))
def Mz (t:TA):TE:=fun σ H Q=>t σ H fun xs H1=>xs.length≤sizeLine∧∀ p,H1 p=none→Q (.ref p) (upd H1 p (.lst xs))
theorem G5 {x1} (h:PA X es t):PE X (.Tuple es x1 pos) (My t):=by
 intro pins s σ H Q I hq
 refine wpAny_Tuple_spliced (cF (h pos pins s σ H _ I hq) fun us s1 ⟨xs,H1,I1,r,z,q⟩=>⟨by rw [← r.length];exact z,?_⟩)
 have hf:H1 s1.heap.objs.size=none:=I1.hok.fresh (Tz _)
 refine ⟨.ref s1.heap.objs.size,upd H1 s1.heap.objs.size (.tup xs),I1.laid (t':=s1.toks) (fun b u e=>Heap.get?_push_of_some _ e) (Tz _) ?_,rfl,q _ hf⟩
 exact ⟨z,us,r,⟨_,Heap.get?_push_size _ rfl,rfl,_,rfl⟩⟩
theorem xX (h:PA X es t):PE X (.List es pos) (Mz t):=by
 intro pins s σ H Q I hq
 refine wpAny_List_spliced (cF (h pos pins s σ H _ I hq) fun us s1 ⟨xs,H1,I1,r,z,q⟩=>⟨by rw [← r.length];exact z,?_⟩)
 have hf:H1 s1.heap.objs.size=none:=I1.hok.fresh (Tz _)
 refine ⟨.ref s1.heap.objs.size,upd H1 s1.heap.objs.size (.lst xs),I1.laid (t':=s1.toks) (fun b u e=>Heap.get?_push_of_some _ e) (Tz _) ?_,rfl,q _ hf⟩
 exact ⟨z,us,0,r,Heap.get?_push_size _ rfl⟩
end
abbrev Sp:=List V→Hp→VK→XK→Prop
abbrev BF:=List Env→Hp→Shared→XK→Value→Shared→Prop
structure Ei (P:Program) (w:World) (K:PySem.W.Frag) (mg:Str→Option Value) (base:Heap) (A:Around) (outer:List Env) (s:Shared) (H:Hp):Prop where
 frames:A.frames=some outer
 mod:Mod K mg base
 bs:∀ b o,base.get? b=some o→s.heap.get? b=some o∧H b=none
 FP:base.objs.size≤s.heap.objs.size
 oM:s.heap.FunFrames base outer
 GL:∀ b∈frs outer,H b=none
 hok:iX P w H s.heap
 bare:AllBare s.gens
def CE (outer:List Env) (P:Program) (w:World) (H:Hp) (s:Shared) (Q:VK) (u:Value) (s':Shared):Prop:=
 ∃ v H',s'.os=s.os∧AllBare s'.gens∧Un (frs outer) [] H H' s.heap s'.heap∧iX P w H' s'.heap∧RelV v u∧Q v H'
def CR (CX:BF) (outer:List Env) (P:Program) (w:World) (H:Hp) (s:Shared) (Q:VK) (E:XK) (r:Result) (s':Shared):Prop:=
 match r with
 | .ok (.ret u)=>CE outer P w H s Q u s'
 | .ok _=>False
 | .error e=>CX outer H s E e s'
structure cE (P:Program) (w:World) (K:PySem.W.Frag) (mg:Str→Option Value) (base:Heap) (CX:BF) (k:Nat) (f:Addr) (fd:FuncData) (ps:List Str) (sp:Sp):Prop where
 len:∀ vs H Q E,sp vs H Q E→vs.length=ps.length
 run:∀ (A:Around) (outer:List Env) (s:Shared) (H:Hp) (args:Args) (us:List Value) (vs:List V) (Q:VK) (E:XK),gR k A→Ei P w K mg base A outer s H→BindsTo s fd args (ps.zip us)→Vals vs us→sp vs H Q E→
  codeAny (model P w) A (.call (.ref f) args) (CR CX outer P w H s Q E) s
section
variable {X:Cx} {pins:List (Addr ×Obj)} {σ:St} {H:Hp} {s s':Shared}
theorem Inv.MA (I:Inv X pins σ H s):Ei X.prog X.w X.K X.mg X.base X.A X.stack s H:=
 ⟨I.ok.frames,I.ok.mod,I.bs,UI I.ok.FP I.sz,I.stack,I.ze,I.hok,I.bare⟩
theorem Inv.after {Q:VK} {u:Value} (I:Inv X pins σ H s) (h:CE X.stack X.prog X.w H s Q u s'):EP X pins σ Q u s':=by
 obtain ⟨v,H',os,bare,un,hok,r,q⟩:=h
 obtain ⟨hh,g,d,t,os'⟩:=s'
 obtain rfl:os'=s.os:=os
 exact ⟨v,H',I.call (h':=hh) (g':=g) (d':=d) (t':=t) (ch:=[]) un hok bare (fun b z=>absurd z (by simp)),r,q⟩
end
def JF (sp:Sp) (Bp:List V) (E:XK) (t:TA):TE:=fun σ H Q=>t σ H fun vs H1=>sp (vs ++ Bp) H1 Q E
def Binds (K:PySem.W.Frag) (fd:FuncData) (ps:List Str) (ds:List Value):Prop:=
 ∀ (s:Shared) (us:List Value),K.In s.heap→(us ++ ds).length=ps.length→BindsTo s fd ⟨us,[]⟩ (ps.zip (us ++ ds))
theorem Binds.all {K:PySem.W.Frag} {fd:FuncData} {ps:List Str} (h:∀ us:List Value,us.length=ps.length→bindArgs fd ⟨us,[]⟩=pure (ps.zip us)):Binds K fd ps []:=fun s us _ hl=>by
 rw [UR] at hl ⊢
 exact .of_eq (h us hl)
def Passes (CX:BF) (X:Cx) (E:XK):Prop:= ∀ (pins:List (Addr ×Obj)) (σ:St) (H:Hp) (s:Shared) (e:Value) (s':Shared),Inv X pins σ H s→CX X.stack H s E e s'→X.xe e s'
section
variable {X:Cx} {CX:BF} {k:Nat} {f C:Addr} {fd:FuncData} {ps:List Str} {sp:Sp} {Bp:List V} {ds:List Value} {E:XK} {x m:Str} {p pos apos:Pos} {e o:Expr} {es:List Expr} {ta:TE} {t:TA}
theorem G6 {pins:List (Addr ×Obj)} {σ:St} {H:Hp} {s:Shared} {Q:VK} {us:List Value} {vs:List V} (F:cE X.prog X.w X.K X.mg X.base CX k f fd ps sp) (hr:gR k X.A) (hb:Binds X.K fd ps ds) (hd:Vals Bp ds) (hx:Passes CX X E)
 (I:Inv X pins σ H s) (r:Vals vs us) (h:sp (vs ++ Bp) H Q E):wpAny (model X.prog X.w) X.A (call (.ref f) us) (EP X pins σ Q) X.xe s:=by
 have r2:Vals (vs ++ Bp) (us ++ ds):=r.append hd
 have hl:(us ++ ds).length=ps.length:=by rw [← r2.length];exact F.len _ _ _ _ h
 refine wpAny_call (codeAny_mono (F.run X.A X.stack s H ⟨us,[]⟩ (us ++ ds) (vs ++ Bp) Q E hr I.MA (hb s us I.vQ hl) r2 h) fun r s' hq=>?_)
 cases r with
 | error e=>exact hx pins σ H s e s' I hq
 | ok fl=>
   cases fl with
   | ret u=>exact I.after hq
   | next=>exact False.elim hq
   | brk=>exact False.elim hq
   | cont=>exact False.elim hq
theorem zl (F:cE X.prog X.w X.K X.mg X.base CX k f fd ps sp) (hr:gR k X.A) (hg:Gl X x) (hm:X.mg x=some (.ref f)) (hk:PySem.W.keepIn X.K (.ref f)=true) (hb:Binds X.K fd ps ds) (hd:Vals Bp ds) (hx:Passes CX X E)
 (ha:PA X (e :: es) t) (hdb:(x == ("__debug__" :Str))=false:=by decide) (he:starEach (e :: es) X.env=(false,eval e X.env) :: starEach es X.env:=by rfl) (hpl:(backTo pos (starEach es X.env)).any (·.1)=false:=by rfl) :
 PE X (.Call (.Name x p) (e :: es) [] pos) (JF sp Bp E t):=by
 intro pins s σ H Q I h
 refine wpAny_Call_Name_kw (D6 I hg hm ?_ hdb)
 refine PySem.W.callWith_K (h₀:=X.base) I.ok.mod.vP hk (cF (ha pos pins s σ H _ I h) fun us s1 ⟨vs,H1,I1,r,q⟩=>⟨I1.vQ,?_⟩) he hpl
 exact G6 F hr hb hd hx I1 r q
structure Mk (K:PySem.W.Frag) (C f:Addr):Prop where
 makes:PySem.W.makesIn K C=true
 init:PySem.W.findIn K (.ref C) "__init__" =some (some (.ref f))
 fn:PySem.W.isFn K (.ref f)=true
 kp:PySem.W.keepIn K (.ref C)=true
end
section
variable {X:Cx} {CX:BF} {k:Nat} {f C:Addr} {fd:FuncData} {ps ks:List Str} {sp:Sp} {E:XK} {x m:Str} {p pos apos kpos:Pos} {e o:Expr} {es:List Expr} {kws:List Keyword} {te ta:TE} {t tk:TA} {nm:Option Str}
structure MB (K:PySem.W.Frag) (fd:FuncData) (ps ks:List Str) (g:List Value→List Value→List Value) (gV:List V→List V→List V):Prop where
 to:∀ (s:Shared) (us ws:List Value),K.In s.heap→(g us ws).length=ps.length→BindsTo s fd ⟨us,ks.zip ws⟩ (ps.zip (g us ws))
 rel:∀ {vs:List V} {us:List Value} {zs:List V} {ws:List Value},Vals vs us→Vals zs ws→Vals (gV vs zs) (g us ws)
variable {g:List Value→List Value→List Value} {gV:List V→List V→List V}
end
structure aO (N P:List Str) (sc:Scope):Prop where
 kind:sc.kind= .function
 co:sc.isCoroutine=false
 gen:sc.isGenerator=false
 nd:N.Nodup
 pre:N.take P.length=P
 par:∀ x∈P,sc.names.lookup x=some .local∨sc.names.lookup x=some .cell
 G7:∀ y∈sc.names,y.2≠ .free
theorem sJ {kindOf:Str→Option NameKind} {x:Str}:∀ {binds:List (Str ×Value)} {m:Str→Option Value},(∀ v,(x,v)∉binds)→bindL kindOf binds m x=m x
 | [],_,_=>rfl
 | (n,v) :: r,m,h=>by
   unfold bindL
   rw [sJ fun w hw=>h w (Tn _ hw)]
   split
   ·have:x≠n:=by rintro rfl;exact h v TN
    simp [this]
   ·rfl
theorem sL {kindOf:Str→Option NameKind} {x:Str}:∀ {binds:List (Str ×Value)} {m:Str→Option Value},(∀ v,(x,v)∉binds)→bindC kindOf binds m x=m x
 | [],_,_=>rfl
 | (n,v) :: r,m,h=>by
   unfold bindC
   rw [sL fun w hw=>h w (Tn _ hw)]
   split
   ·rfl
   ·have:x≠n:=by rintro rfl;exact h v TN
    simp [this]
theorem sM {kindOf:Str→Option NameKind} {x:Str} {v:Value}:∀ {P:List Str} {vs:List Value} {i:Nat} {m:Str→Option Value},P.Nodup→P[i]?=some x→vs[i]?=some v→kindOf x=some .local→
 bindL kindOf (P.zip vs) m x=some v
 | [],_,_,_,_,h,_,_=>by simp at h
 | _ :: _,[],_,_,_,_,h,_=>by simp at h
 | p :: P,w :: vs,0,m,nd,h1,h2,hk=>by
   simp at h1 h2;subst h1;subst h2
   show bindL kindOf ((p,w) :: P.zip vs) m p=_
   unfold bindL
   rw [sJ fun v hv=>(T4.mp nd).1 (Wi hv).1,if_pos hk]
   simp
 | p :: P,w :: vs,i+1,m,nd,h1,h2,hk=>by
   show bindL kindOf ((p,w) :: P.zip vs) m x=_
   unfold bindL
   exact sM (i:=i) (T4.mp nd).2 (by simpa using h1) (by simpa using h2) hk
theorem sN {kindOf:Str→Option NameKind} {x:Str} {v:Value}:∀ {P:List Str} {vs:List Value} {i:Nat} {m:Str→Option Value},P.Nodup→P[i]?=some x→vs[i]?=some v→kindOf x≠some .local→
 bindC kindOf (P.zip vs) m x=some v
 | [],_,_,_,_,h,_,_=>by simp at h
 | _ :: _,[],_,_,_,_,h,_=>by simp at h
 | p :: P,w :: vs,0,m,nd,h1,h2,hk=>by
   simp at h1 h2;subst h1;subst h2
   show bindC kindOf ((p,w) :: P.zip vs) m p=_
   unfold bindC
   rw [sL fun v hv=>(T4.mp nd).1 (Wi hv).1,if_neg hk]
   simp
 | p :: P,w :: vs,i+1,m,nd,h1,h2,hk=>by
   show bindC kindOf ((p,w) :: P.zip vs) m x=_
   unfold bindC
   exact sN (i:=i) (T4.mp nd).2 (by simpa using h1) (by simpa using h2) hk
def start (N:List Str) (vs:List V):St:=vs.map some ++ List.replicate (N.length - vs.length) none
def oO (CX:BF) (P:Program) (w:World) (K:PySem.W.Frag) (mg:Str→Option Value) (base:Heap) (N:List Str) (qual:Str) (scope:Scope) (f:Addr) (cd:Value) (A:Around) (outer:List Env) (s:Shared) (H:Hp) (E:XK):Cx where
 prog:=P
 w:=w
 K:=K
 mg:=mg
 base:=base
 A:=A.deeper (envOfC qual scope s.heap.objs.size f cd)
 N:=N
 s₀:=s
 H₀:=H
 env:=envOfC qual scope s.heap.objs.size f cd
 outer:=outer
 stack:=envOfC qual scope s.heap.objs.size f cd :: outer
 ex:=[]
 calm:=true
 fn:=fun _=>true
 pn:=[]
 xe:=fun e s'=>wpAny (model P w) (A.deeper (envOfC qual scope s.heap.objs.size f cd)) (leaving (envOfC qual scope s.heap.objs.size f cd) e) (fun _ s''=>CX outer H s E e s'') (fun e' s''=>CX outer H s E e' s'') s'
theorem vY {sc:Scope} {n:Nat} {x:Str} (h:sc.names.lookup x=some .cell):∃ c,(cellsFrom n sc.names []).lookup x=some c:=by
 have q:=PySem.W.cellsFrom_some sc.names n [] (.inl h)
 exact V6.mp q
theorem AB {CX:BF} {P:Program} {w:World} {K:PySem.W.Frag} {mg:Str→Option Value} {base:Heap} {N ps:List Str} {qual:Str} {scope:Scope} {f:Addr} {cd:Value} {A:Around} {outer:List Env} {s s1:Shared} {H:Hp} {E:XK} {us:List Value} {vs:List V}
 (S:aO N ps scope) (hd:A.handled=none) (e0:Ei P w K mg base A outer s H) (hl:vs.length=ps.length) (r:Vals vs us)
 (x:InCallC s s.heap.objs.size (bindL (envOfC qual scope s.heap.objs.size f cd).kindOf (ps.zip us) fun _=>none) (cellsFrom (s.heap.objs.size+1) scope.names []) (bindC (envOfC qual scope s.heap.objs.size f cd).kindOf (ps.zip us) fun _=>none) s1) :
 Inv (oO CX P w K mg base N qual scope f cd A outer s H E) [] (start N vs) H s1:=by
 have hpl:ps.length≤N.length:=by have:=congrArg List.length S.pre;rw [Uy] at this;omega
 obtain ⟨h1,tk,rfl,hk⟩:=x.done
 have JG:∀ b:Addr,b∉(oO CX P w K mg base N qual scope f cd A outer s H E).ex:=fun b z=>absurd (show b∈([]:List Addr) from z) (by simp)
 refine ⟨⟨e0.mod,S.kind,rfl,rfl,Tz _,fun y z c h1 h2=>?_,fun y hy=>?_,fun y c _ h=>?_,fun _=>hd,Around.frames_deeper e0.frames,.inr ⟨rfl,rfl⟩,fun b z=>absurd z (JG b),e0.bs,e0.FP,fun b _ _=>JG b,fun b z=>absurd z (JG b),e0.oM,e0.GL⟩,
  rfl,e0.bare,Un.kept hk,⟨_,x.toInCall.ns,fun i y v h1 h2 h3=>?_⟩,fun y c h=>⟨_,x.cell y c h⟩,e0.hok.fresh (Tz _),fun y c h=>?_,fun p hp=>absurd (show p∈([]:List (Addr ×Obj)) from hp) (by simp),e0.hok.kept hk,?_⟩
 ·exact name_of_addr x.apart (PySem.mem_of_lookup h1) (PySem.mem_of_lookup h2)
 ·have hy:scope.names.lookup y=some .cell∨scope.names.lookup y=some .free:=hy
  rcases hy with hy | hy
  ·exact vY hy
  ·exact absurd rfl (S.G7 _ (PySem.mem_of_lookup hy))
 ·exact Vx (x.above y c (PySem.mem_of_lookup h))
 ·have hi:i < vs.length:=by
   unfold start at h2
   by_cases hi:i < vs.length
   ·exact hi
   ·rw [U6 (by simpa using hi)] at h2
    rw [Wa] at h2
    split at h2 <;> cases h2
  have ha:vs[i]?=some v:=by
   unfold start at h2
   rw [Va (by simpa using hi),Uh] at h2
   cases e:vs[i]? with
   | none=>rw [e] at h2;cases h2
   | some a=>rw [e] at h2;cases h2;rfl
  obtain ⟨u,hu,rv⟩:=r.get ha
  have hp:ps[i]?=some y:=by
   rw [← S.pre,V7 (by omega)];exact h1
  have OJ:ps.Nodup:=by rw [← S.pre];exact S.nd.sublist (VA _ _)
  refine ⟨u,rv,?_⟩
  rcases S.par y (TM hp) with k | k
  ·exact .inl ⟨k,sM OJ hp hu k⟩
  ·obtain ⟨c,e⟩:=vY (n:=s.heap.objs.size+1) k
   refine .inr ⟨.inl k,c,e,?_⟩
   have q:=x.cell y c e
   rw [sN OJ hp hu (by show scope.names.lookup y≠_;rw [k];decide)] at q
   exact q
 ·exact e0.hok.fresh (Vx (x.above y c (PySem.mem_of_lookup h)))
 ·unfold start
  show _=N.length
  rw [TL,To,List.length_replicate]
  omega
theorem JH {CX:BF} {P:Program} {w:World} {K:PySem.W.Frag} {mg:Str→Option Value} {base:Heap} {k:Nat} {f:Addr} {name qual:Str} {params:Arguments} {body:List Stmt} {scope:Scope} {dV kV doc pm cdv ct oc:Value} {an od:Option Addr}
 {osl:Array (Option Value)} {N ps:List Str} {sp:Sp} (lk:K.lookup f=some ⟨oc,od,.func (PySem.W.fnOf name qual params body scope dV kV doc pm an cdv ct),osl⟩) (hcd:PySem.W.codeIn K cdv qual=true) (S:aO N ps scope)
 (len:∀ vs H Q E,sp vs H Q E→vs.length=ps.length)
 (hbody:∀ (A:Around) (outer:List Env) (s:Shared) (H:Hp) (vs:List V) (Q:VK) (E:XK),gR k (A.deeper (envOfC qual scope s.heap.objs.size f cdv))→sp vs H Q E→
  ∃ t,xT (oO CX P w K mg base N qual scope f cdv A outer s H E) body t∧t { nx:=fun _ H'=>Q .bz H',rt:=Q } (start N vs) H) :
 cE P w K mg base CX (k+1) f (PySem.W.fnOf name qual params body scope dV kV doc pm an cdv ct) ps sp:=by
 refine ⟨len,fun A outer s H args us vs Q E hr e0 hb r FU=>?_⟩
 have hl:=len _ _ _ _ FU
 have KX:K.In s.heap:=e0.mod.vP.keeps fun b o e=>(e0.bs b o e).1
 have lim:s.heap.NoLimit:=e0.mod.nolimit.keeps fun b o e=>(e0.bs b o e).1
 have hkind:∀ y∈ps.zip us,scope.names.lookup y.1=some .local∨(scope.names.lookup y.1=some .cell∧((cellsFrom (s.heap.objs.size+1) scope.names []).lookup y.1).isSome=true):=fun ⟨n,v⟩ hy=>by
  rcases S.par n (Wi hy).1 with q | q
  ·exact .inl q
  ·exact .inr ⟨q,PySem.W.cellsFrom_some _ _ _ (.inl q)⟩
 refine codeAny_call_function hr.depth (KX _ _ lk) rfl S.co S.gen rfl (PySem.W.codeRec_of KX hcd) (hb _ _ _ _ ?_)
 refine wpAny_newFunctionEnv_cells S.kind hkind fun env he s1 x=>?_
 subst he
 refine ⟨lim.keeps x.toInCall.keep,codeAny_func ?_⟩
 obtain ⟨t,ht,hq⟩:=hbody A outer s H vs Q E (hr.deeper _) FU
 have I:Inv (oO CX P w K mg base N qual scope f cdv A outer s H E) [] (start N vs) H s1:=AB S hr.hd e0 hl r x
 refine wpAny_mono (ht [] s1 (start N vs) H _ I hq) (fun fl s' hs=>?_) fun e s' hs=>hs
 have fin:∀ {σ':St} {H':Hp} {v:V} {u:Value},Inv (oO CX P w K mg base N qual scope f cdv A outer s H E) [] σ' H' s'→RelV v u→Q v H'→CE outer P w H s Q u s':=
  fun {σ' H' v u} J rv q=>⟨v,H',J.os,J.bare,J.base,J.hok,rv,q⟩
 cases fl with
 | ret u=>
   obtain ⟨v,σ',H',J,rv,q⟩:=hs
   exact fin J rv q
 | next=>
   obtain ⟨σ',H',J,q⟩:=hs
   exact fin (v:=V.bz) (u:=Value.none) J rfl q
 | brk=>
   obtain ⟨_,_,_,q⟩:=hs
   exact False.elim q
 | cont=>
   obtain ⟨_,_,_,q⟩:=hs
   exact False.elim q
end L2
namespace L2
open PySem PySem.Spec PyProof.Rows
section
variable {X:Cx} {x:Str} {p pos:Pos} {e:Expr} {es:List Expr} {t:TA} {id T:String} {r:List V→Hp→VK→Prop}
end
end L2
namespace HT
open PySem PyProof.Rows
def lexLt:List Int→List Int→Bool
 | [],[]=>false
 | [],_ :: _=>true
 | _ :: _,[]=>false
 | x :: xs,y :: ys=>if x=y then lexLt xs ys else decide (x < y)
theorem kY (x y:Int) (xs ys:List Int):lexLt (x :: xs) (y :: ys)=if x=y then lexLt xs ys else decide (x < y):=rfl
theorem kI:lexLt [] []=false:=rfl
theorem pK (y:Int) (ys:List Int):lexLt [] (y :: ys)=true:=rfl
theorem pL (x:Int) (xs:List Int):lexLt (x :: xs) []=false:=rfl
theorem BG (A:Around) (s:Shared) (a:Int) (t:Tok) (c:Int) (u:Tok):∃ e,SeqAt.EqAt A s (.int a t) (.int c u) e∧(e=true↔a=c):=
 ⟨(a == c),SeqAt.EqAt.int_int a t c u,by simp⟩
theorem BH (A:Around) (s:Shared) (a:Int) (t:Tok) (c:Int) (u:Tok) (prog:Program) (w:World) (E:Value→Shared→Prop) (Q:Value→Shared→Prop) (h:Q (.bool (decide (a < c))) s) :
 wpAny (model prog w) A (richCompare .Lt (.int a t) (.int c u)) Q E s:=
 (PyProof.Rows.lt_int h:wpAny (model prog w) A (compareOp .Lt (.int a t) (.int c u)) Q E s)
section
open PySem.SeqAt
open PySem.AutoSeq1 (wpAny_loadPart')
open PySem.MeetsSeq PySem.MeetsSeq2 PySem.MeetsSeq3
theorem rK (l b:Addr) (items items2:Array Value) (n n2:Nat) (dd dd2:Option Addr) (sl sl2:Array (Option Value)) (ns ms:List Int) (hi:IntsAre items.toList ns) (hj:IntsAre items2.toList ms) :
 Meets (Builtin.«tuple.__lt__» ⟨[.ref l,.ref b],[]⟩)
  (fun _ R s=>s.heap.get? l=some { cls:= .type "tuple",dict:=dd,data:= .seq items n,slots:=sl }∧s.heap.get? b=some { cls:= .type "tuple",dict:=dd2,data:= .seq items2 n2,slots:=sl2 }∧
   R (.ok (.ret (.bool (lexLt ns ms)))) s):=
 .of_wp fun prog w A R s h=>by
  obtain ⟨hp,g,d,tk,os⟩:=s;obtain ⟨hl,hb,h⟩:=h
  have f2:=AutoSeq1.sub_tuple_tuple
  have z1:items.size=ns.length:=by rw [← hi.length];simp
  have z2:items2.size=ms.length:=by rw [← hj.length];simp
  wp_walk using wpAny_loadPart' hl,wpAny_loadPart' hb,wpAny_forIn_list _ (fun rest b s'=>b.1=none∧s'= ⟨hp,g,d,tk,os⟩∧∃ (vs ws:List Value) (ns' ms':List Int),rest=vs.zip ws∧
   IntsAre vs ns'∧IntsAre ws ms'∧ns'.length+items2.size=ms'.length+items.size∧R (.ok (.ret (.bool (lexLt ns' ms')))) ⟨hp,g,d,tk,os⟩) _
  case turn=>
   rintro ⟨y,x⟩ rest b s' ⟨hb',rfl,vs,ws,ns',ms',hz,MC,hwi,hlen,hR⟩
   cases MC with
   | nil=>rw [List.zip_nil_left] at hz;cases hz
   | cons a t ME=>
     cases hwi with
     | nil=>rw [Vw] at hz;cases hz
     | cons c u MF=>
       rw [UY] at hz
       injection hz with hyx hrest
       injection hyx with hy hx
       subst hy hx
       rw [kY] at hR
       simp only [Ug] at hlen
       obtain ⟨e,he,hiff⟩:=BG A.in1 ⟨hp,g,d,tk,os⟩ a t c u
       refine wpAny_bind (he prog w _ _ ?_)
       cases e with
       | true=>
         rw [if_pos (hiff.mp rfl)] at hR
         wp_walk
         exact ⟨rfl,rfl,_,_,_,_,hrest,ME,MF,by omega,hR⟩
       | false=>
         rw [if_neg (fun q=>absurd (hiff.mpr q) TJ)] at hR
         have P7:=BH A.in1 ⟨hp,g,d,tk,os⟩ a t c u prog w
         wp_walk using P7
         exact ⟨_,rfl,by simpa using hR⟩
  case fin=>
   rintro ⟨b1,b2⟩ s' ⟨hb',rfl,vs,ws,ns',ms',hz,MC,hwi,hlen,hR⟩
   simp only at hb'
   subst hb'
   have hv:lexLt ns' ms'=decide (items.size < items2.size):=by
    cases MC with
    | nil=>
      cases hwi with
      | nil=>
        simp only [U9] at hlen
        rw [kI]
        exact (decide_eq_false (by omega)).symm
      | cons c u hw=>
        simp only [U9,Ug] at hlen
        rw [pK]
        exact (decide_eq_true (by omega)).symm
    | cons a t hv=>
      cases hwi with
      | nil=>
        simp only [U9,Ug] at hlen
        rw [pL]
        exact (decide_eq_false (by omega)).symm
      | cons c u hw=>
        rw [UY] at hz
        cases hz
   rw [hv] at hR
   wp_walk
   exact ⟨_,rfl,by simpa [Builtin.Tuple.tupleCompareSizes] using hR⟩
  case h=>
   exact ⟨rfl,rfl,items.toList,items2.toList,ns,ms,rfl,hi,hj,by omega,h⟩
end
section
variable {prog:Program} {w:World} {A:Around} {E:Value→Shared→Prop} {s:Shared}
theorem kZ {l b:Addr} {items items2:Array Value} {ns ms:List Int} {Q:Value→Shared→Prop} (hl:IsTup s.heap l items) (hb:IsTup s.heap b items2) (hi:IntsAre items.toList ns) (hj:IntsAre items2.toList ms)
 (hu:A.units < cLine) (h:Q (.bool (lexLt ns ms)) s):wpAny (model prog w) A (compareOp .Lt (.ref l) (.ref b)) Q E s:=by
 obtain ⟨⟨cls,dd,data,sl⟩,ho,hc,n,hd⟩:=id hl
 obtain ⟨⟨P8,dd2,data2,sl2⟩,ho2,hc2,n2,hd2⟩:=id hb
 simp only at hc hd hc2 hd2
 subst hc hd hc2 hd2
 exact richCompare_meets_room (op:= .Lt) ⟨_,ho,rfl⟩ ⟨_,ho2,rfl⟩ PySem.F.slot_tuple_lt PySem.F.entry_tuple_lt (PySem.F.args_tuple_lt_2 _ _) (rK l b items items2 n n2 dd dd2 sl sl2 ns ms hi hj)
  ⟨ho,ho2,show Value.bool (lexLt ns ms)≠Value.notImplemented∧Q (.bool (lexLt ns ms)) s from ⟨(fun x=>nomatch x),h⟩⟩ hu
def n8 (n d:Nat):Option Int→Nat
 | none=>d
 | some v=>if v < 0 then (v+(n:Int)).toNat else min v.toNat n
theorem vZ (n d:Nat):n8 n d none=d:=rfl
theorem zm (n d k:Nat):n8 n d (some (k:Int))=min k n:=by
 show (if (k:Int) < 0 then ((k:Int)+(n:Int)).toNat else min (k:Int).toNat n)=min k n
 rw [if_neg (by omega),U0]
end
end HT
namespace L2
open PySem PySem.Spec PyProof.Rows
abbrev TO:=St→Hp→(Option Int→Hp→Prop)→Prop
def PO (X:Cx) (e:Option Expr) (t:TO):Prop:=
 ∀ (pins:List (Addr ×Obj)) (s:Shared) (σ:St) (H:Hp) (Q:Option Int→Hp→Prop),Inv X pins σ H s→t σ H Q→
   wpAny (model X.prog X.w) X.A (evalPart e X.env) (fun u s'=> ∃ o H',Inv X pins σ H' s'∧IsPart u o∧Q o H') X.xe s
def zo:TO:=fun _ H Q=>Q none H
def FW (t:TE):TO:=fun σ H Q=>t σ H fun x H1=> ∃ i,x= .int i∧Q (some i) H1
theorem intsAre_of {ns:List Int}:∀ {us:List Value},Vals (ns.map V.int) us→IntsAre us ns:=by
 induction ns with
 | nil=>intro us r;rw [List.map_nil] at r;cases r;exact .nil
 | cons n ns ih=>
   intro us r
   rw [Ud] at r
   cases r with
   | cons r1 r2=>
     obtain ⟨t,e⟩:=r1
     subst e
     exact .cons n t (ih r2)
section
variable {X:Cx} {e:Expr} {te:TE} {lo hi:Option Expr} {tl th:TO} {pos p2:Pos}
theorem Ej:PO X none zo:=by
 intro pins s σ H Q I h
 rw [evalPart_none]
 exact wpAny_pure ⟨none,H,I,.none,h⟩
theorem Ek (h:PE X e te):PO X (some e) (FW te):=by
 intro pins s σ H Q I hw
 rw [evalPart_some]
 refine cF (h pins s σ H _ I hw) fun u s1 ⟨x,H1,I1,r1,q1⟩=>?_
 obtain ⟨i,rfl,q⟩:=q1
 obtain ⟨t,rfl⟩:=r1
 exact ⟨some i,H1,I1,.int i t,q⟩
def OL (X:Cx) (r:V→Option Int→Option Int→Hp→VK→Prop):Prop:=
 ∀ (pins:List (Addr ×Obj)) (s:Shared) (σ:St) (H:Hp) (x:V) (v vl vu:Value) (lo hi:Option Int) (sl:Addr) (Q:VK),Inv X pins σ H s→RelV x v→s.heap.IsSliceOf sl vl vu .none→IsPart vl lo→IsPart vu hi→r x lo hi H Q→
   ∃ T id,typeLookup (.type T) "__getitem__" =pure (some (.builtin id))∧s.TypeIs v T∧wpAny (model X.prog X.w) X.A (getItem v (.ref sl)) (EP X pins σ Q) X.xe s
def P9 (r:V→Option Int→Option Int→Hp→VK→Prop) (te:TE) (tl th:TO):TE:=fun σ H Q=>te σ H fun x H1=>tl σ H1 fun l H2=>th σ H2 fun u H3=>r x l u H3 Q
theorem BI {r:V→Option Int→Option Int→Hp→VK→Prop} (hr:OL X r) (he:PE X e te) (hl:PO X lo tl) (hu:PO X hi th):PE X (.Subscript e (.Slice lo hi none p2) pos) (P9 r te tl th):=by
 intro pins s σ H Q I h
 refine Subscript_ (cF (he pins s σ H _ I h) fun v s1 ⟨x,H1,I1,r1,q1⟩=>?_)
 refine wpAny_Slice (cF (hl pins s1 σ H1 _ I1 q1) fun vl s2 ⟨l,H2,I2,pl,q2⟩=>cF (hu pins s2 σ H2 _ I2 q2) fun vu s3 ⟨u,H3,I3,pu,q3⟩=>?_)
 rw [evalPart_none]
 refine wpAny_pure ?_
 have I4:Inv X pins σ H3 { s3 with heap:=s3.heap.push { cls:= .type "slice",data:= .fields #[vl,vu,.none] } }:=I3.kept (t':=s3.toks) fun b ob q=>Heap.get?_push_of_some _ q
 obtain ⟨T,id,hT,ht,hg⟩:=hr pins { s3 with heap:=s3.heap.push { cls:= .type "slice",data:= .fields #[vl,vu,.none] } } σ H3 x v vl vu l u s3.heap.objs.size Q I4 r1 (Heap.IsSliceOf.new ..) pl pu q3
 show wpAny (model X.prog X.w) X.A (subscriptTail e (.Slice lo hi none p2) v (.ref s3.heap.objs.size)) (EP X pins σ Q) X.xe { s3 with heap:=s3.heap.push { cls:= .type "slice",data:= .fields #[vl,vu,.none] } }
 exact tail_any (ops:=[.ref s3.heap.objs.size,v]) ht hT hg (by with_unfolding_all rfl)
def El (xs:List V) (lo hi:Option Int):List V:=(xs.drop (HT.n8 xs.length 0 lo)).take (HT.n8 xs.length xs.length hi - HT.n8 xs.length 0 lo)
theorem v5 (xs:List V) (lo hi:Option Int):(El xs lo hi).length≤xs.length:=by
 unfold El
 rw [Uy,UL]
 omega
def JI (K:PySem.W.Frag):R2:=fun x y H Q=> ∃ a b ns ms,x= .ref a∧y= .ref b∧rH K H a (ns.map V.int)∧rH K H b (ms.map V.int)∧Q (.bl (HT.lexLt ns ms)) H
end
end L2
namespace L2
open PySem PySem.Spec PyProof.Rows
def Bq (n:Nat) (i:Int):Option Nat:=if 0≤i then (if i < n then some i.toNat else none) else if -(n:Int)≤i then some (i+n).toNat else none
def rC {α:Type} (xs:List α) (i:Int):Option α:=(Bq xs.length i).bind fun j=>xs[j]?
theorem Em {n:Nat} {i:Int} {j:Nat} (h:Bq n i=some j):seqIndex? i n=some j∧j < n∧ -(n:Int)≤i∧i < n:=by
 unfold Bq at h
 by_cases h0:0≤i
 ·rw [if_pos h0] at h
  by_cases h1:i < n
  ·rw [if_pos h1] at h
   have e:i.toNat=j:=Option.some.inj h
   exact ⟨by rw [seqIndex_of h0 h1,e],by omega,by omega,h1⟩
  ·rw [if_neg h1] at h;cases h
 ·rw [if_neg h0] at h
  by_cases h1: -(n:Int)≤i
  ·rw [if_pos h1] at h
   have e:(i+n).toNat=j:=Option.some.inj h
   exact ⟨by rw [seqIndex_neg (by omega) h1,e],by omega,h1,by omega⟩
  ·rw [if_neg h1] at h;cases h
theorem zq {α:Type} {xs:List α} {i:Int} {v:α} (h:rC xs i=some v):∃ j,seqIndex? i xs.length=some j∧xs[j]?=some v∧j < xs.length∧ -(xs.length:Int)≤i∧i < xs.length:=by
 unfold rC at h
 cases e:Bq xs.length i with
 | none=>rw [e] at h;cases h
 | some j=>
   rw [e] at h
   obtain ⟨h1,h2,h3,h4⟩:=Em e
   exact ⟨j,h1,h,h2,h3,h4⟩
theorem o5 {α:Type} {xs:List α} {j:Nat} {v:α} (h:xs[j]?=some v):rC xs (j:Int)=some v:=by
 have hj:j < xs.length:=(T9.mp h).1
 have e:Bq xs.length (j:Int)=some j:=by
  unfold Bq
  rw [if_pos (by omega),if_pos (by omega)];simp
 unfold rC;rw [e];exact h
theorem v7 {α:Type} (xs:List α) (v:α):rC (xs ++ [v]) (-1)=some v:=by
 have hl:(xs ++ [v]).length=xs.length+1:=by simp
 have e:Bq (xs ++ [v]).length (-1)=some xs.length:=by
  unfold Bq
  rw [hl,if_neg (by decide),if_pos (by omega)]
  congr 1
  omega
 unfold rC
 rw [e]
 show (xs ++ [v])[xs.length]?=some v
 simp
def zu (b:Expr):Prop:= ∀ o i,subscripted b false o i=operate [o,i] (getItem o i)
def G8 (X:Cx) (r:R2):Prop:=
 ∀ (value slice:Expr) (pins:List (Addr ×Obj)) (s:Shared) (σ:St) (H:Hp) (x y:V) (v u:Value) (Q:VK),Inv X pins σ H s→RelV x v→RelV y u→r x y H Q→
   subscripted slice false v u=operate [v,u] (getItem v u)→wpAny (model X.prog X.w) X.A (subscriptTail value slice v u) (EP X pins σ Q) X.xe s
def OM (X:Cx) (id:String) (r:V→List V→Hp→VK→Prop):Prop:=
 ∀ (pins:List (Addr ×Obj)) (s:Shared) (σ:St) (H:Hp) (x:V) (xs:List V) (v:Value) (us:List Value) (Q:VK),Inv X pins σ H s→RelV x v→Vals xs us→r x xs H Q→
   wpAny (model X.prog X.w) X.A (call (.builtin id) (v :: us)) (EP X pins σ Q) X.xe s
section
variable {X:Cx} {a b:Expr} {ta tb:TE} {pos:Pos}
theorem G8.or {r r':R2} (h:G8 X r) (h':G8 X r'):G8 X (fun x y H Q=>r x y H Q∨r' x y H Q):=by
 intro value slice pins s σ H x y v u Q I rx ry q hs
 rcases q with q | q
 ·exact h value slice pins s σ H x y v u Q I rx ry q hs
 ·exact h' value slice pins s σ H x y v u Q I rx ry q hs
theorem JJ {r:R2} (hr:G8 X r) (ha:PE X a ta) (hb:PE X b tb) (hs:zu b):PE X (.Subscript a b pos) (PZ r ta tb):=by
 intro pins s σ H Q I h
 exact Subscript_ (Mw ha hb I h fun v u s2 x y H2 I2 rx ry q=>hr a b pins s2 σ H2 x y v u Q I2 rx ry q (hs _ _))
def MG (K:PySem.W.Frag):R2:=fun x y H Q=> ∃ p xs i v,x= .ref p∧y= .int i∧iE K H p xs∧rC xs i=some v∧Q v H
def MH (K:PySem.W.Frag):R2:=fun x y H Q=> ∃ p xs i v,x= .ref p∧y= .int i∧rH K H p xs∧rC xs i=some v∧Q v H
theorem Eo:G8 X (MG X.K):=by
 intro value slice pins s σ H x y v u Q I rx ry h hs
 obtain ⟨p,xs,i,z,rfl,rfl,hq,he,q⟩:=h
 cases rx
 obtain ⟨t,rfl⟩:=ry
 obtain ⟨its,r,pl,hz⟩:=I.list hq
 obtain ⟨j,h1,h2,h3,h4,h5⟩:=zq he
 obtain ⟨w,ew,rw'⟩:=r.get h2
 have hl:=r.length
 have hn:=xW
 have fin:EP X pins σ Q w s:=⟨z,H,I,rw',q⟩
 by_cases h0:0≤i
 ·have hj:i.toNat=j:=by
   rw [seqIndex_of h0 h5] at h1
   exact Option.some.inj h1
  exact item_listR pl.isList h0 (by omega) (by rw [hj];simpa using ew) fin hs
 ·have hj:(i+(its.toArray.size:Int)).toNat=j:=by
   rw [seqIndex_neg (by omega) h4] at h1
   rw [Tv,← hl]
   exact Option.some.inj h1
  exact subscriptTail_builtinR (x:=w) pl.isList.typeIs slot_list_getitem.lookup
   (wpAny_getItem_list_neg (Q:=fun r s'=>r=w∧EP X pins σ Q r s') pl.isList (by omega) (by rw [Tv] <;> omega) (by omega) (by rw [hj];simpa using ew) ⟨rfl,fin⟩) hs
theorem G9:G8 X (MH X.K):=by
 intro value slice pins s σ H x y v u Q I rx ry h hs
 obtain ⟨p,xs,i,z,rfl,rfl,hq,he,q⟩:=h
 cases rx
 obtain ⟨t,rfl⟩:=ry
 obtain ⟨its,r,pl,hz⟩:=I.tuple hq
 obtain ⟨j,h1,h2,h3,h4,h5⟩:=zq he
 obtain ⟨w,ew,rw'⟩:=r.get h2
 have hl:=r.length
 have hn:=xW
 have fin:EP X pins σ Q w s:=⟨z,H,I,rw',q⟩
 exact subscriptTail_builtinR (x:=w) pl.typeIs slot_tuple_getitem.lookup
  (getItem_tuple (j:=j) (Q:=fun r s'=>r=w∧EP X pins σ Q r s') pl (by omega) (by omega) (by rw [Tv,← hl];exact h1) (by simpa using ew) ⟨rfl,fin⟩) hs
theorem ur (lo hi:Option Int) (n:Nat):(sliceBounds lo hi none n).1=((HT.n8 n 0 lo:Nat):Int)∧(sliceBounds lo hi none n).2.1=((HT.n8 n n hi:Nat):Int)∧(sliceBounds lo hi none n).2.2=1:=by
 refine ⟨?_,?_,rfl⟩
 ·cases lo with
  | none=>simp [sliceBounds,HT.n8]
  | some i=>
    simp only [sliceBounds,HT.n8,WN,show (1:Int) > 0 by decide,if_true]
    by_cases h:i < 0
    ·simp only [h,if_true] <;> omega
    ·simp only [h,if_false] <;> omega
 ·cases hi with
  | none=>simp [sliceBounds,HT.n8]
  | some i=>
    simp only [sliceBounds,HT.n8,WN,show (1:Int) > 0 by decide,if_true]
    by_cases h:i < 0
    ·simp only [h,if_true] <;> omega
    ·simp only [h,if_false] <;> omega
theorem rL (its:List Value) (lo hi:Option Int):slicePick its.toArray lo hi none=((its.drop (HT.n8 its.length 0 lo)).take (HT.n8 its.length its.length hi - HT.n8 its.length 0 lo)).toArray:=by
 obtain ⟨h1,h2,h3⟩:=ur lo hi its.toArray.size
 unfold slicePick
 rw [h1,h2,h3]
 simp only [sliceRange_one,pick_run,Tv] <;> rfl
def MI (K:PySem.W.Frag):V→Option Int→Option Int→Hp→VK→Prop:=fun x lo hi H Q=> ∃ a xs,x= .ref a∧iE K H a xs∧∀ p,H p=none→Q (.ref p) (upd H p (.lst (El xs lo hi)))
theorem Ep:OL X (MI X.K):=by
 intro pins s σ H x v vl vu lo hi sl Q I rx hs pl pu h
 obtain ⟨a,xs,rfl,hx,q⟩:=h
 cases rx
 obtain ⟨its,r,ht,hz⟩:=I.list hx
 have hlen:=r.length
 refine ⟨"list",_,slot_list_getitem.lookup,ht.isList.typeIs,?_⟩
 refine wpAny_getItem_list_slice ht.isList hs pl pu .none (by simp) ?_ (by rw [Tv] <;> omega)
 rw [rL,← hlen]
 refine ⟨.ref s.heap.objs.size,_,I.laid (t':=s.toks) (o:= .lst (El xs lo hi)) (fun b ob q=>Heap.get?_push_of_some _ q) (Tz _) ?_,rfl,q _ (I.hok.fresh (Tz _))⟩
 exact ⟨UI (v5 xs lo hi) hz,_,0,(r.drop (HT.n8 xs.length 0 lo)).take (HT.n8 xs.length xs.length hi - HT.n8 xs.length 0 lo),Heap.get?_push_size _ rfl⟩
theorem uu:zg X (.builtin "len") (fun xs H Q=> ∃ p ys,xs= [.ref p]∧(iE X.K H p ys∨rH X.K H p ys)∧Q (.int ys.length) H):=by
 intro pins s σ H xs us Q I r h
 obtain ⟨p,ys,rfl,hq,q⟩:=h
 obtain ⟨u,rfl,rx⟩:=vals1 r
 cases rx
 have hn:=xW
 rcases hq with hq | hq
 ·obtain ⟨its,r',pl,hz⟩:=I.list hq
  have hlen:=r'.length
  exact Calls.call_len_list pl.isList (by simp only [Tv] <;> omega) ⟨.int ys.length,H,I.tok _,⟨s.toks+1,by rw [Tv,hlen]⟩,q⟩
 ·obtain ⟨its,r',pl,hz⟩:=I.tuple hq
  have hlen:=r'.length
  exact len_tuple pl (by simp only [Tv] <;> omega) ⟨.int ys.length,H,I.tok _,⟨s.toks+1,by rw [Tv,hlen]⟩,q⟩
theorem uv:zg X (.type "list") (fun xs H Q=> ∃ p ys,xs= [.ref p]∧(iE X.K H p ys∨rH X.K H p ys)∧∀ l,H l=none→Q (.ref l) (upd H l (.lst ys))):=by
 intro pins s σ H xs us Q I r h
 obtain ⟨p,ys,rfl,hq,q⟩:=h
 obtain ⟨u,rfl,rx⟩:=vals1 r
 cases rx
 have fin:∀ (its:List Value),Vals ys its→ys.length≤sizeLine→∀ (h':Heap) (c':Nat),(∀ b o',s.heap.get? b=some o'→h'.get? b=some o')→
  h'.get? s.heap.objs.size=some { cls:= .type "list",dict:=none,data:= .seq its.toArray c',slots:= #[] }→EP X pins σ Q (.ref s.heap.objs.size) { s with heap:=h' }:=fun its r' hz h' c' kp e=>
  ⟨.ref s.heap.objs.size,_,I.laid (t':=s.toks) kp (Tz _) (show cy X.prog X.w _ h' _ (.lst ys) from ⟨hz,its,c',r',e⟩),rfl,q _ (I.hok.fresh (Tz _))⟩
 rcases hq with hq | hq
 ·obtain ⟨its,r',pl,hz⟩:=I.list hq
  have hlen:=r'.length
  obtain ⟨o,ho,hc,n,hd⟩:=pl.isList
  exact call_list_seq p (.inl rfl) ho hc hd (fun h' c' kp e=>fin its r' hz h' c' kp e) (by simp only [Tv] <;> omega)
 ·obtain ⟨its,r',pl,hz⟩:=I.tuple hq
  have hlen:=r'.length
  obtain ⟨o,ho,hc,n,hd⟩:=pl
  exact call_list_seq p (.inr rfl) ho hc hd (fun h' c' kp e=>fin its r' hz h' c' kp e) (by simp only [Tv] <;> omega)
def MJ (K:PySem.W.Frag) (T:String) (x:V) (H:Hp):Prop:=match x with
 | .str _=>T= "str"
 | .int _=>T= "int"
 | .ref p=>(T= "list"∧∃ xs,iE K H p xs)∨(T= "tuple"∧∃ o,K.lookup p=some o∧o.cls= .type "tuple"∧o.dict=none)∨
  (T= "dict"∧((∃ kvs,H p=some (.dK kvs))∨∃ kvs,H p=some (.dT kvs)))∨(T= "set"∧∃ S n,H p=some (.set S n))
 | _=>False
theorem BJ {pins:List (Addr ×Obj)} {σ:St} {H:Hp} {s:Shared} {T:String} {x:V} {v:Value} (I:Inv X pins σ H s) (r:RelV x v) (ty:MJ X.K T x H) :
 s.TypeIs v T∧∀ a,v= .ref a→∃ ob,s.heap.get? a=some ob∧ob.dict=none:=by
 cases x with
 | str z=>
   obtain ⟨t,rfl⟩:=r
   cases (show T= "str" from ty)
   exact ⟨typeIs_str s z t,fun _ e=>nomatch e⟩
 | int i=>
   obtain ⟨t,rfl⟩:=r
   cases (show T= "int" from ty)
   exact ⟨typeIs_int s i t,fun _ e=>nomatch e⟩
 | ref p=>
   cases r
   rcases ty with ⟨rfl,xs,hq⟩ | ⟨rfl,o,hk,hc,hd⟩ | ⟨rfl,hk⟩ | ⟨rfl,S,n,hk⟩
   ·obtain ⟨its,_,pl,_⟩:=I.list hq
    refine ⟨pl.isList.typeIs,fun a e=>?_⟩
    cases e
    obtain ⟨o,n,e,c,hd,_⟩:=pl
    exact ⟨o,e,hd⟩
   ·refine ⟨⟨o,I.vQ p o hk,hc⟩,fun a e=>?_⟩
    cases e
    exact ⟨o,I.vQ _ o hk,hd⟩
   ·have z:∃ o,s.heap.get? p=some o∧o.ExactDict:=by
     rcases hk with ⟨kvs,hk⟩ | ⟨kvs,hk⟩
     ·obtain ⟨_,_,_,_,o,_,_,e,ex,_⟩:=I.hok p _ hk
      exact ⟨o,e,ex⟩
     ·obtain ⟨_,_,_,_,o,_,_,e,ex,_⟩:=I.hok p _ hk
      exact ⟨o,e,ex⟩
    obtain ⟨o,e,ex⟩:=z
    refine ⟨⟨o,e,ex.1⟩,fun a e2=>?_⟩
    cases e2
    exact ⟨o,e,ex.2.1⟩
   ·obtain ⟨o,_,_,_,e,ex,_⟩:=I.hok p _ hk
    refine ⟨⟨o,e,ex.1⟩,fun a e2=>?_⟩
    cases e2
    exact ⟨o,e,ex.2.1⟩
 | _=>exact False.elim ty
def JK (K:PySem.W.Frag) (T:String) (r:V→List V→Hp→VK→Prop) (to:TE):TE:=fun σ H Q=>to σ H fun x H1=>MJ K T x H1∧r x [] H1 Q
def MK (K:PySem.W.Frag) (T:String) (r:V→List V→Hp→VK→Prop) (to:TE) (t:TA):TE:=fun σ H Q=>to σ H fun x H1=>MJ K T x H1∧t σ H1 fun xs H2=>r x xs H2 Q
variable {o e:Expr} {es:List Expr} {to:TE} {t:TA} {name:Str} {apos cpos:Pos} {T id:String} {r:V→List V→Hp→VK→Prop}
theorem Hf (pa:PlainAttrs T) (slot:Slot T name id) (hty:typeOf (.builtin id)=pure (.type "method_descriptor")) (hm:OM X id r) (ho:PE X o to)
 (hbase:attributeBase o name X.env (eval o X.env)=eval o X.env:=by rfl) (hline:(apos.endLine == cpos.line)=true:=by rfl):PE X (.Call (.Attribute o name apos) [] [] cpos) (JK X.K T r to):=by
 intro pins s σ H Q I h
 refine wpAny_Call_method0_late hbase hline (cF (ho pins s σ H _ I h) fun v s1 ⟨x,H1,I1,r1,ty,q1⟩=>?_)
 obtain ⟨h1,h2⟩:=BJ I1 r1 ty
 exact ⟨T,id,pa,slot,hty,h1,h2,Calls.callWith_builtin rfl (PySem.evalArgs_none (hm pins s1 σ H1 x [] v [] Q I1 r1 .nil q1))⟩
theorem BK (pa:PlainAttrs T) (slot:Slot T name id) (hty:typeOf (.builtin id)=pure (.type "method_descriptor")) (hm:OM X id r) (ho:PE X o to) (ha:PA X (e :: es) t)
 (hbase:attributeBase o name X.env (eval o X.env)=eval o X.env:=by rfl)
 (hfew:((backTo cpos (starEach (e :: es) X.env)).all (fun x=>!x.1) && (backToKw cpos (keywordEach [] X.env)).all (fun x=>x.1.isSome)
  && decide ((e :: es).length+([]:List Keyword).length+(if ([]:List Keyword).isEmpty then 0 else 1) < 30))=true:=by rfl)
 (hline:(apos.endLine == cpos.line)=true:=by rfl) (hs:starEach (e :: es) X.env=(false,eval e X.env) :: starEach es X.env:=by rfl) (hplain:(backTo cpos (starEach es X.env)).any (·.1)=false:=by rfl) :
 PE X (.Call (.Attribute o name apos) (e :: es) [] cpos) (MK X.K T r to t):=by
 intro pins s σ H Q I h
 refine wpAny_Call_method_late hbase hfew hline rfl (cF (ho pins s σ H _ I h) fun v s1 ⟨x,H1,I1,r1,ty,q1⟩=>?_)
 obtain ⟨h1,h2⟩:=BJ I1 r1 ty
 refine ⟨T,id,pa,slot,hty,h1,h2,?_⟩
 have hA:=ha cpos pins s1 σ H1 _ I1 q1
 rw [hs] at hA ⊢
 refine Calls.callWith_builtin (by show (false || (backTo cpos (starEach es X.env)).any (·.1))=false;rw [hplain] <;> rfl) (Calls.evalArgs_plain ?_)
 exact cF hA fun us s2 ⟨vs,H2,I2,r2,q2⟩=>hm pins s2 σ H2 x vs v us Q I2 r1 r2 q2
end
end L2
namespace L2
open PySem PySem.Spec PyProof.Rows
def ML (X:Cx) (id:String) (r:V→List V→Hp→VK→Prop):Prop:=
 ∀ (pins:List (Addr ×Obj)) (s:Shared) (σ:St) (H:Hp) (x:V) (xs:List V) (v:Value) (us:List Value) (Q:VK),Inv X pins σ H s→RelV x v→Vals xs us→r x xs H Q→
   wpAny (model X.prog X.w) X.A (call (.builtin id) (v :: us)) (EP X pins σ Q) X.xe s
theorem Vals.one:∀ {x:V} {us:List Value},Vals [x] us→∃ u,us= [u]∧RelV x u
 | _,_,.cons r .nil=>⟨_,rfl,r⟩
theorem Vals.zero:∀ {us:List Value},Vals [] us→us= []
 | _,.nil=>rfl
theorem Vals.dropLast {xs:List V} {us:List Value} (h:Vals xs us):Vals xs.dropLast us.dropLast:=by
 induction h with
 | nil=>exact .nil
 | cons r t ih=>
   cases t with
   | nil=>exact .nil
   | cons q t'=>exact .cons r ih
theorem xY {α:Type} (l:List α):l.eraseIdx (l.length - 1)=l.dropLast:=by
 induction l with
 | nil=>rfl
 | cons a r ih=>
   cases r with
   | nil=>rfl
   | cons b r=>
     have e:(a :: b :: r).length - 1=((b :: r).length - 1)+1:=by
      have h1:(a :: b :: r).length=r.length+2:=rfl
      have h2:(b :: r).length=r.length+1:=rfl
      omega
     rw [e,List.eraseIdx_cons_succ,ih]
     all_goals rfl
section
variable {X:Cx} {pins:List (Addr ×Obj)} {σ:St} {H:Hp} {s:Shared} {l b:Addr} {xs ys zs:List V}
theorem Inv.Hg {its its':List Value} {n:Nat} {f:Array Value→Array Value} {t':Nat} (I:Inv X pins σ H s) (hH:H l=some (.lst xs))
 (e:s.heap.get? l=some { cls:= .type "list",data:= .seq its.toArray n }) (hf:f its.toArray=its'.toArray) (hv:Vals ys its') (hz:ys.length≤sizeLine) :
 Inv X pins σ (upd H l (.lst ys)) { s with heap:=s.heap.update l (Obj.mapSeq f),toks:=t' }:=by
 have q:=PySem.IsL.update e f
 rw [hf] at q
 refine I.write (x:=l) (e:=l) (by rw [hH];exact trivial) (.inl rfl) (fun b' u hb hu=>(Heap.get?_update_other s.heap (Obj.mapSeq f) (Ne.symm hb)).trans hu) ⟨_,q⟩ ?_
 exact ⟨hz,its',_,hv,q⟩
theorem Inv.MM {its:List Value} {t':Nat} (I:Inv X pins σ H s) (hv:Vals ys its) (hz:ys.length≤sizeLine) :
 Inv X pins σ (upd H s.heap.objs.size (.lst ys)) { s with heap:=s.heap.push { cls:= .type "list",data:= .seq its.toArray },toks:=t' }:=
 I.laid (fun _ _ q=>Heap.get?_push_of_some _ q) (Tz _) ⟨hz,its,0,hv,Heap.get?_push_size _ rfl⟩
theorem Inv.fresh (I:Inv X pins σ H s):H s.heap.objs.size=none:=I.hok.fresh (Tz _)
theorem Inv.AD (I:Inv X pins σ H s) (hH:H l=some (.lst xs)):xs.length≤sizeLine∧∃ (its:List Value) (n:Nat),Vals xs its∧xs.length=its.length∧s.heap.get? l=some { cls:= .type "list",data:= .seq its.toArray n }:=by
 obtain ⟨z,its,n,r,e⟩:=I.hok l _ hH
 exact ⟨z,its,n,r,r.length,e⟩
theorem BL {n:Nat} (h:n≤sizeLine):Builtin.List.listTooLong n=false:=by
 unfold Builtin.List.listTooLong
 exact decide_eq_false (by omega)
end
section
variable {X:Cx}
def zx:V→List V→Hp→VK→Prop:=fun x vs H Q=> ∃ l xs y,x= .ref l∧vs= [y]∧H l=some (.lst xs)∧xs.length < sizeLine∧Q .bz (upd H l (.lst (xs ++ [y])))
theorem mW:ML X "list.append" zx:=by
 intro pins s σ H x vs v us Q I rx rv h
 obtain ⟨l,xs,y,rfl,rfl,hH,hz,q⟩:=h
 cases rx
 obtain ⟨u,rfl,ru⟩:=rv.one
 obtain ⟨z,its,n,r,hl,e⟩:=I.AD hH
 refine call_meets F.slot_list_append ⟨_,e,rfl⟩ F.entry_list_append (F.args_list_append_2 _ _) (PySem.list_append l its.toArray n u (by rw [Tv];omega)) ⟨e,?_⟩
 refine ⟨.bz,_,I.Hg (its':=its ++ [u]) hH e (by simp) (r.append (.cons ru .nil)) ?_,rfl,q⟩
 rw [TL,Ws]
 omega
def zy:V→List V→Hp→VK→Prop:=fun x vs H Q=> ∃ l b xs zs,x= .ref l∧vs= [.ref b]∧H l=some (.lst xs)∧H b=some (.lst zs)∧xs.length+zs.length≤sizeLine∧Q .bz (upd H l (.lst (xs ++ zs)))
theorem AE:ML X "list.extend" zy:=by
 intro pins s σ H x vs v us Q I rx rv h
 obtain ⟨l,b,xs,zs,rfl,rfl,hH,hB,hz,q⟩:=h
 cases rx
 obtain ⟨u,rfl,ru⟩:=rv.one
 cases ru
 obtain ⟨z,its,n,r,hl,e⟩:=I.AD hH
 obtain ⟨z2,its2,n2,r2,hl2,e2⟩:=I.AD hB
 have hsz:its.toArray.size+its2.toArray.size≤sizeLine:=by rw [Tv,Tv];omega
 have JL:¬ (!its.toArray.isEmpty && Builtin.List.listTooLong (its.toArray.size+its2.toArray.size))=true:=by
  rw [BL hsz,WV]
  exact TJ
 refine call_meets F.slot_list_extend ⟨_,e,rfl⟩ F.entry_list_extend (F.args_list_extend_2 _ _)
  (AutoSeq1.list_extend_list_list_0 l its.toArray n b its2.toArray n2 JL (by rw [Tv];omega) (by omega)) ⟨e,e2,?_⟩
 refine ⟨.bz,_,I.Hg (its':=its ++ its2) hH e (by simp) (r.append r2) ?_,rfl,q⟩
 rw [TL]
 omega
def JM:V→List V→Hp→VK→Prop:=fun x vs H Q=> ∃ l xs y,x= .ref l∧vs= []∧H l=some (.lst xs)∧xs[xs.length - 1]?=some y∧Q y (upd H l (.lst xs.dropLast))
theorem Hh:ML X "list.pop" JM:=by
 intro pins s σ H x vs v us Q I rx rv h
 obtain ⟨l,xs,y,rfl,rfl,hH,hy,q⟩:=h
 cases rx
 have Qa:=rv.zero
 subst Qa
 obtain ⟨z,its,n,r,hl,e⟩:=I.AD hH
 obtain ⟨u,hu,ru⟩:=r.get hy
 have hy':its.toArray[its.toArray.size - 1]?=some u:=by
  show its.toArray[its.length - 1]?=some u
  rw [← Array.getElem?_toList,← hl]
  exact hu
 refine call_meets F.slot_list_pop ⟨_,e,rfl⟩ F.entry_list_pop (F.args_list_pop_1 _) (MeetsSeq.list_pop_last l its.toArray n u hy' (by rw [Tv];omega)) ⟨e,?_⟩
 refine ⟨y,_,I.Hg (its':=its.dropLast) hH e ?_ r.dropLast ?_,ru,q⟩
 ·show its.toArray.eraseIdxIfInBounds (its.toArray.size - 1)=its.dropLast.toArray
  rw [Tv,List.eraseIdxIfInBounds_toArray,xY]
 ·rw [UB]
  omega
def MN:R2:=fun x y H Q=> ∃ l b xs zs,x= .ref l∧y= .ref b∧H l=some (.lst xs)∧H b=some (.lst zs)∧xs.length+zs.length≤sizeLine∧∀ p,H p=none→Q (.ref p) (upd H p (.lst (xs ++ zs)))
theorem Hi:xF X (binaryOp .Add) MN:=by
 intro pins s σ H x y v u Q I rx ry h
 obtain ⟨l,b,xs,zs,rfl,rfl,hH,hB,hz,q⟩:=h
 cases rx
 cases ry
 obtain ⟨z,its,n,r,hl,e⟩:=I.AD hH
 obtain ⟨z2,its2,n2,r2,hl2,e2⟩:=I.AD hB
 refine PySem.P.add_list e e2 ?_ (by rw [Tv,Tv];omega)
 have ea:its.toArray ++ its2.toArray=(its ++ its2).toArray:=by simp
 rw [ea]
 exact ⟨.ref _,_,I.MM (t':=s.toks) (r.append r2) (by rw [TL];omega),rfl,q _ I.fresh⟩
end
section
variable {prog:Program} {w:World} {A:Around} {E:Value→Shared→Prop} {s:Shared}
end
section
variable {X:Cx}
end
end L2
namespace Att
open PySem PySem.W PySem.Calls PyProof.Rows
theorem oQ {P:Params} {h:Heap}:∀ (ns:List Int) (vs:List Value),WellAll P h vs (ns.map WData.int)→IntsAre vs ns:=by
 intro ns
 induction ns with
 | nil=>
   intro vs w
   rw [List.map_nil] at w
   cases w
   exact .nil
 | cons n ns ih=>
   intro vs w
   rw [Ud] at w
   cases w with
   | cons a b=>
     cases a
     exact .cons _ _ (ih _ b)
theorem AF {l:OpenLaw} {n:Nat} (hn:l.most=some n) {P:Params} {h:Heap} {args:List WData} {vals:List Value}
 (hpre:l.row.toRowW.claim.pre args=true) (hwl:WellAll P h vals args) :
 ∃ a vs ns,vals= [Value.ref a]∧args= [WData.list (ns.map WData.int)]∧h.get? a=some { cls:= .type "list",data:= .seq vs.toArray }∧IntsAre vs ns∧ns.length≤n:=by
 have hsh:WShape.hasAll [] args [.list .int]=true:=(pre_splitW hpre).1
 have hc:l.pre.holds [] { args:=args }=true:=(pre_splitW hpre).2
 obtain ⟨d,r,rfl,h1,h2⟩:=hasAllW_cons hsh
 obtain rfl:=hasAllW_nil h2
 obtain ⟨xs,rfl,h3⟩:=hasW_list h1
 obtain ⟨ns,rfl⟩:=items_int h3
 have hlen:ns.length≤n:=by
  unfold OpenLaw.pre at hc
  have h4:(WTm.not (.lt (.lit (.int (n:Int))) (.len (.arg 0)))).holds [] { args:=[.list (ns.map .int)] }=true:=by
   have h4:=(holds_andW hc).1
   rw [hn] at h4
   exact h4
  have h5:=condW_of h4 (w_not (w_lt w_lit (w_len_list (w_arg rfl))))
  rw [To] at h5
  refine Nat.le_of_not_lt fun q=>?_
  have q':(n:Int) < ((ns.length:Nat):Int):=by omega
  first
   | (rw [decide_eq_true q'] at h5;exact absurd h5 (by decide))
   | (simp at h5;omega)
 cases hwl with
 | cons w1 w2=>
   cases w2
   cases w1 with
   | list ho hall=>exact ⟨_,_,ns,rfl,rfl,ho,oQ ns _ hall,hlen⟩
theorem AG (l:OpenLaw) (args:List WData):l.row.toRowW.claim.post args (.bool true) args=true:=
 postW_of (r:=l.row.toRowW) (X:=(true == true))
  (show WShape.has [] (.bool true) .bool=true by first | rfl | decide | simp [WShape.has,WShape.arms,WShape.armsAll])
  (show (WTm.eq .res (.lit (.bool true))).value [] { args:=args,res:=some (.bool true),after:=args }=some (.bool (true == true)) from w_eq_bool (w_res rfl) w_lit) rfl
section
variable {prog:Program} {w:World} {A:Around} {E:Value→Shared→Prop} {s:Shared} {K:Frag}
end
end Att
namespace L2
open PySem PySem.Spec PyProof.Rows
theorem sO:∀ {vs:List Value} {ns:List Int},IntsAre vs ns→Vals (ns.map V.int) vs
 | _,_,.nil=> .nil
 | _,_,.cons n t h=> .cons ⟨t,rfl⟩ (sO h)
def Er (H:Hp):Prop:= ∀ b,H b=none∨∃ o xs,H b=some (.kW o (.lst xs))
theorem BN {P:Program} {w:World} {K:PySem.W.Frag} {mg mb:Str→Option Value} {CX:BF} {k:Nat} {fa a:Addr} {fd:FuncData} {x:Str} {sp:Sp} {s₁:Shared} {vs:List Value} {ns:List Int}
 (KX:K.In s₁.heap) (hns:s₁.heap.Ns mainGlobals mg) (hb:s₁.heap.Ns builtinsNs mb) (Qc:∀ x:Str,x≠"__name__"→mb x=bootBuiltins x) (hlim:s₁.heap.NoLimit) (hg:s₁.gens= #[])
 (ha:s₁.heap.get? a=some { cls:= .type "list",data:= .seq vs.toArray }) (hi:IntsAre vs ns) (hl:ns.length≤sizeLine) (hr:gR k callerA)
 (F:∀ base:Heap,K.In base→base.Ns mainGlobals mg→cE P w K mg base CX k fa fd [x] sp) (hbind:∀ (s:Shared) (u:Value),BindsTo s fd ⟨[u],[]⟩ [(x,u)])
 (FU:∀ H:Hp,Er H→iE K H a (ns.map V.int)→sp [.ref a] H (fun v _=>v= .bl true) fun _ _ _=>False)
 (MP:∀ H e s',CX [] H s₁ (fun _ _ _=>False) e s'→False) :
 codeAny (model P w) callerA (.call (.ref fa) ⟨[.ref a],[]⟩) (fun r s'=>r= .ok (.ret (.bool true))∧OldK s₁.heap s'.heap∧s'.os=s₁.os∧AllBare s'.gens) s₁:=by
 have rv:=sO hi
 have MQ:=hi.length
 have core:∀ H:Hp,Er H→iE K H a (ns.map V.int)→iX P w H s₁.heap→(∀ b,H b≠none→b=a)→(H a≠none→K.lookup a=none)→
  codeAny (model P w) callerA (.call (.ref fa) ⟨[.ref a],[]⟩) (fun r s'=>r= .ok (.ret (.bool true))∧OldK s₁.heap s'.heap∧s'.os=s₁.os∧AllBare s'.gens) s₁:=by
  intro H hO hS hok hA hK
  have zz:∀ {b:Addr} {o:Obj},s₁.heap.get? b=some o→H b=none→(uo s₁.heap H).get? b=some o:=fun e n=>Bw e n
  have JG:∀ {b:Addr} {o:Obj} {es:Array DictEntry} {ep:Nat},s₁.heap.get? b=some o→o.data= .dict es ep→H b=none:=fun {b o es ep} e d=>by
   cases q:H b with
   | none=>rfl
   | some u=>
     have e':b=a:=hA b (by rw [q];simp)
     subst e'
     rw [ha] at e;cases e
     have d':Data.seq vs.toArray _=Data.dict es ep:=d
     cases d'
  have LD:∀ {b:Addr} {m:Str→Option Value},s₁.heap.Ns b m→(uo s₁.heap H).Ns b m:=fun {b m} ⟨o,es,ep,e,d,r⟩=>⟨o,es,ep,zz e (JG e d),d,r⟩
  have ON:K.In (uo s₁.heap H):=fun b o e=>zz (KX b o e) (by
   cases q:H b with
   | none=>rfl
   | some u=>
     have e':b=a:=hA b (by rw [q];simp)
     subst e'
     rw [hK (by rw [q];simp)] at e;cases e)
  have hM:Mod K mg (uo s₁.heap H):=⟨ON,LD hns,⟨mb,LD hb,Qc⟩,let ⟨mc,h1,h2⟩:=hlim;⟨mc,LD h1,h2⟩⟩
  have e0:Ei P w K mg (uo s₁.heap H) callerA [] s₁ H:=⟨rfl,hM,fun b o e=>D4 e,WI (Ao _ _),trivial,fun b hb=>absurd (show b∈([]:List Addr) from hb) (by simp),hok,.of_eq hg⟩
  refine codeAny_mono ((F _ ON (LD hns)).run callerA [] s₁ H ⟨[.ref a],[]⟩ [.ref a] [.ref a] _ _ hr e0 (hbind s₁ (.ref a)) (.cons rfl .nil) (FU H hO hS)) fun r s' h=>?_
  cases r with
  | error e=>exact (MP H e s' h).elim
  | ok fl=>
    cases fl with
    | next=>exact False.elim h
    | brk=>exact False.elim h
    | cont=>exact False.elim h
    | ret u=>
      obtain ⟨v,H',os,bare,un,MR,r',q⟩:=h
      have q':v= .bl true:=q
      subst q'
      obtain rfl:u=Value.bool true:=r'
      refine ⟨rfl,OldK.of_keep fun b o e=>?_,os,bare⟩
      cases q:H b with
      | none=>exact un.keep b o e q (by intro z;exact absurd (show b∈([]:List Addr) from z) (by simp)) (by simp)
      | some u=>
        rcases hO b with z | ⟨ob,xs,z⟩
        ·rw [q] at z;cases z
        ·have z2:=un.um b ob _ z
         obtain ⟨e1,_⟩:=hok b _ z
         obtain ⟨e2,_⟩:=MR b _ z2
         rw [e] at e1;cases e1
         exact e2
 cases hk:K.lookup a with
 | some o=>
   have e:=KX a o hk
   rw [ha] at e
   cases e
   refine core (fun _=>none) (fun _=> .inl rfl) (.inr ⟨_,vs.toArray,_,hk,rfl,rfl,rfl,by rw [Tv,MQ];exact hl,by simpa using rv⟩) (fun b u z=>by have z':(none:Option HO)=some u:=z;cases z') (fun b z=>absurd rfl z) fun z=>absurd rfl z
 | none=>
   refine core (fun b=>if b=a then some (.kW { cls:= .type "list",data:= .seq vs.toArray } (.lst (ns.map V.int))) else none) (fun b=>?_) (.inl (.inr ⟨{ cls:= .type "list",data:= .seq vs.toArray },if_pos rfl⟩)) (fun b u z=>?_) (fun b z=>?_) fun _=>hk
   ·by_cases hb:b=a
    ·exact .inr ⟨_,_,if_pos hb⟩
    ·exact .inl (if_neg hb)
   ·by_cases hb:b=a
    ·have z':=(if_pos hb).symm.trans z
     cases z'
     subst hb
     exact ⟨ha,by rw [To];exact hl,vs,_,rv,ha⟩
    ·have z':=(if_neg hb).symm.trans z
     cases z'
   ·by_cases hb:b=a
    ·exact hb
    ·exact absurd (if_neg hb) z
end L2
namespace L2
open PySem PySem.Spec PyProof.Rows
end L2
namespace L2
open PySem PySem.Spec PyProof.Rows
def j7 (s:Stmt):Arguments:=match s with
 | .FunctionDef _ a _ _ _ _ _ _ _ _=>a
 | _=>{ posonlyargs:=[],args:=[],vararg:=none,kwonlyargs:=[],kw_defaults:=[],kwarg:=none,defaults:=[] }
def fK (s:Stmt):List Stmt:=match s with
 | .FunctionDef _ _ b _ _ _ _ _ _ _=>b
 | _=>[]
def aq (s:Stmt):Scope:=match s with
 | .FunctionDef _ _ _ _ _ _ sc _ _ _=>sc
 | _=>{ kind:= .function,names:=[],isGenerator:=false,isCoroutine:=false }
abbrev iF:BF:=fun _ _ _ _ _ _=>False
abbrev E0:XK:=fun _ _ _=>False
theorem FY {X:Cx}:Passes iF X E0:=fun _ _ _ _ _ _ _ h=>h.elim
structure kE (K:PySem.W.Frag) (x qual:Str) (st:Stmt) (f:Addr) (fd:FuncData):Prop where
 ex:∃ (oc:Value) (od:Option Addr) (kV doc pm:Value) (an:Option Addr) (cdv ct:Value) (osl:Array (Option Value)),
  fd=PySem.W.fnOf x qual (j7 st) (fK st) (aq st) .none kV doc pm an cdv ct∧K.lookup f=some ⟨oc,od,.func fd,osl⟩∧PySem.W.codeIn K cdv qual=true
 kp:PySem.W.keepIn K (.ref f)=true
section
variable {P:Program} {w:World} {K:PySem.W.Frag} {mg:Str→Option Value} {base:Heap}
theorem kE.ok {x qual:Str} {st:Stmt} {f:Addr} {fd:FuncData} {N ps:List Str} {k:Nat} {sp:Sp} (F:kE K x qual st f fd) (S:aO N ps (aq st)) (len:∀ vs H Q E,sp vs H Q E→vs.length=ps.length)
 (hbody:∀ (cdv:Value) (A:Around) (outer:List Env) (s:Shared) (H:Hp) (vs:List V) (Q:VK) (E:XK),gR k (A.deeper (envOfC qual (aq st) s.heap.objs.size f cdv))→sp vs H Q E→
  ∃ t,xT (oO iF P w K mg base N qual (aq st) f cdv A outer s H E).DS (fK st) t∧t { nx:=fun _ H'=>Q .bz H',rt:=Q } (start N vs) H):cE P w K mg base iF (k+1) f fd ps sp:=by
 obtain ⟨oc,od,kV,doc,pm,an,cdv,ct,osl,rfl,lk,hcd⟩:=F.ex
 refine JH lk hcd S len fun A outer s H vs Q E hr FU=>?_
 obtain ⟨t,h,q⟩:=hbody cdv A outer s H vs Q E hr FU
 exact ⟨t,h.DS,q⟩
theorem kE.binds {x qual:Str} {st:Stmt} {f:Addr} {fd:FuncData} {ps:List Str} (F:kE K x qual st f fd)
 (h:∀ (kV doc pm:Value) (an:Option Addr) (cdv ct:Value) (us:List Value),us.length=ps.length→bindArgs (PySem.W.fnOf x qual (j7 st) (fK st) (aq st) .none kV doc pm an cdv ct) ⟨us,[]⟩=pure (ps.zip us)):Binds K fd ps []:=by
 obtain ⟨oc,od,kV,doc,pm,an,cdv,ct,osl,rfl,lk,hcd⟩:=F.ex
 exact .all (h kV doc pm an cdv ct)
end
section
variable {X:Cx}
end
theorem BO {A B:Prop} (h:B):if false=true then A else B:=by
 rw [if_neg TJ]
 exact h
theorem MS {A B:Prop} (h:A):if true=true then A else B:=by
 rw [if_pos rfl]
 exact h
theorem fL {c A B:Prop} [Decidable c] (h1:c→A) (h2:¬ c→B):if c then A else B:=by
 by_cases h:c
 ·rw [if_pos h]
  exact h1 h
 ·rw [if_neg h]
  exact h2 h
end L2
set_option maxHeartbeats 4000000
namespace L3
open PySem PySem.Spec PyProof.Rows L2
abbrev St:=L2.St
inductive D where
 | bz | bl (b:Bool) | int (i:Int) | str (x:Str) | ty (n:String) | ref (a:Addr) | tup (xs:List D) | zA (xs:List D) | Hj (n:String) | exc (C:Addr) (nm:Str) (xs:List D)
def Kl (K:PySem.W.Frag) (a:Addr) (xs:List V):Prop:=
 ∃ (o:Obj) (its:Array Value) (n:Nat),K.lookup a=some o∧o.cls= .type "list"∧o.dict=none∧o.data= .seq its n∧its.size≤sizeLine∧Vals xs its.toList
def Fz (K:PySem.W.Frag) (H:Hp) (a:Addr) (xs:List V):Prop:=(∃ o,H a=some (.kW o (.lst xs)))∨Kl K a xs
theorem Fz.sq {K:PySem.W.Frag} {H:Hp} {a:Addr} {xs:List V} (h:Fz K H a xs):iE K H a xs:=by
 rcases h with ⟨o,h⟩ | h
 ·exact .inl (.inr ⟨o,h⟩)
 ·exact .inr h
abbrev xO (C t:Addr):Obj:={ cls:= .ref C,data:= .fields #[.ref t,.none,.none,.none,.bool false,.none] }
abbrev yO (C t d:Addr):Obj:={ cls:= .ref C,dict:=some d,data:= .fields #[.ref t,.none,.none,.none,.bool false,.none] }
def Xo (H:Hp) (C:Addr) (nm:Str) (o:Obj) (xs:List V):Prop:=(xs= []∧∃ t,o=xO C t)∨∃ t dx od vx,xs= [vx]∧o=yO C t dx∧H dx=some (.kW od (.xd [(nm,vx)]))
mutual
def Dat (K:PySem.W.Frag) (H:Hp):D→V→Prop
 | .bz,v=>v= .bz
 | .bl b,v=>v= .bl b
 | .int i,v=>v= .int i
 | .str x,v=>v= .str x
 | .ty n,v=>v= .ty n
 | .ref a,v=>v= .ref a
 | .tup ds,v=> ∃ a xs,v= .ref a∧H a=some (.tup xs)∧aB K H ds xs
 | .zA ds,v=> ∃ a xs,v= .ref a∧Fz K H a xs∧aB K H ds xs
 | .Hj n,v=> ∃ a o u,v= .ref a∧H a=some (.kW o u)∧o.cls= .type n
 | .exc C nm ds,v=> ∃ a o u xs,v= .ref a∧H a=some (.kW o u)∧Xo H C nm o xs∧aB K H ds xs
def aB (K:PySem.W.Frag) (H:Hp):List D→List V→Prop
 | [],xs=>xs= []
 | d :: ds,xs=> ∃ v vs,xs=v :: vs∧Dat K H d v∧aB K H ds vs
end
structure Ext (H H':Hp):Prop where
 tup:∀ b xs,H b=some (.tup xs)→H' b=some (.tup xs)
 kW:∀ b o u,H b=some (.kW o u)→H' b=some (.kW o u)
theorem Ext.trans {H H1 H2:Hp} (a:Ext H H1) (b:Ext H1 H2):Ext H H2:=⟨fun c xs h=>b.tup c xs (a.tup c xs h),fun c o u h=>b.kW c o u (a.kW c o u h)⟩
theorem Fz.mono {K:PySem.W.Frag} {H H':Hp} {a:Addr} {xs:List V} (e:Ext H H') (h:Fz K H a xs):Fz K H' a xs:=by
 rcases h with ⟨o,h⟩ | h
 ·exact .inl ⟨o,e.kW _ _ _ h⟩
 ·exact .inr h
theorem Xo.mono {H H':Hp} {C:Addr} {nm:Str} {o:Obj} {xs:List V} (e:Ext H H') (h:Xo H C nm o xs):Xo H' C nm o xs:=by
 rcases h with h | ⟨t,dx,od,vx,e1,e2,e3⟩
 ·exact .inl h
 ·exact .inr ⟨t,dx,od,vx,e1,e2,e.kW _ _ _ e3⟩
mutual
theorem Dat.mono {K:PySem.W.Frag} {H H':Hp} (e:Ext H H'):∀ (d:D) (v:V),Dat K H d v→Dat K H' d v
 | .bz,v,h=>by simpa [Dat] using h
 | .bl b,v,h=>by simpa [Dat] using h
 | .int i,v,h=>by simpa [Dat] using h
 | .str x,v,h=>by simpa [Dat] using h
 | .ty n,v,h=>by simpa [Dat] using h
 | .ref a,v,h=>by simpa [Dat] using h
 | .tup ds,v,h=>by
   obtain ⟨a,xs,e1,e2,e3⟩:=(show ∃ a xs,v= .ref a∧H a=some (.tup xs)∧aB K H ds xs from by simpa only [Dat] using h)
   have:=aB.mono e ds xs e3
   simp only [Dat]
   exact ⟨a,xs,e1,e.tup _ _ e2,this⟩
 | .zA ds,v,h=>by
   obtain ⟨a,xs,e1,e2,e3⟩:=(show ∃ a xs,v= .ref a∧Fz K H a xs∧aB K H ds xs from by simpa only [Dat] using h)
   have:=aB.mono e ds xs e3
   simp only [Dat]
   exact ⟨a,xs,e1,e2.mono e,this⟩
 | .Hj n,v,h=>by
   obtain ⟨a,o,u,e1,e2,e3⟩:=(show ∃ a o u,v= .ref a∧H a=some (.kW o u)∧o.cls= .type n from by simpa only [Dat] using h)
   simp only [Dat]
   exact ⟨a,o,u,e1,e.kW _ _ _ e2,e3⟩
 | .exc C nm ds,v,h=>by
   obtain ⟨a,o,u,xs,e1,e2,e3,e4⟩:=(show ∃ a o u xs,v= .ref a∧H a=some (.kW o u)∧Xo H C nm o xs∧aB K H ds xs from by simpa only [Dat] using h)
   have:=aB.mono e ds xs e4
   simp only [Dat]
   exact ⟨a,o,u,xs,e1,e.kW _ _ _ e2,e3.mono e,this⟩
theorem aB.mono {K:PySem.W.Frag} {H H':Hp} (e:Ext H H'):∀ (ds:List D) (xs:List V),aB K H ds xs→aB K H' ds xs
 | [],xs,h=>by simpa [aB] using h
 | d :: ds,xs,h=>by
   obtain ⟨v,vs,e1,e2,e3⟩:=(show ∃ v vs,xs=v :: vs∧Dat K H d v∧aB K H ds vs from by simpa only [aB] using h)
   have h1:=Dat.mono e d v e2
   have h2:=aB.mono e ds vs e3
   simp only [aB]
   exact ⟨v,vs,e1,h1,h2⟩
end
section
variable {K:PySem.W.Frag} {H:Hp}
theorem c8 {v:V}:Dat K H .bz v↔v= .bz:=by simp only [Dat]
theorem aY {b:Bool} {v:V}:Dat K H (.bl b) v↔v= .bl b:=by simp only [Dat]
theorem aJ {i:Int} {v:V}:Dat K H (.int i) v↔v= .int i:=by simp only [Dat]
theorem gH {x:Str} {v:V}:Dat K H (.str x) v↔v= .str x:=by simp only [Dat]
theorem BP {n:String} {v:V}:Dat K H (.ty n) v↔v= .ty n:=by simp only [Dat]
theorem aH {a:Addr} {v:V}:Dat K H (.ref a) v↔v= .ref a:=by simp only [Dat]
theorem aU {ds:List D} {v:V}:Dat K H (.tup ds) v↔∃ a xs,v= .ref a∧H a=some (.tup xs)∧aB K H ds xs:=by simp only [Dat]
theorem o6 {ds:List D} {v:V}:Dat K H (.zA ds) v↔∃ a xs,v= .ref a∧Fz K H a xs∧aB K H ds xs:=by simp only [Dat]
theorem Es {n:String} {v:V}:Dat K H (.Hj n) v↔∃ a o u,v= .ref a∧H a=some (.kW o u)∧o.cls= .type n:=by simp only [Dat]
theorem aE {xs:List V}:aB K H [] xs↔xs= []:=by simp only [aB]
theorem aA {d:D} {ds:List D} {xs:List V}:aB K H (d :: ds) xs↔∃ v vs,xs=v :: vs∧Dat K H d v∧aB K H ds vs:=by simp only [aB]
theorem aB.length:∀ {ds:List D} {xs:List V},aB K H ds xs→ds.length=xs.length
 | [],xs,h=>by rw [aE.mp h];rfl
 | d :: ds,xs,h=>by
   obtain ⟨v,vs,rfl,_,h⟩:=aA.mp h
   simp [aB.length h]
theorem aB.get:∀ {ds:List D} {xs:List V} {i:Nat} {d:D},aB K H ds xs→ds[i]?=some d→∃ v,xs[i]?=some v∧Dat K H d v
 | [],xs,_,_,_,e=>by simp at e
 | d :: ds,xs,i,d',h,e=>by
   obtain ⟨v,vs,rfl,h1,h2⟩:=aA.mp h
   cases i with
   | zero=>simp at e;subst e;exact ⟨v,rfl,h1⟩
   | succ i=>exact aB.get (i:=i) h2 (by simpa using e)
theorem aB.back:∀ {ds:List D} {xs:List V} {i:Nat} {v:V},aB K H ds xs→xs[i]?=some v→∃ d,ds[i]?=some d∧Dat K H d v
 | [],xs,i,v,h,e=>by rw [aE.mp h] at e;simp at e
 | d :: ds,xs,i,v',h,e=>by
   obtain ⟨v,vs,rfl,h1,h2⟩:=aA.mp h
   cases i with
   | zero=>simp at e;subst e;exact ⟨d,rfl,h1⟩
   | succ i=>exact aB.back (i:=i) h2 (by simpa using e)
theorem aB.append:∀ {ds es:List D} {xs ys:List V},aB K H ds xs→aB K H es ys→aB K H (ds ++ es) (xs ++ ys)
 | [],es,xs,ys,h,h'=>by rw [aE.mp h];exact h'
 | d :: ds,es,xs,ys,h,h'=>by
   obtain ⟨v,vs,rfl,h1,h2⟩:=aA.mp h
   exact aA.mpr ⟨v,vs ++ ys,rfl,h1,h2.append h'⟩
theorem aB.one {d:D} {v:V} (h:Dat K H d v):aB K H [d] [v]:=aA.mpr ⟨v,[],rfl,h,aE.mpr rfl⟩
end
inductive MO where
 | lst (ds:List D)
 | kJ (kvs:List (List (List Int) ×D))
abbrev Mp:=Addr→Option MO
def av (M:Mp) (a:Addr) (o:MO):Mp:=fun b=>if b=a then some o else M b
def JN:Mp:=fun _=>none
theorem ah {M:Mp} {a:Addr} {o:MO}:av M a o a=some o:=by unfold av;rw [if_pos rfl]
theorem aZ {M:Mp} {a b:Addr} {o:MO} (h:b≠a):av M a o b=M b:=by unfold av;rw [if_neg h]
theorem lH {M:Mp} {a:Addr} {o u:MO}:av (av M a o) a u=av M a u:=by
 funext b;unfold av;split <;> rfl
theorem aj {M:Mp} {a b:Addr} {o u:MO} (h:M b=some o) (n:M a=none):av M a u b=some o:=by
 rw [aZ (fun e=>by subst e;rw [h] at n;cases n)];exact h
def Le (M M':Mp):Prop:= ∀ a o,M a=some o→M' a=some o
theorem Le.refl (M:Mp):Le M M:=fun _ _ h=>h
theorem Le.trans {M M1 M2:Mp} (a:Le M M1) (b:Le M1 M2):Le M M2:=fun c o h=>b c o (a c o h)
theorem Le.new {M:Mp} {a:Addr} {o:MO} (n:M a=none):Le M (av M a o):=fun _ _ h=>aj h n
def Qd (ks:List (List Int)):Int:=reduceHash (Builtin.Tuple.tupleHashOf (ks.map fun k=>reduceHash (Builtin.Tuple.tupleHashOf (k.map hashInt))))
abbrev DX:=List (List (List Int) ×Addr ×Value)
def BQ (x:List (List Int) ×Addr ×Value):DictEntry:=⟨Qd x.1,.ref x.2.1,x.2.2⟩
def iG (a:Addr) (xs:DX):Heap→Prop:=fun h=> ∃ o es,h.get? a=some o∧o.ExactDict∧o.data= .dict es xs.length∧es.toList=xs.map BQ
def kD (k:List (List Int)):D:= .tup (k.map fun l=> .tup (l.map .int))
def jm (K:PySem.W.Frag) (H:Hp) (p:List (List Int) ×D) (x:List (List Int) ×Addr ×Value):Prop:=p.1=x.1∧Dat K H (kD p.1) (.ref x.2.1)∧∃ v,Dat K H p.2 v∧RelV v x.2.2
theorem jm.mono {K:PySem.W.Frag} {H H':Hp} (e:Ext H H') {p:List (List Int) ×D} {x:List (List Int) ×Addr ×Value} (h:jm K H p x):jm K H' p x:=by
 obtain ⟨h1,h2,v,h3,h4⟩:=h
 exact ⟨h1,Dat.mono e _ _ h2,v,Dat.mono e _ _ h3,h4⟩
def Ja (K:PySem.W.Frag) (H:Hp) (a:Addr):MO→Prop
 | .lst ds=> ∃ xs,H a=some (.lst xs)∧aB K H ds xs
 | .kJ kvs=> ∃ xs:DX,H a=some (.ext (iG a xs))∧(a == sysModules)=false∧(xs.map (·.1)).Nodup∧Paired (jm K H) kvs xs
theorem Ja.mono {K:PySem.W.Frag} {H H':Hp} {a:Addr} {o:MO} (h:Ja K H a o) (e:Ext H H') (s:∀ u,H a=some u→H' a=some u):Ja K H' a o:=by
 cases o with
 | lst ds=>
   obtain ⟨xs,e1,e2⟩:=h
   exact ⟨xs,s _ e1,aB.mono e _ _ e2⟩
 | kJ kvs=>
   obtain ⟨xs,e1,y,nd,p⟩:=h
   exact ⟨xs,s _ e1,y,nd,Paired.D3 p fun _ _ z=>z.mono e⟩
theorem Ja.has {K:PySem.W.Frag} {H:Hp} {a:Addr} {o:MO} (h:Ja K H a o):∃ u,H a=some u∧((∃ xs,u= .lst xs)∨∃ φ,u= .ext φ):=by
 cases o with
 | lst ds=>
   obtain ⟨xs,e1,_⟩:=h
   exact ⟨_,e1,.inl ⟨_,rfl⟩⟩
 | kJ kvs=>
   obtain ⟨xs,e1,_⟩:=h
   exact ⟨_,e1,.inr ⟨_,rfl⟩⟩
def bC (K:PySem.W.Frag) (H:Hp) (M:Mp):Prop:= ∀ a o,M a=some o→Ja K H a o
theorem bC.no {K:PySem.W.Frag} {H:Hp}:bC K H JN:=fun _ _ h=>by cases h
theorem bC.le {K:PySem.W.Frag} {H:Hp} {M M':Mp} (h:bC K H M') (l:Le M M'):bC K H M:=fun a o e=>h a o (l a o e)
theorem bC.lst {K:PySem.W.Frag} {H:Hp} {M:Mp} {a:Addr} {ds:List D} (h:bC K H M) (e:M a=some (.lst ds)):∃ xs,H a=some (.lst xs)∧aB K H ds xs:=h a _ e
theorem bC.free {K:PySem.W.Frag} {H:Hp} {M:Mp} {a:Addr} (h:bC K H M) (e:H a=none):M a=none:=by
 cases q:M a with
 | none=>rfl
 | some o=>
   obtain ⟨u,e',_⟩:=(h a o q).has
   rw [e] at e';cases e'
theorem bC.xZ {K:PySem.W.Frag} {H:Hp} {M:Mp} {a:Addr} {u:HO} (h:bC K H M) (e:H a=some u) (n:∀ xs,u≠ .lst xs) (n2:∀ φ,u≠ .ext φ:=by intro _ z;cases z):M a=none:=by
 cases q:M a with
 | none=>rfl
 | some o=>
   obtain ⟨u',e',h'⟩:=(h a o q).has
   rw [e] at e'
   cases e'
   rcases h' with ⟨xs,z⟩ | ⟨φ,z⟩
   ·exact absurd z (n xs)
   ·exact absurd z (n2 φ)
def Fr (M:Mp) (H:Hp) (M':Mp) (H':Hp):Prop:= ∀ b o,M b=none→H b=some o→H' b=some o∧M' b=none
theorem Fr.refl (M:Mp) (H:Hp):Fr M H M H:=fun _ _ n e=>⟨e,n⟩
theorem Fr.trans {M M1 M2:Mp} {H H1 H2:Hp} (a:Fr M H M1 H1) (b:Fr M1 H1 M2 H2):Fr M H M2 H2:=fun c o n e=>
 let ⟨e1,n1⟩:=a c o n e
 b c o n1 e1
theorem Fr.le {M M1 M2:Mp} {H H1:Hp} (a:Fr M H M1 H1) (l:Le M2 M1):Fr M H M2 H1:=fun b o n e=>by
 obtain ⟨e1,n1⟩:=a b o n e
 refine ⟨e1,?_⟩
 cases q:M2 b with
 | none=>rfl
 | some u=>rw [l b u q] at n1;cases n1
theorem Fr.ext {K:PySem.W.Frag} {M M':Mp} {H H':Hp} (f:Fr M H M' H') (r:bC K H M):Ext H H':=
 ⟨fun b xs e=>(f b _ (r.xZ e (fun _ z=>by cases z)) e).1,fun b o u e=>(f b _ (r.xZ e (fun _ z=>by cases z)) e).1⟩
theorem Ext.new {H:Hp} {p:Addr} {o:HO} (n:H p=none):Ext H (upd H p o):=
 ⟨fun b xs e=>by rw [aQ (bE e n)];exact e,fun b o' u e=>by rw [aQ (bE e n)];exact e⟩
theorem Fr.new {M M':Mp} {H:Hp} {p:Addr} {o:HO} (n:H p=none) (h:∀ b,b≠p→M' b=M b):Fr M H M' (upd H p o):=fun b u m e=>by
 have hb:b≠p:=bE e n
 rw [aQ hb,h b hb]
 exact ⟨e,m⟩
theorem Fr.write {K:PySem.W.Frag} {M:Mp} {H:Hp} {p:Addr} {o:HO} {u:MO} {v:MO} (m:M p=some u):Fr M H (av M p v) (upd H p o):=fun b w n e=>by
 have hb:b≠p:=fun z=>by subst z;rw [m] at n;cases n
 rw [aQ hb,aZ hb]
 exact ⟨e,n⟩
theorem bC.new {K:PySem.W.Frag} {M:Mp} {H:Hp} {p:Addr} {o:HO} (r:bC K H M) (n:H p=none):bC K (upd H p o) M:=fun a u e=>
 (r a u e).mono (Ext.new n) fun v q=>by rw [aQ (bE q n)];exact q
theorem Ext.jy {H:Hp} {p:Addr} {xs ys:List V} (h:H p=some (.lst xs)):Ext H (upd H p (.lst ys)):=
 ⟨fun b zs e=>by rw [aQ (zd e h (by intro z;cases z))];exact e,fun b o u e=>by rw [aQ (zd e h (by intro z;cases z))];exact e⟩
theorem bC.newL {K:PySem.W.Frag} {M:Mp} {H:Hp} {p:Addr} {xs:List V} {ds:List D} (r:bC K H M) (n:H p=none) (d:aB K H ds xs):bC K (upd H p (.lst xs)) (av M p (.lst ds)):=fun a u e=>by
 by_cases ha:a=p
 ·subst ha
  rw [ah] at e;cases e
  exact ⟨xs,bN,aB.mono (Ext.new n) _ _ d⟩
 ·rw [aZ ha] at e
  exact r.new n a u e
theorem bC.jy {K:PySem.W.Frag} {M:Mp} {H:Hp} {p:Addr} {xs ys:List V} {ds:List D} (r:bC K H M) (h:H p=some (.lst xs)) (d:aB K H ds ys):bC K (upd H p (.lst ys)) (av M p (.lst ds)):=fun a u e=>by
 by_cases ha:a=p
 ·subst ha
  rw [ah] at e;cases e
  exact ⟨ys,bN,aB.mono (Ext.jy h) _ _ d⟩
 ·rw [aZ ha] at e
  exact (r a u e).mono (Ext.jy h) fun v q=>by rw [aQ ha];exact q
theorem Ext.uw {H:Hp} {p:Addr} {φ:Heap→Prop} {o:HO} (h:H p=some (.ext φ)):Ext H (upd H p o):=
 ⟨fun b zs e=>by rw [aQ (zd e h (by intro z;cases z))];exact e,fun b o u e=>by rw [aQ (zd e h (by intro z;cases z))];exact e⟩
theorem bC.newD {K:PySem.W.Frag} {M:Mp} {H:Hp} {p:Addr} (r:bC K H M) (n:H p=none) (y:(p == sysModules)=false):bC K (upd H p (.ext (iG p []))) (av M p (.kJ [])):=fun a u e=>by
 by_cases ha:a=p
 ·subst ha
  rw [ah] at e;cases e
  exact ⟨[],bN,y,VU,.nil⟩
 ·rw [aZ ha] at e
  exact r.new n a u e
theorem bC.kJ {K:PySem.W.Frag} {H:Hp} {M:Mp} {a:Addr} {kvs:List (List (List Int) ×D)} (h:bC K H M) (e:M a=some (.kJ kvs)):∃ xs:DX,H a=some (.ext (iG a xs))∧(a == sysModules)=false∧(xs.map (·.1)).Nodup∧Paired (jm K H) kvs xs:=h a _ e
theorem bC.uw {K:PySem.W.Frag} {M:Mp} {H:Hp} {p:Addr} {φ:Heap→Prop} {xs:DX} {kvs:List (List (List Int) ×D)} (r:bC K H M) (h:H p=some (.ext φ)) (y:(p == sysModules)=false) (nd:(xs.map (·.1)).Nodup) (d:Paired (jm K H) kvs xs) :
 bC K (upd H p (.ext (iG p xs))) (av M p (.kJ kvs)):=fun a u e=>by
 by_cases ha:a=p
 ·subst ha
  rw [ah] at e;cases e
  exact ⟨xs,bN,y,nd,Paired.D3 d fun _ _ z=>z.mono (Ext.uw h)⟩
 ·rw [aZ ha] at e
  exact (r a u e).mono (Ext.uw h) fun v q=>by rw [aQ ha];exact q
abbrev En:=List (Option D)
structure Rep (K:PySem.W.Frag) (H:Hp) (σ:St) (ρ:En) (M:Mp):Prop where
 env:∀ (i:Nat) d,ρ[i]?=some (some d)→∃ v,σ[i]?=some (some v)∧Dat K H d v
 len:ρ.length=σ.length
 mem:bC K H M
theorem Rep.go {K:PySem.W.Frag} {H H':Hp} {σ:St} {ρ:En} {M M':Mp} (r:Rep K H σ ρ M) (f:Fr M H M' H') (r':bC K H' M'):Rep K H' σ ρ M':=
 ⟨fun i d e=>let ⟨v,e1,e2⟩:=r.env i d e;⟨v,e1,Dat.mono (f.ext r.mem) _ _ e2⟩,r.len,r'⟩
theorem Rep.set {K:PySem.W.Frag} {H:Hp} {σ:St} {ρ:En} {M:Mp} {i:Nat} {d:D} {v:V} (r:Rep K H σ ρ M) (h:Dat K H d v):Rep K H (σ.set i (some v)) (ρ.set i (some d)) M:=by
 refine ⟨fun j e q=>?_,by simp [r.len],r.mem⟩
 by_cases hj:i=j
 ·subst hj
  by_cases hl:i < ρ.length
  ·rw [Vj hl] at q
   cases q
   exact ⟨v,Vj (by rw [← r.len];exact hl),h⟩
  ·rw [UT (by simp;omega)] at q;cases q
 ·rw [VM hj] at q ⊢
  exact r.env j e q
abbrev DK:=D→Mp→Prop
abbrev cK:=En→Mp→DK→Prop
abbrev lG:=En→Mp→(Bool→Mp→Prop)→Prop
abbrev rD:=En→Mp→(List D→Mp→Prop)→Prop
def Post (K:PySem.W.Frag) (M:Mp) (H:Hp) (Q:DK):VK:=fun v H'=> ∃ d M',Fr M H M' H'∧Dat K H' d v∧bC K H' M'∧Q d M'
def n9 (K:PySem.W.Frag) (M:Mp) (H:Hp) (Q:Bool→Mp→Prop):Bool→Hp→Prop:=fun b H'=> ∃ M',Fr M H M' H'∧bC K H' M'∧Q b M'
def FZ (K:PySem.W.Frag) (M:Mp) (H:Hp) (Q:List D→Mp→Prop):List V→Hp→Prop:=fun vs H'=> ∃ ds M',Fr M H M' H'∧aB K H' ds vs∧bC K H' M'∧Q ds M'
structure cG (X:Cx) (e:Expr) (t:cK):Prop where
 run:∀ (pins:List (Addr ×Obj)) (s:Shared) (σ:St) (H:Hp) (ρ:En) (M:Mp) (Q:DK),Inv X pins σ H s→Rep X.K H σ ρ M→t ρ M Q→wpAny (model X.prog X.w) X.A (eval e X.env) (EP X pins σ (Post X.K M H Q)) X.xe s
structure xG (X:Cx) (e:Expr) (t:lG):Prop where
 run:∀ (pins:List (Addr ×Obj)) (s:Shared) (σ:St) (H:Hp) (ρ:En) (M:Mp) (Q:Bool→Mp→Prop),Inv X pins σ H s→Rep X.K H σ ρ M→t ρ M Q→wpAny (model X.prog X.w) X.A (isTrue e X.env (eval e X.env)) (TP X pins σ (n9 X.K M H Q)) X.xe s
structure sP (X:Cx) (e:Expr) (t:lG):Prop where
 run:∀ (whole:Sem Value) (pins:List (Addr ×Obj)) (s:Shared) (σ:St) (H:Hp) (ρ:En) (M:Mp) (Q:Bool→Mp→Prop),Inv X pins σ H s→Rep X.K H σ ρ M→t ρ M Q→wpAny (model X.prog X.w) X.A (isTrue e X.env whole) (TP X pins σ (n9 X.K M H Q)) X.xe s
theorem sP.pt {X:Cx} {e:Expr} {t:lG} (h:sP X e t):xG X e t:=⟨h.run _⟩
structure x6 (X:Cx) (es:List Expr) (t:rD):Prop where
 run:∀ (pos:Pos) (pins:List (Addr ×Obj)) (s:Shared) (σ:St) (H:Hp) (ρ:En) (M:Mp) (Q:List D→Mp→Prop),Inv X pins σ H s→Rep X.K H σ ρ M→t ρ M Q→wpAny (model X.prog X.w) X.A (spliced (backTo pos (starEach es X.env))) (AP X pins σ (FZ X.K M H Q)) X.xe s
structure Ga where
 nx:En→Mp→Prop
 rt:DK
 bk:En→Mp→Prop:=fun _ _=>False
 ct:En→Mp→Prop:=fun _ _=>False
abbrev iH:=Ga→En→Mp→Prop
def iI (K:PySem.W.Frag) (M:Mp) (H:Hp) (Q:En→Mp→Prop):St→Hp→Prop:=fun σ' H'=> ∃ ρ' M',Fr M H M' H'∧Rep K H' σ' ρ' M'∧Q ρ' M'
def ends (K:PySem.W.Frag) (M:Mp) (H:Hp) (D:Ga):Ends:={ nx:=iI K M H D.nx,rt:=Post K M H D.rt,bk:=iI K M H D.bk,ct:=iI K M H D.ct }
structure uz (X:Cx) (st:Stmt) (t:iH):Prop where
 run:∀ (pins:List (Addr ×Obj)) (s:Shared) (σ:St) (H:Hp) (ρ:En) (M:Mp) (D:Ga),Inv X pins σ H s→Rep X.K H σ ρ M→t D ρ M→wpAny (model X.prog X.w) X.A (exec st X.env) (SP X pins (ends X.K M H D)) X.xe s
structure iJ (X:Cx) (st:List Stmt) (t:iH):Prop where
 run:∀ (pins:List (Addr ×Obj)) (s:Shared) (σ:St) (H:Hp) (ρ:En) (M:Mp) (D:Ga),Inv X pins σ H s→Rep X.K H σ ρ M→t D ρ M→wpAny (model X.prog X.w) X.A (execs st X.env) (SP X pins (ends X.K M H D)) X.xe s
section
variable {X:Cx}
theorem up {e:Expr} {te:TE} {t:cK} (h:PE X e te) (g:∀ σ H ρ M Q,Rep X.K H σ ρ M→t ρ M Q→te σ H (Post X.K M H Q)):cG X e t:=
 ⟨fun pins s σ H ρ M Q I r q=>h pins s σ H _ I (g σ H ρ M Q r q)⟩
theorem Qe {e:Expr} {te:TT} {t:lG} (h:PT X e te) (g:∀ σ H ρ M Q,Rep X.K H σ ρ M→t ρ M Q→te σ H (n9 X.K M H Q)):xG X e t:=
 ⟨fun pins s σ H ρ M Q I r q=>h pins s σ H _ I (g σ H ρ M Q r q)⟩
theorem BR {st:Stmt} {te:TS} {t:iH} (h:PS X st te) (g:∀ σ H ρ M D,Rep X.K H σ ρ M→t D ρ M→te (ends X.K M H D) σ H):uz X st t:=
 ⟨fun pins s σ H ρ M D I r q=>h pins s σ H _ I (g σ H ρ M D r q)⟩
def dn (K:PySem.W.Frag) (t:cK):TE:=fun σ H Q'=> ∃ ρ M Q,Rep K H σ ρ M∧t ρ M Q∧∀ v H',Post K M H Q v H'→Q' v H'
def MT (K:PySem.W.Frag) (t:lG):TT:=fun σ H Q'=> ∃ ρ M Q,Rep K H σ ρ M∧t ρ M Q∧∀ v H',n9 K M H Q v H'→Q' v H'
def OO (K:PySem.W.Frag) (t:rD):TA:=fun σ H Q'=> ∃ ρ M Q,Rep K H σ ρ M∧t ρ M Q∧∀ v H',FZ K M H Q v H'→Q' v H'
def LF (K:PySem.W.Frag) (t:iH):TS:=fun D' σ H=> ∃ ρ M D,Rep K H σ ρ M∧t D ρ M∧(∀ σ' H',iI K M H D.nx σ' H'→D'.nx σ' H')∧(∀ v H',Post K M H D.rt v H'→D'.rt v H')∧(∀ σ' H',iI K M H D.bk σ' H'→D'.bk σ' H')∧(∀ σ' H',iI K M H D.ct σ' H'→D'.ct σ' H')
theorem cG.dn {e:Expr} {t:cK} (h:cG X e t):PE X e (dn X.K t):=fun pins s σ H Q' I ⟨ρ,M,Q,r,q,k⟩=>
 cF (h.run pins s σ H ρ M Q I r q) fun _ _ ⟨v,H',I',rv,p⟩=>⟨v,H',I',rv,k v H' p⟩
theorem xG.dn {e:Expr} {t:lG} (h:xG X e t):PT X e (MT X.K t):=fun pins s σ H Q' I ⟨ρ,M,Q,r,q,k⟩=>
 cF (h.run pins s σ H ρ M Q I r q) fun _ _ ⟨H',I',p⟩=>⟨H',I',k _ H' p⟩
theorem sP.dn {e:Expr} {t:lG} (h:sP X e t):PW X e (MT X.K t):=fun wh pins s σ H Q' I ⟨ρ,M,Q,r,q,k⟩=>
 cF (h.run wh pins s σ H ρ M Q I r q) fun _ _ ⟨H',I',p⟩=>⟨H',I',k _ H' p⟩
theorem x6.dn {es:List Expr} {t:rD} (h:x6 X es t):PA X es (OO X.K t):=fun pos pins s σ H Q' I ⟨ρ,M,Q,r,q,k⟩=>
 cF (h.run pos pins s σ H ρ M Q I r q) fun _ _ ⟨vs,H',I',rv,p⟩=>⟨vs,H',I',rv,k vs H' p⟩
theorem iJ.dn {sts:List Stmt} {t:iH} (h:iJ X sts t):xT X sts (LF X.K t):=fun pins s σ H D' I ⟨ρ,M,D,r,q,k1,k2,k3,k4⟩=>
 cF (h.run pins s σ H ρ M D I r q) fun f s' z=>by
  cases f with
  | next=>obtain ⟨σ',H',I',p⟩:=z;exact ⟨σ',H',I',k1 _ _ p⟩
  | brk=>obtain ⟨σ',H',I',p⟩:=z;exact ⟨σ',H',I',k3 _ _ p⟩
  | cont=>obtain ⟨σ',H',I',p⟩:=z;exact ⟨σ',H',I',k4 _ _ p⟩
  | ret u=>obtain ⟨v,σ',H',I',rv,p⟩:=z;exact ⟨v,σ',H',I',rv,k2 _ _ p⟩
theorem dF {K:PySem.W.Frag} {t:cK} {σ:St} {H:Hp} {ρ:En} {M:Mp} {Q:DK} {Q':VK} (r:Rep K H σ ρ M) (q:t ρ M Q) (k:∀ v H' d M',Fr M H M' H'→Dat K H' d v→Rep K H' σ ρ M'→Q d M'→Q' v H'):dn K t σ H Q':=
 ⟨ρ,M,Q,r,q,fun v H' ⟨d,M',f,dv,rm,p⟩=>k v H' d M' f dv (r.go f rm) p⟩
theorem mY {K:PySem.W.Frag} {t:lG} {σ:St} {H:Hp} {ρ:En} {M:Mp} {Q:Bool→Mp→Prop} {Q':Bool→Hp→Prop} (r:Rep K H σ ρ M) (q:t ρ M Q) (k:∀ b H' M',Fr M H M' H'→Rep K H' σ ρ M'→Q b M'→Q' b H'):MT K t σ H Q':=
 ⟨ρ,M,Q,r,q,fun b H' ⟨M',f,rm,p⟩=>k b H' M' f (r.go f rm) p⟩
theorem jz {K:PySem.W.Frag} {t:rD} {σ:St} {H:Hp} {ρ:En} {M:Mp} {Q:List D→Mp→Prop} {Q':List V→Hp→Prop} (r:Rep K H σ ρ M) (q:t ρ M Q) (k:∀ vs H' ds M',Fr M H M' H'→aB K H' ds vs→Rep K H' σ ρ M'→Q ds M'→Q' vs H'):OO K t σ H Q':=
 ⟨ρ,M,Q,r,q,fun v H' ⟨d,M',f,dv,rm,p⟩=>k v H' d M' f dv (r.go f rm) p⟩
theorem aD {K:PySem.W.Frag} {M:Mp} {H:Hp} {Q:DK} {d:D} {v:V} (rm:bC K H M) (h:Dat K H d v) (q:Q d M):Post K M H Q v H:=⟨d,M,.refl _ _,h,rm,q⟩
theorem Post.back {K:PySem.W.Frag} {M M1:Mp} {H H1:Hp} {Q:DK} {v:V} {H':Hp} (f:Fr M H M1 H1) (p:Post K M1 H1 Q v H'):Post K M H Q v H':=by
 obtain ⟨d,M',f',dv,rm,q⟩:=p
 exact ⟨d,M',f.trans f',dv,rm,q⟩
theorem n9.back {K:PySem.W.Frag} {M M1:Mp} {H H1:Hp} {Q:Bool→Mp→Prop} {b:Bool} {H':Hp} (f:Fr M H M1 H1) (p:n9 K M1 H1 Q b H'):n9 K M H Q b H':=by
 obtain ⟨M',f',rm,q⟩:=p
 exact ⟨M',f.trans f',rm,q⟩
theorem iI.back {K:PySem.W.Frag} {M M1:Mp} {H H1:Hp} {Q:En→Mp→Prop} {σ:St} {H':Hp} (f:Fr M H M1 H1) (p:iI K M1 H1 Q σ H'):iI K M H Q σ H':=by
 obtain ⟨ρ',M',f',r,q⟩:=p
 exact ⟨ρ',M',f.trans f',r,q⟩
end
end L3
namespace L3
open PySem PySem.Spec PyProof.Rows L2
section
variable {X:Cx} {a b c:Expr} {ta tb tc:cK} {pos:Pos}
def JO (i:Nat):cK:=fun ρ M Q=> ∃ d,ρ[i]?=some (some d)∧Q d M
def MU (d:D):cK:=fun _ M Q=>Q d M
theorem af (i:Nat) {x:Str} {pos:Pos} (hN:X.N[i]?=some x:=by rfl) (hv:L6 X.env.scope x:=by first | exact Or.inl rfl | exact Or.inr (Or.inl rfl) | exact Or.inr (Or.inr rfl)) (hd:(x == ("__debug__" :Str))=false:=by decide)
 (hcd:(x == ("__classdict__" :Str))=false:=by decide):cG X (.Name x pos) (JO i):=
 up (GO hN hv hd hcd) fun σ H ρ M Q r ⟨d,e,q⟩=>by
  obtain ⟨v,e1,e2⟩:=r.env i d e
  exact ⟨v,e1,aD r.mem e2 q⟩
theorem ai {i j pos}:cG X (.Constant (.int i) j pos) (MU (.int i)):=up GP fun _ _ _ _ _ r q=>aD r.mem (aJ.mpr rfl) q
theorem jn {b j pos}:cG X (.Constant (.bool b) j pos) (MU (.bl b)):=up Jo fun _ _ _ _ _ r q=>aD r.mem (aY.mpr rfl) q
theorem mZ {x:Str} {n:String} {pos:Pos} (hg:Gl X x) (hm:X.mg x=none) (hv:bootBuiltins x=some (.type n)) (hn:x≠"__name__" :=by decide) (hd:(x == ("__debug__" :Str))=false:=by decide):cG X (.Name x pos) (MU (.ty n)):=
 up (D7 (v:= .ty n) hg hm hv rfl hn hd) fun _ _ _ _ _ r q=>aD r.mem (BP.mpr rfl) q
abbrev R3:=D→D→Mp→DK→Prop
structure lJ (X:Cx) (f:Value→Value→Sem Value) (t:R3):Prop where
 run:∀ (pins:List (Addr ×Obj)) (s:Shared) (σ:St) (H:Hp) (M:Mp) (x y:V) (d e:D) (v u:Value) (Q:DK),Inv X pins σ H s→bC X.K H M→RelV x v→RelV y u→Dat X.K H d x→Dat X.K H e y→t d e M Q→
  wpAny (model X.prog X.w) X.A (f v u) (EP X pins σ (Post X.K M H Q)) X.xe s
theorem LG {f:Value→Value→Sem Value} {r:R2} {t:R3} (h:xF X f r) (g:∀ H M x y d e Q,bC X.K H M→Dat X.K H d x→Dat X.K H e y→t d e M Q→r x y H (Post X.K M H Q)):lJ X f t:=
 ⟨fun pins s σ H M x y d e v u Q I rm rx ry dx dy q=>h pins s σ H x y v u _ I rx ry (g H M x y d e Q rm dx dy q)⟩
def Et (t:R3) (ta tb:cK):cK:=fun ρ M Q=>ta ρ M fun x M1=>tb ρ M1 fun y M2=>t x y M2 Q
theorem JP (ha:cG X a ta) (hb:cG X b tb) {pins:List (Addr ×Obj)} {s:Shared} {σ:St} {H:Hp} {ρ:En} {M:Mp} {R:D→D→Mp→Prop} (I:Inv X pins σ H s) (r:Rep X.K H σ ρ M)
 (h:ta ρ M fun x M1=>tb ρ M1 fun y M2=>R x y M2) {Q:Value→Shared→Prop} {f:Value→Value→Sem Value}
 (hf:∀ v u s2 x y d e H2 M2,Inv X pins σ H2 s2→Rep X.K H2 σ ρ M2→Fr M H M2 H2→RelV x v→RelV y u→Dat X.K H2 d x→Dat X.K H2 e y→R d e M2→wpAny (model X.prog X.w) X.A (f v u) Q X.xe s2) :
 wpAny (model X.prog X.w) X.A (eval a X.env) (fun v s₁=>wpAny (model X.prog X.w) X.A (eval b X.env) (fun u s₂=>wpAny (model X.prog X.w) X.A (f v u) Q X.xe s₂) X.xe s₁) X.xe s:=by
 refine cF (ha.run pins s σ H ρ M _ I r h) fun v s1 ⟨x,H1,I1,r1,d,M1,f1,d1,mT,q1⟩=>?_
 have R1:=r.go f1 mT
 refine cF (hb.run pins s1 σ H1 ρ M1 _ I1 R1 q1) fun u s2 ⟨y,H2,I2,r2,e,M2,f2,d2,JQ,q2⟩=>?_
 exact hf v u s2 x y d e H2 M2 I2 (R1.go f2 JQ) (f1.trans f2) r1 r2 (Dat.mono (f2.ext mT) _ _ d1) d2 q2
theorem az {op:Operator} {t:R3} (ho:lJ X (binaryOp op) t) (ha:cG X a ta) (hb:cG X b tb):cG X (.BinOp a op b pos) (Et t ta tb):=by
 constructor
 intro pins s σ H ρ M Q I r h
 refine wpAny_BinOp (JP ha hb I r h fun v u s2 x y d e H2 M2 I2 R2 f rx ry dx dy q=>?_)
 exact cF (ho.run pins s2 σ H2 M2 x y d e v u Q I2 R2.mem rx ry dx dy q) fun _ _ ⟨z,H3,I3,r3,p⟩=>⟨z,H3,I3,r3,p.back f⟩
theorem oh {op:CmpOp} {t:R3} (ho:lJ X (compareOp op) t) (ha:cG X a ta) (hb:cG X b tb) (hm:behindInMarks op b=false):cG X (.Compare a [op] [b] pos) (Et t ta tb):=by
 constructor
 intro pins s σ H ρ M Q I r h
 refine wpAny_Compare1 (JP ha hb I r h fun v u s2 x y d e H2 M2 I2 R2 f rx ry dx dy q=>?_) hm
 exact cF (ho.run pins s2 σ H2 M2 x y d e v u Q I2 R2.mem rx ry dx dy q) fun _ _ ⟨z,H3,I3,r3,p⟩=>⟨z,H3,I3,r3,p.back f⟩
def BS (t:cK):lG:=fun ρ M Q=>t ρ M fun x M'=> ∃ k,x= .bl k∧Q k M'
theorem aT {op:CmpOp} {t:R3} (ho:lJ X (compareOp op) t) (ha:cG X a ta) (hb:cG X b tb) (hm:behindInMarks op b=false):xG X (.Compare a [op] [b] pos) (BS (Et t ta tb)):=by
 constructor
 intro pins s σ H ρ M Q I r h
 refine wpAny_isTrue_Compare1 (cF (ha.run pins s σ H ρ M _ I r h) fun v s1 ⟨x,H1,I1,r1,d,M1,f1,d1,mT,q1⟩=>cF (hb.run pins s1 σ H1 ρ M1 _ I1 (r.go f1 mT) q1) fun u s2 ⟨y,H2,I2,r2,e,M2,f2,d2,JQ,q2⟩=>
  cF (ho.run pins s2 σ H2 M2 x y d e v u _ I2 JQ r1 r2 (Dat.mono (f2.ext mT) _ _ d1) d2 q2) fun w s3 ⟨z,H3,I3,r3,dz,M3,f3,d3,Qf,k,ek,q3⟩=>?_) hm
 subst ek
 obtain rfl:=aY.mp d3
 cases r3
 exact wpAny_truthy_bool ⟨H3,I3,M3,(f1.trans f2).trans f3,Qf,q3⟩
theorem kK {e:Expr} {t:cK} (h:cG X e t) (he:∀ whole,isTrue e X.env whole=(do let v ← whole;standAt e.pos;holding [v] (truthy v)):=by intro _;rfl):xG X e (BS t):=by
 constructor
 intro pins s σ H ρ M Q I r hw
 refine isTrue_plain (cF (h.run pins s σ H ρ M _ I r hw) fun v s1 ⟨x,H1,I1,r1,d,M1,f1,d1,mT,k,ek,q1⟩=>?_) (he _)
 subst ek
 obtain rfl:=aY.mp d1
 cases r1
 exact wpAny_truthy_bool ⟨H1,I1,M1,f1,mT,q1⟩
variable {tA tB:lG} {rest:List Expr}
def JR (t u:lG):lG:=fun ρ M Q=>t ρ M fun c M1=>if c=true then u ρ M1 Q else Q false M1
def MV (t u:lG):lG:=fun ρ M Q=>t ρ M fun c M1=>if c=true then Q true M1 else u ρ M1 Q
def JS (t:lG):lG:=fun ρ M Q=>t ρ M fun c M1=>Q (!c) M1
theorem BU (ha:xG X a tA):sP X (.BoolOp .And [a] pos) tA:=⟨fun wh pins s σ H ρ M Q I r h=>cF (pw_and1 ha.dn wh pins s σ H _ I ⟨ρ,M,Q,r,h,fun _ _ z=>z⟩) fun _ _ z=>z⟩
theorem oi (ha:xG X a tA):sP X (.BoolOp .Or [a] pos) tA:=⟨fun wh pins s σ H ρ M Q I r h=>cF (pw_or1 ha.dn wh pins s σ H _ I ⟨ρ,M,Q,r,h,fun _ _ z=>z⟩) fun _ _ z=>z⟩
theorem Gb (ha:xG X a tA) (hb:sP X (.BoolOp .And (b :: rest) pos) tB):sP X (.BoolOp .And (a :: b :: rest) pos) (JR tA tB):=⟨fun wh pins s σ H ρ M Q I r h=>
 pw_and ha.dn hb.dn wh pins s σ H _ I (mY r h fun c H' M' f r' q=>by
  cases c with
  | true=>exact ⟨ρ,M',Q,r',q,fun _ _ p=>p.back f⟩
  | false=>exact ⟨M',f,r'.mem,q⟩)⟩
theorem uA (ha:xG X a tA) (hb:sP X (.BoolOp .Or (b :: rest) pos) tB):sP X (.BoolOp .Or (a :: b :: rest) pos) (MV tA tB):=⟨fun wh pins s σ H ρ M Q I r h=>
 pw_or ha.dn hb.dn wh pins s σ H _ I (mY r h fun c H' M' f r' q=>by
  cases c with
  | true=>exact ⟨M',f,r'.mem,q⟩
  | false=>exact ⟨ρ,M',Q,r',q,fun _ _ p=>p.back f⟩)⟩
theorem k_not (ha:xG X a tA):xG X (.UnaryOp .Not a pos) (JS tA):=Qe (GQ ha.dn) fun σ H ρ M Q r h=>mY r h fun _ _ M' f r' q=>⟨M',f,r'.mem,q⟩
def JT (ta tb:cK):cK:=fun ρ M Q=>ta ρ M fun x M1=> ∃ c,x= .bl c∧if c=true then Q (.bl true) M1 else tb ρ M1 Q
theorem Gd {op} {t:cK} (h:cG X a t):cG X (.BoolOp op [a] pos) t:=⟨fun pins s σ H ρ M Q I r hw=>BoolOp_one (h.run pins s σ H ρ M Q I r hw)⟩
theorem JU (ha:cG X a ta) (hb:cG X (.BoolOp .Or (b :: rest) pos) tb):cG X (.BoolOp .Or (a :: b :: rest) pos) (JT ta tb):=up (Jp ha.dn hb.dn) fun σ H ρ M Q r h=>dF r h fun v H' d M' f dv r' ⟨k,ek,q⟩=>by
 subst ek
 obtain rfl:=aY.mp dv
 refine ⟨k,rfl,?_⟩
 cases k with
 | true=>exact ⟨.bl true,M',f,aY.mpr rfl,r'.mem,q⟩
 | false=>exact ⟨ρ,M',Q,r',q,fun _ _ p=>p.back f⟩
def MW (t:lG) (ta tb:cK):cK:=fun ρ M Q=>t ρ M fun c M1=>if c=true then ta ρ M1 Q else tb ρ M1 Q
theorem MX {c:Expr} (hc:xG X c tA) (ha:cG X a ta) (hb:cG X b tb):cG X (.IfExp c a b pos) (MW tA ta tb):=up (Bx hc.dn ha.dn hb.dn) fun σ H ρ M Q r h=>mY r h fun k H' M' f r' q=>by
 cases k with
 | true=>exact ⟨ρ,M',Q,r',q,fun _ _ p=>p.back f⟩
 | false=>exact ⟨ρ,M',Q,r',q,fun _ _ p=>p.back f⟩
def MY (t:D→Mp→DK→Prop) (ta:cK):cK:=fun ρ M Q=>ta ρ M fun x M1=>t x M1 Q
def MZ:D→Mp→DK→Prop:=fun d M Q=> ∃ i,d= .int i∧Q (.int (-i)) M
theorem dO (ha:cG X a ta):cG X (.UnaryOp .USub a pos) (MY MZ ta):=up (Jx G1 ha.dn) fun σ H ρ M Q r h=>dF r h fun v H' d M' f dv r' ⟨i,ek,q⟩=>by
 subst ek
 obtain rfl:=aJ.mp dv
 exact ⟨i,rfl,.int (-i),M',f,aJ.mpr rfl,r'.mem,q⟩
def Sm (n:Nat) (i:Int):Prop:=i.natAbs < 2 ^ n
def MulOk (i j:Int):Prop:= ∃ m n,Sm m i∧Sm n j∧m+n≤100000
theorem pM {k n:Nat} (h:k < 2 ^ n):k.log2≤n:=by
 rcases WH k with z | z
 ·subst z;simp
 ·exact Vx (by rw [Nat.log2_lt (by omega)];exact h)
theorem uB {n:Nat} {i:Int} (h:Sm n i):Builtin.Int.intBits i≤n+1:=by
 unfold Builtin.Int.intBits
 have:=pM h
 first
  | (split <;> omega)
  | omega
theorem MulOk.ok {i j:Int} (h:MulOk i j):IntMulOk i j:=by
 obtain ⟨m,n,h1,h2,h3⟩:=h
 have b1:=uB h1
 have b2:=uB h2
 exact IntMulOk.of_bits (by omega) (by omega)
def Hl (g:Int→Int→Int):R3:=fun d e M Q=> ∃ i j,d= .int i∧e= .int j∧Q (.int (g i j)) M
def sQ (C:Int→Int→Prop) (g:Int→Int→Int):R3:=fun d e M Q=> ∃ i j,d= .int i∧e= .int j∧C i j∧Q (.int (g i j)) M
def zB (g:Int→Int→Bool):R3:=fun d e M Q=> ∃ i j,d= .int i∧e= .int j∧Q (.bl (g i j)) M
theorem JV {f:Value→Value→Sem Value} {g:Int→Int→Int} (h:xF X f (Ef fun i j=> .int (g i j))):lJ X f (Hl g):=LG h fun H M x y d e Q rm dx dy ⟨i,j,e1,e2,q⟩=>by
 subst e1;subst e2
 exact ⟨i,j,aJ.mp dx,aJ.mp dy,aD rm (aJ.mpr rfl) q⟩
theorem v8 {f:Value→Value→Sem Value} {C:Int→Int→Prop} {g:Int→Int→Int} (h:xF X f (rI C fun i j=> .int (g i j))):lJ X f (sQ C g):=LG h fun H M x y d e Q rm dx dy ⟨i,j,e1,e2,hc,q⟩=>by
 subst e1;subst e2
 exact ⟨i,j,aJ.mp dx,aJ.mp dy,hc,aD rm (aJ.mpr rfl) q⟩
theorem BV {f:Value→Value→Sem Value} {g:Int→Int→Bool} (h:xF X f (Ef fun i j=> .bl (g i j))):lJ X f (zB g):=LG h fun H M x y d e Q rm dx dy ⟨i,j,e1,e2,q⟩=>by
 subst e1;subst e2
 exact ⟨i,j,aJ.mp dx,aJ.mp dy,aD rm (aY.mpr rfl) q⟩
theorem e9:lJ X (binaryOp .Add) (Hl fun i j=>i+j):=JV GY
theorem dP:lJ X (binaryOp .Sub) (Hl fun i j=>i - j):=JV GZ
theorem cV:lJ X (binaryOp .Mult) (sQ MulOk fun i j=>i*j):=v8 (Jy fun _ _ _ _ _ _ _ hc q=>mul_int q hc.ok)
theorem cX:lJ X (binaryOp .Mod) (sQ (fun _ j=>0 < j) fun i j=>i % j):=v8 G0
def JW (_ j:Int):Prop:=0 < j∧∃ n,Sm n j∧n≤8000
theorem uC:lJ X (binaryOp .FloorDiv) (sQ JW fun i j=>i / j):=v8 (Jy fun i j _ _ _ _ _ hc q=>floordiv_int (by have:=hc.1;omega) (by rw [Int.fdiv_eq_ediv_of_nonneg _ (by have:=hc.1;omega)];exact q) (.inl (PyProof.noPylong_of_log2 (by
 obtain ⟨_,n,h1,h2⟩:=hc
 have:=pM h1
 omega))))
def BW (i j:Int):Prop:=0≤j∧j≤1000∧i.natAbs < 2 ^ 400
theorem BW.bits {i j:Int} (h:BW i j):(Builtin.Int.intBits i:Int)*j≤2 ^ 27:=by
 have hb:Builtin.Int.intBits i≤401:=uB (n:=400) h.2.2
 have h1:(Builtin.Int.intBits i:Int)*j≤401*j:=Ui (by omega) h.1
 have:=h.2.1
 omega
theorem sR:lJ X (binaryOp .Pow) (sQ BW fun i j=>i ^ j.toNat):=v8 (Jy fun _ _ _ _ _ _ _ hc q=>pow_int hc.1 hc.bits q)
theorem Na:lJ X (compareOp .Lt) (zB fun i j=>decide (i < j)):=BV JC
theorem Nb:lJ X (compareOp .LtE) (zB fun i j=>decide (i≤j)):=BV JD
theorem Ho:lJ X (compareOp .Gt) (zB fun i j=>decide (j < i)):=BV JE
inductive LH where
 | bz | bl (b:Bool) | int (i:Int) | str (x:Str)
 deriving DecidableEq
def LH.d:LH→D | .bz=> .bz | .bl b=> .bl b | .int i=> .int i | .str x=> .str x
def LH.v:LH→V | .bz=> .bz | .bl b=> .bl b | .int i=> .int i | .str x=> .str x
end
end L3
namespace L3
open PySem PySem.Spec PyProof.Rows L2
mutual
def dM:D→D→Bool
 | .bz,e=>match e with | .bz=>true | _=>false
 | .bl a,e=>match e with | .bl b=>a == b | .int b=>(if a then 1 else 0) == b | _=>false
 | .int a,e=>match e with | .bl b=>a == (if b then 1 else 0) | .int b=>a == b | _=>false
 | .str a,e=>match e with | .str b=>a == b | _=>false
 | .tup as,e=>match e with | .tup bs=>fB as bs | _=>false
 | .ty _,_=>false
 | .ref _,_=>false
 | .zA _,_=>false
 | .Hj _,_=>false
 | .exc _ _ _,_=>false
def fB:List D→List D→Bool
 | [],e=>match e with | []=>true | _=>false
 | a :: as,e=>match e with | []=>false | b :: bs=>dM a b && fB as bs
end
def plain:Nat→D→Bool
 | _,.bz=>true
 | _,.bl _=>true
 | _,.int _=>true
 | _,.str _=>true
 | n+1,.tup ds=>ds.all (plain n)
 | _,_=>false
theorem fZ:fB [] []=true:=by simp [fB]
theorem iK (a b:D) (as bs:List D):fB (a :: as) (b :: bs)=(dM a b && fB as bs):=by simp [fB]
theorem iY (as bs:List D):dM (.tup as) (.tup bs)=fB as bs:=by simp [dM]
theorem dQ (a b:Int):dM (.int a) (.int b)=(a == b):=by simp [dM]
theorem ff:∀ (ds es:List D),fB ds es=((List.range (min ds.length es.length)).all (fun j=>dM (ds.getD j .bz) (es.getD j .bz)) && (ds.length == es.length))
 | [],[]=>by simp [fB]
 | [],e :: es=>by simp [fB]
 | d :: ds,[]=>by simp [fB]
 | d :: ds,e :: es=>by
   rw [iK,ff ds es]
   have h:min (d :: ds).length (e :: es).length=min ds.length es.length+1:=by simp only [Ug];omega
   rw [h,List.range_succ_eq_map,VF,Wb]
   simp only [List.getD_cons_zero,Ug]
   have h2:((fun j=>dM ((d :: ds).getD j D.bz) ((e :: es).getD j D.bz))∘Nat.succ)=fun j=>dM (ds.getD j D.bz) (es.getD j D.bz):=by
    funext j;simp
   rw [h2]
   have h3:(ds.length+1 == es.length+1)=(ds.length == es.length):=by
    rw [Uo];simp
   rw [h3,Bool.and_assoc]
theorem v9:∀ (n:Nat) (d:D),plain n d=true→dM d d=true:=by
 intro n
 induction n with
 | zero=>intro d h;cases d <;> simp [plain] at h <;> simp [dM]
 | succ n ih=>
   intro d h
   cases d with
   | tup ds=>
     have h:ds.all (plain n)=true:=by simpa [plain] using h
     rw [iY]
     have:∀ (es:List D),es.all (plain n)=true→fB es es=true:=by
      intro es
      induction es with
      | nil=>intro _;exact fZ
      | cons e es Qg=>
        intro h
        rw [VF,UU] at h
        rw [iK,ih e h.1,Qg h.2];rfl
     exact this ds h
   | _=>first | (simp [plain] at h;done) | (simp [dM];done)
section
variable {K:PySem.W.Frag} {H:Hp}
theorem Dat.inj:∀ (n:Nat) (d e:D) (v:V),plain n d=true→plain n e=true→Dat K H d v→Dat K H e v→d=e:=by
 intro n
 induction n with
 | zero=>
   intro d e v pd pe hd he
   cases d <;> simp [plain] at pd <;> cases e <;> simp [plain] at pe <;> simp only [Dat] at hd he <;> subst hd <;> first | rfl | (injection he with z;rw [z]) | cases he
 | succ n ih=>
   intro d e v pd pe hd he
   have lists:∀ (ds es:List D) (xs:List V),ds.all (plain n)=true→es.all (plain n)=true→aB K H ds xs→aB K H es xs→ds=es:=by
    intro ds
    induction ds with
    | nil=>
      intro es xs _ _ h1 h2
      rw [aE.mp h1] at h2
      cases es with
      | nil=>rfl
      | cons e es=>obtain ⟨_,_,z,_⟩:=aA.mp h2;cases z
    | cons d ds Qh=>
      intro es xs p1 p2 h1 h2
      obtain ⟨v,vs,rfl,g1,g2⟩:=aA.mp h1
      cases es with
      | nil=>cases aE.mp h2
      | cons e es=>
        obtain ⟨v',vs',z,g3,g4⟩:=aA.mp h2
        injection z with z1 z2
        subst z1;subst z2
        rw [VF,UU] at p1 p2
        rw [ih d e v p1.1 p2.1 g1 g3,Qh es vs p1.2 p2.2 g2 g4]
   cases d with
   | tup ds=>
     obtain ⟨a,xs,rfl,ha,hx⟩:=aU.mp hd
     cases e with
     | tup es=>
       obtain ⟨b,ys,z,hb,hy⟩:=aU.mp he
       injection z with z
       subst z
       rw [ha] at hb
       injection hb with hb
       injection hb with hb
       subst hb
       rw [lists ds es xs (by simpa [plain] using pd) (by simpa [plain] using pe) hx hy]
     | _=>first | (simp [plain] at pe;done) | (simp only [Dat] at he;cases he)
   | _=>first
     | (simp [plain] at pd;done)
     | (cases e <;> first
      | (simp [plain] at pe;done)
      | (obtain ⟨b,ys,z,hb,hy⟩:=aU.mp he;simp only [Dat] at hd;subst hd;cases z;done)
      | (simp only [Dat] at hd he;subst hd;first | rfl | (injection he with z;rw [z]) | cases he))
end
theorem o7 {α:Type} {p:α→Bool} {xs:List α} (h:xs.all p=true) {i:Nat} {x:α} (e:xs[i]?=some x):p x=true:=(Uz.mp h) x (TM e)
section
variable {X:Cx} {pins:List (Addr ×Obj)} {σ:St} {H:Hp} {s:Shared}
theorem dc {P:Program} {w:World} {h:Heap} {a:Addr} {xs:List V} (ok:iX P w H h) (e:H a=some (.tup xs)):∃ its:List Value,Vals xs its∧IsTup h a its.toArray∧xs.length≤sizeLine:=by
 obtain ⟨z,its,r,p⟩:=(show cy P w H h a (.tup xs) from ok a _ e)
 exact ⟨its,r,p,z⟩
theorem BX {P:Program} {w:World} (ok:iX P w H s.heap) {K:PySem.W.Frag}:∀ (n:Nat) (A:Around) (d e:D) (x y:V) (u v:Value),A.units+n < cLine→plain n d=true→plain n e=true→Dat K H d x→Dat K H e y→RelV x u→RelV y v→SeqAt.EqAt A s u v (dM d e):=by
 intro n
 induction n with
 | zero=>
   intro A d e x y u v hu pd pe dx dy rx ry
   cases d with
   | tup ds=>simp [plain] at pd
   | ty _=>simp [plain] at pd
   | ref _=>simp [plain] at pd
   | zA _=>simp [plain] at pd
   | Hj _=>simp [plain] at pd
   | exc _ _ _=>simp [plain] at pd
   | bz=>
     obtain rfl:=c8.mp dx
     cases rx
     cases e with
     | bz=>obtain rfl:=c8.mp dy;cases ry;simpa [dM] using SeqAt.EqAt.same (A:=A) (s:=s) Value.none
     | bl b=>obtain rfl:=aY.mp dy;cases ry;simpa [dM] using SeqAt.EqAt.none_bool (A:=A) (s:=s) b
     | int b=>obtain rfl:=aJ.mp dy;obtain ⟨t,rfl⟩:=ry;simpa [dM] using SeqAt.EqAt.none_int (A:=A) (s:=s) b t
     | str b=>obtain rfl:=gH.mp dy;obtain ⟨t,rfl⟩:=ry;simpa [dM] using SeqAt.EqAt.none_str (A:=A) (s:=s) b t
     | _=>simp [plain] at pe
   | bl a=>
     obtain rfl:=aY.mp dx
     cases rx
     cases e with
     | bz=>obtain rfl:=c8.mp dy;cases ry;simpa [dM] using SeqAt.EqAt.bool_none (A:=A) (s:=s) a
     | bl b=>obtain rfl:=aY.mp dy;cases ry;simpa [dM] using SeqAt.EqAt.bool_bool (A:=A) (s:=s) a b
     | int b=>obtain rfl:=aJ.mp dy;obtain ⟨t,rfl⟩:=ry;simpa [dM] using SeqAt.EqAt.bool_int (A:=A) (s:=s) a b t
     | str b=>obtain rfl:=gH.mp dy;obtain ⟨t,rfl⟩:=ry;simpa [dM] using SeqAt.EqAt.bool_str (A:=A) (s:=s) a b t
     | _=>simp [plain] at pe
   | int a=>
     obtain rfl:=aJ.mp dx
     obtain ⟨t',rfl⟩:=rx
     cases e with
     | bz=>obtain rfl:=c8.mp dy;cases ry;simpa [dM] using SeqAt.EqAt.int_none (A:=A) (s:=s) a t'
     | bl b=>obtain rfl:=aY.mp dy;cases ry;simpa [dM] using SeqAt.EqAt.int_bool (A:=A) (s:=s) a t' b
     | int b=>obtain rfl:=aJ.mp dy;obtain ⟨t,rfl⟩:=ry;simpa [dM] using SeqAt.EqAt.int_int (A:=A) (s:=s) a t' b t
     | str b=>obtain rfl:=gH.mp dy;obtain ⟨t,rfl⟩:=ry;simpa [dM] using SeqAt.EqAt.int_str (A:=A) (s:=s) a t' b t
     | _=>simp [plain] at pe
   | str a=>
     obtain rfl:=gH.mp dx
     obtain ⟨t',rfl⟩:=rx
     cases e with
     | bz=>obtain rfl:=c8.mp dy;cases ry;simpa [dM] using SeqAt.EqAt.str_none (A:=A) (s:=s) a t'
     | bl b=>obtain rfl:=aY.mp dy;cases ry;simpa [dM] using SeqAt.EqAt.str_bool (A:=A) (s:=s) a t' b
     | int b=>obtain rfl:=aJ.mp dy;obtain ⟨t,rfl⟩:=ry;simpa [dM] using SeqAt.EqAt.str_int (A:=A) (s:=s) a t' b t
     | str b=>obtain rfl:=gH.mp dy;obtain ⟨t,rfl⟩:=ry;simpa [dM] using SeqAt.EqAt.str_str (A:=A) (s:=s) a t' b t
     | _=>simp [plain] at pe
 | succ n ih=>
   intro A d e x y u v hu pd pe dx dy rx ry
   have flat:∀ (z:D),plain (n+1) z=true→(∀ zs,z≠ .tup zs)→plain n z=true:=by
    intro z pz nz
    cases z with
    | tup zs=>exact absurd rfl (nz zs)
    | _=>first | (simp [plain];done) | (simp [plain] at pz;done)
   have hun:A.units < cLine:=by omega
   cases d with
   | tup ds=>
     obtain ⟨a,xs,rfl,ha,hx⟩:=aU.mp dx
     obtain rfl:u=Value.ref a:=rx
     obtain ⟨its,rv,pt,hz⟩:=dc ok ha
     cases e with
     | tup es=>
       obtain ⟨b,ys,rfl,hb,hy⟩:=aU.mp dy
       obtain rfl:v=Value.ref b:=ry
       obtain ⟨its2,o8,Br,hz2⟩:=dc ok hb
       by_cases hab:a=b
       ·subst hab
        have:=Dat.inj (K:=K) (H:=H) (n+1) _ _ _ pd pe dx dy
        rw [← this,v9 (n+1) _ pd]
        exact SeqAt.EqAt.same _
       ·refine SeqAt.EqAt.of_refs hab ?_
        have hl1:=hx.length.trans rv.length
        have hl2:=hy.length.trans o8.length
        have key:=SeqAt.RcAt.tuples (A:=A) (s:=s) (e:=fun j=>dM (ds.getD j .bz) (es.getD j .bz)) pt Br hun (fun j h1 h2=>?_)
        ·rw [iY,ff]
         simp only [Tv,← hl1,← hl2] at key
         exact key
        ·simp only [Tv] at h1 h2
         have e1:ds[j]?=some (ds.getD j .bz):=by rw [Um,Tq (by omega)];rfl
         have e2:es[j]?=some (es.getD j .bz):=by rw [Um,Tq (by omega)];rfl
         obtain ⟨x1,g1,g2⟩:=hx.get e1
         obtain ⟨y1,g3,g4⟩:=hy.get e2
         obtain ⟨u1,g5,g6⟩:=rv.get g1
         obtain ⟨v1,g7,g8⟩:=o8.get g3
         have q1:its.toArray[j]=u1:=by
          have:its[j]=u1:=Option.some.inj ((Tq (by omega)).symm.trans g5)
          simpa using this
         have q2:its2.toArray[j]=v1:=by
          have:its2[j]=v1:=Option.some.inj ((Tq (by omega)).symm.trans g7)
          simpa using this
         rw [q1,q2]
         have Qi:ds.all (plain n)=true:=by simpa [plain] using pd
         have Qj:es.all (plain n)=true:=by simpa [plain] using pe
         exact ih A.in1 _ _ x1 y1 u1 v1 (by show A.units+1+n < cLine;omega) (o7 Qi e1) (o7 Qj e2) g2 g4 g6 g8
     | bz=>obtain rfl:=c8.mp dy;cases ry;simpa [dM] using SeqAt.EqAt.tuple_none (A:=A) (s:=s) pt hun
     | bl b=>obtain rfl:=aY.mp dy;cases ry;simpa [dM] using SeqAt.EqAt.tuple_bool (A:=A) (s:=s) b pt hun
     | int b=>obtain rfl:=aJ.mp dy;obtain ⟨t,rfl⟩:=ry;simpa [dM] using SeqAt.EqAt.tuple_int (A:=A) (s:=s) b t pt hun
     | str b=>obtain rfl:=gH.mp dy;obtain ⟨t,rfl⟩:=ry;simpa [dM] using SeqAt.EqAt.tuple_str (A:=A) (s:=s) b t pt hun
     | _=>simp [plain] at pe
   | _=>
     first
     | (simp [plain] at pd;done)
     | (cases e with
      | tup es=>
        obtain ⟨b,ys,rfl,hb,hy⟩:=aU.mp dy
        obtain rfl:v=Value.ref b:=ry
        obtain ⟨its2,o8,Br,hz2⟩:=dc ok hb
        first
        | (obtain rfl:=c8.mp dx;cases rx;simpa [dM] using SeqAt.EqAt.none_tuple (A:=A) (s:=s) Br hun)
        | (obtain rfl:=aY.mp dx;cases rx;simpa [dM] using SeqAt.EqAt.bool_tuple (A:=A) (s:=s) _ Br hun)
        | (obtain rfl:=aJ.mp dx;obtain ⟨t,rfl⟩:=rx;simpa [dM] using SeqAt.EqAt.int_tuple (A:=A) (s:=s) _ t Br hun)
        | (obtain rfl:=gH.mp dx;obtain ⟨t,rfl⟩:=rx;simpa [dM] using SeqAt.EqAt.str_tuple (A:=A) (s:=s) _ t Br hun)
      | _=>
        first
        | (simp [plain] at pe;done)
        | exact ih A _ _ x y u v (by omega) (flat _ pd (fun _ z=>by cases z)) (flat _ pe (fun _ z=>by cases z)) dx dy rx ry)
def BY:D→D→Bool
 | .bz,.bz=>true | .bz,.int _=>true | .int _,.bz=>true | .bz,.bl _=>true | .bl _,.bz=>true | .bz,.str _=>true | .str _,.bz=>true
 | .int _,.int _=>true | .bl _,.bl _=>true | .str _,.str _=>true
 | _,_=>false
def Eu (d e:D):Bool:=match d,e with
 | .tup ds,.tup es=>plain 10 (.tup ds) && plain 10 (.tup es)
 | d,e=>BY d e
def Nc:R3:=fun d e M Q=>Eu d e=true∧Q (.bl (dM d e)) M
def Nd:R3:=fun d e M Q=>Eu d e=true∧Q (.bl (!dM d e)) M
theorem BZ {K:PySem.W.Frag} {d e:D} {x y:V} (h:BY d e=true) (dx:Dat K H d x) (dy:Dat K H e y):G2 x y=true∧decide (x=y)=dM d e:=by
 cases d <;> cases e <;> first
  | (simp [BY] at h;done)
  | (simp only [Dat] at dx dy;subst dx;subst dy;refine ⟨rfl,?_⟩;rw [Uo];simp [dM])
theorem jA {P:Program} {w:World} (ok:iX P w H s.heap) {K:PySem.W.Frag} {A:Around} {ds es:List D} {xs ys:List V} {its its2:List Value} {n:Nat} (hu:A.units+n < cLine) (pd:ds.all (plain n)=true) (pe:es.all (plain n)=true) (hx:aB K H ds xs) (hy:aB K H es ys) (rv:Vals xs its) (o8:Vals ys its2) :
 ∀ j (h1:j < its.toArray.size) (h2:j < its2.toArray.size),SeqAt.EqAt A s its.toArray[j] its2.toArray[j] (dM (ds.getD j .bz) (es.getD j .bz)):=by
 intro j h1 h2
 have hl1:=hx.length.trans rv.length
 have hl2:=hy.length.trans o8.length
 simp only [Tv] at h1 h2
 have e1:ds[j]?=some (ds.getD j .bz):=by rw [Um,Tq (by omega)];rfl
 have e2:es[j]?=some (es.getD j .bz):=by rw [Um,Tq (by omega)];rfl
 obtain ⟨x1,g1,g2⟩:=hx.get e1
 obtain ⟨y1,g3,g4⟩:=hy.get e2
 obtain ⟨u1,g5,g6⟩:=rv.get g1
 obtain ⟨v1,g7,g8⟩:=o8.get g3
 have q1:its.toArray[j]=u1:=by
  have:its[j]=u1:=Option.some.inj ((Tq (by omega)).symm.trans g5)
  simpa using this
 have q2:its2.toArray[j]=v1:=by
  have:its2[j]=v1:=Option.some.inj ((Tq (by omega)).symm.trans g7)
  simpa using this
 rw [q1,q2]
 exact BX ok n A _ _ x1 y1 u1 v1 hu (o7 pd e1) (o7 pe e2) g2 g4 g6 g8
theorem pO (hu:X.A.units+64 < cLine):lJ X (compareOp .Eq) Nc:=by
 constructor
 intro pins s σ H M x y d e v u Q I rm rx ry dx dy ⟨hk,q⟩
 by_cases ht:∃ ds es,d= .tup ds∧e= .tup es
 ·obtain ⟨ds,es,rfl,rfl⟩:=ht
  have hk:(plain 10 (.tup ds) && plain 10 (.tup es))=true:=hk
  rw [UU] at hk
  obtain ⟨a,xs,rfl,ha,hx⟩:=aU.mp dx
  obtain ⟨b,ys,rfl,hb,hy⟩:=aU.mp dy
  obtain rfl:v=Value.ref a:=rx
  obtain rfl:u=Value.ref b:=ry
  obtain ⟨its,rv,pt,hz⟩:=dc I.hok ha
  obtain ⟨its2,o8,Br,hz2⟩:=dc I.hok hb
  have hl1:=hx.length.trans rv.length
  have hl2:=hy.length.trans o8.length
  refine SeqAt.RcAt.tuples (A:=X.A) (s:=s) (e:=fun j=>dM (ds.getD j .bz) (es.getD j .bz)) pt Br (by omega) (jA I.hok (n:=9) (by show X.A.units+1+9 < cLine;omega) (by simpa [plain] using hk.1) (by simpa [plain] using hk.2) hx hy rv o8) _ _ _ _ ?_
  refine ⟨.bl _,H,I,rfl,aD rm (aY.mpr rfl) ?_⟩
  simp only [Tv,← hl1,← hl2]
  rw [iY,ff] at q
  exact q
 ·have hs:BY d e=true:=by
   unfold Eu at hk
   split at hk
   ·exact absurd ⟨_,_,rfl,rfl⟩ ht
   ·exact hk
  obtain ⟨h1,h2⟩:=BZ hs dx dy
  exact JA pins s σ H x y v u _ I rx ry ⟨h1,by rw [h2];exact aD rm (aY.mpr rfl) q⟩
theorem AH (hu:X.A.units+64 < cLine):lJ X (compareOp .NotEq) Nd:=by
 constructor
 intro pins s σ H M x y d e v u Q I rm rx ry dx dy ⟨hk,q⟩
 by_cases ht:∃ ds es,d= .tup ds∧e= .tup es
 ·obtain ⟨ds,es,rfl,rfl⟩:=ht
  have hk:(plain 10 (.tup ds) && plain 10 (.tup es))=true:=hk
  rw [UU] at hk
  obtain ⟨a,xs,rfl,ha,hx⟩:=aU.mp dx
  obtain ⟨b,ys,rfl,hb,hy⟩:=aU.mp dy
  obtain rfl:v=Value.ref a:=rx
  obtain rfl:u=Value.ref b:=ry
  obtain ⟨its,rv,pt,hz⟩:=dc I.hok ha
  obtain ⟨its2,o8,Br,hz2⟩:=dc I.hok hb
  have hl1:=hx.length.trans rv.length
  have hl2:=hy.length.trans o8.length
  refine SeqAt.RcNeAt.tuples (A:=X.A) (s:=s) (e:=fun j=>dM (ds.getD j .bz) (es.getD j .bz)) pt Br (by omega) (jA I.hok (n:=9) (by show X.A.units+1+9 < cLine;omega) (by simpa [plain] using hk.1) (by simpa [plain] using hk.2) hx hy rv o8) _ _ _ _ ?_
  refine ⟨.bl _,H,I,rfl,aD rm (aY.mpr rfl) ?_⟩
  simp only [Tv,← hl1,← hl2]
  rw [iY,ff] at q
  exact q
 ·have hs:BY d e=true:=by
   unfold Eu at hk
   split at hk
   ·exact absurd ⟨_,_,rfl,rfl⟩ ht
   ·exact hk
  obtain ⟨h1,h2⟩:=BZ hs dx dy
  exact JB pins s σ H x y v u _ I rx ry ⟨h1,by rw [h2];exact aD rm (aY.mpr rfl) q⟩
noncomputable def LI (K:PySem.W.Frag) (H:Hp) (v:V):D:=open Classical in if h:∃ d,plain 9 d=true∧Dat K H d v then h.choose else .bz
theorem Hq {K:PySem.W.Frag} {d:D} {v:V} (p:plain 9 d=true) (h:Dat K H d v):LI K H v=d:=by
 have hx:∃ d,plain 9 d=true∧Dat K H d v:=⟨d,p,h⟩
 unfold LI
 rw [dif_pos hx]
 exact Dat.inj 9 _ _ v hx.choose_spec.1 p hx.choose_spec.2 h
noncomputable def xH (K:PySem.W.Frag) (H:Hp) (d:D) (u:Value):Bool:=match Jq u with
 | some v=>dM (LI K H v) d
 | none=>false
theorem B0 {K:PySem.W.Frag} {d e:D} {v:V} {u:Value} (p:plain 9 e=true) (h:Dat K H e v) (r:RelV v u):xH K H d u=dM e d:=by
 unfold xH
 rw [r.abs]
 show dM (LI K H v) d=_
 rw [Hq p h]
theorem lK {K:PySem.W.Frag} {d:D}:∀ {es:List D} {xs:List V} {us:List Value},aB K H es xs→Vals xs us→es.all (plain 9)=true→us.any (xH K H d)=es.any fun e=>dM e d
 | [],xs,us,h,r,_=>by rw [aE.mp h] at r;cases r;rfl
 | e :: es,xs,us,h,r,p=>by
   obtain ⟨v,vs,rfl,h1,h2⟩:=aA.mp h
   cases r with
   | cons r rr=>
     rw [VF,UU] at p
     rw [VG,VG,B0 p.1 h1 r,lK h2 rr p.2]
theorem lM {P:Program} {w:World} (ok:iX P w H s.heap) {K:PySem.W.Frag} {A:Around} {d:D} {x:V} {v:Value} (hu:A.units+9 < cLine) (pd:plain 9 d=true) (dx:Dat K H d x) (rx:RelV x v) :
 ∀ {es:List D} {xs:List V} {us:List Value},aB K H es xs→Vals xs us→es.all (plain 9)=true→∀ u∈us,SeqAt.EqAt A s u v (xH K H d u)
 | [],xs,us,h,r,_,u,hm=>by rw [aE.mp h] at r;cases r;cases hm
 | e :: es,xs,us,h,r,p,u,hm=>by
   obtain ⟨y,ys,rfl,h1,h2⟩:=aA.mp h
   cases r with
   | cons r rr=>
     rw [VF,UU] at p
     rcases Tp.mp hm with rfl | hm
     ·rw [B0 p.1 h1 r]
      exact BX ok 9 A _ _ _ _ _ _ hu p.1 pd h1 dx r rx
     ·exact lM ok hu pd dx rx h2 rr p.2 u hm
def inD (d:D) (es:List D):Bool:=es.any fun e=>dM e d
def JX (M:Mp) (e:D) (es:List D):Prop:=e= .tup es∨∃ a,e= .ref a∧M a=some (.lst es)
def JY (neg:Bool):R3:=fun d e M Q=> ∃ es,JX M e es∧plain 9 d=true∧es.all (plain 9)=true∧Q (.bl (if neg then !inD d es else inD d es)) M
theorem Ew (hu:X.A.units+64 < cLine):lJ X (compareOp .In) (JY false):=by
 constructor
 intro pins s σ H M x y d e v u Q I rm rx ry dx dy ⟨es,hs,pd,pe,q⟩
 rcases hs with rfl | ⟨a,rfl,hM⟩
 ·obtain ⟨b,ys,rfl,hb,hy⟩:=aU.mp dy
  obtain rfl:u=Value.ref b:=ry
  obtain ⟨its,rv,pt,hz⟩:=dc I.hok hb
  refine SeqAt.in_tupleAt (xH X.K H d) pt (fun w hw=>lM I.hok (by show X.A.units+1+9 < cLine;omega) pd dx rx hy rv pe w (by simpa using hw)) ⟨.bl _,H,I,rfl,aD rm (aY.mpr rfl) ?_⟩
  rw [show its.toArray.any (xH X.K H d)=its.any (xH X.K H d) by simp,lK hy rv pe]
  exact q
 ·obtain rfl:=aH.mp dy
  obtain rfl:u=Value.ref a:=ry
  obtain ⟨ys,hb,hy⟩:=rm.lst hM
  obtain ⟨its,rv,pl,hz⟩:=I.list (iE.of hb)
  refine SeqAt.in_listAt (xH X.K H d) pl.isList (fun w hw=>lM I.hok (by show X.A.units+1+9 < cLine;omega) pd dx rx hy rv pe w (by simpa using hw)) ⟨.bl _,H,I,rfl,aD rm (aY.mpr rfl) ?_⟩
  rw [show its.toArray.any (xH X.K H d)=its.any (xH X.K H d) by simp,lK hy rv pe]
  exact q
theorem j8 (hu:X.A.units+64 < cLine):lJ X (compareOp .NotIn) (JY true):=by
 constructor
 intro pins s σ H M x y d e v u Q I rm rx ry dx dy ⟨es,hs,pd,pe,q⟩
 rcases hs with rfl | ⟨a,rfl,hM⟩
 ·obtain ⟨b,ys,rfl,hb,hy⟩:=aU.mp dy
  obtain rfl:u=Value.ref b:=ry
  obtain ⟨its,rv,pt,hz⟩:=dc I.hok hb
  refine SeqAt.notIn_tupleAt (xH X.K H d) pt (fun w hw=>lM I.hok (by show X.A.units+1+9 < cLine;omega) pd dx rx hy rv pe w (by simpa using hw)) ⟨.bl _,H,I,rfl,aD rm (aY.mpr rfl) ?_⟩
  rw [show its.toArray.any (xH X.K H d)=its.any (xH X.K H d) by simp,lK hy rv pe]
  exact q
 ·obtain rfl:=aH.mp dy
  obtain rfl:u=Value.ref a:=ry
  obtain ⟨ys,hb,hy⟩:=rm.lst hM
  obtain ⟨its,rv,pl,hz⟩:=I.list (iE.of hb)
  refine SeqAt.notIn_listAt (xH X.K H d) pl.isList (fun w hw=>lM I.hok (by show X.A.units+1+9 < cLine;omega) pd dx rx hy rv pe w (by simpa using hw)) ⟨.bl _,H,I,rfl,aD rm (aY.mpr rfl) ?_⟩
  rw [show its.toArray.any (xH X.K H d)=its.any (xH X.K H d) by simp,lK hy rv pe]
  exact q
theorem m5 {K:PySem.W.Frag}:∀ {ns:List Int} {xs:List V},aB K H (ns.map D.int) xs→xs=ns.map V.int
 | [],xs,h=>aE.mp h
 | n :: ns,xs,h=>by
   obtain ⟨v,vs,rfl,h1,h2⟩:=aA.mp h
   rw [aJ.mp h1,m5 h2];rfl
def JI:R3:=fun d e M Q=> ∃ ns ms:List Int,d= .tup (ns.map D.int)∧e= .tup (ms.map D.int)∧Q (.bl (HT.lexLt ns ms)) M
theorem JZ (hu:X.A.units+64 < cLine):lJ X (compareOp .Lt) JI:=by
 constructor
 intro pins s σ H M x y d e v u Q I rm rx ry dx dy ⟨ns,ms,e1,e2,q⟩
 subst e1;subst e2
 obtain ⟨a,xs,rfl,ha,hx⟩:=aU.mp dx
 obtain ⟨b,ys,rfl,hb,hy⟩:=aU.mp dy
 obtain rfl:v=Value.ref a:=rx
 obtain rfl:u=Value.ref b:=ry
 obtain ⟨its,rv,pt,hz⟩:=dc I.hok ha
 obtain ⟨its2,o8,Br,hz2⟩:=dc I.hok hb
 rw [m5 hx] at rv
 rw [m5 hy] at o8
 exact HT.kZ pt Br (by simpa using intsAre_of rv) (by simpa using intsAre_of o8) (by omega) ⟨.bl _,H,I,rfl,aD rm (aY.mpr rfl) q⟩
end
end L3
namespace L3
open PySem PySem.Spec PyProof.Rows L2
section
variable {X:Cx} {a b c e:Expr} {es:List Expr} {ta tb tc te:cK} {t:rD} {pos p:Pos}
def J0:rD:=fun _ M Q=>Q [] M
def Hr (ta:cK) (tr:rD):rD:=fun ρ M Q=>ta ρ M fun x M1=>tr ρ M1 fun xs M2=>Q (x :: xs) M2
theorem ao:x6 X [] J0:=⟨fun pos pins s σ H ρ M Q I r h=>uq pos pins s σ H _ I ⟨[],M,.refl _ _,aE.mpr rfl,r.mem,h⟩⟩
theorem aa (ha:cG X e te) (hr:x6 X es t) (hs:starEach (e :: es) X.env=(false,eval e X.env) :: starEach es X.env:=by rfl):x6 X (e :: es) (Hr te t):=⟨fun pos pins s σ H ρ M Q I r h=>
 o4 ha.dn hr.dn hs pos pins s σ H _ I (dF r h fun v H' d M' f dv r' q=>jz r' q fun vs H2 ds M2 f2 Bp r2 q2=>
  ⟨d :: ds,M2,f.trans f2,aA.mpr ⟨v,vs,rfl,Dat.mono (f2.ext r'.mem) _ _ dv,Bp⟩,r2.mem,q2⟩)⟩
def J1 (t:rD):cK:=fun ρ M Q=>t ρ M fun xs M1=>xs.length≤sizeLine∧Q (.tup xs) M1
def J2 (t:rD):cK:=fun ρ M Q=>t ρ M fun xs M1=>xs.length≤sizeLine∧∀ p,M1 p=none→Q (.ref p) (av M1 p (.lst xs))
theorem cH {x1} (h:x6 X es t):cG X (.Tuple es x1 pos) (J1 t):=up (G5 h.dn) fun σ H ρ M Q r q=>jz r q fun vs H' ds M' f dv r' ⟨hl,q⟩=>
 ⟨by rw [← dv.length];exact hl,fun p hp=>⟨.tup ds,M',f.trans (Fr.new hp fun _ _=>rfl),aU.mpr ⟨p,vs,rfl,bN,aB.mono (Ext.new hp) _ _ dv⟩,r'.mem.new hp,q⟩⟩
theorem dG (h:x6 X es t):cG X (.List es pos) (J2 t):=up (xX h.dn) fun σ H ρ M Q r q=>jz r q fun vs H' ds M' f dv r' ⟨hl,q⟩=>
 ⟨by rw [← dv.length];exact hl,fun p hp=>⟨.ref p,av M' p (.lst ds),f.trans (Fr.new hp fun _ hb=>aZ hb),aH.mpr rfl,r'.mem.newL hp dv,q p (r'.mem.free hp)⟩⟩
def J3 (M:Mp) (e:D) (es:List D):Prop:=e= .tup es∨e= .zA es∨∃ a,e= .ref a∧M a=some (.lst es)
def Nf:R3:=fun d e M Q=> ∃ xs i z,J3 M d xs∧e= .int i∧rC xs i=some z∧Q z M
theorem Hs {α β:Type} {xs:List α} {ys:List β} (h:xs.length=ys.length) {i:Int} {z:α} (e:rC xs i=some z):∃ j,Bq ys.length i=some j∧xs[j]?=some z:=by
 unfold rC at e
 rw [h] at e
 cases q:Bq ys.length i with
 | none=>rw [q] at e;cases e
 | some j=>rw [q] at e;exact ⟨j,rfl,e⟩
theorem pP {K:PySem.W.Frag} {H:Hp} {ds:List D} {xs:List V} (h:aB K H ds xs) {i:Int} {z:D} (e:rC ds i=some z):∃ v,rC xs i=some v∧Dat K H z v:=by
 obtain ⟨j,h1,h2⟩:=Hs h.length e
 obtain ⟨v,h3,h4⟩:=h.get h2
 refine ⟨v,?_,h4⟩
 unfold rC
 rw [h1]
 exact h3
theorem aP (ha:cG X a ta) (hb:cG X b tb) (hs:zu b:=by intro _ _;rfl):cG X (.Subscript a b pos) (Et Nf ta tb):=up (JJ (Eo.or G9) ha.dn hb.dn hs) fun σ H ρ M Q r q=>
 dF r q fun v H' d M' f dv r' q=>dF r' q fun u H2 e M2 f2 du r2 ⟨xs,i,z,hq,ei,at',q⟩=>by
  subst ei
  obtain rfl:=aJ.mp du
  have J4:=Dat.mono (f2.ext r'.mem) _ _ dv
  have fin:∀ w,Dat X.K H2 z w→Post X.K M H Q w H2:=fun w dw=>⟨z,M2,f.trans f2,dw,r2.mem,q⟩
  rcases hq with rfl | rfl | ⟨l,rfl,hl⟩
  ·obtain ⟨p,ys,rfl,hp,hy⟩:=aU.mp J4
   obtain ⟨w,h1,h2⟩:=pP hy at'
   exact .inr ⟨p,ys,i,w,rfl,rfl,rH.of hp,h1,fin w h2⟩
  ·obtain ⟨p,ys,rfl,hp,hy⟩:=o6.mp J4
   obtain ⟨w,h1,h2⟩:=pP hy at'
   exact .inl ⟨p,ys,i,w,rfl,rfl,hp.sq,h1,fin w h2⟩
  ·obtain rfl:=aH.mp J4
   obtain ⟨ys,hp,hy⟩:=r2.mem.lst hl
   obtain ⟨w,h1,h2⟩:=pP hy at'
   exact .inl ⟨l,ys,i,w,rfl,rfl,iE.of hp,h1,fin w h2⟩
structure Call3 (X:Cx) (f:Value) (t:List D→Mp→DK→Prop):Prop where
 run:∀ (pins:List (Addr ×Obj)) (s:Shared) (σ:St) (H:Hp) (M:Mp) (xs:List V) (ds:List D) (us:List Value) (Q:DK),Inv X pins σ H s→bC X.K H M→Vals xs us→aB X.K H ds xs→t ds M Q→
  wpAny (model X.prog X.w) X.A (call f us) (EP X pins σ (Post X.K M H Q)) X.xe s
theorem B3 {f:Value} {r:List V→Hp→VK→Prop} {t:List D→Mp→DK→Prop} (h:zg X f r) (g:∀ H M xs ds Q,bC X.K H M→aB X.K H ds xs→t ds M Q→r xs H (Post X.K M H Q)):Call3 X f t:=
 ⟨fun pins s σ H M xs ds us Q I rm rs dx q=>h pins s σ H xs us _ I rs (g H M xs ds Q rm dx q)⟩
def J5 (r:List D→Mp→DK→Prop) (t:rD):cK:=fun ρ M Q=>t ρ M fun ds M1=>r ds M1 Q
variable {x:Str} {id T:String} {r:List D→Mp→DK→Prop}
theorem b9 (hc:Call3 X (.builtin id) r) (hg:Gl X x) (hm:X.mg x=none) (hv:bootBuiltins x=some (.builtin id)) (ha:x6 X (e :: es) t) (hn:x≠"__name__" :=by decide) (hdb:(x == ("__debug__" :Str))=false:=by decide)
 (he:starEach (e :: es) X.env=(false,eval e X.env) :: starEach es X.env:=by rfl) (hpl:(backTo pos (starEach es X.env)).any (·.1)=false:=by rfl):cG X (.Call (.Name x p) (e :: es) [] pos) (J5 r t):=by
 constructor
 intro pins s σ H ρ M Q I r h
 refine wpAny_Call_Name_kw (jv I hg hm hv ?_ hn hdb)
 refine PyProof.Rows.callWith_builtin1 (cF (ha.run pos pins s σ H ρ M _ I r h) fun us s1 ⟨vs,H1,I1,r1,ds,M1,f1,d1,mT,q1⟩=>?_) he hpl
 exact cF (hc.run pins s1 σ H1 M1 vs ds us Q I1 mT r1 d1 q1) fun _ _ ⟨z,H3,I3,r3,p⟩=>⟨z,H3,I3,r3,p.back f1⟩
theorem Ge (hc:Call3 X (.type T) r) (hg:Gl X x) (hm:X.mg x=none) (hv:bootBuiltins x=some (.type T)) (ha:x6 X (e :: es) t) (hn:x≠"__name__" :=by decide) (hdb:(x == ("__debug__" :Str))=false:=by decide)
 (he:starEach (e :: es) X.env=(false,eval e X.env) :: starEach es X.env:=by rfl) (hpl:(backTo pos (starEach es X.env)).any (·.1)=false:=by rfl):cG X (.Call (.Name x p) (e :: es) [] pos) (J5 r t):=by
 constructor
 intro pins s σ H ρ M Q I r h
 refine wpAny_Call_Name_kw (jv I hg hm hv ?_ hn hdb)
 refine PyProof.Rows.callWith_type1 (cF (ha.run pos pins s σ H ρ M _ I r h) fun us s1 ⟨vs,H1,I1,r1,ds,M1,f1,d1,mT,q1⟩=>?_) he hpl
 exact cF (hc.run pins s1 σ H1 M1 vs ds us Q I1 mT r1 d1 q1) fun _ _ ⟨z,H3,I3,r3,p⟩=>⟨z,H3,I3,r3,p.back f1⟩
theorem pQ {K:PySem.W.Frag} {H:Hp} {d:D} {xs:List V} (h:aB K H [d] xs):∃ v,xs= [v]∧Dat K H d v:=by
 obtain ⟨v,vs,rfl,h1,h2⟩:=aA.mp h
 rw [aE.mp h2]
 exact ⟨v,rfl,h1⟩
theorem zC {K:PySem.W.Frag} {H:Hp} {d e:D} {xs:List V} (h:aB K H [d,e] xs):∃ v u,xs= [v,u]∧Dat K H d v∧Dat K H e u:=by
 obtain ⟨v,vs,rfl,h1,h2⟩:=aA.mp h
 obtain ⟨u,rfl,h3⟩:=pQ h2
 exact ⟨v,u,rfl,h1,h3⟩
def Ng:List D→Mp→DK→Prop:=fun ds M Q=> ∃ d xs,ds= [d]∧J3 M d xs∧Q (.int xs.length) M
theorem kL:Call3 X (.builtin "len") Ng:=B3 uu fun H M xs ds Q rm dx ⟨d,ys,ei,hs,q⟩=>by
 subst ei
 obtain ⟨v,rfl,hv⟩:=pQ dx
 rcases hs with rfl | rfl | ⟨l,rfl,hl⟩
 ·obtain ⟨p,zs,rfl,hp,hz⟩:=aU.mp hv
  exact ⟨p,zs,rfl,.inr (rH.of hp),aD rm (aJ.mpr (by rw [hz.length])) q⟩
 ·obtain ⟨p,zs,rfl,hp,hz⟩:=o6.mp hv
  exact ⟨p,zs,rfl,.inl hp.sq,aD rm (aJ.mpr (by rw [hz.length])) q⟩
 ·obtain rfl:=aH.mp hv
  obtain ⟨zs,hp,hz⟩:=rm.lst hl
  exact ⟨l,zs,rfl,.inl (iE.of hp),aD rm (aJ.mpr (by rw [hz.length])) q⟩
def J6:List D→Mp→DK→Prop:=fun ds M Q=> ∃ i j:Int,ds= [.int i,.int j]∧Q (.int (max i j)) M
theorem Hu (hc:X.calm=true):Call3 X (.builtin "max") J6:=B3 (Az hc) fun H M xs ds Q rm dx ⟨i,j,ei,q⟩=>by
 subst ei
 obtain ⟨v,u,rfl,hv,hu⟩:=zC dx
 obtain rfl:=aJ.mp hv
 obtain rfl:=aJ.mp hu
 refine ⟨i,j,rfl,aD rm (aJ.mpr rfl) ?_⟩
 have e:(if j > i then j else i)=max i j:=by split <;> omega
 rw [e]
 exact q
inductive B4 (M:Mp):D→String→Prop where
 | bz:B4 M .bz "NoneType"
 | bl (b:Bool):B4 M (.bl b) "bool"
 | int (i:Int):B4 M (.int i) "int"
 | str (x:Str):B4 M (.str x) "str"
 | tup (ds:List D):B4 M (.tup ds) "tuple"
 | lst {a:Addr} {ds:List D} (h:M a=some (.lst ds)):B4 M (.ref a) "list"
 | dct:B4 M (.Hj "dict") "dict"
def Nh (K:PySem.W.Frag):List D→Mp→DK→Prop:=fun ds M Q=> ∃ d n m b,ds= [d,.ty m]∧B4 M d n∧PySem.W.kitOne K (.type n) (.type m)=some b∧Q (.bl b) M
theorem sS:Call3 X (.builtin "isinstance") (Nh X.K):=by
 constructor
 intro pins s σ H M xs ds us Q I rm rs dx ⟨d,n,m,b,ei,ty,hk,q⟩
 subst ei
 obtain ⟨v,u,rfl,hv,hu⟩:=zC dx
 obtain rfl:=BP.mp hu
 obtain ⟨v',u',rfl,r1,r2⟩:=vals2 rs
 obtain rfl:u'=Value.type m:=r2
 have fin:∀ tk,EP X pins σ (Post X.K M H Q) (.bool b) { s with toks:=tk }:=fun tk=>⟨.bl b,H,I.tok tk,rfl,aD rm (aY.mpr rfl) q⟩
 cases ty with
 | bz=>obtain rfl:=c8.mp hv;exact fS I r1 .bz hk fin
 | bl k=>obtain rfl:=aY.mp hv;exact fS I r1 (.bl k) hk fin
 | int i=>obtain rfl:=aJ.mp hv;exact fS I r1 (.int i) hk fin
 | str z=>obtain rfl:=gH.mp hv;exact fS I r1 (.str z) hk fin
 | tup zs=>
   obtain ⟨p,ys,rfl,hp,hy⟩:=aU.mp hv
   exact fS I r1 (.tup hp) hk fin
 | lst hM=>
   obtain rfl:=aH.mp hv
   obtain ⟨ys,hp,hy⟩:=rm.lst hM
   exact fS I r1 (.lst hp) hk fin
 | dct=>
   obtain ⟨p,o,u,rfl,hp,hc⟩:=Es.mp hv
   cases (show v'=Value.ref p from r1)
   obtain ⟨h1,_⟩:=(show cy X.prog X.w H s.heap p (.kW o u) from I.hok p _ hp)
   exact PySem.W.kia_one PySem.W.kitx_dict I.vQ ⟨o,h1,hc⟩ hk (fun z=>nomatch z) fin
abbrev uD:=List D→(D→Prop)→Prop
def sU (K:PySem.W.Frag) (S:uD):Sp:=fun vs H Q _=> ∃ ds Q0,aB K H ds vs∧S ds Q0∧∀ d v H',Q0 d→Dat K H' d v→(∀ b o,H b=some o→H' b=some o)→Q v H'
abbrev x8:=List D→Mp→DK→Prop
def AI (K:PySem.W.Frag) (S:x8):Sp:=fun vs H Q _=> ∃ ds M Q0,aB K H ds vs∧bC K H M∧S ds M Q0∧∀ d M' v H',Q0 d M'→Dat K H' d v→bC K H' M'→Fr M H M' H'→Q v H'
theorem lN {K:PySem.W.Frag} {H:Hp} {ds:List D} {vs:List V} (h:aB K H ds vs):aB K H ds (vs ++ []):=by simpa using h
theorem Ext.keep {H H':Hp} (h:∀ b o,H b=some o→H' b=some o):Ext H H':=⟨fun b _ e=>h b _ e,fun b _ _ e=>h b _ e⟩
theorem bC.keep {K:PySem.W.Frag} {H H':Hp} {M:Mp} (r:bC K H M) (h:∀ b o,H b=some o→H' b=some o):bC K H' M:=fun a o e=>(r a o e).mono (Ext.keep h) fun u q=>h _ _ q
variable {k:Nat} {f:Addr} {fd:FuncData} {ps:List Str}
def Hv (S:uD) (t:rD):cK:=fun ρ M Q=>t ρ M fun ds M1=>S ds fun d=>Q d M1
def Hw (S:x8) (t:rD):cK:=fun ρ M Q=>t ρ M fun ds M1=>S ds M1 Q
theorem aF {S:uD} (F:cE X.prog X.w X.K X.mg X.base iF k f fd ps (sU X.K S)) (hr:gR k X.A) (hg:Gl X x) (hm:X.mg x=some (.ref f)) (hk:PySem.W.keepIn X.K (.ref f)=true) (hb:Binds X.K fd ps [])
 (ha:x6 X (e :: es) t) (hdb:(x == ("__debug__" :Str))=false:=by decide) (he:starEach (e :: es) X.env=(false,eval e X.env) :: starEach es X.env:=by rfl) (hpl:(backTo pos (starEach es X.env)).any (·.1)=false:=by rfl) :
 cG X (.Call (.Name x p) (e :: es) [] pos) (Hv S t):=
 up (zl (Bp:=[]) (E:=E0) F hr hg hm hk hb .nil FY ha.dn hdb he hpl) fun σ H ρ M Q r q=>jz r q fun vs H' ds M' f dv r' q=>
  ⟨ds,_,lN dv,q,fun d v H2 q2 d2 kp=>⟨d,M',f.trans fun b o n e=>⟨kp b o e,n⟩,d2,r'.mem.keep kp,q2⟩⟩
theorem dg {S:x8} (F:cE X.prog X.w X.K X.mg X.base iF k f fd ps (AI X.K S)) (hr:gR k X.A) (hg:Gl X x) (hm:X.mg x=some (.ref f)) (hk:PySem.W.keepIn X.K (.ref f)=true) (hb:Binds X.K fd ps [])
 (ha:x6 X (e :: es) t) (hdb:(x == ("__debug__" :Str))=false:=by decide) (he:starEach (e :: es) X.env=(false,eval e X.env) :: starEach es X.env:=by rfl) (hpl:(backTo pos (starEach es X.env)).any (·.1)=false:=by rfl) :
 cG X (.Call (.Name x p) (e :: es) [] pos) (Hw S t):=
 up (zl (Bp:=[]) (E:=E0) F hr hg hm hk hb .nil FY ha.dn hdb he hpl) fun σ H ρ M Q r q=>jz r q fun vs H' ds M' f dv r' q=>
  ⟨ds,M',_,lN dv,r'.mem,q,fun d M2 v H2 q2 d2 JQ f2=>⟨d,M2,f.trans f2,d2,JQ,q2⟩⟩
end
section
variable {X:Cx} {st:Stmt} {rest:List Stmt} {t u:iH} {e:Expr} {te:cK} {pos:Pos}
def Hx:iH:=fun D ρ M=>D.nx ρ M
def J7 (t u:iH):iH:=fun D ρ M=>t { D with nx:=u D } ρ M
theorem uz.dn {st:Stmt} {t:iH} (h:uz X st t):PS X st (LF X.K t):=fun pins s σ H D' I ⟨ρ,M,D,r,q,k1,k2,k3,k4⟩=>
 cF (h.run pins s σ H ρ M D I r q) fun f s' z=>by
  cases f with
  | next=>obtain ⟨σ',H',I',p⟩:=z;exact ⟨σ',H',I',k1 _ _ p⟩
  | brk=>obtain ⟨σ',H',I',p⟩:=z;exact ⟨σ',H',I',k3 _ _ p⟩
  | cont=>obtain ⟨σ',H',I',p⟩:=z;exact ⟨σ',H',I',k4 _ _ p⟩
  | ret u=>obtain ⟨v,σ',H',I',rv,p⟩:=z;exact ⟨v,σ',H',I',rv,k2 _ _ p⟩
theorem Hy {sts:List Stmt} {te:TS} {t:iH} (h:xT X sts te) (g:∀ σ H ρ M D,Rep X.K H σ ρ M→t D ρ M→te (ends X.K M H D) σ H):iJ X sts t:=
 ⟨fun pins s σ H ρ M D I r q=>h pins s σ H _ I (g σ H ρ M D r q)⟩
theorem lP {K:PySem.W.Frag} {M0:Mp} {H0:Hp} {σ:St} {H:Hp} {ρ:En} {M:Mp} {D:Ga} {t:iH} (f:Fr M0 H0 M H) (r:Rep K H σ ρ M) (q:t D ρ M):LF K t (ends K M0 H0 D) σ H:=
 ⟨ρ,M,D,r,q,fun _ _ p=>p.back f,fun _ _ p=>p.back f,fun _ _ p=>p.back f,fun _ _ p=>p.back f⟩
theorem bK:iJ X [] Hx:=Hy D8 fun σ H ρ M D r q=>⟨ρ,M,.refl _ _,r,q⟩
theorem au (h1:uz X st t) (h2:iJ X rest u):iJ X (st :: rest) (J7 t u):=Hy (BA h1.dn h2.dn) fun σ H ρ M D r q=>
 ⟨ρ,M,_,r,q,fun σ' H' ⟨ρ',M',f,r',q'⟩=>lP f r' q',fun _ _ p=>p,fun _ _ p=>p,fun _ _ p=>p⟩
theorem aC (h1:uz X st t):iJ X [st] t:=Hy (D9 h1.dn) fun σ H ρ M D r q=>lP (.refl _ _) r q
def Hz (te:cK):iH:=fun D ρ M=>te ρ M fun _ M1=>D.nx ρ M1
theorem uE (he:cG X e te) (hs:swapsWith e none pos.line X.env=pure false:=by rfl):uz X (.Expr e pos) (Hz te):=BR (Ea he.dn hs) fun σ H ρ M D r q=>dF r q fun v H' d M' f dv r' q=>⟨ρ,M',f,r',q⟩
def J8 (te:cK):iH:=fun D ρ M=>te ρ M D.rt
theorem aN (he:cG X e te):uz X (.Return (some e) pos) (J8 te):=BR (GR he.dn) fun σ H ρ M D r q=>⟨ρ,M,_,r,q,fun _ _ p=>p⟩
def J9 (c:lG) (t u:iH):iH:=fun D ρ M=>c ρ M fun b M1=>if b=true then t D ρ M1 else u D ρ M1
theorem cY {c:Expr} {a b:List Stmt} {tc:lG} (hc:xG X c tc) (ha:iJ X a t) (hb:iJ X b u):uz X (.If c a b pos) (J9 tc t u):=BR (Jt hc.dn ha.dn hb.dn) fun σ H ρ M D r q=>mY r q fun k H' M' f r' q=>by
 cases k with
 | true=>exact lP f r' q
 | false=>exact lP f r' q
def Ex:iH:=fun _ _ _=>False
theorem zD:uz X st Ex:=⟨fun _ _ _ _ _ _ _ _ _ h=>h.elim⟩
def Gf (i:Nat) (te:cK):iH:=fun D ρ M=>te ρ M fun x M1=>D.nx (ρ.set i (some x)) M1
theorem aW {i:Nat} {x:Str} {pos':Pos} (hN:X.N.Nodup) (hi:X.N[i]?=some x) (hx:Loc X.env.scope x) (he:cG X e te) (hs:swapsWith e (some (.Name x pos')) pos.line X.env=pure false:=by rfl) (hf:X.fn x=true∨X.env.scope.names.lookup x=some .local:=by first | exact .inl rfl | exact .inr rfl | assumption) :
 uz X (.Assign [.Name x pos'] e pos) (Gf i te):=BR (GU hN hi hx he.dn hs hf) fun σ H ρ M D r q=>dF r q fun v H' d M' f dv r' q=>⟨ρ.set i (some d),M',f,r'.set dv,q⟩
abbrev rE:=D→En→Mp→(En→Mp→Prop)→Prop
abbrev x9:=List D→En→Mp→(En→Mp→Prop)→Prop
structure AJ (X:Cx) (target:Expr) (t:rE):Prop where
 run:∀ (pins:List (Addr ×Obj)) (s:Shared) (σ:St) (H:Hp) (ρ:En) (M:Mp) (v:V) (d:D) (u:Value) (Q:En→Mp→Prop),Inv X pins σ H s→Rep X.K H σ ρ M→RelV v u→Dat X.K H d v→t d ρ M Q→
  wpAny (model X.prog X.w) X.A (assign target X.env u) (fun _ s'=> ∃ σ' H',Inv X pins σ' H' s'∧iI X.K M H Q σ' H') X.xe s
structure Ey (X:Cx) (ts:List Expr) (t:x9):Prop where
 run:∀ (pins:List (Addr ×Obj)) (s:Shared) (σ:St) (H:Hp) (ρ:En) (M:Mp) (vs:List V) (ds:List D) (us:List Value) (Q:En→Mp→Prop),Inv X pins σ H s→Rep X.K H σ ρ M→Vals vs us→aB X.K H ds vs→t ds ρ M Q→
  wpAny (model X.prog X.w) X.A (assignInOrder ((assignEach ts X.env).map (·.2)) us) (fun _ s'=> ∃ σ' H',Inv X pins σ' H' s'∧iI X.K M H Q σ' H') X.xe s
def HA (i:Nat):rE:=fun d ρ M Q=>Q (ρ.set i (some d)) M
theorem bI {i:Nat} {x:Str} (hN:X.N.Nodup) (hi:X.N[i]?=some x) (hx:Loc X.env.scope x) (hf:X.fn x=true∨X.env.scope.names.lookup x=some .local:=by first | exact .inl rfl | exact .inr rfl | assumption):AJ X (.Name x pos) (HA i):=
 ⟨fun pins s σ H ρ M v d u Q I r rv dv q=>Ec hN hi hx hf pins s σ H v u _ I rv ⟨ρ.set i (some d),M,.refl _ _,r.set dv,q⟩⟩
def Ka:x9:=fun ds ρ M Q=>ds= []∧Q ρ M
def HB (t:rE) (u:x9):x9:=fun ds ρ M Q=> ∃ d r,ds=d :: r∧t d ρ M fun ρ' M'=>u r ρ' M' Q
theorem pR:Ey X [] Ka:=by
 constructor
 intro pins s σ H ρ M vs ds us Q I r rv dv ⟨e1,q⟩
 subst e1
 rw [aE.mp dv] at rv
 cases rv
 exact assignInOrder_nil ⟨σ,H,I,ρ,M,.refl _ _,r,q⟩
theorem cI {e:Expr} {es:List Expr} {t:rE} {u:x9} (h1:AJ X e t) (h2:Ey X es u)
 (hs:(assignEach (e :: es) X.env).map (·.2)=assign e X.env :: (assignEach es X.env).map (·.2):=by rfl):Ey X (e :: es) (HB t u):=by
 constructor
 intro pins s σ H ρ M vs ds us Q I r rv dv ⟨d,dr,e1,q⟩
 subst e1
 obtain ⟨v,vr,rfl,d1,d2⟩:=aA.mp dv
 cases rv with
 | cons rv rr=>
   rw [hs]
   refine assignInOrder_cons (cF (h1.run pins s σ H ρ M v d _ _ I r rv d1 q) fun _ s1 ⟨σ1,H1,I1,ρ1,M1,f1,r1,q1⟩=>?_)
   exact cF (h2.run pins s1 σ1 H1 ρ1 M1 vr dr _ Q I1 r1 rr (aB.mono (f1.ext r.mem) _ _ d2) q1) fun _ s2 ⟨σ2,H2,I2,p⟩=>⟨σ2,H2,I2,p.back f1⟩
def Kc (n:Nat) (t:x9):rE:=fun d ρ M Q=> ∃ xs,JX M d xs∧xs.length=n∧t xs ρ M Q
theorem AK {prog:Program} {w:World} {A:Around} {E:Value→Shared→Prop} {it l:Addr} {items:Array Value}:∀ (n i:Nat) (s:Shared) (Q:List Value→Shared→Prop),s.heap.IsListIter it l i→it≠l→s.heap.IsList l items→i+n≤items.size→
 (∀ h',h'.IsListIter it l (i+n)→Heap.SameBut it s.heap h'→Q ((items.toList.drop i).take n) { s with heap:=h' })→wpAny (model prog w) A (draw (.ref it) n) Q E s:=by
 intro n
 induction n with
 | zero=>
   intro i s Q hit _ hl hi hQ
   have:=hQ s.heap hit (.refl ..)
   rw [List.take_zero] at this
   exact wpAny_pure this
 | succ n ih=>
   intro i s Q hit hne hl hi hQ
   have hlt:i < items.size:=by omega
   show wpAny _ _ (pyNext (.ref it) >>= _) Q E s
   refine wpAny_bind (wpAny_pyNext_list_item hit hl (x:=items[i]) (by simp [hlt]) fun h₁ HC hs₁=>?_)
   refine wpAny_bind (wpAny_holding (ih (i+1) _ _ HC hne (hl.at fun o e=>hs₁.extBut _ o (Ne.symm hne) e) (by omega) fun h₂ Ni hs₂=>wpAny_pure ?_))
   have hd:items.toList.drop i=items[i] :: items.toList.drop (i+1):=by simp [Vr,hlt]
   have:=hQ h₂ (by rw [show i+(n+1)=i+1+n by omega];exact Ni) (hs₁.trans hs₂)
   rw [hd,List.take_succ_cons] at this
   exact this
theorem m6 {prog:Program} {w:World} {A:Around} {E:Value→Shared→Prop} {s:Shared} {t:Addr} {items:Array Value} {Q:List Value→Shared→Prop} (hh:A.handled=none) (ht:s.heap.IsList t items)
 (hQ:∀ h',Heap.ExtBut s.heap.objs.size s.heap h'→Q items.toList { s with heap:=h' }):wpAny (model prog w) A (unpackItems (.ref t) items.size none) Q E s:=by
 have hlt:t≠s.heap.objs.size:=by obtain ⟨o,ho,_⟩:=ht;exact Ue (Heap.lt_size ho)
 unfold unpackItems
 refine wpAny_bind ?_
 ·unfold notIterableAtAll
  refine wpAny_bind (wpAny_specialOf ht.typeIs slot_list_iter.lookup ?_)
  refine wpAny_pure ?_
  simp only [TH,if_false]
  refine wpAny_bind (wpAny_holding (wpAny_pyIter_list ht ?_))
  have ht0:(s.heap.push { cls:= .type "list_iterator",data:= .fields #[.ref t,rawInt 0] }).IsList t items:=by
   obtain ⟨o,ho,c,n,d⟩:=id ht
   exact ⟨o,Heap.get?_push_of_some _ ho,c,n,d⟩
  refine wpAny_bind (wpAny_holding (AK items.size 0 _ _ ⟨_,Heap.get?_push_size _ rfl,rfl,rfl⟩ (Ne.symm hlt) ht0 (by omega) fun h₁ HC hs₁=>?_))
  have hall:List.take items.size (List.drop 0 items.toList)=items.toList:=by
   rw [Ww];exact Wj (by simp)
  rw [hall]
  rw [if_neg (by simp)]
  have ht₁:h₁.IsList t items:=ht0.at fun o e=>hs₁.extBut _ o hlt e
  refine wpAny_bind (wpAny_holding (wpAny_pyNext_list_end hh HC ht₁ (by simp) fun h₂ Qk=>?_))
  simp only [Option.isSome_none,TH,if_false]
  refine wpAny_pure (hQ h₂ fun b o hb e=>Qk b o hb (hs₁.extBut b o hb (Heap.get?_push_of_some _ e)))
theorem wc {es:List Expr} {k:Nat} {t:x9} {n:Nat} (hc:X.calm=true) (h:Ey X es t)
 (hn:(assignEach es X.env).length=n:=by rfl) (hst:(assignEach es X.env).findIdx? (·.1)=none:=by rfl):AJ X (.Tuple es k pos) (Kc n t):=by
 constructor
 intro pins s σ H ρ M v d u Q I r rv dv ⟨xs,hq,hl,q⟩
 rcases hq with rfl | ⟨a,rfl,hM⟩
 ·obtain ⟨a,ys,rfl,ha,hy⟩:=aU.mp dv
  obtain rfl:u=Value.ref a:=rv
  obtain ⟨its,Kd,ht,hz⟩:=I.tuple (rH.of ha)
  refine assign_Tuple_tuple (I.ok.hd hc) ht (by simp [hn,← hl,hy.length,Kd.length]) hst fun h' hx=>?_
  have I1:Inv X pins σ H { s with heap:=h' }:=I.kept (t':=s.toks) fun b o e=>hx b o (Ue (Heap.lt_size e)) e
  exact h.run pins _ σ H ρ M ys xs _ Q I1 r (by simpa using Kd) hy q
 ·obtain rfl:=aH.mp dv
  obtain rfl:u=Value.ref a:=rv
  obtain ⟨ys,ha,hy⟩:=r.mem.lst hM
  obtain ⟨its,Kd,ht,hz⟩:=I.list (iE.of ha)
  rw [assign_Tuple]
  refine wpAny_bind (wpAny_standAt ?_)
  unfold unpack
  have hsz:(assignEach es X.env).length=its.toArray.size:=by simp [hn,← hl,hy.length,Kd.length]
  rw [hsz,hst]
  refine wpAny_bind (wpAny_holding (m6 (I.ok.hd hc) ht.isList fun h' hx=>?_))
  have I1:Inv X pins σ H { s with heap:=h' }:=I.kept (t':=s.toks) fun b o e=>hx b o (Ue (Heap.lt_size e)) e
  exact h.run pins _ σ H ρ M ys xs _ Q I1 r (by simpa using Kd) hy q
def Ke (te:cK) (g:rE):iH:=fun D ρ M=>te ρ M fun x M1=>g x ρ M1 D.nx
theorem B5 {tg e:Expr} {g:rE} (he:cG X e te) (hg:AJ X tg g) (hs:swapsWithSole [tg] e pos.line X.env=pure false:=by rfl) (hw:swappedStores [tg] e X.env=pure none:=by rfl)
 (h1:(assignEach [tg] X.env).map (·.2)= [assign tg X.env]:=by rfl):uz X (.Assign [tg] e pos) (Ke te g):=by
 constructor
 intro pins s σ H ρ M D I r h
 refine wpAny_Assign_stores (cF (he.run pins s σ H ρ M _ I r h) fun v s1 ⟨x,H1,I1,r1,d,M1,f1,d1,mT,q1⟩=>?_) hs hw
 rw [h1]
 exact cF (hg.run pins s1 σ H1 ρ M1 x d v _ I1 (r.go f1 mT) r1 d1 q1) fun _ s2 ⟨σ2,H2,I2,p⟩=>⟨σ2,H2,I2,p.back f1⟩
variable {o:Expr} {to:cK} {es:List Expr} {t3:rD} {apos:Pos}
@[irreducible] def bY (p:Prop):Prop:=p
theorem bY.mk {p:Prop} (h:p):bY p:=by unfold bY;exact h
theorem bY.out {p:Prop} (h:bY p):p:=by unfold bY at h;exact h
def Ez (c:lG) (tb:iH):iH:=fun D ρ M=> ∃ W:Nat→En→Mp→Prop,(∃ m,W m ρ M)∧∀ m ρ M,W m ρ M→
 c ρ M fun b M1=>if b=true then tb { D with nx:=fun ρ' M'=>bY (∃ m',m' < m∧W m' ρ' M'),ct:=fun ρ' M'=>bY (∃ m',m' < m∧W m' ρ' M'),bk:=D.nx } ρ M1 else D.nx ρ M1
theorem EA {c:Expr} {body:List Stmt} {tc:lG} {tb:iH} (hp:PassesOwn (model X.prog X.w) X.A X.env X.xe) (hc:xG X c tc) (hb:iJ X body tb):uz X (.While c body [] pos) (Ez tc tb):=BR (BB hp hc.dn hb.dn) fun σ H ρ M D r ⟨W,⟨m0,w0⟩,turn⟩=>by
 refine ⟨fun m σ' H'=> ∃ ρ' M',Fr M H M' H'∧Rep X.K H' σ' ρ' M'∧W m ρ' M',⟨m0,ρ,M,.refl _ _,r,w0⟩,?_⟩
 rintro m σ1 H1 ⟨ρ1,M1,f1,r1,w1⟩
 refine mY r1 (turn m ρ1 M1 w1) fun k H2 M2 f2 r2 q=>?_
 cases k with
 | true=>
   refine ⟨fun σ' H'=> ∃ m',m' < m∧∃ ρ' M',Fr M H M' H'∧Rep X.K H' σ' ρ' M'∧W m' ρ' M',fun σ' H' z=>z,?_⟩
   have B6:=f1.trans f2
   refine ⟨ρ1,M2,_,r2,q,fun σ' H' ⟨ρ',M',f,r',z⟩=>let ⟨m',hm,w'⟩:=z.out;⟨m',hm,ρ',M',B6.trans f,r',w'⟩,fun _ _ p=>p.back B6,fun _ _ p=>p.back B6,fun σ' H' ⟨ρ',M',f,r',z⟩=>let ⟨m',hm,w'⟩:=z.out;⟨m',hm,ρ',M',B6.trans f,r',w'⟩⟩
 | false=>exact ⟨ρ1,M2,f1.trans f2,r2,q⟩
def runFor (gd:Mp→Prop) (g:rE) (tb:iH) (D:Ga):List L3.D→En→Mp→Prop
 | [],ρ,M=>gd M∧D.nx ρ M
 | x :: xs,ρ,M=>gd M∧g x ρ M fun ρ2 M2=>tb { D with nx:=runFor gd g tb D xs,ct:=runFor gd g tb D xs,bk:=D.nx } ρ2 M2
structure ya (K:PySem.W.Frag) (J:It) (inv:Hp→Prop) (ds:List L3.D):Prop where
 go:∀ i H,i < ds.length→inv H→J.go i H
 DT:∀ i H x H',i < ds.length→inv H→J.DT i H x H'→H'=H∧∃ d,ds[i]?=some d∧Dat K H d x
 stop:∀ H,inv H→J.stop ds.length H
theorem AJ.dn {tg:Expr} {g:rE} (h:AJ X tg g):PG X tg (fun v σ H Q=> ∃ ρ M d Q0,Rep X.K H σ ρ M∧Dat X.K H d v∧g d ρ M Q0∧∀ σ' H',iI X.K M H Q0 σ' H'→Q σ' H'):=
 fun pins s σ H v u Q I rv ⟨ρ,M,d,Q0,r,dv,q,k⟩=>cF (h.run pins s σ H ρ M v d u Q0 I r rv dv q) fun _ _ ⟨σ',H',I',p⟩=>⟨σ',H',I',k _ _ p⟩
theorem iL {K:PySem.W.Frag} {J:It} {inv:Hp→Prop} {ds:List L3.D} {gd:Mp→Prop} {g:rE} {tb:iH} {D:Ga} {σ:St} {H H0:Hp} {ρ:En} {M M0:Mp} (hJ:ya K J inv ds)
 (f0:Fr M0 H0 M H) (r:Rep K H σ ρ M)
 (stay:∀ M1 H1,Fr M H M1 H1→bC K H1 M1→gd M1→inv H1) (q:runFor gd g tb D ds ρ M) :
 ∃ W:Nat→Nat→St→Hp→Prop,(∃ m,W 0 m σ H)∧∀ i m σ H,W i m σ H→
   (J.stop i H∧(ends K M0 H0 D).nx σ H)∨(J.go i H∧∃ N:St→Hp→Prop,(∀ σ' H',N σ' H'→∃ m',m' < m∧W (i+1) m' σ' H')∧∀ x H',J.DT i H x H'→
     (∃ ρ M d Q0,Rep K H' σ ρ M∧Dat K H' d x∧g d ρ M Q0∧∀ σ2 H2,iI K M H' Q0 σ2 H2→LF K tb { (ends K M0 H0 D) with nx:=N,ct:=N,bk:=(ends K M0 H0 D).nx } σ2 H2)):=by
 refine ⟨fun i m σ1 H1=>m=ds.length - i∧i≤ds.length∧∃ ρ1 M1,Fr M H M1 H1∧Rep K H1 σ1 ρ1 M1∧runFor gd g tb D (ds.drop i) ρ1 M1,⟨ds.length,by simp,UD _,ρ,M,.refl _ _,r,by simpa using q⟩,?_⟩
 rintro i m σ1 H1 ⟨rfl,hi,ρ1,M1,f1,r1,q1⟩
 by_cases hlt:i < ds.length
 ·have hdr:ds.drop i=ds[i] :: ds.drop (i+1):=Vr hlt
  rw [hdr] at q1
  obtain ⟨hg,q1⟩:=q1
  have OP:=stay M1 H1 f1 r1.mem hg
  refine .inr ⟨hJ.go i H1 hlt OP,fun σ' H'=> ∃ ρ' M',Fr M H M' H'∧Rep K H' σ' ρ' M'∧runFor gd g tb D (ds.drop (i+1)) ρ' M',fun σ' H' ⟨ρ',M',f',r',q'⟩=>⟨ds.length - (i+1),by omega,rfl,hlt,ρ',M',f',r',q'⟩,fun x H' y=>?_⟩
  obtain ⟨e,d,hd1,hd2⟩:=hJ.DT i H1 x H' hlt OP y
  subst e
  have ed:d=ds[i]:=Option.some.inj (hd1.symm.trans (Tq hlt))
  subst ed
  refine ⟨ρ1,M1,_,_,r1,hd2,q1,fun σ2 H2 ⟨ρ2,M2,f2,r2,q2⟩=>?_⟩
  have B6:=f1.trans f2
  have OQ:=f0.trans B6
  exact ⟨ρ2,M2,_,r2,q2,fun σ' H' ⟨ρ',M',f,r',z⟩=>⟨ρ',M',B6.trans f,r',z⟩,fun _ _ p=>p.back OQ,fun _ _ p=>p.back OQ,fun σ' H' ⟨ρ',M',f,r',z⟩=>⟨ρ',M',B6.trans f,r',z⟩⟩
 ·have e:i=ds.length:=by omega
  subst e
  rw [Wl (Tz _)] at q1
  obtain ⟨hg,q1⟩:=q1
  exact .inl ⟨hJ.stop H1 (stay M1 H1 f1 r1.mem hg),ρ1,M1,f0.trans f1,r1,q1⟩
def Kf (te:cK) (g:rE) (tb:iH):iH:=fun D ρ M=>te ρ M fun d M1=> ∃ xs,d= .tup xs∧runFor (fun _=>True) g tb D xs ρ M1
def Kg (te:cK) (g:rE) (tb:iH):iH:=fun D ρ M=>te ρ M fun d M1=> ∃ a xs,d= .ref a∧M1 a=some (.lst xs)∧runFor (fun M=>M a=some (.lst xs)) g tb D xs ρ M1
def Kh (t:rD) (g:rE) (tb:iH):iH:=fun D ρ M=>t ρ M fun xs M1=>xs.length≤sizeLine∧runFor (fun _=>True) g tb D xs ρ M1
def Km (t:rD) (g:rE) (tb:iH):iH:=fun D ρ M=>t ρ M fun vs M1=> ∃ j:Int,vs= [.int j]∧ -(2 ^ 62)≤j∧j < 2 ^ 62∧runFor (fun _=>True) g tb D ((List.range j.toNat).map fun (k:Nat)=>L3.D.int (k:Int)) ρ M1
variable {tg iter:Expr} {body:List Stmt} {g:rE} {tb:iH}
theorem HE {K:PySem.W.Frag} {a:Addr} {ds:List L3.D}:ya K (Ms K a) (fun H=> ∃ vs,H a=some (.tup vs)∧aB K H ds vs) ds:=
 ⟨fun i H hi ⟨vs,h,hd⟩=>⟨vs,vs[i]'(by rw [← hd.length];exact hi),rH.of h,Tq _⟩,fun i H x H' _ ⟨vs,h,hd⟩ y=>⟨y.1,hd.back (y.2 vs (rH.of h))⟩,fun H ⟨vs,h,hd⟩=>⟨vs,rH.of h,by rw [hd.length];exact Tz _⟩⟩
theorem uF {K:PySem.W.Frag} {a:Addr} {ds:List L3.D}:ya K (Mr K a) (fun H=> ∃ vs,H a=some (.lst vs)∧aB K H ds vs) ds:=
 ⟨fun i H hi ⟨vs,h,hd⟩=>⟨vs,vs[i]'(by rw [← hd.length];exact hi),iE.of h,Tq _⟩,fun i H x H' _ ⟨vs,h,hd⟩ y=>⟨y.1,hd.back (y.2 vs (iE.of h))⟩,fun H ⟨vs,h,hd⟩=>⟨vs,iE.of h,by rw [hd.length];exact Tz _⟩⟩
theorem HF {K:PySem.W.Frag} {n:Nat}:ya K (LC 0 n) (fun _=>True) ((List.range n).map fun (k:Nat)=>L3.D.int (k:Int)):=
 ⟨fun i H hi _=>by show i < n;simpa using hi,fun i H x H' hi _ y=>⟨y.1,L3.D.int (i:Int),by
  have hi:i < n:=by simpa using hi
  simp [hi],aJ.mpr (by rw [y.2,WJ])⟩,fun H _=>by show n≤_;simp⟩
theorem HG (hp:PassesOwn (model X.prog X.w) X.A X.env X.xe) (hc:X.calm=true) (hi:cG X iter te) (hg:AJ X tg g) (hb:iJ X body tb)
 (hs:∀ x,foldedSetIterable iter X.env x=pure x:=by intro _;rfl):uz X (.For tg iter body [] pos) (Kf te g tb):=BR (mV hp hc (GW hi.dn) hg.dn hb.dn hs) fun σ H ρ M D r q=>dF r q fun v H' d M' f dv r' ⟨xs,e1,q⟩=>by
 subst e1
 obtain ⟨a,ys,rfl,ha,hy⟩:=aU.mp dv
 refine ⟨a,rfl,⟨ys,rH.of ha⟩,iL HE f r' (fun M1 H1 f1 _ _=>⟨ys,?_,aB.mono (f1.ext r'.mem) _ _ hy⟩) q⟩
 exact (f1 a _ (r'.mem.xZ ha (fun _ z=>by cases z)) ha).1
theorem uG (hp:PassesOwn (model X.prog X.w) X.A X.env X.xe) (hc:X.calm=true) (hi:cG X iter te) (hg:AJ X tg g) (hb:iJ X body tb)
 (hs:∀ x,foldedSetIterable iter X.env x=pure x:=by intro _;rfl):uz X (.For tg iter body [] pos) (Kg te g tb):=BR (mV hp hc (oZ hi.dn) hg.dn hb.dn hs) fun σ H ρ M D r q=>dF r q fun v H' d M' f dv r' ⟨a,xs,e1,hM,q⟩=>by
 subst e1
 obtain rfl:=aH.mp dv
 obtain ⟨ys,ha,hy⟩:=r'.mem.lst hM
 exact ⟨a,rfl,⟨ys,iE.of ha⟩,iL uF f r' (fun M1 H1 f1 mT g1=>mT.lst g1) q⟩
theorem HH {es:List Expr} {t:rD} {B7:Pos} (hp:PassesOwn (model X.prog X.w) X.A X.env X.xe) (hc:X.calm=true) (hi:x6 X es t) (hg:AJ X tg g) (hb:iJ X body tb)
 (hs:∀ x,foldedSetIterable (.List es B7) X.env x=pure x:=by intro _;rfl):uz X (.For tg (.List es B7) body [] pos) (Kh t g tb):=BR (mV hp hc (oZ (xX hi.dn)) hg.dn hb.dn hs) fun σ H ρ M D r q=>jz r q fun vs H' ds M' f dv r' ⟨hl,q⟩=>by
 refine ⟨by rw [← dv.length];exact hl,fun p hp=>⟨p,rfl,⟨vs,iE.of bN⟩,?_⟩⟩
 have fr:Fr M' H' M' (upd H' p (.lst vs)):=Fr.new hp fun _ _=>rfl
 have r2:=r'.go fr (r'.mem.new hp)
 exact iL uF (f.trans fr) r2 (fun M1 H1 f1 _ _=>⟨vs,(f1 p _ (r'.mem.free hp) bN).1,aB.mono ((Ext.new hp).trans (f1.ext r2.mem)) _ _ dv⟩) q
theorem yb {a:Expr} {t:rD} {p rpos:Pos} (hp:PassesOwn (model X.prog X.w) X.A X.env X.xe) (hc:X.calm=true) (Kn:Gl X "range") (hm:X.mg "range" =none) (ha:x6 X [a] t) (hg:AJ X tg g) (hb:iJ X body tb)
 (hst:starEach [a] X.env= [(false,eval a X.env)]:=by rfl)
 (hs:∀ x,foldedSetIterable (.Call (.Name "range" p) [a] [] rpos) X.env x=pure x:=by intro _;rfl):uz X (.For tg (.Call (.Name "range" p) [a] [] rpos) body [] pos) (Km t g tb):=BR (mV hp hc (Ax Kn hm ha.dn hst) hg.dn hb.dn hs) fun σ H ρ M D r q=>jz r q fun vs H' ds M' f dv r' ⟨j,e1,h1,h2,q⟩=>by
 subst e1
 obtain ⟨v,rfl,hv⟩:=pQ dv
 obtain rfl:=aJ.mp hv
 exact ⟨j,rfl,h1,h2,iL HF f r' (fun _ _ _ _ _=>trivial) q⟩
def Ko (to te:cK):cK:=fun ρ M Q=>to ρ M fun d M1=>(∃ l xs,d= .ref l∧M1 l=some (.lst xs))∧te ρ M1 fun e M2=> ∃ l xs,d= .ref l∧M2 l=some (.lst xs)∧xs.length < sizeLine∧Q .bz (av M2 l (.lst (xs ++ [e])))
theorem Gg {o e:Expr} {to te:cK} {apos:Pos} (ho:cG X o to) (he:cG X e te) (Kp:PE X (.Call (.Attribute o "append" apos) [e] [] pos) (MK X.K "list" zx (dn X.K to) (BE (dn X.K te) G4))):cG X (.Call (.Attribute o "append" apos) [e] [] pos) (Ko to te):=
 up Kp fun σ H ρ M Q r q=>dF r q fun v H' d M' f dv r' ⟨⟨l,xs,e1,hM⟩,q⟩=>by
  subst e1
  obtain rfl:=aH.mp dv
  obtain ⟨ys,ha,hy⟩:=r'.mem.lst hM
  refine ⟨.inl ⟨rfl,_,iE.of ha⟩,dF r' q fun u H2 d2 M2 f2 du r2 ⟨l',xs',e2,DU,hlt,q2⟩=>?_⟩
  injection e2 with e2
  subst e2
  obtain ⟨zs,hb,hz⟩:=r2.mem.lst DU
  refine ⟨l,zs,u,rfl,rfl,hb,by rw [← hz.length];exact hlt,.bz,_,(f.trans f2).trans (Fr.write (K:=X.K) DU),c8.mpr rfl,r2.mem.jy hb (hz.append (aB.one du)),q2⟩
end
section
variable {P:Program} {w:World} {K:PySem.W.Frag} {mg:Str→Option Value} {base:Heap}
def k6 (N:List Str) (ds:List D):En:=ds.map some ++ List.replicate (N.length - ds.length) none
theorem sV {H:Hp} {N:List Str} {ds:List D} {vs:List V} {M:Mp} (h:aB K H ds vs) (rm:bC K H M):Rep K H (L2.start N vs) (k6 N ds) M:=by
 have hl:=h.length
 refine ⟨fun i d e=>?_,by unfold L2.start k6;simp [hl],rm⟩
 unfold k6 at e
 by_cases hi:i < ds.length
 ·rw [Va (by simpa using hi),Uh] at e
  cases q:ds[i]? with
  | none=>rw [q] at e;cases e
  | some d'=>
    rw [q] at e
    cases e
    obtain ⟨v,h1,h2⟩:=h.get q
    refine ⟨v,?_,h2⟩
    unfold L2.start
    rw [Va (by simp;omega),Uh,h1]
    rfl
 ·rw [U6 (by simpa using hi),Wa] at e
  split at e <;> cases e
theorem yc {x qual:Str} {st:Stmt} {f:Addr} {fd:FuncData} {N ps:List Str} {k:Nat} {S:uD} (F:kE K x qual st f fd) (Sc:aO N ps (aq st)) (len:∀ ds Q,S ds Q→ds.length=ps.length)
 (hbody:∀ (cdv:Value) (A:Around) (outer:List Env) (s:Shared) (H:Hp),gR k (A.deeper (envOfC qual (aq st) s.heap.objs.size f cdv))→
  ∃ t,iJ (oO iF P w K mg base N qual (aq st) f cdv A outer s H E0).DS (fK st) t∧∀ ds Q,S ds Q→t { nx:=fun _ _=>Q .bz,rt:=fun d _=>Q d } (k6 N ds) JN) :
 cE P w K mg base iF (k+1) f fd ps (sU K S):=by
 refine F.ok Sc (fun vs H Q E h=>?_) (fun cdv A outer s H vs Q E hr h=>?_)
 ·obtain ⟨ds,Q0,h1,h2,_⟩:=h
  rw [← h1.length,len ds Q0 h2]
 ·obtain ⟨ds,Q0,h1,h2,h3⟩:=h
  obtain ⟨t,ht,hq⟩:=hbody cdv A outer s H hr
  have hE:(oO iF P w K mg base N qual (aq st) f cdv A outer s H E).DS=(oO iF P w K mg base N qual (aq st) f cdv A outer s H E0).DS:=rfl
  refine ⟨_,iJ.dn (by rw [hE];exact ht),k6 N ds,JN,_,sV h1 bC.no,hq ds Q0 h2,fun σ' H' ⟨ρ',M',f',r',q⟩=>?_,fun v H' ⟨d,M',f',dv,rm,q⟩=>?_,fun _ _ ⟨_,_,_,_,z⟩=>z.elim,fun _ _ ⟨_,_,_,_,z⟩=>z.elim⟩
  ·exact h3 .bz .bz H' q (c8.mpr rfl) fun b o e=>(f' b o rfl e).1
  ·exact h3 d v H' q dv fun b o e=>(f' b o rfl e).1
theorem B8 {x qual:Str} {st:Stmt} {f:Addr} {fd:FuncData} {N ps:List Str} {k:Nat} {S:x8} (F:kE K x qual st f fd) (Sc:aO N ps (aq st)) (len:∀ ds M Q,S ds M Q→ds.length=ps.length)
 (hbody:∀ (cdv:Value) (A:Around) (outer:List Env) (s:Shared) (H:Hp),gR k (A.deeper (envOfC qual (aq st) s.heap.objs.size f cdv))→
  ∃ t,iJ (oO iF P w K mg base N qual (aq st) f cdv A outer s H E0).DS (fK st) t∧∀ ds M Q,S ds M Q→t { nx:=fun _ M'=>bY (∃ M0,Le M0 M'∧Q .bz M0),rt:=fun d M'=>bY (∃ M0,Le M0 M'∧Q d M0) } (k6 N ds) M) :
 cE P w K mg base iF (k+1) f fd ps (AI K S):=by
 refine F.ok Sc (fun vs H Q E h=>?_) (fun cdv A outer s H vs Q E hr h=>?_)
 ·obtain ⟨ds,M,Q0,h1,_,h2,_⟩:=h
  rw [← h1.length,len ds M Q0 h2]
 ·obtain ⟨ds,M,Q0,h1,rm,h2,h3⟩:=h
  obtain ⟨t,ht,hq⟩:=hbody cdv A outer s H hr
  have hE:(oO iF P w K mg base N qual (aq st) f cdv A outer s H E).DS=(oO iF P w K mg base N qual (aq st) f cdv A outer s H E0).DS:=rfl
  refine ⟨_,iJ.dn (by rw [hE];exact ht),k6 N ds,M,_,sV h1 rm,hq ds M Q0 h2,fun σ' H' ⟨ρ',M',f',r',z⟩=>?_,fun v H' ⟨d,M',f',dv,Ql,z⟩=>?_,fun _ _ ⟨_,_,_,_,z⟩=>z.elim,fun _ _ ⟨_,_,_,_,z⟩=>z.elim⟩
  ·obtain ⟨M0,l,q⟩:=z.out
   exact h3 .bz M0 .bz H' q (c8.mpr rfl) (r'.mem.le l) (f'.le l)
  ·obtain ⟨M0,l,q⟩:=z.out
   exact h3 d M0 v H' q dv (Ql.le l) (f'.le l)
end
end L3
namespace L3
open PySem PySem.Spec PyProof.Rows L2
section
variable {X:Cx}
def intsOf:List D→Option (List Int)
 | []=>some []
 | .int i :: ds=>(intsOf ds).map (i :: ·)
 | _ :: _=>none
theorem k7:∀ {ds:List D} {ns:List Int},intsOf ds=some ns→ds=ns.map D.int
 | [],ns,h=>by cases h;rfl
 | .int i :: ds,ns,h=>by
   have h:(intsOf ds).map (i :: ·)=some ns:=h
   cases q:intsOf ds with
   | none=>rw [q] at h;cases h
   | some ms=>
     rw [q] at h
     have h:i :: ms=ns:=Option.some.inj h
     subst h
     rw [k7 q];rfl
 | .bz :: _,ns,h=>by cases h
 | .bl _ :: _,ns,h=>by cases h
 | .str _ :: _,ns,h=>by cases h
 | .ty _ :: _,ns,h=>by cases h
 | .ref _ :: _,ns,h=>by cases h
 | .tup _ :: _,ns,h=>by cases h
 | .zA _ :: _,ns,h=>by cases h
 | .Hj _ :: _,ns,h=>by cases h
 | .exc _ _ _ :: _,ns,h=>by cases h
def OR:D→D→Option Bool
 | .int i,.int j=>some (decide (i < j))
 | .tup ds,.tup es=>match intsOf ds,intsOf es with
   | some ns,some ms=>some (HT.lexLt ns ms)
   | _,_=>none
 | _,_=>none
def Nj:R3:=fun d e M Q=> ∃ b,OR d e=some b∧Q (.bl b) M
theorem lQ (hu:X.A.units+64 < cLine):lJ X (compareOp .Lt) Nj:=by
 constructor
 intro pins s σ H M x y d e v u Q I rm rx ry dx dy ⟨b,hb,q⟩
 unfold OR at hb
 split at hb
 ·rename_i i j
  have hb:=Option.some.inj hb
  subst hb
  exact Na.run pins s σ H M x y _ _ v u Q I rm rx ry dx dy ⟨i,j,rfl,rfl,q⟩
 ·rename_i ds es
  split at hb
  ·rename_i ns ms h1 h2
   have hb:=Option.some.inj hb
   subst hb
   exact (JZ hu).run pins s σ H M x y _ _ v u Q I rm rx ry dx dy ⟨ns,ms,by rw [k7 h1],by rw [k7 h2],q⟩
  ·cases hb
 ·cases hb
theorem cA:bootBuiltins "len" =some (.builtin "len"):=by decide +kernel
theorem AL:bootBuiltins "min" =some (.builtin "min"):=by decide +kernel
theorem AM:bootBuiltins "max" =some (.builtin "max"):=by decide +kernel
theorem bQ:bootBuiltins "sorted" =some (.builtin "sorted"):=by decide +kernel
theorem bL:bootBuiltins "isinstance" =some (.builtin "isinstance"):=by decide +kernel
theorem gb:bootBuiltins "list" =some (.type "list"):=by decide +kernel
theorem pS:bootBuiltins "bool" =some (.type "bool"):=by decide +kernel
theorem jB:bootBuiltins "tuple" =some (.type "tuple"):=by decide +kernel
end
theorem pT {m n:Nat} (h:m≤n):2 ^ m≤2 ^ n:=Wx (by decide) h
theorem Sm.le {m n:Nat} {i:Int} (h:Sm m i) (l:m≤n):Sm n i:=Tw h (pT l)
theorem Sm.HJ {n:Nat} {i j:Int} (h:Sm n j) (l:i.natAbs≤j.natAbs):Sm n i:=Nat.lt_of_le_of_lt l h
theorem Sm.add {m n:Nat} {i j:Int} (h1:Sm m i) (h2:Sm n j):Sm (max m n+1) (i+j):=by
 have a:=Tw h1 (pT (Nat.le_max_left m n))
 have b:=Tw h2 (pT (Nat.le_max_right m n))
 show (i+j).natAbs < 2 ^ (max m n+1)
 rw [Nat.pow_succ]
 have:=Int.natAbs_add_le i j
 omega
theorem Sm.neg {n:Nat} {i:Int} (h:Sm n i):Sm n (-i):=by
 show (-i).natAbs < _
 rw [Int.natAbs_neg];exact h
theorem Sm.sub {m n:Nat} {i j:Int} (h1:Sm m i) (h2:Sm n j):Sm (max m n+1) (i - j):=by
 rw [Int.sub_eq_add_neg];exact h1.add h2.neg
theorem Sm.mul {m n:Nat} {i j:Int} (h1:Sm m i) (h2:Sm n j):Sm (m+n) (i*j):=by
 show (i*j).natAbs < 2 ^ (m+n)
 rw [Int.natAbs_mul,Nat.pow_add]
 exact Nat.mul_lt_mul'' h1 h2
theorem Sm.emod {n:Nat} {i j:Int} (hj:0 < j) (h:Sm n j):Sm n (i % j):=by
 have h1:=U1 i (show j≠0 by omega)
 have h2:=UO i hj
 exact h.HJ (by omega)
instance {n:Nat} {i:Int}:Decidable (Sm n i):=inferInstanceAs (Decidable (_ < _))
theorem Sm.sign (i:Int):Sm 1 i.sign:=by
 rcases U3 i 0 with h | h | h
 ·rw [US h];decide
 ·subst h;decide
 ·rw [Up h];decide
theorem MulOk.of {m n:Nat} {i j:Int} (h1:Sm m i) (h2:Sm n j) (h:m+n≤100000):MulOk i j:=⟨m,n,h1,h2,h⟩
theorem Sm.lit (i:Int):Sm (i.natAbs.log2+1) i:=Nat.lt_log2_self
theorem Sm.two:Sm 2 2:=by decide
theorem Sm.one:Sm 1 1:=by decide
theorem lR {K:PySem.W.Frag} {n:String}:PySem.W.kitOne K (.type n) (.type n)=some true:=by simp [PySem.W.kitOne]
structure Pl where
 x:Int
 y:Int
 deriving DecidableEq
def Pl.d (p:Pl):D:= .tup [.int p.x,.int p.y]
def Pl.Ok (n:Nat) (p:Pl):Prop:=Sm n p.x∧Sm n p.y
theorem m7 (p q:Pl):dM p.d q.d=decide (p=q):=by
 unfold Pl.d
 rw [iY,iK,iK,fZ,dQ,dQ,Uo]
 cases p;cases q
 simp
end L3
namespace L3
open PySem L2
def zE:uD:=fun ds Q=> ∃ ns:List Int,ds= [.zA (ns.map D.int)]∧ns.length≤63∧Q (.bl true)
theorem sW {K:PySem.W.Frag} {H:Hp}:∀ (ns:List Int),aB K H (ns.map D.int) (ns.map V.int)
 | []=>aE.mpr rfl
 | n :: ns=>aA.mpr ⟨_,_,rfl,aJ.mpr rfl,sW ns⟩
theorem HK {K:PySem.W.Frag} {H:Hp} {a:Addr} {ns:List Int} {E:XK} (hl:ns.length≤63) (hO:Er H) (hS:iE K H a (ns.map V.int)):sU K zE [.ref a] H (fun v _=>v= .bl true) E:=by
 have hz:Fz K H a (ns.map V.int):=by
  rcases hS with (h | ⟨o,h⟩) | h
  ·rcases hO a with z | ⟨o,xs,z⟩
   ·rw [z] at h;cases h
   ·rw [z] at h;cases h
  ·exact .inl ⟨o,h⟩
  ·exact .inr h
 exact ⟨[.zA (ns.map D.int)],fun d=>d= .bl true,aB.one (o6.mpr ⟨a,_,rfl,hz,sW ns⟩),⟨ns,rfl,hl,rfl⟩,fun d v H' q dv _=>by subst q;exact aY.mp dv⟩
end L3
namespace L3
theorem cg {gd:Mp→Prop} {g:rE} {tb:iH} {D:Ga} {ρ:En} {M:Mp} (Pv:Nat→En→Mp→Prop):∀ (xs:List L3.D),
 (∀ (i:Nat) (x:L3.D) (ρ:En) (M:Mp) (N:En→Mp→Prop),xs[i]?=some x→Pv i ρ M→(∀ ρ' M',Pv (i+1) ρ' M'→N ρ' M')→gd M∧g x ρ M fun ρ2 M2=>tb { D with nx:=N,ct:=N,bk:=D.nx } ρ2 M2)→
 (∀ ρ M,Pv xs.length ρ M→gd M∧D.nx ρ M)→Pv 0 ρ M→runFor gd g tb D xs ρ M:=by
 intro xs hs hd h0
 have key:∀ (ys:List L3.D) (i:Nat) (ρ:En) (M:Mp),xs.drop i=ys→Pv i ρ M→i≤xs.length→runFor gd g tb D ys ρ M:=by
  intro ys
  induction ys with
  | nil=>
    intro i ρ M e p hi
    have:xs.length≤i:=by
     have:=congrArg List.length e
     rw [UL] at this
     simp at this
     omega
    have:i=xs.length:=by omega
    subst this
    exact hd ρ M p
  | cons y ys ih=>
    intro i ρ M e p hi
    have hx:xs[i]?=some y:=by
     have:=congrArg (fun l=>l[0]?) e
     simpa using this
    have hlt:i < xs.length:=(T9.mp hx).1
    refine hs i y ρ M _ hx p fun ρ' M' p'=>ih (i+1) ρ' M' ?_ p' hlt
    rw [← WW,e]
    rfl
 exact key xs 0 ρ M rfl h0 (UD _)
theorem m8 {n i:Nat} {x:L3.D} (h:((List.range n).map fun (k:Nat)=>L3.D.int (k:Int))[i]?=some x):i < n∧x= .int (i:Int):=by
 rw [Uh] at h
 by_cases hi:i < n
 ·rw [List.getElem?_range hi] at h
  exact ⟨hi,(Option.some.inj h).symm⟩
 ·rw [UT (by simp;omega)] at h
  cases h
end L3
namespace L3
theorem jC (a:Int):0≤a*a:=by
 rcases Ve 0 a with h | h
 ·exact TF h h
 ·exact TX h h
def frac (a b:Int):Pl:=⟨a.fdiv ((Int.gcd a b:Int)*b.sign),b.fdiv ((Int.gcd a b:Int)*b.sign)⟩
def low (a b:Int):Pl:=⟨a / (Int.gcd a b:Int),b / (Int.gcd a b:Int)⟩
end L3
local macro_rules | `(tactic| walk_at "sm")=> `(tactic| first | assumption | exact L3.Sm.sign _ | exact L3.Sm.zero | exact L3.Sm.one | exact L3.Sm.two | ((with_reducible apply L3.Sm.mul) <;> walk_at "sm") | ((with_reducible apply L3.Sm.sub) <;> walk_at "sm") | ((with_reducible apply L3.Sm.add) <;> walk_at "sm") | ((with_reducible apply L3.Sm.neg) <;> walk_at "sm") | ((with_reducible apply L3.Sm.abs) <;> walk_at "sm") | ((with_reducible apply L3.Sm.emod);(first | omega | decide +kernel);walk_at "sm") | exact L3.Sm.lit _)
local macro_rules | `(tactic| walk_at "smle")=> `(tactic| (apply L3.Sm.le;walk_at "sm";first | omega | decide +kernel))
namespace L3
@[irreducible] def Qm (p f g:Pl):Int:=(p.x*f.y - f.x)*g.y*((p.x*f.y - f.x)*g.y)+(p.y*g.y - g.x)*f.y*((p.y*g.y - g.x)*f.y)
@[irreducible] def sq (p f g:Pl):Pl:=frac (Qm p f g) (f.y*g.y*(f.y*g.y))
end L3
namespace L3
@[irreducible] def tw (a b c:Pl):Int:=(b.x - a.x)*(c.y - a.y) - (b.y - a.y)*(c.x - a.x)
theorem gS (a b c:Pl):tw b c a=tw a b c:=by unfold tw;grind
theorem eW (a b c:Pl):tw b a c= -tw a b c:=by unfold tw;grind
theorem jD (a b c:Pl):tw a c b= -tw a b c:=by unfold tw;grind
theorem gc (a b:Pl):tw a a b=0:=by unfold tw;grind
theorem pU (a b:Pl):tw a b b=0:=by unfold tw;grind
theorem gf (a b:Pl):tw a b a=0:=by unfold tw;grind
def aG (p q:Pl):Prop:=p.x < q.x∨(p.x=q.x∧p.y < q.y)
instance (p q:Pl):Decidable (aG p q):=inferInstanceAs (Decidable (_∨_))
theorem bf (p:Pl):¬ aG p p:=by unfold aG;omega
theorem bx {p q r:Pl} (a:aG p q) (b:aG q r):aG p r:=by unfold aG at *;omega
theorem ay {p q:Pl} (a:aG p q):¬ aG q p:=by unfold aG at *;omega
theorem bD (p q:Pl):aG p q∨p=q∨aG q p:=by
 unfold aG
 by_cases h:p=q
 ·exact .inr (.inl h)
 ·have:¬ (p.x=q.x∧p.y=q.y):=fun ⟨a,b⟩=>h (by cases p;cases q;simp only at a b;rw [a,b])
  omega
theorem jE {p q:Pl} (a:aG p q):p≠q:=fun e=>bf q (e▸a)
def lo (p q:Pl):Pl:=if aG q p then q else p
def hi (p q:Pl):Pl:=if aG p q then q else p
def pV (a b c:Pl):Int:=(a.x - c.x)*(b.x - c.x)+(a.y - c.y)*(b.y - c.y)
theorem we {a b:Int} (ha:0 < a):(0 < a*b↔0 < b)∧(a*b < 0↔b < 0)∧(a*b=0↔b=0):=by
 rcases U3 b 0 with h | h | h
 ·have:=Uv ha h
  omega
 ·subst h;simp
 ·have:=T8 ha h
  omega
theorem iZ {ux uy vx vy:Int} (hc:ux*vy=uy*vx) (hu:ux < 0∨(ux=0∧uy < 0)) (hv:0 < vx∨(vx=0∧0 < vy)):ux*vx+uy*vy < 0:=by
 rcases hu with hu | ⟨hu,jo⟩
 ·rcases hv with hv | ⟨hv,hv'⟩
  ·have h1:ux*vx < 0:=by have:=T8 (show 0 < -ux by omega) hv;rw [VH] at this;omega
   have h2:vx*(uy*vy)=ux*(vy*vy):=by grind
   have h3:=jC vy
   have h4:0≤(-ux)*(vy*vy):=TF (by omega) h3
   rw [VH] at h4
   have h5:=(we (b:=uy*vy) hv).1
   omega
  ·subst hv
   have:=T8 (show 0 < -ux by omega) hv'
   rw [VH] at this
   omega
 ·subst hu
  rcases hv with hv | ⟨hv,hv'⟩
  ·have:=T8 (show 0 < -uy by omega) hv
   rw [VH] at this
   omega
  ·subst hv
   have:=T8 (show 0 < -uy by omega) hv'
   rw [VH] at this
   omega
theorem kM {ux uy vx vy:Int} (hc:ux*vy=uy*vx) (hu:ux < 0∨(ux=0∧uy < 0)) (hv:vx < 0∨(vx=0∧vy < 0)):0 < ux*vx+uy*vy:=by
 have:=iZ (ux:=ux) (uy:=uy) (vx:= -vx) (vy:= -vy) (by grind) hu (by omega)
 have e:ux* -vx+uy* -vy= -(ux*vx+uy*vy):=by grind
 omega
theorem oj (a b c:Pl) (h0:tw a b c=0):(aG (lo a b) c∧aG c (hi a b))↔(c≠a∧c≠b∧pV a b c < 0):=by
 have hc:(a.x - c.x)*(b.y - c.y)=(a.y - c.y)*(b.x - c.x):=by unfold tw at h0;grind
 have hc':(b.x - c.x)*(a.y - c.y)=(b.y - c.y)*(a.x - c.x):=by unfold tw at h0;grind
 have e:pV a b c=(a.x - c.x)*(b.x - c.x)+(a.y - c.y)*(b.y - c.y):=rfl
 have e':pV a b c=(b.x - c.x)*(a.x - c.x)+(b.y - c.y)*(a.y - c.y):=by rw [e];grind
 have e'':pV a b c=(-(b.x - c.x))*(-(a.x - c.x))+(-(b.y - c.y))*(-(a.y - c.y)):=by rw [e];grind
 have Nk:(-(b.x - c.x))*(-(a.y - c.y))=(-(b.y - c.y))*(-(a.x - c.x)):=by rw [Vu,Vu];exact hc'
 unfold lo hi
 rcases bD a c with ha | ha | ha
 ·rcases bD c b with hb | hb | hb
  ·have hab:=bx ha hb
   rw [if_neg (ay hab),if_pos hab]
   refine ⟨fun _=>⟨(jE ha).symm,jE hb,?_⟩,fun _=>⟨ha,hb⟩⟩
   rw [e]
   exact iZ hc (by unfold aG at ha;omega) (by unfold aG at hb;omega)
  ·subst hb
   constructor
   ·rintro ⟨_,h2⟩
    exfalso
    split at h2
    ·exact bf _ h2
    ·rename_i z;exact z ha
   ·rintro ⟨_,h2,_⟩;exact absurd rfl h2
  ·constructor
   ·rintro ⟨_,h2⟩
    exfalso
    split at h2
    ·exact ay hb h2
    ·exact ay ha h2
   ·rintro ⟨_,_,h⟩
    exfalso
    rw [e] at h
    have:=kM hc (by unfold aG at ha;omega) (by unfold aG at hb;omega)
    omega
 ·subst ha
  constructor
  ·rintro ⟨h1,h2⟩
   exfalso
   split at h1
   ·split at h2
    ·exact ay h1 h2
    ·exact bf _ h2
   ·exact bf _ h1
  ·rintro ⟨h,_⟩;exact absurd rfl h
 ·rcases bD c b with hb | hb | hb
  ·constructor
   ·rintro ⟨h1,_⟩
    exfalso
    split at h1
    ·exact ay hb h1
    ·exact ay ha h1
   ·rintro ⟨_,_,h⟩
    exfalso
    rw [e''] at h
    have:=kM Nk (by unfold aG at hb;omega) (by unfold aG at ha;omega)
    omega
  ·subst hb
   constructor
   ·rintro ⟨h1,h2⟩
    exfalso
    split at h1
    ·exact bf _ h1
    ·rename_i z;exact z ha
   ·rintro ⟨_,h2,_⟩;exact absurd rfl h2
  ·have hba:=bx hb ha
   rw [if_pos hba,if_neg (ay hba)]
   refine ⟨fun _=>⟨jE ha,(jE hb).symm,?_⟩,fun _=>⟨hb,ha⟩⟩
   rw [e']
   exact iZ hc' (by unfold aG at hb;omega) (by unfold aG at ha;omega)
@[irreducible] def uH (p q:Pl):Int:=(q.x - p.x)*(q.x - p.x)+(q.y - p.y)*(q.y - p.y)
@[irreducible] def dep (a b c d:Pl):Int:=uH d a*tw d b c+uH d b*tw d c a+uH d c*tw d a b
theorem o9 (a b c d:Pl):dep b c a d=dep a b c d:=by unfold dep;grind
theorem B9 (a b c d:Pl):dep b a c d= -dep a b c d:=by unfold dep;have:=eW d;unfold tw;grind
theorem pW (a:Pl):uH a a=0:=by unfold uH;grind
theorem Kq (a b c:Pl):dep a b c a=0:=by unfold dep;rw [pW,gc,gf];grind
theorem Kr (a b c:Pl):dep a b c b=0:=by unfold dep;rw [pW,gc,gf];grind
theorem Gh (a b c:Pl):dep a b c c=0:=by unfold dep;rw [pW,gc,gf];grind
@[irreducible] def rg (a b c d:Pl):Int:=(tw a b c).sign*(dep a b c d).sign
theorem jF (a b c d:Pl):rg b c a d=rg a b c d:=by unfold rg;rw [gS,o9]
theorem lS (a b c d:Pl):rg b a c d=rg a b c d:=by unfold rg;rw [eW,B9,Wc,Wc,Vu]
end L3
namespace L3
def fM (a b c d:Pl):Prop:=rg a b c d=1∨(rg a b c d=0∧d≠a∧d≠b∧d≠c∧((aG d a∧aG d b∧aG d c)∨(aG a b∧aG a c∧aG a d∧(tw b c d).sign≠(tw b c a).sign)∨(aG b a∧aG b c∧aG b d∧(tw c a d).sign≠(tw c a b).sign)∨(aG c a∧aG c b∧aG c d∧(tw a b d).sign≠(tw a b c).sign)))
instance (a b c d:Pl):Decidable (fM a b c d):=inferInstanceAs (Decidable (_∨_))
theorem pX {a b c d:Pl} (h:fM a b c d):fM b c a d:=by
 rcases h with h | ⟨h0,n1,n2,n3,h⟩
 ·exact .inl ((jF a b c d).trans h)
 ·refine .inr ⟨(jF a b c d).trans h0,n2,n3,n1,?_⟩
  rcases h with ⟨k1,k2,k3⟩ | ⟨k1,k2,k3,k4⟩ | ⟨k1,k2,k3,k4⟩ | ⟨k1,k2,k3,k4⟩
  ·exact .inl ⟨k2,k3,k1⟩
  ·exact .inr (.inr (.inr ⟨k1,k2,k3,k4⟩))
  ·exact .inr (.inl ⟨k2,k1,k3,k4⟩)
  ·exact .inr (.inr (.inl ⟨k2,k1,k3,k4⟩))
theorem dR (a b c d:Pl):fM b c a d↔fM a b c d:=⟨fun h=>pX (pX h),pX⟩
theorem jG (i j:Int):((-i).sign≠(-j).sign)↔(i.sign≠j.sign):=by
 rw [Wc,Wc];omega
theorem sX {a b c d:Pl} (h:fM a b c d):fM b a c d:=by
 rcases h with h | ⟨h0,n1,n2,n3,h⟩
 ·exact .inl ((lS a b c d).trans h)
 ·refine .inr ⟨(lS a b c d).trans h0,n2,n1,n3,?_⟩
  rcases h with ⟨k1,k2,k3⟩ | ⟨k1,k2,k3,k4⟩ | ⟨k1,k2,k3,k4⟩ | ⟨k1,k2,k3,k4⟩
  ·exact .inl ⟨k2,k1,k3⟩
  ·refine .inr (.inr (.inl ⟨k1,k2,k3,?_⟩))
   rw [eW b c d,eW b c a]
   exact (jG _ _).mpr k4
  ·refine .inr (.inl ⟨k1,k2,k3,?_⟩)
   rw [eW c a d,eW c a b]
   exact (jG _ _).mpr k4
  ·refine .inr (.inr (.inr ⟨k2,k1,k3,?_⟩))
   rw [eW a b d,eW a b c]
   exact (jG _ _).mpr k4
theorem pY (a b c d:Pl):fM b a c d↔fM a b c d:=⟨sX,sX⟩
theorem k8 (i:Int):(i < 0∧i.sign= -1)∨(i=0∧i.sign=0)∨(0 < i∧i.sign=1):=by
 rcases U3 i 0 with h | h | h
 ·exact .inl ⟨h,US h⟩
 ·exact .inr (.inl ⟨h,by rw [h];rfl⟩)
 ·exact .inr (.inr ⟨h,Up h⟩)
theorem uI {p q:Pl} (h:p≠q):0 < uH p q:=by
 unfold uH
 have h1:=jC (q.x - p.x)
 have h2:=jC (q.y - p.y)
 rcases U3 ((q.x - p.x)*(q.x - p.x)+(q.y - p.y)*(q.y - p.y)) 0 with z | z | z
 ·omega
 ·exfalso
  have e1:(q.x - p.x)*(q.x - p.x)=0:=by omega
  have e2:(q.y - p.y)*(q.y - p.y)=0:=by omega
  have f1:q.x - p.x=0:=by rcases T6.mp e1 with z | z <;> exact z
  have f2:q.y - p.y=0:=by rcases T6.mp e2 with z | z <;> exact z
  exact h (by cases p;cases q;simp only at f1 f2;congr 1 <;> omega)
 ·exact z
theorem j9 {a b c d:Pl} (h:dep a b c d=0):rg a b c d=0:=by unfold rg;rw [h];simp
def Qn (p q r s:Pl):Prop:=(0 < tw p q r∧tw p q s < 0)∨(tw p q r < 0∧0 < tw p q s)
theorem Ks {a b c d:Pl} (ht:tw a b c≠0) (h:dep a b c d≠0):rg a b c d≠0:=by
 unfold rg
 rcases k8 (tw a b c) with ⟨u,e⟩ | ⟨u,e⟩ | ⟨u,e⟩ <;> rcases k8 (dep a b c d) with ⟨v,f⟩ | ⟨v,f⟩ | ⟨v,f⟩ <;> rw [e,f] <;> first | decide | omega
theorem EB {a b c d:Pl} (ht:tw a b c≠0) (h:dep a b c d≠0):fM a b c d↔rg a b c d=1:=by
 constructor
 ·rintro (z | ⟨z,_⟩)
  ·exact z
  ·exact absurd z (Ks ht h)
 ·exact .inl
def dt (a b x:Pl):Int:=(x.x - a.x)*(x.x - b.x)+(x.y - a.y)*(x.y - b.y)
theorem wg (a b x y:Pl):dep a b x y=dt a b x*tw a b y - dt a b y*tw a b x:=by unfold dep uH tw dt;grind
theorem EC (a b c d:Pl):fM a c b d↔fM a b c d:=by
 rw [← dR a c b d,pY,← dR,dR,dR]
theorem uJ {a b c d:Pl} (h:0 < tw a b c):rg a b c d=(dep a b c d).sign:=by unfold rg;rw [Up h,VY]
theorem lT {a b x y:Pl} (hx:0 < tw a b x) (h:fM a b x y):0≤dep a b x y∧x≠y:=by
 unfold fM at h
 rw [uJ hx] at h
 rcases k8 (dep a b x y) with ⟨v,f⟩ | ⟨v,f⟩ | ⟨v,f⟩ <;> rw [f] at h
 ·omega
 ·refine ⟨by omega,?_⟩
  rcases h with h | h
  ·cases h
  ·exact fun e=>h.2.2.2.1 e.symm
 ·refine ⟨by omega,fun e=>?_⟩
  subst e
  rw [Gh] at v
  omega
theorem k9 {a b x y:Pl} (hx:0 < tw a b x) (h:0 < dep a b x y):fM a b x y:=by
 left;rw [uJ hx,Up h]
theorem i0 {p q:Pl} (h:p≠q):aG p q∨aG q p:=by
 rcases bD p q with z | z | z
 ·exact .inl z
 ·exact absurd z h
 ·exact .inr z
end L3
namespace L3
end L3
namespace L3
end L3
namespace L3
open PySem PySem.Spec PyProof.Rows
section
variable {P:Program} {w:World} {A:Around} {E:Value→Shared→Prop} {s:Shared} {κ:KeyKind} {kd:SortKind} {z:Array Keyed} {t:SortSt}
structure Ask (P:Program) (w:World) (A:Around) (s:Shared) (κ:KeyKind) (kd:SortKind):Prop where
 lt:∀ (E:Value→Shared→Prop) (x y:Value) (a b:κ.α) (R:Bool→Shared→Prop),κ.keyOf x=some a→κ.keyOf y=some b→R (κ.blt a b) s→wpAny (model P w) A (keyLt' kd x y) R E s
structure Mid (kd:SortKind) (z:Array Keyed) (t:SortSt):Prop where
 pm:(arrOf t).Perm z
 kd:kindOf t=kd
 ok:failedOf t=none
 no:pendingOf t= #[]
theorem Mid.sz (m:Mid kd z t):(arrOf t).size=z.size:=m.pm.size_eq
theorem Mid.put (m:Mid kd z t) {y:Array Keyed} (h:y.Perm (arrOf t)):Mid kd z (setArr t y):=⟨h.trans m.pm,m.kd,m.ok,m.no⟩
theorem Mid.key (m:Mid kd z t) (hk:KeysOf κ z) {i:Nat} (hi:i < z.size):∃ x q,(arrOf t)[i]?=some (x,q)∧κ.keyOf x=some (KK κ (arrOf t) i):=by
 have hlt:i < (arrOf t).size:=m.sz▸hi
 have e:(arrOf t)[i]?=some (arrOf t)[i]:=getElem?_pos _ i hlt
 obtain ⟨a,ha⟩:=hk (arrOf t)[i] ((Array.perm_iff_toList_perm.mp m.pm).mem_iff.mp (by simp))
 refine ⟨(arrOf t)[i].1,(arrOf t)[i].2,e,?_⟩
 have ek:KK κ (arrOf t) i=a:=by unfold KK;rw [e];simp only [ha,Option.getD_some]
 rw [ek];exact ha
theorem pZ (hA:Ask P w A s κ kd) (m:Mid kd z t) (hk:KeysOf κ z) {i j:Nat} (hi:i < z.size) (hj:j < z.size) {R:Option Bool→SortSt→Prop}
 (h:R (some (κ.blt (KK κ (arrOf t) i) (KK κ (arrOf t) j))) t):wpS (model P w) A E s (ltAt' i j) R t:=by
 obtain ⟨x,p,e1,k1⟩:=m.key hk hi
 obtain ⟨y,q,e2,k2⟩:=m.key hk hj
 rw [ltAt'_eq]
 apply wpS_bind;apply wpS_get
 show wpS (model P w) A E s (elem' (arrOf t) i >>= fun u=>elem' (arrOf t) j >>= fun v=>lt' u v) R t
 rw [elem'_eq,elem'_eq,e1,e2]
 apply wpS_bind;apply wpS_pure
 apply wpS_bind;apply wpS_pure
 rw [lt'_eq]
 apply wpS_bind;apply wpS_get
 rw [m.kd]
 refine wpS_bind (wpS_lift (wpAny_attempt (hA.lt _ x y _ _ _ k1 k2 ⟨rfl,wpS_pure h⟩)))
theorem rise {y:Array Keyed} {n:Nat} (h:SortedToK κ y n) (hl:1≤n) (hn:κ.kle (KK κ y (n - 1)) (KK κ y n)):SortedToK κ y (n+1):=by
 intro i j hij hj
 rcases Vy j n with c | c
 ·exact h i j hij c
 ·obtain rfl:j=n:=by omega
  rcases Vy i j with d | d
  ·exact KeyOrd.kle_trans (h i (j - 1) (by omega) (by omega)) hn
  ·obtain rfl:i=j:=by omega
   exact KeyOrd.kle_refl _
theorem ED {y:Array Keyed} {n:Nat} (h:NonIncK κ y n) (hl:1≤n) (hn:κ.kle (KK κ y n) (KK κ y (n - 1))):NonIncK κ y (n+1):=by
 intro i j hij hj
 rcases Vy j n with c | c
 ·exact h i j hij c
 ·obtain rfl:j=n:=by omega
  rcases Vy i j with d | d
  ·exact KeyOrd.kle_trans hn (h i (j - 1) (by omega) (by omega))
  ·obtain rfl:i=j:=by omega
   exact KeyOrd.kle_refl _
theorem one_up (y:Array Keyed):SortedToK κ y 1:=by
 intro i j hij hj
 obtain rfl:i=j:=by omega
 exact KeyOrd.kle_refl _
theorem HL (y:Array Keyed):NonIncK κ y 1:=by
 intro i j hij hj
 obtain rfl:i=j:=by omega
 exact KeyOrd.kle_refl _
theorem zF (hA:Ask P w A s κ kd) (hk:KeysOf κ z) (m:Mid kd z t) {a e:Nat} (he:e≤z.size) (h1:1≤a) (Nl:a≤e) (up:SortedToK κ (arrOf t) a) {R:AscSt→SortSt→Prop}
 (h:∀ n,a≤n→n≤e→SortedToK κ (arrOf t) n→(n < e→κ.klt (KK κ (arrOf t) n) (KK κ (arrOf t) (n - 1)))→R (none,n) t):wpS (model P w) A E s (ascLoop a e) R t:=by
 unfold ascLoop
 refine wpS_forRange (I:=fun i b u=>b=(none,i)∧u=t∧SortedToK κ (arrOf t) i) (fun i b u hi1 hi2 hI=>?_) (fun b u hI=>?_) ⟨rfl,rfl,up⟩
 ·obtain ⟨rfl,rfl,hup⟩:=hI
  apply wpS_bind
  apply pZ hA m hk (by show i < z.size;omega) (by show i - 1 < z.size;omega)
  show wpS (model P w) A E s (if κ.blt (KK κ (arrOf u) i) (KK κ (arrOf u) (i - 1))=true then _ else _) _ u
  cases c:κ.blt (KK κ (arrOf u) i) (KK κ (arrOf u) (i - 1)) with
  | true=>rw [if_pos rfl];exact wpS_pure (h i hi1 (by omega) hup fun _=>c)
  | false=>rw [if_neg TJ];exact wpS_pure ⟨rfl,rfl,rise hup (by omega) c⟩
 ·obtain ⟨rfl,rfl,hup⟩:=hI
  have em:max a e=e:=by omega
  rw [em] at hup ⊢
  exact h e Nl (Tz e) hup fun c=>absurd c (UQ e)
theorem wj (hA:Ask P w A s κ kd) (hk:KeysOf κ z) (m:Mid kd z t) {n e:Nat} (he:e≤z.size) (h1:1≤n) (hne:n≤e) (dn:NonIncK κ (arrOf t) n) {R:Option Nat→SortSt→Prop}
 (h:∀ i u,Mid kd z u→1≤i→i≤e→SortedToK κ (arrOf u) i→R (some i) u):wpS (model P w) A E s (tail3 n e) R t:=by
 have hz:n≤(arrOf t).size:=by have:=m.sz;omega
 have m2:=m.put (mirror_perm (arrOf t) 0 n ((n - 0) / 2))
 unfold tail3
 apply wpS_bind
 apply wpS_reverse
 apply wpS_bind
 refine zF hA hk m2 he h1 hne (fun i j hij hj=>?_) fun i h2 h3 up _=>wpS_pure (h i _ m2 (by omega) h3 up)
 show κ.kle (KK κ (mirror (arrOf t) 0 n ((n - 0) / 2)) i) (KK κ (mirror (arrOf t) 0 n ((n - 0) / 2)) j)
 rw [KK_mirror hz i,KK_mirror hz j,if_pos ⟨UD i,by omega⟩,if_pos ⟨UD j,hj⟩]
 exact dn _ _ (by omega) (by omega)
def Ca (κ:KeyKind) (y:Array Keyed) (n q:Nat):Prop:=q+1≤n∧∀ i,n - (q+1)≤i→i < n→KK κ y i=KK κ y (n - 1)
theorem Cb {y:Array Keyed} {n:Nat} (h:1≤n):Ca κ y n 0:=by
 refine ⟨by omega,fun i h1 h2=>?_⟩
 obtain rfl:i=n - 1:=by omega
 rfl
theorem Cc (hA:Ask P w A s κ kd) (hk:KeysOf κ z) (m:Mid kd z t) {a e:Nat} (he:e≤z.size) (h1:1≤a) (Nl:a≤e) (dn:NonIncK κ (arrOf t) a) {R:DescSt→SortSt→Prop}
 (h:∀ n q u,Mid kd z u→a≤n→n≤e→NonIncK κ (arrOf u) n→Ca κ (arrOf u) n q→R (none,n,q) u):wpS (model P w) A E s (descLoop a e) R t:=by
 unfold descLoop
 refine wpS_forRange (I:=fun i b u=>Mid kd z u∧NonIncK κ (arrOf u) i∧∃ q,Ca κ (arrOf u) i q∧b=(none,i,q)) (fun i b u hi1 hi2 hI=>?_) (fun b u hI=>?_) ⟨m,dn,0,Cb h1,rfl⟩
 ·obtain ⟨mu,hd,q,hq,rfl⟩:=hI
  have hz:i≤(arrOf u).size:=by have:=mu.sz;omega
  apply wpS_bind
  apply pZ hA mu hk (by show i < z.size;omega) (by show i - 1 < z.size;omega)
  show wpS (model P w) A E s (if κ.blt (KK κ (arrOf u) i) (KK κ (arrOf u) (i - 1))=true then _ else _) _ u
  cases c:κ.blt (KK κ (arrOf u) i) (KK κ (arrOf u) (i - 1)) with
  | true=>
    rw [if_pos rfl]
    have lower:NonIncK κ (arrOf u) (i+1):=ED hd (by omega) (KeyOrd.kle_of_klt c)
    show wpS (model P w) A E s (if q > 0 then _ else _) _ u
    by_cases d:q > 0
    ·rw [if_pos d]
     apply wpS_bind
     apply wpS_reverse
     have same:=KK_mirror_equal (κ:=κ) hz hq.2
     refine wpS_pure ⟨mu.put (mirror_perm _ _ _ _),fun x y hxy hy=>?_,0,Cb (by omega),rfl⟩
     show κ.kle (KK κ (mirror (arrOf u) (i - (q+1)) i _) y) (KK κ (mirror (arrOf u) (i - (q+1)) i _) x)
     rw [same,same]
     exact lower x y hxy hy
    ·rw [if_neg d]
     exact wpS_pure ⟨mu,lower,0,Cb (by omega),rfl⟩
  | false=>
    rw [if_neg TJ]
    apply wpS_bind
    apply pZ hA mu hk (by show i - 1 < z.size;omega) (by show i < z.size;omega)
    show wpS (model P w) A E s (if κ.blt (KK κ (arrOf u) (i - 1)) (KK κ (arrOf u) i)=true then _ else _) _ u
    cases d:κ.blt (KK κ (arrOf u) (i - 1)) (KK κ (arrOf u) i) with
    | true=>rw [if_pos rfl];exact wpS_pure (h i q u mu hi1 (by omega) hd hq)
    | false=>
      rw [if_neg TJ]
      have alike:KK κ (arrOf u) i=KK κ (arrOf u) (i - 1):=κ.total _ _ c d
      refine wpS_pure ⟨mu,ED hd (by omega) d,q+1,⟨by have:=hq.1;omega,fun x h2 h3=>?_⟩,rfl⟩
      rw [Nat.add_sub_cancel]
      rcases Vy x i with g | g
      ·rw [alike];exact hq.2 x (by omega) g
      ·obtain rfl:x=i:=by omega
       rfl
 ·obtain ⟨mu,hd,q,hq,rfl⟩:=hI
  have em:max a e=e:=by omega
  rw [em] at hd hq ⊢
  exact h e q u mu Nl (Tz e) hd hq
theorem wm (hA:Ask P w A s κ kd) (hk:KeysOf κ z) (m:Mid kd z t) {n e:Nat} (he:e≤z.size) (hne:n+1≤e) (dn:NonIncK κ (arrOf t) (n+1)) {R:Option Nat→SortSt→Prop}
 (h:∀ i u,Mid kd z u→1≤i→i≤e→SortedToK κ (arrOf u) i→R (some i) u):wpS (model P w) A E s (descPart n e) R t:=by
 unfold descPart
 apply wpS_bind
 refine wpS_lift (wpAny_rule ⟨rfl,?_⟩)
 apply wpS_bind
 refine Cc hA hk m he (by omega) hne dn fun i q u mu h2 h3 hd hq=>?_
 have hz:i≤(arrOf u).size:=by have:=mu.sz;omega
 show wpS (model P w) A E s (if q > 0 then _ else _) R u
 by_cases d:q > 0
 ·rw [if_pos d]
  apply wpS_bind
  apply wpS_reverse
  have same:=KK_mirror_equal (κ:=κ) hz hq.2
  refine wj hA hk (mu.put (mirror_perm _ _ _ _)) he (by omega) h3 (fun x y hxy hy=>?_) h
  show κ.kle (KK κ (mirror (arrOf u) (i - (q+1)) i _) y) (KK κ (mirror (arrOf u) (i - (q+1)) i _) x)
  rw [same,same]
  exact hd x y hxy hy
 ·rw [if_neg d]
  exact wj hA hk mu he (by omega) h3 hd h
theorem AN (hA:Ask P w A s κ kd) (hk:KeysOf κ z) (m:Mid kd z t) {e:Nat} (he:e≤z.size) (h1:1≤e) {R:Option Nat→SortSt→Prop}
 (h:∀ i u,Mid kd z u→1≤i→i≤e→SortedToK κ (arrOf u) i→R (some i) u):wpS (model P w) A E s (countRun' 0 e) R t:=by
 rw [countRun0_eq]
 apply wpS_bind
 refine zF hA hk m he (Tz 1) h1 (one_up _) fun n h2 h3 up stop=>?_
 show wpS (model P w) A E s (if (n == e)=true then _ else _) R t
 by_cases c:n=e
 ·rw [if_pos (beq_iff_eq.mpr c)]
  exact wpS_pure (h n t m h2 h3 up)
 ·rw [if_neg fun q=>c (beq_iff_eq.mp q)]
  have less:=stop (by omega)
  by_cases d:n > 1
  ·rw [if_pos d]
   apply wpS_bind
   apply pZ hA m hk (by omega) (by show n - 1 < z.size;omega)
   show wpS (model P w) A E s (if κ.blt (KK κ (arrOf t) 0) (KK κ (arrOf t) (n - 1))=true then _ else _) R t
   cases g:κ.blt (KK κ (arrOf t) 0) (KK κ (arrOf t) (n - 1)) with
   | true=>rw [if_pos rfl];exact wpS_pure (h n t m h2 h3 up)
   | false=>
     rw [if_neg TJ]
     have hz:n≤(arrOf t).size:=by have:=m.sz;omega
     have one:∀ i,i < n→KK κ (arrOf t) i=KK κ (arrOf t) (n - 1):=fun i hi=>
      KeyOrd.kle_antisymm (up i (n - 1) (by omega) (by omega)) (KeyOrd.kle_trans (show κ.kle (KK κ (arrOf t) (n - 1)) (KK κ (arrOf t) 0) from g) (up 0 i (UD i) hi))
     have same:=KK_mirror_equal (κ:=κ) hz (fun i (_:0≤i) hi=>one i hi)
     apply wpS_bind
     apply wpS_reverse
     refine wm hA hk (m.put (mirror_perm _ _ _ _)) he (by omega) (ED (fun x y hxy hy=>?_) (by omega) ?_) h
     ·show κ.kle (KK κ (mirror (arrOf t) 0 n _) y) (KK κ (mirror (arrOf t) 0 n _) x)
      rw [same,same,one x (by omega),one y hy]
      exact KeyOrd.kle_refl _
     ·show κ.kle (KK κ (mirror (arrOf t) 0 n _) n) (KK κ (mirror (arrOf t) 0 n _) (n - 1))
      rw [same,same]
      exact KeyOrd.kle_of_klt less
  ·rw [if_neg d]
   obtain rfl:n=1:=by omega
   exact wm hA hk m he (by omega) (ED (HL _) (Tz 1) (KeyOrd.kle_of_klt less)) h
structure Cut (κ:KeyKind) (y:Array Keyed) (k l r:Nat):Prop where
 lr:l≤r
 rk:r≤k
 lo:∀ i,i < l→κ.kle (KK κ y i) (KK κ y k)
 hi:∀ i,r≤i→i < k→κ.klt (KK κ y k) (KK κ y i)
theorem Cut.put {y:Array Keyed} {k l:Nat} (c:Cut κ y k l l) (hk:k < y.size) (up:SortedToK κ y k):SortedToK κ (bubble y k (k - l)) (k+1):=by
 have hl:=c.rk
 have at':∀ i,KK κ (bubble y k (k - l)) i=if i=l then KK κ y k else if l < i∧i≤k then KK κ y (i - 1) else KK κ y i:=fun i=>by
  have:=KK_bubble (κ:=κ) hk (Nat.sub_le k l) i
  have e:k - (k - l)=l:=by omega
  rw [e] at this
  exact this
 intro i j hij hj
 rw [at' i,at' j]
 by_cases i1:i=l
 ·rw [if_pos i1]
  by_cases j1:j=l
  ·rw [if_pos j1];exact KeyOrd.kle_refl _
  ·rw [if_neg j1,if_pos ⟨by omega,by omega⟩]
   exact KeyOrd.kle_of_klt (c.hi _ (by omega) (by omega))
 ·rw [if_neg i1]
  by_cases i2:l < i∧i≤k
  ·rw [if_pos i2,if_neg (by omega),if_pos ⟨by omega,by omega⟩]
   exact up _ _ (by omega) (by omega)
  ·rw [if_neg i2]
   by_cases j1:j=l
   ·rw [if_pos j1];exact c.lo i (by omega)
   ·rw [if_neg j1]
    by_cases j2:l < j∧j≤k
    ·rw [if_pos j2];exact up _ _ (by omega) (by omega)
    ·rw [if_neg j2];exact up _ _ hij (by omega)
theorem EE (hA:Ask P w A s κ kd) (hk:KeysOf κ z) (m:Mid kd z t) {n o:Nat} (hn:n≤z.size) (ho:o≤n) (up:SortedToK κ (arrOf t) o) {R:Bool→SortSt→Prop}
 (h:∀ u,Mid kd z u→SortedToK κ (arrOf u) n→R true u):wpS (model P w) A E s (binarySort' 0 n o) R t:=by
 rw [binarySort'_eq]
 simp only [Nat.zero_add]
 apply wpS_bind
 refine wpS_mono (wpS_forRange (I:=fun k b u=>b=(none,())∧Mid kd z u∧(k≤n→SortedToK κ (arrOf u) k)∧(n < k→SortedToK κ (arrOf u) n)) (Q:=fun b u=>b=(none,())∧Mid kd z u∧SortedToK κ (arrOf u) n)
  (fun k b u hk1 hk2 hI=>?_) (fun b u hI=>?_) ⟨rfl,m,fun c=>?_,fun c=>?_⟩) fun b u hI=>?_
 ·obtain ⟨rfl,mu,up1,_⟩:=hI
  have Nm:=up1 (by omega)
  apply wpS_bind
  refine wpS_mono (wpS_forRange (I:=fun x b v=>v=u∧∃ l r,b=(none,l,r)∧Cut κ (arrOf u) k l r∧r - l≤k - x) (Q:=fun b v=>v=u∧∃ l,b=(none,l,l)∧Cut κ (arrOf u) k l l)
   (fun x b v _ hx hI=>?_) (fun b v hI=>?_) ⟨rfl,0,k,rfl,⟨UD k,Tz k,fun i hi=>absurd hi (Wm i),fun i h2 h3=>absurd h3 (VQ.mpr h2)⟩,Tz _⟩) fun b v hI=>?_
  ·obtain ⟨rfl,l,r,rfl,c,hw⟩:=hI
   show wpS (model P w) A E s (if l≥r then _ else _) _ v
   by_cases d:l≥r
   ·rw [if_pos d]
    obtain rfl:l=r:=Nat.le_antisymm c.lr d
    exact wpS_pure ⟨rfl,l,rfl,c⟩
   ·rw [if_neg d]
    have hrk:=c.rk
    apply wpS_bind
    apply pZ hA mu hk (by show k < z.size;omega) (by show (l+r) / 2 < z.size;omega)
    show wpS (model P w) A E s (if κ.blt (KK κ (arrOf v) k) (KK κ (arrOf v) ((l+r) / 2))=true then _ else _) _ v
    cases g:κ.blt (KK κ (arrOf v) k) (KK κ (arrOf v) ((l+r) / 2)) with
    | true=>
      rw [if_pos rfl]
      exact wpS_pure ⟨rfl,l,(l+r) / 2,rfl,⟨by omega,by omega,c.lo,fun i h2 h3=>KeyOrd.klt_of_klt_of_kle g (Nm _ i h2 h3)⟩,by omega⟩
    | false=>
      rw [if_neg TJ]
      exact wpS_pure ⟨rfl,(l+r) / 2+1,r,rfl,⟨by omega,by omega,fun i h2=>KeyOrd.kle_trans (Nm i _ (by omega) (by omega)) g,c.hi⟩,by omega⟩
  ·obtain ⟨rfl,l,r,rfl,c,hw⟩:=hI
   have e:max 0 k=k:=by omega
   rw [e] at hw
   obtain rfl:l=r:=by have:=c.lr;omega
   exact ⟨rfl,l,rfl,c⟩
  ·obtain ⟨rfl,l,rfl,c⟩:=hI
   show wpS (model P w) A E s (moveDown' k l >>= fun _=>pure (ForInStep.yield (none,()))) _ v
   rw [moveDown'_eq]
   apply wpS_bind
   apply wpS_modify
   have hz:k < (arrOf v).size:=by have:=mu.sz;omega
   exact wpS_pure ⟨rfl,mu.put (bubble_perm _ _ _),fun _=>c.put hz Nm,fun q=>by omega⟩
 ·obtain ⟨rfl,mu,up1,Qo⟩:=hI
  refine ⟨rfl,mu,?_⟩
  rcases Vy n (max (max o 1) n) with c | c
  ·exact Qo c
  ·have e:max (max o 1) n=n:=by omega
   rw [e] at up1
   exact up1 (Tz n)
 ·rcases WH o with q | q
  ·have e:max o 1=1:=by omega
   rw [e];exact one_up _
  ·have e:max o 1=o:=by omega
   rw [e];exact up
 ·have e:n=0:=by omega
  subst e
  exact fun i j _ hj=>absurd hj (Wm j)
 ·obtain ⟨rfl,mu,up'⟩:=hI
  exact wpS_pure (h u mu up')
structure AO (κ:KeyKind) (z:Array Keyed) (t:SortSt):Prop where
 pm:(arrOf t).Perm z
 ok:failedOf t=none
 one:pendingOf t= #[(0,z.size,0)]
 up:SortedToK κ (arrOf t) z.size
theorem Mid.fin (m:Mid kd z t) (up:SortedToK κ (arrOf t) z.size):AO κ z (setPending t ((pendingOf t).push (0,z.size,0))):=
 ⟨m.pm,m.ok,by show (pendingOf t).push (0,z.size,0)= #[(0,z.size,0)];rw [m.no];rfl,up⟩
theorem EF (hA:Ask P w A s κ kd) (hk:KeysOf κ z) (m:Mid kd z t) (h2:2≤z.size) (h64:z.size < 64) {R:Unit→SortSt→Prop} (h:∀ u,AO κ z u→R () u):wpS (model P w) A E s sortRuns' R t:=by
 have low:minRun' z.size z.size 0=z.size:=by
  obtain ⟨k,hk⟩:∃ k,z.size=k+1:=⟨z.size - 1,by omega⟩
  have:minRun' (k+1) z.size 0=z.size+0:=by rw [minRun'_succ,if_pos h64]
  rw [← hk] at this
  exact this
 rw [sortRuns'_eq]
 apply wpS_bind;apply wpS_get
 dsimp only
 simp only [m.sz,low]
 apply wpS_bind
 refine wpS_mono (wpS_forRange (I:=fun x b u=>if x=0 then b=(none,0)∧Mid kd z u else b=(none,z.size)∧AO κ z u) (Q:=fun b u=>b=(none,z.size)∧AO κ z u) (fun x b u _ hx hI=>?_) (fun b u hI=>?_) ?_) fun b u hI=>?_
 ·by_cases c:x=0
  ·subst c
   obtain ⟨rfl,mu⟩:b=(none,0)∧Mid kd z u:=by simpa using hI
   dsimp only
   rw [if_neg (by omega:¬ (0≥z.size))]
   simp only [WK,Wd,Nat.zero_add]
   apply wpS_bind
   refine AN hA hk mu (Tz _) (by omega) fun i v mv h3 h4 up=>?_
   dsimp only
   by_cases d:i < z.size
   ·rw [if_pos d]
    apply wpS_bind
    refine wpS_lift (wpAny_rule ⟨rfl,?_⟩)
    apply wpS_bind
    refine EE hA hk mv (Tz _) h4 up fun v' OS up'=>?_
    simp only [UA,TH,if_false]
    apply wpS_bind;apply wpS_get
    have e:(pendingOf v').back?=none:=by rw [OS.no];rfl
    rw [e]
    dsimp only
    apply wpS_bind
    apply wpS_modify
    exact wpS_pure ⟨rfl,OS.fin up'⟩
   ·rw [if_neg d]
    obtain rfl:i=z.size:=by omega
    apply wpS_bind;apply wpS_get
    have e:(pendingOf v).back?=none:=by rw [mv.no];rfl
    rw [e]
    dsimp only
    apply wpS_bind
    apply wpS_modify
    exact wpS_pure ⟨rfl,mv.fin up⟩
  ·obtain ⟨rfl,fu⟩:b=(none,z.size)∧AO κ z u:=by simpa [c] using hI
   dsimp only
   rw [if_pos (Tz z.size)]
   exact wpS_pure ⟨rfl,fu⟩
 ·have c:max 0 z.size≠0:=by omega
  rw [if_neg c] at hI
  exact hI
 ·exact ⟨rfl,m⟩
 ·obtain ⟨rfl,fu⟩:=hI
  dsimp only
  apply wpS_bind
  refine wpS_mono (wpS_forRange (I:=fun _ b v=>b=(none,())∧v=u) (Q:=fun b v=>b=(none,())∧v=u) (fun x b v _ _ hI=>?_) (fun _ _ hI=>hI) ⟨rfl,rfl⟩) fun b v hI=>?_
  ·obtain ⟨rfl,rfl⟩:=hI
   apply wpS_bind;apply wpS_get
   rw [if_pos (by rw [fu.one];exact Tz 1)]
   exact wpS_pure ⟨rfl,rfl⟩
  ·obtain ⟨rfl,rfl⟩:=hI
   exact wpS_pure (h v fu)
end
end L3
namespace L3
open PySem PySem.Spec PyProof.Rows
section
variable {P:Program} {w:World} {A:Around} {E:Value→Shared→Prop} {s:Shared} {κ:KeyKind} {kd:SortKind}
def jH (h h':Heap):Prop:= ∀ b o,h.get? b=some o→h'.get? b=some o
theorem EG {a:Addr} {vs:List Value} {n:Nat} {R:Fin→Shared→Prop} (ho:s.heap.get? a=some (seqObj "list" vs.toArray n)) (hk:KeysOf κ (pairsOf vs))
 (hd:∀ (t:Shared) (E:Value→Shared→Prop) (Q:SortKind→Shared→Prop),(∀ b o,b≠a→s.heap.get? b=some o→t.heap.get? b=some o)→2≤vs.length→Q kd t→wpAny (model P w) A (keyKind' vs.toArray) Q E t)
 (hA:∀ t:Shared,(∀ b o,b≠a→s.heap.get? b=some o→t.heap.get? b=some o)→Ask P w A t κ kd) (h64:vs.length < 64)
 (h:∀ y:Array Keyed,y.Perm (pairsOf vs)→SortedToK κ y (pairsOf vs).size→R (.done (.ret .none)) { s with heap:=sortedHeap s.heap a vs (y.map (·.2)) }) :
 wpAny (model P w) A (Builtin.«list.sort» ⟨[.ref a],[]⟩) R E s:=by
 have la:a < s.heap.objs.size:=Heap.lt_size ho
 have lz:vs.length≤sizeLine:=by rw [sizeLine_eq];omega
 rw [list_sort_plain]
 apply wpAny_bind;apply listItems_at ho rfl
 refine wpAny_bind (listUpdate_at ho rfl ?_ (hsz:=by simp only [Tv];omega) (hsz2:=UD _))
 obtain ⟨e,h1⟩:∃ e,(s.heap.update a (Obj.mapSeq fun _=> #[])).get? a=some (seqObj "list" #[] e):=⟨_,get?_update_seq ho fun _=> #[]⟩
 apply wpAny_bind;apply seqEpoch_at h1 rfl
 refine wpAny_bind (wpAny_newTuple (hsz:=lz) ?_)
 refine wpAny_bind (wpAny_newList (hsz:=UD _) ?_)
 apply wpAny_holding
 show wpAny (model P w) A _ R E { s with heap:=((s.heap.update a (Obj.mapSeq fun _=> #[])).push (seqObj "tuple" vs.toArray 0)).push (seqObj "list" #[] 0) }
 generalize hh:((s.heap.update a (Obj.mapSeq fun _=> #[])).push (seqObj "tuple" vs.toArray 0)).push (seqObj "list" #[] 0)=g
 have g1:g.get? a=some (seqObj "list" #[] e):=by
  rw [← hh,Heap.get?_push_ne _ _ _ (by rw [size_push',Heap.size_update];exact Ue (UN la)),Heap.get?_push_ne _ _ _ (by rw [Heap.size_update];exact Ue la)]
  exact h1
 have g2:∀ b o,b≠a→s.heap.get? b=some o→g.get? b=some o:=fun b o hb q=>by
  have lb:=Heap.lt_size q
  rw [← hh,Heap.get?_push_ne _ _ _ (by rw [size_push',Heap.size_update];exact Ue (UN lb)),Heap.get?_push_ne _ _ _ (by rw [Heap.size_update];exact Ue lb),Heap.get?_update_ne _ _ _ _ hb]
  exact q
 have fin:∀ y:Array Keyed,y.Perm (pairsOf vs)→SortedToK κ y (pairsOf vs).size→R (.done (.ret .none)) { s with heap:=g.update a (Obj.mapSeq fun _=>y.map (·.2)) }:=fun y h2 h3=>by rw [← hh];exact h y h2 h3
 dsimp only
 have zv:vs.toArray.size=vs.length:=by simp
 have room:∀ y:Array Keyed,y.Perm (pairsOf vs)→(y.map (·.2)).size≤sizeLine+1:=fun y q=>by
  rw [Array.size_map,q.size_eq,pairsOf_size,sizeLine_eq];omega
 by_cases c:vs.toArray.size < 2
 ·rw [if_pos c,if_pos c]
  apply wpAny_bind;apply wpAny_pure
  rw [StateT.run_pure]
  apply wpAny_bind;apply wpAny_pure
  dsimp only
  apply wpAny_bind;apply seqEpoch_at g1 rfl
  apply wpAny_bind
  refine listUpdate_at g1 rfl ?_ (hsz2:=room (pairsOf vs) (Array.Perm.refl _))
  simp only [bne_self_eq_false,TH,if_false]
  refine wpAny_pure (fin (pairsOf vs) (Array.Perm.refl _) fun i j hij hj=>?_)
  obtain rfl:i=j:=by rw [pairsOf_size] at hj;omega
  exact KeyOrd.kle_refl _
 ·rw [if_neg c,if_neg c]
  apply wpAny_bind
  refine hd _ _ _ g2 (by omega) ?_
  apply wpAny_bind
  refine wpAny_mono (EF (z:=pairsOf vs) (t:=SortSt.mk' kd (pairsOf vs) #[] 7 none) (R:=fun _ u=>AO κ (pairsOf vs) u) (hA _ g2) hk ⟨Array.Perm.refl _,rfl,rfl,rfl⟩ (by rw [pairsOf_size];omega) (by rw [pairsOf_size];exact h64) fun u q=>q) (fun r s' q=>?_) fun _ _ q=>q
  obtain ⟨⟨⟩,u⟩:=r
  obtain ⟨rfl,fu⟩:=q
  dsimp only
  apply wpAny_bind;apply seqEpoch_at g1 rfl
  apply wpAny_bind
  refine listUpdate_at g1 rfl ?_ (hsz2:=room (arrOf u) fu.pm)
  rw [fu.ok]
  simp only [bne_self_eq_false,TH,if_false]
  exact wpAny_pure (fin (arrOf u) fu.pm fu.up)
theorem sY {l:Addr} {vs:List Value} {Q:Value→Shared→Prop} (hl:s.heap.IsList l vs.toArray) (hk:KeysOf κ (pairsOf vs))
 (hd:∀ (t:Shared) (E:Value→Shared→Prop) (Q:SortKind→Shared→Prop),jH s.heap t.heap→2≤vs.length→Q kd t→wpAny (model P w) A.in1.in1 (keyKind' vs.toArray) Q E t)
 (hA:∀ t:Shared,jH s.heap t.heap→Ask P w A.in1.in1 t κ kd) (h64:vs.length < 64)
 (h:∀ y:Array Keyed,y.Perm (pairsOf vs)→SortedToK κ y (pairsOf vs).size→Q (.ref (s.heap.objs.size+1)) { s with heap:=sortedAll s.heap vs (y.map (·.2)) }) :
 wpAny (model P w) A (call (.builtin "sorted") [.ref l]) Q E s:=by
 refine Calls.call_function_entry kind_sorted plain_sorted entry_sorted (args_sorted1 _) ?_
 unfold Builtin.«sorted»
 refine wpAny_bind (m:=checkCount "sorted" 1 1 _) (wpAny_pure ?_)
 have lz:vs.length≤sizeLine:=by rw [sizeLine_eq];omega
 refine wpAny_bind (collect_list hl (hsz:=lz) ?_)
 refine wpAny_bind (wpAny_newList (hsz:=lz) ?_)
 show wpAny (model P w) A.in1 _ _ _ { s with heap:=((s.heap.push (seqObj "list" #[] 0)).update s.heap.objs.size (Obj.mapSeq (· ++ vs.toArray))).push (seqObj "list" vs.toArray 0) }
 generalize hg:(s.heap.push (seqObj "list" #[] 0)).update s.heap.objs.size (Obj.mapSeq (· ++ vs.toArray))=g
 have gz:g.objs.size=s.heap.objs.size+1:=by rw [← hg,Heap.size_update,size_push']
 have gk:jH s.heap g:=fun b o q=>by
  have lb:=Heap.lt_size q
  rw [← hg,Heap.get?_update_ne _ _ _ _ (Ue lb),Heap.get?_push_ne _ _ _ (Ue lb)]
  exact q
 have fin:∀ y:Array Keyed,y.Perm (pairsOf vs)→SortedToK κ y (pairsOf vs).size→Q (.ref (s.heap.objs.size+1)) { s with heap:=sortedHeap (g.push (seqObj "list" vs.toArray 0)) (s.heap.objs.size+1) vs (y.map (·.2)) }:=fun y h1 h2=>by rw [← hg];exact h y h1 h2
 rw [gz]
 have at':(g.push (seqObj "list" vs.toArray 0)).get? (s.heap.objs.size+1)=some (seqObj "list" vs.toArray 0):=by rw [← gz];exact Heap.get?_push_size _ rfl
 have LJ:∀ b o,s.heap.get? b=some o→b≠s.heap.objs.size+1∧(g.push (seqObj "list" vs.toArray 0)).get? b=some o:=fun b o q=>by
  have lb:=Heap.lt_size q
  have lc:=Ue (UN lb)
  refine ⟨lc,?_⟩
  rw [Heap.get?_push_ne _ _ _ (by rw [gz];exact lc)]
  exact gk b o q
 apply wpAny_bind;apply wpAny_holding
 refine wpAny_call_entry slot_list_sort ⟨_,at',rfl⟩ entry_list_sort (EG (κ:=κ) (kd:=kd) at' hk (fun t E Q hg=>hd t E Q fun b o q=>hg b o (LJ b o q).1 (LJ b o q).2) (fun t hg=>hA t fun b o q=>hg b o (LJ b o q).1 (LJ b o q).2) h64 fun y h1 h2=>⟨_,rfl,?_⟩) (args_list_sort _)
 exact wpAny_pure ⟨_,rfl,fin y h1 h2⟩
end
end L3
namespace L3
open PySem PySem.Spec PyProof.Rows
def kN (h:Heap) (v:Value) (p:Pl):Prop:= ∃ (a:Addr) (o:Obj) (t u:Tok) (n:Nat),v= .ref a∧h.get? a=some o∧o.cls= .type "tuple"∧o.data= .seq #[.int p.x t,.int p.y u] n
theorem kN.grow {h h':Heap} {v:Value} {p:Pl} (a:kN h v p) (g:jH h h'):kN h' v p:=by
 obtain ⟨b,o,t,u,n,h1,h2,h3,h4⟩:=a
 exact ⟨b,o,t,u,n,h1,g _ _ h2,h3,h4⟩
theorem kN.inj {h:Heap} {v:Value} {p q:Pl} (a:kN h v p) (b:kN h v q):p=q:=by
 obtain ⟨a1,o,t,u,n,rfl,h2,h3,h4⟩:=a
 obtain ⟨a2,o',t',u',n',e,k2,k3,k4⟩:=b
 injection e with e
 subst e
 rw [h2] at k2
 injection k2 with k2
 subst k2
 rw [h4] at k4
 injection k4 with k4 _
 cases p;cases q
 simp at k4
 obtain ⟨⟨e1,_⟩,e2,_⟩:=k4
 rw [e1,e2]
open Classical in
noncomputable def Bs (h:Heap):KeyKind where
 α:=Pl
 blt p q:=decide (aG p q)
 irrefl p:=decide_eq_false (bf p)
 trans p q r a b:=decide_eq_true (bx (of_decide_eq_true a) (of_decide_eq_true b))
 negTrans p q r a:=by
  have a:=of_decide_eq_true a
  rcases bD p q with c | c | c
  ·exact .inl (decide_eq_true c)
  ·subst c;exact .inr (decide_eq_true a)
  ·exact .inr (decide_eq_true (bx c a))
 total p q a b:=by
  rcases bD p q with c | c | c
  ·exact absurd c (of_decide_eq_false a)
  ·exact c
  ·exact absurd c (of_decide_eq_false b)
 keyOf v:=if e:∃ p,kN h v p then some e.choose else none
 dflt:=⟨0,0⟩
open Classical in
theorem zG {h:Heap} {v:Value} {p:Pl} (a:kN h v p):(Bs h).keyOf v=some p:=by
 have e:∃ p,kN h v p:=⟨p,a⟩
 show (if e:∃ p,kN h v p then some e.choose else none)=some p
 rw [dif_pos e,kN.inj e.choose_spec a]
open Classical in
theorem Cd {h:Heap} {v:Value} {p:Pl} (a:(Bs h).keyOf v=some p):kN h v p:=by
 have a:(if e:∃ p,kN h v p then some e.choose else none)=some p:=a
 by_cases e:∃ p,kN h v p
 ·rw [dif_pos e] at a
  have:=e.choose_spec
  rwa [Option.some.inj a] at this
 ·rw [dif_neg e] at a;cases a
section
variable {P:Program} {w:World} {A:Around} {E:Value→Shared→Prop} {s:Shared}
theorem sZ (f:Bool) (v u:Value):keyLt' (tuples' f) v u=(do
 let a ← Builtin.List.listItems v;let b ← Builtin.List.listItems u
 for ((c,d),k) in (a.toList.zip b.toList).zipIdx do { if !(← eqBool c d) then return ← oneLt' (f && k == 0) c d }
 return a.size < b.size):=rfl
theorem p7 {b:Bool} {i j:Int} {t u:Tok} {Q:Bool→Shared→Prop} (h:Q (decide (i < j)) s):wpAny (model P w) A (oneLt' b (.int i t) (.int j u)) Q E s:=by
 cases b with
 | true=>exact oneLt_int h
 | false=>
   rw [oneLt'_eq]
   simp only [TH,if_false]
   apply wpAny_bind
   refine (lt_int ?_:wpAny (model P w) A (compareOp .Lt (.int i t) (.int j u)) _ E s)
   exact wpAny_truthy_bool h
theorem Ku {t:Shared} {x y:Value} {p q:Pl} {f:Bool} {R:Bool→Shared→Prop} (kx:kN t.heap x p) (ky:kN t.heap y q) (hR:R (decide (aG p q)) t):wpAny (model P w) A (keyLt' (tuples' f) x y) R E t:=by
 obtain ⟨a,o,t1,u1,n1,rfl,h2,h3,h4⟩:=kx
 obtain ⟨b,o',t2,u2,n2,rfl,k2,k3,k4⟩:=ky
 rw [sZ]
 apply wpAny_bind;apply listItems_at h2 h4
 apply wpAny_bind;apply listItems_at k2 k4
 simp only [UY,Vw,V9,Wn,Vk,Vz,bind_assoc]
 apply wpAny_bind
 apply wpAny_eqBool_int
 by_cases ex:p.x=q.x
 ·have e:(p.x == q.x)=true:=beq_iff_eq.mpr ex
  rw [e]
  simp only [UA,TH,if_false,pure_bind,bind_assoc]
  apply wpAny_bind
  apply wpAny_eqBool_int
  by_cases ey:p.y=q.y
  ·have e:(p.y == q.y)=true:=beq_iff_eq.mpr ey
   rw [e]
   simp only [UA,TH,if_false,pure_bind]
   have en:decide (aG p q)=false:=decide_eq_false (by unfold aG;omega)
   rw [en] at hR
   exact wpAny_pure hR
  ·have e:(p.y == q.y)=false:=beq_eq_false_iff_ne.mpr ey
   rw [e]
   simp only [U5,if_true,bind_assoc,pure_bind]
   apply wpAny_bind
   apply p7
   have en:decide (aG p q)=decide (p.y < q.y):=by rw [decide_eq_decide];unfold aG;omega
   rw [en] at hR
   exact wpAny_pure hR
 ·have e:(p.x == q.x)=false:=beq_eq_false_iff_ne.mpr ex
  rw [e]
  simp only [U5,if_true,bind_assoc,pure_bind]
  apply wpAny_bind
  apply p7
  have en:decide (aG p q)=decide (p.x < q.x):=by rw [decide_eq_decide];unfold aG;omega
  rw [en] at hR
  exact wpAny_pure hR
theorem HM {h:Heap} {t:Shared} (g:jH h t.heap) (f:Bool):Ask P w A t (Bs h) (tuples' f):=
 ⟨fun E x y p q R kx ky hR=>Ku ((Cd kx).grow g) ((Cd ky).grow g) hR⟩
theorem lU {β:Type} {f:Value→Sem β} (R:Value→β→Prop):∀ (vs:List Value) (Q:List β→Shared→Prop),(∀ v∈vs,∀ (Q:β→Shared→Prop),(∀ b,R v b→Q b s)→wpAny (model P w) A (f v) Q E s)→
 (∀ bs:List β,Paired R vs bs→Q bs s)→wpAny (model P w) A (vs.mapM f) Q E s
 | [],Q,_,h=>by rw [List.mapM_nil];exact wpAny_pure (h [] .nil)
 | v :: vs,Q,hv,h=>by
   rw [List.mapM_cons]
   apply wpAny_bind
   refine hv v (TN ..) _ fun b rb=>?_
   apply wpAny_bind
   refine lU R vs _ (fun u hu=>hv u (Tn _ hu)) fun bs Qp=>?_
   exact wpAny_pure (h (b :: bs) (.cons rb Qp))
theorem tu (v:Value):firstOfTuple' v=(typeOf v >>= fun t=>if t != .type "tuple" then pure none else Builtin.List.listItems v >>= fun a=>pure a[0]?):=rfl
theorem EH {vs:List Value} (h2:1≤vs.length) (hv:∀ v∈vs,∃ p,kN s.heap v p) {Q:SortKind→Shared→Prop} (h:Q (tuples' true) s):wpAny (model P w) A (keyKind' vs.toArray) Q E s:=by
 rw [keyKind'_eq,VB]
 simp only [bind_map_left]
 apply wpAny_bind
 refine lU (fun _ b=> ∃ i t,b=some (Value.int i t)) vs _ (fun v hm Q hQ=>?_) fun bs hb=>?_
 ·obtain ⟨p,a,o,t,u,n,rfl,k2,k3,k4⟩:=hv v hm
  rw [tu]
  apply wpAny_bind
  refine wpAny_typeOf (T:= "tuple") ⟨o,k2,k3⟩ ?_
  have e:(Value.type "tuple" !=Value.type "tuple")=false:=by decide
  rw [e]
  simp only [TH,if_false,pure_bind]
  apply wpAny_bind;apply listItems_at k2 k4
  exact wpAny_pure (hQ _ ⟨p.x,t,rfl⟩)
 ·have all:∀ (vs:List Value) (bs:List (Option Value)),Paired (fun _ b=> ∃ i t,b=some (Value.int i t)) vs bs→bs.length=vs.length∧(∀ b∈bs,∃ i t,b=some (Value.int i t)):=by
   intro vs
   induction vs with
   | nil=>intro bs q;cases q;exact ⟨rfl,fun _ z=>by cases z⟩
   | cons v vs ih=>
     intro bs q
     cases q with
     | cons q1 q2=>
       obtain ⟨l,m⟩:=ih _ q2
       refine ⟨by simp [l],fun b hb=>?_⟩
       rcases Tp.mp hb with rfl | hb
       ·exact q1
       ·exact m b hb
  obtain ⟨hl,hm⟩:=all vs bs hb
  have c:(bs.toArray.all fun b=>b.isSome)=true:=by
   simp only [VI,Uz]
   intro b hb
   obtain ⟨i,t,rfl⟩:=hm b hb
   rfl
  rw [if_pos c]
  apply wpAny_bind;apply wpAny_rule
  rw [oneTypeOnly'_eq]
  have ef:bs.toArray.filterMap id=(bs.filterMap id).toArray:=by simp
  rw [ef,VB]
  simp only [bind_map_left,bind_assoc]
  apply wpAny_bind
  refine lU (fun _ b=>b=Value.type "int") _ _ (fun v hv' Q hQ=>?_) fun cs hc=>?_
  ·obtain ⟨b,hb1,hb2⟩:=Vv.mp hv'
   obtain ⟨i,t,rfl⟩:=hm b hb1
   have hb2:some (Value.int i t)=some v:=hb2
   cases hb2
   exact wpAny_typeOf (T:= "int") (typeIs_int s i t) (hQ _ rfl)
  ·have len:1≤(bs.filterMap id).length:=by
    cases bs with
    | nil=>simp at hl;omega
    | cons b bs=>
      obtain ⟨i,t,rfl⟩:=hm b (TN ..)
      simp
   have all2:∀ (us cs:List Value),Paired (fun _ b=>b=Value.type "int") us cs→cs=us.map fun _=>Value.type "int" :=by
    intro us
    induction us with
    | nil=>intro cs q;cases q;rfl
    | cons u us ih=>intro cs q;cases q with | cons q1 q2=>rw [q1,ih _ q2];rfl
   rw [all2 _ _ hc]
   generalize bs.filterMap id=us at len
   cases us with
   | nil=>simp at len
   | cons u us=>
     have e0:(List.map (fun _=>Value.type "int") (u :: us)).toArray[0]?=some (Value.type "int"):=by simp
     rw [e0]
     have e1:((List.map (fun _=>Value.type "int") (u :: us)).toArray.all fun x=>x == Value.type "int")=true:=by
      simp only [VI,Wb,Uz]
      intro _ _;rfl
     simp only [e1,if_true,pure_bind]
     exact wpAny_pure h
end
end L3
namespace L3
open PySem PySem.Spec PyProof.Rows
section
variable {P:Program} {w:World} {A:Around} {E:Value→Shared→Prop} {s:Shared}
theorem HN {h0:Heap} {I S:Addr} {fp wr:List Addr} {n:Nat} {Pr:Nat→Value→Prop} {St:Nat→Heap→Prop} {bt:Nat→Nat→Bool} {R:Result→Shared→Prop} (W:Walks P w A.in1 I fp wr n Pr St)
 (hc:∀ (i j:Nat) (vi vj:Value) (t:Shared) (Q:Value→Shared→Prop) (E:Value→Shared→Prop),jH h0 t.heap→Pr i vi→Pr j vj→Q (.bool (bt i j)) t→wpAny (model P w) A.in1 (richCompare .Lt vi vj) Q E t)
 (hS:S∉fp) (Jb:∀ b o,h0.get? b=some o→b∉wr∧b≠S):∀ (m k:Nat) (t:Shared) (vb:Value) (c:Nat),n - (k+1)=m→k+1≤n→jH h0 t.heap→St (k+1) t.heap→Pr (argBest bt k) vb→
 t.heap.get? S=some { cls:= .type "list",dict:=none,data:= .seq #[vb,vb] c,slots:= #[] }→
 (∀ v h' tk,Pr (argBest bt (n - 1)) v→(∀ b o,b∉wr→b≠S→t.heap.get? b=some o→h'.get? b=some o)→R (.ok (.ret v)) { t with heap:=h',toks:=tk })→
 codeAny (model P w) A (.builtin "min.loop" ⟨[.ref I,.none,.ref S],[]⟩) R t:=by
 have Sw:S∉wr:=fun q=>hS (W.sub _ q)
 have nm:(toString "min" ++ toString ".loop" :String)= "min.loop" :=by decide
 intro m
 induction m with
 | zero=>
   intro k t vb c e1 e2 gr st pb hs hR
   have ek:k+1=n:=by omega
   refine codeAny_builtin F.entry_min_loop ?_
   rw [Around.under_plainId F.plain_min_loop]
   show wpAny (model P w) A.in1 (seqItems? (.ref S) >>= _) _ _ t
   apply wpAny_bind;apply wpAny_seqItems hs rfl
   show wpAny (model P w) A.in1 (tryCatch (pyNext (.ref I)) _ >>= _) _ _ t
   apply wpAny_bind;apply wpAny_tryCatch
   refine W.done t _ _ (ek▸st) fun h' tk kp=>?_
   have hs2:=kp S _ Sw hs
   show wpAny (model P w) A.in1 (updateSeq S (fun _=> #[]) >>= _) _ _ _
   apply wpAny_bind
   refine wpAny_updateSeq hs2 rfl ?_
   apply wpAny_bind;apply wpAny_letGo;apply wpAny_pure
   exact hR vb _ tk (by rw [← ek];exact pb) fun b o q1 q2 q=>(Heap.get?_update_other _ _ (Ne.symm q2)).trans (kp b o q1 q)
 | succ m ih=>
   intro k t vb c e1 e2 gr st pb hs hR
   refine codeAny_builtin F.entry_min_loop ?_
   rw [Around.under_plainId F.plain_min_loop]
   show wpAny (model P w) A.in1 (seqItems? (.ref S) >>= _) _ _ t
   apply wpAny_bind;apply wpAny_seqItems hs rfl
   show wpAny (model P w) A.in1 (tryCatch (pyNext (.ref I)) _ >>= _) _ _ t
   apply wpAny_bind;apply wpAny_tryCatch
   refine W.item (k+1) t _ _ (by omega) st fun v h' tk pv st2 kp=>?_
   have hs2:=kp S _ Sw hs
   have Kv:jH h0 h':=fun b o q=>kp b o (Jb b o q).1 (gr b o q)
   show wpAny (model P w) A.in1 (tryCatch (holding [v,v] (richCompare .Lt v vb >>= _)) _ >>= _) _ _ _
   apply wpAny_bind;apply wpAny_tryCatch;apply wpAny_holding;apply wpAny_bind
   refine hc (k+1) (argBest bt k) v vb _ _ _ Kv pv pb ?_
   apply wpAny_bind;apply wpAny_holding;apply wpAny_truthy_bool
   apply wpAny_bind;apply wpAny_letGo;apply wpAny_pure
   cases d:bt (k+1) (argBest bt k) with
   | true=>
     rw [if_pos rfl]
     apply wpAny_bind
     refine wpAny_updateSeq hs2 rfl ?_
     apply wpAny_bind;apply wpAny_letGo
     rw [nm]
     refine wpAny_pure ⟨plainId_quiet F.plain_min_loop _,ih (k+1) _ v _ (by omega) (by omega) (fun b o q=>(Heap.get?_update_other _ _ (Ne.symm (Jb b o q).2)).trans (Kv b o q)) (W.frame _ _ _ st2 fun b q1 o q=>(Heap.get?_update_other _ _ (fun z:S=b=>hS (z▸q1))).trans q) (by simp only [argBest,d,if_true];exact pv) (Heap.get?_update_self _ hs2 rfl) fun v2 h2 Kw p2 HP=>?_⟩
     exact hR v2 h2 Kw p2 fun b o q1 q2 q=>HP b o q1 q2 ((Heap.get?_update_other _ _ (Ne.symm q2)).trans (kp b o q1 q))
   | false=>
     rw [if_neg TJ]
     apply wpAny_bind;apply wpAny_letGo
     rw [nm]
     refine wpAny_pure ⟨plainId_quiet F.plain_min_loop _,ih (k+1) _ vb c (by omega) (by omega) Kv st2 (by simp only [argBest,d,TH,if_false];exact pb) hs2 fun v2 h2 Kw p2 HP=>?_⟩
     exact hR v2 h2 Kw p2 fun b o q1 q2 q=>HP b o q1 q2 (kp b o q1 q)
theorem AQ {h0:Heap} {I S:Addr} {fp wr:List Addr} {n:Nat} {Pr:Nat→Value→Prop} {St:Nat→Heap→Prop} {bt:Nat→Nat→Bool} {R:Result→Shared→Prop} {t:Shared} {c:Nat} (W:Walks P w A.in1 I fp wr n Pr St)
 (hc:∀ (i j:Nat) (vi vj:Value) (t:Shared) (Q:Value→Shared→Prop) (E:Value→Shared→Prop),jH h0 t.heap→Pr i vi→Pr j vj→Q (.bool (bt i j)) t→wpAny (model P w) A.in1 (richCompare .Lt vi vj) Q E t)
 (hS:S∉fp) (Jb:∀ b o,h0.get? b=some o→b∉wr∧b≠S) (hn:0 < n) (gr:jH h0 t.heap) (st:St 0 t.heap) (hs:t.heap.get? S=some { cls:= .type "list",dict:=none,data:= .seq #[] c,slots:= #[] })
 (hR:∀ v h' tk,Pr (argBest bt (n - 1)) v→(∀ b o,b∉wr→b≠S→t.heap.get? b=some o→h'.get? b=some o)→R (.ok (.ret v)) { t with heap:=h',toks:=tk }) :
 codeAny (model P w) A (.builtin "min.loop" ⟨[.ref I,.none,.ref S],[]⟩) R t:=by
 have Sw:S∉wr:=fun q=>hS (W.sub _ q)
 have nm:(toString "min" ++ toString ".loop" :String)= "min.loop" :=by decide
 refine codeAny_builtin F.entry_min_loop ?_
 rw [Around.under_plainId F.plain_min_loop]
 show wpAny (model P w) A.in1 (seqItems? (.ref S) >>= _) _ _ t
 apply wpAny_bind;apply wpAny_seqItems hs rfl
 show wpAny (model P w) A.in1 (tryCatch (pyNext (.ref I)) _ >>= _) _ _ t
 apply wpAny_bind;apply wpAny_tryCatch
 refine W.item 0 t _ _ hn st fun v h' tk pv st2 kp=>?_
 have hs2:=kp S _ Sw hs
 have Kv:jH h0 h':=fun b o q=>kp b o (Jb b o q).1 (gr b o q)
 show wpAny (model P w) A.in1 (updateSeq S (fun _=> #[v,v]) >>= _) _ _ _
 apply wpAny_bind
 refine wpAny_updateSeq hs2 rfl ?_
 rw [nm]
 refine wpAny_pure ⟨plainId_quiet F.plain_min_loop _,HN W hc hS Jb _ 0 _ v _ rfl hn (fun b o q=>(Heap.get?_update_other _ _ (Ne.symm (Jb b o q).2)).trans (Kv b o q)) (W.frame _ _ _ st2 fun b q1 o q=>(Heap.get?_update_other _ _ (fun z:S=b=>hS (z▸q1))).trans q) pv (Heap.get?_update_self _ hs2 rfl) fun v2 h2 Kw p2 HP=>?_⟩
 exact hR v2 h2 Kw p2 fun b o q1 q2 q=>HP b o q1 q2 ((Heap.get?_update_other _ _ (Ne.symm q2)).trans (kp b o q1 q))
theorem Ce {vs:List Value} {bt:Nat→Nat→Bool} {Q:Value→Shared→Prop} (ha:argsOk "min" ⟨vs,[]⟩) (h2:2≤vs.length) (hz:vs.length < 64) (hh:A.handled=none)
 (hc:∀ (i j:Nat) (vi vj:Value) (t:Shared) (Q:Value→Shared→Prop) (E:Value→Shared→Prop),jH s.heap t.heap→vs[i]?=some vi→vs[j]?=some vj→Q (.bool (bt i j)) t→wpAny (model P w) A.in1 (richCompare .Lt vi vj) Q E t)
 (h:∀ v h' tk,vs[argBest bt (vs.length - 1)]?=some v→jH s.heap h'→Q v { s with heap:=h',toks:=tk }):wpAny (model P w) A (call (.builtin "min") vs) Q E s:=by
 have nm:(toString "min" ++ toString ".loop" :String)= "min.loop" :=by decide
 have lz:vs.length≤sizeLine:=by rw [sizeLine_eq];omega
 refine call_function_tree F.kind_min F.plain_min F.entry_min ha ?_
 match vs,h2 with
 | v1 :: v2 :: rest,_=>
   show wpAny (model P w) A.in1 (Builtin.Builtins.bindParams "min" ["key","default"] 0 ⟨[],[]⟩ >>= _) _ _ s
   refine wpAny_bind (wpAny_of_eq (show Builtin.Builtins.bindParams "min" ["key","default"] 0 ⟨[],[]⟩=pure [none,none] from rfl) ?_)
   show wpAny (model P w) A.in1 (newTuple (v1 :: v2 :: rest) >>= _) _ _ s
   refine wpAny_bind (wpAny_newTuple (hsz:=lz) ?_)
   have Cf:(s.heap.push { cls:= .type "tuple",data:= .seq (v1 :: v2 :: rest).toArray }).objs.size=s.heap.objs.size+1:=Heap.size_push ..
   have tp:(s.heap.push { cls:= .type "tuple",data:= .seq (v1 :: v2 :: rest).toArray }).IsTuple s.heap.objs.size (v1 :: v2 :: rest).toArray:=⟨_,Heap.get?_push_size _ rfl,rfl,0,rfl⟩
   refine wpAny_bind (wpAny_pyIter_tuple tp ?_)
   generalize hg:s.heap.push { cls:= .type "tuple",data:= .seq (v1 :: v2 :: rest).toArray }=g at Cf tp
   have k0:jH s.heap g:=fun b o q=>by rw [← hg];exact Heap.get?_push_of_some _ q
   apply wpAny_bind
   refine wpAny_newObj_type ?_
   have Nn:(g.push { cls:= .type "tuple_iterator",data:= .fields #[.ref s.heap.objs.size,.int 0 0] }).objs.size=s.heap.objs.size+2:=by rw [Heap.size_push,Cf]
   rw [nm]
   refine wpAny_pure ⟨plainId_quiet F.plain_min_loop _,AQ (h0:=s.heap) (Walks.tuple (A:=A.in1) hh _ s.heap.objs.size (by rw [Cf];exact Ue (VJ _)) (v1 :: v2 :: rest).toArray) (bt:=bt) (fun i j vi vj t Q E g1 p1 p2 q=>hc i j vi vj t Q E g1 (by simpa using p1) (by simpa using p2) q) ?_ (fun b o q=>?_) (by simp) (fun b o q=>Heap.get?_push_of_some _ (Heap.get?_push_of_some _ (k0 b o q))) ⟨⟨_,Heap.get?_push_of_some _ (Heap.get?_push_size _ rfl),rfl,rfl⟩,(tp.push _).push _⟩ (Heap.get?_push_size _ rfl) fun v h' tk p kp=>?_⟩
   ·intro q
    rw [Cf,Nn] at q
    rcases Tp.mp q with q | q
    ·exact absurd q (by intro z;exact absurd (Nat.succ.inj z) (Nat.succ_ne_self _))
    ·have q:=Tt.mp q
     exact absurd q (by intro z;have:s.heap.objs.size+2=s.heap.objs.size:=z;omega)
   ·have lb:=Heap.lt_size q
    rw [Cf,Nn]
    refine ⟨fun z=>?_,fun z=>?_⟩
    ·have z:=Tt.mp z
     rw [z] at lb
     exact absurd lb (VQ.mpr (Vc _))
    ·rw [z] at lb
     exact absurd lb (VQ.mpr (Uu _ 2))
   ·refine h v h' tk (by simpa using p) fun b o q=>?_
    have lb:=Heap.lt_size q
    refine kp b o (fun z=>?_) (fun z=>?_) (Heap.get?_push_of_some _ (Heap.get?_push_of_some _ (k0 b o q)))
    ·have z:=Tt.mp z
     rw [z,Cf] at lb
     exact absurd lb (VQ.mpr (Vc _))
    ·rw [z,Nn] at lb
     exact absurd lb (VQ.mpr (Uu _ 2))
end
end L3
namespace HT
open PySem PyProof.Rows
section
open PySem.SeqAt
open PySem.AutoSeq1 (wpAny_loadPart')
open PySem.MeetsSeq PySem.MeetsSeq2 PySem.MeetsSeq3
end
section
variable {prog:Program} {w:World} {A:Around} {E:Value→Shared→Prop} {s:Shared}
end
end HT
namespace L3
open PySem PySem.Spec PyProof.Rows L2
section
variable {X:Cx} {pos:Pos}
def HQ (t:rD) (g:rE) (tb:iH):iH:=fun D ρ M=>t ρ M fun xs M1=>xs.length≤sizeLine∧bY (runFor (fun _=>True) g tb D xs ρ M1)
theorem EI {tg:Expr} {body:List Stmt} {g:rE} {tb:iH} {es:List Expr} {t:rD} {B7:Pos} (hp:PassesOwn (model X.prog X.w) X.A X.env X.xe) (hc:X.calm=true) (hi:x6 X es t) (hg:AJ X tg g) (hb:iJ X body tb)
 (hs:∀ x,foldedSetIterable (.List es B7) X.env x=pure x:=by intro _;rfl):uz X (.For tg (.List es B7) body [] pos) (HQ t g tb):=BR (mV hp hc (oZ (xX hi.dn)) hg.dn hb.dn hs) fun σ H ρ M D r q=>jz r q fun vs H' ds M' f dv r' ⟨hl,q⟩=>by
 refine ⟨by rw [← dv.length];exact hl,fun p hp=>⟨p,rfl,⟨vs,iE.of bN⟩,?_⟩⟩
 have fr:Fr M' H' M' (upd H' p (.lst vs)):=Fr.new hp fun _ _=>rfl
 have r2:=r'.go fr (r'.mem.new hp)
 exact iL uF (f.trans fr) r2 (fun M1 H1 f1 _ _=>⟨vs,(f1 p _ (r'.mem.free hp) bN).1,aB.mono ((Ext.new hp).trans (f1.ext r2.mem)) _ _ dv⟩) q.out
theorem lV (p q:Pl):HT.lexLt [p.x,p.y] [q.x,q.y]=decide (aG p q):=by
 rw [HT.kY,HT.kY,HT.kI]
 by_cases ex:p.x=q.x
 ·rw [if_pos ex]
  by_cases ey:p.y=q.y
  ·rw [if_pos ey];exact (decide_eq_false (by unfold aG;omega)).symm
  ·rw [if_neg ey,decide_eq_decide];unfold aG;omega
 ·rw [if_neg ex,decide_eq_decide];unfold aG;omega
theorem Cg {P:Program} {w:World} {K:PySem.W.Frag} {H:Hp} {h:Heap} {p:Pl} {x:V} {u:Value} (ok:iX P w H h) (d:Dat K H p.d x) (r:RelV x u):kN h u p:=by
 obtain ⟨a,xs,rfl,ha,hx⟩:=aU.mp d
 obtain rfl:u=Value.ref a:=r
 obtain ⟨its,rv,⟨o,h1,h2,n,h3⟩,_⟩:=dc ok ha
 obtain ⟨v1,v2,rfl,d1,d2⟩:=zC hx
 obtain rfl:=aJ.mp d1
 obtain rfl:=aJ.mp d2
 obtain ⟨u1,u2,rfl,⟨t1,rfl⟩,⟨t2,rfl⟩⟩:=vals2 rv
 exact ⟨a,o,t1,t2,n,rfl,h1,h2,h3⟩
theorem kN.tup {h:Heap} {v:Value} {p:Pl} (a:kN h v p):∃ (l:Addr) (its:Array Value),v= .ref l∧IsTup h l its∧IntsAre its.toList [p.x,p.y]:=by
 obtain ⟨b,o,t,u,n,h1,h2,h3,h4⟩:=a
 exact ⟨b,_,h1,⟨o,h2,h3,n,h4⟩,.cons _ _ (.cons _ _ .nil)⟩
def cZ (h:Heap):List Value→List Pl→Prop:=Paired (kN h)
theorem lW {P:Program} {w:World} {K:PySem.W.Frag} {H:Hp} {h:Heap} (ok:iX P w H h):∀ {ps:List Pl} {xs:List V} {us:List Value},aB K H (ps.map Pl.d) xs→Vals xs us→cZ h us ps
 | [],xs,us,d,r=>by rw [aE.mp d] at r;cases r;exact .nil
 | p :: ps,xs,us,d,r=>by
   obtain ⟨v,vs,rfl,d1,d2⟩:=aA.mp d
   cases r with
   | cons r rr=>exact .cons (Cg ok d1 r) (lW ok d2 rr)
theorem cZ.get {h:Heap}:∀ {us:List Value} {ps:List Pl} {i:Nat} {u:Value},cZ h us ps→us[i]?=some u→∃ p,ps[i]?=some p∧kN h u p
 | _,_,i,u,.nil,e=>by simp at e
 | _,_,i,u,.cons a r,e=>by
   cases i with
   | zero=>simp at e;subst e;exact ⟨_,rfl,a⟩
   | succ i=>exact cZ.get (i:=i) r (by simpa using e)
theorem Vals.len {xs:List V} {us:List Value} (r:Vals xs us):us.length=xs.length:=(Vals.length r).symm
def bestOf (lt:Pl→Pl→Bool) (ps:List Pl) (i j:Nat):Bool:=lt (ps.getD i ⟨0,0⟩) (ps.getD j ⟨0,0⟩)
def Kx (lt:Pl→Pl→Bool):List D→Mp→DK→Prop:=fun ds M Q=> ∃ ps:List Pl,ds=ps.map Pl.d∧2≤ps.length∧ps.length≤4∧Q (ps.getD (argBest (bestOf lt ps) (ps.length - 1)) ⟨0,0⟩).d M
theorem p8 (bt:Nat→Nat→Bool):∀ n,argBest bt n≤n
 | 0=>Tz 0
 | n+1=>by
   unfold argBest
   split
   ·exact Tz _
   ·exact Nat.le_succ_of_le (p8 bt n)
theorem EJ (a b:Value):argsOk "min" ⟨[a,b],[]⟩:=by unfold argsOk;kernel_rfl
theorem EK (a b c:Value):argsOk "min" ⟨[a,b,c],[]⟩:=by unfold argsOk;kernel_rfl
theorem EL (a b c d:Value):argsOk "min" ⟨[a,b,c,d],[]⟩:=by unfold argsOk;kernel_rfl
theorem HR:∀ (vs:List Value),2≤vs.length→vs.length≤4→argsOk "min" ⟨vs,[]⟩:=by
 intro vs h2 h4
 cases vs with
 | nil=>exact absurd h2 (by decide)
 | cons a vs=>
   cases vs with
   | nil=>exact absurd h2 (by simp)
   | cons b vs=>
     cases vs with
     | nil=>exact EJ a b
     | cons c vs=>
       cases vs with
       | nil=>exact EK a b c
       | cons d vs=>
         cases vs with
         | nil=>exact EL a b c d
         | cons e vs=>exact absurd h4 (by simp only [Ug];omega)
theorem HS (hu:X.A.units+64 < cLine) (hc:X.calm=true):Call3 X (.builtin "min") (Kx fun p q=>decide (aG p q)):=by
 constructor
 intro pins s σ H M xs ds us Q I rm rs dx ⟨ps,e,h2,h4,q⟩
 subst e
 have hl:us.length=ps.length:=by rw [Vals.len rs,← dx.length,To]
 have hp:=lW I.hok dx rs
 refine Ce (HR us (by omega) (by omega)) (by omega) (by omega) (I.ok.hd hc) (bt:=bestOf (fun p q=>decide (aG p q)) ps) (fun i j vi vj t Q E g e1 e2 q=>?_) fun v h' tk e g=>?_
 ·obtain ⟨p1,f1,a1⟩:=hp.get e1
  obtain ⟨p2,f2,a2⟩:=hp.get e2
  obtain ⟨l1,i1,rfl,t1,n1⟩:=(a1.grow g).tup
  obtain ⟨l2,i2,rfl,t2,n2⟩:=(a2.grow g).tup
  have eb:bestOf (fun p q=>decide (aG p q)) ps i j=decide (aG p1 p2):=by unfold bestOf;rw [Um,Um,f1,f2];rfl
  rw [eb,← lV] at q
  exact (HT.kZ t1 t2 n1 n2 (by show X.A.units+1 < cLine;omega) q:wpAny (model X.prog X.w) X.A.in1 (compareOp .Lt (.ref l1) (.ref l2)) Q E t)
 ·rw [hl] at e
  obtain ⟨x,ex,rx⟩:∃ x,xs[argBest (bestOf (fun p q=>decide (aG p q)) ps) (ps.length - 1)]?=some x∧RelV x v:=by
   have lt:argBest (bestOf (fun p q=>decide (aG p q)) ps) (ps.length - 1) < xs.length:=by
    have:=p8 (bestOf (fun p q=>decide (aG p q)) ps) (ps.length - 1)
    rw [← dx.length,To];omega
   obtain ⟨u,eu,ru⟩:=Vals.get rs (Tq lt)
   rw [e] at eu
   cases eu
   exact ⟨_,Tq lt,ru⟩
  obtain ⟨d,ed,dd⟩:=dx.back ex
  rw [Uh] at ed
  have eq:d=(ps.getD (argBest (bestOf (fun p q=>decide (aG p q)) ps) (ps.length - 1)) ⟨0,0⟩).d:=by
   rw [Um]
   cases z:ps[argBest (bestOf (fun p q=>decide (aG p q)) ps) (ps.length - 1)]? with
   | none=>rw [z] at ed;cases ed
   | some p=>rw [z] at ed;cases ed;rfl
  subst eq
  exact ⟨x,H,I.kept g,rx,aD rm dd q⟩
noncomputable def uK (h:Heap) (v:Value):Pl:=Option.getD (α:=Pl) ((Bs h).keyOf v) ⟨0,0⟩
theorem zH {h:Heap} {v:Value} {p:Pl} (a:kN h v p):uK h v=p:=by
 unfold uK
 have e:(Bs h).keyOf v=some p:=zG a
 exact congrArg (fun o=>Option.getD (α:=Pl) o ⟨0,0⟩) e
theorem cZ.keys {h:Heap}:∀ {us:List Value} {ps:List Pl},cZ h us ps→us.map (uK h)=ps
 | _,_,.nil=>rfl
 | _,_,.cons a r=>by rw [Ud,zH a,cZ.keys r]
theorem cZ.mem {h:Heap}:∀ {us:List Value} {ps:List Pl} {v:Value},cZ h us ps→v∈us→∃ p,kN h v p
 | _,_,v,.nil,m=>by cases m
 | _,_,v,.cons a r,m=>by
   rcases Tp.mp m with rfl | m
   ·exact ⟨_,a⟩
   ·exact cZ.mem r m
theorem cQ {α:Type}:∀ {vs:List α} {p:α ×α},p∈vs.zip vs→p.1=p.2∧p.1∈vs
 | [],p,m=>by simp at m
 | v :: vs,p,m=>by
   rw [UY] at m
   rcases Tp.mp m with rfl | m
   ·exact ⟨rfl,TN ..⟩
   ·exact ⟨(cQ m).1,Tn _ (cQ m).2⟩
theorem rM {P:Program} {w:World} {A:Around} {E:Value→Shared→Prop} {s:Shared} {l:Addr} {vs:List Value} {ps:List Pl} {Q:Value→Shared→Prop} (hl:s.heap.IsList l vs.toArray) (hv:cZ s.heap vs ps) (h64:vs.length < 64)
 (h:∀ (out:List Value) (qs:List Pl),(∀ v∈out,v∈vs)→qs=out.map (uK s.heap)→qs.Perm ps→qs.Pairwise (fun p q=> ¬ aG q p)→Q (.ref (s.heap.objs.size+1)) { s with heap:=sortedAll s.heap vs out.toArray }) :
 wpAny (model P w) A (call (.builtin "sorted") [.ref l]) Q E s:=by
 have hk:KeysOf (Bs s.heap) (pairsOf vs):=fun p hp=>by
  rw [pairsOf_toList] at hp
  obtain ⟨q,a⟩:=hv.mem (cQ hp).2
  exact ⟨q,zG a⟩
 refine sY (κ:=Bs s.heap) (kd:=tuples' true) hl hk (fun t E Q g h2 q=>EH (by omega) (fun v m=>?_) q) (fun t g=>HM g true) h64 fun y hp hs=>?_
 ·obtain ⟨p,a⟩:=hv.mem m
  exact ⟨p,a.grow g⟩
 ·have pl:y.toList.Perm (vs.zip vs):=by rw [← pairsOf_toList];exact Array.perm_iff_toList_perm.mp hp
  have same:∀ p∈y.toList,p.1=p.2∧p.1∈vs:=fun p m=>cQ (pl.mem_iff.mp m)
  have eo:y.map (·.2)=(y.toList.map (·.2)).toArray:=by rw [← Array.toList_map,Array.toArray_toList]
  rw [eo]
  refine h (y.toList.map (·.2)) _ (fun v m=>?_) rfl ?_ ?_
  ·obtain ⟨p,m2,rfl⟩:=TV.mp m
   rw [← (same p m2).1];exact (same p m2).2
  ·have q:=(pl.map (fun p=>p.2)).map (uK s.heap)
   have e:(vs.zip vs).map (fun p=>p.2)=vs:=WO (Tz _)
   rw [e,hv.keys] at q
   exact q
  ·rw [V0]
   intro i j hi hj hij
   have li:i < y.size:=by simpa using hi
   have lj:j < y.size:=by simpa using hj
   have q:=hs i j (Vx hij) (by rw [← hp.size_eq];exact lj)
   have key:∀ k (hk:k < y.size),KK (Bs s.heap) y k=uK s.heap y[k].2:=fun k hk=>by
    unfold KK
    rw [getElem?_pos y k hk]
    show Option.getD (α:=Pl) ((Bs s.heap).keyOf y[k].1) ⟨0,0⟩=_
    rw [(same y[k] (by simp)).1]
    rfl
   have q:(Bs s.heap).blt (KK (Bs s.heap) y j) (KK (Bs s.heap) y i)=false:=q
   rw [key i li,key j lj] at q
   have q:decide (aG (uK s.heap y[j].2) (uK s.heap y[i].2))=false:=q
   simpa using of_decide_eq_false q
def EM:List D→Mp→DK→Prop:=fun ds M Q=> ∃ (l:Addr) (ps:List Pl),ds= [.ref l]∧M l=some (.lst (ps.map Pl.d))∧ps.length < 64∧∀ (p:Addr) (qs:List Pl),M p=none→qs.Perm ps→qs.Pairwise (fun p q=> ¬ aG q p)→Q (.ref p) (av M p (.lst (qs.map Pl.d)))
theorem tE {K:PySem.W.Frag} {H:Hp} {h:Heap} {P:Program} {w:World} (ok:iX P w H h) {ps:List Pl} {zs:List V} {vs:List Value} (d:aB K H (ps.map Pl.d) zs) (r:Vals zs vs):∀ (out:List Value),(∀ v∈out,v∈vs)→
 ∃ ws,Vals ws out∧aB K H ((out.map (uK h)).map Pl.d) ws
 | [],_=>⟨[],.nil,aE.mpr rfl⟩
 | v :: out,m=>by
   obtain ⟨ws,h1,h2⟩:=tE ok d r out fun u hu=>m u (Tn _ hu)
   have one:∀ {ps:List Pl} {zs:List V} {vs:List Value},aB K H (ps.map Pl.d) zs→Vals zs vs→v∈vs→∃ (p:Pl) (x:V),RelV x v∧Dat K H p.d x:=by
    intro ps
    induction ps with
    | nil=>intro zs vs d r m;rw [aE.mp d] at r;cases r;cases m
    | cons p ps ih=>
      intro zs vs d r m
      obtain ⟨x,xs,rfl,d1,d2⟩:=aA.mp d
      cases r with
      | cons r1 r2=>
        rcases Tp.mp m with rfl | m
        ·exact ⟨p,x,r1,d1⟩
        ·exact ih d2 r2 m
   obtain ⟨p,x,rx,dx⟩:=one d r (m v (TN ..))
   refine ⟨x :: ws,.cons rx h1,?_⟩
   rw [Ud,Ud,zH (Cg ok dx rx)]
   exact aA.mpr ⟨x,ws,rfl,dx,h2⟩
theorem p9:Call3 X (.builtin "sorted") EM:=by
 constructor
 intro pins s σ H M xs ds us Q I rm rs dx ⟨l,ps,e,hM,h64,q⟩
 subst e
 obtain ⟨v,rfl,hv⟩:=pQ dx
 obtain rfl:=aH.mp hv
 obtain ⟨u,rfl,r1⟩:=vals1 rs
 obtain rfl:u=Value.ref l:=r1
 obtain ⟨zs,hH,hz⟩:=rm.lst hM
 obtain ⟨its,rv,pl,hsz⟩:=I.list (iE.of (K:=X.K) hH)
 have hl:its.length=ps.length:=by rw [Vals.len rv,← hz.length,To]
 refine rM pl.isList (lW I.hok hz rv) (by omega) fun out qs hm eq hp hs=>?_
 obtain ⟨ws,w1,w2⟩:=tE I.hok hz rv out hm
 rw [← eq] at w2
 obtain ⟨n,hn⟩:=sortedAll_at s.heap its out.toArray
 have fr:H (s.heap.objs.size+1)=none:=I.hok.fresh (Vc _)
 have zw:ws.length≤sizeLine:=by
  rw [← w2.length,To,hp.length_eq,sizeLine_eq];omega
 refine ⟨.ref (s.heap.objs.size+1),upd H (s.heap.objs.size+1) (.lst ws),I.laid (t':=s.toks) (fun b o e=>sortedAll_old e) (Vc _) ⟨zw,out,n,w1,hn⟩,rfl,.ref _,av M _ (.lst (qs.map Pl.d)),Fr.new fr fun _ hb=>aZ hb,aH.mpr rfl,rm.newL fr w2,q _ _ (rm.free fr) hp hs⟩
end
end L3
local macro_rules | `(tactic| walk_at "sm")=> `(tactic| first | assumption | exact L3.Sm.sign _ | exact L3.Sm.zero | exact L3.Sm.one | exact L3.Sm.two | ((with_reducible apply L3.Sm.mul) <;> walk_at "sm") | ((with_reducible apply L3.Sm.sub) <;> walk_at "sm") | ((with_reducible apply L3.Sm.add) <;> walk_at "sm") | ((with_reducible apply L3.Sm.neg) <;> walk_at "sm") | ((with_reducible apply L3.Sm.abs) <;> walk_at "sm") | ((with_reducible apply L3.Sm.emod);(first | omega | decide +kernel);walk_at "sm") | exact L3.Sm.lit _)
local macro_rules | `(tactic| walk_at "mulok")=> `(tactic| (apply L3.MulOk.of;walk_at "sm";walk_at "sm";first | omega | decide +kernel))
local macro_rules | `(tactic| walk_at "rd1")=> `(tactic| first | refine ⟨_,rfl,?_⟩ | refine ⟨_,_,rfl,rfl,?_⟩ | refine ⟨_,_,_,Or.inl rfl,rfl,rfl,?_⟩ | (refine ⟨?side,?_⟩;(case side=>first | walk_at "mulok" | (simp only [Ug,U9];decide) | (show (0:Int) < _;first | omega | (dsimp only;omega) | decide +kernel) | (show (0:Int)≤_;first | omega | (dsimp only;omega)) | exact ⟨by decide +kernel,by decide +kernel,by decide +kernel⟩ | exact ⟨by decide +kernel,_,L3.Sm.lit _,by decide +kernel⟩ | (left;walk_at "mulok") | exact Or.inr (Or.inr ⟨by decide,by decide⟩) | decide)) | refine ⟨rfl,?_⟩ | refine ⟨trivial,?_⟩ | refine ⟨_,Or.inl rfl,rfl,?_⟩ | refine ⟨_,_,rfl,Or.inl rfl,?_⟩ | refine ⟨_,_,_,_,rfl,L3.B4.int _,L3.lR,?_⟩ | refine ⟨_,_,_,_,rfl,L3.B4.tup _,L3.lR,?_⟩ | refine ⟨_,_,_,_,rfl,L3.B4.bl _,L3.lR,?_⟩ | refine ⟨_,_,rfl,?_⟩ | refine ⟨_,_,_,rfl,?_⟩ | refine ⟨_,_,_,_,rfl,?_⟩)
local macro_rules | `(tactic| walk_at "rd")=> `(tactic| repeat walk_at "rd1")
local macro_rules | `(tactic| walk_at "smle")=> `(tactic| (apply L3.Sm.le;walk_at "sm";first | omega | decide +kernel))
local macro_rules | `(tactic| walk_at "om")=> `(tactic| first | omega | (dsimp only;omega))
namespace L3
open PySem L2
theorem zI {a b c:Pl} (ha:a.Ok 140) (hb:b.Ok 140) (hc:c.Ok 140):Sm 290 (tw a b c):=by
 obtain ⟨a1,a2⟩:=ha
 obtain ⟨b1,b2⟩:=hb
 obtain ⟨c1,c2⟩:=hc
 unfold tw
 walk_at "smle"
theorem yd {p q:Pl} (hp:p.Ok 140) (hq:q.Ok 140):Sm 290 (uH p q):=by
 obtain ⟨p1,p2⟩:=hp
 obtain ⟨q1,q2⟩:=hq
 unfold uH
 walk_at "smle"
theorem Np (a b c d:Pl):inD d.d [a.d,b.d,c.d]=decide (d=a∨d=b∨d=c):=by
 unfold inD
 rw [VG,VG,VG,List.any_nil,m7,m7,m7,WB,Uo]
 simp only [Bool.or_eq_true,decide_eq_true_eq]
 grind
theorem lY {α:Type} {qs:List α} (h:qs.length=3):∃ u v w,qs= [u,v,w]:=by
 match qs,h with
 | [u,v,w],_=>exact ⟨u,v,w,rfl⟩
theorem Ci {α:Type} {v w b c:α} (h: [v,w].Perm [b,c]):(v=b∧w=c)∨(v=c∧w=b):=by
 have m:v∈[b,c]:=h.mem_iff.mp (by simp)
 rcases Tp.mp m with rfl | m
 ·exact .inl ⟨rfl,by have:=(Vo v).mp h;simpa using this⟩
 ·have:=Tt.mp m
  subst this
  have h2:=(Vo v).mp (h.trans (List.Perm.swap v b []))
  exact .inr ⟨rfl,by simpa using h2⟩
theorem tF {α:Type} {u v w a b c:α} (h: [u,v,w].Perm [a,b,c]):(u=a∧v=b∧w=c)∨(u=a∧v=c∧w=b)∨(u=b∧v=a∧w=c)∨(u=b∧v=c∧w=a)∨(u=c∧v=a∧w=b)∨(u=c∧v=b∧w=a):=by
 have m:u∈[a,b,c]:=h.mem_iff.mp (by simp)
 rcases Tp.mp m with rfl | m
 ·rcases Ci ((Vo u).mp h) with ⟨e1,e2⟩ | ⟨e1,e2⟩
  ·exact .inl ⟨rfl,e1,e2⟩
  ·exact .inr (.inl ⟨rfl,e1,e2⟩)
 ·rcases Tp.mp m with rfl | m
  ·have h2:=(Vo u).mp (h.trans (List.Perm.swap u a [c]))
   rcases Ci h2 with ⟨e1,e2⟩ | ⟨e1,e2⟩
   ·exact .inr (.inr (.inl ⟨rfl,e1,e2⟩))
   ·exact .inr (.inr (.inr (.inl ⟨rfl,e1,e2⟩)))
  ·have:=Tt.mp m
   subst this
   have h2:=(Vo u).mp (h.trans ((List.Perm.cons a (List.Perm.swap u b [])).trans (List.Perm.swap u a [b])))
   rcases Ci h2 with ⟨e1,e2⟩ | ⟨e1,e2⟩
   ·exact .inr (.inr (.inr (.inr (.inl ⟨rfl,e1,e2⟩))))
   ·exact .inr (.inr (.inr (.inr (.inr ⟨rfl,e1,e2⟩))))
theorem wo {n:Nat} {u v w a b c:Pl} (h: [u,v,w].Perm [a,b,c]) (ha:a.Ok n) (hb:b.Ok n) (hc:c.Ok n):u.Ok n∧v.Ok n∧w.Ok n:=by
 rcases tF h with ⟨rfl,rfl,rfl⟩ | ⟨rfl,rfl,rfl⟩ | ⟨rfl,rfl,rfl⟩ | ⟨rfl,rfl,rfl⟩ | ⟨rfl,rfl,rfl⟩ | ⟨rfl,rfl,rfl⟩ <;> exact ⟨by assumption,by assumption,by assumption⟩
theorem Cj {u v w a b c d:Pl} (h: [u,v,w].Perm [a,b,c]):fM u v w d↔fM a b c d:=by
 rcases tF h with ⟨rfl,rfl,rfl⟩ | ⟨rfl,rfl,rfl⟩ | ⟨rfl,rfl,rfl⟩ | ⟨rfl,rfl,rfl⟩ | ⟨rfl,rfl,rfl⟩ | ⟨rfl,rfl,rfl⟩
 ·exact Iff.rfl
 ·exact EC _ _ _ _
 ·exact pY _ _ _ _
 ·exact dR _ _ _ _
 ·exact (dR _ _ _ _).trans (dR _ _ _ _)
 ·exact (pY _ _ _ _).trans (dR _ _ _ _)
theorem EN {u v w a b c d:Pl} (h: [u,v,w].Perm [a,b,c]):rg u v w d=rg a b c d:=by
 have mid:∀ a b c d,rg a c b d=rg a b c d:=fun a b c d=>by rw [← jF a c b d,lS b c a d,jF]
 rcases tF h with ⟨rfl,rfl,rfl⟩ | ⟨rfl,rfl,rfl⟩ | ⟨rfl,rfl,rfl⟩ | ⟨rfl,rfl,rfl⟩ | ⟨rfl,rfl,rfl⟩ | ⟨rfl,rfl,rfl⟩
 ·rfl
 ·exact mid _ _ _ _
 ·exact lS _ _ _ _
 ·exact jF _ _ _ _
 ·exact (jF _ _ _ _).trans (jF _ _ _ _)
 ·exact (lS _ _ _ _).trans (jF _ _ _ _)
theorem tG {a b c d u v w:Pl} (hn:tw a b c≠0) (h0:rg a b c d=0) (hd:¬ (d=a∨d=b∨d=c)) (hp: [u,v,w].Perm [a,b,c]) (s1:¬ aG v u) (s2:¬ aG w u) :
 decide (fM a b c d)=if aG d u then true else decide ((tw v w d).sign≠(tw v w u).sign):=by
 have nab:a≠b:=fun e=>by subst e;rw [gc] at hn;exact hn rfl
 have Se:a≠c:=fun e=>by subst e;rw [gf] at hn;exact hn rfl
 have Sf:b≠c:=fun e=>by subst e;rw [pU] at hn;exact hn rfl
 have ho:(u≠v∧u≠w)∧(d≠u∧d≠v∧d≠w):=by
  rcases tF hp with ⟨rfl,rfl,rfl⟩ | ⟨rfl,rfl,rfl⟩ | ⟨rfl,rfl,rfl⟩ | ⟨rfl,rfl,rfl⟩ | ⟨rfl,rfl,rfl⟩ | ⟨rfl,rfl,rfl⟩ <;> grind
 obtain ⟨⟨n1,n2⟩,e1,e2,e3⟩:=ho
 have b1:aG u v:=by rcases i0 n1 with z | z;exact z;exact absurd z s1
 have b2:aG u w:=by rcases i0 n2 with z | z;exact z;exact absurd z s2
 have e:decide (fM a b c d)=decide (fM u v w d):=by rw [decide_eq_decide];exact (Cj hp).symm
 rw [e]
 have h1:rg u v w d=0:=by rw [EN hp];exact h0
 by_cases k:aG d u
 ·rw [if_pos k]
  exact decide_eq_true (.inr ⟨h1,e1,e2,e3,.inl ⟨k,bx k b1,bx k b2⟩⟩)
 ·rw [if_neg k,decide_eq_decide]
  have k2:aG u d:=by rcases i0 e1 with z | z;exact absurd z k;exact z
  unfold fM
  rw [h1]
  constructor
  ·rintro (z | ⟨_,_,_,_,z | z | z | z⟩)
   ·cases z
   ·exact absurd z.1 k
   ·exact z.2.2.2
   ·exact absurd z.1 s1
   ·exact absurd z.1 s2
  ·intro z
   exact .inr ⟨rfl,e1,e2,e3,.inr (.inl ⟨b1,b2,k2,z⟩)⟩
theorem ye {a b c d u v w:Pl} (hn:tw a b c≠0) (h0:rg a b c d=0) (hd:¬ (d=a∨d=b∨d=c)) (hp: [u,v,w].Perm [a,b,c]) (hs: [u,v,w].Pairwise (fun p q=> ¬ aG q p)) :
 decide (fM a b c d)=if aG d u then true else decide ((tw v w d).sign≠(tw v w u).sign):=
 tG hn h0 hd hp ((TZ.mp hs).1 v (by simp)) ((TZ.mp hs).1 w (by simp))
instance (p q r s:Pl):Decidable (Qn p q r s):=inferInstanceAs (Decidable (_∨_))
theorem Ck (i j:Int):(!dM (.int i) (.int j))=decide (i≠j):=by
 rw [dQ,Uo]
 simp
theorem dH (qs:List Pl):(qs.map Pl.d).all (plain 9)=true:=by
 rw [Wb,Uz]
 intro q _
 rfl
end L3
namespace L3
open PySem PySem.Spec PyProof.Rows L2
def cL (cells:List (Str ×Addr)) (names:List (Str ×NameKind)) (cs:List (Str ×Addr)):List (Str ×Addr):=
 names.foldl (fun cs y=>if (y.2 == NameKind.free)=true then (y.1,(cells.lookup y.1).getD 0) :: cs else cs) cs
theorem qa {α β:Type} {f:α→β→Sem (ForInStep β)} {g:β→α→β}:∀ {l:List α} {b:β},(∀ x∈l,∀ b,f x b=pure (.yield (g b x)))→forIn l b f=(pure (l.foldl g b):Sem β)
 | [],b,_=>rfl
 | x :: l,b,h=>by
   rw [Vk,h x (TN ..),pure_bind]
   exact qa fun y hy=>h y (Tn _ hy)
theorem yf {sc:Scope} {env:Env} (h:∀ y∈sc.names,y.2= .free→∃ c,env.cells.lookup y.1=some c):closureFor sc env=pure (cL env.cells sc.names []):=by
 unfold closureFor cL
 dsimp only
 rw [qa (g:=fun cs y=>if (y.2 == NameKind.free)=true then (y.1,(env.cells.lookup y.1).getD 0) :: cs else cs)]
 ·rfl
 ·rintro ⟨n,k⟩ hy b
  by_cases hk:k= .free
  ·subst hk
   obtain ⟨c,hc⟩:=h _ hy rfl
   have hc:env.cells.lookup n=some c:=hc
   simp [cellOf,hc]
  ·have hb:(k == NameKind.free)=false:=by simpa using hk
   simp [hb]
theorem om {cells:List (Str ×Addr)} {x:Str} {c:Addr}:∀ {names:List (Str ×NameKind)} {cs:List (Str ×Addr)},(∀ y∈names,y.2= .free→∃ c,cells.lookup y.1=some c)→(∀ x c,cs.lookup x=some c→cells.lookup x=some c)→
 (cL cells names cs).lookup x=some c→cells.lookup x=some c
 | [],cs,_,h,e=>h x c e
 | (n,k) :: r,cs,hf,h,e=>by
   refine om (names:=r) (cs:=if (k == NameKind.free)=true then (n,(cells.lookup n).getD 0) :: cs else cs) (fun y hy=>hf y (Tn _ hy)) (fun x c q=>?_) e
   split at q
   ·rename_i hk
    rw [Uq] at q
    split at q
    ·rename_i hx
     have hx:=eq_of_beq hx
     subst hx
     obtain ⟨c',hc⟩:=hf (x,k) (TN ..) (eq_of_beq hk)
     have hc:cells.lookup x=some c':=hc
     rw [hc] at q
     rw [hc];exact q
    ·exact h x c q
   ·exact h x c q
theorem oz {cells:List (Str ×Addr)} {x:Str}:∀ {names:List (Str ×NameKind)} {cs:List (Str ×Addr)},((cs.lookup x).isSome=true∨(x,NameKind.free)∈names)→((cL cells names cs).lookup x).isSome=true
 | [],cs,h=>by
   rcases h with h | h
   ·exact h
   ·cases h
 | (n,k) :: r,cs,h=>by
   refine oz (names:=r) (cs:=if (k == NameKind.free)=true then (n,(cells.lookup n).getD 0) :: cs else cs) ?_
   rcases h with h | h
   ·left
    split
    ·rw [Uq]
     split
     ·rfl
     ·exact h
    ·exact h
   ·rcases Tp.mp h with e | h
    ·left
     cases e
     simp [Uq]
    ·exact .inr h
theorem mem_of_lookup {β:Type} {x:Str} {b:β}:∀ {l:List (Str ×β)},l.lookup x=some b→(x,b)∈l
 | [],h=>by cases h
 | (n,c) :: r,h=>by
   rw [Uq] at h
   split at h
   ·rename_i hx
    cases h
    have:=eq_of_beq hx
    subst this
    exact TN ..
   ·exact Tn _ (mem_of_lookup h)
def bO (outer:Scope) (N:List Str) (sc:Scope) (x:Str) (ys:List Str) (fs:List Nat):Bool:=
 (sc.kind == .function) && (outer.kind == .function) && sc.names.all (fun y=>!(y.2 == .cell) && (!(y.2 == .local) || sc.names.lookup y.1 == some .local) && (!(y.2 == .free) || outer.names.lookup y.1 == some .cell)) && (sc.names.lookup x == some .local) &&
  decide (ys.length=fs.length) && (ys.zip fs).all (fun p=>N[p.2]? == some p.1 && sc.names.lookup p.1 == some .free) && decide (x :: ys).Nodup
structure qb (outer:Scope) (N:List Str) (sc:Scope) (x:Str) (ys:List Str) (fs:List Nat):Prop where
 kind:sc.kind= .function
 Ky:outer.kind= .function
 Cm:∀ y∈sc.names,y.2≠ .cell
 names:∀ y∈sc.names,y.2= .local→sc.names.lookup y.1=some .local
 LK:∀ y∈sc.names,y.2= .free→outer.names.lookup y.1=some .cell
 loc:sc.names.lookup x=some .local
 len:ys.length=fs.length
 at':∀ (k:Nat) y,ys[k]?=some y→∃ i,fs[k]?=some i∧N[i]?=some y∧sc.names.lookup y=some .free
 nd:(x :: ys).Nodup
theorem qb.of {outer:Scope} {N:List Str} {sc:Scope} {x:Str} {ys:List Str} {fs:List Nat} (h:bO outer N sc x ys fs=true):qb outer N sc x ys fs:=by
 unfold bO at h
 simp only [UU,Uz,decide_eq_true_eq] at h
 obtain ⟨⟨⟨⟨⟨⟨h1,Qq⟩,h2⟩,h3⟩,h4⟩,h5⟩,h6⟩:=h
 refine ⟨eq_of_beq h1,eq_of_beq Qq,fun y hy z=>?_,fun y hy z=>?_,fun y hy z=>?_,eq_of_beq h3,h4,fun k y e=>?_,h6⟩
 ·have:=(h2 y hy).1.1
  rw [z] at this
  simp at this
 ·have:=(h2 y hy).1.2
  rw [z] at this
  simpa using this
 ·have:=(h2 y hy).2
  rw [z] at this
  simpa using this
 ·have hk:k < fs.length:=by rw [← h4];exact (T9.mp e).1
  have ez:(ys.zip fs)[k]?=some (y,fs[k]):=by
   rw [List.getElem?_zip_eq_some]
   exact ⟨e,Tq hk⟩
  obtain ⟨q1,q2⟩:=h5 _ (TM ez)
  exact ⟨fs[k],Tq hk,eq_of_beq q1,eq_of_beq q2⟩
theorem lZ {env:Env} {y:Str} (hk:env.scope.kind= .function) (hc:env.scope.names.lookup y=some .cell):∀ {names:List (Str ×NameKind)},names.lookup y=some .free→
 (names.map fun (n,k)=>if (k == NameKind.free && env.scope.kind == .function && env.kindOf n == some .cell) then (n,NameKind.cell) else (n,k)).lookup y=some .cell
 | [],h=>by cases h
 | (n,k) :: r,h=>by
   rw [Uq] at h
   split at h
   ·rename_i hx
    cases h
    have:=eq_of_beq hx
    subst this
    have hc:env.kindOf y=some .cell:=hc
    simp [hk,hc,Uq]
   ·rename_i hx
    have ih:=lZ hk hc h
    simp only [Ud]
    split
    ·rw [Uq,hx];exact ih
    ·rw [Uq,hx];exact ih
abbrev vR (X:Cx) (sc:Scope) (x:Str) (ys:List Str) (cl:List (Str ×Addr)) (C:Addr) (s0:Shared) (H0:Hp) (ex:List Addr):Cx:=
 { X with N:=x :: ys,s₀:=s0,H₀:=H0,env:=compEnvC sc cl C X.env,outer:=X.stack,ex:=ex,fn:=fun _=>false,pn:=[],xe:=fun _ _=>False }
structure Kz (X:Cx) (ifs:List Expr) (t:lG):Prop where
 run:∀ (pins:List (Addr ×Obj)) (s:Shared) (σ:St) (H:Hp) (ρ:En) (M:Mp) (Q:Bool→Mp→Prop),Inv X pins σ H s→Rep X.K H σ ρ M→t ρ M Q→
  wpAny (model X.prog X.w) X.A (forIn ifs true fun c r=>if r=true then do { let ok ← isTrue c X.env (eval c X.env);pure (ForInStep.yield ok) } else pure (ForInStep.yield r)) (TP X pins σ (n9 X.K M H Q)) X.xe s
def Nq:lG:=fun _ M Q=>Q true M
theorem Cn {X:Cx}:Kz X [] Nq:=⟨fun pins s σ H ρ M Q I r q=>wpAny_tests_nil ⟨H,I,M,.refl _ _,r.mem,q⟩⟩
theorem jI {X:Cx} {c:Expr} {t:lG} (h:xG X c t):Kz X [c] t:=⟨fun pins s σ H ρ M Q I r q=>wpAny_tests_one (h.run pins s σ H ρ M Q I r q)⟩
def oA (gd:Mp→Prop) (tt:lG) (te:cK) (fr:En) (Q:List D→Mp→Prop):List D→List D→Mp→Prop
 | [],acc,M=>gd M∧Q acc M
 | d :: ds,acc,M=>gd M∧tt (some d :: fr) M fun b M1=>if b=true then te (some d :: fr) M1 fun y M2=>oA gd tt te fr Q ds (acc ++ [y]) M2 else oA gd tt te fr Q ds acc M1
def m9 (fs:List Nat) (ρ:En):En:=fs.map fun i=>(ρ[i]?).join
section
variable {X:Cx} {sc:Scope} {x:Str} {ys:List Str} {fs:List Nat}
theorem Co {fs:List Nat} {ρ:En} {k:Nat} {d:D} (h:(m9 fs ρ)[k]?=some (some d)):∃ i,fs[k]?=some i∧ρ[i]?=some (some d):=by
 unfold m9 at h
 rw [Uh] at h
 cases e:fs[k]? with
 | none=>rw [e] at h;cases h
 | some i=>
   rw [e] at h
   refine ⟨i,rfl,?_⟩
   have h:(ρ[i]?).join=some d:=Option.some.inj h
   cases q:ρ[i]? with
   | none=>rw [q] at h;cases h
   | some o=>rw [q] at h;rw [show o=some d from h]
theorem AR {pins:List (Addr ×Obj)} {σ:St} {H:Hp} {s s':Shared} {C:Addr} {fp:List Addr} {cl:List (Str ×Addr)} {ρ:En} {M:Mp} (ck:qb X.env.scope X.N sc x ys fs) (I:Inv X pins σ H s) (r:Rep X.K H σ ρ M) (hcl:cl=cL X.env.cells sc.names [])
 (hC:s.heap.objs.size≤C) (old:∀ b o,s.heap.get? b=some o→s'.heap.get? b=some o) (ns:∃ m,s'.heap.Ns C m) (hos:s'.os=s.os) (hg:s'.gens=s.gens) (hf:∀ b∈fp,jl X pins H b) (hfp:∀ b∈fp,b < s.heap.objs.size) :
 ∃ σ',Inv (vR X sc x ys cl C s H fp) [] σ' H s'∧Rep X.K H σ' (none :: m9 fs ρ) M:=by
 have Cp:∀ y∈sc.names,y.2= .free→∃ c,X.env.cells.lookup y.1=some c:=fun y hy hk=>I.ok.has y.1 (.inl (ck.LK y hy hk))
 have cf:∀ {y c},cl.lookup y=some c→X.env.cells.lookup y=some c:=fun {y c} e=>by rw [hcl] at e;exact om Cp (fun _ _ z=>by cases z) e
 have ch:∀ y,sc.names.lookup y=some .free→∃ c,cl.lookup y=some c:=fun y e=>by rw [hcl];exact V6.mp (oz (.inr (mem_of_lookup e)))
 have rk:∀ y k,(relabel sc X.env).names.lookup y=some k→(k= .cell∨k= .free)→∃ c,cl.lookup y=some c:=by
  intro y k e hk
  have:∃ k',sc.names.lookup y=some k'∧(k'=k∨k'= .free):=by
   clear ck Cp cf ch
   revert e
   show (sc.names.map _).lookup y=some k→_
   generalize sc.names=names
   intro e
   induction names with
   | nil=>cases e
   | cons p r ih=>
     obtain ⟨n,kn⟩:=p
     simp only [Ud] at e
     rw [Uq]
     split
     ·rename_i hx
      split at e
      ·rename_i hc
       refine ⟨kn,rfl,.inr ?_⟩
       simp only [UU] at hc
       exact eq_of_beq hc.1.1
      ·rw [Uq,hx] at e
       exact ⟨kn,rfl,.inl (Option.some.inj e)⟩
     ·rename_i hx
      split at e <;> (rw [Uq,hx] at e;exact ih e)
  obtain ⟨k',e',hk'⟩:=this
  rcases hk' with rfl | rfl
  ·rcases hk with rfl | rfl
   ·exact absurd rfl (ck.Cm _ (mem_of_lookup e'))
   ·exact ch y e'
  ·exact ch y e'
 have lfp:∀ b∈fp,b≠C:=fun b hb z=>absurd (Tw (hfp b hb) hC) (by rw [z];exact UQ _)
 have ok:(vR X sc x ys cl C s H fp).Ok:={
  mod:=I.ok.mod
  kind:=ck.kind
  glob:=I.ok.glob
  blt:=I.ok.blt
  above:=hC
  inj:=fun a b c e1 e2=>I.ok.inj a b c (cf e1) (cf e2)
  has:=fun y hy=>by
   rcases hy with hy | hy
   ·exact rk y _ hy (.inl rfl)
   ·exact rk y _ hy (.inr rfl)
  IZ:=fun _ _ z=>by cases z
  hd:=I.ok.hd
  frames:=I.ok.frames
  stk:= .inl rfl
  Jj:=fun b hb=>⟨lfp b hb,fun y c e=>(hf b hb).2.2.2.2.1 y c (cf e)⟩
  bs:=I.bs
  FP:=UI I.ok.FP I.sz
  Aq:=fun b o e hb=>by
   rcases (hf b hb).2.2.2.1 with z | z
   ·exact I.ok.Aq b o e z
   ·exact absurd (Tw (Heap.lt_size (I.ok.bs b o e).1) z) (UQ _)
  Ar:=fun b hb z=>by
   rcases Tp.mp (I.xS b z) with e | e
   ·exact (hf b hb).2.1 e
   ·exact (hf b hb).2.2.1 e
  oM:=I.stack
  GL:=I.ze }
 have fC:H C=none:=I.hok.fresh hC
 obtain ⟨m,hm⟩:=ns
 refine ⟨none :: fs.map (fun i=>(σ[i]?).join),⟨ok,hos,by rw [hg];exact I.bare,Un.kept old,⟨m,hm,fun i y v e1 e2 e3=>?_⟩,fun y c e=>?_,fC,fun y c e=>I.kH y c (cf e),fun p hp=>(by cases hp),I.hok.kept old,by simp [ck.len]⟩,⟨fun i d e=>?_,?_,r.mem⟩⟩
 ·cases i with
  | zero=>cases e2
  | succ i=>
    have e1:ys[i]?=some y:=e1
    obtain ⟨j,f1,f2,f3⟩:=ck.at' i y e1
    have e2:(fs.map fun i=>(σ[i]?).join)[i]?=some (some v):=e2
    rw [Uh,f1] at e2
    have e2:(σ[j]?).join=some v:=Option.some.inj e2
    have e4:σ[j]?=some (some v):=by
     cases q:σ[j]? with
     | none=>rw [q] at e2;cases e2
     | some o=>rw [q] at e2;rw [show o=some v from e2]
    have hc:X.env.scope.names.lookup y=some .cell:=ck.LK (y,.free) (mem_of_lookup f3) rfl
    obtain ⟨m0,_,hl⟩:=I.loc
    obtain ⟨u,ru,lk⟩:=hl j y v f2 e4 (.inr (.inl hc))
    refine ⟨u,ru,?_⟩
    rcases lk with ⟨k1,_⟩ | ⟨_,c,e5,e6⟩
    ·have k1:X.env.scope.names.lookup y=some .local:=k1
     rw [hc] at k1;cases k1
    ·obtain ⟨c',e7⟩:=ch y f3
     have:=cf e7
     rw [e5] at this
     cases this
     refine .inr ⟨.inl (lZ I.ok.kind hc f3),c,e7,?_⟩
     obtain ⟨o,ho,hd⟩:=e6
     exact ⟨o,old _ _ ho,hd⟩
 ·obtain ⟨v,o,ho,hd⟩:=I.cell y c (cf e)
  exact ⟨v,o,old _ _ ho,hd⟩
 ·cases i with
  | zero=>cases e
  | succ i=>
    obtain ⟨j,f1,f2⟩:=Co (show (m9 fs ρ)[i]?=some (some d) from e)
    obtain ⟨v,g1,g2⟩:=r.env j d f2
    refine ⟨v,?_,g2⟩
    show (fs.map fun i=>(σ[i]?).join)[i]?=some (some v)
    rw [Uh,f1]
    show some ((σ[j]?).join)=_
    rw [g1];rfl
 ·simp [m9]
end
end L3
namespace L3
open PySem PySem.Spec PyProof.Rows L2
section
variable {X:Cx} {sc:Scope} {x:Str} {ys:List Str} {fs:List Nat} {elt iter:Expr} {px pos:Pos} {ifs:List Expr} {tt:lG} {te:cK}
theorem yg {α:Type} {t:Sem α} {Q Q':α→Shared→Prop} {M:Model} {A:Around} {E:Value→Shared→Prop} {s:Shared} (h:wpAny M A t Q (fun _ _=>False) s) (hQ:∀ a s,Q a s→Q' a s):wpAny M A t Q' E s:=wpAny_mono h hQ fun _ _ z=>z.elim
theorem wu (elt target iter:Expr) (ifs:List Expr) (sc:Scope) (pos:Pos) (it acc:Value) (env:Env):compTurn (.ListComp elt [⟨target,iter,ifs,0⟩] sc pos) 0 it acc env=(standAt iter.pos >>= fun _=>pyNext it >>= fun r=>match r with
 | none=>pure (.done .next)
 | some v=>letOwnedTupleGo target it v >>= fun _=>assign target env v >>= fun _=>(forIn ifs true fun c r=>if r=true then do { let ok ← isTrue c env (eval c env);pure (ForInStep.yield ok) } else pure (ForInStep.yield r)) >>= fun ok=>
   if ok=true then (eval elt env >>= fun y=>call (.builtin "list.append") [acc,y] >>= fun _=>again (.compLoop (.ListComp elt [⟨target,iter,ifs,0⟩] sc pos) 0 it acc env)) else again (.compLoop (.ListComp elt [⟨target,iter,ifs,0⟩] sc pos) 0 it acc env)):=by
 rw [compTurn_list]
 congr 1;funext _;congr 1;funext r
 cases r with
 | none=>rfl
 | some v=>
   dsimp only
   congr 1;funext _;congr 1;funext _;congr 1;funext ok
   cases ok with
   | false=>rfl
   | true=>simp only [if_true,bind_assoc,pure_bind]
structure Nr (X X':Cx) (Dl:Addr) (fp:List Addr) (tn:Nat→Heap→Prop) (M0:Mp) (H0:Hp) (fr:En) (i:Nat) (s:Shared) (acc:List D) (M:Mp):Prop where
 ex:∃ σ H y ws,Inv X' [] σ H s∧tn i s.heap∧(∀ b∈fp,H b=none)∧Rep X.K H σ (y :: fr) M∧Fr M0 H0 M H∧H Dl=some (.lst ws)∧M Dl=none∧aB X.K H acc ws∧acc.length≤i
theorem EO (hc:X.calm=true) (ck:qb X.env.scope X.N sc x ys fs) (ht:∀ cl C s0 H0 ex,Kz (vR X sc x ys cl C s0 H0 ex) ifs tt) (he:∀ cl C s0 H0 ex,cG (vR X sc x ys cl C s0 H0 ex) elt te)
 {pins:List (Addr ×Obj)} {σ:St} {H:Hp} {s:Shared} {ρ:En} {M:Mp} {it:Addr} {fp:List Addr} {tn:Nat→Heap→Prop} {J:It} {inv:Hp→Prop} {ds:List D} {gd:Mp→Prop} {Q:DK} {E:Value→Shared→Prop} {Ma:Mp} {Ha:Hp} {use:Option (Value→Sem Unit)} {Qs:Value→Shared→Prop} (fa:Fr Ma Ha M H)
 (fin:∀ (C Dl:Addr) (s6:Shared) (H5:Hp),Inv X pins σ H5 s6→(∃ m,s6.heap.Ns C m)→jl X pins H5 C→Post X.K Ma Ha Q (.ref Dl) H5→compPost (model X.prog X.w) X.A E use Qs (.ref Dl) C (.ok .next) s6)
 (I:Inv X pins σ H s) (r:Rep X.K H σ ρ M) (T:Turn X.prog X.w X.K (.Name x px) J fp it tn) (st:tn 0 s.heap) (hf:∀ b∈fp,jl X pins H b) (hJ:ya X.K J inv ds) (hz:ds.length < sizeLine)
 (stay:∀ M1 H1,Fr M H M1 H1→bC X.K H1 M1→gd M1→inv H1) (q:oA gd tt te (m9 fs ρ) (fun zs M2=> ∀ p,M2 p=none→Q (.ref p) (av M2 p (.lst zs))) ds [] M) :
 wpAny (model X.prog X.w) X.A (newList []) (fun acc s3=>wpAny (model X.prog X.w) X.A (newFunctionEnv sc X.env.globals (cL X.env.cells sc.names []) [] X.env.qual none .none (some X.env)) (fun cenv s4=>
  codeAny (model X.prog X.w) X.A (.compStart (.ListComp elt [⟨.Name x px,iter,ifs,0⟩] sc pos) 0 (.ref it) acc { cenv with scope:=relabel sc X.env }) (compPost (model X.prog X.w) X.A E use Qs acc cenv.locals) s4) E s3) E s:=by
 have hfp:∀ b∈fp,b < s.heap.objs.size:=fun b hb=>by
  obtain ⟨o,e,_⟩:=T.obj 0 _ st b hb
  exact Heap.lt_size e
 refine wpAny_newList (hsz:=UD _) ?_
 have fD:H s.heap.objs.size=none:=I.hok.fresh (Tz _)
 have k1:∀ b o,s.heap.get? b=some o→(s.heap.push { cls:= .type "list",data:= .seq ([]:List Value).toArray }).get? b=some o:=fun b o e=>Heap.get?_push_of_some _ e
 have z3:(s.heap.push { cls:= .type "list",data:= .seq ([]:List Value).toArray }).objs.size=s.heap.objs.size+1:=Heap.size_push ..
 have I3:Inv X pins σ (upd H s.heap.objs.size (.lst [])) { s with heap:=s.heap.push { cls:= .type "list",data:= .seq ([]:List Value).toArray } }:=
  I.laid (t':=s.toks) k1 (Tz _) ⟨UD _,[],0,.nil,Heap.get?_push_size _ rfl⟩
 refine wpAny_newFunctionEnv ck.Cm (fun y hy=>by cases hy) (fun h1 OT OU=>?_) ck.kind
 generalize OV:({ s with heap:=s.heap.push { cls:= .type "list",data:= .seq ([]:List Value).toArray } }:Shared)=s3 at I3 OT OU ⊢
 have Qt:s3.heap.objs.size=s.heap.objs.size+1:=by rw [← OV];exact z3
 have old:∀ b o,s3.heap.get? b=some o→h1.get? b=some o:=fun b o e=>OU.extBut b o (Ue (Heap.lt_size e)) (Heap.get?_push_of_some _ e)
 have OW:∀ b∈fp,jl X pins (upd H s.heap.objs.size (.lst [])) b:=fun b hb=>⟨by rw [aQ (Ue (hfp b hb))];exact (hf b hb).1,(hf b hb).2⟩
 have OX:Fr M H M (upd H s.heap.objs.size (.lst [])):=Fr.new fD fun _ _=>rfl
 have r3:Rep X.K (upd H s.heap.objs.size (.lst [])) σ ρ M:=r.go OX (r.mem.new fD)
 obtain ⟨σ',I4,r4⟩:=AR (s:=s3) (s':={ s3 with heap:=h1,toks:=s3.toks+([]:List (Str ×Value)).length }) (C:=s3.heap.objs.size) (fp:=fp) ck I3 r3 rfl (Tz _) old ⟨_,OT⟩ rfl rfl OW (fun b hb=>by rw [Qt];exact UN (hfp b hb))
 have MD:M s.heap.objs.size=none:=r.mem.free fD
 have OY:tn 0 h1:=T.keep 0 _ _ st fun b hb o e=>old b o (by rw [← OV];exact k1 b o e)
 have Nt:∀ {H':Hp},(∀ b∈fp,H' b=none)→∀ b∈fp,jl (vR X sc x ys (cL X.env.cells sc.names []) s3.heap.objs.size s3 (upd H s.heap.objs.size (.lst [])) fp) [] H' b:=fun {H'} hn b hb=>
  ⟨hn b hb,(I4.ok.Jj b hb).1,I4.ok.Ar b hb,.inl hb,fun y c e z=>(I4.ok.Jj b hb).2 y c e z,fun p hp=>by cases hp⟩
 have loop:∀ s4:Shared,s4= { s3 with heap:=h1,toks:=s3.toks+([]:List (Str ×Value)).length }→
  codeAny (model X.prog X.w) X.A (.compLoop (.ListComp elt [⟨.Name x px,iter,ifs,0⟩] sc pos) 0 (.ref it) (.ref s.heap.objs.size) ((vR X sc x ys (cL X.env.cells sc.names []) s3.heap.objs.size s3 (upd H s.heap.objs.size (.lst [])) fp)).env) (compPost (model X.prog X.w) X.A E use Qs (.ref s.heap.objs.size) s3.heap.objs.size) s4:=by
  rintro s4 rfl
  refine codeAny_loop rfl (I:=fun n s'=> ∃ i acc M',n=ds.length - i∧i≤ds.length∧Nr X (vR X sc x ys (cL X.env.cells sc.names []) s3.heap.objs.size s3 (upd H s.heap.objs.size (.lst [])) fp) s.heap.objs.size fp tn M H (m9 fs ρ) i s' acc M'∧oA gd tt te (m9 fs ρ) (fun zs M2=> ∀ p,M2 p=none→Q (.ref p) (av M2 p (.lst zs))) (ds.drop i) acc M')
   (fun n s5 hI=>?_) ds.length ⟨0,[],M,rfl,UD _,⟨σ',_,none,[],I4,OY,fun b hb=>(OW b hb).1,r4,OX,bN,MD,aE.mpr rfl,Tz _⟩,q⟩
  obtain ⟨i,acc,M5,rfl,hi,⟨σ5,H5,y5,ws,I5,I0,f5,r5,Ed,OZ,O0,O1,Sg⟩,q5⟩:=hI
  show wpAny (model X.prog X.w) X.A ((compTurn (.ListComp elt [⟨.Name x px,iter,ifs,0⟩] sc pos) 0 (.ref it) (.ref s.heap.objs.size) ((vR X sc x ys (cL X.env.cells sc.names []) s3.heap.objs.size s3 (upd H s.heap.objs.size (.lst [])) fp)).env).onRaise (fun z=>do { noteFrame z ((vR X sc x ys (cL X.env.cells sc.names []) s3.heap.objs.size s3 (upd H s.heap.objs.size (.lst [])) fp)).env;theTreesLotGoes z })) _ _ s5
  refine wpAny_noted ?_
  rw [wu]
  refine wpAny_bind (wpAny_standAt ?_)
  by_cases hlt:i < ds.length
  ·have hdr:ds.drop i=ds[i] :: ds.drop (i+1):=Vr hlt
   rw [hdr] at q5
   obtain ⟨hg,q5⟩:=q5
   have hinv:=stay M5 H5 Ed r5.mem hg
   refine wpAny_bind (yg (T.item (vR X sc x ys (cL X.env.cells sc.names []) s3.heap.objs.size s3 (upd H s.heap.objs.size (.lst [])) fp) rfl rfl rfl hc i [] s5 σ5 H5 (fun _ _=>False) I5 (Nt f5) I0 (hJ.go i H5 hlt hinv)) fun r6 s6 ⟨u,e6,h6⟩=>?_)
   subst e6
   refine wpAny_bind (yg h6 fun _ s7 ⟨v,H7,I7,rv,yl,Nu,f7⟩=>?_)
   obtain ⟨e7,d,hd1,hd2⟩:=hJ.DT i H5 v H7 hlt hinv yl
   subst e7
   have ed:d=ds[i]:=Option.some.inj (hd1.symm.trans (Tq hlt))
   subst ed
   have Qu:=I7.pinned (Nt f7) (T.obj _ _ Nu)
   have lx:(relabel sc X.env).names.lookup x=some .local:=lookup_relabel_local ck.loc
   refine wpAny_bind (yg ((bI (X:=(vR X sc x ys (cL X.env.cells sc.names []) s3.heap.objs.size s3 (upd H s.heap.objs.size (.lst [])) fp)) (i:=0) (x:=x) (pos:=px) ck.nd rfl (.inl lx) (.inr lx)).run _ s7 σ5 H7 (y5 :: m9 fs ρ) M5 v ds[i] u (fun ρ' M'=>ρ'=some ds[i] :: m9 fs ρ∧M'=M5) Qu r5 rv hd2 ⟨rfl,rfl⟩) fun _ s8 ⟨σ8,H8,I8,ρ8,M8,Nv,r8,e8,Qv⟩=>?_)
   subst e8 Qv
   obtain ⟨Qw,Qx⟩:=Nv _ _ O0 OZ
   refine wpAny_bind (yg ((ht _ _ _ _ _).run _ s8 σ8 H8 _ M8 _ I8 r8 q5) fun b s9 ⟨H9,I9,M9,LL,Qy,q9⟩=>?_)
   obtain ⟨O2,O3⟩:=LL _ _ Qx Qw
   have r9:=r8.go LL Qy
   have KA:=(Ed.trans Nv).trans LL
   have O4:aB X.K H9 acc ws:=aB.mono ((Nv.trans LL).ext r5.mem) _ _ O1
   have next:∀ {H':Hp} {s':Shared},Inv (vR X sc x ys (cL X.env.cells sc.names []) s3.heap.objs.size s3 (upd H s.heap.objs.size (.lst [])) fp) ([] ++ pJ fp s7.heap) σ8 H' s'→(tn (i+1) s'.heap∧∀ b∈fp,H' b=none):=fun {H' s'} I'=>by
    have pin:∀ b∈fp,∀ o,s7.heap.get? b=some o→s'.heap.get? b=some o∧H' b=none:=fun b hb o e=>by
     have:=I'.pin (b,o) (T7 _ (T7 _ (kX hb e)))
     exact ⟨this.1,this.2.1⟩
    refine ⟨T.keep _ _ _ Nu fun b hb o e=>(pin b hb o e).1,fun b hb=>?_⟩
    obtain ⟨o,e,_⟩:=T.obj _ _ Nu b hb
    exact (pin b hb o e).2
   cases b with
   | false=>
     rw [if_neg TJ]
     obtain ⟨n1,n2⟩:=next I9
     exact wpAny_pure ⟨rfl,ds.length - (i+1),by omega,i+1,acc,M9,rfl,hlt,⟨σ8,H9,_,ws,I9.jx,n1,n2,r9,KA,O2,O3,O4,by omega⟩,q9⟩
   | true=>
     rw [if_pos rfl]
     refine wpAny_bind (yg ((he _ _ _ _ _).run _ s9 σ8 H9 _ M9 _ I9 r9 q9) fun Qz QA ⟨v10,Gi,QB,Ny,dy,ER,ES,Nz,KC,QC⟩=>?_)
     obtain ⟨KD,KG⟩:=ES _ _ O3 O2
     have O5:=r9.go ES KC
     have KH:aB X.K Gi acc ws:=aB.mono (ES.ext r9.mem) _ _ O4
     have lw:ws.length < sizeLine:=by rw [← KH.length];omega
     refine wpAny_bind (yg (mW (X:=(vR X sc x ys (cL X.env.cells sc.names []) s3.heap.objs.size s3 (upd H s.heap.objs.size (.lst [])) fp)) _ QA σ8 Gi (.ref s.heap.objs.size) [v10] (.ref s.heap.objs.size) [Qz] (fun _ H'=>H'=upd Gi s.heap.objs.size (.lst (ws ++ [v10]))) QB rfl (.cons Ny .nil) ⟨_,ws,v10,rfl,rfl,KD,lw,rfl⟩) fun _ Sh ⟨_,Si,O6,_,QD⟩=>?_)
     subst QD
     have ex:Ext Gi (upd Gi s.heap.objs.size (.lst (ws ++ [v10]))):=Ext.jy KD
     have NB:bC X.K (upd Gi s.heap.objs.size (.lst (ws ++ [v10]))) ER:=fun a o e=>by
      have na:a≠s.heap.objs.size:=fun z=>by rw [z,KG] at e;cases e
      exact (KC a o e).mono ex fun u q=>by rw [aQ na];exact q
     have QE:Rep X.K (upd Gi s.heap.objs.size (.lst (ws ++ [v10]))) σ8 (some ds[i] :: m9 fs ρ) ER:=⟨fun j d e=>let ⟨v,e1,e2⟩:=O5.env j d e;⟨v,e1,Dat.mono ex _ _ e2⟩,O5.len,NB⟩
     have NC:Fr M H ER (upd Gi s.heap.objs.size (.lst (ws ++ [v10]))):=fun b o n e=>by
      obtain ⟨e1,n1⟩:=(KA.trans ES) b o n e
      exact ⟨by rw [aQ (bE e fD)];exact e1,n1⟩
     obtain ⟨n1,n2⟩:=next O6
     exact wpAny_pure ⟨rfl,ds.length - (i+1),by omega,i+1,acc ++ [dy],ER,rfl,hlt,⟨σ8,_,_,ws ++ [v10],O6.jx,n1,n2,QE,NC,bN,KG,aB.mono ex _ _ (KH.append (aB.one Nz)),by simp;omega⟩,QC⟩
  ·have ei:i=ds.length:=by omega
   subst ei
   rw [Wl (Tz _)] at q5
   obtain ⟨hg,q5⟩:=q5
   have hinv:=stay M5 H5 Ed r5.mem hg
   refine wpAny_bind (yg (T.done (vR X sc x ys (cL X.env.cells sc.names []) s3.heap.objs.size s3 (upd H s.heap.objs.size (.lst [])) fp) rfl rfl rfl hc ds.length [] s5 σ5 H5 (fun _ _=>False) I5 (Nt f5) I0 (hJ.stop H5 hinv)) fun r6 s6 ⟨e6,I6⟩=>?_)
   subst e6
   refine wpAny_pure ?_
   obtain ⟨m,hm,_⟩:=id I6.loc
   have I7:Inv X pins σ H5 s6:=I3.Jm (s':=s6) (ch:=fp) I6.os I6.base I6.hok I6.bare fun b hb=>⟨(hf b hb).2.2.2.1,(hf b hb).2.1,(hf b hb).2.2.2.2.1,(hf b hb).2.2.2.2.2⟩
   refine fin _ _ s6 H5 I7 ⟨m,hm⟩ (I3.Av (Tz _) I6.free) (Post.back fa ⟨.ref s.heap.objs.size,av M5 s.heap.objs.size (.lst acc),fun b o n e=>?_,aH.mpr rfl,fun a o e=>?_,q5 _ O0⟩)
   ·obtain ⟨e1,n1⟩:=Ed b o n e
    exact ⟨e1,by rw [aZ (bE e fD)];exact n1⟩
   ·by_cases ha:a=s.heap.objs.size
    ·subst ha
     rw [ah] at e
     cases e
     exact ⟨ws,OZ,O1⟩
    ·rw [aZ ha] at e
     exact r5.mem a o e
 exact codeAny_compStart_list (loop _ rfl) (T.self X.A 0 _ _ _ OY (loop _ rfl))
end
end L3
namespace L3
open PySem PySem.Spec PyProof.Rows L2
section
variable {X:Cx} {sc:Scope} {x:Str} {ys:List Str} {fs:List Nat} {elt iter:Expr} {px pos:Pos} {ifs:List Expr} {tt:lG} {te:cK} {ti:cK}
def O7 (Q:DK):List D→Mp→Prop:=fun zs M2=> ∀ p,M2 p=none→Q (.ref p) (av M2 p (.lst zs))
def ND (fs:List Nat) (ti:cK) (tt:lG) (te:cK):cK:=fun ρ M Q=>ti ρ M fun d M1=> ∃ a xs,d= .ref a∧M1 a=some (.lst xs)∧xs.length < sizeLine∧bY (oA (fun M=>M a=some (.lst xs)) tt te (m9 fs ρ) (O7 Q) xs [] M1)
def QF (X:Cx) (fs:List Nat) (tt:lG) (te:cK) (σ:St) (ρ:En) (M:Mp) (H:Hp) (Q:DK):It→Hp→Prop:=fun J H2=> ∃ M2 inv ds gd,Fr M H M2 H2∧Rep X.K H2 σ ρ M2∧ya X.K J inv ds∧ds.length < sizeLine∧(∀ M1 H1,Fr M2 H2 M1 H1→bC X.K H1 M1→gd M1→inv H1)∧oA gd tt te (m9 fs ρ) (O7 Q) ds [] M2
theorem ET {pins:List (Addr ×Obj)} {σ:St} {M:Mp} {H:Hp} {Q:DK} {E:Value→Shared→Prop}:∀ (C Dl:Addr) (s6:Shared) (H5:Hp),Inv X pins σ H5 s6→(∃ m,s6.heap.Ns C m)→jl X pins H5 C→Post X.K M H Q (.ref Dl) H5→
 compPost (model X.prog X.w) X.A E none (EP X pins σ (Post X.K M H Q)) (.ref Dl) C (.ok .next) s6:=fun C Dl s6 H5 I ⟨m,hm⟩ f P=>
 ⟨m,hm,fun h' sb=>⟨.ref Dl,H5,I.turned (t':=s6.toks) (fun b o hb e=>sb.extBut b o hb e) f.1 f.2.1 f.2.2.2.1 f.2.2.2.2.1 f.2.2.2.2.2,rfl,P⟩⟩
theorem KI {use:Option (Value→Sem Unit)} {Qs:Value→Shared→Prop} {ps:Pos} (hc:X.calm=true) (hk:bO X.env.scope X.N sc x ys fs=true) (ht:∀ cl C s0 H0 ex,Kz (vR X sc x ys cl C s0 H0 ex) ifs tt) (he:∀ cl C s0 H0 ex,cG (vR X sc x ys cl C s0 H0 ex) elt te)
 (hs:∀ z,foldedSetIterable iter X.env z=pure z) {pins:List (Addr ×Obj)} {s:Shared} {σ:St} {H:Hp} {ρ:En} {M:Mp} {Q:DK} (I:Inv X pins σ H s)
 (fin:∀ (C Dl:Addr) (s6:Shared) (H5:Hp),Inv X pins σ H5 s6→(∃ m,s6.heap.Ns C m)→jl X pins H5 C→Post X.K M H Q (.ref Dl) H5→compPost (model X.prog X.w) X.A X.xe use Qs (.ref Dl) C (.ok .next) s6)
 (h:wpAny (model X.prog X.w) X.A (eval iter X.env) (fun v s1=>wpAny (model X.prog X.w) X.A (pyIter v) (Mq X pins σ (.Name x px) (QF X fs tt te σ ρ M H Q)) X.xe s1) X.xe s) :
 wpAny (model X.prog X.w) X.A (comprehension (.ListComp elt [⟨.Name x px,iter,ifs,0⟩] sc pos) sc X.env ps (newList []) false (eval iter X.env) use) Qs X.xe s:=by
 have ck:=qb.of hk
 refine wpAny_comprehension_free (use:=use) (cl:=cL X.env.cells sc.names []) rfl hs (yf fun y hy z=>I.ok.has y.1 (.inl (ck.LK y hy z))) ck.kind ck.names (cF h fun v s1 h1=>cF h1 fun itv s2 h2=>?_)
 obtain ⟨it,fp,tn,J,H2,e,I2,T,st2,f2,M2,inv,ds,gd,fr,r2,hJ,hz,stay,q⟩:=h2
 subst e
 exact EO hc ck ht he fr fin I2 r2 T st2 f2 hJ hz stay q
structure NF (X:Cx) (sc:Scope) (x:Str) (px:Pos) (ys:List Str) (fs:List Nat) (iter:Expr) (ifs:List Expr) (elt:Expr) (t:cK):Prop where
 run:∀ {use:Option (Value→Sem Unit)} {Qs:Value→Shared→Prop} {ps pos:Pos} {pins:List (Addr ×Obj)} {s:Shared} {σ:St} {H:Hp} {ρ:En} {M:Mp} {Q:DK},Inv X pins σ H s→Rep X.K H σ ρ M→t ρ M Q→
  (∀ (C Dl:Addr) (s6:Shared) (H5:Hp),Inv X pins σ H5 s6→(∃ m,s6.heap.Ns C m)→jl X pins H5 C→Post X.K M H Q (.ref Dl) H5→compPost (model X.prog X.w) X.A X.xe use Qs (.ref Dl) C (.ok .next) s6)→
  wpAny (model X.prog X.w) X.A (comprehension (.ListComp elt [⟨.Name x px,iter,ifs,0⟩] sc pos) sc X.env ps (newList []) false (eval iter X.env) use) Qs X.xe s
theorem qc {t:cK} (h:NF X sc x px ys fs iter ifs elt t):cG X (.ListComp elt [⟨.Name x px,iter,ifs,0⟩] sc pos) t:=by
 constructor
 intro pins s σ H ρ M Q I r q
 rw [eval_ListComp]
 exact h.run I r q ET
theorem HU {t:cK} {j:Nat} {y:Str} {py spos:Pos} (h:NF X sc x px ys fs iter ifs elt t) (hN:X.N.Nodup) (hj:X.N[j]?=some y) (hy:Loc X.env.scope y)
 (hsw:swapsWith (.ListComp elt [⟨.Name x px,iter,ifs,0⟩] sc pos) (some (.Name y py)) spos.line X.env=pure true:=by rfl) (hf:X.fn y=true∨X.env.scope.names.lookup y=some .local:=by first | exact .inl rfl | exact .inr rfl) :
 uz X (.Assign [.Name y py] (.ListComp elt [⟨.Name x px,iter,ifs,0⟩] sc pos) spos) (Gf j t):=by
 constructor
 intro pins s σ H ρ M D I r q
 rw [exec_Assign_Name_used _ _ _ _ hsw]
 refine wpAny_bind (wpAny_standAt (wpAny_bind ?_))
 show wpAny (model X.prog X.w) X.A (do { let _ ← comprehension (.ListComp elt [⟨.Name x px,iter,ifs,0⟩] sc pos) sc X.env _ (newList []) false (eval iter X.env) (some (assign (.Name y py) X.env)) }) _ _ s
 refine wpAny_bind (cF (h.run (use:=some (assign (.Name y py) X.env)) (Qs:=fun _ s'=>SP X pins (ends X.K M H D) .next s') I r q fun C Dl s6 H5 I6 hC f P=>?_) fun _ s' hq=>wpAny_pure (wpAny_pure hq))
 obtain ⟨m,o,es,ep,ho,hd,hrest⟩:=hC
 obtain ⟨d,M5,Ed,dd,QG,q5⟩:=P
 have QH:Inv X (pins ++ [(C,o)]) σ H5 s6:=I6.oY fun p hp=>(TU.mp hp).elim (fun z=>I6.pin p (T7 _ z)) fun z=>by
  have e:=Tt.mp z
  subst e
  exact ⟨ho,f.1,f.2.1,f.2.2.1,fun v z=>by rw [hd] at z;cases z⟩
 refine cF ((bI (i:=j) (x:=y) (pos:=py) hN hj hy hf).run _ s6 σ H5 ρ M5 (.ref Dl) d (.ref Dl) (D.nx) QH (r.go Ed QG) rfl dd q5) fun _ s7 ⟨σ7,H7,I7,ρ7,M7,QI,r7,q7⟩=>?_
 have pin:=I7.pin (C,o) (T7 _ (T7 _ (Tt.mpr rfl)))
 refine ⟨m,⟨o,es,ep,pin.1,hd,hrest⟩,fun h' sb=>?_⟩
 have I8:Inv X pins σ7 H7 s7:=I7.oY fun p hp=>I7.pin p (T7 _ (TR _ hp))
 exact ⟨σ7,H7,I8.turned (t':=s7.toks) (fun b o hb e=>sb.extBut b o hb e) pin.2.1 f.2.1 f.2.2.2.1 f.2.2.2.2.1 f.2.2.2.2.2,ρ7,M7,Ed.trans QI,r7,q7⟩
theorem gI (hc:X.calm=true) (hk:bO X.env.scope X.N sc x ys fs=true) (hi:cG X iter ti) (ht:∀ cl C s0 H0 ex,Kz (vR X sc x ys cl C s0 H0 ex) ifs tt) (he:∀ cl C s0 H0 ex,cG (vR X sc x ys cl C s0 H0 ex) elt te)
 (hs:∀ z,foldedSetIterable iter X.env z=pure z:=by intro _;rfl):NF X sc x px ys fs iter ifs elt (ND fs ti tt te):=by
 constructor
 intro use Qs ps pos pins s σ H ρ M Q I r h fin
 refine KI (ρ:=ρ) hc hk ht he hs I fin (oZ hi.dn pins s σ H _ I (dF r h fun v H' d M' f dv r' ⟨a,xs,e1,hM,hz,q⟩=>?_))
 subst e1
 obtain rfl:=aH.mp dv
 obtain ⟨zs,ha,hy⟩:=r'.mem.lst hM
 exact ⟨a,rfl,⟨zs,iE.of ha⟩,M',_,xs,_,f,r',uF,hz,fun M1 H1 f1 mT g1=>mT.lst g1,q.out⟩
theorem bM {gd:Mp→Prop} {fr:En} {Q:List D→Mp→Prop} {M:Mp} (Pv:Nat→List D→Mp→Prop):∀ (ds:List D),(∀ (i:Nat) (d:D) (acc:List D) (M:Mp) (N:List D→Mp→Prop),ds[i]?=some d→Pv i acc M→(∀ acc' M',Pv (i+1) acc' M'→N acc' M')→
 gd M∧tt (some d :: fr) M fun b M1=>if b=true then te (some d :: fr) M1 fun y M2=>N (acc ++ [y]) M2 else N acc M1)→
 (∀ acc M,Pv ds.length acc M→gd M∧Q acc M)→Pv 0 [] M→oA gd tt te fr Q ds [] M:=by
 intro ds hstep hend h0
 have key:∀ (zs:List D) (i:Nat) (acc:List D) (M:Mp),ds.drop i=zs→Pv i acc M→i≤ds.length→oA gd tt te fr Q zs acc M:=by
  intro zs
  induction zs with
  | nil=>
    intro i acc M e p hi
    have:ds.length≤i:=by
     have:=congrArg List.length e
     rw [UL] at this
     simp at this
     omega
    obtain rfl:i=ds.length:=by omega
    exact hend acc M p
  | cons z zs ih=>
    intro i acc M e p hi
    have hx:ds[i]?=some z:=by
     have:=congrArg (fun l=>l[0]?) e
     simpa using this
    have hlt:i < ds.length:=(T9.mp hx).1
    refine hstep i z acc M _ hx p fun acc' M' p'=>ih (i+1) acc' M' ?_ p' hlt
    rw [← WW,e]
    rfl
 exact key ds 0 [] M rfl h0 (UD _)
end
end L3
namespace L3
open PySem PySem.Spec PyProof.Rows L2
structure LM (outer:Scope) (N:List Str) (sc:Scope) (x:Str) (ys:List Str) (fs:List Nat):Prop where
 kind:sc.kind= .function
 Ky:outer.kind= .function
 names:∀ y∈sc.names,y.2= .local→sc.names.lookup y.1=some .local
 LK:∀ y∈sc.names,y.2= .free→outer.names.lookup y.1=some .cell
 loc:sc.names.lookup x=some .cell
 cells:sc.names.filter (fun y=>y.2 == .cell)= [(x,.cell)]
 len:ys.length=fs.length
 at':∀ (k:Nat) y,ys[k]?=some y→∃ i,fs[k]?=some i∧N[i]?=some y∧sc.names.lookup y=some .free
 nd:(x :: ys).Nodup
section
variable {X:Cx} {sc:Scope} {x:Str} {ys:List Str} {fs:List Nat}
end
section
variable {X:Cx} {sc:Scope} {x:Str} {ys:List Str} {fs:List Nat} {elt iter:Expr} {px pos:Pos} {ifs:List Expr} {tt:lG} {te:cK} {ti:cK}
end
end L3
namespace L3
open PySem PySem.Spec PyProof.Rows L2
section
variable {X:Cx}
theorem qd {ds es:List D} (h:ds.length≠es.length):fB ds es=false:=by
 rw [ff,beq_eq_false_iff_ne.mpr h,WV]
def NG:R3:=fun d e M Q=> ∃ a b xs ys,d= .ref a∧e= .ref b∧M a=some (.lst xs)∧M b=some (.lst ys)∧xs.all (plain 9)=true∧ys.all (plain 9)=true∧Q (.bl (fB xs ys)) M
theorem KJ (hu:X.A.units+64 < cLine):lJ X (compareOp .Eq) NG:=by
 constructor
 intro pins s σ H M x y d e v u Q I rm rx ry dx dy ⟨a,b,xs,ys,e1,e2,ha,hb,pa,pb,q⟩
 subst e1;subst e2
 obtain rfl:=aH.mp dx
 obtain rfl:=aH.mp dy
 obtain rfl:v=Value.ref a:=rx
 obtain rfl:u=Value.ref b:=ry
 obtain ⟨zs,h1,h2⟩:=rm.lst ha
 obtain ⟨ws,h3,h4⟩:=rm.lst hb
 obtain ⟨its,rv,pl,hz⟩:=I.list (iE.of (K:=X.K) h1)
 obtain ⟨its2,o8,Gj,hz2⟩:=I.list (iE.of (K:=X.K) h3)
 have l1:=h2.length.trans rv.length
 have l2:=h4.length.trans o8.length
 have fin:∀ k,k=fB xs ys→EP X pins σ (Post X.K M H Q) (.bool k) s:=fun k e=>⟨.bl k,H,I,rfl,aD rm (aY.mpr rfl) (by rw [e];exact q)⟩
 by_cases hs:its.toArray.size=its2.toArray.size
 ·refine SeqAt.RcAt.lists (A:=X.A) (s:=s) (e:=fun j=>dM (xs.getD j .bz) (ys.getD j .bz)) pl.isList Gj.isList hs (by omega) (jA I.hok (n:=9) (by show X.A.units+1+9 < cLine;omega) pa pb h2 h4 rv o8) _ _ _ _ (fin _ ?_)
  simp only [Tv] at hs
  rw [ff,Tv,← l1]
  have e:ys.length=xs.length:=by omega
  rw [e,Wd,beq_self_eq_true,WC]
 ·refine SeqAt.RcAt.lists_lengths (A:=X.A) (s:=s) pl.isList Gj.isList (by simpa using hs) (by omega) _ _ _ _ (fin _ ?_)
  simp only [Tv] at hs
  exact (qd (by omega)).symm
abbrev KL:=En→Mp→(Option Int→Mp→Prop)→Prop
structure LN (X:Cx) (e:Option Expr) (t:KL):Prop where
 dn:∃ t2:TO,PO X e t2∧∀ σ H ρ M Q Q',Rep X.K H σ ρ M→t ρ M Q→(∀ o H' M',Fr M H M' H'→Rep X.K H' σ ρ M'→Q o M'→Q' o H')→t2 σ H Q'
def NH:KL:=fun _ M Q=>Q none M
def HV (t:cK):KL:=fun ρ M Q=>t ρ M fun d M1=> ∃ i,d= .int i∧Q (some i) M1
theorem wz:LN X none NH:=⟨zo,Ej,fun σ H ρ M Q Q' r q k=>k none H M (.refl _ _) r q⟩
theorem jJ {e:Expr} {t:cK} (h:cG X e t):LN X (some e) (HV t):=⟨FW (L3.dn X.K t),Ek h.dn,fun σ H ρ M Q Q' r q k=>dF r q fun v H' d M' f dv r' ⟨i,e1,q⟩=>by
 subst e1
 obtain rfl:=aJ.mp dv
 exact ⟨i,rfl,k (some i) H' M' f r' q⟩⟩
def cutD (xs:List D) (lo hi:Option Int):List D:=(xs.drop (HT.n8 xs.length 0 lo)).take (HT.n8 xs.length xs.length hi - HT.n8 xs.length 0 lo)
theorem aB.drop {K:PySem.W.Frag} {H:Hp}:∀ {ds:List D} {xs:List V} (n:Nat),aB K H ds xs→aB K H (ds.drop n) (xs.drop n)
 | ds,xs,0,h=>h
 | [],xs,n+1,h=>by rw [aE.mp h];exact aE.mpr rfl
 | d :: ds,xs,n+1,h=>by
   obtain ⟨v,vs,rfl,_,h2⟩:=aA.mp h
   exact aB.drop n h2
theorem aB.take {K:PySem.W.Frag} {H:Hp}:∀ {ds:List D} {xs:List V} (n:Nat),aB K H ds xs→aB K H (ds.take n) (xs.take n)
 | ds,xs,0,h=>aE.mpr rfl
 | [],xs,n+1,h=>by rw [aE.mp h];exact aE.mpr rfl
 | d :: ds,xs,n+1,h=>by
   obtain ⟨v,vs,rfl,h1,h2⟩:=aA.mp h
   exact aA.mpr ⟨v,vs.take n,rfl,h1,aB.take n h2⟩
def KN:R3:=fun d e M Q=> ∃ a b xs ys,d= .ref a∧e= .ref b∧M a=some (.lst xs)∧M b=some (.lst ys)∧xs.length+ys.length≤sizeLine∧∀ p,M p=none→Q (.ref p) (av M p (.lst (xs ++ ys)))
theorem tH:lJ X (binaryOp .Add) KN:=LG Hi fun H M x y d e Q rm dx dy ⟨a,b,xs,ys,e1,e2,ha,hb,hz,q⟩=>by
 subst e1;subst e2
 obtain rfl:=aH.mp dx
 obtain rfl:=aH.mp dy
 obtain ⟨zs,h1,h2⟩:=rm.lst ha
 obtain ⟨ws,h3,h4⟩:=rm.lst hb
 exact ⟨a,b,zs,ws,rfl,rfl,h1,h3,by rw [← h2.length,← h4.length];exact hz,fun p hp=>⟨.ref p,av M p (.lst (xs ++ ys)),Fr.new hp fun _ hb=>aZ hb,aH.mpr rfl,rm.newL hp (h2.append h4),q p (rm.free hp)⟩⟩
def NI (i j:Int):Prop:=MulOk i j∨Eg i j
theorem yh:lJ X (binaryOp .Mult) (sQ NI fun i j=>i*j):=v8 (Jy fun _ _ _ _ _ _ _ hc q=>mul_int q (hc.elim MulOk.ok Eg.ok))
end
end L3
namespace L3
open PySem PySem.Spec PyProof.Rows L2
section
variable {X:Cx}
def Cq (M:Mp) (d:D) (xs:List D):Prop:=d= .zA xs∨∃ a,d= .ref a∧M a=some (.lst xs)
theorem Cq.of {M:Mp} {a:Addr} {xs:List D} (h:M a=some (.lst xs)):Cq M (.ref a) xs:= .inr ⟨a,rfl,h⟩
theorem Cq.sq {K:PySem.W.Frag} {H:Hp} {M:Mp} {d:D} {xs:List D} {x:V} (h:Cq M d xs) (rm:bC K H M) (dx:Dat K H d x):∃ a zs,x= .ref a∧iE K H a zs∧aB K H xs zs:=by
 rcases h with rfl | ⟨a,rfl,hM⟩
 ·obtain ⟨a,zs,rfl,h1,h2⟩:=o6.mp dx
  exact ⟨a,zs,rfl,h1.sq,h2⟩
 ·obtain rfl:=aH.mp dx
  obtain ⟨zs,h1,h2⟩:=rm.lst hM
  exact ⟨a,zs,rfl,iE.of h1,h2⟩
def KO:R3:=fun d e M Q=> ∃ xs ys,Cq M d xs∧Cq M e ys∧xs.all (plain 9)=true∧ys.all (plain 9)=true∧Q (.bl (fB xs ys)) M
def KP:R3:=fun d e M Q=> ∃ xs ys,Cq M d xs∧Cq M e ys∧xs.all (plain 9)=true∧ys.all (plain 9)=true∧Q (.bl (!fB xs ys)) M
theorem Cr (hu:X.A.units+64 < cLine):lJ X (compareOp .Eq) KO:=by
 constructor
 intro pins s σ H M x y d e v u Q I rm rx ry dx dy ⟨xs,ys,ha,hb,pa,pb,q⟩
 obtain ⟨a,zs,rfl,h1,h2⟩:=ha.sq rm dx
 obtain ⟨b,ws,rfl,h3,h4⟩:=hb.sq rm dy
 obtain rfl:v=Value.ref a:=rx
 obtain rfl:u=Value.ref b:=ry
 obtain ⟨its,rv,pl,hz⟩:=I.list h1
 obtain ⟨its2,o8,Gj,hz2⟩:=I.list h3
 have l1:=h2.length.trans rv.length
 have l2:=h4.length.trans o8.length
 have fin:∀ k,k=fB xs ys→EP X pins σ (Post X.K M H Q) (.bool k) s:=fun k e=>⟨.bl k,H,I,rfl,aD rm (aY.mpr rfl) (by rw [e];exact q)⟩
 by_cases hs:its.toArray.size=its2.toArray.size
 ·refine SeqAt.RcAt.lists (A:=X.A) (s:=s) (e:=fun j=>dM (xs.getD j .bz) (ys.getD j .bz)) pl.isList Gj.isList hs (by omega) (jA I.hok (n:=9) (by show X.A.units+1+9 < cLine;omega) pa pb h2 h4 rv o8) _ _ _ _ (fin _ ?_)
  simp only [Tv] at hs
  rw [ff,Tv,← l1]
  have e:ys.length=xs.length:=by omega
  rw [e,Wd,beq_self_eq_true,WC]
 ·refine SeqAt.RcAt.lists_lengths (A:=X.A) (s:=s) pl.isList Gj.isList (by simpa using hs) (by omega) _ _ _ _ (fin _ ?_)
  simp only [Tv] at hs
  exact (qd (by omega)).symm
theorem i6 (hu:X.A.units+64 < cLine):lJ X (compareOp .NotEq) KP:=by
 constructor
 intro pins s σ H M x y d e v u Q I rm rx ry dx dy ⟨xs,ys,ha,hb,pa,pb,q⟩
 obtain ⟨a,zs,rfl,h1,h2⟩:=ha.sq rm dx
 obtain ⟨b,ws,rfl,h3,h4⟩:=hb.sq rm dy
 obtain rfl:v=Value.ref a:=rx
 obtain rfl:u=Value.ref b:=ry
 obtain ⟨its,rv,pl,hz⟩:=I.list h1
 obtain ⟨its2,o8,Gj,hz2⟩:=I.list h3
 have l1:=h2.length.trans rv.length
 have l2:=h4.length.trans o8.length
 have fin:∀ k,k=(!fB xs ys)→EP X pins σ (Post X.K M H Q) (.bool k) s:=fun k e=>⟨.bl k,H,I,rfl,aD rm (aY.mpr rfl) (by rw [e];exact q)⟩
 by_cases hs:its.toArray.size=its2.toArray.size
 ·refine SeqAt.RcNeAt.lists (A:=X.A) (s:=s) (e:=fun j=>dM (xs.getD j .bz) (ys.getD j .bz)) pl.isList Gj.isList hs (by omega) (jA I.hok (n:=9) (by show X.A.units+1+9 < cLine;omega) pa pb h2 h4 rv o8) _ _ _ _ (fin _ ?_)
  simp only [Tv] at hs
  rw [ff,Tv,← l1]
  have e:ys.length=xs.length:=by omega
  rw [e,Wd,beq_self_eq_true,WC]
 ·refine SeqAt.RcNeAt.lists_lengths (A:=X.A) (s:=s) pl.isList Gj.isList (by simpa using hs) (by omega) _ _ _ _ (fin _ ?_)
  simp only [Tv] at hs
  rw [qd (by omega)]
  rfl
def HW:List D→Mp→DK→Prop:=fun ds M Q=> ∃ d xs,ds= [d]∧Cq M d xs∧∀ p,M p=none→Q (.ref p) (av M p (.lst xs))
theorem Cs:Call3 X (.type "list") HW:=B3 uv fun H M xs ds Q rm dx ⟨d,ys,e1,hs,q⟩=>by
 subst e1
 obtain ⟨v,rfl,hv⟩:=pQ dx
 obtain ⟨a,zs,rfl,h1,h2⟩:=hs.sq rm hv
 exact ⟨a,zs,rfl,.inl h1,fun p hp=>⟨.ref p,av M p (.lst ys),Fr.new hp fun _ hb=>aZ hb,aH.mpr rfl,rm.newL hp h2,q p (rm.free hp)⟩⟩
def NJ (te:cK) (tl th:KL):cK:=fun ρ M Q=>te ρ M fun d M1=>tl ρ M1 fun lo M2=>th ρ M2 fun hi M3=> ∃ xs,Cq M3 d xs∧∀ p,M3 p=none→Q (.ref p) (av M3 p (.lst (cutD xs lo hi)))
theorem fj {e:Expr} {lo hi:Option Expr} {te:cK} {tl th:KL} {p2 pos:Pos} (he:cG X e te) (hl:LN X lo tl) (hh:LN X hi th):cG X (.Subscript e (.Slice lo hi none p2) pos) (NJ te tl th):=by
 obtain ⟨Sj,pl,gl⟩:=hl.dn
 obtain ⟨Sk,ph,gh⟩:=hh.dn
 refine up (BI Ep he.dn pl ph) fun σ H ρ M Q r q=>dF r q fun v H' d M' f dv r' q1=>gl _ _ _ _ _ _ r' q1 fun lo H2 M2 f2 r2 q2=>gh _ _ _ _ _ _ r2 q2 fun hi H3 M3 f3 r3 ⟨xs,hL,q3⟩=>?_
 obtain ⟨a,zs,rfl,hz,hd⟩:=hL.sq r3.mem (Dat.mono ((f2.trans f3).ext r'.mem) _ _ dv)
 have ec:cutD xs lo hi=(xs.drop (HT.n8 zs.length 0 lo)).take (HT.n8 zs.length zs.length hi - HT.n8 zs.length 0 lo):=by unfold cutD;rw [hd.length]
 refine ⟨a,zs,rfl,hz,fun p hp=>⟨.ref p,av M3 p (.lst (cutD xs lo hi)),((f.trans f2).trans f3).trans (Fr.new hp fun _ hb=>aZ hb),aH.mpr rfl,r3.mem.newL hp ?_,q3 p (r3.mem.free hp)⟩⟩
 rw [ec]
 exact aB.take _ (aB.drop _ hd)
end
end L3
namespace L3
open PySem PySem.Spec PyProof.Rows L2
section
variable {X:Cx}
end
end L3
namespace L3
open PySem PySem.Spec PyProof.Rows L2
theorem uL {ps:List Pl} {i:Nat} {x:D} (h:(ps.map Pl.d)[i]?=some x):∃ p,ps[i]?=some p∧x=p.d:=by
 rw [Uh] at h
 cases e:ps[i]? with
 | none=>rw [e] at h;cases h
 | some p=>rw [e] at h;exact ⟨p,rfl,(Option.some.inj h).symm⟩
theorem yi (ns:List Int):(ns.map D.int).all (plain 9)=true:=by
 rw [Uz]
 intro d hd
 obtain ⟨i,_,rfl⟩:=TV.mp hd
 rfl
theorem ng {ns:List Int} {k:Int} (h0:0≤k) (h1:k < ns.length):∃ z:Int,z∈ns∧rC (ns.map D.int) k=some (.int z):=by
 obtain ⟨j,rfl⟩:∃ j:Nat,k=(j:Int):=⟨k.toNat,by omega⟩
 have hlt:j < ns.length:=by omega
 refine ⟨ns[j],VL hlt,o5 ?_⟩
 rw [Uh,Tq hlt]
 rfl
theorem yj {ns:List Int} {n:Nat} {z:Int} (h:ns.all (fun z=>decide (z.natAbs < 2 ^ n))=true) (m:z∈ns):Sm n z:=of_decide_eq_true (Uz.mp h z m)
theorem kg {q:Pl} {ps:List Pl}:inD q.d (ps.map Pl.d)=decide (q∈ps):=by
 unfold inD
 rw [Uo,WQ,decide_eq_true_eq]
 constructor
 ·rintro ⟨x,hx,e⟩
  obtain ⟨p,hp,rfl⟩:=TV.mp hx
  rw [m7] at e
  rw [← of_decide_eq_true e];exact hp
 ·intro hq
  exact ⟨q.d,TV.mpr ⟨q,hq,rfl⟩,by rw [m7];exact decide_eq_true rfl⟩
theorem Ct (ds:List D):fB ds []=ds.isEmpty:=by
 cases ds <;> simp [fB]
theorem iM {ds:List D} (h:ds.all (plain 9)=true):fB ds ds=true:=by
 have:=v9 10 (.tup ds) h
 rwa [iY] at this
theorem wA {α:Type} (g:α→D) (xs:List α) (n:Nat) (h:n≤xs.length):cutD (xs.map g) (some (n:Int)) none=(xs.drop n).map g:=by
 unfold cutD
 rw [HT.zm,HT.vZ]
 rw [To,WT h,List.map_drop]
 exact Wj (by simp)
end L3
namespace Att
open PySem PySem.W PySem.Calls PyProof.Rows
def NK (z:Int):Prop:=Builtin.Int.intBits z≤1048576
theorem qe {N:Nat}:∀ {ns:List Int},WData.weightAll (ns.map WData.int)≤N→∀ z∈ns,Builtin.Int.intBits z≤N
 | [],_,z,m=>by cases m
 | n :: ns,h,z,m=>by
   have e:WData.weightAll ((n :: ns).map WData.int)=Builtin.Int.intBits n+1+WData.weightAll (ns.map WData.int):=by
    rw [Ud]
    simp only [WData.weightAll,WData.weight,Builtin.Int.intBits]
   rw [e] at h
   rcases Tp.mp m with rfl | m
   ·omega
   ·exact qe (by omega) z m
theorem HX {ns:List Int} (h:WData.layableAll [WData.list (ns.map WData.int)]=true):∀ z∈ns,NK z:=by
 have h:WData.layable (WData.list (ns.map WData.int))=true:=by simpa [WData.layableAll] using h
 unfold WData.layable at h
 have h:=of_decide_eq_true (VN.mp h).2
 have e:WData.weight (WData.list (ns.map WData.int))=WData.weightAll (ns.map WData.int):=by simp only [WData.weight]
 rw [e] at h
 exact fun z m=>qe h z m
theorem uM {l:OpenLaw} {n:Nat} {q:Program} {loose:List Str} {XP:(Str→Option Value)→Heap→Prop} {YP:World→Heap→Prop} {d:DefRec}
 (hn:l.most=some n) (hdf:d.params.defaults= [])
 (call:∀ (w:World) (s₀ s₁:Shared) (mg mb:Str→Option Value) (fa:Addr) (o:Obj) (pm cd doc:Value) (a:Addr) (vs:List Value) (ns:List Int),
  Ground q loose [] XP w s₀ mg mb s₁.heap→YP w s₁.heap→
  s₁.heap.get? fa=some o→o.data= .func (docDef d.name d.params d.body d.scope pm cd doc)→s₁.heap.CodeRec cd d.name→mg d.name=some (.ref fa)→
  s₁.heap.get? a=some { cls:= .type "list",data:= .seq vs.toArray }→IntsAre vs ns→ns.length≤n→(∀ z∈ns,NK z)→s₁.gens= #[]→
  codeAny (model l.prog w) callerA (.call (.ref fa) ⟨[.ref a],[]⟩) (fun r s'=>r= .ok (.ret (.bool true))∧OldK s₁.heap s'.heap∧s'.os=s₁.os∧AllBare s'.gens) s₁) :
 WalkO q loose XP YP l.row.toRowW d [] (fun f vs=>PySem.call f vs):=by
 intro w s₀ s₁ mg mb G Y fa o pm cd doc dV kV ho hd hcd hD hmg hg args vals as hpre hlay hrd hwl hlo
 obtain rfl:dV= .none:=Dflts.none hD hdf
 obtain rfl:kV= .none:=Dflts.noKw hD
 obtain ⟨a,vs,ns,rfl,rfl,hobj,hints,hlen⟩:=AF hn hpre hwl
 refine enter_call (codeAny_mono (call w s₀ s₁ mg mb fa o pm cd doc a vs ns G Y ho (fd_plain hd) hcd hmg hobj hints hlen (HX hlay) hg) fun r s' hq=>?_)
 obtain ⟨rfl,h2,h3,h4⟩:=hq
 exact ⟨.inl ⟨.bool true,.bool true,[],rfl,fun _=>rfl,.bool true,AG l _,fun _=>⟨List.Pairwise.nil,fun _ hm=>(nomatch hm)⟩⟩,h2,h3,h4⟩
end Att
namespace L2
open PySem PySem.Spec PyProof.Rows
end L2
namespace L3
open PySem PySem.Spec PyProof.Rows L2 Att
section
variable {X:Cx}
end
end L3
namespace L3
open PySem PySem.Spec PyProof.Rows L2
def bZ:List Pl→List Pl→Bool
 | [],[]=>false
 | [],_ :: _=>true
 | _ :: _,[]=>false
 | p :: ps,q :: qs=>if p=q then bZ ps qs else decide (aG p q)
theorem jK:∀ ps,bZ ps ps=false
 | []=>rfl
 | p :: ps=>by unfold bZ;rw [if_pos rfl];exact jK ps
theorem jL:∀ ps qs,bZ ps qs=true∨ps=qs∨bZ qs ps=true
 | [],[]=> .inr (.inl rfl)
 | [],_ :: _=> .inl rfl
 | _ :: _,[]=> .inr (.inr rfl)
 | p :: ps,q :: qs=>by
   unfold bZ
   by_cases e:p=q
   ·subst e
    rw [if_pos rfl,if_pos rfl]
    rcases jL ps qs with h | h | h
    ·exact .inl h
    ·exact .inr (.inl (by rw [h]))
    ·exact .inr (.inr h)
   ·rw [if_neg e,if_neg (Ne.symm e)]
    rcases i0 e with h | h
    ·exact .inl (decide_eq_true h)
    ·exact .inr (.inr (decide_eq_true h))
theorem gg:∀ ps qs rs,bZ ps qs=true→bZ qs rs=true→bZ ps rs=true
 | [],[],_,h,_=>by cases h
 | [],_ :: _,[],_,h=>by cases h
 | [],_ :: _,_ :: _,_,_=>rfl
 | _ :: _,[],_,h,_=>by cases h
 | _ :: _,_ :: _,[],_,h=>by cases h
 | p :: ps,q :: qs,r :: rs,h1,h2=>by
   unfold bZ at *
   by_cases e1:p=q
   ·subst e1
    rw [if_pos rfl] at h1
    by_cases e2:p=r
    ·rw [if_pos e2] at h2 ⊢;exact gg ps qs rs h1 h2
    ·rw [if_neg e2] at h2 ⊢;exact h2
   ·rw [if_neg e1] at h1
    have b1:=of_decide_eq_true h1
    by_cases e2:q=r
    ·subst e2;rw [if_neg e1];exact h1
    ·rw [if_neg e2] at h2
     have b3:=bx b1 (of_decide_eq_true h2)
     rw [if_neg (jE b3)]
     exact decide_eq_true b3
def rN (n:Nat) (h:Heap) (v:Value) (ps:List Pl):Prop:=ps.length=n∧∃ (a:Addr) (o:Obj) (its:List Value) (m:Nat),v= .ref a∧h.get? a=some o∧o.cls= .type "tuple"∧o.data= .seq its.toArray m∧cZ h its ps
theorem cZ.grow {h h':Heap} (g:jH h h'):∀ {us:List Value} {ps:List Pl},cZ h us ps→cZ h' us ps
 | _,_,.nil=> .nil
 | _,_,.cons a r=> .cons (a.grow g) (cZ.grow g r)
theorem rN.grow {n:Nat} {h h':Heap} {v:Value} {ps:List Pl} (a:rN n h v ps) (g:jH h h'):rN n h' v ps:=by
 obtain ⟨hl,b,o,its,m,h1,h2,h3,h4,h5⟩:=a
 exact ⟨hl,b,o,its,m,h1,g _ _ h2,h3,h4,h5.grow g⟩
theorem rN.inj {n:Nat} {h:Heap} {v:Value} {ps qs:List Pl} (a:rN n h v ps) (b:rN n h v qs):ps=qs:=by
 obtain ⟨_,a1,o,its,m,rfl,h2,h3,h4,h5⟩:=a
 obtain ⟨_,a2,o',its',m',e,k2,k3,k4,k5⟩:=b
 injection e with e
 subst e
 rw [h2] at k2
 injection k2 with k2
 subst k2
 rw [h4] at k4
 injection k4 with k4 _
 have k4:its=its':=by simpa using k4
 subst k4
 rw [← h5.keys,← k5.keys]
open Classical in
noncomputable def Bt (n:Nat) (h:Heap):KeyKind where
 α:=List Pl
 blt p q:=bZ p q
 irrefl p:=jK p
 trans p q r a b:=gg p q r a b
 negTrans p q r a:=by
  rcases jL p q with c | c | c
  ·exact .inl c
  ·subst c;exact .inr a
  ·exact .inr (gg _ _ _ c a)
 total p q a b:=by
  rcases jL p q with c | c | c
  ·rw [a] at c;cases c
  ·exact c
  ·rw [b] at c;cases c
 keyOf v:=if e:∃ p,rN n h v p then some e.choose else none
 dflt:=[]
open Classical in
theorem zJ {n:Nat} {h:Heap} {v:Value} {p:List Pl} (a:rN n h v p):(Bt n h).keyOf v=some p:=by
 have e:∃ p,rN n h v p:=⟨p,a⟩
 show (if e:∃ p,rN n h v p then some e.choose else none)=some p
 rw [dif_pos e,rN.inj e.choose_spec a]
open Classical in
theorem Cu {n:Nat} {h:Heap} {v:Value} {p:List Pl} (a:(Bt n h).keyOf v=some p):rN n h v p:=by
 have a:(if e:∃ p,rN n h v p then some e.choose else none)=some p:=a
 by_cases e:∃ p,rN n h v p
 ·rw [dif_pos e] at a
  have:=e.choose_spec
  rwa [Option.some.inj a] at this
 ·rw [dif_neg e] at a;cases a
section
variable {P:Program} {w:World} {A:Around} {E:Value→Shared→Prop} {s:Shared}
theorem qf {u v:Value} {p q:Pl} {Q:Bool→Shared→Prop} (hu:A.units < cLine) (a:kN s.heap u p) (b:kN s.heap v q) (h:Q (decide (p=q)) s):wpAny (model P w) A (eqBool u v) Q E s:=by
 obtain ⟨a1,o1,t1,u1,n1,rfl,h2,h3,h4⟩:=a
 obtain ⟨a2,o2,t2,u2,n2,rfl,k2,k3,k4⟩:=b
 refine wpAny_eqBool_tuple (knd:=intKind P w) (x:=[p.x,p.y]) (y:=[q.x,q.y]) hu ⟨o1,_,n1,h2,h3,h4,?_⟩ ⟨o2,_,n2,k2,k3,k4,?_⟩ ?_
 ·exact .cons (by simp [intKind,Value.isInt]) (.cons (by simp [intKind,Value.isInt]) .nil)
 ·exact .cons (by simp [intKind,Value.isInt]) (.cons (by simp [intKind,Value.isInt]) .nil)
 ·have e:decide ([p.x,p.y]= [q.x,q.y])=decide (p=q):=by
   rw [decide_eq_decide]
   cases p;cases q
   simp
  rw [e];exact h
theorem jM {u v:Value} {p q:Pl} {Q:Bool→Shared→Prop} (hu:A.units < cLine) (a:kN s.heap u p) (b:kN s.heap v q) (h:Q (decide (aG p q)) s):wpAny (model P w) A (oneLt' false u v) Q E s:=by
 obtain ⟨l,its,rfl,h1,h2⟩:=a.tup
 obtain ⟨l',its',rfl,k1,k2⟩:=b.tup
 rw [oneLt'_eq]
 simp only [TH,if_false]
 apply wpAny_bind
 refine (HT.kZ h1 k1 h2 k2 hu ?_:wpAny (model P w) A (compareOp .Lt (.ref l) (.ref l')) _ E s)
 refine wpAny_truthy_bool ?_
 rw [lV]
 exact h
theorem cZ.cons_inv {h:Heap} {us:List Value} {p:Pl} {ps:List Pl} (a:cZ h us (p :: ps)):∃ u vs,us=u :: vs∧kN h u p∧cZ h vs ps:=by
 cases a with
 | cons a r=>exact ⟨_,_,rfl,a,r⟩
theorem cZ.nil_inv {h:Heap} {us:List Value} (a:cZ h us []):us= []:=by
 cases a
 rfl
theorem Cv {α:Type} {qs:List α} (h:qs.length=2):∃ u v,qs= [u,v]:=by
 match qs,h with
 | [u,v],_=>exact ⟨u,v,rfl⟩
theorem KQ {n:Nat} (hn:n=2∨n=3) {t:Shared} {x y:Value} {ps qs:List Pl} {R:Bool→Shared→Prop} (hu:A.units < cLine) (kx:rN n t.heap x ps) (ky:rN n t.heap y qs) (hR:R (bZ ps qs) t):wpAny (model P w) A (keyLt' (tuples' false) x y) R E t:=by
 obtain ⟨l1,a,o,its,m,rfl,h2,h3,h4,h5⟩:=kx
 obtain ⟨l2,b,o',its',m',rfl,k2,k3,k4,k5⟩:=ky
 rw [sZ]
 apply wpAny_bind;apply listItems_at h2 h4
 apply wpAny_bind;apply listItems_at k2 k4
 rcases hn with rfl | rfl
 ·obtain ⟨p1,p2,rfl⟩:=Cv l1
  obtain ⟨q1,q2,rfl⟩:=Cv l2
  obtain ⟨u1,us,rfl,a1,h5⟩:=h5.cons_inv
  obtain ⟨u2,us,rfl,a2,h5⟩:=h5.cons_inv
  obtain rfl:=h5.nil_inv
  obtain ⟨v1,vs,rfl,b1,k5⟩:=k5.cons_inv
  obtain ⟨v2,vs,rfl,b2,k5⟩:=k5.cons_inv
  obtain rfl:=k5.nil_inv
  ·clear h2 h4 k2 k4 h3 k3
   simp only [Vd,UY,Vw,V9,Wn,Vk,Vz,bind_assoc,Wv]
   apply wpAny_bind
   refine qf hu a1 b1 ?_
   unfold bZ at hR
   by_cases e1:p1=q1
   ·rw [if_pos e1] at hR
    rw [decide_eq_true e1]
    simp only [UA,TH,if_false,pure_bind,bind_assoc]
    apply wpAny_bind
    refine qf hu a2 b2 ?_
    unfold bZ at hR
    by_cases e2:p2=q2
    ·rw [if_pos e2] at hR
     rw [decide_eq_true e2]
     simp only [UA,TH,if_false,pure_bind]
     exact wpAny_pure hR
    ·rw [if_neg e2] at hR
     rw [decide_eq_false e2]
     simp only [U5,if_true,bind_assoc,pure_bind]
     apply wpAny_bind
     exact jM hu a2 b2 (wpAny_pure hR)
   ·rw [if_neg e1] at hR
    rw [decide_eq_false e1]
    simp only [U5,if_true,bind_assoc,pure_bind]
    apply wpAny_bind
    exact jM hu a1 b1 (wpAny_pure hR)
 ·obtain ⟨p1,p2,p3,rfl⟩:=lY l1
  obtain ⟨q1,q2,q3,rfl⟩:=lY l2
  obtain ⟨u1,us,rfl,a1,h5⟩:=h5.cons_inv
  obtain ⟨u2,us,rfl,a2,h5⟩:=h5.cons_inv
  obtain ⟨u3,us,rfl,a3,h5⟩:=h5.cons_inv
  obtain rfl:=h5.nil_inv
  obtain ⟨v1,vs,rfl,b1,k5⟩:=k5.cons_inv
  obtain ⟨v2,vs,rfl,b2,k5⟩:=k5.cons_inv
  obtain ⟨v3,vs,rfl,b3,k5⟩:=k5.cons_inv
  obtain rfl:=k5.nil_inv
  ·clear h2 h4 k2 k4 h3 k3
   simp only [Vd,UY,Vw,V9,Wn,Vk,Vz,bind_assoc,Wv]
   apply wpAny_bind
   refine qf hu a1 b1 ?_
   unfold bZ at hR
   by_cases e1:p1=q1
   ·rw [if_pos e1] at hR
    rw [decide_eq_true e1]
    simp only [UA,TH,if_false,pure_bind,bind_assoc]
    apply wpAny_bind
    refine qf hu a2 b2 ?_
    unfold bZ at hR
    by_cases e2:p2=q2
    ·rw [if_pos e2] at hR
     rw [decide_eq_true e2]
     simp only [UA,TH,if_false,pure_bind,bind_assoc]
     apply wpAny_bind
     refine qf hu a3 b3 ?_
     unfold bZ at hR
     by_cases e3:p3=q3
     ·rw [if_pos e3] at hR
      rw [decide_eq_true e3]
      simp only [UA,TH,if_false,pure_bind]
      exact wpAny_pure hR
     ·rw [if_neg e3] at hR
      rw [decide_eq_false e3]
      simp only [U5,if_true,bind_assoc,pure_bind]
      apply wpAny_bind
      exact jM hu a3 b3 (wpAny_pure hR)
    ·rw [if_neg e2] at hR
     rw [decide_eq_false e2]
     simp only [U5,if_true,bind_assoc,pure_bind]
     apply wpAny_bind
     exact jM hu a2 b2 (wpAny_pure hR)
   ·rw [if_neg e1] at hR
    rw [decide_eq_false e1]
    simp only [U5,if_true,bind_assoc,pure_bind]
    apply wpAny_bind
    exact jM hu a1 b1 (wpAny_pure hR)
theorem HY {n:Nat} (hn:n=2∨n=3) (hu:A.units < cLine) {h:Heap} {t:Shared} (g:jH h t.heap):Ask P w A t (Bt n h) (tuples' false):=
 ⟨fun E x y p q R kx ky hR=>KQ hn hu ((Cu kx).grow g) ((Cu ky).grow g) hR⟩
theorem EU {n:Nat} (hn:n=2∨n=3) {vs:List Value} (h2:1≤vs.length) (hv:∀ v∈vs,∃ p,rN n s.heap v p) {Q:SortKind→Shared→Prop} (h:Q (tuples' false) s):wpAny (model P w) A (keyKind' vs.toArray) Q E s:=by
 rw [keyKind'_eq,VB]
 simp only [bind_map_left]
 apply wpAny_bind
 refine lU (fun _ b=> ∃ u p,b=some u∧kN s.heap u p) vs _ (fun v hm Q hQ=>?_) fun bs hb=>?_
 ·obtain ⟨ps,hl,a,o,its,m,rfl,k2,k3,k4,k5⟩:=hv v hm
  rw [tu]
  apply wpAny_bind
  refine wpAny_typeOf (T:= "tuple") ⟨o,k2,k3⟩ ?_
  have e:(Value.type "tuple" !=Value.type "tuple")=false:=by decide
  rw [e]
  simp only [TH,if_false,pure_bind]
  apply wpAny_bind;apply listItems_at k2 k4
  cases ps with
  | nil=>simp at hl;omega
  | cons p ps=>
    obtain ⟨u,us,rfl,a,_⟩:=k5.cons_inv
    exact wpAny_pure (hQ _ ⟨u,p,rfl,a⟩)
 ·have all:∀ (vs:List Value) (bs:List (Option Value)),Paired (fun _ b=> ∃ u p,b=some u∧kN s.heap u p) vs bs→bs.length=vs.length∧(∀ b∈bs,∃ u p,b=some u∧kN s.heap u p):=by
   intro vs
   induction vs with
   | nil=>intro bs q;cases q;exact ⟨rfl,fun _ z=>by cases z⟩
   | cons v vs ih=>
     intro bs q
     cases q with
     | cons q1 q2=>
       obtain ⟨l,m⟩:=ih _ q2
       refine ⟨by simp [l],fun b hb=>?_⟩
       rcases Tp.mp hb with rfl | hb
       ·exact q1
       ·exact m b hb
  obtain ⟨hl,hm⟩:=all vs bs hb
  have c:(bs.toArray.all fun b=>b.isSome)=true:=by
   simp only [VI,Uz]
   intro b hb
   obtain ⟨u,p,rfl,_⟩:=hm b hb
   rfl
  rw [if_pos c]
  apply wpAny_bind;apply wpAny_rule
  rw [oneTypeOnly'_eq]
  have ef:bs.toArray.filterMap id=(bs.filterMap id).toArray:=by simp
  rw [ef,VB]
  simp only [bind_map_left,bind_assoc]
  apply wpAny_bind
  refine lU (fun _ b=>b=Value.type "tuple") _ _ (fun v hv' Q hQ=>?_) fun cs hc=>?_
  ·obtain ⟨b,hb1,hb2⟩:=Vv.mp hv'
   obtain ⟨u,p,rfl,a,o,t,u',m,rfl,k2,k3,k4⟩:=hm b hb1
   have hb2:some (Value.ref a)=some v:=hb2
   cases hb2
   exact wpAny_typeOf (T:= "tuple") ⟨o,k2,k3⟩ (hQ _ rfl)
  ·have len:1≤(bs.filterMap id).length:=by
    cases bs with
    | nil=>simp at hl;omega
    | cons b bs=>
      obtain ⟨u,p,rfl,_⟩:=hm b (TN ..)
      simp
   have all2:∀ (us cs:List Value),Paired (fun _ b=>b=Value.type "tuple") us cs→cs=us.map fun _=>Value.type "tuple" :=by
    intro us
    induction us with
    | nil=>intro cs q;cases q;rfl
    | cons u us ih=>intro cs q;cases q with | cons q1 q2=>rw [q1,ih _ q2];rfl
   rw [all2 _ _ hc]
   generalize bs.filterMap id=us at len
   cases us with
   | nil=>simp at len
   | cons u us=>
     have e0:(List.map (fun _=>Value.type "tuple") (u :: us)).toArray[0]?=some (Value.type "tuple"):=by simp
     rw [e0]
     have e1:((List.map (fun _=>Value.type "tuple") (u :: us)).toArray.all fun x=>x == Value.type "tuple")=true:=by
      simp only [VI,Wb,Uz]
      intro _ _;rfl
     simp only [e1,if_true,pure_bind]
     exact wpAny_pure h
end
noncomputable def uN (n:Nat) (h:Heap) (v:Value):List Pl:=Option.getD (α:=List Pl) ((Bt n h).keyOf v) []
theorem zK {n:Nat} {h:Heap} {v:Value} {p:List Pl} (a:rN n h v p):uN n h v=p:=by
 unfold uN
 have e:(Bt n h).keyOf v=some p:=zJ a
 exact congrArg (fun o=>Option.getD (α:=List Pl) o []) e
def jN (n:Nat) (h:Heap):List Value→List (List Pl)→Prop:=Paired (rN n h)
theorem jN.keys {n:Nat} {h:Heap}:∀ {us:List Value} {ps:List (List Pl)},jN n h us ps→us.map (uN n h)=ps
 | _,_,.nil=>rfl
 | _,_,.cons a r=>by rw [Ud,zK a,jN.keys r]
theorem jN.mem {n:Nat} {h:Heap}:∀ {us:List Value} {ps:List (List Pl)} {v:Value},jN n h us ps→v∈us→∃ p,rN n h v p
 | _,_,v,.nil,m=>by cases m
 | _,_,v,.cons a r,m=>by
   rcases Tp.mp m with rfl | m
   ·exact ⟨_,a⟩
   ·exact jN.mem r m
theorem wB {n:Nat} (hn:n=2∨n=3) {P:Program} {w:World} {A:Around} {E:Value→Shared→Prop} {s:Shared} {l:Addr} {vs:List Value} {ps:List (List Pl)} {Q:Value→Shared→Prop} (hu:A.units+64 < cLine) (hl:s.heap.IsList l vs.toArray) (hv:jN n s.heap vs ps) (h64:vs.length < 64)
 (h:∀ (out:List Value) (qs:List (List Pl)),(∀ v∈out,v∈vs)→qs=out.map (uN n s.heap)→qs.Perm ps→qs.Pairwise (fun p q=>bZ q p=false)→Q (.ref (s.heap.objs.size+1)) { s with heap:=sortedAll s.heap vs out.toArray }) :
 wpAny (model P w) A (call (.builtin "sorted") [.ref l]) Q E s:=by
 have hk:KeysOf (Bt n s.heap) (pairsOf vs):=fun p hp=>by
  rw [pairsOf_toList] at hp
  obtain ⟨q,a⟩:=hv.mem (cQ hp).2
  exact ⟨q,zJ a⟩
 refine sY (κ:=Bt n s.heap) (kd:=tuples' false) hl hk (fun t E Q g h2 q=>EU hn (by omega) (fun v m=>?_) q) (fun t g=>HY hn (by show A.units+1+1 < cLine;omega) g) h64 fun y hp hs=>?_
 ·obtain ⟨p,a⟩:=hv.mem m
  exact ⟨p,a.grow g⟩
 ·have pl:y.toList.Perm (vs.zip vs):=by rw [← pairsOf_toList];exact Array.perm_iff_toList_perm.mp hp
  have same:∀ p∈y.toList,p.1=p.2∧p.1∈vs:=fun p m=>cQ (pl.mem_iff.mp m)
  have eo:y.map (·.2)=(y.toList.map (·.2)).toArray:=by rw [← Array.toList_map,Array.toArray_toList]
  rw [eo]
  refine h (y.toList.map (·.2)) _ (fun v m=>?_) rfl ?_ ?_
  ·obtain ⟨p,m2,rfl⟩:=TV.mp m
   rw [← (same p m2).1];exact (same p m2).2
  ·have q:=(pl.map (fun p=>p.2)).map (uN n s.heap)
   have e:(vs.zip vs).map (fun p=>p.2)=vs:=WO (Tz _)
   rw [e,hv.keys] at q
   exact q
  ·rw [V0]
   intro i j hi hj hij
   have li:i < y.size:=by simpa using hi
   have lj:j < y.size:=by simpa using hj
   have q:=hs i j (Vx hij) (by rw [← hp.size_eq];exact lj)
   have key:∀ k (hk:k < y.size),KK (Bt n s.heap) y k=uN n s.heap y[k].2:=fun k hk=>by
    unfold KK
    rw [getElem?_pos y k hk]
    show Option.getD (α:=List Pl) ((Bt n s.heap).keyOf y[k].1) []=_
    rw [(same y[k] (by simp)).1]
    rfl
   have q:(Bt n s.heap).blt (KK (Bt n s.heap) y j) (KK (Bt n s.heap) y i)=false:=q
   rw [key i li,key j lj] at q
   have q:bZ (uN n s.heap y[j].2) (uN n s.heap y[i].2)=false:=q
   simpa using q
def tD (ps:List Pl):D:= .tup (ps.map Pl.d)
theorem Cw {n:Nat} {P:Program} {w:World} {K:PySem.W.Frag} {H:Hp} {h:Heap} {ps:List Pl} {x:V} {u:Value} (ok:iX P w H h) (hl:ps.length=n) (d:Dat K H (tD ps) x) (r:RelV x u):rN n h u ps:=by
 obtain ⟨a,xs,rfl,ha,hx⟩:=aU.mp d
 obtain rfl:u=Value.ref a:=r
 obtain ⟨its,rv,⟨o,h1,h2,m,h3⟩,_⟩:=dc ok ha
 exact ⟨hl,a,o,its,m,rfl,h1,h2,h3,lW ok hx rv⟩
theorem tK {n:Nat} {P:Program} {w:World} {K:PySem.W.Frag} {H:Hp} {h:Heap} (ok:iX P w H h):∀ {ps:List (List Pl)} {xs:List V} {us:List Value},(∀ p∈ps,p.length=n)→aB K H (ps.map tD) xs→Vals xs us→jN n h us ps
 | [],xs,us,_,d,r=>by rw [aE.mp d] at r;cases r;exact .nil
 | p :: ps,xs,us,hl,d,r=>by
   obtain ⟨v,vs,rfl,d1,d2⟩:=aA.mp d
   cases r with
   | cons r1 r2=>exact .cons (Cw ok (hl p (TN ..)) d1 r1) (tK ok (fun q hq=>hl q (Tn _ hq)) d2 r2)
theorem qg {n:Nat} {K:PySem.W.Frag} {H:Hp} {h:Heap} {P:Program} {w:World} (ok:iX P w H h) {ps:List (List Pl)} {zs:List V} {vs:List Value} (hl:∀ p∈ps,p.length=n) (d:aB K H (ps.map tD) zs) (r:Vals zs vs):∀ (out:List Value),(∀ v∈out,v∈vs)→
 ∃ ws,Vals ws out∧aB K H ((out.map (uN n h)).map tD) ws
 | [],_=>⟨[],.nil,aE.mpr rfl⟩
 | v :: out,m=>by
   obtain ⟨ws,h1,h2⟩:=qg ok hl d r out fun u hu=>m u (Tn _ hu)
   have one:∀ {ps:List (List Pl)} {zs:List V} {vs:List Value},(∀ p∈ps,p.length=n)→aB K H (ps.map tD) zs→Vals zs vs→v∈vs→∃ (p:List Pl) (x:V),p.length=n∧RelV x v∧Dat K H (tD p) x:=by
    intro ps
    induction ps with
    | nil=>intro zs vs _ d r m;rw [aE.mp d] at r;cases r;cases m
    | cons p ps ih=>
      intro zs vs hl d r m
      obtain ⟨x,xs,rfl,d1,d2⟩:=aA.mp d
      cases r with
      | cons r1 r2=>
        rcases Tp.mp m with rfl | m
        ·exact ⟨p,x,hl p (TN ..),r1,d1⟩
        ·exact ih (fun q hq=>hl q (Tn _ hq)) d2 r2 m
   obtain ⟨p,x,lp,rx,dx⟩:=one hl d r (m v (TN ..))
   refine ⟨x :: ws,.cons rx h1,?_⟩
   rw [Ud,Ud,zK (Cw ok lp dx rx)]
   exact aA.mpr ⟨x,ws,rfl,dx,h2⟩
section
variable {X:Cx}
def Cy (n:Nat):List D→Mp→DK→Prop:=fun ds M Q=> ∃ (l:Addr) (ps:List (List Pl)),ds= [.ref l]∧M l=some (.lst (ps.map tD))∧(∀ p∈ps,p.length=n)∧ps.length < 64∧∀ (p:Addr) (qs:List (List Pl)),M p=none→qs.Perm ps→qs.Pairwise (fun p q=>bZ q p=false)→Q (.ref p) (av M p (.lst (qs.map tD)))
theorem iN {n:Nat} (hn:n=2∨n=3) (hu:X.A.units+64 < cLine):Call3 X (.builtin "sorted") (Cy n):=by
 constructor
 intro pins s σ H M xs ds us Q I rm rs dx ⟨l,ps,e,hM,O8,h64,q⟩
 subst e
 obtain ⟨v,rfl,hv⟩:=pQ dx
 obtain rfl:=aH.mp hv
 obtain ⟨u,rfl,r1⟩:=vals1 rs
 obtain rfl:u=Value.ref l:=r1
 obtain ⟨zs,hH,hz⟩:=rm.lst hM
 obtain ⟨its,rv,pl,hsz⟩:=I.list (iE.of (K:=X.K) hH)
 have hl:its.length=ps.length:=by rw [Vals.len rv,← hz.length,To]
 refine wB hn hu pl.isList (tK I.hok O8 hz rv) (by omega) fun out qs hm eq hp hs=>?_
 obtain ⟨ws,w1,w2⟩:=qg I.hok O8 hz rv out hm
 rw [← eq] at w2
 obtain ⟨m,hm'⟩:=sortedAll_at s.heap its out.toArray
 have fr:H (s.heap.objs.size+1)=none:=I.hok.fresh (Vc _)
 have zw:ws.length≤sizeLine:=by
  rw [← w2.length,To,hp.length_eq,sizeLine_eq];omega
 refine ⟨.ref (s.heap.objs.size+1),upd H (s.heap.objs.size+1) (.lst ws),I.laid (t':=s.toks) (fun b o e=>sortedAll_old e) (Vc _) ⟨zw,out,m,w1,hm'⟩,rfl,.ref _,av M _ (.lst (qs.map tD)),Fr.new fr fun _ hb=>aZ hb,aH.mpr rfl,rm.newL fr w2,q _ _ (rm.free fr) hp hs⟩
end
end L3
namespace L3
open PySem
def dI (t:List Pl):Prop:= ∃ u v w,t= [u,v,w]∧aG u v∧aG u w∧0 < tw u v w
theorem dI.uniq {s t:List Pl} (hs:dI s) (ht:dI t) (h:s.Perm t):s=t:=by
 obtain ⟨u,v,w,rfl,b1,b2,p1⟩:=hs
 obtain ⟨a,b,c,rfl,c1,c2,p2⟩:=ht
 rcases tF h with ⟨rfl,rfl,rfl⟩ | ⟨rfl,rfl,rfl⟩ | ⟨rfl,rfl,rfl⟩ | ⟨rfl,rfl,rfl⟩ | ⟨rfl,rfl,rfl⟩ | ⟨rfl,rfl,rfl⟩
 ·rfl
 ·rw [jD] at p2;omega
 ·exact absurd c1 (ay b1)
 ·exact absurd c1 (ay b2)
 ·exact absurd c2 (ay b1)
 ·exact absurd c2 (ay b2)
theorem Gk {a b c:Pl} (h:tw a b c≠0):a≠b∧a≠c∧b≠c:=
 ⟨fun e=>by subst e;rw [gc] at h;exact h rfl,fun e=>by subst e;rw [gf] at h;exact h rfl,fun e=>by subst e;rw [pU] at h;exact h rfl⟩
def Cz (a b c:Pl):List Pl:=if aG a b∧aG a c then [a,b,c] else if aG b c then [b,c,a] else [c,a,b]
theorem zL {a b c:Pl} (h:0 < tw a b c):dI (Cz a b c)∧(Cz a b c).Perm [a,b,c]:=by
 obtain ⟨n1,n2,n3⟩:=Gk (show tw a b c≠0 by omega)
 unfold Cz
 by_cases k:aG a b∧aG a c
 ·rw [if_pos k]
  exact ⟨⟨a,b,c,rfl,k.1,k.2,h⟩,.refl _⟩
 ·rw [if_neg k]
  by_cases k2:aG b c
  ·rw [if_pos k2]
   refine ⟨⟨b,c,a,rfl,k2,?_,by rw [gS];exact h⟩,(Uc (l₁:=[b,c]) (l₂:=[a]))⟩
   rcases i0 n1 with z | z
   ·exact absurd ⟨z,bx z k2⟩ k
   ·exact z
  ·rw [if_neg k2]
   have cb:aG c b:=by rcases i0 n3 with z | z;exact absurd z k2;exact z
   have ca:aG c a:=by
    rcases i0 n2 with z | z
    ·exact absurd ⟨bx z cb,z⟩ k
    ·exact z
   exact ⟨⟨c,a,b,rfl,ca,cb,by rw [← gS c a b];exact h⟩,(Uc (l₁:=[c]) (l₂:=[a,b]))⟩
def rF (a b c:Pl):List Pl:=if 0 < tw a b c then Cz a b c else Cz a c b
theorem uO {a b c:Pl} (h:tw a b c≠0):dI (rF a b c)∧(rF a b c).Perm [a,b,c]:=by
 unfold rF
 by_cases k:0 < tw a b c
 ·rw [if_pos k];exact zL k
 ·rw [if_neg k]
  obtain ⟨h1,h2⟩:=zL (a:=a) (b:=c) (c:=b) (by rw [jD];omega)
  exact ⟨h1,h2.trans (.cons a (.swap b c []))⟩
theorem zM {u v w a b c:Pl} (h: [u,v,w].Perm [a,b,c]):tw u v w≠0↔tw a b c≠0:=by
 rcases tF h with ⟨rfl,rfl,rfl⟩ | ⟨rfl,rfl,rfl⟩ | ⟨rfl,rfl,rfl⟩ | ⟨rfl,rfl,rfl⟩ | ⟨rfl,rfl,rfl⟩ | ⟨rfl,rfl,rfl⟩
 ·exact Iff.rfl
 ·rw [jD u v w];omega
 ·rw [eW u v w];omega
 ·rw [gS w u v]
 ·rw [← gS u v w]
 ·rw [eW v w u,gS u v w];omega
theorem l5 {t:List Pl} {a b c:Pl} (ht:dI t) (h:t.Perm [a,b,c]):tw a b c≠0∧t=rF a b c:=by
 have hn:tw a b c≠0:=by
  obtain ⟨u,v,w,rfl,_,_,p⟩:=ht
  exact (zM h).mp (by omega)
 obtain ⟨h1,h2⟩:=uO hn
 exact ⟨hn,ht.uniq h1 (h.trans h2.symm)⟩
theorem yk {a b c u v w:Pl} (hn:tw a b c≠0) (hp: [u,v,w].Perm [a,b,c]) (hs: [u,v,w].Pairwise (fun p q=> ¬ aG q p)) :
 rF a b c=if 0 < tw u v w then [u,v,w] else [u,w,v]:=by
 have hn2:tw u v w≠0:=(zM hp).mpr hn
 obtain ⟨n1,n2,n3⟩:=Gk hn2
 have b1:aG u v:=by rcases i0 n1 with z | z;exact z;exact absurd z ((TZ.mp hs).1 v (by simp))
 have b2:aG u w:=by rcases i0 n2 with z | z;exact z;exact absurd z ((TZ.mp hs).1 w (by simp))
 by_cases k:0 < tw u v w
 ·rw [if_pos k]
  exact (l5 ⟨u,v,w,rfl,b1,b2,k⟩ hp).2.symm
 ·rw [if_neg k]
  exact (l5 ⟨u,w,v,rfl,b2,b1,by rw [jD];omega⟩ ((List.Perm.cons u (.swap v w [])).trans hp)).2.symm
def gp (ps:List Pl) (i:Nat):Pl:=ps.getD i ⟨0,0⟩
def one (ok:List Pl→Bool) (a b c:Pl):List (List Pl):=if tw a b c≠0∧ok (rF a b c)=true then [rF a b c] else []
def c2:Nat→Nat | 0=>0 | m+1=>c2 m+m
def c3:Nat→Nat | 0=>0 | k+1=>c3 k+c2 k
end L3
namespace L3
open PySem PySem.Spec PyProof.Rows L2
theorem HZ {u v w:Pl} (k:dM (.int (tw u v w).sign) (.int 1)=true):0 < tw u v w:=by
 rw [dQ] at k
 exact Vf.mp (eq_of_beq k)
theorem EV {u v w:Pl} (k:¬ dM (.int (tw u v w).sign) (.int 1)=true):¬ 0 < tw u v w:=fun z=>by
 apply k
 rw [dQ,Up z]
 rfl
theorem dU {ts:List (List Pl)} {i:Nat} {x:D} (h:(ts.map tD)[i]?=some x):∃ t,ts[i]?=some t∧x=tD t:=by
 rw [Uh] at h
 cases e:ts[i]? with
 | none=>rw [e] at h;cases h
 | some p=>rw [e] at h;exact ⟨p,rfl,(Option.some.inj h).symm⟩
theorem bu {ts:List (List Pl)} {f:List Pl→Bool} {i:Nat} {t:List Pl} (h:ts[i]?=some t):(ts.take (i+1)).filter f=(ts.take i).filter f ++ (if f t=true then [t] else []):=by
 rw [VV,h,List.filter_append]
 congr 1
 show List.filter f [t]=_
 rw [UW]
 rfl
def KR:List Int:=[5,4,3,0, -3, -4, -5, -4, -3,0,3,4,0]
def KS:List Int:=[0,3,4,5,4,3,0, -3, -4, -5, -4, -3,0]
def uP (a b c d:Pl):Nat→Int
 | 0=>0
 | 1=>0+((c.x - d.x)*(c.x - d.x)+(c.y - d.y)*(c.y - d.y))*tw d a b
 | 2=>0+((c.x - d.x)*(c.x - d.x)+(c.y - d.y)*(c.y - d.y))*tw d a b+((a.x - d.x)*(a.x - d.x)+(a.y - d.y)*(a.y - d.y))*tw d b c
 | _=>0+((c.x - d.x)*(c.x - d.x)+(c.y - d.y)*(c.y - d.y))*tw d a b+((a.x - d.x)*(a.x - d.x)+(a.y - d.y)*(a.y - d.y))*tw d b c+((b.x - d.x)*(b.x - d.x)+(b.y - d.y)*(b.y - d.y))*tw d c a
theorem CA (a b c d:Pl):dep a b c d=0+((c.x - d.x)*(c.x - d.x)+(c.y - d.y)*(c.y - d.y))*tw d a b+((a.x - d.x)*(a.x - d.x)+(a.y - d.y)*(a.y - d.y))*tw d b c+((b.x - d.x)*(b.x - d.x)+(b.y - d.y)*(b.y - d.y))*tw d c a:=by
 unfold dep uH
 omega
theorem uQ {p q:Int} (h:p*p+q*q=0):p=0∧q=0:=by
 have sq:∀ z:Int,0≤z*z:=fun z=>by
  rcases Ve 0 z with w | w
  ·exact TF w w
  ·exact TX w w
 have h1:=sq p
 have h2:=sq q
 have e1:p*p=0:=by omega
 have e2:q*q=0:=by omega
 exact ⟨(T6.mp e1).elim id id,(T6.mp e2).elim id id⟩
theorem AS {p q r s x y:Int} (h1:p*s=q*r) (h2:(p*p+q*q)*(r*y - s*x)=(r*r+s*s)*(p*y - q*x)) (hT:(r*y - s*x) - (p*y - q*x)≠0):(p=0∧q=0)∨(r=0∧s=0):=by
 by_cases k:p*y - q*x=0
 ·rw [k,Ux] at h2
  rcases T6.mp h2 with z | z
  ·exact .inl (uQ z)
  ·exact absurd (by rw [z,k];rfl) hT
 ·have e:(p*r+q*s - (r*r+s*s))*(p*y - q*x)=0:=by grind
  rcases T6.mp e with z | z
  ·have f:((p - r)*(p - r)+(q - s)*(q - s))*(r*r+s*s)=0:=by grind
   rcases T6.mp f with w | w
   ·obtain ⟨w1,w2⟩:=uQ w
    exfalso
    apply hT
    have:p=r:=by omega
    have:q=s:=by omega
    subst p q
    omega
   ·exact .inr (uQ w)
  ·exact absurd z k
theorem uR {a b c d:Pl} (hT:tw a b c≠0) (hd:dep a b c d=0) (hl:tw b c d=0):d=b∨d=c:=by
 have key:=AS (p:=b.x - d.x) (q:=b.y - d.y) (r:=c.x - d.x) (s:=c.y - d.y) (x:=a.x - d.x) (y:=a.y - d.y) (by unfold tw at hl;grind) (by unfold dep uH at hd;unfold tw at hd hl;grind) (by intro z;apply hT;unfold tw at hl ⊢;grind)
 rcases key with ⟨z1,z2⟩ | ⟨z1,z2⟩
 ·left;cases b;cases d;simp at z1 z2 ⊢;omega
 ·right;cases c;cases d;simp at z1 z2 ⊢;omega
theorem EW {a b c d:Pl} (h:0 < tw a b c) (hd:d=a∨d=b∨d=c):¬ fM a b c d:=by
 intro z
 rcases hd with rfl | rfl | rfl
 ·have z:=(dR d b c d).mpr z
  exact (lT (by rw [gS];exact h) z).2 rfl
 ·have z:=(dR d c a d).mpr ((dR a d c d).mpr z)
  exact (lT (by rw [gS,gS];exact h) z).2 rfl
 ·exact (lT h z).2 rfl
theorem AU {a b c d:Pl} (b1:aG a b) (b2:aG a c) (h:0 < tw a b c) (hd:¬ (d=a∨d=b∨d=c)) (h0:dep a b c d=0):decide (fM a b c d)=(decide (aG d a) || decide (tw b c d < 0)):=by
 have hn:tw a b c≠0:=by omega
 rw [tG hn (j9 h0) hd (.refl _) (ay b1) (ay b2)]
 have nz:tw b c d≠0:=fun z=>by
  rcases uR hn h0 z with e | e
  ·exact hd (.inr (.inl e))
  ·exact hd (.inr (.inr e))
 by_cases k:aG d a
 ·rw [if_pos k,decide_eq_true k];rfl
 ·rw [if_neg k,decide_eq_false k,Bool.false_or,decide_eq_decide,gS a b c,Up h]
  constructor
  ·intro z
   apply Tj
   intro w
   exact z (Up (by omega))
  ·intro z w
   have:=Vf.mp w
   omega
theorem fk:∀ {as bs:List (List Pl)},as.Perm bs→as.Pairwise (fun a b=>bZ b a=false)→bs.Pairwise (fun a b=>bZ b a=false)→as=bs
 | [],bs,h,_,_=>by rw [List.nil_perm.mp h]
 | a :: as,[],h,_,_=>by simp at h
 | a :: as,b :: bs,h,h1,h2=>by
   obtain ⟨p1,p2⟩:=TZ.mp h1
   obtain ⟨q1,q2⟩:=TZ.mp h2
   have e:a=b:=by
    have ma:a∈b :: bs:=h.mem_iff.mp (TN ..)
    have mb:b∈a :: as:=h.mem_iff.mpr (TN ..)
    rcases Tp.mp ma with e | ma
    ·exact e
    rcases Tp.mp mb with e | mb
    ·exact e.symm
    rcases jL a b with c | c | c
    ·rw [q1 a ma] at c;cases c
    ·exact c
    ·rw [p1 b mb] at c;cases c
   subst e
   rw [fk ((Vo a).mp h) p2 q2]
theorem bg (fs:List (List Pl)):(fs.map tD).all (plain 9)=true:=by
 rw [Uz]
 intro d hd
 obtain ⟨t,_,rfl⟩:=TV.mp hd
 show (t.map Pl.d).all (plain 8)=true
 rw [Uz]
 intro d hd
 obtain ⟨p,_,rfl⟩:=TV.mp hd
 rfl
end L3
namespace L3
open PySem PySem.Spec PyProof.Rows L2 Att
end L3
namespace PySem
open PySem.Calls PySem.W
theorem ym:typeLookup (.type "list_reverseiterator") "__len__" =pure none:=by rw [typeLookup_type,builtinLookup_eq_fast];kernel_rfl
theorem CB:typeLookup (.type "list_reverseiterator") "__length_hint__" =pure (some (.builtin "list_reverseiterator.__length_hint__")):=by rw [typeLookup_type,builtinLookup_eq_fast];kernel_rfl
theorem EX:isSubtype (.type "list_reverseiterator") (.type "list_reverseiterator")=pure true:=by rw [isSubtype_type];kernel_rfl
section
variable {prog:Program} {w:World} {A:Around} {s:Shared} {R:Result→Shared→Prop} {E:Value→Shared→Prop}
variable {I:Addr} {fp wr:List Addr} {G:Array GenState→Array GenState→Prop} {n:Nat} {P:Nat→Value→Prop} {St:Nat→Shared→Prop}
theorem CC {Q:Bool→Shared→Prop} (hT:s.TypeIs (.ref I) "list_reverseiterator") (h:Q false s):wpAny (model prog w) A (Builtin.List.listLengthHint (.ref I)) Q E s:=by
 unfold Builtin.List.listLengthHint
 refine wpAny_bind (wpAny_specialOf hT ym ?_)
 show wpAny _ A (specialOf (Value.ref I) (Str.ofString "__length_hint__") >>= _) _ _ _
 refine wpAny_bind (wpAny_specialOf hT CB ?_)
 have hs:splitId "list_reverseiterator.__length_hint__" =some ("list_reverseiterator","__length_hint__"):=by decide +kernel
 simp only [hs]
 refine wpAny_bind (wpAny_isInstance (T:= "list_reverseiterator") (b:=true) hT EX ?_)
 simp only [UA,TH,if_false]
 exact wpAny_pure h
theorem nh (W:WalksS prog w A.in1 I fp wr G n P St) (hT:∀ i s,St i s→s.TypeIs (.ref I) "list_reverseiterator") (S:Addr) (res:Value) (c₀:Nat) (hst:St 0 s) (hSf:S∉fp) (hI:I∈fp)
 (hS:s.heap.get? S=some { cls:= .type "list",data:= .seq #[] c₀ })
 (hR:∀ s' acc' c',Moved (S :: wr) G s s'→s'.heap.get? S=some { cls:= .type "list",dict:=none,data:= .seq acc' c',slots:= #[] }→ItemsOf P acc' n→R (.ok (.ret res)) s') (hn:n≤sizeLine) :
 wpAny (model prog w) A.in1 (Builtin.List.listExtendWith (.ref S) (.ref I) res)
  (fun fin s'=>match fin with | .done f=>R (.ok f) s' | .again c'=>c'.quiet=true∧codeAny (model prog w) A c' R s') (fun e s'=>R (.error e) s') s:=by
 have hSI:S≠I:=fun e=>hSf (e▸hI)
 unfold Builtin.List.listExtendWith
 refine wpAny_bind (wpAny_typeOf (hT 0 _ hst) ?_)
 have h1:Builtin.List.listSameRef (.ref S) (.ref I)=false:=by simp [Builtin.List.listSameRef,hSI]
 have h2:(Value.type "list_reverseiterator" == Value.type "list")=false:=by decide
 have h3:(Value.type "list_reverseiterator" == Value.type "tuple")=false:=by decide
 simp only [h1,h2,h3,WB,TH,if_false]
 refine wpAny_bind (W.self 0 _ _ _ hst ?_)
 refine wpAny_bind (wpAny_holding (CC (hT 0 _ hst) ?_))
 show wpAny _ A.in1 (again (.builtin "list.extend.loop" ⟨[.ref S,.ref I,res],[]⟩)) _ _ _
 exact wpAny_pure ⟨plainId_quiet F.plain_extend_loop _,codeAny_extend_loopS W hn _ hSf _ n 0 _ _ _ rfl (UD _) hst hS (ItemsOf.nil P) fun s' acc' c' hm hS' hacc=>hR s' acc' c' hm hS' hacc⟩
theorem kF (W:WalksS prog w A.in1 I fp wr G n P St) (hT:∀ i s,St i s→s.TypeIs (.ref I) "list_reverseiterator") (S:Addr) (hst:St 0 s) (hSf:S∉fp) (hI:I∈fp)
 (hS:s.heap.get? S=some { cls:= .type "list",data:= .seq #[] })
 (hR:∀ s' acc' c',Moved (S :: wr) G s s'→s'.heap.get? S=some { cls:= .type "list",dict:=none,data:= .seq acc' c',slots:= #[] }→ItemsOf P acc' n→R (.ok (.ret .none)) s') (hn:n≤sizeLine) :
 wpAny (model prog w) A.in1 (Builtin.«list.__init__» ⟨[.ref S,.ref I],[]⟩)
  (fun fin s'=>match fin with | .done f=>R (.ok f) s' | .again c'=>c'.quiet=true∧codeAny (model prog w) A c' R s') (fun e s'=>R (.error e) s') s:=by
 show wpAny _ A.in1 (do let old ← Builtin.List.listItems (.ref S);Builtin.List.listUpdate (.ref S) (fun _=> #[]);letGo old.toList.reverse;Builtin.List.listExtendWith (.ref S) (.ref I) .none) _ _ s
 refine wpAny_bind ?_
 unfold Builtin.List.listItems
 refine wpAny_bind (wpAny_seqItems hS rfl (wpAny_pure ?_))
 show wpAny _ A.in1 (updateSeq S (fun _=> #[]) >>= fun _=>letGo (#[]:Array Value).toList.reverse >>= fun _=>Builtin.List.listExtendWith (.ref S) (.ref I) .none) _ _ s
 refine wpAny_bind (wpAny_updateSeq hS rfl ?_)
 have Jc:=Heap.get?_update_self (Obj.mapSeq (fun _=>(#[]:Array Value))) hS rfl
 have EY:∀ b o,b≠S→s.heap.get? b=some o→(s.heap.update S (Obj.mapSeq (fun _=>(#[]:Array Value)))).get? b=some o:=
  fun b o hb e=>(Heap.get?_update_other _ _ (Ne.symm hb)).trans e
 refine wpAny_bind (wpAny_letGo ?_)
 refine nh W hT S .none _ (W.frame 0 s _ s.toks hst (Tz _) fun b hb o e=>EY b o (fun h=>hSf (h▸hb)) e) hSf hI Jc (fun s' acc' c' hm hS' hacc=>?_) hn
 exact hR s' acc' c' (Moved.trans W.gtrans ((Moved.refl W.grefl).then_heap (Tz _) fun b o hb e=>EY b o (fun h=>hb (h▸TN)) e) hm) hS' hacc
theorem rO {Q:Value→Shared→Prop} (W:WalksS prog w A.in1.in1 I fp wr G n P St) (hT:∀ i s,St i s→s.TypeIs (.ref I) "list_reverseiterator") (hst:St 0 s) (hfp:∀ b∈fp,b < s.heap.objs.size) (hI:I∈fp)
 (hQ:∀ s' acc' c',Moved (s.heap.objs.size :: wr) G { s with heap:=s.heap.push { cls:= .type "list",data:= .seq #[] } } s'→
  s'.heap.get? s.heap.objs.size=some { cls:= .type "list",dict:=none,data:= .seq acc' c',slots:= #[] }→ItemsOf P acc' n→Q (.ref s.heap.objs.size) s') (hn:n≤sizeLine) :
 wpAny (model prog w) A (call (.type "list") [.ref I]) Q E s:=by
 have hSf:s.heap.objs.size∉fp:=fun hm=>UQ _ (hfp _ hm)
 refine callType_codes (Q₁:=fun obj s₁=>obj= .ref s.heap.objs.size∧s₁= { s with heap:=s.heap.push { cls:= .type "list",data:= .seq #[] } }) F.called_list (F.typeCall_list_1 _) F.entry_list_init
  (code_list_new _ ⟨rfl,rfl⟩) fun obj s₁ h₁=>?_
 obtain ⟨rfl,rfl⟩:=h₁
 have hS:(s.heap.push { cls:= .type "list",data:= .seq #[] }).get? s.heap.objs.size=some { cls:= .type "list",data:= .seq #[] }:=Heap.get?_push_size _ rfl
 refine ⟨⟨_,hS,rfl⟩,F.args_list_init_2 _ _,kF W hT _ (W.frame 0 s _ s.toks hst (Tz _) fun b _ o e=>Heap.get?_push_of_some _ e) hSf hI hS (fun s' acc' c' hm hS' hacc=>?_) hn⟩
 exact ⟨rfl,hQ s' acc' c' hm hS' hacc⟩
end
end PySem
namespace L3
open PySem PySem.Spec PyProof.Rows L2
section
variable {X:Cx} {pos:Pos}
def NL (to:cK):cK:=fun ρ M Q=>to ρ M fun d M1=> ∃ l xs y,d= .ref l∧M1 l=some (.lst (xs ++ [y]))∧Q y (av M1 l (.lst xs))
theorem aB.snoc {K:PySem.W.Frag} {H:Hp}:∀ {ds:List D} {y:D} {xs:List V},aB K H (ds ++ [y]) xs→∃ zs v,xs=zs ++ [v]∧aB K H ds zs∧Dat K H y v
 | [],y,xs,h=>by
   obtain ⟨v,rfl,hv⟩:=pQ h
   exact ⟨[],v,rfl,aE.mpr rfl,hv⟩
 | d :: ds,y,xs,h=>by
   obtain ⟨v,vs,rfl,h1,h2⟩:=aA.mp h
   obtain ⟨zs,u,rfl,h3,h4⟩:=aB.snoc h2
   exact ⟨v :: zs,u,rfl,aA.mpr ⟨v,zs,rfl,h1,h3⟩,h4⟩
theorem KU {o:Expr} {to:cK} {apos:Pos} (ho:cG X o to) (Kp:PE X (.Call (.Attribute o "pop" apos) [] [] pos) (JK X.K "list" JM (dn X.K to))):cG X (.Call (.Attribute o "pop" apos) [] [] pos) (NL to):=
 up Kp fun σ H ρ M Q r q=>dF r q fun v H' d M' f dv r' ⟨l,xs,y,e1,hM,q2⟩=>by
  subst e1
  obtain rfl:=aH.mp dv
  obtain ⟨ys,ha,hy⟩:=r'.mem.lst hM
  obtain ⟨zs,u,rfl,h1,h2⟩:=aB.snoc hy
  refine ⟨.inl ⟨rfl,_,iE.of ha⟩,l,zs ++ [u],u,rfl,rfl,ha,by simp,?_⟩
  rw [List.dropLast_concat]
  exact ⟨y,av M' l (.lst xs),f.trans (Fr.write (K:=X.K) hM),Dat.mono (Ext.jy ha) _ _ h2,r'.mem.jy ha h1,q2⟩
theorem wC {K:PySem.W.Frag} {H:Hp}:∀ {ds:List D} {xs:List V},aB K H ds xs→aB K H ds.reverse xs.reverse
 | [],xs,h=>by rw [aE.mp h];exact aE.mpr rfl
 | d :: ds,xs,h=>by
   obtain ⟨v,vs,rfl,h1,h2⟩:=aA.mp h
   rw [UE,UE]
   exact (wC h2).append (aB.one h1)
theorem wD:∀ {xs:List V} {us:List Value},Vals xs us→Vals xs.reverse us.reverse
 | _,_,.nil=> .nil
 | _,_,.cons r rr=>by
   rw [UE,UE]
   exact (wD rr).append (.cons r .nil)
theorem qh:bootBuiltins "reversed" =some (.type "reversed"):=by decide +kernel
def KW (te:cK):cK:=fun ρ M Q=>te ρ M fun d M1=> ∃ xs,Cq M1 d xs∧∀ p,M1 p=none→Q (.ref p) (av M1 p (.lst xs.reverse))
theorem tL {e:Expr} {te:cK} {p1 p2 pos2:Pos} (hc:X.calm=true) (Kn:Gl X "list") (hml:X.mg "list" =none) (hgr:Gl X "reversed") (hmr:X.mg "reversed" =none) (he:cG X e te)
 (s1:starEach [e] X.env= [(false,eval e X.env)]:=by rfl)
 (s2:starEach [.Call (.Name "reversed" p2) [e] [] pos2] X.env= [(false,eval (.Call (.Name "reversed" p2) [e] [] pos2) X.env)]:=by rfl) :
 cG X (.Call (.Name "list" p1) [.Call (.Name "reversed" p2) [e] [] pos2] [] pos) (KW te):=by
 constructor
 intro pins s σ H ρ M Q I r h
 refine wpAny_Call_Name_kw (jv I Kn hml gb ?_ (by decide) (by decide))
 refine PyProof.Rows.callWith_type1 (Q:=EP X pins σ (Post X.K M H Q)) ?_ (by rw [s2];rfl) (by rfl)
 rw [s2]
 show wpAny _ _ (spliced ((false,eval (.Call (.Name "reversed" p2) [e] [] pos2) X.env) :: backTo pos [])) _ _ s
 refine Calls.spliced_cons ?_
 refine wpAny_Call_Name_kw (jv I hgr hmr qh ?_ (by decide) (by decide))
 refine PyProof.Rows.callWith_type1 ?_ (by rw [s1];rfl) (by rfl)
 rw [s1]
 show wpAny _ _ (spliced ((false,eval e X.env) :: backTo pos2 [])) _ _ s
 refine Calls.spliced_cons (cF (he.run pins s σ H ρ M _ I r h) fun v s1 ⟨x,H1,I1,rv,d,M1,f1,dd,mT,xs,hL,q⟩=>Calls.spliced_nil ?_)
 obtain ⟨a,zs,rfl,hz,hd⟩:=hL.sq mT dd
 obtain rfl:v=Value.ref a:=rv
 obtain ⟨its,LO,pl,hsz⟩:=I1.list hz
 have la:a < s1.heap.objs.size:=by obtain ⟨o,e,_⟩:=pl.isList;exact Heap.lt_size e
 refine PySem.call_reversed_list pl.isList ?_
 refine Calls.spliced_nil ?_
 have Cf:(s1.heap.push (PySem.revObj a ((its.toArray.size:Int) - 1))).objs.size=s1.heap.objs.size+1:=Heap.size_push ..
 have Sl:zs.length=its.length:=LO.length
 refine rO (PySem.Walks.listRev (A:=X.A.in1.in1) (show X.A.in1.in1.handled=none from I.ok.hd hc) s1.heap.objs.size a (Ue la) its.toArray).toS (fun i s st=>st.2.1.typeIs) ?_ ?_ (by simp) (fun s' acc' c' mv hS' hacc=>?_) (by rw [Tv];omega)
 ·refine ⟨UD _,⟨_,Heap.get?_push_size _ rfl,rfl,?_⟩,?_⟩
  ·simp [PySem.revObj]
  ·obtain ⟨o,e,c,dd⟩:=pl.isList
   exact ⟨o,Heap.get?_push_of_some _ e,c,dd⟩
 ·intro b hb
  show b < (s1.heap.push (PySem.revObj a ((its.toArray.size:Int) - 1))).objs.size
  rw [Cf]
  simp only [Tp,Ur,or_false] at hb
  rcases hb with rfl | rfl
  ·exact VJ _
  ·exact UN la
 ·have hS':s'.heap.get? (s1.heap.objs.size+1)=some { cls:= .type "list",dict:=none,data:= .seq acc' c',slots:= #[] }:=by rw [← Cf];exact hS'
  have NN:acc'=its.reverse.toArray:=by
   apply Array.ext'
   rw [Vd]
   apply WM
   intro j
   have Sn:acc'.size=its.length:=by
    have:=hacc.1
    rw [Tv] at this
    exact this
   by_cases hj:j < its.length
   ·have g1:acc'[j]?=some (acc'[j]'(by omega)):=Array.getElem?_eq_getElem (by omega)
    have g2:=hacc.2 j _ g1
    have g2:its[its.length - 1 - j]?=some (acc'[j]'(by omega)):=by simpa using g2
    rw [List.getElem?_reverse hj,g2]
    rw [Array.getElem?_toList,g1]
   ·rw [UT (by simp;omega),UT (by simp;omega)]
  subst NN
  have kp:∀ b o,s1.heap.get? b=some o→s'.heap.get? b=some o:=fun b o e=>by
   have lb:=Heap.lt_size e
   refine mv.heap b o ?_ (Heap.get?_push_of_some _ (Heap.get?_push_of_some _ e))
   intro hb
   simp only [Tp,Ur,or_false] at hb
   rcases hb with z | z
   ·have z:b=(s1.heap.push (PySem.revObj a ((its.toArray.size:Int) - 1))).objs.size:=z
    rw [Cf] at z
    rw [z] at lb
    exact absurd lb (VQ.mpr (Vc _))
   ·rw [z] at lb
    exact UQ _ lb
  have fr:H1 (s1.heap.objs.size+1)=none:=I1.hok.fresh (Vc _)
  have es:s'= { s1 with heap:=s'.heap,toks:=s'.toks }:=by
   have g:=mv.gens
   have d:=mv.drawn
   have o:=mv.os
   cases s'
   cases s1
   simp only at g d o ⊢
   subst g d o
   rfl
  have I2:Inv X pins σ (upd H1 (s1.heap.objs.size+1) (.lst zs.reverse)) { s1 with heap:=s'.heap,toks:=s'.toks }:=
   I1.laid (t':=s'.toks) kp (Vc _) ⟨by rw [Ua];exact hsz,its.reverse,c',wD LO,hS'⟩
  rw [es]
  have ev:(Value.ref (s1.heap.push (PySem.revObj a ((its.toArray.size:Int) - 1))).objs.size)= .ref (s1.heap.objs.size+1):=by rw [Cf]
  refine ⟨.ref (s1.heap.objs.size+1),_,I2,ev,.ref _,av M1 _ (.lst xs.reverse),f1.trans (Fr.new fr fun _ hb=>aZ hb),aH.mpr rfl,mT.newL fr (wC hd),q _ (mT.free fr)⟩
end
end L3
namespace L3
open PySem PySem.Spec PyProof.Rows L2
section
variable {X:Cx} {pos:Pos}
end
structure O9 (K:PySem.W.Frag) (J:It) (inv:Hp→Prop) (ds:List L3.D):Prop where
 go:∀ i H,i < ds.length→inv H→J.go i H
 DT:∀ i H x H',i < ds.length→inv H→J.DT i H x H'→(∀ b o,H b=some o→H' b=some o)∧∃ d,ds[i]?=some d∧Dat K H' d x
 stop:∀ H,inv H→J.stop ds.length H
end L3
namespace L2
open PySem PySem.Spec PyProof.Rows
section
variable {X:Cx} {pins:List (Addr ×Obj)} {σ:St} {H:Hp} {s:Shared} {h':Heap}
theorem Inv.EZ {t':Nat} {fp:List Addr} (I:Inv X pins σ H s) (k:∀ b o,b∉fp→s.heap.get? b=some o→h'.get? b=some o) (hf:∀ b∈fp,jl X pins H b):Inv X pins σ H { s with heap:=h',toks:=t' }:=by
 have Jl:∀ b u,H b=some u→b∉fp:=fun b u e z=>by rw [(hf b z).1] at e;cases e
 refine I.step (g':=s.gens) (d':=s.drawn) (ch:=fp) (fun b hb=>?_) (fun b o _ _ hc e _=>k b o hc e) (fun b o _ _ hc e _=>⟨o.slots,k b o hc e⟩) (fun _ _ _ _ n=>n)
  (fun b o hc e=>⟨o,k b o hc e⟩) (fun _ _ e=>e) (fun _ _ _ e=>e) (fun b ps e=>⟨#[],by rw [e];simp⟩) (fun m hm=>?_) (fun b u e=>?_) I.bare
 ·obtain ⟨f0,f1,f2,f3,f4,f5⟩:=hf b hb
  exact ⟨f3,f1,f4,f5⟩
 ·obtain ⟨o,es,ep,ho,r⟩:=hm
  exact ⟨o,es,ep,k _ o (fun z=>(hf _ z).2.1 rfl) ho,r⟩
 ·refine (I.hok b u e).stay (fun c v hc q=>k c v ?_ q) (fun _ q=>q) fun _ _ q=>q
  rcases hc with z | z
  ·rw [z];exact Jl b u e
  ·exact Jl c _ z
end
section
variable {X:Cx}
theorem AV:bootBuiltins "zip" =some (.type "zip"):=by decide +kernel
end
end L2
namespace L3
open PySem PySem.Spec PyProof.Rows L2
def pairD (x y:D):D:= .tup [x,y]
section
variable {X:Cx} {pos:Pos} {body:List Stmt} {g:rE} {tb:iH}
end
end L3
namespace PySem
open PySem.Calls PySem.W
abbrev gT (h:Heap) (z TI TO T:Addr) (f:Bool):Prop:=
 h.get? z=some { cls:= .type "zip",dict:=none,data:= .fields #[rawInt T,.bool f,.bool false,.ref TI,.ref TO],slots:= #[] }
section
variable {prog:Program} {w:World} {A:Around} {E:Value→Shared→Prop} {s:Shared}
theorem wF {M:Model} {a:Addr} {Q:Option Obj→Shared→Prop} (h:Q (s.heap.get? a) s):wpAny M A (loadIfAlive a) Q E s:=
 fun _ _ _=>h
theorem l6 {z TI TO T:Addr} {f:Bool} {oT:Obj} {Q:Bool→Shared→Prop} (hz:gT s.heap z TI TO T f) (hT:s.heap.get? T=some oT)
 (hQ:∀ h',gT h' z TI TO T true→h'.objs.size=s.heap.objs.size→(∀ c o,c≠z→s.heap.get? c=some o→h'.get? c=some o)→Q false { s with heap:=h' }) :
 wpAny (model prog w) A (Builtin.SmallTypes.ownedTupleIsFree (.ref z)) Q E s:=by
 unfold Builtin.SmallTypes.ownedTupleIsFree
 refine wpAny_bind (wpAny_field hz rfl (x:=rawInt T) rfl ?_)
 show wpAny _ _ (loadIfAlive T >>= _) _ _ _
 refine wpAny_bind (wF ?_)
 rw [hT]
 show wpAny _ _ (field (.ref z) 1 >>= _) _ _ _
 refine wpAny_bind (wpAny_field hz rfl (x:= .bool f) rfl ?_)
 cases f with
 | true=>exact wpAny_pure (hQ s.heap hz rfl fun _ _ _ e=>e)
 | false=>
   show wpAny _ _ (setField (.ref z) 1 (.bool true) >>= _) _ _ _
   refine wpAny_bind (wpAny_setField_rec hz (by simp) fun h₁ LP hs₁=>wpAny_pure (hQ h₁ LP hs₁.1 fun c o c1 e=>hs₁.extBut _ _ c1 e))
theorem rP {z TI TO T i1 i2 l1 l2:Addr} {f:Bool} {k1 k2:Nat} {xs ys:Array Value} {x y:Value} {oT:Obj} {Q:Value→Shared→Prop} (D:ZipApart z TI TO i1 i2 l1 l2)
 (hz:gT s.heap z TI TO T f) (hT:s.heap.get? T=some oT) (hTI:IsPair s.heap TI (.ref i1) (.ref i2))
 (h1:s.heap.IsListIter i1 l1 k1) (h2:s.heap.IsListIter i2 l2 k2) (hl1:s.heap.IsList l1 xs) (hl2:s.heap.IsList l2 ys) (hx:xs[k1]?=some x) (hy:ys[k2]?=some y)
 (hQ:∀ h',gT h' z TI TO T true→h'.IsListIter i1 l1 (k1+1)→h'.IsListIter i2 l2 (k2+1)→IsPair h' s.heap.objs.size x y→h'.objs.size=s.heap.objs.size+1→
  (∀ c o,c≠z→c≠i1→c≠i2→s.heap.get? c=some o→h'.get? c=some o)→Q (.ref s.heap.objs.size) { s with heap:=h' }) :
 wpAny (model prog w) A (Builtin.«zip.__next__» ⟨[.ref z],[]⟩) (fun fin s'=> ∃ v,fin= .done (.ret v)∧Q v s') E s:=by
 show wpAny _ _ (field (.ref z) 2 >>= _) _ _ _
 refine wpAny_bind (wpAny_field hz rfl (x:= .bool false) rfl ?_)
 show wpAny _ _ (field (.ref z) 3 >>= _) _ _ _
 refine wpAny_bind (wpAny_field hz rfl (x:= .ref TI) rfl ?_)
 refine wpAny_bind (wpAny_seqItems hTI rfl ?_)
 show wpAny _ _ (Builtin.SmallTypes.ownedTupleIsFree (.ref z) >>= _) _ _ _
 refine wpAny_bind (l6 hz hT fun h₁ LP hn₁ hk₁=>?_)
 simp only [TH,if_false]
 have e1:h₁.IsListIter i1 l1 k1:=h1.at fun o e=>hk₁ i1 o D.i1z e
 have e2:h₁.IsListIter i2 l2 k2:=h2.at fun o e=>hk₁ i2 o D.i2z e
 have m1:h₁.IsList l1 xs:=by obtain ⟨o,e,r⟩:=hl1;exact ⟨o,hk₁ _ _ D.l1z e,r⟩
 have m2:h₁.IsList l2 ys:=by obtain ⟨o,e,r⟩:=hl2;exact ⟨o,hk₁ _ _ D.l2z e,r⟩
 refine wpAny_bind ?_
 rw [← Array.forIn_toList]
 simp only [Vk,Vz]
 refine wpAny_bind (wpAny_bind (wpAny_holding ?_))
 show wpAny _ _ (Builtin.SmallTypes.nextOf (.ref i1) >>= _) _ _ _
 refine wpAny_bind (wpAny_nextOf_list_item e1 m1 hx fun h₂ g1 hs₂=>wpAny_pure (wpAny_pure ?_))
 refine wpAny_bind (wpAny_bind (wpAny_holding ?_))
 show wpAny _ _ (Builtin.SmallTypes.nextOf (.ref i2) >>= _) _ _ _
 refine wpAny_bind (wpAny_nextOf_list_item (e2.extBut hs₂.extBut D.i12.symm) (m2.extBut hs₂.extBut D.l2i1) hy fun h₃ g2 Jd=>wpAny_pure (wpAny_pure (wpAny_pure ?_)))
 show wpAny _ _ (newTuple [x,y] >>= _) _ _ _
 refine wpAny_bind (wpAny_newTuple ?_)
 have hsz:h₃.objs.size=s.heap.objs.size:=by rw [Jd.1,hs₂.1,hn₁]
 have kp:∀ c o,c≠z→c≠i1→c≠i2→s.heap.get? c=some o→h₃.get? c=some o:=fun c o c1 c2 c3 e=>Jd.extBut _ _ c3 (hs₂.extBut _ _ c2 (hk₁ c o c1 e))
 have z3:gT h₃ z TI TO T true:=Jd.extBut _ _ D.i2z.symm (hs₂.extBut _ _ D.i1z.symm LP)
 have g3:h₃.IsListIter i1 l1 (k1+1):=g1.extBut Jd.extBut D.i12
 have up:∀ c o,h₃.get? c=some o→(h₃.push { cls:= .type "tuple",data:= .seq #[x,y] }).get? c=some o:=fun c o e=>Heap.get?_push_of_some _ e
 refine wpAny_pure ⟨_,rfl,?_⟩
 show Q (.ref h₃.objs.size) _
 have hp:IsPair (h₃.push { cls:= .type "tuple",data:= .seq #[x,y] }) h₃.objs.size x y:=Heap.get?_push_size _ rfl
 have q:=hQ (h₃.push { cls:= .type "tuple",data:= .seq #[x,y] }) (up _ _ z3) (g3.at fun o e=>up _ o e) (g2.at fun o e=>up _ o e) (by rw [← hsz];exact hp) (by rw [Heap.size_push,hsz]) fun c o c1 c2 c3 e=>up c o (kp c o c1 c2 c3 e)
 rw [hsz]
 exact q
theorem uS {z TI TO T i1 i2 l1 l2:Addr} {f:Bool} {k1 k2:Nat} {xs ys:Array Value} {oT:Obj} {Q:Fin→Shared→Prop} (hh:A.handled=none) (D:ZipApart z TI TO i1 i2 l1 l2)
 (hz:gT s.heap z TI TO T f) (hT:s.heap.get? T=some oT) (hTI:IsPair s.heap TI (.ref i1) (.ref i2))
 (h1:s.heap.IsListIter i1 l1 k1) (h2:s.heap.IsListIter i2 l2 k2) (hl1:s.heap.IsList l1 xs) (hl2:s.heap.IsList l2 ys) (hend:xs[k1]?=none∨ys[k2]?=none)
 (hE:∀ h' e,(∀ c o,c≠z→c≠i1→c≠i2→s.heap.get? c=some o→h'.get? c=some o)→(∃ o,h'.get? e=some o∧o.cls= .type "StopIteration")→E (.ref e) { s with heap:=h' }) :
 wpAny (model prog w) A (Builtin.«zip.__next__» ⟨[.ref z],[]⟩) Q E s:=by
 show wpAny _ _ (field (.ref z) 2 >>= _) _ _ _
 refine wpAny_bind (wpAny_field hz rfl (x:= .bool false) rfl ?_)
 show wpAny _ _ (field (.ref z) 3 >>= _) _ _ _
 refine wpAny_bind (wpAny_field hz rfl (x:= .ref TI) rfl ?_)
 refine wpAny_bind (wpAny_seqItems hTI rfl ?_)
 show wpAny _ _ (Builtin.SmallTypes.ownedTupleIsFree (.ref z) >>= _) _ _ _
 refine wpAny_bind (l6 hz hT fun h₁ LP hn₁ hk₁=>?_)
 simp only [TH,if_false]
 have e1:h₁.IsListIter i1 l1 k1:=h1.at fun o e=>hk₁ i1 o D.i1z e
 have e2:h₁.IsListIter i2 l2 k2:=h2.at fun o e=>hk₁ i2 o D.i2z e
 have m1:h₁.IsList l1 xs:=by obtain ⟨o,e,r⟩:=hl1;exact ⟨o,hk₁ _ _ D.l1z e,r⟩
 have m2:h₁.IsList l2 ys:=by obtain ⟨o,e,r⟩:=hl2;exact ⟨o,hk₁ _ _ D.l2z e,r⟩
 refine wpAny_bind ?_
 rw [← Array.forIn_toList]
 simp only [Vk,Vz]
 refine wpAny_bind (wpAny_bind (wpAny_holding ?_))
 show wpAny _ _ (Builtin.SmallTypes.nextOf (.ref i1) >>= _) _ _ _
 cases hx:xs[k1]? with
 | none=>exact wpAny_bind (wpAny_nextOf_list_end hh e1 m1 hx fun h₂ e hs₂ he=>hE h₂ e (fun c o c1 c2 c3 x=>hs₂ _ _ c2 (hk₁ c o c1 x)) he)
 | some x=>
   have hy:ys[k2]?=none:=by
    rcases hend with h | h
    ·rw [hx] at h;cases h
    ·exact h
   refine wpAny_bind (wpAny_nextOf_list_item e1 m1 hx fun h₂ g1 hs₂=>wpAny_pure (wpAny_pure ?_))
   refine wpAny_bind (wpAny_bind (wpAny_holding ?_))
   show wpAny _ _ (Builtin.SmallTypes.nextOf (.ref i2) >>= _) _ _ _
   exact wpAny_bind (wpAny_nextOf_list_end hh (e2.extBut hs₂.extBut D.i12.symm) (m2.extBut hs₂.extBut D.l2i1) hy fun h₃ e Jd he=>hE h₃ e (fun c o c1 c2 c3 x=>Jd _ _ c3 (hs₂.extBut _ _ c2 (hk₁ c o c1 x))) he)
theorem AW {z TI TO T i1 i2 l1 l2:Addr} {f:Bool} {k1 k2:Nat} {xs ys:Array Value} {x y:Value} {oT:Obj} {Q:Option Value→Shared→Prop} (D:ZipApart z TI TO i1 i2 l1 l2)
 (hz:gT s.heap z TI TO T f) (hT:s.heap.get? T=some oT) (hTI:IsPair s.heap TI (.ref i1) (.ref i2))
 (h1:s.heap.IsListIter i1 l1 k1) (h2:s.heap.IsListIter i2 l2 k2) (hl1:s.heap.IsList l1 xs) (hl2:s.heap.IsList l2 ys) (hx:xs[k1]?=some x) (hy:ys[k2]?=some y)
 (hQ:∀ h',gT h' z TI TO T true→h'.IsListIter i1 l1 (k1+1)→h'.IsListIter i2 l2 (k2+1)→IsPair h' s.heap.objs.size x y→h'.objs.size=s.heap.objs.size+1→
  (∀ c o,c≠z→c≠i1→c≠i2→s.heap.get? c=some o→h'.get? c=some o)→Q (some (.ref s.heap.objs.size)) { s with heap:=h' }) :
 wpAny (model prog w) A (pyNext (.ref z)) Q E s:=by
 have hTy:s.TypeIs (.ref z) "zip" :=⟨_,hz,rfl⟩
 unfold pyNext
 exact wpAny_bind (wpAny_attempt (wpAny_callSpecial?_slot (name:=Str.ofString "__next__") hTy F.slot_zip_next
  (wpAny_call_entry F.slot_zip_next hTy F.entry_zip_next
   (rP D hz hT hTI h1 h2 hl1 hl2 hx hy fun h' a1 a2 a3 a4 a5 a6=>wpAny_pure (hQ h' a1 a2 a3 a4 a5 a6)) (F.args_zip_next_1 _))))
theorem CD {z TI TO T i1 i2 l1 l2:Addr} {f:Bool} {k1 k2:Nat} {xs ys:Array Value} {oT:Obj} {Q:Option Value→Shared→Prop} (hh:A.handled=none) (D:ZipApart z TI TO i1 i2 l1 l2)
 (hz:gT s.heap z TI TO T f) (hT:s.heap.get? T=some oT) (hTI:IsPair s.heap TI (.ref i1) (.ref i2))
 (h1:s.heap.IsListIter i1 l1 k1) (h2:s.heap.IsListIter i2 l2 k2) (hl1:s.heap.IsList l1 xs) (hl2:s.heap.IsList l2 ys) (hend:xs[k1]?=none∨ys[k2]?=none)
 (hQ:∀ h',(∀ c o,c≠z→c≠i1→c≠i2→s.heap.get? c=some o→h'.get? c=some o)→Q none { s with heap:=h' }):wpAny (model prog w) A (pyNext (.ref z)) Q E s:=by
 have hTy:s.TypeIs (.ref z) "zip" :=⟨_,hz,rfl⟩
 unfold pyNext
 refine wpAny_bind (wpAny_attempt (wpAny_callSpecial?_slot (name:=Str.ofString "__next__") hTy F.slot_zip_next
  (wpAny_call_entry F.slot_zip_next hTy F.entry_zip_next (uS hh D hz hT hTI h1 h2 hl1 hl2 hend fun h' e hk he=>?_) (F.args_zip_next_1 _))))
 obtain ⟨o,ho,hc⟩:=he
 refine wpAny_bind (wpAny_isInstance (T:= "StopIteration") (b:=true) ⟨o,ho,hc⟩ isSubtype_stop ?_)
 exact wpAny_pure (hQ _ hk)
def KY (N0:Nat) (h:Heap) (z TI TO:Addr):Prop:=
 (IsZip h z TI TO .none∧∃ a b,IsPair h TO a b)∨∃ T f oT,gT h z TI TO T f∧h.get? T=some oT∧N0≤T
structure ji (N0:Nat) (xs ys:Array Value) (z TI TO i1 i2 l1 l2:Addr) (i:Nat) (h:Heap):Prop where
 st:KY N0 h z TI TO
 ti:IsPair h TI (.ref i1) (.ref i2)
 i1:h.IsListIter i1 l1 i
 i2:h.IsListIter i2 l2 i
 l1:h.IsList l1 xs
 l2:h.IsList l2 ys
theorem ji.next {N0:Nat} {z TI TO i1 i2 l1 l2:Addr} {i:Nat} {xs ys:Array Value} {x y:Value} {Q:Option Value→Shared→Prop} (D:ZipApart z TI TO i1 i2 l1 l2)
 (Z:ji N0 xs ys z TI TO i1 i2 l1 l2 i s.heap) (hN:N0≤s.heap.objs.size) (lt:z < N0∧TO < N0∧i1 < N0∧i2 < N0) (hx:xs[i]?=some x) (hy:ys[i]?=some y)
 (hQ:∀ h',ji N0 xs ys z TI TO i1 i2 l1 l2 (i+1) h'→IsPair h' s.heap.objs.size x y→h'.objs.size=s.heap.objs.size+1→
  (∀ c o,c≠z→c≠TO→c≠i1→c≠i2→s.heap.get? c=some o→h'.get? c=some o)→Q (some (.ref s.heap.objs.size)) { s with heap:=h' }) :
 wpAny (model prog w) A (pyNext (.ref z)) Q E s:=by
 obtain ⟨st,ti,a1,a2,m1,m2⟩:=Z
 have tl:∀ {h':Heap},(∀ c o,c≠z→c≠TO→c≠i1→c≠i2→s.heap.get? c=some o→h'.get? c=some o)→h'.IsList l1 xs∧h'.IsList l2 ys∧IsPair h' TI (.ref i1) (.ref i2):=fun k=>by
  refine ⟨?_,?_,k _ _ D.TIz D.TITO D.TIi1 D.TIi2 ti⟩
  ·obtain ⟨o,e,r⟩:=m1;exact ⟨o,k _ _ D.l1z D.l1TO D.l1i1 D.l1i2 e,r⟩
  ·obtain ⟨o,e,r⟩:=m2;exact ⟨o,k _ _ D.l2z D.l2TO D.l2i1 D.l2i2 e,r⟩
 rcases st with ⟨hz,a,b,hTO⟩ | ⟨T,f,oT,hz,hT,Gm⟩
 ·refine wpAny_pyNext_zip_item D hz ti hTO a1 a2 m1 m2 hx hy fun h' b1 b2 b3 b4 b5 b6 b7=>?_
  obtain ⟨t1,t2,t3⟩:=tl b7
  exact hQ h' ⟨.inr ⟨_,false,_,b1,b5,hN⟩,t3,b3,b4,t1,t2⟩ b5 b6 b7
 ·refine AW D hz hT ti a1 a2 m1 m2 hx hy fun h' b1 b3 b4 b5 b6 b7=>?_
  obtain ⟨t1,t2,t3⟩:=tl fun c o c1 c2 c3 c4 e=>b7 c o c1 c3 c4 e
  exact hQ h' ⟨.inr ⟨_,true,_,b1,b7 T _ (Ul (Tw lt.1 Gm)) (Ul (Tw lt.2.2.1 Gm)) (Ul (Tw lt.2.2.2 Gm)) hT,Gm⟩,t3,b3,b4,t1,t2⟩ b5 b6 fun c o c1 c2 c3 c4 e=>b7 c o c1 c3 c4 e
theorem ji.fin {N0:Nat} {z TI TO i1 i2 l1 l2:Addr} {i:Nat} {xs ys:Array Value} {Q:Option Value→Shared→Prop} (hh:A.handled=none) (D:ZipApart z TI TO i1 i2 l1 l2)
 (Z:ji N0 xs ys z TI TO i1 i2 l1 l2 i s.heap) (hend:xs[i]?=none∨ys[i]?=none)
 (hQ:∀ h',(∀ c o,c≠z→c≠TO→c≠i1→c≠i2→s.heap.get? c=some o→h'.get? c=some o)→Q none { s with heap:=h' }):wpAny (model prog w) A (pyNext (.ref z)) Q E s:=by
 obtain ⟨st,ti,a1,a2,m1,m2⟩:=Z
 rcases st with ⟨hz,a,b,hTO⟩ | ⟨T,f,oT,hz,hT,Gm⟩
 ·exact wpAny_pyNext_zip_end hh D hz ti hTO a1 a2 m1 m2 hend hQ
 ·exact CD hh D hz hT ti a1 a2 m1 m2 hend fun h' k=>hQ h' fun c o c1 _ c3 c4 e=>k c o c1 c3 c4 e
theorem ji.keep {N0:Nat} {z TI TO i1 i2 l1 l2 S:Addr} {i:Nat} {xs ys:Array Value} {h h':Heap} (Z:ji N0 xs ys z TI TO i1 i2 l1 l2 i h) (hS:S < N0) (ne:S≠z∧S≠TI∧S≠TO∧S≠i1∧S≠i2∧S≠l1∧S≠l2)
 (k:∀ c o,c≠S→h.get? c=some o→h'.get? c=some o):ji N0 xs ys z TI TO i1 i2 l1 l2 i h':=by
 obtain ⟨st,ti,a1,a2,m1,m2⟩:=Z
 obtain ⟨n1,n2,n3,n4,n5,n6,n7⟩:=ne
 refine ⟨?_,k _ _ n2.symm ti,a1.at fun o e=>k _ o n4.symm e,a2.at fun o e=>k _ o n5.symm e,?_,?_⟩
 ·rcases st with ⟨hz,a,b,hTO⟩ | ⟨T,f,oT,hz,hT,Gm⟩
  ·exact .inl ⟨k _ _ n1.symm hz,a,b,k _ _ n3.symm hTO⟩
  ·exact .inr ⟨T,f,oT,k _ _ n1.symm hz,k _ _ (Ul (Tw hS Gm)) hT,Gm⟩
 ·obtain ⟨o,e,r⟩:=m1;exact ⟨o,k _ _ n6.symm e,r⟩
 ·obtain ⟨o,e,r⟩:=m2;exact ⟨o,k _ _ n7.symm e,r⟩
def cR (N0:Nat) (xs ys:Array Value) (h:Heap) (acc:Array Value) (i:Nat):Prop:=
 acc.size=i∧(∀ j x y,j < i→xs[j]?=some x→ys[j]?=some y→∃ p,acc[j]?=some (.ref p)∧IsPair h p x y∧N0≤p)∧acc.toList.Nodup
theorem cR.keep {N0:Nat} {xs ys:Array Value} {h h':Heap} {acc:Array Value} {i:Nat} (P:cR N0 xs ys h acc i) (k:∀ c o,N0≤c→h.get? c=some o→h'.get? c=some o):cR N0 xs ys h' acc i:=
 ⟨P.1,(fun j x y hj hx hy=>by obtain ⟨p,e1,e2,e3⟩:=P.2.1 j x y hj hx hy;exact ⟨p,e1,k p _ e3 e2,e3⟩),P.2.2⟩
theorem cR.push {N0:Nat} {xs ys:Array Value} {h:Heap} {acc:Array Value} {i:Nat} {x y:Value} {p:Addr} (P:cR N0 xs ys h acc i) (hx:xs[i]?=some x) (hy:ys[i]?=some y) (hp:IsPair h p x y) (hN:N0≤p) (hnew:Value.ref p∉acc.toList):cR N0 xs ys h (acc.push (.ref p)) (i+1):=by
 refine ⟨by rw [Array.size_push,P.1],fun j u v hj hu hv=>?_,by rw [Array.toList_push,Ub];exact ⟨P.2.2,by simp,fun a ha b hb e=>by rw [Tt.mp hb] at e;rw [e] at ha;exact hnew ha⟩⟩
 by_cases e:j=i
 ·subst e
  rw [hx] at hu;rw [hy] at hv
  cases hu;cases hv
  refine ⟨p,?_,hp,hN⟩
  have:=P.1
  subst this
  exact Array.getElem?_push_size
 ·obtain ⟨q,e1,e2,e3⟩:=P.2.1 j u v (by omega) hu hv
  refine ⟨q,?_,e2,e3⟩
  rw [Array.getElem?_push,if_neg (by rw [P.1];exact e)]
  exact e1
variable {R:Result→Shared→Prop}
theorem CF {N0:Nat} {z TI TO i1 i2 l1 l2 S:Addr} {xs ys:Array Value} (hh:A.in1.handled=none) (D:ZipApart z TI TO i1 i2 l1 l2) (lt:z < N0∧TO < N0∧i1 < N0∧i2 < N0) (Gn:S < N0) (ne:S≠z∧S≠TI∧S≠TO∧S≠i1∧S≠i2∧S≠l1∧S≠l2) (n:Nat) (hn:n=min xs.size ys.size) (hsz:n≤sizeLine) (res:Value) :
 ∀ (k i:Nat) (s:Shared) (acc:Array Value) (c:Nat),n - i=k→i≤n→N0≤s.heap.objs.size→ji N0 xs ys z TI TO i1 i2 l1 l2 i s.heap→s.heap.get? S=some { cls:= .type "list",dict:=none,data:= .seq acc c,slots:= #[] }→cR N0 xs ys s.heap acc i→
 (∀ h' acc' c',(∀ b o,b≠S→b≠z→b≠TO→b≠i1→b≠i2→s.heap.get? b=some o→h'.get? b=some o)→h'.get? S=some { cls:= .type "list",dict:=none,data:= .seq acc' c',slots:= #[] }→cR N0 xs ys h' acc' n→R (.ok (.ret res)) { s with heap:=h' })→
 codeAny (model prog w) A (.builtin "list.extend.loop" ⟨[.ref S,.ref z,res],[]⟩) R s:=by
 obtain ⟨n1,n2,n3,n4,n5,n6,n7⟩:=id ne
 intro k
 induction k with
 | zero=>
   intro i s acc c hk hi hN Z hS hP hR
   have hin:i=n:=by omega
   refine codeAny_builtin F.entry_extend_loop ?_
   rw [Around.under_plainId F.plain_extend_loop _]
   show wpAny _ A.in1 (pyNext (.ref z) >>= _) _ _ s
   have hend:xs[i]?=none∨ys[i]?=none:=by
    rcases Nat.le_total xs.size ys.size with q | q
    ·left;rw [Array.getElem?_eq_none];omega
    ·right;rw [Array.getElem?_eq_none];omega
   refine wpAny_bind (Z.fin hh D hend fun h' kp=>?_)
   subst hin
   refine wpAny_pure (hR h' acc c (fun b o b1 b2 b3 b4 b5 e=>kp b o b2 b3 b4 b5 e) (kp S _ n1 n3 n4 n5 hS) (hP.keep fun c o hc e=>kp c o ?_ ?_ ?_ ?_ e))
   ·exact Ul (Tw lt.1 hc)
   ·exact Ul (Tw lt.2.1 hc)
   ·exact Ul (Tw lt.2.2.1 hc)
   ·exact Ul (Tw lt.2.2.2 hc)
 | succ k ih=>
   intro i s acc c hk hi hN Z hS hP hR
   have hlt:i < n:=by omega
   have lx:i < xs.size:=by omega
   have ly:i < ys.size:=by omega
   refine codeAny_builtin F.entry_extend_loop ?_
   rw [Around.under_plainId F.plain_extend_loop _]
   show wpAny _ A.in1 (pyNext (.ref z) >>= _) _ _ s
   have hx:xs[i]?=some xs[i]:=Array.getElem?_eq_getElem lx
   have hy:ys[i]?=some ys[i]:=Array.getElem?_eq_getElem ly
   refine wpAny_bind (Z.next D hN lt hx hy fun h' Z' hp hz' kp=>?_)
   have hS':=kp S _ n1 n3 n4 n5 hS
   have QJ:cR N0 xs ys h' acc i:=hP.keep fun c o hc e=>kp c o (Ul (Tw lt.1 hc)) (Ul (Tw lt.2.1 hc)) (Ul (Tw lt.2.2.1 hc)) (Ul (Tw lt.2.2.2 hc)) e
   have hnew:Value.ref s.heap.objs.size∉acc.toList:=fun hm=>by
    obtain ⟨j,hj,ej⟩:=List.mem_iff_getElem.mp hm
    have hj':j < acc.size:=by simpa using hj
    have hji:j < i:=by rw [← hP.1];exact hj'
    have gx:xs[j]?=some xs[j]:=Array.getElem?_eq_getElem (by omega)
    have gy:ys[j]?=some ys[j]:=Array.getElem?_eq_getElem (by omega)
    obtain ⟨q,e1,e2,e3⟩:=hP.2.1 j _ _ hji gx gy
    rw [Array.getElem?_eq_getElem hj'] at e1
    have e4:acc[j]=Value.ref s.heap.objs.size:=by rw [← ej];simp
    rw [e4] at e1
    have e5:s.heap.objs.size=q:=by injection Option.some.inj e1
    have:=Heap.lt_size e2
    rw [← e5] at this
    exact UQ _ this
   show wpAny _ A.in1 (updateSeq S (·.push (.ref s.heap.objs.size)) >>= _) _ _ _
   refine wpAny_bind ?_
   have up:∀ b o,b≠S→h'.get? b=some o→(h'.update S (Obj.mapSeq (·.push (.ref s.heap.objs.size)))).get? b=some o:=fun b o hb e=>(Heap.get?_update_other _ _ (Ne.symm hb)).trans e
   refine wpAny_updateSeq hS' rfl (wpAny_pure ⟨plainId_quiet F.plain_extend_loop _,ih (i+1) _ (acc.push (.ref s.heap.objs.size)) _ (by omega) hlt ?_ (Z'.keep Gn ne fun c o hc e=>up c o hc e) (Heap.get?_update_self _ hS' rfl)
    ((QJ.push hx hy hp hN hnew).keep fun c o hc e=>up c o (Ul (Tw Gn hc)) e) fun h'' acc' c' NO NP NQ=>?_⟩) (by rw [hP.1];omega) (by show (acc.push _).size≤sizeLine+1;rw [Array.size_push,hP.1];omega)
   ·show N0≤(h'.update S _).objs.size
    have:(h'.update S (Obj.mapSeq (·.push (.ref s.heap.objs.size)))).objs.size=h'.objs.size:=(Heap.SameBut.update ..).1
    omega
   ·exact hR h'' acc' c' (fun b o b1 b2 b3 b4 b5 e=>NO b o b1 b2 b3 b4 b5 (up b o b1 (kp b o b2 b3 b4 b5 e))) NP NQ
theorem yo:typeLookup (.type "zip") "__len__" =pure none:=by rw [typeLookup_type,builtinLookup_eq_fast];kernel_rfl
theorem wG:typeLookup (.type "zip") "__length_hint__" =pure none:=by rw [typeLookup_type,builtinLookup_eq_fast];kernel_rfl
theorem yp {N0:Nat} {z TI TO i1 i2 l1 l2 S:Addr} {xs ys:Array Value} {c₀:Nat} (hh:A.in1.handled=none) (D:ZipApart z TI TO i1 i2 l1 l2) (lt:z < N0∧TO < N0∧i1 < N0∧i2 < N0) (Gn:S < N0) (ne:S≠z∧S≠TI∧S≠TO∧S≠i1∧S≠i2∧S≠l1∧S≠l2) (n:Nat) (hn:n=min xs.size ys.size) (hsz:n≤sizeLine) (res:Value)
 (hN:N0≤s.heap.objs.size) (Z:ji N0 xs ys z TI TO i1 i2 l1 l2 0 s.heap) (hz:IsZip s.heap z TI TO .none) (hS:s.heap.get? S=some { cls:= .type "list",data:= .seq #[] c₀ })
 (hR:∀ h' acc' c',(∀ b o,b≠S→b≠z→b≠TO→b≠i1→b≠i2→s.heap.get? b=some o→h'.get? b=some o)→h'.get? S=some { cls:= .type "list",dict:=none,data:= .seq acc' c',slots:= #[] }→cR N0 xs ys h' acc' n→R (.ok (.ret res)) { s with heap:=h' }) :
 wpAny (model prog w) A.in1 (Builtin.List.listExtendWith (.ref S) (.ref z) res)
  (fun fin s'=>match fin with | .done f=>R (.ok f) s' | .again c'=>c'.quiet=true∧codeAny (model prog w) A c' R s') (fun e s'=>R (.error e) s') s:=by
 have hTy:s.TypeIs (.ref z) "zip" :=⟨_,hz,rfl⟩
 unfold Builtin.List.listExtendWith
 refine wpAny_bind (wpAny_typeOf hTy ?_)
 have h1:Builtin.List.listSameRef (.ref S) (.ref z)=false:=by simp [Builtin.List.listSameRef,ne.1]
 have h2:(Value.type "zip" == Value.type "list")=false:=by decide
 have h3:(Value.type "zip" == Value.type "tuple")=false:=by decide
 simp only [h1,h2,h3,WB,TH,if_false]
 refine wpAny_bind (wpAny_pyIter_zip hz ?_)
 refine wpAny_bind (wpAny_holding ?_)
 unfold Builtin.List.listLengthHint
 refine wpAny_bind (wpAny_specialOf hTy yo ?_)
 show wpAny _ A.in1 (specialOf (Value.ref z) (Str.ofString "__length_hint__") >>= _) _ _ _
 refine wpAny_bind (wpAny_specialOf hTy wG ?_)
 refine wpAny_pure ?_
 show wpAny _ A.in1 (rule "list.extend.makes-room" >>= fun _=>Builtin.List.listTouch (.ref S) >>= fun _=>
  again (.builtin "list.extend.loop" ⟨[.ref S,.ref z,res],[]⟩)) _ _ _
 refine wpAny_bind (wpAny_rule ?_)
 refine wpAny_bind ?_
 show wpAny _ A.in1 (updateSeq S (·.push .none) >>= fun _=>updateSeq S (·.pop)) _ _ _
 refine wpAny_bind (wpAny_updateSeq hS rfl ?_)
 have Jc:=Heap.get?_update_self (Obj.mapSeq (·.push Value.none)) hS rfl
 refine wpAny_updateSeq (hz:=by seq_fits) Jc rfl ?_
 have QK:=Heap.get?_update_self (Obj.mapSeq (·.pop)) Jc rfl
 have EY:∀ b o,b≠S→s.heap.get? b=some o→((s.heap.update S (Obj.mapSeq (·.push Value.none))).update S (Obj.mapSeq (·.pop))).get? b=some o:=
  fun b o hb e=>(Heap.get?_update_other _ _ (Ne.symm hb)).trans ((Heap.get?_update_other _ _ (Ne.symm hb)).trans e)
 have NR:((s.heap.update S (Obj.mapSeq (·.push Value.none))).update S (Obj.mapSeq (·.pop))).objs.size=s.heap.objs.size:=by
  rw [(Heap.SameBut.update ..).1,(Heap.SameBut.update ..).1]
 refine wpAny_pure ⟨plainId_quiet F.plain_extend_loop _,CF hh D lt Gn ne n hn hsz res n 0 _ _ _ rfl (UD _) (UI hN (WI NR.symm)) (Z.keep Gn ne fun c o hc e=>EY c o hc e) QK ⟨rfl,(fun j x y hj=>absurd hj (Wm _)),VU⟩ fun h' acc' c' kp hS' hP=>?_⟩
 exact hR h' acc' c' (fun b o b1 b2 b3 b4 b5 e=>kp b o b1 b2 b3 b4 b5 (EY b o b1 e)) hS' hP
theorem rQ {N0:Nat} {z TI TO i1 i2 l1 l2 S:Addr} {xs ys:Array Value} (hh:A.in1.handled=none) (D:ZipApart z TI TO i1 i2 l1 l2) (lt:z < N0∧TO < N0∧i1 < N0∧i2 < N0) (Gn:S < N0) (ne:S≠z∧S≠TI∧S≠TO∧S≠i1∧S≠i2∧S≠l1∧S≠l2) (n:Nat) (hn:n=min xs.size ys.size) (hsz:n≤sizeLine)
 (hN:N0≤s.heap.objs.size) (Z:ji N0 xs ys z TI TO i1 i2 l1 l2 0 s.heap) (hz:IsZip s.heap z TI TO .none) (hS:s.heap.get? S=some { cls:= .type "list",data:= .seq #[] })
 (hR:∀ h' acc' c',(∀ b o,b≠S→b≠z→b≠TO→b≠i1→b≠i2→s.heap.get? b=some o→h'.get? b=some o)→h'.get? S=some { cls:= .type "list",dict:=none,data:= .seq acc' c',slots:= #[] }→cR N0 xs ys h' acc' n→R (.ok (.ret .none)) { s with heap:=h' }) :
 wpAny (model prog w) A.in1 (Builtin.«list.__init__» ⟨[.ref S,.ref z],[]⟩)
  (fun fin s'=>match fin with | .done f=>R (.ok f) s' | .again c'=>c'.quiet=true∧codeAny (model prog w) A c' R s') (fun e s'=>R (.error e) s') s:=by
 show wpAny _ A.in1 (do let old ← Builtin.List.listItems (.ref S);Builtin.List.listUpdate (.ref S) (fun _=> #[]);letGo old.toList.reverse;Builtin.List.listExtendWith (.ref S) (.ref z) .none) _ _ s
 refine wpAny_bind ?_
 unfold Builtin.List.listItems
 refine wpAny_bind (wpAny_seqItems hS rfl (wpAny_pure ?_))
 show wpAny _ A.in1 (updateSeq S (fun _=> #[]) >>= fun _=>letGo (#[]:Array Value).toList.reverse >>= fun _=>Builtin.List.listExtendWith (.ref S) (.ref z) .none) _ _ s
 refine wpAny_bind (wpAny_updateSeq hS rfl ?_)
 have Jc:=Heap.get?_update_self (Obj.mapSeq (fun _=>(#[]:Array Value))) hS rfl
 have EY:∀ b o,b≠S→s.heap.get? b=some o→(s.heap.update S (Obj.mapSeq (fun _=>(#[]:Array Value)))).get? b=some o:=
  fun b o hb e=>(Heap.get?_update_other _ _ (Ne.symm hb)).trans e
 have NR:(s.heap.update S (Obj.mapSeq (fun _=>(#[]:Array Value)))).objs.size=s.heap.objs.size:=(Heap.SameBut.update ..).1
 refine wpAny_bind (wpAny_letGo ?_)
 refine yp hh D lt Gn ne n hn hsz .none (UI hN (WI NR.symm)) (Z.keep Gn ne fun c o hc e=>EY c o hc e) (EY _ _ ne.1.symm hz) Jc fun h' acc' c' kp hS' hP=>?_
 exact hR h' acc' c' (fun b o b1 b2 b3 b4 b5 e=>kp b o b1 b2 b3 b4 b5 (EY b o b1 e)) hS' hP
theorem rR {z TI TO i1 i2 l1 l2:Addr} {xs ys:Array Value} {Q:Value→Shared→Prop} (hh:A.in1.in1.handled=none) (D:ZipApart z TI TO i1 i2 l1 l2)
 (lt:z < s.heap.objs.size∧TI < s.heap.objs.size∧TO < s.heap.objs.size∧i1 < s.heap.objs.size∧i2 < s.heap.objs.size∧l1 < s.heap.objs.size∧l2 < s.heap.objs.size) (n:Nat) (hn:n=min xs.size ys.size) (hsz:n≤sizeLine)
 (hz:IsZip s.heap z TI TO .none) (hTI:IsPair s.heap TI (.ref i1) (.ref i2)) {a b:Value} (hTO:IsPair s.heap TO a b) (h1:s.heap.IsListIter i1 l1 0) (h2:s.heap.IsListIter i2 l2 0) (hl1:s.heap.IsList l1 xs) (hl2:s.heap.IsList l2 ys)
 (hQ:∀ h' acc' c',(∀ b o,b≠z→b≠TO→b≠i1→b≠i2→s.heap.get? b=some o→h'.get? b=some o)→h'.get? s.heap.objs.size=some { cls:= .type "list",dict:=none,data:= .seq acc' c',slots:= #[] }→cR (s.heap.objs.size+1) xs ys h' acc' n→Q (.ref s.heap.objs.size) { s with heap:=h' }) :
 wpAny (model prog w) A (call (.type "list") [.ref z]) Q E s:=by
 obtain ⟨q1,q2,q3,q4,q5,q6,q7⟩:=lt
 refine callType_codes (Q₁:=fun obj s₁=>obj= .ref s.heap.objs.size∧s₁= { s with heap:=s.heap.push { cls:= .type "list",data:= .seq #[] } }) F.called_list (F.typeCall_list_1 _) F.entry_list_init
  (code_list_new _ ⟨rfl,rfl⟩) fun obj s₁ h₁=>?_
 obtain ⟨rfl,rfl⟩:=h₁
 have hS:(s.heap.push { cls:= .type "list",data:= .seq #[] }).get? s.heap.objs.size=some { cls:= .type "list",data:= .seq #[] }:=Heap.get?_push_size _ rfl
 have up:∀ c o,s.heap.get? c=some o→(s.heap.push { cls:= .type "list",data:= .seq #[] }).get? c=some o:=fun c o e=>Heap.get?_push_of_some _ e
 have Z:ji (s.heap.objs.size+1) xs ys z TI TO i1 i2 l1 l2 0 (s.heap.push { cls:= .type "list",data:= .seq #[] }):=
  ⟨.inl ⟨up _ _ hz,a,b,up _ _ hTO⟩,up _ _ hTI,h1.at fun o e=>up _ o e,h2.at fun o e=>up _ o e,(by obtain ⟨o,e,r⟩:=hl1;exact ⟨o,up _ _ e,r⟩),(by obtain ⟨o,e,r⟩:=hl2;exact ⟨o,up _ _ e,r⟩)⟩
 refine ⟨⟨_,hS,rfl⟩,F.args_list_init_2 _ _,rQ (N0:=s.heap.objs.size+1) hh D ⟨UN q1,UN q3,UN q4,UN q5⟩ (VJ _) ⟨Ul q1,Ul q2,Ul q3,Ul q4,Ul q5,Ul q6,Ul q7⟩ n hn hsz
  (by show s.heap.objs.size+1≤(Heap.push _ _).objs.size;rw [Heap.size_push];exact Tz _) Z (up _ _ hz) hS fun h' acc' c' kp hS' hP=>?_⟩
 exact ⟨rfl,hQ h' acc' c' (fun b o b2 b3 b4 b5 e=>kp b o (Ue (Heap.lt_size e)) b2 b3 b4 b5 (up b o e)) hS' hP⟩
end
end PySem
namespace L2
open PySem PySem.Spec PyProof.Rows
section
variable {X:Cx} {pins:List (Addr ×Obj)} {σ:St} {H:Hp} {s:Shared}
theorem Inv.named {a:Addr} {o:HO} (I:Inv X pins σ H s) (f:jl X pins H a) (new:cy X.prog X.w (upd H a o) s.heap a o):Inv X pins σ (upd H a o) s:=by
 obtain ⟨f0,f1,f2,f3,f4,f5⟩:=f
 have nn:∀ b u,H b=some u→b≠a:=fun b u e z=>by rw [z,f0] at e;cases e
 have hok:iX X.prog X.w (upd H a o) s.heap:=fun b u e=>by
  by_cases hb:b=a
  ·subst hb;rw [bN] at e;cases e;exact new
  ·rw [aQ hb] at e
   exact (I.hok b u e).stay (fun c v _ q=>q) (fun c q=>by rw [aQ (nn _ _ q)];exact q) fun c xs q=>by rw [aQ (nn _ _ q)];exact q
 exact I.step (h':=s.heap) (g':=s.gens) (d':=s.drawn) (t':=s.toks) (ch:=[a]) (fun b hb=>by rw [Tt.mp hb];exact ⟨f3,f1,f4,f5⟩) (fun b o _ _ _ e _=>e) (fun b o _ _ _ e _=>⟨o.slots,e⟩) (fun b o hc e n=>by rw [aQ (by simpa using hc)];exact n)
  (fun b o _ e=>⟨o,e⟩) (fun b xs e=>by rw [aQ (nn _ _ e)];exact e) (fun b o u e=>by rw [aQ (nn _ _ e)];exact e) (fun b ps e=>⟨#[],by rw [aQ (nn _ _ e),e];simp⟩) (fun m hm=>hm) hok I.bare
end
end L2
namespace L3
open PySem PySem.Spec PyProof.Rows L2
section
variable {X:Cx} {pins:List (Addr ×Obj)} {σ:St} {s:Shared}
theorem qi:∀ (L:List (Addr ×V ×V)) {H:Hp},Inv X pins σ H s→(L.map (·.1)).Nodup→(∀ q∈L,jl X pins H q.1∧∃ u v,RelV q.2.1 u∧RelV q.2.2 v∧IsPair s.heap q.1 u v)→
 ∃ H',Inv X pins σ H' s∧(∀ b o,H b=some o→H' b=some o)∧(∀ b,b∉L.map (·.1)→H' b=H b)∧∀ q∈L,H' q.1=some (.tup [q.2.1,q.2.2])
 | [],H,I,_,_=>⟨H,I,fun _ _ e=>e,fun _ _=>rfl,fun q hq=>by cases hq⟩
 | (p,x,y) :: L,H,I,nd,h=>by
   obtain ⟨f,u,v,ru,rv,hp⟩:=h (p,x,y) (by simp)
   rw [Ud,T4] at nd
   have I1:Inv X pins σ (upd H p (.tup [x,y])) s:=I.named f ⟨by rw [sizeLine_eq];show 2≤16777216;decide,[u,v],.cons ru (.cons rv .nil),⟨_,hp,rfl,_,rfl⟩⟩
   obtain ⟨H',I',k1,k2,k3⟩:=qi L I1 nd.2 fun q hq=>by
    obtain ⟨⟨f0,fr⟩,r⟩:=h q (Tn _ hq)
    refine ⟨⟨?_,fr⟩,r⟩
    rw [aQ (fun z=>nd.1 (TV.mpr ⟨q,hq,z⟩))]
    exact f0
   refine ⟨H',I',fun b o e=>k1 b o (by rw [aQ (bE e f.1)];exact e),fun b hb=>?_,fun q hq=>?_⟩
   ·rw [Ud,Tp,not_or] at hb
    rw [k2 b hb.2,aQ hb.1]
   ·rcases Tp.mp hq with e | e
    ·rw [e];exact k1 p _ bN
    ·exact k3 q e
theorem tM:∀ (ps:List Addr),Vals (ps.map V.ref) (ps.map Value.ref)
 | []=> .nil
 | p :: ps=> .cons rfl (tM ps)
theorem oB {K:PySem.W.Frag} {H:Hp}:∀ {ds:List D} {xs:List V},ds.length=xs.length→(∀ (i:Nat) (d:D),ds[i]?=some d→∃ v,xs[i]?=some v∧Dat K H d v)→aB K H ds xs
 | [],[],_,_=>aE.mpr rfl
 | d :: ds,x :: xs,hl,h=>by
   obtain ⟨v,e,hv⟩:=h 0 d rfl
   cases e
   exact aA.mpr ⟨x,xs,rfl,hv,oB (by simpa using hl) fun i d e=>h (i+1) d e⟩
 | [],_ :: _,hl,_=>by cases hl
 | _ :: _,[],hl,_=>by cases hl
end
section
variable {X:Cx} {pos:Pos}
def KZ (t:rD):cK:=fun ρ M Q=>t ρ M fun vs M1=> ∃ a b xs ys,vs= [.ref a,.ref b]∧M1 a=some (.lst xs)∧M1 b=some (.lst ys)∧∀ p,M1 p=none→Q (.ref p) (av M1 p (.lst (List.zipWith pairD xs ys)))
theorem AX {e1 e2:Expr} {t:rD} {p1 p2 pos2:Pos} (hc:X.calm=true) (Kn:Gl X "list") (hml:X.mg "list" =none) (QL:Gl X "zip") (QM:X.mg "zip" =none) (ha:x6 X [e1,e2] t)
 (st1:starEach [e1,e2] X.env=(false,eval e1 X.env) :: starEach [e2] X.env:=by rfl) (hpl:(backTo pos2 (starEach [e2] X.env)).any (·.1)=false:=by rfl)
 (s2:starEach [.Call (.Name "zip" p2) [e1,e2] [] pos2] X.env= [(false,eval (.Call (.Name "zip" p2) [e1,e2] [] pos2) X.env)]:=by rfl) :
 cG X (.Call (.Name "list" p1) [.Call (.Name "zip" p2) [e1,e2] [] pos2] [] pos) (KZ t):=by
 constructor
 intro pins s σ H ρ M Q I r h
 refine wpAny_Call_Name_kw (jv I Kn hml gb ?_ (by decide) (by decide))
 refine PyProof.Rows.callWith_type1 (Q:=EP X pins σ (Post X.K M H Q)) ?_ (by rw [s2];rfl) (by rfl)
 rw [s2]
 show wpAny _ _ (spliced ((false,eval (.Call (.Name "zip" p2) [e1,e2] [] pos2) X.env) :: backTo pos [])) _ _ s
 refine Calls.spliced_cons ?_
 refine wpAny_Call_Name_kw (jv I QL QM AV ?_ (by decide) (by decide))
 refine PyProof.Rows.callWith_type1 (cF (ha.run pos2 pins s σ H ρ M _ I r h) fun us s1 hq=>?_) st1 hpl
 obtain ⟨vs,H1,I1,r1,ds,M1,f1,dv,mT,a,b,xs,ys,e,QN,QO,q⟩:=hq
 subst e
 obtain ⟨v,u,rfl,hv,hu⟩:=zC dv
 obtain rfl:=aH.mp hv
 obtain rfl:=aH.mp hu
 obtain ⟨u1,u2,rfl,ra,rb⟩:=vals2 r1
 obtain rfl:u1=Value.ref a:=ra
 obtain rfl:u2=Value.ref b:=rb
 obtain ⟨zs,QS,dz⟩:=mT.lst QN
 obtain ⟨ws,QT,dw⟩:=mT.lst QO
 obtain ⟨its,rv,pl,hz1⟩:=I1.list (iE.of QS)
 obtain ⟨LQ,rw',NS,hz2⟩:=I1.list (iE.of QT)
 have la:a < s1.heap.objs.size:=by obtain ⟨o,e,_⟩:=pl.isList;exact Heap.lt_size e
 have lb:b < s1.heap.objs.size:=by obtain ⟨o,e,_⟩:=NS.isList;exact Heap.lt_size e
 refine call_zip_2 pl.isList NS.isList fun h' hz hTI hTO h1 h2 hsz kp=>Calls.spliced_nil ?_
 have na:∀ k,a≠s1.heap.objs.size+k:=fun k=>Ue (Tw la (Uu _ _))
 have nb:∀ k,b≠s1.heap.objs.size+k:=fun k=>Ue (Tw lb (Uu _ _))
 have nn:∀ j k:Nat,j≠k→s1.heap.objs.size+j≠s1.heap.objs.size+k:=fun j k h e=>h (Nat.add_left_cancel e)
 have D:ZipApart (s1.heap.objs.size+4) (s1.heap.objs.size+2) (s1.heap.objs.size+3) s1.heap.objs.size (s1.heap.objs.size+1) a b:=
  ⟨nn 2 4 (by decide),nn 3 4 (by decide),nn 0 4 (by decide),nn 1 4 (by decide),nn 2 3 (by decide),nn 2 0 (by decide),nn 2 1 (by decide),nn 3 0 (by decide),nn 3 1 (by decide),nn 0 1 (by decide),na 4,na 3,na 0,na 1,nb 4,nb 3,nb 0,nb 1⟩
 have lz:=rv.length
 have lw:=rw'.length
 refine rR (s:={ s1 with heap:=h' }) (show _ from I.ok.hd hc) D (by show _ < h'.objs.size∧_;rw [hsz];exact ⟨Vs (by decide) _,Vs (by decide) _,Vs (by decide) _,Nat.lt_add_of_pos_right (by decide),Vs (by decide) _,Tw la (Uu _ _),Tw lb (Uu _ _)⟩) (min its.toArray.size LQ.toArray.size) rfl (by simp only [Tv];omega) hz hTI hTO h1 h2
  (by obtain ⟨o,e,r⟩:=pl.isList;exact ⟨o,kp _ _ e,r⟩) (by obtain ⟨o,e,r⟩:=NS.isList;exact ⟨o,kp _ _ e,r⟩) fun h'' acc c HP hS hP=>?_
 have hS:h''.get? (s1.heap.objs.size+5)=some { cls:= .type "list",dict:=none,data:= .seq acc c,slots:= #[] }:=by rw [← hsz];exact hS
 have hP:cR (s1.heap.objs.size+6) its.toArray LQ.toArray h'' acc (min its.toArray.size LQ.toArray.size):=by
  have e:s1.heap.objs.size+6=h'.objs.size+1:=by rw [hsz]
  rw [e];exact hP
 have en:min its.toArray.size LQ.toArray.size=min zs.length ws.length:=by simp only [Tv];omega
 rw [en] at hP
 have I2:Inv X pins σ H1 { s1 with heap:=h',toks:=s1.toks }:=I1.kept (t':=s1.toks) kp
 have fz:∀ {H':Hp} {b:Addr},s1.heap.objs.size≤b→H' b=none→jl X pins H' b:=fun hb hn=>I1.Av hb hn
 have I3:Inv X pins σ H1 { s1 with heap:=h'',toks:=s1.toks }:=Inv.EZ (s:={ s1 with heap:=h',toks:=s1.toks }) (h':=h'') (t':=s1.toks) (fp:=[s1.heap.objs.size+4,s1.heap.objs.size+3,s1.heap.objs.size,s1.heap.objs.size+1]) I2
  (fun b o hb e=>by
   have nb:b≠s1.heap.objs.size+4∧b≠s1.heap.objs.size+3∧b≠s1.heap.objs.size∧b≠s1.heap.objs.size+1:=by simpa using hb
   exact HP b o nb.1 nb.2.1 nb.2.2.1 nb.2.2.2 e)
  (fun b hb=>by
   have hle:s1.heap.objs.size≤b:=by
    simp only [Tp,Ur,or_false] at hb
    rcases hb with rfl | rfl | rfl | rfl
    ·exact Uu _ _
    ·exact Uu _ _
    ·exact Tz _
    ·exact Uu _ _
   exact fz hle (I1.hok.fresh hle))
 have key:∀ j,j < min zs.length ws.length→∃ x y u v p,zs[j]?=some x∧ws[j]?=some y∧RelV x u∧RelV y v∧acc[j]?=some (.ref p)∧IsPair h'' p u v∧s1.heap.objs.size+6≤p:=fun j hj=>by
  have gx:zs[j]?=some (zs[j]'(by omega)):=Tq (by omega)
  have gy:ws[j]?=some (ws[j]'(by omega)):=Tq (by omega)
  obtain ⟨u,hu,ru⟩:=rv.get gx
  obtain ⟨v,hv,LO⟩:=rw'.get gy
  obtain ⟨p,a1,a2,a3⟩:=hP.2.1 j u v hj (by simpa using hu) (by simpa using hv)
  exact ⟨_,_,u,v,p,gx,gy,ru,LO,a1,a2,a3⟩
 generalize hm:min zs.length ws.length=m at *
 let pj:Nat→Addr:=fun j=>match acc[j]? with | some (.ref p)=>p | _=>0
 have NT:∀ j,j < m→∃ x y u v,zs[j]?=some x∧ws[j]?=some y∧RelV x u∧RelV y v∧acc[j]?=some (.ref (pj j))∧IsPair h'' (pj j) u v∧s1.heap.objs.size+6≤pj j:=fun j hj=>by
  obtain ⟨x,y,u,v,p,a1,a2,a3,a4,a5,a6,a7⟩:=key j hj
  have e:pj j=p:=by show (match acc[j]? with | some (.ref p)=>p | _=>0)=p;rw [a5]
  rw [e]
  exact ⟨x,y,u,v,a1,a2,a3,a4,a5,a6,a7⟩
 have Gp:acc.toList=((List.range m).map pj).map Value.ref:=by
  apply WM
  intro j
  by_cases hj:j < m
  ·obtain ⟨x,y,u,v,a1,a2,a3,a4,a5,a6,a7⟩:=NT j hj
   rw [Array.getElem?_toList,a5]
   simp [hj]
  ·rw [UT (by simp [hP.1];omega),UT (by simp;omega)]
 have NU:((List.range m).map pj).Nodup:=by
  have q:=hP.2.2
  rw [Gp] at q
  exact (V1.mp q).imp fun hne e=>hne (congrArg _ e)
 obtain ⟨H',I4,k1,k2,k3⟩:=qi ((List.range m).map fun j=>(pj j,(zs[j]?).getD .bz,(ws[j]?).getD .bz)) I3 (by rw [We];exact NU) (fun q hq=>by
  obtain ⟨j,hj,rfl⟩:=TV.mp hq
  obtain ⟨x,y,u,v,a1,a2,a3,a4,a5,a6,a7⟩:=NT j (VT.mp hj)
  have hle:s1.heap.objs.size≤pj j:=UI (Uu _ _) a7
  refine ⟨fz hle (I1.hok.fresh hle),u,v,?_,?_,a6⟩
  ·show RelV ((zs[j]?).getD .bz) u;rw [a1];exact a3
  ·show RelV ((ws[j]?).getD .bz) v;rw [a2];exact a4)
 have NV:H' (s1.heap.objs.size+5)=none:=by
  rw [k2 _ (fun hz=>?_)]
  ·exact I1.hok.fresh (Uu _ _)
  ·rw [We] at hz
   obtain ⟨j,hj,e⟩:=TV.mp hz
   obtain ⟨x,y,u,v,a1,a2,a3,a4,a5,a6,a7⟩:=NT j (VT.mp hj)
   have e:pj j=s1.heap.objs.size+5:=e
   rw [e] at a7
   exact absurd a7 (by omega)
 have hlen:((List.range m).map pj).length≤sizeLine:=by
  rw [To,VC]
  omega
 have I5:Inv X pins σ (upd H' (s1.heap.objs.size+5) (.lst (((List.range m).map pj).map V.ref))) { s1 with heap:=h'',toks:=s1.toks }:=
  I4.named (fz (Uu _ _) NV) ⟨by rw [To];exact hlen,((List.range m).map pj).map Value.ref,c,tM _,by rw [← Gp];exact hS⟩
 have ev:(Value.ref ({ s1 with heap:=h' }:Shared).heap.objs.size)= .ref (s1.heap.objs.size+5):=by show Value.ref h'.objs.size=_;rw [hsz]
 have NW:Ext H1 H':=Ext.keep k1
 refine ⟨.ref (s1.heap.objs.size+5),_,I5,ev,.ref _,av M1 _ (.lst (List.zipWith pairD xs ys)),?_,aH.mpr rfl,(mT.keep k1).newL NV ?_,q _ ?_⟩
 ·refine f1.trans (Fr.trans (fun b o n e=>⟨k1 b o e,n⟩) (Fr.new NV fun _ hb=>aZ hb))
 ·refine oB (by rw [Vt,To,To,VC,← hm,dz.length,dw.length]) fun i d hd=>?_
  rw [U7] at hd
  cases hx:xs[i]? with
  | none=>rw [hx] at hd;cases hd
  | some dx=>
    cases hy:ys[i]? with
    | none=>rw [hx,hy] at hd;cases hd
    | some dy=>
      rw [hx,hy] at hd
      have hd:pairD dx dy=d:=Option.some.inj hd
      obtain ⟨x,gx,qx⟩:=dz.get hx
      obtain ⟨y,gy,qy⟩:=dw.get hy
      have hi:i < m:=by
       have i1:=(T9.mp gx).1
       have i2:=(T9.mp gy).1
       omega
      have q3:=k3 (pj i,(zs[i]?).getD .bz,(ws[i]?).getD .bz) (TV.mpr ⟨i,VT.mpr hi,rfl⟩)
      rw [gx,gy] at q3
      refine ⟨.ref (pj i),by simp [hi],?_⟩
      rw [← hd]
      exact aU.mpr ⟨pj i,[x,y],rfl,q3,aB.mono NW _ _ (aA.mpr ⟨x,[y],rfl,qx,aB.one qy⟩)⟩
 ·exact mT.free (I1.hok.fresh (Uu _ _))
end
end L3
namespace L3
open PySem
def iO:List Pl→Pl→List Pl
 | b :: a :: r,p=>if tw a b p < 0 then iO (a :: r) p else b :: a :: r
 | [a],_=>[a]
 | [],_=>[]
def aI (st:List Pl) (p:Pl):List Pl:=p :: iO st p
structure Way where
 al:Int
 be:Int
def Way.f (w:Way) (p:Pl):Int:=w.al*p.x+w.be*p.y
theorem gi (al be ux uy vx vy px py:Int):(al*vx+be*vy)*(ux*py - uy*px)=(al*ux+be*uy)*(vx*py - vy*px)+(al*px+be*py)*(ux*vy - uy*vx):=by grind
theorem gj {a b:Int} (ha:0 < a) (h:0≤a*b):0≤b:=by
 apply Tj
 intro z
 have:a*b < 0:=Uv ha (by omega)
 omega
theorem pA {a b:Int} (ha:0 < a) (h:0 < a*b):0 < b:=by
 apply Tj
 intro z
 have:a*b≤0:=TQ (by omega) (by omega)
 omega
section
variable {w:Way}
theorem E1 {z a b p:Pl} (h1:w.f z < w.f a) (h2:w.f a < w.f b) (h3:w.f b < w.f p) (t1:0≤tw z a b) (t2:0≤tw a b p):0≤tw z a p:=by
 have key:=gi w.al w.be (a.x - z.x) (a.y - z.y) (b.x - a.x) (b.y - a.y) (p.x - a.x) (p.y - a.y)
 unfold Way.f at h1 h2 h3
 have e1:tw z a b=(a.x - z.x)*(b.y - a.y) - (a.y - z.y)*(b.x - a.x):=by unfold tw;grind
 have e2:tw a b p=(b.x - a.x)*(p.y - a.y) - (b.y - a.y)*(p.x - a.x):=by unfold tw;grind
 have e3:tw z a p=(a.x - z.x)*(p.y - a.y) - (a.y - z.y)*(p.x - a.x):=by unfold tw;grind
 rw [← e1,← e2,← e3] at key
 have fU:0 < w.al*(a.x - z.x)+w.be*(a.y - z.y):=by rw [Uj,Uj];omega
 have fV:0 < w.al*(b.x - a.x)+w.be*(b.y - a.y):=by rw [Uj,Uj];omega
 have fP:0 < w.al*(p.x - a.x)+w.be*(p.y - a.y):=by rw [Uj,Uj];omega
 refine gj fV ?_
 rw [key]
 have m1:=TF (T3 fU) t2
 have m2:=TF (T3 fP) t1
 omega
theorem CG {a c p q:Pl} (h1:w.f a < w.f c) (h2:w.f c < w.f p) (h3:w.f q≤w.f c) (t1:0≤tw a c q) (t2:0≤tw a c p):0≤tw c p q:=by
 have key:=gi w.al w.be (p.x - c.x) (p.y - c.y) (c.x - a.x) (c.y - a.y) (q.x - c.x) (q.y - c.y)
 unfold Way.f at h1 h2 h3
 have e1:tw a c q=(c.x - a.x)*(q.y - c.y) - (c.y - a.y)*(q.x - c.x):=by unfold tw;grind
 have e2:tw a c p= -((p.x - c.x)*(c.y - a.y) - (p.y - c.y)*(c.x - a.x)):=by unfold tw;grind
 have e3:tw c p q=(p.x - c.x)*(q.y - c.y) - (p.y - c.y)*(q.x - c.x):=by unfold tw;grind
 have NX:(p.x - c.x)*(c.y - a.y) - (p.y - c.y)*(c.x - a.x)= -tw a c p:=by omega
 rw [← e1,NX,← e3] at key
 have fU:0 < w.al*(c.x - a.x)+w.be*(c.y - a.y):=by rw [Uj,Uj];omega
 have fP:0 < w.al*(p.x - c.x)+w.be*(p.y - c.y):=by rw [Uj,Uj];omega
 have fQ:w.al*(q.x - c.x)+w.be*(q.y - c.y)≤0:=by rw [Uj,Uj];omega
 refine gj fU ?_
 rw [key]
 have m1:=TF (T3 fP) t1
 have m2:0≤(w.al*(q.x - c.x)+w.be*(q.y - c.y))* -tw a c p:=TX fQ (by omega)
 omega
theorem CH {c d p q:Pl} (h1:w.f c < w.f d) (h2:w.f c < w.f p) (h3:w.f c < w.f q) (t1:0≤tw c d q) (t2:tw c d p < 0):0 < tw c p q:=by
 have key:=gi w.al w.be (p.x - c.x) (p.y - c.y) (d.x - c.x) (d.y - c.y) (q.x - c.x) (q.y - c.y)
 unfold Way.f at h1 h2 h3
 have e1:tw c d q=(d.x - c.x)*(q.y - c.y) - (d.y - c.y)*(q.x - c.x):=by unfold tw;grind
 have NX:(p.x - c.x)*(d.y - c.y) - (p.y - c.y)*(d.x - c.x)= -tw c d p:=by unfold tw;grind
 have e3:tw c p q=(p.x - c.x)*(q.y - c.y) - (p.y - c.y)*(q.x - c.x):=by unfold tw;grind
 rw [← e1,NX,← e3] at key
 have fU:0 < w.al*(d.x - c.x)+w.be*(d.y - c.y):=by rw [Uj,Uj];omega
 have fP:0 < w.al*(p.x - c.x)+w.be*(p.y - c.y):=by rw [Uj,Uj];omega
 have fQ:0 < w.al*(q.x - c.x)+w.be*(q.y - c.y):=by rw [Uj,Uj];omega
 refine pA fU ?_
 rw [key]
 have m1:=TF (T3 fP) t1
 have m2:0 < (w.al*(q.x - c.x)+w.be*(q.y - c.y))* -tw c d p:=T8 fQ (by omega)
 omega
def uT (w:Way) (S:List Pl) (a b:Pl):Prop:= ∀ q∈S,0≤tw a b q∧(tw a b q=0→¬ (w.f a < w.f q∧w.f q < w.f b))
def kO (w:Way) (S:List Pl):List Pl→Prop
 | b :: a :: r=>w.f a < w.f b∧uT w S a b∧kO w S (a :: r)
 | _=>True
def zN (p:Pl):List Pl→Prop
 | b :: a :: r=>0≤tw a b p∧zN p (a :: r)
 | _=>True
structure Ch (w:Way) (S st:List Pl):Prop where
 pB:∀ q∈st,q∈S
 E2:kO w S st
 top:∀ q∈S,∃ t,st.head?=some t∧w.f q≤w.f t
 bot:∀ q∈S,∃ t,st.getLast?=some t∧w.f t≤w.f q
 inj:∀ q∈S,∀ r∈S,w.f q=w.f r→q=r
theorem wH {S:List Pl} {p:Pl}:∀ (r:List Pl) (b a:Pl),kO w S (b :: a :: r)→(∀ q∈b :: a :: r,q∈S)→w.f b < w.f p→0≤tw a b p→zN p (b :: a :: r)
 | [],b,a,_,_,_,t=>⟨t,trivial⟩
 | z :: r,b,a,e,m,h,t=>by
   obtain ⟨e1,e2,e3⟩:=e
   obtain ⟨e4,e5,e6⟩:=id e3
   have t2:0≤tw z a p:=E1 e4 e1 h (e5 b (m b (by simp))).1 t
   exact ⟨t,wH r a z e3 (fun q hq=>m q (Tn _ hq)) (by omega) t2⟩
structure Ia (w:Way) (S st:List Pl) (p c:Pl) (r:List Pl):Prop where
 eq:iO st p=c :: r
 E2:kO w S (c :: r)
 pB:∀ q∈c :: r,q∈S
 bU:zN p (c :: r)
 lst:(c :: r).getLast?=st.getLast?
 Pa:(∀ q∈S,w.f q≤w.f c)∨∃ d,w.f c < w.f d∧(∀ q∈S,0≤tw c d q)∧tw c d p < 0
theorem CI {S:List Pl} {p:Pl} (hp:∀ q∈S,w.f q < w.f p):∀ (st:List Pl) (c:Pl) (r:List Pl),st=c :: r→kO w S st→(∀ q∈st,q∈S)→((∀ q∈S,w.f q≤w.f c)∨∃ d,w.f c < w.f d∧(∀ q∈S,0≤tw c d q)∧tw c d p < 0)→
 ∃ c' r',Ia w S st p c' r'
 | _,c,[],rfl,e,m,f=>⟨c,[],rfl,trivial,m,trivial,rfl,f⟩
 | _,b,a :: r,rfl,e,m,f=>by
   obtain ⟨e1,e2,e3⟩:=id e
   by_cases k:tw a b p < 0
   ·obtain ⟨c',r',P⟩:=CI hp (a :: r) a r rfl e3 (fun q hq=>m q (Tn _ hq)) (.inr ⟨b,e1,fun q hq=>(e2 q hq).1,k⟩)
    refine ⟨c',r',?_,P.E2,P.pB,P.bU,?_,P.Pa⟩
    ·show (if tw a b p < 0 then iO (a :: r) p else b :: a :: r)=_
     rw [if_pos k];exact P.eq
    ·rw [P.lst];rfl
   ·refine ⟨b,a :: r,?_,e,m,wH r b a e m (hp b (m b (by simp))) (by omega),rfl,f⟩
    show (if tw a b p < 0 then iO (a :: r) p else b :: a :: r)=_
    rw [if_neg k]
theorem qj {S:List Pl} {p:Pl}:∀ (st:List Pl),kO w S st→zN p st→(∀ q∈st,w.f q < w.f p)→kO w (S ++ [p]) st
 | [],_,_,_=>trivial
 | [_],_,_,_=>trivial
 | b :: a :: r,e,l,h=>by
   obtain ⟨e1,e2,e3⟩:=e
   refine ⟨e1,fun q hq=>?_,qj (a :: r) e3 l.2 fun q hq=>h q (Tn _ hq)⟩
   rcases TU.mp hq with hq | hq
   ·exact e2 q hq
   ·rw [Tt.mp hq]
    exact ⟨l.1,fun _ z=>by have:=h b (by simp);omega⟩
theorem Ch.push {S st:List Pl} {p:Pl} (C:Ch w S st) (hne:S≠[]) (hp:∀ q∈S,w.f q < w.f p):Ch w (S ++ [p]) (aI st p):=by
 obtain ⟨s0,hs0⟩:=V2 S hne
 obtain ⟨b,hb,_⟩:=C.top s0 hs0
 obtain ⟨r,rfl⟩:∃ r,st=b :: r:=by
  cases st with
  | nil=>cases hb
  | cons x r=>exact ⟨r,by rw [Option.some.inj hb]⟩
 obtain ⟨c,r',P⟩:=CI hp (b :: r) b r rfl C.E2 C.pB (.inl fun q hq=>by
  obtain ⟨t,e,h⟩:=C.top q hq
  rw [← Option.some.inj e] at h
  exact h)
 have cS:c∈S:=P.pB c (by simp)
 have hcp:w.f c < w.f p:=hp c cS
 have NY:uT w (S ++ [p]) c p:=fun q hq=>by
  rcases TU.mp hq with hq | hq
  ·by_cases k:w.f q≤w.f c
   ·refine ⟨?_,fun _ z=>by omega⟩
    cases r' with
    | nil=>
      obtain ⟨t,e,h⟩:=C.bot q hq
      rw [← P.lst] at e
      have e:c=t:=by simpa using e
      subst e
      have:=C.inj q hq c cS (by omega)
      subst this
      rw [gf]
      exact UG _
    | cons a r''=>
      obtain ⟨e1,e2,e3⟩:=P.E2
      exact CG e1 hcp k (e2 q hq).1 P.bU.1
   ·rcases P.Pa with f | ⟨d,d1,d2,d3⟩
    ·exact absurd (f q hq) k
    ·have:=CH d1 hcp (by omega) (d2 q hq) d3
     exact ⟨by omega,fun z=>by omega⟩
  ·rw [Tt.mp hq,pU]
   exact ⟨UG _,fun _ z=>by omega⟩
 refine ⟨fun q hq=>?_,?_,fun q hq=>⟨p,rfl,?_⟩,fun q hq=>?_,fun q hq r hr e=>?_⟩
 ·unfold aI at hq
  rw [P.eq] at hq
  rcases Tp.mp hq with rfl | hq
  ·simp
  ·exact TR _ (P.pB q hq)
 ·unfold aI
  rw [P.eq]
  exact ⟨hcp,NY,qj _ P.E2 P.bU fun q hq=>hp q (P.pB q hq)⟩
 ·rcases TU.mp hq with hq | hq
  ·have:=hp q hq;omega
  ·rw [Tt.mp hq];exact UG _
 ·unfold aI
  rw [P.eq,List.getLast?_cons_cons,P.lst]
  rcases TU.mp hq with hq | hq
  ·exact C.bot q hq
  ·rw [Tt.mp hq]
   obtain ⟨t,e,h⟩:=C.bot s0 hs0
   have:=hp s0 hs0
   exact ⟨t,e,by omega⟩
 ·rcases TU.mp hq with hq | hq <;> rcases TU.mp hr with hr | hr
  ·exact C.inj q hq r hr e
  ·rw [Tt.mp hr] at e;have:=hp q hq;omega
  ·rw [Tt.mp hq] at e;have:=hp r hr;omega
  ·rw [Tt.mp hq,Tt.mp hr]
theorem Ch.one (p:Pl):Ch w [p] (aI [] p):=by
 refine ⟨fun q hq=>hq,trivial,fun q hq=>⟨p,rfl,?_⟩,fun q hq=>⟨p,rfl,?_⟩,fun q hq r hr _=>?_⟩
 ·rw [Tt.mp hq];exact UG _
 ·rw [Tt.mp hq];exact UG _
 ·rw [Tt.mp hq,Tt.mp hr]
theorem Ch.all:∀ (line S st:List Pl),S≠[]→Ch w S st→(S ++ line).Pairwise (fun p q=>w.f p < w.f q)→Ch w (S ++ line) (line.foldl aI st)
 | [],S,st,_,C,_=>by rw [UR];exact C
 | p :: line,S,st,hne,C,hs=>by
   have e:S ++ p :: line=(S ++ [p]) ++ line:=by simp
   rw [e] at hs ⊢
   have hp:∀ q∈S,w.f q < w.f p:=fun q hq=>by
    have:=(Vq.mp (Vq.mp hs).1).2.2 q hq p (by simp)
    exact this
   rw [WU]
   exact Ch.all line (S ++ [p]) (aI st p) (by simp) (C.push hne hp) hs
theorem jO {line:List Pl} (hne:line≠[]) (hs:line.Pairwise (fun p q=>w.f p < w.f q)):Ch w line (line.foldl aI []):=by
 cases line with
 | nil=>exact absurd rfl hne
 | cons p line=>exact Ch.all line [p] (aI [] p) (by simp) (Ch.one p) hs
def uU (st:List Pl) (a b:Pl):Prop:= ∃ i:Nat,st[i+1]?=some a∧st[i]?=some b
theorem uV {S:List Pl}:∀ {st:List Pl} {a b:Pl},kO w S st→uU st a b→w.f a < w.f b∧uT w S a b
 | [],a,b,_,⟨i,h,_⟩=>by simp at h
 | [_],a,b,_,⟨i,h,_⟩=>by simp at h
 | y :: x :: r,a,b,e,⟨i,h1,h2⟩=>by
   obtain ⟨e1,e2,e3⟩:=e
   cases i with
   | zero=>
     have z1:x=a:=by simpa using h1
     have z2:y=b:=by simpa using h2
     subst z1 z2
     exact ⟨e1,e2⟩
   | succ i=>exact uV e3 ⟨i,by simpa using h1,by simpa using h2⟩
theorem tN {S:List Pl}:∀ {st:List Pl} {t a:Pl},kO w S st→st.head?=some t→w.f a < w.f t→(∃ z,st.getLast?=some z∧w.f z≤w.f a)→∃ c d,uU st c d∧w.f c≤w.f a∧w.f a < w.f d
 | [],t,a,_,h,_,_=>by cases h
 | [y],t,a,_,h,h1,⟨z,hz,h2⟩=>by
   have z1:y=t:=by simpa using h
   have z2:y=z:=by simpa using hz
   subst z1 z2
   omega
 | y :: x :: r,t,a,e,h,h1,hz=>by
   have z1:y=t:=by simpa using h
   subst z1
   obtain ⟨e1,e2,e3⟩:=e
   by_cases k:w.f x≤w.f a
   ·exact ⟨x,y,⟨0,rfl,rfl⟩,k,h1⟩
   ·obtain ⟨c,d,⟨i,g1,g2⟩,g3,g4⟩:=tN (t:=x) (a:=a) e3 rfl (by omega) (by
     obtain ⟨z,hz,h2⟩:=hz
     exact ⟨z,by simpa using hz,h2⟩)
    exact ⟨c,d,⟨i+1,by simpa using g1,by simpa using g2⟩,g3,g4⟩
theorem AY {a b c d:Pl} (h1:w.f c < w.f a) (h2:w.f a < w.f d) (h3:w.f a < w.f b) (t1:0≤tw a b c) (t2:0≤tw a b d):tw c d a≤0:=by
 have key:=gi w.al w.be (c.x - a.x) (c.y - a.y) (b.x - a.x) (b.y - a.y) (d.x - a.x) (d.y - a.y)
 unfold Way.f at h1 h2 h3
 have e1:(c.x - a.x)*(b.y - a.y) - (c.y - a.y)*(b.x - a.x)= -tw a b c:=by unfold tw;grind
 have e2:tw a b d=(b.x - a.x)*(d.y - a.y) - (b.y - a.y)*(d.x - a.x):=by unfold tw;grind
 have e3:tw c d a=(c.x - a.x)*(d.y - a.y) - (c.y - a.y)*(d.x - a.x):=by unfold tw;grind
 rw [e1,← e2,← e3] at key
 have fV:0 < w.al*(b.x - a.x)+w.be*(b.y - a.y):=by rw [Uj,Uj];omega
 have fC:w.al*(c.x - a.x)+w.be*(c.y - a.y) < 0:=by rw [Uj,Uj];omega
 have fD:0 < w.al*(d.x - a.x)+w.be*(d.y - a.y):=by rw [Uj,Uj];omega
 have m1:(w.al*(c.x - a.x)+w.be*(c.y - a.y))*tw a b d≤0:=TY (by omega) t2
 have m2:(w.al*(d.x - a.x)+w.be*(d.y - a.y))* -tw a b c≤0:=TQ (by omega) (by omega)
 apply Tj
 intro z
 have:0 < (w.al*(b.x - a.x)+w.be*(b.y - a.y))*tw c d a:=T8 fV (by omega)
 omega
theorem gm {S st:List Pl} (C:Ch w S st) {a b:Pl}:uU st a b↔a∈S∧b∈S∧w.f a < w.f b∧uT w S a b:=by
 constructor
 ·intro h
  obtain ⟨h1,h2⟩:=uV C.E2 h
  obtain ⟨i,g1,g2⟩:=h
  exact ⟨C.pB a (TM g1),C.pB b (TM g2),h1,h2⟩
 ·rintro ⟨ha,hb,hab,he⟩
  obtain ⟨t,ht,So⟩:=C.top b hb
  obtain ⟨c,d,hcd,h1,h2⟩:=tN C.E2 ht (show w.f a < w.f t by omega) (C.bot a ha)
  obtain ⟨e1,e2⟩:=uV C.E2 hcd
  have hc:c∈S:=by obtain ⟨i,g1,g2⟩:=hcd;exact C.pB c (TM g1)
  have hd:d∈S:=by obtain ⟨i,g1,g2⟩:=hcd;exact C.pB d (TM g2)
  have ea:c=a:=by
   apply Tj
   intro z
   have hlt:w.f c < w.f a:=by
    rcases VX h1 with y | y
    ·exact y
    ·exact absurd (C.inj c hc a ha y) z
   have t1:=AY hlt h2 hab (he c hc).1 (he d hd).1
   have t2:=(e2 a ha).1
   exact (e2 a ha).2 (by omega) ⟨hlt,h2⟩
  subst ea
  have t1:=(he d hd).1
  have t2:=(e2 b hb).1
  have t3:tw c d b= -tw c b d:=by rw [jD]
  have t0:tw c b d=0:=by omega
  have ed:d=b:=by
   rcases U3 (w.f d) (w.f b) with y | y | y
   ·exact absurd ⟨h2,y⟩ ((he d hd).2 t0)
   ·exact C.inj d hd b hb y
   ·exact absurd ⟨hab,y⟩ ((e2 b hb).2 (by omega))
  subst ed
  exact hcd
def ak:Way:=⟨2 ^ 142,1⟩
def oR:Way:=⟨-2 ^ 142, -1⟩
theorem jP {p q:Pl} (hp:p.y.natAbs < 2 ^ 140) (hq:q.y.natAbs < 2 ^ 140):aG p q↔ak.f p < ak.f q:=by
 unfold aG Way.f ak
 dsimp only
 have e:(2:Int) ^ 142=5575186299632655785383929568162090376495104:=by decide
 have e2:(2:Nat) ^ 140=1393796574908163946345982392040522594123776:=by decide
 rw [e2] at hp hq
 rw [e]
 omega
theorem fT (p:Pl):oR.f p= -ak.f p:=by
 unfold Way.f oR ak
 dsimp only
 have e:(2:Int) ^ 142=5575186299632655785383929568162090376495104:=by decide
 rw [e]
 omega
end
end L3
namespace L3
open PySem PySem.Spec PyProof.Rows L2
theorem AZ (b:Pl) (r:List Pl):rC ((b :: r).reverse.map Pl.d) (-1)=some b.d:=by
 rw [UE,T5]
 exact v7 _ _
theorem A0 (b a:Pl) (r:List Pl):rC ((b :: a :: r).reverse.map Pl.d) (-2)=some a.d:=by
 have hl:((b :: a :: r).reverse.map Pl.d).length=r.length+2:=by simp
 have e:Bq (r.length+2) (-2)=some r.length:=by
  unfold Bq
  rw [if_neg (by decide),if_pos (by omega)]
  congr 1
  omega
 unfold rC
 rw [hl,e]
 show ((b :: a :: r).reverse.map Pl.d)[r.length]?=some a.d
 rw [UE,UE,List.append_assoc,T5,U6 (by simp)]
 simp
theorem wI:∀ (st:List Pl) (p:Pl),(iO st p).length≤st.length
 | [],_=>Tz _
 | [_],_=>Tz _
 | b :: a :: r,p=>by
   show (if tw a b p < 0 then iO (a :: r) p else b :: a :: r).length≤_
   have:=wI (a :: r) p
   split
   ·simp only [Ug] at this ⊢;omega
   ·exact Tz _
theorem wJ:∀ (st:List Pl) (p:Pl),∀ q∈iO st p,q∈st
 | [],_,_,h=>h
 | [_],_,_,h=>h
 | b :: a :: r,p,q,h=>by
   have h:q∈(if tw a b p < 0 then iO (a :: r) p else b :: a :: r):=h
   by_cases k:tw a b p < 0
   ·rw [if_pos k] at h
    exact Tn _ (wJ (a :: r) p q h)
   ·rw [if_neg k] at h
    exact h
theorem CJ {a b p:Pl} {r:List Pl} (h:tw a b p < 0):iO (b :: a :: r) p=iO (a :: r) p:=by
 show (if tw a b p < 0 then iO (a :: r) p else b :: a :: r)=_
 rw [if_pos h]
theorem CK {a b p:Pl} {r:List Pl} (h:¬ tw a b p < 0):iO (b :: a :: r) p=b :: a :: r:=by
 show (if tw a b p < 0 then iO (a :: r) p else b :: a :: r)=_
 rw [if_neg h]
theorem eF (ps:List Pl):(ps.foldl aI []).length≤ps.length:=by
 have key:∀ (ps st:List Pl),(ps.foldl aI st).length≤st.length+ps.length:=by
  intro ps
  induction ps with
  | nil=>intro st;simp
  | cons p ps ih=>
    intro st
    have h1:=ih (aI st p)
    have h2:(aI st p).length≤st.length+1:=by
     show (iO st p).length+1≤_
     have:=wI st p
     omega
    simp only [WU,Ug]
    omega
 simpa using key ps []
theorem ni (ps:List Pl):∀ q∈ps.foldl aI [],q∈ps:=by
 have key:∀ (ps st:List Pl),∀ q∈ps.foldl aI st,q∈st∨q∈ps:=by
  intro ps
  induction ps with
  | nil=>intro st q h;exact .inl h
  | cons p ps ih=>
    intro st q h
    rcases ih (aI st p) q h with h | h
    ·rcases Tp.mp h with h | h
     ·exact .inr (by rw [h];exact TN ..)
     ·exact .inl (wJ st p q h)
    ·exact .inr (Tn _ h)
 intro q h
 rcases key ps [] q h with h | h
 ·cases h
 ·exact h
theorem yq {ps:List Pl} {i:Nat} {p:Pl} (h:ps[i]?=some p):(ps.take (i+1)).foldl aI []=aI ((ps.take i).foldl aI []) p:=by
 rw [VV,h,List.foldl_append]
 rfl
theorem Le.put {M M':Mp} {p:Addr} {o:MO} (h:Le M M'):Le (av M p o) (av M' p o):=fun c u e=>by
 by_cases hc:c=p
 ·subst hc
  rw [ah] at e ⊢;exact e
 ·rw [aZ hc] at e ⊢
  exact h c u e
theorem Le.free {M M':Mp} {p:Addr} (h:Le M M') (e:M' p=none):M p=none:=by
 cases k:M p with
 | none=>rfl
 | some o=>rw [h p o k] at e;cases e
theorem wK (ps:List Pl):cutD (ps.map Pl.d) none (some (-1))=ps.dropLast.map Pl.d:=by
 unfold cutD
 have e:HT.n8 (ps.map Pl.d).length (ps.map Pl.d).length (some (-1))=ps.length - 1:=by
  unfold HT.n8
  dsimp only
  rw [if_pos (by decide),To]
  omega
 have e0:HT.n8 (ps.map Pl.d).length 0 none=0:=rfl
 rw [e,e0,Ww,WK,List.dropLast_eq_take,List.map_take]
def Flat (ps:List Pl):Prop:= ∀ p∈ps,∀ q∈ps,∀ r∈ps,tw p q r=0
def hz (qs:List Pl):Pl:=qs.headD ⟨0,0⟩
def lz (qs:List Pl):Pl:=qs.getLastD ⟨0,0⟩
theorem Ib {dx dy ux uy vx vy:Int} (h:dx≠0∨dy≠0) (h1:dx*uy - dy*ux=0) (h2:dx*vy - dy*vx=0):ux*vy - uy*vx=0:=by
 rcases h with h | h
 ·have:dx*(ux*vy - uy*vx)=0:=by grind
  exact (T6.mp this).resolve_left h
 ·have:dy*(ux*vy - uy*vx)=0:=by grind
  exact (T6.mp this).resolve_left h
theorem CL {a z p q r:Pl} (h:a≠z) (h1:tw a z p=0) (h2:tw a z q=0) (h3:tw a z r=0):tw p q r=0:=by
 have hd:z.x - a.x≠0∨z.y - a.y≠0:=by
  by_cases k:z.x - a.x=0
  ·right
   intro k2
   apply h
   cases a;cases z
   simp only at k k2
   rw [Pl.mk.injEq]
   omega
  ·exact .inl k
 unfold tw at h1 h2 h3 ⊢
 exact Ib hd (ux:=q.x - p.x) (uy:=q.y - p.y) (vx:=r.x - p.x) (vy:=r.y - p.y) (by grind) (by grind)
def br (qs:List Pl):List Pl:=if qs.length < 2 then qs else (qs.foldl aI []).reverse.dropLast ++ (qs.reverse.foldl aI []).reverse.dropLast
def aV (b:List Pl):List (List Pl):=if b.length < 2 then [] else List.zipWith (fun p q=>[p,q]) b (b.drop 1 ++ b.take 1)
theorem l7 {α:Type} (g:α→D) (xs:List α) (n:Nat) (h:n≤xs.length):cutD (xs.map g) none (some (n:Int))=(xs.take n).map g:=by
 unfold cutD
 rw [HT.zm,HT.vZ]
 rw [To,WT h,List.map_take,Ww,WK]
theorem tO:∀ (as bs:List Pl),(List.zipWith (fun p q=>[p,q]) as bs).map (fun ps:List Pl=>D.tup (ps.map Pl.d))=List.zipWith pairD (as.map Pl.d) (bs.map Pl.d)
 | [],_=>by simp
 | _ :: _,[]=>by simp
 | a :: as,b :: bs=>by
   show D.tup [a.d,b.d] :: (List.zipWith (fun p q=>[p,q]) as bs).map (fun ps:List Pl=>D.tup (ps.map Pl.d))=pairD a.d b.d :: List.zipWith pairD (as.map Pl.d) (bs.map Pl.d)
   rw [tO as bs]
   rfl
end L3
namespace L3
open PySem PySem.Spec PyProof.Rows L2
section
variable {P:Program} {w:World} {A:Around} {E:Value→Shared→Prop} {s:Shared}
end
section
variable {X:Cx} {pos:Pos}
end
end L3
namespace L3
open PySem PySem.Spec PyProof.Rows L2
section
open PySem.SeqAt
open PySem.AutoSeq1 (wpAny_loadPart')
open PySem.MeetsSeq PySem.MeetsSeq2 PySem.MeetsSeq3
end
section
variable {X:Cx} {pos:Pos}
def NZ (to te:cK):cK:=fun ρ M Q=>to ρ M fun d M1=>(∃ l xs,d= .ref l∧M1 l=some (.lst xs))∧te ρ M1 fun e M2=> ∃ (l b:Addr) (xs zs:List D),d= .ref l∧e= .ref b∧M2 l=some (.lst xs)∧M2 b=some (.lst zs)∧xs.length+zs.length≤sizeLine∧Q .bz (av M2 l (.lst (xs ++ zs)))
theorem K0 {o e:Expr} {to te:cK} {apos pos:Pos} (ho:cG X o to) (he:cG X e te) (Kp:PE X (.Call (.Attribute o "extend" apos) [e] [] pos) (MK X.K "list" zy (dn X.K to) (BE (dn X.K te) G4))):cG X (.Call (.Attribute o "extend" apos) [e] [] pos) (NZ to te):=
 up Kp fun σ H ρ M Q r q=>dF r q fun v H' d M' f dv r' ⟨⟨l,xs,e1,hM⟩,q⟩=>by
  subst e1
  obtain rfl:=aH.mp dv
  obtain ⟨ys,ha,hy⟩:=r'.mem.lst hM
  refine ⟨.inl ⟨rfl,_,iE.of ha⟩,dF r' q fun u H2 d2 M2 f2 du r2 ⟨l',b,xs',zs,e2,e3,DU,hB,hlt,q2⟩=>?_⟩
  injection e2 with e2
  subst e2 e3
  obtain rfl:=aH.mp du
  obtain ⟨ws,hb,hw⟩:=r2.mem.lst DU
  obtain ⟨vs,hc,hv⟩:=r2.mem.lst hB
  exact ⟨l,b,ws,vs,rfl,rfl,hb,hc,by rw [← hw.length,← hv.length];exact hlt,.bz,_,(f.trans f2).trans (Fr.write (K:=X.K) DU),c8.mpr rfl,r2.mem.jy hb (hw.append hv),q2⟩
end
end L3
namespace L3
open PySem PySem.Spec PyProof.Rows L2
section
variable {P:Program} {w:World} {A:Around} {E:Value→Shared→Prop} {s:Shared}
end
section
variable {X:Cx} {pos:Pos}
end
section
open PySem.SeqAt
open PySem.AutoSeq1 (wpAny_loadPart')
open PySem.MeetsSeq PySem.MeetsSeq2 PySem.MeetsSeq3
end
end L3
namespace L3
open PySem PySem.Spec PyProof.Rows L2
section
variable {P:Program} {w:World} {A:Around} {E:Value→Shared→Prop} {s:Shared}
end
end L3
namespace L3
open PySem PySem.Spec PyProof.Rows L2
section
variable {X:Cx} {pos:Pos}
structure Pb (X:Cx) (r:D→Mp→DK→Prop):Prop where
 run:∀ (pins:List (Addr ×Obj)) (s:Shared) (σ:St) (H:Hp) (M:Mp) (x:V) (d:D) (u:Value) (Q:DK),Inv X pins σ H s→bC X.K H M→RelV x u→Dat X.K H d x→r d M Q→wpAny (model X.prog X.w) X.A (call (.builtin "min") [u] [(Str.ofString "default",.none)]) (EP X pins σ (Post X.K M H Q)) X.xe s
end
end L3
namespace L3
open PySem PySem.Spec PyProof.Rows L2
section
variable {P:Program} {w:World} {A:Around} {E:Value→Shared→Prop} {s:Shared}
variable {κ:KeyKind} {kd:SortKind}
end
section
variable {X:Cx}
end
end L3
namespace L3
def Nx:List Pl→Pl→Pl→Prop
 | x :: y :: r,a,b=>(x=a∧y=b)∨Nx (y :: r) a b
 | _,_,_=>False
theorem yr (h:Pl) (r:List Pl) (a b:Pl):∀ X:List Pl,Nx (X ++ h :: r) a b↔Nx (X ++ [h]) a b∨Nx (h :: r) a b
 | []=>by
   show Nx (h :: r) a b↔Nx [h] a b∨Nx (h :: r) a b
   have:¬ Nx [h] a b:=fun z=>z
   exact ⟨.inr,fun z=>z.elim (fun y=>absurd y this) id⟩
 | [x]=>by
   show (x=a∧h=b)∨Nx (h :: r) a b↔((x=a∧h=b)∨Nx [h] a b)∨Nx (h :: r) a b
   have:¬ Nx [h] a b:=fun z=>z
   constructor
   ·rintro (z | z)
    ·exact .inl (.inl z)
    ·exact .inr z
   ·rintro ((z | z) | z)
    ·exact .inl z
    ·exact absurd z this
    ·exact .inr z
 | x :: y :: X=>by
   have ih:=yr h r a b (y :: X)
   show (x=a∧y=b)∨Nx (y :: X ++ h :: r) a b↔((x=a∧y=b)∨Nx (y :: X ++ [h]) a b)∨Nx (h :: r) a b
   rw [ih,or_assoc]
theorem kh:∀ (st:List Pl) (a b:Pl),uU st a b↔Nx st.reverse a b
 | [],a,b=>⟨fun ⟨i,h,_⟩=>by simp at h,fun z=>z.elim⟩
 | [y],a,b=>⟨fun ⟨i,h,_⟩=>by simp at h,fun z=>z.elim⟩
 | y :: x :: r,a,b=>by
   have ih:=kh (x :: r) a b
   have e:(y :: x :: r).reverse=r.reverse ++ x :: [y]:=by simp
   have e2:(x :: r).reverse=r.reverse ++ [x]:=by simp
   rw [e,yr,← e2,← ih]
   have:Nx [x,y] a b↔(x=a∧y=b):=⟨fun z=>z.elim id (fun y=>y.elim),.inl⟩
   rw [this]
   constructor
   ·rintro ⟨i,h1,h2⟩
    cases i with
    | zero=>exact .inr ⟨by simpa using h1,by simpa using h2⟩
    | succ i=>exact .inl ⟨i,by simpa using h1,by simpa using h2⟩
   ·rintro (⟨i,h1,h2⟩ | ⟨h1,h2⟩)
    ·exact ⟨i+1,by simpa using h1,by simpa using h2⟩
    ·exact ⟨0,by simp [h1],by simp [h2]⟩
theorem wM (a b:Pl):∀ (x:Pl) (r:List Pl) (z:Pl),[a,b]∈List.zipWith (fun p q=>[p,q]) (x :: r) (r ++ [z])↔Nx (x :: r ++ [z]) a b
 | x,[],z=>by
   show [a,b]∈[[x,z]]↔(x=a∧z=b)∨Nx [z] a b
   have:¬ Nx [z] a b:=fun z=>z
   simp [this]
   exact ⟨fun ⟨h1,h2⟩=>⟨h1.symm,h2.symm⟩,fun ⟨h1,h2⟩=>⟨h1.symm,h2.symm⟩⟩
 | x,y :: r,z=>by
   have ih:=wM a b y r z
   show [a,b]∈[x,y] :: List.zipWith (fun p q=>[p,q]) (y :: r) (r ++ [z])↔(x=a∧y=b)∨Nx (y :: r ++ [z]) a b
   rw [Tp,ih]
   simp
   constructor
   ·rintro (⟨h1,h2⟩ | h)
    ·exact .inl ⟨h1.symm,h2.symm⟩
    ·exact .inr h
   ·rintro (⟨h1,h2⟩ | h)
    ·exact .inl ⟨h1.symm,h2.symm⟩
    ·exact .inr h
theorem tP:∀ (as bs:List Pl),∀ t∈List.zipWith (fun p q=>[p,q]) as bs,∃ a b,t= [a,b]
 | [],_,t,h=>by simp at h
 | _ :: _,[],t,h=>by simp at h
 | a :: as,b :: bs,t,h=>by
   rcases Tp.mp h with h | h
   ·exact ⟨a,b,h⟩
   ·exact tP as bs t h
theorem Ch.ends {w:Way} {S st:List Pl} (C:Ch w S st) {lo hi:Pl} (hl:lo∈S) (hh:hi∈S) (h1:∀ q∈S,w.f lo≤w.f q) (h2:∀ q∈S,w.f q≤w.f hi):st.head?=some hi∧st.getLast?=some lo:=by
 obtain ⟨t,e1,e2⟩:=C.top hi hh
 obtain ⟨u,e3,e4⟩:=C.bot lo hl
 have mt:t∈S:=C.pB t (Vm e1)
 have mu:u∈S:=C.pB u (UP e3)
 have a1:=h2 t mt
 have a2:=h1 u mu
 rw [e1,e3,C.inj t mt hi hh (by omega),C.inj u mu lo hl (by omega)]
 exact ⟨rfl,rfl⟩
theorem fO {l:List Pl} {x:Pl} (h:l.getLast?=some x):l=l.dropLast ++ [x]:=by
 have hne:l≠[]:=fun z=>by rw [z] at h;simp at h
 rw [UC hne] at h
 have:=VR hne
 rw [Option.some.inj h] at this
 exact this.symm
theorem CM {T H:List Pl} {lo hi a b:Pl} (t1:T.head?=some lo) (t2:T.getLast?=some hi) (h1:H.head?=some hi) (h2:H.getLast?=some lo) (hne:lo≠hi) :
 [a,b]∈List.zipWith (fun p q=>[p,q]) (T.dropLast ++ H.dropLast) ((T.dropLast ++ H.dropLast).drop 1 ++ (T.dropLast ++ H.dropLast).take 1)↔Nx T a b∨Nx H a b:=by
 have eT:=fO t2
 have eH:=fO h2
 obtain ⟨X,hX⟩:∃ X,T.dropLast=lo :: X:=by
  cases e:T.dropLast with
  | nil=>
    rw [e] at eT
    rw [eT] at t1
    exact absurd (Option.some.inj t1).symm hne
  | cons x X=>
    rw [e] at eT
    rw [eT] at t1
    exact ⟨X,by rw [Option.some.inj t1]⟩
 obtain ⟨Y,hY⟩:∃ Y,H=hi :: Y:=by
  cases e:H with
  | nil=>rw [e] at h1;cases h1
  | cons x X=>rw [e] at h1;exact ⟨X,by rw [Option.some.inj h1]⟩
 rw [hX]
 show [a,b]∈List.zipWith (fun p q=>[p,q]) (lo :: (X ++ H.dropLast)) ((X ++ H.dropLast) ++ [lo])↔_
 rw [wM]
 have e1:lo :: (X ++ H.dropLast) ++ [lo]=(lo :: X) ++ (H.dropLast ++ [lo]):=by simp
 rw [e1,← eH]
 conv=>lhs;rw [hY,yr,← hY]
 rw [← hX,← eT]
def N1 (a b:Pl) (ps:List Pl):Prop:= ∀ p∈ps,0≤tw a b p∧(tw a b p=0→¬ (aG (lo a b) p∧aG p (hi a b)))
theorem fm:∀ {qs:List Pl},qs.Pairwise (fun p q=>aG p q)→∀ {x y:Pl},qs.head?=some x→qs.getLast?=some y→∀ q∈qs,(q=x∨aG x q)∧(q=y∨aG q y)
 | [],_,_,_,h,_,_,_=>by cases h
 | [z],_,x,y,h1,h2,q,hq=>by
   have e1:z=x:=by simpa using h1
   have e2:z=y:=by simpa using h2
   rw [Tt.mp hq]
   exact ⟨.inl e1,.inl e2⟩
 | z :: u :: r,hs,x,y,h1,h2,q,hq=>by
   have e1:z=x:=by simpa using h1
   have h2':(u :: r).getLast?=some y:=by simpa using h2
   have ih:=fm (TZ.mp hs).2 (x:=u) rfl h2'
   have hz:=(TZ.mp hs).1
   rcases Tp.mp hq with e | hq
   ·subst e
    refine ⟨.inl e1,.inr ?_⟩
    have hy:y∈u :: r:=UP h2'
    exact hz y hy
   ·exact ⟨.inr (e1▸hz q hq),(ih q hq).2⟩
theorem qk {st:List Pl} {x y:Pl} (h1:st.head?=some x) (h2:st.getLast?=some y) (h:x≠y):2≤st.length:=by
 match st,h1,h2 with
 | [],h1,_=>cases h1
 | [z],h1,h2=>
   have e1:z=x:=by simpa using h1
   have e2:z=y:=by simpa using h2
   exact absurd (e1.symm.trans e2) h
 | _ :: _ :: _,_,_=>simp
theorem A1 {qs:List Pl} (hs:qs.Pairwise (fun p q=>aG p q)) (hok:∀ q∈qs,q.y.natAbs < 2 ^ 140) (h2:2≤qs.length) :
 2≤((qs.foldl aI []).reverse.dropLast ++ (qs.reverse.foldl aI []).reverse.dropLast).length∧∀ a b:Pl,[a,b]∈List.zipWith (fun p q=>[p,q]) ((qs.foldl aI []).reverse.dropLast ++ (qs.reverse.foldl aI []).reverse.dropLast) (((qs.foldl aI []).reverse.dropLast ++ (qs.reverse.foldl aI []).reverse.dropLast).drop 1 ++ ((qs.foldl aI []).reverse.dropLast ++ (qs.reverse.foldl aI []).reverse.dropLast).take 1)↔a∈qs∧b∈qs∧a≠b∧N1 a b qs:=by
 have hne:qs≠[]:=fun z=>by rw [z] at h2;simp at h2
 obtain ⟨x,hx⟩:∃ x,qs.head?=some x:=by
  cases e:qs with
  | nil=>exact absurd e hne
  | cons x r=>exact ⟨x,rfl⟩
 obtain ⟨y,hy⟩:∃ y,qs.getLast?=some y:=⟨_,UC hne⟩
 have mx:x∈qs:=Vm hx
 have my:y∈qs:=UP hy
 have hend:=fm hs hx hy
 have be:∀ p∈qs,∀ q∈qs,(aG p q↔ak.f p < ak.f q):=fun p hp q hq=>jP (hok p hp) (hok q hq)
 have bw:∀ p∈qs,∀ q∈qs,(aG p q↔oR.f q < oR.f p):=fun p hp q hq=>by
  rw [be p hp q hq,fT,fT]
  omega
 have xy:x≠y:=by
  intro e
  cases e1:qs with
  | nil=>exact absurd e1 hne
  | cons u r=>
    cases r with
    | nil=>rw [e1] at h2;simp at h2
    | cons v r=>
      rw [e1] at hx hy hs
      have eu:u=x:=by simpa using hx
      have N3:y∈v :: r:=UP (by simpa using hy)
      have:=(TZ.mp hs).1 y N3
      rw [eu,e] at this
      exact bf _ this
 have C1:Ch ak qs (qs.foldl aI []):=jO hne (hs.imp_of_mem fun hp hq h=>(be _ hp _ hq).mp h)
 have C2:Ch oR qs.reverse (qs.reverse.foldl aI []):=jO (by simpa using hne) (Wt.mpr (hs.imp_of_mem fun hp hq h=>(bw _ hp _ hq).mp h))
 have key:∀ p∈qs,∀ q∈qs,(p=q∨aG p q)→ak.f p≤ak.f q∧oR.f q≤oR.f p:=fun p hp q hq k=>by
  rcases k with rfl | k
  ·exact ⟨UG _,UG _⟩
  ·have a1:=(be p hp q hq).mp k
   have a2:=(bw p hp q hq).mp k
   omega
 obtain ⟨p1,p2⟩:=C1.ends mx my (fun q hq=>(key x mx q hq ((hend q hq).1.imp Eq.symm id)).1) (fun q hq=>(key q hq y my (hend q hq).2).1)
 obtain ⟨r1,r2⟩:=C2.ends (lo:=y) (hi:=x) (by simpa using my) (by simpa using mx) (fun q hq=>by have hq:=Us.mp hq;exact (key q hq y my (hend q hq).2).2) (fun q hq=>by have hq:=Us.mp hq;exact (key x mx q hq ((hend q hq).1.imp Eq.symm id)).2)
 refine ⟨?_,fun a b=>?_⟩
 ·have l1:=qk p1 p2 (Ne.symm xy)
  have l2:=qk r1 r2 xy
  rw [TL,UB,UB,Ua,Ua]
  omega
 rw [CM (lo:=x) (hi:=y) (by rw [Vh];exact p2) (by rw [UX];exact p1) (by rw [Vh];exact r2) (by rw [UX];exact r1) xy,← kh,← kh,gm C1,gm C2]
 constructor
 ·rintro (⟨ha,hb,hab,he⟩ | ⟨ha,hb,hab,he⟩)
  ·have yt:=(be a ha b hb).mpr hab
   refine ⟨ha,hb,jE yt,fun p hp=>⟨(he p hp).1,fun z=>?_⟩⟩
   unfold lo hi
   rw [if_neg (ay yt),if_pos yt,be a ha p hp,be p hp b hb]
   exact (he p hp).2 z
  ·have ha:=Us.mp ha
   have hb:=Us.mp hb
   have yt:=(bw b hb a ha).mpr hab
   refine ⟨ha,hb,(jE yt).symm,fun p hp=>?_⟩
   have Je:=he p (Us.mpr hp)
   refine ⟨Je.1,fun z=>?_⟩
   unfold lo hi
   rw [if_pos yt,if_neg (ay yt),bw b hb p hp,bw p hp a ha]
   exact fun k=>Je.2 z ⟨k.2,k.1⟩
 ·rintro ⟨ha,hb,hab,he⟩
  rcases bD a b with k | k | k
  ·refine .inl ⟨ha,hb,(be a ha b hb).mp k,fun p hp=>⟨(he p hp).1,fun z=>?_⟩⟩
   have:=(he p hp).2 z
   unfold lo hi at this
   rw [if_neg (ay k),if_pos k,be a ha p hp,be p hp b hb] at this
   exact this
  ·exact absurd k hab
  ·refine .inr ⟨Us.mpr ha,Us.mpr hb,(bw b hb a ha).mp k,fun p hp=>?_⟩
   have hp:=Us.mp hp
   refine ⟨(he p hp).1,fun z=>?_⟩
   have:=(he p hp).2 z
   unfold lo hi at this
   rw [if_pos k,if_neg (ay k),bw b hb p hp,bw p hp a ha] at this
   exact fun y=>this ⟨y.2,y.1⟩
end L3
namespace L3
theorem uW:∀ (l:List Pl),l≠[]→∃ m∈l,∀ z∈l,¬ aG z m
 | [],e=>absurd rfl e
 | [p],_=>⟨p,by simp,fun z hz=>by rw [Tt.mp hz];exact bf _⟩
 | p :: q :: l,_=>by
   obtain ⟨m,hm,k⟩:=uW (q :: l) (by simp)
   by_cases c:aG p m
   ·exact ⟨p,by simp,fun z hz=>by
     rcases Tp.mp hz with rfl | hz
     ·exact bf _
     ·exact fun y=>k z hz (bx y c)⟩
   ·exact ⟨m,Tn _ hm,fun z hz=>by
     rcases Tp.mp hz with rfl | hz
     ·exact c
     ·exact k z hz⟩
theorem zO:∀ (l:List Pl),l≠[]→∃ m∈l,∀ z∈l,¬ aG m z
 | [],e=>absurd rfl e
 | [p],_=>⟨p,by simp,fun z hz=>by rw [Tt.mp hz];exact bf _⟩
 | p :: q :: l,_=>by
   obtain ⟨m,hm,k⟩:=zO (q :: l) (by simp)
   by_cases c:aG m p
   ·exact ⟨p,by simp,fun z hz=>by
     rcases Tp.mp hz with rfl | hz
     ·exact bf _
     ·exact fun y=>k z hz (bx c y)⟩
   ·exact ⟨m,Tn _ hm,fun z hz=>by
     rcases Tp.mp hz with rfl | hz
     ·exact c
     ·exact k z hz⟩
theorem gn {ps:List Pl} (h:ps.length < 2):Flat ps:=by
 match ps,h with
 | [],_=>exact fun p hp=>by cases hp
 | [x],_=>
   intro p hp q hq r hr
   rw [Tt.mp hp,Tt.mp hq,Tt.mp hr]
   exact gc x x
theorem A2 {qs:List Pl} (hs:qs.Pairwise (fun a b=> ¬ aG b a)) (nd:qs.Nodup):qs.Pairwise (fun p q=>aG p q):=by
 refine (hs.and nd).imp fun {a b} h=>?_
 rcases bD a b with k | k | k
 ·exact k
 ·exact absurd k h.2
 ·exact absurd k h.1
end L3
namespace L3
open PySem L2
def Tr (t:List Pl):Prop:= ∃ a b c:Pl,t= [a,b,c]∧a.Ok 140∧b.Ok 140∧c.Ok 140
def K1:List Pl→Prop
 | [a,b,c]=>(¬ aG b a∧¬ aG c a)∧0 < tw a b c
 | _=>False
def dh:List Pl→List (List Pl)
 | [a,b,c]=>[[a,b],[b,c],[c,a]]
 | _=>[]
def aK (ts:List (List Pl)):List (List Pl):=ts.flatMap dh
def Fs {α:Type} (ts:List α) (P:α→Prop):Option α→Prop
 | none=> ∀ t∈ts,¬ P t
 | some t=> ∃ i:Nat,ts[i]?=some t∧P t∧∀ (j:Nat) (u:α),j < i→ts[j]?=some u→¬ P u
def oT:Option (List Pl)→D
 | none=> .bz
 | some t=>tD t
def K2 (W:List Pl→Prop):Option (List Pl)→Prop
 | none=> ∀ w,¬ W w
 | some m=>W m∧∀ z,W z→bZ z m=false
def K3 (W:Pl→Prop):Option Pl→Prop
 | none=> ∀ w,¬ W w
 | some m=>W m∧∀ z,W z→¬ aG z m
theorem tQ {ts:List (List Pl)} {i:Nat} {t:List Pl} (h:ts[i]?=some t):aK (ts.take (i+1))=aK (ts.take i) ++ dh t:=by
 unfold aK
 rw [VV,h,VS]
 simp
theorem CN (t:List Pl):(dh t).length≤3:=by
 unfold dh
 split <;> simp
theorem jQ:∀ (ts:List (List Pl)),(aK ts).length≤3*ts.length
 | []=>by simp [aK]
 | t :: ts=>by
   have h1:=jQ ts
   have h2:=CN t
   show (dh t ++ aK ts).length≤_
   rw [TL,Ug]
   omega
theorem CO (t:List Pl):∀ w∈dh t,∃ a b,w= [a,b]∧a∈t∧b∈t:=by
 intro w hw
 unfold dh at hw
 split at hw
 ·rename_i a b c
  simp only [Tp,Ur,or_false] at hw
  rcases hw with rfl | rfl | rfl
  ·exact ⟨a,b,rfl,by simp,by simp⟩
  ·exact ⟨b,c,rfl,by simp,by simp⟩
  ·exact ⟨c,a,rfl,by simp,by simp⟩
 ·cases hw
theorem ql {ts:List (List Pl)}:∀ w∈aK ts,∃ a b,w= [a,b]∧∃ t∈ts,a∈t∧b∈t:=by
 intro w hw
 obtain ⟨t,ht,hw⟩:=UM.mp hw
 obtain ⟨a,b,e,h1,h2⟩:=CO t w hw
 exact ⟨a,b,e,t,ht,h1,h2⟩
theorem CP (s t:List Pl):dM (tD s) (tD t)=decide (s=t):=by
 unfold tD
 rw [iY]
 induction s generalizing t with
 | nil=>
   cases t with
   | nil=>rfl
   | cons q t=>simp [fB]
 | cons p s ih=>
   cases t with
   | nil=>simp [fB]
   | cons q t=>
     rw [Ud,Ud,iK,m7,ih,Uo]
     simp
theorem l8 (t:List Pl) (ts:List (List Pl)):inD (tD t) (ts.map tD)=decide (t∈ts):=by
 rw [Uo,decide_eq_true_iff]
 unfold inD
 rw [WQ]
 constructor
 ·rintro ⟨d,hd,e⟩
  obtain ⟨u,hu,rfl⟩:=TV.mp hd
  rw [CP,decide_eq_true_iff] at e
  rw [← e]
  exact hu
 ·intro h
  exact ⟨tD t,TV.mpr ⟨t,h,rfl⟩,by rw [CP];simp⟩
def QU (ws:List (List Pl)) (w:List Pl):Prop:=w∈ws∧1 < ws.count w
def N4 (ws bs:List (List Pl)) (w:List Pl):Prop:=(w∈ws∧w.reverse∉ws∧w∉bs)∨(w∈bs∧w∉ws)
def QV (ps:List Pl) (ts:List (List Pl)) (p:Pl):Prop:=p∈ps∧∀ t∈ts,p∉t
def oS (t:List Pl) (d:Pl):Prop:=match t with
 | [a,b,c]=>fM a b c d
 | _=>False
theorem iP (w:List Pl):plain 9 (tD w)=true:=Uz.mp (bg [w]) _ (by simp)
def QW (ts:List (List Pl)) (ps:List Pl):Option (List Pl ×Pl)→Prop
 | none=> ∀ t∈ts,∀ d∈ps,¬ oS t d
 | some (t,d)=>Fs ts (fun t=> ∃ d∈ps,oS t d) (some t)∧K3 (fun d=>d∈ps∧oS t d) (some d)
inductive Flt where
 | Gq (t:List Pl) | flat (t:List Pl) | CQ (w:List Pl) | bare (w:List Pl) | CS (p:Pl) | CT (t:List Pl) (d:Pl)
def fD:Option Flt→D
 | none=> .bz
 | some (.Gq t)=> .tup [.str (Str.ofString "alien"),tD t]
 | some (.flat t)=> .tup [.str (Str.ofString "flat"),tD t]
 | some (.CQ w)=> .tup [.str (Str.ofString "double"),tD w]
 | some (.bare w)=> .tup [.str (Str.ofString "bare"),tD w]
 | some (.CS p)=> .tup [.str (Str.ofString "lonely"),p.d]
 | some (.CT t d)=> .tup [.str (Str.ofString "spoilt"),tD t,d.d]
def N5 (ps:List Pl) (ts bs:List (List Pl)) (r:Option Flt):Prop:=
 ∃ (d b:Option (List Pl)) (l:Option Pl),K2 (QU (aK ts)) d∧(d=none→K2 (N4 (aK ts) bs) b)∧(d=none→b=none→K3 (QV ps ts) l)∧
   r=match d,b,l with
    | some w,_,_=>some (.CQ w)
    | none,some w,_=>some (.bare w)
    | none,none,some p=>some (.CS p)
    | none,none,none=>none
def E3 (ps:List Pl) (ts bs:List (List Pl)) (r:Option Flt):Prop:=
 ∃ (al fl:Option (List Pl)),Fs ts (fun t=> ∃ q∈t,q∉ps) al∧(al=none→Fs ts (fun t=> ¬ K1 t) fl)∧
   match al,fl with
   | some t,_=>r=some (.Gq t)
   | none,some t=>r=some (.flat t)
   | none,none=>(Flat ps→r=none)∧(¬ Flat ps→∃ (cf:Option Flt) (sp:Option (List Pl ×Pl)),N5 ps ts bs cf∧(cf=none→QW ts ps sp)∧r=match cf,sp with
     | some f,_=>some f
     | none,some (t,d)=>some (.CT t d)
     | none,none=>none)
def fE (ps t:List Pl):Prop:=dI t∧∀ q∈t,q∈ps
theorem fE.tr {ps t:List Pl} (h:fE ps t) (ho:∀ q∈ps,q.Ok 140):Tr t:=by
 obtain ⟨⟨u,v,w,rfl,_⟩,h2⟩:=h
 exact ⟨u,v,w,rfl,ho u (h2 u (by simp)),ho v (h2 v (by simp)),ho w (h2 w (by simp))⟩
end L3
namespace L3
def prs:List Pl→List (List Pl)
 | x :: y :: r=>[x,y] :: prs (y :: r)
 | _=>[]
theorem zP (h:Pl) (r:List Pl):∀ X:List Pl,prs (X ++ h :: r)=prs (X ++ [h]) ++ prs (h :: r)
 | []=>rfl
 | [x]=>rfl
 | x :: y :: X=>by
   have ih:=zP h r (y :: X)
   show [x,y] :: prs (y :: X ++ h :: r)= [x,y] :: prs (y :: X ++ [h]) ++ prs (h :: r)
   rw [ih]
   rfl
theorem zQ:∀ (x:Pl) (r:List Pl) (z:Pl),List.zipWith (fun p q=>[p,q]) (x :: r) (r ++ [z])=prs (x :: r ++ [z])
 | x,[],z=>rfl
 | x,y :: r,z=>by
   show [x,y] :: List.zipWith (fun p q=>[p,q]) (y :: r) (r ++ [z])= [x,y] :: prs (y :: r ++ [z])
   rw [zQ y r z]
theorem uX:∀ (l:List Pl) (w:List Pl),w∈prs l→∃ a b,w= [a,b]∧Nx l a b
 | [],_,h=>by cases h
 | [_],_,h=>by cases h
 | x :: y :: r,w,h=>by
   rcases Tp.mp h with h | h
   ·exact ⟨x,y,h,.inl ⟨rfl,rfl⟩⟩
   ·obtain ⟨a,b,e,k⟩:=uX (y :: r) w h
    exact ⟨a,b,e,.inr k⟩
theorem CU:∀ (l:List Pl) (a b:Pl),Nx l a b→[a,b]∈prs l
 | [],_,_,h=>h.elim
 | [_],_,_,h=>h.elim
 | x :: y :: r,a,b,h=>by
   rcases h with ⟨rfl,rfl⟩ | h
   ·exact TN ..
   ·exact Tn _ (CU (y :: r) a b h)
theorem A3 {T H:List Pl} {lo hi:Pl} (t1:T.head?=some lo) (t2:T.getLast?=some hi) (h1:H.head?=some hi) (h2:H.getLast?=some lo) (hne:lo≠hi) :
 List.zipWith (fun p q=>[p,q]) (T.dropLast ++ H.dropLast) ((T.dropLast ++ H.dropLast).drop 1 ++ (T.dropLast ++ H.dropLast).take 1)=prs T ++ prs H:=by
 have eT:=fO t2
 have eH:=fO h2
 obtain ⟨X,hX⟩:∃ X,T.dropLast=lo :: X:=by
  cases e:T.dropLast with
  | nil=>
    rw [e] at eT
    rw [eT] at t1
    exact absurd (Option.some.inj t1).symm hne
  | cons x X=>
    rw [e] at eT
    rw [eT] at t1
    exact ⟨X,by rw [Option.some.inj t1]⟩
 obtain ⟨Y,hY⟩:∃ Y,H=hi :: Y:=by
  cases e:H with
  | nil=>rw [e] at h1;cases h1
  | cons x X=>rw [e] at h1;exact ⟨X,by rw [Option.some.inj h1]⟩
 rw [hX]
 show List.zipWith (fun p q=>[p,q]) (lo :: (X ++ H.dropLast)) ((X ++ H.dropLast) ++ [lo])=_
 rw [zQ]
 have e1:lo :: (X ++ H.dropLast) ++ [lo]=(lo :: X) ++ (H.dropLast ++ [lo]):=by simp
 rw [e1,← eH]
 conv=>lhs;rw [hY,zP,← hY]
 rw [← hX,← eT]
theorem Gr {z:Pl}:∀ {l:List Pl},l.getLast?=some z→2≤l.length→∃ e,Nx l e z
 | [],_,h=>by simp at h
 | [_],_,h=>by simp at h
 | [x,y],e,_=>⟨x,.inl ⟨rfl,by simpa using e⟩⟩
 | x :: y :: u :: r,e,_=>by
   obtain ⟨e',k⟩:=Gr (l:=y :: u :: r) (by simpa using e) (by simp)
   exact ⟨e',.inr k⟩
theorem qm {w:Way} {S:List Pl}:∀ {st:List Pl},kO w S st→st.Pairwise (fun b a=>w.f a < w.f b)
 | [],_=> .nil
 | [_],_=>by simp
 | y :: x :: r,e=>by
   obtain ⟨e1,_,e3⟩:=e
   have ih:=qm e3
   refine TZ.mpr ⟨fun z hz=>?_,ih⟩
   rcases Tp.mp hz with rfl | hz
   ·exact e1
   ·have:=(TZ.mp ih).1 z hz
    omega
theorem Ch.nodup {w:Way} {S st:List Pl} (C:Ch w S st):st.Nodup:=(qm C.E2).imp fun h e=>by rw [e] at h;omega
theorem nj {l m:List Pl} (nd:l.Nodup) (sub:∀ x∈l,x∈m):l.length≤m.length:=by
 induction l generalizing m with
 | nil=>simp
 | cons a l ih=>
   obtain ⟨h1,h2⟩:=T4.mp nd
   have ma:=sub a (TN ..)
   have:=ih (m:=m.erase a) h2 fun x hx=>(Wy (show x≠a from fun e=>h1 (e▸hx))).mpr (sub x (Tn _ hx))
   rw [V8 ma] at this
   have:0 < m.length:=Wo ma
   rw [Ug]
   omega
theorem yu {w:Way} {x b e p:Pl} (h1:w.f x < w.f b) (h2:w.f x < w.f e) (h3:w.f x < w.f p) (h:0≤tw x b e) (s1:tw x b p < 0) (s2:tw e x p < 0):False:=by
 have key:=gi w.al w.be (b.x - x.x) (b.y - x.y) (e.x - x.x) (e.y - x.y) (p.x - x.x) (p.y - x.y)
 have s2':0 < (e.x - x.x)*(p.y - x.y) - (e.y - x.y)*(p.x - x.x):=by
  unfold tw at s2
  grind
 unfold Way.f at h1 h2 h3
 unfold tw at h s1
 have k1:0 < w.al*(b.x - x.x)+w.be*(b.y - x.y):=by grind
 have k2:0 < w.al*(e.x - x.x)+w.be*(e.y - x.y):=by grind
 have k3:0 < w.al*(p.x - x.x)+w.be*(p.y - x.y):=by grind
 have r1:=T8 k1 s2'
 have r2:0≤(w.al*(p.x - x.x)+w.be*(p.y - x.y))*((b.x - x.x)*(e.y - x.y) - (b.y - x.y)*(e.x - x.x)):=TF (by omega) h
 have r3:(w.al*(e.x - x.x)+w.be*(e.y - x.y))*((b.x - x.x)*(p.y - x.y) - (b.y - x.y)*(p.x - x.x)) < 0:=Uv k2 s1
 omega
def DZ (p:Pl):List Pl→Bool
 | [a,b]=>decide (tw a b p < 0)
 | _=>false
end L3
namespace L3
def lg (bd:List Pl) (k:Nat):Option Pl:=if k=0 then bd.getLast? else bd[k - 1]?
theorem uY {bd:List Pl} {k:Nat} {a b:Pl} (hb:bd[k]?=some b) (ha:lg bd k=some a): [a,b]∈List.zipWith (fun p q=>[p,q]) bd (bd.drop 1 ++ bd.take 1):=by
 have lk:k < bd.length:=(T9.mp hb).1
 unfold lg at ha
 rw [Vn]
 by_cases c:k=0
 ·subst c
  rw [if_pos rfl,V3] at ha
  refine ⟨bd.length - 1,?_⟩
  have e2:(bd.drop 1 ++ bd.take 1)[bd.length - 1]?=some b:=by
   rw [U6 (by rw [UL];omega),UL,Nat.sub_self,V7 (by omega)]
   exact hb
  rw [U7,ha,e2]
 ·rw [if_neg c] at ha
  refine ⟨k - 1,?_⟩
  have e2:(bd.drop 1 ++ bd.take 1)[k - 1]?=some b:=by
   rw [Va (by rw [UL];omega),List.getElem?_drop,show 1+(k - 1)=k by omega]
   exact hb
  rw [U7,ha,e2]
theorem wN:∀ {as bs:List Pl},as.Perm bs→as.Pairwise (fun a b=> ¬ aG b a)→bs.Pairwise (fun a b=> ¬ aG b a)→as=bs
 | [],bs,h,_,_=>by rw [List.nil_perm.mp h]
 | a :: as,[],h,_,_=>by simp at h
 | a :: as,b :: bs,h,h1,h2=>by
   obtain ⟨p1,p2⟩:=TZ.mp h1
   obtain ⟨q1,q2⟩:=TZ.mp h2
   have e:a=b:=by
    rcases bD a b with k | k | k
    ·rcases Tp.mp (h.mem_iff.mp (TN (a:=a) (l:=as))) with z | z
     ·exact z
     ·exact absurd k (q1 a z)
    ·exact k
    ·rcases Tp.mp (h.mem_iff.mpr (TN (a:=b) (l:=bs))) with z | z
     ·exact z.symm
     ·exact absurd k (p1 b z)
   subst e
   rw [wN (List.Perm.cons_inv h) p2 q2]
end L3
namespace L3
def cu (Q:List Pl):Prop:=Q.Pairwise (fun p q=>aG p q)∧∀ q∈Q,q.y.natAbs < 2 ^ 140
def aR (Q:List Pl) (a b:Pl):Prop:=a∈Q∧b∈Q∧a≠b∧N1 a b Q
def SL (Q:List Pl):List (List Pl):=aV (br Q)
theorem l9 {Q:List Pl} (h:Q.length < 2):SL Q= []:=by
 unfold SL br
 rw [if_pos h]
 unfold aV
 rw [if_pos h]
theorem tR {Q:List Pl} (s:cu Q) (h:2≤Q.length):2≤(br Q).length∧SL Q=List.zipWith (fun p q=>[p,q]) (br Q) ((br Q).drop 1 ++ (br Q).take 1)∧∀ a b,[a,b]∈SL Q↔aR Q a b:=by
 obtain ⟨lb,char⟩:=A1 s.1 s.2 h
 have eo:br Q=(Q.foldl aI []).reverse.dropLast ++ (Q.reverse.foldl aI []).reverse.dropLast:=by unfold br;rw [if_neg (by omega)]
 rw [← eo] at lb char
 have e:SL Q=List.zipWith (fun p q=>[p,q]) (br Q) ((br Q).drop 1 ++ (br Q).take 1):=by
  unfold SL aV
  rw [if_neg (by omega)]
 exact ⟨lb,e,fun a b=>by rw [e];exact char a b⟩
theorem mh {Q:List Pl} {a b:Pl} (h:aR Q a b):2≤Q.length:=nj (l:=[a,b]) (by simp [h.2.2.1]) (fun x hx=>by
 simp only [Tp,Ur,or_false] at hx
 rcases hx with rfl | rfl
 ·exact h.1
 ·exact h.2.1)
theorem bG {Q:List Pl} (s:cu Q) {a b:Pl}: [a,b]∈SL Q↔aR Q a b:=by
 by_cases h:2≤Q.length
 ·exact (tR s h).2.2 a b
 ·rw [l9 (by omega)]
  exact ⟨(fun z=>by cases z),fun z=>absurd (mh z) h⟩
theorem gu {Q w:List Pl} (h:w∈SL Q):∃ a b,w= [a,b]:=by
 unfold SL aV at h
 split at h
 ·cases h
 ·exact tP _ _ _ h
theorem E4 {Q:List Pl} (s:cu Q) {a b:Pl} (h:aR Q a b):∃ c,aR Q c a:=by
 obtain ⟨lb,e,char⟩:=tR s (mh h)
 have m:=(char a b).mpr h
 rw [e] at m
 obtain ⟨i,hi⟩:=Vn.mp m
 rw [U7] at hi
 have ha:(br Q)[i]?=some a:=by
  cases e1:(br Q)[i]? with
  | none=>rw [e1] at hi;simp at hi
  | some u=>
    rw [e1] at hi
    cases e2:((br Q).drop 1 ++ (br Q).take 1)[i]? with
    | none=>rw [e2] at hi;simp at hi
    | some v=>rw [e2] at hi;simp at hi;rw [hi.1]
 have li:=(T9.mp ha).1
 obtain ⟨c,hc⟩:∃ c,lg (br Q) i=some c:=by
  unfold lg
  split
  ·exact ⟨_,UC (fun z=>by rw [z] at lb;simp at lb)⟩
  ·exact ⟨_,Tq (by omega)⟩
 have:=uY ha hc
 rw [← e] at this
 exact ⟨c,(char c a).mp this⟩
theorem qo {Q:List Pl} (s:cu Q) {a b:Pl} (h:aR Q a b):∃ c,aR Q b c:=by
 obtain ⟨lb,e,char⟩:=tR s (mh h)
 have m:=(char a b).mpr h
 rw [e] at m
 have hb:b∈br Q:=by
  obtain ⟨i,hi⟩:=Vn.mp m
  rw [U7] at hi
  cases e1:(br Q)[i]? with
  | none=>rw [e1] at hi;simp at hi
  | some u=>
    rw [e1] at hi
    cases e2:((br Q).drop 1 ++ (br Q).take 1)[i]? with
    | none=>rw [e2] at hi;simp at hi
    | some v=>
      rw [e2] at hi
      simp at hi
      have mv:=TM e2
      rw [hi.2] at mv
      rcases TU.mp mv with z | z
      ·exact Wz z
      ·exact UK z
 obtain ⟨j,hj⟩:=Vn.mp hb
 have lj:=(T9.mp hj).1
 by_cases c:j+1 < (br Q).length
 ·have:=uY (k:=j+1) (Tq c) (show lg (br Q) (j+1)=some b by unfold lg;rw [if_neg (by omega)];exact hj)
  rw [← e] at this
  exact ⟨_,(char _ _).mp this⟩
 ·have:=uY (bd:=br Q) (k:=0) (a:=b) (Tq (by omega)) (by unfold lg;rw [if_pos rfl,V3,show (br Q).length - 1=j by omega];exact hj)
  rw [← e] at this
  exact ⟨_,(char _ _).mp this⟩
theorem nk:∀ {l:List Pl},l.Nodup→(prs l).Nodup
 | [],_=> .nil
 | [_],_=> .nil
 | x :: y :: r,h=>by
   obtain ⟨h1,h2⟩:=T4.mp h
   refine T4.mpr ⟨fun z=>?_,nk h2⟩
   obtain ⟨a,b,e,k⟩:=uX _ _ z
   have:x=a:=by injection e
   rw [this] at h1
   have key:∀ (l:List Pl) (a b:Pl),Nx l a b→a∈l:=fun l=>by
    induction l with
    | nil=>intro a b k;exact k.elim
    | cons u l ih=>
      intro a b k
      cases l with
      | nil=>exact k.elim
      | cons v l=>
        rcases k with ⟨rfl,_⟩ | k
        ·simp
        ·exact Tn _ (ih a b k)
   exact h1 (key _ _ _ k)
theorem nt {Q:List Pl} (s:cu Q) (h2:2≤Q.length):(SL Q).Nodup∧∀ y,Q.getLast?=some y→∃ e,aR Q e y:=by
 obtain ⟨hs,hok⟩:=s
 have hne:Q≠[]:=fun z=>by rw [z] at h2;simp at h2
 obtain ⟨x,hx⟩:∃ x,Q.head?=some x:=by
  cases e:Q with
  | nil=>exact absurd e hne
  | cons x r=>exact ⟨x,rfl⟩
 obtain ⟨y,hy⟩:∃ y,Q.getLast?=some y:=⟨_,UC hne⟩
 have mx:x∈Q:=Vm hx
 have my:y∈Q:=UP hy
 have hend:=fm hs hx hy
 have be:∀ p∈Q,∀ q∈Q,(aG p q↔ak.f p < ak.f q):=fun p hp q hq=>jP (hok p hp) (hok q hq)
 have bw:∀ p∈Q,∀ q∈Q,(aG p q↔oR.f q < oR.f p):=fun p hp q hq=>by
  rw [be p hp q hq,fT,fT]
  omega
 have xy:x≠y:=by
  intro e
  cases e1:Q with
  | nil=>exact absurd e1 hne
  | cons u r=>
    cases r with
    | nil=>rw [e1] at h2;simp at h2
    | cons v r=>
      rw [e1] at hx hy hs
      have eu:u=x:=by simpa using hx
      have N3:y∈v :: r:=UP (by simpa using hy)
      have:=(TZ.mp hs).1 y N3
      rw [eu,e] at this
      exact bf _ this
 have C1:Ch ak Q (Q.foldl aI []):=jO hne (hs.imp_of_mem fun hp hq h=>(be _ hp _ hq).mp h)
 have C2:Ch oR Q.reverse (Q.reverse.foldl aI []):=jO (by simpa using hne) (Wt.mpr (hs.imp_of_mem fun hp hq h=>(bw _ hp _ hq).mp h))
 have key:∀ p∈Q,∀ q∈Q,(p=q∨aG p q)→ak.f p≤ak.f q∧oR.f q≤oR.f p:=fun p hp q hq k=>by
  rcases k with rfl | k
  ·exact ⟨UG _,UG _⟩
  ·have a1:=(be p hp q hq).mp k
   have a2:=(bw p hp q hq).mp k
   omega
 obtain ⟨p1,p2⟩:=C1.ends mx my (fun q hq=>(key x mx q hq ((hend q hq).1.imp Eq.symm id)).1) (fun q hq=>(key q hq y my (hend q hq).2).1)
 obtain ⟨r1,r2⟩:=C2.ends (lo:=y) (hi:=x) (by simpa using my) (by simpa using mx) (fun q hq=>by have hq:=Us.mp hq;exact (key q hq y my (hend q hq).2).2) (fun q hq=>by have hq:=Us.mp hq;exact (key x mx q hq ((hend q hq).1.imp Eq.symm id)).2)
 have e0:=A3 (lo:=x) (hi:=y) (T:=(Q.foldl aI []).reverse) (H:=(Q.reverse.foldl aI []).reverse) (by rw [Vh];exact p2) (by rw [UX];exact p1) (by rw [Vh];exact r2) (by rw [UX];exact r1) xy
 obtain ⟨lb,e,char⟩:=tR ⟨hs,hok⟩ h2
 have eo:br Q=(Q.foldl aI []).reverse.dropLast ++ (Q.reverse.foldl aI []).reverse.dropLast:=by unfold br;rw [if_neg (by omega)]
 have es:SL Q=prs (Q.foldl aI []).reverse ++ prs (Q.reverse.foldl aI []).reverse:=by
  rw [e,eo]
  exact e0
 have QX:∀ a b,Nx (Q.foldl aI []).reverse a b→ak.f a < ak.f b:=fun a b k=>((gm C1).mp ((kh _ a b).mpr k)).2.2.1
 have QY:∀ a b,Nx (Q.reverse.foldl aI []).reverse a b→ak.f b < ak.f a:=fun a b k=>by
  have h3:=((gm C2).mp ((kh _ a b).mpr k)).2.2.1
  rw [fT,fT] at h3
  omega
 have n1:=C1.nodup
 have n2:=C2.nodup
 constructor
 ·rw [es]
  refine Ub.mpr ⟨nk ((VD _).nodup_iff.mpr n1),nk ((VD _).nodup_iff.mpr n2),fun v hv u hu z=>?_⟩
  subst z
  obtain ⟨a,b,rfl,k1⟩:=uX _ _ hv
  obtain ⟨c,d,e2,k2⟩:=uX _ _ hu
  injection e2 with e3 e2
  injection e2 with e4 _
  rw [← e3,← e4] at k2
  have:=QX a b k1
  have:=QY a b k2
  omega
 ·intro y' hy'
  rw [hy] at hy'
  cases hy'
  obtain ⟨e1,k⟩:=Gr (l:=(Q.foldl aI []).reverse) (z:=y) (by rw [UX];exact p1) (by rw [Ua];exact qk p1 p2 (Ne.symm xy))
  exact ⟨e1,(char e1 y).mp (by rw [es];exact TR _ (CU _ _ _ k))⟩
theorem iQ {Q:List Pl} (s:cu Q):(SL Q).Nodup:=by
 by_cases h:2≤Q.length
 ·exact (nt s h).1
 ·rw [l9 (by omega)]
  exact .nil
theorem qp (w:Way) (u v p o:Pl):(w.f v - w.f o)*tw o u p=(w.f u - w.f o)*tw o v p+(w.f p - w.f o)*tw o u v:=by
 unfold Way.f tw
 grind
theorem gU (a b c:Pl):tw b c a=tw a b c:=by unfold tw;grind
theorem lA (a b c:Pl):tw c a b=tw a b c:=by unfold tw;grind
theorem bH (a b c:Pl):tw b a c= - tw a b c:=by unfold tw;grind
theorem tS (a b c:Pl):tw a c b= - tw a b c:=by unfold tw;grind
section
variable {Q:List Pl} {p:Pl}
def Ic (Q:List Pl) (p:Pl):Prop:=(∀ q∈Q,aG q p)∧p.y.natAbs < 2 ^ 140
theorem cu.f (s:cu Q) {a b:Pl} (ha:a∈Q) (hb:b∈Q):aG a b↔ak.f a < ak.f b:=jP (s.2 a ha) (s.2 b hb)
theorem cu.inj (s:cu Q) {a b:Pl} (ha:a∈Q) (hb:b∈Q) (e:ak.f a=ak.f b):a=b:=by
 rcases bD a b with k | k | k
 ·have:=(s.f ha hb).mp k;omega
 ·exact k
 ·have:=(s.f hb ha).mp k;omega
theorem Ic.f (s:cu Q) (h:Ic Q p) {a:Pl} (ha:a∈Q):ak.f a < ak.f p:=(jP (s.2 a ha) h.2).mp (h.1 a ha)
theorem cT (s:cu Q) {a b q:Pl} (h:aR Q a b) (hq:q∈Q) (z:tw a b q=0):¬ ((ak.f a < ak.f q∧ak.f q < ak.f b)∨(ak.f b < ak.f q∧ak.f q < ak.f a)):=by
 obtain ⟨ha,hb,ne,r⟩:=h
 have r2:=(r q hq).2 z
 unfold lo hi at r2
 rintro (⟨k1,k2⟩ | ⟨k1,k2⟩)
 ·have ab:aG a b:=(s.f ha hb).mpr (by omega)
  rw [if_neg (ay ab),if_pos ab] at r2
  exact r2 ⟨(s.f ha hq).mpr k1,(s.f hq hb).mpr k2⟩
 ·have ba:aG b a:=(s.f hb ha).mpr (by omega)
  rw [if_pos ba,if_neg (ay ba)] at r2
  exact r2 ⟨(s.f hb hq).mpr k1,(s.f hq ha).mpr k2⟩
theorem qq (s:cu Q) {a b:Pl} (ha:a∈Q) (hb:b∈Q) (h:∀ q∈Q,0≤tw a b q∧(tw a b q=0→¬ ((ak.f a < ak.f q∧ak.f q < ak.f b)∨(ak.f b < ak.f q∧ak.f q < ak.f a)))):N1 a b Q:=fun q hq=>⟨(h q hq).1,fun z k=>(h q hq).2 z (by
 unfold lo hi at k
 by_cases c:aG b a
 ·rw [if_pos c,if_neg (ay c)] at k
  exact .inr ⟨(s.f hb hq).mp k.1,(s.f hq ha).mp k.2⟩
 ·rw [if_neg c] at k
  by_cases d:aG a b
  ·rw [if_pos d] at k
   exact .inl ⟨(s.f ha hq).mp k.1,(s.f hq hb).mp k.2⟩
  ·rw [if_neg d] at k
   have:=(s.f ha hq).mp k.1
   have:=(s.f hq ha).mp k.2
   omega)⟩
theorem uZ (s:cu Q) {a b:Pl} (ha:a∈Q) (hb:b∈Q) (ne:a≠b):ak.f a≠ak.f b:=fun z=>ne (s.inj ha hb z)
theorem tT (s:cu Q) {a b c:Pl} (h1:aR Q a b) (h2:aR Q a c) (s1:tw a b p < 0) (s2:tw a c p < 0):b=c:=by
 have z1:=(h1.2.2.2 c h2.2.1).1
 have z2:=(h2.2.2.2 b h1.2.1).1
 have z3:=tS a b c
 have z:tw a b c=0:=by omega
 have z':tw a c b=0:=by omega
 apply Tj
 intro ne
 have f1:=uZ s h1.1 h1.2.1 h1.2.2.1
 have f2:=uZ s h2.1 h2.2.1 h2.2.2.1
 have f3:=uZ s h1.2.1 h2.2.1 ne
 have b1:=cT s h1 h2.2.1 z
 have b2:=cT s h2 h1.2.1 z'
 have key:=qp ak b c p a
 rw [z,Ux,Vp] at key
 rcases UJ f1 with k | k
 ·rcases UJ f2 with l | l
  ·omega
  ·have e1:0 < (ak.f c - ak.f a)*tw a b p:=Vb (by omega) s1
   have e2:(ak.f b - ak.f a)*tw a c p < 0:=Uv (by omega) s2
   omega
 ·rcases UJ f2 with l | l
  ·have e1:(ak.f c - ak.f a)*tw a b p < 0:=Uv (by omega) s1
   have e2:0 < (ak.f b - ak.f a)*tw a c p:=Vb (by omega) s2
   omega
  ·omega
theorem wO (s:cu Q) {a b c:Pl} (h1:aR Q b a) (h2:aR Q c a) (s1:tw b a p < 0) (s2:tw c a p < 0):b=c:=by
 have z1:=(h1.2.2.2 c h2.1).1
 have z2:=(h2.2.2.2 b h1.1).1
 have z3:tw c a b= - tw b a c:=by unfold tw;grind
 have z:tw b a c=0:=by omega
 have z':tw c a b=0:=by omega
 apply Tj
 intro ne
 have f1:=uZ s h1.1 h1.2.1 h1.2.2.1
 have f2:=uZ s h2.1 h2.2.1 h2.2.2.1
 have f3:=uZ s h1.1 h2.1 ne
 have b1:=cT s h1 h2.1 z
 have b2:=cT s h2 h1.1 z'
 have key:=qp ak b c p a
 have y1:tw a b p= - tw b a p:=bH b a p
 have y2:tw a c p= - tw c a p:=bH c a p
 have y3:tw a b c=0:=by have:=bH b a c;omega
 rw [y3,Ux,Vp] at key
 have s1:0 < tw a b p:=by omega
 have s2:0 < tw a c p:=by omega
 rcases UJ f1 with k | k
 ·rcases UJ f2 with l | l
  ·omega
  ·have e1:0 < (ak.f c - ak.f a)*tw a b p:=T8 (by omega) s1
   have e2:(ak.f b - ak.f a)*tw a c p < 0:=Uw (by omega) s2
   omega
 ·rcases UJ f2 with l | l
  ·have e1:(ak.f c - ak.f a)*tw a b p < 0:=Uw (by omega) s1
   have e2:0 < (ak.f b - ak.f a)*tw a c p:=T8 (by omega) s2
   omega
  ·omega
theorem K4 (c a b p q:Pl):tw c a p*tw a b q - tw a b p*tw c a q=tw c a b*tw a p q:=by unfold tw;grind
theorem K5 (a b c p q:Pl):tw a b q*tw b c p - tw a b p*tw b c q=tw a b c*tw p b q:=by unfold tw;grind
theorem ki {a b:Pl} (ne:a≠b) (h:∀ q∈Q,tw a b q=0):Flat Q:=fun u hu v hv w hw=>CL ne (h u hu) (h v hv) (h w hw)
theorem A4 (nf:¬ Flat Q) {a b c:Pl} (h1:aR Q a b) (h2:aR Q c a) (s1:tw a b p < 0) (s2:0≤tw c a p):∀ q∈Q,0≤tw a p q:=fun q hq=>by
 have z1:=(h1.2.2.2 q hq).1
 have z2:=(h2.2.2.2 q hq).1
 have z3:=(h2.2.2.2 b h1.2.1).1
 have key:=K4 c a b p q
 have e1:0≤tw c a p*tw a b q:=TF s2 z1
 have e2:tw a b p*tw c a q≤0:=TY (by omega) z2
 rcases VX z3 with k | k
 ·exact gj k (by omega)
 ·exfalso
  refine nf (ki h2.2.2.1 fun r hr=>?_)
  have key:=K4 c a b p r
  rw [← k,Vg] at key
  have y1:=(h1.2.2.2 r hr).1
  have y2:=(h2.2.2.2 r hr).1
  have e1:0≤tw c a p*tw a b r:=TF s2 y1
  have e2:tw a b p*tw c a r≤0:=TY (by omega) y2
  have e3:tw a b p*tw c a r=0:=by omega
  rcases T6.mp e3 with z | z
  ·omega
  ·exact z
theorem E5 (nf:¬ Flat Q) {a b c:Pl} (h1:aR Q a b) (h2:aR Q b c) (s1:tw a b p < 0) (s2:0≤tw b c p):∀ q∈Q,0≤tw p b q:=fun q hq=>by
 have z1:=(h1.2.2.2 q hq).1
 have z2:=(h2.2.2.2 q hq).1
 have z3:=(h1.2.2.2 c h2.2.1).1
 have key:=K5 a b c p q
 have e1:0≤tw a b q*tw b c p:=TF z1 s2
 have e2:tw a b p*tw b c q≤0:=TY (by omega) z2
 rcases VX z3 with k | k
 ·exact gj k (by omega)
 ·exfalso
  refine nf (ki h2.2.2.1 fun r hr=>?_)
  have key:=K5 a b c p r
  rw [← k,Vg] at key
  have y1:=(h1.2.2.2 r hr).1
  have y2:=(h2.2.2.2 r hr).1
  have e1:0≤tw a b r*tw b c p:=TF y1 s2
  have e2:tw a b p*tw b c r≤0:=TY (by omega) y2
  have e3:tw a b p*tw b c r=0:=by omega
  rcases T6.mp e3 with z | z
  ·omega
  ·exact z
theorem kj (s:cu Q) (fl:Flat Q) {a b:Pl} (ha:a∈Q) (hb:b∈Q) (ne:a≠b) (h:∀ q∈Q,¬ ((ak.f a < ak.f q∧ak.f q < ak.f b)∨(ak.f b < ak.f q∧ak.f q < ak.f a))):aR Q a b:=
 ⟨ha,hb,ne,qq s ha hb fun q hq=>⟨by rw [fl a ha b hb q hq];omega,fun _=>h q hq⟩⟩
theorem u0 (s:cu Q) {a q:Pl} (ha:a∈Q) (hq:q∈Q) (ne:q≠a):∃ c∈Q,c≠a∧(ak.f c < ak.f a↔ak.f q < ak.f a)∧∀ z∈Q,¬ ((ak.f a < ak.f z∧ak.f z < ak.f c)∨(ak.f c < ak.f z∧ak.f z < ak.f a)):=by
 have fq:=uZ s hq ha ne
 rcases UJ fq with k | k
 ·obtain ⟨c,hc,mx⟩:=zO (Q.filter fun z=>decide (aG z a)) (UZ (Tu.mpr ⟨hq,decide_eq_true ((s.f hq ha).mpr k)⟩))
  obtain ⟨hc,ca⟩:=Tu.mp hc
  have ca:=(s.f hc ha).mp (of_decide_eq_true ca)
  refine ⟨c,hc,fun z=>by rw [z] at ca;omega,⟨fun _=>k,fun _=>ca⟩,fun z hz=>?_⟩
  rintro (⟨k1,k2⟩ | ⟨k1,k2⟩)
  ·omega
  ·exact mx z (Tu.mpr ⟨hz,decide_eq_true ((s.f hz ha).mpr k2)⟩) ((s.f hc hz).mpr k1)
 ·obtain ⟨c,hc,mn⟩:=uW (Q.filter fun z=>decide (aG a z)) (UZ (Tu.mpr ⟨hq,decide_eq_true ((s.f ha hq).mpr k)⟩))
  obtain ⟨hc,ca⟩:=Tu.mp hc
  have ca:=(s.f ha hc).mp (of_decide_eq_true ca)
  refine ⟨c,hc,fun z=>by rw [z] at ca;omega,⟨fun _=>by omega,fun _=>by omega⟩,fun z hz=>?_⟩
  rintro (⟨k1,k2⟩ | ⟨k1,k2⟩)
  ·exact mn z (Tu.mpr ⟨hz,decide_eq_true ((s.f ha hz).mpr k1)⟩) ((s.f hz hc).mpr k2)
  ·omega
theorem LR {x y A B:Int} (h:x*A=y*B) (hA:A < 0) (hB:0 < B):(0 < x→y < 0)∧(x < 0→0 < y)∧(x=0→y=0):=by
 refine ⟨fun k=>?_,fun k=>?_,fun k=>?_⟩
 ·have:=Uv k hA
  apply Tj
  intro z
  have:=TF (a:=y) (b:=B) (by omega) (by omega)
  omega
 ·have:=Vb k hA
  apply Tj
  intro z
  have:=TY (a:=y) (b:=B) (by omega) (by omega)
  omega
 ·rw [k,Vg] at h
  rcases T6.mp h.symm with z | z
  ·exact z
  ·omega
theorem N6 {x y A B:Int} (h:x*A=y*B) (hA:A < 0) (hxy:(0 < x∧y < 0)∨(x < 0∧0 < y)):0 < B:=by
 apply Tj
 intro z
 rcases hxy with ⟨k,l⟩ | ⟨k,l⟩
 ·have:=Uv k hA
  have:=TX (a:=y) (b:=B) (by omega) (by omega)
  omega
 ·have:=Vb k hA
  have:=TQ (a:=y) (b:=B) (by omega) (by omega)
  omega
theorem yv (s:cu Q) (fl:Flat Q) {a b:Pl} (h1:aR Q a b) (s1:tw a b p < 0) (no:∀ c,aR Q c a→0≤tw c a p):∀ q∈Q,0≤tw a p q:=fun q hq=>by
 apply Tj
 intro k
 have z0:=fl a h1.1 b h1.2.1 q hq
 have key:=qp ak b q p a
 rw [z0,Ux,Vp] at key
 have e1:tw a q p= - tw a p q:=tS a p q
 have o1:=LR key s1 (by omega)
 have nq:q≠a:=fun z=>by rw [z] at k;have:=gf a p;omega
 obtain ⟨c,hc,nc,sg,K6⟩:=u0 s h1.1 hq nq
 have f1:=uZ s h1.2.1 h1.1 (Ne.symm h1.2.2.1)
 have f2:=uZ s hq h1.1 nq
 have f3:=uZ s hc h1.1 nc
 have sd:aR Q c a:=kj s fl hc h1.1 nc fun z hz w=>K6 z hz (by omega)
 have E6:=qp ak b c p a
 rw [fl a h1.1 b h1.2.1 c hc,Ux,Vp] at E6
 have:=N6 E6 s1 (by omega)
 have:=no c sd
 have:=bH a c p
 omega
theorem CV (s:cu Q) (fl:Flat Q) {a b:Pl} (h1:aR Q a b) (s1:tw a b p < 0) (no:∀ c,aR Q b c→0≤tw b c p):∀ q∈Q,0≤tw p b q:=fun q hq=>by
 apply Tj
 intro k
 have z0:=fl b h1.2.1 a h1.1 q hq
 have key:=qp ak a q p b
 rw [z0,Ux,Vp] at key
 have e1:tw b q p=tw p b q:=gU p b q
 have e2:=bH a b p
 have key:(ak.f a - ak.f b)*tw b q p=(ak.f q - ak.f b)*tw b a p:=key.symm
 have o1:=LR key (by omega) (by omega)
 have nq:q≠b:=fun z=>by rw [z] at k;have:=gc p b;have:tw p b b=0:=by unfold tw;grind
                        omega
 obtain ⟨c,hc,nc,sg,K6⟩:=u0 s h1.2.1 hq nq
 have f1:=uZ s h1.1 h1.2.1 h1.2.2.1
 have f2:=uZ s hq h1.2.1 nq
 have f3:=uZ s hc h1.2.1 nc
 have sd:aR Q b c:=kj s fl h1.2.1 hc (Ne.symm nc) fun z hz w=>K6 z hz (by omega)
 have E6:=qp ak a c p b
 rw [fl b h1.2.1 a h1.1 c hc,Ux,Vp] at E6
 have nn:=no c sd
 have pos:0 < tw b a p:=by omega
 rcases UJ f3 with l | l
 ·have e3:(ak.f c - ak.f b)*tw b a p < 0:=Uw (by omega) pos
  have e4:0≤(ak.f a - ak.f b)*tw b c p:=TF (by omega) nn
  omega
 ·have e3:0 < (ak.f c - ak.f b)*tw b a p:=T8 (by omega) pos
  have e4:(ak.f a - ak.f b)*tw b c p≤0:=TY (by omega) nn
  omega
theorem A5 (s:cu Q) (bh:Ic Q p) {a b q:Pl} (h1:aR Q a b) (s1:tw a b p < 0) (hq:q∈Q) (z:tw a p q=0):¬ ak.f a < ak.f q:=fun k=>by
 have key:=qp ak b q p a
 have e1:tw a q p=0:=by have:=tS a p q;omega
 rw [e1,Ux,WJ] at key
 have:=(h1.2.2.2 q hq).1
 have fp:=bh.f s h1.1
 have e2:(ak.f q - ak.f a)*tw a b p < 0:=Uv (by omega) s1
 have e3:0≤(ak.f p - ak.f a)*tw a b q:=TF (by omega) this
 omega
theorem E7 (s:cu Q) (bh:Ic Q p) {a b q:Pl} (h1:aR Q a b) (s1:tw a b p < 0) (hq:q∈Q) (z:tw p b q=0):¬ ak.f b < ak.f q:=fun k=>by
 have key:=qp ak a q p b
 have e1:tw b q p=0:=by have:=gU p b q;omega
 rw [e1,Ux,WJ] at key
 have:=(h1.2.2.2 q hq).1
 have y1:=bH a b p
 have y2:=bH a b q
 have fp:=bh.f s h1.2.1
 have e2:0 < (ak.f q - ak.f b)*tw b a p:=T8 (by omega) (by omega)
 have e3:(ak.f p - ak.f b)*tw b a q≤0:=TQ (by omega) (by omega)
 omega
theorem cu.old (s:cu (Q ++ [p])):cu Q:=⟨(Vq.mp s.1).1,fun q hq=>s.2 q (TR _ hq)⟩
theorem cu.yw (s:cu (Q ++ [p])):Ic Q p:=⟨fun q hq=>(Vq.mp s.1).2.2 q hq p (by simp),s.2 p (by simp)⟩
theorem cu.out (s:cu (Q ++ [p])):p∉Q:=fun h=>bf _ (s.yw.1 p h)
theorem di {q:Pl} (h:q∈Q ++ [p]):q∈Q∨q=p:=by
 rcases TU.mp h with h | h
 ·exact .inl h
 ·exact .inr (Tt.mp h)
theorem gv (s:cu (Q ++ [p])) {a b:Pl} (ha:a∈Q) (hb:b∈Q):aR (Q ++ [p]) a b↔aR Q a b∧0≤tw a b p:=by
 constructor
 ·rintro ⟨_,_,ne,r⟩
  exact ⟨⟨ha,hb,ne,fun q hq=>r q (TR _ hq)⟩,(r p (by simp)).1⟩
 ·rintro ⟨⟨_,_,ne,r⟩,h⟩
  refine ⟨TR _ ha,TR _ hb,ne,qq s (TR _ ha) (TR _ hb) fun q hq=>?_⟩
  rcases di hq with hq | rfl
  ·exact ⟨(r q hq).1,fun z=>cT s.old ⟨ha,hb,ne,r⟩ hq z⟩
  ·refine ⟨h,fun _ k=>?_⟩
   have:=s.yw.f s.old ha
   have:=s.yw.f s.old hb
   omega
theorem qu (s:cu (Q ++ [p])) {a b:Pl} (h1:aR Q a b) (s1:tw a b p < 0) (no:∀ c,aR Q c a→0≤tw c a p):aR (Q ++ [p]) a p:=by
 have all:∀ q∈Q,0≤tw a p q:=by
  by_cases fl:Flat Q
  ·exact yv s.old fl h1 s1 no
  ·obtain ⟨c,hc⟩:=E4 s.old h1
   exact A4 fl h1 hc s1 (no c hc)
 have ma:a∈Q ++ [p]:=TR _ h1.1
 have mp:p∈Q ++ [p]:=by simp
 refine ⟨ma,mp,fun z=>s.out (z▸h1.1),qq s ma mp fun q hq=>?_⟩
 have fa:=s.yw.f s.old h1.1
 rcases di hq with hq | rfl
 ·refine ⟨all q hq,fun z k=>?_⟩
  have:=A5 s.old s.yw h1 s1 hq z
  have:=s.yw.f s.old hq
  omega
 ·refine ⟨by have:tw a q q=0:=by unfold tw;grind
             omega,fun _ k=>by omega⟩
theorem wQ (s:cu (Q ++ [p])) {a b:Pl} (h1:aR Q a b) (s1:tw a b p < 0) (no:∀ c,aR Q b c→0≤tw b c p):aR (Q ++ [p]) p b:=by
 have all:∀ q∈Q,0≤tw p b q:=by
  by_cases fl:Flat Q
  ·exact CV s.old fl h1 s1 no
  ·obtain ⟨c,hc⟩:=qo s.old h1
   exact E5 fl h1 hc s1 (no c hc)
 have mb:b∈Q ++ [p]:=TR _ h1.2.1
 have mp:p∈Q ++ [p]:=by simp
 refine ⟨mp,mb,fun z=>s.out (z▸h1.2.1),qq s mp mb fun q hq=>?_⟩
 have fb:=s.yw.f s.old h1.2.1
 rcases di hq with hq | rfl
 ·refine ⟨all q hq,fun z k=>?_⟩
  have:=E7 s.old s.yw h1 s1 hq z
  have:=s.yw.f s.old hq
  omega
 ·refine ⟨by have:tw q b q=0:=by unfold tw;grind
             omega,fun _ k=>by omega⟩
theorem CW (s:cu (Q ++ [p])) {u v:Pl} (h1:aR (Q ++ [p]) u p) (h2:aR (Q ++ [p]) v p):u=v:=by
 apply Tj
 intro ne
 have z1:=(h1.2.2.2 v h2.1).1
 have z2:=(h2.2.2.2 u h1.1).1
 have z3:tw v p u= - tw u p v:=by unfold tw;grind
 have f:=uZ s h1.1 h2.1 ne
 have hu:=(di h1.1).resolve_right h1.2.2.1
 have hv:=(di h2.1).resolve_right h2.2.2.1
 have fu:=s.yw.f s.old hu
 have fv:=s.yw.f s.old hv
 have b1:=cT s h1 h2.1 (by omega)
 have b2:=cT s h2 h1.1 (by omega)
 omega
theorem Gs (s:cu (Q ++ [p])) {u v:Pl} (h1:aR (Q ++ [p]) p u) (h2:aR (Q ++ [p]) p v):u=v:=by
 apply Tj
 intro ne
 have z1:=(h1.2.2.2 v h2.2.1).1
 have z2:=(h2.2.2.2 u h1.2.1).1
 have z3:tw p v u= - tw p u v:=tS p u v
 have f:=uZ s h1.2.1 h2.2.1 ne
 have hu:=(di h1.2.1).resolve_right (Ne.symm h1.2.2.1)
 have hv:=(di h2.2.1).resolve_right (Ne.symm h2.2.2.1)
 have fu:=s.yw.f s.old hu
 have fv:=s.yw.f s.old hv
 have b1:=cT s h1 h2.2.1 (by omega)
 have b2:=cT s h2 h1.2.1 (by omega)
 omega
theorem wR {Q:List Pl} (h:Q.length≤2):Flat Q:=by
 match Q,h with
 | [],_=>exact fun p hp=>by cases hp
 | [x],_=>exact gn (by simp)
 | [x,y],_=>
   have key:∀ a∈[x,y],a=x∨a=y:=fun a ha=>by simpa using ha
   intro a ha b hb c hc
   rcases key a ha with rfl | rfl <;> rcases key b hb with rfl | rfl <;> rcases key c hc with rfl | rfl <;> (unfold tw;grind)
theorem tU (s:cu (Q ++ [p])) (nf:¬ Flat (Q ++ [p])):∃ a b,aR Q a b∧tw a b p < 0:=by
 apply Tj
 intro none
 have un:∀ a b,aR Q a b→0≤tw a b p:=fun a b h=>Tj fun z=>none ⟨a,b,h,by omega⟩
 have l2:2≤Q.length:=Tj fun z=>nf (wR (by rw [TL];simp;omega))
 have hne:Q≠[]:=fun z=>by rw [z] at l2;simp at l2
 have hy:=UC hne
 obtain ⟨e,he⟩:=(nt s.old l2).2 _ hy
 have last:∀ q∈Q,q=Q.getLast hne∨aG q (Q.getLast hne):=fun q hq=>(fm s.old.1 (List.head?_eq_some_head hne) hy q hq).2
 generalize Q.getLast hne=y at he last
 obtain ⟨b,hb⟩:=qo s.old he
 have my:y∈Q:=hb.1
 have fe:ak.f e < ak.f y:=(s.old.f he.1 my).mp ((last e he.1).resolve_left he.2.2.1)
 have fb:ak.f b < ak.f y:=(s.old.f hb.2.1 my).mp ((last b hb.2.1).resolve_left (Ne.symm hb.2.2.1))
 have fp:=s.yw.f s.old my
 have u1:=un e y he
 have u2:=un y b hb
 have u3:=(he.2.2.2 b hb.2.1).1
 have g1:∀ q,tw y e q= - tw e y q:=fun q=>bH e y q
 have key:=qp ak e b p y
 have k1:=g1 p
 have k2:=g1 b
 have e1:0≤(ak.f b - ak.f y)*tw y e p:=TX (by omega) (by omega)
 have e2:(ak.f e - ak.f y)*tw y b p≤0:=TY (by omega) u2
 have e3:(ak.f p - ak.f y)*tw y e b≤0:=TQ (by omega) (by omega)
 have z1:(ak.f b - ak.f y)*tw y e p=0:=by omega
 have z2:(ak.f p - ak.f y)*tw y e b=0:=by omega
 have y1:tw y e p=0:=(T6.mp z1).resolve_left (by omega)
 have y2:tw y e b=0:=(T6.mp z2).resolve_left (by omega)
 refine nf (ki (a:=y) (b:=e) (Ne.symm he.2.2.1) fun q hq=>?_)
 rcases di hq with hq | rfl
 ·have key:=qp ak e b q y
  rw [y2,Ux,Vp] at key
  have h1:=(he.2.2.2 q hq).1
  have h2:=(hb.2.2.2 q hq).1
  have h3:=g1 q
  have e4:0≤(ak.f b - ak.f y)*tw y e q:=TX (by omega) (by omega)
  have e5:(ak.f e - ak.f y)*tw y b q≤0:=TY (by omega) h2
  exact (T6.mp (show (ak.f b - ak.f y)*tw y e q=0 by omega)).resolve_left (by omega)
 ·exact y1
def bR (Q:List Pl) (p:Pl):List (List Pl):=(SL Q).filter (DZ p)
theorem bq (s:cu Q) {a b:Pl}: [a,b]∈bR Q p↔aR Q a b∧tw a b p < 0:=by
 unfold bR
 rw [Tu,bG s]
 exact ⟨fun h=>⟨h.1,of_decide_eq_true h.2⟩,fun h=>⟨h.1,decide_eq_true h.2⟩⟩
theorem bS {w:List Pl} (h:w∈bR Q p):∃ a b,w= [a,b]:=gu (Tu.mp h).1
theorem lB (s:cu Q):(bR Q p).Nodup:=(iQ s).filter _
def rS (w:List Pl):Pl:=w.headD ⟨0,0⟩
def u5 (w:List Pl):Pl:=w.getLastD ⟨0,0⟩
theorem ko {α β:Type} {f:α→β}:∀ {l:List α},l.Nodup→(∀ x∈l,∀ y∈l,f x=f y→x=y)→(l.map f).Nodup
 | [],_,_=> .nil
 | a :: l,nd,h=>by
   obtain ⟨h1,h2⟩:=T4.mp nd
   rw [Ud]
   refine T4.mpr ⟨fun z=>?_,ko h2 fun x hx y hy=>h x (Tn _ hx) y (Tn _ hy)⟩
   obtain ⟨b,hb,e⟩:=TV.mp z
   rw [h b (Tn _ hb) a (by simp) e] at hb
   exact h1 hb
theorem u6 (s:cu Q):((bR Q p).map rS).Nodup:=ko (lB s) fun x hx y hy e=>by
 obtain ⟨a,b,rfl⟩:=bS hx
 obtain ⟨c,d,rfl⟩:=bS hy
 have e:a=c:=e
 subst e
 obtain ⟨h1,h2⟩:=(bq s).mp hx
 obtain ⟨h3,h4⟩:=(bq s).mp hy
 rw [tT s h1 h3 h2 h4]
theorem yx (s:cu Q):((bR Q p).map u5).Nodup:=ko (lB s) fun x hx y hy e=>by
 obtain ⟨a,b,rfl⟩:=bS hx
 obtain ⟨c,d,rfl⟩:=bS hy
 have e:b=d:=e
 subst e
 obtain ⟨h1,h2⟩:=(bq s).mp hx
 obtain ⟨h3,h4⟩:=(bq s).mp hy
 rw [wO s h1 h3 h2 h4]
theorem wU {A B:List Pl} (na:A.Nodup) (l:A.length=B.length) (h:∀ x∈A,x∈B):∀ x∈B,x∈A:=fun x hx=>by
 apply Tj
 intro n
 have:=nj (l:=x :: A) (m:=B) (T4.mpr ⟨n,na⟩) (fun y hy=>by
  rcases Tp.mp hy with rfl | hy
  ·exact hx
  ·exact h y hy)
 rw [Ug] at this
 omega
theorem zR (s:cu Q) (bh:Ic Q p) {a0 b0:Pl} (h0: [a0,b0]∈bR Q p) (h1:∀ x∈(bR Q p).map rS,x∈(bR Q p).map u5) (h2:∀ x∈(bR Q p).map u5,x∈(bR Q p).map rS):False:=by
 obtain ⟨m,hm,mn⟩:=uW ((bR Q p).map rS) (UZ (TV.mpr ⟨_,h0,rfl⟩))
 obtain ⟨w,hw,e1⟩:=TV.mp hm
 obtain ⟨v,hv,e2⟩:=TV.mp (h1 m hm)
 obtain ⟨a,b,rfl⟩:=bS hw
 obtain ⟨c,d,rfl⟩:=bS hv
 have e1:a=m:=e1
 have e2:d=m:=e2
 subst e1
 subst e2
 obtain ⟨k1,k2⟩:=(bq s).mp hw
 obtain ⟨k3,k4⟩:=(bq s).mp hv
 have fb:ak.f d < ak.f b:=by
  have nb:=mn b (h2 b (TV.mpr ⟨_,hw,rfl⟩))
  have ne:=uZ s k1.1 k1.2.1 k1.2.2.1
  have:¬ ak.f b < ak.f d:=fun z=>nb ((s.f k1.2.1 k1.1).mpr z)
  omega
 have fc:ak.f d < ak.f c:=by
  have nb:=mn c (TV.mpr ⟨_,hv,rfl⟩)
  have ne:=uZ s k3.1 k3.2.1 k3.2.2.1
  have:¬ ak.f c < ak.f d:=fun z=>nb ((s.f k3.1 k3.2.1).mpr z)
  omega
 exact yu fb fc (bh.f s k1.1) (k1.2.2.2 c k3.1).1 k2 k4
theorem CY (s:cu Q) (bh:Ic Q p) {a0 b0:Pl} (h0: [a0,b0]∈bR Q p):(∃ a b,(aR Q a b∧tw a b p < 0)∧∀ c,aR Q c a→0≤tw c a p)∧∃ a b,(aR Q a b∧tw a b p < 0)∧∀ c,aR Q b c→0≤tw b c p:=by
 have lens:((bR Q p).map rS).length=((bR Q p).map u5).length:=by rw [To,To]
 constructor
 ·apply Tj
  intro no
  have sub:∀ x∈(bR Q p).map rS,x∈(bR Q p).map u5:=fun x hx=>by
   obtain ⟨w,hw,rfl⟩:=TV.mp hx
   obtain ⟨a,b,rfl⟩:=bS hw
   apply Tj
   intro n
   refine no ⟨a,b,(bq s).mp hw,fun c hc=>Tj fun z=>n ?_⟩
   exact TV.mpr ⟨[c,a],(bq s).mpr ⟨hc,by omega⟩,rfl⟩
  exact zR s bh h0 sub (wU (u6 s) lens sub)
 ·apply Tj
  intro no
  have sub:∀ x∈(bR Q p).map u5,x∈(bR Q p).map rS:=fun x hx=>by
   obtain ⟨w,hw,rfl⟩:=TV.mp hx
   obtain ⟨a,b,rfl⟩:=bS hw
   apply Tj
   intro n
   refine no ⟨a,b,(bq s).mp hw,fun c hc=>Tj fun z=>n ?_⟩
   exact TV.mpr ⟨[b,c],(bq s).mpr ⟨hc,by omega⟩,rfl⟩
  exact zR s bh h0 (wU (yx s) lens.symm sub) sub
def QZ (p:Pl) (w:List Pl):List (List Pl):=[[u5 w,rS w],[rS w,p],[p,u5 w]]
def newD (Q:List Pl) (p:Pl):List (List Pl):=(bR Q p).flatMap (QZ p)
theorem eX (s:cu Q) {w:List Pl}:w∈newD Q p↔∃ a b,(aR Q a b∧tw a b p < 0)∧(w= [b,a]∨w= [a,p]∨w= [p,b]):=by
 unfold newD
 rw [UM]
 constructor
 ·rintro ⟨v,hv,hw⟩
  obtain ⟨a,b,rfl⟩:=bS hv
  refine ⟨a,b,(bq s).mp hv,?_⟩
  have hw:w∈[[b,a],[a,p],[p,b]]:=hw
  simpa using hw
 ·rintro ⟨a,b,h,hw⟩
  refine ⟨[a,b],(bq s).mpr h,?_⟩
  show w∈[[b,a],[a,p],[p,b]]
  simpa using hw
theorem aM {a b c d:Pl} (h: [a,b]= [c,d]):a=c∧b=d:=by
 injection h with h1 h
 injection h with h2 _
 exact ⟨h1,h2⟩
theorem A6 (s:cu (Q ++ [p])):(newD Q p).Nodup:=by
 have so:=s.old
 have np:∀ {x y},aR Q x y→x≠p∧y≠p:=fun h=>⟨fun z=>s.out (z▸h.1),fun z=>s.out (z▸h.2.1)⟩
 unfold newD
 refine List.pairwise_flatMap.mpr ⟨fun w hw=>?_,?_⟩
 ·obtain ⟨a,b,rfl⟩:=bS hw
  obtain ⟨h1,_⟩:=(bq so).mp hw
  obtain ⟨n1,n2⟩:=np h1
  show ([[b,a],[a,p],[p,b]]:List (List Pl)).Nodup
  simp only [T4,Tp,Ur,or_false,not_or,not_false_eq_true,VU,and_true]
  refine ⟨⟨fun z=>n1 (aM z).2,fun z=>n2 (aM z).1⟩,fun z=>n1 (aM z).1⟩
 ·refine (lB so).imp_of_mem fun {w v} hw hv ne x hx y hy e=>?_
  subst e
  obtain ⟨a,b,rfl⟩:=bS hw
  obtain ⟨c,d,rfl⟩:=bS hv
  obtain ⟨h1,h2⟩:=(bq so).mp hw
  obtain ⟨h3,h4⟩:=(bq so).mp hv
  obtain ⟨n1,n2⟩:=np h1
  obtain ⟨n3,n4⟩:=np h3
  have hx:x∈[[b,a],[a,p],[p,b]]:=hx
  have hy:x∈[[d,c],[c,p],[p,d]]:=hy
  simp only [Tp,Ur,or_false] at hx hy
  rcases hx with rfl | rfl | rfl
  ·rcases hy with e | e | e
   ·obtain ⟨rfl,rfl⟩:=aM e
    exact ne rfl
   ·exact n1 (aM e).2
   ·exact n2 (aM e).1
  ·rcases hy with e | e | e
   ·exact n3 (aM e).2.symm
   ·have e:=(aM e).1
    subst e
    rw [tT so h1 h3 h2 h4] at ne
    exact ne rfl
   ·exact n1 (aM e).1
  ·rcases hy with e | e | e
   ·exact n4 (aM e).1.symm
   ·exact n3 (aM e).1.symm
   ·have e:=(aM e).2
    subst e
    rw [wO so h1 h3 h2 h4] at ne
    exact ne rfl
structure yy (Q:List Pl) (D:List (List Pl)):Prop where
 nd:D.Nodup
 pB:∀ w∈D,∃ a b,w= [a,b]∧a∈Q∧b∈Q
 bare:∀ a b,[a,b]∈D→[b,a]∉D→aR Q a b
 nu:∀ a b,aR Q a b→[b,a]∉D
 has:∀ a b,aR Q a b→aR Q b a∨[a,b]∈D
theorem yy.nil {Q:List Pl} (h:Q.length < 2):yy Q [] where
 nd:= .nil
 pB:=fun w hw=>by cases hw
 bare:=fun a b hw=>by cases hw
 nu:=fun a b hw=>by simp
 has:=fun a b hw=>absurd (mh hw) (by omega)
theorem ny {a b:Pl} (h1:aR Q a b) (h2:aR Q b a):Flat Q:=ki h1.2.2.1 fun q hq=>by
 have z1:=(h1.2.2.2 q hq).1
 have z2:=(h2.2.2.2 q hq).1
 have:=bH a b q
 omega
theorem tV (s:cu Q) (fl:Flat Q) {a b:Pl} (h:aR Q a b):aR Q b a:=kj s fl h.2.1 h.1 (Ne.symm h.2.2.1) fun q hq k=>cT s h hq (fl a h.1 b h.2.1 q hq) (by omega)
theorem yy.step {D D':List (List Pl)} (s:cu (Q ++ [p])) (c:yy Q D) (e:D'.Perm (D ++ newD Q p)):yy (Q ++ [p]) D':=by
 have so:=s.old
 have np:∀ {x y},aR Q x y→x≠p∧y≠p:=fun h=>⟨fun z=>s.out (z▸h.1),fun z=>s.out (z▸h.2.1)⟩
 have mem:∀ w,w∈D'↔w∈D∨w∈newD Q p:=fun w=>by rw [e.mem_iff,TU]
 have pD:∀ a b,[a,b]∈D→a∈Q∧b∈Q:=fun a b h=>by
  obtain ⟨u,v,e,h1,h2⟩:=c.pB _ h
  obtain ⟨rfl,rfl⟩:=aM e
  exact ⟨h1,h2⟩
 refine ⟨?_,?_,?_,?_,?_⟩
 ·refine e.nodup_iff.mpr (Ub.mpr ⟨c.nd,A6 s,fun w hw v hv z=>?_⟩)
  subst z
  obtain ⟨a,b,⟨h1,h2⟩,h3⟩:=(eX so).mp hv
  rcases h3 with rfl | rfl | rfl
  ·exact c.nu a b h1 hw
  ·exact s.out (pD _ _ hw).2
  ·exact s.out (pD _ _ hw).1
 ·intro w hw
  rcases (mem w).mp hw with h | h
  ·obtain ⟨a,b,e,h1,h2⟩:=c.pB w h
   exact ⟨a,b,e,TR _ h1,TR _ h2⟩
  ·obtain ⟨a,b,⟨h1,h2⟩,h3⟩:=(eX so).mp h
   have ma:a∈Q ++ [p]:=TR _ h1.1
   have mb:b∈Q ++ [p]:=TR _ h1.2.1
   have mp:p∈Q ++ [p]:=by simp
   rcases h3 with rfl | rfl | rfl
   ·exact ⟨_,_,rfl,mb,ma⟩
   ·exact ⟨_,_,rfl,ma,mp⟩
   ·exact ⟨_,_,rfl,mp,mb⟩
 ·intro u v hw hb
  have Pc: [v,u]∉D:=fun z=>hb ((mem _).mpr (.inl z))
  have N7: [v,u]∉newD Q p:=fun z=>hb ((mem _).mpr (.inr z))
  rcases (mem _).mp hw with h | h
  ·have sd:=c.bare u v h Pc
   refine (gv s sd.1 sd.2.1).mpr ⟨sd,Tj fun z=>N7 ?_⟩
   exact (eX so).mpr ⟨u,v,⟨sd,by omega⟩,.inl rfl⟩
  ·obtain ⟨a,b,⟨h1,h2⟩,h3⟩:=(eX so).mp h
   rcases h3 with h3 | h3 | h3
   ·obtain ⟨rfl,rfl⟩:=aM h3
    rcases c.has v u h1 with k | k
    ·exact (gv s k.1 k.2.1).mpr ⟨k,by have:=bH v u p;omega⟩
    ·exact absurd k Pc
   ·obtain ⟨rfl,rfl⟩:=aM h3
    refine qu s h1 h2 fun c hc=>Tj fun z=>N7 ?_
    exact (eX so).mpr ⟨c,u,⟨hc,by omega⟩,.inr (.inr rfl)⟩
   ·obtain ⟨rfl,rfl⟩:=aM h3
    refine wQ s h1 h2 fun c hc=>Tj fun z=>N7 ?_
    exact (eX so).mpr ⟨v,c,⟨hc,by omega⟩,.inr (.inl rfl)⟩
 ·intro u v sd hw
  rcases (mem _).mp hw with h | h
  ·obtain ⟨mv,mu⟩:=pD _ _ h
   exact c.nu u v ((gv s mu mv).mp sd).1 h
  ·obtain ⟨a,b,⟨h1,h2⟩,h3⟩:=(eX so).mp h
   rcases h3 with h3 | h3 | h3
   ·obtain ⟨rfl,rfl⟩:=aM h3
    have:=((gv s h1.1 h1.2.1).mp sd).2
    omega
   ·obtain ⟨rfl,rfl⟩:=aM h3
    have:=(sd.2.2.2 b (TR _ h1.2.1)).1
    have:=lA v b u
    omega
   ·obtain ⟨rfl,rfl⟩:=aM h3
    have:=(sd.2.2.2 a (TR _ h1.1)).1
    have:=gU a u v
    omega
 ·intro u v sd
  by_cases fl:Flat (Q ++ [p])
  ·exact .inl (tV s fl sd)
  ·right
   obtain ⟨a0,b0,h0,s0⟩:=tU s fl
   obtain ⟨⟨a1,b1,k1,Q2⟩,a2,b2,k2,Q3⟩:=CY so s.yw ((bq so).mpr ⟨h0,s0⟩)
   rcases di sd.1 with mu | rfl
   ·rcases di sd.2.1 with mv | rfl
    ·obtain ⟨N8,ge⟩:=(gv s mu mv).mp sd
     rcases c.has u v N8 with k | k
     ·have fq:=ny N8 k
      have nz:tw u v p≠0:=fun z=>fl (ki N8.2.2.1 fun q hq=>by
       rcases di hq with hq | rfl
       ·exact fq u mu v mv q hq
       ·exact z)
      exact (mem _).mpr (.inr ((eX so).mpr ⟨v,u,⟨k,by have:=bH u v p;omega⟩,.inl rfl⟩))
     ·exact (mem _).mpr (.inl k)
    ·have:=CW s sd (qu s k1.1 k1.2 Q2)
     subst this
     exact (mem _).mpr (.inr ((eX so).mpr ⟨u,b1,k1,.inr (.inl rfl)⟩))
   ·have:=Gs s sd (wQ s k2.1 k2.2 Q3)
    subst this
    exact (mem _).mpr (.inr ((eX so).mpr ⟨a2,v,k2,.inr (.inr rfl)⟩))
end
end L3
namespace L3
theorem nD {v w x y:Pl} (h: [v,w].Perm [x,y]):(v=x∧w=y)∨(v=y∧w=x):=by
 have m:v∈[x,y]:=h.mem_iff.mp (by simp)
 simp only [Tp,Ur,or_false] at m
 rcases m with rfl | rfl
 ·have:=List.Perm.cons_inv h
  exact .inl ⟨rfl,by simpa using this⟩
 ·have:=List.Perm.cons_inv (h.trans (List.Perm.swap v x []))
  exact .inr ⟨rfl,by simpa using this⟩
theorem E8 {a b p:Pl} (h:tw a b p < 0):(dh (rF a b p)).Perm [[b,a],[a,p],[p,b]]:=by
 obtain ⟨⟨u,v,w,e,_,_,pos⟩,pm⟩:=uO (a:=a) (b:=b) (c:=p) (by omega)
 rw [e] at pm ⊢
 have m:u∈[a,b,p]:=pm.mem_iff.mp (by simp)
 simp only [Tp,Ur,or_false] at m
 rcases m with rfl | rfl | rfl
 ·rcases nD (List.Perm.cons_inv pm) with ⟨rfl,rfl⟩ | ⟨rfl,rfl⟩
  ·omega
  ·show ([[u,v],[v,w],[w,u]]:List (List Pl)).Perm [[w,u],[u,v],[v,w]]
   exact Uc (l₁:=[[u,v],[v,w]]) (l₂:=[[w,u]])
 ·rcases nD (List.Perm.cons_inv (pm.trans (List.Perm.swap u a [p]))) with ⟨rfl,rfl⟩ | ⟨rfl,rfl⟩
  ·exact .refl _
  ·have:=gU w u v
   omega
 ·rcases nD (List.Perm.cons_inv (pm.trans (Uc (l₁:=[a,b]) (l₂:=[u])))) with ⟨rfl,rfl⟩ | ⟨rfl,rfl⟩
  ·have:=lA v w u
   omega
  ·show ([[u,v],[v,w],[w,u]]:List (List Pl)).Perm [[v,w],[w,u],[u,v]]
   exact Uc (l₁:=[[u,v]]) (l₂:=[[v,w],[w,u]])
def CZ (p:Pl) (w:List Pl):List Pl:=rF (rS w) (u5 w) p
def wV (qs:List Pl) (k:Nat):Pl:=qs.getD k ⟨0,0⟩
def oU (qs:List Pl):Nat→List (List Pl)
 | 0=>[]
 | k+1=>oU qs k ++ (bR (qs.take k) (wV qs k)).map (CZ (wV qs k))
theorem C0 (xs ys:List (List Pl)):aK (xs ++ ys)=aK xs ++ aK ys:=VS
theorem tW {α β:Type} {f g:α→List β}:∀ {l:List α},(∀ x∈l,(f x).Perm (g x))→(l.flatMap f).Perm (l.flatMap g)
 | [],_=> .refl _
 | a :: l,h=>by
   rw [UH,UH]
   exact (h a (by simp)).append (tW fun x hx=>h x (Tn _ hx))
theorem C3 {Q:List Pl} {p:Pl} (s:cu Q):(aK ((bR Q p).map (CZ p))).Perm (newD Q p):=by
 unfold aK newD
 rw [List.flatMap_map]
 refine tW fun w hw=>?_
 obtain ⟨a,b,rfl⟩:=bS hw
 exact E8 ((bq s).mp hw).2
theorem nE {qs:List Pl} {k:Nat} (h:k < qs.length):qs.take (k+1)=qs.take k ++ [wV qs k]:=by
 rw [VV,Tq h]
 unfold wV
 rw [Um,Tq h]
 rfl
theorem cu.take {qs:List Pl} (s:cu qs) (k:Nat):cu (qs.take k):=⟨s.1.sublist (VA _ _),fun q hq=>s.2 q (UK hq)⟩
theorem zS {qs:List Pl} (s:cu qs):∀ k,k≤qs.length→yy (qs.take k) (aK (oU qs k))
 | 0,_=>yy.nil (by simp)
 | k+1,h=>by
   have st:=s.take (k+1)
   rw [nE (by omega)] at st ⊢
   refine yy.step st (zS s k (by omega)) ?_
   show (aK (oU qs k ++ _)).Perm _
   rw [C0]
   exact (List.Perm.refl _).append (C3 st.old)
theorem E9 {a b p q:Pl} (h:tw a b p < 0) (hq:q=a∨q=b∨q=p):q∈rF a b p:=(uO (a:=a) (b:=b) (c:=p) (by omega)).2.mem_iff.mpr (by simpa using hq)
theorem qv {qs:List Pl} (s:cu qs):∀ k,k≤qs.length→¬ Flat (qs.take k)→∀ q∈qs.take k,∃ t∈oU qs k,q∈t
 | 0,_,nf,_,_=>absurd (gn (by simp)) nf
 | k+1,h,nf,q,hq=>by
   have st:=s.take (k+1)
   rw [nE (by omega)] at st nf hq
   have so:=st.old
   have put:∀ a b,aR (qs.take k) a b→tw a b (wV qs k) < 0→(q=a∨q=b∨q=wV qs k)→∃ t∈oU qs (k+1),q∈t:=fun a b h1 h2 e=>
    ⟨CZ (wV qs k) [a,b],T7 _ (TV.mpr ⟨[a,b],(bq so).mpr ⟨h1,h2⟩,rfl⟩),E9 h2 e⟩
   rcases di hq with hq | rfl
   ·by_cases fl:Flat (qs.take k)
    ·obtain ⟨r,hr,ne⟩:∃ r∈qs.take k,r≠q:=by
      apply Tj
      intro no
      refine nf (wR ?_)
      have:=nj (l:=qs.take k) (m:=[q]) (so.1.imp fun h=>jE h) (fun x hx=>by
       apply Tj
       intro z
       exact no ⟨x,hx,fun e=>z (by rw [e];simp)⟩)
      rw [TL]
      simp at this ⊢
      omega
     obtain ⟨c,hc,nc,_,K6⟩:=u0 so hq hr ne
     have sd:aR (qs.take k) q c:=kj so fl hq hc (Ne.symm nc) fun z hz w=>K6 z hz w
     have nz:tw q c (wV qs k)≠0:=fun z=>nf (ki (Ne.symm nc) fun r hr=>by
      rcases di hr with hr | rfl
      ·exact fl q hq c hc r hr
      ·exact z)
     rcases UJ nz with z | z
     ·exact put q c sd z (.inl rfl)
     ·exact put c q (tV so fl sd) (by have:=bH q c (wV qs k);omega) (.inr (.inl rfl))
    ·obtain ⟨t,ht,m⟩:=qv s k (by omega) fl q hq
     exact ⟨t,TR _ ht,m⟩
   ·obtain ⟨a,b,h1,h2⟩:=tU st nf
    exact put a b h1 h2 (.inr (.inr rfl))
theorem sub_len {α:Type} [DecidableEq α] {l m:List α} (nd:l.Nodup) (sub:∀ x∈l,x∈m):l.length≤m.length:=by
 induction l generalizing m with
 | nil=>simp
 | cons a l ih=>
   obtain ⟨h1,h2⟩:=T4.mp nd
   have ma:=sub a (TN ..)
   have:=ih (m:=m.erase a) h2 fun x hx=>(Wy (show x≠a from fun e=>h1 (e▸hx))).mpr (sub x (Tn _ hx))
   rw [V8 ma] at this
   have:0 < m.length:=Wo ma
   rw [Ug]
   omega
theorem split_len {α:Type} (f:α→Bool):∀ l:List α,l.length=(l.filter f).length+(l.filter (fun v=>!f v)).length
 | []=>rfl
 | a :: l=>by
   have ih:=split_len f l
   rw [UW,UW,Ug]
   cases f a with
   | true=>simp;omega
   | false=>simp;omega
theorem Fb {Q:List Pl} {p:Pl} (s:cu (Q ++ [p])):(SL (Q ++ [p])).length+(bR Q p).length≤(SL Q).length+2:=by
 have so:=s.old
 obtain ⟨I,lI,hI⟩:∃ I:List (List Pl),I.length≤1∧∀ u,aR (Q ++ [p]) u p→[u,p]∈I:=by
  by_cases h:∃ u,aR (Q ++ [p]) u p
  ·obtain ⟨u,hu⟩:=h
   exact ⟨[[u,p]],by simp,fun v hv=>by rw [CW s hv hu];simp⟩
  ·exact ⟨[],by simp,fun v hv=>absurd ⟨v,hv⟩ h⟩
 obtain ⟨O,lO,hO⟩:∃ O:List (List Pl),O.length≤1∧∀ u,aR (Q ++ [p]) p u→[p,u]∈O:=by
  by_cases h:∃ u,aR (Q ++ [p]) p u
  ·obtain ⟨u,hu⟩:=h
   exact ⟨[[p,u]],by simp,fun v hv=>by rw [Gs s hv hu];simp⟩
  ·exact ⟨[],by simp,fun v hv=>absurd ⟨v,hv⟩ h⟩
 have sp:=split_len (DZ p) (SL Q)
 have:=sub_len (l:=SL (Q ++ [p])) (m:=(SL Q).filter (fun v=>!DZ p v) ++ (I ++ O)) (iQ s) (fun w hw=>by
  obtain ⟨a,b,rfl⟩:=gu hw
  have sd:=(bG s).mp hw
  rcases di sd.1 with ma | rfl
  ·rcases di sd.2.1 with mb | rfl
   ·obtain ⟨h1,h2⟩:=(gv s ma mb).mp sd
    refine TR _ (Tu.mpr ⟨(bG so).mpr h1,?_⟩)
    show (!decide (tw a b p < 0))=true
    rw [decide_eq_false (by omega)]
    rfl
   ·exact T7 _ (TR _ (hI a sd))
  ·exact T7 _ (T7 _ (hO b sd)))
 rw [TL,TL] at this
 unfold bR
 omega
theorem zT {qs:List Pl} (s:cu qs):∀ k,k≤qs.length→∀ t∈oU qs k,fE qs t
 | 0,_,t,ht=>by cases ht
 | k+1,h,t,ht=>by
   rcases TU.mp ht with ht | ht
   ·exact zT s k (by omega) t ht
   ·obtain ⟨w,hw,rfl⟩:=TV.mp ht
    obtain ⟨a,b,rfl⟩:=bS hw
    obtain ⟨h1,h2⟩:=(bq (s.take k)).mp hw
    obtain ⟨h3,h4⟩:=uO (a:=a) (b:=b) (c:=wV qs k) (by omega)
    refine ⟨h3,fun q hq=>?_⟩
    have:=h4.mem_iff.mp hq
    simp only [Tp,Ur,or_false] at this
    rcases this with rfl | rfl | rfl
    ·exact UK h1.1
    ·exact UK h1.2.1
    ·unfold wV
     rw [Um,Tq (by omega)]
     exact VL _
end L3
namespace L3
def Q4 (a b c:Pl):Prop:=aG (lo a b) c∧aG c (hi a b)∧tw a b c=0
instance (a b c:Pl):Decidable (Q4 a b c):=inferInstanceAs (Decidable (_∧_))
def Q5 (a b c d:Pl):Prop:=(tw a b c).sign*(tw a b d).sign= -1∧(tw c d a).sign*(tw c d b).sign= -1
instance (a b c d:Pl):Decidable (Q5 a b c d):=inferInstanceAs (Decidable (_∧_))
end L3
namespace L3
open PySem L2
end L3
namespace PySem.SetTable
def N9:Nat→SetTable→Probe→Probe
 | 0,_,p=>p
 | k+1,t,p=>N9 k t (t.advance p)
def Ie (mask:Nat):Prop:=mask=7∨mask=31∨mask=127∨mask=511
def Good (t:SetTable) (n:Nat):Prop:=t.place.size=n∧t.dummies= #[]∧Ie t.mask∧n*5 < t.mask*3
def live (mask:Nat) (owner:Array (Option Nat)):List (Nat ×Nat):=(List.range (mask+1)).filterMap fun j=>(owner.getD j none).map (j,·)
def Own (mask:Nat) (owner:Array (Option Nat)) (k:Nat):Prop:=owner.size=mask+1∧(live mask owner).length=k∧∀ (j v:Nat),owner[j]?=some (some v)→v < k
end PySem.SetTable
namespace PySem
open SetTable
structure eY (prog:Program) (w:World) (κ:Type) where
 is:Heap→κ→Addr→Prop
 hash:κ→Int
 draws:κ→Nat
 room:Around→Prop
 typ:∀ {s:Shared} {k:κ} {a:Addr},is s.heap k a→s.TypeIs (.ref a) "tuple"
 keeps:∀ {h h':Heap} {k:κ} {a:Addr},is h k a→(∀ b o,h.get? b=some o→o.cls= .type "tuple"→h'.get? b=some o)→is h' k a
 pyHash:∀ {A:Around} {E:Value→Shared→Prop} {s:Shared} {k:κ} {a:Addr} {Q:Int→Shared→Prop},room A→is s.heap k a→Q (hash k) { s with toks:=s.toks+draws k }→wpAny (model prog w) A (pyHash (.ref a)) Q E s
 other:∀ {A:Around} {E:Value→Shared→Prop} {s:Shared} {k l:κ} {a b:Addr} {Q:Bool→Shared→Prop},room A→is s.heap k a→is s.heap l b→k≠l→Q false s→wpAny (model prog w) A (eqBool (.ref a) (.ref b)) Q E s
 quiet:∀ {A:Around} {E:Value→Shared→Prop} {s:Shared} {k:κ} {a:Addr} {Q:Bool→Shared→Prop},is s.heap k a→Q true s→wpAny (model prog w) A (eqIsQuiet 8 (.ref a)) Q E s
 zU:∀ {A:Around} {E:Value→Shared→Prop} {s:Shared} {k:κ} {a:Addr} {Q:Bool→Shared→Prop},is s.heap k a→Q false s→wpAny (model prog w) A (ofAClassStatement 8 (.ref a)) Q E s
 Gu:∀ {A:Around} {E:Value→Shared→Prop} {s:Shared} {k:κ} {a:Addr} {Q:Bool→Shared→Prop},is s.heap k a→Q true s→wpAny (model prog w) A (hashByValue 8 (.ref a)) Q E s
section
variable {prog:Program} {w:World} {κ:Type} {T:eY prog w κ} {A:Around} {E:Value→Shared→Prop} {s:Shared}
end
end PySem
namespace PySem
open SetTable
section
variable {prog:Program} {w:World} {κ:Type} {T:eY prog w κ} {A:Around} {R:Result→Shared→Prop} {I:Addr} {fp wr:List Addr} {G:Array GenState→Array GenState→Prop} {n:Nat} {P:Nat→Value→Prop} {St:Nat→Shared→Prop}
end
section
variable {prog:Program} {w:World} {κ:Type} {T:eY prog w κ} {A:Around} {E:Value→Shared→Prop} {s:Shared}
end
end PySem
namespace PySem
open SetTable
section
variable {prog:Program} {w:World} {A:Around} {E:Value→Shared→Prop} {s:Shared}
end
end PySem
namespace L3
open PySem PySem.Spec PyProof.Rows L2
section
variable {X:Cx} {pos:Pos}
end
end L3
namespace PySem
open SetTable
section
variable (prog:Program) (w:World)
inductive bV (h:Heap):List (List Int)→List Value→Prop
 | nil:bV h [] []
 | cons {k:List Int} {b:Addr} {ks:List (List Int)} {vs:List Value}:IsTupleKey (intKind prog w) h k b→bV h ks vs→bV h (k :: ks) (.ref b :: vs)
def dD (h:Heap) (ks:List (List Int)) (a:Addr):Prop:= ∃ o items n,h.get? a=some o∧o.cls= .type "tuple"∧o.data= .seq items n∧bV prog w h ks items.toList
end
section
variable {prog:Program} {w:World}
theorem dD.typ {s:Shared} {ks:List (List Int)} {a:Addr} (x:dD prog w s.heap ks a):s.TypeIs (.ref a) "tuple" :=let ⟨o,_,_,ho,hc,_⟩:=x;⟨o,ho,hc⟩
variable {A:Around} {E:Value→Shared→Prop} {s:Shared}
def yz (ks:List (List Int)):Nat:=(ks.map fun k=>k.length+1).sum+1
def C4 (prog:Program) (w:World) (ks:List (List Int)):Int:=reduceHash (Builtin.Tuple.tupleHashOf (ks.map (tupleKeyHash (intKind prog w))))
theorem A7 {ks:List (List Int)} {a:Addr} {Q:Int→Shared→Prop} (hu:A.units+8 < cLine) (hk:dD prog w s.heap ks a) (h:Q (C4 prog w ks) { s with toks:=s.toks+yz ks }) :
 wpAny (model prog w) A (pyHash (.ref a)) Q E s:=by
 have hT:=hk.typ
 obtain ⟨o,items,n,ho,_,hd,hi⟩:=hk
 unfold pyHash pyHashByItsType
 refine wpAny_bind (wpAny_cRoomFor_or (.inr (by omega)) ?_)
 refine wpAny_bind (wpAny_specialOf hT F.slot_tuple_hash.lookup ?_)
 refine (?_:wpAny _ _ (if (some (Value.builtin "tuple.__hash__") == some Value.none)=true then _ else _) Q E s)
 rw [if_neg (by rw [beq_builtin_none];exact TJ)]
 refine wpAny_bind (wpAny_specialOf hT F.slot_tuple_hash.lookup ?_)
 refine (?_:wpAny _ _ (callSpecialIfBoundUnlessNone? (.ref a) "__hash__" _ >>= _) Q E s)
 refine wpAny_bind (wpAny_callSpecialIfBoundUnlessNone?_slot hT F.slot_tuple_hash (wpAny_call_entry F.slot_tuple_hash hT F.entry_tuple_hash ?_ (F.args_tuple_hash_1 _)))
 refine (?_:wpAny _ _ (Builtin.Tuple.tupleItemsOf (.ref a) >>= _) _ _ s)
 refine wpAny_bind (wpAny_tupleItemsOf ho hd (wpAny_bind ?_))
 rw [← Array.forIn_toList]
 refine wpAny_forIn_list _ (fun rest (b:Array Int) s'=> ∃ done left,ks=done ++ left∧bV prog w s.heap left rest∧b.toList=done.map (tupleKeyHash (intKind prog w))∧s'= { s with toks:=s.toks+(done.map fun k=>k.length+1).sum }) _ ?_ ?_ _ _ ⟨[],ks,rfl,hi,rfl,rfl⟩
 ·rintro x rest b s' ⟨done,left,rfl,hl,hb,rfl⟩
  cases hl with
  | @cons k c ks' _ h1 hl'=>
    refine wpAny_bind (wpAny_pyHash_tuple (s:={ s with toks:=s.toks+(done.map fun k=>k.length+1).sum }) (by show A.units+1 < cLine;omega) h1 ?_)
    have fin:∃ C5 Gv,done ++ k :: ks'=C5 ++ Gv∧bV prog w s.heap Gv rest∧(b.push (tupleKeyHash (intKind prog w) k)).toList=C5.map (tupleKeyHash (intKind prog w))∧
     ({ s with toks:=s.toks+(done.map fun k=>k.length+1).sum+(k.length+1) }:Shared)= { s with toks:=s.toks+(C5.map fun k=>k.length+1).sum }:=
     ⟨done ++ [k],ks',by simp,hl',by simp [hb],by simp [WD]⟩
    first
     | exact wpAny_pure fin
     | exact wpAny_bind (wpAny_pure (wpAny_pure fin))
 ·rintro b s' ⟨done,left,rfl,hl,hb,rfl⟩
  cases hl
  rw [UR] at h
  refine (?_:wpAny _ _ (retInt (Builtin.Tuple.tupleHashOf b.toList)) _ _ _)
  rw [hb]
  refine wpAny_ret_mkInt ?_
  unfold C4 reduceHash yz at h
  generalize Builtin.Tuple.tupleHashOf (done.map (tupleKeyHash (intKind prog w)))=z at h ⊢
  refine (?_:wpAny _ _ (if (decide (-(2:Int) ^ 63≤z) && decide (z < 2 ^ 63))=true then _ else _) Q E _)
  by_cases c:(decide (-(2:Int) ^ 63≤z) && decide (z < 2 ^ 63))=true
  ·rw [if_pos c] at h ⊢
   exact wpAny_pure (by simpa [WD] using h)
  ·rw [if_neg c] at h ⊢
   exact wpAny_bind (wpAny_rule (wpAny_pure (by simpa [WD] using h)))
theorem wW {x y:List (List Int)} {a b:Addr} {P:Fin→Shared→Prop} (hu:A.units+4 < cLine) (hx:dD prog w s.heap x a) (hy:dD prog w s.heap y b) (h:P (.done (.ret (.bool (decide (x=y))))) s) :
 wpAny (model prog w) A (Builtin.«tuple.__eq__» ⟨[.ref a,.ref b],[]⟩) P E s:=by
 have hTb:=hy.typ
 obtain ⟨oa,xs,na,hoa,_,hda,Q6⟩:=hx
 obtain ⟨ob,ys,nb,hob,_,hdb,hib⟩:=hy
 refine (?_:wpAny _ _ (isInstance (.ref b) (.type "tuple") >>= _) _ _ s)
 refine wpAny_bind (wpAny_isInstance hTb isSubtype_tuple_tuple ?_)
 simp only [UA,TH,if_false]
 refine wpAny_bind (wpAny_tupleItemsOf hoa hda (wpAny_bind (wpAny_tupleItemsOf hob hdb (wpAny_bind ?_))))
 refine wpAny_forIn_list _ (fun rest r s'=>r.1=none∧s'=s∧∃ x' y' us vs,rest=List.zip us vs∧bV prog w s.heap x' us∧bV prog w s.heap y' vs∧decide (x'=y')=decide (x=y)∧(us.length == vs.length)=(xs.size == ys.size)) _ ?_ ?_ _ _ ⟨rfl,rfl,x,y,xs.toList,ys.toList,rfl,Q6,hib,rfl,by simp⟩
 ·rintro ⟨u,v⟩ rest r s' ⟨hr,rfl,x',y',us,vs,hz,hx',hy',Fc,hlen⟩
  cases hx' with
  | nil=>simp at hz
  | @cons k1 c1 Pd us' h1 Oa=>
    cases hy' with
    | nil=>simp at hz
    | @cons k2 c2 Pe vs' h2 Ob=>
      simp only [UY,List.cons.injEq,Prod.mk.injEq] at hz
      obtain ⟨⟨rfl,rfl⟩,rfl⟩:=hz
      refine wpAny_bind (wpAny_eqBool_tuple (by omega) h1 h2 ?_)
      by_cases hk:k1=k2
      ·subst hk
       rw [decide_eq_true rfl]
       simp only [UA,TH,if_false]
       refine wpAny_pure ⟨rfl,rfl,Pd,Pe,us',vs',rfl,Oa,Ob,?_,by simpa using hlen⟩
       rw [← Fc]
       by_cases c:Pd=Pe <;> simp [c]
      ·rw [decide_eq_false hk]
       simp only [U5,if_true]
       rw [show decide (x=y)=false by rw [← Fc];simp [hk]] at h
       exact wpAny_bind (wpAny_pure (wpAny_pure (wpAny_pure h)))
 ·rintro ⟨r1,r2⟩ s' ⟨hr,rfl,x',y',us,vs,hz,hx',hy',Fc,hlen⟩
  simp only at hr
  subst hr
  refine wpAny_pure ?_
  have Oc:(xs.size == ys.size)=decide (x=y):=by
   rw [← Fc,← hlen]
   cases hx' with
   | nil=>cases hy' <;> simp
   | cons _ _=>
     cases hy' with
     | nil=>simp
     | cons _ _=>simp at hz
  refine (?_:P (.done (.ret (.bool (xs.size == ys.size)))) s')
  rw [Oc]
  exact h
theorem bV.inj {h:Heap} {x y:List (List Int)} {vs:List Value} (hx:bV prog w h x vs) (hy:bV prog w h y vs):x=y:=by
 induction hx generalizing y with
 | nil=>cases hy;rfl
 | cons h1 _ ih=>
   cases hy with
   | cons h2 t2=>rw [h1.inj h2,ih t2]
theorem dD.inj {h:Heap} {a:Addr} {x y:List (List Int)} (hx:dD prog w h x a) (hy:dD prog w h y a):x=y:=by
 obtain ⟨o,items,n,ho,_,hd,hi⟩:=hx
 obtain ⟨o',items',n',ho',_,hd',hi'⟩:=hy
 rw [ho] at ho'
 cases ho'
 rw [hd] at hd'
 injection hd' with h1 _
 subst h1
 exact hi.inj hi'
theorem Ig {x y:List (List Int)} {a b:Addr} {Q:Bool→Shared→Prop} (hu:A.units+8 < cLine) (hx:dD prog w s.heap x a) (hy:dD prog w s.heap y b) (ne:x≠y) (h:Q false s) :
 wpAny (model prog w) A (eqBool (.ref a) (.ref b)) Q E s:=by
 unfold eqBool
 try with_reducible refine wpAny_holding ?_
 refine (?_:wpAny _ _ (if (Value.ref a == Value.ref b)=true then _ else _) Q E s)
 by_cases hab:(Value.ref a == Value.ref b)=true
 ·have e:a=b:=by have:=eq_of_beq hab;injection this
  subst e
  exact absurd (hx.inj hy) ne
 ·rw [if_neg hab]
  exact wpAny_bind (wpAny_richCompare_same_room (op:= .Eq) hx.typ hy.typ F.slot_tuple_eq
   (wpAny_call_entry F.slot_tuple_eq hx.typ F.entry_tuple_eq (wW (by show A.units+1+4 < cLine;omega) hx hy (by rw [decide_eq_false ne];exact ⟨_,rfl,(fun e=>nomatch e),wpAny_truthy_bool h⟩)) (F.args_tuple_eq_2 _ _)) (by omega))
theorem C6 (d:Nat) {k:List Int} {a:Addr} {Q:Bool→Shared→Prop} (hx:IsTupleKey (intKind prog w) s.heap k a) (q:Q true s):wpAny (model prog w) A (eqIsQuiet (d+1) (.ref a)) Q E s:=by
 have hT:=hx.typeIs
 obtain ⟨o,items,n,ho,_,hd,hi⟩:=hx
 unfold eqIsQuiet
 refine wpAny_bind (wpAny_specialOf hT F.slot_tuple_eq.lookup ?_)
 refine (?_:wpAny _ _ (isInstance (.ref a) (.type "tuple") >>= _) _ _ s)
 refine wpAny_bind (wpAny_isInstance hT isSubtype_tuple_tuple ?_)
 simp only [UA,TH,if_false]
 refine wpAny_bind (wpAny_seqItems ho hd (wpAny_bind ?_))
 refine (?_:wpAny _ _ (forIn items _ _) _ _ s)
 rw [← Array.forIn_toList]
 refine wpAny_forIn_list _ (fun rest r s'=>r.1=none∧s'=s∧∀ v∈rest,carriedByValue v=true) _ ?_ ?_ _ _ ⟨rfl,rfl,hi.byValue⟩
 ·rintro v rest r s' ⟨hr,rfl,hall⟩
  rw [eqIsQuiet_byValue _ (hall v TN)]
  refine wpAny_bind (wpAny_pure ?_)
  simp only [UA,TH,if_false]
  exact wpAny_pure ⟨rfl,rfl,fun u jo=>hall u (Tn _ jo)⟩
 ·rintro ⟨r1,r2⟩ s' ⟨hr,rfl,_⟩
  simp only at hr
  subst hr
  exact wpAny_pure q
theorem bV.all {h:Heap} {x:List (List Int)} {vs:List Value} (hx:bV prog w h x vs):∀ v∈vs,∃ b k,v= .ref b∧IsTupleKey (intKind prog w) h k b:=by
 induction hx with
 | nil=>intro v hv;cases hv
 | cons h1 _ ih=>
   intro v hv
   rcases Tp.mp hv with rfl | hv
   ·exact ⟨_,_,rfl,h1⟩
   ·exact ih v hv
theorem Ih {k:List (List Int)} {a:Addr} {Q:Bool→Shared→Prop} (hx:dD prog w s.heap k a) (q:Q true s):wpAny (model prog w) A (eqIsQuiet 8 (.ref a)) Q E s:=by
 have hT:=hx.typ
 obtain ⟨o,items,n,ho,_,hd,hi⟩:=hx
 unfold eqIsQuiet
 refine wpAny_bind (wpAny_specialOf hT F.slot_tuple_eq.lookup ?_)
 refine (?_:wpAny _ _ (isInstance (.ref a) (.type "tuple") >>= _) _ _ s)
 refine wpAny_bind (wpAny_isInstance hT isSubtype_tuple_tuple ?_)
 simp only [UA,TH,if_false]
 refine wpAny_bind (wpAny_seqItems ho hd (wpAny_bind ?_))
 refine (?_:wpAny _ _ (forIn items _ _) _ _ s)
 rw [← Array.forIn_toList]
 refine wpAny_forIn_list _ (fun rest r s'=>r.1=none∧s'=s∧∀ v∈rest,∃ b k,v=Value.ref b∧IsTupleKey (intKind prog w) s.heap k b) _ ?_ ?_ _ _ ⟨rfl,rfl,hi.all⟩
 ·rintro v rest r s' ⟨hr,rfl,hall⟩
  obtain ⟨b,k,rfl,hb⟩:=hall v TN
  refine wpAny_bind (C6 6 hb ?_)
  simp only [UA,TH,if_false]
  exact wpAny_pure ⟨rfl,rfl,fun u jo=>hall u (Tn _ jo)⟩
 ·rintro ⟨r1,r2⟩ s' ⟨hr,rfl,_⟩
  simp only at hr
  subst hr
  exact wpAny_pure q
end
end PySem
namespace L3
open PySem PySem.Spec PyProof.Rows L2
def jR (w:List Pl):List (List Int):=w.map fun p=>[p.x,p.y]
section
variable {X:Cx} {pos:Pos}
end
end L3
namespace PySem.SetTable
def K7 (xs:Array Nat):Prop:= ∀ (i j a b:Nat),i < j→xs[i]?=some a→xs[j]?=some b→a < b
def Q7 (t:SetTable) (j:Nat):Prop:= ∃ i:Nat,t.place[i]?=some j
def Way (t:SetTable) (Q8:Nat→Prop) (h:Int) (j:Nat):Prop:= ∃ K,K < 10*turns t.mask∧(N9 K t (t.probeStart h)).j=j∧∀ m,m < K→Q8 (N9 m t (t.probeStart h)).j
structure Reach (t:SetTable) (es:Array (Int ×Value)):Prop where
 rise:K7 t.place
 at_:∀ (i:Nat) (e:Int ×Value),es[i]?=some e→∃ j,t.place[i]?=some j∧Way t (Q7 t) e.1 j
def Od (owner:Array (Option Nat)) (x:Nat):Prop:= ∃ v,owner[x]?=some (some v)
structure Laid (t:SetTable) (owner:Array (Option Nat)) (done:List Int):Prop where
 own:Own t.mask owner done.length
 way:∀ (j v:Nat),owner[j]?=some (some v)→∃ h,done[v]?=some h∧Way t (Od owner) h j
 all:∀ v,v < done.length→∃ j:Nat,owner[j]?=some (some v)
end PySem.SetTable
namespace PySem
open SetTable
structure LS {prog:Program} {w:World} {κ:Type} (T:eY prog w κ):Prop where
 same:∀ {A:Around} {E:Value→Shared→Prop} {s:Shared} {k:κ} {a b:Addr} {Q:Bool→Shared→Prop},T.room A→T.is s.heap k a→T.is s.heap k b→Q true s→wpAny (model prog w) A (eqBool (.ref a) (.ref b)) Q E s
section
variable {prog:Program} {w:World} {κ:Type} {T:eY prog w κ} {A:Around} {E:Value→Shared→Prop} {s:Shared}
end
end PySem
namespace PySem
open SetTable
section
variable {prog:Program} {w:World} {κ:Type} {T:eY prog w κ} {A:Around} {R:Result→Shared→Prop} {I:Addr} {fp wr:List Addr} {G:Array GenState→Array GenState→Prop} {n:Nat} {P:Nat→Value→Prop} {St:Nat→Shared→Prop}
end
section
variable {prog:Program} {w:World} {κ:Type} {T:eY prog w κ} {A:Around} {E:Value→Shared→Prop} {s:Shared}
end
end PySem
namespace PySem
open SetTable
namespace F
end F
structure Q9 (w:World) (h:Heap) (S:Addr) (es:Array (Int ×Value)) (ep:Nat) (t:SetTable):Prop where
 at':∃ o,h.get? S=some o∧o.ExactSet∧o.data= .set es ep t
 good:t.Good es.size
 rise:K7 t.place
 led:t.led=!(w.params.followText "set-order")
 plain:t.plain=true
section
variable {prog:Program} {w:World} {A:Around} {E:Value→Shared→Prop} {s:Shared} {I S:Addr} {es:Array (Int ×Value)} {ep slot i:Nat} {t:SetTable}
end
end PySem
namespace PySem
open SetTable
section
variable {prog:Program} {w:World} {A:Around} {E:Value→Shared→Prop} {s:Shared} {S:Addr} {es:Array (Int ×Value)} {ep:Nat} {t:SetTable}
end
end PySem
namespace PySem
open SetTable
def eY.only {prog:Program} {w:World} {κ:Type} (T:eY prog w κ) (p:Addr→Prop):eY prog w κ where
 is:=fun h k b=>T.is h k b∧p b
 hash:=T.hash
 draws:=T.draws
 room:=T.room
 typ:=fun x=>T.typ x.1
 keeps:=fun x k=>⟨T.keeps x.1 k,x.2⟩
 pyHash:=fun hu hk h=>T.pyHash hu hk.1 h
 other:=fun hu hx hy ne h=>T.other hu hx.1 hy.1 ne h
 quiet:=fun hk h=>T.quiet hk.1 h
 zU:=fun hk h=>T.zU hk.1 h
 Gu:=fun hk h=>T.Gu hk.1 h
theorem K8 {prog:Program} {w:World} {A:Around} {E:Value→Shared→Prop} {s:Shared} {x:List (List Int)} {a b:Addr} {Q:Bool→Shared→Prop} (hu:A.units+8 < cLine) (hx:dD prog w s.heap x a) (hy:dD prog w s.heap x b) (h:Q true s) :
 wpAny (model prog w) A (eqBool (.ref a) (.ref b)) Q E s:=by
 unfold eqBool
 try with_reducible refine wpAny_holding ?_
 refine (?_:wpAny _ _ (if (Value.ref a == Value.ref b)=true then _ else _) Q E s)
 by_cases hab:(Value.ref a == Value.ref b)=true
 ·rw [if_pos hab]
  exact (wpAny_pure h:wpAny (model prog w) A (pure true) Q E s)
 ·rw [if_neg hab]
  exact wpAny_bind (wpAny_richCompare_same_room (op:= .Eq) hx.typ hy.typ F.slot_tuple_eq
   (wpAny_call_entry F.slot_tuple_eq hx.typ F.entry_tuple_eq (wW (by show A.units+1+4 < cLine;omega) hx hy (by rw [decide_eq_true rfl];exact ⟨_,rfl,(fun e=>nomatch e),wpAny_truthy_bool h⟩)) (F.args_tuple_eq_2 _ _)) (by omega))
end PySem
namespace L3
open PySem PySem.Spec PyProof.Rows L2
end L3
namespace L3
open PySem PySem.Spec PyProof.Rows L2
section
variable {X:Cx} {pos:Pos}
end
end L3
namespace PySem
theorem bV.Ii {prog:Program} {w:World} {h h':Heap} {ks:List (List Int)} {vs:List Value} {d:Addr} {o:Obj} {es:Array DictEntry} {ep:Nat} (x:bV prog w h ks vs) (ho:h.get? d=some o) (hd:o.data= .dict es ep) (hs:Heap.SameBut d h h'):bV prog w h' ks vs:=by
 induction x with
 | nil=>exact .nil
 | cons a _ ih=>exact .cons (a.keeps ho hd hs) ih
def jS (prog:Program) (w:World):HeapKind prog w (List (List Int)) where
 is:=dD prog w
 hash:=C4 prog w
 draws:=yz
 room:=fun A=>A.units+8 < cLine
 inj:=fun hx hy=>hx.inj hy
 keeps:=fun {h h' k a d o es ep} x ho hd hs=>by
  obtain ⟨o',items,n,ho',hc,hd',hi⟩:=x
  have hne:a≠d:=by
   rintro rfl
   obtain rfl:o'=o:=Option.some.inj (ho'.symm.trans ho)
   rw [hd] at hd';exact nomatch hd'
  exact ⟨o',items,n,(hs.2 a hne).trans ho',hc,hd',hi.Ii ho hd hs⟩
 pyHash:=fun hu hk h=>A7 hu hk h
 eqBool:=fun {A E s x y a b Q} hu hx hy h=>by
  by_cases e:x=y
  ·subst e
   rw [decide_eq_true rfl] at h
   exact K8 hu hx hy h
  ·rw [decide_eq_false e] at h
   exact Ig hu hx hy e h
 quiet:=fun hk h=>Ih hk h
def zV {prog:Program} {w:World} {K:Type} [DecidableEq K] (knd:HeapKind prog w K) (h:Heap) (d:Addr) (xs:List (K ×Addr ×Value)):Prop:= ∃ o es,h.get? d=some o∧o.ExactDict∧o.data= .dict es xs.length∧es.toList=xs.map (entryOfKey knd)
theorem C7 {prog:Program} {w:World} {K:Type} [DecidableEq K] {knd:HeapKind prog w K} {A:Around} {E:Value→Shared→Prop} {s:Shared} {d a:Addr} {k:K} {v:Value} {xs:List (K ×Addr ×Value)} {Q:Unit→Shared→Prop} (hu:knd.room A) (hkey:knd.is s.heap k a) (hl:zV knd s.heap d xs) (hm:s.heap.DictOfH knd d xs) (hsz:xs.length≤sizeLine)
 (q:∀ h',zV knd h' d (storedH xs k a v)→Heap.SameBut d s.heap h'→Q () { s with heap:=h',toks:=s.toks+knd.draws k }):wpAny (model prog w) A (dictSet d (.ref a) v) Q E s:=by
 obtain ⟨_,_,_,_,_,_,_,his,hn⟩:=hm
 obtain ⟨o,es,ho,hc,hd,he⟩:=hl
 unfold dictSet
 try with_reducible refine wpAny_holding ?_
 refine wpAny_bind (knd.pyHash hu hkey ?_)
 unfold dictSetHashed
 try with_reducible refine wpAny_holding ?_
 refine wpAny_bind (wpAny_dictFind_heap (s:={ s with toks:=s.toks+knd.draws k }) hu hkey ho hd he his hn (fun no=>?_) fun j p hj=>?_)
 ·have e:=storedH_new (atKey_none_of_get no) a v
  have el:xs.length+1=(storedH xs k a v).length:=by rw [e,TL];rfl
  refine wpAny_bind (wpAny_rule (wpAny_updateDictKeys (hz:=by have e:=size_of_entries he;omega) (s:={ s with toks:=s.toks+knd.draws k }) ho hd (q _ ⟨_,_,Heap.get?_update_self _ ho (Obj.isFreed_of_dict (Obj.data_mapDictKeys hd _)),hc.mapDictKeys _,(Obj.data_mapDictKeys hd _).trans (congrArg (fun n=>Data.dict _ n) el),?_⟩ (Heap.SameBut.update ..))))
  rw [e]
  simp [he,entryOfKey]
 ·have e:=storedH_old (atKey_of_get hn hj) a v
  have el:xs.length=(storedH xs k a v).length:=by rw [e,To]
  refine wpAny_bind (wpAny_rule (wpAny_bind (wpAny_updateDict (s:={ s with toks:=s.toks+knd.draws k }) ho hd (wpAny_point (q _ ⟨_,_,Heap.get?_update_self _ ho (Obj.isFreed_of_dict (Obj.data_mapDict hd _)),hc.mapDict _,(Obj.data_mapDict hd _).trans (congrArg (fun n=>Data.dict _ n) el),?_⟩ (Heap.SameBut.update ..))))))
  rw [e]
  have:=modify_map_putAt (entryOfKey knd) (fun e:DictEntry=>{ e with val:=v }) k v (fun _ _=>rfl) hn hj
  rw [← he] at this
  obtain ⟨l⟩:=es
  simpa using this
theorem wX {prog:Program} {w:World} {K:Type} [DecidableEq K] {knd:HeapKind prog w K} {A:Around} {E:Value→Shared→Prop} {s:Shared} {d a:Addr} {k:K} {v:Value} {xs:List (K ×Addr ×Value)} {Q:Unit→Shared→Prop} (hu:knd.room A.in1) (hkey:knd.is s.heap k a) (hl:zV knd s.heap d xs) (hm:s.heap.DictOfH knd d xs) (hsz:xs.length≤sizeLine)
 (q:∀ h',zV knd h' d (storedH xs k a v)→Heap.SameBut d s.heap h'→Q () { s with heap:=h',toks:=s.toks+knd.draws k }):wpAny (model prog w) A (setItem (.ref d) (.ref a) v) Q E s:=by
 unfold setItem
 try with_reducible refine wpAny_holding ?_
 refine wpAny_bind (wpAny_sequenceKey hm.typeIs (by decide) (wpAny_bind (wpAny_callSpecial?_slot (name:=Str.ofString "__setitem__") hm.typeIs slot_dict_setitem (wpAny_call_entry slot_dict_setitem hm.typeIs entry_dict_setitem ?_ (args_dict_setitem _ _ _)))))
 show wpAny _ _ (Builtin.Dict.notOrdered "__setitem__" ⟨[.ref d,.ref a,v],[]⟩ >>= _) _ _ s
 refine wpAny_bind (wpAny_notOrdered_dict hm.typeIs ?_)
 show wpAny _ _ (dictSet d (.ref a) v >>= _) _ _ s
 exact wpAny_bind (C7 hu hkey hl hm hsz fun h' l m=>wpAny_pure ⟨.none,rfl,wpAny_pure (q h' l m)⟩)
theorem qw {prog:Program} {w:World} {K:Type} [DecidableEq K] {knd:HeapKind prog w K} {A:Around} {E:Value→Shared→Prop} {s:Shared} {d a:Addr} {k:K} {xs:List (K ×Addr ×Value)} {Q:Value→Shared→Prop} (hu:knd.room A.in1) (hkey:knd.is s.heap k a) (hd:(d == sysModules)=false) (hm:s.heap.DictOfH knd d xs)
 (h:Q (.bool (!(atKey xs k).isSome)) { s with toks:=s.toks+knd.draws k }):wpAny (model prog w) A (compareOp .NotIn (.ref a) (.ref d)) Q E s:=by
 show wpAny _ _ (do return .bool (!(← contains (.ref d) (.ref a)))) Q E s
 refine wpAny_bind ?_
 unfold contains
 try with_reducible refine wpAny_holding ?_
 refine wpAny_bind (wpAny_specialOf hm.typeIs slot_dict_contains.lookup ?_)
 show wpAny _ _ (if (some (Value.builtin "dict.__contains__") == some Value.none)=true then _ else _) _ E s
 rw [if_neg (by rw [beq_builtin_none];exact TJ)]
 refine wpAny_bind (wpAny_callSpecialUnlessNone?_slot (name:=Str.ofString "__contains__") hm.typeIs slot_dict_contains
  (wpAny_call_entry slot_dict_contains hm.typeIs entry_dict_contains ?_ (args_dict_contains _ _)))
 show wpAny _ _ (dictGet d (.ref a) >>= _) _ _ s
 refine wpAny_bind (wpAny_dictGet_heap hu hkey hm ?_)
 cases hf:atKey xs k with
 | some p=>
   rw [hf] at h
   show wpAny _ _ (ret (.bool true)) _ _ _
   exact wpAny_pure ⟨_,rfl,wpAny_truthy_bool (wpAny_pure h)⟩
 | none=>
   rw [hf] at h
   show wpAny _ _ (Builtin.Dict.pendingKey? d (.ref a) >>= _) _ _ _
   exact wpAny_bind (wpAny_pendingKey_other hd (wpAny_pure ⟨_,rfl,wpAny_truthy_bool (wpAny_pure h)⟩))
end PySem
namespace L3
open PySem PySem.Spec PyProof.Rows L2
def oE (kvs:List (List (List Int) ×D)) (k:List (List Int)):Option D:=(kvs.find? fun p=>decide (p.1=k)).map (·.2)
def tX (kvs:List (List (List Int) ×D)) (k:List (List Int)) (d:D):List (List (List Int) ×D):=if (oE kvs k).isSome then kvs.map fun p=>if p.1=k then (p.1,d) else p else kvs ++ [(k,d)]
theorem C8 {P:Program} {w:World} {K:PySem.W.Frag} {H:Hp} {h:Heap} (ok:iX P w H h) {l:List Int} {v:V} {u:Value} (d:Dat K H (.tup (l.map .int)) v) (r:RelV v u):∃ b,u= .ref b∧IsTupleKey (intKind P w) h l b:=by
 obtain ⟨a,xs,rfl,ha,hx⟩:=aU.mp d
 obtain rfl:u=Value.ref a:=r
 obtain ⟨its,rv,⟨o,h1,h2,n,h3⟩,hsz⟩:=dc ok ha
 refine ⟨a,rfl,o,its.toArray,n,h1,h2,h3,?_⟩
 rw [Vd]
 clear h3 h2 h1 ha d hsz
 induction l generalizing xs its with
 | nil=>
   rw [aE.mp hx] at rv
   cases rv
   exact .nil
 | cons i l ih=>
   obtain ⟨v,vs,rfl,d1,d2⟩:=aA.mp hx
   cases rv with
   | cons r1 r2=>
     obtain rfl:=aJ.mp d1
     obtain ⟨t,rfl⟩:=r1
     exact .cons (intKind_is _ _ _ _) (ih _ d2 _ r2)
theorem u7 {P:Program} {w:World} {K:PySem.W.Frag} {H:Hp} {h:Heap} (ok:iX P w H h) {k:List (List Int)} {b:Addr} (d:Dat K H (kD k) (.ref b)):dD P w h k b:=by
 obtain ⟨a,xs,e,ha,hx⟩:=aU.mp d
 cases e
 obtain ⟨its,rv,⟨o,h1,h2,n,h3⟩,hsz⟩:=dc ok ha
 refine ⟨o,its.toArray,n,h1,h2,h3,?_⟩
 rw [Vd]
 clear h3 h2 h1 ha d hsz
 induction k generalizing xs its with
 | nil=>
   rw [show ([]:List (List Int)).map (fun l=>D.tup (l.map .int))= [] from rfl] at hx
   rw [aE.mp hx] at rv
   cases rv
   exact .nil
 | cons l k ih=>
   rw [Ud] at hx
   obtain ⟨v,vs,rfl,d1,d2⟩:=aA.mp hx
   cases rv with
   | cons r1 r2=>
     obtain ⟨b,rfl,q⟩:=C8 ok d1 r1
     exact .cons q (ih _ d2 _ r2)
theorem qz {α β:Type} {F:α→β→Prop}:∀ {l₁:List α} {l₂:List β},Paired F l₁ l₂→∀ y∈l₂,∃ x∈l₁,F x y
 | _,_,.nil,y,m=>by cases m
 | _,_,.cons r t,y,m=>by
   rcases Tp.mp m with rfl | m
   ·exact ⟨_,TN,r⟩
   ·obtain ⟨x,m1,q⟩:=qz t y m
    exact ⟨x,Tn _ m1,q⟩
theorem gw {α β:Type} {F:α→β→Prop}:∀ {l₁:List α} {l₂:List β},Paired F l₁ l₂→l₁.length=l₂.length
 | _,_,.nil=>rfl
 | _,_,.cons _ t=>by simp [gw t]
theorem yC {P:Program} {w:World} {K:PySem.W.Frag} {H:Hp} {h:Heap} (ok:iX P w H h) {a:Addr} {xs:DX} {kvs:List (List (List Int) ×D)} (hH:H a=some (.ext (iG a xs))) (nd:(xs.map (·.1)).Nodup) (pk:Paired (jm K H) kvs xs):h.DictOfH (jS P w) a xs:=by
 obtain ⟨⟨o,es,h1,h2,h3,h4⟩,_⟩:=(show cy P w H h a (.ext (iG a xs)) from ok a _ hH)
 refine ⟨o,es,_,h1,h2,h3,h4,fun x m=>?_,nd⟩
 obtain ⟨p,_,e,q,_⟩:=qz pk x m
 rw [← e]
 exact u7 ok q
theorem mj {K:PySem.W.Frag} {H:Hp} (k:List (List Int)):∀ {kvs:List (List (List Int) ×D)} {xs:DX},Paired (jm K H) kvs xs→(oE kvs k=none∧atKey xs k=none)∨∃ d p v,oE kvs k=some d∧atKey xs k=some p∧Dat K H d v∧RelV v p.2
 | _,_,.nil=> .inl ⟨rfl,rfl⟩
 | _,_,.cons (a:=p) (b:=x) r t=>by
   obtain ⟨e,_,v,dv,rv⟩:=r
   unfold oE atKey
   rw [Wq,Wq,← e]
   by_cases c:p.1=k
   ·rw [decide_eq_true c]
    exact .inr ⟨p.2,x.2,v,rfl,rfl,dv,rv⟩
   ·rw [decide_eq_false c]
    exact mj k t
theorem C9 {K:PySem.W.Frag} {H:Hp} {k:List (List Int)} {a:Addr} {d:D} {v:V} {u:Value} (hk:Dat K H (kD k) (.ref a)) (hd:Dat K H d v) (r:RelV v u) {kvs:List (List (List Int) ×D)} {xs:DX} (pk:Paired (jm K H) kvs xs):Paired (jm K H) (tX kvs k d) (storedH xs k a u):=by
 have app:∀ {l₁:List (List (List Int) ×D)} {l₂:DX},Paired (jm K H) l₁ l₂→Paired (jm K H) (l₁ ++ [(k,d)]) (l₂ ++ [(k,a,u)]):=by
  intro l₁ l₂ p
  induction p with
  | nil=>exact .cons ⟨rfl,hk,v,hd,r⟩ .nil
  | cons q _ ih=>exact .cons q ih
 have rep:∀ {l₁:List (List (List Int) ×D)} {l₂:DX},Paired (jm K H) l₁ l₂→Paired (jm K H) (l₁.map fun p=>if p.1=k then (p.1,d) else p) (l₂.map (putAt k u)):=by
  intro l₁ l₂ p
  induction p with
  | nil=>exact .nil
  | @cons p x _ _ q _ ih=>
    refine .cons ?_ ih
    obtain ⟨e,q1,q2⟩:=q
    unfold putAt
    dsimp only
    rw [← e]
    by_cases c:p.1=k
    ·rw [if_pos c,if_pos c]
     exact ⟨rfl,q1,v,hd,r⟩
    ·rw [if_neg c,if_neg c]
     exact ⟨e,q1,q2⟩
 unfold tX
 rcases mj k pk with ⟨h1,h2⟩ | ⟨z,p,_,h1,h2,_⟩
 ·rw [h1,storedH_new h2]
  exact app pk
 ·rw [h1,storedH_old h2]
  exact rep pk
section
variable {X:Cx} {pos:Pos} {a b:Expr} {ta tb:cK}
theorem Fd {pins:List (Addr ×Obj)} {σ:St} {H:Hp} {s:Shared} (I:Inv X pins σ H s):sysModules < s.heap.objs.size:=Nat.lt_trans (show sysModules < mainGlobals by decide) (I.mod.glob.keeps I.bk).lt
def Ij:cK:=fun _ M Q=> ∀ p,M p=none→Q (.ref p) (av M p (.kJ []))
theorem Ik:cG X (.Dict [] [] pos) Ij:=by
 constructor
 intro pins s σ H ρ M Q I r h
 have fr:H s.heap.objs.size=none:=I.hok.fresh (Tz _)
 refine wpAny_Dict_empty ⟨.ref s.heap.objs.size,_,I.laid (a:=s.heap.objs.size) (o:= .ext (iG s.heap.objs.size [])) (t':=s.toks) (fun _ _ q=>Heap.get?_push_of_some _ q) (Tz _) ⟨⟨_,#[],Heap.get?_push_size _ rfl,⟨rfl,rfl,rfl⟩,rfl,rfl⟩,⟨_,Heap.get?_push_size _ rfl⟩,?_⟩,rfl,.ref _,av M _ (.kJ []),Fr.new fr fun _ hb=>aZ hb,aH.mpr rfl,r.mem.newD fr (beq_eq_false_iff_ne.mpr (Ne.symm (Ue (Fd I)))),h _ (r.mem.free fr)⟩
 rintro h1 h2 ⟨o,es,e,q⟩ k
 exact ⟨o,es,k o e,q⟩
def Dc (neg:Bool):R3:=fun d e M Q=> ∃ a k kvs,d=kD k∧e= .ref a∧M a=some (.kJ kvs)∧Q (.bl (neg !=(oE kvs k).isSome)) M
theorem u9 {K:PySem.W.Frag} {H:Hp} {k:List (List Int)} {v:V} (d:Dat K H (kD k) v):∃ b,v= .ref b:=by
 obtain ⟨b,_,e,_⟩:=aU.mp d
 exact ⟨b,e⟩
theorem Fe (hu:X.A.units+64 < cLine):lJ X (compareOp .In) (Dc false):=by
 constructor
 intro pins s σ H M x y d e v u Q I rm rx ry dx dy ⟨a,k,kvs,e1,e2,hM,q⟩
 subst e1;subst e2
 obtain ⟨b,rfl⟩:=u9 dx
 obtain rfl:=aH.mp dy
 obtain rfl:v=Value.ref b:=rx
 obtain rfl:u=Value.ref a:=ry
 obtain ⟨xs,hH,hy,nd,pk⟩:=rm.kJ hM
 refine wpAny_in_heap (knd:=jS X.prog X.w) (by show X.A.units+1+8 < cLine;omega) (u7 I.hok dx) hy (yC I.hok hH nd pk) ⟨.bl _,H,I.tok _,rfl,aD rm (aY.mpr rfl) ?_⟩
 rcases mj k pk with ⟨h1,h2⟩ | ⟨_,p,_,h1,h2,_⟩
 ·rw [h2];rw [h1] at q;exact q
 ·rw [h2];rw [h1] at q;exact q
theorem yD (hu:X.A.units+64 < cLine):lJ X (compareOp .NotIn) (Dc true):=by
 constructor
 intro pins s σ H M x y d e v u Q I rm rx ry dx dy ⟨a,k,kvs,e1,e2,hM,q⟩
 subst e1;subst e2
 obtain ⟨b,rfl⟩:=u9 dx
 obtain rfl:=aH.mp dy
 obtain rfl:v=Value.ref b:=rx
 obtain rfl:u=Value.ref a:=ry
 obtain ⟨xs,hH,hy,nd,pk⟩:=rm.kJ hM
 refine qw (knd:=jS X.prog X.w) (by show X.A.units+1+8 < cLine;omega) (u7 I.hok dx) hy (yC I.hok hH nd pk) ⟨.bl _,H,I.tok _,rfl,aD rm (aY.mpr rfl) ?_⟩
 rcases mj k pk with ⟨h1,h2⟩ | ⟨_,p,_,h1,h2,_⟩
 ·rw [h2];rw [h1] at q;exact q
 ·rw [h2];rw [h1] at q;exact q
def K9 (K:PySem.W.Frag):Eb:=fun x y v H Q=> ∃ (a b:Addr) (xs:DX) (kvs:List (List (List Int) ×D)) (k:List (List Int)),x= .ref a∧y= .ref b∧H a=some (.ext (iG a xs))∧(xs.map (·.1)).Nodup∧Paired (jm K H) kvs xs∧Dat K H (kD k) (.ref b)∧xs.length≤sizeLine∧
 ∀ u,RelV v u→((storedH xs k b u).map (·.1)).Nodup→Q (upd H a (.ext (iG a (storedH xs k b u))))
theorem Ff (hu:X.A.units+64 < cLine):Ju X (K9 X.K):=by
 intro pins s σ H o i v ov iv u Q I ro ri rv hx
 obtain ⟨a,b,xs,kvs,k,e1,e2,hH,nd,pk,dk,hz,q⟩:=hx
 subst e1;subst e2
 obtain rfl:ov=Value.ref a:=ro
 obtain rfl:iv=Value.ref b:=ri
 have dd:=yC I.hok hH nd pk
 obtain ⟨dl,_⟩:=(show cy X.prog X.w H s.heap a (.ext (iG a xs)) from I.hok a _ hH)
 have Il:((storedH xs k b u).map (·.1)).Nodup:=by
  unfold storedH
  split
  ·rw [keys_map_putAt];exact nd
  ·rename_i z
   rw [T5,Ub]
   refine ⟨nd,by simp,fun x hx y hy e=>?_⟩
   have ey:y=k:=by simpa using hy
   obtain ⟨p,hp,ep⟩:=TV.mp hx
   have:atKey xs k≠none:=by
    unfold atKey
    intro n
    rw [Option.map_eq_none_iff,List.find?_eq_none] at n
    exact n p hp (by simp [ep,e,ey])
   exact this (by simpa using z)
 refine wX (knd:=jS X.prog X.w) (by show X.A.units+1+8 < cLine;omega) (u7 I.hok dk) dl dd hz fun h' Ra hs=>?_
 obtain ⟨o,es,g1,g2,g3,g4⟩:=Ra
 refine ⟨_,I.write (x:=a) (e:=a) (o:= .ext (iG a (storedH xs k b u))) (t':=s.toks+(jS X.prog X.w).draws k) (by rw [hH];trivial) (.inl rfl) (fun c z nc e=>(hs.2 c nc).trans e) ⟨o,g1⟩ ⟨⟨o,es,g1,g2,g3,g4⟩,⟨o,g1⟩,?_⟩,q u rv Il⟩
 rintro h1 h2 ⟨o,es,e,q⟩ k
 exact ⟨o,es,k o e,q⟩
def La (to ti:cK):rE:=fun d ρ M Q=>to ρ M fun o M1=>ti ρ M1 fun i M2=> ∃ l kvs k,o= .ref l∧i=kD k∧M2 l=some (.kJ kvs)∧kvs.length≤1000∧Q ρ (av M2 l (.kJ (tX kvs k d)))
theorem Im (hu:X.A.units+64 < cLine) {o i:Expr} {to ti:cK} {pos:Pos} (ho:cG X o to) (hi:cG X i ti)
 (ha:∀ v,assign (.Subscript o i pos) X.env v=(do
  let ov ← holding [v] (eval o X.env)
  let iv ← holding [v,ov] (eval i X.env)
  standAt pos
  holding [v,ov,iv] (setItem ov iv v)
  release [v,ov,iv] []):=by intro _;rfl):AJ X (.Subscript o i pos) (La to ti):=by
 constructor
 intro pins s σ H ρ M v d u Q I r rv dv q
 refine GS ho.dn hi.dn (Ff hu) ha pins s σ H v u _ I rv (dF r q fun x H1 d1 M1 f1 dx r1 q1=>dF r1 q1 fun y H2 d2 M2 f2 dy r2 ⟨l,kvs,k,e1,e2,hM,hz,q2⟩=>?_)
 subst e1 e2
 obtain rfl:=aH.mp dx
 obtain ⟨b,rfl⟩:=u9 dy
 obtain ⟨xs,hH,hy,nd,pk⟩:=r2.mem.kJ hM
 have J4:=Dat.mono ((f1.trans f2).ext r.mem) _ _ dv
 have B6:=f1.trans f2
 refine ⟨l,b,xs,kvs,k,rfl,rfl,hH,nd,pk,dy,by rw [← gw pk,sizeLine_eq];omega,fun u' ru Il=>?_⟩
 have fw:Fr M2 H2 (av M2 l (.kJ (tX kvs k d))) (upd H2 l (.ext (iG l (storedH xs k b u')))):=Fr.write (K:=X.K) hM
 exact ⟨ρ,_,B6.trans fw,r2.go fw (r2.mem.uw hH hy Il (C9 dy J4 ru pk)),q2⟩
end
end L3
namespace PySem
section
variable {prog:Program} {w:World} {A:Around} {E:Value→Shared→Prop} {s:Shared} {it d:Addr} {i n ep:Nat} {od:Obj} {es:Array DictEntry}
theorem yE {Q:Value→Shared→Prop} (nm:(d == sysModules)=false) (hT:s.TypeIs (.ref d) "dict") (ho:s.heap.get? d=some od) (hd:od.data= .dict es ep)
 (q:Q (.ref s.heap.objs.size) { s with heap:=s.heap.push { cls:= .type "dict_keyiterator",data:= .fields #[.ref d,.int 0 0,.int es.size 0,.int ep 0] } }):wpAny (model prog w) A (pyIter (.ref d)) Q E s:=by
 refine wpAny_pyIter_slot hT F.slot_dict_iter (wpAny_call_entry F.slot_dict_iter hT F.entry_dict_iter ?_ (F.args_dict_iter_1 _))
 unfold Builtin.«dict.__iter__» Builtin.Dict.dictSlotNone
 refine wpAny_bind (wpAny_bind (wpAny_notOrdered_dict hT (show wpAny _ _ (pure (Value.ref d)) _ _ s from wpAny_pure ?_)))
 show wpAny _ _ (Builtin.Dict.showsAll d >>= _) _ _ s
 unfold Builtin.Dict.showsAll
 rw [if_neg (by rw [nm];exact TJ)]
 refine wpAny_bind (wpAny_pure (wpAny_bind (wpAny_dictEntries ho hd (wpAny_bind (wpAny_dictEpoch ho hd (wpAny_bind (wpAny_newObj_type (wpAny_pure ⟨_,rfl,"dict_keyiterator",_,⟨_,Heap.get?_push_size _ rfl,rfl⟩,F.slot_dict_keyiterator_next.lookup,?_⟩))))))))
 simpa [rawInt] using q
theorem A8 {Q:Option Value→Shared→Prop} {e:DictEntry} (hit:s.heap.IsKeyIter it d i n ep) (hod:s.heap.get? d=some od) (Lb:od.data= .dict es ep) (hn:es.size=n) (hx:es[i]?=some e)
 (q:∀ h',h'.IsKeyIter it d (i+1) n ep→Heap.SameBut it s.heap h'→Q (some e.key) { s with heap:=h' }):wpAny (model prog w) A (pyNext (.ref it)) Q E s:=by
 obtain ⟨o,ho,hc,hd⟩:=id hit
 unfold pyNext
 refine wpAny_bind (wpAny_attempt (wpAny_callSpecial?_slot (name:=Str.ofString "__next__") hit.typeIs F.slot_dict_keyiterator_next (wpAny_call_entry F.slot_dict_keyiterator_next hit.typeIs F.entry_dict_keyiterator_next ?_ (F.args_dict_keyiterator_next_1 _))))
 refine wpAny_bind (wpAny_pure (wpAny_bind (wpAny_bind ?_)))
 first | refine wpAny_bind (wpAny_typeNameOfWhole_keyiter hit.typeIs (wpAny_pure ?_)) | refine wpAny_bind (wpAny_typeNameOf_keyiter hit.typeIs (wpAny_pure ?_))
 refine wpAny_bind (wpAny_fieldsOf ho hd ?_)
 simp only [show Builtin.Dict_items.ownsTuple "dict_keyiterator" =false by decide,TH,if_false]
 show wpAny _ _ (if (Value.ref d == Value.none)=true then _ else _) _ _ s
 rw [if_neg (show ¬ ((Value.ref d == Value.none)=true) from TJ)]
 refine wpAny_bind (wpAny_pure (wpAny_bind (wpAny_dictEntries hod Lb ?_)))
 rw [if_neg (by rw [hn];simp)]
 refine wpAny_bind (wpAny_pure (wpAny_bind (wpAny_dictEpoch hod Lb ?_)))
 rw [if_neg (by simp)]
 refine wpAny_pure ?_
 simp only [show ¬ ((i:Int) < 0) from by omega,if_false,U0,hx]
 refine wpAny_bind ?_
 first | refine wpAny_bind (wpAny_typeNameOfWhole_keyiter hit.typeIs (wpAny_pure ?_)) | refine wpAny_bind (wpAny_typeNameOf_keyiter hit.typeIs (wpAny_pure ?_))
 refine wpAny_bind (wpAny_isOneOf_keyiter hit.typeIs ?_)
 refine wpAny_bind (show wpAny _ _ (setField (.ref it) 1 (rawInt ((i:Int)+1))) _ _ s from wpAny_setField ho hd (by simp) ?_)
 have Lc:(s.heap.update it (Obj.mapFields (·.setIfInBounds 1 (rawInt ((i:Int)+1))))).IsKeyIter it d (i+1) n ep:=
  ⟨_,Heap.get?_update_self _ ho (Obj.isFreed_of_fields (Obj.data_mapFields hd _)),(Obj.cls_mapFields ..).trans hc,by rw [Obj.data_mapFields hd];simp [rawInt]⟩
 refine wpAny_bind (wpAny_holding (wpAny_bind (wpAny_isOneOf_keyiter (s:={ s with heap:=s.heap.update it (Obj.mapFields (·.setIfInBounds 1 (rawInt ((i:Int)+1)))) }) Lc.typeIs ?_)))
 exact (show wpAny _ _ (pure e.key) _ _ _ from wpAny_pure (wpAny_pure ⟨_,rfl,wpAny_pure (q _ Lc (Heap.SameBut.update ..))⟩))
theorem Dd {Q:Option Value→Shared→Prop} (hh:A.handled=none) (hit:s.heap.IsKeyIter it d i n ep) (hod:s.heap.get? d=some od) (Lb:od.data= .dict es ep) (hn:es.size=n) (hge:es.size≤i)
 (q:∀ h',Heap.ExtBut it s.heap h'→Q none { s with heap:=h' }):wpAny (model prog w) A (pyNext (.ref it)) Q E s:=by
 obtain ⟨o,ho,hc,hd⟩:=id hit
 unfold pyNext
 refine wpAny_bind (wpAny_attempt (wpAny_callSpecial?_slot (name:=Str.ofString "__next__") hit.typeIs F.slot_dict_keyiterator_next (wpAny_call_entry F.slot_dict_keyiterator_next hit.typeIs F.entry_dict_keyiterator_next ?_ (F.args_dict_keyiterator_next_1 _))))
 refine wpAny_bind (wpAny_pure (wpAny_bind (wpAny_bind ?_)))
 first | refine wpAny_bind (wpAny_typeNameOfWhole_keyiter hit.typeIs (wpAny_pure ?_)) | refine wpAny_bind (wpAny_typeNameOf_keyiter hit.typeIs (wpAny_pure ?_))
 refine wpAny_bind (wpAny_fieldsOf ho hd ?_)
 simp only [show Builtin.Dict_items.ownsTuple "dict_keyiterator" =false by decide,TH,if_false]
 show wpAny _ _ (if (Value.ref d == Value.none)=true then _ else _) _ _ s
 rw [if_neg (show ¬ ((Value.ref d == Value.none)=true) from TJ)]
 refine wpAny_bind (wpAny_pure (wpAny_bind (wpAny_dictEntries hod Lb ?_)))
 rw [if_neg (by rw [hn];simp)]
 refine wpAny_bind (wpAny_pure (wpAny_bind (wpAny_dictEpoch hod Lb ?_)))
 rw [if_neg (by simp)]
 refine wpAny_pure ?_
 simp only [show ¬ ((i:Int) < 0) from by omega,if_false,U0,Array.getElem?_eq_none hge]
 refine wpAny_bind ?_
 first | refine wpAny_bind (wpAny_typeNameOfWhole_keyiter hit.typeIs (wpAny_pure ?_)) | refine wpAny_bind (wpAny_typeNameOf_keyiter hit.typeIs (wpAny_pure ?_))
 refine wpAny_bind (show wpAny _ _ (setField (.ref it) 0 .none) _ _ s from wpAny_setField ho hd (by simp) ?_)
 refine wpAny_bind (show wpAny _ _ (newExc (.type "StopIteration") []) _ _ _ from ?_)
 simp only [newExc,newTuple]
 refine wpAny_bind (wpAny_newObj_type ?_ (by size_fits))
 refine wpAny_bind (m:=firstArgMember _ _) (wpAny_of_eq (a:=Value.none) (by first | rfl | (simp only [firstArgMember];rfl)) ?_)
 refine wpAny_newObj_type ?_ (by size_fits)
 simp only [raiseNew]
 refine wpAny_bind (wpAny_handled ?_)
 rw [show A.in1.handled=none from hh]
 refine wpAny_bind (wpAny_pure (wpAny_throw ?_))
 refine wpAny_bind (wpAny_isInstance (T:= "StopIteration") (b:=true) ⟨_,Heap.get?_push_size _ rfl,rfl⟩ isSubtype_stop ?_)
 exact wpAny_pure (q _ (((Heap.SameBut.update ..).extBut.push _).push _))
end
end PySem
namespace L2
open PySem PySem.Spec PyProof.Rows L3
def Oe (d:Addr) (n:Nat):It:=
 ⟨fun i H=> ∃ xs:DX,H d=some (.ext (iG d xs))∧xs.length=n∧i < n,
  fun i H x H'=>H'=H∧∃ b,x= .ref b∧∀ xs:DX,H d=some (.ext (iG d xs))→∃ e,xs[i]?=some e∧e.2.1=b,
  fun i H=> ∃ xs:DX,H d=some (.ext (iG d xs))∧xs.length=n∧n≤i⟩
theorem pC {P:Program} {w:World} {H:Hp} {h:Heap} (ok:iX P w H h) {d:Addr} {xs:DX} (hH:H d=some (.ext (iG d xs))):iG d xs h:=(show cy P w H h d (.ext (iG d xs)) from ok d _ hH).1
theorem A9 {P:Program} {w:World} {K:PySem.W.Frag} {tg:Expr} (d it:Addr) (n:Nat):Turn P w K tg (Oe d n) [it] it (fun i h=>h.IsKeyIter it d i n n) where
 mem:=by simp
 obj:=fun i h st b hb=>by
  obtain rfl:b=it:=by simpa using hb
  obtain ⟨o,e,c,d⟩:=st
  exact ⟨o,e,fun v z=>by rw [d] at z;cases z⟩
 keep:=fun i h h' st k=>st.at fun o e=>k it (by simp) o e
 item:=by
  intro X hP hw hK hc i pins s σ H E I hf st hg
  subst hP hw hK
  obtain ⟨xs,hH,hn,hi⟩:=hg
  obtain ⟨o,es,h1,h2,h3,h4⟩:=pC I.hok hH
  obtain ⟨f0,f1,f2,f3,f4,f5⟩:=hf it (by simp)
  have hz:es.size=n:=by rw [← Array.length_toList,h4,To];exact hn
  have hx:es[i]?=some (BQ (xs[i]'(by omega))):=by
   rw [← Array.getElem?_toList,h4,Uh,Tq (by omega)]
   rfl
  refine A8 (ep:=n) st h1 (by rw [h3,hn]) hz hx fun h' st' sb=>?_
  have I1:Inv X pins σ H { s with heap:=h' }:=I.turned (t':=s.toks) (fun b o hb e=>(sb.2 b hb).trans e) f0 f1 f3 f4 f5
  obtain ⟨o',e,c,dd⟩:=id st'
  refine ⟨_,rfl,zf (s:={ s with heap:=h' }) e c dd (by decide) ⟨.ref (xs[i]'(by omega)).2.1,H,I1,rfl,⟨rfl,_,rfl,fun ys hy=>?_⟩,st',fun b hb=>(hf b hb).1⟩⟩
  obtain ⟨o2,Rb,g1,g2,g3,g4⟩:=pC I.hok hy
  obtain rfl:o2=o:=Option.some.inj (g1.symm.trans h1)
  have ee:Rb=es:=by rw [g3] at h3;injection h3
  rw [ee,h4] at g4
  have q:(ys.map BQ)[i]?=some (BQ (xs[i]'(by omega))):=by rw [← g4,Uh,Tq (by omega)];rfl
  rw [Uh] at q
  obtain ⟨e,q1,q2⟩:=Vi.mp q
  refine ⟨e,q1,?_⟩
  have:=congrArg DictEntry.key q2
  unfold BQ at this
  exact Value.ref.inj this
 done:=by
  intro X hP hw hK hc i pins s σ H E I hf st hg
  subst hP hw hK
  obtain ⟨xs,hH,hn,hi⟩:=hg
  obtain ⟨o,es,h1,h2,h3,h4⟩:=pC I.hok hH
  obtain ⟨f0,f1,f2,f3,f4,f5⟩:=hf it (by simp)
  have hz:es.size=n:=by rw [← Array.length_toList,h4,To];exact hn
  exact Dd (ep:=n) (I.ok.hd hc) st h1 (by rw [h3,hn]) hz (by omega) fun h' eb=>⟨rfl,I.turned (t':=s.toks) (fun b o hb e=>eb b o hb e) f0 f1 f3 f4 f5⟩
 self:=fun _ _ _ _ _ st h=>wpAny_pyIter_keyiter st h
def Ld (tl:TE):TI:=fun σ H R=>tl σ H fun x H1=> ∃ (a:Addr) (xs:DX),x= .ref a∧(a == sysModules)=false∧H1 a=some (.ext (iG a xs))∧R (Oe a xs.length) H1
theorem Fg {X:Cx} {tg l:Expr} {tl:TE} (hl:PE X l tl):PI X tg l (Ld tl):=by
 intro pins s σ H R I h
 refine cF (hl pins s σ H _ I h) fun v s1 ⟨x,H1,I1,r1,q1⟩=>?_
 obtain ⟨a,xs,e,nm,hH,q⟩:=q1
 subst e
 cases r1
 obtain ⟨o,es,h1,h2,h3,h4⟩:=pC I1.hok hH
 have hz:es.size=xs.length:=by rw [← Array.length_toList,h4,To]
 refine yE nm ⟨o,h1,h2.1⟩ h1 h3 ?_
 rw [hz]
 refine ⟨s1.heap.objs.size,[s1.heap.objs.size],_,_,H1,rfl,I1.kept (t':=s1.toks) fun b o e=>Heap.get?_push_of_some _ e,A9 a _ _,⟨_,Heap.get?_push_size _ rfl,rfl,rfl⟩,fun b hb=>?_,q⟩
 obtain rfl:b=s1.heap.objs.size:=by simpa using hb
 exact I1.Av (Tz _) (I1.hok.fresh (Tz _))
end L2
namespace L3
open PySem PySem.Spec PyProof.Rows L2
theorem Io {K:PySem.W.Frag} {a:Addr} {kvs:List (List (List Int) ×D)}:ya K (Oe a kvs.length) (fun H=> ∃ xs:DX,H a=some (.ext (iG a xs))∧Paired (jm K H) kvs xs) (kvs.map fun p=>kD p.1) where
 go:=fun i H hi ⟨xs,h,pk⟩=>⟨xs,h,(gw pk).symm,by simpa using hi⟩
 DT:=fun i H x H' hi ⟨xs,h,pk⟩ ⟨e,b,eb,k⟩=>by
  subst eb
  obtain ⟨y,hy,ey⟩:=k xs h
  refine ⟨e,?_⟩
  rw [To] at hi
  have:∀ {l₁:List (List (List Int) ×D)} {l₂:DX} {i:Nat},Paired (jm K H) l₁ l₂→l₂[i]?=some y→∃ p,l₁[i]?=some p∧jm K H p y:=by
   intro l₁ l₂ i pk
   induction pk generalizing i with
   | nil=>intro z;simp at z
   | cons r _ ih=>
     intro z
     cases i with
     | zero=>
       rw [Wf] at z
       cases z
       exact ⟨_,Wf,r⟩
     | succ j=>
       rw [List.getElem?_cons_succ] at z ⊢
       exact ih z
  obtain ⟨p,hp,_,dk,_⟩:=this pk hy
  refine ⟨kD p.1,by rw [Uh,hp];rfl,?_⟩
  rw [← ey]
  exact dk
 stop:=fun H ⟨xs,h,pk⟩=>⟨xs,h,(gw pk).symm,by simp⟩
section
variable {X:Cx} {pos:Pos} {tg iter:Expr} {body:List Stmt} {te:cK} {g:rE} {tb:iH}
def Lf (te:cK) (g:rE) (tb:iH):iH:=fun D ρ M=>te ρ M fun d M1=> ∃ a kvs,d= .ref a∧M1 a=some (.kJ kvs)∧runFor (fun M=>M a=some (.kJ kvs)) g tb D (kvs.map fun p=>kD p.1) ρ M1
theorem Ip (hp:PassesOwn (model X.prog X.w) X.A X.env X.xe) (hc:X.calm=true) (hi:cG X iter te) (hg:AJ X tg g) (hb:iJ X body tb)
 (hs:∀ x,foldedSetIterable iter X.env x=pure x:=by intro _;rfl):uz X (.For tg iter body [] pos) (Lf te g tb):=BR (mV hp hc (Fg hi.dn) hg.dn hb.dn hs) fun σ H ρ M D r q=>dF r q fun v H' d M' f dv r' ⟨a,kvs,e1,hM,q⟩=>by
 subst e1
 obtain rfl:=aH.mp dv
 obtain ⟨xs,hH,nm,_,pk⟩:=r'.mem.kJ hM
 refine ⟨a,xs,rfl,nm,hH,?_⟩
 rw [← gw pk]
 exact iL Io f r' (fun M1 H1 f1 mT g1=>by obtain ⟨ys,h,_,_,p⟩:=mT.kJ g1;exact ⟨ys,h,p⟩) q
end
end L3
namespace L3
open PySem PySem.Spec PyProof.Rows L2
section
variable {X:Cx}
end
end L3
namespace HT
open PySem PyProof.Rows
open PySem.SeqAt
open PySem.AutoSeq1 (wpAny_loadPart')
open PySem.MeetsSeq PySem.MeetsSeq2 PySem.MeetsSeq3
end HT
namespace L3
open PySem PySem.Spec PyProof.Rows L2
section
variable {X:Cx}
end
end L3
namespace L3
structure Pt where
 X:Int
 Y:Int
 N:Int
def hw (a b:Pl) (x:Pt):Int:=(b.x - a.x)*(x.Y - x.N*a.y) - (b.y - a.y)*(x.X - x.N*a.x)
def jq (w:Way) (a:Pl) (x:Pt):Int:=x.N*w.f a - (w.al*x.X+w.be*x.Y)
theorem gJ (a b:Pl) (x:Pt):hw b a x= -hw a b x:=by unfold hw;grind
theorem Iq (a b c:Pl) (x:Pt):hw a b x+hw b c x+hw c a x=x.N*tw a b c:=by unfold hw tw;grind
theorem De (w:Way) (a b c:Pl) (x:Pt):hw b c x*jq w a x+hw c a x*jq w b x+hw a b x*jq w c x=0:=by unfold hw jq Way.f;grind
def Gw (w:Way) (x:Pt) (a b:Pl):Int:=if jq w a x≤0∧0 < jq w b x∧0 < hw a b x then 1 else 0
def wn (w:Way) (x:Pt) (a b:Pl):Int:=Gw w x a b - Gw w x b a
theorem zW (w:Way) (x:Pt) (a b:Pl):wn w x b a= -wn w x a b:=by unfold wn;omega
theorem lC (A α:Int) (h:A≠0):(0 < A→0 < α→0 < A*α)∧(0 < A→α≤0→A*α≤0)∧(A < 0→0 < α→A*α < 0)∧(A < 0→α≤0→0≤A*α)∧(A*α=0→α=0):=
 ⟨fun a b=>T8 a b,fun a b=>TQ (by omega) b,fun a b=>Uw a b,fun a b=>TX (by omega) b,fun e=>(T6.mp e).resolve_left h⟩
theorem six {A B C α β γ S:Int} (hA:A≠0) (hB:B≠0) (hC:C≠0) (hS:0 < S) (s:A+B+C=S) (e:A*α+B*β+C*γ=0) (d:¬ (α=0∧β=0∧γ=0)) :
 ((if α≤0∧0 < β∧0 < C then 1 else 0) - (if β≤0∧0 < α∧C < 0 then 1 else 0))+((if β≤0∧0 < γ∧0 < A then 1 else 0) - (if γ≤0∧0 < β∧A < 0 then 1 else 0))+((if γ≤0∧0 < α∧0 < B then 1 else 0) - (if α≤0∧0 < γ∧B < 0 then 1 else 0))=if 0 < C∧0 < A∧0 < B then (1:Int) else 0:=by
 obtain ⟨a1,a2,a3,a4,a5⟩:=lC A α hA
 obtain ⟨b1,b2,b3,b4,b5⟩:=lC B β hB
 obtain ⟨c1,c2,c3,c4,c5⟩:=lC C γ hC
 generalize A*α=P at *
 generalize B*β=Q at *
 generalize C*γ=R at *
 rcases Ut hA with xA | xA <;> rcases Ut hB with xB | xB <;> rcases Ut hC with xC | xC <;>
  by_cases yα:α≤0 <;> by_cases yβ:β≤0 <;> by_cases yγ:γ≤0 <;>
  first
  | (exfalso;omega)
  | (simp only [show ¬ (0 < α)↔α≤0 by omega,show ¬ (0 < β)↔β≤0 by omega,show ¬ (0 < γ)↔γ≤0 by omega, *]
     have nα:(0 < α)↔¬ α≤0:=by omega
     have nβ:(0 < β)↔¬ β≤0:=by omega
     have nγ:(0 < γ)↔¬ γ≤0:=by omega
     have nA:(0 < A)↔¬ A < 0:=by omega
     have nB:(0 < B)↔¬ B < 0:=by omega
     have nC:(0 < C)↔¬ C < 0:=by omega
     simp [nα,nβ,nγ,nA,nB,nC, *] <;> omega)
theorem Ir {w:Way} {x:Pt} {a b c:Pl} (hN:0 < x.N) (t:0 < tw a b c) (f:w.f a≠w.f b) (h1:hw a b x≠0) (h2:hw b c x≠0) (h3:hw c a x≠0) :
 wn w x a b+wn w x b c+wn w x c a=if 0 < hw a b x∧0 < hw b c x∧0 < hw c a x then 1 else 0:=by
 have s:hw b c x+hw c a x+hw a b x=x.N*tw a b c:=by rw [← Iq a b c x];omega
 have k:=six (α:=jq w a x) (β:=jq w b x) (γ:=jq w c x) h2 h3 h1 (T8 hN t) s (De w a b c x) (fun ⟨z1,z2,_⟩=>f (by
  have:x.N*w.f a=x.N*w.f b:=by unfold jq at z1 z2;omega
  exact V4 (by omega) this))
 have f1:=gJ a b x
 have f2:=gJ b c x
 have f3:=gJ c a x
 have e1:(0 < hw b a x)=(hw a b x < 0):=by rw [f1];exact propext ⟨fun _=>by omega,fun _=>by omega⟩
 have e2:(0 < hw c b x)=(hw b c x < 0):=by rw [f2];exact propext ⟨fun _=>by omega,fun _=>by omega⟩
 have e3:(0 < hw a c x)=(hw c a x < 0):=by rw [f3];exact propext ⟨fun _=>by omega,fun _=>by omega⟩
 unfold wn Gw
 simp only [e1,e2,e3]
 exact k
end L3
namespace L3
def sz (g:List Pl→Int):List (List Pl)→Int
 | []=>0
 | d :: r=>g d+sz g r
theorem Df (g:List Pl→Int):∀ a b:List (List Pl),sz g (a ++ b)=sz g a+sz g b
 | [],b=>by simp [sz]
 | d :: r,b=>by show g d+sz g (r ++ b)=g d+sz g r+sz g b;rw [Df g r b];omega
theorem pF (g:List Pl→Int) {a b:List (List Pl)} (h:a.Perm b):sz g a=sz g b:=by
 induction h with
 | nil=>rfl
 | cons x _ ih=>show g x+_=g x+_;rw [ih]
 | swap x y l=>show g y+(g x+sz g l)=g x+(g y+sz g l);omega
 | trans _ _ i j=>rw [i,j]
theorem Dg {g:List Pl→Int} {f:List Pl→List Pl}:∀ {l:List (List Pl)},(∀ d∈l,g (f d)= -g d)→sz g (l.map f)= -sz g l
 | [],_=>rfl
 | d :: r,h=>by
   show g (f d)+sz g (r.map f)= -(g d+sz g r)
   rw [Dg fun x hx=>h x (Tn _ hx),h d (by simp)]
   omega
theorem zX (g:List Pl→Int) (f:List Pl→Bool):∀ l:List (List Pl),sz g l=sz g (l.filter f)+sz g (l.filter fun v=>!f v)
 | []=>rfl
 | d :: r=>by
   have ih:=zX g f r
   cases q:f d
   ·rw [Wg (by simp [q]),Wh (by simp [q])]
    show g d+sz g r=_+(g d+sz g _)
    omega
   ·rw [Wh (by simp [q]),Wg (by simp [q])]
    show g d+sz g r=g d+sz g _+_
    omega
def wL (w:Way) (x:Pt):List Pl→Int
 | [a,b]=>wn w x a b
 | _=>0
def bk:List Pl→List Pl
 | [a,b]=>[b,a]
 | l=>l
theorem Iu:∀ {u v:List Pl},bk u=bk v→u=v:=by
 have key:∀ u,bk (bk u)=u:=fun u=>by
  match u with
  | []=>rfl
  | [_]=>rfl
  | [_,_]=>rfl
  | _ :: _ :: _ :: _=>rfl
 intro u v h
 rw [← key u,h,key v]
theorem fW {α:Type} [DecidableEq α] {a b:List α} (na:a.Nodup) (nb:b.Nodup) (h:∀ x,x∈a↔x∈b):a.Perm b:=(List.perm_ext_iff_of_nodup na nb).mpr h
theorem Fi {D:List (List Pl)} (nd:D.Nodup) (two:∀ d∈D,∃ a b,d= [a,b]) {g:List Pl→Int} (hg:∀ a b,g [b,a]= -g [a,b]):sz g D=sz g (D.filter fun d=>!decide (bk d∈D)):=by
 rw [zX g (fun d=>decide (bk d∈D)) D]
 have z:sz g (D.filter fun d=>decide (bk d∈D))=0:=by
  have n1:(D.filter fun d=>decide (bk d∈D)).Nodup:=nd.filter _
  have n2:((D.filter fun d=>decide (bk d∈D)).map bk).Nodup:=ko n1 fun u _ v _ e=>Iu e
  have p:=fW n1 n2 fun d=>by
   rw [Tu,TV]
   constructor
   ·rintro ⟨h1,h2⟩
    obtain ⟨a,b,rfl⟩:=two d h1
    exact ⟨[b,a],Tu.mpr ⟨of_decide_eq_true h2,decide_eq_true h1⟩,rfl⟩
   ·rintro ⟨e,he,rfl⟩
    obtain ⟨h1,h2⟩:=Tu.mp he
    obtain ⟨a,b,rfl⟩:=two e h1
    exact ⟨of_decide_eq_true h2,decide_eq_true h1⟩
  have e1:=pF g p
  rw [Dg (f:=bk) fun d hd=>by
   obtain ⟨a,b,rfl⟩:=two d (Tu.mp hd).1
   exact hg a b] at e1
  omega
 rw [z]
 omega
theorem yy.Lg {Q:List Pl} {D:List (List Pl)} (s:cu Q) (nf:¬ Flat Q) (c:yy Q D):(D.filter fun d=>!decide (bk d∈D)).Perm (SL Q):=by
 refine fW (c.nd.filter _) (iQ s) fun d=>?_
 rw [Tu]
 constructor
 ·rintro ⟨h1,h2⟩
  obtain ⟨a,b,rfl,_,_⟩:=c.pB d h1
  refine (bG s).mpr (c.bare a b h1 fun z=>?_)
  rw [VE] at h2
  exact of_decide_eq_false h2 z
 ·intro h
  obtain ⟨a,b,rfl⟩:=gu h
  have h:=(bG s).mp h
  refine ⟨(c.has a b h).resolve_left fun z=>nf (ny h z),?_⟩
  rw [VE]
  exact decide_eq_false (c.nu a b h)
theorem Dh {Q:List Pl} {D:List (List Pl)} (s:cu Q) (nf:¬ Flat Q) (c:yy Q D) {g:List Pl→Int} (hg:∀ a b,g [b,a]= -g [a,b]):sz g D=sz g (SL Q):=by
 rw [Fi c.nd (fun d hd=>let ⟨a,b,e,_⟩:=c.pB d hd;⟨a,b,e⟩) hg]
 exact pF g (c.Lg s nf)
theorem zY {Q:List Pl} (s:cu Q) {a b c d:Pl} (h1:aR Q a b) (h2:aR Q c d) (ab:ak.f a < ak.f b) (cb:ak.f c < ak.f b) (cd:ak.f c < ak.f d) (ac:ak.f a≤ak.f c):a=c∧b=d:=by
 have q1:=(h1.2.2.2 c h2.1).1
 have q2:=(h1.2.2.2 d h2.2.1).1
 have q3:=(h2.2.2.2 a h1.1).1
 have q4:=(h2.2.2.2 b h1.2.1).1
 have e1:=qp ak d b a c
 have r1:tw c b a= -tw a b c:=by unfold tw;grind
 rw [r1] at e1
 have m1:0≤(ak.f b - ak.f c)*tw c d a:=TF (by omega) q3
 have m2:(ak.f d - ak.f c)* -tw a b c≤0:=TQ (by omega) (by omega)
 have m3:(ak.f a - ak.f c)*tw c d b≤0:=TY (by omega) q4
 have z1:(ak.f d - ak.f c)* -tw a b c=0:=by omega
 have z2:tw a b c=0:=by
  rcases T6.mp z1 with z | z <;> omega
 have Rc:ak.f a=ak.f c:=by
  have:=cT s h1 h2.1 z2
  omega
 obtain rfl:a=c:=s.inj h1.1 h2.1 Rc
 refine ⟨rfl,?_⟩
 have r2:=tS a b d
 have z3:tw a b d=0:=by omega
 have b1:=cT s h1 h2.2.1 z3
 have b2:=cT s h2 h1.2.1 (by omega)
 exact s.inj h1.2.1 h2.2.1 (by omega)
theorem Iv {Q:List Pl} (s:cu Q) {x:Pt} {a b c d:Pl} (h1:aR Q a b) (h2:aR Q c d) (k1:jq ak a x≤0) (k2:0 < jq ak b x) (k3:jq ak c x≤0) (k4:0 < jq ak d x) (hN:0 < x.N):a=c∧b=d:=by
 have lt:∀ {u v:Pl},jq ak u x≤0→0 < jq ak v x→ak.f u < ak.f v:=fun {u v} i j=>by
  unfold jq at i j
  have:x.N*ak.f u < x.N*ak.f v:=by omega
  exact Int.lt_of_mul_lt_mul_left this (by omega)
 rcases Ve (ak.f a) (ak.f c) with z | z
 ·exact zY s h1 h2 (lt k1 k2) (lt k3 k2) (lt k3 k4) z
 ·obtain ⟨e1,e2⟩:=zY s h2 h1 (lt k3 k4) (lt k1 k4) (lt k1 k2) z
  exact ⟨e1.symm,e2.symm⟩
theorem tY {g:List Pl→Int}:∀ {l:List (List Pl)},l.Nodup→(∀ d∈l,g d≤1)→(∀ d∈l,∀ e∈l,0 < g d→0 < g e→d=e)→sz g l≤1
 | [],_,_,_=>by simp [sz]
 | d :: r,n,h1,h2=>by
   obtain ⟨n1,n2⟩:=T4.mp n
   show g d+sz g r≤1
   by_cases z:0 < g d
   ·have k:∀ {l:List (List Pl)},(∀ e∈l,g e≤0)→sz g l≤0:=fun {l} hl=>by
     induction l with
     | nil=>simp [sz]
     | cons e l ih=>
       have:=ih fun x hx=>hl x (Tn _ hx)
       have:=hl e (by simp)
       show g e+sz g l≤0
       omega
    have:=k (l:=r) fun e he=>by
     apply Tj
     intro y
     have:=h2 d (by simp) e (Tn _ he) z (by omega)
     exact n1 (this▸he)
    have:=h1 d (by simp)
    omega
   ·have:=tY n2 (fun e he=>h1 e (Tn _ he)) (fun e he u hu=>h2 e (Tn _ he) u (Tn _ hu))
    omega
theorem Di (w:Way) (x:Pt) (a b:Pl):wn w x a b≤1∧(0 < wn w x a b→jq w a x≤0∧0 < jq w b x):=by
 unfold wn Gw
 split <;> rename_i h1 <;> split <;> rename_i h2
 ·exact ⟨by omega,fun _=>⟨h1.1,h1.2.1⟩⟩
 ·exact ⟨by omega,fun _=>⟨h1.1,h1.2.1⟩⟩
 ·exact ⟨by omega,fun z=>by omega⟩
 ·exact ⟨by omega,fun z=>by omega⟩
theorem Fj {Q:List Pl} (s:cu Q) {x:Pt} (hN:0 < x.N):sz (wL ak x) (SL Q)≤1:=by
 refine tY (iQ s) (fun d hd=>?_) fun d hd e he k1 k2=>?_
 ·obtain ⟨a,b,rfl⟩:=gu hd
  exact (Di ak x a b).1
 ·obtain ⟨a,b,rfl⟩:=gu hd
  obtain ⟨u,v,rfl⟩:=gu he
  obtain ⟨i1,i2⟩:=(Di ak x a b).2 k1
  obtain ⟨j1,j2⟩:=(Di ak x u v).2 k2
  obtain ⟨rfl,rfl⟩:=Iv s ((bG s).mp hd) ((bG s).mp he) i1 i2 j1 j2 hN
  rfl
def ins (x:Pt):List Pl→Int
 | [a,b,c]=>if 0 < hw a b x∧0 < hw b c x∧0 < hw c a x then 1 else 0
 | _=>0
def Gen (Q:List Pl) (x:Pt):Prop:=0 < x.N∧∀ a∈Q,∀ b∈Q,a≠b→hw a b x≠0
theorem fE.parts {Q t:List Pl} (h:fE Q t):∃ a b c,t= [a,b,c]∧0 < tw a b c∧a∈Q∧b∈Q∧c∈Q∧a≠b∧b≠c∧c≠a:=by
 obtain ⟨⟨a,b,c,rfl,l1,l2,p⟩,h2⟩:=h
 refine ⟨a,b,c,rfl,p,h2 a (by simp),h2 b (by simp),h2 c (by simp),fun z=>?_,fun z=>?_,fun z=>?_⟩
 ·rw [z] at p;unfold tw at p;exact absurd p (by grind)
 ·rw [z] at p;unfold tw at p;exact absurd p (by grind)
 ·rw [z] at p;unfold tw at p;exact absurd p (by grind)
theorem Fl {Q t:List Pl} {x:Pt} (s:cu Q) (g:Gen Q x) (h:fE Q t):sz (wL ak x) (dh t)=ins x t:=by
 obtain ⟨a,b,c,rfl,p,ha,hb,hc,n1,n2,n3⟩:=h.parts
 show wn ak x a b+(wn ak x b c+(wn ak x c a+0))=if 0 < hw a b x∧0 < hw b c x∧0 < hw c a x then 1 else 0
 have:=Ir (w:=ak) g.1 p (uZ s ha hb n1) (g.2 a ha b hb n1) (g.2 b hb c hc n2) (g.2 c hc a ha n3)
 rw [← this]
 omega
theorem vc {Q:List Pl} {x:Pt} (s:cu Q) (g:Gen Q x):∀ {ts:List (List Pl)},(∀ t∈ts,fE Q t)→sz (wL ak x) (aK ts)=sz (ins x) ts
 | [],_=>rfl
 | t :: r,h=>by
   have e:aK (t :: r)=dh t ++ aK r:=by unfold aK;rw [UH]
   rw [e,Df,Fl s g (h t (by simp)),vc s g fun u hu=>h u (Tn _ hu)]
   rfl
structure bJ (Q:List Pl) (ts:List (List Pl)):Prop where
 tZ:cu Q
 t6:yy Q (aK ts)
 bF:∀ t∈ts,fE Q t
theorem bJ.Iw {Q:List Pl} {ts:List (List Pl)} (c:bJ Q ts) (nf:¬ Flat Q) {x:Pt} (g:Gen Q x):sz (ins x) ts≤1:=by
 rw [← vc c.tZ g c.bF,Dh c.tZ nf c.t6 fun a b=>zW ak x a b]
 exact Fj c.tZ g.1
theorem Dj {g:List Pl→Int} (h0:∀ t,0≤g t) {t u:List Pl} (ne:t≠u):∀ {ts:List (List Pl)},t∈ts→u∈ts→g t+g u≤sz g ts
 | v :: r,ht,hu=>by
   show _≤g v+sz g r
   have one:∀ {l:List (List Pl)} {z:List Pl},z∈l→g z≤sz g l:=fun {l z} hz=>by
    induction l with
    | nil=>cases hz
    | cons e l ih=>
      have n:0≤sz g l:=by
       clear ih hz
       induction l with
       | nil=>simp [sz]
       | cons a l ih=>have:=h0 a;show 0≤g a+sz g l;omega
      show g z≤g e+sz g l
      rcases Tp.mp hz with rfl | m
      ·omega
      ·have:=ih m;have:=h0 e;omega
   rcases Tp.mp ht with e1 | k1
   ·rcases Tp.mp hu with e2 | k2
    ·exact absurd (e1.trans e2.symm) ne
    ·have:=one k2;rw [e1];omega
   ·rcases Tp.mp hu with e2 | k2
    ·have:=one k1;rw [e2];omega
    ·have:=Dj h0 ne k1 k2;have:=h0 v;omega
theorem Iz (x:Pt) (t:List Pl):0≤ins x t:=by
 unfold ins
 split
 ·split <;> omega
 ·omega
theorem bJ.one {Q:List Pl} {ts:List (List Pl)} (c:bJ Q ts) (nf:¬ Flat Q) {x:Pt} (g:Gen Q x) {t u:List Pl} (ht:t∈ts) (hu:u∈ts) (it:ins x t=1) (iu:ins x u=1):t=u:=by
 apply Tj
 intro ne
 have:=Dj (Iz x) ne ht hu
 have:=c.Iw nf g
 omega
end L3
namespace L3
def yF (p q c d:Pl):Int:=(q.x - p.x)*(d.x - c.x)+(q.y - p.y)*(d.y - c.y)
theorem Dk (g:Pl→Pl→Nat) (Q:List Pl):∃ B:Nat,∀ p∈Q,∀ q∈Q,g p q≤B:=by
 have one:∀ (h:Pl→Nat) (R:List Pl),∃ B:Nat,∀ p∈R,h p≤B:=fun h R=>by
  induction R with
  | nil=>exact ⟨0,fun p hp=>by cases hp⟩
  | cons a R ih=>
    obtain ⟨B,hB⟩:=ih
    refine ⟨B+h a,fun p hp=>?_⟩
    rcases Tp.mp hp with rfl | m
    ·omega
    ·have:=hB p m;omega
 have two:∀ (R:List Pl),∃ B:Nat,∀ p∈R,∀ q∈Q,g p q≤B:=fun R=>by
  induction R with
  | nil=>exact ⟨0,fun p hp=>by cases hp⟩
  | cons a R ih=>
    obtain ⟨B,hB⟩:=ih
    obtain ⟨C,hC⟩:=one (g a) Q
    refine ⟨B+C,fun p hp q hq=>?_⟩
    rcases Tp.mp hp with rfl | m
    ·have:=hC q hq;omega
    ·have:=hB p m q hq;omega
 exact two Q
theorem Lh {B t u v:Int} (h0:0≤B) (hu: -B≤u∧u≤B) (hv: -B≤v∧v≤B) (h:0 < t∨(t=0∧(0 < u∨(u=0∧0 < v)))):0 < (B+1)*(B+1)*t+(B+1)*u+v:=by
 rcases h with h | ⟨rfl,h | ⟨rfl,h⟩⟩
 ·have m1:0≤(B+1)*(B+1)*(t - 1):=TF (TF (by omega) (by omega)) (by omega)
  have m2:0≤(B+1)*(u+B):=TF (by omega) (by omega)
  have e1:(B+1)*(B+1)*(t - 1)=(B+1)*(B+1)*t - (B+1)*(B+1):=by rw [Uj,Wr]
  have e2:(B+1)*(u+B)=(B+1)*u+(B+1)*B:=Int.mul_add _ _ _
  have e3:(B+1)*(B+1)=(B+1)*B+(B+1):=by rw [Int.mul_add,Wr]
  omega
 ·have m2:0≤(B+1)*(u - 1):=TF (by omega) (by omega)
  have e2:(B+1)*(u - 1)=(B+1)*u - (B+1):=by rw [Uj,Wr]
  rw [Ux]
  omega
 ·rw [Ux,Ux]
  omega
theorem nF {p q c d:Pl} (n1:p≠q) (n2:c≠d) (h:tw p q d - tw p q c=0):yF p q c d≠0:=fun z=>by
 have e:(tw p q d - tw p q c)*(tw p q d - tw p q c)+yF p q c d*yF p q c d=((q.x - p.x)*(q.x - p.x)+(q.y - p.y)*(q.y - p.y))*((d.x - c.x)*(d.x - c.x)+(d.y - c.y)*(d.y - c.y)):=by unfold tw yF;grind
 rw [h,z] at e
 have pos:∀ u v:Pl,u≠v→0 < (v.x - u.x)*(v.x - u.x)+(v.y - u.y)*(v.y - u.y):=fun u v n=>by
  have s1:0≤(v.x - u.x)*(v.x - u.x):=by
   rcases Ve 0 (v.x - u.x) with k | k
   ·exact TF k k
   ·exact TX k k
  have s2:0≤(v.y - u.y)*(v.y - u.y):=by
   rcases Ve 0 (v.y - u.y) with k | k
   ·exact TF k k
   ·exact TX k k
  apply Tj
  intro k
  have z1:(v.x - u.x)*(v.x - u.x)=0:=by omega
  have z2:(v.y - u.y)*(v.y - u.y)=0:=by omega
  have z1:v.x - u.x=0:=(T6.mp z1).elim id id
  have z2:v.y - u.y=0:=(T6.mp z2).elim id id
  exact n (by cases u;cases v;simp only [Pl.mk.injEq];dsimp only at z1 z2;omega)
 have:=T8 (pos p q n1) (pos c d n2)
 omega
theorem Of {Q:List Pl} {c d:Pl} (ne:c≠d):∃ x:Pt,Gen Q x∧∀ p∈Q,∀ q∈Q,(0 < tw p q c∨(tw p q c=0∧(0 < tw p q d∨(tw p q d=0∧0 < yF p q c d))))→0 < hw p q x:=by
 obtain ⟨B,hB⟩:=Dk (fun p q=>(tw p q d - tw p q c).natAbs+(yF p q c d).natAbs) Q
 refine ⟨⟨((B:Int)+1)*(B+1)*c.x+(B+1)*(d.x - c.x) - (d.y - c.y),((B:Int)+1)*(B+1)*c.y+(B+1)*(d.y - c.y)+(d.x - c.x),((B:Int)+1)*(B+1)⟩,?_⟩
 have e:∀ p q,hw p q ⟨((B:Int)+1)*(B+1)*c.x+(B+1)*(d.x - c.x) - (d.y - c.y),((B:Int)+1)*(B+1)*c.y+(B+1)*(d.y - c.y)+(d.x - c.x),((B:Int)+1)*(B+1)⟩=((B:Int)+1)*(B+1)*tw p q c+(B+1)*(tw p q d - tw p q c)+yF p q c d:=fun p q=>by unfold hw tw yF;grind
 have key:∀ p∈Q,∀ q∈Q,(0 < tw p q c∨(tw p q c=0∧(0 < tw p q d∨(tw p q d=0∧0 < yF p q c d))))→0 < hw p q ⟨((B:Int)+1)*(B+1)*c.x+(B+1)*(d.x - c.x) - (d.y - c.y),((B:Int)+1)*(B+1)*c.y+(B+1)*(d.y - c.y)+(d.x - c.x),((B:Int)+1)*(B+1)⟩:=fun p hp q hq h=>by
  rw [e]
  have b:=hB p hp q hq
  exact Lh (by omega) (by omega) (by omega) (h.imp id fun ⟨z,h⟩=>⟨z,h.imp (fun _=>by omega) fun ⟨z',h⟩=>⟨by omega,h⟩⟩)
 refine ⟨⟨T8 (by omega) (by omega),fun p hp q hq n z=>?_⟩,key⟩
 have fl:∀ r,tw q p r= -tw p q r:=fun r=>bH p q r
 have fd:yF q p c d= -yF p q c d:=by unfold yF;grind
 have fh:=gJ p q ⟨((B:Int)+1)*(B+1)*c.x+(B+1)*(d.x - c.x) - (d.y - c.y),((B:Int)+1)*(B+1)*c.y+(B+1)*(d.y - c.y)+(d.x - c.x),((B:Int)+1)*(B+1)⟩
 have k1:=key p hp q hq
 have k2:=key q hq p hp
 rw [fl,fl,fd] at k2
 by_cases c0:tw p q c=0
 ·by_cases d0:tw p q d=0
  ·have:=nF n ne (by omega)
   rcases Ut this with y | y
   ·have:=k2 (by omega);omega
   ·have:=k1 (by omega);omega
  ·rcases Ut d0 with y | y
   ·have:=k2 (by omega);omega
   ·have:=k1 (by omega);omega
 ·rcases Ut c0 with y | y
  ·have:=k2 (by omega);omega
  ·have:=k1 (by omega);omega
def bW (t:List Pl) (a b c:Pl):Prop:=t= [a,b,c]∨t= [b,c,a]∨t= [c,a,b]
theorem bW.dir {t:List Pl} {a b c:Pl} (r:bW t a b c):(dh t).Perm [[a,b],[b,c],[c,a]]:=by
 rcases r with rfl | rfl | rfl
 ·exact .refl _
 ·show [[b,c],[c,a],[a,b]].Perm _
  exact (Uc (l₁:=[[b,c],[c,a]]) (l₂:=[[a,b]]))
 ·show [[c,a],[a,b],[b,c]].Perm _
  exact (Uc (l₁:=[[c,a]]) (l₂:=[[a,b],[b,c]]))
theorem bW.ins {t:List Pl} {a b c:Pl} (r:bW t a b c) {x:Pt} (h1:0 < hw a b x) (h2:0 < hw b c x) (h3:0 < hw c a x):ins x t=1:=by
 rcases r with rfl | rfl | rfl
 ·exact if_pos ⟨h1,h2,h3⟩
 ·exact if_pos ⟨h2,h3,h1⟩
 ·exact if_pos ⟨h3,h1,h2⟩
theorem bW.mem {t:List Pl} {a b c:Pl} (r:bW t a b c) (q:Pl):q∈t↔q=a∨q=b∨q=c:=by
 rcases r with rfl | rfl | rfl <;> simp only [Tp,Ur,or_false]
 ·exact ⟨fun h=>by rcases h with h | h | h <;> simp [h],fun h=>by rcases h with h | h | h <;> simp [h]⟩
 ·exact ⟨fun h=>by rcases h with h | h | h <;> simp [h],fun h=>by rcases h with h | h | h <;> simp [h]⟩
theorem bW.tw {Q t:List Pl} {a b c:Pl} (r:bW t a b c) (h:fE Q t):0 < tw a b c∧a∈Q∧b∈Q∧c∈Q:=by
 obtain ⟨u,v,w,rfl,p,hu,hv,hw,_⟩:=h.parts
 have e1:=gU u v w
 have e2:=lA u v w
 rcases r with e | e | e <;> injection e with x1 e <;> injection e with x2 e <;> injection e with x3 e <;> subst x1 x2 x3
 ·exact ⟨p,hu,hv,hw⟩
 ·exact ⟨by omega,hw,hu,hv⟩
 ·exact ⟨by omega,hv,hw,hu⟩
theorem gA {Q t:List Pl} {a b:Pl} (h:fE Q t) (m: [a,b]∈dh t):∃ c,bW t a b c:=by
 obtain ⟨u,v,w,rfl,_⟩:=h.parts
 have m: [a,b]= [u,v]∨[a,b]= [v,w]∨[a,b]= [w,u]:=by simpa [dh] using m
 rcases m with e | e | e <;> obtain ⟨rfl,rfl⟩:=aM e
 ·exact ⟨w,.inl rfl⟩
 ·exact ⟨u,.inr (.inr rfl)⟩
 ·exact ⟨v,.inr (.inl rfl)⟩
theorem aS {ts:List (List Pl)} {w:List Pl}:w∈aK ts↔∃ t∈ts,w∈dh t:=UM
section
variable {Q:List Pl} {ts:List (List Pl)} {a b c d:Pl} {t1 t2:List Pl}
theorem i7 (p1:0 < tw a b c) (p2:0 < tw b a d) (cv:tw c d a*tw c d b < 0):0 < tw c d b∧tw c d a < 0:=by
 have e:tw c d b - tw c d a=tw a b c+tw b a d:=by unfold tw;grind
 by_cases z:0 < tw c d b
 ·refine ⟨z,?_⟩
  apply Tj
  intro k
  have:=TF (a:=tw c d a) (b:=tw c d b) (by omega) (by omega)
  omega
 ·have:=TX (a:=tw c d a) (b:=tw c d b) (by omega) (by omega)
  omega
theorem c9 (a b:Pl):tw a b a=0∧tw a b b=0∧tw a a b=0:=by unfold tw;grind
theorem bJ.new_one (k:bJ Q ts) (nf:¬ Flat Q) (h1:t1∈ts) (r1:bW t1 a b c) (p2:0 < tw b a d) (hd:d∈Q) (cv:tw c d a*tw c d b < 0): [c,d]∉aK ts:=fun m=>by
 obtain ⟨t,ht,m⟩:=aS.mp m
 obtain ⟨e,re⟩:=gA (k.bF t ht) m
 obtain ⟨p1,ha,hb,hc⟩:=r1.tw (k.bF t1 h1)
 obtain ⟨p3,_,_,he⟩:=re.tw (k.bF t ht)
 obtain ⟨s1,s2⟩:=i7 p1 p2 cv
 have ne:c≠d:=fun z=>by rw [z,(c9 d b).2.2] at s1;omega
 obtain ⟨x,g,hx⟩:=Of (Q:=Q) ne
 have i1:ins x t=1:=by
  refine re.ins (hx c hc d hd (.inr ⟨(c9 c d).1,.inr ⟨(c9 c d).2.1,?_⟩⟩)) (hx d hd e he (.inl (by have:=gU c d e;omega))) (hx e he c hc (.inr ⟨(c9 e c).2.1,.inl (by have:=lA c d e;omega)⟩))
  have n:=nF (p:=c) (q:=d) (c:=c) (d:=d) ne ne (by rw [(c9 c d).1,(c9 c d).2.1];omega)
  have:0≤yF c d c d:=by
   unfold yF
   have q:∀ z:Int,0≤z*z:=fun z=>by
    rcases Ve 0 z with k | k
    ·exact TF k k
    ·exact TX k k
   have:=q (d.x - c.x)
   have:=q (d.y - c.y)
   omega
  omega
 have i2:ins x t1=1:=by
  refine r1.ins (hx a ha b hb (.inl p1)) (hx b hb c hc (.inr ⟨(c9 b c).2.1,.inl ?_⟩)) (hx c hc a ha (.inr ⟨(c9 c a).1,.inl ?_⟩))
  ·have:=gU b c d;omega
  ·have:=tS c d a;omega
 have ee:=k.one nf g ht h1 i1 i2
 subst ee
 have hd':d∈t:=(re.mem d).mpr (.inr (.inl rfl))
 rcases (r1.mem d).mp hd' with z | z | z
 ·rw [z,(c9 b a).2.1] at p2;omega
 ·rw [z,(c9 b a).1] at p2;omega
 ·exact ne z.symm
theorem bJ.Fo (k:bJ Q ts) (nf:¬ Flat Q) (h1:t1∈ts) (r1:bW t1 a b c) (h2:t2∈ts) (r2:bW t2 b a d) (cv:tw c d a*tw c d b < 0): [c,d]∉aK ts∧[d,c]∉aK ts:=by
 obtain ⟨p1,ha,hb,hc⟩:=r1.tw (k.bF t1 h1)
 obtain ⟨p2,_,_,hd⟩:=r2.tw (k.bF t2 h2)
 refine ⟨k.new_one nf h1 r1 p2 hd cv,k.new_one nf h2 r2 p1 hc ?_⟩
 rw [bH c d b,bH c d a,Vu,U4]
 exact cv
theorem yy.swap {D D' E:List (List Pl)} (k:yy Q D) (p:D.Perm ([a,b] :: [b,a] :: E)) (p':D'.Perm ([c,d] :: [d,c] :: E)) (n1: [c,d]∉D) (n2: [d,c]∉D) (ne:c≠d) (hc:c∈Q) (hd:d∈Q)
 (s1:¬ aR Q a b) (s2:¬ aR Q b a) (s3:¬ aR Q c d) (s4:¬ aR Q d c):yy Q D':=by
 have m:∀ w,w∈D↔w= [a,b]∨w= [b,a]∨w∈E:=fun w=>by rw [p.mem_iff];simp only [Tp]
 have m':∀ w,w∈D'↔w= [c,d]∨w= [d,c]∨w∈E:=fun w=>by rw [p'.mem_iff];simp only [Tp]
 have nd:=p.nodup_iff.mp k.nd
 obtain ⟨e1,nd⟩:=T4.mp nd
 obtain ⟨e2,nd⟩:=T4.mp nd
 refine ⟨?_,?_,?_,?_,?_⟩
 ·refine p'.nodup_iff.mpr (T4.mpr ⟨fun z=>?_,T4.mpr ⟨fun z=>n2 ((m _).mpr (.inr (.inr z))),nd⟩⟩)
  rcases Tp.mp z with z | z
  ·exact ne (aM z).1
  ·exact n1 ((m _).mpr (.inr (.inr z)))
 ·intro w hw
  rcases (m' w).mp hw with rfl | rfl | z
  ·exact ⟨c,d,rfl,hc,hd⟩
  ·exact ⟨d,c,rfl,hd,hc⟩
  ·exact k.pB w ((m w).mpr (.inr (.inr z)))
 ·intro u v h1 h2
  have hE: [u,v]∈E:=by
   rcases (m' _).mp h1 with z | z | z
   ·obtain ⟨rfl,rfl⟩:=aM z
    exact absurd ((m' _).mpr (.inr (.inl rfl))) h2
   ·obtain ⟨rfl,rfl⟩:=aM z
    exact absurd ((m' _).mpr (.inl rfl)) h2
   ·exact z
  refine k.bare u v ((m _).mpr (.inr (.inr hE))) fun z=>?_
  rcases (m _).mp z with z | z | z
  ·obtain ⟨rfl,rfl⟩:=aM z
   exact e2 hE
  ·obtain ⟨rfl,rfl⟩:=aM z
   exact e1 (Tn _ hE)
  ·exact h2 ((m' _).mpr (.inr (.inr z)))
 ·intro u v h z
  rcases (m' _).mp z with z | z | z
  ·obtain ⟨rfl,rfl⟩:=aM z
   exact s4 h
  ·obtain ⟨rfl,rfl⟩:=aM z
   exact s3 h
  ·exact k.nu u v h ((m _).mpr (.inr (.inr z)))
 ·intro u v h
  refine (k.has u v h).imp id fun z=>?_
  rcases (m _).mp z with z | z | z
  ·obtain ⟨rfl,rfl⟩:=aM z
   exact absurd h s1
  ·obtain ⟨rfl,rfl⟩:=aM z
   exact absurd h s2
  ·exact (m' _).mpr (.inr (.inr z))
theorem bJ.nodup (k:bJ Q ts):ts.Nodup:=by
 have nd:=k.t6.nd
 have bF:=k.bF
 clear k
 induction ts with
 | nil=>exact .nil
 | cons t r ih=>
   have e:aK (t :: r)=dh t ++ aK r:=by unfold aK;rw [UH]
   rw [e] at nd
   obtain ⟨_,n2,n3⟩:=Ub.mp nd
   refine T4.mpr ⟨fun z=>?_,ih n2 fun u hu=>bF u (Tn _ hu)⟩
   obtain ⟨u,v,w,e,_⟩:=(bF t (by simp)).parts
   have m: [u,v]∈dh t:=by rw [e];simp [dh]
   exact n3 _ m _ (aS.mpr ⟨t,z,m⟩) rfl
theorem bJ.flip (k:bJ Q ts) (nf:¬ Flat Q) {rest ts':List (List Pl)} {u1 u2:List Pl} (p:ts.Perm (t1 :: t2 :: rest)) (r1:bW t1 a b c) (r2:bW t2 b a d) (cv:tw c d a*tw c d b < 0)
 (p':ts'.Perm (u1 :: u2 :: rest)) (v1:bW u1 a d c) (v2:bW u2 b c d) (l1:dI u1) (l2:dI u2):bJ Q ts':=by
 have h1:t1∈ts:=p.mem_iff.mpr (by simp)
 have h2:t2∈ts:=p.mem_iff.mpr (by simp)
 obtain ⟨p1,ha,hb,hc⟩:=r1.tw (k.bF t1 h1)
 obtain ⟨p2,_,_,hd⟩:=r2.tw (k.bF t2 h2)
 obtain ⟨s1,s2⟩:=i7 p1 p2 cv
 obtain ⟨n1,n2⟩:=k.Fo nf h1 r1 h2 r2 cv
 have ne:c≠d:=fun z=>by rw [z,(c9 d b).2.2] at s1;omega
 refine ⟨k.tZ,?_,fun t ht=>?_⟩
 ·have e1:(aK ts).Perm ([a,b] :: [b,a] :: ([b,c] :: [c,a] :: [a,d] :: [d,b] :: aK rest)):=by
   have q1:(aK ts).Perm (dh t1 ++ (dh t2 ++ aK rest)):=by
    have:=p.flatMap_right (f:=dh)
    unfold aK
    simpa only [UH] using this
   refine q1.trans (((r1.dir.append_right _).trans ((r2.dir.append_right _).append_left _)).trans ?_)
   exact .cons _ (WR (l₁:=[[b,c],[c,a]]))
  have e2:(aK ts').Perm ([c,d] :: [d,c] :: ([b,c] :: [c,a] :: [a,d] :: [d,b] :: aK rest)):=by
   have q1:(aK ts').Perm (dh u1 ++ (dh u2 ++ aK rest)):=by
    have:=p'.flatMap_right (f:=dh)
    unfold aK
    simpa only [UH] using this
   refine q1.trans (((v1.dir.append_right _).trans ((v2.dir.append_right _).append_left _)).trans ?_)
   show ([a,d] :: [d,c] :: [c,a] :: [b,c] :: [c,d] :: [d,b] :: aK rest).Perm _
   refine (WR (l₁:=[[a,d],[d,c],[c,a],[b,c]])).trans (.cons _ ?_)
   refine (List.Perm.swap _ _ _).trans (.cons _ ?_)
   exact (VD [[b,c],[c,a],[a,d]]).append_right _
  refine k.t6.swap e1 e2 n1 n2 ne hc hd (fun h=>?_) (fun h=>?_) (fun h=>?_) (fun h=>?_)
  ·have:=(h.2.2.2 d hd).1;have:=bH a b d;omega
  ·have:=(h.2.2.2 c hc).1;have:=bH a b c;omega
  ·have:=(h.2.2.2 a ha).1;omega
  ·have:=(h.2.2.2 b hb).1;have:=bH c d b;omega
 ·rcases Tp.mp (p'.mem_iff.mp ht) with rfl | ht
  ·exact ⟨l1,fun q hq=>by rcases (v1.mem q).mp hq with rfl | rfl | rfl <;> assumption⟩
  ·rcases Tp.mp ht with rfl | ht
   ·exact ⟨l2,fun q hq=>by rcases (v2.mem q).mp hq with rfl | rfl | rfl <;> assumption⟩
   ·exact k.bF t (p.mem_iff.mpr (Tn _ (Tn _ ht)))
end
end L3
namespace L3
theorem yG {Q:List Pl} {p:Pl} (s:cu (Q ++ [p])) (h:Q≠[]):(SL (Q ++ [p])).length+(bR Q p).length=(SL Q).length+2:=by
 have g:=Fb s
 have so:=s.old
 have l2:2≤(Q ++ [p]).length:=by
  have:=WE.mpr h
  rw [TL,Ws];omega
 obtain ⟨u,hu⟩:=(nt s l2).2 p (by simp)
 obtain ⟨v,hv⟩:=qo s hu
 have sp:=split_len (DZ p) (SL Q)
 have np:∀ a b,[a,b]∈SL Q→a≠p∧b≠p:=fun a b m=>by
  have:=(bG so).mp m
  exact ⟨fun z=>s.out (z▸this.1),fun z=>s.out (z▸this.2.1)⟩
 have:=sub_len (l:=[u,p] :: [p,v] :: (SL Q).filter (fun v=>!DZ p v)) (m:=SL (Q ++ [p])) (by
  refine T4.mpr ⟨fun z=>?_,T4.mpr ⟨fun z=>?_,(iQ so).filter _⟩⟩
  ·rcases Tp.mp z with z | z
   ·exact hu.2.2.1 (aM z).1
   ·exact (np u p (Tu.mp z).1).2 rfl
  ·exact (np p v (Tu.mp z).1).1 rfl) (fun w hw=>by
  rcases Tp.mp hw with rfl | hw
  ·exact (bG s).mpr hu
  ·rcases Tp.mp hw with rfl | hw
   ·exact (bG s).mpr hv
   ·obtain ⟨m,k⟩:=Tu.mp hw
    obtain ⟨a,b,rfl⟩:=gu m
    have sd:=(bG so).mp m
    refine (bG s).mpr ((gv s sd.1 sd.2.1).mpr ⟨sd,?_⟩)
    replace k:(!decide (tw a b p < 0))=true:=k
    rw [VE] at k
    have:=of_decide_eq_false k
    omega)
 rw [Ug,Ug] at this
 unfold bR at *
 omega
theorem qA {qs:List Pl} (s:cu qs):∀ k,k+1≤qs.length→(oU qs (k+1)).length+(SL (qs.take (k+1))).length=2*k
 | 0,h=>by
   have e:SL (qs.take 0)= []:=l9 (by simp)
   rw [l9 (by simp;omega)]
   show (oU qs 0 ++ (bR (qs.take 0) (wV qs 0)).map (CZ (wV qs 0))).length+0=0
   unfold bR
   rw [e]
   rfl
 | k+1,h=>by
   have st:=s.take (k+2)
   have ih:=qA s k (by omega)
   rw [nE (by omega)] at st ⊢
   have ne:qs.take (k+1)≠[]:=fun z=>by
    have:=congrArg List.length z
    rw [Uy,U9] at this
    omega
   have:=yG st ne
   show (oU qs (k+1) ++ (bR (qs.take (k+1)) (wV qs (k+1))).map (CZ (wV qs (k+1)))).length+_=_
   rw [TL,To]
   omega
theorem Ba {qs:List Pl} (s:cu qs) (h:2≤qs.length):(oU qs qs.length).length+(br qs).length+2=2*qs.length:=by
 obtain ⟨l2,e,_⟩:=tR s h
 have:=qA s (qs.length - 1) (by omega)
 rw [show qs.length - 1+1=qs.length by omega,Uk,e,Vt,TL,UL,Uy] at this
 omega
def cr:List Pl→Int
 | [a,b]=>a.x*b.y - a.y*b.x
 | _=>0
def Rf (bd:List Pl) (k:Nat):Pl:=if k=0 then bd.getLastD ⟨0,0⟩ else wV bd (k - 1)
def pB (bd:List Pl):Nat→Int
 | 0=>0
 | k+1=>pB bd k+cr [Rf bd k,wV bd k]
end L3
namespace L3
theorem wY {P:Pl→Prop}:∀ {l:List Pl} {x y:Pl},l.head?=some x→l.getLast?=some y→P x→¬ P y→∃ a b,Nx l a b∧P a∧¬ P b
 | [],_,_,h,_,_,_=>by cases h
 | [z],x,y,h1,h2,p,q=>by
   have e1:z=x:=by simpa using h1
   have e2:z=y:=by simpa using h2
   rw [← e1] at p
   rw [← e2] at q
   exact absurd p q
 | z :: u :: r,x,y,h1,h2,p,q=>by
   have e1:z=x:=by simpa using h1
   have h2':(u :: r).getLast?=some y:=by simpa using h2
   rw [← e1] at p
   by_cases k:P u
   ·obtain ⟨a,b,n,pa,pb⟩:=wY (l:=u :: r) rfl h2' k q
    exact ⟨a,b,.inr n,pa,pb⟩
   ·exact ⟨z,u,.inl ⟨rfl,rfl⟩,p,k⟩
theorem yH {Q:List Pl} (s:cu Q) (h2:2≤Q.length):∃ (T:List Pl) (x y:Pl),T.head?=some x∧T.getLast?=some y∧(∀ q∈Q,ak.f x≤ak.f q∧ak.f q≤ak.f y)∧∀ a b,Nx T a b→aR Q a b:=by
 obtain ⟨hs,hok⟩:=id s
 have hne:Q≠[]:=fun z=>by rw [z] at h2;simp at h2
 obtain ⟨x,hx⟩:∃ x,Q.head?=some x:=by
  cases e:Q with
  | nil=>exact absurd e hne
  | cons x r=>exact ⟨x,rfl⟩
 obtain ⟨y,hy⟩:∃ y,Q.getLast?=some y:=⟨_,UC hne⟩
 have mx:x∈Q:=Vm hx
 have my:y∈Q:=UP hy
 have hend:=fm hs hx hy
 have be:∀ p∈Q,∀ q∈Q,(aG p q↔ak.f p < ak.f q):=fun p hp q hq=>jP (hok p hp) (hok q hq)
 have C1:Ch ak Q (Q.foldl aI []):=jO hne (hs.imp_of_mem fun hp hq h=>(be _ hp _ hq).mp h)
 have key:∀ p∈Q,∀ q∈Q,(p=q∨aG p q)→ak.f p≤ak.f q:=fun p hp q hq k=>by
  rcases k with rfl | k
  ·exact UG _
  ·have a1:=(be p hp q hq).mp k
   omega
 have lo:∀ q∈Q,ak.f x≤ak.f q:=fun q hq=>key x mx q hq ((hend q hq).1.imp Eq.symm id)
 have hi:∀ q∈Q,ak.f q≤ak.f y:=fun q hq=>key q hq y my (hend q hq).2
 obtain ⟨p1,p2⟩:=C1.ends mx my lo hi
 refine ⟨(Q.foldl aI []).reverse,x,y,by rw [Vh];exact p2,by rw [UX];exact p1,fun q hq=>⟨lo q hq,hi q hq⟩,fun a b k=>?_⟩
 obtain ⟨c1,c2,c3,c4⟩:=(gm C1).mp ((kh _ a b).mpr k)
 refine ⟨c1,c2,fun z=>by rw [z] at c3;omega,qq s c1 c2 fun q hq=>?_⟩
 obtain ⟨k1,k2⟩:=c4 q hq
 refine ⟨k1,fun z h=>?_⟩
 have:=k2 z
 omega
theorem Li (a b p q r:Pl) (x:Pt):hw a b x*tw p q r=hw q r x*tw a b p+hw r p x*tw a b q+hw p q x*tw a b r:=by unfold hw tw;grind
theorem Fp {Q:List Pl} (s:cu Q) (h2:2≤Q.length) {x:Pt} (g:Gen Q x) {p q r:Pl} (hp:p∈Q) (hq:q∈Q) (hr:r∈Q) (t:0 < tw p q r) (i1:0 < hw p q x) (i2:0 < hw q r x) (i3:0 < hw r p x):1≤sz (wL ak x) (SL Q):=by
 have left:∀ a b,aR Q a b→0 < hw a b x:=fun a b h=>by
  have e:=Li a b p q r x
  have m1:=TF (T3 i2) (h.2.2.2 p hp).1
  have m2:=TF (T3 i3) (h.2.2.2 q hq).1
  have m3:=TF (T3 i1) (h.2.2.2 r hr).1
  have n:=g.2 a h.1 b h.2.1 h.2.2.1
  apply Tj
  intro z
  have:=Uw (a:=hw a b x) (b:=tw p q r) (by omega) t
  omega
 have flat:∀ a b,aR Q a b→Gw ak x b a=0:=fun a b h=>by
  unfold Gw
  rw [if_neg]
  rintro ⟨_,_,k⟩
  have:=left a b h
  rw [gJ] at k
  omega
 obtain ⟨T,lo,hi,e1,e2,e3,e4⟩:=yH s h2
 have fN:∀ u v:Pl,ak.f u≤ak.f v→jq ak u x≤jq ak v x:=fun u v h=>by
  unfold jq
  have:=Vl h (T3 g.1)
  omega
 have k:=De ak p q r x
 have P1:jq ak lo x≤0:=by
  apply Tj
  intro z
  have a1:=fN lo p (e3 p hp).1
  have a2:=fN lo q (e3 q hq).1
  have a3:=fN lo r (e3 r hr).1
  have m1:=T8 i2 (show 0 < jq ak p x by omega)
  have m2:=T8 i3 (show 0 < jq ak q x by omega)
  have m3:=T8 i1 (show 0 < jq ak r x by omega)
  omega
 have P2:¬ jq ak hi x≤0:=by
  intro z
  have a1:=fN p hi (e3 p hp).2
  have a2:=fN q hi (e3 q hq).2
  have a3:=fN r hi (e3 r hr).2
  have m1:=TQ (T3 i2) (show jq ak p x≤0 by omega)
  have m2:=TQ (T3 i3) (show jq ak q x≤0 by omega)
  have m3:=TQ (T3 i1) (show jq ak r x≤0 by omega)
  have z1:jq ak p x=0:=(T6.mp (show hw q r x*jq ak p x=0 by omega)).resolve_left (by omega)
  have z2:jq ak q x=0:=(T6.mp (show hw r p x*jq ak q x=0 by omega)).resolve_left (by omega)
  have ne:p≠q:=fun e=>by rw [e,(c9 q r).2.2] at t;omega
  have g1:=g.1
  refine uZ s hp hq ne (V4 (a:=x.N) (by omega) ?_)
  unfold jq at z1 z2
  omega
 obtain ⟨a,b,n,pa,pb⟩:=wY (P:=fun v=>jq ak v x≤0) e1 e2 P1 P2
 have Og:=e4 a b n
 have one:wL ak x [a,b]=1:=by
  show wn ak x a b=1
  unfold wn
  rw [flat a b Og]
  unfold Gw
  rw [if_pos ⟨pa,by omega,left a b Og⟩]
  rfl
 have nn:∀ d∈SL Q,0≤wL ak x d:=fun d hd=>by
  obtain ⟨u,v,rfl⟩:=gu hd
  show 0≤wn ak x u v
  unfold wn
  rw [flat u v ((bG s).mp hd)]
  unfold Gw
  split <;> omega
 have key:∀ {l:List (List Pl)},(∀ d∈l,0≤wL ak x d)→(0≤sz (wL ak x) l∧∀ d∈l,wL ak x d≤sz (wL ak x) l):=fun {l} hl=>by
  induction l with
  | nil=>exact ⟨by simp [sz],fun d hd=>by cases hd⟩
  | cons e l ih=>
    obtain ⟨h1,h2⟩:=ih fun d hd=>hl d (Tn _ hd)
    have h0:=hl e (by simp)
    refine ⟨by show 0≤wL ak x e+sz (wL ak x) l;omega,fun d hd=>?_⟩
    show _≤wL ak x e+sz (wL ak x) l
    rcases Tp.mp hd with rfl | hd
    ·omega
    ·have:=h2 d hd;omega
 have:=(key nn).2 [a,b] ((bG s).mpr Og)
 omega
theorem bJ.some {Q:List Pl} {ts:List (List Pl)} (c:bJ Q ts) (nf:¬ Flat Q) {x:Pt} (g:Gen Q x) {p q r:Pl} (hp:p∈Q) (hq:q∈Q) (hr:r∈Q) (t:0 < tw p q r) (i1:0 < hw p q x) (i2:0 < hw q r x) (i3:0 < hw r p x):∃ u∈ts,ins x u=1:=by
 have h2:2≤Q.length:=by
  apply Tj
  intro z
  exact nf (gn (by omega))
 have k:=Fp c.tZ h2 g hp hq hr t i1 i2 i3
 rw [← Dh c.tZ nf c.t6 fun a b=>zW ak x a b,vc c.tZ g c.bF] at k
 apply Tj
 intro no
 have z:∀ {l:List (List Pl)},(∀ u∈l,ins x u≠1)→sz (ins x) l≤0:=fun {l} hl=>by
  induction l with
  | nil=>simp [sz]
  | cons e l ih=>
    have h1:=ih fun d hd=>hl d (Tn _ hd)
    have h0:=hl e (by simp)
    have:ins x e=0∨ins x e=1:=by
     unfold ins
     split
     ·split
      ·exact .inr rfl
      ·exact .inl rfl
     ·exact .inl rfl
    show ins x e+sz (ins x) l≤0
    omega
 have:=z fun u hu e=>no ⟨u,hu,e⟩
 omega
def kP (p q:Pl) (v:Pl):Int:=(q.x - p.x)*v.y - (q.y - p.y)*v.x
def xJ (p q:Pl) (v:Pl):Int:=(q.x - p.x)*v.x+(q.y - p.y)*v.y
def Lex (X:Pt) (v p q:Pl):Prop:=0 < hw p q X∨(hw p q X=0∧(0 < kP p q v∨(kP p q v=0∧0 < xJ p q v)))
theorem zZ {p q v:Pl} (n:p≠q) (nv:v≠⟨0,0⟩) (h:kP p q v=0):xJ p q v≠0:=fun z=>by
 refine nF (p:=p) (q:=q) (c:=⟨0,0⟩) (d:=v) n (Ne.symm nv) ?_ ?_
 ·unfold tw
  unfold kP at h
  dsimp only
  grind
 ·unfold yF
  unfold xJ at z
  dsimp only
  grind
theorem beside {Q:List Pl} {X:Pt} (hN:0 < X.N) {v:Pl} (nv:v≠⟨0,0⟩):∃ x:Pt,Gen Q x∧∀ p∈Q,∀ q∈Q,Lex X v p q→0 < hw p q x:=by
 obtain ⟨B,hB⟩:=Dk (fun p q=>(kP p q v).natAbs+(xJ p q v).natAbs) Q
 refine ⟨⟨((B:Int)+1)*(B+1)*X.X+(B+1)*v.x - v.y,((B:Int)+1)*(B+1)*X.Y+(B+1)*v.y+v.x,((B:Int)+1)*(B+1)*X.N⟩,?_⟩
 have e:∀ p q,hw p q ⟨((B:Int)+1)*(B+1)*X.X+(B+1)*v.x - v.y,((B:Int)+1)*(B+1)*X.Y+(B+1)*v.y+v.x,((B:Int)+1)*(B+1)*X.N⟩=((B:Int)+1)*(B+1)*hw p q X+(B+1)*kP p q v+xJ p q v:=fun p q=>by unfold hw kP xJ;grind
 have Rg:0 < ((B:Int)+1)*(B+1)*X.N:=T8 (T8 (by omega) (by omega)) hN
 have key:∀ p∈Q,∀ q∈Q,Lex X v p q→0 < ((B:Int)+1)*(B+1)*hw p q X+(B+1)*kP p q v+xJ p q v:=fun p hp q hq h=>by
  have b:=hB p hp q hq
  exact Lh (by omega) (by omega) (by omega) h
 refine ⟨⟨Rg,fun p hp q hq n z=>?_⟩,fun p hp q hq h=>by rw [e];exact key p hp q hq h⟩
 rw [e] at z
 have f1:=gJ p q X
 have f2:kP q p v= -kP p q v:=by unfold kP;grind
 have f3:xJ q p v= -xJ p q v:=by unfold xJ;grind
 have k1:=key p hp q hq
 have k2:=key q hq p hp
 have e2:((B:Int)+1)*(B+1)*hw q p X+(B+1)*kP q p v+xJ q p v= -(((B:Int)+1)*(B+1)*hw p q X+(B+1)*kP p q v+xJ p q v):=by rw [f1,f2,f3];grind
 rw [e2] at k2
 unfold Lex at k1 k2
 by_cases c0:hw p q X=0
 ·by_cases d0:kP p q v=0
  ·have:=zZ n nv d0
   rcases Ut this with y | y
   ·have:=k2 (.inr ⟨by omega,.inr ⟨by omega,by omega⟩⟩);omega
   ·have:=k1 (.inr ⟨c0,.inr ⟨d0,y⟩⟩);omega
  ·rcases Ut d0 with y | y
   ·have:=k2 (.inr ⟨by omega,.inl (by omega)⟩);omega
   ·have:=k1 (.inr ⟨c0,.inl y⟩);omega
 ·rcases Ut c0 with y | y
  ·have:=k2 (.inl (by omega));omega
  ·have:=k1 (.inl y);omega
def Wk (X:Pt) (a b c:Pl):Prop:=0≤hw a b X∧0≤hw b c X∧0≤hw c a X
theorem into {X:Pt} (hN:0 < X.N) {a b c:Pl} (t:0 < tw a b c) (h:Wk X a b c):∃ v:Pl,v≠⟨0,0⟩∧Lex X v a b∧Lex X v b c∧Lex X v c a:=by
 have pN:=T8 hN t
 have e1:kP a b ⟨X.N*(a.x+b.x+c.x) - 3*X.X,X.N*(a.y+b.y+c.y) - 3*X.Y⟩=X.N*tw a b c - 3*hw a b X:=by unfold kP tw hw;grind
 have e2:kP b c ⟨X.N*(a.x+b.x+c.x) - 3*X.X,X.N*(a.y+b.y+c.y) - 3*X.Y⟩=X.N*tw a b c - 3*hw b c X:=by unfold kP tw hw;grind
 have e3:kP c a ⟨X.N*(a.x+b.x+c.x) - 3*X.X,X.N*(a.y+b.y+c.y) - 3*X.Y⟩=X.N*tw a b c - 3*hw c a X:=by unfold kP tw hw;grind
 generalize (⟨X.N*(a.x+b.x+c.x) - 3*X.X,X.N*(a.y+b.y+c.y) - 3*X.Y⟩:Pl)=v at e1 e2 e3
 obtain ⟨h1,h2,h3⟩:=h
 by_cases z:v= ⟨0,0⟩
 ·have y1:kP a b v=0:=by rw [z];unfold kP;grind
  have y2:kP b c v=0:=by rw [z];unfold kP;grind
  have y3:kP c a v=0:=by rw [z];unfold kP;grind
  exact ⟨⟨1,0⟩,by simp,.inl (by omega),.inl (by omega),.inl (by omega)⟩
 ·have one:∀ p q,0≤hw p q X→kP p q v=X.N*tw a b c - 3*hw p q X→Lex X v p q:=fun p q k e=>by
   by_cases y:hw p q X=0
   ·exact .inr ⟨y,.inl (by omega)⟩
   ·exact .inl (by omega)
  exact ⟨v,z,one a b h1 e1,one b c h2 e2,one c a h3 e3⟩
section
variable {Q:List Pl} {ts:List (List Pl)} {X:Pt}
theorem bJ.same (k:bJ Q ts) (nf:¬ Flat Q) (hN:0 < X.N) {t u:List Pl} (ht:t∈ts) (hu:u∈ts) {a b c a' b' c':Pl} (r:bW t a b c) (r':bW u a' b' c') {v:Pl} (nv:v≠⟨0,0⟩)
 (h1:Lex X v a b) (h2:Lex X v b c) (h3:Lex X v c a) (g1:Lex X v a' b') (g2:Lex X v b' c') (g3:Lex X v c' a'):t=u:=by
 obtain ⟨_,ha,hb,hc⟩:=r.tw (k.bF t ht)
 obtain ⟨_,ha',hb',hc'⟩:=r'.tw (k.bF u hu)
 obtain ⟨x,g,hx⟩:=beside (Q:=Q) hN nv
 exact k.one nf g ht hu (r.ins (hx _ ha _ hb h1) (hx _ hb _ hc h2) (hx _ hc _ ha h3)) (r'.ins (hx _ ha' _ hb' g1) (hx _ hb' _ hc' g2) (hx _ hc' _ ha' g3))
theorem bJ.alone (k:bJ Q ts) (nf:¬ Flat Q) (hN:0 < X.N) {t u:List Pl} (ht:t∈ts) (hu:u∈ts) {a b c a' b' c':Pl} (r:bW t a b c) (r':bW u a' b' c') (h1:0 < hw a b X) (h2:0 < hw b c X) (h3:0 < hw c a X) (h:Wk X a' b' c'):t=u:=by
 obtain ⟨p,_⟩:=r'.tw (k.bF u hu)
 obtain ⟨v,nv,g1,g2,g3⟩:=into hN p h
 exact k.same nf hN ht hu r r' nv (.inl h1) (.inl h2) (.inl h3) g1 g2 g3
theorem t7 {a b c:Pl} (t:0 < tw a b c) (h1:hw a b X=0) (h2:hw b c X=0):X.X=X.N*b.x∧X.Y=X.N*b.y:=by
 have e1:tw a b c*(X.X - X.N*b.x)=hw a b X*(c.x - b.x)+hw b c X*(a.x - b.x):=by unfold tw hw;grind
 have e2:tw a b c*(X.Y - X.N*b.y)=hw a b X*(c.y - b.y)+hw b c X*(a.y - b.y):=by unfold tw hw;grind
 rw [h1,h2,Vg,Vg] at e1 e2
 have z1:=(T6.mp (e1.trans (by omega))).resolve_left (by omega)
 have z2:=(T6.mp (e2.trans (by omega))).resolve_left (by omega)
 omega
end
end L3
namespace L3
section
variable {Q:List Pl} {X:Pt}
end
end L3
namespace L3
def bU (H:Pl→Int) (a b c p:Pl):Int:=tw a b c*H p - (tw b c p*H a+tw c a p*H b+tw a b p*H c)
def Gx (p:Pl):Int:=p.x*p.x+p.y*p.y
theorem Fq (a b c d:Pl):bU Gx a b c d= -dep a b c d:=by unfold bU Gx dep uH tw;grind
theorem Ft (K C:Int) (f g:Pl→Int) (a b c d:Pl):bU (fun p=>K*f p - g p+C) a b c d=K*bU f a b c d - bU g a b c d:=by unfold bU tw;grind
theorem pG (H:Pl→Int) (a b c p:Pl):bU H b c a p=bU H a b c p:=by unfold bU tw;grind
theorem Gy (H:Pl→Int) (a b c:Pl):bU H a b c a=0:=by unfold bU tw;grind
theorem Gz (H:Pl→Int) (a b c:Pl):bU H a b c b=0:=by unfold bU tw;grind
theorem Dm (H:Pl→Int) (a b c:Pl):bU H a b c c=0:=by unfold bU tw;grind
theorem wZ (H:Pl→Int) (a b c d:Pl):bU H a b d c= -bU H a b c d:=by unfold bU tw;grind
theorem nG (H:Pl→Int) (a b c q p:Pl):bU H b a q p*tw a b c=bU H a b c p*tw b a q - bU H a b c q*tw b a p:=by unfold bU tw;grind
theorem mC (H:Pl→Int) (a b c q p:Pl):bU H a b q p*tw a b c=bU H a b c p*tw a b q - bU H a b c q*tw a b p:=by unfold bU tw;grind
theorem vd {α:Type} (f:α→Int):∀ l:List α,∃ B:Nat,∀ x∈l,(f x).natAbs≤B
 | []=>⟨0,fun x hx=>by cases hx⟩
 | y :: r=>by
   obtain ⟨B,hB⟩:=vd f r
   refine ⟨B+(f y).natAbs,fun x hx=>?_⟩
   rcases Tp.mp hx with rfl | hx
   ·omega
   ·have:=hB x hx;omega
theorem IA (f:Pl→Pl→Pl→Int) (Q:List Pl):∃ B:Nat,∀ a∈Q,∀ b∈Q,∀ c∈Q,(f a b c).natAbs≤B:=by
 obtain ⟨B,hB⟩:=vd id (Q.flatMap fun a=>Q.flatMap fun b=>Q.map fun c=>f a b c)
 exact ⟨B,fun a ha b hb c hc=>hB _ (UM.mpr ⟨a,ha,UM.mpr ⟨b,hb,TV.mpr ⟨c,hc,rfl⟩⟩⟩)⟩
theorem IB (f:Pl→Pl→Pl→Pl→Int) (Q:List Pl):∃ B:Nat,∀ a∈Q,∀ b∈Q,∀ c∈Q,∀ d∈Q,(f a b c d).natAbs≤B:=by
 obtain ⟨B,hB⟩:=vd id (Q.flatMap fun a=>Q.flatMap fun b=>Q.flatMap fun c=>Q.map fun d=>f a b c d)
 exact ⟨B,fun a ha b hb c hc d hd=>hB _ (UM.mpr ⟨a,ha,UM.mpr ⟨b,hb,UM.mpr ⟨c,hc,TV.mpr ⟨d,hd,rfl⟩⟩⟩⟩)⟩
theorem Aa {α:Type} {f g:α→Bool}:∀ {l:List α},(∀ x∈l,f x=true→g x=true)→(l.filter f).length≤(l.filter g).length
 | [],_=>Tz _
 | y :: r,h=>by
   have ih:=Aa (l:=r) fun x hx=>h x (Tn _ hx)
   rw [UW,UW]
   have hy:=h y (by simp)
   cases e1:f y <;> cases e2:g y <;> simp_all <;> omega
theorem Ab {α:Type} {f g:α→Bool} {y:α}:∀ {l:List α},(∀ x∈l,f x=true→g x=true)→y∈l→f y=false→g y=true→(l.filter f).length < (l.filter g).length
 | z :: r,h,m,e1,e2=>by
   have hr:∀ x∈r,f x=true→g x=true:=fun x hx=>h x (Tn _ hx)
   have le:=Aa hr
   rw [UW,UW]
   rcases Tp.mp m with rfl | m
   ·simp [e1,e2];omega
   ·have ih:=Ab hr m e1 e2
    have hz:=h z (by simp)
    cases e3:f z <;> cases e4:g z <;> simp_all <;> omega
theorem Lj (Q:List Pl) (B:Nat) (hB:0 < B):∃ w:Pl→Int,(∀ p∈Q,0 < w p)∧∀ p∈Q,∀ q∈Q,aG p q→(B:Int)*w q≤w p:=by
 refine ⟨fun p=>((B ^ (Q.filter fun q=>decide (aG p q)).length:Nat):Int),fun p _=>?_,fun p _ q hq h=>?_⟩
 ·have:=Nat.pow_pos (n:=(Q.filter fun q=>decide (aG p q)).length) hB
  show (0:Int) < ((B ^ (Q.filter fun q=>decide (aG p q)).length:Nat):Int)
  omega
 ·have lt:(Q.filter fun r=>decide (aG q r)).length < (Q.filter fun r=>decide (aG p r)).length:=
   Ab (y:=q) (fun x _ hx=>decide_eq_true (bx h (of_decide_eq_true hx))) hq (decide_eq_false (bf q)) (decide_eq_true h)
  have h1:B ^ ((Q.filter fun r=>decide (aG q r)).length+1)≤B ^ (Q.filter fun r=>decide (aG p r)).length:=Wx hB lt
  rw [Nat.pow_succ,Nat.mul_comm] at h1
  show (B:Int)*((B ^ (Q.filter fun r=>decide (aG q r)).length:Nat):Int)≤((B ^ (Q.filter fun r=>decide (aG p r)).length:Nat):Int)
  rw [← Int.natCast_mul]
  exact Int.ofNat_le.mpr h1
structure Ht (Q:List Pl) (H:Pl→Int):Prop where
 ve:∀ a∈Q,∀ b∈Q,∀ c∈Q,∀ d∈Q,0 < tw a b c→(fM a b c d↔bU H a b c d < 0)
 gen:∀ a∈Q,∀ b∈Q,∀ c∈Q,∀ d∈Q,0 < tw a b c→bU H a b c d=0→d=a∨d=b∨d=c
 nn:∀ p∈Q,0≤H p
theorem mD {T:Nat} {k t1 t2 t3:Int} {w w1 w2 w3:Int} (hk:k≠0) (b1:t1.natAbs≤T) (b2:t2.natAbs≤T) (b3:t3.natAbs≤T) (p1:0 < w1) (p2:0 < w2) (p3:0 < w3)
 (l1:((3*T+1:Nat):Int)*w1≤w) (l2:((3*T+1:Nat):Int)*w2≤w) (l3:((3*T+1:Nat):Int)*w3≤w) (hw0:0 < w):(0 < k→0 < k*w+t1*w1+t2*w2+t3*w3)∧(k < 0→k*w+t1*w1+t2*w2+t3*w3 < 0):=by
 have bnd:∀ {t v:Int},t.natAbs≤T→0 < v→ -((T:Int)*v)≤t*v∧t*v≤(T:Int)*v:=fun {t v} ht hv=>by
  have c1:t≤(T:Int):=by omega
  have c2: -(T:Int)≤t:=by omega
  have d1:=Ui c1 (T3 hv)
  have d2:=Ui c2 (T3 hv)
  rw [VH] at d2
  exact ⟨d2,d1⟩
 have e:∀ v:Int,((3*T+1:Nat):Int)*v=3*((T:Int)*v)+v:=fun v=>by
  have:((3*T+1:Nat):Int)=3*(T:Int)+1:=by omega
  rw [this];grind
 rw [e] at l1 l2 l3
 have x1:=bnd b1 p1
 have x2:=bnd b2 p2
 have x3:=bnd b3 p3
 refine ⟨fun h=>?_,fun h=>?_⟩
 ·have:1*w≤k*w:=Ui (by omega) (T3 hw0)
  omega
 ·have:k*w≤(-1)*w:=Ui (by omega) (T3 hw0)
  omega
theorem qB {a b c d:Pl} (hT:0 < tw a b c) (h0:dep a b c d=0) (nb:d≠b) (nc:d≠c):tw b c d≠0:=fun z=>by
 rcases uR (by omega) h0 z with h | h
 ·exact nb h
 ·exact nc h
theorem Bb (a b c d:Pl) (n1:a≠b) (n2:b≠c) (n3:c≠a) (n4:d≠a) (n5:d≠b) (n6:d≠c):(aG d a∧aG d b∧aG d c)∨(aG a b∧aG a c∧aG a d)∨(aG b a∧aG b c∧aG b d)∨(aG c a∧aG c b∧aG c d):=by
 have x:∀ {p q:Pl},p≠q→aG p q∨aG q p:=fun {p q} n=>by
  rcases bD p q with h | h | h
  ·exact .inl h
  ·exact absurd h n
  ·exact .inr h
 rcases x n1 with h1 | h1 <;> rcases x n2 with h2 | h2 <;> rcases x n3 with h3 | h3 <;> rcases x n4 with h4 | h4 <;> rcases x n5 with h5 | h5 <;> rcases x n6 with h6 | h6 <;>
 first
 | exact .inl ⟨h4,h5,h6⟩
 | exact .inr (.inl ⟨h1,h3,h4⟩)
 | exact .inr (.inr (.inl ⟨h1,h2,h5⟩))
 | exact .inr (.inr (.inr ⟨h3,h2,h6⟩))
 | (exfalso;unfold aG at h1 h2 h3 h4 h5 h6;omega)
theorem eG (Q:List Pl):∃ H,Ht Q H:=by
 obtain ⟨T,hT⟩:=IA tw Q
 obtain ⟨w,wp,wl⟩:=Lj Q (3*T+1) (by omega)
 obtain ⟨K,hK⟩:=IB (bU w) Q
 obtain ⟨C,hC⟩:=vd (fun p=>((K:Int)+1)*Gx p - w p) Q
 have Lk:∀ a∈Q,∀ b∈Q,∀ c∈Q,∀ d∈Q,0 < tw a b c→dep a b c d=0→d≠a→d≠b→d≠c→bU w a b c d≠0∧(fM a b c d↔0 < bU w a b c d):=by
  intro a ha b hb c hc d hd p h0 n4 n5 n6
  have n1:a≠b:=fun z=>by rw [z] at p;unfold tw at p;grind
  have n2:b≠c:=fun z=>by rw [z] at p;unfold tw at p;grind
  have n3:c≠a:=fun z=>by rw [z] at p;unfold tw at p;grind
  have r0:=j9 h0
  have s1:=qB p h0 n5 n6
  have s2:=qB (a:=b) (b:=c) (c:=a) (d:=d) (by have:=gU a b c;omega) (by rw [o9];exact h0) n6 n4
  have s3:=qB (a:=c) (b:=a) (c:=b) (d:=d) (by have:=lA a b c;omega) (by rw [← o9 c a b d];exact h0) n4 n5
  have e:bU w a b c d=tw a b c*w d+(-tw b c d)*w a+(-tw c a d)*w b+(-tw a b d)*w c:=by unfold bU;grind
  have sg:∀ {i:Int},i≠0→∀ {j:Int},0 < j→(i.sign≠j.sign↔i < 0):=fun {i} hi {j} hj=>by
   rw [Up hj]
   constructor
   ·intro h
    apply Tj
    intro z
    exact h (Up (by omega))
   ·intro h z
    rw [US h] at z
    omega
  have g1:=gU a b c
  have g2:=lA a b c
  have b1:=hT a ha b hb c hc
  have b2:=hT b hb c hc d hd
  have b3:=hT c hc a ha d hd
  have b4:=hT a ha b hb d hd
  have u1:=sg s1 (show 0 < tw b c a by omega)
  have u2:=sg s2 (show 0 < tw c a b by omega)
  have u3:=sg s3 (show 0 < tw a b c by omega)
  rcases Bb a b c d n1 n2 n3 n4 n5 n6 with ⟨m1,m2,m3⟩ | ⟨m1,m2,m3⟩ | ⟨m1,m2,m3⟩ | ⟨m1,m2,m3⟩
  ·have o:=mD (k:=tw a b c) (t1:= -tw b c d) (t2:= -tw c a d) (t3:= -tw a b d) (by omega) (by omega) (by omega) (by omega) (wp a ha) (wp b hb) (wp c hc) (wl d hd a ha m1) (wl d hd b hb m2) (wl d hd c hc m3) (wp d hd)
   have l:=o.1 p
   refine ⟨by omega,fun _=>by omega,fun _=> .inr ⟨r0,n4,n5,n6,.inl ⟨m1,m2,m3⟩⟩⟩
  ·have o:=mD (k:= -tw b c d) (t1:=tw a b c) (t2:= -tw c a d) (t3:= -tw a b d) (by omega) (by omega) (by omega) (by omega) (wp d hd) (wp b hb) (wp c hc) (wl a ha d hd m3) (wl a ha b hb m1) (wl a ha c hc m2) (wp a ha)
   refine ⟨fun z=>?_,fun h=>?_,fun h=>?_⟩
   ·rcases Ut s1 with q | q
    ·have:=o.1 (by omega);omega
    ·have:=o.2 (by omega);omega
   ·have:tw b c d < 0:=by
     rcases h with h | ⟨_,_,_,_,⟨h,_⟩ | ⟨_,_,_,h⟩ | ⟨h,_⟩ | ⟨h,_⟩⟩
     ·omega
     ·exact absurd h (ay m3)
     ·exact u1.mp h
     ·exact absurd h (ay m1)
     ·exact absurd h (ay m2)
    have:=o.1 (by omega)
    omega
   ·refine .inr ⟨r0,n4,n5,n6,.inr (.inl ⟨m1,m2,m3,u1.mpr ?_⟩)⟩
    apply Tj
    intro z
    have:=o.2 (by omega)
    omega
  ·have o:=mD (k:= -tw c a d) (t1:=tw a b c) (t2:= -tw b c d) (t3:= -tw a b d) (by omega) (by omega) (by omega) (by omega) (wp d hd) (wp a ha) (wp c hc) (wl b hb d hd m3) (wl b hb a ha m1) (wl b hb c hc m2) (wp b hb)
   refine ⟨fun z=>?_,fun h=>?_,fun h=>?_⟩
   ·rcases Ut s2 with q | q
    ·have:=o.1 (by omega);omega
    ·have:=o.2 (by omega);omega
   ·have:tw c a d < 0:=by
     rcases h with h | ⟨_,_,_,_,⟨_,h,_⟩ | ⟨h,_⟩ | ⟨_,_,_,h⟩ | ⟨_,h,_⟩⟩
     ·omega
     ·exact absurd h (ay m3)
     ·exact absurd h (ay m1)
     ·exact u2.mp h
     ·exact absurd h (ay m2)
    have:=o.1 (by omega)
    omega
   ·refine .inr ⟨r0,n4,n5,n6,.inr (.inr (.inl ⟨m1,m2,m3,u2.mpr ?_⟩))⟩
    apply Tj
    intro z
    have:=o.2 (by omega)
    omega
  ·have o:=mD (k:= -tw a b d) (t1:=tw a b c) (t2:= -tw b c d) (t3:= -tw c a d) (by omega) (by omega) (by omega) (by omega) (wp d hd) (wp a ha) (wp b hb) (wl c hc d hd m3) (wl c hc a ha m1) (wl c hc b hb m2) (wp c hc)
   refine ⟨fun z=>?_,fun h=>?_,fun h=>?_⟩
   ·rcases Ut s3 with q | q
    ·have:=o.1 (by omega);omega
    ·have:=o.2 (by omega);omega
   ·have:tw a b d < 0:=by
     rcases h with h | ⟨_,_,_,_,⟨_,_,h⟩ | ⟨_,h,_⟩ | ⟨_,h,_⟩ | ⟨_,_,_,h⟩⟩
     ·omega
     ·exact absurd h (ay m3)
     ·exact absurd h (ay m1)
     ·exact absurd h (ay m2)
     ·exact u3.mp h
    have:=o.1 (by omega)
    omega
   ·refine .inr ⟨r0,n4,n5,n6,.inr (.inr (.inr ⟨m1,m2,m3,u3.mpr ?_⟩))⟩
    apply Tj
    intro z
    have:=o.2 (by omega)
    omega
 have eH:∀ a b c d,bU (fun p=>((K:Int)+1)*Gx p - w p+(C:Int)) a b c d= -(((K:Int)+1)*dep a b c d) - bU w a b c d:=fun a b c d=>by rw [Ft,Fq];grind
 have pos:∀ a∈Q,∀ b∈Q,∀ c∈Q,∀ d∈Q,0 < dep a b c d→bU (fun p=>((K:Int)+1)*Gx p - w p+(C:Int)) a b c d < 0:=fun a ha b hb c hc d hd h=>by
  rw [eH]
  have:=hK a ha b hb c hc d hd
  have:((K:Int)+1)*1≤((K:Int)+1)*dep a b c d:=Vl (by omega) (by omega)
  omega
 have neg:∀ a∈Q,∀ b∈Q,∀ c∈Q,∀ d∈Q,dep a b c d < 0→0 < bU (fun p=>((K:Int)+1)*Gx p - w p+(C:Int)) a b c d:=fun a ha b hb c hc d hd h=>by
  rw [eH]
  have:=hK a ha b hb c hc d hd
  have:((K:Int)+1)*dep a b c d≤((K:Int)+1)*(-1):=Vl (by omega) (by omega)
  omega
 refine ⟨fun p=>((K:Int)+1)*Gx p - w p+(C:Int),⟨fun a ha b hb c hc d hd p=>?_,fun a ha b hb c hc d hd p z=>?_,fun p hp=>?_⟩⟩
 ·rcases U3 (dep a b c d) 0 with h | h | h
  ·have:=neg a ha b hb c hc d hd h
   refine ⟨fun s=>?_,fun s=>by omega⟩
   have:=(lT p s).1
   omega
  ·by_cases n4:d=a
   ·subst n4
    rw [Gy]
    refine ⟨fun s=>?_,fun s=>by omega⟩
    rcases s with s | ⟨_,n,_⟩
    ·rw [j9 h] at s;omega
    ·exact absurd rfl n
   by_cases n5:d=b
   ·subst n5
    rw [Gz]
    refine ⟨fun s=>?_,fun s=>by omega⟩
    rcases s with s | ⟨_,_,n,_⟩
    ·rw [j9 h] at s;omega
    ·exact absurd rfl n
   by_cases n6:d=c
   ·subst n6
    rw [Dm]
    refine ⟨fun s=>?_,fun s=>by omega⟩
    rcases s with s | ⟨_,_,_,n,_⟩
    ·rw [j9 h] at s;omega
    ·exact absurd rfl n
   have t:=(Lk a ha b hb c hc d hd p h n4 n5 n6).2
   rw [eH,h,Ux,t]
   omega
  ·have:=pos a ha b hb c hc d hd h
   exact ⟨fun _=>this,fun _=>k9 p h⟩
 ·rcases U3 (dep a b c d) 0 with h | h | h
  ·have:=neg a ha b hb c hc d hd h;omega
  ·apply Tj
   intro y
   have t:=(Lk a ha b hb c hc d hd p h (fun e=>y (.inl e)) (fun e=>y (.inr (.inl e))) (fun e=>y (.inr (.inr e)))).1
   rw [eH,h,Ux] at z
   omega
  ·have:=pos a ha b hb c hc d hd h;omega
 ·have:=hC p hp
  show 0≤((K:Int)+1)*Gx p - w p+(C:Int)
  omega
end L3
namespace L3
section
variable {Q:List Pl} {H:Pl→Int}
def rT (Q:List Pl) (t:List Pl):Prop:= ∀ d∈Q,¬ oS t d
theorem Ht.w4 (h:Ht Q H) {t:List Pl} (hT:fE Q t) {a b c:Pl} (r:bW t a b c) {d:Pl} (hd:d∈Q):oS t d↔bU H a b c d < 0:=by
 obtain ⟨p,ha,hb,hc⟩:=r.tw hT
 rcases r with rfl | rfl | rfl
 ·exact h.ve a ha b hb c hc d hd p
 ·rw [← pG H a b c d]
  exact h.ve b hb c hc a ha d hd (by have:=gU a b c;omega)
 ·rw [pG H c a b d]
  exact h.ve c hc a ha b hb d hd (by have:=lA a b c;omega)
theorem Ht.Bc (h:Ht Q H) {t:List Pl} (hT:fE Q t) {a b c:Pl} (r:bW t a b c):rT Q t↔∀ d∈Q,0≤bU H a b c d:=by
 constructor
 ·intro k d hd
  have:=k d hd
  rw [h.w4 hT r hd] at this
  omega
 ·intro k d hd
  rw [h.w4 hT r hd]
  have:=k d hd
  omega
theorem qC {a b c:Pl} (p:0 < tw a b c):∃ t,dI t∧bW t a b c:=by
 have g1:=gU a b c
 have g2:=lA a b c
 have n1:a≠b:=fun z=>by rw [z] at p;unfold tw at p;grind
 have n2:b≠c:=fun z=>by rw [z] at p;unfold tw at p;grind
 have n3:c≠a:=fun z=>by rw [z] at p;unfold tw at p;grind
 have x:∀ {p q:Pl},p≠q→aG p q∨aG q p:=fun {p q} n=>by
  rcases bD p q with h | h | h
  ·exact .inl h
  ·exact absurd h n
  ·exact .inr h
 rcases x n1 with h1 | h1
 ·rcases x n3 with h3 | h3
  ·exact ⟨[c,a,b],⟨c,a,b,rfl,h3,bx h3 h1,by omega⟩,.inr (.inr rfl)⟩
  ·exact ⟨[a,b,c],⟨a,b,c,rfl,h1,h3,p⟩,.inl rfl⟩
 ·rcases x n2 with h2 | h2
  ·exact ⟨[b,c,a],⟨b,c,a,rfl,h2,h1,by omega⟩,.inr (.inl rfl)⟩
  ·exact ⟨[c,a,b],⟨c,a,b,rfl,bx h2 h1,h2,by omega⟩,.inr (.inr rfl)⟩
theorem bW.Oh {t:List Pl} {a b c:Pl} (r:bW t a b c) (i:dI t) (ha:a∈Q) (hb:b∈Q) (hc:c∈Q):fE Q t:=⟨i,fun q hq=>by
 rcases (r.mem q).mp hq with rfl | rfl | rfl <;> assumption⟩
theorem nH {f g:Pl→Int}:∀ {l:List Pl},l≠[]→(∀ p∈l,0 < g p)→∃ q∈l,∀ p∈l,f q*g p≤f p*g q
 | [x],_,hg=>⟨x,by simp,fun p hp=>by rw [Tt.mp hp];exact UG _⟩
 | x :: y :: r,_,hg=>by
   obtain ⟨q,hq,h⟩:=nH (f:=f) (g:=g) (l:=y :: r) (by simp) fun p hp=>hg p (Tn _ hp)
   have gx:=hg x (by simp)
   have gq:=hg q (Tn _ hq)
   rcases Ve (f q*g x) (f x*g q) with k | k
   ·refine ⟨q,Tn _ hq,fun p hp=>?_⟩
    rcases Tp.mp hp with rfl | hp
    ·exact k
    ·exact h p hp
   ·refine ⟨x,by simp,fun p hp=>?_⟩
    rcases Tp.mp hp with rfl | hp
    ·exact UG _
    ·have Je:=h p hp
     have gp:=hg p (Tn _ hp)
     refine VZ ?_ gq
     have a1:=Ui k (T3 gp)
     have a2:=Ui Je (T3 gx)
     have e1:f x*g q*g p=f x*g p*g q:=by grind
     have e2:f q*g x*g p=f q*g p*g x:=by grind
     have e3:f p*g q*g x=f p*g x*g q:=by grind
     omega
theorem qD {a b c d:Pl} (h:d=a∨d=b∨d=c):¬ fM a b c d:=fun s=>by
 have z:dep a b c d=0:=by
  rcases h with rfl | rfl | rfl
  ·exact Kq _ _ _
  ·exact Kr _ _ _
  ·exact Gh _ _ _
 rcases s with s | ⟨_,n1,n2,n3,_⟩
 ·rw [j9 z] at s;omega
 ·rcases h with h | h | h
  ·exact n1 h
  ·exact n2 h
  ·exact n3 h
theorem Dn (a b p:Pl):dt a b p=pV a b p:=by unfold dt pV;grind
theorem qE {a b c p:Pl} (t:0 < tw a b c) (z:tw a b p=0) (nb:¬ (aG (lo a b) p∧aG p (hi a b))):¬ fM a b c p:=fun s=>by
 by_cases e1:p=a
 ·exact qD (.inl e1) s
 by_cases e2:p=b
 ·exact qD (.inr (.inl e2)) s
 have d0:=(lT t s).1
 have e:dep a b c p= -(dt a b p*tw a b c):=by rw [wg,z,Ux];omega
 have n:¬ pV a b p < 0:=fun k=>nb ((oj a b p z).mpr ⟨e1,e2,k⟩)
 rw [← Dn] at n
 have d1:dt a b p≤0:=by
  apply Tj
  intro y
  have:=T8 (show 0 < dt a b p by omega) t
  omega
 have d2:dt a b p=0:=by omega
 have d3:dep a b c p=0:=by rw [e,d2];omega
 rcases uR (a:=c) (b:=a) (c:=b) (d:=p) (by have:=lA a b c;omega) (by rw [← o9 c a b p];exact d3) z with h | h
 ·exact e1 h
 ·exact e2 h
theorem oF {a b c p:Pl} (t:0 < tw a b c) (z:tw a b p=0) (nb:aG (lo a b) p∧aG p (hi a b)):fM a b c p:=by
 obtain ⟨_,_,d⟩:=(oj a b p z).mp nb
 rw [← Dn] at d
 refine k9 t ?_
 rw [wg,z,Ux]
 have:=Uw d t
 omega
theorem yI {ts:List (List Pl)} (nd:ts.Nodup) (bF:∀ t∈ts,fE Q t) (h:∀ t∈ts,∀ u∈ts,∀ w,w∈dh t→w∈dh u→t=u):(aK ts).Nodup:=by
 induction ts with
 | nil=>exact .nil
 | cons t r ih=>
   have e:aK (t :: r)=dh t ++ aK r:=by unfold aK;rw [UH]
   rw [e]
   obtain ⟨n1,n2⟩:=T4.mp nd
   refine Ub.mpr ⟨?_,ih n2 (fun u hu=>bF u (Tn _ hu)) fun u hu v hv=>h u (Tn _ hu) v (Tn _ hv),fun w hw v hv z=>?_⟩
   ·obtain ⟨a,b,c,rfl,_,_,_,_,n1,n2,n3⟩:=(bF t (by simp)).parts
    show ([[a,b],[b,c],[c,a]]:List (List Pl)).Nodup
    simp [n1,n2,n3,n1.symm,n2.symm,n3.symm]
   ·subst z
    obtain ⟨u,hu,hm⟩:=aS.mp hv
    have:=h t (by simp) u (Tn _ hu) w hw hm
    rw [this] at n1
    exact n1 hu
theorem Ht.Dp (h:Ht Q H) {a b c d:Pl} (ha:a∈Q) (hb:b∈Q) (hc:c∈Q) (hd:d∈Q) (p1:0 < tw a b c) (p2:0 < tw a b d) (k1:∀ q∈Q,0≤bU H a b c q) (k2:∀ q∈Q,0≤bU H a b d q):d=c:=by
 have e:=wZ H a b c d
 have x1:=k1 d hd
 have x2:=k2 c hc
 rcases h.gen a ha b hb c hc d hd p1 (by omega) with rfl | rfl | rfl
 ·unfold tw at p2;exact absurd p2 (by grind)
 ·unfold tw at p2;exact absurd p2 (by grind)
 ·rfl
theorem Ht.over (h:Ht Q H) {a b:Pl} (ha:a∈Q) (hb:b∈Q) {c:Pl} (hc:c∈Q) (p:0 < tw a b c) (rt:∀ {q},q∈Q→0 < tw a b q→(∀ r∈Q,0 < tw a b r→0≤bU H a b q r)→∀ r∈Q,tw a b r≤0→0≤bU H a b q r):∃ q∈Q,0 < tw a b q∧∀ r∈Q,0≤bU H a b q r:=by
 have mem:∀ q,q∈Q.filter (fun q=>decide (0 < tw a b q))↔q∈Q∧0 < tw a b q:=fun q=>by rw [Tu,decide_eq_true_eq]
 obtain ⟨q,hq,hm⟩:=nH (f:=bU H a b c) (g:=tw a b) (l:=Q.filter fun q=>decide (0 < tw a b q)) (UZ ((mem c).mpr ⟨hc,p⟩)) fun r hr=>((mem r).mp hr).2
 obtain ⟨hq,pq⟩:=(mem q).mp hq
 have lf:∀ r∈Q,0 < tw a b r→0≤bU H a b q r:=fun r hr pr=>by
  have e:=mC H a b c q r
  have:=hm r ((mem r).mpr ⟨hr,pr⟩)
  refine gj p ?_
  rw [U4,e]
  omega
 refine ⟨q,hq,pq,fun r hr=>?_⟩
 rcases WL 0 (tw a b r) with y | y
 ·exact lf r hr y
 ·exact rt hq pq lf r hr y
theorem Ht.past (h:Ht Q H) {a b c:Pl} (ha:a∈Q) (hb:b∈Q) (hc:c∈Q) (p:0 < tw a b c) (k:∀ q∈Q,0≤bU H a b c q) {e:Pl} (he:e∈Q) (pe:0 < tw b a e):∃ q∈Q,0 < tw b a q∧∀ r∈Q,0≤bU H b a q r:=by
 refine h.over hb ha he pe fun {q} hq pq _ r hr y=>?_
 have i:=nG H a b c q r
 refine gj p ?_
 rw [U4,i]
 have x1:=TF (k r hr) (T3 pq)
 have x2:=TQ (k q hq) y
 omega
theorem jT (s:cu Q) {ns:List (List Pl)} (nd:ns.Nodup) (mem:∀ t,t∈ns↔fE Q t∧rT Q t):bJ Q ns:=by
 obtain ⟨H,h⟩:=eG Q
 have bF:∀ t∈ns,fE Q t:=fun t ht=>((mem t).mp ht).1
 have Bc:∀ t∈ns,∀ {a b c:Pl},bW t a b c→∀ d∈Q,0≤bU H a b c d:=fun t ht {a b c} r=>(h.Bc (bF t ht) r).mp ((mem t).mp ht).2
 have dm:∀ a b,[a,b]∈aK ns↔a∈Q∧b∈Q∧∃ c∈Q,0 < tw a b c∧∀ d∈Q,0≤bU H a b c d:=fun a b=>by
  constructor
  ·intro m
   obtain ⟨t,ht,m⟩:=aS.mp m
   obtain ⟨c,r⟩:=gA (bF t ht) m
   obtain ⟨p,ha,hb,hc⟩:=r.tw (bF t ht)
   exact ⟨ha,hb,c,hc,p,Bc t ht r⟩
  ·rintro ⟨ha,hb,c,hc,p,k⟩
   obtain ⟨t,i,r⟩:=qC p
   have ti:fE Q t:=r.Oh i ha hb hc
   refine aS.mpr ⟨t,(mem t).mpr ⟨ti,(h.Bc ti r).mpr k⟩,r.dir.mem_iff.mpr (by simp)⟩
 refine ⟨s,⟨yI nd bF fun t ht u hu w m1 m2=>?_,fun w hw=>?_,fun a b m1 m2=>?_,fun a b sd m=>?_,fun a b sd=>?_⟩,bF⟩
 ·obtain ⟨a,b,rfl,_⟩:=ql w (aS.mpr ⟨t,ht,m1⟩)
  obtain ⟨c,r1⟩:=gA (bF t ht) m1
  obtain ⟨d,r2⟩:=gA (bF u hu) m2
  obtain ⟨p1,ha,hb,hc⟩:=r1.tw (bF t ht)
  obtain ⟨p2,_,_,hd⟩:=r2.tw (bF u hu)
  obtain rfl:=h.Dp ha hb hc hd p1 p2 (Bc t ht r1) (Bc u hu r2)
  refine dI.uniq (bF t ht).1 (bF u hu).1 ?_
  have q1:∀ {v:List Pl},bW v a b d→v.Perm [a,b,d]:=fun {v} r=>by
   rcases r with rfl | rfl | rfl
   ·exact .refl _
   ·exact (Uc (l₁:=[b,d]) (l₂:=[a]))
   ·exact (Uc (l₁:=[d]) (l₂:=[a,b]))
  exact (q1 r1).trans (q1 r2).symm
 ·obtain ⟨a,b,rfl,_⟩:=ql w hw
  obtain ⟨ha,hb,_⟩:=(dm a b).mp hw
  exact ⟨a,b,rfl,ha,hb⟩
 ·obtain ⟨ha,hb,c,hc,p,k⟩:=(dm a b).mp m1
  refine ⟨ha,hb,fun z=>by rw [z] at p;unfold tw at p;exact absurd p (by grind),fun q hq=>⟨?_,fun z nb=>?_⟩⟩
  ·apply Tj
   intro y
   obtain ⟨e,he,pe,ke⟩:=h.past ha hb hc p k hq (by have:=bH a b q;omega)
   exact m2 ((dm b a).mpr ⟨hb,ha,e,he,pe,ke⟩)
  ·have:=(h.ve a ha b hb c hc q hq p).mp (oF p z nb)
   have:=k q hq
   omega
 ·obtain ⟨hb,ha,c,hc,p,_⟩:=(dm b a).mp m
  have:=(sd.2.2.2 c hc).1
  have:=bH a b c
  omega
 ·obtain ⟨ha,hb,ne,DV⟩:=sd
  by_cases fl:∀ q∈Q,tw a b q=0
  ·refine .inl ⟨hb,ha,ne.symm,fun q hq=>⟨by have:=bH a b q;have:=fl q hq;omega,fun _ nb=>(DV q hq).2 (fl q hq) ?_⟩⟩
   have e1:lo b a=lo a b:=by
    unfold lo
    rcases bD a b with y | y | y
    ·rw [if_pos y,if_neg (ay y)]
    ·exact absurd y ne
    ·rw [if_neg (ay y),if_pos y]
   have e2:hi b a=hi a b:=by
    unfold hi
    rcases bD a b with y | y | y
    ·rw [if_pos y,if_neg (ay y)]
    ·exact absurd y ne
    ·rw [if_neg (ay y),if_pos y]
   rw [e1,e2] at nb
   exact nb
  ·obtain ⟨c,hc,pc⟩:∃ c∈Q,0 < tw a b c:=by
    apply Tj
    intro z
    refine fl fun q hq=>?_
    have:=(DV q hq).1
    apply Tj
    intro y
    exact z ⟨q,hq,by omega⟩
   obtain ⟨q,hq,pq,kq⟩:=h.over ha hb hc pc fun {q} hq pq _ r hr y=>by
    have:=(DV r hr).1
    have ns:=qE pq (show tw a b r=0 by omega) ((DV r hr).2 (by omega))
    rw [h.ve a ha b hb q hq r hr pq] at ns
    omega
   exact .inr ((dm a b).mpr ⟨ha,hb,q,hq,pq,kq⟩)
end
end L3
namespace L3
section
variable {Q:List Pl} {ts:List (List Pl)} {H:Pl→Int}
def Full (Q:List Pl) (ts:List (List Pl)):Prop:= ∀ q∈Q,∃ t∈ts,q∈t
def Dq (d:Pl):Pt:=⟨d.x,d.y,1⟩
theorem cO (a b d:Pl):hw a b (Dq d)=tw a b d:=by unfold hw Dq tw;grind
theorem bW.next {t:List Pl} {a b c:Pl} (r:bW t a b c):bW t b c a:=by
 rcases r with r | r | r
 ·exact .inr (.inr r)
 ·exact .inl r
 ·exact .inr (.inl r)
theorem bW.Dr {t:List Pl} (h:fE Q t) {d:Pl} (hd:d∈t):∃ e f,bW t d e f:=by
 obtain ⟨a,b,c,rfl,_⟩:=h.parts
 simp only [Tp,Ur,or_false] at hd
 rcases hd with rfl | rfl | rfl
 ·exact ⟨_,_,.inl rfl⟩
 ·exact ⟨_,_,.inr (.inr rfl)⟩
 ·exact ⟨_,_,.inr (.inl rfl)⟩
theorem bJ.LR (k:bJ Q ts) {t:List Pl} (ht:t∈ts) {a b c:Pl} (r:bW t a b c) {d:Pl} (hd:d∈Q) (n:tw a b d < 0):∃ u∈ts,∃ e,bW u b a e:=by
 have m: [a,b]∈aK ts:=aS.mpr ⟨t,ht,r.dir.mem_iff.mpr (by simp)⟩
 have: [b,a]∈aK ts:=by
  apply Tj
  intro z
  have:=((k.t6.bare a b m z).2.2.2 d hd).1
  omega
 obtain ⟨u,hu,m2⟩:=aS.mp this
 obtain ⟨e,r2⟩:=gA (k.bF u hu) m2
 exact ⟨u,hu,e,r2⟩
theorem vf (k:bJ Q ts) (nf:¬ Flat Q) {t u:List Pl} (ht:t∈ts) (hu:u∈ts) {a b c d e f:Pl} (r:bW t a b c) (ru:bW u d e f) (na:d≠a) (nb:d≠b) (nc:d≠c) (z:tw a b d=0) (p2:0 < tw b c d) (p3:0 < tw c a d):False:=by
 obtain ⟨pt,ha,hb,hc⟩:=r.tw (k.bF t ht)
 obtain ⟨pu,hd,he,hf⟩:=ru.tw (k.bF u hu)
 have hN:0 < (Dq d).N:=by show (0:Int) < 1;decide
 have wk:Wk (Dq d) d e f:=by
  unfold Wk
  rw [cO,cO,cO]
  have e1:tw d e d=0:=by unfold tw;grind
  have e2:tw f d d=0:=by unfold tw;grind
  have e3:=gU d e f
  omega
 obtain ⟨v,nv,g1,g2,g3⟩:=into hN pu wk
 have dt:d∉t:=fun m=>by
  rcases (r.mem d).mp m with h | h | h
  ·exact na h
  ·exact nb h
  ·exact nc h
 have du:d∈u:=(ru.mem d).mpr (.inl rfl)
 have ne:a≠b:=fun y=>by rw [y] at pt;unfold tw at pt;exact absurd pt (by grind)
 by_cases lx:Lex (Dq d) v a b
 ·have:=k.same nf hN ht hu r ru nv lx (.inl (by rw [cO];exact p2)) (.inl (by rw [cO];exact p3)) g1 g2 g3
  rw [this] at dt
  exact dt du
 ·have Pg:Lex (Dq d) v b a:=by
   refine .inr ⟨by rw [gJ,cO,z];omega,?_⟩
   have c1:kP b a v= -kP a b v:=by unfold kP;grind
   have c2:xJ b a v= -xJ a b v:=by unfold xJ;grind
   have c3:=zZ ne nv
   have n1:¬ 0 < kP a b v:=fun y=>lx (.inr ⟨by rw [cO,z],.inl y⟩)
   have n2:¬ (kP a b v=0∧0 < xJ a b v):=fun y=>lx (.inr ⟨by rw [cO,z],.inr y⟩)
   omega
  by_cases sd: [b,a]∈aK ts
  ·obtain ⟨w,Ds,m2⟩:=aS.mp sd
   obtain ⟨g,rw'⟩:=gA (k.bF w Ds) m2
   obtain ⟨pw,_,_,hg⟩:=rw'.tw (k.bF w Ds)
   have i1:tw a g d*tw a b c=tw c a d*tw b a g:=by
    have:tw a g d*tw a b c=tw c a d*tw b a g+tw a b d*tw a g c:=by unfold tw;grind
    rw [z,Vg] at this
    omega
   have i2:tw g b d*tw a b c=tw b c d*tw b a g:=by
    have:tw g b d*tw a b c=tw b c d*tw b a g+tw a b d*tw g b c:=by unfold tw;grind
    rw [z,Vg] at this
    omega
   have q1:0 < tw a g d:=pA pt (by rw [U4,i1];exact T8 p3 pw)
   have q2:0 < tw g b d:=pA pt (by rw [U4,i2];exact T8 p2 pw)
   have:=k.same nf hN Ds hu rw' ru nv Pg (.inl (by rw [cO];exact q1)) (.inl (by rw [cO];exact q2)) g1 g2 g3
   rw [← this] at du
   rcases (rw'.mem d).mp du with y | y | y
   ·exact nb y
   ·exact na y
   ·rw [← y] at q1;unfold tw at q1;exact absurd q1 (by grind)
  ·have m: [a,b]∈aK ts:=aS.mpr ⟨t,ht,r.dir.mem_iff.mpr (by simp)⟩
   have DV:=(k.t6.bare a b m sd).2.2.2
   obtain ⟨x,_,hx⟩:=beside (Q:=Q) hN nv
   have x1:=hx _ hd _ he g1
   have x2:=hx _ he _ hf g2
   have x3:=hx _ hf _ hd g3
   have x4:=hx _ hb _ ha Pg
   have i:=Li a b d e f x
   have y1:=TF (T3 x2) (DV d hd).1
   have y2:=TF (T3 x3) (DV e he).1
   have y3:=TF (T3 x1) (DV f hf).1
   have:hw a b x < 0:=by have:=gJ b a x;omega
   have:=Uw this pu
   omega
theorem bJ.empty (k:bJ Q ts) (nf:¬ Flat Q) (fu:Full Q ts) {t:List Pl} (ht:t∈ts) {a b c d:Pl} (r:bW t a b c) (hd:d∈Q) (w1:0≤tw a b d) (w2:0≤tw b c d) (w3:0≤tw c a d):d=a∨d=b∨d=c:=by
 obtain ⟨u,hu,du⟩:=fu d hd
 obtain ⟨e,f,ru⟩:=bW.Dr (k.bF u hu) du
 obtain ⟨pt,ha,hb,hc⟩:=r.tw (k.bF t ht)
 obtain ⟨pu,_,_,_⟩:=ru.tw (k.bF u hu)
 apply Tj
 intro no
 have na:d≠a:=fun y=>no (.inl y)
 have nb:d≠b:=fun y=>no (.inr (.inl y))
 have nc:d≠c:=fun y=>no (.inr (.inr y))
 have at2:∀ {a b c:Pl},0 < tw a b c→d≠b→¬ (tw a b d=0∧tw b c d=0):=fun {a b c} p n z=>by
  obtain ⟨e1,e2⟩:=t7 (X:=Dq d) p (by rw [cO];exact z.1) (by rw [cO];exact z.2)
  have e1:d.x=1*b.x:=e1
  have e2:d.y=1*b.y:=e2
  apply n
  cases d
  cases b
  simp only at e1 e2
  rw [e1,e2,VY,VY]
 have n1:=at2 pt nb
 have n2:=at2 (a:=b) (b:=c) (c:=a) (by have:=gU a b c;omega) nc
 have n3:=at2 (a:=c) (b:=a) (c:=b) (by have:=lA a b c;omega) na
 by_cases z1:tw a b d=0
 ·exact vf k nf ht hu r ru na nb nc z1 (by omega) (by omega)
 by_cases z2:tw b c d=0
 ·exact vf k nf ht hu r.next ru nb nc na z2 (by omega) (by omega)
 by_cases z3:tw c a d=0
 ·exact vf k nf ht hu r.next.next ru nc na nb z3 (by omega) (by omega)
 have hN:0 < (Dq d).N:=by show (0:Int) < 1;decide
 have:=k.alone nf hN ht hu r ru (by rw [cO];omega) (by rw [cO];omega) (by rw [cO];omega) (by
  unfold Wk
  rw [cO,cO,cO]
  have e1:tw d e d=0:=by unfold tw;grind
  have e2:tw f d d=0:=by unfold tw;grind
  have e3:=gU d e f
  omega)
 rw [← this] at du
 exact no ((r.mem d).mp du)
theorem qF {α:Type} {f g:α→Int}:∀ {l:List α},l≠[]→(∀ p∈l,0 < g p)→∃ q∈l,∀ p∈l,f q*g p≤f p*g q
 | [x],_,hg=>⟨x,by simp,fun p hp=>by rw [Tt.mp hp];exact UG _⟩
 | x :: y :: r,_,hg=>by
   obtain ⟨q,hq,h⟩:=qF (f:=f) (g:=g) (l:=y :: r) (by simp) fun p hp=>hg p (Tn _ hp)
   have gx:=hg x (by simp)
   have gq:=hg q (Tn _ hq)
   rcases Ve (f q*g x) (f x*g q) with k | k
   ·refine ⟨q,Tn _ hq,fun p hp=>?_⟩
    rcases Tp.mp hp with rfl | hp
    ·exact k
    ·exact h p hp
   ·refine ⟨x,by simp,fun p hp=>?_⟩
    rcases Tp.mp hp with rfl | hp
    ·exact UG _
    ·have Je:=h p hp
     have gp:=hg p (Tn _ hp)
     refine VZ ?_ gq
     have a1:=Ui k (T3 gp)
     have a2:=Ui Je (T3 gx)
     have e1:f x*g q*g p=f x*g p*g q:=by grind
     have e2:f q*g x*g p=f q*g p*g x:=by grind
     have e3:f p*g q*g x=f p*g x*g q:=by grind
     omega
def Oi (H:Pl→Int) (d:Pl):List Pl→Int
 | [a,b,c]=>bU H a b c d
 | _=>0
def Oj:List Pl→Int
 | [a,b,c]=>tw a b c
 | _=>0
theorem Ac {t:List Pl} {a b c:Pl} (r:bW t a b c):Oj t=tw a b c:=by
 rcases r with rfl | rfl | rfl
 ·rfl
 ·exact gU a b c
 ·exact lA a b c
theorem Ae {t:List Pl} {a b c:Pl} (r:bW t a b c) (H:Pl→Int) (d:Pl):Oi H d t=bU H a b c d:=by
 rcases r with rfl | rfl | rfl
 ·rfl
 ·exact pG H a b c d
 ·exact (pG H c a b d).symm
def Calm (ts:List (List Pl)):Prop:= ∀ t∈ts,∀ u∈ts,∀ a b c e,bW t a b c→bW u b a e→¬ oS t e
theorem bJ.calm (k:bJ Q ts) (nf:¬ Flat Q) (fu:Full Q ts) (ca:Calm ts):∀ t∈ts,rT Q t:=by
 obtain ⟨H,h⟩:=eG Q
 intro u hu d hd
 have tp:∀ t∈ts,0 < L3.Oj t:=fun t ht=>by
  obtain ⟨a,b,c,rfl,p,_⟩:=(k.bF t ht).parts
  exact p
 obtain ⟨t,ht,hm⟩:=qF (f:=L3.Oi H d) (g:=L3.Oj) (l:=ts) (UZ hu) tp
 have nx:∀ a b c,bW t a b c→0≤tw a b d:=fun a b c r=>by
  apply Tj
  intro y
  obtain ⟨w,Ds,e,rw'⟩:=k.LR ht r hd (by omega)
  obtain ⟨pt,ha,hb,hc⟩:=r.tw (k.bF t ht)
  obtain ⟨pw,_,_,he⟩:=rw'.tw (k.bF w Ds)
  have i:=nG H a b c e d
  have m:=hm w Ds
  rw [Ae r,Ac r,Ae rw',Ac rw'] at m
  have l0:0 < bU H a b c e:=by
   have n:=ca t ht w Ds a b c e r rw'
   rw [h.w4 (k.bF t ht) r he] at n
   have:bU H a b c e≠0:=fun z=>by
    rcases h.gen a ha b hb c hc e he pt z with rfl | rfl | rfl
    ·unfold tw at pw;exact absurd pw (by grind)
    ·unfold tw at pw;exact absurd pw (by grind)
    ·have:=bH a b e;omega
   omega
  have:=T8 l0 (show 0 < tw b a d by have:=bH a b d;omega)
  omega
 obtain ⟨a,b,c,rfl,pt,_⟩:=(k.bF t ht).parts
 have r:bW [a,b,c] a b c:= .inl rfl
 have z:L3.Oi H d [a,b,c]=0:=by
  show bU H a b c d=0
  rcases k.empty nf fu ht r hd (nx _ _ _ r) (nx _ _ _ r.next) (nx _ _ _ r.next.next) with rfl | rfl | rfl
  ·exact Gy _ _ _ _
  ·exact Gz _ _ _ _
  ·exact Dm _ _ _ _
 have m:=hm u hu
 rw [z,Vg] at m
 obtain ⟨a',b',c',rfl,pu,_⟩:=(k.bF u hu).parts
 rw [h.w4 (k.bF _ hu) (.inl rfl) hd]
 have m:0≤bU H a' b' c' d*tw a b c:=m
 have:=gj pt (by rw [U4];exact m)
 omega
theorem inner {t:List Pl} (hT:fE Q t) {a b c:Pl} (r:bW t a b c):∃ x:Pt,Gen Q x∧0 < hw a b x∧0 < hw b c x∧0 < hw c a x:=by
 obtain ⟨p,ha,hb,hc⟩:=r.tw hT
 have hN:0 < (Dq a).N:=by show (0:Int) < 1;decide
 have wk:Wk (Dq a) a b c:=by
  unfold Wk
  rw [cO,cO,cO]
  have e1:tw a b a=0:=by unfold tw;grind
  have e2:tw c a a=0:=by unfold tw;grind
  have e3:=gU a b c
  omega
 obtain ⟨v,nv,g1,g2,g3⟩:=into hN p wk
 obtain ⟨x,g,hx⟩:=beside (Q:=Q) hN nv
 exact ⟨x,g,hx _ ha _ hb g1,hx _ hb _ hc g2,hx _ hc _ ha g3⟩
theorem bJ.all (k:bJ Q ts) (nf:¬ Flat Q) {ns:List (List Pl)} (n:bJ Q ns) (sub:∀ t∈ts,t∈ns):∀ t∈ns,t∈ts:=fun t ht=>by
 have hT:=n.bF t ht
 obtain ⟨a,b,c,rfl,p,ha,hb,hc,_⟩:=hT.parts
 have r:bW [a,b,c] a b c:= .inl rfl
 obtain ⟨x,g,x1,x2,x3⟩:=inner hT r
 obtain ⟨u,hu,iu⟩:=k.some nf g ha hb hc p x1 x2 x3
 have:=n.one nf g ht (sub u hu) (r.ins x1 x2 x3) iu
 rw [this]
 exact hu
end
end L3
namespace L3
section
variable {Q:List Pl} {ts us:List (List Pl)} {H:Pl→Int} {a b c d:Pl}
theorem IC (a b c p:Pl):tw a b c*dep a b c p=tw b c p*tw c a p*uH a b+tw c a p*tw a b p*uH b c+tw a b p*tw b c p*uH c a:=by unfold dep uH tw;grind
theorem nI {p:Pl} (t:0 < tw a b c) (z1:tw a b p=0) (z2:tw b c p=0):p=b:=by
 obtain ⟨e1,e2⟩:=t7 (X:=Dq p) t (by rw [cO];exact z1) (by rw [cO];exact z2)
 have e1:p.x=1*b.x:=e1
 have e2:p.y=1*b.y:=e2
 cases p
 cases b
 simp only at e1 e2
 rw [e1,e2,VY,VY]
theorem qG {p:Pl} (t:0 < tw a b c) (w1:0≤tw a b p) (w2:0≤tw b c p) (w3:0≤tw c a p) (na:p≠a) (nb:p≠b) (nc:p≠c):fM a b c p:=by
 refine k9 t (pA t ?_)
 rw [IC]
 have n1:a≠b:=fun z=>by rw [z] at t;unfold tw at t;grind
 have n2:b≠c:=fun z=>by rw [z] at t;unfold tw at t;grind
 have n3:c≠a:=fun z=>by rw [z] at t;unfold tw at t;grind
 have d1:=uI n1
 have d2:=uI n2
 have d3:=uI n3
 have m1:=TF (TF w2 w3) (T3 d1)
 have m2:=TF (TF w3 w1) (T3 d2)
 have m3:=TF (TF w1 w2) (T3 d3)
 have k1:¬ (tw a b p=0∧tw b c p=0):=fun z=>nb (nI t z.1 z.2)
 have k2:¬ (tw b c p=0∧tw c a p=0):=fun z=>nc (nI (a:=b) (b:=c) (c:=a) (by have:=gU a b c;omega) z.1 z.2)
 have k3:¬ (tw c a p=0∧tw a b p=0):=fun z=>na (nI (a:=c) (b:=a) (c:=b) (by have:=lA a b c;omega) z.1 z.2)
 by_cases z1:tw a b p=0
 ·have:=T8 (T8 (show 0 < tw b c p by omega) (show 0 < tw c a p by omega)) d1
  omega
 by_cases z2:tw b c p=0
 ·have:=T8 (T8 (show 0 < tw c a p by omega) (show 0 < tw a b p by omega)) d2
  omega
 have:=T8 (T8 (show 0 < tw a b p by omega) (show 0 < tw b c p by omega)) d3
 omega
theorem ID (H:Pl→Int) (a b c d:Pl):bU H a d c b= -bU H a b c d:=by unfold bU tw;grind
theorem IE (H:Pl→Int) (a b c d:Pl):bU H d b c a= -bU H a b c d:=by unfold bU tw;grind
theorem Af (H:Pl→Int) (a b c d:Pl):bU H b a d c=bU H a b c d:=by unfold bU tw;grind
theorem Fv (p1:0 < tw a b c) (p2:0 < tw b a d):fM a b c d↔fM b a d c:=by
 obtain ⟨H,h⟩:=eG [a,b,c,d]
 rw [h.ve a (by simp) b (by simp) c (by simp) d (by simp) p1,h.ve b (by simp) a (by simp) d (by simp) c (by simp) p2,Af]
theorem Bd (p1:0 < tw a b c) (p2:0 < tw b a d) (s:fM a b c d):0 < tw c d b∧tw c d a < 0:=by
 obtain ⟨H,h⟩:=eG [a,b,c,d]
 have s:=(h.ve a (by simp) b (by simp) c (by simp) d (by simp) p1).mp s
 have f:=bH a b d
 have ne:∀ {x y z:Pl},0 < tw x y z→x≠y∧y≠z∧z≠x:=fun {x y z} p=>⟨fun e=>by rw [e] at p;unfold tw at p;grind,fun e=>by rw [e] at p;unfold tw at p;grind,fun e=>by rw [e] at p;unfold tw at p;grind⟩
 obtain ⟨n1,n2,n3⟩:=ne p1
 obtain ⟨_,n4,n5⟩:=ne p2
 have n6:c≠d:=fun e=>by rw [e] at p1;omega
 constructor
 ·apply Tj
  intro y
  have e1:tw a d b=tw b a d:=gU b a d
  have e2:tw d c b= -tw c d b:=bH c d b
  have e3:tw c a b=tw a b c:=lA a b c
  have e4:tw a d c=tw a d b+tw d c b+tw c a b:=by unfold tw;grind
  have pos:0 < tw a d c:=by omega
  have sp:=qG (p:=b) pos (by omega) (by omega) (by omega) n1.symm n5.symm n2
  have:=(h.ve a (by simp) d (by simp) c (by simp) b (by simp) pos).mp sp
  rw [ID] at this
  omega
 ·apply Tj
  intro y
  have e1:tw d b a=tw b a d:=lA b a d
  have e2:tw b c a=tw a b c:=gU a b c
  have e4:tw d b c=tw d b a+tw b c a+tw c d a:=by unfold tw;grind
  have pos:0 < tw d b c:=by omega
  have sp:=qG (p:=a) pos (by omega) (by omega) (by omega) n4 n1 n3.symm
  have:=(h.ve d (by simp) b (by simp) c (by simp) a (by simp) pos).mp sp
  rw [IE] at this
  omega
theorem w5 {α β:Type} {f:α→List β} {w:β}:∀ {l:List α},(l.flatMap f).Nodup→∀ {t u:α},t∈l→u∈l→w∈f t→w∈f u→t=u
 | x :: r,nd,t,u,ht,hu,m1,m2=>by
   rw [UH] at nd
   obtain ⟨_,n2,n3⟩:=Ub.mp nd
   rcases Tp.mp ht with e1 | h1
   ·rcases Tp.mp hu with e2 | h2
    ·rw [e1,e2]
    ·rw [e1] at m1
     exact absurd rfl (n3 w m1 w (UM.mpr ⟨u,h2,m2⟩))
   ·rcases Tp.mp hu with e2 | h2
    ·rw [e2] at m2
     exact absurd rfl (n3 w m2 w (UM.mpr ⟨t,h1,m1⟩))
    ·exact w5 n2 h1 h2 m1 m2
theorem bW.Be {t:List Pl} (r:bW t a b c): [a,b]∈dh t:=r.dir.mem_iff.mpr (by simp)
def yJ (ts us:List (List Pl)) (a b c d:Pl):Prop:= ∃ t1 t2 u1 u2,t1∈ts∧t2∈ts∧bW t1 a b c∧bW t2 b a d∧bW u1 a d c∧bW u2 b c d∧dI u1∧dI u2∧tw c d a*tw c d b < 0∧us.Perm (u1 :: u2 :: ts.filter (fun t=>decide (t∉[t1,t2])))
theorem yK {t1 t2:List Pl} (nd:ts.Nodup) (n:t1≠t2) (h1:t1∈ts) (h2:t2∈ts):ts.Perm (t1 :: t2 :: ts.filter (fun t=>decide (t∉[t1,t2]))):=by
 refine fW nd (T4.mpr ⟨fun z=>?_,T4.mpr ⟨fun z=>?_,nd.filter _⟩⟩) fun t=>?_
 ·rcases Tp.mp z with z | z
  ·exact n z
  ·exact of_decide_eq_true (Tu.mp z).2 (by simp)
 ·exact of_decide_eq_true (Tu.mp z).2 (by simp)
 ·rw [Tp,Tp,Tu]
  constructor
  ·intro h
   by_cases e1:t=t1
   ·exact .inl e1
   ·by_cases e2:t=t2
    ·exact .inr (.inl e2)
    ·exact .inr (.inr ⟨h,decide_eq_true (by simp [e1,e2])⟩)
  ·rintro (rfl | rfl | h)
   ·exact h1
   ·exact h2
   ·exact h.1
theorem vg {t1 t2:List Pl} (h1:fE Q t1) (h2:fE Q t2) (r1:bW t1 a b c) (r2:bW t2 b a d):t1≠t2:=fun z=>by
 obtain ⟨p1,_⟩:=r1.tw h1
 obtain ⟨p2,_⟩:=r2.tw h2
 rw [z] at r1
 have:c=d:=by
  rcases (r1.mem d).mp ((r2.mem d).mpr (by simp)) with h | h | h
  ·rw [h] at p2;unfold tw at p2;exact absurd p2 (by grind)
  ·rw [h] at p2;unfold tw at p2;exact absurd p2 (by grind)
  ·exact h.symm
 rw [this] at p1
 have:=bH a b d
 omega
theorem yJ.Fw (k:bJ Q ts) (nf:¬ Flat Q) (h:yJ ts us a b c d):bJ Q us:=by
 obtain ⟨t1,t2,u1,u2,m1,m2,r1,r2,v1,v2,i1,i2,cv,hp⟩:=h
 exact k.flip nf (yK k.nodup (vg (k.bF _ m1) (k.bF _ m2) r1 r2) m1 m2) r1 r2 cv hp v1 v2 i1 i2
theorem yJ.len (k:bJ Q ts) (h:yJ ts us a b c d):us.length=ts.length:=by
 obtain ⟨t1,t2,u1,u2,m1,m2,r1,r2,v1,v2,i1,i2,cv,hp⟩:=h
 rw [hp.length_eq,(yK k.nodup (vg (k.bF _ m1) (k.bF _ m2) r1 r2) m1 m2).length_eq]
 rfl
theorem yJ.full (fu:Full Q ts) (h:yJ ts us a b c d):Full Q us:=fun q hq=>by
 obtain ⟨t1,t2,u1,u2,m1,m2,r1,r2,v1,v2,i1,i2,cv,hp⟩:=h
 obtain ⟨t,ht,qt⟩:=fu q hq
 have j1:u1∈us:=hp.mem_iff.mpr (by simp)
 have j2:u2∈us:=hp.mem_iff.mpr (by simp)
 have four:q=a∨q=b∨q=c∨q=d→∃ u∈us,q∈u:=fun h4=>by
  rcases h4 with y | y | y | y
  ·exact ⟨u1,j1,(v1.mem q).mpr (.inl y)⟩
  ·exact ⟨u2,j2,(v2.mem q).mpr (.inl y)⟩
  ·exact ⟨u2,j2,(v2.mem q).mpr (.inr (.inl y))⟩
  ·exact ⟨u2,j2,(v2.mem q).mpr (.inr (.inr y))⟩
 by_cases e1:t=t1
 ·rw [e1] at qt
  refine four ?_
  rcases (r1.mem q).mp qt with y | y | y <;> simp [y]
 ·by_cases e2:t=t2
  ·rw [e2] at qt
   refine four ?_
   rcases (r2.mem q).mp qt with y | y | y <;> simp [y]
  ·exact ⟨t,hp.mem_iff.mpr (Tn _ (Tn _ (Tu.mpr ⟨ht,decide_eq_true (by simp [e1,e2])⟩))),qt⟩
end
end L3
namespace L3
open PySem PySem.Spec PyProof.Rows L2
theorem gK (ps:List Pl):kD (jR ps)=tD ps:=by
 unfold kD jR tD
 rw [We]
 rfl
section
variable {Q:List Pl} {ts:List (List Pl)}
def DW (ts:List (List Pl)) (a b c d:Pl):Prop:=(∃ t∈ts,bW t a b c)∧∃ t∈ts,bW t b a d
def nJ (ts:List (List Pl)) (s:List Pl):Prop:= ∃ a b c d:Pl,s= [a,b]∧aG a b∧DW ts a b c d∧fM a b c d
theorem Bf {t:List Pl} {a b c d:Pl} (hT:fE Q t) (r:bW t a b c) (r':bW t a b d):c=d:=by
 obtain ⟨x,y,z,rfl,_,_,_,_,n1,n2,n3⟩:=hT.parts
 unfold bW at r r'
 simp only [List.cons.injEq,and_true] at r r'
 rcases r with ⟨rfl,rfl,rfl⟩ | ⟨rfl,rfl,rfl⟩ | ⟨rfl,rfl,rfl⟩ <;> rcases r' with ⟨h1,h2,h3⟩ | ⟨h1,h2,h3⟩ | ⟨h1,h2,h3⟩ <;> first | exact h3 | exact h1 | exact h2 | (exfalso;simp_all)
theorem w6 (nd:(aK ts).Nodup) (bF:∀ t∈ts,fE Q t) {t u:List Pl} {a b c d:Pl} (ht:t∈ts) (hu:u∈ts) (r:bW t a b c) (r':bW u a b d):t=u∧c=d:=by
 have e:t=u:=w5 nd ht hu r.Be r'.Be
 subst e
 exact ⟨rfl,Bf (bF t ht) r r'⟩
theorem i8 {a b c:Pl} (p:0 < tw a b c) {x y z:Pl} (h: [x,y,z].Perm [a,b,c]):bW (rF x y z) a b c∧dI (rF x y z):=by
 obtain ⟨t,i,r⟩:=qC p
 have q1:t.Perm [a,b,c]:=by
  rcases r with rfl | rfl | rfl
  ·exact .refl _
  ·exact (Uc (l₁:=[b,c]) (l₂:=[a]))
  ·exact (Uc (l₁:=[c]) (l₂:=[a,b]))
 obtain ⟨_,e⟩:=l5 i (q1.trans h.symm)
 rw [← e]
 exact ⟨r,i⟩
theorem w9 (x y z:Pl): [x,y,z].Perm [x,z,y]:= .cons _ (.swap _ _ _)
theorem DW.one (nd:(aK ts).Nodup) (bF:∀ t∈ts,fE Q t) {a b c d c' d':Pl} (h:DW ts a b c d) (h':DW ts a b c' d'):c=c'∧d=d':=by
 obtain ⟨⟨t,ht,r⟩,⟨w,hw,r2⟩⟩:=h
 obtain ⟨⟨t',ht',r'⟩,⟨w',Ds,r2'⟩⟩:=h'
 exact ⟨(w6 nd bF ht ht' r r').2,(w6 nd bF hw Ds r2 r2').2⟩
theorem Bg (a b c d:Pl):tw d c a*tw d c b=tw c d a*tw c d b:=by rw [bH c d a,bH c d b,Vu]
theorem Dt (k:bJ Q ts) {t u:List Pl} {a b c d:Pl} (ht:t∈ts) (hu:u∈ts) (r1:bW t a b c) (r2:bW u b a d) (cv:tw c d a*tw c d b < 0) {us:List (List Pl)} {v1 v2:List Pl} (e1:bW v1 a d c∧dI v1) (e2:bW v2 b c d∧dI v2) (hp:us.Perm (ts.filter (fun x=>decide (x∉[t,u])) ++ [v1,v2])):yJ ts us a b c d:=
 ⟨t,u,v1,v2,ht,hu,r1,r2,e1.1,e2.1,e1.2,e2.2,cv,hp.trans Uc⟩
theorem xg (k:bJ Q ts) {t u:List Pl} {a b c d:Pl} (ht:t∈ts) (hu:u∈ts) (h:(bW t a b c∧bW u b a d)∨(bW t b a c∧bW u a b d)) :
 (tw c d a*tw c d b < 0→∀ us:List (List Pl),us.Perm (ts.filter (fun x=>decide (x∉[t,u])) ++ [rF a c d,rF b c d])→∃ c' d',DW ts a b c' d'∧yJ ts us a b c' d')∧
 (¬ (tw c d a*tw c d b < 0)→¬ ∃ c' d',DW ts a b c' d'∧tw c' d' a*tw c' d' b < 0):=by
 rcases h with ⟨r1,r2⟩ | ⟨r1,r2⟩
 ·have ad:DW ts a b c d:=⟨⟨t,ht,r1⟩,⟨u,hu,r2⟩⟩
  obtain ⟨p1,_⟩:=r1.tw (k.bF t ht)
  obtain ⟨p2,_⟩:=r2.tw (k.bF u hu)
  refine ⟨fun cv us hp=>⟨c,d,ad,?_⟩,fun n ⟨c',d',h1,h2⟩=>?_⟩
  ·obtain ⟨s1,s2⟩:=i7 p1 p2 cv
   have g1:tw a d c= -tw c d a:=by unfold tw;grind
   have g2:=gU b c d
   exact Dt k ht hu r1 r2 cv (i8 (by omega) (w9 a c d)) (i8 (by omega) (.refl _)) hp
  ·obtain ⟨rfl,rfl⟩:=ad.one k.t6.nd k.bF h1
   exact n h2
 ·have ad:DW ts a b d c:=⟨⟨u,hu,r2⟩,⟨t,ht,r1⟩⟩
  obtain ⟨p1,_⟩:=r1.tw (k.bF t ht)
  obtain ⟨p2,_⟩:=r2.tw (k.bF u hu)
  have pf:=Bg a b c d
  refine ⟨fun cv us hp=>⟨d,c,ad,?_⟩,fun n ⟨c',d',h1,h2⟩=>?_⟩
  ·obtain ⟨s1,s2⟩:=i7 p2 p1 (by omega)
   have g1:tw a c d= -tw d c a:=by unfold tw;grind
   have g2:tw b d c=tw d c b:=by unfold tw;grind
   have ef:ts.filter (fun x=>decide (x∉[t,u]))=ts.filter (fun x=>decide (x∉[u,t])):=List.filter_congr fun x _=>by
    rw [decide_eq_decide]
    simp only [Tp,Ur,or_false]
    exact ⟨fun h z=>h z.symm,fun h z=>h z.symm⟩
   rw [ef] at hp
   exact Dt k hu ht r2 r1 (by omega) (i8 (by omega) (.refl _)) (i8 (by omega) (w9 b c d)) hp
  ·obtain ⟨rfl,rfl⟩:=ad.one k.t6.nd k.bF h1
   omega
theorem Du {t:List Pl} {a b c d:Pl} (hT:fE Q t) (r:bW t a b c) (hd:d∈Q):oS t d↔fM a b c d:=by
 obtain ⟨H,h⟩:=eG Q
 obtain ⟨p,ha,hb,hc⟩:=r.tw hT
 rw [h.w4 hT r hd,h.ve a ha b hb c hc d hd p]
theorem nJ.turns {s:List Pl} (bF:∀ t∈ts,fE Q t) (h:nJ ts s):∃ a b c d,s= [a,b]∧aG a b∧DW ts a b c d∧tw c d a*tw c d b < 0∧fM a b c d:=by
 obtain ⟨a,b,c,d,e,hb,⟨⟨t,ht,r⟩,⟨u,hu,r2⟩⟩,sp⟩:=h
 obtain ⟨p1,_⟩:=r.tw (bF t ht)
 obtain ⟨p2,_⟩:=r2.tw (bF u hu)
 obtain ⟨q1,q2⟩:=Bd p1 p2 sp
 exact ⟨a,b,c,d,e,hb,⟨⟨t,ht,r⟩,⟨u,hu,r2⟩⟩,Uw q2 q1,sp⟩
theorem yJ.Ph {us:List (List Pl)} {a b c d:Pl} (f:yJ ts us a b c d):DW ts a b c d:=by
 obtain ⟨t1,t2,_,_,m1,m2,r1,r2,_⟩:=f
 exact ⟨⟨t1,m1,r1⟩,⟨t2,m2,r2⟩⟩
end
end L3
namespace L3
section
variable {Q:List Pl} {ts us vs:List (List Pl)} {H:Pl→Int} {a b c d:Pl}
end
end L3
namespace L3
section
variable {Q:List Pl} {ts us vs:List (List Pl)} {H:Pl→Int} {a b c d:Pl}
def lD (H:Pl→Int):List Pl→Int
 | [a,b,c]=>tw a b c*(H a+H b+H c)
 | _=>0
def GA (H:Pl→Int) (ts:List (List Pl)):Int:=sz (lD H) ts
theorem mE {t:List Pl} (r:bW t a b c) (H:Pl→Int):lD H t=tw a b c*(H a+H b+H c):=by
 rcases r with rfl | rfl | rfl
 ·rfl
 ·show tw b c a*(H b+H c+H a)=_
  rw [gU]
  congr 1
  omega
 ·show tw c a b*(H c+H a+H b)=_
  rw [lA]
  congr 1
  omega
theorem Dv (bF:∀ t∈ts,fE Q t) (h:∀ p∈Q,0≤H p):0≤GA H ts:=by
 unfold GA
 induction ts with
 | nil=>exact UG _
 | cons t r ih=>
   have i:=ih fun u hu=>bF u (Tn _ hu)
   obtain ⟨a,b,c,rfl,p,ha,hb,hc,_⟩:=(bF t (by simp)).parts
   have:=TF (T3 p) (show 0≤H a+H b+H c by have:=h a ha;have:=h b hb;have:=h c hc;omega)
   show 0≤tw a b c*(H a+H b+H c)+sz (lD H) r
   omega
theorem yJ.GA (k:bJ Q us) (f:yJ us vs a b c d) (H:Pl→Int):GA H vs=GA H us+bU H a b c d:=by
 obtain ⟨t1,t2,u1,u2,m1,m2,r1,r2,v1,v2,i1,i2,cv,hp⟩:=f
 have e1:=pF (lD H) hp
 have e2:=pF (lD H) (yK k.nodup (vg (k.bF _ m1) (k.bF _ m2) r1 r2) m1 m2)
 have e3:sz (lD H) (u1 :: u2 :: us.filter (fun t=>decide (t∉[t1,t2])))=lD H u1+(lD H u2+sz (lD H) (us.filter (fun t=>decide (t∉[t1,t2])))):=rfl
 have e4:sz (lD H) (t1 :: t2 :: us.filter (fun t=>decide (t∉[t1,t2])))=lD H t1+(lD H t2+sz (lD H) (us.filter (fun t=>decide (t∉[t1,t2])))):=rfl
 rw [e3,mE v1,mE v2] at e1
 rw [e4,mE r1,mE r2] at e2
 have e5:tw a d c*(H a+H d+H c)+tw b c d*(H b+H c+H d)=tw a b c*(H a+H b+H c)+tw b a d*(H b+H a+H d)+bU H a b c d:=by unfold bU tw;grind
 show sz (lD H) vs=sz (lD H) us+bU H a b c d
 omega
def Rh (us:List (List Pl)) (s o:List Pl) (vs:List (List Pl)):Prop:= ∃ a b c d:Pl,s= [a,b]∧aG a b∧o= [lo c d,hi c d]∧fM a b c d∧yJ us vs a b c d∧vs.Pairwise (fun p q=>bZ q p=false)
inductive Run:List (List Pl)→List (List Pl ×List Pl)→List (List Pl)→Prop
 | nil (us:List (List Pl)):Run us [] us
 | cons {us vs ws:List (List Pl)} {s o:List Pl} {ss:List (List Pl ×List Pl)}:Rh us s o vs→Run vs ss ws→Run us ((s,o) :: ss) ws
theorem yJ.Dw (k:bJ Q us) (h:Ht Q H) (f:yJ us vs a b c d):fM a b c d↔bU H a b c d < 0:=by
 obtain ⟨t1,t2,_,_,m1,m2,r1,r2,_⟩:=f
 obtain ⟨p1,ha,hb,hc⟩:=r1.tw (k.bF _ m1)
 obtain ⟨_,_,_,hd⟩:=r2.tw (k.bF _ m2)
 exact h.ve a ha b hb c hc d hd p1
end
end L3
namespace L3
section
variable {Q:List Pl} {ts us vs:List (List Pl)} {a b c d:Pl}
theorem Bh (nf:¬ Flat Q) (Ll:∀ l:List (List Pl),∃ m:List (List Pl),m.Perm l∧m.Pairwise (fun p q=>bZ q p=false)):∀ (n:Nat) {H:Pl→Int} (_:Ht Q H) {us:List (List Pl)},(GA H us).toNat≤n→bJ Q us→Full Q us→∃ ss ws,Run us ss ws∧bJ Q ws∧Full Q ws∧∀ s,¬ nJ ws s:=by
 intro n
 induction n with
 | zero=>
   intro H h us hv k fu
   by_cases w:∃ s,nJ us s
   ·obtain ⟨s,w⟩:=w
    obtain ⟨a,b,c,d,rfl,hb,⟨⟨t,ht,r1⟩,⟨u,hu,r2⟩⟩,cv,sp⟩:=w.turns k.bF
    obtain ⟨p1,ha,hb',hc⟩:=r1.tw (k.bF t ht)
    obtain ⟨p2,_,_,hd⟩:=r2.tw (k.bF u hu)
    obtain ⟨m,hm,so⟩:=Ll (us.filter (fun x=>decide (x∉[t,u])) ++ [rF a c d,rF b c d])
    obtain ⟨c',d',_,f⟩:=(xg k ht hu (.inl ⟨r1,r2⟩)).1 cv m hm
    obtain ⟨rfl,rfl⟩:=f.Ph.one k.t6.nd k.bF ⟨⟨t,ht,r1⟩,⟨u,hu,r2⟩⟩
    have l:=(f.Dw k h).mp sp
    have e:=f.GA k H
    have n1:=Dv (f.Fw k nf).bF h.nn
    omega
   ·exact ⟨[],us,.nil us,k,fu,fun s ws=>w ⟨s,ws⟩⟩
 | succ n ih=>
   intro H h us hv k fu
   by_cases w:∃ s,nJ us s
   ·obtain ⟨s,w⟩:=w
    obtain ⟨a,b,c,d,rfl,hb,⟨⟨t,ht,r1⟩,⟨u,hu,r2⟩⟩,cv,sp⟩:=w.turns k.bF
    obtain ⟨m,hm,so⟩:=Ll (us.filter (fun x=>decide (x∉[t,u])) ++ [rF a c d,rF b c d])
    obtain ⟨c',d',_,f⟩:=(xg k ht hu (.inl ⟨r1,r2⟩)).1 cv m hm
    obtain ⟨rfl,rfl⟩:=f.Ph.one k.t6.nd k.bF ⟨⟨t,ht,r1⟩,⟨u,hu,r2⟩⟩
    have l:=(f.Dw k h).mp sp
    have e:=f.GA k H
    have n1:=Dv (f.Fw k nf).bF h.nn
    obtain ⟨ss,ws,run,k2,Ol,no⟩:=ih h (us:=m) (by omega) (f.Fw k nf) (f.full fu)
    exact ⟨_,ws,.cons ⟨a,b,_,_,rfl,hb,rfl,sp,f,so⟩ run,k2,Ol,no⟩
   ·exact ⟨[],us,.nil us,k,fu,fun s ws=>w ⟨s,ws⟩⟩
theorem Fx (k:bJ Q ts) (no:∀ s,¬ nJ ts s):Calm ts:=fun t ht u hu a b c e r1 r2 sp=>by
 obtain ⟨p1,ha,hb,hc⟩:=r1.tw (k.bF t ht)
 obtain ⟨p2,_,_,he⟩:=r2.tw (k.bF u hu)
 have Pj:=(Du (k.bF t ht) r1 he).mp sp
 rcases bD a b with h | h | h
 ·exact no _ ⟨a,b,c,e,rfl,h,⟨⟨t,ht,r1⟩,⟨u,hu,r2⟩⟩,Pj⟩
 ·rw [h] at p1;unfold tw at p1;exact absurd p1 (by grind)
 ·exact no _ ⟨b,a,e,c,rfl,h,⟨⟨u,hu,r2⟩,⟨t,ht,r1⟩⟩,(Fv p1 p2).mp Pj⟩
end
end L3
namespace L3
section
variable {Q:List Pl} {ns:List (List Pl)} {p:Pl}
def mF (Q:List Pl) (ns:List (List Pl)) (p:Pl) (a b:Pl):Prop:=(∃ t∈ns,oS t p∧[a,b]∈dh t)∨(aR Q b a∧tw b a p < 0)
theorem xh (s:cu Q) (nd:ns.Nodup) (mem:∀ t,t∈ns↔fE Q t∧rT Q t) {R:List Pl} (hR:∀ q,q∈R↔q∈Q∨q=p) {H:Pl→Int} (h:Ht R H) (np:p∉Q) {a b:Pl} (ha:a∈Q) (hb:b∈Q) (pos:0 < tw a b p):(∀ q∈Q,0≤bU H a b p q)↔(mF Q ns p a b∧¬ mF Q ns p b a):=by
 have k:=jT s nd mem
 have iq:∀ {q},q∈Q→q∈R:=fun {q} hq=>(hR q).mpr (.inl hq)
 have ip:p∈R:=(hR p).mpr (.inr rfl)
 have ne:a≠b:=fun z=>by rw [z] at pos;unfold tw at pos;exact absurd pos (by grind)
 have Bc:∀ {t:List Pl} {x y z:Pl},bW t x y z→fE Q t→(rT Q t↔∀ q∈Q,0≤bU H x y z q):=fun {t x y z} r hT=>by
  have LU:fE R t:=⟨hT.1,fun q hq=>iq (hT.2 q hq)⟩
  constructor
  ·intro c q hq
   have:=c q hq
   rw [h.w4 LU r (iq hq)] at this
   omega
  ·intro c q hq
   rw [h.w4 LU r (iq hq)]
   have:=c q hq
   omega
 have ve:∀ {t:List Pl} {x y z:Pl},bW t x y z→fE Q t→(oS t p↔bU H x y z p < 0):=fun {t x y z} r hT=>h.w4 ⟨hT.1,fun q hq=>iq (hT.2 q hq)⟩ r ip
 have nz:∀ {x y z:Pl},x∈Q→y∈Q→z∈Q→0 < tw x y z→bU H x y z p≠0:=fun {x y z} hx hy hz t e=>by
  rcases h.gen x (iq hx) y (iq hy) z (iq hz) p ip t e with rfl | rfl | rfl
  ·exact np hx
  ·exact np hy
  ·exact np hz
 have mk:∀ {x y z:Pl},x∈Q→y∈Q→z∈Q→0 < tw x y z→(∀ q∈Q,0≤bU H x y z q)→∃ t∈ns,bW t x y z:=fun {x y z} hx hy hz t c=>by
  obtain ⟨u,i,r⟩:=qC t
  have hT:fE Q u:=r.Oh i hx hy hz
  exact ⟨u,(mem u).mpr ⟨hT,(Bc r hT).mpr c⟩,r⟩
 have right:∀ {e:Pl},e∈Q→0 < tw b a e→(∀ q∈Q,0≤bU H b a e q)→¬ mF Q ns p b a→∀ q∈Q,tw a b q < 0→0≤bU H a b p q:=fun {e} he pe ke nw q hq lt=>by
  obtain ⟨t,ht,r⟩:=mk hb ha he pe ke
  have n:¬ bU H b a e p < 0:=fun z=>nw (.inl ⟨t,ht,(ve r (k.bF t ht)).mpr z,r.Be⟩)
  have i:=nG H b a e p q
  have y1:=TF (ke q hq) (T3 pos)
  have y2:=TQ (show 0≤bU H b a e p by omega) (T3 lt)
  refine gj pe ?_
  rw [U4,i]
  omega
 constructor
 ·intro c
  refine ⟨?_,fun w=>?_⟩
  ·by_cases ex:∃ q∈Q,0 < tw a b q
   ·obtain ⟨q0,h0,p0⟩:=ex
    have mf:∀ q,q∈Q.filter (fun q=>decide (0 < tw a b q))↔q∈Q∧0 < tw a b q:=fun q=>by rw [Tu,decide_eq_true_eq]
    obtain ⟨e,he,hm⟩:=nH (f:=bU H a b q0) (g:=tw a b) (l:=Q.filter fun q=>decide (0 < tw a b q)) (UZ ((mf q0).mpr ⟨h0,p0⟩)) fun r hr=>((mf r).mp hr).2
    obtain ⟨he,pe⟩:=(mf e).mp he
    have ke:∀ r∈Q,0≤bU H a b e r:=fun r hr=>by
     rcases WL 0 (tw a b r) with y | y
     ·have i:=mC H a b q0 e r
      have:=hm r ((mf r).mpr ⟨hr,y⟩)
      refine gj p0 ?_
      rw [U4,i]
      omega
     ·have i:=mC H a b p e r
      have y1:=TF (c r hr) (T3 pe)
      have y2:=TQ (c e he) y
      refine gj pos ?_
      rw [U4,i]
      omega
    obtain ⟨t,ht,r⟩:=mk ha hb he pe ke
    refine .inl ⟨t,ht,(ve r (k.bF t ht)).mpr ?_,r.Be⟩
    have e1:=wZ H a b p e
    have:=c e he
    have:=nz ha hb he pe
    omega
   ·refine .inr ⟨⟨hb,ha,ne.symm,fun q hq=>⟨?_,fun z nb=>?_⟩⟩,by have:=bH a b p;omega⟩
    ·have:=bH a b q
     apply Tj
     intro z
     exact ex ⟨q,hq,by omega⟩
    ·have z':tw a b q=0:=by have:=bH a b q;omega
     have e1:lo b a=lo a b:=by
      unfold lo
      rcases bD a b with y | y | y
      ·rw [if_pos y,if_neg (ay y)]
      ·exact absurd y ne
      ·rw [if_neg (ay y),if_pos y]
     have e2:hi b a=hi a b:=by
      unfold hi
      rcases bD a b with y | y | y
      ·rw [if_pos y,if_neg (ay y)]
      ·exact absurd y ne
      ·rw [if_neg (ay y),if_pos y]
     rw [e1,e2] at nb
     have:=(h.ve a (iq ha) b (iq hb) p ip q (iq hq) pos).mp (oF pos z' nb)
     have:=c q hq
     omega
  ·rcases w with ⟨t,ht,sp,m⟩ | ⟨sd,lt⟩
   ·obtain ⟨e,r⟩:=gA (k.bF t ht) m
    obtain ⟨_,_,_,he⟩:=r.tw (k.bF t ht)
    have:=(ve r (k.bF t ht)).mp sp
    rw [Af] at this
    have:=c e he
    omega
   ·omega
 ·rintro ⟨w,nw⟩ q hq
  have zero:tw a b q=0→(∀ r∈Q,0≤tw b a r∧(tw b a r=0→¬ (aG (lo b a) r∧aG r (hi b a))))→0≤bU H a b p q:=fun z DV=>by
   have e1:lo b a=lo a b:=by
    unfold lo
    rcases bD a b with y | y | y
    ·rw [if_pos y,if_neg (ay y)]
    ·exact absurd y ne
    ·rw [if_neg (ay y),if_pos y]
   have e2:hi b a=hi a b:=by
    unfold hi
    rcases bD a b with y | y | y
    ·rw [if_pos y,if_neg (ay y)]
    ·exact absurd y ne
    ·rw [if_neg (ay y),if_pos y]
   have nb:=(DV q hq).2 (by have:=bH a b q;omega)
   rw [e1,e2] at nb
   have:=qE pos z nb
   rw [h.ve a (iq ha) b (iq hb) p ip q (iq hq) pos] at this
   omega
  rcases w with ⟨t,ht,sp,m⟩ | ⟨sd,lt⟩
  ·obtain ⟨c,r⟩:=gA (k.bF t ht) m
   obtain ⟨pc,_,_,hc⟩:=r.tw (k.bF t ht)
   have kc:=(Bc r (k.bF t ht)).mp ((mem t).mp ht).2
   have l0:=(ve r (k.bF t ht)).mp sp
   rcases WL (tw a b q) 0 with y | y
   ·have dn: [b,a]∈aK ns:=by
     apply Tj
     intro z
     have:=((k.t6.bare a b (aS.mpr ⟨t,ht,r.Be⟩) z).2.2.2 q hq).1
     omega
    obtain ⟨u,hu,m2⟩:=aS.mp dn
    obtain ⟨e,r2⟩:=gA (k.bF u hu) m2
    obtain ⟨pe,_,_,he⟩:=r2.tw (k.bF u hu)
    exact right he pe ((Bc r2 (k.bF u hu)).mp ((mem u).mp hu).2) nw q hq y
   ·have i:=mC H a b c p q
    have y1:=TF (kc q hq) (T3 pos)
    have y2:=TY (T3 l0) y
    refine gj pc ?_
    rw [U4,i]
    omega
  ·have tq:=(sd.2.2.2 q hq).1
   have fq:=bH a b q
   by_cases z:tw a b q=0
   ·exact zero z sd.2.2.2
   ·rcases k.t6.has b a sd with Ri | dn
    ·have:=(Ri.2.2.2 q hq).1
     omega
    ·obtain ⟨u,hu,m2⟩:=aS.mp dn
     obtain ⟨e,r2⟩:=gA (k.bF u hu) m2
     obtain ⟨pe,_,_,he⟩:=r2.tw (k.bF u hu)
     exact right he pe ((Bc r2 (k.bF u hu)).mp ((mem u).mp hu).2) nw q hq (by omega)
theorem mF.places (k:bJ Q ns) {a b:Pl} (w:mF Q ns p a b):a∈Q∧b∈Q:=by
 rcases w with ⟨t,ht,_,m⟩ | ⟨sd,_⟩
 ·obtain ⟨c,r⟩:=gA (k.bF t ht) m
  obtain ⟨_,ha,hb,_⟩:=r.tw (k.bF t ht)
  exact ⟨ha,hb⟩
 ·exact ⟨sd.2.1,sd.1⟩
theorem Fy (s:cu Q) (nd:ns.Nodup) (mem:∀ t,t∈ns↔fE Q t∧rT Q t) {R:List Pl} (hR:∀ q,q∈R↔q∈Q∨q=p) (np:p∉Q) (t:List Pl) :
 (fE R t∧rT R t)↔((t∈ns∧¬ oS t p)∨(dI t∧∃ a b,bW t a b p∧mF Q ns p a b∧¬ mF Q ns p b a∧0 < tw a b p)):=by
 obtain ⟨H,h⟩:=eG R
 have k:=jT s nd mem
 have ip:p∈R:=(hR p).mpr (.inr rfl)
 constructor
 ·rintro ⟨hT,hC⟩
  by_cases m:p∈t
  ·obtain ⟨e,f,r⟩:=bW.Dr hT m
   have r':bW t e f p:=r.next
   obtain ⟨pos,he,hf,_⟩:=r'.tw hT
   have ne:e≠p:=fun z=>by rw [z] at pos;unfold tw at pos;exact absurd pos (by grind)
   have nf:f≠p:=fun z=>by rw [z] at pos;unfold tw at pos;exact absurd pos (by grind)
   have he:e∈Q:=((hR e).mp he).resolve_right ne
   have hf:f∈Q:=((hR f).mp hf).resolve_right nf
   have c:=(h.Bc hT r').mp hC
   obtain ⟨w1,w2⟩:=(xh s nd mem hR h np he hf pos).mp fun q hq=>c q ((hR q).mpr (.inl hq))
   exact .inr ⟨hT.1,e,f,r',w1,w2,pos⟩
  ·have LU:fE Q t:=⟨hT.1,fun q hq=>((hR q).mp (hT.2 q hq)).resolve_right fun z=>m (z▸hq)⟩
   exact .inl ⟨(mem t).mpr ⟨LU,fun d hd=>hC d ((hR d).mpr (.inl hd))⟩,hC p ip⟩
 ·rintro (⟨m,n⟩ | ⟨i,a,b,r,w1,w2,pos⟩)
  ·obtain ⟨hT,hC⟩:=(mem t).mp m
   refine ⟨⟨hT.1,fun q hq=>(hR q).mpr (.inl (hT.2 q hq))⟩,fun d hd=>?_⟩
   rcases (hR d).mp hd with z | z
   ·exact hC d z
   ·rw [z];exact n
  ·obtain ⟨ha,hb⟩:=w1.places k
   have hT:fE R t:=r.Oh i ((hR a).mpr (.inl ha)) ((hR b).mpr (.inl hb)) ip
   refine ⟨hT,(h.Bc hT r).mpr fun d hd=>?_⟩
   rcases (hR d).mp hd with z | z
   ·exact (xh s nd mem hR h np ha hb pos).mpr ⟨w1,w2⟩ d z
   ·rw [z,Dm];exact UG _
def iR (p:Pl) (w:List Pl):Bool:=match w with
 | [a,b]=>decide (tw a b p < 0)
 | _=>false
def lE (w:List Pl):List Pl:=w.reverse
def rG (p:Pl) (t:List Pl):Bool:=match t with
 | [a,b,c]=>decide (fM a b c p)
 | _=>false
theorem vh {t:List Pl}:rG p t=true↔oS t p:=by
 unfold rG oS
 split
 ·exact decide_eq_true_iff
 ·simp
theorem Dy (s:cu Q) (a b:Pl): [a,b]∈aK (ns.filter (rG p)) ++ ((aV (br Q)).filter (iR p)).map lE↔mF Q ns p a b:=by
 have sl:∀ a b,[a,b]∈aV (br Q)↔aR Q a b:=fun a b=>bG s
 rw [TU]
 unfold mF
 constructor
 ·rintro (m | m)
  ·obtain ⟨t,ht,m⟩:=aS.mp m
   obtain ⟨ht,sp⟩:=Tu.mp ht
   exact .inl ⟨t,ht,vh.mp sp,m⟩
  ·obtain ⟨w,hw,ew⟩:=TV.mp m
   obtain ⟨hw,sb⟩:=Tu.mp hw
   have e2:w= [b,a]:=by
    have:=congrArg List.reverse ew
    unfold lE at this
    rw [VO] at this
    simpa using this
   subst e2
   exact .inr ⟨(sl b a).mp hw,of_decide_eq_true sb⟩
 ·rintro (⟨t,ht,sp,m⟩ | ⟨sd,lt⟩)
  ·exact .inl (aS.mpr ⟨t,Tu.mpr ⟨ht,vh.mpr sp⟩,m⟩)
  ·exact .inr (TV.mpr ⟨[b,a],Tu.mpr ⟨(sl b a).mpr sd,decide_eq_true lt⟩,rfl⟩)
end
end L3
namespace L3
section
variable {Q:List Pl} {ts us ws:List (List Pl)}
theorem rV {p q r:List Pl} (h1:bZ q p=false) (h2:bZ r q=false):bZ r p=false:=by
 cases e:bZ r p with
 | false=>rfl
 | true=>
   rcases jL p q with a | a | a
   ·have:=gg _ _ _ e a
    rw [h2] at this
    cases this
   ·subst a
    rw [h2] at e
    cases e
   ·rw [h1] at a
    cases a
def yL (x:List Pl):List (List Pl)→List (List Pl)
 | []=>[x]
 | y :: r=>if bZ y x=true then y :: yL x r else x :: y :: r
theorem nK (x:List Pl):∀ l,(yL x l).Perm (x :: l)
 | []=> .refl _
 | y :: r=>by
   unfold yL
   split
   ·exact (List.Perm.cons y (nK x r)).trans (.swap _ _ _)
   ·exact .refl _
theorem oG (x:List Pl):∀ {l:List (List Pl)},l.Pairwise (fun p q=>bZ q p=false)→(yL x l).Pairwise (fun p q=>bZ q p=false)
 | [],_=>by simp [yL]
 | y :: r,s=>by
   obtain ⟨s1,s2⟩:=TZ.mp s
   unfold yL
   split
   ·rename_i h
    refine TZ.mpr ⟨fun z hz=>?_,oG x s2⟩
    rcases Tp.mp ((nK x r).mem_iff.mp hz) with rfl | hz
    ·cases e:bZ z y with
     | false=>rfl
     | true=>
       have:=gg _ _ _ h e
       rw [jK] at this
       cases this
    ·exact s1 z hz
   ·rename_i h
    have h:bZ y x=false:=by simpa using h
    refine TZ.mpr ⟨fun z hz=>?_,s⟩
    rcases Tp.mp hz with rfl | hz
    ·exact h
    ·exact rV h (s1 z hz)
theorem t8:∀ l:List (List Pl),∃ m:List (List Pl),m.Perm l∧m.Pairwise (fun p q=>bZ q p=false)
 | []=>⟨[],.refl _,.nil⟩
 | x :: r=>by
   obtain ⟨m,hp,hs⟩:=t8 r
   exact ⟨yL x m,(nK x m).trans (.cons x hp),oG x hs⟩
theorem Run.Dz {ss:List (List Pl ×List Pl)} (r:Run us ss ws):∀ (_:bJ Q us) (_:¬ Flat Q),ws.length=us.length:=by
 induction r with
 | nil us=>intro _ _;rfl
 | cons a _ ih=>
   intro k nf
   obtain ⟨a',b',c',d',rfl,hb,rfl,sp,f,_⟩:=a
   rw [ih (f.Fw k nf) nf,f.len k]
theorem Ag (s:cu Q) {ns:List (List Pl)} (nd:ns.Nodup) (mem:∀ t,t∈ns↔fE Q t∧rT Q t):ns.length≤2*Q.length:=by
 by_cases fl:Flat Q
 ·cases e:ns with
  | nil=>simp
  | cons t0 tr=>
    obtain ⟨u,v,w,et,pos,jo,hv',Ds,_⟩:=((mem t0).mp (by rw [e];simp)).1.parts
    have:=fl u jo v hv' w Ds
    omega
 ·have h2:2≤Q.length:=by
   apply Tj
   intro z
   exact fl (gn (by omega))
  have c:=Ba s h2
  have kc:bJ Q (oU Q Q.length):=⟨s,by have:=zS s Q.length (Tz _);rw [Uk] at this;exact this,fun t ht=>zT s Q.length (Tz _) t ht⟩
  have fu:Full Q (oU Q Q.length):=fun q hq=>qv s Q.length (Tz _) (by rw [Uk];exact fl) q (by rw [Uk];exact hq)
  obtain ⟨H,h⟩:=eG Q
  obtain ⟨ss,ws,run,k2,Ol,no⟩:=Bh fl t8 _ h (Tz _) kc fu
  have cl:=k2.calm fl Ol (Fx k2 no)
  have sub:∀ t∈ws,t∈ns:=fun t ht=>(mem t).mpr ⟨k2.bF t ht,cl t ht⟩
  have kn:=jT s nd mem
  have e:=(fW nd k2.nodup fun t=>⟨k2.all fl kn sub t,sub t⟩).length_eq
  have e2:=run.Dz kc fl
  omega
end
end L3
namespace L3
section
variable {Q:List Pl} {ns:List (List Pl)} {p:Pl}
def DA (p:Pl) (w:List Pl):Bool:=match w with
 | [a,b]=>decide (0 < tw a b p)
 | _=>false
def Lm (p:Pl) (w:List Pl):List Pl:=match w with
 | [a,b]=>rF a b p
 | _=>[]
def putL (Q:List Pl) (ns:List (List Pl)) (p:Pl):List (List Pl):=aK (ns.filter (rG p)) ++ ((aV (br Q)).filter (iR p)).map lE
def rW (W:List (List Pl)):List (List Pl):=W.filter (fun w=>decide (lE w∉W))
theorem nL {f:List Pl→Bool}:∀ {ts:List (List Pl)},(aK ts).Nodup→(aK (ts.filter f)).Nodup
 | [],_=> .nil
 | t :: r,h=>by
   have e:∀ (t:List Pl) r,aK (t :: r)=dh t ++ aK r:=fun t r=>by unfold aK;rw [UH]
   rw [e,Ub] at h
   obtain ⟨h1,h2,h3⟩:=h
   rw [UW]
   split
   ·rw [e,Ub]
    refine ⟨h1,nL h2,fun x hx y hy=>h3 x hx y ?_⟩
    obtain ⟨u,hu,m⟩:=aS.mp hy
    exact aS.mpr ⟨u,(Tu.mp hu).1,m⟩
   ·exact nL h2
theorem yM (k:bJ Q ns):(putL Q ns p).Nodup:=by
 unfold putL
 rw [Ub]
 refine ⟨nL k.t6.nd,?_,fun x hx y hy e=>?_⟩
 ·have:=((iQ k.tZ).filter (iR p))
  unfold SL at this
  refine V1.mpr (this.imp fun {a b} h z=>h ?_)
  have:=congrArg List.reverse z
  unfold lE at this
  rwa [VO,VO] at this
 ·subst e
  obtain ⟨v,hv,rfl⟩:=TV.mp hy
  obtain ⟨hv,_⟩:=Tu.mp hv
  obtain ⟨a,b,rfl⟩:=gu (show v∈SL Q from hv)
  obtain ⟨t,ht,m⟩:=aS.mp hx
  exact k.t6.nu a b ((bG k.tZ).mp hv) (aS.mpr ⟨t,(Tu.mp ht).1,m⟩)
theorem jU (s:cu Q) {w:List Pl} (k:bJ Q ns):w∈(rW (putL Q ns p)).filter (DA p)↔∃ a b,w= [a,b]∧mF Q ns p a b∧¬ mF Q ns p b a∧0 < tw a b p:=by
 have pl:∀ a b,[a,b]∈putL Q ns p↔mF Q ns p a b:=fun a b=>Dy s a b
 unfold rW
 rw [Tu,Tu,decide_eq_true_iff]
 constructor
 ·rintro ⟨⟨m,n⟩,l⟩
  obtain ⟨a,b,rfl⟩:∃ a b,w= [a,b]:=by
   unfold putL at m
   rcases TU.mp m with m | m
   ·obtain ⟨t,ht,m⟩:=aS.mp m
    obtain ⟨a,b,e,_⟩:=k.t6.pB w (aS.mpr ⟨t,(Tu.mp ht).1,m⟩)
    exact ⟨a,b,e⟩
   ·obtain ⟨v,hv,rfl⟩:=TV.mp m
    obtain ⟨a,b,rfl⟩:=gu (show v∈SL Q from (Tu.mp hv).1)
    exact ⟨b,a,rfl⟩
  exact ⟨a,b,rfl,(pl a b).mp m,fun z=>n ((pl b a).mpr z),of_decide_eq_true l⟩
 ·rintro ⟨a,b,rfl,w1,w2,pos⟩
  exact ⟨⟨(pl a b).mpr w1,fun z=>w2 ((pl b a).mp z)⟩,decide_eq_true pos⟩
theorem bW.DB {t:List Pl} {a b a' b':Pl} (r:bW t a b p) (r':bW t a' b' p) (na:a'≠p) (nb:b'≠p):a'=a∧b'=b:=by
 have:=r.dir.mem_iff.mp r'.Be
 simp only [Tp,Ur,or_false] at this
 rcases this with e | e | e
 ·exact aM e
 ·exact absurd (aM e).2 nb
 ·exact absurd (aM e).1 na
theorem bW.perm {t:List Pl} {a b c:Pl} (r:bW t a b c):t.Perm [a,b,c]:=by
 rcases r with rfl | rfl | rfl
 ·exact .refl _
 ·exact Uc (l₁:=[b,c]) (l₂:=[a])
 ·exact Uc (l₁:=[c]) (l₂:=[a,b])
theorem xj (s:cu Q) (k:bJ Q ns) (t:List Pl):t∈((rW (putL Q ns p)).filter (DA p)).map (Lm p)↔(dI t∧∃ a b,bW t a b p∧mF Q ns p a b∧¬ mF Q ns p b a∧0 < tw a b p):=by
 rw [TV]
 constructor
 ·rintro ⟨w,hw,rfl⟩
  obtain ⟨a,b,rfl,w1,w2,pos⟩:=(jU s k).mp hw
  obtain ⟨r,i⟩:=i8 pos (.refl _)
  exact ⟨i,a,b,r,w1,w2,pos⟩
 ·rintro ⟨i,a,b,r,w1,w2,pos⟩
  exact ⟨[a,b],(jU s k).mpr ⟨a,b,rfl,w1,w2,pos⟩,(l5 i r.perm).2.symm⟩
theorem xm {a b:Pl} (pos:0 < tw a b p):a≠p∧b≠p:=⟨fun z=>by rw [z] at pos;unfold tw at pos;exact absurd pos (by grind),fun z=>by rw [z] at pos;unfold tw at pos;exact absurd pos (by grind)⟩
theorem yN (s:cu Q) (k:bJ Q ns):(((rW (putL Q ns p)).filter (DA p)).map (Lm p)).Nodup:=by
 have nd:((rW (putL Q ns p)).filter (DA p)).Nodup:=((yM k).filter _).filter _
 refine V1.mpr (List.Pairwise.imp_of_mem (fun {v w} hv hw h z=>h ?_) nd)
 obtain ⟨a,b,rfl,_,_,p1⟩:=(jU s k).mp hv
 obtain ⟨a',b',rfl,_,_,p2⟩:=(jU s k).mp hw
 obtain ⟨r,_⟩:=i8 p1 (.refl _)
 obtain ⟨r',_⟩:=i8 p2 (.refl _)
 have z:rF a b p=rF a' b' p:=z
 rw [z] at r
 obtain ⟨e1,e2⟩:=r'.DB r (xm p1).1 (xm p1).2
 rw [e1,e2]
theorem DC (s:cu Q) (k:bJ Q ns) (np:p∉Q) {t:List Pl} (h:t∈((rW (putL Q ns p)).filter (DA p)).map (Lm p)):t∉ns:=fun m=>by
 obtain ⟨_,a,b,r,_⟩:=(xj s k t).mp h
 exact np ((k.bF t m).2 p ((r.mem p).mpr (.inr (.inr rfl))))
theorem nM (ps:List Pl) (nd:ps.Nodup):∃ qs:List Pl,qs.Perm ps∧qs.Pairwise (fun p q=>aG p q):=by
 have tot:∀ a b:Pl,(!decide (aG b a) || !decide (aG a b))=true:=fun a b=>by
  by_cases h:aG b a
  ·simp [h,ay h]
  ·simp [h]
 have Rj:∀ a b c:Pl,(!decide (aG b a))=true→(!decide (aG c b))=true→(!decide (aG c a))=true:=fun a b c h1 h2=>by
  simp only [VE,decide_eq_false_iff_not] at *
  intro h3
  rcases bD b c with k | k | k
  ·exact h1 (bx k h3)
  ·subst k;exact h1 h3
  ·exact h2 k
 refine ⟨ps.mergeSort (fun a b=>!decide (aG b a)),WG _ _,?_⟩
 refine A2 ((List.pairwise_mergeSort Rj tot ps).imp fun h=>?_) ((WG ps _).nodup_iff.mpr nd)
 simpa using h
theorem DE {ps:List Pl} (nd:ps.Nodup) (ok:∀ q∈ps,q.Ok 140) {ns:List (List Pl)} (Jf:ns.Nodup) (mem:∀ t,t∈ns↔fE ps t∧rT ps t):ns.length≤2*ps.length:=by
 obtain ⟨qs,hq,hs⟩:=nM ps nd
 rw [← hq.length_eq]
 refine Ag ⟨hs,fun q m=>(ok q (hq.mem_iff.mp m)).2⟩ Jf fun t=>(mem t).trans ?_
 exact and_congr ⟨fun c=>⟨c.1,fun q m=>hq.mem_iff.mpr (c.2 q m)⟩,fun c=>⟨c.1,fun q m=>hq.mem_iff.mp (c.2 q m)⟩⟩ ⟨fun c d hd=>c d (hq.mem_iff.mp hd),fun c d hd=>c d (hq.mem_iff.mpr hd)⟩
end
end L3
namespace L3
open PySem PySem.Spec PyProof.Rows L2
def vS (ws:List (List Pl)):List (List (List Int) ×D):=ws.map fun w=>(jR w,.bl true)
theorem qH:∀ {v w:List Pl},jR v=jR w→v=w
 | [],[],_=>rfl
 | [],_ :: _,h=>by unfold jR at h;simp at h
 | _ :: _,[],h=>by unfold jR at h;simp at h
 | a :: v,b :: w,h=>by
   unfold jR at h
   rw [Ud,Ud] at h
   obtain ⟨h1,h2⟩:=List.cons.inj h
   have e:a=b:=by
    cases a;cases b
    simp only [List.cons.injEq,and_true] at h1
    rw [h1.1,h1.2]
   rw [e,qH (v:=v) (w:=w) h2]
theorem kr (w:List Pl):∀ ws:List (List Pl),(oE (vS ws) (jR w)).isSome=decide (w∈ws)
 | []=>by simp [oE,vS]
 | v :: ws=>by
   have ih:=kr w ws
   unfold oE vS at ih ⊢
   rw [Ud,Wq]
   by_cases c:v=w
   ·subst c
    rw [decide_eq_true rfl]
    simp
   ·rw [decide_eq_false (fun z=>c (qH z))]
    dsimp only
    rw [ih]
    apply decide_eq_decide.mpr
    rw [Tp]
    exact ⟨fun z=> .inr z,fun z=>z.resolve_left fun y=>c y.symm⟩
theorem vm {w:List Pl} {ws:List (List Pl)} (h:w∉ws):tX (vS ws) (jR w) (.bl true)=vS (ws ++ [w]):=by
 unfold tX
 rw [kr,decide_eq_false h]
 unfold vS
 rw [T5]
 rfl
theorem DF (ws:List (List Pl)):(vS ws).map (fun p=>kD p.1)=ws.map tD:=by
 unfold vS
 rw [We]
 apply List.map_congr_left
 intro w _
 exact gK w
theorem vn (ws:List (List Pl)):(vS ws).length=ws.length:=by unfold vS;rw [To]
theorem Ln (b c:Pl):∃ m:Pl,[b,c].getD (argBest (bestOf (fun p q=>decide (aG p q)) [b,c]) ([b,c].length - 1)) ⟨0,0⟩=m∧(m=b∨m=c):=by
 rw [show argBest (bestOf (fun p q=>decide (aG p q)) [b,c]) ([b,c].length - 1)=argBest (bestOf (fun p q=>decide (aG p q)) [b,c]) 1 from rfl]
 unfold argBest argBest bestOf
 by_cases h1:aG c b
 ·exact ⟨c,by simp [h1],.inr rfl⟩
 ·exact ⟨b,by simp [h1],.inl rfl⟩
theorem IF {ps:List Pl} {q:Pl} (m:q∈ps):∃ a b:Pl,a∈ps∧b∈ps∧rC (ps.map Pl.d) 0=some a.d∧rC (ps.map Pl.d) (-1)=some b.d:=by
 have h:ps≠[]:=UZ m
 obtain ⟨a,r,rfl⟩:=List.exists_cons_of_ne_nil h
 refine ⟨a,(a :: r).getLast h,by simp,List.getLast_mem h,o5 (j:=0) rfl,?_⟩
 have e:(a :: r)=(a :: r).dropLast ++ [(a :: r).getLast h]:=(VR h).symm
 have:(a :: r).map Pl.d=((a :: r).dropLast.map Pl.d) ++ [((a :: r).getLast h).d]:=by
  have:=congrArg (List.map Pl.d) e
  rw [T5] at this
  exact this
 rw [this]
 exact v7 _ _
theorem yP {ts:List (List Pl)} (h:(aK ts).Nodup) (i:Nat):(aK (ts.take i)).Nodup:=by
 rw [← Wu i ts] at h
 unfold aK at h ⊢
 rw [VS] at h
 exact (Ub.mp h).1
theorem DG {Q:List Pl} (s:cu Q) (k:bJ Q []):Flat Q:=by
 by_cases h2:Q.length < 2
 ·exact gn (by omega)
 ·obtain ⟨l,e,sl⟩:=tR s (by omega)
  obtain ⟨w,hw⟩:∃ w,w∈SL Q:=by
   apply V2
   intro z
   rw [z] at e
   have:=congrArg List.length e
   rw [Vt,TL,UL,Uy,U9] at this
   omega
  obtain ⟨a,b,rfl⟩:=gu hw
  have sd:=(sl a b).mp hw
  rcases k.t6.has a b sd with h | h
  ·exact ny sd h
  ·unfold aK at h
   cases h
end L3
namespace HD
open PySem PySem.W L2
theorem Lo:dA=j7:=funext fun s=>by cases s <;> rfl
theorem Lp:dB=fK:=funext fun s=>by cases s <;> rfl
theorem Lq:dS=aq:=funext fun s=>by cases s <;> rfl
def xK (h:Heap):List Addr→Frag
 | []=>[]
 | a :: r=>match h.get? a with
   | some o=>(a,o) :: xK h r
   | none=>xK h r
theorem yQ (h:Heap):∀ as:List Addr,(xK h as).In h
 | [],_,_,e=>nomatch e
 | b :: r,a,o,e=>by
   unfold xK at e
   cases q:h.get? b with
   | none=>rw [q] at e;exact yQ h r a o e
   | some x=>
     rw [q] at e
     replace e:List.lookup a ((b,x) :: xK h r)=some o:=e
     rw [Uq] at e
     cases z:a == b with
     | true=>
       rw [z] at e
       obtain rfl:a=b:=eq_of_beq z
       cases e;exact q
     | false=>rw [z] at e;exact yQ h r a o e
theorem qI {h:Heap} {a:Addr} {o:Obj} (e:h.get? a=some o):∀ {as:List Addr},a∈as→(xK h as).lookup a=some o
 | b :: r,m=>by
   unfold xK
   by_cases z:a=b
   ·subst z
    rw [e]
    show List.lookup a ((a,o) :: xK h r)=some o
    rw [Uq,beq_self_eq_true]
   ·have m':a∈r:=by
     rcases Tp.mp m with y | y
     ·exact absurd y z
     ·exact y
    cases q:h.get? b with
    | none=>exact qI e m'
    | some x=>
      show List.lookup a ((b,x) :: xK h r)=some o
      rw [Uq,beq_eq_false_iff_ne.mpr z]
      exact qI e m'
theorem FA {K:Frag} {o:Obj} (e:K.lookup mainGlobals=some o) (n:Str):nsIn K mainGlobals n=nsIn [(mainGlobals,o)] mainGlobals n:=by
 unfold nsIn
 rw [e]
 rfl
def adr (h:Heap) (n:Str):List Addr:=match fnAt h n with
 | some (f,fd)=>f :: (match fd.code with | .ref c=>[c] | _=>[])
 | none=>[]
def Om (h:Heap) (fs:List (Str ×Stmt)):List Addr:=mainGlobals :: fs.flatMap fun p=>adr h p.1
def Pk (K:Frag) (p:Str ×Stmt):Prop:= ∃ f fd,nsIn K mainGlobals p.1=some (some (.ref f))∧kE K p.1 p.1 p.2 f fd
def E3 (K:Frag):List (Str ×Stmt)→Prop
 | []=>True
 | p :: r=>Pk K p∧E3 K r
def AllB (K:Frag):List Str→Prop
 | []=>True
 | b :: r=>nsIn K mainGlobals b=some none∧AllB K r
def YP (fs:List (Str ×Stmt)) (bs:List Str) (h:Heap):Prop:= ∃ K:Frag,K.In h∧E3 K fs∧AllB K bs
theorem keeps {fs:List (Str ×Stmt)} {bs:List Str} {h h':Heap} (y:YP fs bs h) (k:∀ b o,h.get? b=some o→h'.get? b=some o):YP fs bs h':=
 let ⟨K,i,a,b⟩:=y
 ⟨K,i.keeps k,a,b⟩
theorem DH {h:Heap} {as:List Addr} {n:Str} {r:Option Value} (m:mainGlobals∈as) (e:IW h n=some r):nsIn (xK h as) mainGlobals n=some r:=by
 unfold IW at e
 cases q:h.get? mainGlobals with
 | none=>rw [q] at e;cases e
 | some o=>rw [q] at e;rw [FA (qI q m)];exact e
theorem FD {h:Heap} {n:Str} {f:Addr} {fd:FuncData} (e:fnAt h n=some (f,fd)):IW h n=some (some (.ref f))∧∃ oc od sl,h.get? f=some ⟨oc,od,.func fd,sl⟩:=by
 unfold fnAt at e
 split at e
 ·rename_i g hg
  split at e
  ·rename_i oc od fd' sl hq
   cases e
   exact ⟨hg,oc,od,sl,hq⟩
  ·cases e
 ·cases e
theorem xo {h:Heap} {v:Value} {q:Str} {as:List Addr} (e:jr h v=some q) (m:∀ c,v= .ref c→c∈as):codeIn (xK h as) v q=true:=by
 unfold jr at e
 split at e
 ·rename_i c
  split at e
  ·rename_i oc od vs sl hc
   split at e
   ·rename_i a q' tk r hv
    cases e
    unfold codeIn
    dsimp only
    rw [qI hc (m c rfl)]
    dsimp only
    rw [hv]
    dsimp only
    exact beq_self_eq_true _
   ·cases e
  ·cases e
 ·cases e
theorem IG {h:Heap} {p:Str ×Stmt} {as:List Addr} (m0:mainGlobals∈as) (m:∀ a∈adr h p.1,a∈as)
 (e:(fnAt h p.1).map (fun x=>(blank x.2,jr h x.2.code))=some (fnOf p.1 p.1 (j7 p.2) (fK p.2) (aq p.2) .none .none .none .none none .none .none,some p.1)):Pk (xK h as) p:=by
 obtain ⟨⟨f,fd⟩,hf,hq⟩:=Vi.mp e
 obtain ⟨h1,oc,od,sl,h2⟩:=FD hf
 obtain ⟨e1,e2⟩:=Prod.mk.inj hq
 have hadr:adr h p.1=f :: (match fd.code with | .ref c=>[c] | _=>[]):=by unfold adr;rw [hf]
 have Oo:f∈as:=m f (by rw [hadr];exact .head _)
 have lk:=qI h2 Oo
 have hc:codeIn (xK h as) fd.code p.1=true:=xo e2 fun c hc=>m c (by rw [hadr,hc];exact .tail _ (.head _))
 have hfd:fd=fnOf p.1 p.1 (j7 p.2) (fK p.2) (aq p.2) .none fd.kwdefaults fd.doc fd.pyModule fd.annotations fd.code fd.closureTuple:=by
  cases fd
  unfold blank at e1
  simp only [FuncData.mk.injEq] at e1
  obtain ⟨a1,a2,a3,a4,a5,a6,a7,a8,a9⟩:=e1
  simp only [FuncData.mk.injEq]
  exact ⟨a1,a2,a3,a4,a5,a6,a7,a8,trivial,trivial,trivial,trivial,trivial,trivial,by simpa using a9⟩
 refine ⟨f,fd,DH m0 h1,⟨oc,od,fd.kwdefaults,fd.doc,fd.pyModule,fd.annotations,fd.code,fd.closureTuple,sl,hfd,lk,hc⟩,?_⟩
 unfold keepIn
 dsimp only
 rw [lk]
theorem Ah {h:Heap} {as:List Addr} (m0:mainGlobals∈as):∀ {fs:List (Str ×Stmt)},(∀ a∈fs.flatMap (fun p=>adr h p.1),a∈as)→
 fs.map (fun p=>(fnAt h p.1).map fun x=>(blank x.2,jr h x.2.code))=fs.map (fun p=>some (fnOf p.1 p.1 (j7 p.2) (fK p.2) (aq p.2) .none .none .none .none none .none .none,some p.1))→E3 (xK h as) fs
 | [],_,_=>trivial
 | p :: r,m,e=>by
   rw [Ud,Ud] at e
   obtain ⟨e1,e2⟩:=List.cons.inj e
   rw [UH] at m
   exact ⟨IG m0 (fun a ha=>m a (TU.mpr (.inl ha))) e1,Ah m0 (fun a ha=>m a (TU.mpr (.inr ha))) e2⟩
theorem allB_of {h:Heap} {as:List Addr} (m0:mainGlobals∈as):∀ {bs:List Str},bs.map (fun b=>IW h b)=bs.map (fun _=>some none)→AllB (xK h as) bs
 | [],_=>trivial
 | b :: r,e=>by
   rw [Ud,Ud] at e
   obtain ⟨e1,e2⟩:=List.cons.inj e
   exact ⟨DH m0 e1,allB_of m0 e2⟩
theorem II {fs:List (Str ×Stmt)} {bs:List Str} {s:Shared} (e:DZ fs bs s=good fs bs):YP fs bs s.heap:=
 let ⟨e1,e2⟩:=Prod.mk.inj (by rw [good,Lo,Lp,Lq] at e;exact e)
 ⟨xK s.heap (Om s.heap fs),yQ _ _,Ah (.head _) (fun _ ha=> .tail _ ha) e1,allB_of (.head _) e2⟩
theorem DI {l:OpenLaw} {n k:Nat} {q:Program} {loose:List Str} {XP:(Str→Option Value)→Heap→Prop} {YP:World→Heap→Prop} {d:DefRec} {CX:BF} {sp:Frag→Sp} {x:Str}
 (hn:l.most=some n) (hn2:n≤sizeLine) (hdf:d.params.defaults= []) (hr:gR k callerA)
 (F:∀ (w:World) (mg:Str→Option Value) (fa:Addr) (h:Heap),YP w h→h.Ns mainGlobals mg→mg d.name=some (.ref fa)→
  ∃ (K:Frag) (fd:FuncData),K.In h∧(∀ (s:Shared) (u:Value),BindsTo s fd ⟨[u],[]⟩ [(x,u)])∧
    ∀ base:Heap,K.In base→base.Ns mainGlobals mg→cE l.prog w K mg base CX k fa fd [x] (sp K))
 (FU:∀ (K:Frag) (H:Hp) (a:Addr) (ns:List Int),ns.length≤n→(∀ z∈ns,Att.NK z)→Er H→iE K H a (ns.map V.int)→sp K [.ref a] H (fun v _=>v= .bl true) fun _ _ _=>False)
 (MP:∀ (H:Hp) (s:Shared) (e:Value) (s':Shared),CX [] H s (fun _ _ _=>False) e s'→False) :
 WalkO q loose XP YP l.row.toRowW d [] (fun f vs=>PySem.call f vs):=by
 refine Att.uM hn hdf fun w s₀ s₁ mg mb fa o pm cd doc a vs ns G Y ho hd hcd hmg hobj hints hlen hbig hg=>?_
 obtain ⟨K,fd,KX,hb,hF⟩:=F w mg fa _ Y G.T.g hmg
 exact BN (CX:=CX) (sp:=sp K) KX G.T.g G.T.b G.T.builtins G.T.nolimit hg hobj hints (UI hlen hn2) hr hF hb (fun H hO hS=>FU K H a ns hlen hbig hO hS) fun H e s'=>MP H s₁ e s'
end HD
namespace Pf
open PySem L2 L3
set_option genInjectivity false in
set_option genSizeOf false in
structure Ad where
 i9:Addr
 gW:FuncData
 jV:Addr
 ja:FuncData
 gX:Addr
 gB:FuncData
 vo:Addr
 qJ:FuncData
 jW:Addr
 jb:FuncData
 yR:Addr
 vp:FuncData
 vq:Addr
 qK:FuncData
 yS:Addr
 vt:FuncData
 yT:Addr
 vv:FuncData
 qL:Addr
 nN:FuncData
 yU:Addr
 vz:FuncData
 qM:Addr
 nO:FuncData
 eK:Addr
 dW:FuncData
 gC:Addr
 fF:FuncData
 nP:Addr
 lF:FuncData
 fG:Addr
 eL:FuncData
 jc:Addr
 gY:FuncData
 gZ:Addr
 gD:FuncData
 qN:Addr
 nQ:FuncData
 jd:Addr
 g9:FuncData
 eO:Addr
 dX:FuncData
 je:Addr
 ia:FuncData
 ic:Addr
 gE:FuncData
 ie:Addr
 gF:FuncData
 ig:Addr
 gG:FuncData
 DJ:Addr
 yV:FuncData
structure Txt (K:PySem.W.Frag) (mg:Str→Option Value) (t:Ad):Prop where
 bT:kE K "_law_given" "_law_given" iU t.i9 t.gW
 cU:mg "_law_given" =some (.ref t.i9)
 jX:kE K "_law_spot" "_law_spot" jt t.jV t.ja
 xr:mg "_law_spot" =some (.ref t.jV)
 iw:kE K "_law_ground" "_law_ground" gM t.gX t.gB
 rX:mg "_law_ground" =some (.ref t.gX)
 jf:kE K "twice" "twice" ug t.vo t.qJ
 mG:mg "twice" =some (.ref t.vo)
 jY:kE K "ring_area" "ring_area" ju t.jW t.jb
 xu:mg "ring_area" =some (.ref t.jW)
 qO:kE K "sign" "sign" xN t.yR t.vp
 yW:mg "sign" =some (.ref t.yR)
 mH:kE K "apart" "apart" uh t.vq t.qK
 vA:mg "apart" =some (.ref t.vq)
 yX:kE K "ring" "ring" xP t.yS t.vt
 IJ:mg "ring" =some (.ref t.yS)
 jZ:kE K "turn" "turn" xQ t.yT t.vv
 nR:mg "turn" =some (.ref t.yT)
 qP:kE K "spoils" "spoils" pH t.qL t.nN
 DL:mg "spoils" =some (.ref t.qL)
 vB:kE K "back" "back" xR t.yU t.vz
 DM:mg "back" =some (.ref t.yU)
 mJ:kE K "rounds" "rounds" pI t.qM t.nO
 xw:mg "rounds" =some (.ref t.qM)
 eS:kE K "directed_sides" "directed_sides" bX t.eK t.dW
 nS:mg "directed_sides" =some (.ref t.eK)
 dY:kE K "without_bays" "without_bays" fX t.gC t.fF
 j0:mg "without_bays" =some (.ref t.gC)
 nT:kE K "outline" "outline" mU t.nP t.lF
 Bj:mg "outline" =some (.ref t.nP)
 fH:kE K "outline_sides" "outline_sides" fy t.fG t.eL
 oV:mg "outline_sides" =some (.ref t.fG)
 jg:kE K "seen_sides" "seen_sides" dN t.jc t.gY
 vC:mg "seen_sides" =some (.ref t.jc)
 iy:kE K "triangle_of" "triangle_of" gO t.gZ t.gD
 rY:mg "triangle_of" =some (.ref t.gZ)
 mK:kE K "put_in" "put_in" fY t.qN t.nQ
 xx:mg "put_in" =some (.ref t.qN)
 fR:kE K "by_putting" "by_putting" iV t.jd t.g9
 mL:mg "by_putting" =some (.ref t.jd)
 eU:kE K "_law_triangles" "_law_triangles" eE t.eO t.dX
 nU:mg "_law_triangles" =some (.ref t.eO)
 cj:kE K "_law_twice" "_law_twice" iW t.je t.ia
 dZ:mg "_law_twice" =some (.ref t.je)
 iz:kE K "_law_within" "_law_within" gP t.ic t.gE
 rZ:mg "_law_within" =some (.ref t.ic)
 iA:kE K "_law_spoils" "_law_spoils" gQ t.ie t.gF
 sj:mg "_law_spoils" =some (.ref t.ie)
 iB:kE K "_law_is_net" "_law_is_net" cz t.ig t.gG
 sr:mg "_law_is_net" =some (.ref t.ig)
 GB:kE K "law" "law" sI t.DJ t.yV
 Pn:mg "law" =some (.ref t.DJ)
 iC:mg "len" =none
 qQ:mg "range" =none
 dJ:mg "sorted" =none
 ku:mg "list" =none
 oH:mg "reversed" =none
 IK:mg "zip" =none
 cB:mg "isinstance" =none
 qR:mg "tuple" =none
 Ai:mg "bool" =none
 IL:mg "min" =none
 IM:mg "max" =none
theorem kQ:aO ["_law_script","_law_k","_law_more"] ["_law_script","_law_k"] (aq iU):=⟨rfl,rfl,rfl,by decide +kernel,rfl,by decide +kernel,by decide +kernel⟩
theorem eg:aO ["_law_head","_law_one","_law_two","_law_kind","_law_right","_law_high","_law_size"] ["_law_head","_law_one","_law_two"] (aq jt):=⟨rfl,rfl,rfl,by decide +kernel,rfl,by decide +kernel,by decide +kernel⟩
theorem b8:aO ["_law_script","_law_head","_law_many","_law_found","_law_k","_law_spot_here"] ["_law_script"] (aq gM):=⟨rfl,rfl,rfl,by decide +kernel,rfl,by decide +kernel,by decide +kernel⟩
theorem DN:aO ["a","b","c"] ["a","b","c"] (aq ug):=⟨rfl,rfl,rfl,by decide +kernel,rfl,by decide +kernel,by decide +kernel⟩
theorem mO:aO ["a","b","c","area"] ["a","b","c"] (aq ju):=⟨rfl,rfl,rfl,by decide +kernel,rfl,by decide +kernel,by decide +kernel⟩
theorem FE:aO ["number"] ["number"] (aq xN):=⟨rfl,rfl,rfl,by decide +kernel,rfl,by decide +kernel,by decide +kernel⟩
theorem qS:aO ["p","q","right","up"] ["p","q"] (aq uh):=⟨rfl,rfl,rfl,by decide +kernel,rfl,by decide +kernel,by decide +kernel⟩
theorem vD:aO ["a","b","c","d","area","depth"] ["a","b","c","d"] (aq xP):=⟨rfl,rfl,rfl,by decide +kernel,rfl,by decide +kernel,by decide +kernel⟩
theorem FF:aO ["a","b","c"] ["a","b","c"] (aq xQ):=⟨rfl,rfl,rfl,by decide +kernel,rfl,by decide +kernel,by decide +kernel⟩
theorem nV:aO ["a","b","c","d","lies","three"] ["a","b","c","d"] (aq pH):=⟨rfl,rfl,rfl,by decide +kernel,rfl,by decide +kernel,by decide +kernel⟩
theorem FG:aO ["way"] ["way"] (aq xR):=⟨rfl,rfl,rfl,by decide +kernel,rfl,by decide +kernel,by decide +kernel⟩
theorem Bk:aO ["t"] ["t"] (aq pI):=⟨rfl,rfl,rfl,by decide +kernel,rfl,by decide +kernel,by decide +kernel⟩
theorem er:aO ["cover","ways","t"] ["cover"] (aq bX):=⟨rfl,rfl,rfl,by decide +kernel,rfl,by decide +kernel,by decide +kernel⟩
theorem fJ:aO ["line","chain","p"] ["line"] (aq fX):=⟨rfl,rfl,rfl,by decide +kernel,rfl,by decide +kernel,by decide +kernel⟩
theorem jh:aO ["places","line","there","home"] ["places"] (aq mU):=⟨rfl,rfl,rfl,by decide +kernel,rfl,by decide +kernel,by decide +kernel⟩
theorem iS:aO ["places","border"] ["places"] (aq fy):=⟨rfl,rfl,rfl,by decide +kernel,rfl,by decide +kernel,by decide +kernel⟩
theorem iD:aO ["places","fallen","p","seen","ways"] ["places","fallen","p"] (aq dN):=⟨rfl,rfl,rfl,by decide +kernel,rfl,by decide +kernel,by decide +kernel⟩
theorem j3:aO ["a","b","c","three"] ["a","b","c"] (aq gO):=⟨rfl,rfl,rfl,by decide +kernel,rfl,by decide +kernel,by decide +kernel⟩
theorem iT:aO ["places","net","p","fallen","ways","come","stay"] ["places","net","p"] (aq fY):=⟨rfl,rfl,rfl,by decide +kernel,rfl,by decide +kernel,by decide +kernel⟩
theorem eZ:aO ["places","net","k"] ["places"] (aq iV):=⟨rfl,rfl,rfl,by decide +kernel,rfl,by decide +kernel,by decide +kernel⟩
theorem eB:aO ["_law_found","_law_places","_law_t","_law_corner"] ["_law_found","_law_places"] (aq eE):=⟨rfl,rfl,rfl,by decide +kernel,rfl,by decide +kernel,by decide +kernel⟩
theorem sy:aO ["_law_a","_law_b","_law_c"] ["_law_a","_law_b","_law_c"] (aq iW):=⟨rfl,rfl,rfl,by decide +kernel,rfl,by decide +kernel,by decide +kernel⟩
theorem bA:aO ["_law_a","_law_b","_law_c","_law_d","_law_found","_law_one","_law_two","_law_far","_law_right","_law_high"] ["_law_a","_law_b","_law_c","_law_d"] (aq gP):=⟨rfl,rfl,rfl,by decide +kernel,rfl,by decide +kernel,by decide +kernel⟩
theorem cP:aO ["_law_triangle","_law_d","_law_a","_law_b","_law_c","_law_depth"] ["_law_triangle","_law_d"] (aq gQ):=⟨rfl,rfl,rfl,by decide +kernel,rfl,by decide +kernel,by decide +kernel⟩
theorem bB:aO ["_law_places","_law_found","_law_sides","_law_a","_law_b","_law_c","_law_side"] ["_law_places","_law_found"] (aq cz):=⟨rfl,rfl,rfl,by decide +kernel,rfl,by decide +kernel,by decide +kernel⟩
theorem eV:aO ["_law_script","_law_places","_law_here","_law_order","_law_handed","_law_found","_law_net","_law_k","_law_told","_law_fallen","_law_come","_law_behind"] ["_law_script"] (aq sI):=⟨rfl,rfl,rfl,by decide +kernel,rfl,by decide +kernel,by decide +kernel⟩
section
variable {P:Program} {w:World} {K:PySem.W.Frag} {mg:Str→Option Value} {base:Heap} {t:Ad}
theorem cC (T:Txt K mg t):Binds K t.gW ["_law_script","_law_k"] []:=T.bT.binds fun _ _ _ _ _ _ us hl=>match us,hl with | [_,_],_=>rfl
def vE:uD:=fun ds Q=> ∃ (ns:List Int) (k:Int),ds= [.zA (ns.map L3.D.int),.int k]∧ns.length≤63∧0≤k∧k≤1000∧∀ z:Int,Q (.int z)
theorem cD (T:Txt K mg t):cE P w K mg base iF 1 t.i9 t.gW ["_law_script","_law_k"] (sU K vE):=by
 refine yc T.bT kQ (fun ds Q h=>by (first | (obtain ⟨_,rfl,_⟩:=h;rfl) | (obtain ⟨_,_,rfl,_⟩:=h;rfl) | (obtain ⟨_,_,_,rfl,_⟩:=h;rfl) | (obtain ⟨_,_,_,_,rfl,_⟩:=h;rfl) | (obtain ⟨_,_,_,_,_,rfl,_⟩:=h;rfl) | (obtain ⟨_,_,_,_,_,_,rfl,_⟩:=h;rfl) | (obtain ⟨_,_,_,_,_,_,_,rfl,_⟩:=h;rfl))) (fun cdv A outer s H hr=>?_)
 have hu:=hr.units
 refine ⟨_,(au (cY (aT (lQ hu) (af 1) (b9 kL (by rfl) T.iC cA (aa (af 0) ao)) (aL _)) (aC (aN (aP (af 0) (af 1)))) bK)
  (au (aW (i:=2) kQ.nd rfl (Or.inl rfl) (az yh (az yh (az e9 (af 1) ai) (az e9 (af 1) ai)) ai))
  (aC (aN (MX (aT (Cr hu) (af 0) (dG ao) (aL _)) (af 2) (az e9 (af 2) (az yh (aP (af 0) (az cX (af 1) (b9 kL (by rfl) T.iC cA (aa (af 0) ao)))) (az e9 (af 1) ai)))))))),fun ds Q h=>?_⟩
 obtain ⟨ns,k,rfl,hlen,hk,hk2,h⟩:=h
 have sk:Sm 11 k:=by
  show k.natAbs < 2 ^ 11
  omega
 walk_at "rd"
 refine ⟨_,_,rfl,.inr (.inl rfl),?_⟩
 walk_at "rd"
 refine fL (fun c=>?_) (fun c=>?_)
 ·have c:k < ((ns.map L3.D.int).length:Int):=of_decide_eq_true c
  rw [To] at c
  obtain ⟨z,_,hz⟩:=ng hk c
  walk_at "rd"
  exact ⟨_,k,.int z,.inr (.inl rfl),rfl,hz,h z⟩
 ·walk_at "rd"
  intro p hp
  refine ⟨_,_,.inl rfl,.of ah,yi ns,rfl,?_⟩
  walk_at "rd"
  refine fL (fun c=>?_) (fun c=>?_)
  ·walk_at "rd"
   exact h _
  ·have hne:ns≠[]:=fun z=>c (by rw [z];rfl)
   have hpos:0 < ns.length:=WE.mpr hne
   walk_at "rd"
   refine ⟨_,_,rfl,.inr (.inl rfl),?_⟩
   walk_at "rd"
   refine ⟨by rw [To];omega,?_⟩
   rw [To]
   obtain ⟨z,_,hz⟩:=ng (ns:=ns) (k:=k % (ns.length:Int)) (U1 _ (by omega)) (UO _ (by omega))
   refine ⟨_,_,.int z,.inr (.inl rfl),rfl,hz,?_⟩
   walk_at "rd"
   refine ⟨Or.inr (Or.inr (show -(2 ^ 64) < k+5∧k+5 < 2 ^ 64 from ⟨by omega,by omega⟩)),?_⟩
   walk_at "rd"
   exact h _
theorem vF (T:Txt K mg t):Binds K t.ja ["_law_head","_law_one","_law_two"] []:=T.jX.binds fun _ _ _ _ _ _ us hl=>match us,hl with | [_,_,_],_=>rfl
def xD:uD:=fun ds Q=> ∃ h o t:Int,ds= [.int h,.int o,.int t]∧∀ p:Pl,p.Ok 140→Q p.d
theorem vG (T:Txt K mg t):cE P w K mg base iF 1 t.jV t.ja ["_law_head","_law_one","_law_two"] (sU K xD):=by
 refine yc T.jX eg (fun ds Q h=>by (first | (obtain ⟨_,rfl,_⟩:=h;rfl) | (obtain ⟨_,_,rfl,_⟩:=h;rfl) | (obtain ⟨_,_,_,rfl,_⟩:=h;rfl) | (obtain ⟨_,_,_,_,rfl,_⟩:=h;rfl) | (obtain ⟨_,_,_,_,_,rfl,_⟩:=h;rfl) | (obtain ⟨_,_,_,_,_,_,rfl,_⟩:=h;rfl) | (obtain ⟨_,_,_,_,_,_,_,rfl,_⟩:=h;rfl))) (fun cdv A outer s H hr=>?_)
 have hu:=hr.units
 refine ⟨_,(au (aW (i:=3) eg.nd rfl (Or.inl rfl) (az cX (af 0) ai))
  (au (cY (aT (pO hu) (af 3) ai (aL _)) (aC (aN (cH (aa (az cX (af 1) ai) (aa (az cX (af 2) ai) ao))))) bK)
  (au (cY (aT (pO hu) (af 3) ai (aL _)) (aC (aN (cH (aa (az e9 (az cX (af 1) ai) (az sR ai ai)) (aa (az dP (az cX (af 2) ai) (az cV ai (az sR ai ai))) ao))))) bK)
  (au (cY (aT (pO hu) (af 3) ai (aL _)) (au (aW (i:=4) eg.nd rfl (Or.inl rfl) (aP (dG (aa ai (aa ai (aa ai (aa ai (aa (dO ai) (aa (dO ai) (aa (dO ai) (aa (dO ai) (aa (dO ai) (aa ai (aa ai (aa ai (aa ai ao)))))))))))))) (az cX (af 1) ai)))
  (au (aW (i:=5) eg.nd rfl (Or.inl rfl) (aP (dG (aa ai (aa ai (aa ai (aa ai (aa ai (aa ai (aa ai (aa (dO ai) (aa (dO ai) (aa (dO ai) (aa (dO ai) (aa (dO ai) (aa ai ao)))))))))))))) (az cX (af 1) ai)))
  (au (aW (i:=6) eg.nd rfl (Or.inl rfl) (az e9 ai (az cX (az uC (af 0) ai) ai)))
  (aC (aN (cH (aa (az dP (az cV (af 4) (af 6)) (az cX (az uC (af 0) ai) ai)) (aa (az e9 (az cV (af 5) (af 6)) (az cX (az uC (af 0) ai) ai)) ao)))))))) bK)
  (au (cY (aT (pO hu) (af 3) ai (aL _)) (aC (aN (cH (aa (az dP (az cX (af 1) ai) ai) (aa (az e9 (az cV ai (az cX (af 1) ai)) (aP (dG (aa ai (aa ai (aa ai (aa ai (aa (dO ai) ao)))))) (az cX (af 2) ai))) ao))))) bK)
  (au (cY (aT (pO hu) (af 3) ai (aL _)) (aC (aN (cH (aa (az cX (af 1) ai) (aa (az cX (af 2) ai) ao))))) bK)
  (aC (aN (cH (aa (az dP (az cX (af 1) (az e9 (az cV ai (az sR ai ai)) ai)) (az sR ai ai)) (aa (az dP (az cX (af 2) (az e9 (az cV ai (az sR ai ai)) ai)) (az sR ai ai)) ao))))))))))),fun ds Q h=>?_⟩
 obtain ⟨h0,o,t,rfl,h⟩:=h
 walk_at "rd"
 refine fL (fun _=>?_) (fun _=>?_)
 ·walk_at "rd"
  exact h ⟨_,_⟩ ⟨by walk_at "smle",by walk_at "smle"⟩
 walk_at "rd"
 refine fL (fun _=>?_) (fun _=>?_)
 ·walk_at "rd"
  exact h ⟨_,_⟩ ⟨by walk_at "smle",by walk_at "smle"⟩
 walk_at "rd"
 refine fL (fun _=>?_) (fun _=>?_)
 ·walk_at "rd"
  intro p hp
  walk_at "rd"
  obtain ⟨z1,m1,e1⟩:=ng (ns:=KR) (k:=o % 13) (U1 _ (by decide)) (UO _ (by decide))
  refine ⟨_,_,_,.inr (.inr ⟨p,rfl,ah⟩),rfl,e1,?_⟩
  walk_at "rd"
  intro q hq
  walk_at "rd"
  obtain ⟨z2,m2,e2⟩:=ng (ns:=KS) (k:=o % 13) (U1 _ (by decide)) (UO _ (by decide))
  refine ⟨_,_,_,.inr (.inr ⟨q,rfl,ah⟩),rfl,e2,?_⟩
  have s1:Sm 3 z1:=yj (by decide) m1
  have s2:Sm 3 z2:=yj (by decide) m2
  walk_at "rd"
  exact h ⟨_,_⟩ ⟨by walk_at "smle",by walk_at "smle"⟩
 walk_at "rd"
 refine fL (fun _=>?_) (fun _=>?_)
 ·walk_at "rd"
  intro p hp
  walk_at "rd"
  obtain ⟨z1,m1,e1⟩:=ng (ns:=[0,0,0,1, -1]) (k:=t % 5) (U1 _ (by decide)) (UO _ (by decide))
  refine ⟨_,_,_,.inr (.inr ⟨p,rfl,ah⟩),rfl,e1,?_⟩
  have s1:Sm 3 z1:=yj (ns:=[0,0,0,1, -1]) (by decide) m1
  walk_at "rd"
  exact h ⟨_,_⟩ ⟨by walk_at "smle",by walk_at "smle"⟩
 walk_at "rd"
 refine fL (fun _=>?_) (fun _=>?_)
 ·walk_at "rd"
  exact h ⟨_,_⟩ ⟨by walk_at "smle",by walk_at "smle"⟩
 walk_at "rd"
 exact h ⟨_,_⟩ ⟨by walk_at "smle",by walk_at "smle"⟩
theorem qT (T:Txt K mg t):Binds K t.gB ["_law_script"] []:=T.iw.binds fun _ _ _ _ _ _ us hl=>match us,hl with | [_],_=>rfl
def sA:x8:=fun ds M Q=> ∃ ns:List Int,ds= [.zA (ns.map L3.D.int)]∧ns.length≤63∧∀ (p:Addr) (ps:List Pl),M p=none→ps.Nodup→(∀ q∈ps,q.Ok 140)→ps.length≤16→Q (.ref p) (av M p (.lst (ps.map Pl.d)))
theorem qU (T:Txt K mg t):cE P w K mg base iF 2 t.gX t.gB ["_law_script"] (AI K sA):=by
 refine B8 T.iw b8 (fun ds M Q h=>by (first | (obtain ⟨_,rfl,_⟩:=h;rfl) | (obtain ⟨_,_,rfl,_⟩:=h;rfl) | (obtain ⟨_,_,_,rfl,_⟩:=h;rfl) | (obtain ⟨_,_,_,_,rfl,_⟩:=h;rfl) | (obtain ⟨_,_,_,_,_,rfl,_⟩:=h;rfl) | (obtain ⟨_,_,_,_,_,_,rfl,_⟩:=h;rfl) | (obtain ⟨_,_,_,_,_,_,_,rfl,_⟩:=h;rfl))) (fun cdv A outer s H hr=>?_)
 have hu:=hr.units
 refine ⟨_,(au (aW (i:=1) b8.nd rfl (Or.inl rfl) (aF (cD T) (hr.mono (by decide)) (by rfl) T.cU T.bT.kp (cC T) (aa (af 0) (aa ai ao))))
  (au (aW (i:=2) b8.nd rfl (Or.inl rfl) (az cX (az uC (aF (cD T) (hr.mono (by decide)) (by rfl) T.cU T.bT.kp (cC T) (aa (af 0) (aa ai ao))) ai) (aP (dG (aa ai (aa ai (aa ai (aa ai (aa ai (aa ai (aa ai (aa ai ao))))))))) (az cX (aF (cD T) (hr.mono (by decide)) (by rfl) T.cU T.bT.kp (cC T) (aa (af 0) (aa ai ao))) ai))))
  (au (aW (i:=3) b8.nd rfl (Or.inl rfl) (dG ao))
  (au (yb PassesOwn.never rfl (by rfl) T.qQ (aa (af 2) ao) (bI (i:=4) b8.nd rfl (Or.inl rfl)) (au (aW (i:=5) b8.nd rfl (Or.inl rfl) (aF (vG T) (hr.mono (by decide)) (by rfl) T.xr T.jX.kp (vF T) (aa (af 1) (aa (aF (cD T) (hr.mono (by decide)) (by rfl) T.cU T.bT.kp (cC T) (aa (af 0) (aa (az e9 ai (az cV ai (af 4))) ao))) (aa (aF (cD T) (hr.mono (by decide)) (by rfl) T.cU T.bT.kp (cC T) (aa (af 0) (aa (az e9 ai (az cV ai (af 4))) ao))) ao)))))
  (aC (cY (aT (j8 hu) (af 5) (af 3) (by with_unfolding_all rfl)) (aC (uE (Gg (af 3) (af 5) (BK PySem.F.plainAttrs_list PySem.F.slot_list_append PySem.F.type_list_append mW (cG.dn (af 3)) (o4 (cG.dn (af 5)) uq))))) bK))))
  (aC (aN (af 3))))))),fun ds M Q h=>?_⟩
 obtain ⟨ns,rfl,hlen,h⟩:=h
 walk_at "rd"
 refine ⟨hlen,by decide,by decide,fun hd=>?_⟩
 walk_at "rd"
 refine ⟨hlen,by decide,by decide,fun nm=>?_⟩
 walk_at "rd"
 intro u hu
 walk_at "rd"
 refine ⟨hlen,by decide,by decide,fun Rk=>?_⟩
 walk_at "rd"
 obtain ⟨z,mz,ez⟩:=ng (ns:=[8,7,8,6,8,17,7,8]) (k:=Rk % 8) (U1 _ (by decide)) (UO _ (by decide))
 have Rl:0 < z∧z≤17:=(show ∀ z∈[8,7,8,6,8,17,7,(8:Int)],0 < z∧z≤17 by decide) z mz
 refine ⟨_,_,_,.inr (.inr ⟨u,rfl,ah⟩),rfl,ez,?_⟩
 have zp:=Rl.1
 walk_at "rd"
 intro p hp
 have le:=Le.new (o:=MO.lst ([8,7,8,6,8,17,7,8].map L3.D.int)) hu
 have m0:0≤nm / 8 % z:=U1 _ (by omega)
 have m1:nm / 8 % z < z:=UO _ (by omega)
 dsimp only
 generalize nm / 8 % z=many at *
 replace le:Le M (av M u (.lst [.int 8,.int 7,.int 8,.int 6,.int 8,.int 17,.int 7,.int 8])):=le
 generalize av M u (.lst [.int 8,.int 7,.int 8,.int 6,.int 8,.int 17,.int 7,.int 8])=M1 at *
 walk_at "rd"
 refine ⟨by omega,by omega,?_⟩
 refine cg (fun i ρ M'=> ∃ (ps:List Pl) (y1 y2:Option L3.D),ρ= [some (.zA (ns.map L3.D.int)),some (.int hd),some (.int many),some (.ref p),y1,y2]∧ps.length≤i∧ps.Nodup∧(∀ q∈ps,q.Ok 140)∧M'=av M1 p (.lst (ps.map Pl.d))) _ ?_ ?_ ⟨[],_,_,rfl,Tz _,VU,(fun q hq=>by cases hq),rfl⟩
 ·rintro i x ρ M' N hx ⟨ps,y1,y2,rfl,hl,nd,ho,rfl⟩ hN
  obtain ⟨hi,rfl⟩:=m8 hx
  have hi:i < 17:=by omega
  have si:Sm 10 ((i:Nat):Int):=by
   show i < 2 ^ 10
   omega
  refine ⟨trivial,?_⟩
  walk_at "rd"
  refine ⟨hlen,by dsimp only;omega,by dsimp only;omega,fun z1=>?_⟩
  walk_at "rd"
  refine ⟨hlen,by dsimp only;omega,by dsimp only;omega,fun z2=>?_⟩
  refine ⟨_,_,_,rfl,fun q hq=>?_⟩
  walk_at "rd"
  refine ⟨_,.inr ⟨p,rfl,ah⟩,rfl,dH ps,?_⟩
  walk_at "rd"
  rw [if_pos rfl,kg]
  refine fL (fun k=>?_) (fun k=>?_)
  ·have k:q∉ps:=fun z=>by rw [decide_eq_true z] at k;cases k
   walk_at "rd"
   refine ⟨⟨p,_,rfl,ah⟩,?_⟩
   walk_at "rd"
   refine ⟨p,_,rfl,ah,?_,?_⟩
   ·rw [To]
    have:(1000:Nat) < sizeLine:=by decide
    omega
   ·rw [lH]
    refine hN _ _ ⟨ps ++ [q],_,_,rfl,by simp;omega,?_,?_,by simp⟩
    ·rw [Ub]
     exact ⟨nd,by simp,fun a ha b hb e=>by rw [Tt.mp hb] at e;subst e;exact k ha⟩
    ·intro z hz
     rcases TU.mp hz with hz | hz
     ·exact ho z hz
     ·rw [Tt.mp hz];exact hq
  ·exact hN _ _ ⟨ps,_,_,rfl,by omega,nd,ho,rfl⟩
 ·rintro ρ M' ⟨ps,y1,y2,rfl,hl,nd,ho,rfl⟩
  refine ⟨trivial,?_⟩
  walk_at "rd"
  refine bY.mk ⟨_,?_,h p ps (le.free hp) nd ho ?_⟩
  ·intro c o e
   by_cases z:c=p
   ·subst z
    rw [ah] at e ⊢
    exact e
   ·rw [aZ z] at e ⊢
    exact le _ _ e
  ·simp at hl
   omega
theorem j4 (T:Txt K mg t):Binds K t.qJ ["a","b","c"] []:=T.jf.binds fun _ _ _ _ _ _ us hl=>match us,hl with | [_,_,_],_=>rfl
def FH:uD:=fun ds Q=> ∃ a b c:Pl,ds= [a.d,b.d,c.d]∧a.Ok 140∧b.Ok 140∧c.Ok 140∧Q (.int (tw a b c))
theorem j5 (T:Txt K mg t):cE P w K mg base iF 1 t.vo t.qJ ["a","b","c"] (sU K FH):=by
 refine yc T.jf DN (fun ds Q h=>by (first | (obtain ⟨_,rfl,_⟩:=h;rfl) | (obtain ⟨_,_,rfl,_⟩:=h;rfl) | (obtain ⟨_,_,_,rfl,_⟩:=h;rfl) | (obtain ⟨_,_,_,_,rfl,_⟩:=h;rfl) | (obtain ⟨_,_,_,_,_,rfl,_⟩:=h;rfl) | (obtain ⟨_,_,_,_,_,_,rfl,_⟩:=h;rfl) | (obtain ⟨_,_,_,_,_,_,_,rfl,_⟩:=h;rfl))) (fun cdv A outer s H hr=>?_)
 have hu:=hr.units
 refine ⟨_,(aC (aN (az dP (az cV (az dP (aP (af 1) ai) (aP (af 0) ai)) (az dP (aP (af 2) ai) (aP (af 0) ai))) (az cV (az dP (aP (af 1) ai) (aP (af 0) ai)) (az dP (aP (af 2) ai) (aP (af 0) ai)))))),fun ds Q h=>?_⟩
 obtain ⟨a,b,c,rfl,⟨a1,a2⟩,⟨b1,b2⟩,⟨c1,c2⟩,h⟩:=h
 unfold tw at h
 walk_at "rd"
 exact h
theorem vH (T:Txt K mg t):Binds K t.jb ["a","b","c"] []:=T.jY.binds fun _ _ _ _ _ _ us hl=>match us,hl with | [_,_,_],_=>rfl
def xE:uD:=fun ds Q=> ∃ a b c:Pl,ds= [a.d,b.d,c.d]∧a.Ok 140∧b.Ok 140∧c.Ok 140∧tw a b c≠0∧Q (.int (tw a b c))
theorem vI (T:Txt K mg t):cE P w K mg base iF 2 t.jW t.jb ["a","b","c"] (sU K xE):=by
 refine yc T.jY mO (fun ds Q h=>by (first | (obtain ⟨_,rfl,_⟩:=h;rfl) | (obtain ⟨_,_,rfl,_⟩:=h;rfl) | (obtain ⟨_,_,_,rfl,_⟩:=h;rfl) | (obtain ⟨_,_,_,_,rfl,_⟩:=h;rfl) | (obtain ⟨_,_,_,_,_,rfl,_⟩:=h;rfl) | (obtain ⟨_,_,_,_,_,_,rfl,_⟩:=h;rfl) | (obtain ⟨_,_,_,_,_,_,_,rfl,_⟩:=h;rfl))) (fun cdv A outer s H hr=>?_)
 have hu:=hr.units
 refine ⟨_,(au (aW (i:=3) mO.nd rfl (Or.inl rfl) (aF (j5 T) (hr.mono (by decide)) (by rfl) T.mG T.jf.kp (j4 T) (aa (af 0) (aa (af 1) (aa (af 2) ao)))))
  (au (cY (aT (pO hu) (af 3) ai (aL _)) (aC zD) bK)
  (aC (aN (af 3))))),fun ds Q h=>?_⟩
 obtain ⟨a,b,c,rfl,ha,hb,hc,hn,h⟩:=h
 walk_at "rd"
 refine ⟨ha,hb,hc,?_⟩
 walk_at "rd"
 refine fL (fun k=>?_) (fun _=>?_)
 ·exfalso
  rw [dQ] at k
  exact hn (eq_of_beq k)
 walk_at "rd"
 exact h
theorem vJ (T:Txt K mg t):Binds K t.vp ["number"] []:=T.qO.binds fun _ _ _ _ _ _ us hl=>match us,hl with | [_],_=>rfl
def IP:uD:=fun ds Q=> ∃ i:Int,ds= [.int i]∧Q (.int i.sign)
theorem vK (T:Txt K mg t):cE P w K mg base iF 1 t.yR t.vp ["number"] (sU K IP):=by
 refine yc T.qO FE (fun ds Q h=>by (first | (obtain ⟨_,rfl,_⟩:=h;rfl) | (obtain ⟨_,_,rfl,_⟩:=h;rfl) | (obtain ⟨_,_,_,rfl,_⟩:=h;rfl) | (obtain ⟨_,_,_,_,rfl,_⟩:=h;rfl) | (obtain ⟨_,_,_,_,_,rfl,_⟩:=h;rfl) | (obtain ⟨_,_,_,_,_,_,rfl,_⟩:=h;rfl) | (obtain ⟨_,_,_,_,_,_,_,rfl,_⟩:=h;rfl))) (fun cdv A outer s H hr=>?_)
 have hu:=hr.units
 refine ⟨_,(au (cY (aT Ho (af 0) ai (aL _)) (aC (aN ai)) bK)
  (au (cY (aT (lQ hu) (af 0) ai (aL _)) (aC (aN (dO ai))) bK)
  (aC (aN ai)))),fun ds Q h=>?_⟩
 obtain ⟨i,rfl,h⟩:=h
 walk_at "rd"
 refine fL (fun c=>?_) (fun c=>?_)
 ·have c:0 < i:=of_decide_eq_true c
  rw [Up c] at h
  exact h
 ·have c:¬ 0 < i:=fun z=>c (decide_eq_true z)
  walk_at "rd"
  refine fL (fun e=>?_) (fun e=>?_)
  ·have e:i < 0:=of_decide_eq_true e
   rw [US e] at h
   walk_at "rd"
   exact h
  ·have e:¬ i < 0:=fun z=>e (decide_eq_true z)
   have z:i=0:=by omega
   subst z
   exact h
theorem qV (T:Txt K mg t):Binds K t.qK ["p","q"] []:=T.mH.binds fun _ _ _ _ _ _ us hl=>match us,hl with | [_,_],_=>rfl
def FI:uD:=fun ds Q=> ∃ p q:Pl,ds= [p.d,q.d]∧p.Ok 140∧q.Ok 140∧Q (.int (uH p q))
theorem qW (T:Txt K mg t):cE P w K mg base iF 1 t.vq t.qK ["p","q"] (sU K FI):=by
 refine yc T.mH qS (fun ds Q h=>by (first | (obtain ⟨_,rfl,_⟩:=h;rfl) | (obtain ⟨_,_,rfl,_⟩:=h;rfl) | (obtain ⟨_,_,_,rfl,_⟩:=h;rfl) | (obtain ⟨_,_,_,_,rfl,_⟩:=h;rfl) | (obtain ⟨_,_,_,_,_,rfl,_⟩:=h;rfl) | (obtain ⟨_,_,_,_,_,_,rfl,_⟩:=h;rfl) | (obtain ⟨_,_,_,_,_,_,_,rfl,_⟩:=h;rfl))) (fun cdv A outer s H hr=>?_)
 have hu:=hr.units
 refine ⟨_,(au (aW (i:=2) qS.nd rfl (Or.inl rfl) (az dP (aP (af 1) ai) (aP (af 0) ai)))
  (au (aW (i:=3) qS.nd rfl (Or.inl rfl) (az dP (aP (af 1) ai) (aP (af 0) ai)))
  (aC (aN (az e9 (az cV (af 2) (af 2)) (az cV (af 3) (af 3))))))),fun ds Q h=>?_⟩
 obtain ⟨p,q,rfl,⟨p1,p2⟩,⟨q1,q2⟩,h⟩:=h
 unfold uH at h
 walk_at "rd"
 exact h
theorem FJ (T:Txt K mg t):Binds K t.vt ["a","b","c","d"] []:=T.yX.binds fun _ _ _ _ _ _ us hl=>match us,hl with | [_,_,_,_],_=>rfl
def IQ:uD:=fun ds Q=> ∃ a b c d:Pl,ds= [a.d,b.d,c.d,d.d]∧a.Ok 140∧b.Ok 140∧c.Ok 140∧d.Ok 140∧tw a b c≠0∧Q (.int (rg a b c d))
theorem FL (T:Txt K mg t):cE P w K mg base iF 3 t.yS t.vt ["a","b","c","d"] (sU K IQ):=by
 refine yc T.yX vD (fun ds Q h=>by (first | (obtain ⟨_,rfl,_⟩:=h;rfl) | (obtain ⟨_,_,rfl,_⟩:=h;rfl) | (obtain ⟨_,_,_,rfl,_⟩:=h;rfl) | (obtain ⟨_,_,_,_,rfl,_⟩:=h;rfl) | (obtain ⟨_,_,_,_,_,rfl,_⟩:=h;rfl) | (obtain ⟨_,_,_,_,_,_,rfl,_⟩:=h;rfl) | (obtain ⟨_,_,_,_,_,_,_,rfl,_⟩:=h;rfl))) (fun cdv A outer s H hr=>?_)
 have hu:=hr.units
 refine ⟨_,(au (aW (i:=4) vD.nd rfl (Or.inl rfl) (aF (vI T) (hr.mono (by decide)) (by rfl) T.xu T.jY.kp (vH T) (aa (af 0) (aa (af 1) (aa (af 2) ao)))))
  (au (aW (i:=5) vD.nd rfl (Or.inl rfl) (az e9 (az e9 (az cV (aF (qW T) (hr.mono (by decide)) (by rfl) T.vA T.mH.kp (qV T) (aa (af 3) (aa (af 0) ao))) (aF (j5 T) (hr.mono (by decide)) (by rfl) T.mG T.jf.kp (j4 T) (aa (af 3) (aa (af 1) (aa (af 2) ao))))) (az cV (aF (qW T) (hr.mono (by decide)) (by rfl) T.vA T.mH.kp (qV T) (aa (af 3) (aa (af 1) ao))) (aF (j5 T) (hr.mono (by decide)) (by rfl) T.mG T.jf.kp (j4 T) (aa (af 3) (aa (af 2) (aa (af 0) ao)))))) (az cV (aF (qW T) (hr.mono (by decide)) (by rfl) T.vA T.mH.kp (qV T) (aa (af 3) (aa (af 2) ao))) (aF (j5 T) (hr.mono (by decide)) (by rfl) T.mG T.jf.kp (j4 T) (aa (af 3) (aa (af 0) (aa (af 1) ao)))))))
  (aC (aN (az cV (aF (vK T) (hr.mono (by decide)) (by rfl) T.yW T.qO.kp (vJ T) (aa (af 4) ao)) (aF (vK T) (hr.mono (by decide)) (by rfl) T.yW T.qO.kp (vJ T) (aa (af 5) ao))))))),fun ds Q h=>?_⟩
 obtain ⟨a,b,c,d,rfl,ha,hb,hc,hd,hn,h⟩:=h
 have s1:=yd hd ha
 have s2:=yd hd hb
 have s3:=yd hd hc
 have t1:=zI hd hb hc
 have t2:=zI hd hc ha
 have t3:=zI hd ha hb
 walk_at "rd"
 refine ⟨ha,hb,hc,hn,?_⟩
 walk_at "rd"
 refine ⟨hd,ha,?_⟩
 walk_at "rd"
 refine ⟨hd,hb,hc,?_⟩
 walk_at "rd"
 refine ⟨hd,hb,?_⟩
 walk_at "rd"
 refine ⟨hd,hc,ha,?_⟩
 walk_at "rd"
 refine ⟨hd,hc,?_⟩
 walk_at "rd"
 refine ⟨hd,ha,hb,?_⟩
 walk_at "rd"
 unfold rg dep at h
 exact h
theorem kB (T:Txt K mg t):Binds K t.vv ["a","b","c"] []:=T.jZ.binds fun _ _ _ _ _ _ us hl=>match us,hl with | [_,_,_],_=>rfl
def IS:uD:=fun ds Q=> ∃ a b c:Pl,ds= [a.d,b.d,c.d]∧a.Ok 140∧b.Ok 140∧c.Ok 140∧Q (.int (tw a b c).sign)
theorem kC (T:Txt K mg t):cE P w K mg base iF 2 t.yT t.vv ["a","b","c"] (sU K IS):=by
 refine yc T.jZ FF (fun ds Q h=>by (first | (obtain ⟨_,rfl,_⟩:=h;rfl) | (obtain ⟨_,_,rfl,_⟩:=h;rfl) | (obtain ⟨_,_,_,rfl,_⟩:=h;rfl) | (obtain ⟨_,_,_,_,rfl,_⟩:=h;rfl) | (obtain ⟨_,_,_,_,_,rfl,_⟩:=h;rfl) | (obtain ⟨_,_,_,_,_,_,rfl,_⟩:=h;rfl) | (obtain ⟨_,_,_,_,_,_,_,rfl,_⟩:=h;rfl))) (fun cdv A outer s H hr=>?_)
 have hu:=hr.units
 refine ⟨_,(aC (aN (aF (vK T) (hr.mono (by decide)) (by rfl) T.yW T.qO.kp (vJ T) (aa (aF (j5 T) (hr.mono (by decide)) (by rfl) T.mG T.jf.kp (j4 T) (aa (af 0) (aa (af 1) (aa (af 2) ao)))) ao)))),fun ds Q h=>?_⟩
 obtain ⟨a,b,c,rfl,ha,hb,hc,h⟩:=h
 walk_at "rd"
 refine ⟨ha,hb,hc,?_⟩
 walk_at "rd"
 exact h
theorem Bl (T:Txt K mg t):Binds K t.nN ["a","b","c","d"] []:=T.qP.binds fun _ _ _ _ _ _ us hl=>match us,hl with | [_,_,_,_],_=>rfl
def DO:uD:=fun ds Q=> ∃ a b c d:Pl,ds= [a.d,b.d,c.d,d.d]∧a.Ok 140∧b.Ok 140∧c.Ok 140∧d.Ok 140∧tw a b c≠0∧Q (.bl (decide (fM a b c d)))
theorem Bm (T:Txt K mg t):cE P w K mg base iF 4 t.qL t.nN ["a","b","c","d"] (sU K DO):=by
 refine yc T.qP nV (fun ds Q h=>by (first | (obtain ⟨_,rfl,_⟩:=h;rfl) | (obtain ⟨_,_,rfl,_⟩:=h;rfl) | (obtain ⟨_,_,_,rfl,_⟩:=h;rfl) | (obtain ⟨_,_,_,_,rfl,_⟩:=h;rfl) | (obtain ⟨_,_,_,_,_,rfl,_⟩:=h;rfl) | (obtain ⟨_,_,_,_,_,_,rfl,_⟩:=h;rfl) | (obtain ⟨_,_,_,_,_,_,_,rfl,_⟩:=h;rfl))) (fun cdv A outer s H hr=>?_)
 have hu:=hr.units
 refine ⟨_,(au (aW (i:=4) nV.nd rfl (Or.inl rfl) (aF (FL T) (hr.mono (by decide)) (by rfl) T.IJ T.yX.kp (FJ T) (aa (af 0) (aa (af 1) (aa (af 2) (aa (af 3) ao))))))
  (au (cY (aT (AH hu) (af 4) ai (aL _)) (aC (aN (oh (pO hu) (af 4) ai (aL _)))) bK)
  (au (cY (aT (Ew hu) (af 3) (cH (aa (af 0) (aa (af 1) (aa (af 2) ao)))) (by with_unfolding_all rfl)) (aC (aN jn)) bK)
  (au (aW (i:=5) nV.nd rfl (Or.inl rfl) (b9 p9 (by rfl) T.dJ bQ (aa (dG (aa (af 0) (aa (af 1) (aa (af 2) ao)))) ao)))
  (au (cY (aT (lQ hu) (af 3) (aP (af 5) ai) (aL _)) (aC (aN jn)) bK)
  (aC (aN (oh (AH hu) (aF (kC T) (hr.mono (by decide)) (by rfl) T.nR T.jZ.kp (kB T) (aa (aP (af 5) ai) (aa (aP (af 5) ai) (aa (af 3) ao)))) (aF (kC T) (hr.mono (by decide)) (by rfl) T.nR T.jZ.kp (kB T) (aa (aP (af 5) ai) (aa (aP (af 5) ai) (aa (aP (af 5) ai) ao)))) (aL _))))))))),fun ds Q h=>?_⟩
 obtain ⟨a,b,c,d,rfl,ha,hb,hc,hd,hn,h⟩:=h
 walk_at "rd"
 refine ⟨ha,hb,hc,hd,hn,?_⟩
 walk_at "rd"
 refine fL (fun k=>?_) (fun k=>?_)
 ·have k:rg a b c d≠0:=fun z=>by rw [z] at k;exact absurd k (by decide)
  walk_at "rd"
  have e:decide (fM a b c d)=dM (.int (rg a b c d)) (.int 1):=by
   rw [dQ,Uo]
   simp [fM,k]
  rw [e] at h
  exact h
 ·have k:rg a b c d=0:=by
   apply Tj
   intro z
   apply k
   rw [dQ,beq_eq_false_iff_ne.mpr z]
   rfl
  walk_at "rd"
  rw [Np]
  refine fL (fun k2=>?_) (fun k2=>?_)
  ·have k2:=of_decide_eq_true k2
   walk_at "rd"
   have e:decide (fM a b c d)=false:=decide_eq_false (fun z=>by unfold fM at z;rw [k] at z;grind)
   rw [e] at h
   exact h
  ·have k2:¬ (d=a∨d=b∨d=c):=fun z=>k2 (decide_eq_true z)
   walk_at "rd"
   intro l hl
   refine ⟨l,[a,b,c],rfl,ah,by show 3 < 64;decide,fun p qs hp cJ kR=>?_⟩
   obtain ⟨u,v,w,rfl⟩:=lY cJ.length_eq
   obtain ⟨hu,hv,hw⟩:=wo cJ ha hb hc
   have key:=ye hn k k2 cJ kR
   rw [key] at h
   walk_at "rd"
   refine ⟨_,_,_,.inr (.inr ⟨p,rfl,ah⟩),rfl,rfl,?_⟩
   walk_at "rd"
   rw [lV]
   refine fL (fun k3=>?_) (fun k3=>?_)
   ·rw [if_pos (of_decide_eq_true k3)] at h
    walk_at "rd"
    exact h
   ·rw [if_neg (fun z=>k3 (decide_eq_true z))] at h
    walk_at "rd"
    refine ⟨_,_,_,.inr (.inr ⟨p,rfl,ah⟩),rfl,rfl,?_⟩
    walk_at "rd"
    refine ⟨_,_,_,.inr (.inr ⟨p,rfl,ah⟩),rfl,rfl,?_⟩
    walk_at "rd"
    refine ⟨hv,hw,hd,?_⟩
    walk_at "rd"
    refine ⟨_,_,_,.inr (.inr ⟨p,rfl,ah⟩),rfl,rfl,?_⟩
    walk_at "rd"
    refine ⟨_,_,_,.inr (.inr ⟨p,rfl,ah⟩),rfl,rfl,?_⟩
    walk_at "rd"
    refine ⟨_,_,_,.inr (.inr ⟨p,rfl,ah⟩),rfl,rfl,?_⟩
    walk_at "rd"
    refine ⟨hv,hw,hu,?_⟩
    walk_at "rd"
    rw [Ck]
    exact h
theorem Aj (T:Txt K mg t):Binds K t.vz ["way"] []:=T.vB.binds fun _ _ _ _ _ _ us hl=>match us,hl with | [_],_=>rfl
def IT:uD:=fun ds Q=> ∃ a b:Pl,ds= [tD [a,b]]∧Q (tD [b,a])
theorem Ak (T:Txt K mg t):cE P w K mg base iF 1 t.yU t.vz ["way"] (sU K IT):=by
 refine yc T.vB FG (fun ds Q h=>by (first | (obtain ⟨_,rfl,_⟩:=h;rfl) | (obtain ⟨_,_,rfl,_⟩:=h;rfl) | (obtain ⟨_,_,_,rfl,_⟩:=h;rfl) | (obtain ⟨_,_,_,_,rfl,_⟩:=h;rfl) | (obtain ⟨_,_,_,_,_,rfl,_⟩:=h;rfl) | (obtain ⟨_,_,_,_,_,_,rfl,_⟩:=h;rfl) | (obtain ⟨_,_,_,_,_,_,_,rfl,_⟩:=h;rfl))) (fun cdv A outer s H hr=>?_)
 have hu:=hr.units
 refine ⟨_,(aC (aN (cH (aa (aP (af 0) ai) (aa (aP (af 0) ai) ao))))),fun ds Q h=>?_⟩
 obtain ⟨a,b,rfl,h⟩:=h
 walk_at "rd"
 exact h
theorem t9 (T:Txt K mg t):Binds K t.nO ["t"] []:=T.mJ.binds fun _ _ _ _ _ _ us hl=>match us,hl with | [_],_=>rfl
def DP:x8:=fun ds M Q=> ∃ a b c:Pl,ds= [tD [a,b,c]]∧∀ p,M p=none→Q (.ref p) (av M p (.lst ([[a,b,c],[b,c,a],[c,a,b]].map tD)))
theorem ua (T:Txt K mg t):cE P w K mg base iF 1 t.qM t.nO ["t"] (AI K DP):=by
 refine B8 T.mJ Bk (fun ds M Q h=>by (first | (obtain ⟨_,rfl,_⟩:=h;rfl) | (obtain ⟨_,_,rfl,_⟩:=h;rfl) | (obtain ⟨_,_,_,rfl,_⟩:=h;rfl) | (obtain ⟨_,_,_,_,rfl,_⟩:=h;rfl) | (obtain ⟨_,_,_,_,_,rfl,_⟩:=h;rfl) | (obtain ⟨_,_,_,_,_,_,rfl,_⟩:=h;rfl) | (obtain ⟨_,_,_,_,_,_,_,rfl,_⟩:=h;rfl))) (fun cdv A outer s H hr=>?_)
 have hu:=hr.units
 refine ⟨_,(aC (aN (dG (aa (cH (aa (aP (af 0) ai) (aa (aP (af 0) ai) (aa (aP (af 0) ai) ao)))) (aa (cH (aa (aP (af 0) ai) (aa (aP (af 0) ai) (aa (aP (af 0) ai) ao)))) (aa (cH (aa (aP (af 0) ai) (aa (aP (af 0) ai) (aa (aP (af 0) ai) ao)))) ao)))))),fun ds M Q h=>?_⟩
 obtain ⟨a,b,c,rfl,h⟩:=h
 walk_at "rd"
 intro p hp
 exact bY.mk ⟨_,Le.refl _,h p hp⟩
theorem mP (T:Txt K mg t):Binds K t.dW ["cover"] []:=T.eS.binds fun _ _ _ _ _ _ us hl=>match us,hl with | [_],_=>rfl
def nW:x8:=fun ds M Q=> ∃ l:Addr,ds= [.ref l]∧∃ ts:List (List Pl),M l=some (.lst (ts.map tD))∧(∀ t∈ts,Tr t)∧ts.length≤200∧∀ p,M p=none→Q (.ref p) (av M p (.lst ((aK ts).map tD)))
theorem mQ (T:Txt K mg t):cE P w K mg base iF 2 t.eK t.dW ["cover"] (AI K nW):=by
 refine B8 T.eS er (fun ds M Q h=>by (first | (obtain ⟨_,rfl,_⟩:=h;rfl) | (obtain ⟨_,_,rfl,_⟩:=h;rfl) | (obtain ⟨_,_,_,rfl,_⟩:=h;rfl) | (obtain ⟨_,_,_,_,rfl,_⟩:=h;rfl) | (obtain ⟨_,_,_,_,_,rfl,_⟩:=h;rfl) | (obtain ⟨_,_,_,_,_,_,rfl,_⟩:=h;rfl) | (obtain ⟨_,_,_,_,_,_,_,rfl,_⟩:=h;rfl))) (fun cdv A outer s H hr=>?_)
 have hu:=hr.units
 refine ⟨_,(au (aW (i:=1) er.nd rfl (Or.inl rfl) (dG ao))
  (au (uG PassesOwn.never rfl (af 0) (bI (i:=2) er.nd rfl (Or.inl rfl)) (aC (uE (K0 (af 1) (qc (gI (ys:=[]) (fs:=[]) rfl (by show bO (aq bX) ["cover","ways","t"] _ _ _ _=true;decide +kernel) (dg (ua T) (hr.mono (by decide)) (by rfl) T.xw T.mJ.kp (t9 T) (aa (af 2) ao)) (fun cl C s0 H0 ex=>Cn) (fun cl C s0 H0 ex=>(cH (aa (aP (af 0) ai) (aa (aP (af 0) ai) ao)))))) (BK PySem.F.plainAttrs_list PySem.F.slot_list_extend PySem.F.type_list_extend AE (cG.dn (af 1)) (o4 (cG.dn (qc (gI (ys:=[]) (fs:=[]) rfl (by show bO (aq bX) ["cover","ways","t"] _ _ _ _=true;decide +kernel) (dg (ua T) (hr.mono (by decide)) (by rfl) T.xw T.mJ.kp (t9 T) (aa (af 2) ao)) (fun cl C s0 H0 ex=>Cn) (fun cl C s0 H0 ex=>(cH (aa (aP (af 0) ai) (aa (aP (af 0) ai) ao))))))) uq))))))
  (aC (aN (af 1))))),fun ds M Q h=>?_⟩
 obtain ⟨l,rfl,ts,hM,hts,Sq,h⟩:=h
 have sl:(1000:Nat) < sizeLine:=by decide
 walk_at "rd"
 intro p hp
 have Rm:l≠p:=fun z=>by rw [← z,hM] at hp;cases hp
 walk_at "rd"
 refine ⟨l,_,rfl,aj hM hp,?_⟩
 refine cg (fun i ρ M'=>(∃ y:Option L3.D,ρ= [some (.ref l),some (.ref p),y])∧M' l=some (.lst (ts.map tD))∧M' p=some (.lst ((aK (ts.take i)).map tD))∧Le M M') _ ?_ ?_ ⟨⟨_,rfl⟩,aj hM hp,ah,Le.new hp⟩
 ·rintro i x ρ M' N hx ⟨⟨y,rfl⟩,hM,hP,le⟩ hN
  obtain ⟨t,ht,rfl⟩:=dU hx
  obtain ⟨a,b,c,rfl,oa,ob,oc⟩:=hts t (TM ht)
  refine ⟨hM,?_⟩
  walk_at "rd"
  refine ⟨⟨p,_,rfl,hP⟩,?_⟩
  refine ⟨_,rfl,?_⟩
  refine ⟨a,b,c,rfl,fun q hq=>?_⟩
  have hM:=aj (u:=MO.lst ([[a,b,c],[b,c,a],[c,a,b]].map tD)) hM hq
  have hP:=aj (u:=MO.lst ([[a,b,c],[b,c,a],[c,a,b]].map tD)) hP hq
  have le:=le.trans (Le.new (o:=MO.lst ([[a,b,c],[b,c,a],[c,a,b]].map tD)) hq)
  have hQ:av M' q (.lst ([[a,b,c],[b,c,a],[c,a,b]].map tD)) q=some (.lst ([[a,b,c],[b,c,a],[c,a,b]].map tD)):=ah
  generalize av M' q (.lst ([[a,b,c],[b,c,a],[c,a,b]].map tD))=M2 at hM hP hQ le ⊢
  refine ⟨q,_,rfl,hQ,by show 3 < sizeLine;omega,bY.mk (bM (fun j acc M4=>M4=M2∧acc=(([[a,b],[b,c],[c,a]].take j)).map tD) _ ?_ ?_ ⟨rfl,rfl⟩)⟩
  ·rintro j d acc M4 N2 oW ⟨rfl,rfl⟩ kG
   obtain ⟨u,jo,rfl⟩:=dU oW
   have hj:j < 3:=(T9.mp jo).1
   have hj:j=0∨j=1∨j=2:=by omega
   refine ⟨hQ,?_⟩
   rcases hj with rfl | rfl | rfl
   ·cases jo
    walk_at "rd"
    exact kG _ _ ⟨rfl,rfl⟩
   ·cases jo
    walk_at "rd"
    exact kG _ _ ⟨rfl,rfl⟩
   ·cases jo
    walk_at "rd"
    exact kG _ _ ⟨rfl,rfl⟩
  ·rintro acc M4 ⟨rfl,hacc⟩
   have hacc:acc= [[a,b],[b,c],[c,a]].map tD:=hacc
   subst hacc
   refine ⟨hQ,fun u jo=>?_⟩
   have ld:=jQ (ts.take i)
   rw [Uy] at ld
   have Ss:u≠p:=fun z=>by rw [z,hP] at jo;cases jo
   refine ⟨p,u,_,_,rfl,rfl,aj hP jo,ah,by rw [To];show _+3≤sizeLine;omega,?_⟩
   refine hN _ _ ⟨⟨_,rfl⟩,?_,?_,fun x o e=>?_⟩
   ·rw [aZ Rm]
    exact aj hM jo
   ·rw [ah,tQ ht,T5]
    rfl
   ·rw [aZ (fun z=>by rw [z,hp] at e;cases e)]
    exact aj (le _ _ e) jo
 ·rintro ρ M' ⟨⟨y,rfl⟩,hM,hP,le⟩
  refine ⟨hM,?_⟩
  walk_at "rd"
  rw [To,Uk] at hP
  refine bY.mk ⟨av M p (.lst ((aK ts).map tD)),fun b o e=>?_,h p hp⟩
  by_cases hb:b=p
  ·subst hb
   rw [ah] at e
   rw [hP]
   exact e
  ·rw [aZ hb] at e
   exact le _ _ e
theorem jj (T:Txt K mg t):Binds K t.fF ["line"] []:=T.dY.binds fun _ _ _ _ _ _ us hl=>match us,hl with | [_],_=>rfl
def qX:x8:=fun ds M Q=> ∃ (l:Addr) (ps:List Pl),ds= [.ref l]∧M l=some (.lst (ps.map Pl.d))∧ps.length≤1000∧(∀ q∈ps,q.Ok 140)∧∀ p,M p=none→Q (.ref p) (av M p (.lst ((ps.foldl aI []).reverse.map Pl.d)))
theorem jk (T:Txt K mg t):cE P w K mg base iF 3 t.gC t.fF ["line"] (AI K qX):=by
 refine B8 T.dY fJ (fun ds M Q h=>by (first | (obtain ⟨_,rfl,_⟩:=h;rfl) | (obtain ⟨_,_,rfl,_⟩:=h;rfl) | (obtain ⟨_,_,_,rfl,_⟩:=h;rfl) | (obtain ⟨_,_,_,_,rfl,_⟩:=h;rfl) | (obtain ⟨_,_,_,_,_,rfl,_⟩:=h;rfl) | (obtain ⟨_,_,_,_,_,_,rfl,_⟩:=h;rfl) | (obtain ⟨_,_,_,_,_,_,_,rfl,_⟩:=h;rfl))) (fun cdv A outer s H hr=>?_)
 have hu:=hr.units
 refine ⟨_,(au (aW (i:=1) fJ.nd rfl (Or.inl rfl) (dG ao))
  (au (uG PassesOwn.never rfl (af 0) (bI (i:=2) fJ.nd rfl (Or.inl rfl)) (au (EA PassesOwn.never (sP.pt (Gb (aT Ho (b9 kL (by rfl) T.iC cA (aa (af 1) ao)) ai (aL _)) (BU (aT (pO hu) (aF (kC T) (hr.mono (by decide)) (by rfl) T.nR T.jZ.kp (kB T) (aa (aP (af 1) (dO ai)) (aa (aP (af 1) (dO ai)) (aa (af 2) ao)))) (dO ai) (aL _))))) (aC (uE (KU (af 1) (Hf PySem.F.plainAttrs_list PySem.F.slot_list_pop PySem.F.type_list_pop Hh (cG.dn (af 1)))))))
  (aC (uE (Gg (af 1) (af 2) (BK PySem.F.plainAttrs_list PySem.F.slot_list_append PySem.F.type_list_append mW (cG.dn (af 1)) (o4 (cG.dn (af 2)) uq)))))))
  (aC (aN (af 1))))),fun ds M Q h=>?_⟩
 obtain ⟨l,ps,rfl,hM,hlen,ho,h⟩:=h
 walk_at "rd"
 intro p hp
 have hl:∀ o,av M p o l=some (.lst (ps.map Pl.d)):=fun o=>aj hM hp
 walk_at "rd"
 refine ⟨l,_,rfl,hl _,?_⟩
 refine cg (fun i ρ M'=>M'=av M p (.lst (((ps.take i).foldl aI []).reverse.map Pl.d))∧∃ y:Option L3.D,ρ= [some (.ref l),some (.ref p),y]) _ ?_ ?_ ⟨rfl,_,rfl⟩
 ·rintro i x ρ M' N hx ⟨rfl,y,rfl⟩ hN
  obtain ⟨d,hd,rfl⟩:=uL hx
  have od:=ho d (TM hd)
  have Rn:∀ q∈(ps.take i).foldl aI [],q.Ok 140:=fun q hq=>ho q (UK (ni _ q hq))
  have lst:=eF (ps.take i)
  have eN:=yq hd
  have lt:(ps.take i).length≤1000:=by rw [Uy];omega
  generalize hst:(ps.take i).foldl aI []=st at *
  refine ⟨hl _,?_⟩
  walk_at "rd"
  refine ⟨fun m ρ M'=> ∃ st':List Pl,M'=av M p (.lst (st'.reverse.map Pl.d))∧ρ= [some (.ref l),some (.ref p),some d.d]∧m=st'.length∧iO st' d=iO st d∧(∀ q∈st',q.Ok 140)∧st'.length≤1000,⟨_,st,rfl,rfl,rfl,rfl,Rn,by omega⟩,?_⟩
  rintro m ρ M' ⟨st',rfl,rfl,rfl,ep,os,ls⟩
  walk_at "rd"
  refine ⟨_,_,rfl,.inr (.inr ⟨p,rfl,ah⟩),?_⟩
  walk_at "rd"
  rw [To,Ua]
  refine fL (fun c=>?_) (fun c=>?_)
  ·have c:(1:Int) < (st'.length:Int):=of_decide_eq_true c
   obtain ⟨b,a,r,rfl⟩:∃ b a r,st'=b :: a :: r:=by
    match st',c with
    | b :: a :: r,_=>exact ⟨b,a,r,rfl⟩
    | [x],c=>exact absurd c (by show ¬ (1:Int) < 1;decide)
    | [],c=>exact absurd c (by decide)
   walk_at "rd"
   refine ⟨_,_,a.d,.inr (.inr ⟨p,rfl,ah⟩),rfl,A0 b a r,?_⟩
   walk_at "rd"
   refine ⟨_,_,b.d,.inr (.inr ⟨p,rfl,ah⟩),rfl,AZ b _,?_⟩
   walk_at "rd"
   refine ⟨os a (by simp),os b (by simp),od,?_⟩
   walk_at "rd"
   rw [dQ]
   refine fL (fun k=>?_) (fun k=>?_)
   ·have k:=eq_of_beq k
    have k:tw a b d < 0:=VW.mp k
    walk_at "rd"
    refine ⟨p,_,b.d,rfl,by rw [UE,T5];exact ah,?_⟩
    rw [lH]
    exact bY.mk ⟨_,VJ _,a :: r,rfl,rfl,rfl,by rw [← ep,CJ k],fun q hq=>os q (Tn _ hq),by simp only [Ug] at ls ⊢;omega⟩
   ·have k:¬ tw a b d < 0:=fun z=>k (by rw [US z];rfl)
    have ez:=CK (r:=r) k
    generalize b :: a :: r=st' at *
    walk_at "rd"
    refine ⟨⟨p,_,rfl,ah⟩,?_⟩
    walk_at "rd"
    refine ⟨p,_,rfl,ah,?_,?_⟩
    ·rw [To,Ua]
     have:(1000:Nat) < sizeLine:=by decide
     omega
    ·rw [lH]
     refine hN _ _ ⟨?_,_,rfl⟩
     have e:aI st d=d :: st':=by
      show d :: iO st d=_
      rw [← ep,ez]
     rw [eN,e,UE,T5]
     rfl
  ·have c:¬ (1:Int) < (st'.length:Int):=fun z=>c (decide_eq_true z)
   have ez:iO st' d=st':=by
    match st',c with
    | [],_=>rfl
    | [_],_=>rfl
    | b :: a :: r,c=>exact absurd (show (1:Int) < ((b :: a :: r).length:Int) by simp only [Ug];omega) c
   walk_at "rd"
   refine ⟨⟨p,_,rfl,ah⟩,?_⟩
   walk_at "rd"
   refine ⟨p,_,rfl,ah,?_,?_⟩
   ·rw [To,Ua]
    have:(1000:Nat) < sizeLine:=by decide
    omega
   ·rw [lH]
    refine hN _ _ ⟨?_,_,rfl⟩
    have e:aI st d=d :: st':=by
     show d :: iO st d=_
     rw [← ep,ez]
    rw [eN,e,UE,T5]
    rfl
 ·rintro ρ M' ⟨rfl,y,rfl⟩
  refine ⟨hl _,?_⟩
  walk_at "rd"
  refine bY.mk ⟨_,Le.refl _,?_⟩
  rw [To,Uk]
  exact h p hp
theorem yY (T:Txt K mg t):Binds K t.lF ["places"] []:=T.nT.binds fun _ _ _ _ _ _ us hl=>match us,hl with | [_],_=>rfl
def Bo:x8:=fun ds M Q=> ∃ (l:Addr) (ps:List Pl),ds= [.ref l]∧M l=some (.lst (ps.map Pl.d))∧ps.length < 64∧(∀ q∈ps,q.Ok 140)∧∀ (p:Addr) (qs:List Pl),M p=none→qs.Perm ps→qs.Pairwise (fun p q=> ¬ aG q p)→Q (.ref p) (av M p (.lst ((br qs).map Pl.d)))
theorem yZ (T:Txt K mg t):cE P w K mg base iF 4 t.nP t.lF ["places"] (AI K Bo):=by
 refine B8 T.nT jh (fun ds M Q h=>by (first | (obtain ⟨_,rfl,_⟩:=h;rfl) | (obtain ⟨_,_,rfl,_⟩:=h;rfl) | (obtain ⟨_,_,_,rfl,_⟩:=h;rfl) | (obtain ⟨_,_,_,_,rfl,_⟩:=h;rfl) | (obtain ⟨_,_,_,_,_,rfl,_⟩:=h;rfl) | (obtain ⟨_,_,_,_,_,_,rfl,_⟩:=h;rfl) | (obtain ⟨_,_,_,_,_,_,_,rfl,_⟩:=h;rfl))) (fun cdv A outer s H hr=>?_)
 have hu:=hr.units
 refine ⟨_,(au (aW (i:=1) jh.nd rfl (Or.inl rfl) (b9 p9 (by rfl) T.dJ bQ (aa (af 0) ao)))
  (au (cY (aT (lQ hu) (b9 kL (by rfl) T.iC cA (aa (af 1) ao)) ai (aL _)) (aC (aN (af 1))) bK)
  (au (aW (i:=2) jh.nd rfl (Or.inl rfl) (dg (jk T) (hr.mono (by decide)) (by rfl) T.j0 T.dY.kp (jj T) (aa (af 1) ao)))
  (au (aW (i:=3) jh.nd rfl (Or.inl rfl) (dg (jk T) (hr.mono (by decide)) (by rfl) T.j0 T.dY.kp (jj T) (aa (tL (by rfl) (by rfl) T.ku (by rfl) T.oH (af 1)) ao)))
  (aC (aN (az tH (fj (af 2) wz (jJ (dO ai))) (fj (af 3) wz (jJ (dO ai)))))))))),fun ds M Q h=>?_⟩
 obtain ⟨l,ps,rfl,hM,h64,ho,h⟩:=h
 walk_at "rd"
 refine ⟨l,ps,rfl,hM,h64,fun p qs hp cJ kR=>?_⟩
 have oq:∀ q∈qs,q.Ok 140:=fun q hq=>ho q (cJ.mem_iff.mp hq)
 have lq:qs.length < 64:=by rw [cJ.length_eq];exact h64
 walk_at "rd"
 refine ⟨_,_,rfl,.inr (.inr ⟨p,rfl,ah⟩),?_⟩
 walk_at "rd"
 rw [To]
 refine fL (fun c=>?_) (fun c=>?_)
 ·have c:(qs.length:Int) < 2:=of_decide_eq_true c
  have e:br qs=qs:=by unfold br;rw [if_pos (by omega)]
  have q:=h p qs hp cJ kR
  rw [e] at q
  walk_at "rd"
  exact bY.mk ⟨_,Le.refl _,q⟩
 ·have c:¬ (qs.length:Int) < 2:=fun z=>c (decide_eq_true z)
  have h':∀ r,M r=none→Q (.ref r) (av M r (.lst ((br qs).map Pl.d))):=fun r hr=>h r qs hr cJ kR
  walk_at "rd"
  refine ⟨p,qs,rfl,ah,by omega,oq,fun p1 hp1=>?_⟩
  walk_at "rd"
  have e:br qs=(qs.foldl aI []).reverse.dropLast ++ (qs.reverse.foldl aI []).reverse.dropLast:=by unfold br;rw [if_neg (by omega)]
  rw [e] at h'
  have lt:(qs.foldl aI []).reverse.length≤64:=by
   have:=eF qs
   rw [Ua];omega
  have lh:(qs.reverse.foldl aI []).reverse.length≤64:=by
   have:=eF qs.reverse
   rw [Ua] at this ⊢;omega
  generalize (qs.foldl aI []).reverse=th at *
  have hQ:av (av M p (.lst (qs.map Pl.d))) p1 (.lst (th.map Pl.d)) p=some (.lst (qs.map Pl.d)):=aj ah hp1
  have hT:av (av M p (.lst (qs.map Pl.d))) p1 (.lst (th.map Pl.d)) p1=some (.lst (th.map Pl.d)):=ah
  have le:=(Le.new (o:= .lst (qs.map Pl.d)) hp).trans (Le.new (o:= .lst (th.map Pl.d)) hp1)
  generalize av (av M p (.lst (qs.map Pl.d))) p1 (.lst (th.map Pl.d))=M2 at hQ hT le ⊢
  refine ⟨_,.of hQ,fun p2 hp2=>?_⟩
  rw [← WS]
  have hT2:=aj (u:=MO.lst (qs.reverse.map Pl.d)) hT hp2
  have Lr:=le.trans (Le.new (o:= .lst (qs.reverse.map Pl.d)) hp2)
  have hR:av M2 p2 (.lst (qs.reverse.map Pl.d)) p2=some (.lst (qs.reverse.map Pl.d)):=ah
  generalize av M2 p2 (.lst (qs.reverse.map Pl.d))=M3 at hT2 Lr hR ⊢
  refine ⟨p2,qs.reverse,rfl,hR,by rw [Ua];omega,fun q hq=>oq q (Us.mp hq),fun p3 hp3=>?_⟩
  have Su:th.length≤64:=by omega
  generalize (qs.reverse.foldl aI []).reverse=hm at *
  have Po:=aj (u:=MO.lst (hm.map Pl.d)) hT2 hp3
  have GC:=Lr.trans (Le.new (o:= .lst (hm.map Pl.d)) hp3)
  have hH:av M3 p3 (.lst (hm.map Pl.d)) p3=some (.lst (hm.map Pl.d)):=ah
  generalize av M3 p3 (.lst (hm.map Pl.d))=M4 at Po GC hH ⊢
  walk_at "rd"
  refine ⟨_,.of Po,fun p4 LV=>?_⟩
  rw [wK]
  have Pp:=aj (u:=MO.lst (th.dropLast.map Pl.d)) hH LV
  have Ls:=GC.trans (Le.new (o:= .lst (th.dropLast.map Pl.d)) LV)
  have hA:av M4 p4 (.lst (th.dropLast.map Pl.d)) p4=some (.lst (th.dropLast.map Pl.d)):=ah
  generalize av M4 p4 (.lst (th.dropLast.map Pl.d))=M5 at Pp Ls hA ⊢
  walk_at "rd"
  refine ⟨_,.of Pp,fun p5 Pq=>?_⟩
  rw [wK]
  have Pu:=aj (u:=MO.lst (hm.dropLast.map Pl.d)) hA Pq
  have Oq:=Ls.trans (Le.new (o:= .lst (hm.dropLast.map Pl.d)) Pq)
  have hB:av M5 p5 (.lst (hm.dropLast.map Pl.d)) p5=some (.lst (hm.dropLast.map Pl.d)):=ah
  generalize av M5 p5 (.lst (hm.dropLast.map Pl.d))=M6 at Pu Oq hB ⊢
  refine ⟨p4,p5,_,_,rfl,rfl,Pu,hB,?_,fun p6 Ro=>?_⟩
  ·rw [To,To,UB,UB]
   have:(1000:Nat) < sizeLine:=by decide
   omega
  ·rw [← T5]
   exact bY.mk ⟨_,Oq.put,h' p6 (Oq.free Ro)⟩
theorem nX (T:Txt K mg t):Binds K t.eL ["places"] []:=T.fH.binds fun _ _ _ _ _ _ us hl=>match us,hl with | [_],_=>rfl
def oX:x8:=fun ds M Q=> ∃ (l:Addr) (ps:List Pl),ds= [.ref l]∧M l=some (.lst (ps.map Pl.d))∧ps.length < 64∧(∀ q∈ps,q.Ok 140)∧∀ (p:Addr) (qs:List Pl),M p=none→qs.Perm ps→qs.Pairwise (fun p q=> ¬ aG q p)→Q (.ref p) (av M p (.lst ((aV (br qs)).map tD)))
theorem nY (T:Txt K mg t):cE P w K mg base iF 5 t.fG t.eL ["places"] (AI K oX):=by
 refine B8 T.fH iS (fun ds M Q h=>by (first | (obtain ⟨_,rfl,_⟩:=h;rfl) | (obtain ⟨_,_,rfl,_⟩:=h;rfl) | (obtain ⟨_,_,_,rfl,_⟩:=h;rfl) | (obtain ⟨_,_,_,_,rfl,_⟩:=h;rfl) | (obtain ⟨_,_,_,_,_,rfl,_⟩:=h;rfl) | (obtain ⟨_,_,_,_,_,_,rfl,_⟩:=h;rfl) | (obtain ⟨_,_,_,_,_,_,_,rfl,_⟩:=h;rfl))) (fun cdv A outer s H hr=>?_)
 have hu:=hr.units
 refine ⟨_,(au (aW (i:=1) iS.nd rfl (Or.inl rfl) (dg (yZ T) (hr.mono (by decide)) (by rfl) T.Bj T.nT.kp (yY T) (aa (af 0) ao)))
  (au (cY (aT (lQ hu) (b9 kL (by rfl) T.iC cA (aa (af 1) ao)) ai (aL _)) (aC (aN (dG ao))) bK)
  (aC (aN (AX (by rfl) (by rfl) T.ku (by rfl) T.IK (aa (af 1) (aa (az tH (fj (af 1) (jJ ai) wz) (fj (af 1) wz (jJ ai))) ao))))))),fun ds M Q h=>?_⟩
 obtain ⟨l,ps,rfl,hM,h64,ho,h⟩:=h
 walk_at "rd"
 refine ⟨l,ps,rfl,hM,h64,ho,fun p qs hp cJ kR=>?_⟩
 have h':∀ r,M r=none→Q (.ref r) (av M r (.lst ((aV (br qs)).map tD))):=fun r hr=>h r qs hr cJ kR
 have lo:(br qs).length≤200:=by
  have l1:=eF qs
  have l2:=eF qs.reverse
  have l3:=cJ.length_eq
  rw [Ua] at l2
  unfold br
  split
  ·omega
  ·rw [TL,UB,UB,Ua,Ua]
   omega
 generalize br qs=bd at *
 walk_at "rd"
 refine ⟨_,_,rfl,.inr (.inr ⟨p,rfl,ah⟩),?_⟩
 walk_at "rd"
 rw [To]
 refine fL (fun c=>?_) (fun c=>?_)
 ·have c:(bd.length:Int) < 2:=of_decide_eq_true c
  walk_at "rd"
  intro r hr
  have q:=h' r ((Le.new hp).free hr)
  unfold aV at q
  rw [if_pos (by omega)] at q
  exact bY.mk ⟨_,(Le.new hp).put,q⟩
 ·have c:¬ (bd.length:Int) < 2:=fun z=>c (decide_eq_true z)
  walk_at "rd"
  have le:=Le.new (o:= .lst (bd.map Pl.d)) hp
  have hB:av M p (.lst (bd.map Pl.d)) p=some (.lst (bd.map Pl.d)):=ah
  generalize av M p (.lst (bd.map Pl.d))=M1 at hB le ⊢
  refine ⟨_,.of hB,fun p1 hp1=>?_⟩
  have Rp:cutD (bd.map Pl.d) (some 1) none=(bd.drop 1).map Pl.d:=wA Pl.d bd 1 (by omega)
  have Rq:cutD (bd.map Pl.d) none (some 1)=(bd.take 1).map Pl.d:=l7 Pl.d bd 1 (by omega)
  rw [Rp]
  have Ot:=aj (u:=MO.lst ((bd.drop 1).map Pl.d)) hB hp1
  have Pw:=le.trans (Le.new (o:= .lst ((bd.drop 1).map Pl.d)) hp1)
  have hA:av M1 p1 (.lst ((bd.drop 1).map Pl.d)) p1=some (.lst ((bd.drop 1).map Pl.d)):=ah
  generalize av M1 p1 (.lst ((bd.drop 1).map Pl.d))=M2 at Ot Pw hA ⊢
  walk_at "rd"
  refine ⟨_,.of Ot,fun p2 hp2=>?_⟩
  rw [Rq]
  have hB2:=aj (u:=MO.lst ((bd.take 1).map Pl.d)) Ot hp2
  have Px:=aj (u:=MO.lst ((bd.take 1).map Pl.d)) hA hp2
  have Lr:=Pw.trans (Le.new (o:= .lst ((bd.take 1).map Pl.d)) hp2)
  have hC:av M2 p2 (.lst ((bd.take 1).map Pl.d)) p2=some (.lst ((bd.take 1).map Pl.d)):=ah
  generalize av M2 p2 (.lst ((bd.take 1).map Pl.d))=M3 at hB2 Px Lr hC ⊢
  refine ⟨p1,p2,_,_,rfl,rfl,Px,hC,?_,fun p3 hp3=>?_⟩
  ·rw [To,To,UL,Uy]
   have:(1000:Nat) < sizeLine:=by decide
   omega
  rw [← T5]
  have Py:=aj (u:=MO.lst ((bd.drop 1 ++ bd.take 1).map Pl.d)) hB2 hp3
  have GC:=Lr.trans (Le.new (o:= .lst ((bd.drop 1 ++ bd.take 1).map Pl.d)) hp3)
  have hE:av M3 p3 (.lst ((bd.drop 1 ++ bd.take 1).map Pl.d)) p3=some (.lst ((bd.drop 1 ++ bd.take 1).map Pl.d)):=ah
  generalize av M3 p3 (.lst ((bd.drop 1 ++ bd.take 1).map Pl.d))=M4 at Py GC hE ⊢
  refine ⟨p,p3,_,_,rfl,Py,hE,fun p4 LV=>?_⟩
  have q:=h' p4 (GC.free LV)
  unfold aV at q
  rw [if_neg (by omega)] at q
  have ez:=tO bd (bd.drop 1 ++ bd.take 1)
  rw [show ((List.zipWith (fun p q=>[p,q]) bd (bd.drop 1 ++ bd.take 1)).map tD)=_ from ez] at q
  exact bY.mk ⟨_,GC.put,q⟩
theorem sC (T:Txt K mg t):Binds K t.gY ["places","fallen","p"] []:=T.jg.binds fun _ _ _ _ _ _ us hl=>match us,hl with | [_,_,_],_=>rfl
theorem uc {w:List Pl}:∀ {as bs:List Pl},w∈List.zipWith (fun p q=>[p,q]) as bs→∃ a∈as,∃ b∈bs,w= [a,b]
 | [],_,h=>by simp at h
 | a :: as,[],h=>by simp at h
 | a :: as,b :: bs,h=>by
   rw [List.zipWith_cons_cons] at h
   rcases Tp.mp h with h | h
   ·exact ⟨a,by simp,b,by simp,h⟩
   ·obtain ⟨x,hx,y,hy,e⟩:=uc h
    exact ⟨x,Tn _ hx,y,Tn _ hy,e⟩
theorem qY {qs:List Pl} {q:Pl} (h:q∈br qs):q∈qs:=by
 unfold br at h
 split at h
 ·exact h
 ·rcases TU.mp h with h | h
  ·exact ni qs q (Us.mp (WA _ h))
  ·exact Us.mp (ni _ q (Us.mp (WA _ h)))
theorem oJ {qs w:List Pl} (h:w∈aV (br qs)):∃ a b,w= [a,b]∧a∈qs∧b∈qs:=by
 unfold aV at h
 split at h
 ·cases h
 ·obtain ⟨a,ha,b,hb,e⟩:=uc h
  refine ⟨a,b,e,qY ha,qY ?_⟩
  rcases TU.mp hb with hb | hb
  ·exact Wz hb
  ·exact UK hb
theorem oK (qs:List Pl):(aV (br qs)).length≤2*qs.length:=by
 have l1:=eF qs
 have l2:=eF qs.reverse
 rw [Ua] at l2
 have:(br qs).length≤2*qs.length:=by
  unfold br
  split
  ·omega
  ·rw [TL,UB,UB,Ua,Ua]
   omega
 unfold aV
 split
 ·exact UD _
 ·rw [Vt]
  omega
def vL:x8:=fun ds M Q=> ∃ (l f:Addr) (p:Pl),ds= [.ref l,.ref f,p.d]∧∃ (ps:List Pl) (fs:List (List Pl)),M l=some (.lst (ps.map Pl.d))∧M f=some (.lst (fs.map tD))∧ps.length < 64∧(∀ q∈ps,q.Ok 140)∧p.Ok 140∧(∀ t∈fs,Tr t)∧fs.length≤60∧∀ (r:Addr) (qs:List Pl) (M':Mp),Le M M'→qs.Perm ps→qs.Pairwise (fun p q=> ¬ aG q p)→M' r=some (.lst (((aK fs ++ ((aV (br qs)).filter (iR p)).map lE).filter (fun w=>decide (lE w∉aK fs ++ ((aV (br qs)).filter (iR p)).map lE))).map tD))→Q (.ref r) M'
theorem sD (T:Txt K mg t):cE P w K mg base iF 6 t.jc t.gY ["places","fallen","p"] (AI K vL):=by
 refine B8 T.jg iD (fun ds M Q h=>by (first | (obtain ⟨_,rfl,_⟩:=h;rfl) | (obtain ⟨_,_,rfl,_⟩:=h;rfl) | (obtain ⟨_,_,_,rfl,_⟩:=h;rfl) | (obtain ⟨_,_,_,_,rfl,_⟩:=h;rfl) | (obtain ⟨_,_,_,_,_,rfl,_⟩:=h;rfl) | (obtain ⟨_,_,_,_,_,_,rfl,_⟩:=h;rfl) | (obtain ⟨_,_,_,_,_,_,_,rfl,_⟩:=h;rfl))) (fun cdv A outer s H hr=>?_)
 have hu:=hr.units
 refine ⟨_,(au (HU (j:=3) (gI (ys:=["p"]) (fs:=[2]) rfl (by show bO (aq dN) ["places","fallen","p","seen","ways"] _ _ _ _=true;decide +kernel) (dg (nY T) (hr.mono (by decide)) (by rfl) T.oV T.fH.kp (nX T) (aa (af 0) ao)) (fun cl C s0 H0 ex=>jI (aT (pO hu) (aF (kC T) (hr.mono (by decide)) (by rfl) T.nR T.jZ.kp (kB T) (aa (aP (af 0) ai) (aa (aP (af 0) ai) (aa (af 1) ao)))) (dO ai) (aL _))) (fun cl C s0 H0 ex=>(aF (Ak T) (hr.mono (by decide)) (by rfl) T.DM T.vB.kp (Aj T) (aa (af 0) ao)))) iD.nd rfl (Or.inl rfl))
  (au (aW (i:=4) iD.nd rfl (Or.inr rfl) (az tH (dg (mQ T) (hr.mono (by decide)) (by rfl) T.nS T.eS.kp (mP T) (aa (af 1) ao)) (af 3)))
  (aC (aN (qc (gI (ys:=["ways"]) (fs:=[4]) rfl (by show bO (aq dN) ["places","fallen","p","seen","ways"] _ _ _ _=true;decide +kernel) (af 4) (fun cl C s0 H0 ex=>jI (aT (j8 hu) (aF (Ak T) (hr.mono (by decide)) (by rfl) T.DM T.vB.kp (Aj T) (aa (af 0) ao)) (af 1) (by with_unfolding_all rfl))) (fun cl C s0 H0 ex=>(af 0)))))))),fun ds M Q h=>?_⟩
 obtain ⟨l,f,p,rfl,ps,fs,hM,hF,lp,ho,op,hT,lf,h⟩:=h
 have sl:(1000:Nat) < sizeLine:=by decide
 walk_at "rd"
 refine ⟨l,ps,rfl,hM,lp,ho,fun o qs ho' cJ hso=>?_⟩
 have two:∀ w∈aV (br qs),∃ a b,w= [a,b]∧a∈qs∧b∈qs:=fun w hw=>oJ hw
 have ls:(aV (br qs)).length≤200:=by
  have:=oK qs
  have:=cJ.length_eq
  omega
 have hO:av M o (.lst ((aV (br qs)).map tD)) o=some (.lst ((aV (br qs)).map tD)):=ah
 have hF:=aj (u:=MO.lst ((aV (br qs)).map tD)) hF ho'
 have le:=Le.new (o:=MO.lst ((aV (br qs)).map tD)) ho'
 generalize av M o (.lst ((aV (br qs)).map tD))=M1 at hO hF le ⊢
 have hh:=h
 replace h:=fun (r:Addr) (M':Mp) (le:Le M M') hR=>hh r qs M' le cJ hso hR
 clear hh
 generalize aV (br qs)=bs at *
 walk_at "rd"
 refine ⟨o,_,rfl,hO,by rw [To];omega,bY.mk (bM (fun j acc M4=>M4=M1∧acc=(((bs.take j).filter (iR p)).map lE).map tD) _ ?_ ?_ ⟨rfl,rfl⟩)⟩
 ·rintro j x acc M4 N2 oW ⟨rfl,rfl⟩ kG
  obtain ⟨w,hw,rfl⟩:=dU oW
  obtain ⟨a,b,rfl,ha,hb⟩:=two w (TM hw)
  refine ⟨hO,?_⟩
  walk_at "rd"
  refine ⟨ho a (cJ.mem_iff.mp ha),ho b (cJ.mem_iff.mp hb),op,?_⟩
  walk_at "rd"
  have eb:L3.dM (.int (tw a b p).sign) (.int (-1))=iR p [a,b]:=by
   rw [dQ,Uo]
   unfold iR
   rw [decide_eq_true_eq,beq_iff_eq]
   exact VW
  rw [eb]
  cases e:iR p [a,b] with
  | true=>
    walk_at "rd"
    refine kG _ _ ⟨rfl,?_⟩
    rw [bu hw,if_pos e,T5,T5]
    rfl
  | false=>
    walk_at "rd"
    refine kG _ _ ⟨rfl,?_⟩
    rw [bu hw,if_neg (by rw [e];simp),UR]
 rintro acc M4 ⟨rfl,hacc⟩
 rw [To,Uk] at hacc
 subst hacc
 refine ⟨hO,fun r hr=>?_⟩
 have Sv:((bs.filter (iR p)).map lE).length≤200:=by rw [To];exact UI (U8 _ _) ls
 have Rr:∀ w∈(bs.filter (iR p)).map lE,∃ a b:Pl,w= [a,b]:=fun w hw=>by
  obtain ⟨v,hv,rfl⟩:=TV.mp hw
  obtain ⟨a,b,rfl,_⟩:=two v (Tu.mp hv).1
  exact ⟨b,a,rfl⟩
 generalize (bs.filter (iR p)).map lE=se at *
 have hS:av M4 r (.lst (se.map tD)) r=some (.lst (se.map tD)):=ah
 have hF:=aj (u:=MO.lst (se.map tD)) hF hr
 have le:=le.trans (Le.new (o:=MO.lst (se.map tD)) hr)
 generalize av M4 r (.lst (se.map tD))=M5 at hS hF le ⊢
 walk_at "rd"
 refine ⟨fs,hF,hT,by omega,fun d hd=>?_⟩
 have ld:=jQ fs
 have hD:av M5 d (.lst ((aK fs).map tD)) d=some (.lst ((aK fs).map tD)):=ah
 have hS:=aj (u:=MO.lst ((aK fs).map tD)) hS hd
 have le:=le.trans (Le.new (o:=MO.lst ((aK fs).map tD)) hd)
 generalize av M5 d (.lst ((aK fs).map tD))=M6 at hS hD le ⊢
 walk_at "rd"
 refine ⟨d,r,_,_,rfl,rfl,hD,hS,by rw [To,To];omega,fun u jo=>?_⟩
 rw [← T5]
 have lw:(aK fs ++ se).length≤900:=by rw [TL];omega
 have Rt:∀ w∈aK fs ++ se,∃ a b:Pl,w= [a,b]:=fun w hw=>by
  rcases TU.mp hw with hw | hw
  ·obtain ⟨a,b,e,_⟩:=ql w hw
   exact ⟨a,b,e⟩
  ·exact Rr w hw
 generalize aK fs ++ se=ws at *
 have hW:av M6 u (.lst (ws.map tD)) u=some (.lst (ws.map tD)):=ah
 have le:=le.trans (Le.new (o:=MO.lst (ws.map tD)) jo)
 generalize av M6 u (.lst (ws.map tD))=M7 at hW le ⊢
 walk_at "rd"
 refine ⟨u,_,rfl,hW,by rw [To];omega,bY.mk (bM (fun j acc M8=>M8=M7∧acc=((ws.take j).filter (fun w=>decide (lE w∉ws))).map tD) _ ?_ ?_ ⟨rfl,rfl⟩)⟩
 ·rintro j x acc M8 N2 oW ⟨rfl,rfl⟩ kG
  obtain ⟨w,hw,rfl⟩:=dU oW
  obtain ⟨a,b,rfl⟩:=Rt w (TM hw)
  refine ⟨hW,?_⟩
  walk_at "rd"
  refine ⟨_,.inr ⟨u,rfl,hW⟩,iP _,bg ws,?_⟩
  walk_at "rd"
  rw [l8,if_pos rfl]
  by_cases vP: [b,a]∈ws
  ·rw [decide_eq_true vP]
   walk_at "rd"
   refine kG _ _ ⟨rfl,?_⟩
   rw [bu hw,if_neg (fun z=>of_decide_eq_true (p:=lE [a,b]∉ws) z vP),UR]
  ·rw [decide_eq_false vP]
   walk_at "rd"
   refine kG _ _ ⟨rfl,?_⟩
   rw [bu hw,if_pos (decide_eq_true (show lE [a,b]∉ws from vP)),T5]
   rfl
 rintro acc M8 ⟨rfl,hacc⟩
 rw [To,Uk] at hacc
 subst hacc
 refine ⟨hW,fun x hx=>?_⟩
 walk_at "rd"
 exact bY.mk ⟨_,Le.refl _,h x _ (le.trans (Le.new hx)) ah⟩
theorem qZ (T:Txt K mg t):Binds K t.gD ["a","b","c"] []:=T.iy.binds fun _ _ _ _ _ _ us hl=>match us,hl with | [_,_,_],_=>rfl
def sE:uD:=fun ds Q=> ∃ a b c:Pl,ds= [a.d,b.d,c.d]∧a.Ok 140∧b.Ok 140∧c.Ok 140∧tw a b c≠0∧Q (tD (rF a b c))
theorem q8 (T:Txt K mg t):cE P w K mg base iF 3 t.gZ t.gD ["a","b","c"] (sU K sE):=by
 refine yc T.iy j3 (fun ds Q h=>by (first | (obtain ⟨_,rfl,_⟩:=h;rfl) | (obtain ⟨_,_,rfl,_⟩:=h;rfl) | (obtain ⟨_,_,_,rfl,_⟩:=h;rfl) | (obtain ⟨_,_,_,_,rfl,_⟩:=h;rfl) | (obtain ⟨_,_,_,_,_,rfl,_⟩:=h;rfl) | (obtain ⟨_,_,_,_,_,_,rfl,_⟩:=h;rfl) | (obtain ⟨_,_,_,_,_,_,_,rfl,_⟩:=h;rfl))) (fun cdv A outer s H hr=>?_)
 have hu:=hr.units
 refine ⟨_,(au (aW (i:=3) j3.nd rfl (Or.inl rfl) (b9 p9 (by rfl) T.dJ bQ (aa (dG (aa (af 0) (aa (af 1) (aa (af 2) ao)))) ao)))
  (au (cY (aT (pO hu) (aF (kC T) (hr.mono (by decide)) (by rfl) T.nR T.jZ.kp (kB T) (aa (aP (af 3) ai) (aa (aP (af 3) ai) (aa (aP (af 3) ai) ao)))) ai (aL _)) (aC (aN (cH (aa (aP (af 3) ai) (aa (aP (af 3) ai) (aa (aP (af 3) ai) ao)))))) bK)
  (aC (aN (cH (aa (aP (af 3) ai) (aa (aP (af 3) ai) (aa (aP (af 3) ai) ao)))))))),fun ds Q h=>?_⟩
 obtain ⟨a,b,c,rfl,ha,hb,hc,hn,h⟩:=h
 walk_at "rd"
 intro l hl
 refine ⟨l,[a,b,c],rfl,ah,by show 3 < 64;decide,fun p qs hp cJ kR=>?_⟩
 obtain ⟨u,v,w,rfl⟩:=lY cJ.length_eq
 obtain ⟨ou,ov,ow⟩:=wo cJ ha hb hc
 rw [yk hn cJ kR] at h
 walk_at "rd"
 refine ⟨_,_,_,.inr (.inr ⟨p,rfl,ah⟩),rfl,rfl,?_⟩
 walk_at "rd"
 refine ⟨_,_,_,.inr (.inr ⟨p,rfl,ah⟩),rfl,rfl,?_⟩
 walk_at "rd"
 refine ⟨_,_,_,.inr (.inr ⟨p,rfl,ah⟩),rfl,rfl,?_⟩
 walk_at "rd"
 refine ⟨ou,ov,ow,?_⟩
 walk_at "rd"
 refine fL (fun k=>?_) (fun k=>?_)
 ·rw [if_pos (HZ k)] at h
  walk_at "rd"
  refine ⟨_,_,_,.inr (.inr ⟨p,rfl,ah⟩),rfl,rfl,?_⟩
  walk_at "rd"
  refine ⟨_,_,_,.inr (.inr ⟨p,rfl,ah⟩),rfl,rfl,?_⟩
  walk_at "rd"
  refine ⟨_,_,_,.inr (.inr ⟨p,rfl,ah⟩),rfl,rfl,?_⟩
  walk_at "rd"
  exact h
 ·rw [if_neg (EV k)] at h
  walk_at "rd"
  refine ⟨_,_,_,.inr (.inr ⟨p,rfl,ah⟩),rfl,rfl,?_⟩
  walk_at "rd"
  refine ⟨_,_,_,.inr (.inr ⟨p,rfl,ah⟩),rfl,rfl,?_⟩
  walk_at "rd"
  refine ⟨_,_,_,.inr (.inr ⟨p,rfl,ah⟩),rfl,rfl,?_⟩
  walk_at "rd"
  exact h
theorem ud (T:Txt K mg t):Binds K t.nQ ["places","net","p"] []:=T.mK.binds fun _ _ _ _ _ _ us hl=>match us,hl with | [_,_,_],_=>rfl
def DQ:x8:=fun ds M Q=> ∃ (l n:Addr) (p:Pl),ds= [.ref l,.ref n,p.d]∧∃ (ps:List Pl) (ns:List (List Pl)),M l=some (.lst (ps.map Pl.d))∧M n=some (.lst (ns.map tD))∧ps.Nodup∧ps.length≤20∧(∀ q∈ps,q.Ok 140)∧p.Ok 140∧p∉ps∧ns.Nodup∧(∀ t,t∈ns↔fE ps t∧rT ps t)∧∀ (f c b:Addr) (fl cm us:List (List Pl)) (M':Mp),Le M M'→M' f=some (.lst (fl.map tD))→M' c=some (.lst (cm.map tD))→M' b=some (.lst (us.map tD))→(∀ t∈fl,t∈ns)→(∀ t∈cm,t∉ns)→us.Perm (ns.filter (fun t=>decide (t∉fl)) ++ cm)→us.Nodup→(∀ t,t∈us↔fE (ps ++ [p]) t∧rT (ps ++ [p]) t)→us.Pairwise (fun p q=>bZ q p=false)→us.length≤44→fl.length≤44→Q (.tup [.ref f,.ref c,.ref b]) M'
theorem ue (T:Txt K mg t):cE P w K mg base iF 7 t.qN t.nQ ["places","net","p"] (AI K DQ):=by
 refine B8 T.mK iT (fun ds M Q h=>by (first | (obtain ⟨_,rfl,_⟩:=h;rfl) | (obtain ⟨_,_,rfl,_⟩:=h;rfl) | (obtain ⟨_,_,_,rfl,_⟩:=h;rfl) | (obtain ⟨_,_,_,_,rfl,_⟩:=h;rfl) | (obtain ⟨_,_,_,_,_,rfl,_⟩:=h;rfl) | (obtain ⟨_,_,_,_,_,_,rfl,_⟩:=h;rfl) | (obtain ⟨_,_,_,_,_,_,_,rfl,_⟩:=h;rfl))) (fun cdv A outer s H hr=>?_)
 have hu:=hr.units
 refine ⟨_,(au (cY (aT (Ew hu) (af 2) (af 0) (by with_unfolding_all rfl)) (aC zD) bK)
  (au (aW (i:=3) iT.nd rfl (Or.inr rfl) (qc (gI (ys:=["p"]) (fs:=[2]) rfl (by show bO (aq fY) ["places","net","p","fallen","ways","come","stay"] _ _ _ _=true;decide +kernel) (af 1) (fun cl C s0 H0 ex=>jI (kK (aF (Bm T) (hr.mono (by decide)) (by rfl) T.DL T.qP.kp (Bl T) (aa (aP (af 0) ai) (aa (aP (af 0) ai) (aa (aP (af 0) ai) (aa (af 1) ao))))))) (fun cl C s0 H0 ex=>(af 0)))))
  (au (HU (j:=4) (gI (ys:=["p"]) (fs:=[2]) rfl (by show bO (aq fY) ["places","net","p","fallen","ways","come","stay"] _ _ _ _=true;decide +kernel) (dg (sD T) (hr.mono (by decide)) (by rfl) T.vC T.jg.kp (sC T) (aa (af 0) (aa (af 3) (aa (af 2) ao)))) (fun cl C s0 H0 ex=>jI (aT (pO hu) (aF (kC T) (hr.mono (by decide)) (by rfl) T.nR T.jZ.kp (kB T) (aa (aP (af 0) ai) (aa (aP (af 0) ai) (aa (af 1) ao)))) ai (aL _))) (fun cl C s0 H0 ex=>(af 0))) iT.nd rfl (Or.inl rfl))
  (au (aW (i:=5) iT.nd rfl (Or.inl rfl) (b9 (iN (n:=3) (.inr rfl) hu) (by rfl) T.dJ bQ (aa (qc (gI (ys:=["p"]) (fs:=[2]) rfl (by show bO (aq fY) ["places","net","p","fallen","ways","come","stay"] _ _ _ _=true;decide +kernel) (af 4) (fun cl C s0 H0 ex=>Cn) (fun cl C s0 H0 ex=>(aF (q8 T) (hr.mono (by decide)) (by rfl) T.rY T.iy.kp (qZ T) (aa (aP (af 0) ai) (aa (aP (af 0) ai) (aa (af 1) ao))))))) ao)))
  (au (HU (j:=6) (gI (ys:=["fallen"]) (fs:=[3]) rfl (by show bO (aq fY) ["places","net","p","fallen","ways","come","stay"] _ _ _ _=true;decide +kernel) (af 1) (fun cl C s0 H0 ex=>jI (aT (j8 hu) (af 0) (af 1) (by with_unfolding_all rfl))) (fun cl C s0 H0 ex=>(af 0))) iT.nd rfl (Or.inl rfl))
  (aC (aN (cH (aa (b9 (iN (n:=3) (.inr rfl) hu) (by rfl) T.dJ bQ (aa (af 3) ao)) (aa (af 5) (aa (b9 (iN (n:=3) (.inr rfl) hu) (by rfl) T.dJ bQ (aa (az tH (af 6) (af 5)) ao)) ao))))))))))),fun ds M Q h=>?_⟩
 obtain ⟨l,n,p,rfl,ps,ns,hM,hN,nd,lp,ho,op,np,Jf,Lu,h⟩:=h
 have sl:(1000:Nat) < sizeLine:=by decide
 walk_at "rd"
 refine ⟨_,.inr ⟨l,rfl,hM⟩,rfl,dH ps,?_⟩
 walk_at "rd"
 rw [if_neg (by decide),kg,decide_eq_false np]
 have LW:∀ t∈ns,fE ps t:=fun t ht=>((Lu t).mp ht).1
 obtain ⟨Jg,za,hs0⟩:=nM ps nd
 have tZ:cu Jg:=⟨hs0,fun q hq=>(ho q (za.mem_iff.mp hq)).2⟩
 have tq:∀ t,fE ps t↔fE Jg t:=fun t=>⟨fun c=>⟨c.1,fun q hq=>za.mem_iff.mpr (c.2 q hq)⟩,fun c=>⟨c.1,fun q hq=>za.mem_iff.mp (c.2 q hq)⟩⟩
 have cq:∀ t,rT ps t↔rT Jg t:=fun t=>⟨fun c d hd=>c d (za.mem_iff.mp hd),fun c d hd=>c d (za.mem_iff.mpr hd)⟩
 have IU:∀ t,t∈ns↔fE Jg t∧rT Jg t:=fun t=>by rw [Lu,tq,cq]
 have ln:=Ag tZ Jf IU
 have Sx:=za.length_eq
 walk_at "rd"
 refine ⟨n,_,rfl,hN,by rw [To];omega,bY.mk (bM (fun j acc M4=>M4=M∧acc=((ns.take j).filter (rG p)).map tD) _ ?_ ?_ ⟨rfl,rfl⟩)⟩
 ·rintro j x acc M4 N2 oW ⟨rfl,rfl⟩ kG
  obtain ⟨t,ht,rfl⟩:=dU oW
  obtain ⟨a,b,c,rfl,pt,ha,hb,hc,_⟩:=(LW t (TM ht)).parts
  refine ⟨hN,?_⟩
  walk_at "rd"
  refine ⟨ho a ha,ho b hb,ho c hc,op,by omega,?_⟩
  walk_at "rd"
  rw [show decide (fM a b c p)=rG p [a,b,c] from rfl]
  cases e:rG p [a,b,c] with
  | true=>
    walk_at "rd"
    refine kG _ _ ⟨rfl,?_⟩
    rw [bu ht,if_pos e,T5]
    rfl
  | false=>
    walk_at "rd"
    refine kG _ _ ⟨rfl,?_⟩
    rw [bu ht,if_neg (by rw [e];simp),UR]
 rintro acc M4 ⟨rfl,hacc⟩
 rw [To,Uk] at hacc
 subst hacc
 refine ⟨hN,fun f hf=>?_⟩
 have Sy:(ns.filter (rG p)).length≤ns.length:=U8 _ _
 have vU:av M4 f (.lst ((ns.filter (rG p)).map tD)) f=some (.lst ((ns.filter (rG p)).map tD)):=ah
 have hM:=aj (u:=MO.lst ((ns.filter (rG p)).map tD)) hM hf
 have hN:=aj (u:=MO.lst ((ns.filter (rG p)).map tD)) hN hf
 have le:=Le.new (o:=MO.lst ((ns.filter (rG p)).map tD)) hf
 generalize av M4 f (.lst ((ns.filter (rG p)).map tD))=M5 at hM hN vU le ⊢
 walk_at "rd"
 refine ⟨ps,ns.filter (rG p),hM,vU,by omega,ho,op,fun t ht=>(LW t (Tu.mp ht).1).tr ho,by omega,fun r qs M6 LX cJ hso hR=>?_⟩
 have hM:=LX _ _ hM
 have hN:=LX _ _ hN
 have vU:=LX _ _ vU
 have le:=le.trans LX
 obtain rfl:qs=Jg:=wN (cJ.trans za.symm) hso (hs0.imp fun h=>ay h)
 have kv:=jT tZ Jf IU
 have Pz:p∉qs:=fun z=>np (za.mem_iff.mp z)
 have mX:=fun w=>jU (p:=p) (w:=w) tZ kv
 have cM:=xj (p:=p) tZ kv
 have cN:=yN (p:=p) tZ kv
 have cW:=fun t h=>DC (p:=p) (t:=t) tZ kv Pz h
 have lX:(rW (putL qs ns p)).length≤900:=by
  refine UI (U8 _ _) ?_
  have l1:=jQ (ns.filter (rG p))
  have l2:=oK qs
  have l3:=U8 (iR p) (aV (br qs))
  unfold putL
  rw [TL,To]
  omega
 have xq:∀ w∈rW (putL qs ns p),∃ a b,w= [a,b]∧a∈ps∧b∈ps:=fun w hw=>by
  obtain ⟨m,_⟩:=Tu.mp hw
  rcases TU.mp m with m | m
  ·obtain ⟨t,ht,m⟩:=aS.mp m
   obtain ⟨a,b,e,ha,hb⟩:=kv.t6.pB w (aS.mpr ⟨t,(Tu.mp ht).1,m⟩)
   exact ⟨a,b,e,za.mem_iff.mp ha,za.mem_iff.mp hb⟩
  ·obtain ⟨v,hv,rfl⟩:=TV.mp m
   obtain ⟨a,b,rfl,ha,hb⟩:=oJ (Tu.mp hv).1
   exact ⟨b,a,rfl,za.mem_iff.mp hb,za.mem_iff.mp ha⟩
 replace hR:M6 r=some (.lst ((rW (putL qs ns p)).map tD)):=hR
 generalize rW (putL qs ns p)=X0 at *
 walk_at "rd"
 refine ⟨r,_,rfl,hR,by rw [To];omega,bY.mk (bM (fun j acc M4=>M4=M6∧acc=((X0.take j).filter (DA p)).map tD) _ ?_ ?_ ⟨rfl,rfl⟩)⟩
 ·rintro j x acc M4 N2 oW ⟨rfl,rfl⟩ kG
  obtain ⟨w,hw,rfl⟩:=dU oW
  obtain ⟨a,b,rfl,ha,hb⟩:=xq w (TM hw)
  refine ⟨hR,?_⟩
  walk_at "rd"
  refine ⟨ho a ha,ho b hb,op,?_⟩
  walk_at "rd"
  have eb:L3.dM (.int (tw a b p).sign) (.int 1)=DA p [a,b]:=by
   rw [dQ,Uo]
   unfold DA
   rw [decide_eq_true_eq,beq_iff_eq]
   exact Vf
  rw [eb]
  cases e:DA p [a,b] with
  | true=>
    walk_at "rd"
    refine kG _ _ ⟨rfl,?_⟩
    rw [bu hw,if_pos e,T5]
    rfl
  | false=>
    walk_at "rd"
    refine kG _ _ ⟨rfl,?_⟩
    rw [bu hw,if_neg (by rw [e];simp),UR]
 rintro acc M7 ⟨rfl,hacc⟩
 rw [To,Uk] at hacc
 subst hacc
 refine ⟨hR,fun u jo=>?_⟩
 have Sz:(X0.filter (DA p)).length≤900:=UI (U8 _ _) lX
 generalize X0.filter (DA p)=ys at *
 have hY:av M7 u (.lst (ys.map tD)) u=some (.lst (ys.map tD)):=ah
 have hN:=aj (u:=MO.lst (ys.map tD)) hN jo
 have vU:=aj (u:=MO.lst (ys.map tD)) vU jo
 have le:=le.trans (Le.new (o:=MO.lst (ys.map tD)) jo)
 generalize av M7 u (.lst (ys.map tD))=M8 at hY hN vU le ⊢
 walk_at "rd"
 refine ⟨u,_,rfl,hY,by rw [To];omega,bY.mk (bM (fun j acc M4=>M4=M8∧acc=((ys.take j).map (Lm p)).map tD) _ ?_ ?_ ⟨rfl,rfl⟩)⟩
 ·rintro j x acc M4 N2 oW ⟨rfl,rfl⟩ kG
  obtain ⟨w,hw,rfl⟩:=dU oW
  obtain ⟨a,b,rfl,w1,_,pos⟩:=(mX w).mp (TM hw)
  obtain ⟨ha,hb⟩:=w1.places kv
  refine ⟨hY,?_⟩
  walk_at "rd"
  refine ⟨ho a (za.mem_iff.mp ha),ho b (za.mem_iff.mp hb),op,by omega,?_⟩
  walk_at "rd"
  refine kG _ _ ⟨rfl,?_⟩
  rw [V5,hw,Option.toList_some,T5,T5]
  rfl
 rintro acc M9 ⟨rfl,hacc⟩
 rw [To,Uk] at hacc
 subst hacc
 refine ⟨hY,fun v hv=>?_⟩
 generalize ys.map (Lm p)=cs at *
 have lcs:(ns.filter (fun t=>decide (t∉ns.filter (rG p))) ++ cs).length≤42∧(ns.filter (fun t=>decide (t∉ns.filter (rG p))) ++ cs).Nodup∧∀ t,t∈ns.filter (fun t=>decide (t∉ns.filter (rG p))) ++ cs↔fE (ps ++ [p]) t∧rT (ps ++ [p]) t:=by
  have Ru:∀ q,q∈ps ++ [p]↔q∈qs∨q=p:=fun q=>by rw [TU,Tt,za.mem_iff]
  have NU:(ps ++ [p]).Nodup:=Ub.mpr ⟨nd,by simp,fun x hx y hy e=>by rw [Tt] at hy;subst hy;exact np (e▸hx)⟩
  have Rv:∀ q∈ps ++ [p],q.Ok 140:=fun q hq=>by
   rcases TU.mp hq with z | z
   ·exact ho q z
   ·rw [Tt] at z;subst z;exact op
  have mm:∀ t,t∈ns.filter (fun t=>decide (t∉ns.filter (rG p))) ++ cs↔fE (ps ++ [p]) t∧rT (ps ++ [p]) t:=fun t=>by
   rw [Fy tZ Jf IU Ru Pz t,TU,cM,Tu,decide_eq_true_iff,Tu,← vh]
   constructor
   ·rintro (⟨h1,h2⟩ | h1)
    ·exact .inl ⟨h1,fun z=>h2 ⟨h1,z⟩⟩
    ·exact .inr h1
   ·rintro (⟨h1,h2⟩ | h1)
    ·exact .inl ⟨h1,fun z=>h2 z.2⟩
    ·exact .inr h1
  have nn:(ns.filter (fun t=>decide (t∉ns.filter (rG p))) ++ cs).Nodup:=Ub.mpr ⟨Jf.filter _,cN,fun x hx y hy e=>by subst e;exact cW x hy (Tu.mp hx).1⟩
  have:=DE NU Rv nn mm
  rw [TL (as:=ps)] at this
  simp only [Ug,U9] at this
  exact ⟨by omega,nn,mm⟩
 obtain ⟨lc,nc,mc⟩:=lcs
 rw [TL] at lc
 have c3:∀ t∈cs,t.length=3:=fun t ht=>by
  obtain ⟨⟨_,_,_,rfl,_⟩,_⟩:=(cM t).mp ht
  rfl
 have PB:av M9 v (.lst (cs.map tD)) v=some (.lst (cs.map tD)):=ah
 have hN:=aj (u:=MO.lst (cs.map tD)) hN hv
 have vU:=aj (u:=MO.lst (cs.map tD)) vU hv
 have le:=le.trans (Le.new (o:=MO.lst (cs.map tD)) hv)
 generalize av M9 v (.lst (cs.map tD))=ER at PB hN vU le ⊢
 refine ⟨v,cs,rfl,PB,c3,by omega,fun c cm hc pc sc=>?_⟩
 have hC:av ER c (.lst (cm.map tD)) c=some (.lst (cm.map tD)):=ah
 have hN:=aj (u:=MO.lst (cm.map tD)) hN hc
 have vU:=aj (u:=MO.lst (cm.map tD)) vU hc
 have le:=le.trans (Le.new (o:=MO.lst (cm.map tD)) hc)
 generalize av ER c (.lst (cm.map tD))=LY at hC hN vU le ⊢
 have lcm:=pc.length_eq
 generalize Ou:ns.filter (rG p)=fs at *
 walk_at "rd"
 refine ⟨n,_,rfl,hN,by rw [To];omega,bY.mk (bM (fun j acc M4=>M4=LY∧acc=((ns.take j).filter (fun t=>decide (t∉fs))).map tD) _ ?_ ?_ ⟨rfl,rfl⟩)⟩
 ·rintro j x acc M4 N2 oW ⟨rfl,rfl⟩ kG
  obtain ⟨t,ht,rfl⟩:=dU oW
  obtain ⟨a,b,c,rfl,_⟩:=(LW t (TM ht)).parts
  refine ⟨hN,?_⟩
  walk_at "rd"
  refine ⟨_,.inr ⟨f,rfl,vU⟩,iP _,bg fs,?_⟩
  walk_at "rd"
  rw [l8,if_pos rfl]
  by_cases vP: [a,b,c]∈fs
  ·rw [decide_eq_true vP]
   walk_at "rd"
   refine kG _ _ ⟨rfl,?_⟩
   rw [bu ht,if_neg (by rw [decide_eq_true_iff];exact fun z=>z vP),UR]
  ·rw [decide_eq_false vP]
   walk_at "rd"
   refine kG _ _ ⟨rfl,?_⟩
   rw [bu ht,if_pos (decide_eq_true vP),T5]
   rfl
 rintro acc Lv ⟨rfl,hacc⟩
 rw [To,Uk] at hacc
 subst hacc
 refine ⟨hN,fun y hy=>?_⟩
 have s3:∀ t∈ns,t.length=3:=fun t ht=>by
  obtain ⟨_,_,_,rfl,_⟩:=(LW t ht).parts
  rfl
 have fn:∀ t∈fs,t∈ns:=fun t ht=>by rw [← Ou] at ht;exact (Tu.mp ht).1
 have st3:∀ t∈ns.filter (fun t=>decide (t∉fs)) ++ cm,t.length=3:=fun t ht=>by
  rcases TU.mp ht with z | z
  ·exact s3 t (Tu.mp z).1
  ·exact c3 t (pc.mem_iff.mp z)
 have pm:(ns.filter (fun t=>decide (t∉fs)) ++ cm).Perm (ns.filter (fun t=>decide (t∉fs)) ++ cs):=List.Perm.append_left _ pc
 generalize Rw:ns.filter (fun t=>decide (t∉fs))=st at *
 have hS:av Lv y (.lst (st.map tD)) y=some (.lst (st.map tD)):=ah
 have hC:=aj (u:=MO.lst (st.map tD)) hC hy
 have vU:=aj (u:=MO.lst (st.map tD)) vU hy
 have le:=le.trans (Le.new (o:=MO.lst (st.map tD)) hy)
 generalize av Lv y (.lst (st.map tD))=Ov at hC hS vU le ⊢
 walk_at "rd"
 refine ⟨f,fs,rfl,vU,fun t ht=>s3 t (fn t ht),by omega,fun g fl hg pf sf=>?_⟩
 have hG:av Ov g (.lst (fl.map tD)) g=some (.lst (fl.map tD)):=ah
 have hC:=aj (u:=MO.lst (fl.map tD)) hC hg
 have hS:=aj (u:=MO.lst (fl.map tD)) hS hg
 have le:=le.trans (Le.new (o:=MO.lst (fl.map tD)) hg)
 generalize av Ov g (.lst (fl.map tD))=PC at hC hS hG le ⊢
 walk_at "rd"
 refine ⟨y,c,_,_,rfl,rfl,hS,hC,by rw [To,To];omega,fun e he=>?_⟩
 rw [← T5]
 have hE:av PC e (.lst ((st ++ cm).map tD)) e=some (.lst ((st ++ cm).map tD)):=ah
 have hC:=aj (u:=MO.lst ((st ++ cm).map tD)) hC he
 have hG:=aj (u:=MO.lst ((st ++ cm).map tD)) hG he
 have le:=le.trans (Le.new (o:=MO.lst ((st ++ cm).map tD)) he)
 generalize av PC e (.lst ((st ++ cm).map tD))=PD at hC hG hE le ⊢
 walk_at "rd"
 refine ⟨e,st ++ cm,rfl,hE,st3,by rw [TL];omega,fun b us hb pu su=>?_⟩
 have hC:=aj (u:=MO.lst (us.map tD)) hC hb
 have hG:=aj (u:=MO.lst (us.map tD)) hG hb
 have le:=le.trans (Le.new (o:=MO.lst (us.map tD)) hb)
 have hB:av PD b (.lst (us.map tD)) b=some (.lst (us.map tD)):=ah
 generalize av PD b (.lst (us.map tD))=SA at hC hG hB le ⊢
 walk_at "rd"
 refine bY.mk ⟨_,Le.refl _,h g c b fl cm us _ le hG hC hB (fun t ht=>fn t (pf.mem_iff.mp ht)) (fun t ht=>cW t (pc.mem_iff.mp ht)) ?_ ((pu.trans pm).nodup_iff.mpr nc) (fun t=>((pu.trans pm).mem_iff).trans (mc t)) su ?_ (by rw [pf.length_eq];omega)⟩
 ·rw [show (fun t=>decide (t∉fl))=fun t=>decide (t∉fs) from funext fun t=>decide_eq_decide.mpr (not_congr pf.mem_iff),Rw]
  exact pu
 ·have:=(pu.trans pm).length_eq
  rw [TL] at this
  omega
theorem kT (T:Txt K mg t):Binds K t.g9 ["places"] []:=T.fR.binds fun _ _ _ _ _ _ us hl=>match us,hl with | [_],_=>rfl
def vM:x8:=fun ds M Q=> ∃ (l:Addr) (ps:List Pl),ds= [.ref l]∧M l=some (.lst (ps.map Pl.d))∧ps.Nodup∧ps.length≤17∧(∀ q∈ps,q.Ok 140)∧∀ (r:Addr) (us:List (List Pl)) (M':Mp),Le M M'→M' r=some (.lst (us.map tD))→us.Nodup→(∀ t,t∈us↔fE ps t∧rT ps t)→us.Pairwise (fun p q=>bZ q p=false)→us.length≤44→Q (.ref r) M'
theorem kU (T:Txt K mg t):cE P w K mg base iF 8 t.jd t.g9 ["places"] (AI K vM):=by
 refine B8 T.fR eZ (fun ds M Q h=>by (first | (obtain ⟨_,rfl,_⟩:=h;rfl) | (obtain ⟨_,_,rfl,_⟩:=h;rfl) | (obtain ⟨_,_,_,rfl,_⟩:=h;rfl) | (obtain ⟨_,_,_,_,rfl,_⟩:=h;rfl) | (obtain ⟨_,_,_,_,_,rfl,_⟩:=h;rfl) | (obtain ⟨_,_,_,_,_,_,rfl,_⟩:=h;rfl) | (obtain ⟨_,_,_,_,_,_,_,rfl,_⟩:=h;rfl))) (fun cdv A outer s H hr=>?_)
 have hu:=hr.units
 refine ⟨_,(au (aW (i:=1) eZ.nd rfl (Or.inl rfl) (dG ao))
  (au (yb PassesOwn.never rfl (by rfl) T.qQ (aa (b9 kL (by rfl) T.iC cA (aa (af 0) ao)) ao) (bI (i:=2) eZ.nd rfl (Or.inl rfl)) (aC (aW (i:=1) eZ.nd rfl (Or.inl rfl) (aP (dg (ue T) (hr.mono (by decide)) (by rfl) T.xx T.mK.kp (ud T) (aa (fj (af 0) wz (jJ (af 2))) (aa (af 1) (aa (aP (af 0) (af 2)) ao)))) ai))))
  (aC (aN (af 1))))),fun ds M Q h=>?_⟩
 obtain ⟨l,ps,rfl,hM,nd,lp,ho,h⟩:=h
 have sl:(1000:Nat) < sizeLine:=by decide
 walk_at "rd"
 intro r hr
 have le:=Le.new (o:=MO.lst []) hr
 have hR:av M r (.lst []) r=some (.lst []):=ah
 have hM:=le _ _ hM
 generalize av M r (.lst [])=M1 at le hR hM ⊢
 walk_at "rd"
 refine ⟨_,_,rfl,.inr (.inr ⟨l,rfl,hM⟩),?_⟩
 walk_at "rd"
 rw [To]
 refine ⟨by omega,by omega,?_⟩
 refine cg (fun i ρ M'=> ∃ (r:Addr) (us:List (List Pl)) (y1:Option L3.D),ρ= [some (.ref l),some (.ref r),y1]∧Le M1 M'∧M' r=some (.lst (us.map tD))∧us.Nodup∧(∀ t,t∈us↔fE (ps.take i) t∧rT (ps.take i) t)∧us.Pairwise (fun p q=>bZ q p=false)∧us.length≤44) _ ?_ ?_ ?_
 rotate_left
 ·rintro ρ M' ⟨r',us,y1,rfl,le',j6,Jh,mu,su,lu⟩
  refine ⟨trivial,?_⟩
  walk_at "rd"
  rw [To,VC,U0,Uk] at mu
  exact bY.mk ⟨_,Le.refl _,h r' us _ (le.trans le') j6 Jh mu su lu⟩
 ·exact ⟨r,[],none,rfl,Le.refl _,hR,.nil,fun t=>⟨fun z=>(by cases z),fun z=>(by obtain ⟨a,b,c,rfl,_,ha,_⟩:=z.1.parts;simp at ha)⟩,.nil,by simp⟩
 ·rintro i x ρ M' N hx ⟨r',us,y1,rfl,le',j6,Jh,mu,su,lu⟩ hN
  obtain ⟨hi,rfl⟩:=m8 hx
  refine ⟨trivial,?_⟩
  have hM':=le' _ _ hM
  rw [U0] at hi
  have hg:ps[i]?=some ps[i]:=Tq hi
  have hA:rC (ps.map Pl.d) (i:Int)=some (ps[i]).d:=o5 (by rw [Uh,hg];rfl)
  have Ow:(ps[i]).Ok 140:=ho _ (VL hi)
  have et:ps.take (i+1)=ps.take i ++ [ps[i]]:=by rw [V5,hg];rfl
  have Lw:(ps.take i ++ [ps[i]]).Nodup:=by rw [← et];exact nd.sublist (VA _ _)
  have np:ps[i]∉ps.take i:=fun z=>(Ub.mp Lw).2.2 _ z _ (by simp) rfl
  generalize ps[i]=p at *
  walk_at "rd"
  refine ⟨_,.of hM',fun c hc=>?_⟩
  rw [l7 Pl.d ps i (by omega)]
  have hC:av M' c (.lst ((ps.take i).map Pl.d)) c=some (.lst ((ps.take i).map Pl.d)):=ah
  have hM':=aj (u:=MO.lst ((ps.take i).map Pl.d)) hM' hc
  have j6:=aj (u:=MO.lst ((ps.take i).map Pl.d)) j6 hc
  have le':=le'.trans (Le.new (o:=MO.lst ((ps.take i).map Pl.d)) hc)
  generalize av M' c (.lst ((ps.take i).map Pl.d))=M2 at hC hM' j6 le' ⊢
  walk_at "rd"
  refine ⟨_,_,_,.inr (.inr ⟨l,rfl,hM'⟩),rfl,hA,?_⟩
  walk_at "rd"
  refine ⟨_,us,hC,j6,(Ub.mp Lw).1,by rw [Uy];omega,fun q hq=>ho q (UK hq),Ow,np,Jh,mu,fun f c b fl cm us' M3 GC hF SD hB _ _ _ Il LZ L0 Ox _=>?_⟩
  walk_at "rd"
  refine hN _ _ ⟨b,us',_,rfl,le'.trans GC,hB,Il,?_,L0,Ox⟩
  rw [et]
  exact LZ
theorem mR (T:Txt K mg t):Binds K t.dX ["_law_found","_law_places"] []:=T.eU.binds fun _ _ _ _ _ _ us hl=>match us,hl with | [_,_],_=>rfl
def nZ:x8:=fun ds M Q=> ∃ (f l:Addr) (fs:List (List Pl)) (ps:List Pl),ds= [.ref f,.ref l]∧M f=some (.lst (fs.map tD))∧M l=some (.lst (ps.map Pl.d))∧fs.length < 64∧fs.Pairwise (fun a b=>bZ b a=false)∧(∀ t∈fs,dI t∧∀ p∈t,p∈ps)∧Q (.bl true) M
theorem mS (T:Txt K mg t):cE P w K mg base iF 1 t.eO t.dX ["_law_found","_law_places"] (AI K nZ):=by
 refine B8 T.eU eB (fun ds M Q h=>by (first | (obtain ⟨_,rfl,_⟩:=h;rfl) | (obtain ⟨_,_,rfl,_⟩:=h;rfl) | (obtain ⟨_,_,_,rfl,_⟩:=h;rfl) | (obtain ⟨_,_,_,_,rfl,_⟩:=h;rfl) | (obtain ⟨_,_,_,_,_,rfl,_⟩:=h;rfl) | (obtain ⟨_,_,_,_,_,_,rfl,_⟩:=h;rfl) | (obtain ⟨_,_,_,_,_,_,_,rfl,_⟩:=h;rfl))) (fun cdv A outer s H hr=>?_)
 have hu:=hr.units
 refine ⟨_,(au (cY (sP.pt (uA (k_not (kK (b9 sS (by rfl) T.cB bL (aa (af 0) (aa (mZ (by rfl) T.ku gb) ao))))) (oi (aT (i6 hu) (af 0) (b9 (iN (n:=3) (.inr rfl) hu) (by rfl) T.dJ bQ (aa (af 0) ao)) (aL _))))) (aC (aN jn)) bK)
  (au (uG PassesOwn.never rfl (af 0) (bI (i:=2) eB.nd rfl (Or.inl rfl)) (au (cY (sP.pt (uA (k_not (kK (b9 sS (by rfl) T.cB bL (aa (af 2) (aa (mZ (by rfl) T.qR jB) ao))))) (oi (aT (AH hu) (b9 kL (by rfl) T.iC cA (aa (af 2) ao)) ai (aL _))))) (aC (aN jn)) bK)
  (aC (HG PassesOwn.never rfl (af 2) (bI (i:=3) eB.nd rfl (Or.inl rfl)) (au (cY (sP.pt (uA (k_not (kK (b9 sS (by rfl) T.cB bL (aa (af 3) (aa (mZ (by rfl) T.qR jB) ao))))) (oi (aT (j8 hu) (af 3) (af 1) (by with_unfolding_all rfl))))) (aC (aN jn)) bK)
  (aC (cY (sP.pt (uA (kK (b9 sS (by rfl) T.cB bL (aa (aP (af 3) ai) (aa (mZ (by rfl) T.Ai pS) ao)))) (oi (kK (b9 sS (by rfl) T.cB bL (aa (aP (af 3) ai) (aa (mZ (by rfl) T.Ai pS) ao))))))) (aC (aN jn)) bK)))))))
  (aC (aN jn)))),fun ds M Q h=>?_⟩
 obtain ⟨f,l,fs,ps,rfl,hf,hM,h64,kR,hfs,h⟩:=h
 walk_at "rd"
 refine ⟨_,_,_,true,rfl,.lst hf,lR,?_⟩
 walk_at "rd"
 refine ⟨f,fs,rfl,hf,fun t ht=>?_,h64,fun p gs hp cJ hs2=>?_⟩
 ·obtain ⟨⟨u,v,w,rfl,_⟩,_⟩:=hfs t ht
  rfl
 obtain rfl:=fk cJ hs2 kR
 refine ⟨_,_,.of (aj hf hp),.of ah,bg _,bg _,?_⟩
 walk_at "rd"
 rw [iM (bg _)]
 refine BO ?_
 have hf2:=aj (u:=MO.lst (gs.map tD)) hf hp
 have DU:=aj (u:=MO.lst (gs.map tD)) hM hp
 have le:Le M (av M p (.lst (gs.map tD))):=Le.new hp
 generalize av M p (.lst (gs.map tD))=M2 at hf2 DU le ⊢
 walk_at "rd"
 refine ⟨f,_,rfl,hf2,?_⟩
 refine cg (fun i ρ M'=>M'=M2∧∃ y1 y2:Option L3.D,ρ= [some (.ref f),some (.ref l),y1,y2]) _ ?_ ?_ ⟨rfl,_,_,rfl⟩
 ·rintro i x ρ M' N hx ⟨rfl,y1,y2,rfl⟩ hN
  obtain ⟨t,ht,rfl⟩:=dU hx
  obtain ⟨⟨u,v,w,rfl,_⟩,hmem⟩:=hfs t (TM ht)
  refine ⟨hf2,?_⟩
  walk_at "rd"
  refine ⟨_,.inr ⟨l,rfl,DU⟩,rfl,dH ps,?_⟩
  walk_at "rd"
  rw [if_pos rfl,kg,decide_eq_true (hmem u (by simp))]
  refine BO ?_
  walk_at "rd"
  refine ⟨_,_,_,false,rfl,.int _,by rfl,?_⟩
  walk_at "rd"
  refine ⟨_,_,_,false,rfl,.int _,by rfl,?_⟩
  walk_at "rd"
  refine ⟨_,.inr ⟨l,rfl,DU⟩,rfl,dH ps,?_⟩
  walk_at "rd"
  rw [if_pos rfl,kg,decide_eq_true (hmem v (by simp))]
  refine BO ?_
  walk_at "rd"
  refine ⟨_,_,_,false,rfl,.int _,by rfl,?_⟩
  walk_at "rd"
  refine ⟨_,_,_,false,rfl,.int _,by rfl,?_⟩
  walk_at "rd"
  refine ⟨_,.inr ⟨l,rfl,DU⟩,rfl,dH ps,?_⟩
  walk_at "rd"
  rw [if_pos rfl,kg,decide_eq_true (hmem w (by simp))]
  refine BO ?_
  walk_at "rd"
  refine ⟨_,_,_,false,rfl,.int _,by rfl,?_⟩
  walk_at "rd"
  refine ⟨_,_,_,false,rfl,.int _,by rfl,?_⟩
  walk_at "rd"
  exact hN _ _ ⟨rfl,_,_,rfl⟩
 ·rintro ρ M' ⟨rfl,y1,y2,rfl⟩
  refine ⟨hf2,?_⟩
  walk_at "rd"
  exact bY.mk ⟨_,le,h⟩
theorem c6 (T:Txt K mg t):Binds K t.ia ["_law_a","_law_b","_law_c"] []:=T.cj.binds fun _ _ _ _ _ _ us hl=>match us,hl with | [_,_,_],_=>rfl
def vN:uD:=fun ds Q=> ∃ a b c:Pl,ds= [a.d,b.d,c.d]∧a.Ok 140∧b.Ok 140∧c.Ok 140∧Q (.int (tw a b c))
theorem c7 (T:Txt K mg t):cE P w K mg base iF 1 t.je t.ia ["_law_a","_law_b","_law_c"] (sU K vN):=by
 refine yc T.cj sy (fun ds Q h=>by (first | (obtain ⟨_,rfl,_⟩:=h;rfl) | (obtain ⟨_,_,rfl,_⟩:=h;rfl) | (obtain ⟨_,_,_,rfl,_⟩:=h;rfl) | (obtain ⟨_,_,_,_,rfl,_⟩:=h;rfl) | (obtain ⟨_,_,_,_,_,rfl,_⟩:=h;rfl) | (obtain ⟨_,_,_,_,_,_,rfl,_⟩:=h;rfl) | (obtain ⟨_,_,_,_,_,_,_,rfl,_⟩:=h;rfl))) (fun cdv A outer s H hr=>?_)
 have hu:=hr.units
 refine ⟨_,(aC (aN (az dP (az cV (az dP (aP (af 1) ai) (aP (af 0) ai)) (az dP (aP (af 2) ai) (aP (af 0) ai))) (az cV (az dP (aP (af 1) ai) (aP (af 0) ai)) (az dP (aP (af 2) ai) (aP (af 0) ai)))))),fun ds Q h=>?_⟩
 obtain ⟨a,b,c,rfl,⟨a1,a2⟩,⟨b1,b2⟩,⟨c1,c2⟩,h⟩:=h
 unfold tw at h
 walk_at "rd"
 exact h
theorem rf (T:Txt K mg t):Binds K t.gE ["_law_a","_law_b","_law_c","_law_d"] []:=T.iz.binds fun _ _ _ _ _ _ us hl=>match us,hl with | [_,_,_,_],_=>rfl
def sF:uD:=fun ds Q=> ∃ a b c d:Pl,ds= [a.d,b.d,c.d,d.d]∧a.Ok 140∧b.Ok 140∧c.Ok 140∧d.Ok 140∧Q (.int (dep a b c d))
theorem rj (T:Txt K mg t):cE P w K mg base iF 2 t.ic t.gE ["_law_a","_law_b","_law_c","_law_d"] (sU K sF):=by
 refine yc T.iz bA (fun ds Q h=>by (first | (obtain ⟨_,rfl,_⟩:=h;rfl) | (obtain ⟨_,_,rfl,_⟩:=h;rfl) | (obtain ⟨_,_,_,rfl,_⟩:=h;rfl) | (obtain ⟨_,_,_,_,rfl,_⟩:=h;rfl) | (obtain ⟨_,_,_,_,_,rfl,_⟩:=h;rfl) | (obtain ⟨_,_,_,_,_,_,rfl,_⟩:=h;rfl) | (obtain ⟨_,_,_,_,_,_,_,rfl,_⟩:=h;rfl))) (fun cdv A outer s H hr=>?_)
 have hu:=hr.units
 refine ⟨_,(au (aW (i:=4) bA.nd rfl (Or.inl rfl) ai)
  (au (EI PassesOwn.never rfl (aa (cH (aa (af 0) (aa (af 1) (aa (af 2) ao)))) (aa (cH (aa (af 1) (aa (af 2) (aa (af 0) ao)))) (aa (cH (aa (af 2) (aa (af 0) (aa (af 1) ao)))) ao))) (wc rfl (cI (bI (i:=5) bA.nd rfl (Or.inl rfl)) (cI (bI (i:=6) bA.nd rfl (Or.inl rfl)) (cI (bI (i:=7) bA.nd rfl (Or.inl rfl)) pR)))) (au (aW (i:=8) bA.nd rfl (Or.inl rfl) (az dP (aP (af 7) ai) (aP (af 3) ai)))
  (au (aW (i:=9) bA.nd rfl (Or.inl rfl) (az dP (aP (af 7) ai) (aP (af 3) ai)))
  (aC (aW (i:=4) bA.nd rfl (Or.inl rfl) (az e9 (af 4) (az cV (az e9 (az cV (af 8) (af 8)) (az cV (af 9) (af 9))) (aF (c7 T) (hr.mono (by decide)) (by rfl) T.dZ T.cj.kp (c6 T) (aa (af 3) (aa (af 5) (aa (af 6) ao)))))))))))
  (aC (aN (af 4))))),fun ds Q h=>?_⟩
 obtain ⟨a,b,c,d,rfl,ha,hb,hc,hd,h⟩:=h
 obtain ⟨d1,d2⟩:=id hd
 walk_at "rd"
 refine bY.mk (cg (fun i ρ M'=> ∃ y1 y2 y3 y4 y5:Option L3.D,ρ= [some a.d,some b.d,some c.d,some d.d,some (.int (uP a b c d i)),y1,y2,y3,y4,y5]) _ ?_ ?_ ⟨_,_,_,_,_,rfl⟩)
 ·rintro i x ρ M' N hx ⟨y1,y2,y3,y4,y5,rfl⟩ hN
  obtain ⟨p,q,f,rfl,hp,hq,hf,he⟩:∃ p q f:Pl,x= .tup [p.d,q.d,f.d]∧p.Ok 140∧q.Ok 140∧f.Ok 140∧uP a b c d (i+1)=uP a b c d i+((f.x - d.x)*(f.x - d.x)+(f.y - d.y)*(f.y - d.y))*tw d p q:=by
   match i,hx with
   | 0,e=>exact ⟨a,b,c,(Option.some.inj e).symm,ha,hb,hc,rfl⟩
   | 1,e=>exact ⟨b,c,a,(Option.some.inj e).symm,hb,hc,ha,rfl⟩
   | 2,e=>exact ⟨c,a,b,(Option.some.inj e).symm,hc,ha,hb,rfl⟩
  have t1:=zI hd hp hq
  obtain ⟨f1,f2⟩:=id hf
  refine ⟨trivial,?_⟩
  walk_at "rd"
  refine ⟨hd,hp,hq,?_⟩
  walk_at "rd"
  refine hN _ _ ⟨some p.d,some q.d,some f.d,some (.int (f.x - d.x)),some (.int (f.y - d.y)),?_⟩
  rw [he]
  rfl
 ·rintro ρ M' ⟨y1,y2,y3,y4,y5,rfl⟩
  refine ⟨trivial,?_⟩
  walk_at "rd"
  have e:dep a b c d=uP a b c d 3:=CA a b c d
  rw [e] at h
  exact h
theorem rq (T:Txt K mg t):Binds K t.gF ["_law_triangle","_law_d"] []:=T.iA.binds fun _ _ _ _ _ _ us hl=>match us,hl with | [_,_],_=>rfl
def sG:uD:=fun ds Q=> ∃ a b c d:Pl,ds= [tD [a,b,c],d.d]∧a.Ok 140∧b.Ok 140∧c.Ok 140∧d.Ok 140∧aG a b∧aG a c∧0 < tw a b c∧Q (.bl (decide (fM a b c d)))
theorem rz (T:Txt K mg t):cE P w K mg base iF 3 t.ie t.gF ["_law_triangle","_law_d"] (sU K sG):=by
 refine yc T.iA cP (fun ds Q h=>by (first | (obtain ⟨_,rfl,_⟩:=h;rfl) | (obtain ⟨_,_,rfl,_⟩:=h;rfl) | (obtain ⟨_,_,_,rfl,_⟩:=h;rfl) | (obtain ⟨_,_,_,_,rfl,_⟩:=h;rfl) | (obtain ⟨_,_,_,_,_,rfl,_⟩:=h;rfl) | (obtain ⟨_,_,_,_,_,_,rfl,_⟩:=h;rfl) | (obtain ⟨_,_,_,_,_,_,_,rfl,_⟩:=h;rfl))) (fun cdv A outer s H hr=>?_)
 have hu:=hr.units
 refine ⟨_,(au (B5 (af 0) (wc rfl (cI (bI (i:=2) cP.nd rfl (Or.inl rfl)) (cI (bI (i:=3) cP.nd rfl (Or.inl rfl)) (cI (bI (i:=4) cP.nd rfl (Or.inl rfl)) pR)))))
  (au (cY (aT (Ew hu) (af 1) (af 0) (by with_unfolding_all rfl)) (aC (aN jn)) bK)
  (au (aW (i:=5) cP.nd rfl (Or.inl rfl) (aF (rj T) (hr.mono (by decide)) (by rfl) T.rZ T.iz.kp (rf T) (aa (af 2) (aa (af 3) (aa (af 4) (aa (af 1) ao))))))
  (au (cY (aT (AH hu) (af 5) ai (aL _)) (aC (aN (oh Ho (af 5) ai (aL _)))) bK)
  (aC (aN (JU (oh (lQ hu) (af 1) (af 2) (aL _)) (Gd (oh (lQ hu) (aF (c7 T) (hr.mono (by decide)) (by rfl) T.dZ T.cj.kp (c6 T) (aa (af 3) (aa (af 4) (aa (af 1) ao)))) ai (aL _)))))))))),fun ds Q h=>?_⟩
 obtain ⟨a,b,c,d,rfl,ha,hb,hc,hd,b1,b2,ht,h⟩:=h
 walk_at "rd"
 rw [kg]
 refine fL (fun k=>?_) (fun k=>?_)
 ·walk_at "rd"
  rw [decide_eq_false (EW ht (by simpa using of_decide_eq_true k))] at h
  exact h
 have k:¬ (d=a∨d=b∨d=c):=fun z=>k (decide_eq_true (by simpa using z))
 walk_at "rd"
 refine ⟨ha,hb,hc,hd,?_⟩
 walk_at "rd"
 rw [Ck]
 refine fL (fun q=>?_) (fun q=>?_)
 ·have q:=of_decide_eq_true q
  walk_at "rd"
  have e:decide (fM a b c d)=decide (0 < dep a b c d):=by
   rw [decide_eq_decide,EB (by omega) q,uJ ht]
   exact Vf
  rw [e] at h
  exact h
 have q:dep a b c d=0:=by
  apply Tj
  intro z
  exact q (decide_eq_true z)
 rw [AU b1 b2 ht k q] at h
 walk_at "rd"
 rw [lV]
 refine fL (fun w=>?_) (fun w=>?_)
 ·rw [decide_eq_true (of_decide_eq_true w)] at h
  exact h
 have w:decide (aG d a)=false:=by simpa using w
 rw [w] at h
 walk_at "rd"
 refine ⟨hb,hc,hd,?_⟩
 walk_at "rd"
 exact h
theorem rA (T:Txt K mg t):Binds K t.gG ["_law_places","_law_found"] []:=T.iB.binds fun _ _ _ _ _ _ us hl=>match us,hl with | [_,_],_=>rfl
def sH:x8:=fun ds M Q=> ∃ (l f:Addr) (ps:List Pl) (fs:List (List Pl)),ds= [.ref l,.ref f]∧M l=some (.lst (ps.map Pl.d))∧M f=some (.lst (fs.map tD))∧ps.Nodup∧ps.length≤17∧(∀ q∈ps,q.Ok 140)∧fs.Nodup∧(∀ t,t∈fs↔fE ps t∧rT ps t)∧fs.Pairwise (fun p q=>bZ q p=false)∧fs.length≤44∧Q (.bl true) M
theorem rB (T:Txt K mg t):cE P w K mg base iF 4 t.ig t.gG ["_law_places","_law_found"] (AI K sH):=by
 refine B8 T.iB bB (fun ds M Q h=>by (first | (obtain ⟨_,rfl,_⟩:=h;rfl) | (obtain ⟨_,_,rfl,_⟩:=h;rfl) | (obtain ⟨_,_,_,rfl,_⟩:=h;rfl) | (obtain ⟨_,_,_,_,rfl,_⟩:=h;rfl) | (obtain ⟨_,_,_,_,_,rfl,_⟩:=h;rfl) | (obtain ⟨_,_,_,_,_,_,rfl,_⟩:=h;rfl) | (obtain ⟨_,_,_,_,_,_,_,rfl,_⟩:=h;rfl))) (fun cdv A outer s H hr=>?_)
 have hu:=hr.units
 refine ⟨_,(au (cY (k_not (kK (dg (mS T) (hr.mono (by decide)) (by rfl) T.nU T.eU.kp (mR T) (aa (af 1) (aa (af 0) ao))))) (aC (aN jn)) bK)
  (au (aW (i:=2) bB.nd rfl (Or.inl rfl) Ik)
  (au (uG PassesOwn.never rfl (af 1) (wc rfl (cI (bI (i:=3) bB.nd rfl (Or.inr rfl)) (cI (bI (i:=4) bB.nd rfl (Or.inr rfl)) (cI (bI (i:=5) bB.nd rfl (Or.inr rfl)) pR)))) (au (cY (sP.pt (uA (k_not (aT (lQ hu) (af 3) (b9 (HS hu rfl) (by rfl) T.IL AL (aa (af 4) (aa (af 5) ao))) (aL _))) (oi (aT Nb (aF (c7 T) (hr.mono (by decide)) (by rfl) T.dZ T.cj.kp (c6 T) (aa (af 3) (aa (af 4) (aa (af 5) ao)))) ai (aL _))))) (aC (aN jn)) bK)
  (au (cY (aT (i6 hu) (qc (gI (ys:=["_law_a","_law_b","_law_c"]) (fs:=[3,4,5]) rfl (by show bO (aq cz) ["_law_places","_law_found","_law_sides","_law_a","_law_b","_law_c","_law_side"] _ _ _ _=true;decide +kernel) (af 0) (fun cl C s0 H0 ex=>jI (kK (aF (rz T) (hr.mono (by decide)) (by rfl) T.sj T.iA.kp (rq T) (aa (cH (aa (af 1) (aa (af 2) (aa (af 3) ao)))) (aa (af 0) ao))))) (fun cl C s0 H0 ex=>(af 0)))) (dG ao) (aL _)) (aC (aN jn)) bK)
  (aC (HH PassesOwn.never rfl (aa (cH (aa (af 3) (aa (af 4) ao))) (aa (cH (aa (af 4) (aa (af 5) ao))) (aa (cH (aa (af 5) (aa (af 3) ao))) ao))) (bI (i:=6) bB.nd rfl (Or.inl rfl)) (au (cY (aT (Fe hu) (af 6) (af 2) (by with_unfolding_all rfl)) (aC (aN jn)) bK)
  (aC (B5 jn (Im hu (af 2) (af 6))))))))))
  (au (Ip PassesOwn.never rfl (af 2) (wc rfl (cI (bI (i:=3) bB.nd rfl (Or.inr rfl)) (cI (bI (i:=4) bB.nd rfl (Or.inr rfl)) pR))) (aC (cY (sP.pt (Gb (aT (yD hu) (cH (aa (af 4) (aa (af 3) ao))) (af 2) (by with_unfolding_all rfl)) (BU (aT (i6 hu) (qc (gI (ys:=["_law_a","_law_b"]) (fs:=[3,4]) rfl (by show bO (aq cz) ["_law_places","_law_found","_law_sides","_law_a","_law_b","_law_c","_law_side"] _ _ _ _=true;decide +kernel) (af 0) (fun cl C s0 H0 ex=>jI (aT (lQ hu) (aF (c7 T) (hr.mono (by decide)) (by rfl) T.dZ T.cj.kp (c6 T) (aa (af 1) (aa (af 2) (aa (af 0) ao)))) ai (aL _))) (fun cl C s0 H0 ex=>(af 0)))) (dG ao) (aL _))))) (aC (aN jn)) bK)))
  (aC (aN (JU (oh (i6 hu) (af 1) (dG ao) (aL _)) (Gd (oh (KJ hu) (qc (gI (ys:=["_law_places"]) (fs:=[0]) rfl (by show bO (aq cz) ["_law_places","_law_found","_law_sides","_law_a","_law_b","_law_c","_law_side"] _ _ _ _=true;decide +kernel) (af 0) (fun cl C s0 H0 ex=>jI (aT (AH hu) (aF (c7 T) (hr.mono (by decide)) (by rfl) T.dZ T.cj.kp (c6 T) (aa (aP (af 1) ai) (aa (aP (af 1) (dO ai)) (aa (af 0) ao)))) ai (aL _))) (fun cl C s0 H0 ex=>(af 0)))) (dG ao) (aL _)))))))))),fun ds M Q h=>?_⟩
 obtain ⟨l,f,ps,fs,rfl,hM,hF,nd,lp,ho,Rx,mf,sf,lf,h⟩:=h
 have sl:(1000:Nat) < sizeLine:=by decide
 obtain ⟨qs,hq,hs⟩:=nM ps nd
 have tZ:cu qs:=⟨hs,fun q m=>(ho q (hq.mem_iff.mp m)).2⟩
 have mq:∀ t,t∈fs↔fE qs t∧rT qs t:=fun t=>(mf t).trans (and_congr ⟨fun c=>⟨c.1,fun q m=>hq.mem_iff.mpr (c.2 q m)⟩,fun c=>⟨c.1,fun q m=>hq.mem_iff.mp (c.2 q m)⟩⟩ ⟨fun c d hd=>c d (hq.mem_iff.mp hd),fun c d hd=>c d (hq.mem_iff.mpr hd)⟩)
 have kv:=jT tZ Rx mq
 walk_at "rd"
 refine ⟨f,l,fs,ps,rfl,hF,hM,by omega,sf,fun t ht=>((mf t).mp ht).1,?_⟩
 walk_at "rd"
 intro p hp
 have le:=Le.new (o:=MO.kJ []) hp
 have hP:av M p (.kJ []) p=some (.kJ []):=ah
 generalize av M p (.kJ [])=M1 at le hP ⊢
 walk_at "rd"
 refine ⟨f,_,rfl,le _ _ hF,?_⟩
 refine cg (fun i ρ M'=>(∃ y3 y4 y5 y6:Option L3.D,ρ= [some (.ref l),some (.ref f),some (.ref p),y3,y4,y5,y6])∧Le M M'∧M' p=some (.kJ (vS (aK (fs.take i))))) _ ?_ ?_ ⟨⟨_,_,_,_,rfl⟩,le,hP⟩
 ·rintro i x ρ M' N hx ⟨⟨y3,y4,y5,y6,rfl⟩,le,hP⟩ hN
  obtain ⟨t,ht,rfl⟩:=dU hx
  have mt:=TM ht
  obtain ⟨⟨⟨a,b,c,rfl,b1,b2,pt⟩,hin⟩,cl⟩:=(mf t).mp mt
  have ha:=hin a (by simp)
  have hb:=hin b (by simp)
  have hc:=hin c (by simp)
  refine ⟨le _ _ hF,?_⟩
  walk_at "rd"
  refine ⟨[b,c],rfl,by show 2≤2;decide,by show 2≤4;decide,?_⟩
  obtain ⟨m,em,hm⟩:=Ln b c
  rw [em]
  have bm:aG a m:=by rcases hm with rfl | rfl <;> assumption
  walk_at "rd"
  rw [lV,decide_eq_true bm]
  walk_at "rd"
  refine ⟨ho a ha,ho b hb,ho c hc,?_⟩
  walk_at "rd"
  refine fL (fun k=>absurd (of_decide_eq_true k) (by omega)) (fun _=>?_)
  walk_at "rd"
  refine ⟨l,_,rfl,le _ _ hM,by rw [To];omega,bY.mk (bM (fun j acc M4=>M4=M'∧acc= []) _ ?_ ?_ ⟨rfl,rfl⟩)⟩
  ·rintro j x acc M4 N2 oW ⟨rfl,rfl⟩ kG
   obtain ⟨q,hq',rfl⟩:=uL oW
   have FN:=TM hq'
   refine ⟨le _ _ hM,?_⟩
   walk_at "rd"
   refine ⟨ho a ha,ho b hb,ho c hc,ho q FN,b1,b2,pt,?_⟩
   rw [decide_eq_false (show ¬ fM a b c q from cl q FN)]
   walk_at "rd"
   exact kG _ _ ⟨rfl,rfl⟩
  rintro acc M4 ⟨rfl,rfl⟩
  refine ⟨le _ _ hM,fun u jo=>?_⟩
  have hP:=aj (u:=MO.lst []) hP jo
  have le:=le.trans (Le.new (o:=MO.lst []) jo)
  have hU:av M4 u (.lst []) u=some (.lst []):=ah
  generalize av M4 u (.lst [])=M5 at hP le hU ⊢
  walk_at "rd"
  intro v hv
  refine ⟨_,_,.of (aj hU hv),.of ah,rfl,rfl,?_⟩
  have hP:=aj (u:=MO.lst []) hP hv
  have le:=le.trans (Le.new (o:=MO.lst []) hv)
  generalize av M5 v (.lst [])=M6 at hP le ⊢
  rw [fZ]
  have dt:=tQ ht
  have PF:(aK (fs.take i) ++ [[a,b],[b,c],[c,a]]).Nodup:=by
   rw [show ([[a,b],[b,c],[c,a]]:List (List Pl))=dh [a,b,c] from rfl,← dt]
   exact yP kv.t6.nd _
  have ld:(aK (fs.take i)).length≤200:=by
   have:=jQ (fs.take i)
   rw [Uy] at this
   omega
  rw [Ub] at PF
  obtain ⟨_,Oz,dj⟩:=PF
  have n1: [a,b]∉aK (fs.take i):=fun z=>dj _ z _ (by simp) rfl
  have n2: [b,c]∉aK (fs.take i) ++ [[a,b]]:=fun z=>by
   rcases TU.mp z with z | z
   ·exact dj _ z _ (by simp) rfl
   ·rw [Tt] at z
    exact (TZ.mp Oz).1 [b,c] (by simp) z.symm
  have n3: [c,a]∉(aK (fs.take i) ++ [[a,b]]) ++ [[b,c]]:=fun z=>by
   rcases TU.mp z with z | z
   ·rcases TU.mp z with z | z
    ·exact dj _ z _ (by simp) rfl
    ·rw [Tt] at z
     exact (TZ.mp Oz).1 [c,a] (by simp) z.symm
   ·rw [Tt] at z
    exact (TZ.mp (TZ.mp Oz).2).1 [c,a] (by simp) z.symm
  have e3:aK (fs.take (i+1))=((aK (fs.take i) ++ [[a,b]]) ++ [[b,c]]) ++ [[c,a]]:=by rw [dt];simp [dh]
  generalize aK (fs.take i)=D0 at *
  have keep:∀ {M7:Mp} {o:MO},Le M M7→Le M (av M7 p o):=fun {M7 o} l c o' e=>by
   rw [aZ (fun z=>by rw [z,hp] at e;cases e)]
   exact l _ _ e
  walk_at "rd"
  refine ⟨p,jR [a,b],_,(gK [a,b]).symm,rfl,hP,?_⟩
  rw [kr,decide_eq_false n1]
  walk_at "rd"
  refine ⟨p,_,jR [a,b],rfl,(gK [a,b]).symm,hP,by rw [vn];omega,?_⟩
  rw [vm n1]
  have hP:=ah (M:=M6) (a:=p) (o:=MO.kJ (vS (D0 ++ [[a,b]])))
  have le:=keep (o:=MO.kJ (vS (D0 ++ [[a,b]]))) le
  generalize av M6 p (.kJ (vS (D0 ++ [[a,b]])))=M7 at hP le ⊢
  walk_at "rd"
  refine ⟨p,jR [b,c],_,(gK [b,c]).symm,rfl,hP,?_⟩
  rw [kr,decide_eq_false n2]
  walk_at "rd"
  refine ⟨p,_,jR [b,c],rfl,(gK [b,c]).symm,hP,by rw [vn,TL];simp;omega,?_⟩
  rw [vm n2]
  have hP:=ah (M:=M7) (a:=p) (o:=MO.kJ (vS ((D0 ++ [[a,b]]) ++ [[b,c]])))
  have le:=keep (o:=MO.kJ (vS ((D0 ++ [[a,b]]) ++ [[b,c]]))) le
  generalize av M7 p (.kJ (vS ((D0 ++ [[a,b]]) ++ [[b,c]])))=M8 at hP le ⊢
  walk_at "rd"
  refine ⟨p,jR [c,a],_,(gK [c,a]).symm,rfl,hP,?_⟩
  rw [kr,decide_eq_false n3]
  walk_at "rd"
  refine ⟨p,_,jR [c,a],rfl,(gK [c,a]).symm,hP,by rw [vn,TL,TL];simp;omega,?_⟩
  rw [vm n3,← e3]
  walk_at "rd"
  exact hN _ _ ⟨⟨_,_,_,_,rfl⟩,keep le,ah⟩
 ·rintro ρ M' ⟨⟨y3,y4,y5,y6,rfl⟩,le,hP⟩
  refine ⟨le _ _ hF,?_⟩
  rw [To,Uk] at hP
  walk_at "rd"
  refine ⟨p,_,rfl,hP,?_⟩
  rw [DF]
  refine cg (fun i ρ M'=>(∃ y3 y4 y5 y6:Option L3.D,ρ= [some (.ref l),some (.ref f),some (.ref p),y3,y4,y5,y6])∧Le M M'∧M' p=some (.kJ (vS (aK fs)))) _ ?_ ?_ ⟨⟨_,_,_,_,rfl⟩,le,hP⟩
  ·rintro i x ρ M' N hx ⟨⟨y3,y4,y5,y6,rfl⟩,le,hP⟩ hN
   obtain ⟨w,hw,rfl⟩:=dU hx
   have mw:=TM hw
   obtain ⟨a,b,rfl,ha,hb⟩:=kv.t6.pB w mw
   have ha:=hq.mem_iff.mp ha
   have hb:=hq.mem_iff.mp hb
   refine ⟨hP,?_⟩
   walk_at "rd"
   refine ⟨p,jR [b,a],_,(gK [b,a]).symm,rfl,hP,?_⟩
   rw [kr]
   walk_at "rd"
   by_cases dn: [b,a]∈aK fs
   ·rw [decide_eq_true dn]
    refine BO ?_
    walk_at "rd"
    exact hN _ _ ⟨⟨_,_,_,_,rfl⟩,le,hP⟩
   ·rw [decide_eq_false dn]
    have sd:=kv.t6.bare a b mw dn
    refine MS ?_
    walk_at "rd"
    refine ⟨l,_,rfl,le _ _ hM,by rw [To];omega,bY.mk (bM (fun j acc M4=>M4=M'∧acc= []) _ ?_ ?_ ⟨rfl,rfl⟩)⟩
    ·rintro j x acc M4 N2 oW ⟨rfl,rfl⟩ kG
     obtain ⟨q,hq',rfl⟩:=uL oW
     have FN:=TM hq'
     refine ⟨le _ _ hM,?_⟩
     walk_at "rd"
     refine ⟨ho a ha,ho b hb,ho q FN,?_⟩
     walk_at "rd"
     have:=(sd.2.2.2 q (hq.mem_iff.mpr FN)).1
     refine fL (fun k=>absurd (of_decide_eq_true k) (by omega)) (fun _=>?_)
     exact kG _ _ ⟨rfl,rfl⟩
    rintro acc M4 ⟨rfl,rfl⟩
    refine ⟨le _ _ hM,fun u jo=>?_⟩
    have hP:=aj (u:=MO.lst []) hP jo
    have le:=le.trans (Le.new (o:=MO.lst []) jo)
    have hU:av M4 u (.lst []) u=some (.lst []):=ah
    generalize av M4 u (.lst [])=M5 at hP le hU ⊢
    walk_at "rd"
    intro v hv
    refine ⟨_,_,.of (aj hU hv),.of ah,rfl,rfl,?_⟩
    rw [fZ]
    walk_at "rd"
    exact hN _ _ ⟨⟨_,_,_,_,rfl⟩,le.trans (Le.new hv),aj hP hv⟩
  ·rintro ρ M' ⟨⟨y3,y4,y5,y6,rfl⟩,le,hP⟩
   refine ⟨hP,?_⟩
   walk_at "rd"
   intro e he
   refine ⟨_,_,.of ((Le.new he) _ _ (le _ _ hF)),.of ah,bg fs,rfl,?_⟩
   rw [Ct]
   cases Ou:fs with
   | cons t0 tr=>
     walk_at "rd"
     exact bY.mk ⟨_,le.trans (Le.new he),h⟩
   | nil=>
     have fl:Flat qs:=DG tZ (Ou▸kv)
     walk_at "rd"
     have hE:av M' e (.lst []) e=some (.lst []):=ah
     have le:=le.trans (Le.new (o:=MO.lst []) he)
     generalize av M' e (.lst [])=M2 at hE le ⊢
     refine ⟨l,_,rfl,le _ _ hM,by rw [To];omega,bY.mk (bM (fun j acc M4=>M4=M2∧acc= []) _ ?_ ?_ ⟨rfl,rfl⟩)⟩
     ·rintro j x acc M4 N2 oW ⟨rfl,rfl⟩ kG
      obtain ⟨q,hq',rfl⟩:=uL oW
      have FN:=TM hq'
      refine ⟨le _ _ hM,?_⟩
      obtain ⟨x0,x1,m0,m1,e0,e1⟩:=IF FN
      walk_at "rd"
      refine ⟨_,_,_,.inr (.inr ⟨l,rfl,le _ _ hM⟩),rfl,e0,?_⟩
      walk_at "rd"
      refine ⟨_,_,_,.inr (.inr ⟨l,rfl,le _ _ hM⟩),rfl,e1,?_⟩
      walk_at "rd"
      refine ⟨ho x0 m0,ho x1 m1,ho q FN,?_⟩
      rw [fl x0 (hq.mem_iff.mpr m0) x1 (hq.mem_iff.mpr m1) q (hq.mem_iff.mpr FN)]
      walk_at "rd"
      exact kG _ _ ⟨rfl,rfl⟩
     rintro acc M4 ⟨rfl,rfl⟩
     refine ⟨le _ _ hM,fun u jo=>?_⟩
     walk_at "rd"
     intro v hv
     refine ⟨u,v,_,_,rfl,rfl,aj ah hv,ah,rfl,rfl,?_⟩
     rw [fZ]
     walk_at "rd"
     exact bY.mk ⟨_,le.trans ((Le.new jo).trans (Le.new hv)),h⟩
theorem OA (T:Txt K mg t):Binds K t.yV ["_law_script"] []:=T.GB.binds fun _ _ _ _ _ _ us hl=>match us,hl with | [_],_=>rfl
abbrev DR:=zE
theorem IV (T:Txt K mg t):cE P w K mg base iF 9 t.DJ t.yV ["_law_script"] (sU K DR):=by
 refine yc T.GB eV (fun ds Q h=>by (first | (obtain ⟨_,rfl,_⟩:=h;rfl) | (obtain ⟨_,_,rfl,_⟩:=h;rfl) | (obtain ⟨_,_,_,rfl,_⟩:=h;rfl) | (obtain ⟨_,_,_,_,rfl,_⟩:=h;rfl) | (obtain ⟨_,_,_,_,_,rfl,_⟩:=h;rfl) | (obtain ⟨_,_,_,_,_,_,rfl,_⟩:=h;rfl) | (obtain ⟨_,_,_,_,_,_,_,rfl,_⟩:=h;rfl))) (fun cdv A outer s H hr=>?_)
 have hu:=hr.units
 refine ⟨_,(au (aW (i:=1) eV.nd rfl (Or.inl rfl) (dg (qU T) (hr.mono (by decide)) (by rfl) T.rX T.iw.kp (qT T) (aa (af 0) ao)))
  (au (aW (i:=2) eV.nd rfl (Or.inl rfl) (az cX (aF (cD T) (hr.mono (by decide)) (by rfl) T.cU T.bT.kp (cC T) (aa (af 0) (aa ai ao))) (b9 (Hu rfl) (by rfl) T.IM AM (aa ai (aa (b9 kL (by rfl) T.iC cA (aa (af 1) ao)) ao)))))
  (au (aW (i:=3) eV.nd rfl (Or.inl rfl) (az tH (tL (by rfl) (by rfl) T.ku (by rfl) T.oH (fj (af 1) (jJ (af 2)) wz)) (fj (af 1) wz (jJ (af 2)))))
  (au (aW (i:=4) eV.nd rfl (Or.inl rfl) (Ge Cs (by rfl) T.ku gb (aa (af 1) ao)))
  (au (aW (i:=5) eV.nd rfl (Or.inl rfl) (dg (kU T) (hr.mono (by decide)) (by rfl) T.mL T.fR.kp (kT T) (aa (af 4) ao)))
  (au (cY (sP.pt (uA (aT (i6 hu) (af 4) (af 1) (aL _)) (uA (k_not (kK (dg (rB T) (hr.mono (by decide)) (by rfl) T.sr T.iB.kp (rA T) (aa (af 1) (aa (af 5) ao))))) (oi (aT (i6 hu) (dg (kU T) (hr.mono (by decide)) (by rfl) T.mL T.fR.kp (kT T) (aa (af 3) ao)) (af 5) (aL _)))))) (aC (aN jn)) bK)
  (au (aW (i:=6) eV.nd rfl (Or.inr rfl) (dG ao))
  (au (yb PassesOwn.never rfl (by rfl) T.qQ (aa (b9 kL (by rfl) T.iC cA (aa (af 1) ao)) ao) (bI (i:=7) eV.nd rfl (Or.inl rfl)) (au (aW (i:=8) eV.nd rfl (Or.inl rfl) (dg (ue T) (hr.mono (by decide)) (by rfl) T.xx T.mK.kp (ud T) (aa (fj (af 1) wz (jJ (af 7))) (aa (Ge Cs (by rfl) T.ku gb (aa (af 6) ao)) (aa (aP (af 1) (af 7)) ao)))))
  (au (cY (sP.pt (uA (k_not (kK (b9 sS (by rfl) T.cB bL (aa (af 8) (aa (mZ (by rfl) T.qR jB) ao))))) (oi (aT (AH hu) (b9 kL (by rfl) T.iC cA (aa (af 8) ao)) ai (aL _))))) (aC (aN jn)) bK)
  (au (B5 (af 8) (wc rfl (cI (bI (i:=9) eV.nd rfl (Or.inr rfl)) (cI (bI (i:=10) eV.nd rfl (Or.inl rfl)) (cI (bI (i:=11) eV.nd rfl (Or.inl rfl)) pR)))))
  (au (cY (sP.pt (uA (aT (i6 hu) (qc (gI (ys:=["_law_net"]) (fs:=[6]) rfl (by show bO (aq sI) ["_law_script","_law_places","_law_here","_law_order","_law_handed","_law_found","_law_net","_law_k","_law_told","_law_fallen","_law_come","_law_behind"] _ _ _ _=true;decide +kernel) (af 9) (fun cl C s0 H0 ex=>jI (aT (j8 hu) (af 0) (af 1) (by with_unfolding_all rfl))) (fun cl C s0 H0 ex=>(af 0)))) (dG ao) (aL _)) (oi (aT (i6 hu) (qc (gI (ys:=["_law_net"]) (fs:=[6]) rfl (by show bO (aq sI) ["_law_script","_law_places","_law_here","_law_order","_law_handed","_law_found","_law_net","_law_k","_law_told","_law_fallen","_law_come","_law_behind"] _ _ _ _=true;decide +kernel) (af 10) (fun cl C s0 H0 ex=>jI (aT (Ew hu) (af 0) (af 1) (by with_unfolding_all rfl))) (fun cl C s0 H0 ex=>(af 0)))) (dG ao) (aL _))))) (aC (aN jn)) bK)
  (au (cY (aT (i6 hu) (af 11) (b9 (iN (n:=3) (.inr rfl) hu) (by rfl) T.dJ bQ (aa (az tH (qc (gI (ys:=["_law_fallen"]) (fs:=[9]) rfl (by show bO (aq sI) ["_law_script","_law_places","_law_here","_law_order","_law_handed","_law_found","_law_net","_law_k","_law_told","_law_fallen","_law_come","_law_behind"] _ _ _ _=true;decide +kernel) (af 6) (fun cl C s0 H0 ex=>jI (aT (j8 hu) (af 0) (af 1) (by with_unfolding_all rfl))) (fun cl C s0 H0 ex=>(af 0)))) (af 10)) ao)) (aL _)) (aC (aN jn)) bK)
  (aC (aW (i:=6) eV.nd rfl (Or.inr rfl) (af 11)))))))))
  (aC (aN (oh (Cr hu) (af 6) (af 5) (aL _)))))))))))),fun ds Q h=>?_⟩
 obtain ⟨ns,rfl,hl,h⟩:=h
 have sl:(1000:Nat) < sizeLine:=by decide
 walk_at "rd"
 refine ⟨hl,fun l ps SE nd ho hlen=>?_⟩
 have hP:av JN l (.lst (ps.map Pl.d)) l=some (.lst (ps.map Pl.d)):=ah
 generalize av JN l (.lst (ps.map Pl.d))=M1 at hP ⊢
 walk_at "rd"
 refine ⟨hl,by decide,by decide,fun z=>?_⟩
 walk_at "rd"
 refine ⟨_,_,rfl,.inr (.inr ⟨l,rfl,hP⟩),?_⟩
 obtain ⟨n,en,ln⟩:∃ n:Nat,z % (max 1 (((ps.map Pl.d).length:Nat):Int))=(n:Int)∧n≤ps.length:=by
  rw [To]
  have h0:0≤z % (max 1 (ps.length:Int)):=U1 _ (by omega)
  have h1:z % (max 1 (ps.length:Int)) < max 1 (ps.length:Int):=UO _ (by omega)
  exact ⟨(z % (max 1 (ps.length:Int))).toNat,by omega,by omega⟩
 walk_at "rd"
 dsimp only
 rw [en]
 refine ⟨_,.of hP,fun a ha=>?_⟩
 rw [wA Pl.d ps n ln]
 have hA:av M1 a (.lst ((ps.drop n).map Pl.d)) a=some (.lst ((ps.drop n).map Pl.d)):=ah
 have hP:=aj (u:=MO.lst ((ps.drop n).map Pl.d)) hP ha
 generalize av M1 a (.lst ((ps.drop n).map Pl.d))=M2 at hA hP ⊢
 walk_at "rd"
 refine ⟨_,.of hA,fun b hb=>?_⟩
 rw [← WS]
 have hB:av M2 b (.lst ((ps.drop n).reverse.map Pl.d)) b=some (.lst ((ps.drop n).reverse.map Pl.d)):=ah
 have hP:=aj (u:=MO.lst ((ps.drop n).reverse.map Pl.d)) hP hb
 generalize av M2 b (.lst ((ps.drop n).reverse.map Pl.d))=M3 at hB hP ⊢
 walk_at "rd"
 refine ⟨_,.of hP,fun c hc=>?_⟩
 rw [l7 Pl.d ps n ln]
 have hC:av M3 c (.lst ((ps.take n).map Pl.d)) c=some (.lst ((ps.take n).map Pl.d)):=ah
 have hP:=aj (u:=MO.lst ((ps.take n).map Pl.d)) hP hc
 have hB:=aj (u:=MO.lst ((ps.take n).map Pl.d)) hB hc
 generalize av M3 c (.lst ((ps.take n).map Pl.d))=M4 at hC hB hP ⊢
 walk_at "rd"
 refine ⟨b,c,_,_,rfl,rfl,hB,hC,by rw [To,To,Ua,UL,Uy];omega,fun o ho'=>?_⟩
 rw [← T5]
 have po:((ps.drop n).reverse ++ ps.take n).Perm ps:=by
  have:=(VD (ps.drop n)).append_right (ps.take n)
  refine (this.trans Uc).trans ?_
  rw [Wu]
 generalize (ps.drop n).reverse ++ ps.take n=os at *
 have hO:av M4 o (.lst (os.map Pl.d)) o=some (.lst (os.map Pl.d)):=ah
 have hP:=aj (u:=MO.lst (os.map Pl.d)) hP ho'
 generalize av M4 o (.lst (os.map Pl.d))=M5 at hO hP ⊢
 walk_at "rd"
 refine ⟨_,_,rfl,.of hP,fun e he=>?_⟩
 have hE:av M5 e (.lst (ps.map Pl.d)) e=some (.lst (ps.map Pl.d)):=ah
 have hP:=aj (u:=MO.lst (ps.map Pl.d)) hP he
 have hO:=aj (u:=MO.lst (ps.map Pl.d)) hO he
 generalize av M5 e (.lst (ps.map Pl.d))=M6 at hO hP hE ⊢
 walk_at "rd"
 refine ⟨e,ps,rfl,hE,nd,by omega,ho,fun f us M7 OB hF Jh mu su lu=>?_⟩
 have hP:=OB _ _ hP
 have hO:=OB _ _ hO
 have hE:=OB _ _ hE
 walk_at "rd"
 refine ⟨_,_,.of hE,.of hP,dH ps,dH ps,?_⟩
 rw [iM (dH ps)]
 walk_at "rd"
 refine ⟨l,f,ps,us,rfl,hP,hF,nd,by omega,ho,Jh,mu,su,lu,?_⟩
 walk_at "rd"
 refine ⟨o,os,rfl,hO,po.nodup_iff.mpr nd,by rw [po.length_eq];omega,fun q hq=>ho q (po.mem_iff.mp hq),fun g vs M8 PJ hG PK mv sv lv=>?_⟩
 have ev:vs=us:=by
  refine fk (fW PK Jh fun t=>?_) sv su
  rw [mv,mu]
  exact and_congr ⟨fun c=>⟨c.1,fun q m=>po.mem_iff.mp (c.2 q m)⟩,fun c=>⟨c.1,fun q m=>po.mem_iff.mpr (c.2 q m)⟩⟩ ⟨fun c d hd=>c d (po.mem_iff.mpr hd),fun c d hd=>c d (po.mem_iff.mp hd)⟩
 subst ev
 have hP:=PJ _ _ hP
 have hF:=PJ _ _ hF
 walk_at "rd"
 refine ⟨_,_,.of hG,.of hF,bg vs,bg vs,?_⟩
 rw [iM (bg vs)]
 walk_at "rd"
 intro r hr
 have hR:av M8 r (.lst []) r=some (.lst []):=ah
 have hP:=aj (u:=MO.lst []) hP hr
 have hF:=aj (u:=MO.lst []) hF hr
 generalize av M8 r (.lst [])=M9 at hR hP hF ⊢
 walk_at "rd"
 refine ⟨_,_,rfl,.inr (.inr ⟨l,rfl,hP⟩),?_⟩
 walk_at "rd"
 rw [To]
 refine ⟨by omega,by omega,?_⟩
 refine cg (fun i ρ M'=> ∃ (r:Addr) (us:List (List Pl)) (y7 y8 y9 OC OD:Option L3.D),ρ= [some (.zA (ns.map L3.D.int)),some (.ref l),some (.int n),some (.ref o),some (.ref e),some (.ref f),some (.ref r),y7,y8,y9,OC,OD]∧Le M9 M'∧M' r=some (.lst (us.map tD))∧us.Nodup∧(∀ t,t∈us↔fE (ps.take i) t∧rT (ps.take i) t)∧us.Pairwise (fun p q=>bZ q p=false)∧us.length≤44) _ ?_ ?_ ⟨r,[],_,_,_,_,_,rfl,Le.refl _,hR,.nil,fun t=>⟨fun z=>(by cases z),fun z=>(by obtain ⟨a,b,c,rfl,_,ha,_⟩:=z.1.parts;simp at ha)⟩,.nil,by simp⟩
 rotate_left
 ·rintro ρ M' ⟨r',us,y7,y8,y9,OC,OD,rfl,le',j6,OE,mw,sw,lw⟩
  refine ⟨trivial,?_⟩
  walk_at "rd"
  rw [To,VC,U0,Uk] at mw
  obtain rfl:us=vs:=fk (fW OE PK fun t=>by rw [mw,mu]) sw sv
  refine ⟨_,_,.of j6,.of (le' _ _ hF),bg us,bg us,?_⟩
  rw [iM (bg us)]
  exact h
 ·rintro i x ρ M' N hx ⟨r',us,y7,y8,y9,OC,OD,rfl,le',j6,OE,mw,sw,lw⟩ hN
  obtain ⟨hi,rfl⟩:=m8 hx
  refine ⟨trivial,?_⟩
  have hM':=le' _ _ hP
  rw [U0] at hi
  have hg:ps[i]?=some ps[i]:=Tq hi
  have hA:rC (ps.map Pl.d) (i:Int)=some (ps[i]).d:=o5 (by rw [Uh,hg];rfl)
  have Ow:(ps[i]).Ok 140:=ho _ (VL hi)
  have et:ps.take (i+1)=ps.take i ++ [ps[i]]:=by rw [V5,hg];rfl
  have Lw:(ps.take i ++ [ps[i]]).Nodup:=by rw [← et];exact nd.sublist (VA _ _)
  have np:ps[i]∉ps.take i:=fun z=>(Ub.mp Lw).2.2 _ z _ (by simp) rfl
  generalize ps[i]=p at *
  walk_at "rd"
  refine ⟨_,.of hM',fun c hc=>?_⟩
  rw [l7 Pl.d ps i (by omega)]
  have hC:av M' c (.lst ((ps.take i).map Pl.d)) c=some (.lst ((ps.take i).map Pl.d)):=ah
  have j6:=aj (u:=MO.lst ((ps.take i).map Pl.d)) j6 hc
  have le':=le'.trans (Le.new (o:=MO.lst ((ps.take i).map Pl.d)) hc)
  generalize av M' c (.lst ((ps.take i).map Pl.d))=M2 at hC j6 le' ⊢
  walk_at "rd"
  refine ⟨_,_,rfl,.of j6,fun d hd=>?_⟩
  have hD:av M2 d (.lst (us.map tD)) d=some (.lst (us.map tD)):=ah
  have hC:=aj (u:=MO.lst (us.map tD)) hC hd
  have j6:=aj (u:=MO.lst (us.map tD)) j6 hd
  have le':=le'.trans (Le.new (o:=MO.lst (us.map tD)) hd)
  generalize av M2 d (.lst (us.map tD))=M3 at hC hD j6 le' ⊢
  walk_at "rd"
  refine ⟨_,_,_,.inr (.inr ⟨l,rfl,le' _ _ hP⟩),rfl,hA,?_⟩
  walk_at "rd"
  refine ⟨_,us,hC,hD,(Ub.mp Lw).1,by rw [Uy];omega,fun q hq=>ho q (UK hq),Ow,np,OE,mw,fun f' c' b' fl cm us' M4 Ls xM vO uf hfl Ry OF Il LZ L0 Ox SG=>?_⟩
  have j6:=Ls _ _ j6
  have le':=le'.trans Ls
  have Rz:=OF.length_eq
  rw [TL] at Rz
  have n3:∀ t∈us.filter (fun t=>decide (t∉fl)) ++ cm,t.length=3:=fun t ht=>by
   obtain ⟨_,_,_,rfl,_⟩:=((LZ t).mp (OF.mem_iff.mpr ht)).1.parts
   rfl
  walk_at "rd"
  refine ⟨f',_,rfl,xM,by rw [To];omega,bY.mk (bM (fun j acc M5=>M5=M4∧acc= []) _ ?_ ?_ ⟨rfl,rfl⟩)⟩
  ·rintro j x acc M5 N2 oW ⟨rfl,rfl⟩ kG
   obtain ⟨t,ht,rfl⟩:=dU oW
   refine ⟨xM,?_⟩
   walk_at "rd"
   refine ⟨_,.inr ⟨r',rfl,j6⟩,iP _,bg us,?_⟩
   rw [l8,if_pos rfl,decide_eq_true (hfl t (TM ht))]
   walk_at "rd"
   exact kG _ _ ⟨rfl,rfl⟩
  rintro acc M5 ⟨rfl,rfl⟩
  refine ⟨xM,fun u jo=>?_⟩
  have hU:av M5 u (.lst []) u=some (.lst []):=ah
  have xM:=aj (u:=MO.lst []) xM jo
  have vO:=aj (u:=MO.lst []) vO jo
  have uf:=aj (u:=MO.lst []) uf jo
  have j6:=aj (u:=MO.lst []) j6 jo
  have le':=le'.trans (Le.new (o:=MO.lst []) jo)
  generalize av M5 u (.lst [])=M6 at hU xM vO uf j6 le' ⊢
  walk_at "rd"
  intro v hv
  refine ⟨_,_,.of (aj hU hv),.of ah,rfl,rfl,?_⟩
  rw [fZ]
  have xM:=aj (u:=MO.lst []) xM hv
  have vO:=aj (u:=MO.lst []) vO hv
  have uf:=aj (u:=MO.lst []) uf hv
  have j6:=aj (u:=MO.lst []) j6 hv
  have le':=le'.trans (Le.new (o:=MO.lst []) hv)
  generalize av M6 v (.lst [])=M7 at xM vO uf j6 le' ⊢
  walk_at "rd"
  refine ⟨c',_,rfl,vO,by rw [To];omega,bY.mk (bM (fun j acc M5=>M5=M7∧acc= []) _ ?_ ?_ ⟨rfl,rfl⟩)⟩
  ·rintro j x acc M5 N2 oW ⟨rfl,rfl⟩ kG
   obtain ⟨t,ht,rfl⟩:=dU oW
   refine ⟨vO,?_⟩
   walk_at "rd"
   refine ⟨_,.inr ⟨r',rfl,j6⟩,iP _,bg us,?_⟩
   rw [l8,if_neg (by decide),decide_eq_false (Ry t (TM ht))]
   walk_at "rd"
   exact kG _ _ ⟨rfl,rfl⟩
  rintro acc M8 ⟨rfl,rfl⟩
  refine ⟨vO,fun u2 Lx=>?_⟩
  have PL:av M8 u2 (.lst []) u2=some (.lst []):=ah
  have xM:=aj (u:=MO.lst []) xM Lx
  have vO:=aj (u:=MO.lst []) vO Lx
  have uf:=aj (u:=MO.lst []) uf Lx
  have j6:=aj (u:=MO.lst []) j6 Lx
  have le':=le'.trans (Le.new (o:=MO.lst []) Lx)
  generalize av M8 u2 (.lst [])=RA at PL xM vO uf j6 le' ⊢
  walk_at "rd"
  intro v2 hv2
  refine ⟨_,_,.of (aj PL hv2),.of ah,rfl,rfl,?_⟩
  rw [fZ]
  have xM:=aj (u:=MO.lst []) xM hv2
  have vO:=aj (u:=MO.lst []) vO hv2
  have uf:=aj (u:=MO.lst []) uf hv2
  have j6:=aj (u:=MO.lst []) j6 hv2
  have le':=le'.trans (Le.new (o:=MO.lst []) hv2)
  generalize av RA v2 (.lst [])=ER at xM vO uf j6 le' ⊢
  walk_at "rd"
  refine ⟨r',_,rfl,j6,by rw [To];omega,bY.mk (bM (fun j acc M5=>M5=ER∧acc=((us.take j).filter (fun t=>decide (t∉fl))).map tD) _ ?_ ?_ ⟨rfl,rfl⟩)⟩
  ·rintro j x acc M5 N2 oW ⟨rfl,rfl⟩ kG
   obtain ⟨t,ht,rfl⟩:=dU oW
   refine ⟨j6,?_⟩
   walk_at "rd"
   refine ⟨_,.inr ⟨f',rfl,xM⟩,iP _,bg fl,?_⟩
   rw [l8,if_pos rfl]
   by_cases vP:t∈fl
   ·rw [decide_eq_true vP]
    walk_at "rd"
    refine kG _ _ ⟨rfl,?_⟩
    rw [bu ht,if_neg (by rw [decide_eq_true_iff];exact fun z=>z vP),UR]
   ·rw [decide_eq_false vP]
    walk_at "rd"
    refine kG _ _ ⟨rfl,?_⟩
    rw [bu ht,if_pos (decide_eq_true vP),T5]
    rfl
  rintro acc LY ⟨rfl,hacc⟩
  rw [To,Uk] at hacc
  subst hacc
  refine ⟨j6,fun w hw=>?_⟩
  generalize us.filter (fun t=>decide (t∉fl))=st at *
  have hW:av LY w (.lst (st.map tD)) w=some (.lst (st.map tD)):=ah
  have vO:=aj (u:=MO.lst (st.map tD)) vO hw
  have uf:=aj (u:=MO.lst (st.map tD)) uf hw
  have le':=le'.trans (Le.new (o:=MO.lst (st.map tD)) hw)
  generalize av LY w (.lst (st.map tD))=Lv at hW vO uf le' ⊢
  walk_at "rd"
  refine ⟨w,c',_,_,rfl,rfl,hW,vO,by rw [To,To];omega,fun k hk=>?_⟩
  rw [← T5]
  have hK:av Lv k (.lst ((st ++ cm).map tD)) k=some (.lst ((st ++ cm).map tD)):=ah
  have uf:=aj (u:=MO.lst ((st ++ cm).map tD)) uf hk
  have le':=le'.trans (Le.new (o:=MO.lst ((st ++ cm).map tD)) hk)
  generalize av Lv k (.lst ((st ++ cm).map tD))=Ov at hK uf le' ⊢
  walk_at "rd"
  refine ⟨k,st ++ cm,rfl,hK,n3,by rw [TL];omega,fun m ws hm pw RB=>?_⟩
  obtain rfl:ws=us':=fk (pw.trans OF.symm) RB L0
  refine ⟨_,_,.of (aj uf hm),.of ah,bg ws,bg ws,?_⟩
  rw [iM (bg ws)]
  walk_at "rd"
  refine hN _ _ ⟨b',ws,_,_,_,_,_,rfl,le'.trans (Le.new hm),aj uf hm,Il,?_,L0,Ox⟩
  rw [et]
  exact LZ
end
theorem all_mk {P:Program} {w:World} {h:Heap} {mg:Str→Option Value} {fa:Addr} (Y:HD.YP fs bs h) (G:h.Ns mainGlobals mg) (Oo:mg "law" =some (.ref fa)):∃ (K:PySem.W.Frag) (fd:FuncData),K.In h∧(∀ (s:Shared) (v:Value),BindsTo s fd ⟨[v],[]⟩ [("_law_script",v)])∧∀ base:Heap,K.In base→base.Ns mainGlobals mg→cE P w K mg base iF 9 fa fd ["_law_script"] (sU K DR):=by
 obtain ⟨K,X,H,B⟩:=Y
 unfold fs at H
 unfold bs at B
 obtain ⟨⟨f0,d0,a0,F0⟩,H⟩:=H
 obtain ⟨⟨f1,d1,a1,F1⟩,H⟩:=H
 obtain ⟨⟨f2,d2,a2,F2⟩,H⟩:=H
 obtain ⟨⟨f3,d3,a3,F3⟩,H⟩:=H
 obtain ⟨⟨f4,d4,a4,F4⟩,H⟩:=H
 obtain ⟨⟨f5,d5,a5,F5⟩,H⟩:=H
 obtain ⟨⟨f6,d6,a6,F6⟩,H⟩:=H
 obtain ⟨⟨f7,d7,a7,F7⟩,H⟩:=H
 obtain ⟨⟨f8,d8,a8,F8⟩,H⟩:=H
 obtain ⟨⟨f9,d9,a9,F9⟩,H⟩:=H
 obtain ⟨⟨SH,SI,RC,RD⟩,H⟩:=H
 obtain ⟨⟨SJ,SK,RE,RG⟩,H⟩:=H
 obtain ⟨⟨B6,SM,RH,RI⟩,H⟩:=H
 obtain ⟨⟨SN,SO,RJ,RK⟩,H⟩:=H
 obtain ⟨⟨SQ,SR,RL,RM⟩,H⟩:=H
 obtain ⟨⟨SS,SV,RN,RO⟩,H⟩:=H
 obtain ⟨⟨SW,SX,RP,RQ⟩,H⟩:=H
 obtain ⟨⟨SY,S0,RS,RT⟩,H⟩:=H
 obtain ⟨⟨S1,S2,RU,RV⟩,H⟩:=H
 obtain ⟨⟨S3,S4,RW,RX⟩,H⟩:=H
 obtain ⟨⟨S5,S6,RY,RZ⟩,H⟩:=H
 obtain ⟨⟨S7,S8,R0,R4⟩,H⟩:=H
 obtain ⟨⟨S9,Tc,R5,R6⟩,H⟩:=H
 obtain ⟨⟨Td,Te,R7,R8⟩,H⟩:=H
 obtain ⟨⟨Tf,Tg,R9,Sa⟩,H⟩:=H
 obtain ⟨⟨Th,Ti,PM,PN⟩,H⟩:=H
 obtain ⟨z0,B⟩:=B
 obtain ⟨z1,B⟩:=B
 obtain ⟨z2,B⟩:=B
 obtain ⟨z3,B⟩:=B
 obtain ⟨z4,B⟩:=B
 obtain ⟨z5,B⟩:=B
 obtain ⟨z6,B⟩:=B
 obtain ⟨z7,B⟩:=B
 obtain ⟨z8,B⟩:=B
 obtain ⟨z9,B⟩:=B
 obtain ⟨Sb,B⟩:=B
 have e:=Oo.symm.trans (PySem.W.mg_of X G PM)
 cases e
 have T:Txt K mg ⟨_,_,_,_,_,_,_,_,_,_,_,_,_,_,_,_,_,_,_,_,_,_,_,_,_,_,_,_,_,_,_,_,_,_,_,_,_,_,_,_,_,_,_,_,_,_,_,_,_,_,_,_⟩:=⟨F0,PySem.W.mg_of X G a0,F1,PySem.W.mg_of X G a1,F2,PySem.W.mg_of X G a2,F3,PySem.W.mg_of X G a3,F4,PySem.W.mg_of X G a4,F5,PySem.W.mg_of X G a5,F6,PySem.W.mg_of X G a6,F7,PySem.W.mg_of X G a7,F8,PySem.W.mg_of X G a8,F9,PySem.W.mg_of X G a9,RD,PySem.W.mg_of X G RC,RG,PySem.W.mg_of X G RE,RI,PySem.W.mg_of X G RH,RK,PySem.W.mg_of X G RJ,RM,PySem.W.mg_of X G RL,RO,PySem.W.mg_of X G RN,RQ,PySem.W.mg_of X G RP,RT,PySem.W.mg_of X G RS,RV,PySem.W.mg_of X G RU,RX,PySem.W.mg_of X G RW,RZ,PySem.W.mg_of X G RY,R4,PySem.W.mg_of X G R0,R6,PySem.W.mg_of X G R5,R8,PySem.W.mg_of X G R7,Sa,PySem.W.mg_of X G R9,PN,PySem.W.mg_of X G PM,PySem.W.mg_none_of X G z0,PySem.W.mg_none_of X G z1,PySem.W.mg_none_of X G z2,PySem.W.mg_none_of X G z3,PySem.W.mg_none_of X G z4,PySem.W.mg_none_of X G z5,PySem.W.mg_none_of X G z6,PySem.W.mg_none_of X G z7,PySem.W.mg_none_of X G z8,PySem.W.mg_none_of X G z9,PySem.W.mg_none_of X G Sb⟩
 refine ⟨K,_,X,fun s v=>?_,fun base _ _=>IV T⟩
 obtain ⟨_,_,_,_,_,_,_,_,_,rfl,_,_⟩:=PN.ex
 exact .of_eq rfl
end Pf
open PySem PySem.W PyProof.Rows
set_option maxRecDepth 100000 in
set_option maxHeartbeats 0 in
theorem PySem.Challenge.cw_nearland_k43_put_in_any_order_holds : PySem.Challenge.rw_nearland_k43_put_in_any_order.Holds := by
 refine holds_law Pf.said fun said=>?_
 refine holds_open (q:=Pf.view) (loose:=Pf.loose) (Xt:=fun s=>xlAt Pf.view [] s && recOk (RowW.records (OpenRow.toRowW PySem.Challenge.rw_nearland_k43_put_in_any_order.row)) s) (XP:=XL Pf.view []) (Yf:=HD.DZ Pf.fs Pf.bs) (Ya:=fun _=>HD.good Pf.fs Pf.bs) (YP:=fun _ h=>HD.YP Pf.fs Pf.bs h) (N:=3762) Pf.left (fun _ _ e=>HD.II e) (fun _ _ _ y k=>HD.keeps y k) (fun s e=>xl_of s (VN.mp e).1) XL.keeps (by rfl) (by rfl) (by rfl) (fun s e=>recFacts_of (VN.mp e).2) (by rfl) said (by decide +kernel) ⟨rfl,rfl,rfl,rfl,rfl,by decide +kernel⟩ (by w_witness2) ?hc
 refine HD.DI (l:=PySem.Challenge.rw_nearland_k43_put_in_any_order) (n:=63) (k:=9) (x:= "_law_script") (CX:=L2.iF) (sp:=fun K=>L3.sU K Pf.DR) rfl (by decide) rfl ⟨rfl,by decide,by decide⟩ (fun w mg fa h Y G hmg=>Pf.all_mk Y G hmg) (fun K H a ns hl hb hO hS=>L3.HK hl hO hS) (fun _ _ _ _ z=>z)
