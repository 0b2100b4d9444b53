import PyProof.Rows.All
import Wide.All
import OpenK.AllK
import Wide.FinOn
import Lean
import PyProof.EqAt
import PyProof.EqKinds
import PyProof.TupleCall
import PySem.Challenge.RW_nearland_k33_turned_over
set_option Elab.async false
set_option linter.all false
set_option maxRecDepth 100000
open Bool renaming false_eq_true->Xs,false_ne_true->Xv,and_eq_true->X3,and_eq_true_iff->Yc,eq_iff_iff->Yk,not_true->Yo,not_eq_true'->YF,not_false->YQ,false_and->ZG,eq_false_iff->ZS,and_false->aaa,or_true->aap
open Classical renaming byContradiction->Xk
open Int renaming mul_nonpos_of_nonpos_of_nonneg->XM,mul_nonneg->XY,mul_nonneg_of_nonpos_of_nonpos->XZ,mul_sub->X0,mul_neg_of_pos_of_neg->X8,mul_zero->Ye,sign_eq_neg_one_of_neg->Yg,mul_nonpos_of_nonneg_of_nonpos->Yh,mul_eq_zero->Yu,lt_or_lt_of_ne->Yw,sign_eq_one_of_pos->Yy,mul_pos_of_neg_of_neg->YA,mul_neg_of_neg_of_pos->YB,zero_mul->YH,mul_pos->YJ,emod_lt_of_pos->YK,emod_nonneg->YX,lt_trichotomy->YZ,le_refl->Y4,add_zero->Zb,lt_or_gt_of_ne->Zk,toNat_natCast->Zo,sign_zero->Zw,sign_eq_neg_one_iff_neg->ZI,lt_or_eq_of_le->ZK,le_of_lt->ZY,le_total->Z1,neg_mul_neg->Z7,mul_one->Z8,zero_add->aal
open List renaming length_map->Xi,mem_cons->Xj,mem_cons_of_mem->Xl,getElem?_eq_getElem->Xm,mem_singleton->Xq,size_toArray->Xr,mem_cons_self->Xu,mem_append_left->Xx,mem_filter->Xy,length_cons->Xz,length_append->XA,map_append->XD,getD_eq_getElem?_getD->XE,nodup_cons->XF,getElem?_eq_some_iff->XH,mem_append->XI,mem_of_getElem?->XJ,mem_append_right->XN,map_cons->XQ,not_mem_nil->XR,append_nil->XS,getElem?_map->XT,length_reverse->XU,mem_map->XW,perm_append_comm->XX,take_length->X6,pairwise_cons->X7,lookup_cons->X9,mem_reverse->Yb,mem_of_mem_take->Yd,length_take->Yi,find?_cons->Yl,all_eq_true->Ym,length_dropLast->Yp,length_drop->Yq,reverse_cons->Yr,length_nil->Yt,zip_cons_cons->Yv,getElem?_eq_none->YC,getLast?_eq_some_getLast->YD,flatMap_cons->YE,getElem?_set_self->YG,mem_of_getLast?->YL,nodup_append->YM,getElem_mem->YN,perm_cons->YR,take_succ->YS,getElem?_append_right->YT,getElem?_zipWith->YU,getLast?_reverse->YV,getElem?_append_left->YY,getElem?_set_ne->Y0,toList_toArray->Y3,mem_flatMap->Y5,filter_cons_of_neg->Y6,zip_nil_right->Y7,forIn_cons->Y8,mem_iff_getElem?->Y9,filter_congr->Za,pairwise_append->Zc,mem_of_mem_drop->Zd,all_cons->Zf,drop_eq_getElem_cons->Zg,mem_filterMap->Zi,head?_reverse->Zj,forIn_nil->Zn,mapM_toArray->Zp,length_singleton->Zq,all_toArray->Zr,filter_cons->Zt,mem_of_mem_head?->Zu,length_filter_le->Zv,of_mem_zip->Zx,foldl_cons->Zy,all_map->ZA,filterMap_cons->ZC,length_zipWith->ZD,length_pos_iff->ZE,mem_range->ZF,nodup_nil->ZH,filter_append->ZJ,ne_nil_of_mem->ZL,take_sublist->ZM,pairwise_iff_getElem->ZN,length_range->ZO,map_take->ZP,getLast?_eq_getElem?->ZQ,reverse_perm->ZR,getElem?_take_of_lt->ZU,length_erase_of_mem->ZV,zipIdx_cons->ZW,getElem?_replicate->ZX,length_eq_zero_iff->ZZ,filter_cons_of_pos->Z0,take_of_length_le->Z2,drop_of_length_le->Z3,zipIdx_nil->Z5,length_pos_of_mem->Z6,pairwise_reverse->Z9,drop_zero->aab,mem_erase_of_ne->aac,dropLast_subset->aad,map_drop->aae,flatMap_append->aaf,perm_singleton->aah,map_eq_nil_iff->aai,contains_cons->aak,map_map->aao,zip_nil_left->aaq,ext_getElem?->aar,append_assoc->aas,foldl_append->aat,map_snd_zip->aaw,any_eq_true->aax,perm_middle->aay,take_zero->aaA,drop_drop->aaB
open Nat renaming le_refl->Xn,lt_of_lt_of_le->Xp,ne_of_lt->XG,le_add_right->X4,ne_of_gt->X5,le_trans->Yj,zero_le->Yn,lt_irrefl->Ys,lt_succ_of_lt->Yz,le_succ->YI,not_lt->YW,lt_succ_self->Ze,add_lt_add_left->Zh,le_of_lt->Zl,lt_or_ge->Zm,le_of_eq->Zz,not_lt_zero->Z4,add_assoc->aag,eq_zero_or_pos->aaj,sub_zero->aam,min_self->aan,succ_ne_self->aav,min_eq_left->aaz
open Option renaming map_eq_some_iff->Yx,isSome_iff_exists->ZT,getD_none->aau
namespace HD
open PySem PySem.W PySem.Calls
noncomputable def Fj(p:Program)(w:World)(n₀:Nat)(ann:Option Value):Nat->SharedT->Thread->Option SharedT
 |0,_,_=>none
 |n+1,s,t=>match through t with
  |true=>some s
  |false=>match stepOk n₀ ann t with
   |false=>none
   |true=>match stepT (denote treeTable) p w s t with
    |some (s',t')=>Fj p w n₀ ann n s' t'
    |none=>none
theorem zM{p:Program}{w:World}{n₀:Nat}{ann:Option Value}:∀{n:Nat} {s s':SharedT} {t:Thread},Fj p w n₀ ann n s t=some s'->topRun treeTable p w n₀ ann n s.abs t=some s'.abs
 |0,_,_,_,h=>nomatch h
 |n+1,s,s',t,h=>by
  unfold Fj at h
  unfold topRun
  cases a:through t with
  |true=>rw[a]at h;cases h;rfl
  |false=>
   rw[a]at h
   dsimp only at h ⊢
   cases b:stepOk n₀ ann t with
   |false=>rw[b]at h;cases h
   |true=>
    rw[b]at h
    dsimp only at h ⊢
    cases c:stepT (denote treeTable) p w s t with
    |none=>rw[c]at h;cases h
    |some x=>
     obtain⟨s1,t1⟩:=x
     rw[c]at h
     rw[stepT_spec c]
     exact zM h
noncomputable def Cs(P:Params):BT:=((boot_heap P).objs.toList.foldl (λx o=>(x.1.ins x.2 o,x.2+1)) (BT.nil,0)).1
theorem AZ(P:Params):absHeap (Cs P) 11 (boot_heap P).life=boot_heap P:=by kernel_rfl
theorem A0(w:World):((boot_heap w.params).isNs mainGlobals && (#[]:Array GenState).size==0,(boot_heap w.params).objs.size,(boot_heap w.params).nsMap mainGlobals "__annotations__")=(true,11,some (.ref 6)):=by kernel_rfl
theorem A1{p q:Program}{loose:List Str}{Xt:Shared->Bool}{α:Type}{Yf:Shared->α}{Ya:World->α}{N M:Nat}(e:opening p=plainProg p.main.scope.names)(hN:Nat.ble 600 N=true)(f:∀s,fenceModules? p s=some s)(le:Nat.ble M N=true)
 (run:∀(w:World) (os:OsState),(Fj p w 11 (some (.ref 6)) M ⟨Cs w.params,11,(boot_heap w.params).life,#[],boot_drawn,boot_toks,os⟩ (topStub p)).map (λsT=>
  (staticsOk (importedModules p.main.body) (boot_heap w.params) sT.abs.heap && namesBound p sT.abs.heap && gensDone sT.abs && laidKept (boot_heap w.params) sT.abs.heap,openSeen q loose (importedModules p.main.body) Xt true sT.abs,Yf sT.abs))=some (true,openGood q loose,Ya w)):LeftO p q loose Xt Yf Ya N:=λw=>by
 obtain⟨⟨h,gs,d,k,os⟩,e,e'⟩:=Yx.mp (boot_open e hN f w)
 obtain⟨rfl,rfl,rfl,rfl⟩:h=boot_heap w.params/\gs=Array.mk []/\d=boot_drawn/\k=boot_toks:=by simpa using e'
 obtain⟨z1,z2,z3⟩:_/\_/\_:=by simpa only[Prod.mk.injEq]using A0 w
 obtain⟨sT,e1,e2⟩:=Yx.mp (run w os)
 obtain⟨l1,l2,l3⟩:_/\_/\_:=by simpa only[Prod.mk.injEq]using e2
 have r:=topRun_mono (N-M) _ _ _ _ (zM e1)
 rw[show M+(N-M)=N by have:=Nat.le_of_ble_eq_true le;omega]at r
 have a:SharedT.abs ⟨Cs w.params,11,(boot_heap w.params).life,#[],boot_drawn,boot_toks,os⟩= ⟨boot_heap w.params,Array.mk [],boot_drawn,boot_toks,os⟩:=by
  unfold SharedT.abs
  dsimp only
  rw[AZ]
 rw[a]at r
 have t:topFrom treeTable p w N ⟨boot_heap w.params,Array.mk [],boot_drawn,boot_toks,os⟩=some sT.abs:=by
  unfold topFrom
  dsimp only
  rw[z1,z2,z3,r]
  show(match staticsOk (importedModules p.main.body) (boot_heap w.params) sT.abs.heap && namesBound p sT.abs.heap && gensDone sT.abs && laidKept (boot_heap w.params) sT.abs.heap with|true=>_|false=>_)=_
  rw[l1]
 unfold openEnds
 rw[e]
 show(topFrom treeTable p w N _).map _=_
 rw[t]
 exact congrArg some (Prod.ext l2 l3)
noncomputable def dA(s:Stmt):Arguments:=match s with
 | .FunctionDef _ a _ _ _ _ _ _ _ _=>a
 |_=>{posonlyargs:=[],args:=[],vararg:=none,kwonlyargs:=[],kw_defaults:=[],kwarg:=none,defaults:=[]}
noncomputable def dB(s:Stmt):List Stmt:=match s with
 | .FunctionDef _ _ b _ _ _ _ _ _ _=>b
 |_=>[]
noncomputable def dS(s:Stmt):Scope:=match s with
 | .FunctionDef _ _ _ _ _ _ sc _ _ _=>sc
 |_=>{kind:= .function,names:=[],isGenerator:=false,isCoroutine:=false}
noncomputable abbrev pr(n:Str)(st:Stmt):Str ×Stmt:=(n,st)
noncomputable def IM(h:Heap)(n:Str):Option (Option Value):=match h.get? mainGlobals with
 |some o=>nsIn [(mainGlobals,o)] mainGlobals n
 |none=>none
noncomputable def fnAt(h:Heap)(n:Str):Option (Addr ×FuncData):=match IM h n with
 |some (some (.ref f))=>(match h.get? f with
  |some ⟨_,_,.func fd,_⟩=>some (f,fd)
  |_=>none)
 |_=>none
noncomputable def iW(h:Heap)(v:Value):Option Str:=match v with
 | .ref c=>(match h.get? c with
   |some ⟨_,_,.fields vs,_⟩=>(match vs.toList with
    |_:: .str q _::_=>some q
    |_=>none)
   |_=>none)
 |_=>none
noncomputable def blank(fd:FuncData):FuncData:={fd with kwdefaults:= .none,doc:= .none,pyModule:= .none,annotations:=none,code:= .none,closureTuple:= .none}
noncomputable abbrev Seen:=List (Option (FuncData ×Option Str)) ×List (Option (Option Value))
noncomputable def A2(fs:List (Str ×Stmt))(bs:List Str)(s:Shared):Seen:=
 (fs.map λp=>(fnAt s.heap p.1).map λx=>(blank x.2,iW s.heap x.2.code),bs.map λb=>IM s.heap b)
noncomputable def good(fs:List (Str ×Stmt))(bs:List Str):Seen:=
 (fs.map λp=>some (fnOf p.1 p.1 (dA p.2) (dB p.2) (dS p.2) .none .none .none .none none .none .none,some p.1),bs.map λ_=>some none)
noncomputable def wG(h:Heap):List Addr->Frag
 |[]=>[]
 |a::r=>match h.get? a with
  |some o=>(a,o)::wG h r
  |none=>wG h r
noncomputable def adr(h:Heap)(n:Str):List Addr:=match fnAt h n with
 |some (f,fd)=>f::(match fd.code with| .ref c=>[c]|_=>[])
 |none=>[]
noncomputable def LM(h:Heap)(fs:List (Str ×Stmt)):List Addr:=mainGlobals::fs.flatMap λp=>adr h p.1
end HD
namespace HD
open PySem PySem.W PySem.Calls
noncomputable def S9(s:Stmt)(j:Nat):Stmt:=match s with
 | .ClassDef _ _ _ b _ _ _ _ _ _ _=>b.getD j (.Pass ⟨0,0,0,0⟩)
 |s=>s
noncomputable def clsAt(h:Heap)(n:Str):Option (Addr ×ClassData):=match IM h n with
 |some (some (.ref C))=>(match h.get? C with
  |some ⟨_,_,.cls cd,_⟩=>some (C,cd)
  |_=>none)
 |_=>none
noncomputable def O3(h:Heap)(n:Str):List Addr:=match clsAt h n with
 |some (C,cd)=>[C,cd.ns]
 |none=>[]
noncomputable def Ct(h:Heap)(n:Str):Option (Addr ×FuncData):=match clsAt h n with
 |some (_,cd)=>(match h.get? cd.ns with
  |some o=>(match nsIn [(cd.ns,o)] cd.ns "__init__" with
   |some (some (.ref i))=>(match h.get? i with
    |some ⟨_,_,.func fd,_⟩=>some (i,fd)
    |_=>none)
   |_=>none)
  |none=>none)
 |none=>none
noncomputable def Fl(h:Heap)(n:Str):List Addr:=match Ct h n with
 |some (i,fd)=>i::(match fd.code with| .ref c=>[c]|_=>[])
 |none=>[]
noncomputable def lM(h:Heap)(fs:List (Str ×Stmt))(cs:List Str)(R:Str):List Addr:=LM h fs++(cs.flatMap (O3 h)++Fl h R)
noncomputable def A3(r:Option (Option Value))(s:String):Bool:=match r with
 |some (some (.builtin x))=>x==s
 |_=>false
noncomputable def Ou(r:Option (Option Value)):Bool:=match r with
 |some none=>true
 |_=>false
noncomputable def Fo(r:Option (Option Value))(a:Addr):Bool:=match r with
 |some (some (.ref x))=>x==a
 |_=>false
noncomputable def Fe(r:Option Bool)(b:Bool):Bool:=match r with
 |some x=>x==b
 |none=>false
noncomputable abbrev yB:List Value:=[.type "ValueError",.type "Exception",.type "BaseException",.type "object"]
noncomputable def yT(K:Frag)(C:Addr):Bool:=match K.lookup C with
 |some ⟨.type "type",_,.cls cd,sl⟩=>(match cd.mro,sl.toList with
  | .ref C'::bm,[_,_,_,_,some (.builtin n),_]=>C'==C && n== "ValueError.__new__" && !cd.hasDel && tailIn K yB bm
  |_,_=>false)
 |_=>false
noncomputable def yV:List Value->Bool
 | .ref _::r=>yV r
 |l=>l==yB
noncomputable def O4(K:Frag)(C:Addr):Bool:=(clsIn K C).any λcd=>yV cd.mro && cd.hasDict
noncomputable def Cu(K:Frag)(cs:List Str)(R at_:Str)(ad:Str->Addr)(i:Addr):List Bool:=
 [A3 (findIn K (.ref (ad R)) "__getattribute__") "BaseException.__getattribute__",Ou (findIn K (.ref (ad R)) "__getattr__"),A3 (findIn K (.ref (ad R)) "__class__") "object.__class__",
  Fe (subIn K (.ref (ad R)) (.type "BaseException")) true,Fe (mroIn K (ad R) (.type "object")) true,isClsIn K (ad R),yT K (ad R),A3 (specialIn K (.ref (ad R)) "__call__") "type.__call__",
  Fe (instIn K (.ref (ad R)) (.type "type")) true,keepIn K (.ref (ad R)),hasDictIn K (ad R),O4 K (ad R),A3 (findIn K (.ref (ad R)) "__setattr__") "object.__setattr__",
  Fo (findIn K (.ref (ad R)) "__init__") i,isFn K (.ref i),keepIn K (.ref i),Ou (findIn K (.ref (ad R)) at_),Fe (kitOne K (.ref (ad R)) (.type "ValueError")) true,
  yT K (ad "NearError"),Fe (subIn K (.ref (ad "NearError")) (.type "BaseException")) true,Fe (subIn K (.ref (ad R)) (.ref (ad "NearError"))) true,Fe (subIn K (.ref (ad R)) (.ref (ad R))) true] ++
 cs.map λc=>Fo (nsIn K mainGlobals c) (ad c) && Fe (kitOne K (.ref (ad R)) (.ref (ad c))) (c==R || c== "NearError")
noncomputable def IP(h:Heap)(c:Str):Addr:=match clsAt h c with
 |some (C,_)=>C
 |none=>0
noncomputable def IQ(h:Heap)(fs:List (Str ×Stmt))(cs:List Str)(R at_:Str):Bool:=match Ct h R with
 |some (i,_)=>(Cu (wG h (lM h fs cs R)) cs R at_ (IP h) i).all id
 |none=>false
noncomputable abbrev HN:=Seen ×Option (FuncData ×Option Str) ×Bool
noncomputable def IS(fs:List (Str ×Stmt))(bs cs:List Str)(R at_:Str)(s:Shared):HN:=
 (A2 fs bs s,(Ct s.heap R).map λx=>(blank x.2,iW s.heap x.2.code),IQ s.heap fs cs R at_)
noncomputable def good2(fs:List (Str ×Stmt))(bs:List Str)(qn:Str)(st:Stmt):HN:=
 (good fs bs,some (fnOf "__init__" qn (dA st) (dB st) (dS st) .none .none .none .none none .none .none,some qn),true)
end HD
namespace  Pf
open PySem PySem.W PyProof.Rows
noncomputable def top(i:Nat):Stmt:=PySem.Challenge.pw_nearland_k33_turned_over.main.body.getD i (.Pass ⟨0,0,0,0⟩)
noncomputable abbrev jT:Stmt:=top 32
noncomputable abbrev jU:Stmt:=top 31
noncomputable abbrev nQ:Stmt:=top 30
noncomputable abbrev iA:Stmt:=top 33
noncomputable abbrev jV:Stmt:=top 40
noncomputable abbrev jf:Stmt:=top 34
noncomputable abbrev fM:Stmt:=top 35
noncomputable abbrev bM:Stmt:=top 39
noncomputable abbrev iB:Stmt:=top 41
noncomputable abbrev qi:Stmt:=top 21
noncomputable abbrev gv:Stmt:=top 25
noncomputable abbrev gw:Stmt:=top 19
noncomputable abbrev yw:Stmt:=top 18
noncomputable abbrev yx:Stmt:=top 9
noncomputable abbrev uV:Stmt:=top 11
noncomputable abbrev yy:Stmt:=top 12
noncomputable abbrev lV:Stmt:=top 26
noncomputable abbrev jg:Stmt:=top 27
noncomputable abbrev iC:Stmt:=top 20
noncomputable abbrev cX:Stmt:=top 28
noncomputable abbrev jW:Stmt:=top 42
noncomputable abbrev jh:Stmt:=top 43
noncomputable abbrev gA:Stmt:=top 14
noncomputable abbrev nR:Stmt:=top 15
noncomputable abbrev fN:Stmt:=top 16
noncomputable abbrev kZ:Stmt:=top 23
noncomputable abbrev lW:Stmt:=top 36
noncomputable abbrev eK:Stmt:=top 37
noncomputable abbrev jX:Stmt:=top 38
noncomputable abbrev dI:Stmt:=top 44
noncomputable abbrev Cw:Stmt:=top 45
noncomputable def view:Program:={PySem.Challenge.pw_nearland_k33_turned_over with main:={PySem.Challenge.pw_nearland_k33_turned_over.main with body:=[top 45]}}
noncomputable def loose:List Str:=(["NearError","NoNumber","Flat","Twice","NoPlace","Stiff","Crossed","sign","twice","turn","without_bays","outline","outline_sides","back","side_between","triangle_of","rounds","swept","left_corners","can_turn","other_side","turned_over","_law_at","_law_spot","_law_many","_law_places","_law_twice","_law_triangle","_law_int","_law_places_of","_law_rows","_law_flipped","_law_pick","_law_shaken","_law_word","_law_stiff","_law_asked"]:List String).map Str.ofString
noncomputable def fs:List (Str ×Stmt):=[HD.pr "_law_many" jT,HD.pr "_law_spot" jU,HD.pr "_law_at" nQ,HD.pr "_law_places" iA,HD.pr "_law_pick" jV,HD.pr "_law_twice" jf,HD.pr "_law_triangle" fM,HD.pr "_law_flipped" bM,HD.pr "_law_shaken" iB,HD.pr "rounds" qi,HD.pr "left_corners" gv,HD.pr "side_between" gw,HD.pr "back" yw,HD.pr "sign" yx,HD.pr "twice" uV,HD.pr "turn" yy,HD.pr "can_turn" lV,HD.pr "other_side" jg,HD.pr "triangle_of" iC,HD.pr "turned_over" cX,HD.pr "_law_word" jW,HD.pr "_law_stiff" jh,HD.pr "without_bays" gA,HD.pr "outline" nR,HD.pr "outline_sides" fN,HD.pr "swept" kZ,HD.pr "_law_int" lW,HD.pr "_law_places_of" eK,HD.pr "_law_rows" jX,HD.pr "_law_asked" dI,HD.pr "law" Cw]
noncomputable def bs:List Str:=["min","max","len","sorted","tuple","isinstance","ValueError","list","reversed","zip","range","int"]
noncomputable def cs:List Str:=["NearError","NoNumber","Flat","Twice","NoPlace","Stiff","Crossed"]
noncomputable abbrev iX:Stmt:=HD.S9 (top 6) 0
set_option maxHeartbeats 0 in
theorem said:PySem.Challenge.rw_nearland_k33_turned_over.wellSaid=true:=by
 unfold OpenLaw.wellSaid OpenRow.wellSaid OpenRow.partSaid looksOpen
 repeat' (with_reducible refine look_both ?_ ?_)
 all_goals decide +kernel
set_option maxHeartbeats 0 in
theorem left:LeftO PySem.Challenge.rw_nearland_k33_turned_over.row.prog view loose (λs=>xlAt view [] s && recOk (RowW.records (OpenRow.toRowW PySem.Challenge.rw_nearland_k33_turned_over.row)) s) (HD.IS fs bs cs "Stiff" "side") (λ_=>HD.good2 fs bs "Stiff.__init__" iX) 5960:=HD.A1 (M:=2730) (by kernel_rfl) (by kernel_rfl) (λs=>by kernel_rfl) (by kernel_rfl) (λw os=>by kernel_rfl)
end Pf
namespace L2
open PySem PySem.Spec PyProof.Rows
noncomputable abbrev Key:=Sum Int Str
noncomputable def HP:Key->Value->Bool
 | .inl k,v=>Value.isInt k v
 | .inr x,v=>Value.isStrOf x v
noncomputable def O5(w:World):Key->Int
 | .inl k=>hashInt k
 | .inr x=>hashStr w x
theorem bR:∀{k:Key} {v:Value},HP k v=true->(∃i t,k=Sum.inl i/\v=Value.int i t)\/(∃x t,k=Sum.inr x/\v=Value.str x t)
 | .inl i,v,h=>by
   obtain⟨t,e⟩:=Value.isInt_shape (k:=i) (v:=v) h
   exact .inl ⟨i,t,rfl,e⟩
 | .inr x,v,h=>by
   obtain⟨t,e⟩:=Value.isStrOf_shape (x:=x) (v:=v) h
   exact .inr ⟨x,t,rfl,e⟩
theorem IT(a b:Int):decide ((Sum.inl a:Key)=Sum.inl b)=(a==b):=by
 by_cases e:a=b
 ·subst e;simp
 ·have h:¬(Sum.inl a:Key)=Sum.inl b:=λq=>e (Sum.inl.inj q)
  rw[decide_eq_false h]
  exact(beq_eq_false_iff_ne.mpr e).symm
theorem IU(a b:Str):decide ((Sum.inr a:Key)=Sum.inr b)=decide (a=b):=by
 by_cases e:a=b
 ·subst e;simp
 ·have h:¬(Sum.inr a:Key)=Sum.inr b:=λq=>e (Sum.inr.inj q)
  rw[decide_eq_false h,decide_eq_false e]
theorem IV(a:Int)(b:Str):decide ((Sum.inl a:Key)=Sum.inr b)=false:=decide_eq_false (λq=>nomatch q)
theorem IW(a:Str)(b:Int):decide ((Sum.inr a:Key)=Sum.inl b)=false:=decide_eq_false (λq=>nomatch q)
noncomputable def zN(prog:Program)(w:World):PySem.KeyKind prog w Key where
 is:=HP
 hash:=O5 w
 inj:=λv a b ha hb=>by
  rcases bR ha with⟨i,t,rfl,rfl⟩|⟨x,t,rfl,rfl⟩
  ·rcases bR hb with⟨j,u,rfl,e⟩|⟨y,u,rfl,e⟩
   ·injection e with e1 _;rw[e1]
   ·exact nomatch e
  ·rcases bR hb with⟨j,u,rfl,e⟩|⟨y,u,rfl,e⟩
   ·exact nomatch e
   ·injection e with e1 _;rw[e1]
 byValue:=λk v h=>by
  rcases bR h with⟨i,t,rfl,rfl⟩|⟨x,t,rfl,rfl⟩<;>rfl
 pyHash:=λhv h=>by
  rcases bR hv with⟨i,t,rfl,rfl⟩|⟨x,t,rfl,rfl⟩
  ·exact wpAny_pyHash_int h
  ·exact wpAny_pyHash_str h
 eqBool:=λhu hv h=>by
  rcases bR hu with⟨i,t,rfl,rfl⟩|⟨x,t,rfl,rfl⟩
  ·rcases bR hv with⟨j,u,rfl,rfl⟩|⟨y,u,rfl,rfl⟩
   ·rw[IT]at h;exact wpAny_eqBool_int h
   ·rw[IV]at h;exact SeqAt.EqAt.int_str i t y u _ _ _ _ h
  ·rcases bR hv with⟨j,u,rfl,rfl⟩|⟨y,u,rfl,rfl⟩
   ·rw[IW]at h;exact SeqAt.EqAt.str_int x t j u _ _ _ _ h
   ·rw[IU]at h;exact wpAny_eqBool_str h
 «strs» :=λk x t v h=>by
  rcases bR h with⟨i,u,rfl,e⟩|⟨y,u,rfl,e⟩
  ·exact nomatch e
  ·injection e with e1 _
   subst e1
   cases v<;>rfl
end L2
namespace L2
open PySem PySem.Spec PyProof.Rows
inductive V where
 |bg|bl (b:Bool)|int (i:Int)|str (x:Str)|Ce (b:Array UInt8)|IX (b:UInt64)|ref (a:Addr)|ty (n:String)
 deriving DecidableEq
noncomputable def RelV:V->Value->Prop
 | .bg,u=>u=Value.none
 | .bl b,u=>u=Value.bool b
 | .int i,u=>∃t,u=Value.int i t
 | .str x,u=>∃t,u=Value.str x t
 | .Ce b,u=>∃t,u=Value.bytes b t
 | .IX b,u=>∃t,u=Value.float b t
 | .ref a,u=>u=Value.ref a
 | .ty n,u=>u=Value.type n
noncomputable abbrev Vals:List V->List Value->Prop:=Paired RelV
theorem Vals.length{xs:List V}{us:List Value}(r:Vals xs us):xs.length=us.length:=Paired.length r
theorem Vals.get:∀{xs:List V} {us:List Value} {i:Nat} {x:V},Vals xs us->xs[i]?=some x->∃u,us[i]?=some u/\RelV x u
 |_,_,_,_,.nil,e=>by simp at e
 |_,_,0,_,.cons r _,e=>by simp at e;subst e;exact⟨_,rfl,r⟩
 |_,_,i+1,x,.cons _ t,e=>by
  obtain⟨u,h1,h2⟩:=Vals.get (i:=i) (x:=x) t (by simpa using e)
  exact⟨u,by simpa using h1,h2⟩
theorem Vals.append:∀{xs ys:List V} {us ws:List Value},Vals xs us->Vals ys ws->Vals (xs++ys) (us++ws)
 |_,_,_,_,.nil,s=>s
 |_,_,_,_,.cons r t,s=> .cons r (Vals.append t s)
theorem Vals.take:∀{xs:List V} {us:List Value} (n:Nat),Vals xs us->Vals (xs.take n) (us.take n)
 |_,_,0,_=> .nil
 |_,_,_+1,.nil=> .nil
 |_,_,n+1,.cons r t=> .cons r (Vals.take n t)
theorem Vals.drop:∀{xs:List V} {us:List Value} (n:Nat),Vals xs us->Vals (xs.drop n) (us.drop n)
 |_,_,0,r=>r
 |_,_,_+1,.nil=> .nil
 |_,_,n+1,.cons _ t=>Vals.drop n t
noncomputable def A4:Option V->Option Value->Prop
 |some v,some u=>RelV v u
 |none,none=>True
 |_,_=>False
noncomputable def KV{κ:Type}:List (κ ×V)->List (κ ×Value)->Prop:=Paired λ(p:κ ×V) (q:κ ×Value)=>p.1=q.1/\RelV p.2 q.2
noncomputable def kV:Key->V
 | .inl i=> .int i
 | .inr x=> .str x
inductive HO where
 |lst (xs:List V)
 |tup (xs:List V)
 |dK (kvs:List (Key ×V))|dT (kvs:List (List Key ×V))
 |set (S:Int->Bool) (n:Nat)
 |ins (C dx:Addr) (fs:List (Str ×V))
 |own (x:Addr)
 |xd (fs:List (Str ×V))
 |met (f x:Addr)
 |Ov (lo hi:Int)
 |fO (o:Obj) (u:HO)
 |HQ (ps:Array Value)
 |ext (φ:Heap->Prop)
noncomputable abbrev Hp:=Addr->Option HO
noncomputable def upd(H:Hp)(a:Addr)(o:HO):Hp:=λb=>if b=a then some o else H b
theorem aY{H:Hp}{a:Addr}{o:HO}:upd H a o a=some o:=by unfold upd;rw[if_pos rfl]
theorem aA{H:Hp}{a b:Addr}{o:HO}(h:b≠a):upd H a o b=H b:=by unfold upd;rw[if_neg h]
theorem zO{H:Hp}{a b:Addr}{o u:HO}(h:H a=some o)(h':H b=some u)(d:o≠u):a≠b:=by
 intro e;subst e;rw[h]at h';exact d (Option.some.inj h')
theorem br{H:Hp}{a b:Addr}{o:HO}(h:H a=some o)(h':H b=none):a≠b:=by
 intro e;subst e;rw[h]at h';cases h'
section
variable(P:Program)(w:World)
noncomputable def bI(H:Hp)(h:Heap)(a:Addr):HO->Prop
 | .lst xs=>xs.length<=sizeLine/\∃(its:List Value) (n:Nat),Vals xs its/\h.get? a=some {cls:= .type "list",data:= .seq its.toArray n}
 | .tup xs=>xs.length<=sizeLine/\∃its:List Value,Vals xs its/\IsTup h a its.toArray
 | .dK kvs=>kvs.length<=sizeLine/\(a==sysModules)=false/\∃vs,KV kvs vs/\h.DictOf (zN P w) a vs
 | .dT kvs=>kvs.length<=sizeLine/\(a==sysModules)=false/\∃xs:List (List Key ×Addr ×Value),
  Paired (λ(p:List Key ×V) (q:List Key ×Addr ×Value)=>p.1=q.1/\H q.2.1=some (.tup (p.1.map kV))/\RelV p.2 q.2.2) kvs xs/\
  ∃o es ep,h.get? a=some o/\o.ExactDict/\o.data= .dict es ep/\es.toList=xs.map (entryOfKey (tupleKind (zN P w)))/\(xs.map (·.1)).Nodup
 | .set S n=>h.SetOf (intKind P w) a S n
 | .ins C dx fs=>H dx=some (.own a)/\fs.length<=1000/\dx≠a/\h.get? a=some (PySem.W.instObj C dx)/\
  ∃mA,h.Ns1 dx mA/\(∀f,A4 (fs.lookup f) (mA f))/\PySem.Within mA (fs.map (·.1))
 | .own _=>∃o,h.get? a=some o
 | .xd fs=>∃mA,h.Ns1 a mA/\∀f,A4 (fs.lookup f) (mA f)
 | .Ov lo hi=>∃t u v,h.get? a=some {cls:= .type "range",data:= .fields #[.int lo t,.int hi u,.int 1 v]}
 | .fO o u=>h.get? a=some o/\bI H h a u
 | .HQ ps=>h.get? a=some {cls:= .none,data:= .fields ps}
 | .met f x=>h.get? a=some (PySem.W.methodObj (.ref f) (.ref x))
 | .ext φ=>φ h/\(∃o,h.get? a=some o)/\∀h1 h2:Heap,φ h1->(∀o,h1.get? a=some o->h2.get? a=some o)->φ h2
noncomputable def gY(H:Hp)(h:Heap):Prop:= ∀a o,H a=some o->bI P w H h a o
end
section
variable{P:Program}{w:World}{H H':Hp}{h h':Heap}{a:Addr}{o:HO}
theorem bI.lt(x:bI P w H h a o):a<h.objs.size:=by
 cases o with
 |lst xs=>obtain⟨_,_,_,_,e⟩:=x;exact Heap.lt_size e
 |tup xs=>obtain⟨_,_,_,p⟩:=x;exact p.lt
 |dK kvs=>obtain⟨_,_,_,_,o,_,_,e,_⟩:=x;exact Heap.lt_size e
 |dT kvs=>obtain⟨_,_,_,_,o,_,_,e,_⟩:=x;exact Heap.lt_size e
 |set S n=>obtain⟨o,_,_,_,e,_⟩:=x;exact Heap.lt_size e
 |ins C dx fs=>obtain⟨_,_,_,e,_⟩:=x;exact Heap.lt_size e
 |own y=>obtain⟨_,e⟩:=x;exact Heap.lt_size e
 |xd fs=>obtain⟨_,⟨_,_,_,e,_⟩,_⟩:=x;exact Heap.lt_size e
 |Ov lo hi=>obtain⟨_,_,_,e⟩:=x;exact Heap.lt_size e
 |fO ob u=>obtain⟨e,_⟩:=x;exact Heap.lt_size e
 |HQ ps=>exact Heap.lt_size (show h.get? a=some _ from x)
 |met f y=>exact Heap.lt_size (show h.get? a=some _ from x)
 |ext φ=>obtain⟨_,⟨_,e⟩,_⟩:=x;exact Heap.lt_size e
theorem Paired.Fp{α β:Type}{F G:α->β->Prop}:∀{l₁:List α} {l₂:List β},Paired F l₁ l₂->(∀a b,F a b->G a b)->Paired G l₁ l₂
 |_,_,.nil,_=> .nil
 |_,_,.cons r t,f=> .cons (f _ _ r) (Paired.Fp t f)
theorem bI.stay(x:bI P w H h a o)(k:∀b u,(b=a\/H b=some (.own a))->h.get? b=some u->h'.get? b=some u)
 (ho:∀b,H b=some (.own a)->H' b=some (.own a))(ht:∀b xs,H b=some (.tup xs)->H' b=some (.tup xs)):bI P w H' h' a o:=by
 induction o with
 |lst xs=>obtain⟨z,its,n,r,e⟩:=x;exact⟨z,its,n,r,k _ _ (.inl rfl) e⟩
 |tup xs=>obtain⟨z,its,r,ob,e,c⟩:=x;exact⟨z,its,r,ob,k _ _ (.inl rfl) e,c⟩
 |dK kvs=>obtain⟨z,y,vs,r,ob,es,ep,e,c⟩:=x;exact⟨z,y,vs,r,ob,es,ep,k _ _ (.inl rfl) e,c⟩
 |dT kvs=>
  obtain⟨z,y,xs,r,ob,es,ep,e,c⟩:=x
  exact⟨z,y,xs,Paired.Fp r λp q z=>⟨z.1,ht _ _ z.2.1,z.2.2⟩,ob,es,ep,k _ _ (.inl rfl) e,c⟩
 |set S n=>obtain⟨ob,es,ep,t,e,c⟩:=x;exact⟨ob,es,ep,t,k _ _ (.inl rfl) e,c⟩
 |ins C dx fs=>
  obtain⟨d,z,ne,e,mA,⟨od,es,ep,e2,c⟩,r⟩:=x
  exact⟨ho _ d,z,ne,k _ _ (.inl rfl) e,mA,⟨od,es,ep,k _ _ (.inr d) e2,c⟩,r⟩
 |own y=>obtain⟨ob,e⟩:=x;exact⟨ob,k _ _ (.inl rfl) e⟩
 |xd fs=>obtain⟨mA,⟨od,es,ep,e,c⟩,r⟩:=x;exact⟨mA,⟨od,es,ep,k _ _ (.inl rfl) e,c⟩,r⟩
 |Ov lo hi=>obtain⟨t,u,v,e⟩:=x;exact⟨t,u,v,k _ _ (.inl rfl) e⟩
 |fO ob u ih=>obtain⟨e,q⟩:=x;exact⟨k _ _ (.inl rfl) e,ih q⟩
 |HQ ps=>
  have e:h.get? a=some {cls:= .none,data:= .fields ps}:=x
  show h'.get? a=some {cls:= .none,data:= .fields ps}
  exact k a _ (.inl rfl) e
 |met f y=>
  have e:h.get? a=some (PySem.W.methodObj (.ref f) (.ref y)):=x
  show h'.get? a=some (PySem.W.methodObj (.ref f) (.ref y))
  exact k a _ (.inl rfl) e
 |ext φ=>obtain⟨p,⟨o,e⟩,st⟩:=x;exact⟨st _ _ p λo q=>k _ _ (.inl rfl) q,⟨o,k _ _ (.inl rfl) e⟩,st⟩
theorem gY.lt(x:gY P w H h)(e:H a=some o):a<h.objs.size:=(x a o e).lt
theorem gY.fresh(x:gY P w H h)(e:h.objs.size<=a):H a=none:=by
 cases q:H a with
 |none=>rfl
 |some u=>exact absurd (Xp (x.lt q) e) (Ys _)
theorem gY.kept(x:gY P w H h)(k:∀b u,h.get? b=some u->h'.get? b=some u):gY P w H h':=λa o e=>
 (x a o e).stay (λb u _ q=>k b u q) (λ_ q=>q) λ_ _ q=>q
theorem gY.laid(x:gY P w H h)(k:∀b u,h.get? b=some u->h'.get? b=some u)(hp:h.objs.size<=a)(new:bI P w (upd H a o) h' a o):gY P w (upd H a o) h':=λb u e=>by
 have hn:=x.fresh hp
 by_cases hb:b=a
 ·subst hb;rw[aY]at e;cases e;exact new
 ·rw[aA hb]at e
  exact(x b u e).stay (λc v _ q=>k c v q) (λc q=>by rw[aA (br q hn)];exact q) λc xs q=>by rw[aA (br q hn)];exact q
end
noncomputable def Rd(H:Hp)(a:Addr)(u:HO):Prop:=H a=some u\/∃o,H a=some (.fO o u)
theorem Rd.ok{P:Program}{w:World}{H:Hp}{h:Heap}{a:Addr}{u:HO}(r:Rd H a u)(x:gY P w H h):bI P w H h a u:=by
 rcases r with r|⟨o,r⟩
 ·exact x a u r
 ·obtain⟨_,q⟩:=x a _ r
  exact q
noncomputable def Ow:Option HO->Prop
 |some (.lst _)=>True
 |some (.dK _)=>True
 |some (.dT _)=>True
 |some (.set _ _)=>True
 |some (.ins _ _ _)=>True
 |some (.ext _)=>True
 |_=>False
section
variable{P:Program}{w:World}{H:Hp}{h h':Heap}{x e:Addr}{o':HO}
theorem gY.write(ok:gY P w H h)(mu:Ow (H x))(he:e=x\/H e=some (.own x))(k:∀b u,b≠e->h.get? b=some u->h'.get? b=some u)(Ls:∃u,h'.get? e=some u)
 (new:bI P w (upd H x o') h' x o'):gY P w (upd H x o') h':=λb u q=>by
 have LN:∀c y,H c=some (.own y)->c≠x:=λc y r z=>by subst z;rw[r]at mu;exact mu
 have O6:∀c xs,H c=some (.tup xs)->c≠x:=λc xs r z=>by subst z;rw[r]at mu;exact mu
 by_cases hb:b=x
 ·subst hb;rw[aY]at q;cases q;exact new
 ·rw[aA hb]at q
  by_cases IY:b=e
  ·have q':H b=some (.own x):=by
    rcases he with z|z
    ·exact absurd (IY.trans z) hb
    ·rw[IY];exact z
   rw[q]at q';cases q'
   obtain⟨v,hv⟩:=Ls
   exact⟨v,by rw[IY];exact hv⟩
  ·refine(ok b u q).stay (λc v hc r=>k c v ?_ r) (λc r=>by rw[aA (LN c b r)];exact r) λc xs r=>by rw[aA (O6 c xs r)];exact r
   rcases hc with rfl|hc
   ·exact IY
   ·rintro rfl
    rcases he with z|z
    ·exact LN c b hc z
    ·rw[hc]at z;cases z;exact hb rfl
end
structure Un(fs ex:List Addr)(H H':Hp)(h h':Heap):Prop where
 keep:∀b o,h.get? b=some o->H b=none->b∉fs->b∉ex->h'.get? b=some o
 slot:∀b o,h.get? b=some o->H b=none->b∈fs->b∉ex->∃sl,h'.get? b=some {o with slots:=sl}
 free:∀b o,h.get? b=some o->H b=none->b∉ex->H' b=none
 there:∀b o,h.get? b=some o->b∉ex->∃o',h'.get? b=some o'
 tups:∀b xs,H b=some (.tup xs)->H' b=some (.tup xs)
 lX:∀b o u,H b=some (.fO o u)->H' b=some (.fO o u)
 mO:∀b ps,H b=some (.HQ ps)->∃more,H' b=some (.HQ (ps++more))
section
variable{fs fs' ex ex':List Addr}{H H1 H2:Hp}{h h1 h2 h':Heap}{a x e:Addr}{o:HO}
theorem Un.any(u:Un fs ex H H1 h h1){b:Addr}{ob:Obj}(q:h.get? b=some ob)(n:H b=none)(hx:b∉ex):∃sl,h1.get? b=some {ob with slots:=sl}:=by
 by_cases hb:b∈fs
 ·exact u.slot b ob q n hb hx
 ·exact⟨ob.slots,u.keep b ob q n hb hx⟩
theorem Un.kept(k:∀b u,h.get? b=some u->h'.get? b=some u):Un fs ex H H h h':=
 ⟨λb ob q _ _ _=>k b ob q,λb ob q _ _ _=>⟨ob.slots,k b ob q⟩,λ_ _ _ n _=>n,λb ob q _=>⟨ob,k b ob q⟩,λ_ _ q=>q,λ_ _ _ q=>q,λ_ ps q=>⟨#[],by rw[q];simp⟩⟩
theorem Un.refl:Un fs ex H H h h:=Un.kept λ_ _ q=>q
theorem Un.laid(k:∀b u,h.get? b=some u->h'.get? b=some u)(hp:h.objs.size<=a)(hn:H a=none):Un fs ex H (upd H a o) h h' where
 keep:=λb u q _ _ _=>k b u q
 slot:=λb u q _ _ _=>⟨u.slots,k b u q⟩
 free:=λb u q n _=>by rw[aA (XG (Xp (Heap.lt_size q) hp))];exact n
 there:=λb u q _=>⟨u,k b u q⟩
 tups:=λb xs q=>by rw[aA (br q hn)];exact q
 lX:=λb u xs q=>by rw[aA (br q hn)];exact q
 mO:=λb ps q=>⟨#[],by rw[aA (br q hn),q];simp⟩
theorem Un.write(mu:Ow (H x))(he:e=x\/H e=some (.own x))(k:∀b u,b≠e->h.get? b=some u->h'.get? b=some u)(Ls:∃u,h'.get? e=some u):Un fs ex H (upd H x o) h h':=by
 have hx:∀b,H b=none->b≠x:=λb n z=>by subst z;rw[n]at mu;exact mu
 have hb:∀b,H b=none->b≠e:=λb n z=>by
  subst z
  rcases he with r|r
  ·exact hx b n r
  ·rw[n]at r;cases r
 have hm:∀b u,H b=some u->¬Ow (some u)->b≠x:=λb u q nm z=>by subst z;rw[q]at mu;exact nm mu
 refine⟨λb u q n _ _=>k b u (hb b n) q,λb u q n _ _=>⟨u.slots,k b u (hb b n) q⟩,λb u q n _=>by rw[aA (hx b n)];exact n,λb u q _=>?_,
  λb xs q=>by rw[aA (hm b _ q λz=>z)];exact q,λb u xs q=>by rw[aA (hm b _ q λz=>z)];exact q,λb ps q=>⟨#[],by rw[aA (hm b _ q λz=>z),q];simp⟩⟩
 by_cases IY:b=e
 ·subst IY;exact Ls
 ·exact⟨u,k b u IY q⟩
end
noncomputable def Ox(h:Heap)(H:Hp):List Addr:=(List.range h.objs.size).filter λa=>(H a).isSome
noncomputable def uW(h:Heap)(H:Hp):Heap:=PySem.W.hideAll h (Ox h H)
theorem A5(h:Heap)(H:Hp):(uW h H).objs.size=h.objs.size:=PySem.W.hideAll_size _ _
theorem Cy{h:Heap}{H:Hp}{b:Addr}{o:Obj}(e:h.get? b=some o)(n:H b=none):(uW h H).get? b=some o:=
 PySem.W.hideAll_get _ e λhm=>by
  have q:(H b).isSome=true:=(Xy.mp hm).2
  rw[n]at q;simp at q
theorem Fq{h:Heap}{H:Hp}{b:Addr}{o:Obj}(e:(uW h H).get? b=some o):h.get? b=some o/\H b=none:=by
 have e':h.get? b=some o:=PySem.W.of_hideAll (Ox h H) e
 refine⟨e',?_⟩
 cases q:H b with
 |none=>rfl
 |some x=>
  have hm:b∈Ox h H:=Xy.mpr ⟨ZF.mpr (Heap.lt_size e'),by simp[q]⟩
  have z:(uW h H).get? b=none:=PySem.W.hideAll_none (Ox h H) hm
  rw[z]at e;cases e
noncomputable def Ft(g h:Heap)(L:Addr):List (Addr ×Obj):=(List.range h.objs.size).filterMap λa=>if a=L\/(g.get? a).isSome=true then none else(h.get? a).map λo=>(a,o)
noncomputable def rest(g h:Heap)(L d:Addr):List (Addr ×Obj):=(Ft g h L).filter λp=>decide (p.1≠d)
end L2
namespace L2
open PySem PySem.Spec PyProof.Rows
structure Mod(K:PySem.W.Frag)(mg:Str->Option Value)(base:Heap):Prop where
 A6:K.In base
 glob:base.Ns mainGlobals mg
 blt:∃mb,base.Ns builtinsNs mb/\∀x:Str,x≠"__name__"->mb x=bootBuiltins x
 nolimit:base.NoLimit
structure Cx where
 prog:Program
 w:World
 K:PySem.W.Frag
 mg:Str->Option Value
 base:Heap
 A:Around
 N:List Str
 s₀:Shared
 H₀:Hp
 env:Env
 outer:List Env
 stack:List Env
 ex:List Addr
 fn:Str->Bool
 calm:Bool
 pn:List (Addr ×Obj)
 xe:Value->Shared->Prop
noncomputable def frs(l:List Env):List Addr:=l.filterMap (·.frame)
noncomputable abbrev Cx.fs(X:Cx):List Addr:=frs X.outer
noncomputable def Oz(sc:Scope)(x:Str):Prop:=sc.names.lookup x=some .local\/sc.names.lookup x=some .cell\/sc.names.lookup x=some .free
noncomputable def Loc(sc:Scope)(x:Str):Prop:=sc.names.lookup x=some .local\/sc.names.lookup x=some .cell
noncomputable def Look(env:Env)(h:Heap)(m:Str->Option Value)(x:Str)(u:Value):Prop:=
 (env.kindOf x=some .local/\m x=some u)\/((env.kindOf x=some .cell\/env.kindOf x=some .free)/\∃c,env.cells.lookup x=some c/\h.IsCell c (some u))
structure Cx.Ok(X:Cx):Prop where
 mod:Mod X.K X.mg X.base
 kind:X.env.scope.kind= .function
 glob:X.env.globals=mainGlobals
 blt:X.env.builtins=builtinsNs
 above:X.s₀.heap.objs.size<=X.env.locals
 inj:∀x y c,X.env.cells.lookup x=some c->X.env.cells.lookup y=some c->x=y
 has:∀x,(X.env.kindOf x=some .cell\/X.env.kindOf x=some .free)->∃c,X.env.cells.lookup x=some c
 IZ:∀x c,X.fn x=true->X.env.cells.lookup x=some c->X.s₀.heap.objs.size<=c
 hd:X.calm=true->X.A.handled=none
 frames:X.A.frames=some X.stack
 stk:X.stack=X.outer\/(X.stack=X.env::X.outer/\X.env.frame=some X.env.locals)
 Lu:∀b∈X.ex,b≠X.env.locals/\∀x c,X.env.cells.lookup x=some c->c≠b
 bs:∀b o,X.base.get? b=some o->X.s₀.heap.get? b=some o/\X.H₀ b=none
 Cz:X.base.objs.size<=X.s₀.heap.objs.size
 yz:∀b o,X.base.get? b=some o->b∉X.ex
 yC:∀b∈X.ex,b∉X.fs
 lY:X.s₀.heap.FunFrames X.base X.outer
 Ff:∀b∈X.fs,X.H₀ b=none
structure Inv(X:Cx)(pins:List (Addr ×Obj))(σ:List (Option V))(H:Hp)(s:Shared):Prop where
 ok:X.Ok
 os:s.os=X.s₀.os
 bare:AllBare s.gens
 base:Un X.fs X.ex X.H₀ H X.s₀.heap s.heap
 loc:∃m,s.heap.Ns X.env.locals m/\∀(i:Nat) (x:Str) (v:V),X.N[i]?=some x->σ[i]?=some (some v)->Oz X.env.scope x->∃u,RelV v u/\Look X.env s.heap m x u
 cell:∀x c,X.env.cells.lookup x=some c->∃v,s.heap.IsCell c v
 free:H X.env.locals=none
 gB:∀x c,X.env.cells.lookup x=some c->H c=none
 pin:∀p∈X.pn++pins,s.heap.get? p.1=some p.2/\H p.1=none/\p.1≠X.env.locals/\p.1∉X.fs/\∀v,p.2.data≠ .cell v
 hok:gY X.prog X.w H s.heap
 len:σ.length=X.N.length
section
variable{X:Cx}{pins:List (Addr ×Obj)}{σ:List (Option V)}{H H':Hp}{s:Shared}{h':Heap}
theorem Cx.Ok.O7(ok:X.Ok){b:Addr}{o:Obj}(e:X.base.get? b=some o):b∉X.fs:=λhb=>by
 have:=(ok.lY.mem hb).1
 rw[e]at this;cases this
theorem Inv.bs(I:Inv X pins σ H s):∀b o,X.base.get? b=some o->s.heap.get? b=some o/\H b=none:=λb o e=>
 ⟨I.base.keep b o (I.ok.bs b o e).1 (I.ok.bs b o e).2 (I.ok.O7 e) (I.ok.yz b o e),I.base.free b o (I.ok.bs b o e).1 (I.ok.bs b o e).2 (I.ok.yz b o e)⟩
theorem Inv.bk(I:Inv X pins σ H s):∀b o,X.base.get? b=some o->s.heap.get? b=some o:=λb o e=>(I.bs b o e).1
theorem Inv.mod(I:Inv X pins σ H s):Mod X.K X.mg X.base:=I.ok.mod
theorem Inv.lF(I:Inv X pins σ H s):X.K.In s.heap:=I.ok.mod.A6.keeps I.bk
theorem Inv.lt(I:Inv X pins σ H s):X.env.locals<s.heap.objs.size:=let ⟨_,hn,_⟩:=I.loc;hn.lt
theorem Inv.sz(I:Inv X pins σ H s):X.s₀.heap.objs.size<=s.heap.objs.size:=Yj I.ok.above (Zl I.lt)
theorem Inv.O8(I:Inv X pins σ H s){a:Addr}(h:s.heap.objs.size<=a):a∉X.fs:=λhb=>by
 obtain⟨_,o,ho,_⟩:=I.ok.lY.mem hb
 exact absurd (Xp (Heap.lt_size ho) (Yj I.sz h)) (Ys _)
theorem Inv.CA(I:Inv X pins σ H s):∀x c,X.env.cells.lookup x=some c->c≠X.env.locals:=λx c e z=>by
 obtain⟨v,o,ho,hd⟩:=I.cell x c e
 obtain⟨m,⟨o',es,ep,ho',hd',_⟩,_⟩:=I.loc
 rw[z,ho']at ho;cases ho;rw[hd']at hd;cases hd
theorem Inv.lY(I:Inv X pins σ H s):s.heap.FunFrames X.base X.outer:=by
 have all:∀(l:List Env),(∀b∈frs l,b∈X.fs)->X.s₀.heap.FunFrames X.base l->s.heap.FunFrames X.base l:=by
  intro l
  induction l with
  |nil=>intro _ _;trivial
  |cons env r ih=>
   intro hs hl
   obtain⟨hk,⟨L,o,hf,hn,ho,hd⟩,hr⟩:=hl
   have hL:L∈X.fs:=hs L (by unfold frs;rw[ZC,hf];exact Xu)
   obtain⟨sl,e⟩:=I.base.slot L o ho (I.ok.Ff L hL) hL λz=>I.ok.yC L z hL
   exact⟨hk,⟨L,_,hf,hn,e,hd⟩,ih (λb hb=>hs b (by unfold frs;rw[ZC,hf];exact Xl _ hb)) hr⟩
 exact all X.outer (λ_ hb=>hb) I.ok.lY
theorem Inv.stack(I:Inv X pins σ H s):s.heap.FunFrames X.base X.stack:=by
 rcases I.ok.stk with e|⟨e,hf⟩
 ·rw[e];exact I.lY
 ·rw[e]
  obtain⟨m,hn,_⟩:=I.loc
  refine .cons (by rw[I.ok.kind];decide) hf hn ?_ I.lY
  exact Heap.get?_none_of_le (Yj I.ok.Cz I.ok.above)
theorem Inv.uX(I:Inv X pins σ H s):∀b∈frs X.stack,b∈X.env.locals::X.fs:=λb hb=>by
 rcases I.ok.stk with e|⟨e,hf⟩
 ·rw[e]at hb;exact Xl _ hb
 ·rw[e]at hb
  unfold frs at hb
  rw[ZC,hf]at hb
  exact hb
theorem Inv.pW(I:Inv X pins σ H s):∀b∈frs X.stack,H b=none:=λb hb=>by
 rcases Xj.mp (I.uX b hb)with e|hb
 ·rw[e];exact I.free
 ·obtain⟨_,o,ho,_⟩:=I.ok.lY.mem hb
  exact I.base.free b o ho (I.ok.Ff b hb) λz=>I.ok.yC b z hb
theorem Inv.step{g':Array GenState}{t':Nat}{d':Drawn}{ch:List Addr}(I:Inv X pins σ H s)
 (hch:∀b∈ch,(b∈X.ex\/X.s₀.heap.objs.size<=b)/\b≠X.env.locals/\(∀x c,X.env.cells.lookup x=some c->c≠b)/\∀p∈X.pn++pins,p.1≠b)
 (keep:∀b o,b≠X.env.locals->b∉X.fs->b∉ch->s.heap.get? b=some o->H b=none->h'.get? b=some o)
 (slot:∀b o,b≠X.env.locals->b∈X.fs->b∉ch->s.heap.get? b=some o->H b=none->∃sl,h'.get? b=some {o with slots:=sl})(free:∀b o,b∉ch->s.heap.get? b=some o->H b=none->H' b=none)
 (there:∀b o,b∉ch->s.heap.get? b=some o->∃o',h'.get? b=some o')
 (tups:∀b xs,H b=some (.tup xs)->H' b=some (.tup xs))(lX:∀b o u,H b=some (.fO o u)->H' b=some (.fO o u))(mO:∀b ps,H b=some (.HQ ps)->∃more,H' b=some (.HQ (ps++more)))
 (ns:∀m,s.heap.Ns X.env.locals m->h'.Ns X.env.locals m)(hok:gY X.prog X.w H' h')(hg:AllBare g') :
 Inv X pins σ H' {s with heap:=h',gens:=g',drawn:=d',toks:=t'}:=by
 have RI:∀b o,X.s₀.heap.get? b=some o->b≠X.env.locals:=λb o e=>XG (Xp (Heap.lt_size e) I.ok.above)
 have OA:∀b o,X.s₀.heap.get? b=some o->b∉X.ex->b∉ch:=λb o e hx hb=>by
  rcases(hch b hb).1 with z|z
  ·exact hx z
  ·exact absurd (Xp (Heap.lt_size e) z) (Ys _)
 have cellK:∀x c,X.env.cells.lookup x=some c->∀v,s.heap.IsCell c v->h'.IsCell c v:=λx c e v ⟨o,ho,hd⟩=>by
  have LO:c∉ch:=λz=>(hch c z).2.2.1 x c e rfl
  by_cases hc:c∈X.fs
  ·obtain⟨sl,q⟩:=slot c o (I.CA x c e) hc LO ho (I.gB x c e)
   exact⟨_,q,hd⟩
  ·exact⟨o,keep c o (I.CA x c e) hc LO ho (I.gB x c e),hd⟩
 refine⟨I.ok,I.os,hg,⟨λb o e n hb hx=>?_,λb o e n hb hx=>?_,λb o e n hx=>?_,λb o e hx=>?_,λb xs e=>tups b xs (I.base.tups b xs e),λb o xs e=>lX b o xs (I.base.lX b o xs e),λb ps e=>?_⟩,?_,λx c e=>?_,?_,λx c e=>?_,λp hp=>?_,hok,I.len⟩
 ·exact keep b o (RI b o e) hb (OA b o e hx) (I.base.keep b o e n hb hx) (I.base.free b o e n hx)
 ·obtain⟨sl,e1⟩:=I.base.slot b o e n hb hx
  obtain⟨Ja,e2⟩:=slot b _ (RI b o e) hb (OA b o e hx) e1 (I.base.free b o e n hx)
  exact⟨Ja,e2⟩
 ·obtain⟨o',e1⟩:=I.base.there b o e hx
  exact free b o' (OA b o e hx) e1 (I.base.free b o e n hx)
 ·obtain⟨o',e1⟩:=I.base.there b o e hx
  exact there b o' (OA b o e hx) e1
 ·obtain⟨m1,e1⟩:=I.base.mO b ps e
  obtain⟨m2,e2⟩:=mO b _ e1
  exact⟨m1++m2,by rw[e2,Array.append_assoc]⟩
 ·obtain⟨m,hn,hl⟩:=I.loc
  refine⟨m,ns m hn,λi x v e1 e2 e3=>?_⟩
  obtain⟨u,r,l⟩:=hl i x v e1 e2 e3
  refine⟨u,r,?_⟩
  rcases l with l|⟨k,c,e,z⟩
  ·exact .inl l
  ·exact .inr ⟨k,c,e,cellK x c e _ z⟩
 ·obtain⟨v,z⟩:=I.cell x c e
  exact⟨v,cellK x c e v z⟩
 ·obtain⟨m,⟨o,_,_,ho,_⟩,_⟩:=I.loc
  exact free _ o (λz=>(hch _ z).2.1 rfl) ho I.free
 ·obtain⟨v,o,ho,hd⟩:=I.cell x c e
  exact free c o (λz=>(hch c z).2.2.1 x c e rfl) ho (I.gB x c e)
 ·obtain⟨e,n,ne,nf,d⟩:=I.pin p hp
  have LO:p.1∉ch:=λz=>(hch p.1 z).2.2.2 p hp rfl
  exact⟨keep p.1 p.2 ne nf LO e n,free p.1 p.2 LO e n,ne,nf,d⟩
theorem Inv.un{t':Nat}(I:Inv X pins σ H s)(u:Un X.fs [] H H' s.heap h')(hok:gY X.prog X.w H' h'):Inv X pins σ H' {s with heap:=h',toks:=t'}:=by
 obtain⟨m,⟨o,es,ep,ho,r⟩,_⟩:=id I.loc
 obtain⟨sl,hL⟩:=u.any ho I.free (by simp)
 exact I.step (g':=s.gens) (d':=s.drawn) (ch:=[]) (λ_ z=>nomatch z) (λb o _ hb _ e n=>u.keep b o e n hb (by simp)) (λb o _ hb _ e n=>u.slot b o e n hb (by simp)) (λb o _ e n=>u.free b o e n (by simp)) (λb o _ e=>u.there b o e (by simp)) u.tups u.lX u.mO (λm' hm=>by
  obtain⟨o',es',O9,ho',r'⟩:=hm
  rw[ho]at ho';cases ho'
  exact⟨_,es',O9,hL,r'⟩) hok I.bare
theorem Inv.call{g':Array GenState}{t':Nat}{d':Drawn}{ch:List Addr}(I:Inv X pins σ H s)(u:Un (frs X.stack) ch H H' s.heap h')(hok:gY X.prog X.w H' h')(hg:AllBare g')
 (hch:∀b∈ch,(b∈X.ex\/X.s₀.heap.objs.size<=b)/\b≠X.env.locals/\(∀x c,X.env.cells.lookup x=some c->c≠b)/\∀p∈X.pn++pins,p.1≠b) :
 Inv X pins σ H' {s with heap:=h',gens:=g',drawn:=d',toks:=t'}:=by
 obtain⟨m,⟨o,es,ep,ho,r⟩,_⟩:=id I.loc
 obtain⟨sl,hL⟩:=u.any ho I.free λz=>(hch _ z).2.1 rfl
 exact I.step (ch:=ch) hch (λb o hL hb hc e n=>u.keep b o e n (λz=>(Xj.mp (I.uX b z)).elim hL hb) hc) (λb o _ _ hc e n=>u.any e n hc) (λb o hc e n=>u.free b o e n hc) (λb o hc e=>u.there b o e hc) u.tups u.lX u.mO (λm' hm=>by
  obtain⟨o',es',O9,ho',r'⟩:=hm
  rw[ho]at ho';cases ho'
  exact⟨_,es',O9,hL,r'⟩) hok hg
theorem Inv.turned{t':Nat}{it:Addr}(I:Inv X pins σ H s)(k:∀b o,b≠it->s.heap.get? b=some o->h'.get? b=some o)(hn:H it=none)(hL:it≠X.env.locals)
 (h1:it∈X.ex\/X.s₀.heap.objs.size<=it)(h2:∀x c,X.env.cells.lookup x=some c->c≠it)(h3:∀p∈X.pn++pins,p.1≠it):Inv X pins σ H {s with heap:=h',toks:=t'}:=by
 have LP:∀b u,H b=some u->b≠it:=λb u e z=>by rw[z,hn]at e;cases e
 refine I.step (g':=s.gens) (d':=s.drawn) (ch:=[it]) (λb hb=>?_) (λb o _ _ hc e _=>k b o (λz=>hc (by simp[z])) e) (λb o _ _ hc e _=>⟨o.slots,k b o (λz=>hc (by simp[z])) e⟩) (λ_ _ _ _ n=>n)
  (λb o hc e=>⟨o,k b o (λz=>hc (by simp[z])) e⟩) (λ_ _ e=>e) (λ_ _ _ e=>e) (λb ps e=>⟨#[],by rw[e];simp⟩) (λm hm=>?_) (λb u e=>?_) I.bare
 ·have e:b=it:=by simpa using hb
  subst e
  exact⟨h1,hL,h2,h3⟩
 ·obtain⟨o,es,ep,ho,r⟩:=hm
  exact⟨o,es,ep,k _ o (Ne.symm hL) ho,r⟩
 ·refine(I.hok b u e).stay (λc v hc q=>k c v ?_ q) (λ_ q=>q) λ_ _ q=>q
  rcases hc with z|z
  ·rw[z];exact LP b u e
  ·exact LP c _ z
theorem Inv.tok(I:Inv X pins σ H s)(t:Nat):Inv X pins σ H {s with toks:=t}:=I.un (h':=s.heap) (t':=t) Un.refl I.hok
theorem Inv.kept{t':Nat}(I:Inv X pins σ H s)(k:∀b u,s.heap.get? b=some u->h'.get? b=some u):Inv X pins σ H {s with heap:=h',toks:=t'}:=I.un (Un.kept k) (I.hok.kept k)
theorem Inv.laid{a:Addr}{o:HO}{t':Nat}(I:Inv X pins σ H s)(k:∀b u,s.heap.get? b=some u->h'.get? b=some u)(hp:s.heap.objs.size<=a)(new:bI X.prog X.w (upd H a o) h' a o) :
 Inv X pins σ (upd H a o) {s with heap:=h',toks:=t'}:=I.un (Un.laid k hp (I.hok.fresh hp)) (I.hok.laid k hp new)
theorem Inv.write{x e:Addr}{o:HO}{t':Nat}(I:Inv X pins σ H s)(mu:Ow (H x))(he:e=x\/H e=some (.own x))(k:∀b u,b≠e->s.heap.get? b=some u->h'.get? b=some u)(Ls:∃u,h'.get? e=some u)
 (new:bI X.prog X.w (upd H x o) h' x o):Inv X pins σ (upd H x o) {s with heap:=h',toks:=t'}:=I.un (Un.write mu he k Ls) (I.hok.write mu he k Ls new)
theorem Inv.pX{HR:List (Addr ×Obj)}(I:Inv X pins σ H s)(h:∀p∈HR,s.heap.get? p.1=some p.2/\H p.1=none/\p.1≠X.env.locals/\p.1∉X.fs/\∀v,p.2.data≠ .cell v):Inv X HR σ H s:=
 ⟨I.ok,I.os,I.bare,I.base,I.loc,I.cell,I.free,I.gB,λp hp=>(XI.mp hp).elim (λz=>I.pin p (Xx _ z)) (h p),I.hok,I.len⟩
theorem qj{N:List Str}(hN:N.Nodup){i j:Nat}{x:Str}(a:N[i]?=some x)(b:N[j]?=some x):i=j:=by
 obtain⟨h1,e1⟩:=XH.mp a
 obtain⟨h2,e2⟩:=XH.mp b
 exact(List.getElem_inj hN).mp (e1.trans e2.symm)
theorem A7{M:Model}{A:Around}{E:Value->Shared->Prop}{i:Nat}{x:Str}{v:V}{u:Value}{Q:Unit->Shared->Prop}(I:Inv X pins σ H s)(hN:X.N.Nodup)(hi:X.N[i]?=some x)(hx:Loc X.env.scope x)(r:RelV v u)
 (h:∀s',Inv X pins (σ.set i (some v)) H s'->(∃a,Heap.SameBut a s.heap s'.heap/\(a=X.env.locals\/X.env.cells.lookup x=some a))->Q () s')(hf:X.fn x=true\/X.env.scope.names.lookup x=some .local:=by first|exact .inl rfl|exact .inr rfl|assumption):wpAny M A (storeName X.env x u) Q E s:=by
 obtain⟨m,hn,hl⟩:=id I.loc
 have hcls:(X.env.scope.kind== .class || (X.env.scope.kind== .module && X.env.locals !=X.env.globals))=false:=by rw[I.ok.kind];rfl
 have OB:i<σ.length:=by rw[I.len];exact(XH.mp hi).1
 have CA:=I.CA
 have tracked:∀{a:Addr} {h':Heap},(∃o,s.heap.get? a=some o/\H a=none)->Heap.SameBut a s.heap h'->gY X.prog X.w H h':=λ{a h'} ha hs b ob e=>by
  obtain⟨_,_,hfree⟩:=ha
  refine(I.hok b ob e).stay (λc w' hc q=>(hs.2 c ?_).trans q) (λ_ q=>q) λ_ _ q=>q
  rintro rfl
  rcases hc with rfl|hc
  ·rw[hfree]at e;cases e
  ·rw[hfree]at hc;cases hc
 rcases hx with hk|hk
 ·refine wpAny_storeName_local hk hn (λh' hn' hs=>?_) hcls
  obtain⟨oL,_,_,RJ,_⟩:=id hn
  refine h _ ⟨I.ok,I.os,I.bare,⟨λb o e n hb hx=>?_,λb o e n hb hx=>?_,I.base.free,λb o e hx=>?_,I.base.tups,I.base.lX,I.base.mO⟩,⟨_,hn',λj y v' e1 e2 e3=>?_⟩,λy c e=>?_,I.free,I.gB,λp hp=>?_,tracked ⟨oL,RJ,I.free⟩ hs,by simpa using I.len⟩ ⟨_,hs,.inl rfl⟩
  ·exact(hs.2 b (XG (Xp (Heap.lt_size e) I.ok.above))).trans (I.base.keep b o e n hb hx)
  ·obtain⟨sl,e1⟩:=I.base.slot b o e n hb hx
   exact⟨sl,(hs.2 b (XG (Xp (Heap.lt_size e) I.ok.above))).trans e1⟩
  ·obtain⟨o',e1⟩:=I.base.there b o e hx
   exact⟨o',(hs.2 b (XG (Xp (Heap.lt_size e) I.ok.above))).trans e1⟩
  ·by_cases hj:j=i
   ·subst hj
    rw[hi]at e1;cases e1
    rw[YG OB]at e2
    cases e2
    exact⟨u,r,.inl ⟨hk,by simp⟩⟩
   ·rw[Y0 (Ne.symm hj)]at e2
    obtain⟨u',r',q⟩:=hl j y v' e1 e2 e3
    refine⟨u',r',?_⟩
    rcases q with⟨k,e⟩|⟨k,c,e,z⟩
    ·refine .inl ⟨k,?_⟩
     have:y≠x:=λe=>hj (qj hN e1 (e▸hi))
     simp[this,e]
    ·exact .inr ⟨k,c,e,z.sameBut hs (CA y c e)⟩
  ·obtain⟨w',z⟩:=I.cell y c e
   exact⟨w',z.sameBut hs (CA y c e)⟩
  ·obtain⟨e,n,ne,nf,d⟩:=I.pin p hp
   exact⟨(hs.2 p.1 ne).trans e,n,ne,nf,d⟩
 ·have hfn:X.fn x=true:=by
   rcases hf with z|z
   ·exact z
   ·rw[z]at hk;cases hk
  obtain⟨c,hc⟩:=I.ok.has x (.inl hk)
  obtain⟨w',z⟩:=I.cell x c hc
  refine wpAny_storeName_cell I.ok.kind hk hc z (λh' hc' hs=>?_)
  obtain⟨oc,hoc,Pa⟩:=id z
  refine h {s with heap:=h'} ⟨I.ok,I.os,I.bare,⟨λb o e n hb hx=>?_,λb o e n hb hx=>?_,I.base.free,λb o e hx=>?_,I.base.tups,I.base.lX,I.base.mO⟩,⟨m,hn.sameBut hs (Ne.symm (CA x c hc)),λj y v' e1 e2 e3=>?_⟩,λy c' e=>?_,I.free,I.gB,λp hp=>?_,tracked ⟨oc,hoc,I.gB x c hc⟩ hs,by simpa using I.len⟩ ⟨c,hs,.inr hc⟩
  ·exact(hs.2 b (XG (Xp (Heap.lt_size e) (I.ok.IZ x c hfn hc)))).trans (I.base.keep b o e n hb hx)
  ·obtain⟨sl,e1⟩:=I.base.slot b o e n hb hx
   exact⟨sl,(hs.2 b (XG (Xp (Heap.lt_size e) (I.ok.IZ x c hfn hc)))).trans e1⟩
  ·obtain⟨o',e1⟩:=I.base.there b o e hx
   exact⟨o',(hs.2 b (XG (Xp (Heap.lt_size e) (I.ok.IZ x c hfn hc)))).trans e1⟩
  ·by_cases hj:j=i
   ·subst hj
    rw[hi]at e1;cases e1
    rw[YG OB]at e2
    cases e2
    exact⟨u,r,.inr ⟨.inl hk,c,hc,hc'⟩⟩
   ·rw[Y0 (Ne.symm hj)]at e2
    obtain⟨u',r',q⟩:=hl j y v' e1 e2 e3
    refine⟨u',r',?_⟩
    rcases q with q|⟨k,c',e,z'⟩
    ·exact .inl q
    ·refine .inr ⟨k,c',e,z'.sameBut hs ?_⟩
     rintro rfl
     exact hj (qj hN e1 (I.ok.inj _ _ _ e hc▸hi))
  ·by_cases hcc:c'=c
   ·subst hcc;exact⟨_,hc'⟩
   ·obtain⟨w2,z2⟩:=I.cell y c' e
    exact⟨w2,z2.sameBut hs hcc⟩
  ·obtain⟨e,n,ne,nf,d⟩:=I.pin p hp
   refine⟨(hs.2 p.1 ?_).trans e,n,ne,nf,d⟩
   intro q
   rw[q,hoc]at e
   have q':oc=p.2:=Option.some.inj e
   exact d w' (by rw[<-q'];exact Pa)
theorem mP{M:Model}{A:Around}{E:Value->Shared->Prop}{i:Nat}{x:Str}{v:V}{u:Value}{Q:Unit->Shared->Prop}(I:Inv X pins σ H s)(hN:X.N.Nodup)(hi:X.N[i]?=some x)(hx:Loc X.env.scope x)(r:RelV v u)
 (h:∀s',Inv X pins (σ.set i (some v)) H s'->Q () s')(hf:X.fn x=true\/X.env.scope.names.lookup x=some .local:=by first|exact .inl rfl|exact .inr rfl|assumption):wpAny M A (storeName X.env x u) Q E s:=
 A7 I hN hi hx r (λs' I' _=>h s' I') hf
theorem Inv.zP{s':Shared}{ch:List Addr}(I:Inv X pins σ H s)(ho:s'.os=s.os)(u:Un (frs X.stack) ch H H' s.heap s'.heap)(hok:gY X.prog X.w H' s'.heap)(hg:AllBare s'.gens)
 (hch:∀b∈ch,(b∈X.ex\/X.s₀.heap.objs.size<=b)/\b≠X.env.locals/\(∀x c,X.env.cells.lookup x=some c->c≠b)/\∀p∈X.pn++pins,p.1≠b):Inv X pins σ H' s':=by
 obtain⟨h',g',d',t',o'⟩:=s'
 have e:o'=s.os:=ho
 subst e
 exact I.call (g':=g') (t':=t') (d':=d') u hok hg hch
end
noncomputable abbrev XK:=Value->Option Addr->Hp->Prop
noncomputable abbrev St:=List (Option V)
noncomputable abbrev VK:=V->Hp->Prop
noncomputable abbrev TE:=St->Hp->VK->Prop
noncomputable abbrev TT:=St->Hp->(Bool->Hp->Prop)->Prop
noncomputable abbrev TA:=St->Hp->(List V->Hp->Prop)->Prop
structure Ends where
 nx:St->Hp->Prop
 rt:VK
 bk:St->Hp->Prop:=λ_ _=>False
 ct:St->Hp->Prop:=λ_ _=>False
noncomputable abbrev TS:=Ends->St->Hp->Prop
noncomputable def EP(X:Cx)(pins:List (Addr ×Obj))(σ:St)(Q:VK)(u:Value)(s':Shared):Prop:= ∃v H',Inv X pins σ H' s'/\RelV v u/\Q v H'
noncomputable def TP(X:Cx)(pins:List (Addr ×Obj))(σ:St)(Q:Bool->Hp->Prop)(b:Bool)(s':Shared):Prop:= ∃H',Inv X pins σ H' s'/\Q b H'
noncomputable def AP(X:Cx)(pins:List (Addr ×Obj))(σ:St)(Q:List V->Hp->Prop)(us:List Value)(s':Shared):Prop:= ∃vs H',Inv X pins σ H' s'/\Vals vs us/\Q vs H'
noncomputable def SP(X:Cx)(pins:List (Addr ×Obj))(D:Ends)(f:Flow)(s':Shared):Prop:=
 match f with
 | .next=>∃σ' H',Inv X pins σ' H' s'/\D.nx σ' H'
 | .brk=>∃σ' H',Inv X pins σ' H' s'/\D.bk σ' H'
 | .cont=>∃σ' H',Inv X pins σ' H' s'/\D.ct σ' H'
 | .ret u=>∃v σ' H',Inv X pins σ' H' s'/\RelV v u/\D.rt v H'
noncomputable def PE(X:Cx)(e:Expr)(t:TE):Prop:=
 ∀(pins:List (Addr ×Obj)) (s:Shared) (σ:St) (H:Hp) (Q:VK),Inv X pins σ H s->t σ H Q->wpAny (model X.prog X.w) X.A (eval e X.env) (EP X pins σ Q) X.xe s
noncomputable def PT(X:Cx)(e:Expr)(t:TT):Prop:=
 ∀(pins:List (Addr ×Obj)) (s:Shared) (σ:St) (H:Hp) (Q:Bool->Hp->Prop),Inv X pins σ H s->t σ H Q->wpAny (model X.prog X.w) X.A (isTrue e X.env (eval e X.env)) (TP X pins σ Q) X.xe s
noncomputable def PW(X:Cx)(e:Expr)(t:TT):Prop:=
 ∀(whole:Sem Value) (pins:List (Addr ×Obj)) (s:Shared) (σ:St) (H:Hp) (Q:Bool->Hp->Prop),Inv X pins σ H s->t σ H Q->wpAny (model X.prog X.w) X.A (isTrue e X.env whole) (TP X pins σ Q) X.xe s
noncomputable def PA(X:Cx)(es:List Expr)(t:TA):Prop:=
 ∀(pos:Pos) (pins:List (Addr ×Obj)) (s:Shared) (σ:St) (H:Hp) (Q:List V->Hp->Prop),Inv X pins σ H s->t σ H Q->wpAny (model X.prog X.w) X.A (spliced (backTo pos (starEach es X.env))) (AP X pins σ Q) X.xe s
noncomputable def PS(X:Cx)(st:Stmt)(t:TS):Prop:=
 ∀(pins:List (Addr ×Obj)) (s:Shared) (σ:St) (H:Hp) (D:Ends),Inv X pins σ H s->t D σ H->wpAny (model X.prog X.w) X.A (exec st X.env) (SP X pins D) X.xe s
noncomputable def yD(X:Cx)(st:List Stmt)(t:TS):Prop:=
 ∀(pins:List (Addr ×Obj)) (s:Shared) (σ:St) (H:Hp) (D:Ends),Inv X pins σ H s->t D σ H->wpAny (model X.prog X.w) X.A (execs st X.env) (SP X pins D) X.xe s
theorem cu{α:Type}{t:Sem α}{Q Q':α->Shared->Prop}{M:Model}{A:Around}{E:Value->Shared->Prop}{s:Shared}(h:wpAny M A t Q E s)(hQ:∀a s,Q a s->Q' a s):wpAny M A t Q' E s:=wpAny_mono h hQ λ_ _ x=>x
end L2
namespace L2
open PySem PySem.Spec PyProof.Rows
section
variable{X:Cx}
noncomputable def LQ(i:Nat):TE:=λσ H Q=>∃v,σ[i]?=some (some v)/\Q v H
noncomputable def tC(v:V):TE:=λ_ H Q=>Q v H
theorem CB{i:Nat}{x:Str}{pos:Pos}(hN:X.N[i]?=some x)(hv:Oz X.env.scope x)(hd:(x==("__debug__" :Str))=false:=by decide)(hcd:(x==("__classdict__" :Str))=false:=by decide):PE X (.Name x pos) (LQ i):=by
 intro pins s σ H Q I h
 obtain⟨v,e,h⟩:=h
 obtain⟨m,hn,hl⟩:=I.loc
 obtain⟨u,r,l⟩:=hl i x v hN e hv
 have fin:EP X pins σ Q u s:=⟨v,H,I,r,h⟩
 rcases l with⟨hk,hm⟩|⟨hk,c,hc,hcell⟩
 ·exact wpAny_Name (wpAny_loadName_local I.ok.kind hk hn hm fin) hd
 ·rcases hk with hk|hk
  ·exact wpAny_Name (wpAny_loadName_cell I.ok.kind hk hc hcell fin) hd
  ·exact wpAny_Name (wpAny_loadName_free I.ok.kind hk hc hcell fin hcd) hd
theorem Jb{i j pos}:PE X (.Constant (.int i) j pos) (tC (.int i)):=λ_ _ _ H _ I h=>wpAny_Constant_int ⟨.int i,H,I.tok _,⟨_,rfl⟩,h⟩
theorem LR{b j pos}:PE X (.Constant (.bool b) j pos) (tC (.bl b)):=λ_ _ _ H _ I h=>Constant_bool ⟨.bl b,H,I,rfl,h⟩
theorem Jc{j pos}:PE X (.Constant .none j pos) (tC .bg):=λ_ _ _ H _ I h=>Constant_none ⟨.bg,H,I,rfl,h⟩
noncomputable def Gl(X:Cx)(x:Str):Prop:=X.env.kindOf x=some .globalImplicit
theorem ji{E:Value->Shared->Prop}{pins:List (Addr ×Obj)}{s:Shared}{σ:St}{H:Hp}{x:Str}{u:Value}{pos:Pos}{Q:Value->Shared->Prop}(I:Inv X pins σ H s)(hg:Gl X x)(hm:X.mg x=some u)(h:Q u s)
 (hd:(x==("__debug__" :Str))=false:=by decide):wpAny (model X.prog X.w) X.A (eval (.Name x pos) X.env) Q E s:=
 Calls.Name_function_global I.ok.kind hg (Calls.loadGlobal_global (by rw[I.ok.glob];exact I.mod.glob.keeps I.bk) hm h) hd
theorem jY{E:Value->Shared->Prop}{pins:List (Addr ×Obj)}{s:Shared}{σ:St}{H:Hp}{x:Str}{u:Value}{pos:Pos}{Q:Value->Shared->Prop}(I:Inv X pins σ H s)(hg:Gl X x)(hm:X.mg x=none)(hv:bootBuiltins x=some u)(h:Q u s)
 (hn:x≠"__name__" :=by decide)(hd:(x==("__debug__" :Str))=false:=by decide):wpAny (model X.prog X.w) X.A (eval (.Name x pos) X.env) Q E s:=by
 obtain⟨mb,h1,h2⟩:=I.mod.blt
 exact Calls.Name_function_global I.ok.kind hg (Calls.loadGlobal_builtin (by rw[I.ok.glob];exact I.mod.glob.keeps I.bk) hm (by rw[I.ok.blt];exact h1.keeps I.bk) ((h2 x hn).trans hv) h) hd
theorem Fv{x:Str}{v:V}{u:Value}{pos:Pos}(hg:Gl X x)(hm:X.mg x=some u)(r:RelV v u)(hd:(x==("__debug__" :Str))=false:=by decide):PE X (.Name x pos) (tC v):=
 λ_ _ _ H _ I h=>ji I hg hm ⟨v,H,I,r,h⟩ hd
theorem Fw{x:Str}{v:V}{u:Value}{pos:Pos}(hg:Gl X x)(hm:X.mg x=none)(hv:bootBuiltins x=some u)(r:RelV v u)(hn:x≠"__name__" :=by decide)(hd:(x==("__debug__" :Str))=false:=by decide):PE X (.Name x pos) (tC v):=
 λ_ _ _ H _ I h=>jY I hg hm hv ⟨v,H,I,r,h⟩ hn hd
variable{a b:Expr}{ta tb:TE}{pos:Pos}
noncomputable def tB(t:TE):TT:=λσ H Q=>t σ H λx H1=>∃c,x= .bl c/\Q c H1
variable{tA OC:TT}{rest:List Expr}
noncomputable def Pb(t u:TT):TT:=λσ H Q=>t σ H λc H1=>if c=true then u σ H1 Q else Q false H1
noncomputable def Tc(t u:TT):TT:=λσ H Q=>t σ H λc H1=>if c=true then Q true H1 else u σ H1 Q
noncomputable def Pc(t:TT):TT:=λσ H Q=>t σ H λc H1=>Q (!c) H1
theorem pw_and1(ha:PT X a tA):PW X (.BoolOp .And [a] pos) tA:=by
 intro wh pins s σ H Q I h
 refine isTrue_and (cu (ha pins s σ H Q I h) λc s1 e=>?_)
 cases c with
 |true=>exact isTrue_and_nil e
 |false=>exact e
theorem pw_or1(ha:PT X a tA):PW X (.BoolOp .Or [a] pos) tA:=by
 intro wh pins s σ H Q I h
 refine isTrue_or (cu (ha pins s σ H Q I h) λc s1 e=>?_)
 cases c with
 |false=>exact isTrue_or_nil e
 |true=>exact e
theorem pw_and(ha:PT X a tA)(hb:PW X (.BoolOp .And (b::rest) pos) OC):PW X (.BoolOp .And (a::b::rest) pos) (Pb tA OC):=by
 intro wh pins s σ H Q I h
 refine isTrue_and (cu (ha pins s σ H _ I h) λc s1 ⟨H1,I1,q1⟩=>?_)
 cases c with
 |true=>exact hb wh pins s1 σ H1 Q I1 q1
 |false=>exact⟨H1,I1,q1⟩
theorem pw_or(ha:PT X a tA)(hb:PW X (.BoolOp .Or (b::rest) pos) OC):PW X (.BoolOp .Or (a::b::rest) pos) (Tc tA OC):=by
 intro wh pins s σ H Q I h
 refine isTrue_or (cu (ha pins s σ H _ I h) λc s1 ⟨H1,I1,q1⟩=>?_)
 cases c with
 |true=>exact⟨H1,I1,q1⟩
 |false=>exact hb wh pins s1 σ H1 Q I1 q1
theorem Jd(ha:PT X a tA):PT X (.UnaryOp .Not a pos) (Pc tA):=by
 intro pins s σ H Q I h
 exact isTrue_not (ha pins s σ H (λc H1=>Q (!c) H1) I h)
noncomputable def LS(ta tb:TE):TE:=λσ H Q=>ta σ H λx H1=>∃c,x= .bl c/\if c=true then tb σ H1 Q else Q (.bl false) H1
noncomputable def LU(ta:TE):TE:=λσ H Q=>ta σ H λx H1=>∃c,x= .bl c/\Q (.bl (!c)) H1
theorem Je(ha:PE X a ta)(hb:PE X (.BoolOp .And (b::rest) pos) tb):PE X (.BoolOp .And (a::b::rest) pos) (LS ta tb):=by
 intro pins s σ H Q I h
 refine BoolOp_and (cu (ha pins s σ H _ I h) λv s1 ⟨x,H1,I1,r1,q1⟩=>?_)
 obtain⟨c,rfl,q1⟩:=q1
 cases r1
 refine wpAny_truthy_bool ?_
 cases c with
 |true=>exact hb pins s1 σ H1 Q I1 q1
 |false=>exact⟨.bl false,H1,I1,rfl,q1⟩
theorem Jf(ha:PE X a ta):PE X (.UnaryOp .Not a pos) (LU ta):=by
 intro pins s σ H Q I h
 refine UnaryOp_ (cu (ha pins s σ H _ I h) λv s1 ⟨x,H1,I1,r1,q1⟩=>?_)
 obtain⟨c,rfl,q1⟩:=q1
 cases r1
 exact not_of (wpAny_truthy_bool ⟨.bl (!c),H1,I1,rfl,q1⟩)
end
end L2
namespace L2
open PySem PySem.Spec PyProof.Rows
noncomputable def jj(K:PySem.W.Frag)(H:Hp)(a:Addr)(xs:List V):Prop:=
 Rd H a (.lst xs)\/
  ∃(o:Obj) (its:Array Value) (n:Nat),K.lookup a=some o/\o.cls= .type "list"/\o.dict=none/\o.data= .seq its n/\its.size<=sizeLine/\Vals xs its.toList
noncomputable def nS(K:PySem.W.Frag)(H:Hp)(a:Addr)(xs:List V):Prop:=
 Rd H a (.tup xs)\/
  ∃(o:Obj) (its:Array Value) (n:Nat),K.lookup a=some o/\o.cls= .type "tuple"/\o.data= .seq its n/\its.size<=sizeLine/\Vals xs its.toList
noncomputable def LV:Value->Option V
 | .none=>some .bg
 | .bool b=>some (.bl b)
 | .int i _=>some (.int i)
 | .str x _=>some (.str x)
 | .bytes b _=>some (.Ce b)
 | .float b _=>some (.IX b)
 | .ref a=>some (.ref a)
 | .type n=>some (.ty n)
 |_=>none
theorem RelV.abs{x:V}{u:Value}(r:RelV x u):LV u=some x:=by
 cases x with
 |bg=>cases r;rfl
 |bl _=>cases r;rfl
 |int _=>obtain⟨t,rfl⟩:=r;rfl
 |str _=>obtain⟨t,rfl⟩:=r;rfl
 |Ce _=>obtain⟨t,rfl⟩:=r;rfl
 |IX _=>obtain⟨t,rfl⟩:=r;rfl
 |ref _=>cases r;rfl
 |ty _=>cases r;rfl
theorem RelV.inj{x y:V}{u:Value}(r:RelV x u)(q:RelV y u):x=y:=Option.some.inj (r.abs.symm.trans q.abs)
theorem Vals.inj:∀{xs ys:List V} {us:List Value},Vals xs us->Vals ys us->xs=ys
 |_,_,_,.nil,.nil=>rfl
 |_,_,_,.cons r t,.cons r' t'=>by rw[r.inj r',Vals.inj t t']
section
variable{X:Cx}{pins:List (Addr ×Obj)}{σ:St}{H:Hp}{s:Shared}{a:Addr}{xs ys:List V}
theorem jj.of{K:PySem.W.Frag}(h:H a=some (.lst xs)):jj K H a xs:= .inl (.inl h)
theorem nS.of{K:PySem.W.Frag}(h:H a=some (.tup xs)):nS K H a xs:= .inl (.inl h)
theorem Inv.list(I:Inv X pins σ H s)(h:jj X.K H a xs):∃its:List Value,Vals xs its/\PlainL s.heap a its.toArray/\xs.length<=sizeLine:=by
 rcases h with h|⟨o,its,n,hk,hc,hd,hs,hz,r⟩
 ·obtain⟨z,its,n,r,e⟩:=h.ok I.hok
  exact⟨its,r,⟨_,n,e,rfl,rfl,rfl⟩,z⟩
 ·refine⟨its.toList,r,⟨o,n,I.lF a o hk,hc,hd,by simpa using hs⟩,?_⟩
  have e:=r.length
  simp only[Array.length_toList]at e
  omega
theorem Inv.tuple(I:Inv X pins σ H s)(h:nS X.K H a xs):∃its:List Value,Vals xs its/\IsTup s.heap a its.toArray/\xs.length<=sizeLine:=by
 rcases h with h|⟨o,its,n,hk,hc,hs,hz,r⟩
 ·obtain⟨z,its,r,p⟩:=h.ok I.hok
  exact⟨its,r,p,z⟩
 ·refine⟨its.toList,r,⟨o,I.lF a o hk,hc,n,by simpa using hs⟩,?_⟩
  have e:=r.length
  simp only[Array.length_toList]at e
  omega
theorem Inv.CC(I:Inv X pins σ H s)(h:jj X.K H a xs)(h':jj X.K H a ys):xs=ys:=by
 obtain⟨its,r,⟨o,n,e,_,_,d⟩,_⟩:=I.list h
 obtain⟨its',r',⟨o',n',e',_,_,d'⟩,_⟩:=I.list h'
 rw[e]at e';cases e'
 rw[d]at d'
 injection d' with d1 _
 have:its=its':=by simpa using congrArg Array.toList d1
 subst this
 exact r.inj r'
theorem Inv.A8(I:Inv X pins σ H s)(h:nS X.K H a xs)(h':nS X.K H a ys):xs=ys:=by
 obtain⟨its,r,⟨o,e,_,n,d⟩,_⟩:=I.tuple h
 obtain⟨its',r',⟨o',e',_,n',d'⟩,_⟩:=I.tuple h'
 rw[e]at e';cases e'
 rw[d]at d'
 injection d' with d1 _
 have:its=its':=by simpa using congrArg Array.toList d1
 subst this
 exact r.inj r'
end
noncomputable abbrev Cx.pG(X:Cx)(E:Value->Shared->Prop):Cx:={X with xe:=E}
noncomputable abbrev Cx.yE(X:Cx):Cx:=X.pG λ_ _=>False
theorem Cx.Ok.pG{X:Cx}(ok:X.Ok)(E:Value->Shared->Prop):(X.pG E).Ok:=
 ⟨ok.mod,ok.kind,ok.glob,ok.blt,ok.above,ok.inj,ok.has,ok.IZ,ok.hd,ok.frames,ok.stk,ok.Lu,ok.bs,ok.Cz,ok.yz,ok.yC,ok.lY,ok.Ff⟩
theorem Cx.Ok.iD{X:Cx}{E:Value->Shared->Prop}(ok:(X.pG E).Ok):X.Ok:=
 ⟨ok.mod,ok.kind,ok.glob,ok.blt,ok.above,ok.inj,ok.has,ok.IZ,ok.hd,ok.frames,ok.stk,ok.Lu,ok.bs,ok.Cz,ok.yz,ok.yC,ok.lY,ok.Ff⟩
section
variable{X:Cx}{pins:List (Addr ×Obj)}{σ:St}{H:Hp}{s:Shared}{E:Value->Shared->Prop}
theorem Inv.pG(I:Inv X pins σ H s)(E:Value->Shared->Prop):Inv (X.pG E) pins σ H s:=⟨I.ok.pG E,I.os,I.bare,I.base,I.loc,I.cell,I.free,I.gB,I.pin,I.hok,I.len⟩
theorem Inv.iD(I:Inv (X.pG E) pins σ H s):Inv X pins σ H s:=⟨I.ok.iD,I.os,I.bare,I.base,I.loc,I.cell,I.free,I.gB,I.pin,I.hok,I.len⟩
theorem SP.iD{D:Ends}{f:Flow}{s':Shared}(h:SP (X.pG E) pins D f s'):SP X pins D f s':=by
 cases f with
 |next=>obtain⟨σ',H',I,q⟩:=h;exact⟨σ',H',I.iD,q⟩
 |brk=>obtain⟨σ',H',I,q⟩:=h;exact⟨σ',H',I.iD,q⟩
 |cont=>obtain⟨σ',H',I,q⟩:=h;exact⟨σ',H',I.iD,q⟩
 |ret u=>obtain⟨v,σ',H',I,r,q⟩:=h;exact⟨v,σ',H',I.iD,r,q⟩
theorem yD.yE{st:List Stmt}{t:TS}(h:yD X.yE st t):yD X st t:=λpins s σ H D I hw=>
 wpAny_mono (h pins s σ H D (I.pG _) hw) (λ_ _ q=>q.iD) λ_ _ z=>False.elim z
end
section
variable{X:Cx}{st:Stmt}{rest:List Stmt}{t u:TS}{e:Expr}{te:TE}{pos:Pos}
noncomputable def LW:TS:=λD σ H=>D.nx σ H
noncomputable def Pd(t u:TS):TS:=λD σ H=>t {D with nx:=u D} σ H
theorem Fx:yD X [] LW:=λ_ _ σ H _ I h=>wpAny_execs_nil ⟨σ,H,I,h⟩
theorem CD(h1:PS X st t)(h2:yD X rest u):yD X (st::rest) (Pd t u):=by
 intro pins s σ H D I h
 refine wpAny_execs_cons (cu (h1 pins s σ H {D with nx:=u D} I h) λf s1 q=>?_)
 cases f with
 |next=>
  obtain⟨σ',H',I',q⟩:=q
  exact h2 pins s1 σ' H' D I' q
 |ret v=>exact q
 |brk=>exact q
 |cont=>exact q
theorem zQ(h1:PS X st t):yD X [st] t:=by
 intro pins s σ H D I h
 refine wpAny_execs_cons (cu (h1 pins s σ H D I h) λf s1 q=>?_)
 cases f with
 |next=>exact wpAny_execs_nil q
 |ret v=>exact q
 |brk=>exact q
 |cont=>exact q
theorem Inv.quiet{pins:List (Addr ×Obj)}{σ:St}{H:Hp}{s:Shared}(I:Inv X pins σ H s):interactive X.env=false:=by simp[interactive,I.ok.kind]
noncomputable def LX(te:TE):TS:=λD σ H=>te σ H λ_ H1=>D.nx σ H1
theorem Fy(he:PE X e te)(hs:swapsWith e none pos.line X.env=pure false:=by rfl):PS X (.Expr e pos) (LX te):=by
 intro pins s σ H D I h
 exact wpAny_Expr_any (cu (he pins s σ H _ I h) λv s1 ⟨x,H1,I1,r1,q1⟩=>⟨σ,H1,I1,q1⟩) I.quiet hs
noncomputable def Pe(te:TE):TS:=λD σ H=>te σ H D.rt
theorem Jg(he:PE X e te):PS X (.Return (some e) pos) (Pe te):=by
 intro pins s σ H D I h
 exact wpAny_Return_some (cu (he pins s σ H _ I h) λv s1 ⟨x,H1,I1,r1,q1⟩=>⟨x,σ,H1,I1,r1,q1⟩)
noncomputable def Pg(c:TT)(t u:TS):TS:=λD σ H=>c σ H λb H1=>if b=true then t D σ H1 else u D σ H1
theorem LY{c:Expr}{a b:List Stmt}{tc:TT}(hc:PT X c tc)(ha:yD X a t)(hb:yD X b u):PS X (.If c a b pos) (Pg tc t u):=by
 intro pins s σ H D I h
 refine wpAny_If (cu (hc pins s σ H _ I h) λd s1 ⟨H1,I1,q1⟩=>?_)
 cases d with
 |true=>exact ha pins s1 σ H1 D I1 q1
 |false=>exact hb pins s1 σ H1 D I1 q1
end
noncomputable abbrev TG:=V->St->Hp->(St->Hp->Prop)->Prop
noncomputable def PG(X:Cx)(target:Expr)(t:TG):Prop:=
 ∀(pins:List (Addr ×Obj)) (s:Shared) (σ:St) (H:Hp) (v:V) (u:Value) (Q:St->Hp->Prop),Inv X pins σ H s->RelV v u->t v σ H Q->
  wpAny (model X.prog X.w) X.A (assign target X.env u) (λ_ s'=>∃σ' H',Inv X pins σ' H' s'/\Q σ' H') X.xe s
noncomputable abbrev FA:=V->V->V->Hp->(Hp->Prop)->Prop
noncomputable def LZ(X:Cx)(t:FA):Prop:=
 ∀(pins:List (Addr ×Obj)) (s:Shared) (σ:St) (H:Hp) (o i v:V) (ov iv u:Value) (Q:Hp->Prop),Inv X pins σ H s->RelV o ov->RelV i iv->RelV v u->t o i v H Q->
  wpAny (model X.prog X.w) X.A (setItem ov iv u) (λ_ s'=>∃H',Inv X pins σ H' s'/\Q H') X.xe s
section
variable{X:Cx}{pos:Pos}
noncomputable def HS(i:Nat):TG:=λv σ H Q=>Q (σ.set i (some v)) H
theorem FD{i:Nat}{x:Str}(hN:X.N.Nodup)(hi:X.N[i]?=some x)(hx:Loc X.env.scope x)(hf:X.fn x=true\/X.env.scope.names.lookup x=some .local:=by first|exact .inl rfl|exact .inr rfl|assumption):PG X (.Name x pos) (HS i):=by
 intro pins s σ H v u Q I r h
 exact wpAny_assign_Name (mP I hN hi hx r (λs' I'=>⟨_,H,I',h⟩) hf)
noncomputable def Ph(to ti:TE)(t:FA):TG:=λv σ H Q=>to σ H λo H1=>ti σ H1 λi H2=>t o i v H2 λH3=>Q σ H3
theorem Jh{o i:Expr}{to ti:TE}{t:FA}(ho:PE X o to)(hi:PE X i ti)(hs:LZ X t)
 (ha:∀v,assign (.Subscript o i pos) X.env v=(do
  let ov <-holding [v] (eval o X.env)
  let iv <-holding [v,ov] (eval i X.env)
  standAt pos
  holding [v,ov,iv] (setItem ov iv v)
  release [v,ov,iv] []):=by intro _;rfl):PG X (.Subscript o i pos) (Ph to ti t):=by
 intro pins s σ H v u Q I r h
 rw[ha]
 refine wpAny_bind (wpAny_holding (cu (ho pins s σ H _ I h) λov s1 ⟨x,H1,I1,r1,q1⟩=>?_))
 refine wpAny_bind (wpAny_holding (cu (hi pins s1 σ H1 _ I1 q1) λiv s2 ⟨y,H2,I2,r2,q2⟩=>?_))
 refine wpAny_bind (wpAny_standAt (wpAny_bind (wpAny_holding (cu (hs pins s2 σ H2 x y v ov iv u _ I2 r1 r2 r q2) λ_ s3 ⟨H3,I3,q3⟩=>?_))))
 exact wpAny_release ⟨σ,H3,I3,q3⟩
noncomputable def Pj(te:TE)(g:TG):TS:=λD σ H=>te σ H λx H1=>g x σ H1 D.nx
theorem Ji{i:Nat}{x:Str}{e:Expr}{te:TE}{pos':Pos}(hN:X.N.Nodup)(hi:X.N[i]?=some x)(hx:Loc X.env.scope x)(he:PE X e te)(hs:swapsWith e (some (.Name x pos')) pos.line X.env=pure false:=by rfl)(hf:X.fn x=true\/X.env.scope.names.lookup x=some .local:=by first|exact .inl rfl|exact .inr rfl|assumption) :
 PS X (.Assign [.Name x pos'] e pos) (Pj te (HS i)):=by
 intro pins s σ H D I h
 refine wpAny_Assign_Name (cu (he pins s σ H _ I h) λv s1 ⟨y,H1,I1,r1,q1⟩=>?_) hs
 exact mP I1 hN hi hx r1 (λs2 I2=>⟨_,H1,I2,q1⟩) hf
end
section
variable{X:Cx}{pos:Pos}
noncomputable def Jj(c:TT)(tb:TS):TS:=λD σ H=>∃W:Nat->St->Hp->Prop,(∃m,W m σ H)/\∀m σ H,W m σ H->
 c σ H λb H1=>if b=true then∃N:St->Hp->Prop,(∀σ' H',N σ' H'->∃m',m'<m/\W m' σ' H')/\tb {D with nx:=N,ct:=N,bk:=D.nx} σ H1 else D.nx σ H1
theorem CG{c:Expr}{body:List Stmt}{tc:TT}{tb:TS}(hp:PassesOwn (model X.prog X.w) X.A X.env X.xe)(hc:PT X c tc)(hb:yD X body tb):PS X (.While c body [] pos) (Jj tc tb):=by
 intro pins s σ H D I h
 obtain⟨W,⟨m0,w0⟩,turn⟩:=h
 refine wpAny_While (codeAny_whileLoop (λn s'=>∃σ' H',Inv X pins σ' H' s'/\W n σ' H') ?_ m0 ⟨σ,H,I,w0⟩)
 rintro n s1 ⟨σ1,H1,I1,w1⟩
 refine wpAny_passesOwn hp (cu (hc pins s1 σ1 H1 _ I1 (turn n σ1 H1 w1)) λb s2 ⟨H2,I2,q2⟩=>?_)
 cases b with
 |true=>
  obtain⟨N,hN,q2⟩:=q2
  rw[if_pos rfl]
  refine wpAny_passesOwn hp (cu (hb pins s2 σ1 H2 _ I2 q2) λf s3 q3=>?_)
  cases f with
  |next=>
   obtain⟨σ3,H3,I3,n3⟩:=q3
   obtain⟨m',hm,w3⟩:=hN σ3 H3 n3
   exact⟨m',hm,σ3,H3,I3,w3⟩
  |cont=>
   obtain⟨σ3,H3,I3,n3⟩:=q3
   obtain⟨m',hm,w3⟩:=hN σ3 H3 n3
   exact⟨m',hm,σ3,H3,I3,w3⟩
  |brk=>exact q3
  |ret v=>exact q3
 |false=>
  rw[if_neg Xv]
  exact wpAny_execs_nil ⟨σ1,H2,I2,q2⟩
end
structure It where
 go:Nat->Hp->Prop
 FE:Nat->Hp->V->Hp->Prop
 stop:Nat->Hp->Prop
noncomputable def jS(X:Cx)(pins:List (Addr ×Obj))(H:Hp)(b:Addr):Prop:=
 H b=none/\b≠X.env.locals/\b∉X.fs/\(b∈X.ex\/X.s₀.heap.objs.size<=b)/\(∀x c,X.env.cells.lookup x=some c->c≠b)/\∀p∈X.pn++pins,p.1≠b
theorem Inv.CH{X:Cx}{pins:List (Addr ×Obj)}{σ:St}{H H':Hp}{s:Shared}{b:Addr}(I:Inv X pins σ H s)(hb:s.heap.objs.size<=b)(hn:H' b=none):jS X pins H' b:=by
 refine⟨hn,X5 (Xp I.lt hb),I.O8 hb,.inr (Yj I.sz hb),λx c e z=>?_,λp hp z=>?_⟩
 ·obtain⟨v,q⟩:=I.cell x c e
  exact absurd (Xp q.lt (by rw[z];exact hb)) (Ys _)
 ·exact absurd (Xp (Heap.lt_size (I.pin p hp).1) (by rw[z];exact hb)) (Ys _)
structure Turn(P:Program)(w:World)(K:PySem.W.Frag)(tg:Expr)(J:It)(fp:List Addr)(it:Addr)(tn:Nat->Heap->Prop):Prop where
 mem:it∈fp
 obj:∀i h,tn i h->∀b∈fp,∃o,h.get? b=some o/\∀v,o.data≠ .cell v
 keep:∀i h h',tn i h->(∀b∈fp,∀o,h.get? b=some o->h'.get? b=some o)->tn i h'
 item:∀(X:Cx),X.prog=P->X.w=w->X.K=K->X.calm=true->∀(i:Nat) (pins:List (Addr ×Obj)) (s:Shared) (σ:St) (H:Hp) (E:Value->Shared->Prop),Inv X pins σ H s->(∀b∈fp,jS X pins H b)->tn i s.heap->J.go i H->
  wpAny (model P w) X.A (pyNext (.ref it)) (λr s1=>∃u,r=some u/\
   wpAny (model P w) X.A (letOwnedTupleGo tg (.ref it) u) (λ_ s2=>∃x H',Inv X pins σ H' s2/\RelV x u/\J.FE i H x H'/\tn (i+1) s2.heap/\∀b∈fp,H' b=none) E s1) E s
 done:∀(X:Cx),X.prog=P->X.w=w->X.K=K->X.calm=true->∀(i:Nat) (pins:List (Addr ×Obj)) (s:Shared) (σ:St) (H:Hp) (E:Value->Shared->Prop),Inv X pins σ H s->(∀b∈fp,jS X pins H b)->tn i s.heap->J.stop i H->
  wpAny (model P w) X.A (pyNext (.ref it)) (λr s1=>r=none/\Inv X pins σ H s1) E s
 self:∀(A:Around) (i:Nat) (s:Shared) (Q:Value->Shared->Prop) (E:Value->Shared->Prop),tn i s.heap->Q (.ref it) s->wpAny (model P w) A (pyIter (.ref it)) Q E s
noncomputable abbrev TI:=St->Hp->(It->Hp->Prop)->Prop
noncomputable def Pk(X:Cx)(pins:List (Addr ×Obj))(σ:St)(tg:Expr)(R:It->Hp->Prop)(itv:Value)(s2:Shared):Prop:=
 ∃(it:Addr) (fp:List Addr) (tn:Nat->Heap->Prop) (J:It) (H':Hp),itv= .ref it/\Inv X pins σ H' s2/\Turn X.prog X.w X.K tg J fp it tn/\tn 0 s2.heap/\(∀b∈fp,jS X pins H' b)/\R J H'
noncomputable def PI(X:Cx)(tg iter:Expr)(wi:TI):Prop:=
 ∀(pins:List (Addr ×Obj)) (s:Shared) (σ:St) (H:Hp) (R:It->Hp->Prop),Inv X pins σ H s->wi σ H R->
  wpAny (model X.prog X.w) X.A (eval iter X.env) (λv s1=>wpAny (model X.prog X.w) X.A (pyIter v) (Pk X pins σ tg R) X.xe s1) X.xe s
theorem CI{M:Model}{A:Around}{E:Value->Shared->Prop}{s:Shared}{tg:Expr}{it:Addr}{u:Value}{o:Obj}{n:String}{vs:Array Value}{Q:Unit->Shared->Prop}(ho:s.heap.get? it=some o)(hc:o.cls= .type n)(hd:o.data= .fields vs)
 (hn:["enumerate","zip","dict_itemiterator","dict_reverseitemiterator","odict_iterator","itertools.zip_longest","itertools.pairwise"].contains n=false)(hQ:Q () s):wpAny M A (letOwnedTupleGo tg (.ref it) u) Q E s:=by
 unfold letOwnedTupleGo
 cases tg<;>first
  |exact wpAny_pure hQ
  |(cases u<;>first
   |exact wpAny_pure hQ
   |(refine wpAny_bind (wpAny_load ho ?_)
     rw[hc,hd]
     show wpAny M A (if(["enumerate","zip","dict_itemiterator","dict_reverseitemiterator","odict_iterator","itertools.zip_longest","itertools.pairwise"].contains n && vs[0]?==some (rawInt _))=true then _ else _) Q E s
     rw[if_neg (by intro h;rw[hn,ZG]at h;cases h)]
     exact wpAny_pure hQ))
noncomputable def Pn(K:PySem.W.Frag)(a:Addr):It:=
 ⟨λi H=>∃xs x,jj K H a xs/\xs[i]?=some x,λi H x H'=>H'=H/\∀xs,jj K H a xs->xs[i]?=some x,λi H=>∃xs,jj K H a xs/\xs.length<=i⟩
noncomputable def Po(K:PySem.W.Frag)(a:Addr):It:=
 ⟨λi H=>∃xs x,nS K H a xs/\xs[i]?=some x,λi H x H'=>H'=H/\∀xs,nS K H a xs->xs[i]?=some x,λi H=>∃xs,nS K H a xs/\xs.length<=i⟩
noncomputable def OD(lo:Int)(n:Nat):It:=⟨λi _=>i<n,λi H x H'=>H'=H/\x= .int (lo+i),λi _=>n<=i⟩
theorem A9{P:Program}{w:World}{K:PySem.W.Frag}{tg:Expr}(a it:Addr):Turn P w K tg (Pn K a) [it] it (λi h=>h.IsListIter it a i) where
 mem:=by simp
 obj:=λi h st b hb=>by
  have e:b=it:=by simpa using hb
  subst e
  obtain⟨o,e,c,d⟩:=st
  exact⟨o,e,λv z=>by rw[d]at z;cases z⟩
 keep:=λi h h' st k=>st.at λo e=>k it (by simp) o e
 item:=by
  intro X hP hw hK hc i pins s σ H E I hf st hg
  subst hP hw hK
  obtain⟨xs,x,hq,hx⟩:=hg
  obtain⟨its,rv,p,hz⟩:=I.list hq
  obtain⟨u,hu,ru⟩:=rv.get hx
  obtain⟨f0,f1,f2,f3,f4,f5⟩:=hf it (by simp)
  refine wpAny_pyNext_list_item st p.isList (x:=u) (by simpa using hu) λh' st' sb=>?_
  have I1:Inv X pins σ H {s with heap:=h'}:=I.turned (t':=s.toks) (λb o hb e=>(sb.2 b hb).trans e) f0 f1 f3 f4 f5
  obtain⟨o,e,c,d⟩:=id st'
  exact⟨u,rfl,CI (s:={s with heap:=h'}) e c d (by decide) ⟨x,H,I1,ru,⟨rfl,λys hy=>by rw[I.CC hy hq];exact hx⟩,st',λb hb=>(hf b hb).1⟩⟩
 done:=by
  intro X hP hw hK hc i pins s σ H E I hf st hg
  subst hP hw hK
  obtain⟨xs,hq,hx⟩:=hg
  obtain⟨its,rv,p,hz⟩:=I.list hq
  obtain⟨f0,f1,f2,f3,f4,f5⟩:=hf it (by simp)
  have hl:=rv.length
  exact wpAny_pyNext_list_end (I.ok.hd hc) st p.isList (by simp;omega) λh' eb=>⟨rfl,I.turned (t':=s.toks) (λb o hb e=>eb b o hb e) f0 f1 f3 f4 f5⟩
 self:=λ_ _ _ _ _ st h=>wpAny_pyIter_listiter st h
theorem yF{P:Program}{w:World}{K:PySem.W.Frag}{tg:Expr}(a it:Addr):Turn P w K tg (Po K a) [it] it (λi h=>h.IsTupleIter it a i) where
 mem:=by simp
 obj:=λi h st b hb=>by
  have e:b=it:=by simpa using hb
  subst e
  obtain⟨o,e,c,d⟩:=st
  exact⟨o,e,λv z=>by rw[d]at z;cases z⟩
 keep:=λi h h' st k=>st.at λo e=>k it (by simp) o e
 item:=by
  intro X hP hw hK hc i pins s σ H E I hf st hg
  subst hP hw hK
  obtain⟨xs,x,hq,hx⟩:=hg
  obtain⟨its,rv,p,hz⟩:=I.tuple hq
  obtain⟨u,hu,ru⟩:=rv.get hx
  obtain⟨f0,f1,f2,f3,f4,f5⟩:=hf it (by simp)
  refine wpAny_pyNext_tuple_item st (show s.heap.IsTuple a its.toArray from p) (x:=u) (by simpa using hu) λh' st' sb=>?_
  have I1:Inv X pins σ H {s with heap:=h'}:=I.turned (t':=s.toks) (λb o hb e=>(sb.2 b hb).trans e) f0 f1 f3 f4 f5
  obtain⟨o,e,c,d⟩:=id st'
  exact⟨u,rfl,CI (s:={s with heap:=h'}) e c d (by decide) ⟨x,H,I1,ru,⟨rfl,λys hy=>by rw[I.A8 hy hq];exact hx⟩,st',λb hb=>(hf b hb).1⟩⟩
 done:=by
  intro X hP hw hK hc i pins s σ H E I hf st hg
  subst hP hw hK
  obtain⟨xs,hq,hx⟩:=hg
  obtain⟨its,rv,p,hz⟩:=I.tuple hq
  obtain⟨f0,f1,f2,f3,f4,f5⟩:=hf it (by simp)
  have hl:=rv.length
  exact wpAny_pyNext_tuple_end (I.ok.hd hc) st (show s.heap.IsTuple a its.toArray from p) (by simp;omega) λh' eb=>⟨rfl,I.turned (t':=s.toks) (λb o hb e=>eb b o hb e) f0 f1 f3 f4 f5⟩
 self:=λ_ _ _ _ _ st h=>wpAny_pyIter_tupleiter st h
theorem yG{P:Program}{w:World}{K:PySem.W.Frag}{tg:Expr}(it:Addr)(lo:Int)(n:Nat):Turn P w K tg (OD lo n) [it] it (λi h=>IsRangeIter h it (lo+(i:Nat)*1) ((n:Int)-(i:Nat)) 1) where
 mem:=by simp
 obj:=λi h st b hb=>by
  have e:b=it:=by simpa using hb
  subst e
  exact⟨_,st,λv z=>by
   have z':Data.fields _=Data.cell v:=z
   cases z'⟩
 keep:=λi h h' st k=>k it (by simp) _ st
 item:=by
  intro X hP hw hK hc i pins s σ H E I hf st hg
  subst hP hw hK
  obtain⟨f0,f1,f2,f3,f4,f5⟩:=hf it (by simp)
  have W:=Walks.range (prog:=X.prog) (w:=X.w) (I.ok.hd hc) it lo 1 n
  refine W.item i s _ _ hg st λv h' tk hv st' kk=>?_
  obtain⟨t,rfl⟩:=hv
  have I1:Inv X pins σ H {s with heap:=h',toks:=tk}:=I.turned (λb o hb e=>kk b o (by simpa using hb) e) f0 f1 f3 f4 f5
  refine⟨_,rfl,CI (s:={s with heap:=h',toks:=tk}) (n:= "range_iterator") st' rfl rfl (by decide) ⟨.int (lo+i),H,I1,⟨t,?_⟩,⟨rfl,rfl⟩,st',λb hb=>(hf b hb).1⟩⟩
  rw[Z8]
 done:=by
  intro X hP hw hK hc i pins s σ H E I hf st hg
  subst hP hw hK
  obtain⟨f0,f1,f2,f3,f4,f5⟩:=hf it (by simp)
  exact wpAny_pyNext_range_end (I.ok.hd hc) st (by have:n<=i:=hg;omega) λh' eb=>⟨rfl,I.turned (t':=s.toks) (λb o hb e=>eb b o hb e) f0 f1 f3 f4 f5⟩
 self:=λ_ _ _ _ _ st h=>wpAny_pyIter_rangeiter st h
end L2
namespace L2
open PySem PySem.Spec PyProof.Rows
section
variable{X:Cx}{tg:Expr}
noncomputable def L4(K:PySem.W.Frag)(tl:TE):TI:=λσ H R=>tl σ H λx H1=>∃a,x= .ref a/\(∃xs,jj K H1 a xs)/\R (Pn K a) H1
noncomputable def Pp(K:PySem.W.Frag)(tl:TE):TI:=λσ H R=>tl σ H λx H1=>∃a,x= .ref a/\(∃xs,nS K H1 a xs)/\R (Po K a) H1
theorem zR{l:Expr}{tl:TE}(hl:PE X l tl):PI X tg l (L4 X.K tl):=by
 intro pins s σ H R I h
 refine cu (hl pins s σ H _ I h) λv s1 ⟨x,H1,I1,r1,q1⟩=>?_
 obtain⟨a,e,⟨xs,hq⟩,q⟩:=q1
 subst e
 cases r1
 obtain⟨its,rv,p,hz⟩:=I1.list hq
 refine wpAny_pyIter_list p.isList ?_
 refine⟨s1.heap.objs.size,[s1.heap.objs.size],_,_,H1,rfl,I1.kept (t':=s1.toks) λb o e=>Heap.get?_push_of_some _ e,A9 a _,⟨_,Heap.get?_push_size _ rfl,rfl,rfl⟩,λb hb=>?_,q⟩
 have e:b=s1.heap.objs.size:=by simpa using hb
 subst e
 exact I1.CH (Xn _) (I1.hok.fresh (Xn _))
theorem CJ{l:Expr}{tl:TE}(hl:PE X l tl):PI X tg l (Pp X.K tl):=by
 intro pins s σ H R I h
 refine cu (hl pins s σ H _ I h) λv s1 ⟨x,H1,I1,r1,q1⟩=>?_
 obtain⟨a,e,⟨xs,hq⟩,q⟩:=q1
 subst e
 cases r1
 obtain⟨its,rv,p,hz⟩:=I1.tuple hq
 refine wpAny_pyIter_tuple (show s1.heap.IsTuple a its.toArray from p) ?_
 refine⟨s1.heap.objs.size,[s1.heap.objs.size],_,_,H1,rfl,I1.kept (t':=s1.toks) λb o e=>Heap.get?_push_of_some _ e,yF a _,⟨_,Heap.get?_push_size _ rfl,rfl,rfl⟩,λb hb=>?_,q⟩
 have e:b=s1.heap.objs.size:=by simpa using hb
 subst e
 exact I1.CH (Xn _) (I1.hok.fresh (Xn _))
theorem CK{pins:List (Addr ×Obj)}{σ:St}{H:Hp}{s:Shared}{R:It->Hp->Prop}{E:Value->Shared->Prop}{lo hi:Int}{t u v:Tok}{tk:Nat}(I:Inv X pins σ H s)(h1: -(2 ^ 62)<=lo)(h2:lo<2 ^ 62)(h3: -(2 ^ 62)<=hi)(h4:hi<2 ^ 62)
 (q:R (OD lo (hi-lo).toNat) H):wpAny (model X.prog X.w) X.A (pyIter (.ref s.heap.objs.size)) (Pk X pins σ tg R) E {s with heap:=s.heap.push {cls:= .type "range",data:= .fields #[.int lo t,.int hi u,.int 1 v]},toks:=tk}:=by
 refine wpAny_pyIter_range (IsRange.new ..) (small_one h1 h2 h3 h4) ?_
 have I1:Inv X pins σ H {s with heap:=s.heap.push {cls:= .type "range",data:= .fields #[.int lo t,.int hi u,.int 1 v]},toks:=tk}:=I.kept λb o e=>Heap.get?_push_of_some _ e
 refine⟨(s.heap.push {cls:= .type "range",data:= .fields #[.int lo t,.int hi u,.int 1 v]}).objs.size,[(s.heap.push {cls:= .type "range",data:= .fields #[.int lo t,.int hi u,.int 1 v]}).objs.size],_,_,H,rfl,
  I1.kept (t':=tk) λb o e=>Heap.get?_push_of_some _ e,yG _ lo (hi-lo).toNat,?_,λb hb=>?_,q⟩
 ·have e1:lo+((0:Nat):Int)*1=lo:=by simp
  have e2:(((hi-lo).toNat:Nat):Int)-((0:Nat):Int)=Builtin.Range.rangeSize lo hi 1:=by rw[rangeSize_one];split<;>omega
  show IsRangeIter _ _ (lo+((0:Nat):Int)*1) ((((hi-lo).toNat:Nat):Int)-((0:Nat):Int)) 1
  rw[e1,e2]
  exact Heap.get?_push_size _ rfl
 ·have e:b=(s.heap.push {cls:= .type "range",data:= .fields #[.int lo t,.int hi u,.int 1 v]}).objs.size:=by simpa using hb
  subst e
  exact I1.CH (Xn _) (I1.hok.fresh (Xn _))
noncomputable def L5(ta:TA):TI:=λσ H R=>ta σ H λvs H1=>∃j:Int,vs=[.int j]/\ -(2 ^ 62)<=j/\j<2 ^ 62/\R (OD 0 j.toNat) H1
theorem Ba{a:Expr}{ta:TA}{p pos:Pos}(hg:Gl X "range")(hm:X.mg "range" =none)(ha:PA X [a] ta)(hs:starEach [a] X.env=[(false,eval a X.env)]:=by rfl):PI X tg (.Call (.Name "range" p) [a] [] pos) (L5 ta):=by
 intro pins s σ H R I h
 refine Call_ (jY I hg hm boot_range (PyProof.Rows.callWith_type1 (cu (ha pos pins s σ H _ I h) λus s1 ⟨vs,H1,I1,r1,q1⟩=>?_) hs rfl))
 obtain⟨j,e,q1,q2,q⟩:=q1
 subst e
 cases r1 with
 |cons r rr=>
  cases rr
  obtain⟨t,rfl⟩:=r
  exact call_range_1 (CK I1 (by omega) (by omega) q1 q2 (by simpa using q))
noncomputable def Pq(wi:TI)(g:TG)(tb:TS):TS:=λD σ H=>wi σ H λJ H1=>∃W:Nat->Nat->St->Hp->Prop,(∃m,W 0 m σ H1)/\∀i m σ H,W i m σ H->
 (J.stop i H/\D.nx σ H)\/(J.go i H/\∃N:St->Hp->Prop,(∀σ' H',N σ' H'->∃m',m'<m/\W (i+1) m' σ' H')/\∀x H',J.FE i H x H'->g x σ H' λσ2 H2=>tb {D with nx:=N,ct:=N,bk:=D.nx} σ2 H2)
noncomputable def qk(fp:List Addr)(h:Heap):List (Addr ×Obj):=fp.filterMap λb=>(h.get? b).map λo=>(b,o)
theorem lZ{fp:List Addr}{h:Heap}{b:Addr}{o:Obj}(hb:b∈fp)(e:h.get? b=some o):(b,o)∈qk fp h:=Zi.mpr ⟨b,hb,by rw[e];rfl⟩
theorem Bb{fp:List Addr}{h:Heap}{p:Addr ×Obj}(hp:p∈qk fp h):p.1∈fp/\h.get? p.1=some p.2:=by
 obtain⟨b,hb,e⟩:=Zi.mp hp
 cases q:h.get? b with
 |none=>rw[q]at e;cases e
 |some o=>
  rw[q]at e
  have e':(b,o)=p:=Option.some.inj e
  subst e'
  exact⟨hb,q⟩
theorem Inv.pinned{pins:List (Addr ×Obj)}{σ:St}{H:Hp}{s:Shared}{fp:List Addr}(I:Inv X pins σ H s)(hf:∀b∈fp,jS X pins H b)(ho:∀b∈fp,∃o,s.heap.get? b=some o/\∀v,o.data≠ .cell v):Inv X (pins++qk fp s.heap) σ H s:=
 I.pX λp hp=>(XI.mp hp).elim (λz=>I.pin p (XN _ z)) λz=>by
   obtain⟨hb,e⟩:=Bb z
   obtain⟨f0,f1,f2,_⟩:=hf p.1 hb
   obtain⟨o,e',d⟩:=ho p.1 hb
   rw[e]at e';cases e'
   exact⟨e,f0,f1,f2,d⟩
theorem Inv.jZ{pins pl:List (Addr ×Obj)}{σ:St}{H:Hp}{s:Shared}(I:Inv X (pins++pl) σ H s):Inv X pins σ H s:=I.pX λp hp=>I.pin p (XN _ (Xx _ hp))
theorem yH{iter:Expr}{body:List Stmt}{wi:TI}{g:TG}{tb:TS}{pos:Pos}(hp:PassesOwn (model X.prog X.w) X.A X.env X.xe)(hc:X.calm=true)(hi:PI X tg iter wi)(hg:PG X tg g)(hb:yD X body tb)
 (hs:∀x,foldedSetIterable iter X.env x=pure x:=by intro _;rfl):PS X (.For tg iter body [] pos) (Pq wi g tb):=by
 intro pins s σ H D I h
 refine wpAny_For (cu (hi pins s σ H _ I h) λv s1 h1=>cu h1 λitv s2 h2=>?_) hs
 obtain⟨it,fp,tn,J,H2,e,I2,T,st2,f2,W,⟨m0,w0⟩,turn⟩:=h2
 subst e
 have stat:∀{H':Hp},(∀b∈fp,H' b=none)->∀b∈fp,jS X pins H' b:=λhn b hb=>⟨hn b hb,(f2 b hb).2⟩
 refine codeAny_forLoop_any (λn s'=>∃i σ' H',Inv X pins σ' H' s'/\tn i s'.heap/\(∀b∈fp,H' b=none)/\W i n σ' H') ?_ m0 ⟨0,σ,H2,I2,st2,λb hb=>(f2 b hb).1,w0⟩
 rintro n s3 ⟨i,σ3,H3,I3,st3,RK,w3⟩
 rcases turn i n σ3 H3 w3 with⟨stop,qn⟩|⟨go,N,hN,step⟩
 ·refine wpAny_passesOwn hp (cu (T.done X rfl rfl rfl hc i pins s3 σ3 H3 X.xe I3 (stat RK) st3 stop) λr s4 ⟨hr,I4⟩=>?_)
  subst hr
  exact wpAny_execs_nil ⟨σ3,H3,I4,qn⟩
 ·refine wpAny_passesOwn hp (cu (T.item X rfl rfl rfl hc i pins s3 σ3 H3 X.xe I3 (stat RK) st3 go) λr s4 ⟨u,hr,h4⟩=>?_)
  subst hr
  refine wpAny_passesOwn hp (cu h4 λ_ s5 ⟨x,H5,I5,r5,y5,Lv,FF⟩=>?_)
  have Td:=I5.pinned (stat FF) (T.obj _ _ Lv)
  refine wpAny_passesOwn hp (cu (hg _ s5 σ3 H5 x u _ Td r5 (step x H5 y5)) λ_ s6 ⟨σ6,H6,I6,q6⟩=>?_)
  refine wpAny_passesOwn hp (cu (hb _ s6 σ6 H6 _ I6 q6) λf s7 q7=>?_)
  have again:∀{σ7:St} {H7:Hp},Inv X (pins++qk fp s5.heap) σ7 H7 s7->N σ7 H7->∃m,m<n/\∃i σ' H',Inv X pins σ' H' s7/\tn i s7.heap/\(∀b∈fp,H' b=none)/\W i m σ' H':=λ{σ7 H7} I7 n7=>by
   obtain⟨m',hm,w7⟩:=hN σ7 H7 n7
   refine⟨m',hm,i+1,σ7,H7,I7.jZ,T.keep _ _ _ Lv λb hb o e=>(I7.pin (b,o) (XN _ (XN _ (lZ hb e)))).1,λb hb=>?_,w7⟩
   obtain⟨o,e,d⟩:=T.obj _ _ Lv b hb
   exact(I7.pin (b,o) (XN _ (XN _ (lZ hb e)))).2.1
  cases f with
  |next=>obtain⟨σ7,H7,I7,n7⟩:=q7;exact again I7 n7
  |cont=>obtain⟨σ7,H7,I7,n7⟩:=q7;exact again I7 n7
  |brk=>obtain⟨σ7,H7,I7,q7⟩:=q7;exact⟨σ7,H7,I7.jZ,q7⟩
  |ret v=>obtain⟨x7,σ7,H7,I7,r7,q7⟩:=q7;exact⟨x7,σ7,H7,I7.jZ,r7,q7⟩
end
end L2
namespace L2
open PySem PySem.Spec PyProof.Rows
noncomputable abbrev R2:=V->V->Hp->VK->Prop
noncomputable def uY(X:Cx)(f:Value->Value->Sem Value)(r:R2):Prop:=
 ∀(pins:List (Addr ×Obj)) (s:Shared) (σ:St) (H:Hp) (x y:V) (v u:Value) (Q:VK),Inv X pins σ H s->RelV x v->RelV y u->r x y H Q->
  wpAny (model X.prog X.w) X.A (f v u) (EP X pins σ Q) X.xe s
noncomputable def Pu(X:Cx)(f:Value->Sem Value)(r:V->Hp->VK->Prop):Prop:=
 ∀(pins:List (Addr ×Obj)) (s:Shared) (σ:St) (H:Hp) (x:V) (v:Value) (Q:VK),Inv X pins σ H s->RelV x v->r x H Q->
  wpAny (model X.prog X.w) X.A (f v) (EP X pins σ Q) X.xe s
noncomputable def zS(X:Cx)(f:Value)(r:List V->Hp->VK->Prop):Prop:=
 ∀(pins:List (Addr ×Obj)) (s:Shared) (σ:St) (H:Hp) (xs:List V) (us:List Value) (Q:VK),Inv X pins σ H s->Vals xs us->r xs H Q->
  wpAny (model X.prog X.w) X.A (call f us) (EP X pins σ Q) X.xe s
noncomputable def Te(r:R2)(ta tb:TE):TE:=λσ H Q=>ta σ H λx H1=>tb σ H1 λy H2=>r x y H2 Q
noncomputable def Tf(r:V->Hp->VK->Prop)(ta:TE):TE:=λσ H Q=>ta σ H λx H1=>r x H1 Q
noncomputable def rI(C:Int->Int->Prop)(g:Int->Int->V):R2:=λx y H Q=>∃i j,x= .int i/\y= .int j/\C i j/\Q (g i j) H
noncomputable def FG(g:Int->Int->V):R2:=λx y H Q=>∃i j,x= .int i/\y= .int j/\Q (g i j) H
noncomputable def rU(g:Int->V):V->Hp->VK->Prop:=λx H Q=>∃i,x= .int i/\Q (g i) H
section
variable{X:Cx}{a b c:Expr}{ta tb tc:TE}{pos:Pos}
theorem Pw(ha:PE X a ta)(hb:PE X b tb){pins:List (Addr ×Obj)}{s:Shared}{σ:St}{H:Hp}{R:V->V->Hp->Prop}(I:Inv X pins σ H s)
 (h:ta σ H λx H1=>tb σ H1 λy H2=>R x y H2){Q:Value->Shared->Prop}{f:Value->Value->Sem Value}
 (hf:∀v u s2 x y H2,Inv X pins σ H2 s2->RelV x v->RelV y u->R x y H2->wpAny (model X.prog X.w) X.A (f v u) Q X.xe s2) :
 wpAny (model X.prog X.w) X.A (eval a X.env) (λv s₁=>wpAny (model X.prog X.w) X.A (eval b X.env) (λu s₂=>wpAny (model X.prog X.w) X.A (f v u) Q X.xe s₂) X.xe s₁) X.xe s:=by
 refine cu (ha pins s σ H _ I h) λv s1 ⟨x,H1,I1,r1,q1⟩=>?_
 refine cu (hb pins s1 σ H1 _ I1 q1) λu s2 ⟨y,H2,I2,r2,q2⟩=>?_
 exact hf v u s2 x y H2 I2 r1 r2 q2
theorem L6{op:UnaryOp}{r:V->Hp->VK->Prop}(ho:Pu X (unaryOp op) r)(ha:PE X a ta):PE X (.UnaryOp op a pos) (Tf r ta):=by
 intro pins s σ H Q I h
 exact UnaryOp_ (cu (ha pins s σ H _ I h) λv s1 ⟨x,H1,I1,r1,q1⟩=>ho pins s1 σ H1 x v Q I1 r1 q1)
theorem L7{f:Value->Value->Sem Value}{C:Int->Int->Prop}{g:Int->Int->Int}
 (rule:∀(i j:Int) (t u:Tok) (s:Shared) (Q:Value->Shared->Prop) (E:Value->Shared->Prop),C i j->Q (.int (g i j) s.toks) {s with toks:=s.toks+1}->wpAny (model X.prog X.w) X.A (f (.int i t) (.int j u)) Q E s) :
 uY X f (rI C λi j=> .int (g i j)):=by
 intro pins s σ H x y v u Q I rx ry h
 obtain⟨i,j,rfl,rfl,hc,q⟩:=h
 obtain⟨t,rfl⟩:=rx
 obtain⟨t',rfl⟩:=ry
 exact rule i j t t' s _ _ hc ⟨.int (g i j),H,I.tok _,⟨_,rfl⟩,q⟩
theorem L8{f:Value->Value->Sem Value}{g:Int->Int->Int}
 (rule:∀(i j:Int) (t u:Tok) (s:Shared) (Q:Value->Shared->Prop) (E:Value->Shared->Prop),Q (.int (g i j) s.toks) {s with toks:=s.toks+1}->wpAny (model X.prog X.w) X.A (f (.int i t) (.int j u)) Q E s) :
 uY X f (FG λi j=> .int (g i j)):=by
 intro pins s σ H x y v u Q I rx ry h
 obtain⟨i,j,rfl,rfl,q⟩:=h
 obtain⟨t,rfl⟩:=rx
 obtain⟨t',rfl⟩:=ry
 exact rule i j t t' s _ _ ⟨.int (g i j),H,I.tok _,⟨_,rfl⟩,q⟩
theorem Jk{f:Value->Value->Sem Value}{g:Int->Int->Bool}
 (rule:∀(i j:Int) (t u:Tok) (s:Shared) (Q:Value->Shared->Prop) (E:Value->Shared->Prop),Q (.bool (g i j)) s->wpAny (model X.prog X.w) X.A (f (.int i t) (.int j u)) Q E s) :
 uY X f (FG λi j=> .bl (g i j)):=by
 intro pins s σ H x y v u Q I rx ry h
 obtain⟨i,j,rfl,rfl,q⟩:=h
 obtain⟨t,rfl⟩:=rx
 obtain⟨t',rfl⟩:=ry
 exact rule i j t t' s _ _ ⟨.bl (g i j),H,I,rfl,q⟩
noncomputable def Jl(i j:Int):Prop:=(-(2 ^ 64)<i/\i<2 ^ 64)\/(-(2 ^ 64)<j/\j<2 ^ 64)
theorem Jl.ok{i j:Int}(h:Jl i j):IntMulOk i j:=by
 rcases h with⟨h1,h2⟩|⟨h1,h2⟩
 ·exact .of_left (intBits_le_64 h1 h2)
 ·exact .of_right (intBits_le_64 h1 h2)
theorem Jm:uY X (binaryOp .Add) (FG λi j=> .int (i+j)):=L8 λ_ _ _ _ _ _ _ q=>add_int q
theorem Jo:uY X (binaryOp .Sub) (FG λi j=> .int (i-j)):=L8 λ_ _ _ _ _ _ _ q=>sub_int q
theorem Jp:uY X (binaryOp .Mod) (rI (λ_ j=>0<j) λi j=> .int (i % j)):=L7 λi j _ _ _ _ _ hc q=>by
 have h1:(0:Int)<j:=hc
 exact mod_int' (by omega) (by rw[Int.fmod_eq_emod_of_nonneg i (by omega)];exact q)
theorem Tg{f:Value->Sem Value}{g:Int->Int}
 (rule:∀(i:Int) (t:Tok) (s:Shared) (Q:Value->Shared->Prop) (E:Value->Shared->Prop),Q (.int (g i) s.toks) {s with toks:=s.toks+1}->wpAny (model X.prog X.w) X.A (f (.int i t)) Q E s) :
 Pu X f (rU λi=> .int (g i)):=by
 intro pins s σ H x v Q I rx h
 obtain⟨i,rfl,q⟩:=h
 obtain⟨t,rfl⟩:=rx
 exact rule i t s _ _ ⟨.int (g i),H,I.tok _,⟨_,rfl⟩,q⟩
theorem Jq:Pu X (unaryOp .USub) (rU λi=> .int (-i)):=Tg λ_ _ _ _ _ q=>neg_int q
end
noncomputable def Jr:V->V->Bool
 | .bg,.bg=>true| .bg,.int _=>true| .int _,.bg=>true| .bg,.bl _=>true| .bl _,.bg=>true| .bg,.str _=>true| .str _,.bg=>true
 | .int _,.int _=>true| .bl _,.bl _=>true| .str _,.str _=>true| .Ce _,.Ce _=>true
 | .int _,.str _=>true| .str _,.int _=>true| .bl _,.str _=>true| .str _,.bl _=>true
 |_,_=>false
noncomputable def Th:R2:=λx y H Q=>Jr x y=true/\Q (.bl (decide (x=y))) H
noncomputable def Ti:R2:=λx y H Q=>Jr x y=true/\Q (.bl (!decide (x=y))) H
theorem zT{i j:Int}:decide (V.int i=V.int j)=(i==j):=by
 rw[Yk]
 simp
theorem CL{i j:Bool}:decide (V.bl i=V.bl j)=(i==j):=by
 rw[Yk]
 simp
theorem zU{i j:Str}:decide (V.str i=V.str j)=(i==j):=by
 rw[Yk]
 simp
theorem zV{i j:Array UInt8}:decide (V.Ce i=V.Ce j)=(i.toList==j.toList):=by
 rw[Yk]
 cases i
 cases j
 simp
section
variable{X:Cx}{a b c:Expr}{ta tb tc:TE}{pos:Pos}
theorem aZ{pins:List (Addr ×Obj)}{σ:St}{H:Hp}{s:Shared}{Q:VK}{k k':Bool}(I:Inv X pins σ H s)(q:Q (.bl k) H)(e:k=k'):EP X pins σ Q (.bool k') s:=by
 subst e
 exact⟨.bl k,H,I,rfl,q⟩
theorem Mb:uY X (compareOp .Eq) Th:=by
 intro pins s σ H x y v u Q I rx ry h
 obtain⟨hs,q⟩:=h
 cases x with
 |bg=>
  cases rx
  cases y with
  |bg=>cases ry;exact PySem.EqNone.eq_none_none (aZ I q (by simp))
  |bl j=>cases ry;exact PySem.EqNone.eq_none_bool (aZ I q (by simp))
  |int j=>obtain⟨t',rfl⟩:=ry;exact PySem.EqNone.eq_none_int (aZ I q (by simp))
  |str j=>obtain⟨t',rfl⟩:=ry;exact PySem.EqNone.eq_none_str (aZ I q (by simp))
  |_=>exact absurd (show false=true from hs) Xv
 |bl i=>
  cases rx
  cases y with
  |bg=>cases ry;exact PySem.EqNone.eq_bool_none (aZ I q (by simp))
  |bl j=>cases ry;exact eq_bool (aZ I q CL)
  |str j=>obtain⟨t',rfl⟩:=ry;exact PySem.EqMixed.eq_bool_str (aZ I q (by simp))
  |_=>exact absurd (show false=true from hs) Xv
 |int i=>
  obtain⟨t,rfl⟩:=rx
  cases y with
  |bg=>cases ry;exact PySem.EqNone.eq_int_none (aZ I q (by simp))
  |int j=>obtain⟨t',rfl⟩:=ry;exact eq_int (aZ I q zT)
  |str j=>obtain⟨t',rfl⟩:=ry;exact PySem.EqMixed.eq_int_str (aZ I q (by simp))
  |_=>exact absurd (show false=true from hs) Xv
 |str i=>
  obtain⟨t,rfl⟩:=rx
  cases y with
  |bg=>cases ry;exact PySem.EqNone.eq_str_none (aZ I q (by simp))
  |bl j=>cases ry;exact PySem.EqMixed.eq_str_bool (aZ I q (by simp))
  |int j=>obtain⟨t',rfl⟩:=ry;exact PySem.EqMixed.eq_str_int (aZ I q (by simp))
  |str j=>obtain⟨t',rfl⟩:=ry;exact eq_str (aZ I q zU)
  |_=>exact absurd (show false=true from hs) Xv
 |Ce i=>
  obtain⟨t,rfl⟩:=rx
  cases y with
  |Ce j=>obtain⟨t',rfl⟩:=ry;exact PySem.W.eq_bytes (aZ I q zV)
  |_=>exact absurd (show false=true from hs) Xv
 |_=>cases y<;>exact absurd (show false=true from hs) Xv
theorem Mc:uY X (compareOp .NotEq) Ti:=by
 intro pins s σ H x y v u Q I rx ry h
 obtain⟨hs,q⟩:=h
 cases x with
 |bg=>
  cases rx
  cases y with
  |bg=>cases ry;exact PySem.EqNone.ne_none_none (aZ I q (by simp))
  |bl j=>cases ry;exact PySem.EqNone.ne_none_bool (aZ I q (by simp))
  |int j=>obtain⟨t',rfl⟩:=ry;exact PySem.EqNone.ne_none_int (aZ I q (by simp))
  |str j=>obtain⟨t',rfl⟩:=ry;exact PySem.EqNone.ne_none_str (aZ I q (by simp))
  |_=>exact absurd (show false=true from hs) Xv
 |bl i=>
  cases rx
  cases y with
  |bg=>cases ry;exact PySem.EqNone.ne_bool_none (aZ I q (by simp))
  |bl j=>cases ry;exact ne_bool (aZ I q (congrArg not CL))
  |str j=>obtain⟨t',rfl⟩:=ry;exact PySem.EqMixed.ne_bool_str (aZ I q (by simp))
  |_=>exact absurd (show false=true from hs) Xv
 |int i=>
  obtain⟨t,rfl⟩:=rx
  cases y with
  |bg=>cases ry;exact PySem.EqNone.ne_int_none (aZ I q (by simp))
  |int j=>obtain⟨t',rfl⟩:=ry;exact ne_int (aZ I q (congrArg not zT))
  |str j=>obtain⟨t',rfl⟩:=ry;exact PySem.EqMixed.ne_int_str (aZ I q (by simp))
  |_=>exact absurd (show false=true from hs) Xv
 |str i=>
  obtain⟨t,rfl⟩:=rx
  cases y with
  |bg=>cases ry;exact PySem.EqNone.ne_str_none (aZ I q (by simp))
  |bl j=>cases ry;exact PySem.EqMixed.ne_str_bool (aZ I q (by simp))
  |int j=>obtain⟨t',rfl⟩:=ry;exact PySem.EqMixed.ne_str_int (aZ I q (by simp))
  |str j=>obtain⟨t',rfl⟩:=ry;exact ne_str (aZ I q (congrArg not zU))
  |_=>exact absurd (show false=true from hs) Xv
 |Ce i=>
  obtain⟨t,rfl⟩:=rx
  cases y with
  |Ce j=>obtain⟨t',rfl⟩:=ry;exact PySem.W.ne_bytes (aZ I q (congrArg not zV))
  |_=>exact absurd (show false=true from hs) Xv
 |_=>cases y<;>exact absurd (show false=true from hs) Xv
theorem Me:uY X (compareOp .Lt) (FG λi j=> .bl (decide (i<j))):=Jk λ_ _ _ _ _ _ _ q=>lt_int q
theorem Mf:uY X (compareOp .Gt) (FG λi j=> .bl (decide (j<i))):=Jk λ_ _ _ _ _ _ _ q=>gt_int q
theorem Mg:uY X (compareOp .GtE) (FG λi j=> .bl (decide (j<=i))):=Jk λ_ _ _ _ _ _ _ q=>ge_int q
theorem Js:uY X (compareOp .Is) (λx y H Q=>y= .bg/\Q (.bl (decide (x= .bg))) H):=by
 intro pins s σ H x y v u Q I rx ry h
 obtain⟨rfl,q⟩:=h
 cases ry
 refine is_none_gen (aZ I q ?_)
 cases x<;>first
  |(cases rx;rfl)
  |(obtain⟨t,rfl⟩:=rx;rfl)
theorem FH:uY X (compareOp .IsNot) (λx y H Q=>y= .bg/\Q (.bl (!decide (x= .bg))) H):=by
 intro pins s σ H x y v u Q I rx ry h
 obtain⟨rfl,q⟩:=h
 cases ry
 refine isnot_none_gen (aZ I q ?_)
 cases x<;>first
  |(cases rx;rfl)
  |(obtain⟨t,rfl⟩:=rx;rfl)
theorem aO(b:Expr){op:CmpOp}(h:op≠ .In:=by decide)(h2:op≠ .NotIn:=by decide):behindInMarks op b=false:=by
 have e1:(op==CmpOp.In)=false:=by cases op<;>first|rfl|exact absurd rfl h
 have e2:(op==CmpOp.NotIn)=false:=by cases op<;>first|rfl|exact absurd rfl h2
 cases b<;>simp[behindInMarks,e1,e2]
theorem yI:(sizeLine:Nat)<2 ^ 63:=by rw[sizeLine_eq];decide
theorem vals1{x:V}{us:List Value}(r:Vals [x] us):∃u,us=[u]/\RelV x u:=by
 cases r with
 |cons r1 r2=>cases r2;exact⟨_,rfl,r1⟩
theorem vals2{x y:V}{us:List Value}(r:Vals [x,y] us):∃u w',us=[u,w']/\RelV x u/\RelV y w':=by
 cases r with
 |cons r1 r2=>
  cases r2 with
  |cons r3 r4=>cases r4;exact⟨_,_,rfl,r1,r3⟩
end
end L2
namespace L2
open PySem PySem.Spec PyProof.Rows
structure Jt(h:Heap)(x dx C:Addr)(mA:Str->Option Value):Prop where
 obj:h.get? x=some (PySem.W.instObj C dx)
 ns:h.Ns1 dx mA
 ne:dx≠x
theorem tZ{h:Heap}{dx:Addr}{mA:Str->Option Value}(n:h.Ns1 dx mA):∃od,h.get? dx=some od/\∀name,PySem.W.lookIn name od=some (mA name):=by
 obtain⟨o,es,ep,ho,hd,hk,_,hm⟩:=n
 refine⟨o,ho,λname=>?_⟩
 have e:=hm name
 unfold nsFind findBy at e
 rw[<-Array.find?_toList]at e
 unfold PySem.W.lookIn
 rw[hd]
 dsimp only
 split
 ·rename_i y q
  rw[q]at e
  exact congrArg some e
 ·rename_i q
  rw[q]at e
  have a:es.toList.any (·.refKey)=false:=by
   rw[List.any_eq_false]
   intro y hy
   obtain⟨z,t,hkey⟩:=hk y (Array.mem_toList_iff.mp hy)
   simp[DictEntry.refKey,hkey]
  have a':¬es.toList.any (·.refKey)=true:=by rw[a];exact Xv
  rw[if_neg a']
  exact congrArg some e
theorem Jt.look{h:Heap}{x dx C:Addr}{mA:Str->Option Value}(I:Jt h x dx C mA):∃od,PySem.W.InstAt h x (PySem.W.instObj C dx) C (some od)/\∀name,PySem.W.lookIn name od=some (mA name):=
 let ⟨od,ho,hl⟩:=tZ I.ns
 ⟨od,⟨I.obj,rfl,rfl,ho⟩,hl⟩
section
variable{prog:Program}{w:World}{A:Around}{E:Value->Shared->Prop}{s:Shared}{K:PySem.W.Frag}{x dx C f:Addr}{mA:Str->Option Value}{name:Str}{v:Value}
end
theorem A4.some_of{v:V}{o:Option Value}(r:A4 (some v) o):∃u,o=some u/\RelV v u:=by
 cases o with
 |none=>exact(show False from r).elim
 |some u=>exact⟨u,rfl,r⟩
theorem Bc{v:V}{u:Value}(r:RelV v u):PySem.W.handedIn u=true:=by
 cases v with
 |bg=>cases(show u=Value.none from r);rfl
 |bl b=>cases(show u=Value.bool b from r);rfl
 |int i=>obtain⟨t,e⟩:=(show∃t,u=Value.int i t from r);cases e;rfl
 |str x=>obtain⟨t,e⟩:=(show∃t,u=Value.str x t from r);cases e;rfl
 |Ce b=>obtain⟨t,e⟩:=(show∃t,u=Value.bytes b t from r);cases e;rfl
 |IX b=>obtain⟨t,e⟩:=(show∃t,u=Value.float b t from r);cases e;rfl
 |ref a=>cases(show u=Value.ref a from r);rfl
 |ty n=>cases(show u=Value.type n from r);rfl
section
variable{P:Program}{w:World}{H H':Hp}{h h':Heap}{a C dx:Addr}{fs fs':List (Str ×V)}
theorem FJ(hok:gY P w H h)(e:H a=some (.ins C dx fs)):∃mA,Jt h a dx C mA/\(∀f,A4 (fs.lookup f) (mA f))/\PySem.Within mA (fs.map (·.1))/\fs.length<=1000/\H dx=some (.own a):=by
 obtain⟨d,z,ne,ob,mA,n,r,q⟩:=(show bI P w H h a (.ins C dx fs)from hok a _ e)
 exact⟨mA,⟨ob,n,ne⟩,r,q,z,d⟩
end
structure Px(K:PySem.W.Frag)(C:Addr):Prop where
 pg:PySem.W.plainGet K C Str.empty=true
 hd:PySem.W.hasDictIn K C=true
 po:PySem.W.plainOver K C=true
 sa:PySem.W.findIn K (.ref C) "__setattr__" =some (some (.builtin "object.__setattr__"))
theorem Px.get{K:PySem.W.Frag}{C:Addr}(c:Px K C)(f:Str):PySem.W.plainGet K C f=true:=c.pg
noncomputable def yJ(K:PySem.W.Frag)(C:Addr)(f:Str):Prop:=PySem.W.findIn K (.ref C) f=some none
theorem yJ.Mh{K:PySem.W.Frag}{C:Addr}{f:Str}(n:yJ K C f):PySem.W.takerIn K C f=some none:=by
 unfold PySem.W.takerIn
 rw[show PySem.W.findIn K (.ref C) f=some none from n]
 rfl
structure Wj(K:PySem.W.Frag)(C:Addr)(f:Str)(v:V)(u:Value):Prop where
 at_:PySem.W.findIn K (.ref C) f=some (some u)
 rel:RelV v u
 get:PySem.W.specialIn K u "__get__" =some none
 cp:PySem.W.copiedNames.contains f=false
structure Meth(K:PySem.W.Frag)(C:Addr)(m:Str)(f:Addr):Prop where
 at_:PySem.W.findIn K (.ref C) m=some (some (.ref f))
 fn:PySem.W.isFn K (.ref f)=true
 kp:PySem.W.keepIn K (.ref f)=true
section
variable{X:Cx}{pins:List (Addr ×Obj)}{σ:St}{H:Hp}{s:Shared}{a C dx:Addr}{fs:List (Str ×V)}{f:Str}{v:V}{A:Around}{E:Value->Shared->Prop}
theorem FL{prog:Program}{w:World}{env:Env}{e:Expr}{f:Str}{pos:Pos}{s:Shared}{Q:Value->Shared->Prop}(hb:attributeBase e f env (eval e env)=eval e env)
 (h:wpAny (model prog w) A (eval e env) (λo s₁=>wpAny (model prog w) A (getAttr o f true) Q E s₁) E s):wpAny (model prog w) A (eval (.Attribute e f pos) env) Q E s:=
 Attribute_any_ h (by rw[arm_eval_Attribute,hb])
end
section
variable{X:Cx}{o e value:Expr}{f:Str}{pos pos' tpos:Pos}{ta tv:TE}
end
section
variable{X:Cx}{pins:List (Addr ×Obj)}{σ:St}{H:Hp}{s:Shared}{A:Around}{E:Value->Shared->Prop}{Q:Value->Shared->Prop}{c:Value}{b:Bool}
inductive pH(K:PySem.W.Frag)(H:Hp):V->Value->Prop where
 |bg:pH K H .bg (.type "NoneType")
 |bl (x:Bool):pH K H (.bl x) (.type "bool")
 |int (i:Int):pH K H (.int i) (.type "int")
 |str (x:Str):pH K H (.str x) (.type "str")
 |IX (x:UInt64):pH K H (.IX x) (.type "float")
 |lst {a:Addr} {xs:List V} (e:H a=some (.lst xs)):pH K H (.ref a) (.type "list")
 |fO {a:Addr} {o:Obj} {xs:List V} (e:H a=some (.fO o (.lst xs))):pH K H (.ref a) (.type "list")
 |tup {a:Addr} {xs:List V} (e:H a=some (.tup xs)):pH K H (.ref a) (.type "tuple")
 |dK {a:Addr} {kvs:List (Key ×V)} (e:H a=some (.dK kvs)):pH K H (.ref a) (.type "dict")
 |dT {a:Addr} {kvs:List (List Key ×V)} (e:H a=some (.dT kvs)):pH K H (.ref a) (.type "dict")
 |ins {a C dx:Addr} {fs:List (Str ×V)} (e:H a=some (.ins C dx fs)) (cl:Px K C) (ha:PySem.W.findIn K (.ref C) "__class__" =some (some (.builtin "object.__class__")))
  (hn:PySem.W.specialIn K (.builtin "object.__class__") "__get__" =some (some (.builtin "getset_descriptor.__get__"))) (htk:PySem.W.takesIn K (.builtin "object.__class__")=some true)
  (hm:PySem.W.mroIn K C (.type "object")=some true):pH K H (.ref a) (.ref C)
theorem gp{x:V}{u t:Value}(I:Inv X pins σ H s)(rx:RelV x u)(ty:pH X.K H x t)(e:PySem.W.kitOne X.K t c=some b)(h:∀tk,Q (.bool b) {s with toks:=tk}) :
 wpAny (model X.prog X.w) A (call (.builtin "isinstance") [u,c]) Q E s:=by
 cases ty with
 |bg=>cases(show u=Value.none from rx);exact PySem.W.kia_one PySem.W.kitx_none I.lF True.intro e (λz=>nomatch z) h
 |bl y=>cases(show u=Value.bool y from rx);exact PySem.W.kia_one PySem.W.kitx_bool I.lF True.intro e (λz=>nomatch z) h
 |int i=>obtain⟨t,q⟩:=(show∃t,u=Value.int i t from rx);cases q;exact PySem.W.kia_one PySem.W.kitx_int I.lF True.intro e (λz=>nomatch z) h
 |str y=>obtain⟨t,q⟩:=(show∃t,u=Value.str y t from rx);cases q;exact PySem.W.kia_one PySem.W.kitx_str I.lF True.intro e (λz=>nomatch z) h
 |IX y=>obtain⟨t,q⟩:=(show∃t,u=Value.float y t from rx);cases q;exact PySem.W.kia_one PySem.W.kitx_float I.lF True.intro e (λz=>nomatch z) h
 |@lst a xs ea=>
  cases(show u=Value.ref a from rx)
  obtain⟨_,_,n,_,h1⟩:=(show bI X.prog X.w H s.heap a (.lst xs)from I.hok a _ ea)
  exact PySem.W.kia_one PySem.W.kitx_list I.lF ⟨_,h1,rfl⟩ e (λz=>nomatch z) h
 |@fO a ob xs ea=>
  cases(show u=Value.ref a from rx)
  obtain⟨_,_,_,n,_,h1⟩:=(show bI X.prog X.w H s.heap a (.fO ob (.lst xs))from I.hok a _ ea)
  exact PySem.W.kia_one PySem.W.kitx_list I.lF ⟨_,h1,rfl⟩ e (λz=>nomatch z) h
 |@tup a xs ea=>
  cases(show u=Value.ref a from rx)
  obtain⟨_,_,_,p⟩:=(show bI X.prog X.w H s.heap a (.tup xs)from I.hok a _ ea)
  obtain⟨o,h1,h2,_⟩:=p
  exact PySem.W.kia_one PySem.W.kitx_tuple I.lF ⟨o,h1,h2⟩ e (λz=>nomatch z) h
 |@dK a kvs ea=>
  cases(show u=Value.ref a from rx)
  obtain⟨_,_,vs,_,p⟩:=(show bI X.prog X.w H s.heap a (.dK kvs)from I.hok a _ ea)
  obtain⟨o,es,ep,h1,h2,_⟩:=p
  exact PySem.W.kia_one PySem.W.kitx_dict I.lF ⟨o,h1,h2.1⟩ e (λz=>nomatch z) h
 |@dT a kvs ea=>
  cases(show u=Value.ref a from rx)
  obtain⟨_,_,xs,_,o,es,ep,h1,h2,_⟩:=(show bI X.prog X.w H s.heap a (.dT kvs)from I.hok a _ ea)
  exact PySem.W.kia_one PySem.W.kitx_dict I.lF ⟨o,h1,h2.1⟩ e (λz=>nomatch z) h
 |@ins a C dx fs ea cl ha hn htk hm=>
  cases(show u=Value.ref a from rx)
  obtain⟨mA,O,_⟩:=FJ I.hok ea
  obtain⟨od,J,_⟩:=O.look
  exact PySem.W.kia_one (PySem.W.kitx_own (cl.get _) cl.hd ha hn htk hm) I.lF J e (λz=>nomatch z) h
end
end L2
namespace L2
open PySem PySem.Spec PyProof.Rows
structure cY(k:Nat)(A:Around):Prop where
 hd:A.handled=none
 dp:A.depth+3*k+5<recursionLimit
 un:A.units+16*k+200<cLine
theorem cY.mono{j k:Nat}{A:Around}(r:cY k A)(h:j<=k):cY j A:=⟨r.hd,by have:=r.dp;omega,by have:=r.un;omega⟩
theorem cY.deeper{k:Nat}{A:Around}(r:cY (k+1) A)(env:Env):cY k (A.deeper env):=
 ⟨r.hd,by have:=r.dp;show A.depth+1+3*k+5<_;omega,by have:=r.un;show A.units+3+16*k+200<_;omega⟩
theorem yK{A:Around}{C:Addr}{us:List Value}{kw:List (Str ×Value)}:(A.under (.builtin "type.__call__" ⟨.ref C::us,kw⟩)).depth=A.depth+1:=by
 first|rfl|simp[Around.under,Code.weight,Code.isCreation,Code.isGuard,Code.isCaller,Code.frames,Code.isFrame,guardIds]
theorem yL{A:Around}{C:Addr}{us:List Value}{kw:List (Str ×Value)}:(A.under (.builtin "type.__call__" ⟨.ref C::us,kw⟩)).units=A.units+1:=by
 first|rfl|simp[Around.under,Code.cUnits,Code.frames,Code.isFrame]
theorem cY.make{k:Nat}{A:Around}(r:cY (k+1) A)(C:Addr)(us:List Value)(kw:List (Str ×Value)):cY k (A.under (.builtin "type.__call__" ⟨.ref C::us,kw⟩)):=
 ⟨r.hd,by have:=r.dp;rw[yK];omega,by have:=r.un;rw[yL];omega⟩
theorem cY.depth{k:Nat}{A:Around}(r:cY k A):A.depth<recursionLimit:=by have:=r.dp;omega
theorem cY.units{k:Nat}{A:Around}(r:cY k A):A.units+64<cLine:=by have:=r.un;omega
noncomputable def Ju:TA:=λ_ H Q=>Q [] H
noncomputable def CM(ta:TE)(tr:TA):TA:=λσ H Q=>ta σ H λx H1=>tr σ H1 λxs H2=>Q (x::xs) H2
section
variable{X:Cx}{e:Expr}{es:List Expr}{te:TE}{t:TA}{pos:Pos}
theorem ql:PA X [] Ju:=λ_ _ _ _ H Q I h=>Calls.spliced_nil ⟨[],H,I,.nil,h⟩
theorem mQ(ha:PE X e te)(hr:PA X es t)(hs:starEach (e::es) X.env=(false,eval e X.env)::starEach es X.env:=by rfl):PA X (e::es) (CM te t):=by
 intro pos pins s σ H Q I h
 rw[hs]
 show wpAny _ _ (spliced ((false,eval e X.env)::backTo pos (starEach es X.env))) _ _ s
 refine Calls.spliced_cons (cu (ha pins s σ H _ I h) λu s1 ⟨x,H1,I1,r1,q1⟩=>?_)
 exact cu (hr pos pins s1 σ H1 _ I1 q1) λus s2 ⟨xs,H2,I2,r2,q2⟩=>⟨x::xs,H2,I2,.cons r1 r2,q2⟩
noncomputable def Py(t:TA):TE:=λσ H Q=>t σ H λxs H1=>xs.length<=sizeLine/\∀p,H1 p=none->Q (.ref p) (upd H1 p (.tup xs))
noncomputable def Pz(t:TA):TE:=λσ H Q=>t σ H λxs H1=>xs.length<=sizeLine/\∀p,H1 p=none->Q (.ref p) (upd H1 p (.lst xs))
theorem Jv{x1}(h:PA X es t):PE X (.Tuple es x1 pos) (Py t):=by
 intro pins s σ H Q I hq
 refine wpAny_Tuple_spliced (cu (h pos pins s σ H _ I hq) λus s1 ⟨xs,H1,I1,r,z,q⟩=>⟨by rw[<-r.length];exact z,?_⟩)
 have hf:H1 s1.heap.objs.size=none:=I1.hok.fresh (Xn _)
 refine⟨.ref s1.heap.objs.size,upd H1 s1.heap.objs.size (.tup xs),I1.laid (t':=s1.toks) (λb u e=>Heap.get?_push_of_some _ e) (Xn _) ?_,rfl,q _ hf⟩
 exact⟨z,us,r,⟨_,Heap.get?_push_size _ rfl,rfl,_,rfl⟩⟩
theorem Jw(h:PA X es t):PE X (.List es pos) (Pz t):=by
 intro pins s σ H Q I hq
 refine wpAny_List_spliced (cu (h pos pins s σ H _ I hq) λus s1 ⟨xs,H1,I1,r,z,q⟩=>⟨by rw[<-r.length];exact z,?_⟩)
 have hf:H1 s1.heap.objs.size=none:=I1.hok.fresh (Xn _)
 refine⟨.ref s1.heap.objs.size,upd H1 s1.heap.objs.size (.lst xs),I1.laid (t':=s1.toks) (λb u e=>Heap.get?_push_of_some _ e) (Xn _) ?_,rfl,q _ hf⟩
 exact⟨z,us,0,r,Heap.get?_push_size _ rfl⟩
end
noncomputable abbrev Sp:=List V->Hp->VK->XK->Prop
noncomputable abbrev Cf:=List Env->Hp->Shared->XK->Value->Shared->Prop
structure sM(P:Program)(w:World)(K:PySem.W.Frag)(mg:Str->Option Value)(base:Heap)(A:Around)(outer:List Env)(s:Shared)(H:Hp):Prop where
 frames:A.frames=some outer
 mod:Mod K mg base
 bs:∀b o,base.get? b=some o->s.heap.get? b=some o/\H b=none
 Cz:base.objs.size<=s.heap.objs.size
 lY:s.heap.FunFrames base outer
 Ff:∀b∈frs outer,H b=none
 hok:gY P w H s.heap
 bare:AllBare s.gens
noncomputable def CE(outer:List Env)(P:Program)(w:World)(H:Hp)(s:Shared)(Q:VK)(u:Value)(s':Shared):Prop:=
 ∃v H',s'.os=s.os/\AllBare s'.gens/\Un (frs outer) [] H H' s.heap s'.heap/\gY P w H' s'.heap/\RelV v u/\Q v H'
noncomputable def CR(CX:Cf)(outer:List Env)(P:Program)(w:World)(H:Hp)(s:Shared)(Q:VK)(E:XK)(r:Result)(s':Shared):Prop:=
 match r with
 | .ok (.ret u)=>CE outer P w H s Q u s'
 | .ok _=>False
 | .error e=>CX outer H s E e s'
structure bG(P:Program)(w:World)(K:PySem.W.Frag)(mg:Str->Option Value)(base:Heap)(CX:Cf)(k:Nat)(f:Addr)(fd:FuncData)(ps:List Str)(sp:Sp):Prop where
 len:∀vs H Q E,sp vs H Q E->vs.length=ps.length
 run:∀(A:Around) (outer:List Env) (s:Shared) (H:Hp) (args:Args) (us:List Value) (vs:List V) (Q:VK) (E:XK),cY k A->sM P w K mg base A outer s H->BindsTo s fd args (ps.zip us)->Vals vs us->sp vs H Q E->
  codeAny (model P w) A (.call (.ref f) args) (CR CX outer P w H s Q E) s
theorem sM.make{P:Program}{w:World}{K:PySem.W.Frag}{mg:Str->Option Value}{base:Heap}{A:Around}{outer:List Env}{s:Shared}{H:Hp}(e:sM P w K mg base A outer s H)(C:Addr)(us:List Value)(kw:List (Str ×Value)) :
 sM P w K mg base (A.under (.builtin "type.__call__" ⟨.ref C::us,kw⟩)) outer s H:=⟨by first|exact e.frames|(simpa[Around.under,Code.envs,Code.isFrame,pushEnvs]using e.frames),e.mod,e.bs,e.Cz,e.lY,e.Ff,e.hok,e.bare⟩
section
variable{X:Cx}{pins:List (Addr ×Obj)}{σ:St}{H:Hp}{s s':Shared}
theorem Inv.CN(I:Inv X pins σ H s):sM X.prog X.w X.K X.mg X.base X.A X.stack s H:=
 ⟨I.ok.frames,I.ok.mod,I.bs,Yj I.ok.Cz I.sz,I.stack,I.pW,I.hok,I.bare⟩
theorem Inv.after{Q:VK}{u:Value}(I:Inv X pins σ H s)(h:CE X.stack X.prog X.w H s Q u s'):EP X pins σ Q u s':=by
 obtain⟨v,H',os,bare,un,hok,r,q⟩:=h
 obtain⟨hh,g,d,t,os'⟩:=s'
 obtain rfl:os'=s.os:=os
 exact⟨v,H',I.call (h':=hh) (g':=g) (d':=d) (t':=t) (ch:=[]) un hok bare (λb z=>absurd z (by simp)),r,q⟩
end
noncomputable def Mi(sp:Sp)(Cg:List V)(E:XK)(t:TA):TE:=λσ H Q=>t σ H λvs H1=>sp (vs++Cg) H1 Q E
noncomputable def Binds(K:PySem.W.Frag)(fd:FuncData)(ps:List Str)(ds:List Value):Prop:=
 ∀(s:Shared) (us:List Value),K.In s.heap->(us++ds).length=ps.length->BindsTo s fd ⟨us,[]⟩ (ps.zip (us++ds))
theorem Binds.all{K:PySem.W.Frag}{fd:FuncData}{ps:List Str}(h:∀us:List Value,us.length=ps.length->bindArgs fd ⟨us,[]⟩=pure (ps.zip us)):Binds K fd ps []:=λs us _ hl=>by
 rw[XS]at hl ⊢
 exact .of_eq (h us hl)
noncomputable def Passes(CX:Cf)(X:Cx)(E:XK):Prop:= ∀(pins:List (Addr ×Obj)) (σ:St) (H:Hp) (s:Shared) (e:Value) (s':Shared),Inv X pins σ H s->CX X.stack H s E e s'->X.xe e s'
section
variable{X:Cx}{CX:Cf}{k:Nat}{f C:Addr}{fd:FuncData}{ps:List Str}{sp:Sp}{Cg:List V}{ds:List Value}{E:XK}{x m:Str}{p pos apos:Pos}{e o:Expr}{es:List Expr}{ta:TE}{t:TA}
theorem Jx{pins:List (Addr ×Obj)}{σ:St}{H:Hp}{s:Shared}{Q:VK}{us:List Value}{vs:List V}(F:bG X.prog X.w X.K X.mg X.base CX k f fd ps sp)(hr:cY k X.A)(hb:Binds X.K fd ps ds)(hd:Vals Cg ds)(hx:Passes CX X E)
 (I:Inv X pins σ H s)(r:Vals vs us)(h:sp (vs++Cg) H Q E):wpAny (model X.prog X.w) X.A (call (.ref f) us) (EP X pins σ Q) X.xe s:=by
 have r2:Vals (vs++Cg) (us++ds):=r.append hd
 have hl:(us++ds).length=ps.length:=by rw[<-r2.length];exact F.len _ _ _ _ h
 refine wpAny_call (codeAny_mono (F.run X.A X.stack s H ⟨us,[]⟩ (us++ds) (vs++Cg) Q E hr I.CN (hb s us I.lF hl) r2 h) λr s' hq=>?_)
 cases r with
 |error e=>exact hx pins σ H s e s' I hq
 |ok fl=>
  cases fl with
  |ret u=>exact I.after hq
  |next=>exact False.elim hq
  |brk=>exact False.elim hq
  |cont=>exact False.elim hq
theorem zW(F:bG X.prog X.w X.K X.mg X.base CX k f fd ps sp)(hr:cY k X.A)(hg:Gl X x)(hm:X.mg x=some (.ref f))(hk:PySem.W.keepIn X.K (.ref f)=true)(hb:Binds X.K fd ps ds)(hd:Vals Cg ds)(hx:Passes CX X E)
 (ha:PA X (e::es) t)(hdb:(x==("__debug__" :Str))=false:=by decide)(he:starEach (e::es) X.env=(false,eval e X.env)::starEach es X.env:=by rfl)(hpl:(backTo pos (starEach es X.env)).any (·.1)=false:=by rfl) :
 PE X (.Call (.Name x p) (e::es) [] pos) (Mi sp Cg E t):=by
 intro pins s σ H Q I h
 refine wpAny_Call_Name_kw (ji I hg hm ?_ hdb)
 refine PySem.W.callWith_K (h₀:=X.base) I.ok.mod.A6 hk (cu (ha pos pins s σ H _ I h) λus s1 ⟨vs,H1,I1,r,q⟩=>⟨I1.lF,?_⟩) he hpl
 exact Jx F hr hb hd hx I1 r q
structure Mk(K:PySem.W.Frag)(C f:Addr):Prop where
 makes:PySem.W.makesIn K C=true
 init:PySem.W.findIn K (.ref C) "__init__" =some (some (.ref f))
 fn:PySem.W.isFn K (.ref f)=true
 kp:PySem.W.keepIn K (.ref C)=true
end
section
variable{X:Cx}{CX:Cf}{k:Nat}{f C:Addr}{fd:FuncData}{ps ks:List Str}{sp:Sp}{E:XK}{x m:Str}{p pos apos kpos:Pos}{e o:Expr}{es:List Expr}{kws:List Keyword}{te ta:TE}{t tk:TA}{nm:Option Str}
structure PB(K:PySem.W.Frag)(fd:FuncData)(ps ks:List Str)(g:List Value->List Value->List Value)(gV:List V->List V->List V):Prop where
 to:∀(s:Shared) (us ws:List Value),K.In s.heap->(g us ws).length=ps.length->BindsTo s fd ⟨us,ks.zip ws⟩ (ps.zip (g us ws))
 rel:∀{vs:List V} {us:List Value} {zs:List V} {ws:List Value},Vals vs us->Vals zs ws->Vals (gV vs zs) (g us ws)
variable{g:List Value->List Value->List Value}{gV:List V->List V->List V}
end
structure aE(N P:List Str)(sc:Scope):Prop where
 kind:sc.kind= .function
 co:sc.isCoroutine=false
 gen:sc.isGenerator=false
 nd:N.Nodup
 pre:N.take P.length=P
 par:∀x∈P,sc.names.lookup x=some .local\/sc.names.lookup x=some .cell
 Jy:∀y∈sc.names,y.2≠ .free
theorem t6{kindOf:Str->Option NameKind}{x:Str}:∀{binds:List (Str ×Value)} {m:Str->Option Value},(∀v,(x,v)∉binds)->bindL kindOf binds m x=m x
 |[],_,_=>rfl
 |(n,v)::r,m,h=>by
  unfold bindL
  rw[t6 λw hw=>h w (Xl _ hw)]
  split
  ·have:x≠n:=by rintro rfl;exact h v Xu
   simp[this]
  ·rfl
theorem t7{kindOf:Str->Option NameKind}{x:Str}:∀{binds:List (Str ×Value)} {m:Str->Option Value},(∀v,(x,v)∉binds)->bindC kindOf binds m x=m x
 |[],_,_=>rfl
 |(n,v)::r,m,h=>by
  unfold bindC
  rw[t7 λw hw=>h w (Xl _ hw)]
  split
  ·rfl
  ·have:x≠n:=by rintro rfl;exact h v Xu
   simp[this]
theorem t8{kindOf:Str->Option NameKind}{x:Str}{v:Value}:∀{P:List Str} {vs:List Value} {i:Nat} {m:Str->Option Value},P.Nodup->P[i]?=some x->vs[i]?=some v->kindOf x=some .local->
 bindL kindOf (P.zip vs) m x=some v
 |[],_,_,_,_,h,_,_=>by simp at h
 |_::_,[],_,_,_,_,h,_=>by simp at h
 |p::P,w::vs,0,m,nd,h1,h2,hk=>by
  simp at h1 h2;subst h1;subst h2
  show bindL kindOf ((p,w)::P.zip vs) m p=_
  unfold bindL
  rw[t6 λv hv=>(XF.mp nd).1 (Zx hv).1,if_pos hk]
  simp
 |p::P,w::vs,i+1,m,nd,h1,h2,hk=>by
  show bindL kindOf ((p,w)::P.zip vs) m x=_
  unfold bindL
  exact t8 (i:=i) (XF.mp nd).2 (by simpa using h1) (by simpa using h2) hk
theorem t9{kindOf:Str->Option NameKind}{x:Str}{v:Value}:∀{P:List Str} {vs:List Value} {i:Nat} {m:Str->Option Value},P.Nodup->P[i]?=some x->vs[i]?=some v->kindOf x≠some .local->
 bindC kindOf (P.zip vs) m x=some v
 |[],_,_,_,_,h,_,_=>by simp at h
 |_::_,[],_,_,_,_,h,_=>by simp at h
 |p::P,w::vs,0,m,nd,h1,h2,hk=>by
  simp at h1 h2;subst h1;subst h2
  show bindC kindOf ((p,w)::P.zip vs) m p=_
  unfold bindC
  rw[t7 λv hv=>(XF.mp nd).1 (Zx hv).1,if_neg hk]
  simp
 |p::P,w::vs,i+1,m,nd,h1,h2,hk=>by
  show bindC kindOf ((p,w)::P.zip vs) m x=_
  unfold bindC
  exact t9 (i:=i) (XF.mp nd).2 (by simpa using h1) (by simpa using h2) hk
noncomputable def start(N:List Str)(vs:List V):St:=vs.map some++List.replicate (N.length-vs.length) none
noncomputable def gW(CX:Cf)(P:Program)(w:World)(K:PySem.W.Frag)(mg:Str->Option Value)(base:Heap)(N:List Str)(qual:Str)(scope:Scope)(f:Addr)(cd:Value)(A:Around)(outer:List Env)(s:Shared)(H:Hp)(E:XK):Cx where
 prog:=P
 w:=w
 K:=K
 mg:=mg
 base:=base
 A:=A.deeper (envOfC qual scope s.heap.objs.size f cd)
 N:=N
 s₀:=s
 H₀:=H
 env:=envOfC qual scope s.heap.objs.size f cd
 outer:=outer
 stack:=envOfC qual scope s.heap.objs.size f cd::outer
 ex:=[]
 calm:=true
 fn:=λ_=>true
 pn:=[]
 xe:=λe s'=>wpAny (model P w) (A.deeper (envOfC qual scope s.heap.objs.size f cd)) (leaving (envOfC qual scope s.heap.objs.size f cd) e) (λ_ s''=>CX outer H s E e s'') (λe' s''=>CX outer H s E e' s'') s'
theorem wQ{sc:Scope}{n:Nat}{x:Str}(h:sc.names.lookup x=some .cell):∃c,(cellsFrom n sc.names []).lookup x=some c:=by
 have q:=PySem.W.cellsFrom_some sc.names n [] (.inl h)
 exact ZT.mp q
theorem ua{CX:Cf}{P:Program}{w:World}{K:PySem.W.Frag}{mg:Str->Option Value}{base:Heap}{N ps:List Str}{qual:Str}{scope:Scope}{f:Addr}{cd:Value}{A:Around}{outer:List Env}{s s1:Shared}{H:Hp}{E:XK}{us:List Value}{vs:List V}
 (S:aE N ps scope)(hd:A.handled=none)(e0:sM P w K mg base A outer s H)(hl:vs.length=ps.length)(r:Vals vs us)
 (x:InCallC s s.heap.objs.size (bindL (envOfC qual scope s.heap.objs.size f cd).kindOf (ps.zip us) λ_=>none) (cellsFrom (s.heap.objs.size+1) scope.names []) (bindC (envOfC qual scope s.heap.objs.size f cd).kindOf (ps.zip us) λ_=>none) s1) :
 Inv (gW CX P w K mg base N qual scope f cd A outer s H E) [] (start N vs) H s1:=by
 have hpl:ps.length<=N.length:=by have:=congrArg List.length S.pre;rw[Yi]at this;omega
 obtain⟨h1,tk,rfl,hk⟩:=x.done
 have Mj:∀b:Addr,b∉(gW CX P w K mg base N qual scope f cd A outer s H E).ex:=λb z=>absurd (show b∈([]:List Addr)from z) (by simp)
 refine⟨⟨e0.mod,S.kind,rfl,rfl,Xn _,λy z c h1 h2=>?_,λy hy=>?_,λy c _ h=>?_,λ_=>hd,Around.frames_deeper e0.frames,.inr ⟨rfl,rfl⟩,λb z=>absurd z (Mj b),e0.bs,e0.Cz,λb _ _=>Mj b,λb z=>absurd z (Mj b),e0.lY,e0.Ff⟩,
  rfl,e0.bare,Un.kept hk,⟨_,x.toInCall.ns,λi y v h1 h2 h3=>?_⟩,λy c h=>⟨_,x.cell y c h⟩,e0.hok.fresh (Xn _),λy c h=>?_,λp hp=>absurd (show p∈([]:List (Addr ×Obj))from hp) (by simp),e0.hok.kept hk,?_⟩
 ·exact name_of_addr x.apart (PySem.mem_of_lookup h1) (PySem.mem_of_lookup h2)
 ·have hy:scope.names.lookup y=some .cell\/scope.names.lookup y=some .free:=hy
  rcases hy with hy|hy
  ·exact wQ hy
  ·exact absurd rfl (S.Jy _ (PySem.mem_of_lookup hy))
 ·exact Zl (x.above y c (PySem.mem_of_lookup h))
 ·have hi:i<vs.length:=by
   unfold start at h2
   by_cases hi:i<vs.length
   ·exact hi
   ·rw[YT (by simpa using hi)]at h2
    rw[ZX]at h2
    split at h2<;>cases h2
  have ha:vs[i]?=some v:=by
   unfold start at h2
   rw[YY (by simpa using hi),XT]at h2
   cases e:vs[i]? with
   |none=>rw[e]at h2;cases h2
   |some a=>rw[e]at h2;cases h2;rfl
  obtain⟨u,hu,rv⟩:=r.get ha
  have hp:ps[i]?=some y:=by
   rw[<-S.pre,ZU (by omega)];exact h1
  have RL:ps.Nodup:=by rw[<-S.pre];exact S.nd.sublist (ZM _ _)
  refine⟨u,rv,?_⟩
  rcases S.par y (XJ hp)with k|k
  ·exact .inl ⟨k,t8 RL hp hu k⟩
  ·obtain⟨c,e⟩:=wQ (n:=s.heap.objs.size+1) k
   refine .inr ⟨.inl k,c,e,?_⟩
   have q:=x.cell y c e
   rw[t9 RL hp hu (by show scope.names.lookup y≠_;rw[k];decide)]at q
   exact q
 ·exact e0.hok.fresh (Zl (x.above y c (PySem.mem_of_lookup h)))
 ·unfold start
  show _=N.length
  rw[XA,Xi,List.length_replicate]
  omega
theorem HU{CX:Cf}{P:Program}{w:World}{K:PySem.W.Frag}{mg:Str->Option Value}{base:Heap}{k:Nat}{f:Addr}{name qual:Str}{params:Arguments}{body:List Stmt}{scope:Scope}{dV kV doc pm cdv ct oc:Value}{an od:Option Addr}
 {osl:Array (Option Value)}{N ps:List Str}{sp:Sp}(lk:K.lookup f=some ⟨oc,od,.func (PySem.W.fnOf name qual params body scope dV kV doc pm an cdv ct),osl⟩)(hcd:PySem.W.codeIn K cdv qual=true)(S:aE N ps scope)
 (len:∀vs H Q E,sp vs H Q E->vs.length=ps.length)
 (hbody:∀(A:Around) (outer:List Env) (s:Shared) (H:Hp) (vs:List V) (Q:VK) (E:XK),cY k (A.deeper (envOfC qual scope s.heap.objs.size f cdv))->sp vs H Q E->
  ∃t,yD (gW CX P w K mg base N qual scope f cdv A outer s H E) body t/\t {nx:=λ_ H'=>Q .bg H',rt:=Q} (start N vs) H) :
 bG P w K mg base CX (k+1) f (PySem.W.fnOf name qual params body scope dV kV doc pm an cdv ct) ps sp:=by
 refine⟨len,λA outer s H args us vs Q E hr e0 hb r sJ=>?_⟩
 have hl:=len _ _ _ _ sJ
 have KX:K.In s.heap:=e0.mod.A6.keeps λb o e=>(e0.bs b o e).1
 have lim:s.heap.NoLimit:=e0.mod.nolimit.keeps λb o e=>(e0.bs b o e).1
 have hkind:∀y∈ps.zip us,scope.names.lookup y.1=some .local\/(scope.names.lookup y.1=some .cell/\((cellsFrom (s.heap.objs.size+1) scope.names []).lookup y.1).isSome=true):=λ⟨n,v⟩ hy=>by
  rcases S.par n (Zx hy).1 with q|q
  ·exact .inl q
  ·exact .inr ⟨q,PySem.W.cellsFrom_some _ _ _ (.inl q)⟩
 refine codeAny_call_function hr.depth (KX _ _ lk) rfl S.co S.gen rfl (PySem.W.codeRec_of KX hcd) (hb _ _ _ _ ?_)
 refine wpAny_newFunctionEnv_cells S.kind hkind λenv he s1 x=>?_
 subst he
 refine⟨lim.keeps x.toInCall.keep,codeAny_func ?_⟩
 obtain⟨t,ht,hq⟩:=hbody A outer s H vs Q E (hr.deeper _) sJ
 have I:Inv (gW CX P w K mg base N qual scope f cdv A outer s H E) [] (start N vs) H s1:=ua S hr.hd e0 hl r x
 refine wpAny_mono (ht [] s1 (start N vs) H _ I hq) (λfl s' hs=>?_) λe s' hs=>hs
 have fin:∀{σ':St} {H':Hp} {v:V} {u:Value},Inv (gW CX P w K mg base N qual scope f cdv A outer s H E) [] σ' H' s'->RelV v u->Q v H'->CE outer P w H s Q u s':=
  λ{σ' H' v u} J rv q=>⟨v,H',J.os,J.bare,J.base,J.hok,rv,q⟩
 cases fl with
 |ret u=>
  obtain⟨v,σ',H',J,rv,q⟩:=hs
  exact fin J rv q
 |next=>
  obtain⟨σ',H',J,q⟩:=hs
  exact fin (v:=V.bg) (u:=Value.none) J rfl q
 |brk=>
  obtain⟨_,_,_,q⟩:=hs
  exact False.elim q
 |cont=>
  obtain⟨_,_,_,q⟩:=hs
  exact False.elim q
end L2
namespace L2
open PySem PySem.Spec PyProof.Rows
section
variable{X:Cx}{x:Str}{p pos:Pos}{e:Expr}{es:List Expr}{t:TA}{id T:String}{r:List V->Hp->VK->Prop}
end
end L2
namespace HT
open PySem PyProof.Rows
noncomputable def lexLt:List Int->List Int->Bool
 |[],[]=>false
 |[],_::_=>true
 |_::_,[]=>false
 |x::xs,y::ys=>if x=y then lexLt xs ys else decide (x<y)
theorem jk(x y:Int)(xs ys:List Int):lexLt (x::xs) (y::ys)=if x=y then lexLt xs ys else decide (x<y):=rfl
theorem iE:lexLt [] []=false:=rfl
theorem j0(y:Int)(ys:List Int):lexLt [] (y::ys)=true:=rfl
theorem j3(x:Int)(xs:List Int):lexLt (x::xs) []=false:=rfl
theorem wR(A:Around)(s:Shared)(a:Int)(t:Tok)(c:Int)(u:Tok):∃e,SeqAt.EqAt A s (.int a t) (.int c u) e/\(e=true↔a=c):=
 ⟨(a==c),SeqAt.EqAt.int_int a t c u,by simp⟩
theorem CO(A:Around)(s:Shared)(a:Int)(t:Tok)(c:Int)(u:Tok)(prog:Program)(w:World)(E:Value->Shared->Prop)(Q:Value->Shared->Prop)(h:Q (.bool (decide (a<c))) s) :
 wpAny (model prog w) A (richCompare .Lt (.int a t) (.int c u)) Q E s:=
 (PyProof.Rows.lt_int h:wpAny (model prog w) A (compareOp .Lt (.int a t) (.int c u)) Q E s)
section
open PySem.SeqAt
open PySem.AutoSeq1 (wpAny_loadPart')
open PySem.MeetsSeq PySem.MeetsSeq2 PySem.MeetsSeq3
theorem sO(l b:Addr)(items items2:Array Value)(n n2:Nat)(dd dd2:Option Addr)(sl sl2:Array (Option Value))(ns ms:List Int)(hi:IntsAre items.toList ns)(hj:IntsAre items2.toList ms) :
 Meets (Builtin.«tuple.__lt__» ⟨[.ref l,.ref b],[]⟩)
  (λ_ R s=>s.heap.get? l=some {cls:= .type "tuple",dict:=dd,data:= .seq items n,slots:=sl}/\s.heap.get? b=some {cls:= .type "tuple",dict:=dd2,data:= .seq items2 n2,slots:=sl2}/\
   R (.ok (.ret (.bool (lexLt ns ms)))) s):=
 .of_wp λprog w A R s h=>by
  obtain⟨hp,g,d,tk,os⟩:=s;obtain⟨hl,hb,h⟩:=h
  have f2:=AutoSeq1.sub_tuple_tuple
  have z1:items.size=ns.length:=by rw[<-hi.length];simp
  have z2:items2.size=ms.length:=by rw[<-hj.length];simp
  wp_walk using wpAny_loadPart' hl,wpAny_loadPart' hb,wpAny_forIn_list _ (λrest b s'=>b.1=none/\s'= ⟨hp,g,d,tk,os⟩/\∃(vs ws:List Value) (ns' ms':List Int),rest=vs.zip ws/\
   IntsAre vs ns'/\IntsAre ws ms'/\ns'.length+items2.size=ms'.length+items.size/\R (.ok (.ret (.bool (lexLt ns' ms')))) ⟨hp,g,d,tk,os⟩) _
  case turn=>
   rintro⟨y,x⟩ rest b s' ⟨hb',rfl,vs,ws,ns',ms',hz,Jz,hwi,hlen,hR⟩
   cases Jz with
   |nil=>rw[aaq]at hz;cases hz
   |cons a t JA=>
    cases hwi with
    |nil=>rw[Y7]at hz;cases hz
    |cons c u JB=>
     rw[Yv]at hz
     injection hz with hyx hrest
     injection hyx with hy hx
     subst hy hx
     rw[jk]at hR
     simp only[Xz]at hlen
     obtain⟨e,he,hiff⟩:=wR A.in1 ⟨hp,g,d,tk,os⟩ a t c u
     refine wpAny_bind (he prog w _ _ ?_)
     cases e with
     |true=>
      rw[if_pos (hiff.mp rfl)]at hR
      wp_walk
      exact⟨rfl,rfl,_,_,_,_,hrest,JA,JB,by omega,hR⟩
     |false=>
      rw[if_neg (λq=>absurd (hiff.mpr q) Xv)]at hR
      have PC:=CO A.in1 ⟨hp,g,d,tk,os⟩ a t c u prog w
      wp_walk using PC
      exact⟨_,rfl,by simpa using hR⟩
  case fin=>
   rintro⟨b1,b2⟩ s' ⟨hb',rfl,vs,ws,ns',ms',hz,Jz,hwi,hlen,hR⟩
   simp only at hb'
   subst hb'
   have hv:lexLt ns' ms'=decide (items.size<items2.size):=by
    cases Jz with
    |nil=>
     cases hwi with
     |nil=>
      simp only[Yt]at hlen
      rw[iE]
      exact(decide_eq_false (by omega)).symm
     |cons c u hw=>
      simp only[Yt,Xz]at hlen
      rw[j0]
      exact(decide_eq_true (by omega)).symm
    |cons a t hv=>
     cases hwi with
     |nil=>
      simp only[Yt,Xz]at hlen
      rw[j3]
      exact(decide_eq_false (by omega)).symm
     |cons c u hw=>
      rw[Yv]at hz
      cases hz
   rw[hv]at hR
   wp_walk
   exact⟨_,rfl,by simpa[Builtin.Tuple.tupleCompareSizes]using hR⟩
  case h=>
   exact⟨rfl,rfl,items.toList,items2.toList,ns,ms,rfl,hi,hj,by omega,h⟩
end
section
variable{prog:Program}{w:World}{A:Around}{E:Value->Shared->Prop}{s:Shared}
theorem l0{l b:Addr}{items items2:Array Value}{ns ms:List Int}{Q:Value->Shared->Prop}(hl:IsTup s.heap l items)(hb:IsTup s.heap b items2)(hi:IntsAre items.toList ns)(hj:IntsAre items2.toList ms)
 (hu:A.units<cLine)(h:Q (.bool (lexLt ns ms)) s):wpAny (model prog w) A (compareOp .Lt (.ref l) (.ref b)) Q E s:=by
 obtain⟨⟨cls,dd,data,sl⟩,ho,hc,n,hd⟩:=id hl
 obtain⟨⟨Ml,dd2,data2,sl2⟩,ho2,hc2,n2,hd2⟩:=id hb
 simp only at hc hd hc2 hd2
 subst hc hd hc2 hd2
 exact richCompare_meets_room (op:= .Lt) ⟨_,ho,rfl⟩ ⟨_,ho2,rfl⟩ PySem.F.slot_tuple_lt PySem.F.entry_tuple_lt (PySem.F.args_tuple_lt_2 _ _) (sO l b items items2 n n2 dd dd2 sl sl2 ns ms hi hj)
  ⟨ho,ho2,show Value.bool (lexLt ns ms)≠Value.notImplemented/\Q (.bool (lexLt ns ms)) s from⟨(λx=>nomatch x),h⟩⟩ hu
theorem FN{t b:Addr}{vs ws:List Value}{Q:Value->Shared->Prop}(ht:IsTup s.heap t vs.toArray)(hb:IsTup s.heap b ws.toArray)(hv:vs≠[])
 (h1:ws=[]->Q (.ref t) s)(h2:ws≠[]->Q (.ref s.heap.objs.size) {s with heap:=s.heap.push {cls:= .type "tuple",data:= .seq (vs++ws).toArray}})
 (hsz:vs.length+ws.length<=sizeLine):wpAny (model prog w) A (binaryOp .Add (.ref t) (.ref b)) Q E s:=by
 obtain⟨⟨cls,dd,data,sl⟩,ho,hc,n,hd⟩:=id ht
 obtain⟨⟨Ml,dd2,data2,sl2⟩,ho2,hc2,n2,hd2⟩:=id hb
 simp only at hc hd hc2 hd2
 subst hc hd hc2 hd2
 have e:vs.toArray++ws.toArray=(vs++ws).toArray:=by simp
 by_cases hw:ws=[]
 ·exact concat_meets ⟨_,ho,rfl⟩ ⟨_,ho2,rfl⟩ noFill_tuple_add seq_tuple_add PySem.F.slot_tuple_add PySem.F.entry_tuple_add (PySem.F.args_tuple_add_2 _ _)
   (tuple_addW1 t b vs.toArray ws.toArray n n2 dd dd2 sl sl2 (by simpa using hv) (by simp[hw])) ⟨ho,ho2,h1 hw⟩
 ·refine concat_meets ⟨_,ho,rfl⟩ ⟨_,ho2,rfl⟩ noFill_tuple_add seq_tuple_add PySem.F.slot_tuple_add PySem.F.entry_tuple_add (PySem.F.args_tuple_add_2 _ _)
   (tuple_addW2 t b vs.toArray ws.toArray n n2 dd dd2 sl sl2 (by simpa using hv) (by simpa using hw) (by rw[Xr,Xr];exact hsz)) ⟨ho,ho2,?_⟩
  rw[e]
  exact h2 hw
noncomputable def mR(n d:Nat):Option Int->Nat
 |none=>d
 |some v=>if v<0 then(v+(n:Int)).toNat else min v.toNat n
theorem wU(n d:Nat):mR n d none=d:=rfl
theorem pY(n d k:Nat):mR n d (some (k:Int))=min k n:=by
 show(if(k:Int)<0 then((k:Int)+(n:Int)).toNat else min (k:Int).toNat n)=min k n
 rw[if_neg (by omega),Zo]
end
end HT
namespace L2
open PySem PySem.Spec PyProof.Rows
noncomputable abbrev TO:=St->Hp->(Option Int->Hp->Prop)->Prop
noncomputable def PO(X:Cx)(e:Option Expr)(t:TO):Prop:=
 ∀(pins:List (Addr ×Obj)) (s:Shared) (σ:St) (H:Hp) (Q:Option Int->Hp->Prop),Inv X pins σ H s->t σ H Q->
  wpAny (model X.prog X.w) X.A (evalPart e X.env) (λu s'=>∃o H',Inv X pins σ H' s'/\IsPart u o/\Q o H') X.xe s
noncomputable def zX:TO:=λ_ H Q=>Q none H
noncomputable def HV(t:TE):TO:=λσ H Q=>t σ H λx H1=>∃i,x= .int i/\Q (some i) H1
theorem intsAre_of{ns:List Int}:∀{us:List Value},Vals (ns.map V.int) us->IntsAre us ns:=by
 induction ns with
 |nil=>intro us r;rw[List.map_nil]at r;cases r;exact .nil
 |cons n ns ih=>
  intro us r
  rw[XQ]at r
  cases r with
  |cons r1 r2=>
   obtain⟨t,e⟩:=r1
   subst e
   exact .cons n t (ih r2)
section
variable{X:Cx}{e:Expr}{te:TE}{lo hi:Option Expr}{tl th:TO}{pos p2:Pos}
theorem FO:PO X none zX:=by
 intro pins s σ H Q I h
 rw[evalPart_none]
 exact wpAny_pure ⟨none,H,I,.none,h⟩
theorem FP(h:PE X e te):PO X (some e) (HV te):=by
 intro pins s σ H Q I hw
 rw[evalPart_some]
 refine cu (h pins s σ H _ I hw) λu s1 ⟨x,H1,I1,r1,q1⟩=>?_
 obtain⟨i,rfl,q⟩:=q1
 obtain⟨t,rfl⟩:=r1
 exact⟨some i,H1,I1,.int i t,q⟩
noncomputable def RM(X:Cx)(r:V->Option Int->Option Int->Hp->VK->Prop):Prop:=
 ∀(pins:List (Addr ×Obj)) (s:Shared) (σ:St) (H:Hp) (x:V) (v vl vu:Value) (lo hi:Option Int) (sl:Addr) (Q:VK),Inv X pins σ H s->RelV x v->s.heap.IsSliceOf sl vl vu .none->IsPart vl lo->IsPart vu hi->r x lo hi H Q->
  ∃T id,typeLookup (.type T) "__getitem__" =pure (some (.builtin id))/\s.TypeIs v T/\wpAny (model X.prog X.w) X.A (getItem v (.ref sl)) (EP X pins σ Q) X.xe s
noncomputable def Tj(r:V->Option Int->Option Int->Hp->VK->Prop)(te:TE)(tl th:TO):TE:=λσ H Q=>te σ H λx H1=>tl σ H1 λl H2=>th σ H2 λu H3=>r x l u H3 Q
theorem CP{r:V->Option Int->Option Int->Hp->VK->Prop}(hr:RM X r)(he:PE X e te)(hl:PO X lo tl)(hu:PO X hi th):PE X (.Subscript e (.Slice lo hi none p2) pos) (Tj r te tl th):=by
 intro pins s σ H Q I h
 refine Subscript_ (cu (he pins s σ H _ I h) λv s1 ⟨x,H1,I1,r1,q1⟩=>?_)
 refine wpAny_Slice (cu (hl pins s1 σ H1 _ I1 q1) λvl s2 ⟨l,H2,I2,pl,q2⟩=>cu (hu pins s2 σ H2 _ I2 q2) λvu s3 ⟨u,H3,I3,pu,q3⟩=>?_)
 rw[evalPart_none]
 refine wpAny_pure ?_
 have I4:Inv X pins σ H3 {s3 with heap:=s3.heap.push {cls:= .type "slice",data:= .fields #[vl,vu,.none]}}:=I3.kept (t':=s3.toks) λb ob q=>Heap.get?_push_of_some _ q
 obtain⟨T,id,hT,ht,hg⟩:=hr pins {s3 with heap:=s3.heap.push {cls:= .type "slice",data:= .fields #[vl,vu,.none]}} σ H3 x v vl vu l u s3.heap.objs.size Q I4 r1 (Heap.IsSliceOf.new ..) pl pu q3
 show wpAny (model X.prog X.w) X.A (subscriptTail e (.Slice lo hi none p2) v (.ref s3.heap.objs.size)) (EP X pins σ Q) X.xe {s3 with heap:=s3.heap.push {cls:= .type "slice",data:= .fields #[vl,vu,.none]}}
 exact tail_any (ops:=[.ref s3.heap.objs.size,v]) ht hT hg (by with_unfolding_all rfl)
noncomputable def FQ(xs:List V)(lo hi:Option Int):List V:=(xs.drop (HT.mR xs.length 0 lo)).take (HT.mR xs.length xs.length hi-HT.mR xs.length 0 lo)
theorem wV(xs:List V)(lo hi:Option Int):(FQ xs lo hi).length<=xs.length:=by
 unfold FQ
 rw[Yi,Yq]
 omega
noncomputable def Mm(K:PySem.W.Frag):R2:=λx y H Q=>∃a b ns ms,x= .ref a/\y= .ref b/\nS K H a (ns.map V.int)/\nS K H b (ms.map V.int)/\Q (.bl (HT.lexLt ns ms)) H
noncomputable def Mn(K:PySem.W.Frag):R2:=λx y H Q=>∃a b xs ys,x= .ref a/\y= .ref b/\nS K H a xs/\nS K H b ys/\xs≠[]/\xs.length+ys.length<=sizeLine/\
 (ys=[]->Q (.ref a) H)/\(ys≠[]->∀p,H p=none->Q (.ref p) (upd H p (.tup (xs++ys))))
theorem Vals.uZ{xs:List V}{us:List Value}(r:Vals xs us):us=[]↔xs=[]:=by
 cases r with
 |nil=>simp
 |cons _ _=>simp
theorem FT:uY X (binaryOp .Add) (Mn X.K):=by
 intro pins s σ H x y v u Q I rx ry h
 obtain⟨a,b,xs,ys,rfl,rfl,ha,hb,hx,hz,q1,q2⟩:=h
 cases rx
 cases ry
 obtain⟨its,r1,p1,_⟩:=I.tuple ha
 obtain⟨its2,r2,p2,_⟩:=I.tuple hb
 refine HT.FN p1 p2 (λz=>hx (r1.uZ.mp z)) (λz=>⟨.ref a,H,I,rfl,q1 (r2.uZ.mp z)⟩) (λz=>?_) (by rw[<-r1.length,<-r2.length];exact hz)
 refine⟨.ref s.heap.objs.size,_,I.laid (t':=s.toks) (o:= .tup (xs++ys)) (λb ob q=>Heap.get?_push_of_some _ q) (Xn _) ?_,rfl,q2 (λw=>z (r2.uZ.mpr w)) _ (I.hok.fresh (Xn _))⟩
 exact⟨by rw[XA];exact hz,_,r1.append r2,IsTup.new _ _⟩
end
end L2
namespace L2
open PySem PySem.Spec PyProof.Rows
noncomputable def Ci(n:Nat)(i:Int):Option Nat:=if 0<=i then(if i<n then some i.toNat else none)else if -(n:Int)<=i then some (i+n).toNat else none
noncomputable def sL{α:Type}(xs:List α)(i:Int):Option α:=(Ci xs.length i).bind λj=>xs[j]?
theorem FU{n:Nat}{i:Int}{j:Nat}(h:Ci n i=some j):seqIndex? i n=some j/\j<n/\ -(n:Int)<=i/\i<n:=by
 unfold Ci at h
 by_cases h0:0<=i
 ·rw[if_pos h0]at h
  by_cases h1:i<n
  ·rw[if_pos h1]at h
   have e:i.toNat=j:=Option.some.inj h
   exact⟨by rw[seqIndex_of h0 h1,e],by omega,by omega,h1⟩
  ·rw[if_neg h1]at h;cases h
 ·rw[if_neg h0]at h
  by_cases h1: -(n:Int)<=i
  ·rw[if_pos h1]at h
   have e:(i+n).toNat=j:=Option.some.inj h
   exact⟨by rw[seqIndex_neg (by omega) h1,e],by omega,h1,by omega⟩
  ·rw[if_neg h1]at h;cases h
theorem zY{α:Type}{xs:List α}{i:Int}{v:α}(h:sL xs i=some v):∃j,seqIndex? i xs.length=some j/\xs[j]?=some v/\j<xs.length/\ -(xs.length:Int)<=i/\i<xs.length:=by
 unfold sL at h
 cases e:Ci xs.length i with
 |none=>rw[e]at h;cases h
 |some j=>
  rw[e]at h
  obtain⟨h1,h2,h3,h4⟩:=FU e
  exact⟨j,h1,h,h2,h3,h4⟩
theorem k6{α:Type}{xs:List α}{j:Nat}{v:α}(h:xs[j]?=some v):sL xs (j:Int)=some v:=by
 have hj:j<xs.length:=(XH.mp h).1
 have e:Ci xs.length (j:Int)=some j:=by
  unfold Ci
  rw[if_pos (by omega),if_pos (by omega)];simp
 unfold sL;rw[e];exact h
theorem CQ{α:Type}(xs:List α)(v:α):sL (xs++[v]) (-1)=some v:=by
 have hl:(xs++[v]).length=xs.length+1:=by simp
 have e:Ci (xs++[v]).length (-1)=some xs.length:=by
  unfold Ci
  rw[hl,if_neg (by decide),if_pos (by omega)]
  congr 1
  omega
 unfold sL
 rw[e]
 show(xs++[v])[xs.length]?=some v
 simp
noncomputable def u5(b:Expr):Prop:= ∀o i,subscripted b false o i=operate [o,i] (getItem o i)
noncomputable def HW(X:Cx)(r:R2):Prop:=
 ∀(value slice:Expr) (pins:List (Addr ×Obj)) (s:Shared) (σ:St) (H:Hp) (x y:V) (v u:Value) (Q:VK),Inv X pins σ H s->RelV x v->RelV y u->r x y H Q->
  subscripted slice false v u=operate [v,u] (getItem v u)->wpAny (model X.prog X.w) X.A (subscriptTail value slice v u) (EP X pins σ Q) X.xe s
noncomputable def RN(X:Cx)(id:String)(r:V->List V->Hp->VK->Prop):Prop:=
 ∀(pins:List (Addr ×Obj)) (s:Shared) (σ:St) (H:Hp) (x:V) (xs:List V) (v:Value) (us:List Value) (Q:VK),Inv X pins σ H s->RelV x v->Vals xs us->r x xs H Q->
  wpAny (model X.prog X.w) X.A (call (.builtin id) (v::us)) (EP X pins σ Q) X.xe s
section
variable{X:Cx}{a b:Expr}{ta tb:TE}{pos:Pos}
theorem HW.or{r r':R2}(h:HW X r)(h':HW X r'):HW X (λx y H Q=>r x y H Q\/r' x y H Q):=by
 intro value slice pins s σ H x y v u Q I rx ry q hs
 rcases q with q|q
 ·exact h value slice pins s σ H x y v u Q I rx ry q hs
 ·exact h' value slice pins s σ H x y v u Q I rx ry q hs
theorem HX{r:R2}(hr:HW X r)(ha:PE X a ta)(hb:PE X b tb)(hs:u5 b):PE X (.Subscript a b pos) (Te r ta tb):=by
 intro pins s σ H Q I h
 exact Subscript_ (Pw ha hb I h λv u s2 x y H2 I2 rx ry q=>hr a b pins s2 σ H2 x y v u Q I2 rx ry q (hs _ _))
noncomputable def PD(K:PySem.W.Frag):R2:=λx y H Q=>∃p xs i v,x= .ref p/\y= .int i/\jj K H p xs/\sL xs i=some v/\Q v H
noncomputable def PF(K:PySem.W.Frag):R2:=λx y H Q=>∃p xs i v,x= .ref p/\y= .int i/\nS K H p xs/\sL xs i=some v/\Q v H
theorem FW:HW X (PD X.K):=by
 intro value slice pins s σ H x y v u Q I rx ry h hs
 obtain⟨p,xs,i,z,rfl,rfl,hq,he,q⟩:=h
 cases rx
 obtain⟨t,rfl⟩:=ry
 obtain⟨its,r,pl,hz⟩:=I.list hq
 obtain⟨j,h1,h2,h3,h4,h5⟩:=zY he
 obtain⟨w,ew,rw'⟩:=r.get h2
 have hl:=r.length
 have hn:=yI
 have fin:EP X pins σ Q w s:=⟨z,H,I,rw',q⟩
 by_cases h0:0<=i
 ·have hj:i.toNat=j:=by
   rw[seqIndex_of h0 h5]at h1
   exact Option.some.inj h1
  exact item_listR pl.isList h0 (by omega) (by rw[hj];simpa using ew) fin hs
 ·have hj:(i+(its.toArray.size:Int)).toNat=j:=by
   rw[seqIndex_neg (by omega) h4]at h1
   rw[Xr,<-hl]
   exact Option.some.inj h1
  exact subscriptTail_builtinR (x:=w) pl.isList.typeIs slot_list_getitem.lookup
   (wpAny_getItem_list_neg (Q:=λr s'=>r=w/\EP X pins σ Q r s') pl.isList (by omega) (by rw[Xr]<;>omega) (by omega) (by rw[hj];simpa using ew) ⟨rfl,fin⟩) hs
theorem JC:HW X (PF X.K):=by
 intro value slice pins s σ H x y v u Q I rx ry h hs
 obtain⟨p,xs,i,z,rfl,rfl,hq,he,q⟩:=h
 cases rx
 obtain⟨t,rfl⟩:=ry
 obtain⟨its,r,pl,hz⟩:=I.tuple hq
 obtain⟨j,h1,h2,h3,h4,h5⟩:=zY he
 obtain⟨w,ew,rw'⟩:=r.get h2
 have hl:=r.length
 have hn:=yI
 have fin:EP X pins σ Q w s:=⟨z,H,I,rw',q⟩
 exact subscriptTail_builtinR (x:=w) pl.typeIs slot_tuple_getitem.lookup
  (getItem_tuple (j:=j) (Q:=λr s'=>r=w/\EP X pins σ Q r s') pl (by omega) (by omega) (by rw[Xr,<-hl];exact h1) (by simpa using ew) ⟨rfl,fin⟩) hs
theorem u6(lo hi:Option Int)(n:Nat):(sliceBounds lo hi none n).1=((HT.mR n 0 lo:Nat):Int)/\(sliceBounds lo hi none n).2.1=((HT.mR n n hi:Nat):Int)/\(sliceBounds lo hi none n).2.2=1:=by
 refine⟨?_,?_,rfl⟩
 ·cases lo with
  |none=>simp[sliceBounds,HT.mR]
  |some i=>
   simp only[sliceBounds,HT.mR,aau,show(1:Int)>0 by decide,if_true]
   by_cases h:i<0
   ·simp only[h,if_true]<;>omega
   ·simp only[h,if_false]<;>omega
 ·cases hi with
  |none=>simp[sliceBounds,HT.mR]
  |some i=>
   simp only[sliceBounds,HT.mR,aau,show(1:Int)>0 by decide,if_true]
   by_cases h:i<0
   ·simp only[h,if_true]<;>omega
   ·simp only[h,if_false]<;>omega
theorem sP(its:List Value)(lo hi:Option Int):slicePick its.toArray lo hi none=((its.drop (HT.mR its.length 0 lo)).take (HT.mR its.length its.length hi-HT.mR its.length 0 lo)).toArray:=by
 obtain⟨h1,h2,h3⟩:=u6 lo hi its.toArray.size
 unfold slicePick
 rw[h1,h2,h3]
 simp only[sliceRange_one,pick_run,Xr]<;>rfl
noncomputable def PJ(K:PySem.W.Frag):V->Option Int->Option Int->Hp->VK->Prop:=λx lo hi H Q=>∃a xs,x= .ref a/\jj K H a xs/\∀p,H p=none->Q (.ref p) (upd H p (.lst (FQ xs lo hi)))
theorem FY:RM X (PJ X.K):=by
 intro pins s σ H x v vl vu lo hi sl Q I rx hs pl pu h
 obtain⟨a,xs,rfl,hx,q⟩:=h
 cases rx
 obtain⟨its,r,ht,hz⟩:=I.list hx
 have hlen:=r.length
 refine⟨"list",_,slot_list_getitem.lookup,ht.isList.typeIs,?_⟩
 refine wpAny_getItem_list_slice ht.isList hs pl pu .none (by simp) ?_ (by rw[Xr]<;>omega)
 rw[sP,<-hlen]
 refine⟨.ref s.heap.objs.size,_,I.laid (t':=s.toks) (o:= .lst (FQ xs lo hi)) (λb ob q=>Heap.get?_push_of_some _ q) (Xn _) ?_,rfl,q _ (I.hok.fresh (Xn _))⟩
 exact⟨Yj (wV xs lo hi) hz,_,0,(r.drop (HT.mR xs.length 0 lo)).take (HT.mR xs.length xs.length hi-HT.mR xs.length 0 lo),Heap.get?_push_size _ rfl⟩
theorem u7:zS X (.builtin "len") (λxs H Q=>∃p ys,xs=[.ref p]/\(jj X.K H p ys\/nS X.K H p ys)/\Q (.int ys.length) H):=by
 intro pins s σ H xs us Q I r h
 obtain⟨p,ys,rfl,hq,q⟩:=h
 obtain⟨u,rfl,rx⟩:=vals1 r
 cases rx
 have hn:=yI
 rcases hq with hq|hq
 ·obtain⟨its,r',pl,hz⟩:=I.list hq
  have hlen:=r'.length
  exact Calls.call_len_list pl.isList (by simp only[Xr]<;>omega) ⟨.int ys.length,H,I.tok _,⟨s.toks+1,by rw[Xr,hlen]⟩,q⟩
 ·obtain⟨its,r',pl,hz⟩:=I.tuple hq
  have hlen:=r'.length
  exact len_tuple pl (by simp only[Xr]<;>omega) ⟨.int ys.length,H,I.tok _,⟨s.toks+1,by rw[Xr,hlen]⟩,q⟩
theorem u9:zS X (.type "list") (λxs H Q=>∃p ys,xs=[.ref p]/\(jj X.K H p ys\/nS X.K H p ys)/\∀l,H l=none->Q (.ref l) (upd H l (.lst ys))):=by
 intro pins s σ H xs us Q I r h
 obtain⟨p,ys,rfl,hq,q⟩:=h
 obtain⟨u,rfl,rx⟩:=vals1 r
 cases rx
 have fin:∀(its:List Value),Vals ys its->ys.length<=sizeLine->∀(h':Heap) (c':Nat),(∀b o',s.heap.get? b=some o'->h'.get? b=some o')->
  h'.get? s.heap.objs.size=some {cls:= .type "list",dict:=none,data:= .seq its.toArray c',slots:= #[]}->EP X pins σ Q (.ref s.heap.objs.size) {s with heap:=h'}:=λits r' hz h' c' kp e=>
  ⟨.ref s.heap.objs.size,_,I.laid (t':=s.toks) kp (Xn _) (show bI X.prog X.w _ h' _ (.lst ys)from⟨hz,its,c',r',e⟩),rfl,q _ (I.hok.fresh (Xn _))⟩
 rcases hq with hq|hq
 ·obtain⟨its,r',pl,hz⟩:=I.list hq
  have hlen:=r'.length
  obtain⟨o,ho,hc,n,hd⟩:=pl.isList
  exact call_list_seq p (.inl rfl) ho hc hd (λh' c' kp e=>fin its r' hz h' c' kp e) (by simp only[Xr]<;>omega)
 ·obtain⟨its,r',pl,hz⟩:=I.tuple hq
  have hlen:=r'.length
  obtain⟨o,ho,hc,n,hd⟩:=pl
  exact call_list_seq p (.inr rfl) ho hc hd (λh' c' kp e=>fin its r' hz h' c' kp e) (by simp only[Xr]<;>omega)
theorem sQ:zS X (.type "tuple") (λxs H Q=>∃p ys,xs=[.ref p]/\((jj X.K H p ys/\∀l,H l=none->Q (.ref l) (upd H l (.tup ys)))\/(nS X.K H p ys/\Q (.ref p) H))):=by
 intro pins s σ H xs us Q I r h
 obtain⟨p,ys,rfl,h⟩:=h
 obtain⟨u,rfl,rx⟩:=vals1 r
 cases rx
 rcases h with⟨hq,q⟩|⟨hq,q⟩
 ·obtain⟨its,r',pl,hz⟩:=I.list hq
  have hlen:=r'.length
  refine call_tuple_list pl.isList (λh' kp=>?_) (by simp only[Xr]<;>omega)
  have I1:Inv X pins σ H {s with heap:=h'}:=I.kept (t':=s.toks) kp
  have I2:Inv X pins σ (upd H h'.objs.size (.tup ys)) {s with heap:=h'.push {cls:= .type "tuple",data:= .seq its.toArray}}:=
   I1.laid (t':=s.toks) (λb o e=>Heap.get?_push_of_some _ e) (Xn _) (show bI X.prog X.w _ _ _ (.tup ys)from⟨hz,its,r',IsTup.new _ _⟩)
  exact⟨.ref h'.objs.size,_,I2,rfl,q _ (I1.hok.fresh (Xn _))⟩
 ·obtain⟨its,r',pl,hz⟩:=I.tuple hq
  exact call_tuple_same pl ⟨.ref p,H,I,rfl,q⟩
noncomputable def PK(K:PySem.W.Frag)(T:String)(x:V)(H:Hp):Prop:=match x with
 | .str _=>T= "str"
 | .int _=>T= "int"
 | .ref p=>(T= "list"/\∃xs,jj K H p xs)\/(T= "tuple"/\∃o,K.lookup p=some o/\o.cls= .type "tuple"/\o.dict=none)\/
  (T= "dict"/\((∃kvs,H p=some (.dK kvs))\/∃kvs,H p=some (.dT kvs)))\/(T= "set"/\∃S n,H p=some (.set S n))
 |_=>False
theorem CS{pins:List (Addr ×Obj)}{σ:St}{H:Hp}{s:Shared}{T:String}{x:V}{v:Value}(I:Inv X pins σ H s)(r:RelV x v)(ty:PK X.K T x H) :
 s.TypeIs v T/\∀a,v= .ref a->∃ob,s.heap.get? a=some ob/\ob.dict=none:=by
 cases x with
 |str z=>
  obtain⟨t,rfl⟩:=r
  cases(show T= "str" from ty)
  exact⟨typeIs_str s z t,λ_ e=>nomatch e⟩
 |int i=>
  obtain⟨t,rfl⟩:=r
  cases(show T= "int" from ty)
  exact⟨typeIs_int s i t,λ_ e=>nomatch e⟩
 |ref p=>
  cases r
  rcases ty with⟨rfl,xs,hq⟩|⟨rfl,o,hk,hc,hd⟩|⟨rfl,hk⟩|⟨rfl,S,n,hk⟩
  ·obtain⟨its,_,pl,_⟩:=I.list hq
   refine⟨pl.isList.typeIs,λa e=>?_⟩
   cases e
   obtain⟨o,n,e,c,hd,_⟩:=pl
   exact⟨o,e,hd⟩
  ·refine⟨⟨o,I.lF p o hk,hc⟩,λa e=>?_⟩
   cases e
   exact⟨o,I.lF _ o hk,hd⟩
  ·have z:∃o,s.heap.get? p=some o/\o.ExactDict:=by
    rcases hk with⟨kvs,hk⟩|⟨kvs,hk⟩
    ·obtain⟨_,_,_,_,o,_,_,e,ex,_⟩:=I.hok p _ hk
     exact⟨o,e,ex⟩
    ·obtain⟨_,_,_,_,o,_,_,e,ex,_⟩:=I.hok p _ hk
     exact⟨o,e,ex⟩
   obtain⟨o,e,ex⟩:=z
   refine⟨⟨o,e,ex.1⟩,λa e2=>?_⟩
   cases e2
   exact⟨o,e,ex.2.1⟩
  ·obtain⟨o,_,_,_,e,ex,_⟩:=I.hok p _ hk
   refine⟨⟨o,e,ex.1⟩,λa e2=>?_⟩
   cases e2
   exact⟨o,e,ex.2.1⟩
 |_=>exact False.elim ty
noncomputable def Mq(K:PySem.W.Frag)(T:String)(r:V->List V->Hp->VK->Prop)(to:TE):TE:=λσ H Q=>to σ H λx H1=>PK K T x H1/\r x [] H1 Q
noncomputable def PL(K:PySem.W.Frag)(T:String)(r:V->List V->Hp->VK->Prop)(to:TE)(t:TA):TE:=λσ H Q=>to σ H λx H1=>PK K T x H1/\t σ H1 λxs H2=>r x xs H2 Q
variable{o e:Expr}{es:List Expr}{to:TE}{t:TA}{name:Str}{apos cpos:Pos}{T id:String}{r:V->List V->Hp->VK->Prop}
theorem JD(pa:PlainAttrs T)(slot:Slot T name id)(hty:typeOf (.builtin id)=pure (.type "method_descriptor"))(hm:RN X id r)(ho:PE X o to)
 (hbase:attributeBase o name X.env (eval o X.env)=eval o X.env:=by rfl)(hline:(apos.endLine==cpos.line)=true:=by rfl):PE X (.Call (.Attribute o name apos) [] [] cpos) (Mq X.K T r to):=by
 intro pins s σ H Q I h
 refine wpAny_Call_method0_late hbase hline (cu (ho pins s σ H _ I h) λv s1 ⟨x,H1,I1,r1,ty,q1⟩=>?_)
 obtain⟨h1,h2⟩:=CS I1 r1 ty
 exact⟨T,id,pa,slot,hty,h1,h2,Calls.callWith_builtin rfl (PySem.evalArgs_none (hm pins s1 σ H1 x [] v [] Q I1 r1 .nil q1))⟩
theorem zZ(pa:PlainAttrs T)(slot:Slot T name id)(hty:typeOf (.builtin id)=pure (.type "method_descriptor"))(hm:RN X id r)(ho:PE X o to)(ha:PA X (e::es) t)
 (hbase:attributeBase o name X.env (eval o X.env)=eval o X.env:=by rfl)
 (hfew:((backTo cpos (starEach (e::es) X.env)).all (λx=>!x.1) && (backToKw cpos (keywordEach [] X.env)).all (λx=>x.1.isSome)
  && decide ((e::es).length+([]:List Keyword).length+(if([]:List Keyword).isEmpty then 0 else 1)<30))=true:=by rfl)
 (hline:(apos.endLine==cpos.line)=true:=by rfl)(hs:starEach (e::es) X.env=(false,eval e X.env)::starEach es X.env:=by rfl)(hplain:(backTo cpos (starEach es X.env)).any (·.1)=false:=by rfl) :
 PE X (.Call (.Attribute o name apos) (e::es) [] cpos) (PL X.K T r to t):=by
 intro pins s σ H Q I h
 refine wpAny_Call_method_late hbase hfew hline rfl (cu (ho pins s σ H _ I h) λv s1 ⟨x,H1,I1,r1,ty,q1⟩=>?_)
 obtain⟨h1,h2⟩:=CS I1 r1 ty
 refine⟨T,id,pa,slot,hty,h1,h2,?_⟩
 have hA:=ha cpos pins s1 σ H1 _ I1 q1
 rw[hs]at hA ⊢
 refine Calls.callWith_builtin (by show(false || (backTo cpos (starEach es X.env)).any (·.1))=false;rw[hplain]<;>rfl) (Calls.evalArgs_plain ?_)
 exact cu hA λus s2 ⟨vs,H2,I2,r2,q2⟩=>hm pins s2 σ H2 x vs v us Q I2 r1 r2 q2
end
end L2
namespace L2
open PySem PySem.Spec PyProof.Rows
noncomputable def PM(X:Cx)(id:String)(r:V->List V->Hp->VK->Prop):Prop:=
 ∀(pins:List (Addr ×Obj)) (s:Shared) (σ:St) (H:Hp) (x:V) (xs:List V) (v:Value) (us:List Value) (Q:VK),Inv X pins σ H s->RelV x v->Vals xs us->r x xs H Q->
  wpAny (model X.prog X.w) X.A (call (.builtin id) (v::us)) (EP X pins σ Q) X.xe s
theorem Vals.one:∀{x:V} {us:List Value},Vals [x] us->∃u,us=[u]/\RelV x u
 |_,_,.cons r .nil=>⟨_,rfl,r⟩
theorem Vals.zero:∀{us:List Value},Vals [] us->us=[]
 |_,.nil=>rfl
theorem Vals.dropLast{xs:List V}{us:List Value}(h:Vals xs us):Vals xs.dropLast us.dropLast:=by
 induction h with
 |nil=>exact .nil
 |cons r t ih=>
  cases t with
  |nil=>exact .nil
  |cons q t'=>exact .cons r ih
theorem yM{α:Type}(l:List α):l.eraseIdx (l.length-1)=l.dropLast:=by
 induction l with
 |nil=>rfl
 |cons a r ih=>
  cases r with
  |nil=>rfl
  |cons b r=>
   have e:(a::b::r).length-1=((b::r).length-1)+1:=by
    have h1:(a::b::r).length=r.length+2:=rfl
    have h2:(b::r).length=r.length+1:=rfl
    omega
   rw[e,List.eraseIdx_cons_succ,ih]
   all_goals rfl
section
variable{X:Cx}{pins:List (Addr ×Obj)}{σ:St}{H:Hp}{s:Shared}{l b:Addr}{xs ys zs:List V}
theorem Inv.JE{its its':List Value}{n:Nat}{f:Array Value->Array Value}{t':Nat}(I:Inv X pins σ H s)(hH:H l=some (.lst xs))
 (e:s.heap.get? l=some {cls:= .type "list",data:= .seq its.toArray n})(hf:f its.toArray=its'.toArray)(hv:Vals ys its')(hz:ys.length<=sizeLine) :
 Inv X pins σ (upd H l (.lst ys)) {s with heap:=s.heap.update l (Obj.mapSeq f),toks:=t'}:=by
 have q:=PySem.IsL.update e f
 rw[hf]at q
 refine I.write (x:=l) (e:=l) (by rw[hH];exact trivial) (.inl rfl) (λb' u hb hu=>(Heap.get?_update_other s.heap (Obj.mapSeq f) (Ne.symm hb)).trans hu) ⟨_,q⟩ ?_
 exact⟨hz,its',_,hv,q⟩
theorem Inv.PN{its:List Value}{t':Nat}(I:Inv X pins σ H s)(hv:Vals ys its)(hz:ys.length<=sizeLine) :
 Inv X pins σ (upd H s.heap.objs.size (.lst ys)) {s with heap:=s.heap.push {cls:= .type "list",data:= .seq its.toArray},toks:=t'}:=
 I.laid (λ_ _ q=>Heap.get?_push_of_some _ q) (Xn _) ⟨hz,its,0,hv,Heap.get?_push_size _ rfl⟩
theorem Inv.fresh(I:Inv X pins σ H s):H s.heap.objs.size=none:=I.hok.fresh (Xn _)
theorem Inv.Bd(I:Inv X pins σ H s)(hH:H l=some (.lst xs)):xs.length<=sizeLine/\∃(its:List Value) (n:Nat),Vals xs its/\xs.length=its.length/\s.heap.get? l=some {cls:= .type "list",data:= .seq its.toArray n}:=by
 obtain⟨z,its,n,r,e⟩:=I.hok l _ hH
 exact⟨z,its,n,r,r.length,e⟩
theorem CT{n:Nat}(h:n<=sizeLine):Builtin.List.listTooLong n=false:=by
 unfold Builtin.List.listTooLong
 exact decide_eq_false (by omega)
end
section
variable{X:Cx}
noncomputable def Aa:V->List V->Hp->VK->Prop:=λx vs H Q=>∃l xs y,x= .ref l/\vs=[y]/\H l=some (.lst xs)/\xs.length<sizeLine/\Q .bg (upd H l (.lst (xs++[y])))
theorem k7:PM X "list.append" Aa:=by
 intro pins s σ H x vs v us Q I rx rv h
 obtain⟨l,xs,y,rfl,rfl,hH,hz,q⟩:=h
 cases rx
 obtain⟨u,rfl,ru⟩:=rv.one
 obtain⟨z,its,n,r,hl,e⟩:=I.Bd hH
 refine call_meets F.slot_list_append ⟨_,e,rfl⟩ F.entry_list_append (F.args_list_append_2 _ _) (PySem.list_append l its.toArray n u (by rw[Xr];omega)) ⟨e,?_⟩
 refine⟨.bg,_,I.JE (its':=its++[u]) hH e (by simp) (r.append (.cons ru .nil)) ?_,rfl,q⟩
 rw[XA,Zq]
 omega
noncomputable def Ab:V->List V->Hp->VK->Prop:=λx vs H Q=>∃l b xs zs,x= .ref l/\vs=[.ref b]/\H l=some (.lst xs)/\H b=some (.lst zs)/\xs.length+zs.length<=sizeLine/\Q .bg (upd H l (.lst (xs++zs)))
theorem Be:PM X "list.extend" Ab:=by
 intro pins s σ H x vs v us Q I rx rv h
 obtain⟨l,b,xs,zs,rfl,rfl,hH,hB,hz,q⟩:=h
 cases rx
 obtain⟨u,rfl,ru⟩:=rv.one
 cases ru
 obtain⟨z,its,n,r,hl,e⟩:=I.Bd hH
 obtain⟨z2,its2,n2,r2,hl2,e2⟩:=I.Bd hB
 have hsz:its.toArray.size+its2.toArray.size<=sizeLine:=by rw[Xr,Xr];omega
 have Mr:¬(!its.toArray.isEmpty && Builtin.List.listTooLong (its.toArray.size+its2.toArray.size))=true:=by
  rw[CT hsz,aaa]
  exact Xv
 refine call_meets F.slot_list_extend ⟨_,e,rfl⟩ F.entry_list_extend (F.args_list_extend_2 _ _)
  (AutoSeq1.list_extend_list_list_0 l its.toArray n b its2.toArray n2 Mr (by rw[Xr];omega) (by omega)) ⟨e,e2,?_⟩
 refine⟨.bg,_,I.JE (its':=its++its2) hH e (by simp) (r.append r2) ?_,rfl,q⟩
 rw[XA]
 omega
noncomputable def Ms:V->List V->Hp->VK->Prop:=λx vs H Q=>∃l xs y,x= .ref l/\vs=[]/\H l=some (.lst xs)/\xs[xs.length-1]?=some y/\Q y (upd H l (.lst xs.dropLast))
theorem JF:PM X "list.pop" Ms:=by
 intro pins s σ H x vs v us Q I rx rv h
 obtain⟨l,xs,y,rfl,rfl,hH,hy,q⟩:=h
 cases rx
 have Tn:=rv.zero
 subst Tn
 obtain⟨z,its,n,r,hl,e⟩:=I.Bd hH
 obtain⟨u,hu,ru⟩:=r.get hy
 have hy':its.toArray[its.toArray.size-1]?=some u:=by
  show its.toArray[its.length-1]?=some u
  rw[<-Array.getElem?_toList,<-hl]
  exact hu
 refine call_meets F.slot_list_pop ⟨_,e,rfl⟩ F.entry_list_pop (F.args_list_pop_1 _) (MeetsSeq.list_pop_last l its.toArray n u hy' (by rw[Xr];omega)) ⟨e,?_⟩
 refine⟨y,_,I.JE (its':=its.dropLast) hH e ?_ r.dropLast ?_,ru,q⟩
 ·show its.toArray.eraseIdxIfInBounds (its.toArray.size-1)=its.dropLast.toArray
  rw[Xr,List.eraseIdxIfInBounds_toArray,yM]
 ·rw[Yp]
  omega
noncomputable def PR:R2:=λx y H Q=>∃l b xs zs,x= .ref l/\y= .ref b/\H l=some (.lst xs)/\H b=some (.lst zs)/\xs.length+zs.length<=sizeLine/\∀p,H p=none->Q (.ref p) (upd H p (.lst (xs++zs)))
theorem JG:uY X (binaryOp .Add) PR:=by
 intro pins s σ H x y v u Q I rx ry h
 obtain⟨l,b,xs,zs,rfl,rfl,hH,hB,hz,q⟩:=h
 cases rx
 cases ry
 obtain⟨z,its,n,r,hl,e⟩:=I.Bd hH
 obtain⟨z2,its2,n2,r2,hl2,e2⟩:=I.Bd hB
 refine PySem.P.add_list e e2 ?_ (by rw[Xr,Xr];omega)
 have ea:its.toArray++its2.toArray=(its++its2).toArray:=by simp
 rw[ea]
 exact⟨.ref _,_,I.PN (t':=s.toks) (r.append r2) (by rw[XA];omega),rfl,q _ I.fresh⟩
end
section
variable{prog:Program}{w:World}{A:Around}{E:Value->Shared->Prop}{s:Shared}
end
section
variable{X:Cx}
end
end L2
namespace Att
open PySem PySem.W PySem.Calls PyProof.Rows
theorem pI{P:Params}{h:Heap}:∀(ns:List Int) (vs:List Value),WellAll P h vs (ns.map WData.int)->IntsAre vs ns:=by
 intro ns
 induction ns with
 |nil=>
  intro vs w
  rw[List.map_nil]at w
  cases w
  exact .nil
 |cons n ns ih=>
  intro vs w
  rw[XQ]at w
  cases w with
  |cons a b=>
   cases a
   exact .cons _ _ (ih _ b)
theorem Bf{l:OpenLaw}{n:Nat}(hn:l.most=some n){P:Params}{h:Heap}{args:List WData}{vals:List Value}
 (hpre:l.row.toRowW.claim.pre args=true)(hwl:WellAll P h vals args) :
 ∃a vs ns,vals=[Value.ref a]/\args=[WData.list (ns.map WData.int)]/\h.get? a=some {cls:= .type "list",data:= .seq vs.toArray}/\IntsAre vs ns/\ns.length<=n:=by
 have hsh:WShape.hasAll [] args [.list .int]=true:=(pre_splitW hpre).1
 have hc:l.pre.holds [] {args:=args}=true:=(pre_splitW hpre).2
 obtain⟨d,r,rfl,h1,h2⟩:=hasAllW_cons hsh
 obtain rfl:=hasAllW_nil h2
 obtain⟨xs,rfl,h3⟩:=hasW_list h1
 obtain⟨ns,rfl⟩:=items_int h3
 have hlen:ns.length<=n:=by
  unfold OpenLaw.pre at hc
  have h4:(WTm.not (.lt (.lit (.int (n:Int))) (.len (.arg 0)))).holds [] {args:=[.list (ns.map .int)]}=true:=by
   have h4:=(holds_andW hc).1
   rw[hn]at h4
   exact h4
  have h5:=condW_of h4 (w_not (w_lt w_lit (w_len_list (w_arg rfl))))
  rw[Xi]at h5
  refine Nat.le_of_not_lt λq=>?_
  have q':(n:Int)<((ns.length:Nat):Int):=by omega
  first
   |(rw[decide_eq_true q']at h5;exact absurd h5 (by decide))
   |(simp at h5;omega)
 cases hwl with
 |cons w1 w2=>
  cases w2
  cases w1 with
  |list ho hall=>exact⟨_,_,ns,rfl,rfl,ho,pI ns _ hall,hlen⟩
theorem Bg(l:OpenLaw)(args:List WData):l.row.toRowW.claim.post args (.bool true) args=true:=
 postW_of (r:=l.row.toRowW) (X:=(true==true))
  (show WShape.has [] (.bool true) .bool=true by first|rfl|decide|simp[WShape.has,WShape.arms,WShape.armsAll])
  (show(WTm.eq .res (.lit (.bool true))).value [] {args:=args,res:=some (.bool true),after:=args}=some (.bool (true==true))from w_eq_bool (w_res rfl) w_lit) rfl
section
variable{prog:Program}{w:World}{A:Around}{E:Value->Shared->Prop}{s:Shared}{K:Frag}
end
end Att
namespace L2
open PySem PySem.Spec PyProof.Rows
theorem uc:∀{vs:List Value} {ns:List Int},IntsAre vs ns->Vals (ns.map V.int) vs
 |_,_,.nil=> .nil
 |_,_,.cons n t h=> .cons ⟨t,rfl⟩ (uc h)
noncomputable def FZ(H:Hp):Prop:= ∀b,H b=none\/∃o xs,H b=some (.fO o (.lst xs))
theorem CU{P:Program}{w:World}{K:PySem.W.Frag}{mg mb:Str->Option Value}{CX:Cf}{k:Nat}{fa a:Addr}{fd:FuncData}{x:Str}{sp:Sp}{s₁:Shared}{vs:List Value}{ns:List Int}
 (KX:K.In s₁.heap)(hns:s₁.heap.Ns mainGlobals mg)(hb:s₁.heap.Ns builtinsNs mb)(To:∀x:Str,x≠"__name__"->mb x=bootBuiltins x)(hlim:s₁.heap.NoLimit)(hg:s₁.gens= #[])
 (ha:s₁.heap.get? a=some {cls:= .type "list",data:= .seq vs.toArray})(hi:IntsAre vs ns)(hl:ns.length<=sizeLine)(hr:cY k callerA)
 (F:∀base:Heap,K.In base->base.Ns mainGlobals mg->bG P w K mg base CX k fa fd [x] sp)(hbind:∀(s:Shared) (u:Value),BindsTo s fd ⟨[u],[]⟩ [(x,u)])
 (sJ:∀H:Hp,FZ H->jj K H a (ns.map V.int)->sp [.ref a] H (λv _=>v= .bl true) λ_ _ _=>False)
 (PU:∀H e s',CX [] H s₁ (λ_ _ _=>False) e s'->False) :
 codeAny (model P w) callerA (.call (.ref fa) ⟨[.ref a],[]⟩) (λr s'=>r= .ok (.ret (.bool true))/\OldK s₁.heap s'.heap/\s'.os=s₁.os/\AllBare s'.gens) s₁:=by
 have rv:=uc hi
 have PV:=hi.length
 have core:∀H:Hp,FZ H->jj K H a (ns.map V.int)->gY P w H s₁.heap->(∀b,H b≠none->b=a)->(H a≠none->K.lookup a=none)->
  codeAny (model P w) callerA (.call (.ref fa) ⟨[.ref a],[]⟩) (λr s'=>r= .ok (.ret (.bool true))/\OldK s₁.heap s'.heap/\s'.os=s₁.os/\AllBare s'.gens) s₁:=by
  intro H hO hS hok hA hK
  have Ac:∀{b:Addr} {o:Obj},s₁.heap.get? b=some o->H b=none->(uW s₁.heap H).get? b=some o:=λe n=>Cy e n
  have Mj:∀{b:Addr} {o:Obj} {es:Array DictEntry} {ep:Nat},s₁.heap.get? b=some o->o.data= .dict es ep->H b=none:=λ{b o es ep} e d=>by
   cases q:H b with
   |none=>rfl
   |some u=>
    have e':b=a:=hA b (by rw[q];simp)
    subst e'
    rw[ha]at e;cases e
    have d':Data.seq vs.toArray _=Data.dict es ep:=d
    cases d'
  have OE:∀{b:Addr} {m:Str->Option Value},s₁.heap.Ns b m->(uW s₁.heap H).Ns b m:=λ{b m} ⟨o,es,ep,e,d,r⟩=>⟨o,es,ep,Ac e (Mj e d),d,r⟩
  have RO:K.In (uW s₁.heap H):=λb o e=>Ac (KX b o e) (by
   cases q:H b with
   |none=>rfl
   |some u=>
    have e':b=a:=hA b (by rw[q];simp)
    subst e'
    rw[hK (by rw[q];simp)]at e;cases e)
  have hM:Mod K mg (uW s₁.heap H):=⟨RO,OE hns,⟨mb,OE hb,To⟩,let ⟨mc,h1,h2⟩:=hlim;⟨mc,OE h1,h2⟩⟩
  have e0:sM P w K mg (uW s₁.heap H) callerA [] s₁ H:=⟨rfl,hM,λb o e=>Fq e,Zz (A5 _ _),trivial,λb hb=>absurd (show b∈([]:List Addr)from hb) (by simp),hok,.of_eq hg⟩
  refine codeAny_mono ((F _ RO (OE hns)).run callerA [] s₁ H ⟨[.ref a],[]⟩ [.ref a] [.ref a] _ _ hr e0 (hbind s₁ (.ref a)) (.cons rfl .nil) (sJ H hO hS)) λr s' h=>?_
  cases r with
  |error e=>exact(PU H e s' h).elim
  |ok fl=>
   cases fl with
   |next=>exact False.elim h
   |brk=>exact False.elim h
   |cont=>exact False.elim h
   |ret u=>
    obtain⟨v,H',os,bare,un,PX,r',q⟩:=h
    have q':v= .bl true:=q
    subst q'
    obtain rfl:u=Value.bool true:=r'
    refine⟨rfl,OldK.of_keep λb o e=>?_,os,bare⟩
    cases q:H b with
    |none=>exact un.keep b o e q (by intro z;exact absurd (show b∈([]:List Addr)from z) (by simp)) (by simp)
    |some u=>
     rcases hO b with z|⟨ob,xs,z⟩
     ·rw[q]at z;cases z
     ·have z2:=un.lX b ob _ z
      obtain⟨e1,_⟩:=hok b _ z
      obtain⟨e2,_⟩:=PX b _ z2
      rw[e]at e1;cases e1
      exact e2
 cases hk:K.lookup a with
 |some o=>
  have e:=KX a o hk
  rw[ha]at e
  cases e
  refine core (λ_=>none) (λ_=> .inl rfl) (.inr ⟨_,vs.toArray,_,hk,rfl,rfl,rfl,by rw[Xr,PV];exact hl,by simpa using rv⟩) (λb u z=>by have z':(none:Option HO)=some u:=z;cases z') (λb z=>absurd rfl z) λz=>absurd rfl z
 |none=>
  refine core (λb=>if b=a then some (.fO {cls:= .type "list",data:= .seq vs.toArray} (.lst (ns.map V.int)))else none) (λb=>?_) (.inl (.inr ⟨{cls:= .type "list",data:= .seq vs.toArray},if_pos rfl⟩)) (λb u z=>?_) (λb z=>?_) λ_=>hk
  ·by_cases hb:b=a
   ·exact .inr ⟨_,_,if_pos hb⟩
   ·exact .inl (if_neg hb)
  ·by_cases hb:b=a
   ·have z':=(if_pos hb).symm.trans z
    cases z'
    subst hb
    exact⟨ha,by rw[Xi];exact hl,vs,_,rv,ha⟩
   ·have z':=(if_neg hb).symm.trans z
    cases z'
  ·by_cases hb:b=a
   ·exact hb
   ·exact absurd (if_neg hb) z
end L2
namespace L2
open PySem PySem.Spec PyProof.Rows
end L2
namespace L2
open PySem PySem.Spec PyProof.Rows
noncomputable def jl(s:Stmt):Arguments:=match s with
 | .FunctionDef _ a _ _ _ _ _ _ _ _=>a
 |_=>{posonlyargs:=[],args:=[],vararg:=none,kwonlyargs:=[],kw_defaults:=[],kwarg:=none,defaults:=[]}
noncomputable def c8(s:Stmt):List Stmt:=match s with
 | .FunctionDef _ _ b _ _ _ _ _ _ _=>b
 |_=>[]
noncomputable def ak(s:Stmt):Scope:=match s with
 | .FunctionDef _ _ _ _ _ _ sc _ _ _=>sc
 |_=>{kind:= .function,names:=[],isGenerator:=false,isCoroutine:=false}
noncomputable abbrev eL:Cf:=λ_ _ _ _ _ _=>False
noncomputable abbrev E0:XK:=λ_ _ _=>False
theorem HY{X:Cx}:Passes eL X E0:=λ_ _ _ _ _ _ _ h=>h.elim
structure iV(K:PySem.W.Frag)(x qual:Str)(st:Stmt)(f:Addr)(fd:FuncData):Prop where
 ex:∃(oc:Value) (od:Option Addr) (kV doc pm:Value) (an:Option Addr) (cdv ct:Value) (osl:Array (Option Value)),
  fd=PySem.W.fnOf x qual (jl st) (c8 st) (ak st) .none kV doc pm an cdv ct/\K.lookup f=some ⟨oc,od,.func fd,osl⟩/\PySem.W.codeIn K cdv qual=true
 kp:PySem.W.keepIn K (.ref f)=true
section
variable{P:Program}{w:World}{K:PySem.W.Frag}{mg:Str->Option Value}{base:Heap}
theorem iV.ok{x qual:Str}{st:Stmt}{f:Addr}{fd:FuncData}{N ps:List Str}{k:Nat}{sp:Sp}(F:iV K x qual st f fd)(S:aE N ps (ak st))(len:∀vs H Q E,sp vs H Q E->vs.length=ps.length)
 (hbody:∀(cdv:Value) (A:Around) (outer:List Env) (s:Shared) (H:Hp) (vs:List V) (Q:VK) (E:XK),cY k (A.deeper (envOfC qual (ak st) s.heap.objs.size f cdv))->sp vs H Q E->
  ∃t,yD (gW eL P w K mg base N qual (ak st) f cdv A outer s H E).yE (c8 st) t/\t {nx:=λ_ H'=>Q .bg H',rt:=Q} (start N vs) H):bG P w K mg base eL (k+1) f fd ps sp:=by
 obtain⟨oc,od,kV,doc,pm,an,cdv,ct,osl,rfl,lk,hcd⟩:=F.ex
 refine HU lk hcd S len λA outer s H vs Q E hr sJ=>?_
 obtain⟨t,h,q⟩:=hbody cdv A outer s H vs Q E hr sJ
 exact⟨t,h.yE,q⟩
theorem iV.binds{x qual:Str}{st:Stmt}{f:Addr}{fd:FuncData}{ps:List Str}(F:iV K x qual st f fd)
 (h:∀(kV doc pm:Value) (an:Option Addr) (cdv ct:Value) (us:List Value),us.length=ps.length->bindArgs (PySem.W.fnOf x qual (jl st) (c8 st) (ak st) .none kV doc pm an cdv ct) ⟨us,[]⟩=pure (ps.zip us)):Binds K fd ps []:=by
 obtain⟨oc,od,kV,doc,pm,an,cdv,ct,osl,rfl,lk,hcd⟩:=F.ex
 exact .all (h kV doc pm an cdv ct)
end
section
variable{X:Cx}
theorem pv(i:Nat){x:Str}{pos:Pos}(hN:X.N[i]?=some x:=by rfl)(hv:Oz X.env.scope x:=by first|exact Or.inl rfl|exact Or.inr (Or.inl rfl)|exact Or.inr (Or.inr rfl))(hd:(x==("__debug__" :Str))=false:=by decide)
 (hcd:(x==("__classdict__" :Str))=false:=by decide):PE X (.Name x pos) (LQ i):=CB hN hv hd hcd
end
theorem PY{A B:Prop}(h:B):if false=true then A else B:=by
 rw[if_neg Xv]
 exact h
theorem eB{c A B:Prop}[Decidable c](h1:c->A)(h2:¬c->B):if c then A else B:=by
 by_cases h:c
 ·rw[if_pos h]
  exact h1 h
 ·rw[if_neg h]
  exact h2 h
end L2
set_option maxHeartbeats 4000000
namespace L3
open PySem PySem.Spec PyProof.Rows L2
noncomputable abbrev St:=L2.St
inductive D where
 |bg|bl (b:Bool)|int (i:Int)|str (x:Str)|ty (n:String)|ref (a:Addr)|tup (xs:List D)|wW (xs:List D)|HZ (n:String)|exc (C:Addr) (nm:Str) (xs:List D)
noncomputable def Kl(K:PySem.W.Frag)(a:Addr)(xs:List V):Prop:=
 ∃(o:Obj) (its:Array Value) (n:Nat),K.lookup a=some o/\o.cls= .type "list"/\o.dict=none/\o.data= .seq its n/\its.size<=sizeLine/\Vals xs its.toList
noncomputable def Fz(K:PySem.W.Frag)(H:Hp)(a:Addr)(xs:List V):Prop:=(∃o,H a=some (.fO o (.lst xs)))\/Kl K a xs
theorem Fz.sq{K:PySem.W.Frag}{H:Hp}{a:Addr}{xs:List V}(h:Fz K H a xs):jj K H a xs:=by
 rcases h with⟨o,h⟩|h
 ·exact .inl (.inr ⟨o,h⟩)
 ·exact .inr h
noncomputable abbrev xO(C t:Addr):Obj:={cls:= .ref C,data:= .fields #[.ref t,.none,.none,.none,.bool false,.none]}
noncomputable abbrev yO(C t d:Addr):Obj:={cls:= .ref C,dict:=some d,data:= .fields #[.ref t,.none,.none,.none,.bool false,.none]}
noncomputable def Xo(H:Hp)(C:Addr)(nm:Str)(o:Obj)(xs:List V):Prop:=(o.cls= .ref C/\∃fs,o.data= .fields fs)/\((xs=[]/\o.dict=none)\/∃dx od vx,xs=[vx]/\o.dict=some dx/\H dx=some (.fO od (.xd [(nm,vx)])))
mutual
noncomputable def Dat(K:PySem.W.Frag)(H:Hp):D->V->Prop
 | .bg,v=>v= .bg
 | .bl b,v=>v= .bl b
 | .int i,v=>v= .int i
 | .str x,v=>v= .str x
 | .ty n,v=>v= .ty n
 | .ref a,v=>v= .ref a
 | .tup ds,v=>∃a xs,v= .ref a/\H a=some (.tup xs)/\aB K H ds xs
 | .wW ds,v=>∃a xs,v= .ref a/\Fz K H a xs/\aB K H ds xs
 | .HZ n,v=>∃a o u,v= .ref a/\H a=some (.fO o u)/\o.cls= .type n
 | .exc C nm ds,v=>∃a o u xs,v= .ref a/\H a=some (.fO o u)/\Xo H C nm o xs/\aB K H ds xs
noncomputable def aB(K:PySem.W.Frag)(H:Hp):List D->List V->Prop
 |[],xs=>xs=[]
 |d::ds,xs=>∃v vs,xs=v::vs/\Dat K H d v/\aB K H ds vs
end
structure Ext(H H':Hp):Prop where
 tup:∀b xs,H b=some (.tup xs)->H' b=some (.tup xs)
 fO:∀b o u,H b=some (.fO o u)->H' b=some (.fO o u)
theorem Fz.mono{K:PySem.W.Frag}{H H':Hp}{a:Addr}{xs:List V}(e:Ext H H')(h:Fz K H a xs):Fz K H' a xs:=by
 rcases h with⟨o,h⟩|h
 ·exact .inl ⟨o,e.fO _ _ _ h⟩
 ·exact .inr h
theorem Xo.mono{H H':Hp}{C:Addr}{nm:Str}{o:Obj}{xs:List V}(e:Ext H H')(h:Xo H C nm o xs):Xo H' C nm o xs:=by
 obtain⟨k,h⟩:=h
 rcases h with h|⟨dx,od,vx,e1,e2,e3⟩
 ·exact⟨k,.inl h⟩
 ·exact⟨k,.inr ⟨dx,od,vx,e1,e2,e.fO _ _ _ e3⟩⟩
mutual
theorem Dat.mono{K:PySem.W.Frag}{H H':Hp}(e:Ext H H'):∀(d:D) (v:V),Dat K H d v->Dat K H' d v
 | .bg,v,h=>by simpa[Dat]using h
 | .bl b,v,h=>by simpa[Dat]using h
 | .int i,v,h=>by simpa[Dat]using h
 | .str x,v,h=>by simpa[Dat]using h
 | .ty n,v,h=>by simpa[Dat]using h
 | .ref a,v,h=>by simpa[Dat]using h
 | .tup ds,v,h=>by
   obtain⟨a,xs,e1,e2,e3⟩:=(show∃a xs,v= .ref a/\H a=some (.tup xs)/\aB K H ds xs from by simpa only[Dat]using h)
   have:=aB.mono e ds xs e3
   simp only[Dat]
   exact⟨a,xs,e1,e.tup _ _ e2,this⟩
 | .wW ds,v,h=>by
   obtain⟨a,xs,e1,e2,e3⟩:=(show∃a xs,v= .ref a/\Fz K H a xs/\aB K H ds xs from by simpa only[Dat]using h)
   have:=aB.mono e ds xs e3
   simp only[Dat]
   exact⟨a,xs,e1,e2.mono e,this⟩
 | .HZ n,v,h=>by
   obtain⟨a,o,u,e1,e2,e3⟩:=(show∃a o u,v= .ref a/\H a=some (.fO o u)/\o.cls= .type n from by simpa only[Dat]using h)
   simp only[Dat]
   exact⟨a,o,u,e1,e.fO _ _ _ e2,e3⟩
 | .exc C nm ds,v,h=>by
   obtain⟨a,o,u,xs,e1,e2,e3,e4⟩:=(show∃a o u xs,v= .ref a/\H a=some (.fO o u)/\Xo H C nm o xs/\aB K H ds xs from by simpa only[Dat]using h)
   have:=aB.mono e ds xs e4
   simp only[Dat]
   exact⟨a,o,u,xs,e1,e.fO _ _ _ e2,e3.mono e,this⟩
theorem aB.mono{K:PySem.W.Frag}{H H':Hp}(e:Ext H H'):∀(ds:List D) (xs:List V),aB K H ds xs->aB K H' ds xs
 |[],xs,h=>by simpa[aB]using h
 |d::ds,xs,h=>by
  obtain⟨v,vs,e1,e2,e3⟩:=(show∃v vs,xs=v::vs/\Dat K H d v/\aB K H ds vs from by simpa only[aB]using h)
  have h1:=Dat.mono e d v e2
  have h2:=aB.mono e ds vs e3
  simp only[aB]
  exact⟨v,vs,e1,h1,h2⟩
end
section
variable{K:PySem.W.Frag}{H:Hp}
theorem bQ{v:V}:Dat K H .bg v↔v= .bg:=by simp only[Dat]
theorem aS{b:Bool}{v:V}:Dat K H (.bl b) v↔v= .bl b:=by simp only[Dat]
theorem aJ{i:Int}{v:V}:Dat K H (.int i) v↔v= .int i:=by simp only[Dat]
theorem gg{x:Str}{v:V}:Dat K H (.str x) v↔v= .str x:=by simp only[Dat]
theorem vc{n:String}{v:V}:Dat K H (.ty n) v↔v= .ty n:=by simp only[Dat]
theorem aH{a:Addr}{v:V}:Dat K H (.ref a) v↔v= .ref a:=by simp only[Dat]
theorem aM{ds:List D}{v:V}:Dat K H (.tup ds) v↔∃a xs,v= .ref a/\H a=some (.tup xs)/\aB K H ds xs:=by simp only[Dat]
theorem mS{ds:List D}{v:V}:Dat K H (.wW ds) v↔∃a xs,v= .ref a/\Fz K H a xs/\aB K H ds xs:=by simp only[Dat]
theorem Ae{n:String}{v:V}:Dat K H (.HZ n) v↔∃a o u,v= .ref a/\H a=some (.fO o u)/\o.cls= .type n:=by simp only[Dat]
theorem mT{C:Addr}{nm:Str}{ds:List D}{v:V}:Dat K H (.exc C nm ds) v↔∃a o u xs,v= .ref a/\H a=some (.fO o u)/\Xo H C nm o xs/\aB K H ds xs:=by simp only[Dat]
theorem aF{xs:List V}:aB K H [] xs↔xs=[]:=by simp only[aB]
theorem az{d:D}{ds:List D}{xs:List V}:aB K H (d::ds) xs↔∃v vs,xs=v::vs/\Dat K H d v/\aB K H ds vs:=by simp only[aB]
theorem aB.length:∀{ds:List D} {xs:List V},aB K H ds xs->ds.length=xs.length
 |[],xs,h=>by rw[aF.mp h];rfl
 |d::ds,xs,h=>by
  obtain⟨v,vs,rfl,_,h⟩:=az.mp h
  simp[aB.length h]
theorem aB.get:∀{ds:List D} {xs:List V} {i:Nat} {d:D},aB K H ds xs->ds[i]?=some d->∃v,xs[i]?=some v/\Dat K H d v
 |[],xs,_,_,_,e=>by simp at e
 |d::ds,xs,i,d',h,e=>by
  obtain⟨v,vs,rfl,h1,h2⟩:=az.mp h
  cases i with
  |zero=>simp at e;subst e;exact⟨v,rfl,h1⟩
  |succ i=>exact aB.get (i:=i) h2 (by simpa using e)
theorem aB.back:∀{ds:List D} {xs:List V} {i:Nat} {v:V},aB K H ds xs->xs[i]?=some v->∃d,ds[i]?=some d/\Dat K H d v
 |[],xs,i,v,h,e=>by rw[aF.mp h]at e;simp at e
 |d::ds,xs,i,v',h,e=>by
  obtain⟨v,vs,rfl,h1,h2⟩:=az.mp h
  cases i with
  |zero=>simp at e;subst e;exact⟨d,rfl,h1⟩
  |succ i=>exact aB.back (i:=i) h2 (by simpa using e)
theorem aB.append:∀{ds es:List D} {xs ys:List V},aB K H ds xs->aB K H es ys->aB K H (ds++es) (xs++ys)
 |[],es,xs,ys,h,h'=>by rw[aF.mp h];exact h'
 |d::ds,es,xs,ys,h,h'=>by
  obtain⟨v,vs,rfl,h1,h2⟩:=az.mp h
  exact az.mpr ⟨v,vs++ys,rfl,h1,h2.append h'⟩
theorem aB.one{d:D}{v:V}(h:Dat K H d v):aB K H [d] [v]:=az.mpr ⟨v,[],rfl,h,aF.mpr rfl⟩
end
inductive MO where
 |lst (ds:List D)
 |mL (kvs:List (List (List Int) ×D))
noncomputable abbrev Mp:=Addr->Option MO
noncomputable def au(M:Mp)(a:Addr)(o:MO):Mp:=λb=>if b=a then some o else M b
noncomputable def JH:Mp:=λ_=>none
theorem ah{M:Mp}{a:Addr}{o:MO}:au M a o a=some o:=by unfold au;rw[if_pos rfl]
theorem aT{M:Mp}{a b:Addr}{o:MO}(h:b≠a):au M a o b=M b:=by unfold au;rw[if_neg h]
theorem mU{M:Mp}{a:Addr}{o u:MO}:au (au M a o) a u=au M a u:=by
 funext b;unfold au;split<;>rfl
theorem ao{M:Mp}{a b:Addr}{o u:MO}(h:M b=some o)(n:M a=none):au M a u b=some o:=by
 rw[aT (λe=>by subst e;rw[h]at n;cases n)];exact h
noncomputable def Le(M M':Mp):Prop:= ∀a o,M a=some o->M' a=some o
theorem Le.refl(M:Mp):Le M M:=λ_ _ h=>h
theorem Le.trans{M M1 M2:Mp}(a:Le M M1)(b:Le M1 M2):Le M M2:=λc o h=>b c o (a c o h)
theorem Le.new{M:Mp}{a:Addr}{o:MO}(n:M a=none):Le M (au M a o):=λ_ _ h=>ao h n
noncomputable def Tp(ks:List (List Int)):Int:=reduceHash (Builtin.Tuple.tupleHashOf (ks.map λk=>reduceHash (Builtin.Tuple.tupleHashOf (k.map hashInt))))
noncomputable abbrev DX:=List (List (List Int) ×Addr ×Value)
noncomputable def PZ(x:List (List Int) ×Addr ×Value):DictEntry:=⟨Tp x.1,.ref x.2.1,x.2.2⟩
noncomputable def nT(a:Addr)(xs:DX):Heap->Prop:=λh=>∃o es,h.get? a=some o/\o.ExactDict/\o.data= .dict es xs.length/\es.toList=xs.map PZ
noncomputable def kD(k:List (List Int)):D:= .tup (k.map λl=> .tup (l.map .int))
noncomputable def lG(K:PySem.W.Frag)(H:Hp)(p:List (List Int) ×D)(x:List (List Int) ×Addr ×Value):Prop:=p.1=x.1/\Dat K H (kD p.1) (.ref x.2.1)/\∃v,Dat K H p.2 v/\RelV v x.2.2
theorem lG.mono{K:PySem.W.Frag}{H H':Hp}(e:Ext H H'){p:List (List Int) ×D}{x:List (List Int) ×Addr ×Value}(h:lG K H p x):lG K H' p x:=by
 obtain⟨h1,h2,v,h3,h4⟩:=h
 exact⟨h1,Dat.mono e _ _ h2,v,Dat.mono e _ _ h3,h4⟩
noncomputable def Lw(K:PySem.W.Frag)(H:Hp)(a:Addr):MO->Prop
 | .lst ds=>∃xs,H a=some (.lst xs)/\aB K H ds xs
 | .mL kvs=>∃xs:DX,H a=some (.ext (nT a xs))/\(a==sysModules)=false/\(xs.map (·.1)).Nodup/\Paired (lG K H) kvs xs
theorem Lw.mono{K:PySem.W.Frag}{H H':Hp}{a:Addr}{o:MO}(h:Lw K H a o)(e:Ext H H')(s:∀u,H a=some u->H' a=some u):Lw K H' a o:=by
 cases o with
 |lst ds=>
  obtain⟨xs,e1,e2⟩:=h
  exact⟨xs,s _ e1,aB.mono e _ _ e2⟩
 |mL kvs=>
  obtain⟨xs,e1,y,nd,p⟩:=h
  exact⟨xs,s _ e1,y,nd,Paired.Fp p λ_ _ z=>z.mono e⟩
theorem Lw.has{K:PySem.W.Frag}{H:Hp}{a:Addr}{o:MO}(h:Lw K H a o):∃u,H a=some u/\((∃xs,u= .lst xs)\/∃φ,u= .ext φ):=by
 cases o with
 |lst ds=>
  obtain⟨xs,e1,_⟩:=h
  exact⟨_,e1,.inl ⟨_,rfl⟩⟩
 |mL kvs=>
  obtain⟨xs,e1,_⟩:=h
  exact⟨_,e1,.inr ⟨_,rfl⟩⟩
noncomputable def bB(K:PySem.W.Frag)(H:Hp)(M:Mp):Prop:= ∀a o,M a=some o->Lw K H a o
theorem bB.no{K:PySem.W.Frag}{H:Hp}:bB K H JH:=λ_ _ h=>by cases h
theorem bB.le{K:PySem.W.Frag}{H:Hp}{M M':Mp}(h:bB K H M')(l:Le M M'):bB K H M:=λa o e=>h a o (l a o e)
theorem bB.lst{K:PySem.W.Frag}{H:Hp}{M:Mp}{a:Addr}{ds:List D}(h:bB K H M)(e:M a=some (.lst ds)):∃xs,H a=some (.lst xs)/\aB K H ds xs:=h a _ e
theorem bB.free{K:PySem.W.Frag}{H:Hp}{M:Mp}{a:Addr}(h:bB K H M)(e:H a=none):M a=none:=by
 cases q:M a with
 |none=>rfl
 |some o=>
  obtain⟨u,e',_⟩:=(h a o q).has
  rw[e]at e';cases e'
theorem bB.vd{K:PySem.W.Frag}{H:Hp}{M:Mp}{a:Addr}{u:HO}(h:bB K H M)(e:H a=some u)(n:∀xs,u≠ .lst xs)(n2:∀φ,u≠ .ext φ:=by intro _ z;cases z):M a=none:=by
 cases q:M a with
 |none=>rfl
 |some o=>
  obtain⟨u',e',h'⟩:=(h a o q).has
  rw[e]at e'
  cases e'
  rcases h' with⟨xs,z⟩|⟨φ,z⟩
  ·exact absurd z (n xs)
  ·exact absurd z (n2 φ)
noncomputable def Fr(M:Mp)(H:Hp)(M':Mp)(H':Hp):Prop:= ∀b o,M b=none->H b=some o->H' b=some o/\M' b=none
theorem Fr.refl(M:Mp)(H:Hp):Fr M H M H:=λ_ _ n e=>⟨e,n⟩
theorem Fr.trans{M M1 M2:Mp}{H H1 H2:Hp}(a:Fr M H M1 H1)(b:Fr M1 H1 M2 H2):Fr M H M2 H2:=λc o n e=>
 let ⟨e1,n1⟩:=a c o n e
 b c o n1 e1
theorem Fr.le{M M1 M2:Mp}{H H1:Hp}(a:Fr M H M1 H1)(l:Le M2 M1):Fr M H M2 H1:=λb o n e=>by
 obtain⟨e1,n1⟩:=a b o n e
 refine⟨e1,?_⟩
 cases q:M2 b with
 |none=>rfl
 |some u=>rw[l b u q]at n1;cases n1
theorem Fr.ext{K:PySem.W.Frag}{M M':Mp}{H H':Hp}(f:Fr M H M' H')(r:bB K H M):Ext H H':=
 ⟨λb xs e=>(f b _ (r.vd e (λ_ z=>by cases z)) e).1,λb o u e=>(f b _ (r.vd e (λ_ z=>by cases z)) e).1⟩
theorem Ext.new{H:Hp}{p:Addr}{o:HO}(n:H p=none):Ext H (upd H p o):=
 ⟨λb xs e=>by rw[aA (br e n)];exact e,λb o' u e=>by rw[aA (br e n)];exact e⟩
theorem Fr.new{M M':Mp}{H:Hp}{p:Addr}{o:HO}(n:H p=none)(h:∀b,b≠p->M' b=M b):Fr M H M' (upd H p o):=λb u m e=>by
 have hb:b≠p:=br e n
 rw[aA hb,h b hb]
 exact⟨e,m⟩
theorem Fr.write{K:PySem.W.Frag}{M:Mp}{H:Hp}{p:Addr}{o:HO}{u:MO}{v:MO}(m:M p=some u):Fr M H (au M p v) (upd H p o):=λb w n e=>by
 have hb:b≠p:=λz=>by subst z;rw[m]at n;cases n
 rw[aA hb,aT hb]
 exact⟨e,n⟩
theorem bB.new{K:PySem.W.Frag}{M:Mp}{H:Hp}{p:Addr}{o:HO}(r:bB K H M)(n:H p=none):bB K (upd H p o) M:=λa u e=>
 (r a u e).mono (Ext.new n) λv q=>by rw[aA (br q n)];exact q
theorem Ext.j4{H:Hp}{p:Addr}{xs ys:List V}(h:H p=some (.lst xs)):Ext H (upd H p (.lst ys)):=
 ⟨λb zs e=>by rw[aA (zO e h (by intro z;cases z))];exact e,λb o u e=>by rw[aA (zO e h (by intro z;cases z))];exact e⟩
theorem bB.newL{K:PySem.W.Frag}{M:Mp}{H:Hp}{p:Addr}{xs:List V}{ds:List D}(r:bB K H M)(n:H p=none)(d:aB K H ds xs):bB K (upd H p (.lst xs)) (au M p (.lst ds)):=λa u e=>by
 by_cases ha:a=p
 ·subst ha
  rw[ah]at e;cases e
  exact⟨xs,aY,aB.mono (Ext.new n) _ _ d⟩
 ·rw[aT ha]at e
  exact r.new n a u e
theorem bB.j4{K:PySem.W.Frag}{M:Mp}{H:Hp}{p:Addr}{xs ys:List V}{ds:List D}(r:bB K H M)(h:H p=some (.lst xs))(d:aB K H ds ys):bB K (upd H p (.lst ys)) (au M p (.lst ds)):=λa u e=>by
 by_cases ha:a=p
 ·subst ha
  rw[ah]at e;cases e
  exact⟨ys,aY,aB.mono (Ext.j4 h) _ _ d⟩
 ·rw[aT ha]at e
  exact(r a u e).mono (Ext.j4 h) λv q=>by rw[aA ha];exact q
theorem Ext.ve{H:Hp}{p:Addr}{φ:Heap->Prop}{o:HO}(h:H p=some (.ext φ)):Ext H (upd H p o):=
 ⟨λb zs e=>by rw[aA (zO e h (by intro z;cases z))];exact e,λb o u e=>by rw[aA (zO e h (by intro z;cases z))];exact e⟩
theorem bB.newD{K:PySem.W.Frag}{M:Mp}{H:Hp}{p:Addr}(r:bB K H M)(n:H p=none)(y:(p==sysModules)=false):bB K (upd H p (.ext (nT p []))) (au M p (.mL [])):=λa u e=>by
 by_cases ha:a=p
 ·subst ha
  rw[ah]at e;cases e
  exact⟨[],aY,y,ZH,.nil⟩
 ·rw[aT ha]at e
  exact r.new n a u e
theorem bB.mL{K:PySem.W.Frag}{H:Hp}{M:Mp}{a:Addr}{kvs:List (List (List Int) ×D)}(h:bB K H M)(e:M a=some (.mL kvs)):∃xs:DX,H a=some (.ext (nT a xs))/\(a==sysModules)=false/\(xs.map (·.1)).Nodup/\Paired (lG K H) kvs xs:=h a _ e
theorem bB.ve{K:PySem.W.Frag}{M:Mp}{H:Hp}{p:Addr}{φ:Heap->Prop}{xs:DX}{kvs:List (List (List Int) ×D)}(r:bB K H M)(h:H p=some (.ext φ))(y:(p==sysModules)=false)(nd:(xs.map (·.1)).Nodup)(d:Paired (lG K H) kvs xs) :
 bB K (upd H p (.ext (nT p xs))) (au M p (.mL kvs)):=λa u e=>by
 by_cases ha:a=p
 ·subst ha
  rw[ah]at e;cases e
  exact⟨xs,aY,y,nd,Paired.Fp d λ_ _ z=>z.mono (Ext.ve h)⟩
 ·rw[aT ha]at e
  exact(r a u e).mono (Ext.ve h) λv q=>by rw[aA ha];exact q
noncomputable abbrev En:=List (Option D)
structure Rep(K:PySem.W.Frag)(H:Hp)(σ:St)(ρ:En)(M:Mp):Prop where
 env:∀(i:Nat) d,ρ[i]?=some (some d)->∃v,σ[i]?=some (some v)/\Dat K H d v
 len:ρ.length=σ.length
 mem:bB K H M
theorem Rep.go{K:PySem.W.Frag}{H H':Hp}{σ:St}{ρ:En}{M M':Mp}(r:Rep K H σ ρ M)(f:Fr M H M' H')(r':bB K H' M'):Rep K H' σ ρ M':=
 ⟨λi d e=>let ⟨v,e1,e2⟩:=r.env i d e;⟨v,e1,Dat.mono (f.ext r.mem) _ _ e2⟩,r.len,r'⟩
theorem Rep.set{K:PySem.W.Frag}{H:Hp}{σ:St}{ρ:En}{M:Mp}{i:Nat}{d:D}{v:V}(r:Rep K H σ ρ M)(h:Dat K H d v):Rep K H (σ.set i (some v)) (ρ.set i (some d)) M:=by
 refine⟨λj e q=>?_,by simp[r.len],r.mem⟩
 by_cases hj:i=j
 ·subst hj
  by_cases hl:i<ρ.length
  ·rw[YG hl]at q
   cases q
   exact⟨v,YG (by rw[<-r.len];exact hl),h⟩
  ·rw[YC (by simp;omega)]at q;cases q
 ·rw[Y0 hj]at q ⊢
  exact r.env j e q
noncomputable abbrev DK:=D->Mp->Prop
noncomputable abbrev cG:=En->Mp->DK->Prop
noncomputable abbrev k8:=En->Mp->(Bool->Mp->Prop)->Prop
noncomputable abbrev oS:=En->Mp->(List D->Mp->Prop)->Prop
noncomputable def Post(K:PySem.W.Frag)(M:Mp)(H:Hp)(Q:DK):VK:=λv H'=>∃d M',Fr M H M' H'/\Dat K H' d v/\bB K H' M'/\Q d M'
noncomputable def oU(K:PySem.W.Frag)(M:Mp)(H:Hp)(Q:Bool->Mp->Prop):Bool->Hp->Prop:=λb H'=>∃M',Fr M H M' H'/\bB K H' M'/\Q b M'
noncomputable def Ia(K:PySem.W.Frag)(M:Mp)(H:Hp)(Q:List D->Mp->Prop):List V->Hp->Prop:=λvs H'=>∃ds M',Fr M H M' H'/\aB K H' ds vs/\bB K H' M'/\Q ds M'
structure bZ(X:Cx)(e:Expr)(t:cG):Prop where
 run:∀(pins:List (Addr ×Obj)) (s:Shared) (σ:St) (H:Hp) (ρ:En) (M:Mp) (Q:DK),Inv X pins σ H s->Rep X.K H σ ρ M->t ρ M Q->wpAny (model X.prog X.w) X.A (eval e X.env) (EP X pins σ (Post X.K M H Q)) X.xe s
structure wX(X:Cx)(e:Expr)(t:k8):Prop where
 run:∀(pins:List (Addr ×Obj)) (s:Shared) (σ:St) (H:Hp) (ρ:En) (M:Mp) (Q:Bool->Mp->Prop),Inv X pins σ H s->Rep X.K H σ ρ M->t ρ M Q->wpAny (model X.prog X.w) X.A (isTrue e X.env (eval e X.env)) (TP X pins σ (oU X.K M H Q)) X.xe s
structure pJ(X:Cx)(e:Expr)(t:k8):Prop where
 run:∀(whole:Sem Value) (pins:List (Addr ×Obj)) (s:Shared) (σ:St) (H:Hp) (ρ:En) (M:Mp) (Q:Bool->Mp->Prop),Inv X pins σ H s->Rep X.K H σ ρ M->t ρ M Q->wpAny (model X.prog X.w) X.A (isTrue e X.env whole) (TP X pins σ (oU X.K M H Q)) X.xe s
theorem pJ.pt{X:Cx}{e:Expr}{t:k8}(h:pJ X e t):wX X e t:=⟨h.run _⟩
structure wH(X:Cx)(es:List Expr)(t:oS):Prop where
 run:∀(pos:Pos) (pins:List (Addr ×Obj)) (s:Shared) (σ:St) (H:Hp) (ρ:En) (M:Mp) (Q:List D->Mp->Prop),Inv X pins σ H s->Rep X.K H σ ρ M->t ρ M Q->wpAny (model X.prog X.w) X.A (spliced (backTo pos (starEach es X.env))) (AP X pins σ (Ia X.K M H Q)) X.xe s
structure yt where
 nx:En->Mp->Prop
 rt:DK
 bk:En->Mp->Prop:=λ_ _=>False
 ct:En->Mp->Prop:=λ_ _=>False
noncomputable abbrev iF:=yt->En->Mp->Prop
noncomputable def fJ(K:PySem.W.Frag)(M:Mp)(H:Hp)(Q:En->Mp->Prop):St->Hp->Prop:=λσ' H'=>∃ρ' M',Fr M H M' H'/\Rep K H' σ' ρ' M'/\Q ρ' M'
noncomputable def ends(K:PySem.W.Frag)(M:Mp)(H:Hp)(D:yt):Ends:={nx:=fJ K M H D.nx,rt:=Post K M H D.rt,bk:=fJ K M H D.bk,ct:=fJ K M H D.ct}
structure vf(X:Cx)(st:Stmt)(t:iF):Prop where
 run:∀(pins:List (Addr ×Obj)) (s:Shared) (σ:St) (H:Hp) (ρ:En) (M:Mp) (D:yt),Inv X pins σ H s->Rep X.K H σ ρ M->t D ρ M->wpAny (model X.prog X.w) X.A (exec st X.env) (SP X pins (ends X.K M H D)) X.xe s
structure iG(X:Cx)(st:List Stmt)(t:iF):Prop where
 run:∀(pins:List (Addr ×Obj)) (s:Shared) (σ:St) (H:Hp) (ρ:En) (M:Mp) (D:yt),Inv X pins σ H s->Rep X.K H σ ρ M->t D ρ M->wpAny (model X.prog X.w) X.A (execs st X.env) (SP X pins (ends X.K M H D)) X.xe s
section
variable{X:Cx}
theorem up{e:Expr}{te:TE}{t:cG}(h:PE X e te)(g:∀σ H ρ M Q,Rep X.K H σ ρ M->t ρ M Q->te σ H (Post X.K M H Q)):bZ X e t:=
 ⟨λpins s σ H ρ M Q I r q=>h pins s σ H _ I (g σ H ρ M Q r q)⟩
theorem Tq{e:Expr}{te:TT}{t:k8}(h:PT X e te)(g:∀σ H ρ M Q,Rep X.K H σ ρ M->t ρ M Q->te σ H (oU X.K M H Q)):wX X e t:=
 ⟨λpins s σ H ρ M Q I r q=>h pins s σ H _ I (g σ H ρ M Q r q)⟩
theorem Ib{st:Stmt}{te:TS}{t:iF}(h:PS X st te)(g:∀σ H ρ M D,Rep X.K H σ ρ M->t D ρ M->te (ends X.K M H D) σ H):vf X st t:=
 ⟨λpins s σ H ρ M D I r q=>h pins s σ H _ I (g σ H ρ M D r q)⟩
noncomputable def dn(K:PySem.W.Frag)(t:cG):TE:=λσ H Q'=>∃ρ M Q,Rep K H σ ρ M/\t ρ M Q/\∀v H',Post K M H Q v H'->Q' v H'
noncomputable def P0(K:PySem.W.Frag)(t:k8):TT:=λσ H Q'=>∃ρ M Q,Rep K H σ ρ M/\t ρ M Q/\∀v H',oU K M H Q v H'->Q' v H'
noncomputable def RP(K:PySem.W.Frag)(t:oS):TA:=λσ H Q'=>∃ρ M Q,Rep K H σ ρ M/\t ρ M Q/\∀v H',Ia K M H Q v H'->Q' v H'
noncomputable def OF(K:PySem.W.Frag)(t:iF):TS:=λD' σ H=>∃ρ M D,Rep K H σ ρ M/\t D ρ M/\(∀σ' H',fJ K M H D.nx σ' H'->D'.nx σ' H')/\(∀v H',Post K M H D.rt v H'->D'.rt v H')/\(∀σ' H',fJ K M H D.bk σ' H'->D'.bk σ' H')/\(∀σ' H',fJ K M H D.ct σ' H'->D'.ct σ' H')
theorem bZ.dn{e:Expr}{t:cG}(h:bZ X e t):PE X e (dn X.K t):=λpins s σ H Q' I ⟨ρ,M,Q,r,q,k⟩=>
 cu (h.run pins s σ H ρ M Q I r q) λ_ _ ⟨v,H',I',rv,p⟩=>⟨v,H',I',rv,k v H' p⟩
theorem wX.dn{e:Expr}{t:k8}(h:wX X e t):PT X e (P0 X.K t):=λpins s σ H Q' I ⟨ρ,M,Q,r,q,k⟩=>
 cu (h.run pins s σ H ρ M Q I r q) λ_ _ ⟨H',I',p⟩=>⟨H',I',k _ H' p⟩
theorem pJ.dn{e:Expr}{t:k8}(h:pJ X e t):PW X e (P0 X.K t):=λwh pins s σ H Q' I ⟨ρ,M,Q,r,q,k⟩=>
 cu (h.run wh pins s σ H ρ M Q I r q) λ_ _ ⟨H',I',p⟩=>⟨H',I',k _ H' p⟩
theorem wH.dn{es:List Expr}{t:oS}(h:wH X es t):PA X es (RP X.K t):=λpos pins s σ H Q' I ⟨ρ,M,Q,r,q,k⟩=>
 cu (h.run pos pins s σ H ρ M Q I r q) λ_ _ ⟨vs,H',I',rv,p⟩=>⟨vs,H',I',rv,k vs H' p⟩
theorem iG.dn{sts:List Stmt}{t:iF}(h:iG X sts t):yD X sts (OF X.K t):=λpins s σ H D' I ⟨ρ,M,D,r,q,k1,k2,k3,k4⟩=>
 cu (h.run pins s σ H ρ M D I r q) λf s' z=>by
  cases f with
  |next=>obtain⟨σ',H',I',p⟩:=z;exact⟨σ',H',I',k1 _ _ p⟩
  |brk=>obtain⟨σ',H',I',p⟩:=z;exact⟨σ',H',I',k3 _ _ p⟩
  |cont=>obtain⟨σ',H',I',p⟩:=z;exact⟨σ',H',I',k4 _ _ p⟩
  |ret u=>obtain⟨v,σ',H',I',rv,p⟩:=z;exact⟨v,σ',H',I',rv,k2 _ _ p⟩
theorem cJ{K:PySem.W.Frag}{t:cG}{σ:St}{H:Hp}{ρ:En}{M:Mp}{Q:DK}{Q':VK}(r:Rep K H σ ρ M)(q:t ρ M Q)(k:∀v H' d M',Fr M H M' H'->Dat K H' d v->Rep K H' σ ρ M'->Q d M'->Q' v H'):dn K t σ H Q':=
 ⟨ρ,M,Q,r,q,λv H' ⟨d,M',f,dv,rm,p⟩=>k v H' d M' f dv (r.go f rm) p⟩
theorem qm{K:PySem.W.Frag}{t:k8}{σ:St}{H:Hp}{ρ:En}{M:Mp}{Q:Bool->Mp->Prop}{Q':Bool->Hp->Prop}(r:Rep K H σ ρ M)(q:t ρ M Q)(k:∀b H' M',Fr M H M' H'->Rep K H' σ ρ M'->Q b M'->Q' b H'):P0 K t σ H Q':=
 ⟨ρ,M,Q,r,q,λb H' ⟨M',f,rm,p⟩=>k b H' M' f (r.go f rm) p⟩
theorem nU{K:PySem.W.Frag}{t:oS}{σ:St}{H:Hp}{ρ:En}{M:Mp}{Q:List D->Mp->Prop}{Q':List V->Hp->Prop}(r:Rep K H σ ρ M)(q:t ρ M Q)(k:∀vs H' ds M',Fr M H M' H'->aB K H' ds vs->Rep K H' σ ρ M'->Q ds M'->Q' vs H'):RP K t σ H Q':=
 ⟨ρ,M,Q,r,q,λv H' ⟨d,M',f,dv,rm,p⟩=>k v H' d M' f dv (r.go f rm) p⟩
theorem aC{K:PySem.W.Frag}{M:Mp}{H:Hp}{Q:DK}{d:D}{v:V}(rm:bB K H M)(h:Dat K H d v)(q:Q d M):Post K M H Q v H:=⟨d,M,.refl _ _,h,rm,q⟩
theorem Post.back{K:PySem.W.Frag}{M M1:Mp}{H H1:Hp}{Q:DK}{v:V}{H':Hp}(f:Fr M H M1 H1)(p:Post K M1 H1 Q v H'):Post K M H Q v H':=by
 obtain⟨d,M',f',dv,rm,q⟩:=p
 exact⟨d,M',f.trans f',dv,rm,q⟩
theorem oU.back{K:PySem.W.Frag}{M M1:Mp}{H H1:Hp}{Q:Bool->Mp->Prop}{b:Bool}{H':Hp}(f:Fr M H M1 H1)(p:oU K M1 H1 Q b H'):oU K M H Q b H':=by
 obtain⟨M',f',rm,q⟩:=p
 exact⟨M',f.trans f',rm,q⟩
theorem fJ.back{K:PySem.W.Frag}{M M1:Mp}{H H1:Hp}{Q:En->Mp->Prop}{σ:St}{H':Hp}(f:Fr M H M1 H1)(p:fJ K M1 H1 Q σ H'):fJ K M H Q σ H':=by
 obtain⟨ρ',M',f',r,q⟩:=p
 exact⟨ρ',M',f.trans f',r,q⟩
end
end L3
namespace L3
open PySem PySem.Spec PyProof.Rows L2
section
variable{X:Cx}{a b c:Expr}{ta tb tc:cG}{pos:Pos}
noncomputable def Mt(i:Nat):cG:=λρ M Q=>∃d,ρ[i]?=some (some d)/\Q d M
noncomputable def Mu(d:D):cG:=λ_ M Q=>Q d M
theorem af(i:Nat){x:Str}{pos:Pos}(hN:X.N[i]?=some x:=by rfl)(hv:Oz X.env.scope x:=by first|exact Or.inl rfl|exact Or.inr (Or.inl rfl)|exact Or.inr (Or.inr rfl))(hd:(x==("__debug__" :Str))=false:=by decide)
 (hcd:(x==("__classdict__" :Str))=false:=by decide):bZ X (.Name x pos) (Mt i):=
 up (CB hN hv hd hcd) λσ H ρ M Q r ⟨d,e,q⟩=>by
  obtain⟨v,e1,e2⟩:=r.env i d e
  exact⟨v,e1,aC r.mem e2 q⟩
theorem ai{i j pos}:bZ X (.Constant (.int i) j pos) (Mu (.int i)):=up Jb λ_ _ _ _ _ r q=>aC r.mem (aJ.mpr rfl) q
theorem lH{b j pos}:bZ X (.Constant (.bool b) j pos) (Mu (.bl b)):=up LR λ_ _ _ _ _ r q=>aC r.mem (aS.mpr rfl) q
theorem wY{j pos}:bZ X (.Constant .none j pos) (Mu .bg):=up Jc λ_ _ _ _ _ r q=>aC r.mem (bQ.mpr rfl) q
theorem ud{x:Str}{C:Addr}{pos:Pos}(hg:Gl X x)(hm:X.mg x=some (.ref C))(hd:(x==("__debug__" :Str))=false:=by decide):bZ X (.Name x pos) (Mu (.ref C)):=
 up (Fv (v:= .ref C) hg hm rfl hd) λ_ _ _ _ _ r q=>aC r.mem (aH.mpr rfl) q
theorem qo{x:Str}{n:String}{pos:Pos}(hg:Gl X x)(hm:X.mg x=none)(hv:bootBuiltins x=some (.type n))(hn:x≠"__name__" :=by decide)(hd:(x==("__debug__" :Str))=false:=by decide):bZ X (.Name x pos) (Mu (.ty n)):=
 up (Fw (v:= .ty n) hg hm hv rfl hn hd) λ_ _ _ _ _ r q=>aC r.mem (vc.mpr rfl) q
noncomputable abbrev R3:=D->D->Mp->DK->Prop
structure lN(X:Cx)(f:Value->Value->Sem Value)(t:R3):Prop where
 run:∀(pins:List (Addr ×Obj)) (s:Shared) (σ:St) (H:Hp) (M:Mp) (x y:V) (d e:D) (v u:Value) (Q:DK),Inv X pins σ H s->bB X.K H M->RelV x v->RelV y u->Dat X.K H d x->Dat X.K H e y->t d e M Q->
  wpAny (model X.prog X.w) X.A (f v u) (EP X pins σ (Post X.K M H Q)) X.xe s
theorem JI{f:Value->Value->Sem Value}{r:R2}{t:R3}(h:uY X f r)(g:∀H M x y d e Q,bB X.K H M->Dat X.K H d x->Dat X.K H e y->t d e M Q->r x y H (Post X.K M H Q)):lN X f t:=
 ⟨λpins s σ H M x y d e v u Q I rm rx ry dx dy q=>h pins s σ H x y v u _ I rx ry (g H M x y d e Q rm dx dy q)⟩
noncomputable def CV(t:R3)(ta tb:cG):cG:=λρ M Q=>ta ρ M λx M1=>tb ρ M1 λy M2=>t x y M2 Q
theorem Mv(ha:bZ X a ta)(hb:bZ X b tb){pins:List (Addr ×Obj)}{s:Shared}{σ:St}{H:Hp}{ρ:En}{M:Mp}{R:D->D->Mp->Prop}(I:Inv X pins σ H s)(r:Rep X.K H σ ρ M)
 (h:ta ρ M λx M1=>tb ρ M1 λy M2=>R x y M2){Q:Value->Shared->Prop}{f:Value->Value->Sem Value}
 (hf:∀v u s2 x y d e H2 M2,Inv X pins σ H2 s2->Rep X.K H2 σ ρ M2->Fr M H M2 H2->RelV x v->RelV y u->Dat X.K H2 d x->Dat X.K H2 e y->R d e M2->wpAny (model X.prog X.w) X.A (f v u) Q X.xe s2) :
 wpAny (model X.prog X.w) X.A (eval a X.env) (λv s₁=>wpAny (model X.prog X.w) X.A (eval b X.env) (λu s₂=>wpAny (model X.prog X.w) X.A (f v u) Q X.xe s₂) X.xe s₁) X.xe s:=by
 refine cu (ha.run pins s σ H ρ M _ I r h) λv s1 ⟨x,H1,I1,r1,d,M1,f1,d1,gX,q1⟩=>?_
 have R1:=r.go f1 gX
 refine cu (hb.run pins s1 σ H1 ρ M1 _ I1 R1 q1) λu s2 ⟨y,H2,I2,r2,e,M2,f2,d2,Ic,q2⟩=>?_
 exact hf v u s2 x y d e H2 M2 I2 (R1.go f2 Ic) (f1.trans f2) r1 r2 (Dat.mono (f2.ext gX) _ _ d1) d2 q2
theorem ay{op:Operator}{t:R3}(ho:lN X (binaryOp op) t)(ha:bZ X a ta)(hb:bZ X b tb):bZ X (.BinOp a op b pos) (CV t ta tb):=by
 constructor
 intro pins s σ H ρ M Q I r h
 refine wpAny_BinOp (Mv ha hb I r h λv u s2 x y d e H2 M2 I2 R2 f rx ry dx dy q=>?_)
 exact cu (ho.run pins s2 σ H2 M2 x y d e v u Q I2 R2.mem rx ry dx dy q) λ_ _ ⟨z,H3,I3,r3,p⟩=>⟨z,H3,I3,r3,p.back f⟩
theorem mV{op:CmpOp}{t:R3}(ho:lN X (compareOp op) t)(ha:bZ X a ta)(hb:bZ X b tb)(hm:behindInMarks op b=false):bZ X (.Compare a [op] [b] pos) (CV t ta tb):=by
 constructor
 intro pins s σ H ρ M Q I r h
 refine wpAny_Compare1 (Mv ha hb I r h λv u s2 x y d e H2 M2 I2 R2 f rx ry dx dy q=>?_) hm
 exact cu (ho.run pins s2 σ H2 M2 x y d e v u Q I2 R2.mem rx ry dx dy q) λ_ _ ⟨z,H3,I3,r3,p⟩=>⟨z,H3,I3,r3,p.back f⟩
noncomputable def CW(t:cG):k8:=λρ M Q=>t ρ M λx M'=>∃k,x= .bl k/\Q k M'
theorem aX{op:CmpOp}{t:R3}(ho:lN X (compareOp op) t)(ha:bZ X a ta)(hb:bZ X b tb)(hm:behindInMarks op b=false):wX X (.Compare a [op] [b] pos) (CW (CV t ta tb)):=by
 constructor
 intro pins s σ H ρ M Q I r h
 refine wpAny_isTrue_Compare1 (cu (ha.run pins s σ H ρ M _ I r h) λv s1 ⟨x,H1,I1,r1,d,M1,f1,d1,gX,q1⟩=>cu (hb.run pins s1 σ H1 ρ M1 _ I1 (r.go f1 gX) q1) λu s2 ⟨y,H2,I2,r2,e,M2,f2,d2,Ic,q2⟩=>
  cu (ho.run pins s2 σ H2 M2 x y d e v u _ I2 Ic r1 r2 (Dat.mono (f2.ext gX) _ _ d1) d2 q2) λw s3 ⟨z,H3,I3,r3,dz,M3,f3,d3,Tt,k,ek,q3⟩=>?_) hm
 subst ek
 obtain rfl:=aS.mp d3
 cases r3
 exact wpAny_truthy_bool ⟨H3,I3,M3,(f1.trans f2).trans f3,Tt,q3⟩
theorem iY{e:Expr}{t:cG}(h:bZ X e t)(he:∀whole,isTrue e X.env whole=(do let v <-whole;standAt e.pos;holding [v] (truthy v)):=by intro _;rfl):wX X e (CW t):=by
 constructor
 intro pins s σ H ρ M Q I r hw
 refine isTrue_plain (cu (h.run pins s σ H ρ M _ I r hw) λv s1 ⟨x,H1,I1,r1,d,M1,f1,d1,gX,k,ek,q1⟩=>?_) (he _)
 subst ek
 obtain rfl:=aS.mp d1
 cases r1
 exact wpAny_truthy_bool ⟨H1,I1,M1,f1,gX,q1⟩
variable{tA tB:k8}{rest:List Expr}
noncomputable def Mw(t u:k8):k8:=λρ M Q=>t ρ M λc M1=>if c=true then u ρ M1 Q else Q false M1
noncomputable def P1(t u:k8):k8:=λρ M Q=>t ρ M λc M1=>if c=true then Q true M1 else u ρ M1 Q
noncomputable def Mx(t:k8):k8:=λρ M Q=>t ρ M λc M1=>Q (!c) M1
theorem l5(ha:wX X a tA):pJ X (.BoolOp .And [a] pos) tA:=⟨λwh pins s σ H ρ M Q I r h=>cu (pw_and1 ha.dn wh pins s σ H _ I ⟨ρ,M,Q,r,h,λ_ _ z=>z⟩) λ_ _ z=>z⟩
theorem oV(ha:wX X a tA):pJ X (.BoolOp .Or [a] pos) tA:=⟨λwh pins s σ H ρ M Q I r h=>cu (pw_or1 ha.dn wh pins s σ H _ I ⟨ρ,M,Q,r,h,λ_ _ z=>z⟩) λ_ _ z=>z⟩
theorem qp(ha:wX X a tA)(hb:pJ X (.BoolOp .And (b::rest) pos) tB):pJ X (.BoolOp .And (a::b::rest) pos) (Mw tA tB):=⟨λwh pins s σ H ρ M Q I r h=>
 pw_and ha.dn hb.dn wh pins s σ H _ I (qm r h λc H' M' f r' q=>by
  cases c with
  |true=>exact⟨ρ,M',Q,r',q,λ_ _ p=>p.back f⟩
  |false=>exact⟨M',f,r'.mem,q⟩)⟩
theorem qq(ha:wX X a tA)(hb:pJ X (.BoolOp .Or (b::rest) pos) tB):pJ X (.BoolOp .Or (a::b::rest) pos) (P1 tA tB):=⟨λwh pins s σ H ρ M Q I r h=>
 pw_or ha.dn hb.dn wh pins s σ H _ I (qm r h λc H' M' f r' q=>by
  cases c with
  |true=>exact⟨M',f,r'.mem,q⟩
  |false=>exact⟨ρ,M',Q,r',q,λ_ _ p=>p.back f⟩)⟩
theorem k_not(ha:wX X a tA):wX X (.UnaryOp .Not a pos) (Mx tA):=Tq (Jd ha.dn) λσ H ρ M Q r h=>qm r h λ_ _ M' f r' q=>⟨M',f,r'.mem,q⟩
noncomputable def JJ(ta tb:cG):cG:=λρ M Q=>ta ρ M λx M1=>∃c,x= .bl c/\if c=true then tb ρ M1 Q else Q (.bl false) M1
noncomputable def JK(ta:cG):cG:=λρ M Q=>ta ρ M λx M1=>∃c,x= .bl c/\Q (.bl (!c)) M1
theorem Ie{op}{t:cG}(h:bZ X a t):bZ X (.BoolOp op [a] pos) t:=⟨λpins s σ H ρ M Q I r hw=>BoolOp_one (h.run pins s σ H ρ M Q I r hw)⟩
theorem CY(ha:bZ X a ta)(hb:bZ X (.BoolOp .And (b::rest) pos) tb):bZ X (.BoolOp .And (a::b::rest) pos) (JJ ta tb):=up (Je ha.dn hb.dn) λσ H ρ M Q r h=>cJ r h λv H' d M' f dv r' ⟨k,ek,q⟩=>by
 subst ek
 obtain rfl:=aS.mp dv
 refine⟨k,rfl,?_⟩
 cases k with
 |true=>exact⟨ρ,M',Q,r',q,λ_ _ p=>p.back f⟩
 |false=>exact⟨.bl false,M',f,aS.mpr rfl,r'.mem,q⟩
theorem Ig(ha:bZ X a ta):bZ X (.UnaryOp .Not a pos) (JK ta):=up (Jf ha.dn) λσ H ρ M Q r h=>cJ r h λv H' d M' f dv r' ⟨k,ek,q⟩=>by
 subst ek
 obtain rfl:=aS.mp dv
 exact⟨k,rfl,.bl (!k),M',f,aS.mpr rfl,r'.mem,q⟩
noncomputable def P4(t:D->Mp->DK->Prop)(ta:cG):cG:=λρ M Q=>ta ρ M λx M1=>t x M1 Q
noncomputable def P5:D->Mp->DK->Prop:=λd M Q=>∃i,d= .int i/\Q (.int (-i)) M
theorem eE(ha:bZ X a ta):bZ X (.UnaryOp .USub a pos) (P4 P5 ta):=up (L6 Jq ha.dn) λσ H ρ M Q r h=>cJ r h λv H' d M' f dv r' ⟨i,ek,q⟩=>by
 subst ek
 obtain rfl:=aJ.mp dv
 exact⟨i,rfl,.int (-i),M',f,aJ.mpr rfl,r'.mem,q⟩
noncomputable def Sm(n:Nat)(i:Int):Prop:=i.natAbs<2 ^ n
noncomputable def MulOk(i j:Int):Prop:= ∃m n,Sm m i/\Sm n j/\m+n<=100000
theorem qu{k n:Nat}(h:k<2 ^ n):k.log2<=n:=by
 rcases aaj k with z|z
 ·subst z;simp
 ·exact Zl (by rw[Nat.log2_lt (by omega)];exact h)
theorem pZ{n:Nat}{i:Int}(h:Sm n i):Builtin.Int.intBits i<=n+1:=by
 unfold Builtin.Int.intBits
 have:=qu h
 first
  |(split<;>omega)
  |omega
theorem MulOk.ok{i j:Int}(h:MulOk i j):IntMulOk i j:=by
 obtain⟨m,n,h1,h2,h3⟩:=h
 have b1:=pZ h1
 have b2:=pZ h2
 exact IntMulOk.of_bits (by omega) (by omega)
noncomputable def JL(g:Int->Int->Int):R3:=λd e M Q=>∃i j,d= .int i/\e= .int j/\Q (.int (g i j)) M
noncomputable def ue(C:Int->Int->Prop)(g:Int->Int->Int):R3:=λd e M Q=>∃i j,d= .int i/\e= .int j/\C i j/\Q (.int (g i j)) M
noncomputable def Af(g:Int->Int->Bool):R3:=λd e M Q=>∃i j,d= .int i/\e= .int j/\Q (.bl (g i j)) M
theorem My{f:Value->Value->Sem Value}{g:Int->Int->Int}(h:uY X f (FG λi j=> .int (g i j))):lN X f (JL g):=JI h λH M x y d e Q rm dx dy ⟨i,j,e1,e2,q⟩=>by
 subst e1;subst e2
 exact⟨i,j,aJ.mp dx,aJ.mp dy,aC rm (aJ.mpr rfl) q⟩
theorem wZ{f:Value->Value->Sem Value}{C:Int->Int->Prop}{g:Int->Int->Int}(h:uY X f (rI C λi j=> .int (g i j))):lN X f (ue C g):=JI h λH M x y d e Q rm dx dy ⟨i,j,e1,e2,hc,q⟩=>by
 subst e1;subst e2
 exact⟨i,j,aJ.mp dx,aJ.mp dy,hc,aC rm (aJ.mpr rfl) q⟩
theorem CZ{f:Value->Value->Sem Value}{g:Int->Int->Bool}(h:uY X f (FG λi j=> .bl (g i j))):lN X f (Af g):=JI h λH M x y d e Q rm dx dy ⟨i,j,e1,e2,q⟩=>by
 subst e1;subst e2
 exact⟨i,j,aJ.mp dx,aJ.mp dy,aC rm (aS.mpr rfl) q⟩
theorem j5:lN X (binaryOp .Add) (JL λi j=>i+j):=My Jm
theorem cZ:lN X (binaryOp .Sub) (JL λi j=>i-j):=My Jo
theorem qv:lN X (binaryOp .Mult) (ue MulOk λi j=>i*j):=wZ (L7 λ_ _ _ _ _ _ _ hc q=>mul_int q hc.ok)
theorem cy:lN X (binaryOp .Mod) (ue (λ_ j=>0<j) λi j=>i % j):=wZ Jp
noncomputable def Mz(_ j:Int):Prop:=0<j/\∃n,Sm n j/\n<=8000
theorem iH:lN X (binaryOp .FloorDiv) (ue Mz λi j=>i / j):=wZ (L7 λi j _ _ _ _ _ hc q=>floordiv_int (by have:=hc.1;omega) (by rw[Int.fdiv_eq_ediv_of_nonneg _ (by have:=hc.1;omega)];exact q) (.inl (PyProof.noPylong_of_log2 (by
 obtain⟨_,n,h1,h2⟩:=hc
 have:=qu h1
 omega))))
noncomputable def C3(i j:Int):Prop:=0<=j/\j<=1000/\i.natAbs<2 ^ 400
theorem C3.bits{i j:Int}(h:C3 i j):(Builtin.Int.intBits i:Int)*j<=2 ^ 27:=by
 have hb:Builtin.Int.intBits i<=401:=pZ (n:=400) h.2.2
 have h1:(Builtin.Int.intBits i:Int)*j<=401*j:=Int.mul_le_mul_of_nonneg_right (by omega) h.1
 have:=h.2.1
 omega
theorem lP:lN X (binaryOp .Pow) (ue C3 λi j=>i ^ j.toNat):=wZ (L7 λ_ _ _ _ _ _ _ hc q=>pow_int hc.1 hc.bits q)
theorem P6:lN X (compareOp .Lt) (Af λi j=>decide (i<j)):=CZ Me
theorem Ga:lN X (compareOp .Gt) (Af λi j=>decide (j<i)):=CZ Mf
theorem P7:lN X (compareOp .GtE) (Af λi j=>decide (j<=i)):=CZ Mg
inductive OG where
 |bg|bl (b:Bool)|int (i:Int)|str (x:Str)
 deriving DecidableEq
noncomputable def OG.d:OG->D| .bg=> .bg| .bl b=> .bl b| .int i=> .int i| .str x=> .str x
noncomputable def OG.v:OG->V| .bg=> .bg| .bl b=> .bl b| .int i=> .int i| .str x=> .str x
end
end L3
namespace L3
open PySem PySem.Spec PyProof.Rows L2
mutual
noncomputable def dH:D->D->Bool
 | .bg,e=>match e with| .bg=>true|_=>false
 | .bl a,e=>match e with| .bl b=>a==b| .int b=>(if a then 1 else 0)==b|_=>false
 | .int a,e=>match e with| .bl b=>a==(if b then 1 else 0)| .int b=>a==b|_=>false
 | .str a,e=>match e with| .str b=>a==b|_=>false
 | .tup as,e=>match e with| .tup bs=>gC as bs|_=>false
 | .ty _,_=>false
 | .ref _,_=>false
 | .wW _,_=>false
 | .HZ _,_=>false
 | .exc _ _ _,_=>false
noncomputable def gC:List D->List D->Bool
 |[],e=>match e with|[]=>true|_=>false
 |a::as,e=>match e with|[]=>false|b::bs=>dH a b && gC as bs
end
noncomputable def plain:Nat->D->Bool
 |_,.bg=>true
 |_,.bl _=>true
 |_,.int _=>true
 |_,.str _=>true
 |n+1,.tup ds=>ds.all (plain n)
 |_,_=>false
theorem w4:gC [] []=true:=by simp[gC]
theorem iZ(a b:D)(as bs:List D):gC (a::as) (b::bs)=(dH a b && gC as bs):=by simp[gC]
theorem jm(as bs:List D):dH (.tup as) (.tup bs)=gC as bs:=by simp[dH]
theorem gi(a b:Int):dH (.int a) (.int b)=(a==b):=by simp[dH]
theorem gD:∀(ds es:List D),gC ds es=((List.range (min ds.length es.length)).all (λj=>dH (ds.getD j .bg) (es.getD j .bg)) && (ds.length==es.length))
 |[],[]=>by simp[gC]
 |[],e::es=>by simp[gC]
 |d::ds,[]=>by simp[gC]
 |d::ds,e::es=>by
  rw[iZ,gD ds es]
  have h:min (d::ds).length (e::es).length=min ds.length es.length+1:=by simp only[Xz];omega
  rw[h,List.range_succ_eq_map,Zf,ZA]
  simp only[List.getD_cons_zero,Xz]
  have h2:((λj=>dH ((d::ds).getD j D.bg) ((e::es).getD j D.bg))∘Nat.succ)=λj=>dH (ds.getD j D.bg) (es.getD j D.bg):=by
   funext j;simp
  rw[h2]
  have h3:(ds.length+1==es.length+1)=(ds.length==es.length):=by
   rw[Yk];simp
  rw[h3,Bool.and_assoc]
theorem j6:∀(n:Nat) (d:D),plain n d=true->dH d d=true:=by
 intro n
 induction n with
 |zero=>intro d h;cases d<;>simp[plain]at h<;>simp[dH]
 |succ n ih=>
  intro d h
  cases d with
  |tup ds=>
   have h:ds.all (plain n)=true:=by simpa[plain]using h
   rw[jm]
   have:∀(es:List D),es.all (plain n)=true->gC es es=true:=by
    intro es
    induction es with
    |nil=>intro _;exact w4
    |cons e es Tu=>
     intro h
     rw[Zf,X3]at h
     rw[iZ,ih e h.1,Tu h.2];rfl
   exact this ds h
  |_=>first|(simp[plain]at h;done)|(simp[dH];done)
section
variable{K:PySem.W.Frag}{H:Hp}
theorem Dat.inj:∀(n:Nat) (d e:D) (v:V),plain n d=true->plain n e=true->Dat K H d v->Dat K H e v->d=e:=by
 intro n
 induction n with
 |zero=>
  intro d e v pd pe hd he
  cases d<;>simp[plain]at pd<;>cases e<;>simp[plain]at pe<;>simp only[Dat]at hd he<;>subst hd<;>first|rfl|(injection he with z;rw[z])|cases he
 |succ n ih=>
  intro d e v pd pe hd he
  have lists:∀(ds es:List D) (xs:List V),ds.all (plain n)=true->es.all (plain n)=true->aB K H ds xs->aB K H es xs->ds=es:=by
   intro ds
   induction ds with
   |nil=>
    intro es xs _ _ h1 h2
    rw[aF.mp h1]at h2
    cases es with
    |nil=>rfl
    |cons e es=>obtain⟨_,_,z,_⟩:=az.mp h2;cases z
   |cons d ds Tv=>
    intro es xs p1 p2 h1 h2
    obtain⟨v,vs,rfl,g1,g2⟩:=az.mp h1
    cases es with
    |nil=>cases aF.mp h2
    |cons e es=>
     obtain⟨v',vs',z,g3,g4⟩:=az.mp h2
     injection z with z1 z2
     subst z1;subst z2
     rw[Zf,X3]at p1 p2
     rw[ih d e v p1.1 p2.1 g1 g3,Tv es vs p1.2 p2.2 g2 g4]
  cases d with
  |tup ds=>
   obtain⟨a,xs,rfl,ha,hx⟩:=aM.mp hd
   cases e with
   |tup es=>
    obtain⟨b,ys,z,hb,hy⟩:=aM.mp he
    injection z with z
    subst z
    rw[ha]at hb
    injection hb with hb
    injection hb with hb
    subst hb
    rw[lists ds es xs (by simpa[plain]using pd) (by simpa[plain]using pe) hx hy]
   |_=>first|(simp[plain]at pe;done)|(simp only[Dat]at he;cases he)
  |_=>first
   |(simp[plain]at pd;done)
   |(cases e<;>first
    |(simp[plain]at pe;done)
    |(obtain⟨b,ys,z,hb,hy⟩:=aM.mp he;simp only[Dat]at hd;subst hd;cases z;done)
    |(simp only[Dat]at hd he;subst hd;first|rfl|(injection he with z;rw[z])|cases he))
end
theorem p7{α:Type}{p:α->Bool}{xs:List α}(h:xs.all p=true){i:Nat}{x:α}(e:xs[i]?=some x):p x=true:=(Ym.mp h) x (XJ e)
section
variable{X:Cx}{pins:List (Addr ×Obj)}{σ:St}{H:Hp}{s:Shared}
theorem di{P:Program}{w:World}{h:Heap}{a:Addr}{xs:List V}(ok:gY P w H h)(e:H a=some (.tup xs)):∃its:List Value,Vals xs its/\IsTup h a its.toArray/\xs.length<=sizeLine:=by
 obtain⟨z,its,r,p⟩:=(show bI P w H h a (.tup xs)from ok a _ e)
 exact⟨its,r,p,z⟩
theorem C4{P:Program}{w:World}(ok:gY P w H s.heap){K:PySem.W.Frag}:∀(n:Nat) (A:Around) (d e:D) (x y:V) (u v:Value),A.units+n<cLine->plain n d=true->plain n e=true->Dat K H d x->Dat K H e y->RelV x u->RelV y v->SeqAt.EqAt A s u v (dH d e):=by
 intro n
 induction n with
 |zero=>
  intro A d e x y u v hu pd pe dx dy rx ry
  cases d with
  |tup ds=>simp[plain]at pd
  |ty _=>simp[plain]at pd
  |ref _=>simp[plain]at pd
  |wW _=>simp[plain]at pd
  |HZ _=>simp[plain]at pd
  |exc _ _ _=>simp[plain]at pd
  |bg=>
   obtain rfl:=bQ.mp dx
   cases rx
   cases e with
   |bg=>obtain rfl:=bQ.mp dy;cases ry;simpa[dH]using SeqAt.EqAt.same (A:=A) (s:=s) Value.none
   |bl b=>obtain rfl:=aS.mp dy;cases ry;simpa[dH]using SeqAt.EqAt.none_bool (A:=A) (s:=s) b
   |int b=>obtain rfl:=aJ.mp dy;obtain⟨t,rfl⟩:=ry;simpa[dH]using SeqAt.EqAt.none_int (A:=A) (s:=s) b t
   |str b=>obtain rfl:=gg.mp dy;obtain⟨t,rfl⟩:=ry;simpa[dH]using SeqAt.EqAt.none_str (A:=A) (s:=s) b t
   |_=>simp[plain]at pe
  |bl a=>
   obtain rfl:=aS.mp dx
   cases rx
   cases e with
   |bg=>obtain rfl:=bQ.mp dy;cases ry;simpa[dH]using SeqAt.EqAt.bool_none (A:=A) (s:=s) a
   |bl b=>obtain rfl:=aS.mp dy;cases ry;simpa[dH]using SeqAt.EqAt.bool_bool (A:=A) (s:=s) a b
   |int b=>obtain rfl:=aJ.mp dy;obtain⟨t,rfl⟩:=ry;simpa[dH]using SeqAt.EqAt.bool_int (A:=A) (s:=s) a b t
   |str b=>obtain rfl:=gg.mp dy;obtain⟨t,rfl⟩:=ry;simpa[dH]using SeqAt.EqAt.bool_str (A:=A) (s:=s) a b t
   |_=>simp[plain]at pe
  |int a=>
   obtain rfl:=aJ.mp dx
   obtain⟨t',rfl⟩:=rx
   cases e with
   |bg=>obtain rfl:=bQ.mp dy;cases ry;simpa[dH]using SeqAt.EqAt.int_none (A:=A) (s:=s) a t'
   |bl b=>obtain rfl:=aS.mp dy;cases ry;simpa[dH]using SeqAt.EqAt.int_bool (A:=A) (s:=s) a t' b
   |int b=>obtain rfl:=aJ.mp dy;obtain⟨t,rfl⟩:=ry;simpa[dH]using SeqAt.EqAt.int_int (A:=A) (s:=s) a t' b t
   |str b=>obtain rfl:=gg.mp dy;obtain⟨t,rfl⟩:=ry;simpa[dH]using SeqAt.EqAt.int_str (A:=A) (s:=s) a t' b t
   |_=>simp[plain]at pe
  |str a=>
   obtain rfl:=gg.mp dx
   obtain⟨t',rfl⟩:=rx
   cases e with
   |bg=>obtain rfl:=bQ.mp dy;cases ry;simpa[dH]using SeqAt.EqAt.str_none (A:=A) (s:=s) a t'
   |bl b=>obtain rfl:=aS.mp dy;cases ry;simpa[dH]using SeqAt.EqAt.str_bool (A:=A) (s:=s) a t' b
   |int b=>obtain rfl:=aJ.mp dy;obtain⟨t,rfl⟩:=ry;simpa[dH]using SeqAt.EqAt.str_int (A:=A) (s:=s) a t' b t
   |str b=>obtain rfl:=gg.mp dy;obtain⟨t,rfl⟩:=ry;simpa[dH]using SeqAt.EqAt.str_str (A:=A) (s:=s) a t' b t
   |_=>simp[plain]at pe
 |succ n ih=>
  intro A d e x y u v hu pd pe dx dy rx ry
  have flat:∀(z:D),plain (n+1) z=true->(∀zs,z≠ .tup zs)->plain n z=true:=by
   intro z pz nz
   cases z with
   |tup zs=>exact absurd rfl (nz zs)
   |_=>first|(simp[plain];done)|(simp[plain]at pz;done)
  have hun:A.units<cLine:=by omega
  cases d with
  |tup ds=>
   obtain⟨a,xs,rfl,ha,hx⟩:=aM.mp dx
   obtain rfl:u=Value.ref a:=rx
   obtain⟨its,rv,pt,hz⟩:=di ok ha
   cases e with
   |tup es=>
    obtain⟨b,ys,rfl,hb,hy⟩:=aM.mp dy
    obtain rfl:v=Value.ref b:=ry
    obtain⟨its2,sU,Cj,hz2⟩:=di ok hb
    by_cases hab:a=b
    ·subst hab
     have:=Dat.inj (K:=K) (H:=H) (n+1) _ _ _ pd pe dx dy
     rw[<-this,j6 (n+1) _ pd]
     exact SeqAt.EqAt.same _
    ·refine SeqAt.EqAt.of_refs hab ?_
     have hl1:=hx.length.trans rv.length
     have hl2:=hy.length.trans sU.length
     have key:=SeqAt.RcAt.tuples (A:=A) (s:=s) (e:=λj=>dH (ds.getD j .bg) (es.getD j .bg)) pt Cj hun (λj h1 h2=>?_)
     ·rw[jm,gD]
      simp only[Xr,<-hl1,<-hl2]at key
      exact key
     ·simp only[Xr]at h1 h2
      have e1:ds[j]?=some (ds.getD j .bg):=by rw[XE,Xm (by omega)];rfl
      have e2:es[j]?=some (es.getD j .bg):=by rw[XE,Xm (by omega)];rfl
      obtain⟨x1,g1,g2⟩:=hx.get e1
      obtain⟨y1,g3,g4⟩:=hy.get e2
      obtain⟨u1,g5,g6⟩:=rv.get g1
      obtain⟨v1,g7,g8⟩:=sU.get g3
      have q1:its.toArray[j]=u1:=by
       have:its[j]=u1:=Option.some.inj ((Xm (by omega)).symm.trans g5)
       simpa using this
      have q2:its2.toArray[j]=v1:=by
       have:its2[j]=v1:=Option.some.inj ((Xm (by omega)).symm.trans g7)
       simpa using this
      rw[q1,q2]
      have Tw:ds.all (plain n)=true:=by simpa[plain]using pd
      have Tz:es.all (plain n)=true:=by simpa[plain]using pe
      exact ih A.in1 _ _ x1 y1 u1 v1 (by show A.units+1+n<cLine;omega) (p7 Tw e1) (p7 Tz e2) g2 g4 g6 g8
   |bg=>obtain rfl:=bQ.mp dy;cases ry;simpa[dH]using SeqAt.EqAt.tuple_none (A:=A) (s:=s) pt hun
   |bl b=>obtain rfl:=aS.mp dy;cases ry;simpa[dH]using SeqAt.EqAt.tuple_bool (A:=A) (s:=s) b pt hun
   |int b=>obtain rfl:=aJ.mp dy;obtain⟨t,rfl⟩:=ry;simpa[dH]using SeqAt.EqAt.tuple_int (A:=A) (s:=s) b t pt hun
   |str b=>obtain rfl:=gg.mp dy;obtain⟨t,rfl⟩:=ry;simpa[dH]using SeqAt.EqAt.tuple_str (A:=A) (s:=s) b t pt hun
   |_=>simp[plain]at pe
  |_=>
   first
   |(simp[plain]at pd;done)
   |(cases e with
    |tup es=>
     obtain⟨b,ys,rfl,hb,hy⟩:=aM.mp dy
     obtain rfl:v=Value.ref b:=ry
     obtain⟨its2,sU,Cj,hz2⟩:=di ok hb
     first
     |(obtain rfl:=bQ.mp dx;cases rx;simpa[dH]using SeqAt.EqAt.none_tuple (A:=A) (s:=s) Cj hun)
     |(obtain rfl:=aS.mp dx;cases rx;simpa[dH]using SeqAt.EqAt.bool_tuple (A:=A) (s:=s) _ Cj hun)
     |(obtain rfl:=aJ.mp dx;obtain⟨t,rfl⟩:=rx;simpa[dH]using SeqAt.EqAt.int_tuple (A:=A) (s:=s) _ t Cj hun)
     |(obtain rfl:=gg.mp dx;obtain⟨t,rfl⟩:=rx;simpa[dH]using SeqAt.EqAt.str_tuple (A:=A) (s:=s) _ t Cj hun)
    |_=>
     first
     |(simp[plain]at pe;done)
     |exact ih A _ _ x y u v (by omega) (flat _ pd (λ_ z=>by cases z)) (flat _ pe (λ_ z=>by cases z)) dx dy rx ry)
noncomputable def C5:D->D->Bool
 | .bg,.bg=>true| .bg,.int _=>true| .int _,.bg=>true| .bg,.bl _=>true| .bl _,.bg=>true| .bg,.str _=>true| .str _,.bg=>true
 | .int _,.int _=>true| .bl _,.bl _=>true| .str _,.str _=>true
 |_,_=>false
noncomputable def C6(d e:D):Bool:=match d,e with
 | .tup ds,.tup es=>plain 10 (.tup ds) && plain 10 (.tup es)
 |d,e=>C5 d e
noncomputable def P8:R3:=λd e M Q=>C6 d e=true/\Q (.bl (dH d e)) M
noncomputable def P9:R3:=λd e M Q=>C6 d e=true/\Q (.bl (!dH d e)) M
theorem C7{K:PySem.W.Frag}{d e:D}{x y:V}(h:C5 d e=true)(dx:Dat K H d x)(dy:Dat K H e y):Jr x y=true/\decide (x=y)=dH d e:=by
 cases d<;>cases e<;>first
  |(simp[C5]at h;done)
  |(simp only[Dat]at dx dy;subst dx;subst dy;refine⟨rfl,?_⟩;rw[Yk];simp[dH])
theorem mW{P:Program}{w:World}(ok:gY P w H s.heap){K:PySem.W.Frag}{A:Around}{ds es:List D}{xs ys:List V}{its its2:List Value}{n:Nat}(hu:A.units+n<cLine)(pd:ds.all (plain n)=true)(pe:es.all (plain n)=true)(hx:aB K H ds xs)(hy:aB K H es ys)(rv:Vals xs its)(sU:Vals ys its2) :
 ∀j (h1:j<its.toArray.size) (h2:j<its2.toArray.size),SeqAt.EqAt A s its.toArray[j] its2.toArray[j] (dH (ds.getD j .bg) (es.getD j .bg)):=by
 intro j h1 h2
 have hl1:=hx.length.trans rv.length
 have hl2:=hy.length.trans sU.length
 simp only[Xr]at h1 h2
 have e1:ds[j]?=some (ds.getD j .bg):=by rw[XE,Xm (by omega)];rfl
 have e2:es[j]?=some (es.getD j .bg):=by rw[XE,Xm (by omega)];rfl
 obtain⟨x1,g1,g2⟩:=hx.get e1
 obtain⟨y1,g3,g4⟩:=hy.get e2
 obtain⟨u1,g5,g6⟩:=rv.get g1
 obtain⟨v1,g7,g8⟩:=sU.get g3
 have q1:its.toArray[j]=u1:=by
  have:its[j]=u1:=Option.some.inj ((Xm (by omega)).symm.trans g5)
  simpa using this
 have q2:its2.toArray[j]=v1:=by
  have:its2[j]=v1:=Option.some.inj ((Xm (by omega)).symm.trans g7)
  simpa using this
 rw[q1,q2]
 exact C4 ok n A _ _ x1 y1 u1 v1 hu (p7 pd e1) (p7 pe e2) g2 g4 g6 g8
theorem mX(hu:X.A.units+64<cLine):lN X (compareOp .Eq) P8:=by
 constructor
 intro pins s σ H M x y d e v u Q I rm rx ry dx dy ⟨hk,q⟩
 by_cases ht:∃ds es,d= .tup ds/\e= .tup es
 ·obtain⟨ds,es,rfl,rfl⟩:=ht
  have hk:(plain 10 (.tup ds) && plain 10 (.tup es))=true:=hk
  rw[X3]at hk
  obtain⟨a,xs,rfl,ha,hx⟩:=aM.mp dx
  obtain⟨b,ys,rfl,hb,hy⟩:=aM.mp dy
  obtain rfl:v=Value.ref a:=rx
  obtain rfl:u=Value.ref b:=ry
  obtain⟨its,rv,pt,hz⟩:=di I.hok ha
  obtain⟨its2,sU,Cj,hz2⟩:=di I.hok hb
  have hl1:=hx.length.trans rv.length
  have hl2:=hy.length.trans sU.length
  refine SeqAt.RcAt.tuples (A:=X.A) (s:=s) (e:=λj=>dH (ds.getD j .bg) (es.getD j .bg)) pt Cj (by omega) (mW I.hok (n:=9) (by show X.A.units+1+9<cLine;omega) (by simpa[plain]using hk.1) (by simpa[plain]using hk.2) hx hy rv sU) _ _ _ _ ?_
  refine⟨.bl _,H,I,rfl,aC rm (aS.mpr rfl) ?_⟩
  simp only[Xr,<-hl1,<-hl2]
  rw[jm,gD]at q
  exact q
 ·have hs:C5 d e=true:=by
   unfold C6 at hk
   split at hk
   ·exact absurd ⟨_,_,rfl,rfl⟩ ht
   ·exact hk
  obtain⟨h1,h2⟩:=C7 hs dx dy
  exact Mb pins s σ H x y v u _ I rx ry ⟨h1,by rw[h2];exact aC rm (aS.mpr rfl) q⟩
theorem vg(hu:X.A.units+64<cLine):lN X (compareOp .NotEq) P9:=by
 constructor
 intro pins s σ H M x y d e v u Q I rm rx ry dx dy ⟨hk,q⟩
 by_cases ht:∃ds es,d= .tup ds/\e= .tup es
 ·obtain⟨ds,es,rfl,rfl⟩:=ht
  have hk:(plain 10 (.tup ds) && plain 10 (.tup es))=true:=hk
  rw[X3]at hk
  obtain⟨a,xs,rfl,ha,hx⟩:=aM.mp dx
  obtain⟨b,ys,rfl,hb,hy⟩:=aM.mp dy
  obtain rfl:v=Value.ref a:=rx
  obtain rfl:u=Value.ref b:=ry
  obtain⟨its,rv,pt,hz⟩:=di I.hok ha
  obtain⟨its2,sU,Cj,hz2⟩:=di I.hok hb
  have hl1:=hx.length.trans rv.length
  have hl2:=hy.length.trans sU.length
  refine SeqAt.RcNeAt.tuples (A:=X.A) (s:=s) (e:=λj=>dH (ds.getD j .bg) (es.getD j .bg)) pt Cj (by omega) (mW I.hok (n:=9) (by show X.A.units+1+9<cLine;omega) (by simpa[plain]using hk.1) (by simpa[plain]using hk.2) hx hy rv sU) _ _ _ _ ?_
  refine⟨.bl _,H,I,rfl,aC rm (aS.mpr rfl) ?_⟩
  simp only[Xr,<-hl1,<-hl2]
  rw[jm,gD]at q
  exact q
 ·have hs:C5 d e=true:=by
   unfold C6 at hk
   split at hk
   ·exact absurd ⟨_,_,rfl,rfl⟩ ht
   ·exact hk
  obtain⟨h1,h2⟩:=C7 hs dx dy
  exact Mc pins s σ H x y v u _ I rx ry ⟨h1,by rw[h2];exact aC rm (aS.mpr rfl) q⟩
noncomputable def OH(K:PySem.W.Frag)(H:Hp)(v:V):D:=open Classical in if h:∃d,plain 9 d=true/\Dat K H d v then h.choose else .bg
theorem JM{K:PySem.W.Frag}{d:D}{v:V}(p:plain 9 d=true)(h:Dat K H d v):OH K H v=d:=by
 have hx:∃d,plain 9 d=true/\Dat K H d v:=⟨d,p,h⟩
 unfold OH
 rw[dif_pos hx]
 exact Dat.inj 9 _ _ v hx.choose_spec.1 p hx.choose_spec.2 h
noncomputable def yu(K:PySem.W.Frag)(H:Hp)(d:D)(u:Value):Bool:=match LV u with
 |some v=>dH (OH K H v) d
 |none=>false
theorem C8{K:PySem.W.Frag}{d e:D}{v:V}{u:Value}(p:plain 9 e=true)(h:Dat K H e v)(r:RelV v u):yu K H d u=dH e d:=by
 unfold yu
 rw[r.abs]
 show dH (OH K H v) d=_
 rw[JM p h]
theorem mY{K:PySem.W.Frag}{d:D}:∀{es:List D} {xs:List V} {us:List Value},aB K H es xs->Vals xs us->es.all (plain 9)=true->us.any (yu K H d)=es.any λe=>dH e d
 |[],xs,us,h,r,_=>by rw[aF.mp h]at r;cases r;rfl
 |e::es,xs,us,h,r,p=>by
  obtain⟨v,vs,rfl,h1,h2⟩:=az.mp h
  cases r with
  |cons r rr=>
   rw[Zf,X3]at p
   rw[List.any_cons,List.any_cons,C8 p.1 h1 r,mY h2 rr p.2]
theorem mZ{P:Program}{w:World}(ok:gY P w H s.heap){K:PySem.W.Frag}{A:Around}{d:D}{x:V}{v:Value}(hu:A.units+9<cLine)(pd:plain 9 d=true)(dx:Dat K H d x)(rx:RelV x v) :
 ∀{es:List D} {xs:List V} {us:List Value},aB K H es xs->Vals xs us->es.all (plain 9)=true->∀u∈us,SeqAt.EqAt A s u v (yu K H d u)
 |[],xs,us,h,r,_,u,hm=>by rw[aF.mp h]at r;cases r;cases hm
 |e::es,xs,us,h,r,p,u,hm=>by
  obtain⟨y,ys,rfl,h1,h2⟩:=az.mp h
  cases r with
  |cons r rr=>
   rw[Zf,X3]at p
   rcases Xj.mp hm with rfl|hm
   ·rw[C8 p.1 h1 r]
    exact C4 ok 9 A _ _ _ _ _ _ hu p.1 pd h1 dx r rx
   ·exact mZ ok hu pd dx rx h2 rr p.2 u hm
noncomputable def inD(d:D)(es:List D):Bool:=es.any λe=>dH e d
noncomputable def MA(M:Mp)(e:D)(es:List D):Prop:=e= .tup es\/∃a,e= .ref a/\M a=some (.lst es)
noncomputable def MB(neg:Bool):R3:=λd e M Q=>∃es,MA M e es/\plain 9 d=true/\es.all (plain 9)=true/\Q (.bl (if neg then !inD d es else inD d es)) M
theorem Gb(hu:X.A.units+64<cLine):lN X (compareOp .In) (MB false):=by
 constructor
 intro pins s σ H M x y d e v u Q I rm rx ry dx dy ⟨es,hs,pd,pe,q⟩
 rcases hs with rfl|⟨a,rfl,hM⟩
 ·obtain⟨b,ys,rfl,hb,hy⟩:=aM.mp dy
  obtain rfl:u=Value.ref b:=ry
  obtain⟨its,rv,pt,hz⟩:=di I.hok hb
  refine SeqAt.in_tupleAt (yu X.K H d) pt (λw hw=>mZ I.hok (by show X.A.units+1+9<cLine;omega) pd dx rx hy rv pe w (by simpa using hw)) ⟨.bl _,H,I,rfl,aC rm (aS.mpr rfl) ?_⟩
  rw[show its.toArray.any (yu X.K H d)=its.any (yu X.K H d)by simp,mY hy rv pe]
  exact q
 ·obtain rfl:=aH.mp dy
  obtain rfl:u=Value.ref a:=ry
  obtain⟨ys,hb,hy⟩:=rm.lst hM
  obtain⟨its,rv,pl,hz⟩:=I.list (jj.of hb)
  refine SeqAt.in_listAt (yu X.K H d) pl.isList (λw hw=>mZ I.hok (by show X.A.units+1+9<cLine;omega) pd dx rx hy rv pe w (by simpa using hw)) ⟨.bl _,H,I,rfl,aC rm (aS.mpr rfl) ?_⟩
  rw[show its.toArray.any (yu X.K H d)=its.any (yu X.K H d)by simp,mY hy rv pe]
  exact q
theorem gZ(hu:X.A.units+64<cLine):lN X (compareOp .NotIn) (MB true):=by
 constructor
 intro pins s σ H M x y d e v u Q I rm rx ry dx dy ⟨es,hs,pd,pe,q⟩
 rcases hs with rfl|⟨a,rfl,hM⟩
 ·obtain⟨b,ys,rfl,hb,hy⟩:=aM.mp dy
  obtain rfl:u=Value.ref b:=ry
  obtain⟨its,rv,pt,hz⟩:=di I.hok hb
  refine SeqAt.notIn_tupleAt (yu X.K H d) pt (λw hw=>mZ I.hok (by show X.A.units+1+9<cLine;omega) pd dx rx hy rv pe w (by simpa using hw)) ⟨.bl _,H,I,rfl,aC rm (aS.mpr rfl) ?_⟩
  rw[show its.toArray.any (yu X.K H d)=its.any (yu X.K H d)by simp,mY hy rv pe]
  exact q
 ·obtain rfl:=aH.mp dy
  obtain rfl:u=Value.ref a:=ry
  obtain⟨ys,hb,hy⟩:=rm.lst hM
  obtain⟨its,rv,pl,hz⟩:=I.list (jj.of hb)
  refine SeqAt.notIn_listAt (yu X.K H d) pl.isList (λw hw=>mZ I.hok (by show X.A.units+1+9<cLine;omega) pd dx rx hy rv pe w (by simpa using hw)) ⟨.bl _,H,I,rfl,aC rm (aS.mpr rfl) ?_⟩
  rw[show its.toArray.any (yu X.K H d)=its.any (yu X.K H d)by simp,mY hy rv pe]
  exact q
theorem nV{K:PySem.W.Frag}:∀{ns:List Int} {xs:List V},aB K H (ns.map D.int) xs->xs=ns.map V.int
 |[],xs,h=>aF.mp h
 |n::ns,xs,h=>by
  obtain⟨v,vs,rfl,h1,h2⟩:=az.mp h
  rw[aJ.mp h1,nV h2];rfl
noncomputable def Mm:R3:=λd e M Q=>∃ns ms:List Int,d= .tup (ns.map D.int)/\e= .tup (ms.map D.int)/\Q (.bl (HT.lexLt ns ms)) M
theorem MC(hu:X.A.units+64<cLine):lN X (compareOp .Lt) Mm:=by
 constructor
 intro pins s σ H M x y d e v u Q I rm rx ry dx dy ⟨ns,ms,e1,e2,q⟩
 subst e1;subst e2
 obtain⟨a,xs,rfl,ha,hx⟩:=aM.mp dx
 obtain⟨b,ys,rfl,hb,hy⟩:=aM.mp dy
 obtain rfl:v=Value.ref a:=rx
 obtain rfl:u=Value.ref b:=ry
 obtain⟨its,rv,pt,hz⟩:=di I.hok ha
 obtain⟨its2,sU,Cj,hz2⟩:=di I.hok hb
 rw[nV hx]at rv
 rw[nV hy]at sU
 exact HT.l0 pt Cj (by simpa using intsAre_of rv) (by simpa using intsAre_of sU) (by omega) ⟨.bl _,H,I,rfl,aC rm (aS.mpr rfl) q⟩
noncomputable def Gd:R3:=λd e M Q=>∃i b,d= .int i/\e= .bl b/\Q (.bl true) M
theorem w5:lN X (compareOp .IsNot) Gd:=by
 constructor
 intro pins s σ H M x y d e v u Q I rm rx ry dx dy ⟨i,b,e1,e2,q⟩
 subst e1;subst e2
 obtain rfl:=aJ.mp dx
 obtain rfl:=aS.mp dy
 obtain⟨t,rfl⟩:=rx
 cases ry
 exact wpAny_isNot_other rfl (λz=>by cases z) ⟨.bl true,H,I,rfl,aC rm (aS.mpr rfl) q⟩
end
end L3
namespace L3
open PySem PySem.Spec PyProof.Rows L2
section
variable{X:Cx}{a b c e:Expr}{es:List Expr}{ta tb tc te:cG}{t:oS}{pos p:Pos}
noncomputable def ME:oS:=λ_ M Q=>Q [] M
noncomputable def JN(ta:cG)(tr:oS):oS:=λρ M Q=>ta ρ M λx M1=>tr ρ M1 λxs M2=>Q (x::xs) M2
theorem aj:wH X [] ME:=⟨λpos pins s σ H ρ M Q I r h=>ql pos pins s σ H _ I ⟨[],M,.refl _ _,aF.mpr rfl,r.mem,h⟩⟩
theorem aa(ha:bZ X e te)(hr:wH X es t)(hs:starEach (e::es) X.env=(false,eval e X.env)::starEach es X.env:=by rfl):wH X (e::es) (JN te t):=⟨λpos pins s σ H ρ M Q I r h=>
 mQ ha.dn hr.dn hs pos pins s σ H _ I (cJ r h λv H' d M' f dv r' q=>nU r' q λvs H2 ds M2 f2 Cg r2 q2=>
  ⟨d::ds,M2,f.trans f2,az.mpr ⟨v,vs,rfl,Dat.mono (f2.ext r'.mem) _ _ dv,Cg⟩,r2.mem,q2⟩)⟩
noncomputable def MF(t:oS):cG:=λρ M Q=>t ρ M λxs M1=>xs.length<=sizeLine/\Q (.tup xs) M1
noncomputable def MG(t:oS):cG:=λρ M Q=>t ρ M λxs M1=>xs.length<=sizeLine/\∀p,M1 p=none->Q (.ref p) (au M1 p (.lst xs))
theorem bA{x1}(h:wH X es t):bZ X (.Tuple es x1 pos) (MF t):=up (Jv h.dn) λσ H ρ M Q r q=>nU r q λvs H' ds M' f dv r' ⟨hl,q⟩=>
 ⟨by rw[<-dv.length];exact hl,λp hp=>⟨.tup ds,M',f.trans (Fr.new hp λ_ _=>rfl),aM.mpr ⟨p,vs,rfl,aY,aB.mono (Ext.new hp) _ _ dv⟩,r'.mem.new hp,q⟩⟩
theorem eF(h:wH X es t):bZ X (.List es pos) (MG t):=up (Jw h.dn) λσ H ρ M Q r q=>nU r q λvs H' ds M' f dv r' ⟨hl,q⟩=>
 ⟨by rw[<-dv.length];exact hl,λp hp=>⟨.ref p,au M' p (.lst ds),f.trans (Fr.new hp λ_ hb=>aT hb),aH.mpr rfl,r'.mem.newL hp dv,q p (r'.mem.free hp)⟩⟩
noncomputable def MH(M:Mp)(e:D)(es:List D):Prop:=e= .tup es\/e= .wW es\/∃a,e= .ref a/\M a=some (.lst es)
noncomputable def Qa:R3:=λd e M Q=>∃xs i z,MH M d xs/\e= .int i/\sL xs i=some z/\Q z M
theorem JO{α β:Type}{xs:List α}{ys:List β}(h:xs.length=ys.length){i:Int}{z:α}(e:sL xs i=some z):∃j,Ci ys.length i=some j/\xs[j]?=some z:=by
 unfold sL at e
 rw[h]at e
 cases q:Ci ys.length i with
 |none=>rw[q]at e;cases e
 |some j=>rw[q]at e;exact⟨j,rfl,e⟩
theorem qw{K:PySem.W.Frag}{H:Hp}{ds:List D}{xs:List V}(h:aB K H ds xs){i:Int}{z:D}(e:sL ds i=some z):∃v,sL xs i=some v/\Dat K H z v:=by
 obtain⟨j,h1,h2⟩:=JO h.length e
 obtain⟨v,h3,h4⟩:=h.get h2
 refine⟨v,?_,h4⟩
 unfold sL
 rw[h1]
 exact h3
theorem aG(ha:bZ X a ta)(hb:bZ X b tb)(hs:u5 b:=by intro _ _;rfl):bZ X (.Subscript a b pos) (CV Qa ta tb):=up (HX (FW.or JC) ha.dn hb.dn hs) λσ H ρ M Q r q=>
 cJ r q λv H' d M' f dv r' q=>cJ r' q λu H2 e M2 f2 du r2 ⟨xs,i,z,hq,ei,at',q⟩=>by
  subst ei
  obtain rfl:=aJ.mp du
  have MI:=Dat.mono (f2.ext r'.mem) _ _ dv
  have fin:∀w,Dat X.K H2 z w->Post X.K M H Q w H2:=λw dw=>⟨z,M2,f.trans f2,dw,r2.mem,q⟩
  rcases hq with rfl|rfl|⟨l,rfl,hl⟩
  ·obtain⟨p,ys,rfl,hp,hy⟩:=aM.mp MI
   obtain⟨w,h1,h2⟩:=qw hy at'
   exact .inr ⟨p,ys,i,w,rfl,rfl,nS.of hp,h1,fin w h2⟩
  ·obtain⟨p,ys,rfl,hp,hy⟩:=mS.mp MI
   obtain⟨w,h1,h2⟩:=qw hy at'
   exact .inl ⟨p,ys,i,w,rfl,rfl,hp.sq,h1,fin w h2⟩
  ·obtain rfl:=aH.mp MI
   obtain⟨ys,hp,hy⟩:=r2.mem.lst hl
   obtain⟨w,h1,h2⟩:=qw hy at'
   exact .inl ⟨l,ys,i,w,rfl,rfl,jj.of hp,h1,fin w h2⟩
structure Call3(X:Cx)(f:Value)(t:List D->Mp->DK->Prop):Prop where
 run:∀(pins:List (Addr ×Obj)) (s:Shared) (σ:St) (H:Hp) (M:Mp) (xs:List V) (ds:List D) (us:List Value) (Q:DK),Inv X pins σ H s->bB X.K H M->Vals xs us->aB X.K H ds xs->t ds M Q->
  wpAny (model X.prog X.w) X.A (call f us) (EP X pins σ (Post X.K M H Q)) X.xe s
theorem C9{f:Value}{r:List V->Hp->VK->Prop}{t:List D->Mp->DK->Prop}(h:zS X f r)(g:∀H M xs ds Q,bB X.K H M->aB X.K H ds xs->t ds M Q->r xs H (Post X.K M H Q)):Call3 X f t:=
 ⟨λpins s σ H M xs ds us Q I rm rs dx q=>h pins s σ H xs us _ I rs (g H M xs ds Q rm dx q)⟩
noncomputable def MJ(r:List D->Mp->DK->Prop)(t:oS):cG:=λρ M Q=>t ρ M λds M1=>r ds M1 Q
variable{x:Str}{id T:String}{r:List D->Mp->DK->Prop}
theorem bC(hc:Call3 X (.builtin id) r)(hg:Gl X x)(hm:X.mg x=none)(hv:bootBuiltins x=some (.builtin id))(ha:wH X (e::es) t)(hn:x≠"__name__" :=by decide)(hdb:(x==("__debug__" :Str))=false:=by decide)
 (he:starEach (e::es) X.env=(false,eval e X.env)::starEach es X.env:=by rfl)(hpl:(backTo pos (starEach es X.env)).any (·.1)=false:=by rfl):bZ X (.Call (.Name x p) (e::es) [] pos) (MJ r t):=by
 constructor
 intro pins s σ H ρ M Q I r h
 refine wpAny_Call_Name_kw (jY I hg hm hv ?_ hn hdb)
 refine PyProof.Rows.callWith_builtin1 (cu (ha.run pos pins s σ H ρ M _ I r h) λus s1 ⟨vs,H1,I1,r1,ds,M1,f1,d1,gX,q1⟩=>?_) he hpl
 exact cu (hc.run pins s1 σ H1 M1 vs ds us Q I1 gX r1 d1 q1) λ_ _ ⟨z,H3,I3,r3,p⟩=>⟨z,H3,I3,r3,p.back f1⟩
theorem uf(hc:Call3 X (.type T) r)(hg:Gl X x)(hm:X.mg x=none)(hv:bootBuiltins x=some (.type T))(ha:wH X (e::es) t)(hn:x≠"__name__" :=by decide)(hdb:(x==("__debug__" :Str))=false:=by decide)
 (he:starEach (e::es) X.env=(false,eval e X.env)::starEach es X.env:=by rfl)(hpl:(backTo pos (starEach es X.env)).any (·.1)=false:=by rfl):bZ X (.Call (.Name x p) (e::es) [] pos) (MJ r t):=by
 constructor
 intro pins s σ H ρ M Q I r h
 refine wpAny_Call_Name_kw (jY I hg hm hv ?_ hn hdb)
 refine PyProof.Rows.callWith_type1 (cu (ha.run pos pins s σ H ρ M _ I r h) λus s1 ⟨vs,H1,I1,r1,ds,M1,f1,d1,gX,q1⟩=>?_) he hpl
 exact cu (hc.run pins s1 σ H1 M1 vs ds us Q I1 gX r1 d1 q1) λ_ _ ⟨z,H3,I3,r3,p⟩=>⟨z,H3,I3,r3,p.back f1⟩
theorem oW{K:PySem.W.Frag}{H:Hp}{d:D}{xs:List V}(h:aB K H [d] xs):∃v,xs=[v]/\Dat K H d v:=by
 obtain⟨v,vs,rfl,h1,h2⟩:=az.mp h
 rw[aF.mp h2]
 exact⟨v,rfl,h1⟩
theorem w6{K:PySem.W.Frag}{H:Hp}{d e:D}{xs:List V}(h:aB K H [d,e] xs):∃v u,xs=[v,u]/\Dat K H d v/\Dat K H e u:=by
 obtain⟨v,vs,rfl,h1,h2⟩:=az.mp h
 obtain⟨u,rfl,h3⟩:=oW h2
 exact⟨v,u,rfl,h1,h3⟩
noncomputable def Qc:List D->Mp->DK->Prop:=λds M Q=>∃d xs,ds=[d]/\MH M d xs/\Q (.int xs.length) M
theorem i6:Call3 X (.builtin "len") Qc:=C9 u7 λH M xs ds Q rm dx ⟨d,ys,ei,hs,q⟩=>by
 subst ei
 obtain⟨v,rfl,hv⟩:=oW dx
 rcases hs with rfl|rfl|⟨l,rfl,hl⟩
 ·obtain⟨p,zs,rfl,hp,hz⟩:=aM.mp hv
  exact⟨p,zs,rfl,.inr (nS.of hp),aC rm (aJ.mpr (by rw[hz.length])) q⟩
 ·obtain⟨p,zs,rfl,hp,hz⟩:=mS.mp hv
  exact⟨p,zs,rfl,.inl hp.sq,aC rm (aJ.mpr (by rw[hz.length])) q⟩
 ·obtain rfl:=aH.mp hv
  obtain⟨zs,hp,hz⟩:=rm.lst hl
  exact⟨l,zs,rfl,.inl (jj.of hp),aC rm (aJ.mpr (by rw[hz.length])) q⟩
inductive Dc(M:Mp):D->String->Prop where
 |bg:Dc M .bg "NoneType"
 |bl (b:Bool):Dc M (.bl b) "bool"
 |int (i:Int):Dc M (.int i) "int"
 |str (x:Str):Dc M (.str x) "str"
 |tup (ds:List D):Dc M (.tup ds) "tuple"
 |lst {a:Addr} {ds:List D} (h:M a=some (.lst ds)):Dc M (.ref a) "list"
 |dct:Dc M (.HZ "dict") "dict"
noncomputable def Qd(K:PySem.W.Frag):List D->Mp->DK->Prop:=λds M Q=>∃d n m b,ds=[d,.ty m]/\Dc M d n/\PySem.W.kitOne K (.type n) (.type m)=some b/\Q (.bl b) M
theorem Ag:Call3 X (.builtin "isinstance") (Qd X.K):=by
 constructor
 intro pins s σ H M xs ds us Q I rm rs dx ⟨d,n,m,b,ei,ty,hk,q⟩
 subst ei
 obtain⟨v,u,rfl,hv,hu⟩:=w6 dx
 obtain rfl:=vc.mp hu
 obtain⟨v',u',rfl,r1,r2⟩:=vals2 rs
 obtain rfl:u'=Value.type m:=r2
 have fin:∀tk,EP X pins σ (Post X.K M H Q) (.bool b) {s with toks:=tk}:=λtk=>⟨.bl b,H,I.tok tk,rfl,aC rm (aS.mpr rfl) q⟩
 cases ty with
 |bg=>obtain rfl:=bQ.mp hv;exact gp I r1 .bg hk fin
 |bl k=>obtain rfl:=aS.mp hv;exact gp I r1 (.bl k) hk fin
 |int i=>obtain rfl:=aJ.mp hv;exact gp I r1 (.int i) hk fin
 |str z=>obtain rfl:=gg.mp hv;exact gp I r1 (.str z) hk fin
 |tup zs=>
  obtain⟨p,ys,rfl,hp,hy⟩:=aM.mp hv
  exact gp I r1 (.tup hp) hk fin
 |lst hM=>
  obtain rfl:=aH.mp hv
  obtain⟨ys,hp,hy⟩:=rm.lst hM
  exact gp I r1 (.lst hp) hk fin
 |dct=>
  obtain⟨p,o,u,rfl,hp,hc⟩:=Ae.mp hv
  cases(show v'=Value.ref p from r1)
  obtain⟨h1,_⟩:=(show bI X.prog X.w H s.heap p (.fO o u)from I.hok p _ hp)
  exact PySem.W.kia_one PySem.W.kitx_dict I.lF ⟨o,h1,hc⟩ hk (λz=>nomatch z) fin
noncomputable abbrev sV:=List D->(D->Prop)->Prop
noncomputable def qz(K:PySem.W.Frag)(S:sV):Sp:=λvs H Q _=>∃ds Q0,aB K H ds vs/\S ds Q0/\∀d v H',Q0 d->Dat K H' d v->(∀b o,H b=some o->H' b=some o)->Q v H'
noncomputable abbrev ug:=List D->Mp->DK->Prop
noncomputable def wI(K:PySem.W.Frag)(S:ug):Sp:=λvs H Q _=>∃ds M Q0,aB K H ds vs/\bB K H M/\S ds M Q0/\∀d M' v H',Q0 d M'->Dat K H' d v->bB K H' M'->Fr M H M' H'->Q v H'
theorem m5{K:PySem.W.Frag}{H:Hp}{ds:List D}{vs:List V}(h:aB K H ds vs):aB K H ds (vs++[]):=by simpa using h
theorem Ext.keep{H H':Hp}(h:∀b o,H b=some o->H' b=some o):Ext H H':=⟨λb _ e=>h b _ e,λb _ _ e=>h b _ e⟩
theorem bB.keep{K:PySem.W.Frag}{H H':Hp}{M:Mp}(r:bB K H M)(h:∀b o,H b=some o->H' b=some o):bB K H' M:=λa o e=>(r a o e).mono (Ext.keep h) λu q=>h _ _ q
variable{k:Nat}{f:Addr}{fd:FuncData}{ps:List Str}
noncomputable def Dd(S:sV)(t:oS):cG:=λρ M Q=>t ρ M λds M1=>S ds λd=>Q d M1
noncomputable def JP(S:ug)(t:oS):cG:=λρ M Q=>t ρ M λds M1=>S ds M1 Q
theorem aQ{S:sV}(F:bG X.prog X.w X.K X.mg X.base eL k f fd ps (qz X.K S))(hr:cY k X.A)(hg:Gl X x)(hm:X.mg x=some (.ref f))(hk:PySem.W.keepIn X.K (.ref f)=true)(hb:Binds X.K fd ps [])
 (ha:wH X (e::es) t)(hdb:(x==("__debug__" :Str))=false:=by decide)(he:starEach (e::es) X.env=(false,eval e X.env)::starEach es X.env:=by rfl)(hpl:(backTo pos (starEach es X.env)).any (·.1)=false:=by rfl) :
 bZ X (.Call (.Name x p) (e::es) [] pos) (Dd S t):=
 up (zW (Cg:=[]) (E:=E0) F hr hg hm hk hb .nil HY ha.dn hdb he hpl) λσ H ρ M Q r q=>nU r q λvs H' ds M' f dv r' q=>
  ⟨ds,_,m5 dv,q,λd v H2 q2 d2 kp=>⟨d,M',f.trans λb o n e=>⟨kp b o e,n⟩,d2,r'.mem.keep kp,q2⟩⟩
theorem bF{S:ug}(F:bG X.prog X.w X.K X.mg X.base eL k f fd ps (wI X.K S))(hr:cY k X.A)(hg:Gl X x)(hm:X.mg x=some (.ref f))(hk:PySem.W.keepIn X.K (.ref f)=true)(hb:Binds X.K fd ps [])
 (ha:wH X (e::es) t)(hdb:(x==("__debug__" :Str))=false:=by decide)(he:starEach (e::es) X.env=(false,eval e X.env)::starEach es X.env:=by rfl)(hpl:(backTo pos (starEach es X.env)).any (·.1)=false:=by rfl) :
 bZ X (.Call (.Name x p) (e::es) [] pos) (JP S t):=
 up (zW (Cg:=[]) (E:=E0) F hr hg hm hk hb .nil HY ha.dn hdb he hpl) λσ H ρ M Q r q=>nU r q λvs H' ds M' f dv r' q=>
  ⟨ds,M',_,m5 dv,r'.mem,q,λd M2 v H2 q2 d2 Ic f2=>⟨d,M2,f.trans f2,d2,Ic,q2⟩⟩
end
section
variable{X:Cx}{st:Stmt}{rest:List Stmt}{t u:iF}{e:Expr}{te:cG}{pos:Pos}
noncomputable def JQ:iF:=λD ρ M=>D.nx ρ M
noncomputable def MK(t u:iF):iF:=λD ρ M=>t {D with nx:=u D} ρ M
theorem nW{K:PySem.W.Frag}{M M1:Mp}{H H1:Hp}{D:yt}{pins:List (Addr ×Obj)}{f:Flow}{s:Shared}(fr:Fr M H M1 H1)(h:SP X pins (ends K M1 H1 D) f s):SP X pins (ends K M H D) f s:=by
 cases f with
 |next=>obtain⟨σ',H',I,p⟩:=h;exact⟨σ',H',I,fJ.back fr p⟩
 |brk=>obtain⟨σ',H',I,p⟩:=h;exact⟨σ',H',I,fJ.back fr p⟩
 |cont=>obtain⟨σ',H',I,p⟩:=h;exact⟨σ',H',I,fJ.back fr p⟩
 |ret w=>obtain⟨v,σ',H',I,rv,p⟩:=h;exact⟨v,σ',H',I,rv,Post.back fr p⟩
theorem vf.dn{st:Stmt}{t:iF}(h:vf X st t):PS X st (OF X.K t):=λpins s σ H D' I ⟨ρ,M,D,r,q,k1,k2,k3,k4⟩=>
 cu (h.run pins s σ H ρ M D I r q) λf s' z=>by
  cases f with
  |next=>obtain⟨σ',H',I',p⟩:=z;exact⟨σ',H',I',k1 _ _ p⟩
  |brk=>obtain⟨σ',H',I',p⟩:=z;exact⟨σ',H',I',k3 _ _ p⟩
  |cont=>obtain⟨σ',H',I',p⟩:=z;exact⟨σ',H',I',k4 _ _ p⟩
  |ret u=>obtain⟨v,σ',H',I',rv,p⟩:=z;exact⟨v,σ',H',I',rv,k2 _ _ p⟩
theorem JR{sts:List Stmt}{te:TS}{t:iF}(h:yD X sts te)(g:∀σ H ρ M D,Rep X.K H σ ρ M->t D ρ M->te (ends X.K M H D) σ H):iG X sts t:=
 ⟨λpins s σ H ρ M D I r q=>h pins s σ H _ I (g σ H ρ M D r q)⟩
theorem m6{K:PySem.W.Frag}{M0:Mp}{H0:Hp}{σ:St}{H:Hp}{ρ:En}{M:Mp}{D:yt}{t:iF}(f:Fr M0 H0 M H)(r:Rep K H σ ρ M)(q:t D ρ M):OF K t (ends K M0 H0 D) σ H:=
 ⟨ρ,M,D,r,q,λ_ _ p=>p.back f,λ_ _ p=>p.back f,λ_ _ p=>p.back f,λ_ _ p=>p.back f⟩
theorem bS:iG X [] JQ:=JR Fx λσ H ρ M D r q=>⟨ρ,M,.refl _ _,r,q⟩
theorem av(h1:vf X st t)(h2:iG X rest u):iG X (st::rest) (MK t u):=JR (CD h1.dn h2.dn) λσ H ρ M D r q=>
 ⟨ρ,M,_,r,q,λσ' H' ⟨ρ',M',f,r',q'⟩=>m6 f r' q',λ_ _ p=>p,λ_ _ p=>p,λ_ _ p=>p⟩
theorem aD(h1:vf X st t):iG X [st] t:=JR (zQ h1.dn) λσ H ρ M D r q=>m6 (.refl _ _) r q
noncomputable def JS(te:cG):iF:=λD ρ M=>te ρ M λ_ M1=>D.nx ρ M1
theorem qA(he:bZ X e te)(hs:swapsWith e none pos.line X.env=pure false:=by rfl):vf X (.Expr e pos) (JS te):=Ib (Fy he.dn hs) λσ H ρ M D r q=>cJ r q λv H' d M' f dv r' q=>⟨ρ,M',f,r',q⟩
noncomputable def ML(te:cG):iF:=λD ρ M=>te ρ M D.rt
theorem aN(he:bZ X e te):vf X (.Return (some e) pos) (ML te):=Ib (Jg he.dn) λσ H ρ M D r q=>⟨ρ,M,_,r,q,λ_ _ p=>p⟩
noncomputable def MM(c:k8)(t u:iF):iF:=λD ρ M=>c ρ M λb M1=>if b=true then t D ρ M1 else u D ρ M1
theorem dJ{c:Expr}{a b:List Stmt}{tc:k8}(hc:wX X c tc)(ha:iG X a t)(hb:iG X b u):vf X (.If c a b pos) (MM tc t u):=Ib (LY hc.dn ha.dn hb.dn) λσ H ρ M D r q=>qm r q λk H' M' f r' q=>by
 cases k with
 |true=>exact m6 f r' q
 |false=>exact m6 f r' q
noncomputable def Ge:iF:=λ_ _ _=>False
theorem Gf:vf X st Ge:=⟨λ_ _ _ _ _ _ _ _ _ h=>h.elim⟩
noncomputable def Ih(i:Nat)(te:cG):iF:=λD ρ M=>te ρ M λx M1=>D.nx (ρ.set i (some x)) M1
theorem aV{i:Nat}{x:Str}{pos':Pos}(hN:X.N.Nodup)(hi:X.N[i]?=some x)(hx:Loc X.env.scope x)(he:bZ X e te)(hs:swapsWith e (some (.Name x pos')) pos.line X.env=pure false:=by rfl)(hf:X.fn x=true\/X.env.scope.names.lookup x=some .local:=by first|exact .inl rfl|exact .inr rfl|assumption) :
 vf X (.Assign [.Name x pos'] e pos) (Ih i te):=Ib (Ji hN hi hx he.dn hs hf) λσ H ρ M D r q=>cJ r q λv H' d M' f dv r' q=>⟨ρ.set i (some d),M',f,r'.set dv,q⟩
noncomputable abbrev wJ:=D->En->Mp->(En->Mp->Prop)->Prop
noncomputable abbrev yN:=List D->En->Mp->(En->Mp->Prop)->Prop
structure Fg(X:Cx)(target:Expr)(t:wJ):Prop where
 run:∀(pins:List (Addr ×Obj)) (s:Shared) (σ:St) (H:Hp) (ρ:En) (M:Mp) (v:V) (d:D) (u:Value) (Q:En->Mp->Prop),Inv X pins σ H s->Rep X.K H σ ρ M->RelV v u->Dat X.K H d v->t d ρ M Q->
  wpAny (model X.prog X.w) X.A (assign target X.env u) (λ_ s'=>∃σ' H',Inv X pins σ' H' s'/\fJ X.K M H Q σ' H') X.xe s
structure Gg(X:Cx)(ts:List Expr)(t:yN):Prop where
 run:∀(pins:List (Addr ×Obj)) (s:Shared) (σ:St) (H:Hp) (ρ:En) (M:Mp) (vs:List V) (ds:List D) (us:List Value) (Q:En->Mp->Prop),Inv X pins σ H s->Rep X.K H σ ρ M->Vals vs us->aB X.K H ds vs->t ds ρ M Q->
  wpAny (model X.prog X.w) X.A (assignInOrder ((assignEach ts X.env).map (·.2)) us) (λ_ s'=>∃σ' H',Inv X pins σ' H' s'/\fJ X.K M H Q σ' H') X.xe s
noncomputable def JT(i:Nat):wJ:=λd ρ M Q=>Q (ρ.set i (some d)) M
theorem cW{i:Nat}{x:Str}(hN:X.N.Nodup)(hi:X.N[i]?=some x)(hx:Loc X.env.scope x)(hf:X.fn x=true\/X.env.scope.names.lookup x=some .local:=by first|exact .inl rfl|exact .inr rfl|assumption):Fg X (.Name x pos) (JT i):=
 ⟨λpins s σ H ρ M v d u Q I r rv dv q=>FD hN hi hx hf pins s σ H v u _ I rv ⟨ρ.set i (some d),M,.refl _ _,r.set dv,q⟩⟩
noncomputable def MN:yN:=λds ρ M Q=>ds=[]/\Q ρ M
noncomputable def JU(t:wJ)(u:yN):yN:=λds ρ M Q=>∃d r,ds=d::r/\t d ρ M λρ' M'=>u r ρ' M' Q
theorem De:Gg X [] MN:=by
 constructor
 intro pins s σ H ρ M vs ds us Q I r rv dv ⟨e1,q⟩
 subst e1
 rw[aF.mp dv]at rv
 cases rv
 exact assignInOrder_nil ⟨σ,H,I,ρ,M,.refl _ _,r,q⟩
theorem p8{e:Expr}{es:List Expr}{t:wJ}{u:yN}(h1:Fg X e t)(h2:Gg X es u)
 (hs:(assignEach (e::es) X.env).map (·.2)=assign e X.env::(assignEach es X.env).map (·.2):=by rfl):Gg X (e::es) (JU t u):=by
 constructor
 intro pins s σ H ρ M vs ds us Q I r rv dv ⟨d,dr,e1,q⟩
 subst e1
 obtain⟨v,vr,rfl,d1,d2⟩:=az.mp dv
 cases rv with
 |cons rv rr=>
  rw[hs]
  refine assignInOrder_cons (cu (h1.run pins s σ H ρ M v d _ _ I r rv d1 q) λ_ s1 ⟨σ1,H1,I1,ρ1,M1,f1,r1,q1⟩=>?_)
  exact cu (h2.run pins s1 σ1 H1 ρ1 M1 vr dr _ Q I1 r1 rr (aB.mono (f1.ext r.mem) _ _ d2) q1) λ_ s2 ⟨σ2,H2,I2,p⟩=>⟨σ2,H2,I2,p.back f1⟩
noncomputable def MP(n:Nat)(t:yN):wJ:=λd ρ M Q=>∃xs,MA M d xs/\xs.length=n/\t xs ρ M Q
theorem Bh{prog:Program}{w:World}{A:Around}{E:Value->Shared->Prop}{it l:Addr}{items:Array Value}:∀(n i:Nat) (s:Shared) (Q:List Value->Shared->Prop),s.heap.IsListIter it l i->it≠l->s.heap.IsList l items->i+n<=items.size->
 (∀h',h'.IsListIter it l (i+n)->Heap.SameBut it s.heap h'->Q ((items.toList.drop i).take n) {s with heap:=h'})->wpAny (model prog w) A (draw (.ref it) n) Q E s:=by
 intro n
 induction n with
 |zero=>
  intro i s Q hit _ hl hi hQ
  have:=hQ s.heap hit (.refl ..)
  rw[aaA]at this
  exact wpAny_pure this
 |succ n ih=>
  intro i s Q hit hne hl hi hQ
  have hlt:i<items.size:=by omega
  show wpAny _ _ (pyNext (.ref it) >>= _) Q E s
  refine wpAny_bind (wpAny_pyNext_list_item hit hl (x:=items[i]) (by simp[hlt]) λh₁ JV hs₁=>?_)
  refine wpAny_bind (wpAny_holding (ih (i+1) _ _ JV hne (hl.at λo e=>hs₁.extBut _ o (Ne.symm hne) e) (by omega) λh₂ Qe hs₂=>wpAny_pure ?_))
  have hd:items.toList.drop i=items[i]::items.toList.drop (i+1):=by simp[Zg,hlt]
  have:=hQ h₂ (by rw[show i+(n+1)=i+1+n by omega];exact Qe) (hs₁.trans hs₂)
  rw[hd,List.take_succ_cons]at this
  exact this
theorem nX{prog:Program}{w:World}{A:Around}{E:Value->Shared->Prop}{s:Shared}{t:Addr}{items:Array Value}{Q:List Value->Shared->Prop}(hh:A.handled=none)(ht:s.heap.IsList t items)
 (hQ:∀h',Heap.ExtBut s.heap.objs.size s.heap h'->Q items.toList {s with heap:=h'}):wpAny (model prog w) A (unpackItems (.ref t) items.size none) Q E s:=by
 have hlt:t≠s.heap.objs.size:=by obtain⟨o,ho,_⟩:=ht;exact XG (Heap.lt_size ho)
 unfold unpackItems
 refine wpAny_bind ?_
 ·unfold notIterableAtAll
  refine wpAny_bind (wpAny_specialOf ht.typeIs slot_list_iter.lookup ?_)
  refine wpAny_pure ?_
  simp only[Xs,if_false]
  refine wpAny_bind (wpAny_holding (wpAny_pyIter_list ht ?_))
  have ht0:(s.heap.push {cls:= .type "list_iterator",data:= .fields #[.ref t,rawInt 0]}).IsList t items:=by
   obtain⟨o,ho,c,n,d⟩:=id ht
   exact⟨o,Heap.get?_push_of_some _ ho,c,n,d⟩
  refine wpAny_bind (wpAny_holding (Bh items.size 0 _ _ ⟨_,Heap.get?_push_size _ rfl,rfl,rfl⟩ (Ne.symm hlt) ht0 (by omega) λh₁ JV hs₁=>?_))
  have hall:List.take items.size (List.drop 0 items.toList)=items.toList:=by
   rw[aab];exact Z2 (by simp)
  rw[hall]
  rw[if_neg (by simp)]
  have ht₁:h₁.IsList t items:=ht0.at λo e=>hs₁.extBut _ o hlt e
  refine wpAny_bind (wpAny_holding (wpAny_pyNext_list_end hh JV ht₁ (by simp) λh₂ MQ=>?_))
  simp only[Option.isSome_none,Xs,if_false]
  refine wpAny_pure (hQ h₂ λb o hb e=>MQ b o hb (hs₁.extBut b o hb (Heap.get?_push_of_some _ e)))
theorem Ii{es:List Expr}{k:Nat}{t:yN}{n:Nat}(hc:X.calm=true)(h:Gg X es t)
 (hn:(assignEach es X.env).length=n:=by rfl)(hst:(assignEach es X.env).findIdx? (·.1)=none:=by rfl):Fg X (.Tuple es k pos) (MP n t):=by
 constructor
 intro pins s σ H ρ M v d u Q I r rv dv ⟨xs,hq,hl,q⟩
 rcases hq with rfl|⟨a,rfl,hM⟩
 ·obtain⟨a,ys,rfl,ha,hy⟩:=aM.mp dv
  obtain rfl:u=Value.ref a:=rv
  obtain⟨its,MR,ht,hz⟩:=I.tuple (nS.of ha)
  refine assign_Tuple_tuple (I.ok.hd hc) ht (by simp[hn,<-hl,hy.length,MR.length]) hst λh' hx=>?_
  have I1:Inv X pins σ H {s with heap:=h'}:=I.kept (t':=s.toks) λb o e=>hx b o (XG (Heap.lt_size e)) e
  exact h.run pins _ σ H ρ M ys xs _ Q I1 r (by simpa using MR) hy q
 ·obtain rfl:=aH.mp dv
  obtain rfl:u=Value.ref a:=rv
  obtain⟨ys,ha,hy⟩:=r.mem.lst hM
  obtain⟨its,MR,ht,hz⟩:=I.list (jj.of ha)
  rw[assign_Tuple]
  refine wpAny_bind (wpAny_standAt ?_)
  unfold unpack
  have hsz:(assignEach es X.env).length=its.toArray.size:=by simp[hn,<-hl,hy.length,MR.length]
  rw[hsz,hst]
  refine wpAny_bind (wpAny_holding (nX (I.ok.hd hc) ht.isList λh' hx=>?_))
  have I1:Inv X pins σ H {s with heap:=h'}:=I.kept (t':=s.toks) λb o e=>hx b o (XG (Heap.lt_size e)) e
  exact h.run pins _ σ H ρ M ys xs _ Q I1 r (by simpa using MR) hy q
noncomputable def MS(te:cG)(g:wJ):iF:=λD ρ M=>te ρ M λx M1=>g x ρ M1 D.nx
theorem Df{tg e:Expr}{g:wJ}(he:bZ X e te)(hg:Fg X tg g)(hs:swapsWithSole [tg] e pos.line X.env=pure false:=by rfl)(hw:swappedStores [tg] e X.env=pure none:=by rfl)
 (h1:(assignEach [tg] X.env).map (·.2)=[assign tg X.env]:=by rfl):vf X (.Assign [tg] e pos) (MS te g):=by
 constructor
 intro pins s σ H ρ M D I r h
 refine wpAny_Assign_stores (cu (he.run pins s σ H ρ M _ I r h) λv s1 ⟨x,H1,I1,r1,d,M1,f1,d1,gX,q1⟩=>?_) hs hw
 rw[h1]
 exact cu (hg.run pins s1 σ H1 ρ M1 x d v _ I1 (r.go f1 gX) r1 d1 q1) λ_ s2 ⟨σ2,H2,I2,p⟩=>⟨σ2,H2,I2,p.back f1⟩
variable{o:Expr}{to:cG}{es:List Expr}{t3:oS}{apos:Pos}
@[irreducible] noncomputable def bD(p:Prop):Prop:=p
theorem bD.mk{p:Prop}(h:p):bD p:=by unfold bD;exact h
theorem bD.out{p:Prop}(h:bD p):p:=by unfold bD at h;exact h
noncomputable def Gh(c:k8)(tb:iF):iF:=λD ρ M=>∃W:Nat->En->Mp->Prop,(∃m,W m ρ M)/\∀m ρ M,W m ρ M->
 c ρ M λb M1=>if b=true then tb {D with nx:=λρ' M'=>bD (∃m',m'<m/\W m' ρ' M'),ct:=λρ' M'=>bD (∃m',m'<m/\W m' ρ' M'),bk:=D.nx} ρ M1 else D.nx ρ M1
theorem Gi{c:Expr}{body:List Stmt}{tc:k8}{tb:iF}(hp:PassesOwn (model X.prog X.w) X.A X.env X.xe)(hc:wX X c tc)(hb:iG X body tb):vf X (.While c body [] pos) (Gh tc tb):=Ib (CG hp hc.dn hb.dn) λσ H ρ M D r ⟨W,⟨m0,w0⟩,turn⟩=>by
 refine⟨λm σ' H'=>∃ρ' M',Fr M H M' H'/\Rep X.K H' σ' ρ' M'/\W m ρ' M',⟨m0,ρ,M,.refl _ _,r,w0⟩,?_⟩
 rintro m σ1 H1 ⟨ρ1,M1,f1,r1,w1⟩
 refine qm r1 (turn m ρ1 M1 w1) λk H2 M2 f2 r2 q=>?_
 cases k with
 |true=>
  refine⟨λσ' H'=>∃m',m'<m/\∃ρ' M',Fr M H M' H'/\Rep X.K H' σ' ρ' M'/\W m' ρ' M',λσ' H' z=>z,?_⟩
  have Bj:=f1.trans f2
  refine⟨ρ1,M2,_,r2,q,λσ' H' ⟨ρ',M',f,r',z⟩=>let ⟨m',hm,w'⟩:=z.out;⟨m',hm,ρ',M',Bj.trans f,r',w'⟩,λ_ _ p=>p.back Bj,λ_ _ p=>p.back Bj,λσ' H' ⟨ρ',M',f,r',z⟩=>let ⟨m',hm,w'⟩:=z.out;⟨m',hm,ρ',M',Bj.trans f,r',w'⟩⟩
 |false=>exact⟨ρ1,M2,f1.trans f2,r2,q⟩
noncomputable def runFor(gd:Mp->Prop)(g:wJ)(tb:iF)(D:yt):List L3.D->En->Mp->Prop
 |[],ρ,M=>gd M/\D.nx ρ M
 |x::xs,ρ,M=>gd M/\g x ρ M λρ2 M2=>tb {D with nx:=runFor gd g tb D xs,ct:=runFor gd g tb D xs,bk:=D.nx} ρ2 M2
structure Bk(K:PySem.W.Frag)(J:It)(inv:Hp->Prop)(ds:List L3.D):Prop where
 go:∀i H,i<ds.length->inv H->J.go i H
 FE:∀i H x H',i<ds.length->inv H->J.FE i H x H'->H'=H/\∃d,ds[i]?=some d/\Dat K H d x
 stop:∀H,inv H->J.stop ds.length H
theorem Fg.dn{tg:Expr}{g:wJ}(h:Fg X tg g):PG X tg (λv σ H Q=>∃ρ M d Q0,Rep X.K H σ ρ M/\Dat X.K H d v/\g d ρ M Q0/\∀σ' H',fJ X.K M H Q0 σ' H'->Q σ' H'):=
 λpins s σ H v u Q I rv ⟨ρ,M,d,Q0,r,dv,q,k⟩=>cu (h.run pins s σ H ρ M v d u Q0 I r rv dv q) λ_ _ ⟨σ',H',I',p⟩=>⟨σ',H',I',k _ _ p⟩
theorem qB{K:PySem.W.Frag}{J:It}{inv:Hp->Prop}{ds:List L3.D}{gd:Mp->Prop}{g:wJ}{tb:iF}{D:yt}{σ:St}{H H0:Hp}{ρ:En}{M M0:Mp}(hJ:Bk K J inv ds)
 (f0:Fr M0 H0 M H)(r:Rep K H σ ρ M)
 (stay:∀M1 H1,Fr M H M1 H1->bB K H1 M1->gd M1->inv H1)(q:runFor gd g tb D ds ρ M) :
 ∃W:Nat->Nat->St->Hp->Prop,(∃m,W 0 m σ H)/\∀i m σ H,W i m σ H->
  (J.stop i H/\(ends K M0 H0 D).nx σ H)\/(J.go i H/\∃N:St->Hp->Prop,(∀σ' H',N σ' H'->∃m',m'<m/\W (i+1) m' σ' H')/\∀x H',J.FE i H x H'->
    (∃ρ M d Q0,Rep K H' σ ρ M/\Dat K H' d x/\g d ρ M Q0/\∀σ2 H2,fJ K M H' Q0 σ2 H2->OF K tb { (ends K M0 H0 D)with nx:=N,ct:=N,bk:=(ends K M0 H0 D).nx} σ2 H2)):=by
 refine⟨λi m σ1 H1=>m=ds.length-i/\i<=ds.length/\∃ρ1 M1,Fr M H M1 H1/\Rep K H1 σ1 ρ1 M1/\runFor gd g tb D (ds.drop i) ρ1 M1,⟨ds.length,by simp,Yn _,ρ,M,.refl _ _,r,by simpa using q⟩,?_⟩
 rintro i m σ1 H1 ⟨rfl,hi,ρ1,M1,f1,r1,q1⟩
 by_cases hlt:i<ds.length
 ·have hdr:ds.drop i=ds[i]::ds.drop (i+1):=Zg hlt
  rw[hdr]at q1
  obtain⟨hg,q1⟩:=q1
  have RQ:=stay M1 H1 f1 r1.mem hg
  refine .inr ⟨hJ.go i H1 hlt RQ,λσ' H'=>∃ρ' M',Fr M H M' H'/\Rep K H' σ' ρ' M'/\runFor gd g tb D (ds.drop (i+1)) ρ' M',λσ' H' ⟨ρ',M',f',r',q'⟩=>⟨ds.length-(i+1),by omega,rfl,hlt,ρ',M',f',r',q'⟩,λx H' y=>?_⟩
  obtain⟨e,d,hd1,hd2⟩:=hJ.FE i H1 x H' hlt RQ y
  subst e
  have ed:d=ds[i]:=Option.some.inj (hd1.symm.trans (Xm hlt))
  subst ed
  refine⟨ρ1,M1,_,_,r1,hd2,q1,λσ2 H2 ⟨ρ2,M2,f2,r2,q2⟩=>?_⟩
  have Bj:=f1.trans f2
  have RS:=f0.trans Bj
  exact⟨ρ2,M2,_,r2,q2,λσ' H' ⟨ρ',M',f,r',z⟩=>⟨ρ',M',Bj.trans f,r',z⟩,λ_ _ p=>p.back RS,λ_ _ p=>p.back RS,λσ' H' ⟨ρ',M',f,r',z⟩=>⟨ρ',M',Bj.trans f,r',z⟩⟩
 ·have e:i=ds.length:=by omega
  subst e
  rw[Z3 (Xn _)]at q1
  obtain⟨hg,q1⟩:=q1
  exact .inl ⟨hJ.stop H1 (stay M1 H1 f1 r1.mem hg),ρ1,M1,f0.trans f1,r1,q1⟩
noncomputable def MT(te:cG)(g:wJ)(tb:iF):iF:=λD ρ M=>te ρ M λd M1=>∃xs,d= .tup xs/\runFor (λ_=>True) g tb D xs ρ M1
noncomputable def MU(te:cG)(g:wJ)(tb:iF):iF:=λD ρ M=>te ρ M λd M1=>∃a xs,d= .ref a/\M1 a=some (.lst xs)/\runFor (λM=>M a=some (.lst xs)) g tb D xs ρ M1
noncomputable def MV(t:oS)(g:wJ)(tb:iF):iF:=λD ρ M=>t ρ M λvs M1=>∃j:Int,vs=[.int j]/\ -(2 ^ 62)<=j/\j<2 ^ 62/\runFor (λ_=>True) g tb D ((List.range j.toNat).map λ(k:Nat)=>L3.D.int (k:Int)) ρ M1
variable{tg iter:Expr}{body:List Stmt}{g:wJ}{tb:iF}
theorem Dg{K:PySem.W.Frag}{a:Addr}{ds:List L3.D}:Bk K (Po K a) (λH=>∃vs,H a=some (.tup vs)/\aB K H ds vs) ds:=
 ⟨λi H hi ⟨vs,h,hd⟩=>⟨vs,vs[i]'(by rw[<-hd.length];exact hi),nS.of h,Xm _⟩,λi H x H' _ ⟨vs,h,hd⟩ y=>⟨y.1,hd.back (y.2 vs (nS.of h))⟩,λH ⟨vs,h,hd⟩=>⟨vs,nS.of h,by rw[hd.length];exact Xn _⟩⟩
theorem Dh{K:PySem.W.Frag}{a:Addr}{ds:List L3.D}:Bk K (Pn K a) (λH=>∃vs,H a=some (.lst vs)/\aB K H ds vs) ds:=
 ⟨λi H hi ⟨vs,h,hd⟩=>⟨vs,vs[i]'(by rw[<-hd.length];exact hi),jj.of h,Xm _⟩,λi H x H' _ ⟨vs,h,hd⟩ y=>⟨y.1,hd.back (y.2 vs (jj.of h))⟩,λH ⟨vs,h,hd⟩=>⟨vs,jj.of h,by rw[hd.length];exact Xn _⟩⟩
theorem JW{K:PySem.W.Frag}{n:Nat}:Bk K (OD 0 n) (λ_=>True) ((List.range n).map λ(k:Nat)=>L3.D.int (k:Int)):=
 ⟨λi H hi _=>by show i<n;simpa using hi,λi H x H' hi _ y=>⟨y.1,L3.D.int (i:Int),by
  have hi:i<n:=by simpa using hi
  simp[hi],aJ.mpr (by rw[y.2,aal])⟩,λH _=>by show n<=_;simp⟩
theorem JX(hp:PassesOwn (model X.prog X.w) X.A X.env X.xe)(hc:X.calm=true)(hi:bZ X iter te)(hg:Fg X tg g)(hb:iG X body tb)
 (hs:∀x,foldedSetIterable iter X.env x=pure x:=by intro _;rfl):vf X (.For tg iter body [] pos) (MT te g tb):=Ib (yH hp hc (CJ hi.dn) hg.dn hb.dn hs) λσ H ρ M D r q=>cJ r q λv H' d M' f dv r' ⟨xs,e1,q⟩=>by
 subst e1
 obtain⟨a,ys,rfl,ha,hy⟩:=aM.mp dv
 refine⟨a,rfl,⟨ys,nS.of ha⟩,qB Dg f r' (λM1 H1 f1 _ _=>⟨ys,?_,aB.mono (f1.ext r'.mem) _ _ hy⟩) q⟩
 exact(f1 a _ (r'.mem.vd ha (λ_ z=>by cases z)) ha).1
theorem nY(hp:PassesOwn (model X.prog X.w) X.A X.env X.xe)(hc:X.calm=true)(hi:bZ X iter te)(hg:Fg X tg g)(hb:iG X body tb)
 (hs:∀x,foldedSetIterable iter X.env x=pure x:=by intro _;rfl):vf X (.For tg iter body [] pos) (MU te g tb):=Ib (yH hp hc (zR hi.dn) hg.dn hb.dn hs) λσ H ρ M D r q=>cJ r q λv H' d M' f dv r' ⟨a,xs,e1,hM,q⟩=>by
 subst e1
 obtain rfl:=aH.mp dv
 obtain⟨ys,ha,hy⟩:=r'.mem.lst hM
 exact⟨a,rfl,⟨ys,jj.of ha⟩,qB Dh f r' (λM1 H1 f1 gX g1=>gX.lst g1) q⟩
theorem yP{a:Expr}{t:oS}{p rpos:Pos}(hp:PassesOwn (model X.prog X.w) X.A X.env X.xe)(hc:X.calm=true)(MW:Gl X "range")(hm:X.mg "range" =none)(ha:wH X [a] t)(hg:Fg X tg g)(hb:iG X body tb)
 (hst:starEach [a] X.env=[(false,eval a X.env)]:=by rfl)
 (hs:∀x,foldedSetIterable (.Call (.Name "range" p) [a] [] rpos) X.env x=pure x:=by intro _;rfl):vf X (.For tg (.Call (.Name "range" p) [a] [] rpos) body [] pos) (MV t g tb):=Ib (yH hp hc (Ba MW hm ha.dn hst) hg.dn hb.dn hs) λσ H ρ M D r q=>nU r q λvs H' ds M' f dv r' ⟨j,e1,h1,h2,q⟩=>by
 subst e1
 obtain⟨v,rfl,hv⟩:=oW dv
 obtain rfl:=aJ.mp hv
 exact⟨j,rfl,h1,h2,qB JW f r' (λ_ _ _ _ _=>trivial) q⟩
noncomputable def MX(to te:cG):cG:=λρ M Q=>to ρ M λd M1=>(∃l xs,d= .ref l/\M1 l=some (.lst xs))/\te ρ M1 λe M2=>∃l xs,d= .ref l/\M2 l=some (.lst xs)/\xs.length<sizeLine/\Q .bg (au M2 l (.lst (xs++[e])))
theorem Di{o e:Expr}{to te:cG}{apos:Pos}(ho:bZ X o to)(he:bZ X e te)(MY:PE X (.Call (.Attribute o "append" apos) [e] [] pos) (PL X.K "list" Aa (dn X.K to) (CM (dn X.K te) Ju))):bZ X (.Call (.Attribute o "append" apos) [e] [] pos) (MX to te):=
 up MY λσ H ρ M Q r q=>cJ r q λv H' d M' f dv r' ⟨⟨l,xs,e1,hM⟩,q⟩=>by
  subst e1
  obtain rfl:=aH.mp dv
  obtain⟨ys,ha,hy⟩:=r'.mem.lst hM
  refine⟨.inl ⟨rfl,_,jj.of ha⟩,cJ r' q λu H2 d2 M2 f2 du r2 ⟨l',xs',e2,Ij,hlt,q2⟩=>?_⟩
  injection e2 with e2
  subst e2
  obtain⟨zs,hb,hz⟩:=r2.mem.lst Ij
  refine⟨l,zs,u,rfl,rfl,hb,by rw[<-hz.length];exact hlt,.bg,_,(f.trans f2).trans (Fr.write (K:=X.K) Ij),bQ.mpr rfl,r2.mem.j4 hb (hz.append (aB.one du)),q2⟩
end
section
variable{P:Program}{w:World}{K:PySem.W.Frag}{mg:Str->Option Value}{base:Heap}
noncomputable def jn(N:List Str)(ds:List D):En:=ds.map some++List.replicate (N.length-ds.length) none
theorem k9{H:Hp}{N:List Str}{ds:List D}{vs:List V}{M:Mp}(h:aB K H ds vs)(rm:bB K H M):Rep K H (L2.start N vs) (jn N ds) M:=by
 have hl:=h.length
 refine⟨λi d e=>?_,by unfold L2.start jn;simp[hl],rm⟩
 unfold jn at e
 by_cases hi:i<ds.length
 ·rw[YY (by simpa using hi),XT]at e
  cases q:ds[i]? with
  |none=>rw[q]at e;cases e
  |some d'=>
   rw[q]at e
   cases e
   obtain⟨v,h1,h2⟩:=h.get q
   refine⟨v,?_,h2⟩
   unfold L2.start
   rw[YY (by simp;omega),XT,h1]
   rfl
 ·rw[YT (by simpa using hi),ZX]at e
  split at e<;>cases e
theorem Ah{x qual:Str}{st:Stmt}{f:Addr}{fd:FuncData}{N ps:List Str}{k:Nat}{S:sV}(F:iV K x qual st f fd)(Sc:aE N ps (ak st))(len:∀ds Q,S ds Q->ds.length=ps.length)
 (hbody:∀(cdv:Value) (A:Around) (outer:List Env) (s:Shared) (H:Hp),cY k (A.deeper (envOfC qual (ak st) s.heap.objs.size f cdv))->
  ∃t,iG (gW eL P w K mg base N qual (ak st) f cdv A outer s H E0).yE (c8 st) t/\∀ds Q,S ds Q->t {nx:=λ_ _=>Q .bg,rt:=λd _=>Q d} (jn N ds) JH) :
 bG P w K mg base eL (k+1) f fd ps (qz K S):=by
 refine F.ok Sc (λvs H Q E h=>?_) (λcdv A outer s H vs Q E hr h=>?_)
 ·obtain⟨ds,Q0,h1,h2,_⟩:=h
  rw[<-h1.length,len ds Q0 h2]
 ·obtain⟨ds,Q0,h1,h2,h3⟩:=h
  obtain⟨t,ht,hq⟩:=hbody cdv A outer s H hr
  have hE:(gW eL P w K mg base N qual (ak st) f cdv A outer s H E).yE=(gW eL P w K mg base N qual (ak st) f cdv A outer s H E0).yE:=rfl
  refine⟨_,iG.dn (by rw[hE];exact ht),jn N ds,JH,_,k9 h1 bB.no,hq ds Q0 h2,λσ' H' ⟨ρ',M',f',r',q⟩=>?_,λv H' ⟨d,M',f',dv,rm,q⟩=>?_,λ_ _ ⟨_,_,_,_,z⟩=>z.elim,λ_ _ ⟨_,_,_,_,z⟩=>z.elim⟩
  ·exact h3 .bg .bg H' q (bQ.mpr rfl) λb o e=>(f' b o rfl e).1
  ·exact h3 d v H' q dv λb o e=>(f' b o rfl e).1
theorem yv{x qual:Str}{st:Stmt}{f:Addr}{fd:FuncData}{N ps:List Str}{k:Nat}{S:ug}(F:iV K x qual st f fd)(Sc:aE N ps (ak st))(len:∀ds M Q,S ds M Q->ds.length=ps.length)
 (hbody:∀(cdv:Value) (A:Around) (outer:List Env) (s:Shared) (H:Hp),cY k (A.deeper (envOfC qual (ak st) s.heap.objs.size f cdv))->
  ∃t,iG (gW eL P w K mg base N qual (ak st) f cdv A outer s H E0).yE (c8 st) t/\∀ds M Q,S ds M Q->t {nx:=λ_ M'=>bD (∃M0,Le M0 M'/\Q .bg M0),rt:=λd M'=>bD (∃M0,Le M0 M'/\Q d M0)} (jn N ds) M) :
 bG P w K mg base eL (k+1) f fd ps (wI K S):=by
 refine F.ok Sc (λvs H Q E h=>?_) (λcdv A outer s H vs Q E hr h=>?_)
 ·obtain⟨ds,M,Q0,h1,_,h2,_⟩:=h
  rw[<-h1.length,len ds M Q0 h2]
 ·obtain⟨ds,M,Q0,h1,rm,h2,h3⟩:=h
  obtain⟨t,ht,hq⟩:=hbody cdv A outer s H hr
  have hE:(gW eL P w K mg base N qual (ak st) f cdv A outer s H E).yE=(gW eL P w K mg base N qual (ak st) f cdv A outer s H E0).yE:=rfl
  refine⟨_,iG.dn (by rw[hE];exact ht),jn N ds,M,_,k9 h1 rm,hq ds M Q0 h2,λσ' H' ⟨ρ',M',f',r',z⟩=>?_,λv H' ⟨d,M',f',dv,Qf,z⟩=>?_,λ_ _ ⟨_,_,_,_,z⟩=>z.elim,λ_ _ ⟨_,_,_,_,z⟩=>z.elim⟩
  ·obtain⟨M0,l,q⟩:=z.out
   exact h3 .bg M0 .bg H' q (bQ.mpr rfl) (r'.mem.le l) (f'.le l)
  ·obtain⟨M0,l,q⟩:=z.out
   exact h3 d M0 v H' q dv (Qf.le l) (f'.le l)
end
end L3
namespace L3
open PySem PySem.Spec PyProof.Rows L2
section
variable{X:Cx}
noncomputable def intsOf:List D->Option (List Int)
 |[]=>some []
 | .int i::ds=>(intsOf ds).map (i:: ·)
 |_::_=>none
theorem l6:∀{ds:List D} {ns:List Int},intsOf ds=some ns->ds=ns.map D.int
 |[],ns,h=>by cases h;rfl
 | .int i::ds,ns,h=>by
   have h:(intsOf ds).map (i:: ·)=some ns:=h
   cases q:intsOf ds with
   |none=>rw[q]at h;cases h
   |some ms=>
    rw[q]at h
    have h:i::ms=ns:=Option.some.inj h
    subst h
    rw[l6 q];rfl
 | .bg::_,ns,h=>by cases h
 | .bl _::_,ns,h=>by cases h
 | .str _::_,ns,h=>by cases h
 | .ty _::_,ns,h=>by cases h
 | .ref _::_,ns,h=>by cases h
 | .tup _::_,ns,h=>by cases h
 | .wW _::_,ns,h=>by cases h
 | .HZ _::_,ns,h=>by cases h
 | .exc _ _ _::_,ns,h=>by cases h
noncomputable def RT:D->D->Option Bool
 | .int i,.int j=>some (decide (i<j))
 | .tup ds,.tup es=>match intsOf ds,intsOf es with
   |some ns,some ms=>some (HT.lexLt ns ms)
   |_,_=>none
 |_,_=>none
noncomputable def Qg:R3:=λd e M Q=>∃b,RT d e=some b/\Q (.bl b) M
theorem Dj(hu:X.A.units+64<cLine):lN X (compareOp .Lt) Qg:=by
 constructor
 intro pins s σ H M x y d e v u Q I rm rx ry dx dy ⟨b,hb,q⟩
 unfold RT at hb
 split at hb
 ·rename_i i j
  have hb:=Option.some.inj hb
  subst hb
  exact P6.run pins s σ H M x y _ _ v u Q I rm rx ry dx dy ⟨i,j,rfl,rfl,q⟩
 ·rename_i ds es
  split at hb
  ·rename_i ns ms h1 h2
   have hb:=Option.some.inj hb
   subst hb
   exact(MC hu).run pins s σ H M x y _ _ v u Q I rm rx ry dx dy ⟨ns,ms,by rw[l6 h1],by rw[l6 h2],q⟩
  ·cases hb
 ·cases hb
theorem bL:bootBuiltins "len" =some (.builtin "len"):=by decide +kernel
theorem uh:bootBuiltins "min" =some (.builtin "min"):=by decide +kernel
theorem um:bootBuiltins "max" =some (.builtin "max"):=by decide +kernel
theorem bT:bootBuiltins "sorted" =some (.builtin "sorted"):=by decide +kernel
theorem aK:bootBuiltins "isinstance" =some (.builtin "isinstance"):=by decide +kernel
theorem cK:bootBuiltins "list" =some (.type "list"):=by decide +kernel
theorem Bl:bootBuiltins "int" =some (.type "int"):=by decide +kernel
theorem j7:bootBuiltins "tuple" =some (.type "tuple"):=by decide +kernel
theorem nZ:bootBuiltins "ValueError" =some (.type "ValueError"):=by decide +kernel
end
theorem qC{m n:Nat}(h:m<=n):2 ^ m<=2 ^ n:=Nat.pow_le_pow_right (by decide) h
theorem Sm.le{m n:Nat}{i:Int}(h:Sm m i)(l:m<=n):Sm n i:=Xp h (qC l)
theorem Sm.JY{n:Nat}{i j:Int}(h:Sm n j)(l:i.natAbs<=j.natAbs):Sm n i:=Nat.lt_of_le_of_lt l h
theorem Sm.add{m n:Nat}{i j:Int}(h1:Sm m i)(h2:Sm n j):Sm (max m n+1) (i+j):=by
 have a:=Xp h1 (qC (Nat.le_max_left m n))
 have b:=Xp h2 (qC (Nat.le_max_right m n))
 show(i+j).natAbs<2 ^ (max m n+1)
 rw[Nat.pow_succ]
 have:=Int.natAbs_add_le i j
 omega
theorem Sm.neg{n:Nat}{i:Int}(h:Sm n i):Sm n (-i):=by
 show(-i).natAbs<_
 rw[Int.natAbs_neg];exact h
theorem Sm.sub{m n:Nat}{i j:Int}(h1:Sm m i)(h2:Sm n j):Sm (max m n+1) (i-j):=by
 rw[Int.sub_eq_add_neg];exact h1.add h2.neg
theorem Sm.mul{m n:Nat}{i j:Int}(h1:Sm m i)(h2:Sm n j):Sm (m+n) (i*j):=by
 show(i*j).natAbs<2 ^ (m+n)
 rw[Int.natAbs_mul,Nat.pow_add]
 exact Nat.mul_lt_mul'' h1 h2
theorem Sm.emod{n:Nat}{i j:Int}(hj:0<j)(h:Sm n j):Sm n (i % j):=by
 have h1:=YX i (show j≠0 by omega)
 have h2:=YK i hj
 exact h.JY (by omega)
noncomputable instance{n:Nat}{i:Int}:Decidable (Sm n i):=inferInstanceAs (Decidable (_<_))
theorem Sm.sign(i:Int):Sm 1 i.sign:=by
 rcases YZ i 0 with h|h|h
 ·rw[Yg h];decide
 ·subst h;decide
 ·rw[Yy h];decide
theorem MulOk.of{m n:Nat}{i j:Int}(h1:Sm m i)(h2:Sm n j)(h:m+n<=100000):MulOk i j:=⟨m,n,h1,h2,h⟩
theorem Sm.lit(i:Int):Sm (i.natAbs.log2+1) i:=Nat.lt_log2_self
theorem Sm.two:Sm 2 2:=by decide
theorem Sm.one:Sm 1 1:=by decide
theorem m7{K:PySem.W.Frag}{n:String}:PySem.W.kitOne K (.type n) (.type n)=some true:=by simp[PySem.W.kitOne]
structure Pl where
 x:Int
 y:Int
 deriving DecidableEq
noncomputable def Pl.d(p:Pl):D:= .tup [.int p.x,.int p.y]
noncomputable def Pl.Ok(n:Nat)(p:Pl):Prop:=Sm n p.x/\Sm n p.y
theorem qD(p q:Pl):dH p.d q.d=decide (p=q):=by
 unfold Pl.d
 rw[jm,iZ,iZ,w4,gi,gi,Yk]
 cases p;cases q
 simp
end L3
namespace L3
open PySem L2
theorem uo{K:PySem.W.Frag}{H:Hp}:∀(ns:List Int),aB K H (ns.map D.int) (ns.map V.int)
 |[]=>aF.mpr rfl
 |n::ns=>az.mpr ⟨_,_,rfl,aJ.mpr rfl,uo ns⟩
end L3
namespace L3
theorem qE{gd:Mp->Prop}{g:wJ}{tb:iF}{D:yt}{ρ:En}{M:Mp}(Pv:Nat->En->Mp->Prop):∀(xs:List L3.D),
 (∀(i:Nat) (x:L3.D) (ρ:En) (M:Mp) (N:En->Mp->Prop),xs[i]?=some x->Pv i ρ M->(∀ρ' M',Pv (i+1) ρ' M'->N ρ' M')->gd M/\g x ρ M λρ2 M2=>tb {D with nx:=N,ct:=N,bk:=D.nx} ρ2 M2)->
 (∀ρ M,Pv xs.length ρ M->gd M/\D.nx ρ M)->Pv 0 ρ M->runFor gd g tb D xs ρ M:=by
 intro xs hs hd h0
 have key:∀(ys:List L3.D) (i:Nat) (ρ:En) (M:Mp),xs.drop i=ys->Pv i ρ M->i<=xs.length->runFor gd g tb D ys ρ M:=by
  intro ys
  induction ys with
  |nil=>
   intro i ρ M e p hi
   have:xs.length<=i:=by
    have:=congrArg List.length e
    rw[Yq]at this
    simp at this
    omega
   have:i=xs.length:=by omega
   subst this
   exact hd ρ M p
  |cons y ys ih=>
   intro i ρ M e p hi
   have hx:xs[i]?=some y:=by
    have:=congrArg (λl=>l[0]?) e
    simpa using this
   have hlt:i<xs.length:=(XH.mp hx).1
   refine hs i y ρ M _ hx p λρ' M' p'=>ih (i+1) ρ' M' ?_ p' hlt
   rw[<-aaB,e]
   rfl
 exact key xs 0 ρ M rfl h0 (Yn _)
theorem n8{n i:Nat}{x:L3.D}(h:((List.range n).map λ(k:Nat)=>L3.D.int (k:Int))[i]?=some x):i<n/\x= .int (i:Int):=by
 rw[XT]at h
 by_cases hi:i<n
 ·rw[List.getElem?_range hi]at h
  exact⟨hi,(Option.some.inj h).symm⟩
 ·rw[YC (by simp;omega)]at h
  cases h
end L3
namespace L3
noncomputable def frac(a b:Int):Pl:=⟨a.fdiv ((Int.gcd a b:Int)*b.sign),b.fdiv ((Int.gcd a b:Int)*b.sign)⟩
noncomputable def low(a b:Int):Pl:=⟨a / (Int.gcd a b:Int),b / (Int.gcd a b:Int)⟩
end L3
local macro_rules| `(tactic|walk_at "sm")=> `(tactic|first|assumption|exact L3.Sm.sign _|exact L3.Sm.zero|exact L3.Sm.one|exact L3.Sm.two|((with_reducible apply L3.Sm.mul)<;>walk_at "sm")|((with_reducible apply L3.Sm.sub)<;>walk_at "sm")|((with_reducible apply L3.Sm.add)<;>walk_at "sm")|((with_reducible apply L3.Sm.neg)<;>walk_at "sm")|((with_reducible apply L3.Sm.abs)<;>walk_at "sm")|((with_reducible apply L3.Sm.emod);(first|omega|decide +kernel);walk_at "sm")|exact L3.Sm.lit _)
local macro_rules| `(tactic|walk_at "smle")=> `(tactic|(apply L3.Sm.le;walk_at "sm";first|omega|decide +kernel))
namespace L3
@[irreducible] noncomputable def TF(p f g:Pl):Int:=(p.x*f.y-f.x)*g.y*((p.x*f.y-f.x)*g.y)+(p.y*g.y-g.x)*f.y*((p.y*g.y-g.x)*f.y)
@[irreducible] noncomputable def sq(p f g:Pl):Pl:=frac (TF p f g) (f.y*g.y*(f.y*g.y))
end L3
namespace L3
@[irreducible] noncomputable def tw(a b c:Pl):Int:=(b.x-a.x)*(c.y-a.y)-(b.y-a.y)*(c.x-a.x)
theorem qF(a b c:Pl):tw b c a=tw a b c:=by unfold tw;grind
theorem Ai(a b c:Pl):tw b a c= -tw a b c:=by unfold tw;grind
theorem j8(a b c:Pl):tw a c b= -tw a b c:=by unfold tw;grind
theorem qG(a b:Pl):tw a a b=0:=by unfold tw;grind
theorem w9(a b:Pl):tw a b b=0:=by unfold tw;grind
theorem qH(a b:Pl):tw a b a=0:=by unfold tw;grind
noncomputable def aU(p q:Pl):Prop:=p.x<q.x\/(p.x=q.x/\p.y<q.y)
noncomputable instance(p q:Pl):Decidable (aU p q):=inferInstanceAs (Decidable (_\/_))
theorem cz(p:Pl):¬aU p p:=by unfold aU;omega
theorem cP{p q r:Pl}(a:aU p q)(b:aU q r):aU p r:=by unfold aU at *;omega
theorem bx{p q:Pl}(a:aU p q):¬aU q p:=by unfold aU at *;omega
theorem dM(p q:Pl):aU p q\/p=q\/aU q p:=by
 unfold aU
 by_cases h:p=q
 ·exact .inr (.inl h)
 ·have:¬(p.x=q.x/\p.y=q.y):=λ⟨a,b⟩=>h (by cases p;cases q;simp only at a b;rw[a,b])
  omega
theorem n9{p q:Pl}(a:aU p q):p≠q:=λe=>cz q (e▸a)
noncomputable def lo(p q:Pl):Pl:=if aU q p then q else p
noncomputable def hi(p q:Pl):Pl:=if aU p q then q else p
@[irreducible] noncomputable def Qh(p q:Pl):Int:=(q.x-p.x)*(q.x-p.x)+(q.y-p.y)*(q.y-p.y)
@[irreducible] noncomputable def dep(a b c d:Pl):Int:=Qh d a*tw d b c+Qh d b*tw d c a+Qh d c*tw d a b
@[irreducible] noncomputable def rg(a b c d:Pl):Int:=(tw a b c).sign*(dep a b c d).sign
end L3
namespace L3
noncomputable def Qi(a b c d:Pl):Prop:=rg a b c d=1\/(rg a b c d=0/\d≠a/\d≠b/\d≠c/\((aU d a/\aU d b/\aU d c)\/(aU a b/\aU a c/\aU a d/\(tw b c d).sign≠(tw b c a).sign)\/(aU b a/\aU b c/\aU b d/\(tw c a d).sign≠(tw c a b).sign)\/(aU c a/\aU c b/\aU c d/\(tw a b d).sign≠(tw a b c).sign)))
noncomputable instance(a b c d:Pl):Decidable (Qi a b c d):=inferInstanceAs (Decidable (_\/_))
noncomputable def TH(p q r s:Pl):Prop:=(0<tw p q r/\tw p q s<0)\/(tw p q r<0/\0<tw p q s)
noncomputable def dt(a b x:Pl):Int:=(x.x-a.x)*(x.x-b.x)+(x.y-a.y)*(x.y-b.y)
theorem l7{p q:Pl}(h:p≠q):aU p q\/aU q p:=by
 rcases dM p q with z|z|z
 ·exact .inl z
 ·exact absurd z h
 ·exact .inr z
end L3
namespace L3
end L3
namespace L3
end L3
namespace L3
open PySem PySem.Spec PyProof.Rows
section
variable{P:Program}{w:World}{A:Around}{E:Value->Shared->Prop}{s:Shared}{κ:KeyKind}{kd:SortKind}{z:Array Keyed}{t:SortSt}
structure Ask(P:Program)(w:World)(A:Around)(s:Shared)(κ:KeyKind)(kd:SortKind):Prop where
 lt:∀(E:Value->Shared->Prop) (x y:Value) (a b:κ.α) (R:Bool->Shared->Prop),κ.keyOf x=some a->κ.keyOf y=some b->R (κ.blt a b) s->wpAny (model P w) A (keyLt' kd x y) R E s
structure Mid(kd:SortKind)(z:Array Keyed)(t:SortSt):Prop where
 pm:(arrOf t).Perm z
 kd:kindOf t=kd
 ok:failedOf t=none
 no:pendingOf t= #[]
theorem Mid.sz(m:Mid kd z t):(arrOf t).size=z.size:=m.pm.size_eq
theorem Mid.put(m:Mid kd z t){y:Array Keyed}(h:y.Perm (arrOf t)):Mid kd z (setArr t y):=⟨h.trans m.pm,m.kd,m.ok,m.no⟩
theorem Mid.key(m:Mid kd z t)(hk:KeysOf κ z){i:Nat}(hi:i<z.size):∃x q,(arrOf t)[i]?=some (x,q)/\κ.keyOf x=some (KK κ (arrOf t) i):=by
 have hlt:i<(arrOf t).size:=m.sz▸hi
 have e:(arrOf t)[i]?=some (arrOf t)[i]:=getElem?_pos _ i hlt
 obtain⟨a,ha⟩:=hk (arrOf t)[i] ((Array.perm_iff_toList_perm.mp m.pm).mem_iff.mp (by simp))
 refine⟨(arrOf t)[i].1,(arrOf t)[i].2,e,?_⟩
 have ek:KK κ (arrOf t) i=a:=by unfold KK;rw[e];simp only[ha,Option.getD_some]
 rw[ek];exact ha
theorem qI(hA:Ask P w A s κ kd)(m:Mid kd z t)(hk:KeysOf κ z){i j:Nat}(hi:i<z.size)(hj:j<z.size){R:Option Bool->SortSt->Prop}
 (h:R (some (κ.blt (KK κ (arrOf t) i) (KK κ (arrOf t) j))) t):wpS (model P w) A E s (ltAt' i j) R t:=by
 obtain⟨x,p,e1,k1⟩:=m.key hk hi
 obtain⟨y,q,e2,k2⟩:=m.key hk hj
 rw[ltAt'_eq]
 apply wpS_bind;apply wpS_get
 show wpS (model P w) A E s (elem' (arrOf t) i >>= λu=>elem' (arrOf t) j >>= λv=>lt' u v) R t
 rw[elem'_eq,elem'_eq,e1,e2]
 apply wpS_bind;apply wpS_pure
 apply wpS_bind;apply wpS_pure
 rw[lt'_eq]
 apply wpS_bind;apply wpS_get
 rw[m.kd]
 refine wpS_bind (wpS_lift (wpAny_attempt (hA.lt _ x y _ _ _ k1 k2 ⟨rfl,wpS_pure h⟩)))
theorem rise{y:Array Keyed}{n:Nat}(h:SortedToK κ y n)(hl:1<=n)(hn:κ.kle (KK κ y (n-1)) (KK κ y n)):SortedToK κ y (n+1):=by
 intro i j hij hj
 rcases Zm j n with c|c
 ·exact h i j hij c
 ·obtain rfl:j=n:=by omega
  rcases Zm i j with d|d
  ·exact KeyOrd.kle_trans (h i (j-1) (by omega) (by omega)) hn
  ·obtain rfl:i=j:=by omega
   exact KeyOrd.kle_refl _
theorem Gj{y:Array Keyed}{n:Nat}(h:NonIncK κ y n)(hl:1<=n)(hn:κ.kle (KK κ y n) (KK κ y (n-1))):NonIncK κ y (n+1):=by
 intro i j hij hj
 rcases Zm j n with c|c
 ·exact h i j hij c
 ·obtain rfl:j=n:=by omega
  rcases Zm i j with d|d
  ·exact KeyOrd.kle_trans hn (h i (j-1) (by omega) (by omega))
  ·obtain rfl:i=j:=by omega
   exact KeyOrd.kle_refl _
theorem one_up(y:Array Keyed):SortedToK κ y 1:=by
 intro i j hij hj
 obtain rfl:i=j:=by omega
 exact KeyOrd.kle_refl _
theorem JZ(y:Array Keyed):NonIncK κ y 1:=by
 intro i j hij hj
 obtain rfl:i=j:=by omega
 exact KeyOrd.kle_refl _
theorem Aj(hA:Ask P w A s κ kd)(hk:KeysOf κ z)(m:Mid kd z t){a e:Nat}(he:e<=z.size)(h1:1<=a)(Qj:a<=e)(up:SortedToK κ (arrOf t) a){R:AscSt->SortSt->Prop}
 (h:∀n,a<=n->n<=e->SortedToK κ (arrOf t) n->(n<e->κ.klt (KK κ (arrOf t) n) (KK κ (arrOf t) (n-1)))->R (none,n) t):wpS (model P w) A E s (ascLoop a e) R t:=by
 unfold ascLoop
 refine wpS_forRange (I:=λi b u=>b=(none,i)/\u=t/\SortedToK κ (arrOf t) i) (λi b u hi1 hi2 hI=>?_) (λb u hI=>?_) ⟨rfl,rfl,up⟩
 ·obtain⟨rfl,rfl,hup⟩:=hI
  apply wpS_bind
  apply qI hA m hk (by show i<z.size;omega) (by show i-1<z.size;omega)
  show wpS (model P w) A E s (if κ.blt (KK κ (arrOf u) i) (KK κ (arrOf u) (i-1))=true then _ else _) _ u
  cases c:κ.blt (KK κ (arrOf u) i) (KK κ (arrOf u) (i-1))with
  |true=>rw[if_pos rfl];exact wpS_pure (h i hi1 (by omega) hup λ_=>c)
  |false=>rw[if_neg Xv];exact wpS_pure ⟨rfl,rfl,rise hup (by omega) c⟩
 ·obtain⟨rfl,rfl,hup⟩:=hI
  have em:max a e=e:=by omega
  rw[em]at hup ⊢
  exact h e Qj (Xn e) hup λc=>absurd c (Ys e)
theorem xg(hA:Ask P w A s κ kd)(hk:KeysOf κ z)(m:Mid kd z t){n e:Nat}(he:e<=z.size)(h1:1<=n)(hne:n<=e)(dn:NonIncK κ (arrOf t) n){R:Option Nat->SortSt->Prop}
 (h:∀i u,Mid kd z u->1<=i->i<=e->SortedToK κ (arrOf u) i->R (some i) u):wpS (model P w) A E s (tail3 n e) R t:=by
 have hz:n<=(arrOf t).size:=by have:=m.sz;omega
 have m2:=m.put (mirror_perm (arrOf t) 0 n ((n-0) / 2))
 unfold tail3
 apply wpS_bind
 apply wpS_reverse
 apply wpS_bind
 refine Aj hA hk m2 he h1 hne (λi j hij hj=>?_) λi h2 h3 up _=>wpS_pure (h i _ m2 (by omega) h3 up)
 show κ.kle (KK κ (mirror (arrOf t) 0 n ((n-0) / 2)) i) (KK κ (mirror (arrOf t) 0 n ((n-0) / 2)) j)
 rw[KK_mirror hz i,KK_mirror hz j,if_pos ⟨Yn i,by omega⟩,if_pos ⟨Yn j,hj⟩]
 exact dn _ _ (by omega) (by omega)
noncomputable def Dk(κ:KeyKind)(y:Array Keyed)(n q:Nat):Prop:=q+1<=n/\∀i,n-(q+1)<=i->i<n->KK κ y i=KK κ y (n-1)
theorem Dm{y:Array Keyed}{n:Nat}(h:1<=n):Dk κ y n 0:=by
 refine⟨by omega,λi h1 h2=>?_⟩
 obtain rfl:i=n-1:=by omega
 rfl
theorem Dn(hA:Ask P w A s κ kd)(hk:KeysOf κ z)(m:Mid kd z t){a e:Nat}(he:e<=z.size)(h1:1<=a)(Qj:a<=e)(dn:NonIncK κ (arrOf t) a){R:DescSt->SortSt->Prop}
 (h:∀n q u,Mid kd z u->a<=n->n<=e->NonIncK κ (arrOf u) n->Dk κ (arrOf u) n q->R (none,n,q) u):wpS (model P w) A E s (descLoop a e) R t:=by
 unfold descLoop
 refine wpS_forRange (I:=λi b u=>Mid kd z u/\NonIncK κ (arrOf u) i/\∃q,Dk κ (arrOf u) i q/\b=(none,i,q)) (λi b u hi1 hi2 hI=>?_) (λb u hI=>?_) ⟨m,dn,0,Dm h1,rfl⟩
 ·obtain⟨mu,hd,q,hq,rfl⟩:=hI
  have hz:i<=(arrOf u).size:=by have:=mu.sz;omega
  apply wpS_bind
  apply qI hA mu hk (by show i<z.size;omega) (by show i-1<z.size;omega)
  show wpS (model P w) A E s (if κ.blt (KK κ (arrOf u) i) (KK κ (arrOf u) (i-1))=true then _ else _) _ u
  cases c:κ.blt (KK κ (arrOf u) i) (KK κ (arrOf u) (i-1))with
  |true=>
   rw[if_pos rfl]
   have lower:NonIncK κ (arrOf u) (i+1):=Gj hd (by omega) (KeyOrd.kle_of_klt c)
   show wpS (model P w) A E s (if q>0 then _ else _) _ u
   by_cases d:q>0
   ·rw[if_pos d]
    apply wpS_bind
    apply wpS_reverse
    have same:=KK_mirror_equal (κ:=κ) hz hq.2
    refine wpS_pure ⟨mu.put (mirror_perm _ _ _ _),λx y hxy hy=>?_,0,Dm (by omega),rfl⟩
    show κ.kle (KK κ (mirror (arrOf u) (i-(q+1)) i _) y) (KK κ (mirror (arrOf u) (i-(q+1)) i _) x)
    rw[same,same]
    exact lower x y hxy hy
   ·rw[if_neg d]
    exact wpS_pure ⟨mu,lower,0,Dm (by omega),rfl⟩
  |false=>
   rw[if_neg Xv]
   apply wpS_bind
   apply qI hA mu hk (by show i-1<z.size;omega) (by show i<z.size;omega)
   show wpS (model P w) A E s (if κ.blt (KK κ (arrOf u) (i-1)) (KK κ (arrOf u) i)=true then _ else _) _ u
   cases d:κ.blt (KK κ (arrOf u) (i-1)) (KK κ (arrOf u) i)with
   |true=>rw[if_pos rfl];exact wpS_pure (h i q u mu hi1 (by omega) hd hq)
   |false=>
    rw[if_neg Xv]
    have alike:KK κ (arrOf u) i=KK κ (arrOf u) (i-1):=κ.total _ _ c d
    refine wpS_pure ⟨mu,Gj hd (by omega) d,q+1,⟨by have:=hq.1;omega,λx h2 h3=>?_⟩,rfl⟩
    rw[Nat.add_sub_cancel]
    rcases Zm x i with g|g
    ·rw[alike];exact hq.2 x (by omega) g
    ·obtain rfl:x=i:=by omega
     rfl
 ·obtain⟨mu,hd,q,hq,rfl⟩:=hI
  have em:max a e=e:=by omega
  rw[em]at hd hq ⊢
  exact h e q u mu Qj (Xn e) hd hq
theorem xh(hA:Ask P w A s κ kd)(hk:KeysOf κ z)(m:Mid kd z t){n e:Nat}(he:e<=z.size)(hne:n+1<=e)(dn:NonIncK κ (arrOf t) (n+1)){R:Option Nat->SortSt->Prop}
 (h:∀i u,Mid kd z u->1<=i->i<=e->SortedToK κ (arrOf u) i->R (some i) u):wpS (model P w) A E s (descPart n e) R t:=by
 unfold descPart
 apply wpS_bind
 refine wpS_lift (wpAny_rule ⟨rfl,?_⟩)
 apply wpS_bind
 refine Dn hA hk m he (by omega) hne dn λi q u mu h2 h3 hd hq=>?_
 have hz:i<=(arrOf u).size:=by have:=mu.sz;omega
 show wpS (model P w) A E s (if q>0 then _ else _) R u
 by_cases d:q>0
 ·rw[if_pos d]
  apply wpS_bind
  apply wpS_reverse
  have same:=KK_mirror_equal (κ:=κ) hz hq.2
  refine xg hA hk (mu.put (mirror_perm _ _ _ _)) he (by omega) h3 (λx y hxy hy=>?_) h
  show κ.kle (KK κ (mirror (arrOf u) (i-(q+1)) i _) y) (KK κ (mirror (arrOf u) (i-(q+1)) i _) x)
  rw[same,same]
  exact hd x y hxy hy
 ·rw[if_neg d]
  exact xg hA hk mu he (by omega) h3 hd h
theorem Bm(hA:Ask P w A s κ kd)(hk:KeysOf κ z)(m:Mid kd z t){e:Nat}(he:e<=z.size)(h1:1<=e){R:Option Nat->SortSt->Prop}
 (h:∀i u,Mid kd z u->1<=i->i<=e->SortedToK κ (arrOf u) i->R (some i) u):wpS (model P w) A E s (countRun' 0 e) R t:=by
 rw[countRun0_eq]
 apply wpS_bind
 refine Aj hA hk m he (Xn 1) h1 (one_up _) λn h2 h3 up stop=>?_
 show wpS (model P w) A E s (if(n==e)=true then _ else _) R t
 by_cases c:n=e
 ·rw[if_pos (beq_iff_eq.mpr c)]
  exact wpS_pure (h n t m h2 h3 up)
 ·rw[if_neg λq=>c (beq_iff_eq.mp q)]
  have less:=stop (by omega)
  by_cases d:n>1
  ·rw[if_pos d]
   apply wpS_bind
   apply qI hA m hk (by omega) (by show n-1<z.size;omega)
   show wpS (model P w) A E s (if κ.blt (KK κ (arrOf t) 0) (KK κ (arrOf t) (n-1))=true then _ else _) R t
   cases g:κ.blt (KK κ (arrOf t) 0) (KK κ (arrOf t) (n-1))with
   |true=>rw[if_pos rfl];exact wpS_pure (h n t m h2 h3 up)
   |false=>
    rw[if_neg Xv]
    have hz:n<=(arrOf t).size:=by have:=m.sz;omega
    have one:∀i,i<n->KK κ (arrOf t) i=KK κ (arrOf t) (n-1):=λi hi=>
     KeyOrd.kle_antisymm (up i (n-1) (by omega) (by omega)) (KeyOrd.kle_trans (show κ.kle (KK κ (arrOf t) (n-1)) (KK κ (arrOf t) 0)from g) (up 0 i (Yn i) hi))
    have same:=KK_mirror_equal (κ:=κ) hz (λi (_:0<=i) hi=>one i hi)
    apply wpS_bind
    apply wpS_reverse
    refine xh hA hk (m.put (mirror_perm _ _ _ _)) he (by omega) (Gj (λx y hxy hy=>?_) (by omega) ?_) h
    ·show κ.kle (KK κ (mirror (arrOf t) 0 n _) y) (KK κ (mirror (arrOf t) 0 n _) x)
     rw[same,same,one x (by omega),one y hy]
     exact KeyOrd.kle_refl _
    ·show κ.kle (KK κ (mirror (arrOf t) 0 n _) n) (KK κ (mirror (arrOf t) 0 n _) (n-1))
     rw[same,same]
     exact KeyOrd.kle_of_klt less
  ·rw[if_neg d]
   obtain rfl:n=1:=by omega
   exact xh hA hk m he (by omega) (Gj (JZ _) (Xn 1) (KeyOrd.kle_of_klt less)) h
structure Cut(κ:KeyKind)(y:Array Keyed)(k l r:Nat):Prop where
 lr:l<=r
 rk:r<=k
 lo:∀i,i<l->κ.kle (KK κ y i) (KK κ y k)
 hi:∀i,r<=i->i<k->κ.klt (KK κ y k) (KK κ y i)
theorem Cut.put{y:Array Keyed}{k l:Nat}(c:Cut κ y k l l)(hk:k<y.size)(up:SortedToK κ y k):SortedToK κ (bubble y k (k-l)) (k+1):=by
 have hl:=c.rk
 have at':∀i,KK κ (bubble y k (k-l)) i=if i=l then KK κ y k else if l<i/\i<=k then KK κ y (i-1)else KK κ y i:=λi=>by
  have:=KK_bubble (κ:=κ) hk (Nat.sub_le k l) i
  have e:k-(k-l)=l:=by omega
  rw[e]at this
  exact this
 intro i j hij hj
 rw[at' i,at' j]
 by_cases i1:i=l
 ·rw[if_pos i1]
  by_cases j1:j=l
  ·rw[if_pos j1];exact KeyOrd.kle_refl _
  ·rw[if_neg j1,if_pos ⟨by omega,by omega⟩]
   exact KeyOrd.kle_of_klt (c.hi _ (by omega) (by omega))
 ·rw[if_neg i1]
  by_cases i2:l<i/\i<=k
  ·rw[if_pos i2,if_neg (by omega),if_pos ⟨by omega,by omega⟩]
   exact up _ _ (by omega) (by omega)
  ·rw[if_neg i2]
   by_cases j1:j=l
   ·rw[if_pos j1];exact c.lo i (by omega)
   ·rw[if_neg j1]
    by_cases j2:l<j/\j<=k
    ·rw[if_pos j2];exact up _ _ (by omega) (by omega)
    ·rw[if_neg j2];exact up _ _ hij (by omega)
theorem Gk(hA:Ask P w A s κ kd)(hk:KeysOf κ z)(m:Mid kd z t){n o:Nat}(hn:n<=z.size)(ho:o<=n)(up:SortedToK κ (arrOf t) o){R:Bool->SortSt->Prop}
 (h:∀u,Mid kd z u->SortedToK κ (arrOf u) n->R true u):wpS (model P w) A E s (binarySort' 0 n o) R t:=by
 rw[binarySort'_eq]
 simp only[Nat.zero_add]
 apply wpS_bind
 refine wpS_mono (wpS_forRange (I:=λk b u=>b=(none,())/\Mid kd z u/\(k<=n->SortedToK κ (arrOf u) k)/\(n<k->SortedToK κ (arrOf u) n)) (Q:=λb u=>b=(none,())/\Mid kd z u/\SortedToK κ (arrOf u) n)
  (λk b u hk1 hk2 hI=>?_) (λb u hI=>?_) ⟨rfl,m,λc=>?_,λc=>?_⟩) λb u hI=>?_
 ·obtain⟨rfl,mu,up1,_⟩:=hI
  have Qk:=up1 (by omega)
  apply wpS_bind
  refine wpS_mono (wpS_forRange (I:=λx b v=>v=u/\∃l r,b=(none,l,r)/\Cut κ (arrOf u) k l r/\r-l<=k-x) (Q:=λb v=>v=u/\∃l,b=(none,l,l)/\Cut κ (arrOf u) k l l)
   (λx b v _ hx hI=>?_) (λb v hI=>?_) ⟨rfl,0,k,rfl,⟨Yn k,Xn k,λi hi=>absurd hi (Z4 i),λi h2 h3=>absurd h3 (YW.mpr h2)⟩,Xn _⟩) λb v hI=>?_
  ·obtain⟨rfl,l,r,rfl,c,hw⟩:=hI
   show wpS (model P w) A E s (if l>=r then _ else _) _ v
   by_cases d:l>=r
   ·rw[if_pos d]
    obtain rfl:l=r:=Nat.le_antisymm c.lr d
    exact wpS_pure ⟨rfl,l,rfl,c⟩
   ·rw[if_neg d]
    have hrk:=c.rk
    apply wpS_bind
    apply qI hA mu hk (by show k<z.size;omega) (by show(l+r) / 2<z.size;omega)
    show wpS (model P w) A E s (if κ.blt (KK κ (arrOf v) k) (KK κ (arrOf v) ((l+r) / 2))=true then _ else _) _ v
    cases g:κ.blt (KK κ (arrOf v) k) (KK κ (arrOf v) ((l+r) / 2))with
    |true=>
     rw[if_pos rfl]
     exact wpS_pure ⟨rfl,l,(l+r) / 2,rfl,⟨by omega,by omega,c.lo,λi h2 h3=>KeyOrd.klt_of_klt_of_kle g (Qk _ i h2 h3)⟩,by omega⟩
    |false=>
     rw[if_neg Xv]
     exact wpS_pure ⟨rfl,(l+r) / 2+1,r,rfl,⟨by omega,by omega,λi h2=>KeyOrd.kle_trans (Qk i _ (by omega) (by omega)) g,c.hi⟩,by omega⟩
  ·obtain⟨rfl,l,r,rfl,c,hw⟩:=hI
   have e:max 0 k=k:=by omega
   rw[e]at hw
   obtain rfl:l=r:=by have:=c.lr;omega
   exact⟨rfl,l,rfl,c⟩
  ·obtain⟨rfl,l,rfl,c⟩:=hI
   show wpS (model P w) A E s (moveDown' k l >>= λ_=>pure (ForInStep.yield (none,()))) _ v
   rw[moveDown'_eq]
   apply wpS_bind
   apply wpS_modify
   have hz:k<(arrOf v).size:=by have:=mu.sz;omega
   exact wpS_pure ⟨rfl,mu.put (bubble_perm _ _ _),λ_=>c.put hz Qk,λq=>by omega⟩
 ·obtain⟨rfl,mu,up1,TJ⟩:=hI
  refine⟨rfl,mu,?_⟩
  rcases Zm n (max (max o 1) n)with c|c
  ·exact TJ c
  ·have e:max (max o 1) n=n:=by omega
   rw[e]at up1
   exact up1 (Xn n)
 ·rcases aaj o with q|q
  ·have e:max o 1=1:=by omega
   rw[e];exact one_up _
  ·have e:max o 1=o:=by omega
   rw[e];exact up
 ·have e:n=0:=by omega
  subst e
  exact λi j _ hj=>absurd hj (Z4 j)
 ·obtain⟨rfl,mu,up'⟩:=hI
  exact wpS_pure (h u mu up')
structure Bo(κ:KeyKind)(z:Array Keyed)(t:SortSt):Prop where
 pm:(arrOf t).Perm z
 ok:failedOf t=none
 one:pendingOf t= #[(0,z.size,0)]
 up:SortedToK κ (arrOf t) z.size
theorem Mid.fin(m:Mid kd z t)(up:SortedToK κ (arrOf t) z.size):Bo κ z (setPending t ((pendingOf t).push (0,z.size,0))):=
 ⟨m.pm,m.ok,by show(pendingOf t).push (0,z.size,0)= #[(0,z.size,0)];rw[m.no];rfl,up⟩
theorem Gm(hA:Ask P w A s κ kd)(hk:KeysOf κ z)(m:Mid kd z t)(h2:2<=z.size)(h64:z.size<64){R:Unit->SortSt->Prop}(h:∀u,Bo κ z u->R () u):wpS (model P w) A E s sortRuns' R t:=by
 have low:minRun' z.size z.size 0=z.size:=by
  obtain⟨k,hk⟩:∃k,z.size=k+1:=⟨z.size-1,by omega⟩
  have:minRun' (k+1) z.size 0=z.size+0:=by rw[minRun'_succ,if_pos h64]
  rw[<-hk]at this
  exact this
 rw[sortRuns'_eq]
 apply wpS_bind;apply wpS_get
 dsimp only
 simp only[m.sz,low]
 apply wpS_bind
 refine wpS_mono (wpS_forRange (I:=λx b u=>if x=0 then b=(none,0)/\Mid kd z u else b=(none,z.size)/\Bo κ z u) (Q:=λb u=>b=(none,z.size)/\Bo κ z u) (λx b u _ hx hI=>?_) (λb u hI=>?_) ?_) λb u hI=>?_
 ·by_cases c:x=0
  ·subst c
   obtain⟨rfl,mu⟩:b=(none,0)/\Mid kd z u:=by simpa using hI
   dsimp only
   rw[if_neg (by omega:¬(0>=z.size))]
   simp only[aam,aan,Nat.zero_add]
   apply wpS_bind
   refine Bm hA hk mu (Xn _) (by omega) λi v mv h3 h4 up=>?_
   dsimp only
   by_cases d:i<z.size
   ·rw[if_pos d]
    apply wpS_bind
    refine wpS_lift (wpAny_rule ⟨rfl,?_⟩)
    apply wpS_bind
    refine Gk hA hk mv (Xn _) h4 up λv' RU up'=>?_
    simp only[Yo,Xs,if_false]
    apply wpS_bind;apply wpS_get
    have e:(pendingOf v').back?=none:=by rw[RU.no];rfl
    rw[e]
    dsimp only
    apply wpS_bind
    apply wpS_modify
    exact wpS_pure ⟨rfl,RU.fin up'⟩
   ·rw[if_neg d]
    obtain rfl:i=z.size:=by omega
    apply wpS_bind;apply wpS_get
    have e:(pendingOf v).back?=none:=by rw[mv.no];rfl
    rw[e]
    dsimp only
    apply wpS_bind
    apply wpS_modify
    exact wpS_pure ⟨rfl,mv.fin up⟩
  ·obtain⟨rfl,fu⟩:b=(none,z.size)/\Bo κ z u:=by simpa[c]using hI
   dsimp only
   rw[if_pos (Xn z.size)]
   exact wpS_pure ⟨rfl,fu⟩
 ·have c:max 0 z.size≠0:=by omega
  rw[if_neg c]at hI
  exact hI
 ·exact⟨rfl,m⟩
 ·obtain⟨rfl,fu⟩:=hI
  dsimp only
  apply wpS_bind
  refine wpS_mono (wpS_forRange (I:=λ_ b v=>b=(none,())/\v=u) (Q:=λb v=>b=(none,())/\v=u) (λx b v _ _ hI=>?_) (λ_ _ hI=>hI) ⟨rfl,rfl⟩) λb v hI=>?_
  ·obtain⟨rfl,rfl⟩:=hI
   apply wpS_bind;apply wpS_get
   rw[if_pos (by rw[fu.one];exact Xn 1)]
   exact wpS_pure ⟨rfl,rfl⟩
  ·obtain⟨rfl,rfl⟩:=hI
   exact wpS_pure (h v fu)
end
end L3
namespace L3
open PySem PySem.Spec PyProof.Rows
section
variable{P:Program}{w:World}{A:Around}{E:Value->Shared->Prop}{s:Shared}{κ:KeyKind}{kd:SortKind}
noncomputable def fK(h h':Heap):Prop:= ∀b o,h.get? b=some o->h'.get? b=some o
theorem Gn{a:Addr}{vs:List Value}{n:Nat}{R:Fin->Shared->Prop}(ho:s.heap.get? a=some (seqObj "list" vs.toArray n))(hk:KeysOf κ (pairsOf vs))
 (hd:∀(t:Shared) (E:Value->Shared->Prop) (Q:SortKind->Shared->Prop),(∀b o,b≠a->s.heap.get? b=some o->t.heap.get? b=some o)->2<=vs.length->Q kd t->wpAny (model P w) A (keyKind' vs.toArray) Q E t)
 (hA:∀t:Shared,(∀b o,b≠a->s.heap.get? b=some o->t.heap.get? b=some o)->Ask P w A t κ kd)(h64:vs.length<64)
 (h:∀y:Array Keyed,y.Perm (pairsOf vs)->SortedToK κ y (pairsOf vs).size->R (.done (.ret .none)) {s with heap:=sortedHeap s.heap a vs (y.map (·.2))}) :
 wpAny (model P w) A (Builtin.«list.sort» ⟨[.ref a],[]⟩) R E s:=by
 have la:a<s.heap.objs.size:=Heap.lt_size ho
 have lz:vs.length<=sizeLine:=by rw[sizeLine_eq];omega
 rw[list_sort_plain]
 apply wpAny_bind;apply listItems_at ho rfl
 refine wpAny_bind (listUpdate_at ho rfl ?_ (hsz:=by simp only[Xr];omega) (hsz2:=Yn _))
 obtain⟨e,h1⟩:∃e,(s.heap.update a (Obj.mapSeq λ_=> #[])).get? a=some (seqObj "list" #[] e):=⟨_,get?_update_seq ho λ_=> #[]⟩
 apply wpAny_bind;apply seqEpoch_at h1 rfl
 refine wpAny_bind (wpAny_newTuple (hsz:=lz) ?_)
 refine wpAny_bind (wpAny_newList (hsz:=Yn _) ?_)
 apply wpAny_holding
 show wpAny (model P w) A _ R E {s with heap:=((s.heap.update a (Obj.mapSeq λ_=> #[])).push (seqObj "tuple" vs.toArray 0)).push (seqObj "list" #[] 0)}
 generalize hh:((s.heap.update a (Obj.mapSeq λ_=> #[])).push (seqObj "tuple" vs.toArray 0)).push (seqObj "list" #[] 0)=g
 have g1:g.get? a=some (seqObj "list" #[] e):=by
  rw[<-hh,Heap.get?_push_ne _ _ _ (by rw[size_push',Heap.size_update];exact XG (Yz la)),Heap.get?_push_ne _ _ _ (by rw[Heap.size_update];exact XG la)]
  exact h1
 have g2:∀b o,b≠a->s.heap.get? b=some o->g.get? b=some o:=λb o hb q=>by
  have lb:=Heap.lt_size q
  rw[<-hh,Heap.get?_push_ne _ _ _ (by rw[size_push',Heap.size_update];exact XG (Yz lb)),Heap.get?_push_ne _ _ _ (by rw[Heap.size_update];exact XG lb),Heap.get?_update_ne _ _ _ _ hb]
  exact q
 have fin:∀y:Array Keyed,y.Perm (pairsOf vs)->SortedToK κ y (pairsOf vs).size->R (.done (.ret .none)) {s with heap:=g.update a (Obj.mapSeq λ_=>y.map (·.2))}:=λy h2 h3=>by rw[<-hh];exact h y h2 h3
 dsimp only
 have zv:vs.toArray.size=vs.length:=by simp
 have room:∀y:Array Keyed,y.Perm (pairsOf vs)->(y.map (·.2)).size<=sizeLine+1:=λy q=>by
  rw[Array.size_map,q.size_eq,pairsOf_size,sizeLine_eq];omega
 by_cases c:vs.toArray.size<2
 ·rw[if_pos c,if_pos c]
  apply wpAny_bind;apply wpAny_pure
  rw[StateT.run_pure]
  apply wpAny_bind;apply wpAny_pure
  dsimp only
  apply wpAny_bind;apply seqEpoch_at g1 rfl
  apply wpAny_bind
  refine listUpdate_at g1 rfl ?_ (hsz2:=room (pairsOf vs) (Array.Perm.refl _))
  simp only[bne_self_eq_false,Xs,if_false]
  refine wpAny_pure (fin (pairsOf vs) (Array.Perm.refl _) λi j hij hj=>?_)
  obtain rfl:i=j:=by rw[pairsOf_size]at hj;omega
  exact KeyOrd.kle_refl _
 ·rw[if_neg c,if_neg c]
  apply wpAny_bind
  refine hd _ _ _ g2 (by omega) ?_
  apply wpAny_bind
  refine wpAny_mono (Gm (z:=pairsOf vs) (t:=SortSt.mk' kd (pairsOf vs) #[] 7 none) (R:=λ_ u=>Bo κ (pairsOf vs) u) (hA _ g2) hk ⟨Array.Perm.refl _,rfl,rfl,rfl⟩ (by rw[pairsOf_size];omega) (by rw[pairsOf_size];exact h64) λu q=>q) (λr s' q=>?_) λ_ _ q=>q
  obtain⟨⟨⟩,u⟩:=r
  obtain⟨rfl,fu⟩:=q
  dsimp only
  apply wpAny_bind;apply seqEpoch_at g1 rfl
  apply wpAny_bind
  refine listUpdate_at g1 rfl ?_ (hsz2:=room (arrOf u) fu.pm)
  rw[fu.ok]
  simp only[bne_self_eq_false,Xs,if_false]
  exact wpAny_pure (fin (arrOf u) fu.pm fu.up)
theorem uq{l:Addr}{vs:List Value}{Q:Value->Shared->Prop}(hl:s.heap.IsList l vs.toArray)(hk:KeysOf κ (pairsOf vs))
 (hd:∀(t:Shared) (E:Value->Shared->Prop) (Q:SortKind->Shared->Prop),fK s.heap t.heap->2<=vs.length->Q kd t->wpAny (model P w) A.in1.in1 (keyKind' vs.toArray) Q E t)
 (hA:∀t:Shared,fK s.heap t.heap->Ask P w A.in1.in1 t κ kd)(h64:vs.length<64)
 (h:∀y:Array Keyed,y.Perm (pairsOf vs)->SortedToK κ y (pairsOf vs).size->Q (.ref (s.heap.objs.size+1)) {s with heap:=sortedAll s.heap vs (y.map (·.2))}) :
 wpAny (model P w) A (call (.builtin "sorted") [.ref l]) Q E s:=by
 refine Calls.call_function_entry kind_sorted plain_sorted entry_sorted (args_sorted1 _) ?_
 unfold Builtin.«sorted»
 refine wpAny_bind (m:=checkCount "sorted" 1 1 _) (wpAny_pure ?_)
 have lz:vs.length<=sizeLine:=by rw[sizeLine_eq];omega
 refine wpAny_bind (collect_list hl (hsz:=lz) ?_)
 refine wpAny_bind (wpAny_newList (hsz:=lz) ?_)
 show wpAny (model P w) A.in1 _ _ _ {s with heap:=((s.heap.push (seqObj "list" #[] 0)).update s.heap.objs.size (Obj.mapSeq (· ++vs.toArray))).push (seqObj "list" vs.toArray 0)}
 generalize hg:(s.heap.push (seqObj "list" #[] 0)).update s.heap.objs.size (Obj.mapSeq (· ++vs.toArray))=g
 have gz:g.objs.size=s.heap.objs.size+1:=by rw[<-hg,Heap.size_update,size_push']
 have gk:fK s.heap g:=λb o q=>by
  have lb:=Heap.lt_size q
  rw[<-hg,Heap.get?_update_ne _ _ _ _ (XG lb),Heap.get?_push_ne _ _ _ (XG lb)]
  exact q
 have fin:∀y:Array Keyed,y.Perm (pairsOf vs)->SortedToK κ y (pairsOf vs).size->Q (.ref (s.heap.objs.size+1)) {s with heap:=sortedHeap (g.push (seqObj "list" vs.toArray 0)) (s.heap.objs.size+1) vs (y.map (·.2))}:=λy h1 h2=>by rw[<-hg];exact h y h1 h2
 rw[gz]
 have at':(g.push (seqObj "list" vs.toArray 0)).get? (s.heap.objs.size+1)=some (seqObj "list" vs.toArray 0):=by rw[<-gz];exact Heap.get?_push_size _ rfl
 have OI:∀b o,s.heap.get? b=some o->b≠s.heap.objs.size+1/\(g.push (seqObj "list" vs.toArray 0)).get? b=some o:=λb o q=>by
  have lb:=Heap.lt_size q
  have lc:=XG (Yz lb)
  refine⟨lc,?_⟩
  rw[Heap.get?_push_ne _ _ _ (by rw[gz];exact lc)]
  exact gk b o q
 apply wpAny_bind;apply wpAny_holding
 refine wpAny_call_entry slot_list_sort ⟨_,at',rfl⟩ entry_list_sort (Gn (κ:=κ) (kd:=kd) at' hk (λt E Q hg=>hd t E Q λb o q=>hg b o (OI b o q).1 (OI b o q).2) (λt hg=>hA t λb o q=>hg b o (OI b o q).1 (OI b o q).2) h64 λy h1 h2=>⟨_,rfl,?_⟩) (args_list_sort _)
 exact wpAny_pure ⟨_,rfl,fin y h1 h2⟩
end
end L3
namespace L3
open PySem PySem.Spec PyProof.Rows
noncomputable def lQ(h:Heap)(v:Value)(p:Pl):Prop:= ∃(a:Addr) (o:Obj) (t u:Tok) (n:Nat),v= .ref a/\h.get? a=some o/\o.cls= .type "tuple"/\o.data= .seq #[.int p.x t,.int p.y u] n
theorem lQ.grow{h h':Heap}{v:Value}{p:Pl}(a:lQ h v p)(g:fK h h'):lQ h' v p:=by
 obtain⟨b,o,t,u,n,h1,h2,h3,h4⟩:=a
 exact⟨b,o,t,u,n,h1,g _ _ h2,h3,h4⟩
theorem lQ.inj{h:Heap}{v:Value}{p q:Pl}(a:lQ h v p)(b:lQ h v q):p=q:=by
 obtain⟨a1,o,t,u,n,rfl,h2,h3,h4⟩:=a
 obtain⟨a2,o',t',u',n',e,k2,k3,k4⟩:=b
 injection e with e
 subst e
 rw[h2]at k2
 injection k2 with k2
 subst k2
 rw[h4]at k4
 injection k4 with k4 _
 cases p;cases q
 simp at k4
 obtain⟨⟨e1,_⟩,e2,_⟩:=k4
 rw[e1,e2]
open Classical in
noncomputable def Ck(h:Heap):KeyKind where
 α:=Pl
 blt p q:=decide (aU p q)
 irrefl p:=decide_eq_false (cz p)
 trans p q r a b:=decide_eq_true (cP (of_decide_eq_true a) (of_decide_eq_true b))
 negTrans p q r a:=by
  have a:=of_decide_eq_true a
  rcases dM p q with c|c|c
  ·exact .inl (decide_eq_true c)
  ·subst c;exact .inr (decide_eq_true a)
  ·exact .inr (decide_eq_true (cP c a))
 total p q a b:=by
  rcases dM p q with c|c|c
  ·exact absurd c (of_decide_eq_false a)
  ·exact c
  ·exact absurd c (of_decide_eq_false b)
 keyOf v:=if e:∃p,lQ h v p then some e.choose else none
 dflt:=⟨0,0⟩
open Classical in
theorem Ak{h:Heap}{v:Value}{p:Pl}(a:lQ h v p):(Ck h).keyOf v=some p:=by
 have e:∃p,lQ h v p:=⟨p,a⟩
 show(if e:∃p,lQ h v p then some e.choose else none)=some p
 rw[dif_pos e,lQ.inj e.choose_spec a]
open Classical in
theorem Dp{h:Heap}{v:Value}{p:Pl}(a:(Ck h).keyOf v=some p):lQ h v p:=by
 have a:(if e:∃p,lQ h v p then some e.choose else none)=some p:=a
 by_cases e:∃p,lQ h v p
 ·rw[dif_pos e]at a
  have:=e.choose_spec
  rwa [Option.some.inj a]at this
 ·rw[dif_neg e]at a;cases a
section
variable{P:Program}{w:World}{A:Around}{E:Value->Shared->Prop}{s:Shared}
theorem ur(f:Bool)(v u:Value):keyLt' (tuples' f) v u=(do
 let a <-Builtin.List.listItems v;let b <-Builtin.List.listItems u
 for ((c,d),k) in (a.toList.zip b.toList).zipIdx do {if !(<-eqBool c d)then return <-oneLt' (f && k==0) c d}
 return a.size<b.size):=rfl
theorem qJ{b:Bool}{i j:Int}{t u:Tok}{Q:Bool->Shared->Prop}(h:Q (decide (i<j)) s):wpAny (model P w) A (oneLt' b (.int i t) (.int j u)) Q E s:=by
 cases b with
 |true=>exact oneLt_int h
 |false=>
  rw[oneLt'_eq]
  simp only[Xs,if_false]
  apply wpAny_bind
  refine(lt_int ?_:wpAny (model P w) A (compareOp .Lt (.int i t) (.int j u)) _ E s)
  exact wpAny_truthy_bool h
theorem MZ{t:Shared}{x y:Value}{p q:Pl}{f:Bool}{R:Bool->Shared->Prop}(kx:lQ t.heap x p)(ky:lQ t.heap y q)(hR:R (decide (aU p q)) t):wpAny (model P w) A (keyLt' (tuples' f) x y) R E t:=by
 obtain⟨a,o,t1,u1,n1,rfl,h2,h3,h4⟩:=kx
 obtain⟨b,o',t2,u2,n2,rfl,k2,k3,k4⟩:=ky
 rw[ur]
 apply wpAny_bind;apply listItems_at h2 h4
 apply wpAny_bind;apply listItems_at k2 k4
 simp only[Yv,Y7,ZW,Z5,Y8,Zn,bind_assoc]
 apply wpAny_bind
 apply wpAny_eqBool_int
 by_cases ex:p.x=q.x
 ·have e:(p.x==q.x)=true:=beq_iff_eq.mpr ex
  rw[e]
  simp only[Yo,Xs,if_false,pure_bind,bind_assoc]
  apply wpAny_bind
  apply wpAny_eqBool_int
  by_cases ey:p.y=q.y
  ·have e:(p.y==q.y)=true:=beq_iff_eq.mpr ey
   rw[e]
   simp only[Yo,Xs,if_false,pure_bind]
   have en:decide (aU p q)=false:=decide_eq_false (by unfold aU;omega)
   rw[en]at hR
   exact wpAny_pure hR
  ·have e:(p.y==q.y)=false:=beq_eq_false_iff_ne.mpr ey
   rw[e]
   simp only[YQ,if_true,bind_assoc,pure_bind]
   apply wpAny_bind
   apply qJ
   have en:decide (aU p q)=decide (p.y<q.y):=by rw[decide_eq_decide];unfold aU;omega
   rw[en]at hR
   exact wpAny_pure hR
 ·have e:(p.x==q.x)=false:=beq_eq_false_iff_ne.mpr ex
  rw[e]
  simp only[YQ,if_true,bind_assoc,pure_bind]
  apply wpAny_bind
  apply qJ
  have en:decide (aU p q)=decide (p.x<q.x):=by rw[decide_eq_decide];unfold aU;omega
  rw[en]at hR
  exact wpAny_pure hR
theorem J0{h:Heap}{t:Shared}(g:fK h t.heap)(f:Bool):Ask P w A t (Ck h) (tuples' f):=
 ⟨λE x y p q R kx ky hR=>MZ ((Dp kx).grow g) ((Dp ky).grow g) hR⟩
theorem m8{β:Type}{f:Value->Sem β}(R:Value->β->Prop):∀(vs:List Value) (Q:List β->Shared->Prop),(∀v∈vs,∀(Q:β->Shared->Prop),(∀b,R v b->Q b s)->wpAny (model P w) A (f v) Q E s)->
 (∀bs:List β,Paired R vs bs->Q bs s)->wpAny (model P w) A (vs.mapM f) Q E s
 |[],Q,_,h=>by rw[List.mapM_nil];exact wpAny_pure (h [] .nil)
 |v::vs,Q,hv,h=>by
  rw[List.mapM_cons]
  apply wpAny_bind
  refine hv v (Xu ..) _ λb rb=>?_
  apply wpAny_bind
  refine m8 R vs _ (λu hu=>hv u (Xl _ hu)) λbs TL=>?_
  exact wpAny_pure (h (b::bs) (.cons rb TL))
theorem uu(v:Value):firstOfTuple' v=(typeOf v >>= λt=>if t != .type "tuple" then pure none else Builtin.List.listItems v >>= λa=>pure a[0]?):=rfl
theorem Gp{vs:List Value}(h2:1<=vs.length)(hv:∀v∈vs,∃p,lQ s.heap v p){Q:SortKind->Shared->Prop}(h:Q (tuples' true) s):wpAny (model P w) A (keyKind' vs.toArray) Q E s:=by
 rw[keyKind'_eq,Zp]
 simp only[bind_map_left]
 apply wpAny_bind
 refine m8 (λ_ b=>∃i t,b=some (Value.int i t)) vs _ (λv hm Q hQ=>?_) λbs hb=>?_
 ·obtain⟨p,a,o,t,u,n,rfl,k2,k3,k4⟩:=hv v hm
  rw[uu]
  apply wpAny_bind
  refine wpAny_typeOf (T:= "tuple") ⟨o,k2,k3⟩ ?_
  have e:(Value.type "tuple" !=Value.type "tuple")=false:=by decide
  rw[e]
  simp only[Xs,if_false,pure_bind]
  apply wpAny_bind;apply listItems_at k2 k4
  exact wpAny_pure (hQ _ ⟨p.x,t,rfl⟩)
 ·have all:∀(vs:List Value) (bs:List (Option Value)),Paired (λ_ b=>∃i t,b=some (Value.int i t)) vs bs->bs.length=vs.length/\(∀b∈bs,∃i t,b=some (Value.int i t)):=by
   intro vs
   induction vs with
   |nil=>intro bs q;cases q;exact⟨rfl,λ_ z=>by cases z⟩
   |cons v vs ih=>
    intro bs q
    cases q with
    |cons q1 q2=>
     obtain⟨l,m⟩:=ih _ q2
     refine⟨by simp[l],λb hb=>?_⟩
     rcases Xj.mp hb with rfl|hb
     ·exact q1
     ·exact m b hb
  obtain⟨hl,hm⟩:=all vs bs hb
  have c:(bs.toArray.all λb=>b.isSome)=true:=by
   simp only[Zr,Ym]
   intro b hb
   obtain⟨i,t,rfl⟩:=hm b hb
   rfl
  rw[if_pos c]
  apply wpAny_bind;apply wpAny_rule
  rw[oneTypeOnly'_eq]
  have ef:bs.toArray.filterMap id=(bs.filterMap id).toArray:=by simp
  rw[ef,Zp]
  simp only[bind_map_left,bind_assoc]
  apply wpAny_bind
  refine m8 (λ_ b=>b=Value.type "int") _ _ (λv hv' Q hQ=>?_) λcs hc=>?_
  ·obtain⟨b,hb1,hb2⟩:=Zi.mp hv'
   obtain⟨i,t,rfl⟩:=hm b hb1
   have hb2:some (Value.int i t)=some v:=hb2
   cases hb2
   exact wpAny_typeOf (T:= "int") (typeIs_int s i t) (hQ _ rfl)
  ·have len:1<=(bs.filterMap id).length:=by
    cases bs with
    |nil=>simp at hl;omega
    |cons b bs=>
     obtain⟨i,t,rfl⟩:=hm b (Xu ..)
     simp
   have all2:∀(us cs:List Value),Paired (λ_ b=>b=Value.type "int") us cs->cs=us.map λ_=>Value.type "int" :=by
    intro us
    induction us with
    |nil=>intro cs q;cases q;rfl
    |cons u us ih=>intro cs q;cases q with|cons q1 q2=>rw[q1,ih _ q2];rfl
   rw[all2 _ _ hc]
   generalize bs.filterMap id=us at len
   cases us with
   |nil=>simp at len
   |cons u us=>
    have e0:(List.map (λ_=>Value.type "int") (u::us)).toArray[0]?=some (Value.type "int"):=by simp
    rw[e0]
    have e1:((List.map (λ_=>Value.type "int") (u::us)).toArray.all λx=>x==Value.type "int")=true:=by
     simp only[Zr,ZA,Ym]
     intro _ _;rfl
    simp only[e1,if_true,pure_bind]
    exact wpAny_pure h
end
end L3
namespace L3
open PySem PySem.Spec PyProof.Rows
section
variable{P:Program}{w:World}{A:Around}{E:Value->Shared->Prop}{s:Shared}
theorem J1{h0:Heap}{I S:Addr}{fp wr:List Addr}{n:Nat}{Pr:Nat->Value->Prop}{St:Nat->Heap->Prop}{bt:Nat->Nat->Bool}{R:Result->Shared->Prop}(W:Walks P w A.in1 I fp wr n Pr St)
 (hc:∀(i j:Nat) (vi vj:Value) (t:Shared) (Q:Value->Shared->Prop) (E:Value->Shared->Prop),fK h0 t.heap->Pr i vi->Pr j vj->Q (.bool (bt i j)) t->wpAny (model P w) A.in1 (richCompare .Lt vi vj) Q E t)
 (hS:S∉fp)(Bp:∀b o,h0.get? b=some o->b∉wr/\b≠S):∀(m k:Nat) (t:Shared) (vb:Value) (c:Nat),n-(k+1)=m->k+1<=n->fK h0 t.heap->St (k+1) t.heap->Pr (argBest bt k) vb->
 t.heap.get? S=some {cls:= .type "list",dict:=none,data:= .seq #[vb,vb] c,slots:= #[]}->
 (∀v h' tk,Pr (argBest bt (n-1)) v->(∀b o,b∉wr->b≠S->t.heap.get? b=some o->h'.get? b=some o)->R (.ok (.ret v)) {t with heap:=h',toks:=tk})->
 codeAny (model P w) A (.builtin "min.loop" ⟨[.ref I,.none,.ref S],[]⟩) R t:=by
 have Sw:S∉wr:=λq=>hS (W.sub _ q)
 have nm:(toString "min" ++toString ".loop" :String)= "min.loop" :=by decide
 intro m
 induction m with
 |zero=>
  intro k t vb c e1 e2 gr st pb hs hR
  have ek:k+1=n:=by omega
  refine codeAny_builtin F.entry_min_loop ?_
  rw[Around.under_plainId F.plain_min_loop]
  show wpAny (model P w) A.in1 (seqItems? (.ref S) >>= _) _ _ t
  apply wpAny_bind;apply wpAny_seqItems hs rfl
  show wpAny (model P w) A.in1 (tryCatch (pyNext (.ref I)) _ >>= _) _ _ t
  apply wpAny_bind;apply wpAny_tryCatch
  refine W.done t _ _ (ek▸st) λh' tk kp=>?_
  have hs2:=kp S _ Sw hs
  show wpAny (model P w) A.in1 (updateSeq S (λ_=> #[]) >>= _) _ _ _
  apply wpAny_bind
  refine wpAny_updateSeq hs2 rfl ?_
  apply wpAny_bind;apply wpAny_letGo;apply wpAny_pure
  exact hR vb _ tk (by rw[<-ek];exact pb) λb o q1 q2 q=>(Heap.get?_update_other _ _ (Ne.symm q2)).trans (kp b o q1 q)
 |succ m ih=>
  intro k t vb c e1 e2 gr st pb hs hR
  refine codeAny_builtin F.entry_min_loop ?_
  rw[Around.under_plainId F.plain_min_loop]
  show wpAny (model P w) A.in1 (seqItems? (.ref S) >>= _) _ _ t
  apply wpAny_bind;apply wpAny_seqItems hs rfl
  show wpAny (model P w) A.in1 (tryCatch (pyNext (.ref I)) _ >>= _) _ _ t
  apply wpAny_bind;apply wpAny_tryCatch
  refine W.item (k+1) t _ _ (by omega) st λv h' tk pv st2 kp=>?_
  have hs2:=kp S _ Sw hs
  have Dq:fK h0 h':=λb o q=>kp b o (Bp b o q).1 (gr b o q)
  show wpAny (model P w) A.in1 (tryCatch (holding [v,v] (richCompare .Lt v vb >>= _)) _ >>= _) _ _ _
  apply wpAny_bind;apply wpAny_tryCatch;apply wpAny_holding;apply wpAny_bind
  refine hc (k+1) (argBest bt k) v vb _ _ _ Dq pv pb ?_
  apply wpAny_bind;apply wpAny_holding;apply wpAny_truthy_bool
  apply wpAny_bind;apply wpAny_letGo;apply wpAny_pure
  cases d:bt (k+1) (argBest bt k)with
  |true=>
   rw[if_pos rfl]
   apply wpAny_bind
   refine wpAny_updateSeq hs2 rfl ?_
   apply wpAny_bind;apply wpAny_letGo
   rw[nm]
   refine wpAny_pure ⟨plainId_quiet F.plain_min_loop _,ih (k+1) _ v _ (by omega) (by omega) (λb o q=>(Heap.get?_update_other _ _ (Ne.symm (Bp b o q).2)).trans (Dq b o q)) (W.frame _ _ _ st2 λb q1 o q=>(Heap.get?_update_other _ _ (λz:S=b=>hS (z▸q1))).trans q) (by simp only[argBest,d,if_true];exact pv) (Heap.get?_update_self _ hs2 rfl) λv2 h2 Dr p2 Bq=>?_⟩
   exact hR v2 h2 Dr p2 λb o q1 q2 q=>Bq b o q1 q2 ((Heap.get?_update_other _ _ (Ne.symm q2)).trans (kp b o q1 q))
  |false=>
   rw[if_neg Xv]
   apply wpAny_bind;apply wpAny_letGo
   rw[nm]
   refine wpAny_pure ⟨plainId_quiet F.plain_min_loop _,ih (k+1) _ vb c (by omega) (by omega) Dq st2 (by simp only[argBest,d,Xs,if_false];exact pb) hs2 λv2 h2 Dr p2 Bq=>?_⟩
   exact hR v2 h2 Dr p2 λb o q1 q2 q=>Bq b o q1 q2 (kp b o q1 q)
theorem Br{h0:Heap}{I S:Addr}{fp wr:List Addr}{n:Nat}{Pr:Nat->Value->Prop}{St:Nat->Heap->Prop}{bt:Nat->Nat->Bool}{R:Result->Shared->Prop}{t:Shared}{c:Nat}(W:Walks P w A.in1 I fp wr n Pr St)
 (hc:∀(i j:Nat) (vi vj:Value) (t:Shared) (Q:Value->Shared->Prop) (E:Value->Shared->Prop),fK h0 t.heap->Pr i vi->Pr j vj->Q (.bool (bt i j)) t->wpAny (model P w) A.in1 (richCompare .Lt vi vj) Q E t)
 (hS:S∉fp)(Bp:∀b o,h0.get? b=some o->b∉wr/\b≠S)(hn:0<n)(gr:fK h0 t.heap)(st:St 0 t.heap)(hs:t.heap.get? S=some {cls:= .type "list",dict:=none,data:= .seq #[] c,slots:= #[]})
 (hR:∀v h' tk,Pr (argBest bt (n-1)) v->(∀b o,b∉wr->b≠S->t.heap.get? b=some o->h'.get? b=some o)->R (.ok (.ret v)) {t with heap:=h',toks:=tk}) :
 codeAny (model P w) A (.builtin "min.loop" ⟨[.ref I,.none,.ref S],[]⟩) R t:=by
 have Sw:S∉wr:=λq=>hS (W.sub _ q)
 have nm:(toString "min" ++toString ".loop" :String)= "min.loop" :=by decide
 refine codeAny_builtin F.entry_min_loop ?_
 rw[Around.under_plainId F.plain_min_loop]
 show wpAny (model P w) A.in1 (seqItems? (.ref S) >>= _) _ _ t
 apply wpAny_bind;apply wpAny_seqItems hs rfl
 show wpAny (model P w) A.in1 (tryCatch (pyNext (.ref I)) _ >>= _) _ _ t
 apply wpAny_bind;apply wpAny_tryCatch
 refine W.item 0 t _ _ hn st λv h' tk pv st2 kp=>?_
 have hs2:=kp S _ Sw hs
 have Dq:fK h0 h':=λb o q=>kp b o (Bp b o q).1 (gr b o q)
 show wpAny (model P w) A.in1 (updateSeq S (λ_=> #[v,v]) >>= _) _ _ _
 apply wpAny_bind
 refine wpAny_updateSeq hs2 rfl ?_
 rw[nm]
 refine wpAny_pure ⟨plainId_quiet F.plain_min_loop _,J1 W hc hS Bp _ 0 _ v _ rfl hn (λb o q=>(Heap.get?_update_other _ _ (Ne.symm (Bp b o q).2)).trans (Dq b o q)) (W.frame _ _ _ st2 λb q1 o q=>(Heap.get?_update_other _ _ (λz:S=b=>hS (z▸q1))).trans q) pv (Heap.get?_update_self _ hs2 rfl) λv2 h2 Dr p2 Bq=>?_⟩
 exact hR v2 h2 Dr p2 λb o q1 q2 q=>Bq b o q1 q2 ((Heap.get?_update_other _ _ (Ne.symm q2)).trans (kp b o q1 q))
theorem Ds{vs:List Value}{bt:Nat->Nat->Bool}{Q:Value->Shared->Prop}(ha:argsOk "min" ⟨vs,[]⟩)(h2:2<=vs.length)(hz:vs.length<64)(hh:A.handled=none)
 (hc:∀(i j:Nat) (vi vj:Value) (t:Shared) (Q:Value->Shared->Prop) (E:Value->Shared->Prop),fK s.heap t.heap->vs[i]?=some vi->vs[j]?=some vj->Q (.bool (bt i j)) t->wpAny (model P w) A.in1 (richCompare .Lt vi vj) Q E t)
 (h:∀v h' tk,vs[argBest bt (vs.length-1)]?=some v->fK s.heap h'->Q v {s with heap:=h',toks:=tk}):wpAny (model P w) A (call (.builtin "min") vs) Q E s:=by
 have nm:(toString "min" ++toString ".loop" :String)= "min.loop" :=by decide
 have lz:vs.length<=sizeLine:=by rw[sizeLine_eq];omega
 refine call_function_tree F.kind_min F.plain_min F.entry_min ha ?_
 match vs,h2 with
 |v1::v2::rest,_=>
  show wpAny (model P w) A.in1 (Builtin.Builtins.bindParams "min" ["key","default"] 0 ⟨[],[]⟩ >>= _) _ _ s
  refine wpAny_bind (wpAny_of_eq (show Builtin.Builtins.bindParams "min" ["key","default"] 0 ⟨[],[]⟩=pure [none,none]from rfl) ?_)
  show wpAny (model P w) A.in1 (newTuple (v1::v2::rest) >>= _) _ _ s
  refine wpAny_bind (wpAny_newTuple (hsz:=lz) ?_)
  have wK:(s.heap.push {cls:= .type "tuple",data:= .seq (v1::v2::rest).toArray}).objs.size=s.heap.objs.size+1:=Heap.size_push ..
  have tp:(s.heap.push {cls:= .type "tuple",data:= .seq (v1::v2::rest).toArray}).IsTuple s.heap.objs.size (v1::v2::rest).toArray:=⟨_,Heap.get?_push_size _ rfl,rfl,0,rfl⟩
  refine wpAny_bind (wpAny_pyIter_tuple tp ?_)
  generalize hg:s.heap.push {cls:= .type "tuple",data:= .seq (v1::v2::rest).toArray}=g at wK tp
  have k0:fK s.heap g:=λb o q=>by rw[<-hg];exact Heap.get?_push_of_some _ q
  apply wpAny_bind
  refine wpAny_newObj_type ?_
  have J2:(g.push {cls:= .type "tuple_iterator",data:= .fields #[.ref s.heap.objs.size,.int 0 0]}).objs.size=s.heap.objs.size+2:=by rw[Heap.size_push,wK]
  rw[nm]
  refine wpAny_pure ⟨plainId_quiet F.plain_min_loop _,Br (h0:=s.heap) (Walks.tuple (A:=A.in1) hh _ s.heap.objs.size (by rw[wK];exact XG (Ze _)) (v1::v2::rest).toArray) (bt:=bt) (λi j vi vj t Q E g1 p1 p2 q=>hc i j vi vj t Q E g1 (by simpa using p1) (by simpa using p2) q) ?_ (λb o q=>?_) (by simp) (λb o q=>Heap.get?_push_of_some _ (Heap.get?_push_of_some _ (k0 b o q))) ⟨⟨_,Heap.get?_push_of_some _ (Heap.get?_push_size _ rfl),rfl,rfl⟩,(tp.push _).push _⟩ (Heap.get?_push_size _ rfl) λv h' tk p kp=>?_⟩
  ·intro q
   rw[wK,J2]at q
   rcases Xj.mp q with q|q
   ·exact absurd q (by intro z;exact absurd (Nat.succ.inj z) (aav _))
   ·have q:=Xq.mp q
    exact absurd q (by intro z;have:s.heap.objs.size+2=s.heap.objs.size:=z;omega)
  ·have lb:=Heap.lt_size q
   rw[wK,J2]
   refine⟨λz=>?_,λz=>?_⟩
   ·have z:=Xq.mp z
    rw[z]at lb
    exact absurd lb (YW.mpr (YI _))
   ·rw[z]at lb
    exact absurd lb (YW.mpr (X4 _ 2))
  ·refine h v h' tk (by simpa using p) λb o q=>?_
   have lb:=Heap.lt_size q
   refine kp b o (λz=>?_) (λz=>?_) (Heap.get?_push_of_some _ (Heap.get?_push_of_some _ (k0 b o q)))
   ·have z:=Xq.mp z
    rw[z,wK]at lb
    exact absurd lb (YW.mpr (YI _))
   ·rw[z,J2]at lb
    exact absurd lb (YW.mpr (X4 _ 2))
theorem J3{h0:Heap}{I S:Addr}{fp wr:List Addr}{n:Nat}{Pr:Nat->Value->Prop}{St:Nat->Heap->Prop}{bt:Nat->Nat->Bool}{R:Result->Shared->Prop}(W:Walks P w A.in1 I fp wr n Pr St)
 (hc:∀(i j:Nat) (vi vj:Value) (t:Shared) (Q:Value->Shared->Prop) (E:Value->Shared->Prop),fK h0 t.heap->Pr i vi->Pr j vj->Q (.bool (bt i j)) t->wpAny (model P w) A.in1 (richCompare .Gt vi vj) Q E t)
 (hS:S∉fp)(Bp:∀b o,h0.get? b=some o->b∉wr/\b≠S):∀(m k:Nat) (t:Shared) (vb:Value) (c:Nat),n-(k+1)=m->k+1<=n->fK h0 t.heap->St (k+1) t.heap->Pr (argBest bt k) vb->
 t.heap.get? S=some {cls:= .type "list",dict:=none,data:= .seq #[vb,vb] c,slots:= #[]}->
 (∀v h' tk,Pr (argBest bt (n-1)) v->(∀b o,b∉wr->b≠S->t.heap.get? b=some o->h'.get? b=some o)->R (.ok (.ret v)) {t with heap:=h',toks:=tk})->
 codeAny (model P w) A (.builtin "max.loop" ⟨[.ref I,.none,.ref S],[]⟩) R t:=by
 have Sw:S∉wr:=λq=>hS (W.sub _ q)
 have nm:(toString "max" ++toString ".loop" :String)= "max.loop" :=by decide
 intro m
 induction m with
 |zero=>
  intro k t vb c e1 e2 gr st pb hs hR
  have ek:k+1=n:=by omega
  refine codeAny_builtin F.entry_max_loop ?_
  rw[Around.under_plainId F.plain_max_loop]
  show wpAny (model P w) A.in1 (seqItems? (.ref S) >>= _) _ _ t
  apply wpAny_bind;apply wpAny_seqItems hs rfl
  show wpAny (model P w) A.in1 (tryCatch (pyNext (.ref I)) _ >>= _) _ _ t
  apply wpAny_bind;apply wpAny_tryCatch
  refine W.done t _ _ (ek▸st) λh' tk kp=>?_
  have hs2:=kp S _ Sw hs
  show wpAny (model P w) A.in1 (updateSeq S (λ_=> #[]) >>= _) _ _ _
  apply wpAny_bind
  refine wpAny_updateSeq hs2 rfl ?_
  apply wpAny_bind;apply wpAny_letGo;apply wpAny_pure
  exact hR vb _ tk (by rw[<-ek];exact pb) λb o q1 q2 q=>(Heap.get?_update_other _ _ (Ne.symm q2)).trans (kp b o q1 q)
 |succ m ih=>
  intro k t vb c e1 e2 gr st pb hs hR
  refine codeAny_builtin F.entry_max_loop ?_
  rw[Around.under_plainId F.plain_max_loop]
  show wpAny (model P w) A.in1 (seqItems? (.ref S) >>= _) _ _ t
  apply wpAny_bind;apply wpAny_seqItems hs rfl
  show wpAny (model P w) A.in1 (tryCatch (pyNext (.ref I)) _ >>= _) _ _ t
  apply wpAny_bind;apply wpAny_tryCatch
  refine W.item (k+1) t _ _ (by omega) st λv h' tk pv st2 kp=>?_
  have hs2:=kp S _ Sw hs
  have Dq:fK h0 h':=λb o q=>kp b o (Bp b o q).1 (gr b o q)
  show wpAny (model P w) A.in1 (tryCatch (holding [v,v] (richCompare .Gt v vb >>= _)) _ >>= _) _ _ _
  apply wpAny_bind;apply wpAny_tryCatch;apply wpAny_holding;apply wpAny_bind
  refine hc (k+1) (argBest bt k) v vb _ _ _ Dq pv pb ?_
  apply wpAny_bind;apply wpAny_holding;apply wpAny_truthy_bool
  apply wpAny_bind;apply wpAny_letGo;apply wpAny_pure
  cases d:bt (k+1) (argBest bt k)with
  |true=>
   rw[if_pos rfl]
   apply wpAny_bind
   refine wpAny_updateSeq hs2 rfl ?_
   apply wpAny_bind;apply wpAny_letGo
   rw[nm]
   refine wpAny_pure ⟨plainId_quiet F.plain_max_loop _,ih (k+1) _ v _ (by omega) (by omega) (λb o q=>(Heap.get?_update_other _ _ (Ne.symm (Bp b o q).2)).trans (Dq b o q)) (W.frame _ _ _ st2 λb q1 o q=>(Heap.get?_update_other _ _ (λz:S=b=>hS (z▸q1))).trans q) (by simp only[argBest,d,if_true];exact pv) (Heap.get?_update_self _ hs2 rfl) λv2 h2 Dr p2 Bq=>?_⟩
   exact hR v2 h2 Dr p2 λb o q1 q2 q=>Bq b o q1 q2 ((Heap.get?_update_other _ _ (Ne.symm q2)).trans (kp b o q1 q))
  |false=>
   rw[if_neg Xv]
   apply wpAny_bind;apply wpAny_letGo
   rw[nm]
   refine wpAny_pure ⟨plainId_quiet F.plain_max_loop _,ih (k+1) _ vb c (by omega) (by omega) Dq st2 (by simp only[argBest,d,Xs,if_false];exact pb) hs2 λv2 h2 Dr p2 Bq=>?_⟩
   exact hR v2 h2 Dr p2 λb o q1 q2 q=>Bq b o q1 q2 (kp b o q1 q)
theorem Bs{h0:Heap}{I S:Addr}{fp wr:List Addr}{n:Nat}{Pr:Nat->Value->Prop}{St:Nat->Heap->Prop}{bt:Nat->Nat->Bool}{R:Result->Shared->Prop}{t:Shared}{c:Nat}(W:Walks P w A.in1 I fp wr n Pr St)
 (hc:∀(i j:Nat) (vi vj:Value) (t:Shared) (Q:Value->Shared->Prop) (E:Value->Shared->Prop),fK h0 t.heap->Pr i vi->Pr j vj->Q (.bool (bt i j)) t->wpAny (model P w) A.in1 (richCompare .Gt vi vj) Q E t)
 (hS:S∉fp)(Bp:∀b o,h0.get? b=some o->b∉wr/\b≠S)(hn:0<n)(gr:fK h0 t.heap)(st:St 0 t.heap)(hs:t.heap.get? S=some {cls:= .type "list",dict:=none,data:= .seq #[] c,slots:= #[]})
 (hR:∀v h' tk,Pr (argBest bt (n-1)) v->(∀b o,b∉wr->b≠S->t.heap.get? b=some o->h'.get? b=some o)->R (.ok (.ret v)) {t with heap:=h',toks:=tk}) :
 codeAny (model P w) A (.builtin "max.loop" ⟨[.ref I,.none,.ref S],[]⟩) R t:=by
 have Sw:S∉wr:=λq=>hS (W.sub _ q)
 have nm:(toString "max" ++toString ".loop" :String)= "max.loop" :=by decide
 refine codeAny_builtin F.entry_max_loop ?_
 rw[Around.under_plainId F.plain_max_loop]
 show wpAny (model P w) A.in1 (seqItems? (.ref S) >>= _) _ _ t
 apply wpAny_bind;apply wpAny_seqItems hs rfl
 show wpAny (model P w) A.in1 (tryCatch (pyNext (.ref I)) _ >>= _) _ _ t
 apply wpAny_bind;apply wpAny_tryCatch
 refine W.item 0 t _ _ hn st λv h' tk pv st2 kp=>?_
 have hs2:=kp S _ Sw hs
 have Dq:fK h0 h':=λb o q=>kp b o (Bp b o q).1 (gr b o q)
 show wpAny (model P w) A.in1 (updateSeq S (λ_=> #[v,v]) >>= _) _ _ _
 apply wpAny_bind
 refine wpAny_updateSeq hs2 rfl ?_
 rw[nm]
 refine wpAny_pure ⟨plainId_quiet F.plain_max_loop _,J3 W hc hS Bp _ 0 _ v _ rfl hn (λb o q=>(Heap.get?_update_other _ _ (Ne.symm (Bp b o q).2)).trans (Dq b o q)) (W.frame _ _ _ st2 λb q1 o q=>(Heap.get?_update_other _ _ (λz:S=b=>hS (z▸q1))).trans q) pv (Heap.get?_update_self _ hs2 rfl) λv2 h2 Dr p2 Bq=>?_⟩
 exact hR v2 h2 Dr p2 λb o q1 q2 q=>Bq b o q1 q2 ((Heap.get?_update_other _ _ (Ne.symm q2)).trans (kp b o q1 q))
theorem Dt{vs:List Value}{bt:Nat->Nat->Bool}{Q:Value->Shared->Prop}(ha:argsOk "max" ⟨vs,[]⟩)(h2:2<=vs.length)(hz:vs.length<64)(hh:A.handled=none)
 (hc:∀(i j:Nat) (vi vj:Value) (t:Shared) (Q:Value->Shared->Prop) (E:Value->Shared->Prop),fK s.heap t.heap->vs[i]?=some vi->vs[j]?=some vj->Q (.bool (bt i j)) t->wpAny (model P w) A.in1 (richCompare .Gt vi vj) Q E t)
 (h:∀v h' tk,vs[argBest bt (vs.length-1)]?=some v->fK s.heap h'->Q v {s with heap:=h',toks:=tk}):wpAny (model P w) A (call (.builtin "max") vs) Q E s:=by
 have nm:(toString "max" ++toString ".loop" :String)= "max.loop" :=by decide
 have lz:vs.length<=sizeLine:=by rw[sizeLine_eq];omega
 refine call_function_tree F.kind_max F.plain_max F.entry_max ha ?_
 match vs,h2 with
 |v1::v2::rest,_=>
  show wpAny (model P w) A.in1 (Builtin.Builtins.bindParams "max" ["key","default"] 0 ⟨[],[]⟩ >>= _) _ _ s
  refine wpAny_bind (wpAny_of_eq (show Builtin.Builtins.bindParams "max" ["key","default"] 0 ⟨[],[]⟩=pure [none,none]from rfl) ?_)
  show wpAny (model P w) A.in1 (newTuple (v1::v2::rest) >>= _) _ _ s
  refine wpAny_bind (wpAny_newTuple (hsz:=lz) ?_)
  have wK:(s.heap.push {cls:= .type "tuple",data:= .seq (v1::v2::rest).toArray}).objs.size=s.heap.objs.size+1:=Heap.size_push ..
  have tp:(s.heap.push {cls:= .type "tuple",data:= .seq (v1::v2::rest).toArray}).IsTuple s.heap.objs.size (v1::v2::rest).toArray:=⟨_,Heap.get?_push_size _ rfl,rfl,0,rfl⟩
  refine wpAny_bind (wpAny_pyIter_tuple tp ?_)
  generalize hg:s.heap.push {cls:= .type "tuple",data:= .seq (v1::v2::rest).toArray}=g at wK tp
  have k0:fK s.heap g:=λb o q=>by rw[<-hg];exact Heap.get?_push_of_some _ q
  apply wpAny_bind
  refine wpAny_newObj_type ?_
  have J2:(g.push {cls:= .type "tuple_iterator",data:= .fields #[.ref s.heap.objs.size,.int 0 0]}).objs.size=s.heap.objs.size+2:=by rw[Heap.size_push,wK]
  rw[nm]
  refine wpAny_pure ⟨plainId_quiet F.plain_max_loop _,Bs (h0:=s.heap) (Walks.tuple (A:=A.in1) hh _ s.heap.objs.size (by rw[wK];exact XG (Ze _)) (v1::v2::rest).toArray) (bt:=bt) (λi j vi vj t Q E g1 p1 p2 q=>hc i j vi vj t Q E g1 (by simpa using p1) (by simpa using p2) q) ?_ (λb o q=>?_) (by simp) (λb o q=>Heap.get?_push_of_some _ (Heap.get?_push_of_some _ (k0 b o q))) ⟨⟨_,Heap.get?_push_of_some _ (Heap.get?_push_size _ rfl),rfl,rfl⟩,(tp.push _).push _⟩ (Heap.get?_push_size _ rfl) λv h' tk p kp=>?_⟩
  ·intro q
   rw[wK,J2]at q
   rcases Xj.mp q with q|q
   ·exact absurd q (by intro z;exact absurd (Nat.succ.inj z) (aav _))
   ·have q:=Xq.mp q
    exact absurd q (by intro z;have:s.heap.objs.size+2=s.heap.objs.size:=z;omega)
  ·have lb:=Heap.lt_size q
   rw[wK,J2]
   refine⟨λz=>?_,λz=>?_⟩
   ·have z:=Xq.mp z
    rw[z]at lb
    exact absurd lb (YW.mpr (YI _))
   ·rw[z]at lb
    exact absurd lb (YW.mpr (X4 _ 2))
  ·refine h v h' tk (by simpa using p) λb o q=>?_
   have lb:=Heap.lt_size q
   refine kp b o (λz=>?_) (λz=>?_) (Heap.get?_push_of_some _ (Heap.get?_push_of_some _ (k0 b o q)))
   ·have z:=Xq.mp z
    rw[z,wK]at lb
    exact absurd lb (YW.mpr (YI _))
   ·rw[z,J2]at lb
    exact absurd lb (YW.mpr (X4 _ 2))
end
end L3
namespace HT
open PySem PyProof.Rows
theorem Du(A:Around)(s:Shared)(a:Int)(t:Tok)(c:Int)(u:Tok)(prog:Program)(w:World)(E:Value->Shared->Prop)(Q:Value->Shared->Prop)(h:Q (.bool (decide (c<a))) s) :
 wpAny (model prog w) A (richCompare .Gt (.int a t) (.int c u)) Q E s:=
 (PyProof.Rows.gt_int h:wpAny (model prog w) A (compareOp .Gt (.int a t) (.int c u)) Q E s)
section
open PySem.SeqAt
open PySem.AutoSeq1 (wpAny_loadPart')
open PySem.MeetsSeq PySem.MeetsSeq2 PySem.MeetsSeq3
theorem sW(l b:Addr)(items items2:Array Value)(n n2:Nat)(dd dd2:Option Addr)(sl sl2:Array (Option Value))(ns ms:List Int)(hi:IntsAre items.toList ns)(hj:IntsAre items2.toList ms) :
 Meets (Builtin.«tuple.__gt__» ⟨[.ref l,.ref b],[]⟩)
  (λ_ R s=>s.heap.get? l=some {cls:= .type "tuple",dict:=dd,data:= .seq items n,slots:=sl}/\s.heap.get? b=some {cls:= .type "tuple",dict:=dd2,data:= .seq items2 n2,slots:=sl2}/\
   R (.ok (.ret (.bool (lexLt ms ns)))) s):=
 .of_wp λprog w A R s h=>by
  obtain⟨hp,g,d,tk,os⟩:=s;obtain⟨hl,hb,h⟩:=h
  have f2:=AutoSeq1.sub_tuple_tuple
  have z1:items.size=ns.length:=by rw[<-hi.length];simp
  have z2:items2.size=ms.length:=by rw[<-hj.length];simp
  wp_walk using wpAny_loadPart' hl,wpAny_loadPart' hb,wpAny_forIn_list _ (λrest b s'=>b.1=none/\s'= ⟨hp,g,d,tk,os⟩/\∃(vs ws:List Value) (ns' ms':List Int),rest=vs.zip ws/\
   IntsAre vs ns'/\IntsAre ws ms'/\ns'.length+items2.size=ms'.length+items.size/\R (.ok (.ret (.bool (lexLt ms' ns')))) ⟨hp,g,d,tk,os⟩) _
  case turn=>
   rintro⟨y,x⟩ rest b s' ⟨hb',rfl,vs,ws,ns',ms',hz,Jz,hwi,hlen,hR⟩
   cases Jz with
   |nil=>rw[aaq]at hz;cases hz
   |cons a t JA=>
    cases hwi with
    |nil=>rw[Y7]at hz;cases hz
    |cons c u JB=>
     rw[Yv]at hz
     injection hz with hyx hrest
     injection hyx with hy hx
     subst hy hx
     rw[jk]at hR
     simp only[Xz]at hlen
     obtain⟨e,he,hiff⟩:=wR A.in1 ⟨hp,g,d,tk,os⟩ a t c u
     refine wpAny_bind (he prog w _ _ ?_)
     cases e with
     |true=>
      rw[if_pos (hiff.mp rfl).symm]at hR
      wp_walk
      exact⟨rfl,rfl,_,_,_,_,hrest,JA,JB,by omega,hR⟩
     |false=>
      rw[if_neg (λq=>absurd (hiff.mpr q.symm) Xv)]at hR
      have PC:=Du A.in1 ⟨hp,g,d,tk,os⟩ a t c u prog w
      wp_walk using PC
      exact⟨_,rfl,by simpa using hR⟩
  case fin=>
   rintro⟨b1,b2⟩ s' ⟨hb',rfl,vs,ws,ns',ms',hz,Jz,hwi,hlen,hR⟩
   simp only at hb'
   subst hb'
   have hv:lexLt ms' ns'=decide (items.size>items2.size):=by
    cases Jz with
    |nil=>
     cases hwi with
     |nil=>
      simp only[Yt]at hlen
      rw[iE]
      exact(decide_eq_false (by omega)).symm
     |cons c u hw=>
      simp only[Yt,Xz]at hlen
      rw[j3]
      exact(decide_eq_false (by omega)).symm
    |cons a t hv=>
     cases hwi with
     |nil=>
      simp only[Yt,Xz]at hlen
      rw[j0]
      exact(decide_eq_true (by omega)).symm
     |cons c u hw=>
      rw[Yv]at hz
      cases hz
   rw[hv]at hR
   wp_walk
   exact⟨_,rfl,by simpa[Builtin.Tuple.tupleCompareSizes]using hR⟩
  case h=>
   exact⟨rfl,rfl,items.toList,items2.toList,ns,ms,rfl,hi,hj,by omega,h⟩
end
section
variable{prog:Program}{w:World}{A:Around}{E:Value->Shared->Prop}{s:Shared}
theorem qK{l b:Addr}{items items2:Array Value}{ns ms:List Int}{Q:Value->Shared->Prop}(hl:IsTup s.heap l items)(hb:IsTup s.heap b items2)(hi:IntsAre items.toList ns)(hj:IntsAre items2.toList ms)
 (hu:A.units<cLine)(h:Q (.bool (lexLt ms ns)) s):wpAny (model prog w) A (compareOp .Gt (.ref l) (.ref b)) Q E s:=by
 obtain⟨⟨cls,dd,data,sl⟩,ho,hc,n,hd⟩:=id hl
 obtain⟨⟨Ml,dd2,data2,sl2⟩,ho2,hc2,n2,hd2⟩:=id hb
 simp only at hc hd hc2 hd2
 subst hc hd hc2 hd2
 exact richCompare_meets_room (op:= .Gt) ⟨_,ho,rfl⟩ ⟨_,ho2,rfl⟩ PySem.F.slot_tuple_gt PySem.F.entry_tuple_gt (PySem.F.args_tuple_gt_2 _ _) (sW l b items items2 n n2 dd dd2 sl sl2 ns ms hi hj)
  ⟨ho,ho2,show Value.bool (lexLt ms ns)≠Value.notImplemented/\Q (.bool (lexLt ms ns)) s from⟨(λx=>nomatch x),h⟩⟩ hu
end
end HT
namespace L3
open PySem PySem.Spec PyProof.Rows L2
section
variable{X:Cx}{pos:Pos}
noncomputable def Na(c:k8)(t:iF):iF:=λD ρ M=>∃J:En->Mp->Prop,(c ρ M λb M1=>if b=true then t {D with nx:=λρ' M'=>bD (J ρ' M')} ρ M1 else bD (J ρ M1))/\∀ρ M,J ρ M->D.nx ρ M
theorem Nb{c:Expr}{a:List Stmt}{tc:k8}{t:iF}(hc:wX X c tc)(ha:iG X a t):vf X (.If c a [] pos) (Na tc t):=by
 constructor
 intro pins s σ H ρ M D I r ⟨J,q,hJ⟩
 refine cu ((dJ hc ha bS).run pins s σ H ρ M {D with nx:=λρ' M'=>bD (J ρ' M')} I r q) λf s' z=>?_
 cases f with
 |next=>obtain⟨σ',H',I',ρ',M',fr,r',p⟩:=z;exact⟨σ',H',I',ρ',M',fr,r',hJ _ _ p.out⟩
 |brk=>exact z
 |cont=>exact z
 |ret u=>exact z
theorem p9(p q:Pl):HT.lexLt [p.x,p.y] [q.x,q.y]=decide (aU p q):=by
 rw[HT.jk,HT.jk,HT.iE]
 by_cases ex:p.x=q.x
 ·rw[if_pos ex]
  by_cases ey:p.y=q.y
  ·rw[if_pos ey];exact(decide_eq_false (by unfold aU;omega)).symm
  ·rw[if_neg ey,decide_eq_decide];unfold aU;omega
 ·rw[if_neg ex,decide_eq_decide];unfold aU;omega
theorem vh{P:Program}{w:World}{K:PySem.W.Frag}{H:Hp}{h:Heap}{p:Pl}{x:V}{u:Value}(ok:gY P w H h)(d:Dat K H p.d x)(r:RelV x u):lQ h u p:=by
 obtain⟨a,xs,rfl,ha,hx⟩:=aM.mp d
 obtain rfl:u=Value.ref a:=r
 obtain⟨its,rv,⟨o,h1,h2,n,h3⟩,_⟩:=di ok ha
 obtain⟨v1,v2,rfl,d1,d2⟩:=w6 hx
 obtain rfl:=aJ.mp d1
 obtain rfl:=aJ.mp d2
 obtain⟨u1,u2,rfl,⟨t1,rfl⟩,⟨t2,rfl⟩⟩:=vals2 rv
 exact⟨a,o,t1,t2,n,rfl,h1,h2,h3⟩
theorem lQ.tup{h:Heap}{v:Value}{p:Pl}(a:lQ h v p):∃(l:Addr) (its:Array Value),v= .ref l/\IsTup h l its/\IntsAre its.toList [p.x,p.y]:=by
 obtain⟨b,o,t,u,n,h1,h2,h3,h4⟩:=a
 exact⟨b,_,h1,⟨o,h2,h3,n,h4⟩,.cons _ _ (.cons _ _ .nil)⟩
noncomputable def c5(h:Heap):List Value->List Pl->Prop:=Paired (lQ h)
theorem j9{P:Program}{w:World}{K:PySem.W.Frag}{H:Hp}{h:Heap}(ok:gY P w H h):∀{ps:List Pl} {xs:List V} {us:List Value},aB K H (ps.map Pl.d) xs->Vals xs us->c5 h us ps
 |[],xs,us,d,r=>by rw[aF.mp d]at r;cases r;exact .nil
 |p::ps,xs,us,d,r=>by
  obtain⟨v,vs,rfl,d1,d2⟩:=az.mp d
  cases r with
  |cons r rr=>exact .cons (vh ok d1 r) (j9 ok d2 rr)
theorem c5.get{h:Heap}:∀{us:List Value} {ps:List Pl} {i:Nat} {u:Value},c5 h us ps->us[i]?=some u->∃p,ps[i]?=some p/\lQ h u p
 |_,_,i,u,.nil,e=>by simp at e
 |_,_,i,u,.cons a r,e=>by
  cases i with
  |zero=>simp at e;subst e;exact⟨_,rfl,a⟩
  |succ i=>exact c5.get (i:=i) r (by simpa using e)
theorem Vals.len{xs:List V}{us:List Value}(r:Vals xs us):us.length=xs.length:=(Vals.length r).symm
noncomputable def bestOf(lt:Pl->Pl->Bool)(ps:List Pl)(i j:Nat):Bool:=lt (ps.getD i ⟨0,0⟩) (ps.getD j ⟨0,0⟩)
noncomputable def Ik(lt:Pl->Pl->Bool):List D->Mp->DK->Prop:=λds M Q=>∃ps:List Pl,ds=ps.map Pl.d/\2<=ps.length/\ps.length<=4/\Q (ps.getD (argBest (bestOf lt ps) (ps.length-1)) ⟨0,0⟩).d M
theorem l8(bt:Nat->Nat->Bool):∀n,argBest bt n<=n
 |0=>Xn 0
 |n+1=>by
  unfold argBest
  split
  ·exact Xn _
  ·exact Nat.le_succ_of_le (l8 bt n)
theorem Gq(a b:Value):argsOk "min" ⟨[a,b],[]⟩:=by unfold argsOk;kernel_rfl
theorem Gr(a b c:Value):argsOk "min" ⟨[a,b,c],[]⟩:=by unfold argsOk;kernel_rfl
theorem Gs(a b c d:Value):argsOk "min" ⟨[a,b,c,d],[]⟩:=by unfold argsOk;kernel_rfl
theorem J6:∀(vs:List Value),2<=vs.length->vs.length<=4->argsOk "min" ⟨vs,[]⟩:=by
 intro vs h2 h4
 cases vs with
 |nil=>exact absurd h2 (by decide)
 |cons a vs=>
  cases vs with
  |nil=>exact absurd h2 (by simp)
  |cons b vs=>
   cases vs with
   |nil=>exact Gq a b
   |cons c vs=>
    cases vs with
    |nil=>exact Gr a b c
    |cons d vs=>
     cases vs with
     |nil=>exact Gs a b c d
     |cons e vs=>exact absurd h4 (by simp only[Xz];omega)
theorem Gu(a b:Value):argsOk "max" ⟨[a,b],[]⟩:=by unfold argsOk;kernel_rfl
theorem Gv(a b c:Value):argsOk "max" ⟨[a,b,c],[]⟩:=by unfold argsOk;kernel_rfl
theorem Gw(a b c d:Value):argsOk "max" ⟨[a,b,c,d],[]⟩:=by unfold argsOk;kernel_rfl
theorem J7:∀(vs:List Value),2<=vs.length->vs.length<=4->argsOk "max" ⟨vs,[]⟩:=by
 intro vs h2 h4
 cases vs with
 |nil=>exact absurd h2 (by decide)
 |cons a vs=>
  cases vs with
  |nil=>exact absurd h2 (by simp)
  |cons b vs=>
   cases vs with
   |nil=>exact Gu a b
   |cons c vs=>
    cases vs with
    |nil=>exact Gv a b c
    |cons d vs=>
     cases vs with
     |nil=>exact Gw a b c d
     |cons e vs=>exact absurd h4 (by simp only[Xz];omega)
theorem J8(hu:X.A.units+64<cLine)(hc:X.calm=true):Call3 X (.builtin "min") (Ik λp q=>decide (aU p q)):=by
 constructor
 intro pins s σ H M xs ds us Q I rm rs dx ⟨ps,e,h2,h4,q⟩
 subst e
 have hl:us.length=ps.length:=by rw[Vals.len rs,<-dx.length,Xi]
 have hp:=j9 I.hok dx rs
 refine Ds (J6 us (by omega) (by omega)) (by omega) (by omega) (I.ok.hd hc) (bt:=bestOf (λp q=>decide (aU p q)) ps) (λi j vi vj t Q E g e1 e2 q=>?_) λv h' tk e g=>?_
 ·obtain⟨p1,f1,a1⟩:=hp.get e1
  obtain⟨p2,f2,a2⟩:=hp.get e2
  obtain⟨l1,i1,rfl,t1,n1⟩:=(a1.grow g).tup
  obtain⟨l2,i2,rfl,t2,n2⟩:=(a2.grow g).tup
  have eb:bestOf (λp q=>decide (aU p q)) ps i j=decide (aU p1 p2):=by unfold bestOf;rw[XE,XE,f1,f2];rfl
  rw[eb,<-p9]at q
  exact(HT.l0 t1 t2 n1 n2 (by show X.A.units+1<cLine;omega) q:wpAny (model X.prog X.w) X.A.in1 (compareOp .Lt (.ref l1) (.ref l2)) Q E t)
 ·rw[hl]at e
  obtain⟨x,ex,rx⟩:∃x,xs[argBest (bestOf (λp q=>decide (aU p q)) ps) (ps.length-1)]?=some x/\RelV x v:=by
   have lt:argBest (bestOf (λp q=>decide (aU p q)) ps) (ps.length-1)<xs.length:=by
    have:=l8 (bestOf (λp q=>decide (aU p q)) ps) (ps.length-1)
    rw[<-dx.length,Xi];omega
   obtain⟨u,eu,ru⟩:=Vals.get rs (Xm lt)
   rw[e]at eu
   cases eu
   exact⟨_,Xm lt,ru⟩
  obtain⟨d,ed,dd⟩:=dx.back ex
  rw[XT]at ed
  have eq:d=(ps.getD (argBest (bestOf (λp q=>decide (aU p q)) ps) (ps.length-1)) ⟨0,0⟩).d:=by
   rw[XE]
   cases z:ps[argBest (bestOf (λp q=>decide (aU p q)) ps) (ps.length-1)]? with
   |none=>rw[z]at ed;cases ed
   |some p=>rw[z]at ed;cases ed;rfl
  subst eq
  exact⟨x,H,I.kept g,rx,aC rm dd q⟩
theorem J9(hu:X.A.units+64<cLine)(hc:X.calm=true):Call3 X (.builtin "max") (Ik λp q=>decide (aU q p)):=by
 constructor
 intro pins s σ H M xs ds us Q I rm rs dx ⟨ps,e,h2,h4,q⟩
 subst e
 have hl:us.length=ps.length:=by rw[Vals.len rs,<-dx.length,Xi]
 have hp:=j9 I.hok dx rs
 refine Dt (J7 us (by omega) (by omega)) (by omega) (by omega) (I.ok.hd hc) (bt:=bestOf (λp q=>decide (aU q p)) ps) (λi j vi vj t Q E g e1 e2 q=>?_) λv h' tk e g=>?_
 ·obtain⟨p1,f1,a1⟩:=hp.get e1
  obtain⟨p2,f2,a2⟩:=hp.get e2
  obtain⟨l1,i1,rfl,t1,n1⟩:=(a1.grow g).tup
  obtain⟨l2,i2,rfl,t2,n2⟩:=(a2.grow g).tup
  have eb:bestOf (λp q=>decide (aU q p)) ps i j=decide (aU p2 p1):=by unfold bestOf;rw[XE,XE,f1,f2];rfl
  rw[eb,<-p9]at q
  exact(HT.qK t1 t2 n1 n2 (by show X.A.units+1<cLine;omega) q:wpAny (model X.prog X.w) X.A.in1 (compareOp .Gt (.ref l1) (.ref l2)) Q E t)
 ·rw[hl]at e
  obtain⟨x,ex,rx⟩:∃x,xs[argBest (bestOf (λp q=>decide (aU q p)) ps) (ps.length-1)]?=some x/\RelV x v:=by
   have lt:argBest (bestOf (λp q=>decide (aU q p)) ps) (ps.length-1)<xs.length:=by
    have:=l8 (bestOf (λp q=>decide (aU q p)) ps) (ps.length-1)
    rw[<-dx.length,Xi];omega
   obtain⟨u,eu,ru⟩:=Vals.get rs (Xm lt)
   rw[e]at eu
   cases eu
   exact⟨_,Xm lt,ru⟩
  obtain⟨d,ed,dd⟩:=dx.back ex
  rw[XT]at ed
  have eq:d=(ps.getD (argBest (bestOf (λp q=>decide (aU q p)) ps) (ps.length-1)) ⟨0,0⟩).d:=by
   rw[XE]
   cases z:ps[argBest (bestOf (λp q=>decide (aU q p)) ps) (ps.length-1)]? with
   |none=>rw[z]at ed;cases ed
   |some p=>rw[z]at ed;cases ed;rfl
  subst eq
  exact⟨x,H,I.kept g,rx,aC rm dd q⟩
noncomputable def TM:List D->Mp->DK->Prop:=λds M Q=>∃p q:Pl,ds=[p.d,q.d]/\Q (lo p q).d M
noncomputable def TN:List D->Mp->DK->Prop:=λds M Q=>∃p q:Pl,ds=[p.d,q.d]/\Q (hi p q).d M
theorem Call3.imp{f:Value}{r r':List D->Mp->DK->Prop}(h:Call3 X f r)(g:∀ds M Q,r' ds M Q->r ds M Q):Call3 X f r':=
 ⟨λpins s σ H M xs ds us Q I rm rs dx q=>h.run pins s σ H M xs ds us Q I rm rs dx (g _ _ _ q)⟩
theorem Nc(hu:X.A.units+64<cLine)(hc:X.calm=true):Call3 X (.builtin "min") TM:=(J8 hu hc).imp λds M Q ⟨p,q,e,h⟩=>by
 refine⟨[p,q],e,Xn 2,X4 2 2,?_⟩
 have e:[p,q].getD (argBest (bestOf (λp q=>decide (aU p q)) [p,q]) ([p,q].length-1)) ⟨0,0⟩=lo p q:=by
  have a:argBest (bestOf (λp q=>decide (aU p q)) [p,q]) ([p,q].length-1)=if decide (aU q p)=true then 1 else 0:=rfl
  rw[a]
  unfold lo
  by_cases c:aU q p
  ·rw[if_pos c,if_pos (decide_eq_true c)];rfl
  ·rw[if_neg c,if_neg (λz=>c (of_decide_eq_true z))];rfl
 rw[e];exact h
theorem Nd(hu:X.A.units+64<cLine)(hc:X.calm=true):Call3 X (.builtin "max") TN:=(J9 hu hc).imp λds M Q ⟨p,q,e,h⟩=>by
 refine⟨[p,q],e,Xn 2,X4 2 2,?_⟩
 have e:[p,q].getD (argBest (bestOf (λp q=>decide (aU q p)) [p,q]) ([p,q].length-1)) ⟨0,0⟩=hi p q:=by
  have a:argBest (bestOf (λp q=>decide (aU q p)) [p,q]) ([p,q].length-1)=if decide (aU p q)=true then 1 else 0:=rfl
  rw[a]
  unfold hi
  by_cases c:aU p q
  ·rw[if_pos c,if_pos (decide_eq_true c)];rfl
  ·rw[if_neg c,if_neg (λz=>c (of_decide_eq_true z))];rfl
 rw[e];exact h
noncomputable def vm(h:Heap)(v:Value):Pl:=Option.getD (α:=Pl) ((Ck h).keyOf v) ⟨0,0⟩
theorem Al{h:Heap}{v:Value}{p:Pl}(a:lQ h v p):vm h v=p:=by
 unfold vm
 have e:(Ck h).keyOf v=some p:=Ak a
 exact congrArg (λo=>Option.getD (α:=Pl) o ⟨0,0⟩) e
theorem c5.keys{h:Heap}:∀{us:List Value} {ps:List Pl},c5 h us ps->us.map (vm h)=ps
 |_,_,.nil=>rfl
 |_,_,.cons a r=>by rw[XQ,Al a,c5.keys r]
theorem c5.mem{h:Heap}:∀{us:List Value} {ps:List Pl} {v:Value},c5 h us ps->v∈us->∃p,lQ h v p
 |_,_,v,.nil,m=>by cases m
 |_,_,v,.cons a r,m=>by
  rcases Xj.mp m with rfl|m
  ·exact⟨_,a⟩
  ·exact c5.mem r m
theorem cQ{α:Type}:∀{vs:List α} {p:α ×α},p∈vs.zip vs->p.1=p.2/\p.1∈vs
 |[],p,m=>by simp at m
 |v::vs,p,m=>by
  rw[Yv]at m
  rcases Xj.mp m with rfl|m
  ·exact⟨rfl,Xu ..⟩
  ·exact⟨(cQ m).1,Xl _ (cQ m).2⟩
theorem sX{P:Program}{w:World}{A:Around}{E:Value->Shared->Prop}{s:Shared}{l:Addr}{vs:List Value}{ps:List Pl}{Q:Value->Shared->Prop}(hl:s.heap.IsList l vs.toArray)(hv:c5 s.heap vs ps)(h64:vs.length<64)
 (h:∀(out:List Value) (qs:List Pl),(∀v∈out,v∈vs)->qs=out.map (vm s.heap)->qs.Perm ps->qs.Pairwise (λp q=> ¬aU q p)->Q (.ref (s.heap.objs.size+1)) {s with heap:=sortedAll s.heap vs out.toArray}) :
 wpAny (model P w) A (call (.builtin "sorted") [.ref l]) Q E s:=by
 have hk:KeysOf (Ck s.heap) (pairsOf vs):=λp hp=>by
  rw[pairsOf_toList]at hp
  obtain⟨q,a⟩:=hv.mem (cQ hp).2
  exact⟨q,Ak a⟩
 refine uq (κ:=Ck s.heap) (kd:=tuples' true) hl hk (λt E Q g h2 q=>Gp (by omega) (λv m=>?_) q) (λt g=>J0 g true) h64 λy hp hs=>?_
 ·obtain⟨p,a⟩:=hv.mem m
  exact⟨p,a.grow g⟩
 ·have pl:y.toList.Perm (vs.zip vs):=by rw[<-pairsOf_toList];exact Array.perm_iff_toList_perm.mp hp
  have same:∀p∈y.toList,p.1=p.2/\p.1∈vs:=λp m=>cQ (pl.mem_iff.mp m)
  have eo:y.map (·.2)=(y.toList.map (·.2)).toArray:=by rw[<-Array.toList_map,Array.toArray_toList]
  rw[eo]
  refine h (y.toList.map (·.2)) _ (λv m=>?_) rfl ?_ ?_
  ·obtain⟨p,m2,rfl⟩:=XW.mp m
   rw[<-(same p m2).1];exact(same p m2).2
  ·have q:=(pl.map (λp=>p.2)).map (vm s.heap)
   have e:(vs.zip vs).map (λp=>p.2)=vs:=aaw (Xn _)
   rw[e,hv.keys]at q
   exact q
  ·rw[ZN]
   intro i j hi hj hij
   have li:i<y.size:=by simpa using hi
   have lj:j<y.size:=by simpa using hj
   have q:=hs i j (Zl hij) (by rw[<-hp.size_eq];exact lj)
   have key:∀k (hk:k<y.size),KK (Ck s.heap) y k=vm s.heap y[k].2:=λk hk=>by
    unfold KK
    rw[getElem?_pos y k hk]
    show Option.getD (α:=Pl) ((Ck s.heap).keyOf y[k].1) ⟨0,0⟩=_
    rw[(same y[k] (by simp)).1]
    rfl
   have q:(Ck s.heap).blt (KK (Ck s.heap) y j) (KK (Ck s.heap) y i)=false:=q
   rw[key i li,key j lj]at q
   have q:decide (aU (vm s.heap y[j].2) (vm s.heap y[i].2))=false:=q
   simpa using of_decide_eq_false q
noncomputable def Gx:List D->Mp->DK->Prop:=λds M Q=>∃(l:Addr) (ps:List Pl),ds=[.ref l]/\M l=some (.lst (ps.map Pl.d))/\ps.length<64/\∀(p:Addr) (qs:List Pl),M p=none->qs.Perm ps->qs.Pairwise (λp q=> ¬aU q p)->Q (.ref p) (au M p (.lst (qs.map Pl.d)))
theorem uw{K:PySem.W.Frag}{H:Hp}{h:Heap}{P:Program}{w:World}(ok:gY P w H h){ps:List Pl}{zs:List V}{vs:List Value}(d:aB K H (ps.map Pl.d) zs)(r:Vals zs vs):∀(out:List Value),(∀v∈out,v∈vs)->
 ∃ws,Vals ws out/\aB K H ((out.map (vm h)).map Pl.d) ws
 |[],_=>⟨[],.nil,aF.mpr rfl⟩
 |v::out,m=>by
  obtain⟨ws,h1,h2⟩:=uw ok d r out λu hu=>m u (Xl _ hu)
  have one:∀{ps:List Pl} {zs:List V} {vs:List Value},aB K H (ps.map Pl.d) zs->Vals zs vs->v∈vs->∃(p:Pl) (x:V),RelV x v/\Dat K H p.d x:=by
   intro ps
   induction ps with
   |nil=>intro zs vs d r m;rw[aF.mp d]at r;cases r;cases m
   |cons p ps ih=>
    intro zs vs d r m
    obtain⟨x,xs,rfl,d1,d2⟩:=az.mp d
    cases r with
    |cons r1 r2=>
     rcases Xj.mp m with rfl|m
     ·exact⟨p,x,r1,d1⟩
     ·exact ih d2 r2 m
  obtain⟨p,x,rx,dx⟩:=one d r (m v (Xu ..))
  refine⟨x::ws,.cons rx h1,?_⟩
  rw[XQ,XQ,Al (vh ok dx rx)]
  exact az.mpr ⟨x,ws,rfl,dx,h2⟩
theorem kc:Call3 X (.builtin "sorted") Gx:=by
 constructor
 intro pins s σ H M xs ds us Q I rm rs dx ⟨l,ps,e,hM,h64,q⟩
 subst e
 obtain⟨v,rfl,hv⟩:=oW dx
 obtain rfl:=aH.mp hv
 obtain⟨u,rfl,r1⟩:=vals1 rs
 obtain rfl:u=Value.ref l:=r1
 obtain⟨zs,hH,hz⟩:=rm.lst hM
 obtain⟨its,rv,pl,hsz⟩:=I.list (jj.of (K:=X.K) hH)
 have hl:its.length=ps.length:=by rw[Vals.len rv,<-hz.length,Xi]
 refine sX pl.isList (j9 I.hok hz rv) (by omega) λout qs hm eq hp hs=>?_
 obtain⟨ws,w1,w2⟩:=uw I.hok hz rv out hm
 rw[<-eq]at w2
 obtain⟨n,hn⟩:=sortedAll_at s.heap its out.toArray
 have fr:H (s.heap.objs.size+1)=none:=I.hok.fresh (YI _)
 have zw:ws.length<=sizeLine:=by
  rw[<-w2.length,Xi,hp.length_eq,sizeLine_eq];omega
 refine⟨.ref (s.heap.objs.size+1),upd H (s.heap.objs.size+1) (.lst ws),I.laid (t':=s.toks) (λb o e=>sortedAll_old e) (YI _) ⟨zw,out,n,w1,hn⟩,rfl,.ref _,au M _ (.lst (qs.map Pl.d)),Fr.new fr λ_ hb=>aT hb,aH.mpr rfl,rm.newL fr w2,q _ _ (rm.free fr) hp hs⟩
end
end L3
local macro_rules| `(tactic|walk_at "sm")=> `(tactic|first|assumption|exact L3.Sm.sign _|exact L3.Sm.zero|exact L3.Sm.one|exact L3.Sm.two|((with_reducible apply L3.Sm.mul)<;>walk_at "sm")|((with_reducible apply L3.Sm.sub)<;>walk_at "sm")|((with_reducible apply L3.Sm.add)<;>walk_at "sm")|((with_reducible apply L3.Sm.neg)<;>walk_at "sm")|((with_reducible apply L3.Sm.abs)<;>walk_at "sm")|((with_reducible apply L3.Sm.emod);(first|omega|decide +kernel);walk_at "sm")|exact L3.Sm.lit _)
local macro_rules| `(tactic|walk_at "mulok")=> `(tactic|(apply L3.MulOk.of;walk_at "sm";walk_at "sm";first|omega|decide +kernel))
local macro_rules| `(tactic|walk_at "rd1")=> `(tactic|first|refine⟨_,rfl,?_⟩|refine⟨_,_,rfl,rfl,?_⟩|refine⟨_,_,_,Or.inl rfl,rfl,rfl,?_⟩|(refine⟨?side,?_⟩;(case side=>first|walk_at "mulok"|(simp only[Xz,Yt];decide)|(show(0:Int)<_;first|omega|(dsimp only;omega)|decide +kernel)|(show(0:Int)<=_;first|omega|(dsimp only;omega))|exact⟨by decide +kernel,by decide +kernel,by decide +kernel⟩|exact⟨by decide +kernel,_,L3.Sm.lit _,by decide +kernel⟩|(left;walk_at "mulok")|exact Or.inr (Or.inr ⟨by decide,by decide⟩)|decide))|refine⟨rfl,?_⟩|refine⟨trivial,?_⟩|refine⟨_,Or.inl rfl,rfl,?_⟩|refine⟨_,_,rfl,Or.inl rfl,?_⟩|refine⟨_,_,_,_,rfl,L3.Dc.int _,L3.m7,?_⟩|refine⟨_,_,_,_,rfl,L3.Dc.tup _,L3.m7,?_⟩|refine⟨_,_,_,_,rfl,L3.Dc.bl _,L3.m7,?_⟩|refine⟨_,_,rfl,?_⟩|refine⟨_,_,_,rfl,?_⟩|refine⟨_,_,_,_,rfl,?_⟩)
local macro_rules| `(tactic|walk_at "rd")=> `(tactic|repeat walk_at "rd1")
local macro_rules| `(tactic|walk_at "smle")=> `(tactic|(apply L3.Sm.le;walk_at "sm";first|omega|decide +kernel))
local macro_rules| `(tactic|walk_at "om")=> `(tactic|first|omega|(dsimp only;omega))
namespace L3
open PySem L2
theorem Il{a b c:Pl}(ha:a.Ok 140)(hb:b.Ok 140)(hc:c.Ok 140):Sm 290 (tw a b c):=by
 obtain⟨a1,a2⟩:=ha
 obtain⟨b1,b2⟩:=hb
 obtain⟨c1,c2⟩:=hc
 unfold tw
 walk_at "smle"
theorem kg{α:Type}{qs:List α}(h:qs.length=3):∃u v w,qs=[u,v,w]:=by
 match qs,h with
 |[u,v,w],_=>exact⟨u,v,w,rfl⟩
theorem Dv{α:Type}{v w b c:α}(h:[v,w].Perm [b,c]):(v=b/\w=c)\/(v=c/\w=b):=by
 have m:v∈[b,c]:=h.mem_iff.mp (by simp)
 rcases Xj.mp m with rfl|m
 ·exact .inl ⟨rfl,by have:=(YR v).mp h;simpa using this⟩
 ·have:=Xq.mp m
  subst this
  have h2:=(YR v).mp (h.trans (List.Perm.swap v b []))
  exact .inr ⟨rfl,by simpa using h2⟩
theorem Dw{α:Type}{u v w a b c:α}(h:[u,v,w].Perm [a,b,c]):(u=a/\v=b/\w=c)\/(u=a/\v=c/\w=b)\/(u=b/\v=a/\w=c)\/(u=b/\v=c/\w=a)\/(u=c/\v=a/\w=b)\/(u=c/\v=b/\w=a):=by
 have m:u∈[a,b,c]:=h.mem_iff.mp (by simp)
 rcases Xj.mp m with rfl|m
 ·rcases Dv ((YR u).mp h)with⟨e1,e2⟩|⟨e1,e2⟩
  ·exact .inl ⟨rfl,e1,e2⟩
  ·exact .inr (.inl ⟨rfl,e1,e2⟩)
 ·rcases Xj.mp m with rfl|m
  ·have h2:=(YR u).mp (h.trans (List.Perm.swap u a [c]))
   rcases Dv h2 with⟨e1,e2⟩|⟨e1,e2⟩
   ·exact .inr (.inr (.inl ⟨rfl,e1,e2⟩))
   ·exact .inr (.inr (.inr (.inl ⟨rfl,e1,e2⟩)))
  ·have:=Xq.mp m
   subst this
   have h2:=(YR u).mp (h.trans ((List.Perm.cons a (List.Perm.swap u b [])).trans (List.Perm.swap u a [b])))
   rcases Dv h2 with⟨e1,e2⟩|⟨e1,e2⟩
   ·exact .inr (.inr (.inr (.inr (.inl ⟨rfl,e1,e2⟩))))
   ·exact .inr (.inr (.inr (.inr (.inr ⟨rfl,e1,e2⟩))))
theorem xj{n:Nat}{u v w a b c:Pl}(h:[u,v,w].Perm [a,b,c])(ha:a.Ok n)(hb:b.Ok n)(hc:c.Ok n):u.Ok n/\v.Ok n/\w.Ok n:=by
 rcases Dw h with⟨rfl,rfl,rfl⟩|⟨rfl,rfl,rfl⟩|⟨rfl,rfl,rfl⟩|⟨rfl,rfl,rfl⟩|⟨rfl,rfl,rfl⟩|⟨rfl,rfl,rfl⟩<;>exact⟨by assumption,by assumption,by assumption⟩
noncomputable instance(p q r s:Pl):Decidable (TH p q r s):=inferInstanceAs (Decidable (_\/_))
theorem Ka(i j:Int):(!dH (.int i) (.int j))=decide (i≠j):=by
 rw[gi,Yk]
 simp
theorem dD(qs:List Pl):(qs.map Pl.d).all (plain 9)=true:=by
 rw[ZA,Ym]
 intro q _
 rfl
end L3
namespace L3
open PySem PySem.Spec PyProof.Rows L2
theorem cL{gd:Mp->Prop}{g:wJ}{tb:iF}{D:yt}{ρ:En}{M:Mp}(Pv:Nat->En->Mp->Prop)(xs:List L3.D)
 (hs:∀(R:L3.D->Mp->Prop) (B:En->Mp->Prop) (i:Nat) (x:L3.D) (ρ:En) (M:Mp) (N:En->Mp->Prop),xs[i]?=some x->Pv i ρ M->(∀ρ' M',Pv (i+1) ρ' M'->N ρ' M')->gd M/\g x ρ M λρ2 M2=>tb {nx:=N,rt:=R,bk:=B,ct:=N} ρ2 M2)
 (hd:∀ρ M,Pv xs.length ρ M->gd M/\D.nx ρ M)(h0:Pv 0 ρ M):runFor gd g tb D xs ρ M:=
 qE Pv xs (λi x ρ M N a b c=>hs D.rt D.nx i x ρ M N a b c) hd h0
end L3
namespace L3
open PySem PySem.Spec PyProof.Rows L2
noncomputable def cM(cells:List (Str ×Addr))(names:List (Str ×NameKind))(cs:List (Str ×Addr)):List (Str ×Addr):=
 names.foldl (λcs y=>if(y.2==NameKind.free)=true then(y.1,(cells.lookup y.1).getD 0)::cs else cs) cs
theorem qL{α β:Type}{f:α->β->Sem (ForInStep β)}{g:β->α->β}:∀{l:List α} {b:β},(∀x∈l,∀b,f x b=pure (.yield (g b x)))->forIn l b f=(pure (l.foldl g b):Sem β)
 |[],b,_=>rfl
 |x::l,b,h=>by
  rw[Y8,h x (Xu ..),pure_bind]
  exact qL λy hy=>h y (Xl _ hy)
theorem yQ{sc:Scope}{env:Env}(h:∀y∈sc.names,y.2= .free->∃c,env.cells.lookup y.1=some c):closureFor sc env=pure (cM env.cells sc.names []):=by
 unfold closureFor cM
 dsimp only
 rw[qL (g:=λcs y=>if(y.2==NameKind.free)=true then(y.1,(env.cells.lookup y.1).getD 0)::cs else cs)]
 ·rfl
 ·rintro⟨n,k⟩ hy b
  by_cases hk:k= .free
  ·subst hk
   obtain⟨c,hc⟩:=h _ hy rfl
   have hc:env.cells.lookup n=some c:=hc
   simp[cellOf,hc]
  ·have hb:(k==NameKind.free)=false:=by simpa using hk
   simp[hb]
theorem oX{cells:List (Str ×Addr)}{x:Str}{c:Addr}:∀{names:List (Str ×NameKind)} {cs:List (Str ×Addr)},(∀y∈names,y.2= .free->∃c,cells.lookup y.1=some c)->(∀x c,cs.lookup x=some c->cells.lookup x=some c)->
 (cM cells names cs).lookup x=some c->cells.lookup x=some c
 |[],cs,_,h,e=>h x c e
 |(n,k)::r,cs,hf,h,e=>by
  refine oX (names:=r) (cs:=if(k==NameKind.free)=true then(n,(cells.lookup n).getD 0)::cs else cs) (λy hy=>hf y (Xl _ hy)) (λx c q=>?_) e
  split at q
  ·rename_i hk
   rw[X9]at q
   split at q
   ·rename_i hx
    have hx:=eq_of_beq hx
    subst hx
    obtain⟨c',hc⟩:=hf (x,k) (Xu ..) (eq_of_beq hk)
    have hc:cells.lookup x=some c':=hc
    rw[hc]at q
    rw[hc];exact q
   ·exact h x c q
  ·exact h x c q
theorem oY{cells:List (Str ×Addr)}{x:Str}:∀{names:List (Str ×NameKind)} {cs:List (Str ×Addr)},((cs.lookup x).isSome=true\/(x,NameKind.free)∈names)->((cM cells names cs).lookup x).isSome=true
 |[],cs,h=>by
  rcases h with h|h
  ·exact h
  ·cases h
 |(n,k)::r,cs,h=>by
  refine oY (names:=r) (cs:=if(k==NameKind.free)=true then(n,(cells.lookup n).getD 0)::cs else cs) ?_
  rcases h with h|h
  ·left
   split
   ·rw[X9]
    split
    ·rfl
    ·exact h
   ·exact h
  ·rcases Xj.mp h with e|h
   ·left
    cases e
    simp[X9]
   ·exact .inr h
theorem mem_of_lookup{β:Type}{x:Str}{b:β}:∀{l:List (Str ×β)},l.lookup x=some b->(x,b)∈l
 |[],h=>by cases h
 |(n,c)::r,h=>by
  rw[X9]at h
  split at h
  ·rename_i hx
   cases h
   have:=eq_of_beq hx
   subst this
   exact Xu ..
  ·exact Xl _ (mem_of_lookup h)
noncomputable def b8(outer:Scope)(N:List Str)(sc:Scope)(x:Str)(ys:List Str)(fs:List Nat):Bool:=
 (sc.kind== .function) && (outer.kind== .function) && sc.names.all (λy=>!(y.2== .cell) && (!(y.2== .local) || sc.names.lookup y.1==some .local) && (!(y.2== .free) || outer.names.lookup y.1==some .cell)) && (sc.names.lookup x==some .local) &&
  decide (ys.length=fs.length) && (ys.zip fs).all (λp=>N[p.2]?==some p.1 && sc.names.lookup p.1==some .free) && decide (x::ys).Nodup
structure qM(outer:Scope)(N:List Str)(sc:Scope)(x:Str)(ys:List Str)(fs:List Nat):Prop where
 kind:sc.kind= .function
 Nf:outer.kind= .function
 Dy:∀y∈sc.names,y.2≠ .cell
 names:∀y∈sc.names,y.2= .local->sc.names.lookup y.1=some .local
 OJ:∀y∈sc.names,y.2= .free->outer.names.lookup y.1=some .cell
 loc:sc.names.lookup x=some .local
 len:ys.length=fs.length
 at':∀(k:Nat) y,ys[k]?=some y->∃i,fs[k]?=some i/\N[i]?=some y/\sc.names.lookup y=some .free
 nd:(x::ys).Nodup
theorem qM.of{outer:Scope}{N:List Str}{sc:Scope}{x:Str}{ys:List Str}{fs:List Nat}(h:b8 outer N sc x ys fs=true):qM outer N sc x ys fs:=by
 unfold b8 at h
 simp only[X3,Ym,decide_eq_true_eq]at h
 obtain⟨⟨⟨⟨⟨⟨h1,TQ⟩,h2⟩,h3⟩,h4⟩,h5⟩,h6⟩:=h
 refine⟨eq_of_beq h1,eq_of_beq TQ,λy hy z=>?_,λy hy z=>?_,λy hy z=>?_,eq_of_beq h3,h4,λk y e=>?_,h6⟩
 ·have:=(h2 y hy).1.1
  rw[z]at this
  simp at this
 ·have:=(h2 y hy).1.2
  rw[z]at this
  simpa using this
 ·have:=(h2 y hy).2
  rw[z]at this
  simpa using this
 ·have hk:k<fs.length:=by rw[<-h4];exact(XH.mp e).1
  have ez:(ys.zip fs)[k]?=some (y,fs[k]):=by
   rw[List.getElem?_zip_eq_some]
   exact⟨e,Xm hk⟩
  obtain⟨q1,q2⟩:=h5 _ (XJ ez)
  exact⟨fs[k],Xm hk,eq_of_beq q1,eq_of_beq q2⟩
theorem m9{env:Env}{y:Str}(hk:env.scope.kind= .function)(hc:env.scope.names.lookup y=some .cell):∀{names:List (Str ×NameKind)},names.lookup y=some .free->
 (names.map λ(n,k)=>if(k==NameKind.free && env.scope.kind== .function && env.kindOf n==some .cell)then(n,NameKind.cell)else(n,k)).lookup y=some .cell
 |[],h=>by cases h
 |(n,k)::r,h=>by
  rw[X9]at h
  split at h
  ·rename_i hx
   cases h
   have:=eq_of_beq hx
   subst this
   have hc:env.kindOf y=some .cell:=hc
   simp[hk,hc,X9]
  ·rename_i hx
   have ih:=m9 hk hc h
   simp only[XQ]
   split
   ·rw[X9,hx];exact ih
   ·rw[X9,hx];exact ih
noncomputable abbrev uz(X:Cx)(sc:Scope)(x:Str)(ys:List Str)(cl:List (Str ×Addr))(C:Addr)(s0:Shared)(H0:Hp)(ex:List Addr):Cx:=
 {X with N:=x::ys,s₀:=s0,H₀:=H0,env:=compEnvC sc cl C X.env,outer:=X.stack,ex:=ex,fn:=λ_=>false,pn:=[],xe:=λ_ _=>False}
structure Lx(X:Cx)(ifs:List Expr)(t:k8):Prop where
 run:∀(pins:List (Addr ×Obj)) (s:Shared) (σ:St) (H:Hp) (ρ:En) (M:Mp) (Q:Bool->Mp->Prop),Inv X pins σ H s->Rep X.K H σ ρ M->t ρ M Q->
  wpAny (model X.prog X.w) X.A (forIn ifs true λc r=>if r=true then do {let ok <-isTrue c X.env (eval c X.env);pure (ForInStep.yield ok)}else pure (ForInStep.yield r)) (TP X pins σ (oU X.K M H Q)) X.xe s
noncomputable def Ql:k8:=λ_ M Q=>Q true M
theorem Dz{X:Cx}:Lx X [] Ql:=⟨λpins s σ H ρ M Q I r q=>wpAny_tests_nil ⟨H,I,M,.refl _ _,r.mem,q⟩⟩
theorem oZ{X:Cx}{c:Expr}{t:k8}(h:wX X c t):Lx X [c] t:=⟨λpins s σ H ρ M Q I r q=>wpAny_tests_one (h.run pins s σ H ρ M Q I r q)⟩
noncomputable def ng(gd:Mp->Prop)(tt:k8)(te:cG)(fr:En)(Q:List D->Mp->Prop):List D->List D->Mp->Prop
 |[],acc,M=>gd M/\Q acc M
 |d::ds,acc,M=>gd M/\tt (some d::fr) M λb M1=>if b=true then te (some d::fr) M1 λy M2=>ng gd tt te fr Q ds (acc++[y]) M2 else ng gd tt te fr Q ds acc M1
noncomputable def nh(fs:List Nat)(ρ:En):En:=fs.map λi=>(ρ[i]?).join
section
variable{X:Cx}{sc:Scope}{x:Str}{ys:List Str}{fs:List Nat}
theorem DA{fs:List Nat}{ρ:En}{k:Nat}{d:D}(h:(nh fs ρ)[k]?=some (some d)):∃i,fs[k]?=some i/\ρ[i]?=some (some d):=by
 unfold nh at h
 rw[XT]at h
 cases e:fs[k]? with
 |none=>rw[e]at h;cases h
 |some i=>
  rw[e]at h
  refine⟨i,rfl,?_⟩
  have h:(ρ[i]?).join=some d:=Option.some.inj h
  cases q:ρ[i]? with
  |none=>rw[q]at h;cases h
  |some o=>rw[q]at h;rw[show o=some d from h]
theorem Bt{pins:List (Addr ×Obj)}{σ:St}{H:Hp}{s s':Shared}{C:Addr}{fp:List Addr}{cl:List (Str ×Addr)}{ρ:En}{M:Mp}(ck:qM X.env.scope X.N sc x ys fs)(I:Inv X pins σ H s)(r:Rep X.K H σ ρ M)(hcl:cl=cM X.env.cells sc.names [])
 (hC:s.heap.objs.size<=C)(old:∀b o,s.heap.get? b=some o->s'.heap.get? b=some o)(ns:∃m,s'.heap.Ns C m)(hos:s'.os=s.os)(hg:s'.gens=s.gens)(hf:∀b∈fp,jS X pins H b)(hfp:∀b∈fp,b<s.heap.objs.size) :
 ∃σ',Inv (uz X sc x ys cl C s H fp) [] σ' H s'/\Rep X.K H σ' (none::nh fs ρ) M:=by
 have DB:∀y∈sc.names,y.2= .free->∃c,X.env.cells.lookup y.1=some c:=λy hy hk=>I.ok.has y.1 (.inl (ck.OJ y hy hk))
 have cf:∀{y c},cl.lookup y=some c->X.env.cells.lookup y=some c:=λ{y c} e=>by rw[hcl]at e;exact oX DB (λ_ _ z=>by cases z) e
 have ch:∀y,sc.names.lookup y=some .free->∃c,cl.lookup y=some c:=λy e=>by rw[hcl];exact ZT.mp (oY (.inr (mem_of_lookup e)))
 have rk:∀y k,(relabel sc X.env).names.lookup y=some k->(k= .cell\/k= .free)->∃c,cl.lookup y=some c:=by
  intro y k e hk
  have:∃k',sc.names.lookup y=some k'/\(k'=k\/k'= .free):=by
   clear ck DB cf ch
   revert e
   show(sc.names.map _).lookup y=some k->_
   generalize sc.names=names
   intro e
   induction names with
   |nil=>cases e
   |cons p r ih=>
    obtain⟨n,kn⟩:=p
    simp only[XQ]at e
    rw[X9]
    split
    ·rename_i hx
     split at e
     ·rename_i hc
      refine⟨kn,rfl,.inr ?_⟩
      simp only[X3]at hc
      exact eq_of_beq hc.1.1
     ·rw[X9,hx]at e
      exact⟨kn,rfl,.inl (Option.some.inj e)⟩
    ·rename_i hx
     split at e<;>(rw[X9,hx]at e;exact ih e)
  obtain⟨k',e',hk'⟩:=this
  rcases hk' with rfl|rfl
  ·rcases hk with rfl|rfl
   ·exact absurd rfl (ck.Dy _ (mem_of_lookup e'))
   ·exact ch y e'
  ·exact ch y e'
 have lfp:∀b∈fp,b≠C:=λb hb z=>absurd (Xp (hfp b hb) hC) (by rw[z];exact Ys _)
 have ok:(uz X sc x ys cl C s H fp).Ok:={
  mod:=I.ok.mod
  kind:=ck.kind
  glob:=I.ok.glob
  blt:=I.ok.blt
  above:=hC
  inj:=λa b c e1 e2=>I.ok.inj a b c (cf e1) (cf e2)
  has:=λy hy=>by
   rcases hy with hy|hy
   ·exact rk y _ hy (.inl rfl)
   ·exact rk y _ hy (.inr rfl)
  IZ:=λ_ _ z=>by cases z
  hd:=I.ok.hd
  frames:=I.ok.frames
  stk:= .inl rfl
  Lu:=λb hb=>⟨lfp b hb,λy c e=>(hf b hb).2.2.2.2.1 y c (cf e)⟩
  bs:=I.bs
  Cz:=Yj I.ok.Cz I.sz
  yz:=λb o e hb=>by
   rcases(hf b hb).2.2.2.1 with z|z
   ·exact I.ok.yz b o e z
   ·exact absurd (Xp (Heap.lt_size (I.ok.bs b o e).1) z) (Ys _)
  yC:=λb hb z=>by
   rcases Xj.mp (I.uX b z)with e|e
   ·exact(hf b hb).2.1 e
   ·exact(hf b hb).2.2.1 e
  lY:=I.stack
  Ff:=I.pW}
 have fC:H C=none:=I.hok.fresh hC
 obtain⟨m,hm⟩:=ns
 refine⟨none::fs.map (λi=>(σ[i]?).join),⟨ok,hos,by rw[hg];exact I.bare,Un.kept old,⟨m,hm,λi y v e1 e2 e3=>?_⟩,λy c e=>?_,fC,λy c e=>I.gB y c (cf e),λp hp=>(by cases hp),I.hok.kept old,by simp[ck.len]⟩,⟨λi d e=>?_,?_,r.mem⟩⟩
 ·cases i with
  |zero=>cases e2
  |succ i=>
   have e1:ys[i]?=some y:=e1
   obtain⟨j,f1,f2,f3⟩:=ck.at' i y e1
   have e2:(fs.map λi=>(σ[i]?).join)[i]?=some (some v):=e2
   rw[XT,f1]at e2
   have e2:(σ[j]?).join=some v:=Option.some.inj e2
   have e4:σ[j]?=some (some v):=by
    cases q:σ[j]? with
    |none=>rw[q]at e2;cases e2
    |some o=>rw[q]at e2;rw[show o=some v from e2]
   have hc:X.env.scope.names.lookup y=some .cell:=ck.OJ (y,.free) (mem_of_lookup f3) rfl
   obtain⟨m0,_,hl⟩:=I.loc
   obtain⟨u,ru,lk⟩:=hl j y v f2 e4 (.inr (.inl hc))
   refine⟨u,ru,?_⟩
   rcases lk with⟨k1,_⟩|⟨_,c,e5,e6⟩
   ·have k1:X.env.scope.names.lookup y=some .local:=k1
    rw[hc]at k1;cases k1
   ·obtain⟨c',e7⟩:=ch y f3
    have:=cf e7
    rw[e5]at this
    cases this
    refine .inr ⟨.inl (m9 I.ok.kind hc f3),c,e7,?_⟩
    obtain⟨o,ho,hd⟩:=e6
    exact⟨o,old _ _ ho,hd⟩
 ·obtain⟨v,o,ho,hd⟩:=I.cell y c (cf e)
  exact⟨v,o,old _ _ ho,hd⟩
 ·cases i with
  |zero=>cases e
  |succ i=>
   obtain⟨j,f1,f2⟩:=DA (show(nh fs ρ)[i]?=some (some d)from e)
   obtain⟨v,g1,g2⟩:=r.env j d f2
   refine⟨v,?_,g2⟩
   show(fs.map λi=>(σ[i]?).join)[i]?=some (some v)
   rw[XT,f1]
   show some ((σ[j]?).join)=_
   rw[g1];rfl
 ·simp[nh]
end
end L3
namespace L3
open PySem PySem.Spec PyProof.Rows L2
section
variable{X:Cx}{sc:Scope}{x:Str}{ys:List Str}{fs:List Nat}{elt iter:Expr}{px pos:Pos}{ifs:List Expr}{tt:k8}{te:cG}
theorem yR{α:Type}{t:Sem α}{Q Q':α->Shared->Prop}{M:Model}{A:Around}{E:Value->Shared->Prop}{s:Shared}(h:wpAny M A t Q (λ_ _=>False) s)(hQ:∀a s,Q a s->Q' a s):wpAny M A t Q' E s:=wpAny_mono h hQ λ_ _ z=>z.elim
theorem xm(elt target iter:Expr)(ifs:List Expr)(sc:Scope)(pos:Pos)(it acc:Value)(env:Env):compTurn (.ListComp elt [⟨target,iter,ifs,0⟩] sc pos) 0 it acc env=(standAt iter.pos >>= λ_=>pyNext it >>= λr=>match r with
 |none=>pure (.done .next)
 |some v=>letOwnedTupleGo target it v >>= λ_=>assign target env v >>= λ_=>(forIn ifs true λc r=>if r=true then do {let ok <-isTrue c env (eval c env);pure (ForInStep.yield ok)}else pure (ForInStep.yield r)) >>= λok=>
  if ok=true then(eval elt env >>= λy=>call (.builtin "list.append") [acc,y] >>= λ_=>again (.compLoop (.ListComp elt [⟨target,iter,ifs,0⟩] sc pos) 0 it acc env))else again (.compLoop (.ListComp elt [⟨target,iter,ifs,0⟩] sc pos) 0 it acc env)):=by
 rw[compTurn_list]
 congr 1;funext _;congr 1;funext r
 cases r with
 |none=>rfl
 |some v=>
  dsimp only
  congr 1;funext _;congr 1;funext _;congr 1;funext ok
  cases ok with
  |false=>rfl
  |true=>simp only[if_true,bind_assoc,pure_bind]
structure Qm(X X':Cx)(Dl:Addr)(fp:List Addr)(tn:Nat->Heap->Prop)(M0:Mp)(H0:Hp)(fr:En)(i:Nat)(s:Shared)(acc:List D)(M:Mp):Prop where
 ex:∃σ H y ws,Inv X' [] σ H s/\tn i s.heap/\(∀b∈fp,H b=none)/\Rep X.K H σ (y::fr) M/\Fr M0 H0 M H/\H Dl=some (.lst ws)/\M Dl=none/\aB X.K H acc ws/\acc.length<=i
theorem Gy(hc:X.calm=true)(ck:qM X.env.scope X.N sc x ys fs)(ht:∀cl C s0 H0 ex,Lx (uz X sc x ys cl C s0 H0 ex) ifs tt)(he:∀cl C s0 H0 ex,bZ (uz X sc x ys cl C s0 H0 ex) elt te)
 {pins:List (Addr ×Obj)}{σ:St}{H:Hp}{s:Shared}{ρ:En}{M:Mp}{it:Addr}{fp:List Addr}{tn:Nat->Heap->Prop}{J:It}{inv:Hp->Prop}{ds:List D}{gd:Mp->Prop}{Q:DK}{E:Value->Shared->Prop}{Ma:Mp}{Ha:Hp}{use:Option (Value->Sem Unit)}{Qs:Value->Shared->Prop}(fa:Fr Ma Ha M H)
 (fin:∀(C Dl:Addr) (s6:Shared) (H5:Hp),Inv X pins σ H5 s6->(∃m,s6.heap.Ns C m)->jS X pins H5 C->Post X.K Ma Ha Q (.ref Dl) H5->compPost (model X.prog X.w) X.A E use Qs (.ref Dl) C (.ok .next) s6)
 (I:Inv X pins σ H s)(r:Rep X.K H σ ρ M)(T:Turn X.prog X.w X.K (.Name x px) J fp it tn)(st:tn 0 s.heap)(hf:∀b∈fp,jS X pins H b)(hJ:Bk X.K J inv ds)(hz:ds.length<sizeLine)
 (stay:∀M1 H1,Fr M H M1 H1->bB X.K H1 M1->gd M1->inv H1)(q:ng gd tt te (nh fs ρ) (λzs M2=> ∀p,M2 p=none->Q (.ref p) (au M2 p (.lst zs))) ds [] M) :
 wpAny (model X.prog X.w) X.A (newList []) (λacc s3=>wpAny (model X.prog X.w) X.A (newFunctionEnv sc X.env.globals (cM X.env.cells sc.names []) [] X.env.qual none .none (some X.env)) (λcenv s4=>
  codeAny (model X.prog X.w) X.A (.compStart (.ListComp elt [⟨.Name x px,iter,ifs,0⟩] sc pos) 0 (.ref it) acc {cenv with scope:=relabel sc X.env}) (compPost (model X.prog X.w) X.A E use Qs acc cenv.locals) s4) E s3) E s:=by
 have hfp:∀b∈fp,b<s.heap.objs.size:=λb hb=>by
  obtain⟨o,e,_⟩:=T.obj 0 _ st b hb
  exact Heap.lt_size e
 refine wpAny_newList (hsz:=Yn _) ?_
 have fD:H s.heap.objs.size=none:=I.hok.fresh (Xn _)
 have k1:∀b o,s.heap.get? b=some o->(s.heap.push {cls:= .type "list",data:= .seq ([]:List Value).toArray}).get? b=some o:=λb o e=>Heap.get?_push_of_some _ e
 have z3:(s.heap.push {cls:= .type "list",data:= .seq ([]:List Value).toArray}).objs.size=s.heap.objs.size+1:=Heap.size_push ..
 have I3:Inv X pins σ (upd H s.heap.objs.size (.lst [])) {s with heap:=s.heap.push {cls:= .type "list",data:= .seq ([]:List Value).toArray}}:=
  I.laid (t':=s.toks) k1 (Xn _) ⟨Yn _,[],0,.nil,Heap.get?_push_size _ rfl⟩
 refine wpAny_newFunctionEnv ck.Dy (λy hy=>by cases hy) (λh1 RV RW=>?_) ck.kind
 generalize RX:({s with heap:=s.heap.push {cls:= .type "list",data:= .seq ([]:List Value).toArray}}:Shared)=s3 at I3 RV RW ⊢
 have TR:s3.heap.objs.size=s.heap.objs.size+1:=by rw[<-RX];exact z3
 have old:∀b o,s3.heap.get? b=some o->h1.get? b=some o:=λb o e=>RW.extBut b o (XG (Heap.lt_size e)) (Heap.get?_push_of_some _ e)
 have RY:∀b∈fp,jS X pins (upd H s.heap.objs.size (.lst [])) b:=λb hb=>⟨by rw[aA (XG (hfp b hb))];exact(hf b hb).1,(hf b hb).2⟩
 have RZ:Fr M H M (upd H s.heap.objs.size (.lst [])):=Fr.new fD λ_ _=>rfl
 have r3:Rep X.K (upd H s.heap.objs.size (.lst [])) σ ρ M:=r.go RZ (r.mem.new fD)
 obtain⟨σ',I4,r4⟩:=Bt (s:=s3) (s':={s3 with heap:=h1,toks:=s3.toks+([]:List (Str ×Value)).length}) (C:=s3.heap.objs.size) (fp:=fp) ck I3 r3 rfl (Xn _) old ⟨_,RV⟩ rfl rfl RY (λb hb=>by rw[TR];exact Yz (hfp b hb))
 have MD:M s.heap.objs.size=none:=r.mem.free fD
 have R0:tn 0 h1:=T.keep 0 _ _ st λb hb o e=>old b o (by rw[<-RX];exact k1 b o e)
 have Qn:∀{H':Hp},(∀b∈fp,H' b=none)->∀b∈fp,jS (uz X sc x ys (cM X.env.cells sc.names []) s3.heap.objs.size s3 (upd H s.heap.objs.size (.lst [])) fp) [] H' b:=λ{H'} hn b hb=>
  ⟨hn b hb,(I4.ok.Lu b hb).1,I4.ok.yC b hb,.inl hb,λy c e z=>(I4.ok.Lu b hb).2 y c e z,λp hp=>by cases hp⟩
 have loop:∀s4:Shared,s4= {s3 with heap:=h1,toks:=s3.toks+([]:List (Str ×Value)).length}->
  codeAny (model X.prog X.w) X.A (.compLoop (.ListComp elt [⟨.Name x px,iter,ifs,0⟩] sc pos) 0 (.ref it) (.ref s.heap.objs.size) ((uz X sc x ys (cM X.env.cells sc.names []) s3.heap.objs.size s3 (upd H s.heap.objs.size (.lst [])) fp)).env) (compPost (model X.prog X.w) X.A E use Qs (.ref s.heap.objs.size) s3.heap.objs.size) s4:=by
  rintro s4 rfl
  refine codeAny_loop rfl (I:=λn s'=>∃i acc M',n=ds.length-i/\i<=ds.length/\Qm X (uz X sc x ys (cM X.env.cells sc.names []) s3.heap.objs.size s3 (upd H s.heap.objs.size (.lst [])) fp) s.heap.objs.size fp tn M H (nh fs ρ) i s' acc M'/\ng gd tt te (nh fs ρ) (λzs M2=> ∀p,M2 p=none->Q (.ref p) (au M2 p (.lst zs))) (ds.drop i) acc M')
   (λn s5 hI=>?_) ds.length ⟨0,[],M,rfl,Yn _,⟨σ',_,none,[],I4,R0,λb hb=>(RY b hb).1,r4,RZ,aY,MD,aF.mpr rfl,Xn _⟩,q⟩
  obtain⟨i,acc,M5,rfl,hi,⟨σ5,H5,y5,ws,I5,Lv,f5,r5,FF,R4,R5,R6,Wk⟩,q5⟩:=hI
  show wpAny (model X.prog X.w) X.A ((compTurn (.ListComp elt [⟨.Name x px,iter,ifs,0⟩] sc pos) 0 (.ref it) (.ref s.heap.objs.size) ((uz X sc x ys (cM X.env.cells sc.names []) s3.heap.objs.size s3 (upd H s.heap.objs.size (.lst [])) fp)).env).onRaise (λz=>do {noteFrame z ((uz X sc x ys (cM X.env.cells sc.names []) s3.heap.objs.size s3 (upd H s.heap.objs.size (.lst [])) fp)).env;theTreesLotGoes z})) _ _ s5
  refine wpAny_noted ?_
  rw[xm]
  refine wpAny_bind (wpAny_standAt ?_)
  by_cases hlt:i<ds.length
  ·have hdr:ds.drop i=ds[i]::ds.drop (i+1):=Zg hlt
   rw[hdr]at q5
   obtain⟨hg,q5⟩:=q5
   have hinv:=stay M5 H5 FF r5.mem hg
   refine wpAny_bind (yR (T.item (uz X sc x ys (cM X.env.cells sc.names []) s3.heap.objs.size s3 (upd H s.heap.objs.size (.lst [])) fp) rfl rfl rfl hc i [] s5 σ5 H5 (λ_ _=>False) I5 (Qn f5) Lv (hJ.go i H5 hlt hinv)) λr6 s6 ⟨u,e6,h6⟩=>?_)
   subst e6
   refine wpAny_bind (yR h6 λ_ s7 ⟨v,H7,I7,rv,yl,Qo,f7⟩=>?_)
   obtain⟨e7,d,hd1,hd2⟩:=hJ.FE i H5 v H7 hlt hinv yl
   subst e7
   have ed:d=ds[i]:=Option.some.inj (hd1.symm.trans (Xm hlt))
   subst ed
   have TU:=I7.pinned (Qn f7) (T.obj _ _ Qo)
   have lx:(relabel sc X.env).names.lookup x=some .local:=lookup_relabel_local ck.loc
   refine wpAny_bind (yR ((cW (X:=(uz X sc x ys (cM X.env.cells sc.names []) s3.heap.objs.size s3 (upd H s.heap.objs.size (.lst [])) fp)) (i:=0) (x:=x) (pos:=px) ck.nd rfl (.inl lx) (.inr lx)).run _ s7 σ5 H7 (y5::nh fs ρ) M5 v ds[i] u (λρ' M'=>ρ'=some ds[i]::nh fs ρ/\M'=M5) TU r5 rv hd2 ⟨rfl,rfl⟩) λ_ s8 ⟨σ8,H8,I8,ρ8,M8,Qp,r8,e8,TV⟩=>?_)
   subst e8 TV
   obtain⟨TX,TY⟩:=Qp _ _ R5 R4
   refine wpAny_bind (yR ((ht _ _ _ _ _).run _ s8 σ8 H8 _ M8 _ I8 r8 q5) λb s9 ⟨H9,I9,M9,OL,TZ,q9⟩=>?_)
   obtain⟨R7,R8⟩:=OL _ _ TY TX
   have r9:=r8.go OL TZ
   have Ng:=(FF.trans Qp).trans OL
   have R9:aB X.K H9 acc ws:=aB.mono ((Qp.trans OL).ext r5.mem) _ _ R6
   have next:∀{H':Hp} {s':Shared},Inv (uz X sc x ys (cM X.env.cells sc.names []) s3.heap.objs.size s3 (upd H s.heap.objs.size (.lst [])) fp) ([]++qk fp s7.heap) σ8 H' s'->(tn (i+1) s'.heap/\∀b∈fp,H' b=none):=λ{H' s'} I'=>by
    have pin:∀b∈fp,∀o,s7.heap.get? b=some o->s'.heap.get? b=some o/\H' b=none:=λb hb o e=>by
     have:=I'.pin (b,o) (XN _ (XN _ (lZ hb e)))
     exact⟨this.1,this.2.1⟩
    refine⟨T.keep _ _ _ Qo λb hb o e=>(pin b hb o e).1,λb hb=>?_⟩
    obtain⟨o,e,_⟩:=T.obj _ _ Qo b hb
    exact(pin b hb o e).2
   cases b with
   |false=>
    rw[if_neg Xv]
    obtain⟨n1,n2⟩:=next I9
    exact wpAny_pure ⟨rfl,ds.length-(i+1),by omega,i+1,acc,M9,rfl,hlt,⟨σ8,H9,_,ws,I9.jZ,n1,n2,r9,Ng,R7,R8,R9,by omega⟩,q9⟩
   |true=>
    rw[if_pos rfl]
    refine wpAny_bind (yR ((he _ _ _ _ _).run _ s9 σ8 H9 _ M9 _ I9 r9 q9) λT3 T4 ⟨v10,Im,T5,Qq,dy,DC,Gz,Qt,Nh,T6⟩=>?_)
    obtain⟨Ni,Nj⟩:=Gz _ _ R8 R7
    have Sa:=r9.go Gz Nh
    have Nk:aB X.K Im acc ws:=aB.mono (Gz.ext r9.mem) _ _ R9
    have lw:ws.length<sizeLine:=by rw[<-Nk.length];omega
    refine wpAny_bind (yR (k7 (X:=(uz X sc x ys (cM X.env.cells sc.names []) s3.heap.objs.size s3 (upd H s.heap.objs.size (.lst [])) fp)) _ T4 σ8 Im (.ref s.heap.objs.size) [v10] (.ref s.heap.objs.size) [T3] (λ_ H'=>H'=upd Im s.heap.objs.size (.lst (ws++[v10]))) T5 rfl (.cons Qq .nil) ⟨_,ws,v10,rfl,rfl,Ni,lw,rfl⟩) λ_ Wl ⟨_,Wm,Sb,_,T7⟩=>?_)
    subst T7
    have ex:Ext Im (upd Im s.heap.objs.size (.lst (ws++[v10]))):=Ext.j4 Ni
    have Qu:bB X.K (upd Im s.heap.objs.size (.lst (ws++[v10]))) DC:=λa o e=>by
     have na:a≠s.heap.objs.size:=λz=>by rw[z,Nj]at e;cases e
     exact(Nh a o e).mono ex λu q=>by rw[aA na];exact q
    have T8:Rep X.K (upd Im s.heap.objs.size (.lst (ws++[v10]))) σ8 (some ds[i]::nh fs ρ) DC:=⟨λj d e=>let ⟨v,e1,e2⟩:=Sa.env j d e;⟨v,e1,Dat.mono ex _ _ e2⟩,Sa.len,Qu⟩
    have Qv:Fr M H DC (upd Im s.heap.objs.size (.lst (ws++[v10]))):=λb o n e=>by
     obtain⟨e1,n1⟩:=(Ng.trans Gz) b o n e
     exact⟨by rw[aA (br e fD)];exact e1,n1⟩
    obtain⟨n1,n2⟩:=next Sb
    exact wpAny_pure ⟨rfl,ds.length-(i+1),by omega,i+1,acc++[dy],DC,rfl,hlt,⟨σ8,_,_,ws++[v10],Sb.jZ,n1,n2,T8,Qv,aY,Nj,aB.mono ex _ _ (Nk.append (aB.one Qt)),by simp;omega⟩,T6⟩
  ·have ei:i=ds.length:=by omega
   subst ei
   rw[Z3 (Xn _)]at q5
   obtain⟨hg,q5⟩:=q5
   have hinv:=stay M5 H5 FF r5.mem hg
   refine wpAny_bind (yR (T.done (uz X sc x ys (cM X.env.cells sc.names []) s3.heap.objs.size s3 (upd H s.heap.objs.size (.lst [])) fp) rfl rfl rfl hc ds.length [] s5 σ5 H5 (λ_ _=>False) I5 (Qn f5) Lv (hJ.stop H5 hinv)) λr6 s6 ⟨e6,I6⟩=>?_)
   subst e6
   refine wpAny_pure ?_
   obtain⟨m,hm,_⟩:=id I6.loc
   have I7:Inv X pins σ H5 s6:=I3.zP (s':=s6) (ch:=fp) I6.os I6.base I6.hok I6.bare λb hb=>⟨(hf b hb).2.2.2.1,(hf b hb).2.1,(hf b hb).2.2.2.2.1,(hf b hb).2.2.2.2.2⟩
   refine fin _ _ s6 H5 I7 ⟨m,hm⟩ (I3.CH (Xn _) I6.free) (Post.back fa ⟨.ref s.heap.objs.size,au M5 s.heap.objs.size (.lst acc),λb o n e=>?_,aH.mpr rfl,λa o e=>?_,q5 _ R5⟩)
   ·obtain⟨e1,n1⟩:=FF b o n e
    exact⟨e1,by rw[aT (br e fD)];exact n1⟩
   ·by_cases ha:a=s.heap.objs.size
    ·subst ha
     rw[ah]at e
     cases e
     exact⟨ws,R4,R6⟩
    ·rw[aT ha]at e
     exact r5.mem a o e
 exact codeAny_compStart_list (loop _ rfl) (T.self X.A 0 _ _ _ R0 (loop _ rfl))
end
end L3
namespace L3
open PySem PySem.Spec PyProof.Rows L2
section
variable{X:Cx}{sc:Scope}{x:Str}{ys:List Str}{fs:List Nat}{elt iter:Expr}{px pos:Pos}{ifs:List Expr}{tt:k8}{te:cG}{ti:cG}
noncomputable def Qw(Q:DK):List D->Mp->Prop:=λzs M2=> ∀p,M2 p=none->Q (.ref p) (au M2 p (.lst zs))
noncomputable def Qx(fs:List Nat)(ti:cG)(tt:k8)(te:cG):cG:=λρ M Q=>ti ρ M λd M1=>∃xs,d= .tup xs/\xs.length<sizeLine/\bD (ng (λ_=>True) tt te (nh fs ρ) (Qw Q) xs [] M1)
noncomputable def Qy(fs:List Nat)(ti:cG)(tt:k8)(te:cG):cG:=λρ M Q=>ti ρ M λd M1=>∃a xs,d= .ref a/\M1 a=some (.lst xs)/\xs.length<sizeLine/\bD (ng (λM=>M a=some (.lst xs)) tt te (nh fs ρ) (Qw Q) xs [] M1)
noncomputable def T9(X:Cx)(fs:List Nat)(tt:k8)(te:cG)(σ:St)(ρ:En)(M:Mp)(H:Hp)(Q:DK):It->Hp->Prop:=λJ H2=>∃M2 inv ds gd,Fr M H M2 H2/\Rep X.K H2 σ ρ M2/\Bk X.K J inv ds/\ds.length<sizeLine/\(∀M1 H1,Fr M2 H2 M1 H1->bB X.K H1 M1->gd M1->inv H1)/\ng gd tt te (nh fs ρ) (Qw Q) ds [] M2
theorem GA{pins:List (Addr ×Obj)}{σ:St}{M:Mp}{H:Hp}{Q:DK}{E:Value->Shared->Prop}:∀(C Dl:Addr) (s6:Shared) (H5:Hp),Inv X pins σ H5 s6->(∃m,s6.heap.Ns C m)->jS X pins H5 C->Post X.K M H Q (.ref Dl) H5->
 compPost (model X.prog X.w) X.A E none (EP X pins σ (Post X.K M H Q)) (.ref Dl) C (.ok .next) s6:=λC Dl s6 H5 I ⟨m,hm⟩ f P=>
 ⟨m,hm,λh' sb=>⟨.ref Dl,H5,I.turned (t':=s6.toks) (λb o hb e=>sb.extBut b o hb e) f.1 f.2.1 f.2.2.2.1 f.2.2.2.2.1 f.2.2.2.2.2,rfl,P⟩⟩
theorem Io{use:Option (Value->Sem Unit)}{Qs:Value->Shared->Prop}{ps:Pos}(hc:X.calm=true)(hk:b8 X.env.scope X.N sc x ys fs=true)(ht:∀cl C s0 H0 ex,Lx (uz X sc x ys cl C s0 H0 ex) ifs tt)(he:∀cl C s0 H0 ex,bZ (uz X sc x ys cl C s0 H0 ex) elt te)
 (hs:∀z,foldedSetIterable iter X.env z=pure z){pins:List (Addr ×Obj)}{s:Shared}{σ:St}{H:Hp}{ρ:En}{M:Mp}{Q:DK}(I:Inv X pins σ H s)
 (fin:∀(C Dl:Addr) (s6:Shared) (H5:Hp),Inv X pins σ H5 s6->(∃m,s6.heap.Ns C m)->jS X pins H5 C->Post X.K M H Q (.ref Dl) H5->compPost (model X.prog X.w) X.A X.xe use Qs (.ref Dl) C (.ok .next) s6)
 (h:wpAny (model X.prog X.w) X.A (eval iter X.env) (λv s1=>wpAny (model X.prog X.w) X.A (pyIter v) (Pk X pins σ (.Name x px) (T9 X fs tt te σ ρ M H Q)) X.xe s1) X.xe s) :
 wpAny (model X.prog X.w) X.A (comprehension (.ListComp elt [⟨.Name x px,iter,ifs,0⟩] sc pos) sc X.env ps (newList []) false (eval iter X.env) use) Qs X.xe s:=by
 have ck:=qM.of hk
 refine wpAny_comprehension_free (use:=use) (cl:=cM X.env.cells sc.names []) rfl hs (yQ λy hy z=>I.ok.has y.1 (.inl (ck.OJ y hy z))) ck.kind ck.names (cu h λv s1 h1=>cu h1 λitv s2 h2=>?_)
 obtain⟨it,fp,tn,J,H2,e,I2,T,st2,f2,M2,inv,ds,gd,fr,r2,hJ,hz,stay,q⟩:=h2
 subst e
 exact Gy hc ck ht he fr fin I2 r2 T st2 f2 hJ hz stay q
structure OM(X:Cx)(sc:Scope)(x:Str)(px:Pos)(ys:List Str)(fs:List Nat)(iter:Expr)(ifs:List Expr)(elt:Expr)(t:cG):Prop where
 run:∀{use:Option (Value->Sem Unit)} {Qs:Value->Shared->Prop} {ps pos:Pos} {pins:List (Addr ×Obj)} {s:Shared} {σ:St} {H:Hp} {ρ:En} {M:Mp} {Q:DK},Inv X pins σ H s->Rep X.K H σ ρ M->t ρ M Q->
  (∀(C Dl:Addr) (s6:Shared) (H5:Hp),Inv X pins σ H5 s6->(∃m,s6.heap.Ns C m)->jS X pins H5 C->Post X.K M H Q (.ref Dl) H5->compPost (model X.prog X.w) X.A X.xe use Qs (.ref Dl) C (.ok .next) s6)->
  wpAny (model X.prog X.w) X.A (comprehension (.ListComp elt [⟨.Name x px,iter,ifs,0⟩] sc pos) sc X.env ps (newList []) false (eval iter X.env) use) Qs X.xe s
theorem Bu{t:cG}(h:OM X sc x px ys fs iter ifs elt t):bZ X (.ListComp elt [⟨.Name x px,iter,ifs,0⟩] sc pos) t:=by
 constructor
 intro pins s σ H ρ M Q I r q
 rw[eval_ListComp]
 exact h.run I r q GA
theorem DE{t:cG}{j:Nat}{y:Str}{py spos:Pos}(h:OM X sc x px ys fs iter ifs elt t)(hN:X.N.Nodup)(hj:X.N[j]?=some y)(hy:Loc X.env.scope y)
 (hsw:swapsWith (.ListComp elt [⟨.Name x px,iter,ifs,0⟩] sc pos) (some (.Name y py)) spos.line X.env=pure true:=by rfl)(hf:X.fn y=true\/X.env.scope.names.lookup y=some .local:=by first|exact .inl rfl|exact .inr rfl) :
 vf X (.Assign [.Name y py] (.ListComp elt [⟨.Name x px,iter,ifs,0⟩] sc pos) spos) (Ih j t):=by
 constructor
 intro pins s σ H ρ M D I r q
 rw[exec_Assign_Name_used _ _ _ _ hsw]
 refine wpAny_bind (wpAny_standAt (wpAny_bind ?_))
 show wpAny (model X.prog X.w) X.A (do {let _ <-comprehension (.ListComp elt [⟨.Name x px,iter,ifs,0⟩] sc pos) sc X.env _ (newList []) false (eval iter X.env) (some (assign (.Name y py) X.env))}) _ _ s
 refine wpAny_bind (cu (h.run (use:=some (assign (.Name y py) X.env)) (Qs:=λ_ s'=>SP X pins (ends X.K M H D) .next s') I r q λC Dl s6 H5 I6 hC f P=>?_) λ_ s' hq=>wpAny_pure (wpAny_pure hq))
 obtain⟨m,o,es,ep,ho,hd,hrest⟩:=hC
 obtain⟨d,M5,FF,dd,Ua,q5⟩:=P
 have Ub:Inv X (pins++[(C,o)]) σ H5 s6:=I6.pX λp hp=>(XI.mp hp).elim (λz=>I6.pin p (XN _ z)) λz=>by
  have e:=Xq.mp z
  subst e
  exact⟨ho,f.1,f.2.1,f.2.2.1,λv z=>by rw[hd]at z;cases z⟩
 refine cu ((cW (i:=j) (x:=y) (pos:=py) hN hj hy hf).run _ s6 σ H5 ρ M5 (.ref Dl) d (.ref Dl) (D.nx) Ub (r.go FF Ua) rfl dd q5) λ_ s7 ⟨σ7,H7,I7,ρ7,M7,Uc,r7,q7⟩=>?_
 have pin:=I7.pin (C,o) (XN _ (XN _ (Xq.mpr rfl)))
 refine⟨m,⟨o,es,ep,pin.1,hd,hrest⟩,λh' sb=>?_⟩
 have I8:Inv X pins σ7 H7 s7:=I7.pX λp hp=>I7.pin p (XN _ (Xx _ hp))
 exact⟨σ7,H7,I8.turned (t':=s7.toks) (λb o hb e=>sb.extBut b o hb e) pin.2.1 f.2.1 f.2.2.2.1 f.2.2.2.2.1 f.2.2.2.2.2,ρ7,M7,FF.trans Uc,r7,q7⟩
theorem Am(hc:X.calm=true)(hk:b8 X.env.scope X.N sc x ys fs=true)(hi:bZ X iter ti)(ht:∀cl C s0 H0 ex,Lx (uz X sc x ys cl C s0 H0 ex) ifs tt)(he:∀cl C s0 H0 ex,bZ (uz X sc x ys cl C s0 H0 ex) elt te)
 (hs:∀z,foldedSetIterable iter X.env z=pure z:=by intro _;rfl):OM X sc x px ys fs iter ifs elt (Qx fs ti tt te):=by
 constructor
 intro use Qs ps pos pins s σ H ρ M Q I r h fin
 refine Io (ρ:=ρ) hc hk ht he hs I fin (CJ hi.dn pins s σ H _ I (cJ r h λv H' d M' f dv r' ⟨xs,e1,hz,q⟩=>?_))
 subst e1
 obtain⟨a,zs,rfl,ha,hy⟩:=aM.mp dv
 refine⟨a,rfl,⟨zs,nS.of ha⟩,M',_,xs,_,f,r',Dg,hz,λM1 H1 f1 _ _=>⟨zs,?_,aB.mono (f1.ext r'.mem) _ _ hy⟩,q.out⟩
 exact(f1 a _ (r'.mem.vd ha (λ_ z=>by cases z)) ha).1
theorem qN(hc:X.calm=true)(hk:b8 X.env.scope X.N sc x ys fs=true)(hi:bZ X iter ti)(ht:∀cl C s0 H0 ex,Lx (uz X sc x ys cl C s0 H0 ex) ifs tt)(he:∀cl C s0 H0 ex,bZ (uz X sc x ys cl C s0 H0 ex) elt te)
 (hs:∀z,foldedSetIterable iter X.env z=pure z:=by intro _;rfl):OM X sc x px ys fs iter ifs elt (Qy fs ti tt te):=by
 constructor
 intro use Qs ps pos pins s σ H ρ M Q I r h fin
 refine Io (ρ:=ρ) hc hk ht he hs I fin (zR hi.dn pins s σ H _ I (cJ r h λv H' d M' f dv r' ⟨a,xs,e1,hM,hz,q⟩=>?_))
 subst e1
 obtain rfl:=aH.mp dv
 obtain⟨zs,ha,hy⟩:=r'.mem.lst hM
 exact⟨a,rfl,⟨zs,jj.of ha⟩,M',_,xs,_,f,r',Dh,hz,λM1 H1 f1 gX g1=>gX.lst g1,q.out⟩
theorem cE{gd:Mp->Prop}{fr:En}{Q:List D->Mp->Prop}{M:Mp}(Pv:Nat->List D->Mp->Prop):∀(ds:List D),(∀(i:Nat) (d:D) (acc:List D) (M:Mp) (N:List D->Mp->Prop),ds[i]?=some d->Pv i acc M->(∀acc' M',Pv (i+1) acc' M'->N acc' M')->
 gd M/\tt (some d::fr) M λb M1=>if b=true then te (some d::fr) M1 λy M2=>N (acc++[y]) M2 else N acc M1)->
 (∀acc M,Pv ds.length acc M->gd M/\Q acc M)->Pv 0 [] M->ng gd tt te fr Q ds [] M:=by
 intro ds hstep hend h0
 have key:∀(zs:List D) (i:Nat) (acc:List D) (M:Mp),ds.drop i=zs->Pv i acc M->i<=ds.length->ng gd tt te fr Q zs acc M:=by
  intro zs
  induction zs with
  |nil=>
   intro i acc M e p hi
   have:ds.length<=i:=by
    have:=congrArg List.length e
    rw[Yq]at this
    simp at this
    omega
   obtain rfl:i=ds.length:=by omega
   exact hend acc M p
  |cons z zs ih=>
   intro i acc M e p hi
   have hx:ds[i]?=some z:=by
    have:=congrArg (λl=>l[0]?) e
    simpa using this
   have hlt:i<ds.length:=(XH.mp hx).1
   refine hstep i z acc M _ hx p λacc' M' p'=>ih (i+1) acc' M' ?_ p' hlt
   rw[<-aaB,e]
   rfl
 exact key ds 0 [] M rfl h0 (Yn _)
end
end L3
namespace L3
open PySem PySem.Spec PyProof.Rows L2
structure ON(outer:Scope)(N:List Str)(sc:Scope)(x:Str)(ys:List Str)(fs:List Nat):Prop where
 kind:sc.kind= .function
 Nf:outer.kind= .function
 names:∀y∈sc.names,y.2= .local->sc.names.lookup y.1=some .local
 OJ:∀y∈sc.names,y.2= .free->outer.names.lookup y.1=some .cell
 loc:sc.names.lookup x=some .cell
 cells:sc.names.filter (λy=>y.2== .cell)=[(x,.cell)]
 len:ys.length=fs.length
 at':∀(k:Nat) y,ys[k]?=some y->∃i,fs[k]?=some i/\N[i]?=some y/\sc.names.lookup y=some .free
 nd:(x::ys).Nodup
section
variable{X:Cx}{sc:Scope}{x:Str}{ys:List Str}{fs:List Nat}
end
section
variable{X:Cx}{sc:Scope}{x:Str}{ys:List Str}{fs:List Nat}{elt iter:Expr}{px pos:Pos}{ifs:List Expr}{tt:k8}{te:cG}{ti:cG}
end
end L3
namespace L3
open PySem PySem.Spec PyProof.Rows L2
section
variable{X:Cx}
theorem xq{ds es:List D}(h:ds.length≠es.length):gC ds es=false:=by
 rw[gD,beq_eq_false_iff_ne.mpr h,aaa]
noncomputable abbrev Nl:=En->Mp->(Option Int->Mp->Prop)->Prop
structure OO(X:Cx)(e:Option Expr)(t:Nl):Prop where
 dn:∃t2:TO,PO X e t2/\∀σ H ρ M Q Q',Rep X.K H σ ρ M->t ρ M Q->(∀o H' M',Fr M H M' H'->Rep X.K H' σ ρ M'->Q o M'->Q' o H')->t2 σ H Q'
noncomputable def Qz:Nl:=λ_ M Q=>Q none M
noncomputable def Kc(t:cG):Nl:=λρ M Q=>t ρ M λd M1=>∃i,d= .int i/\Q (some i) M1
theorem Bv:OO X none Qz:=⟨zX,FO,λσ H ρ M Q Q' r q k=>k none H M (.refl _ _) r q⟩
theorem fR{e:Expr}{t:cG}(h:bZ X e t):OO X (some e) (Kc t):=⟨HV (L3.dn X.K t),FP h.dn,λσ H ρ M Q Q' r q k=>cJ r q λv H' d M' f dv r' ⟨i,e1,q⟩=>by
 subst e1
 obtain rfl:=aJ.mp dv
 exact⟨i,rfl,k (some i) H' M' f r' q⟩⟩
noncomputable def cutD(xs:List D)(lo hi:Option Int):List D:=(xs.drop (HT.mR xs.length 0 lo)).take (HT.mR xs.length xs.length hi-HT.mR xs.length 0 lo)
theorem aB.drop{K:PySem.W.Frag}{H:Hp}:∀{ds:List D} {xs:List V} (n:Nat),aB K H ds xs->aB K H (ds.drop n) (xs.drop n)
 |ds,xs,0,h=>h
 |[],xs,n+1,h=>by rw[aF.mp h];exact aF.mpr rfl
 |d::ds,xs,n+1,h=>by
  obtain⟨v,vs,rfl,_,h2⟩:=az.mp h
  exact aB.drop n h2
theorem aB.take{K:PySem.W.Frag}{H:Hp}:∀{ds:List D} {xs:List V} (n:Nat),aB K H ds xs->aB K H (ds.take n) (xs.take n)
 |ds,xs,0,h=>aF.mpr rfl
 |[],xs,n+1,h=>by rw[aF.mp h];exact aF.mpr rfl
 |d::ds,xs,n+1,h=>by
  obtain⟨v,vs,rfl,h1,h2⟩:=az.mp h
  exact az.mpr ⟨v,vs.take n,rfl,h1,aB.take n h2⟩
noncomputable def Nm:R3:=λd e M Q=>∃a b xs ys,d= .ref a/\e= .ref b/\M a=some (.lst xs)/\M b=some (.lst ys)/\xs.length+ys.length<=sizeLine/\∀p,M p=none->Q (.ref p) (au M p (.lst (xs++ys)))
theorem o4:lN X (binaryOp .Add) Nm:=JI JG λH M x y d e Q rm dx dy ⟨a,b,xs,ys,e1,e2,ha,hb,hz,q⟩=>by
 subst e1;subst e2
 obtain rfl:=aH.mp dx
 obtain rfl:=aH.mp dy
 obtain⟨zs,h1,h2⟩:=rm.lst ha
 obtain⟨ws,h3,h4⟩:=rm.lst hb
 exact⟨a,b,zs,ws,rfl,rfl,h1,h3,by rw[<-h2.length,<-h4.length];exact hz,λp hp=>⟨.ref p,au M p (.lst (xs++ys)),Fr.new hp λ_ hb=>aT hb,aH.mpr rfl,rm.newL hp (h2.append h4),q p (rm.free hp)⟩⟩
end
end L3
namespace L3
open PySem PySem.Spec PyProof.Rows L2
section
variable{X:Cx}
noncomputable def Cm(M:Mp)(d:D)(xs:List D):Prop:=d= .wW xs\/∃a,d= .ref a/\M a=some (.lst xs)
theorem Cm.of{M:Mp}{a:Addr}{xs:List D}(h:M a=some (.lst xs)):Cm M (.ref a) xs:= .inr ⟨a,rfl,h⟩
theorem Cm.sq{K:PySem.W.Frag}{H:Hp}{M:Mp}{d:D}{xs:List D}{x:V}(h:Cm M d xs)(rm:bB K H M)(dx:Dat K H d x):∃a zs,x= .ref a/\jj K H a zs/\aB K H xs zs:=by
 rcases h with rfl|⟨a,rfl,hM⟩
 ·obtain⟨a,zs,rfl,h1,h2⟩:=mS.mp dx
  exact⟨a,zs,rfl,h1.sq,h2⟩
 ·obtain rfl:=aH.mp dx
  obtain⟨zs,h1,h2⟩:=rm.lst hM
  exact⟨a,zs,rfl,jj.of h1,h2⟩
noncomputable def Nn:R3:=λd e M Q=>∃xs ys,Cm M d xs/\Cm M e ys/\xs.all (plain 9)=true/\ys.all (plain 9)=true/\Q (.bl (gC xs ys)) M
noncomputable def Np:R3:=λd e M Q=>∃xs ys,Cm M d xs/\Cm M e ys/\xs.all (plain 9)=true/\ys.all (plain 9)=true/\Q (.bl (!gC xs ys)) M
theorem Kd(hu:X.A.units+64<cLine):lN X (compareOp .Eq) Nn:=by
 constructor
 intro pins s σ H M x y d e v u Q I rm rx ry dx dy ⟨xs,ys,ha,hb,pa,pb,q⟩
 obtain⟨a,zs,rfl,h1,h2⟩:=ha.sq rm dx
 obtain⟨b,ws,rfl,h3,h4⟩:=hb.sq rm dy
 obtain rfl:v=Value.ref a:=rx
 obtain rfl:u=Value.ref b:=ry
 obtain⟨its,rv,pl,hz⟩:=I.list h1
 obtain⟨its2,sU,Nq,hz2⟩:=I.list h3
 have l1:=h2.length.trans rv.length
 have l2:=h4.length.trans sU.length
 have fin:∀k,k=gC xs ys->EP X pins σ (Post X.K M H Q) (.bool k) s:=λk e=>⟨.bl k,H,I,rfl,aC rm (aS.mpr rfl) (by rw[e];exact q)⟩
 by_cases hs:its.toArray.size=its2.toArray.size
 ·refine SeqAt.RcAt.lists (A:=X.A) (s:=s) (e:=λj=>dH (xs.getD j .bg) (ys.getD j .bg)) pl.isList Nq.isList hs (by omega) (mW I.hok (n:=9) (by show X.A.units+1+9<cLine;omega) pa pb h2 h4 rv sU) _ _ _ _ (fin _ ?_)
  simp only[Xr]at hs
  rw[gD,Xr,<-l1]
  have e:ys.length=xs.length:=by omega
  rw[e,aan,beq_self_eq_true,Bool.and_true]
 ·refine SeqAt.RcAt.lists_lengths (A:=X.A) (s:=s) pl.isList Nq.isList (by simpa using hs) (by omega) _ _ _ _ (fin _ ?_)
  simp only[Xr]at hs
  exact(xq (by omega)).symm
theorem DF(hu:X.A.units+64<cLine):lN X (compareOp .NotEq) Np:=by
 constructor
 intro pins s σ H M x y d e v u Q I rm rx ry dx dy ⟨xs,ys,ha,hb,pa,pb,q⟩
 obtain⟨a,zs,rfl,h1,h2⟩:=ha.sq rm dx
 obtain⟨b,ws,rfl,h3,h4⟩:=hb.sq rm dy
 obtain rfl:v=Value.ref a:=rx
 obtain rfl:u=Value.ref b:=ry
 obtain⟨its,rv,pl,hz⟩:=I.list h1
 obtain⟨its2,sU,Nq,hz2⟩:=I.list h3
 have l1:=h2.length.trans rv.length
 have l2:=h4.length.trans sU.length
 have fin:∀k,k=(!gC xs ys)->EP X pins σ (Post X.K M H Q) (.bool k) s:=λk e=>⟨.bl k,H,I,rfl,aC rm (aS.mpr rfl) (by rw[e];exact q)⟩
 by_cases hs:its.toArray.size=its2.toArray.size
 ·refine SeqAt.RcNeAt.lists (A:=X.A) (s:=s) (e:=λj=>dH (xs.getD j .bg) (ys.getD j .bg)) pl.isList Nq.isList hs (by omega) (mW I.hok (n:=9) (by show X.A.units+1+9<cLine;omega) pa pb h2 h4 rv sU) _ _ _ _ (fin _ ?_)
  simp only[Xr]at hs
  rw[gD,Xr,<-l1]
  have e:ys.length=xs.length:=by omega
  rw[e,aan,beq_self_eq_true,Bool.and_true]
 ·refine SeqAt.RcNeAt.lists_lengths (A:=X.A) (s:=s) pl.isList Nq.isList (by simpa using hs) (by omega) _ _ _ _ (fin _ ?_)
  simp only[Xr]at hs
  rw[xq (by omega)]
  rfl
noncomputable def yS:D->Bool| .bg=>true|_=>false
noncomputable def QA:R3:=λd e M Q=>e= .bg/\Q (.bl (yS d)) M
noncomputable def Nr:R3:=λd e M Q=>e= .bg/\Q (.bl (!yS d)) M
theorem uA{K:PySem.W.Frag}{H:Hp}{d:D}{x:V}(h:Dat K H d x):decide (x= .bg)=yS d:=by
 cases d with
 |bg=>obtain rfl:=bQ.mp h;rfl
 |bl b=>obtain rfl:=aS.mp h;rfl
 |int i=>obtain rfl:=aJ.mp h;rfl
 |str z=>obtain rfl:=gg.mp h;rfl
 |ty n=>obtain rfl:=vc.mp h;rfl
 |ref a=>obtain rfl:=aH.mp h;rfl
 |tup ds=>obtain⟨a,xs,rfl,_⟩:=aM.mp h;rfl
 |wW ds=>obtain⟨a,xs,rfl,_⟩:=mS.mp h;rfl
 |HZ n=>obtain⟨a,o,u,rfl,_⟩:=Ae.mp h;rfl
 |exc C nm ds=>obtain⟨a,o,u,xs,rfl,_⟩:=mT.mp h;rfl
theorem Nt:lN X (compareOp .Is) QA:=JI Js λH M x y d e Q rm dx dy ⟨e1,q⟩=>by
 subst e1
 exact⟨bQ.mp dy,by rw[uA dx];exact aC rm (aS.mpr rfl) q⟩
theorem Ke:lN X (compareOp .IsNot) Nr:=JI FH λH M x y d e Q rm dx dy ⟨e1,q⟩=>by
 subst e1
 exact⟨bQ.mp dy,by rw[uA dx];exact aC rm (aS.mpr rfl) q⟩
noncomputable def Kf:List D->Mp->DK->Prop:=λds M Q=>∃d xs,ds=[d]/\Cm M d xs/\∀p,M p=none->Q (.ref p) (au M p (.lst xs))
theorem qO:Call3 X (.type "list") Kf:=C9 u9 λH M xs ds Q rm dx ⟨d,ys,e1,hs,q⟩=>by
 subst e1
 obtain⟨v,rfl,hv⟩:=oW dx
 obtain⟨a,zs,rfl,h1,h2⟩:=hs.sq rm hv
 exact⟨a,zs,rfl,.inl h1,λp hp=>⟨.ref p,au M p (.lst ys),Fr.new hp λ_ hb=>aT hb,aH.mpr rfl,rm.newL hp h2,q p (rm.free hp)⟩⟩
noncomputable def Nu:List D->Mp->DK->Prop:=λds M Q=>∃d xs,ds=[d]/\Cm M d xs/\Q (.tup xs) M
theorem GB:Call3 X (.type "tuple") Nu:=C9 sQ λH M xs ds Q rm dx ⟨d,ys,e1,hs,q⟩=>by
 subst e1
 obtain⟨v,rfl,hv⟩:=oW dx
 obtain⟨a,zs,rfl,h1,h2⟩:=hs.sq rm hv
 exact⟨a,zs,rfl,.inl ⟨h1,λp hp=>⟨.tup ys,M,Fr.new hp λ_ _=>rfl,aM.mpr ⟨p,zs,rfl,aY,aB.mono (Ext.new hp) _ _ h2⟩,rm.new hp,q⟩⟩⟩
noncomputable def QB(te:cG)(tl th:Nl):cG:=λρ M Q=>te ρ M λd M1=>tl ρ M1 λlo M2=>th ρ M2 λhi M3=>∃xs,Cm M3 d xs/\∀p,M3 p=none->Q (.ref p) (au M3 p (.lst (cutD xs lo hi)))
theorem dN{e:Expr}{lo hi:Option Expr}{te:cG}{tl th:Nl}{p2 pos:Pos}(he:bZ X e te)(hl:OO X lo tl)(hh:OO X hi th):bZ X (.Subscript e (.Slice lo hi none p2) pos) (QB te tl th):=by
 obtain⟨Wn,pl,gl⟩:=hl.dn
 obtain⟨Wo,ph,gh⟩:=hh.dn
 refine up (CP FY he.dn pl ph) λσ H ρ M Q r q=>cJ r q λv H' d M' f dv r' q1=>gl _ _ _ _ _ _ r' q1 λlo H2 M2 f2 r2 q2=>gh _ _ _ _ _ _ r2 q2 λhi H3 M3 f3 r3 ⟨xs,hL,q3⟩=>?_
 obtain⟨a,zs,rfl,hz,hd⟩:=hL.sq r3.mem (Dat.mono ((f2.trans f3).ext r'.mem) _ _ dv)
 have ec:cutD xs lo hi=(xs.drop (HT.mR zs.length 0 lo)).take (HT.mR zs.length zs.length hi-HT.mR zs.length 0 lo):=by unfold cutD;rw[hd.length]
 refine⟨a,zs,rfl,hz,λp hp=>⟨.ref p,au M3 p (.lst (cutD xs lo hi)),((f.trans f2).trans f3).trans (Fr.new hp λ_ hb=>aT hb),aH.mpr rfl,r3.mem.newL hp ?_,q3 p (r3.mem.free hp)⟩⟩
 rw[ec]
 exact aB.take _ (aB.drop _ hd)
end
end L3
namespace L3
open PySem PySem.Spec PyProof.Rows L2
section
variable{X:Cx}
end
end L3
namespace L3
open PySem PySem.Spec PyProof.Rows L2
theorem oh{ps:List Pl}{i:Nat}{x:D}(h:(ps.map Pl.d)[i]?=some x):∃p,ps[i]?=some p/\x=p.d:=by
 rw[XT]at h
 cases e:ps[i]? with
 |none=>rw[e]at h;cases h
 |some p=>rw[e]at h;exact⟨p,rfl,(Option.some.inj h).symm⟩
theorem DG{ns:List Int}{k:Int}(h0:0<=k)(h1:k<ns.length):∃z:Int,z∈ns/\sL (ns.map D.int) k=some (.int z):=by
 obtain⟨j,rfl⟩:∃j:Nat,k=(j:Int):=⟨k.toNat,by omega⟩
 have hlt:j<ns.length:=by omega
 refine⟨ns[j],YN hlt,k6 ?_⟩
 rw[XT,Xm hlt]
 rfl
theorem g9{q:Pl}{ps:List Pl}:inD q.d (ps.map Pl.d)=decide (q∈ps):=by
 unfold inD
 rw[Yk,aax,decide_eq_true_eq]
 constructor
 ·rintro⟨x,hx,e⟩
  obtain⟨p,hp,rfl⟩:=XW.mp hx
  rw[qD]at e
  rw[<-of_decide_eq_true e];exact hp
 ·intro hq
  exact⟨q.d,XW.mpr ⟨q,hq,rfl⟩,by rw[qD];exact decide_eq_true rfl⟩
theorem bU{ts:List Pl}{f:Pl->Bool}{i:Nat}{t:Pl}(h:ts[i]?=some t):(ts.take (i+1)).filter f=(ts.take i).filter f++(if f t=true then[t]else[]):=by
 rw[YS,h,ZJ]
 congr 1
 show List.filter f [t]=_
 rw[Zt]
 rfl
theorem DH(ds:List D):gC ds []=ds.isEmpty:=by
 cases ds<;>simp[gC]
theorem uB{ds:List D}(h:ds.all (plain 9)=true):gC ds ds=true:=by
 have:=j6 10 (.tup ds) h
 rwa [jm]at this
theorem DI{α:Type}(g:α->D)(xs:List α)(n:Nat)(h:n<=xs.length):cutD (xs.map g) (some (n:Int)) none=(xs.drop n).map g:=by
 unfold cutD
 rw[HT.pY,HT.wU]
 rw[Xi,aaz h,aae]
 exact Z2 (by simp)
end L3
namespace Att
open PySem PySem.W PySem.Calls PyProof.Rows
noncomputable def An(z:Int):Prop:=Builtin.Int.intBits z<=1048576
theorem qP{N:Nat}:∀{ns:List Int},WData.weightAll (ns.map WData.int)<=N->∀z∈ns,Builtin.Int.intBits z<=N
 |[],_,z,m=>by cases m
 |n::ns,h,z,m=>by
  have e:WData.weightAll ((n::ns).map WData.int)=Builtin.Int.intBits n+1+WData.weightAll (ns.map WData.int):=by
   rw[XQ]
   simp only[WData.weightAll,WData.weight,Builtin.Int.intBits]
  rw[e]at h
  rcases Xj.mp m with rfl|m
  ·omega
  ·exact qP (by omega) z m
theorem Kg{ns:List Int}(h:WData.layableAll [WData.list (ns.map WData.int)]=true):∀z∈ns,An z:=by
 have h:WData.layable (WData.list (ns.map WData.int))=true:=by simpa[WData.layableAll]using h
 unfold WData.layable at h
 have h:=of_decide_eq_true (Yc.mp h).2
 have e:WData.weight (WData.list (ns.map WData.int))=WData.weightAll (ns.map WData.int):=by simp only[WData.weight]
 rw[e]at h
 exact λz m=>qP h z m
theorem vn{l:OpenLaw}{n:Nat}{q:Program}{loose:List Str}{XP:(Str->Option Value)->Heap->Prop}{YP:World->Heap->Prop}{d:DefRec}
 (hn:l.most=some n)(hdf:d.params.defaults=[])
 (call:∀(w:World) (s₀ s₁:Shared) (mg mb:Str->Option Value) (fa:Addr) (o:Obj) (pm cd doc:Value) (a:Addr) (vs:List Value) (ns:List Int),
  Ground q loose [] XP w s₀ mg mb s₁.heap->YP w s₁.heap->
  s₁.heap.get? fa=some o->o.data= .func (docDef d.name d.params d.body d.scope pm cd doc)->s₁.heap.CodeRec cd d.name->mg d.name=some (.ref fa)->
  s₁.heap.get? a=some {cls:= .type "list",data:= .seq vs.toArray}->IntsAre vs ns->ns.length<=n->(∀z∈ns,An z)->s₁.gens= #[]->
  codeAny (model l.prog w) callerA (.call (.ref fa) ⟨[.ref a],[]⟩) (λr s'=>r= .ok (.ret (.bool true))/\OldK s₁.heap s'.heap/\s'.os=s₁.os/\AllBare s'.gens) s₁) :
 WalkO q loose XP YP l.row.toRowW d [] (λf vs=>PySem.call f vs):=by
 intro w s₀ s₁ mg mb G Y fa o pm cd doc dV kV ho hd hcd hD hmg hg args vals as hpre hlay hrd hwl hlo
 obtain rfl:dV= .none:=Dflts.none hD hdf
 obtain rfl:kV= .none:=Dflts.noKw hD
 obtain⟨a,vs,ns,rfl,rfl,hobj,hints,hlen⟩:=Bf hn hpre hwl
 refine enter_call (codeAny_mono (call w s₀ s₁ mg mb fa o pm cd doc a vs ns G Y ho (fd_plain hd) hcd hmg hobj hints hlen (Kg hlay) hg) λr s' hq=>?_)
 obtain⟨rfl,h2,h3,h4⟩:=hq
 exact⟨.inl ⟨.bool true,.bool true,[],rfl,λ_=>rfl,.bool true,Bg l _,λ_=>⟨List.Pairwise.nil,λ_ hm=>(nomatch hm)⟩⟩,h2,h3,h4⟩
end Att
namespace L2
open PySem PySem.Spec PyProof.Rows
end L2
namespace L3
open PySem PySem.Spec PyProof.Rows L2 Att
noncomputable def DJ:sV:=λds Q=>∃ns:List Int,ds=[.wW (ns.map D.int)]/\ns.length<=63/\(∀z∈ns,An z)/\Q (.bl true)
theorem GC{K:PySem.W.Frag}{H:Hp}{a:Addr}{ns:List Int}{E:XK}(hl:ns.length<=63)(hb:∀z∈ns,An z)(hO:FZ H)(hS:jj K H a (ns.map V.int)):qz K DJ [.ref a] H (λv _=>v= .bl true) E:=by
 have hz:Fz K H a (ns.map V.int):=by
  rcases hS with(h|⟨o,h⟩)|h
  ·rcases hO a with z|⟨o,xs,z⟩
   ·rw[z]at h;cases h
   ·rw[z]at h;cases h
  ·exact .inl ⟨o,h⟩
  ·exact .inr h
 exact⟨[.wW (ns.map D.int)],λd=>d= .bl true,aB.one (mS.mpr ⟨a,_,rfl,hz,uo ns⟩),⟨ns,rfl,hl,hb,rfl⟩,λd v H' q dv _=>by subst q;exact aS.mp dv⟩
noncomputable def Kh(i j:Int):Prop:=MulOk i j\/Jl i j\/(An i/\∃n,Sm n j/\n<=1000)
theorem Kh.ok{i j:Int}(h:Kh i j):IntMulOk i j:=by
 rcases h with h|h|⟨h,n,h1,h2⟩
 ·exact h.ok
 ·exact h.ok
 ·have:=pZ h1
  exact IntMulOk.of_bits (Yj h (by decide)) (Yj this (by omega))
section
variable{X:Cx}
theorem iI:lN X (binaryOp .Mult) (ue Kh λi j=>i*j):=wZ (L7 λ_ _ _ _ _ _ _ hc q=>mul_int q hc.ok)
end
end L3
namespace L3
open PySem PySem.Spec PyProof.Rows L2
noncomputable def dO:List Pl->List Pl->Bool
 |[],[]=>false
 |[],_::_=>true
 |_::_,[]=>false
 |p::ps,q::qs=>if p=q then dO ps qs else decide (aU p q)
theorem o5:∀ps,dO ps ps=false
 |[]=>rfl
 |p::ps=>by unfold dO;rw[if_pos rfl];exact o5 ps
theorem ni:∀ps qs,dO ps qs=true\/ps=qs\/dO qs ps=true
 |[],[]=> .inr (.inl rfl)
 |[],_::_=> .inl rfl
 |_::_,[]=> .inr (.inr rfl)
 |p::ps,q::qs=>by
  unfold dO
  by_cases e:p=q
  ·subst e
   rw[if_pos rfl,if_pos rfl]
   rcases ni ps qs with h|h|h
   ·exact .inl h
   ·exact .inr (.inl (by rw[h]))
   ·exact .inr (.inr h)
  ·rw[if_neg e,if_neg (Ne.symm e)]
   rcases l7 e with h|h
   ·exact .inl (decide_eq_true h)
   ·exact .inr (.inr (decide_eq_true h))
theorem l9:∀ps qs rs,dO ps qs=true->dO qs rs=true->dO ps rs=true
 |[],[],_,h,_=>by cases h
 |[],_::_,[],_,h=>by cases h
 |[],_::_,_::_,_,_=>rfl
 |_::_,[],_,h,_=>by cases h
 |_::_,_::_,[],_,h=>by cases h
 |p::ps,q::qs,r::rs,h1,h2=>by
  unfold dO at *
  by_cases e1:p=q
  ·subst e1
   rw[if_pos rfl]at h1
   by_cases e2:p=r
   ·rw[if_pos e2]at h2 ⊢;exact l9 ps qs rs h1 h2
   ·rw[if_neg e2]at h2 ⊢;exact h2
  ·rw[if_neg e1]at h1
   have b1:=of_decide_eq_true h1
   by_cases e2:q=r
   ·subst e2;rw[if_neg e1];exact h1
   ·rw[if_neg e2]at h2
    have b3:=cP b1 (of_decide_eq_true h2)
    rw[if_neg (n9 b3)]
    exact decide_eq_true b3
noncomputable def sY(n:Nat)(h:Heap)(v:Value)(ps:List Pl):Prop:=ps.length=n/\∃(a:Addr) (o:Obj) (its:List Value) (m:Nat),v= .ref a/\h.get? a=some o/\o.cls= .type "tuple"/\o.data= .seq its.toArray m/\c5 h its ps
theorem c5.grow{h h':Heap}(g:fK h h'):∀{us:List Value} {ps:List Pl},c5 h us ps->c5 h' us ps
 |_,_,.nil=> .nil
 |_,_,.cons a r=> .cons (a.grow g) (c5.grow g r)
theorem sY.grow{n:Nat}{h h':Heap}{v:Value}{ps:List Pl}(a:sY n h v ps)(g:fK h h'):sY n h' v ps:=by
 obtain⟨hl,b,o,its,m,h1,h2,h3,h4,h5⟩:=a
 exact⟨hl,b,o,its,m,h1,g _ _ h2,h3,h4,h5.grow g⟩
theorem sY.inj{n:Nat}{h:Heap}{v:Value}{ps qs:List Pl}(a:sY n h v ps)(b:sY n h v qs):ps=qs:=by
 obtain⟨_,a1,o,its,m,rfl,h2,h3,h4,h5⟩:=a
 obtain⟨_,a2,o',its',m',e,k2,k3,k4,k5⟩:=b
 injection e with e
 subst e
 rw[h2]at k2
 injection k2 with k2
 subst k2
 rw[h4]at k4
 injection k4 with k4 _
 have k4:its=its':=by simpa using k4
 subst k4
 rw[<-h5.keys,<-k5.keys]
open Classical in
noncomputable def Cn(n:Nat)(h:Heap):KeyKind where
 α:=List Pl
 blt p q:=dO p q
 irrefl p:=o5 p
 trans p q r a b:=l9 p q r a b
 negTrans p q r a:=by
  rcases ni p q with c|c|c
  ·exact .inl c
  ·subst c;exact .inr a
  ·exact .inr (l9 _ _ _ c a)
 total p q a b:=by
  rcases ni p q with c|c|c
  ·rw[a]at c;cases c
  ·exact c
  ·rw[b]at c;cases c
 keyOf v:=if e:∃p,sY n h v p then some e.choose else none
 dflt:=[]
open Classical in
theorem Ao{n:Nat}{h:Heap}{v:Value}{p:List Pl}(a:sY n h v p):(Cn n h).keyOf v=some p:=by
 have e:∃p,sY n h v p:=⟨p,a⟩
 show(if e:∃p,sY n h v p then some e.choose else none)=some p
 rw[dif_pos e,sY.inj e.choose_spec a]
open Classical in
theorem DL{n:Nat}{h:Heap}{v:Value}{p:List Pl}(a:(Cn n h).keyOf v=some p):sY n h v p:=by
 have a:(if e:∃p,sY n h v p then some e.choose else none)=some p:=a
 by_cases e:∃p,sY n h v p
 ·rw[dif_pos e]at a
  have:=e.choose_spec
  rwa [Option.some.inj a]at this
 ·rw[dif_neg e]at a;cases a
section
variable{P:Program}{w:World}{A:Around}{E:Value->Shared->Prop}{s:Shared}
theorem qQ{u v:Value}{p q:Pl}{Q:Bool->Shared->Prop}(hu:A.units<cLine)(a:lQ s.heap u p)(b:lQ s.heap v q)(h:Q (decide (p=q)) s):wpAny (model P w) A (eqBool u v) Q E s:=by
 obtain⟨a1,o1,t1,u1,n1,rfl,h2,h3,h4⟩:=a
 obtain⟨a2,o2,t2,u2,n2,rfl,k2,k3,k4⟩:=b
 refine wpAny_eqBool_tuple (knd:=intKind P w) (x:=[p.x,p.y]) (y:=[q.x,q.y]) hu ⟨o1,_,n1,h2,h3,h4,?_⟩ ⟨o2,_,n2,k2,k3,k4,?_⟩ ?_
 ·exact .cons (by simp[intKind,Value.isInt]) (.cons (by simp[intKind,Value.isInt]) .nil)
 ·exact .cons (by simp[intKind,Value.isInt]) (.cons (by simp[intKind,Value.isInt]) .nil)
 ·have e:decide ([p.x,p.y]=[q.x,q.y])=decide (p=q):=by
   rw[decide_eq_decide]
   cases p;cases q
   simp
  rw[e];exact h
theorem kh{u v:Value}{p q:Pl}{Q:Bool->Shared->Prop}(hu:A.units<cLine)(a:lQ s.heap u p)(b:lQ s.heap v q)(h:Q (decide (aU p q)) s):wpAny (model P w) A (oneLt' false u v) Q E s:=by
 obtain⟨l,its,rfl,h1,h2⟩:=a.tup
 obtain⟨l',its',rfl,k1,k2⟩:=b.tup
 rw[oneLt'_eq]
 simp only[Xs,if_false]
 apply wpAny_bind
 refine(HT.l0 h1 k1 h2 k2 hu ?_:wpAny (model P w) A (compareOp .Lt (.ref l) (.ref l')) _ E s)
 refine wpAny_truthy_bool ?_
 rw[p9]
 exact h
theorem c5.cons_inv{h:Heap}{us:List Value}{p:Pl}{ps:List Pl}(a:c5 h us (p::ps)):∃u vs,us=u::vs/\lQ h u p/\c5 h vs ps:=by
 cases a with
 |cons a r=>exact⟨_,_,rfl,a,r⟩
theorem c5.nil_inv{h:Heap}{us:List Value}(a:c5 h us []):us=[]:=by
 cases a
 rfl
theorem yU{α:Type}{qs:List α}(h:qs.length=2):∃u v,qs=[u,v]:=by
 match qs,h with
 |[u,v],_=>exact⟨u,v,rfl⟩
theorem Nv{n:Nat}(hn:n=2\/n=3){t:Shared}{x y:Value}{ps qs:List Pl}{R:Bool->Shared->Prop}(hu:A.units<cLine)(kx:sY n t.heap x ps)(ky:sY n t.heap y qs)(hR:R (dO ps qs) t):wpAny (model P w) A (keyLt' (tuples' false) x y) R E t:=by
 obtain⟨l1,a,o,its,m,rfl,h2,h3,h4,h5⟩:=kx
 obtain⟨l2,b,o',its',m',rfl,k2,k3,k4,k5⟩:=ky
 rw[ur]
 apply wpAny_bind;apply listItems_at h2 h4
 apply wpAny_bind;apply listItems_at k2 k4
 rcases hn with rfl|rfl
 ·obtain⟨p1,p2,rfl⟩:=yU l1
  obtain⟨q1,q2,rfl⟩:=yU l2
  obtain⟨u1,us,rfl,a1,h5⟩:=h5.cons_inv
  obtain⟨u2,us,rfl,a2,h5⟩:=h5.cons_inv
  obtain rfl:=h5.nil_inv
  obtain⟨v1,vs,rfl,b1,k5⟩:=k5.cons_inv
  obtain⟨v2,vs,rfl,b2,k5⟩:=k5.cons_inv
  obtain rfl:=k5.nil_inv
  ·clear h2 h4 k2 k4 h3 k3
   simp only[Y3,Yv,Y7,ZW,Z5,Y8,Zn,bind_assoc,ZG]
   apply wpAny_bind
   refine qQ hu a1 b1 ?_
   unfold dO at hR
   by_cases e1:p1=q1
   ·rw[if_pos e1]at hR
    rw[decide_eq_true e1]
    simp only[Yo,Xs,if_false,pure_bind,bind_assoc]
    apply wpAny_bind
    refine qQ hu a2 b2 ?_
    unfold dO at hR
    by_cases e2:p2=q2
    ·rw[if_pos e2]at hR
     rw[decide_eq_true e2]
     simp only[Yo,Xs,if_false,pure_bind]
     exact wpAny_pure hR
    ·rw[if_neg e2]at hR
     rw[decide_eq_false e2]
     simp only[YQ,if_true,bind_assoc,pure_bind]
     apply wpAny_bind
     exact kh hu a2 b2 (wpAny_pure hR)
   ·rw[if_neg e1]at hR
    rw[decide_eq_false e1]
    simp only[YQ,if_true,bind_assoc,pure_bind]
    apply wpAny_bind
    exact kh hu a1 b1 (wpAny_pure hR)
 ·obtain⟨p1,p2,p3,rfl⟩:=kg l1
  obtain⟨q1,q2,q3,rfl⟩:=kg l2
  obtain⟨u1,us,rfl,a1,h5⟩:=h5.cons_inv
  obtain⟨u2,us,rfl,a2,h5⟩:=h5.cons_inv
  obtain⟨u3,us,rfl,a3,h5⟩:=h5.cons_inv
  obtain rfl:=h5.nil_inv
  obtain⟨v1,vs,rfl,b1,k5⟩:=k5.cons_inv
  obtain⟨v2,vs,rfl,b2,k5⟩:=k5.cons_inv
  obtain⟨v3,vs,rfl,b3,k5⟩:=k5.cons_inv
  obtain rfl:=k5.nil_inv
  ·clear h2 h4 k2 k4 h3 k3
   simp only[Y3,Yv,Y7,ZW,Z5,Y8,Zn,bind_assoc,ZG]
   apply wpAny_bind
   refine qQ hu a1 b1 ?_
   unfold dO at hR
   by_cases e1:p1=q1
   ·rw[if_pos e1]at hR
    rw[decide_eq_true e1]
    simp only[Yo,Xs,if_false,pure_bind,bind_assoc]
    apply wpAny_bind
    refine qQ hu a2 b2 ?_
    unfold dO at hR
    by_cases e2:p2=q2
    ·rw[if_pos e2]at hR
     rw[decide_eq_true e2]
     simp only[Yo,Xs,if_false,pure_bind,bind_assoc]
     apply wpAny_bind
     refine qQ hu a3 b3 ?_
     unfold dO at hR
     by_cases e3:p3=q3
     ·rw[if_pos e3]at hR
      rw[decide_eq_true e3]
      simp only[Yo,Xs,if_false,pure_bind]
      exact wpAny_pure hR
     ·rw[if_neg e3]at hR
      rw[decide_eq_false e3]
      simp only[YQ,if_true,bind_assoc,pure_bind]
      apply wpAny_bind
      exact kh hu a3 b3 (wpAny_pure hR)
    ·rw[if_neg e2]at hR
     rw[decide_eq_false e2]
     simp only[YQ,if_true,bind_assoc,pure_bind]
     apply wpAny_bind
     exact kh hu a2 b2 (wpAny_pure hR)
   ·rw[if_neg e1]at hR
    rw[decide_eq_false e1]
    simp only[YQ,if_true,bind_assoc,pure_bind]
    apply wpAny_bind
    exact kh hu a1 b1 (wpAny_pure hR)
theorem Km{n:Nat}(hn:n=2\/n=3)(hu:A.units<cLine){h:Heap}{t:Shared}(g:fK h t.heap):Ask P w A t (Cn n h) (tuples' false):=
 ⟨λE x y p q R kx ky hR=>Nv hn hu ((DL kx).grow g) ((DL ky).grow g) hR⟩
theorem GD{n:Nat}(hn:n=2\/n=3){vs:List Value}(h2:1<=vs.length)(hv:∀v∈vs,∃p,sY n s.heap v p){Q:SortKind->Shared->Prop}(h:Q (tuples' false) s):wpAny (model P w) A (keyKind' vs.toArray) Q E s:=by
 rw[keyKind'_eq,Zp]
 simp only[bind_map_left]
 apply wpAny_bind
 refine m8 (λ_ b=>∃u p,b=some u/\lQ s.heap u p) vs _ (λv hm Q hQ=>?_) λbs hb=>?_
 ·obtain⟨ps,hl,a,o,its,m,rfl,k2,k3,k4,k5⟩:=hv v hm
  rw[uu]
  apply wpAny_bind
  refine wpAny_typeOf (T:= "tuple") ⟨o,k2,k3⟩ ?_
  have e:(Value.type "tuple" !=Value.type "tuple")=false:=by decide
  rw[e]
  simp only[Xs,if_false,pure_bind]
  apply wpAny_bind;apply listItems_at k2 k4
  cases ps with
  |nil=>simp at hl;omega
  |cons p ps=>
   obtain⟨u,us,rfl,a,_⟩:=k5.cons_inv
   exact wpAny_pure (hQ _ ⟨u,p,rfl,a⟩)
 ·have all:∀(vs:List Value) (bs:List (Option Value)),Paired (λ_ b=>∃u p,b=some u/\lQ s.heap u p) vs bs->bs.length=vs.length/\(∀b∈bs,∃u p,b=some u/\lQ s.heap u p):=by
   intro vs
   induction vs with
   |nil=>intro bs q;cases q;exact⟨rfl,λ_ z=>by cases z⟩
   |cons v vs ih=>
    intro bs q
    cases q with
    |cons q1 q2=>
     obtain⟨l,m⟩:=ih _ q2
     refine⟨by simp[l],λb hb=>?_⟩
     rcases Xj.mp hb with rfl|hb
     ·exact q1
     ·exact m b hb
  obtain⟨hl,hm⟩:=all vs bs hb
  have c:(bs.toArray.all λb=>b.isSome)=true:=by
   simp only[Zr,Ym]
   intro b hb
   obtain⟨u,p,rfl,_⟩:=hm b hb
   rfl
  rw[if_pos c]
  apply wpAny_bind;apply wpAny_rule
  rw[oneTypeOnly'_eq]
  have ef:bs.toArray.filterMap id=(bs.filterMap id).toArray:=by simp
  rw[ef,Zp]
  simp only[bind_map_left,bind_assoc]
  apply wpAny_bind
  refine m8 (λ_ b=>b=Value.type "tuple") _ _ (λv hv' Q hQ=>?_) λcs hc=>?_
  ·obtain⟨b,hb1,hb2⟩:=Zi.mp hv'
   obtain⟨u,p,rfl,a,o,t,u',m,rfl,k2,k3,k4⟩:=hm b hb1
   have hb2:some (Value.ref a)=some v:=hb2
   cases hb2
   exact wpAny_typeOf (T:= "tuple") ⟨o,k2,k3⟩ (hQ _ rfl)
  ·have len:1<=(bs.filterMap id).length:=by
    cases bs with
    |nil=>simp at hl;omega
    |cons b bs=>
     obtain⟨u,p,rfl,_⟩:=hm b (Xu ..)
     simp
   have all2:∀(us cs:List Value),Paired (λ_ b=>b=Value.type "tuple") us cs->cs=us.map λ_=>Value.type "tuple" :=by
    intro us
    induction us with
    |nil=>intro cs q;cases q;rfl
    |cons u us ih=>intro cs q;cases q with|cons q1 q2=>rw[q1,ih _ q2];rfl
   rw[all2 _ _ hc]
   generalize bs.filterMap id=us at len
   cases us with
   |nil=>simp at len
   |cons u us=>
    have e0:(List.map (λ_=>Value.type "tuple") (u::us)).toArray[0]?=some (Value.type "tuple"):=by simp
    rw[e0]
    have e1:((List.map (λ_=>Value.type "tuple") (u::us)).toArray.all λx=>x==Value.type "tuple")=true:=by
     simp only[Zr,ZA,Ym]
     intro _ _;rfl
    simp only[e1,if_true,pure_bind]
    exact wpAny_pure h
end
noncomputable def vo(n:Nat)(h:Heap)(v:Value):List Pl:=Option.getD (α:=List Pl) ((Cn n h).keyOf v) []
theorem Aq{n:Nat}{h:Heap}{v:Value}{p:List Pl}(a:sY n h v p):vo n h v=p:=by
 unfold vo
 have e:(Cn n h).keyOf v=some p:=Ao a
 exact congrArg (λo=>Option.getD (α:=List Pl) o []) e
noncomputable def ki(n:Nat)(h:Heap):List Value->List (List Pl)->Prop:=Paired (sY n h)
theorem ki.keys{n:Nat}{h:Heap}:∀{us:List Value} {ps:List (List Pl)},ki n h us ps->us.map (vo n h)=ps
 |_,_,.nil=>rfl
 |_,_,.cons a r=>by rw[XQ,Aq a,ki.keys r]
theorem ki.mem{n:Nat}{h:Heap}:∀{us:List Value} {ps:List (List Pl)} {v:Value},ki n h us ps->v∈us->∃p,sY n h v p
 |_,_,v,.nil,m=>by cases m
 |_,_,v,.cons a r,m=>by
  rcases Xj.mp m with rfl|m
  ·exact⟨_,a⟩
  ·exact ki.mem r m
theorem xr{n:Nat}(hn:n=2\/n=3){P:Program}{w:World}{A:Around}{E:Value->Shared->Prop}{s:Shared}{l:Addr}{vs:List Value}{ps:List (List Pl)}{Q:Value->Shared->Prop}(hu:A.units+64<cLine)(hl:s.heap.IsList l vs.toArray)(hv:ki n s.heap vs ps)(h64:vs.length<64)
 (h:∀(out:List Value) (qs:List (List Pl)),(∀v∈out,v∈vs)->qs=out.map (vo n s.heap)->qs.Perm ps->qs.Pairwise (λp q=>dO q p=false)->Q (.ref (s.heap.objs.size+1)) {s with heap:=sortedAll s.heap vs out.toArray}) :
 wpAny (model P w) A (call (.builtin "sorted") [.ref l]) Q E s:=by
 have hk:KeysOf (Cn n s.heap) (pairsOf vs):=λp hp=>by
  rw[pairsOf_toList]at hp
  obtain⟨q,a⟩:=hv.mem (cQ hp).2
  exact⟨q,Ao a⟩
 refine uq (κ:=Cn n s.heap) (kd:=tuples' false) hl hk (λt E Q g h2 q=>GD hn (by omega) (λv m=>?_) q) (λt g=>Km hn (by show A.units+1+1<cLine;omega) g) h64 λy hp hs=>?_
 ·obtain⟨p,a⟩:=hv.mem m
  exact⟨p,a.grow g⟩
 ·have pl:y.toList.Perm (vs.zip vs):=by rw[<-pairsOf_toList];exact Array.perm_iff_toList_perm.mp hp
  have same:∀p∈y.toList,p.1=p.2/\p.1∈vs:=λp m=>cQ (pl.mem_iff.mp m)
  have eo:y.map (·.2)=(y.toList.map (·.2)).toArray:=by rw[<-Array.toList_map,Array.toArray_toList]
  rw[eo]
  refine h (y.toList.map (·.2)) _ (λv m=>?_) rfl ?_ ?_
  ·obtain⟨p,m2,rfl⟩:=XW.mp m
   rw[<-(same p m2).1];exact(same p m2).2
  ·have q:=(pl.map (λp=>p.2)).map (vo n s.heap)
   have e:(vs.zip vs).map (λp=>p.2)=vs:=aaw (Xn _)
   rw[e,hv.keys]at q
   exact q
  ·rw[ZN]
   intro i j hi hj hij
   have li:i<y.size:=by simpa using hi
   have lj:j<y.size:=by simpa using hj
   have q:=hs i j (Zl hij) (by rw[<-hp.size_eq];exact lj)
   have key:∀k (hk:k<y.size),KK (Cn n s.heap) y k=vo n s.heap y[k].2:=λk hk=>by
    unfold KK
    rw[getElem?_pos y k hk]
    show Option.getD (α:=List Pl) ((Cn n s.heap).keyOf y[k].1) []=_
    rw[(same y[k] (by simp)).1]
    rfl
   have q:(Cn n s.heap).blt (KK (Cn n s.heap) y j) (KK (Cn n s.heap) y i)=false:=q
   rw[key i li,key j lj]at q
   have q:dO (vo n s.heap y[j].2) (vo n s.heap y[i].2)=false:=q
   simpa using q
noncomputable def tD(ps:List Pl):D:= .tup (ps.map Pl.d)
theorem DM{n:Nat}{P:Program}{w:World}{K:PySem.W.Frag}{H:Hp}{h:Heap}{ps:List Pl}{x:V}{u:Value}(ok:gY P w H h)(hl:ps.length=n)(d:Dat K H (tD ps) x)(r:RelV x u):sY n h u ps:=by
 obtain⟨a,xs,rfl,ha,hx⟩:=aM.mp d
 obtain rfl:u=Value.ref a:=r
 obtain⟨its,rv,⟨o,h1,h2,m,h3⟩,_⟩:=di ok ha
 exact⟨hl,a,o,its,m,rfl,h1,h2,h3,j9 ok hx rv⟩
theorem uC{n:Nat}{P:Program}{w:World}{K:PySem.W.Frag}{H:Hp}{h:Heap}(ok:gY P w H h):∀{ps:List (List Pl)} {xs:List V} {us:List Value},(∀p∈ps,p.length=n)->aB K H (ps.map tD) xs->Vals xs us->ki n h us ps
 |[],xs,us,_,d,r=>by rw[aF.mp d]at r;cases r;exact .nil
 |p::ps,xs,us,hl,d,r=>by
  obtain⟨v,vs,rfl,d1,d2⟩:=az.mp d
  cases r with
  |cons r1 r2=>exact .cons (DM ok (hl p (Xu ..)) d1 r1) (uC ok (λq hq=>hl q (Xl _ hq)) d2 r2)
theorem qR{n:Nat}{K:PySem.W.Frag}{H:Hp}{h:Heap}{P:Program}{w:World}(ok:gY P w H h){ps:List (List Pl)}{zs:List V}{vs:List Value}(hl:∀p∈ps,p.length=n)(d:aB K H (ps.map tD) zs)(r:Vals zs vs):∀(out:List Value),(∀v∈out,v∈vs)->
 ∃ws,Vals ws out/\aB K H ((out.map (vo n h)).map tD) ws
 |[],_=>⟨[],.nil,aF.mpr rfl⟩
 |v::out,m=>by
  obtain⟨ws,h1,h2⟩:=qR ok hl d r out λu hu=>m u (Xl _ hu)
  have one:∀{ps:List (List Pl)} {zs:List V} {vs:List Value},(∀p∈ps,p.length=n)->aB K H (ps.map tD) zs->Vals zs vs->v∈vs->∃(p:List Pl) (x:V),p.length=n/\RelV x v/\Dat K H (tD p) x:=by
   intro ps
   induction ps with
   |nil=>intro zs vs _ d r m;rw[aF.mp d]at r;cases r;cases m
   |cons p ps ih=>
    intro zs vs hl d r m
    obtain⟨x,xs,rfl,d1,d2⟩:=az.mp d
    cases r with
    |cons r1 r2=>
     rcases Xj.mp m with rfl|m
     ·exact⟨p,x,hl p (Xu ..),r1,d1⟩
     ·exact ih (λq hq=>hl q (Xl _ hq)) d2 r2 m
  obtain⟨p,x,lp,rx,dx⟩:=one hl d r (m v (Xu ..))
  refine⟨x::ws,.cons rx h1,?_⟩
  rw[XQ,XQ,Aq (DM ok lp dx rx)]
  exact az.mpr ⟨x,ws,rfl,dx,h2⟩
section
variable{X:Cx}
noncomputable def DN(n:Nat):List D->Mp->DK->Prop:=λds M Q=>∃(l:Addr) (ps:List (List Pl)),ds=[.ref l]/\M l=some (.lst (ps.map tD))/\(∀p∈ps,p.length=n)/\ps.length<64/\∀(p:Addr) (qs:List (List Pl)),M p=none->qs.Perm ps->qs.Pairwise (λp q=>dO q p=false)->Q (.ref p) (au M p (.lst (qs.map tD)))
theorem oi{n:Nat}(hn:n=2\/n=3)(hu:X.A.units+64<cLine):Call3 X (.builtin "sorted") (DN n):=by
 constructor
 intro pins s σ H M xs ds us Q I rm rs dx ⟨l,ps,e,hM,Sd,h64,q⟩
 subst e
 obtain⟨v,rfl,hv⟩:=oW dx
 obtain rfl:=aH.mp hv
 obtain⟨u,rfl,r1⟩:=vals1 rs
 obtain rfl:u=Value.ref l:=r1
 obtain⟨zs,hH,hz⟩:=rm.lst hM
 obtain⟨its,rv,pl,hsz⟩:=I.list (jj.of (K:=X.K) hH)
 have hl:its.length=ps.length:=by rw[Vals.len rv,<-hz.length,Xi]
 refine xr hn hu pl.isList (uC I.hok Sd hz rv) (by omega) λout qs hm eq hp hs=>?_
 obtain⟨ws,w1,w2⟩:=qR I.hok Sd hz rv out hm
 rw[<-eq]at w2
 obtain⟨m,hm'⟩:=sortedAll_at s.heap its out.toArray
 have fr:H (s.heap.objs.size+1)=none:=I.hok.fresh (YI _)
 have zw:ws.length<=sizeLine:=by
  rw[<-w2.length,Xi,hp.length_eq,sizeLine_eq];omega
 refine⟨.ref (s.heap.objs.size+1),upd H (s.heap.objs.size+1) (.lst ws),I.laid (t':=s.toks) (λb o e=>sortedAll_old e) (YI _) ⟨zw,out,m,w1,hm'⟩,rfl,.ref _,au M _ (.lst (qs.map tD)),Fr.new fr λ_ hb=>aT hb,aH.mpr rfl,rm.newL fr w2,q _ _ (rm.free fr) hp hs⟩
end
end L3
namespace L3
open PySem
noncomputable def eG(t:List Pl):Prop:= ∃u v w,t=[u,v,w]/\aU u v/\aU u w/\0<tw u v w
theorem eG.uniq{s t:List Pl}(hs:eG s)(ht:eG t)(h:s.Perm t):s=t:=by
 obtain⟨u,v,w,rfl,b1,b2,p1⟩:=hs
 obtain⟨a,b,c,rfl,c1,c2,p2⟩:=ht
 rcases Dw h with⟨rfl,rfl,rfl⟩|⟨rfl,rfl,rfl⟩|⟨rfl,rfl,rfl⟩|⟨rfl,rfl,rfl⟩|⟨rfl,rfl,rfl⟩|⟨rfl,rfl,rfl⟩
 ·rfl
 ·rw[j8]at p2;omega
 ·exact absurd c1 (bx b1)
 ·exact absurd c1 (bx b2)
 ·exact absurd c2 (bx b1)
 ·exact absurd c2 (bx b2)
theorem Ip{a b c:Pl}(h:tw a b c≠0):a≠b/\a≠c/\b≠c:=
 ⟨λe=>by subst e;rw[qG]at h;exact h rfl,λe=>by subst e;rw[qH]at h;exact h rfl,λe=>by subst e;rw[w9]at h;exact h rfl⟩
noncomputable def DO(a b c:Pl):List Pl:=if aU a b/\aU a c then[a,b,c]else if aU b c then[b,c,a]else[c,a,b]
theorem Ar{a b c:Pl}(h:0<tw a b c):eG (DO a b c)/\(DO a b c).Perm [a,b,c]:=by
 obtain⟨n1,n2,n3⟩:=Ip (show tw a b c≠0 by omega)
 unfold DO
 by_cases k:aU a b/\aU a c
 ·rw[if_pos k]
  exact⟨⟨a,b,c,rfl,k.1,k.2,h⟩,.refl _⟩
 ·rw[if_neg k]
  by_cases k2:aU b c
  ·rw[if_pos k2]
   refine⟨⟨b,c,a,rfl,k2,?_,by rw[qF];exact h⟩,(XX (l₁:=[b,c]) (l₂:=[a]))⟩
   rcases l7 n1 with z|z
   ·exact absurd ⟨z,cP z k2⟩ k
   ·exact z
  ·rw[if_neg k2]
   have cb:aU c b:=by rcases l7 n3 with z|z;exact absurd z k2;exact z
   have ca:aU c a:=by
    rcases l7 n2 with z|z
    ·exact absurd ⟨cP z cb,z⟩ k
    ·exact z
   exact⟨⟨c,a,b,rfl,ca,cb,by rw[<-qF c a b];exact h⟩,(XX (l₁:=[c]) (l₂:=[a,b]))⟩
noncomputable def jI(a b c:Pl):List Pl:=if 0<tw a b c then DO a b c else DO a c b
theorem qS{a b c:Pl}(h:tw a b c≠0):eG (jI a b c)/\(jI a b c).Perm [a,b,c]:=by
 unfold jI
 by_cases k:0<tw a b c
 ·rw[if_pos k];exact Ar k
 ·rw[if_neg k]
  obtain⟨h1,h2⟩:=Ar (a:=a) (b:=c) (c:=b) (by rw[j8];omega)
  exact⟨h1,h2.trans (.cons a (.swap b c []))⟩
theorem As{u v w a b c:Pl}(h:[u,v,w].Perm [a,b,c]):tw u v w≠0↔tw a b c≠0:=by
 rcases Dw h with⟨rfl,rfl,rfl⟩|⟨rfl,rfl,rfl⟩|⟨rfl,rfl,rfl⟩|⟨rfl,rfl,rfl⟩|⟨rfl,rfl,rfl⟩|⟨rfl,rfl,rfl⟩
 ·exact Iff.rfl
 ·rw[j8 u v w];omega
 ·rw[Ai u v w];omega
 ·rw[qF w u v]
 ·rw[<-qF u v w]
 ·rw[Ai v w u,qF u v w];omega
theorem qT{t:List Pl}{a b c:Pl}(ht:eG t)(h:t.Perm [a,b,c]):tw a b c≠0/\t=jI a b c:=by
 have hn:tw a b c≠0:=by
  obtain⟨u,v,w,rfl,_,_,p⟩:=ht
  exact(As h).mp (by omega)
 obtain⟨h1,h2⟩:=qS hn
 exact⟨hn,ht.uniq h1 (h.trans h2.symm)⟩
theorem qU{a b c u v w:Pl}(hn:tw a b c≠0)(hp:[u,v,w].Perm [a,b,c])(hs:[u,v,w].Pairwise (λp q=> ¬aU q p)) :
 jI a b c=if 0<tw u v w then[u,v,w]else[u,w,v]:=by
 have hn2:tw u v w≠0:=(As hp).mpr hn
 obtain⟨n1,n2,n3⟩:=Ip hn2
 have b1:aU u v:=by rcases l7 n1 with z|z;exact z;exact absurd z ((X7.mp hs).1 v (by simp))
 have b2:aU u w:=by rcases l7 n2 with z|z;exact z;exact absurd z ((X7.mp hs).1 w (by simp))
 by_cases k:0<tw u v w
 ·rw[if_pos k]
  exact(qT ⟨u,v,w,rfl,b1,b2,k⟩ hp).2.symm
 ·rw[if_neg k]
  exact(qT ⟨u,w,v,rfl,b2,b1,by rw[j8];omega⟩ ((List.Perm.cons u (.swap v w [])).trans hp)).2.symm
noncomputable def one(ok:List Pl->Bool)(a b c:Pl):List (List Pl):=if tw a b c≠0/\ok (jI a b c)=true then[jI a b c]else[]
noncomputable def c2:Nat->Nat|0=>0|m+1=>c2 m+m
noncomputable def c3:Nat->Nat|0=>0|k+1=>c3 k+c2 k
end L3
namespace L3
open PySem PySem.Spec PyProof.Rows L2
theorem Kn{u v w:Pl}(k:dH (.int (tw u v w).sign) (.int 1)=true):0<tw u v w:=by
 rw[gi]at k
 exact Int.sign_eq_one_iff_pos.mp (eq_of_beq k)
theorem GF{u v w:Pl}(k:¬dH (.int (tw u v w).sign) (.int 1)=true):¬0<tw u v w:=λz=>by
 apply k
 rw[gi,Yy z]
 rfl
theorem kj{ts:List (List Pl)}{i:Nat}{x:D}(h:(ts.map tD)[i]?=some x):∃t,ts[i]?=some t/\x=tD t:=by
 rw[XT]at h
 cases e:ts[i]? with
 |none=>rw[e]at h;cases h
 |some p=>rw[e]at h;exact⟨p,rfl,(Option.some.inj h).symm⟩
theorem bV{ts:List (List Pl)}{f:List Pl->Bool}{i:Nat}{t:List Pl}(h:ts[i]?=some t):(ts.take (i+1)).filter f=(ts.take i).filter f++(if f t=true then[t]else[]):=by
 rw[YS,h,ZJ]
 congr 1
 show List.filter f [t]=_
 rw[Zt]
 rfl
theorem ko:∀{as bs:List (List Pl)},as.Perm bs->as.Pairwise (λa b=>dO b a=false)->bs.Pairwise (λa b=>dO b a=false)->as=bs
 |[],bs,h,_,_=>by rw[List.nil_perm.mp h]
 |a::as,[],h,_,_=>by simp at h
 |a::as,b::bs,h,h1,h2=>by
  obtain⟨p1,p2⟩:=X7.mp h1
  obtain⟨q1,q2⟩:=X7.mp h2
  have e:a=b:=by
   have ma:a∈b::bs:=h.mem_iff.mp (Xu ..)
   have mb:b∈a::as:=h.mem_iff.mpr (Xu ..)
   rcases Xj.mp ma with e|ma
   ·exact e
   rcases Xj.mp mb with e|mb
   ·exact e.symm
   rcases ni a b with c|c|c
   ·rw[q1 a ma]at c;cases c
   ·exact c
   ·rw[p1 b mb]at c;cases c
  subst e
  rw[ko ((YR a).mp h) p2 q2]
theorem cB(fs:List (List Pl)):(fs.map tD).all (plain 9)=true:=by
 rw[Ym]
 intro d hd
 obtain⟨t,_,rfl⟩:=XW.mp hd
 show(t.map Pl.d).all (plain 8)=true
 rw[Ym]
 intro d hd
 obtain⟨p,_,rfl⟩:=XW.mp hd
 rfl
end L3
namespace L3
open PySem PySem.Spec PyProof.Rows L2 Att
theorem qa{a b c:Pl}(h:tw a b c≠0):(jI a b c).length=3:=by
 obtain⟨⟨u,v,w,e,_⟩,_⟩:=qS h
 rw[e];rfl
end L3
namespace PySem
open PySem.Calls PySem.W
theorem yW:typeLookup (.type "list_reverseiterator") "__len__" =pure none:=by rw[typeLookup_type,builtinLookup_eq_fast];kernel_rfl
theorem DP:typeLookup (.type "list_reverseiterator") "__length_hint__" =pure (some (.builtin "list_reverseiterator.__length_hint__")):=by rw[typeLookup_type,builtinLookup_eq_fast];kernel_rfl
theorem GG:isSubtype (.type "list_reverseiterator") (.type "list_reverseiterator")=pure true:=by rw[isSubtype_type];kernel_rfl
section
variable{prog:Program}{w:World}{A:Around}{s:Shared}{R:Result->Shared->Prop}{E:Value->Shared->Prop}
variable{I:Addr}{fp wr:List Addr}{G:Array GenState->Array GenState->Prop}{n:Nat}{P:Nat->Value->Prop}{St:Nat->Shared->Prop}
theorem DQ{Q:Bool->Shared->Prop}(hT:s.TypeIs (.ref I) "list_reverseiterator")(h:Q false s):wpAny (model prog w) A (Builtin.List.listLengthHint (.ref I)) Q E s:=by
 unfold Builtin.List.listLengthHint
 refine wpAny_bind (wpAny_specialOf hT yW ?_)
 show wpAny _ A (specialOf (Value.ref I) (Str.ofString "__length_hint__") >>= _) _ _ _
 refine wpAny_bind (wpAny_specialOf hT DP ?_)
 have hs:splitId "list_reverseiterator.__length_hint__" =some ("list_reverseiterator","__length_hint__"):=by decide +kernel
 simp only[hs]
 refine wpAny_bind (wpAny_isInstance (T:= "list_reverseiterator") (b:=true) hT GG ?_)
 simp only[Yo,Xs,if_false]
 exact wpAny_pure h
theorem oj(W:WalksS prog w A.in1 I fp wr G n P St)(hT:∀i s,St i s->s.TypeIs (.ref I) "list_reverseiterator")(S:Addr)(res:Value)(c₀:Nat)(hst:St 0 s)(hSf:S∉fp)(hI:I∈fp)
 (hS:s.heap.get? S=some {cls:= .type "list",data:= .seq #[] c₀})
 (hR:∀s' acc' c',Moved (S::wr) G s s'->s'.heap.get? S=some {cls:= .type "list",dict:=none,data:= .seq acc' c',slots:= #[]}->ItemsOf P acc' n->R (.ok (.ret res)) s')(hn:n<=sizeLine) :
 wpAny (model prog w) A.in1 (Builtin.List.listExtendWith (.ref S) (.ref I) res)
  (λfin s'=>match fin with| .done f=>R (.ok f) s'| .again c'=>c'.quiet=true/\codeAny (model prog w) A c' R s') (λe s'=>R (.error e) s') s:=by
 have hSI:S≠I:=λe=>hSf (e▸hI)
 unfold Builtin.List.listExtendWith
 refine wpAny_bind (wpAny_typeOf (hT 0 _ hst) ?_)
 have h1:Builtin.List.listSameRef (.ref S) (.ref I)=false:=by simp[Builtin.List.listSameRef,hSI]
 have h2:(Value.type "list_reverseiterator" ==Value.type "list")=false:=by decide
 have h3:(Value.type "list_reverseiterator" ==Value.type "tuple")=false:=by decide
 simp only[h1,h2,h3,Bool.or_false,Xs,if_false]
 refine wpAny_bind (W.self 0 _ _ _ hst ?_)
 refine wpAny_bind (wpAny_holding (DQ (hT 0 _ hst) ?_))
 show wpAny _ A.in1 (again (.builtin "list.extend.loop" ⟨[.ref S,.ref I,res],[]⟩)) _ _ _
 exact wpAny_pure ⟨plainId_quiet F.plain_extend_loop _,codeAny_extend_loopS W hn _ hSf _ n 0 _ _ _ rfl (Yn _) hst hS (ItemsOf.nil P) λs' acc' c' hm hS' hacc=>hR s' acc' c' hm hS' hacc⟩
theorem lJ(W:WalksS prog w A.in1 I fp wr G n P St)(hT:∀i s,St i s->s.TypeIs (.ref I) "list_reverseiterator")(S:Addr)(hst:St 0 s)(hSf:S∉fp)(hI:I∈fp)
 (hS:s.heap.get? S=some {cls:= .type "list",data:= .seq #[]})
 (hR:∀s' acc' c',Moved (S::wr) G s s'->s'.heap.get? S=some {cls:= .type "list",dict:=none,data:= .seq acc' c',slots:= #[]}->ItemsOf P acc' n->R (.ok (.ret .none)) s')(hn:n<=sizeLine) :
 wpAny (model prog w) A.in1 (Builtin.«list.__init__» ⟨[.ref S,.ref I],[]⟩)
  (λfin s'=>match fin with| .done f=>R (.ok f) s'| .again c'=>c'.quiet=true/\codeAny (model prog w) A c' R s') (λe s'=>R (.error e) s') s:=by
 show wpAny _ A.in1 (do let old <-Builtin.List.listItems (.ref S);Builtin.List.listUpdate (.ref S) (λ_=> #[]);letGo old.toList.reverse;Builtin.List.listExtendWith (.ref S) (.ref I) .none) _ _ s
 refine wpAny_bind ?_
 unfold Builtin.List.listItems
 refine wpAny_bind (wpAny_seqItems hS rfl (wpAny_pure ?_))
 show wpAny _ A.in1 (updateSeq S (λ_=> #[]) >>= λ_=>letGo (#[]:Array Value).toList.reverse >>= λ_=>Builtin.List.listExtendWith (.ref S) (.ref I) .none) _ _ s
 refine wpAny_bind (wpAny_updateSeq hS rfl ?_)
 have Ly:=Heap.get?_update_self (Obj.mapSeq (λ_=>(#[]:Array Value))) hS rfl
 have GH:∀b o,b≠S->s.heap.get? b=some o->(s.heap.update S (Obj.mapSeq (λ_=>(#[]:Array Value)))).get? b=some o:=
  λb o hb e=>(Heap.get?_update_other _ _ (Ne.symm hb)).trans e
 refine wpAny_bind (wpAny_letGo ?_)
 refine oj W hT S .none _ (W.frame 0 s _ s.toks hst (Xn _) λb hb o e=>GH b o (λh=>hSf (h▸hb)) e) hSf hI Ly (λs' acc' c' hm hS' hacc=>?_) hn
 exact hR s' acc' c' (Moved.trans W.gtrans ((Moved.refl W.grefl).then_heap (Xn _) λb o hb e=>GH b o (λh=>hb (h▸Xu)) e) hm) hS' hacc
theorem sZ{Q:Value->Shared->Prop}(W:WalksS prog w A.in1.in1 I fp wr G n P St)(hT:∀i s,St i s->s.TypeIs (.ref I) "list_reverseiterator")(hst:St 0 s)(hfp:∀b∈fp,b<s.heap.objs.size)(hI:I∈fp)
 (hQ:∀s' acc' c',Moved (s.heap.objs.size::wr) G {s with heap:=s.heap.push {cls:= .type "list",data:= .seq #[]}} s'->
  s'.heap.get? s.heap.objs.size=some {cls:= .type "list",dict:=none,data:= .seq acc' c',slots:= #[]}->ItemsOf P acc' n->Q (.ref s.heap.objs.size) s')(hn:n<=sizeLine) :
 wpAny (model prog w) A (call (.type "list") [.ref I]) Q E s:=by
 have hSf:s.heap.objs.size∉fp:=λhm=>Ys _ (hfp _ hm)
 refine callType_codes (Q₁:=λobj s₁=>obj= .ref s.heap.objs.size/\s₁= {s with heap:=s.heap.push {cls:= .type "list",data:= .seq #[]}}) F.called_list (F.typeCall_list_1 _) F.entry_list_init
  (code_list_new _ ⟨rfl,rfl⟩) λobj s₁ h₁=>?_
 obtain⟨rfl,rfl⟩:=h₁
 have hS:(s.heap.push {cls:= .type "list",data:= .seq #[]}).get? s.heap.objs.size=some {cls:= .type "list",data:= .seq #[]}:=Heap.get?_push_size _ rfl
 refine⟨⟨_,hS,rfl⟩,F.args_list_init_2 _ _,lJ W hT _ (W.frame 0 s _ s.toks hst (Xn _) λb _ o e=>Heap.get?_push_of_some _ e) hSf hI hS (λs' acc' c' hm hS' hacc=>?_) hn⟩
 exact⟨rfl,hQ s' acc' c' hm hS' hacc⟩
end
end PySem
namespace L3
open PySem PySem.Spec PyProof.Rows L2
section
variable{X:Cx}{pos:Pos}
noncomputable def QC(to:cG):cG:=λρ M Q=>to ρ M λd M1=>∃l xs y,d= .ref l/\M1 l=some (.lst (xs++[y]))/\Q y (au M1 l (.lst xs))
theorem aB.snoc{K:PySem.W.Frag}{H:Hp}:∀{ds:List D} {y:D} {xs:List V},aB K H (ds++[y]) xs->∃zs v,xs=zs++[v]/\aB K H ds zs/\Dat K H y v
 |[],y,xs,h=>by
  obtain⟨v,rfl,hv⟩:=oW h
  exact⟨[],v,rfl,aF.mpr rfl,hv⟩
 |d::ds,y,xs,h=>by
  obtain⟨v,vs,rfl,h1,h2⟩:=az.mp h
  obtain⟨zs,u,rfl,h3,h4⟩:=aB.snoc h2
  exact⟨v::zs,u,rfl,az.mpr ⟨v,zs,rfl,h1,h3⟩,h4⟩
theorem Ny{o:Expr}{to:cG}{apos:Pos}(ho:bZ X o to)(MY:PE X (.Call (.Attribute o "pop" apos) [] [] pos) (Mq X.K "list" Ms (dn X.K to))):bZ X (.Call (.Attribute o "pop" apos) [] [] pos) (QC to):=
 up MY λσ H ρ M Q r q=>cJ r q λv H' d M' f dv r' ⟨l,xs,y,e1,hM,q2⟩=>by
  subst e1
  obtain rfl:=aH.mp dv
  obtain⟨ys,ha,hy⟩:=r'.mem.lst hM
  obtain⟨zs,u,rfl,h1,h2⟩:=aB.snoc hy
  refine⟨.inl ⟨rfl,_,jj.of ha⟩,l,zs++[u],u,rfl,rfl,ha,by simp,?_⟩
  rw[List.dropLast_concat]
  exact⟨y,au M' l (.lst xs),f.trans (Fr.write (K:=X.K) hM),Dat.mono (Ext.j4 ha) _ _ h2,r'.mem.j4 ha h1,q2⟩
theorem xu{K:PySem.W.Frag}{H:Hp}:∀{ds:List D} {xs:List V},aB K H ds xs->aB K H ds.reverse xs.reverse
 |[],xs,h=>by rw[aF.mp h];exact aF.mpr rfl
 |d::ds,xs,h=>by
  obtain⟨v,vs,rfl,h1,h2⟩:=az.mp h
  rw[Yr,Yr]
  exact(xu h2).append (aB.one h1)
theorem xw:∀{xs:List V} {us:List Value},Vals xs us->Vals xs.reverse us.reverse
 |_,_,.nil=> .nil
 |_,_,.cons r rr=>by
  rw[Yr,Yr]
  exact(xw rr).append (.cons r .nil)
theorem qV:bootBuiltins "reversed" =some (.type "reversed"):=by decide +kernel
noncomputable def Nz(te:cG):cG:=λρ M Q=>te ρ M λd M1=>∃xs,Cm M1 d xs/\∀p,M1 p=none->Q (.ref p) (au M1 p (.lst xs.reverse))
theorem Bw{e:Expr}{te:cG}{p1 p2 pos2:Pos}(hc:X.calm=true)(MW:Gl X "list")(hml:X.mg "list" =none)(hgr:Gl X "reversed")(hmr:X.mg "reversed" =none)(he:bZ X e te)
 (s1:starEach [e] X.env=[(false,eval e X.env)]:=by rfl)
 (s2:starEach [.Call (.Name "reversed" p2) [e] [] pos2] X.env=[(false,eval (.Call (.Name "reversed" p2) [e] [] pos2) X.env)]:=by rfl) :
 bZ X (.Call (.Name "list" p1) [.Call (.Name "reversed" p2) [e] [] pos2] [] pos) (Nz te):=by
 constructor
 intro pins s σ H ρ M Q I r h
 refine wpAny_Call_Name_kw (jY I MW hml cK ?_ (by decide) (by decide))
 refine PyProof.Rows.callWith_type1 (Q:=EP X pins σ (Post X.K M H Q)) ?_ (by rw[s2];rfl) (by rfl)
 rw[s2]
 show wpAny _ _ (spliced ((false,eval (.Call (.Name "reversed" p2) [e] [] pos2) X.env)::backTo pos [])) _ _ s
 refine Calls.spliced_cons ?_
 refine wpAny_Call_Name_kw (jY I hgr hmr qV ?_ (by decide) (by decide))
 refine PyProof.Rows.callWith_type1 ?_ (by rw[s1];rfl) (by rfl)
 rw[s1]
 show wpAny _ _ (spliced ((false,eval e X.env)::backTo pos2 [])) _ _ s
 refine Calls.spliced_cons (cu (he.run pins s σ H ρ M _ I r h) λv s1 ⟨x,H1,I1,rv,d,M1,f1,dd,gX,xs,hL,q⟩=>Calls.spliced_nil ?_)
 obtain⟨a,zs,rfl,hz,hd⟩:=hL.sq gX dd
 obtain rfl:v=Value.ref a:=rv
 obtain⟨its,OP,pl,hsz⟩:=I1.list hz
 have la:a<s1.heap.objs.size:=by obtain⟨o,e,_⟩:=pl.isList;exact Heap.lt_size e
 refine PySem.call_reversed_list pl.isList ?_
 refine Calls.spliced_nil ?_
 have wK:(s1.heap.push (PySem.revObj a ((its.toArray.size:Int)-1))).objs.size=s1.heap.objs.size+1:=Heap.size_push ..
 have Wq:zs.length=its.length:=OP.length
 refine sZ (PySem.Walks.listRev (A:=X.A.in1.in1) (show X.A.in1.in1.handled=none from I.ok.hd hc) s1.heap.objs.size a (XG la) its.toArray).toS (λi s st=>st.2.1.typeIs) ?_ ?_ (by simp) (λs' acc' c' mv hS' hacc=>?_) (by rw[Xr];omega)
 ·refine⟨Yn _,⟨_,Heap.get?_push_size _ rfl,rfl,?_⟩,?_⟩
  ·simp[PySem.revObj]
  ·obtain⟨o,e,c,dd⟩:=pl.isList
   exact⟨o,Heap.get?_push_of_some _ e,c,dd⟩
 ·intro b hb
  show b<(s1.heap.push (PySem.revObj a ((its.toArray.size:Int)-1))).objs.size
  rw[wK]
  simp only[Xj,XR,or_false]at hb
  rcases hb with rfl|rfl
  ·exact Ze _
  ·exact Yz la
 ·have hS':s'.heap.get? (s1.heap.objs.size+1)=some {cls:= .type "list",dict:=none,data:= .seq acc' c',slots:= #[]}:=by rw[<-wK];exact hS'
  have QD:acc'=its.reverse.toArray:=by
   apply Array.ext'
   rw[Y3]
   apply aar
   intro j
   have Wr:acc'.size=its.length:=by
    have:=hacc.1
    rw[Xr]at this
    exact this
   by_cases hj:j<its.length
   ·have g1:acc'[j]?=some (acc'[j]'(by omega)):=Array.getElem?_eq_getElem (by omega)
    have g2:=hacc.2 j _ g1
    have g2:its[its.length-1-j]?=some (acc'[j]'(by omega)):=by simpa using g2
    rw[List.getElem?_reverse hj,g2]
    rw[Array.getElem?_toList,g1]
   ·rw[YC (by simp;omega),YC (by simp;omega)]
  subst QD
  have kp:∀b o,s1.heap.get? b=some o->s'.heap.get? b=some o:=λb o e=>by
   have lb:=Heap.lt_size e
   refine mv.heap b o ?_ (Heap.get?_push_of_some _ (Heap.get?_push_of_some _ e))
   intro hb
   simp only[Xj,XR,or_false]at hb
   rcases hb with z|z
   ·have z:b=(s1.heap.push (PySem.revObj a ((its.toArray.size:Int)-1))).objs.size:=z
    rw[wK]at z
    rw[z]at lb
    exact absurd lb (YW.mpr (YI _))
   ·rw[z]at lb
    exact Ys _ lb
  have fr:H1 (s1.heap.objs.size+1)=none:=I1.hok.fresh (YI _)
  have es:s'= {s1 with heap:=s'.heap,toks:=s'.toks}:=by
   have g:=mv.gens
   have d:=mv.drawn
   have o:=mv.os
   cases s'
   cases s1
   simp only at g d o ⊢
   subst g d o
   rfl
  have I2:Inv X pins σ (upd H1 (s1.heap.objs.size+1) (.lst zs.reverse)) {s1 with heap:=s'.heap,toks:=s'.toks}:=
   I1.laid (t':=s'.toks) kp (YI _) ⟨by rw[XU];exact hsz,its.reverse,c',xw OP,hS'⟩
  rw[es]
  have ev:(Value.ref (s1.heap.push (PySem.revObj a ((its.toArray.size:Int)-1))).objs.size)= .ref (s1.heap.objs.size+1):=by rw[wK]
  refine⟨.ref (s1.heap.objs.size+1),_,I2,ev,.ref _,au M1 _ (.lst xs.reverse),f1.trans (Fr.new fr λ_ hb=>aT hb),aH.mpr rfl,gX.newL fr (xu hd),q _ (gX.free fr)⟩
end
end L3
namespace L3
open PySem PySem.Spec PyProof.Rows L2
section
variable{X:Cx}{pos:Pos}
end
structure Se(K:PySem.W.Frag)(J:It)(inv:Hp->Prop)(ds:List L3.D):Prop where
 go:∀i H,i<ds.length->inv H->J.go i H
 FE:∀i H x H',i<ds.length->inv H->J.FE i H x H'->(∀b o,H b=some o->H' b=some o)/\∃d,ds[i]?=some d/\Dat K H' d x
 stop:∀H,inv H->J.stop ds.length H
end L3
namespace L2
open PySem PySem.Spec PyProof.Rows
section
variable{X:Cx}{pins:List (Addr ×Obj)}{σ:St}{H:Hp}{s:Shared}{h':Heap}
theorem Inv.GI{t':Nat}{fp:List Addr}(I:Inv X pins σ H s)(k:∀b o,b∉fp->s.heap.get? b=some o->h'.get? b=some o)(hf:∀b∈fp,jS X pins H b):Inv X pins σ H {s with heap:=h',toks:=t'}:=by
 have LP:∀b u,H b=some u->b∉fp:=λb u e z=>by rw[(hf b z).1]at e;cases e
 refine I.step (g':=s.gens) (d':=s.drawn) (ch:=fp) (λb hb=>?_) (λb o _ _ hc e _=>k b o hc e) (λb o _ _ hc e _=>⟨o.slots,k b o hc e⟩) (λ_ _ _ _ n=>n)
  (λb o hc e=>⟨o,k b o hc e⟩) (λ_ _ e=>e) (λ_ _ _ e=>e) (λb ps e=>⟨#[],by rw[e];simp⟩) (λm hm=>?_) (λb u e=>?_) I.bare
 ·obtain⟨f0,f1,f2,f3,f4,f5⟩:=hf b hb
  exact⟨f3,f1,f4,f5⟩
 ·obtain⟨o,es,ep,ho,r⟩:=hm
  exact⟨o,es,ep,k _ o (λz=>(hf _ z).2.1 rfl) ho,r⟩
 ·refine(I.hok b u e).stay (λc v hc q=>k c v ?_ q) (λ_ q=>q) λ_ _ q=>q
  rcases hc with z|z
  ·rw[z];exact LP b u e
  ·exact LP c _ z
end
section
variable{X:Cx}
theorem Bx:bootBuiltins "zip" =some (.type "zip"):=by decide +kernel
end
end L2
namespace L3
open PySem PySem.Spec PyProof.Rows L2
noncomputable def pairD(x y:D):D:= .tup [x,y]
section
variable{X:Cx}{pos:Pos}{body:List Stmt}{g:wJ}{tb:iF}
end
end L3
namespace PySem
open PySem.Calls PySem.W
noncomputable abbrev iJ(h:Heap)(z TI TO T:Addr)(f:Bool):Prop:=
 h.get? z=some {cls:= .type "zip",dict:=none,data:= .fields #[rawInt T,.bool f,.bool false,.ref TI,.ref TO],slots:= #[]}
section
variable{prog:Program}{w:World}{A:Around}{E:Value->Shared->Prop}{s:Shared}
theorem xx{M:Model}{a:Addr}{Q:Option Obj->Shared->Prop}(h:Q (s.heap.get? a) s):wpAny M A (loadIfAlive a) Q E s:=
 λ_ _ _=>h
theorem nj{z TI TO T:Addr}{f:Bool}{oT:Obj}{Q:Bool->Shared->Prop}(hz:iJ s.heap z TI TO T f)(hT:s.heap.get? T=some oT)
 (hQ:∀h',iJ h' z TI TO T true->h'.objs.size=s.heap.objs.size->(∀c o,c≠z->s.heap.get? c=some o->h'.get? c=some o)->Q false {s with heap:=h'}) :
 wpAny (model prog w) A (Builtin.SmallTypes.ownedTupleIsFree (.ref z)) Q E s:=by
 unfold Builtin.SmallTypes.ownedTupleIsFree
 refine wpAny_bind (wpAny_field hz rfl (x:=rawInt T) rfl ?_)
 show wpAny _ _ (loadIfAlive T >>= _) _ _ _
 refine wpAny_bind (xx ?_)
 rw[hT]
 show wpAny _ _ (field (.ref z) 1 >>= _) _ _ _
 refine wpAny_bind (wpAny_field hz rfl (x:= .bool f) rfl ?_)
 cases f with
 |true=>exact wpAny_pure (hQ s.heap hz rfl λ_ _ _ e=>e)
 |false=>
  show wpAny _ _ (setField (.ref z) 1 (.bool true) >>= _) _ _ _
  refine wpAny_bind (wpAny_setField_rec hz (by simp) λh₁ OQ hs₁=>wpAny_pure (hQ h₁ OQ hs₁.1 λc o c1 e=>hs₁.extBut _ _ c1 e))
theorem tE{z TI TO T i1 i2 l1 l2:Addr}{f:Bool}{k1 k2:Nat}{xs ys:Array Value}{x y:Value}{oT:Obj}{Q:Value->Shared->Prop}(D:ZipApart z TI TO i1 i2 l1 l2)
 (hz:iJ s.heap z TI TO T f)(hT:s.heap.get? T=some oT)(hTI:IsPair s.heap TI (.ref i1) (.ref i2))
 (h1:s.heap.IsListIter i1 l1 k1)(h2:s.heap.IsListIter i2 l2 k2)(hl1:s.heap.IsList l1 xs)(hl2:s.heap.IsList l2 ys)(hx:xs[k1]?=some x)(hy:ys[k2]?=some y)
 (hQ:∀h',iJ h' z TI TO T true->h'.IsListIter i1 l1 (k1+1)->h'.IsListIter i2 l2 (k2+1)->IsPair h' s.heap.objs.size x y->h'.objs.size=s.heap.objs.size+1->
  (∀c o,c≠z->c≠i1->c≠i2->s.heap.get? c=some o->h'.get? c=some o)->Q (.ref s.heap.objs.size) {s with heap:=h'}) :
 wpAny (model prog w) A (Builtin.«zip.__next__» ⟨[.ref z],[]⟩) (λfin s'=>∃v,fin= .done (.ret v)/\Q v s') E s:=by
 show wpAny _ _ (field (.ref z) 2 >>= _) _ _ _
 refine wpAny_bind (wpAny_field hz rfl (x:= .bool false) rfl ?_)
 show wpAny _ _ (field (.ref z) 3 >>= _) _ _ _
 refine wpAny_bind (wpAny_field hz rfl (x:= .ref TI) rfl ?_)
 refine wpAny_bind (wpAny_seqItems hTI rfl ?_)
 show wpAny _ _ (Builtin.SmallTypes.ownedTupleIsFree (.ref z) >>= _) _ _ _
 refine wpAny_bind (nj hz hT λh₁ OQ hn₁ hk₁=>?_)
 simp only[Xs,if_false]
 have e1:h₁.IsListIter i1 l1 k1:=h1.at λo e=>hk₁ i1 o D.i1z e
 have e2:h₁.IsListIter i2 l2 k2:=h2.at λo e=>hk₁ i2 o D.i2z e
 have m1:h₁.IsList l1 xs:=by obtain⟨o,e,r⟩:=hl1;exact⟨o,hk₁ _ _ D.l1z e,r⟩
 have m2:h₁.IsList l2 ys:=by obtain⟨o,e,r⟩:=hl2;exact⟨o,hk₁ _ _ D.l2z e,r⟩
 refine wpAny_bind ?_
 rw[<-Array.forIn_toList]
 simp only[Y8,Zn]
 refine wpAny_bind (wpAny_bind (wpAny_holding ?_))
 show wpAny _ _ (Builtin.SmallTypes.nextOf (.ref i1) >>= _) _ _ _
 refine wpAny_bind (wpAny_nextOf_list_item e1 m1 hx λh₂ g1 hs₂=>wpAny_pure (wpAny_pure ?_))
 refine wpAny_bind (wpAny_bind (wpAny_holding ?_))
 show wpAny _ _ (Builtin.SmallTypes.nextOf (.ref i2) >>= _) _ _ _
 refine wpAny_bind (wpAny_nextOf_list_item (e2.extBut hs₂.extBut D.i12.symm) (m2.extBut hs₂.extBut D.l2i1) hy λh₃ g2 Lz=>wpAny_pure (wpAny_pure (wpAny_pure ?_)))
 show wpAny _ _ (newTuple [x,y] >>= _) _ _ _
 refine wpAny_bind (wpAny_newTuple ?_)
 have hsz:h₃.objs.size=s.heap.objs.size:=by rw[Lz.1,hs₂.1,hn₁]
 have kp:∀c o,c≠z->c≠i1->c≠i2->s.heap.get? c=some o->h₃.get? c=some o:=λc o c1 c2 c3 e=>Lz.extBut _ _ c3 (hs₂.extBut _ _ c2 (hk₁ c o c1 e))
 have z3:iJ h₃ z TI TO T true:=Lz.extBut _ _ D.i2z.symm (hs₂.extBut _ _ D.i1z.symm OQ)
 have g3:h₃.IsListIter i1 l1 (k1+1):=g1.extBut Lz.extBut D.i12
 have up:∀c o,h₃.get? c=some o->(h₃.push {cls:= .type "tuple",data:= .seq #[x,y]}).get? c=some o:=λc o e=>Heap.get?_push_of_some _ e
 refine wpAny_pure ⟨_,rfl,?_⟩
 show Q (.ref h₃.objs.size) _
 have hp:IsPair (h₃.push {cls:= .type "tuple",data:= .seq #[x,y]}) h₃.objs.size x y:=Heap.get?_push_size _ rfl
 have q:=hQ (h₃.push {cls:= .type "tuple",data:= .seq #[x,y]}) (up _ _ z3) (g3.at λo e=>up _ o e) (g2.at λo e=>up _ o e) (by rw[<-hsz];exact hp) (by rw[Heap.size_push,hsz]) λc o c1 c2 c3 e=>up c o (kp c o c1 c2 c3 e)
 rw[hsz]
 exact q
theorem vp{z TI TO T i1 i2 l1 l2:Addr}{f:Bool}{k1 k2:Nat}{xs ys:Array Value}{oT:Obj}{Q:Fin->Shared->Prop}(hh:A.handled=none)(D:ZipApart z TI TO i1 i2 l1 l2)
 (hz:iJ s.heap z TI TO T f)(hT:s.heap.get? T=some oT)(hTI:IsPair s.heap TI (.ref i1) (.ref i2))
 (h1:s.heap.IsListIter i1 l1 k1)(h2:s.heap.IsListIter i2 l2 k2)(hl1:s.heap.IsList l1 xs)(hl2:s.heap.IsList l2 ys)(hend:xs[k1]?=none\/ys[k2]?=none)
 (hE:∀h' e,(∀c o,c≠z->c≠i1->c≠i2->s.heap.get? c=some o->h'.get? c=some o)->(∃o,h'.get? e=some o/\o.cls= .type "StopIteration")->E (.ref e) {s with heap:=h'}) :
 wpAny (model prog w) A (Builtin.«zip.__next__» ⟨[.ref z],[]⟩) Q E s:=by
 show wpAny _ _ (field (.ref z) 2 >>= _) _ _ _
 refine wpAny_bind (wpAny_field hz rfl (x:= .bool false) rfl ?_)
 show wpAny _ _ (field (.ref z) 3 >>= _) _ _ _
 refine wpAny_bind (wpAny_field hz rfl (x:= .ref TI) rfl ?_)
 refine wpAny_bind (wpAny_seqItems hTI rfl ?_)
 show wpAny _ _ (Builtin.SmallTypes.ownedTupleIsFree (.ref z) >>= _) _ _ _
 refine wpAny_bind (nj hz hT λh₁ OQ hn₁ hk₁=>?_)
 simp only[Xs,if_false]
 have e1:h₁.IsListIter i1 l1 k1:=h1.at λo e=>hk₁ i1 o D.i1z e
 have e2:h₁.IsListIter i2 l2 k2:=h2.at λo e=>hk₁ i2 o D.i2z e
 have m1:h₁.IsList l1 xs:=by obtain⟨o,e,r⟩:=hl1;exact⟨o,hk₁ _ _ D.l1z e,r⟩
 have m2:h₁.IsList l2 ys:=by obtain⟨o,e,r⟩:=hl2;exact⟨o,hk₁ _ _ D.l2z e,r⟩
 refine wpAny_bind ?_
 rw[<-Array.forIn_toList]
 simp only[Y8,Zn]
 refine wpAny_bind (wpAny_bind (wpAny_holding ?_))
 show wpAny _ _ (Builtin.SmallTypes.nextOf (.ref i1) >>= _) _ _ _
 cases hx:xs[k1]? with
 |none=>exact wpAny_bind (wpAny_nextOf_list_end hh e1 m1 hx λh₂ e hs₂ he=>hE h₂ e (λc o c1 c2 c3 x=>hs₂ _ _ c2 (hk₁ c o c1 x)) he)
 |some x=>
  have hy:ys[k2]?=none:=by
   rcases hend with h|h
   ·rw[hx]at h;cases h
   ·exact h
  refine wpAny_bind (wpAny_nextOf_list_item e1 m1 hx λh₂ g1 hs₂=>wpAny_pure (wpAny_pure ?_))
  refine wpAny_bind (wpAny_bind (wpAny_holding ?_))
  show wpAny _ _ (Builtin.SmallTypes.nextOf (.ref i2) >>= _) _ _ _
  exact wpAny_bind (wpAny_nextOf_list_end hh (e2.extBut hs₂.extBut D.i12.symm) (m2.extBut hs₂.extBut D.l2i1) hy λh₃ e Lz he=>hE h₃ e (λc o c1 c2 c3 x=>Lz _ _ c3 (hs₂.extBut _ _ c2 (hk₁ c o c1 x))) he)
theorem By{z TI TO T i1 i2 l1 l2:Addr}{f:Bool}{k1 k2:Nat}{xs ys:Array Value}{x y:Value}{oT:Obj}{Q:Option Value->Shared->Prop}(D:ZipApart z TI TO i1 i2 l1 l2)
 (hz:iJ s.heap z TI TO T f)(hT:s.heap.get? T=some oT)(hTI:IsPair s.heap TI (.ref i1) (.ref i2))
 (h1:s.heap.IsListIter i1 l1 k1)(h2:s.heap.IsListIter i2 l2 k2)(hl1:s.heap.IsList l1 xs)(hl2:s.heap.IsList l2 ys)(hx:xs[k1]?=some x)(hy:ys[k2]?=some y)
 (hQ:∀h',iJ h' z TI TO T true->h'.IsListIter i1 l1 (k1+1)->h'.IsListIter i2 l2 (k2+1)->IsPair h' s.heap.objs.size x y->h'.objs.size=s.heap.objs.size+1->
  (∀c o,c≠z->c≠i1->c≠i2->s.heap.get? c=some o->h'.get? c=some o)->Q (some (.ref s.heap.objs.size)) {s with heap:=h'}) :
 wpAny (model prog w) A (pyNext (.ref z)) Q E s:=by
 have hTy:s.TypeIs (.ref z) "zip" :=⟨_,hz,rfl⟩
 unfold pyNext
 exact wpAny_bind (wpAny_attempt (wpAny_callSpecial?_slot (name:=Str.ofString "__next__") hTy F.slot_zip_next
  (wpAny_call_entry F.slot_zip_next hTy F.entry_zip_next
   (tE D hz hT hTI h1 h2 hl1 hl2 hx hy λh' a1 a2 a3 a4 a5 a6=>wpAny_pure (hQ h' a1 a2 a3 a4 a5 a6)) (F.args_zip_next_1 _))))
theorem DR{z TI TO T i1 i2 l1 l2:Addr}{f:Bool}{k1 k2:Nat}{xs ys:Array Value}{oT:Obj}{Q:Option Value->Shared->Prop}(hh:A.handled=none)(D:ZipApart z TI TO i1 i2 l1 l2)
 (hz:iJ s.heap z TI TO T f)(hT:s.heap.get? T=some oT)(hTI:IsPair s.heap TI (.ref i1) (.ref i2))
 (h1:s.heap.IsListIter i1 l1 k1)(h2:s.heap.IsListIter i2 l2 k2)(hl1:s.heap.IsList l1 xs)(hl2:s.heap.IsList l2 ys)(hend:xs[k1]?=none\/ys[k2]?=none)
 (hQ:∀h',(∀c o,c≠z->c≠i1->c≠i2->s.heap.get? c=some o->h'.get? c=some o)->Q none {s with heap:=h'}):wpAny (model prog w) A (pyNext (.ref z)) Q E s:=by
 have hTy:s.TypeIs (.ref z) "zip" :=⟨_,hz,rfl⟩
 unfold pyNext
 refine wpAny_bind (wpAny_attempt (wpAny_callSpecial?_slot (name:=Str.ofString "__next__") hTy F.slot_zip_next
  (wpAny_call_entry F.slot_zip_next hTy F.entry_zip_next (vp hh D hz hT hTI h1 h2 hl1 hl2 hend λh' e hk he=>?_) (F.args_zip_next_1 _))))
 obtain⟨o,ho,hc⟩:=he
 refine wpAny_bind (wpAny_isInstance (T:= "StopIteration") (b:=true) ⟨o,ho,hc⟩ isSubtype_stop ?_)
 exact wpAny_pure (hQ _ hk)
noncomputable def NB(N0:Nat)(h:Heap)(z TI TO:Addr):Prop:=
 (IsZip h z TI TO .none/\∃a b,IsPair h TO a b)\/∃T f oT,iJ h z TI TO T f/\h.get? T=some oT/\N0<=T
structure jJ(N0:Nat)(xs ys:Array Value)(z TI TO i1 i2 l1 l2:Addr)(i:Nat)(h:Heap):Prop where
 st:NB N0 h z TI TO
 ti:IsPair h TI (.ref i1) (.ref i2)
 i1:h.IsListIter i1 l1 i
 i2:h.IsListIter i2 l2 i
 l1:h.IsList l1 xs
 l2:h.IsList l2 ys
theorem jJ.next{N0:Nat}{z TI TO i1 i2 l1 l2:Addr}{i:Nat}{xs ys:Array Value}{x y:Value}{Q:Option Value->Shared->Prop}(D:ZipApart z TI TO i1 i2 l1 l2)
 (Z:jJ N0 xs ys z TI TO i1 i2 l1 l2 i s.heap)(hN:N0<=s.heap.objs.size)(lt:z<N0/\TO<N0/\i1<N0/\i2<N0)(hx:xs[i]?=some x)(hy:ys[i]?=some y)
 (hQ:∀h',jJ N0 xs ys z TI TO i1 i2 l1 l2 (i+1) h'->IsPair h' s.heap.objs.size x y->h'.objs.size=s.heap.objs.size+1->
  (∀c o,c≠z->c≠TO->c≠i1->c≠i2->s.heap.get? c=some o->h'.get? c=some o)->Q (some (.ref s.heap.objs.size)) {s with heap:=h'}) :
 wpAny (model prog w) A (pyNext (.ref z)) Q E s:=by
 obtain⟨st,ti,a1,a2,m1,m2⟩:=Z
 have tl:∀{h':Heap},(∀c o,c≠z->c≠TO->c≠i1->c≠i2->s.heap.get? c=some o->h'.get? c=some o)->h'.IsList l1 xs/\h'.IsList l2 ys/\IsPair h' TI (.ref i1) (.ref i2):=λk=>by
  refine⟨?_,?_,k _ _ D.TIz D.TITO D.TIi1 D.TIi2 ti⟩
  ·obtain⟨o,e,r⟩:=m1;exact⟨o,k _ _ D.l1z D.l1TO D.l1i1 D.l1i2 e,r⟩
  ·obtain⟨o,e,r⟩:=m2;exact⟨o,k _ _ D.l2z D.l2TO D.l2i1 D.l2i2 e,r⟩
 rcases st with⟨hz,a,b,hTO⟩|⟨T,f,oT,hz,hT,Iq⟩
 ·refine wpAny_pyNext_zip_item D hz ti hTO a1 a2 m1 m2 hx hy λh' b1 b2 b3 b4 b5 b6 b7=>?_
  obtain⟨t1,t2,t3⟩:=tl b7
  exact hQ h' ⟨.inr ⟨_,false,_,b1,b5,hN⟩,t3,b3,b4,t1,t2⟩ b5 b6 b7
 ·refine By D hz hT ti a1 a2 m1 m2 hx hy λh' b1 b3 b4 b5 b6 b7=>?_
  obtain⟨t1,t2,t3⟩:=tl λc o c1 c2 c3 c4 e=>b7 c o c1 c3 c4 e
  exact hQ h' ⟨.inr ⟨_,true,_,b1,b7 T _ (X5 (Xp lt.1 Iq)) (X5 (Xp lt.2.2.1 Iq)) (X5 (Xp lt.2.2.2 Iq)) hT,Iq⟩,t3,b3,b4,t1,t2⟩ b5 b6 λc o c1 c2 c3 c4 e=>b7 c o c1 c3 c4 e
theorem jJ.fin{N0:Nat}{z TI TO i1 i2 l1 l2:Addr}{i:Nat}{xs ys:Array Value}{Q:Option Value->Shared->Prop}(hh:A.handled=none)(D:ZipApart z TI TO i1 i2 l1 l2)
 (Z:jJ N0 xs ys z TI TO i1 i2 l1 l2 i s.heap)(hend:xs[i]?=none\/ys[i]?=none)
 (hQ:∀h',(∀c o,c≠z->c≠TO->c≠i1->c≠i2->s.heap.get? c=some o->h'.get? c=some o)->Q none {s with heap:=h'}):wpAny (model prog w) A (pyNext (.ref z)) Q E s:=by
 obtain⟨st,ti,a1,a2,m1,m2⟩:=Z
 rcases st with⟨hz,a,b,hTO⟩|⟨T,f,oT,hz,hT,Iq⟩
 ·exact wpAny_pyNext_zip_end hh D hz ti hTO a1 a2 m1 m2 hend hQ
 ·exact DR hh D hz hT ti a1 a2 m1 m2 hend λh' k=>hQ h' λc o c1 _ c3 c4 e=>k c o c1 c3 c4 e
theorem jJ.keep{N0:Nat}{z TI TO i1 i2 l1 l2 S:Addr}{i:Nat}{xs ys:Array Value}{h h':Heap}(Z:jJ N0 xs ys z TI TO i1 i2 l1 l2 i h)(hS:S<N0)(ne:S≠z/\S≠TI/\S≠TO/\S≠i1/\S≠i2/\S≠l1/\S≠l2)
 (k:∀c o,c≠S->h.get? c=some o->h'.get? c=some o):jJ N0 xs ys z TI TO i1 i2 l1 l2 i h':=by
 obtain⟨st,ti,a1,a2,m1,m2⟩:=Z
 obtain⟨n1,n2,n3,n4,n5,n6,n7⟩:=ne
 refine⟨?_,k _ _ n2.symm ti,a1.at λo e=>k _ o n4.symm e,a2.at λo e=>k _ o n5.symm e,?_,?_⟩
 ·rcases st with⟨hz,a,b,hTO⟩|⟨T,f,oT,hz,hT,Iq⟩
  ·exact .inl ⟨k _ _ n1.symm hz,a,b,k _ _ n3.symm hTO⟩
  ·exact .inr ⟨T,f,oT,k _ _ n1.symm hz,k _ _ (X5 (Xp hS Iq)) hT,Iq⟩
 ·obtain⟨o,e,r⟩:=m1;exact⟨o,k _ _ n6.symm e,r⟩
 ·obtain⟨o,e,r⟩:=m2;exact⟨o,k _ _ n7.symm e,r⟩
noncomputable def cR(N0:Nat)(xs ys:Array Value)(h:Heap)(acc:Array Value)(i:Nat):Prop:=
 acc.size=i/\(∀j x y,j<i->xs[j]?=some x->ys[j]?=some y->∃p,acc[j]?=some (.ref p)/\IsPair h p x y/\N0<=p)/\acc.toList.Nodup
theorem cR.keep{N0:Nat}{xs ys:Array Value}{h h':Heap}{acc:Array Value}{i:Nat}(P:cR N0 xs ys h acc i)(k:∀c o,N0<=c->h.get? c=some o->h'.get? c=some o):cR N0 xs ys h' acc i:=
 ⟨P.1,(λj x y hj hx hy=>by obtain⟨p,e1,e2,e3⟩:=P.2.1 j x y hj hx hy;exact⟨p,e1,k p _ e3 e2,e3⟩),P.2.2⟩
theorem cR.push{N0:Nat}{xs ys:Array Value}{h:Heap}{acc:Array Value}{i:Nat}{x y:Value}{p:Addr}(P:cR N0 xs ys h acc i)(hx:xs[i]?=some x)(hy:ys[i]?=some y)(hp:IsPair h p x y)(hN:N0<=p)(hnew:Value.ref p∉acc.toList):cR N0 xs ys h (acc.push (.ref p)) (i+1):=by
 refine⟨by rw[Array.size_push,P.1],λj u v hj hu hv=>?_,by rw[Array.toList_push,YM];exact⟨P.2.2,by simp,λa ha b hb e=>by rw[Xq.mp hb]at e;rw[e]at ha;exact hnew ha⟩⟩
 by_cases e:j=i
 ·subst e
  rw[hx]at hu;rw[hy]at hv
  cases hu;cases hv
  refine⟨p,?_,hp,hN⟩
  have:=P.1
  subst this
  exact Array.getElem?_push_size
 ·obtain⟨q,e1,e2,e3⟩:=P.2.1 j u v (by omega) hu hv
  refine⟨q,?_,e2,e3⟩
  rw[Array.getElem?_push,if_neg (by rw[P.1];exact e)]
  exact e1
variable{R:Result->Shared->Prop}
theorem DS{N0:Nat}{z TI TO i1 i2 l1 l2 S:Addr}{xs ys:Array Value}(hh:A.in1.handled=none)(D:ZipApart z TI TO i1 i2 l1 l2)(lt:z<N0/\TO<N0/\i1<N0/\i2<N0)(Ir:S<N0)(ne:S≠z/\S≠TI/\S≠TO/\S≠i1/\S≠i2/\S≠l1/\S≠l2)(n:Nat)(hn:n=min xs.size ys.size)(hsz:n<=sizeLine)(res:Value) :
 ∀(k i:Nat) (s:Shared) (acc:Array Value) (c:Nat),n-i=k->i<=n->N0<=s.heap.objs.size->jJ N0 xs ys z TI TO i1 i2 l1 l2 i s.heap->s.heap.get? S=some {cls:= .type "list",dict:=none,data:= .seq acc c,slots:= #[]}->cR N0 xs ys s.heap acc i->
 (∀h' acc' c',(∀b o,b≠S->b≠z->b≠TO->b≠i1->b≠i2->s.heap.get? b=some o->h'.get? b=some o)->h'.get? S=some {cls:= .type "list",dict:=none,data:= .seq acc' c',slots:= #[]}->cR N0 xs ys h' acc' n->R (.ok (.ret res)) {s with heap:=h'})->
 codeAny (model prog w) A (.builtin "list.extend.loop" ⟨[.ref S,.ref z,res],[]⟩) R s:=by
 obtain⟨n1,n2,n3,n4,n5,n6,n7⟩:=id ne
 intro k
 induction k with
 |zero=>
  intro i s acc c hk hi hN Z hS hP hR
  have hin:i=n:=by omega
  refine codeAny_builtin F.entry_extend_loop ?_
  rw[Around.under_plainId F.plain_extend_loop _]
  show wpAny _ A.in1 (pyNext (.ref z) >>= _) _ _ s
  have hend:xs[i]?=none\/ys[i]?=none:=by
   rcases Nat.le_total xs.size ys.size with q|q
   ·left;rw[Array.getElem?_eq_none];omega
   ·right;rw[Array.getElem?_eq_none];omega
  refine wpAny_bind (Z.fin hh D hend λh' kp=>?_)
  subst hin
  refine wpAny_pure (hR h' acc c (λb o b1 b2 b3 b4 b5 e=>kp b o b2 b3 b4 b5 e) (kp S _ n1 n3 n4 n5 hS) (hP.keep λc o hc e=>kp c o ?_ ?_ ?_ ?_ e))
  ·exact X5 (Xp lt.1 hc)
  ·exact X5 (Xp lt.2.1 hc)
  ·exact X5 (Xp lt.2.2.1 hc)
  ·exact X5 (Xp lt.2.2.2 hc)
 |succ k ih=>
  intro i s acc c hk hi hN Z hS hP hR
  have hlt:i<n:=by omega
  have lx:i<xs.size:=by omega
  have ly:i<ys.size:=by omega
  refine codeAny_builtin F.entry_extend_loop ?_
  rw[Around.under_plainId F.plain_extend_loop _]
  show wpAny _ A.in1 (pyNext (.ref z) >>= _) _ _ s
  have hx:xs[i]?=some xs[i]:=Array.getElem?_eq_getElem lx
  have hy:ys[i]?=some ys[i]:=Array.getElem?_eq_getElem ly
  refine wpAny_bind (Z.next D hN lt hx hy λh' Z' hp hz' kp=>?_)
  have hS':=kp S _ n1 n3 n4 n5 hS
  have Ud:cR N0 xs ys h' acc i:=hP.keep λc o hc e=>kp c o (X5 (Xp lt.1 hc)) (X5 (Xp lt.2.1 hc)) (X5 (Xp lt.2.2.1 hc)) (X5 (Xp lt.2.2.2 hc)) e
  have hnew:Value.ref s.heap.objs.size∉acc.toList:=λhm=>by
   obtain⟨j,hj,ej⟩:=List.mem_iff_getElem.mp hm
   have hj':j<acc.size:=by simpa using hj
   have hji:j<i:=by rw[<-hP.1];exact hj'
   have gx:xs[j]?=some xs[j]:=Array.getElem?_eq_getElem (by omega)
   have gy:ys[j]?=some ys[j]:=Array.getElem?_eq_getElem (by omega)
   obtain⟨q,e1,e2,e3⟩:=hP.2.1 j _ _ hji gx gy
   rw[Array.getElem?_eq_getElem hj']at e1
   have e4:acc[j]=Value.ref s.heap.objs.size:=by rw[<-ej];simp
   rw[e4]at e1
   have e5:s.heap.objs.size=q:=by injection Option.some.inj e1
   have:=Heap.lt_size e2
   rw[<-e5]at this
   exact Ys _ this
  show wpAny _ A.in1 (updateSeq S (·.push (.ref s.heap.objs.size)) >>= _) _ _ _
  refine wpAny_bind ?_
  have up:∀b o,b≠S->h'.get? b=some o->(h'.update S (Obj.mapSeq (·.push (.ref s.heap.objs.size)))).get? b=some o:=λb o hb e=>(Heap.get?_update_other _ _ (Ne.symm hb)).trans e
  refine wpAny_updateSeq hS' rfl (wpAny_pure ⟨plainId_quiet F.plain_extend_loop _,ih (i+1) _ (acc.push (.ref s.heap.objs.size)) _ (by omega) hlt ?_ (Z'.keep Ir ne λc o hc e=>up c o hc e) (Heap.get?_update_self _ hS' rfl)
   ((Ud.push hx hy hp hN hnew).keep λc o hc e=>up c o (X5 (Xp Ir hc)) e) λh'' acc' c' QE QF QG=>?_⟩) (by rw[hP.1];omega) (by show(acc.push _).size<=sizeLine+1;rw[Array.size_push,hP.1];omega)
  ·show N0<=(h'.update S _).objs.size
   have:(h'.update S (Obj.mapSeq (·.push (.ref s.heap.objs.size)))).objs.size=h'.objs.size:=(Heap.SameBut.update ..).1
   omega
  ·exact hR h'' acc' c' (λb o b1 b2 b3 b4 b5 e=>QE b o b1 b2 b3 b4 b5 (up b o b1 (kp b o b2 b3 b4 b5 e))) QF QG
theorem yX:typeLookup (.type "zip") "__len__" =pure none:=by rw[typeLookup_type,builtinLookup_eq_fast];kernel_rfl
theorem xA:typeLookup (.type "zip") "__length_hint__" =pure none:=by rw[typeLookup_type,builtinLookup_eq_fast];kernel_rfl
theorem yY{N0:Nat}{z TI TO i1 i2 l1 l2 S:Addr}{xs ys:Array Value}{c₀:Nat}(hh:A.in1.handled=none)(D:ZipApart z TI TO i1 i2 l1 l2)(lt:z<N0/\TO<N0/\i1<N0/\i2<N0)(Ir:S<N0)(ne:S≠z/\S≠TI/\S≠TO/\S≠i1/\S≠i2/\S≠l1/\S≠l2)(n:Nat)(hn:n=min xs.size ys.size)(hsz:n<=sizeLine)(res:Value)
 (hN:N0<=s.heap.objs.size)(Z:jJ N0 xs ys z TI TO i1 i2 l1 l2 0 s.heap)(hz:IsZip s.heap z TI TO .none)(hS:s.heap.get? S=some {cls:= .type "list",data:= .seq #[] c₀})
 (hR:∀h' acc' c',(∀b o,b≠S->b≠z->b≠TO->b≠i1->b≠i2->s.heap.get? b=some o->h'.get? b=some o)->h'.get? S=some {cls:= .type "list",dict:=none,data:= .seq acc' c',slots:= #[]}->cR N0 xs ys h' acc' n->R (.ok (.ret res)) {s with heap:=h'}) :
 wpAny (model prog w) A.in1 (Builtin.List.listExtendWith (.ref S) (.ref z) res)
  (λfin s'=>match fin with| .done f=>R (.ok f) s'| .again c'=>c'.quiet=true/\codeAny (model prog w) A c' R s') (λe s'=>R (.error e) s') s:=by
 have hTy:s.TypeIs (.ref z) "zip" :=⟨_,hz,rfl⟩
 unfold Builtin.List.listExtendWith
 refine wpAny_bind (wpAny_typeOf hTy ?_)
 have h1:Builtin.List.listSameRef (.ref S) (.ref z)=false:=by simp[Builtin.List.listSameRef,ne.1]
 have h2:(Value.type "zip" ==Value.type "list")=false:=by decide
 have h3:(Value.type "zip" ==Value.type "tuple")=false:=by decide
 simp only[h1,h2,h3,Bool.or_false,Xs,if_false]
 refine wpAny_bind (wpAny_pyIter_zip hz ?_)
 refine wpAny_bind (wpAny_holding ?_)
 unfold Builtin.List.listLengthHint
 refine wpAny_bind (wpAny_specialOf hTy yX ?_)
 show wpAny _ A.in1 (specialOf (Value.ref z) (Str.ofString "__length_hint__") >>= _) _ _ _
 refine wpAny_bind (wpAny_specialOf hTy xA ?_)
 refine wpAny_pure ?_
 show wpAny _ A.in1 (rule "list.extend.makes-room" >>= λ_=>Builtin.List.listTouch (.ref S) >>= λ_=>
  again (.builtin "list.extend.loop" ⟨[.ref S,.ref z,res],[]⟩)) _ _ _
 refine wpAny_bind (wpAny_rule ?_)
 refine wpAny_bind ?_
 show wpAny _ A.in1 (updateSeq S (·.push .none) >>= λ_=>updateSeq S (·.pop)) _ _ _
 refine wpAny_bind (wpAny_updateSeq hS rfl ?_)
 have Ly:=Heap.get?_update_self (Obj.mapSeq (·.push Value.none)) hS rfl
 refine wpAny_updateSeq (hz:=by seq_fits) Ly rfl ?_
 have Ue:=Heap.get?_update_self (Obj.mapSeq (·.pop)) Ly rfl
 have GH:∀b o,b≠S->s.heap.get? b=some o->((s.heap.update S (Obj.mapSeq (·.push Value.none))).update S (Obj.mapSeq (·.pop))).get? b=some o:=
  λb o hb e=>(Heap.get?_update_other _ _ (Ne.symm hb)).trans ((Heap.get?_update_other _ _ (Ne.symm hb)).trans e)
 have QH:((s.heap.update S (Obj.mapSeq (·.push Value.none))).update S (Obj.mapSeq (·.pop))).objs.size=s.heap.objs.size:=by
  rw[(Heap.SameBut.update ..).1,(Heap.SameBut.update ..).1]
 refine wpAny_pure ⟨plainId_quiet F.plain_extend_loop _,DS hh D lt Ir ne n hn hsz res n 0 _ _ _ rfl (Yn _) (Yj hN (Zz QH.symm)) (Z.keep Ir ne λc o hc e=>GH c o hc e) Ue ⟨rfl,(λj x y hj=>absurd hj (Z4 _)),ZH⟩ λh' acc' c' kp hS' hP=>?_⟩
 exact hR h' acc' c' (λb o b1 b2 b3 b4 b5 e=>kp b o b1 b2 b3 b4 b5 (GH b o b1 e)) hS' hP
theorem tF{N0:Nat}{z TI TO i1 i2 l1 l2 S:Addr}{xs ys:Array Value}(hh:A.in1.handled=none)(D:ZipApart z TI TO i1 i2 l1 l2)(lt:z<N0/\TO<N0/\i1<N0/\i2<N0)(Ir:S<N0)(ne:S≠z/\S≠TI/\S≠TO/\S≠i1/\S≠i2/\S≠l1/\S≠l2)(n:Nat)(hn:n=min xs.size ys.size)(hsz:n<=sizeLine)
 (hN:N0<=s.heap.objs.size)(Z:jJ N0 xs ys z TI TO i1 i2 l1 l2 0 s.heap)(hz:IsZip s.heap z TI TO .none)(hS:s.heap.get? S=some {cls:= .type "list",data:= .seq #[]})
 (hR:∀h' acc' c',(∀b o,b≠S->b≠z->b≠TO->b≠i1->b≠i2->s.heap.get? b=some o->h'.get? b=some o)->h'.get? S=some {cls:= .type "list",dict:=none,data:= .seq acc' c',slots:= #[]}->cR N0 xs ys h' acc' n->R (.ok (.ret .none)) {s with heap:=h'}) :
 wpAny (model prog w) A.in1 (Builtin.«list.__init__» ⟨[.ref S,.ref z],[]⟩)
  (λfin s'=>match fin with| .done f=>R (.ok f) s'| .again c'=>c'.quiet=true/\codeAny (model prog w) A c' R s') (λe s'=>R (.error e) s') s:=by
 show wpAny _ A.in1 (do let old <-Builtin.List.listItems (.ref S);Builtin.List.listUpdate (.ref S) (λ_=> #[]);letGo old.toList.reverse;Builtin.List.listExtendWith (.ref S) (.ref z) .none) _ _ s
 refine wpAny_bind ?_
 unfold Builtin.List.listItems
 refine wpAny_bind (wpAny_seqItems hS rfl (wpAny_pure ?_))
 show wpAny _ A.in1 (updateSeq S (λ_=> #[]) >>= λ_=>letGo (#[]:Array Value).toList.reverse >>= λ_=>Builtin.List.listExtendWith (.ref S) (.ref z) .none) _ _ s
 refine wpAny_bind (wpAny_updateSeq hS rfl ?_)
 have Ly:=Heap.get?_update_self (Obj.mapSeq (λ_=>(#[]:Array Value))) hS rfl
 have GH:∀b o,b≠S->s.heap.get? b=some o->(s.heap.update S (Obj.mapSeq (λ_=>(#[]:Array Value)))).get? b=some o:=
  λb o hb e=>(Heap.get?_update_other _ _ (Ne.symm hb)).trans e
 have QH:(s.heap.update S (Obj.mapSeq (λ_=>(#[]:Array Value)))).objs.size=s.heap.objs.size:=(Heap.SameBut.update ..).1
 refine wpAny_bind (wpAny_letGo ?_)
 refine yY hh D lt Ir ne n hn hsz .none (Yj hN (Zz QH.symm)) (Z.keep Ir ne λc o hc e=>GH c o hc e) (GH _ _ ne.1.symm hz) Ly λh' acc' c' kp hS' hP=>?_
 exact hR h' acc' c' (λb o b1 b2 b3 b4 b5 e=>kp b o b1 b2 b3 b4 b5 (GH b o b1 e)) hS' hP
theorem tG{z TI TO i1 i2 l1 l2:Addr}{xs ys:Array Value}{Q:Value->Shared->Prop}(hh:A.in1.in1.handled=none)(D:ZipApart z TI TO i1 i2 l1 l2)
 (lt:z<s.heap.objs.size/\TI<s.heap.objs.size/\TO<s.heap.objs.size/\i1<s.heap.objs.size/\i2<s.heap.objs.size/\l1<s.heap.objs.size/\l2<s.heap.objs.size)(n:Nat)(hn:n=min xs.size ys.size)(hsz:n<=sizeLine)
 (hz:IsZip s.heap z TI TO .none)(hTI:IsPair s.heap TI (.ref i1) (.ref i2)){a b:Value}(hTO:IsPair s.heap TO a b)(h1:s.heap.IsListIter i1 l1 0)(h2:s.heap.IsListIter i2 l2 0)(hl1:s.heap.IsList l1 xs)(hl2:s.heap.IsList l2 ys)
 (hQ:∀h' acc' c',(∀b o,b≠z->b≠TO->b≠i1->b≠i2->s.heap.get? b=some o->h'.get? b=some o)->h'.get? s.heap.objs.size=some {cls:= .type "list",dict:=none,data:= .seq acc' c',slots:= #[]}->cR (s.heap.objs.size+1) xs ys h' acc' n->Q (.ref s.heap.objs.size) {s with heap:=h'}) :
 wpAny (model prog w) A (call (.type "list") [.ref z]) Q E s:=by
 obtain⟨q1,q2,q3,q4,q5,q6,q7⟩:=lt
 refine callType_codes (Q₁:=λobj s₁=>obj= .ref s.heap.objs.size/\s₁= {s with heap:=s.heap.push {cls:= .type "list",data:= .seq #[]}}) F.called_list (F.typeCall_list_1 _) F.entry_list_init
  (code_list_new _ ⟨rfl,rfl⟩) λobj s₁ h₁=>?_
 obtain⟨rfl,rfl⟩:=h₁
 have hS:(s.heap.push {cls:= .type "list",data:= .seq #[]}).get? s.heap.objs.size=some {cls:= .type "list",data:= .seq #[]}:=Heap.get?_push_size _ rfl
 have up:∀c o,s.heap.get? c=some o->(s.heap.push {cls:= .type "list",data:= .seq #[]}).get? c=some o:=λc o e=>Heap.get?_push_of_some _ e
 have Z:jJ (s.heap.objs.size+1) xs ys z TI TO i1 i2 l1 l2 0 (s.heap.push {cls:= .type "list",data:= .seq #[]}):=
  ⟨.inl ⟨up _ _ hz,a,b,up _ _ hTO⟩,up _ _ hTI,h1.at λo e=>up _ o e,h2.at λo e=>up _ o e,(by obtain⟨o,e,r⟩:=hl1;exact⟨o,up _ _ e,r⟩),(by obtain⟨o,e,r⟩:=hl2;exact⟨o,up _ _ e,r⟩)⟩
 refine⟨⟨_,hS,rfl⟩,F.args_list_init_2 _ _,tF (N0:=s.heap.objs.size+1) hh D ⟨Yz q1,Yz q3,Yz q4,Yz q5⟩ (Ze _) ⟨X5 q1,X5 q2,X5 q3,X5 q4,X5 q5,X5 q6,X5 q7⟩ n hn hsz
  (by show s.heap.objs.size+1<=(Heap.push _ _).objs.size;rw[Heap.size_push];exact Xn _) Z (up _ _ hz) hS λh' acc' c' kp hS' hP=>?_⟩
 exact⟨rfl,hQ h' acc' c' (λb o b2 b3 b4 b5 e=>kp b o (XG (Heap.lt_size e)) b2 b3 b4 b5 (up b o e)) hS' hP⟩
end
end PySem
namespace L2
open PySem PySem.Spec PyProof.Rows
section
variable{X:Cx}{pins:List (Addr ×Obj)}{σ:St}{H:Hp}{s:Shared}
theorem Inv.named{a:Addr}{o:HO}(I:Inv X pins σ H s)(f:jS X pins H a)(new:bI X.prog X.w (upd H a o) s.heap a o):Inv X pins σ (upd H a o) s:=by
 obtain⟨f0,f1,f2,f3,f4,f5⟩:=f
 have nn:∀b u,H b=some u->b≠a:=λb u e z=>by rw[z,f0]at e;cases e
 have hok:gY X.prog X.w (upd H a o) s.heap:=λb u e=>by
  by_cases hb:b=a
  ·subst hb;rw[aY]at e;cases e;exact new
  ·rw[aA hb]at e
   exact(I.hok b u e).stay (λc v _ q=>q) (λc q=>by rw[aA (nn _ _ q)];exact q) λc xs q=>by rw[aA (nn _ _ q)];exact q
 exact I.step (h':=s.heap) (g':=s.gens) (d':=s.drawn) (t':=s.toks) (ch:=[a]) (λb hb=>by rw[Xq.mp hb];exact⟨f3,f1,f4,f5⟩) (λb o _ _ _ e _=>e) (λb o _ _ _ e _=>⟨o.slots,e⟩) (λb o hc e n=>by rw[aA (by simpa using hc)];exact n)
  (λb o _ e=>⟨o,e⟩) (λb xs e=>by rw[aA (nn _ _ e)];exact e) (λb o u e=>by rw[aA (nn _ _ e)];exact e) (λb ps e=>⟨#[],by rw[aA (nn _ _ e),e];simp⟩) (λm hm=>hm) hok I.bare
end
end L2
namespace L3
open PySem PySem.Spec PyProof.Rows L2
section
variable{X:Cx}{pins:List (Addr ×Obj)}{σ:St}{s:Shared}
theorem qW:∀(L:List (Addr ×V ×V)) {H:Hp},Inv X pins σ H s->(L.map (·.1)).Nodup->(∀q∈L,jS X pins H q.1/\∃u v,RelV q.2.1 u/\RelV q.2.2 v/\IsPair s.heap q.1 u v)->
 ∃H',Inv X pins σ H' s/\(∀b o,H b=some o->H' b=some o)/\(∀b,b∉L.map (·.1)->H' b=H b)/\∀q∈L,H' q.1=some (.tup [q.2.1,q.2.2])
 |[],H,I,_,_=>⟨H,I,λ_ _ e=>e,λ_ _=>rfl,λq hq=>by cases hq⟩
 |(p,x,y)::L,H,I,nd,h=>by
  obtain⟨f,u,v,ru,rv,hp⟩:=h (p,x,y) (by simp)
  rw[XQ,XF]at nd
  have I1:Inv X pins σ (upd H p (.tup [x,y])) s:=I.named f ⟨by rw[sizeLine_eq];show 2<=16777216;decide,[u,v],.cons ru (.cons rv .nil),⟨_,hp,rfl,_,rfl⟩⟩
  obtain⟨H',I',k1,k2,k3⟩:=qW L I1 nd.2 λq hq=>by
   obtain⟨⟨f0,fr⟩,r⟩:=h q (Xl _ hq)
   refine⟨⟨?_,fr⟩,r⟩
   rw[aA (λz=>nd.1 (XW.mpr ⟨q,hq,z⟩))]
   exact f0
  refine⟨H',I',λb o e=>k1 b o (by rw[aA (br e f.1)];exact e),λb hb=>?_,λq hq=>?_⟩
  ·rw[XQ,Xj,not_or]at hb
   rw[k2 b hb.2,aA hb.1]
  ·rcases Xj.mp hq with e|e
   ·rw[e];exact k1 p _ aY
   ·exact k3 q e
theorem uD:∀(ps:List Addr),Vals (ps.map V.ref) (ps.map Value.ref)
 |[]=> .nil
 |p::ps=> .cons rfl (uD ps)
theorem o6{K:PySem.W.Frag}{H:Hp}:∀{ds:List D} {xs:List V},ds.length=xs.length->(∀(i:Nat) (d:D),ds[i]?=some d->∃v,xs[i]?=some v/\Dat K H d v)->aB K H ds xs
 |[],[],_,_=>aF.mpr rfl
 |d::ds,x::xs,hl,h=>by
  obtain⟨v,e,hv⟩:=h 0 d rfl
  cases e
  exact az.mpr ⟨x,xs,rfl,hv,o6 (by simpa using hl) λi d e=>h (i+1) d e⟩
 |[],_::_,hl,_=>by cases hl
 |_::_,[],hl,_=>by cases hl
end
section
variable{X:Cx}{pos:Pos}
noncomputable def NC(t:oS):cG:=λρ M Q=>t ρ M λvs M1=>∃a b xs ys,vs=[.ref a,.ref b]/\M1 a=some (.lst xs)/\M1 b=some (.lst ys)/\∀p,M1 p=none->Q (.ref p) (au M1 p (.lst (List.zipWith pairD xs ys)))
theorem BA{e1 e2:Expr}{t:oS}{p1 p2 pos2:Pos}(hc:X.calm=true)(MW:Gl X "list")(hml:X.mg "list" =none)(Ug:Gl X "zip")(Uh:X.mg "zip" =none)(ha:wH X [e1,e2] t)
 (st1:starEach [e1,e2] X.env=(false,eval e1 X.env)::starEach [e2] X.env:=by rfl)(hpl:(backTo pos2 (starEach [e2] X.env)).any (·.1)=false:=by rfl)
 (s2:starEach [.Call (.Name "zip" p2) [e1,e2] [] pos2] X.env=[(false,eval (.Call (.Name "zip" p2) [e1,e2] [] pos2) X.env)]:=by rfl) :
 bZ X (.Call (.Name "list" p1) [.Call (.Name "zip" p2) [e1,e2] [] pos2] [] pos) (NC t):=by
 constructor
 intro pins s σ H ρ M Q I r h
 refine wpAny_Call_Name_kw (jY I MW hml cK ?_ (by decide) (by decide))
 refine PyProof.Rows.callWith_type1 (Q:=EP X pins σ (Post X.K M H Q)) ?_ (by rw[s2];rfl) (by rfl)
 rw[s2]
 show wpAny _ _ (spliced ((false,eval (.Call (.Name "zip" p2) [e1,e2] [] pos2) X.env)::backTo pos [])) _ _ s
 refine Calls.spliced_cons ?_
 refine wpAny_Call_Name_kw (jY I Ug Uh Bx ?_ (by decide) (by decide))
 refine PyProof.Rows.callWith_type1 (cu (ha.run pos2 pins s σ H ρ M _ I r h) λus s1 hq=>?_) st1 hpl
 obtain⟨vs,H1,I1,r1,ds,M1,f1,dv,gX,a,b,xs,ys,e,Ui,Uj,q⟩:=hq
 subst e
 obtain⟨v,u,rfl,hv,hu⟩:=w6 dv
 obtain rfl:=aH.mp hv
 obtain rfl:=aH.mp hu
 obtain⟨u1,u2,rfl,ra,rb⟩:=vals2 r1
 obtain rfl:u1=Value.ref a:=ra
 obtain rfl:u2=Value.ref b:=rb
 obtain⟨zs,Uk,dz⟩:=gX.lst Ui
 obtain⟨ws,Ul,dw⟩:=gX.lst Uj
 obtain⟨its,rv,pl,hz1⟩:=I1.list (jj.of Uk)
 obtain⟨OR,rw',QI,hz2⟩:=I1.list (jj.of Ul)
 have la:a<s1.heap.objs.size:=by obtain⟨o,e,_⟩:=pl.isList;exact Heap.lt_size e
 have lb:b<s1.heap.objs.size:=by obtain⟨o,e,_⟩:=QI.isList;exact Heap.lt_size e
 refine call_zip_2 pl.isList QI.isList λh' hz hTI hTO h1 h2 hsz kp=>Calls.spliced_nil ?_
 have na:∀k,a≠s1.heap.objs.size+k:=λk=>XG (Xp la (X4 _ _))
 have nb:∀k,b≠s1.heap.objs.size+k:=λk=>XG (Xp lb (X4 _ _))
 have nn:∀j k:Nat,j≠k->s1.heap.objs.size+j≠s1.heap.objs.size+k:=λj k h e=>h (Nat.add_left_cancel e)
 have D:ZipApart (s1.heap.objs.size+4) (s1.heap.objs.size+2) (s1.heap.objs.size+3) s1.heap.objs.size (s1.heap.objs.size+1) a b:=
  ⟨nn 2 4 (by decide),nn 3 4 (by decide),nn 0 4 (by decide),nn 1 4 (by decide),nn 2 3 (by decide),nn 2 0 (by decide),nn 2 1 (by decide),nn 3 0 (by decide),nn 3 1 (by decide),nn 0 1 (by decide),na 4,na 3,na 0,na 1,nb 4,nb 3,nb 0,nb 1⟩
 have lz:=rv.length
 have lw:=rw'.length
 refine tG (s:={s1 with heap:=h'}) (show _ from I.ok.hd hc) D (by show _<h'.objs.size/\_;rw[hsz];exact⟨Zh (by decide) _,Zh (by decide) _,Zh (by decide) _,Nat.lt_add_of_pos_right (by decide),Zh (by decide) _,Xp la (X4 _ _),Xp lb (X4 _ _)⟩) (min its.toArray.size OR.toArray.size) rfl (by simp only[Xr];omega) hz hTI hTO h1 h2
  (by obtain⟨o,e,r⟩:=pl.isList;exact⟨o,kp _ _ e,r⟩) (by obtain⟨o,e,r⟩:=QI.isList;exact⟨o,kp _ _ e,r⟩) λh'' acc c Bq hS hP=>?_
 have hS:h''.get? (s1.heap.objs.size+5)=some {cls:= .type "list",dict:=none,data:= .seq acc c,slots:= #[]}:=by rw[<-hsz];exact hS
 have hP:cR (s1.heap.objs.size+6) its.toArray OR.toArray h'' acc (min its.toArray.size OR.toArray.size):=by
  have e:s1.heap.objs.size+6=h'.objs.size+1:=by rw[hsz]
  rw[e];exact hP
 have en:min its.toArray.size OR.toArray.size=min zs.length ws.length:=by simp only[Xr];omega
 rw[en]at hP
 have I2:Inv X pins σ H1 {s1 with heap:=h',toks:=s1.toks}:=I1.kept (t':=s1.toks) kp
 have fz:∀{H':Hp} {b:Addr},s1.heap.objs.size<=b->H' b=none->jS X pins H' b:=λhb hn=>I1.CH hb hn
 have I3:Inv X pins σ H1 {s1 with heap:=h'',toks:=s1.toks}:=Inv.GI (s:={s1 with heap:=h',toks:=s1.toks}) (h':=h'') (t':=s1.toks) (fp:=[s1.heap.objs.size+4,s1.heap.objs.size+3,s1.heap.objs.size,s1.heap.objs.size+1]) I2
  (λb o hb e=>by
   have nb:b≠s1.heap.objs.size+4/\b≠s1.heap.objs.size+3/\b≠s1.heap.objs.size/\b≠s1.heap.objs.size+1:=by simpa using hb
   exact Bq b o nb.1 nb.2.1 nb.2.2.1 nb.2.2.2 e)
  (λb hb=>by
   have hle:s1.heap.objs.size<=b:=by
    simp only[Xj,XR,or_false]at hb
    rcases hb with rfl|rfl|rfl|rfl
    ·exact X4 _ _
    ·exact X4 _ _
    ·exact Xn _
    ·exact X4 _ _
   exact fz hle (I1.hok.fresh hle))
 have key:∀j,j<min zs.length ws.length->∃x y u v p,zs[j]?=some x/\ws[j]?=some y/\RelV x u/\RelV y v/\acc[j]?=some (.ref p)/\IsPair h'' p u v/\s1.heap.objs.size+6<=p:=λj hj=>by
  have gx:zs[j]?=some (zs[j]'(by omega)):=Xm (by omega)
  have gy:ws[j]?=some (ws[j]'(by omega)):=Xm (by omega)
  obtain⟨u,hu,ru⟩:=rv.get gx
  obtain⟨v,hv,OP⟩:=rw'.get gy
  obtain⟨p,a1,a2,a3⟩:=hP.2.1 j u v hj (by simpa using hu) (by simpa using hv)
  exact⟨_,_,u,v,p,gx,gy,ru,OP,a1,a2,a3⟩
 generalize hm:min zs.length ws.length=m at *
 let pj:Nat->Addr:=λj=>match acc[j]? with|some (.ref p)=>p|_=>0
 have QJ:∀j,j<m->∃x y u v,zs[j]?=some x/\ws[j]?=some y/\RelV x u/\RelV y v/\acc[j]?=some (.ref (pj j))/\IsPair h'' (pj j) u v/\s1.heap.objs.size+6<=pj j:=λj hj=>by
  obtain⟨x,y,u,v,p,a1,a2,a3,a4,a5,a6,a7⟩:=key j hj
  have e:pj j=p:=by show(match acc[j]? with|some (.ref p)=>p|_=>0)=p;rw[a5]
  rw[e]
  exact⟨x,y,u,v,a1,a2,a3,a4,a5,a6,a7⟩
 have Iu:acc.toList=((List.range m).map pj).map Value.ref:=by
  apply aar
  intro j
  by_cases hj:j<m
  ·obtain⟨x,y,u,v,a1,a2,a3,a4,a5,a6,a7⟩:=QJ j hj
   rw[Array.getElem?_toList,a5]
   simp[hj]
  ·rw[YC (by simp[hP.1];omega),YC (by simp;omega)]
 have Um:((List.range m).map pj).Nodup:=by
  have q:=hP.2.2
  rw[Iu]at q
  exact(List.pairwise_map.mp q).imp λhne e=>hne (congrArg _ e)
 obtain⟨H',I4,k1,k2,k3⟩:=qW ((List.range m).map λj=>(pj j,(zs[j]?).getD .bg,(ws[j]?).getD .bg)) I3 (by rw[aao];exact Um) (λq hq=>by
  obtain⟨j,hj,rfl⟩:=XW.mp hq
  obtain⟨x,y,u,v,a1,a2,a3,a4,a5,a6,a7⟩:=QJ j (ZF.mp hj)
  have hle:s1.heap.objs.size<=pj j:=Yj (X4 _ _) a7
  refine⟨fz hle (I1.hok.fresh hle),u,v,?_,?_,a6⟩
  ·show RelV ((zs[j]?).getD .bg) u;rw[a1];exact a3
  ·show RelV ((ws[j]?).getD .bg) v;rw[a2];exact a4)
 have QK:H' (s1.heap.objs.size+5)=none:=by
  rw[k2 _ (λhz=>?_)]
  ·exact I1.hok.fresh (X4 _ _)
  ·rw[aao]at hz
   obtain⟨j,hj,e⟩:=XW.mp hz
   obtain⟨x,y,u,v,a1,a2,a3,a4,a5,a6,a7⟩:=QJ j (ZF.mp hj)
   have e:pj j=s1.heap.objs.size+5:=e
   rw[e]at a7
   exact absurd a7 (by omega)
 have hlen:((List.range m).map pj).length<=sizeLine:=by
  rw[Xi,ZO]
  omega
 have I5:Inv X pins σ (upd H' (s1.heap.objs.size+5) (.lst (((List.range m).map pj).map V.ref))) {s1 with heap:=h'',toks:=s1.toks}:=
  I4.named (fz (X4 _ _) QK) ⟨by rw[Xi];exact hlen,((List.range m).map pj).map Value.ref,c,uD _,by rw[<-Iu];exact hS⟩
 have ev:(Value.ref ({s1 with heap:=h'}:Shared).heap.objs.size)= .ref (s1.heap.objs.size+5):=by show Value.ref h'.objs.size=_;rw[hsz]
 have QL:Ext H1 H':=Ext.keep k1
 refine⟨.ref (s1.heap.objs.size+5),_,I5,ev,.ref _,au M1 _ (.lst (List.zipWith pairD xs ys)),?_,aH.mpr rfl,(gX.keep k1).newL QK ?_,q _ ?_⟩
 ·refine f1.trans (Fr.trans (λb o n e=>⟨k1 b o e,n⟩) (Fr.new QK λ_ hb=>aT hb))
 ·refine o6 (by rw[ZD,Xi,Xi,ZO,<-hm,dz.length,dw.length]) λi d hd=>?_
  rw[YU]at hd
  cases hx:xs[i]? with
  |none=>rw[hx]at hd;cases hd
  |some dx=>
   cases hy:ys[i]? with
   |none=>rw[hx,hy]at hd;cases hd
   |some dy=>
    rw[hx,hy]at hd
    have hd:pairD dx dy=d:=Option.some.inj hd
    obtain⟨x,gx,qx⟩:=dz.get hx
    obtain⟨y,gy,qy⟩:=dw.get hy
    have hi:i<m:=by
     have i1:=(XH.mp gx).1
     have i2:=(XH.mp gy).1
     omega
    have q3:=k3 (pj i,(zs[i]?).getD .bg,(ws[i]?).getD .bg) (XW.mpr ⟨i,ZF.mpr hi,rfl⟩)
    rw[gx,gy]at q3
    refine⟨.ref (pj i),by simp[hi],?_⟩
    rw[<-hd]
    exact aM.mpr ⟨pj i,[x,y],rfl,q3,aB.mono QL _ _ (az.mpr ⟨x,[y],rfl,qx,aB.one qy⟩)⟩
 ·exact gX.free (I1.hok.fresh (X4 _ _))
end
end L3
namespace L3
open PySem
noncomputable def i7:List Pl->Pl->List Pl
 |b::a::r,p=>if tw a b p<0 then i7 (a::r) p else b::a::r
 |[a],_=>[a]
 |[],_=>[]
noncomputable def aI(st:List Pl)(p:Pl):List Pl:=p::i7 st p
structure Way where
 al:Int
 be:Int
noncomputable def Way.f(w:Way)(p:Pl):Int:=w.al*p.x+w.be*p.y
theorem gE(al be ux uy vx vy px py:Int):(al*vx+be*vy)*(ux*py-uy*px)=(al*ux+be*uy)*(vx*py-vy*px)+(al*px+be*py)*(ux*vy-uy*vx):=by grind
theorem vq{a b:Int}(ha:0<a)(h:0<=a*b):0<=b:=by
 apply Xk
 intro z
 have:a*b<0:=X8 ha (by omega)
 omega
theorem GJ{a b:Int}(ha:0<a)(h:0<a*b):0<b:=by
 apply Xk
 intro z
 have:a*b<=0:=Yh (by omega) (by omega)
 omega
section
variable{w:Way}
theorem GK{z a b p:Pl}(h1:w.f z<w.f a)(h2:w.f a<w.f b)(h3:w.f b<w.f p)(t1:0<=tw z a b)(t2:0<=tw a b p):0<=tw z a p:=by
 have key:=gE w.al w.be (a.x-z.x) (a.y-z.y) (b.x-a.x) (b.y-a.y) (p.x-a.x) (p.y-a.y)
 unfold Way.f at h1 h2 h3
 have e1:tw z a b=(a.x-z.x)*(b.y-a.y)-(a.y-z.y)*(b.x-a.x):=by unfold tw;grind
 have e2:tw a b p=(b.x-a.x)*(p.y-a.y)-(b.y-a.y)*(p.x-a.x):=by unfold tw;grind
 have e3:tw z a p=(a.x-z.x)*(p.y-a.y)-(a.y-z.y)*(p.x-a.x):=by unfold tw;grind
 rw[<-e1,<-e2,<-e3]at key
 have fU:0<w.al*(a.x-z.x)+w.be*(a.y-z.y):=by rw[X0,X0];omega
 have fV:0<w.al*(b.x-a.x)+w.be*(b.y-a.y):=by rw[X0,X0];omega
 have fP:0<w.al*(p.x-a.x)+w.be*(p.y-a.y):=by rw[X0,X0];omega
 refine vq fV ?_
 rw[key]
 have m1:=XY (ZY fU) t2
 have m2:=XY (ZY fP) t1
 omega
theorem DT{a c p q:Pl}(h1:w.f a<w.f c)(h2:w.f c<w.f p)(h3:w.f q<=w.f c)(t1:0<=tw a c q)(t2:0<=tw a c p):0<=tw c p q:=by
 have key:=gE w.al w.be (p.x-c.x) (p.y-c.y) (c.x-a.x) (c.y-a.y) (q.x-c.x) (q.y-c.y)
 unfold Way.f at h1 h2 h3
 have e1:tw a c q=(c.x-a.x)*(q.y-c.y)-(c.y-a.y)*(q.x-c.x):=by unfold tw;grind
 have e2:tw a c p= -((p.x-c.x)*(c.y-a.y)-(p.y-c.y)*(c.x-a.x)):=by unfold tw;grind
 have e3:tw c p q=(p.x-c.x)*(q.y-c.y)-(p.y-c.y)*(q.x-c.x):=by unfold tw;grind
 have QM:(p.x-c.x)*(c.y-a.y)-(p.y-c.y)*(c.x-a.x)= -tw a c p:=by omega
 rw[<-e1,QM,<-e3]at key
 have fU:0<w.al*(c.x-a.x)+w.be*(c.y-a.y):=by rw[X0,X0];omega
 have fP:0<w.al*(p.x-c.x)+w.be*(p.y-c.y):=by rw[X0,X0];omega
 have fQ:w.al*(q.x-c.x)+w.be*(q.y-c.y)<=0:=by rw[X0,X0];omega
 refine vq fU ?_
 rw[key]
 have m1:=XY (ZY fP) t1
 have m2:0<=(w.al*(q.x-c.x)+w.be*(q.y-c.y))* -tw a c p:=XZ fQ (by omega)
 omega
theorem DU{c d p q:Pl}(h1:w.f c<w.f d)(h2:w.f c<w.f p)(h3:w.f c<w.f q)(t1:0<=tw c d q)(t2:tw c d p<0):0<tw c p q:=by
 have key:=gE w.al w.be (p.x-c.x) (p.y-c.y) (d.x-c.x) (d.y-c.y) (q.x-c.x) (q.y-c.y)
 unfold Way.f at h1 h2 h3
 have e1:tw c d q=(d.x-c.x)*(q.y-c.y)-(d.y-c.y)*(q.x-c.x):=by unfold tw;grind
 have QM:(p.x-c.x)*(d.y-c.y)-(p.y-c.y)*(d.x-c.x)= -tw c d p:=by unfold tw;grind
 have e3:tw c p q=(p.x-c.x)*(q.y-c.y)-(p.y-c.y)*(q.x-c.x):=by unfold tw;grind
 rw[<-e1,QM,<-e3]at key
 have fU:0<w.al*(d.x-c.x)+w.be*(d.y-c.y):=by rw[X0,X0];omega
 have fP:0<w.al*(p.x-c.x)+w.be*(p.y-c.y):=by rw[X0,X0];omega
 have fQ:0<w.al*(q.x-c.x)+w.be*(q.y-c.y):=by rw[X0,X0];omega
 refine GJ fU ?_
 rw[key]
 have m1:=XY (ZY fP) t1
 have m2:0<(w.al*(q.x-c.x)+w.be*(q.y-c.y))* -tw c d p:=YJ fQ (by omega)
 omega
noncomputable def vt(w:Way)(S:List Pl)(a b:Pl):Prop:= ∀q∈S,0<=tw a b q/\(tw a b q=0->¬(w.f a<w.f q/\w.f q<w.f b))
noncomputable def lR(w:Way)(S:List Pl):List Pl->Prop
 |b::a::r=>w.f a<w.f b/\vt w S a b/\lR w S (a::r)
 |_=>True
noncomputable def Au(p:Pl):List Pl->Prop
 |b::a::r=>0<=tw a b p/\Au p (a::r)
 |_=>True
structure Ch(w:Way)(S st:List Pl):Prop where
 qX:∀q∈st,q∈S
 GL:lR w S st
 top:∀q∈S,∃t,st.head?=some t/\w.f q<=w.f t
 bot:∀q∈S,∃t,st.getLast?=some t/\w.f t<=w.f q
 inj:∀q∈S,∀r∈S,w.f q=w.f r->q=r
theorem xB{S:List Pl}{p:Pl}:∀(r:List Pl) (b a:Pl),lR w S (b::a::r)->(∀q∈b::a::r,q∈S)->w.f b<w.f p->0<=tw a b p->Au p (b::a::r)
 |[],b,a,_,_,_,t=>⟨t,trivial⟩
 |z::r,b,a,e,m,h,t=>by
  obtain⟨e1,e2,e3⟩:=e
  obtain⟨e4,e5,e6⟩:=id e3
  have t2:0<=tw z a p:=GK e4 e1 h (e5 b (m b (by simp))).1 t
  exact⟨t,xB r a z e3 (λq hq=>m q (Xl _ hq)) (by omega) t2⟩
structure Ko(w:Way)(S st:List Pl)(p c:Pl)(r:List Pl):Prop where
 eq:i7 st p=c::r
 GL:lR w S (c::r)
 qX:∀q∈c::r,q∈S
 LA:Au p (c::r)
 lst:(c::r).getLast?=st.getLast?
 Sf:(∀q∈S,w.f q<=w.f c)\/∃d,w.f c<w.f d/\(∀q∈S,0<=tw c d q)/\tw c d p<0
theorem DV{S:List Pl}{p:Pl}(hp:∀q∈S,w.f q<w.f p):∀(st:List Pl) (c:Pl) (r:List Pl),st=c::r->lR w S st->(∀q∈st,q∈S)->((∀q∈S,w.f q<=w.f c)\/∃d,w.f c<w.f d/\(∀q∈S,0<=tw c d q)/\tw c d p<0)->
 ∃c' r',Ko w S st p c' r'
 |_,c,[],rfl,e,m,f=>⟨c,[],rfl,trivial,m,trivial,rfl,f⟩
 |_,b,a::r,rfl,e,m,f=>by
  obtain⟨e1,e2,e3⟩:=id e
  by_cases k:tw a b p<0
  ·obtain⟨c',r',P⟩:=DV hp (a::r) a r rfl e3 (λq hq=>m q (Xl _ hq)) (.inr ⟨b,e1,λq hq=>(e2 q hq).1,k⟩)
   refine⟨c',r',?_,P.GL,P.qX,P.LA,?_,P.Sf⟩
   ·show(if tw a b p<0 then i7 (a::r) p else b::a::r)=_
    rw[if_pos k];exact P.eq
   ·rw[P.lst];rfl
  ·refine⟨b,a::r,?_,e,m,xB r b a e m (hp b (m b (by simp))) (by omega),rfl,f⟩
   show(if tw a b p<0 then i7 (a::r) p else b::a::r)=_
   rw[if_neg k]
theorem qY{S:List Pl}{p:Pl}:∀(st:List Pl),lR w S st->Au p st->(∀q∈st,w.f q<w.f p)->lR w (S++[p]) st
 |[],_,_,_=>trivial
 |[_],_,_,_=>trivial
 |b::a::r,e,l,h=>by
  obtain⟨e1,e2,e3⟩:=e
  refine⟨e1,λq hq=>?_,qY (a::r) e3 l.2 λq hq=>h q (Xl _ hq)⟩
  rcases XI.mp hq with hq|hq
  ·exact e2 q hq
  ·rw[Xq.mp hq]
   exact⟨l.1,λ_ z=>by have:=h b (by simp);omega⟩
theorem Ch.push{S st:List Pl}{p:Pl}(C:Ch w S st)(hne:S≠[])(hp:∀q∈S,w.f q<w.f p):Ch w (S++[p]) (aI st p):=by
 obtain⟨s0,hs0⟩:=List.exists_mem_of_ne_nil S hne
 obtain⟨b,hb,_⟩:=C.top s0 hs0
 obtain⟨r,rfl⟩:∃r,st=b::r:=by
  cases st with
  |nil=>cases hb
  |cons x r=>exact⟨r,by rw[Option.some.inj hb]⟩
 obtain⟨c,r',P⟩:=DV hp (b::r) b r rfl C.GL C.qX (.inl λq hq=>by
  obtain⟨t,e,h⟩:=C.top q hq
  rw[<-Option.some.inj e]at h
  exact h)
 have cS:c∈S:=P.qX c (by simp)
 have hcp:w.f c<w.f p:=hp c cS
 have QN:vt w (S++[p]) c p:=λq hq=>by
  rcases XI.mp hq with hq|hq
  ·by_cases k:w.f q<=w.f c
   ·refine⟨?_,λ_ z=>by omega⟩
    cases r' with
    |nil=>
     obtain⟨t,e,h⟩:=C.bot q hq
     rw[<-P.lst]at e
     have e:c=t:=by simpa using e
     subst e
     have:=C.inj q hq c cS (by omega)
     subst this
     rw[qH]
     exact Y4 _
    |cons a r''=>
     obtain⟨e1,e2,e3⟩:=P.GL
     exact DT e1 hcp k (e2 q hq).1 P.LA.1
   ·rcases P.Sf with f|⟨d,d1,d2,d3⟩
    ·exact absurd (f q hq) k
    ·have:=DU d1 hcp (by omega) (d2 q hq) d3
     exact⟨by omega,λz=>by omega⟩
  ·rw[Xq.mp hq,w9]
   exact⟨Y4 _,λ_ z=>by omega⟩
 refine⟨λq hq=>?_,?_,λq hq=>⟨p,rfl,?_⟩,λq hq=>?_,λq hq r hr e=>?_⟩
 ·unfold aI at hq
  rw[P.eq]at hq
  rcases Xj.mp hq with rfl|hq
  ·simp
  ·exact Xx _ (P.qX q hq)
 ·unfold aI
  rw[P.eq]
  exact⟨hcp,QN,qY _ P.GL P.LA λq hq=>hp q (P.qX q hq)⟩
 ·rcases XI.mp hq with hq|hq
  ·have:=hp q hq;omega
  ·rw[Xq.mp hq];exact Y4 _
 ·unfold aI
  rw[P.eq,List.getLast?_cons_cons,P.lst]
  rcases XI.mp hq with hq|hq
  ·exact C.bot q hq
  ·rw[Xq.mp hq]
   obtain⟨t,e,h⟩:=C.bot s0 hs0
   have:=hp s0 hs0
   exact⟨t,e,by omega⟩
 ·rcases XI.mp hq with hq|hq<;>rcases XI.mp hr with hr|hr
  ·exact C.inj q hq r hr e
  ·rw[Xq.mp hr]at e;have:=hp q hq;omega
  ·rw[Xq.mp hq]at e;have:=hp r hr;omega
  ·rw[Xq.mp hq,Xq.mp hr]
theorem Ch.one(p:Pl):Ch w [p] (aI [] p):=by
 refine⟨λq hq=>hq,trivial,λq hq=>⟨p,rfl,?_⟩,λq hq=>⟨p,rfl,?_⟩,λq hq r hr _=>?_⟩
 ·rw[Xq.mp hq];exact Y4 _
 ·rw[Xq.mp hq];exact Y4 _
 ·rw[Xq.mp hq,Xq.mp hr]
theorem Ch.all:∀(line S st:List Pl),S≠[]->Ch w S st->(S++line).Pairwise (λp q=>w.f p<w.f q)->Ch w (S++line) (line.foldl aI st)
 |[],S,st,_,C,_=>by rw[XS];exact C
 |p::line,S,st,hne,C,hs=>by
  have e:S++p::line=(S++[p])++line:=by simp
  rw[e]at hs ⊢
  have hp:∀q∈S,w.f q<w.f p:=λq hq=>by
   have:=(Zc.mp (Zc.mp hs).1).2.2 q hq p (by simp)
   exact this
  rw[Zy]
  exact Ch.all line (S++[p]) (aI st p) (by simp) (C.push hne hp) hs
theorem nk{line:List Pl}(hne:line≠[])(hs:line.Pairwise (λp q=>w.f p<w.f q)):Ch w line (line.foldl aI []):=by
 cases line with
 |nil=>exact absurd rfl hne
 |cons p line=>exact Ch.all line [p] (aI [] p) (by simp) (Ch.one p) hs
noncomputable def vv(st:List Pl)(a b:Pl):Prop:= ∃i:Nat,st[i+1]?=some a/\st[i]?=some b
theorem vz{S:List Pl}:∀{st:List Pl} {a b:Pl},lR w S st->vv st a b->w.f a<w.f b/\vt w S a b
 |[],a,b,_,⟨i,h,_⟩=>by simp at h
 |[_],a,b,_,⟨i,h,_⟩=>by simp at h
 |y::x::r,a,b,e,⟨i,h1,h2⟩=>by
  obtain⟨e1,e2,e3⟩:=e
  cases i with
  |zero=>
   have z1:x=a:=by simpa using h1
   have z2:y=b:=by simpa using h2
   subst z1 z2
   exact⟨e1,e2⟩
  |succ i=>exact vz e3 ⟨i,by simpa using h1,by simpa using h2⟩
theorem uE{S:List Pl}:∀{st:List Pl} {t a:Pl},lR w S st->st.head?=some t->w.f a<w.f t->(∃z,st.getLast?=some z/\w.f z<=w.f a)->∃c d,vv st c d/\w.f c<=w.f a/\w.f a<w.f d
 |[],t,a,_,h,_,_=>by cases h
 |[y],t,a,_,h,h1,⟨z,hz,h2⟩=>by
  have z1:y=t:=by simpa using h
  have z2:y=z:=by simpa using hz
  subst z1 z2
  omega
 |y::x::r,t,a,e,h,h1,hz=>by
  have z1:y=t:=by simpa using h
  subst z1
  obtain⟨e1,e2,e3⟩:=e
  by_cases k:w.f x<=w.f a
  ·exact⟨x,y,⟨0,rfl,rfl⟩,k,h1⟩
  ·obtain⟨c,d,⟨i,g1,g2⟩,g3,g4⟩:=uE (t:=x) (a:=a) e3 rfl (by omega) (by
    obtain⟨z,hz,h2⟩:=hz
    exact⟨z,by simpa using hz,h2⟩)
   exact⟨c,d,⟨i+1,by simpa using g1,by simpa using g2⟩,g3,g4⟩
theorem BB{a b c d:Pl}(h1:w.f c<w.f a)(h2:w.f a<w.f d)(h3:w.f a<w.f b)(t1:0<=tw a b c)(t2:0<=tw a b d):tw c d a<=0:=by
 have key:=gE w.al w.be (c.x-a.x) (c.y-a.y) (b.x-a.x) (b.y-a.y) (d.x-a.x) (d.y-a.y)
 unfold Way.f at h1 h2 h3
 have e1:(c.x-a.x)*(b.y-a.y)-(c.y-a.y)*(b.x-a.x)= -tw a b c:=by unfold tw;grind
 have e2:tw a b d=(b.x-a.x)*(d.y-a.y)-(b.y-a.y)*(d.x-a.x):=by unfold tw;grind
 have e3:tw c d a=(c.x-a.x)*(d.y-a.y)-(c.y-a.y)*(d.x-a.x):=by unfold tw;grind
 rw[e1,<-e2,<-e3]at key
 have fV:0<w.al*(b.x-a.x)+w.be*(b.y-a.y):=by rw[X0,X0];omega
 have fC:w.al*(c.x-a.x)+w.be*(c.y-a.y)<0:=by rw[X0,X0];omega
 have fD:0<w.al*(d.x-a.x)+w.be*(d.y-a.y):=by rw[X0,X0];omega
 have m1:(w.al*(c.x-a.x)+w.be*(c.y-a.y))*tw a b d<=0:=XM (by omega) t2
 have m2:(w.al*(d.x-a.x)+w.be*(d.y-a.y))* -tw a b c<=0:=Yh (by omega) (by omega)
 apply Xk
 intro z
 have:0<(w.al*(b.x-a.x)+w.be*(b.y-a.y))*tw c d a:=YJ fV (by omega)
 omega
theorem jo{S st:List Pl}(C:Ch w S st){a b:Pl}:vv st a b↔a∈S/\b∈S/\w.f a<w.f b/\vt w S a b:=by
 constructor
 ·intro h
  obtain⟨h1,h2⟩:=vz C.GL h
  obtain⟨i,g1,g2⟩:=h
  exact⟨C.qX a (XJ g1),C.qX b (XJ g2),h1,h2⟩
 ·rintro⟨ha,hb,hab,he⟩
  obtain⟨t,ht,Co⟩:=C.top b hb
  obtain⟨c,d,hcd,h1,h2⟩:=uE C.GL ht (show w.f a<w.f t by omega) (C.bot a ha)
  obtain⟨e1,e2⟩:=vz C.GL hcd
  have hc:c∈S:=by obtain⟨i,g1,g2⟩:=hcd;exact C.qX c (XJ g1)
  have hd:d∈S:=by obtain⟨i,g1,g2⟩:=hcd;exact C.qX d (XJ g2)
  have ea:c=a:=by
   apply Xk
   intro z
   have hlt:w.f c<w.f a:=by
    rcases ZK h1 with y|y
    ·exact y
    ·exact absurd (C.inj c hc a ha y) z
   have t1:=BB hlt h2 hab (he c hc).1 (he d hd).1
   have t2:=(e2 a ha).1
   exact(e2 a ha).2 (by omega) ⟨hlt,h2⟩
  subst ea
  have t1:=(he d hd).1
  have t2:=(e2 b hb).1
  have t3:tw c d b= -tw c b d:=by rw[j8]
  have t0:tw c b d=0:=by omega
  have ed:d=b:=by
   rcases YZ (w.f d) (w.f b)with y|y|y
   ·exact absurd ⟨h2,y⟩ ((he d hd).2 t0)
   ·exact C.inj d hd b hb y
   ·exact absurd ⟨hab,y⟩ ((e2 b hb).2 (by omega))
  subst ed
  exact hcd
noncomputable def aq:Way:=⟨2 ^ 142,1⟩
noncomputable def pK:Way:=⟨-2 ^ 142, -1⟩
theorem nt{p q:Pl}(hp:p.y.natAbs<2 ^ 140)(hq:q.y.natAbs<2 ^ 140):aU p q↔aq.f p<aq.f q:=by
 unfold aU Way.f aq
 dsimp only
 have e:(2:Int) ^ 142=5575186299632655785383929568162090376495104:=by decide
 have e2:(2:Nat) ^ 140=1393796574908163946345982392040522594123776:=by decide
 rw[e2]at hp hq
 rw[e]
 omega
theorem gq(p:Pl):pK.f p= -aq.f p:=by
 unfold Way.f pK aq
 dsimp only
 have e:(2:Int) ^ 142=5575186299632655785383929568162090376495104:=by decide
 rw[e]
 omega
end
end L3
namespace L3
open PySem PySem.Spec PyProof.Rows L2
theorem BC(b:Pl)(r:List Pl):sL ((b::r).reverse.map Pl.d) (-1)=some b.d:=by
 rw[Yr,XD]
 exact CQ _ _
theorem BD(b a:Pl)(r:List Pl):sL ((b::a::r).reverse.map Pl.d) (-2)=some a.d:=by
 have hl:((b::a::r).reverse.map Pl.d).length=r.length+2:=by simp
 have e:Ci (r.length+2) (-2)=some r.length:=by
  unfold Ci
  rw[if_neg (by decide),if_pos (by omega)]
  congr 1
  omega
 unfold sL
 rw[hl,e]
 show((b::a::r).reverse.map Pl.d)[r.length]?=some a.d
 rw[Yr,Yr,aas,XD,YT (by simp)]
 simp
theorem xC:∀(st:List Pl) (p:Pl),(i7 st p).length<=st.length
 |[],_=>Xn _
 |[_],_=>Xn _
 |b::a::r,p=>by
  show(if tw a b p<0 then i7 (a::r) p else b::a::r).length<=_
  have:=xC (a::r) p
  split
  ·simp only[Xz]at this ⊢;omega
  ·exact Xn _
theorem xD:∀(st:List Pl) (p:Pl),∀q∈i7 st p,q∈st
 |[],_,_,h=>h
 |[_],_,_,h=>h
 |b::a::r,p,q,h=>by
  have h:q∈(if tw a b p<0 then i7 (a::r) p else b::a::r):=h
  by_cases k:tw a b p<0
  ·rw[if_pos k]at h
   exact Xl _ (xD (a::r) p q h)
  ·rw[if_neg k]at h
   exact h
theorem DW{a b p:Pl}{r:List Pl}(h:tw a b p<0):i7 (b::a::r) p=i7 (a::r) p:=by
 show(if tw a b p<0 then i7 (a::r) p else b::a::r)=_
 rw[if_pos h]
theorem DY{a b p:Pl}{r:List Pl}(h:¬tw a b p<0):i7 (b::a::r) p=b::a::r:=by
 show(if tw a b p<0 then i7 (a::r) p else b::a::r)=_
 rw[if_neg h]
theorem eO(ps:List Pl):(ps.foldl aI []).length<=ps.length:=by
 have key:∀(ps st:List Pl),(ps.foldl aI st).length<=st.length+ps.length:=by
  intro ps
  induction ps with
  |nil=>intro st;simp
  |cons p ps ih=>
   intro st
   have h1:=ih (aI st p)
   have h2:(aI st p).length<=st.length+1:=by
    show(i7 st p).length+1<=_
    have:=xC st p
    omega
   simp only[Zy,Xz]
   omega
 simpa using key ps []
theorem om(ps:List Pl):∀q∈ps.foldl aI [],q∈ps:=by
 have key:∀(ps st:List Pl),∀q∈ps.foldl aI st,q∈st\/q∈ps:=by
  intro ps
  induction ps with
  |nil=>intro st q h;exact .inl h
  |cons p ps ih=>
   intro st q h
   rcases ih (aI st p) q h with h|h
   ·rcases Xj.mp h with h|h
    ·exact .inr (by rw[h];exact Xu ..)
    ·exact .inl (xD st p q h)
   ·exact .inr (Xl _ h)
 intro q h
 rcases key ps [] q h with h|h
 ·cases h
 ·exact h
theorem yZ{ps:List Pl}{i:Nat}{p:Pl}(h:ps[i]?=some p):(ps.take (i+1)).foldl aI []=aI ((ps.take i).foldl aI []) p:=by
 rw[YS,h,aat]
 rfl
theorem Le.put{M M':Mp}{p:Addr}{o:MO}(h:Le M M'):Le (au M p o) (au M' p o):=λc u e=>by
 by_cases hc:c=p
 ·subst hc
  rw[ah]at e ⊢;exact e
 ·rw[aT hc]at e ⊢
  exact h c u e
theorem Le.free{M M':Mp}{p:Addr}(h:Le M M')(e:M' p=none):M p=none:=by
 cases k:M p with
 |none=>rfl
 |some o=>rw[h p o k]at e;cases e
theorem xE(ps:List Pl):cutD (ps.map Pl.d) none (some (-1))=ps.dropLast.map Pl.d:=by
 unfold cutD
 have e:HT.mR (ps.map Pl.d).length (ps.map Pl.d).length (some (-1))=ps.length-1:=by
  unfold HT.mR
  dsimp only
  rw[if_pos (by decide),Xi]
  omega
 have e0:HT.mR (ps.map Pl.d).length 0 none=0:=rfl
 rw[e,e0,aab,aam,List.dropLast_eq_take,ZP]
noncomputable def Flat(ps:List Pl):Prop:= ∀p∈ps,∀q∈ps,∀r∈ps,tw p q r=0
noncomputable def hz(qs:List Pl):Pl:=qs.headD ⟨0,0⟩
noncomputable def lz(qs:List Pl):Pl:=qs.getLastD ⟨0,0⟩
theorem Kp{dx dy ux uy vx vy:Int}(h:dx≠0\/dy≠0)(h1:dx*uy-dy*ux=0)(h2:dx*vy-dy*vx=0):ux*vy-uy*vx=0:=by
 rcases h with h|h
 ·have:dx*(ux*vy-uy*vx)=0:=by grind
  exact(Yu.mp this).resolve_left h
 ·have:dy*(ux*vy-uy*vx)=0:=by grind
  exact(Yu.mp this).resolve_left h
theorem DZ{a z p q r:Pl}(h:a≠z)(h1:tw a z p=0)(h2:tw a z q=0)(h3:tw a z r=0):tw p q r=0:=by
 have hd:z.x-a.x≠0\/z.y-a.y≠0:=by
  by_cases k:z.x-a.x=0
  ·right
   intro k2
   apply h
   cases a;cases z
   simp only at k k2
   rw[Pl.mk.injEq]
   omega
  ·exact .inl k
 unfold tw at h1 h2 h3 ⊢
 exact Kp hd (ux:=q.x-p.x) (uy:=q.y-p.y) (vx:=r.x-p.x) (vy:=r.y-p.y) (by grind) (by grind)
noncomputable def bN(qs:List Pl):List Pl:=if qs.length<2 then qs else(qs.foldl aI []).reverse.dropLast++(qs.reverse.foldl aI []).reverse.dropLast
noncomputable def cA(b:List Pl):List (List Pl):=if b.length<2 then[]else List.zipWith (λp q=>[p,q]) b (b.drop 1++b.take 1)
theorem qZ{α:Type}(g:α->D)(xs:List α)(n:Nat)(h:n<=xs.length):cutD (xs.map g) none (some (n:Int))=(xs.take n).map g:=by
 unfold cutD
 rw[HT.pY,HT.wU]
 rw[Xi,aaz h,ZP,aab,aam]
theorem uF:∀(as bs:List Pl),(List.zipWith (λp q=>[p,q]) as bs).map (λps:List Pl=>D.tup (ps.map Pl.d))=List.zipWith pairD (as.map Pl.d) (bs.map Pl.d)
 |[],_=>by simp
 |_::_,[]=>by simp
 |a::as,b::bs=>by
  show D.tup [a.d,b.d]::(List.zipWith (λp q=>[p,q]) as bs).map (λps:List Pl=>D.tup (ps.map Pl.d))=pairD a.d b.d::List.zipWith pairD (as.map Pl.d) (bs.map Pl.d)
  rw[uF as bs]
  rfl
end L3
namespace L3
open PySem PySem.Spec PyProof.Rows L2
section
variable{P:Program}{w:World}{A:Around}{E:Value->Shared->Prop}{s:Shared}
end
section
variable{X:Cx}{pos:Pos}
end
end L3
namespace L3
open PySem PySem.Spec PyProof.Rows L2
section
open PySem.SeqAt
open PySem.AutoSeq1 (wpAny_loadPart')
open PySem.MeetsSeq PySem.MeetsSeq2 PySem.MeetsSeq3
end
section
variable{X:Cx}{pos:Pos}
noncomputable def QO(to te:cG):cG:=λρ M Q=>to ρ M λd M1=>(∃l xs,d= .ref l/\M1 l=some (.lst xs))/\te ρ M1 λe M2=>∃(l b:Addr) (xs zs:List D),d= .ref l/\e= .ref b/\M2 l=some (.lst xs)/\M2 b=some (.lst zs)/\xs.length+zs.length<=sizeLine/\Q .bg (au M2 l (.lst (xs++zs)))
theorem ND{o e:Expr}{to te:cG}{apos pos:Pos}(ho:bZ X o to)(he:bZ X e te)(MY:PE X (.Call (.Attribute o "extend" apos) [e] [] pos) (PL X.K "list" Ab (dn X.K to) (CM (dn X.K te) Ju))):bZ X (.Call (.Attribute o "extend" apos) [e] [] pos) (QO to te):=
 up MY λσ H ρ M Q r q=>cJ r q λv H' d M' f dv r' ⟨⟨l,xs,e1,hM⟩,q⟩=>by
  subst e1
  obtain rfl:=aH.mp dv
  obtain⟨ys,ha,hy⟩:=r'.mem.lst hM
  refine⟨.inl ⟨rfl,_,jj.of ha⟩,cJ r' q λu H2 d2 M2 f2 du r2 ⟨l',b,xs',zs,e2,e3,Ij,hB,hlt,q2⟩=>?_⟩
  injection e2 with e2
  subst e2 e3
  obtain rfl:=aH.mp du
  obtain⟨ws,hb,hw⟩:=r2.mem.lst Ij
  obtain⟨vs,hc,hv⟩:=r2.mem.lst hB
  exact⟨l,b,ws,vs,rfl,rfl,hb,hc,by rw[<-hw.length,<-hv.length];exact hlt,.bg,_,(f.trans f2).trans (Fr.write (K:=X.K) Ij),bQ.mpr rfl,r2.mem.j4 hb (hw.append hv),q2⟩
end
end L3
namespace L3
open PySem PySem.Spec PyProof.Rows L2
section
variable{P:Program}{w:World}{A:Around}{E:Value->Shared->Prop}{s:Shared}
end
section
variable{X:Cx}{pos:Pos}
end
section
open PySem.SeqAt
open PySem.AutoSeq1 (wpAny_loadPart')
open PySem.MeetsSeq PySem.MeetsSeq2 PySem.MeetsSeq3
end
end L3
namespace L3
open PySem PySem.Spec PyProof.Rows L2
section
variable{P:Program}{w:World}{A:Around}{E:Value->Shared->Prop}{s:Shared}
end
end L3
namespace L3
open PySem PySem.Spec PyProof.Rows L2
section
variable{X:Cx}{pos:Pos}
structure Sg(X:Cx)(r:D->Mp->DK->Prop):Prop where
 run:∀(pins:List (Addr ×Obj)) (s:Shared) (σ:St) (H:Hp) (M:Mp) (x:V) (d:D) (u:Value) (Q:DK),Inv X pins σ H s->bB X.K H M->RelV x u->Dat X.K H d x->r d M Q->wpAny (model X.prog X.w) X.A (call (.builtin "min") [u] [(Str.ofString "default",.none)]) (EP X pins σ (Post X.K M H Q)) X.xe s
end
end L3
namespace L3
open PySem PySem.Spec PyProof.Rows L2
section
variable{P:Program}{w:World}{A:Around}{E:Value->Shared->Prop}{s:Shared}
variable{κ:KeyKind}{kd:SortKind}
end
section
variable{X:Cx}
end
end L3
namespace L3
noncomputable def Nx:List Pl->Pl->Pl->Prop
 |x::y::r,a,b=>(x=a/\y=b)\/Nx (y::r) a b
 |_,_,_=>False
theorem y9(h:Pl)(r:List Pl)(a b:Pl):∀X:List Pl,Nx (X++h::r) a b↔Nx (X++[h]) a b\/Nx (h::r) a b
 |[]=>by
  show Nx (h::r) a b↔Nx [h] a b\/Nx (h::r) a b
  have:¬Nx [h] a b:=λz=>z
  exact⟨.inr,λz=>z.elim (λy=>absurd y this) id⟩
 |[x]=>by
  show(x=a/\h=b)\/Nx (h::r) a b↔((x=a/\h=b)\/Nx [h] a b)\/Nx (h::r) a b
  have:¬Nx [h] a b:=λz=>z
  constructor
  ·rintro(z|z)
   ·exact .inl (.inl z)
   ·exact .inr z
  ·rintro((z|z)|z)
   ·exact .inl z
   ·exact absurd z this
   ·exact .inr z
 |x::y::X=>by
  have ih:=y9 h r a b (y::X)
  show(x=a/\y=b)\/Nx (y::X++h::r) a b↔((x=a/\y=b)\/Nx (y::X++[h]) a b)\/Nx (h::r) a b
  rw[ih,or_assoc]
theorem nu:∀(st:List Pl) (a b:Pl),vv st a b↔Nx st.reverse a b
 |[],a,b=>⟨λ⟨i,h,_⟩=>by simp at h,λz=>z.elim⟩
 |[y],a,b=>⟨λ⟨i,h,_⟩=>by simp at h,λz=>z.elim⟩
 |y::x::r,a,b=>by
  have ih:=nu (x::r) a b
  have e:(y::x::r).reverse=r.reverse++x::[y]:=by simp
  have e2:(x::r).reverse=r.reverse++[x]:=by simp
  rw[e,y9,<-e2,<-ih]
  have:Nx [x,y] a b↔(x=a/\y=b):=⟨λz=>z.elim id (λy=>y.elim),.inl⟩
  rw[this]
  constructor
  ·rintro⟨i,h1,h2⟩
   cases i with
   |zero=>exact .inr ⟨by simpa using h1,by simpa using h2⟩
   |succ i=>exact .inl ⟨i,by simpa using h1,by simpa using h2⟩
  ·rintro(⟨i,h1,h2⟩|⟨h1,h2⟩)
   ·exact⟨i+1,by simpa using h1,by simpa using h2⟩
   ·exact⟨0,by simp[h1],by simp[h2]⟩
theorem xF(a b:Pl):∀(x:Pl) (r:List Pl) (z:Pl),[a,b]∈List.zipWith (λp q=>[p,q]) (x::r) (r++[z])↔Nx (x::r++[z]) a b
 |x,[],z=>by
  show[a,b]∈[[x,z]]↔(x=a/\z=b)\/Nx [z] a b
  have:¬Nx [z] a b:=λz=>z
  simp[this]
  exact⟨λ⟨h1,h2⟩=>⟨h1.symm,h2.symm⟩,λ⟨h1,h2⟩=>⟨h1.symm,h2.symm⟩⟩
 |x,y::r,z=>by
  have ih:=xF a b y r z
  show[a,b]∈[x,y]::List.zipWith (λp q=>[p,q]) (y::r) (r++[z])↔(x=a/\y=b)\/Nx (y::r++[z]) a b
  rw[Xj,ih]
  simp
  constructor
  ·rintro(⟨h1,h2⟩|h)
   ·exact .inl ⟨h1.symm,h2.symm⟩
   ·exact .inr h
  ·rintro(⟨h1,h2⟩|h)
   ·exact .inl ⟨h1.symm,h2.symm⟩
   ·exact .inr h
theorem uG:∀(as bs:List Pl),∀t∈List.zipWith (λp q=>[p,q]) as bs,∃a b,t=[a,b]
 |[],_,t,h=>by simp at h
 |_::_,[],t,h=>by simp at h
 |a::as,b::bs,t,h=>by
  rcases Xj.mp h with h|h
  ·exact⟨a,b,h⟩
  ·exact uG as bs t h
theorem Ch.ends{w:Way}{S st:List Pl}(C:Ch w S st){lo hi:Pl}(hl:lo∈S)(hh:hi∈S)(h1:∀q∈S,w.f lo<=w.f q)(h2:∀q∈S,w.f q<=w.f hi):st.head?=some hi/\st.getLast?=some lo:=by
 obtain⟨t,e1,e2⟩:=C.top hi hh
 obtain⟨u,e3,e4⟩:=C.bot lo hl
 have mt:t∈S:=C.qX t (Zu e1)
 have mu:u∈S:=C.qX u (YL e3)
 have a1:=h2 t mt
 have a2:=h1 u mu
 rw[e1,e3,C.inj t mt hi hh (by omega),C.inj u mu lo hl (by omega)]
 exact⟨rfl,rfl⟩
theorem gj{l:List Pl}{x:Pl}(h:l.getLast?=some x):l=l.dropLast++[x]:=by
 have hne:l≠[]:=λz=>by rw[z]at h;simp at h
 rw[YD hne]at h
 have:=List.dropLast_concat_getLast hne
 rw[Option.some.inj h]at this
 exact this.symm
theorem D0{T H:List Pl}{lo hi a b:Pl}(t1:T.head?=some lo)(t2:T.getLast?=some hi)(h1:H.head?=some hi)(h2:H.getLast?=some lo)(hne:lo≠hi) :
 [a,b]∈List.zipWith (λp q=>[p,q]) (T.dropLast++H.dropLast) ((T.dropLast++H.dropLast).drop 1++(T.dropLast++H.dropLast).take 1)↔Nx T a b\/Nx H a b:=by
 have eT:=gj t2
 have eH:=gj h2
 obtain⟨X,hX⟩:∃X,T.dropLast=lo::X:=by
  cases e:T.dropLast with
  |nil=>
   rw[e]at eT
   rw[eT]at t1
   exact absurd (Option.some.inj t1).symm hne
  |cons x X=>
   rw[e]at eT
   rw[eT]at t1
   exact⟨X,by rw[Option.some.inj t1]⟩
 obtain⟨Y,hY⟩:∃Y,H=hi::Y:=by
  cases e:H with
  |nil=>rw[e]at h1;cases h1
  |cons x X=>rw[e]at h1;exact⟨X,by rw[Option.some.inj h1]⟩
 rw[hX]
 show[a,b]∈List.zipWith (λp q=>[p,q]) (lo::(X++H.dropLast)) ((X++H.dropLast)++[lo])↔_
 rw[xF]
 have e1:lo::(X++H.dropLast)++[lo]=(lo::X)++(H.dropLast++[lo]):=by simp
 rw[e1,<-eH]
 conv=>lhs;rw[hY,y9,<-hY]
 rw[<-hX,<-eT]
noncomputable def QS(a b:Pl)(ps:List Pl):Prop:= ∀p∈ps,0<=tw a b p/\(tw a b p=0->¬(aU (lo a b) p/\aU p (hi a b)))
theorem ia:∀{qs:List Pl},qs.Pairwise (λp q=>aU p q)->∀{x y:Pl},qs.head?=some x->qs.getLast?=some y->∀q∈qs,(q=x\/aU x q)/\(q=y\/aU q y)
 |[],_,_,_,h,_,_,_=>by cases h
 |[z],_,x,y,h1,h2,q,hq=>by
  have e1:z=x:=by simpa using h1
  have e2:z=y:=by simpa using h2
  rw[Xq.mp hq]
  exact⟨.inl e1,.inl e2⟩
 |z::u::r,hs,x,y,h1,h2,q,hq=>by
  have e1:z=x:=by simpa using h1
  have h2':(u::r).getLast?=some y:=by simpa using h2
  have ih:=ia (X7.mp hs).2 (x:=u) rfl h2'
  have hz:=(X7.mp hs).1
  rcases Xj.mp hq with e|hq
  ·subst e
   refine⟨.inl e1,.inr ?_⟩
   have hy:y∈u::r:=YL h2'
   exact hz y hy
  ·exact⟨.inr (e1▸hz q hq),(ih q hq).2⟩
theorem q8{st:List Pl}{x y:Pl}(h1:st.head?=some x)(h2:st.getLast?=some y)(h:x≠y):2<=st.length:=by
 match st,h1,h2 with
 |[],h1,_=>cases h1
 |[z],h1,h2=>
  have e1:z=x:=by simpa using h1
  have e2:z=y:=by simpa using h2
  exact absurd (e1.symm.trans e2) h
 |_::_::_,_,_=>simp
theorem BE{qs:List Pl}(hs:qs.Pairwise (λp q=>aU p q))(hok:∀q∈qs,q.y.natAbs<2 ^ 140)(h2:2<=qs.length) :
 2<=((qs.foldl aI []).reverse.dropLast++(qs.reverse.foldl aI []).reverse.dropLast).length/\∀a b:Pl,[a,b]∈List.zipWith (λp q=>[p,q]) ((qs.foldl aI []).reverse.dropLast++(qs.reverse.foldl aI []).reverse.dropLast) (((qs.foldl aI []).reverse.dropLast++(qs.reverse.foldl aI []).reverse.dropLast).drop 1++((qs.foldl aI []).reverse.dropLast++(qs.reverse.foldl aI []).reverse.dropLast).take 1)↔a∈qs/\b∈qs/\a≠b/\QS a b qs:=by
 have hne:qs≠[]:=λz=>by rw[z]at h2;simp at h2
 obtain⟨x,hx⟩:∃x,qs.head?=some x:=by
  cases e:qs with
  |nil=>exact absurd e hne
  |cons x r=>exact⟨x,rfl⟩
 obtain⟨y,hy⟩:∃y,qs.getLast?=some y:=⟨_,YD hne⟩
 have mx:x∈qs:=Zu hx
 have my:y∈qs:=YL hy
 have hend:=ia hs hx hy
 have be:∀p∈qs,∀q∈qs,(aU p q↔aq.f p<aq.f q):=λp hp q hq=>nt (hok p hp) (hok q hq)
 have bw:∀p∈qs,∀q∈qs,(aU p q↔pK.f q<pK.f p):=λp hp q hq=>by
  rw[be p hp q hq,gq,gq]
  omega
 have xy:x≠y:=by
  intro e
  cases e1:qs with
  |nil=>exact absurd e1 hne
  |cons u r=>
   cases r with
   |nil=>rw[e1]at h2;simp at h2
   |cons v r=>
    rw[e1]at hx hy hs
    have eu:u=x:=by simpa using hx
    have QT:y∈v::r:=YL (by simpa using hy)
    have:=(X7.mp hs).1 y QT
    rw[eu,e]at this
    exact cz _ this
 have C1:Ch aq qs (qs.foldl aI []):=nk hne (hs.imp_of_mem λhp hq h=>(be _ hp _ hq).mp h)
 have C2:Ch pK qs.reverse (qs.reverse.foldl aI []):=nk (by simpa using hne) (Z9.mpr (hs.imp_of_mem λhp hq h=>(bw _ hp _ hq).mp h))
 have key:∀p∈qs,∀q∈qs,(p=q\/aU p q)->aq.f p<=aq.f q/\pK.f q<=pK.f p:=λp hp q hq k=>by
  rcases k with rfl|k
  ·exact⟨Y4 _,Y4 _⟩
  ·have a1:=(be p hp q hq).mp k
   have a2:=(bw p hp q hq).mp k
   omega
 obtain⟨p1,p2⟩:=C1.ends mx my (λq hq=>(key x mx q hq ((hend q hq).1.imp Eq.symm id)).1) (λq hq=>(key q hq y my (hend q hq).2).1)
 obtain⟨r1,r2⟩:=C2.ends (lo:=y) (hi:=x) (by simpa using my) (by simpa using mx) (λq hq=>by have hq:=Yb.mp hq;exact(key q hq y my (hend q hq).2).2) (λq hq=>by have hq:=Yb.mp hq;exact(key x mx q hq ((hend q hq).1.imp Eq.symm id)).2)
 refine⟨?_,λa b=>?_⟩
 ·have l1:=q8 p1 p2 (Ne.symm xy)
  have l2:=q8 r1 r2 xy
  rw[XA,Yp,Yp,XU,XU]
  omega
 rw[D0 (lo:=x) (hi:=y) (by rw[Zj];exact p2) (by rw[YV];exact p1) (by rw[Zj];exact r2) (by rw[YV];exact r1) xy,<-nu,<-nu,jo C1,jo C2]
 constructor
 ·rintro(⟨ha,hb,hab,he⟩|⟨ha,hb,hab,he⟩)
  ·have za:=(be a ha b hb).mpr hab
   refine⟨ha,hb,n9 za,λp hp=>⟨(he p hp).1,λz=>?_⟩⟩
   unfold lo hi
   rw[if_neg (bx za),if_pos za,be a ha p hp,be p hp b hb]
   exact(he p hp).2 z
  ·have ha:=Yb.mp ha
   have hb:=Yb.mp hb
   have za:=(bw b hb a ha).mpr hab
   refine⟨ha,hb,(n9 za).symm,λp hp=>?_⟩
   have OS:=he p (Yb.mpr hp)
   refine⟨OS.1,λz=>?_⟩
   unfold lo hi
   rw[if_pos za,if_neg (bx za),bw b hb p hp,bw p hp a ha]
   exact λk=>OS.2 z ⟨k.2,k.1⟩
 ·rintro⟨ha,hb,hab,he⟩
  rcases dM a b with k|k|k
  ·refine .inl ⟨ha,hb,(be a ha b hb).mp k,λp hp=>⟨(he p hp).1,λz=>?_⟩⟩
   have:=(he p hp).2 z
   unfold lo hi at this
   rw[if_neg (bx k),if_pos k,be a ha p hp,be p hp b hb]at this
   exact this
  ·exact absurd k hab
  ·refine .inr ⟨Yb.mpr ha,Yb.mpr hb,(bw b hb a ha).mp k,λp hp=>?_⟩
   have hp:=Yb.mp hp
   refine⟨(he p hp).1,λz=>?_⟩
   have:=(he p hp).2 z
   unfold lo hi at this
   rw[if_pos k,if_neg (bx k),bw b hb p hp,bw p hp a ha]at this
   exact λy=>this ⟨y.2,y.1⟩
end L3
namespace L3
theorem vA:∀(l:List Pl),l≠[]->∃m∈l,∀z∈l,¬aU z m
 |[],e=>absurd rfl e
 |[p],_=>⟨p,by simp,λz hz=>by rw[Xq.mp hz];exact cz _⟩
 |p::q::l,_=>by
  obtain⟨m,hm,k⟩:=vA (q::l) (by simp)
  by_cases c:aU p m
  ·exact⟨p,by simp,λz hz=>by
    rcases Xj.mp hz with rfl|hz
    ·exact cz _
    ·exact λy=>k z hz (cP y c)⟩
  ·exact⟨m,Xl _ hm,λz hz=>by
    rcases Xj.mp hz with rfl|hz
    ·exact c
    ·exact k z hz⟩
theorem Av:∀(l:List Pl),l≠[]->∃m∈l,∀z∈l,¬aU m z
 |[],e=>absurd rfl e
 |[p],_=>⟨p,by simp,λz hz=>by rw[Xq.mp hz];exact cz _⟩
 |p::q::l,_=>by
  obtain⟨m,hm,k⟩:=Av (q::l) (by simp)
  by_cases c:aU m p
  ·exact⟨p,by simp,λz hz=>by
    rcases Xj.mp hz with rfl|hz
    ·exact cz _
    ·exact λy=>k z hz (cP c y)⟩
  ·exact⟨m,Xl _ hm,λz hz=>by
    rcases Xj.mp hz with rfl|hz
    ·exact c
    ·exact k z hz⟩
theorem mh{ps:List Pl}(h:ps.length<2):Flat ps:=by
 match ps,h with
 |[],_=>exact λp hp=>by cases hp
 |[x],_=>
  intro p hp q hq r hr
  rw[Xq.mp hp,Xq.mp hq,Xq.mp hr]
  exact qG x x
theorem BF{qs:List Pl}(hs:qs.Pairwise (λa b=> ¬aU b a))(nd:qs.Nodup):qs.Pairwise (λp q=>aU p q):=by
 refine(hs.and nd).imp λ{a b} h=>?_
 rcases dM a b with k|k|k
 ·exact k
 ·exact absurd k h.2
 ·exact absurd k h.1
end L3
namespace L3
open PySem L2
noncomputable def Tr(t:List Pl):Prop:= ∃a b c:Pl,t=[a,b,c]/\a.Ok 140/\b.Ok 140/\c.Ok 140
noncomputable def NF:List Pl->Prop
 |[a,b,c]=>(¬aU b a/\¬aU c a)/\0<tw a b c
 |_=>False
noncomputable def fS:List Pl->List (List Pl)
 |[a,b,c]=>[[a,b],[b,c],[c,a]]
 |_=>[]
noncomputable def cH(ts:List (List Pl)):List (List Pl):=ts.flatMap fS
noncomputable def Fs{α:Type}(ts:List α)(P:α->Prop):Option α->Prop
 |none=> ∀t∈ts,¬P t
 |some t=>∃i:Nat,ts[i]?=some t/\P t/\∀(j:Nat) (u:α),j<i->ts[j]?=some u->¬P u
noncomputable def oT:Option (List Pl)->D
 |none=> .bg
 |some t=>tD t
noncomputable def NG(W:List Pl->Prop):Option (List Pl)->Prop
 |none=> ∀w,¬W w
 |some m=>W m/\∀z,W z->dO z m=false
noncomputable def NH(W:Pl->Prop):Option Pl->Prop
 |none=> ∀w,¬W w
 |some m=>W m/\∀z,W z->¬aU z m
theorem D3(s t:List Pl):dH (tD s) (tD t)=decide (s=t):=by
 unfold tD
 rw[jm]
 induction s generalizing t with
 |nil=>
  cases t with
  |nil=>rfl
  |cons q t=>simp[gC]
 |cons p s ih=>
  cases t with
  |nil=>simp[gC]
  |cons q t=>
   rw[XQ,XQ,iZ,qD,ih,Yk]
   simp
theorem qb(t:List Pl)(ts:List (List Pl)):inD (tD t) (ts.map tD)=decide (t∈ts):=by
 rw[Yk,decide_eq_true_iff]
 unfold inD
 rw[aax]
 constructor
 ·rintro⟨d,hd,e⟩
  obtain⟨u,hu,rfl⟩:=XW.mp hd
  rw[D3,decide_eq_true_iff]at e
  rw[<-e]
  exact hu
 ·intro h
  exact⟨tD t,XW.mpr ⟨t,h,rfl⟩,by rw[D3];simp⟩
noncomputable def Uo(ws:List (List Pl))(w:List Pl):Prop:=w∈ws/\1<ws.count w
noncomputable def QU(ws bs:List (List Pl))(w:List Pl):Prop:=(w∈ws/\w.reverse∉ws/\w∉bs)\/(w∈bs/\w∉ws)
noncomputable def Up(ps:List Pl)(ts:List (List Pl))(p:Pl):Prop:=p∈ps/\∀t∈ts,p∉t
noncomputable def Kq(t:List Pl)(d:Pl):Prop:=match t with
 |[a,b,c]=>Qi a b c d
 |_=>False
noncomputable def Uq(ts:List (List Pl))(ps:List Pl):Option (List Pl ×Pl)->Prop
 |none=> ∀t∈ts,∀d∈ps,¬Kq t d
 |some (t,d)=>Fs ts (λt=>∃d∈ps,Kq t d) (some t)/\NH (λd=>d∈ps/\Kq t d) (some d)
inductive Flt where
 |Iv (t:List Pl)|flat (t:List Pl)|D4 (w:List Pl)|bare (w:List Pl)|D5 (p:Pl)|D6 (t:List Pl) (d:Pl)
noncomputable def fD:Option Flt->D
 |none=> .bg
 |some (.Iv t)=> .tup [.str (Str.ofString "alien"),tD t]
 |some (.flat t)=> .tup [.str (Str.ofString "flat"),tD t]
 |some (.D4 w)=> .tup [.str (Str.ofString "double"),tD w]
 |some (.bare w)=> .tup [.str (Str.ofString "bare"),tD w]
 |some (.D5 p)=> .tup [.str (Str.ofString "lonely"),p.d]
 |some (.D6 t d)=> .tup [.str (Str.ofString "spoilt"),tD t,d.d]
noncomputable def QV(ps:List Pl)(ts bs:List (List Pl))(r:Option Flt):Prop:=
 ∃(d b:Option (List Pl)) (l:Option Pl),NG (Uo (cH ts)) d/\(d=none->NG (QU (cH ts) bs) b)/\(d=none->b=none->NH (Up ps ts) l)/\
  r=match d,b,l with
   |some w,_,_=>some (.D4 w)
   |none,some w,_=>some (.bare w)
   |none,none,some p=>some (.D5 p)
   |none,none,none=>none
noncomputable def D7(ps:List Pl)(ts bs:List (List Pl))(r:Option Flt):Prop:=
 ∃(al fl:Option (List Pl)),Fs ts (λt=>∃q∈t,q∉ps) al/\(al=none->Fs ts (λt=> ¬NF t) fl)/\
  match al,fl with
  |some t,_=>r=some (.Iv t)
  |none,some t=>r=some (.flat t)
  |none,none=>(Flat ps->r=none)/\(¬Flat ps->∃(cf:Option Flt) (sp:Option (List Pl ×Pl)),QV ps ts bs cf/\(cf=none->Uq ts ps sp)/\r=match cf,sp with
   |some f,_=>some f
   |none,some (t,d)=>some (.D6 t d)
   |none,none=>none)
noncomputable def qc(ps t:List Pl):Prop:=eG t/\∀q∈t,q∈ps
theorem qc.tr{ps t:List Pl}(h:qc ps t)(ho:∀q∈ps,q.Ok 140):Tr t:=by
 obtain⟨⟨u,v,w,rfl,_⟩,h2⟩:=h
 exact⟨u,v,w,rfl,ho u (h2 u (by simp)),ho v (h2 v (by simp)),ho w (h2 w (by simp))⟩
end L3
namespace L3
noncomputable def prs:List Pl->List (List Pl)
 |x::y::r=>[x,y]::prs (y::r)
 |_=>[]
theorem Aw(h:Pl)(r:List Pl):∀X:List Pl,prs (X++h::r)=prs (X++[h])++prs (h::r)
 |[]=>rfl
 |[x]=>rfl
 |x::y::X=>by
  have ih:=Aw h r (y::X)
  show[x,y]::prs (y::X++h::r)=[x,y]::prs (y::X++[h])++prs (h::r)
  rw[ih]
  rfl
theorem Ax:∀(x:Pl) (r:List Pl) (z:Pl),List.zipWith (λp q=>[p,q]) (x::r) (r++[z])=prs (x::r++[z])
 |x,[],z=>rfl
 |x,y::r,z=>by
  show[x,y]::List.zipWith (λp q=>[p,q]) (y::r) (r++[z])=[x,y]::prs (y::r++[z])
  rw[Ax y r z]
theorem vB:∀(l:List Pl) (w:List Pl),w∈prs l->∃a b,w=[a,b]/\Nx l a b
 |[],_,h=>by cases h
 |[_],_,h=>by cases h
 |x::y::r,w,h=>by
  rcases Xj.mp h with h|h
  ·exact⟨x,y,h,.inl ⟨rfl,rfl⟩⟩
  ·obtain⟨a,b,e,k⟩:=vB (y::r) w h
   exact⟨a,b,e,.inr k⟩
theorem D8:∀(l:List Pl) (a b:Pl),Nx l a b->[a,b]∈prs l
 |[],_,_,h=>h.elim
 |[_],_,_,h=>h.elim
 |x::y::r,a,b,h=>by
  rcases h with⟨rfl,rfl⟩|h
  ·exact Xu ..
  ·exact Xl _ (D8 (y::r) a b h)
theorem BG{T H:List Pl}{lo hi:Pl}(t1:T.head?=some lo)(t2:T.getLast?=some hi)(h1:H.head?=some hi)(h2:H.getLast?=some lo)(hne:lo≠hi) :
 List.zipWith (λp q=>[p,q]) (T.dropLast++H.dropLast) ((T.dropLast++H.dropLast).drop 1++(T.dropLast++H.dropLast).take 1)=prs T++prs H:=by
 have eT:=gj t2
 have eH:=gj h2
 obtain⟨X,hX⟩:∃X,T.dropLast=lo::X:=by
  cases e:T.dropLast with
  |nil=>
   rw[e]at eT
   rw[eT]at t1
   exact absurd (Option.some.inj t1).symm hne
  |cons x X=>
   rw[e]at eT
   rw[eT]at t1
   exact⟨X,by rw[Option.some.inj t1]⟩
 obtain⟨Y,hY⟩:∃Y,H=hi::Y:=by
  cases e:H with
  |nil=>rw[e]at h1;cases h1
  |cons x X=>rw[e]at h1;exact⟨X,by rw[Option.some.inj h1]⟩
 rw[hX]
 show List.zipWith (λp q=>[p,q]) (lo::(X++H.dropLast)) ((X++H.dropLast)++[lo])=_
 rw[Ax]
 have e1:lo::(X++H.dropLast)++[lo]=(lo::X)++(H.dropLast++[lo]):=by simp
 rw[e1,<-eH]
 conv=>lhs;rw[hY,Aw,<-hY]
 rw[<-hX,<-eT]
theorem Iw{z:Pl}:∀{l:List Pl},l.getLast?=some z->2<=l.length->∃e,Nx l e z
 |[],_,h=>by simp at h
 |[_],_,h=>by simp at h
 |[x,y],e,_=>⟨x,.inl ⟨rfl,by simpa using e⟩⟩
 |x::y::u::r,e,_=>by
  obtain⟨e',k⟩:=Iw (l:=y::u::r) (by simpa using e) (by simp)
  exact⟨e',.inr k⟩
theorem rf{w:Way}{S:List Pl}:∀{st:List Pl},lR w S st->st.Pairwise (λb a=>w.f a<w.f b)
 |[],_=> .nil
 |[_],_=>by simp
 |y::x::r,e=>by
  obtain⟨e1,_,e3⟩:=e
  have ih:=rf e3
  refine X7.mpr ⟨λz hz=>?_,ih⟩
  rcases Xj.mp hz with rfl|hz
  ·exact e1
  ·have:=(X7.mp ih).1 z hz
   omega
theorem Ch.nodup{w:Way}{S st:List Pl}(C:Ch w S st):st.Nodup:=(rf C.GL).imp λh e=>by rw[e]at h;omega
theorem oz{l m:List Pl}(nd:l.Nodup)(sub:∀x∈l,x∈m):l.length<=m.length:=by
 induction l generalizing m with
 |nil=>simp
 |cons a l ih=>
  obtain⟨h1,h2⟩:=XF.mp nd
  have ma:=sub a (Xu ..)
  have:=ih (m:=m.erase a) h2 λx hx=>(aac (show x≠a from λe=>h1 (e▸hx))).mpr (sub x (Xl _ hx))
  rw[ZV ma]at this
  have:0<m.length:=Z6 ma
  rw[Xz]
  omega
theorem zb{w:Way}{x b e p:Pl}(h1:w.f x<w.f b)(h2:w.f x<w.f e)(h3:w.f x<w.f p)(h:0<=tw x b e)(s1:tw x b p<0)(s2:tw e x p<0):False:=by
 have key:=gE w.al w.be (b.x-x.x) (b.y-x.y) (e.x-x.x) (e.y-x.y) (p.x-x.x) (p.y-x.y)
 have s2':0<(e.x-x.x)*(p.y-x.y)-(e.y-x.y)*(p.x-x.x):=by
  unfold tw at s2
  grind
 unfold Way.f at h1 h2 h3
 unfold tw at h s1
 have k1:0<w.al*(b.x-x.x)+w.be*(b.y-x.y):=by grind
 have k2:0<w.al*(e.x-x.x)+w.be*(e.y-x.y):=by grind
 have k3:0<w.al*(p.x-x.x)+w.be*(p.y-x.y):=by grind
 have r1:=YJ k1 s2'
 have r2:0<=(w.al*(p.x-x.x)+w.be*(p.y-x.y))*((b.x-x.x)*(e.y-x.y)-(b.y-x.y)*(e.x-x.x)):=XY (by omega) h
 have r3:(w.al*(e.x-x.x)+w.be*(e.y-x.y))*((b.x-x.x)*(p.y-x.y)-(b.y-x.y)*(p.x-x.x))<0:=X8 k2 s1
 omega
noncomputable def A2(p:Pl):List Pl->Bool
 |[a,b]=>decide (tw a b p<0)
 |_=>false
end L3
namespace L3
noncomputable def mj(bd:List Pl)(k:Nat):Option Pl:=if k=0 then bd.getLast? else bd[k-1]?
theorem vC{bd:List Pl}{k:Nat}{a b:Pl}(hb:bd[k]?=some b)(ha:mj bd k=some a):[a,b]∈List.zipWith (λp q=>[p,q]) bd (bd.drop 1++bd.take 1):=by
 have lk:k<bd.length:=(XH.mp hb).1
 unfold mj at ha
 rw[Y9]
 by_cases c:k=0
 ·subst c
  rw[if_pos rfl,ZQ]at ha
  refine⟨bd.length-1,?_⟩
  have e2:(bd.drop 1++bd.take 1)[bd.length-1]?=some b:=by
   rw[YT (by rw[Yq];omega),Yq,Nat.sub_self,ZU (by omega)]
   exact hb
  rw[YU,ha,e2]
 ·rw[if_neg c]at ha
  refine⟨k-1,?_⟩
  have e2:(bd.drop 1++bd.take 1)[k-1]?=some b:=by
   rw[YY (by rw[Yq];omega),List.getElem?_drop,show 1+(k-1)=k by omega]
   exact hb
  rw[YU,ha,e2]
theorem xG:∀{as bs:List Pl},as.Perm bs->as.Pairwise (λa b=> ¬aU b a)->bs.Pairwise (λa b=> ¬aU b a)->as=bs
 |[],bs,h,_,_=>by rw[List.nil_perm.mp h]
 |a::as,[],h,_,_=>by simp at h
 |a::as,b::bs,h,h1,h2=>by
  obtain⟨p1,p2⟩:=X7.mp h1
  obtain⟨q1,q2⟩:=X7.mp h2
  have e:a=b:=by
   rcases dM a b with k|k|k
   ·rcases Xj.mp (h.mem_iff.mp (Xu (a:=a) (l:=as)))with z|z
    ·exact z
    ·exact absurd k (q1 a z)
   ·exact k
   ·rcases Xj.mp (h.mem_iff.mpr (Xu (a:=b) (l:=bs)))with z|z
    ·exact z.symm
    ·exact absurd k (p1 b z)
  subst e
  rw[xG (List.Perm.cons_inv h) p2 q2]
end L3
namespace L3
noncomputable def cV(Q:List Pl):Prop:=Q.Pairwise (λp q=>aU p q)/\∀q∈Q,q.y.natAbs<2 ^ 140
noncomputable def aW(Q:List Pl)(a b:Pl):Prop:=a∈Q/\b∈Q/\a≠b/\QS a b Q
noncomputable def SL(Q:List Pl):List (List Pl):=cA (bN Q)
theorem kq{Q:List Pl}(h:Q.length<2):SL Q=[]:=by
 unfold SL bN
 rw[if_pos h]
 unfold cA
 rw[if_pos h]
theorem uH{Q:List Pl}(s:cV Q)(h:2<=Q.length):2<=(bN Q).length/\SL Q=List.zipWith (λp q=>[p,q]) (bN Q) ((bN Q).drop 1++(bN Q).take 1)/\∀a b,[a,b]∈SL Q↔aW Q a b:=by
 obtain⟨lb,char⟩:=BE s.1 s.2 h
 have eo:bN Q=(Q.foldl aI []).reverse.dropLast++(Q.reverse.foldl aI []).reverse.dropLast:=by unfold bN;rw[if_neg (by omega)]
 rw[<-eo]at lb char
 have e:SL Q=List.zipWith (λp q=>[p,q]) (bN Q) ((bN Q).drop 1++(bN Q).take 1):=by
  unfold SL cA
  rw[if_neg (by omega)]
 exact⟨lb,e,λa b=>by rw[e];exact char a b⟩
theorem nv{Q:List Pl}{a b:Pl}(h:aW Q a b):2<=Q.length:=oz (l:=[a,b]) (by simp[h.2.2.1]) (λx hx=>by
 simp only[Xj,XR,or_false]at hx
 rcases hx with rfl|rfl
 ·exact h.1
 ·exact h.2.1)
theorem cC{Q:List Pl}(s:cV Q){a b:Pl}:[a,b]∈SL Q↔aW Q a b:=by
 by_cases h:2<=Q.length
 ·exact(uH s h).2.2 a b
 ·rw[kq (by omega)]
  exact⟨(λz=>by cases z),λz=>absurd (nv z) h⟩
theorem mw{Q w:List Pl}(h:w∈SL Q):∃a b,w=[a,b]:=by
 unfold SL cA at h
 split at h
 ·cases h
 ·exact uG _ _ _ h
theorem GN{Q:List Pl}(s:cV Q){a b:Pl}(h:aW Q a b):∃c,aW Q c a:=by
 obtain⟨lb,e,char⟩:=uH s (nv h)
 have m:=(char a b).mpr h
 rw[e]at m
 obtain⟨i,hi⟩:=Y9.mp m
 rw[YU]at hi
 have ha:(bN Q)[i]?=some a:=by
  cases e1:(bN Q)[i]? with
  |none=>rw[e1]at hi;simp at hi
  |some u=>
   rw[e1]at hi
   cases e2:((bN Q).drop 1++(bN Q).take 1)[i]? with
   |none=>rw[e2]at hi;simp at hi
   |some v=>rw[e2]at hi;simp at hi;rw[hi.1]
 have li:=(XH.mp ha).1
 obtain⟨c,hc⟩:∃c,mj (bN Q) i=some c:=by
  unfold mj
  split
  ·exact⟨_,YD (λz=>by rw[z]at lb;simp at lb)⟩
  ·exact⟨_,Xm (by omega)⟩
 have:=vC ha hc
 rw[<-e]at this
 exact⟨c,(char c a).mp this⟩
theorem rj{Q:List Pl}(s:cV Q){a b:Pl}(h:aW Q a b):∃c,aW Q b c:=by
 obtain⟨lb,e,char⟩:=uH s (nv h)
 have m:=(char a b).mpr h
 rw[e]at m
 have hb:b∈bN Q:=by
  obtain⟨i,hi⟩:=Y9.mp m
  rw[YU]at hi
  cases e1:(bN Q)[i]? with
  |none=>rw[e1]at hi;simp at hi
  |some u=>
   rw[e1]at hi
   cases e2:((bN Q).drop 1++(bN Q).take 1)[i]? with
   |none=>rw[e2]at hi;simp at hi
   |some v=>
    rw[e2]at hi
    simp at hi
    have mv:=XJ e2
    rw[hi.2]at mv
    rcases XI.mp mv with z|z
    ·exact Zd z
    ·exact Yd z
 obtain⟨j,hj⟩:=Y9.mp hb
 have lj:=(XH.mp hj).1
 by_cases c:j+1<(bN Q).length
 ·have:=vC (k:=j+1) (Xm c) (show mj (bN Q) (j+1)=some b by unfold mj;rw[if_neg (by omega)];exact hj)
  rw[<-e]at this
  exact⟨_,(char _ _).mp this⟩
 ·have:=vC (bd:=bN Q) (k:=0) (a:=b) (Xm (by omega)) (by unfold mj;rw[if_pos rfl,ZQ,show(bN Q).length-1=j by omega];exact hj)
  rw[<-e]at this
  exact⟨_,(char _ _).mp this⟩
theorem oA:∀{l:List Pl},l.Nodup->(prs l).Nodup
 |[],_=> .nil
 |[_],_=> .nil
 |x::y::r,h=>by
  obtain⟨h1,h2⟩:=XF.mp h
  refine XF.mpr ⟨λz=>?_,oA h2⟩
  obtain⟨a,b,e,k⟩:=vB _ _ z
  have:x=a:=by injection e
  rw[this]at h1
  have key:∀(l:List Pl) (a b:Pl),Nx l a b->a∈l:=λl=>by
   induction l with
   |nil=>intro a b k;exact k.elim
   |cons u l ih=>
    intro a b k
    cases l with
    |nil=>exact k.elim
    |cons v l=>
     rcases k with⟨rfl,_⟩|k
     ·simp
     ·exact Xl _ (ih a b k)
  exact h1 (key _ _ _ k)
theorem oB{Q:List Pl}(s:cV Q)(h2:2<=Q.length):(SL Q).Nodup/\∀y,Q.getLast?=some y->∃e,aW Q e y:=by
 obtain⟨hs,hok⟩:=s
 have hne:Q≠[]:=λz=>by rw[z]at h2;simp at h2
 obtain⟨x,hx⟩:∃x,Q.head?=some x:=by
  cases e:Q with
  |nil=>exact absurd e hne
  |cons x r=>exact⟨x,rfl⟩
 obtain⟨y,hy⟩:∃y,Q.getLast?=some y:=⟨_,YD hne⟩
 have mx:x∈Q:=Zu hx
 have my:y∈Q:=YL hy
 have hend:=ia hs hx hy
 have be:∀p∈Q,∀q∈Q,(aU p q↔aq.f p<aq.f q):=λp hp q hq=>nt (hok p hp) (hok q hq)
 have bw:∀p∈Q,∀q∈Q,(aU p q↔pK.f q<pK.f p):=λp hp q hq=>by
  rw[be p hp q hq,gq,gq]
  omega
 have xy:x≠y:=by
  intro e
  cases e1:Q with
  |nil=>exact absurd e1 hne
  |cons u r=>
   cases r with
   |nil=>rw[e1]at h2;simp at h2
   |cons v r=>
    rw[e1]at hx hy hs
    have eu:u=x:=by simpa using hx
    have QT:y∈v::r:=YL (by simpa using hy)
    have:=(X7.mp hs).1 y QT
    rw[eu,e]at this
    exact cz _ this
 have C1:Ch aq Q (Q.foldl aI []):=nk hne (hs.imp_of_mem λhp hq h=>(be _ hp _ hq).mp h)
 have C2:Ch pK Q.reverse (Q.reverse.foldl aI []):=nk (by simpa using hne) (Z9.mpr (hs.imp_of_mem λhp hq h=>(bw _ hp _ hq).mp h))
 have key:∀p∈Q,∀q∈Q,(p=q\/aU p q)->aq.f p<=aq.f q/\pK.f q<=pK.f p:=λp hp q hq k=>by
  rcases k with rfl|k
  ·exact⟨Y4 _,Y4 _⟩
  ·have a1:=(be p hp q hq).mp k
   have a2:=(bw p hp q hq).mp k
   omega
 obtain⟨p1,p2⟩:=C1.ends mx my (λq hq=>(key x mx q hq ((hend q hq).1.imp Eq.symm id)).1) (λq hq=>(key q hq y my (hend q hq).2).1)
 obtain⟨r1,r2⟩:=C2.ends (lo:=y) (hi:=x) (by simpa using my) (by simpa using mx) (λq hq=>by have hq:=Yb.mp hq;exact(key q hq y my (hend q hq).2).2) (λq hq=>by have hq:=Yb.mp hq;exact(key x mx q hq ((hend q hq).1.imp Eq.symm id)).2)
 have e0:=BG (lo:=x) (hi:=y) (T:=(Q.foldl aI []).reverse) (H:=(Q.reverse.foldl aI []).reverse) (by rw[Zj];exact p2) (by rw[YV];exact p1) (by rw[Zj];exact r2) (by rw[YV];exact r1) xy
 obtain⟨lb,e,char⟩:=uH ⟨hs,hok⟩ h2
 have eo:bN Q=(Q.foldl aI []).reverse.dropLast++(Q.reverse.foldl aI []).reverse.dropLast:=by unfold bN;rw[if_neg (by omega)]
 have es:SL Q=prs (Q.foldl aI []).reverse++prs (Q.reverse.foldl aI []).reverse:=by
  rw[e,eo]
  exact e0
 have Ur:∀a b,Nx (Q.foldl aI []).reverse a b->aq.f a<aq.f b:=λa b k=>((jo C1).mp ((nu _ a b).mpr k)).2.2.1
 have Us:∀a b,Nx (Q.reverse.foldl aI []).reverse a b->aq.f b<aq.f a:=λa b k=>by
  have h3:=((jo C2).mp ((nu _ a b).mpr k)).2.2.1
  rw[gq,gq]at h3
  omega
 have n1:=C1.nodup
 have n2:=C2.nodup
 constructor
 ·rw[es]
  refine YM.mpr ⟨oA ((ZR _).nodup_iff.mpr n1),oA ((ZR _).nodup_iff.mpr n2),λv hv u hu z=>?_⟩
  subst z
  obtain⟨a,b,rfl,k1⟩:=vB _ _ hv
  obtain⟨c,d,e2,k2⟩:=vB _ _ hu
  injection e2 with e3 e2
  injection e2 with e4 _
  rw[<-e3,<-e4]at k2
  have:=Ur a b k1
  have:=Us a b k2
  omega
 ·intro y' hy'
  rw[hy]at hy'
  cases hy'
  obtain⟨e1,k⟩:=Iw (l:=(Q.foldl aI []).reverse) (z:=y) (by rw[YV];exact p1) (by rw[XU];exact q8 p1 p2 (Ne.symm xy))
  exact⟨e1,(char e1 y).mp (by rw[es];exact Xx _ (D8 _ _ _ k))⟩
theorem kr{Q:List Pl}(s:cV Q):(SL Q).Nodup:=by
 by_cases h:2<=Q.length
 ·exact(oB s h).1
 ·rw[kq (by omega)]
  exact .nil
theorem rq(w:Way)(u v p o:Pl):(w.f v-w.f o)*tw o u p=(w.f u-w.f o)*tw o v p+(w.f p-w.f o)*tw o u v:=by
 unfold Way.f tw
 grind
theorem pL(a b c:Pl):tw b c a=tw a b c:=by unfold tw;grind
theorem D9(a b c:Pl):tw c a b=tw a b c:=by unfold tw;grind
theorem bY(a b c:Pl):tw b a c= - tw a b c:=by unfold tw;grind
theorem uI(a b c:Pl):tw a c b= - tw a b c:=by unfold tw;grind
section
variable{Q:List Pl}{p:Pl}
noncomputable def Kr(Q:List Pl)(p:Pl):Prop:=(∀q∈Q,aU q p)/\p.y.natAbs<2 ^ 140
theorem cV.f(s:cV Q){a b:Pl}(ha:a∈Q)(hb:b∈Q):aU a b↔aq.f a<aq.f b:=nt (s.2 a ha) (s.2 b hb)
theorem cV.inj(s:cV Q){a b:Pl}(ha:a∈Q)(hb:b∈Q)(e:aq.f a=aq.f b):a=b:=by
 rcases dM a b with k|k|k
 ·have:=(s.f ha hb).mp k;omega
 ·exact k
 ·have:=(s.f hb ha).mp k;omega
theorem Kr.f(s:cV Q)(h:Kr Q p){a:Pl}(ha:a∈Q):aq.f a<aq.f p:=(nt (s.2 a ha) h.2).mp (h.1 a ha)
theorem cT(s:cV Q){a b q:Pl}(h:aW Q a b)(hq:q∈Q)(z:tw a b q=0):¬((aq.f a<aq.f q/\aq.f q<aq.f b)\/(aq.f b<aq.f q/\aq.f q<aq.f a)):=by
 obtain⟨ha,hb,ne,r⟩:=h
 have r2:=(r q hq).2 z
 unfold lo hi at r2
 rintro(⟨k1,k2⟩|⟨k1,k2⟩)
 ·have ab:aU a b:=(s.f ha hb).mpr (by omega)
  rw[if_neg (bx ab),if_pos ab]at r2
  exact r2 ⟨(s.f ha hq).mpr k1,(s.f hq hb).mpr k2⟩
 ·have ba:aU b a:=(s.f hb ha).mpr (by omega)
  rw[if_pos ba,if_neg (bx ba)]at r2
  exact r2 ⟨(s.f hb hq).mpr k1,(s.f hq ha).mpr k2⟩
theorem vD(s:cV Q){a b:Pl}(ha:a∈Q)(hb:b∈Q)(h:∀q∈Q,0<=tw a b q/\(tw a b q=0->¬((aq.f a<aq.f q/\aq.f q<aq.f b)\/(aq.f b<aq.f q/\aq.f q<aq.f a)))):QS a b Q:=λq hq=>⟨(h q hq).1,λz k=>(h q hq).2 z (by
 unfold lo hi at k
 by_cases c:aU b a
 ·rw[if_pos c,if_neg (bx c)]at k
  exact .inr ⟨(s.f hb hq).mp k.1,(s.f hq ha).mp k.2⟩
 ·rw[if_neg c]at k
  by_cases d:aU a b
  ·rw[if_pos d]at k
   exact .inl ⟨(s.f ha hq).mp k.1,(s.f hq hb).mp k.2⟩
  ·rw[if_neg d]at k
   have:=(s.f ha hq).mp k.1
   have:=(s.f hq ha).mp k.2
   omega)⟩
theorem wM(s:cV Q){a b:Pl}(ha:a∈Q)(hb:b∈Q)(ne:a≠b):aq.f a≠aq.f b:=λz=>ne (s.inj ha hb z)
theorem uJ(s:cV Q){a b c:Pl}(h1:aW Q a b)(h2:aW Q a c)(s1:tw a b p<0)(s2:tw a c p<0):b=c:=by
 have z1:=(h1.2.2.2 c h2.2.1).1
 have z2:=(h2.2.2.2 b h1.2.1).1
 have z3:=uI a b c
 have z:tw a b c=0:=by omega
 have z':tw a c b=0:=by omega
 apply Xk
 intro ne
 have f1:=wM s h1.1 h1.2.1 h1.2.2.1
 have f2:=wM s h2.1 h2.2.1 h2.2.2.1
 have f3:=wM s h1.2.1 h2.2.1 ne
 have b1:=cT s h1 h2.2.1 z
 have b2:=cT s h2 h1.2.1 z'
 have key:=rq aq b c p a
 rw[z,Ye,Zb]at key
 rcases Yw f1 with k|k
 ·rcases Yw f2 with l|l
  ·omega
  ·have e1:0<(aq.f c-aq.f a)*tw a b p:=YA (by omega) s1
   have e2:(aq.f b-aq.f a)*tw a c p<0:=X8 (by omega) s2
   omega
 ·rcases Yw f2 with l|l
  ·have e1:(aq.f c-aq.f a)*tw a b p<0:=X8 (by omega) s1
   have e2:0<(aq.f b-aq.f a)*tw a c p:=YA (by omega) s2
   omega
  ·omega
theorem xH(s:cV Q){a b c:Pl}(h1:aW Q b a)(h2:aW Q c a)(s1:tw b a p<0)(s2:tw c a p<0):b=c:=by
 have z1:=(h1.2.2.2 c h2.1).1
 have z2:=(h2.2.2.2 b h1.1).1
 have z3:tw c a b= - tw b a c:=by unfold tw;grind
 have z:tw b a c=0:=by omega
 have z':tw c a b=0:=by omega
 apply Xk
 intro ne
 have f1:=wM s h1.1 h1.2.1 h1.2.2.1
 have f2:=wM s h2.1 h2.2.1 h2.2.2.1
 have f3:=wM s h1.1 h2.1 ne
 have b1:=cT s h1 h2.1 z
 have b2:=cT s h2 h1.1 z'
 have key:=rq aq b c p a
 have y1:tw a b p= - tw b a p:=bY b a p
 have y2:tw a c p= - tw c a p:=bY c a p
 have y3:tw a b c=0:=by have:=bY b a c;omega
 rw[y3,Ye,Zb]at key
 have s1:0<tw a b p:=by omega
 have s2:0<tw a c p:=by omega
 rcases Yw f1 with k|k
 ·rcases Yw f2 with l|l
  ·omega
  ·have e1:0<(aq.f c-aq.f a)*tw a b p:=YJ (by omega) s1
   have e2:(aq.f b-aq.f a)*tw a c p<0:=YB (by omega) s2
   omega
 ·rcases Yw f2 with l|l
  ·have e1:(aq.f c-aq.f a)*tw a b p<0:=YB (by omega) s1
   have e2:0<(aq.f b-aq.f a)*tw a c p:=YJ (by omega) s2
   omega
  ·omega
theorem NI(c a b p q:Pl):tw c a p*tw a b q-tw a b p*tw c a q=tw c a b*tw a p q:=by unfold tw;grind
theorem NJ(a b c p q:Pl):tw a b q*tw b c p-tw a b p*tw b c q=tw a b c*tw p b q:=by unfold tw;grind
theorem lg{a b:Pl}(ne:a≠b)(h:∀q∈Q,tw a b q=0):Flat Q:=λu hu v hv w hw=>DZ ne (h u hu) (h v hv) (h w hw)
theorem BH(nf:¬Flat Q){a b c:Pl}(h1:aW Q a b)(h2:aW Q c a)(s1:tw a b p<0)(s2:0<=tw c a p):∀q∈Q,0<=tw a p q:=λq hq=>by
 have z1:=(h1.2.2.2 q hq).1
 have z2:=(h2.2.2.2 q hq).1
 have z3:=(h2.2.2.2 b h1.2.1).1
 have key:=NI c a b p q
 have e1:0<=tw c a p*tw a b q:=XY s2 z1
 have e2:tw a b p*tw c a q<=0:=XM (by omega) z2
 rcases ZK z3 with k|k
 ·exact vq k (by omega)
 ·exfalso
  refine nf (lg h2.2.2.1 λr hr=>?_)
  have key:=NI c a b p r
  rw[<-k,YH]at key
  have y1:=(h1.2.2.2 r hr).1
  have y2:=(h2.2.2.2 r hr).1
  have e1:0<=tw c a p*tw a b r:=XY s2 y1
  have e2:tw a b p*tw c a r<=0:=XM (by omega) y2
  have e3:tw a b p*tw c a r=0:=by omega
  rcases Yu.mp e3 with z|z
  ·omega
  ·exact z
theorem GO(nf:¬Flat Q){a b c:Pl}(h1:aW Q a b)(h2:aW Q b c)(s1:tw a b p<0)(s2:0<=tw b c p):∀q∈Q,0<=tw p b q:=λq hq=>by
 have z1:=(h1.2.2.2 q hq).1
 have z2:=(h2.2.2.2 q hq).1
 have z3:=(h1.2.2.2 c h2.2.1).1
 have key:=NJ a b c p q
 have e1:0<=tw a b q*tw b c p:=XY z1 s2
 have e2:tw a b p*tw b c q<=0:=XM (by omega) z2
 rcases ZK z3 with k|k
 ·exact vq k (by omega)
 ·exfalso
  refine nf (lg h2.2.2.1 λr hr=>?_)
  have key:=NJ a b c p r
  rw[<-k,YH]at key
  have y1:=(h1.2.2.2 r hr).1
  have y2:=(h2.2.2.2 r hr).1
  have e1:0<=tw a b r*tw b c p:=XY y1 s2
  have e2:tw a b p*tw b c r<=0:=XM (by omega) y2
  have e3:tw a b p*tw b c r=0:=by omega
  rcases Yu.mp e3 with z|z
  ·omega
  ·exact z
theorem lA(s:cV Q)(fl:Flat Q){a b:Pl}(ha:a∈Q)(hb:b∈Q)(ne:a≠b)(h:∀q∈Q,¬((aq.f a<aq.f q/\aq.f q<aq.f b)\/(aq.f b<aq.f q/\aq.f q<aq.f a))):aW Q a b:=
 ⟨ha,hb,ne,vD s ha hb λq hq=>⟨by rw[fl a ha b hb q hq];omega,λ_=>h q hq⟩⟩
theorem vE(s:cV Q){a q:Pl}(ha:a∈Q)(hq:q∈Q)(ne:q≠a):∃c∈Q,c≠a/\(aq.f c<aq.f a↔aq.f q<aq.f a)/\∀z∈Q,¬((aq.f a<aq.f z/\aq.f z<aq.f c)\/(aq.f c<aq.f z/\aq.f z<aq.f a)):=by
 have fq:=wM s hq ha ne
 rcases Yw fq with k|k
 ·obtain⟨c,hc,mx⟩:=Av (Q.filter λz=>decide (aU z a)) (ZL (Xy.mpr ⟨hq,decide_eq_true ((s.f hq ha).mpr k)⟩))
  obtain⟨hc,ca⟩:=Xy.mp hc
  have ca:=(s.f hc ha).mp (of_decide_eq_true ca)
  refine⟨c,hc,λz=>by rw[z]at ca;omega,⟨λ_=>k,λ_=>ca⟩,λz hz=>?_⟩
  rintro(⟨k1,k2⟩|⟨k1,k2⟩)
  ·omega
  ·exact mx z (Xy.mpr ⟨hz,decide_eq_true ((s.f hz ha).mpr k2)⟩) ((s.f hc hz).mpr k1)
 ·obtain⟨c,hc,mn⟩:=vA (Q.filter λz=>decide (aU a z)) (ZL (Xy.mpr ⟨hq,decide_eq_true ((s.f ha hq).mpr k)⟩))
  obtain⟨hc,ca⟩:=Xy.mp hc
  have ca:=(s.f ha hc).mp (of_decide_eq_true ca)
  refine⟨c,hc,λz=>by rw[z]at ca;omega,⟨λ_=>by omega,λ_=>by omega⟩,λz hz=>?_⟩
  rintro(⟨k1,k2⟩|⟨k1,k2⟩)
  ·exact mn z (Xy.mpr ⟨hz,decide_eq_true ((s.f ha hz).mpr k1)⟩) ((s.f hz hc).mpr k2)
  ·omega
theorem Sh{x y A B:Int}(h:x*A=y*B)(hA:A<0)(hB:0<B):(0<x->y<0)/\(x<0->0<y)/\(x=0->y=0):=by
 refine⟨λk=>?_,λk=>?_,λk=>?_⟩
 ·have:=X8 k hA
  apply Xk
  intro z
  have:=XY (a:=y) (b:=B) (by omega) (by omega)
  omega
 ·have:=YA k hA
  apply Xk
  intro z
  have:=XM (a:=y) (b:=B) (by omega) (by omega)
  omega
 ·rw[k,YH]at h
  rcases Yu.mp h.symm with z|z
  ·exact z
  ·omega
theorem QW{x y A B:Int}(h:x*A=y*B)(hA:A<0)(hxy:(0<x/\y<0)\/(x<0/\0<y)):0<B:=by
 apply Xk
 intro z
 rcases hxy with⟨k,l⟩|⟨k,l⟩
 ·have:=X8 k hA
  have:=XZ (a:=y) (b:=B) (by omega) (by omega)
  omega
 ·have:=YA k hA
  have:=Yh (a:=y) (b:=B) (by omega) (by omega)
  omega
theorem zc(s:cV Q)(fl:Flat Q){a b:Pl}(h1:aW Q a b)(s1:tw a b p<0)(no:∀c,aW Q c a->0<=tw c a p):∀q∈Q,0<=tw a p q:=λq hq=>by
 apply Xk
 intro k
 have z0:=fl a h1.1 b h1.2.1 q hq
 have key:=rq aq b q p a
 rw[z0,Ye,Zb]at key
 have e1:tw a q p= - tw a p q:=uI a p q
 have o1:=Sh key s1 (by omega)
 have nq:q≠a:=λz=>by rw[z]at k;have:=qH a p;omega
 obtain⟨c,hc,nc,sg,NK⟩:=vE s h1.1 hq nq
 have f1:=wM s h1.2.1 h1.1 (Ne.symm h1.2.2.1)
 have f2:=wM s hq h1.1 nq
 have f3:=wM s hc h1.1 nc
 have sd:aW Q c a:=lA s fl hc h1.1 nc λz hz w=>NK z hz (by omega)
 have GP:=rq aq b c p a
 rw[fl a h1.1 b h1.2.1 c hc,Ye,Zb]at GP
 have:=QW GP s1 (by omega)
 have:=no c sd
 have:=bY a c p
 omega
theorem Ea(s:cV Q)(fl:Flat Q){a b:Pl}(h1:aW Q a b)(s1:tw a b p<0)(no:∀c,aW Q b c->0<=tw b c p):∀q∈Q,0<=tw p b q:=λq hq=>by
 apply Xk
 intro k
 have z0:=fl b h1.2.1 a h1.1 q hq
 have key:=rq aq a q p b
 rw[z0,Ye,Zb]at key
 have e1:tw b q p=tw p b q:=pL p b q
 have e2:=bY a b p
 have key:(aq.f a-aq.f b)*tw b q p=(aq.f q-aq.f b)*tw b a p:=key.symm
 have o1:=Sh key (by omega) (by omega)
 have nq:q≠b:=λz=>by rw[z]at k;have:=qG p b;have:tw p b b=0:=by unfold tw;grind
                     omega
 obtain⟨c,hc,nc,sg,NK⟩:=vE s h1.2.1 hq nq
 have f1:=wM s h1.1 h1.2.1 h1.2.2.1
 have f2:=wM s hq h1.2.1 nq
 have f3:=wM s hc h1.2.1 nc
 have sd:aW Q b c:=lA s fl h1.2.1 hc (Ne.symm nc) λz hz w=>NK z hz (by omega)
 have GP:=rq aq a c p b
 rw[fl b h1.2.1 a h1.1 c hc,Ye,Zb]at GP
 have nn:=no c sd
 have pos:0<tw b a p:=by omega
 rcases Yw f3 with l|l
 ·have e3:(aq.f c-aq.f b)*tw b a p<0:=YB (by omega) pos
  have e4:0<=(aq.f a-aq.f b)*tw b c p:=XY (by omega) nn
  omega
 ·have e3:0<(aq.f c-aq.f b)*tw b a p:=YJ (by omega) pos
  have e4:(aq.f a-aq.f b)*tw b c p<=0:=XM (by omega) nn
  omega
theorem BI(s:cV Q)(bh:Kr Q p){a b q:Pl}(h1:aW Q a b)(s1:tw a b p<0)(hq:q∈Q)(z:tw a p q=0):¬aq.f a<aq.f q:=λk=>by
 have key:=rq aq b q p a
 have e1:tw a q p=0:=by have:=uI a p q;omega
 rw[e1,Ye,aal]at key
 have:=(h1.2.2.2 q hq).1
 have fp:=bh.f s h1.1
 have e2:(aq.f q-aq.f a)*tw a b p<0:=X8 (by omega) s1
 have e3:0<=(aq.f p-aq.f a)*tw a b q:=XY (by omega) this
 omega
theorem GQ(s:cV Q)(bh:Kr Q p){a b q:Pl}(h1:aW Q a b)(s1:tw a b p<0)(hq:q∈Q)(z:tw p b q=0):¬aq.f b<aq.f q:=λk=>by
 have key:=rq aq a q p b
 have e1:tw b q p=0:=by have:=pL p b q;omega
 rw[e1,Ye,aal]at key
 have:=(h1.2.2.2 q hq).1
 have y1:=bY a b p
 have y2:=bY a b q
 have fp:=bh.f s h1.2.1
 have e2:0<(aq.f q-aq.f b)*tw b a p:=YJ (by omega) (by omega)
 have e3:(aq.f p-aq.f b)*tw b a q<=0:=Yh (by omega) (by omega)
 omega
theorem cV.old(s:cV (Q++[p])):cV Q:=⟨(Zc.mp s.1).1,λq hq=>s.2 q (Xx _ hq)⟩
theorem cV.zd(s:cV (Q++[p])):Kr Q p:=⟨λq hq=>(Zc.mp s.1).2.2 q hq p (by simp),s.2 p (by simp)⟩
theorem cV.out(s:cV (Q++[p])):p∉Q:=λh=>cz _ (s.zd.1 p h)
theorem dj{q:Pl}(h:q∈Q++[p]):q∈Q\/q=p:=by
 rcases XI.mp h with h|h
 ·exact .inl h
 ·exact .inr (Xq.mp h)
theorem gF(s:cV (Q++[p])){a b:Pl}(ha:a∈Q)(hb:b∈Q):aW (Q++[p]) a b↔aW Q a b/\0<=tw a b p:=by
 constructor
 ·rintro⟨_,_,ne,r⟩
  exact⟨⟨ha,hb,ne,λq hq=>r q (Xx _ hq)⟩,(r p (by simp)).1⟩
 ·rintro⟨⟨_,_,ne,r⟩,h⟩
  refine⟨Xx _ ha,Xx _ hb,ne,vD s (Xx _ ha) (Xx _ hb) λq hq=>?_⟩
  rcases dj hq with hq|rfl
  ·exact⟨(r q hq).1,λz=>cT s.old ⟨ha,hb,ne,r⟩ hq z⟩
  ·refine⟨h,λ_ k=>?_⟩
   have:=s.zd.f s.old ha
   have:=s.zd.f s.old hb
   omega
theorem rB(s:cV (Q++[p])){a b:Pl}(h1:aW Q a b)(s1:tw a b p<0)(no:∀c,aW Q c a->0<=tw c a p):aW (Q++[p]) a p:=by
 have all:∀q∈Q,0<=tw a p q:=by
  by_cases fl:Flat Q
  ·exact zc s.old fl h1 s1 no
  ·obtain⟨c,hc⟩:=GN s.old h1
   exact BH fl h1 hc s1 (no c hc)
 have ma:a∈Q++[p]:=Xx _ h1.1
 have mp:p∈Q++[p]:=by simp
 refine⟨ma,mp,λz=>s.out (z▸h1.1),vD s ma mp λq hq=>?_⟩
 have fa:=s.zd.f s.old h1.1
 rcases dj hq with hq|rfl
 ·refine⟨all q hq,λz k=>?_⟩
  have:=BI s.old s.zd h1 s1 hq z
  have:=s.zd.f s.old hq
  omega
 ·refine⟨by have:tw a q q=0:=by unfold tw;grind
            omega,λ_ k=>by omega⟩
theorem xJ(s:cV (Q++[p])){a b:Pl}(h1:aW Q a b)(s1:tw a b p<0)(no:∀c,aW Q b c->0<=tw b c p):aW (Q++[p]) p b:=by
 have all:∀q∈Q,0<=tw p b q:=by
  by_cases fl:Flat Q
  ·exact Ea s.old fl h1 s1 no
  ·obtain⟨c,hc⟩:=rj s.old h1
   exact GO fl h1 hc s1 (no c hc)
 have mb:b∈Q++[p]:=Xx _ h1.2.1
 have mp:p∈Q++[p]:=by simp
 refine⟨mp,mb,λz=>s.out (z▸h1.2.1),vD s mp mb λq hq=>?_⟩
 have fb:=s.zd.f s.old h1.2.1
 rcases dj hq with hq|rfl
 ·refine⟨all q hq,λz k=>?_⟩
  have:=GQ s.old s.zd h1 s1 hq z
  have:=s.zd.f s.old hq
  omega
 ·refine⟨by have:tw q b q=0:=by unfold tw;grind
            omega,λ_ k=>by omega⟩
theorem Eb(s:cV (Q++[p])){u v:Pl}(h1:aW (Q++[p]) u p)(h2:aW (Q++[p]) v p):u=v:=by
 apply Xk
 intro ne
 have z1:=(h1.2.2.2 v h2.1).1
 have z2:=(h2.2.2.2 u h1.1).1
 have z3:tw v p u= - tw u p v:=by unfold tw;grind
 have f:=wM s h1.1 h2.1 ne
 have hu:=(dj h1.1).resolve_right h1.2.2.1
 have hv:=(dj h2.1).resolve_right h2.2.2.1
 have fu:=s.zd.f s.old hu
 have fv:=s.zd.f s.old hv
 have b1:=cT s h1 h2.1 (by omega)
 have b2:=cT s h2 h1.1 (by omega)
 omega
theorem Iz(s:cV (Q++[p])){u v:Pl}(h1:aW (Q++[p]) p u)(h2:aW (Q++[p]) p v):u=v:=by
 apply Xk
 intro ne
 have z1:=(h1.2.2.2 v h2.2.1).1
 have z2:=(h2.2.2.2 u h1.2.1).1
 have z3:tw p v u= - tw p u v:=uI p u v
 have f:=wM s h1.2.1 h2.2.1 ne
 have hu:=(dj h1.2.1).resolve_right (Ne.symm h1.2.2.1)
 have hv:=(dj h2.2.1).resolve_right (Ne.symm h2.2.2.1)
 have fu:=s.zd.f s.old hu
 have fv:=s.zd.f s.old hv
 have b1:=cT s h1 h2.2.1 (by omega)
 have b2:=cT s h2 h1.2.1 (by omega)
 omega
theorem xK{Q:List Pl}(h:Q.length<=2):Flat Q:=by
 match Q,h with
 |[],_=>exact λp hp=>by cases hp
 |[x],_=>exact mh (by simp)
 |[x,y],_=>
  have key:∀a∈[x,y],a=x\/a=y:=λa ha=>by simpa using ha
  intro a ha b hb c hc
  rcases key a ha with rfl|rfl<;>rcases key b hb with rfl|rfl<;>rcases key c hc with rfl|rfl<;>(unfold tw;grind)
theorem uK(s:cV (Q++[p]))(nf:¬Flat (Q++[p])):∃a b,aW Q a b/\tw a b p<0:=by
 apply Xk
 intro none
 have un:∀a b,aW Q a b->0<=tw a b p:=λa b h=>Xk λz=>none ⟨a,b,h,by omega⟩
 have l2:2<=Q.length:=Xk λz=>nf (xK (by rw[XA];simp;omega))
 have hne:Q≠[]:=λz=>by rw[z]at l2;simp at l2
 have hy:=YD hne
 obtain⟨e,he⟩:=(oB s.old l2).2 _ hy
 have last:∀q∈Q,q=Q.getLast hne\/aU q (Q.getLast hne):=λq hq=>(ia s.old.1 (List.head?_eq_some_head hne) hy q hq).2
 generalize Q.getLast hne=y at he last
 obtain⟨b,hb⟩:=rj s.old he
 have my:y∈Q:=hb.1
 have fe:aq.f e<aq.f y:=(s.old.f he.1 my).mp ((last e he.1).resolve_left he.2.2.1)
 have fb:aq.f b<aq.f y:=(s.old.f hb.2.1 my).mp ((last b hb.2.1).resolve_left (Ne.symm hb.2.2.1))
 have fp:=s.zd.f s.old my
 have u1:=un e y he
 have u2:=un y b hb
 have u3:=(he.2.2.2 b hb.2.1).1
 have g1:∀q,tw y e q= - tw e y q:=λq=>bY e y q
 have key:=rq aq e b p y
 have k1:=g1 p
 have k2:=g1 b
 have e1:0<=(aq.f b-aq.f y)*tw y e p:=XZ (by omega) (by omega)
 have e2:(aq.f e-aq.f y)*tw y b p<=0:=XM (by omega) u2
 have e3:(aq.f p-aq.f y)*tw y e b<=0:=Yh (by omega) (by omega)
 have z1:(aq.f b-aq.f y)*tw y e p=0:=by omega
 have z2:(aq.f p-aq.f y)*tw y e b=0:=by omega
 have y1:tw y e p=0:=(Yu.mp z1).resolve_left (by omega)
 have y2:tw y e b=0:=(Yu.mp z2).resolve_left (by omega)
 refine nf (lg (a:=y) (b:=e) (Ne.symm he.2.2.1) λq hq=>?_)
 rcases dj hq with hq|rfl
 ·have key:=rq aq e b q y
  rw[y2,Ye,Zb]at key
  have h1:=(he.2.2.2 q hq).1
  have h2:=(hb.2.2.2 q hq).1
  have h3:=g1 q
  have e4:0<=(aq.f b-aq.f y)*tw y e q:=XZ (by omega) (by omega)
  have e5:(aq.f e-aq.f y)*tw y b q<=0:=XM (by omega) h2
  exact(Yu.mp (show(aq.f b-aq.f y)*tw y e q=0 by omega)).resolve_left (by omega)
 ·exact y1
noncomputable def bO(Q:List Pl)(p:Pl):List (List Pl):=(SL Q).filter (A2 p)
theorem bu(s:cV Q){a b:Pl}:[a,b]∈bO Q p↔aW Q a b/\tw a b p<0:=by
 unfold bO
 rw[Xy,cC s]
 exact⟨λh=>⟨h.1,of_decide_eq_true h.2⟩,λh=>⟨h.1,decide_eq_true h.2⟩⟩
theorem bW{w:List Pl}(h:w∈bO Q p):∃a b,w=[a,b]:=mw (Xy.mp h).1
theorem mz(s:cV Q):(bO Q p).Nodup:=(kr s).filter _
noncomputable def tH(w:List Pl):Pl:=w.headD ⟨0,0⟩
noncomputable def vF(w:List Pl):Pl:=w.getLastD ⟨0,0⟩
theorem lB{α β:Type}{f:α->β}:∀{l:List α},l.Nodup->(∀x∈l,∀y∈l,f x=f y->x=y)->(l.map f).Nodup
 |[],_,_=> .nil
 |a::l,nd,h=>by
  obtain⟨h1,h2⟩:=XF.mp nd
  rw[XQ]
  refine XF.mpr ⟨λz=>?_,lB h2 λx hx y hy=>h x (Xl _ hx) y (Xl _ hy)⟩
  obtain⟨b,hb,e⟩:=XW.mp z
  rw[h b (Xl _ hb) a (by simp) e]at hb
  exact h1 hb
theorem vG(s:cV Q):((bO Q p).map tH).Nodup:=lB (mz s) λx hx y hy e=>by
 obtain⟨a,b,rfl⟩:=bW hx
 obtain⟨c,d,rfl⟩:=bW hy
 have e:a=c:=e
 subst e
 obtain⟨h1,h2⟩:=(bu s).mp hx
 obtain⟨h3,h4⟩:=(bu s).mp hy
 rw[uJ s h1 h3 h2 h4]
theorem ze(s:cV Q):((bO Q p).map vF).Nodup:=lB (mz s) λx hx y hy e=>by
 obtain⟨a,b,rfl⟩:=bW hx
 obtain⟨c,d,rfl⟩:=bW hy
 have e:b=d:=e
 subst e
 obtain⟨h1,h2⟩:=(bu s).mp hx
 obtain⟨h3,h4⟩:=(bu s).mp hy
 rw[xH s h1 h3 h2 h4]
theorem xM{A B:List Pl}(na:A.Nodup)(l:A.length=B.length)(h:∀x∈A,x∈B):∀x∈B,x∈A:=λx hx=>by
 apply Xk
 intro n
 have:=oz (l:=x::A) (m:=B) (XF.mpr ⟨n,na⟩) (λy hy=>by
  rcases Xj.mp hy with rfl|hy
  ·exact hx
  ·exact h y hy)
 rw[Xz]at this
 omega
theorem Ay(s:cV Q)(bh:Kr Q p){a0 b0:Pl}(h0:[a0,b0]∈bO Q p)(h1:∀x∈(bO Q p).map tH,x∈(bO Q p).map vF)(h2:∀x∈(bO Q p).map vF,x∈(bO Q p).map tH):False:=by
 obtain⟨m,hm,mn⟩:=vA ((bO Q p).map tH) (ZL (XW.mpr ⟨_,h0,rfl⟩))
 obtain⟨w,hw,e1⟩:=XW.mp hm
 obtain⟨v,hv,e2⟩:=XW.mp (h1 m hm)
 obtain⟨a,b,rfl⟩:=bW hw
 obtain⟨c,d,rfl⟩:=bW hv
 have e1:a=m:=e1
 have e2:d=m:=e2
 subst e1
 subst e2
 obtain⟨k1,k2⟩:=(bu s).mp hw
 obtain⟨k3,k4⟩:=(bu s).mp hv
 have fb:aq.f d<aq.f b:=by
  have nb:=mn b (h2 b (XW.mpr ⟨_,hw,rfl⟩))
  have ne:=wM s k1.1 k1.2.1 k1.2.2.1
  have:¬aq.f b<aq.f d:=λz=>nb ((s.f k1.2.1 k1.1).mpr z)
  omega
 have fc:aq.f d<aq.f c:=by
  have nb:=mn c (XW.mpr ⟨_,hv,rfl⟩)
  have ne:=wM s k3.1 k3.2.1 k3.2.2.1
  have:¬aq.f c<aq.f d:=λz=>nb ((s.f k3.1 k3.2.1).mpr z)
  omega
 exact zb fb fc (bh.f s k1.1) (k1.2.2.2 c k3.1).1 k2 k4
theorem Ec(s:cV Q)(bh:Kr Q p){a0 b0:Pl}(h0:[a0,b0]∈bO Q p):(∃a b,(aW Q a b/\tw a b p<0)/\∀c,aW Q c a->0<=tw c a p)/\∃a b,(aW Q a b/\tw a b p<0)/\∀c,aW Q b c->0<=tw b c p:=by
 have lens:((bO Q p).map tH).length=((bO Q p).map vF).length:=by rw[Xi,Xi]
 constructor
 ·apply Xk
  intro no
  have sub:∀x∈(bO Q p).map tH,x∈(bO Q p).map vF:=λx hx=>by
   obtain⟨w,hw,rfl⟩:=XW.mp hx
   obtain⟨a,b,rfl⟩:=bW hw
   apply Xk
   intro n
   refine no ⟨a,b,(bu s).mp hw,λc hc=>Xk λz=>n ?_⟩
   exact XW.mpr ⟨[c,a],(bu s).mpr ⟨hc,by omega⟩,rfl⟩
  exact Ay s bh h0 sub (xM (vG s) lens sub)
 ·apply Xk
  intro no
  have sub:∀x∈(bO Q p).map vF,x∈(bO Q p).map tH:=λx hx=>by
   obtain⟨w,hw,rfl⟩:=XW.mp hx
   obtain⟨a,b,rfl⟩:=bW hw
   apply Xk
   intro n
   refine no ⟨a,b,(bu s).mp hw,λc hc=>Xk λz=>n ?_⟩
   exact XW.mpr ⟨[b,c],(bu s).mpr ⟨hc,by omega⟩,rfl⟩
  exact Ay s bh h0 (xM (ze s) lens.symm sub) sub
noncomputable def Ut(p:Pl)(w:List Pl):List (List Pl):=[[vF w,tH w],[tH w,p],[p,vF w]]
noncomputable def newD(Q:List Pl)(p:Pl):List (List Pl):=(bO Q p).flatMap (Ut p)
theorem fj(s:cV Q){w:List Pl}:w∈newD Q p↔∃a b,(aW Q a b/\tw a b p<0)/\(w=[b,a]\/w=[a,p]\/w=[p,b]):=by
 unfold newD
 rw[Y5]
 constructor
 ·rintro⟨v,hv,hw⟩
  obtain⟨a,b,rfl⟩:=bW hv
  refine⟨a,b,(bu s).mp hv,?_⟩
  have hw:w∈[[b,a],[a,p],[p,b]]:=hw
  simpa using hw
 ·rintro⟨a,b,h,hw⟩
  refine⟨[a,b],(bu s).mpr h,?_⟩
  show w∈[[b,a],[a,p],[p,b]]
  simpa using hw
theorem aR{a b c d:Pl}(h:[a,b]=[c,d]):a=c/\b=d:=by
 injection h with h1 h
 injection h with h2 _
 exact⟨h1,h2⟩
theorem BJ(s:cV (Q++[p])):(newD Q p).Nodup:=by
 have so:=s.old
 have np:∀{x y},aW Q x y->x≠p/\y≠p:=λh=>⟨λz=>s.out (z▸h.1),λz=>s.out (z▸h.2.1)⟩
 unfold newD
 refine List.pairwise_flatMap.mpr ⟨λw hw=>?_,?_⟩
 ·obtain⟨a,b,rfl⟩:=bW hw
  obtain⟨h1,_⟩:=(bu so).mp hw
  obtain⟨n1,n2⟩:=np h1
  show([[b,a],[a,p],[p,b]]:List (List Pl)).Nodup
  simp only[XF,Xj,XR,or_false,not_or,not_false_eq_true,ZH,and_true]
  refine⟨⟨λz=>n1 (aR z).2,λz=>n2 (aR z).1⟩,λz=>n1 (aR z).1⟩
 ·refine(mz so).imp_of_mem λ{w v} hw hv ne x hx y hy e=>?_
  subst e
  obtain⟨a,b,rfl⟩:=bW hw
  obtain⟨c,d,rfl⟩:=bW hv
  obtain⟨h1,h2⟩:=(bu so).mp hw
  obtain⟨h3,h4⟩:=(bu so).mp hv
  obtain⟨n1,n2⟩:=np h1
  obtain⟨n3,n4⟩:=np h3
  have hx:x∈[[b,a],[a,p],[p,b]]:=hx
  have hy:x∈[[d,c],[c,p],[p,d]]:=hy
  simp only[Xj,XR,or_false]at hx hy
  rcases hx with rfl|rfl|rfl
  ·rcases hy with e|e|e
   ·obtain⟨rfl,rfl⟩:=aR e
    exact ne rfl
   ·exact n1 (aR e).2
   ·exact n2 (aR e).1
  ·rcases hy with e|e|e
   ·exact n3 (aR e).2.symm
   ·have e:=(aR e).1
    subst e
    rw[uJ so h1 h3 h2 h4]at ne
    exact ne rfl
   ·exact n1 (aR e).1
  ·rcases hy with e|e|e
   ·exact n4 (aR e).1.symm
   ·exact n3 (aR e).1.symm
   ·have e:=(aR e).2
    subst e
    rw[xH so h1 h3 h2 h4]at ne
    exact ne rfl
structure vH(Q:List Pl)(D:List (List Pl)):Prop where
 nd:D.Nodup
 qX:∀w∈D,∃a b,w=[a,b]/\a∈Q/\b∈Q
 bare:∀a b,[a,b]∈D->[b,a]∉D->aW Q a b
 mC:∀a b,aW Q a b->[b,a]∉D
 has:∀a b,aW Q a b->aW Q b a\/[a,b]∈D
theorem vH.nil{Q:List Pl}(h:Q.length<2):vH Q [] where
 nd:= .nil
 qX:=λw hw=>by cases hw
 bare:=λa b hw=>by cases hw
 mC:=λa b hw=>by simp
 has:=λa b hw=>absurd (nv hw) (by omega)
theorem uL{a b:Pl}(h1:aW Q a b)(h2:aW Q b a):Flat Q:=lg h1.2.2.1 λq hq=>by
 have z1:=(h1.2.2.2 q hq).1
 have z2:=(h2.2.2.2 q hq).1
 have:=bY a b q
 omega
theorem uM(s:cV Q)(fl:Flat Q){a b:Pl}(h:aW Q a b):aW Q b a:=lA s fl h.2.1 h.1 (Ne.symm h.2.2.1) λq hq k=>cT s h hq (fl a h.1 b h.2.1 q hq) (by omega)
theorem vH.step{D D':List (List Pl)}(s:cV (Q++[p]))(c:vH Q D)(e:D'.Perm (D++newD Q p)):vH (Q++[p]) D':=by
 have so:=s.old
 have np:∀{x y},aW Q x y->x≠p/\y≠p:=λh=>⟨λz=>s.out (z▸h.1),λz=>s.out (z▸h.2.1)⟩
 have mem:∀w,w∈D'↔w∈D\/w∈newD Q p:=λw=>by rw[e.mem_iff,XI]
 have pD:∀a b,[a,b]∈D->a∈Q/\b∈Q:=λa b h=>by
  obtain⟨u,v,e,h1,h2⟩:=c.qX _ h
  obtain⟨rfl,rfl⟩:=aR e
  exact⟨h1,h2⟩
 refine⟨?_,?_,?_,?_,?_⟩
 ·refine e.nodup_iff.mpr (YM.mpr ⟨c.nd,BJ s,λw hw v hv z=>?_⟩)
  subst z
  obtain⟨a,b,⟨h1,h2⟩,h3⟩:=(fj so).mp hv
  rcases h3 with rfl|rfl|rfl
  ·exact c.mC a b h1 hw
  ·exact s.out (pD _ _ hw).2
  ·exact s.out (pD _ _ hw).1
 ·intro w hw
  rcases(mem w).mp hw with h|h
  ·obtain⟨a,b,e,h1,h2⟩:=c.qX w h
   exact⟨a,b,e,Xx _ h1,Xx _ h2⟩
  ·obtain⟨a,b,⟨h1,h2⟩,h3⟩:=(fj so).mp h
   have ma:a∈Q++[p]:=Xx _ h1.1
   have mb:b∈Q++[p]:=Xx _ h1.2.1
   have mp:p∈Q++[p]:=by simp
   rcases h3 with rfl|rfl|rfl
   ·exact⟨_,_,rfl,mb,ma⟩
   ·exact⟨_,_,rfl,ma,mp⟩
   ·exact⟨_,_,rfl,mp,mb⟩
 ·intro u v hw hb
  have Si:[v,u]∉D:=λz=>hb ((mem _).mpr (.inl z))
  have QX:[v,u]∉newD Q p:=λz=>hb ((mem _).mpr (.inr z))
  rcases(mem _).mp hw with h|h
  ·have sd:=c.bare u v h Si
   refine(gF s sd.1 sd.2.1).mpr ⟨sd,Xk λz=>QX ?_⟩
   exact(fj so).mpr ⟨u,v,⟨sd,by omega⟩,.inl rfl⟩
  ·obtain⟨a,b,⟨h1,h2⟩,h3⟩:=(fj so).mp h
   rcases h3 with h3|h3|h3
   ·obtain⟨rfl,rfl⟩:=aR h3
    rcases c.has v u h1 with k|k
    ·exact(gF s k.1 k.2.1).mpr ⟨k,by have:=bY v u p;omega⟩
    ·exact absurd k Si
   ·obtain⟨rfl,rfl⟩:=aR h3
    refine rB s h1 h2 λc hc=>Xk λz=>QX ?_
    exact(fj so).mpr ⟨c,u,⟨hc,by omega⟩,.inr (.inr rfl)⟩
   ·obtain⟨rfl,rfl⟩:=aR h3
    refine xJ s h1 h2 λc hc=>Xk λz=>QX ?_
    exact(fj so).mpr ⟨v,c,⟨hc,by omega⟩,.inr (.inl rfl)⟩
 ·intro u v sd hw
  rcases(mem _).mp hw with h|h
  ·obtain⟨mv,mu⟩:=pD _ _ h
   exact c.mC u v ((gF s mu mv).mp sd).1 h
  ·obtain⟨a,b,⟨h1,h2⟩,h3⟩:=(fj so).mp h
   rcases h3 with h3|h3|h3
   ·obtain⟨rfl,rfl⟩:=aR h3
    have:=((gF s h1.1 h1.2.1).mp sd).2
    omega
   ·obtain⟨rfl,rfl⟩:=aR h3
    have:=(sd.2.2.2 b (Xx _ h1.2.1)).1
    have:=D9 v b u
    omega
   ·obtain⟨rfl,rfl⟩:=aR h3
    have:=(sd.2.2.2 a (Xx _ h1.1)).1
    have:=pL a u v
    omega
 ·intro u v sd
  by_cases fl:Flat (Q++[p])
  ·exact .inl (uM s fl sd)
  ·right
   obtain⟨a0,b0,h0,s0⟩:=uK s fl
   obtain⟨⟨a1,b1,k1,Uu⟩,a2,b2,k2,Uv⟩:=Ec so s.zd ((bu so).mpr ⟨h0,s0⟩)
   rcases dj sd.1 with mu|rfl
   ·rcases dj sd.2.1 with mv|rfl
    ·obtain⟨QY,ge⟩:=(gF s mu mv).mp sd
     rcases c.has u v QY with k|k
     ·have fq:=uL QY k
      have nz:tw u v p≠0:=λz=>fl (lg QY.2.2.1 λq hq=>by
       rcases dj hq with hq|rfl
       ·exact fq u mu v mv q hq
       ·exact z)
      exact(mem _).mpr (.inr ((fj so).mpr ⟨v,u,⟨k,by have:=bY u v p;omega⟩,.inl rfl⟩))
     ·exact(mem _).mpr (.inl k)
    ·have:=Eb s sd (rB s k1.1 k1.2 Uu)
     subst this
     exact(mem _).mpr (.inr ((fj so).mpr ⟨u,b1,k1,.inr (.inl rfl)⟩))
   ·have:=Iz s sd (xJ s k2.1 k2.2 Uv)
    subst this
    exact(mem _).mpr (.inr ((fj so).mpr ⟨a2,v,k2,.inr (.inr rfl)⟩))
end
end L3
namespace L3
theorem oE{v w x y:Pl}(h:[v,w].Perm [x,y]):(v=x/\w=y)\/(v=y/\w=x):=by
 have m:v∈[x,y]:=h.mem_iff.mp (by simp)
 simp only[Xj,XR,or_false]at m
 rcases m with rfl|rfl
 ·have:=List.Perm.cons_inv h
  exact .inl ⟨rfl,by simpa using this⟩
 ·have:=List.Perm.cons_inv (h.trans (List.Perm.swap v x []))
  exact .inr ⟨rfl,by simpa using this⟩
theorem GR{a b p:Pl}(h:tw a b p<0):(fS (jI a b p)).Perm [[b,a],[a,p],[p,b]]:=by
 obtain⟨⟨u,v,w,e,_,_,pos⟩,pm⟩:=qS (a:=a) (b:=b) (c:=p) (by omega)
 rw[e]at pm ⊢
 have m:u∈[a,b,p]:=pm.mem_iff.mp (by simp)
 simp only[Xj,XR,or_false]at m
 rcases m with rfl|rfl|rfl
 ·rcases oE (List.Perm.cons_inv pm)with⟨rfl,rfl⟩|⟨rfl,rfl⟩
  ·omega
  ·show([[u,v],[v,w],[w,u]]:List (List Pl)).Perm [[w,u],[u,v],[v,w]]
   exact XX (l₁:=[[u,v],[v,w]]) (l₂:=[[w,u]])
 ·rcases oE (List.Perm.cons_inv (pm.trans (List.Perm.swap u a [p])))with⟨rfl,rfl⟩|⟨rfl,rfl⟩
  ·exact .refl _
  ·have:=pL w u v
   omega
 ·rcases oE (List.Perm.cons_inv (pm.trans (XX (l₁:=[a,b]) (l₂:=[u]))))with⟨rfl,rfl⟩|⟨rfl,rfl⟩
  ·have:=D9 v w u
   omega
  ·show([[u,v],[v,w],[w,u]]:List (List Pl)).Perm [[v,w],[w,u],[u,v]]
   exact XX (l₁:=[[u,v]]) (l₂:=[[v,w],[w,u]])
noncomputable def xN(p:Pl)(w:List Pl):List Pl:=jI (tH w) (vF w) p
noncomputable def tK(qs:List Pl)(k:Nat):Pl:=qs.getD k ⟨0,0⟩
noncomputable def jq(qs:List Pl):Nat->List (List Pl)
 |0=>[]
 |k+1=>jq qs k++(bO (qs.take k) (tK qs k)).map (xN (tK qs k))
theorem Ed(xs ys:List (List Pl)):cH (xs++ys)=cH xs++cH ys:=aaf
theorem uN{α β:Type}{f g:α->List β}:∀{l:List α},(∀x∈l,(f x).Perm (g x))->(l.flatMap f).Perm (l.flatMap g)
 |[],_=> .refl _
 |a::l,h=>by
  rw[YE,YE]
  exact(h a (by simp)).append (uN λx hx=>h x (Xl _ hx))
theorem Ef{Q:List Pl}{p:Pl}(s:cV Q):(cH ((bO Q p).map (xN p))).Perm (newD Q p):=by
 unfold cH newD
 rw[List.flatMap_map]
 refine uN λw hw=>?_
 obtain⟨a,b,rfl⟩:=bW hw
 exact GR ((bu s).mp hw).2
theorem lC{qs:List Pl}{k:Nat}(h:k<qs.length):qs.take (k+1)=qs.take k++[tK qs k]:=by
 rw[YS,Xm h]
 unfold tK
 rw[XE,Xm h]
 rfl
theorem cV.take{qs:List Pl}(s:cV qs)(k:Nat):cV (qs.take k):=⟨s.1.sublist (ZM _ _),λq hq=>s.2 q (Yd hq)⟩
theorem Az{qs:List Pl}(s:cV qs):∀k,k<=qs.length->vH (qs.take k) (cH (jq qs k))
 |0,_=>vH.nil (by simp)
 |k+1,h=>by
  have st:=s.take (k+1)
  rw[lC (by omega)]at st ⊢
  refine vH.step st (Az s k (by omega)) ?_
  show(cH (jq qs k++_)).Perm _
  rw[Ed]
  exact(List.Perm.refl _).append (Ef st.old)
theorem GS{a b p q:Pl}(h:tw a b p<0)(hq:q=a\/q=b\/q=p):q∈jI a b p:=(qS (a:=a) (b:=b) (c:=p) (by omega)).2.mem_iff.mpr (by simpa using hq)
theorem rC{qs:List Pl}(s:cV qs):∀k,k<=qs.length->¬Flat (qs.take k)->∀q∈qs.take k,∃t∈jq qs k,q∈t
 |0,_,nf,_,_=>absurd (mh (by simp)) nf
 |k+1,h,nf,q,hq=>by
  have st:=s.take (k+1)
  rw[lC (by omega)]at st nf hq
  have so:=st.old
  have put:∀a b,aW (qs.take k) a b->tw a b (tK qs k)<0->(q=a\/q=b\/q=tK qs k)->∃t∈jq qs (k+1),q∈t:=λa b h1 h2 e=>
   ⟨xN (tK qs k) [a,b],XN _ (XW.mpr ⟨[a,b],(bu so).mpr ⟨h1,h2⟩,rfl⟩),GS h2 e⟩
  rcases dj hq with hq|rfl
  ·by_cases fl:Flat (qs.take k)
   ·obtain⟨r,hr,ne⟩:∃r∈qs.take k,r≠q:=by
     apply Xk
     intro no
     refine nf (xK ?_)
     have:=oz (l:=qs.take k) (m:=[q]) (so.1.imp λh=>n9 h) (λx hx=>by
      apply Xk
      intro z
      exact no ⟨x,hx,λe=>z (by rw[e];simp)⟩)
     rw[XA]
     simp at this ⊢
     omega
    obtain⟨c,hc,nc,_,NK⟩:=vE so hq hr ne
    have sd:aW (qs.take k) q c:=lA so fl hq hc (Ne.symm nc) λz hz w=>NK z hz w
    have nz:tw q c (tK qs k)≠0:=λz=>nf (lg (Ne.symm nc) λr hr=>by
     rcases dj hr with hr|rfl
     ·exact fl q hq c hc r hr
     ·exact z)
    rcases Yw nz with z|z
    ·exact put q c sd z (.inl rfl)
    ·exact put c q (uM so fl sd) (by have:=bY q c (tK qs k);omega) (.inr (.inl rfl))
   ·obtain⟨t,ht,m⟩:=rC s k (by omega) fl q hq
    exact⟨t,Xx _ ht,m⟩
  ·obtain⟨a,b,h1,h2⟩:=uK st nf
   exact put a b h1 h2 (.inr (.inr rfl))
theorem sub_len{α:Type}[DecidableEq α]{l m:List α}(nd:l.Nodup)(sub:∀x∈l,x∈m):l.length<=m.length:=by
 induction l generalizing m with
 |nil=>simp
 |cons a l ih=>
  obtain⟨h1,h2⟩:=XF.mp nd
  have ma:=sub a (Xu ..)
  have:=ih (m:=m.erase a) h2 λx hx=>(aac (show x≠a from λe=>h1 (e▸hx))).mpr (sub x (Xl _ hx))
  rw[ZV ma]at this
  have:0<m.length:=Z6 ma
  rw[Xz]
  omega
theorem split_len{α:Type}(f:α->Bool):∀l:List α,l.length=(l.filter f).length+(l.filter (λv=>!f v)).length
 |[]=>rfl
 |a::l=>by
  have ih:=split_len f l
  rw[Zt,Zt,Xz]
  cases f a with
  |true=>simp;omega
  |false=>simp;omega
theorem AA{Q:List Pl}{p:Pl}(s:cV (Q++[p])):(SL (Q++[p])).length+(bO Q p).length<=(SL Q).length+2:=by
 have so:=s.old
 obtain⟨I,lI,hI⟩:∃I:List (List Pl),I.length<=1/\∀u,aW (Q++[p]) u p->[u,p]∈I:=by
  by_cases h:∃u,aW (Q++[p]) u p
  ·obtain⟨u,hu⟩:=h
   exact⟨[[u,p]],by simp,λv hv=>by rw[Eb s hv hu];simp⟩
  ·exact⟨[],by simp,λv hv=>absurd ⟨v,hv⟩ h⟩
 obtain⟨O,lO,hO⟩:∃O:List (List Pl),O.length<=1/\∀u,aW (Q++[p]) p u->[p,u]∈O:=by
  by_cases h:∃u,aW (Q++[p]) p u
  ·obtain⟨u,hu⟩:=h
   exact⟨[[p,u]],by simp,λv hv=>by rw[Iz s hv hu];simp⟩
  ·exact⟨[],by simp,λv hv=>absurd ⟨v,hv⟩ h⟩
 have sp:=split_len (A2 p) (SL Q)
 have:=sub_len (l:=SL (Q++[p])) (m:=(SL Q).filter (λv=>!A2 p v)++(I++O)) (kr s) (λw hw=>by
  obtain⟨a,b,rfl⟩:=mw hw
  have sd:=(cC s).mp hw
  rcases dj sd.1 with ma|rfl
  ·rcases dj sd.2.1 with mb|rfl
   ·obtain⟨h1,h2⟩:=(gF s ma mb).mp sd
    refine Xx _ (Xy.mpr ⟨(cC so).mpr h1,?_⟩)
    show(!decide (tw a b p<0))=true
    rw[decide_eq_false (by omega)]
    rfl
   ·exact XN _ (Xx _ (hI a sd))
  ·exact XN _ (XN _ (hO b sd)))
 rw[XA,XA]at this
 unfold bO
 omega
theorem vI{qs:List Pl}(s:cV qs):∀k,k<=qs.length->(jq qs k).length+(SL (qs.take k)).length<=2*k
 |0,_=>by rw[kq (by simp)];simp[jq]
 |k+1,h=>by
  have st:=s.take (k+1)
  have ih:=vI s k (by omega)
  rw[lC (by omega)]at st ⊢
  have:=AA st
  show(jq qs k++_).length+_<=_
  rw[XA,Xi]
  omega
theorem vJ{qs:List Pl}(s:cV qs):∀k,k<=qs.length->∀t∈jq qs k,qc qs t
 |0,_,t,ht=>by cases ht
 |k+1,h,t,ht=>by
  rcases XI.mp ht with ht|ht
  ·exact vJ s k (by omega) t ht
  ·obtain⟨w,hw,rfl⟩:=XW.mp ht
   obtain⟨a,b,rfl⟩:=bW hw
   obtain⟨h1,h2⟩:=(bu (s.take k)).mp hw
   obtain⟨h3,h4⟩:=qS (a:=a) (b:=b) (c:=tK qs k) (by omega)
   refine⟨h3,λq hq=>?_⟩
   have:=h4.mem_iff.mp hq
   simp only[Xj,XR,or_false]at this
   rcases this with rfl|rfl|rfl
   ·exact Yd h1.1
   ·exact Yd h1.2.1
   ·unfold tK
    rw[XE,Xm (by omega)]
    exact YN _
theorem vH.perm{Q:List Pl}{D D':List (List Pl)}(c:vH Q D)(e:D'.Perm D):vH Q D' where
 nd:=e.nodup_iff.mpr c.nd
 qX:=λw hw=>c.qX w (e.mem_iff.mp hw)
 bare:=λa b h1 h2=>c.bare a b (e.mem_iff.mp h1) λz=>h2 (e.mem_iff.mpr z)
 mC:=λa b h1 h2=>c.mC a b h1 (e.mem_iff.mp h2)
 has:=λa b h=>(c.has a b h).imp id λz=>e.mem_iff.mpr z
end L3
namespace L3
noncomputable def Uw(a b c:Pl):Prop:=aU (lo a b) c/\aU c (hi a b)/\tw a b c=0
noncomputable instance(a b c:Pl):Decidable (Uw a b c):=inferInstanceAs (Decidable (_/\_))
noncomputable def Ux(a b c d:Pl):Prop:=(tw a b c).sign*(tw a b d).sign= -1/\(tw c d a).sign*(tw c d b).sign= -1
noncomputable instance(a b c d:Pl):Decidable (Ux a b c d):=inferInstanceAs (Decidable (_/\_))
end L3
namespace L3
open PySem L2
theorem BK{M:Mp}{a b:Addr}{o u:MO}(h:a≠b):au (au M a o) b u=au (au M b u) a o:=by
 funext c
 unfold au
 by_cases h1:c=b
 ·subst h1
  rw[if_pos rfl,if_neg (Ne.symm h),if_pos rfl]
 ·rw[if_neg h1]
  by_cases h2:c=a
  ·subst h2
   rw[if_pos rfl,if_pos rfl]
  ·rw[if_neg h2,if_neg h2,if_neg h1]
theorem Le.put2{M M':Mp}{p:Addr}{o:MO}(h:Le M M'):Le (au M p o) (au M' p o):=λc u e=>by
 unfold au at *
 by_cases k:c=p
 ·rw[if_pos k]at e ⊢;exact e
 ·rw[if_neg k]at e ⊢;exact h _ _ e
theorem xP{ns:List Int}{k m:Int}(hb:∀z∈ns,Att.An z)(h0:0<=k)(hm:0<=m):∃zs:List Int,(∀z∈zs,Att.An z)/\(zs.length:Int)<=m/\zs.length<=ns.length/\cutD (ns.map L3.D.int) (some k) (some (k+m))=zs.map L3.D.int:=by
 obtain⟨i,rfl⟩:∃i:Nat,k=(i:Int):=⟨k.toNat,by omega⟩
 obtain⟨j,rfl⟩:∃j:Nat,m=(j:Int):=⟨m.toNat,by omega⟩
 have e:((i:Int)+(j:Int))=((i+j:Nat):Int):=by omega
 refine⟨(ns.drop (min i ns.length)).take (min (i+j) ns.length-min i ns.length),λz hz=>hb z (Zd (Yd hz)),?_,?_,?_⟩
 ·rw[Yi,Yq]
  omega
 ·rw[Yi,Yq]
  omega
 ·unfold cutD
  rw[e,HT.pY,HT.pY,Xi,ZP,aae]
end L3
namespace PySem.SetTable
noncomputable def QZ:Nat->SetTable->Probe->Probe
 |0,_,p=>p
 |k+1,t,p=>QZ k t (t.advance p)
noncomputable def Ks(mask:Nat):Prop:=mask=7\/mask=31\/mask=127\/mask=511
noncomputable def Good(t:SetTable)(n:Nat):Prop:=t.place.size=n/\t.dummies= #[]/\Ks t.mask/\n*5<t.mask*3
noncomputable def live(mask:Nat)(owner:Array (Option Nat)):List (Nat ×Nat):=(List.range (mask+1)).filterMap λj=>(owner.getD j none).map (j,·)
noncomputable def Own(mask:Nat)(owner:Array (Option Nat))(k:Nat):Prop:=owner.size=mask+1/\(live mask owner).length=k/\∀(j v:Nat),owner[j]?=some (some v)->v<k
end PySem.SetTable
namespace PySem
open SetTable
structure fk(prog:Program)(w:World)(κ:Type) where
 is:Heap->κ->Addr->Prop
 hash:κ->Int
 draws:κ->Nat
 room:Around->Prop
 typ:∀{s:Shared} {k:κ} {a:Addr},is s.heap k a->s.TypeIs (.ref a) "tuple"
 keeps:∀{h h':Heap} {k:κ} {a:Addr},is h k a->(∀b o,h.get? b=some o->o.cls= .type "tuple"->h'.get? b=some o)->is h' k a
 pyHash:∀{A:Around} {E:Value->Shared->Prop} {s:Shared} {k:κ} {a:Addr} {Q:Int->Shared->Prop},room A->is s.heap k a->Q (hash k) {s with toks:=s.toks+draws k}->wpAny (model prog w) A (pyHash (.ref a)) Q E s
 other:∀{A:Around} {E:Value->Shared->Prop} {s:Shared} {k l:κ} {a b:Addr} {Q:Bool->Shared->Prop},room A->is s.heap k a->is s.heap l b->k≠l->Q false s->wpAny (model prog w) A (eqBool (.ref a) (.ref b)) Q E s
 quiet:∀{A:Around} {E:Value->Shared->Prop} {s:Shared} {k:κ} {a:Addr} {Q:Bool->Shared->Prop},is s.heap k a->Q true s->wpAny (model prog w) A (eqIsQuiet 8 (.ref a)) Q E s
 AD:∀{A:Around} {E:Value->Shared->Prop} {s:Shared} {k:κ} {a:Addr} {Q:Bool->Shared->Prop},is s.heap k a->Q false s->wpAny (model prog w) A (ofAClassStatement 8 (.ref a)) Q E s
 IA:∀{A:Around} {E:Value->Shared->Prop} {s:Shared} {k:κ} {a:Addr} {Q:Bool->Shared->Prop},is s.heap k a->Q true s->wpAny (model prog w) A (hashByValue 8 (.ref a)) Q E s
section
variable{prog:Program}{w:World}{κ:Type}{T:fk prog w κ}{A:Around}{E:Value->Shared->Prop}{s:Shared}
end
end PySem
namespace PySem
open SetTable
section
variable{prog:Program}{w:World}{κ:Type}{T:fk prog w κ}{A:Around}{R:Result->Shared->Prop}{I:Addr}{fp wr:List Addr}{G:Array GenState->Array GenState->Prop}{n:Nat}{P:Nat->Value->Prop}{St:Nat->Shared->Prop}
end
section
variable{prog:Program}{w:World}{κ:Type}{T:fk prog w κ}{A:Around}{E:Value->Shared->Prop}{s:Shared}
end
end PySem
namespace PySem
open SetTable
section
variable{prog:Program}{w:World}{A:Around}{E:Value->Shared->Prop}{s:Shared}
end
end PySem
namespace L3
open PySem PySem.Spec PyProof.Rows L2
section
variable{X:Cx}{pos:Pos}
end
end L3
namespace PySem
open SetTable
section
variable(prog:Program)(w:World)
inductive b9(h:Heap):List (List Int)->List Value->Prop
 |nil:b9 h [] []
 |cons {k:List Int} {b:Addr} {ks:List (List Int)} {vs:List Value}:IsTupleKey (intKind prog w) h k b->b9 h ks vs->b9 h (k::ks) (.ref b::vs)
noncomputable def dm(h:Heap)(ks:List (List Int))(a:Addr):Prop:= ∃o items n,h.get? a=some o/\o.cls= .type "tuple"/\o.data= .seq items n/\b9 prog w h ks items.toList
end
section
variable{prog:Program}{w:World}
theorem dm.typ{s:Shared}{ks:List (List Int)}{a:Addr}(x:dm prog w s.heap ks a):s.TypeIs (.ref a) "tuple" :=let ⟨o,_,_,ho,hc,_⟩:=x;⟨o,ho,hc⟩
variable{A:Around}{E:Value->Shared->Prop}{s:Shared}
noncomputable def zf(ks:List (List Int)):Nat:=(ks.map λk=>k.length+1).sum+1
noncomputable def Eg(prog:Program)(w:World)(ks:List (List Int)):Int:=reduceHash (Builtin.Tuple.tupleHashOf (ks.map (tupleKeyHash (intKind prog w))))
theorem BL{ks:List (List Int)}{a:Addr}{Q:Int->Shared->Prop}(hu:A.units+8<cLine)(hk:dm prog w s.heap ks a)(h:Q (Eg prog w ks) {s with toks:=s.toks+zf ks}) :
 wpAny (model prog w) A (pyHash (.ref a)) Q E s:=by
 have hT:=hk.typ
 obtain⟨o,items,n,ho,_,hd,hi⟩:=hk
 unfold pyHash pyHashByItsType
 refine wpAny_bind (wpAny_cRoomFor_or (.inr (by omega)) ?_)
 refine wpAny_bind (wpAny_specialOf hT F.slot_tuple_hash.lookup ?_)
 refine(?_:wpAny _ _ (if(some (Value.builtin "tuple.__hash__")==some Value.none)=true then _ else _) Q E s)
 rw[if_neg (by rw[beq_builtin_none];exact Xv)]
 refine wpAny_bind (wpAny_specialOf hT F.slot_tuple_hash.lookup ?_)
 refine(?_:wpAny _ _ (callSpecialIfBoundUnlessNone? (.ref a) "__hash__" _ >>= _) Q E s)
 refine wpAny_bind (wpAny_callSpecialIfBoundUnlessNone?_slot hT F.slot_tuple_hash (wpAny_call_entry F.slot_tuple_hash hT F.entry_tuple_hash ?_ (F.args_tuple_hash_1 _)))
 refine(?_:wpAny _ _ (Builtin.Tuple.tupleItemsOf (.ref a) >>= _) _ _ s)
 refine wpAny_bind (wpAny_tupleItemsOf ho hd (wpAny_bind ?_))
 rw[<-Array.forIn_toList]
 refine wpAny_forIn_list _ (λrest (b:Array Int) s'=>∃done left,ks=done++left/\b9 prog w s.heap left rest/\b.toList=done.map (tupleKeyHash (intKind prog w))/\s'= {s with toks:=s.toks+(done.map λk=>k.length+1).sum}) _ ?_ ?_ _ _ ⟨[],ks,rfl,hi,rfl,rfl⟩
 ·rintro x rest b s' ⟨done,left,rfl,hl,hb,rfl⟩
  cases hl with
  |@cons k c ks' _ h1 hl'=>
   refine wpAny_bind (wpAny_pyHash_tuple (s:={s with toks:=s.toks+(done.map λk=>k.length+1).sum}) (by show A.units+1<cLine;omega) h1 ?_)
   have fin:∃Eh IB,done++k::ks'=Eh++IB/\b9 prog w s.heap IB rest/\(b.push (tupleKeyHash (intKind prog w) k)).toList=Eh.map (tupleKeyHash (intKind prog w))/\
    ({s with toks:=s.toks+(done.map λk=>k.length+1).sum+(k.length+1)}:Shared)= {s with toks:=s.toks+(Eh.map λk=>k.length+1).sum}:=
    ⟨done++[k],ks',by simp,hl',by simp[hb],by simp[aag]⟩
   first
    |exact wpAny_pure fin
    |exact wpAny_bind (wpAny_pure (wpAny_pure fin))
 ·rintro b s' ⟨done,left,rfl,hl,hb,rfl⟩
  cases hl
  rw[XS]at h
  refine(?_:wpAny _ _ (retInt (Builtin.Tuple.tupleHashOf b.toList)) _ _ _)
  rw[hb]
  refine wpAny_ret_mkInt ?_
  unfold Eg reduceHash zf at h
  generalize Builtin.Tuple.tupleHashOf (done.map (tupleKeyHash (intKind prog w)))=z at h ⊢
  refine(?_:wpAny _ _ (if(decide (-(2:Int) ^ 63<=z) && decide (z<2 ^ 63))=true then _ else _) Q E _)
  by_cases c:(decide (-(2:Int) ^ 63<=z) && decide (z<2 ^ 63))=true
  ·rw[if_pos c]at h ⊢
   exact wpAny_pure (by simpa[aag]using h)
  ·rw[if_neg c]at h ⊢
   exact wpAny_bind (wpAny_rule (wpAny_pure (by simpa[aag]using h)))
theorem xQ{x y:List (List Int)}{a b:Addr}{P:Fin->Shared->Prop}(hu:A.units+4<cLine)(hx:dm prog w s.heap x a)(hy:dm prog w s.heap y b)(h:P (.done (.ret (.bool (decide (x=y))))) s) :
 wpAny (model prog w) A (Builtin.«tuple.__eq__» ⟨[.ref a,.ref b],[]⟩) P E s:=by
 have hTb:=hy.typ
 obtain⟨oa,xs,na,hoa,_,hda,Uy⟩:=hx
 obtain⟨ob,ys,nb,hob,_,hdb,hib⟩:=hy
 refine(?_:wpAny _ _ (isInstance (.ref b) (.type "tuple") >>= _) _ _ s)
 refine wpAny_bind (wpAny_isInstance hTb isSubtype_tuple_tuple ?_)
 simp only[Yo,Xs,if_false]
 refine wpAny_bind (wpAny_tupleItemsOf hoa hda (wpAny_bind (wpAny_tupleItemsOf hob hdb (wpAny_bind ?_))))
 refine wpAny_forIn_list _ (λrest r s'=>r.1=none/\s'=s/\∃x' y' us vs,rest=List.zip us vs/\b9 prog w s.heap x' us/\b9 prog w s.heap y' vs/\decide (x'=y')=decide (x=y)/\(us.length==vs.length)=(xs.size==ys.size)) _ ?_ ?_ _ _ ⟨rfl,rfl,x,y,xs.toList,ys.toList,rfl,Uy,hib,rfl,by simp⟩
 ·rintro⟨u,v⟩ rest r s' ⟨hr,rfl,x',y',us,vs,hz,hx',hy',GU,hlen⟩
  cases hx' with
  |nil=>simp at hz
  |@cons k1 c1 Sj us' h1 Q2=>
   cases hy' with
   |nil=>simp at hz
   |@cons k2 c2 Sk vs' h2 Q3=>
    simp only[Yv,List.cons.injEq,Prod.mk.injEq]at hz
    obtain⟨⟨rfl,rfl⟩,rfl⟩:=hz
    refine wpAny_bind (wpAny_eqBool_tuple (by omega) h1 h2 ?_)
    by_cases hk:k1=k2
    ·subst hk
     rw[decide_eq_true rfl]
     simp only[Yo,Xs,if_false]
     refine wpAny_pure ⟨rfl,rfl,Sj,Sk,us',vs',rfl,Q2,Q3,?_,by simpa using hlen⟩
     rw[<-GU]
     by_cases c:Sj=Sk<;>simp[c]
    ·rw[decide_eq_false hk]
     simp only[YQ,if_true]
     rw[show decide (x=y)=false by rw[<-GU];simp[hk]]at h
     exact wpAny_bind (wpAny_pure (wpAny_pure (wpAny_pure h)))
 ·rintro⟨r1,r2⟩ s' ⟨hr,rfl,x',y',us,vs,hz,hx',hy',GU,hlen⟩
  simp only at hr
  subst hr
  refine wpAny_pure ?_
  have Q4:(xs.size==ys.size)=decide (x=y):=by
   rw[<-GU,<-hlen]
   cases hx' with
   |nil=>cases hy'<;>simp
   |cons _ _=>
    cases hy' with
    |nil=>simp
    |cons _ _=>simp at hz
  refine(?_:P (.done (.ret (.bool (xs.size==ys.size)))) s')
  rw[Q4]
  exact h
theorem b9.inj{h:Heap}{x y:List (List Int)}{vs:List Value}(hx:b9 prog w h x vs)(hy:b9 prog w h y vs):x=y:=by
 induction hx generalizing y with
 |nil=>cases hy;rfl
 |cons h1 _ ih=>
  cases hy with
  |cons h2 t2=>rw[h1.inj h2,ih t2]
theorem dm.inj{h:Heap}{a:Addr}{x y:List (List Int)}(hx:dm prog w h x a)(hy:dm prog w h y a):x=y:=by
 obtain⟨o,items,n,ho,_,hd,hi⟩:=hx
 obtain⟨o',items',n',ho',_,hd',hi'⟩:=hy
 rw[ho]at ho'
 cases ho'
 rw[hd]at hd'
 injection hd' with h1 _
 subst h1
 exact hi.inj hi'
theorem Ku{x y:List (List Int)}{a b:Addr}{Q:Bool->Shared->Prop}(hu:A.units+8<cLine)(hx:dm prog w s.heap x a)(hy:dm prog w s.heap y b)(ne:x≠y)(h:Q false s) :
 wpAny (model prog w) A (eqBool (.ref a) (.ref b)) Q E s:=by
 unfold eqBool
 try with_reducible refine wpAny_holding ?_
 refine(?_:wpAny _ _ (if(Value.ref a==Value.ref b)=true then _ else _) Q E s)
 by_cases hab:(Value.ref a==Value.ref b)=true
 ·have e:a=b:=by have:=eq_of_beq hab;injection this
  subst e
  exact absurd (hx.inj hy) ne
 ·rw[if_neg hab]
  exact wpAny_bind (wpAny_richCompare_same_room (op:= .Eq) hx.typ hy.typ F.slot_tuple_eq
   (wpAny_call_entry F.slot_tuple_eq hx.typ F.entry_tuple_eq (xQ (by show A.units+1+4<cLine;omega) hx hy (by rw[decide_eq_false ne];exact⟨_,rfl,(λe=>nomatch e),wpAny_truthy_bool h⟩)) (F.args_tuple_eq_2 _ _)) (by omega))
theorem Ei(d:Nat){k:List Int}{a:Addr}{Q:Bool->Shared->Prop}(hx:IsTupleKey (intKind prog w) s.heap k a)(q:Q true s):wpAny (model prog w) A (eqIsQuiet (d+1) (.ref a)) Q E s:=by
 have hT:=hx.typeIs
 obtain⟨o,items,n,ho,_,hd,hi⟩:=hx
 unfold eqIsQuiet
 refine wpAny_bind (wpAny_specialOf hT F.slot_tuple_eq.lookup ?_)
 refine(?_:wpAny _ _ (isInstance (.ref a) (.type "tuple") >>= _) _ _ s)
 refine wpAny_bind (wpAny_isInstance hT isSubtype_tuple_tuple ?_)
 simp only[Yo,Xs,if_false]
 refine wpAny_bind (wpAny_seqItems ho hd (wpAny_bind ?_))
 refine(?_:wpAny _ _ (forIn items _ _) _ _ s)
 rw[<-Array.forIn_toList]
 refine wpAny_forIn_list _ (λrest r s'=>r.1=none/\s'=s/\∀v∈rest,carriedByValue v=true) _ ?_ ?_ _ _ ⟨rfl,rfl,hi.byValue⟩
 ·rintro v rest r s' ⟨hr,rfl,hall⟩
  rw[eqIsQuiet_byValue _ (hall v Xu)]
  refine wpAny_bind (wpAny_pure ?_)
  simp only[Yo,Xs,if_false]
  exact wpAny_pure ⟨rfl,rfl,λu wN=>hall u (Xl _ wN)⟩
 ·rintro⟨r1,r2⟩ s' ⟨hr,rfl,_⟩
  simp only at hr
  subst hr
  exact wpAny_pure q
theorem b9.all{h:Heap}{x:List (List Int)}{vs:List Value}(hx:b9 prog w h x vs):∀v∈vs,∃b k,v= .ref b/\IsTupleKey (intKind prog w) h k b:=by
 induction hx with
 |nil=>intro v hv;cases hv
 |cons h1 _ ih=>
  intro v hv
  rcases Xj.mp hv with rfl|hv
  ·exact⟨_,_,rfl,h1⟩
  ·exact ih v hv
theorem Kv{k:List (List Int)}{a:Addr}{Q:Bool->Shared->Prop}(hx:dm prog w s.heap k a)(q:Q true s):wpAny (model prog w) A (eqIsQuiet 8 (.ref a)) Q E s:=by
 have hT:=hx.typ
 obtain⟨o,items,n,ho,_,hd,hi⟩:=hx
 unfold eqIsQuiet
 refine wpAny_bind (wpAny_specialOf hT F.slot_tuple_eq.lookup ?_)
 refine(?_:wpAny _ _ (isInstance (.ref a) (.type "tuple") >>= _) _ _ s)
 refine wpAny_bind (wpAny_isInstance hT isSubtype_tuple_tuple ?_)
 simp only[Yo,Xs,if_false]
 refine wpAny_bind (wpAny_seqItems ho hd (wpAny_bind ?_))
 refine(?_:wpAny _ _ (forIn items _ _) _ _ s)
 rw[<-Array.forIn_toList]
 refine wpAny_forIn_list _ (λrest r s'=>r.1=none/\s'=s/\∀v∈rest,∃b k,v=Value.ref b/\IsTupleKey (intKind prog w) s.heap k b) _ ?_ ?_ _ _ ⟨rfl,rfl,hi.all⟩
 ·rintro v rest r s' ⟨hr,rfl,hall⟩
  obtain⟨b,k,rfl,hb⟩:=hall v Xu
  refine wpAny_bind (Ei 6 hb ?_)
  simp only[Yo,Xs,if_false]
  exact wpAny_pure ⟨rfl,rfl,λu wN=>hall u (Xl _ wN)⟩
 ·rintro⟨r1,r2⟩ s' ⟨hr,rfl,_⟩
  simp only at hr
  subst hr
  exact wpAny_pure q
end
end PySem
namespace L3
open PySem PySem.Spec PyProof.Rows L2
noncomputable def cN(w:List Pl):List (List Int):=w.map λp=>[p.x,p.y]
theorem xR:∀{w v:List Pl},cN w=cN v->w=v
 |[],[],_=>rfl
 |[],_::_,h=>by cases h
 |_::_,[],h=>by cases h
 |p::w,q::v,h=>by
  injection h with h1 h2
  injection h1 with h3 h1
  injection h1 with h4 _
  rw[xR h2]
  cases p;cases q
  simp only at h3 h4
  rw[h3,h4]
section
variable{X:Cx}{pos:Pos}
end
end L3
namespace PySem.SetTable
noncomputable def NL(xs:Array Nat):Prop:= ∀(i j a b:Nat),i<j->xs[i]?=some a->xs[j]?=some b->a<b
noncomputable def Uz(t:SetTable)(j:Nat):Prop:= ∃i:Nat,t.place[i]?=some j
noncomputable def Way(t:SetTable)(UA:Nat->Prop)(h:Int)(j:Nat):Prop:= ∃K,K<10*turns t.mask/\(QZ K t (t.probeStart h)).j=j/\∀m,m<K->UA (QZ m t (t.probeStart h)).j
structure Reach(t:SetTable)(es:Array (Int ×Value)):Prop where
 rise:NL t.place
 at_:∀(i:Nat) (e:Int ×Value),es[i]?=some e->∃j,t.place[i]?=some j/\Way t (Uz t) e.1 j
noncomputable def Q5(owner:Array (Option Nat))(x:Nat):Prop:= ∃v,owner[x]?=some (some v)
structure Laid(t:SetTable)(owner:Array (Option Nat))(done:List Int):Prop where
 own:Own t.mask owner done.length
 way:∀(j v:Nat),owner[j]?=some (some v)->∃h,done[v]?=some h/\Way t (Q5 owner) h j
 all:∀v,v<done.length->∃j:Nat,owner[j]?=some (some v)
end PySem.SetTable
namespace PySem
open SetTable
structure OT{prog:Program}{w:World}{κ:Type}(T:fk prog w κ):Prop where
 same:∀{A:Around} {E:Value->Shared->Prop} {s:Shared} {k:κ} {a b:Addr} {Q:Bool->Shared->Prop},T.room A->T.is s.heap k a->T.is s.heap k b->Q true s->wpAny (model prog w) A (eqBool (.ref a) (.ref b)) Q E s
section
variable{prog:Program}{w:World}{κ:Type}{T:fk prog w κ}{A:Around}{E:Value->Shared->Prop}{s:Shared}
end
end PySem
namespace PySem
open SetTable
section
variable{prog:Program}{w:World}{κ:Type}{T:fk prog w κ}{A:Around}{R:Result->Shared->Prop}{I:Addr}{fp wr:List Addr}{G:Array GenState->Array GenState->Prop}{n:Nat}{P:Nat->Value->Prop}{St:Nat->Shared->Prop}
end
section
variable{prog:Program}{w:World}{κ:Type}{T:fk prog w κ}{A:Around}{E:Value->Shared->Prop}{s:Shared}
end
end PySem
namespace PySem
open SetTable
namespace F
end F
structure UB(w:World)(h:Heap)(S:Addr)(es:Array (Int ×Value))(ep:Nat)(t:SetTable):Prop where
 at':∃o,h.get? S=some o/\o.ExactSet/\o.data= .set es ep t
 good:t.Good es.size
 rise:NL t.place
 led:t.led=!(w.params.followText "set-order")
 plain:t.plain=true
section
variable{prog:Program}{w:World}{A:Around}{E:Value->Shared->Prop}{s:Shared}{I S:Addr}{es:Array (Int ×Value)}{ep slot i:Nat}{t:SetTable}
end
end PySem
namespace PySem
open SetTable
section
variable{prog:Program}{w:World}{A:Around}{E:Value->Shared->Prop}{s:Shared}{S:Addr}{es:Array (Int ×Value)}{ep:Nat}{t:SetTable}
end
end PySem
namespace PySem
open SetTable
noncomputable def fk.only{prog:Program}{w:World}{κ:Type}(T:fk prog w κ)(p:Addr->Prop):fk prog w κ where
 is:=λh k b=>T.is h k b/\p b
 hash:=T.hash
 draws:=T.draws
 room:=T.room
 typ:=λx=>T.typ x.1
 keeps:=λx k=>⟨T.keeps x.1 k,x.2⟩
 pyHash:=λhu hk h=>T.pyHash hu hk.1 h
 other:=λhu hx hy ne h=>T.other hu hx.1 hy.1 ne h
 quiet:=λhk h=>T.quiet hk.1 h
 AD:=λhk h=>T.AD hk.1 h
 IA:=λhk h=>T.IA hk.1 h
theorem NN{prog:Program}{w:World}{A:Around}{E:Value->Shared->Prop}{s:Shared}{x:List (List Int)}{a b:Addr}{Q:Bool->Shared->Prop}(hu:A.units+8<cLine)(hx:dm prog w s.heap x a)(hy:dm prog w s.heap x b)(h:Q true s) :
 wpAny (model prog w) A (eqBool (.ref a) (.ref b)) Q E s:=by
 unfold eqBool
 try with_reducible refine wpAny_holding ?_
 refine(?_:wpAny _ _ (if(Value.ref a==Value.ref b)=true then _ else _) Q E s)
 by_cases hab:(Value.ref a==Value.ref b)=true
 ·rw[if_pos hab]
  exact(wpAny_pure h:wpAny (model prog w) A (pure true) Q E s)
 ·rw[if_neg hab]
  exact wpAny_bind (wpAny_richCompare_same_room (op:= .Eq) hx.typ hy.typ F.slot_tuple_eq
   (wpAny_call_entry F.slot_tuple_eq hx.typ F.entry_tuple_eq (xQ (by show A.units+1+4<cLine;omega) hx hy (by rw[decide_eq_true rfl];exact⟨_,rfl,(λe=>nomatch e),wpAny_truthy_bool h⟩)) (F.args_tuple_eq_2 _ _)) (by omega))
end PySem
namespace L3
open PySem PySem.Spec PyProof.Rows L2
end L3
namespace L3
open PySem PySem.Spec PyProof.Rows L2
section
variable{X:Cx}{pos:Pos}
end
end L3
namespace PySem
theorem b9.Kw{prog:Program}{w:World}{h h':Heap}{ks:List (List Int)}{vs:List Value}{d:Addr}{o:Obj}{es:Array DictEntry}{ep:Nat}(x:b9 prog w h ks vs)(ho:h.get? d=some o)(hd:o.data= .dict es ep)(hs:Heap.SameBut d h h'):b9 prog w h' ks vs:=by
 induction x with
 |nil=>exact .nil
 |cons a _ ih=>exact .cons (a.keeps ho hd hs) ih
noncomputable def ku(prog:Program)(w:World):HeapKind prog w (List (List Int)) where
 is:=dm prog w
 hash:=Eg prog w
 draws:=zf
 room:=λA=>A.units+8<cLine
 inj:=λhx hy=>hx.inj hy
 keeps:=λ{h h' k a d o es ep} x ho hd hs=>by
  obtain⟨o',items,n,ho',hc,hd',hi⟩:=x
  have hne:a≠d:=by
   rintro rfl
   obtain rfl:o'=o:=Option.some.inj (ho'.symm.trans ho)
   rw[hd]at hd';exact nomatch hd'
  exact⟨o',items,n,(hs.2 a hne).trans ho',hc,hd',hi.Kw ho hd hs⟩
 pyHash:=λhu hk h=>BL hu hk h
 eqBool:=λ{A E s x y a b Q} hu hx hy h=>by
  by_cases e:x=y
  ·subst e
   rw[decide_eq_true rfl]at h
   exact NN hu hx hy h
  ·rw[decide_eq_false e]at h
   exact Ku hu hx hy e h
 quiet:=λhk h=>Kv hk h
noncomputable def AE{prog:Program}{w:World}{K:Type}[DecidableEq K](knd:HeapKind prog w K)(h:Heap)(d:Addr)(xs:List (K ×Addr ×Value)):Prop:= ∃o es,h.get? d=some o/\o.ExactDict/\o.data= .dict es xs.length/\es.toList=xs.map (entryOfKey knd)
theorem Ej{prog:Program}{w:World}{K:Type}[DecidableEq K]{knd:HeapKind prog w K}{A:Around}{E:Value->Shared->Prop}{s:Shared}{d a:Addr}{k:K}{v:Value}{xs:List (K ×Addr ×Value)}{Q:Unit->Shared->Prop}(hu:knd.room A)(hkey:knd.is s.heap k a)(hl:AE knd s.heap d xs)(hm:s.heap.DictOfH knd d xs)(hsz:xs.length<=sizeLine)
 (q:∀h',AE knd h' d (storedH xs k a v)->Heap.SameBut d s.heap h'->Q () {s with heap:=h',toks:=s.toks+knd.draws k}):wpAny (model prog w) A (dictSet d (.ref a) v) Q E s:=by
 obtain⟨_,_,_,_,_,_,_,his,hn⟩:=hm
 obtain⟨o,es,ho,hc,hd,he⟩:=hl
 unfold dictSet
 try with_reducible refine wpAny_holding ?_
 refine wpAny_bind (knd.pyHash hu hkey ?_)
 unfold dictSetHashed
 try with_reducible refine wpAny_holding ?_
 refine wpAny_bind (wpAny_dictFind_heap (s:={s with toks:=s.toks+knd.draws k}) hu hkey ho hd he his hn (λno=>?_) λj p hj=>?_)
 ·have e:=storedH_new (atKey_none_of_get no) a v
  have el:xs.length+1=(storedH xs k a v).length:=by rw[e,XA];rfl
  refine wpAny_bind (wpAny_rule (wpAny_updateDictKeys (hz:=by have e:=size_of_entries he;omega) (s:={s with toks:=s.toks+knd.draws k}) ho hd (q _ ⟨_,_,Heap.get?_update_self _ ho (Obj.isFreed_of_dict (Obj.data_mapDictKeys hd _)),hc.mapDictKeys _,(Obj.data_mapDictKeys hd _).trans (congrArg (λn=>Data.dict _ n) el),?_⟩ (Heap.SameBut.update ..))))
  rw[e]
  simp[he,entryOfKey]
 ·have e:=storedH_old (atKey_of_get hn hj) a v
  have el:xs.length=(storedH xs k a v).length:=by rw[e,Xi]
  refine wpAny_bind (wpAny_rule (wpAny_bind (wpAny_updateDict (s:={s with toks:=s.toks+knd.draws k}) ho hd (wpAny_point (q _ ⟨_,_,Heap.get?_update_self _ ho (Obj.isFreed_of_dict (Obj.data_mapDict hd _)),hc.mapDict _,(Obj.data_mapDict hd _).trans (congrArg (λn=>Data.dict _ n) el),?_⟩ (Heap.SameBut.update ..))))))
  rw[e]
  have:=modify_map_putAt (entryOfKey knd) (λe:DictEntry=>{e with val:=v}) k v (λ_ _=>rfl) hn hj
  rw[<-he]at this
  obtain⟨l⟩:=es
  simpa using this
theorem xS{prog:Program}{w:World}{K:Type}[DecidableEq K]{knd:HeapKind prog w K}{A:Around}{E:Value->Shared->Prop}{s:Shared}{d a:Addr}{k:K}{v:Value}{xs:List (K ×Addr ×Value)}{Q:Unit->Shared->Prop}(hu:knd.room A.in1)(hkey:knd.is s.heap k a)(hl:AE knd s.heap d xs)(hm:s.heap.DictOfH knd d xs)(hsz:xs.length<=sizeLine)
 (q:∀h',AE knd h' d (storedH xs k a v)->Heap.SameBut d s.heap h'->Q () {s with heap:=h',toks:=s.toks+knd.draws k}):wpAny (model prog w) A (setItem (.ref d) (.ref a) v) Q E s:=by
 unfold setItem
 try with_reducible refine wpAny_holding ?_
 refine wpAny_bind (wpAny_sequenceKey hm.typeIs (by decide) (wpAny_bind (wpAny_callSpecial?_slot (name:=Str.ofString "__setitem__") hm.typeIs slot_dict_setitem (wpAny_call_entry slot_dict_setitem hm.typeIs entry_dict_setitem ?_ (args_dict_setitem _ _ _)))))
 show wpAny _ _ (Builtin.Dict.notOrdered "__setitem__" ⟨[.ref d,.ref a,v],[]⟩ >>= _) _ _ s
 refine wpAny_bind (wpAny_notOrdered_dict hm.typeIs ?_)
 show wpAny _ _ (dictSet d (.ref a) v >>= _) _ _ s
 exact wpAny_bind (Ej hu hkey hl hm hsz λh' l m=>wpAny_pure ⟨.none,rfl,wpAny_pure (q h' l m)⟩)
theorem rD{prog:Program}{w:World}{K:Type}[DecidableEq K]{knd:HeapKind prog w K}{A:Around}{E:Value->Shared->Prop}{s:Shared}{d a:Addr}{k:K}{xs:List (K ×Addr ×Value)}{Q:Value->Shared->Prop}(hu:knd.room A.in1)(hkey:knd.is s.heap k a)(hd:(d==sysModules)=false)(hm:s.heap.DictOfH knd d xs)
 (h:Q (.bool (!(atKey xs k).isSome)) {s with toks:=s.toks+knd.draws k}):wpAny (model prog w) A (compareOp .NotIn (.ref a) (.ref d)) Q E s:=by
 show wpAny _ _ (do return .bool (!(<-contains (.ref d) (.ref a)))) Q E s
 refine wpAny_bind ?_
 unfold contains
 try with_reducible refine wpAny_holding ?_
 refine wpAny_bind (wpAny_specialOf hm.typeIs slot_dict_contains.lookup ?_)
 show wpAny _ _ (if(some (Value.builtin "dict.__contains__")==some Value.none)=true then _ else _) _ E s
 rw[if_neg (by rw[beq_builtin_none];exact Xv)]
 refine wpAny_bind (wpAny_callSpecialUnlessNone?_slot (name:=Str.ofString "__contains__") hm.typeIs slot_dict_contains
  (wpAny_call_entry slot_dict_contains hm.typeIs entry_dict_contains ?_ (args_dict_contains _ _)))
 show wpAny _ _ (dictGet d (.ref a) >>= _) _ _ s
 refine wpAny_bind (wpAny_dictGet_heap hu hkey hm ?_)
 cases hf:atKey xs k with
 |some p=>
  rw[hf]at h
  show wpAny _ _ (ret (.bool true)) _ _ _
  exact wpAny_pure ⟨_,rfl,wpAny_truthy_bool (wpAny_pure h)⟩
 |none=>
  rw[hf]at h
  show wpAny _ _ (Builtin.Dict.pendingKey? d (.ref a) >>= _) _ _ _
  exact wpAny_bind (wpAny_pendingKey_other hd (wpAny_pure ⟨_,rfl,wpAny_truthy_bool (wpAny_pure h)⟩))
end PySem
namespace L3
open PySem PySem.Spec PyProof.Rows L2
noncomputable def bq(kvs:List (List (List Int) ×D))(k:List (List Int)):Option D:=(kvs.find? λp=>decide (p.1=k)).map (·.2)
noncomputable def jK(kvs:List (List (List Int) ×D))(k:List (List Int))(d:D):List (List (List Int) ×D):=if(bq kvs k).isSome then kvs.map λp=>if p.1=k then(p.1,d)else p else kvs++[(k,d)]
theorem Ek{P:Program}{w:World}{K:PySem.W.Frag}{H:Hp}{h:Heap}(ok:gY P w H h){l:List Int}{v:V}{u:Value}(d:Dat K H (.tup (l.map .int)) v)(r:RelV v u):∃b,u= .ref b/\IsTupleKey (intKind P w) h l b:=by
 obtain⟨a,xs,rfl,ha,hx⟩:=aM.mp d
 obtain rfl:u=Value.ref a:=r
 obtain⟨its,rv,⟨o,h1,h2,n,h3⟩,hsz⟩:=di ok ha
 refine⟨a,rfl,o,its.toArray,n,h1,h2,h3,?_⟩
 rw[Y3]
 clear h3 h2 h1 ha d hsz
 induction l generalizing xs its with
 |nil=>
  rw[aF.mp hx]at rv
  cases rv
  exact .nil
 |cons i l ih=>
  obtain⟨v,vs,rfl,d1,d2⟩:=az.mp hx
  cases rv with
  |cons r1 r2=>
   obtain rfl:=aJ.mp d1
   obtain⟨t,rfl⟩:=r1
   exact .cons (intKind_is _ _ _ _) (ih _ d2 _ r2)
theorem vK{P:Program}{w:World}{K:PySem.W.Frag}{H:Hp}{h:Heap}(ok:gY P w H h){k:List (List Int)}{b:Addr}(d:Dat K H (kD k) (.ref b)):dm P w h k b:=by
 obtain⟨a,xs,e,ha,hx⟩:=aM.mp d
 cases e
 obtain⟨its,rv,⟨o,h1,h2,n,h3⟩,hsz⟩:=di ok ha
 refine⟨o,its.toArray,n,h1,h2,h3,?_⟩
 rw[Y3]
 clear h3 h2 h1 ha d hsz
 induction k generalizing xs its with
 |nil=>
  rw[show([]:List (List Int)).map (λl=>D.tup (l.map .int))=[]from rfl]at hx
  rw[aF.mp hx]at rv
  cases rv
  exact .nil
 |cons l k ih=>
  rw[XQ]at hx
  obtain⟨v,vs,rfl,d1,d2⟩:=az.mp hx
  cases rv with
  |cons r1 r2=>
   obtain⟨b,rfl,q⟩:=Ek ok d1 r1
   exact .cons q (ih _ d2 _ r2)
theorem rE{α β:Type}{F:α->β->Prop}:∀{l₁:List α} {l₂:List β},Paired F l₁ l₂->∀y∈l₂,∃x∈l₁,F x y
 |_,_,.nil,y,m=>by cases m
 |_,_,.cons r t,y,m=>by
  rcases Xj.mp m with rfl|m
  ·exact⟨_,Xu,r⟩
  ·obtain⟨x,m1,q⟩:=rE t y m
   exact⟨x,Xl _ m1,q⟩
theorem rF{α β:Type}{F:α->β->Prop}:∀{l₁:List α} {l₂:List β},Paired F l₁ l₂->l₁.length=l₂.length
 |_,_,.nil=>rfl
 |_,_,.cons _ t=>by simp[rF t]
theorem zg{P:Program}{w:World}{K:PySem.W.Frag}{H:Hp}{h:Heap}(ok:gY P w H h){a:Addr}{xs:DX}{kvs:List (List (List Int) ×D)}(hH:H a=some (.ext (nT a xs)))(nd:(xs.map (·.1)).Nodup)(pk:Paired (lG K H) kvs xs):h.DictOfH (ku P w) a xs:=by
 obtain⟨⟨o,es,h1,h2,h3,h4⟩,_⟩:=(show bI P w H h a (.ext (nT a xs))from ok a _ hH)
 refine⟨o,es,_,h1,h2,h3,h4,λx m=>?_,nd⟩
 obtain⟨p,_,e,q,_⟩:=rE pk x m
 rw[<-e]
 exact vK ok q
theorem nB{K:PySem.W.Frag}{H:Hp}(k:List (List Int)):∀{kvs:List (List (List Int) ×D)} {xs:DX},Paired (lG K H) kvs xs->(bq kvs k=none/\atKey xs k=none)\/∃d p v,bq kvs k=some d/\atKey xs k=some p/\Dat K H d v/\RelV v p.2
 |_,_,.nil=> .inl ⟨rfl,rfl⟩
 |_,_,.cons (a:=p) (b:=x) r t=>by
  obtain⟨e,_,v,dv,rv⟩:=r
  unfold bq atKey
  rw[Yl,Yl,<-e]
  by_cases c:p.1=k
  ·rw[decide_eq_true c]
   exact .inr ⟨p.2,x.2,v,rfl,rfl,dv,rv⟩
  ·rw[decide_eq_false c]
   exact nB k t
theorem El{K:PySem.W.Frag}{H:Hp}{k:List (List Int)}{a:Addr}{d:D}{v:V}{u:Value}(hk:Dat K H (kD k) (.ref a))(hd:Dat K H d v)(r:RelV v u){kvs:List (List (List Int) ×D)}{xs:DX}(pk:Paired (lG K H) kvs xs):Paired (lG K H) (jK kvs k d) (storedH xs k a u):=by
 have app:∀{l₁:List (List (List Int) ×D)} {l₂:DX},Paired (lG K H) l₁ l₂->Paired (lG K H) (l₁++[(k,d)]) (l₂++[(k,a,u)]):=by
  intro l₁ l₂ p
  induction p with
  |nil=>exact .cons ⟨rfl,hk,v,hd,r⟩ .nil
  |cons q _ ih=>exact .cons q ih
 have rep:∀{l₁:List (List (List Int) ×D)} {l₂:DX},Paired (lG K H) l₁ l₂->Paired (lG K H) (l₁.map λp=>if p.1=k then(p.1,d)else p) (l₂.map (putAt k u)):=by
  intro l₁ l₂ p
  induction p with
  |nil=>exact .nil
  |@cons p x _ _ q _ ih=>
   refine .cons ?_ ih
   obtain⟨e,q1,q2⟩:=q
   unfold putAt
   dsimp only
   rw[<-e]
   by_cases c:p.1=k
   ·rw[if_pos c,if_pos c]
    exact⟨rfl,q1,v,hd,r⟩
   ·rw[if_neg c,if_neg c]
    exact⟨e,q1,q2⟩
 unfold jK
 rcases nB k pk with⟨h1,h2⟩|⟨z,p,_,h1,h2,_⟩
 ·rw[h1,storedH_new h2]
  exact app pk
 ·rw[h1,storedH_old h2]
  exact rep pk
section
variable{X:Cx}{pos:Pos}{a b:Expr}{ta tb:cG}
theorem GV{pins:List (Addr ×Obj)}{σ:St}{H:Hp}{s:Shared}(I:Inv X pins σ H s):sysModules<s.heap.objs.size:=Nat.lt_trans (show sysModules<mainGlobals by decide) (I.mod.glob.keeps I.bk).lt
noncomputable def Kx:cG:=λ_ M Q=> ∀p,M p=none->Q (.ref p) (au M p (.mL []))
theorem Ky:bZ X (.Dict [] [] pos) Kx:=by
 constructor
 intro pins s σ H ρ M Q I r h
 have fr:H s.heap.objs.size=none:=I.hok.fresh (Xn _)
 refine wpAny_Dict_empty ⟨.ref s.heap.objs.size,_,I.laid (a:=s.heap.objs.size) (o:= .ext (nT s.heap.objs.size [])) (t':=s.toks) (λ_ _ q=>Heap.get?_push_of_some _ q) (Xn _) ⟨⟨_,#[],Heap.get?_push_size _ rfl,⟨rfl,rfl,rfl⟩,rfl,rfl⟩,⟨_,Heap.get?_push_size _ rfl⟩,?_⟩,rfl,.ref _,au M _ (.mL []),Fr.new fr λ_ hb=>aT hb,aH.mpr rfl,r.mem.newD fr (beq_eq_false_iff_ne.mpr (Ne.symm (XG (GV I)))),h _ (r.mem.free fr)⟩
 rintro h1 h2 ⟨o,es,e,q⟩ k
 exact⟨o,es,k o e,q⟩
noncomputable def Kz(neg:Bool):R3:=λd e M Q=>∃a k kvs,d=kD k/\e= .ref a/\M a=some (.mL kvs)/\Q (.bl (neg !=(bq kvs k).isSome)) M
theorem vL{K:PySem.W.Frag}{H:Hp}{k:List (List Int)}{v:V}(d:Dat K H (kD k) v):∃b,v= .ref b:=by
 obtain⟨b,_,e,_⟩:=aM.mp d
 exact⟨b,e⟩
theorem rG(hu:X.A.units+64<cLine):lN X (compareOp .NotIn) (Kz true):=by
 constructor
 intro pins s σ H M x y d e v u Q I rm rx ry dx dy ⟨a,k,kvs,e1,e2,hM,q⟩
 subst e1;subst e2
 obtain⟨b,rfl⟩:=vL dx
 obtain rfl:=aH.mp dy
 obtain rfl:v=Value.ref b:=rx
 obtain rfl:u=Value.ref a:=ry
 obtain⟨xs,hH,hy,nd,pk⟩:=rm.mL hM
 refine rD (knd:=ku X.prog X.w) (by show X.A.units+1+8<cLine;omega) (vK I.hok dx) hy (zg I.hok hH nd pk) ⟨.bl _,H,I.tok _,rfl,aC rm (aS.mpr rfl) ?_⟩
 rcases nB k pk with⟨h1,h2⟩|⟨_,p,_,h1,h2,_⟩
 ·rw[h2];rw[h1]at q;exact q
 ·rw[h2];rw[h1]at q;exact q
noncomputable def NO(K:PySem.W.Frag):R2:=λx y H Q=>∃(a b:Addr) (xs:DX) (kvs:List (List (List Int) ×D)) (k:List (List Int)) (p:Addr ×Value) (v:V),x= .ref a/\y= .ref b/\H a=some (.ext (nT a xs))/\(xs.map (·.1)).Nodup/\Paired (lG K H) kvs xs/\Dat K H (kD k) (.ref b)/\atKey xs k=some p/\RelV v p.2/\Q v H
theorem KA(hu:X.A.units+64<cLine):HW X (NO X.K):=by
 intro value slice pins s σ H x y v u Q I rx ry hx hs
 obtain⟨a,b,xs,kvs,k,p,z,e1,e2,hH,nd,pk,dk,hp,rz,q⟩:=hx
 subst e1;subst e2
 obtain rfl:v=Value.ref a:=rx
 obtain rfl:u=Value.ref b:=ry
 have dd:=zg I.hok hH nd pk
 exact subscriptTail_builtinR (x:=p.2) dd.typeIs slot_dict_getitem.lookup
  (wpAny_getItem_heap (knd:=ku X.prog X.w) (Q:=λr s'=>r=p.2/\EP X pins σ Q r s') (by show X.A.units+1+8<cLine;omega) (vK I.hok dk) dd hp ⟨rfl,z,H,I.tok _,rz,q⟩) hs
noncomputable def NP:R3:=λd e M Q=>∃a k kvs z,d= .ref a/\e=kD k/\M a=some (.mL kvs)/\bq kvs k=some z/\Q z M
theorem AG(hu:X.A.units+64<cLine)(ha:bZ X a ta)(hb:bZ X b tb)(hs:u5 b:=by intro _ _;rfl):bZ X (.Subscript a b pos) (CV NP ta tb):=up (HX (KA hu) ha.dn hb.dn hs) λσ H ρ M Q r q=>
 cJ r q λv H' d M' f dv r' q=>cJ r' q λu H2 e M2 f2 du r2 ⟨l,k,kvs,z,e1,e2,hM,g,q2⟩=>by
  subst e1;subst e2
  obtain rfl:=aH.mp dv
  obtain⟨b,rfl⟩:=vL du
  obtain⟨xs,hH,hy,nd,pk⟩:=r2.mem.mL hM
  rcases nB k pk with⟨h1,h2⟩|⟨z',p,v,h1,h2,dz,rz⟩
  ·rw[h1]at g;cases g
  ·rw[g]at h1
   cases h1
   exact⟨l,b,xs,kvs,k,p,v,rfl,rfl,hH,nd,pk,du,h2,rz,z,M2,f.trans f2,dz,r2.mem,q2⟩
noncomputable def NQ(K:PySem.W.Frag):FA:=λx y v H Q=>∃(a b:Addr) (xs:DX) (kvs:List (List (List Int) ×D)) (k:List (List Int)),x= .ref a/\y= .ref b/\H a=some (.ext (nT a xs))/\(xs.map (·.1)).Nodup/\Paired (lG K H) kvs xs/\Dat K H (kD k) (.ref b)/\xs.length<=sizeLine/\
 ∀u,RelV v u->((storedH xs k b u).map (·.1)).Nodup->Q (upd H a (.ext (nT a (storedH xs k b u))))
theorem GW(hu:X.A.units+64<cLine):LZ X (NQ X.K):=by
 intro pins s σ H o i v ov iv u Q I ro ri rv hx
 obtain⟨a,b,xs,kvs,k,e1,e2,hH,nd,pk,dk,hz,q⟩:=hx
 subst e1;subst e2
 obtain rfl:ov=Value.ref a:=ro
 obtain rfl:iv=Value.ref b:=ri
 have dd:=zg I.hok hH nd pk
 obtain⟨dl,_⟩:=(show bI X.prog X.w H s.heap a (.ext (nT a xs))from I.hok a _ hH)
 have Q6:((storedH xs k b u).map (·.1)).Nodup:=by
  unfold storedH
  split
  ·rw[keys_map_putAt];exact nd
  ·rename_i z
   rw[XD,YM]
   refine⟨nd,by simp,λx hx y hy e=>?_⟩
   have ey:y=k:=by simpa using hy
   obtain⟨p,hp,ep⟩:=XW.mp hx
   have:atKey xs k≠none:=by
    unfold atKey
    intro n
    rw[Option.map_eq_none_iff,List.find?_eq_none]at n
    exact n p hp (by simp[ep,e,ey])
   exact this (by simpa using z)
 refine xS (knd:=ku X.prog X.w) (by show X.A.units+1+8<cLine;omega) (vK I.hok dk) dl dd hz λh' UC hs=>?_
 obtain⟨o,es,g1,g2,g3,g4⟩:=UC
 refine⟨_,I.write (x:=a) (e:=a) (o:= .ext (nT a (storedH xs k b u))) (t':=s.toks+(ku X.prog X.w).draws k) (by rw[hH];trivial) (.inl rfl) (λc z nc e=>(hs.2 c nc).trans e) ⟨o,g1⟩ ⟨⟨o,es,g1,g2,g3,g4⟩,⟨o,g1⟩,?_⟩,q u rv Q6⟩
 rintro h1 h2 ⟨o,es,e,q⟩ k
 exact⟨o,es,k o e,q⟩
noncomputable def NR(to ti:cG):wJ:=λd ρ M Q=>to ρ M λo M1=>ti ρ M1 λi M2=>∃l kvs k,o= .ref l/\i=kD k/\M2 l=some (.mL kvs)/\kvs.length<=1000/\Q ρ (au M2 l (.mL (jK kvs k d)))
theorem KC(hu:X.A.units+64<cLine){o i:Expr}{to ti:cG}{pos:Pos}(ho:bZ X o to)(hi:bZ X i ti)
 (ha:∀v,assign (.Subscript o i pos) X.env v=(do
  let ov <-holding [v] (eval o X.env)
  let iv <-holding [v,ov] (eval i X.env)
  standAt pos
  holding [v,ov,iv] (setItem ov iv v)
  release [v,ov,iv] []):=by intro _;rfl):Fg X (.Subscript o i pos) (NR to ti):=by
 constructor
 intro pins s σ H ρ M v d u Q I r rv dv q
 refine Jh ho.dn hi.dn (GW hu) ha pins s σ H v u _ I rv (cJ r q λx H1 d1 M1 f1 dx r1 q1=>cJ r1 q1 λy H2 d2 M2 f2 dy r2 ⟨l,kvs,k,e1,e2,hM,hz,q2⟩=>?_)
 subst e1 e2
 obtain rfl:=aH.mp dx
 obtain⟨b,rfl⟩:=vL dy
 obtain⟨xs,hH,hy,nd,pk⟩:=r2.mem.mL hM
 have MI:=Dat.mono ((f1.trans f2).ext r.mem) _ _ dv
 have Bj:=f1.trans f2
 refine⟨l,b,xs,kvs,k,rfl,rfl,hH,nd,pk,dy,by rw[<-rF pk,sizeLine_eq];omega,λu' ru Q6=>?_⟩
 have fw:Fr M2 H2 (au M2 l (.mL (jK kvs k d))) (upd H2 l (.ext (nT l (storedH xs k b u')))):=Fr.write (K:=X.K) hM
 exact⟨ρ,_,Bj.trans fw,r2.go fw (r2.mem.ve hH hy Q6 (El dy MI ru pk)),q2⟩
end
end L3
namespace L3
open PySem PySem.Spec PyProof.Rows L2
section
variable{X:Cx}
end
end L3
namespace L3
open PySem PySem.Spec PyProof.Rows L2
section
variable{X:Cx}
noncomputable def KD:R3:=λd e M Q=>∃xs ys,d= .tup xs/\e= .tup ys/\xs≠[]/\ys≠[]/\xs.length+ys.length<=sizeLine/\Q (.tup (xs++ys)) M
theorem KG:lN X (binaryOp .Add) KD:=JI FT λH M x y d e Q rm dx dy ⟨xs,ys,e1,e2,nx,ny,hz,q⟩=>by
 subst e1;subst e2
 obtain⟨a,zs,rfl,h1,h2⟩:=aM.mp dx
 obtain⟨b,ws,rfl,h3,h4⟩:=aM.mp dy
 have l1:=h2.length
 have l2:=h4.length
 refine⟨a,b,zs,ws,rfl,rfl,nS.of h1,nS.of h3,λz=>nx (ZZ.mp (by rw[l1,z];rfl)),by omega,λz=>absurd (ZZ.mp (by rw[l2,z];rfl)) ny,λ_ p hp=>⟨.tup (xs++ys),M,Fr.new hp λ_ _=>rfl,aM.mpr ⟨p,zs++ws,rfl,aY,aB.mono (Ext.new hp) _ _ (h2.append h4)⟩,rm.new hp,q⟩⟩
end
end L3
namespace HT
open PySem PyProof.Rows
open PySem.SeqAt
open PySem.AutoSeq1 (wpAny_loadPart')
open PySem.MeetsSeq PySem.MeetsSeq2 PySem.MeetsSeq3
end HT
namespace L3
open PySem PySem.Spec PyProof.Rows L2
section
variable{X:Cx}
noncomputable def Q7:R3:=λd e M Q=>∃p q:Pl,d=p.d/\e=q.d/\Q (.bl (decide (aU q p))) M
theorem NS(hu:X.A.units+64<cLine):lN X (compareOp .Gt) Q7:=by
 constructor
 intro pins s σ H M x y d e v u Q I rm rx ry dx dy ⟨p,q,e1,e2,k⟩
 subst e1 e2
 obtain⟨l1,i1,rfl,t1,n1⟩:=(vh I.hok dx rx).tup
 obtain⟨l2,i2,rfl,t2,n2⟩:=(vh I.hok dy ry).tup
 refine HT.qK t1 t2 n1 n2 (by omega) ⟨.bl (decide (aU q p)),H,I,?_,aC rm (aS.mpr rfl) k⟩
 rw[p9]
 rfl
end
end L3
namespace L3
structure Pt where
 X:Int
 Y:Int
 N:Int
noncomputable def hw(a b:Pl)(x:Pt):Int:=(b.x-a.x)*(x.Y-x.N*a.y)-(b.y-a.y)*(x.X-x.N*a.x)
noncomputable def vM(w:Way)(a:Pl)(x:Pt):Int:=x.N*w.f a-(w.al*x.X+w.be*x.Y)
theorem qd(a b:Pl)(x:Pt):hw b a x= -hw a b x:=by unfold hw;grind
theorem KH(a b c:Pl)(x:Pt):hw a b x+hw b c x+hw c a x=x.N*tw a b c:=by unfold hw tw;grind
theorem KJ(w:Way)(a b c:Pl)(x:Pt):hw b c x*vM w a x+hw c a x*vM w b x+hw a b x*vM w c x=0:=by unfold hw vM Way.f;grind
noncomputable def OU(w:Way)(x:Pt)(a b:Pl):Int:=if vM w a x<=0/\0<vM w b x/\0<hw a b x then 1 else 0
noncomputable def wn(w:Way)(x:Pt)(a b:Pl):Int:=OU w x a b-OU w x b a
theorem GX(w:Way)(x:Pt)(a b:Pl):wn w x b a= -wn w x a b:=by unfold wn;omega
theorem NT:∀A B C a a' b b' c c':Bool,(a && a')=false->(b && b')=false->(c && c')=false->(A && B && C)=false->(a || a' || (b || b') || (c || c'))=true->
 (((!A && a) || (A && a')) || ((!B && b) || (B && b')) || ((!C && c) || (C && c')))=(((!A && a') || (A && a)) || ((!B && b') || (B && b)) || ((!C && c') || (C && c)))->
 ((if(!a && b && !C)=true then(1:Int)else 0)-(if(!b && a && C)=true then 1 else 0))+((if(!b && c && !A)=true then 1 else 0)-(if(!c && b && A)=true then 1 else 0))+((if(!c && a && !B)=true then 1 else 0)-(if(!a && c && B)=true then 1 else 0))=if(!C && !A && !B)=true then(1:Int)else 0:=by decide +kernel
theorem uO(A α:Int)(h:A≠0):((!decide (A<0) && decide (0<α)) || (decide (A<0) && decide (α<0)))=decide (0<A*α)/\((!decide (A<0) && decide (α<0)) || (decide (A<0) && decide (0<α)))=decide (A*α<0):=by
 rcases YZ α 0 with z|z|z<;>rcases Zk h with y|y
 ·have:=YA y z
  rw[decide_eq_true y,decide_eq_true z,decide_eq_true this,decide_eq_false (show¬0<α by omega),decide_eq_false (show¬A*α<0 by omega)]
  decide
 ·have:=X8 y z
  rw[decide_eq_false (show¬A<0 by omega),decide_eq_true z,decide_eq_true this,decide_eq_false (show¬0<α by omega),decide_eq_false (show¬0<A*α by omega)]
  decide
 ·subst z;rw[Ye];simp
 ·subst z;rw[Ye];simp
 ·have:=YB y z
  rw[decide_eq_true y,decide_eq_true z,decide_eq_true this,decide_eq_false (show¬α<0 by omega),decide_eq_false (show¬0<A*α by omega)]
  decide
 ·have:=YJ y z
  rw[decide_eq_false (show¬A<0 by omega),decide_eq_true z,decide_eq_true this,decide_eq_false (show¬α<0 by omega),decide_eq_false (show¬A*α<0 by omega)]
  decide
theorem rH{p q:Prop}[Decidable p][Decidable q](h:p↔q):(if p then(1:Int)else 0)=if q then 1 else 0:=by
 by_cases k:p
 ·rw[if_pos k,if_pos (h.mp k)]
 ·rw[if_neg k,if_neg (λz=>k (h.mpr z))]
theorem Em(x:Int):(decide (0<x) && decide (x<0))=false:=by
 by_cases h:0<x
 ·rw[decide_eq_false (show¬x<0 by omega),aaa]
 ·rw[decide_eq_false h,ZG]
theorem Eo(x:Int):(decide (0<x) || decide (x<0))=!decide (x=0):=by
 rcases YZ x 0 with h|h|h
 ·rw[decide_eq_true h,decide_eq_false (show¬x=0 by omega),aap];rfl
 ·subst h;rfl
 ·rw[decide_eq_true h,decide_eq_false (show¬x=0 by omega),Bool.true_or];rfl
theorem Ep(α β C:Int)(h:C≠0):(α<=0/\0<β/\0<C)↔(!decide (0<α) && decide (0<β) && !decide (C<0))=true:=by
 simp only[X3,YF,decide_eq_true_eq,decide_eq_false_iff_not];omega
theorem Er(α β C:Int):(α<=0/\0<β/\C<0)↔(!decide (0<α) && decide (0<β) && decide (C<0))=true:=by
 simp only[X3,YF,decide_eq_true_eq,decide_eq_false_iff_not];omega
theorem NU(A B C:Int)(hA:A≠0)(hB:B≠0)(hC:C≠0):(0<C/\0<A/\0<B)↔(!decide (C<0) && !decide (A<0) && !decide (B<0))=true:=by
 simp only[X3,YF,decide_eq_false_iff_not];omega
theorem NV(P Q R:Int)(e:P+Q+R=0):(decide (0<P) || decide (0<Q) || decide (0<R))=(decide (P<0) || decide (Q<0) || decide (R<0)):=by
 rw[Yk]
 simp only[Bool.or_eq_true,decide_eq_true_eq];omega
theorem NW(A B C:Int)(h:0<A+B+C):(decide (A<0) && decide (B<0) && decide (C<0))=false:=by
 rw[ZS]
 intro z
 simp only[X3,decide_eq_true_eq]at z;omega
theorem six{A B C α β γ S:Int}(hA:A≠0)(hB:B≠0)(hC:C≠0)(hS:0<S)(s:A+B+C=S)(e:A*α+B*β+C*γ=0)(d:¬(α=0/\β=0/\γ=0)) :
 ((if α<=0/\0<β/\0<C then 1 else 0)-(if β<=0/\0<α/\C<0 then 1 else 0))+((if β<=0/\0<γ/\0<A then 1 else 0)-(if γ<=0/\0<β/\A<0 then 1 else 0))+((if γ<=0/\0<α/\0<B then 1 else 0)-(if α<=0/\0<γ/\B<0 then 1 else 0))=if 0<C/\0<A/\0<B then(1:Int)else 0:=by
 rw[rH (Ep α β C hC),rH (Er β α C),rH (Ep β γ A hA),rH (Er γ β A),rH (Ep γ α B hB),rH (Er α γ B),rH (NU A B C hA hB hC)]
 refine NT _ _ _ _ (decide (α<0)) _ (decide (β<0)) _ (decide (γ<0)) (Em α) (Em β) (Em γ) (NW A B C (by rw[s];exact hS)) ?_ ?_
 ·rw[Eo,Eo,Eo]
  rw[<-Bool.not_and,<-Bool.not_and,YF,ZS]
  intro z
  simp only[X3,decide_eq_true_eq]at z
  exact d ⟨z.1.1,z.1.2,z.2⟩
 ·rw[(uO A α hA).1,(uO B β hB).1,(uO C γ hC).1,(uO A α hA).2,(uO B β hB).2,(uO C γ hC).2]
  exact NV _ _ _ e
theorem KL{w:Way}{x:Pt}{a b c:Pl}(hN:0<x.N)(t:0<tw a b c)(f:w.f a≠w.f b)(h1:hw a b x≠0)(h2:hw b c x≠0)(h3:hw c a x≠0) :
 wn w x a b+wn w x b c+wn w x c a=if 0<hw a b x/\0<hw b c x/\0<hw c a x then 1 else 0:=by
 have s:hw b c x+hw c a x+hw a b x=x.N*tw a b c:=by rw[<-KH a b c x];omega
 have k:=six (α:=vM w a x) (β:=vM w b x) (γ:=vM w c x) h2 h3 h1 (YJ hN t) s (KJ w a b c x) (λ⟨z1,z2,_⟩=>f (by
  have:x.N*w.f a=x.N*w.f b:=by unfold vM at z1 z2;omega
  exact Int.eq_of_mul_eq_mul_left (by omega) this))
 have f1:=qd a b x
 have f2:=qd b c x
 have f3:=qd c a x
 have e1:(0<hw b a x)=(hw a b x<0):=by rw[f1];exact propext ⟨λ_=>by omega,λ_=>by omega⟩
 have e2:(0<hw c b x)=(hw b c x<0):=by rw[f2];exact propext ⟨λ_=>by omega,λ_=>by omega⟩
 have e3:(0<hw a c x)=(hw c a x<0):=by rw[f3];exact propext ⟨λ_=>by omega,λ_=>by omega⟩
 unfold wn OU
 simp only[e1,e2,e3]
 exact k
end L3
namespace L3
noncomputable def sz(g:List Pl->Int):List (List Pl)->Int
 |[]=>0
 |d::r=>g d+sz g r
theorem Es(g:List Pl->Int):∀a b:List (List Pl),sz g (a++b)=sz g a+sz g b
 |[],b=>by simp[sz]
 |d::r,b=>by show g d+sz g (r++b)=g d+sz g r+sz g b;rw[Es g r b];omega
theorem AH(g:List Pl->Int){a b:List (List Pl)}(h:a.Perm b):sz g a=sz g b:=by
 induction h with
 |nil=>rfl
 |cons x _ ih=>show g x+_=g x+_;rw[ih]
 |swap x y l=>show g y+(g x+sz g l)=g x+(g y+sz g l);omega
 |trans _ _ i j=>rw[i,j]
theorem Et{g:List Pl->Int}{f:List Pl->List Pl}:∀{l:List (List Pl)},(∀d∈l,g (f d)= -g d)->sz g (l.map f)= -sz g l
 |[],_=>rfl
 |d::r,h=>by
  show g (f d)+sz g (r.map f)= -(g d+sz g r)
  rw[Et λx hx=>h x (Xl _ hx),h d (by simp)]
  omega
theorem AI(g:List Pl->Int)(f:List Pl->Bool):∀l:List (List Pl),sz g l=sz g (l.filter f)+sz g (l.filter λv=>!f v)
 |[]=>rfl
 |d::r=>by
  have ih:=AI g f r
  cases q:f d
  ·rw[Y6 (by simp[q]),Z0 (by simp[q])]
   show g d+sz g r=_+(g d+sz g _)
   omega
  ·rw[Z0 (by simp[q]),Y6 (by simp[q])]
   show g d+sz g r=g d+sz g _+_
   omega
noncomputable def wL(w:Way)(x:Pt):List Pl->Int
 |[a,b]=>wn w x a b
 |_=>0
noncomputable def bk:List Pl->List Pl
 |[a,b]=>[b,a]
 |l=>l
theorem KN:∀{u v:List Pl},bk u=bk v->u=v:=by
 have key:∀u,bk (bk u)=u:=λu=>by
  match u with
  |[]=>rfl
  |[_]=>rfl
  |[_,_]=>rfl
  |_::_::_::_=>rfl
 intro u v h
 rw[<-key u,h,key v]
theorem oF{α:Type}[DecidableEq α]{a b:List α}(na:a.Nodup)(nb:b.Nodup)(h:∀x,x∈a↔x∈b):a.Perm b:=(List.perm_ext_iff_of_nodup na nb).mpr h
theorem GY{D:List (List Pl)}(nd:D.Nodup)(two:∀d∈D,∃a b,d=[a,b]){g:List Pl->Int}(hg:∀a b,g [b,a]= -g [a,b]):sz g D=sz g (D.filter λd=>!decide (bk d∈D)):=by
 rw[AI g (λd=>decide (bk d∈D)) D]
 have z:sz g (D.filter λd=>decide (bk d∈D))=0:=by
  have n1:(D.filter λd=>decide (bk d∈D)).Nodup:=nd.filter _
  have n2:((D.filter λd=>decide (bk d∈D)).map bk).Nodup:=lB n1 λu _ v _ e=>KN e
  have p:=oF n1 n2 λd=>by
   rw[Xy,XW]
   constructor
   ·rintro⟨h1,h2⟩
    obtain⟨a,b,rfl⟩:=two d h1
    exact⟨[b,a],Xy.mpr ⟨of_decide_eq_true h2,decide_eq_true h1⟩,rfl⟩
   ·rintro⟨e,he,rfl⟩
    obtain⟨h1,h2⟩:=Xy.mp he
    obtain⟨a,b,rfl⟩:=two e h1
    exact⟨of_decide_eq_true h2,decide_eq_true h1⟩
  have e1:=AH g p
  rw[Et (f:=bk) λd hd=>by
   obtain⟨a,b,rfl⟩:=two d (Xy.mp hd).1
   exact hg a b]at e1
  omega
 rw[z]
 omega
theorem vH.NX{Q:List Pl}{D:List (List Pl)}(s:cV Q)(nf:¬Flat Q)(c:vH Q D):(D.filter λd=>!decide (bk d∈D)).Perm (SL Q):=by
 refine oF (c.nd.filter _) (kr s) λd=>?_
 rw[Xy]
 constructor
 ·rintro⟨h1,h2⟩
  obtain⟨a,b,rfl,_,_⟩:=c.qX d h1
  refine(cC s).mpr (c.bare a b h1 λz=>?_)
  rw[YF]at h2
  exact of_decide_eq_false h2 z
 ·intro h
  obtain⟨a,b,rfl⟩:=mw h
  have h:=(cC s).mp h
  refine⟨(c.has a b h).resolve_left λz=>nf (uL h z),?_⟩
  rw[YF]
  exact decide_eq_false (c.mC a b h)
theorem KO{Q:List Pl}{D:List (List Pl)}(s:cV Q)(nf:¬Flat Q)(c:vH Q D){g:List Pl->Int}(hg:∀a b,g [b,a]= -g [a,b]):sz g D=sz g (SL Q):=by
 rw[GY c.nd (λd hd=>let ⟨a,b,e,_⟩:=c.qX d hd;⟨a,b,e⟩) hg]
 exact AH g (c.NX s nf)
theorem AJ{Q:List Pl}(s:cV Q){a b c d:Pl}(h1:aW Q a b)(h2:aW Q c d)(ab:aq.f a<aq.f b)(cb:aq.f c<aq.f b)(cd:aq.f c<aq.f d)(ac:aq.f a<=aq.f c):a=c/\b=d:=by
 have q1:=(h1.2.2.2 c h2.1).1
 have q2:=(h1.2.2.2 d h2.2.1).1
 have q3:=(h2.2.2.2 a h1.1).1
 have q4:=(h2.2.2.2 b h1.2.1).1
 have e1:=rq aq d b a c
 have r1:tw c b a= -tw a b c:=by unfold tw;grind
 rw[r1]at e1
 have m1:0<=(aq.f b-aq.f c)*tw c d a:=XY (by omega) q3
 have m2:(aq.f d-aq.f c)* -tw a b c<=0:=Yh (by omega) (by omega)
 have m3:(aq.f a-aq.f c)*tw c d b<=0:=XM (by omega) q4
 have z1:(aq.f d-aq.f c)* -tw a b c=0:=by omega
 have z2:tw a b c=0:=by
  rcases Yu.mp z1 with z|z<;>omega
 have UD:aq.f a=aq.f c:=by
  have:=cT s h1 h2.1 z2
  omega
 obtain rfl:a=c:=s.inj h1.1 h2.1 UD
 refine⟨rfl,?_⟩
 have r2:=uI a b d
 have z3:tw a b d=0:=by omega
 have b1:=cT s h1 h2.2.1 z3
 have b2:=cT s h2 h1.2.1 (by omega)
 exact s.inj h1.2.1 h2.2.1 (by omega)
theorem KP{Q:List Pl}(s:cV Q){x:Pt}{a b c d:Pl}(h1:aW Q a b)(h2:aW Q c d)(k1:vM aq a x<=0)(k2:0<vM aq b x)(k3:vM aq c x<=0)(k4:0<vM aq d x)(hN:0<x.N):a=c/\b=d:=by
 have lt:∀{u v:Pl},vM aq u x<=0->0<vM aq v x->aq.f u<aq.f v:=λ{u v} i j=>by
  unfold vM at i j
  have:x.N*aq.f u<x.N*aq.f v:=by omega
  exact Int.lt_of_mul_lt_mul_left this (by omega)
 rcases Z1 (aq.f a) (aq.f c)with z|z
 ·exact AJ s h1 h2 (lt k1 k2) (lt k3 k2) (lt k3 k4) z
 ·obtain⟨e1,e2⟩:=AJ s h2 h1 (lt k3 k4) (lt k1 k4) (lt k1 k2) z
  exact⟨e1.symm,e2.symm⟩
theorem uP{g:List Pl->Int}:∀{l:List (List Pl)},l.Nodup->(∀d∈l,g d<=1)->(∀d∈l,∀e∈l,0<g d->0<g e->d=e)->sz g l<=1
 |[],_,_,_=>by simp[sz]
 |d::r,n,h1,h2=>by
  obtain⟨n1,n2⟩:=XF.mp n
  show g d+sz g r<=1
  by_cases z:0<g d
  ·have k:∀{l:List (List Pl)},(∀e∈l,g e<=0)->sz g l<=0:=λ{l} hl=>by
    induction l with
    |nil=>simp[sz]
    |cons e l ih=>
     have:=ih λx hx=>hl x (Xl _ hx)
     have:=hl e (by simp)
     show g e+sz g l<=0
     omega
   have:=k (l:=r) λe he=>by
    apply Xk
    intro y
    have:=h2 d (by simp) e (Xl _ he) z (by omega)
    exact n1 (this▸he)
   have:=h1 d (by simp)
   omega
  ·have:=uP n2 (λe he=>h1 e (Xl _ he)) (λe he u hu=>h2 e (Xl _ he) u (Xl _ hu))
   omega
theorem Eu(w:Way)(x:Pt)(a b:Pl):wn w x a b<=1/\(0<wn w x a b->vM w a x<=0/\0<vM w b x):=by
 unfold wn OU
 split<;>rename_i h1<;>split<;>rename_i h2
 ·exact⟨by omega,λ_=>⟨h1.1,h1.2.1⟩⟩
 ·exact⟨by omega,λ_=>⟨h1.1,h1.2.1⟩⟩
 ·exact⟨by omega,λz=>by omega⟩
 ·exact⟨by omega,λz=>by omega⟩
theorem GZ{Q:List Pl}(s:cV Q){x:Pt}(hN:0<x.N):sz (wL aq x) (SL Q)<=1:=by
 refine uP (kr s) (λd hd=>?_) λd hd e he k1 k2=>?_
 ·obtain⟨a,b,rfl⟩:=mw hd
  exact(Eu aq x a b).1
 ·obtain⟨a,b,rfl⟩:=mw hd
  obtain⟨u,v,rfl⟩:=mw he
  obtain⟨i1,i2⟩:=(Eu aq x a b).2 k1
  obtain⟨j1,j2⟩:=(Eu aq x u v).2 k2
  obtain⟨rfl,rfl⟩:=KP s ((cC s).mp hd) ((cC s).mp he) i1 i2 j1 j2 hN
  rfl
noncomputable def ins(x:Pt):List Pl->Int
 |[a,b,c]=>if 0<hw a b x/\0<hw b c x/\0<hw c a x then 1 else 0
 |_=>0
noncomputable def Gen(Q:List Pl)(x:Pt):Prop:=0<x.N/\∀a∈Q,∀b∈Q,a≠b->hw a b x≠0
theorem qc.parts{Q t:List Pl}(h:qc Q t):∃a b c,t=[a,b,c]/\0<tw a b c/\a∈Q/\b∈Q/\c∈Q/\a≠b/\b≠c/\c≠a:=by
 obtain⟨⟨a,b,c,rfl,l1,l2,p⟩,h2⟩:=h
 refine⟨a,b,c,rfl,p,h2 a (by simp),h2 b (by simp),h2 c (by simp),λz=>?_,λz=>?_,λz=>?_⟩
 ·rw[z]at p;unfold tw at p;exact absurd p (by grind)
 ·rw[z]at p;unfold tw at p;exact absurd p (by grind)
 ·rw[z]at p;unfold tw at p;exact absurd p (by grind)
theorem G0{Q t:List Pl}{x:Pt}(s:cV Q)(g:Gen Q x)(h:qc Q t):sz (wL aq x) (fS t)=ins x t:=by
 obtain⟨a,b,c,rfl,p,ha,hb,hc,n1,n2,n3⟩:=h.parts
 show wn aq x a b+(wn aq x b c+(wn aq x c a+0))=if 0<hw a b x/\0<hw b c x/\0<hw c a x then 1 else 0
 have:=KL (w:=aq) g.1 p (wM s ha hb n1) (g.2 a ha b hb n1) (g.2 b hb c hc n2) (g.2 c hc a ha n3)
 rw[<-this]
 omega
theorem AK{Q:List Pl}{x:Pt}(s:cV Q)(g:Gen Q x):∀{ts:List (List Pl)},(∀t∈ts,qc Q t)->sz (wL aq x) (cH ts)=sz (ins x) ts
 |[],_=>rfl
 |t::r,h=>by
  have e:cH (t::r)=fS t++cH r:=by unfold cH;rw[YE]
  rw[e,Es,G0 s g (h t (by simp)),AK s g λu hu=>h u (Xl _ hu)]
  rfl
structure cI(Q:List Pl)(ts:List (List Pl)):Prop where
 wO:cV Q
 BN:vH Q (cH ts)
 bJ:∀t∈ts,qc Q t
theorem cI.KQ{Q:List Pl}{ts:List (List Pl)}(c:cI Q ts)(nf:¬Flat Q){x:Pt}(g:Gen Q x):sz (ins x) ts<=1:=by
 rw[<-AK c.wO g c.bJ,KO c.wO nf c.BN λa b=>GX aq x a b]
 exact GZ c.wO g.1
theorem Ew{g:List Pl->Int}(h0:∀t,0<=g t){t u:List Pl}(ne:t≠u):∀{ts:List (List Pl)},t∈ts->u∈ts->g t+g u<=sz g ts
 |v::r,ht,hu=>by
  show _<=g v+sz g r
  have one:∀{l:List (List Pl)} {z:List Pl},z∈l->g z<=sz g l:=λ{l z} hz=>by
   induction l with
   |nil=>cases hz
   |cons e l ih=>
    have n:0<=sz g l:=by
     clear ih hz
     induction l with
     |nil=>simp[sz]
     |cons a l ih=>have:=h0 a;show 0<=g a+sz g l;omega
    show g z<=g e+sz g l
    rcases Xj.mp hz with rfl|m
    ·omega
    ·have:=ih m;have:=h0 e;omega
  rcases Xj.mp ht with e1|k1
  ·rcases Xj.mp hu with e2|k2
   ·exact absurd (e1.trans e2.symm) ne
   ·have:=one k2;rw[e1];omega
  ·rcases Xj.mp hu with e2|k2
   ·have:=one k1;rw[e2];omega
   ·have:=Ew h0 ne k1 k2;have:=h0 v;omega
theorem KR(x:Pt)(t:List Pl):0<=ins x t:=by
 unfold ins
 split
 ·split<;>omega
 ·omega
theorem cI.one{Q:List Pl}{ts:List (List Pl)}(c:cI Q ts)(nf:¬Flat Q){x:Pt}(g:Gen Q x){t u:List Pl}(ht:t∈ts)(hu:u∈ts)(it:ins x t=1)(iu:ins x u=1):t=u:=by
 apply Xk
 intro ne
 have:=Ew (KR x) ne ht hu
 have:=c.KQ nf g
 omega
end L3
namespace L3
noncomputable def AL(p q c d:Pl):Int:=(q.x-p.x)*(d.x-c.x)+(q.y-p.y)*(d.y-c.y)
theorem KS(g:Pl->Pl->Nat)(Q:List Pl):∃B:Nat,∀p∈Q,∀q∈Q,g p q<=B:=by
 have one:∀(h:Pl->Nat) (R:List Pl),∃B:Nat,∀p∈R,h p<=B:=λh R=>by
  induction R with
  |nil=>exact⟨0,λp hp=>by cases hp⟩
  |cons a R ih=>
   obtain⟨B,hB⟩:=ih
   refine⟨B+h a,λp hp=>?_⟩
   rcases Xj.mp hp with rfl|m
   ·omega
   ·have:=hB p m;omega
 have two:∀(R:List Pl),∃B:Nat,∀p∈R,∀q∈Q,g p q<=B:=λR=>by
  induction R with
  |nil=>exact⟨0,λp hp=>by cases hp⟩
  |cons a R ih=>
   obtain⟨B,hB⟩:=ih
   obtain⟨C,hC⟩:=one (g a) Q
   refine⟨B+C,λp hp q hq=>?_⟩
   rcases Xj.mp hp with rfl|m
   ·have:=hC q hq;omega
   ·have:=hB p m q hq;omega
 exact two Q
theorem Q8{B t u v:Int}(h0:0<=B)(hu: -B<=u/\u<=B)(hv: -B<=v/\v<=B)(h:0<t\/(t=0/\(0<u\/(u=0/\0<v)))):0<(B+1)*(B+1)*t+(B+1)*u+v:=by
 rcases h with h|⟨rfl,h|⟨rfl,h⟩⟩
 ·have m1:0<=(B+1)*(B+1)*(t-1):=XY (XY (by omega) (by omega)) (by omega)
  have m2:0<=(B+1)*(u+B):=XY (by omega) (by omega)
  have e1:(B+1)*(B+1)*(t-1)=(B+1)*(B+1)*t-(B+1)*(B+1):=by rw[X0,Z8]
  have e2:(B+1)*(u+B)=(B+1)*u+(B+1)*B:=Int.mul_add _ _ _
  have e3:(B+1)*(B+1)=(B+1)*B+(B+1):=by rw[Int.mul_add,Z8]
  omega
 ·have m2:0<=(B+1)*(u-1):=XY (by omega) (by omega)
  have e2:(B+1)*(u-1)=(B+1)*u-(B+1):=by rw[X0,Z8]
  rw[Ye]
  omega
 ·rw[Ye,Ye]
  omega
theorem uQ{p q c d:Pl}(n1:p≠q)(n2:c≠d)(h:tw p q d-tw p q c=0):AL p q c d≠0:=λz=>by
 have e:(tw p q d-tw p q c)*(tw p q d-tw p q c)+AL p q c d*AL p q c d=((q.x-p.x)*(q.x-p.x)+(q.y-p.y)*(q.y-p.y))*((d.x-c.x)*(d.x-c.x)+(d.y-c.y)*(d.y-c.y)):=by unfold tw AL;grind
 rw[h,z]at e
 have pos:∀u v:Pl,u≠v->0<(v.x-u.x)*(v.x-u.x)+(v.y-u.y)*(v.y-u.y):=λu v n=>by
  have s1:0<=(v.x-u.x)*(v.x-u.x):=by
   rcases Z1 0 (v.x-u.x)with k|k
   ·exact XY k k
   ·exact XZ k k
  have s2:0<=(v.y-u.y)*(v.y-u.y):=by
   rcases Z1 0 (v.y-u.y)with k|k
   ·exact XY k k
   ·exact XZ k k
  apply Xk
  intro k
  have z1:(v.x-u.x)*(v.x-u.x)=0:=by omega
  have z2:(v.y-u.y)*(v.y-u.y)=0:=by omega
  have z1:v.x-u.x=0:=(Yu.mp z1).elim id id
  have z2:v.y-u.y=0:=(Yu.mp z2).elim id id
  exact n (by cases u;cases v;simp only[Pl.mk.injEq];dsimp only at z1 z2;omega)
 have:=YJ (pos p q n1) (pos c d n2)
 omega
theorem Q9{Q:List Pl}{c d:Pl}(ne:c≠d):∃x:Pt,Gen Q x/\∀p∈Q,∀q∈Q,(0<tw p q c\/(tw p q c=0/\(0<tw p q d\/(tw p q d=0/\0<AL p q c d))))->0<hw p q x:=by
 obtain⟨B,hB⟩:=KS (λp q=>(tw p q d-tw p q c).natAbs+(AL p q c d).natAbs) Q
 refine⟨⟨((B:Int)+1)*(B+1)*c.x+(B+1)*(d.x-c.x)-(d.y-c.y),((B:Int)+1)*(B+1)*c.y+(B+1)*(d.y-c.y)+(d.x-c.x),((B:Int)+1)*(B+1)⟩,?_⟩
 have e:∀p q,hw p q ⟨((B:Int)+1)*(B+1)*c.x+(B+1)*(d.x-c.x)-(d.y-c.y),((B:Int)+1)*(B+1)*c.y+(B+1)*(d.y-c.y)+(d.x-c.x),((B:Int)+1)*(B+1)⟩=((B:Int)+1)*(B+1)*tw p q c+(B+1)*(tw p q d-tw p q c)+AL p q c d:=λp q=>by unfold hw tw AL;grind
 have key:∀p∈Q,∀q∈Q,(0<tw p q c\/(tw p q c=0/\(0<tw p q d\/(tw p q d=0/\0<AL p q c d))))->0<hw p q ⟨((B:Int)+1)*(B+1)*c.x+(B+1)*(d.x-c.x)-(d.y-c.y),((B:Int)+1)*(B+1)*c.y+(B+1)*(d.y-c.y)+(d.x-c.x),((B:Int)+1)*(B+1)⟩:=λp hp q hq h=>by
  rw[e]
  have b:=hB p hp q hq
  exact Q8 (by omega) (by omega) (by omega) (h.imp id λ⟨z,h⟩=>⟨z,h.imp (λ_=>by omega) λ⟨z',h⟩=>⟨by omega,h⟩⟩)
 refine⟨⟨YJ (by omega) (by omega),λp hp q hq n z=>?_⟩,key⟩
 have fl:∀r,tw q p r= -tw p q r:=λr=>bY p q r
 have fd:AL q p c d= -AL p q c d:=by unfold AL;grind
 have fh:=qd p q ⟨((B:Int)+1)*(B+1)*c.x+(B+1)*(d.x-c.x)-(d.y-c.y),((B:Int)+1)*(B+1)*c.y+(B+1)*(d.y-c.y)+(d.x-c.x),((B:Int)+1)*(B+1)⟩
 have k1:=key p hp q hq
 have k2:=key q hq p hp
 rw[fl,fl,fd]at k2
 by_cases c0:tw p q c=0
 ·by_cases d0:tw p q d=0
  ·have:=uQ n ne (by omega)
   rcases Zk this with y|y
   ·have:=k2 (by omega);omega
   ·have:=k1 (by omega);omega
  ·rcases Zk d0 with y|y
   ·have:=k2 (by omega);omega
   ·have:=k1 (by omega);omega
 ·rcases Zk c0 with y|y
  ·have:=k2 (by omega);omega
  ·have:=k1 (by omega);omega
noncomputable def c9(t:List Pl)(a b c:Pl):Prop:=t=[a,b,c]\/t=[b,c,a]\/t=[c,a,b]
theorem c9.dir{t:List Pl}{a b c:Pl}(r:c9 t a b c):(fS t).Perm [[a,b],[b,c],[c,a]]:=by
 rcases r with rfl|rfl|rfl
 ·exact .refl _
 ·show[[b,c],[c,a],[a,b]].Perm _
  exact(XX (l₁:=[[b,c],[c,a]]) (l₂:=[[a,b]]))
 ·show[[c,a],[a,b],[b,c]].Perm _
  exact(XX (l₁:=[[c,a]]) (l₂:=[[a,b],[b,c]]))
theorem c9.ins{t:List Pl}{a b c:Pl}(r:c9 t a b c){x:Pt}(h1:0<hw a b x)(h2:0<hw b c x)(h3:0<hw c a x):ins x t=1:=by
 rcases r with rfl|rfl|rfl
 ·exact if_pos ⟨h1,h2,h3⟩
 ·exact if_pos ⟨h2,h3,h1⟩
 ·exact if_pos ⟨h3,h1,h2⟩
theorem c9.mem{t:List Pl}{a b c:Pl}(r:c9 t a b c)(q:Pl):q∈t↔q=a\/q=b\/q=c:=by
 rcases r with rfl|rfl|rfl<;>simp only[Xj,XR,or_false]
 ·exact⟨λh=>by rcases h with h|h|h<;>simp[h],λh=>by rcases h with h|h|h<;>simp[h]⟩
 ·exact⟨λh=>by rcases h with h|h|h<;>simp[h],λh=>by rcases h with h|h|h<;>simp[h]⟩
theorem c9.tw{Q t:List Pl}{a b c:Pl}(r:c9 t a b c)(h:qc Q t):0<tw a b c/\a∈Q/\b∈Q/\c∈Q:=by
 obtain⟨u,v,w,rfl,p,hu,hv,hw,_⟩:=h.parts
 have e1:=pL u v w
 have e2:=D9 u v w
 rcases r with e|e|e<;>injection e with x1 e<;>injection e with x2 e<;>injection e with x3 e<;>subst x1 x2 x3
 ·exact⟨p,hu,hv,hw⟩
 ·exact⟨by omega,hw,hu,hv⟩
 ·exact⟨by omega,hv,hw,hu⟩
theorem kB{Q t:List Pl}{a b:Pl}(h:qc Q t)(m:[a,b]∈fS t):∃c,c9 t a b c:=by
 obtain⟨u,v,w,rfl,_⟩:=h.parts
 have m:[a,b]=[u,v]\/[a,b]=[v,w]\/[a,b]=[w,u]:=by simpa[fS]using m
 rcases m with e|e|e<;>obtain⟨rfl,rfl⟩:=aR e
 ·exact⟨w,.inl rfl⟩
 ·exact⟨u,.inr (.inr rfl)⟩
 ·exact⟨v,.inr (.inl rfl)⟩
theorem cO{ts:List (List Pl)}{w:List Pl}:w∈cH ts↔∃t∈ts,w∈fS t:=Y5
section
variable{Q:List Pl}{ts:List (List Pl)}{a b c d:Pl}{t1 t2:List Pl}
theorem eS(p1:0<tw a b c)(p2:0<tw b a d)(cv:tw c d a*tw c d b<0):0<tw c d b/\tw c d a<0:=by
 have e:tw c d b-tw c d a=tw a b c+tw b a d:=by unfold tw;grind
 by_cases z:0<tw c d b
 ·refine⟨z,?_⟩
  apply Xk
  intro k
  have:=XY (a:=tw c d a) (b:=tw c d b) (by omega) (by omega)
  omega
 ·have:=XZ (a:=tw c d a) (b:=tw c d b) (by omega) (by omega)
  omega
theorem dP(a b:Pl):tw a b a=0/\tw a b b=0/\tw a a b=0:=by unfold tw;grind
theorem cI.new_one(k:cI Q ts)(nf:¬Flat Q)(h1:t1∈ts)(r1:c9 t1 a b c)(p2:0<tw b a d)(hd:d∈Q)(cv:tw c d a*tw c d b<0):[c,d]∉cH ts:=λm=>by
 obtain⟨t,ht,m⟩:=cO.mp m
 obtain⟨e,re⟩:=kB (k.bJ t ht) m
 obtain⟨p1,ha,hb,hc⟩:=r1.tw (k.bJ t1 h1)
 obtain⟨p3,_,_,he⟩:=re.tw (k.bJ t ht)
 obtain⟨s1,s2⟩:=eS p1 p2 cv
 have ne:c≠d:=λz=>by rw[z,(dP d b).2.2]at s1;omega
 obtain⟨x,g,hx⟩:=Q9 (Q:=Q) ne
 have i1:ins x t=1:=by
  refine re.ins (hx c hc d hd (.inr ⟨(dP c d).1,.inr ⟨(dP c d).2.1,?_⟩⟩)) (hx d hd e he (.inl (by have:=pL c d e;omega))) (hx e he c hc (.inr ⟨(dP e c).2.1,.inl (by have:=D9 c d e;omega)⟩))
  have n:=uQ (p:=c) (q:=d) (c:=c) (d:=d) ne ne (by rw[(dP c d).1,(dP c d).2.1];omega)
  have:0<=AL c d c d:=by
   unfold AL
   have q:∀z:Int,0<=z*z:=λz=>by
    rcases Z1 0 z with k|k
    ·exact XY k k
    ·exact XZ k k
   have:=q (d.x-c.x)
   have:=q (d.y-c.y)
   omega
  omega
 have i2:ins x t1=1:=by
  refine r1.ins (hx a ha b hb (.inl p1)) (hx b hb c hc (.inr ⟨(dP b c).2.1,.inl ?_⟩)) (hx c hc a ha (.inr ⟨(dP c a).1,.inl ?_⟩))
  ·have:=pL b c d;omega
  ·have:=uI c d a;omega
 have ee:=k.one nf g ht h1 i1 i2
 subst ee
 have hd':d∈t:=(re.mem d).mpr (.inr (.inl rfl))
 rcases(r1.mem d).mp hd' with z|z|z
 ·rw[z,(dP b a).2.1]at p2;omega
 ·rw[z,(dP b a).1]at p2;omega
 ·exact ne z.symm
theorem cI.G1(k:cI Q ts)(nf:¬Flat Q)(h1:t1∈ts)(r1:c9 t1 a b c)(h2:t2∈ts)(r2:c9 t2 b a d)(cv:tw c d a*tw c d b<0):[c,d]∉cH ts/\[d,c]∉cH ts:=by
 obtain⟨p1,ha,hb,hc⟩:=r1.tw (k.bJ t1 h1)
 obtain⟨p2,_,_,hd⟩:=r2.tw (k.bJ t2 h2)
 refine⟨k.new_one nf h1 r1 p2 hd cv,k.new_one nf h2 r2 p1 hc ?_⟩
 rw[bY c d b,bY c d a,Z7,Int.mul_comm]
 exact cv
theorem vH.swap{D D' E:List (List Pl)}(k:vH Q D)(p:D.Perm ([a,b]::[b,a]::E))(p':D'.Perm ([c,d]::[d,c]::E))(n1:[c,d]∉D)(n2:[d,c]∉D)(ne:c≠d)(hc:c∈Q)(hd:d∈Q)
 (s1:¬aW Q a b)(s2:¬aW Q b a)(s3:¬aW Q c d)(s4:¬aW Q d c):vH Q D':=by
 have m:∀w,w∈D↔w=[a,b]\/w=[b,a]\/w∈E:=λw=>by rw[p.mem_iff];simp only[Xj]
 have m':∀w,w∈D'↔w=[c,d]\/w=[d,c]\/w∈E:=λw=>by rw[p'.mem_iff];simp only[Xj]
 have nd:=p.nodup_iff.mp k.nd
 obtain⟨e1,nd⟩:=XF.mp nd
 obtain⟨e2,nd⟩:=XF.mp nd
 refine⟨?_,?_,?_,?_,?_⟩
 ·refine p'.nodup_iff.mpr (XF.mpr ⟨λz=>?_,XF.mpr ⟨λz=>n2 ((m _).mpr (.inr (.inr z))),nd⟩⟩)
  rcases Xj.mp z with z|z
  ·exact ne (aR z).1
  ·exact n1 ((m _).mpr (.inr (.inr z)))
 ·intro w hw
  rcases(m' w).mp hw with rfl|rfl|z
  ·exact⟨c,d,rfl,hc,hd⟩
  ·exact⟨d,c,rfl,hd,hc⟩
  ·exact k.qX w ((m w).mpr (.inr (.inr z)))
 ·intro u v h1 h2
  have hE:[u,v]∈E:=by
   rcases(m' _).mp h1 with z|z|z
   ·obtain⟨rfl,rfl⟩:=aR z
    exact absurd ((m' _).mpr (.inr (.inl rfl))) h2
   ·obtain⟨rfl,rfl⟩:=aR z
    exact absurd ((m' _).mpr (.inl rfl)) h2
   ·exact z
  refine k.bare u v ((m _).mpr (.inr (.inr hE))) λz=>?_
  rcases(m _).mp z with z|z|z
  ·obtain⟨rfl,rfl⟩:=aR z
   exact e2 hE
  ·obtain⟨rfl,rfl⟩:=aR z
   exact e1 (Xl _ hE)
  ·exact h2 ((m' _).mpr (.inr (.inr z)))
 ·intro u v h z
  rcases(m' _).mp z with z|z|z
  ·obtain⟨rfl,rfl⟩:=aR z
   exact s4 h
  ·obtain⟨rfl,rfl⟩:=aR z
   exact s3 h
  ·exact k.mC u v h ((m _).mpr (.inr (.inr z)))
 ·intro u v h
  refine(k.has u v h).imp id λz=>?_
  rcases(m _).mp z with z|z|z
  ·obtain⟨rfl,rfl⟩:=aR z
   exact absurd h s1
  ·obtain⟨rfl,rfl⟩:=aR z
   exact absurd h s2
  ·exact(m' _).mpr (.inr (.inr z))
theorem cI.nodup(k:cI Q ts):ts.Nodup:=by
 have nd:=k.BN.nd
 have bJ:=k.bJ
 clear k
 induction ts with
 |nil=>exact .nil
 |cons t r ih=>
  have e:cH (t::r)=fS t++cH r:=by unfold cH;rw[YE]
  rw[e]at nd
  obtain⟨_,n2,n3⟩:=YM.mp nd
  refine XF.mpr ⟨λz=>?_,ih n2 λu hu=>bJ u (Xl _ hu)⟩
  obtain⟨u,v,w,e,_⟩:=(bJ t (by simp)).parts
  have m:[u,v]∈fS t:=by rw[e];simp[fS]
  exact n3 _ m _ (cO.mpr ⟨t,z,m⟩) rfl
theorem cI.flip(k:cI Q ts)(nf:¬Flat Q){rest ts':List (List Pl)}{u1 u2:List Pl}(p:ts.Perm (t1::t2::rest))(r1:c9 t1 a b c)(r2:c9 t2 b a d)(cv:tw c d a*tw c d b<0)
 (p':ts'.Perm (u1::u2::rest))(v1:c9 u1 a d c)(v2:c9 u2 b c d)(l1:eG u1)(l2:eG u2):cI Q ts':=by
 have h1:t1∈ts:=p.mem_iff.mpr (by simp)
 have h2:t2∈ts:=p.mem_iff.mpr (by simp)
 obtain⟨p1,ha,hb,hc⟩:=r1.tw (k.bJ t1 h1)
 obtain⟨p2,_,_,hd⟩:=r2.tw (k.bJ t2 h2)
 obtain⟨s1,s2⟩:=eS p1 p2 cv
 obtain⟨n1,n2⟩:=k.G1 nf h1 r1 h2 r2 cv
 have ne:c≠d:=λz=>by rw[z,(dP d b).2.2]at s1;omega
 refine⟨k.wO,?_,λt ht=>?_⟩
 ·have e1:(cH ts).Perm ([a,b]::[b,a]::([b,c]::[c,a]::[a,d]::[d,b]::cH rest)):=by
   have q1:(cH ts).Perm (fS t1++(fS t2++cH rest)):=by
    have:=p.flatMap_right (f:=fS)
    unfold cH
    simpa only[YE]using this
   refine q1.trans (((r1.dir.append_right _).trans ((r2.dir.append_right _).append_left _)).trans ?_)
   exact .cons _ (aay (l₁:=[[b,c],[c,a]]))
  have e2:(cH ts').Perm ([c,d]::[d,c]::([b,c]::[c,a]::[a,d]::[d,b]::cH rest)):=by
   have q1:(cH ts').Perm (fS u1++(fS u2++cH rest)):=by
    have:=p'.flatMap_right (f:=fS)
    unfold cH
    simpa only[YE]using this
   refine q1.trans (((v1.dir.append_right _).trans ((v2.dir.append_right _).append_left _)).trans ?_)
   show([a,d]::[d,c]::[c,a]::[b,c]::[c,d]::[d,b]::cH rest).Perm _
   refine(aay (l₁:=[[a,d],[d,c],[c,a],[b,c]])).trans (.cons _ ?_)
   refine(List.Perm.swap _ _ _).trans (.cons _ ?_)
   exact(ZR [[b,c],[c,a],[a,d]]).append_right _
  refine k.BN.swap e1 e2 n1 n2 ne hc hd (λh=>?_) (λh=>?_) (λh=>?_) (λh=>?_)
  ·have:=(h.2.2.2 d hd).1;have:=bY a b d;omega
  ·have:=(h.2.2.2 c hc).1;have:=bY a b c;omega
  ·have:=(h.2.2.2 a ha).1;omega
  ·have:=(h.2.2.2 b hb).1;have:=bY c d b;omega
 ·rcases Xj.mp (p'.mem_iff.mp ht)with rfl|ht
  ·exact⟨l1,λq hq=>by rcases(v1.mem q).mp hq with rfl|rfl|rfl<;>assumption⟩
  ·rcases Xj.mp ht with rfl|ht
   ·exact⟨l2,λq hq=>by rcases(v2.mem q).mp hq with rfl|rfl|rfl<;>assumption⟩
   ·exact k.bJ t (p.mem_iff.mpr (Xl _ (Xl _ ht)))
end
end L3
namespace L3
theorem zh{Q:List Pl}{p:Pl}(s:cV (Q++[p]))(h:Q≠[]):(SL (Q++[p])).length+(bO Q p).length=(SL Q).length+2:=by
 have g:=AA s
 have so:=s.old
 have l2:2<=(Q++[p]).length:=by
  have:=ZE.mpr h
  rw[XA,Zq];omega
 obtain⟨u,hu⟩:=(oB s l2).2 p (by simp)
 obtain⟨v,hv⟩:=rj s hu
 have sp:=split_len (A2 p) (SL Q)
 have np:∀a b,[a,b]∈SL Q->a≠p/\b≠p:=λa b m=>by
  have:=(cC so).mp m
  exact⟨λz=>s.out (z▸this.1),λz=>s.out (z▸this.2.1)⟩
 have:=sub_len (l:=[u,p]::[p,v]::(SL Q).filter (λv=>!A2 p v)) (m:=SL (Q++[p])) (by
  refine XF.mpr ⟨λz=>?_,XF.mpr ⟨λz=>?_,(kr so).filter _⟩⟩
  ·rcases Xj.mp z with z|z
   ·exact hu.2.2.1 (aR z).1
   ·exact(np u p (Xy.mp z).1).2 rfl
  ·exact(np p v (Xy.mp z).1).1 rfl) (λw hw=>by
  rcases Xj.mp hw with rfl|hw
  ·exact(cC s).mpr hu
  ·rcases Xj.mp hw with rfl|hw
   ·exact(cC s).mpr hv
   ·obtain⟨m,k⟩:=Xy.mp hw
    obtain⟨a,b,rfl⟩:=mw m
    have sd:=(cC so).mp m
    refine(cC s).mpr ((gF s sd.1 sd.2.1).mpr ⟨sd,?_⟩)
    replace k:(!decide (tw a b p<0))=true:=k
    rw[YF]at k
    have:=of_decide_eq_false k
    omega)
 rw[Xz,Xz]at this
 unfold bO at *
 omega
theorem rJ{qs:List Pl}(s:cV qs):∀k,k+1<=qs.length->(jq qs (k+1)).length+(SL (qs.take (k+1))).length=2*k
 |0,h=>by
  have e:SL (qs.take 0)=[]:=kq (by simp)
  rw[kq (by simp;omega)]
  show(jq qs 0++(bO (qs.take 0) (tK qs 0)).map (xN (tK qs 0))).length+0=0
  unfold bO
  rw[e]
  rfl
 |k+1,h=>by
  have st:=s.take (k+2)
  have ih:=rJ s k (by omega)
  rw[lC (by omega)]at st ⊢
  have ne:qs.take (k+1)≠[]:=λz=>by
   have:=congrArg List.length z
   rw[Yi,Yt]at this
   omega
  have:=zh st ne
  show(jq qs (k+1)++(bO (qs.take (k+1)) (tK qs (k+1))).map (xN (tK qs (k+1)))).length+_=_
  rw[XA,Xi]
  omega
theorem BO{qs:List Pl}(s:cV qs)(h:2<=qs.length):(jq qs qs.length).length+(bN qs).length+2=2*qs.length:=by
 obtain⟨l2,e,_⟩:=uH s h
 have:=rJ s (qs.length-1) (by omega)
 rw[show qs.length-1+1=qs.length by omega,X6,e,ZD,XA,Yq,Yi]at this
 omega
noncomputable def cr:List Pl->Int
 |[a,b]=>a.x*b.y-a.y*b.x
 |_=>0
noncomputable def UE(bd:List Pl)(k:Nat):Pl:=if k=0 then bd.getLastD ⟨0,0⟩else tK bd (k-1)
noncomputable def qX(bd:List Pl):Nat->Int
 |0=>0
 |k+1=>qX bd k+cr [UE bd k,tK bd k]
end L3
namespace L3
section
variable{Q:List Pl}{ts:List (List Pl)}{X:Pt}
end
end L3
namespace L3
section
variable{Q:List Pl}{X:Pt}
end
end L3
namespace L3
noncomputable def LA(H:Pl->Int)(a b c p:Pl):Int:=tw a b c*H p-(tw b c p*H a+tw c a p*H b+tw a b p*H c)
structure Ht(Q:List Pl)(H:Pl->Int):Prop where
 Ws:∀a∈Q,∀b∈Q,∀c∈Q,∀d∈Q,0<tw a b c->(Qi a b c d↔LA H a b c d<0)
 gen:∀a∈Q,∀b∈Q,∀c∈Q,∀d∈Q,0<tw a b c->LA H a b c d=0->d=a\/d=b\/d=c
 nn:∀p∈Q,0<=H p
end L3
namespace L3
section
variable{Q:List Pl}{H:Pl->Int}
theorem Ex{a b c:Pl}(p:0<tw a b c):∃t,eG t/\c9 t a b c:=by
 have g1:=pL a b c
 have g2:=D9 a b c
 have n1:a≠b:=λz=>by rw[z]at p;unfold tw at p;grind
 have n2:b≠c:=λz=>by rw[z]at p;unfold tw at p;grind
 have n3:c≠a:=λz=>by rw[z]at p;unfold tw at p;grind
 have x:∀{p q:Pl},p≠q->aU p q\/aU q p:=λ{p q} n=>by
  rcases dM p q with h|h|h
  ·exact .inl h
  ·exact absurd h n
  ·exact .inr h
 rcases x n1 with h1|h1
 ·rcases x n3 with h3|h3
  ·exact⟨[c,a,b],⟨c,a,b,rfl,h3,cP h3 h1,by omega⟩,.inr (.inr rfl)⟩
  ·exact⟨[a,b,c],⟨a,b,c,rfl,h1,h3,p⟩,.inl rfl⟩
 ·rcases x n2 with h2|h2
  ·exact⟨[b,c,a],⟨b,c,a,rfl,h2,h1,by omega⟩,.inr (.inl rfl)⟩
  ·exact⟨[c,a,b],⟨c,a,b,rfl,cP h2 h1,h2,by omega⟩,.inr (.inr rfl)⟩
end
end L3
namespace L3
section
variable{Q:List Pl}{ts:List (List Pl)}{H:Pl->Int}
noncomputable def Full(Q:List Pl)(ts:List (List Pl)):Prop:= ∀q∈Q,∃t∈ts,q∈t
theorem c9.next{t:List Pl}{a b c:Pl}(r:c9 t a b c):c9 t b c a:=by
 rcases r with r|r|r
 ·exact .inr (.inr r)
 ·exact .inl r
 ·exact .inr (.inl r)
end
end L3
namespace L3
section
variable{Q:List Pl}{ts us:List (List Pl)}{H:Pl->Int}{a b c d:Pl}
theorem rK{α β:Type}{f:α->List β}{w:β}:∀{l:List α},(l.flatMap f).Nodup->∀{t u:α},t∈l->u∈l->w∈f t->w∈f u->t=u
 |x::r,nd,t,u,ht,hu,m1,m2=>by
  rw[YE]at nd
  obtain⟨_,n2,n3⟩:=YM.mp nd
  rcases Xj.mp ht with e1|h1
  ·rcases Xj.mp hu with e2|h2
   ·rw[e1,e2]
   ·rw[e1]at m1
    exact absurd rfl (n3 w m1 w (Y5.mpr ⟨u,h2,m2⟩))
  ·rcases Xj.mp hu with e2|h2
   ·rw[e2]at m2
    exact absurd rfl (n3 w m2 w (Y5.mpr ⟨t,h1,m1⟩))
   ·exact rK n2 h1 h2 m1 m2
theorem cI.lD(k:cI Q ts){t u:List Pl}{w:List Pl}(ht:t∈ts)(hu:u∈ts)(m1:w∈fS t)(m2:w∈fS u):t=u:=rK k.BN.nd ht hu m1 m2
theorem c9.tL{t:List Pl}(r:c9 t a b c):[a,b]∈fS t:=r.dir.mem_iff.mpr (by simp)
theorem kC{t:List Pl}(hT:qc Q t)(ne:a≠b):(a∈t/\b∈t)↔([a,b]∈fS t\/[b,a]∈fS t):=by
 obtain⟨x,y,z,rfl,_,_,_,_,n1,n2,n3⟩:=hT.parts
 simp only[fS,Xj,XR,or_false,List.cons.injEq,and_true]
 constructor
 ·rintro⟨rfl|rfl|rfl,rfl|rfl|rfl⟩<;>simp_all
 ·rintro((⟨rfl,rfl⟩|⟨rfl,rfl⟩|⟨rfl,rfl⟩)|(⟨rfl,rfl⟩|⟨rfl,rfl⟩|⟨rfl,rfl⟩))<;>simp
noncomputable def bP(ts:List (List Pl))(a b:Pl):List (List Pl):=ts.filter λt=>decide (a∈t/\b∈t)
theorem cI.xT(k:cI Q ts)(ne:a≠b)(h:(bP ts a b).length=2):∃t u c d,bP ts a b=[t,u]/\t∈ts/\u∈ts/\t≠u/\((c9 t a b c/\c9 u b a d)\/(c9 t b a c/\c9 u a b d)):=by
 have nd:(bP ts a b).Nodup:=k.nodup.filter _
 match e:bP ts a b,h with
 |[t,u],_=>
  rw[e]at nd
  have mm:∀v∈[t,u],v∈ts/\([a,b]∈fS v\/[b,a]∈fS v):=λv hv=>by
   rw[<-e]at hv
   obtain⟨hv,h2⟩:=Xy.mp hv
   exact⟨hv,(kC (k.bJ v hv) ne).mp (of_decide_eq_true h2)⟩
  obtain⟨ht,dt⟩:=mm t (by simp)
  obtain⟨hu,du⟩:=mm u (by simp)
  have tu:t≠u:=λz=>by
   have:=(XF.mp nd).1
   rw[z]at this
   exact this (by simp)
  rcases dt with dt|dt<;>rcases du with du|du
  ·exact absurd (k.lD ht hu dt du) tu
  ·obtain⟨c,r1⟩:=kB (k.bJ t ht) dt
   obtain⟨d,r2⟩:=kB (k.bJ u hu) du
   exact⟨t,u,c,d,rfl,ht,hu,tu,.inl ⟨r1,r2⟩⟩
  ·obtain⟨c,r1⟩:=kB (k.bJ t ht) dt
   obtain⟨d,r2⟩:=kB (k.bJ u hu) du
   exact⟨t,u,c,d,rfl,ht,hu,tu,.inr ⟨r1,r2⟩⟩
  ·exact absurd (k.lD ht hu dt du) tu
theorem cI.xU(k:cI Q ts)(m1:[a,b]∈cH ts)(m2:[b,a]∈cH ts):(bP ts a b).length=2:=by
 obtain⟨t,ht,m1⟩:=cO.mp m1
 obtain⟨u,hu,m2⟩:=cO.mp m2
 obtain⟨c,r1⟩:=kB (k.bJ t ht) m1
 obtain⟨d,r2⟩:=kB (k.bJ u hu) m2
 obtain⟨p1,_⟩:=r1.tw (k.bJ t ht)
 obtain⟨p2,_⟩:=r2.tw (k.bJ u hu)
 have ne:a≠b:=λe=>by rw[e]at p1;unfold tw at p1;grind
 have tu:t≠u:=λz=>by
  rw[z]at r1
  have:c=d:=by
   have h1:=(r1.mem d).mp ((r2.mem d).mpr (by simp))
   rcases h1 with h|h|h
   ·rw[h]at p2;unfold tw at p2;exact absurd p2 (by grind)
   ·rw[h]at p2;unfold tw at p2;exact absurd p2 (by grind)
   ·exact h.symm
  rw[this]at p1
  have:=bY a b d
  omega
 have nd:(bP ts a b).Nodup:=k.nodup.filter _
 have i1:t∈bP ts a b:=Xy.mpr ⟨ht,decide_eq_true ((kC (k.bJ t ht) ne).mpr (.inl m1))⟩
 have i2:u∈bP ts a b:=Xy.mpr ⟨hu,decide_eq_true ((kC (k.bJ u hu) ne).mpr (.inr m2))⟩
 have al:∀v∈bP ts a b,v=t\/v=u:=λv hv=>by
  obtain⟨hv,h2⟩:=Xy.mp hv
  rcases(kC (k.bJ v hv) ne).mp (of_decide_eq_true h2)with y|y
  ·exact .inl (k.lD hv ht y m1)
  ·exact .inr (k.lD hv hu y m2)
 have le:=sub_len (l:=bP ts a b) (m:=[t,u]) nd λv hv=>by
  rcases al v hv with y|y<;>simp[y]
 have ge:=sub_len (l:=[t,u]) (m:=bP ts a b) (by simp[tu]) λv hv=>by
  rcases Xj.mp hv with y|y
  ·rw[y];exact i1
  ·rw[Xq.mp y];exact i2
 simp only[Xz,Yt]at le ge
 omega
noncomputable def pM(ts us:List (List Pl))(a b c d:Pl):Prop:= ∃t1 t2 u1 u2,t1∈ts/\t2∈ts/\c9 t1 a b c/\c9 t2 b a d/\c9 u1 a d c/\c9 u2 b c d/\eG u1/\eG u2/\tw c d a*tw c d b<0/\us.Perm (u1::u2::ts.filter (λt=>decide (t∉[t1,t2])))
theorem vN{t1 t2:List Pl}(nd:ts.Nodup)(n:t1≠t2)(h1:t1∈ts)(h2:t2∈ts):ts.Perm (t1::t2::ts.filter (λt=>decide (t∉[t1,t2]))):=by
 refine oF nd (XF.mpr ⟨λz=>?_,XF.mpr ⟨λz=>?_,nd.filter _⟩⟩) λt=>?_
 ·rcases Xj.mp z with z|z
  ·exact n z
  ·exact of_decide_eq_true (Xy.mp z).2 (by simp)
 ·exact of_decide_eq_true (Xy.mp z).2 (by simp)
 ·rw[Xj,Xj,Xy]
  constructor
  ·intro h
   by_cases e1:t=t1
   ·exact .inl e1
   ·by_cases e2:t=t2
    ·exact .inr (.inl e2)
    ·exact .inr (.inr ⟨h,decide_eq_true (by simp[e1,e2])⟩)
  ·rintro(rfl|rfl|h)
   ·exact h1
   ·exact h2
   ·exact h.1
theorem vO{t1 t2:List Pl}(h1:qc Q t1)(h2:qc Q t2)(r1:c9 t1 a b c)(r2:c9 t2 b a d):t1≠t2:=λz=>by
 obtain⟨p1,_⟩:=r1.tw h1
 obtain⟨p2,_⟩:=r2.tw h2
 rw[z]at r1
 have:c=d:=by
  rcases(r1.mem d).mp ((r2.mem d).mpr (by simp))with h|h|h
  ·rw[h]at p2;unfold tw at p2;exact absurd p2 (by grind)
  ·rw[h]at p2;unfold tw at p2;exact absurd p2 (by grind)
  ·exact h.symm
 rw[this]at p1
 have:=bY a b d
 omega
theorem pM.KU(k:cI Q ts)(nf:¬Flat Q)(h:pM ts us a b c d):cI Q us:=by
 obtain⟨t1,t2,u1,u2,m1,m2,r1,r2,v1,v2,i1,i2,cv,hp⟩:=h
 exact k.flip nf (vN k.nodup (vO (k.bJ _ m1) (k.bJ _ m2) r1 r2) m1 m2) r1 r2 cv hp v1 v2 i1 i2
theorem pM.len(k:cI Q ts)(h:pM ts us a b c d):us.length=ts.length:=by
 obtain⟨t1,t2,u1,u2,m1,m2,r1,r2,v1,v2,i1,i2,cv,hp⟩:=h
 rw[hp.length_eq,(vN k.nodup (vO (k.bJ _ m1) (k.bJ _ m2) r1 r2) m1 m2).length_eq]
 rfl
theorem pM.full(fu:Full Q ts)(h:pM ts us a b c d):Full Q us:=λq hq=>by
 obtain⟨t1,t2,u1,u2,m1,m2,r1,r2,v1,v2,i1,i2,cv,hp⟩:=h
 obtain⟨t,ht,qt⟩:=fu q hq
 have j1:u1∈us:=hp.mem_iff.mpr (by simp)
 have j2:u2∈us:=hp.mem_iff.mpr (by simp)
 have four:q=a\/q=b\/q=c\/q=d->∃u∈us,q∈u:=λh4=>by
  rcases h4 with y|y|y|y
  ·exact⟨u1,j1,(v1.mem q).mpr (.inl y)⟩
  ·exact⟨u2,j2,(v2.mem q).mpr (.inl y)⟩
  ·exact⟨u2,j2,(v2.mem q).mpr (.inr (.inl y))⟩
  ·exact⟨u2,j2,(v2.mem q).mpr (.inr (.inr y))⟩
 by_cases e1:t=t1
 ·rw[e1]at qt
  refine four ?_
  rcases(r1.mem q).mp qt with y|y|y<;>simp[y]
 ·by_cases e2:t=t2
  ·rw[e2]at qt
   refine four ?_
   rcases(r2.mem q).mp qt with y|y|y<;>simp[y]
  ·exact⟨t,hp.mem_iff.mpr (Xl _ (Xl _ (Xy.mpr ⟨ht,decide_eq_true (by simp[e1,e2])⟩))),qt⟩
end
end L3
namespace L3
open PySem PySem.Spec PyProof.Rows L2
theorem G2(t:List Pl):C6 (tD t) (tD t)=true:=by
 have h:=dD t
 have h2:plain 10 (tD t)=true:=by
  unfold tD
  simp only[plain]
  exact h
 show(plain 10 (tD t) && plain 10 (tD t))=true
 rw[h2]
 rfl
theorem jr(ps:List Pl):kD (cN ps)=tD ps:=by
 unfold kD cN tD
 rw[aao]
 rfl
theorem BP(kvs:List (List (List Int) ×D))(k:List (List Int))(d:D)(k':List (List Int)):bq (jK kvs k d) k'=if k=k' then some d else bq kvs k':=by
 have app:∀kvs:List (List (List Int) ×D),bq kvs k=none->bq (kvs++[(k,d)]) k'=if k=k' then some d else bq kvs k':=by
  intro kvs
  induction kvs with
  |nil=>
   intro _
   by_cases c:k=k'<;>simp[bq,c]
  |cons p kvs ih=>
   intro h
   unfold bq at h ih ⊢
   rw[Yl]at h
   rw[List.cons_append,Yl,Yl]
   by_cases c:p.1=k
   ·rw[decide_eq_true c]at h;cases h
   ·rw[decide_eq_false c]at h
    by_cases c2:p.1=k'
    ·rw[decide_eq_true c2,if_neg (λz=>c (c2.trans z.symm))]
    ·rw[decide_eq_false c2]
     exact ih h
 have rep:∀kvs:List (List (List Int) ×D),(bq kvs k).isSome=true->bq (kvs.map λp=>if p.1=k then(p.1,d)else p) k'=if k=k' then some d else bq kvs k':=by
  intro kvs
  induction kvs with
  |nil=>intro h;cases h
  |cons p kvs ih=>
   intro h
   by_cases c:p.1=k
   ·subst c
    by_cases c2:p.1=k'
    ·unfold bq
     rw[XQ,if_pos rfl,Yl,decide_eq_true c2,if_pos c2]
     rfl
    ·rw[if_neg c2]
     unfold bq
     rw[XQ,if_pos rfl,Yl,decide_eq_false c2,Yl,decide_eq_false c2]
     dsimp only
     clear ih h
     induction kvs with
     |nil=>rfl
     |cons q kvs ih=>
      rw[XQ,Yl,Yl]
      by_cases c3:q.1=p.1
      ·rw[if_pos c3]
       dsimp only
       rw[decide_eq_false (show¬q.1=k' from λz=>c2 (c3.symm.trans z))]
       exact ih
      ·rw[if_neg c3]
       cases decide (q.1=k')with
       |true=>rfl
       |false=>exact ih
   ·have h':(bq kvs k).isSome=true:=by
     unfold bq at h ⊢
     rw[Yl,decide_eq_false c]at h
     exact h
    have ih:=ih h'
    unfold bq at ih ⊢
    rw[XQ,if_neg c,Yl,Yl]
    by_cases c2:p.1=k'
    ·rw[decide_eq_true c2,if_neg (λz=>c (c2.trans z.symm))]
    ·rw[decide_eq_false c2]
     exact ih
 unfold jK
 by_cases c:(bq kvs k).isSome=true
 ·rw[if_pos c]
  exact rep kvs c
 ·rw[if_neg c]
  exact app kvs (by simpa using c)
theorem BQ(kvs:List (List (List Int) ×D))(k:List (List Int))(d:D):(jK kvs k d).length<=kvs.length+1:=by
 unfold jK
 split
 ·rw[Xi];omega
 ·rw[XA];simp
noncomputable def vP:List Pl->List (List Pl)
 |[a,b,c]=>[[a,b,c],[b,c,a],[c,a,b]]
 |_=>[]
noncomputable def eU(ts:List (List Pl)):List (List Pl):=ts.flatMap vP
theorem BR{ts:List (List Pl)}{i:Nat}{t:List Pl}(h:ts[i]?=some t):eU (ts.take (i+1))=eU (ts.take i)++vP t:=by
 unfold eU
 rw[YS,h,aaf]
 simp
theorem xV:∀(ts:List (List Pl)),(eU ts).length<=3*ts.length
 |[]=>by simp[eU]
 |t::ts=>by
  have h1:=xV ts
  have h2:(vP t).length<=3:=by unfold vP;split<;>simp
  show(vP t++eU ts).length<=_
  rw[XA,Xz]
  omega
noncomputable def zj(kvs:List (List (List Int) ×D))(o:List Pl):List (List (List Int) ×D):=
 match o with
 |[a,b,c]=>jK kvs (cN [a,b]) c.d
 |_=>kvs
noncomputable def gG(os:List (List Pl)):List (List (List Int) ×D):=os.foldl zj []
theorem BS(os:List (List Pl))(a b c:Pl):gG (os++[[a,b,c]])=jK (gG os) (cN [a,b]) c.d:=by
 unfold gG
 rw[aat]
 rfl
theorem Ey(os:List (List Pl)):(gG os).length<=os.length:=by
 have go:∀(os:List (List Pl)) (kvs:List (List (List Int) ×D)),(os.foldl zj kvs).length<=kvs.length+os.length:=by
  intro os
  induction os with
  |nil=>intro kvs;exact Xn _
  |cons o os ih=>
   intro kvs
   rw[Zy,Xz]
   have h1:=ih (zj kvs o)
   have h2:(zj kvs o).length<=kvs.length+1:=by
    unfold zj
    split
    ·exact BQ _ _ _
    ·omega
   omega
 have:=go os []
 unfold gG
 simpa using this
theorem KW(os:List (List Pl))(h3:∀o∈os,∃a b c,o=[a,b,c])(u v:Pl):(bq (gG os) (cN [u,v])=none/\∀r,[u,v,r]∉os)\/∃r,bq (gG os) (cN [u,v])=some (Pl.d r)/\[u,v,r]∈os:=by
 have go:∀(os:List (List Pl)) (kvs:List (List (List Int) ×D)) (seen:List (List Pl)),(∀o∈os,∃a b c,o=[a,b,c])->
  ((bq kvs (cN [u,v])=none/\∀r,[u,v,r]∉seen)\/∃r,bq kvs (cN [u,v])=some (Pl.d r)/\[u,v,r]∈seen)->
  ((bq (os.foldl zj kvs) (cN [u,v])=none/\∀r,[u,v,r]∉seen++os)\/∃r,bq (os.foldl zj kvs) (cN [u,v])=some (Pl.d r)/\[u,v,r]∈seen++os):=by
  intro os
  induction os with
  |nil=>
   intro kvs seen _ h
   rw[XS]
   exact h
  |cons o os ih=>
   intro kvs seen h3 h
   obtain⟨a,b,c,rfl⟩:=h3 o Xu
   rw[Zy,show seen++[a,b,c]::os=(seen++[[a,b,c]])++os by simp]
   refine ih _ _ (λo ho=>h3 o (Xl _ ho)) ?_
   show(bq (jK kvs (cN [a,b]) c.d) (cN [u,v])=none/\_)\/∃r,bq (jK kvs (cN [a,b]) c.d) (cN [u,v])=some (Pl.d r)/\_
   rw[BP]
   by_cases e:cN [a,b]=cN [u,v]
   ·rw[if_pos e]
    have e2:=xR e
    injection e2 with e3 e2
    injection e2 with e4 _
    subst e3;subst e4
    exact .inr ⟨c,rfl,by simp⟩
   ·rw[if_neg e]
    have ne:∀r,([u,v,r]:List Pl)≠[a,b,c]:=λr z=>by
     injection z with z1 z
     injection z with z2 z
     exact e (by rw[z1,z2])
    rcases h with⟨g,n⟩|⟨r,g,m⟩
    ·refine .inl ⟨g,λr z=>?_⟩
     rcases XI.mp z with z|z
     ·exact n r z
     ·exact ne r (Xq.mp z)
    ·exact .inr ⟨r,g,Xx _ m⟩
 have:=go os [] [] h3 (.inl ⟨rfl,λr z=>by cases z⟩)
 rw[List.nil_append]at this
 exact this
theorem rL(t:List Pl):∀o∈vP t,∃a b c,o=[a,b,c]:=by
 intro o ho
 unfold vP at ho
 split at ho
 ·simp only[Xj,XR,or_false]at ho
  rcases ho with rfl|rfl|rfl<;>exact⟨_,_,_,rfl⟩
 ·cases ho
theorem zk(ts:List (List Pl)):∀o∈eU ts,∃a b c,o=[a,b,c]:=λo ho=>by
 obtain⟨t,_,h⟩:=Y5.mp ho
 exact rL t o h
theorem Ez(a b:Pl):(lo a b=a/\hi a b=b)\/(lo a b=b/\hi a b=a):=by
 unfold lo hi
 by_cases c:aU b a
 ·by_cases c2:aU a b
  ·exact absurd c (bx c2)
  ·simp[c,c2]
 ·by_cases c2:aU a b
  ·simp[c,c2]
  ·have e:a=b:=by
    rcases dM a b with z|z|z
    ·exact absurd z c2
    ·exact z
    ·exact absurd z c
   subst e
   simp
theorem BU{a b:Pl}(h:a≠b):aU (lo a b) (hi a b):=by
 unfold lo hi
 rcases l7 h with c|c
 ·have c2:=bx c
  simp[c,c2]
 ·have c2:=bx c
  simp[c,c2]
theorem AM{x y:Pl}{n:Nat}(ox:x.Ok n)(oy:y.Ok n):(lo x y).Ok n/\(hi x y).Ok n:=by
 rcases Ez x y with⟨e1,e2⟩|⟨e1,e2⟩<;>rw[e1,e2]
 ·exact⟨ox,oy⟩
 ·exact⟨oy,ox⟩
section
variable{Q:List Pl}{ts:List (List Pl)}
theorem AN{t:List Pl}(hT:qc Q t)(a b c:Pl):[a,b,c]∈vP t↔c9 t a b c:=by
 obtain⟨x,y,z,rfl,_⟩:=hT.parts
 unfold c9 vP
 simp only[Xj,XR,or_false,List.cons.injEq,and_true]
 constructor
 ·rintro(⟨rfl,rfl,rfl⟩|⟨rfl,rfl,rfl⟩|⟨rfl,rfl,rfl⟩)<;>simp
 ·rintro(⟨rfl,rfl,rfl⟩|⟨rfl,rfl,rfl⟩|⟨rfl,rfl,rfl⟩)<;>simp
theorem xW(bJ:∀t∈ts,qc Q t)(a b c:Pl):[a,b,c]∈eU ts↔∃t∈ts,c9 t a b c:=by
 unfold eU
 rw[Y5]
 constructor
 ·rintro⟨t,ht,h⟩
  exact⟨t,ht,(AN (bJ t ht) a b c).mp h⟩
 ·rintro⟨t,ht,h⟩
  exact⟨t,ht,(AN (bJ t ht) a b c).mpr h⟩
theorem qe(bJ:∀t∈ts,qc Q t)(u v:Pl):(bq (gG (eU ts)) (cN [u,v])=none/\[u,v]∉cH ts)\/∃r,bq (gG (eU ts)) (cN [u,v])=some (Pl.d r)/\∃t∈ts,c9 t u v r:=by
 rcases KW (eU ts) (zk ts) u v with⟨g,n⟩|⟨r,g,m⟩
 ·refine .inl ⟨g,λm=>?_⟩
  obtain⟨t,ht,m⟩:=cO.mp m
  obtain⟨r,h⟩:=kB (bJ t ht) m
  exact n r ((xW bJ u v r).mpr ⟨t,ht,h⟩)
 ·exact .inr ⟨r,g,(xW bJ u v r).mp m⟩
noncomputable def Cp(ts:List (List Pl))(a b c d:Pl):Prop:=(∃t∈ts,c9 t a b c)/\∃t∈ts,c9 t b a d
theorem BV{t:List Pl}{a b c d:Pl}(hT:qc Q t)(r:c9 t a b c)(r':c9 t a b d):c=d:=by
 obtain⟨x,y,z,rfl,_,_,_,_,n1,n2,n3⟩:=hT.parts
 unfold c9 at r r'
 simp only[List.cons.injEq,and_true]at r r'
 rcases r with⟨rfl,rfl,rfl⟩|⟨rfl,rfl,rfl⟩|⟨rfl,rfl,rfl⟩<;>rcases r' with⟨h1,h2,h3⟩|⟨h1,h2,h3⟩|⟨h1,h2,h3⟩<;>first|exact h3|exact h1|exact h2|(exfalso;simp_all)
theorem i8(nd:(cH ts).Nodup)(bJ:∀t∈ts,qc Q t){t u:List Pl}{a b c d:Pl}(ht:t∈ts)(hu:u∈ts)(r:c9 t a b c)(r':c9 u a b d):t=u/\c=d:=by
 have e:t=u:=rK nd ht hu r.tL r'.tL
 subst e
 exact⟨rfl,BV (bJ t ht) r r'⟩
theorem lE{a b c:Pl}(p:0<tw a b c){x y z:Pl}(h:[x,y,z].Perm [a,b,c]):c9 (jI x y z) a b c/\eG (jI x y z):=by
 obtain⟨t,i,r⟩:=Ex p
 have q1:t.Perm [a,b,c]:=by
  rcases r with rfl|rfl|rfl
  ·exact .refl _
  ·exact(XX (l₁:=[b,c]) (l₂:=[a]))
  ·exact(XX (l₁:=[c]) (l₂:=[a,b]))
 obtain⟨_,e⟩:=qT i (q1.trans h.symm)
 rw[<-e]
 exact⟨r,i⟩
theorem rM(x y z:Pl):[x,y,z].Perm [x,z,y]:= .cons _ (.swap _ _ _)
theorem Cp.one(nd:(cH ts).Nodup)(bJ:∀t∈ts,qc Q t){a b c d c' d':Pl}(h:Cp ts a b c d)(h':Cp ts a b c' d'):c=c'/\d=d':=by
 obtain⟨⟨t,ht,r⟩,⟨w,hw,r2⟩⟩:=h
 obtain⟨⟨t',ht',r'⟩,⟨w',Ra,r2'⟩⟩:=h'
 exact⟨(i8 nd bJ ht ht' r r').2,(i8 nd bJ hw Ra r2 r2').2⟩
theorem BW(a b c d:Pl):tw d c a*tw d c b=tw c d a*tw c d b:=by rw[bY c d a,bY c d b,Z7]
theorem zl(k:cI Q ts){t u:List Pl}{a b c d:Pl}(ht:t∈ts)(hu:u∈ts)(r1:c9 t a b c)(r2:c9 u b a d)(cv:tw c d a*tw c d b<0){us:List (List Pl)}{v1 v2:List Pl}(e1:c9 v1 a d c/\eG v1)(e2:c9 v2 b c d/\eG v2)(hp:us.Perm (ts.filter (λx=>decide (x∉[t,u]))++[v1,v2])):pM ts us a b c d:=
 ⟨t,u,v1,v2,ht,hu,r1,r2,e1.1,e2.1,e1.2,e2.2,cv,hp.trans XX⟩
theorem EA(k:cI Q ts){t u:List Pl}{a b c d:Pl}(ht:t∈ts)(hu:u∈ts)(h:(c9 t a b c/\c9 u b a d)\/(c9 t b a c/\c9 u a b d)) :
 (tw c d a*tw c d b<0->∀us:List (List Pl),us.Perm (ts.filter (λx=>decide (x∉[t,u]))++[jI a c d,jI b c d])->∃c' d',Cp ts a b c' d'/\pM ts us a b c' d')/\
 (¬(tw c d a*tw c d b<0)->¬ ∃c' d',Cp ts a b c' d'/\tw c' d' a*tw c' d' b<0):=by
 rcases h with⟨r1,r2⟩|⟨r1,r2⟩
 ·have ad:Cp ts a b c d:=⟨⟨t,ht,r1⟩,⟨u,hu,r2⟩⟩
  obtain⟨p1,_⟩:=r1.tw (k.bJ t ht)
  obtain⟨p2,_⟩:=r2.tw (k.bJ u hu)
  refine⟨λcv us hp=>⟨c,d,ad,?_⟩,λn ⟨c',d',h1,h2⟩=>?_⟩
  ·obtain⟨s1,s2⟩:=eS p1 p2 cv
   have g1:tw a d c= -tw c d a:=by unfold tw;grind
   have g2:=pL b c d
   exact zl k ht hu r1 r2 cv (lE (by omega) (rM a c d)) (lE (by omega) (.refl _)) hp
  ·obtain⟨rfl,rfl⟩:=ad.one k.BN.nd k.bJ h1
   exact n h2
 ·have ad:Cp ts a b d c:=⟨⟨u,hu,r2⟩,⟨t,ht,r1⟩⟩
  obtain⟨p1,_⟩:=r1.tw (k.bJ t ht)
  obtain⟨p2,_⟩:=r2.tw (k.bJ u hu)
  have pf:=BW a b c d
  refine⟨λcv us hp=>⟨d,c,ad,?_⟩,λn ⟨c',d',h1,h2⟩=>?_⟩
  ·obtain⟨s1,s2⟩:=eS p2 p1 (by omega)
   have g1:tw a c d= -tw d c a:=by unfold tw;grind
   have g2:tw b d c=tw d c b:=by unfold tw;grind
   have ef:ts.filter (λx=>decide (x∉[t,u]))=ts.filter (λx=>decide (x∉[u,t])):=Za λx _=>by
    rw[decide_eq_decide]
    simp only[Xj,XR,or_false]
    exact⟨λh z=>h z.symm,λh z=>h z.symm⟩
   rw[ef]at hp
   exact zl k hu ht r2 r1 (by omega) (lE (by omega) (.refl _)) (lE (by omega) (rM b c d)) hp
  ·obtain⟨rfl,rfl⟩:=ad.one k.BN.nd k.bJ h1
   omega
theorem vQ{t:List Pl}{a b c:Pl}(hT:qc Q t)(r:c9 t a b c\/c9 t b a c):t.filter (λq=>decide (q≠a) && decide (q≠b))=[c]:=by
 have go:∀{a b c:Pl},c9 t a b c->t.filter (λq=>decide (q≠a) && decide (q≠b))=[c]:=λ{a b c} r=>by
  obtain⟨p,_⟩:=r.tw hT
  have n1:a≠b:=λz=>by rw[z]at p;unfold tw at p;exact absurd p (by grind)
  have n2:b≠c:=λz=>by rw[z]at p;unfold tw at p;exact absurd p (by grind)
  have n3:c≠a:=λz=>by rw[z]at p;unfold tw at p;exact absurd p (by grind)
  rcases r with rfl|rfl|rfl<;>simp[List.filter,n1,n2,n3,n1.symm,n2.symm,n3.symm]
 rcases r with r|r
 ·exact go r
 ·rw[<-go r]
  exact Za λx _=>Bool.and_comm _ _
theorem AO(p q:Pl):(!L3.dH p.d q.d)=decide (p≠q):=by rw[qD];exact(decide_not).symm
theorem xX{t:List Pl}{a b c:Pl}(hT:qc Q t)(r:c9 t a b c\/c9 t b a c):t.filter (λq=>decide (q∉[a,b]))=[c]:=by
 rw[<-vQ hT r]
 refine Za λx _=>?_
 rw[Yk]
 simp
theorem G3(k:cI Q ts){t u:List Pl}{a b c d:Pl}(ht:t∈ts)(hu:u∈ts)(r1:c9 t a b c)(r2:c9 u b a d):ts.filter (λv=>decide (a∉v\/b∉v))=ts.filter (λv=>decide (v∉[t,u])):=Za λv hv=>by
 obtain⟨p1,_⟩:=r1.tw (k.bJ t ht)
 have ne:a≠b:=λz=>by rw[z]at p1;unfold tw at p1;exact absurd p1 (by grind)
 rw[decide_eq_decide]
 have bd:=kC (a:=a) (b:=b) (k.bJ v hv) ne
 constructor
 ·intro h m
  have:a∈v/\b∈v:=by
   simp only[Xj,XR,or_false]at m
   rcases m with rfl|rfl
   ·exact⟨(r1.mem a).mpr (by simp),(r1.mem b).mpr (by simp)⟩
   ·exact⟨(r2.mem a).mpr (by simp),(r2.mem b).mpr (by simp)⟩
  rcases h with h|h
  ·exact h this.1
  ·exact h this.2
 ·intro h
  apply Xk
  intro z
  have ab:a∈v/\b∈v:=⟨Xk λy=>z (.inl y),Xk λy=>z (.inr y)⟩
  rcases bd.mp ab with y|y
  ·exact h (by rw[k.lD hv ht y r1.tL];simp)
  ·exact h (by rw[k.lD hv hu y r2.tL];simp)
theorem EB(c d a:Pl):[lo c d,hi c d,a].Perm [c,d,a]:=by
 rcases Ez c d with⟨e1,e2⟩|⟨e1,e2⟩
 ·rw[e1,e2]
 ·rw[e1,e2];exact .swap _ _ _
theorem EC(k:cI Q ts){t u:List Pl}{a b c d:Pl}(ht:t∈ts)(hu:u∈ts)(r1:c9 t a b c)(r2:c9 u b a d)(cv:tw c d a*tw c d b<0):(tw (lo c d) (hi c d) a≠0/\tw (lo c d) (hi c d) b≠0)/\∀us:List (List Pl),us.Perm (ts.filter (λv=>decide (a∉v\/b∉v))++[jI (lo c d) (hi c d) a,jI (lo c d) (hi c d) b])->pM ts us a b c d:=by
 obtain⟨p1,_⟩:=r1.tw (k.bJ t ht)
 obtain⟨p2,_⟩:=r2.tw (k.bJ u hu)
 obtain⟨s1,s2⟩:=eS p1 p2 cv
 have g1:tw a d c= -tw c d a:=by unfold tw;grind
 have g2:=pL b c d
 have q1:[lo c d,hi c d,a].Perm [a,d,c]:=(EB c d a).trans ((XX (l₁:=[c,d]) (l₂:=[a])).trans (rM a c d))
 have q2:[lo c d,hi c d,b].Perm [b,c,d]:=(EB c d b).trans (XX (l₁:=[c,d]) (l₂:=[b]))
 refine⟨?_,λus hp=>?_⟩
 ·rcases Ez c d with⟨e1,e2⟩|⟨e1,e2⟩
  ·rw[e1,e2];omega
  ·rw[e1,e2]
   have:=bY c d a
   have:=bY c d b
   omega
 ·rw[G3 k ht hu r1 r2]at hp
  exact zl k ht hu r1 r2 cv (lE (by omega) q1) (lE (by omega) q2) hp
theorem uR{v w:List Pl}{a b c:Pl}(r:c9 v a b c)(r':c9 w a b c)(i:eG v)(i':eG w):v=w:=by
 have q1:∀{v:List Pl},c9 v a b c->v.Perm [a,b,c]:=λ{v} r=>by
  rcases r with rfl|rfl|rfl
  ·exact .refl _
  ·exact(XX (l₁:=[b,c]) (l₂:=[a]))
  ·exact(XX (l₁:=[c]) (l₂:=[a,b]))
 exact eG.uniq i i' ((q1 r).trans (q1 r').symm)
theorem pM.KY{us:List (List Pl)}{a b c d:Pl}(f:pM ts us a b c d):Cp ts a b c d:=by
 obtain⟨t1,t2,_,_,m1,m2,r1,r2,_⟩:=f
 exact⟨⟨t1,m1,r1⟩,⟨t2,m2,r2⟩⟩
theorem pM.uniq(k:cI Q ts){us vs:List (List Pl)}{a b c d c' d':Pl}(f:pM ts us a b c d)(g:pM ts vs a b c' d'):us.Perm vs/\c=c'/\d=d':=by
 obtain⟨rfl,rfl⟩:=f.KY.one k.BN.nd k.bJ g.KY
 obtain⟨t1,t2,u1,u2,m1,m2,r1,r2,v1,v2,i1,i2,cv,hp⟩:=f
 obtain⟨t1',Wt,Wu,Wv,UG,UH,r1',r2',v1',v2',UI,UJ,Ww,OS⟩:=g
 obtain⟨rfl,_⟩:=i8 k.BN.nd k.bJ m1 UG r1 r1'
 obtain⟨rfl,_⟩:=i8 k.BN.nd k.bJ m2 UH r2 r2'
 obtain rfl:=uR v1 v1' i1 UI
 obtain rfl:=uR v2 v2' i2 UJ
 exact⟨hp.trans OS.symm,rfl,rfl⟩
end
end L3
namespace L3
open PySem
noncomputable def UK(p q x y:Pl):Prop:=0<tw p q x/\tw p q y<0/\tw x y p<0/\0<tw x y q
end L3
namespace L3
section
variable{Q:List Pl}{ts us vs:List (List Pl)}{H:Pl->Int}{a b c d:Pl}
theorem pM.sym(h:pM us vs a b c d):pM us vs b a d c:=by
 obtain⟨t1,t2,u1,u2,m1,m2,r1,r2,v1,v2,i1,i2,cv,hp⟩:=h
 refine⟨t2,t1,u2,u1,m2,m1,r2,r1,v2,v1,i2,i1,by rw[bY c d b,bY c d a,Z7,Int.mul_comm];exact cv,?_⟩
 have ef:us.filter (λx=>decide (x∉[t2,t1]))=us.filter (λx=>decide (x∉[t1,t2])):=Za λx _=>by
  rw[decide_eq_decide]
  simp only[Xj,XR,or_false]
  exact⟨λh z=>h z.symm,λh z=>h z.symm⟩
 rw[ef]
 exact hp.trans (.swap _ _ _)
end
end L3
namespace L3
section
variable{Q:List Pl}{us vs:List (List Pl)}{a b c d:Pl}
theorem pM.back(k:cI Q us)(nf:¬Flat Q)(f:pM us vs a b c d):pM vs us c d b a:=by
 have kv:=f.KU k nf
 obtain⟨t1,t2,u1,u2,m1,m2,r1,r2,v1,v2,i1,i2,cv,hp⟩:=f
 obtain⟨p1,_⟩:=r1.tw (k.bJ _ m1)
 obtain⟨p2,_⟩:=r2.tw (k.bJ _ m2)
 have UL:=vO (k.bJ _ m1) (k.bJ _ m2) r1 r2
 have pr:=vN k.nodup UL m1 m2
 have UM:=hp.nodup_iff.mp kv.nodup
 obtain⟨x1,x2⟩:=XF.mp UM
 obtain⟨x3,_⟩:=XF.mp x2
 have pf:(vs.filter (λt=>decide (t∉[u2,u1]))).Perm (us.filter (λt=>decide (t∉[t1,t2]))):=by
  refine(hp.filter _).trans ?_
  rw[Y6 (by simp),Y6 (by simp)]
  rw[List.filter_eq_self.mpr (λt ht=>?_)]
  refine decide_eq_true λz=>?_
  rcases Xj.mp z with rfl|z
  ·exact x3 ht
  ·rw[Xq]at z
   subst z
   exact x1 (Xl _ ht)
 refine⟨u2,u1,t1,t2,hp.mem_iff.mpr (by simp),hp.mem_iff.mpr (by simp),v2.next,v1.next,r1.next.next,r2.next.next,(k.bJ _ m1).1,(k.bJ _ m2).1,?_,pr.trans (.cons _ (.cons _ pf.symm))⟩
 have e:=bY a b c
 exact YB (by omega) p2
theorem BX(k:cI Q us)(nf:¬Flat Q)(f:pM us vs a b c d){c' d':Pl}{qs:List Pl}(e:(c'=c/\d'=d)\/(c'=d/\d'=c))(hp:qs.Perm [c',d'])(hs:qs.Pairwise (λp q=> ¬aU q p)):∃g h x y,qs=[g,h]/\aU g h/\pM vs us g h x y:=by
 have fb:=f.back k nf
 have cd:c≠d:=λz=>by
  obtain⟨_,_,_,_,_,_,_,_,_,_,_,_,cv,_⟩:=f
  subst z
  have:tw c c a=0:=by unfold tw;grind
  rw[this,YH]at cv
  omega
 have h2:qs.length=2:=hp.length_eq
 match qs,h2 with
 |[g,h],_=>
  have s1:¬aU h g:=(X7.mp hs).1 h (by simp)
  have key:([g,h]:List Pl)=[c',d']\/([g,h]:List Pl)=[d',c']:=by
   have mg:g∈[c',d']:=hp.mem_iff.mp (by simp)
   simp only[Xj,XR,or_false]at mg
   rcases mg with rfl|rfl
   ·exact .inl (by rw[aah.mp ((YR g).mp hp)])
   ·exact .inr (by rw[aah.mp ((YR g).mp (hp.trans (.swap _ _ _)))])
  have two:(g=c/\h=d)\/(g=d/\h=c):=by
   rcases key with z|z<;>rcases e with⟨rfl,rfl⟩|⟨rfl,rfl⟩<;>simp only[List.cons.injEq,and_true]at z
   ·exact .inl z
   ·exact .inr z
   ·exact .inr z
   ·exact .inl z
  have gh:aU g h:=by
   rcases dM g h with z|z|z
   ·exact z
   ·exfalso
    rcases two with⟨rfl,rfl⟩|⟨rfl,rfl⟩
    ·exact cd z
    ·exact cd z.symm
   ·exact absurd z s1
  rcases two with⟨rfl,rfl⟩|⟨rfl,rfl⟩
  ·exact⟨_,_,_,_,rfl,gh,fb⟩
  ·exact⟨_,_,_,_,rfl,gh,fb.sym⟩
end
end L3
namespace L2
open PySem PySem.Spec PyProof.Rows
noncomputable def UN(g:Heap)(H:Hp)(h:Heap)(e:Addr)(cls:Value)(dc:Option Addr):Prop:=
 g.get? e=none/\H e=none/\∃oe vs,h.get? e=some oe/\(oe.cls=cls/\oe.dict=dc)/\oe.data= .fields vs/\vs[1]?=some .none
noncomputable def LB(g:Heap)(H:Hp)(h:Heap)(e:Addr)(cls fl:Value)(dc:Option Addr):Prop:=
 g.get? e=none/\H e=none/\∃oe vs T oT ts,h.get? e=some oe/\(oe.cls=cls/\oe.dict=dc)/\oe.data= .fields vs/\vs[1]?=some (.ref T)/\g.get? T=none/\H T=none/\T≠e/\h.get? T=some oT/\oT.data= .fields ts/\ts[3]?=some fl
noncomputable def nC(g:Heap)(H:Hp)(h:Heap)(e:Addr)(cls:Value)(dc:Option Addr):Prop:=UN g H h e cls dc\/LB g H h e cls .none dc
theorem nC.there{g h:Heap}{H:Hp}{e:Addr}{cls:Value}{dc:Option Addr}(x:nC g H h e cls dc):∃oe,h.get? e=some oe/\(oe.cls=cls/\oe.dict=dc)/\∃vs,oe.data= .fields vs:=by
 rcases x with⟨_,_,oe,vs,h1,h2,h3,_⟩|⟨_,_,oe,vs,_,_,_,h1,h2,h3,_⟩
 ·exact⟨oe,h1,h2,vs,h3⟩
 ·exact⟨oe,h1,h2,vs,h3⟩
theorem nC.new{g h:Heap}{H:Hp}{e:Addr}{cls:Value}{dc:Option Addr}(x:nC g H h e cls dc):g.get? e=none/\H e=none:=by
 rcases x with⟨a,b,_⟩|⟨a,b,_⟩<;>exact⟨a,b⟩
theorem nC.ahead{g g' h:Heap}{H:Hp}{e:Addr}{cls:Value}{dc:Option Addr}(x:nC g H h e cls dc)(k:∀b o,g'.get? b=some o->∃o',g.get? b=some o'):nC g' H h e cls dc:=by
 have no:∀b,g.get? b=none->g'.get? b=none:=λb n=>by
  cases q:g'.get? b with
  |none=>rfl
  |some o=>obtain⟨o',e'⟩:=k b o q;rw[n]at e';cases e'
 rcases x with⟨a,b,c⟩|⟨a,b,oe,vs,T,oT,ts,h1,h2,h3,h4,h5,r⟩
 ·exact .inl ⟨no _ a,b,c⟩
 ·exact .inr ⟨no _ a,b,oe,vs,T,oT,ts,h1,h2,h3,h4,no _ h5,r⟩
structure rN(g:Heap)(H:Hp)(S:List Addr)(h h':Heap):Prop where
 keep:∀b o,h.get? b=some o->b∉S->(H b≠none\/g.get? b≠none)->h'.get? b=some o
 slot:∀b o,h.get? b=some o->(H b≠none\/g.get? b≠none)->∃sl,h'.get? b=some {o with slots:=sl}
 there:∀b o,h.get? b=some o->∃o',h'.get? b=some o'
theorem rN.trans{g h h1 h2:Heap}{H:Hp}{S:List Addr}(a:rN g H S h h1)(b:rN g H S h1 h2):rN g H S h h2 where
 keep:=λc o q n k=>b.keep c o (a.keep c o q n k) n k
 slot:=λc o q k=>by
  obtain⟨sl,e⟩:=a.slot c o q k
  obtain⟨Ja,e'⟩:=b.slot c _ e k
  exact⟨Ja,e'⟩
 there:=λc o q=>by
  obtain⟨o',e⟩:=a.there c o q
  exact b.there c o' e
theorem rN.KZ{g h:Heap}{H:Hp}{S:List Addr}{x:Addr}{f:Obj->Obj}(h1:g.get? x=none)(h2:H x=none){o:Obj}(ho:h.get? x=some o)(hf:(f o).isFreed=false):rN g H S h (h.update x f):=by
 have ne:∀b,(H b≠none\/g.get? b≠none)->x≠b:=λb k z=>by
  subst z
  rcases k with k|k
  ·exact k h2
  ·exact k h1
 refine⟨λb u q _ k=>by rw[Heap.get?_update_other _ _ (ne b k)];exact q,λb u q k=>⟨u.slots,by rw[Heap.get?_update_other _ _ (ne b k)];exact q⟩,λb u q=>?_⟩
 by_cases hb:x=b
 ·subst hb
  exact⟨_,Heap.get?_update_self _ ho hf⟩
 ·exact⟨u,by rw[Heap.get?_update_other _ _ hb];exact q⟩
theorem rN.kept{g h h':Heap}{H:Hp}{S:List Addr}(k:∀b u,h.get? b=some u->h'.get? b=some u):rN g H S h h':=
 ⟨λb o q _ _=>k b o q,λb o q _=>⟨o.slots,k b o q⟩,λb o q=>⟨o,k b o q⟩⟩
theorem rN.slots{g h h':Heap}{H:Hp}{S:List Addr}(x:Heap.SlotsOnly S h h'):rN g H S h h':=
 ⟨λb o q n _=>by rw[x.2.1 b n];exact q,λb o q _=>x.2.2 b o q,λb o q=>let ⟨_,e⟩:=x.2.2 b o q;⟨_,e⟩⟩
theorem BY(f:Array Value->Array Value)(o:Obj):(o.mapFields f).dict=o.dict:=by
 obtain⟨c,d,dt,sl⟩:=o
 cases dt<;>rfl
section
variable{M:Model}{A:Around}{E:Value->Shared->Prop}{s:Shared}
theorem xY{g base:Heap}{H:Hp}{env:Env}{outer:List Env}{L e:Addr}{oe:Obj}{dc:Option Addr}{vs:Array Value}{head:Value}{hadNext:Bool}{Q:Unit->Shared->Prop}
 (hfr:A.frames=some (env::outer))(hl:s.heap.FunFrames base (env::outer))(hf:env.frame=some L)
 (ge:g.get? e=none)(He:H e=none)(hdn:oe.dict=dc)(he:s.heap.get? e=some oe)(hd:oe.data= .fields vs)(hsz:1<vs.size)
 (gk:∀b o,g.get? b=some o->∃o',s.heap.get? b=some o')(Hk:∀b,s.heap.objs.size<=b->H b=none)
 (h:∀h',rN g H (frs (env::outer)) s.heap h'->LB g H h' e oe.cls (rawInt L) dc->Q () {s with heap:=h'}) :
 wpAny M A (do let a <-frameOf env;let pl <-entryPlaceOf L hadNext;let b <-EntryCells.newEntry head a .none (rawInt L) .none pl;setField (.ref e) 1 b) Q E s:=by
 have Rb:e∉(env::outer).filterMap (·.frame):=λhm=>by
  obtain⟨_,o,ho,hnf⟩:=hl.mem hm
  rw[he]at ho;injection ho with ho;subst ho;exact hnf vs hd
 refine wpAny_bind (wpAny_frameOf_fun hfr hl hf λh₁ hs₁=>?_)
 refine wpAny_bind (wpAny_entryPlaceOf λpl hpl=>?_)
 unfold EntryCells.newEntry newFields
 refine wpAny_bind (wpAny_newObj_type ?_ (hpl.sizeOk5 _ _ _ _ _))
 have Sl:h₁.get? e=some oe:=(hs₁.2.1 e Rb).trans he
 have MQ:=Heap.get?_push_of_some (h:=h₁) {cls:= .type "traceback",dict:=none,data:= .fields ([head,.ref L,.none,rawInt L,.none]++(if pl.isEmpty then List.replicate 6 Value.none else pl)).toArray} Sl
 refine wpAny_setField MQ hd hsz (h _ ?_ ?_)
 ·refine(rN.slots hs₁).trans ((rN.kept λb u q=>Heap.get?_push_of_some _ q).trans (rN.KZ ge He MQ (Obj.isFreed_of_fields (Obj.data_mapFields hd _))))
 ·have K0:h₁.objs.size≠e:=X5 (Heap.lt_size Sl)
  have hd₃:=Obj.data_mapFields hd (·.setIfInBounds 1 (Value.ref h₁.objs.size))
  have UO:=Heap.get?_update_self (Obj.mapFields (·.setIfInBounds 1 (Value.ref h₁.objs.size))) MQ (Obj.isFreed_of_fields hd₃)
  have UP:=(Heap.get?_update_other (h₁.push {cls:= .type "traceback",dict:=none,data:= .fields ([head,.ref L,.none,rawInt L,.none]++(if pl.isEmpty then List.replicate 6 Value.none else pl)).toArray})
   (Obj.mapFields (·.setIfInBounds 1 (Value.ref h₁.objs.size))) (Ne.symm K0)).trans (Heap.get?_push_size h₁ rfl)
  have gT:g.get? h₁.objs.size=none:=by
   cases q:g.get? h₁.objs.size with
   |none=>rfl
   |some o=>
    obtain⟨o',e'⟩:=gk _ o q
    have:=Heap.lt_size e'
    rw[hs₁.1]at this
    exact absurd this (Ys _)
  exact⟨ge,He,_,_,h₁.objs.size,_,_,UO,⟨Obj.cls_mapFields _ _,(BY _ _).trans hdn⟩,hd₃,by simp[hsz],gT,Hk _ (Zz hs₁.1.symm),K0,UP,rfl,by first|(simp;done)|(rcases hpl with rfl|⟨_,_,_,_,_,_,_,rfl⟩<;>simp)⟩
theorem AQ{g base:Heap}{H:Hp}{env:Env}{outer:List Env}{L e:Addr}{cls:Value}{dc:Option Addr}{Q:Unit->Shared->Prop}
 (hfr:A.frames=some (env::outer))(hl:s.heap.FunFrames base (env::outer))(hf:env.frame=some L)(hx:nC g H s.heap e cls dc)
 (gk:∀b o,g.get? b=some o->∃o',s.heap.get? b=some o')(Hk:∀b,s.heap.objs.size<=b->H b=none)
 (h:∀h',rN g H (frs (env::outer)) s.heap h'->LB g H h' e cls (rawInt L) dc->Q () {s with heap:=h'}):wpAny M A (noteFrame (.ref e) env) Q E s:=by
 rcases hx with⟨ge,He,oe,vs,he,⟨hcls,hdn⟩,hd,h1⟩|⟨ge,He,oe,vs,T,oT,ts,he,⟨hcls,hdn⟩,hd,h1,gT,HT,K0,hT,G4,h3⟩
 ·subst hcls
  unfold noteFrame
  simp only[hf]
  refine wpAny_bind (wpAny_field he hd h1 ?_)
  rw[if_neg (by decide)]
  exact xY hfr hl hf ge He hdn he hd (Array.getElem?_eq_some_iff.mp h1).1 gk Hk h
 ·subst hcls
  unfold noteFrame
  simp only[hf]
  refine wpAny_bind (wpAny_field he hd h1 ?_)
  rw[if_pos (show(Value.ref T !=Value.none)=true from by simp)]
  refine wpAny_bind (wpAny_field hT G4 h3 ?_)
  rw[if_neg (show¬((Value.none==rawInt L)=true)from by simp[rawInt])]
  refine wpAny_bind (wpAny_setField hT G4 (Array.getElem?_eq_some_iff.mp h3).1 ?_)
  have other:∀b,b≠T->(s.heap.update T (Obj.mapFields (·.setIfInBounds 3 Value.none))).get? b=s.heap.get? b:=λb hb=>Heap.get?_update_other _ _ (Ne.symm hb)
  have ED:∀b o,s.heap.get? b=some o->(∀vs,o.data≠ .fields vs)->b≠T:=λb o hb hnf q=>by
   rw[q,hT]at hb;injection hb with hb;subst hb;exact hnf ts G4
  have st:rN g H (frs (env::outer)) s.heap (s.heap.update T (Obj.mapFields (·.setIfInBounds 3 Value.none))):=rN.KZ gT HT hT (Obj.isFreed_of_fields (Obj.data_mapFields G4 _))
  refine xY hfr (hl.of_keeps λb o hb hnf=>⟨o,(other b (ED b o hb hnf)).trans hb,rfl⟩) hf ge He hdn ((other e (Ne.symm K0)).trans he) hd (Array.getElem?_eq_some_iff.mp h1).1
   (λb o q=>let ⟨o',e'⟩:=gk b o q;st.there b o' e') (λb hb=>Hk b (by rw[<-Heap.size_after_update];exact hb)) λh' a b=>h h' (st.trans a) b
theorem vR{g:Heap}{H:Hp}{S:List Addr}{e:Addr}{cls fl:Value}{dc:Option Addr}{Q:Unit->Shared->Prop}(hx:LB g H s.heap e cls fl dc)
 (h:∀h',rN g H S s.heap h'->LB g H h' e cls .none dc->Q () {s with heap:=h'}):wpAny M A (setFlight (.ref e) none) Q E s:=by
 obtain⟨ge,He,oe,vs,T,oT,ts,he,hcls,hd,h1,gT,HT,K0,hT,G4,h3⟩:=hx
 have NY:3<ts.size:=(Array.getElem?_eq_some_iff.mp h3).1
 unfold setFlight
 refine wpAny_bind (wpAny_field he hd h1 ?_)
 rw[if_pos (show(Value.ref T !=Value.none)=true from by simp)]
 refine wpAny_setField hT G4 NY (h _ (rN.KZ gT HT hT (Obj.isFreed_of_fields (Obj.data_mapFields G4 _))) ?_)
 exact⟨ge,He,oe,vs,T,_,_,(Heap.get?_update_other _ _ K0).trans he,hcls,hd,h1,gT,HT,K0,Heap.get?_update_self _ hT (Obj.isFreed_of_fields (Obj.data_mapFields G4 _)),Obj.data_mapFields G4 _,by simp[NY]⟩
theorem EE{g base:Heap}{H:Hp}{env:Env}{outer:List Env}{L e:Addr}{cls:Value}{dc:Option Addr}{Q:Unit->Shared->Prop}
 (hfr:A.frames=some (env::outer))(hl:s.heap.FunFrames base (env::outer))(hf:env.frame=some L)(hx:nC g H s.heap e cls dc)
 (gk:∀b o,g.get? b=some o->∃o',s.heap.get? b=some o')(Hk:∀b,s.heap.objs.size<=b->H b=none)
 (h:∀h',rN g H (frs (env::outer)) s.heap h'->LB g H h' e cls .none dc->Q () {s with heap:=h'}):wpAny M A (leaving env (.ref e)) Q E s:=by
 unfold leaving
 refine wpAny_bind (AQ hfr hl hf hx gk Hk λh1 st1 x1=>?_)
 exact vR (s:={s with heap:=h1}) x1 λh2 st2 x2=>h h2 (st1.trans st2) x2
end
theorem gY.IC{P:Program}{w:World}{g h h':Heap}{H:Hp}{S:List Addr}(x:gY P w H h)(st:rN g H S h h')(hS:∀b∈S,H b=none):gY P w H h':=λa o e=>
 (x a o e).stay (λb u hb q=>by
  have hn:H b≠none:=by
   rcases hb with rfl|hb
   ·rw[e];simp
   ·rw[hb];simp
  exact st.keep b u q (λz=>hn (hS b z)) (.inl hn)) (λ_ r=>r) λ_ _ r=>r
theorem Un.IC{fs S:List Addr}{h h1 h':Heap}{H H1:Hp}(u:Un fs [] H H1 h h1)(st:rN h H1 S h1 h')(hS:∀b o,h.get? b=some o->b∈S->b∈fs):Un fs [] H H1 h h' where
 keep:=λb o q n hb _=>st.keep b o (u.keep b o q n hb (by simp)) (λz=>hb (hS b o q z)) (.inr (by rw[q];simp))
 slot:=λb o q n hb _=>by
  obtain⟨sl,e⟩:=u.slot b o q n hb (by simp)
  obtain⟨Ja,e'⟩:=st.slot b _ e (.inr (by rw[q];simp))
  exact⟨Ja,e'⟩
 free:=u.free
 there:=λb o q _=>by
  obtain⟨o',e⟩:=u.there b o q (by simp)
  exact st.there b o' e
 tups:=u.tups
 lX:=u.lX
 mO:=u.mO
end L2
namespace L2
open PySem PySem.Spec PyProof.Rows PySem.W
structure Rc(K:PySem.W.Frag)(C:Addr):Prop where
 ga:findIn K (.ref C) "__getattribute__" =some (some (.builtin "BaseException.__getattribute__"))
 gt:findIn K (.ref C) "__getattr__" =some none
 cl:findIn K (.ref C) "__class__" =some (some (.builtin "object.__class__"))
 sb:subIn K (.ref C) (.type "BaseException")=some true
 mo:mroIn K C (.type "object")=some true
 is:(clsIn K C).isSome=true
section
variable{prog:Program}{w:World}{A:Around}{E:Value->Shared->Prop}{h:Heap}{g:Array GenState}{d:Drawn}{t:Nat}{os:OsState}{a:Addr}{o:Obj}{K:PySem.W.Frag}{C:Addr}
theorem sub_K{M:Model}{v u:Value}{r:Bool}{Q:Bool->Shared->Prop}(X:K.In h)(e:subIn K v u=some r)(hq:Q r ⟨h,g,d,t,os⟩):wpAny M A (isSubtype v u) Q E ⟨h,g,d,t,os⟩:=(looks_subIn X e).at hq
end
end L2
namespace L3
open PySem PySem.Spec PyProof.Rows L2
noncomputable abbrev Rf:List Value:=[.type "ValueError",.type "Exception",.type "BaseException",.type "object"]
structure XC(K:PySem.W.Frag)(C:Addr):Prop extends Rc K C where
 ex:PySem.W.excIn K C Rf "ValueError.__new__" =true
noncomputable def Rg(X:Cx)(pins:List (Addr ×Obj))(M:Mp)(H:Hp)(xp:Addr->Prop):Value->Shared->Prop:=λe s'=>
 ∃a C σ' H' M',e= .ref a/\Inv X pins σ' H' s'/\Fr M H M' H'/\nC X.s₀.heap H' s'.heap a (.ref C) none/\xp C
noncomputable abbrev UQ:=En->Mp->DK->(Addr->Prop)->Prop
noncomputable abbrev Sn:=yt->(Addr->Prop)->En->Mp->Prop
structure Wx(X:Cx)(e:Expr)(t:UQ):Prop where
 run:∀(pins:List (Addr ×Obj)) (s:Shared) (σ:St) (H:Hp) (ρ:En) (M:Mp) (Q:DK) (xp:Addr->Prop),Inv X pins σ H s->Rep X.K H σ ρ M->t ρ M Q xp->wpAny (model X.prog X.w) X.A (eval e X.env) (EP X pins σ (Post X.K M H Q)) (Rg X pins M H xp) s
structure Wy(X:Cx)(st:Stmt)(t:Sn):Prop where
 run:∀(pins:List (Addr ×Obj)) (s:Shared) (σ:St) (H:Hp) (ρ:En) (M:Mp) (D:yt) (xp:Addr->Prop),Inv X pins σ H s->Rep X.K H σ ρ M->t D xp ρ M->wpAny (model X.prog X.w) X.A (exec st X.env) (SP X pins (ends X.K M H D)) (Rg X pins M H xp) s
structure UR(X:Cx)(st:List Stmt)(t:Sn):Prop where
 run:∀(pins:List (Addr ×Obj)) (s:Shared) (σ:St) (H:Hp) (ρ:En) (M:Mp) (D:yt) (xp:Addr->Prop),Inv X pins σ H s->Rep X.K H σ ρ M->t D xp ρ M->wpAny (model X.prog X.w) X.A (execs st X.env) (SP X pins (ends X.K M H D)) (Rg X pins M H xp) s
section
variable{X:Cx}{e a b:Expr}{st:Stmt}{rest:List Stmt}{pos:Pos}
variable{k:Nat}{f:Addr}{fd:FuncData}{ps:List Str}{x:Str}{es:List Expr}{p:Pos}
end
end L3
namespace L3
open PySem PySem.Spec PyProof.Rows L2
section
variable{X:Cx}{pins:List (Addr ×Obj)}{σ:St}{H:Hp}{s:Shared}
theorem G5{M:Model}{A:Around}{E:Value->Shared->Prop}{i:Nat}{x:Str}{pos:Pos}{Q:Unit->Shared->Prop}(I:Inv X pins σ H s)(hN:X.N.Nodup)(hi:X.N[i]?=some x)(hk:X.env.scope.names.lookup x=some .local)
 (h:∀s',Inv X pins (σ.set i none) H s'->Q () s'):wpAny M A (do bindName X.env x .none;unbindBehindTheSuite X.env x pos) Q E s:=by
 obtain⟨m,hn,hl⟩:=id I.loc
 have hcls:(X.env.scope.kind== .class || (X.env.scope.kind== .module && X.env.locals !=X.env.globals))=false:=by rw[I.ok.kind];rfl
 have OB:i<σ.length:=by rw[I.len];exact(XH.mp hi).1
 have CA:=I.CA
 obtain⟨oL,_,_,RJ,_⟩:=id hn
 refine wpAny_nameGoes_keeps hk hn hcls λh' v hn' hs=>?_
 refine h _ ⟨I.ok,I.os,I.bare,⟨λb o e n hb hx=>?_,λb o e n hb hx=>?_,I.base.free,λb o e hx=>?_,I.base.tups,I.base.lX,I.base.mO⟩,⟨_,hn',λj y v' e1 e2 e3=>?_⟩,λy c e=>?_,I.free,I.gB,λp hp=>?_,λb ob e=>?_,by simpa using I.len⟩
 ·exact(hs.2 b (XG (Xp (Heap.lt_size e) I.ok.above))).trans (I.base.keep b o e n hb hx)
 ·obtain⟨sl,e1⟩:=I.base.slot b o e n hb hx
  exact⟨sl,(hs.2 b (XG (Xp (Heap.lt_size e) I.ok.above))).trans e1⟩
 ·obtain⟨o',e1⟩:=I.base.there b o e hx
  exact⟨o',(hs.2 b (XG (Xp (Heap.lt_size e) I.ok.above))).trans e1⟩
 ·by_cases hj:j=i
  ·subst hj
   rw[YG OB]at e2
   cases e2
  ·rw[Y0 (Ne.symm hj)]at e2
   obtain⟨u',r',q⟩:=hl j y v' e1 e2 e3
   refine⟨u',r',?_⟩
   rcases q with⟨k,e⟩|⟨k,c,e,z⟩
   ·refine .inl ⟨k,?_⟩
    have:y≠x:=λe=>hj (qj hN e1 (e▸hi))
    simp[this,e]
   ·exact .inr ⟨k,c,e,z.sameBut hs (CA y c e)⟩
 ·obtain⟨w',z⟩:=I.cell y c e
  exact⟨w',z.sameBut hs (CA y c e)⟩
 ·obtain⟨e,n,ne,nf,d⟩:=I.pin p hp
  exact⟨(hs.2 p.1 ne).trans e,n,ne,nf,d⟩
 ·refine(I.hok b ob e).stay (λc w' hc q=>(hs.2 c ?_).trans q) (λ_ q=>q) λ_ _ q=>q
  rintro rfl
  rcases hc with rfl|hc
  ·rw[I.free]at e;cases e
  ·rw[I.free]at hc;cases hc
theorem Rep.unset{K:PySem.W.Frag}{H:Hp}{σ:St}{ρ:En}{M:Mp}{i:Nat}(r:Rep K H σ ρ M):Rep K H (σ.set i none) (ρ.set i none) M:=by
 refine⟨λj e q=>?_,by simp[r.len],r.mem⟩
 by_cases hj:i=j
 ·subst hj
  by_cases hl:i<ρ.length
  ·rw[YG hl]at q;cases q
  ·rw[YC (by simp;omega)]at q;cases q
 ·rw[Y0 hj]at q ⊢
  exact r.env j e q
end
section
variable{X:Cx}{e:Expr}{es:List Expr}{k:Nat}{f:Addr}{fd:FuncData}{ps:List Str}{x cn n:Str}{p pos epos cpos hp cp:Pos}
end
section
variable{X:Cx}
end
end L3
namespace lK
open PySem PySem.Spec PyProof.Rows PySem.W PySem.Calls Builtin Builtin.ObjectAttr
noncomputable abbrev NZ:List Value:=[.type "ValueError",.type "Exception",.type "BaseException",.type "object"]
noncomputable abbrev pN(C t:Addr):Obj:={cls:= .ref C,data:= .fields #[.ref t,.none,.none,.none,.bool false,.none]}
noncomputable abbrev N1(C t d:Addr):Obj:={cls:= .ref C,dict:=some d,data:= .fields #[.ref t,.none,.none,.none,.bool false,.none]}
section
variable{prog:Program}{w:World}{A:Around}{E:Value->Shared->Prop}{s:Shared}{K:Frag}{C L:Addr}{h₀:Heap}{m:Str->Option Value}{news:List (Addr ×Obj)}{Q:Value->Shared->Prop}
end
structure XC(K:PySem.W.Frag)(C:Addr):Prop where
 ga:findIn K (.ref C) "__getattribute__" =some (some (.builtin "BaseException.__getattribute__"))
 gt:findIn K (.ref C) "__getattr__" =some none
 cl:findIn K (.ref C) "__class__" =some (some (.builtin "object.__class__"))
 sb:subIn K (.ref C) (.type "BaseException")=some true
 mo:mroIn K C (.type "object")=some true
 is:isClsIn K C=true
section
variable{prog:Program}{w:World}{A:Around}{E:Value->Shared->Prop}{h:Heap}{g:Array GenState}{d:Drawn}{t:Nat}{os:OsState}{a:Addr}{o:Obj}{od:Option Obj}{K:PySem.W.Frag}{C:Addr}
theorem EF{M:Model}{v:Value}{n:Str}{r:Option Value}{Q:Option Value->Shared->Prop}(X:K.In h)(e:findIn K v n=some r)(hq:Q r ⟨h,g,d,t,os⟩):wpAny M A (typeLookup v n) Q E ⟨h,g,d,t,os⟩:=(looks_findIn X e).at hq
theorem sub_K{M:Model}{v u:Value}{r:Bool}{Q:Bool->Shared->Prop}(X:K.In h)(e:subIn K v u=some r)(hq:Q r ⟨h,g,d,t,os⟩):wpAny M A (isSubtype v u) Q E ⟨h,g,d,t,os⟩:=(looks_subIn X e).at hq
theorem xZ{M:Model}{nameV:Value}{Q:Unit->Shared->Prop}(X:K.In h)(Z:XC K C)(hx:h.get? a=some o)(hc:o.cls= .ref C)(hq:Q () ⟨h,g,d,t,os⟩) :
 wpAny M A (checkBuiltinCall "BaseException.__getattribute__" ⟨[.ref a,nameV],[]⟩) Q E ⟨h,g,d,t,os⟩:=by
 have hk:builtinKind "BaseException.__getattribute__" =some .slot:=by decide +kernel
 have hsplit:splitId "BaseException.__getattribute__" =some ("BaseException","__getattribute__"):=by decide +kernel
 have ha:=F.args_bexc_ga (.ref a) nameV
 simp only[checkBuiltinCall,hk,hsplit]
 refine wpAny_bind ?_
 ·unfold isInstance
  repeat(first|(with_reducible refine wpAny_loadPart_at hx ?_;rw[hc])|with_reducible refine sub_K X Z.sb ?_|wp_step)
  exact hq
theorem EG{tk:Tok}{Q:Fin->Shared->Prop}(X:K.In h)(Z:XC K C)(I:InstAt h a o C od)(hq:Q (.done (.ret (.ref C))) ⟨h,g,d,t,os⟩) :
 wpAny (model prog w) A (Builtin.«object.__getattribute__» ⟨[.ref a,.str "__class__" tk],[]⟩) Q E ⟨h,g,d,t,os⟩:=by
 have hx:=I.at_
 have hc:=I.cls
 have Wz:(⟨h,g,d,t,os⟩:Shared).TypeIs (.builtin "object.__class__") "getset_descriptor" :=F.typeOf_object_class
 have f5:=F.typeOf_object_class
 have f6:=F.slot_gs_get.lookup
 have f7:=F.slot_gs_set.lookup
 repeat(any_goals(first|assumption|(with_reducible refine wpAny_loadPart_at hx ?_;rw[hc])|with_reducible refine EF X Z.cl ?_|wp_step))
 refine class_get (s:=⟨h,g,d,t,os⟩) X I Z.mo ?_
 repeat(any_goals(first|assumption|wp_step))
theorem EH{name:Str}{v:Value}{tk:Tok}{Q:Fin->Shared->Prop}(X:K.In h)(I:InstAt h a o C od)(hf:findObj K C od name=some (.value v))(hq:Q (.done (.ret v)) ⟨h,g,d,t,os⟩) :
 wpAny (model prog w) A (Builtin.«object.__getattribute__» ⟨[.ref a,.str name tk],[]⟩) Q E ⟨h,g,d,t,os⟩:=by
 have L0:=I.type (M:=model prog w)
 have L1:=looks_find (M:=model prog w) X I hf
 refine wpAny_bind (wpAny_pure (wpAny_bind (wpAny_pure (wpAny_bind (L0.at (wpAny_bind (L1.at ?_)))))))
 exact wpAny_pure hq
theorem G6{tk:Tok}{R:Result->Shared->Prop}(X:K.In h)(Z:XC K C)(I:InstAt h a o C od)(hq:R (.ok (.ret (.ref C))) ⟨h,g,d,t,os⟩) :
 codeAny (model prog w) A (.call (.builtin "BaseException.__getattribute__") ⟨[.ref a,.str "__class__" tk],[]⟩) R ⟨h,g,d,t,os⟩:=
 codeAny_call_builtin F.attr_ValueError.ga.plain F.entry_bexc_ga (xZ X Z I.at_ I.cls (EG X Z I hq))
theorem G7{name:Str}{v:Value}{tk:Tok}{R:Result->Shared->Prop}(X:K.In h)(Z:XC K C)(I:InstAt h a o C od)(hf:findObj K C od name=some (.value v))(hq:R (.ok (.ret v)) ⟨h,g,d,t,os⟩) :
 codeAny (model prog w) A (.call (.builtin "BaseException.__getattribute__") ⟨[.ref a,.str name tk],[]⟩) R ⟨h,g,d,t,os⟩:=
 codeAny_call_builtin F.attr_ValueError.ga.plain F.entry_bexc_ga (xZ X Z I.at_ I.cls (EH X I hf hq))
theorem N4{tk:Tok}{fill expr:Bool}{Q:Value->Shared->Prop}(X:K.In h)(Z:XC K C)(I:InstAt h a o C od)(hq:Q (.ref C) ⟨h,g,d,t,os⟩) :
 wpAny (model prog w) A (getAttrBy (.ref a) (.str "__class__" tk) fill expr) Q E ⟨h,g,d,t,os⟩:=by
 have hx:=I.at_
 have hc:=I.cls
 have f3:=F.attr_ValueError.ga.bind (.ref a)
 have LC:(expr && onTheHeap (Value.builtin "BaseException.__getattribute__"))=false:=by cases expr<;>rfl
 have nP:(Value.builtin "BaseException.__getattribute__" ==Value.builtin "object.__getattribute__")=false:=by decide +kernel
 have K1:(onTheHeap (Value.ref C) && Value.builtin "BaseException.__getattribute__" ==Value.builtin "object.__getattribute__")=false:=by rw[nP];rfl
 repeat(any_goals(first|assumption|(with_reducible refine wpAny_loadPart_at hx ?_;rw[hc])|with_reducible refine EF X Z.ga ?_|with_reducible refine EF X Z.gt ?_|wp_step))
 refine G6 X Z I ?_
 repeat(any_goals(first|assumption|wp_step))
theorem N5{name:Str}{v:Value}{tk:Tok}{fill expr:Bool}{Q:Value->Shared->Prop}(X:K.In h)(Z:XC K C)(I:InstAt h a o C od)(hf:findObj K C od name=some (.value v))(hv:handedIn v=true)(hq:Q v ⟨h,g,d,t,os⟩) :
 wpAny (model prog w) A (getAttrBy (.ref a) (.str name tk) fill expr) Q E ⟨h,g,d,t,os⟩:=by
 have hx:=I.at_
 have hc:=I.cls
 have hh:=handedOut_of hv
 have f3:=F.attr_ValueError.ga.bind (.ref a)
 have LC:(expr && onTheHeap (Value.builtin "BaseException.__getattribute__"))=false:=by cases expr<;>rfl
 have nP:(Value.builtin "BaseException.__getattribute__" ==Value.builtin "object.__getattribute__")=false:=by decide +kernel
 have K1:(onTheHeap (Value.ref C) && Value.builtin "BaseException.__getattribute__" ==Value.builtin "object.__getattribute__")=false:=by rw[nP];rfl
 repeat(any_goals(first|assumption|(with_reducible refine wpAny_loadPart_at hx ?_;rw[hc])|with_reducible refine EF X Z.ga ?_|with_reducible refine EF X Z.gt ?_|wp_step))
 refine G7 X Z I hf ?_
 repeat(any_goals(first|assumption|wp_step))
theorem G8{Q:Option Value->Shared->Prop}(X:K.In h)(Z:XC K C)(I:InstAt h a o C od)(hq:Q (some (.ref C)) ⟨h,g,d,t+1,os⟩):wpAny (model prog w) A (getAttr? (.ref a) "__class__") Q E ⟨h,g,d,t,os⟩:=by
 unfold getAttr? getAttrBy?
 repeat(any_goals(first|assumption|with_reducible apply N4 X Z I|wp_step))
theorem x6(Z:XC K C):KitX K (.ref a) (.ref C) (λh=>∃o od,InstAt h a o C od) where
 ty:=λ_ _ _ ⟨_,_,I⟩=>I.type
 it:=λ_ _ X _=>by
  have G9:(clsIn K C).isSome=true:=Z.is
  unfold clsIn at G9
  split at G9
  ·rename_i c' d' US Ja ho
   intro A' Q' E' s' k q
   unfold isType loadHead
   exact wpAny_bind (wpAny_loadPart (k _ _ (X _ _ ho)) (wpAny_pure q))
  ·cases G9
 ne:=λh tp dd its n sl X htp=>by
  refine ZS.mpr λq=>?_
  have e:C=tp:=Value.ref.inj (beq_iff_eq.mp q)
  subst e
  have G9:(clsIn K C).isSome=true:=Z.is
  unfold clsIn at G9
  split at G9
  ·rename_i c' d' US Ja ho
   have z:=(X _ _ ho).symm.trans htp
   cases z
  ·cases G9
 ca:=λ{_ _ _ _ _ s} X ⟨_,_,I⟩ k=>by obtain⟨h,g,d,t,os⟩:=s;exact G8 X Z I k
end
section
variable{prog:Program}{w:World}{A:Around}{E:Value->Shared->Prop}{s:Shared}{K:Frag}{C L x:Addr}{h₀:Heap}{m:Str->Option Value}{news:List (Addr ×Obj)}{Q:Value->Shared->Prop}
end
noncomputable def rO(K:Frag)(C:Addr):Bool:=match K.lookup C with
 |some ⟨.type "type",_,.cls cd,sl⟩=>(match cd.mro,sl.toList with
  | .ref C'::bm,[_,_,_,_,some (.builtin n),_]=>C'==C && n== "ValueError.__new__" && !cd.hasDel && tailIn K NZ bm
  |_,_=>false)
 |_=>false
section
variable{prog:Program}{w:World}{A:Around}{E:Value->Shared->Prop}{s:Shared}{K:Frag}{C L x:Addr}{h₀:Heap}{m:Str->Option Value}{news:List (Addr ×Obj)}{Q:Value->Shared->Prop}
theorem vS{h:Heap}(X:K.In h)(q:rO K C=true) :
 ∃bm N nm q bs hdct sn sub ab col dd k0 k1 k2 k3 k5,h.get? C=some (excClassObj nm q C N bs bm hdct sn sub ab col dd k0 k1 k2 k3 k5 "ValueError.__new__")/\OwnTail h NZ bm:=by
 unfold rO at q
 split at q
 ·rename_i dd cd sl ho
  split at q
  ·rename_i C' bm k0 k1 k2 k3 n k5 hm hs
   simp only[X3,beq_iff_eq,YF]at q
   obtain⟨⟨⟨rfl,rfl⟩,N6⟩,ht⟩:=q
   obtain⟨nm,bs,mro,ns,qn,hd,sn,sub,ab,col,del⟩:=cd
   dsimp only at hm N6
   subst hm N6
   have hsl:sl= #[k0,k1,k2,k3,some (.builtin "ValueError.__new__"),k5]:=by
    obtain⟨l⟩:=sl
    simp only at hs
    rw[hs]
   subst hsl
   exact⟨bm,ns,nm,qn,bs,hd,sn,sub,ab,col,dd,k0,k1,k2,k3,k5,X _ _ ho,tail_of_in X ht⟩
  ·cases q
 ·cases q
theorem BZ{h:Heap}{g:Array GenState}{d:Drawn}{t:Nat}{os:OsState}{R:Result->Shared->Prop}{rest:List Value}{fI:Addr}(X:K.In h)(q:rO K C=true)
 (hcall:specialIn K (.ref C) "__call__" =some (some (.builtin "type.__call__")))(Rh:instIn K (.ref C) (.type "type")=some true)
 (hi:findIn K (.ref C) "__init__" =some (some (.ref fI)))(hf:isFn K (.ref fI)=true)(hr:rest.length<=sizeLine)
 (hq:codeAny (model prog w) (A.under (.builtin "type.__call__" ⟨.ref C::rest,[]⟩)) (.call (.ref fI) ⟨.ref (h.objs.size+1)::rest,[]⟩) (InitBack (h.objs.size+1) R) ⟨(h.push (⟨.type "tuple",none,.seq rest.toArray,#[]⟩:Obj)).push (pN C h.objs.size),g,d,t,os⟩) :
 codeAny (model prog w) A (.call (.ref C) ⟨rest,[]⟩) R ⟨h,g,d,t,os⟩:=by
 have B:=PySem.F.excBase_ValueError
 obtain⟨bm,N',nm,q',bs,hdct,sn,sub,ab,col,dd,k0,k1,k2,k3,k5,hC,T⟩:=vS X q
 have call:=looks_specialIn (M:=model prog w) X hcall
 have typ:=looks_instIn (M:=model prog w) X Rh
 refine codeAny_of_tree ?_
 show wpAny _ _ (callAny (.ref C) _) _ _ _
 refine nd_load hC ?_
 show wpAny _ _ (callAny.viaDunder (.ref C) _) _ _ _
 unfold callAny.viaDunder
 refine wpAny_bind (call.at ?_)
 dsimp only
 rw[tc_bind]
 refine wpAny_bind (wpAny_pure (wpAny_bind (wpAny_pure ?_)))
 refine wpAny_pure (a:=Fin.again (.call (.builtin "type.__call__") ⟨.ref C::rest,[]⟩)) (And.intro rfl ?_)
 refine codeAny_call_builtin_at (Code.quiet_builtin _ (by decide +kernel)) entry_typeCall (check_slot tc_kind tc_split typ (tc_args _ _ _) ?_)
 repeat(first|with_reducible refine wpAny_loadPart_at hC ?_|with_reducible refine wpAny_madeBy_exc hC ?_|wp_step)
 refine codeAny_call_builtin_code (Code.quiet_builtin _ B.quiet) (wpAny_check_new_subT B T hC ?_)
 refine codeAny_exc_new_subT B T hC ?_ hr
 have k:∀b o,h.get? b=some o->((h.push (⟨.type "tuple",none,.seq rest.toArray,#[]⟩:Obj)).push (pN C h.objs.size)).get? b=some o:=λb o e=>Heap.get?_push_of_some _ (Heap.get?_push_of_some _ e)
 have hx:((h.push (⟨.type "tuple",none,.seq rest.toArray,#[]⟩:Obj)).push (pN C h.objs.size)).get? (h.objs.size+1)=some (pN C h.objs.size):=by heap_get
 have t1:Looks (model prog w) ((h.push (⟨.type "tuple",none,.seq rest.toArray,#[]⟩:Obj)).push (pN C h.objs.size)) (typeOf (.ref (h.objs.size+1))) (.ref C):=(Looks.ld hx).andThen .now
 have i1:=(looks_findIn (M:=model prog w) X hi).keeps k
 have b1:=(bind_fn (M:=model prog w) X (.ref (h.objs.size+1)) (beq_iff_eq.mp hf)).keeps k
 have UT:=k _ _ hC
 have hcC:(Value.ref C::bm).contains (.ref C)=true:=by simp
 show wpAny _ _ _ _ _ _
 unfold isInstance
 refine wpAny_bind (wpAny_bind (t1.at (wpAny_isSubtype_exc UT ?_)))
 rw[hcC]
 unfold callSpecial? specialOf
 repeat(first|with_reducible refine wpAny_call ?_|lk)
 refine codeAny_mono hq λr s' z=>?_
 rcases r with e|(v|_|_|_)<;>first|exact z|exact z.elim|skip
 obtain⟨rfl,z⟩:=z
 exact wpAny_pure (wpAny_pure z)
end
noncomputable def x8:List Value->Bool
 | .ref _::r=>x8 r
 |l=>l==NZ
theorem nD(self:Value):∀{l:List Value},x8 l=true->refuseLoop self "__setattr__" l=pure ()
 |[],e=>by cases e
 |v::r,e=>by
  cases v with
  |ref c=>rw[refuseLoop_ref];exact nD self e
  |_=>rw[show _::r=NZ from beq_iff_eq.mp e];exact PySem.F.store_ValueError.passes self
theorem uS:∀{l:List Value},x8 l=true->l.contains (.type "object")=true
 |[],e=>by cases e
 |v::r,e=>by
  cases v with
  |ref c=>rw[aak,uS (l:=r) e,aap]
  |_=>rw[show _::r=NZ from beq_iff_eq.mp e];decide +kernel
noncomputable def vU(K:Frag)(C:Addr):Bool:=(clsIn K C).any λcd=>x8 cd.mro && cd.hasDict
section
variable{prog:Program}{w:World}{A:Around}{E:Value->Shared->Prop}{s:Shared}{K:Frag}{C L x t:Addr}{h₀:Heap}{m:Str->Option Value}{post:List (Addr ×Obj)}{R:Result->Shared->Prop}{name:Str}{v:Value}{tk:Tok}
theorem EI(X:K.In s.heap)(I:InstAt s.heap x (pN C t) C none)(hp:vU K C=true)(ht:takerIn K C name=some none)
 (h:∀b,wpAny (model prog w) A.in1 (storeInOwnDict (.ref x) (.ref C) (.str name tk) name v b)
  (λfin s'=>match fin with| .done f=>R (.ok f) s'| .again c'=>c'.quiet=true/\codeAny (model prog w) A c' R s') (λe s'=>R (.error e) s') s) :
 codeAny (model prog w) A (.call (.builtin "object.__setattr__") ⟨[.ref x,.str name tk,v],[]⟩) R s:=by
 have SF:=PySem.F.store_object
 obtain⟨cd,hc,ho⟩:=any_some hp
 obtain⟨ho, -⟩:=Yc.mp ho
 have ne:cd.mro.isEmpty=false:=by cases q:cd.mro with|nil=>rw[q]at ho;cases ho|cons _ _=>rfl
 have sub:Looks (model prog w) s.heap (isInstance (.ref x) (.type "object")) true:=I.type.andThen (looks_mroIn X (by unfold mroIn;rw[hc,Option.bind_some,if_neg (by rw[ne];decide),uS ho]))
 refine codeAny_call_builtin SF.slot.plain SF.entry (@check_slot (model prog w) _ _ s "object.__setattr__" "object" "__setattr__" (.ref x) [.str name tk,v] [] _ SF.kind SF.split sub (SF.args (.ref x) (.str name tk) v) ?_)
 obtain⟨attr,ha,hr⟩:=Option.bind_eq_some_iff.mp ht
 have hm:Looks (model prog w) s.heap (mroOf (.ref C)) cd.mro:=(looks_clsIn X hc).andThen .now
 have L3:Looks (model prog w) s.heap (storeTaker? attr) none:=by
  cases attr with
  |none=>exact .now
  |some a=>
   obtain⟨b,hb,hr⟩:=Yx.mp hr
   refine(looks_takesIn X hb).andThen ?_
   cases b
   ·exact .now
   ·cases hr
 rw[osa_eq,refuse_eq]
 refine wpAny_bind (wpAny_bind (I.type.here (wpAny_bind (hm.here ?_))))
 rw[nD _ ho]
 refine wpAny_pure (wpAny_bind (I.type.here (wpAny_bind ((looks_findIn X ha).here (wpAny_bind (L3.here ?_))))))
 exact h _
end
section
variable{prog:Program}{w:World}{A:Around}{E:Value->Shared->Prop}{s:Shared}{K:Frag}{C L x t:Addr}{h₀:Heap}{m:Str->Option Value}{news:List (Addr ×Obj)}{Q:Value->Shared->Prop}{c:Value}{b:Bool}
end
end lK
namespace L2
open PySem PySem.Spec PyProof.Rows PySem.W
structure XV(K:Frag)(C:Addr):Prop where
 xc:lK.XC K C
 tt:lK.rO K C=true
 ca:specialIn K (.ref C) "__call__" =some (some (.builtin "type.__call__"))
 ty:instIn K (.ref C) (.type "type")=some true
 kp:keepIn K (.ref C)=true
 hd:hasDictIn K C=true
 ov:lK.vU K C=true
 sa:findIn K (.ref C) "__setattr__" =some (some (.builtin "object.__setattr__"))
section
variable{prog:Program}{w:World}{A:Around}{E:Value->Shared->Prop}{s:Shared}{K:Frag}{C x t:Addr}{name:Str}{v:Value}{Q:Unit->Shared->Prop}
theorem Hf(X:K.In s.heap)(hx:s.heap.get? x=some (lK.pN C t))(Z:XV K C)(ht:takerIn K C name=some none)
 (h:∀h',(∀b o,b≠x->s.heap.get? b=some o->h'.get? b=some o)->h'.get? x=some (lK.N1 C t s.heap.objs.size)->h'.Ns1 s.heap.objs.size (λy=>if y=name then some v else none)->
  Q () {s with heap:=h',toks:=s.toks+2}):wpAny (model prog w) A (setAttr (.ref x) name v) Q E s:=by
 have I:InstAt s.heap x (lK.pN C t) C none:=⟨hx,rfl,rfl,trivial⟩
 refine set_plain X I Z.sa (lK.EI (s:={s with toks:=s.toks+1}) X I Z.ov ht λb=>?_)
 obtain⟨cd,hc,hd'⟩:=any_some Z.ov
 obtain⟨-,hd'⟩:=Yc.mp hd'
 have So:x≠s.heap.objs.size:=XG (Heap.lt_size hx)
 have K1:(s.heap.push emptyDict).get? x=some (lK.pN C t):=Heap.get?_push_of_some _ hx
 have nP:((s.heap.push emptyDict).update x λo=>{o with dict:=some s.heap.objs.size}).get? x=some (lK.N1 C t s.heap.objs.size):=Heap.get?_update_self _ K1 rfl
 have hd2:((s.heap.push emptyDict).update x λo=>{o with dict:=some s.heap.objs.size}).get? s.heap.objs.size=some emptyDict:=(Heap.get?_update_other _ _ So).trans (Heap.get?_push_size s.heap rfl)
 have n2:((s.heap.push emptyDict).update x λo=>{o with dict:=some s.heap.objs.size}).Ns1 s.heap.objs.size (λ_=>none):=Heap.Ns1.of_empty ⟨emptyDict,#[],_,hd2,rfl,(λe he=>absurd he (by simp)),λ_=>rfl⟩
 refine wpAny_bind (wpAny_pure (wpAny_bind (wpAny_bind (wpAny_loadPart hx (wpAny_bind (Looks.here (s:={s with toks:=s.toks+1}) (looks_clsIn X hc) ?_))))))
 rw[hd']
 refine wpAny_bind (wpAny_alloc' ?_)
 refine wpAny_bind (wpAny_update' K1 ?_)
 refine wpAny_pure (wpAny_bind (wpAny_pure (wpAny_bind ?_)))
 refine wpAny_nsSet1 (s:={s with heap:=_,toks:=s.toks+1}) n2 λh' hn2 hs2=>?_
 obtain⟨oD,esD,WA,UU,UW,G9⟩:=hn2.count (PySem.Within.cons name v (m:=λ_=>none) (ns:=[]) (λy hy=>absurd rfl hy))
 refine wpAny_bind (wpAny_lookBehind UU (by rw[UW];exact pastItsLine_dict (Yj G9 (by rw[sizeLine_eq,Zq];omega))) ?_)
 refine wpAny_pure (h h' (λb o hb e=>?_) ((hs2.2 _ So).trans nP) hn2)
 have bne:b≠s.heap.objs.size:=XG (Heap.lt_size e)
 exact(hs2.2 _ bne).trans ((Heap.get?_update_other _ _ (Ne.symm hb)).trans (Heap.get?_push_of_some _ e))
end
end L2
namespace L3
open PySem PySem.Spec PyProof.Rows L2
noncomputable abbrev XO(x C t:Addr):HO:= .ext λh=>h.get? x=some (xO C t)
noncomputable abbrev YO(x C t d:Addr):HO:= .fO (yO C t d) (.ext λh=>h.get? x=some (yO C t d))
section
variable{X:Cx}{pins:List (Addr ×Obj)}{σ:St}{H:Hp}{s:Shared}{h':Heap}
theorem EJ{P:Program}{w:World}{h:Heap}{a:Addr}{o:HO}(x:bI P w H h a o):∃u,h.get? a=some u:=by
 have lt:=x.lt
 cases o with
 |lst xs=>obtain⟨_,_,_,_,e⟩:=x;exact⟨_,e⟩
 |tup xs=>obtain⟨_,_,_,ob,e,_⟩:=x;exact⟨_,e⟩
 |dK kvs=>obtain⟨_,_,_,_,o,_,_,e,_⟩:=x;exact⟨_,e⟩
 |dT kvs=>obtain⟨_,_,_,_,o,_,_,e,_⟩:=x;exact⟨_,e⟩
 |set S n=>obtain⟨o,_,_,_,e,_⟩:=x;exact⟨_,e⟩
 |ins C dx fs=>obtain⟨_,_,_,e,_⟩:=x;exact⟨_,e⟩
 |own y=>obtain⟨_,e⟩:=x;exact⟨_,e⟩
 |xd fs=>obtain⟨_,⟨_,_,_,e,_⟩,_⟩:=x;exact⟨_,e⟩
 |Ov lo hi=>obtain⟨_,_,_,e⟩:=x;exact⟨_,e⟩
 |fO ob u=>obtain⟨e,_⟩:=x;exact⟨_,e⟩
 |HQ ps=>exact⟨_,(show h.get? a=some _ from x)⟩
 |met f y=>exact⟨_,(show h.get? a=some _ from x)⟩
 |ext φ=>obtain⟨_,⟨_,e⟩,_⟩:=x;exact⟨_,e⟩
theorem Hg{P:Program}{w:World}{h:Heap}{a:Addr}(ok:gY P w H h)(n:h.get? a=none):H a=none:=by
 cases q:H a with
 |none=>rfl
 |some o=>obtain⟨u,z⟩:=EJ (ok a o q);rw[n]at z;cases z
theorem Hh{A:Around}{E:Value->Shared->Prop}{Q:Unit->Shared->Prop}{f:Str}{x C t:Addr}{y:V}{u:Value}(I:Inv X pins σ H s)(e:H x=some (XO x C t))(Z:XV X.K C)(n:PySem.W.takerIn X.K C f=some none)(ry:RelV y u)
 (h:∀d od s',H d=none->d≠x->Inv X pins σ (upd (upd H d (.fO od (.xd [(f,y)]))) x (YO x C t d)) s'->Q () s'):wpAny (model X.prog X.w) A (setAttr (.ref x) f u) Q E s:=by
 obtain⟨hx,_,_⟩:=(show bI X.prog X.w H s.heap x (XO x C t)from I.hok x _ e)
 refine Hf I.lF hx Z n λh' kp gx n1=>?_
 obtain⟨od,es,ep,UX,r1⟩:=id n1
 have hd:H s.heap.objs.size=none:=I.hok.fresh (Xn _)
 have UY:s.heap.objs.size≠x:=X5 (Heap.lt_size hx)
 have nx:∀b,H b=none->b≠x:=λb q z=>by rw[z,e]at q;cases q
 have old:∀b o,H b=some o->(∀φ,o≠ .ext φ)->upd (upd H s.heap.objs.size (.fO od (.xd [(f,y)]))) x (YO x C t s.heap.objs.size) b=some o:=λb o q m=>by
  have h1:b≠x:=λz=>by rw[z,e]at q;exact m _ (Option.some.inj q).symm
  rw[aA h1,aA (br q hd)]
  exact q
 refine h s.heap.objs.size od _ hd UY ?_
 refine I.step (h':=h') (g':=s.gens) (d':=s.drawn) (t':=s.toks+2) (ch:=[]) (λ_ z=>nomatch z) (λb o _ _ _ q m=>kp b o (nx b m) q) (λb o _ _ _ q m=>⟨o.slots,kp b o (nx b m) q⟩)
  (λb o _ q m=>by rw[aA (nx b m),aA (XG (Heap.lt_size q))];exact m) (λb o _ q=>?_) (λb xs q=>old b _ q λ_ z=>nomatch z) (λb o u q=>old b _ q λ_ z=>nomatch z)
  (λb ps q=>⟨#[],by rw[old b _ q λ_ z=>nomatch z];simp⟩) (λm hm=>?_) (λa o q=>?_) I.bare
 ·by_cases hb:b=x
  ·subst hb;exact⟨_,gx⟩
  ·exact⟨o,kp b o hb q⟩
 ·obtain⟨o,es,ep,ho,r⟩:=hm
  exact⟨o,es,ep,kp _ _ (nx _ I.free) ho,r⟩
 ·by_cases ha:a=x
  ·subst ha
   rw[aY]at q;cases q
   exact⟨gx,gx,⟨_,gx⟩,λh1 h2 z k=>k _ z⟩
  ·rw[aA ha]at q
   by_cases hb:a=s.heap.objs.size
   ·subst hb
    rw[aY]at q;cases q
    refine⟨UX,_,n1,λg=>?_⟩
    by_cases hg:g=f
    ·subst hg
     simp only[List.lookup,beq_self_eq_true,if_pos]
     exact ry
    ·have UZ:(g==f)=false:=beq_eq_false_iff_ne.mpr hg
     simp only[List.lookup,UZ,if_neg hg]
     trivial
   ·rw[aA hb]at q
    refine(I.hok a o q).stay (λb v hc z=>kp b v ?_ z) (λb z=>old b _ z λ_ z=>nomatch z) λb xs z=>old b _ z λ_ z=>nomatch z
    rcases hc with rfl|hc
    ·exact ha
    ·rintro rfl
     rw[e]at hc;cases hc
end
noncomputable def N7(K:PySem.W.Frag)(ta tv:TE)(f:Str):TS:=λD σ H=>tv σ H λy H1=>ta σ H1 λz H2=>∃x C t,z= .ref x/\H2 x=some (XO x C t)/\XV K C/\PySem.W.takerIn K C f=some none/\
 ∀d od,H2 d=none->d≠x->D.nx σ (upd (upd H2 d (.fO od (.xd [(f,y)]))) x (YO x C t d))
theorem Hi{X:Cx}{o value:Expr}{f:Str}{pos pos':Pos}{ta tv:TE}(ha:PE X o ta)(hv:PE X value tv)(hs:swapsWith value (some (.Attribute o f pos')) pos.line X.env=pure false):PS X (.Assign [.Attribute o f pos'] value pos) (N7 X.K ta tv f):=by
 intro pins s σ H D I h
 refine plainObj_wpAny_Assign_Attribute (cu (hv pins s σ H _ I h) λu s1 ⟨y,H1,I1,ry,q⟩=>cu (ha pins s1 σ H1 _ I1 q) λov s2 ⟨z,H2,I2,rz,x,C,t,ez,ea,c,n,q2⟩=>?_) hs
 subst ez
 obtain rfl:ov=Value.ref x:=rz
 exact Hh I2 ea c n ry λd od s3 h1 h2 I3=>⟨σ,_,I3,q2 d od h1 h2⟩
noncomputable def OV(C:Addr)(f:Str):Sp:=λvs H Q _=>∃x t y,vs=[.ref x,y]/\H x=some (XO x C t)/\∀d od,H d=none->d≠x->Q .bg (upd (upd H d (.fO od (.xd [(f,y)]))) x (YO x C t d))
section
variable{X:Cx}{e:Expr}{es:List Expr}{x:Str}{p pos:Pos}{C:Addr}{t:oS}
end
section
variable{X:Cx}
theorem x9{P:Program}{w:World}{h:Heap}{H:Hp}{a C:Addr}{o:Obj}{u:HO}{nm:Str}{xs:List V}(ok:gY P w H h)(ha:H a=some (.fO o u))(x:Xo H C nm o xs):∃o od,PySem.W.InstAt h a o C od:=by
 obtain⟨ho,_⟩:=(show bI P w H h a (.fO o u)from ok a _ ha)
 obtain⟨⟨hc,fs,hf⟩,x⟩:=x
 rcases x with⟨_,hn⟩|⟨dx,od,vx,_,hn,hd⟩
 ·exact⟨o,none,ho,hc,by unfold PySem.W.notCls;rw[hf],by rw[hn];trivial⟩
 ·obtain⟨hd',_⟩:=(show bI P w H h dx (.fO od (.xd [(nm,vx)]))from ok dx _ hd)
  exact⟨o,some od,ho,hc,by unfold PySem.W.notCls;rw[hf],by rw[hn];exact hd'⟩
noncomputable def Ri(K:PySem.W.Frag):List D->Mp->DK->Prop:=λds M Q=>∃C nm es b,lK.XC K C/\((∃B,ds=[.exc C nm es,.ref B]/\PySem.W.kitOne K (.ref C) (.ref B)=some b)\/(∃n,ds=[.exc C nm es,.ty n]/\PySem.W.kitOne K (.ref C) (.type n)=some b))/\Q (.bl b) M
theorem rP:Call3 X (.builtin "isinstance") (Ri X.K):=by
 constructor
 intro pins s σ H M xs ds us Q I rm rs dx ⟨C,nm,es,b,Z,hk,q⟩
 have fin:∀tk,EP X pins σ (Post X.K M H Q) (.bool b) {s with toks:=tk}:=λtk=>⟨.bl b,H,I.tok tk,rfl,aC rm (aS.mpr rfl) q⟩
 rcases hk with⟨B,ei,hk⟩|⟨n,ei,hk⟩
 ·subst ei
  obtain⟨v,u,rfl,h1,h2⟩:=w6 dx
  obtain⟨a,o,_,xs,rfl,ha,xo,_⟩:=mT.mp h1
  obtain rfl:=aH.mp h2
  obtain⟨v',u',rfl,r1,r2⟩:=vals2 rs
  obtain rfl:v'=Value.ref a:=r1
  obtain rfl:u'=Value.ref B:=r2
  exact PySem.W.kia_one (lK.x6 Z) I.lF (x9 I.hok ha xo) hk (λz=>nomatch z) fin
 ·subst ei
  obtain⟨v,u,rfl,h1,h2⟩:=w6 dx
  obtain⟨a,o,_,xs,rfl,ha,xo,_⟩:=mT.mp h1
  obtain rfl:=vc.mp h2
  obtain⟨v',u',rfl,r1,r2⟩:=vals2 rs
  obtain rfl:v'=Value.ref a:=r1
  obtain rfl:u'=Value.type n:=r2
  exact PySem.W.kia_one (lK.x6 Z) I.lF (x9 I.hok ha xo) hk (λz=>nomatch z) fin
variable{e:Expr}{f:Str}{pos:Pos}{ta:cG}
noncomputable def N8(K:PySem.W.Frag)(ta:cG)(f:Str):cG:=λρ M Q=>ta ρ M λx M1=>∃C d,x= .exc C f [d]/\XV K C/\PySem.W.findIn K (.ref C) f=some none/\Q d M1
theorem K2(he:bZ X e ta)(hb:attributeBase e f X.env (eval e X.env)=eval e X.env:=by rfl):bZ X (.Attribute e f pos) (N8 X.K ta f):=by
 constructor
 intro pins s σ H ρ M Q I r h
 refine FL hb (cu (he.run pins s σ H ρ M _ I r h) λu s1 ⟨x,H1,I1,rx,dd,M1,f1,dx,gX,C,d,ed,Z,hn,q⟩=>?_)
 subst ed
 obtain⟨a,o,u0,xs,rfl,ha,xo,dv⟩:=mT.mp dx
 obtain rfl:u=Value.ref a:=rx
 obtain⟨ho,_⟩:=(show bI X.prog X.w H1 s1.heap a (.fO o u0)from I1.hok a _ ha)
 obtain⟨⟨hc,fs,hf⟩,xo⟩:=xo
 rcases xo with⟨rfl,_⟩|⟨dx,od,vx,rfl,hn2,hd⟩
 ·cases dv.length
 ·obtain⟨hd',mA,nA,rA⟩:=(show bI X.prog X.w H1 s1.heap dx (.fO od (.xd [(f,vx)]))from I1.hok dx _ hd)
  obtain⟨od',hod,hl⟩:=tZ nA
  rw[hd']at hod
  cases hod
  have r0:=rA f
  simp only[List.lookup,beq_self_eq_true]at r0
  obtain⟨uv,hu,ru⟩:=A4.some_of r0
  obtain⟨v',vs',e1,d1,_⟩:=az.mp dv
  cases e1
  obtain⟨hh,g,dr,tk,os⟩:=s1
  unfold getAttr
  refine wpAny_bind (wpAny_mkText ?_)
  refine lK.N5 I1.lF Z.xc ⟨ho,hc,by unfold PySem.W.notCls;rw[hf],by rw[hn2];exact hd'⟩ (PySem.W.findObj_own Z.hd hn rfl (by rw[hl,hu])) (Bc ru) ?_
  exact⟨vx,H1,I1.tok _,ru,d,M1,f1,d1,gX,q⟩
end
end L3
namespace L3
open PySem PySem.Spec PyProof.Rows L2
section
variable{X:Cx}{pins:List (Addr ×Obj)}{σ:St}{H:Hp}{s:Shared}
theorem Inv.forget{x:Addr}{o:Obj}{u:HO}{σ1:St}{H1:Hp}{s1:Shared}(I:Inv X pins σ H s)(e:H x=some (.fO o u))(I1:Inv X pins σ1 H1 s1)(n:H1 x=none):Inv X pins σ (λb=>if b=x then none else H b) s:=by
 refine⟨I.ok,I.os,I.bare,⟨I.base.keep,I.base.slot,λb o' q1 q2 q3=>?_,I.base.there,λb xs q=>?_,λb o' u' q=>?_,λb ps q=>?_⟩,I.loc,I.cell,?_,λy c q=>?_,λp hp=>?_,λb ob q=>?_,I.len⟩
 ·split
  ·rfl
  ·exact I.base.free b o' q1 q2 q3
 ·have k:=I1.base.tups b xs q
  rw[if_neg (λz=>by rw[z,n]at k;cases k)];exact I.base.tups b xs q
 ·have k:=I1.base.lX b o' u' q
  rw[if_neg (λz=>by rw[z,n]at k;cases k)];exact I.base.lX b o' u' q
 ·obtain⟨more,k⟩:=I1.base.mO b ps q
  rw[if_neg (λz=>by rw[z,n]at k;cases k)];exact I.base.mO b ps q
 ·split
  ·rfl
  ·exact I.free
 ·split
  ·rfl
  ·exact I.gB y c q
 ·obtain⟨a1,a2,a3⟩:=I.pin p hp
  refine⟨a1,?_,a3⟩
  split
  ·rfl
  ·exact a2
 ·split at q
  ·cases q
  ·refine(I.hok b ob q).stay (λ_ _ _ z=>z) (λc z=>?_) λc xs z=>?_
   ·rw[if_neg (λy=>by rw[y,e]at z;cases z)];exact z
   ·rw[if_neg (λy=>by rw[y,e]at z;cases z)];exact z
theorem Inv.N9{a:Addr}{oe:Obj}(I:Inv X pins σ H s)(h:s.heap.get? a=some oe)(n:H a=none)(n0:X.s₀.heap.get? a=none)(hl:a≠X.env.locals)(hp:∀p∈X.pn++pins,p.1≠a)(hd:∀v,oe.data≠ .cell v):Inv X pins σ (upd H a (.fO oe (.ext λh=>h.get? a=some oe))) s:=by
 have ne:∀b o',H b=some o'->b≠a:=λb o' q z=>by rw[z,n]at q;cases q
 refine⟨I.ok,I.os,I.bare,⟨I.base.keep,I.base.slot,λb o' q1 q2 q3=>?_,I.base.there,λb xs q=>?_,λb o' u' q=>?_,λb ps q=>?_⟩,I.loc,I.cell,?_,λy c q=>?_,λp hpp=>?_,λb ob q=>?_,I.len⟩
 ·rw[aA (λz=>by rw[z,n0]at q1;cases q1)];exact I.base.free b o' q1 q2 q3
 ·have:=I.base.tups b xs q;rw[aA (ne b _ this)];exact this
 ·have:=I.base.lX b o' u' q;rw[aA (ne b _ this)];exact this
 ·obtain⟨more,this⟩:=I.base.mO b ps q;exact⟨more,by rw[aA (ne b _ this)];exact this⟩
 ·rw[aA (Ne.symm hl)];exact I.free
 ·obtain⟨v,w⟩:=I.cell y c q
  rw[aA (λz=>?_)]
  ·exact I.gB y c q
  ·subst z
   obtain⟨o',e1,e2⟩:=w
   rw[h]at e1;cases e1
   exact hd _ e2
 ·obtain⟨a1,a2,a3⟩:=I.pin p hpp
  exact⟨a1,by rw[aA (hp p hpp)];exact a2,a3⟩
 ·by_cases hb:b=a
  ·subst hb
   rw[aY]at q;cases q
   exact⟨h,h,⟨_,h⟩,λ_ _ z k=>k _ z⟩
  ·rw[aA hb]at q
   exact(I.hok b ob q).stay (λ_ _ _ z=>z) (λc z=>by rw[aA (ne c _ z)];exact z) λc xs z=>by rw[aA (ne c _ z)];exact z
end
noncomputable def Hj(P:Program)(w:World):Cf:=λouter H s E e s'=>∃a C dx H',e= .ref a/\s'.os=s.os/\AllBare s'.gens/\Un (frs outer) [] H H' s.heap s'.heap/\gY P w H' s'.heap/\nC s.heap H' s'.heap a (.ref C) (some dx)/\E (.ref C) (some dx) H'
noncomputable abbrev XP:=Addr->Str->D->Mp->Prop
noncomputable def Xw(K:PySem.W.Frag)(M:Mp)(H:Hp)(xp:XP)(C dx:Addr)(H':Hp):Prop:= ∃od f v d M',Fr M H M' H'/\H' dx=some (.fO od (.xd [(f,v)]))/\Dat K H' d v/\bB K H' M'/\xp C f d M'
theorem Xw.back{K:PySem.W.Frag}{M M1:Mp}{H H1 H':Hp}{xp:XP}{C dx:Addr}(f:Fr M H M1 H1)(h:Xw K M1 H1 xp C dx H'):Xw K M H xp C dx H':=by
 obtain⟨od,g,v,d,M',f',r⟩:=h
 exact⟨od,g,v,d,M',f.trans f',r⟩
noncomputable def LD(X:Cx)(pins:List (Addr ×Obj))(M:Mp)(H:Hp)(xp:XP):Value->Shared->Prop:=λe s'=>
 ∃a C dx σ' H',e= .ref a/\Inv X pins σ' H' s'/\nC X.s₀.heap H' s'.heap a (.ref C) (some dx)/\Xw X.K M H xp C dx H'
theorem LD.back{X:Cx}{pins:List (Addr ×Obj)}{M M1:Mp}{H H1:Hp}{xp:XP}{e:Value}{s':Shared}(f:Fr M H M1 H1)(h:LD X pins M1 H1 xp e s'):LD X pins M H xp e s':=by
 obtain⟨a,C,dx,σ',H',e,I,x,q⟩:=h
 exact⟨a,C,dx,σ',H',e,I,x,q.back f⟩
noncomputable abbrev OW:=En->Mp->DK->XP->Prop
noncomputable abbrev Cq:=yt->XP->En->Mp->Prop
structure Sq(X:Cx)(e:Expr)(t:OW):Prop where
 run:∀(pins:List (Addr ×Obj)) (s:Shared) (σ:St) (H:Hp) (ρ:En) (M:Mp) (Q:DK) (xp:XP),Inv X pins σ H s->Rep X.K H σ ρ M->t ρ M Q xp->wpAny (model X.prog X.w) X.A (eval e X.env) (EP X pins σ (Post X.K M H Q)) (LD X pins M H xp) s
structure LF(X:Cx)(st:Stmt)(t:Cq):Prop where
 run:∀(pins:List (Addr ×Obj)) (s:Shared) (σ:St) (H:Hp) (ρ:En) (M:Mp) (D:yt) (xp:XP),Inv X pins σ H s->Rep X.K H σ ρ M->t D xp ρ M->wpAny (model X.prog X.w) X.A (exec st X.env) (SP X pins (ends X.K M H D)) (LD X pins M H xp) s
structure ya(X:Cx)(st:List Stmt)(t:Cq):Prop where
 run:∀(pins:List (Addr ×Obj)) (s:Shared) (σ:St) (H:Hp) (ρ:En) (M:Mp) (D:yt) (xp:XP),Inv X pins σ H s->Rep X.K H σ ρ M->t D xp ρ M->wpAny (model X.prog X.w) X.A (execs st X.env) (SP X pins (ends X.K M H D)) (LD X pins M H xp) s
section
variable{X:Cx}{e a b:Expr}{st:Stmt}{rest:List Stmt}{pos:Pos}
noncomputable def Oa(t:iF):Cq:=λD _ ρ M=>t D ρ M
theorem Ob{t:iF}(h:vf X st t)(hx:∀e s,X.xe e s->False:=by intro _ _ h;exact h):LF X st (Oa t):=
 ⟨λpins s σ H ρ M D xp I r q=>wpAny_mono (h.run pins s σ H ρ M D I r q) (λ_ _ z=>z) λ_ _ z=>(hx _ _ z).elim⟩
theorem Oc{t:iF}(h:iG X rest t)(hx:∀e s,X.xe e s->False:=by intro _ _ h;exact h):ya X rest (Oa t):=
 ⟨λpins s σ H ρ M D xp I r q=>wpAny_mono (h.run pins s σ H ρ M D I r q) (λ_ _ z=>z) λ_ _ z=>(hx _ _ z).elim⟩
noncomputable def Rj(t u:Cq):Cq:=λD xp ρ M=>t {D with nx:=u D xp} xp ρ M
theorem vV{t u:Cq}(h1:LF X st t)(h2:ya X rest u):ya X (st::rest) (Rj t u):=by
 constructor
 intro pins s σ H ρ M D xp I r q
 refine wpAny_execs_cons (cu (h1.run pins s σ H ρ M _ xp I r q) λf s1 z=>?_)
 cases f with
 |next=>
  obtain⟨σ',H',I',ρ',M',f,r',q'⟩:=z
  exact wpAny_mono (h2.run pins s1 σ' H' ρ' M' D xp I' r' q') (λfl s2 y=>nW f y) λ_ _ y=>y.back f
 |ret v=>exact z
 |brk=>exact z
 |cont=>exact z
theorem K3{t:Cq}(h1:LF X st t):ya X [st] t:=by
 constructor
 intro pins s σ H ρ M D xp I r q
 refine wpAny_execs_cons (cu (h1.run pins s σ H ρ M D xp I r q) λf s1 z=>?_)
 cases f with
 |next=>exact wpAny_execs_nil z
 |ret v=>exact z
 |brk=>exact z
 |cont=>exact z
theorem yb:ya X rest (λ_ _ _ _=>False):=⟨λ_ _ _ _ _ _ _ _ _ _ h=>h.elim⟩
noncomputable def Rk(i:Nat)(te:OW):Cq:=λD xp ρ M=>te ρ M (λx M1=>D.nx (ρ.set i (some x)) M1) xp
theorem K4{te:OW}{i:Nat}{x:Str}{pos':Pos}(hN:X.N.Nodup)(hi:X.N[i]?=some x)(hx:Loc X.env.scope x)(he:Sq X e te)(hs:swapsWith e (some (.Name x pos')) pos.line X.env=pure false:=by rfl)(hf:X.fn x=true\/X.env.scope.names.lookup x=some .local:=by first|exact .inl rfl|exact .inr rfl|assumption) :
 LF X (.Assign [.Name x pos'] e pos) (Rk i te):=by
 constructor
 intro pins s σ H ρ M D xp I r q
 refine wpAny_Assign_Name (cu (he.run pins s σ H ρ M _ xp I r q) λv s1 ⟨y,H1,I1,r1,d,M1,f1,d1,gX,q1⟩=>?_) hs
 exact mP I1 hN hi hx r1 (λs2 I2=>⟨_,H1,I2,_,M1,f1,(r.go f1 gX).set d1,q1⟩) hf
noncomputable def U0(c:k8)(t u:Cq):Cq:=λD xp ρ M=>c ρ M λb M1=>if b=true then t D xp ρ M1 else u D xp ρ M1
theorem Od{c:Expr}{a b:List Stmt}{tc:k8}{t u:Cq}(hc:wX X c tc)(ha:ya X a t)(hb:ya X b u)(hx:∀e s,X.xe e s->False:=by intro _ _ h;exact h):LF X (.If c a b pos) (U0 tc t u):=by
 constructor
 intro pins s σ H ρ M D xp I r q
 refine wpAny_If (wpAny_mono (hc.run pins s σ H ρ M _ I r q) (λd s1 ⟨H1,I1,M1,f1,gX,q1⟩=>?_) λ_ _ z=>(hx _ _ z).elim)
 cases d with
 |true=>exact wpAny_mono (ha.run pins s1 σ H1 ρ M1 D xp I1 (r.go f1 gX) q1) (λfl s2 y=>nW f1 y) λ_ _ y=>y.back f1
 |false=>exact wpAny_mono (hb.run pins s1 σ H1 ρ M1 D xp I1 (r.go f1 gX) q1) (λfl s2 y=>nW f1 y) λ_ _ y=>y.back f1
noncomputable abbrev ID:=List D->Mp->DK->XP->Prop
noncomputable def K5(K:PySem.W.Frag)(S:ID):Sp:=λvs H Q E=>∃ds M Q0 C0,aB K H ds vs/\bB K H M/\S ds M Q0 C0/\(∀d M' v H',Q0 d M'->Dat K H' d v->bB K H' M'->Fr M H M' H'->Q v H')/\
 ∀C dx H',Xw K M H C0 C dx H'->E (.ref C) (some dx) H'
variable{k:Nat}{f:Addr}{fd:FuncData}{ps:List Str}{x:Str}{es:List Expr}{p:Pos}
noncomputable def Oe(S:ID)(t:oS):OW:=λρ M Q xp=>t ρ M λds M1=>S ds M1 Q xp
theorem Hl{S:ID}{t:oS}(F:bG X.prog X.w X.K X.mg X.base (Hj X.prog X.w) k f fd ps (K5 X.K S))(hr:cY k X.A)(hg:Gl X x)(hm:X.mg x=some (.ref f))(hk:PySem.W.keepIn X.K (.ref f)=true)(hb:Binds X.K fd ps [])
 (ha:wH X (e::es) t)(hdb:(x==("__debug__" :Str))=false:=by decide)(he:starEach (e::es) X.env=(false,eval e X.env)::starEach es X.env:=by rfl)(hpl:(backTo pos (starEach es X.env)).any (·.1)=false:=by rfl)
 (hx:∀e s,X.xe e s->False:=by intro _ _ h;exact h)(hex:X.ex=[]:=by rfl) :
 Sq X (.Call (.Name x p) (e::es) [] pos) (Oe S t):=by
 constructor
 intro pins s σ H ρ M Q xp I r h
 refine wpAny_Call_Name_kw (ji I hg hm ?_ hdb)
 refine PySem.W.callWith_K (h₀:=X.base) I.ok.mod.A6 hk (wpAny_mono (ha.run pos pins s σ H ρ M _ I r h) (λus s1 ⟨vs,H1,I1,rv,ds,M1,f1,dv,gX,q⟩=>⟨I1.lF,?_⟩) λ_ _ z=>(hx _ _ z).elim) he hpl
 have sJ:K5 X.K S vs H1 (Post X.K M H Q) (λC dx H'=>∃c d,C= .ref c/\dx=some d/\Xw X.K M H xp c d H'):=⟨ds,M1,_,xp,dv,gX,q,λd M2 v H2 q2 d2 r2 f2=>⟨d,M2,f1.trans f2,d2,r2,q2⟩,
  λC dx H2 w=>⟨C,dx,rfl,rfl,w.back f1⟩⟩
 have hl:us.length=ps.length:=by rw[<-rv.length];exact F.len _ _ _ _ sJ
 have Co:=hb s1 us I1.lF (by simpa using hl)
 rw[XS]at Co
 refine wpAny_call (codeAny_mono (F.run X.A X.stack s1 H1 ⟨us,[]⟩ us vs _ _ hr I1.CN Co rv sJ) λr s' hq=>?_)
 cases r with
 |error e=>
  obtain⟨a,C,dx,H',rfl,os,bare,un,hok,xc,c,d,ec,ed,w⟩:=hq
  cases ec
  cases ed
  have I':Inv X pins σ H' s':=I1.zP (ch:=[]) os un hok bare (λb z=>absurd z (by simp))
  refine⟨a,C,dx,σ,H',rfl,I',xc.ahead λb o q=>?_,w⟩
  exact I1.base.there b o q (by rw[hex];simp)
 |ok fl=>
  cases fl with
  |ret u=>exact I1.after hq
  |next=>exact False.elim hq
  |brk=>exact False.elim hq
  |cont=>exact False.elim hq
theorem Ss{P:Program}{w:World}{K:PySem.W.Frag}{mg:Str->Option Value}{base:Heap}{x qual:Str}{st:Stmt}{f:Addr}{fd:FuncData}{N ps:List Str}{k:Nat}{S:ID}(F:iV K x qual st f fd)(Sc:aE N ps (ak st))(len:∀ds M Q C,S ds M Q C->ds.length=ps.length)
 (hbody:∀(cdv:Value) (A:Around) (outer:List Env) (s:Shared) (H:Hp),cY k (A.deeper (envOfC qual (ak st) s.heap.objs.size f cdv))->
  ∃t,ya (gW eL P w K mg base N qual (ak st) f cdv A outer s H E0).yE (c8 st) t/\∀ds M Q C,S ds M Q C->t {nx:=λ_ M'=>Q .bg M',rt:=Q} C (jn N ds) M) :
 bG P w K mg base (Hj P w) (k+1) f fd ps (K5 K S):=by
 obtain⟨oc,od,kV,doc,pm,an,cdv,ct,osl,rfl,lk,hcd⟩:=F.ex
 refine HU lk hcd Sc (λvs H Q E h=>?_) λA outer s H vs Q E hr h=>?_
 ·obtain⟨ds,M,Q0,C0,h1,_,h2,_⟩:=h
  rw[<-h1.length,len ds M Q0 C0 h2]
 ·obtain⟨ds,M,Q0,C0,h1,hm,h2,h3,h4⟩:=h
  obtain⟨t,ht,hq⟩:=hbody cdv A outer s H hr
  refine⟨λD' σ H1=>H1=H/\σ=L2.start N vs/\D'=({nx:=λ_ H'=>Q .bg H',rt:=Q}:Ends),?_,rfl,rfl,rfl⟩
  intro pins s1 σ H1 D' I ⟨e1,e2,e3⟩
  subst e1 e2 e3
  refine wpAny_mono (ht.run pins s1 _ _ _ _ _ C0 (I.pG _) (k9 h1 hm) (hq ds M Q0 C0 h2)) (λfl s2 z=>?_) λe s2 z=>?_
  ·have un:∀{σ' H'},Inv (gW eL P w K mg base N qual (ak st) f cdv A outer s H1 E0).yE pins σ' H' s2->Inv (gW (Hj P w) P w K mg base N qual (ak st) f cdv A outer s H1 E) pins σ' H' s2:=λI'=>
    Inv.iD (X:=gW (Hj P w) P w K mg base N qual (ak st) f cdv A outer s H1 E) (E:=λ_ _=>False) I'
   cases fl with
   |next=>obtain⟨σ',H',I',ρ',M',f',r',q⟩:=z;exact⟨σ',H',un I',h3 .bg M' .bg H' q (bQ.mpr rfl) r'.mem f'⟩
   |ret u=>obtain⟨v,σ',H',I',rv,d,M',f',dv,rm,q⟩:=z;exact⟨v,σ',H',un I',rv,h3 d M' v H' q dv rm f'⟩
   |brk=>obtain⟨_,_,_,_,_,_,_,z⟩:=z;exact z.elim
   |cont=>obtain⟨_,_,_,_,_,_,_,z⟩:=z;exact z.elim
  ·obtain⟨a,C,dx,σ',H',rfl,I',xc,wq⟩:=z
   have I':Inv (gW (Hj P w) P w K mg base N qual (ak st) f cdv A outer s H1 E) pins σ' H' s2:=Inv.iD (X:=gW (Hj P w) P w K mg base N qual (ak st) f cdv A outer s H1 E) (E:=λ_ _=>False) I'
   refine EE (L:=s.heap.objs.size) I'.ok.frames I'.stack rfl xc (λb o q=>I'.base.there b o q (λz=>absurd (show b∈([]:List Addr)from z) (by simp))) (λb hb=>I'.hok.fresh hb) λh' IC x'=>?_
   refine⟨a,C,dx,H',rfl,I'.os,I'.bare,I'.base.IC IC λb o q hb=>?_,I'.hok.IC IC I'.pW,.inr x',h4 C dx H' wq⟩
   rcases Xj.mp (I'.uX b hb)with rfl|hb
   ·exact absurd (Heap.lt_size q) (Ys _)
   ·exact hb
end
end L3
namespace L3
open PySem PySem.Spec PyProof.Rows L2
section
variable{M:Model}{A:Around}{E:Value->Shared->Prop}{s:Shared}{env:Env}{K:PySem.W.Frag}{C:Addr}
theorem mD{x:Sem Value}{Q:Flow->Shared->Prop}(Z:lK.rO K C=true)(hh:A.handled=none)
 (h:wpAny M A x (λv s₁=>∃a t dx,v= .ref a/\K.In s₁.heap/\s₁.heap.get? a=some (yO C t dx)/\E (.ref a) s₁) E s) :
 wpAny M A (raiseStmt env (some x) none) Q E s:=by
 unfold raiseStmt
 refine wpAny_bind (wpAny_mono h (λv s₁ h₁=>?_) λ_ _ x=>x)
 obtain⟨e,t,dx,rfl,KX,he,hE⟩:=h₁
 obtain⟨bm,N',nm,q',bs,hdct,sn,sub,ab,col,dd,k0,k1,k2,k3,k5,hC,T⟩:=lK.vS KX Z
 have U1:(Value.ref C::bm).contains (.type "BaseException")=true:=by rw[aak,show bm.contains (.type "BaseException")=true from T.hasType rfl,aap]
 obtain⟨hp,g,d,tk,os⟩:=s₁
 repeat(first|with_reducible refine wpAny_loadPart_at he ?_|with_reducible refine wpAny_loadPart_at hC ?_|(with_reducible refine wpAny_isSubtype_exc hC ?_;rw[U1])|wp_step)
 exact wpAny_raiseNew_none hh hE
theorem Ho{x:Expr}{pos:Pos}{Q:Flow->Shared->Prop}(Z:lK.rO K C=true)(hh:A.handled=none)
 (h:wpAny M A (eval x env) (λv s₁=>∃a t dx,v= .ref a/\K.In s₁.heap/\s₁.heap.get? a=some (yO C t dx)/\E (.ref a) s₁) E s) :
 wpAny M A (exec (.Raise (some x) none pos) env) Q E s:=by
 rw[arm_exec_Raise]
 first
  |exact wpAny_bind (wpAny_standAt (mD Z hh (wpAny_bind (wpAny_mono h (λv s₁ h₁=>wpAny_bind (wpAny_standAt (wpAny_pure h₁))) λ_ _ x=>x))))
  |(simp only[evalOpt,Option.map];exact wpAny_bind (wpAny_standAt (mD Z hh (wpAny_bind (wpAny_mono h (λv s₁ h₁=>wpAny_bind (wpAny_standAt (wpAny_pure h₁))) λ_ _ x=>x)))))
  |(show wpAny M A (do standAt pos;raiseStmt env (some (do let v <-eval x env;standAt pos;pure v)) none) Q E s;exact wpAny_bind (wpAny_standAt (mD Z hh (wpAny_bind (wpAny_mono h (λv s₁ h₁=>wpAny_bind (wpAny_standAt (wpAny_pure h₁))) λ_ _ x=>x)))))
end
section
variable{X:Cx}{e:Expr}{es:List Expr}{x:Str}{p pos:Pos}{C:Addr}{t:oS}
noncomputable def U3(X:Cx)(pins:List (Addr ×Obj))(σ:St)(M:Mp)(H:Hp)(C:Addr)(f:Str)(Q:D->Mp->Prop)(a:Addr)(s':Shared):Prop:= ∃t dd od y d H1 M1 s1,Fr M H M1 H1/\bB X.K H1 M1/\Dat X.K H1 d y/\Q d M1/\Inv X pins σ H1 s1/\s1.heap.get? a=none/\H1 dd=none/\dd≠a/\
 Inv X pins σ (upd (upd (upd H1 a (XO a C t)) dd (.fO od (.xd [(f,y)]))) a (YO a C t dd)) s'
theorem EK{f:Str}{fI:Addr}{fd:FuncData}{ps:List Str}{k:Nat}(Z:XV X.K C)(hi:PySem.W.findIn X.K (.ref C) "__init__" =some (some (.ref fI)))(hf:PySem.W.isFn X.K (.ref fI)=true)
 (F:bG X.prog X.w X.K X.mg X.base eL k fI fd ps (OV C f))(hr:cY (k+1) X.A)(hg:Gl X x)(hm:X.mg x=some (.ref C))(hb:Binds X.K fd ps [])(ha:wH X (e::es) t)
 {pins:List (Addr ×Obj)}{s:Shared}{σ:St}{H:Hp}{ρ:En}{M:Mp}{Q:D->Mp->Prop}(I:Inv X pins σ H s)(r:Rep X.K H σ ρ M)(h:t ρ M λds M1=>∃d,ds=[d]/\Q d M1)
 (hdb:(x==("__debug__" :Str))=false:=by decide)(he:starEach (e::es) X.env=(false,eval e X.env)::starEach es X.env:=by rfl)(hpl:(backTo pos (starEach es X.env)).any (·.1)=false:=by rfl) :
 wpAny (model X.prog X.w) X.A (eval (.Call (.Name x p) (e::es) [] pos) X.env) (λu s'=>∃a,u= .ref a/\U3 X pins σ M H C f Q a s') X.xe s:=by
 refine wpAny_Call_Name_kw (ji I hg hm ?_ hdb)
 refine PySem.W.callWith_K (h₀:=X.base) I.ok.mod.A6 Z.kp (cu (ha.run pos pins s σ H ρ M _ I r h) λus s1 ⟨vs,H1,I1,rv,ds,M1,f1,dv,gX,d,ed,q⟩=>⟨I1.lF,?_⟩) he hpl
 subst ed
 obtain⟨y,vs',rfl,dy,z⟩:=az.mp dv
 obtain rfl:=aF.mp z
 obtain⟨u,rfl,ry⟩:=vals1 rv
 have nP:((s1.heap.push (⟨.type "tuple",none,.seq [u].toArray,#[]⟩:Obj)).push (lK.pN C s1.heap.objs.size)).get? (s1.heap.objs.size+1)=some (xO C s1.heap.objs.size):=by heap_get
 have U4:Inv X pins σ H1 {s1 with heap:=s1.heap.push (⟨.type "tuple",none,.seq [u].toArray,#[]⟩:Obj)}:=I1.kept (t':=s1.toks) λb o z=>Heap.get?_push_of_some _ z
 have I2:Inv X pins σ (upd H1 (s1.heap.objs.size+1) (XO (s1.heap.objs.size+1) C s1.heap.objs.size)) {s1 with heap:=(s1.heap.push (⟨.type "tuple",none,.seq [u].toArray,#[]⟩:Obj)).push (lK.pN C s1.heap.objs.size)}:=
  U4.laid (a:=s1.heap.objs.size+1) (t':=s1.toks) (λb o z=>Heap.get?_push_of_some _ z) (Zz (Heap.size_push _ _)) ⟨nP,⟨_,nP⟩,λ_ _ z k=>k _ z⟩
 have sJ:OV C f [.ref (s1.heap.objs.size+1),y] (upd H1 (s1.heap.objs.size+1) (XO (s1.heap.objs.size+1) C s1.heap.objs.size)) (λv H2=>v= .bg/\∃dd od,H1 dd=none/\dd≠s1.heap.objs.size+1/\H2=upd (upd (upd H1 (s1.heap.objs.size+1) (XO (s1.heap.objs.size+1) C s1.heap.objs.size)) dd (.fO od (.xd [(f,y)]))) (s1.heap.objs.size+1) (YO (s1.heap.objs.size+1) C s1.heap.objs.size dd)) E0:=
  ⟨_,_,y,rfl,aY,λdd od h1 h2=>⟨rfl,dd,od,by rw[aA h2]at h1;exact h1,h2,rfl⟩⟩
 have r2:Vals [V.ref (s1.heap.objs.size+1),y] [Value.ref (s1.heap.objs.size+1),u]:= .cons rfl (.cons ry .nil)
 have hl:([Value.ref (s1.heap.objs.size+1),u]++[]).length=ps.length:=by
  have e:=r2.length
  rw[F.len _ _ _ _ sJ]at e
  simpa using e.symm
 have Co:=hb {s1 with heap:=(s1.heap.push (⟨.type "tuple",none,.seq [u].toArray,#[]⟩:Obj)).push (lK.pN C s1.heap.objs.size)} [Value.ref (s1.heap.objs.size+1),u] I2.lF hl
 rw[XS]at Co
 have hq:=F.run _ X.stack _ _ ⟨[Value.ref (s1.heap.objs.size+1),u],[]⟩ [Value.ref (s1.heap.objs.size+1),u] _ _ E0 (hr.make C [u] []) (I2.CN.make C [u] []) Co r2 sJ
 have hno:s1.heap.get? (s1.heap.objs.size+1)=none:=by
  cases q:s1.heap.get? (s1.heap.objs.size+1)with
  |none=>rfl
  |some o=>exact absurd (Heap.lt_size q) (YW.mpr (YI _))
 obtain⟨hh,g,dr,tk,os⟩:=s1
 refine wpAny_call (lK.BZ I1.lF Z.tt Z.ca Z.ty hi hf (by rw[sizeLine_eq];simp) (codeAny_mono hq λr s' hq'=>?_))
 cases r with
 |error e=>exact hq'.elim
 |ok fl=>
  cases fl with
  |ret u'=>
   obtain⟨v,H',I3,Rl,ev,dd,od,h1,h2,eH⟩:=I2.after hq'
   subst ev
   subst eH
   exact⟨Rl,⟨_,rfl,_,dd,od,y,d,H1,M1,_,f1,gX,dy,q,I1,hno,h1,h2,I3⟩⟩
  |next=>exact False.elim hq'
  |brk=>exact False.elim hq'
  |cont=>exact False.elim hq'
noncomputable def K6(C:Addr)(f:Str)(t:oS):Cq:=λ_ xp ρ M=>t ρ M λds M1=>∃d,ds=[d]/\xp C f d M1
theorem EL{f:Str}{fI:Addr}{fd:FuncData}{ps:List Str}{k:Nat}{rp:Pos}(Z:XV X.K C)(hi:PySem.W.findIn X.K (.ref C) "__init__" =some (some (.ref fI)))(hf:PySem.W.isFn X.K (.ref fI)=true)
 (F:bG X.prog X.w X.K X.mg X.base eL k fI fd ps (OV C f))(hr:cY (k+1) X.A)(hc:X.calm=true)(hg:Gl X x)(hm:X.mg x=some (.ref C))(hb:Binds X.K fd ps [])(ha:wH X (e::es) t)
 (hdb:(x==("__debug__" :Str))=false:=by decide)(he:starEach (e::es) X.env=(false,eval e X.env)::starEach es X.env:=by rfl)(hpl:(backTo pos (starEach es X.env)).any (·.1)=false:=by rfl)
 (hx:∀e s,X.xe e s->False:=by intro _ _ h;exact h)(hex:X.ex=[]:=by rfl) :
 LF X (.Raise (some (.Call (.Name x p) (e::es) [] pos)) none rp) (K6 C f t):=by
 constructor
 intro pins s σ H ρ M D xp I r h
 refine Ho Z.tt (I.ok.hd hc) (wpAny_mono (EK Z hi hf F hr hg hm hb ha I r h hdb he hpl) (λu s' w=>?_) λ_ _ z=>(hx _ _ z).elim)
 obtain⟨a,rfl,t,dd,od,y,d,H1,M1,s1,f1,gX,dy,q,I1,hno,n1,n2,I3⟩:=w
 have n0:X.s₀.heap.get? a=none:=by
  cases q':X.s₀.heap.get? a with
  |none=>rfl
  |some o=>obtain⟨u,z⟩:=I1.base.there a o q' (by rw[hex];simp);rw[hno]at z;cases z
 have na:H1 a=none:=Hg I1.hok hno
 obtain⟨K1,_⟩:=(show bI X.prog X.w _ s'.heap a (YO a C t dd)from I3.hok a _ aY)
 have I4:=Inv.forget I3 aY I1 na
 generalize Rm:(λb=>if b=a then none else upd (upd (upd H1 a (XO a C t)) dd (.fO od (.xd [(f,y)]))) a (YO a C t dd) b)=H2 at I4
 have ha2:H2 a=none:=by rw[<-Rm];exact if_pos rfl
 have hd2:H2 dd=some (.fO od (.xd [(f,y)])):=by rw[<-Rm];dsimp only;rw[if_neg n2,aA n2,aY]
 have kp:∀b o,H1 b=some o->H2 b=some o:=λb o z=>by
  have z1:b≠a:=λw=>by rw[w,na]at z;cases z
  have z2:b≠dd:=λw=>by rw[w,n1]at z;cases z
  rw[<-Rm];dsimp only
  rw[if_neg z1,aA z1,aA z2,aA z1];exact z
 refine⟨a,_,_,rfl,I3.lF,K1,a,C,dd,σ,H2,rfl,I4,.inl ⟨n0,ha2,_,_,K1,⟨rfl,rfl⟩,rfl,rfl⟩,od,f,y,d,M1,f1.trans λb o n z=>⟨kp b o z,n⟩,hd2,Dat.mono (Ext.keep kp) _ _ dy,gX.keep kp,q⟩
end
noncomputable def hnd(X:Cx)(a:Addr):Cx:={X with A:=X.A.mark (some (.ref a)),calm:=false,xe:=λ_ _=>False}
section
variable{X:Cx}{pins:List (Addr ×Obj)}{σ:St}{H:Hp}{s:Shared}
theorem vW{a:Addr}(I:Inv X pins σ H s):Inv (hnd X a) pins σ H s:=
 ⟨⟨I.ok.mod,I.ok.kind,I.ok.glob,I.ok.blt,I.ok.above,I.ok.inj,I.ok.has,I.ok.IZ,(λz=>nomatch z),I.ok.frames,I.ok.stk,I.ok.Lu,I.ok.bs,I.ok.Cz,I.ok.yz,I.ok.yC,I.ok.lY,I.ok.Ff⟩,I.os,I.bare,I.base,I.loc,I.cell,I.free,I.gB,I.pin,I.hok,I.len⟩
theorem B0{a:Addr}(ok:X.Ok)(I:Inv (hnd X a) pins σ H s):Inv X pins σ H s:=
 ⟨ok,I.os,I.bare,I.base,I.loc,I.cell,I.free,I.gB,I.pin,I.hok,I.len⟩
end
theorem Hq{M:Model}{A:Around}{E:Value->Shared->Prop}{h:Heap}{g:Array GenState}{d:Drawn}{t:Nat}{os:OsState}{K:PySem.W.Frag}{e C B:Addr}{oe:Obj}{Q:Bool->Shared->Prop}(X:K.In h)(he:h.get? e=some oe)(hcls:oe.cls= .ref C)
 (Z:lK.rO K B=true)(Zs:PySem.W.subIn K (.ref B) (.type "BaseException")=some true)(hs:PySem.W.subIn K (.ref C) (.ref B)=some true)(hq:Q true ⟨h,g,d,t,os⟩):wpAny M A (excMatches (.ref e) (.ref B)) Q E ⟨h,g,d,t,os⟩:=by
 obtain⟨bm,N',nm,q',bs,hdct,sn,sub,ab,col,dd,k0,k1,k2,k3,k5,hC,T⟩:=lK.vS X Z
 have f:=tc_notTuple
 unfold excMatches
 repeat(first|(with_reducible refine wpAny_loadPart_at he ?_;rw[hcls])|with_reducible refine wpAny_loadPart_at hC ?_|with_reducible refine sub_K X Zs ?_|with_reducible refine sub_K X hs ?_|wp_step)
 exact hq
section
variable{X:Cx}{e:Expr}{es:List Expr}{k:Nat}{f:Addr}{fd:FuncData}{ps:List Str}{x cn n:Str}{p pos epos cpos hp cp:Pos}
noncomputable def Rn(K:PySem.W.Frag)(B:Addr)(S:ID)(t:oS)(i:Nat)(th:Addr->iF):iF:=λD ρ M=>t ρ M λds M1=>S ds M1 (λ_ M2=>D.nx ρ M2) λC f d M2=>
 PySem.W.subIn K (.ref C) (.ref B)=some true/\∀a,th a {nx:=λρ' M'=>D.nx (ρ'.set i none) M',rt:=D.rt,bk:=λρ' M'=>D.bk (ρ'.set i none) M',ct:=λρ' M'=>D.ct (ρ'.set i none) M'} (ρ.set i (some (.exc C f [d]))) M2
theorem EM{S:ID}{t:oS}{i:Nat}{B:Addr}{b₀:Stmt}{suite:List Stmt}{th:Addr->iF}
 (F:bG X.prog X.w X.K X.mg X.base (Hj X.prog X.w) k f fd ps (K5 X.K S))(hr:cY k X.A)(hg:Gl X x)(hm:X.mg x=some (.ref f))(hk:PySem.W.keepIn X.K (.ref f)=true)(hb:Binds X.K fd ps [])
 (ha:wH X (e::es) t)(Z:lK.rO X.K B=true)(Zs:PySem.W.subIn X.K (.ref B) (.type "BaseException")=some true)(hcg:Gl X cn)(U5:X.mg cn=some (.ref B))(hN:X.N.Nodup)(hi:X.N[i]?=some n)(hl:X.env.scope.names.lookup n=some .local)
 (hs:∀(a:Addr),iG (hnd X a) (b₀::suite) (th a))
 (hst:X.stack=X.env::X.outer:=by rfl)(hfr:X.env.frame=some X.env.locals:=by rfl)
 (hsw:swapsWith (.Call (.Name x p) (e::es) [] cpos) none epos.line X.env=pure false:=by rfl)
 (hdb:(x==("__debug__" :Str))=false:=by decide)(hdc:(cn==("__debug__" :Str))=false:=by decide)(he:starEach (e::es) X.env=(false,eval e X.env)::starEach es X.env:=by rfl)(hpl:(backTo cpos (starEach es X.env)).any (·.1)=false:=by rfl)
 (hx:∀e s,X.xe e s->False:=by intro _ _ h;exact h)(hex:X.ex=[]:=by rfl) :
 vf X (.Try [.Expr (.Call (.Name x p) (e::es) [] cpos) epos] [.ExceptHandler (some (.Name cn cp)) (some n) (b₀::suite) hp] [] [] pos) (Rn X.K B S t i th):=by
 constructor
 intro pins s σ H ρ M D I r h
 refine wpAny_Try_except (wpAny_execs_cons (wpAny_Expr_any ?_ I.quiet hsw))
 refine wpAny_Call_Name_kw (ji I hg hm ?_ hdb)
 refine PySem.W.callWith_K (h₀:=X.base) I.ok.mod.A6 hk (wpAny_mono (ha.run cpos pins s σ H ρ M _ I r h) (λus s1 ⟨vs,H1,I1,rv,ds,M1,f1,dv,gX,q⟩=>⟨I1.lF,?_⟩) λ_ _ z=>(hx _ _ z).elim) he hpl
 have sJ:K5 X.K S vs H1 (λ_ H'=>fJ X.K M H D.nx σ H') (λCv dx H'=>∃C d,Cv= .ref C/\dx=some d/\Xw X.K M1 H1 (λC f d M2=>PySem.W.subIn X.K (.ref C) (.ref B)=some true/\∀a,th a {nx:=λρ' M'=>D.nx (ρ'.set i none) M',rt:=D.rt,bk:=λρ' M'=>D.bk (ρ'.set i none) M',ct:=λρ' M'=>D.ct (ρ'.set i none) M'} (ρ.set i (some (.exc C f [d]))) M2) C d H'):=
  ⟨ds,M1,_,_,dv,gX,q,λd M2 v H2 q2 d2 r2 f2=>⟨ρ,M2,f1.trans f2,(r.go f1 gX).go f2 r2,q2⟩,λC dx H2 w=>⟨C,dx,rfl,rfl,w⟩⟩
 have hlen:us.length=ps.length:=by rw[<-rv.length];exact F.len _ _ _ _ sJ
 have Co:=hb s1 us I1.lF (by simpa using hlen)
 rw[XS]at Co
 refine wpAny_call (codeAny_mono (F.run X.A X.stack s1 H1 ⟨us,[]⟩ us vs _ _ hr I1.CN Co rv sJ) λres s' hq=>?_)
 cases res with
 |ok fl=>
  cases fl with
  |ret u=>
   obtain⟨v,H2,I2,_,z⟩:=I1.after hq
   exact wpAny_execs_nil (wpAny_execs_nil ⟨σ,H2,I2,z⟩)
  |next=>exact False.elim hq
  |brk=>exact False.elim hq
  |cont=>exact False.elim hq
 |error ev=>
  obtain⟨a,C,dx,H',rfl,os,bare,un,hok,xc,C',WB,ec,ed,od,g,v,d,M2,Su,hdx,dd,Ic,hsub,U6⟩:=hq
  cases ec
  cases ed
  have Of:∀b∈([]:List Addr),(b∈X.ex\/X.s₀.heap.objs.size<=b)/\b≠X.env.locals/\(∀x c,X.env.cells.lookup x=some c->c≠b)/\∀p∈X.pn++pins,p.1≠b:=λb z=>absurd z (by simp)
  have I':Inv X pins σ H' s':=I1.zP (ch:=[]) os un hok bare Of
  have na:s1.heap.get? a=none:=xc.new.1
  have nA:H' a=none:=xc.new.2
  have n0:X.s₀.heap.get? a=none:=by
   cases q':X.s₀.heap.get? a with
   |none=>rfl
   |some o=>obtain⟨u,z⟩:=I1.base.there a o q' (by rw[hex];simp);rw[na]at z;cases z
  have aL:a≠X.env.locals:=λz=>by
   obtain⟨m,⟨o,_,_,ho,_⟩,_⟩:=I1.loc
   rw[<-z,na]at ho;cases ho
  have aP:∀p∈X.pn++pins,p.1≠a:=λp hp z=>by
   have:=(I1.pin p hp).1
   rw[z,na]at this;cases this
  have Ro:X.A.frames=some (X.env::X.outer):=by rw[<-hst];exact I'.ok.frames
  have U7:s'.heap.FunFrames X.base (X.env::X.outer):=by rw[<-hst];exact I'.stack
  have sub:∀b∈frs (X.env::X.outer),H' b=none:=by rw[<-hst];exact I'.pW
  have step:∀h2,rN s1.heap H' (frs (X.env::X.outer)) s'.heap h2->Inv X pins σ H' {s' with heap:=h2}:=λh2 st=>
   I1.zP (ch:=[]) (s':={s' with heap:=h2}) os (by rw[hst]at un ⊢;exact un.IC st λb o _ hb=>hb) (hok.IC st sub) bare Of
  refine AQ Ro U7 hfr xc (λb o q=>un.there b o q (by simp)) (λb hb=>hok.fresh hb) λh1 st1 x1=>?_
  refine vR (S:=frs (X.env::X.outer)) (s:={s' with heap:=h1}) x1 λh2 st2 x2=>?_
  have I2:=step h2 (st1.trans st2)
  obtain⟨WC,U8,⟨hc2,_⟩,_⟩:=nC.there (.inr x2)
  refine wpAny_handleBy_cons (codeAny_handlers_test (ji (X:=hnd X a) (vW I2) hcg U5 ?_ hdc)) (by intro q;cases q)
  refine Hq I2.lF U8 hc2 Z Zs hsub ?_
  refine codeAny_handlers_suite_as ?_
  refine vR (S:=frs (X.env::X.outer)) (s:={s' with heap:=h2}) x2 λh3 st3 x3=>?_
  have I3:=step h3 ((st1.trans st2).trans st3)
  obtain⟨oe,U9,⟨hc3,Va⟩,Vb,Sv⟩:=nC.there (.inr x3)
  have I4:=Inv.N9 I3 U9 nA n0 aL aP (by rw[Sv];intro v z;cases z)
  have kp:∀b o,H' b=some o->upd H' a (.fO oe (.ext λh=>h.get? a=some oe)) b=some o:=λb o z=>by rw[aA (br z nA)];exact z
  generalize OX:upd H' a (.fO oe (.ext λh=>h.get? a=some oe))=H4 at I4 kp
  have Vc:H4 a=some (.fO oe (.ext λh=>h.get? a=some oe)):=by rw[<-OX];exact aY
  have dE:Dat X.K H4 (.exc C g [d]) (.ref a):=mT.mpr ⟨a,oe,_,[v],rfl,Vc,⟨⟨hc3,Vb,Sv⟩,.inr ⟨dx,od,v,rfl,Va,kp _ _ hdx⟩⟩,aB.one (Dat.mono (Ext.keep kp) _ _ dd)⟩
  refine mP (X:=hnd X a) (v:= .ref a) (vW I4) hN hi (.inl hl) rfl (λs4 J4=>?_) (.inr hl)
  have fr:Fr M H M2 H4:=(f1.trans Su).trans λb o n e=>⟨kp b o e,n⟩
  have rep:Rep X.K H4 (σ.set i (some (.ref a))) (ρ.set i (some (.exc C g [d]))) M2:=(((r.go f1 gX).go Su Ic).go (λb o n e=>⟨kp b o e,n⟩) (Ic.keep kp)).set dE
  refine wpAny_mono ((hs a).run pins s4 _ H4 _ M2 _ J4 rep (U6 a)) (λfl s5 z=>?_) λ_ _ z=>False.elim z
  have fin:∀{σ' Fi} {R:Unit->Shared->Prop},Inv (hnd X a) pins σ' Fi s5->(∀s6,Inv X pins (σ'.set i none) Fi s6->R () s6)->wpAny (model X.prog X.w) X.A (do bindName X.env n .none;unbindBehindTheSuite X.env n hp) R X.xe s5:=
   λJ5 k=>G5 (B0 I.ok J5) hN hi hl k
  cases fl with
  |next=>
   obtain⟨σ',Fi,J5,ρ',M',f',r',q'⟩:=z
   exact fin J5 λs6 I6=>⟨_,Fi,I6,_,M',fr.trans f',Rep.unset r',q'⟩
  |brk=>
   obtain⟨σ',Fi,J5,ρ',M',f',r',q'⟩:=z
   exact fin J5 λs6 I6=>⟨_,Fi,I6,_,M',fr.trans f',Rep.unset r',q'⟩
  |cont=>
   obtain⟨σ',Fi,J5,ρ',M',f',r',q'⟩:=z
   exact fin J5 λs6 I6=>⟨_,Fi,I6,_,M',fr.trans f',Rep.unset r',q'⟩
  |ret u=>
   obtain⟨v,σ',Fi,J5,Rl,d,M',f',Vd,Qf,q'⟩:=z
   exact fin J5 λs6 I6=>⟨v,_,Fi,I6,Rl,d,M',fr.trans f',Vd,Qf,q'⟩
end
end L3
namespace L3
open PySem PySem.Spec PyProof.Rows L2
structure EN(P:Program)(w:World)(K:PySem.W.Frag)(mg:Str->Option Value)(base:Heap)(k:Nat)(f:Addr)(fd:FuncData)(ps:List Str)(sp:Sp):Prop where
 len:∀vs H Q E,sp vs H Q E->vs.length=ps.length
 run:∀(A:Around) (a:Addr) (outer:List Env) (s:Shared) (H:Hp) (args:Args) (us:List Value) (vs:List V) (Q:VK) (E:XK),cY k A->sM P w K mg base (A.mark (some (.ref a))) outer s H->BindsTo s fd args (ps.zip us)->Vals vs us->sp vs H Q E->
  codeAny (model P w) (A.mark (some (.ref a))) (.call (.ref f) args) (CR eL outer P w H s Q E) s
theorem B3{P:Program}{w:World}{K:PySem.W.Frag}{mg:Str->Option Value}{base:Heap}{A:Around}{a:Addr}{outer:List Env}{s:Shared}{H:Hp}(e:sM P w K mg base (A.mark (some (.ref a))) outer s H):sM P w K mg base A outer s H:=
 ⟨e.frames,e.mod,e.bs,e.Cz,e.lY,e.Ff,e.hok,e.bare⟩
theorem Rp{P:Program}{w:World}{K:PySem.W.Frag}{mg:Str->Option Value}{base:Heap}{x qual:Str}{st:Stmt}{f:Addr}{fd:FuncData}{N ps:List Str}{k:Nat}{S:sV}(F:iV K x qual st f fd)(Sc:aE N ps (ak st))(len:∀ds Q,S ds Q->ds.length=ps.length)
 (hbody:∀(cdv:Value) (A:Around) (a:Addr) (outer:List Env) (s:Shared) (H:Hp),cY k (A.deeper (envOfC qual (ak st) s.heap.objs.size f cdv))->
  ∃t,iG (hnd (gW eL P w K mg base N qual (ak st) f cdv A outer s H E0).yE a) (c8 st) t/\∀ds Q,S ds Q->t {nx:=λ_ _=>Q .bg,rt:=λd _=>Q d} (jn N ds) JH) :
 EN P w K mg base (k+1) f fd ps (qz K S):=by
 obtain⟨oc,od,kV,doc,pm,an,cdv,ct,osl,rfl,lk,hcd⟩:=F.ex
 refine⟨λvs H Q E h=>?_,λA a outer s H args us vs Q E hr e0 hb r sJ=>?_⟩
 ·obtain⟨ds,Q0,h1,h2,_⟩:=h
  rw[<-h1.length,len ds Q0 h2]
 ·obtain⟨ds,Q0,h1,h2,h3⟩:=sJ
  have hl:vs.length=ps.length:=by rw[<-h1.length,len ds Q0 h2]
  have KX:K.In s.heap:=e0.mod.A6.keeps λb o e=>(e0.bs b o e).1
  have lim:s.heap.NoLimit:=e0.mod.nolimit.keeps λb o e=>(e0.bs b o e).1
  have hkind:∀y∈ps.zip us,(ak st).names.lookup y.1=some .local\/((ak st).names.lookup y.1=some .cell/\((cellsFrom (s.heap.objs.size+1) (ak st).names []).lookup y.1).isSome=true):=λ⟨n,v⟩ hy=>by
   rcases Sc.par n (Zx hy).1 with q|q
   ·exact .inl q
   ·exact .inr ⟨q,PySem.W.cellsFrom_some _ _ _ (.inl q)⟩
  refine codeAny_call_function hr.depth (KX _ _ lk) rfl Sc.co Sc.gen rfl (PySem.W.codeRec_of KX hcd) (hb _ _ _ _ ?_)
  refine wpAny_newFunctionEnv_cells Sc.kind hkind λenv he s1 xc=>?_
  subst he
  refine⟨lim.keeps xc.toInCall.keep,codeAny_func ?_⟩
  obtain⟨t,ht,hq⟩:=hbody cdv A a outer s H (hr.deeper _)
  have I:Inv (gW eL P w K mg base N qual (ak st) f cdv A outer s H E0) [] (start N vs) H s1:=ua Sc hr.hd (B3 e0) hl r xc
  have I2:Inv (hnd (gW eL P w K mg base N qual (ak st) f cdv A outer s H E0).yE a) [] (start N vs) H s1:=vW (I.pG _)
  refine wpAny_mono (ht.run [] s1 _ _ _ _ _ I2 (k9 h1 bB.no) (hq ds Q0 h2)) (λfl s' hs=>?_) λe s' hs=>False.elim hs
  have fin:∀{σ':St} {H':Hp} {v:V} {u:Value},Inv (hnd (gW eL P w K mg base N qual (ak st) f cdv A outer s H E0).yE a) [] σ' H' s'->RelV v u->Q v H'->CE outer P w H s Q u s':=
   λ{σ' H' v u} J rv q=>⟨v,H',J.os,J.bare,J.base,J.hok,rv,q⟩
  cases fl with
  |ret u=>
   obtain⟨v,σ',H',J,rv,d,M',f',dv,rm,q⟩:=hs
   exact fin J rv (h3 d v H' q dv λb o e=>(f' b o rfl e).1)
  |next=>
   obtain⟨σ',H',J,ρ',M',f',r',q⟩:=hs
   exact fin (v:=V.bg) (u:=Value.none) J rfl (h3 .bg .bg H' q (bQ.mpr rfl) λb o e=>(f' b o rfl e).1)
  |brk=>
   obtain⟨_,_,_,_,_,_,_,q⟩:=hs
   exact False.elim q
  |cont=>
   obtain⟨_,_,_,_,_,_,_,q⟩:=hs
   exact False.elim q
section
variable{X:Cx}{e:Expr}{es:List Expr}{k:Nat}{f:Addr}{fd:FuncData}{ps:List Str}{x:Str}{p pos:Pos}
theorem AR{a:Addr}{S:sV}{t:oS}(F:EN X.prog X.w X.K X.mg X.base k f fd ps (qz X.K S))(hr:cY k X.A)(hg:Gl X x)(hm:X.mg x=some (.ref f))(hk:PySem.W.keepIn X.K (.ref f)=true)(hb:Binds X.K fd ps [])
 (ha:wH (hnd X a) (e::es) t)(hdb:(x==("__debug__" :Str))=false:=by decide)(he:starEach (e::es) X.env=(false,eval e X.env)::starEach es X.env:=by rfl)(hpl:(backTo pos (starEach es X.env)).any (·.1)=false:=by rfl) :
 bZ (hnd X a) (.Call (.Name x p) (e::es) [] pos) (Dd S t):=by
 constructor
 intro pins s σ H ρ M Q I r h
 refine wpAny_Call_Name_kw (ji I hg hm ?_ hdb)
 refine PySem.W.callWith_K (h₀:=X.base) I.ok.mod.A6 hk (cu (ha.run pos pins s σ H ρ M _ I r h) λus s1 ⟨vs,H1,I1,rv,ds,M1,f1,dv,gX,q⟩=>⟨I1.lF,?_⟩) he hpl
 have sJ:qz X.K S vs H1 (Post X.K M H Q) E0:=⟨ds,_,dv,q,λd v H2 q2 d2 kp=>⟨d,M1,f1.trans λb o n e=>⟨kp b o e,n⟩,d2,gX.keep kp,q2⟩⟩
 have hl:us.length=ps.length:=by rw[<-rv.length];exact F.len _ _ _ _ sJ
 have Co:=hb s1 us I1.lF (by simpa using hl)
 rw[XS]at Co
 refine wpAny_call (codeAny_mono (F.run X.A a X.stack s1 H1 ⟨us,[]⟩ us vs _ _ hr I1.CN Co rv sJ) λr s' hq=>?_)
 cases r with
 |error e=>exact hq.elim
 |ok fl=>
  cases fl with
  |ret u=>exact I1.after hq
  |next=>exact False.elim hq
  |brk=>exact False.elim hq
  |cont=>exact False.elim hq
end
end L3
namespace HD
open PySem PySem.W L2
theorem IE:dA=jl:=funext λs=>by cases s<;>rfl
theorem IF:dB=c8:=funext λs=>by cases s<;>rfl
theorem IG:dS=ak:=funext λs=>by cases s<;>rfl
theorem zm(h:Heap):∀as:List Addr,(wG h as).In h
 |[],_,_,e=>nomatch e
 |b::r,a,o,e=>by
  unfold wG at e
  cases q:h.get? b with
  |none=>rw[q]at e;exact zm h r a o e
  |some x=>
   rw[q]at e
   replace e:List.lookup a ((b,x)::wG h r)=some o:=e
   rw[X9]at e
   cases z:a==b with
   |true=>
    rw[z]at e
    obtain rfl:a=b:=eq_of_beq z
    cases e;exact q
   |false=>rw[z]at e;exact zm h r a o e
theorem oG{h:Heap}{a:Addr}{o:Obj}(e:h.get? a=some o):∀{as:List Addr},a∈as->(wG h as).lookup a=some o
 |b::r,m=>by
  unfold wG
  by_cases z:a=b
  ·subst z
   rw[e]
   show List.lookup a ((a,o)::wG h r)=some o
   rw[X9,beq_self_eq_true]
  ·have m':a∈r:=by
    rcases Xj.mp m with y|y
    ·exact absurd y z
    ·exact y
   cases q:h.get? b with
   |none=>exact oG e m'
   |some x=>
    show List.lookup a ((b,x)::wG h r)=some o
    rw[X9,beq_eq_false_iff_ne.mpr z]
    exact oG e m'
theorem Hr{K:Frag}{o:Obj}(e:K.lookup mainGlobals=some o)(n:Str):nsIn K mainGlobals n=nsIn [(mainGlobals,o)] mainGlobals n:=by
 unfold nsIn
 rw[e]
 rfl
noncomputable def Sx(K:Frag)(p:Str ×Stmt):Prop:= ∃f fd,nsIn K mainGlobals p.1=some (some (.ref f))/\iV K p.1 p.1 p.2 f fd
noncomputable def D7(K:Frag):List (Str ×Stmt)->Prop
 |[]=>True
 |p::r=>Sx K p/\D7 K r
noncomputable def AllB(K:Frag):List Str->Prop
 |[]=>True
 |b::r=>nsIn K mainGlobals b=some none/\AllB K r
noncomputable def YP(fs:List (Str ×Stmt))(bs:List Str)(h:Heap):Prop:= ∃K:Frag,K.In h/\D7 K fs/\AllB K bs
theorem keeps{fs:List (Str ×Stmt)}{bs:List Str}{h h':Heap}(y:YP fs bs h)(k:∀b o,h.get? b=some o->h'.get? b=some o):YP fs bs h':=
 let ⟨K,i,a,b⟩:=y
 ⟨K,i.keeps k,a,b⟩
theorem EO{h:Heap}{as:List Addr}{n:Str}{r:Option Value}(m:mainGlobals∈as)(e:IM h n=some r):nsIn (wG h as) mainGlobals n=some r:=by
 unfold IM at e
 cases q:h.get? mainGlobals with
 |none=>rw[q]at e;cases e
 |some o=>rw[q]at e;rw[Hr (oG q m)];exact e
theorem Hs{h:Heap}{n:Str}{f:Addr}{fd:FuncData}(e:fnAt h n=some (f,fd)):IM h n=some (some (.ref f))/\∃oc od sl,h.get? f=some ⟨oc,od,.func fd,sl⟩:=by
 unfold fnAt at e
 split at e
 ·rename_i g hg
  split at e
  ·rename_i oc od fd' sl hq
   cases e
   exact⟨hg,oc,od,sl,hq⟩
  ·cases e
 ·cases e
theorem o7{h:Heap}{v:Value}{q:Str}{as:List Addr}(e:iW h v=some q)(m:∀c,v= .ref c->c∈as):codeIn (wG h as) v q=true:=by
 unfold iW at e
 split at e
 ·rename_i c
  split at e
  ·rename_i oc od vs sl hc
   split at e
   ·rename_i a q' tk r hv
    cases e
    unfold codeIn
    dsimp only
    rw[oG hc (m c rfl)]
    dsimp only
    rw[hv]
    dsimp only
    exact beq_self_eq_true _
   ·cases e
  ·cases e
 ·cases e
theorem K7{h:Heap}{p:Str ×Stmt}{as:List Addr}(m0:mainGlobals∈as)(m:∀a∈adr h p.1,a∈as)
 (e:(fnAt h p.1).map (λx=>(blank x.2,iW h x.2.code))=some (fnOf p.1 p.1 (jl p.2) (c8 p.2) (ak p.2) .none .none .none .none none .none .none,some p.1)):Sx (wG h as) p:=by
 obtain⟨⟨f,fd⟩,hf,hq⟩:=Yx.mp e
 obtain⟨h1,oc,od,sl,h2⟩:=Hs hf
 obtain⟨e1,e2⟩:=Prod.mk.inj hq
 have hadr:adr h p.1=f::(match fd.code with| .ref c=>[c]|_=>[]):=by unfold adr;rw[hf]<;>rfl
 have Og:f∈as:=m f (by rw[hadr];exact .head _)
 have lk:=oG h2 Og
 have hc:codeIn (wG h as) fd.code p.1=true:=o7 e2 λc hc=>m c (by rw[hadr,hc];exact .tail _ (.head _))
 have hfd:fd=fnOf p.1 p.1 (jl p.2) (c8 p.2) (ak p.2) .none fd.kwdefaults fd.doc fd.pyModule fd.annotations fd.code fd.closureTuple:=by
  cases fd
  unfold blank at e1
  simp only[FuncData.mk.injEq]at e1
  obtain⟨a1,a2,a3,a4,a5,a6,a7,a8,a9⟩:=e1
  simp only[FuncData.mk.injEq]
  exact⟨a1,a2,a3,a4,a5,a6,a7,a8,trivial,trivial,trivial,trivial,trivial,trivial,by simpa using a9⟩
 refine⟨f,fd,EO m0 h1,⟨oc,od,fd.kwdefaults,fd.doc,fd.pyModule,fd.annotations,fd.code,fd.closureTuple,sl,hfd,lk,hc⟩,?_⟩
 unfold keepIn
 dsimp only
 rw[lk]
theorem AS{h:Heap}{as:List Addr}(m0:mainGlobals∈as):∀{fs:List (Str ×Stmt)},(∀a∈fs.flatMap (λp=>adr h p.1),a∈as)->
 fs.map (λp=>(fnAt h p.1).map λx=>(blank x.2,iW h x.2.code))=fs.map (λp=>some (fnOf p.1 p.1 (jl p.2) (c8 p.2) (ak p.2) .none .none .none .none none .none .none,some p.1))->D7 (wG h as) fs
 |[],_,_=>trivial
 |p::r,m,e=>by
  rw[XQ,XQ]at e
  obtain⟨e1,e2⟩:=List.cons.inj e
  rw[YE]at m
  exact⟨K7 m0 (λa ha=>m a (XI.mpr (.inl ha))) e1,AS m0 (λa ha=>m a (XI.mpr (.inr ha))) e2⟩
theorem allB_of{h:Heap}{as:List Addr}(m0:mainGlobals∈as):∀{bs:List Str},bs.map (λb=>IM h b)=bs.map (λ_=>some none)->AllB (wG h as) bs
 |[],_=>trivial
 |b::r,e=>by
  rw[XQ,XQ]at e
  obtain⟨e1,e2⟩:=List.cons.inj e
  exact⟨EO m0 e1,allB_of m0 e2⟩
theorem ER{l:OpenLaw}{n k:Nat}{q:Program}{loose:List Str}{XP:(Str->Option Value)->Heap->Prop}{YP:World->Heap->Prop}{d:DefRec}{CX:Cf}{sp:Frag->Sp}{x:Str}
 (hn:l.most=some n)(hn2:n<=sizeLine)(hdf:d.params.defaults=[])(hr:cY k callerA)
 (F:∀(w:World) (mg:Str->Option Value) (fa:Addr) (h:Heap),YP w h->h.Ns mainGlobals mg->mg d.name=some (.ref fa)->
  ∃(K:Frag) (fd:FuncData),K.In h/\(∀(s:Shared) (u:Value),BindsTo s fd ⟨[u],[]⟩ [(x,u)])/\
   ∀base:Heap,K.In base->base.Ns mainGlobals mg->bG l.prog w K mg base CX k fa fd [x] (sp K))
 (sJ:∀(K:Frag) (H:Hp) (a:Addr) (ns:List Int),ns.length<=n->(∀z∈ns,Att.An z)->FZ H->jj K H a (ns.map V.int)->sp K [.ref a] H (λv _=>v= .bl true) λ_ _ _=>False)
 (PU:∀(H:Hp) (s:Shared) (e:Value) (s':Shared),CX [] H s (λ_ _ _=>False) e s'->False) :
 WalkO q loose XP YP l.row.toRowW d [] (λf vs=>PySem.call f vs):=by
 refine Att.vn hn hdf λw s₀ s₁ mg mb fa o pm cd doc a vs ns G Y ho hd hcd hmg hobj hints hlen hbig hg=>?_
 obtain⟨K,fd,KX,hb,hF⟩:=F w mg fa _ Y G.T.g hmg
 exact CU (CX:=CX) (sp:=sp K) KX G.T.g G.T.b G.T.builtins G.T.nolimit hg hobj hints (Yj hlen hn2) hr hF hb (λH hO hS=>sJ K H a ns hlen hbig hO hS) λH e s'=>PU H s₁ e s'
end HD
namespace HD
open PySem PySem.W L2
theorem II:yT=lK.rO:=by funext K C;rfl
theorem IJ:∀l,yV l=lK.x8 l
 |[]=>rfl
 |v::r=>by
  cases v with
  |ref c=>exact IJ r
  |_=>rfl
theorem K8(K:Frag)(C:Addr):O4 K C=lK.vU K C:=by
 unfold O4 lK.vU
 congr 1
 funext cd
 rw[IJ]
theorem qf{r:Option (Option Value)}{s:String}(h:A3 r s=true):r=some (some (.builtin s)):=by
 unfold A3 at h
 split at h
 ·rw[eq_of_beq h]
 ·cases h
theorem ES{r:Option (Option Value)}(h:Ou r=true):r=some none:=by
 unfold Ou at h
 split at h
 ·rfl
 ·cases h
theorem AU{r:Option (Option Value)}{a:Addr}(h:Fo r a=true):r=some (some (.ref a)):=by
 unfold Fo at h
 split at h
 ·rw[eq_of_beq h]
 ·cases h
theorem kE{r:Option Bool}{b:Bool}(h:Fe r b=true):r=some b:=by
 unfold Fe at h
 split at h
 ·rw[eq_of_beq h]
 ·cases h
structure CF(K:Frag)(cs:List Str)(R at_ qn:Str)(st:Stmt)(ad:Str->Addr)(i:Addr)(fd:FuncData):Prop where
 Z:lK.XC K (ad R)
 V:XV K (ad R)
 ini:findIn K (.ref (ad R)) "__init__" =some (some (.ref i))
 Ve:isFn K (.ref i)=true
 FI:iV K "__init__" qn st i fd
 na:findIn K (.ref (ad R)) at_=some none
 kv:kitOne K (.ref (ad R)) (.type "ValueError")=some true
 tN:lK.rO K (ad "NearError")=true
 sN:subIn K (.ref (ad "NearError")) (.type "BaseException")=some true
 sR:subIn K (.ref (ad R)) (.ref (ad "NearError"))=some true
 sS:subIn K (.ref (ad R)) (.ref (ad R))=some true
 ns:∀c∈cs,nsIn K mainGlobals c=some (some (.ref (ad c)))
 kk:∀c∈cs,kitOne K (.ref (ad R)) (.ref (ad c))=some (c==R || c== "NearError")
noncomputable def Oh(fs:List (Str ×Stmt))(bs cs:List Str)(R at_ qn:Str)(st:Stmt)(h:Heap):Prop:= ∃K:Frag,K.In h/\D7 K fs/\AllB K bs/\∃ad i fd,CF K cs R at_ qn st ad i fd
theorem K9{fs:List (Str ×Stmt)}{bs cs:List Str}{R at_ qn:Str}{st:Stmt}{h h':Heap}(y:Oh fs bs cs R at_ qn st h)(k:∀b o,h.get? b=some o->h'.get? b=some o):Oh fs bs cs R at_ qn st h':=
 let ⟨K,i,a,b,c⟩:=y
 ⟨K,i.keeps k,a,b,c⟩
theorem Hu{h:Heap}{n:Str}{i:Addr}{fd:FuncData}(e:Ct h n=some (i,fd)):∃oc od sl,h.get? i=some ⟨oc,od,.func fd,sl⟩:=by
 unfold Ct at e
 split at e
 ·split at e
  ·split at e
   ·split at e
    ·rename_i oc od fd' sl hq
     cases e
     exact⟨oc,od,sl,hq⟩
    ·cases e
   ·cases e
  ·cases e
 ·cases e
theorem Hv{fs:List (Str ×Stmt)}{bs cs:List Str}{R at_ qn:Str}{st:Stmt}{s:Shared}(e:IS fs bs cs R at_ s=good2 fs bs qn st):Oh fs bs cs R at_ qn st s.heap:=by
 obtain⟨e0,e'⟩:=Prod.mk.inj e
 obtain⟨e3,e4⟩:=Prod.mk.inj e'
 rw[good,IE,IF,IG]at e0
 obtain⟨e1,e2⟩:=Prod.mk.inj e0
 rw[IE,IF,IG]at e3
 obtain⟨⟨i,fd⟩,hf,hq⟩:=Yx.mp e3
 obtain⟨q1,q2⟩:=Prod.mk.inj hq
 obtain⟨oc,od,sl,h2⟩:=Hu hf
 have sub:∀a∈LM s.heap fs,a∈lM s.heap fs cs R:=λa ha=>XI.mpr (.inl ha)
 have m0:mainGlobals∈lM s.heap fs cs R:=sub _ (.head _)
 have hadr:Fl s.heap R=i::(match fd.code with| .ref c=>[c]|_=>[]):=by unfold Fl;rw[hf]<;>rfl
 have Oi:∀a∈Fl s.heap R,a∈lM s.heap fs cs R:=λa ha=>XI.mpr (.inr (XI.mpr (.inr ha)))
 have Og:i∈lM s.heap fs cs R:=Oi i (by rw[hadr];exact .head _)
 have lk:=oG h2 Og
 have hc:codeIn (wG s.heap (lM s.heap fs cs R)) fd.code qn=true:=o7 q2 λc hc=>Oi c (by rw[hadr,hc];exact .tail _ (.head _))
 have hfd:fd=fnOf "__init__" qn (jl st) (c8 st) (ak st) .none fd.kwdefaults fd.doc fd.pyModule fd.annotations fd.code fd.closureTuple:=by
  cases fd
  unfold blank at q1
  simp only[FuncData.mk.injEq]at q1
  obtain⟨a1,a2,a3,a4,a5,a6,a7,a8,a9⟩:=q1
  simp only[FuncData.mk.injEq]
  exact⟨a1,a2,a3,a4,a5,a6,a7,a8,trivial,trivial,trivial,trivial,trivial,trivial,by simpa using a9⟩
 have e4:IQ s.heap fs cs R at_=true:=e4
 unfold IQ at e4
 rw[hf]at e4
 dsimp only at e4
 have KI:=zm s.heap (lM s.heap fs cs R)
 have AF:=AS (h:=s.heap) (as:=lM s.heap fs cs R) m0 (λa ha=>sub a (.tail _ ha)) e1
 have AB:=allB_of (h:=s.heap) (as:=lM s.heap fs cs R) m0 e2
 unfold Cu at e4
 rw[List.all_append,X3]at e4
 obtain⟨f,g⟩:=e4
 rw[ZA,Ym]at g
 simp only[Zf,List.all_nil,id,X3,and_true]at f
 obtain⟨f1,f2,f3,f4,f5,f6,f7,f8,f9,Sy,Sz,Bj,SA,SD,SE,SG,SH,SI,SJ,SK,SM,SN⟩:=f
 have Z:lK.XC (wG s.heap (lM s.heap fs cs R)) (IP s.heap R):=⟨qf f1,ES f2,qf f3,kE f4,kE f5,f6⟩
 refine⟨_,KI,AF,AB,IP s.heap,i,fd,Z,⟨Z,by rw[<-II];exact f7,qf f8,kE f9,Sy,Sz,by rw[<-K8];exact Bj,qf SA⟩,AU SD,SE,⟨⟨oc,od,fd.kwdefaults,fd.doc,fd.pyModule,fd.annotations,fd.code,fd.closureTuple,sl,hfd,lk,hc⟩,SG⟩,ES SH,kE SI,by rw[<-II];exact SJ,kE SK,kE SM,kE SN,λc hc=>?_,λc hc=>?_⟩
 ·exact AU (Yc.mp (g c hc)).1
 ·exact kE (Yc.mp (g c hc)).2
end HD
namespace Pf
open PySem L2 L3
set_option genInjectivity false in
set_option genSizeOf false in
structure Ad where
 kF:Addr
 jt:FuncData
 kG:Addr
 ju:FuncData
 oH:Addr
 mE:FuncData
 iK:Addr
 gH:FuncData
 kH:Addr
 jv:FuncData
 jw:Addr
 iL:FuncData
 fT:Addr
 eV:FuncData
 gI:Addr
 fW:FuncData
 iM:Addr
 gJ:FuncData
 rQ:Addr
 oJ:FuncData
 gK:Addr
 fX:FuncData
 gM:Addr
 fY:FuncData
 zo:Addr
 vX:FuncData
 zp:Addr
 vY:FuncData
 vZ:Addr
 rR:FuncData
 zq:Addr
 v5:FuncData
 mF:Addr
 kI:FuncData
 gm:Addr
 fm:FuncData
 iN:Addr
 gO:FuncData
 fB:Addr
 dQ:FuncData
 kJ:Addr
 jx:FuncData
 jy:Addr
 iO:FuncData
 gP:Addr
 fZ:FuncData
 oK:Addr
 mG:FuncData
 gb:Addr
 eW:FuncData
 v7:Addr
 rS:FuncData
 mH:Addr
 kK:FuncData
 eX:Addr
 dR:FuncData
 kL:Addr
 jz:FuncData
 jA:Addr
 iP:FuncData
 ET:Addr
 zu:FuncData
 fL:Addr
 rT:Addr
 EU:Addr
 AV:Addr
 uT:Addr
 bE:Addr
 uU:Addr
 qg:Addr
 rV:FuncData
structure Txt(K:PySem.W.Frag)(mg:Str->Option Value)(t:Ad):Prop where
 kM:iV K "_law_many" "_law_many" jT t.kF t.jt
 yc:mg "_law_many" =some (.ref t.kF)
 kN:iV K "_law_spot" "_law_spot" jU t.kG t.ju
 yd:mg "_law_spot" =some (.ref t.kG)
 dF:iV K "_law_at" "_law_at" nQ t.oH t.mE
 gu:mg "_law_at" =some (.ref t.oH)
 iQ:iV K "_law_places" "_law_places" iA t.iK t.gH
 tM:mg "_law_places" =some (.ref t.iK)
 ic:iV K "_law_pick" "_law_pick" jV t.kH t.jv
 o8:mg "_law_pick" =some (.ref t.kH)
 dU:iV K "_law_twice" "_law_twice" jf t.jw t.iL
 jB:mg "_law_twice" =some (.ref t.jw)
 dg:iV K "_law_triangle" "_law_triangle" fM t.fT t.eV
 jL:mg "_law_triangle" =some (.ref t.fT)
 dW:iV K "_law_flipped" "_law_flipped" bM t.gI t.fW
 kO:mg "_law_flipped" =some (.ref t.gI)
 iR:iV K "_law_shaken" "_law_shaken" iB t.iM t.gJ
 tO:mg "_law_shaken" =some (.ref t.iM)
 rW:iV K "rounds" "rounds" qi t.rQ t.oJ
 EV:mg "rounds" =some (.ref t.rQ)
 dX:iV K "left_corners" "left_corners" gv t.gK t.fX
 kP:mg "left_corners" =some (.ref t.gK)
 gQ:iV K "side_between" "side_between" gw t.gM t.fY
 rX:mg "side_between" =some (.ref t.gM)
 rY:iV K "back" "back" yw t.zo t.vX
 zx:mg "back" =some (.ref t.zo)
 zy:iV K "sign" "sign" yx t.zp t.vY
 La:mg "sign" =some (.ref t.zp)
 v8:iV K "twice" "twice" uV t.vZ t.rR
 Hw:mg "twice" =some (.ref t.vZ)
 mJ:iV K "turn" "turn" yy t.zq t.v5
 rZ:mg "turn" =some (.ref t.zq)
 jC:iV K "can_turn" "can_turn" lV t.mF t.kI
 se:mg "can_turn" =some (.ref t.mF)
 dY:iV K "other_side" "other_side" jg t.gm t.fm
 nE:mg "other_side" =some (.ref t.gm)
 c6:iV K "triangle_of" "triangle_of" iC t.iN t.gO
 iS:mg "triangle_of" =some (.ref t.iN)
 bX:iV K "turned_over" "turned_over" cX t.fB t.dQ
 fE:mg "turned_over" =some (.ref t.fB)
 ie:iV K "_law_word" "_law_word" jW t.kJ t.jx
 o9:mg "_law_word" =some (.ref t.kJ)
 cU:iV K "_law_stiff" "_law_stiff" jh t.jy t.iO
 gn:mg "_law_stiff" =some (.ref t.jy)
 dZ:iV K "without_bays" "without_bays" gA t.gP t.fZ
 kQ:mg "without_bays" =some (.ref t.gP)
 oM:iV K "outline" "outline" nR t.oK t.mG
 B4:mg "outline" =some (.ref t.oK)
 gc:iV K "outline_sides" "outline_sides" fN t.gb t.eW
 pO:mg "outline_sides" =some (.ref t.gb)
 v9:iV K "swept" "swept" kZ t.v7 t.rS
 Hx:mg "swept" =some (.ref t.v7)
 jD:iV K "_law_int" "_law_int" lW t.mH t.kK
 sf:mg "_law_int" =some (.ref t.mH)
 eY:iV K "_law_places_of" "_law_places_of" eK t.eX t.dR
 oN:mg "_law_places_of" =some (.ref t.eX)
 ig:iV K "_law_rows" "_law_rows" jX t.kL t.jz
 pq:mg "_law_rows" =some (.ref t.kL)
 jE:iV K "_law_asked" "_law_asked" dI t.jA t.iP
 wc:mg "_law_asked" =some (.ref t.jA)
 IK:iV K "law" "law" Cw t.ET t.zu
 SO:mg "law" =some (.ref t.ET)
 EW:mg "min" =none
 EX:mg "max" =none
 eZ:mg "len" =none
 dG:mg "sorted" =none
 sj:mg "tuple" =none
 bf:mg "isinstance" =none
 tP:mg "ValueError" =none
 iw:mg "list" =none
 ye:mg "reversed" =none
 Lb:mg "zip" =none
 sr:mg "range" =none
 Lc:mg "int" =none
 we:mg "NearError" =some (.ref t.fL)
 yf:mg "NoNumber" =some (.ref t.rT)
 Hy:mg "Flat" =some (.ref t.EU)
 EY:mg "Twice" =some (.ref t.AV)
 zz:mg "NoPlace" =some (.ref t.uT)
 su:mg "Stiff" =some (.ref t.bE)
 zA:mg "Crossed" =some (.ref t.uU)
 iy:lK.XC K t.bE
 qh:XV K t.bE
 yg:iV K "__init__" "Stiff.__init__" iX t.qg t.rV
 EZ:PySem.W.findIn K (.ref t.bE) "__init__" =some (some (.ref t.qg))
 E1:PySem.W.isFn K (.ref t.qg)=true
 yh:PySem.W.findIn K (.ref t.bE) "side" =some none
 Vf:PySem.W.kitOne K (.ref t.bE) (.type "ValueError")=some true
 tN:lK.rO K t.fL=true
 sN:PySem.W.subIn K (.ref t.fL) (.type "BaseException")=some true
 sR:PySem.W.subIn K (.ref t.bE) (.ref t.fL)=some true
 sS:PySem.W.subIn K (.ref t.bE) (.ref t.bE)=some true
 Hz:PySem.W.kitOne K (.ref t.bE) (.ref t.fL)=some true
 yi:PySem.W.kitOne K (.ref t.bE) (.ref t.rT)=some false
 HA:PySem.W.kitOne K (.ref t.bE) (.ref t.EU)=some false
 E2:PySem.W.kitOne K (.ref t.bE) (.ref t.AV)=some false
 zB:PySem.W.kitOne K (.ref t.bE) (.ref t.uT)=some false
 E3:PySem.W.kitOne K (.ref t.bE) (.ref t.bE)=some true
 zC:PySem.W.kitOne K (.ref t.bE) (.ref t.uU)=some false
theorem B5:aE ["self","side"] ["self","side"] (ak iX):=⟨rfl,rfl,rfl,by decide +kernel,rfl,by decide +kernel,by decide +kernel⟩
theorem wg:aE ["_law_cell"] ["_law_cell"] (ak jT):=⟨rfl,rfl,rfl,by decide +kernel,rfl,by decide +kernel,by decide +kernel⟩
theorem bH:aE ["_law_kind","_law_cell","_law_head","_law_five","_law_x","_law_y","_law_times"] ["_law_kind","_law_cell","_law_head"] (ak jU):=⟨rfl,rfl,rfl,by decide +kernel,rfl,by decide +kernel,by decide +kernel⟩
theorem zD:aE ["_law_script","_law_k"] ["_law_script","_law_k"] (ak nQ):=⟨rfl,rfl,rfl,by decide +kernel,rfl,by decide +kernel,by decide +kernel⟩
theorem eg:aE ["_law_script","_law_most","_law_some","_law_cell","_law_spot_here"] ["_law_script","_law_most"] (ak iA):=⟨rfl,rfl,rfl,by decide +kernel,rfl,by decide +kernel,by decide +kernel⟩
theorem jF:aE ["_law_cover","_law_cell","_law_t","_law_k"] ["_law_cover","_law_cell"] (ak jV):=⟨rfl,rfl,rfl,by decide +kernel,rfl,by decide +kernel,by decide +kernel⟩
theorem tQ:aE ["_law_a","_law_b","_law_c"] ["_law_a","_law_b","_law_c"] (ak jf):=⟨rfl,rfl,rfl,by decide +kernel,rfl,by decide +kernel,by decide +kernel⟩
theorem i9:aE ["_law_a","_law_b","_law_c","_law_some"] ["_law_a","_law_b","_law_c"] (ak fM):=⟨rfl,rfl,rfl,by decide +kernel,rfl,by decide +kernel,by decide +kernel⟩
theorem cD:aE ["_law_cover","_law_a","_law_b","_law_both","_law_c","_law_d","_law_left"] ["_law_cover","_law_a","_law_b"] (ak bM):=⟨rfl,rfl,rfl,by decide +kernel,rfl,by decide +kernel,by decide +kernel⟩
theorem cg:aE ["_law_cover","_law_cells","_law_cell","_law_a","_law_b","_law_other"] ["_law_cover","_law_cells"] (ak iB):=⟨rfl,rfl,rfl,by decide +kernel,rfl,by decide +kernel,by decide +kernel⟩
theorem B6:aE ["t"] ["t"] (ak qi):=⟨rfl,rfl,rfl,by decide +kernel,rfl,by decide +kernel,by decide +kernel⟩
theorem dh:aE ["cover","corners","t","one"] ["cover"] (ak gv):=⟨rfl,rfl,rfl,by decide +kernel,rfl,by decide +kernel,by decide +kernel⟩
theorem pP:aE ["a","b"] ["a","b"] (ak gw):=⟨rfl,rfl,rfl,by decide +kernel,rfl,by decide +kernel,by decide +kernel⟩
theorem HB:aE ["way"] ["way"] (ak yw):=⟨rfl,rfl,rfl,by decide +kernel,rfl,by decide +kernel,by decide +kernel⟩
theorem HC:aE ["number"] ["number"] (ak yx):=⟨rfl,rfl,rfl,by decide +kernel,rfl,by decide +kernel,by decide +kernel⟩
theorem E4:aE ["a","b","c"] ["a","b","c"] (ak uV):=⟨rfl,rfl,rfl,by decide +kernel,rfl,by decide +kernel,by decide +kernel⟩
theorem HE:aE ["a","b","c"] ["a","b","c"] (ak yy):=⟨rfl,rfl,rfl,by decide +kernel,rfl,by decide +kernel,by decide +kernel⟩
theorem kR:aE ["corners","side","c","d"] ["corners","side"] (ak lV):=⟨rfl,rfl,rfl,by decide +kernel,rfl,by decide +kernel,by decide +kernel⟩
theorem fF:aE ["cover","side","corners"] ["cover","side"] (ak jg):=⟨rfl,rfl,rfl,by decide +kernel,rfl,by decide +kernel,by decide +kernel⟩
theorem kT:aE ["a","b","c","three"] ["a","b","c"] (ak iC):=⟨rfl,rfl,rfl,by decide +kernel,rfl,by decide +kernel,by decide +kernel⟩
theorem cj:aE ["cover","side","new","stay","come"] ["cover","side"] (ak cX):=⟨rfl,rfl,rfl,by decide +kernel,rfl,by decide +kernel,by decide +kernel⟩
theorem jG:aE ["_law_e","_law_others"] ["_law_e"] (ak jW):=⟨rfl,rfl,rfl,by decide +kernel,rfl,by decide +kernel,by decide +kernel⟩
theorem cF:aE ["_law_cover","_law_side","_law_base","_law_told","_law_e"] ["_law_cover","_law_side","_law_base"] (ak jh):=⟨rfl,rfl,rfl,by decide +kernel,rfl,by decide +kernel,by decide +kernel⟩
theorem gf:aE ["line","chain","p"] ["line"] (ak gA):=⟨rfl,rfl,rfl,by decide +kernel,rfl,by decide +kernel,by decide +kernel⟩
theorem jH:aE ["places","line","there","home"] ["places"] (ak nR):=⟨rfl,rfl,rfl,by decide +kernel,rfl,by decide +kernel,by decide +kernel⟩
theorem ja:aE ["places","border"] ["places"] (ak fN):=⟨rfl,rfl,rfl,by decide +kernel,rfl,by decide +kernel,by decide +kernel⟩
theorem jb:aE ["places","line","cover","k","p","seen"] ["places"] (ak kZ):=⟨rfl,rfl,rfl,by decide +kernel,rfl,by decide +kernel,by decide +kernel⟩
theorem yj:aE ["_law_one"] ["_law_one"] (ak lW):=⟨rfl,rfl,rfl,by decide +kernel,rfl,by decide +kernel,by decide +kernel⟩
theorem iz:aE ["_law_found","_law_many_here","_law_p"] ["_law_found","_law_many_here"] (ak eK):=⟨rfl,rfl,rfl,by decide +kernel,rfl,by decide +kernel,by decide +kernel⟩
theorem nF:aE ["_law_found","_law_due","_law_many_here","_law_k"] ["_law_found","_law_due","_law_many_here"] (ak jX):=⟨rfl,rfl,rfl,by decide +kernel,rfl,by decide +kernel,by decide +kernel⟩
theorem c7:aE ["_law_cover","_law_side","_law_base","_law_handed","_law_due","_law_gone","_law_ends"] ["_law_cover","_law_side","_law_base"] (ak dI):=⟨rfl,rfl,rfl,by decide +kernel,rfl,by decide +kernel,by decide +kernel⟩
theorem gR:aE ["_law_script","_law_many_here","_law_places_here","_law_cover","_law_asked_here","_law_k","_law_side","_law_alone","_law_strange","_law_ends","_law_p"] ["_law_script"] (ak Cw):=⟨rfl,rfl,rfl,by decide +kernel,rfl,by decide +kernel,by decide +kernel⟩
section
variable{P:Program}{w:World}{K:PySem.W.Frag}{mg:Str->Option Value}{base:Heap}{t:Ad}
theorem B7(T:Txt K mg t):Binds K t.rV ["self","side"] []:=T.yg.binds λ_ _ _ _ _ _ us hl=>match us,hl with|[_,_],_=>rfl
theorem zE(T:Txt K mg t):bG P w K mg base eL 1 t.qg t.rV ["self","side"] (OV t.bE "side"):=by
 refine T.yg.ok B5 (λvs H Q E h=>by obtain⟨_,_,_,rfl,_⟩:=h;rfl) λcdv A outer s H vs Q E hr h=>?_
 obtain⟨x,a,y,rfl,hx,q⟩:=h
 exact⟨_,zQ (Hi (pv 0) (pv 1) rfl),⟨y,rfl,V.ref x,rfl,x,_,_,rfl,hx,T.qh,yJ.Mh T.yh,q⟩⟩
theorem wj(T:Txt K mg t):Binds K t.jt ["_law_cell"] []:=T.kM.binds λ_ _ _ _ _ _ us hl=>match us,hl with|[_],_=>rfl
noncomputable def yk:sV:=λds Q=>∃c:Int,ds=[.int c]/\∀m:Int,0<=m->m<=12->Q (.int m)
theorem wk(T:Txt K mg t):bG P w K mg base eL 1 t.kF t.jt ["_law_cell"] (qz K yk):=by
 refine Ah T.kM wg (λds Q h=>by(first|(obtain⟨_,rfl,_⟩:=h;rfl)|(obtain⟨_,_,rfl,_⟩:=h;rfl)|(obtain⟨_,_,_,rfl,_⟩:=h;rfl)|(obtain⟨_,_,_,_,rfl,_⟩:=h;rfl)|(obtain⟨_,_,_,_,_,rfl,_⟩:=h;rfl)|(obtain⟨_,_,_,_,_,_,rfl,_⟩:=h;rfl)|(obtain⟨_,_,_,_,_,_,_,rfl,_⟩:=h;rfl))) (λcdv A outer s H hr=>?_)
 have hu:=hr.units
 refine⟨_,(aD (aN (aG (eF (aa ai (aa ai (aa ai (aa ai (aa ai (aa ai (aa ai (aa ai (aa ai (aa ai (aa ai (aa ai (aa ai (aa ai (aa ai (aa ai aj))))))))))))))))) (ay cy (af 0) ai)))),λds Q h=>?_⟩
 obtain⟨c,rfl,h⟩:=h
 walk_at "rd"
 intro p hp
 walk_at "rd"
 obtain⟨z1,m1,e1⟩:=DG (ns:=[4,5,6,7,8,3,6,7,5,8,6,2,1,0,7,12]) (k:=c % 16) (YX _ (by decide)) (YK _ (by decide))
 refine⟨_,_,_,.inr (.inr ⟨p,rfl,ah⟩),rfl,e1,?_⟩
 have b:∀z∈([4,5,6,7,8,3,6,7,5,8,6,2,1,0,7,12]:List Int),0<=z/\z<=12:=by decide
 exact h z1 (b z1 m1).1 (b z1 m1).2
theorem wm(T:Txt K mg t):Binds K t.ju ["_law_kind","_law_cell","_law_head"] []:=T.kN.binds λ_ _ _ _ _ _ us hl=>match us,hl with|[_,_,_],_=>rfl
noncomputable def ym:sV:=λds Q=>∃kd c h:Int,ds=[.int kd,.int c,.int h]/\0<=kd/\kd<8/\Att.An c/\∀p:Pl,p.Ok 129->Q p.d
noncomputable def zF:List Pl:=[⟨5,0⟩,⟨4,3⟩,⟨3,4⟩,⟨0,5⟩,⟨-3,4⟩,⟨-4,3⟩,⟨-5,0⟩,⟨-4, -3⟩,⟨-3, -4⟩,⟨0, -5⟩,⟨3, -4⟩,⟨4, -3⟩,⟨0,0⟩]
theorem Oj{ps:List Pl}{k:Int}(h0:0<=k)(h1:k<ps.length):∃p:Pl,p∈ps/\sL (ps.map Pl.d) k=some p.d:=by
 obtain⟨j,rfl⟩:∃j:Nat,k=(j:Int):=⟨k.toNat,by omega⟩
 have hlt:j<ps.length:=by omega
 refine⟨ps[j],YN hlt,k6 ?_⟩
 rw[XT,Xm hlt]
 rfl
theorem HF{p:Pl}(h:p∈zF):Sm 3 p.x/\Sm 3 p.y:=by
 have:zF.all (λp=>decide (p.x.natAbs<2 ^ 3) && decide (p.y.natAbs<2 ^ 3))=true:=by decide
 have:=Ym.mp this p h
 rw[X3]at this
 exact⟨of_decide_eq_true this.1,of_decide_eq_true this.2⟩
theorem wo(T:Txt K mg t):bG P w K mg base eL 1 t.kG t.ju ["_law_kind","_law_cell","_law_head"] (qz K ym):=by
 refine Ah T.kN bH (λds Q h=>by(first|(obtain⟨_,rfl,_⟩:=h;rfl)|(obtain⟨_,_,rfl,_⟩:=h;rfl)|(obtain⟨_,_,_,rfl,_⟩:=h;rfl)|(obtain⟨_,_,_,_,rfl,_⟩:=h;rfl)|(obtain⟨_,_,_,_,_,rfl,_⟩:=h;rfl)|(obtain⟨_,_,_,_,_,_,rfl,_⟩:=h;rfl)|(obtain⟨_,_,_,_,_,_,_,rfl,_⟩:=h;rfl))) (λcdv A outer s H hr=>?_)
 have hu:=hr.units
 refine⟨_,(av (Nb (aX Ga (af 0) ai (aO _)) (aD (aV (i:=0) bH.nd rfl (Or.inl rfl) (aG (eF (aa ai (aa ai (aa ai (aa ai aj))))) (ay j5 (ay iI ai (ay cZ (af 0) ai)) (ay cy (ay iH (af 1) ai) ai))))))
  (av (dJ (aX (mX hu) (af 0) ai (aO _)) (aD (aN (bA (aa (ay j5 (ay cy (af 1) ai) (ay lP ai ai)) (aa (ay cZ (ay cy (ay iH (af 1) ai) ai) (ay lP ai ai)) aj))))) bS)
  (av (dJ (aX (mX hu) (af 0) ai (aO _)) (av (aV (i:=3) bH.nd rfl (Or.inl rfl) (eF (aa (bA (aa ai (aa ai aj))) (aa (bA (aa ai (aa ai aj))) (aa (bA (aa ai (aa ai aj))) (aa (bA (aa ai (aa ai aj))) (aa (bA (aa (eE ai) (aa ai aj))) (aa (bA (aa (eE ai) (aa ai aj))) (aa (bA (aa (eE ai) (aa ai aj))) aj)))))))))
  (av (aV (i:=3) bH.nd rfl (Or.inl rfl) (ay o4 (af 3) (eF (aa (bA (aa (eE ai) (aa (eE ai) aj))) (aa (bA (aa (eE ai) (aa (eE ai) aj))) (aa (bA (aa ai (aa (eE ai) aj))) (aa (bA (aa ai (aa (eE ai) aj))) (aa (bA (aa ai (aa (eE ai) aj))) (aa (bA (aa ai (aa ai aj))) aj)))))))))
  (av (Df (aG (af 3) (ay cy (af 1) ai)) (Ii rfl (p8 (cW (i:=4) bH.nd rfl (Or.inl rfl)) (p8 (cW (i:=5) bH.nd rfl (Or.inl rfl)) De))))
  (av (aV (i:=6) bH.nd rfl (Or.inl rfl) (ay iI (ay j5 ai (ay cy (af 2) ai)) (ay j5 ai (ay cy (ay iH (af 1) ai) ai))))
  (aD (aN (bA (aa (ay j5 (ay iI (af 4) (af 6)) (ay cy (ay iH (af 2) ai) (ay lP ai ai))) (aa (ay cZ (ay iI (af 5) (af 6)) (ay cy (ay iH (af 2) ai) (ay lP ai ai))) aj))))))))) bS)
  (av (dJ (aX (mX hu) (af 0) ai (aO _)) (av (aV (i:=4) bH.nd rfl (Or.inl rfl) (ay cZ (ay cy (af 1) ai) ai))
  (aD (aN (bA (aa (af 4) (aa (ay j5 (ay iI ai (af 4)) (ay iI (ay iH (ay cy (ay iH (af 1) ai) ai) ai) (ay j5 ai (ay cy (ay iH (af 1) ai) ai)))) aj)))))) bS)
  (av (dJ (aX (mX hu) (af 0) ai (aO _)) (aD (aN (bA (aa (ay cZ (ay cy (ay iI (af 1) ai) ai) ai) (aa (ay cZ (ay cy (ay iI (af 1) ai) ai) ai) aj))))) bS)
  (av (dJ (aX (mX hu) (af 0) ai (aO _)) (av (aV (i:=4) bH.nd rfl (Or.inl rfl) (ay cy (ay iI (af 1) (ay lP ai ai)) ai))
  (aD (aN (bA (aa (ay cZ (af 4) (ay lP ai ai)) (aa (ay cZ (ay lP ai ai) (ay cy (ay iI (af 1) (ay lP ai ai)) ai)) aj)))))) bS)
  (aD (aN (bA (aa (ay cy (af 1) ai) (aa (ay cy (ay iH (af 1) ai) ai) aj))))))))))),λds Q h=>?_⟩
 obtain⟨kd,c,hd,rfl,h0,h8,bc,h⟩:=h
 walk_at "rd"
 refine⟨λρ M'=>∃k:Int,ρ=[some (.int k),some (.int c),some (.int hd),none,none,none,none],?_,?_⟩
 ·walk_at "rd"
  refine eB (λk=>?_) (λk=>?_)
  ·have k:5<kd:=of_decide_eq_true k
   walk_at "rd"
   intro p hp
   walk_at "rd"
   refine⟨Or.inr (Or.inl (Or.inl ⟨by decide,by decide⟩)),?_⟩
   walk_at "rd"
   have hm0:0<=c / 16 % 2:=YX _ (by decide)
   have hm2:c / 16 % 2<2:=YK _ (by decide)
   obtain⟨z,_,ez⟩:=DG (ns:=[0,3,0,5]) (k:=2*(kd-6)+c / 16 % 2) (by omega) (by show _<(4:Int);omega)
   refine⟨_,_,_,.inr (.inr ⟨p,rfl,ah⟩),rfl,ez,?_⟩
   walk_at "rd"
   exact bD.mk ⟨z,rfl⟩
  ·exact bD.mk ⟨kd,rfl⟩
 rintro ρ M' ⟨k,rfl⟩
 walk_at "rd"
 refine eB (λ_=>?_) (λ_=>?_)
 ·walk_at "rd"
  exact h ⟨_,_⟩ ⟨by walk_at "smle",by walk_at "smle"⟩
 walk_at "rd"
 refine eB (λ_=>?_) (λ_=>?_)
 ·walk_at "rd"
  intro p hp
  walk_at "rd"
  intro q hq
  refine⟨p,q,_,_,rfl,rfl,ao ah hq,ah,by show 13<=sizeLine;decide,λr hr=>?_⟩
  walk_at "rd"
  obtain⟨v,m1,e1⟩:=Oj (ps:=zF) (k:=c % 13) (YX _ (by decide)) (YK _ (by decide))
  obtain⟨s1,s2⟩:=HF m1
  refine⟨_,_,_,.inr (.inr ⟨r,rfl,ah⟩),rfl,e1,?_⟩
  walk_at "rd"
  exact h ⟨_,_⟩ ⟨by walk_at "smle",by walk_at "smle"⟩
 walk_at "rd"
 refine eB (λ_=>?_) (λ_=>?_)
 ·have s1:Sm 2 (c / 11 % 3 / 2):=by
   show(c / 11 % 3 / 2).natAbs<4
   omega
  walk_at "rd"
  exact h ⟨_,_⟩ ⟨by walk_at "smle",by walk_at "smle"⟩
 walk_at "rd"
 refine eB (λ_=>?_) (λ_=>?_)
 ·walk_at "rd"
  refine⟨Or.inr (Or.inl (Or.inr ⟨by decide,by decide⟩)),?_⟩
  walk_at "rd"
  refine⟨Or.inr (Or.inl (Or.inr ⟨by decide,by decide⟩)),?_⟩
  walk_at "rd"
  exact h ⟨_,_⟩ ⟨by walk_at "smle",by walk_at "smle"⟩
 walk_at "rd"
 refine eB (λ_=>?_) (λ_=>?_)
 ·walk_at "rd"
  refine⟨Or.inr (Or.inr ⟨bc,200,by decide +kernel,by decide⟩),?_⟩
  walk_at "rd"
  refine⟨Or.inr (Or.inr ⟨bc,200,by decide +kernel,by decide⟩),?_⟩
  walk_at "rd"
  exact h ⟨_,_⟩ ⟨by walk_at "smle",by walk_at "smle"⟩
 walk_at "rd"
 exact h ⟨_,_⟩ ⟨by walk_at "smle",by walk_at "smle"⟩
theorem e9(T:Txt K mg t):Binds K t.mE ["_law_script","_law_k"] []:=T.dF.binds λ_ _ _ _ _ _ us hl=>match us,hl with|[_,_],_=>rfl
noncomputable def B8:sV:=λds Q=>∃(ns:List Int) (k:Int),ds=[.wW (ns.map L3.D.int),.int k]/\(∀z∈ns,Att.An z)/\ns.length<=63/\∀z:Int,Att.An z->Q (.int z)
theorem ff(T:Txt K mg t):bG P w K mg base eL 1 t.oH t.mE ["_law_script","_law_k"] (qz K B8):=by
 refine Ah T.dF zD (λds Q h=>by(first|(obtain⟨_,rfl,_⟩:=h;rfl)|(obtain⟨_,_,rfl,_⟩:=h;rfl)|(obtain⟨_,_,_,rfl,_⟩:=h;rfl)|(obtain⟨_,_,_,_,rfl,_⟩:=h;rfl)|(obtain⟨_,_,_,_,_,rfl,_⟩:=h;rfl)|(obtain⟨_,_,_,_,_,_,rfl,_⟩:=h;rfl)|(obtain⟨_,_,_,_,_,_,_,rfl,_⟩:=h;rfl))) (λcdv A outer s H hr=>?_)
 have hu:=hr.units
 refine⟨_,(aD (aN (aG (ay o4 (dN (af 0) (fR (af 1)) (fR (ay j5 (af 1) ai))) (eF (aa ai aj))) ai))),λds Q h=>?_⟩
 obtain⟨ns,k,rfl,hb,hlen,h⟩:=h
 walk_at "rd"
 refine⟨_,.inl rfl,λp hp=>?_⟩
 walk_at "rd"
 intro q hq
 have hc:∃zs:List Int,(∀z∈zs,Att.An z)/\cutD (ns.map L3.D.int) (some k) (some (k+1))=zs.map L3.D.int:=by
  refine⟨(ns.drop (HT.mR (ns.map L3.D.int).length 0 (some k))).take (HT.mR (ns.map L3.D.int).length (ns.map L3.D.int).length (some (k+1))-HT.mR (ns.map L3.D.int).length 0 (some k)),λz hz=>hb z (Zd (Yd hz)),?_⟩
  unfold cutD
  rw[ZP,aae]
 obtain⟨zs,hzs,ec⟩:=hc
 have hp2:au JH p (.lst (zs.map L3.D.int)) p=some (.lst (zs.map L3.D.int)):=ah
 have Rq:cutD (ns.map L3.D.int) (some k) (some ((λi j:Int=>i+j) k 1))=zs.map L3.D.int:=ec
 rw[Rq]at hq ⊢
 refine⟨p,q,_,_,rfl,rfl,ao hp2 hq,ah,?_,λr hr=>?_⟩
 ·have h1:(zs.map L3.D.int).length<=(ns.map L3.D.int).length:=by
   rw[<-ec]
   unfold cutD
   rw[Yi,Yq]
   omega
  rw[Xi (as:=ns)]at h1
  have:(1000:Nat)<sizeLine:=by decide
  show(zs.map L3.D.int).length+1<=sizeLine
  omega
 walk_at "rd"
 have ha:∃z:Int,Att.An z/\sL (zs.map L3.D.int++[.int 0]) 0=some (.int z):=by
  cases zs with
  |nil=>exact⟨0,by show Builtin.Int.intBits 0<=_;decide,rfl⟩
  |cons z zs=>exact⟨z,hzs z (Xu ..),k6 (j:=0) rfl⟩
 obtain⟨z,bz,ez⟩:=ha
 exact⟨_,_,_,.inr (.inr ⟨r,rfl,ah⟩),rfl,ez,h z bz⟩
theorem sy(T:Txt K mg t):Binds K t.gH ["_law_script","_law_most"] []:=T.iQ.binds λ_ _ _ _ _ _ us hl=>match us,hl with|[_,_],_=>rfl
noncomputable def tR:ug:=λds M Q=>∃(ns:List Int) (m:Int),ds=[.wW (ns.map L3.D.int),.int m]/\(∀z∈ns,Att.An z)/\ns.length<=63/\0<=m/\∀(p:Addr) (ps:List Pl),M p=none->ps.Nodup->(∀q∈ps,q.Ok 129)->(ps.length:Int)<=m->Q (.ref p) (au M p (.lst (ps.map Pl.d)))
theorem sA(T:Txt K mg t):bG P w K mg base eL 2 t.iK t.gH ["_law_script","_law_most"] (wI K tR):=by
 refine yv T.iQ eg (λds M Q h=>by(first|(obtain⟨_,rfl,_⟩:=h;rfl)|(obtain⟨_,_,rfl,_⟩:=h;rfl)|(obtain⟨_,_,_,rfl,_⟩:=h;rfl)|(obtain⟨_,_,_,_,rfl,_⟩:=h;rfl)|(obtain⟨_,_,_,_,_,rfl,_⟩:=h;rfl)|(obtain⟨_,_,_,_,_,_,rfl,_⟩:=h;rfl)|(obtain⟨_,_,_,_,_,_,_,rfl,_⟩:=h;rfl))) (λcdv A outer s H hr=>?_)
 have hu:=hr.units
 refine⟨_,(av (aV (i:=2) eg.nd rfl (Or.inl rfl) (eF aj))
  (av (nY PassesOwn.never rfl (dN (af 0) (fR ai) (fR (ay j5 ai (af 1)))) (cW (i:=3) eg.nd rfl (Or.inl rfl)) (av (aV (i:=4) eg.nd rfl (Or.inl rfl) (aQ (wo T) (hr.mono (by decide)) (by rfl) T.yd T.kN.kp (wm T) (aa (ay cy (aQ (ff T) (hr.mono (by decide)) (by rfl) T.gu T.dF.kp (e9 T) (aa (af 0) (aa ai aj))) ai) (aa (af 3) (aa (aQ (ff T) (hr.mono (by decide)) (by rfl) T.gu T.dF.kp (e9 T) (aa (af 0) (aa ai aj))) aj)))))
  (aD (dJ (aX (gZ hu) (af 4) (af 2) (by with_unfolding_all rfl)) (aD (qA (Di (af 2) (af 4) (zZ PySem.F.plainAttrs_list PySem.F.slot_list_append PySem.F.type_list_append k7 (bZ.dn (af 2)) (mQ (bZ.dn (af 4)) ql))))) bS))))
  (aD (aN (af 2))))),λds M Q h=>?_⟩
 obtain⟨ns,m,rfl,hb,hlen,hm,h⟩:=h
 walk_at "rd"
 intro p hp
 walk_at "rd"
 refine⟨_,.inl rfl,λc hc=>?_⟩
 obtain⟨zs,hz,hl,hle,ez⟩:=xP (k:=3) hb (by decide) hm
 have ez:cutD (ns.map L3.D.int) (some 3) (some ((λi j:Int=>i+j) 3 m))=zs.map L3.D.int:=ez
 rw[ez]
 have pc:p≠c:=λz=>by rw[z,ah]at hc;cases hc
 have Vg:M c=none:=by rw[aT (Ne.symm pc)]at hc;exact hc
 refine⟨c,_,rfl,ah,?_⟩
 refine cL (λi ρ M'=>∃(ps:List Pl) (y1 y2:Option L3.D),ρ=[some (.wW (ns.map L3.D.int)),some (.int m),some (.ref p),y1,y2]/\ps.length<=i/\ps.Nodup/\(∀q∈ps,q.Ok 129)/\M'=au (au M c (.lst (zs.map L3.D.int))) p (.lst (ps.map Pl.d))) _ ?_ ?_ ⟨[],_,_,rfl,Xn _,ZH,(λq hq=>by cases hq),BK pc⟩
 ·rintro _ _ i x ρ M' N hx ⟨ps,y1,y2,rfl,hl2,nd,ho,rfl⟩ hN
  obtain⟨z,Vh,rfl⟩:∃z:Int,z∈zs/\x= .int z:=by
   rw[XT,Yx]at hx
   obtain⟨z,e1,e2⟩:=hx
   exact⟨z,XJ e1,e2.symm⟩
  have hi:i<zs.length:=by
   have:=(XH.mp hx).1
   simpa using this
  refine⟨by rw[aT (Ne.symm pc)];exact ah,?_⟩
  walk_at "rd"
  refine⟨hb,hlen,λz0 _=>?_⟩
  walk_at "rd"
  refine⟨hb,hlen,λz2 _=>?_⟩
  walk_at "rd"
  refine⟨by dsimp only;omega,hz z Vh,λq hq=>?_⟩
  walk_at "rd"
  refine⟨_,.inr ⟨p,rfl,ah⟩,rfl,dD ps,?_⟩
  walk_at "rd"
  rw[if_pos rfl,g9]
  refine eB (λk=>?_) (λk=>?_)
  ·have k:q∉ps:=λz=>by rw[decide_eq_true z]at k;cases k
   walk_at "rd"
   refine⟨⟨p,_,rfl,ah⟩,?_⟩
   walk_at "rd"
   refine⟨p,_,rfl,ah,?_,?_⟩
   ·rw[Xi]
    have:(1000:Nat)<sizeLine:=by decide
    omega
   ·rw[mU]
    refine hN _ _ ⟨ps++[q],_,_,rfl,by simp;omega,?_,?_,by simp⟩
    ·rw[YM]
     exact⟨nd,by simp,λa ha b hb e=>by rw[Xq.mp hb]at e;subst e;exact k ha⟩
    ·intro z hz
     rcases XI.mp hz with hz|hz
     ·exact ho z hz
     ·rw[Xq.mp hz];exact hq
  ·exact hN _ _ ⟨ps,_,_,rfl,by omega,nd,ho,rfl⟩
 ·rintro ρ M' ⟨ps,y1,y2,rfl,hl2,nd,ho,rfl⟩
  refine⟨by rw[aT (Ne.symm pc)];exact ah,?_⟩
  walk_at "rd"
  refine bD.mk ⟨au M p (.lst (ps.map Pl.d)),Le.put2 (Le.new Vg),h p ps hp nd ho ?_⟩
  simp at hl2
  omega
theorem nG(T:Txt K mg t):Binds K t.jv ["_law_cover","_law_cell"] []:=T.ic.binds λ_ _ _ _ _ _ us hl=>match us,hl with|[_,_],_=>rfl
/-- WD side Ol a number picks -/
noncomputable def OY(t:List Pl)(j:Int):List Pl:=match t with
 |[a,b,c]=>if j=0 then[lo a c,hi a c]else if j=1 then[lo b a,hi b a]else[lo c b,hi c b]
 |_=>[]
noncomputable def LG(ts:List (List Pl))(z:Int):List Pl:=OY (ts.getD (z % ts.length).toNat []) (z / ts.length % 3)
noncomputable def yo:ug:=λds M Q=>∃(l:Addr) (z:Int),ds=[.ref l,.int z]/\∃(ps:List Pl) (ts:List (List Pl)),M l=some (.lst (ts.map tD))/\(∀t∈ts,qc ps t)/\(∀q∈ps,q.Ok 140)/\ts≠[]/\ts.length<=20/\Q (tD (LG ts z)) M
theorem nH(T:Txt K mg t):bG P w K mg base eL 1 t.kH t.jv ["_law_cover","_law_cell"] (wI K yo):=by
 refine yv T.ic jF (λds M Q h=>by(first|(obtain⟨_,rfl,_⟩:=h;rfl)|(obtain⟨_,_,rfl,_⟩:=h;rfl)|(obtain⟨_,_,_,rfl,_⟩:=h;rfl)|(obtain⟨_,_,_,_,rfl,_⟩:=h;rfl)|(obtain⟨_,_,_,_,_,rfl,_⟩:=h;rfl)|(obtain⟨_,_,_,_,_,_,rfl,_⟩:=h;rfl)|(obtain⟨_,_,_,_,_,_,_,rfl,_⟩:=h;rfl))) (λcdv A outer s H hr=>?_)
 have hu:=hr.units
 refine⟨_,(av (aV (i:=2) jF.nd rfl (Or.inl rfl) (aG (af 0) (ay cy (af 1) (bC i6 (by rfl) T.eZ bL (aa (af 0) aj)))))
  (av (aV (i:=3) jF.nd rfl (Or.inl rfl) (ay cy (ay iH (af 1) (bC i6 (by rfl) T.eZ bL (aa (af 0) aj))) ai))
  (aD (aN (bA (aa (bC (Nc hu rfl) (by rfl) T.EW uh (aa (aG (af 2) (af 3)) (aa (aG (af 2) (ay cZ (af 3) ai)) aj))) (aa (bC (Nd hu rfl) (by rfl) T.EX um (aa (aG (af 2) (af 3)) (aa (aG (af 2) (ay cZ (af 3) ai)) aj))) aj))))))),λds M Q h=>?_⟩
 obtain⟨l,z,rfl,ps,ts,hM,hT,ho,hne,lt,h⟩:=h
 have sl:(1000:Nat)<sizeLine:=by decide
 have lp:0<ts.length:=ZE.mpr hne
 walk_at "rd"
 refine⟨_,_,rfl,.inr (.inr ⟨l,rfl,hM⟩),?_⟩
 rw[Xi]
 walk_at "rd"
 have i0:0<=z % (ts.length:Int):=YX _ (by omega)
 have i1:z % (ts.length:Int)<ts.length:=YK _ (by omega)
 obtain⟨i,hi⟩:∃i:Nat,z % (ts.length:Int)=(i:Int):=⟨(z % (ts.length:Int)).toNat,by omega⟩
 have li:i<ts.length:=by omega
 have ht:ts[i]?=some ts[i]:=Xm li
 have mt:ts[i]∈ts:=YN li
 generalize ts[i]=t at ht mt
 obtain⟨a,b,c,rfl,p,ha,hb,hc,_⟩:=(hT t mt).parts
 have at':sL (ts.map tD) (z % (ts.length:Int))=some (tD [a,b,c]):=by rw[hi];exact k6 (by rw[XT,ht];rfl)
 refine⟨_,_,_,.inr (.inr ⟨l,rfl,hM⟩),rfl,at',?_⟩
 walk_at "rd"
 refine⟨_,_,rfl,.inr (.inr ⟨l,rfl,hM⟩),?_⟩
 rw[Xi]
 have Ld:LG ts z=OY [a,b,c] (z / ts.length % 3):=by
  unfold LG
  rw[hi,Zo,XE,ht]
  rfl
 rw[Ld]at h
 walk_at "rd"
 refine⟨⟨by omega,7,by show Int.natAbs _<2 ^ 7;omega,by decide⟩,?_⟩
 walk_at "rd"
 have k0:0<=z / (ts.length:Int) % 3:=YX _ (by decide)
 have k1:z / (ts.length:Int) % 3<3:=YK _ (by decide)
 dsimp only
 generalize z / (ts.length:Int) % 3=k at h k0 k1 ⊢
 have:k=0\/k=1\/k=2:=by omega
 rcases this with rfl|rfl|rfl
 all_goals
  walk_at "rd"
  repeat
   first
   |exact bD.mk ⟨_,Le.refl _,h⟩
   |(refine⟨_,_,_,Or.inl rfl,rfl,rfl,?_⟩;walk_at "rd")
theorem iT(T:Txt K mg t):Binds K t.iL ["_law_a","_law_b","_law_c"] []:=T.dU.binds λ_ _ _ _ _ _ us hl=>match us,hl with|[_,_,_],_=>rfl
noncomputable def wu:sV:=λds Q=>∃a b c:Pl,ds=[a.d,b.d,c.d]/\a.Ok 140/\b.Ok 140/\c.Ok 140/\Q (.int (tw a b c))
theorem iU(T:Txt K mg t):bG P w K mg base eL 1 t.jw t.iL ["_law_a","_law_b","_law_c"] (qz K wu):=by
 refine Ah T.dU tQ (λds Q h=>by(first|(obtain⟨_,rfl,_⟩:=h;rfl)|(obtain⟨_,_,rfl,_⟩:=h;rfl)|(obtain⟨_,_,_,rfl,_⟩:=h;rfl)|(obtain⟨_,_,_,_,rfl,_⟩:=h;rfl)|(obtain⟨_,_,_,_,_,rfl,_⟩:=h;rfl)|(obtain⟨_,_,_,_,_,_,rfl,_⟩:=h;rfl)|(obtain⟨_,_,_,_,_,_,_,rfl,_⟩:=h;rfl))) (λcdv A outer s H hr=>?_)
 have hu:=hr.units
 refine⟨_,(aD (aN (ay cZ (ay qv (ay cZ (aG (af 1) ai) (aG (af 0) ai)) (ay cZ (aG (af 2) ai) (aG (af 0) ai))) (ay qv (ay cZ (aG (af 1) ai) (aG (af 0) ai)) (ay cZ (aG (af 2) ai) (aG (af 0) ai)))))),λds Q h=>?_⟩
 obtain⟨a,b,c,rfl,⟨a1,a2⟩,⟨b1,b2⟩,⟨c1,c2⟩,h⟩:=h
 unfold tw at h
 walk_at "rd"
 exact h
theorem jc(T:Txt K mg t):Binds K t.eV ["_law_a","_law_b","_law_c"] []:=T.dg.binds λ_ _ _ _ _ _ us hl=>match us,hl with|[_,_,_],_=>rfl
noncomputable def pQ:sV:=λds Q=>∃a b c:Pl,ds=[a.d,b.d,c.d]/\a.Ok 140/\b.Ok 140/\c.Ok 140/\tw a b c≠0/\Q (tD (jI a b c))
theorem jd(T:Txt K mg t):bG P w K mg base eL 2 t.fT t.eV ["_law_a","_law_b","_law_c"] (qz K pQ):=by
 refine Ah T.dg i9 (λds Q h=>by(first|(obtain⟨_,rfl,_⟩:=h;rfl)|(obtain⟨_,_,rfl,_⟩:=h;rfl)|(obtain⟨_,_,_,rfl,_⟩:=h;rfl)|(obtain⟨_,_,_,_,rfl,_⟩:=h;rfl)|(obtain⟨_,_,_,_,_,rfl,_⟩:=h;rfl)|(obtain⟨_,_,_,_,_,_,rfl,_⟩:=h;rfl)|(obtain⟨_,_,_,_,_,_,_,rfl,_⟩:=h;rfl))) (λcdv A outer s H hr=>?_)
 have hu:=hr.units
 refine⟨_,(av (aV (i:=3) i9.nd rfl (Or.inl rfl) (bC kc (by rfl) T.dG bT (aa (eF (aa (af 0) (aa (af 1) (aa (af 2) aj)))) aj)))
  (av (dJ (aX Ga (aQ (iU T) (hr.mono (by decide)) (by rfl) T.jB T.dU.kp (iT T) (aa (aG (af 3) ai) (aa (aG (af 3) ai) (aa (aG (af 3) ai) aj)))) ai (aO _)) (aD (aN (uf GB (by rfl) T.sj j7 (aa (af 3) aj)))) bS)
  (aD (aN (bA (aa (aG (af 3) ai) (aa (aG (af 3) ai) (aa (aG (af 3) ai) aj)))))))),λds Q h=>?_⟩
 obtain⟨a,b,c,rfl,ha,hb,hc,hn,h⟩:=h
 walk_at "rd"
 intro l hl
 refine⟨l,[a,b,c],rfl,ah,by show 3<64;decide,λp qs hp bK kU=>?_⟩
 obtain⟨u,v,w,rfl⟩:=kg bK.length_eq
 obtain⟨ou,ov,ow⟩:=xj bK ha hb hc
 rw[qU hn bK kU]at h
 walk_at "rd"
 refine⟨_,_,_,.inr (.inr ⟨p,rfl,ah⟩),rfl,rfl,?_⟩
 walk_at "rd"
 refine⟨_,_,_,.inr (.inr ⟨p,rfl,ah⟩),rfl,rfl,?_⟩
 walk_at "rd"
 refine⟨_,_,_,.inr (.inr ⟨p,rfl,ah⟩),rfl,rfl,?_⟩
 walk_at "rd"
 refine⟨ou,ov,ow,?_⟩
 walk_at "rd"
 refine eB (λk=>?_) (λk=>?_)
 ·rw[if_pos (of_decide_eq_true k)]at h
  walk_at "rd"
  refine⟨_,_,rfl,.of ah,?_⟩
  exact h
 ·rw[if_neg (λz=>k (decide_eq_true z))]at h
  walk_at "rd"
  refine⟨_,_,_,.inr (.inr ⟨p,rfl,ah⟩),rfl,rfl,?_⟩
  walk_at "rd"
  refine⟨_,_,_,.inr (.inr ⟨p,rfl,ah⟩),rfl,rfl,?_⟩
  walk_at "rd"
  refine⟨_,_,_,.inr (.inr ⟨p,rfl,ah⟩),rfl,rfl,?_⟩
  walk_at "rd"
  exact h
theorem jM(T:Txt K mg t):Binds K t.fW ["_law_cover","_law_a","_law_b"] []:=T.dW.binds λ_ _ _ _ _ _ us hl=>match us,hl with|[_,_,_],_=>rfl
noncomputable def sC:ug:=λds M Q=>∃(l:Addr) (a b:Pl),ds=[.ref l,a.d,b.d]/\∃(ps:List Pl) (ts:List (List Pl)),M l=some (.lst (ts.map tD))/\cI ps ts/\(∀q∈ps,q.Ok 140)/\ts.length<=20/\((¬ ∃c d,Cp ts a b c d/\tw c d a*tw c d b<0)->Q .bg M)/\∀(p:Addr) (us:List (List Pl)) (M':Mp) (c d:Pl),Le M M'->M' p=some (.lst (us.map tD))->pM ts us a b c d->us.Pairwise (λp q=>dO q p=false)->Q (.ref p) M'
theorem jN(T:Txt K mg t):bG P w K mg base eL 3 t.gI t.fW ["_law_cover","_law_a","_law_b"] (wI K sC):=by
 refine yv T.dW cD (λds M Q h=>by(first|(obtain⟨_,rfl,_⟩:=h;rfl)|(obtain⟨_,_,rfl,_⟩:=h;rfl)|(obtain⟨_,_,_,rfl,_⟩:=h;rfl)|(obtain⟨_,_,_,_,rfl,_⟩:=h;rfl)|(obtain⟨_,_,_,_,_,rfl,_⟩:=h;rfl)|(obtain⟨_,_,_,_,_,_,rfl,_⟩:=h;rfl)|(obtain⟨_,_,_,_,_,_,_,rfl,_⟩:=h;rfl))) (λcdv A outer s H hr=>?_)
 have hu:=hr.units
 refine⟨_,(av (aV (i:=3) cD.nd rfl (Or.inr rfl) (Bu (qN (ys:=["_law_a","_law_b"]) (fs:=[1,2]) rfl (by show b8 (ak bM) ["_law_cover","_law_a","_law_b","_law_both","_law_c","_law_d","_law_left"] _ _ _ _=true;decide +kernel) (af 0) (λcl C s0 H0 ex=>oZ (pJ.pt (qp (aX (Gb hu) (af 1) (af 0) (by with_unfolding_all rfl)) (l5 (aX (Gb hu) (af 2) (af 0) (by with_unfolding_all rfl)))))) (λcl C s0 H0 ex=>(af 0)))))
  (av (dJ (pJ.pt (qq (aX (mX hu) (af 1) (af 2) (aO _)) (oV (aX (vg hu) (bC i6 (by rfl) T.eZ bL (aa (af 3) aj)) ai (aO _))))) (aD (aN wY)) bS)
  (av (aV (i:=4) cD.nd rfl (Or.inl rfl) (aG (Bu (Am (ys:=["_law_a","_law_b"]) (fs:=[1,2]) rfl (by show b8 (ak bM) ["_law_cover","_law_a","_law_b","_law_both","_law_c","_law_d","_law_left"] _ _ _ _=true;decide +kernel) (aG (af 3) ai) (λcl C s0 H0 ex=>oZ (pJ.pt (qp (aX (vg hu) (af 0) (af 1) (aO _)) (l5 (aX (vg hu) (af 0) (af 2) (aO _)))))) (λcl C s0 H0 ex=>(af 0)))) ai))
  (av (aV (i:=5) cD.nd rfl (Or.inl rfl) (aG (Bu (Am (ys:=["_law_a","_law_b"]) (fs:=[1,2]) rfl (by show b8 (ak bM) ["_law_cover","_law_a","_law_b","_law_both","_law_c","_law_d","_law_left"] _ _ _ _=true;decide +kernel) (aG (af 3) ai) (λcl C s0 H0 ex=>oZ (pJ.pt (qp (aX (vg hu) (af 0) (af 1) (aO _)) (l5 (aX (vg hu) (af 0) (af 2) (aO _)))))) (λcl C s0 H0 ex=>(af 0)))) ai))
  (av (dJ (aX P7 (ay qv (aQ (iU T) (hr.mono (by decide)) (by rfl) T.jB T.dU.kp (iT T) (aa (af 4) (aa (af 5) (aa (af 1) aj)))) (aQ (iU T) (hr.mono (by decide)) (by rfl) T.jB T.dU.kp (iT T) (aa (af 4) (aa (af 5) (aa (af 2) aj))))) ai (aO _)) (aD (aN wY)) bS)
  (av (DE (j:=6) (qN (ys:=["_law_both"]) (fs:=[3]) rfl (by show b8 (ak bM) ["_law_cover","_law_a","_law_b","_law_both","_law_c","_law_d","_law_left"] _ _ _ _=true;decide +kernel) (af 0) (λcl C s0 H0 ex=>oZ (aX (gZ hu) (af 0) (af 1) (by with_unfolding_all rfl))) (λcl C s0 H0 ex=>(af 0))) cD.nd rfl (Or.inl rfl))
  (aD (aN (bC (oi (n:=3) (.inr rfl) hu) (by rfl) T.dG bT (aa (ay o4 (af 6) (eF (aa (aQ (jd T) (hr.mono (by decide)) (by rfl) T.jL T.dg.kp (jc T) (aa (af 1) (aa (af 4) (aa (af 5) aj)))) (aa (aQ (jd T) (hr.mono (by decide)) (by rfl) T.jL T.dg.kp (jc T) (aa (af 2) (aa (af 4) (aa (af 5) aj)))) aj)))) aj)))))))))),λds M Q h=>?_⟩
 obtain⟨l,a,b,rfl,ps,ts,hM,hC,ho,lt,hn,h⟩:=h
 have sl:(1000:Nat)<sizeLine:=by decide
 have LH:∀t∈ts,Tr t:=λt ht=>(hC.bJ t ht).tr ho
 walk_at "rd"
 refine⟨l,_,rfl,hM,by rw[Xi];omega,bD.mk (cE (λj acc M5=>M5=M/\acc=(bP (ts.take j) a b).map tD) _ ?_ ?_ ⟨rfl,rfl⟩)⟩
 ·rintro j x acc M5 N2 nP ⟨rfl,rfl⟩ mK
  obtain⟨t,ht,rfl⟩:=kj nP
  refine⟨hM,?_⟩
  have ft:bP (ts.take (j+1)) a b=bP (ts.take j) a b++(if decide (a∈t/\b∈t)=true then[t]else[]):=bV ht
  walk_at "rd"
  refine⟨dD t,?_⟩
  walk_at "rd"
  rw[g9]
  refine eB (λk1=>?_) (λk1=>?_)
  ·walk_at "rd"
   refine⟨dD t,?_⟩
   walk_at "rd"
   rw[g9]
   refine eB (λk2=>?_) (λk2=>?_)
   ·walk_at "rd"
    refine mK _ _ ⟨rfl,?_⟩
    rw[ft,if_pos (decide_eq_true ⟨of_decide_eq_true k1,of_decide_eq_true k2⟩),XD]
    rfl
   ·refine mK _ _ ⟨rfl,?_⟩
    rw[ft,if_neg (λz=>k2 (decide_eq_true (of_decide_eq_true z).2)),XS]
  ·refine mK _ _ ⟨rfl,?_⟩
   rw[ft,if_neg (λz=>k1 (decide_eq_true (of_decide_eq_true z).1)),XS]
 ·rintro acc M5 ⟨rfl,rfl⟩
  refine⟨hM,λp hp=>?_⟩
  rw[Xi,X6]
  have lb:(bP ts a b).length<=20:=Yj (Zv _ _) lt
  have SQ:=ao (u:=MO.lst ((bP ts a b).map tD)) hM hp
  have hB:au M5 p (.lst ((bP ts a b).map tD)) p=some (.lst ((bP ts a b).map tD)):=ah
  have wz:Le M5 (au M5 p (.lst ((bP ts a b).map tD))):=Le.new hp
  generalize au M5 p (.lst ((bP ts a b).map tD))=M1 at SQ hB wz ⊢
  walk_at "rd"
  rw[qD]
  by_cases OZ:a=b
  ·rw[decide_eq_true OZ]
   walk_at "rd"
   exact bD.mk ⟨_,wz,hn (λ⟨c,d,⟨⟨t,ht,r⟩,_⟩,_⟩=>by obtain⟨q,_⟩:=r.tw (hC.bJ t ht);rw[OZ]at q;unfold tw at q;exact absurd q (by grind))⟩
  rw[decide_eq_false OZ]
  walk_at "rd"
  refine⟨_,_,rfl,.inr (.inr ⟨p,rfl,hB⟩),?_⟩
  rw[Xi]
  walk_at "rd"
  rw[Ka]
  refine eB (λk=>?_) (λk=>?_)
  ·walk_at "rd"
   have k:=of_decide_eq_true k
   exact bD.mk ⟨_,wz,hn (λ⟨c,d,⟨⟨t,ht,r⟩,⟨u,hu,r2⟩⟩,_⟩=>k (by rw[hC.xU (cO.mpr ⟨t,ht,r.tL⟩) (cO.mpr ⟨u,hu,r2.tL⟩)];rfl))⟩
  have k2:(bP ts a b).length=2:=by
   apply Xk
   intro z
   exact k (decide_eq_true (λy=>z (by omega)))
  obtain⟨t,u,c,d,eb,ht,wN,tu,hr⟩:=hC.xT OZ k2
  rw[eb]at hB
  obtain⟨Rr,Vi⟩:=EA hC ht wN hr
  have Lf:=vQ (hC.bJ t ht) (a:=a) (b:=b) (c:=c) (hr.imp (λz=>z.1) (λz=>z.1))
  have Lg:=vQ (hC.bJ u wN) (a:=a) (b:=b) (c:=d) (hr.elim (λz=> .inr z.2) (λz=> .inl z.2))
  have tl:∀v∈ts,v.length=3:=λv hv=>by obtain⟨_,_,_,rfl,_⟩:=LH v hv;rfl
  walk_at "rd"
  refine⟨_,_,_,.inr (.inr ⟨p,rfl,hB⟩),rfl,rfl,?_⟩
  refine⟨_,rfl,by rw[Xi,tl t ht];decide,bD.mk (cE (λj acc M6=>M6=M1/\acc=((t.take j).filter (λq=>decide (q≠a) && decide (q≠b))).map Pl.d) _ ?_ ?_ ⟨rfl,rfl⟩)⟩
  ·rintro j x acc M6 N2 nP ⟨rfl,rfl⟩ mK
   obtain⟨q,hq,rfl⟩:=oh nP
   refine⟨trivial,?_⟩
   walk_at "rd"
   rw[AO]
   refine eB (λk1=>?_) (λk1=>?_)
   ·walk_at "rd"
    rw[AO]
    refine eB (λk2=>?_) (λk2=>?_)
    ·walk_at "rd"
     refine mK _ _ ⟨rfl,?_⟩
     rw[bU hq,if_pos (by rw[k1,k2];rfl),XD]
     rfl
    ·refine mK _ _ ⟨rfl,?_⟩
     rw[bU hq,if_neg (λz=>k2 (Yc.mp z).2),XS]
   ·refine mK _ _ ⟨rfl,?_⟩
    rw[bU hq,if_neg (λz=>k1 (Yc.mp z).1),XS]
  rintro acc M6 ⟨rfl,hacc⟩
  rw[Xi,X6,Lf]at hacc
  subst hacc
  refine⟨trivial,λp4 Cr=>?_⟩
  walk_at "rd"
  refine⟨_,_,_,.inr (.inr ⟨p4,rfl,ah⟩),rfl,rfl,?_⟩
  have Ij:=ao (u:=MO.lst ([c].map Pl.d)) SQ Cr
  have hB2:=ao (u:=MO.lst ([c].map Pl.d)) hB Cr
  have yp:=wz.trans (Le.new (o:=MO.lst ([c].map Pl.d)) Cr)
  generalize au M6 p4 (.lst ([c].map Pl.d))=M7 at Ij hB2 yp ⊢
  walk_at "rd"
  refine⟨_,_,_,.inr (.inr ⟨p,rfl,hB2⟩),rfl,rfl,?_⟩
  refine⟨_,rfl,by rw[Xi,tl u wN];decide,bD.mk (cE (λj acc M6=>M6=M7/\acc=((u.take j).filter (λq=>decide (q≠a) && decide (q≠b))).map Pl.d) _ ?_ ?_ ⟨rfl,rfl⟩)⟩
  ·rintro j x acc M8 N2 nP ⟨rfl,rfl⟩ mK
   obtain⟨q,hq,rfl⟩:=oh nP
   refine⟨trivial,?_⟩
   walk_at "rd"
   rw[AO]
   refine eB (λk1=>?_) (λk1=>?_)
   ·walk_at "rd"
    rw[AO]
    refine eB (λk2=>?_) (λk2=>?_)
    ·walk_at "rd"
     refine mK _ _ ⟨rfl,?_⟩
     rw[bU hq,if_pos (by rw[k1,k2];rfl),XD]
     rfl
    ·refine mK _ _ ⟨rfl,?_⟩
     rw[bU hq,if_neg (λz=>k2 (Yc.mp z).2),XS]
   ·refine mK _ _ ⟨rfl,?_⟩
    rw[bU hq,if_neg (λz=>k1 (Yc.mp z).1),XS]
  rintro acc M8 ⟨rfl,hacc⟩
  rw[Xi,X6,Lg]at hacc
  subst hacc
  refine⟨trivial,λp5 LI=>?_⟩
  walk_at "rd"
  refine⟨_,_,_,.inr (.inr ⟨p5,rfl,ah⟩),rfl,rfl,?_⟩
  have O0:=ao (u:=MO.lst ([d].map Pl.d)) Ij LI
  have Om:=ao (u:=MO.lst ([d].map Pl.d)) hB2 LI
  have AW:=yp.trans (Le.new (o:=MO.lst ([d].map Pl.d)) LI)
  generalize au M8 p5 (.lst ([d].map Pl.d))=M9 at O0 Om AW ⊢
  have hcs:c∈t/\d∈u/\a∈t/\b∈t:=by
   rcases hr with⟨r1,r2⟩|⟨r1,r2⟩
   ·exact⟨(r1.mem c).mpr (by simp),(r2.mem d).mpr (by simp),(r1.mem a).mpr (by simp),(r1.mem b).mpr (by simp)⟩
   ·exact⟨(r1.mem c).mpr (by simp),(r2.mem d).mpr (by simp),(r1.mem a).mpr (by simp),(r1.mem b).mpr (by simp)⟩
  have oc:=ho c ((hC.bJ t ht).2 c hcs.1)
  have od:=ho d ((hC.bJ u wN).2 d hcs.2.1)
  have oa:=ho a ((hC.bJ t ht).2 a hcs.2.2.1)
  have ob:=ho b ((hC.bJ t ht).2 b hcs.2.2.2)
  have w1:=Il oc od oa
  have w2:=Il oc od ob
  walk_at "rd"
  refine⟨oc,od,oa,?_⟩
  walk_at "rd"
  refine⟨oc,od,ob,?_⟩
  walk_at "rd"
  refine eB (λk=>?_) (λk=>?_)
  ·walk_at "rd"
   have k:0<=tw c d a*tw c d b:=of_decide_eq_true k
   exact bD.mk ⟨_,AW,hn (Vi (by omega))⟩
  have cv:tw c d a*tw c d b<0:=by
   apply Xk
   intro z
   exact k (decide_eq_true (show 0<=tw c d a*tw c d b by omega))
  walk_at "rd"
  refine⟨l,_,rfl,O0,by rw[Xi];omega,bD.mk (cE (λj acc M6=>M6=M9/\acc=((ts.take j).filter (λx=>decide (x∉[t,u]))).map tD) _ ?_ ?_ ⟨rfl,rfl⟩)⟩
  ·rintro j x acc DC N2 nP ⟨rfl,rfl⟩ mK
   obtain⟨v,hv,rfl⟩:=kj nP
   refine⟨O0,?_⟩
   walk_at "rd"
   obtain⟨v1,v2,v3,ev,_⟩:=LH v (XJ hv)
   refine⟨_,.inr ⟨p,rfl,Om⟩,by rw[ev];rfl,cB _,?_⟩
   walk_at "rd"
   rw[qb,if_pos rfl]
   refine eB (λk=>?_) (λk=>?_)
   ·have k:v∉[t,u]:=λz=>by rw[decide_eq_true z]at k;cases k
    walk_at "rd"
    refine mK _ _ ⟨rfl,?_⟩
    rw[bV hv,if_pos (decide_eq_true k),XD]
    rfl
   ·have k:v∈[t,u]:=Xk λz=>k (by rw[decide_eq_false z];rfl)
    refine mK _ _ ⟨rfl,?_⟩
    rw[bV hv,if_neg (λz=>of_decide_eq_true (p:=v∉[t,u]) z k),XS]
  rintro acc DC ⟨rfl,hacc⟩
  rw[Xi,X6]at hacc
  subst hacc
  refine⟨O0,λp6 O1=>?_⟩
  have fy:=Rr cv
  have lr:=(vN hC.nodup tu ht wN).length_eq
  rw[Xz,Xz]at lr
  have t1:tw a c d≠0/\tw b c d≠0:=by
   have g1:=pL a c d
   have g2:=pL b c d
   refine⟨λz=>?_,λz=>?_⟩
   ·rw[z]at g1;rw[g1,YH]at cv;omega
   ·rw[z]at g2;rw[g2,Ye]at cv;omega
  have Rt:=qa t1.1
  have Ru:=qa t1.2
  have hT2:∀v∈ts.filter (λx=>decide (x∉[t,u])),v.length=3:=λv hv=>tl v (Xy.mp hv).1
  generalize ts.filter (λx=>decide (x∉[t,u]))=fs at fy lr hT2 O1 ⊢
  have hL:au DC p6 (.lst (fs.map tD)) p6=some (.lst (fs.map tD)):=ah
  have IL:=AW.trans (Le.new (o:=MO.lst (fs.map tD)) O1)
  generalize au DC p6 (.lst (fs.map tD))=Rv at hL IL ⊢
  walk_at "rd"
  refine⟨oa,oc,od,t1.1,?_⟩
  walk_at "rd"
  refine⟨ob,oc,od,t1.2,?_⟩
  walk_at "rd"
  intro e he
  have LJ:∀v∈[jI a c d,jI b c d],v.length=3:=λv hv=>by
   simp only[Xj,XR,or_false]at hv
   rcases hv with rfl|rfl
   ·exact Rt
   ·exact Ru
  have Vj:([jI a c d,jI b c d]:List (List Pl)).length=2:=rfl
  have eN:[tD (jI a c d),tD (jI b c d)]=[jI a c d,jI b c d].map tD:=rfl
  try rw[eN]
  generalize [jI a c d,jI b c d]=ns at *
  have hL:=ao (u:=MO.lst (ns.map tD)) hL he
  have LK:=IL.trans (Le.new (o:=MO.lst (ns.map tD)) he)
  have hE:au Rv e (.lst (ns.map tD)) e=some (.lst (ns.map tD)):=ah
  generalize au Rv e (.lst (ns.map tD))=SR at hL hE LK ⊢
  refine⟨p6,e,_,_,rfl,rfl,hL,hE,by rw[Xi,Xi];omega,λx hx=>?_⟩
  rw[<-XD]
  have Oo:∀v∈fs++ns,v.length=3:=λv hv=>by
   rcases XI.mp hv with hv|hv
   ·exact hT2 v hv
   ·exact LJ v hv
  have l4:(fs++ns).length<=20:=by rw[XA];omega
  generalize fs++ns=rs at Oo l4 fy ⊢
  have SS:=LK.trans (Le.new (o:=MO.lst (rs.map tD)) hx)
  have hX:au SR x (.lst (rs.map tD)) x=some (.lst (rs.map tD)):=ah
  generalize au SR x (.lst (rs.map tD))=WE at hX SS ⊢
  walk_at "rd"
  refine⟨x,rs,rfl,hX,Oo,by omega,λy vs hy bK hso=>?_⟩
  obtain⟨c',d',_,hF⟩:=fy vs bK
  exact bD.mk ⟨_,Le.refl _,h y vs _ c' d' (SS.trans (Le.new hy)) ah hF hso⟩
theorem sD(T:Txt K mg t):Binds K t.gJ ["_law_cover","_law_cells"] []:=T.iR.binds λ_ _ _ _ _ _ us hl=>match us,hl with|[_,_],_=>rfl
/-- what holds of a cover Ol is Rw -/
noncomputable def sE(Q:List Pl)(us:List (List Pl)):Prop:=cI Q us/\(Flat Q->us=[])/\(¬Flat Q->Full Q us)/\us.Pairwise (λp q=>dO q p=false)
theorem zG{Q:List Pl}{us vs:List (List Pl)}{a b c d:Pl}(h:sE Q us)(f:pM us vs a b c d)(so:vs.Pairwise (λp q=>dO q p=false)):sE Q vs:=by
 have nf:¬Flat Q:=λfl=>by
  obtain⟨t1,_,_,_,m1,_⟩:=f
  rw[h.2.1 fl]at m1
  cases m1
 exact⟨f.KU h.1 nf,λfl=>absurd fl nf,λ_=>f.full (h.2.2.1 nf),so⟩
theorem AX{Q:List Pl}{us:List (List Pl)}(bJ:∀t∈us,qc Q t)(ne:us≠[])(z:Int):∃t∈us,∃x y,LG us z=[lo x y,L3.hi x y]/\x≠y/\x∈t/\y∈t:=by
 have lp:0<us.length:=ZE.mpr ne
 have i0:0<=z % (us.length:Int):=YX _ (by omega)
 have i1:z % (us.length:Int)<us.length:=YK _ (by omega)
 obtain⟨i,hi⟩:∃i:Nat,z % (us.length:Int)=(i:Int):=⟨(z % (us.length:Int)).toNat,by omega⟩
 have li:i<us.length:=by omega
 have ht:us[i]?=some us[i]:=Xm li
 have mt:us[i]∈us:=YN li
 generalize us[i]=t at ht mt
 obtain⟨a,b,c,rfl,p,ha,hb,hc,n1,n2,n3⟩:=(bJ t mt).parts
 have Ld:LG us z=OY [a,b,c] (z / us.length % 3):=by
  unfold LG
  rw[hi,Zo,XE,ht]
  rfl
 rw[Ld]
 refine⟨_,mt,?_⟩
 unfold OY
 dsimp only
 split
 ·exact⟨a,c,rfl,n3.symm,by simp,by simp⟩
 ·split
  ·exact⟨b,a,rfl,n1.symm,by simp,by simp⟩
  ·exact⟨c,b,rfl,n2.symm,by simp,by simp⟩
noncomputable def tS:ug:=λds M Q=>∃l e:Addr,ds=[.ref l,.ref e]/\∃(ps:List Pl) (ts:List (List Pl)) (cs:List Int),M l=some (.lst (ts.map tD))/\M e=some (.lst (cs.map L3.D.int))/\sE ps ts/\(∀q∈ps,q.Ok 140)/\ts.length<=20/\∀(p:Addr) (us:List (List Pl)) (M':Mp),Le M M'->M' p=some (.lst (us.map tD))->sE ps us->us.length=ts.length->Q (.ref p) M'
theorem sF(T:Txt K mg t):bG P w K mg base eL 4 t.iM t.gJ ["_law_cover","_law_cells"] (wI K tS):=by
 refine yv T.iR cg (λds M Q h=>by(first|(obtain⟨_,rfl,_⟩:=h;rfl)|(obtain⟨_,_,rfl,_⟩:=h;rfl)|(obtain⟨_,_,_,rfl,_⟩:=h;rfl)|(obtain⟨_,_,_,_,rfl,_⟩:=h;rfl)|(obtain⟨_,_,_,_,_,rfl,_⟩:=h;rfl)|(obtain⟨_,_,_,_,_,_,rfl,_⟩:=h;rfl)|(obtain⟨_,_,_,_,_,_,_,rfl,_⟩:=h;rfl))) (λcdv A outer s H hr=>?_)
 have hu:=hr.units
 refine⟨_,(av (nY PassesOwn.never rfl (af 1) (cW (i:=2) cg.nd rfl (Or.inl rfl)) (aD (dJ (aX (DF hu) (af 0) (eF aj) (aO _)) (av (Df (bF (nH T) (hr.mono (by decide)) (by rfl) T.o8 T.ic.kp (nG T) (aa (af 0) (aa (af 2) aj))) (Ii rfl (p8 (cW (i:=3) cg.nd rfl (Or.inl rfl)) (p8 (cW (i:=4) cg.nd rfl (Or.inl rfl)) De))))
  (av (aV (i:=5) cg.nd rfl (Or.inl rfl) (bF (jN T) (hr.mono (by decide)) (by rfl) T.kO T.dW.kp (jM T) (aa (af 0) (aa (af 3) (aa (af 4) aj)))))
  (aD (dJ (aX Ke (af 5) wY (aO _)) (aD (aV (i:=0) cg.nd rfl (Or.inl rfl) (af 5))) bS)))) bS)))
  (aD (aN (af 0)))),λds M Q h=>?_⟩
 obtain⟨l,e,rfl,ps,ts,cs,hM,hE,hI,ho,lt,h⟩:=h
 have sl:(1000:Nat)<sizeLine:=by decide
 walk_at "rd"
 refine⟨e,_,rfl,hE,?_⟩
 refine cL (λi ρ M'=>∃(q:Addr) (us:List (List Pl)) (y1 y2 y3 y4:Option L3.D),ρ=[some (.ref q),some (.ref e),y1,y2,y3,y4]/\Le M M'/\M' q=some (.lst (us.map tD))/\sE ps us/\us.length=ts.length) _ ?_ ?_ ⟨l,ts,_,_,_,_,rfl,Le.refl _,hM,hI,rfl⟩
 ·rintro _ _ i v ρ M' N LC ⟨q,us,y1,y2,y3,y4,rfl,le,hU,hI,lu⟩ hN
  obtain⟨z,rfl⟩:∃z:Int,v= .int z:=by
   rw[XT,Yx]at LC
   obtain⟨z,_,e2⟩:=LC
   exact⟨z,e2.symm⟩
  refine⟨le _ _ hE,?_⟩
  walk_at "rd"
  intro o Rx
  refine⟨_,_,.of (ao hU Rx),.of ah,cB _,rfl,?_⟩
  rw[DH]
  have le:=le.trans (Le.new (o:=MO.lst []) Rx)
  have hU:=ao (u:=MO.lst []) hU Rx
  generalize au M' o (.lst [])=M1 at hU le ⊢
  by_cases es:us=[]
  ·have en:(us.map tD).isEmpty=true:=by rw[es];rfl
   rw[en]
   walk_at "rd"
   exact hN _ _ ⟨q,us,_,_,_,_,rfl,le,hU,hI,lu⟩
  have en:(us.map tD).isEmpty=false:=by
   cases e2:us with
   |nil=>exact absurd e2 es
   |cons q0 qr=>rfl
  rw[en]
  walk_at "rd"
  refine⟨ps,us,hU,hI.1.bJ,ho,es,by omega,?_⟩
  obtain⟨t,ht,x,y,Ld,SV,mx,my⟩:=AX hI.1.bJ es z
  rw[Ld]
  walk_at "rd"
  refine⟨ps,us,hU,hI.1,ho,by omega,λ_=>?_,λp2 vs M2 c d yp hV hF hso=>?_⟩
  ·walk_at "rd"
   exact hN _ _ ⟨q,us,_,_,_,_,rfl,le,hU,hI,lu⟩
  ·walk_at "rd"
   exact hN _ _ ⟨p2,vs,_,_,_,_,rfl,le.trans yp,hV,zG hI hF hso,(hF.len hI.1).trans lu⟩
 ·rintro ρ M' ⟨q,us,y1,y2,y3,y4,rfl,le,hU,hI,lu⟩
  refine⟨le _ _ hE,?_⟩
  walk_at "rd"
  exact bD.mk ⟨_,Le.refl _,h q us M' le hU hI lu⟩
theorem B9(T:Txt K mg t):Binds K t.oJ ["t"] []:=T.rW.binds λ_ _ _ _ _ _ us hl=>match us,hl with|[_],_=>rfl
noncomputable def E5:ug:=λds M Q=>∃a b c:Pl,ds=[tD [a,b,c]]/\∀p,M p=none->Q (.ref p) (au M p (.lst ([[a,b,c],[b,c,a],[c,a,b]].map tD)))
theorem Ca(T:Txt K mg t):bG P w K mg base eL 1 t.rQ t.oJ ["t"] (wI K E5):=by
 refine yv T.rW B6 (λds M Q h=>by(first|(obtain⟨_,rfl,_⟩:=h;rfl)|(obtain⟨_,_,rfl,_⟩:=h;rfl)|(obtain⟨_,_,_,rfl,_⟩:=h;rfl)|(obtain⟨_,_,_,_,rfl,_⟩:=h;rfl)|(obtain⟨_,_,_,_,_,rfl,_⟩:=h;rfl)|(obtain⟨_,_,_,_,_,_,rfl,_⟩:=h;rfl)|(obtain⟨_,_,_,_,_,_,_,rfl,_⟩:=h;rfl))) (λcdv A outer s H hr=>?_)
 have hu:=hr.units
 refine⟨_,(aD (aN (eF (aa (bA (aa (aG (af 0) ai) (aa (aG (af 0) ai) (aa (aG (af 0) ai) aj)))) (aa (bA (aa (aG (af 0) ai) (aa (aG (af 0) ai) (aa (aG (af 0) ai) aj)))) (aa (bA (aa (aG (af 0) ai) (aa (aG (af 0) ai) (aa (aG (af 0) ai) aj)))) aj)))))),λds M Q h=>?_⟩
 obtain⟨a,b,c,rfl,h⟩:=h
 walk_at "rd"
 intro p hp
 exact bD.mk ⟨_,Le.refl _,h p hp⟩
theorem jO(T:Txt K mg t):Binds K t.fX ["cover"] []:=T.dX.binds λ_ _ _ _ _ _ us hl=>match us,hl with|[_],_=>rfl
noncomputable def sG:ug:=λds M Q=>∃l:Addr,ds=[.ref l]/\∃ts:List (List Pl),M l=some (.lst (ts.map tD))/\(∀t∈ts,Tr t)/\ts.length<=200/\∀p,M p=none->Q (.ref p) (au M p (.mL (gG (eU ts))))
theorem jP(T:Txt K mg t):bG P w K mg base eL 2 t.gK t.fX ["cover"] (wI K sG):=by
 refine yv T.dX dh (λds M Q h=>by(first|(obtain⟨_,rfl,_⟩:=h;rfl)|(obtain⟨_,_,rfl,_⟩:=h;rfl)|(obtain⟨_,_,_,rfl,_⟩:=h;rfl)|(obtain⟨_,_,_,_,rfl,_⟩:=h;rfl)|(obtain⟨_,_,_,_,_,rfl,_⟩:=h;rfl)|(obtain⟨_,_,_,_,_,_,rfl,_⟩:=h;rfl)|(obtain⟨_,_,_,_,_,_,_,rfl,_⟩:=h;rfl))) (λcdv A outer s H hr=>?_)
 have hu:=hr.units
 refine⟨_,(av (aV (i:=1) dh.nd rfl (Or.inl rfl) Ky)
  (av (nY PassesOwn.never rfl (af 0) (cW (i:=2) dh.nd rfl (Or.inl rfl)) (aD (nY PassesOwn.never rfl (bF (Ca T) (hr.mono (by decide)) (by rfl) T.EV T.rW.kp (B9 T) (aa (af 2) aj)) (cW (i:=3) dh.nd rfl (Or.inl rfl)) (aD (Df (aG (af 3) ai) (KC hu (af 1) (bA (aa (aG (af 3) ai) (aa (aG (af 3) ai) aj)))))))))
  (aD (aN (af 1))))),λds M Q h=>?_⟩
 obtain⟨l,rfl,ts,hM,hts,Vk,h⟩:=h
 have sl:(1000:Nat)<sizeLine:=by decide
 refine λ(p:Addr) (hp:M p=none)=>?_
 have Ry:l≠p:=λz=>by rw[<-z,hM]at hp;cases hp
 walk_at "rd"
 refine⟨l,_,rfl,ao hM hp,?_⟩
 refine cL (λi ρ M'=>(∃y z:Option L3.D,ρ=[some (.ref l),some (.ref p),y,z])/\M' l=some (.lst (ts.map tD))/\M' p=some (.mL (gG (eU (ts.take i))))/\Le M M') _ ?_ ?_ ⟨⟨_,_,rfl⟩,ao hM hp,ah,Le.new hp⟩
 ·rintro _ _ i x ρ M' N hx ⟨⟨y,z,rfl⟩,hM,hP,le⟩ hN
  obtain⟨t,ht,rfl⟩:=kj hx
  obtain⟨a,b,c,rfl,oa,ob,oc⟩:=hts t (XJ ht)
  refine⟨hM,?_⟩
  refine⟨_,rfl,?_⟩
  refine⟨a,b,c,rfl,λq hq=>?_⟩
  have hM:=ao (u:=MO.lst ([[a,b,c],[b,c,a],[c,a,b]].map tD)) hM hq
  have hP:=ao (u:=MO.lst ([[a,b,c],[b,c,a],[c,a,b]].map tD)) hP hq
  have le:=le.trans (Le.new (o:=MO.lst ([[a,b,c],[b,c,a],[c,a,b]].map tD)) hq)
  have hQ:au M' q (.lst ([[a,b,c],[b,c,a],[c,a,b]].map tD)) q=some (.lst ([[a,b,c],[b,c,a],[c,a,b]].map tD)):=ah
  generalize au M' q (.lst ([[a,b,c],[b,c,a],[c,a,b]].map tD))=M2 at hM hP hQ le ⊢
  have Vl:q≠p:=λz=>by rw[z,hP]at hQ;cases hQ
  refine⟨q,_,rfl,hQ,?_⟩
  have ln:=xV (ts.take i)
  rw[Yi]at ln
  refine cL (λj ρ M4=>(∃z:Option L3.D,ρ=[some (.ref l),some (.ref p),some (tD [a,b,c]),z])/\M4 l=some (.lst (ts.map tD))/\M4 q=some (.lst ([[a,b,c],[b,c,a],[c,a,b]].map tD))/\M4 p=some (.mL (gG (eU (ts.take i)++[[a,b,c],[b,c,a],[c,a,b]].take j)))/\Le M M4) _ ?_ ?_ ⟨⟨_,rfl⟩,hM,hQ,by rw[aaA,XS];exact hP,le⟩
  ·rintro _ _ j x ρ M4 N2 nP ⟨⟨z,rfl⟩,hM,hQ,hP,le⟩ mK
   obtain⟨o,ho,rfl⟩:=kj nP
   have hj:j<3:=(XH.mp ho).1
   obtain⟨e1,e2,e3,rfl⟩:=rL [a,b,c] o (XJ ho)
   have lc:=Ey (eU (ts.take i)++[[a,b,c],[b,c,a],[c,a,b]].take j)
   rw[XA,Yi]at lc
   refine⟨hQ,?_⟩
   walk_at "rd"
   refine⟨p,_,cN [e1,e2],rfl,(jr [e1,e2]).symm,hP,by simp only[Xz,Yt]at lc;omega,?_⟩
   have es:[[a,b,c],[b,c,a],[c,a,b]].take (j+1)=[[a,b,c],[b,c,a],[c,a,b]].take j++[[e1,e2,e3]]:=by rw[YS,ho];rfl
   refine mK _ _ ⟨⟨_,rfl⟩,?_,?_,?_,λx o e=>?_⟩
   ·rw[aT Ry];exact hM
   ·rw[aT Vl];exact hQ
   ·rw[ah,es,<-aas,BS]
   ·rw[aT (λz=>by rw[z,hp]at e;cases e)]
    exact le _ _ e
  ·rintro ρ M4 ⟨⟨z,rfl⟩,hM,hQ,hP,le⟩
   refine⟨hQ,hN _ _ ⟨⟨_,_,rfl⟩,hM,?_,le⟩⟩
   rw[BR ht]
   exact hP
 ·rintro ρ M' ⟨⟨y,z,rfl⟩,hM,hP,le⟩
  refine⟨hM,?_⟩
  walk_at "rd"
  rw[Xi,X6]at hP
  refine bD.mk ⟨au M p (.mL (gG (eU ts))),λb o e=>?_,h p hp⟩
  by_cases hb:b=p
  ·subst hb
   rw[ah]at e
   rw[hP]
   exact e
  ·rw[aT hb]at e
   exact le _ _ e
theorem pR(T:Txt K mg t):Binds K t.fY ["a","b"] []:=T.gQ.binds λ_ _ _ _ _ _ us hl=>match us,hl with|[_,_],_=>rfl
noncomputable def sH:sV:=λds Q=>∃a b:Pl,ds=[a.d,b.d]/\Q (tD [lo a b,hi a b])
theorem pS(T:Txt K mg t):bG P w K mg base eL 1 t.gM t.fY ["a","b"] (qz K sH):=by
 refine Ah T.gQ pP (λds Q h=>by(first|(obtain⟨_,rfl,_⟩:=h;rfl)|(obtain⟨_,_,rfl,_⟩:=h;rfl)|(obtain⟨_,_,_,rfl,_⟩:=h;rfl)|(obtain⟨_,_,_,_,rfl,_⟩:=h;rfl)|(obtain⟨_,_,_,_,_,rfl,_⟩:=h;rfl)|(obtain⟨_,_,_,_,_,_,rfl,_⟩:=h;rfl)|(obtain⟨_,_,_,_,_,_,_,rfl,_⟩:=h;rfl))) (λcdv A outer s H hr=>?_)
 have hu:=hr.units
 refine⟨_,(aD (aN (bA (aa (bC (Nc hu rfl) (by rfl) T.EW uh (aa (af 0) (aa (af 1) aj))) (aa (bC (Nd hu rfl) (by rfl) T.EX um (aa (af 0) (aa (af 1) aj))) aj))))),λds Q h=>?_⟩
 obtain⟨a,b,rfl,h⟩:=h
 walk_at "rd"
 exact h
theorem wA(T:Txt K mg t):Binds K t.vX ["way"] []:=T.rY.binds λ_ _ _ _ _ _ us hl=>match us,hl with|[_],_=>rfl
noncomputable def Lh:sV:=λds Q=>∃a b:Pl,ds=[tD [a,b]]/\Q (tD [b,a])
theorem wB(T:Txt K mg t):bG P w K mg base eL 1 t.zo t.vX ["way"] (qz K Lh):=by
 refine Ah T.rY HB (λds Q h=>by(first|(obtain⟨_,rfl,_⟩:=h;rfl)|(obtain⟨_,_,rfl,_⟩:=h;rfl)|(obtain⟨_,_,_,rfl,_⟩:=h;rfl)|(obtain⟨_,_,_,_,rfl,_⟩:=h;rfl)|(obtain⟨_,_,_,_,_,rfl,_⟩:=h;rfl)|(obtain⟨_,_,_,_,_,_,rfl,_⟩:=h;rfl)|(obtain⟨_,_,_,_,_,_,_,rfl,_⟩:=h;rfl))) (λcdv A outer s H hr=>?_)
 have hu:=hr.units
 refine⟨_,(aD (aN (bA (aa (aG (af 0) ai) (aa (aG (af 0) ai) aj))))),λds Q h=>?_⟩
 obtain⟨a,b,rfl,h⟩:=h
 walk_at "rd"
 exact h
theorem HG(T:Txt K mg t):Binds K t.vY ["number"] []:=T.zy.binds λ_ _ _ _ _ _ us hl=>match us,hl with|[_],_=>rfl
noncomputable def Li:sV:=λds Q=>∃i:Int,ds=[.int i]/\Q (.int i.sign)
theorem HH(T:Txt K mg t):bG P w K mg base eL 1 t.zp t.vY ["number"] (qz K Li):=by
 refine Ah T.zy HC (λds Q h=>by(first|(obtain⟨_,rfl,_⟩:=h;rfl)|(obtain⟨_,_,rfl,_⟩:=h;rfl)|(obtain⟨_,_,_,rfl,_⟩:=h;rfl)|(obtain⟨_,_,_,_,rfl,_⟩:=h;rfl)|(obtain⟨_,_,_,_,_,rfl,_⟩:=h;rfl)|(obtain⟨_,_,_,_,_,_,rfl,_⟩:=h;rfl)|(obtain⟨_,_,_,_,_,_,_,rfl,_⟩:=h;rfl))) (λcdv A outer s H hr=>?_)
 have hu:=hr.units
 refine⟨_,(av (dJ (aX Ga (af 0) ai (aO _)) (aD (aN ai)) bS)
  (av (dJ (aX (Dj hu) (af 0) ai (aO _)) (aD (aN (eE ai))) bS)
  (aD (aN ai)))),λds Q h=>?_⟩
 obtain⟨i,rfl,h⟩:=h
 walk_at "rd"
 refine eB (λc=>?_) (λc=>?_)
 ·have c:0<i:=of_decide_eq_true c
  rw[Yy c]at h
  exact h
 ·have c:¬0<i:=λz=>c (decide_eq_true z)
  walk_at "rd"
  refine eB (λe=>?_) (λe=>?_)
  ·have e:i<0:=of_decide_eq_true e
   rw[Yg e]at h
   walk_at "rd"
   exact h
  ·have e:¬i<0:=λz=>e (decide_eq_true z)
   have z:i=0:=by omega
   subst z
   exact h
theorem E6(T:Txt K mg t):Binds K t.rR ["a","b","c"] []:=T.v8.binds λ_ _ _ _ _ _ us hl=>match us,hl with|[_,_,_],_=>rfl
noncomputable def HJ:sV:=λds Q=>∃a b c:Pl,ds=[a.d,b.d,c.d]/\a.Ok 140/\b.Ok 140/\c.Ok 140/\Q (.int (tw a b c))
theorem E7(T:Txt K mg t):bG P w K mg base eL 1 t.vZ t.rR ["a","b","c"] (qz K HJ):=by
 refine Ah T.v8 E4 (λds Q h=>by(first|(obtain⟨_,rfl,_⟩:=h;rfl)|(obtain⟨_,_,rfl,_⟩:=h;rfl)|(obtain⟨_,_,_,rfl,_⟩:=h;rfl)|(obtain⟨_,_,_,_,rfl,_⟩:=h;rfl)|(obtain⟨_,_,_,_,_,rfl,_⟩:=h;rfl)|(obtain⟨_,_,_,_,_,_,rfl,_⟩:=h;rfl)|(obtain⟨_,_,_,_,_,_,_,rfl,_⟩:=h;rfl))) (λcdv A outer s H hr=>?_)
 have hu:=hr.units
 refine⟨_,(aD (aN (ay cZ (ay qv (ay cZ (aG (af 1) ai) (aG (af 0) ai)) (ay cZ (aG (af 2) ai) (aG (af 0) ai))) (ay qv (ay cZ (aG (af 1) ai) (aG (af 0) ai)) (ay cZ (aG (af 2) ai) (aG (af 0) ai)))))),λds Q h=>?_⟩
 obtain⟨a,b,c,rfl,⟨a1,a2⟩,⟨b1,b2⟩,⟨c1,c2⟩,h⟩:=h
 unfold tw at h
 walk_at "rd"
 exact h
theorem nI(T:Txt K mg t):Binds K t.v5 ["a","b","c"] []:=T.mJ.binds λ_ _ _ _ _ _ us hl=>match us,hl with|[_,_,_],_=>rfl
noncomputable def Lj:sV:=λds Q=>∃a b c:Pl,ds=[a.d,b.d,c.d]/\a.Ok 140/\b.Ok 140/\c.Ok 140/\Q (.int (tw a b c).sign)
theorem nJ(T:Txt K mg t):bG P w K mg base eL 2 t.zq t.v5 ["a","b","c"] (qz K Lj):=by
 refine Ah T.mJ HE (λds Q h=>by(first|(obtain⟨_,rfl,_⟩:=h;rfl)|(obtain⟨_,_,rfl,_⟩:=h;rfl)|(obtain⟨_,_,_,rfl,_⟩:=h;rfl)|(obtain⟨_,_,_,_,rfl,_⟩:=h;rfl)|(obtain⟨_,_,_,_,_,rfl,_⟩:=h;rfl)|(obtain⟨_,_,_,_,_,_,rfl,_⟩:=h;rfl)|(obtain⟨_,_,_,_,_,_,_,rfl,_⟩:=h;rfl))) (λcdv A outer s H hr=>?_)
 have hu:=hr.units
 refine⟨_,(aD (aN (aQ (HH T) (hr.mono (by decide)) (by rfl) T.La T.zy.kp (HG T) (aa (aQ (E7 T) (hr.mono (by decide)) (by rfl) T.Hw T.v8.kp (E6 T) (aa (af 0) (aa (af 1) (aa (af 2) aj)))) aj)))),λds Q h=>?_⟩
 obtain⟨a,b,c,rfl,ha,hb,hc,h⟩:=h
 walk_at "rd"
 refine⟨ha,hb,hc,?_⟩
 walk_at "rd"
 exact h
theorem pA(T:Txt K mg t):Binds K t.kI ["corners","side"] []:=T.jC.binds λ_ _ _ _ _ _ us hl=>match us,hl with|[_,_],_=>rfl
theorem Oq(i j:Int):L3.dH (.int (i.sign*j.sign)) (.int (-1))=decide (i*j<0):=by
 rw[gi]
 rcases YZ i 0 with h|h|h<;>rcases YZ j 0 with k|k|k
 ·rw[Yg h,Yg k,decide_eq_false (by have:=YA h k;omega)];rfl
 ·subst k;rw[Ye,Zw,Ye];rfl
 ·rw[Yg h,Yy k,decide_eq_true (YB h k)];rfl
 ·subst h;rw[YH,Zw,YH];rfl
 ·subst h;rw[YH,Zw,YH];rfl
 ·subst h;rw[YH,Zw,YH];rfl
 ·rw[Yy h,Yg k,decide_eq_true (X8 h k)];rfl
 ·subst k;rw[Ye,Zw,Ye];rfl
 ·rw[Yy h,Yy k,decide_eq_false (by have:=YJ h k;omega)];rfl
noncomputable def zH:ug:=λds M Q=>∃(a:Addr) (p q:Pl) (kvs:List (List (List Int) ×L3.D)),ds=[.ref a,tD [p,q]]/\M a=some (.mL kvs)/\p.Ok 140/\q.Ok 140/\(((aU q p\/bq kvs (cN [p,q])=none\/bq kvs (cN [q,p])=none)/\Q (.bl false) M)\/∃x y:Pl,bq kvs (cN [p,q])=some x.d/\bq kvs (cN [q,p])=some y.d/\aU p q/\x.Ok 140/\y.Ok 140/\Q (.bl (decide (tw x y p*tw x y q<0))) M)
theorem pB(T:Txt K mg t):bG P w K mg base eL 3 t.mF t.kI ["corners","side"] (wI K zH):=by
 refine yv T.jC kR (λds M Q h=>by(first|(obtain⟨_,rfl,_⟩:=h;rfl)|(obtain⟨_,_,rfl,_⟩:=h;rfl)|(obtain⟨_,_,_,rfl,_⟩:=h;rfl)|(obtain⟨_,_,_,_,rfl,_⟩:=h;rfl)|(obtain⟨_,_,_,_,_,rfl,_⟩:=h;rfl)|(obtain⟨_,_,_,_,_,_,rfl,_⟩:=h;rfl)|(obtain⟨_,_,_,_,_,_,_,rfl,_⟩:=h;rfl))) (λcdv A outer s H hr=>?_)
 have hu:=hr.units
 refine⟨_,(av (dJ (pJ.pt (qq (aX (NS hu) (aG (af 1) ai) (aG (af 1) ai) (aO _)) (qq (aX (rG hu) (af 1) (af 0) (by with_unfolding_all rfl)) (oV (aX (rG hu) (aQ (wB T) (hr.mono (by decide)) (by rfl) T.zx T.rY.kp (wA T) (aa (af 1) aj)) (af 0) (by with_unfolding_all rfl)))))) (aD (aN lH)) bS)
  (av (aV (i:=2) kR.nd rfl (Or.inl rfl) (AG hu (af 0) (af 1)))
  (av (aV (i:=3) kR.nd rfl (Or.inl rfl) (AG hu (af 0) (aQ (wB T) (hr.mono (by decide)) (by rfl) T.zx T.rY.kp (wA T) (aa (af 1) aj))))
  (aD (aN (mV (mX hu) (ay qv (aQ (nJ T) (hr.mono (by decide)) (by rfl) T.rZ T.mJ.kp (nI T) (aa (af 2) (aa (af 3) (aa (aG (af 1) ai) aj)))) (aQ (nJ T) (hr.mono (by decide)) (by rfl) T.rZ T.mJ.kp (nI T) (aa (af 2) (aa (af 3) (aa (aG (af 1) ai) aj))))) (eE ai) (aO _))))))),λds M Q h=>?_⟩
 obtain⟨a,p,q,kvs,rfl,hM,op,oq,h⟩:=h
 walk_at "rd"
 by_cases hb:aU q p
 ·rw[decide_eq_true hb]
  walk_at "rd"
  rcases h with⟨_,h⟩|⟨x,y,_,_,b1,_⟩
  ·exact bD.mk ⟨_,Le.refl _,h⟩
  ·exact absurd hb (bx b1)
 rw[decide_eq_false hb]
 walk_at "rd"
 refine⟨a,cN [p,q],kvs,(jr [p,q]).symm,rfl,hM,?_⟩
 cases g1:bq kvs (cN [p,q])with
 |none=>
  walk_at "rd"
  rcases h with⟨_,h⟩|⟨x,y,e1,_⟩
  ·exact bD.mk ⟨_,Le.refl _,h⟩
  ·rw[g1]at e1;cases e1
 |some vx=>
  walk_at "rd"
  refine⟨a,cN [q,p],kvs,(jr [q,p]).symm,rfl,hM,?_⟩
  cases g2:bq kvs (cN [q,p])with
  |none=>
   walk_at "rd"
   rcases h with⟨_,h⟩|⟨x,y,_,e2,_⟩
   ·exact bD.mk ⟨_,Le.refl _,h⟩
   ·rw[g2]at e2;cases e2
  |some vy=>
   walk_at "rd"
   rcases h with⟨z,h⟩|⟨x,y,e1,e2,b1,ox,oy,h⟩
   ·rcases z with z|z|z
    ·exact absurd z hb
    ·rw[g1]at z;cases z
    ·rw[g2]at z;cases z
   refine⟨a,cN [p,q],kvs,_,rfl,(jr [p,q]).symm,hM,e1,?_⟩
   walk_at "rd"
   refine⟨a,cN [q,p],kvs,_,rfl,(jr [q,p]).symm,hM,e2,?_⟩
   walk_at "rd"
   refine⟨ox,oy,op,?_⟩
   walk_at "rd"
   refine⟨ox,oy,oq,?_⟩
   walk_at "rd"
   rw[Oq]
   exact bD.mk ⟨_,Le.refl _,h⟩
theorem lS(T:Txt K mg t):Binds K t.fm ["cover","side"] []:=T.dY.binds λ_ _ _ _ _ _ us hl=>match us,hl with|[_,_],_=>rfl
/-- a side Ol SW be turned -/
noncomputable def Ot(ts:List (List Pl))(a b:Pl):Prop:= ¬(aU a b/\∃c d,Cp ts a b c d/\tw c d a*tw c d b<0)
noncomputable def kW(R:Addr):ID:=λds M Q C=>∃(l:Addr) (a b:Pl) (ps:List Pl) (ts:List (List Pl)),ds=[.ref l,tD [a,b]]/\M l=some (.lst (ts.map tD))/\cI ps ts/\(∀q∈ps,q.Ok 140)/\a.Ok 140/\b.Ok 140/\ts.length<=20/\Ot ts a b/\∀M',Le M M'->C R "side" (tD [a,b]) M'
theorem pT(T:Txt K mg t):bG P w K mg base (Hj P w) 4 t.gm t.fm ["cover","side"] (K5 K (kW t.bE)):=by
 refine Ss T.dY fF (λds M Q C h=>by(first|(obtain⟨_,rfl,_⟩:=h;rfl)|(obtain⟨_,_,rfl,_⟩:=h;rfl)|(obtain⟨_,_,_,rfl,_⟩:=h;rfl)|(obtain⟨_,_,_,_,rfl,_⟩:=h;rfl)|(obtain⟨_,_,_,_,_,rfl,_⟩:=h;rfl)|(obtain⟨_,_,_,_,_,_,rfl,_⟩:=h;rfl)|(obtain⟨_,_,_,_,_,_,_,rfl,_⟩:=h;rfl))) (λcdv A outer s H hr=>?_)
 have hu:=hr.units
 refine⟨_,(vV (Ob (aV (i:=2) fF.nd rfl (Or.inl rfl) (bF (jP T) (hr.mono (by decide)) (by rfl) T.kP T.dX.kp (jO T) (aa (af 0) aj))))
  (vV (Od (k_not (iY (bF (pB T) (hr.mono (by decide)) (by rfl) T.se T.jC.kp (pA T) (aa (af 2) (aa (af 1) aj))))) (K3 (EL T.qh T.EZ T.E1 (zE T) (hr.mono (by decide)) rfl (by rfl) T.su (B7 T) (aa (af 1) aj))) (Oc bS)) yb)),λds M Q C h=>?_⟩
 obtain⟨l,a,b,ps,ts,rfl,hM,hC,ho,oa,ob,lt,hS,h⟩:=h
 have LH:∀t∈ts,Tr t:=λt ht=>(hC.bJ t ht).tr ho
 walk_at "rd"
 refine⟨ts,hM,LH,by omega,λx hx=>?_⟩
 have Lk:au M x (.mL (gG (eU ts))) x=some (.mL (gG (eU ts))):=ah
 have wz:Le M (au M x (.mL (gG (eU ts)))):=Le.new hx
 generalize au M x (.mL (gG (eU ts)))=M1 at Lk wz ⊢
 walk_at "rd"
 refine⟨x,a,b,_,rfl,Lk,oa,ob,?_⟩
 have stop:∀{P:Prop},P->P:=λh=>h
 rcases qe hC.bJ a b with⟨g1,n1⟩|⟨c,g1,t1,m1,r1⟩
 ·refine .inl ⟨.inr (.inl g1),?_⟩
  walk_at "rd"
  exact h _ wz
 rcases qe hC.bJ b a with⟨g2,n2⟩|⟨d,g2,t2,m2,r2⟩
 ·refine .inl ⟨.inr (.inr g2),?_⟩
  walk_at "rd"
  exact h _ wz
 obtain⟨p1,ma,mb,mc⟩:=r1.tw (hC.bJ _ m1)
 obtain⟨p2,_,_,md⟩:=r2.tw (hC.bJ _ m2)
 rcases dM a b with hb|hb|hb
 ·refine .inr ⟨c,d,g1,g2,hb,ho c mc,ho d md,?_⟩
  rw[decide_eq_false (λz=>hS ⟨hb,c,d,⟨⟨t1,m1,r1⟩,⟨t2,m2,r2⟩⟩,z⟩)]
  walk_at "rd"
  exact h _ wz
 ·rw[hb]at p1;unfold tw at p1;exact absurd p1 (by grind)
 ·refine .inl ⟨.inl hb,?_⟩
  walk_at "rd"
  exact h _ wz
noncomputable def wC:ug:=λds M Q=>∃(l:Addr) (a b c d:Pl) (ps:List Pl) (ts:List (List Pl)),ds=[.ref l,tD [a,b]]/\M l=some (.lst (ts.map tD))/\cI ps ts/\(∀q∈ps,q.Ok 140)/\ts.length<=20/\aU a b/\Cp ts a b c d/\tw c d a*tw c d b<0/\Q (tD [lo c d,L3.hi c d]) M
theorem tT(T:Txt K mg t):bG P w K mg base eL 4 t.gm t.fm ["cover","side"] (wI K wC):=by
 refine yv T.dY fF (λds M Q h=>by(first|(obtain⟨_,rfl,_⟩:=h;rfl)|(obtain⟨_,_,rfl,_⟩:=h;rfl)|(obtain⟨_,_,_,rfl,_⟩:=h;rfl)|(obtain⟨_,_,_,_,rfl,_⟩:=h;rfl)|(obtain⟨_,_,_,_,_,rfl,_⟩:=h;rfl)|(obtain⟨_,_,_,_,_,_,rfl,_⟩:=h;rfl)|(obtain⟨_,_,_,_,_,_,_,rfl,_⟩:=h;rfl))) (λcdv A outer s H hr=>?_)
 have hu:=hr.units
 refine⟨_,(av (aV (i:=2) fF.nd rfl (Or.inl rfl) (bF (jP T) (hr.mono (by decide)) (by rfl) T.kP T.dX.kp (jO T) (aa (af 0) aj)))
  (av (dJ (k_not (iY (bF (pB T) (hr.mono (by decide)) (by rfl) T.se T.jC.kp (pA T) (aa (af 2) (aa (af 1) aj))))) (aD Gf) bS)
  (aD (aN (aQ (pS T) (hr.mono (by decide)) (by rfl) T.rX T.gQ.kp (pR T) (aa (AG hu (af 2) (af 1)) (aa (AG hu (af 2) (aQ (wB T) (hr.mono (by decide)) (by rfl) T.zx T.rY.kp (wA T) (aa (af 1) aj))) aj))))))),λds M Q h=>?_⟩
 obtain⟨l,a,b,c,d,ps,ts,rfl,hM,hC,ho,lt,hab,ad,cv,h⟩:=h
 have LH:∀t∈ts,Tr t:=λt ht=>(hC.bJ t ht).tr ho
 obtain⟨⟨t1,m1,r1⟩,⟨t2,m2,r2⟩⟩:=id ad
 obtain⟨p1,ha,hb,hc⟩:=r1.tw (hC.bJ _ m1)
 obtain⟨p2,_,_,hd⟩:=r2.tw (hC.bJ _ m2)
 obtain⟨s1,s2⟩:=eS p1 p2 cv
 have hv:UK a b c d:=⟨p1,by have:=bY a b d;omega,s2,s1⟩
 have g1:bq (gG (eU ts)) (cN [a,b])=some c.d:=by
  rcases qe hC.bJ a b with⟨_,n⟩|⟨r,g,t,ht,rr⟩
  ·exact absurd (cO.mpr ⟨t1,m1,r1.tL⟩) n
  ·obtain⟨_,rfl⟩:=i8 hC.BN.nd hC.bJ m1 ht r1 rr
   exact g
 have g2:bq (gG (eU ts)) (cN [b,a])=some d.d:=by
  rcases qe hC.bJ b a with⟨_,n⟩|⟨r,g,t,ht,rr⟩
  ·exact absurd (cO.mpr ⟨t2,m2,r2.tL⟩) n
  ·obtain⟨_,rfl⟩:=i8 hC.BN.nd hC.bJ m2 ht r2 rr
   exact g
 walk_at "rd"
 refine⟨ts,hM,LH,by omega,λx hx=>?_⟩
 have Lk:au M x (.mL (gG (eU ts))) x=some (.mL (gG (eU ts))):=ah
 have wz:Le M (au M x (.mL (gG (eU ts)))):=Le.new hx
 generalize au M x (.mL (gG (eU ts)))=M1 at Lk wz ⊢
 walk_at "rd"
 refine⟨x,a,b,_,rfl,Lk,ho a ha,ho b hb,.inr ⟨c,d,g1,g2,hab,ho c hc,ho d hd,?_⟩⟩
 rw[decide_eq_true cv]
 walk_at "rd"
 refine⟨x,cN [a,b],_,_,rfl,(jr [a,b]).symm,Lk,g1,?_⟩
 walk_at "rd"
 refine⟨x,cN [b,a],_,_,rfl,(jr [b,a]).symm,Lk,g2,?_⟩
 walk_at "rd"
 exact bD.mk ⟨_,wz,h⟩
theorem gS(T:Txt K mg t):Binds K t.gO ["a","b","c"] []:=T.c6.binds λ_ _ _ _ _ _ us hl=>match us,hl with|[_,_,_],_=>rfl
noncomputable def tU:sV:=λds Q=>∃a b c:Pl,ds=[a.d,b.d,c.d]/\a.Ok 140/\b.Ok 140/\c.Ok 140/\tw a b c≠0/\Q (tD (jI a b c))
theorem gU(T:Txt K mg t):bG P w K mg base eL 3 t.iN t.gO ["a","b","c"] (qz K tU):=by
 refine Ah T.c6 kT (λds Q h=>by(first|(obtain⟨_,rfl,_⟩:=h;rfl)|(obtain⟨_,_,rfl,_⟩:=h;rfl)|(obtain⟨_,_,_,rfl,_⟩:=h;rfl)|(obtain⟨_,_,_,_,rfl,_⟩:=h;rfl)|(obtain⟨_,_,_,_,_,rfl,_⟩:=h;rfl)|(obtain⟨_,_,_,_,_,_,rfl,_⟩:=h;rfl)|(obtain⟨_,_,_,_,_,_,_,rfl,_⟩:=h;rfl))) (λcdv A outer s H hr=>?_)
 have hu:=hr.units
 refine⟨_,(av (aV (i:=3) kT.nd rfl (Or.inl rfl) (bC kc (by rfl) T.dG bT (aa (eF (aa (af 0) (aa (af 1) (aa (af 2) aj)))) aj)))
  (av (dJ (aX (mX hu) (aQ (nJ T) (hr.mono (by decide)) (by rfl) T.rZ T.mJ.kp (nI T) (aa (aG (af 3) ai) (aa (aG (af 3) ai) (aa (aG (af 3) ai) aj)))) ai (aO _)) (aD (aN (bA (aa (aG (af 3) ai) (aa (aG (af 3) ai) (aa (aG (af 3) ai) aj)))))) bS)
  (aD (aN (bA (aa (aG (af 3) ai) (aa (aG (af 3) ai) (aa (aG (af 3) ai) aj)))))))),λds Q h=>?_⟩
 obtain⟨a,b,c,rfl,ha,hb,hc,hn,h⟩:=h
 walk_at "rd"
 intro l hl
 refine⟨l,[a,b,c],rfl,ah,by show 3<64;decide,λp qs hp bK kU=>?_⟩
 obtain⟨u,v,w,rfl⟩:=kg bK.length_eq
 obtain⟨ou,ov,ow⟩:=xj bK ha hb hc
 rw[qU hn bK kU]at h
 walk_at "rd"
 refine⟨_,_,_,.inr (.inr ⟨p,rfl,ah⟩),rfl,rfl,?_⟩
 walk_at "rd"
 refine⟨_,_,_,.inr (.inr ⟨p,rfl,ah⟩),rfl,rfl,?_⟩
 walk_at "rd"
 refine⟨_,_,_,.inr (.inr ⟨p,rfl,ah⟩),rfl,rfl,?_⟩
 walk_at "rd"
 refine⟨ou,ov,ow,?_⟩
 walk_at "rd"
 refine eB (λk=>?_) (λk=>?_)
 ·rw[if_pos (Kn k)]at h
  walk_at "rd"
  refine⟨_,_,_,.inr (.inr ⟨p,rfl,ah⟩),rfl,rfl,?_⟩
  walk_at "rd"
  refine⟨_,_,_,.inr (.inr ⟨p,rfl,ah⟩),rfl,rfl,?_⟩
  walk_at "rd"
  refine⟨_,_,_,.inr (.inr ⟨p,rfl,ah⟩),rfl,rfl,?_⟩
  walk_at "rd"
  exact h
 ·rw[if_neg (GF k)]at h
  walk_at "rd"
  refine⟨_,_,_,.inr (.inr ⟨p,rfl,ah⟩),rfl,rfl,?_⟩
  walk_at "rd"
  refine⟨_,_,_,.inr (.inr ⟨p,rfl,ah⟩),rfl,rfl,?_⟩
  walk_at "rd"
  refine⟨_,_,_,.inr (.inr ⟨p,rfl,ah⟩),rfl,rfl,?_⟩
  walk_at "rd"
  exact h
theorem er(T:Txt K mg t):Binds K t.dQ ["cover","side"] []:=T.bX.binds λ_ _ _ _ _ _ us hl=>match us,hl with|[_,_],_=>rfl
noncomputable def pU(R:Addr):ID:=kW R
theorem je(T:Txt K mg t):bG P w K mg base (Hj P w) 5 t.fB t.dQ ["cover","side"] (K5 K (pU t.bE)):=by
 refine Ss T.bX cj (λds M Q C h=>by(first|(obtain⟨_,rfl,_⟩:=h;rfl)|(obtain⟨_,_,rfl,_⟩:=h;rfl)|(obtain⟨_,_,_,rfl,_⟩:=h;rfl)|(obtain⟨_,_,_,_,rfl,_⟩:=h;rfl)|(obtain⟨_,_,_,_,_,rfl,_⟩:=h;rfl)|(obtain⟨_,_,_,_,_,_,rfl,_⟩:=h;rfl)|(obtain⟨_,_,_,_,_,_,_,rfl,_⟩:=h;rfl))) (λcdv A outer s H hr=>?_)
 have hu:=hr.units
 refine⟨_,(vV (K4 (i:=2) cj.nd rfl (Or.inr rfl) (Hl (pT T) (hr.mono (by decide)) (by rfl) T.nE T.dY.kp (lS T) (aa (af 0) (aa (af 1) aj)))) yb),λds M Q C h=>?_⟩
 obtain⟨l,a,b,ps,ts,rfl,hM,hC,ho,oa,ob,lt,hS,h⟩:=h
 walk_at "rd"
 exact⟨l,a,b,ps,ts,rfl,hM,hC,ho,oa,ob,lt,hS,h⟩
noncomputable def tV:ug:=λds M Q=>∃(l:Addr) (a b c d:Pl) (ps:List Pl) (ts:List (List Pl)),ds=[.ref l,tD [a,b]]/\M l=some (.lst (ts.map tD))/\cI ps ts/\(∀q∈ps,q.Ok 140)/\ts.length<=20/\aU a b/\Cp ts a b c d/\tw c d a*tw c d b<0/\∀r us,M r=none->pM ts us a b c d->us.Pairwise (λa b=>dO b a=false)->Q (.ref r) (au M r (.lst (us.map tD)))
theorem kX(T:Txt K mg t):bG P w K mg base eL 5 t.fB t.dQ ["cover","side"] (wI K tV):=by
 refine yv T.bX cj (λds M Q h=>by(first|(obtain⟨_,rfl,_⟩:=h;rfl)|(obtain⟨_,_,rfl,_⟩:=h;rfl)|(obtain⟨_,_,_,rfl,_⟩:=h;rfl)|(obtain⟨_,_,_,_,rfl,_⟩:=h;rfl)|(obtain⟨_,_,_,_,_,rfl,_⟩:=h;rfl)|(obtain⟨_,_,_,_,_,_,rfl,_⟩:=h;rfl)|(obtain⟨_,_,_,_,_,_,_,rfl,_⟩:=h;rfl))) (λcdv A outer s H hr=>?_)
 have hu:=hr.units
 refine⟨_,(av (aV (i:=2) cj.nd rfl (Or.inr rfl) (bF (tT T) (hr.mono (by decide)) (by rfl) T.nE T.dY.kp (lS T) (aa (af 0) (aa (af 1) aj))))
  (av (DE (j:=3) (qN (ys:=["side"]) (fs:=[1]) rfl (by show b8 (ak cX) ["cover","side","new","stay","come"] _ _ _ _=true;decide +kernel) (af 0) (λcl C s0 H0 ex=>oZ (pJ.pt (qq (aX (gZ hu) (aG (af 1) ai) (af 0) (by with_unfolding_all rfl)) (oV (aX (gZ hu) (aG (af 1) ai) (af 0) (by with_unfolding_all rfl)))))) (λcl C s0 H0 ex=>(af 0))) cj.nd rfl (Or.inl rfl))
  (av (DE (j:=4) (Am (ys:=["new"]) (fs:=[2]) rfl (by show b8 (ak cX) ["cover","side","new","stay","come"] _ _ _ _=true;decide +kernel) (af 1) (λcl C s0 H0 ex=>Dz) (λcl C s0 H0 ex=>(aQ (gU T) (hr.mono (by decide)) (by rfl) T.iS T.c6.kp (gS T) (aa (aG (af 1) ai) (aa (aG (af 1) ai) (aa (af 0) aj)))))) cj.nd rfl (Or.inl rfl))
  (aD (aN (bC (oi (n:=3) (.inr rfl) hu) (by rfl) T.dG bT (aa (ay o4 (af 3) (af 4)) aj))))))),λds M Q h=>?_⟩
 obtain⟨l,a,b,c,d,ps,ts,rfl,hM,hC,ho,lt,hab,ad,cv,h⟩:=h
 have sl:(1000:Nat)<sizeLine:=by decide
 have tl:∀v∈ts,v.length=3:=λv hv=>by obtain⟨_,_,_,rfl,_⟩:=(hC.bJ v hv).parts;rfl
 obtain⟨⟨t1,m1,r1⟩,⟨t2,m2,r2⟩⟩:=id ad
 obtain⟨p1,ha,hb,hc⟩:=r1.tw (hC.bJ _ m1)
 obtain⟨p2,_,_,hd⟩:=r2.tw (hC.bJ _ m2)
 obtain⟨⟨w1,w2⟩,fl⟩:=EC hC m1 m2 r1 r2 cv
 obtain⟨o1,o2⟩:=AM (ho c hc) (ho d hd)
 have lf:(ts.filter (λv=>decide (a∉v\/b∉v))).length<=20:=Yj (Zv _ _) lt
 walk_at "rd"
 refine⟨l,a,b,c,d,ps,ts,rfl,hM,hC,ho,lt,hab,ad,cv,?_⟩
 walk_at "rd"
 refine⟨l,_,rfl,hM,by rw[Xi];omega,bD.mk (cE (λj acc M4=>M4=M/\acc=((ts.take j).filter (λv=>decide (a∉v\/b∉v))).map tD) _ ?_ ?_ ⟨rfl,rfl⟩)⟩
 ·rintro j x acc M4 N2 nP ⟨rfl,rfl⟩ mK
  obtain⟨t,ht,rfl⟩:=kj nP
  refine⟨hM,?_⟩
  walk_at "rd"
  refine⟨dD t,?_⟩
  rw[if_pos rfl,g9]
  by_cases k1:a∈t
  ·rw[decide_eq_true k1]
   walk_at "rd"
   refine⟨dD t,?_⟩
   rw[if_pos rfl,g9]
   by_cases k2:b∈t
   ·rw[decide_eq_true k2]
    walk_at "rd"
    refine mK _ _ ⟨rfl,?_⟩
    rw[bV ht,if_neg (λz=>(of_decide_eq_true z).elim (λy=>y k1) (λy=>y k2)),XS]
   ·rw[decide_eq_false k2]
    walk_at "rd"
    refine mK _ _ ⟨rfl,?_⟩
    rw[bV ht,if_pos (decide_eq_true (.inr k2)),XD]
    rfl
  ·rw[decide_eq_false k1]
   walk_at "rd"
   refine mK _ _ ⟨rfl,?_⟩
   rw[bV ht,if_pos (decide_eq_true (.inl k1)),XD]
   rfl
 rintro acc M4 ⟨rfl,hacc⟩
 rw[Xi,X6]at hacc
 subst hacc
 refine⟨hM,λu wN=>?_⟩
 have hT2:∀v∈ts.filter (λv=>decide (a∉v\/b∉v)),v.length=3:=λv hv=>tl v (Xy.mp hv).1
 generalize ts.filter (λv=>decide (a∉v\/b∉v))=fs at fl lf hT2 ⊢
 have hU:au M4 u (.lst (fs.map tD)) u=some (.lst (fs.map tD)):=ah
 have wz:Le M4 (au M4 u (.lst (fs.map tD))):=Le.new wN
 generalize au M4 u (.lst (fs.map tD))=M5 at hU wz ⊢
 walk_at "rd"
 refine⟨by show 2<sizeLine;omega,bD.mk (cE (λj acc M6=>M6=M5/\acc=(([a,b].take j).map (jI (lo c d) (L3.hi c d))).map tD) _ ?_ ?_ ⟨rfl,rfl⟩)⟩
 ·rintro j x acc M6 N2 nP ⟨rfl,rfl⟩ mK
  obtain⟨r,hr,rfl⟩:=oh nP
  have mr:r=a\/r=b:=by simpa using XJ hr
  refine⟨trivial,?_⟩
  walk_at "rd"
  refine⟨o1,o2,by rcases mr with rfl|rfl;exact ho _ ha;exact ho _ hb,by rcases mr with rfl|rfl<;>assumption,?_⟩
  refine mK _ _ ⟨rfl,?_⟩
  rw[YS,hr,XD,XD]
  rfl
 rintro acc M6 ⟨rfl,hacc⟩
 have hacc:acc=[jI (lo c d) (L3.hi c d) a,jI (lo c d) (L3.hi c d) b].map tD:=hacc
 subst hacc
 have Rt:=qa w1
 have Ru:=qa w2
 have LJ:∀v∈[jI (lo c d) (L3.hi c d) a,jI (lo c d) (L3.hi c d) b],v.length=3:=λv hv=>by
  simp only[Xj,XR,or_false]at hv
  rcases hv with rfl|rfl
  ·exact Rt
  ·exact Ru
 have Vj:([jI (lo c d) (L3.hi c d) a,jI (lo c d) (L3.hi c d) b]:List (List Pl)).length=2:=rfl
 refine⟨trivial,λv hv'=>?_⟩
 generalize [jI (lo c d) (L3.hi c d) a,jI (lo c d) (L3.hi c d) b]=ns at *
 have hV:au M6 v (.lst (ns.map tD)) v=some (.lst (ns.map tD)):=ah
 have hU:=ao (u:=MO.lst (ns.map tD)) hU hv'
 have yp:=wz.trans (Le.new (o:=MO.lst (ns.map tD)) hv')
 generalize au M6 v (.lst (ns.map tD))=M7 at hU hV yp ⊢
 walk_at "rd"
 refine⟨u,v,_,_,rfl,rfl,hU,hV,by rw[Xi,Xi];omega,λx hx=>?_⟩
 rw[<-XD]
 have Oo:∀v∈fs++ns,v.length=3:=λv hv=>by
  rcases XI.mp hv with hv|hv
  ·exact hT2 v hv
  ·exact LJ v hv
 have l4:(fs++ns).length<=22:=by rw[XA];omega
 generalize fs++ns=rs at Oo l4 fl ⊢
 have hX:au M7 x (.lst (rs.map tD)) x=some (.lst (rs.map tD)):=ah
 have AW:=yp.trans (Le.new (o:=MO.lst (rs.map tD)) hx)
 generalize au M7 x (.lst (rs.map tD))=M8 at hX AW ⊢
 walk_at "rd"
 refine⟨x,rs,rfl,hX,Oo,by omega,λy vs hy bK hso=>?_⟩
 exact bD.mk ⟨_,AW.put,h y vs (AW.free hy) (fl vs bK) hso⟩
theorem nK(T:Txt K mg t):Binds K t.jx ["_law_e"] []:=T.ie.binds λ_ _ _ _ _ _ us hl=>match us,hl with|[_],_=>rfl
noncomputable def tW(t:Ad):sV:=λds Q=>∃d:L3.D,ds=[.exc t.bE "side" [d]]/\Q (.bl true)
theorem kY(T:Txt K mg t):EN P w K mg base 1 t.kJ t.jx ["_law_e"] (qz K (tW t)):=by
 refine Rp T.ie jG (λds Q h=>by(first|(obtain⟨_,rfl,_⟩:=h;rfl)|(obtain⟨_,_,rfl,_⟩:=h;rfl)|(obtain⟨_,_,_,rfl,_⟩:=h;rfl)|(obtain⟨_,_,_,_,rfl,_⟩:=h;rfl)|(obtain⟨_,_,_,_,_,rfl,_⟩:=h;rfl)|(obtain⟨_,_,_,_,_,_,rfl,_⟩:=h;rfl)|(obtain⟨_,_,_,_,_,_,_,rfl,_⟩:=h;rfl))) (λcdv A a outer s H hr=>?_)
 have hu:=hr.units
 refine⟨_,(av (aV (i:=1) jG.nd rfl (Or.inl rfl) (eF (aa (bC rP (by rfl) T.bf aK (aa (af 0) (aa (ud (by rfl) T.zA) aj))) (aa (bC rP (by rfl) T.bf aK (aa (af 0) (aa (ud (by rfl) T.Hy) aj))) (aa (bC rP (by rfl) T.bf aK (aa (af 0) (aa (ud (by rfl) T.yf) aj))) (aa (bC rP (by rfl) T.bf aK (aa (af 0) (aa (ud (by rfl) T.zz) aj))) aj))))))
  (av (aV (i:=1) jG.nd rfl (Or.inl rfl) (ay o4 (af 1) (eF (aa (bC rP (by rfl) T.bf aK (aa (af 0) (aa (ud (by rfl) T.EY) aj))) (aa (Ig (bC rP (by rfl) T.bf aK (aa (af 0) (aa (qo (by rfl) T.tP nZ) aj)))) (aa (Ig (bC rP (by rfl) T.bf aK (aa (af 0) (aa (ud (by rfl) T.su) aj)))) aj))))))
  (aD (aN (mV (gZ hu) lH (af 1) (by with_unfolding_all rfl)))))),λds Q h=>?_⟩
 obtain⟨d,rfl,h⟩:=h
 walk_at "rd"
 refine⟨_,_,_,_,T.iy,.inl ⟨_,rfl,T.zC⟩,?_⟩
 walk_at "rd"
 refine⟨_,_,_,_,T.iy,.inl ⟨_,rfl,T.HA⟩,?_⟩
 walk_at "rd"
 refine⟨_,_,_,_,T.iy,.inl ⟨_,rfl,T.yi⟩,?_⟩
 walk_at "rd"
 refine⟨_,_,_,_,T.iy,.inl ⟨_,rfl,T.zB⟩,?_⟩
 walk_at "rd"
 intro p hp
 walk_at "rd"
 refine⟨_,_,_,_,T.iy,.inl ⟨_,rfl,T.E2⟩,?_⟩
 walk_at "rd"
 refine⟨_,_,_,_,T.iy,.inr ⟨_,rfl,T.Vf⟩,?_⟩
 walk_at "rd"
 refine⟨_,_,_,_,T.iy,.inl ⟨_,rfl,T.E3⟩,?_⟩
 walk_at "rd"
 intro q hq
 refine⟨p,q,_,_,rfl,rfl,ao ah hq,ah,by simp only[Xz,Yt];decide,λr hr=>?_⟩
 walk_at "rd"
 refine⟨_,.inr ⟨r,rfl,ah⟩,rfl,rfl,?_⟩
 walk_at "rd"
 exact h
theorem fG(T:Txt K mg t):Binds K t.iO ["_law_cover","_law_side","_law_base"] []:=T.cU.binds λ_ _ _ _ _ _ us hl=>match us,hl with|[_,_,_],_=>rfl
noncomputable def wD:ug:=λds M Q=>∃(l:Addr) (a b:Pl) (bs:Bool),ds=[.ref l,tD [a,b],.bl bs]/\∃(ps:List Pl) (ts:List (List Pl)),M l=some (.lst (ts.map tD))/\cI ps ts/\(∀q∈ps,q.Ok 140)/\a.Ok 140/\b.Ok 140/\ts.length<=20/\Ot ts a b/\Q (.bl true) M
theorem fH(T:Txt K mg t):bG P w K mg base eL 6 t.jy t.iO ["_law_cover","_law_side","_law_base"] (wI K wD):=by
 refine yv T.cU cF (λds M Q h=>by(first|(obtain⟨_,rfl,_⟩:=h;rfl)|(obtain⟨_,_,rfl,_⟩:=h;rfl)|(obtain⟨_,_,_,rfl,_⟩:=h;rfl)|(obtain⟨_,_,_,_,rfl,_⟩:=h;rfl)|(obtain⟨_,_,_,_,_,rfl,_⟩:=h;rfl)|(obtain⟨_,_,_,_,_,_,rfl,_⟩:=h;rfl)|(obtain⟨_,_,_,_,_,_,_,rfl,_⟩:=h;rfl))) (λcdv A outer s H hr=>?_)
 have hu:=hr.units
 refine⟨_,(av (aV (i:=3) cF.nd rfl (Or.inl rfl) wY)
  (av (dJ (iY (af 2)) (aD (EM (i:=4) (je T) (hr.mono (by decide)) (by rfl) T.fE T.bX.kp (er T) (aa (af 0) (aa (af 1) aj)) T.tN T.sN (by rfl) T.we cF.nd rfl rfl (λa=>(aD (aV (i:=3) cF.nd rfl (Or.inl rfl) (bA (aa (AR (kY T) (hr.mono (by decide)) (by rfl) T.o9 T.ie.kp (nK T) (aa (af 4) aj)) (aa (af 1) aj)))))))) (aD (EM (i:=4) (je T) (hr.mono (by decide)) (by rfl) T.fE T.bX.kp (er T) (aa (af 0) (aa (af 1) aj)) T.qh.tt T.iy.sb (by rfl) T.su cF.nd rfl rfl (λa=>(aD (aV (i:=3) cF.nd rfl (Or.inl rfl) (bA (aa (AR (kY T) (hr.mono (by decide)) (by rfl) T.o9 T.ie.kp (nK T) (aa (af 4) aj)) (aa (K2 (af 4)) aj)))))))))
  (aD (aN (mV (mX hu) (af 3) (bA (aa lH (aa (af 1) aj))) (aO _)))))),λds M Q h=>?_⟩
 obtain⟨l,a,b,bs,rfl,ps,ts,hM,hC,ho,oa,ob,lt,hS,h⟩:=h
 walk_at "rd"
 cases bs with
 |true=>
  walk_at "rd"
  refine⟨l,a,b,ps,ts,rfl,hM,hC,ho,oa,ob,lt,hS,λM' le=>⟨T.sR,λx=>?_⟩⟩
  walk_at "rd"
  rw[j6 9 (.tup [.bl true,tD [a,b]]) rfl]
  exact bD.mk ⟨_,le,h⟩
 |false=>
  walk_at "rd"
  refine⟨l,a,b,ps,ts,rfl,hM,hC,ho,oa,ob,lt,hS,λM' le=>⟨T.sS,λx=>?_⟩⟩
  walk_at "rd"
  refine⟨T.qh,T.yh,?_⟩
  walk_at "rd"
  rw[j6 9 (.tup [.bl true,tD [a,b]]) rfl]
  exact bD.mk ⟨_,le,h⟩
theorem jQ(T:Txt K mg t):Binds K t.fZ ["line"] []:=T.dZ.binds λ_ _ _ _ _ _ us hl=>match us,hl with|[_],_=>rfl
noncomputable def sI:ug:=λds M Q=>∃(l:Addr) (ps:List Pl),ds=[.ref l]/\M l=some (.lst (ps.map Pl.d))/\ps.length<=1000/\(∀q∈ps,q.Ok 140)/\∀p,M p=none->Q (.ref p) (au M p (.lst ((ps.foldl aI []).reverse.map Pl.d)))
theorem jR(T:Txt K mg t):bG P w K mg base eL 3 t.gP t.fZ ["line"] (wI K sI):=by
 refine yv T.dZ gf (λds M Q h=>by(first|(obtain⟨_,rfl,_⟩:=h;rfl)|(obtain⟨_,_,rfl,_⟩:=h;rfl)|(obtain⟨_,_,_,rfl,_⟩:=h;rfl)|(obtain⟨_,_,_,_,rfl,_⟩:=h;rfl)|(obtain⟨_,_,_,_,_,rfl,_⟩:=h;rfl)|(obtain⟨_,_,_,_,_,_,rfl,_⟩:=h;rfl)|(obtain⟨_,_,_,_,_,_,_,rfl,_⟩:=h;rfl))) (λcdv A outer s H hr=>?_)
 have hu:=hr.units
 refine⟨_,(av (aV (i:=1) gf.nd rfl (Or.inl rfl) (eF aj))
  (av (nY PassesOwn.never rfl (af 0) (cW (i:=2) gf.nd rfl (Or.inl rfl)) (av (Gi PassesOwn.never (pJ.pt (qp (aX Ga (bC i6 (by rfl) T.eZ bL (aa (af 1) aj)) ai (aO _)) (l5 (aX (mX hu) (aQ (nJ T) (hr.mono (by decide)) (by rfl) T.rZ T.mJ.kp (nI T) (aa (aG (af 1) (eE ai)) (aa (aG (af 1) (eE ai)) (aa (af 2) aj)))) (eE ai) (aO _))))) (aD (qA (Ny (af 1) (JD PySem.F.plainAttrs_list PySem.F.slot_list_pop PySem.F.type_list_pop JF (bZ.dn (af 1)))))))
  (aD (qA (Di (af 1) (af 2) (zZ PySem.F.plainAttrs_list PySem.F.slot_list_append PySem.F.type_list_append k7 (bZ.dn (af 1)) (mQ (bZ.dn (af 2)) ql)))))))
  (aD (aN (af 1))))),λds M Q h=>?_⟩
 obtain⟨l,ps,rfl,hM,hlen,ho,h⟩:=h
 walk_at "rd"
 intro p hp
 have hl:∀o,au M p o l=some (.lst (ps.map Pl.d)):=λo=>ao hM hp
 walk_at "rd"
 refine⟨l,_,rfl,hl _,?_⟩
 refine cL (λi ρ M'=>M'=au M p (.lst (((ps.take i).foldl aI []).reverse.map Pl.d))/\∃y:Option L3.D,ρ=[some (.ref l),some (.ref p),y]) _ ?_ ?_ ⟨rfl,_,rfl⟩
 ·rintro _ _ i x ρ M' N hx ⟨rfl,y,rfl⟩ hN
  obtain⟨d,hd,rfl⟩:=oh hx
  have od:=ho d (XJ hd)
  have O2:∀q∈(ps.take i).foldl aI [],q.Ok 140:=λq hq=>ho q (Yd (om _ q hq))
  have lst:=eO (ps.take i)
  have eN:=yZ hd
  have lt:(ps.take i).length<=1000:=by rw[Yi];omega
  generalize hst:(ps.take i).foldl aI []=st at *
  refine⟨hl _,?_⟩
  walk_at "rd"
  refine⟨λm ρ M'=>∃st':List Pl,M'=au M p (.lst (st'.reverse.map Pl.d))/\ρ=[some (.ref l),some (.ref p),some d.d]/\m=st'.length/\i7 st' d=i7 st d/\(∀q∈st',q.Ok 140)/\st'.length<=1000,⟨_,st,rfl,rfl,rfl,rfl,O2,by omega⟩,?_⟩
  rintro m ρ M' ⟨st',rfl,rfl,rfl,ep,os,ls⟩
  walk_at "rd"
  refine⟨_,_,rfl,.inr (.inr ⟨p,rfl,ah⟩),?_⟩
  walk_at "rd"
  rw[Xi,XU]
  refine eB (λc=>?_) (λc=>?_)
  ·have c:(1:Int)<(st'.length:Int):=of_decide_eq_true c
   obtain⟨b,a,r,rfl⟩:∃b a r,st'=b::a::r:=by
    match st',c with
    |b::a::r,_=>exact⟨b,a,r,rfl⟩
    |[x],c=>exact absurd c (by show¬(1:Int)<1;decide)
    |[],c=>exact absurd c (by decide)
   walk_at "rd"
   refine⟨_,_,a.d,.inr (.inr ⟨p,rfl,ah⟩),rfl,BD b a r,?_⟩
   walk_at "rd"
   refine⟨_,_,b.d,.inr (.inr ⟨p,rfl,ah⟩),rfl,BC b _,?_⟩
   walk_at "rd"
   refine⟨os a (by simp),os b (by simp),od,?_⟩
   walk_at "rd"
   rw[gi]
   refine eB (λk=>?_) (λk=>?_)
   ·have k:=eq_of_beq k
    have k:tw a b d<0:=ZI.mp k
    walk_at "rd"
    refine⟨p,_,b.d,rfl,by rw[Yr,XD];exact ah,?_⟩
    rw[mU]
    exact bD.mk ⟨_,Ze _,a::r,rfl,rfl,rfl,by rw[<-ep,DW k],λq hq=>os q (Xl _ hq),by simp only[Xz]at ls ⊢;omega⟩
   ·have k:¬tw a b d<0:=λz=>k (by rw[Yg z];rfl)
    have ez:=DY (r:=r) k
    generalize b::a::r=st' at *
    walk_at "rd"
    refine⟨⟨p,_,rfl,ah⟩,?_⟩
    walk_at "rd"
    refine⟨p,_,rfl,ah,?_,?_⟩
    ·rw[Xi,XU]
     have:(1000:Nat)<sizeLine:=by decide
     omega
    ·rw[mU]
     refine hN _ _ ⟨?_,_,rfl⟩
     have e:aI st d=d::st':=by
      show d::i7 st d=_
      rw[<-ep,ez]
     rw[eN,e,Yr,XD]
     rfl
  ·have c:¬(1:Int)<(st'.length:Int):=λz=>c (decide_eq_true z)
   have ez:i7 st' d=st':=by
    match st',c with
    |[],_=>rfl
    |[_],_=>rfl
    |b::a::r,c=>exact absurd (show(1:Int)<((b::a::r).length:Int)by simp only[Xz];omega) c
   walk_at "rd"
   refine⟨⟨p,_,rfl,ah⟩,?_⟩
   walk_at "rd"
   refine⟨p,_,rfl,ah,?_,?_⟩
   ·rw[Xi,XU]
    have:(1000:Nat)<sizeLine:=by decide
    omega
   ·rw[mU]
    refine hN _ _ ⟨?_,_,rfl⟩
    have e:aI st d=d::st':=by
     show d::i7 st d=_
     rw[<-ep,ez]
    rw[eN,e,Yr,XD]
    rfl
 ·rintro ρ M' ⟨rfl,y,rfl⟩
  refine⟨hl _,?_⟩
  walk_at "rd"
  refine bD.mk ⟨_,Le.refl _,?_⟩
  rw[Xi,X6]
  exact h p hp
theorem zI(T:Txt K mg t):Binds K t.mG ["places"] []:=T.oM.binds λ_ _ _ _ _ _ us hl=>match us,hl with|[_],_=>rfl
noncomputable def Cb:ug:=λds M Q=>∃(l:Addr) (ps:List Pl),ds=[.ref l]/\M l=some (.lst (ps.map Pl.d))/\ps.length<64/\(∀q∈ps,q.Ok 140)/\∀(p:Addr) (qs:List Pl),M p=none->qs.Perm ps->qs.Pairwise (λp q=> ¬aU q p)->Q (.ref p) (au M p (.lst ((bN qs).map Pl.d)))
theorem zJ(T:Txt K mg t):bG P w K mg base eL 4 t.oK t.mG ["places"] (wI K Cb):=by
 refine yv T.oM jH (λds M Q h=>by(first|(obtain⟨_,rfl,_⟩:=h;rfl)|(obtain⟨_,_,rfl,_⟩:=h;rfl)|(obtain⟨_,_,_,rfl,_⟩:=h;rfl)|(obtain⟨_,_,_,_,rfl,_⟩:=h;rfl)|(obtain⟨_,_,_,_,_,rfl,_⟩:=h;rfl)|(obtain⟨_,_,_,_,_,_,rfl,_⟩:=h;rfl)|(obtain⟨_,_,_,_,_,_,_,rfl,_⟩:=h;rfl))) (λcdv A outer s H hr=>?_)
 have hu:=hr.units
 refine⟨_,(av (aV (i:=1) jH.nd rfl (Or.inl rfl) (bC kc (by rfl) T.dG bT (aa (af 0) aj)))
  (av (dJ (aX (Dj hu) (bC i6 (by rfl) T.eZ bL (aa (af 1) aj)) ai (aO _)) (aD (aN (af 1))) bS)
  (av (aV (i:=2) jH.nd rfl (Or.inl rfl) (bF (jR T) (hr.mono (by decide)) (by rfl) T.kQ T.dZ.kp (jQ T) (aa (af 1) aj)))
  (av (aV (i:=3) jH.nd rfl (Or.inl rfl) (bF (jR T) (hr.mono (by decide)) (by rfl) T.kQ T.dZ.kp (jQ T) (aa (Bw (by rfl) (by rfl) T.iw (by rfl) T.ye (af 1)) aj)))
  (aD (aN (ay o4 (dN (af 2) Bv (fR (eE ai))) (dN (af 3) Bv (fR (eE ai)))))))))),λds M Q h=>?_⟩
 obtain⟨l,ps,rfl,hM,h64,ho,h⟩:=h
 walk_at "rd"
 refine⟨l,ps,rfl,hM,h64,λp qs hp bK kU=>?_⟩
 have oq:∀q∈qs,q.Ok 140:=λq hq=>ho q (bK.mem_iff.mp hq)
 have lq:qs.length<64:=by rw[bK.length_eq];exact h64
 walk_at "rd"
 refine⟨_,_,rfl,.inr (.inr ⟨p,rfl,ah⟩),?_⟩
 walk_at "rd"
 rw[Xi]
 refine eB (λc=>?_) (λc=>?_)
 ·have c:(qs.length:Int)<2:=of_decide_eq_true c
  have e:bN qs=qs:=by unfold bN;rw[if_pos (by omega)]
  have q:=h p qs hp bK kU
  rw[e]at q
  walk_at "rd"
  exact bD.mk ⟨_,Le.refl _,q⟩
 ·have c:¬(qs.length:Int)<2:=λz=>c (decide_eq_true z)
  have h':∀r,M r=none->Q (.ref r) (au M r (.lst ((bN qs).map Pl.d))):=λr hr=>h r qs hr bK kU
  walk_at "rd"
  refine⟨p,qs,rfl,ah,by omega,oq,λp1 hp1=>?_⟩
  walk_at "rd"
  have e:bN qs=(qs.foldl aI []).reverse.dropLast++(qs.reverse.foldl aI []).reverse.dropLast:=by unfold bN;rw[if_neg (by omega)]
  rw[e]at h'
  have lt:(qs.foldl aI []).reverse.length<=64:=by
   have:=eO qs
   rw[XU];omega
  have lh:(qs.reverse.foldl aI []).reverse.length<=64:=by
   have:=eO qs.reverse
   rw[XU]at this ⊢;omega
  generalize (qs.foldl aI []).reverse=th at *
  have hQ:au (au M p (.lst (qs.map Pl.d))) p1 (.lst (th.map Pl.d)) p=some (.lst (qs.map Pl.d)):=ao ah hp1
  have hT:au (au M p (.lst (qs.map Pl.d))) p1 (.lst (th.map Pl.d)) p1=some (.lst (th.map Pl.d)):=ah
  have le:=(Le.new (o:= .lst (qs.map Pl.d)) hp).trans (Le.new (o:= .lst (th.map Pl.d)) hp1)
  generalize au (au M p (.lst (qs.map Pl.d))) p1 (.lst (th.map Pl.d))=M2 at hQ hT le ⊢
  refine⟨_,.of hQ,λp2 hp2=>?_⟩
  rw[<-List.map_reverse]
  have hT2:=ao (u:=MO.lst (qs.reverse.map Pl.d)) hT hp2
  have yp:=le.trans (Le.new (o:= .lst (qs.reverse.map Pl.d)) hp2)
  have hR:au M2 p2 (.lst (qs.reverse.map Pl.d)) p2=some (.lst (qs.reverse.map Pl.d)):=ah
  generalize au M2 p2 (.lst (qs.reverse.map Pl.d))=M3 at hT2 yp hR ⊢
  refine⟨p2,qs.reverse,rfl,hR,by rw[XU];omega,λq hq=>oq q (Yb.mp hq),λp3 hp3=>?_⟩
  have WG:th.length<=64:=by omega
  generalize (qs.reverse.foldl aI []).reverse=hm at *
  have LJ:=ao (u:=MO.lst (hm.map Pl.d)) hT2 hp3
  have AW:=yp.trans (Le.new (o:= .lst (hm.map Pl.d)) hp3)
  have hH:au M3 p3 (.lst (hm.map Pl.d)) p3=some (.lst (hm.map Pl.d)):=ah
  generalize au M3 p3 (.lst (hm.map Pl.d))=M4 at LJ AW hH ⊢
  walk_at "rd"
  refine⟨_,.of LJ,λp4 Cr=>?_⟩
  rw[xE]
  have OX:=ao (u:=MO.lst (th.dropLast.map Pl.d)) hH Cr
  have IL:=AW.trans (Le.new (o:= .lst (th.dropLast.map Pl.d)) Cr)
  have hA:au M4 p4 (.lst (th.dropLast.map Pl.d)) p4=some (.lst (th.dropLast.map Pl.d)):=ah
  generalize au M4 p4 (.lst (th.dropLast.map Pl.d))=M5 at OX IL hA ⊢
  walk_at "rd"
  refine⟨_,.of OX,λp5 LI=>?_⟩
  rw[xE]
  have SX:=ao (u:=MO.lst (hm.dropLast.map Pl.d)) hA LI
  have LK:=IL.trans (Le.new (o:= .lst (hm.dropLast.map Pl.d)) LI)
  have hB:au M5 p5 (.lst (hm.dropLast.map Pl.d)) p5=some (.lst (hm.dropLast.map Pl.d)):=ah
  generalize au M5 p5 (.lst (hm.dropLast.map Pl.d))=M6 at SX LK hB ⊢
  refine⟨p4,p5,_,_,rfl,rfl,SX,hB,?_,λp6 O1=>?_⟩
  ·rw[Xi,Xi,Yp,Yp]
   have:(1000:Nat)<sizeLine:=by decide
   omega
  ·rw[<-XD]
   exact bD.mk ⟨_,LK.put,h' p6 (LK.free O1)⟩
theorem oO(T:Txt K mg t):Binds K t.eW ["places"] []:=T.gc.binds λ_ _ _ _ _ _ us hl=>match us,hl with|[_],_=>rfl
noncomputable def pV:ug:=λds M Q=>∃(l:Addr) (ps:List Pl),ds=[.ref l]/\M l=some (.lst (ps.map Pl.d))/\ps.length<64/\(∀q∈ps,q.Ok 140)/\∀(p:Addr) (qs:List Pl),M p=none->qs.Perm ps->qs.Pairwise (λp q=> ¬aU q p)->Q (.ref p) (au M p (.lst ((cA (bN qs)).map tD)))
theorem oQ(T:Txt K mg t):bG P w K mg base eL 5 t.gb t.eW ["places"] (wI K pV):=by
 refine yv T.gc ja (λds M Q h=>by(first|(obtain⟨_,rfl,_⟩:=h;rfl)|(obtain⟨_,_,rfl,_⟩:=h;rfl)|(obtain⟨_,_,_,rfl,_⟩:=h;rfl)|(obtain⟨_,_,_,_,rfl,_⟩:=h;rfl)|(obtain⟨_,_,_,_,_,rfl,_⟩:=h;rfl)|(obtain⟨_,_,_,_,_,_,rfl,_⟩:=h;rfl)|(obtain⟨_,_,_,_,_,_,_,rfl,_⟩:=h;rfl))) (λcdv A outer s H hr=>?_)
 have hu:=hr.units
 refine⟨_,(av (aV (i:=1) ja.nd rfl (Or.inl rfl) (bF (zJ T) (hr.mono (by decide)) (by rfl) T.B4 T.oM.kp (zI T) (aa (af 0) aj)))
  (av (dJ (aX (Dj hu) (bC i6 (by rfl) T.eZ bL (aa (af 1) aj)) ai (aO _)) (aD (aN (eF aj))) bS)
  (aD (aN (BA (by rfl) (by rfl) T.iw (by rfl) T.Lb (aa (af 1) (aa (ay o4 (dN (af 1) (fR ai) Bv) (dN (af 1) Bv (fR ai))) aj))))))),λds M Q h=>?_⟩
 obtain⟨l,ps,rfl,hM,h64,ho,h⟩:=h
 walk_at "rd"
 refine⟨l,ps,rfl,hM,h64,ho,λp qs hp bK kU=>?_⟩
 have h':∀r,M r=none->Q (.ref r) (au M r (.lst ((cA (bN qs)).map tD))):=λr hr=>h r qs hr bK kU
 have lo:(bN qs).length<=200:=by
  have l1:=eO qs
  have l2:=eO qs.reverse
  have l3:=bK.length_eq
  rw[XU]at l2
  unfold bN
  split
  ·omega
  ·rw[XA,Yp,Yp,XU,XU]
   omega
 generalize bN qs=bd at *
 walk_at "rd"
 refine⟨_,_,rfl,.inr (.inr ⟨p,rfl,ah⟩),?_⟩
 walk_at "rd"
 rw[Xi]
 refine eB (λc=>?_) (λc=>?_)
 ·have c:(bd.length:Int)<2:=of_decide_eq_true c
  walk_at "rd"
  intro r hr
  have q:=h' r ((Le.new hp).free hr)
  unfold cA at q
  rw[if_pos (by omega)]at q
  exact bD.mk ⟨_,(Le.new hp).put,q⟩
 ·have c:¬(bd.length:Int)<2:=λz=>c (decide_eq_true z)
  walk_at "rd"
  have le:=Le.new (o:= .lst (bd.map Pl.d)) hp
  have hB:au M p (.lst (bd.map Pl.d)) p=some (.lst (bd.map Pl.d)):=ah
  generalize au M p (.lst (bd.map Pl.d))=M1 at hB le ⊢
  refine⟨_,.of hB,λp1 hp1=>?_⟩
  have Vm:cutD (bd.map Pl.d) (some 1) none=(bd.drop 1).map Pl.d:=DI Pl.d bd 1 (by omega)
  have Rq:cutD (bd.map Pl.d) none (some 1)=(bd.take 1).map Pl.d:=qZ Pl.d bd 1 (by omega)
  rw[Vm]
  have Rz:=ao (u:=MO.lst ((bd.drop 1).map Pl.d)) hB hp1
  have wz:=le.trans (Le.new (o:= .lst ((bd.drop 1).map Pl.d)) hp1)
  have hA:au M1 p1 (.lst ((bd.drop 1).map Pl.d)) p1=some (.lst ((bd.drop 1).map Pl.d)):=ah
  generalize au M1 p1 (.lst ((bd.drop 1).map Pl.d))=M2 at Rz wz hA ⊢
  walk_at "rd"
  refine⟨_,.of Rz,λp2 hp2=>?_⟩
  rw[Rq]
  have hB2:=ao (u:=MO.lst ((bd.take 1).map Pl.d)) Rz hp2
  have SY:=ao (u:=MO.lst ((bd.take 1).map Pl.d)) hA hp2
  have yp:=wz.trans (Le.new (o:= .lst ((bd.take 1).map Pl.d)) hp2)
  have hC:au M2 p2 (.lst ((bd.take 1).map Pl.d)) p2=some (.lst ((bd.take 1).map Pl.d)):=ah
  generalize au M2 p2 (.lst ((bd.take 1).map Pl.d))=M3 at hB2 SY yp hC ⊢
  refine⟨p1,p2,_,_,rfl,rfl,SY,hC,?_,λp3 hp3=>?_⟩
  ·rw[Xi,Xi,Yq,Yi]
   have:(1000:Nat)<sizeLine:=by decide
   omega
  rw[<-XD]
  have Om:=ao (u:=MO.lst ((bd.drop 1++bd.take 1).map Pl.d)) hB2 hp3
  have AW:=yp.trans (Le.new (o:= .lst ((bd.drop 1++bd.take 1).map Pl.d)) hp3)
  have hE:au M3 p3 (.lst ((bd.drop 1++bd.take 1).map Pl.d)) p3=some (.lst ((bd.drop 1++bd.take 1).map Pl.d)):=ah
  generalize au M3 p3 (.lst ((bd.drop 1++bd.take 1).map Pl.d))=M4 at Om AW hE ⊢
  refine⟨p,p3,_,_,rfl,Om,hE,λp4 Cr=>?_⟩
  have q:=h' p4 (AW.free Cr)
  unfold cA at q
  rw[if_neg (by omega)]at q
  have ez:=uF bd (bd.drop 1++bd.take 1)
  rw[show((List.zipWith (λp q=>[p,q]) bd (bd.drop 1++bd.take 1)).map tD)=_ from ez]at q
  exact bD.mk ⟨_,AW.put,q⟩
theorem E8(T:Txt K mg t):Binds K t.rS ["places"] []:=T.v9.binds λ_ _ _ _ _ _ us hl=>match us,hl with|[_],_=>rfl
theorem AY{w:List Pl}:∀{as bs:List Pl},w∈List.zipWith (λp q=>[p,q]) as bs->∃a∈as,∃b∈bs,w=[a,b]
 |[],_,h=>by simp at h
 |a::as,[],h=>by simp at h
 |a::as,b::bs,h=>by
  rw[List.zipWith_cons_cons]at h
  rcases Xj.mp h with h|h
  ·exact⟨a,by simp,b,by simp,h⟩
  ·obtain⟨x,hx,y,hy,e⟩:=AY h
   exact⟨x,Xl _ hx,y,Xl _ hy,e⟩
theorem yq{qs:List Pl}{q:Pl}(h:q∈bN qs):q∈qs:=by
 unfold bN at h
 split at h
 ·exact h
 ·rcases XI.mp h with h|h
  ·exact om qs q (Yb.mp (aad _ h))
  ·exact Yb.mp (om _ q (Yb.mp (aad _ h)))
theorem Cc{qs w:List Pl}(h:w∈cA (bN qs)):∃a b,w=[a,b]/\a∈qs/\b∈qs:=by
 unfold cA at h
 split at h
 ·cases h
 ·obtain⟨a,ha,b,hb,e⟩:=AY h
  refine⟨a,b,e,yq ha,yq ?_⟩
  rcases XI.mp hb with hb|hb
  ·exact Zd hb
  ·exact Yd hb
theorem zK(qs:List Pl):(cA (bN qs)).length<=2*qs.length:=by
 have l1:=eO qs
 have l2:=eO qs.reverse
 rw[XU]at l2
 have:(bN qs).length<=2*qs.length:=by
  unfold bN
  split
  ·omega
  ·rw[XA,Yp,Yp,XU,XU]
   omega
 unfold cA
 split
 ·exact Yn _
 ·rw[ZD]
  omega
theorem Cd{α:Type}{f:α->List Pl}{xs:List α}{i:Nat}{x:α}(h:xs[i]?=some x):(xs.take (i+1)).map f=(xs.take i).map f++[f x]:=by
 rw[YS,h,XD]
 rfl
noncomputable def HK:ug:=λds M Q=>∃l:Addr,ds=[.ref l]/\∃ps:List Pl,M l=some (.lst (ps.map Pl.d))/\ps.Nodup/\ps.length<=16/\(∀q∈ps,q.Ok 140)/\∀(p:Addr) (qs:List Pl) (ts:List (List Pl)),M p=none->qs.Perm ps->cV qs->ts.Perm (jq qs qs.length)->ts.Pairwise (λa b=>dO b a=false)->Q (.ref p) (au M p (.lst (ts.map tD)))
theorem E9(T:Txt K mg t):bG P w K mg base eL 6 t.v7 t.rS ["places"] (wI K HK):=by
 refine yv T.v9 jb (λds M Q h=>by(first|(obtain⟨_,rfl,_⟩:=h;rfl)|(obtain⟨_,_,rfl,_⟩:=h;rfl)|(obtain⟨_,_,_,rfl,_⟩:=h;rfl)|(obtain⟨_,_,_,_,rfl,_⟩:=h;rfl)|(obtain⟨_,_,_,_,_,rfl,_⟩:=h;rfl)|(obtain⟨_,_,_,_,_,_,rfl,_⟩:=h;rfl)|(obtain⟨_,_,_,_,_,_,_,rfl,_⟩:=h;rfl))) (λcdv A outer s H hr=>?_)
 have hu:=hr.units
 refine⟨_,(av (aV (i:=1) jb.nd rfl (Or.inl rfl) (bC kc (by rfl) T.dG bT (aa (af 0) aj)))
  (av (aV (i:=2) jb.nd rfl (Or.inl rfl) (eF aj))
  (av (yP PassesOwn.never rfl (by rfl) T.sr (aa (bC i6 (by rfl) T.eZ bL (aa (af 1) aj)) aj) (cW (i:=3) jb.nd rfl (Or.inl rfl)) (av (aV (i:=4) jb.nd rfl (Or.inr rfl) (aG (af 1) (af 3)))
  (av (DE (j:=5) (qN (ys:=["p"]) (fs:=[4]) rfl (by show b8 (ak kZ) ["places","line","cover","k","p","seen"] _ _ _ _=true;decide +kernel) (bF (oQ T) (hr.mono (by decide)) (by rfl) T.pO T.gc.kp (oO T) (aa (dN (af 1) Bv (fR (af 3))) aj)) (λcl C s0 H0 ex=>oZ (aX (mX hu) (aQ (nJ T) (hr.mono (by decide)) (by rfl) T.rZ T.mJ.kp (nI T) (aa (aG (af 0) ai) (aa (aG (af 0) ai) (aa (af 1) aj)))) (eE ai) (aO _))) (λcl C s0 H0 ex=>(af 0))) jb.nd rfl (Or.inl rfl))
  (aD (qA (ND (af 2) (Bu (qN (ys:=["p"]) (fs:=[4]) rfl (by show b8 (ak kZ) ["places","line","cover","k","p","seen"] _ _ _ _=true;decide +kernel) (af 5) (λcl C s0 H0 ex=>Dz) (λcl C s0 H0 ex=>(aQ (gU T) (hr.mono (by decide)) (by rfl) T.iS T.c6.kp (gS T) (aa (aG (af 0) ai) (aa (aG (af 0) ai) (aa (af 1) aj))))))) (zZ PySem.F.plainAttrs_list PySem.F.slot_list_extend PySem.F.type_list_extend Be (bZ.dn (af 2)) (mQ (bZ.dn (Bu (qN (ys:=["p"]) (fs:=[4]) rfl (by show b8 (ak kZ) ["places","line","cover","k","p","seen"] _ _ _ _=true;decide +kernel) (af 5) (λcl C s0 H0 ex=>Dz) (λcl C s0 H0 ex=>(aQ (gU T) (hr.mono (by decide)) (by rfl) T.iS T.c6.kp (gS T) (aa (aG (af 0) ai) (aa (aG (af 0) ai) (aa (af 1) aj)))))))) ql))))))))
  (aD (aN (bC (oi (n:=3) (.inr rfl) hu) (by rfl) T.dG bT (aa (af 2) aj))))))),λds M Q h=>?_⟩
 obtain⟨l,rfl,ps,hM,nd,Vn,ho,h⟩:=h
 have sl:(1000:Nat)<sizeLine:=by decide
 walk_at "rd"
 refine⟨l,ps,rfl,hM,by omega,λa qs ha bK kU=>?_⟩
 have Vo:qs.Nodup:=bK.nodup_iff.mpr nd
 have strict:=BF kU Vo
 have oq:∀q∈qs,q.Ok 140:=λq hq=>ho q (bK.mem_iff.mp hq)
 have lq:qs.length<=16:=by rw[bK.length_eq];exact Vn
 have wO:cV qs:=⟨strict,λq hq=>(oq q hq).2⟩
 have hA:au M a (.lst (qs.map Pl.d)) a=some (.lst (qs.map Pl.d)):=ah
 have le:=Le.new (o:=MO.lst (qs.map Pl.d)) ha
 generalize au M a (.lst (qs.map Pl.d))=M1 at hA le ⊢
 walk_at "rd"
 intro b hb
 have nb:M b=none:=le.free hb
 have nab:a≠b:=λz=>by rw[<-z,hA]at hb;cases hb
 have hA:=ao (u:=MO.lst []) hA hb
 have le:=le.trans (Le.new (o:=MO.lst []) hb)
 have hB:au M1 b (.lst []) b=some (.lst []):=ah
 generalize au M1 b (.lst [])=M2 at hA hB le ⊢
 walk_at "rd"
 refine⟨_,_,rfl,.inr (.inr ⟨a,rfl,hA⟩),?_⟩
 rw[Xi]
 walk_at "rd"
 refine⟨by omega,by omega,?_⟩
 refine cL (λi ρ M'=>∃(y1 y2 y3:Option L3.D),ρ=[some (.ref l),some (.ref a),some (.ref b),y1,y2,y3]/\Le M M'/\M' a=some (.lst (qs.map Pl.d))/\M' b=some (.lst ((jq qs i).map tD))) _ ?_ ?_ ⟨_,_,_,rfl,le,hA,hB⟩
 ·rintro _ _ i v ρ M' N LC ⟨y1,y2,y3,rfl,le,hA,hB⟩ hN
  obtain⟨hi,rfl⟩:=n8 LC
  have hi:i<qs.length:=by omega
  obtain⟨p,hp⟩:∃p,qs[i]?=some p:=⟨qs[i],Xm hi⟩
  have mp:=XJ hp
  have ep:p=tK qs i:=by unfold tK;rw[XE,hp];rfl
  have lc:=vI wO i (by omega)
  refine⟨trivial,?_⟩
  walk_at "rd"
  refine⟨_,_,_,.inr (.inr ⟨a,rfl,hA⟩),rfl,k6 (by rw[XT,hp];rfl),?_⟩
  walk_at "rd"
  refine⟨_,.of hA,λc hc=>?_⟩
  have ec:cutD (qs.map Pl.d) none (some (i:Int))=(qs.take i).map Pl.d:=qZ Pl.d qs i (by omega)
  rw[ec]
  have hA:=ao (u:=MO.lst ((qs.take i).map Pl.d)) hA hc
  have hB:=ao (u:=MO.lst ((qs.take i).map Pl.d)) hB hc
  have le:=le.trans (Le.new (o:=MO.lst ((qs.take i).map Pl.d)) hc)
  have hC:au M' c (.lst ((qs.take i).map Pl.d)) c=some (.lst ((qs.take i).map Pl.d)):=ah
  generalize au M' c (.lst ((qs.take i).map Pl.d))=M3 at hA hB hC le ⊢
  walk_at "rd"
  refine⟨c,qs.take i,rfl,hC,by rw[Yi];omega,λq hq=>oq q (Yd hq),λd us hd Ll Lm=>?_⟩
  obtain rfl:=xG Ll Lm (kU.sublist (ZM _ _))
  have hW:∀w∈cA (bN (qs.take i)),∃x y,w=[x,y]/\x∈qs/\y∈qs:=λw hw=>by
   obtain⟨x,y,e,hx,hy⟩:=Cc hw
   exact⟨x,y,e,Yd hx,Yd hy⟩
  have lw:=zK (qs.take i)
  rw[Yi]at lw
  have lw:(cA (bN (qs.take i))).length<=32:=by omega
  obtain⟨ws,S0⟩:∃ws,SL (qs.take i)=ws:=⟨_,rfl⟩
  rw[show cA (bN (qs.take i))=ws from S0]at hW lw ⊢
  have hA:=ao (u:=MO.lst (ws.map tD)) hA hd
  have hB:=ao (u:=MO.lst (ws.map tD)) hB hd
  have le:=le.trans (Le.new (o:=MO.lst (ws.map tD)) hd)
  have hD:au M3 d (.lst (ws.map tD)) d=some (.lst (ws.map tD)):=ah
  generalize au M3 d (.lst (ws.map tD))=M4 at hA hB hD le ⊢
  refine⟨d,_,rfl,hD,by rw[Xi];omega,bD.mk (cE (λj acc M5=>M5=M4/\acc=((ws.take j).filter (A2 p)).map tD) _ ?_ ?_ ⟨rfl,rfl⟩)⟩
  ·rintro j v acc M5 N2 nP ⟨rfl,rfl⟩ mK
   obtain⟨w',hw,rfl⟩:=kj nP
   obtain⟨x,y,rfl,mx,my⟩:=hW w' (XJ hw)
   refine⟨hD,?_⟩
   refine⟨_,rfl,?_⟩
   refine⟨_,_,_,Or.inl rfl,rfl,rfl,?_⟩
   refine⟨_,rfl,?_⟩
   refine⟨_,_,_,Or.inl rfl,rfl,rfl,?_⟩
   walk_at "rd"
   refine⟨oq x mx,oq y my,oq p mp,?_⟩
   walk_at "rd"
   rw[gi]
   refine eB (λk=>?_) (λk=>?_)
   ·have k:tw x y p<0:=ZI.mp (eq_of_beq k)
    walk_at "rd"
    refine mK _ _ ⟨rfl,?_⟩
    rw[bV hw,if_pos (show A2 p [x,y]=true from decide_eq_true k),XD]
    rfl
   ·have k:¬tw x y p<0:=λz=>k (by rw[Yg z];rfl)
    refine mK _ _ ⟨rfl,?_⟩
    rw[bV hw,if_neg (λz:A2 p [x,y]=true=>k (of_decide_eq_true z)),XS]
  ·rintro acc M5 ⟨rfl,rfl⟩
   refine⟨hD,λf hf=>?_⟩
   rw[Xi,X6]
   have hS:∀w∈ws.filter (A2 p),∃x y,w=[x,y]/\x∈qs/\y∈qs/\tw x y p<0:=λw hw=>by
    obtain⟨hw,sw⟩:=Xy.mp hw
    obtain⟨x,y,rfl,mx,my⟩:=hW w hw
    exact⟨x,y,rfl,mx,my,of_decide_eq_true sw⟩
   have ls:(ws.filter (A2 p)).length<=32:=Yj (Zv _ _) lw
   obtain⟨ss,S1⟩:∃ss,ws.filter (A2 p)=ss:=⟨_,rfl⟩
   rw[S1]at hS ls ⊢
   have hA:=ao (u:=MO.lst (ss.map tD)) hA hf
   have hB:=ao (u:=MO.lst (ss.map tD)) hB hf
   have le:=le.trans (Le.new (o:=MO.lst (ss.map tD)) hf)
   have hF:au M5 f (.lst (ss.map tD)) f=some (.lst (ss.map tD)):=ah
   generalize au M5 f (.lst (ss.map tD))=M6 at hA hB hF le ⊢
   walk_at "rd"
   refine⟨⟨b,_,rfl,hB⟩,?_⟩
   walk_at "rd"
   refine⟨f,_,rfl,hF,by rw[Xi];omega,bD.mk (cE (λj acc M5=>M5=M6/\acc=((ss.take j).map (xN p)).map tD) _ ?_ ?_ ⟨rfl,rfl⟩)⟩
   ·rintro j v acc M5 N2 nP ⟨rfl,rfl⟩ mK
    obtain⟨w',hw,rfl⟩:=kj nP
    obtain⟨x,y,rfl,mx,my,sx⟩:=hS w' (XJ hw)
    refine⟨hF,?_⟩
    walk_at "rd"
    refine⟨oq x mx,oq y my,oq p mp,by omega,?_⟩
    walk_at "rd"
    refine mK _ _ ⟨rfl,?_⟩
    rw[Cd hw,XD]
    rfl
   ·rintro acc M5 ⟨rfl,rfl⟩
    refine⟨hF,λg hg=>?_⟩
    rw[Xi,X6]
    have WH:b≠g:=λz=>by rw[z,hg]at hB;cases hB
    refine⟨b,g,_,_,rfl,rfl,ao hB hg,ah,by rw[Xi,Xi,Xi];omega,?_⟩
    rw[<-XD]
    have en:jq qs (i+1)=jq qs i++ss.map (xN p):=by
     show jq qs i++(bO (qs.take i) (tK qs i)).map (xN (tK qs i))=_
     rw[<-ep]
     unfold bO
     rw[S0,S1]
    rw[<-en]
    refine hN _ _ ⟨_,_,_,rfl,λx o e=>?_,?_,ah⟩
    ·rw[aT (λz=>by rw[z,nb]at e;cases e)]
     exact ao (le _ _ e) hg
    ·rw[aT nab]
     exact ao hA hg
 ·rintro ρ M' ⟨y1,y2,y3,rfl,le,hA,hB⟩
  refine⟨trivial,?_⟩
  rw[Xi,ZO,show((qs.length:Int)).toNat=qs.length by omega]at hB
  have lc:=vI wO qs.length (Xn _)
  walk_at "rd"
  refine⟨b,_,rfl,hB,λt ht=>?_,by omega,λg rs hg Ln Lo=>?_⟩
  ·obtain⟨⟨u,v,w,e,_⟩,_⟩:=vJ wO qs.length (Xn _) t ht
   rw[e]
   rfl
  exact bD.mk ⟨_,le.put,h g qs rs (le.free hg) bK wO Ln Lo⟩
theorem pC(T:Txt K mg t):Binds K t.kK ["_law_one"] []:=T.jD.binds λ_ _ _ _ _ _ us hl=>match us,hl with|[_],_=>rfl
noncomputable def zL:sV:=λds Q=>∃i:Int,ds=[.int i]/\Q (.bl true)
theorem pF(T:Txt K mg t):bG P w K mg base eL 1 t.mH t.kK ["_law_one"] (qz K zL):=by
 refine Ah T.jD yj (λds Q h=>by(first|(obtain⟨_,rfl,_⟩:=h;rfl)|(obtain⟨_,_,rfl,_⟩:=h;rfl)|(obtain⟨_,_,_,rfl,_⟩:=h;rfl)|(obtain⟨_,_,_,_,rfl,_⟩:=h;rfl)|(obtain⟨_,_,_,_,_,rfl,_⟩:=h;rfl)|(obtain⟨_,_,_,_,_,_,rfl,_⟩:=h;rfl)|(obtain⟨_,_,_,_,_,_,_,rfl,_⟩:=h;rfl))) (λcdv A outer s H hr=>?_)
 have hu:=hr.units
 refine⟨_,(aD (aN (CY (bC Ag (by rfl) T.bf aK (aa (af 0) (aa (qo (by rfl) T.Lc Bl) aj))) (CY (mV w5 (af 0) lH (aO _)) (Ie (mV w5 (af 0) lH (aO _))))))),λds Q h=>?_⟩
 obtain⟨i,rfl,h⟩:=h
 walk_at "rd"
 exact h
theorem nL(T:Txt K mg t):Binds K t.dR ["_law_found","_law_many_here"] []:=T.eY.binds λ_ _ _ _ _ _ us hl=>match us,hl with|[_,_],_=>rfl
noncomputable def oR:sV:=λds Q=>∃(ps:List Pl) (k:Int),ds=[tD ps,.int k]/\((k=2/\ps.length=2)\/(k=3/\ps.length=3))/\Q (.bl true)
theorem nM(T:Txt K mg t):bG P w K mg base eL 2 t.eX t.dR ["_law_found","_law_many_here"] (qz K oR):=by
 refine Ah T.eY iz (λds Q h=>by(first|(obtain⟨_,rfl,_⟩:=h;rfl)|(obtain⟨_,_,rfl,_⟩:=h;rfl)|(obtain⟨_,_,_,rfl,_⟩:=h;rfl)|(obtain⟨_,_,_,_,rfl,_⟩:=h;rfl)|(obtain⟨_,_,_,_,_,rfl,_⟩:=h;rfl)|(obtain⟨_,_,_,_,_,_,rfl,_⟩:=h;rfl)|(obtain⟨_,_,_,_,_,_,_,rfl,_⟩:=h;rfl))) (λcdv A outer s H hr=>?_)
 have hu:=hr.units
 refine⟨_,(av (dJ (pJ.pt (qq (k_not (iY (bC Ag (by rfl) T.bf aK (aa (af 0) (aa (qo (by rfl) T.sj j7) aj))))) (oV (aX (vg hu) (bC i6 (by rfl) T.eZ bL (aa (af 0) aj)) (af 1) (aO _))))) (aD (aN lH)) bS)
  (av (JX PassesOwn.never rfl (af 0) (cW (i:=2) iz.nd rfl (Or.inl rfl)) (aD (dJ (pJ.pt (qq (k_not (iY (bC Ag (by rfl) T.bf aK (aa (af 2) (aa (qo (by rfl) T.sj j7) aj))))) (qq (aX (vg hu) (bC i6 (by rfl) T.eZ bL (aa (af 2) aj)) ai (aO _)) (qq (k_not (iY (aQ (pF T) (hr.mono (by decide)) (by rfl) T.sf T.jD.kp (pC T) (aa (aG (af 2) ai) aj)))) (oV (k_not (iY (aQ (pF T) (hr.mono (by decide)) (by rfl) T.sf T.jD.kp (pC T) (aa (aG (af 2) ai) aj))))))))) (aD (aN lH)) bS)))
  (aD (aN lH)))),λds Q h=>?_⟩
 obtain⟨ps,k,rfl,hk,h⟩:=h
 rcases hk with⟨rfl,hl⟩|⟨rfl,hl⟩
 ·obtain⟨a,b,rfl⟩:=yU hl
  walk_at "rd"
  exact h
 ·obtain⟨a,b,c,rfl⟩:=kg hl
  walk_at "rd"
  exact h
theorem nN(T:Txt K mg t):Binds K t.jz ["_law_found","_law_due","_law_many_here"] []:=T.ig.binds λ_ _ _ _ _ _ us hl=>match us,hl with|[_,_,_],_=>rfl
noncomputable def yr:ug:=λds M Q=>∃(l c:Addr) (k:Int) (ts:List (List Pl)),ds=[.ref l,.ref c,.int k]/\M l=some (.lst (ts.map tD))/\M c=some (.lst (ts.map tD))/\(∀t∈ts,(k=2/\t.length=2)\/(k=3/\t.length=3))/\ts.length<=1000/\Q (.bl true) M
theorem nO(T:Txt K mg t):bG P w K mg base eL 3 t.kL t.jz ["_law_found","_law_due","_law_many_here"] (wI K yr):=by
 refine yv T.ig nF (λds M Q h=>by(first|(obtain⟨_,rfl,_⟩:=h;rfl)|(obtain⟨_,_,rfl,_⟩:=h;rfl)|(obtain⟨_,_,_,rfl,_⟩:=h;rfl)|(obtain⟨_,_,_,_,rfl,_⟩:=h;rfl)|(obtain⟨_,_,_,_,_,rfl,_⟩:=h;rfl)|(obtain⟨_,_,_,_,_,_,rfl,_⟩:=h;rfl)|(obtain⟨_,_,_,_,_,_,_,rfl,_⟩:=h;rfl))) (λcdv A outer s H hr=>?_)
 have hu:=hr.units
 refine⟨_,(av (dJ (pJ.pt (qq (k_not (iY (bC Ag (by rfl) T.bf aK (aa (af 0) (aa (qo (by rfl) T.iw cK) aj))))) (oV (aX (vg hu) (bC i6 (by rfl) T.eZ bL (aa (af 0) aj)) (bC i6 (by rfl) T.eZ bL (aa (af 1) aj)) (aO _))))) (aD (aN lH)) bS)
  (av (yP PassesOwn.never rfl (by rfl) T.sr (aa (bC i6 (by rfl) T.eZ bL (aa (af 1) aj)) aj) (cW (i:=3) nF.nd rfl (Or.inl rfl)) (aD (dJ (pJ.pt (qq (k_not (iY (aQ (nM T) (hr.mono (by decide)) (by rfl) T.oN T.eY.kp (nL T) (aa (aG (af 0) (af 3)) (aa (af 2) aj))))) (oV (aX (vg hu) (aG (af 0) (af 3)) (aG (af 1) (af 3)) (aO _))))) (aD (aN lH)) bS)))
  (aD (aN lH)))),λds M Q h=>?_⟩
 obtain⟨l,c,k,ts,rfl,hM,hC,hk,Vk,h⟩:=h
 walk_at "rd"
 refine⟨_,_,_,true,rfl,.lst hM,m7,?_⟩
 walk_at "rd"
 refine⟨_,_,rfl,.inr (.inr ⟨l,rfl,hM⟩),?_⟩
 walk_at "rd"
 refine⟨_,_,rfl,.inr (.inr ⟨c,rfl,hC⟩),?_⟩
 walk_at "rd"
 have e:∀n:Int,dH (.int n) (.int n)=true:=λn=>by rw[gi];simp
 rw[e]
 refine PY ?_
 walk_at "rd"
 refine⟨_,_,rfl,.inr (.inr ⟨c,rfl,hC⟩),?_⟩
 walk_at "rd"
 rw[Xi]
 refine⟨by omega,by omega,?_⟩
 rw[Zo]
 refine qE (λi ρ M'=>M'=M/\∃y:Option L3.D,ρ=[some (.ref l),some (.ref c),some (.int k),y]) _ ?_ ?_ ⟨rfl,_,rfl⟩
 ·rintro i x ρ M' N hx ⟨rfl,y,rfl⟩ hN
  obtain⟨hi,rfl⟩:=n8 hx
  have hg:ts[i]?=some ts[i]:=Xm hi
  have hk':=hk ts[i] (YN hi)
  have at':sL (ts.map tD) (i:Int)=some (tD ts[i]):=k6 (by rw[XT,hg];rfl)
  have pl:L3.plain 9 (tD ts[i])=true:=by
   have:=cB ts
   rw[Ym]at this
   exact this _ (List.mem_map_of_mem (YN hi))
  refine⟨trivial,?_⟩
  walk_at "rd"
  refine⟨_,_,_,.inr (.inr ⟨l,rfl,hM⟩),rfl,at',?_⟩
  walk_at "rd"
  refine⟨hk',?_⟩
  walk_at "rd"
  refine⟨_,_,_,.inr (.inr ⟨l,rfl,hM⟩),rfl,at',?_⟩
  walk_at "rd"
  refine⟨_,_,_,.inr (.inr ⟨c,rfl,hC⟩),rfl,at',?_⟩
  walk_at "rd"
  refine⟨G2 _,?_⟩
  rw[j6 9 _ pl]
  walk_at "rd"
  exact hN _ _ ⟨rfl,_,rfl⟩
 ·rintro ρ M' ⟨rfl,y,rfl⟩
  refine⟨trivial,?_⟩
  walk_at "rd"
  exact bD.mk ⟨_,Le.refl _,h⟩
theorem tX(T:Txt K mg t):Binds K t.iP ["_law_cover","_law_side","_law_base"] []:=T.jE.binds λ_ _ _ _ _ _ us hl=>match us,hl with|[_,_,_],_=>rfl
noncomputable def wF:ug:=λds M Q=>∃(l:Addr) (a b:Pl) (bs:Bool),ds=[.ref l,tD [a,b],.bl bs]/\∃(ps:List Pl) (us:List (List Pl)),M l=some (.lst (us.map tD))/\sE ps us/\(∀q∈ps,q.Ok 140)/\a.Ok 140/\b.Ok 140/\us.length<=20/\aU a b/\Q (.bl true) M
theorem tY(T:Txt K mg t):bG P w K mg base eL 7 t.jA t.iP ["_law_cover","_law_side","_law_base"] (wI K wF):=by
 refine yv T.jE c7 (λds M Q h=>by(first|(obtain⟨_,rfl,_⟩:=h;rfl)|(obtain⟨_,_,rfl,_⟩:=h;rfl)|(obtain⟨_,_,_,rfl,_⟩:=h;rfl)|(obtain⟨_,_,_,_,rfl,_⟩:=h;rfl)|(obtain⟨_,_,_,_,_,rfl,_⟩:=h;rfl)|(obtain⟨_,_,_,_,_,_,rfl,_⟩:=h;rfl)|(obtain⟨_,_,_,_,_,_,_,rfl,_⟩:=h;rfl))) (λcdv A outer s H hr=>?_)
 have hu:=hr.units
 refine⟨_,(av (aV (i:=3) c7.nd rfl (Or.inl rfl) (uf qO (by rfl) T.iw cK (aa (af 0) aj)))
  (av (aV (i:=4) c7.nd rfl (Or.inl rfl) (bF (jN T) (hr.mono (by decide)) (by rfl) T.kO T.dW.kp (jM T) (aa (af 0) (aa (aG (af 1) ai) (aa (aG (af 1) ai) aj)))))
  (av (dJ (aX Nt (af 4) wY (aO _)) (aD (aN (CY (bF (fH T) (hr.mono (by decide)) (by rfl) T.gn T.cU.kp (fG T) (aa (af 3) (aa (af 1) (aa (af 2) aj)))) (Ie (mV (Kd hu) (af 3) (af 0) (aO _)))))) bS)
  (av (dJ (pJ.pt (qq (k_not (iY (bF (nO T) (hr.mono (by decide)) (by rfl) T.pq T.ig.kp (nN T) (aa (bF (kX T) (hr.mono (by decide)) (by rfl) T.fE T.bX.kp (er T) (aa (af 3) (aa (af 1) aj))) (aa (af 4) (aa ai aj)))))) (oV (aX (DF hu) (af 3) (af 0) (aO _))))) (aD (aN lH)) bS)
  (av (DE (j:=5) (qN (ys:=["_law_side"]) (fs:=[1]) rfl (by show b8 (ak dI) ["_law_cover","_law_side","_law_base","_law_handed","_law_due","_law_gone","_law_ends"] _ _ _ _=true;decide +kernel) (af 0) (λcl C s0 H0 ex=>oZ (pJ.pt (qp (aX (Gb hu) (aG (af 1) ai) (af 0) (by with_unfolding_all rfl)) (l5 (aX (Gb hu) (aG (af 1) ai) (af 0) (by with_unfolding_all rfl)))))) (λcl C s0 H0 ex=>(af 0))) c7.nd rfl (Or.inl rfl))
  (av (aV (i:=6) c7.nd rfl (Or.inl rfl) (bC kc (by rfl) T.dG bT (aa (Bu (Am (ys:=["_law_side"]) (fs:=[1]) rfl (by show b8 (ak dI) ["_law_cover","_law_side","_law_base","_law_handed","_law_due","_law_gone","_law_ends"] _ _ _ _=true;decide +kernel) (ay KG (aG (af 5) ai) (aG (af 5) ai)) (λcl C s0 H0 ex=>oZ (aX (gZ hu) (af 0) (af 1) (by with_unfolding_all rfl))) (λcl C s0 H0 ex=>(af 0)))) aj)))
  (aD (aN (bF (nO T) (hr.mono (by decide)) (by rfl) T.pq T.ig.kp (nN T) (aa (bF (kX T) (hr.mono (by decide)) (by rfl) T.fE T.bX.kp (er T) (aa (af 4) (aa (bA (aa (aG (af 6) ai) (aa (aG (af 6) ai) aj))) aj))) (aa (af 0) (aa ai aj)))))))))))),λds M Q h=>?_⟩
 obtain⟨l,a,b,bs,rfl,ps,us,hM,hI,ho,oa,ob,lt,hab,h⟩:=h
 have sl:(1000:Nat)<sizeLine:=by decide
 walk_at "rd"
 refine⟨_,_,rfl,.of hM,λe he=>?_⟩
 have hE:au M e (.lst (us.map tD)) e=some (.lst (us.map tD)):=ah
 have hM:=ao (u:=MO.lst (us.map tD)) hM he
 have le:=Le.new (o:=MO.lst (us.map tD)) he
 generalize au M e (.lst (us.map tD))=M1 at hE hM le ⊢
 walk_at "rd"
 refine⟨ps,us,hM,hI.1,ho,lt,λhno=>?_,λp vs M2 c d yp hV hF hso=>?_⟩
 ·walk_at "rd"
  refine⟨ps,us,hE,hI.1,ho,oa,ob,lt,λz=>hno z.2,?_⟩
  walk_at "rd"
  refine⟨_,_,.of hE,.of hM,cB us,cB us,?_⟩
  rw[uB (cB us)]
  exact bD.mk ⟨_,le,h⟩
 have hM:=yp _ _ hM
 have hE:=yp _ _ hE
 have le:=le.trans yp
 have cv:tw c d a*tw c d b<0:=by
  obtain⟨_,_,_,_,_,_,_,_,_,_,_,_,cv,_⟩:=hF
  exact cv
 walk_at "rd"
 refine⟨e,a,b,c,d,ps,us,rfl,hE,hI.1,ho,lt,hab,hF.KY,cv,λr ws hr Vp RA=>?_⟩
 obtain rfl:ws=vs:=ko (Vp.uniq hI.1 hF).1 RA hso
 have hR:au M2 r (.lst (ws.map tD)) r=some (.lst (ws.map tD)):=ah
 have hM:=ao (u:=MO.lst (ws.map tD)) hM hr
 have hE:=ao (u:=MO.lst (ws.map tD)) hE hr
 have hV:=ao (u:=MO.lst (ws.map tD)) hV hr
 have le:=le.trans (Le.new (o:=MO.lst (ws.map tD)) hr)
 have nf:¬Flat ps:=λfl=>by
  obtain⟨t1,_,_,_,m1,_⟩:=hF
  rw[hI.2.1 fl]at m1
  cases m1
 have lw:=hF.len hI.1
 have kw:=hF.KU hI.1 nf
 have t3:∀{xs:List (List Pl)},cI ps xs->∀t∈xs,((3:Int)=2/\t.length=2)\/((3:Int)=3/\t.length=3):=λk t ht=> .inr ⟨rfl,by obtain⟨_,_,_,rfl,_⟩:=(k.bJ t ht).parts;rfl⟩
 generalize au M2 r (.lst (ws.map tD))=M3 at hR hM hE hV le ⊢
 walk_at "rd"
 refine⟨_,_,_,ws,rfl,hR,hV,t3 kw,by omega,?_⟩
 walk_at "rd"
 refine⟨_,_,.of hE,.of hM,cB us,cB us,?_⟩
 rw[uB (cB us)]
 walk_at "rd"
 refine⟨l,_,rfl,hM,by rw[Xi];omega,bD.mk (cE (λj acc M5=>M5=M3/\acc=(bP (us.take j) a b).map tD) _ ?_ ?_ ⟨rfl,rfl⟩)⟩
 ·rintro j x acc M5 N2 nP ⟨rfl,rfl⟩ mK
  obtain⟨t,ht,rfl⟩:=kj nP
  refine⟨hM,?_⟩
  have ft:bP (us.take (j+1)) a b=bP (us.take j) a b++(if decide (a∈t/\b∈t)=true then[t]else[]):=bV ht
  walk_at "rd"
  refine⟨dD t,?_⟩
  walk_at "rd"
  rw[g9]
  refine eB (λk1=>?_) (λk1=>?_)
  ·walk_at "rd"
   refine⟨dD t,?_⟩
   walk_at "rd"
   rw[g9]
   refine eB (λk2=>?_) (λk2=>?_)
   ·walk_at "rd"
    refine mK _ _ ⟨rfl,?_⟩
    rw[ft,if_pos (decide_eq_true ⟨of_decide_eq_true k1,of_decide_eq_true k2⟩),XD]
    rfl
   ·refine mK _ _ ⟨rfl,?_⟩
    rw[ft,if_neg (λz=>k2 (decide_eq_true (of_decide_eq_true z).2)),XS]
  ·refine mK _ _ ⟨rfl,?_⟩
   rw[ft,if_neg (λz=>k1 (decide_eq_true (of_decide_eq_true z).1)),XS]
 rintro acc M5 ⟨rfl,hacc⟩
 rw[Xi,X6]at hacc
 subst hacc
 refine⟨hM,λw hw=>?_⟩
 have hM:=ao (u:=MO.lst ((bP us a b).map tD)) hM hw
 have hV:=ao (u:=MO.lst ((bP us a b).map tD)) hV hw
 have hB:au M5 w (.lst ((bP us a b).map tD)) w=some (.lst ((bP us a b).map tD)):=ah
 have le:=le.trans (Le.new (o:=MO.lst ((bP us a b).map tD)) hw)
 generalize au M5 w (.lst ((bP us a b).map tD))=M6 at hM hV hB le ⊢
 have k2:(bP us a b).length=2:=by
  obtain⟨⟨t,ht,r1⟩,⟨u,hu,r2⟩⟩:=hF.KY
  rw[hI.1.xU (cO.mpr ⟨t,ht,r1.tL⟩) (cO.mpr ⟨u,hu,r2.tL⟩)]
 obtain⟨t,u,c',d',eb,ht,wN,tu,hr⟩:=hI.1.xT (n9 hab) k2
 rw[eb]at hB
 have Lf:=xX (hI.1.bJ t ht) (a:=a) (b:=b) (c:=c') (hr.imp (λz=>z.1) (λz=>z.1))
 have Lg:=xX (hI.1.bJ u wN) (a:=a) (b:=b) (c:=d') (hr.elim (λz=> .inr z.2) (λz=> .inl z.2))
 have Vq:(c'=c/\d'=d)\/(c'=d/\d'=c):=by
  rcases hr with⟨r1,r2⟩|⟨r1,r2⟩
  ·obtain⟨e1,e2⟩:=hF.KY.one hI.1.BN.nd hI.1.bJ ⟨⟨t,ht,r1⟩,⟨u,wN,r2⟩⟩
   exact .inl ⟨e1.symm,e2.symm⟩
  ·obtain⟨e1,e2⟩:=hF.KY.one hI.1.BN.nd hI.1.bJ ⟨⟨u,wN,r2⟩,⟨t,ht,r1⟩⟩
   exact .inr ⟨e2.symm,e1.symm⟩
 have tl:∀v∈us,v.length=3:=λv hv=>by obtain⟨_,_,_,rfl,_⟩:=(hI.1.bJ v hv).parts;rfl
 have S2:=tl t ht
 have S3:=tl u wN
 walk_at "rd"
 refine⟨_,_,_,.inr (.inr ⟨w,rfl,hB⟩),rfl,rfl,?_⟩
 walk_at "rd"
 refine⟨_,_,_,.inr (.inr ⟨w,rfl,hB⟩),rfl,rfl,?_⟩
 refine⟨t.map Pl.d,u.map Pl.d,rfl,rfl,λz=>?_,λz=>?_,?_,?_⟩
 ·rw[aai]at z;rw[z]at S2;cases S2
 ·rw[aai]at z;rw[z]at S3;cases S3
 ·rw[Xi,Xi];omega
 rw[<-XD]
 refine⟨_,rfl,by rw[Xi,XA];omega,bD.mk (cE (λj acc M7=>M7=M6/\acc=(((t++u).take j).filter (λq=>decide (q∉[a,b]))).map Pl.d) _ ?_ ?_ ⟨rfl,rfl⟩)⟩
 ·rintro j2 x2 RB M8 N3 Vr ⟨rfl,rfl⟩ S4
  obtain⟨q,hq,rfl⟩:=oh Vr
  refine⟨trivial,?_⟩
  walk_at "rd"
  rw[if_pos rfl,g9]
  refine eB (λk=>?_) (λk=>?_)
  ·have k:q∉[a,b]:=λz=>by rw[decide_eq_true z]at k;cases k
   walk_at "rd"
   refine S4 _ _ ⟨rfl,?_⟩
   rw[bU hq,if_pos (decide_eq_true k),XD]
   rfl
  ·have k:q∈[a,b]:=Xk λz=>k (by rw[decide_eq_false z];rfl)
   refine S4 _ _ ⟨rfl,?_⟩
   rw[bU hq,if_neg (λz=>of_decide_eq_true (p:=q∉[a,b]) z k),XS]
 rintro RB M8 ⟨rfl,hacc⟩
 rw[Xi,X6,ZJ,Lf,Lg]at hacc
 subst hacc
 refine⟨trivial,λp4 Cr=>?_⟩
 have eN:([c']++[d']:List Pl)=[c',d']:=rfl
 rw[eN]
 have hM:=ao (u:=MO.lst ([c',d'].map Pl.d)) hM Cr
 have hV:=ao (u:=MO.lst ([c',d'].map Pl.d)) hV Cr
 have hQ:au M8 p4 (.lst ([c',d'].map Pl.d)) p4=some (.lst ([c',d'].map Pl.d)):=ah
 have le:=le.trans (Le.new (o:=MO.lst ([c',d'].map Pl.d)) Cr)
 generalize au M8 p4 (.lst ([c',d'].map Pl.d))=M9 at hM hV hQ le ⊢
 walk_at "rd"
 refine⟨p4,[c',d'],rfl,hQ,by show 2<64;omega,λx qs hx bK Vs=>?_⟩
 obtain⟨g,k,x1,y1,rfl,Vt,hG⟩:=BX hI.1 nf hF Vq bK Vs
 have hM:=ao (u:=MO.lst ([g,k].map Pl.d)) hM hx
 have hV:=ao (u:=MO.lst ([g,k].map Pl.d)) hV hx
 have hX:au M9 x (.lst ([g,k].map Pl.d)) x=some (.lst ([g,k].map Pl.d)):=ah
 have le:=le.trans (Le.new (o:=MO.lst ([g,k].map Pl.d)) hx)
 generalize au M9 x (.lst ([g,k].map Pl.d))=DC at hM hV hX le ⊢
 walk_at "rd"
 refine⟨_,_,_,.inr (.inr ⟨x,rfl,hX⟩),rfl,rfl,?_⟩
 walk_at "rd"
 refine⟨_,_,_,.inr (.inr ⟨x,rfl,hX⟩),rfl,rfl,?_⟩
 have Vu:tw x1 y1 g*tw x1 y1 k<0:=by
  obtain⟨_,_,_,_,_,_,_,_,_,_,_,_,z,_⟩:=hG
  exact z
 walk_at "rd"
 refine⟨p,g,k,x1,y1,ps,ws,rfl,hV,kw,ho,by omega,Vt,hG.KY,Vu,λr2 Lp hr2 Vv RC=>?_⟩
 obtain rfl:Lp=us:=ko (Vv.uniq kw hG).1 RC hI.2.2.2
 have hM:=ao (u:=MO.lst (Lp.map tD)) hM hr2
 have le:=le.trans (Le.new (o:=MO.lst (Lp.map tD)) hr2)
 have hR:au DC r2 (.lst (Lp.map tD)) r2=some (.lst (Lp.map tD)):=ah
 generalize au DC r2 (.lst (Lp.map tD))=Rv at hM hR le ⊢
 walk_at "rd"
 refine⟨_,_,_,Lp,rfl,hR,hM,t3 hI.1,by omega,?_⟩
 walk_at "rd"
 exact bD.mk ⟨_,le,h⟩
theorem RD(T:Txt K mg t):Binds K t.zu ["_law_script"] []:=T.IK.binds λ_ _ _ _ _ _ us hl=>match us,hl with|[_],_=>rfl
noncomputable abbrev Fb:=DJ
theorem HL{qs ps:List Pl}{ts:List (List Pl)}(wO:cV qs)(bK:qs.Perm ps)(LL:ts.Perm (jq qs qs.length))(hst:ts.Pairwise (λp q=>dO q p=false))(S5:ps.length<=12):sE qs ts/\ts.length<=20:=by
 have S6:∀t∈ts,qc qs t:=λt ht=>vJ wO qs.length (Xn _) t (LL.mem_iff.mp ht)
 have fe:Flat qs->ts=[]:=λfl=>by
  cases e:ts with
  |nil=>rfl
  |cons t0 tr=>
   obtain⟨u,v,w,et,pos,wN,hv',Ra,_⟩:=(S6 t0 (by rw[e];simp)).parts
   have:=fl u wN v hv' w Ra
   omega
 refine⟨⟨⟨wO,vH.perm (by have:=Az wO qs.length (Xn _);rw[X6]at this;exact this) (List.Perm.flatMap_right _ LL),S6⟩,fe,λnf q hq=>?_,hst⟩,?_⟩
 ·obtain⟨t,ht,mq⟩:=rC wO qs.length (Xn _) (by rw[X6];exact nf) q (by rw[X6];exact hq)
  exact⟨t,LL.mem_iff.mpr ht,mq⟩
 ·by_cases fl:Flat qs
  ·rw[fe fl];exact Yn _
  ·have h2:2<=qs.length:=by
    apply Xk
    intro z
    exact fl (mh (by omega))
   have c:=BO wO h2
   have l2:=(uH wO h2).1
   rw[LL.length_eq]
   have:=bK.length_eq
   omega
theorem HM{Q:List Pl}{us:List (List Pl)}(k:cI Q us){s p:Pl}(n:s∉Q):Ot us s p:=λ⟨_,c,d,⟨⟨t,ht,r⟩,_⟩,_⟩=>n ((k.bJ t ht).2 s ((r.mem s).mpr (.inl rfl)))
theorem Fc{us:List (List Pl)}{a b:Pl}(hab:aU a b):Ot us b a:=λz=>bx hab z.1
theorem Fd{us:List (List Pl)}{a:Pl}:Ot us a a:=λz=>n9 z.1 rfl
theorem Lq(T:Txt K mg t):bG P w K mg base eL 8 t.ET t.zu ["_law_script"] (qz K Fb):=by
 refine Ah T.IK gR (λds Q h=>by(first|(obtain⟨_,rfl,_⟩:=h;rfl)|(obtain⟨_,_,rfl,_⟩:=h;rfl)|(obtain⟨_,_,_,rfl,_⟩:=h;rfl)|(obtain⟨_,_,_,_,rfl,_⟩:=h;rfl)|(obtain⟨_,_,_,_,_,rfl,_⟩:=h;rfl)|(obtain⟨_,_,_,_,_,_,rfl,_⟩:=h;rfl)|(obtain⟨_,_,_,_,_,_,_,rfl,_⟩:=h;rfl))) (λcdv A outer s H hr=>?_)
 have hu:=hr.units
 refine⟨_,(av (aV (i:=1) gR.nd rfl (Or.inl rfl) (aQ (wk T) (hr.mono (by decide)) (by rfl) T.yc T.kM.kp (wj T) (aa (aQ (ff T) (hr.mono (by decide)) (by rfl) T.gu T.dF.kp (e9 T) (aa (af 0) (aa ai aj))) aj)))
  (av (aV (i:=2) gR.nd rfl (Or.inl rfl) (bF (sA T) (hr.mono (by decide)) (by rfl) T.tM T.iQ.kp (sy T) (aa (af 0) (aa (af 1) aj))))
  (av (aV (i:=3) gR.nd rfl (Or.inl rfl) (bF (sF T) (hr.mono (by decide)) (by rfl) T.tO T.iR.kp (sD T) (aa (bF (E9 T) (hr.mono (by decide)) (by rfl) T.Hx T.v9.kp (E8 T) (aa (uf qO (by rfl) T.iw cK (aa (af 2) aj)) aj)) (aa (dN (af 0) (fR (ay j5 ai (af 1))) (fR (ay j5 ai (af 1)))) aj))))
  (av (aV (i:=4) gR.nd rfl (Or.inl rfl) (eF aj))
  (av (yP PassesOwn.never rfl (by rfl) T.sr (aa (ay qv ai (bC i6 (by rfl) T.eZ bL (aa (af 3) aj))) aj) (cW (i:=5) gR.nd rfl (Or.inl rfl)) (av (aV (i:=6) gR.nd rfl (Or.inl rfl) (bF (nH T) (hr.mono (by decide)) (by rfl) T.o8 T.ic.kp (nG T) (aa (af 3) (aa (af 5) aj))))
  (av (dJ (pJ.pt (qp (aX (gZ hu) (af 6) (af 4) (by with_unfolding_all rfl)) (l5 (k_not (iY (bF (tY T) (hr.mono (by decide)) (by rfl) T.wc T.jE.kp (tX T) (aa (af 3) (aa (af 6) (aa (mV (mX hu) (ay cy (af 5) ai) ai (aO _)) aj))))))))) (aD (aN lH)) bS)
  (av (dJ (pJ.pt (qp (aX (gZ hu) (af 6) (af 4) (by with_unfolding_all rfl)) (l5 (k_not (iY (bF (fH T) (hr.mono (by decide)) (by rfl) T.gn T.cU.kp (fG T) (aa (uf qO (by rfl) T.iw cK (aa (af 3) aj)) (aa (bA (aa (aG (af 6) ai) (aa (aG (af 6) ai) aj))) (aa (mV (mX hu) (ay cy (af 5) ai) ai (aO _)) aj))))))))) (aD (aN lH)) bS)
  (aD (qA (Di (af 4) (af 6) (zZ PySem.F.plainAttrs_list PySem.F.slot_list_append PySem.F.type_list_append k7 (bZ.dn (af 4)) (mQ (bZ.dn (af 6)) ql)))))))))
  (av (aV (i:=7) gR.nd rfl (Or.inl rfl) (bA (aa (ay cy (aQ (ff T) (hr.mono (by decide)) (by rfl) T.gu T.dF.kp (e9 T) (aa (af 0) (aa ai aj))) ai) (aa (ay cy (aQ (ff T) (hr.mono (by decide)) (by rfl) T.gu T.dF.kp (e9 T) (aa (af 0) (aa ai aj))) (ay lP ai ai)) aj))))
  (av (aV (i:=8) gR.nd rfl (Or.inl rfl) (bA (aa (ay cZ (aG (af 7) ai) (ay lP ai ai)) (aa (aG (af 7) ai) aj))))
  (av (aV (i:=9) gR.nd rfl (Or.inl rfl) (ay o4 (eF (aa (af 7) (aa (af 8) aj))) (dN (af 2) Bv (fR ai))))
  (av (nY PassesOwn.never rfl (af 9) (cW (i:=10) gR.nd rfl (Or.inl rfl)) (aD (dJ (k_not (iY (bF (fH T) (hr.mono (by decide)) (by rfl) T.gn T.cU.kp (fG T) (aa (uf qO (by rfl) T.iw cK (aa (af 3) aj)) (aa (bA (aa (af 8) (aa (af 10) aj))) (aa (mV (mX hu) (ay cy (aQ (ff T) (hr.mono (by decide)) (by rfl) T.gu T.dF.kp (e9 T) (aa (af 0) (aa ai aj))) ai) ai (aO _)) aj)))))) (aD (aN lH)) bS)))
  (aD (aN (bF (fH T) (hr.mono (by decide)) (by rfl) T.gn T.cU.kp (fG T) (aa (uf qO (by rfl) T.iw cK (aa (af 3) aj)) (aa (bA (aa (af 7) (aa (af 7) aj))) (aa lH aj))))))))))))))),λds Q h=>?_⟩
 obtain⟨ns,rfl,hl,hb,h⟩:=h
 have sl:(1000:Nat)<sizeLine:=by decide
 walk_at "rd"
 refine⟨hb,hl,λz1 WI=>?_⟩
 walk_at "rd"
 intro m m0 WJ
 walk_at "rd"
 refine⟨hb,hl,m0,λl ps WK nd ho hlen=>?_⟩
 have Lr:∀q∈ps,q.Ok 140:=λq hq=>⟨(ho q hq).1.le (by decide),(ho q hq).2.le (by decide)⟩
 have S5:ps.length<=12:=by omega
 have hM:au JH l (.lst (ps.map Pl.d)) l=some (.lst (ps.map Pl.d)):=ah
 generalize au JH l (.lst (ps.map Pl.d))=M0 at hM ⊢
 walk_at "rd"
 refine⟨_,_,rfl,.of hM,λl2 hl2=>?_⟩
 have hL:au M0 l2 (.lst (ps.map Pl.d)) l2=some (.lst (ps.map Pl.d)):=ah
 have hM:=ao (u:=MO.lst (ps.map Pl.d)) hM hl2
 generalize au M0 l2 (.lst (ps.map Pl.d))=M1 at hL hM ⊢
 walk_at "rd"
 refine⟨ps,hL,nd,by omega,Lr,λf qs ts hf bK wO LL hst=>?_⟩
 obtain⟨I0,lT⟩:=HL wO bK LL hst S5
 have oq:∀q∈qs,q.Ok 140:=λq hq=>Lr q (bK.mem_iff.mp hq)
 have hF:au M1 f (.lst (ts.map tD)) f=some (.lst (ts.map tD)):=ah
 have hM:=ao (u:=MO.lst (ts.map tD)) hM hf
 generalize au M1 f (.lst (ts.map tD))=M2 at hF hM ⊢
 walk_at "rd"
 refine⟨_,.inl rfl,λc hc=>?_⟩
 obtain⟨zs,_,_,_,ez⟩:=xP (k:=3+m) (m:=8) hb (by omega) (by decide)
 have ez:cutD (ns.map L3.D.int) (some ((λi j:Int=>i+j) 3 m)) (some ((λi j:Int=>i+j) 11 m))=zs.map L3.D.int:=by
  rw[<-ez]
  show cutD (ns.map L3.D.int) (some (3+m)) (some (11+m))=_
  rw[show 3+m+8=11+m by omega]
 rw[ez]
 have hC:au M2 c (.lst (zs.map L3.D.int)) c=some (.lst (zs.map L3.D.int)):=ah
 have hF:=ao (u:=MO.lst (zs.map L3.D.int)) hF hc
 have hM:=ao (u:=MO.lst (zs.map L3.D.int)) hM hc
 generalize au M2 c (.lst (zs.map L3.D.int))=M3 at hF hC hM ⊢
 walk_at "rd"
 refine⟨qs,ts,zs,hF,hC,I0,oq,lT,λg us M4 IL hU hI lu=>?_⟩
 have hM:=IL _ _ hM
 have lU:us.length<=20:=by omega
 clear hL hF hC I0 hl2 hf IL
 walk_at "rd"
 intro p hp
 have Vw:g≠p:=λz=>by rw[z,hp]at hU;cases hU
 have Ry:l≠p:=λz=>by rw[z,hp]at hM;cases hM
 have hP:au M4 p (.lst []) p=some (.lst []):=ah
 have hU:=ao (u:=MO.lst []) hU hp
 have hM:=ao (u:=MO.lst []) hM hp
 generalize au M4 p (.lst [])=M5 at hU hP hM ⊢
 walk_at "rd"
 refine⟨_,_,rfl,.inr (.inr ⟨g,rfl,hU⟩),?_⟩
 rw[Xi]
 have s1:L3.Sm 7 (us.length:Int):=by show Int.natAbs _<2 ^ 7;omega
 walk_at "rd"
 refine⟨by dsimp only;omega,by dsimp only;omega,?_⟩
 refine cL (λi ρ M'=>∃(ds:List (List Pl)) (y5 y6:Option L3.D),ρ=[some (.wW (ns.map L3.D.int)),some (.int m),some (.ref l),some (.ref g),some (.ref p),y5,y6,none,none,none,none]/\M' g=some (.lst (us.map tD))/\M' l=some (.lst (ps.map Pl.d))/\M' p=some (.lst (ds.map tD))/\ds.length=i) _ ?_ ?_ ⟨[],_,_,rfl,hU,hM,hP,rfl⟩
 ·clear hU hP hM
  rintro _ _ i v ρ M' N hx ⟨ds,y5,y6,rfl,hU,hM,hP,ld⟩ hN
  obtain⟨hi,rfl⟩:=n8 hx
  have hi:i<3*us.length:=by dsimp only at hi;omega
  have es:us≠[]:=λz=>by rw[z]at hi;simp at hi
  refine⟨trivial,?_⟩
  walk_at "rd"
  refine⟨qs,us,hU,hI.1.bJ,oq,es,lU,?_⟩
  obtain⟨t0,ht0,x0,y0,Ld,SV,mx,my⟩:=AX hI.1.bJ es (i:Int)
  rw[Ld]
  have hab:aU (lo x0 y0) (L3.hi x0 y0):=BU SV
  have hok:(lo x0 y0).Ok 140/\(L3.hi x0 y0).Ok 140:=AM (oq _ ((hI.1.bJ t0 ht0).2 _ mx)) (oq _ ((hI.1.bJ t0 ht0).2 _ my))
  generalize lo x0 y0=a at hab hok ⊢
  generalize L3.hi x0 y0=b at hab hok ⊢
  have last:∀M8,M8 p=some (.lst (ds.map tD))->M8 g=some (.lst (us.map tD))->M8 l=some (.lst (ps.map Pl.d))->N [some (.wW (ns.map L3.D.int)),some (.int m),some (.ref l),some (.ref g),some (.ref p),some (.int i),some (tD [a,b]),none,none,none,none] (au M8 p (.lst (ds.map tD++[tD [a,b]]))):=λM8 h1 h2 h3=>hN _ _ ⟨ds++[[a,b]],_,_,rfl,(aT Vw).trans h2,(aT Ry).trans h3,by rw[XD];exact ah,by rw[XA,ld];rfl⟩
  walk_at "rd"
  refine⟨_,.inr ⟨p,rfl,hP⟩,rfl,cB _,?_⟩
  walk_at "rd"
  rw[qb,if_pos rfl]
  by_cases A6:[a,b]∈ds
  ·rw[decide_eq_true A6]
   walk_at "rd"
   refine⟨_,.inr ⟨p,rfl,hP⟩,rfl,cB _,?_⟩
   walk_at "rd"
   rw[qb,if_pos rfl,decide_eq_true A6]
   walk_at "rd"
   refine⟨⟨p,_,rfl,hP⟩,?_⟩
   walk_at "rd"
   exact⟨p,_,rfl,hP,by rw[Xi];omega,last _ hP hU hM⟩
  rw[decide_eq_false A6]
  walk_at "rd"
  refine⟨qs,us,hU,hI,oq,hok.1,hok.2,lU,hab,?_⟩
  walk_at "rd"
  refine⟨_,.inr ⟨p,rfl,hP⟩,rfl,cB _,?_⟩
  walk_at "rd"
  rw[qb,if_pos rfl,decide_eq_false A6]
  walk_at "rd"
  refine⟨_,_,rfl,.of hU,λe he=>?_⟩
  have hU:=ao (u:=MO.lst (us.map tD)) hU he
  have hP:=ao (u:=MO.lst (us.map tD)) hP he
  have hM:=ao (u:=MO.lst (us.map tD)) hM he
  have hE:au M' e (.lst (us.map tD)) e=some (.lst (us.map tD)):=ah
  generalize au M' e (.lst (us.map tD))=M7 at hU hP hM hE ⊢
  walk_at "rd"
  refine⟨qs,us,hE,hI.1,oq,hok.2,hok.1,lU,Fc hab,?_⟩
  walk_at "rd"
  refine⟨⟨p,_,rfl,hP⟩,?_⟩
  walk_at "rd"
  exact⟨p,_,rfl,hP,by rw[Xi];omega,last _ hP hU hM⟩
 clear hU hP hM
 rintro ρ M' ⟨ds,y5,y6,rfl,hU,hM,hP,ld⟩
 refine⟨trivial,?_⟩
 walk_at "rd"
 refine⟨hb,hl,λz0 _=>?_⟩
 walk_at "rd"
 refine⟨hb,hl,λz2 _=>?_⟩
 walk_at "rd"
 intro p2 hp2
 have pd:∀x y:Int,L3.D.tup [L3.D.int x,L3.D.int y]=Pl.d ⟨x,y⟩:=λ_ _=>rfl
 rw[pd,pd]
 have Vx:(λi j:Int=>i ^ j.toNat) 10 39=1000000000000000000000000000000000000000:=by decide
 rw[Vx]
 obtain⟨al,hal,RE⟩:∃al:Pl,(⟨(λi j:Int=>i % j) z0 1009,(λi j:Int=>i % j) z2 1000000000000000000000000000000000000000⟩:Pl)=al/\al.Ok 140:=⟨_,rfl,by
  constructor
  ·show(z0 % 1009).natAbs<2 ^ 140
   omega
  ·show(z2 % 1000000000000000000000000000000000000000).natAbs<2 ^ 140
   omega⟩
 obtain⟨st,RG,O2,Vy⟩:∃st:Pl,(⟨(λi j:Int=>i-j) ((λi j:Int=>i % j) z0 1009) 1000000000000000000000000000000000000000,(λi j:Int=>i % j) z2 1000000000000000000000000000000000000000⟩:Pl)=st/\st.Ok 140/\st∉qs:=⟨_,rfl,by
  constructor
  ·show(z0 % 1009-1000000000000000000000000000000000000000).natAbs<2 ^ 140
   omega
  ·show(z2 % 1000000000000000000000000000000000000000).natAbs<2 ^ 140
   omega,λz=>by
  have:=(ho _ (bK.mem_iff.mp z)).1
  have:(z0 % 1009-1000000000000000000000000000000000000000).natAbs<2 ^ 129:=this
  omega⟩
 rw[hal,RG]
 obtain⟨cs,hcs,lcs,Vz⟩:∃cs:List Pl,(∀c∈cs,c∈ps)/\cs.length<=1/\cutD (ps.map Pl.d) none (some 1)=cs.map Pl.d:=by
  cases WL:ps with
  |nil=>exact⟨[],λc hc=>(by cases hc),Yn _,rfl⟩
  |cons p0 pr=>exact⟨[p0],λc hc=>(by rw[Xq.mp hc];simp),Xn _,qZ Pl.d (p0::pr) 1 (by simp)⟩
 have VA:[al.d,st.d]=[al,st].map Pl.d:=rfl
 rw[VA]
 have hU:=ao (u:=MO.lst ([al,st].map Pl.d)) hU hp2
 have hM:=ao (u:=MO.lst ([al,st].map Pl.d)) hM hp2
 have hA:au M' p2 (.lst ([al,st].map Pl.d)) p2=some (.lst ([al,st].map Pl.d)):=ah
 clear hP
 generalize au M' p2 (.lst ([al,st].map Pl.d))=M6 at hU hM hA ⊢
 walk_at "rd"
 refine⟨_,.of hM,λc2 hc2=>?_⟩
 rw[Vz]
 have hU:=ao (u:=MO.lst (cs.map Pl.d)) hU hc2
 have hA:=ao (u:=MO.lst (cs.map Pl.d)) hA hc2
 have hC:au M6 c2 (.lst (cs.map Pl.d)) c2=some (.lst (cs.map Pl.d)):=ah
 clear hM
 generalize au M6 c2 (.lst (cs.map Pl.d))=M7 at hU hA hC ⊢
 refine⟨p2,c2,_,_,rfl,rfl,hA,hC,by rw[Xi,Xi];show 2+cs.length<=sizeLine;omega,λx hx=>?_⟩
 rw[<-XD]
 have hes:∀q∈[al,st]++cs,q.Ok 140:=λq hq=>by
  rcases XI.mp hq with hq|hq
  ·simp only[Xj,XR,or_false]at hq
   rcases hq with rfl|rfl
   ·exact RE
   ·exact O2
  ·exact Lr q (hcs q hq)
 generalize [al,st]++cs=es at hes ⊢
 have hU:=ao (u:=MO.lst (es.map Pl.d)) hU hx
 have hX:au M7 x (.lst (es.map Pl.d)) x=some (.lst (es.map Pl.d)):=ah
 clear hA hC
 generalize au M7 x (.lst (es.map Pl.d))=M8 at hU hX ⊢
 walk_at "rd"
 refine⟨x,_,rfl,hX,?_⟩
 refine cL (λi ρ M'=>∃RH:Option L3.D,ρ=[some (.wW (ns.map L3.D.int)),some (.int m),some (.ref l),some (.ref g),some (.ref p),y5,y6,some al.d,some st.d,some (.ref x),RH]/\M' g=some (.lst (us.map tD))/\M' x=some (.lst (es.map Pl.d))) _ ?_ ?_ ⟨_,rfl,hU,hX⟩
 ·clear hU hX
  rintro _ _ i v ρ M' N hv ⟨RH,rfl,hU,hX⟩ hN
  obtain⟨q,hq,rfl⟩:=oh hv
  have VB:=hes q (XJ hq)
  refine⟨hX,?_⟩
  walk_at "rd"
  refine⟨_,_,rfl,.of hU,λe he=>?_⟩
  have hU:=ao (u:=MO.lst (us.map tD)) hU he
  have hX:=ao (u:=MO.lst (us.map tD)) hX he
  have hE:au M' e (.lst (us.map tD)) e=some (.lst (us.map tD)):=ah
  generalize au M' e (.lst (us.map tD))=M9 at hU hX hE ⊢
  walk_at "rd"
  refine⟨hb,hl,λz3 _=>?_⟩
  walk_at "rd"
  refine⟨qs,us,hE,hI.1,oq,O2,VB,lU,HM hI.1 Vy,?_⟩
  walk_at "rd"
  exact hN _ _ ⟨_,rfl,hU,hX⟩
 rintro ρ M' ⟨RH,rfl,hU,hX⟩
 refine⟨hX,?_⟩
 walk_at "rd"
 refine⟨_,_,rfl,.of hU,λe he=>?_⟩
 have hE:au M' e (.lst (us.map tD)) e=some (.lst (us.map tD)):=ah
 generalize au M' e (.lst (us.map tD))=M9 at hE ⊢
 walk_at "rd"
 exact⟨qs,us,hE,hI.1,oq,RE,RE,lU,Fd,h⟩
end
theorem all_mk{P:Program}{w:World}{h:Heap}{mg:Str->Option Value}{fa:Addr}(Y:HD.Oh Pf.fs Pf.bs Pf.cs "Stiff" "side" "Stiff.__init__" Pf.iX h)(G:h.Ns mainGlobals mg)(Og:mg "law" =some (.ref fa)):∃(K:PySem.W.Frag) (fd:FuncData),K.In h/\(∀(s:Shared) (v:Value),BindsTo s fd ⟨[v],[]⟩ [("_law_script",v)])/\∀base:Heap,K.In base->base.Ns mainGlobals mg->bG P w K mg base eL 8 fa fd ["_law_script"] (qz K Fb):=by
 obtain⟨K,X,H,B,ad,ii,WM,cf⟩:=Y
 unfold fs at H
 unfold bs at B
 obtain⟨⟨f0,d0,a0,F0⟩,H⟩:=H
 obtain⟨⟨f1,d1,a1,F1⟩,H⟩:=H
 obtain⟨⟨f2,d2,a2,F2⟩,H⟩:=H
 obtain⟨⟨f3,d3,a3,F3⟩,H⟩:=H
 obtain⟨⟨f4,d4,a4,F4⟩,H⟩:=H
 obtain⟨⟨f5,d5,a5,F5⟩,H⟩:=H
 obtain⟨⟨f6,d6,a6,F6⟩,H⟩:=H
 obtain⟨⟨f7,d7,a7,F7⟩,H⟩:=H
 obtain⟨⟨f8,d8,a8,F8⟩,H⟩:=H
 obtain⟨⟨f9,d9,a9,F9⟩,H⟩:=H
 obtain⟨⟨Sy,WN,VC,VD⟩,H⟩:=H
 obtain⟨⟨Sz,WO,VE,VF⟩,H⟩:=H
 obtain⟨⟨Bj,WQ,VG,VH⟩,H⟩:=H
 obtain⟨⟨SA,WR,VI,VJ⟩,H⟩:=H
 obtain⟨⟨SD,WS,VL,VM⟩,H⟩:=H
 obtain⟨⟨SE,WT,VN,VO⟩,H⟩:=H
 obtain⟨⟨SG,WU,VP,VQ⟩,H⟩:=H
 obtain⟨⟨SH,WV,VR,VS⟩,H⟩:=H
 obtain⟨⟨SI,WW,VT,VU⟩,H⟩:=H
 obtain⟨⟨SJ,WX,VV,VW⟩,H⟩:=H
 obtain⟨⟨SK,WY,VX,VY⟩,H⟩:=H
 obtain⟨⟨SM,WZ,VZ,V0⟩,H⟩:=H
 obtain⟨⟨SN,W0,V1,V2⟩,H⟩:=H
 obtain⟨⟨W2,W3,V3,V4⟩,H⟩:=H
 obtain⟨⟨W4,W5,V5,V6⟩,H⟩:=H
 obtain⟨⟨W6,W7,V7,V8⟩,H⟩:=H
 obtain⟨⟨W8,W9,V9,Wa⟩,H⟩:=H
 obtain⟨⟨Xa,Xb,Wb,Wc⟩,H⟩:=H
 obtain⟨⟨Xc,Xd,Wd,We⟩,H⟩:=H
 obtain⟨⟨Xe,Xf,Wf,Wg⟩,H⟩:=H
 obtain⟨⟨Xg,Xh,S7,S8⟩,H⟩:=H
 obtain⟨z0,B⟩:=B
 obtain⟨z1,B⟩:=B
 obtain⟨z2,B⟩:=B
 obtain⟨z3,B⟩:=B
 obtain⟨z4,B⟩:=B
 obtain⟨z5,B⟩:=B
 obtain⟨z6,B⟩:=B
 obtain⟨z7,B⟩:=B
 obtain⟨z8,B⟩:=B
 obtain⟨z9,B⟩:=B
 obtain⟨Wh,B⟩:=B
 obtain⟨Wi,B⟩:=B
 have e:=Og.symm.trans (PySem.W.mg_of X G S7)
 cases e
 have T:Txt K mg ⟨_,_,_,_,_,_,_,_,_,_,_,_,_,_,_,_,_,_,_,_,_,_,_,_,_,_,_,_,_,_,_,_,_,_,_,_,_,_,_,_,_,_,_,_,_,_,_,_,_,_,_,_,_,_,_,_,_,_,_,_,_,_,_,_,_,_,_,_,_,_,_⟩:=⟨F0,PySem.W.mg_of X G a0,F1,PySem.W.mg_of X G a1,F2,PySem.W.mg_of X G a2,F3,PySem.W.mg_of X G a3,F4,PySem.W.mg_of X G a4,F5,PySem.W.mg_of X G a5,F6,PySem.W.mg_of X G a6,F7,PySem.W.mg_of X G a7,F8,PySem.W.mg_of X G a8,F9,PySem.W.mg_of X G a9,VD,PySem.W.mg_of X G VC,VF,PySem.W.mg_of X G VE,VH,PySem.W.mg_of X G VG,VJ,PySem.W.mg_of X G VI,VM,PySem.W.mg_of X G VL,VO,PySem.W.mg_of X G VN,VQ,PySem.W.mg_of X G VP,VS,PySem.W.mg_of X G VR,VU,PySem.W.mg_of X G VT,VW,PySem.W.mg_of X G VV,VY,PySem.W.mg_of X G VX,V0,PySem.W.mg_of X G VZ,V2,PySem.W.mg_of X G V1,V4,PySem.W.mg_of X G V3,V6,PySem.W.mg_of X G V5,V8,PySem.W.mg_of X G V7,Wa,PySem.W.mg_of X G V9,Wc,PySem.W.mg_of X G Wb,We,PySem.W.mg_of X G Wd,Wg,PySem.W.mg_of X G Wf,S8,PySem.W.mg_of X G S7,PySem.W.mg_none_of X G z0,PySem.W.mg_none_of X G z1,PySem.W.mg_none_of X G z2,PySem.W.mg_none_of X G z3,PySem.W.mg_none_of X G z4,PySem.W.mg_none_of X G z5,PySem.W.mg_none_of X G z6,PySem.W.mg_none_of X G z7,PySem.W.mg_none_of X G z8,PySem.W.mg_none_of X G z9,PySem.W.mg_none_of X G Wh,PySem.W.mg_none_of X G Wi,PySem.W.mg_of X G (cf.ns "NearError" (by decide +kernel)),PySem.W.mg_of X G (cf.ns "NoNumber" (by decide +kernel)),PySem.W.mg_of X G (cf.ns "Flat" (by decide +kernel)),PySem.W.mg_of X G (cf.ns "Twice" (by decide +kernel)),PySem.W.mg_of X G (cf.ns "NoPlace" (by decide +kernel)),PySem.W.mg_of X G (cf.ns "Stiff" (by decide +kernel)),PySem.W.mg_of X G (cf.ns "Crossed" (by decide +kernel)),cf.Z,cf.V,cf.FI,cf.ini,cf.Ve,cf.na,cf.kv,cf.tN,cf.sN,cf.sR,cf.sS,(cf.kk "NearError" (by decide +kernel)).trans (congrArg some (by decide +kernel)),(cf.kk "NoNumber" (by decide +kernel)).trans (congrArg some (by decide +kernel)),(cf.kk "Flat" (by decide +kernel)).trans (congrArg some (by decide +kernel)),(cf.kk "Twice" (by decide +kernel)).trans (congrArg some (by decide +kernel)),(cf.kk "NoPlace" (by decide +kernel)).trans (congrArg some (by decide +kernel)),(cf.kk "Stiff" (by decide +kernel)).trans (congrArg some (by decide +kernel)),(cf.kk "Crossed" (by decide +kernel)).trans (congrArg some (by decide +kernel))⟩
 refine⟨K,_,X,λs v=>?_,λbase _ _=>Lq T⟩
 obtain⟨_,_,_,_,_,_,_,_,_,rfl,_,_⟩:=S8.ex
 exact .of_eq rfl
end Pf
open PySem PySem.W PyProof.Rows
set_option maxRecDepth 100000 in
set_option maxHeartbeats 0 in
theorem PySem.Challenge.cw_nearland_k33_turned_over_holds : PySem.Challenge.rw_nearland_k33_turned_over.Holds := by
 refine holds_law Pf.said λsaid=>?_
 refine holds_open (q:=Pf.view) (loose:=Pf.loose) (Xt:=λs=>xlAt Pf.view [] s && recOk (RowW.records (OpenRow.toRowW PySem.Challenge.rw_nearland_k33_turned_over.row)) s) (XP:=XL Pf.view []) (Yf:=HD.IS Pf.fs Pf.bs Pf.cs "Stiff" "side") (Ya:=λ_=>HD.good2 Pf.fs Pf.bs "Stiff.__init__" Pf.iX) (YP:=λ_ h=>HD.Oh Pf.fs Pf.bs Pf.cs "Stiff" "side" "Stiff.__init__" Pf.iX h) (N:=5960) Pf.left (λ_ _ e=>HD.Hv e) (λ_ _ _ y k=>HD.K9 y k) (λs e=>xl_of s (Yc.mp e).1) XL.keeps (by rfl) (by rfl) (by rfl) (λs e=>recFacts_of (Yc.mp e).2) (by rfl) said (by decide +kernel) ⟨rfl,rfl,rfl,rfl,rfl,by decide +kernel⟩ (by w_witness2) ?hc
 refine HD.ER (l:=PySem.Challenge.rw_nearland_k33_turned_over) (n:=63) (k:=8) (x:= "_law_script") (CX:=L2.eL) (sp:=λK=>L3.qz K Pf.Fb) rfl (by decide) rfl ⟨rfl,by decide,by decide⟩ (λw mg fa h Y G hmg=>Pf.all_mk Y G hmg) (λK H a ns hl hb hO hS=>L3.GC hl hb hO hS) (λ_ _ _ _ z=>z)
