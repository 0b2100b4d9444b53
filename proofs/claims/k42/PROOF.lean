import PyProof.Rows.All
import Wide.All
import OpenK.AllK
import Wide.FinOn
import Lean
import PyProof.EqAt
import PyProof.EqKinds
import PyProof.TupleCall
import PySem.Challenge.RW_nearland_k42_put_in
set_option Elab.async false
set_option linter.all false
set_option maxRecDepth 100000
open Bool renaming false_eq_true->aaD,false_ne_true->aaE,and_eq_true->aa6,eq_iff_iff->aa8,not_true->abk,not_eq_true'->abt,and_eq_true_iff->abD,not_false->abS,false_and->acI,and_true->acS,eq_false_iff->acY,and_false->adp,or_false->ady,or_true->adF,or_eq_true->adN,and_assoc->adR
open Classical renaming byContradiction->aaq
open Int renaming mul_nonneg->aaB,mul_nonpos_of_nonneg_of_nonpos->aaJ,mul_nonpos_of_nonpos_of_nonneg->aaM,le_of_lt->aaO,mul_nonneg_of_nonpos_of_nonpos->aaS,mul_pos->aaT,mul_eq_zero->aaU,mul_le_mul_of_nonneg_right->aa2,mul_sub->aa3,mul_neg_of_pos_of_neg->aa9,sign_eq_one_of_pos->aba,mul_zero->abe,mul_neg_of_neg_of_pos->abj,le_refl->abr,lt_or_lt_of_ne->abv,lt_trichotomy->abw,lt_or_gt_of_ne->abA,sign_eq_neg_one_of_neg->abH,mul_pos_of_neg_of_neg->abK,emod_lt_of_pos->abM,mul_le_mul_of_nonneg_left->abP,mul_comm->abQ,emod_nonneg->abX,le_total->ab1,sign_eq_one_iff_pos->ab2,zero_mul->ab3,add_zero->acd,neg_mul->acj,neg_mul_neg->ack,sign_eq_neg_one_iff_neg->acK,lt_or_eq_of_le->acM,mul_one->acN,one_mul->acO,le_of_mul_le_mul_right->acP,toNat_natCast->acQ,eq_of_mul_eq_mul_left->acZ,sign_neg->ac7,lt_or_le->ade,zero_add->adD
open List renaming mem_cons_of_mem->aar,length_map->aas,mem_cons->aat,getElem?_eq_getElem->aau,mem_singleton->aav,mem_filter->aaw,size_toArray->aax,length_append->aaA,mem_of_getElem?->aaC,mem_append->aaF,mem_cons_self->aaG,mem_append_left->aaH,mem_map->aaI,map_append->aaK,pairwise_cons->aaL,mem_append_right->aaP,getElem?_eq_some_iff->aaQ,nodup_cons->aaR,map_cons->aaV,length_reverse->aaW,length_cons->aaX,perm_append_comm->aaY,getD_eq_getElem?_getD->aaZ,getElem?_map->aa0,nodup_append->aa1,take_length->aa4,not_mem_nil->aa7,lookup_cons->abb,mem_flatMap->abc,mem_reverse->abd,append_nil->abf,mem_range->abg,all_eq_true->abh,flatMap_cons->abl,length_dropLast->abm,getLast?_eq_some_getLast->abn,reverse_cons->abq,getElem?_eq_none->aby,length_filter_le->abz,length_take->abB,length_drop->abC,mem_of_getLast?->abE,getElem?_set_self->abG,filter_cons->abI,getLast?_reverse->abJ,zip_cons_cons->abL,ne_nil_of_mem->abN,mem_of_mem_take->abO,flatMap_append->abR,getElem?_append_right->abT,getElem?_zipWith->abV,length_nil->abW,getElem?_append_left->abY,getElem?_set_ne->abZ,toList_toArray->ab0,head?_reverse->ab4,forIn_cons->ab5,mem_of_mem_head?->ab7,mem_iff_getElem?->ab8,perm_cons->ab9,pairwise_append->ace,all_cons->acf,drop_eq_getElem_cons->acg,length_zipWith->aci,mem_filterMap->acm,zip_nil_right->acn,forIn_nil->acq,take_succ->acr,mapM_toArray->acs,pairwise_lt_range->acv,length_singleton->acw,any_cons->acy,all_toArray->acz,reverse_reverse->acB,all_map->acD,filterMap_cons->acF,dropLast_concat_getLast->acG,length_pos_iff->acH,nodup_nil->acJ,pairwise_iff_getElem->acR,pairwise_map->acT,exists_mem_of_ne_nil->acU,append_assoc->acV,getLast?_eq_getElem?->acW,reverse_perm->acX,getElem?_take_of_lt->ac1,length_erase_of_mem->ac2,zipIdx_cons->ac3,getElem_mem->ac4,any_eq_true->ac5,getElem?_replicate->ac6,map_map->ac8,getElem?_cons_zero->ac9,filter_cons_of_neg->ada,filter_cons_of_pos->adb,of_mem_zip->adf,take_of_length_le->adg,drop_of_length_le->adh,zipIdx_nil->adk,range_succ->adl,length_pos_of_mem->adm,find?_cons->adn,pairwise_reverse->ado,drop_zero->adq,mem_iff_getElem->adt,mem_erase_of_ne->adu,mem_of_mem_drop->adw,dropLast_subset->adx,mergeSort_perm->adA,contains_cons->adC,any_eq_false->adG,take_sublist->adH,ext_getElem?->adI,length_range->adJ,map_snd_zip->adL,perm_middle->adM,foldl_cons->adP,all_append->adQ,drop_drop->adS
open Nat renaming lt_of_lt_of_le->aay,le_refl->aaz,ne_of_lt->aaN,ne_of_gt->aa5,le_add_right->abi,le_trans->abo,zero_le->abp,lt_irrefl->abu,lt_succ_of_lt->abx,le_succ->abU,add_lt_add_left->ach,le_of_lt->aco,lt_or_ge->acp,not_lt->acu,lt_succ_self->acA,le_of_eq->acC,min_self->acE,lt_or_gt_of_ne->acL,not_lt_zero->adi,pow_le_pow_right->ads,add_assoc->adz,eq_zero_or_pos->adB,sub_zero->adE,min_eq_left->adO
open Option renaming map_eq_some_iff->abF,isSome_iff_exists->ac0,getD_none->adK
namespace HD
open PySem PySem.W PySem.Calls
def HZ(p:Program)(w:World)(n₀:Nat)(ann:Option Value):Nat->SharedT->Thread->Option SharedT
 |0,_,_=>none
 |n+1,s,t=>match through t with
  |true=>some s
  |false=>match stepOk n₀ ann t with
   |false=>none
   |true=>match stepT (denote treeTable) p w s t with
    |some (s',t')=>HZ p w n₀ ann n s' t'
    |none=>none
theorem BR{p:Program}{w:World}{n₀:Nat}{ann:Option Value}:∀{n:Nat} {s s':SharedT} {t:Thread},HZ p w n₀ ann n s t=some s'->topRun treeTable p w n₀ ann n s.abs t=some s'.abs
 |0,_,_,_,h=>nomatch h
 |n+1,s,s',t,h=>by
  unfold HZ at h
  unfold topRun
  cases a:through t with
  |true=>rw[a]at h;cases h;rfl
  |false=>
   rw[a]at h
   dsimp only at h ⊢
   cases b:stepOk n₀ ann t with
   |false=>rw[b]at h;cases h
   |true=>
    rw[b]at h
    dsimp only at h ⊢
    cases c:stepT (denote treeTable) p w s t with
    |none=>rw[c]at h;cases h
    |some x=>
     obtain⟨s1,t1⟩:=x
     rw[c]at h
     rw[stepT_spec c]
     exact BR h
noncomputable def Et(P:Params):BT:=((boot_heap P).objs.toList.foldl (λx o=>(x.1.ins x.2 o,x.2+1)) (BT.nil,0)).1
theorem CZ(P:Params):absHeap (Et P) 11 (boot_heap P).life=boot_heap P:=by kernel_rfl
theorem C3(w:World):((boot_heap w.params).isNs mainGlobals && (#[]:Array GenState).size==0,(boot_heap w.params).objs.size,(boot_heap w.params).nsMap mainGlobals "__annotations__")=(true,11,some (.ref 6)):=by kernel_rfl
theorem C4{p q:Program}{loose:List Str}{Xt:Shared->Bool}{α:Type}{Yf:Shared->α}{Ya:World->α}{N M:Nat}(e:opening p=plainProg p.main.scope.names)(hN:Nat.ble 600 N=true)(f:∀s,fenceModules? p s=some s)(le:Nat.ble M N=true)
 (run:∀(w:World) (os:OsState),(HZ p w 11 (some (.ref 6)) M ⟨Et w.params,11,(boot_heap w.params).life,#[],boot_drawn,boot_toks,os⟩ (topStub p)).map (λsT=>
  (staticsOk (importedModules p.main.body) (boot_heap w.params) sT.abs.heap && namesBound p sT.abs.heap && gensDone sT.abs && laidKept (boot_heap w.params) sT.abs.heap,openSeen q loose (importedModules p.main.body) Xt true sT.abs,Yf sT.abs))=some (true,openGood q loose,Ya w)):LeftO p q loose Xt Yf Ya N:=λw=>by
 obtain⟨⟨h,gs,d,k,os⟩,e,e'⟩:=abF.mp (boot_open e hN f w)
 obtain⟨rfl,rfl,rfl,rfl⟩:h=boot_heap w.params/\gs=Array.mk []/\d=boot_drawn/\k=boot_toks:=by simpa using e'
 obtain⟨z1,z2,z3⟩:_/\_/\_:=by simpa only[Prod.mk.injEq]using C3 w
 obtain⟨sT,e1,e2⟩:=abF.mp (run w os)
 obtain⟨l1,l2,l3⟩:_/\_/\_:=by simpa only[Prod.mk.injEq]using e2
 have r:=topRun_mono (N-M) _ _ _ _ (BR e1)
 rw[show M+(N-M)=N by have:=Nat.le_of_ble_eq_true le;omega]at r
 have a:SharedT.abs ⟨Et w.params,11,(boot_heap w.params).life,#[],boot_drawn,boot_toks,os⟩= ⟨boot_heap w.params,Array.mk [],boot_drawn,boot_toks,os⟩:=by
  unfold SharedT.abs
  dsimp only
  rw[CZ]
 rw[a]at r
 have t:topFrom treeTable p w N ⟨boot_heap w.params,Array.mk [],boot_drawn,boot_toks,os⟩=some sT.abs:=by
  unfold topFrom
  dsimp only
  rw[z1,z2,z3,r]
  show(match staticsOk (importedModules p.main.body) (boot_heap w.params) sT.abs.heap && namesBound p sT.abs.heap && gensDone sT.abs && laidKept (boot_heap w.params) sT.abs.heap with|true=>_|false=>_)=_
  rw[l1]
 unfold openEnds
 rw[e]
 show(topFrom treeTable p w N _).map _=_
 rw[t]
 exact congrArg some (Prod.ext l2 l3)
def dA(s:Stmt):Arguments:=match s with
 | .FunctionDef _ a _ _ _ _ _ _ _ _=>a
 |_=>{posonlyargs:=[],args:=[],vararg:=none,kwonlyargs:=[],kw_defaults:=[],kwarg:=none,defaults:=[]}
def dB(s:Stmt):List Stmt:=match s with
 | .FunctionDef _ _ b _ _ _ _ _ _ _=>b
 |_=>[]
def dS(s:Stmt):Scope:=match s with
 | .FunctionDef _ _ _ _ _ _ sc _ _ _=>sc
 |_=>{kind:= .function,names:=[],isGenerator:=false,isCoroutine:=false}
abbrev pr(n:Str)(st:Stmt):Str ×Stmt:=(n,st)
def Lk(h:Heap)(n:Str):Option (Option Value):=match h.get? mainGlobals with
 |some o=>nsIn [(mainGlobals,o)] mainGlobals n
 |none=>none
def fnAt(h:Heap)(n:Str):Option (Addr ×FuncData):=match Lk h n with
 |some (some (.ref f))=>(match h.get? f with
  |some ⟨_,_,.func fd,_⟩=>some (f,fd)
  |_=>none)
 |_=>none
def jq(h:Heap)(v:Value):Option Str:=match v with
 | .ref c=>(match h.get? c with
   |some ⟨_,_,.fields vs,_⟩=>(match vs.toList with
    |_:: .str q _::_=>some q
    |_=>none)
   |_=>none)
 |_=>none
def blank(fd:FuncData):FuncData:={fd with kwdefaults:= .none,doc:= .none,pyModule:= .none,annotations:=none,code:= .none,closureTuple:= .none}
abbrev Seen:=List (Option (FuncData ×Option Str)) ×List (Option (Option Value))
def Ll(fs:List (Str ×Stmt))(bs:List Str)(s:Shared):Seen:=
 (fs.map λp=>(fnAt s.heap p.1).map λx=>(blank x.2,jq s.heap x.2.code),bs.map λb=>Lk s.heap b)
def good(fs:List (Str ×Stmt))(bs:List Str):Seen:=
 (fs.map λp=>some (fnOf p.1 p.1 (dA p.2) (dB p.2) (dS p.2) .none .none .none .none none .none .none,some p.1),bs.map λ_=>some none)
def yy(h:Heap):List Addr->Frag
 |[]=>[]
 |a::r=>match h.get? a with
  |some o=>(a,o)::yy h r
  |none=>yy h r
def adr(h:Heap)(n:Str):List Addr:=match fnAt h n with
 |some (f,fd)=>f::(match fd.code with| .ref c=>[c]|_=>[])
 |none=>[]
def Og(h:Heap)(fs:List (Str ×Stmt)):List Addr:=mainGlobals::fs.flatMap λp=>adr h p.1
end HD
namespace HD
open PySem PySem.W PySem.Calls
def Wo(s:Stmt)(j:Nat):Stmt:=match s with
 | .ClassDef _ _ _ b _ _ _ _ _ _ _=>b.getD j (.Pass ⟨0,0,0,0⟩)
 |s=>s
def clsAt(h:Heap)(n:Str):Option (Addr ×ClassData):=match Lk h n with
 |some (some (.ref C))=>(match h.get? C with
  |some ⟨_,_,.cls cd,_⟩=>some (C,cd)
  |_=>none)
 |_=>none
def RT(h:Heap)(n:Str):List Addr:=match clsAt h n with
 |some (C,cd)=>[C,cd.ns]
 |none=>[]
def Eu(h:Heap)(n:Str):Option (Addr ×FuncData):=match clsAt h n with
 |some (_,cd)=>(match h.get? cd.ns with
  |some o=>(match nsIn [(cd.ns,o)] cd.ns "__init__" with
   |some (some (.ref i))=>(match h.get? i with
    |some ⟨_,_,.func fd,_⟩=>some (i,fd)
    |_=>none)
   |_=>none)
  |none=>none)
 |none=>none
def Ia(h:Heap)(n:Str):List Addr:=match Eu h n with
 |some (i,fd)=>i::(match fd.code with| .ref c=>[c]|_=>[])
 |none=>[]
def mO(h:Heap)(fs:List (Str ×Stmt))(cs:List Str)(R:Str):List Addr:=Og h fs++(cs.flatMap (RT h)++Ia h R)
def C5(r:Option (Option Value))(s:String):Bool:=match r with
 |some (some (.builtin x))=>x==s
 |_=>false
def Ra(r:Option (Option Value)):Bool:=match r with
 |some none=>true
 |_=>false
def Ib(r:Option (Option Value))(a:Addr):Bool:=match r with
 |some (some (.ref x))=>x==a
 |_=>false
def HQ(r:Option Bool)(b:Bool):Bool:=match r with
 |some x=>x==b
 |none=>false
abbrev yB:List Value:=[.type "ValueError",.type "Exception",.type "BaseException",.type "object"]
def yT(K:Frag)(C:Addr):Bool:=match K.lookup C with
 |some ⟨.type "type",_,.cls cd,sl⟩=>(match cd.mro,sl.toList with
  | .ref C'::bm,[_,_,_,_,some (.builtin n),_]=>C'==C && n== "ValueError.__new__" && !cd.hasDel && tailIn K yB bm
  |_,_=>false)
 |_=>false
def yV:List Value->Bool
 | .ref _::r=>yV r
 |l=>l==yB
def RU(K:Frag)(C:Addr):Bool:=(clsIn K C).any λcd=>yV cd.mro && cd.hasDict
def Ew(K:Frag)(cs:List Str)(R at_:Str)(ad:Str->Addr)(i:Addr):List Bool:=
 [C5 (findIn K (.ref (ad R)) "__getattribute__") "BaseException.__getattribute__",Ra (findIn K (.ref (ad R)) "__getattr__"),C5 (findIn K (.ref (ad R)) "__class__") "object.__class__",
  HQ (subIn K (.ref (ad R)) (.type "BaseException")) true,HQ (mroIn K (ad R) (.type "object")) true,isClsIn K (ad R),yT K (ad R),C5 (specialIn K (.ref (ad R)) "__call__") "type.__call__",
  HQ (instIn K (.ref (ad R)) (.type "type")) true,keepIn K (.ref (ad R)),hasDictIn K (ad R),RU K (ad R),C5 (findIn K (.ref (ad R)) "__setattr__") "object.__setattr__",
  Ib (findIn K (.ref (ad R)) "__init__") i,isFn K (.ref i),keepIn K (.ref i),Ra (findIn K (.ref (ad R)) at_),HQ (kitOne K (.ref (ad R)) (.type "ValueError")) true,
  yT K (ad "NearError"),HQ (subIn K (.ref (ad "NearError")) (.type "BaseException")) true,HQ (subIn K (.ref (ad R)) (.ref (ad "NearError"))) true,HQ (subIn K (.ref (ad R)) (.ref (ad R))) true] ++
 cs.map λc=>Ib (nsIn K mainGlobals c) (ad c) && HQ (kitOne K (.ref (ad R)) (.ref (ad c))) (c==R || c== "NearError")
def Lm(h:Heap)(c:Str):Addr:=match clsAt h c with
 |some (C,_)=>C
 |none=>0
def Ln(h:Heap)(fs:List (Str ×Stmt))(cs:List Str)(R at_:Str):Bool:=match Eu h R with
 |some (i,_)=>(Ew (yy h (mO h fs cs R)) cs R at_ (Lm h) i).all id
 |none=>false
abbrev Kw:=Seen ×Option (FuncData ×Option Str) ×Bool
def Lo(fs:List (Str ×Stmt))(bs cs:List Str)(R at_:Str)(s:Shared):Kw:=
 (Ll fs bs s,(Eu s.heap R).map λx=>(blank x.2,jq s.heap x.2.code),Ln s.heap fs cs R at_)
def good2(fs:List (Str ×Stmt))(bs:List Str)(qn:Str)(st:Stmt):Kw:=
 (good fs bs,some (fnOf "__init__" qn (dA st) (dB st) (dS st) .none .none .none .none none .none .none,some qn),true)
end HD
namespace  Pf
open PySem PySem.W PyProof.Rows
def top(i:Nat):Stmt:=PySem.Challenge.pw_nearland_k42_put_in.main.body.getD i (.Pass ⟨0,0,0,0⟩)
abbrev jD:Stmt:=top 35
abbrev ku:Stmt:=top 36
abbrev iZ:Stmt:=top 37
abbrev m8:Stmt:=top 38
abbrev Am:Stmt:=top 9
abbrev wA:Stmt:=top 11
abbrev An:Stmt:=top 12
abbrev i0:Stmt:=top 24
abbrev gB:Stmt:=top 32
abbrev kB:Stmt:=top 18
abbrev wB:Stmt:=top 19
abbrev Ao:Stmt:=top 20
abbrev rM:Stmt:=top 21
abbrev kC:Stmt:=top 27
abbrev jE:Stmt:=top 33
abbrev Aq:Stmt:=top 23
abbrev rN:Stmt:=top 25
abbrev cQ:Stmt:=top 26
abbrev gY:Stmt:=top 14
abbrev pA:Stmt:=top 15
abbrev gC:Stmt:=top 16
abbrev eU:Stmt:=top 29
abbrev gZ:Stmt:=top 30
abbrev fL:Stmt:=top 42
abbrev jF:Stmt:=top 39
abbrev i6:Stmt:=top 40
abbrev i7:Stmt:=top 41
abbrev c9:Stmt:=top 43
abbrev dD:Stmt:=top 44
abbrev u7:Stmt:=top 45
def view:Program:={PySem.Challenge.pw_nearland_k42_put_in with main:={PySem.Challenge.pw_nearland_k42_put_in.main with body:=[top 45]}}
def loose:List Str:=(["NearError","NoNumber","Flat","Twice","NoPlace","Stiff","Crossed","sign","twice","turn","without_bays","outline","outline_sides","ring_area","apart","ring","spoils","back","triangle_of","rounds","directed_sides","is_spoilt","seen_sides","put_in","all_triangles","by_rings","_law_given","_law_spot","_law_ground","_law_new","_law_twice","_law_within","_law_spoils","_law_triangles","_law_is_net","_law_twice_refused"]:List String).map Str.ofString
def fs:List (Str ×Stmt):=[HD.pr "_law_given" jD,HD.pr "_law_spot" ku,HD.pr "_law_ground" iZ,HD.pr "_law_new" m8,HD.pr "sign" Am,HD.pr "twice" wA,HD.pr "turn" An,HD.pr "triangle_of" i0,HD.pr "all_triangles" gB,HD.pr "ring_area" kB,HD.pr "apart" wB,HD.pr "ring" Ao,HD.pr "spoils" rM,HD.pr "is_spoilt" kC,HD.pr "by_rings" jE,HD.pr "back" Aq,HD.pr "rounds" rN,HD.pr "directed_sides" cQ,HD.pr "without_bays" gY,HD.pr "outline" pA,HD.pr "outline_sides" gC,HD.pr "seen_sides" eU,HD.pr "put_in" gZ,HD.pr "_law_triangles" fL,HD.pr "_law_twice" jF,HD.pr "_law_within" i6,HD.pr "_law_spoils" i7,HD.pr "_law_is_net" c9,HD.pr "_law_twice_refused" dD,HD.pr "law" u7]
def bs:List Str:=["len","range","sorted","list","reversed","zip","isinstance","tuple","bool","min","ValueError"]
def cs:List Str:=["NearError","NoNumber","Flat","Twice","NoPlace","Stiff","Crossed"]
abbrev jr:Stmt:=HD.Wo (top 4) 0
set_option maxHeartbeats 0 in
theorem said:PySem.Challenge.rw_nearland_k42_put_in.wellSaid=true:=by
 unfold OpenLaw.wellSaid OpenRow.wellSaid OpenRow.partSaid looksOpen
 repeat' (with_reducible refine look_both ?_ ?_)
 all_goals decide +kernel
set_option maxHeartbeats 0 in
theorem left:LeftO PySem.Challenge.rw_nearland_k42_put_in.row.prog view loose (λs=>xlAt view [] s && recOk (RowW.records (OpenRow.toRowW PySem.Challenge.rw_nearland_k42_put_in.row)) s) (HD.Lo fs bs cs "Twice" "place") (λ_=>HD.good2 fs bs "Twice.__init__" jr) 5936:=HD.C4 (M:=2718) (by kernel_rfl) (by kernel_rfl) (λs=>by kernel_rfl) (by kernel_rfl) (λw os=>by kernel_rfl)
end Pf
namespace L2
open PySem PySem.Spec PyProof.Rows
abbrev Key:=Sum Int Str
def Kx:Key->Value->Bool
 | .inl k,v=>Value.isInt k v
 | .inr x,v=>Value.isStrOf x v
def RV(w:World):Key->Int
 | .inl k=>hashInt k
 | .inr x=>hashStr w x
theorem cD:∀{k:Key} {v:Value},Kx k v=true->(∃i t,k=Sum.inl i/\v=Value.int i t)\/(∃x t,k=Sum.inr x/\v=Value.str x t)
 | .inl i,v,h=>by
   obtain⟨t,e⟩:=Value.isInt_shape (k:=i) (v:=v) h
   exact .inl ⟨i,t,rfl,e⟩
 | .inr x,v,h=>by
   obtain⟨t,e⟩:=Value.isStrOf_shape (x:=x) (v:=v) h
   exact .inr ⟨x,t,rfl,e⟩
theorem Lp(a b:Int):decide ((Sum.inl a:Key)=Sum.inl b)=(a==b):=by
 by_cases e:a=b
 ·subst e;simp
 ·have h:¬(Sum.inl a:Key)=Sum.inl b:=λq=>e (Sum.inl.inj q)
  rw[decide_eq_false h]
  exact(beq_eq_false_iff_ne.mpr e).symm
theorem Lq(a b:Str):decide ((Sum.inr a:Key)=Sum.inr b)=decide (a=b):=by
 by_cases e:a=b
 ·subst e;simp
 ·have h:¬(Sum.inr a:Key)=Sum.inr b:=λq=>e (Sum.inr.inj q)
  rw[decide_eq_false h,decide_eq_false e]
theorem Lr(a:Int)(b:Str):decide ((Sum.inl a:Key)=Sum.inr b)=false:=decide_eq_false (λq=>nomatch q)
theorem Ls(a:Str)(b:Int):decide ((Sum.inr a:Key)=Sum.inl b)=false:=decide_eq_false (λq=>nomatch q)
def BS(prog:Program)(w:World):PySem.KeyKind prog w Key where
 is:=Kx
 hash:=RV w
 inj:=λv a b ha hb=>by
  rcases cD ha with⟨i,t,rfl,rfl⟩|⟨x,t,rfl,rfl⟩
  ·rcases cD hb with⟨j,u,rfl,e⟩|⟨y,u,rfl,e⟩
   ·injection e with e1 _;rw[e1]
   ·exact nomatch e
  ·rcases cD hb with⟨j,u,rfl,e⟩|⟨y,u,rfl,e⟩
   ·exact nomatch e
   ·injection e with e1 _;rw[e1]
 byValue:=λk v h=>by
  rcases cD h with⟨i,t,rfl,rfl⟩|⟨x,t,rfl,rfl⟩<;>rfl
 pyHash:=λhv h=>by
  rcases cD hv with⟨i,t,rfl,rfl⟩|⟨x,t,rfl,rfl⟩
  ·exact wpAny_pyHash_int h
  ·exact wpAny_pyHash_str h
 eqBool:=λhu hv h=>by
  rcases cD hu with⟨i,t,rfl,rfl⟩|⟨x,t,rfl,rfl⟩
  ·rcases cD hv with⟨j,u,rfl,rfl⟩|⟨y,u,rfl,rfl⟩
   ·rw[Lp]at h;exact wpAny_eqBool_int h
   ·rw[Lr]at h;exact SeqAt.EqAt.int_str i t y u _ _ _ _ h
  ·rcases cD hv with⟨j,u,rfl,rfl⟩|⟨y,u,rfl,rfl⟩
   ·rw[Ls]at h;exact SeqAt.EqAt.str_int x t j u _ _ _ _ h
   ·rw[Lq]at h;exact wpAny_eqBool_str h
 «strs» :=λk x t v h=>by
  rcases cD h with⟨i,u,rfl,e⟩|⟨y,u,rfl,e⟩
  ·exact nomatch e
  ·injection e with e1 _
   subst e1
   cases v<;>rfl
end L2
namespace L2
open PySem PySem.Spec PyProof.Rows
inductive V where
 |bJ|bl (b:Bool)|int (i:Int)|str (x:Str)|Ei (b:Array UInt8)|Lu (b:UInt64)|ref (a:Addr)|ty (n:String)
 deriving DecidableEq
def RelV:V->Value->Prop
 | .bJ,u=>u=Value.none
 | .bl b,u=>u=Value.bool b
 | .int i,u=>∃t,u=Value.int i t
 | .str x,u=>∃t,u=Value.str x t
 | .Ei b,u=>∃t,u=Value.bytes b t
 | .Lu b,u=>∃t,u=Value.float b t
 | .ref a,u=>u=Value.ref a
 | .ty n,u=>u=Value.type n
abbrev Vals:List V->List Value->Prop:=Paired RelV
theorem Vals.length{xs:List V}{us:List Value}(r:Vals xs us):xs.length=us.length:=Paired.length r
theorem Vals.get:∀{xs:List V} {us:List Value} {i:Nat} {x:V},Vals xs us->xs[i]?=some x->∃u,us[i]?=some u/\RelV x u
 |_,_,_,_,.nil,e=>by simp at e
 |_,_,0,_,.cons r _,e=>by simp at e;subst e;exact⟨_,rfl,r⟩
 |_,_,i+1,x,.cons _ t,e=>by
  obtain⟨u,h1,h2⟩:=Vals.get (i:=i) (x:=x) t (by simpa using e)
  exact⟨u,by simpa using h1,h2⟩
theorem Vals.append:∀{xs ys:List V} {us ws:List Value},Vals xs us->Vals ys ws->Vals (xs++ys) (us++ws)
 |_,_,_,_,.nil,s=>s
 |_,_,_,_,.cons r t,s=> .cons r (Vals.append t s)
theorem Vals.take:∀{xs:List V} {us:List Value} (n:Nat),Vals xs us->Vals (xs.take n) (us.take n)
 |_,_,0,_=> .nil
 |_,_,_+1,.nil=> .nil
 |_,_,n+1,.cons r t=> .cons r (Vals.take n t)
theorem Vals.drop:∀{xs:List V} {us:List Value} (n:Nat),Vals xs us->Vals (xs.drop n) (us.drop n)
 |_,_,0,r=>r
 |_,_,_+1,.nil=> .nil
 |_,_,n+1,.cons _ t=>Vals.drop n t
def C6:Option V->Option Value->Prop
 |some v,some u=>RelV v u
 |none,none=>True
 |_,_=>False
def KV{κ:Type}:List (κ ×V)->List (κ ×Value)->Prop:=Paired λ(p:κ ×V) (q:κ ×Value)=>p.1=q.1/\RelV p.2 q.2
def kV:Key->V
 | .inl i=> .int i
 | .inr x=> .str x
inductive HO where
 |lst (xs:List V)
 |tup (xs:List V)
 |dK (kvs:List (Key ×V))|dT (kvs:List (List Key ×V))
 |set (S:Int->Bool) (n:Nat)
 |ins (C dx:Addr) (fs:List (Str ×V))
 |own (x:Addr)
 |xd (fs:List (Str ×V))
 |met (f x:Addr)
 |Rb (lo hi:Int)
 |gm (o:Obj) (u:HO)
 |Ky (ps:Array Value)
 |ext (φ:Heap->Prop)
abbrev Hp:=Addr->Option HO
def upd(H:Hp)(a:Addr)(o:HO):Hp:=λb=>if b=a then some o else H b
theorem bu{H:Hp}{a:Addr}{o:HO}:upd H a o a=some o:=by unfold upd;rw[if_pos rfl]
theorem aE{H:Hp}{a b:Addr}{o:HO}(h:b≠a):upd H a o b=H b:=by unfold upd;rw[if_neg h]
theorem BU{H:Hp}{a b:Addr}{o u:HO}(h:H a=some o)(h':H b=some u)(d:o≠u):a≠b:=by
 intro e;subst e;rw[h]at h';exact d (Option.some.inj h')
theorem bF{H:Hp}{a b:Addr}{o:HO}(h:H a=some o)(h':H b=none):a≠b:=by
 intro e;subst e;rw[h]at h';cases h'
section
variable(P:Program)(w:World)
def cj(H:Hp)(h:Heap)(a:Addr):HO->Prop
 | .lst xs=>xs.length<=sizeLine/\∃(its:List Value) (n:Nat),Vals xs its/\h.get? a=some {cls:= .type "list",data:= .seq its.toArray n}
 | .tup xs=>xs.length<=sizeLine/\∃its:List Value,Vals xs its/\IsTup h a its.toArray
 | .dK kvs=>kvs.length<=sizeLine/\(a==sysModules)=false/\∃vs,KV kvs vs/\h.DictOf (BS P w) a vs
 | .dT kvs=>kvs.length<=sizeLine/\(a==sysModules)=false/\∃xs:List (List Key ×Addr ×Value),
  Paired (λ(p:List Key ×V) (q:List Key ×Addr ×Value)=>p.1=q.1/\H q.2.1=some (.tup (p.1.map kV))/\RelV p.2 q.2.2) kvs xs/\
  ∃o es ep,h.get? a=some o/\o.ExactDict/\o.data= .dict es ep/\es.toList=xs.map (entryOfKey (tupleKind (BS P w)))/\(xs.map (·.1)).Nodup
 | .set S n=>h.SetOf (intKind P w) a S n
 | .ins C dx fs=>H dx=some (.own a)/\fs.length<=1000/\dx≠a/\h.get? a=some (PySem.W.instObj C dx)/\
  ∃mA,h.Ns1 dx mA/\(∀f,C6 (fs.lookup f) (mA f))/\PySem.Within mA (fs.map (·.1))
 | .own _=>∃o,h.get? a=some o
 | .xd fs=>∃mA,h.Ns1 a mA/\∀f,C6 (fs.lookup f) (mA f)
 | .Rb lo hi=>∃t u v,h.get? a=some {cls:= .type "range",data:= .fields #[.int lo t,.int hi u,.int 1 v]}
 | .gm o u=>h.get? a=some o/\cj H h a u
 | .Ky ps=>h.get? a=some {cls:= .none,data:= .fields ps}
 | .met f x=>h.get? a=some (PySem.W.methodObj (.ref f) (.ref x))
 | .ext φ=>φ h/\(∃o,h.get? a=some o)/\∀h1 h2:Heap,φ h1->(∀o,h1.get? a=some o->h2.get? a=some o)->φ h2
def iR(H:Hp)(h:Heap):Prop:= ∀a o,H a=some o->cj P w H h a o
end
section
variable{P:Program}{w:World}{H H':Hp}{h h':Heap}{a:Addr}{o:HO}
theorem cj.lt(x:cj P w H h a o):a<h.objs.size:=by
 cases o with
 |lst xs=>obtain⟨_,_,_,_,e⟩:=x;exact Heap.lt_size e
 |tup xs=>obtain⟨_,_,_,p⟩:=x;exact p.lt
 |dK kvs=>obtain⟨_,_,_,_,o,_,_,e,_⟩:=x;exact Heap.lt_size e
 |dT kvs=>obtain⟨_,_,_,_,o,_,_,e,_⟩:=x;exact Heap.lt_size e
 |set S n=>obtain⟨o,_,_,_,e,_⟩:=x;exact Heap.lt_size e
 |ins C dx fs=>obtain⟨_,_,_,e,_⟩:=x;exact Heap.lt_size e
 |own y=>obtain⟨_,e⟩:=x;exact Heap.lt_size e
 |xd fs=>obtain⟨_,⟨_,_,_,e,_⟩,_⟩:=x;exact Heap.lt_size e
 |Rb lo hi=>obtain⟨_,_,_,e⟩:=x;exact Heap.lt_size e
 |gm ob u=>obtain⟨e,_⟩:=x;exact Heap.lt_size e
 |Ky ps=>exact Heap.lt_size (show h.get? a=some _ from x)
 |met f y=>exact Heap.lt_size (show h.get? a=some _ from x)
 |ext φ=>obtain⟨_,⟨_,e⟩,_⟩:=x;exact Heap.lt_size e
theorem Paired.Ic{α β:Type}{F G:α->β->Prop}:∀{l₁:List α} {l₂:List β},Paired F l₁ l₂->(∀a b,F a b->G a b)->Paired G l₁ l₂
 |_,_,.nil,_=> .nil
 |_,_,.cons r t,f=> .cons (f _ _ r) (Paired.Ic t f)
theorem cj.stay(x:cj P w H h a o)(k:∀b u,(b=a\/H b=some (.own a))->h.get? b=some u->h'.get? b=some u)
 (ho:∀b,H b=some (.own a)->H' b=some (.own a))(ht:∀b xs,H b=some (.tup xs)->H' b=some (.tup xs)):cj P w H' h' a o:=by
 induction o with
 |lst xs=>obtain⟨z,its,n,r,e⟩:=x;exact⟨z,its,n,r,k _ _ (.inl rfl) e⟩
 |tup xs=>obtain⟨z,its,r,ob,e,c⟩:=x;exact⟨z,its,r,ob,k _ _ (.inl rfl) e,c⟩
 |dK kvs=>obtain⟨z,y,vs,r,ob,es,ep,e,c⟩:=x;exact⟨z,y,vs,r,ob,es,ep,k _ _ (.inl rfl) e,c⟩
 |dT kvs=>
  obtain⟨z,y,xs,r,ob,es,ep,e,c⟩:=x
  exact⟨z,y,xs,Paired.Ic r λp q z=>⟨z.1,ht _ _ z.2.1,z.2.2⟩,ob,es,ep,k _ _ (.inl rfl) e,c⟩
 |set S n=>obtain⟨ob,es,ep,t,e,c⟩:=x;exact⟨ob,es,ep,t,k _ _ (.inl rfl) e,c⟩
 |ins C dx fs=>
  obtain⟨d,z,ne,e,mA,⟨od,es,ep,e2,c⟩,r⟩:=x
  exact⟨ho _ d,z,ne,k _ _ (.inl rfl) e,mA,⟨od,es,ep,k _ _ (.inr d) e2,c⟩,r⟩
 |own y=>obtain⟨ob,e⟩:=x;exact⟨ob,k _ _ (.inl rfl) e⟩
 |xd fs=>obtain⟨mA,⟨od,es,ep,e,c⟩,r⟩:=x;exact⟨mA,⟨od,es,ep,k _ _ (.inl rfl) e,c⟩,r⟩
 |Rb lo hi=>obtain⟨t,u,v,e⟩:=x;exact⟨t,u,v,k _ _ (.inl rfl) e⟩
 |gm ob u ih=>obtain⟨e,q⟩:=x;exact⟨k _ _ (.inl rfl) e,ih q⟩
 |Ky ps=>
  have e:h.get? a=some {cls:= .none,data:= .fields ps}:=x
  show h'.get? a=some {cls:= .none,data:= .fields ps}
  exact k a _ (.inl rfl) e
 |met f y=>
  have e:h.get? a=some (PySem.W.methodObj (.ref f) (.ref y)):=x
  show h'.get? a=some (PySem.W.methodObj (.ref f) (.ref y))
  exact k a _ (.inl rfl) e
 |ext φ=>obtain⟨p,⟨o,e⟩,st⟩:=x;exact⟨st _ _ p λo q=>k _ _ (.inl rfl) q,⟨o,k _ _ (.inl rfl) e⟩,st⟩
theorem iR.lt(x:iR P w H h)(e:H a=some o):a<h.objs.size:=(x a o e).lt
theorem iR.fresh(x:iR P w H h)(e:h.objs.size<=a):H a=none:=by
 cases q:H a with
 |none=>rfl
 |some u=>exact absurd (aay (x.lt q) e) (abu _)
theorem iR.kept(x:iR P w H h)(k:∀b u,h.get? b=some u->h'.get? b=some u):iR P w H h':=λa o e=>
 (x a o e).stay (λb u _ q=>k b u q) (λ_ q=>q) λ_ _ q=>q
theorem iR.laid(x:iR P w H h)(k:∀b u,h.get? b=some u->h'.get? b=some u)(hp:h.objs.size<=a)(new:cj P w (upd H a o) h' a o):iR P w (upd H a o) h':=λb u e=>by
 have hn:=x.fresh hp
 by_cases hb:b=a
 ·subst hb;rw[bu]at e;cases e;exact new
 ·rw[aE hb]at e
  exact(x b u e).stay (λc v _ q=>k c v q) (λc q=>by rw[aE (bF q hn)];exact q) λc xs q=>by rw[aE (bF q hn)];exact q
end
def Rd(H:Hp)(a:Addr)(u:HO):Prop:=H a=some u\/∃o,H a=some (.gm o u)
theorem Rd.ok{P:Program}{w:World}{H:Hp}{h:Heap}{a:Addr}{u:HO}(r:Rd H a u)(x:iR P w H h):cj P w H h a u:=by
 rcases r with r|⟨o,r⟩
 ·exact x a u r
 ·obtain⟨_,q⟩:=x a _ r
  exact q
def Rc:Option HO->Prop
 |some (.lst _)=>True
 |some (.dK _)=>True
 |some (.dT _)=>True
 |some (.set _ _)=>True
 |some (.ins _ _ _)=>True
 |some (.ext _)=>True
 |_=>False
section
variable{P:Program}{w:World}{H:Hp}{h h':Heap}{x e:Addr}{o':HO}
theorem iR.write(ok:iR P w H h)(mu:Rc (H x))(he:e=x\/H e=some (.own x))(k:∀b u,b≠e->h.get? b=some u->h'.get? b=some u)(NS:∃u,h'.get? e=some u)
 (new:cj P w (upd H x o') h' x o'):iR P w (upd H x o') h':=λb u q=>by
 have Oh:∀c y,H c=some (.own y)->c≠x:=λc y r z=>by subst z;rw[r]at mu;exact mu
 have RW:∀c xs,H c=some (.tup xs)->c≠x:=λc xs r z=>by subst z;rw[r]at mu;exact mu
 by_cases hb:b=x
 ·subst hb;rw[bu]at q;cases q;exact new
 ·rw[aE hb]at q
  by_cases Lv:b=e
  ·have q':H b=some (.own x):=by
    rcases he with z|z
    ·exact absurd (Lv.trans z) hb
    ·rw[Lv];exact z
   rw[q]at q';cases q'
   obtain⟨v,hv⟩:=NS
   exact⟨v,by rw[Lv];exact hv⟩
  ·refine(ok b u q).stay (λc v hc r=>k c v ?_ r) (λc r=>by rw[aE (Oh c b r)];exact r) λc xs r=>by rw[aE (RW c xs r)];exact r
   rcases hc with rfl|hc
   ·exact Lv
   ·rintro rfl
    rcases he with z|z
    ·exact Oh c b hc z
    ·rw[hc]at z;cases z;exact hb rfl
end
structure Un(fs ex:List Addr)(H H':Hp)(h h':Heap):Prop where
 keep:∀b o,h.get? b=some o->H b=none->b∉fs->b∉ex->h'.get? b=some o
 slot:∀b o,h.get? b=some o->H b=none->b∈fs->b∉ex->∃sl,h'.get? b=some {o with slots:=sl}
 free:∀b o,h.get? b=some o->H b=none->b∉ex->H' b=none
 there:∀b o,h.get? b=some o->b∉ex->∃o',h'.get? b=some o'
 tups:∀b xs,H b=some (.tup xs)->H' b=some (.tup xs)
 m9:∀b o u,H b=some (.gm o u)->H' b=some (.gm o u)
 nQ:∀b ps,H b=some (.Ky ps)->∃more,H' b=some (.Ky (ps++more))
section
variable{fs fs' ex ex':List Addr}{H H1 H2:Hp}{h h1 h2 h':Heap}{a x e:Addr}{o:HO}
theorem Un.any(u:Un fs ex H H1 h h1){b:Addr}{ob:Obj}(q:h.get? b=some ob)(n:H b=none)(hx:b∉ex):∃sl,h1.get? b=some {ob with slots:=sl}:=by
 by_cases hb:b∈fs
 ·exact u.slot b ob q n hb hx
 ·exact⟨ob.slots,u.keep b ob q n hb hx⟩
theorem Un.kept(k:∀b u,h.get? b=some u->h'.get? b=some u):Un fs ex H H h h':=
 ⟨λb ob q _ _ _=>k b ob q,λb ob q _ _ _=>⟨ob.slots,k b ob q⟩,λ_ _ _ n _=>n,λb ob q _=>⟨ob,k b ob q⟩,λ_ _ q=>q,λ_ _ _ q=>q,λ_ ps q=>⟨#[],by rw[q];simp⟩⟩
theorem Un.refl:Un fs ex H H h h:=Un.kept λ_ _ q=>q
theorem Un.laid(k:∀b u,h.get? b=some u->h'.get? b=some u)(hp:h.objs.size<=a)(hn:H a=none):Un fs ex H (upd H a o) h h' where
 keep:=λb u q _ _ _=>k b u q
 slot:=λb u q _ _ _=>⟨u.slots,k b u q⟩
 free:=λb u q n _=>by rw[aE (aaN (aay (Heap.lt_size q) hp))];exact n
 there:=λb u q _=>⟨u,k b u q⟩
 tups:=λb xs q=>by rw[aE (bF q hn)];exact q
 m9:=λb u xs q=>by rw[aE (bF q hn)];exact q
 nQ:=λb ps q=>⟨#[],by rw[aE (bF q hn),q];simp⟩
theorem Un.write(mu:Rc (H x))(he:e=x\/H e=some (.own x))(k:∀b u,b≠e->h.get? b=some u->h'.get? b=some u)(NS:∃u,h'.get? e=some u):Un fs ex H (upd H x o) h h':=by
 have hx:∀b,H b=none->b≠x:=λb n z=>by subst z;rw[n]at mu;exact mu
 have hb:∀b,H b=none->b≠e:=λb n z=>by
  subst z
  rcases he with r|r
  ·exact hx b n r
  ·rw[n]at r;cases r
 have hm:∀b u,H b=some u->¬Rc (some u)->b≠x:=λb u q nm z=>by subst z;rw[q]at mu;exact nm mu
 refine⟨λb u q n _ _=>k b u (hb b n) q,λb u q n _ _=>⟨u.slots,k b u (hb b n) q⟩,λb u q n _=>by rw[aE (hx b n)];exact n,λb u q _=>?_,
  λb xs q=>by rw[aE (hm b _ q λz=>z)];exact q,λb u xs q=>by rw[aE (hm b _ q λz=>z)];exact q,λb ps q=>⟨#[],by rw[aE (hm b _ q λz=>z),q];simp⟩⟩
 by_cases Lv:b=e
 ·subst Lv;exact NS
 ·exact⟨u,k b u Lv q⟩
end
def Rf(h:Heap)(H:Hp):List Addr:=(List.range h.objs.size).filter λa=>(H a).isSome
def wC(h:Heap)(H:Hp):Heap:=PySem.W.hideAll h (Rf h H)
theorem C7(h:Heap)(H:Hp):(wC h H).objs.size=h.objs.size:=PySem.W.hideAll_size _ _
theorem Ex{h:Heap}{H:Hp}{b:Addr}{o:Obj}(e:h.get? b=some o)(n:H b=none):(wC h H).get? b=some o:=
 PySem.W.hideAll_get _ e λhm=>by
  have q:(H b).isSome=true:=(aaw.mp hm).2
  rw[n]at q;simp at q
theorem Ie{h:Heap}{H:Hp}{b:Addr}{o:Obj}(e:(wC h H).get? b=some o):h.get? b=some o/\H b=none:=by
 have e':h.get? b=some o:=PySem.W.of_hideAll (Rf h H) e
 refine⟨e',?_⟩
 cases q:H b with
 |none=>rfl
 |some x=>
  have hm:b∈Rf h H:=aaw.mpr ⟨abg.mpr (Heap.lt_size e'),by simp[q]⟩
  have z:(wC h H).get? b=none:=PySem.W.hideAll_none (Rf h H) hm
  rw[z]at e;cases e
def Ig(g h:Heap)(L:Addr):List (Addr ×Obj):=(List.range h.objs.size).filterMap λa=>if a=L\/(g.get? a).isSome=true then none else(h.get? a).map λo=>(a,o)
def rest(g h:Heap)(L d:Addr):List (Addr ×Obj):=(Ig g h L).filter λp=>decide (p.1≠d)
end L2
namespace L2
open PySem PySem.Spec PyProof.Rows
structure Mod(K:PySem.W.Frag)(mg:Str->Option Value)(base:Heap):Prop where
 u9:K.In base
 glob:base.Ns mainGlobals mg
 blt:∃mb,base.Ns builtinsNs mb/\∀x:Str,x≠"__name__"->mb x=bootBuiltins x
 nolimit:base.NoLimit
structure Cx where
 prog:Program
 w:World
 K:PySem.W.Frag
 mg:Str->Option Value
 base:Heap
 A:Around
 N:List Str
 s₀:Shared
 H₀:Hp
 env:Env
 outer:List Env
 stack:List Env
 ex:List Addr
 fn:Str->Bool
 calm:Bool
 pn:List (Addr ×Obj)
 xe:Value->Shared->Prop
def frs(l:List Env):List Addr:=l.filterMap (·.frame)
abbrev Cx.fs(X:Cx):List Addr:=frs X.outer
def Rg(sc:Scope)(x:Str):Prop:=sc.names.lookup x=some .local\/sc.names.lookup x=some .cell\/sc.names.lookup x=some .free
def Loc(sc:Scope)(x:Str):Prop:=sc.names.lookup x=some .local\/sc.names.lookup x=some .cell
def Look(env:Env)(h:Heap)(m:Str->Option Value)(x:Str)(u:Value):Prop:=
 (env.kindOf x=some .local/\m x=some u)\/((env.kindOf x=some .cell\/env.kindOf x=some .free)/\∃c,env.cells.lookup x=some c/\h.IsCell c (some u))
structure Cx.Ok(X:Cx):Prop where
 mod:Mod X.K X.mg X.base
 kind:X.env.scope.kind= .function
 glob:X.env.globals=mainGlobals
 blt:X.env.builtins=builtinsNs
 above:X.s₀.heap.objs.size<=X.env.locals
 inj:∀x y c,X.env.cells.lookup x=some c->X.env.cells.lookup y=some c->x=y
 has:∀x,(X.env.kindOf x=some .cell\/X.env.kindOf x=some .free)->∃c,X.env.cells.lookup x=some c
 Lw:∀x c,X.fn x=true->X.env.cells.lookup x=some c->X.s₀.heap.objs.size<=c
 hd:X.calm=true->X.A.handled=none
 frames:X.A.frames=some X.stack
 stk:X.stack=X.outer\/(X.stack=X.env::X.outer/\X.env.frame=some X.env.locals)
 NT:∀b∈X.ex,b≠X.env.locals/\∀x c,X.env.cells.lookup x=some c->c≠b
 bs:∀b o,X.base.get? b=some o->X.s₀.heap.get? b=some o/\X.H₀ b=none
 HR:X.base.objs.size<=X.s₀.heap.objs.size
 Ar:∀b o,X.base.get? b=some o->b∉X.ex
 As:∀b∈X.ex,b∉X.fs
 nR:X.s₀.heap.FunFrames X.base X.outer
 Ih:∀b∈X.fs,X.H₀ b=none
structure Inv(X:Cx)(pins:List (Addr ×Obj))(σ:List (Option V))(H:Hp)(s:Shared):Prop where
 ok:X.Ok
 os:s.os=X.s₀.os
 bare:AllBare s.gens
 base:Un X.fs X.ex X.H₀ H X.s₀.heap s.heap
 loc:∃m,s.heap.Ns X.env.locals m/\∀(i:Nat) (x:Str) (v:V),X.N[i]?=some x->σ[i]?=some (some v)->Rg X.env.scope x->∃u,RelV v u/\Look X.env s.heap m x u
 cell:∀x c,X.env.cells.lookup x=some c->∃v,s.heap.IsCell c v
 free:H X.env.locals=none
 g9:∀x c,X.env.cells.lookup x=some c->H c=none
 pin:∀p∈X.pn++pins,s.heap.get? p.1=some p.2/\H p.1=none/\p.1≠X.env.locals/\p.1∉X.fs/\∀v,p.2.data≠ .cell v
 hok:iR X.prog X.w H s.heap
 len:σ.length=X.N.length
section
variable{X:Cx}{pins:List (Addr ×Obj)}{σ:List (Option V)}{H H':Hp}{s:Shared}{h':Heap}
theorem Cx.Ok.RX(ok:X.Ok){b:Addr}{o:Obj}(e:X.base.get? b=some o):b∉X.fs:=λhb=>by
 have:=(ok.nR.mem hb).1
 rw[e]at this;cases this
theorem Inv.bs(I:Inv X pins σ H s):∀b o,X.base.get? b=some o->s.heap.get? b=some o/\H b=none:=λb o e=>
 ⟨I.base.keep b o (I.ok.bs b o e).1 (I.ok.bs b o e).2 (I.ok.RX e) (I.ok.Ar b o e),I.base.free b o (I.ok.bs b o e).1 (I.ok.bs b o e).2 (I.ok.Ar b o e)⟩
theorem Inv.bk(I:Inv X pins σ H s):∀b o,X.base.get? b=some o->s.heap.get? b=some o:=λb o e=>(I.bs b o e).1
theorem Inv.mod(I:Inv X pins σ H s):Mod X.K X.mg X.base:=I.ok.mod
theorem Inv.nS(I:Inv X pins σ H s):X.K.In s.heap:=I.ok.mod.u9.keeps I.bk
theorem Inv.lt(I:Inv X pins σ H s):X.env.locals<s.heap.objs.size:=let ⟨_,hn,_⟩:=I.loc;hn.lt
theorem Inv.sz(I:Inv X pins σ H s):X.s₀.heap.objs.size<=s.heap.objs.size:=abo I.ok.above (aco I.lt)
theorem Inv.RY(I:Inv X pins σ H s){a:Addr}(h:s.heap.objs.size<=a):a∉X.fs:=λhb=>by
 obtain⟨_,o,ho,_⟩:=I.ok.nR.mem hb
 exact absurd (aay (Heap.lt_size ho) (abo I.sz h)) (abu _)
theorem Inv.Ey(I:Inv X pins σ H s):∀x c,X.env.cells.lookup x=some c->c≠X.env.locals:=λx c e z=>by
 obtain⟨v,o,ho,hd⟩:=I.cell x c e
 obtain⟨m,⟨o',es,ep,ho',hd',_⟩,_⟩:=I.loc
 rw[z,ho']at ho;cases ho;rw[hd']at hd;cases hd
theorem Inv.nR(I:Inv X pins σ H s):s.heap.FunFrames X.base X.outer:=by
 have all:∀(l:List Env),(∀b∈frs l,b∈X.fs)->X.s₀.heap.FunFrames X.base l->s.heap.FunFrames X.base l:=by
  intro l
  induction l with
  |nil=>intro _ _;trivial
  |cons env r ih=>
   intro hs hl
   obtain⟨hk,⟨L,o,hf,hn,ho,hd⟩,hr⟩:=hl
   have hL:L∈X.fs:=hs L (by unfold frs;rw[acF,hf];exact aaG)
   obtain⟨sl,e⟩:=I.base.slot L o ho (I.ok.Ih L hL) hL λz=>I.ok.As L z hL
   exact⟨hk,⟨L,_,hf,hn,e,hd⟩,ih (λb hb=>hs b (by unfold frs;rw[acF,hf];exact aar _ hb)) hr⟩
 exact all X.outer (λ_ hb=>hb) I.ok.nR
theorem Inv.stack(I:Inv X pins σ H s):s.heap.FunFrames X.base X.stack:=by
 rcases I.ok.stk with e|⟨e,hf⟩
 ·rw[e];exact I.nR
 ·rw[e]
  obtain⟨m,hn,_⟩:=I.loc
  refine .cons (by rw[I.ok.kind];decide) hf hn ?_ I.nR
  exact Heap.get?_none_of_le (abo I.ok.HR I.ok.above)
theorem Inv.wD(I:Inv X pins σ H s):∀b∈frs X.stack,b∈X.env.locals::X.fs:=λb hb=>by
 rcases I.ok.stk with e|⟨e,hf⟩
 ·rw[e]at hb;exact aar _ hb
 ·rw[e]at hb
  unfold frs at hb
  rw[acF,hf]at hb
  exact hb
theorem Inv.q8(I:Inv X pins σ H s):∀b∈frs X.stack,H b=none:=λb hb=>by
 rcases aat.mp (I.wD b hb)with e|hb
 ·rw[e];exact I.free
 ·obtain⟨_,o,ho,_⟩:=I.ok.nR.mem hb
  exact I.base.free b o ho (I.ok.Ih b hb) λz=>I.ok.As b z hb
theorem Inv.step{g':Array GenState}{t':Nat}{d':Drawn}{ch:List Addr}(I:Inv X pins σ H s)
 (hch:∀b∈ch,(b∈X.ex\/X.s₀.heap.objs.size<=b)/\b≠X.env.locals/\(∀x c,X.env.cells.lookup x=some c->c≠b)/\∀p∈X.pn++pins,p.1≠b)
 (keep:∀b o,b≠X.env.locals->b∉X.fs->b∉ch->s.heap.get? b=some o->H b=none->h'.get? b=some o)
 (slot:∀b o,b≠X.env.locals->b∈X.fs->b∉ch->s.heap.get? b=some o->H b=none->∃sl,h'.get? b=some {o with slots:=sl})(free:∀b o,b∉ch->s.heap.get? b=some o->H b=none->H' b=none)
 (there:∀b o,b∉ch->s.heap.get? b=some o->∃o',h'.get? b=some o')
 (tups:∀b xs,H b=some (.tup xs)->H' b=some (.tup xs))(m9:∀b o u,H b=some (.gm o u)->H' b=some (.gm o u))(nQ:∀b ps,H b=some (.Ky ps)->∃more,H' b=some (.Ky (ps++more)))
 (ns:∀m,s.heap.Ns X.env.locals m->h'.Ns X.env.locals m)(hok:iR X.prog X.w H' h')(hg:AllBare g') :
 Inv X pins σ H' {s with heap:=h',gens:=g',drawn:=d',toks:=t'}:=by
 have UZ:∀b o,X.s₀.heap.get? b=some o->b≠X.env.locals:=λb o e=>aaN (aay (Heap.lt_size e) I.ok.above)
 have Rh:∀b o,X.s₀.heap.get? b=some o->b∉X.ex->b∉ch:=λb o e hx hb=>by
  rcases(hch b hb).1 with z|z
  ·exact hx z
  ·exact absurd (aay (Heap.lt_size e) z) (abu _)
 have cellK:∀x c,X.env.cells.lookup x=some c->∀v,s.heap.IsCell c v->h'.IsCell c v:=λx c e v ⟨o,ho,hd⟩=>by
  have Oi:c∉ch:=λz=>(hch c z).2.2.1 x c e rfl
  by_cases hc:c∈X.fs
  ·obtain⟨sl,q⟩:=slot c o (I.Ey x c e) hc Oi ho (I.g9 x c e)
   exact⟨_,q,hd⟩
  ·exact⟨o,keep c o (I.Ey x c e) hc Oi ho (I.g9 x c e),hd⟩
 refine⟨I.ok,I.os,hg,⟨λb o e n hb hx=>?_,λb o e n hb hx=>?_,λb o e n hx=>?_,λb o e hx=>?_,λb xs e=>tups b xs (I.base.tups b xs e),λb o xs e=>m9 b o xs (I.base.m9 b o xs e),λb ps e=>?_⟩,?_,λx c e=>?_,?_,λx c e=>?_,λp hp=>?_,hok,I.len⟩
 ·exact keep b o (UZ b o e) hb (Rh b o e hx) (I.base.keep b o e n hb hx) (I.base.free b o e n hx)
 ·obtain⟨sl,e1⟩:=I.base.slot b o e n hb hx
  obtain⟨Lx,e2⟩:=slot b _ (UZ b o e) hb (Rh b o e hx) e1 (I.base.free b o e n hx)
  exact⟨Lx,e2⟩
 ·obtain⟨o',e1⟩:=I.base.there b o e hx
  exact free b o' (Rh b o e hx) e1 (I.base.free b o e n hx)
 ·obtain⟨o',e1⟩:=I.base.there b o e hx
  exact there b o' (Rh b o e hx) e1
 ·obtain⟨m1,e1⟩:=I.base.nQ b ps e
  obtain⟨m2,e2⟩:=nQ b _ e1
  exact⟨m1++m2,by rw[e2,Array.append_assoc]⟩
 ·obtain⟨m,hn,hl⟩:=I.loc
  refine⟨m,ns m hn,λi x v e1 e2 e3=>?_⟩
  obtain⟨u,r,l⟩:=hl i x v e1 e2 e3
  refine⟨u,r,?_⟩
  rcases l with l|⟨k,c,e,z⟩
  ·exact .inl l
  ·exact .inr ⟨k,c,e,cellK x c e _ z⟩
 ·obtain⟨v,z⟩:=I.cell x c e
  exact⟨v,cellK x c e v z⟩
 ·obtain⟨m,⟨o,_,_,ho,_⟩,_⟩:=I.loc
  exact free _ o (λz=>(hch _ z).2.1 rfl) ho I.free
 ·obtain⟨v,o,ho,hd⟩:=I.cell x c e
  exact free c o (λz=>(hch c z).2.2.1 x c e rfl) ho (I.g9 x c e)
 ·obtain⟨e,n,ne,nf,d⟩:=I.pin p hp
  have Oi:p.1∉ch:=λz=>(hch p.1 z).2.2.2 p hp rfl
  exact⟨keep p.1 p.2 ne nf Oi e n,free p.1 p.2 Oi e n,ne,nf,d⟩
theorem Inv.un{t':Nat}(I:Inv X pins σ H s)(u:Un X.fs [] H H' s.heap h')(hok:iR X.prog X.w H' h'):Inv X pins σ H' {s with heap:=h',toks:=t'}:=by
 obtain⟨m,⟨o,es,ep,ho,r⟩,_⟩:=id I.loc
 obtain⟨sl,hL⟩:=u.any ho I.free (by simp)
 exact I.step (g':=s.gens) (d':=s.drawn) (ch:=[]) (λ_ z=>nomatch z) (λb o _ hb _ e n=>u.keep b o e n hb (by simp)) (λb o _ hb _ e n=>u.slot b o e n hb (by simp)) (λb o _ e n=>u.free b o e n (by simp)) (λb o _ e=>u.there b o e (by simp)) u.tups u.m9 u.nQ (λm' hm=>by
  obtain⟨o',es',RZ,ho',r'⟩:=hm
  rw[ho]at ho';cases ho'
  exact⟨_,es',RZ,hL,r'⟩) hok I.bare
theorem Inv.call{g':Array GenState}{t':Nat}{d':Drawn}{ch:List Addr}(I:Inv X pins σ H s)(u:Un (frs X.stack) ch H H' s.heap h')(hok:iR X.prog X.w H' h')(hg:AllBare g')
 (hch:∀b∈ch,(b∈X.ex\/X.s₀.heap.objs.size<=b)/\b≠X.env.locals/\(∀x c,X.env.cells.lookup x=some c->c≠b)/\∀p∈X.pn++pins,p.1≠b) :
 Inv X pins σ H' {s with heap:=h',gens:=g',drawn:=d',toks:=t'}:=by
 obtain⟨m,⟨o,es,ep,ho,r⟩,_⟩:=id I.loc
 obtain⟨sl,hL⟩:=u.any ho I.free λz=>(hch _ z).2.1 rfl
 exact I.step (ch:=ch) hch (λb o hL hb hc e n=>u.keep b o e n (λz=>(aat.mp (I.wD b z)).elim hL hb) hc) (λb o _ _ hc e n=>u.any e n hc) (λb o hc e n=>u.free b o e n hc) (λb o hc e=>u.there b o e hc) u.tups u.m9 u.nQ (λm' hm=>by
  obtain⟨o',es',RZ,ho',r'⟩:=hm
  rw[ho]at ho';cases ho'
  exact⟨_,es',RZ,hL,r'⟩) hok hg
theorem Inv.turned{t':Nat}{it:Addr}(I:Inv X pins σ H s)(k:∀b o,b≠it->s.heap.get? b=some o->h'.get? b=some o)(hn:H it=none)(hL:it≠X.env.locals)
 (h1:it∈X.ex\/X.s₀.heap.objs.size<=it)(h2:∀x c,X.env.cells.lookup x=some c->c≠it)(h3:∀p∈X.pn++pins,p.1≠it):Inv X pins σ H {s with heap:=h',toks:=t'}:=by
 have Oj:∀b u,H b=some u->b≠it:=λb u e z=>by rw[z,hn]at e;cases e
 refine I.step (g':=s.gens) (d':=s.drawn) (ch:=[it]) (λb hb=>?_) (λb o _ _ hc e _=>k b o (λz=>hc (by simp[z])) e) (λb o _ _ hc e _=>⟨o.slots,k b o (λz=>hc (by simp[z])) e⟩) (λ_ _ _ _ n=>n)
  (λb o hc e=>⟨o,k b o (λz=>hc (by simp[z])) e⟩) (λ_ _ e=>e) (λ_ _ _ e=>e) (λb ps e=>⟨#[],by rw[e];simp⟩) (λm hm=>?_) (λb u e=>?_) I.bare
 ·have e:b=it:=by simpa using hb
  subst e
  exact⟨h1,hL,h2,h3⟩
 ·obtain⟨o,es,ep,ho,r⟩:=hm
  exact⟨o,es,ep,k _ o (Ne.symm hL) ho,r⟩
 ·refine(I.hok b u e).stay (λc v hc q=>k c v ?_ q) (λ_ q=>q) λ_ _ q=>q
  rcases hc with z|z
  ·rw[z];exact Oj b u e
  ·exact Oj c _ z
theorem Inv.tok(I:Inv X pins σ H s)(t:Nat):Inv X pins σ H {s with toks:=t}:=I.un (h':=s.heap) (t':=t) Un.refl I.hok
theorem Inv.kept{t':Nat}(I:Inv X pins σ H s)(k:∀b u,s.heap.get? b=some u->h'.get? b=some u):Inv X pins σ H {s with heap:=h',toks:=t'}:=I.un (Un.kept k) (I.hok.kept k)
theorem Inv.laid{a:Addr}{o:HO}{t':Nat}(I:Inv X pins σ H s)(k:∀b u,s.heap.get? b=some u->h'.get? b=some u)(hp:s.heap.objs.size<=a)(new:cj X.prog X.w (upd H a o) h' a o) :
 Inv X pins σ (upd H a o) {s with heap:=h',toks:=t'}:=I.un (Un.laid k hp (I.hok.fresh hp)) (I.hok.laid k hp new)
theorem Inv.write{x e:Addr}{o:HO}{t':Nat}(I:Inv X pins σ H s)(mu:Rc (H x))(he:e=x\/H e=some (.own x))(k:∀b u,b≠e->s.heap.get? b=some u->h'.get? b=some u)(NS:∃u,h'.get? e=some u)
 (new:cj X.prog X.w (upd H x o) h' x o):Inv X pins σ (upd H x o) {s with heap:=h',toks:=t'}:=I.un (Un.write mu he k NS) (I.hok.write mu he k NS new)
theorem Inv.rf{Kz:List (Addr ×Obj)}(I:Inv X pins σ H s)(h:∀p∈Kz,s.heap.get? p.1=some p.2/\H p.1=none/\p.1≠X.env.locals/\p.1∉X.fs/\∀v,p.2.data≠ .cell v):Inv X Kz σ H s:=
 ⟨I.ok,I.os,I.bare,I.base,I.loc,I.cell,I.free,I.g9,λp hp=>(aaF.mp hp).elim (λz=>I.pin p (aaH _ z)) (h p),I.hok,I.len⟩
theorem rO{N:List Str}(hN:N.Nodup){i j:Nat}{x:Str}(a:N[i]?=some x)(b:N[j]?=some x):i=j:=by
 obtain⟨h1,e1⟩:=aaQ.mp a
 obtain⟨h2,e2⟩:=aaQ.mp b
 exact(List.getElem_inj hN).mp (e1.trans e2.symm)
theorem C8{M:Model}{A:Around}{E:Value->Shared->Prop}{i:Nat}{x:Str}{v:V}{u:Value}{Q:Unit->Shared->Prop}(I:Inv X pins σ H s)(hN:X.N.Nodup)(hi:X.N[i]?=some x)(hx:Loc X.env.scope x)(r:RelV v u)
 (h:∀s',Inv X pins (σ.set i (some v)) H s'->(∃a,Heap.SameBut a s.heap s'.heap/\(a=X.env.locals\/X.env.cells.lookup x=some a))->Q () s')(hf:X.fn x=true\/X.env.scope.names.lookup x=some .local:=by first|exact .inl rfl|exact .inr rfl|assumption):wpAny M A (storeName X.env x u) Q E s:=by
 obtain⟨m,hn,hl⟩:=id I.loc
 have hcls:(X.env.scope.kind== .class || (X.env.scope.kind== .module && X.env.locals !=X.env.globals))=false:=by rw[I.ok.kind];rfl
 have Ri:i<σ.length:=by rw[I.len];exact(aaQ.mp hi).1
 have Ey:=I.Ey
 have tracked:∀{a:Addr} {h':Heap},(∃o,s.heap.get? a=some o/\H a=none)->Heap.SameBut a s.heap h'->iR X.prog X.w H h':=λ{a h'} ha hs b ob e=>by
  obtain⟨_,_,hfree⟩:=ha
  refine(I.hok b ob e).stay (λc w' hc q=>(hs.2 c ?_).trans q) (λ_ q=>q) λ_ _ q=>q
  rintro rfl
  rcases hc with rfl|hc
  ·rw[hfree]at e;cases e
  ·rw[hfree]at hc;cases hc
 rcases hx with hk|hk
 ·refine wpAny_storeName_local hk hn (λh' hn' hs=>?_) hcls
  obtain⟨oL,_,_,U0,_⟩:=id hn
  refine h _ ⟨I.ok,I.os,I.bare,⟨λb o e n hb hx=>?_,λb o e n hb hx=>?_,I.base.free,λb o e hx=>?_,I.base.tups,I.base.m9,I.base.nQ⟩,⟨_,hn',λj y v' e1 e2 e3=>?_⟩,λy c e=>?_,I.free,I.g9,λp hp=>?_,tracked ⟨oL,U0,I.free⟩ hs,by simpa using I.len⟩ ⟨_,hs,.inl rfl⟩
  ·exact(hs.2 b (aaN (aay (Heap.lt_size e) I.ok.above))).trans (I.base.keep b o e n hb hx)
  ·obtain⟨sl,e1⟩:=I.base.slot b o e n hb hx
   exact⟨sl,(hs.2 b (aaN (aay (Heap.lt_size e) I.ok.above))).trans e1⟩
  ·obtain⟨o',e1⟩:=I.base.there b o e hx
   exact⟨o',(hs.2 b (aaN (aay (Heap.lt_size e) I.ok.above))).trans e1⟩
  ·by_cases hj:j=i
   ·subst hj
    rw[hi]at e1;cases e1
    rw[abG Ri]at e2
    cases e2
    exact⟨u,r,.inl ⟨hk,by simp⟩⟩
   ·rw[abZ (Ne.symm hj)]at e2
    obtain⟨u',r',q⟩:=hl j y v' e1 e2 e3
    refine⟨u',r',?_⟩
    rcases q with⟨k,e⟩|⟨k,c,e,z⟩
    ·refine .inl ⟨k,?_⟩
     have:y≠x:=λe=>hj (rO hN e1 (e▸hi))
     simp[this,e]
    ·exact .inr ⟨k,c,e,z.sameBut hs (Ey y c e)⟩
  ·obtain⟨w',z⟩:=I.cell y c e
   exact⟨w',z.sameBut hs (Ey y c e)⟩
  ·obtain⟨e,n,ne,nf,d⟩:=I.pin p hp
   exact⟨(hs.2 p.1 ne).trans e,n,ne,nf,d⟩
 ·have hfn:X.fn x=true:=by
   rcases hf with z|z
   ·exact z
   ·rw[z]at hk;cases hk
  obtain⟨c,hc⟩:=I.ok.has x (.inl hk)
  obtain⟨w',z⟩:=I.cell x c hc
  refine wpAny_storeName_cell I.ok.kind hk hc z (λh' hc' hs=>?_)
  obtain⟨oc,hoc,R0⟩:=id z
  refine h {s with heap:=h'} ⟨I.ok,I.os,I.bare,⟨λb o e n hb hx=>?_,λb o e n hb hx=>?_,I.base.free,λb o e hx=>?_,I.base.tups,I.base.m9,I.base.nQ⟩,⟨m,hn.sameBut hs (Ne.symm (Ey x c hc)),λj y v' e1 e2 e3=>?_⟩,λy c' e=>?_,I.free,I.g9,λp hp=>?_,tracked ⟨oc,hoc,I.g9 x c hc⟩ hs,by simpa using I.len⟩ ⟨c,hs,.inr hc⟩
  ·exact(hs.2 b (aaN (aay (Heap.lt_size e) (I.ok.Lw x c hfn hc)))).trans (I.base.keep b o e n hb hx)
  ·obtain⟨sl,e1⟩:=I.base.slot b o e n hb hx
   exact⟨sl,(hs.2 b (aaN (aay (Heap.lt_size e) (I.ok.Lw x c hfn hc)))).trans e1⟩
  ·obtain⟨o',e1⟩:=I.base.there b o e hx
   exact⟨o',(hs.2 b (aaN (aay (Heap.lt_size e) (I.ok.Lw x c hfn hc)))).trans e1⟩
  ·by_cases hj:j=i
   ·subst hj
    rw[hi]at e1;cases e1
    rw[abG Ri]at e2
    cases e2
    exact⟨u,r,.inr ⟨.inl hk,c,hc,hc'⟩⟩
   ·rw[abZ (Ne.symm hj)]at e2
    obtain⟨u',r',q⟩:=hl j y v' e1 e2 e3
    refine⟨u',r',?_⟩
    rcases q with q|⟨k,c',e,z'⟩
    ·exact .inl q
    ·refine .inr ⟨k,c',e,z'.sameBut hs ?_⟩
     rintro rfl
     exact hj (rO hN e1 (I.ok.inj _ _ _ e hc▸hi))
  ·by_cases hcc:c'=c
   ·subst hcc;exact⟨_,hc'⟩
   ·obtain⟨w2,z2⟩:=I.cell y c' e
    exact⟨w2,z2.sameBut hs hcc⟩
  ·obtain⟨e,n,ne,nf,d⟩:=I.pin p hp
   refine⟨(hs.2 p.1 ?_).trans e,n,ne,nf,d⟩
   intro q
   rw[q,hoc]at e
   have q':oc=p.2:=Option.some.inj e
   exact d w' (by rw[<-q'];exact R0)
theorem rP{M:Model}{A:Around}{E:Value->Shared->Prop}{i:Nat}{x:Str}{v:V}{u:Value}{Q:Unit->Shared->Prop}(I:Inv X pins σ H s)(hN:X.N.Nodup)(hi:X.N[i]?=some x)(hx:Loc X.env.scope x)(r:RelV v u)
 (h:∀s',Inv X pins (σ.set i (some v)) H s'->Q () s')(hf:X.fn x=true\/X.env.scope.names.lookup x=some .local:=by first|exact .inl rfl|exact .inr rfl|assumption):wpAny M A (storeName X.env x u) Q E s:=
 C8 I hN hi hx r (λs' I' _=>h s' I') hf
theorem Inv.Ez{s':Shared}{ch:List Addr}(I:Inv X pins σ H s)(ho:s'.os=s.os)(u:Un (frs X.stack) ch H H' s.heap s'.heap)(hok:iR X.prog X.w H' s'.heap)(hg:AllBare s'.gens)
 (hch:∀b∈ch,(b∈X.ex\/X.s₀.heap.objs.size<=b)/\b≠X.env.locals/\(∀x c,X.env.cells.lookup x=some c->c≠b)/\∀p∈X.pn++pins,p.1≠b):Inv X pins σ H' s':=by
 obtain⟨h',g',d',t',o'⟩:=s'
 have e:o'=s.os:=ho
 subst e
 exact I.call (g':=g') (t':=t') (d':=d') u hok hg hch
end
abbrev XK:=Value->Option Addr->Hp->Prop
abbrev St:=List (Option V)
abbrev VK:=V->Hp->Prop
abbrev TE:=St->Hp->VK->Prop
abbrev TT:=St->Hp->(Bool->Hp->Prop)->Prop
abbrev TA:=St->Hp->(List V->Hp->Prop)->Prop
structure Ends where
 nx:St->Hp->Prop
 rt:VK
 bk:St->Hp->Prop:=λ_ _=>False
 ct:St->Hp->Prop:=λ_ _=>False
abbrev TS:=Ends->St->Hp->Prop
def EP(X:Cx)(pins:List (Addr ×Obj))(σ:St)(Q:VK)(u:Value)(s':Shared):Prop:= ∃v H',Inv X pins σ H' s'/\RelV v u/\Q v H'
def TP(X:Cx)(pins:List (Addr ×Obj))(σ:St)(Q:Bool->Hp->Prop)(b:Bool)(s':Shared):Prop:= ∃H',Inv X pins σ H' s'/\Q b H'
def AP(X:Cx)(pins:List (Addr ×Obj))(σ:St)(Q:List V->Hp->Prop)(us:List Value)(s':Shared):Prop:= ∃vs H',Inv X pins σ H' s'/\Vals vs us/\Q vs H'
def SP(X:Cx)(pins:List (Addr ×Obj))(D:Ends)(f:Flow)(s':Shared):Prop:=
 match f with
 | .next=>∃σ' H',Inv X pins σ' H' s'/\D.nx σ' H'
 | .brk=>∃σ' H',Inv X pins σ' H' s'/\D.bk σ' H'
 | .cont=>∃σ' H',Inv X pins σ' H' s'/\D.ct σ' H'
 | .ret u=>∃v σ' H',Inv X pins σ' H' s'/\RelV v u/\D.rt v H'
def PE(X:Cx)(e:Expr)(t:TE):Prop:=
 ∀(pins:List (Addr ×Obj)) (s:Shared) (σ:St) (H:Hp) (Q:VK),Inv X pins σ H s->t σ H Q->wpAny (model X.prog X.w) X.A (eval e X.env) (EP X pins σ Q) X.xe s
def PT(X:Cx)(e:Expr)(t:TT):Prop:=
 ∀(pins:List (Addr ×Obj)) (s:Shared) (σ:St) (H:Hp) (Q:Bool->Hp->Prop),Inv X pins σ H s->t σ H Q->wpAny (model X.prog X.w) X.A (isTrue e X.env (eval e X.env)) (TP X pins σ Q) X.xe s
def PW(X:Cx)(e:Expr)(t:TT):Prop:=
 ∀(whole:Sem Value) (pins:List (Addr ×Obj)) (s:Shared) (σ:St) (H:Hp) (Q:Bool->Hp->Prop),Inv X pins σ H s->t σ H Q->wpAny (model X.prog X.w) X.A (isTrue e X.env whole) (TP X pins σ Q) X.xe s
def PA(X:Cx)(es:List Expr)(t:TA):Prop:=
 ∀(pos:Pos) (pins:List (Addr ×Obj)) (s:Shared) (σ:St) (H:Hp) (Q:List V->Hp->Prop),Inv X pins σ H s->t σ H Q->wpAny (model X.prog X.w) X.A (spliced (backTo pos (starEach es X.env))) (AP X pins σ Q) X.xe s
def PS(X:Cx)(st:Stmt)(t:TS):Prop:=
 ∀(pins:List (Addr ×Obj)) (s:Shared) (σ:St) (H:Hp) (D:Ends),Inv X pins σ H s->t D σ H->wpAny (model X.prog X.w) X.A (exec st X.env) (SP X pins D) X.xe s
def Au(X:Cx)(st:List Stmt)(t:TS):Prop:=
 ∀(pins:List (Addr ×Obj)) (s:Shared) (σ:St) (H:Hp) (D:Ends),Inv X pins σ H s->t D σ H->wpAny (model X.prog X.w) X.A (execs st X.env) (SP X pins D) X.xe s
theorem c5{α:Type}{t:Sem α}{Q Q':α->Shared->Prop}{M:Model}{A:Around}{E:Value->Shared->Prop}{s:Shared}(h:wpAny M A t Q E s)(hQ:∀a s,Q a s->Q' a s):wpAny M A t Q' E s:=wpAny_mono h hQ λ_ _ x=>x
end L2
namespace L2
open PySem PySem.Spec PyProof.Rows
section
variable{X:Cx}
def Ol(i:Nat):TE:=λσ H Q=>∃v,σ[i]?=some (some v)/\Q v H
def tC(v:V):TE:=λ_ H Q=>Q v H
theorem EA{i:Nat}{x:Str}{pos:Pos}(hN:X.N[i]?=some x)(hv:Rg X.env.scope x)(hd:(x==("__debug__" :Str))=false:=by decide)(hcd:(x==("__classdict__" :Str))=false:=by decide):PE X (.Name x pos) (Ol i):=by
 intro pins s σ H Q I h
 obtain⟨v,e,h⟩:=h
 obtain⟨m,hn,hl⟩:=I.loc
 obtain⟨u,r,l⟩:=hl i x v hN e hv
 have fin:EP X pins σ Q u s:=⟨v,H,I,r,h⟩
 rcases l with⟨hk,hm⟩|⟨hk,c,hc,hcell⟩
 ·exact wpAny_Name (wpAny_loadName_local I.ok.kind hk hn hm fin) hd
 ·rcases hk with hk|hk
  ·exact wpAny_Name (wpAny_loadName_cell I.ok.kind hk hc hcell fin) hd
  ·exact wpAny_Name (wpAny_loadName_free I.ok.kind hk hc hcell fin hcd) hd
theorem Ly{i j pos}:PE X (.Constant (.int i) j pos) (tC (.int i)):=λ_ _ _ H _ I h=>wpAny_Constant_int ⟨.int i,H,I.tok _,⟨_,rfl⟩,h⟩
theorem Om{b j pos}:PE X (.Constant (.bool b) j pos) (tC (.bl b)):=λ_ _ _ H _ I h=>Constant_bool ⟨.bl b,H,I,rfl,h⟩
def Gl(X:Cx)(x:Str):Prop:=X.env.kindOf x=some .globalImplicit
theorem nT{E:Value->Shared->Prop}{pins:List (Addr ×Obj)}{s:Shared}{σ:St}{H:Hp}{x:Str}{u:Value}{pos:Pos}{Q:Value->Shared->Prop}(I:Inv X pins σ H s)(hg:Gl X x)(hm:X.mg x=some u)(h:Q u s)
 (hd:(x==("__debug__" :Str))=false:=by decide):wpAny (model X.prog X.w) X.A (eval (.Name x pos) X.env) Q E s:=
 Calls.Name_function_global I.ok.kind hg (Calls.loadGlobal_global (by rw[I.ok.glob];exact I.mod.glob.keeps I.bk) hm h) hd
theorem kE{E:Value->Shared->Prop}{pins:List (Addr ×Obj)}{s:Shared}{σ:St}{H:Hp}{x:Str}{u:Value}{pos:Pos}{Q:Value->Shared->Prop}(I:Inv X pins σ H s)(hg:Gl X x)(hm:X.mg x=none)(hv:bootBuiltins x=some u)(h:Q u s)
 (hn:x≠"__name__" :=by decide)(hd:(x==("__debug__" :Str))=false:=by decide):wpAny (model X.prog X.w) X.A (eval (.Name x pos) X.env) Q E s:=by
 obtain⟨mb,h1,h2⟩:=I.mod.blt
 exact Calls.Name_function_global I.ok.kind hg (Calls.loadGlobal_builtin (by rw[I.ok.glob];exact I.mod.glob.keeps I.bk) hm (by rw[I.ok.blt];exact h1.keeps I.bk) ((h2 x hn).trans hv) h) hd
theorem Ii{x:Str}{v:V}{u:Value}{pos:Pos}(hg:Gl X x)(hm:X.mg x=some u)(r:RelV v u)(hd:(x==("__debug__" :Str))=false:=by decide):PE X (.Name x pos) (tC v):=
 λ_ _ _ H _ I h=>nT I hg hm ⟨v,H,I,r,h⟩ hd
theorem Ij{x:Str}{v:V}{u:Value}{pos:Pos}(hg:Gl X x)(hm:X.mg x=none)(hv:bootBuiltins x=some u)(r:RelV v u)(hn:x≠"__name__" :=by decide)(hd:(x==("__debug__" :Str))=false:=by decide):PE X (.Name x pos) (tC v):=
 λ_ _ _ H _ I h=>kE I hg hm hv ⟨v,H,I,r,h⟩ hn hd
variable{a b:Expr}{ta tb:TE}{pos:Pos}
def tB(t:TE):TT:=λσ H Q=>t σ H λx H1=>∃c,x= .bl c/\Q c H1
variable{tA Rj:TT}{rest:List Expr}
def R4(t u:TT):TT:=λσ H Q=>t σ H λc H1=>if c=true then u σ H1 Q else Q false H1
def Wq(t u:TT):TT:=λσ H Q=>t σ H λc H1=>if c=true then Q true H1 else u σ H1 Q
def R5(t:TT):TT:=λσ H Q=>t σ H λc H1=>Q (!c) H1
theorem pw_and1(ha:PT X a tA):PW X (.BoolOp .And [a] pos) tA:=by
 intro wh pins s σ H Q I h
 refine isTrue_and (c5 (ha pins s σ H Q I h) λc s1 e=>?_)
 cases c with
 |true=>exact isTrue_and_nil e
 |false=>exact e
theorem pw_or1(ha:PT X a tA):PW X (.BoolOp .Or [a] pos) tA:=by
 intro wh pins s σ H Q I h
 refine isTrue_or (c5 (ha pins s σ H Q I h) λc s1 e=>?_)
 cases c with
 |false=>exact isTrue_or_nil e
 |true=>exact e
theorem pw_and(ha:PT X a tA)(hb:PW X (.BoolOp .And (b::rest) pos) Rj):PW X (.BoolOp .And (a::b::rest) pos) (R4 tA Rj):=by
 intro wh pins s σ H Q I h
 refine isTrue_and (c5 (ha pins s σ H _ I h) λc s1 ⟨H1,I1,q1⟩=>?_)
 cases c with
 |true=>exact hb wh pins s1 σ H1 Q I1 q1
 |false=>exact⟨H1,I1,q1⟩
theorem pw_or(ha:PT X a tA)(hb:PW X (.BoolOp .Or (b::rest) pos) Rj):PW X (.BoolOp .Or (a::b::rest) pos) (Wq tA Rj):=by
 intro wh pins s σ H Q I h
 refine isTrue_or (c5 (ha pins s σ H _ I h) λc s1 ⟨H1,I1,q1⟩=>?_)
 cases c with
 |true=>exact⟨H1,I1,q1⟩
 |false=>exact hb wh pins s1 σ H1 Q I1 q1
theorem Lz(ha:PT X a tA):PT X (.UnaryOp .Not a pos) (R5 tA):=by
 intro pins s σ H Q I h
 exact isTrue_not (ha pins s σ H (λc H1=>Q (!c) H1) I h)
def Oo(ta tb:TE):TE:=λσ H Q=>ta σ H λx H1=>∃c,x= .bl c/\if c=true then tb σ H1 Q else Q (.bl false) H1
def R6(ta tb:TE):TE:=λσ H Q=>ta σ H λx H1=>∃c,x= .bl c/\if c=true then Q (.bl true) H1 else tb σ H1 Q
theorem LA(ha:PE X a ta)(hb:PE X (.BoolOp .And (b::rest) pos) tb):PE X (.BoolOp .And (a::b::rest) pos) (Oo ta tb):=by
 intro pins s σ H Q I h
 refine BoolOp_and (c5 (ha pins s σ H _ I h) λv s1 ⟨x,H1,I1,r1,q1⟩=>?_)
 obtain⟨c,rfl,q1⟩:=q1
 cases r1
 refine wpAny_truthy_bool ?_
 cases c with
 |true=>exact hb pins s1 σ H1 Q I1 q1
 |false=>exact⟨.bl false,H1,I1,rfl,q1⟩
theorem Oq(ha:PE X a ta)(hb:PE X (.BoolOp .Or (b::rest) pos) tb):PE X (.BoolOp .Or (a::b::rest) pos) (R6 ta tb):=by
 intro pins s σ H Q I h
 refine BoolOp_or (c5 (ha pins s σ H _ I h) λv s1 ⟨x,H1,I1,r1,q1⟩=>?_)
 obtain⟨c,rfl,q1⟩:=q1
 cases r1
 refine wpAny_truthy_bool ?_
 cases c with
 |false=>exact hb pins s1 σ H1 Q I1 q1
 |true=>exact⟨.bl true,H1,I1,rfl,q1⟩
def Wr(t:TT)(ta tb:TE):TE:=λσ H Q=>t σ H λc H1=>if c=true then ta σ H1 Q else tb σ H1 Q
theorem EB{c:Expr}(hc:PT X c tA)(ha:PE X a ta)(hb:PE X b tb):PE X (.IfExp c a b pos) (Wr tA ta tb):=by
 intro pins s σ H Q I h
 refine wpAny_IfExp (c5 (hc pins s σ H _ I h) λd s1 ⟨H1,I1,q1⟩=>?_)
 cases d with
 |true=>exact ha pins s1 σ H1 Q I1 q1
 |false=>exact hb pins s1 σ H1 Q I1 q1
end
end L2
namespace L2
open PySem PySem.Spec PyProof.Rows
def gR(K:PySem.W.Frag)(H:Hp)(a:Addr)(xs:List V):Prop:=
 Rd H a (.lst xs)\/
  ∃(o:Obj) (its:Array Value) (n:Nat),K.lookup a=some o/\o.cls= .type "list"/\o.dict=none/\o.data= .seq its n/\its.size<=sizeLine/\Vals xs its.toList
def rQ(K:PySem.W.Frag)(H:Hp)(a:Addr)(xs:List V):Prop:=
 Rd H a (.tup xs)\/
  ∃(o:Obj) (its:Array Value) (n:Nat),K.lookup a=some o/\o.cls= .type "tuple"/\o.data= .seq its n/\its.size<=sizeLine/\Vals xs its.toList
def Ot:Value->Option V
 | .none=>some .bJ
 | .bool b=>some (.bl b)
 | .int i _=>some (.int i)
 | .str x _=>some (.str x)
 | .bytes b _=>some (.Ei b)
 | .float b _=>some (.Lu b)
 | .ref a=>some (.ref a)
 | .type n=>some (.ty n)
 |_=>none
theorem RelV.abs{x:V}{u:Value}(r:RelV x u):Ot u=some x:=by
 cases x with
 |bJ=>cases r;rfl
 |bl _=>cases r;rfl
 |int _=>obtain⟨t,rfl⟩:=r;rfl
 |str _=>obtain⟨t,rfl⟩:=r;rfl
 |Ei _=>obtain⟨t,rfl⟩:=r;rfl
 |Lu _=>obtain⟨t,rfl⟩:=r;rfl
 |ref _=>cases r;rfl
 |ty _=>cases r;rfl
theorem RelV.inj{x y:V}{u:Value}(r:RelV x u)(q:RelV y u):x=y:=Option.some.inj (r.abs.symm.trans q.abs)
theorem Vals.inj:∀{xs ys:List V} {us:List Value},Vals xs us->Vals ys us->xs=ys
 |_,_,_,.nil,.nil=>rfl
 |_,_,_,.cons r t,.cons r' t'=>by rw[r.inj r',Vals.inj t t']
section
variable{X:Cx}{pins:List (Addr ×Obj)}{σ:St}{H:Hp}{s:Shared}{a:Addr}{xs ys:List V}
theorem gR.of{K:PySem.W.Frag}(h:H a=some (.lst xs)):gR K H a xs:= .inl (.inl h)
theorem rQ.of{K:PySem.W.Frag}(h:H a=some (.tup xs)):rQ K H a xs:= .inl (.inl h)
theorem Inv.list(I:Inv X pins σ H s)(h:gR X.K H a xs):∃its:List Value,Vals xs its/\PlainL s.heap a its.toArray/\xs.length<=sizeLine:=by
 rcases h with h|⟨o,its,n,hk,hc,hd,hs,hz,r⟩
 ·obtain⟨z,its,n,r,e⟩:=h.ok I.hok
  exact⟨its,r,⟨_,n,e,rfl,rfl,rfl⟩,z⟩
 ·refine⟨its.toList,r,⟨o,n,I.nS a o hk,hc,hd,by simpa using hs⟩,?_⟩
  have e:=r.length
  simp only[Array.length_toList]at e
  omega
theorem Inv.tuple(I:Inv X pins σ H s)(h:rQ X.K H a xs):∃its:List Value,Vals xs its/\IsTup s.heap a its.toArray/\xs.length<=sizeLine:=by
 rcases h with h|⟨o,its,n,hk,hc,hs,hz,r⟩
 ·obtain⟨z,its,r,p⟩:=h.ok I.hok
  exact⟨its,r,p,z⟩
 ·refine⟨its.toList,r,⟨o,I.nS a o hk,hc,n,by simpa using hs⟩,?_⟩
  have e:=r.length
  simp only[Array.length_toList]at e
  omega
theorem Inv.EC(I:Inv X pins σ H s)(h:gR X.K H a xs)(h':gR X.K H a ys):xs=ys:=by
 obtain⟨its,r,⟨o,n,e,_,_,d⟩,_⟩:=I.list h
 obtain⟨its',r',⟨o',n',e',_,_,d'⟩,_⟩:=I.list h'
 rw[e]at e';cases e'
 rw[d]at d'
 injection d' with d1 _
 have:its=its':=by simpa using congrArg Array.toList d1
 subst this
 exact r.inj r'
theorem Inv.C9(I:Inv X pins σ H s)(h:rQ X.K H a xs)(h':rQ X.K H a ys):xs=ys:=by
 obtain⟨its,r,⟨o,e,_,n,d⟩,_⟩:=I.tuple h
 obtain⟨its',r',⟨o',e',_,n',d'⟩,_⟩:=I.tuple h'
 rw[e]at e';cases e'
 rw[d]at d'
 injection d' with d1 _
 have:its=its':=by simpa using congrArg Array.toList d1
 subst this
 exact r.inj r'
end
abbrev Cx.rR(X:Cx)(E:Value->Shared->Prop):Cx:={X with xe:=E}
abbrev Cx.Ej(X:Cx):Cx:=X.rR λ_ _=>False
theorem Cx.Ok.rR{X:Cx}(ok:X.Ok)(E:Value->Shared->Prop):(X.rR E).Ok:=
 ⟨ok.mod,ok.kind,ok.glob,ok.blt,ok.above,ok.inj,ok.has,ok.Lw,ok.hd,ok.frames,ok.stk,ok.NT,ok.bs,ok.HR,ok.Ar,ok.As,ok.nR,ok.Ih⟩
theorem Cx.Ok.i8{X:Cx}{E:Value->Shared->Prop}(ok:(X.rR E).Ok):X.Ok:=
 ⟨ok.mod,ok.kind,ok.glob,ok.blt,ok.above,ok.inj,ok.has,ok.Lw,ok.hd,ok.frames,ok.stk,ok.NT,ok.bs,ok.HR,ok.Ar,ok.As,ok.nR,ok.Ih⟩
section
variable{X:Cx}{pins:List (Addr ×Obj)}{σ:St}{H:Hp}{s:Shared}{E:Value->Shared->Prop}
theorem Inv.rR(I:Inv X pins σ H s)(E:Value->Shared->Prop):Inv (X.rR E) pins σ H s:=⟨I.ok.rR E,I.os,I.bare,I.base,I.loc,I.cell,I.free,I.g9,I.pin,I.hok,I.len⟩
theorem Inv.i8(I:Inv (X.rR E) pins σ H s):Inv X pins σ H s:=⟨I.ok.i8,I.os,I.bare,I.base,I.loc,I.cell,I.free,I.g9,I.pin,I.hok,I.len⟩
theorem SP.i8{D:Ends}{f:Flow}{s':Shared}(h:SP (X.rR E) pins D f s'):SP X pins D f s':=by
 cases f with
 |next=>obtain⟨σ',H',I,q⟩:=h;exact⟨σ',H',I.i8,q⟩
 |brk=>obtain⟨σ',H',I,q⟩:=h;exact⟨σ',H',I.i8,q⟩
 |cont=>obtain⟨σ',H',I,q⟩:=h;exact⟨σ',H',I.i8,q⟩
 |ret u=>obtain⟨v,σ',H',I,r,q⟩:=h;exact⟨v,σ',H',I.i8,r,q⟩
theorem Au.Ej{st:List Stmt}{t:TS}(h:Au X.Ej st t):Au X st t:=λpins s σ H D I hw=>
 wpAny_mono (h pins s σ H D (I.rR _) hw) (λ_ _ q=>q.i8) λ_ _ z=>False.elim z
end
section
variable{X:Cx}{st:Stmt}{rest:List Stmt}{t u:TS}{e:Expr}{te:TE}{pos:Pos}
def Ou:TS:=λD σ H=>D.nx σ H
def R7(t u:TS):TS:=λD σ H=>t {D with nx:=u D} σ H
theorem Ik:Au X [] Ou:=λ_ _ σ H _ I h=>wpAny_execs_nil ⟨σ,H,I,h⟩
theorem ED(h1:PS X st t)(h2:Au X rest u):Au X (st::rest) (R7 t u):=by
 intro pins s σ H D I h
 refine wpAny_execs_cons (c5 (h1 pins s σ H {D with nx:=u D} I h) λf s1 q=>?_)
 cases f with
 |next=>
  obtain⟨σ',H',I',q⟩:=q
  exact h2 pins s1 σ' H' D I' q
 |ret v=>exact q
 |brk=>exact q
 |cont=>exact q
theorem BV(h1:PS X st t):Au X [st] t:=by
 intro pins s σ H D I h
 refine wpAny_execs_cons (c5 (h1 pins s σ H D I h) λf s1 q=>?_)
 cases f with
 |next=>exact wpAny_execs_nil q
 |ret v=>exact q
 |brk=>exact q
 |cont=>exact q
theorem Inv.quiet{pins:List (Addr ×Obj)}{σ:St}{H:Hp}{s:Shared}(I:Inv X pins σ H s):interactive X.env=false:=by simp[interactive,I.ok.kind]
def Ov(te:TE):TS:=λD σ H=>te σ H λ_ H1=>D.nx σ H1
theorem Il(he:PE X e te)(hs:swapsWith e none pos.line X.env=pure false:=by rfl):PS X (.Expr e pos) (Ov te):=by
 intro pins s σ H D I h
 exact wpAny_Expr_any (c5 (he pins s σ H _ I h) λv s1 ⟨x,H1,I1,r1,q1⟩=>⟨σ,H1,I1,q1⟩) I.quiet hs
def R8(te:TE):TS:=λD σ H=>te σ H D.rt
theorem LB(he:PE X e te):PS X (.Return (some e) pos) (R8 te):=by
 intro pins s σ H D I h
 exact wpAny_Return_some (c5 (he pins s σ H _ I h) λv s1 ⟨x,H1,I1,r1,q1⟩=>⟨x,σ,H1,I1,r1,q1⟩)
def R9(c:TT)(t u:TS):TS:=λD σ H=>c σ H λb H1=>if b=true then t D σ H1 else u D σ H1
theorem Ow{c:Expr}{a b:List Stmt}{tc:TT}(hc:PT X c tc)(ha:Au X a t)(hb:Au X b u):PS X (.If c a b pos) (R9 tc t u):=by
 intro pins s σ H D I h
 refine wpAny_If (c5 (hc pins s σ H _ I h) λd s1 ⟨H1,I1,q1⟩=>?_)
 cases d with
 |true=>exact ha pins s1 σ H1 D I1 q1
 |false=>exact hb pins s1 σ H1 D I1 q1
end
abbrev TG:=V->St->Hp->(St->Hp->Prop)->Prop
def PG(X:Cx)(target:Expr)(t:TG):Prop:=
 ∀(pins:List (Addr ×Obj)) (s:Shared) (σ:St) (H:Hp) (v:V) (u:Value) (Q:St->Hp->Prop),Inv X pins σ H s->RelV v u->t v σ H Q->
  wpAny (model X.prog X.w) X.A (assign target X.env u) (λ_ s'=>∃σ' H',Inv X pins σ' H' s'/\Q σ' H') X.xe s
abbrev Im:=V->V->V->Hp->(Hp->Prop)->Prop
def Ox(X:Cx)(t:Im):Prop:=
 ∀(pins:List (Addr ×Obj)) (s:Shared) (σ:St) (H:Hp) (o i v:V) (ov iv u:Value) (Q:Hp->Prop),Inv X pins σ H s->RelV o ov->RelV i iv->RelV v u->t o i v H Q->
  wpAny (model X.prog X.w) X.A (setItem ov iv u) (λ_ s'=>∃H',Inv X pins σ H' s'/\Q H') X.xe s
section
variable{X:Cx}{pos:Pos}
def KA(i:Nat):TG:=λv σ H Q=>Q (σ.set i (some v)) H
theorem Io{i:Nat}{x:Str}(hN:X.N.Nodup)(hi:X.N[i]?=some x)(hx:Loc X.env.scope x)(hf:X.fn x=true\/X.env.scope.names.lookup x=some .local:=by first|exact .inl rfl|exact .inr rfl|assumption):PG X (.Name x pos) (KA i):=by
 intro pins s σ H v u Q I r h
 exact wpAny_assign_Name (rP I hN hi hx r (λs' I'=>⟨_,H,I',h⟩) hf)
def Sa(to ti:TE)(t:Im):TG:=λv σ H Q=>to σ H λo H1=>ti σ H1 λi H2=>t o i v H2 λH3=>Q σ H3
theorem LC{o i:Expr}{to ti:TE}{t:Im}(ho:PE X o to)(hi:PE X i ti)(hs:Ox X t)
 (ha:∀v,assign (.Subscript o i pos) X.env v=(do
  let ov <-holding [v] (eval o X.env)
  let iv <-holding [v,ov] (eval i X.env)
  standAt pos
  holding [v,ov,iv] (setItem ov iv v)
  release [v,ov,iv] []):=by intro _;rfl):PG X (.Subscript o i pos) (Sa to ti t):=by
 intro pins s σ H v u Q I r h
 rw[ha]
 refine wpAny_bind (wpAny_holding (c5 (ho pins s σ H _ I h) λov s1 ⟨x,H1,I1,r1,q1⟩=>?_))
 refine wpAny_bind (wpAny_holding (c5 (hi pins s1 σ H1 _ I1 q1) λiv s2 ⟨y,H2,I2,r2,q2⟩=>?_))
 refine wpAny_bind (wpAny_standAt (wpAny_bind (wpAny_holding (c5 (hs pins s2 σ H2 x y v ov iv u _ I2 r1 r2 r q2) λ_ s3 ⟨H3,I3,q3⟩=>?_))))
 exact wpAny_release ⟨σ,H3,I3,q3⟩
def Sb(te:TE)(g:TG):TS:=λD σ H=>te σ H λx H1=>g x σ H1 D.nx
theorem LD{i:Nat}{x:Str}{e:Expr}{te:TE}{pos':Pos}(hN:X.N.Nodup)(hi:X.N[i]?=some x)(hx:Loc X.env.scope x)(he:PE X e te)(hs:swapsWith e (some (.Name x pos')) pos.line X.env=pure false:=by rfl)(hf:X.fn x=true\/X.env.scope.names.lookup x=some .local:=by first|exact .inl rfl|exact .inr rfl|assumption) :
 PS X (.Assign [.Name x pos'] e pos) (Sb te (KA i)):=by
 intro pins s σ H D I h
 refine wpAny_Assign_Name (c5 (he pins s σ H _ I h) λv s1 ⟨y,H1,I1,r1,q1⟩=>?_) hs
 exact rP I1 hN hi hx r1 (λs2 I2=>⟨_,H1,I2,q1⟩) hf
end
section
variable{X:Cx}{pos:Pos}
def LF(c:TT)(tb:TS):TS:=λD σ H=>∃W:Nat->St->Hp->Prop,(∃m,W m σ H)/\∀m σ H,W m σ H->
 c σ H λb H1=>if b=true then∃N:St->Hp->Prop,(∀σ' H',N σ' H'->∃m',m'<m/\W m' σ' H')/\tb {D with nx:=N,ct:=N,bk:=D.nx} σ H1 else D.nx σ H1
theorem EE{c:Expr}{body:List Stmt}{tc:TT}{tb:TS}(hp:PassesOwn (model X.prog X.w) X.A X.env X.xe)(hc:PT X c tc)(hb:Au X body tb):PS X (.While c body [] pos) (LF tc tb):=by
 intro pins s σ H D I h
 obtain⟨W,⟨m0,w0⟩,turn⟩:=h
 refine wpAny_While (codeAny_whileLoop (λn s'=>∃σ' H',Inv X pins σ' H' s'/\W n σ' H') ?_ m0 ⟨σ,H,I,w0⟩)
 rintro n s1 ⟨σ1,H1,I1,w1⟩
 refine wpAny_passesOwn hp (c5 (hc pins s1 σ1 H1 _ I1 (turn n σ1 H1 w1)) λb s2 ⟨H2,I2,q2⟩=>?_)
 cases b with
 |true=>
  obtain⟨N,hN,q2⟩:=q2
  rw[if_pos rfl]
  refine wpAny_passesOwn hp (c5 (hb pins s2 σ1 H2 _ I2 q2) λf s3 q3=>?_)
  cases f with
  |next=>
   obtain⟨σ3,H3,I3,n3⟩:=q3
   obtain⟨m',hm,w3⟩:=hN σ3 H3 n3
   exact⟨m',hm,σ3,H3,I3,w3⟩
  |cont=>
   obtain⟨σ3,H3,I3,n3⟩:=q3
   obtain⟨m',hm,w3⟩:=hN σ3 H3 n3
   exact⟨m',hm,σ3,H3,I3,w3⟩
  |brk=>exact q3
  |ret v=>exact q3
 |false=>
  rw[if_neg aaE]
  exact wpAny_execs_nil ⟨σ1,H2,I2,q2⟩
end
structure It where
 go:Nat->Hp->Prop
 HS:Nat->Hp->V->Hp->Prop
 stop:Nat->Hp->Prop
def j7(X:Cx)(pins:List (Addr ×Obj))(H:Hp)(b:Addr):Prop:=
 H b=none/\b≠X.env.locals/\b∉X.fs/\(b∈X.ex\/X.s₀.heap.objs.size<=b)/\(∀x c,X.env.cells.lookup x=some c->c≠b)/\∀p∈X.pn++pins,p.1≠b
theorem Inv.Dc{X:Cx}{pins:List (Addr ×Obj)}{σ:St}{H H':Hp}{s:Shared}{b:Addr}(I:Inv X pins σ H s)(hb:s.heap.objs.size<=b)(hn:H' b=none):j7 X pins H' b:=by
 refine⟨hn,aa5 (aay I.lt hb),I.RY hb,.inr (abo I.sz hb),λx c e z=>?_,λp hp z=>?_⟩
 ·obtain⟨v,q⟩:=I.cell x c e
  exact absurd (aay q.lt (by rw[z];exact hb)) (abu _)
 ·exact absurd (aay (Heap.lt_size (I.pin p hp).1) (by rw[z];exact hb)) (abu _)
structure Turn(P:Program)(w:World)(K:PySem.W.Frag)(tg:Expr)(J:It)(fp:List Addr)(it:Addr)(tn:Nat->Heap->Prop):Prop where
 mem:it∈fp
 obj:∀i h,tn i h->∀b∈fp,∃o,h.get? b=some o/\∀v,o.data≠ .cell v
 keep:∀i h h',tn i h->(∀b∈fp,∀o,h.get? b=some o->h'.get? b=some o)->tn i h'
 item:∀(X:Cx),X.prog=P->X.w=w->X.K=K->X.calm=true->∀(i:Nat) (pins:List (Addr ×Obj)) (s:Shared) (σ:St) (H:Hp) (E:Value->Shared->Prop),Inv X pins σ H s->(∀b∈fp,j7 X pins H b)->tn i s.heap->J.go i H->
  wpAny (model P w) X.A (pyNext (.ref it)) (λr s1=>∃u,r=some u/\
   wpAny (model P w) X.A (letOwnedTupleGo tg (.ref it) u) (λ_ s2=>∃x H',Inv X pins σ H' s2/\RelV x u/\J.HS i H x H'/\tn (i+1) s2.heap/\∀b∈fp,H' b=none) E s1) E s
 done:∀(X:Cx),X.prog=P->X.w=w->X.K=K->X.calm=true->∀(i:Nat) (pins:List (Addr ×Obj)) (s:Shared) (σ:St) (H:Hp) (E:Value->Shared->Prop),Inv X pins σ H s->(∀b∈fp,j7 X pins H b)->tn i s.heap->J.stop i H->
  wpAny (model P w) X.A (pyNext (.ref it)) (λr s1=>r=none/\Inv X pins σ H s1) E s
 self:∀(A:Around) (i:Nat) (s:Shared) (Q:Value->Shared->Prop) (E:Value->Shared->Prop),tn i s.heap->Q (.ref it) s->wpAny (model P w) A (pyIter (.ref it)) Q E s
abbrev TI:=St->Hp->(It->Hp->Prop)->Prop
def Sd(X:Cx)(pins:List (Addr ×Obj))(σ:St)(tg:Expr)(R:It->Hp->Prop)(itv:Value)(s2:Shared):Prop:=
 ∃(it:Addr) (fp:List Addr) (tn:Nat->Heap->Prop) (J:It) (H':Hp),itv= .ref it/\Inv X pins σ H' s2/\Turn X.prog X.w X.K tg J fp it tn/\tn 0 s2.heap/\(∀b∈fp,j7 X pins H' b)/\R J H'
def PI(X:Cx)(tg iter:Expr)(wi:TI):Prop:=
 ∀(pins:List (Addr ×Obj)) (s:Shared) (σ:St) (H:Hp) (R:It->Hp->Prop),Inv X pins σ H s->wi σ H R->
  wpAny (model X.prog X.w) X.A (eval iter X.env) (λv s1=>wpAny (model X.prog X.w) X.A (pyIter v) (Sd X pins σ tg R) X.xe s1) X.xe s
theorem BW{M:Model}{A:Around}{E:Value->Shared->Prop}{s:Shared}{tg:Expr}{it:Addr}{u:Value}{o:Obj}{n:String}{vs:Array Value}{Q:Unit->Shared->Prop}(ho:s.heap.get? it=some o)(hc:o.cls= .type n)(hd:o.data= .fields vs)
 (hn:["enumerate","zip","dict_itemiterator","dict_reverseitemiterator","odict_iterator","itertools.zip_longest","itertools.pairwise"].contains n=false)(hQ:Q () s):wpAny M A (letOwnedTupleGo tg (.ref it) u) Q E s:=by
 unfold letOwnedTupleGo
 cases tg<;>first
  |exact wpAny_pure hQ
  |(cases u<;>first
   |exact wpAny_pure hQ
   |(refine wpAny_bind (wpAny_load ho ?_)
     rw[hc,hd]
     show wpAny M A (if(["enumerate","zip","dict_itemiterator","dict_reverseitemiterator","odict_iterator","itertools.zip_longest","itertools.pairwise"].contains n && vs[0]?==some (rawInt _))=true then _ else _) Q E s
     rw[if_neg (by intro h;rw[hn,acI]at h;cases h)]
     exact wpAny_pure hQ))
def Se(K:PySem.W.Frag)(a:Addr):It:=
 ⟨λi H=>∃xs x,gR K H a xs/\xs[i]?=some x,λi H x H'=>H'=H/\∀xs,gR K H a xs->xs[i]?=some x,λi H=>∃xs,gR K H a xs/\xs.length<=i⟩
def Sf(K:PySem.W.Frag)(a:Addr):It:=
 ⟨λi H=>∃xs x,rQ K H a xs/\xs[i]?=some x,λi H x H'=>H'=H/\∀xs,rQ K H a xs->xs[i]?=some x,λi H=>∃xs,rQ K H a xs/\xs.length<=i⟩
def Rk(lo:Int)(n:Nat):It:=⟨λi _=>i<n,λi H x H'=>H'=H/\x= .int (lo+i),λi _=>n<=i⟩
theorem Dd{P:Program}{w:World}{K:PySem.W.Frag}{tg:Expr}(a it:Addr):Turn P w K tg (Se K a) [it] it (λi h=>h.IsListIter it a i) where
 mem:=by simp
 obj:=λi h st b hb=>by
  have e:b=it:=by simpa using hb
  subst e
  obtain⟨o,e,c,d⟩:=st
  exact⟨o,e,λv z=>by rw[d]at z;cases z⟩
 keep:=λi h h' st k=>st.at λo e=>k it (by simp) o e
 item:=by
  intro X hP hw hK hc i pins s σ H E I hf st hg
  subst hP hw hK
  obtain⟨xs,x,hq,hx⟩:=hg
  obtain⟨its,rv,p,hz⟩:=I.list hq
  obtain⟨u,hu,ru⟩:=rv.get hx
  obtain⟨f0,f1,f2,f3,f4,f5⟩:=hf it (by simp)
  refine wpAny_pyNext_list_item st p.isList (x:=u) (by simpa using hu) λh' st' sb=>?_
  have I1:Inv X pins σ H {s with heap:=h'}:=I.turned (t':=s.toks) (λb o hb e=>(sb.2 b hb).trans e) f0 f1 f3 f4 f5
  obtain⟨o,e,c,d⟩:=id st'
  exact⟨u,rfl,BW (s:={s with heap:=h'}) e c d (by decide) ⟨x,H,I1,ru,⟨rfl,λys hy=>by rw[I.EC hy hq];exact hx⟩,st',λb hb=>(hf b hb).1⟩⟩
 done:=by
  intro X hP hw hK hc i pins s σ H E I hf st hg
  subst hP hw hK
  obtain⟨xs,hq,hx⟩:=hg
  obtain⟨its,rv,p,hz⟩:=I.list hq
  obtain⟨f0,f1,f2,f3,f4,f5⟩:=hf it (by simp)
  have hl:=rv.length
  exact wpAny_pyNext_list_end (I.ok.hd hc) st p.isList (by simp;omega) λh' eb=>⟨rfl,I.turned (t':=s.toks) (λb o hb e=>eb b o hb e) f0 f1 f3 f4 f5⟩
 self:=λ_ _ _ _ _ st h=>wpAny_pyIter_listiter st h
theorem Av{P:Program}{w:World}{K:PySem.W.Frag}{tg:Expr}(a it:Addr):Turn P w K tg (Sf K a) [it] it (λi h=>h.IsTupleIter it a i) where
 mem:=by simp
 obj:=λi h st b hb=>by
  have e:b=it:=by simpa using hb
  subst e
  obtain⟨o,e,c,d⟩:=st
  exact⟨o,e,λv z=>by rw[d]at z;cases z⟩
 keep:=λi h h' st k=>st.at λo e=>k it (by simp) o e
 item:=by
  intro X hP hw hK hc i pins s σ H E I hf st hg
  subst hP hw hK
  obtain⟨xs,x,hq,hx⟩:=hg
  obtain⟨its,rv,p,hz⟩:=I.tuple hq
  obtain⟨u,hu,ru⟩:=rv.get hx
  obtain⟨f0,f1,f2,f3,f4,f5⟩:=hf it (by simp)
  refine wpAny_pyNext_tuple_item st (show s.heap.IsTuple a its.toArray from p) (x:=u) (by simpa using hu) λh' st' sb=>?_
  have I1:Inv X pins σ H {s with heap:=h'}:=I.turned (t':=s.toks) (λb o hb e=>(sb.2 b hb).trans e) f0 f1 f3 f4 f5
  obtain⟨o,e,c,d⟩:=id st'
  exact⟨u,rfl,BW (s:={s with heap:=h'}) e c d (by decide) ⟨x,H,I1,ru,⟨rfl,λys hy=>by rw[I.C9 hy hq];exact hx⟩,st',λb hb=>(hf b hb).1⟩⟩
 done:=by
  intro X hP hw hK hc i pins s σ H E I hf st hg
  subst hP hw hK
  obtain⟨xs,hq,hx⟩:=hg
  obtain⟨its,rv,p,hz⟩:=I.tuple hq
  obtain⟨f0,f1,f2,f3,f4,f5⟩:=hf it (by simp)
  have hl:=rv.length
  exact wpAny_pyNext_tuple_end (I.ok.hd hc) st (show s.heap.IsTuple a its.toArray from p) (by simp;omega) λh' eb=>⟨rfl,I.turned (t':=s.toks) (λb o hb e=>eb b o hb e) f0 f1 f3 f4 f5⟩
 self:=λ_ _ _ _ _ st h=>wpAny_pyIter_tupleiter st h
theorem Aw{P:Program}{w:World}{K:PySem.W.Frag}{tg:Expr}(it:Addr)(lo:Int)(n:Nat):Turn P w K tg (Rk lo n) [it] it (λi h=>IsRangeIter h it (lo+(i:Nat)*1) ((n:Int)-(i:Nat)) 1) where
 mem:=by simp
 obj:=λi h st b hb=>by
  have e:b=it:=by simpa using hb
  subst e
  exact⟨_,st,λv z=>by
   have z':Data.fields _=Data.cell v:=z
   cases z'⟩
 keep:=λi h h' st k=>k it (by simp) _ st
 item:=by
  intro X hP hw hK hc i pins s σ H E I hf st hg
  subst hP hw hK
  obtain⟨f0,f1,f2,f3,f4,f5⟩:=hf it (by simp)
  have W:=Walks.range (prog:=X.prog) (w:=X.w) (I.ok.hd hc) it lo 1 n
  refine W.item i s _ _ hg st λv h' tk hv st' kk=>?_
  obtain⟨t,rfl⟩:=hv
  have I1:Inv X pins σ H {s with heap:=h',toks:=tk}:=I.turned (λb o hb e=>kk b o (by simpa using hb) e) f0 f1 f3 f4 f5
  refine⟨_,rfl,BW (s:={s with heap:=h',toks:=tk}) (n:= "range_iterator") st' rfl rfl (by decide) ⟨.int (lo+i),H,I1,⟨t,?_⟩,⟨rfl,rfl⟩,st',λb hb=>(hf b hb).1⟩⟩
  rw[acN]
 done:=by
  intro X hP hw hK hc i pins s σ H E I hf st hg
  subst hP hw hK
  obtain⟨f0,f1,f2,f3,f4,f5⟩:=hf it (by simp)
  exact wpAny_pyNext_range_end (I.ok.hd hc) st (by have:n<=i:=hg;omega) λh' eb=>⟨rfl,I.turned (t':=s.toks) (λb o hb e=>eb b o hb e) f0 f1 f3 f4 f5⟩
 self:=λ_ _ _ _ _ st h=>wpAny_pyIter_rangeiter st h
end L2
namespace L2
open PySem PySem.Spec PyProof.Rows
section
variable{X:Cx}{tg:Expr}
def Oz(K:PySem.W.Frag)(tl:TE):TI:=λσ H R=>tl σ H λx H1=>∃a,x= .ref a/\(∃xs,gR K H1 a xs)/\R (Se K a) H1
def Sg(K:PySem.W.Frag)(tl:TE):TI:=λσ H R=>tl σ H λx H1=>∃a,x= .ref a/\(∃xs,rQ K H1 a xs)/\R (Sf K a) H1
theorem rj{l:Expr}{tl:TE}(hl:PE X l tl):PI X tg l (Oz X.K tl):=by
 intro pins s σ H R I h
 refine c5 (hl pins s σ H _ I h) λv s1 ⟨x,H1,I1,r1,q1⟩=>?_
 obtain⟨a,e,⟨xs,hq⟩,q⟩:=q1
 subst e
 cases r1
 obtain⟨its,rv,p,hz⟩:=I1.list hq
 refine wpAny_pyIter_list p.isList ?_
 refine⟨s1.heap.objs.size,[s1.heap.objs.size],_,_,H1,rfl,I1.kept (t':=s1.toks) λb o e=>Heap.get?_push_of_some _ e,Dd a _,⟨_,Heap.get?_push_size _ rfl,rfl,rfl⟩,λb hb=>?_,q⟩
 have e:b=s1.heap.objs.size:=by simpa using hb
 subst e
 exact I1.Dc (aaz _) (I1.hok.fresh (aaz _))
theorem LG{l:Expr}{tl:TE}(hl:PE X l tl):PI X tg l (Sg X.K tl):=by
 intro pins s σ H R I h
 refine c5 (hl pins s σ H _ I h) λv s1 ⟨x,H1,I1,r1,q1⟩=>?_
 obtain⟨a,e,⟨xs,hq⟩,q⟩:=q1
 subst e
 cases r1
 obtain⟨its,rv,p,hz⟩:=I1.tuple hq
 refine wpAny_pyIter_tuple (show s1.heap.IsTuple a its.toArray from p) ?_
 refine⟨s1.heap.objs.size,[s1.heap.objs.size],_,_,H1,rfl,I1.kept (t':=s1.toks) λb o e=>Heap.get?_push_of_some _ e,Av a _,⟨_,Heap.get?_push_size _ rfl,rfl,rfl⟩,λb hb=>?_,q⟩
 have e:b=s1.heap.objs.size:=by simpa using hb
 subst e
 exact I1.Dc (aaz _) (I1.hok.fresh (aaz _))
theorem EF{pins:List (Addr ×Obj)}{σ:St}{H:Hp}{s:Shared}{R:It->Hp->Prop}{E:Value->Shared->Prop}{lo hi:Int}{t u v:Tok}{tk:Nat}(I:Inv X pins σ H s)(h1: -(2 ^ 62)<=lo)(h2:lo<2 ^ 62)(h3: -(2 ^ 62)<=hi)(h4:hi<2 ^ 62)
 (q:R (Rk lo (hi-lo).toNat) H):wpAny (model X.prog X.w) X.A (pyIter (.ref s.heap.objs.size)) (Sd X pins σ tg R) E {s with heap:=s.heap.push {cls:= .type "range",data:= .fields #[.int lo t,.int hi u,.int 1 v]},toks:=tk}:=by
 refine wpAny_pyIter_range (IsRange.new ..) (small_one h1 h2 h3 h4) ?_
 have I1:Inv X pins σ H {s with heap:=s.heap.push {cls:= .type "range",data:= .fields #[.int lo t,.int hi u,.int 1 v]},toks:=tk}:=I.kept λb o e=>Heap.get?_push_of_some _ e
 refine⟨(s.heap.push {cls:= .type "range",data:= .fields #[.int lo t,.int hi u,.int 1 v]}).objs.size,[(s.heap.push {cls:= .type "range",data:= .fields #[.int lo t,.int hi u,.int 1 v]}).objs.size],_,_,H,rfl,
  I1.kept (t':=tk) λb o e=>Heap.get?_push_of_some _ e,Aw _ lo (hi-lo).toNat,?_,λb hb=>?_,q⟩
 ·have e1:lo+((0:Nat):Int)*1=lo:=by simp
  have e2:(((hi-lo).toNat:Nat):Int)-((0:Nat):Int)=Builtin.Range.rangeSize lo hi 1:=by rw[rangeSize_one];split<;>omega
  show IsRangeIter _ _ (lo+((0:Nat):Int)*1) ((((hi-lo).toNat:Nat):Int)-((0:Nat):Int)) 1
  rw[e1,e2]
  exact Heap.get?_push_size _ rfl
 ·have e:b=(s.heap.push {cls:= .type "range",data:= .fields #[.int lo t,.int hi u,.int 1 v]}).objs.size:=by simpa using hb
  subst e
  exact I1.Dc (aaz _) (I1.hok.fresh (aaz _))
def OA(ta:TA):TI:=λσ H R=>ta σ H λvs H1=>∃j:Int,vs=[.int j]/\ -(2 ^ 62)<=j/\j<2 ^ 62/\R (Rk 0 j.toNat) H1
theorem De{a:Expr}{ta:TA}{p pos:Pos}(hg:Gl X "range")(hm:X.mg "range" =none)(ha:PA X [a] ta)(hs:starEach [a] X.env=[(false,eval a X.env)]:=by rfl):PI X tg (.Call (.Name "range" p) [a] [] pos) (OA ta):=by
 intro pins s σ H R I h
 refine Call_ (kE I hg hm boot_range (PyProof.Rows.callWith_type1 (c5 (ha pos pins s σ H _ I h) λus s1 ⟨vs,H1,I1,r1,q1⟩=>?_) hs rfl))
 obtain⟨j,e,q1,q2,q⟩:=q1
 subst e
 cases r1 with
 |cons r rr=>
  cases rr
  obtain⟨t,rfl⟩:=r
  exact call_range_1 (EF I1 (by omega) (by omega) q1 q2 (by simpa using q))
def Sh(wi:TI)(g:TG)(tb:TS):TS:=λD σ H=>wi σ H λJ H1=>∃W:Nat->Nat->St->Hp->Prop,(∃m,W 0 m σ H1)/\∀i m σ H,W i m σ H->
 (J.stop i H/\D.nx σ H)\/(J.go i H/\∃N:St->Hp->Prop,(∀σ' H',N σ' H'->∃m',m'<m/\W (i+1) m' σ' H')/\∀x H',J.HS i H x H'->g x σ H' λσ2 H2=>tb {D with nx:=N,ct:=N,bk:=D.nx} σ2 H2)
def rS(fp:List Addr)(h:Heap):List (Addr ×Obj):=fp.filterMap λb=>(h.get? b).map λo=>(b,o)
theorem ng{fp:List Addr}{h:Heap}{b:Addr}{o:Obj}(hb:b∈fp)(e:h.get? b=some o):(b,o)∈rS fp h:=acm.mpr ⟨b,hb,by rw[e];rfl⟩
theorem Df{fp:List Addr}{h:Heap}{p:Addr ×Obj}(hp:p∈rS fp h):p.1∈fp/\h.get? p.1=some p.2:=by
 obtain⟨b,hb,e⟩:=acm.mp hp
 cases q:h.get? b with
 |none=>rw[q]at e;cases e
 |some o=>
  rw[q]at e
  have e':(b,o)=p:=Option.some.inj e
  subst e'
  exact⟨hb,q⟩
theorem Inv.pinned{pins:List (Addr ×Obj)}{σ:St}{H:Hp}{s:Shared}{fp:List Addr}(I:Inv X pins σ H s)(hf:∀b∈fp,j7 X pins H b)(ho:∀b∈fp,∃o,s.heap.get? b=some o/\∀v,o.data≠ .cell v):Inv X (pins++rS fp s.heap) σ H s:=
 I.rf λp hp=>(aaF.mp hp).elim (λz=>I.pin p (aaP _ z)) λz=>by
   obtain⟨hb,e⟩:=Df z
   obtain⟨f0,f1,f2,_⟩:=hf p.1 hb
   obtain⟨o,e',d⟩:=ho p.1 hb
   rw[e]at e';cases e'
   exact⟨e,f0,f1,f2,d⟩
theorem Inv.kF{pins pl:List (Addr ×Obj)}{σ:St}{H:Hp}{s:Shared}(I:Inv X (pins++pl) σ H s):Inv X pins σ H s:=I.rf λp hp=>I.pin p (aaP _ (aaH _ hp))
theorem pB{iter:Expr}{body:List Stmt}{wi:TI}{g:TG}{tb:TS}{pos:Pos}(hp:PassesOwn (model X.prog X.w) X.A X.env X.xe)(hc:X.calm=true)(hi:PI X tg iter wi)(hg:PG X tg g)(hb:Au X body tb)
 (hs:∀x,foldedSetIterable iter X.env x=pure x:=by intro _;rfl):PS X (.For tg iter body [] pos) (Sh wi g tb):=by
 intro pins s σ H D I h
 refine wpAny_For (c5 (hi pins s σ H _ I h) λv s1 h1=>c5 h1 λitv s2 h2=>?_) hs
 obtain⟨it,fp,tn,J,H2,e,I2,T,st2,f2,W,⟨m0,w0⟩,turn⟩:=h2
 subst e
 have stat:∀{H':Hp},(∀b∈fp,H' b=none)->∀b∈fp,j7 X pins H' b:=λhn b hb=>⟨hn b hb,(f2 b hb).2⟩
 refine codeAny_forLoop_any (λn s'=>∃i σ' H',Inv X pins σ' H' s'/\tn i s'.heap/\(∀b∈fp,H' b=none)/\W i n σ' H') ?_ m0 ⟨0,σ,H2,I2,st2,λb hb=>(f2 b hb).1,w0⟩
 rintro n s3 ⟨i,σ3,H3,I3,st3,U1,w3⟩
 rcases turn i n σ3 H3 w3 with⟨stop,qn⟩|⟨go,N,hN,step⟩
 ·refine wpAny_passesOwn hp (c5 (T.done X rfl rfl rfl hc i pins s3 σ3 H3 X.xe I3 (stat U1) st3 stop) λr s4 ⟨hr,I4⟩=>?_)
  subst hr
  exact wpAny_execs_nil ⟨σ3,H3,I4,qn⟩
 ·refine wpAny_passesOwn hp (c5 (T.item X rfl rfl rfl hc i pins s3 σ3 H3 X.xe I3 (stat U1) st3 go) λr s4 ⟨u,hr,h4⟩=>?_)
  subst hr
  refine wpAny_passesOwn hp (c5 h4 λ_ s5 ⟨x,H5,I5,r5,y5,NU,Ip⟩=>?_)
  have Ws:=I5.pinned (stat Ip) (T.obj _ _ NU)
  refine wpAny_passesOwn hp (c5 (hg _ s5 σ3 H5 x u _ Ws r5 (step x H5 y5)) λ_ s6 ⟨σ6,H6,I6,q6⟩=>?_)
  refine wpAny_passesOwn hp (c5 (hb _ s6 σ6 H6 _ I6 q6) λf s7 q7=>?_)
  have again:∀{σ7:St} {H7:Hp},Inv X (pins++rS fp s5.heap) σ7 H7 s7->N σ7 H7->∃m,m<n/\∃i σ' H',Inv X pins σ' H' s7/\tn i s7.heap/\(∀b∈fp,H' b=none)/\W i m σ' H':=λ{σ7 H7} I7 n7=>by
   obtain⟨m',hm,w7⟩:=hN σ7 H7 n7
   refine⟨m',hm,i+1,σ7,H7,I7.kF,T.keep _ _ _ NU λb hb o e=>(I7.pin (b,o) (aaP _ (aaP _ (ng hb e)))).1,λb hb=>?_,w7⟩
   obtain⟨o,e,d⟩:=T.obj _ _ NU b hb
   exact(I7.pin (b,o) (aaP _ (aaP _ (ng hb e)))).2.1
  cases f with
  |next=>obtain⟨σ7,H7,I7,n7⟩:=q7;exact again I7 n7
  |cont=>obtain⟨σ7,H7,I7,n7⟩:=q7;exact again I7 n7
  |brk=>obtain⟨σ7,H7,I7,q7⟩:=q7;exact⟨σ7,H7,I7.kF,q7⟩
  |ret v=>obtain⟨x7,σ7,H7,I7,r7,q7⟩:=q7;exact⟨x7,σ7,H7,I7.kF,r7,q7⟩
end
end L2
namespace L2
open PySem PySem.Spec PyProof.Rows
abbrev R2:=V->V->Hp->VK->Prop
def Ai(X:Cx)(f:Value->Value->Sem Value)(r:R2):Prop:=
 ∀(pins:List (Addr ×Obj)) (s:Shared) (σ:St) (H:Hp) (x y:V) (v u:Value) (Q:VK),Inv X pins σ H s->RelV x v->RelV y u->r x y H Q->
  wpAny (model X.prog X.w) X.A (f v u) (EP X pins σ Q) X.xe s
def Si(X:Cx)(f:Value->Sem Value)(r:V->Hp->VK->Prop):Prop:=
 ∀(pins:List (Addr ×Obj)) (s:Shared) (σ:St) (H:Hp) (x:V) (v:Value) (Q:VK),Inv X pins σ H s->RelV x v->r x H Q->
  wpAny (model X.prog X.w) X.A (f v) (EP X pins σ Q) X.xe s
def EG(X:Cx)(f:Value)(r:List V->Hp->VK->Prop):Prop:=
 ∀(pins:List (Addr ×Obj)) (s:Shared) (σ:St) (H:Hp) (xs:List V) (us:List Value) (Q:VK),Inv X pins σ H s->Vals xs us->r xs H Q->
  wpAny (model X.prog X.w) X.A (call f us) (EP X pins σ Q) X.xe s
def Wt(r:R2)(ta tb:TE):TE:=λσ H Q=>ta σ H λx H1=>tb σ H1 λy H2=>r x y H2 Q
def Wu(r:V->Hp->VK->Prop)(ta:TE):TE:=λσ H Q=>ta σ H λx H1=>r x H1 Q
def rI(C:Int->Int->Prop)(g:Int->Int->V):R2:=λx y H Q=>∃i j,x= .int i/\y= .int j/\C i j/\Q (g i j) H
def Iq(g:Int->Int->V):R2:=λx y H Q=>∃i j,x= .int i/\y= .int j/\Q (g i j) H
def rU(g:Int->V):V->Hp->VK->Prop:=λx H Q=>∃i,x= .int i/\Q (g i) H
section
variable{X:Cx}{a b c:Expr}{ta tb tc:TE}{pos:Pos}
theorem Sj(ha:PE X a ta)(hb:PE X b tb){pins:List (Addr ×Obj)}{s:Shared}{σ:St}{H:Hp}{R:V->V->Hp->Prop}(I:Inv X pins σ H s)
 (h:ta σ H λx H1=>tb σ H1 λy H2=>R x y H2){Q:Value->Shared->Prop}{f:Value->Value->Sem Value}
 (hf:∀v u s2 x y H2,Inv X pins σ H2 s2->RelV x v->RelV y u->R x y H2->wpAny (model X.prog X.w) X.A (f v u) Q X.xe s2) :
 wpAny (model X.prog X.w) X.A (eval a X.env) (λv s₁=>wpAny (model X.prog X.w) X.A (eval b X.env) (λu s₂=>wpAny (model X.prog X.w) X.A (f v u) Q X.xe s₂) X.xe s₁) X.xe s:=by
 refine c5 (ha pins s σ H _ I h) λv s1 ⟨x,H1,I1,r1,q1⟩=>?_
 refine c5 (hb pins s1 σ H1 _ I1 q1) λu s2 ⟨y,H2,I2,r2,q2⟩=>?_
 exact hf v u s2 x y H2 I2 r1 r2 q2
theorem OB{op:UnaryOp}{r:V->Hp->VK->Prop}(ho:Si X (unaryOp op) r)(ha:PE X a ta):PE X (.UnaryOp op a pos) (Wu r ta):=by
 intro pins s σ H Q I h
 exact UnaryOp_ (c5 (ha pins s σ H _ I h) λv s1 ⟨x,H1,I1,r1,q1⟩=>ho pins s1 σ H1 x v Q I1 r1 q1)
theorem OC{f:Value->Value->Sem Value}{C:Int->Int->Prop}{g:Int->Int->Int}
 (rule:∀(i j:Int) (t u:Tok) (s:Shared) (Q:Value->Shared->Prop) (E:Value->Shared->Prop),C i j->Q (.int (g i j) s.toks) {s with toks:=s.toks+1}->wpAny (model X.prog X.w) X.A (f (.int i t) (.int j u)) Q E s) :
 Ai X f (rI C λi j=> .int (g i j)):=by
 intro pins s σ H x y v u Q I rx ry h
 obtain⟨i,j,rfl,rfl,hc,q⟩:=h
 obtain⟨t,rfl⟩:=rx
 obtain⟨t',rfl⟩:=ry
 exact rule i j t t' s _ _ hc ⟨.int (g i j),H,I.tok _,⟨_,rfl⟩,q⟩
theorem OD{f:Value->Value->Sem Value}{g:Int->Int->Int}
 (rule:∀(i j:Int) (t u:Tok) (s:Shared) (Q:Value->Shared->Prop) (E:Value->Shared->Prop),Q (.int (g i j) s.toks) {s with toks:=s.toks+1}->wpAny (model X.prog X.w) X.A (f (.int i t) (.int j u)) Q E s) :
 Ai X f (Iq λi j=> .int (g i j)):=by
 intro pins s σ H x y v u Q I rx ry h
 obtain⟨i,j,rfl,rfl,q⟩:=h
 obtain⟨t,rfl⟩:=rx
 obtain⟨t',rfl⟩:=ry
 exact rule i j t t' s _ _ ⟨.int (g i j),H,I.tok _,⟨_,rfl⟩,q⟩
theorem LH{f:Value->Value->Sem Value}{g:Int->Int->Bool}
 (rule:∀(i j:Int) (t u:Tok) (s:Shared) (Q:Value->Shared->Prop) (E:Value->Shared->Prop),Q (.bool (g i j)) s->wpAny (model X.prog X.w) X.A (f (.int i t) (.int j u)) Q E s) :
 Ai X f (Iq λi j=> .bl (g i j)):=by
 intro pins s σ H x y v u Q I rx ry h
 obtain⟨i,j,rfl,rfl,q⟩:=h
 obtain⟨t,rfl⟩:=rx
 obtain⟨t',rfl⟩:=ry
 exact rule i j t t' s _ _ ⟨.bl (g i j),H,I,rfl,q⟩
def Ir(i j:Int):Prop:=(-(2 ^ 64)<i/\i<2 ^ 64)\/(-(2 ^ 64)<j/\j<2 ^ 64)
theorem Ir.ok{i j:Int}(h:Ir i j):IntMulOk i j:=by
 rcases h with⟨h1,h2⟩|⟨h1,h2⟩
 ·exact .of_left (intBits_le_64 h1 h2)
 ·exact .of_right (intBits_le_64 h1 h2)
theorem LI:Ai X (binaryOp .Add) (Iq λi j=> .int (i+j)):=OD λ_ _ _ _ _ _ _ q=>add_int q
theorem LJ:Ai X (binaryOp .Sub) (Iq λi j=> .int (i-j)):=OD λ_ _ _ _ _ _ _ q=>sub_int q
theorem LK:Ai X (binaryOp .Mod) (rI (λ_ j=>0<j) λi j=> .int (i % j)):=OC λi j _ _ _ _ _ hc q=>by
 have h1:(0:Int)<j:=hc
 exact mod_int' (by omega) (by rw[Int.fmod_eq_emod_of_nonneg i (by omega)];exact q)
theorem Wv{f:Value->Sem Value}{g:Int->Int}
 (rule:∀(i:Int) (t:Tok) (s:Shared) (Q:Value->Shared->Prop) (E:Value->Shared->Prop),Q (.int (g i) s.toks) {s with toks:=s.toks+1}->wpAny (model X.prog X.w) X.A (f (.int i t)) Q E s) :
 Si X f (rU λi=> .int (g i)):=by
 intro pins s σ H x v Q I rx h
 obtain⟨i,rfl,q⟩:=h
 obtain⟨t,rfl⟩:=rx
 exact rule i t s _ _ ⟨.int (g i),H,I.tok _,⟨_,rfl⟩,q⟩
theorem LL:Si X (unaryOp .USub) (rU λi=> .int (-i)):=Wv λ_ _ _ _ _ q=>neg_int q
end
def LM:V->V->Bool
 | .bJ,.bJ=>true| .bJ,.int _=>true| .int _,.bJ=>true| .bJ,.bl _=>true| .bl _,.bJ=>true| .bJ,.str _=>true| .str _,.bJ=>true
 | .int _,.int _=>true| .bl _,.bl _=>true| .str _,.str _=>true| .Ei _,.Ei _=>true
 | .int _,.str _=>true| .str _,.int _=>true| .bl _,.str _=>true| .str _,.bl _=>true
 |_,_=>false
def Ww:R2:=λx y H Q=>LM x y=true/\Q (.bl (decide (x=y))) H
def Wx:R2:=λx y H Q=>LM x y=true/\Q (.bl (!decide (x=y))) H
theorem BX{i j:Int}:decide (V.int i=V.int j)=(i==j):=by
 rw[aa8]
 simp
theorem EH{i j:Bool}:decide (V.bl i=V.bl j)=(i==j):=by
 rw[aa8]
 simp
theorem BY{i j:Str}:decide (V.str i=V.str j)=(i==j):=by
 rw[aa8]
 simp
theorem BZ{i j:Array UInt8}:decide (V.Ei i=V.Ei j)=(i.toList==j.toList):=by
 rw[aa8]
 cases i
 cases j
 simp
section
variable{X:Cx}{a b c:Expr}{ta tb tc:TE}{pos:Pos}
theorem bE{pins:List (Addr ×Obj)}{σ:St}{H:Hp}{s:Shared}{Q:VK}{k k':Bool}(I:Inv X pins σ H s)(q:Q (.bl k) H)(e:k=k'):EP X pins σ Q (.bool k') s:=by
 subst e
 exact⟨.bl k,H,I,rfl,q⟩
theorem OE:Ai X (compareOp .Eq) Ww:=by
 intro pins s σ H x y v u Q I rx ry h
 obtain⟨hs,q⟩:=h
 cases x with
 |bJ=>
  cases rx
  cases y with
  |bJ=>cases ry;exact PySem.EqNone.eq_none_none (bE I q (by simp))
  |bl j=>cases ry;exact PySem.EqNone.eq_none_bool (bE I q (by simp))
  |int j=>obtain⟨t',rfl⟩:=ry;exact PySem.EqNone.eq_none_int (bE I q (by simp))
  |str j=>obtain⟨t',rfl⟩:=ry;exact PySem.EqNone.eq_none_str (bE I q (by simp))
  |_=>exact absurd (show false=true from hs) aaE
 |bl i=>
  cases rx
  cases y with
  |bJ=>cases ry;exact PySem.EqNone.eq_bool_none (bE I q (by simp))
  |bl j=>cases ry;exact eq_bool (bE I q EH)
  |str j=>obtain⟨t',rfl⟩:=ry;exact PySem.EqMixed.eq_bool_str (bE I q (by simp))
  |_=>exact absurd (show false=true from hs) aaE
 |int i=>
  obtain⟨t,rfl⟩:=rx
  cases y with
  |bJ=>cases ry;exact PySem.EqNone.eq_int_none (bE I q (by simp))
  |int j=>obtain⟨t',rfl⟩:=ry;exact eq_int (bE I q BX)
  |str j=>obtain⟨t',rfl⟩:=ry;exact PySem.EqMixed.eq_int_str (bE I q (by simp))
  |_=>exact absurd (show false=true from hs) aaE
 |str i=>
  obtain⟨t,rfl⟩:=rx
  cases y with
  |bJ=>cases ry;exact PySem.EqNone.eq_str_none (bE I q (by simp))
  |bl j=>cases ry;exact PySem.EqMixed.eq_str_bool (bE I q (by simp))
  |int j=>obtain⟨t',rfl⟩:=ry;exact PySem.EqMixed.eq_str_int (bE I q (by simp))
  |str j=>obtain⟨t',rfl⟩:=ry;exact eq_str (bE I q BY)
  |_=>exact absurd (show false=true from hs) aaE
 |Ei i=>
  obtain⟨t,rfl⟩:=rx
  cases y with
  |Ei j=>obtain⟨t',rfl⟩:=ry;exact PySem.W.eq_bytes (bE I q BZ)
  |_=>exact absurd (show false=true from hs) aaE
 |_=>cases y<;>exact absurd (show false=true from hs) aaE
theorem OF:Ai X (compareOp .NotEq) Wx:=by
 intro pins s σ H x y v u Q I rx ry h
 obtain⟨hs,q⟩:=h
 cases x with
 |bJ=>
  cases rx
  cases y with
  |bJ=>cases ry;exact PySem.EqNone.ne_none_none (bE I q (by simp))
  |bl j=>cases ry;exact PySem.EqNone.ne_none_bool (bE I q (by simp))
  |int j=>obtain⟨t',rfl⟩:=ry;exact PySem.EqNone.ne_none_int (bE I q (by simp))
  |str j=>obtain⟨t',rfl⟩:=ry;exact PySem.EqNone.ne_none_str (bE I q (by simp))
  |_=>exact absurd (show false=true from hs) aaE
 |bl i=>
  cases rx
  cases y with
  |bJ=>cases ry;exact PySem.EqNone.ne_bool_none (bE I q (by simp))
  |bl j=>cases ry;exact ne_bool (bE I q (congrArg not EH))
  |str j=>obtain⟨t',rfl⟩:=ry;exact PySem.EqMixed.ne_bool_str (bE I q (by simp))
  |_=>exact absurd (show false=true from hs) aaE
 |int i=>
  obtain⟨t,rfl⟩:=rx
  cases y with
  |bJ=>cases ry;exact PySem.EqNone.ne_int_none (bE I q (by simp))
  |int j=>obtain⟨t',rfl⟩:=ry;exact ne_int (bE I q (congrArg not BX))
  |str j=>obtain⟨t',rfl⟩:=ry;exact PySem.EqMixed.ne_int_str (bE I q (by simp))
  |_=>exact absurd (show false=true from hs) aaE
 |str i=>
  obtain⟨t,rfl⟩:=rx
  cases y with
  |bJ=>cases ry;exact PySem.EqNone.ne_str_none (bE I q (by simp))
  |bl j=>cases ry;exact PySem.EqMixed.ne_str_bool (bE I q (by simp))
  |int j=>obtain⟨t',rfl⟩:=ry;exact PySem.EqMixed.ne_str_int (bE I q (by simp))
  |str j=>obtain⟨t',rfl⟩:=ry;exact ne_str (bE I q (congrArg not BY))
  |_=>exact absurd (show false=true from hs) aaE
 |Ei i=>
  obtain⟨t,rfl⟩:=rx
  cases y with
  |Ei j=>obtain⟨t',rfl⟩:=ry;exact PySem.W.ne_bytes (bE I q (congrArg not BZ))
  |_=>exact absurd (show false=true from hs) aaE
 |_=>cases y<;>exact absurd (show false=true from hs) aaE
theorem OG:Ai X (compareOp .Lt) (Iq λi j=> .bl (decide (i<j))):=LH λ_ _ _ _ _ _ _ q=>lt_int q
theorem OH:Ai X (compareOp .LtE) (Iq λi j=> .bl (decide (i<=j))):=LH λ_ _ _ _ _ _ _ q=>le_int q
theorem OI:Ai X (compareOp .Gt) (Iq λi j=> .bl (decide (j<i))):=LH λ_ _ _ _ _ _ _ q=>gt_int q
theorem aI(b:Expr){op:CmpOp}(h:op≠ .In:=by decide)(h2:op≠ .NotIn:=by decide):behindInMarks op b=false:=by
 have e1:(op==CmpOp.In)=false:=by cases op<;>first|rfl|exact absurd rfl h
 have e2:(op==CmpOp.NotIn)=false:=by cases op<;>first|rfl|exact absurd rfl h2
 cases b<;>simp[behindInMarks,e1,e2]
theorem Ax:(sizeLine:Nat)<2 ^ 63:=by rw[sizeLine_eq];decide
theorem vals1{x:V}{us:List Value}(r:Vals [x] us):∃u,us=[u]/\RelV x u:=by
 cases r with
 |cons r1 r2=>cases r2;exact⟨_,rfl,r1⟩
theorem vals2{x y:V}{us:List Value}(r:Vals [x,y] us):∃u w',us=[u,w']/\RelV x u/\RelV y w':=by
 cases r with
 |cons r1 r2=>
  cases r2 with
  |cons r3 r4=>cases r4;exact⟨_,_,rfl,r1,r3⟩
end
end L2
namespace L2
open PySem PySem.Spec PyProof.Rows
structure LN(h:Heap)(x dx C:Addr)(mA:Str->Option Value):Prop where
 obj:h.get? x=some (PySem.W.instObj C dx)
 ns:h.Ns1 dx mA
 ne:dx≠x
theorem vc{h:Heap}{dx:Addr}{mA:Str->Option Value}(n:h.Ns1 dx mA):∃od,h.get? dx=some od/\∀name,PySem.W.lookIn name od=some (mA name):=by
 obtain⟨o,es,ep,ho,hd,hk,_,hm⟩:=n
 refine⟨o,ho,λname=>?_⟩
 have e:=hm name
 unfold nsFind findBy at e
 rw[<-Array.find?_toList]at e
 unfold PySem.W.lookIn
 rw[hd]
 dsimp only
 split
 ·rename_i y q
  rw[q]at e
  exact congrArg some e
 ·rename_i q
  rw[q]at e
  have a:es.toList.any (·.refKey)=false:=by
   rw[adG]
   intro y hy
   obtain⟨z,t,hkey⟩:=hk y (Array.mem_toList_iff.mp hy)
   simp[DictEntry.refKey,hkey]
  have a':¬es.toList.any (·.refKey)=true:=by rw[a];exact aaE
  rw[if_neg a']
  exact congrArg some e
theorem LN.look{h:Heap}{x dx C:Addr}{mA:Str->Option Value}(I:LN h x dx C mA):∃od,PySem.W.InstAt h x (PySem.W.instObj C dx) C (some od)/\∀name,PySem.W.lookIn name od=some (mA name):=
 let ⟨od,ho,hl⟩:=vc I.ns
 ⟨od,⟨I.obj,rfl,rfl,ho⟩,hl⟩
section
variable{prog:Program}{w:World}{A:Around}{E:Value->Shared->Prop}{s:Shared}{K:PySem.W.Frag}{x dx C f:Addr}{mA:Str->Option Value}{name:Str}{v:Value}
end
theorem C6.some_of{v:V}{o:Option Value}(r:C6 (some v) o):∃u,o=some u/\RelV v u:=by
 cases o with
 |none=>exact(show False from r).elim
 |some u=>exact⟨u,rfl,r⟩
theorem Dg{v:V}{u:Value}(r:RelV v u):PySem.W.handedIn u=true:=by
 cases v with
 |bJ=>cases(show u=Value.none from r);rfl
 |bl b=>cases(show u=Value.bool b from r);rfl
 |int i=>obtain⟨t,e⟩:=(show∃t,u=Value.int i t from r);cases e;rfl
 |str x=>obtain⟨t,e⟩:=(show∃t,u=Value.str x t from r);cases e;rfl
 |Ei b=>obtain⟨t,e⟩:=(show∃t,u=Value.bytes b t from r);cases e;rfl
 |Lu b=>obtain⟨t,e⟩:=(show∃t,u=Value.float b t from r);cases e;rfl
 |ref a=>cases(show u=Value.ref a from r);rfl
 |ty n=>cases(show u=Value.type n from r);rfl
section
variable{P:Program}{w:World}{H H':Hp}{h h':Heap}{a C dx:Addr}{fs fs':List (Str ×V)}
theorem Iu(hok:iR P w H h)(e:H a=some (.ins C dx fs)):∃mA,LN h a dx C mA/\(∀f,C6 (fs.lookup f) (mA f))/\PySem.Within mA (fs.map (·.1))/\fs.length<=1000/\H dx=some (.own a):=by
 obtain⟨d,z,ne,ob,mA,n,r,q⟩:=(show cj P w H h a (.ins C dx fs)from hok a _ e)
 exact⟨mA,⟨ob,n,ne⟩,r,q,z,d⟩
end
structure Sk(K:PySem.W.Frag)(C:Addr):Prop where
 pg:PySem.W.plainGet K C Str.empty=true
 hd:PySem.W.hasDictIn K C=true
 po:PySem.W.plainOver K C=true
 sa:PySem.W.findIn K (.ref C) "__setattr__" =some (some (.builtin "object.__setattr__"))
theorem Sk.get{K:PySem.W.Frag}{C:Addr}(c:Sk K C)(f:Str):PySem.W.plainGet K C f=true:=c.pg
def Ay(K:PySem.W.Frag)(C:Addr)(f:Str):Prop:=PySem.W.findIn K (.ref C) f=some none
theorem Ay.OJ{K:PySem.W.Frag}{C:Addr}{f:Str}(n:Ay K C f):PySem.W.takerIn K C f=some none:=by
 unfold PySem.W.takerIn
 rw[show PySem.W.findIn K (.ref C) f=some none from n]
 rfl
structure Zt(K:PySem.W.Frag)(C:Addr)(f:Str)(v:V)(u:Value):Prop where
 at_:PySem.W.findIn K (.ref C) f=some (some u)
 rel:RelV v u
 get:PySem.W.specialIn K u "__get__" =some none
 cp:PySem.W.copiedNames.contains f=false
structure Meth(K:PySem.W.Frag)(C:Addr)(m:Str)(f:Addr):Prop where
 at_:PySem.W.findIn K (.ref C) m=some (some (.ref f))
 fn:PySem.W.isFn K (.ref f)=true
 kp:PySem.W.keepIn K (.ref f)=true
section
variable{X:Cx}{pins:List (Addr ×Obj)}{σ:St}{H:Hp}{s:Shared}{a C dx:Addr}{fs:List (Str ×V)}{f:Str}{v:V}{A:Around}{E:Value->Shared->Prop}
theorem Iv{prog:Program}{w:World}{env:Env}{e:Expr}{f:Str}{pos:Pos}{s:Shared}{Q:Value->Shared->Prop}(hb:attributeBase e f env (eval e env)=eval e env)
 (h:wpAny (model prog w) A (eval e env) (λo s₁=>wpAny (model prog w) A (getAttr o f true) Q E s₁) E s):wpAny (model prog w) A (eval (.Attribute e f pos) env) Q E s:=
 Attribute_any_ h (by rw[arm_eval_Attribute,hb])
end
section
variable{X:Cx}{o e value:Expr}{f:Str}{pos pos' tpos:Pos}{ta tv:TE}
end
section
variable{X:Cx}{pins:List (Addr ×Obj)}{σ:St}{H:Hp}{s:Shared}{A:Around}{E:Value->Shared->Prop}{Q:Value->Shared->Prop}{c:Value}{b:Bool}
inductive qN(K:PySem.W.Frag)(H:Hp):V->Value->Prop where
 |bJ:qN K H .bJ (.type "NoneType")
 |bl (x:Bool):qN K H (.bl x) (.type "bool")
 |int (i:Int):qN K H (.int i) (.type "int")
 |str (x:Str):qN K H (.str x) (.type "str")
 |Lu (x:UInt64):qN K H (.Lu x) (.type "float")
 |lst {a:Addr} {xs:List V} (e:H a=some (.lst xs)):qN K H (.ref a) (.type "list")
 |gm {a:Addr} {o:Obj} {xs:List V} (e:H a=some (.gm o (.lst xs))):qN K H (.ref a) (.type "list")
 |tup {a:Addr} {xs:List V} (e:H a=some (.tup xs)):qN K H (.ref a) (.type "tuple")
 |dK {a:Addr} {kvs:List (Key ×V)} (e:H a=some (.dK kvs)):qN K H (.ref a) (.type "dict")
 |dT {a:Addr} {kvs:List (List Key ×V)} (e:H a=some (.dT kvs)):qN K H (.ref a) (.type "dict")
 |ins {a C dx:Addr} {fs:List (Str ×V)} (e:H a=some (.ins C dx fs)) (cl:Sk K C) (ha:PySem.W.findIn K (.ref C) "__class__" =some (some (.builtin "object.__class__")))
  (hn:PySem.W.specialIn K (.builtin "object.__class__") "__get__" =some (some (.builtin "getset_descriptor.__get__"))) (htk:PySem.W.takesIn K (.builtin "object.__class__")=some true)
  (hm:PySem.W.mroIn K C (.type "object")=some true):qN K H (.ref a) (.ref C)
theorem gS{x:V}{u t:Value}(I:Inv X pins σ H s)(rx:RelV x u)(ty:qN X.K H x t)(e:PySem.W.kitOne X.K t c=some b)(h:∀tk,Q (.bool b) {s with toks:=tk}) :
 wpAny (model X.prog X.w) A (call (.builtin "isinstance") [u,c]) Q E s:=by
 cases ty with
 |bJ=>cases(show u=Value.none from rx);exact PySem.W.kia_one PySem.W.kitx_none I.nS True.intro e (λz=>nomatch z) h
 |bl y=>cases(show u=Value.bool y from rx);exact PySem.W.kia_one PySem.W.kitx_bool I.nS True.intro e (λz=>nomatch z) h
 |int i=>obtain⟨t,q⟩:=(show∃t,u=Value.int i t from rx);cases q;exact PySem.W.kia_one PySem.W.kitx_int I.nS True.intro e (λz=>nomatch z) h
 |str y=>obtain⟨t,q⟩:=(show∃t,u=Value.str y t from rx);cases q;exact PySem.W.kia_one PySem.W.kitx_str I.nS True.intro e (λz=>nomatch z) h
 |Lu y=>obtain⟨t,q⟩:=(show∃t,u=Value.float y t from rx);cases q;exact PySem.W.kia_one PySem.W.kitx_float I.nS True.intro e (λz=>nomatch z) h
 |@lst a xs ea=>
  cases(show u=Value.ref a from rx)
  obtain⟨_,_,n,_,h1⟩:=(show cj X.prog X.w H s.heap a (.lst xs)from I.hok a _ ea)
  exact PySem.W.kia_one PySem.W.kitx_list I.nS ⟨_,h1,rfl⟩ e (λz=>nomatch z) h
 |@gm a ob xs ea=>
  cases(show u=Value.ref a from rx)
  obtain⟨_,_,_,n,_,h1⟩:=(show cj X.prog X.w H s.heap a (.gm ob (.lst xs))from I.hok a _ ea)
  exact PySem.W.kia_one PySem.W.kitx_list I.nS ⟨_,h1,rfl⟩ e (λz=>nomatch z) h
 |@tup a xs ea=>
  cases(show u=Value.ref a from rx)
  obtain⟨_,_,_,p⟩:=(show cj X.prog X.w H s.heap a (.tup xs)from I.hok a _ ea)
  obtain⟨o,h1,h2,_⟩:=p
  exact PySem.W.kia_one PySem.W.kitx_tuple I.nS ⟨o,h1,h2⟩ e (λz=>nomatch z) h
 |@dK a kvs ea=>
  cases(show u=Value.ref a from rx)
  obtain⟨_,_,vs,_,p⟩:=(show cj X.prog X.w H s.heap a (.dK kvs)from I.hok a _ ea)
  obtain⟨o,es,ep,h1,h2,_⟩:=p
  exact PySem.W.kia_one PySem.W.kitx_dict I.nS ⟨o,h1,h2.1⟩ e (λz=>nomatch z) h
 |@dT a kvs ea=>
  cases(show u=Value.ref a from rx)
  obtain⟨_,_,xs,_,o,es,ep,h1,h2,_⟩:=(show cj X.prog X.w H s.heap a (.dT kvs)from I.hok a _ ea)
  exact PySem.W.kia_one PySem.W.kitx_dict I.nS ⟨o,h1,h2.1⟩ e (λz=>nomatch z) h
 |@ins a C dx fs ea cl ha hn htk hm=>
  cases(show u=Value.ref a from rx)
  obtain⟨mA,O,_⟩:=Iu I.hok ea
  obtain⟨od,J,_⟩:=O.look
  exact PySem.W.kia_one (PySem.W.kitx_own (cl.get _) cl.hd ha hn htk hm) I.nS J e (λz=>nomatch z) h
end
end L2
namespace L2
open PySem PySem.Spec PyProof.Rows
structure fK(k:Nat)(A:Around):Prop where
 hd:A.handled=none
 dp:A.depth+3*k+5<recursionLimit
 un:A.units+16*k+200<cLine
theorem fK.mono{j k:Nat}{A:Around}(r:fK k A)(h:j<=k):fK j A:=⟨r.hd,by have:=r.dp;omega,by have:=r.un;omega⟩
theorem fK.deeper{k:Nat}{A:Around}(r:fK (k+1) A)(env:Env):fK k (A.deeper env):=
 ⟨r.hd,by have:=r.dp;show A.depth+1+3*k+5<_;omega,by have:=r.un;show A.units+3+16*k+200<_;omega⟩
theorem Az{A:Around}{C:Addr}{us:List Value}{kw:List (Str ×Value)}:(A.under (.builtin "type.__call__" ⟨.ref C::us,kw⟩)).depth=A.depth+1:=by
 first|rfl|simp[Around.under,Code.weight,Code.isCreation,Code.isGuard,Code.isCaller,Code.frames,Code.isFrame,guardIds]
theorem AA{A:Around}{C:Addr}{us:List Value}{kw:List (Str ×Value)}:(A.under (.builtin "type.__call__" ⟨.ref C::us,kw⟩)).units=A.units+1:=by
 first|rfl|simp[Around.under,Code.cUnits,Code.frames,Code.isFrame]
theorem fK.make{k:Nat}{A:Around}(r:fK (k+1) A)(C:Addr)(us:List Value)(kw:List (Str ×Value)):fK k (A.under (.builtin "type.__call__" ⟨.ref C::us,kw⟩)):=
 ⟨r.hd,by have:=r.dp;rw[Az];omega,by have:=r.un;rw[AA];omega⟩
theorem fK.depth{k:Nat}{A:Around}(r:fK k A):A.depth<recursionLimit:=by have:=r.dp;omega
theorem fK.units{k:Nat}{A:Around}(r:fK k A):A.units+64<cLine:=by have:=r.un;omega
def LO:TA:=λ_ H Q=>Q [] H
def EI(ta:TE)(tr:TA):TA:=λσ H Q=>ta σ H λx H1=>tr σ H1 λxs H2=>Q (x::xs) H2
section
variable{X:Cx}{e:Expr}{es:List Expr}{te:TE}{t:TA}{pos:Pos}
theorem kG:PA X [] LO:=λ_ _ _ _ H Q I h=>Calls.spliced_nil ⟨[],H,I,.nil,h⟩
theorem iT(ha:PE X e te)(hr:PA X es t)(hs:starEach (e::es) X.env=(false,eval e X.env)::starEach es X.env:=by rfl):PA X (e::es) (EI te t):=by
 intro pos pins s σ H Q I h
 rw[hs]
 show wpAny _ _ (spliced ((false,eval e X.env)::backTo pos (starEach es X.env))) _ _ s
 refine Calls.spliced_cons (c5 (ha pins s σ H _ I h) λu s1 ⟨x,H1,I1,r1,q1⟩=>?_)
 exact c5 (hr pos pins s1 σ H1 _ I1 q1) λus s2 ⟨xs,H2,I2,r2,q2⟩=>⟨x::xs,H2,I2,.cons r1 r2,q2⟩
def Sl(t:TA):TE:=λσ H Q=>t σ H λxs H1=>xs.length<=sizeLine/\∀p,H1 p=none->Q (.ref p) (upd H1 p (.tup xs))
def Sn(t:TA):TE:=λσ H Q=>t σ H λxs H1=>xs.length<=sizeLine/\∀p,H1 p=none->Q (.ref p) (upd H1 p (.lst xs))
theorem LP{x1}(h:PA X es t):PE X (.Tuple es x1 pos) (Sl t):=by
 intro pins s σ H Q I hq
 refine wpAny_Tuple_spliced (c5 (h pos pins s σ H _ I hq) λus s1 ⟨xs,H1,I1,r,z,q⟩=>⟨by rw[<-r.length];exact z,?_⟩)
 have hf:H1 s1.heap.objs.size=none:=I1.hok.fresh (aaz _)
 refine⟨.ref s1.heap.objs.size,upd H1 s1.heap.objs.size (.tup xs),I1.laid (t':=s1.toks) (λb u e=>Heap.get?_push_of_some _ e) (aaz _) ?_,rfl,q _ hf⟩
 exact⟨z,us,r,⟨_,Heap.get?_push_size _ rfl,rfl,_,rfl⟩⟩
theorem AD(h:PA X es t):PE X (.List es pos) (Sn t):=by
 intro pins s σ H Q I hq
 refine wpAny_List_spliced (c5 (h pos pins s σ H _ I hq) λus s1 ⟨xs,H1,I1,r,z,q⟩=>⟨by rw[<-r.length];exact z,?_⟩)
 have hf:H1 s1.heap.objs.size=none:=I1.hok.fresh (aaz _)
 refine⟨.ref s1.heap.objs.size,upd H1 s1.heap.objs.size (.lst xs),I1.laid (t':=s1.toks) (λb u e=>Heap.get?_push_of_some _ e) (aaz _) ?_,rfl,q _ hf⟩
 exact⟨z,us,0,r,Heap.get?_push_size _ rfl⟩
end
abbrev Sp:=List V->Hp->VK->XK->Prop
abbrev Ek:=List Env->Hp->Shared->XK->Value->Shared->Prop
structure AE(P:Program)(w:World)(K:PySem.W.Frag)(mg:Str->Option Value)(base:Heap)(A:Around)(outer:List Env)(s:Shared)(H:Hp):Prop where
 frames:A.frames=some outer
 mod:Mod K mg base
 bs:∀b o,base.get? b=some o->s.heap.get? b=some o/\H b=none
 HR:base.objs.size<=s.heap.objs.size
 nR:s.heap.FunFrames base outer
 Ih:∀b∈frs outer,H b=none
 hok:iR P w H s.heap
 bare:AllBare s.gens
def CE(outer:List Env)(P:Program)(w:World)(H:Hp)(s:Shared)(Q:VK)(u:Value)(s':Shared):Prop:=
 ∃v H',s'.os=s.os/\AllBare s'.gens/\Un (frs outer) [] H H' s.heap s'.heap/\iR P w H' s'.heap/\RelV v u/\Q v H'
def CR(CX:Ek)(outer:List Env)(P:Program)(w:World)(H:Hp)(s:Shared)(Q:VK)(E:XK)(r:Result)(s':Shared):Prop:=
 match r with
 | .ok (.ret u)=>CE outer P w H s Q u s'
 | .ok _=>False
 | .error e=>CX outer H s E e s'
structure cz(P:Program)(w:World)(K:PySem.W.Frag)(mg:Str->Option Value)(base:Heap)(CX:Ek)(k:Nat)(f:Addr)(fd:FuncData)(ps:List Str)(sp:Sp):Prop where
 len:∀vs H Q E,sp vs H Q E->vs.length=ps.length
 run:∀(A:Around) (outer:List Env) (s:Shared) (H:Hp) (args:Args) (us:List Value) (vs:List V) (Q:VK) (E:XK),fK k A->AE P w K mg base A outer s H->BindsTo s fd args (ps.zip us)->Vals vs us->sp vs H Q E->
  codeAny (model P w) A (.call (.ref f) args) (CR CX outer P w H s Q E) s
theorem AE.make{P:Program}{w:World}{K:PySem.W.Frag}{mg:Str->Option Value}{base:Heap}{A:Around}{outer:List Env}{s:Shared}{H:Hp}(e:AE P w K mg base A outer s H)(C:Addr)(us:List Value)(kw:List (Str ×Value)) :
 AE P w K mg base (A.under (.builtin "type.__call__" ⟨.ref C::us,kw⟩)) outer s H:=⟨by first|exact e.frames|(simpa[Around.under,Code.envs,Code.isFrame,pushEnvs]using e.frames),e.mod,e.bs,e.HR,e.nR,e.Ih,e.hok,e.bare⟩
section
variable{X:Cx}{pins:List (Addr ×Obj)}{σ:St}{H:Hp}{s s':Shared}
theorem Inv.LQ(I:Inv X pins σ H s):AE X.prog X.w X.K X.mg X.base X.A X.stack s H:=
 ⟨I.ok.frames,I.ok.mod,I.bs,abo I.ok.HR I.sz,I.stack,I.q8,I.hok,I.bare⟩
theorem Inv.after{Q:VK}{u:Value}(I:Inv X pins σ H s)(h:CE X.stack X.prog X.w H s Q u s'):EP X pins σ Q u s':=by
 obtain⟨v,H',os,bare,un,hok,r,q⟩:=h
 obtain⟨hh,g,d,t,os'⟩:=s'
 obtain rfl:os'=s.os:=os
 exact⟨v,H',I.call (h':=hh) (g':=g) (d':=d) (t':=t) (ch:=[]) un hok bare (λb z=>absurd z (by simp)),r,q⟩
end
def OL(sp:Sp)(El:List V)(E:XK)(t:TA):TE:=λσ H Q=>t σ H λvs H1=>sp (vs++El) H1 Q E
def Binds(K:PySem.W.Frag)(fd:FuncData)(ps:List Str)(ds:List Value):Prop:=
 ∀(s:Shared) (us:List Value),K.In s.heap->(us++ds).length=ps.length->BindsTo s fd ⟨us,[]⟩ (ps.zip (us++ds))
theorem Binds.all{K:PySem.W.Frag}{fd:FuncData}{ps:List Str}(h:∀us:List Value,us.length=ps.length->bindArgs fd ⟨us,[]⟩=pure (ps.zip us)):Binds K fd ps []:=λs us _ hl=>by
 rw[abf]at hl ⊢
 exact .of_eq (h us hl)
def Passes(CX:Ek)(X:Cx)(E:XK):Prop:= ∀(pins:List (Addr ×Obj)) (σ:St) (H:Hp) (s:Shared) (e:Value) (s':Shared),Inv X pins σ H s->CX X.stack H s E e s'->X.xe e s'
section
variable{X:Cx}{CX:Ek}{k:Nat}{f C:Addr}{fd:FuncData}{ps:List Str}{sp:Sp}{El:List V}{ds:List Value}{E:XK}{x m:Str}{p pos apos:Pos}{e o:Expr}{es:List Expr}{ta:TE}{t:TA}
theorem LR{pins:List (Addr ×Obj)}{σ:St}{H:Hp}{s:Shared}{Q:VK}{us:List Value}{vs:List V}(F:cz X.prog X.w X.K X.mg X.base CX k f fd ps sp)(hr:fK k X.A)(hb:Binds X.K fd ps ds)(hd:Vals El ds)(hx:Passes CX X E)
 (I:Inv X pins σ H s)(r:Vals vs us)(h:sp (vs++El) H Q E):wpAny (model X.prog X.w) X.A (call (.ref f) us) (EP X pins σ Q) X.xe s:=by
 have r2:Vals (vs++El) (us++ds):=r.append hd
 have hl:(us++ds).length=ps.length:=by rw[<-r2.length];exact F.len _ _ _ _ h
 refine wpAny_call (codeAny_mono (F.run X.A X.stack s H ⟨us,[]⟩ (us++ds) (vs++El) Q E hr I.LQ (hb s us I.nS hl) r2 h) λr s' hq=>?_)
 cases r with
 |error e=>exact hx pins σ H s e s' I hq
 |ok fl=>
  cases fl with
  |ret u=>exact I.after hq
  |next=>exact False.elim hq
  |brk=>exact False.elim hq
  |cont=>exact False.elim hq
theorem B0(F:cz X.prog X.w X.K X.mg X.base CX k f fd ps sp)(hr:fK k X.A)(hg:Gl X x)(hm:X.mg x=some (.ref f))(hk:PySem.W.keepIn X.K (.ref f)=true)(hb:Binds X.K fd ps ds)(hd:Vals El ds)(hx:Passes CX X E)
 (ha:PA X (e::es) t)(hdb:(x==("__debug__" :Str))=false:=by decide)(he:starEach (e::es) X.env=(false,eval e X.env)::starEach es X.env:=by rfl)(hpl:(backTo pos (starEach es X.env)).any (·.1)=false:=by rfl) :
 PE X (.Call (.Name x p) (e::es) [] pos) (OL sp El E t):=by
 intro pins s σ H Q I h
 refine wpAny_Call_Name_kw (nT I hg hm ?_ hdb)
 refine PySem.W.callWith_K (h₀:=X.base) I.ok.mod.u9 hk (c5 (ha pos pins s σ H _ I h) λus s1 ⟨vs,H1,I1,r,q⟩=>⟨I1.nS,?_⟩) he hpl
 exact LR F hr hb hd hx I1 r q
structure Mk(K:PySem.W.Frag)(C f:Addr):Prop where
 makes:PySem.W.makesIn K C=true
 init:PySem.W.findIn K (.ref C) "__init__" =some (some (.ref f))
 fn:PySem.W.isFn K (.ref f)=true
 kp:PySem.W.keepIn K (.ref C)=true
end
section
variable{X:Cx}{CX:Ek}{k:Nat}{f C:Addr}{fd:FuncData}{ps ks:List Str}{sp:Sp}{E:XK}{x m:Str}{p pos apos kpos:Pos}{e o:Expr}{es:List Expr}{kws:List Keyword}{te ta:TE}{t tk:TA}{nm:Option Str}
structure So(K:PySem.W.Frag)(fd:FuncData)(ps ks:List Str)(g:List Value->List Value->List Value)(gV:List V->List V->List V):Prop where
 to:∀(s:Shared) (us ws:List Value),K.In s.heap->(g us ws).length=ps.length->BindsTo s fd ⟨us,ks.zip ws⟩ (ps.zip (g us ws))
 rel:∀{vs:List V} {us:List Value} {zs:List V} {ws:List Value},Vals vs us->Vals zs ws->Vals (gV vs zs) (g us ws)
variable{g:List Value->List Value->List Value}{gV:List V->List V->List V}
end
structure aO(N P:List Str)(sc:Scope):Prop where
 kind:sc.kind= .function
 co:sc.isCoroutine=false
 gen:sc.isGenerator=false
 nd:N.Nodup
 pre:N.take P.length=P
 par:∀x∈P,sc.names.lookup x=some .local\/sc.names.lookup x=some .cell
 LS:∀y∈sc.names,y.2≠ .free
theorem vd{kindOf:Str->Option NameKind}{x:Str}:∀{binds:List (Str ×Value)} {m:Str->Option Value},(∀v,(x,v)∉binds)->bindL kindOf binds m x=m x
 |[],_,_=>rfl
 |(n,v)::r,m,h=>by
  unfold bindL
  rw[vd λw hw=>h w (aar _ hw)]
  split
  ·have:x≠n:=by rintro rfl;exact h v aaG
   simp[this]
  ·rfl
theorem ve{kindOf:Str->Option NameKind}{x:Str}:∀{binds:List (Str ×Value)} {m:Str->Option Value},(∀v,(x,v)∉binds)->bindC kindOf binds m x=m x
 |[],_,_=>rfl
 |(n,v)::r,m,h=>by
  unfold bindC
  rw[ve λw hw=>h w (aar _ hw)]
  split
  ·rfl
  ·have:x≠n:=by rintro rfl;exact h v aaG
   simp[this]
theorem vf{kindOf:Str->Option NameKind}{x:Str}{v:Value}:∀{P:List Str} {vs:List Value} {i:Nat} {m:Str->Option Value},P.Nodup->P[i]?=some x->vs[i]?=some v->kindOf x=some .local->
 bindL kindOf (P.zip vs) m x=some v
 |[],_,_,_,_,h,_,_=>by simp at h
 |_::_,[],_,_,_,_,h,_=>by simp at h
 |p::P,w::vs,0,m,nd,h1,h2,hk=>by
  simp at h1 h2;subst h1;subst h2
  show bindL kindOf ((p,w)::P.zip vs) m p=_
  unfold bindL
  rw[vd λv hv=>(aaR.mp nd).1 (adf hv).1,if_pos hk]
  simp
 |p::P,w::vs,i+1,m,nd,h1,h2,hk=>by
  show bindL kindOf ((p,w)::P.zip vs) m x=_
  unfold bindL
  exact vf (i:=i) (aaR.mp nd).2 (by simpa using h1) (by simpa using h2) hk
theorem vg{kindOf:Str->Option NameKind}{x:Str}{v:Value}:∀{P:List Str} {vs:List Value} {i:Nat} {m:Str->Option Value},P.Nodup->P[i]?=some x->vs[i]?=some v->kindOf x≠some .local->
 bindC kindOf (P.zip vs) m x=some v
 |[],_,_,_,_,h,_,_=>by simp at h
 |_::_,[],_,_,_,_,h,_=>by simp at h
 |p::P,w::vs,0,m,nd,h1,h2,hk=>by
  simp at h1 h2;subst h1;subst h2
  show bindC kindOf ((p,w)::P.zip vs) m p=_
  unfold bindC
  rw[ve λv hv=>(aaR.mp nd).1 (adf hv).1,if_neg hk]
  simp
 |p::P,w::vs,i+1,m,nd,h1,h2,hk=>by
  show bindC kindOf ((p,w)::P.zip vs) m x=_
  unfold bindC
  exact vg (i:=i) (aaR.mp nd).2 (by simpa using h1) (by simpa using h2) hk
def start(N:List Str)(vs:List V):St:=vs.map some++List.replicate (N.length-vs.length) none
def j8(CX:Ek)(P:Program)(w:World)(K:PySem.W.Frag)(mg:Str->Option Value)(base:Heap)(N:List Str)(qual:Str)(scope:Scope)(f:Addr)(cd:Value)(A:Around)(outer:List Env)(s:Shared)(H:Hp)(E:XK):Cx where
 prog:=P
 w:=w
 K:=K
 mg:=mg
 base:=base
 A:=A.deeper (envOfC qual scope s.heap.objs.size f cd)
 N:=N
 s₀:=s
 H₀:=H
 env:=envOfC qual scope s.heap.objs.size f cd
 outer:=outer
 stack:=envOfC qual scope s.heap.objs.size f cd::outer
 ex:=[]
 calm:=true
 fn:=λ_=>true
 pn:=[]
 xe:=λe s'=>wpAny (model P w) (A.deeper (envOfC qual scope s.heap.objs.size f cd)) (leaving (envOfC qual scope s.heap.objs.size f cd) e) (λ_ s''=>CX outer H s E e s'') (λe' s''=>CX outer H s E e' s'') s'
theorem yF{sc:Scope}{n:Nat}{x:Str}(h:sc.names.lookup x=some .cell):∃c,(cellsFrom n sc.names []).lookup x=some c:=by
 have q:=PySem.W.cellsFrom_some sc.names n [] (.inl h)
 exact ac0.mp q
theorem Dh{CX:Ek}{P:Program}{w:World}{K:PySem.W.Frag}{mg:Str->Option Value}{base:Heap}{N ps:List Str}{qual:Str}{scope:Scope}{f:Addr}{cd:Value}{A:Around}{outer:List Env}{s s1:Shared}{H:Hp}{E:XK}{us:List Value}{vs:List V}
 (S:aO N ps scope)(hd:A.handled=none)(e0:AE P w K mg base A outer s H)(hl:vs.length=ps.length)(r:Vals vs us)
 (x:InCallC s s.heap.objs.size (bindL (envOfC qual scope s.heap.objs.size f cd).kindOf (ps.zip us) λ_=>none) (cellsFrom (s.heap.objs.size+1) scope.names []) (bindC (envOfC qual scope s.heap.objs.size f cd).kindOf (ps.zip us) λ_=>none) s1) :
 Inv (j8 CX P w K mg base N qual scope f cd A outer s H E) [] (start N vs) H s1:=by
 have hpl:ps.length<=N.length:=by have:=congrArg List.length S.pre;rw[abB]at this;omega
 obtain⟨h1,tk,rfl,hk⟩:=x.done
 have OM:∀b:Addr,b∉(j8 CX P w K mg base N qual scope f cd A outer s H E).ex:=λb z=>absurd (show b∈([]:List Addr)from z) (by simp)
 refine⟨⟨e0.mod,S.kind,rfl,rfl,aaz _,λy z c h1 h2=>?_,λy hy=>?_,λy c _ h=>?_,λ_=>hd,Around.frames_deeper e0.frames,.inr ⟨rfl,rfl⟩,λb z=>absurd z (OM b),e0.bs,e0.HR,λb _ _=>OM b,λb z=>absurd z (OM b),e0.nR,e0.Ih⟩,
  rfl,e0.bare,Un.kept hk,⟨_,x.toInCall.ns,λi y v h1 h2 h3=>?_⟩,λy c h=>⟨_,x.cell y c h⟩,e0.hok.fresh (aaz _),λy c h=>?_,λp hp=>absurd (show p∈([]:List (Addr ×Obj))from hp) (by simp),e0.hok.kept hk,?_⟩
 ·exact name_of_addr x.apart (PySem.mem_of_lookup h1) (PySem.mem_of_lookup h2)
 ·have hy:scope.names.lookup y=some .cell\/scope.names.lookup y=some .free:=hy
  rcases hy with hy|hy
  ·exact yF hy
  ·exact absurd rfl (S.LS _ (PySem.mem_of_lookup hy))
 ·exact aco (x.above y c (PySem.mem_of_lookup h))
 ·have hi:i<vs.length:=by
   unfold start at h2
   by_cases hi:i<vs.length
   ·exact hi
   ·rw[abT (by simpa using hi)]at h2
    rw[ac6]at h2
    split at h2<;>cases h2
  have ha:vs[i]?=some v:=by
   unfold start at h2
   rw[abY (by simpa using hi),aa0]at h2
   cases e:vs[i]? with
   |none=>rw[e]at h2;cases h2
   |some a=>rw[e]at h2;cases h2;rfl
  obtain⟨u,hu,rv⟩:=r.get ha
  have hp:ps[i]?=some y:=by
   rw[<-S.pre,ac1 (by omega)];exact h1
  have U3:ps.Nodup:=by rw[<-S.pre];exact S.nd.sublist (adH _ _)
  refine⟨u,rv,?_⟩
  rcases S.par y (aaC hp)with k|k
  ·exact .inl ⟨k,vf U3 hp hu k⟩
  ·obtain⟨c,e⟩:=yF (n:=s.heap.objs.size+1) k
   refine .inr ⟨.inl k,c,e,?_⟩
   have q:=x.cell y c e
   rw[vg U3 hp hu (by show scope.names.lookup y≠_;rw[k];decide)]at q
   exact q
 ·exact e0.hok.fresh (aco (x.above y c (PySem.mem_of_lookup h)))
 ·unfold start
  show _=N.length
  rw[aaA,aas,List.length_replicate]
  omega
theorem KC{CX:Ek}{P:Program}{w:World}{K:PySem.W.Frag}{mg:Str->Option Value}{base:Heap}{k:Nat}{f:Addr}{name qual:Str}{params:Arguments}{body:List Stmt}{scope:Scope}{dV kV doc pm cdv ct oc:Value}{an od:Option Addr}
 {osl:Array (Option Value)}{N ps:List Str}{sp:Sp}(lk:K.lookup f=some ⟨oc,od,.func (PySem.W.fnOf name qual params body scope dV kV doc pm an cdv ct),osl⟩)(hcd:PySem.W.codeIn K cdv qual=true)(S:aO N ps scope)
 (len:∀vs H Q E,sp vs H Q E->vs.length=ps.length)
 (hbody:∀(A:Around) (outer:List Env) (s:Shared) (H:Hp) (vs:List V) (Q:VK) (E:XK),fK k (A.deeper (envOfC qual scope s.heap.objs.size f cdv))->sp vs H Q E->
  ∃t,Au (j8 CX P w K mg base N qual scope f cdv A outer s H E) body t/\t {nx:=λ_ H'=>Q .bJ H',rt:=Q} (start N vs) H) :
 cz P w K mg base CX (k+1) f (PySem.W.fnOf name qual params body scope dV kV doc pm an cdv ct) ps sp:=by
 refine⟨len,λA outer s H args us vs Q E hr e0 hb r B3=>?_⟩
 have hl:=len _ _ _ _ B3
 have KX:K.In s.heap:=e0.mod.u9.keeps λb o e=>(e0.bs b o e).1
 have lim:s.heap.NoLimit:=e0.mod.nolimit.keeps λb o e=>(e0.bs b o e).1
 have hkind:∀y∈ps.zip us,scope.names.lookup y.1=some .local\/(scope.names.lookup y.1=some .cell/\((cellsFrom (s.heap.objs.size+1) scope.names []).lookup y.1).isSome=true):=λ⟨n,v⟩ hy=>by
  rcases S.par n (adf hy).1 with q|q
  ·exact .inl q
  ·exact .inr ⟨q,PySem.W.cellsFrom_some _ _ _ (.inl q)⟩
 refine codeAny_call_function hr.depth (KX _ _ lk) rfl S.co S.gen rfl (PySem.W.codeRec_of KX hcd) (hb _ _ _ _ ?_)
 refine wpAny_newFunctionEnv_cells S.kind hkind λenv he s1 x=>?_
 subst he
 refine⟨lim.keeps x.toInCall.keep,codeAny_func ?_⟩
 obtain⟨t,ht,hq⟩:=hbody A outer s H vs Q E (hr.deeper _) B3
 have I:Inv (j8 CX P w K mg base N qual scope f cdv A outer s H E) [] (start N vs) H s1:=Dh S hr.hd e0 hl r x
 refine wpAny_mono (ht [] s1 (start N vs) H _ I hq) (λfl s' hs=>?_) λe s' hs=>hs
 have fin:∀{σ':St} {H':Hp} {v:V} {u:Value},Inv (j8 CX P w K mg base N qual scope f cdv A outer s H E) [] σ' H' s'->RelV v u->Q v H'->CE outer P w H s Q u s':=
  λ{σ' H' v u} J rv q=>⟨v,H',J.os,J.bare,J.base,J.hok,rv,q⟩
 cases fl with
 |ret u=>
  obtain⟨v,σ',H',J,rv,q⟩:=hs
  exact fin J rv q
 |next=>
  obtain⟨σ',H',J,q⟩:=hs
  exact fin (v:=V.bJ) (u:=Value.none) J rfl q
 |brk=>
  obtain⟨_,_,_,q⟩:=hs
  exact False.elim q
 |cont=>
  obtain⟨_,_,_,q⟩:=hs
  exact False.elim q
end L2
namespace L2
open PySem PySem.Spec PyProof.Rows
section
variable{X:Cx}{x:Str}{p pos:Pos}{e:Expr}{es:List Expr}{t:TA}{id T:String}{r:List V->Hp->VK->Prop}
end
end L2
namespace HT
open PySem PyProof.Rows
def lexLt:List Int->List Int->Bool
 |[],[]=>false
 |[],_::_=>true
 |_::_,[]=>false
 |x::xs,y::ys=>if x=y then lexLt xs ys else decide (x<y)
theorem nh(x y:Int)(xs ys:List Int):lexLt (x::xs) (y::ys)=if x=y then lexLt xs ys else decide (x<y):=rfl
theorem mP:lexLt [] []=false:=rfl
theorem rT(y:Int)(ys:List Int):lexLt [] (y::ys)=true:=rfl
theorem rV(x:Int)(xs:List Int):lexLt (x::xs) []=false:=rfl
theorem EJ(A:Around)(s:Shared)(a:Int)(t:Tok)(c:Int)(u:Tok):∃e,SeqAt.EqAt A s (.int a t) (.int c u) e/\(e=true↔a=c):=
 ⟨(a==c),SeqAt.EqAt.int_int a t c u,by simp⟩
theorem EK(A:Around)(s:Shared)(a:Int)(t:Tok)(c:Int)(u:Tok)(prog:Program)(w:World)(E:Value->Shared->Prop)(Q:Value->Shared->Prop)(h:Q (.bool (decide (a<c))) s) :
 wpAny (model prog w) A (richCompare .Lt (.int a t) (.int c u)) Q E s:=
 (PyProof.Rows.lt_int h:wpAny (model prog w) A (compareOp .Lt (.int a t) (.int c u)) Q E s)
section
open PySem.SeqAt
open PySem.AutoSeq1 (wpAny_loadPart')
open PySem.MeetsSeq PySem.MeetsSeq2 PySem.MeetsSeq3
theorem uG(l b:Addr)(items items2:Array Value)(n n2:Nat)(dd dd2:Option Addr)(sl sl2:Array (Option Value))(ns ms:List Int)(hi:IntsAre items.toList ns)(hj:IntsAre items2.toList ms) :
 Meets (Builtin.«tuple.__lt__» ⟨[.ref l,.ref b],[]⟩)
  (λ_ R s=>s.heap.get? l=some {cls:= .type "tuple",dict:=dd,data:= .seq items n,slots:=sl}/\s.heap.get? b=some {cls:= .type "tuple",dict:=dd2,data:= .seq items2 n2,slots:=sl2}/\
   R (.ok (.ret (.bool (lexLt ns ms)))) s):=
 .of_wp λprog w A R s h=>by
  obtain⟨hp,g,d,tk,os⟩:=s;obtain⟨hl,hb,h⟩:=h
  have f2:=AutoSeq1.sub_tuple_tuple
  have z1:items.size=ns.length:=by rw[<-hi.length];simp
  have z2:items2.size=ms.length:=by rw[<-hj.length];simp
  wp_walk using wpAny_loadPart' hl,wpAny_loadPart' hb,wpAny_forIn_list _ (λrest b s'=>b.1=none/\s'= ⟨hp,g,d,tk,os⟩/\∃(vs ws:List Value) (ns' ms':List Int),rest=vs.zip ws/\
   IntsAre vs ns'/\IntsAre ws ms'/\ns'.length+items2.size=ms'.length+items.size/\R (.ok (.ret (.bool (lexLt ns' ms')))) ⟨hp,g,d,tk,os⟩) _
  case turn=>
   rintro⟨y,x⟩ rest b s' ⟨hb',rfl,vs,ws,ns',ms',hz,Sq,hwi,hlen,hR⟩
   cases Sq with
   |nil=>rw[List.zip_nil_left]at hz;cases hz
   |cons a t Ss=>
    cases hwi with
    |nil=>rw[acn]at hz;cases hz
    |cons c u Su=>
     rw[abL]at hz
     injection hz with hyx hrest
     injection hyx with hy hx
     subst hy hx
     rw[nh]at hR
     simp only[aaX]at hlen
     obtain⟨e,he,hiff⟩:=EJ A.in1 ⟨hp,g,d,tk,os⟩ a t c u
     refine wpAny_bind (he prog w _ _ ?_)
     cases e with
     |true=>
      rw[if_pos (hiff.mp rfl)]at hR
      wp_walk
      exact⟨rfl,rfl,_,_,_,_,hrest,Ss,Su,by omega,hR⟩
     |false=>
      rw[if_neg (λq=>absurd (hiff.mpr q) aaE)]at hR
      have Wy:=EK A.in1 ⟨hp,g,d,tk,os⟩ a t c u prog w
      wp_walk using Wy
      exact⟨_,rfl,by simpa using hR⟩
  case fin=>
   rintro⟨b1,b2⟩ s' ⟨hb',rfl,vs,ws,ns',ms',hz,Sq,hwi,hlen,hR⟩
   simp only at hb'
   subst hb'
   have hv:lexLt ns' ms'=decide (items.size<items2.size):=by
    cases Sq with
    |nil=>
     cases hwi with
     |nil=>
      simp only[abW]at hlen
      rw[mP]
      exact(decide_eq_false (by omega)).symm
     |cons c u hw=>
      simp only[abW,aaX]at hlen
      rw[rT]
      exact(decide_eq_true (by omega)).symm
    |cons a t hv=>
     cases hwi with
     |nil=>
      simp only[abW,aaX]at hlen
      rw[rV]
      exact(decide_eq_false (by omega)).symm
     |cons c u hw=>
      rw[abL]at hz
      cases hz
   rw[hv]at hR
   wp_walk
   exact⟨_,rfl,by simpa[Builtin.Tuple.tupleCompareSizes]using hR⟩
  case h=>
   exact⟨rfl,rfl,items.toList,items2.toList,ns,ms,rfl,hi,hj,by omega,h⟩
end
section
variable{prog:Program}{w:World}{A:Around}{E:Value->Shared->Prop}{s:Shared}
theorem ni{l b:Addr}{items items2:Array Value}{ns ms:List Int}{Q:Value->Shared->Prop}(hl:IsTup s.heap l items)(hb:IsTup s.heap b items2)(hi:IntsAre items.toList ns)(hj:IntsAre items2.toList ms)
 (hu:A.units<cLine)(h:Q (.bool (lexLt ns ms)) s):wpAny (model prog w) A (compareOp .Lt (.ref l) (.ref b)) Q E s:=by
 obtain⟨⟨cls,dd,data,sl⟩,ho,hc,n,hd⟩:=id hl
 obtain⟨⟨Wz,dd2,data2,sl2⟩,ho2,hc2,n2,hd2⟩:=id hb
 simp only at hc hd hc2 hd2
 subst hc hd hc2 hd2
 exact richCompare_meets_room (op:= .Lt) ⟨_,ho,rfl⟩ ⟨_,ho2,rfl⟩ PySem.F.slot_tuple_lt PySem.F.entry_tuple_lt (PySem.F.args_tuple_lt_2 _ _) (uG l b items items2 n n2 dd dd2 sl sl2 ns ms hi hj)
  ⟨ho,ho2,show Value.bool (lexLt ns ms)≠Value.notImplemented/\Q (.bool (lexLt ns ms)) s from⟨(λx=>nomatch x),h⟩⟩ hu
def qw(n d:Nat):Option Int->Nat
 |none=>d
 |some v=>if v<0 then(v+(n:Int)).toNat else min v.toNat n
theorem yG(n d:Nat):qw n d none=d:=rfl
theorem B4(n d k:Nat):qw n d (some (k:Int))=min k n:=by
 show(if(k:Int)<0 then((k:Int)+(n:Int)).toNat else min (k:Int).toNat n)=min k n
 rw[if_neg (by omega),acQ]
end
end HT
namespace L2
open PySem PySem.Spec PyProof.Rows
abbrev TO:=St->Hp->(Option Int->Hp->Prop)->Prop
def PO(X:Cx)(e:Option Expr)(t:TO):Prop:=
 ∀(pins:List (Addr ×Obj)) (s:Shared) (σ:St) (H:Hp) (Q:Option Int->Hp->Prop),Inv X pins σ H s->t σ H Q->
  wpAny (model X.prog X.w) X.A (evalPart e X.env) (λu s'=>∃o H',Inv X pins σ H' s'/\IsPart u o/\Q o H') X.xe s
def B5:TO:=λ_ H Q=>Q none H
def KD(t:TE):TO:=λσ H Q=>t σ H λx H1=>∃i,x= .int i/\Q (some i) H1
theorem intsAre_of{ns:List Int}:∀{us:List Value},Vals (ns.map V.int) us->IntsAre us ns:=by
 induction ns with
 |nil=>intro us r;rw[List.map_nil]at r;cases r;exact .nil
 |cons n ns ih=>
  intro us r
  rw[aaV]at r
  cases r with
  |cons r1 r2=>
   obtain⟨t,e⟩:=r1
   subst e
   exact .cons n t (ih r2)
section
variable{X:Cx}{e:Expr}{te:TE}{lo hi:Option Expr}{tl th:TO}{pos p2:Pos}
theorem Iw:PO X none B5:=by
 intro pins s σ H Q I h
 rw[evalPart_none]
 exact wpAny_pure ⟨none,H,I,.none,h⟩
theorem Iz(h:PE X e te):PO X (some e) (KD te):=by
 intro pins s σ H Q I hw
 rw[evalPart_some]
 refine c5 (h pins s σ H _ I hw) λu s1 ⟨x,H1,I1,r1,q1⟩=>?_
 obtain⟨i,rfl,q⟩:=q1
 obtain⟨t,rfl⟩:=r1
 exact⟨some i,H1,I1,.int i t,q⟩
def U4(X:Cx)(r:V->Option Int->Option Int->Hp->VK->Prop):Prop:=
 ∀(pins:List (Addr ×Obj)) (s:Shared) (σ:St) (H:Hp) (x:V) (v vl vu:Value) (lo hi:Option Int) (sl:Addr) (Q:VK),Inv X pins σ H s->RelV x v->s.heap.IsSliceOf sl vl vu .none->IsPart vl lo->IsPart vu hi->r x lo hi H Q->
  ∃T id,typeLookup (.type T) "__getitem__" =pure (some (.builtin id))/\s.TypeIs v T/\wpAny (model X.prog X.w) X.A (getItem v (.ref sl)) (EP X pins σ Q) X.xe s
def WA(r:V->Option Int->Option Int->Hp->VK->Prop)(te:TE)(tl th:TO):TE:=λσ H Q=>te σ H λx H1=>tl σ H1 λl H2=>th σ H2 λu H3=>r x l u H3 Q
theorem EL{r:V->Option Int->Option Int->Hp->VK->Prop}(hr:U4 X r)(he:PE X e te)(hl:PO X lo tl)(hu:PO X hi th):PE X (.Subscript e (.Slice lo hi none p2) pos) (WA r te tl th):=by
 intro pins s σ H Q I h
 refine Subscript_ (c5 (he pins s σ H _ I h) λv s1 ⟨x,H1,I1,r1,q1⟩=>?_)
 refine wpAny_Slice (c5 (hl pins s1 σ H1 _ I1 q1) λvl s2 ⟨l,H2,I2,pl,q2⟩=>c5 (hu pins s2 σ H2 _ I2 q2) λvu s3 ⟨u,H3,I3,pu,q3⟩=>?_)
 rw[evalPart_none]
 refine wpAny_pure ?_
 have I4:Inv X pins σ H3 {s3 with heap:=s3.heap.push {cls:= .type "slice",data:= .fields #[vl,vu,.none]}}:=I3.kept (t':=s3.toks) λb ob q=>Heap.get?_push_of_some _ q
 obtain⟨T,id,hT,ht,hg⟩:=hr pins {s3 with heap:=s3.heap.push {cls:= .type "slice",data:= .fields #[vl,vu,.none]}} σ H3 x v vl vu l u s3.heap.objs.size Q I4 r1 (Heap.IsSliceOf.new ..) pl pu q3
 show wpAny (model X.prog X.w) X.A (subscriptTail e (.Slice lo hi none p2) v (.ref s3.heap.objs.size)) (EP X pins σ Q) X.xe {s3 with heap:=s3.heap.push {cls:= .type "slice",data:= .fields #[vl,vu,.none]}}
 exact tail_any (ops:=[.ref s3.heap.objs.size,v]) ht hT hg (by with_unfolding_all rfl)
def IA(xs:List V)(lo hi:Option Int):List V:=(xs.drop (HT.qw xs.length 0 lo)).take (HT.qw xs.length xs.length hi-HT.qw xs.length 0 lo)
theorem yH(xs:List V)(lo hi:Option Int):(IA xs lo hi).length<=xs.length:=by
 unfold IA
 rw[abB,abC]
 omega
def ON(K:PySem.W.Frag):R2:=λx y H Q=>∃a b ns ms,x= .ref a/\y= .ref b/\rQ K H a (ns.map V.int)/\rQ K H b (ms.map V.int)/\Q (.bl (HT.lexLt ns ms)) H
end
end L2
namespace L2
open PySem PySem.Spec PyProof.Rows
def Em(n:Nat)(i:Int):Option Nat:=if 0<=i then(if i<n then some i.toNat else none)else if -(n:Int)<=i then some (i+n).toNat else none
def rW{α:Type}(xs:List α)(i:Int):Option α:=(Em xs.length i).bind λj=>xs[j]?
theorem IB{n:Nat}{i:Int}{j:Nat}(h:Em n i=some j):seqIndex? i n=some j/\j<n/\ -(n:Int)<=i/\i<n:=by
 unfold Em at h
 by_cases h0:0<=i
 ·rw[if_pos h0]at h
  by_cases h1:i<n
  ·rw[if_pos h1]at h
   have e:i.toNat=j:=Option.some.inj h
   exact⟨by rw[seqIndex_of h0 h1,e],by omega,by omega,h1⟩
  ·rw[if_neg h1]at h;cases h
 ·rw[if_neg h0]at h
  by_cases h1: -(n:Int)<=i
  ·rw[if_pos h1]at h
   have e:(i+n).toNat=j:=Option.some.inj h
   exact⟨by rw[seqIndex_neg (by omega) h1,e],by omega,h1,by omega⟩
  ·rw[if_neg h1]at h;cases h
theorem B6{α:Type}{xs:List α}{i:Int}{v:α}(h:rW xs i=some v):∃j,seqIndex? i xs.length=some j/\xs[j]?=some v/\j<xs.length/\ -(xs.length:Int)<=i/\i<xs.length:=by
 unfold rW at h
 cases e:Em xs.length i with
 |none=>rw[e]at h;cases h
 |some j=>
  rw[e]at h
  obtain⟨h1,h2,h3,h4⟩:=IB e
  exact⟨j,h1,h,h2,h3,h4⟩
theorem eV{α:Type}{xs:List α}{j:Nat}{v:α}(h:xs[j]?=some v):rW xs (j:Int)=some v:=by
 have hj:j<xs.length:=(aaQ.mp h).1
 have e:Em xs.length (j:Int)=some j:=by
  unfold Em
  rw[if_pos (by omega),if_pos (by omega)];simp
 unfold rW;rw[e];exact h
theorem yI{α:Type}(xs:List α)(v:α):rW (xs++[v]) (-1)=some v:=by
 have hl:(xs++[v]).length=xs.length+1:=by simp
 have e:Em (xs++[v]).length (-1)=some xs.length:=by
  unfold Em
  rw[hl,if_neg (by decide),if_pos (by omega)]
  congr 1
  omega
 unfold rW
 rw[e]
 show(xs++[v])[xs.length]?=some v
 simp
def B7(b:Expr):Prop:= ∀o i,subscripted b false o i=operate [o,i] (getItem o i)
def LU(X:Cx)(r:R2):Prop:=
 ∀(value slice:Expr) (pins:List (Addr ×Obj)) (s:Shared) (σ:St) (H:Hp) (x y:V) (v u:Value) (Q:VK),Inv X pins σ H s->RelV x v->RelV y u->r x y H Q->
  subscripted slice false v u=operate [v,u] (getItem v u)->wpAny (model X.prog X.w) X.A (subscriptTail value slice v u) (EP X pins σ Q) X.xe s
def U5(X:Cx)(id:String)(r:V->List V->Hp->VK->Prop):Prop:=
 ∀(pins:List (Addr ×Obj)) (s:Shared) (σ:St) (H:Hp) (x:V) (xs:List V) (v:Value) (us:List Value) (Q:VK),Inv X pins σ H s->RelV x v->Vals xs us->r x xs H Q->
  wpAny (model X.prog X.w) X.A (call (.builtin id) (v::us)) (EP X pins σ Q) X.xe s
section
variable{X:Cx}{a b:Expr}{ta tb:TE}{pos:Pos}
theorem LU.or{r r':R2}(h:LU X r)(h':LU X r'):LU X (λx y H Q=>r x y H Q\/r' x y H Q):=by
 intro value slice pins s σ H x y v u Q I rx ry q hs
 rcases q with q|q
 ·exact h value slice pins s σ H x y v u Q I rx ry q hs
 ·exact h' value slice pins s σ H x y v u Q I rx ry q hs
theorem OO{r:R2}(hr:LU X r)(ha:PE X a ta)(hb:PE X b tb)(hs:B7 b):PE X (.Subscript a b pos) (Wt r ta tb):=by
 intro pins s σ H Q I h
 exact Subscript_ (Sj ha hb I h λv u s2 x y H2 I2 rx ry q=>hr a b pins s2 σ H2 x y v u Q I2 rx ry q (hs _ _))
def Sv(K:PySem.W.Frag):R2:=λx y H Q=>∃p xs i v,x= .ref p/\y= .int i/\gR K H p xs/\rW xs i=some v/\Q v H
def Sx(K:PySem.W.Frag):R2:=λx y H Q=>∃p xs i v,x= .ref p/\y= .int i/\rQ K H p xs/\rW xs i=some v/\Q v H
theorem IC:LU X (Sv X.K):=by
 intro value slice pins s σ H x y v u Q I rx ry h hs
 obtain⟨p,xs,i,z,rfl,rfl,hq,he,q⟩:=h
 cases rx
 obtain⟨t,rfl⟩:=ry
 obtain⟨its,r,pl,hz⟩:=I.list hq
 obtain⟨j,h1,h2,h3,h4,h5⟩:=B6 he
 obtain⟨w,ew,rw'⟩:=r.get h2
 have hl:=r.length
 have hn:=Ax
 have fin:EP X pins σ Q w s:=⟨z,H,I,rw',q⟩
 by_cases h0:0<=i
 ·have hj:i.toNat=j:=by
   rw[seqIndex_of h0 h5]at h1
   exact Option.some.inj h1
  exact item_listR pl.isList h0 (by omega) (by rw[hj];simpa using ew) fin hs
 ·have hj:(i+(its.toArray.size:Int)).toNat=j:=by
   rw[seqIndex_neg (by omega) h4]at h1
   rw[aax,<-hl]
   exact Option.some.inj h1
  exact subscriptTail_builtinR (x:=w) pl.isList.typeIs slot_list_getitem.lookup
   (wpAny_getItem_list_neg (Q:=λr s'=>r=w/\EP X pins σ Q r s') pl.isList (by omega) (by rw[aax]<;>omega) (by omega) (by rw[hj];simpa using ew) ⟨rfl,fin⟩) hs
theorem LV:LU X (Sx X.K):=by
 intro value slice pins s σ H x y v u Q I rx ry h hs
 obtain⟨p,xs,i,z,rfl,rfl,hq,he,q⟩:=h
 cases rx
 obtain⟨t,rfl⟩:=ry
 obtain⟨its,r,pl,hz⟩:=I.tuple hq
 obtain⟨j,h1,h2,h3,h4,h5⟩:=B6 he
 obtain⟨w,ew,rw'⟩:=r.get h2
 have hl:=r.length
 have hn:=Ax
 have fin:EP X pins σ Q w s:=⟨z,H,I,rw',q⟩
 exact subscriptTail_builtinR (x:=w) pl.typeIs slot_tuple_getitem.lookup
  (getItem_tuple (j:=j) (Q:=λr s'=>r=w/\EP X pins σ Q r s') pl (by omega) (by omega) (by rw[aax,<-hl];exact h1) (by simpa using ew) ⟨rfl,fin⟩) hs
theorem wF(lo hi:Option Int)(n:Nat):(sliceBounds lo hi none n).1=((HT.qw n 0 lo:Nat):Int)/\(sliceBounds lo hi none n).2.1=((HT.qw n n hi:Nat):Int)/\(sliceBounds lo hi none n).2.2=1:=by
 refine⟨?_,?_,rfl⟩
 ·cases lo with
  |none=>simp[sliceBounds,HT.qw]
  |some i=>
   simp only[sliceBounds,HT.qw,adK,show(1:Int)>0 by decide,if_true]
   by_cases h:i<0
   ·simp only[h,if_true]<;>omega
   ·simp only[h,if_false]<;>omega
 ·cases hi with
  |none=>simp[sliceBounds,HT.qw]
  |some i=>
   simp only[sliceBounds,HT.qw,adK,show(1:Int)>0 by decide,if_true]
   by_cases h:i<0
   ·simp only[h,if_true]<;>omega
   ·simp only[h,if_false]<;>omega
theorem uH(its:List Value)(lo hi:Option Int):slicePick its.toArray lo hi none=((its.drop (HT.qw its.length 0 lo)).take (HT.qw its.length its.length hi-HT.qw its.length 0 lo)).toArray:=by
 obtain⟨h1,h2,h3⟩:=wF lo hi its.toArray.size
 unfold slicePick
 rw[h1,h2,h3]
 simp only[sliceRange_one,pick_run,aax]<;>rfl
def Sy(K:PySem.W.Frag):V->Option Int->Option Int->Hp->VK->Prop:=λx lo hi H Q=>∃a xs,x= .ref a/\gR K H a xs/\∀p,H p=none->Q (.ref p) (upd H p (.lst (IA xs lo hi)))
theorem ID:U4 X (Sy X.K):=by
 intro pins s σ H x v vl vu lo hi sl Q I rx hs pl pu h
 obtain⟨a,xs,rfl,hx,q⟩:=h
 cases rx
 obtain⟨its,r,ht,hz⟩:=I.list hx
 have hlen:=r.length
 refine⟨"list",_,slot_list_getitem.lookup,ht.isList.typeIs,?_⟩
 refine wpAny_getItem_list_slice ht.isList hs pl pu .none (by simp) ?_ (by rw[aax]<;>omega)
 rw[uH,<-hlen]
 refine⟨.ref s.heap.objs.size,_,I.laid (t':=s.toks) (o:= .lst (IA xs lo hi)) (λb ob q=>Heap.get?_push_of_some _ q) (aaz _) ?_,rfl,q _ (I.hok.fresh (aaz _))⟩
 exact⟨abo (yH xs lo hi) hz,_,0,(r.drop (HT.qw xs.length 0 lo)).take (HT.qw xs.length xs.length hi-HT.qw xs.length 0 lo),Heap.get?_push_size _ rfl⟩
theorem wG:EG X (.builtin "len") (λxs H Q=>∃p ys,xs=[.ref p]/\(gR X.K H p ys\/rQ X.K H p ys)/\Q (.int ys.length) H):=by
 intro pins s σ H xs us Q I r h
 obtain⟨p,ys,rfl,hq,q⟩:=h
 obtain⟨u,rfl,rx⟩:=vals1 r
 cases rx
 have hn:=Ax
 rcases hq with hq|hq
 ·obtain⟨its,r',pl,hz⟩:=I.list hq
  have hlen:=r'.length
  exact Calls.call_len_list pl.isList (by simp only[aax]<;>omega) ⟨.int ys.length,H,I.tok _,⟨s.toks+1,by rw[aax,hlen]⟩,q⟩
 ·obtain⟨its,r',pl,hz⟩:=I.tuple hq
  have hlen:=r'.length
  exact len_tuple pl (by simp only[aax]<;>omega) ⟨.int ys.length,H,I.tok _,⟨s.toks+1,by rw[aax,hlen]⟩,q⟩
theorem wH:EG X (.type "list") (λxs H Q=>∃p ys,xs=[.ref p]/\(gR X.K H p ys\/rQ X.K H p ys)/\∀l,H l=none->Q (.ref l) (upd H l (.lst ys))):=by
 intro pins s σ H xs us Q I r h
 obtain⟨p,ys,rfl,hq,q⟩:=h
 obtain⟨u,rfl,rx⟩:=vals1 r
 cases rx
 have fin:∀(its:List Value),Vals ys its->ys.length<=sizeLine->∀(h':Heap) (c':Nat),(∀b o',s.heap.get? b=some o'->h'.get? b=some o')->
  h'.get? s.heap.objs.size=some {cls:= .type "list",dict:=none,data:= .seq its.toArray c',slots:= #[]}->EP X pins σ Q (.ref s.heap.objs.size) {s with heap:=h'}:=λits r' hz h' c' kp e=>
  ⟨.ref s.heap.objs.size,_,I.laid (t':=s.toks) kp (aaz _) (show cj X.prog X.w _ h' _ (.lst ys)from⟨hz,its,c',r',e⟩),rfl,q _ (I.hok.fresh (aaz _))⟩
 rcases hq with hq|hq
 ·obtain⟨its,r',pl,hz⟩:=I.list hq
  have hlen:=r'.length
  obtain⟨o,ho,hc,n,hd⟩:=pl.isList
  exact call_list_seq p (.inl rfl) ho hc hd (λh' c' kp e=>fin its r' hz h' c' kp e) (by simp only[aax]<;>omega)
 ·obtain⟨its,r',pl,hz⟩:=I.tuple hq
  have hlen:=r'.length
  obtain⟨o,ho,hc,n,hd⟩:=pl
  exact call_list_seq p (.inr rfl) ho hc hd (λh' c' kp e=>fin its r' hz h' c' kp e) (by simp only[aax]<;>omega)
def Sz(K:PySem.W.Frag)(T:String)(x:V)(H:Hp):Prop:=match x with
 | .str _=>T= "str"
 | .int _=>T= "int"
 | .ref p=>(T= "list"/\∃xs,gR K H p xs)\/(T= "tuple"/\∃o,K.lookup p=some o/\o.cls= .type "tuple"/\o.dict=none)\/
  (T= "dict"/\((∃kvs,H p=some (.dK kvs))\/∃kvs,H p=some (.dT kvs)))\/(T= "set"/\∃S n,H p=some (.set S n))
 |_=>False
theorem EM{pins:List (Addr ×Obj)}{σ:St}{H:Hp}{s:Shared}{T:String}{x:V}{v:Value}(I:Inv X pins σ H s)(r:RelV x v)(ty:Sz X.K T x H) :
 s.TypeIs v T/\∀a,v= .ref a->∃ob,s.heap.get? a=some ob/\ob.dict=none:=by
 cases x with
 |str z=>
  obtain⟨t,rfl⟩:=r
  cases(show T= "str" from ty)
  exact⟨typeIs_str s z t,λ_ e=>nomatch e⟩
 |int i=>
  obtain⟨t,rfl⟩:=r
  cases(show T= "int" from ty)
  exact⟨typeIs_int s i t,λ_ e=>nomatch e⟩
 |ref p=>
  cases r
  rcases ty with⟨rfl,xs,hq⟩|⟨rfl,o,hk,hc,hd⟩|⟨rfl,hk⟩|⟨rfl,S,n,hk⟩
  ·obtain⟨its,_,pl,_⟩:=I.list hq
   refine⟨pl.isList.typeIs,λa e=>?_⟩
   cases e
   obtain⟨o,n,e,c,hd,_⟩:=pl
   exact⟨o,e,hd⟩
  ·refine⟨⟨o,I.nS p o hk,hc⟩,λa e=>?_⟩
   cases e
   exact⟨o,I.nS _ o hk,hd⟩
  ·have z:∃o,s.heap.get? p=some o/\o.ExactDict:=by
    rcases hk with⟨kvs,hk⟩|⟨kvs,hk⟩
    ·obtain⟨_,_,_,_,o,_,_,e,ex,_⟩:=I.hok p _ hk
     exact⟨o,e,ex⟩
    ·obtain⟨_,_,_,_,o,_,_,e,ex,_⟩:=I.hok p _ hk
     exact⟨o,e,ex⟩
   obtain⟨o,e,ex⟩:=z
   refine⟨⟨o,e,ex.1⟩,λa e2=>?_⟩
   cases e2
   exact⟨o,e,ex.2.1⟩
  ·obtain⟨o,_,_,_,e,ex,_⟩:=I.hok p _ hk
   refine⟨⟨o,e,ex.1⟩,λa e2=>?_⟩
   cases e2
   exact⟨o,e,ex.2.1⟩
 |_=>exact False.elim ty
def OP(K:PySem.W.Frag)(T:String)(r:V->List V->Hp->VK->Prop)(to:TE):TE:=λσ H Q=>to σ H λx H1=>Sz K T x H1/\r x [] H1 Q
def SA(K:PySem.W.Frag)(T:String)(r:V->List V->Hp->VK->Prop)(to:TE)(t:TA):TE:=λσ H Q=>to σ H λx H1=>Sz K T x H1/\t σ H1 λxs H2=>r x xs H2 Q
variable{o e:Expr}{es:List Expr}{to:TE}{t:TA}{name:Str}{apos cpos:Pos}{T id:String}{r:V->List V->Hp->VK->Prop}
theorem LW(pa:PlainAttrs T)(slot:Slot T name id)(hty:typeOf (.builtin id)=pure (.type "method_descriptor"))(hm:U5 X id r)(ho:PE X o to)
 (hbase:attributeBase o name X.env (eval o X.env)=eval o X.env:=by rfl)(hline:(apos.endLine==cpos.line)=true:=by rfl):PE X (.Call (.Attribute o name apos) [] [] cpos) (OP X.K T r to):=by
 intro pins s σ H Q I h
 refine wpAny_Call_method0_late hbase hline (c5 (ho pins s σ H _ I h) λv s1 ⟨x,H1,I1,r1,ty,q1⟩=>?_)
 obtain⟨h1,h2⟩:=EM I1 r1 ty
 exact⟨T,id,pa,slot,hty,h1,h2,Calls.callWith_builtin rfl (PySem.evalArgs_none (hm pins s1 σ H1 x [] v [] Q I1 r1 .nil q1))⟩
theorem rX(pa:PlainAttrs T)(slot:Slot T name id)(hty:typeOf (.builtin id)=pure (.type "method_descriptor"))(hm:U5 X id r)(ho:PE X o to)(ha:PA X (e::es) t)
 (hbase:attributeBase o name X.env (eval o X.env)=eval o X.env:=by rfl)
 (hfew:((backTo cpos (starEach (e::es) X.env)).all (λx=>!x.1) && (backToKw cpos (keywordEach [] X.env)).all (λx=>x.1.isSome)
  && decide ((e::es).length+([]:List Keyword).length+(if([]:List Keyword).isEmpty then 0 else 1)<30))=true:=by rfl)
 (hline:(apos.endLine==cpos.line)=true:=by rfl)(hs:starEach (e::es) X.env=(false,eval e X.env)::starEach es X.env:=by rfl)(hplain:(backTo cpos (starEach es X.env)).any (·.1)=false:=by rfl) :
 PE X (.Call (.Attribute o name apos) (e::es) [] cpos) (SA X.K T r to t):=by
 intro pins s σ H Q I h
 refine wpAny_Call_method_late hbase hfew hline rfl (c5 (ho pins s σ H _ I h) λv s1 ⟨x,H1,I1,r1,ty,q1⟩=>?_)
 obtain⟨h1,h2⟩:=EM I1 r1 ty
 refine⟨T,id,pa,slot,hty,h1,h2,?_⟩
 have hA:=ha cpos pins s1 σ H1 _ I1 q1
 rw[hs]at hA ⊢
 refine Calls.callWith_builtin (by show(false || (backTo cpos (starEach es X.env)).any (·.1))=false;rw[hplain]<;>rfl) (Calls.evalArgs_plain ?_)
 exact c5 hA λus s2 ⟨vs,H2,I2,r2,q2⟩=>hm pins s2 σ H2 x vs v us Q I2 r1 r2 q2
end
end L2
namespace L2
open PySem PySem.Spec PyProof.Rows
def SD(X:Cx)(id:String)(r:V->List V->Hp->VK->Prop):Prop:=
 ∀(pins:List (Addr ×Obj)) (s:Shared) (σ:St) (H:Hp) (x:V) (xs:List V) (v:Value) (us:List Value) (Q:VK),Inv X pins σ H s->RelV x v->Vals xs us->r x xs H Q->
  wpAny (model X.prog X.w) X.A (call (.builtin id) (v::us)) (EP X pins σ Q) X.xe s
theorem Vals.one:∀{x:V} {us:List Value},Vals [x] us->∃u,us=[u]/\RelV x u
 |_,_,.cons r .nil=>⟨_,rfl,r⟩
theorem Vals.zero:∀{us:List Value},Vals [] us->us=[]
 |_,.nil=>rfl
theorem Vals.dropLast{xs:List V}{us:List Value}(h:Vals xs us):Vals xs.dropLast us.dropLast:=by
 induction h with
 |nil=>exact .nil
 |cons r t ih=>
  cases t with
  |nil=>exact .nil
  |cons q t'=>exact .cons r ih
theorem AG{α:Type}(l:List α):l.eraseIdx (l.length-1)=l.dropLast:=by
 induction l with
 |nil=>rfl
 |cons a r ih=>
  cases r with
  |nil=>rfl
  |cons b r=>
   have e:(a::b::r).length-1=((b::r).length-1)+1:=by
    have h1:(a::b::r).length=r.length+2:=rfl
    have h2:(b::r).length=r.length+1:=rfl
    omega
   rw[e,List.eraseIdx_cons_succ,ih]
   all_goals rfl
section
variable{X:Cx}{pins:List (Addr ×Obj)}{σ:St}{H:Hp}{s:Shared}{l b:Addr}{xs ys zs:List V}
theorem Inv.LX{its its':List Value}{n:Nat}{f:Array Value->Array Value}{t':Nat}(I:Inv X pins σ H s)(hH:H l=some (.lst xs))
 (e:s.heap.get? l=some {cls:= .type "list",data:= .seq its.toArray n})(hf:f its.toArray=its'.toArray)(hv:Vals ys its')(hz:ys.length<=sizeLine) :
 Inv X pins σ (upd H l (.lst ys)) {s with heap:=s.heap.update l (Obj.mapSeq f),toks:=t'}:=by
 have q:=PySem.IsL.update e f
 rw[hf]at q
 refine I.write (x:=l) (e:=l) (by rw[hH];exact trivial) (.inl rfl) (λb' u hb hu=>(Heap.get?_update_other s.heap (Obj.mapSeq f) (Ne.symm hb)).trans hu) ⟨_,q⟩ ?_
 exact⟨hz,its',_,hv,q⟩
theorem Inv.SE{its:List Value}{t':Nat}(I:Inv X pins σ H s)(hv:Vals ys its)(hz:ys.length<=sizeLine) :
 Inv X pins σ (upd H s.heap.objs.size (.lst ys)) {s with heap:=s.heap.push {cls:= .type "list",data:= .seq its.toArray},toks:=t'}:=
 I.laid (λ_ _ q=>Heap.get?_push_of_some _ q) (aaz _) ⟨hz,its,0,hv,Heap.get?_push_size _ rfl⟩
theorem Inv.fresh(I:Inv X pins σ H s):H s.heap.objs.size=none:=I.hok.fresh (aaz _)
theorem Inv.Di(I:Inv X pins σ H s)(hH:H l=some (.lst xs)):xs.length<=sizeLine/\∃(its:List Value) (n:Nat),Vals xs its/\xs.length=its.length/\s.heap.get? l=some {cls:= .type "list",data:= .seq its.toArray n}:=by
 obtain⟨z,its,n,r,e⟩:=I.hok l _ hH
 exact⟨z,its,n,r,r.length,e⟩
theorem EN{n:Nat}(h:n<=sizeLine):Builtin.List.listTooLong n=false:=by
 unfold Builtin.List.listTooLong
 exact decide_eq_false (by omega)
end
section
variable{X:Cx}
def B8:V->List V->Hp->VK->Prop:=λx vs H Q=>∃l xs y,x= .ref l/\vs=[y]/\H l=some (.lst xs)/\xs.length<sizeLine/\Q .bJ (upd H l (.lst (xs++[y])))
theorem fM:SD X "list.append" B8:=by
 intro pins s σ H x vs v us Q I rx rv h
 obtain⟨l,xs,y,rfl,rfl,hH,hz,q⟩:=h
 cases rx
 obtain⟨u,rfl,ru⟩:=rv.one
 obtain⟨z,its,n,r,hl,e⟩:=I.Di hH
 refine call_meets F.slot_list_append ⟨_,e,rfl⟩ F.entry_list_append (F.args_list_append_2 _ _) (PySem.list_append l its.toArray n u (by rw[aax];omega)) ⟨e,?_⟩
 refine⟨.bJ,_,I.LX (its':=its++[u]) hH e (by simp) (r.append (.cons ru .nil)) ?_,rfl,q⟩
 rw[aaA,acw]
 omega
def B9:V->List V->Hp->VK->Prop:=λx vs H Q=>∃l b xs zs,x= .ref l/\vs=[.ref b]/\H l=some (.lst xs)/\H b=some (.lst zs)/\xs.length+zs.length<=sizeLine/\Q .bJ (upd H l (.lst (xs++zs)))
theorem Dj:SD X "list.extend" B9:=by
 intro pins s σ H x vs v us Q I rx rv h
 obtain⟨l,b,xs,zs,rfl,rfl,hH,hB,hz,q⟩:=h
 cases rx
 obtain⟨u,rfl,ru⟩:=rv.one
 cases ru
 obtain⟨z,its,n,r,hl,e⟩:=I.Di hH
 obtain⟨z2,its2,n2,r2,hl2,e2⟩:=I.Di hB
 have hsz:its.toArray.size+its2.toArray.size<=sizeLine:=by rw[aax,aax];omega
 have OQ:¬(!its.toArray.isEmpty && Builtin.List.listTooLong (its.toArray.size+its2.toArray.size))=true:=by
  rw[EN hsz,adp]
  exact aaE
 refine call_meets F.slot_list_extend ⟨_,e,rfl⟩ F.entry_list_extend (F.args_list_extend_2 _ _)
  (AutoSeq1.list_extend_list_list_0 l its.toArray n b its2.toArray n2 OQ (by rw[aax];omega) (by omega)) ⟨e,e2,?_⟩
 refine⟨.bJ,_,I.LX (its':=its++its2) hH e (by simp) (r.append r2) ?_,rfl,q⟩
 rw[aaA]
 omega
def OR:V->List V->Hp->VK->Prop:=λx vs H Q=>∃l xs y,x= .ref l/\vs=[]/\H l=some (.lst xs)/\xs[xs.length-1]?=some y/\Q y (upd H l (.lst xs.dropLast))
theorem LY:SD X "list.pop" OR:=by
 intro pins s σ H x vs v us Q I rx rv h
 obtain⟨l,xs,y,rfl,rfl,hH,hy,q⟩:=h
 cases rx
 have WB:=rv.zero
 subst WB
 obtain⟨z,its,n,r,hl,e⟩:=I.Di hH
 obtain⟨u,hu,ru⟩:=r.get hy
 have hy':its.toArray[its.toArray.size-1]?=some u:=by
  show its.toArray[its.length-1]?=some u
  rw[<-Array.getElem?_toList,<-hl]
  exact hu
 refine call_meets F.slot_list_pop ⟨_,e,rfl⟩ F.entry_list_pop (F.args_list_pop_1 _) (MeetsSeq.list_pop_last l its.toArray n u hy' (by rw[aax];omega)) ⟨e,?_⟩
 refine⟨y,_,I.LX (its':=its.dropLast) hH e ?_ r.dropLast ?_,ru,q⟩
 ·show its.toArray.eraseIdxIfInBounds (its.toArray.size-1)=its.dropLast.toArray
  rw[aax,List.eraseIdxIfInBounds_toArray,AG]
 ·rw[abm]
  omega
def SG:R2:=λx y H Q=>∃l b xs zs,x= .ref l/\y= .ref b/\H l=some (.lst xs)/\H b=some (.lst zs)/\xs.length+zs.length<=sizeLine/\∀p,H p=none->Q (.ref p) (upd H p (.lst (xs++zs)))
theorem LZ:Ai X (binaryOp .Add) SG:=by
 intro pins s σ H x y v u Q I rx ry h
 obtain⟨l,b,xs,zs,rfl,rfl,hH,hB,hz,q⟩:=h
 cases rx
 cases ry
 obtain⟨z,its,n,r,hl,e⟩:=I.Di hH
 obtain⟨z2,its2,n2,r2,hl2,e2⟩:=I.Di hB
 refine PySem.P.add_list e e2 ?_ (by rw[aax,aax];omega)
 have ea:its.toArray++its2.toArray=(its++its2).toArray:=by simp
 rw[ea]
 exact⟨.ref _,_,I.SE (t':=s.toks) (r.append r2) (by rw[aaA];omega),rfl,q _ I.fresh⟩
end
section
variable{prog:Program}{w:World}{A:Around}{E:Value->Shared->Prop}{s:Shared}
end
section
variable{X:Cx}
end
end L2
namespace Att
open PySem PySem.W PySem.Calls PyProof.Rows
theorem qO{P:Params}{h:Heap}:∀(ns:List Int) (vs:List Value),WellAll P h vs (ns.map WData.int)->IntsAre vs ns:=by
 intro ns
 induction ns with
 |nil=>
  intro vs w
  rw[List.map_nil]at w
  cases w
  exact .nil
 |cons n ns ih=>
  intro vs w
  rw[aaV]at w
  cases w with
  |cons a b=>
   cases a
   exact .cons _ _ (ih _ b)
theorem Dk{l:OpenLaw}{n:Nat}(hn:l.most=some n){P:Params}{h:Heap}{args:List WData}{vals:List Value}
 (hpre:l.row.toRowW.claim.pre args=true)(hwl:WellAll P h vals args) :
 ∃a vs ns,vals=[Value.ref a]/\args=[WData.list (ns.map WData.int)]/\h.get? a=some {cls:= .type "list",data:= .seq vs.toArray}/\IntsAre vs ns/\ns.length<=n:=by
 have hsh:WShape.hasAll [] args [.list .int]=true:=(pre_splitW hpre).1
 have hc:l.pre.holds [] {args:=args}=true:=(pre_splitW hpre).2
 obtain⟨d,r,rfl,h1,h2⟩:=hasAllW_cons hsh
 obtain rfl:=hasAllW_nil h2
 obtain⟨xs,rfl,h3⟩:=hasW_list h1
 obtain⟨ns,rfl⟩:=items_int h3
 have hlen:ns.length<=n:=by
  unfold OpenLaw.pre at hc
  have h4:(WTm.not (.lt (.lit (.int (n:Int))) (.len (.arg 0)))).holds [] {args:=[.list (ns.map .int)]}=true:=by
   have h4:=(holds_andW hc).1
   rw[hn]at h4
   exact h4
  have h5:=condW_of h4 (w_not (w_lt w_lit (w_len_list (w_arg rfl))))
  rw[aas]at h5
  refine Nat.le_of_not_lt λq=>?_
  have q':(n:Int)<((ns.length:Nat):Int):=by omega
  first
   |(rw[decide_eq_true q']at h5;exact absurd h5 (by decide))
   |(simp at h5;omega)
 cases hwl with
 |cons w1 w2=>
  cases w2
  cases w1 with
  |list ho hall=>exact⟨_,_,ns,rfl,rfl,ho,qO ns _ hall,hlen⟩
theorem Dm(l:OpenLaw)(args:List WData):l.row.toRowW.claim.post args (.bool true) args=true:=
 postW_of (r:=l.row.toRowW) (X:=(true==true))
  (show WShape.has [] (.bool true) .bool=true by first|rfl|decide|simp[WShape.has,WShape.arms,WShape.armsAll])
  (show(WTm.eq .res (.lit (.bool true))).value [] {args:=args,res:=some (.bool true),after:=args}=some (.bool (true==true))from w_eq_bool (w_res rfl) w_lit) rfl
section
variable{prog:Program}{w:World}{A:Around}{E:Value->Shared->Prop}{s:Shared}{K:Frag}
end
end Att
namespace L2
open PySem PySem.Spec PyProof.Rows
theorem vh:∀{vs:List Value} {ns:List Int},IntsAre vs ns->Vals (ns.map V.int) vs
 |_,_,.nil=> .nil
 |_,_,.cons n t h=> .cons ⟨t,rfl⟩ (vh h)
def IE(H:Hp):Prop:= ∀b,H b=none\/∃o xs,H b=some (.gm o (.lst xs))
theorem EO{P:Program}{w:World}{K:PySem.W.Frag}{mg mb:Str->Option Value}{CX:Ek}{k:Nat}{fa a:Addr}{fd:FuncData}{x:Str}{sp:Sp}{s₁:Shared}{vs:List Value}{ns:List Int}
 (KX:K.In s₁.heap)(hns:s₁.heap.Ns mainGlobals mg)(hb:s₁.heap.Ns builtinsNs mb)(WC:∀x:Str,x≠"__name__"->mb x=bootBuiltins x)(hlim:s₁.heap.NoLimit)(hg:s₁.gens= #[])
 (ha:s₁.heap.get? a=some {cls:= .type "list",data:= .seq vs.toArray})(hi:IntsAre vs ns)(hl:ns.length<=sizeLine)(hr:fK k callerA)
 (F:∀base:Heap,K.In base->base.Ns mainGlobals mg->cz P w K mg base CX k fa fd [x] sp)(hbind:∀(s:Shared) (u:Value),BindsTo s fd ⟨[u],[]⟩ [(x,u)])
 (B3:∀H:Hp,IE H->gR K H a (ns.map V.int)->sp [.ref a] H (λv _=>v= .bl true) λ_ _ _=>False)
 (SH:∀H e s',CX [] H s₁ (λ_ _ _=>False) e s'->False) :
 codeAny (model P w) callerA (.call (.ref fa) ⟨[.ref a],[]⟩) (λr s'=>r= .ok (.ret (.bool true))/\OldK s₁.heap s'.heap/\s'.os=s₁.os/\AllBare s'.gens) s₁:=by
 have rv:=vh hi
 have SI:=hi.length
 have core:∀H:Hp,IE H->gR K H a (ns.map V.int)->iR P w H s₁.heap->(∀b,H b≠none->b=a)->(H a≠none->K.lookup a=none)->
  codeAny (model P w) callerA (.call (.ref fa) ⟨[.ref a],[]⟩) (λr s'=>r= .ok (.ret (.bool true))/\OldK s₁.heap s'.heap/\s'.os=s₁.os/\AllBare s'.gens) s₁:=by
  intro H hO hS hok hA hK
  have Ca:∀{b:Addr} {o:Obj},s₁.heap.get? b=some o->H b=none->(wC s₁.heap H).get? b=some o:=λe n=>Ex e n
  have OM:∀{b:Addr} {o:Obj} {es:Array DictEntry} {ep:Nat},s₁.heap.get? b=some o->o.data= .dict es ep->H b=none:=λ{b o es ep} e d=>by
   cases q:H b with
   |none=>rfl
   |some u=>
    have e':b=a:=hA b (by rw[q];simp)
    subst e'
    rw[ha]at e;cases e
    have d':Data.seq vs.toArray _=Data.dict es ep:=d
    cases d'
  have Rl:∀{b:Addr} {m:Str->Option Value},s₁.heap.Ns b m->(wC s₁.heap H).Ns b m:=λ{b m} ⟨o,es,ep,e,d,r⟩=>⟨o,es,ep,Ca e (OM e d),d,r⟩
  have U6:K.In (wC s₁.heap H):=λb o e=>Ca (KX b o e) (by
   cases q:H b with
   |none=>rfl
   |some u=>
    have e':b=a:=hA b (by rw[q];simp)
    subst e'
    rw[hK (by rw[q];simp)]at e;cases e)
  have hM:Mod K mg (wC s₁.heap H):=⟨U6,Rl hns,⟨mb,Rl hb,WC⟩,let ⟨mc,h1,h2⟩:=hlim;⟨mc,Rl h1,h2⟩⟩
  have e0:AE P w K mg (wC s₁.heap H) callerA [] s₁ H:=⟨rfl,hM,λb o e=>Ie e,acC (C7 _ _),trivial,λb hb=>absurd (show b∈([]:List Addr)from hb) (by simp),hok,.of_eq hg⟩
  refine codeAny_mono ((F _ U6 (Rl hns)).run callerA [] s₁ H ⟨[.ref a],[]⟩ [.ref a] [.ref a] _ _ hr e0 (hbind s₁ (.ref a)) (.cons rfl .nil) (B3 H hO hS)) λr s' h=>?_
  cases r with
  |error e=>exact(SH H e s' h).elim
  |ok fl=>
   cases fl with
   |next=>exact False.elim h
   |brk=>exact False.elim h
   |cont=>exact False.elim h
   |ret u=>
    obtain⟨v,H',os,bare,un,SJ,r',q⟩:=h
    have q':v= .bl true:=q
    subst q'
    obtain rfl:u=Value.bool true:=r'
    refine⟨rfl,OldK.of_keep λb o e=>?_,os,bare⟩
    cases q:H b with
    |none=>exact un.keep b o e q (by intro z;exact absurd (show b∈([]:List Addr)from z) (by simp)) (by simp)
    |some u=>
     rcases hO b with z|⟨ob,xs,z⟩
     ·rw[q]at z;cases z
     ·have z2:=un.m9 b ob _ z
      obtain⟨e1,_⟩:=hok b _ z
      obtain⟨e2,_⟩:=SJ b _ z2
      rw[e]at e1;cases e1
      exact e2
 cases hk:K.lookup a with
 |some o=>
  have e:=KX a o hk
  rw[ha]at e
  cases e
  refine core (λ_=>none) (λ_=> .inl rfl) (.inr ⟨_,vs.toArray,_,hk,rfl,rfl,rfl,by rw[aax,SI];exact hl,by simpa using rv⟩) (λb u z=>by have z':(none:Option HO)=some u:=z;cases z') (λb z=>absurd rfl z) λz=>absurd rfl z
 |none=>
  refine core (λb=>if b=a then some (.gm {cls:= .type "list",data:= .seq vs.toArray} (.lst (ns.map V.int)))else none) (λb=>?_) (.inl (.inr ⟨{cls:= .type "list",data:= .seq vs.toArray},if_pos rfl⟩)) (λb u z=>?_) (λb z=>?_) λ_=>hk
  ·by_cases hb:b=a
   ·exact .inr ⟨_,_,if_pos hb⟩
   ·exact .inl (if_neg hb)
  ·by_cases hb:b=a
   ·have z':=(if_pos hb).symm.trans z
    cases z'
    subst hb
    exact⟨ha,by rw[aas];exact hl,vs,_,rv,ha⟩
   ·have z':=(if_neg hb).symm.trans z
    cases z'
  ·by_cases hb:b=a
   ·exact hb
   ·exact absurd (if_neg hb) z
end L2
namespace L2
open PySem PySem.Spec PyProof.Rows
end L2
namespace L2
open PySem PySem.Spec PyProof.Rows
def jG(s:Stmt):Arguments:=match s with
 | .FunctionDef _ a _ _ _ _ _ _ _ _=>a
 |_=>{posonlyargs:=[],args:=[],vararg:=none,kwonlyargs:=[],kw_defaults:=[],kwarg:=none,defaults:=[]}
def eW(s:Stmt):List Stmt:=match s with
 | .FunctionDef _ _ b _ _ _ _ _ _ _=>b
 |_=>[]
def au(s:Stmt):Scope:=match s with
 | .FunctionDef _ _ _ _ _ _ sc _ _ _=>sc
 |_=>{kind:= .function,names:=[],isGenerator:=false,isCoroutine:=false}
abbrev gJ:Ek:=λ_ _ _ _ _ _=>False
abbrev E0:XK:=λ_ _ _=>False
theorem KG{X:Cx}:Passes gJ X E0:=λ_ _ _ _ _ _ _ h=>h.elim
structure jC(K:PySem.W.Frag)(x qual:Str)(st:Stmt)(f:Addr)(fd:FuncData):Prop where
 ex:∃(oc:Value) (od:Option Addr) (kV doc pm:Value) (an:Option Addr) (cdv ct:Value) (osl:Array (Option Value)),
  fd=PySem.W.fnOf x qual (jG st) (eW st) (au st) .none kV doc pm an cdv ct/\K.lookup f=some ⟨oc,od,.func fd,osl⟩/\PySem.W.codeIn K cdv qual=true
 kp:PySem.W.keepIn K (.ref f)=true
section
variable{P:Program}{w:World}{K:PySem.W.Frag}{mg:Str->Option Value}{base:Heap}
theorem jC.ok{x qual:Str}{st:Stmt}{f:Addr}{fd:FuncData}{N ps:List Str}{k:Nat}{sp:Sp}(F:jC K x qual st f fd)(S:aO N ps (au st))(len:∀vs H Q E,sp vs H Q E->vs.length=ps.length)
 (hbody:∀(cdv:Value) (A:Around) (outer:List Env) (s:Shared) (H:Hp) (vs:List V) (Q:VK) (E:XK),fK k (A.deeper (envOfC qual (au st) s.heap.objs.size f cdv))->sp vs H Q E->
  ∃t,Au (j8 gJ P w K mg base N qual (au st) f cdv A outer s H E).Ej (eW st) t/\t {nx:=λ_ H'=>Q .bJ H',rt:=Q} (start N vs) H):cz P w K mg base gJ (k+1) f fd ps sp:=by
 obtain⟨oc,od,kV,doc,pm,an,cdv,ct,osl,rfl,lk,hcd⟩:=F.ex
 refine KC lk hcd S len λA outer s H vs Q E hr B3=>?_
 obtain⟨t,h,q⟩:=hbody cdv A outer s H vs Q E hr B3
 exact⟨t,h.Ej,q⟩
theorem jC.binds{x qual:Str}{st:Stmt}{f:Addr}{fd:FuncData}{ps:List Str}(F:jC K x qual st f fd)
 (h:∀(kV doc pm:Value) (an:Option Addr) (cdv ct:Value) (us:List Value),us.length=ps.length->bindArgs (PySem.W.fnOf x qual (jG st) (eW st) (au st) .none kV doc pm an cdv ct) ⟨us,[]⟩=pure (ps.zip us)):Binds K fd ps []:=by
 obtain⟨oc,od,kV,doc,pm,an,cdv,ct,osl,rfl,lk,hcd⟩:=F.ex
 exact .all (h kV doc pm an cdv ct)
end
section
variable{X:Cx}
theorem pv(i:Nat){x:Str}{pos:Pos}(hN:X.N[i]?=some x:=by rfl)(hv:Rg X.env.scope x:=by first|exact Or.inl rfl|exact Or.inr (Or.inl rfl)|exact Or.inr (Or.inr rfl))(hd:(x==("__debug__" :Str))=false:=by decide)
 (hcd:(x==("__classdict__" :Str))=false:=by decide):PE X (.Name x pos) (Ol i):=EA hN hv hd hcd
end
theorem ER{A B:Prop}(h:B):if false=true then A else B:=by
 rw[if_neg aaE]
 exact h
theorem SK{A B:Prop}(h:A):if true=true then A else B:=by
 rw[if_pos rfl]
 exact h
theorem dU{c A B:Prop}[Decidable c](h1:c->A)(h2:¬c->B):if c then A else B:=by
 by_cases h:c
 ·rw[if_pos h]
  exact h1 h
 ·rw[if_neg h]
  exact h2 h
end L2
set_option maxHeartbeats 4000000
namespace L3
open PySem PySem.Spec PyProof.Rows L2
abbrev St:=L2.St
inductive D where
 |bJ|bl (b:Bool)|int (i:Int)|str (x:Str)|ty (n:String)|ref (a:Addr)|tup (xs:List D)|Dn (xs:List D)|L4 (n:String)|exc (C:Addr) (nm:Str) (xs:List D)
def Kl(K:PySem.W.Frag)(a:Addr)(xs:List V):Prop:=
 ∃(o:Obj) (its:Array Value) (n:Nat),K.lookup a=some o/\o.cls= .type "list"/\o.dict=none/\o.data= .seq its n/\its.size<=sizeLine/\Vals xs its.toList
def Fz(K:PySem.W.Frag)(H:Hp)(a:Addr)(xs:List V):Prop:=(∃o,H a=some (.gm o (.lst xs)))\/Kl K a xs
theorem Fz.sq{K:PySem.W.Frag}{H:Hp}{a:Addr}{xs:List V}(h:Fz K H a xs):gR K H a xs:=by
 rcases h with⟨o,h⟩|h
 ·exact .inl (.inr ⟨o,h⟩)
 ·exact .inr h
abbrev xO(C t:Addr):Obj:={cls:= .ref C,data:= .fields #[.ref t,.none,.none,.none,.bool false,.none]}
abbrev yO(C t d:Addr):Obj:={cls:= .ref C,dict:=some d,data:= .fields #[.ref t,.none,.none,.none,.bool false,.none]}
def Xo(H:Hp)(C:Addr)(nm:Str)(o:Obj)(xs:List V):Prop:=(o.cls= .ref C/\∃fs,o.data= .fields fs)/\((xs=[]/\o.dict=none)\/∃dx od vx,xs=[vx]/\o.dict=some dx/\H dx=some (.gm od (.xd [(nm,vx)])))
mutual
def Dat(K:PySem.W.Frag)(H:Hp):D->V->Prop
 | .bJ,v=>v= .bJ
 | .bl b,v=>v= .bl b
 | .int i,v=>v= .int i
 | .str x,v=>v= .str x
 | .ty n,v=>v= .ty n
 | .ref a,v=>v= .ref a
 | .tup ds,v=>∃a xs,v= .ref a/\H a=some (.tup xs)/\aF K H ds xs
 | .Dn ds,v=>∃a xs,v= .ref a/\Fz K H a xs/\aF K H ds xs
 | .L4 n,v=>∃a o u,v= .ref a/\H a=some (.gm o u)/\o.cls= .type n
 | .exc C nm ds,v=>∃a o u xs,v= .ref a/\H a=some (.gm o u)/\Xo H C nm o xs/\aF K H ds xs
def aF(K:PySem.W.Frag)(H:Hp):List D->List V->Prop
 |[],xs=>xs=[]
 |d::ds,xs=>∃v vs,xs=v::vs/\Dat K H d v/\aF K H ds vs
end
structure Ext(H H':Hp):Prop where
 tup:∀b xs,H b=some (.tup xs)->H' b=some (.tup xs)
 gm:∀b o u,H b=some (.gm o u)->H' b=some (.gm o u)
theorem Ext.trans{H H1 H2:Hp}(a:Ext H H1)(b:Ext H1 H2):Ext H H2:=⟨λc xs h=>b.tup c xs (a.tup c xs h),λc o u h=>b.gm c o u (a.gm c o u h)⟩
theorem Fz.mono{K:PySem.W.Frag}{H H':Hp}{a:Addr}{xs:List V}(e:Ext H H')(h:Fz K H a xs):Fz K H' a xs:=by
 rcases h with⟨o,h⟩|h
 ·exact .inl ⟨o,e.gm _ _ _ h⟩
 ·exact .inr h
theorem Xo.mono{H H':Hp}{C:Addr}{nm:Str}{o:Obj}{xs:List V}(e:Ext H H')(h:Xo H C nm o xs):Xo H' C nm o xs:=by
 obtain⟨k,h⟩:=h
 rcases h with h|⟨dx,od,vx,e1,e2,e3⟩
 ·exact⟨k,.inl h⟩
 ·exact⟨k,.inr ⟨dx,od,vx,e1,e2,e.gm _ _ _ e3⟩⟩
mutual
theorem Dat.mono{K:PySem.W.Frag}{H H':Hp}(e:Ext H H'):∀(d:D) (v:V),Dat K H d v->Dat K H' d v
 | .bJ,v,h=>by simpa[Dat]using h
 | .bl b,v,h=>by simpa[Dat]using h
 | .int i,v,h=>by simpa[Dat]using h
 | .str x,v,h=>by simpa[Dat]using h
 | .ty n,v,h=>by simpa[Dat]using h
 | .ref a,v,h=>by simpa[Dat]using h
 | .tup ds,v,h=>by
   obtain⟨a,xs,e1,e2,e3⟩:=(show∃a xs,v= .ref a/\H a=some (.tup xs)/\aF K H ds xs from by simpa only[Dat]using h)
   have:=aF.mono e ds xs e3
   simp only[Dat]
   exact⟨a,xs,e1,e.tup _ _ e2,this⟩
 | .Dn ds,v,h=>by
   obtain⟨a,xs,e1,e2,e3⟩:=(show∃a xs,v= .ref a/\Fz K H a xs/\aF K H ds xs from by simpa only[Dat]using h)
   have:=aF.mono e ds xs e3
   simp only[Dat]
   exact⟨a,xs,e1,e2.mono e,this⟩
 | .L4 n,v,h=>by
   obtain⟨a,o,u,e1,e2,e3⟩:=(show∃a o u,v= .ref a/\H a=some (.gm o u)/\o.cls= .type n from by simpa only[Dat]using h)
   simp only[Dat]
   exact⟨a,o,u,e1,e.gm _ _ _ e2,e3⟩
 | .exc C nm ds,v,h=>by
   obtain⟨a,o,u,xs,e1,e2,e3,e4⟩:=(show∃a o u xs,v= .ref a/\H a=some (.gm o u)/\Xo H C nm o xs/\aF K H ds xs from by simpa only[Dat]using h)
   have:=aF.mono e ds xs e4
   simp only[Dat]
   exact⟨a,o,u,xs,e1,e.gm _ _ _ e2,e3.mono e,this⟩
theorem aF.mono{K:PySem.W.Frag}{H H':Hp}(e:Ext H H'):∀(ds:List D) (xs:List V),aF K H ds xs->aF K H' ds xs
 |[],xs,h=>by simpa[aF]using h
 |d::ds,xs,h=>by
  obtain⟨v,vs,e1,e2,e3⟩:=(show∃v vs,xs=v::vs/\Dat K H d v/\aF K H ds vs from by simpa only[aF]using h)
  have h1:=Dat.mono e d v e2
  have h2:=aF.mono e ds vs e3
  simp only[aF]
  exact⟨v,vs,e1,h1,h2⟩
end
section
variable{K:PySem.W.Frag}{H:Hp}
theorem dN{v:V}:Dat K H .bJ v↔v= .bJ:=by simp only[Dat]
theorem bq{b:Bool}{v:V}:Dat K H (.bl b) v↔v= .bl b:=by simp only[Dat]
theorem aX{i:Int}{v:V}:Dat K H (.int i) v↔v= .int i:=by simp only[Dat]
theorem iU{x:Str}{v:V}:Dat K H (.str x) v↔v= .str x:=by simp only[Dat]
theorem AH{n:String}{v:V}:Dat K H (.ty n) v↔v= .ty n:=by simp only[Dat]
theorem aA{a:Addr}{v:V}:Dat K H (.ref a) v↔v= .ref a:=by simp only[Dat]
theorem br{ds:List D}{v:V}:Dat K H (.tup ds) v↔∃a xs,v= .ref a/\H a=some (.tup xs)/\aF K H ds xs:=by simp only[Dat]
theorem rq{ds:List D}{v:V}:Dat K H (.Dn ds) v↔∃a xs,v= .ref a/\Fz K H a xs/\aF K H ds xs:=by simp only[Dat]
theorem IF{n:String}{v:V}:Dat K H (.L4 n) v↔∃a o u,v= .ref a/\H a=some (.gm o u)/\o.cls= .type n:=by simp only[Dat]
theorem rB{C:Addr}{nm:Str}{ds:List D}{v:V}:Dat K H (.exc C nm ds) v↔∃a o u xs,v= .ref a/\H a=some (.gm o u)/\Xo H C nm o xs/\aF K H ds xs:=by simp only[Dat]
theorem aM{xs:List V}:aF K H [] xs↔xs=[]:=by simp only[aF]
theorem aC{d:D}{ds:List D}{xs:List V}:aF K H (d::ds) xs↔∃v vs,xs=v::vs/\Dat K H d v/\aF K H ds vs:=by simp only[aF]
theorem aF.length:∀{ds:List D} {xs:List V},aF K H ds xs->ds.length=xs.length
 |[],xs,h=>by rw[aM.mp h];rfl
 |d::ds,xs,h=>by
  obtain⟨v,vs,rfl,_,h⟩:=aC.mp h
  simp[aF.length h]
theorem aF.get:∀{ds:List D} {xs:List V} {i:Nat} {d:D},aF K H ds xs->ds[i]?=some d->∃v,xs[i]?=some v/\Dat K H d v
 |[],xs,_,_,_,e=>by simp at e
 |d::ds,xs,i,d',h,e=>by
  obtain⟨v,vs,rfl,h1,h2⟩:=aC.mp h
  cases i with
  |zero=>simp at e;subst e;exact⟨v,rfl,h1⟩
  |succ i=>exact aF.get (i:=i) h2 (by simpa using e)
theorem aF.back:∀{ds:List D} {xs:List V} {i:Nat} {v:V},aF K H ds xs->xs[i]?=some v->∃d,ds[i]?=some d/\Dat K H d v
 |[],xs,i,v,h,e=>by rw[aM.mp h]at e;simp at e
 |d::ds,xs,i,v',h,e=>by
  obtain⟨v,vs,rfl,h1,h2⟩:=aC.mp h
  cases i with
  |zero=>simp at e;subst e;exact⟨d,rfl,h1⟩
  |succ i=>exact aF.back (i:=i) h2 (by simpa using e)
theorem aF.append:∀{ds es:List D} {xs ys:List V},aF K H ds xs->aF K H es ys->aF K H (ds++es) (xs++ys)
 |[],es,xs,ys,h,h'=>by rw[aM.mp h];exact h'
 |d::ds,es,xs,ys,h,h'=>by
  obtain⟨v,vs,rfl,h1,h2⟩:=aC.mp h
  exact aC.mpr ⟨v,vs++ys,rfl,h1,h2.append h'⟩
theorem aF.one{d:D}{v:V}(h:Dat K H d v):aF K H [d] [v]:=aC.mpr ⟨v,[],rfl,h,aM.mpr rfl⟩
end
inductive MO where
 |lst (ds:List D)
 |mQ (kvs:List (List (List Int) ×D))
abbrev Mp:=Addr->Option MO
def ay(M:Mp)(a:Addr)(o:MO):Mp:=λb=>if b=a then some o else M b
def OS:Mp:=λ_=>none
theorem ah{M:Mp}{a:Addr}{o:MO}:ay M a o a=some o:=by unfold ay;rw[if_pos rfl]
theorem aK{M:Mp}{a b:Addr}{o:MO}(h:b≠a):ay M a o b=M b:=by unfold ay;rw[if_neg h]
theorem kH{M:Mp}{a:Addr}{o u:MO}:ay (ay M a o) a u=ay M a u:=by
 funext b;unfold ay;split<;>rfl
theorem aj{M:Mp}{a b:Addr}{o u:MO}(h:M b=some o)(n:M a=none):ay M a u b=some o:=by
 rw[aK (λe=>by subst e;rw[h]at n;cases n)];exact h
def Le(M M':Mp):Prop:= ∀a o,M a=some o->M' a=some o
theorem Le.refl(M:Mp):Le M M:=λ_ _ h=>h
theorem Le.trans{M M1 M2:Mp}(a:Le M M1)(b:Le M1 M2):Le M M2:=λc o h=>b c o (a c o h)
theorem Le.new{M:Mp}{a:Addr}{o:MO}(n:M a=none):Le M (ay M a o):=λ_ _ h=>aj h n
def ES(ks:List (List Int)):Int:=reduceHash (Builtin.Tuple.tupleHashOf (ks.map λk=>reduceHash (Builtin.Tuple.tupleHashOf (k.map hashInt))))
abbrev DX:=List (List (List Int) ×Addr ×Value)
def ET(x:List (List Int) ×Addr ×Value):DictEntry:=⟨ES x.1,.ref x.2.1,x.2.2⟩
def jt(a:Addr)(xs:DX):Heap->Prop:=λh=>∃o es,h.get? a=some o/\o.ExactDict/\o.data= .dict es xs.length/\es.toList=xs.map ET
def kD(k:List (List Int)):D:= .tup (k.map λl=> .tup (l.map .int))
def j9(K:PySem.W.Frag)(H:Hp)(p:List (List Int) ×D)(x:List (List Int) ×Addr ×Value):Prop:=p.1=x.1/\Dat K H (kD p.1) (.ref x.2.1)/\∃v,Dat K H p.2 v/\RelV v x.2.2
theorem j9.mono{K:PySem.W.Frag}{H H':Hp}(e:Ext H H'){p:List (List Int) ×D}{x:List (List Int) ×Addr ×Value}(h:j9 K H p x):j9 K H' p x:=by
 obtain⟨h1,h2,v,h3,h4⟩:=h
 exact⟨h1,Dat.mono e _ _ h2,v,Dat.mono e _ _ h3,h4⟩
def NV(K:PySem.W.Frag)(H:Hp)(a:Addr):MO->Prop
 | .lst ds=>∃xs,H a=some (.lst xs)/\aF K H ds xs
 | .mQ kvs=>∃xs:DX,H a=some (.ext (jt a xs))/\(a==sysModules)=false/\(xs.map (·.1)).Nodup/\Paired (j9 K H) kvs xs
theorem NV.mono{K:PySem.W.Frag}{H H':Hp}{a:Addr}{o:MO}(h:NV K H a o)(e:Ext H H')(s:∀u,H a=some u->H' a=some u):NV K H' a o:=by
 cases o with
 |lst ds=>
  obtain⟨xs,e1,e2⟩:=h
  exact⟨xs,s _ e1,aF.mono e _ _ e2⟩
 |mQ kvs=>
  obtain⟨xs,e1,y,nd,p⟩:=h
  exact⟨xs,s _ e1,y,nd,Paired.Ic p λ_ _ z=>z.mono e⟩
theorem NV.has{K:PySem.W.Frag}{H:Hp}{a:Addr}{o:MO}(h:NV K H a o):∃u,H a=some u/\((∃xs,u= .lst xs)\/∃φ,u= .ext φ):=by
 cases o with
 |lst ds=>
  obtain⟨xs,e1,_⟩:=h
  exact⟨_,e1,.inl ⟨_,rfl⟩⟩
 |mQ kvs=>
  obtain⟨xs,e1,_⟩:=h
  exact⟨_,e1,.inr ⟨_,rfl⟩⟩
def bK(K:PySem.W.Frag)(H:Hp)(M:Mp):Prop:= ∀a o,M a=some o->NV K H a o
theorem bK.no{K:PySem.W.Frag}{H:Hp}:bK K H OS:=λ_ _ h=>by cases h
theorem bK.le{K:PySem.W.Frag}{H:Hp}{M M':Mp}(h:bK K H M')(l:Le M M'):bK K H M:=λa o e=>h a o (l a o e)
theorem bK.lst{K:PySem.W.Frag}{H:Hp}{M:Mp}{a:Addr}{ds:List D}(h:bK K H M)(e:M a=some (.lst ds)):∃xs,H a=some (.lst xs)/\aF K H ds xs:=h a _ e
theorem bK.free{K:PySem.W.Frag}{H:Hp}{M:Mp}{a:Addr}(h:bK K H M)(e:H a=none):M a=none:=by
 cases q:M a with
 |none=>rfl
 |some o=>
  obtain⟨u,e',_⟩:=(h a o q).has
  rw[e]at e';cases e'
theorem bK.AI{K:PySem.W.Frag}{H:Hp}{M:Mp}{a:Addr}{u:HO}(h:bK K H M)(e:H a=some u)(n:∀xs,u≠ .lst xs)(n2:∀φ,u≠ .ext φ:=by intro _ z;cases z):M a=none:=by
 cases q:M a with
 |none=>rfl
 |some o=>
  obtain⟨u',e',h'⟩:=(h a o q).has
  rw[e]at e'
  cases e'
  rcases h' with⟨xs,z⟩|⟨φ,z⟩
  ·exact absurd z (n xs)
  ·exact absurd z (n2 φ)
def Fr(M:Mp)(H:Hp)(M':Mp)(H':Hp):Prop:= ∀b o,M b=none->H b=some o->H' b=some o/\M' b=none
theorem Fr.refl(M:Mp)(H:Hp):Fr M H M H:=λ_ _ n e=>⟨e,n⟩
theorem Fr.trans{M M1 M2:Mp}{H H1 H2:Hp}(a:Fr M H M1 H1)(b:Fr M1 H1 M2 H2):Fr M H M2 H2:=λc o n e=>
 let ⟨e1,n1⟩:=a c o n e
 b c o n1 e1
theorem Fr.le{M M1 M2:Mp}{H H1:Hp}(a:Fr M H M1 H1)(l:Le M2 M1):Fr M H M2 H1:=λb o n e=>by
 obtain⟨e1,n1⟩:=a b o n e
 refine⟨e1,?_⟩
 cases q:M2 b with
 |none=>rfl
 |some u=>rw[l b u q]at n1;cases n1
theorem Fr.ext{K:PySem.W.Frag}{M M':Mp}{H H':Hp}(f:Fr M H M' H')(r:bK K H M):Ext H H':=
 ⟨λb xs e=>(f b _ (r.AI e (λ_ z=>by cases z)) e).1,λb o u e=>(f b _ (r.AI e (λ_ z=>by cases z)) e).1⟩
theorem Ext.new{H:Hp}{p:Addr}{o:HO}(n:H p=none):Ext H (upd H p o):=
 ⟨λb xs e=>by rw[aE (bF e n)];exact e,λb o' u e=>by rw[aE (bF e n)];exact e⟩
theorem Fr.new{M M':Mp}{H:Hp}{p:Addr}{o:HO}(n:H p=none)(h:∀b,b≠p->M' b=M b):Fr M H M' (upd H p o):=λb u m e=>by
 have hb:b≠p:=bF e n
 rw[aE hb,h b hb]
 exact⟨e,m⟩
theorem Fr.write{K:PySem.W.Frag}{M:Mp}{H:Hp}{p:Addr}{o:HO}{u:MO}{v:MO}(m:M p=some u):Fr M H (ay M p v) (upd H p o):=λb w n e=>by
 have hb:b≠p:=λz=>by subst z;rw[m]at n;cases n
 rw[aE hb,aK hb]
 exact⟨e,n⟩
theorem bK.new{K:PySem.W.Frag}{M:Mp}{H:Hp}{p:Addr}{o:HO}(r:bK K H M)(n:H p=none):bK K (upd H p o) M:=λa u e=>
 (r a u e).mono (Ext.new n) λv q=>by rw[aE (bF q n)];exact q
theorem Ext.kI{H:Hp}{p:Addr}{xs ys:List V}(h:H p=some (.lst xs)):Ext H (upd H p (.lst ys)):=
 ⟨λb zs e=>by rw[aE (BU e h (by intro z;cases z))];exact e,λb o u e=>by rw[aE (BU e h (by intro z;cases z))];exact e⟩
theorem bK.newL{K:PySem.W.Frag}{M:Mp}{H:Hp}{p:Addr}{xs:List V}{ds:List D}(r:bK K H M)(n:H p=none)(d:aF K H ds xs):bK K (upd H p (.lst xs)) (ay M p (.lst ds)):=λa u e=>by
 by_cases ha:a=p
 ·subst ha
  rw[ah]at e;cases e
  exact⟨xs,bu,aF.mono (Ext.new n) _ _ d⟩
 ·rw[aK ha]at e
  exact r.new n a u e
theorem bK.kI{K:PySem.W.Frag}{M:Mp}{H:Hp}{p:Addr}{xs ys:List V}{ds:List D}(r:bK K H M)(h:H p=some (.lst xs))(d:aF K H ds ys):bK K (upd H p (.lst ys)) (ay M p (.lst ds)):=λa u e=>by
 by_cases ha:a=p
 ·subst ha
  rw[ah]at e;cases e
  exact⟨ys,bu,aF.mono (Ext.kI h) _ _ d⟩
 ·rw[aK ha]at e
  exact(r a u e).mono (Ext.kI h) λv q=>by rw[aE ha];exact q
theorem Ext.wI{H:Hp}{p:Addr}{φ:Heap->Prop}{o:HO}(h:H p=some (.ext φ)):Ext H (upd H p o):=
 ⟨λb zs e=>by rw[aE (BU e h (by intro z;cases z))];exact e,λb o u e=>by rw[aE (BU e h (by intro z;cases z))];exact e⟩
theorem bK.newD{K:PySem.W.Frag}{M:Mp}{H:Hp}{p:Addr}(r:bK K H M)(n:H p=none)(y:(p==sysModules)=false):bK K (upd H p (.ext (jt p []))) (ay M p (.mQ [])):=λa u e=>by
 by_cases ha:a=p
 ·subst ha
  rw[ah]at e;cases e
  exact⟨[],bu,y,acJ,.nil⟩
 ·rw[aK ha]at e
  exact r.new n a u e
theorem bK.mQ{K:PySem.W.Frag}{H:Hp}{M:Mp}{a:Addr}{kvs:List (List (List Int) ×D)}(h:bK K H M)(e:M a=some (.mQ kvs)):∃xs:DX,H a=some (.ext (jt a xs))/\(a==sysModules)=false/\(xs.map (·.1)).Nodup/\Paired (j9 K H) kvs xs:=h a _ e
theorem bK.wI{K:PySem.W.Frag}{M:Mp}{H:Hp}{p:Addr}{φ:Heap->Prop}{xs:DX}{kvs:List (List (List Int) ×D)}(r:bK K H M)(h:H p=some (.ext φ))(y:(p==sysModules)=false)(nd:(xs.map (·.1)).Nodup)(d:Paired (j9 K H) kvs xs) :
 bK K (upd H p (.ext (jt p xs))) (ay M p (.mQ kvs)):=λa u e=>by
 by_cases ha:a=p
 ·subst ha
  rw[ah]at e;cases e
  exact⟨xs,bu,y,nd,Paired.Ic d λ_ _ z=>z.mono (Ext.wI h)⟩
 ·rw[aK ha]at e
  exact(r a u e).mono (Ext.wI h) λv q=>by rw[aE ha];exact q
abbrev En:=List (Option D)
structure Rep(K:PySem.W.Frag)(H:Hp)(σ:St)(ρ:En)(M:Mp):Prop where
 env:∀(i:Nat) d,ρ[i]?=some (some d)->∃v,σ[i]?=some (some v)/\Dat K H d v
 len:ρ.length=σ.length
 mem:bK K H M
theorem Rep.go{K:PySem.W.Frag}{H H':Hp}{σ:St}{ρ:En}{M M':Mp}(r:Rep K H σ ρ M)(f:Fr M H M' H')(r':bK K H' M'):Rep K H' σ ρ M':=
 ⟨λi d e=>let ⟨v,e1,e2⟩:=r.env i d e;⟨v,e1,Dat.mono (f.ext r.mem) _ _ e2⟩,r.len,r'⟩
theorem Rep.set{K:PySem.W.Frag}{H:Hp}{σ:St}{ρ:En}{M:Mp}{i:Nat}{d:D}{v:V}(r:Rep K H σ ρ M)(h:Dat K H d v):Rep K H (σ.set i (some v)) (ρ.set i (some d)) M:=by
 refine⟨λj e q=>?_,by simp[r.len],r.mem⟩
 by_cases hj:i=j
 ·subst hj
  by_cases hl:i<ρ.length
  ·rw[abG hl]at q
   cases q
   exact⟨v,abG (by rw[<-r.len];exact hl),h⟩
  ·rw[aby (by simp;omega)]at q;cases q
 ·rw[abZ hj]at q ⊢
  exact r.env j e q
abbrev DK:=D->Mp->Prop
abbrev dg:=En->Mp->DK->Prop
abbrev mR:=En->Mp->(Bool->Mp->Prop)->Prop
abbrev pC:=En->Mp->(List D->Mp->Prop)->Prop
def Post(K:PySem.W.Frag)(M:Mp)(H:Hp)(Q:DK):VK:=λv H'=>∃d M',Fr M H M' H'/\Dat K H' d v/\bK K H' M'/\Q d M'
def qz(K:PySem.W.Frag)(M:Mp)(H:Hp)(Q:Bool->Mp->Prop):Bool->Hp->Prop:=λb H'=>∃M',Fr M H M' H'/\bK K H' M'/\Q b M'
def KH(K:PySem.W.Frag)(M:Mp)(H:Hp)(Q:List D->Mp->Prop):List V->Hp->Prop:=λvs H'=>∃ds M',Fr M H M' H'/\aF K H' ds vs/\bK K H' M'/\Q ds M'
structure cH(X:Cx)(e:Expr)(t:dg):Prop where
 run:∀(pins:List (Addr ×Obj)) (s:Shared) (σ:St) (H:Hp) (ρ:En) (M:Mp) (Q:DK),Inv X pins σ H s->Rep X.K H σ ρ M->t ρ M Q->wpAny (model X.prog X.w) X.A (eval e X.env) (EP X pins σ (Post X.K M H Q)) X.xe s
structure yJ(X:Cx)(e:Expr)(t:mR):Prop where
 run:∀(pins:List (Addr ×Obj)) (s:Shared) (σ:St) (H:Hp) (ρ:En) (M:Mp) (Q:Bool->Mp->Prop),Inv X pins σ H s->Rep X.K H σ ρ M->t ρ M Q->wpAny (model X.prog X.w) X.A (isTrue e X.env (eval e X.env)) (TP X pins σ (qz X.K M H Q)) X.xe s
structure uF(X:Cx)(e:Expr)(t:mR):Prop where
 run:∀(whole:Sem Value) (pins:List (Addr ×Obj)) (s:Shared) (σ:St) (H:Hp) (ρ:En) (M:Mp) (Q:Bool->Mp->Prop),Inv X pins σ H s->Rep X.K H σ ρ M->t ρ M Q->wpAny (model X.prog X.w) X.A (isTrue e X.env whole) (TP X pins σ (qz X.K M H Q)) X.xe s
theorem uF.pt{X:Cx}{e:Expr}{t:mR}(h:uF X e t):yJ X e t:=⟨h.run _⟩
structure yz(X:Cx)(es:List Expr)(t:pC):Prop where
 run:∀(pos:Pos) (pins:List (Addr ×Obj)) (s:Shared) (σ:St) (H:Hp) (ρ:En) (M:Mp) (Q:List D->Mp->Prop),Inv X pins σ H s->Rep X.K H σ ρ M->t ρ M Q->wpAny (model X.prog X.w) X.A (spliced (backTo pos (starEach es X.env))) (AP X pins σ (KH X.K M H Q)) X.xe s
structure Aj where
 nx:En->Mp->Prop
 rt:DK
 bk:En->Mp->Prop:=λ_ _=>False
 ct:En->Mp->Prop:=λ_ _=>False
abbrev ia:=Aj->En->Mp->Prop
def gn(K:PySem.W.Frag)(M:Mp)(H:Hp)(Q:En->Mp->Prop):St->Hp->Prop:=λσ' H'=>∃ρ' M',Fr M H M' H'/\Rep K H' σ' ρ' M'/\Q ρ' M'
def ends(K:PySem.W.Frag)(M:Mp)(H:Hp)(D:Aj):Ends:={nx:=gn K M H D.nx,rt:=Post K M H D.rt,bk:=gn K M H D.bk,ct:=gn K M H D.ct}
structure vm(X:Cx)(st:Stmt)(t:ia):Prop where
 run:∀(pins:List (Addr ×Obj)) (s:Shared) (σ:St) (H:Hp) (ρ:En) (M:Mp) (D:Aj),Inv X pins σ H s->Rep X.K H σ ρ M->t D ρ M->wpAny (model X.prog X.w) X.A (exec st X.env) (SP X pins (ends X.K M H D)) X.xe s
structure iS(X:Cx)(st:List Stmt)(t:ia):Prop where
 run:∀(pins:List (Addr ×Obj)) (s:Shared) (σ:St) (H:Hp) (ρ:En) (M:Mp) (D:Aj),Inv X pins σ H s->Rep X.K H σ ρ M->t D ρ M->wpAny (model X.prog X.w) X.A (execs st X.env) (SP X pins (ends X.K M H D)) X.xe s
section
variable{X:Cx}
theorem up{e:Expr}{te:TE}{t:dg}(h:PE X e te)(g:∀σ H ρ M Q,Rep X.K H σ ρ M->t ρ M Q->te σ H (Post X.K M H Q)):cH X e t:=
 ⟨λpins s σ H ρ M Q I r q=>h pins s σ H _ I (g σ H ρ M Q r q)⟩
theorem WD{e:Expr}{te:TT}{t:mR}(h:PT X e te)(g:∀σ H ρ M Q,Rep X.K H σ ρ M->t ρ M Q->te σ H (qz X.K M H Q)):yJ X e t:=
 ⟨λpins s σ H ρ M Q I r q=>h pins s σ H _ I (g σ H ρ M Q r q)⟩
theorem EU{st:Stmt}{te:TS}{t:ia}(h:PS X st te)(g:∀σ H ρ M D,Rep X.K H σ ρ M->t D ρ M->te (ends X.K M H D) σ H):vm X st t:=
 ⟨λpins s σ H ρ M D I r q=>h pins s σ H _ I (g σ H ρ M D r q)⟩
def dn(K:PySem.W.Frag)(t:dg):TE:=λσ H Q'=>∃ρ M Q,Rep K H σ ρ M/\t ρ M Q/\∀v H',Post K M H Q v H'->Q' v H'
def SM(K:PySem.W.Frag)(t:mR):TT:=λσ H Q'=>∃ρ M Q,Rep K H σ ρ M/\t ρ M Q/\∀v H',qz K M H Q v H'->Q' v H'
def U7(K:PySem.W.Frag)(t:pC):TA:=λσ H Q'=>∃ρ M Q,Rep K H σ ρ M/\t ρ M Q/\∀v H',KH K M H Q v H'->Q' v H'
def Rm(K:PySem.W.Frag)(t:ia):TS:=λD' σ H=>∃ρ M D,Rep K H σ ρ M/\t D ρ M/\(∀σ' H',gn K M H D.nx σ' H'->D'.nx σ' H')/\(∀v H',Post K M H D.rt v H'->D'.rt v H')/\(∀σ' H',gn K M H D.bk σ' H'->D'.bk σ' H')/\(∀σ' H',gn K M H D.ct σ' H'->D'.ct σ' H')
theorem cH.dn{e:Expr}{t:dg}(h:cH X e t):PE X e (dn X.K t):=λpins s σ H Q' I ⟨ρ,M,Q,r,q,k⟩=>
 c5 (h.run pins s σ H ρ M Q I r q) λ_ _ ⟨v,H',I',rv,p⟩=>⟨v,H',I',rv,k v H' p⟩
theorem yJ.dn{e:Expr}{t:mR}(h:yJ X e t):PT X e (SM X.K t):=λpins s σ H Q' I ⟨ρ,M,Q,r,q,k⟩=>
 c5 (h.run pins s σ H ρ M Q I r q) λ_ _ ⟨H',I',p⟩=>⟨H',I',k _ H' p⟩
theorem uF.dn{e:Expr}{t:mR}(h:uF X e t):PW X e (SM X.K t):=λwh pins s σ H Q' I ⟨ρ,M,Q,r,q,k⟩=>
 c5 (h.run wh pins s σ H ρ M Q I r q) λ_ _ ⟨H',I',p⟩=>⟨H',I',k _ H' p⟩
theorem yz.dn{es:List Expr}{t:pC}(h:yz X es t):PA X es (U7 X.K t):=λpos pins s σ H Q' I ⟨ρ,M,Q,r,q,k⟩=>
 c5 (h.run pos pins s σ H ρ M Q I r q) λ_ _ ⟨vs,H',I',rv,p⟩=>⟨vs,H',I',rv,k vs H' p⟩
theorem iS.dn{sts:List Stmt}{t:ia}(h:iS X sts t):Au X sts (Rm X.K t):=λpins s σ H D' I ⟨ρ,M,D,r,q,k1,k2,k3,k4⟩=>
 c5 (h.run pins s σ H ρ M D I r q) λf s' z=>by
  cases f with
  |next=>obtain⟨σ',H',I',p⟩:=z;exact⟨σ',H',I',k1 _ _ p⟩
  |brk=>obtain⟨σ',H',I',p⟩:=z;exact⟨σ',H',I',k3 _ _ p⟩
  |cont=>obtain⟨σ',H',I',p⟩:=z;exact⟨σ',H',I',k4 _ _ p⟩
  |ret u=>obtain⟨v,σ',H',I',rv,p⟩:=z;exact⟨v,σ',H',I',rv,k2 _ _ p⟩
theorem dW{K:PySem.W.Frag}{t:dg}{σ:St}{H:Hp}{ρ:En}{M:Mp}{Q:DK}{Q':VK}(r:Rep K H σ ρ M)(q:t ρ M Q)(k:∀v H' d M',Fr M H M' H'->Dat K H' d v->Rep K H' σ ρ M'->Q d M'->Q' v H'):dn K t σ H Q':=
 ⟨ρ,M,Q,r,q,λv H' ⟨d,M',f,dv,rm,p⟩=>k v H' d M' f dv (r.go f rm) p⟩
theorem pF{K:PySem.W.Frag}{t:mR}{σ:St}{H:Hp}{ρ:En}{M:Mp}{Q:Bool->Mp->Prop}{Q':Bool->Hp->Prop}(r:Rep K H σ ρ M)(q:t ρ M Q)(k:∀b H' M',Fr M H M' H'->Rep K H' σ ρ M'->Q b M'->Q' b H'):SM K t σ H Q':=
 ⟨ρ,M,Q,r,q,λb H' ⟨M',f,rm,p⟩=>k b H' M' f (r.go f rm) p⟩
theorem kJ{K:PySem.W.Frag}{t:pC}{σ:St}{H:Hp}{ρ:En}{M:Mp}{Q:List D->Mp->Prop}{Q':List V->Hp->Prop}(r:Rep K H σ ρ M)(q:t ρ M Q)(k:∀vs H' ds M',Fr M H M' H'->aF K H' ds vs->Rep K H' σ ρ M'->Q ds M'->Q' vs H'):U7 K t σ H Q':=
 ⟨ρ,M,Q,r,q,λv H' ⟨d,M',f,dv,rm,p⟩=>k v H' d M' f dv (r.go f rm) p⟩
theorem aH{K:PySem.W.Frag}{M:Mp}{H:Hp}{Q:DK}{d:D}{v:V}(rm:bK K H M)(h:Dat K H d v)(q:Q d M):Post K M H Q v H:=⟨d,M,.refl _ _,h,rm,q⟩
theorem Post.back{K:PySem.W.Frag}{M M1:Mp}{H H1:Hp}{Q:DK}{v:V}{H':Hp}(f:Fr M H M1 H1)(p:Post K M1 H1 Q v H'):Post K M H Q v H':=by
 obtain⟨d,M',f',dv,rm,q⟩:=p
 exact⟨d,M',f.trans f',dv,rm,q⟩
theorem qz.back{K:PySem.W.Frag}{M M1:Mp}{H H1:Hp}{Q:Bool->Mp->Prop}{b:Bool}{H':Hp}(f:Fr M H M1 H1)(p:qz K M1 H1 Q b H'):qz K M H Q b H':=by
 obtain⟨M',f',rm,q⟩:=p
 exact⟨M',f.trans f',rm,q⟩
theorem gn.back{K:PySem.W.Frag}{M M1:Mp}{H H1:Hp}{Q:En->Mp->Prop}{σ:St}{H':Hp}(f:Fr M H M1 H1)(p:gn K M1 H1 Q σ H'):gn K M H Q σ H':=by
 obtain⟨ρ',M',f',r,q⟩:=p
 exact⟨ρ',M',f.trans f',r,q⟩
end
end L3
namespace L3
open PySem PySem.Spec PyProof.Rows L2
section
variable{X:Cx}{a b c:Expr}{ta tb tc:dg}{pos:Pos}
def OT(i:Nat):dg:=λρ M Q=>∃d,ρ[i]?=some (some d)/\Q d M
def Rn(d:D):dg:=λ_ M Q=>Q d M
theorem af(i:Nat){x:Str}{pos:Pos}(hN:X.N[i]?=some x:=by rfl)(hv:Rg X.env.scope x:=by first|exact Or.inl rfl|exact Or.inr (Or.inl rfl)|exact Or.inr (Or.inr rfl))(hd:(x==("__debug__" :Str))=false:=by decide)
 (hcd:(x==("__classdict__" :Str))=false:=by decide):cH X (.Name x pos) (OT i):=
 up (EA hN hv hd hcd) λσ H ρ M Q r ⟨d,e,q⟩=>by
  obtain⟨v,e1,e2⟩:=r.env i d e
  exact⟨v,e1,aH r.mem e2 q⟩
theorem ai{i j pos}:cH X (.Constant (.int i) j pos) (Rn (.int i)):=up Ly λ_ _ _ _ _ r q=>aH r.mem (aX.mpr rfl) q
theorem gM{b j pos}:cH X (.Constant (.bool b) j pos) (Rn (.bl b)):=up Om λ_ _ _ _ _ r q=>aH r.mem (bq.mpr rfl) q
theorem vn{x:Str}{C:Addr}{pos:Pos}(hg:Gl X x)(hm:X.mg x=some (.ref C))(hd:(x==("__debug__" :Str))=false:=by decide):cH X (.Name x pos) (Rn (.ref C)):=
 up (Ii (v:= .ref C) hg hm rfl hd) λ_ _ _ _ _ r q=>aH r.mem (aA.mpr rfl) q
theorem nj{x:Str}{n:String}{pos:Pos}(hg:Gl X x)(hm:X.mg x=none)(hv:bootBuiltins x=some (.type n))(hn:x≠"__name__" :=by decide)(hd:(x==("__debug__" :Str))=false:=by decide):cH X (.Name x pos) (Rn (.ty n)):=
 up (Ij (v:= .ty n) hg hm hv rfl hn hd) λ_ _ _ _ _ r q=>aH r.mem (AH.mpr rfl) q
abbrev R3:=D->D->Mp->DK->Prop
structure mS(X:Cx)(f:Value->Value->Sem Value)(t:R3):Prop where
 run:∀(pins:List (Addr ×Obj)) (s:Shared) (σ:St) (H:Hp) (M:Mp) (x y:V) (d e:D) (v u:Value) (Q:DK),Inv X pins σ H s->bK X.K H M->RelV x v->RelV y u->Dat X.K H d x->Dat X.K H e y->t d e M Q->
  wpAny (model X.prog X.w) X.A (f v u) (EP X pins σ (Post X.K M H Q)) X.xe s
theorem Ro{f:Value->Value->Sem Value}{r:R2}{t:R3}(h:Ai X f r)(g:∀H M x y d e Q,bK X.K H M->Dat X.K H d x->Dat X.K H e y->t d e M Q->r x y H (Post X.K M H Q)):mS X f t:=
 ⟨λpins s σ H M x y d e v u Q I rm rx ry dx dy q=>h pins s σ H x y v u _ I rx ry (g H M x y d e Q rm dx dy q)⟩
def IG(t:R3)(ta tb:dg):dg:=λρ M Q=>ta ρ M λx M1=>tb ρ M1 λy M2=>t x y M2 Q
theorem OU(ha:cH X a ta)(hb:cH X b tb){pins:List (Addr ×Obj)}{s:Shared}{σ:St}{H:Hp}{ρ:En}{M:Mp}{R:D->D->Mp->Prop}(I:Inv X pins σ H s)(r:Rep X.K H σ ρ M)
 (h:ta ρ M λx M1=>tb ρ M1 λy M2=>R x y M2){Q:Value->Shared->Prop}{f:Value->Value->Sem Value}
 (hf:∀v u s2 x y d e H2 M2,Inv X pins σ H2 s2->Rep X.K H2 σ ρ M2->Fr M H M2 H2->RelV x v->RelV y u->Dat X.K H2 d x->Dat X.K H2 e y->R d e M2->wpAny (model X.prog X.w) X.A (f v u) Q X.xe s2) :
 wpAny (model X.prog X.w) X.A (eval a X.env) (λv s₁=>wpAny (model X.prog X.w) X.A (eval b X.env) (λu s₂=>wpAny (model X.prog X.w) X.A (f v u) Q X.xe s₂) X.xe s₁) X.xe s:=by
 refine c5 (ha.run pins s σ H ρ M _ I r h) λv s1 ⟨x,H1,I1,r1,d,M1,f1,d1,ju,q1⟩=>?_
 have R1:=r.go f1 ju
 refine c5 (hb.run pins s1 σ H1 ρ M1 _ I1 R1 q1) λu s2 ⟨y,H2,I2,r2,e,M2,f2,d2,KJ,q2⟩=>?_
 exact hf v u s2 x y d e H2 M2 I2 (R1.go f2 KJ) (f1.trans f2) r1 r2 (Dat.mono (f2.ext ju) _ _ d1) d2 q2
theorem aq{op:Operator}{t:R3}(ho:mS X (binaryOp op) t)(ha:cH X a ta)(hb:cH X b tb):cH X (.BinOp a op b pos) (IG t ta tb):=by
 constructor
 intro pins s σ H ρ M Q I r h
 refine wpAny_BinOp (OU ha hb I r h λv u s2 x y d e H2 M2 I2 R2 f rx ry dx dy q=>?_)
 exact c5 (ho.run pins s2 σ H2 M2 x y d e v u Q I2 R2.mem rx ry dx dy q) λ_ _ ⟨z,H3,I3,r3,p⟩=>⟨z,H3,I3,r3,p.back f⟩
theorem kK{op:CmpOp}{t:R3}(ho:mS X (compareOp op) t)(ha:cH X a ta)(hb:cH X b tb)(hm:behindInMarks op b=false):cH X (.Compare a [op] [b] pos) (IG t ta tb):=by
 constructor
 intro pins s σ H ρ M Q I r h
 refine wpAny_Compare1 (OU ha hb I r h λv u s2 x y d e H2 M2 I2 R2 f rx ry dx dy q=>?_) hm
 exact c5 (ho.run pins s2 σ H2 M2 x y d e v u Q I2 R2.mem rx ry dx dy q) λ_ _ ⟨z,H3,I3,r3,p⟩=>⟨z,H3,I3,r3,p.back f⟩
def EV(t:dg):mR:=λρ M Q=>t ρ M λx M'=>∃k,x= .bl k/\Q k M'
theorem aU{op:CmpOp}{t:R3}(ho:mS X (compareOp op) t)(ha:cH X a ta)(hb:cH X b tb)(hm:behindInMarks op b=false):yJ X (.Compare a [op] [b] pos) (EV (IG t ta tb)):=by
 constructor
 intro pins s σ H ρ M Q I r h
 refine wpAny_isTrue_Compare1 (c5 (ha.run pins s σ H ρ M _ I r h) λv s1 ⟨x,H1,I1,r1,d,M1,f1,d1,ju,q1⟩=>c5 (hb.run pins s1 σ H1 ρ M1 _ I1 (r.go f1 ju) q1) λu s2 ⟨y,H2,I2,r2,e,M2,f2,d2,KJ,q2⟩=>
  c5 (ho.run pins s2 σ H2 M2 x y d e v u _ I2 KJ r1 r2 (Dat.mono (f2.ext ju) _ _ d1) d2 q2) λw s3 ⟨z,H3,I3,r3,dz,M3,f3,d3,WE,k,ek,q3⟩=>?_) hm
 subst ek
 obtain rfl:=bq.mp d3
 cases r3
 exact wpAny_truthy_bool ⟨H3,I3,M3,(f1.trans f2).trans f3,WE,q3⟩
theorem gu{e:Expr}{t:dg}(h:cH X e t)(he:∀whole,isTrue e X.env whole=(do let v <-whole;standAt e.pos;holding [v] (truthy v)):=by intro _;rfl):yJ X e (EV t):=by
 constructor
 intro pins s σ H ρ M Q I r hw
 refine isTrue_plain (c5 (h.run pins s σ H ρ M _ I r hw) λv s1 ⟨x,H1,I1,r1,d,M1,f1,d1,ju,k,ek,q1⟩=>?_) (he _)
 subst ek
 obtain rfl:=bq.mp d1
 cases r1
 exact wpAny_truthy_bool ⟨H1,I1,M1,f1,ju,q1⟩
variable{tA tB:mR}{rest:List Expr}
def OV(t u:mR):mR:=λρ M Q=>t ρ M λc M1=>if c=true then u ρ M1 Q else Q false M1
def SN(t u:mR):mR:=λρ M Q=>t ρ M λc M1=>if c=true then Q true M1 else u ρ M1 Q
def OW(t:mR):mR:=λρ M Q=>t ρ M λc M1=>Q (!c) M1
theorem EW(ha:yJ X a tA):uF X (.BoolOp .And [a] pos) tA:=⟨λwh pins s σ H ρ M Q I r h=>c5 (pw_and1 ha.dn wh pins s σ H _ I ⟨ρ,M,Q,r,h,λ_ _ z=>z⟩) λ_ _ z=>z⟩
theorem mT(ha:yJ X a tA):uF X (.BoolOp .Or [a] pos) tA:=⟨λwh pins s σ H ρ M Q I r h=>c5 (pw_or1 ha.dn wh pins s σ H _ I ⟨ρ,M,Q,r,h,λ_ _ z=>z⟩) λ_ _ z=>z⟩
theorem KL(ha:yJ X a tA)(hb:uF X (.BoolOp .And (b::rest) pos) tB):uF X (.BoolOp .And (a::b::rest) pos) (OV tA tB):=⟨λwh pins s σ H ρ M Q I r h=>
 pw_and ha.dn hb.dn wh pins s σ H _ I (pF r h λc H' M' f r' q=>by
  cases c with
  |true=>exact⟨ρ,M',Q,r',q,λ_ _ p=>p.back f⟩
  |false=>exact⟨M',f,r'.mem,q⟩)⟩
theorem qP(ha:yJ X a tA)(hb:uF X (.BoolOp .Or (b::rest) pos) tB):uF X (.BoolOp .Or (a::b::rest) pos) (SN tA tB):=⟨λwh pins s σ H ρ M Q I r h=>
 pw_or ha.dn hb.dn wh pins s σ H _ I (pF r h λc H' M' f r' q=>by
  cases c with
  |true=>exact⟨M',f,r'.mem,q⟩
  |false=>exact⟨ρ,M',Q,r',q,λ_ _ p=>p.back f⟩)⟩
theorem k_not(ha:yJ X a tA):yJ X (.UnaryOp .Not a pos) (OW tA):=WD (Lz ha.dn) λσ H ρ M Q r h=>pF r h λ_ _ M' f r' q=>⟨M',f,r'.mem,q⟩
def L5(ta tb:dg):dg:=λρ M Q=>ta ρ M λx M1=>∃c,x= .bl c/\if c=true then tb ρ M1 Q else Q (.bl false) M1
def OX(ta tb:dg):dg:=λρ M Q=>ta ρ M λx M1=>∃c,x= .bl c/\if c=true then Q (.bl true) M1 else tb ρ M1 Q
theorem yK{op}{t:dg}(h:cH X a t):cH X (.BoolOp op [a] pos) t:=⟨λpins s σ H ρ M Q I r hw=>BoolOp_one (h.run pins s σ H ρ M Q I r hw)⟩
theorem Cb(ha:cH X a ta)(hb:cH X (.BoolOp .And (b::rest) pos) tb):cH X (.BoolOp .And (a::b::rest) pos) (L5 ta tb):=up (LA ha.dn hb.dn) λσ H ρ M Q r h=>dW r h λv H' d M' f dv r' ⟨k,ek,q⟩=>by
 subst ek
 obtain rfl:=bq.mp dv
 refine⟨k,rfl,?_⟩
 cases k with
 |true=>exact⟨ρ,M',Q,r',q,λ_ _ p=>p.back f⟩
 |false=>exact⟨.bl false,M',f,bq.mpr rfl,r'.mem,q⟩
theorem OY(ha:cH X a ta)(hb:cH X (.BoolOp .Or (b::rest) pos) tb):cH X (.BoolOp .Or (a::b::rest) pos) (OX ta tb):=up (Oq ha.dn hb.dn) λσ H ρ M Q r h=>dW r h λv H' d M' f dv r' ⟨k,ek,q⟩=>by
 subst ek
 obtain rfl:=bq.mp dv
 refine⟨k,rfl,?_⟩
 cases k with
 |true=>exact⟨.bl true,M',f,bq.mpr rfl,r'.mem,q⟩
 |false=>exact⟨ρ,M',Q,r',q,λ_ _ p=>p.back f⟩
def SO(t:mR)(ta tb:dg):dg:=λρ M Q=>t ρ M λc M1=>if c=true then ta ρ M1 Q else tb ρ M1 Q
theorem SQ{c:Expr}(hc:yJ X c tA)(ha:cH X a ta)(hb:cH X b tb):cH X (.IfExp c a b pos) (SO tA ta tb):=up (EB hc.dn ha.dn hb.dn) λσ H ρ M Q r h=>pF r h λk H' M' f r' q=>by
 cases k with
 |true=>exact⟨ρ,M',Q,r',q,λ_ _ p=>p.back f⟩
 |false=>exact⟨ρ,M',Q,r',q,λ_ _ p=>p.back f⟩
def SR(t:D->Mp->DK->Prop)(ta:dg):dg:=λρ M Q=>ta ρ M λx M1=>t x M1 Q
def SS:D->Mp->DK->Prop:=λd M Q=>∃i,d= .int i/\Q (.int (-i)) M
theorem eX(ha:cH X a ta):cH X (.UnaryOp .USub a pos) (SR SS ta):=up (OB LL ha.dn) λσ H ρ M Q r h=>dW r h λv H' d M' f dv r' ⟨i,ek,q⟩=>by
 subst ek
 obtain rfl:=aX.mp dv
 exact⟨i,rfl,.int (-i),M',f,aX.mpr rfl,r'.mem,q⟩
def Sm(n:Nat)(i:Int):Prop:=i.natAbs<2 ^ n
def MulOk(i j:Int):Prop:= ∃m n,Sm m i/\Sm n j/\m+n<=100000
theorem rY{k n:Nat}(h:k<2 ^ n):k.log2<=n:=by
 rcases adB k with z|z
 ·subst z;simp
 ·exact aco (by rw[Nat.log2_lt (by omega)];exact h)
theorem wJ{n:Nat}{i:Int}(h:Sm n i):Builtin.Int.intBits i<=n+1:=by
 unfold Builtin.Int.intBits
 have:=rY h
 first
  |(split<;>omega)
  |omega
theorem MulOk.ok{i j:Int}(h:MulOk i j):IntMulOk i j:=by
 obtain⟨m,n,h1,h2,h3⟩:=h
 have b1:=wJ h1
 have b2:=wJ h2
 exact IntMulOk.of_bits (by omega) (by omega)
def L6(g:Int->Int->Int):R3:=λd e M Q=>∃i j,d= .int i/\e= .int j/\Q (.int (g i j)) M
def vo(C:Int->Int->Prop)(g:Int->Int->Int):R3:=λd e M Q=>∃i j,d= .int i/\e= .int j/\C i j/\Q (.int (g i j)) M
def Cc(g:Int->Int->Bool):R3:=λd e M Q=>∃i j,d= .int i/\e= .int j/\Q (.bl (g i j)) M
theorem OZ{f:Value->Value->Sem Value}{g:Int->Int->Int}(h:Ai X f (Iq λi j=> .int (g i j))):mS X f (L6 g):=Ro h λH M x y d e Q rm dx dy ⟨i,j,e1,e2,q⟩=>by
 subst e1;subst e2
 exact⟨i,j,aX.mp dx,aX.mp dy,aH rm (aX.mpr rfl) q⟩
theorem yL{f:Value->Value->Sem Value}{C:Int->Int->Prop}{g:Int->Int->Int}(h:Ai X f (rI C λi j=> .int (g i j))):mS X f (vo C g):=Ro h λH M x y d e Q rm dx dy ⟨i,j,e1,e2,hc,q⟩=>by
 subst e1;subst e2
 exact⟨i,j,aX.mp dx,aX.mp dy,hc,aH rm (aX.mpr rfl) q⟩
theorem EX{f:Value->Value->Sem Value}{g:Int->Int->Bool}(h:Ai X f (Iq λi j=> .bl (g i j))):mS X f (Cc g):=Ro h λH M x y d e Q rm dx dy ⟨i,j,e1,e2,q⟩=>by
 subst e1;subst e2
 exact⟨i,j,aX.mp dx,aX.mp dy,aH rm (bq.mpr rfl) q⟩
theorem cA:mS X (binaryOp .Add) (L6 λi j=>i+j):=OZ LI
theorem cR:mS X (binaryOp .Sub) (L6 λi j=>i-j):=OZ LJ
theorem bW:mS X (binaryOp .Mult) (vo MulOk λi j=>i*j):=yL (OC λ_ _ _ _ _ _ _ hc q=>mul_int q hc.ok)
theorem cT:mS X (binaryOp .Mod) (vo (λ_ j=>0<j) λi j=>i % j):=yL LK
def O0(_ j:Int):Prop:=0<j/\∃n,Sm n j/\n<=8000
theorem i9:mS X (binaryOp .FloorDiv) (vo O0 λi j=>i / j):=yL (OC λi j _ _ _ _ _ hc q=>floordiv_int (by have:=hc.1;omega) (by rw[Int.fdiv_eq_ediv_of_nonneg _ (by have:=hc.1;omega)];exact q) (.inl (PyProof.noPylong_of_log2 (by
 obtain⟨_,n,h1,h2⟩:=hc
 have:=rY h1
 omega))))
def EY(i j:Int):Prop:=0<=j/\j<=1000/\i.natAbs<2 ^ 400
theorem EY.bits{i j:Int}(h:EY i j):(Builtin.Int.intBits i:Int)*j<=2 ^ 27:=by
 have hb:Builtin.Int.intBits i<=401:=wJ (n:=400) h.2.2
 have h1:(Builtin.Int.intBits i:Int)*j<=401*j:=aa2 (by omega) h.1
 have:=h.2.1
 omega
theorem mU:mS X (binaryOp .Pow) (vo EY λi j=>i ^ j.toNat):=yL (OC λ_ _ _ _ _ _ _ hc q=>pow_int hc.1 hc.bits q)
theorem SV:mS X (compareOp .Lt) (Cc λi j=>decide (i<j)):=EX OG
theorem SW:mS X (compareOp .LtE) (Cc λi j=>decide (i<=j)):=EX OH
theorem L7:mS X (compareOp .Gt) (Cc λi j=>decide (j<i)):=EX OI
inductive Rp where
 |bJ|bl (b:Bool)|int (i:Int)|str (x:Str)
 deriving DecidableEq
def Rp.d:Rp->D| .bJ=> .bJ| .bl b=> .bl b| .int i=> .int i| .str x=> .str x
def Rp.v:Rp->V| .bJ=> .bJ| .bl b=> .bl b| .int i=> .int i| .str x=> .str x
end
end L3
namespace L3
open PySem PySem.Spec PyProof.Rows L2
mutual
def eE:D->D->Bool
 | .bJ,e=>match e with| .bJ=>true|_=>false
 | .bl a,e=>match e with| .bl b=>a==b| .int b=>(if a then 1 else 0)==b|_=>false
 | .int a,e=>match e with| .bl b=>a==(if b then 1 else 0)| .int b=>a==b|_=>false
 | .str a,e=>match e with| .str b=>a==b|_=>false
 | .tup as,e=>match e with| .tup bs=>bL as bs|_=>false
 | .ty _,_=>false
 | .ref _,_=>false
 | .Dn _,_=>false
 | .L4 _,_=>false
 | .exc _ _ _,_=>false
def bL:List D->List D->Bool
 |[],e=>match e with|[]=>true|_=>false
 |a::as,e=>match e with|[]=>false|b::bs=>eE a b && bL as bs
end
def plain:Nat->D->Bool
 |_,.bJ=>true
 |_,.bl _=>true
 |_,.int _=>true
 |_,.str _=>true
 |n+1,.tup ds=>ds.all (plain n)
 |_,_=>false
theorem kL:bL [] []=true:=by simp[bL]
theorem jv(a b:D)(as bs:List D):bL (a::as) (b::bs)=(eE a b && bL as bs):=by simp[bL]
theorem jH(as bs:List D):eE (.tup as) (.tup bs)=bL as bs:=by simp[eE]
theorem eY(a b:Int):eE (.int a) (.int b)=(a==b):=by simp[eE]
theorem eZ:∀(ds es:List D),bL ds es=((List.range (min ds.length es.length)).all (λj=>eE (ds.getD j .bJ) (es.getD j .bJ)) && (ds.length==es.length))
 |[],[]=>by simp[bL]
 |[],e::es=>by simp[bL]
 |d::ds,[]=>by simp[bL]
 |d::ds,e::es=>by
  rw[jv,eZ ds es]
  have h:min (d::ds).length (e::es).length=min ds.length es.length+1:=by simp only[aaX];omega
  rw[h,List.range_succ_eq_map,acf,acD]
  simp only[List.getD_cons_zero,aaX]
  have h2:((λj=>eE ((d::ds).getD j D.bJ) ((e::es).getD j D.bJ))∘Nat.succ)=λj=>eE (ds.getD j D.bJ) (es.getD j D.bJ):=by
   funext j;simp
  rw[h2]
  have h3:(ds.length+1==es.length+1)=(ds.length==es.length):=by
   rw[aa8];simp
  rw[h3,adR]
theorem yM:∀(n:Nat) (d:D),plain n d=true->eE d d=true:=by
 intro n
 induction n with
 |zero=>intro d h;cases d<;>simp[plain]at h<;>simp[eE]
 |succ n ih=>
  intro d h
  cases d with
  |tup ds=>
   have h:ds.all (plain n)=true:=by simpa[plain]using h
   rw[jH]
   have:∀(es:List D),es.all (plain n)=true->bL es es=true:=by
    intro es
    induction es with
    |nil=>intro _;exact kL
    |cons e es WG=>
     intro h
     rw[acf,aa6]at h
     rw[jv,ih e h.1,WG h.2];rfl
   exact this ds h
  |_=>first|(simp[plain]at h;done)|(simp[eE];done)
section
variable{K:PySem.W.Frag}{H:Hp}
theorem Dat.inj:∀(n:Nat) (d e:D) (v:V),plain n d=true->plain n e=true->Dat K H d v->Dat K H e v->d=e:=by
 intro n
 induction n with
 |zero=>
  intro d e v pd pe hd he
  cases d<;>simp[plain]at pd<;>cases e<;>simp[plain]at pe<;>simp only[Dat]at hd he<;>subst hd<;>first|rfl|(injection he with z;rw[z])|cases he
 |succ n ih=>
  intro d e v pd pe hd he
  have lists:∀(ds es:List D) (xs:List V),ds.all (plain n)=true->es.all (plain n)=true->aF K H ds xs->aF K H es xs->ds=es:=by
   intro ds
   induction ds with
   |nil=>
    intro es xs _ _ h1 h2
    rw[aM.mp h1]at h2
    cases es with
    |nil=>rfl
    |cons e es=>obtain⟨_,_,z,_⟩:=aC.mp h2;cases z
   |cons d ds WH=>
    intro es xs p1 p2 h1 h2
    obtain⟨v,vs,rfl,g1,g2⟩:=aC.mp h1
    cases es with
    |nil=>cases aM.mp h2
    |cons e es=>
     obtain⟨v',vs',z,g3,g4⟩:=aC.mp h2
     injection z with z1 z2
     subst z1;subst z2
     rw[acf,aa6]at p1 p2
     rw[ih d e v p1.1 p2.1 g1 g3,WH es vs p1.2 p2.2 g2 g4]
  cases d with
  |tup ds=>
   obtain⟨a,xs,rfl,ha,hx⟩:=br.mp hd
   cases e with
   |tup es=>
    obtain⟨b,ys,z,hb,hy⟩:=br.mp he
    injection z with z
    subst z
    rw[ha]at hb
    injection hb with hb
    injection hb with hb
    subst hb
    rw[lists ds es xs (by simpa[plain]using pd) (by simpa[plain]using pe) hx hy]
   |_=>first|(simp[plain]at pe;done)|(simp only[Dat]at he;cases he)
  |_=>first
   |(simp[plain]at pd;done)
   |(cases e<;>first
    |(simp[plain]at pe;done)
    |(obtain⟨b,ys,z,hb,hy⟩:=br.mp he;simp only[Dat]at hd;subst hd;cases z;done)
    |(simp only[Dat]at hd he;subst hd;first|rfl|(injection he with z;rw[z])|cases he))
end
theorem rC{α:Type}{p:α->Bool}{xs:List α}(h:xs.all p=true){i:Nat}{x:α}(e:xs[i]?=some x):p x=true:=(abh.mp h) x (aaC e)
section
variable{X:Cx}{pins:List (Addr ×Obj)}{σ:St}{H:Hp}{s:Shared}
theorem eF{P:Program}{w:World}{h:Heap}{a:Addr}{xs:List V}(ok:iR P w H h)(e:H a=some (.tup xs)):∃its:List Value,Vals xs its/\IsTup h a its.toArray/\xs.length<=sizeLine:=by
 obtain⟨z,its,r,p⟩:=(show cj P w H h a (.tup xs)from ok a _ e)
 exact⟨its,r,p,z⟩
theorem EZ{P:Program}{w:World}(ok:iR P w H s.heap){K:PySem.W.Frag}:∀(n:Nat) (A:Around) (d e:D) (x y:V) (u v:Value),A.units+n<cLine->plain n d=true->plain n e=true->Dat K H d x->Dat K H e y->RelV x u->RelV y v->SeqAt.EqAt A s u v (eE d e):=by
 intro n
 induction n with
 |zero=>
  intro A d e x y u v hu pd pe dx dy rx ry
  cases d with
  |tup ds=>simp[plain]at pd
  |ty _=>simp[plain]at pd
  |ref _=>simp[plain]at pd
  |Dn _=>simp[plain]at pd
  |L4 _=>simp[plain]at pd
  |exc _ _ _=>simp[plain]at pd
  |bJ=>
   obtain rfl:=dN.mp dx
   cases rx
   cases e with
   |bJ=>obtain rfl:=dN.mp dy;cases ry;simpa[eE]using SeqAt.EqAt.same (A:=A) (s:=s) Value.none
   |bl b=>obtain rfl:=bq.mp dy;cases ry;simpa[eE]using SeqAt.EqAt.none_bool (A:=A) (s:=s) b
   |int b=>obtain rfl:=aX.mp dy;obtain⟨t,rfl⟩:=ry;simpa[eE]using SeqAt.EqAt.none_int (A:=A) (s:=s) b t
   |str b=>obtain rfl:=iU.mp dy;obtain⟨t,rfl⟩:=ry;simpa[eE]using SeqAt.EqAt.none_str (A:=A) (s:=s) b t
   |_=>simp[plain]at pe
  |bl a=>
   obtain rfl:=bq.mp dx
   cases rx
   cases e with
   |bJ=>obtain rfl:=dN.mp dy;cases ry;simpa[eE]using SeqAt.EqAt.bool_none (A:=A) (s:=s) a
   |bl b=>obtain rfl:=bq.mp dy;cases ry;simpa[eE]using SeqAt.EqAt.bool_bool (A:=A) (s:=s) a b
   |int b=>obtain rfl:=aX.mp dy;obtain⟨t,rfl⟩:=ry;simpa[eE]using SeqAt.EqAt.bool_int (A:=A) (s:=s) a b t
   |str b=>obtain rfl:=iU.mp dy;obtain⟨t,rfl⟩:=ry;simpa[eE]using SeqAt.EqAt.bool_str (A:=A) (s:=s) a b t
   |_=>simp[plain]at pe
  |int a=>
   obtain rfl:=aX.mp dx
   obtain⟨t',rfl⟩:=rx
   cases e with
   |bJ=>obtain rfl:=dN.mp dy;cases ry;simpa[eE]using SeqAt.EqAt.int_none (A:=A) (s:=s) a t'
   |bl b=>obtain rfl:=bq.mp dy;cases ry;simpa[eE]using SeqAt.EqAt.int_bool (A:=A) (s:=s) a t' b
   |int b=>obtain rfl:=aX.mp dy;obtain⟨t,rfl⟩:=ry;simpa[eE]using SeqAt.EqAt.int_int (A:=A) (s:=s) a t' b t
   |str b=>obtain rfl:=iU.mp dy;obtain⟨t,rfl⟩:=ry;simpa[eE]using SeqAt.EqAt.int_str (A:=A) (s:=s) a t' b t
   |_=>simp[plain]at pe
  |str a=>
   obtain rfl:=iU.mp dx
   obtain⟨t',rfl⟩:=rx
   cases e with
   |bJ=>obtain rfl:=dN.mp dy;cases ry;simpa[eE]using SeqAt.EqAt.str_none (A:=A) (s:=s) a t'
   |bl b=>obtain rfl:=bq.mp dy;cases ry;simpa[eE]using SeqAt.EqAt.str_bool (A:=A) (s:=s) a t' b
   |int b=>obtain rfl:=aX.mp dy;obtain⟨t,rfl⟩:=ry;simpa[eE]using SeqAt.EqAt.str_int (A:=A) (s:=s) a t' b t
   |str b=>obtain rfl:=iU.mp dy;obtain⟨t,rfl⟩:=ry;simpa[eE]using SeqAt.EqAt.str_str (A:=A) (s:=s) a t' b t
   |_=>simp[plain]at pe
 |succ n ih=>
  intro A d e x y u v hu pd pe dx dy rx ry
  have flat:∀(z:D),plain (n+1) z=true->(∀zs,z≠ .tup zs)->plain n z=true:=by
   intro z pz nz
   cases z with
   |tup zs=>exact absurd rfl (nz zs)
   |_=>first|(simp[plain];done)|(simp[plain]at pz;done)
  have hun:A.units<cLine:=by omega
  cases d with
  |tup ds=>
   obtain⟨a,xs,rfl,ha,hx⟩:=br.mp dx
   obtain rfl:u=Value.ref a:=rx
   obtain⟨its,rv,pt,hz⟩:=eF ok ha
   cases e with
   |tup es=>
    obtain⟨b,ys,rfl,hb,hy⟩:=br.mp dy
    obtain rfl:v=Value.ref b:=ry
    obtain⟨its2,mJ,Eo,hz2⟩:=eF ok hb
    by_cases hab:a=b
    ·subst hab
     have:=Dat.inj (K:=K) (H:=H) (n+1) _ _ _ pd pe dx dy
     rw[<-this,yM (n+1) _ pd]
     exact SeqAt.EqAt.same _
    ·refine SeqAt.EqAt.of_refs hab ?_
     have hl1:=hx.length.trans rv.length
     have hl2:=hy.length.trans mJ.length
     have key:=SeqAt.RcAt.tuples (A:=A) (s:=s) (e:=λj=>eE (ds.getD j .bJ) (es.getD j .bJ)) pt Eo hun (λj h1 h2=>?_)
     ·rw[jH,eZ]
      simp only[aax,<-hl1,<-hl2]at key
      exact key
     ·simp only[aax]at h1 h2
      have e1:ds[j]?=some (ds.getD j .bJ):=by rw[aaZ,aau (by omega)];rfl
      have e2:es[j]?=some (es.getD j .bJ):=by rw[aaZ,aau (by omega)];rfl
      obtain⟨x1,g1,g2⟩:=hx.get e1
      obtain⟨y1,g3,g4⟩:=hy.get e2
      obtain⟨u1,g5,g6⟩:=rv.get g1
      obtain⟨v1,g7,g8⟩:=mJ.get g3
      have q1:its.toArray[j]=u1:=by
       have:its[j]=u1:=Option.some.inj ((aau (by omega)).symm.trans g5)
       simpa using this
      have q2:its2.toArray[j]=v1:=by
       have:its2[j]=v1:=Option.some.inj ((aau (by omega)).symm.trans g7)
       simpa using this
      rw[q1,q2]
      have WI:ds.all (plain n)=true:=by simpa[plain]using pd
      have WJ:es.all (plain n)=true:=by simpa[plain]using pe
      exact ih A.in1 _ _ x1 y1 u1 v1 (by show A.units+1+n<cLine;omega) (rC WI e1) (rC WJ e2) g2 g4 g6 g8
   |bJ=>obtain rfl:=dN.mp dy;cases ry;simpa[eE]using SeqAt.EqAt.tuple_none (A:=A) (s:=s) pt hun
   |bl b=>obtain rfl:=bq.mp dy;cases ry;simpa[eE]using SeqAt.EqAt.tuple_bool (A:=A) (s:=s) b pt hun
   |int b=>obtain rfl:=aX.mp dy;obtain⟨t,rfl⟩:=ry;simpa[eE]using SeqAt.EqAt.tuple_int (A:=A) (s:=s) b t pt hun
   |str b=>obtain rfl:=iU.mp dy;obtain⟨t,rfl⟩:=ry;simpa[eE]using SeqAt.EqAt.tuple_str (A:=A) (s:=s) b t pt hun
   |_=>simp[plain]at pe
  |_=>
   first
   |(simp[plain]at pd;done)
   |(cases e with
    |tup es=>
     obtain⟨b,ys,rfl,hb,hy⟩:=br.mp dy
     obtain rfl:v=Value.ref b:=ry
     obtain⟨its2,mJ,Eo,hz2⟩:=eF ok hb
     first
     |(obtain rfl:=dN.mp dx;cases rx;simpa[eE]using SeqAt.EqAt.none_tuple (A:=A) (s:=s) Eo hun)
     |(obtain rfl:=bq.mp dx;cases rx;simpa[eE]using SeqAt.EqAt.bool_tuple (A:=A) (s:=s) _ Eo hun)
     |(obtain rfl:=aX.mp dx;obtain⟨t,rfl⟩:=rx;simpa[eE]using SeqAt.EqAt.int_tuple (A:=A) (s:=s) _ t Eo hun)
     |(obtain rfl:=iU.mp dx;obtain⟨t,rfl⟩:=rx;simpa[eE]using SeqAt.EqAt.str_tuple (A:=A) (s:=s) _ t Eo hun)
    |_=>
     first
     |(simp[plain]at pe;done)
     |exact ih A _ _ x y u v (by omega) (flat _ pd (λ_ z=>by cases z)) (flat _ pe (λ_ z=>by cases z)) dx dy rx ry)
def E1:D->D->Bool
 | .bJ,.bJ=>true| .bJ,.int _=>true| .int _,.bJ=>true| .bJ,.bl _=>true| .bl _,.bJ=>true| .bJ,.str _=>true| .str _,.bJ=>true
 | .int _,.int _=>true| .bl _,.bl _=>true| .str _,.str _=>true
 |_,_=>false
def II(d e:D):Bool:=match d,e with
 | .tup ds,.tup es=>plain 10 (.tup ds) && plain 10 (.tup es)
 |d,e=>E1 d e
def SX:R3:=λd e M Q=>II d e=true/\Q (.bl (eE d e)) M
def SY:R3:=λd e M Q=>II d e=true/\Q (.bl (!eE d e)) M
theorem E2{K:PySem.W.Frag}{d e:D}{x y:V}(h:E1 d e=true)(dx:Dat K H d x)(dy:Dat K H e y):LM x y=true/\decide (x=y)=eE d e:=by
 cases d<;>cases e<;>first
  |(simp[E1]at h;done)
  |(simp only[Dat]at dx dy;subst dx;subst dy;refine⟨rfl,?_⟩;rw[aa8];simp[eE])
theorem jw{P:Program}{w:World}(ok:iR P w H s.heap){K:PySem.W.Frag}{A:Around}{ds es:List D}{xs ys:List V}{its its2:List Value}{n:Nat}(hu:A.units+n<cLine)(pd:ds.all (plain n)=true)(pe:es.all (plain n)=true)(hx:aF K H ds xs)(hy:aF K H es ys)(rv:Vals xs its)(mJ:Vals ys its2) :
 ∀j (h1:j<its.toArray.size) (h2:j<its2.toArray.size),SeqAt.EqAt A s its.toArray[j] its2.toArray[j] (eE (ds.getD j .bJ) (es.getD j .bJ)):=by
 intro j h1 h2
 have hl1:=hx.length.trans rv.length
 have hl2:=hy.length.trans mJ.length
 simp only[aax]at h1 h2
 have e1:ds[j]?=some (ds.getD j .bJ):=by rw[aaZ,aau (by omega)];rfl
 have e2:es[j]?=some (es.getD j .bJ):=by rw[aaZ,aau (by omega)];rfl
 obtain⟨x1,g1,g2⟩:=hx.get e1
 obtain⟨y1,g3,g4⟩:=hy.get e2
 obtain⟨u1,g5,g6⟩:=rv.get g1
 obtain⟨v1,g7,g8⟩:=mJ.get g3
 have q1:its.toArray[j]=u1:=by
  have:its[j]=u1:=Option.some.inj ((aau (by omega)).symm.trans g5)
  simpa using this
 have q2:its2.toArray[j]=v1:=by
  have:its2[j]=v1:=Option.some.inj ((aau (by omega)).symm.trans g7)
  simpa using this
 rw[q1,q2]
 exact EZ ok n A _ _ x1 y1 u1 v1 hu (rC pd e1) (rC pe e2) g2 g4 g6 g8
theorem kg(hu:X.A.units+64<cLine):mS X (compareOp .Eq) SX:=by
 constructor
 intro pins s σ H M x y d e v u Q I rm rx ry dx dy ⟨hk,q⟩
 by_cases ht:∃ds es,d= .tup ds/\e= .tup es
 ·obtain⟨ds,es,rfl,rfl⟩:=ht
  have hk:(plain 10 (.tup ds) && plain 10 (.tup es))=true:=hk
  rw[aa6]at hk
  obtain⟨a,xs,rfl,ha,hx⟩:=br.mp dx
  obtain⟨b,ys,rfl,hb,hy⟩:=br.mp dy
  obtain rfl:v=Value.ref a:=rx
  obtain rfl:u=Value.ref b:=ry
  obtain⟨its,rv,pt,hz⟩:=eF I.hok ha
  obtain⟨its2,mJ,Eo,hz2⟩:=eF I.hok hb
  have hl1:=hx.length.trans rv.length
  have hl2:=hy.length.trans mJ.length
  refine SeqAt.RcAt.tuples (A:=X.A) (s:=s) (e:=λj=>eE (ds.getD j .bJ) (es.getD j .bJ)) pt Eo (by omega) (jw I.hok (n:=9) (by show X.A.units+1+9<cLine;omega) (by simpa[plain]using hk.1) (by simpa[plain]using hk.2) hx hy rv mJ) _ _ _ _ ?_
  refine⟨.bl _,H,I,rfl,aH rm (bq.mpr rfl) ?_⟩
  simp only[aax,<-hl1,<-hl2]
  rw[jH,eZ]at q
  exact q
 ·have hs:E1 d e=true:=by
   unfold II at hk
   split at hk
   ·exact absurd ⟨_,_,rfl,rfl⟩ ht
   ·exact hk
  obtain⟨h1,h2⟩:=E2 hs dx dy
  exact OE pins s σ H x y v u _ I rx ry ⟨h1,by rw[h2];exact aH rm (bq.mpr rfl) q⟩
theorem AJ(hu:X.A.units+64<cLine):mS X (compareOp .NotEq) SY:=by
 constructor
 intro pins s σ H M x y d e v u Q I rm rx ry dx dy ⟨hk,q⟩
 by_cases ht:∃ds es,d= .tup ds/\e= .tup es
 ·obtain⟨ds,es,rfl,rfl⟩:=ht
  have hk:(plain 10 (.tup ds) && plain 10 (.tup es))=true:=hk
  rw[aa6]at hk
  obtain⟨a,xs,rfl,ha,hx⟩:=br.mp dx
  obtain⟨b,ys,rfl,hb,hy⟩:=br.mp dy
  obtain rfl:v=Value.ref a:=rx
  obtain rfl:u=Value.ref b:=ry
  obtain⟨its,rv,pt,hz⟩:=eF I.hok ha
  obtain⟨its2,mJ,Eo,hz2⟩:=eF I.hok hb
  have hl1:=hx.length.trans rv.length
  have hl2:=hy.length.trans mJ.length
  refine SeqAt.RcNeAt.tuples (A:=X.A) (s:=s) (e:=λj=>eE (ds.getD j .bJ) (es.getD j .bJ)) pt Eo (by omega) (jw I.hok (n:=9) (by show X.A.units+1+9<cLine;omega) (by simpa[plain]using hk.1) (by simpa[plain]using hk.2) hx hy rv mJ) _ _ _ _ ?_
  refine⟨.bl _,H,I,rfl,aH rm (bq.mpr rfl) ?_⟩
  simp only[aax,<-hl1,<-hl2]
  rw[jH,eZ]at q
  exact q
 ·have hs:E1 d e=true:=by
   unfold II at hk
   split at hk
   ·exact absurd ⟨_,_,rfl,rfl⟩ ht
   ·exact hk
  obtain⟨h1,h2⟩:=E2 hs dx dy
  exact OF pins s σ H x y v u _ I rx ry ⟨h1,by rw[h2];exact aH rm (bq.mpr rfl) q⟩
noncomputable def Rq(K:PySem.W.Frag)(H:Hp)(v:V):D:=open Classical in if h:∃d,plain 9 d=true/\Dat K H d v then h.choose else .bJ
theorem L8{K:PySem.W.Frag}{d:D}{v:V}(p:plain 9 d=true)(h:Dat K H d v):Rq K H v=d:=by
 have hx:∃d,plain 9 d=true/\Dat K H d v:=⟨d,p,h⟩
 unfold Rq
 rw[dif_pos hx]
 exact Dat.inj 9 _ _ v hx.choose_spec.1 p hx.choose_spec.2 h
noncomputable def Ak(K:PySem.W.Frag)(H:Hp)(d:D)(u:Value):Bool:=match Ot u with
 |some v=>eE (Rq K H v) d
 |none=>false
theorem E3{K:PySem.W.Frag}{d e:D}{v:V}{u:Value}(p:plain 9 e=true)(h:Dat K H e v)(r:RelV v u):Ak K H d u=eE e d:=by
 unfold Ak
 rw[r.abs]
 show eE (Rq K H v) d=_
 rw[L8 p h]
theorem nU{K:PySem.W.Frag}{d:D}:∀{es:List D} {xs:List V} {us:List Value},aF K H es xs->Vals xs us->es.all (plain 9)=true->us.any (Ak K H d)=es.any λe=>eE e d
 |[],xs,us,h,r,_=>by rw[aM.mp h]at r;cases r;rfl
 |e::es,xs,us,h,r,p=>by
  obtain⟨v,vs,rfl,h1,h2⟩:=aC.mp h
  cases r with
  |cons r rr=>
   rw[acf,aa6]at p
   rw[acy,acy,E3 p.1 h1 r,nU h2 rr p.2]
theorem nV{P:Program}{w:World}(ok:iR P w H s.heap){K:PySem.W.Frag}{A:Around}{d:D}{x:V}{v:Value}(hu:A.units+9<cLine)(pd:plain 9 d=true)(dx:Dat K H d x)(rx:RelV x v) :
 ∀{es:List D} {xs:List V} {us:List Value},aF K H es xs->Vals xs us->es.all (plain 9)=true->∀u∈us,SeqAt.EqAt A s u v (Ak K H d u)
 |[],xs,us,h,r,_,u,hm=>by rw[aM.mp h]at r;cases r;cases hm
 |e::es,xs,us,h,r,p,u,hm=>by
  obtain⟨y,ys,rfl,h1,h2⟩:=aC.mp h
  cases r with
  |cons r rr=>
   rw[acf,aa6]at p
   rcases aat.mp hm with rfl|hm
   ·rw[E3 p.1 h1 r]
    exact EZ ok 9 A _ _ _ _ _ _ hu p.1 pd h1 dx r rx
   ·exact nV ok hu pd dx rx h2 rr p.2 u hm
def inD(d:D)(es:List D):Bool:=es.any λe=>eE e d
def O1(M:Mp)(e:D)(es:List D):Prop:=e= .tup es\/∃a,e= .ref a/\M a=some (.lst es)
def O2(neg:Bool):R3:=λd e M Q=>∃es,O1 M e es/\plain 9 d=true/\es.all (plain 9)=true/\Q (.bl (if neg then !inD d es else inD d es)) M
theorem Dp(hu:X.A.units+64<cLine):mS X (compareOp .In) (O2 false):=by
 constructor
 intro pins s σ H M x y d e v u Q I rm rx ry dx dy ⟨es,hs,pd,pe,q⟩
 rcases hs with rfl|⟨a,rfl,hM⟩
 ·obtain⟨b,ys,rfl,hb,hy⟩:=br.mp dy
  obtain rfl:u=Value.ref b:=ry
  obtain⟨its,rv,pt,hz⟩:=eF I.hok hb
  refine SeqAt.in_tupleAt (Ak X.K H d) pt (λw hw=>nV I.hok (by show X.A.units+1+9<cLine;omega) pd dx rx hy rv pe w (by simpa using hw)) ⟨.bl _,H,I,rfl,aH rm (bq.mpr rfl) ?_⟩
  rw[show its.toArray.any (Ak X.K H d)=its.any (Ak X.K H d)by simp,nU hy rv pe]
  exact q
 ·obtain rfl:=aA.mp dy
  obtain rfl:u=Value.ref a:=ry
  obtain⟨ys,hb,hy⟩:=rm.lst hM
  obtain⟨its,rv,pl,hz⟩:=I.list (gR.of hb)
  refine SeqAt.in_listAt (Ak X.K H d) pl.isList (λw hw=>nV I.hok (by show X.A.units+1+9<cLine;omega) pd dx rx hy rv pe w (by simpa using hw)) ⟨.bl _,H,I,rfl,aH rm (bq.mpr rfl) ?_⟩
  rw[show its.toArray.any (Ak X.K H d)=its.any (Ak X.K H d)by simp,nU hy rv pe]
  exact q
theorem l9(hu:X.A.units+64<cLine):mS X (compareOp .NotIn) (O2 true):=by
 constructor
 intro pins s σ H M x y d e v u Q I rm rx ry dx dy ⟨es,hs,pd,pe,q⟩
 rcases hs with rfl|⟨a,rfl,hM⟩
 ·obtain⟨b,ys,rfl,hb,hy⟩:=br.mp dy
  obtain rfl:u=Value.ref b:=ry
  obtain⟨its,rv,pt,hz⟩:=eF I.hok hb
  refine SeqAt.notIn_tupleAt (Ak X.K H d) pt (λw hw=>nV I.hok (by show X.A.units+1+9<cLine;omega) pd dx rx hy rv pe w (by simpa using hw)) ⟨.bl _,H,I,rfl,aH rm (bq.mpr rfl) ?_⟩
  rw[show its.toArray.any (Ak X.K H d)=its.any (Ak X.K H d)by simp,nU hy rv pe]
  exact q
 ·obtain rfl:=aA.mp dy
  obtain rfl:u=Value.ref a:=ry
  obtain⟨ys,hb,hy⟩:=rm.lst hM
  obtain⟨its,rv,pl,hz⟩:=I.list (gR.of hb)
  refine SeqAt.notIn_listAt (Ak X.K H d) pl.isList (λw hw=>nV I.hok (by show X.A.units+1+9<cLine;omega) pd dx rx hy rv pe w (by simpa using hw)) ⟨.bl _,H,I,rfl,aH rm (bq.mpr rfl) ?_⟩
  rw[show its.toArray.any (Ak X.K H d)=its.any (Ak X.K H d)by simp,nU hy rv pe]
  exact q
theorem pG{K:PySem.W.Frag}:∀{ns:List Int} {xs:List V},aF K H (ns.map D.int) xs->xs=ns.map V.int
 |[],xs,h=>aM.mp h
 |n::ns,xs,h=>by
  obtain⟨v,vs,rfl,h1,h2⟩:=aC.mp h
  rw[aX.mp h1,pG h2];rfl
def ON:R3:=λd e M Q=>∃ns ms:List Int,d= .tup (ns.map D.int)/\e= .tup (ms.map D.int)/\Q (.bl (HT.lexLt ns ms)) M
theorem O3(hu:X.A.units+64<cLine):mS X (compareOp .Lt) ON:=by
 constructor
 intro pins s σ H M x y d e v u Q I rm rx ry dx dy ⟨ns,ms,e1,e2,q⟩
 subst e1;subst e2
 obtain⟨a,xs,rfl,ha,hx⟩:=br.mp dx
 obtain⟨b,ys,rfl,hb,hy⟩:=br.mp dy
 obtain rfl:v=Value.ref a:=rx
 obtain rfl:u=Value.ref b:=ry
 obtain⟨its,rv,pt,hz⟩:=eF I.hok ha
 obtain⟨its2,mJ,Eo,hz2⟩:=eF I.hok hb
 rw[pG hx]at rv
 rw[pG hy]at mJ
 exact HT.ni pt Eo (by simpa using intsAre_of rv) (by simpa using intsAre_of mJ) (by omega) ⟨.bl _,H,I,rfl,aH rm (bq.mpr rfl) q⟩
end
end L3
namespace L3
open PySem PySem.Spec PyProof.Rows L2
section
variable{X:Cx}{a b c e:Expr}{es:List Expr}{ta tb tc te:dg}{t:pC}{pos p:Pos}
def O4:pC:=λ_ M Q=>Q [] M
def Mb(ta:dg)(tr:pC):pC:=λρ M Q=>ta ρ M λx M1=>tr ρ M1 λxs M2=>Q (x::xs) M2
theorem ak:yz X [] O4:=⟨λpos pins s σ H ρ M Q I r h=>kG pos pins s σ H _ I ⟨[],M,.refl _ _,aM.mpr rfl,r.mem,h⟩⟩
theorem aa(ha:cH X e te)(hr:yz X es t)(hs:starEach (e::es) X.env=(false,eval e X.env)::starEach es X.env:=by rfl):yz X (e::es) (Mb te t):=⟨λpos pins s σ H ρ M Q I r h=>
 iT ha.dn hr.dn hs pos pins s σ H _ I (dW r h λv H' d M' f dv r' q=>kJ r' q λvs H2 ds M2 f2 El r2 q2=>
  ⟨d::ds,M2,f.trans f2,aC.mpr ⟨v,vs,rfl,Dat.mono (f2.ext r'.mem) _ _ dv,El⟩,r2.mem,q2⟩)⟩
def O5(t:pC):dg:=λρ M Q=>t ρ M λxs M1=>xs.length<=sizeLine/\Q (.tup xs) M1
def O6(t:pC):dg:=λρ M Q=>t ρ M λxs M1=>xs.length<=sizeLine/\∀p,M1 p=none->Q (.ref p) (ay M1 p (.lst xs))
theorem bR{x1}(h:yz X es t):cH X (.Tuple es x1 pos) (O5 t):=up (LP h.dn) λσ H ρ M Q r q=>kJ r q λvs H' ds M' f dv r' ⟨hl,q⟩=>
 ⟨by rw[<-dv.length];exact hl,λp hp=>⟨.tup ds,M',f.trans (Fr.new hp λ_ _=>rfl),br.mpr ⟨p,vs,rfl,bu,aF.mono (Ext.new hp) _ _ dv⟩,r'.mem.new hp,q⟩⟩
theorem cK(h:yz X es t):cH X (.List es pos) (O6 t):=up (AD h.dn) λσ H ρ M Q r q=>kJ r q λvs H' ds M' f dv r' ⟨hl,q⟩=>
 ⟨by rw[<-dv.length];exact hl,λp hp=>⟨.ref p,ay M' p (.lst ds),f.trans (Fr.new hp λ_ hb=>aK hb),aA.mpr rfl,r'.mem.newL hp dv,q p (r'.mem.free hp)⟩⟩
def O7(M:Mp)(e:D)(es:List D):Prop:=e= .tup es\/e= .Dn es\/∃a,e= .ref a/\M a=some (.lst es)
def S0:R3:=λd e M Q=>∃xs i z,O7 M d xs/\e= .int i/\rW xs i=some z/\Q z M
theorem Mc{α β:Type}{xs:List α}{ys:List β}(h:xs.length=ys.length){i:Int}{z:α}(e:rW xs i=some z):∃j,Em ys.length i=some j/\xs[j]?=some z:=by
 unfold rW at e
 rw[h]at e
 cases q:Em ys.length i with
 |none=>rw[q]at e;cases e
 |some j=>rw[q]at e;exact⟨j,rfl,e⟩
theorem rZ{K:PySem.W.Frag}{H:Hp}{ds:List D}{xs:List V}(h:aF K H ds xs){i:Int}{z:D}(e:rW ds i=some z):∃v,rW xs i=some v/\Dat K H z v:=by
 obtain⟨j,h1,h2⟩:=Mc h.length e
 obtain⟨v,h3,h4⟩:=h.get h2
 refine⟨v,?_,h4⟩
 unfold rW
 rw[h1]
 exact h3
theorem aD(ha:cH X a ta)(hb:cH X b tb)(hs:B7 b:=by intro _ _;rfl):cH X (.Subscript a b pos) (IG S0 ta tb):=up (OO (IC.or LV) ha.dn hb.dn hs) λσ H ρ M Q r q=>
 dW r q λv H' d M' f dv r' q=>dW r' q λu H2 e M2 f2 du r2 ⟨xs,i,z,hq,ei,at',q⟩=>by
  subst ei
  obtain rfl:=aX.mp du
  have O8:=Dat.mono (f2.ext r'.mem) _ _ dv
  have fin:∀w,Dat X.K H2 z w->Post X.K M H Q w H2:=λw dw=>⟨z,M2,f.trans f2,dw,r2.mem,q⟩
  rcases hq with rfl|rfl|⟨l,rfl,hl⟩
  ·obtain⟨p,ys,rfl,hp,hy⟩:=br.mp O8
   obtain⟨w,h1,h2⟩:=rZ hy at'
   exact .inr ⟨p,ys,i,w,rfl,rfl,rQ.of hp,h1,fin w h2⟩
  ·obtain⟨p,ys,rfl,hp,hy⟩:=rq.mp O8
   obtain⟨w,h1,h2⟩:=rZ hy at'
   exact .inl ⟨p,ys,i,w,rfl,rfl,hp.sq,h1,fin w h2⟩
  ·obtain rfl:=aA.mp O8
   obtain⟨ys,hp,hy⟩:=r2.mem.lst hl
   obtain⟨w,h1,h2⟩:=rZ hy at'
   exact .inl ⟨l,ys,i,w,rfl,rfl,gR.of hp,h1,fin w h2⟩
structure Call3(X:Cx)(f:Value)(t:List D->Mp->DK->Prop):Prop where
 run:∀(pins:List (Addr ×Obj)) (s:Shared) (σ:St) (H:Hp) (M:Mp) (xs:List V) (ds:List D) (us:List Value) (Q:DK),Inv X pins σ H s->bK X.K H M->Vals xs us->aF X.K H ds xs->t ds M Q->
  wpAny (model X.prog X.w) X.A (call f us) (EP X pins σ (Post X.K M H Q)) X.xe s
theorem KN{f:Value}{r:List V->Hp->VK->Prop}{t:List D->Mp->DK->Prop}(h:EG X f r)(g:∀H M xs ds Q,bK X.K H M->aF X.K H ds xs->t ds M Q->r xs H (Post X.K M H Q)):Call3 X f t:=
 ⟨λpins s σ H M xs ds us Q I rm rs dx q=>h pins s σ H xs us _ I rs (g H M xs ds Q rm dx q)⟩
def O9(r:List D->Mp->DK->Prop)(t:pC):dg:=λρ M Q=>t ρ M λds M1=>r ds M1 Q
variable{x:Str}{id T:String}{r:List D->Mp->DK->Prop}
theorem bS(hc:Call3 X (.builtin id) r)(hg:Gl X x)(hm:X.mg x=none)(hv:bootBuiltins x=some (.builtin id))(ha:yz X (e::es) t)(hn:x≠"__name__" :=by decide)(hdb:(x==("__debug__" :Str))=false:=by decide)
 (he:starEach (e::es) X.env=(false,eval e X.env)::starEach es X.env:=by rfl)(hpl:(backTo pos (starEach es X.env)).any (·.1)=false:=by rfl):cH X (.Call (.Name x p) (e::es) [] pos) (O9 r t):=by
 constructor
 intro pins s σ H ρ M Q I r h
 refine wpAny_Call_Name_kw (kE I hg hm hv ?_ hn hdb)
 refine PyProof.Rows.callWith_builtin1 (c5 (ha.run pos pins s σ H ρ M _ I r h) λus s1 ⟨vs,H1,I1,r1,ds,M1,f1,d1,ju,q1⟩=>?_) he hpl
 exact c5 (hc.run pins s1 σ H1 M1 vs ds us Q I1 ju r1 d1 q1) λ_ _ ⟨z,H3,I3,r3,p⟩=>⟨z,H3,I3,r3,p.back f1⟩
theorem vp(hc:Call3 X (.type T) r)(hg:Gl X x)(hm:X.mg x=none)(hv:bootBuiltins x=some (.type T))(ha:yz X (e::es) t)(hn:x≠"__name__" :=by decide)(hdb:(x==("__debug__" :Str))=false:=by decide)
 (he:starEach (e::es) X.env=(false,eval e X.env)::starEach es X.env:=by rfl)(hpl:(backTo pos (starEach es X.env)).any (·.1)=false:=by rfl):cH X (.Call (.Name x p) (e::es) [] pos) (O9 r t):=by
 constructor
 intro pins s σ H ρ M Q I r h
 refine wpAny_Call_Name_kw (kE I hg hm hv ?_ hn hdb)
 refine PyProof.Rows.callWith_type1 (c5 (ha.run pos pins s σ H ρ M _ I r h) λus s1 ⟨vs,H1,I1,r1,ds,M1,f1,d1,ju,q1⟩=>?_) he hpl
 exact c5 (hc.run pins s1 σ H1 M1 vs ds us Q I1 ju r1 d1 q1) λ_ _ ⟨z,H3,I3,r3,p⟩=>⟨z,H3,I3,r3,p.back f1⟩
theorem sj{K:PySem.W.Frag}{H:Hp}{d:D}{xs:List V}(h:aF K H [d] xs):∃v,xs=[v]/\Dat K H d v:=by
 obtain⟨v,vs,rfl,h1,h2⟩:=aC.mp h
 rw[aM.mp h2]
 exact⟨v,rfl,h1⟩
theorem kM{K:PySem.W.Frag}{H:Hp}{d e:D}{xs:List V}(h:aF K H [d,e] xs):∃v u,xs=[v,u]/\Dat K H d v/\Dat K H e u:=by
 obtain⟨v,vs,rfl,h1,h2⟩:=aC.mp h
 obtain⟨u,rfl,h3⟩:=sj h2
 exact⟨v,u,rfl,h1,h3⟩
def S1:List D->Mp->DK->Prop:=λds M Q=>∃d xs,ds=[d]/\O7 M d xs/\Q (.int xs.length) M
theorem kN:Call3 X (.builtin "len") S1:=KN wG λH M xs ds Q rm dx ⟨d,ys,ei,hs,q⟩=>by
 subst ei
 obtain⟨v,rfl,hv⟩:=sj dx
 rcases hs with rfl|rfl|⟨l,rfl,hl⟩
 ·obtain⟨p,zs,rfl,hp,hz⟩:=br.mp hv
  exact⟨p,zs,rfl,.inr (rQ.of hp),aH rm (aX.mpr (by rw[hz.length])) q⟩
 ·obtain⟨p,zs,rfl,hp,hz⟩:=rq.mp hv
  exact⟨p,zs,rfl,.inl hp.sq,aH rm (aX.mpr (by rw[hz.length])) q⟩
 ·obtain rfl:=aA.mp hv
  obtain⟨zs,hp,hz⟩:=rm.lst hl
  exact⟨l,zs,rfl,.inl (gR.of hp),aH rm (aX.mpr (by rw[hz.length])) q⟩
inductive E4(M:Mp):D->String->Prop where
 |bJ:E4 M .bJ "NoneType"
 |bl (b:Bool):E4 M (.bl b) "bool"
 |int (i:Int):E4 M (.int i) "int"
 |str (x:Str):E4 M (.str x) "str"
 |tup (ds:List D):E4 M (.tup ds) "tuple"
 |lst {a:Addr} {ds:List D} (h:M a=some (.lst ds)):E4 M (.ref a) "list"
 |dct:E4 M (.L4 "dict") "dict"
def S2(K:PySem.W.Frag):List D->Mp->DK->Prop:=λds M Q=>∃d n m b,ds=[d,.ty m]/\E4 M d n/\PySem.W.kitOne K (.type n) (.type m)=some b/\Q (.bl b) M
theorem vq:Call3 X (.builtin "isinstance") (S2 X.K):=by
 constructor
 intro pins s σ H M xs ds us Q I rm rs dx ⟨d,n,m,b,ei,ty,hk,q⟩
 subst ei
 obtain⟨v,u,rfl,hv,hu⟩:=kM dx
 obtain rfl:=AH.mp hu
 obtain⟨v',u',rfl,r1,r2⟩:=vals2 rs
 obtain rfl:u'=Value.type m:=r2
 have fin:∀tk,EP X pins σ (Post X.K M H Q) (.bool b) {s with toks:=tk}:=λtk=>⟨.bl b,H,I.tok tk,rfl,aH rm (bq.mpr rfl) q⟩
 cases ty with
 |bJ=>obtain rfl:=dN.mp hv;exact gS I r1 .bJ hk fin
 |bl k=>obtain rfl:=bq.mp hv;exact gS I r1 (.bl k) hk fin
 |int i=>obtain rfl:=aX.mp hv;exact gS I r1 (.int i) hk fin
 |str z=>obtain rfl:=iU.mp hv;exact gS I r1 (.str z) hk fin
 |tup zs=>
  obtain⟨p,ys,rfl,hp,hy⟩:=br.mp hv
  exact gS I r1 (.tup hp) hk fin
 |lst hM=>
  obtain rfl:=aA.mp hv
  obtain⟨ys,hp,hy⟩:=rm.lst hM
  exact gS I r1 (.lst hp) hk fin
 |dct=>
  obtain⟨p,o,u,rfl,hp,hc⟩:=IF.mp hv
  cases(show v'=Value.ref p from r1)
  obtain⟨h1,_⟩:=(show cj X.prog X.w H s.heap p (.gm o u)from I.hok p _ hp)
  exact PySem.W.kia_one PySem.W.kitx_dict I.nS ⟨o,h1,hc⟩ hk (λz=>nomatch z) fin
abbrev wK:=List D->(D->Prop)->Prop
def vt(K:PySem.W.Frag)(S:wK):Sp:=λvs H Q _=>∃ds Q0,aF K H ds vs/\S ds Q0/\∀d v H',Q0 d->Dat K H' d v->(∀b o,H b=some o->H' b=some o)->Q v H'
abbrev wM:=List D->Mp->DK->Prop
def yN(K:PySem.W.Frag)(S:wM):Sp:=λvs H Q _=>∃ds M Q0,aF K H ds vs/\bK K H M/\S ds M Q0/\∀d M' v H',Q0 d M'->Dat K H' d v->bK K H' M'->Fr M H M' H'->Q v H'
theorem nW{K:PySem.W.Frag}{H:Hp}{ds:List D}{vs:List V}(h:aF K H ds vs):aF K H ds (vs++[]):=by simpa using h
theorem Ext.keep{H H':Hp}(h:∀b o,H b=some o->H' b=some o):Ext H H':=⟨λb _ e=>h b _ e,λb _ _ e=>h b _ e⟩
theorem bK.keep{K:PySem.W.Frag}{H H':Hp}{M:Mp}(r:bK K H M)(h:∀b o,H b=some o->H' b=some o):bK K H' M:=λa o e=>(r a o e).mono (Ext.keep h) λu q=>h _ _ q
variable{k:Nat}{f:Addr}{fd:FuncData}{ps:List Str}
def Me(S:wK)(t:pC):dg:=λρ M Q=>t ρ M λds M1=>S ds λd=>Q d M1
def Mf(S:wM)(t:pC):dg:=λρ M Q=>t ρ M λds M1=>S ds M1 Q
theorem aG{S:wK}(F:cz X.prog X.w X.K X.mg X.base gJ k f fd ps (vt X.K S))(hr:fK k X.A)(hg:Gl X x)(hm:X.mg x=some (.ref f))(hk:PySem.W.keepIn X.K (.ref f)=true)(hb:Binds X.K fd ps [])
 (ha:yz X (e::es) t)(hdb:(x==("__debug__" :Str))=false:=by decide)(he:starEach (e::es) X.env=(false,eval e X.env)::starEach es X.env:=by rfl)(hpl:(backTo pos (starEach es X.env)).any (·.1)=false:=by rfl) :
 cH X (.Call (.Name x p) (e::es) [] pos) (Me S t):=
 up (B0 (El:=[]) (E:=E0) F hr hg hm hk hb .nil KG ha.dn hdb he hpl) λσ H ρ M Q r q=>kJ r q λvs H' ds M' f dv r' q=>
  ⟨ds,_,nW dv,q,λd v H2 q2 d2 kp=>⟨d,M',f.trans λb o n e=>⟨kp b o e,n⟩,d2,r'.mem.keep kp,q2⟩⟩
theorem cU{S:wM}(F:cz X.prog X.w X.K X.mg X.base gJ k f fd ps (yN X.K S))(hr:fK k X.A)(hg:Gl X x)(hm:X.mg x=some (.ref f))(hk:PySem.W.keepIn X.K (.ref f)=true)(hb:Binds X.K fd ps [])
 (ha:yz X (e::es) t)(hdb:(x==("__debug__" :Str))=false:=by decide)(he:starEach (e::es) X.env=(false,eval e X.env)::starEach es X.env:=by rfl)(hpl:(backTo pos (starEach es X.env)).any (·.1)=false:=by rfl) :
 cH X (.Call (.Name x p) (e::es) [] pos) (Mf S t):=
 up (B0 (El:=[]) (E:=E0) F hr hg hm hk hb .nil KG ha.dn hdb he hpl) λσ H ρ M Q r q=>kJ r q λvs H' ds M' f dv r' q=>
  ⟨ds,M',_,nW dv,r'.mem,q,λd M2 v H2 q2 d2 KJ f2=>⟨d,M2,f.trans f2,d2,KJ,q2⟩⟩
end
section
variable{X:Cx}{st:Stmt}{rest:List Stmt}{t u:ia}{e:Expr}{te:dg}{pos:Pos}
def Mg:ia:=λD ρ M=>D.nx ρ M
def Pa(t u:ia):ia:=λD ρ M=>t {D with nx:=u D} ρ M
theorem pH{K:PySem.W.Frag}{M M1:Mp}{H H1:Hp}{D:Aj}{pins:List (Addr ×Obj)}{f:Flow}{s:Shared}(fr:Fr M H M1 H1)(h:SP X pins (ends K M1 H1 D) f s):SP X pins (ends K M H D) f s:=by
 cases f with
 |next=>obtain⟨σ',H',I,p⟩:=h;exact⟨σ',H',I,gn.back fr p⟩
 |brk=>obtain⟨σ',H',I,p⟩:=h;exact⟨σ',H',I,gn.back fr p⟩
 |cont=>obtain⟨σ',H',I,p⟩:=h;exact⟨σ',H',I,gn.back fr p⟩
 |ret w=>obtain⟨v,σ',H',I,rv,p⟩:=h;exact⟨v,σ',H',I,rv,Post.back fr p⟩
theorem vm.dn{st:Stmt}{t:ia}(h:vm X st t):PS X st (Rm X.K t):=λpins s σ H D' I ⟨ρ,M,D,r,q,k1,k2,k3,k4⟩=>
 c5 (h.run pins s σ H ρ M D I r q) λf s' z=>by
  cases f with
  |next=>obtain⟨σ',H',I',p⟩:=z;exact⟨σ',H',I',k1 _ _ p⟩
  |brk=>obtain⟨σ',H',I',p⟩:=z;exact⟨σ',H',I',k3 _ _ p⟩
  |cont=>obtain⟨σ',H',I',p⟩:=z;exact⟨σ',H',I',k4 _ _ p⟩
  |ret u=>obtain⟨v,σ',H',I',rv,p⟩:=z;exact⟨v,σ',H',I',rv,k2 _ _ p⟩
theorem Mh{sts:List Stmt}{te:TS}{t:ia}(h:Au X sts te)(g:∀σ H ρ M D,Rep X.K H σ ρ M->t D ρ M->te (ends X.K M H D) σ H):iS X sts t:=
 ⟨λpins s σ H ρ M D I r q=>h pins s σ H _ I (g σ H ρ M D r q)⟩
theorem nX{K:PySem.W.Frag}{M0:Mp}{H0:Hp}{σ:St}{H:Hp}{ρ:En}{M:Mp}{D:Aj}{t:ia}(f:Fr M0 H0 M H)(r:Rep K H σ ρ M)(q:t D ρ M):Rm K t (ends K M0 H0 D) σ H:=
 ⟨ρ,M,D,r,q,λ_ _ p=>p.back f,λ_ _ p=>p.back f,λ_ _ p=>p.back f,λ_ _ p=>p.back f⟩
theorem bA:iS X [] Mg:=Mh Ik λσ H ρ M D r q=>⟨ρ,M,.refl _ _,r,q⟩
theorem av(h1:vm X st t)(h2:iS X rest u):iS X (st::rest) (Pa t u):=Mh (ED h1.dn h2.dn) λσ H ρ M D r q=>
 ⟨ρ,M,_,r,q,λσ' H' ⟨ρ',M',f,r',q'⟩=>nX f r' q',λ_ _ p=>p,λ_ _ p=>p,λ_ _ p=>p⟩
theorem aB(h1:vm X st t):iS X [st] t:=Mh (BV h1.dn) λσ H ρ M D r q=>nX (.refl _ _) r q
def Mi(te:dg):ia:=λD ρ M=>te ρ M λ_ M1=>D.nx ρ M1
theorem kO(he:cH X e te)(hs:swapsWith e none pos.line X.env=pure false:=by rfl):vm X (.Expr e pos) (Mi te):=EU (Il he.dn hs) λσ H ρ M D r q=>dW r q λv H' d M' f dv r' q=>⟨ρ,M',f,r',q⟩
def Pb(te:dg):ia:=λD ρ M=>te ρ M D.rt
theorem aJ(he:cH X e te):vm X (.Return (some e) pos) (Pb te):=EU (LB he.dn) λσ H ρ M D r q=>⟨ρ,M,_,r,q,λ_ _ p=>p⟩
def Pc(c:mR)(t u:ia):ia:=λD ρ M=>c ρ M λb M1=>if b=true then t D ρ M1 else u D ρ M1
theorem cI{c:Expr}{a b:List Stmt}{tc:mR}(hc:yJ X c tc)(ha:iS X a t)(hb:iS X b u):vm X (.If c a b pos) (Pc tc t u):=EU (Ow hc.dn ha.dn hb.dn) λσ H ρ M D r q=>pF r q λk H' M' f r' q=>by
 cases k with
 |true=>exact nX f r' q
 |false=>exact nX f r' q
def IJ:ia:=λ_ _ _=>False
theorem Cd:vm X st IJ:=⟨λ_ _ _ _ _ _ _ _ _ h=>h.elim⟩
def KO(i:Nat)(te:dg):ia:=λD ρ M=>te ρ M λx M1=>D.nx (ρ.set i (some x)) M1
theorem bx{i:Nat}{x:Str}{pos':Pos}(hN:X.N.Nodup)(hi:X.N[i]?=some x)(hx:Loc X.env.scope x)(he:cH X e te)(hs:swapsWith e (some (.Name x pos')) pos.line X.env=pure false:=by rfl)(hf:X.fn x=true\/X.env.scope.names.lookup x=some .local:=by first|exact .inl rfl|exact .inr rfl|assumption) :
 vm X (.Assign [.Name x pos'] e pos) (KO i te):=EU (LD hN hi hx he.dn hs hf) λσ H ρ M D r q=>dW r q λv H' d M' f dv r' q=>⟨ρ.set i (some d),M',f,r'.set dv,q⟩
abbrev sr:=D->En->Mp->(En->Mp->Prop)->Prop
abbrev AK:=List D->En->Mp->(En->Mp->Prop)->Prop
structure Dq(X:Cx)(target:Expr)(t:sr):Prop where
 run:∀(pins:List (Addr ×Obj)) (s:Shared) (σ:St) (H:Hp) (ρ:En) (M:Mp) (v:V) (d:D) (u:Value) (Q:En->Mp->Prop),Inv X pins σ H s->Rep X.K H σ ρ M->RelV v u->Dat X.K H d v->t d ρ M Q->
  wpAny (model X.prog X.w) X.A (assign target X.env u) (λ_ s'=>∃σ' H',Inv X pins σ' H' s'/\gn X.K M H Q σ' H') X.xe s
structure IK(X:Cx)(ts:List Expr)(t:AK):Prop where
 run:∀(pins:List (Addr ×Obj)) (s:Shared) (σ:St) (H:Hp) (ρ:En) (M:Mp) (vs:List V) (ds:List D) (us:List Value) (Q:En->Mp->Prop),Inv X pins σ H s->Rep X.K H σ ρ M->Vals vs us->aF X.K H ds vs->t ds ρ M Q->
  wpAny (model X.prog X.w) X.A (assignInOrder ((assignEach ts X.env).map (·.2)) us) (λ_ s'=>∃σ' H',Inv X pins σ' H' s'/\gn X.K M H Q σ' H') X.xe s
def Mj(i:Nat):sr:=λd ρ M Q=>Q (ρ.set i (some d)) M
theorem bO{i:Nat}{x:Str}(hN:X.N.Nodup)(hi:X.N[i]?=some x)(hx:Loc X.env.scope x)(hf:X.fn x=true\/X.env.scope.names.lookup x=some .local:=by first|exact .inl rfl|exact .inr rfl|assumption):Dq X (.Name x pos) (Mj i):=
 ⟨λpins s σ H ρ M v d u Q I r rv dv q=>Io hN hi hx hf pins s σ H v u _ I rv ⟨ρ.set i (some d),M,.refl _ _,r.set dv,q⟩⟩
def Pd:AK:=λds ρ M Q=>ds=[]/\Q ρ M
def Ml(t:sr)(u:AK):AK:=λds ρ M Q=>∃d r,ds=d::r/\t d ρ M λρ' M'=>u r ρ' M' Q
theorem sy:IK X [] Pd:=by
 constructor
 intro pins s σ H ρ M vs ds us Q I r rv dv ⟨e1,q⟩
 subst e1
 rw[aM.mp dv]at rv
 cases rv
 exact assignInOrder_nil ⟨σ,H,I,ρ,M,.refl _ _,r,q⟩
theorem di{e:Expr}{es:List Expr}{t:sr}{u:AK}(h1:Dq X e t)(h2:IK X es u)
 (hs:(assignEach (e::es) X.env).map (·.2)=assign e X.env::(assignEach es X.env).map (·.2):=by rfl):IK X (e::es) (Ml t u):=by
 constructor
 intro pins s σ H ρ M vs ds us Q I r rv dv ⟨d,dr,e1,q⟩
 subst e1
 obtain⟨v,vr,rfl,d1,d2⟩:=aC.mp dv
 cases rv with
 |cons rv rr=>
  rw[hs]
  refine assignInOrder_cons (c5 (h1.run pins s σ H ρ M v d _ _ I r rv d1 q) λ_ s1 ⟨σ1,H1,I1,ρ1,M1,f1,r1,q1⟩=>?_)
  exact c5 (h2.run pins s1 σ1 H1 ρ1 M1 vr dr _ Q I1 r1 rr (aF.mono (f1.ext r.mem) _ _ d2) q1) λ_ s2 ⟨σ2,H2,I2,p⟩=>⟨σ2,H2,I2,p.back f1⟩
def Pe(n:Nat)(t:AK):sr:=λd ρ M Q=>∃xs,O1 M d xs/\xs.length=n/\t xs ρ M Q
theorem Dr{prog:Program}{w:World}{A:Around}{E:Value->Shared->Prop}{it l:Addr}{items:Array Value}:∀(n i:Nat) (s:Shared) (Q:List Value->Shared->Prop),s.heap.IsListIter it l i->it≠l->s.heap.IsList l items->i+n<=items.size->
 (∀h',h'.IsListIter it l (i+n)->Heap.SameBut it s.heap h'->Q ((items.toList.drop i).take n) {s with heap:=h'})->wpAny (model prog w) A (draw (.ref it) n) Q E s:=by
 intro n
 induction n with
 |zero=>
  intro i s Q hit _ hl hi hQ
  have:=hQ s.heap hit (.refl ..)
  rw[List.take_zero]at this
  exact wpAny_pure this
 |succ n ih=>
  intro i s Q hit hne hl hi hQ
  have hlt:i<items.size:=by omega
  show wpAny _ _ (pyNext (.ref it) >>= _) Q E s
  refine wpAny_bind (wpAny_pyNext_list_item hit hl (x:=items[i]) (by simp[hlt]) λh₁ Mm hs₁=>?_)
  refine wpAny_bind (wpAny_holding (ih (i+1) _ _ Mm hne (hl.at λo e=>hs₁.extBut _ o (Ne.symm hne) e) (by omega) λh₂ S3 hs₂=>wpAny_pure ?_))
  have hd:items.toList.drop i=items[i]::items.toList.drop (i+1):=by simp[acg,hlt]
  have:=hQ h₂ (by rw[show i+(n+1)=i+1+n by omega];exact S3) (hs₁.trans hs₂)
  rw[hd,List.take_succ_cons]at this
  exact this
theorem pI{prog:Program}{w:World}{A:Around}{E:Value->Shared->Prop}{s:Shared}{t:Addr}{items:Array Value}{Q:List Value->Shared->Prop}(hh:A.handled=none)(ht:s.heap.IsList t items)
 (hQ:∀h',Heap.ExtBut s.heap.objs.size s.heap h'->Q items.toList {s with heap:=h'}):wpAny (model prog w) A (unpackItems (.ref t) items.size none) Q E s:=by
 have hlt:t≠s.heap.objs.size:=by obtain⟨o,ho,_⟩:=ht;exact aaN (Heap.lt_size ho)
 unfold unpackItems
 refine wpAny_bind ?_
 ·unfold notIterableAtAll
  refine wpAny_bind (wpAny_specialOf ht.typeIs slot_list_iter.lookup ?_)
  refine wpAny_pure ?_
  simp only[aaD,if_false]
  refine wpAny_bind (wpAny_holding (wpAny_pyIter_list ht ?_))
  have ht0:(s.heap.push {cls:= .type "list_iterator",data:= .fields #[.ref t,rawInt 0]}).IsList t items:=by
   obtain⟨o,ho,c,n,d⟩:=id ht
   exact⟨o,Heap.get?_push_of_some _ ho,c,n,d⟩
  refine wpAny_bind (wpAny_holding (Dr items.size 0 _ _ ⟨_,Heap.get?_push_size _ rfl,rfl,rfl⟩ (Ne.symm hlt) ht0 (by omega) λh₁ Mm hs₁=>?_))
  have hall:List.take items.size (List.drop 0 items.toList)=items.toList:=by
   rw[adq];exact adg (by simp)
  rw[hall]
  rw[if_neg (by simp)]
  have ht₁:h₁.IsList t items:=ht0.at λo e=>hs₁.extBut _ o hlt e
  refine wpAny_bind (wpAny_holding (wpAny_pyNext_list_end hh Mm ht₁ (by simp) λh₂ Pg=>?_))
  simp only[Option.isSome_none,aaD,if_false]
  refine wpAny_pure (hQ h₂ λb o hb e=>Pg b o hb (hs₁.extBut b o hb (Heap.get?_push_of_some _ e)))
theorem yP{es:List Expr}{k:Nat}{t:AK}{n:Nat}(hc:X.calm=true)(h:IK X es t)
 (hn:(assignEach es X.env).length=n:=by rfl)(hst:(assignEach es X.env).findIdx? (·.1)=none:=by rfl):Dq X (.Tuple es k pos) (Pe n t):=by
 constructor
 intro pins s σ H ρ M v d u Q I r rv dv ⟨xs,hq,hl,q⟩
 rcases hq with rfl|⟨a,rfl,hM⟩
 ·obtain⟨a,ys,rfl,ha,hy⟩:=br.mp dv
  obtain rfl:u=Value.ref a:=rv
  obtain⟨its,Ph,ht,hz⟩:=I.tuple (rQ.of ha)
  refine assign_Tuple_tuple (I.ok.hd hc) ht (by simp[hn,<-hl,hy.length,Ph.length]) hst λh' hx=>?_
  have I1:Inv X pins σ H {s with heap:=h'}:=I.kept (t':=s.toks) λb o e=>hx b o (aaN (Heap.lt_size e)) e
  exact h.run pins _ σ H ρ M ys xs _ Q I1 r (by simpa using Ph) hy q
 ·obtain rfl:=aA.mp dv
  obtain rfl:u=Value.ref a:=rv
  obtain⟨ys,ha,hy⟩:=r.mem.lst hM
  obtain⟨its,Ph,ht,hz⟩:=I.list (gR.of ha)
  rw[assign_Tuple]
  refine wpAny_bind (wpAny_standAt ?_)
  unfold unpack
  have hsz:(assignEach es X.env).length=its.toArray.size:=by simp[hn,<-hl,hy.length,Ph.length]
  rw[hsz,hst]
  refine wpAny_bind (wpAny_holding (pI (I.ok.hd hc) ht.isList λh' hx=>?_))
  have I1:Inv X pins σ H {s with heap:=h'}:=I.kept (t':=s.toks) λb o e=>hx b o (aaN (Heap.lt_size e)) e
  exact h.run pins _ σ H ρ M ys xs _ Q I1 r (by simpa using Ph) hy q
def Pj(te:dg)(g:sr):ia:=λD ρ M=>te ρ M λx M1=>g x ρ M1 D.nx
theorem E5{tg e:Expr}{g:sr}(he:cH X e te)(hg:Dq X tg g)(hs:swapsWithSole [tg] e pos.line X.env=pure false:=by rfl)(hw:swappedStores [tg] e X.env=pure none:=by rfl)
 (h1:(assignEach [tg] X.env).map (·.2)=[assign tg X.env]:=by rfl):vm X (.Assign [tg] e pos) (Pj te g):=by
 constructor
 intro pins s σ H ρ M D I r h
 refine wpAny_Assign_stores (c5 (he.run pins s σ H ρ M _ I r h) λv s1 ⟨x,H1,I1,r1,d,M1,f1,d1,ju,q1⟩=>?_) hs hw
 rw[h1]
 exact c5 (hg.run pins s1 σ H1 ρ M1 x d v _ I1 (r.go f1 ju) r1 d1 q1) λ_ s2 ⟨σ2,H2,I2,p⟩=>⟨σ2,H2,I2,p.back f1⟩
variable{o:Expr}{to:dg}{es:List Expr}{t3:pC}{apos:Pos}
@[irreducible] def bM(p:Prop):Prop:=p
theorem bM.mk{p:Prop}(h:p):bM p:=by unfold bM;exact h
theorem bM.out{p:Prop}(h:bM p):p:=by unfold bM at h;exact h
def IL(c:mR)(tb:ia):ia:=λD ρ M=>∃W:Nat->En->Mp->Prop,(∃m,W m ρ M)/\∀m ρ M,W m ρ M->
 c ρ M λb M1=>if b=true then tb {D with nx:=λρ' M'=>bM (∃m',m'<m/\W m' ρ' M'),ct:=λρ' M'=>bM (∃m',m'<m/\W m' ρ' M'),bk:=D.nx} ρ M1 else D.nx ρ M1
theorem IM{c:Expr}{body:List Stmt}{tc:mR}{tb:ia}(hp:PassesOwn (model X.prog X.w) X.A X.env X.xe)(hc:yJ X c tc)(hb:iS X body tb):vm X (.While c body [] pos) (IL tc tb):=EU (EE hp hc.dn hb.dn) λσ H ρ M D r ⟨W,⟨m0,w0⟩,turn⟩=>by
 refine⟨λm σ' H'=>∃ρ' M',Fr M H M' H'/\Rep X.K H' σ' ρ' M'/\W m ρ' M',⟨m0,ρ,M,.refl _ _,r,w0⟩,?_⟩
 rintro m σ1 H1 ⟨ρ1,M1,f1,r1,w1⟩
 refine pF r1 (turn m ρ1 M1 w1) λk H2 M2 f2 r2 q=>?_
 cases k with
 |true=>
  refine⟨λσ' H'=>∃m',m'<m/\∃ρ' M',Fr M H M' H'/\Rep X.K H' σ' ρ' M'/\W m' ρ' M',λσ' H' z=>z,?_⟩
  have Ds:=f1.trans f2
  refine⟨ρ1,M2,_,r2,q,λσ' H' ⟨ρ',M',f,r',z⟩=>let ⟨m',hm,w'⟩:=z.out;⟨m',hm,ρ',M',Ds.trans f,r',w'⟩,λ_ _ p=>p.back Ds,λ_ _ p=>p.back Ds,λσ' H' ⟨ρ',M',f,r',z⟩=>let ⟨m',hm,w'⟩:=z.out;⟨m',hm,ρ',M',Ds.trans f,r',w'⟩⟩
 |false=>exact⟨ρ1,M2,f1.trans f2,r2,q⟩
def runFor(gd:Mp->Prop)(g:sr)(tb:ia)(D:Aj):List L3.D->En->Mp->Prop
 |[],ρ,M=>gd M/\D.nx ρ M
 |x::xs,ρ,M=>gd M/\g x ρ M λρ2 M2=>tb {D with nx:=runFor gd g tb D xs,ct:=runFor gd g tb D xs,bk:=D.nx} ρ2 M2
structure AL(K:PySem.W.Frag)(J:It)(inv:Hp->Prop)(ds:List L3.D):Prop where
 go:∀i H,i<ds.length->inv H->J.go i H
 HS:∀i H x H',i<ds.length->inv H->J.HS i H x H'->H'=H/\∃d,ds[i]?=some d/\Dat K H d x
 stop:∀H,inv H->J.stop ds.length H
theorem Dq.dn{tg:Expr}{g:sr}(h:Dq X tg g):PG X tg (λv σ H Q=>∃ρ M d Q0,Rep X.K H σ ρ M/\Dat X.K H d v/\g d ρ M Q0/\∀σ' H',gn X.K M H Q0 σ' H'->Q σ' H'):=
 λpins s σ H v u Q I rv ⟨ρ,M,d,Q0,r,dv,q,k⟩=>c5 (h.run pins s σ H ρ M v d u Q0 I r rv dv q) λ_ _ ⟨σ',H',I',p⟩=>⟨σ',H',I',k _ _ p⟩
theorem jx{K:PySem.W.Frag}{J:It}{inv:Hp->Prop}{ds:List L3.D}{gd:Mp->Prop}{g:sr}{tb:ia}{D:Aj}{σ:St}{H H0:Hp}{ρ:En}{M M0:Mp}(hJ:AL K J inv ds)
 (f0:Fr M0 H0 M H)(r:Rep K H σ ρ M)
 (stay:∀M1 H1,Fr M H M1 H1->bK K H1 M1->gd M1->inv H1)(q:runFor gd g tb D ds ρ M) :
 ∃W:Nat->Nat->St->Hp->Prop,(∃m,W 0 m σ H)/\∀i m σ H,W i m σ H->
  (J.stop i H/\(ends K M0 H0 D).nx σ H)\/(J.go i H/\∃N:St->Hp->Prop,(∀σ' H',N σ' H'->∃m',m'<m/\W (i+1) m' σ' H')/\∀x H',J.HS i H x H'->
    (∃ρ M d Q0,Rep K H' σ ρ M/\Dat K H' d x/\g d ρ M Q0/\∀σ2 H2,gn K M H' Q0 σ2 H2->Rm K tb { (ends K M0 H0 D)with nx:=N,ct:=N,bk:=(ends K M0 H0 D).nx} σ2 H2)):=by
 refine⟨λi m σ1 H1=>m=ds.length-i/\i<=ds.length/\∃ρ1 M1,Fr M H M1 H1/\Rep K H1 σ1 ρ1 M1/\runFor gd g tb D (ds.drop i) ρ1 M1,⟨ds.length,by simp,abp _,ρ,M,.refl _ _,r,by simpa using q⟩,?_⟩
 rintro i m σ1 H1 ⟨rfl,hi,ρ1,M1,f1,r1,q1⟩
 by_cases hlt:i<ds.length
 ·have hdr:ds.drop i=ds[i]::ds.drop (i+1):=acg hlt
  rw[hdr]at q1
  obtain⟨hg,q1⟩:=q1
  have U8:=stay M1 H1 f1 r1.mem hg
  refine .inr ⟨hJ.go i H1 hlt U8,λσ' H'=>∃ρ' M',Fr M H M' H'/\Rep K H' σ' ρ' M'/\runFor gd g tb D (ds.drop (i+1)) ρ' M',λσ' H' ⟨ρ',M',f',r',q'⟩=>⟨ds.length-(i+1),by omega,rfl,hlt,ρ',M',f',r',q'⟩,λx H' y=>?_⟩
  obtain⟨e,d,hd1,hd2⟩:=hJ.HS i H1 x H' hlt U8 y
  subst e
  have ed:d=ds[i]:=Option.some.inj (hd1.symm.trans (aau hlt))
  subst ed
  refine⟨ρ1,M1,_,_,r1,hd2,q1,λσ2 H2 ⟨ρ2,M2,f2,r2,q2⟩=>?_⟩
  have Ds:=f1.trans f2
  have U9:=f0.trans Ds
  exact⟨ρ2,M2,_,r2,q2,λσ' H' ⟨ρ',M',f,r',z⟩=>⟨ρ',M',Ds.trans f,r',z⟩,λ_ _ p=>p.back U9,λ_ _ p=>p.back U9,λσ' H' ⟨ρ',M',f,r',z⟩=>⟨ρ',M',Ds.trans f,r',z⟩⟩
 ·have e:i=ds.length:=by omega
  subst e
  rw[adh (aaz _)]at q1
  obtain⟨hg,q1⟩:=q1
  exact .inl ⟨hJ.stop H1 (stay M1 H1 f1 r1.mem hg),ρ1,M1,f0.trans f1,r1,q1⟩
def Pk(te:dg)(g:sr)(tb:ia):ia:=λD ρ M=>te ρ M λd M1=>∃xs,d= .tup xs/\runFor (λ_=>True) g tb D xs ρ M1
def Pn(te:dg)(g:sr)(tb:ia):ia:=λD ρ M=>te ρ M λd M1=>∃a xs,d= .ref a/\M1 a=some (.lst xs)/\runFor (λM=>M a=some (.lst xs)) g tb D xs ρ M1
def Po(t:pC)(g:sr)(tb:ia):ia:=λD ρ M=>t ρ M λxs M1=>xs.length<=sizeLine/\runFor (λ_=>True) g tb D xs ρ M1
def Pp(t:pC)(g:sr)(tb:ia):ia:=λD ρ M=>t ρ M λvs M1=>∃j:Int,vs=[.int j]/\ -(2 ^ 62)<=j/\j<2 ^ 62/\runFor (λ_=>True) g tb D ((List.range j.toNat).map λ(k:Nat)=>L3.D.int (k:Int)) ρ M1
variable{tg iter:Expr}{body:List Stmt}{g:sr}{tb:ia}
theorem Mn{K:PySem.W.Frag}{a:Addr}{ds:List L3.D}:AL K (Sf K a) (λH=>∃vs,H a=some (.tup vs)/\aF K H ds vs) ds:=
 ⟨λi H hi ⟨vs,h,hd⟩=>⟨vs,vs[i]'(by rw[<-hd.length];exact hi),rQ.of h,aau _⟩,λi H x H' _ ⟨vs,h,hd⟩ y=>⟨y.1,hd.back (y.2 vs (rQ.of h))⟩,λH ⟨vs,h,hd⟩=>⟨vs,rQ.of h,by rw[hd.length];exact aaz _⟩⟩
theorem wN{K:PySem.W.Frag}{a:Addr}{ds:List L3.D}:AL K (Se K a) (λH=>∃vs,H a=some (.lst vs)/\aF K H ds vs) ds:=
 ⟨λi H hi ⟨vs,h,hd⟩=>⟨vs,vs[i]'(by rw[<-hd.length];exact hi),gR.of h,aau _⟩,λi H x H' _ ⟨vs,h,hd⟩ y=>⟨y.1,hd.back (y.2 vs (gR.of h))⟩,λH ⟨vs,h,hd⟩=>⟨vs,gR.of h,by rw[hd.length];exact aaz _⟩⟩
theorem Mq{K:PySem.W.Frag}{n:Nat}:AL K (Rk 0 n) (λ_=>True) ((List.range n).map λ(k:Nat)=>L3.D.int (k:Int)):=
 ⟨λi H hi _=>by show i<n;simpa using hi,λi H x H' hi _ y=>⟨y.1,L3.D.int (i:Int),by
  have hi:i<n:=by simpa using hi
  simp[hi],aX.mpr (by rw[y.2,adD])⟩,λH _=>by show n<=_;simp⟩
theorem Mr(hp:PassesOwn (model X.prog X.w) X.A X.env X.xe)(hc:X.calm=true)(hi:cH X iter te)(hg:Dq X tg g)(hb:iS X body tb)
 (hs:∀x,foldedSetIterable iter X.env x=pure x:=by intro _;rfl):vm X (.For tg iter body [] pos) (Pk te g tb):=EU (pB hp hc (LG hi.dn) hg.dn hb.dn hs) λσ H ρ M D r q=>dW r q λv H' d M' f dv r' ⟨xs,e1,q⟩=>by
 subst e1
 obtain⟨a,ys,rfl,ha,hy⟩:=br.mp dv
 refine⟨a,rfl,⟨ys,rQ.of ha⟩,jx Mn f r' (λM1 H1 f1 _ _=>⟨ys,?_,aF.mono (f1.ext r'.mem) _ _ hy⟩) q⟩
 exact(f1 a _ (r'.mem.AI ha (λ_ z=>by cases z)) ha).1
theorem sA(hp:PassesOwn (model X.prog X.w) X.A X.env X.xe)(hc:X.calm=true)(hi:cH X iter te)(hg:Dq X tg g)(hb:iS X body tb)
 (hs:∀x,foldedSetIterable iter X.env x=pure x:=by intro _;rfl):vm X (.For tg iter body [] pos) (Pn te g tb):=EU (pB hp hc (rj hi.dn) hg.dn hb.dn hs) λσ H ρ M D r q=>dW r q λv H' d M' f dv r' ⟨a,xs,e1,hM,q⟩=>by
 subst e1
 obtain rfl:=aA.mp dv
 obtain⟨ys,ha,hy⟩:=r'.mem.lst hM
 exact⟨a,rfl,⟨ys,gR.of ha⟩,jx wN f r' (λM1 H1 f1 ju g1=>ju.lst g1) q⟩
theorem Ms{es:List Expr}{t:pC}{E6:Pos}(hp:PassesOwn (model X.prog X.w) X.A X.env X.xe)(hc:X.calm=true)(hi:yz X es t)(hg:Dq X tg g)(hb:iS X body tb)
 (hs:∀x,foldedSetIterable (.List es E6) X.env x=pure x:=by intro _;rfl):vm X (.For tg (.List es E6) body [] pos) (Po t g tb):=EU (pB hp hc (rj (AD hi.dn)) hg.dn hb.dn hs) λσ H ρ M D r q=>kJ r q λvs H' ds M' f dv r' ⟨hl,q⟩=>by
 refine⟨by rw[<-dv.length];exact hl,λp hp=>⟨p,rfl,⟨vs,gR.of bu⟩,?_⟩⟩
 have fr:Fr M' H' M' (upd H' p (.lst vs)):=Fr.new hp λ_ _=>rfl
 have r2:=r'.go fr (r'.mem.new hp)
 exact jx wN (f.trans fr) r2 (λM1 H1 f1 _ _=>⟨vs,(f1 p _ (r'.mem.free hp) bu).1,aF.mono ((Ext.new hp).trans (f1.ext r2.mem)) _ _ dv⟩) q
theorem wO{a:Expr}{t:pC}{p rpos:Pos}(hp:PassesOwn (model X.prog X.w) X.A X.env X.xe)(hc:X.calm=true)(Pq:Gl X "range")(hm:X.mg "range" =none)(ha:yz X [a] t)(hg:Dq X tg g)(hb:iS X body tb)
 (hst:starEach [a] X.env=[(false,eval a X.env)]:=by rfl)
 (hs:∀x,foldedSetIterable (.Call (.Name "range" p) [a] [] rpos) X.env x=pure x:=by intro _;rfl):vm X (.For tg (.Call (.Name "range" p) [a] [] rpos) body [] pos) (Pp t g tb):=EU (pB hp hc (De Pq hm ha.dn hst) hg.dn hb.dn hs) λσ H ρ M D r q=>kJ r q λvs H' ds M' f dv r' ⟨j,e1,h1,h2,q⟩=>by
 subst e1
 obtain⟨v,rfl,hv⟩:=sj dv
 obtain rfl:=aX.mp hv
 exact⟨j,rfl,h1,h2,jx Mq f r' (λ_ _ _ _ _=>trivial) q⟩
def Pu(to te:dg):dg:=λρ M Q=>to ρ M λd M1=>(∃l xs,d= .ref l/\M1 l=some (.lst xs))/\te ρ M1 λe M2=>∃l xs,d= .ref l/\M2 l=some (.lst xs)/\xs.length<sizeLine/\Q .bJ (ay M2 l (.lst (xs++[e])))
theorem vv{o e:Expr}{to te:dg}{apos:Pos}(ho:cH X o to)(he:cH X e te)(Pw:PE X (.Call (.Attribute o "append" apos) [e] [] pos) (SA X.K "list" B8 (dn X.K to) (EI (dn X.K te) LO))):cH X (.Call (.Attribute o "append" apos) [e] [] pos) (Pu to te):=
 up Pw λσ H ρ M Q r q=>dW r q λv H' d M' f dv r' ⟨⟨l,xs,e1,hM⟩,q⟩=>by
  subst e1
  obtain rfl:=aA.mp dv
  obtain⟨ys,ha,hy⟩:=r'.mem.lst hM
  refine⟨.inl ⟨rfl,_,gR.of ha⟩,dW r' q λu H2 d2 M2 f2 du r2 ⟨l',xs',e2,HU,hlt,q2⟩=>?_⟩
  injection e2 with e2
  subst e2
  obtain⟨zs,hb,hz⟩:=r2.mem.lst HU
  refine⟨l,zs,u,rfl,rfl,hb,by rw[<-hz.length];exact hlt,.bJ,_,(f.trans f2).trans (Fr.write (K:=X.K) HU),dN.mpr rfl,r2.mem.kI hb (hz.append (aF.one du)),q2⟩
end
section
variable{P:Program}{w:World}{K:PySem.W.Frag}{mg:Str->Option Value}{base:Heap}
def kP(N:List Str)(ds:List D):En:=ds.map some++List.replicate (N.length-ds.length) none
theorem pJ{H:Hp}{N:List Str}{ds:List D}{vs:List V}{M:Mp}(h:aF K H ds vs)(rm:bK K H M):Rep K H (L2.start N vs) (kP N ds) M:=by
 have hl:=h.length
 refine⟨λi d e=>?_,by unfold L2.start kP;simp[hl],rm⟩
 unfold kP at e
 by_cases hi:i<ds.length
 ·rw[abY (by simpa using hi),aa0]at e
  cases q:ds[i]? with
  |none=>rw[q]at e;cases e
  |some d'=>
   rw[q]at e
   cases e
   obtain⟨v,h1,h2⟩:=h.get q
   refine⟨v,?_,h2⟩
   unfold L2.start
   rw[abY (by simp;omega),aa0,h1]
   rfl
 ·rw[abT (by simpa using hi),ac6]at e
  split at e<;>cases e
theorem AM{x qual:Str}{st:Stmt}{f:Addr}{fd:FuncData}{N ps:List Str}{k:Nat}{S:wK}(F:jC K x qual st f fd)(Sc:aO N ps (au st))(len:∀ds Q,S ds Q->ds.length=ps.length)
 (hbody:∀(cdv:Value) (A:Around) (outer:List Env) (s:Shared) (H:Hp),fK k (A.deeper (envOfC qual (au st) s.heap.objs.size f cdv))->
  ∃t,iS (j8 gJ P w K mg base N qual (au st) f cdv A outer s H E0).Ej (eW st) t/\∀ds Q,S ds Q->t {nx:=λ_ _=>Q .bJ,rt:=λd _=>Q d} (kP N ds) OS) :
 cz P w K mg base gJ (k+1) f fd ps (vt K S):=by
 refine F.ok Sc (λvs H Q E h=>?_) (λcdv A outer s H vs Q E hr h=>?_)
 ·obtain⟨ds,Q0,h1,h2,_⟩:=h
  rw[<-h1.length,len ds Q0 h2]
 ·obtain⟨ds,Q0,h1,h2,h3⟩:=h
  obtain⟨t,ht,hq⟩:=hbody cdv A outer s H hr
  have hE:(j8 gJ P w K mg base N qual (au st) f cdv A outer s H E).Ej=(j8 gJ P w K mg base N qual (au st) f cdv A outer s H E0).Ej:=rfl
  refine⟨_,iS.dn (by rw[hE];exact ht),kP N ds,OS,_,pJ h1 bK.no,hq ds Q0 h2,λσ' H' ⟨ρ',M',f',r',q⟩=>?_,λv H' ⟨d,M',f',dv,rm,q⟩=>?_,λ_ _ ⟨_,_,_,_,z⟩=>z.elim,λ_ _ ⟨_,_,_,_,z⟩=>z.elim⟩
  ·exact h3 .bJ .bJ H' q (dN.mpr rfl) λb o e=>(f' b o rfl e).1
  ·exact h3 d v H' q dv λb o e=>(f' b o rfl e).1
theorem AN{x qual:Str}{st:Stmt}{f:Addr}{fd:FuncData}{N ps:List Str}{k:Nat}{S:wM}(F:jC K x qual st f fd)(Sc:aO N ps (au st))(len:∀ds M Q,S ds M Q->ds.length=ps.length)
 (hbody:∀(cdv:Value) (A:Around) (outer:List Env) (s:Shared) (H:Hp),fK k (A.deeper (envOfC qual (au st) s.heap.objs.size f cdv))->
  ∃t,iS (j8 gJ P w K mg base N qual (au st) f cdv A outer s H E0).Ej (eW st) t/\∀ds M Q,S ds M Q->t {nx:=λ_ M'=>bM (∃M0,Le M0 M'/\Q .bJ M0),rt:=λd M'=>bM (∃M0,Le M0 M'/\Q d M0)} (kP N ds) M) :
 cz P w K mg base gJ (k+1) f fd ps (yN K S):=by
 refine F.ok Sc (λvs H Q E h=>?_) (λcdv A outer s H vs Q E hr h=>?_)
 ·obtain⟨ds,M,Q0,h1,_,h2,_⟩:=h
  rw[<-h1.length,len ds M Q0 h2]
 ·obtain⟨ds,M,Q0,h1,rm,h2,h3⟩:=h
  obtain⟨t,ht,hq⟩:=hbody cdv A outer s H hr
  have hE:(j8 gJ P w K mg base N qual (au st) f cdv A outer s H E).Ej=(j8 gJ P w K mg base N qual (au st) f cdv A outer s H E0).Ej:=rfl
  refine⟨_,iS.dn (by rw[hE];exact ht),kP N ds,M,_,pJ h1 rm,hq ds M Q0 h2,λσ' H' ⟨ρ',M',f',r',z⟩=>?_,λv H' ⟨d,M',f',dv,S4,z⟩=>?_,λ_ _ ⟨_,_,_,_,z⟩=>z.elim,λ_ _ ⟨_,_,_,_,z⟩=>z.elim⟩
  ·obtain⟨M0,l,q⟩:=z.out
   exact h3 .bJ M0 .bJ H' q (dN.mpr rfl) (r'.mem.le l) (f'.le l)
  ·obtain⟨M0,l,q⟩:=z.out
   exact h3 d M0 v H' q dv (S4.le l) (f'.le l)
end
end L3
namespace L3
open PySem PySem.Spec PyProof.Rows L2
section
variable{X:Cx}
def intsOf:List D->Option (List Int)
 |[]=>some []
 | .int i::ds=>(intsOf ds).map (i:: ·)
 |_::_=>none
theorem nk:∀{ds:List D} {ns:List Int},intsOf ds=some ns->ds=ns.map D.int
 |[],ns,h=>by cases h;rfl
 | .int i::ds,ns,h=>by
   have h:(intsOf ds).map (i:: ·)=some ns:=h
   cases q:intsOf ds with
   |none=>rw[q]at h;cases h
   |some ms=>
    rw[q]at h
    have h:i::ms=ns:=Option.some.inj h
    subst h
    rw[nk q];rfl
 | .bJ::_,ns,h=>by cases h
 | .bl _::_,ns,h=>by cases h
 | .str _::_,ns,h=>by cases h
 | .ty _::_,ns,h=>by cases h
 | .ref _::_,ns,h=>by cases h
 | .tup _::_,ns,h=>by cases h
 | .Dn _::_,ns,h=>by cases h
 | .L4 _::_,ns,h=>by cases h
 | .exc _ _ _::_,ns,h=>by cases h
def Va:D->D->Option Bool
 | .int i,.int j=>some (decide (i<j))
 | .tup ds,.tup es=>match intsOf ds,intsOf es with
   |some ns,some ms=>some (HT.lexLt ns ms)
   |_,_=>none
 |_,_=>none
def S5:R3:=λd e M Q=>∃b,Va d e=some b/\Q (.bl b) M
theorem nY(hu:X.A.units+64<cLine):mS X (compareOp .Lt) S5:=by
 constructor
 intro pins s σ H M x y d e v u Q I rm rx ry dx dy ⟨b,hb,q⟩
 unfold Va at hb
 split at hb
 ·rename_i i j
  have hb:=Option.some.inj hb
  subst hb
  exact SV.run pins s σ H M x y _ _ v u Q I rm rx ry dx dy ⟨i,j,rfl,rfl,q⟩
 ·rename_i ds es
  split at hb
  ·rename_i ns ms h1 h2
   have hb:=Option.some.inj hb
   subst hb
   exact(O3 hu).run pins s σ H M x y _ _ v u Q I rm rx ry dx dy ⟨ns,ms,by rw[nk h1],by rw[nk h2],q⟩
  ·cases hb
 ·cases hb
theorem cV:bootBuiltins "len" =some (.builtin "len"):=by decide +kernel
theorem Dt:bootBuiltins "min" =some (.builtin "min"):=by decide +kernel
theorem bZ:bootBuiltins "sorted" =some (.builtin "sorted"):=by decide +kernel
theorem aN:bootBuiltins "isinstance" =some (.builtin "isinstance"):=by decide +kernel
theorem c6:bootBuiltins "list" =some (.type "list"):=by decide +kernel
theorem sC:bootBuiltins "bool" =some (.type "bool"):=by decide +kernel
theorem kQ:bootBuiltins "tuple" =some (.type "tuple"):=by decide +kernel
theorem pK:bootBuiltins "ValueError" =some (.type "ValueError"):=by decide +kernel
end
theorem sD{m n:Nat}(h:m<=n):2 ^ m<=2 ^ n:=ads (by decide) h
theorem Sm.le{m n:Nat}{i:Int}(h:Sm m i)(l:m<=n):Sm n i:=aay h (sD l)
theorem Sm.E7{n:Nat}{i j:Int}(h:Sm n j)(l:i.natAbs<=j.natAbs):Sm n i:=Nat.lt_of_le_of_lt l h
theorem Sm.add{m n:Nat}{i j:Int}(h1:Sm m i)(h2:Sm n j):Sm (max m n+1) (i+j):=by
 have a:=aay h1 (sD (Nat.le_max_left m n))
 have b:=aay h2 (sD (Nat.le_max_right m n))
 show(i+j).natAbs<2 ^ (max m n+1)
 rw[Nat.pow_succ]
 have:=Int.natAbs_add_le i j
 omega
theorem Sm.neg{n:Nat}{i:Int}(h:Sm n i):Sm n (-i):=by
 show(-i).natAbs<_
 rw[Int.natAbs_neg];exact h
theorem Sm.sub{m n:Nat}{i j:Int}(h1:Sm m i)(h2:Sm n j):Sm (max m n+1) (i-j):=by
 rw[Int.sub_eq_add_neg];exact h1.add h2.neg
theorem Sm.mul{m n:Nat}{i j:Int}(h1:Sm m i)(h2:Sm n j):Sm (m+n) (i*j):=by
 show(i*j).natAbs<2 ^ (m+n)
 rw[Int.natAbs_mul,Nat.pow_add]
 exact Nat.mul_lt_mul'' h1 h2
theorem Sm.emod{n:Nat}{i j:Int}(hj:0<j)(h:Sm n j):Sm n (i % j):=by
 have h1:=abX i (show j≠0 by omega)
 have h2:=abM i hj
 exact h.E7 (by omega)
instance{n:Nat}{i:Int}:Decidable (Sm n i):=inferInstanceAs (Decidable (_<_))
theorem Sm.sign(i:Int):Sm 1 i.sign:=by
 rcases abw i 0 with h|h|h
 ·rw[abH h];decide
 ·subst h;decide
 ·rw[aba h];decide
theorem MulOk.of{m n:Nat}{i j:Int}(h1:Sm m i)(h2:Sm n j)(h:m+n<=100000):MulOk i j:=⟨m,n,h1,h2,h⟩
theorem Sm.lit(i:Int):Sm (i.natAbs.log2+1) i:=Nat.lt_log2_self
theorem Sm.two:Sm 2 2:=by decide
theorem Sm.one:Sm 1 1:=by decide
theorem nZ{K:PySem.W.Frag}{n:String}:PySem.W.kitOne K (.type n) (.type n)=some true:=by simp[PySem.W.kitOne]
structure Pl where
 x:Int
 y:Int
 deriving DecidableEq
def Pl.d(p:Pl):D:= .tup [.int p.x,.int p.y]
def Pl.Ok(n:Nat)(p:Pl):Prop:=Sm n p.x/\Sm n p.y
theorem nt(p q:Pl):eE p.d q.d=decide (p=q):=by
 unfold Pl.d
 rw[jH,jv,jv,kL,eY,eY,aa8]
 cases p;cases q
 simp
end L3
namespace L3
open PySem L2
def Ce:wK:=λds Q=>∃ns:List Int,ds=[.Dn (ns.map D.int)]/\ns.length<=63/\Q (.bl true)
theorem vz{K:PySem.W.Frag}{H:Hp}:∀(ns:List Int),aF K H (ns.map D.int) (ns.map V.int)
 |[]=>aM.mpr rfl
 |n::ns=>aC.mpr ⟨_,_,rfl,aX.mpr rfl,vz ns⟩
theorem Mt{K:PySem.W.Frag}{H:Hp}{a:Addr}{ns:List Int}{E:XK}(hl:ns.length<=63)(hO:IE H)(hS:gR K H a (ns.map V.int)):vt K Ce [.ref a] H (λv _=>v= .bl true) E:=by
 have hz:Fz K H a (ns.map V.int):=by
  rcases hS with(h|⟨o,h⟩)|h
  ·rcases hO a with z|⟨o,xs,z⟩
   ·rw[z]at h;cases h
   ·rw[z]at h;cases h
  ·exact .inl ⟨o,h⟩
  ·exact .inr h
 exact⟨[.Dn (ns.map D.int)],λd=>d= .bl true,aF.one (rq.mpr ⟨a,_,rfl,hz,vz ns⟩),⟨ns,rfl,hl,rfl⟩,λd v H' q dv _=>by subst q;exact bq.mp dv⟩
end L3
namespace L3
theorem cJ{gd:Mp->Prop}{g:sr}{tb:ia}{D:Aj}{ρ:En}{M:Mp}(Pv:Nat->En->Mp->Prop):∀(xs:List L3.D),
 (∀(i:Nat) (x:L3.D) (ρ:En) (M:Mp) (N:En->Mp->Prop),xs[i]?=some x->Pv i ρ M->(∀ρ' M',Pv (i+1) ρ' M'->N ρ' M')->gd M/\g x ρ M λρ2 M2=>tb {D with nx:=N,ct:=N,bk:=D.nx} ρ2 M2)->
 (∀ρ M,Pv xs.length ρ M->gd M/\D.nx ρ M)->Pv 0 ρ M->runFor gd g tb D xs ρ M:=by
 intro xs hs hd h0
 have key:∀(ys:List L3.D) (i:Nat) (ρ:En) (M:Mp),xs.drop i=ys->Pv i ρ M->i<=xs.length->runFor gd g tb D ys ρ M:=by
  intro ys
  induction ys with
  |nil=>
   intro i ρ M e p hi
   have:xs.length<=i:=by
    have:=congrArg List.length e
    rw[abC]at this
    simp at this
    omega
   have:i=xs.length:=by omega
   subst this
   exact hd ρ M p
  |cons y ys ih=>
   intro i ρ M e p hi
   have hx:xs[i]?=some y:=by
    have:=congrArg (λl=>l[0]?) e
    simpa using this
   have hlt:i<xs.length:=(aaQ.mp hx).1
   refine hs i y ρ M _ hx p λρ' M' p'=>ih (i+1) ρ' M' ?_ p' hlt
   rw[<-adS,e]
   rfl
 exact key xs 0 ρ M rfl h0 (abp _)
theorem mh{n i:Nat}{x:L3.D}(h:((List.range n).map λ(k:Nat)=>L3.D.int (k:Int))[i]?=some x):i<n/\x= .int (i:Int):=by
 rw[aa0]at h
 by_cases hi:i<n
 ·rw[List.getElem?_range hi]at h
  exact⟨hi,(Option.some.inj h).symm⟩
 ·rw[aby (by simp;omega)]at h
  cases h
end L3
namespace L3
theorem kR(a:Int):0<=a*a:=by
 rcases ab1 0 a with h|h
 ·exact aaB h h
 ·exact aaS h h
def frac(a b:Int):Pl:=⟨a.fdiv ((Int.gcd a b:Int)*b.sign),b.fdiv ((Int.gcd a b:Int)*b.sign)⟩
def low(a b:Int):Pl:=⟨a / (Int.gcd a b:Int),b / (Int.gcd a b:Int)⟩
end L3
local macro_rules| `(tactic|walk_at "sm")=> `(tactic|first|assumption|exact L3.Sm.sign _|exact L3.Sm.zero|exact L3.Sm.one|exact L3.Sm.two|((with_reducible apply L3.Sm.mul)<;>walk_at "sm")|((with_reducible apply L3.Sm.sub)<;>walk_at "sm")|((with_reducible apply L3.Sm.add)<;>walk_at "sm")|((with_reducible apply L3.Sm.neg)<;>walk_at "sm")|((with_reducible apply L3.Sm.abs)<;>walk_at "sm")|((with_reducible apply L3.Sm.emod);(first|omega|decide +kernel);walk_at "sm")|exact L3.Sm.lit _)
local macro_rules| `(tactic|walk_at "smle")=> `(tactic|(apply L3.Sm.le;walk_at "sm";first|omega|decide +kernel))
namespace L3
@[irreducible] def WK(p f g:Pl):Int:=(p.x*f.y-f.x)*g.y*((p.x*f.y-f.x)*g.y)+(p.y*g.y-g.x)*f.y*((p.y*g.y-g.x)*f.y)
@[irreducible] def sq(p f g:Pl):Pl:=frac (WK p f g) (f.y*g.y*(f.y*g.y))
end L3
namespace L3
@[irreducible] def tw(a b c:Pl):Int:=(b.x-a.x)*(c.y-a.y)-(b.y-a.y)*(c.x-a.x)
theorem ja(a b c:Pl):tw b c a=tw a b c:=by unfold tw;grind
theorem gc(a b c:Pl):tw b a c= -tw a b c:=by unfold tw;grind
theorem kT(a b c:Pl):tw a c b= -tw a b c:=by unfold tw;grind
theorem ic(a b:Pl):tw a a b=0:=by unfold tw;grind
theorem sE(a b:Pl):tw a b b=0:=by unfold tw;grind
theorem ie(a b:Pl):tw a b a=0:=by unfold tw;grind
def aQ(p q:Pl):Prop:=p.x<q.x\/(p.x=q.x/\p.y<q.y)
instance(p q:Pl):Decidable (aQ p q):=inferInstanceAs (Decidable (_\/_))
theorem bG(p:Pl):¬aQ p p:=by unfold aQ;omega
theorem aV{p q r:Pl}(a:aQ p q)(b:aQ q r):aQ p r:=by unfold aQ at *;omega
theorem az{p q:Pl}(a:aQ p q):¬aQ q p:=by unfold aQ at *;omega
theorem bT(p q:Pl):aQ p q\/p=q\/aQ q p:=by
 unfold aQ
 by_cases h:p=q
 ·exact .inr (.inl h)
 ·have:¬(p.x=q.x/\p.y=q.y):=λ⟨a,b⟩=>h (by cases p;cases q;simp only at a b;rw[a,b])
  omega
theorem kU{p q:Pl}(a:aQ p q):p≠q:=λe=>bG q (e▸a)
def lo(p q:Pl):Pl:=if aQ q p then q else p
def hi(p q:Pl):Pl:=if aQ p q then q else p
def sF(a b c:Pl):Int:=(a.x-c.x)*(b.x-c.x)+(a.y-c.y)*(b.y-c.y)
theorem yQ{a b:Int}(ha:0<a):(0<a*b↔0<b)/\(a*b<0↔b<0)/\(a*b=0↔b=0):=by
 rcases abw b 0 with h|h|h
 ·have:=aa9 ha h
  omega
 ·subst h;simp
 ·have:=aaT ha h
  omega
theorem jI{ux uy vx vy:Int}(hc:ux*vy=uy*vx)(hu:ux<0\/(ux=0/\uy<0))(hv:0<vx\/(vx=0/\0<vy)):ux*vx+uy*vy<0:=by
 rcases hu with hu|⟨hu,kj⟩
 ·rcases hv with hv|⟨hv,hv'⟩
  ·have h1:ux*vx<0:=by have:=aaT (show 0 < -ux by omega) hv;rw[acj]at this;omega
   have h2:vx*(uy*vy)=ux*(vy*vy):=by grind
   have h3:=kR vy
   have h4:0<=(-ux)*(vy*vy):=aaB (by omega) h3
   rw[acj]at h4
   have h5:=(yQ (b:=uy*vy) hv).1
   omega
  ·subst hv
   have:=aaT (show 0 < -ux by omega) hv'
   rw[acj]at this
   omega
 ·subst hu
  rcases hv with hv|⟨hv,hv'⟩
  ·have:=aaT (show 0 < -uy by omega) hv
   rw[acj]at this
   omega
  ·subst hv
   have:=aaT (show 0 < -uy by omega) hv'
   rw[acj]at this
   omega
theorem mV{ux uy vx vy:Int}(hc:ux*vy=uy*vx)(hu:ux<0\/(ux=0/\uy<0))(hv:vx<0\/(vx=0/\vy<0)):0<ux*vx+uy*vy:=by
 have:=jI (ux:=ux) (uy:=uy) (vx:= -vx) (vy:= -vy) (by grind) hu (by omega)
 have e:ux* -vx+uy* -vy= -(ux*vx+uy*vy):=by grind
 omega
theorem qA(a b c:Pl)(h0:tw a b c=0):(aQ (lo a b) c/\aQ c (hi a b))↔(c≠a/\c≠b/\sF a b c<0):=by
 have hc:(a.x-c.x)*(b.y-c.y)=(a.y-c.y)*(b.x-c.x):=by unfold tw at h0;grind
 have hc':(b.x-c.x)*(a.y-c.y)=(b.y-c.y)*(a.x-c.x):=by unfold tw at h0;grind
 have e:sF a b c=(a.x-c.x)*(b.x-c.x)+(a.y-c.y)*(b.y-c.y):=rfl
 have e':sF a b c=(b.x-c.x)*(a.x-c.x)+(b.y-c.y)*(a.y-c.y):=by rw[e];grind
 have e'':sF a b c=(-(b.x-c.x))*(-(a.x-c.x))+(-(b.y-c.y))*(-(a.y-c.y)):=by rw[e];grind
 have S6:(-(b.x-c.x))*(-(a.y-c.y))=(-(b.y-c.y))*(-(a.x-c.x)):=by rw[ack,ack];exact hc'
 unfold lo hi
 rcases bT a c with ha|ha|ha
 ·rcases bT c b with hb|hb|hb
  ·have hab:=aV ha hb
   rw[if_neg (az hab),if_pos hab]
   refine⟨λ_=>⟨(kU ha).symm,kU hb,?_⟩,λ_=>⟨ha,hb⟩⟩
   rw[e]
   exact jI hc (by unfold aQ at ha;omega) (by unfold aQ at hb;omega)
  ·subst hb
   constructor
   ·rintro⟨_,h2⟩
    exfalso
    split at h2
    ·exact bG _ h2
    ·rename_i z;exact z ha
   ·rintro⟨_,h2,_⟩;exact absurd rfl h2
  ·constructor
   ·rintro⟨_,h2⟩
    exfalso
    split at h2
    ·exact az hb h2
    ·exact az ha h2
   ·rintro⟨_,_,h⟩
    exfalso
    rw[e]at h
    have:=mV hc (by unfold aQ at ha;omega) (by unfold aQ at hb;omega)
    omega
 ·subst ha
  constructor
  ·rintro⟨h1,h2⟩
   exfalso
   split at h1
   ·split at h2
    ·exact az h1 h2
    ·exact bG _ h2
   ·exact bG _ h1
  ·rintro⟨h,_⟩;exact absurd rfl h
 ·rcases bT c b with hb|hb|hb
  ·constructor
   ·rintro⟨h1,_⟩
    exfalso
    split at h1
    ·exact az hb h1
    ·exact az ha h1
   ·rintro⟨_,_,h⟩
    exfalso
    rw[e'']at h
    have:=mV S6 (by unfold aQ at hb;omega) (by unfold aQ at ha;omega)
    omega
  ·subst hb
   constructor
   ·rintro⟨h1,h2⟩
    exfalso
    split at h1
    ·exact bG _ h1
    ·rename_i z;exact z ha
   ·rintro⟨_,h2,_⟩;exact absurd rfl h2
  ·have hba:=aV hb ha
   rw[if_pos hba,if_neg (az hba)]
   refine⟨λ_=>⟨kU ha,(kU hb).symm,?_⟩,λ_=>⟨hb,ha⟩⟩
   rw[e']
   exact jI hc' (by unfold aQ at hb;omega) (by unfold aQ at ha;omega)
@[irreducible] def wQ(p q:Pl):Int:=(q.x-p.x)*(q.x-p.x)+(q.y-p.y)*(q.y-p.y)
@[irreducible] def dep(a b c d:Pl):Int:=wQ d a*tw d b c+wQ d b*tw d c a+wQ d c*tw d a b
theorem rD(a b c d:Pl):dep b c a d=dep a b c d:=by unfold dep;grind
theorem E8(a b c d:Pl):dep b a c d= -dep a b c d:=by unfold dep;have:=gc d;unfold tw;grind
theorem sG(a:Pl):wQ a a=0:=by unfold wQ;grind
theorem Px(a b c:Pl):dep a b c a=0:=by unfold dep;rw[sG,ic,ie];grind
theorem Py(a b c:Pl):dep a b c b=0:=by unfold dep;rw[sG,ic,ie];grind
theorem KP(a b c:Pl):dep a b c c=0:=by unfold dep;rw[sG,ic,ie];grind
@[irreducible] def rg(a b c d:Pl):Int:=(tw a b c).sign*(dep a b c d).sign
theorem kW(a b c d:Pl):rg b c a d=rg a b c d:=by unfold rg;rw[ja,rD]
theorem n8(a b c d:Pl):rg b a c d=rg a b c d:=by unfold rg;rw[gc,E8,ac7,ac7,ack]
end L3
namespace L3
def fO(a b c d:Pl):Prop:=rg a b c d=1\/(rg a b c d=0/\d≠a/\d≠b/\d≠c/\((aQ d a/\aQ d b/\aQ d c)\/(aQ a b/\aQ a c/\aQ a d/\(tw b c d).sign≠(tw b c a).sign)\/(aQ b a/\aQ b c/\aQ b d/\(tw c a d).sign≠(tw c a b).sign)\/(aQ c a/\aQ c b/\aQ c d/\(tw a b d).sign≠(tw a b c).sign)))
instance(a b c d:Pl):Decidable (fO a b c d):=inferInstanceAs (Decidable (_\/_))
theorem sH{a b c d:Pl}(h:fO a b c d):fO b c a d:=by
 rcases h with h|⟨h0,n1,n2,n3,h⟩
 ·exact .inl ((kW a b c d).trans h)
 ·refine .inr ⟨(kW a b c d).trans h0,n2,n3,n1,?_⟩
  rcases h with⟨k1,k2,k3⟩|⟨k1,k2,k3,k4⟩|⟨k1,k2,k3,k4⟩|⟨k1,k2,k3,k4⟩
  ·exact .inl ⟨k2,k3,k1⟩
  ·exact .inr (.inr (.inr ⟨k1,k2,k3,k4⟩))
  ·exact .inr (.inl ⟨k2,k1,k3,k4⟩)
  ·exact .inr (.inr (.inl ⟨k2,k1,k3,k4⟩))
theorem fj(a b c d:Pl):fO b c a d↔fO a b c d:=⟨λh=>sH (sH h),sH⟩
theorem kX(i j:Int):((-i).sign≠(-j).sign)↔(i.sign≠j.sign):=by
 rw[ac7,ac7];omega
theorem vA{a b c d:Pl}(h:fO a b c d):fO b a c d:=by
 rcases h with h|⟨h0,n1,n2,n3,h⟩
 ·exact .inl ((n8 a b c d).trans h)
 ·refine .inr ⟨(n8 a b c d).trans h0,n2,n1,n3,?_⟩
  rcases h with⟨k1,k2,k3⟩|⟨k1,k2,k3,k4⟩|⟨k1,k2,k3,k4⟩|⟨k1,k2,k3,k4⟩
  ·exact .inl ⟨k2,k1,k3⟩
  ·refine .inr (.inr (.inl ⟨k1,k2,k3,?_⟩))
   rw[gc b c d,gc b c a]
   exact(kX _ _).mpr k4
  ·refine .inr (.inl ⟨k1,k2,k3,?_⟩)
   rw[gc c a d,gc c a b]
   exact(kX _ _).mpr k4
  ·refine .inr (.inr (.inr ⟨k2,k1,k3,?_⟩))
   rw[gc a b d,gc a b c]
   exact(kX _ _).mpr k4
theorem sI(a b c d:Pl):fO b a c d↔fO a b c d:=⟨vA,vA⟩
theorem ny(i:Int):(i<0/\i.sign= -1)\/(i=0/\i.sign=0)\/(0<i/\i.sign=1):=by
 rcases abw i 0 with h|h|h
 ·exact .inl ⟨h,abH h⟩
 ·exact .inr (.inl ⟨h,by rw[h];rfl⟩)
 ·exact .inr (.inr ⟨h,aba h⟩)
theorem wR{p q:Pl}(h:p≠q):0<wQ p q:=by
 unfold wQ
 have h1:=kR (q.x-p.x)
 have h2:=kR (q.y-p.y)
 rcases abw ((q.x-p.x)*(q.x-p.x)+(q.y-p.y)*(q.y-p.y)) 0 with z|z|z
 ·omega
 ·exfalso
  have e1:(q.x-p.x)*(q.x-p.x)=0:=by omega
  have e2:(q.y-p.y)*(q.y-p.y)=0:=by omega
  have f1:q.x-p.x=0:=by rcases aaU.mp e1 with z|z<;>exact z
  have f2:q.y-p.y=0:=by rcases aaU.mp e2 with z|z<;>exact z
  exact h (by cases p;cases q;simp only at f1 f2;congr 1<;>omega)
 ·exact z
theorem mj{a b c d:Pl}(h:dep a b c d=0):rg a b c d=0:=by unfold rg;rw[h];simp
def WL(p q r s:Pl):Prop:=(0<tw p q r/\tw p q s<0)\/(tw p q r<0/\0<tw p q s)
theorem Pz{a b c d:Pl}(ht:tw a b c≠0)(h:dep a b c d≠0):rg a b c d≠0:=by
 unfold rg
 rcases ny (tw a b c)with⟨u,e⟩|⟨u,e⟩|⟨u,e⟩<;>rcases ny (dep a b c d)with⟨v,f⟩|⟨v,f⟩|⟨v,f⟩<;>rw[e,f]<;>first|decide|omega
theorem IP{a b c d:Pl}(ht:tw a b c≠0)(h:dep a b c d≠0):fO a b c d↔rg a b c d=1:=by
 constructor
 ·rintro(z|⟨z,_⟩)
  ·exact z
  ·exact absurd z (Pz ht h)
 ·exact .inl
def dt(a b x:Pl):Int:=(x.x-a.x)*(x.x-b.x)+(x.y-a.y)*(x.y-b.y)
theorem yR(a b x y:Pl):dep a b x y=dt a b x*tw a b y-dt a b y*tw a b x:=by unfold dep wQ tw dt;grind
theorem IQ(a b c d:Pl):fO a c b d↔fO a b c d:=by
 rw[<-fj a c b d,sI,<-fj,fj,fj]
theorem wU{a b c d:Pl}(h:0<tw a b c):rg a b c d=(dep a b c d).sign:=by unfold rg;rw[aba h,acO]
theorem n9{a b x y:Pl}(hx:0<tw a b x)(h:fO a b x y):0<=dep a b x y/\x≠y:=by
 unfold fO at h
 rw[wU hx]at h
 rcases ny (dep a b x y)with⟨v,f⟩|⟨v,f⟩|⟨v,f⟩<;>rw[f]at h
 ·omega
 ·refine⟨by omega,?_⟩
  rcases h with h|h
  ·cases h
  ·exact λe=>h.2.2.2.1 e.symm
 ·refine⟨by omega,λe=>?_⟩
  subst e
  rw[KP]at v
  omega
theorem nB{a b x y:Pl}(hx:0<tw a b x)(h:0<dep a b x y):fO a b x y:=by
 left;rw[wU hx,aba h]
theorem jJ{p q:Pl}(h:p≠q):aQ p q\/aQ q p:=by
 rcases bT p q with z|z|z
 ·exact .inl z
 ·exact absurd z h
 ·exact .inr z
end L3
namespace L3
end L3
namespace L3
end L3
namespace L3
open PySem PySem.Spec PyProof.Rows
section
variable{P:Program}{w:World}{A:Around}{E:Value->Shared->Prop}{s:Shared}{κ:KeyKind}{kd:SortKind}{z:Array Keyed}{t:SortSt}
structure Ask(P:Program)(w:World)(A:Around)(s:Shared)(κ:KeyKind)(kd:SortKind):Prop where
 lt:∀(E:Value->Shared->Prop) (x y:Value) (a b:κ.α) (R:Bool->Shared->Prop),κ.keyOf x=some a->κ.keyOf y=some b->R (κ.blt a b) s->wpAny (model P w) A (keyLt' kd x y) R E s
structure Mid(kd:SortKind)(z:Array Keyed)(t:SortSt):Prop where
 pm:(arrOf t).Perm z
 kd:kindOf t=kd
 ok:failedOf t=none
 no:pendingOf t= #[]
theorem Mid.sz(m:Mid kd z t):(arrOf t).size=z.size:=m.pm.size_eq
theorem Mid.put(m:Mid kd z t){y:Array Keyed}(h:y.Perm (arrOf t)):Mid kd z (setArr t y):=⟨h.trans m.pm,m.kd,m.ok,m.no⟩
theorem Mid.key(m:Mid kd z t)(hk:KeysOf κ z){i:Nat}(hi:i<z.size):∃x q,(arrOf t)[i]?=some (x,q)/\κ.keyOf x=some (KK κ (arrOf t) i):=by
 have hlt:i<(arrOf t).size:=m.sz▸hi
 have e:(arrOf t)[i]?=some (arrOf t)[i]:=getElem?_pos _ i hlt
 obtain⟨a,ha⟩:=hk (arrOf t)[i] ((Array.perm_iff_toList_perm.mp m.pm).mem_iff.mp (by simp))
 refine⟨(arrOf t)[i].1,(arrOf t)[i].2,e,?_⟩
 have ek:KK κ (arrOf t) i=a:=by unfold KK;rw[e];simp only[ha,Option.getD_some]
 rw[ek];exact ha
theorem sJ(hA:Ask P w A s κ kd)(m:Mid kd z t)(hk:KeysOf κ z){i j:Nat}(hi:i<z.size)(hj:j<z.size){R:Option Bool->SortSt->Prop}
 (h:R (some (κ.blt (KK κ (arrOf t) i) (KK κ (arrOf t) j))) t):wpS (model P w) A E s (ltAt' i j) R t:=by
 obtain⟨x,p,e1,k1⟩:=m.key hk hi
 obtain⟨y,q,e2,k2⟩:=m.key hk hj
 rw[ltAt'_eq]
 apply wpS_bind;apply wpS_get
 show wpS (model P w) A E s (elem' (arrOf t) i >>= λu=>elem' (arrOf t) j >>= λv=>lt' u v) R t
 rw[elem'_eq,elem'_eq,e1,e2]
 apply wpS_bind;apply wpS_pure
 apply wpS_bind;apply wpS_pure
 rw[lt'_eq]
 apply wpS_bind;apply wpS_get
 rw[m.kd]
 refine wpS_bind (wpS_lift (wpAny_attempt (hA.lt _ x y _ _ _ k1 k2 ⟨rfl,wpS_pure h⟩)))
theorem rise{y:Array Keyed}{n:Nat}(h:SortedToK κ y n)(hl:1<=n)(hn:κ.kle (KK κ y (n-1)) (KK κ y n)):SortedToK κ y (n+1):=by
 intro i j hij hj
 rcases acp j n with c|c
 ·exact h i j hij c
 ·obtain rfl:j=n:=by omega
  rcases acp i j with d|d
  ·exact KeyOrd.kle_trans (h i (j-1) (by omega) (by omega)) hn
  ·obtain rfl:i=j:=by omega
   exact KeyOrd.kle_refl _
theorem IS{y:Array Keyed}{n:Nat}(h:NonIncK κ y n)(hl:1<=n)(hn:κ.kle (KK κ y n) (KK κ y (n-1))):NonIncK κ y (n+1):=by
 intro i j hij hj
 rcases acp j n with c|c
 ·exact h i j hij c
 ·obtain rfl:j=n:=by omega
  rcases acp i j with d|d
  ·exact KeyOrd.kle_trans hn (h i (j-1) (by omega) (by omega))
  ·obtain rfl:i=j:=by omega
   exact KeyOrd.kle_refl _
theorem one_up(y:Array Keyed):SortedToK κ y 1:=by
 intro i j hij hj
 obtain rfl:i=j:=by omega
 exact KeyOrd.kle_refl _
theorem Mu(y:Array Keyed):NonIncK κ y 1:=by
 intro i j hij hj
 obtain rfl:i=j:=by omega
 exact KeyOrd.kle_refl _
theorem Cf(hA:Ask P w A s κ kd)(hk:KeysOf κ z)(m:Mid kd z t){a e:Nat}(he:e<=z.size)(h1:1<=a)(S7:a<=e)(up:SortedToK κ (arrOf t) a){R:AscSt->SortSt->Prop}
 (h:∀n,a<=n->n<=e->SortedToK κ (arrOf t) n->(n<e->κ.klt (KK κ (arrOf t) n) (KK κ (arrOf t) (n-1)))->R (none,n) t):wpS (model P w) A E s (ascLoop a e) R t:=by
 unfold ascLoop
 refine wpS_forRange (I:=λi b u=>b=(none,i)/\u=t/\SortedToK κ (arrOf t) i) (λi b u hi1 hi2 hI=>?_) (λb u hI=>?_) ⟨rfl,rfl,up⟩
 ·obtain⟨rfl,rfl,hup⟩:=hI
  apply wpS_bind
  apply sJ hA m hk (by show i<z.size;omega) (by show i-1<z.size;omega)
  show wpS (model P w) A E s (if κ.blt (KK κ (arrOf u) i) (KK κ (arrOf u) (i-1))=true then _ else _) _ u
  cases c:κ.blt (KK κ (arrOf u) i) (KK κ (arrOf u) (i-1))with
  |true=>rw[if_pos rfl];exact wpS_pure (h i hi1 (by omega) hup λ_=>c)
  |false=>rw[if_neg aaE];exact wpS_pure ⟨rfl,rfl,rise hup (by omega) c⟩
 ·obtain⟨rfl,rfl,hup⟩:=hI
  have em:max a e=e:=by omega
  rw[em]at hup ⊢
  exact h e S7 (aaz e) hup λc=>absurd c (abu e)
theorem yS(hA:Ask P w A s κ kd)(hk:KeysOf κ z)(m:Mid kd z t){n e:Nat}(he:e<=z.size)(h1:1<=n)(hne:n<=e)(dn:NonIncK κ (arrOf t) n){R:Option Nat->SortSt->Prop}
 (h:∀i u,Mid kd z u->1<=i->i<=e->SortedToK κ (arrOf u) i->R (some i) u):wpS (model P w) A E s (tail3 n e) R t:=by
 have hz:n<=(arrOf t).size:=by have:=m.sz;omega
 have m2:=m.put (mirror_perm (arrOf t) 0 n ((n-0) / 2))
 unfold tail3
 apply wpS_bind
 apply wpS_reverse
 apply wpS_bind
 refine Cf hA hk m2 he h1 hne (λi j hij hj=>?_) λi h2 h3 up _=>wpS_pure (h i _ m2 (by omega) h3 up)
 show κ.kle (KK κ (mirror (arrOf t) 0 n ((n-0) / 2)) i) (KK κ (mirror (arrOf t) 0 n ((n-0) / 2)) j)
 rw[KK_mirror hz i,KK_mirror hz j,if_pos ⟨abp i,by omega⟩,if_pos ⟨abp j,hj⟩]
 exact dn _ _ (by omega) (by omega)
def E9(κ:KeyKind)(y:Array Keyed)(n q:Nat):Prop:=q+1<=n/\∀i,n-(q+1)<=i->i<n->KK κ y i=KK κ y (n-1)
theorem Fb{y:Array Keyed}{n:Nat}(h:1<=n):E9 κ y n 0:=by
 refine⟨by omega,λi h1 h2=>?_⟩
 obtain rfl:i=n-1:=by omega
 rfl
theorem Fc(hA:Ask P w A s κ kd)(hk:KeysOf κ z)(m:Mid kd z t){a e:Nat}(he:e<=z.size)(h1:1<=a)(S7:a<=e)(dn:NonIncK κ (arrOf t) a){R:DescSt->SortSt->Prop}
 (h:∀n q u,Mid kd z u->a<=n->n<=e->NonIncK κ (arrOf u) n->E9 κ (arrOf u) n q->R (none,n,q) u):wpS (model P w) A E s (descLoop a e) R t:=by
 unfold descLoop
 refine wpS_forRange (I:=λi b u=>Mid kd z u/\NonIncK κ (arrOf u) i/\∃q,E9 κ (arrOf u) i q/\b=(none,i,q)) (λi b u hi1 hi2 hI=>?_) (λb u hI=>?_) ⟨m,dn,0,Fb h1,rfl⟩
 ·obtain⟨mu,hd,q,hq,rfl⟩:=hI
  have hz:i<=(arrOf u).size:=by have:=mu.sz;omega
  apply wpS_bind
  apply sJ hA mu hk (by show i<z.size;omega) (by show i-1<z.size;omega)
  show wpS (model P w) A E s (if κ.blt (KK κ (arrOf u) i) (KK κ (arrOf u) (i-1))=true then _ else _) _ u
  cases c:κ.blt (KK κ (arrOf u) i) (KK κ (arrOf u) (i-1))with
  |true=>
   rw[if_pos rfl]
   have lower:NonIncK κ (arrOf u) (i+1):=IS hd (by omega) (KeyOrd.kle_of_klt c)
   show wpS (model P w) A E s (if q>0 then _ else _) _ u
   by_cases d:q>0
   ·rw[if_pos d]
    apply wpS_bind
    apply wpS_reverse
    have same:=KK_mirror_equal (κ:=κ) hz hq.2
    refine wpS_pure ⟨mu.put (mirror_perm _ _ _ _),λx y hxy hy=>?_,0,Fb (by omega),rfl⟩
    show κ.kle (KK κ (mirror (arrOf u) (i-(q+1)) i _) y) (KK κ (mirror (arrOf u) (i-(q+1)) i _) x)
    rw[same,same]
    exact lower x y hxy hy
   ·rw[if_neg d]
    exact wpS_pure ⟨mu,lower,0,Fb (by omega),rfl⟩
  |false=>
   rw[if_neg aaE]
   apply wpS_bind
   apply sJ hA mu hk (by show i-1<z.size;omega) (by show i<z.size;omega)
   show wpS (model P w) A E s (if κ.blt (KK κ (arrOf u) (i-1)) (KK κ (arrOf u) i)=true then _ else _) _ u
   cases d:κ.blt (KK κ (arrOf u) (i-1)) (KK κ (arrOf u) i)with
   |true=>rw[if_pos rfl];exact wpS_pure (h i q u mu hi1 (by omega) hd hq)
   |false=>
    rw[if_neg aaE]
    have alike:KK κ (arrOf u) i=KK κ (arrOf u) (i-1):=κ.total _ _ c d
    refine wpS_pure ⟨mu,IS hd (by omega) d,q+1,⟨by have:=hq.1;omega,λx h2 h3=>?_⟩,rfl⟩
    rw[Nat.add_sub_cancel]
    rcases acp x i with g|g
    ·rw[alike];exact hq.2 x (by omega) g
    ·obtain rfl:x=i:=by omega
     rfl
 ·obtain⟨mu,hd,q,hq,rfl⟩:=hI
  have em:max a e=e:=by omega
  rw[em]at hd hq ⊢
  exact h e q u mu S7 (aaz e) hd hq
theorem yU(hA:Ask P w A s κ kd)(hk:KeysOf κ z)(m:Mid kd z t){n e:Nat}(he:e<=z.size)(hne:n+1<=e)(dn:NonIncK κ (arrOf t) (n+1)){R:Option Nat->SortSt->Prop}
 (h:∀i u,Mid kd z u->1<=i->i<=e->SortedToK κ (arrOf u) i->R (some i) u):wpS (model P w) A E s (descPart n e) R t:=by
 unfold descPart
 apply wpS_bind
 refine wpS_lift (wpAny_rule ⟨rfl,?_⟩)
 apply wpS_bind
 refine Fc hA hk m he (by omega) hne dn λi q u mu h2 h3 hd hq=>?_
 have hz:i<=(arrOf u).size:=by have:=mu.sz;omega
 show wpS (model P w) A E s (if q>0 then _ else _) R u
 by_cases d:q>0
 ·rw[if_pos d]
  apply wpS_bind
  apply wpS_reverse
  have same:=KK_mirror_equal (κ:=κ) hz hq.2
  refine yS hA hk (mu.put (mirror_perm _ _ _ _)) he (by omega) h3 (λx y hxy hy=>?_) h
  show κ.kle (KK κ (mirror (arrOf u) (i-(q+1)) i _) y) (KK κ (mirror (arrOf u) (i-(q+1)) i _) x)
  rw[same,same]
  exact hd x y hxy hy
 ·rw[if_neg d]
  exact yS hA hk mu he (by omega) h3 hd h
theorem Du(hA:Ask P w A s κ kd)(hk:KeysOf κ z)(m:Mid kd z t){e:Nat}(he:e<=z.size)(h1:1<=e){R:Option Nat->SortSt->Prop}
 (h:∀i u,Mid kd z u->1<=i->i<=e->SortedToK κ (arrOf u) i->R (some i) u):wpS (model P w) A E s (countRun' 0 e) R t:=by
 rw[countRun0_eq]
 apply wpS_bind
 refine Cf hA hk m he (aaz 1) h1 (one_up _) λn h2 h3 up stop=>?_
 show wpS (model P w) A E s (if(n==e)=true then _ else _) R t
 by_cases c:n=e
 ·rw[if_pos (beq_iff_eq.mpr c)]
  exact wpS_pure (h n t m h2 h3 up)
 ·rw[if_neg λq=>c (beq_iff_eq.mp q)]
  have less:=stop (by omega)
  by_cases d:n>1
  ·rw[if_pos d]
   apply wpS_bind
   apply sJ hA m hk (by omega) (by show n-1<z.size;omega)
   show wpS (model P w) A E s (if κ.blt (KK κ (arrOf t) 0) (KK κ (arrOf t) (n-1))=true then _ else _) R t
   cases g:κ.blt (KK κ (arrOf t) 0) (KK κ (arrOf t) (n-1))with
   |true=>rw[if_pos rfl];exact wpS_pure (h n t m h2 h3 up)
   |false=>
    rw[if_neg aaE]
    have hz:n<=(arrOf t).size:=by have:=m.sz;omega
    have one:∀i,i<n->KK κ (arrOf t) i=KK κ (arrOf t) (n-1):=λi hi=>
     KeyOrd.kle_antisymm (up i (n-1) (by omega) (by omega)) (KeyOrd.kle_trans (show κ.kle (KK κ (arrOf t) (n-1)) (KK κ (arrOf t) 0)from g) (up 0 i (abp i) hi))
    have same:=KK_mirror_equal (κ:=κ) hz (λi (_:0<=i) hi=>one i hi)
    apply wpS_bind
    apply wpS_reverse
    refine yU hA hk (m.put (mirror_perm _ _ _ _)) he (by omega) (IS (λx y hxy hy=>?_) (by omega) ?_) h
    ·show κ.kle (KK κ (mirror (arrOf t) 0 n _) y) (KK κ (mirror (arrOf t) 0 n _) x)
     rw[same,same,one x (by omega),one y hy]
     exact KeyOrd.kle_refl _
    ·show κ.kle (KK κ (mirror (arrOf t) 0 n _) n) (KK κ (mirror (arrOf t) 0 n _) (n-1))
     rw[same,same]
     exact KeyOrd.kle_of_klt less
  ·rw[if_neg d]
   obtain rfl:n=1:=by omega
   exact yU hA hk m he (by omega) (IS (Mu _) (aaz 1) (KeyOrd.kle_of_klt less)) h
structure Cut(κ:KeyKind)(y:Array Keyed)(k l r:Nat):Prop where
 lr:l<=r
 rk:r<=k
 lo:∀i,i<l->κ.kle (KK κ y i) (KK κ y k)
 hi:∀i,r<=i->i<k->κ.klt (KK κ y k) (KK κ y i)
theorem Cut.put{y:Array Keyed}{k l:Nat}(c:Cut κ y k l l)(hk:k<y.size)(up:SortedToK κ y k):SortedToK κ (bubble y k (k-l)) (k+1):=by
 have hl:=c.rk
 have at':∀i,KK κ (bubble y k (k-l)) i=if i=l then KK κ y k else if l<i/\i<=k then KK κ y (i-1)else KK κ y i:=λi=>by
  have:=KK_bubble (κ:=κ) hk (Nat.sub_le k l) i
  have e:k-(k-l)=l:=by omega
  rw[e]at this
  exact this
 intro i j hij hj
 rw[at' i,at' j]
 by_cases i1:i=l
 ·rw[if_pos i1]
  by_cases j1:j=l
  ·rw[if_pos j1];exact KeyOrd.kle_refl _
  ·rw[if_neg j1,if_pos ⟨by omega,by omega⟩]
   exact KeyOrd.kle_of_klt (c.hi _ (by omega) (by omega))
 ·rw[if_neg i1]
  by_cases i2:l<i/\i<=k
  ·rw[if_pos i2,if_neg (by omega),if_pos ⟨by omega,by omega⟩]
   exact up _ _ (by omega) (by omega)
  ·rw[if_neg i2]
   by_cases j1:j=l
   ·rw[if_pos j1];exact c.lo i (by omega)
   ·rw[if_neg j1]
    by_cases j2:l<j/\j<=k
    ·rw[if_pos j2];exact up _ _ (by omega) (by omega)
    ·rw[if_neg j2];exact up _ _ hij (by omega)
theorem IT(hA:Ask P w A s κ kd)(hk:KeysOf κ z)(m:Mid kd z t){n o:Nat}(hn:n<=z.size)(ho:o<=n)(up:SortedToK κ (arrOf t) o){R:Bool->SortSt->Prop}
 (h:∀u,Mid kd z u->SortedToK κ (arrOf u) n->R true u):wpS (model P w) A E s (binarySort' 0 n o) R t:=by
 rw[binarySort'_eq]
 simp only[Nat.zero_add]
 apply wpS_bind
 refine wpS_mono (wpS_forRange (I:=λk b u=>b=(none,())/\Mid kd z u/\(k<=n->SortedToK κ (arrOf u) k)/\(n<k->SortedToK κ (arrOf u) n)) (Q:=λb u=>b=(none,())/\Mid kd z u/\SortedToK κ (arrOf u) n)
  (λk b u hk1 hk2 hI=>?_) (λb u hI=>?_) ⟨rfl,m,λc=>?_,λc=>?_⟩) λb u hI=>?_
 ·obtain⟨rfl,mu,up1,_⟩:=hI
  have S8:=up1 (by omega)
  apply wpS_bind
  refine wpS_mono (wpS_forRange (I:=λx b v=>v=u/\∃l r,b=(none,l,r)/\Cut κ (arrOf u) k l r/\r-l<=k-x) (Q:=λb v=>v=u/\∃l,b=(none,l,l)/\Cut κ (arrOf u) k l l)
   (λx b v _ hx hI=>?_) (λb v hI=>?_) ⟨rfl,0,k,rfl,⟨abp k,aaz k,λi hi=>absurd hi (adi i),λi h2 h3=>absurd h3 (acu.mpr h2)⟩,aaz _⟩) λb v hI=>?_
  ·obtain⟨rfl,l,r,rfl,c,hw⟩:=hI
   show wpS (model P w) A E s (if l>=r then _ else _) _ v
   by_cases d:l>=r
   ·rw[if_pos d]
    obtain rfl:l=r:=Nat.le_antisymm c.lr d
    exact wpS_pure ⟨rfl,l,rfl,c⟩
   ·rw[if_neg d]
    have hrk:=c.rk
    apply wpS_bind
    apply sJ hA mu hk (by show k<z.size;omega) (by show(l+r) / 2<z.size;omega)
    show wpS (model P w) A E s (if κ.blt (KK κ (arrOf v) k) (KK κ (arrOf v) ((l+r) / 2))=true then _ else _) _ v
    cases g:κ.blt (KK κ (arrOf v) k) (KK κ (arrOf v) ((l+r) / 2))with
    |true=>
     rw[if_pos rfl]
     exact wpS_pure ⟨rfl,l,(l+r) / 2,rfl,⟨by omega,by omega,c.lo,λi h2 h3=>KeyOrd.klt_of_klt_of_kle g (S8 _ i h2 h3)⟩,by omega⟩
    |false=>
     rw[if_neg aaE]
     exact wpS_pure ⟨rfl,(l+r) / 2+1,r,rfl,⟨by omega,by omega,λi h2=>KeyOrd.kle_trans (S8 i _ (by omega) (by omega)) g,c.hi⟩,by omega⟩
  ·obtain⟨rfl,l,r,rfl,c,hw⟩:=hI
   have e:max 0 k=k:=by omega
   rw[e]at hw
   obtain rfl:l=r:=by have:=c.lr;omega
   exact⟨rfl,l,rfl,c⟩
  ·obtain⟨rfl,l,rfl,c⟩:=hI
   show wpS (model P w) A E s (moveDown' k l >>= λ_=>pure (ForInStep.yield (none,()))) _ v
   rw[moveDown'_eq]
   apply wpS_bind
   apply wpS_modify
   have hz:k<(arrOf v).size:=by have:=mu.sz;omega
   exact wpS_pure ⟨rfl,mu.put (bubble_perm _ _ _),λ_=>c.put hz S8,λq=>by omega⟩
 ·obtain⟨rfl,mu,up1,WM⟩:=hI
  refine⟨rfl,mu,?_⟩
  rcases acp n (max (max o 1) n)with c|c
  ·exact WM c
  ·have e:max (max o 1) n=n:=by omega
   rw[e]at up1
   exact up1 (aaz n)
 ·rcases adB o with q|q
  ·have e:max o 1=1:=by omega
   rw[e];exact one_up _
  ·have e:max o 1=o:=by omega
   rw[e];exact up
 ·have e:n=0:=by omega
  subst e
  exact λi j _ hj=>absurd hj (adi j)
 ·obtain⟨rfl,mu,up'⟩:=hI
  exact wpS_pure (h u mu up')
structure Dv(κ:KeyKind)(z:Array Keyed)(t:SortSt):Prop where
 pm:(arrOf t).Perm z
 ok:failedOf t=none
 one:pendingOf t= #[(0,z.size,0)]
 up:SortedToK κ (arrOf t) z.size
theorem Mid.fin(m:Mid kd z t)(up:SortedToK κ (arrOf t) z.size):Dv κ z (setPending t ((pendingOf t).push (0,z.size,0))):=
 ⟨m.pm,m.ok,by show(pendingOf t).push (0,z.size,0)= #[(0,z.size,0)];rw[m.no];rfl,up⟩
theorem IU(hA:Ask P w A s κ kd)(hk:KeysOf κ z)(m:Mid kd z t)(h2:2<=z.size)(h64:z.size<64){R:Unit->SortSt->Prop}(h:∀u,Dv κ z u->R () u):wpS (model P w) A E s sortRuns' R t:=by
 have low:minRun' z.size z.size 0=z.size:=by
  obtain⟨k,hk⟩:∃k,z.size=k+1:=⟨z.size-1,by omega⟩
  have:minRun' (k+1) z.size 0=z.size+0:=by rw[minRun'_succ,if_pos h64]
  rw[<-hk]at this
  exact this
 rw[sortRuns'_eq]
 apply wpS_bind;apply wpS_get
 dsimp only
 simp only[m.sz,low]
 apply wpS_bind
 refine wpS_mono (wpS_forRange (I:=λx b u=>if x=0 then b=(none,0)/\Mid kd z u else b=(none,z.size)/\Dv κ z u) (Q:=λb u=>b=(none,z.size)/\Dv κ z u) (λx b u _ hx hI=>?_) (λb u hI=>?_) ?_) λb u hI=>?_
 ·by_cases c:x=0
  ·subst c
   obtain⟨rfl,mu⟩:b=(none,0)/\Mid kd z u:=by simpa using hI
   dsimp only
   rw[if_neg (by omega:¬(0>=z.size))]
   simp only[adE,acE,Nat.zero_add]
   apply wpS_bind
   refine Du hA hk mu (aaz _) (by omega) λi v mv h3 h4 up=>?_
   dsimp only
   by_cases d:i<z.size
   ·rw[if_pos d]
    apply wpS_bind
    refine wpS_lift (wpAny_rule ⟨rfl,?_⟩)
    apply wpS_bind
    refine IT hA hk mv (aaz _) h4 up λv' Vb up'=>?_
    simp only[abk,aaD,if_false]
    apply wpS_bind;apply wpS_get
    have e:(pendingOf v').back?=none:=by rw[Vb.no];rfl
    rw[e]
    dsimp only
    apply wpS_bind
    apply wpS_modify
    exact wpS_pure ⟨rfl,Vb.fin up'⟩
   ·rw[if_neg d]
    obtain rfl:i=z.size:=by omega
    apply wpS_bind;apply wpS_get
    have e:(pendingOf v).back?=none:=by rw[mv.no];rfl
    rw[e]
    dsimp only
    apply wpS_bind
    apply wpS_modify
    exact wpS_pure ⟨rfl,mv.fin up⟩
  ·obtain⟨rfl,fu⟩:b=(none,z.size)/\Dv κ z u:=by simpa[c]using hI
   dsimp only
   rw[if_pos (aaz z.size)]
   exact wpS_pure ⟨rfl,fu⟩
 ·have c:max 0 z.size≠0:=by omega
  rw[if_neg c]at hI
  exact hI
 ·exact⟨rfl,m⟩
 ·obtain⟨rfl,fu⟩:=hI
  dsimp only
  apply wpS_bind
  refine wpS_mono (wpS_forRange (I:=λ_ b v=>b=(none,())/\v=u) (Q:=λb v=>b=(none,())/\v=u) (λx b v _ _ hI=>?_) (λ_ _ hI=>hI) ⟨rfl,rfl⟩) λb v hI=>?_
  ·obtain⟨rfl,rfl⟩:=hI
   apply wpS_bind;apply wpS_get
   rw[if_pos (by rw[fu.one];exact aaz 1)]
   exact wpS_pure ⟨rfl,rfl⟩
  ·obtain⟨rfl,rfl⟩:=hI
   exact wpS_pure (h v fu)
end
end L3
namespace L3
open PySem PySem.Spec PyProof.Rows
section
variable{P:Program}{w:World}{A:Around}{E:Value->Shared->Prop}{s:Shared}{κ:KeyKind}{kd:SortKind}
def kY(h h':Heap):Prop:= ∀b o,h.get? b=some o->h'.get? b=some o
theorem IV{a:Addr}{vs:List Value}{n:Nat}{R:Fin->Shared->Prop}(ho:s.heap.get? a=some (seqObj "list" vs.toArray n))(hk:KeysOf κ (pairsOf vs))
 (hd:∀(t:Shared) (E:Value->Shared->Prop) (Q:SortKind->Shared->Prop),(∀b o,b≠a->s.heap.get? b=some o->t.heap.get? b=some o)->2<=vs.length->Q kd t->wpAny (model P w) A (keyKind' vs.toArray) Q E t)
 (hA:∀t:Shared,(∀b o,b≠a->s.heap.get? b=some o->t.heap.get? b=some o)->Ask P w A t κ kd)(h64:vs.length<64)
 (h:∀y:Array Keyed,y.Perm (pairsOf vs)->SortedToK κ y (pairsOf vs).size->R (.done (.ret .none)) {s with heap:=sortedHeap s.heap a vs (y.map (·.2))}) :
 wpAny (model P w) A (Builtin.«list.sort» ⟨[.ref a],[]⟩) R E s:=by
 have la:a<s.heap.objs.size:=Heap.lt_size ho
 have lz:vs.length<=sizeLine:=by rw[sizeLine_eq];omega
 rw[list_sort_plain]
 apply wpAny_bind;apply listItems_at ho rfl
 refine wpAny_bind (listUpdate_at ho rfl ?_ (hsz:=by simp only[aax];omega) (hsz2:=abp _))
 obtain⟨e,h1⟩:∃e,(s.heap.update a (Obj.mapSeq λ_=> #[])).get? a=some (seqObj "list" #[] e):=⟨_,get?_update_seq ho λ_=> #[]⟩
 apply wpAny_bind;apply seqEpoch_at h1 rfl
 refine wpAny_bind (wpAny_newTuple (hsz:=lz) ?_)
 refine wpAny_bind (wpAny_newList (hsz:=abp _) ?_)
 apply wpAny_holding
 show wpAny (model P w) A _ R E {s with heap:=((s.heap.update a (Obj.mapSeq λ_=> #[])).push (seqObj "tuple" vs.toArray 0)).push (seqObj "list" #[] 0)}
 generalize hh:((s.heap.update a (Obj.mapSeq λ_=> #[])).push (seqObj "tuple" vs.toArray 0)).push (seqObj "list" #[] 0)=g
 have g1:g.get? a=some (seqObj "list" #[] e):=by
  rw[<-hh,Heap.get?_push_ne _ _ _ (by rw[size_push',Heap.size_update];exact aaN (abx la)),Heap.get?_push_ne _ _ _ (by rw[Heap.size_update];exact aaN la)]
  exact h1
 have g2:∀b o,b≠a->s.heap.get? b=some o->g.get? b=some o:=λb o hb q=>by
  have lb:=Heap.lt_size q
  rw[<-hh,Heap.get?_push_ne _ _ _ (by rw[size_push',Heap.size_update];exact aaN (abx lb)),Heap.get?_push_ne _ _ _ (by rw[Heap.size_update];exact aaN lb),Heap.get?_update_ne _ _ _ _ hb]
  exact q
 have fin:∀y:Array Keyed,y.Perm (pairsOf vs)->SortedToK κ y (pairsOf vs).size->R (.done (.ret .none)) {s with heap:=g.update a (Obj.mapSeq λ_=>y.map (·.2))}:=λy h2 h3=>by rw[<-hh];exact h y h2 h3
 dsimp only
 have zv:vs.toArray.size=vs.length:=by simp
 have room:∀y:Array Keyed,y.Perm (pairsOf vs)->(y.map (·.2)).size<=sizeLine+1:=λy q=>by
  rw[Array.size_map,q.size_eq,pairsOf_size,sizeLine_eq];omega
 by_cases c:vs.toArray.size<2
 ·rw[if_pos c,if_pos c]
  apply wpAny_bind;apply wpAny_pure
  rw[StateT.run_pure]
  apply wpAny_bind;apply wpAny_pure
  dsimp only
  apply wpAny_bind;apply seqEpoch_at g1 rfl
  apply wpAny_bind
  refine listUpdate_at g1 rfl ?_ (hsz2:=room (pairsOf vs) (Array.Perm.refl _))
  simp only[bne_self_eq_false,aaD,if_false]
  refine wpAny_pure (fin (pairsOf vs) (Array.Perm.refl _) λi j hij hj=>?_)
  obtain rfl:i=j:=by rw[pairsOf_size]at hj;omega
  exact KeyOrd.kle_refl _
 ·rw[if_neg c,if_neg c]
  apply wpAny_bind
  refine hd _ _ _ g2 (by omega) ?_
  apply wpAny_bind
  refine wpAny_mono (IU (z:=pairsOf vs) (t:=SortSt.mk' kd (pairsOf vs) #[] 7 none) (R:=λ_ u=>Dv κ (pairsOf vs) u) (hA _ g2) hk ⟨Array.Perm.refl _,rfl,rfl,rfl⟩ (by rw[pairsOf_size];omega) (by rw[pairsOf_size];exact h64) λu q=>q) (λr s' q=>?_) λ_ _ q=>q
  obtain⟨⟨⟩,u⟩:=r
  obtain⟨rfl,fu⟩:=q
  dsimp only
  apply wpAny_bind;apply seqEpoch_at g1 rfl
  apply wpAny_bind
  refine listUpdate_at g1 rfl ?_ (hsz2:=room (arrOf u) fu.pm)
  rw[fu.ok]
  simp only[bne_self_eq_false,aaD,if_false]
  exact wpAny_pure (fin (arrOf u) fu.pm fu.up)
theorem vB{l:Addr}{vs:List Value}{Q:Value->Shared->Prop}(hl:s.heap.IsList l vs.toArray)(hk:KeysOf κ (pairsOf vs))
 (hd:∀(t:Shared) (E:Value->Shared->Prop) (Q:SortKind->Shared->Prop),kY s.heap t.heap->2<=vs.length->Q kd t->wpAny (model P w) A.in1.in1 (keyKind' vs.toArray) Q E t)
 (hA:∀t:Shared,kY s.heap t.heap->Ask P w A.in1.in1 t κ kd)(h64:vs.length<64)
 (h:∀y:Array Keyed,y.Perm (pairsOf vs)->SortedToK κ y (pairsOf vs).size->Q (.ref (s.heap.objs.size+1)) {s with heap:=sortedAll s.heap vs (y.map (·.2))}) :
 wpAny (model P w) A (call (.builtin "sorted") [.ref l]) Q E s:=by
 refine Calls.call_function_entry kind_sorted plain_sorted entry_sorted (args_sorted1 _) ?_
 unfold Builtin.«sorted»
 refine wpAny_bind (m:=checkCount "sorted" 1 1 _) (wpAny_pure ?_)
 have lz:vs.length<=sizeLine:=by rw[sizeLine_eq];omega
 refine wpAny_bind (collect_list hl (hsz:=lz) ?_)
 refine wpAny_bind (wpAny_newList (hsz:=lz) ?_)
 show wpAny (model P w) A.in1 _ _ _ {s with heap:=((s.heap.push (seqObj "list" #[] 0)).update s.heap.objs.size (Obj.mapSeq (· ++vs.toArray))).push (seqObj "list" vs.toArray 0)}
 generalize hg:(s.heap.push (seqObj "list" #[] 0)).update s.heap.objs.size (Obj.mapSeq (· ++vs.toArray))=g
 have gz:g.objs.size=s.heap.objs.size+1:=by rw[<-hg,Heap.size_update,size_push']
 have gk:kY s.heap g:=λb o q=>by
  have lb:=Heap.lt_size q
  rw[<-hg,Heap.get?_update_ne _ _ _ _ (aaN lb),Heap.get?_push_ne _ _ _ (aaN lb)]
  exact q
 have fin:∀y:Array Keyed,y.Perm (pairsOf vs)->SortedToK κ y (pairsOf vs).size->Q (.ref (s.heap.objs.size+1)) {s with heap:=sortedHeap (g.push (seqObj "list" vs.toArray 0)) (s.heap.objs.size+1) vs (y.map (·.2))}:=λy h1 h2=>by rw[<-hg];exact h y h1 h2
 rw[gz]
 have at':(g.push (seqObj "list" vs.toArray 0)).get? (s.heap.objs.size+1)=some (seqObj "list" vs.toArray 0):=by rw[<-gz];exact Heap.get?_push_size _ rfl
 have Rr:∀b o,s.heap.get? b=some o->b≠s.heap.objs.size+1/\(g.push (seqObj "list" vs.toArray 0)).get? b=some o:=λb o q=>by
  have lb:=Heap.lt_size q
  have lc:=aaN (abx lb)
  refine⟨lc,?_⟩
  rw[Heap.get?_push_ne _ _ _ (by rw[gz];exact lc)]
  exact gk b o q
 apply wpAny_bind;apply wpAny_holding
 refine wpAny_call_entry slot_list_sort ⟨_,at',rfl⟩ entry_list_sort (IV (κ:=κ) (kd:=kd) at' hk (λt E Q hg=>hd t E Q λb o q=>hg b o (Rr b o q).1 (Rr b o q).2) (λt hg=>hA t λb o q=>hg b o (Rr b o q).1 (Rr b o q).2) h64 λy h1 h2=>⟨_,rfl,?_⟩) (args_list_sort _)
 exact wpAny_pure ⟨_,rfl,fin y h1 h2⟩
end
end L3
namespace L3
open PySem PySem.Spec PyProof.Rows
def mW(h:Heap)(v:Value)(p:Pl):Prop:= ∃(a:Addr) (o:Obj) (t u:Tok) (n:Nat),v= .ref a/\h.get? a=some o/\o.cls= .type "tuple"/\o.data= .seq #[.int p.x t,.int p.y u] n
theorem mW.grow{h h':Heap}{v:Value}{p:Pl}(a:mW h v p)(g:kY h h'):mW h' v p:=by
 obtain⟨b,o,t,u,n,h1,h2,h3,h4⟩:=a
 exact⟨b,o,t,u,n,h1,g _ _ h2,h3,h4⟩
theorem mW.inj{h:Heap}{v:Value}{p q:Pl}(a:mW h v p)(b:mW h v q):p=q:=by
 obtain⟨a1,o,t,u,n,rfl,h2,h3,h4⟩:=a
 obtain⟨a2,o',t',u',n',e,k2,k3,k4⟩:=b
 injection e with e
 subst e
 rw[h2]at k2
 injection k2 with k2
 subst k2
 rw[h4]at k4
 injection k4 with k4 _
 cases p;cases q
 simp at k4
 obtain⟨⟨e1,_⟩,e2,_⟩:=k4
 rw[e1,e2]
open Classical in
noncomputable def Ep(h:Heap):KeyKind where
 α:=Pl
 blt p q:=decide (aQ p q)
 irrefl p:=decide_eq_false (bG p)
 trans p q r a b:=decide_eq_true (aV (of_decide_eq_true a) (of_decide_eq_true b))
 negTrans p q r a:=by
  have a:=of_decide_eq_true a
  rcases bT p q with c|c|c
  ·exact .inl (decide_eq_true c)
  ·subst c;exact .inr (decide_eq_true a)
  ·exact .inr (decide_eq_true (aV c a))
 total p q a b:=by
  rcases bT p q with c|c|c
  ·exact absurd c (of_decide_eq_false a)
  ·exact c
  ·exact absurd c (of_decide_eq_false b)
 keyOf v:=if e:∃p,mW h v p then some e.choose else none
 dflt:=⟨0,0⟩
open Classical in
theorem Cg{h:Heap}{v:Value}{p:Pl}(a:mW h v p):(Ep h).keyOf v=some p:=by
 have e:∃p,mW h v p:=⟨p,a⟩
 show(if e:∃p,mW h v p then some e.choose else none)=some p
 rw[dif_pos e,mW.inj e.choose_spec a]
open Classical in
theorem Fd{h:Heap}{v:Value}{p:Pl}(a:(Ep h).keyOf v=some p):mW h v p:=by
 have a:(if e:∃p,mW h v p then some e.choose else none)=some p:=a
 by_cases e:∃p,mW h v p
 ·rw[dif_pos e]at a
  have:=e.choose_spec
  rwa [Option.some.inj a]at this
 ·rw[dif_neg e]at a;cases a
section
variable{P:Program}{w:World}{A:Around}{E:Value->Shared->Prop}{s:Shared}
theorem vC(f:Bool)(v u:Value):keyLt' (tuples' f) v u=(do
 let a <-Builtin.List.listItems v;let b <-Builtin.List.listItems u
 for ((c,d),k) in (a.toList.zip b.toList).zipIdx do {if !(<-eqBool c d)then return <-oneLt' (f && k==0) c d}
 return a.size<b.size):=rfl
theorem sL{b:Bool}{i j:Int}{t u:Tok}{Q:Bool->Shared->Prop}(h:Q (decide (i<j)) s):wpAny (model P w) A (oneLt' b (.int i t) (.int j u)) Q E s:=by
 cases b with
 |true=>exact oneLt_int h
 |false=>
  rw[oneLt'_eq]
  simp only[aaD,if_false]
  apply wpAny_bind
  refine(lt_int ?_:wpAny (model P w) A (compareOp .Lt (.int i t) (.int j u)) _ E s)
  exact wpAny_truthy_bool h
theorem PB{t:Shared}{x y:Value}{p q:Pl}{f:Bool}{R:Bool->Shared->Prop}(kx:mW t.heap x p)(ky:mW t.heap y q)(hR:R (decide (aQ p q)) t):wpAny (model P w) A (keyLt' (tuples' f) x y) R E t:=by
 obtain⟨a,o,t1,u1,n1,rfl,h2,h3,h4⟩:=kx
 obtain⟨b,o',t2,u2,n2,rfl,k2,k3,k4⟩:=ky
 rw[vC]
 apply wpAny_bind;apply listItems_at h2 h4
 apply wpAny_bind;apply listItems_at k2 k4
 simp only[abL,acn,ac3,adk,ab5,acq,bind_assoc]
 apply wpAny_bind
 apply wpAny_eqBool_int
 by_cases ex:p.x=q.x
 ·have e:(p.x==q.x)=true:=beq_iff_eq.mpr ex
  rw[e]
  simp only[abk,aaD,if_false,pure_bind,bind_assoc]
  apply wpAny_bind
  apply wpAny_eqBool_int
  by_cases ey:p.y=q.y
  ·have e:(p.y==q.y)=true:=beq_iff_eq.mpr ey
   rw[e]
   simp only[abk,aaD,if_false,pure_bind]
   have en:decide (aQ p q)=false:=decide_eq_false (by unfold aQ;omega)
   rw[en]at hR
   exact wpAny_pure hR
  ·have e:(p.y==q.y)=false:=beq_eq_false_iff_ne.mpr ey
   rw[e]
   simp only[abS,if_true,bind_assoc,pure_bind]
   apply wpAny_bind
   apply sL
   have en:decide (aQ p q)=decide (p.y<q.y):=by rw[decide_eq_decide];unfold aQ;omega
   rw[en]at hR
   exact wpAny_pure hR
 ·have e:(p.x==q.x)=false:=beq_eq_false_iff_ne.mpr ex
  rw[e]
  simp only[abS,if_true,bind_assoc,pure_bind]
  apply wpAny_bind
  apply sL
  have en:decide (aQ p q)=decide (p.x<q.x):=by rw[decide_eq_decide];unfold aQ;omega
  rw[en]at hR
  exact wpAny_pure hR
theorem Mv{h:Heap}{t:Shared}(g:kY h t.heap)(f:Bool):Ask P w A t (Ep h) (tuples' f):=
 ⟨λE x y p q R kx ky hR=>PB ((Fd kx).grow g) ((Fd ky).grow g) hR⟩
theorem oh{β:Type}{f:Value->Sem β}(R:Value->β->Prop):∀(vs:List Value) (Q:List β->Shared->Prop),(∀v∈vs,∀(Q:β->Shared->Prop),(∀b,R v b->Q b s)->wpAny (model P w) A (f v) Q E s)->
 (∀bs:List β,Paired R vs bs->Q bs s)->wpAny (model P w) A (vs.mapM f) Q E s
 |[],Q,_,h=>by rw[List.mapM_nil];exact wpAny_pure (h [] .nil)
 |v::vs,Q,hv,h=>by
  rw[List.mapM_cons]
  apply wpAny_bind
  refine hv v (aaG ..) _ λb rb=>?_
  apply wpAny_bind
  refine oh R vs _ (λu hu=>hv u (aar _ hu)) λbs WN=>?_
  exact wpAny_pure (h (b::bs) (.cons rb WN))
theorem vD(v:Value):firstOfTuple' v=(typeOf v >>= λt=>if t != .type "tuple" then pure none else Builtin.List.listItems v >>= λa=>pure a[0]?):=rfl
theorem IW{vs:List Value}(h2:1<=vs.length)(hv:∀v∈vs,∃p,mW s.heap v p){Q:SortKind->Shared->Prop}(h:Q (tuples' true) s):wpAny (model P w) A (keyKind' vs.toArray) Q E s:=by
 rw[keyKind'_eq,acs]
 simp only[bind_map_left]
 apply wpAny_bind
 refine oh (λ_ b=>∃i t,b=some (Value.int i t)) vs _ (λv hm Q hQ=>?_) λbs hb=>?_
 ·obtain⟨p,a,o,t,u,n,rfl,k2,k3,k4⟩:=hv v hm
  rw[vD]
  apply wpAny_bind
  refine wpAny_typeOf (T:= "tuple") ⟨o,k2,k3⟩ ?_
  have e:(Value.type "tuple" !=Value.type "tuple")=false:=by decide
  rw[e]
  simp only[aaD,if_false,pure_bind]
  apply wpAny_bind;apply listItems_at k2 k4
  exact wpAny_pure (hQ _ ⟨p.x,t,rfl⟩)
 ·have all:∀(vs:List Value) (bs:List (Option Value)),Paired (λ_ b=>∃i t,b=some (Value.int i t)) vs bs->bs.length=vs.length/\(∀b∈bs,∃i t,b=some (Value.int i t)):=by
   intro vs
   induction vs with
   |nil=>intro bs q;cases q;exact⟨rfl,λ_ z=>by cases z⟩
   |cons v vs ih=>
    intro bs q
    cases q with
    |cons q1 q2=>
     obtain⟨l,m⟩:=ih _ q2
     refine⟨by simp[l],λb hb=>?_⟩
     rcases aat.mp hb with rfl|hb
     ·exact q1
     ·exact m b hb
  obtain⟨hl,hm⟩:=all vs bs hb
  have c:(bs.toArray.all λb=>b.isSome)=true:=by
   simp only[acz,abh]
   intro b hb
   obtain⟨i,t,rfl⟩:=hm b hb
   rfl
  rw[if_pos c]
  apply wpAny_bind;apply wpAny_rule
  rw[oneTypeOnly'_eq]
  have ef:bs.toArray.filterMap id=(bs.filterMap id).toArray:=by simp
  rw[ef,acs]
  simp only[bind_map_left,bind_assoc]
  apply wpAny_bind
  refine oh (λ_ b=>b=Value.type "int") _ _ (λv hv' Q hQ=>?_) λcs hc=>?_
  ·obtain⟨b,hb1,hb2⟩:=acm.mp hv'
   obtain⟨i,t,rfl⟩:=hm b hb1
   have hb2:some (Value.int i t)=some v:=hb2
   cases hb2
   exact wpAny_typeOf (T:= "int") (typeIs_int s i t) (hQ _ rfl)
  ·have len:1<=(bs.filterMap id).length:=by
    cases bs with
    |nil=>simp at hl;omega
    |cons b bs=>
     obtain⟨i,t,rfl⟩:=hm b (aaG ..)
     simp
   have all2:∀(us cs:List Value),Paired (λ_ b=>b=Value.type "int") us cs->cs=us.map λ_=>Value.type "int" :=by
    intro us
    induction us with
    |nil=>intro cs q;cases q;rfl
    |cons u us ih=>intro cs q;cases q with|cons q1 q2=>rw[q1,ih _ q2];rfl
   rw[all2 _ _ hc]
   generalize bs.filterMap id=us at len
   cases us with
   |nil=>simp at len
   |cons u us=>
    have e0:(List.map (λ_=>Value.type "int") (u::us)).toArray[0]?=some (Value.type "int"):=by simp
    rw[e0]
    have e1:((List.map (λ_=>Value.type "int") (u::us)).toArray.all λx=>x==Value.type "int")=true:=by
     simp only[acz,acD,abh]
     intro _ _;rfl
    simp only[e1,if_true,pure_bind]
    exact wpAny_pure h
end
end L3
namespace L3
open PySem PySem.Spec PyProof.Rows
section
variable{P:Program}{w:World}{A:Around}{E:Value->Shared->Prop}{s:Shared}
theorem Mw{h0:Heap}{I S:Addr}{fp wr:List Addr}{n:Nat}{Pr:Nat->Value->Prop}{St:Nat->Heap->Prop}{bt:Nat->Nat->Bool}{R:Result->Shared->Prop}(W:Walks P w A.in1 I fp wr n Pr St)
 (hc:∀(i j:Nat) (vi vj:Value) (t:Shared) (Q:Value->Shared->Prop) (E:Value->Shared->Prop),kY h0 t.heap->Pr i vi->Pr j vj->Q (.bool (bt i j)) t->wpAny (model P w) A.in1 (richCompare .Lt vi vj) Q E t)
 (hS:S∉fp)(NW:∀b o,h0.get? b=some o->b∉wr/\b≠S):∀(m k:Nat) (t:Shared) (vb:Value) (c:Nat),n-(k+1)=m->k+1<=n->kY h0 t.heap->St (k+1) t.heap->Pr (argBest bt k) vb->
 t.heap.get? S=some {cls:= .type "list",dict:=none,data:= .seq #[vb,vb] c,slots:= #[]}->
 (∀v h' tk,Pr (argBest bt (n-1)) v->(∀b o,b∉wr->b≠S->t.heap.get? b=some o->h'.get? b=some o)->R (.ok (.ret v)) {t with heap:=h',toks:=tk})->
 codeAny (model P w) A (.builtin "min.loop" ⟨[.ref I,.none,.ref S],[]⟩) R t:=by
 have Sw:S∉wr:=λq=>hS (W.sub _ q)
 have nm:(toString "min" ++toString ".loop" :String)= "min.loop" :=by decide
 intro m
 induction m with
 |zero=>
  intro k t vb c e1 e2 gr st pb hs hR
  have ek:k+1=n:=by omega
  refine codeAny_builtin F.entry_min_loop ?_
  rw[Around.under_plainId F.plain_min_loop]
  show wpAny (model P w) A.in1 (seqItems? (.ref S) >>= _) _ _ t
  apply wpAny_bind;apply wpAny_seqItems hs rfl
  show wpAny (model P w) A.in1 (tryCatch (pyNext (.ref I)) _ >>= _) _ _ t
  apply wpAny_bind;apply wpAny_tryCatch
  refine W.done t _ _ (ek▸st) λh' tk kp=>?_
  have hs2:=kp S _ Sw hs
  show wpAny (model P w) A.in1 (updateSeq S (λ_=> #[]) >>= _) _ _ _
  apply wpAny_bind
  refine wpAny_updateSeq hs2 rfl ?_
  apply wpAny_bind;apply wpAny_letGo;apply wpAny_pure
  exact hR vb _ tk (by rw[<-ek];exact pb) λb o q1 q2 q=>(Heap.get?_update_other _ _ (Ne.symm q2)).trans (kp b o q1 q)
 |succ m ih=>
  intro k t vb c e1 e2 gr st pb hs hR
  refine codeAny_builtin F.entry_min_loop ?_
  rw[Around.under_plainId F.plain_min_loop]
  show wpAny (model P w) A.in1 (seqItems? (.ref S) >>= _) _ _ t
  apply wpAny_bind;apply wpAny_seqItems hs rfl
  show wpAny (model P w) A.in1 (tryCatch (pyNext (.ref I)) _ >>= _) _ _ t
  apply wpAny_bind;apply wpAny_tryCatch
  refine W.item (k+1) t _ _ (by omega) st λv h' tk pv st2 kp=>?_
  have hs2:=kp S _ Sw hs
  have PC:kY h0 h':=λb o q=>kp b o (NW b o q).1 (gr b o q)
  show wpAny (model P w) A.in1 (tryCatch (holding [v,v] (richCompare .Lt v vb >>= _)) _ >>= _) _ _ _
  apply wpAny_bind;apply wpAny_tryCatch;apply wpAny_holding;apply wpAny_bind
  refine hc (k+1) (argBest bt k) v vb _ _ _ PC pv pb ?_
  apply wpAny_bind;apply wpAny_holding;apply wpAny_truthy_bool
  apply wpAny_bind;apply wpAny_letGo;apply wpAny_pure
  cases d:bt (k+1) (argBest bt k)with
  |true=>
   rw[if_pos rfl]
   apply wpAny_bind
   refine wpAny_updateSeq hs2 rfl ?_
   apply wpAny_bind;apply wpAny_letGo
   rw[nm]
   refine wpAny_pure ⟨plainId_quiet F.plain_min_loop _,ih (k+1) _ v _ (by omega) (by omega) (λb o q=>(Heap.get?_update_other _ _ (Ne.symm (NW b o q).2)).trans (PC b o q)) (W.frame _ _ _ st2 λb q1 o q=>(Heap.get?_update_other _ _ (λz:S=b=>hS (z▸q1))).trans q) (by simp only[argBest,d,if_true];exact pv) (Heap.get?_update_self _ hs2 rfl) λv2 h2 PD p2 Mx=>?_⟩
   exact hR v2 h2 PD p2 λb o q1 q2 q=>Mx b o q1 q2 ((Heap.get?_update_other _ _ (Ne.symm q2)).trans (kp b o q1 q))
  |false=>
   rw[if_neg aaE]
   apply wpAny_bind;apply wpAny_letGo
   rw[nm]
   refine wpAny_pure ⟨plainId_quiet F.plain_min_loop _,ih (k+1) _ vb c (by omega) (by omega) PC st2 (by simp only[argBest,d,aaD,if_false];exact pb) hs2 λv2 h2 PD p2 Mx=>?_⟩
   exact hR v2 h2 PD p2 λb o q1 q2 q=>Mx b o q1 q2 (kp b o q1 q)
theorem Dw{h0:Heap}{I S:Addr}{fp wr:List Addr}{n:Nat}{Pr:Nat->Value->Prop}{St:Nat->Heap->Prop}{bt:Nat->Nat->Bool}{R:Result->Shared->Prop}{t:Shared}{c:Nat}(W:Walks P w A.in1 I fp wr n Pr St)
 (hc:∀(i j:Nat) (vi vj:Value) (t:Shared) (Q:Value->Shared->Prop) (E:Value->Shared->Prop),kY h0 t.heap->Pr i vi->Pr j vj->Q (.bool (bt i j)) t->wpAny (model P w) A.in1 (richCompare .Lt vi vj) Q E t)
 (hS:S∉fp)(NW:∀b o,h0.get? b=some o->b∉wr/\b≠S)(hn:0<n)(gr:kY h0 t.heap)(st:St 0 t.heap)(hs:t.heap.get? S=some {cls:= .type "list",dict:=none,data:= .seq #[] c,slots:= #[]})
 (hR:∀v h' tk,Pr (argBest bt (n-1)) v->(∀b o,b∉wr->b≠S->t.heap.get? b=some o->h'.get? b=some o)->R (.ok (.ret v)) {t with heap:=h',toks:=tk}) :
 codeAny (model P w) A (.builtin "min.loop" ⟨[.ref I,.none,.ref S],[]⟩) R t:=by
 have Sw:S∉wr:=λq=>hS (W.sub _ q)
 have nm:(toString "min" ++toString ".loop" :String)= "min.loop" :=by decide
 refine codeAny_builtin F.entry_min_loop ?_
 rw[Around.under_plainId F.plain_min_loop]
 show wpAny (model P w) A.in1 (seqItems? (.ref S) >>= _) _ _ t
 apply wpAny_bind;apply wpAny_seqItems hs rfl
 show wpAny (model P w) A.in1 (tryCatch (pyNext (.ref I)) _ >>= _) _ _ t
 apply wpAny_bind;apply wpAny_tryCatch
 refine W.item 0 t _ _ hn st λv h' tk pv st2 kp=>?_
 have hs2:=kp S _ Sw hs
 have PC:kY h0 h':=λb o q=>kp b o (NW b o q).1 (gr b o q)
 show wpAny (model P w) A.in1 (updateSeq S (λ_=> #[v,v]) >>= _) _ _ _
 apply wpAny_bind
 refine wpAny_updateSeq hs2 rfl ?_
 rw[nm]
 refine wpAny_pure ⟨plainId_quiet F.plain_min_loop _,Mw W hc hS NW _ 0 _ v _ rfl hn (λb o q=>(Heap.get?_update_other _ _ (Ne.symm (NW b o q).2)).trans (PC b o q)) (W.frame _ _ _ st2 λb q1 o q=>(Heap.get?_update_other _ _ (λz:S=b=>hS (z▸q1))).trans q) pv (Heap.get?_update_self _ hs2 rfl) λv2 h2 PD p2 Mx=>?_⟩
 exact hR v2 h2 PD p2 λb o q1 q2 q=>Mx b o q1 q2 ((Heap.get?_update_other _ _ (Ne.symm q2)).trans (kp b o q1 q))
theorem Fe{vs:List Value}{bt:Nat->Nat->Bool}{Q:Value->Shared->Prop}(ha:argsOk "min" ⟨vs,[]⟩)(h2:2<=vs.length)(hz:vs.length<64)(hh:A.handled=none)
 (hc:∀(i j:Nat) (vi vj:Value) (t:Shared) (Q:Value->Shared->Prop) (E:Value->Shared->Prop),kY s.heap t.heap->vs[i]?=some vi->vs[j]?=some vj->Q (.bool (bt i j)) t->wpAny (model P w) A.in1 (richCompare .Lt vi vj) Q E t)
 (h:∀v h' tk,vs[argBest bt (vs.length-1)]?=some v->kY s.heap h'->Q v {s with heap:=h',toks:=tk}):wpAny (model P w) A (call (.builtin "min") vs) Q E s:=by
 have nm:(toString "min" ++toString ".loop" :String)= "min.loop" :=by decide
 have lz:vs.length<=sizeLine:=by rw[sizeLine_eq];omega
 refine call_function_tree F.kind_min F.plain_min F.entry_min ha ?_
 match vs,h2 with
 |v1::v2::rest,_=>
  show wpAny (model P w) A.in1 (Builtin.Builtins.bindParams "min" ["key","default"] 0 ⟨[],[]⟩ >>= _) _ _ s
  refine wpAny_bind (wpAny_of_eq (show Builtin.Builtins.bindParams "min" ["key","default"] 0 ⟨[],[]⟩=pure [none,none]from rfl) ?_)
  show wpAny (model P w) A.in1 (newTuple (v1::v2::rest) >>= _) _ _ s
  refine wpAny_bind (wpAny_newTuple (hsz:=lz) ?_)
  have Ff:(s.heap.push {cls:= .type "tuple",data:= .seq (v1::v2::rest).toArray}).objs.size=s.heap.objs.size+1:=Heap.size_push ..
  have tp:(s.heap.push {cls:= .type "tuple",data:= .seq (v1::v2::rest).toArray}).IsTuple s.heap.objs.size (v1::v2::rest).toArray:=⟨_,Heap.get?_push_size _ rfl,rfl,0,rfl⟩
  refine wpAny_bind (wpAny_pyIter_tuple tp ?_)
  generalize hg:s.heap.push {cls:= .type "tuple",data:= .seq (v1::v2::rest).toArray}=g at Ff tp
  have k0:kY s.heap g:=λb o q=>by rw[<-hg];exact Heap.get?_push_of_some _ q
  apply wpAny_bind
  refine wpAny_newObj_type ?_
  have S9:(g.push {cls:= .type "tuple_iterator",data:= .fields #[.ref s.heap.objs.size,.int 0 0]}).objs.size=s.heap.objs.size+2:=by rw[Heap.size_push,Ff]
  rw[nm]
  refine wpAny_pure ⟨plainId_quiet F.plain_min_loop _,Dw (h0:=s.heap) (Walks.tuple (A:=A.in1) hh _ s.heap.objs.size (by rw[Ff];exact aaN (acA _)) (v1::v2::rest).toArray) (bt:=bt) (λi j vi vj t Q E g1 p1 p2 q=>hc i j vi vj t Q E g1 (by simpa using p1) (by simpa using p2) q) ?_ (λb o q=>?_) (by simp) (λb o q=>Heap.get?_push_of_some _ (Heap.get?_push_of_some _ (k0 b o q))) ⟨⟨_,Heap.get?_push_of_some _ (Heap.get?_push_size _ rfl),rfl,rfl⟩,(tp.push _).push _⟩ (Heap.get?_push_size _ rfl) λv h' tk p kp=>?_⟩
  ·intro q
   rw[Ff,S9]at q
   rcases aat.mp q with q|q
   ·exact absurd q (by intro z;exact absurd (Nat.succ.inj z) (Nat.succ_ne_self _))
   ·have q:=aav.mp q
    exact absurd q (by intro z;have:s.heap.objs.size+2=s.heap.objs.size:=z;omega)
  ·have lb:=Heap.lt_size q
   rw[Ff,S9]
   refine⟨λz=>?_,λz=>?_⟩
   ·have z:=aav.mp z
    rw[z]at lb
    exact absurd lb (acu.mpr (abU _))
   ·rw[z]at lb
    exact absurd lb (acu.mpr (abi _ 2))
  ·refine h v h' tk (by simpa using p) λb o q=>?_
   have lb:=Heap.lt_size q
   refine kp b o (λz=>?_) (λz=>?_) (Heap.get?_push_of_some _ (Heap.get?_push_of_some _ (k0 b o q)))
   ·have z:=aav.mp z
    rw[z,Ff]at lb
    exact absurd lb (acu.mpr (abU _))
   ·rw[z,S9]at lb
    exact absurd lb (acu.mpr (abi _ 2))
end
end L3
namespace HT
open PySem PyProof.Rows
section
open PySem.SeqAt
open PySem.AutoSeq1 (wpAny_loadPart')
open PySem.MeetsSeq PySem.MeetsSeq2 PySem.MeetsSeq3
end
section
variable{prog:Program}{w:World}{A:Around}{E:Value->Shared->Prop}{s:Shared}
end
end HT
namespace L3
open PySem PySem.Spec PyProof.Rows L2
section
variable{X:Cx}{pos:Pos}
def My(t:pC)(g:sr)(tb:ia):ia:=λD ρ M=>t ρ M λxs M1=>xs.length<=sizeLine/\bM (runFor (λ_=>True) g tb D xs ρ M1)
theorem IX{tg:Expr}{body:List Stmt}{g:sr}{tb:ia}{es:List Expr}{t:pC}{E6:Pos}(hp:PassesOwn (model X.prog X.w) X.A X.env X.xe)(hc:X.calm=true)(hi:yz X es t)(hg:Dq X tg g)(hb:iS X body tb)
 (hs:∀x,foldedSetIterable (.List es E6) X.env x=pure x:=by intro _;rfl):vm X (.For tg (.List es E6) body [] pos) (My t g tb):=EU (pB hp hc (rj (AD hi.dn)) hg.dn hb.dn hs) λσ H ρ M D r q=>kJ r q λvs H' ds M' f dv r' ⟨hl,q⟩=>by
 refine⟨by rw[<-dv.length];exact hl,λp hp=>⟨p,rfl,⟨vs,gR.of bu⟩,?_⟩⟩
 have fr:Fr M' H' M' (upd H' p (.lst vs)):=Fr.new hp λ_ _=>rfl
 have r2:=r'.go fr (r'.mem.new hp)
 exact jx wN (f.trans fr) r2 (λM1 H1 f1 _ _=>⟨vs,(f1 p _ (r'.mem.free hp) bu).1,aF.mono ((Ext.new hp).trans (f1.ext r2.mem)) _ _ dv⟩) q.out
theorem oi(p q:Pl):HT.lexLt [p.x,p.y] [q.x,q.y]=decide (aQ p q):=by
 rw[HT.nh,HT.nh,HT.mP]
 by_cases ex:p.x=q.x
 ·rw[if_pos ex]
  by_cases ey:p.y=q.y
  ·rw[if_pos ey];exact(decide_eq_false (by unfold aQ;omega)).symm
  ·rw[if_neg ey,decide_eq_decide];unfold aQ;omega
 ·rw[if_neg ex,decide_eq_decide];unfold aQ;omega
theorem Fg{P:Program}{w:World}{K:PySem.W.Frag}{H:Hp}{h:Heap}{p:Pl}{x:V}{u:Value}(ok:iR P w H h)(d:Dat K H p.d x)(r:RelV x u):mW h u p:=by
 obtain⟨a,xs,rfl,ha,hx⟩:=br.mp d
 obtain rfl:u=Value.ref a:=r
 obtain⟨its,rv,⟨o,h1,h2,n,h3⟩,_⟩:=eF ok ha
 obtain⟨v1,v2,rfl,d1,d2⟩:=kM hx
 obtain rfl:=aX.mp d1
 obtain rfl:=aX.mp d2
 obtain⟨u1,u2,rfl,⟨t1,rfl⟩,⟨t2,rfl⟩⟩:=vals2 rv
 exact⟨a,o,t1,t2,n,rfl,h1,h2,h3⟩
theorem mW.tup{h:Heap}{v:Value}{p:Pl}(a:mW h v p):∃(l:Addr) (its:Array Value),v= .ref l/\IsTup h l its/\IntsAre its.toList [p.x,p.y]:=by
 obtain⟨b,o,t,u,n,h1,h2,h3,h4⟩:=a
 exact⟨b,_,h1,⟨o,h2,h3,n,h4⟩,.cons _ _ (.cons _ _ .nil)⟩
def dX(h:Heap):List Value->List Pl->Prop:=Paired (mW h)
theorem oj{P:Program}{w:World}{K:PySem.W.Frag}{H:Hp}{h:Heap}(ok:iR P w H h):∀{ps:List Pl} {xs:List V} {us:List Value},aF K H (ps.map Pl.d) xs->Vals xs us->dX h us ps
 |[],xs,us,d,r=>by rw[aM.mp d]at r;cases r;exact .nil
 |p::ps,xs,us,d,r=>by
  obtain⟨v,vs,rfl,d1,d2⟩:=aC.mp d
  cases r with
  |cons r rr=>exact .cons (Fg ok d1 r) (oj ok d2 rr)
theorem dX.get{h:Heap}:∀{us:List Value} {ps:List Pl} {i:Nat} {u:Value},dX h us ps->us[i]?=some u->∃p,ps[i]?=some p/\mW h u p
 |_,_,i,u,.nil,e=>by simp at e
 |_,_,i,u,.cons a r,e=>by
  cases i with
  |zero=>simp at e;subst e;exact⟨_,rfl,a⟩
  |succ i=>exact dX.get (i:=i) r (by simpa using e)
theorem Vals.len{xs:List V}{us:List Value}(r:Vals xs us):us.length=xs.length:=(Vals.length r).symm
def bestOf(lt:Pl->Pl->Bool)(ps:List Pl)(i j:Nat):Bool:=lt (ps.getD i ⟨0,0⟩) (ps.getD j ⟨0,0⟩)
def PF(lt:Pl->Pl->Bool):List D->Mp->DK->Prop:=λds M Q=>∃ps:List Pl,ds=ps.map Pl.d/\2<=ps.length/\ps.length<=4/\Q (ps.getD (argBest (bestOf lt ps) (ps.length-1)) ⟨0,0⟩).d M
theorem sM(bt:Nat->Nat->Bool):∀n,argBest bt n<=n
 |0=>aaz 0
 |n+1=>by
  unfold argBest
  split
  ·exact aaz _
  ·exact Nat.le_succ_of_le (sM bt n)
theorem IY(a b:Value):argsOk "min" ⟨[a,b],[]⟩:=by unfold argsOk;kernel_rfl
theorem IZ(a b c:Value):argsOk "min" ⟨[a,b,c],[]⟩:=by unfold argsOk;kernel_rfl
theorem I0(a b c d:Value):argsOk "min" ⟨[a,b,c,d],[]⟩:=by unfold argsOk;kernel_rfl
theorem Mz:∀(vs:List Value),2<=vs.length->vs.length<=4->argsOk "min" ⟨vs,[]⟩:=by
 intro vs h2 h4
 cases vs with
 |nil=>exact absurd h2 (by decide)
 |cons a vs=>
  cases vs with
  |nil=>exact absurd h2 (by simp)
  |cons b vs=>
   cases vs with
   |nil=>exact IY a b
   |cons c vs=>
    cases vs with
    |nil=>exact IZ a b c
    |cons d vs=>
     cases vs with
     |nil=>exact I0 a b c d
     |cons e vs=>exact absurd h4 (by simp only[aaX];omega)
theorem MA(hu:X.A.units+64<cLine)(hc:X.calm=true):Call3 X (.builtin "min") (PF λp q=>decide (aQ p q)):=by
 constructor
 intro pins s σ H M xs ds us Q I rm rs dx ⟨ps,e,h2,h4,q⟩
 subst e
 have hl:us.length=ps.length:=by rw[Vals.len rs,<-dx.length,aas]
 have hp:=oj I.hok dx rs
 refine Fe (Mz us (by omega) (by omega)) (by omega) (by omega) (I.ok.hd hc) (bt:=bestOf (λp q=>decide (aQ p q)) ps) (λi j vi vj t Q E g e1 e2 q=>?_) λv h' tk e g=>?_
 ·obtain⟨p1,f1,a1⟩:=hp.get e1
  obtain⟨p2,f2,a2⟩:=hp.get e2
  obtain⟨l1,i1,rfl,t1,n1⟩:=(a1.grow g).tup
  obtain⟨l2,i2,rfl,t2,n2⟩:=(a2.grow g).tup
  have eb:bestOf (λp q=>decide (aQ p q)) ps i j=decide (aQ p1 p2):=by unfold bestOf;rw[aaZ,aaZ,f1,f2];rfl
  rw[eb,<-oi]at q
  exact(HT.ni t1 t2 n1 n2 (by show X.A.units+1<cLine;omega) q:wpAny (model X.prog X.w) X.A.in1 (compareOp .Lt (.ref l1) (.ref l2)) Q E t)
 ·rw[hl]at e
  obtain⟨x,ex,rx⟩:∃x,xs[argBest (bestOf (λp q=>decide (aQ p q)) ps) (ps.length-1)]?=some x/\RelV x v:=by
   have lt:argBest (bestOf (λp q=>decide (aQ p q)) ps) (ps.length-1)<xs.length:=by
    have:=sM (bestOf (λp q=>decide (aQ p q)) ps) (ps.length-1)
    rw[<-dx.length,aas];omega
   obtain⟨u,eu,ru⟩:=Vals.get rs (aau lt)
   rw[e]at eu
   cases eu
   exact⟨_,aau lt,ru⟩
  obtain⟨d,ed,dd⟩:=dx.back ex
  rw[aa0]at ed
  have eq:d=(ps.getD (argBest (bestOf (λp q=>decide (aQ p q)) ps) (ps.length-1)) ⟨0,0⟩).d:=by
   rw[aaZ]
   cases z:ps[argBest (bestOf (λp q=>decide (aQ p q)) ps) (ps.length-1)]? with
   |none=>rw[z]at ed;cases ed
   |some p=>rw[z]at ed;cases ed;rfl
  subst eq
  exact⟨x,H,I.kept g,rx,aH rm dd q⟩
noncomputable def wV(h:Heap)(v:Value):Pl:=Option.getD (α:=Pl) ((Ep h).keyOf v) ⟨0,0⟩
theorem Ci{h:Heap}{v:Value}{p:Pl}(a:mW h v p):wV h v=p:=by
 unfold wV
 have e:(Ep h).keyOf v=some p:=Cg a
 exact congrArg (λo=>Option.getD (α:=Pl) o ⟨0,0⟩) e
theorem dX.keys{h:Heap}:∀{us:List Value} {ps:List Pl},dX h us ps->us.map (wV h)=ps
 |_,_,.nil=>rfl
 |_,_,.cons a r=>by rw[aaV,Ci a,dX.keys r]
theorem dX.mem{h:Heap}:∀{us:List Value} {ps:List Pl} {v:Value},dX h us ps->v∈us->∃p,mW h v p
 |_,_,v,.nil,m=>by cases m
 |_,_,v,.cons a r,m=>by
  rcases aat.mp m with rfl|m
  ·exact⟨_,a⟩
  ·exact dX.mem r m
theorem dO{α:Type}:∀{vs:List α} {p:α ×α},p∈vs.zip vs->p.1=p.2/\p.1∈vs
 |[],p,m=>by simp at m
 |v::vs,p,m=>by
  rw[abL]at m
  rcases aat.mp m with rfl|m
  ·exact⟨rfl,aaG ..⟩
  ·exact⟨(dO m).1,aar _ (dO m).2⟩
theorem uI{P:Program}{w:World}{A:Around}{E:Value->Shared->Prop}{s:Shared}{l:Addr}{vs:List Value}{ps:List Pl}{Q:Value->Shared->Prop}(hl:s.heap.IsList l vs.toArray)(hv:dX s.heap vs ps)(h64:vs.length<64)
 (h:∀(out:List Value) (qs:List Pl),(∀v∈out,v∈vs)->qs=out.map (wV s.heap)->qs.Perm ps->qs.Pairwise (λp q=> ¬aQ q p)->Q (.ref (s.heap.objs.size+1)) {s with heap:=sortedAll s.heap vs out.toArray}) :
 wpAny (model P w) A (call (.builtin "sorted") [.ref l]) Q E s:=by
 have hk:KeysOf (Ep s.heap) (pairsOf vs):=λp hp=>by
  rw[pairsOf_toList]at hp
  obtain⟨q,a⟩:=hv.mem (dO hp).2
  exact⟨q,Cg a⟩
 refine vB (κ:=Ep s.heap) (kd:=tuples' true) hl hk (λt E Q g h2 q=>IW (by omega) (λv m=>?_) q) (λt g=>Mv g true) h64 λy hp hs=>?_
 ·obtain⟨p,a⟩:=hv.mem m
  exact⟨p,a.grow g⟩
 ·have pl:y.toList.Perm (vs.zip vs):=by rw[<-pairsOf_toList];exact Array.perm_iff_toList_perm.mp hp
  have same:∀p∈y.toList,p.1=p.2/\p.1∈vs:=λp m=>dO (pl.mem_iff.mp m)
  have eo:y.map (·.2)=(y.toList.map (·.2)).toArray:=by rw[<-Array.toList_map,Array.toArray_toList]
  rw[eo]
  refine h (y.toList.map (·.2)) _ (λv m=>?_) rfl ?_ ?_
  ·obtain⟨p,m2,rfl⟩:=aaI.mp m
   rw[<-(same p m2).1];exact(same p m2).2
  ·have q:=(pl.map (λp=>p.2)).map (wV s.heap)
   have e:(vs.zip vs).map (λp=>p.2)=vs:=adL (aaz _)
   rw[e,hv.keys]at q
   exact q
  ·rw[acR]
   intro i j hi hj hij
   have li:i<y.size:=by simpa using hi
   have lj:j<y.size:=by simpa using hj
   have q:=hs i j (aco hij) (by rw[<-hp.size_eq];exact lj)
   have key:∀k (hk:k<y.size),KK (Ep s.heap) y k=wV s.heap y[k].2:=λk hk=>by
    unfold KK
    rw[getElem?_pos y k hk]
    show Option.getD (α:=Pl) ((Ep s.heap).keyOf y[k].1) ⟨0,0⟩=_
    rw[(same y[k] (by simp)).1]
    rfl
   have q:(Ep s.heap).blt (KK (Ep s.heap) y j) (KK (Ep s.heap) y i)=false:=q
   rw[key i li,key j lj]at q
   have q:decide (aQ (wV s.heap y[j].2) (wV s.heap y[i].2))=false:=q
   simpa using of_decide_eq_false q
def Ja:List D->Mp->DK->Prop:=λds M Q=>∃(l:Addr) (ps:List Pl),ds=[.ref l]/\M l=some (.lst (ps.map Pl.d))/\ps.length<64/\∀(p:Addr) (qs:List Pl),M p=none->qs.Perm ps->qs.Pairwise (λp q=> ¬aQ q p)->Q (.ref p) (ay M p (.lst (qs.map Pl.d)))
theorem vE{K:PySem.W.Frag}{H:Hp}{h:Heap}{P:Program}{w:World}(ok:iR P w H h){ps:List Pl}{zs:List V}{vs:List Value}(d:aF K H (ps.map Pl.d) zs)(r:Vals zs vs):∀(out:List Value),(∀v∈out,v∈vs)->
 ∃ws,Vals ws out/\aF K H ((out.map (wV h)).map Pl.d) ws
 |[],_=>⟨[],.nil,aM.mpr rfl⟩
 |v::out,m=>by
  obtain⟨ws,h1,h2⟩:=vE ok d r out λu hu=>m u (aar _ hu)
  have one:∀{ps:List Pl} {zs:List V} {vs:List Value},aF K H (ps.map Pl.d) zs->Vals zs vs->v∈vs->∃(p:Pl) (x:V),RelV x v/\Dat K H p.d x:=by
   intro ps
   induction ps with
   |nil=>intro zs vs d r m;rw[aM.mp d]at r;cases r;cases m
   |cons p ps ih=>
    intro zs vs d r m
    obtain⟨x,xs,rfl,d1,d2⟩:=aC.mp d
    cases r with
    |cons r1 r2=>
     rcases aat.mp m with rfl|m
     ·exact⟨p,x,r1,d1⟩
     ·exact ih d2 r2 m
  obtain⟨p,x,rx,dx⟩:=one d r (m v (aaG ..))
  refine⟨x::ws,.cons rx h1,?_⟩
  rw[aaV,aaV,Ci (Fg ok dx rx)]
  exact aC.mpr ⟨x,ws,rfl,dx,h2⟩
theorem sO:Call3 X (.builtin "sorted") Ja:=by
 constructor
 intro pins s σ H M xs ds us Q I rm rs dx ⟨l,ps,e,hM,h64,q⟩
 subst e
 obtain⟨v,rfl,hv⟩:=sj dx
 obtain rfl:=aA.mp hv
 obtain⟨u,rfl,r1⟩:=vals1 rs
 obtain rfl:u=Value.ref l:=r1
 obtain⟨zs,hH,hz⟩:=rm.lst hM
 obtain⟨its,rv,pl,hsz⟩:=I.list (gR.of (K:=X.K) hH)
 have hl:its.length=ps.length:=by rw[Vals.len rv,<-hz.length,aas]
 refine uI pl.isList (oj I.hok hz rv) (by omega) λout qs hm eq hp hs=>?_
 obtain⟨ws,w1,w2⟩:=vE I.hok hz rv out hm
 rw[<-eq]at w2
 obtain⟨n,hn⟩:=sortedAll_at s.heap its out.toArray
 have fr:H (s.heap.objs.size+1)=none:=I.hok.fresh (abU _)
 have zw:ws.length<=sizeLine:=by
  rw[<-w2.length,aas,hp.length_eq,sizeLine_eq];omega
 refine⟨.ref (s.heap.objs.size+1),upd H (s.heap.objs.size+1) (.lst ws),I.laid (t':=s.toks) (λb o e=>sortedAll_old e) (abU _) ⟨zw,out,n,w1,hn⟩,rfl,.ref _,ay M _ (.lst (qs.map Pl.d)),Fr.new fr λ_ hb=>aK hb,aA.mpr rfl,rm.newL fr w2,q _ _ (rm.free fr) hp hs⟩
end
end L3
local macro_rules| `(tactic|walk_at "sm")=> `(tactic|first|assumption|exact L3.Sm.sign _|exact L3.Sm.zero|exact L3.Sm.one|exact L3.Sm.two|((with_reducible apply L3.Sm.mul)<;>walk_at "sm")|((with_reducible apply L3.Sm.sub)<;>walk_at "sm")|((with_reducible apply L3.Sm.add)<;>walk_at "sm")|((with_reducible apply L3.Sm.neg)<;>walk_at "sm")|((with_reducible apply L3.Sm.abs)<;>walk_at "sm")|((with_reducible apply L3.Sm.emod);(first|omega|decide +kernel);walk_at "sm")|exact L3.Sm.lit _)
local macro_rules| `(tactic|walk_at "mulok")=> `(tactic|(apply L3.MulOk.of;walk_at "sm";walk_at "sm";first|omega|decide +kernel))
local macro_rules| `(tactic|walk_at "rd1")=> `(tactic|first|refine⟨_,rfl,?_⟩|refine⟨_,_,rfl,rfl,?_⟩|refine⟨_,_,_,Or.inl rfl,rfl,rfl,?_⟩|(refine⟨?side,?_⟩;(case side=>first|walk_at "mulok"|(simp only[aaX,abW];decide)|(show(0:Int)<_;first|omega|(dsimp only;omega)|decide +kernel)|(show(0:Int)<=_;first|omega|(dsimp only;omega))|exact⟨by decide +kernel,by decide +kernel,by decide +kernel⟩|exact⟨by decide +kernel,_,L3.Sm.lit _,by decide +kernel⟩|(left;walk_at "mulok")|exact Or.inr (Or.inr ⟨by decide,by decide⟩)|decide))|refine⟨rfl,?_⟩|refine⟨trivial,?_⟩|refine⟨_,Or.inl rfl,rfl,?_⟩|refine⟨_,_,rfl,Or.inl rfl,?_⟩|refine⟨_,_,_,_,rfl,L3.E4.int _,L3.nZ,?_⟩|refine⟨_,_,_,_,rfl,L3.E4.tup _,L3.nZ,?_⟩|refine⟨_,_,_,_,rfl,L3.E4.bl _,L3.nZ,?_⟩|refine⟨_,_,rfl,?_⟩|refine⟨_,_,_,rfl,?_⟩|refine⟨_,_,_,_,rfl,?_⟩)
local macro_rules| `(tactic|walk_at "rd")=> `(tactic|repeat walk_at "rd1")
local macro_rules| `(tactic|walk_at "smle")=> `(tactic|(apply L3.Sm.le;walk_at "sm";first|omega|decide +kernel))
local macro_rules| `(tactic|walk_at "om")=> `(tactic|first|omega|(dsimp only;omega))
namespace L3
open PySem L2
theorem Cj{a b c:Pl}(ha:a.Ok 140)(hb:b.Ok 140)(hc:c.Ok 140):Sm 290 (tw a b c):=by
 obtain⟨a1,a2⟩:=ha
 obtain⟨b1,b2⟩:=hb
 obtain⟨c1,c2⟩:=hc
 unfold tw
 walk_at "smle"
theorem AO{p q:Pl}(hp:p.Ok 140)(hq:q.Ok 140):Sm 290 (wQ p q):=by
 obtain⟨p1,p2⟩:=hp
 obtain⟨q1,q2⟩:=hq
 unfold wQ
 walk_at "smle"
theorem Tc(a b c d:Pl):inD d.d [a.d,b.d,c.d]=decide (d=a\/d=b\/d=c):=by
 unfold inD
 rw[acy,acy,acy,List.any_nil,nt,nt,nt,ady,aa8]
 simp only[adN,decide_eq_true_eq]
 grind
theorem om{α:Type}{qs:List α}(h:qs.length=3):∃u v w,qs=[u,v,w]:=by
 match qs,h with
 |[u,v,w],_=>exact⟨u,v,w,rfl⟩
theorem Fi{α:Type}{v w b c:α}(h:[v,w].Perm [b,c]):(v=b/\w=c)\/(v=c/\w=b):=by
 have m:v∈[b,c]:=h.mem_iff.mp (by simp)
 rcases aat.mp m with rfl|m
 ·exact .inl ⟨rfl,by have:=(ab9 v).mp h;simpa using this⟩
 ·have:=aav.mp m
  subst this
  have h2:=(ab9 v).mp (h.trans (List.Perm.swap v b []))
  exact .inr ⟨rfl,by simpa using h2⟩
theorem vF{α:Type}{u v w a b c:α}(h:[u,v,w].Perm [a,b,c]):(u=a/\v=b/\w=c)\/(u=a/\v=c/\w=b)\/(u=b/\v=a/\w=c)\/(u=b/\v=c/\w=a)\/(u=c/\v=a/\w=b)\/(u=c/\v=b/\w=a):=by
 have m:u∈[a,b,c]:=h.mem_iff.mp (by simp)
 rcases aat.mp m with rfl|m
 ·rcases Fi ((ab9 u).mp h)with⟨e1,e2⟩|⟨e1,e2⟩
  ·exact .inl ⟨rfl,e1,e2⟩
  ·exact .inr (.inl ⟨rfl,e1,e2⟩)
 ·rcases aat.mp m with rfl|m
  ·have h2:=(ab9 u).mp (h.trans (List.Perm.swap u a [c]))
   rcases Fi h2 with⟨e1,e2⟩|⟨e1,e2⟩
   ·exact .inr (.inr (.inl ⟨rfl,e1,e2⟩))
   ·exact .inr (.inr (.inr (.inl ⟨rfl,e1,e2⟩)))
  ·have:=aav.mp m
   subst this
   have h2:=(ab9 u).mp (h.trans ((List.Perm.cons a (List.Perm.swap u b [])).trans (List.Perm.swap u a [b])))
   rcases Fi h2 with⟨e1,e2⟩|⟨e1,e2⟩
   ·exact .inr (.inr (.inr (.inr (.inl ⟨rfl,e1,e2⟩))))
   ·exact .inr (.inr (.inr (.inr (.inr ⟨rfl,e1,e2⟩))))
theorem yW{n:Nat}{u v w a b c:Pl}(h:[u,v,w].Perm [a,b,c])(ha:a.Ok n)(hb:b.Ok n)(hc:c.Ok n):u.Ok n/\v.Ok n/\w.Ok n:=by
 rcases vF h with⟨rfl,rfl,rfl⟩|⟨rfl,rfl,rfl⟩|⟨rfl,rfl,rfl⟩|⟨rfl,rfl,rfl⟩|⟨rfl,rfl,rfl⟩|⟨rfl,rfl,rfl⟩<;>exact⟨by assumption,by assumption,by assumption⟩
theorem Fj{u v w a b c d:Pl}(h:[u,v,w].Perm [a,b,c]):fO u v w d↔fO a b c d:=by
 rcases vF h with⟨rfl,rfl,rfl⟩|⟨rfl,rfl,rfl⟩|⟨rfl,rfl,rfl⟩|⟨rfl,rfl,rfl⟩|⟨rfl,rfl,rfl⟩|⟨rfl,rfl,rfl⟩
 ·exact Iff.rfl
 ·exact IQ _ _ _ _
 ·exact sI _ _ _ _
 ·exact fj _ _ _ _
 ·exact(fj _ _ _ _).trans (fj _ _ _ _)
 ·exact(sI _ _ _ _).trans (fj _ _ _ _)
theorem Jb{u v w a b c d:Pl}(h:[u,v,w].Perm [a,b,c]):rg u v w d=rg a b c d:=by
 have mid:∀a b c d,rg a c b d=rg a b c d:=λa b c d=>by rw[<-kW a c b d,n8 b c a d,kW]
 rcases vF h with⟨rfl,rfl,rfl⟩|⟨rfl,rfl,rfl⟩|⟨rfl,rfl,rfl⟩|⟨rfl,rfl,rfl⟩|⟨rfl,rfl,rfl⟩|⟨rfl,rfl,rfl⟩
 ·rfl
 ·exact mid _ _ _ _
 ·exact n8 _ _ _ _
 ·exact kW _ _ _ _
 ·exact(kW _ _ _ _).trans (kW _ _ _ _)
 ·exact(n8 _ _ _ _).trans (kW _ _ _ _)
theorem vG{a b c d u v w:Pl}(hn:tw a b c≠0)(h0:rg a b c d=0)(hd:¬(d=a\/d=b\/d=c))(hp:[u,v,w].Perm [a,b,c])(s1:¬aQ v u)(s2:¬aQ w u) :
 decide (fO a b c d)=if aQ d u then true else decide ((tw v w d).sign≠(tw v w u).sign):=by
 have nab:a≠b:=λe=>by subst e;rw[ic]at hn;exact hn rfl
 have Zu:a≠c:=λe=>by subst e;rw[ie]at hn;exact hn rfl
 have Zv:b≠c:=λe=>by subst e;rw[sE]at hn;exact hn rfl
 have ho:(u≠v/\u≠w)/\(d≠u/\d≠v/\d≠w):=by
  rcases vF hp with⟨rfl,rfl,rfl⟩|⟨rfl,rfl,rfl⟩|⟨rfl,rfl,rfl⟩|⟨rfl,rfl,rfl⟩|⟨rfl,rfl,rfl⟩|⟨rfl,rfl,rfl⟩<;>grind
 obtain⟨⟨n1,n2⟩,e1,e2,e3⟩:=ho
 have b1:aQ u v:=by rcases jJ n1 with z|z;exact z;exact absurd z s1
 have b2:aQ u w:=by rcases jJ n2 with z|z;exact z;exact absurd z s2
 have e:decide (fO a b c d)=decide (fO u v w d):=by rw[decide_eq_decide];exact(Fj hp).symm
 rw[e]
 have h1:rg u v w d=0:=by rw[Jb hp];exact h0
 by_cases k:aQ d u
 ·rw[if_pos k]
  exact decide_eq_true (.inr ⟨h1,e1,e2,e3,.inl ⟨k,aV k b1,aV k b2⟩⟩)
 ·rw[if_neg k,decide_eq_decide]
  have k2:aQ u d:=by rcases jJ e1 with z|z;exact absurd z k;exact z
  unfold fO
  rw[h1]
  constructor
  ·rintro(z|⟨_,_,_,_,z|z|z|z⟩)
   ·cases z
   ·exact absurd z.1 k
   ·exact z.2.2.2
   ·exact absurd z.1 s1
   ·exact absurd z.1 s2
  ·intro z
   exact .inr ⟨rfl,e1,e2,e3,.inr (.inl ⟨b1,b2,k2,z⟩)⟩
theorem AQ{a b c d u v w:Pl}(hn:tw a b c≠0)(h0:rg a b c d=0)(hd:¬(d=a\/d=b\/d=c))(hp:[u,v,w].Perm [a,b,c])(hs:[u,v,w].Pairwise (λp q=> ¬aQ q p)) :
 decide (fO a b c d)=if aQ d u then true else decide ((tw v w d).sign≠(tw v w u).sign):=
 vG hn h0 hd hp ((aaL.mp hs).1 v (by simp)) ((aaL.mp hs).1 w (by simp))
instance(p q r s:Pl):Decidable (WL p q r s):=inferInstanceAs (Decidable (_\/_))
theorem AR(i j:Int):(!eE (.int i) (.int j))=decide (i≠j):=by
 rw[eY,aa8]
 simp
theorem bC(qs:List Pl):(qs.map Pl.d).all (plain 9)=true:=by
 rw[acD,abh]
 intro q _
 rfl
end L3
namespace L3
open PySem PySem.Spec PyProof.Rows L2
theorem sP{gd:Mp->Prop}{g:sr}{tb:ia}{D:Aj}{ρ:En}{M:Mp}(Pv:Nat->En->Mp->Prop)(xs:List L3.D)
 (hs:∀(R:L3.D->Mp->Prop) (B:En->Mp->Prop) (i:Nat) (x:L3.D) (ρ:En) (M:Mp) (N:En->Mp->Prop),xs[i]?=some x->Pv i ρ M->(∀ρ' M',Pv (i+1) ρ' M'->N ρ' M')->gd M/\g x ρ M λρ2 M2=>tb {nx:=N,rt:=R,bk:=B,ct:=N} ρ2 M2)
 (hd:∀ρ M,Pv xs.length ρ M->gd M/\D.nx ρ M)(h0:Pv 0 ρ M):runFor gd g tb D xs ρ M:=
 cJ Pv xs (λi x ρ M N a b c=>hs D.rt D.nx i x ρ M N a b c) hd h0
end L3
namespace L3
open PySem PySem.Spec PyProof.Rows L2
def dF(cells:List (Str ×Addr))(names:List (Str ×NameKind))(cs:List (Str ×Addr)):List (Str ×Addr):=
 names.foldl (λcs y=>if(y.2==NameKind.free)=true then(y.1,(cells.lookup y.1).getD 0)::cs else cs) cs
theorem sQ{α β:Type}{f:α->β->Sem (ForInStep β)}{g:β->α->β}:∀{l:List α} {b:β},(∀x∈l,∀b,f x b=pure (.yield (g b x)))->forIn l b f=(pure (l.foldl g b):Sem β)
 |[],b,_=>rfl
 |x::l,b,h=>by
  rw[ab5,h x (aaG ..),pure_bind]
  exact sQ λy hy=>h y (aar _ hy)
theorem AS{sc:Scope}{env:Env}(h:∀y∈sc.names,y.2= .free->∃c,env.cells.lookup y.1=some c):closureFor sc env=pure (dF env.cells sc.names []):=by
 unfold closureFor dF
 dsimp only
 rw[sQ (g:=λcs y=>if(y.2==NameKind.free)=true then(y.1,(env.cells.lookup y.1).getD 0)::cs else cs)]
 ·rfl
 ·rintro⟨n,k⟩ hy b
  by_cases hk:k= .free
  ·subst hk
   obtain⟨c,hc⟩:=h _ hy rfl
   have hc:env.cells.lookup n=some c:=hc
   simp[cellOf,hc]
  ·have hb:(k==NameKind.free)=false:=by simpa using hk
   simp[hb]
theorem qB{cells:List (Str ×Addr)}{x:Str}{c:Addr}:∀{names:List (Str ×NameKind)} {cs:List (Str ×Addr)},(∀y∈names,y.2= .free->∃c,cells.lookup y.1=some c)->(∀x c,cs.lookup x=some c->cells.lookup x=some c)->
 (dF cells names cs).lookup x=some c->cells.lookup x=some c
 |[],cs,_,h,e=>h x c e
 |(n,k)::r,cs,hf,h,e=>by
  refine qB (names:=r) (cs:=if(k==NameKind.free)=true then(n,(cells.lookup n).getD 0)::cs else cs) (λy hy=>hf y (aar _ hy)) (λx c q=>?_) e
  split at q
  ·rename_i hk
   rw[abb]at q
   split at q
   ·rename_i hx
    have hx:=eq_of_beq hx
    subst hx
    obtain⟨c',hc⟩:=hf (x,k) (aaG ..) (eq_of_beq hk)
    have hc:cells.lookup x=some c':=hc
    rw[hc]at q
    rw[hc];exact q
   ·exact h x c q
  ·exact h x c q
theorem qC{cells:List (Str ×Addr)}{x:Str}:∀{names:List (Str ×NameKind)} {cs:List (Str ×Addr)},((cs.lookup x).isSome=true\/(x,NameKind.free)∈names)->((dF cells names cs).lookup x).isSome=true
 |[],cs,h=>by
  rcases h with h|h
  ·exact h
  ·cases h
 |(n,k)::r,cs,h=>by
  refine qC (names:=r) (cs:=if(k==NameKind.free)=true then(n,(cells.lookup n).getD 0)::cs else cs) ?_
  rcases h with h|h
  ·left
   split
   ·rw[abb]
    split
    ·rfl
    ·exact h
   ·exact h
  ·rcases aat.mp h with e|h
   ·left
    cases e
    simp[abb]
   ·exact .inr h
theorem mem_of_lookup{β:Type}{x:Str}{b:β}:∀{l:List (Str ×β)},l.lookup x=some b->(x,b)∈l
 |[],h=>by cases h
 |(n,c)::r,h=>by
  rw[abb]at h
  split at h
  ·rename_i hx
   cases h
   have:=eq_of_beq hx
   subst this
   exact aaG ..
  ·exact aar _ (mem_of_lookup h)
def b8(outer:Scope)(N:List Str)(sc:Scope)(x:Str)(ys:List Str)(fs:List Nat):Bool:=
 (sc.kind== .function) && (outer.kind== .function) && sc.names.all (λy=>!(y.2== .cell) && (!(y.2== .local) || sc.names.lookup y.1==some .local) && (!(y.2== .free) || outer.names.lookup y.1==some .cell)) && (sc.names.lookup x==some .local) &&
  decide (ys.length=fs.length) && (ys.zip fs).all (λp=>N[p.2]?==some p.1 && sc.names.lookup p.1==some .free) && decide (x::ys).Nodup
structure sU(outer:Scope)(N:List Str)(sc:Scope)(x:Str)(ys:List Str)(fs:List Nat):Prop where
 kind:sc.kind= .function
 PJ:outer.kind= .function
 Fl:∀y∈sc.names,y.2≠ .cell
 names:∀y∈sc.names,y.2= .local->sc.names.lookup y.1=some .local
 Rt:∀y∈sc.names,y.2= .free->outer.names.lookup y.1=some .cell
 loc:sc.names.lookup x=some .local
 len:ys.length=fs.length
 at':∀(k:Nat) y,ys[k]?=some y->∃i,fs[k]?=some i/\N[i]?=some y/\sc.names.lookup y=some .free
 nd:(x::ys).Nodup
theorem sU.of{outer:Scope}{N:List Str}{sc:Scope}{x:Str}{ys:List Str}{fs:List Nat}(h:b8 outer N sc x ys fs=true):sU outer N sc x ys fs:=by
 unfold b8 at h
 simp only[aa6,abh,decide_eq_true_eq]at h
 obtain⟨⟨⟨⟨⟨⟨h1,WO⟩,h2⟩,h3⟩,h4⟩,h5⟩,h6⟩:=h
 refine⟨eq_of_beq h1,eq_of_beq WO,λy hy z=>?_,λy hy z=>?_,λy hy z=>?_,eq_of_beq h3,h4,λk y e=>?_,h6⟩
 ·have:=(h2 y hy).1.1
  rw[z]at this
  simp at this
 ·have:=(h2 y hy).1.2
  rw[z]at this
  simpa using this
 ·have:=(h2 y hy).2
  rw[z]at this
  simpa using this
 ·have hk:k<fs.length:=by rw[<-h4];exact(aaQ.mp e).1
  have ez:(ys.zip fs)[k]?=some (y,fs[k]):=by
   rw[List.getElem?_zip_eq_some]
   exact⟨e,aau hk⟩
  obtain⟨q1,q2⟩:=h5 _ (aaC ez)
  exact⟨fs[k],aau hk,eq_of_beq q1,eq_of_beq q2⟩
theorem oz{env:Env}{y:Str}(hk:env.scope.kind= .function)(hc:env.scope.names.lookup y=some .cell):∀{names:List (Str ×NameKind)},names.lookup y=some .free->
 (names.map λ(n,k)=>if(k==NameKind.free && env.scope.kind== .function && env.kindOf n==some .cell)then(n,NameKind.cell)else(n,k)).lookup y=some .cell
 |[],h=>by cases h
 |(n,k)::r,h=>by
  rw[abb]at h
  split at h
  ·rename_i hx
   cases h
   have:=eq_of_beq hx
   subst this
   have hc:env.kindOf y=some .cell:=hc
   simp[hk,hc,abb]
  ·rename_i hx
   have ih:=oz hk hc h
   simp only[aaV]
   split
   ·rw[abb,hx];exact ih
   ·rw[abb,hx];exact ih
abbrev yC(X:Cx)(sc:Scope)(x:Str)(ys:List Str)(cl:List (Str ×Addr))(C:Addr)(s0:Shared)(H0:Hp)(ex:List Addr):Cx:=
 {X with N:=x::ys,s₀:=s0,H₀:=H0,env:=compEnvC sc cl C X.env,outer:=X.stack,ex:=ex,fn:=λ_=>false,pn:=[],xe:=λ_ _=>False}
structure PK(X:Cx)(ifs:List Expr)(t:mR):Prop where
 run:∀(pins:List (Addr ×Obj)) (s:Shared) (σ:St) (H:Hp) (ρ:En) (M:Mp) (Q:Bool->Mp->Prop),Inv X pins σ H s->Rep X.K H σ ρ M->t ρ M Q->
  wpAny (model X.prog X.w) X.A (forIn ifs true λc r=>if r=true then do {let ok <-isTrue c X.env (eval c X.env);pure (ForInStep.yield ok)}else pure (ForInStep.yield r)) (TP X pins σ (qz X.K M H Q)) X.xe s
def Td:mR:=λ_ M Q=>Q true M
theorem Fo{X:Cx}:PK X [] Td:=⟨λpins s σ H ρ M Q I r q=>wpAny_tests_nil ⟨H,I,M,.refl _ _,r.mem,q⟩⟩
theorem j0{X:Cx}{c:Expr}{t:mR}(h:yJ X c t):PK X [c] t:=⟨λpins s σ H ρ M Q I r q=>wpAny_tests_one (h.run pins s σ H ρ M Q I r q)⟩
def qD(gd:Mp->Prop)(tt:mR)(te:dg)(fr:En)(Q:List D->Mp->Prop):List D->List D->Mp->Prop
 |[],acc,M=>gd M/\Q acc M
 |d::ds,acc,M=>gd M/\tt (some d::fr) M λb M1=>if b=true then te (some d::fr) M1 λy M2=>qD gd tt te fr Q ds (acc++[y]) M2 else qD gd tt te fr Q ds acc M1
def pL(fs:List Nat)(ρ:En):En:=fs.map λi=>(ρ[i]?).join
section
variable{X:Cx}{sc:Scope}{x:Str}{ys:List Str}{fs:List Nat}
theorem Fp{fs:List Nat}{ρ:En}{k:Nat}{d:D}(h:(pL fs ρ)[k]?=some (some d)):∃i,fs[k]?=some i/\ρ[i]?=some (some d):=by
 unfold pL at h
 rw[aa0]at h
 cases e:fs[k]? with
 |none=>rw[e]at h;cases h
 |some i=>
  rw[e]at h
  refine⟨i,rfl,?_⟩
  have h:(ρ[i]?).join=some d:=Option.some.inj h
  cases q:ρ[i]? with
  |none=>rw[q]at h;cases h
  |some o=>rw[q]at h;rw[show o=some d from h]
theorem Dy{pins:List (Addr ×Obj)}{σ:St}{H:Hp}{s s':Shared}{C:Addr}{fp:List Addr}{cl:List (Str ×Addr)}{ρ:En}{M:Mp}(ck:sU X.env.scope X.N sc x ys fs)(I:Inv X pins σ H s)(r:Rep X.K H σ ρ M)(hcl:cl=dF X.env.cells sc.names [])
 (hC:s.heap.objs.size<=C)(old:∀b o,s.heap.get? b=some o->s'.heap.get? b=some o)(ns:∃m,s'.heap.Ns C m)(hos:s'.os=s.os)(hg:s'.gens=s.gens)(hf:∀b∈fp,j7 X pins H b)(hfp:∀b∈fp,b<s.heap.objs.size) :
 ∃σ',Inv (yC X sc x ys cl C s H fp) [] σ' H s'/\Rep X.K H σ' (none::pL fs ρ) M:=by
 have Fq:∀y∈sc.names,y.2= .free->∃c,X.env.cells.lookup y.1=some c:=λy hy hk=>I.ok.has y.1 (.inl (ck.Rt y hy hk))
 have cf:∀{y c},cl.lookup y=some c->X.env.cells.lookup y=some c:=λ{y c} e=>by rw[hcl]at e;exact qB Fq (λ_ _ z=>by cases z) e
 have ch:∀y,sc.names.lookup y=some .free->∃c,cl.lookup y=some c:=λy e=>by rw[hcl];exact ac0.mp (qC (.inr (mem_of_lookup e)))
 have rk:∀y k,(relabel sc X.env).names.lookup y=some k->(k= .cell\/k= .free)->∃c,cl.lookup y=some c:=by
  intro y k e hk
  have:∃k',sc.names.lookup y=some k'/\(k'=k\/k'= .free):=by
   clear ck Fq cf ch
   revert e
   show(sc.names.map _).lookup y=some k->_
   generalize sc.names=names
   intro e
   induction names with
   |nil=>cases e
   |cons p r ih=>
    obtain⟨n,kn⟩:=p
    simp only[aaV]at e
    rw[abb]
    split
    ·rename_i hx
     split at e
     ·rename_i hc
      refine⟨kn,rfl,.inr ?_⟩
      simp only[aa6]at hc
      exact eq_of_beq hc.1.1
     ·rw[abb,hx]at e
      exact⟨kn,rfl,.inl (Option.some.inj e)⟩
    ·rename_i hx
     split at e<;>(rw[abb,hx]at e;exact ih e)
  obtain⟨k',e',hk'⟩:=this
  rcases hk' with rfl|rfl
  ·rcases hk with rfl|rfl
   ·exact absurd rfl (ck.Fl _ (mem_of_lookup e'))
   ·exact ch y e'
  ·exact ch y e'
 have lfp:∀b∈fp,b≠C:=λb hb z=>absurd (aay (hfp b hb) hC) (by rw[z];exact abu _)
 have ok:(yC X sc x ys cl C s H fp).Ok:={
  mod:=I.ok.mod
  kind:=ck.kind
  glob:=I.ok.glob
  blt:=I.ok.blt
  above:=hC
  inj:=λa b c e1 e2=>I.ok.inj a b c (cf e1) (cf e2)
  has:=λy hy=>by
   rcases hy with hy|hy
   ·exact rk y _ hy (.inl rfl)
   ·exact rk y _ hy (.inr rfl)
  Lw:=λ_ _ z=>by cases z
  hd:=I.ok.hd
  frames:=I.ok.frames
  stk:= .inl rfl
  NT:=λb hb=>⟨lfp b hb,λy c e=>(hf b hb).2.2.2.2.1 y c (cf e)⟩
  bs:=I.bs
  HR:=abo I.ok.HR I.sz
  Ar:=λb o e hb=>by
   rcases(hf b hb).2.2.2.1 with z|z
   ·exact I.ok.Ar b o e z
   ·exact absurd (aay (Heap.lt_size (I.ok.bs b o e).1) z) (abu _)
  As:=λb hb z=>by
   rcases aat.mp (I.wD b z)with e|e
   ·exact(hf b hb).2.1 e
   ·exact(hf b hb).2.2.1 e
  nR:=I.stack
  Ih:=I.q8}
 have fC:H C=none:=I.hok.fresh hC
 obtain⟨m,hm⟩:=ns
 refine⟨none::fs.map (λi=>(σ[i]?).join),⟨ok,hos,by rw[hg];exact I.bare,Un.kept old,⟨m,hm,λi y v e1 e2 e3=>?_⟩,λy c e=>?_,fC,λy c e=>I.g9 y c (cf e),λp hp=>(by cases hp),I.hok.kept old,by simp[ck.len]⟩,⟨λi d e=>?_,?_,r.mem⟩⟩
 ·cases i with
  |zero=>cases e2
  |succ i=>
   have e1:ys[i]?=some y:=e1
   obtain⟨j,f1,f2,f3⟩:=ck.at' i y e1
   have e2:(fs.map λi=>(σ[i]?).join)[i]?=some (some v):=e2
   rw[aa0,f1]at e2
   have e2:(σ[j]?).join=some v:=Option.some.inj e2
   have e4:σ[j]?=some (some v):=by
    cases q:σ[j]? with
    |none=>rw[q]at e2;cases e2
    |some o=>rw[q]at e2;rw[show o=some v from e2]
   have hc:X.env.scope.names.lookup y=some .cell:=ck.Rt (y,.free) (mem_of_lookup f3) rfl
   obtain⟨m0,_,hl⟩:=I.loc
   obtain⟨u,ru,lk⟩:=hl j y v f2 e4 (.inr (.inl hc))
   refine⟨u,ru,?_⟩
   rcases lk with⟨k1,_⟩|⟨_,c,e5,e6⟩
   ·have k1:X.env.scope.names.lookup y=some .local:=k1
    rw[hc]at k1;cases k1
   ·obtain⟨c',e7⟩:=ch y f3
    have:=cf e7
    rw[e5]at this
    cases this
    refine .inr ⟨.inl (oz I.ok.kind hc f3),c,e7,?_⟩
    obtain⟨o,ho,hd⟩:=e6
    exact⟨o,old _ _ ho,hd⟩
 ·obtain⟨v,o,ho,hd⟩:=I.cell y c (cf e)
  exact⟨v,o,old _ _ ho,hd⟩
 ·cases i with
  |zero=>cases e
  |succ i=>
   obtain⟨j,f1,f2⟩:=Fp (show(pL fs ρ)[i]?=some (some d)from e)
   obtain⟨v,g1,g2⟩:=r.env j d f2
   refine⟨v,?_,g2⟩
   show(fs.map λi=>(σ[i]?).join)[i]?=some (some v)
   rw[aa0,f1]
   show some ((σ[j]?).join)=_
   rw[g1];rfl
 ·simp[pL]
end
end L3
namespace L3
open PySem PySem.Spec PyProof.Rows L2
section
variable{X:Cx}{sc:Scope}{x:Str}{ys:List Str}{fs:List Nat}{elt iter:Expr}{px pos:Pos}{ifs:List Expr}{tt:mR}{te:dg}
theorem AU{α:Type}{t:Sem α}{Q Q':α->Shared->Prop}{M:Model}{A:Around}{E:Value->Shared->Prop}{s:Shared}(h:wpAny M A t Q (λ_ _=>False) s)(hQ:∀a s,Q a s->Q' a s):wpAny M A t Q' E s:=wpAny_mono h hQ λ_ _ z=>z.elim
theorem yX(elt target iter:Expr)(ifs:List Expr)(sc:Scope)(pos:Pos)(it acc:Value)(env:Env):compTurn (.ListComp elt [⟨target,iter,ifs,0⟩] sc pos) 0 it acc env=(standAt iter.pos >>= λ_=>pyNext it >>= λr=>match r with
 |none=>pure (.done .next)
 |some v=>letOwnedTupleGo target it v >>= λ_=>assign target env v >>= λ_=>(forIn ifs true λc r=>if r=true then do {let ok <-isTrue c env (eval c env);pure (ForInStep.yield ok)}else pure (ForInStep.yield r)) >>= λok=>
  if ok=true then(eval elt env >>= λy=>call (.builtin "list.append") [acc,y] >>= λ_=>again (.compLoop (.ListComp elt [⟨target,iter,ifs,0⟩] sc pos) 0 it acc env))else again (.compLoop (.ListComp elt [⟨target,iter,ifs,0⟩] sc pos) 0 it acc env)):=by
 rw[compTurn_list]
 congr 1;funext _;congr 1;funext r
 cases r with
 |none=>rfl
 |some v=>
  dsimp only
  congr 1;funext _;congr 1;funext _;congr 1;funext ok
  cases ok with
  |false=>rfl
  |true=>simp only[if_true,bind_assoc,pure_bind]
structure Te(X X':Cx)(Dl:Addr)(fp:List Addr)(tn:Nat->Heap->Prop)(M0:Mp)(H0:Hp)(fr:En)(i:Nat)(s:Shared)(acc:List D)(M:Mp):Prop where
 ex:∃σ H y ws,Inv X' [] σ H s/\tn i s.heap/\(∀b∈fp,H b=none)/\Rep X.K H σ (y::fr) M/\Fr M0 H0 M H/\H Dl=some (.lst ws)/\M Dl=none/\aF X.K H acc ws/\acc.length<=i
theorem Jc(hc:X.calm=true)(ck:sU X.env.scope X.N sc x ys fs)(ht:∀cl C s0 H0 ex,PK (yC X sc x ys cl C s0 H0 ex) ifs tt)(he:∀cl C s0 H0 ex,cH (yC X sc x ys cl C s0 H0 ex) elt te)
 {pins:List (Addr ×Obj)}{σ:St}{H:Hp}{s:Shared}{ρ:En}{M:Mp}{it:Addr}{fp:List Addr}{tn:Nat->Heap->Prop}{J:It}{inv:Hp->Prop}{ds:List D}{gd:Mp->Prop}{Q:DK}{E:Value->Shared->Prop}{Ma:Mp}{Ha:Hp}{use:Option (Value->Sem Unit)}{Qs:Value->Shared->Prop}(fa:Fr Ma Ha M H)
 (fin:∀(C Dl:Addr) (s6:Shared) (H5:Hp),Inv X pins σ H5 s6->(∃m,s6.heap.Ns C m)->j7 X pins H5 C->Post X.K Ma Ha Q (.ref Dl) H5->compPost (model X.prog X.w) X.A E use Qs (.ref Dl) C (.ok .next) s6)
 (I:Inv X pins σ H s)(r:Rep X.K H σ ρ M)(T:Turn X.prog X.w X.K (.Name x px) J fp it tn)(st:tn 0 s.heap)(hf:∀b∈fp,j7 X pins H b)(hJ:AL X.K J inv ds)(hz:ds.length<sizeLine)
 (stay:∀M1 H1,Fr M H M1 H1->bK X.K H1 M1->gd M1->inv H1)(q:qD gd tt te (pL fs ρ) (λzs M2=> ∀p,M2 p=none->Q (.ref p) (ay M2 p (.lst zs))) ds [] M) :
 wpAny (model X.prog X.w) X.A (newList []) (λacc s3=>wpAny (model X.prog X.w) X.A (newFunctionEnv sc X.env.globals (dF X.env.cells sc.names []) [] X.env.qual none .none (some X.env)) (λcenv s4=>
  codeAny (model X.prog X.w) X.A (.compStart (.ListComp elt [⟨.Name x px,iter,ifs,0⟩] sc pos) 0 (.ref it) acc {cenv with scope:=relabel sc X.env}) (compPost (model X.prog X.w) X.A E use Qs acc cenv.locals) s4) E s3) E s:=by
 have hfp:∀b∈fp,b<s.heap.objs.size:=λb hb=>by
  obtain⟨o,e,_⟩:=T.obj 0 _ st b hb
  exact Heap.lt_size e
 refine wpAny_newList (hsz:=abp _) ?_
 have fD:H s.heap.objs.size=none:=I.hok.fresh (aaz _)
 have k1:∀b o,s.heap.get? b=some o->(s.heap.push {cls:= .type "list",data:= .seq ([]:List Value).toArray}).get? b=some o:=λb o e=>Heap.get?_push_of_some _ e
 have z3:(s.heap.push {cls:= .type "list",data:= .seq ([]:List Value).toArray}).objs.size=s.heap.objs.size+1:=Heap.size_push ..
 have I3:Inv X pins σ (upd H s.heap.objs.size (.lst [])) {s with heap:=s.heap.push {cls:= .type "list",data:= .seq ([]:List Value).toArray}}:=
  I.laid (t':=s.toks) k1 (aaz _) ⟨abp _,[],0,.nil,Heap.get?_push_size _ rfl⟩
 refine wpAny_newFunctionEnv ck.Fl (λy hy=>by cases hy) (λh1 Vc Vd=>?_) ck.kind
 generalize Ve:({s with heap:=s.heap.push {cls:= .type "list",data:= .seq ([]:List Value).toArray}}:Shared)=s3 at I3 Vc Vd ⊢
 have WQ:s3.heap.objs.size=s.heap.objs.size+1:=by rw[<-Ve];exact z3
 have old:∀b o,s3.heap.get? b=some o->h1.get? b=some o:=λb o e=>Vd.extBut b o (aaN (Heap.lt_size e)) (Heap.get?_push_of_some _ e)
 have Vf:∀b∈fp,j7 X pins (upd H s.heap.objs.size (.lst [])) b:=λb hb=>⟨by rw[aE (aaN (hfp b hb))];exact(hf b hb).1,(hf b hb).2⟩
 have Vg:Fr M H M (upd H s.heap.objs.size (.lst [])):=Fr.new fD λ_ _=>rfl
 have r3:Rep X.K (upd H s.heap.objs.size (.lst [])) σ ρ M:=r.go Vg (r.mem.new fD)
 obtain⟨σ',I4,r4⟩:=Dy (s:=s3) (s':={s3 with heap:=h1,toks:=s3.toks+([]:List (Str ×Value)).length}) (C:=s3.heap.objs.size) (fp:=fp) ck I3 r3 rfl (aaz _) old ⟨_,Vc⟩ rfl rfl Vf (λb hb=>by rw[WQ];exact abx (hfp b hb))
 have MD:M s.heap.objs.size=none:=r.mem.free fD
 have Vh:tn 0 h1:=T.keep 0 _ _ st λb hb o e=>old b o (by rw[<-Ve];exact k1 b o e)
 have Tf:∀{H':Hp},(∀b∈fp,H' b=none)->∀b∈fp,j7 (yC X sc x ys (dF X.env.cells sc.names []) s3.heap.objs.size s3 (upd H s.heap.objs.size (.lst [])) fp) [] H' b:=λ{H'} hn b hb=>
  ⟨hn b hb,(I4.ok.NT b hb).1,I4.ok.As b hb,.inl hb,λy c e z=>(I4.ok.NT b hb).2 y c e z,λp hp=>by cases hp⟩
 have loop:∀s4:Shared,s4= {s3 with heap:=h1,toks:=s3.toks+([]:List (Str ×Value)).length}->
  codeAny (model X.prog X.w) X.A (.compLoop (.ListComp elt [⟨.Name x px,iter,ifs,0⟩] sc pos) 0 (.ref it) (.ref s.heap.objs.size) ((yC X sc x ys (dF X.env.cells sc.names []) s3.heap.objs.size s3 (upd H s.heap.objs.size (.lst [])) fp)).env) (compPost (model X.prog X.w) X.A E use Qs (.ref s.heap.objs.size) s3.heap.objs.size) s4:=by
  rintro s4 rfl
  refine codeAny_loop rfl (I:=λn s'=>∃i acc M',n=ds.length-i/\i<=ds.length/\Te X (yC X sc x ys (dF X.env.cells sc.names []) s3.heap.objs.size s3 (upd H s.heap.objs.size (.lst [])) fp) s.heap.objs.size fp tn M H (pL fs ρ) i s' acc M'/\qD gd tt te (pL fs ρ) (λzs M2=> ∀p,M2 p=none->Q (.ref p) (ay M2 p (.lst zs))) (ds.drop i) acc M')
   (λn s5 hI=>?_) ds.length ⟨0,[],M,rfl,abp _,⟨σ',_,none,[],I4,Vh,λb hb=>(Vf b hb).1,r4,Vg,bu,MD,aM.mpr rfl,aaz _⟩,q⟩
  obtain⟨i,acc,M5,rfl,hi,⟨σ5,H5,y5,ws,I5,NU,f5,r5,Ip,Vi,Vj,Vk,Zw⟩,q5⟩:=hI
  show wpAny (model X.prog X.w) X.A ((compTurn (.ListComp elt [⟨.Name x px,iter,ifs,0⟩] sc pos) 0 (.ref it) (.ref s.heap.objs.size) ((yC X sc x ys (dF X.env.cells sc.names []) s3.heap.objs.size s3 (upd H s.heap.objs.size (.lst [])) fp)).env).onRaise (λz=>do {noteFrame z ((yC X sc x ys (dF X.env.cells sc.names []) s3.heap.objs.size s3 (upd H s.heap.objs.size (.lst [])) fp)).env;theTreesLotGoes z})) _ _ s5
  refine wpAny_noted ?_
  rw[yX]
  refine wpAny_bind (wpAny_standAt ?_)
  by_cases hlt:i<ds.length
  ·have hdr:ds.drop i=ds[i]::ds.drop (i+1):=acg hlt
   rw[hdr]at q5
   obtain⟨hg,q5⟩:=q5
   have hinv:=stay M5 H5 Ip r5.mem hg
   refine wpAny_bind (AU (T.item (yC X sc x ys (dF X.env.cells sc.names []) s3.heap.objs.size s3 (upd H s.heap.objs.size (.lst [])) fp) rfl rfl rfl hc i [] s5 σ5 H5 (λ_ _=>False) I5 (Tf f5) NU (hJ.go i H5 hlt hinv)) λr6 s6 ⟨u,e6,h6⟩=>?_)
   subst e6
   refine wpAny_bind (AU h6 λ_ s7 ⟨v,H7,I7,rv,yl,Tg,f7⟩=>?_)
   obtain⟨e7,d,hd1,hd2⟩:=hJ.HS i H5 v H7 hlt hinv yl
   subst e7
   have ed:d=ds[i]:=Option.some.inj (hd1.symm.trans (aau hlt))
   subst ed
   have WR:=I7.pinned (Tf f7) (T.obj _ _ Tg)
   have lx:(relabel sc X.env).names.lookup x=some .local:=lookup_relabel_local ck.loc
   refine wpAny_bind (AU ((bO (X:=(yC X sc x ys (dF X.env.cells sc.names []) s3.heap.objs.size s3 (upd H s.heap.objs.size (.lst [])) fp)) (i:=0) (x:=x) (pos:=px) ck.nd rfl (.inl lx) (.inr lx)).run _ s7 σ5 H7 (y5::pL fs ρ) M5 v ds[i] u (λρ' M'=>ρ'=some ds[i]::pL fs ρ/\M'=M5) WR r5 rv hd2 ⟨rfl,rfl⟩) λ_ s8 ⟨σ8,H8,I8,ρ8,M8,Th,r8,e8,WS⟩=>?_)
   subst e8 WS
   obtain⟨WT,WU⟩:=Th _ _ Vj Vi
   refine wpAny_bind (AU ((ht _ _ _ _ _).run _ s8 σ8 H8 _ M8 _ I8 r8 q5) λb s9 ⟨H9,I9,M9,Ru,WV,q9⟩=>?_)
   obtain⟨Vl,Vm⟩:=Ru _ _ WU WT
   have r9:=r8.go Ru WV
   have PL:=(Ip.trans Th).trans Ru
   have Vn:aF X.K H9 acc ws:=aF.mono ((Th.trans Ru).ext r5.mem) _ _ Vk
   have next:∀{H':Hp} {s':Shared},Inv (yC X sc x ys (dF X.env.cells sc.names []) s3.heap.objs.size s3 (upd H s.heap.objs.size (.lst [])) fp) ([]++rS fp s7.heap) σ8 H' s'->(tn (i+1) s'.heap/\∀b∈fp,H' b=none):=λ{H' s'} I'=>by
    have pin:∀b∈fp,∀o,s7.heap.get? b=some o->s'.heap.get? b=some o/\H' b=none:=λb hb o e=>by
     have:=I'.pin (b,o) (aaP _ (aaP _ (ng hb e)))
     exact⟨this.1,this.2.1⟩
    refine⟨T.keep _ _ _ Tg λb hb o e=>(pin b hb o e).1,λb hb=>?_⟩
    obtain⟨o,e,_⟩:=T.obj _ _ Tg b hb
    exact(pin b hb o e).2
   cases b with
   |false=>
    rw[if_neg aaE]
    obtain⟨n1,n2⟩:=next I9
    exact wpAny_pure ⟨rfl,ds.length-(i+1),by omega,i+1,acc,M9,rfl,hlt,⟨σ8,H9,_,ws,I9.kF,n1,n2,r9,PL,Vl,Vm,Vn,by omega⟩,q9⟩
   |true=>
    rw[if_pos rfl]
    refine wpAny_bind (AU ((he _ _ _ _ _).run _ s9 σ8 H9 _ M9 _ I9 r9 q9) λWW WX ⟨v10,KQ,WY,Ti,dy,Jd,Je,Tj,PM,WZ⟩=>?_)
    obtain⟨PN,PR⟩:=Je _ _ Vm Vl
    have Vo:=r9.go Je PM
    have PU:aF X.K KQ acc ws:=aF.mono (Je.ext r9.mem) _ _ Vn
    have lw:ws.length<sizeLine:=by rw[<-PU.length];omega
    refine wpAny_bind (AU (fM (X:=(yC X sc x ys (dF X.env.cells sc.names []) s3.heap.objs.size s3 (upd H s.heap.objs.size (.lst [])) fp)) _ WX σ8 KQ (.ref s.heap.objs.size) [v10] (.ref s.heap.objs.size) [WW] (λ_ H'=>H'=upd KQ s.heap.objs.size (.lst (ws++[v10]))) WY rfl (.cons Ti .nil) ⟨_,ws,v10,rfl,rfl,PN,lw,rfl⟩) λ_ Zx ⟨_,Zy,Vp,_,W0⟩=>?_)
    subst W0
    have ex:Ext KQ (upd KQ s.heap.objs.size (.lst (ws++[v10]))):=Ext.kI PN
    have Tn:bK X.K (upd KQ s.heap.objs.size (.lst (ws++[v10]))) Jd:=λa o e=>by
     have na:a≠s.heap.objs.size:=λz=>by rw[z,PR]at e;cases e
     exact(PM a o e).mono ex λu q=>by rw[aE na];exact q
    have W2:Rep X.K (upd KQ s.heap.objs.size (.lst (ws++[v10]))) σ8 (some ds[i]::pL fs ρ) Jd:=⟨λj d e=>let ⟨v,e1,e2⟩:=Vo.env j d e;⟨v,e1,Dat.mono ex _ _ e2⟩,Vo.len,Tn⟩
    have To:Fr M H Jd (upd KQ s.heap.objs.size (.lst (ws++[v10]))):=λb o n e=>by
     obtain⟨e1,n1⟩:=(PL.trans Je) b o n e
     exact⟨by rw[aE (bF e fD)];exact e1,n1⟩
    obtain⟨n1,n2⟩:=next Vp
    exact wpAny_pure ⟨rfl,ds.length-(i+1),by omega,i+1,acc++[dy],Jd,rfl,hlt,⟨σ8,_,_,ws++[v10],Vp.kF,n1,n2,W2,To,bu,PR,aF.mono ex _ _ (PU.append (aF.one Tj)),by simp;omega⟩,WZ⟩
  ·have ei:i=ds.length:=by omega
   subst ei
   rw[adh (aaz _)]at q5
   obtain⟨hg,q5⟩:=q5
   have hinv:=stay M5 H5 Ip r5.mem hg
   refine wpAny_bind (AU (T.done (yC X sc x ys (dF X.env.cells sc.names []) s3.heap.objs.size s3 (upd H s.heap.objs.size (.lst [])) fp) rfl rfl rfl hc ds.length [] s5 σ5 H5 (λ_ _=>False) I5 (Tf f5) NU (hJ.stop H5 hinv)) λr6 s6 ⟨e6,I6⟩=>?_)
   subst e6
   refine wpAny_pure ?_
   obtain⟨m,hm,_⟩:=id I6.loc
   have I7:Inv X pins σ H5 s6:=I3.Ez (s':=s6) (ch:=fp) I6.os I6.base I6.hok I6.bare λb hb=>⟨(hf b hb).2.2.2.1,(hf b hb).2.1,(hf b hb).2.2.2.2.1,(hf b hb).2.2.2.2.2⟩
   refine fin _ _ s6 H5 I7 ⟨m,hm⟩ (I3.Dc (aaz _) I6.free) (Post.back fa ⟨.ref s.heap.objs.size,ay M5 s.heap.objs.size (.lst acc),λb o n e=>?_,aA.mpr rfl,λa o e=>?_,q5 _ Vj⟩)
   ·obtain⟨e1,n1⟩:=Ip b o n e
    exact⟨e1,by rw[aK (bF e fD)];exact n1⟩
   ·by_cases ha:a=s.heap.objs.size
    ·subst ha
     rw[ah]at e
     cases e
     exact⟨ws,Vi,Vk⟩
    ·rw[aK ha]at e
     exact r5.mem a o e
 exact codeAny_compStart_list (loop _ rfl) (T.self X.A 0 _ _ _ Vh (loop _ rfl))
end
end L3
namespace L3
open PySem PySem.Spec PyProof.Rows L2
section
variable{X:Cx}{sc:Scope}{x:Str}{ys:List Str}{fs:List Nat}{elt iter:Expr}{px pos:Pos}{ifs:List Expr}{tt:mR}{te:dg}{ti:dg}
def Vq(Q:DK):List D->Mp->Prop:=λzs M2=> ∀p,M2 p=none->Q (.ref p) (ay M2 p (.lst zs))
def Tp(fs:List Nat)(ti:dg)(tt:mR)(te:dg):dg:=λρ M Q=>ti ρ M λd M1=>∃a xs,d= .ref a/\M1 a=some (.lst xs)/\xs.length<sizeLine/\bM (qD (λM=>M a=some (.lst xs)) tt te (pL fs ρ) (Vq Q) xs [] M1)
def W3(X:Cx)(fs:List Nat)(tt:mR)(te:dg)(σ:St)(ρ:En)(M:Mp)(H:Hp)(Q:DK):It->Hp->Prop:=λJ H2=>∃M2 inv ds gd,Fr M H M2 H2/\Rep X.K H2 σ ρ M2/\AL X.K J inv ds/\ds.length<sizeLine/\(∀M1 H1,Fr M2 H2 M1 H1->bK X.K H1 M1->gd M1->inv H1)/\qD gd tt te (pL fs ρ) (Vq Q) ds [] M2
theorem Jf{pins:List (Addr ×Obj)}{σ:St}{M:Mp}{H:Hp}{Q:DK}{E:Value->Shared->Prop}:∀(C Dl:Addr) (s6:Shared) (H5:Hp),Inv X pins σ H5 s6->(∃m,s6.heap.Ns C m)->j7 X pins H5 C->Post X.K M H Q (.ref Dl) H5->
 compPost (model X.prog X.w) X.A E none (EP X pins σ (Post X.K M H Q)) (.ref Dl) C (.ok .next) s6:=λC Dl s6 H5 I ⟨m,hm⟩ f P=>
 ⟨m,hm,λh' sb=>⟨.ref Dl,H5,I.turned (t':=s6.toks) (λb o hb e=>sb.extBut b o hb e) f.1 f.2.1 f.2.2.2.1 f.2.2.2.2.1 f.2.2.2.2.2,rfl,P⟩⟩
theorem PV{use:Option (Value->Sem Unit)}{Qs:Value->Shared->Prop}{ps:Pos}(hc:X.calm=true)(hk:b8 X.env.scope X.N sc x ys fs=true)(ht:∀cl C s0 H0 ex,PK (yC X sc x ys cl C s0 H0 ex) ifs tt)(he:∀cl C s0 H0 ex,cH (yC X sc x ys cl C s0 H0 ex) elt te)
 (hs:∀z,foldedSetIterable iter X.env z=pure z){pins:List (Addr ×Obj)}{s:Shared}{σ:St}{H:Hp}{ρ:En}{M:Mp}{Q:DK}(I:Inv X pins σ H s)
 (fin:∀(C Dl:Addr) (s6:Shared) (H5:Hp),Inv X pins σ H5 s6->(∃m,s6.heap.Ns C m)->j7 X pins H5 C->Post X.K M H Q (.ref Dl) H5->compPost (model X.prog X.w) X.A X.xe use Qs (.ref Dl) C (.ok .next) s6)
 (h:wpAny (model X.prog X.w) X.A (eval iter X.env) (λv s1=>wpAny (model X.prog X.w) X.A (pyIter v) (Sd X pins σ (.Name x px) (W3 X fs tt te σ ρ M H Q)) X.xe s1) X.xe s) :
 wpAny (model X.prog X.w) X.A (comprehension (.ListComp elt [⟨.Name x px,iter,ifs,0⟩] sc pos) sc X.env ps (newList []) false (eval iter X.env) use) Qs X.xe s:=by
 have ck:=sU.of hk
 refine wpAny_comprehension_free (use:=use) (cl:=dF X.env.cells sc.names []) rfl hs (AS λy hy z=>I.ok.has y.1 (.inl (ck.Rt y hy z))) ck.kind ck.names (c5 h λv s1 h1=>c5 h1 λitv s2 h2=>?_)
 obtain⟨it,fp,tn,J,H2,e,I2,T,st2,f2,M2,inv,ds,gd,fr,r2,hJ,hz,stay,q⟩:=h2
 subst e
 exact Jc hc ck ht he fr fin I2 r2 T st2 f2 hJ hz stay q
structure Tq(X:Cx)(sc:Scope)(x:Str)(px:Pos)(ys:List Str)(fs:List Nat)(iter:Expr)(ifs:List Expr)(elt:Expr)(t:dg):Prop where
 run:∀{use:Option (Value->Sem Unit)} {Qs:Value->Shared->Prop} {ps pos:Pos} {pins:List (Addr ×Obj)} {s:Shared} {σ:St} {H:Hp} {ρ:En} {M:Mp} {Q:DK},Inv X pins σ H s->Rep X.K H σ ρ M->t ρ M Q->
  (∀(C Dl:Addr) (s6:Shared) (H5:Hp),Inv X pins σ H5 s6->(∃m,s6.heap.Ns C m)->j7 X pins H5 C->Post X.K M H Q (.ref Dl) H5->compPost (model X.prog X.w) X.A X.xe use Qs (.ref Dl) C (.ok .next) s6)->
  wpAny (model X.prog X.w) X.A (comprehension (.ListComp elt [⟨.Name x px,iter,ifs,0⟩] sc pos) sc X.env ps (newList []) false (eval iter X.env) use) Qs X.xe s
theorem qQ{t:dg}(h:Tq X sc x px ys fs iter ifs elt t):cH X (.ListComp elt [⟨.Name x px,iter,ifs,0⟩] sc pos) t:=by
 constructor
 intro pins s σ H ρ M Q I r q
 rw[eval_ListComp]
 exact h.run I r q Jf
theorem MB{t:dg}{j:Nat}{y:Str}{py spos:Pos}(h:Tq X sc x px ys fs iter ifs elt t)(hN:X.N.Nodup)(hj:X.N[j]?=some y)(hy:Loc X.env.scope y)
 (hsw:swapsWith (.ListComp elt [⟨.Name x px,iter,ifs,0⟩] sc pos) (some (.Name y py)) spos.line X.env=pure true:=by rfl)(hf:X.fn y=true\/X.env.scope.names.lookup y=some .local:=by first|exact .inl rfl|exact .inr rfl) :
 vm X (.Assign [.Name y py] (.ListComp elt [⟨.Name x px,iter,ifs,0⟩] sc pos) spos) (KO j t):=by
 constructor
 intro pins s σ H ρ M D I r q
 rw[exec_Assign_Name_used _ _ _ _ hsw]
 refine wpAny_bind (wpAny_standAt (wpAny_bind ?_))
 show wpAny (model X.prog X.w) X.A (do {let _ <-comprehension (.ListComp elt [⟨.Name x px,iter,ifs,0⟩] sc pos) sc X.env _ (newList []) false (eval iter X.env) (some (assign (.Name y py) X.env))}) _ _ s
 refine wpAny_bind (c5 (h.run (use:=some (assign (.Name y py) X.env)) (Qs:=λ_ s'=>SP X pins (ends X.K M H D) .next s') I r q λC Dl s6 H5 I6 hC f P=>?_) λ_ s' hq=>wpAny_pure (wpAny_pure hq))
 obtain⟨m,o,es,ep,ho,hd,hrest⟩:=hC
 obtain⟨d,M5,Ip,dd,W4,q5⟩:=P
 have W5:Inv X (pins++[(C,o)]) σ H5 s6:=I6.rf λp hp=>(aaF.mp hp).elim (λz=>I6.pin p (aaP _ z)) λz=>by
  have e:=aav.mp z
  subst e
  exact⟨ho,f.1,f.2.1,f.2.2.1,λv z=>by rw[hd]at z;cases z⟩
 refine c5 ((bO (i:=j) (x:=y) (pos:=py) hN hj hy hf).run _ s6 σ H5 ρ M5 (.ref Dl) d (.ref Dl) (D.nx) W5 (r.go Ip W4) rfl dd q5) λ_ s7 ⟨σ7,H7,I7,ρ7,M7,W6,r7,q7⟩=>?_
 have pin:=I7.pin (C,o) (aaP _ (aaP _ (aav.mpr rfl)))
 refine⟨m,⟨o,es,ep,pin.1,hd,hrest⟩,λh' sb=>?_⟩
 have I8:Inv X pins σ7 H7 s7:=I7.rf λp hp=>I7.pin p (aaP _ (aaH _ hp))
 exact⟨σ7,H7,I8.turned (t':=s7.toks) (λb o hb e=>sb.extBut b o hb e) pin.2.1 f.2.1 f.2.2.2.1 f.2.2.2.2.1 f.2.2.2.2.2,ρ7,M7,Ip.trans W6,r7,q7⟩
theorem ig(hc:X.calm=true)(hk:b8 X.env.scope X.N sc x ys fs=true)(hi:cH X iter ti)(ht:∀cl C s0 H0 ex,PK (yC X sc x ys cl C s0 H0 ex) ifs tt)(he:∀cl C s0 H0 ex,cH (yC X sc x ys cl C s0 H0 ex) elt te)
 (hs:∀z,foldedSetIterable iter X.env z=pure z:=by intro _;rfl):Tq X sc x px ys fs iter ifs elt (Tp fs ti tt te):=by
 constructor
 intro use Qs ps pos pins s σ H ρ M Q I r h fin
 refine PV (ρ:=ρ) hc hk ht he hs I fin (rj hi.dn pins s σ H _ I (dW r h λv H' d M' f dv r' ⟨a,xs,e1,hM,hz,q⟩=>?_))
 subst e1
 obtain rfl:=aA.mp dv
 obtain⟨zs,ha,hy⟩:=r'.mem.lst hM
 exact⟨a,rfl,⟨zs,gR.of ha⟩,M',_,xs,_,f,r',wN,hz,λM1 H1 f1 ju g1=>ju.lst g1,q.out⟩
theorem bU{gd:Mp->Prop}{fr:En}{Q:List D->Mp->Prop}{M:Mp}(Pv:Nat->List D->Mp->Prop):∀(ds:List D),(∀(i:Nat) (d:D) (acc:List D) (M:Mp) (N:List D->Mp->Prop),ds[i]?=some d->Pv i acc M->(∀acc' M',Pv (i+1) acc' M'->N acc' M')->
 gd M/\tt (some d::fr) M λb M1=>if b=true then te (some d::fr) M1 λy M2=>N (acc++[y]) M2 else N acc M1)->
 (∀acc M,Pv ds.length acc M->gd M/\Q acc M)->Pv 0 [] M->qD gd tt te fr Q ds [] M:=by
 intro ds hstep hend h0
 have key:∀(zs:List D) (i:Nat) (acc:List D) (M:Mp),ds.drop i=zs->Pv i acc M->i<=ds.length->qD gd tt te fr Q zs acc M:=by
  intro zs
  induction zs with
  |nil=>
   intro i acc M e p hi
   have:ds.length<=i:=by
    have:=congrArg List.length e
    rw[abC]at this
    simp at this
    omega
   obtain rfl:i=ds.length:=by omega
   exact hend acc M p
  |cons z zs ih=>
   intro i acc M e p hi
   have hx:ds[i]?=some z:=by
    have:=congrArg (λl=>l[0]?) e
    simpa using this
   have hlt:i<ds.length:=(aaQ.mp hx).1
   refine hstep i z acc M _ hx p λacc' M' p'=>ih (i+1) acc' M' ?_ p' hlt
   rw[<-adS,e]
   rfl
 exact key ds 0 [] M rfl h0 (abp _)
end
end L3
namespace L3
open PySem PySem.Spec PyProof.Rows L2
structure Rv(outer:Scope)(N:List Str)(sc:Scope)(x:Str)(ys:List Str)(fs:List Nat):Prop where
 kind:sc.kind= .function
 PJ:outer.kind= .function
 names:∀y∈sc.names,y.2= .local->sc.names.lookup y.1=some .local
 Rt:∀y∈sc.names,y.2= .free->outer.names.lookup y.1=some .cell
 loc:sc.names.lookup x=some .cell
 cells:sc.names.filter (λy=>y.2== .cell)=[(x,.cell)]
 len:ys.length=fs.length
 at':∀(k:Nat) y,ys[k]?=some y->∃i,fs[k]?=some i/\N[i]?=some y/\sc.names.lookup y=some .free
 nd:(x::ys).Nodup
section
variable{X:Cx}{sc:Scope}{x:Str}{ys:List Str}{fs:List Nat}
end
section
variable{X:Cx}{sc:Scope}{x:Str}{ys:List Str}{fs:List Nat}{elt iter:Expr}{px pos:Pos}{ifs:List Expr}{tt:mR}{te:dg}{ti:dg}
end
end L3
namespace L3
open PySem PySem.Spec PyProof.Rows L2
section
variable{X:Cx}
theorem oA{ds es:List D}(h:ds.length≠es.length):bL ds es=false:=by
 rw[eZ,beq_eq_false_iff_ne.mpr h,adp]
def Tt:R3:=λd e M Q=>∃a b xs ys,d= .ref a/\e= .ref b/\M a=some (.lst xs)/\M b=some (.lst ys)/\xs.all (plain 9)=true/\ys.all (plain 9)=true/\Q (.bl (bL xs ys)) M
theorem PX(hu:X.A.units+64<cLine):mS X (compareOp .Eq) Tt:=by
 constructor
 intro pins s σ H M x y d e v u Q I rm rx ry dx dy ⟨a,b,xs,ys,e1,e2,ha,hb,pa,pb,q⟩
 subst e1;subst e2
 obtain rfl:=aA.mp dx
 obtain rfl:=aA.mp dy
 obtain rfl:v=Value.ref a:=rx
 obtain rfl:u=Value.ref b:=ry
 obtain⟨zs,h1,h2⟩:=rm.lst ha
 obtain⟨ws,h3,h4⟩:=rm.lst hb
 obtain⟨its,rv,pl,hz⟩:=I.list (gR.of (K:=X.K) h1)
 obtain⟨its2,mJ,yY,hz2⟩:=I.list (gR.of (K:=X.K) h3)
 have l1:=h2.length.trans rv.length
 have l2:=h4.length.trans mJ.length
 have fin:∀k,k=bL xs ys->EP X pins σ (Post X.K M H Q) (.bool k) s:=λk e=>⟨.bl k,H,I,rfl,aH rm (bq.mpr rfl) (by rw[e];exact q)⟩
 by_cases hs:its.toArray.size=its2.toArray.size
 ·refine SeqAt.RcAt.lists (A:=X.A) (s:=s) (e:=λj=>eE (xs.getD j .bJ) (ys.getD j .bJ)) pl.isList yY.isList hs (by omega) (jw I.hok (n:=9) (by show X.A.units+1+9<cLine;omega) pa pb h2 h4 rv mJ) _ _ _ _ (fin _ ?_)
  simp only[aax]at hs
  rw[eZ,aax,<-l1]
  have e:ys.length=xs.length:=by omega
  rw[e,acE,beq_self_eq_true,acS]
 ·refine SeqAt.RcAt.lists_lengths (A:=X.A) (s:=s) pl.isList yY.isList (by simpa using hs) (by omega) _ _ _ _ (fin _ ?_)
  simp only[aax]at hs
  exact(oA (by omega)).symm
abbrev PY:=En->Mp->(Option Int->Mp->Prop)->Prop
structure Rw(X:Cx)(e:Option Expr)(t:PY):Prop where
 dn:∃t2:TO,PO X e t2/\∀σ H ρ M Q Q',Rep X.K H σ ρ M->t ρ M Q->(∀o H' M',Fr M H M' H'->Rep X.K H' σ ρ M'->Q o M'->Q' o H')->t2 σ H Q'
def Tu:PY:=λ_ M Q=>Q none M
def MC(t:dg):PY:=λρ M Q=>t ρ M λd M1=>∃i,d= .int i/\Q (some i) M1
theorem Jg:Rw X none Tu:=⟨B5,Iw,λσ H ρ M Q Q' r q k=>k none H M (.refl _ _) r q⟩
theorem wW{e:Expr}{t:dg}(h:cH X e t):Rw X (some e) (MC t):=⟨KD (L3.dn X.K t),Iz h.dn,λσ H ρ M Q Q' r q k=>dW r q λv H' d M' f dv r' ⟨i,e1,q⟩=>by
 subst e1
 obtain rfl:=aX.mp dv
 exact⟨i,rfl,k (some i) H' M' f r' q⟩⟩
def cutD(xs:List D)(lo hi:Option Int):List D:=(xs.drop (HT.qw xs.length 0 lo)).take (HT.qw xs.length xs.length hi-HT.qw xs.length 0 lo)
theorem aF.drop{K:PySem.W.Frag}{H:Hp}:∀{ds:List D} {xs:List V} (n:Nat),aF K H ds xs->aF K H (ds.drop n) (xs.drop n)
 |ds,xs,0,h=>h
 |[],xs,n+1,h=>by rw[aM.mp h];exact aM.mpr rfl
 |d::ds,xs,n+1,h=>by
  obtain⟨v,vs,rfl,_,h2⟩:=aC.mp h
  exact aF.drop n h2
theorem aF.take{K:PySem.W.Frag}{H:Hp}:∀{ds:List D} {xs:List V} (n:Nat),aF K H ds xs->aF K H (ds.take n) (xs.take n)
 |ds,xs,0,h=>aM.mpr rfl
 |[],xs,n+1,h=>by rw[aM.mp h];exact aM.mpr rfl
 |d::ds,xs,n+1,h=>by
  obtain⟨v,vs,rfl,h1,h2⟩:=aC.mp h
  exact aC.mpr ⟨v,vs.take n,rfl,h1,aF.take n h2⟩
def PZ:R3:=λd e M Q=>∃a b xs ys,d= .ref a/\e= .ref b/\M a=some (.lst xs)/\M b=some (.lst ys)/\xs.length+ys.length<=sizeLine/\∀p,M p=none->Q (.ref p) (ay M p (.lst (xs++ys)))
theorem oB:mS X (binaryOp .Add) PZ:=Ro LZ λH M x y d e Q rm dx dy ⟨a,b,xs,ys,e1,e2,ha,hb,hz,q⟩=>by
 subst e1;subst e2
 obtain rfl:=aA.mp dx
 obtain rfl:=aA.mp dy
 obtain⟨zs,h1,h2⟩:=rm.lst ha
 obtain⟨ws,h3,h4⟩:=rm.lst hb
 exact⟨a,b,zs,ws,rfl,rfl,h1,h3,by rw[<-h2.length,<-h4.length];exact hz,λp hp=>⟨.ref p,ay M p (.lst (xs++ys)),Fr.new hp λ_ hb=>aK hb,aA.mpr rfl,rm.newL hp (h2.append h4),q p (rm.free hp)⟩⟩
def Tv(i j:Int):Prop:=MulOk i j\/Ir i j
theorem AV:mS X (binaryOp .Mult) (vo Tv λi j=>i*j):=yL (OC λ_ _ _ _ _ _ _ hc q=>mul_int q (hc.elim MulOk.ok Ir.ok))
end
end L3
namespace L3
open PySem PySem.Spec PyProof.Rows L2
section
variable{X:Cx}
def Ft(M:Mp)(d:D)(xs:List D):Prop:=d= .Dn xs\/∃a,d= .ref a/\M a=some (.lst xs)
theorem Ft.of{M:Mp}{a:Addr}{xs:List D}(h:M a=some (.lst xs)):Ft M (.ref a) xs:= .inr ⟨a,rfl,h⟩
theorem Ft.sq{K:PySem.W.Frag}{H:Hp}{M:Mp}{d:D}{xs:List D}{x:V}(h:Ft M d xs)(rm:bK K H M)(dx:Dat K H d x):∃a zs,x= .ref a/\gR K H a zs/\aF K H xs zs:=by
 rcases h with rfl|⟨a,rfl,hM⟩
 ·obtain⟨a,zs,rfl,h1,h2⟩:=rq.mp dx
  exact⟨a,zs,rfl,h1.sq,h2⟩
 ·obtain rfl:=aA.mp dx
  obtain⟨zs,h1,h2⟩:=rm.lst hM
  exact⟨a,zs,rfl,gR.of h1,h2⟩
def P0:R3:=λd e M Q=>∃xs ys,Ft M d xs/\Ft M e ys/\xs.all (plain 9)=true/\ys.all (plain 9)=true/\Q (.bl (bL xs ys)) M
def P4:R3:=λd e M Q=>∃xs ys,Ft M d xs/\Ft M e ys/\xs.all (plain 9)=true/\ys.all (plain 9)=true/\Q (.bl (!bL xs ys)) M
theorem Fv(hu:X.A.units+64<cLine):mS X (compareOp .Eq) P0:=by
 constructor
 intro pins s σ H M x y d e v u Q I rm rx ry dx dy ⟨xs,ys,ha,hb,pa,pb,q⟩
 obtain⟨a,zs,rfl,h1,h2⟩:=ha.sq rm dx
 obtain⟨b,ws,rfl,h3,h4⟩:=hb.sq rm dy
 obtain rfl:v=Value.ref a:=rx
 obtain rfl:u=Value.ref b:=ry
 obtain⟨its,rv,pl,hz⟩:=I.list h1
 obtain⟨its2,mJ,yY,hz2⟩:=I.list h3
 have l1:=h2.length.trans rv.length
 have l2:=h4.length.trans mJ.length
 have fin:∀k,k=bL xs ys->EP X pins σ (Post X.K M H Q) (.bool k) s:=λk e=>⟨.bl k,H,I,rfl,aH rm (bq.mpr rfl) (by rw[e];exact q)⟩
 by_cases hs:its.toArray.size=its2.toArray.size
 ·refine SeqAt.RcAt.lists (A:=X.A) (s:=s) (e:=λj=>eE (xs.getD j .bJ) (ys.getD j .bJ)) pl.isList yY.isList hs (by omega) (jw I.hok (n:=9) (by show X.A.units+1+9<cLine;omega) pa pb h2 h4 rv mJ) _ _ _ _ (fin _ ?_)
  simp only[aax]at hs
  rw[eZ,aax,<-l1]
  have e:ys.length=xs.length:=by omega
  rw[e,acE,beq_self_eq_true,acS]
 ·refine SeqAt.RcAt.lists_lengths (A:=X.A) (s:=s) pl.isList yY.isList (by simpa using hs) (by omega) _ _ _ _ (fin _ ?_)
  simp only[aax]at hs
  exact(oA (by omega)).symm
theorem nC(hu:X.A.units+64<cLine):mS X (compareOp .NotEq) P4:=by
 constructor
 intro pins s σ H M x y d e v u Q I rm rx ry dx dy ⟨xs,ys,ha,hb,pa,pb,q⟩
 obtain⟨a,zs,rfl,h1,h2⟩:=ha.sq rm dx
 obtain⟨b,ws,rfl,h3,h4⟩:=hb.sq rm dy
 obtain rfl:v=Value.ref a:=rx
 obtain rfl:u=Value.ref b:=ry
 obtain⟨its,rv,pl,hz⟩:=I.list h1
 obtain⟨its2,mJ,yY,hz2⟩:=I.list h3
 have l1:=h2.length.trans rv.length
 have l2:=h4.length.trans mJ.length
 have fin:∀k,k=(!bL xs ys)->EP X pins σ (Post X.K M H Q) (.bool k) s:=λk e=>⟨.bl k,H,I,rfl,aH rm (bq.mpr rfl) (by rw[e];exact q)⟩
 by_cases hs:its.toArray.size=its2.toArray.size
 ·refine SeqAt.RcNeAt.lists (A:=X.A) (s:=s) (e:=λj=>eE (xs.getD j .bJ) (ys.getD j .bJ)) pl.isList yY.isList hs (by omega) (jw I.hok (n:=9) (by show X.A.units+1+9<cLine;omega) pa pb h2 h4 rv mJ) _ _ _ _ (fin _ ?_)
  simp only[aax]at hs
  rw[eZ,aax,<-l1]
  have e:ys.length=xs.length:=by omega
  rw[e,acE,beq_self_eq_true,acS]
 ·refine SeqAt.RcNeAt.lists_lengths (A:=X.A) (s:=s) pl.isList yY.isList (by simpa using hs) (by omega) _ _ _ _ (fin _ ?_)
  simp only[aax]at hs
  rw[oA (by omega)]
  rfl
def ME:List D->Mp->DK->Prop:=λds M Q=>∃d xs,ds=[d]/\Ft M d xs/\∀p,M p=none->Q (.ref p) (ay M p (.lst xs))
theorem pM:Call3 X (.type "list") ME:=KN wH λH M xs ds Q rm dx ⟨d,ys,e1,hs,q⟩=>by
 subst e1
 obtain⟨v,rfl,hv⟩:=sj dx
 obtain⟨a,zs,rfl,h1,h2⟩:=hs.sq rm hv
 exact⟨a,zs,rfl,.inl h1,λp hp=>⟨.ref p,ay M p (.lst ys),Fr.new hp λ_ hb=>aK hb,aA.mpr rfl,rm.newL hp h2,q p (rm.free hp)⟩⟩
def Tw(te:dg)(tl th:PY):dg:=λρ M Q=>te ρ M λd M1=>tl ρ M1 λlo M2=>th ρ M2 λhi M3=>∃xs,Ft M3 d xs/\∀p,M3 p=none->Q (.ref p) (ay M3 p (.lst (cutD xs lo hi)))
theorem oE{e:Expr}{lo hi:Option Expr}{te:dg}{tl th:PY}{p2 pos:Pos}(he:cH X e te)(hl:Rw X lo tl)(hh:Rw X hi th):cH X (.Subscript e (.Slice lo hi none p2) pos) (Tw te tl th):=by
 obtain⟨Zz,pl,gl⟩:=hl.dn
 obtain⟨ZA,ph,gh⟩:=hh.dn
 refine up (EL ID he.dn pl ph) λσ H ρ M Q r q=>dW r q λv H' d M' f dv r' q1=>gl _ _ _ _ _ _ r' q1 λlo H2 M2 f2 r2 q2=>gh _ _ _ _ _ _ r2 q2 λhi H3 M3 f3 r3 ⟨xs,hL,q3⟩=>?_
 obtain⟨a,zs,rfl,hz,hd⟩:=hL.sq r3.mem (Dat.mono ((f2.trans f3).ext r'.mem) _ _ dv)
 have ec:cutD xs lo hi=(xs.drop (HT.qw zs.length 0 lo)).take (HT.qw zs.length zs.length hi-HT.qw zs.length 0 lo):=by unfold cutD;rw[hd.length]
 refine⟨a,zs,rfl,hz,λp hp=>⟨.ref p,ay M3 p (.lst (cutD xs lo hi)),((f.trans f2).trans f3).trans (Fr.new hp λ_ hb=>aK hb),aA.mpr rfl,r3.mem.newL hp ?_,q3 p (r3.mem.free hp)⟩⟩
 rw[ec]
 exact aF.take _ (aF.drop _ hd)
end
end L3
namespace L3
open PySem PySem.Spec PyProof.Rows L2
section
variable{X:Cx}
def MF:R3:=λd e M Q=>∃a b a1 a2 b1 b2 x1 x2 y1 y2,d= .ref a/\e= .ref b/\M a=some (.lst [.ref a1,.ref a2])/\M b=some (.lst [.ref b1,.ref b2])/\M a1=some (.lst x1)/\M a2=some (.lst x2)/\M b1=some (.lst y1)/\M b2=some (.lst y2)/\
 a1≠b1/\a2≠b2/\x1.all (plain 9)=true/\x2.all (plain 9)=true/\y1.all (plain 9)=true/\y2.all (plain 9)=true/\Q (.bl (bL x1 y1 && bL x2 y2)) M
theorem eG{pins:List (Addr ×Obj)}{σ:St}{H:Hp}{s:Shared}{M:Mp}{A:Around}(I:Inv X pins σ H s)(rm:bK X.K H M)(hu:A.units+12<cLine){a b:Addr}{xs ys:List D}(hne:a≠b)(ha:M a=some (.lst xs))(hb:M b=some (.lst ys))(pa:xs.all (plain 9)=true)(pb:ys.all (plain 9)=true) :
 SeqAt.EqAt A s (.ref a) (.ref b) (bL xs ys):=by
 obtain⟨zs,h1,h2⟩:=rm.lst ha
 obtain⟨ws,h3,h4⟩:=rm.lst hb
 obtain⟨its,rv,pl,hz⟩:=I.list (gR.of (K:=X.K) h1)
 obtain⟨its2,mJ,yY,hz2⟩:=I.list (gR.of (K:=X.K) h3)
 have l1:=h2.length.trans rv.length
 have l2:=h4.length.trans mJ.length
 refine SeqAt.EqAt.of_refs hne ?_
 by_cases hs:its.toArray.size=its2.toArray.size
 ·have key:=SeqAt.RcAt.lists (A:=A) (s:=s) (e:=λj=>eE (xs.getD j .bJ) (ys.getD j .bJ)) pl.isList yY.isList hs (by omega) (jw I.hok (n:=9) (by show A.units+1+9<cLine;omega) pa pb h2 h4 rv mJ)
  simp only[aax]at hs
  have e:ys.length=xs.length:=by omega
  rw[eZ,e,acE,beq_self_eq_true,acS]
  rw[aax,<-l1]at key
  exact key
 ·have key:=SeqAt.RcAt.lists_lengths (A:=A) (s:=s) pl.isList yY.isList (by simpa using hs) (by omega)
  simp only[aax]at hs
  rw[oA (by omega)]
  exact key
theorem Ck(hu:X.A.units+64<cLine):mS X (compareOp .Eq) MF:=by
 constructor
 intro pins s σ H M x y d e v u Q I rm rx ry dx dy hx
 obtain⟨a,b,a1,a2,b1,b2,x1,x2,y1,y2,e1,e2,ha,hb,h1,h2,h3,h4,n1,n2,p1,p2,p3,p4,q⟩:=hx
 subst e1;subst e2
 obtain rfl:=aA.mp dx
 obtain rfl:=aA.mp dy
 obtain rfl:v=Value.ref a:=rx
 obtain rfl:u=Value.ref b:=ry
 obtain⟨zs,g1,g2⟩:=rm.lst ha
 obtain⟨ws,g3,g4⟩:=rm.lst hb
 obtain⟨z1,z2,rfl,k1,k2⟩:=kM g2
 obtain⟨w1,w2,rfl,k3,k4⟩:=kM g4
 obtain rfl:=aA.mp k1
 obtain rfl:=aA.mp k2
 obtain rfl:=aA.mp k3
 obtain rfl:=aA.mp k4
 obtain⟨its,rv,pl,hz⟩:=I.list (gR.of (K:=X.K) g1)
 obtain⟨its2,mJ,yY,hz2⟩:=I.list (gR.of (K:=X.K) g3)
 obtain⟨u1,u2,rfl,r1,r2⟩:=vals2 rv
 obtain⟨v1,v2,rfl,r3,r4⟩:=vals2 mJ
 obtain rfl:u1=Value.ref a1:=r1
 obtain rfl:u2=Value.ref a2:=r2
 obtain rfl:v1=Value.ref b1:=r3
 obtain rfl:v2=Value.ref b2:=r4
 have c1:=eG (A:=X.A.in1) I rm (by show X.A.units+1+12<cLine;omega) n1 h1 h3 p1 p3
 have c2:=eG (A:=X.A.in1) I rm (by show X.A.units+1+12<cLine;omega) n2 h2 h4 p2 p4
 refine SeqAt.RcAt.lists (A:=X.A) (s:=s) (e:=λj=>if j=0 then bL x1 y1 else bL x2 y2) pl.isList yY.isList rfl (by omega) ?_ _ _ _ _ ⟨.bl _,H,I,rfl,aH rm (bq.mpr rfl) ?_⟩
 ·intro j hj1 hj2
  match j,hj1,hj2 with
  |0,_,_=>exact c1
  |1,_,_=>exact c2
 ·have e:(List.range #[Value.ref a1,Value.ref a2].size).all (λj=>if j=0 then bL x1 y1 else bL x2 y2)=(bL x1 y1 && bL x2 y2):=by
   simp[List.range,List.range.loop]
  rw[e]
  exact q
end
end L3
namespace L3
open PySem PySem.Spec PyProof.Rows L2
theorem sV{ps:List Pl}{i:Nat}{x:D}(h:(ps.map Pl.d)[i]?=some x):∃p,ps[i]?=some p/\x=p.d:=by
 rw[aa0]at h
 cases e:ps[i]? with
 |none=>rw[e]at h;cases h
 |some p=>rw[e]at h;exact⟨p,rfl,(Option.some.inj h).symm⟩
theorem Fw{ps:List Pl}{f:Pl->Bool}{i:Nat}{p:Pl}(h:ps[i]?=some p):(ps.take (i+1)).any f=((ps.take i).any f || f p):=by
 rw[acr,h,List.any_append]
 simp
theorem AW(ns:List Int):(ns.map D.int).all (plain 9)=true:=by
 rw[abh]
 intro d hd
 obtain⟨i,_,rfl⟩:=aaI.mp hd
 rfl
theorem sW{ns:List Int}{k:Int}(h0:0<=k)(h1:k<ns.length):∃z:Int,z∈ns/\rW (ns.map D.int) k=some (.int z):=by
 obtain⟨j,rfl⟩:∃j:Nat,k=(j:Int):=⟨k.toNat,by omega⟩
 have hlt:j<ns.length:=by omega
 refine⟨ns[j],ac4 hlt,eV ?_⟩
 rw[aa0,aau hlt]
 rfl
theorem AX{ns:List Int}{n:Nat}{z:Int}(h:ns.all (λz=>decide (z.natAbs<2 ^ n))=true)(m:z∈ns):Sm n z:=of_decide_eq_true (abh.mp h z m)
theorem gO{q:Pl}{ps:List Pl}:inD q.d (ps.map Pl.d)=decide (q∈ps):=by
 unfold inD
 rw[aa8,ac5,decide_eq_true_eq]
 constructor
 ·rintro⟨x,hx,e⟩
  obtain⟨p,hp,rfl⟩:=aaI.mp hx
  rw[nt]at e
  rw[<-of_decide_eq_true e];exact hp
 ·intro hq
  exact⟨q.d,aaI.mpr ⟨q,hq,rfl⟩,by rw[nt];exact decide_eq_true rfl⟩
theorem Fx(ds:List D):bL ds []=ds.isEmpty:=by
 cases ds<;>simp[bL]
theorem cC{ds:List D}(h:ds.all (plain 9)=true):bL ds ds=true:=by
 have:=yM 10 (.tup ds) h
 rwa [jH]at this
theorem Fy{α:Type}(g:α->D)(xs:List α)(n:Nat)(h:n<=xs.length):cutD (xs.map g) (some (n:Int)) none=(xs.drop n).map g:=by
 unfold cutD
 rw[HT.B4,HT.yG]
 rw[aas,adO h,List.map_drop]
 exact adg (by simp)
end L3
namespace Att
open PySem PySem.W PySem.Calls PyProof.Rows
def Tz(z:Int):Prop:=Builtin.Int.intBits z<=1048576
theorem sX{N:Nat}:∀{ns:List Int},WData.weightAll (ns.map WData.int)<=N->∀z∈ns,Builtin.Int.intBits z<=N
 |[],_,z,m=>by cases m
 |n::ns,h,z,m=>by
  have e:WData.weightAll ((n::ns).map WData.int)=Builtin.Int.intBits n+1+WData.weightAll (ns.map WData.int):=by
   rw[aaV]
   simp only[WData.weightAll,WData.weight,Builtin.Int.intBits]
  rw[e]at h
  rcases aat.mp m with rfl|m
  ·omega
  ·exact sX (by omega) z m
theorem MG{ns:List Int}(h:WData.layableAll [WData.list (ns.map WData.int)]=true):∀z∈ns,Tz z:=by
 have h:WData.layable (WData.list (ns.map WData.int))=true:=by simpa[WData.layableAll]using h
 unfold WData.layable at h
 have h:=of_decide_eq_true (abD.mp h).2
 have e:WData.weight (WData.list (ns.map WData.int))=WData.weightAll (ns.map WData.int):=by simp only[WData.weight]
 rw[e]at h
 exact λz m=>sX h z m
theorem wX{l:OpenLaw}{n:Nat}{q:Program}{loose:List Str}{XP:(Str->Option Value)->Heap->Prop}{YP:World->Heap->Prop}{d:DefRec}
 (hn:l.most=some n)(hdf:d.params.defaults=[])
 (call:∀(w:World) (s₀ s₁:Shared) (mg mb:Str->Option Value) (fa:Addr) (o:Obj) (pm cd doc:Value) (a:Addr) (vs:List Value) (ns:List Int),
  Ground q loose [] XP w s₀ mg mb s₁.heap->YP w s₁.heap->
  s₁.heap.get? fa=some o->o.data= .func (docDef d.name d.params d.body d.scope pm cd doc)->s₁.heap.CodeRec cd d.name->mg d.name=some (.ref fa)->
  s₁.heap.get? a=some {cls:= .type "list",data:= .seq vs.toArray}->IntsAre vs ns->ns.length<=n->(∀z∈ns,Tz z)->s₁.gens= #[]->
  codeAny (model l.prog w) callerA (.call (.ref fa) ⟨[.ref a],[]⟩) (λr s'=>r= .ok (.ret (.bool true))/\OldK s₁.heap s'.heap/\s'.os=s₁.os/\AllBare s'.gens) s₁) :
 WalkO q loose XP YP l.row.toRowW d [] (λf vs=>PySem.call f vs):=by
 intro w s₀ s₁ mg mb G Y fa o pm cd doc dV kV ho hd hcd hD hmg hg args vals as hpre hlay hrd hwl hlo
 obtain rfl:dV= .none:=Dflts.none hD hdf
 obtain rfl:kV= .none:=Dflts.noKw hD
 obtain⟨a,vs,ns,rfl,rfl,hobj,hints,hlen⟩:=Dk hn hpre hwl
 refine enter_call (codeAny_mono (call w s₀ s₁ mg mb fa o pm cd doc a vs ns G Y ho (fd_plain hd) hcd hmg hobj hints hlen (MG hlay) hg) λr s' hq=>?_)
 obtain⟨rfl,h2,h3,h4⟩:=hq
 exact⟨.inl ⟨.bool true,.bool true,[],rfl,λ_=>rfl,.bool true,Dm l _,λ_=>⟨List.Pairwise.nil,λ_ hm=>(nomatch hm)⟩⟩,h2,h3,h4⟩
end Att
namespace L2
open PySem PySem.Spec PyProof.Rows
end L2
namespace L3
open PySem PySem.Spec PyProof.Rows L2 Att
section
variable{X:Cx}
end
end L3
namespace L3
open PySem PySem.Spec PyProof.Rows L2
def cX:List Pl->List Pl->Bool
 |[],[]=>false
 |[],_::_=>true
 |_::_,[]=>false
 |p::ps,q::qs=>if p=q then cX ps qs else decide (aQ p q)
theorem kZ:∀ps,cX ps ps=false
 |[]=>rfl
 |p::ps=>by unfold cX;rw[if_pos rfl];exact kZ ps
theorem k7:∀ps qs,cX ps qs=true\/ps=qs\/cX qs ps=true
 |[],[]=> .inr (.inl rfl)
 |[],_::_=> .inl rfl
 |_::_,[]=> .inr (.inr rfl)
 |p::ps,q::qs=>by
  unfold cX
  by_cases e:p=q
  ·subst e
   rw[if_pos rfl,if_pos rfl]
   rcases k7 ps qs with h|h|h
   ·exact .inl h
   ·exact .inr (.inl (by rw[h]))
   ·exact .inr (.inr h)
  ·rw[if_neg e,if_neg (Ne.symm e)]
   rcases jJ e with h|h
   ·exact .inl (decide_eq_true h)
   ·exact .inr (.inr (decide_eq_true h))
theorem iw:∀ps qs rs,cX ps qs=true->cX qs rs=true->cX ps rs=true
 |[],[],_,h,_=>by cases h
 |[],_::_,[],_,h=>by cases h
 |[],_::_,_::_,_,_=>rfl
 |_::_,[],_,h,_=>by cases h
 |_::_,_::_,[],_,h=>by cases h
 |p::ps,q::qs,r::rs,h1,h2=>by
  unfold cX at *
  by_cases e1:p=q
  ·subst e1
   rw[if_pos rfl]at h1
   by_cases e2:p=r
   ·rw[if_pos e2]at h2 ⊢;exact iw ps qs rs h1 h2
   ·rw[if_neg e2]at h2 ⊢;exact h2
  ·rw[if_neg e1]at h1
   have b1:=of_decide_eq_true h1
   by_cases e2:q=r
   ·subst e2;rw[if_neg e1];exact h1
   ·rw[if_neg e2]at h2
    have b3:=aV b1 (of_decide_eq_true h2)
    rw[if_neg (kU b3)]
    exact decide_eq_true b3
def uJ(n:Nat)(h:Heap)(v:Value)(ps:List Pl):Prop:=ps.length=n/\∃(a:Addr) (o:Obj) (its:List Value) (m:Nat),v= .ref a/\h.get? a=some o/\o.cls= .type "tuple"/\o.data= .seq its.toArray m/\dX h its ps
theorem dX.grow{h h':Heap}(g:kY h h'):∀{us:List Value} {ps:List Pl},dX h us ps->dX h' us ps
 |_,_,.nil=> .nil
 |_,_,.cons a r=> .cons (a.grow g) (dX.grow g r)
theorem uJ.grow{n:Nat}{h h':Heap}{v:Value}{ps:List Pl}(a:uJ n h v ps)(g:kY h h'):uJ n h' v ps:=by
 obtain⟨hl,b,o,its,m,h1,h2,h3,h4,h5⟩:=a
 exact⟨hl,b,o,its,m,h1,g _ _ h2,h3,h4,h5.grow g⟩
theorem uJ.inj{n:Nat}{h:Heap}{v:Value}{ps qs:List Pl}(a:uJ n h v ps)(b:uJ n h v qs):ps=qs:=by
 obtain⟨_,a1,o,its,m,rfl,h2,h3,h4,h5⟩:=a
 obtain⟨_,a2,o',its',m',e,k2,k3,k4,k5⟩:=b
 injection e with e
 subst e
 rw[h2]at k2
 injection k2 with k2
 subst k2
 rw[h4]at k4
 injection k4 with k4 _
 have k4:its=its':=by simpa using k4
 subst k4
 rw[<-h5.keys,<-k5.keys]
open Classical in
noncomputable def Er(n:Nat)(h:Heap):KeyKind where
 α:=List Pl
 blt p q:=cX p q
 irrefl p:=kZ p
 trans p q r a b:=iw p q r a b
 negTrans p q r a:=by
  rcases k7 p q with c|c|c
  ·exact .inl c
  ·subst c;exact .inr a
  ·exact .inr (iw _ _ _ c a)
 total p q a b:=by
  rcases k7 p q with c|c|c
  ·rw[a]at c;cases c
  ·exact c
  ·rw[b]at c;cases c
 keyOf v:=if e:∃p,uJ n h v p then some e.choose else none
 dflt:=[]
open Classical in
theorem Cm{n:Nat}{h:Heap}{v:Value}{p:List Pl}(a:uJ n h v p):(Er n h).keyOf v=some p:=by
 have e:∃p,uJ n h v p:=⟨p,a⟩
 show(if e:∃p,uJ n h v p then some e.choose else none)=some p
 rw[dif_pos e,uJ.inj e.choose_spec a]
open Classical in
theorem FA{n:Nat}{h:Heap}{v:Value}{p:List Pl}(a:(Er n h).keyOf v=some p):uJ n h v p:=by
 have a:(if e:∃p,uJ n h v p then some e.choose else none)=some p:=a
 by_cases e:∃p,uJ n h v p
 ·rw[dif_pos e]at a
  have:=e.choose_spec
  rwa [Option.some.inj a]at this
 ·rw[dif_neg e]at a;cases a
section
variable{P:Program}{w:World}{A:Around}{E:Value->Shared->Prop}{s:Shared}
theorem sY{u v:Value}{p q:Pl}{Q:Bool->Shared->Prop}(hu:A.units<cLine)(a:mW s.heap u p)(b:mW s.heap v q)(h:Q (decide (p=q)) s):wpAny (model P w) A (eqBool u v) Q E s:=by
 obtain⟨a1,o1,t1,u1,n1,rfl,h2,h3,h4⟩:=a
 obtain⟨a2,o2,t2,u2,n2,rfl,k2,k3,k4⟩:=b
 refine wpAny_eqBool_tuple (knd:=intKind P w) (x:=[p.x,p.y]) (y:=[q.x,q.y]) hu ⟨o1,_,n1,h2,h3,h4,?_⟩ ⟨o2,_,n2,k2,k3,k4,?_⟩ ?_
 ·exact .cons (by simp[intKind,Value.isInt]) (.cons (by simp[intKind,Value.isInt]) .nil)
 ·exact .cons (by simp[intKind,Value.isInt]) (.cons (by simp[intKind,Value.isInt]) .nil)
 ·have e:decide ([p.x,p.y]=[q.x,q.y])=decide (p=q):=by
   rw[decide_eq_decide]
   cases p;cases q
   simp
  rw[e];exact h
theorem k8{u v:Value}{p q:Pl}{Q:Bool->Shared->Prop}(hu:A.units<cLine)(a:mW s.heap u p)(b:mW s.heap v q)(h:Q (decide (aQ p q)) s):wpAny (model P w) A (oneLt' false u v) Q E s:=by
 obtain⟨l,its,rfl,h1,h2⟩:=a.tup
 obtain⟨l',its',rfl,k1,k2⟩:=b.tup
 rw[oneLt'_eq]
 simp only[aaD,if_false]
 apply wpAny_bind
 refine(HT.ni h1 k1 h2 k2 hu ?_:wpAny (model P w) A (compareOp .Lt (.ref l) (.ref l')) _ E s)
 refine wpAny_truthy_bool ?_
 rw[oi]
 exact h
theorem dX.cons_inv{h:Heap}{us:List Value}{p:Pl}{ps:List Pl}(a:dX h us (p::ps)):∃u vs,us=u::vs/\mW h u p/\dX h vs ps:=by
 cases a with
 |cons a r=>exact⟨_,_,rfl,a,r⟩
theorem dX.nil_inv{h:Heap}{us:List Value}(a:dX h us []):us=[]:=by
 cases a
 rfl
theorem FD{α:Type}{qs:List α}(h:qs.length=2):∃u v,qs=[u,v]:=by
 match qs,h with
 |[u,v],_=>exact⟨u,v,rfl⟩
theorem P5{n:Nat}(hn:n=2\/n=3){t:Shared}{x y:Value}{ps qs:List Pl}{R:Bool->Shared->Prop}(hu:A.units<cLine)(kx:uJ n t.heap x ps)(ky:uJ n t.heap y qs)(hR:R (cX ps qs) t):wpAny (model P w) A (keyLt' (tuples' false) x y) R E t:=by
 obtain⟨l1,a,o,its,m,rfl,h2,h3,h4,h5⟩:=kx
 obtain⟨l2,b,o',its',m',rfl,k2,k3,k4,k5⟩:=ky
 rw[vC]
 apply wpAny_bind;apply listItems_at h2 h4
 apply wpAny_bind;apply listItems_at k2 k4
 rcases hn with rfl|rfl
 ·obtain⟨p1,p2,rfl⟩:=FD l1
  obtain⟨q1,q2,rfl⟩:=FD l2
  obtain⟨u1,us,rfl,a1,h5⟩:=h5.cons_inv
  obtain⟨u2,us,rfl,a2,h5⟩:=h5.cons_inv
  obtain rfl:=h5.nil_inv
  obtain⟨v1,vs,rfl,b1,k5⟩:=k5.cons_inv
  obtain⟨v2,vs,rfl,b2,k5⟩:=k5.cons_inv
  obtain rfl:=k5.nil_inv
  ·clear h2 h4 k2 k4 h3 k3
   simp only[ab0,abL,acn,ac3,adk,ab5,acq,bind_assoc,acI]
   apply wpAny_bind
   refine sY hu a1 b1 ?_
   unfold cX at hR
   by_cases e1:p1=q1
   ·rw[if_pos e1]at hR
    rw[decide_eq_true e1]
    simp only[abk,aaD,if_false,pure_bind,bind_assoc]
    apply wpAny_bind
    refine sY hu a2 b2 ?_
    unfold cX at hR
    by_cases e2:p2=q2
    ·rw[if_pos e2]at hR
     rw[decide_eq_true e2]
     simp only[abk,aaD,if_false,pure_bind]
     exact wpAny_pure hR
    ·rw[if_neg e2]at hR
     rw[decide_eq_false e2]
     simp only[abS,if_true,bind_assoc,pure_bind]
     apply wpAny_bind
     exact k8 hu a2 b2 (wpAny_pure hR)
   ·rw[if_neg e1]at hR
    rw[decide_eq_false e1]
    simp only[abS,if_true,bind_assoc,pure_bind]
    apply wpAny_bind
    exact k8 hu a1 b1 (wpAny_pure hR)
 ·obtain⟨p1,p2,p3,rfl⟩:=om l1
  obtain⟨q1,q2,q3,rfl⟩:=om l2
  obtain⟨u1,us,rfl,a1,h5⟩:=h5.cons_inv
  obtain⟨u2,us,rfl,a2,h5⟩:=h5.cons_inv
  obtain⟨u3,us,rfl,a3,h5⟩:=h5.cons_inv
  obtain rfl:=h5.nil_inv
  obtain⟨v1,vs,rfl,b1,k5⟩:=k5.cons_inv
  obtain⟨v2,vs,rfl,b2,k5⟩:=k5.cons_inv
  obtain⟨v3,vs,rfl,b3,k5⟩:=k5.cons_inv
  obtain rfl:=k5.nil_inv
  ·clear h2 h4 k2 k4 h3 k3
   simp only[ab0,abL,acn,ac3,adk,ab5,acq,bind_assoc,acI]
   apply wpAny_bind
   refine sY hu a1 b1 ?_
   unfold cX at hR
   by_cases e1:p1=q1
   ·rw[if_pos e1]at hR
    rw[decide_eq_true e1]
    simp only[abk,aaD,if_false,pure_bind,bind_assoc]
    apply wpAny_bind
    refine sY hu a2 b2 ?_
    unfold cX at hR
    by_cases e2:p2=q2
    ·rw[if_pos e2]at hR
     rw[decide_eq_true e2]
     simp only[abk,aaD,if_false,pure_bind,bind_assoc]
     apply wpAny_bind
     refine sY hu a3 b3 ?_
     unfold cX at hR
     by_cases e3:p3=q3
     ·rw[if_pos e3]at hR
      rw[decide_eq_true e3]
      simp only[abk,aaD,if_false,pure_bind]
      exact wpAny_pure hR
     ·rw[if_neg e3]at hR
      rw[decide_eq_false e3]
      simp only[abS,if_true,bind_assoc,pure_bind]
      apply wpAny_bind
      exact k8 hu a3 b3 (wpAny_pure hR)
    ·rw[if_neg e2]at hR
     rw[decide_eq_false e2]
     simp only[abS,if_true,bind_assoc,pure_bind]
     apply wpAny_bind
     exact k8 hu a2 b2 (wpAny_pure hR)
   ·rw[if_neg e1]at hR
    rw[decide_eq_false e1]
    simp only[abS,if_true,bind_assoc,pure_bind]
    apply wpAny_bind
    exact k8 hu a1 b1 (wpAny_pure hR)
theorem MH{n:Nat}(hn:n=2\/n=3)(hu:A.units<cLine){h:Heap}{t:Shared}(g:kY h t.heap):Ask P w A t (Er n h) (tuples' false):=
 ⟨λE x y p q R kx ky hR=>P5 hn hu ((FA kx).grow g) ((FA ky).grow g) hR⟩
theorem Jh{n:Nat}(hn:n=2\/n=3){vs:List Value}(h2:1<=vs.length)(hv:∀v∈vs,∃p,uJ n s.heap v p){Q:SortKind->Shared->Prop}(h:Q (tuples' false) s):wpAny (model P w) A (keyKind' vs.toArray) Q E s:=by
 rw[keyKind'_eq,acs]
 simp only[bind_map_left]
 apply wpAny_bind
 refine oh (λ_ b=>∃u p,b=some u/\mW s.heap u p) vs _ (λv hm Q hQ=>?_) λbs hb=>?_
 ·obtain⟨ps,hl,a,o,its,m,rfl,k2,k3,k4,k5⟩:=hv v hm
  rw[vD]
  apply wpAny_bind
  refine wpAny_typeOf (T:= "tuple") ⟨o,k2,k3⟩ ?_
  have e:(Value.type "tuple" !=Value.type "tuple")=false:=by decide
  rw[e]
  simp only[aaD,if_false,pure_bind]
  apply wpAny_bind;apply listItems_at k2 k4
  cases ps with
  |nil=>simp at hl;omega
  |cons p ps=>
   obtain⟨u,us,rfl,a,_⟩:=k5.cons_inv
   exact wpAny_pure (hQ _ ⟨u,p,rfl,a⟩)
 ·have all:∀(vs:List Value) (bs:List (Option Value)),Paired (λ_ b=>∃u p,b=some u/\mW s.heap u p) vs bs->bs.length=vs.length/\(∀b∈bs,∃u p,b=some u/\mW s.heap u p):=by
   intro vs
   induction vs with
   |nil=>intro bs q;cases q;exact⟨rfl,λ_ z=>by cases z⟩
   |cons v vs ih=>
    intro bs q
    cases q with
    |cons q1 q2=>
     obtain⟨l,m⟩:=ih _ q2
     refine⟨by simp[l],λb hb=>?_⟩
     rcases aat.mp hb with rfl|hb
     ·exact q1
     ·exact m b hb
  obtain⟨hl,hm⟩:=all vs bs hb
  have c:(bs.toArray.all λb=>b.isSome)=true:=by
   simp only[acz,abh]
   intro b hb
   obtain⟨u,p,rfl,_⟩:=hm b hb
   rfl
  rw[if_pos c]
  apply wpAny_bind;apply wpAny_rule
  rw[oneTypeOnly'_eq]
  have ef:bs.toArray.filterMap id=(bs.filterMap id).toArray:=by simp
  rw[ef,acs]
  simp only[bind_map_left,bind_assoc]
  apply wpAny_bind
  refine oh (λ_ b=>b=Value.type "tuple") _ _ (λv hv' Q hQ=>?_) λcs hc=>?_
  ·obtain⟨b,hb1,hb2⟩:=acm.mp hv'
   obtain⟨u,p,rfl,a,o,t,u',m,rfl,k2,k3,k4⟩:=hm b hb1
   have hb2:some (Value.ref a)=some v:=hb2
   cases hb2
   exact wpAny_typeOf (T:= "tuple") ⟨o,k2,k3⟩ (hQ _ rfl)
  ·have len:1<=(bs.filterMap id).length:=by
    cases bs with
    |nil=>simp at hl;omega
    |cons b bs=>
     obtain⟨u,p,rfl,_⟩:=hm b (aaG ..)
     simp
   have all2:∀(us cs:List Value),Paired (λ_ b=>b=Value.type "tuple") us cs->cs=us.map λ_=>Value.type "tuple" :=by
    intro us
    induction us with
    |nil=>intro cs q;cases q;rfl
    |cons u us ih=>intro cs q;cases q with|cons q1 q2=>rw[q1,ih _ q2];rfl
   rw[all2 _ _ hc]
   generalize bs.filterMap id=us at len
   cases us with
   |nil=>simp at len
   |cons u us=>
    have e0:(List.map (λ_=>Value.type "tuple") (u::us)).toArray[0]?=some (Value.type "tuple"):=by simp
    rw[e0]
    have e1:((List.map (λ_=>Value.type "tuple") (u::us)).toArray.all λx=>x==Value.type "tuple")=true:=by
     simp only[acz,acD,abh]
     intro _ _;rfl
    simp only[e1,if_true,pure_bind]
    exact wpAny_pure h
end
noncomputable def wY(n:Nat)(h:Heap)(v:Value):List Pl:=Option.getD (α:=List Pl) ((Er n h).keyOf v) []
theorem Cn{n:Nat}{h:Heap}{v:Value}{p:List Pl}(a:uJ n h v p):wY n h v=p:=by
 unfold wY
 have e:(Er n h).keyOf v=some p:=Cm a
 exact congrArg (λo=>Option.getD (α:=List Pl) o []) e
def k9(n:Nat)(h:Heap):List Value->List (List Pl)->Prop:=Paired (uJ n h)
theorem k9.keys{n:Nat}{h:Heap}:∀{us:List Value} {ps:List (List Pl)},k9 n h us ps->us.map (wY n h)=ps
 |_,_,.nil=>rfl
 |_,_,.cons a r=>by rw[aaV,Cn a,k9.keys r]
theorem k9.mem{n:Nat}{h:Heap}:∀{us:List Value} {ps:List (List Pl)} {v:Value},k9 n h us ps->v∈us->∃p,uJ n h v p
 |_,_,v,.nil,m=>by cases m
 |_,_,v,.cons a r,m=>by
  rcases aat.mp m with rfl|m
  ·exact⟨_,a⟩
  ·exact k9.mem r m
theorem yZ{n:Nat}(hn:n=2\/n=3){P:Program}{w:World}{A:Around}{E:Value->Shared->Prop}{s:Shared}{l:Addr}{vs:List Value}{ps:List (List Pl)}{Q:Value->Shared->Prop}(hu:A.units+64<cLine)(hl:s.heap.IsList l vs.toArray)(hv:k9 n s.heap vs ps)(h64:vs.length<64)
 (h:∀(out:List Value) (qs:List (List Pl)),(∀v∈out,v∈vs)->qs=out.map (wY n s.heap)->qs.Perm ps->qs.Pairwise (λp q=>cX q p=false)->Q (.ref (s.heap.objs.size+1)) {s with heap:=sortedAll s.heap vs out.toArray}) :
 wpAny (model P w) A (call (.builtin "sorted") [.ref l]) Q E s:=by
 have hk:KeysOf (Er n s.heap) (pairsOf vs):=λp hp=>by
  rw[pairsOf_toList]at hp
  obtain⟨q,a⟩:=hv.mem (dO hp).2
  exact⟨q,Cm a⟩
 refine vB (κ:=Er n s.heap) (kd:=tuples' false) hl hk (λt E Q g h2 q=>Jh hn (by omega) (λv m=>?_) q) (λt g=>MH hn (by show A.units+1+1<cLine;omega) g) h64 λy hp hs=>?_
 ·obtain⟨p,a⟩:=hv.mem m
  exact⟨p,a.grow g⟩
 ·have pl:y.toList.Perm (vs.zip vs):=by rw[<-pairsOf_toList];exact Array.perm_iff_toList_perm.mp hp
  have same:∀p∈y.toList,p.1=p.2/\p.1∈vs:=λp m=>dO (pl.mem_iff.mp m)
  have eo:y.map (·.2)=(y.toList.map (·.2)).toArray:=by rw[<-Array.toList_map,Array.toArray_toList]
  rw[eo]
  refine h (y.toList.map (·.2)) _ (λv m=>?_) rfl ?_ ?_
  ·obtain⟨p,m2,rfl⟩:=aaI.mp m
   rw[<-(same p m2).1];exact(same p m2).2
  ·have q:=(pl.map (λp=>p.2)).map (wY n s.heap)
   have e:(vs.zip vs).map (λp=>p.2)=vs:=adL (aaz _)
   rw[e,hv.keys]at q
   exact q
  ·rw[acR]
   intro i j hi hj hij
   have li:i<y.size:=by simpa using hi
   have lj:j<y.size:=by simpa using hj
   have q:=hs i j (aco hij) (by rw[<-hp.size_eq];exact lj)
   have key:∀k (hk:k<y.size),KK (Er n s.heap) y k=wY n s.heap y[k].2:=λk hk=>by
    unfold KK
    rw[getElem?_pos y k hk]
    show Option.getD (α:=List Pl) ((Er n s.heap).keyOf y[k].1) []=_
    rw[(same y[k] (by simp)).1]
    rfl
   have q:(Er n s.heap).blt (KK (Er n s.heap) y j) (KK (Er n s.heap) y i)=false:=q
   rw[key i li,key j lj]at q
   have q:cX (wY n s.heap y[j].2) (wY n s.heap y[i].2)=false:=q
   simpa using q
def tD(ps:List Pl):D:= .tup (ps.map Pl.d)
theorem FE{n:Nat}{P:Program}{w:World}{K:PySem.W.Frag}{H:Hp}{h:Heap}{ps:List Pl}{x:V}{u:Value}(ok:iR P w H h)(hl:ps.length=n)(d:Dat K H (tD ps) x)(r:RelV x u):uJ n h u ps:=by
 obtain⟨a,xs,rfl,ha,hx⟩:=br.mp d
 obtain rfl:u=Value.ref a:=r
 obtain⟨its,rv,⟨o,h1,h2,m,h3⟩,_⟩:=eF ok ha
 exact⟨hl,a,o,its,m,rfl,h1,h2,h3,oj ok hx rv⟩
theorem vH{n:Nat}{P:Program}{w:World}{K:PySem.W.Frag}{H:Hp}{h:Heap}(ok:iR P w H h):∀{ps:List (List Pl)} {xs:List V} {us:List Value},(∀p∈ps,p.length=n)->aF K H (ps.map tD) xs->Vals xs us->k9 n h us ps
 |[],xs,us,_,d,r=>by rw[aM.mp d]at r;cases r;exact .nil
 |p::ps,xs,us,hl,d,r=>by
  obtain⟨v,vs,rfl,d1,d2⟩:=aC.mp d
  cases r with
  |cons r1 r2=>exact .cons (FE ok (hl p (aaG ..)) d1 r1) (vH ok (λq hq=>hl q (aar _ hq)) d2 r2)
theorem sZ{n:Nat}{K:PySem.W.Frag}{H:Hp}{h:Heap}{P:Program}{w:World}(ok:iR P w H h){ps:List (List Pl)}{zs:List V}{vs:List Value}(hl:∀p∈ps,p.length=n)(d:aF K H (ps.map tD) zs)(r:Vals zs vs):∀(out:List Value),(∀v∈out,v∈vs)->
 ∃ws,Vals ws out/\aF K H ((out.map (wY n h)).map tD) ws
 |[],_=>⟨[],.nil,aM.mpr rfl⟩
 |v::out,m=>by
  obtain⟨ws,h1,h2⟩:=sZ ok hl d r out λu hu=>m u (aar _ hu)
  have one:∀{ps:List (List Pl)} {zs:List V} {vs:List Value},(∀p∈ps,p.length=n)->aF K H (ps.map tD) zs->Vals zs vs->v∈vs->∃(p:List Pl) (x:V),p.length=n/\RelV x v/\Dat K H (tD p) x:=by
   intro ps
   induction ps with
   |nil=>intro zs vs _ d r m;rw[aM.mp d]at r;cases r;cases m
   |cons p ps ih=>
    intro zs vs hl d r m
    obtain⟨x,xs,rfl,d1,d2⟩:=aC.mp d
    cases r with
    |cons r1 r2=>
     rcases aat.mp m with rfl|m
     ·exact⟨p,x,hl p (aaG ..),r1,d1⟩
     ·exact ih (λq hq=>hl q (aar _ hq)) d2 r2 m
  obtain⟨p,x,lp,rx,dx⟩:=one hl d r (m v (aaG ..))
  refine⟨x::ws,.cons rx h1,?_⟩
  rw[aaV,aaV,Cn (FE ok lp dx rx)]
  exact aC.mpr ⟨x,ws,rfl,dx,h2⟩
section
variable{X:Cx}
def FF(n:Nat):List D->Mp->DK->Prop:=λds M Q=>∃(l:Addr) (ps:List (List Pl)),ds=[.ref l]/\M l=some (.lst (ps.map tD))/\(∀p∈ps,p.length=n)/\ps.length<64/\∀(p:Addr) (qs:List (List Pl)),M p=none->qs.Perm ps->qs.Pairwise (λp q=>cX q p=false)->Q (.ref p) (ay M p (.lst (qs.map tD)))
theorem gU{n:Nat}(hn:n=2\/n=3)(hu:X.A.units+64<cLine):Call3 X (.builtin "sorted") (FF n):=by
 constructor
 intro pins s σ H M xs ds us Q I rm rs dx ⟨l,ps,e,hM,Vr,h64,q⟩
 subst e
 obtain⟨v,rfl,hv⟩:=sj dx
 obtain rfl:=aA.mp hv
 obtain⟨u,rfl,r1⟩:=vals1 rs
 obtain rfl:u=Value.ref l:=r1
 obtain⟨zs,hH,hz⟩:=rm.lst hM
 obtain⟨its,rv,pl,hsz⟩:=I.list (gR.of (K:=X.K) hH)
 have hl:its.length=ps.length:=by rw[Vals.len rv,<-hz.length,aas]
 refine yZ hn hu pl.isList (vH I.hok Vr hz rv) (by omega) λout qs hm eq hp hs=>?_
 obtain⟨ws,w1,w2⟩:=sZ I.hok Vr hz rv out hm
 rw[<-eq]at w2
 obtain⟨m,hm'⟩:=sortedAll_at s.heap its out.toArray
 have fr:H (s.heap.objs.size+1)=none:=I.hok.fresh (abU _)
 have zw:ws.length<=sizeLine:=by
  rw[<-w2.length,aas,hp.length_eq,sizeLine_eq];omega
 refine⟨.ref (s.heap.objs.size+1),upd H (s.heap.objs.size+1) (.lst ws),I.laid (t':=s.toks) (λb o e=>sortedAll_old e) (abU _) ⟨zw,out,m,w1,hm'⟩,rfl,.ref _,ay M _ (.lst (qs.map tD)),Fr.new fr λ_ hb=>aK hb,aA.mpr rfl,rm.newL fr w2,q _ _ (rm.free fr) hp hs⟩
end
end L3
namespace L3
open PySem
def dY(t:List Pl):Prop:= ∃u v w,t=[u,v,w]/\aQ u v/\aQ u w/\0<tw u v w
theorem dY.uniq{s t:List Pl}(hs:dY s)(ht:dY t)(h:s.Perm t):s=t:=by
 obtain⟨u,v,w,rfl,b1,b2,p1⟩:=hs
 obtain⟨a,b,c,rfl,c1,c2,p2⟩:=ht
 rcases vF h with⟨rfl,rfl,rfl⟩|⟨rfl,rfl,rfl⟩|⟨rfl,rfl,rfl⟩|⟨rfl,rfl,rfl⟩|⟨rfl,rfl,rfl⟩|⟨rfl,rfl,rfl⟩
 ·rfl
 ·rw[kT]at p2;omega
 ·exact absurd c1 (az b1)
 ·exact absurd c1 (az b2)
 ·exact absurd c2 (az b1)
 ·exact absurd c2 (az b2)
theorem FG{a b c:Pl}(h:tw a b c≠0):a≠b/\a≠c/\b≠c:=
 ⟨λe=>by subst e;rw[ic]at h;exact h rfl,λe=>by subst e;rw[ie]at h;exact h rfl,λe=>by subst e;rw[sE]at h;exact h rfl⟩
def FH(a b c:Pl):List Pl:=if aQ a b/\aQ a c then[a,b,c]else if aQ b c then[b,c,a]else[c,a,b]
theorem Co{a b c:Pl}(h:0<tw a b c):dY (FH a b c)/\(FH a b c).Perm [a,b,c]:=by
 obtain⟨n1,n2,n3⟩:=FG (show tw a b c≠0 by omega)
 unfold FH
 by_cases k:aQ a b/\aQ a c
 ·rw[if_pos k]
  exact⟨⟨a,b,c,rfl,k.1,k.2,h⟩,.refl _⟩
 ·rw[if_neg k]
  by_cases k2:aQ b c
  ·rw[if_pos k2]
   refine⟨⟨b,c,a,rfl,k2,?_,by rw[ja];exact h⟩,(aaY (l₁:=[b,c]) (l₂:=[a]))⟩
   rcases jJ n1 with z|z
   ·exact absurd ⟨z,aV z k2⟩ k
   ·exact z
  ·rw[if_neg k2]
   have cb:aQ c b:=by rcases jJ n3 with z|z;exact absurd z k2;exact z
   have ca:aQ c a:=by
    rcases jJ n2 with z|z
    ·exact absurd ⟨aV z cb,z⟩ k
    ·exact z
   exact⟨⟨c,a,b,rfl,ca,cb,by rw[<-ja c a b];exact h⟩,(aaY (l₁:=[c]) (l₂:=[a,b]))⟩
def qE(a b c:Pl):List Pl:=if 0<tw a b c then FH a b c else FH a c b
theorem pO{a b c:Pl}(h:tw a b c≠0):dY (qE a b c)/\(qE a b c).Perm [a,b,c]:=by
 unfold qE
 by_cases k:0<tw a b c
 ·rw[if_pos k];exact Co k
 ·rw[if_neg k]
  obtain⟨h1,h2⟩:=Co (a:=a) (b:=c) (c:=b) (by rw[kT];omega)
  exact⟨h1,h2.trans (.cons a (.swap b c []))⟩
theorem Cp{u v w a b c:Pl}(h:[u,v,w].Perm [a,b,c]):tw u v w≠0↔tw a b c≠0:=by
 rcases vF h with⟨rfl,rfl,rfl⟩|⟨rfl,rfl,rfl⟩|⟨rfl,rfl,rfl⟩|⟨rfl,rfl,rfl⟩|⟨rfl,rfl,rfl⟩|⟨rfl,rfl,rfl⟩
 ·exact Iff.rfl
 ·rw[kT u v w];omega
 ·rw[gc u v w];omega
 ·rw[ja w u v]
 ·rw[<-ja u v w]
 ·rw[gc v w u,ja u v w];omega
theorem lg{t:List Pl}{a b c:Pl}(ht:dY t)(h:t.Perm [a,b,c]):tw a b c≠0/\t=qE a b c:=by
 have hn:tw a b c≠0:=by
  obtain⟨u,v,w,rfl,_,_,p⟩:=ht
  exact(Cp h).mp (by omega)
 obtain⟨h1,h2⟩:=pO hn
 exact⟨hn,ht.uniq h1 (h.trans h2.symm)⟩
theorem AY{a b c u v w:Pl}(hn:tw a b c≠0)(hp:[u,v,w].Perm [a,b,c])(hs:[u,v,w].Pairwise (λp q=> ¬aQ q p)) :
 qE a b c=if 0<tw u v w then[u,v,w]else[u,w,v]:=by
 have hn2:tw u v w≠0:=(Cp hp).mpr hn
 obtain⟨n1,n2,n3⟩:=FG hn2
 have b1:aQ u v:=by rcases jJ n1 with z|z;exact z;exact absurd z ((aaL.mp hs).1 v (by simp))
 have b2:aQ u w:=by rcases jJ n2 with z|z;exact z;exact absurd z ((aaL.mp hs).1 w (by simp))
 by_cases k:0<tw u v w
 ·rw[if_pos k]
  exact(lg ⟨u,v,w,rfl,b1,b2,k⟩ hp).2.symm
 ·rw[if_neg k]
  exact(lg ⟨u,w,v,rfl,b2,b1,by rw[kT];omega⟩ ((List.Perm.cons u (.swap v w [])).trans hp)).2.symm
def gp(ps:List Pl)(i:Nat):Pl:=ps.getD i ⟨0,0⟩
theorem wZ{ps:List Pl}{i:Nat}(h:i<ps.length):ps[i]?=some (gp ps i):=by
 unfold gp
 rw[aaZ,aau h]
 rfl
theorem P6{ps:List Pl}{i:Nat}{p:Pl}(h:ps[i]?=some p):gp ps i=p:=by
 unfold gp
 rw[aaZ,h]
 rfl
theorem w9{ps:List Pl}{i:Nat}(h:i<ps.length):gp ps i∈ps:=aaC (wZ h)
theorem jK{ps:List Pl}(nd:ps.Nodup){i j:Nat}(hi:i<ps.length)(hj:j<ps.length)(e:gp ps i=gp ps j):i=j:=by
 have h:=List.getElem?_inj (i:=i) (j:=j) hi nd
 exact h.mp (by rw[wZ hi,wZ hj,e])
theorem FJ{ps:List Pl}{p:Pl}(h:p∈ps):∃i,i<ps.length/\gp ps i=p:=by
 obtain⟨i,hi,e⟩:=adt.mp h
 exact⟨i,hi,P6 (by rw[aau hi,e])⟩
theorem oF{α β:Type}(f:α->List β):∀(l:List α),(∀a∈l,(f a).Nodup)->l.Pairwise (λa b=> ∀x∈f a,x∉f b)->(l.flatMap f).Nodup
 |[],_,_=>by simp
 |a::l,h1,h2=>by
  rw[abl,aa1]
  obtain⟨h3,h4⟩:=aaL.mp h2
  refine⟨h1 a (aaG ..),oF f l (λb hb=>h1 b (aar _ hb)) h4,λx hx y hy e=>?_⟩
  subst e
  obtain⟨b,hb,iQ⟩:=abc.mp hy
  exact h3 b hb x hx iQ
def one(ok:List Pl->Bool)(a b c:Pl):List (List Pl):=if tw a b c≠0/\ok (qE a b c)=true then[qE a b c]else[]
theorem xg{ok:List Pl->Bool}{a b c:Pl}{t:List Pl}:t∈one ok a b c↔tw a b c≠0/\ok (qE a b c)=true/\t=qE a b c:=by
 unfold one
 by_cases k:tw a b c≠0/\ok (qE a b c)=true
 ·rw[if_pos k];simp[k.1,k.2]
 ·rw[if_neg k]
  simp only[aa7,false_iff]
  exact λz=>k ⟨z.1,z.2.1⟩
theorem Ji(ok:List Pl->Bool)(a b c:Pl):(one ok a b c).length<=1:=by
 unfold one;split<;>simp
theorem Dz(ok:List Pl->Bool)(a b c:Pl):(one ok a b c).Nodup:=by
 unfold one;split<;>simp
def yes:List Pl->Bool:=λ_=>true
def T1(ps:List Pl)(k m n:Nat):List (List Pl):=(List.range n).flatMap λj=>one yes (gp ps k) (gp ps m) (gp ps j)
def T2(ps:List Pl)(k m:Nat):List (List Pl):=(List.range m).flatMap λj=>T1 ps k j j
def T3(ps:List Pl)(k:Nat):List (List Pl):=(List.range k).flatMap λj=>T2 ps j j
theorem xh(ps:List Pl)(k m n:Nat):T1 ps k m (n+1)=T1 ps k m n++one yes (gp ps k) (gp ps m) (gp ps n):=by
 unfold T1;rw[adl,abR];simp
theorem Cq(ps:List Pl)(k m:Nat):T2 ps k (m+1)=T2 ps k m++T1 ps k m m:=by
 unfold T2;rw[adl,abR];simp
theorem Cr(ps:List Pl)(k:Nat):T3 ps (k+1)=T3 ps k++T2 ps k k:=by
 unfold T3;rw[adl,abR];simp
def c2:Nat->Nat|0=>0|m+1=>c2 m+m
def c3:Nat->Nat|0=>0|k+1=>c3 k+c2 k
theorem AZ(ps:List Pl)(k m:Nat):∀n,(T1 ps k m n).length<=n
 |0=>by simp[T1]
 |n+1=>by
  rw[xh,aaA]
  have:=AZ ps k m n
  have:=Ji yes (gp ps k) (gp ps m) (gp ps n)
  omega
theorem A0(ps:List Pl)(k:Nat):∀m,(T2 ps k m).length<=c2 m
 |0=>by simp[T2]
 |m+1=>by
  rw[Cq,aaA]
  have:=A0 ps k m
  have:=AZ ps k m m
  show _<=c2 m+m
  omega
theorem xj(ps:List Pl):∀k,(T3 ps k).length<=c3 k
 |0=>by simp[T3]
 |k+1=>by
  rw[Cr,aaA]
  have:=xj ps k
  have:=A0 ps k k
  show _<=c3 k+c2 k
  omega
theorem Jj:∀{m n:Nat},m<=n->c2 m<=c2 n:=by
 intro m n h
 induction n with
 |zero=>have:m=0:=by omega
        subst this;exact aaz _
 |succ n ih=>
  by_cases e:m=n+1
  ·subst e;exact aaz _
  ·have:=ih (by omega)
   show _<=c2 n+n
   omega
theorem xm:∀{m n:Nat},m<=n->c3 m<=c3 n:=by
 intro m n h
 induction n with
 |zero=>have:m=0:=by omega
        subst this;exact aaz _
 |succ n ih=>
  by_cases e:m=n+1
  ·subst e;exact aaz _
  ·have:=ih (by omega)
   show _<=c3 n+c2 n
   omega
theorem MI{ps:List Pl}{t:List Pl}{n:Nat}:t∈T3 ps n↔∃k m j,k<n/\m<k/\j<m/\t∈one yes (gp ps k) (gp ps m) (gp ps j):=by
 unfold T3 T2 T1
 simp only[abc,abg]
 constructor
 ·rintro⟨k,hk,m,hm,j,hj,h⟩;exact⟨k,m,j,hk,hm,hj,h⟩
 ·rintro⟨k,m,j,hk,hm,hj,h⟩;exact⟨k,hk,m,hm,j,hj,h⟩
theorem nD{ok:List Pl->Bool}{a b c:Pl}{t:List Pl}(h:t∈one ok a b c)(p:Pl):p∈t↔p=a\/p=b\/p=c:=by
 obtain⟨h1,_,rfl⟩:=xg.mp h
 rw[(pO h1).2.mem_iff]
 simp
theorem A1{ps:List Pl}(nd:ps.Nodup){t:List Pl}:t∈T3 ps ps.length↔dY t/\∀p∈t,p∈ps:=by
 rw[MI]
 constructor
 ·rintro⟨k,m,j,hk,hm,hj,h⟩
  have h':=h
  obtain⟨h1,_,rfl⟩:=xg.mp h
  refine⟨(pO h1).1,λp hp=>?_⟩
  rcases(nD h' p).mp hp with rfl|rfl|rfl
  ·exact w9 hk
  ·exact w9 (by omega)
  ·exact w9 (by omega)
 ·rintro⟨ht,hm⟩
  obtain⟨u,v,w,rfl,b1,b2,p0⟩:=id ht
  obtain⟨n1,n2,n3⟩:=FG (show tw u v w≠0 by omega)
  obtain⟨i,hi,ei⟩:=FJ (hm u (by simp))
  obtain⟨j,hj,ej⟩:=FJ (hm v (by simp))
  obtain⟨k,hk,ek⟩:=FJ (hm w (by simp))
  have d1:i≠j:=λe=>n1 (by rw[<-ei,<-ej,e])
  have d2:i≠k:=λe=>n2 (by rw[<-ei,<-ek,e])
  have d3:j≠k:=λe=>n3 (by rw[<-ej,<-ek,e])
  have go:∀x y z,z<y->y<x->x<ps.length->[u,v,w].Perm [gp ps x,gp ps y,gp ps z]->∃k m j,k<ps.length/\m<k/\j<m/\[u,v,w]∈one yes (gp ps k) (gp ps m) (gp ps j):=λx y z h1 h2 h3 hp=>by
   obtain⟨g1,g2⟩:=lg ht hp
   exact⟨x,y,z,h3,h2,h1,xg.mpr ⟨g1,rfl,g2⟩⟩
  rcases acL d1 with a|a<;>rcases acL d2 with b|b<;>rcases acL d3 with c|c
  ·exact go k j i a c hk (by rw[ei,ej,ek];exact(List.Perm.swap v u [w]).trans (((List.Perm.cons v (.swap w u [])).trans (.swap w v [u]))))
  ·exact go j k i b c hj (by rw[ei,ej,ek];exact(List.Perm.cons u (.swap w v [])).trans ((List.Perm.swap w u [v]).trans ((List.Perm.cons w (.swap v u [])).trans (.swap v w [u]))))
  ·omega
  ·exact go j i k b a hj (by rw[ei,ej,ek];exact List.Perm.swap v u [w])
  ·exact go k i j a b hk (by rw[ei,ej,ek];exact(List.Perm.cons u (.swap w v [])).trans (.swap w u [v]))
  ·omega
  ·exact go i k j c b hi (by rw[ei,ej,ek];exact List.Perm.cons u (.swap w v []))
  ·exact go i j k c a hi (by rw[ei,ej,ek])
theorem FL{ps:List Pl}{k m n:Nat}{t:List Pl}(h:t∈T1 ps k m n):∃j,j<n/\t∈one yes (gp ps k) (gp ps m) (gp ps j):=by
 unfold T1 at h
 simp only[abc,abg]at h
 exact h
theorem KR{ps:List Pl}{k m:Nat}{t:List Pl}(h:t∈T2 ps k m):∃i j,i<m/\j<i/\t∈one yes (gp ps k) (gp ps i) (gp ps j):=by
 unfold T2 at h
 simp only[abc,abg]at h
 obtain⟨i,hi,h⟩:=h
 obtain⟨j,hj,h⟩:=FL h
 exact⟨i,j,hi,hj,h⟩
theorem FN{ps:List Pl}(nd:ps.Nodup):(T3 ps ps.length).Nodup:=by
 unfold T3
 refine oF _ _ (λk hk=>?_) ?_
 ·have hk:=abg.mp hk
  unfold T2
  refine oF _ _ (λm hm=>?_) ?_
  ·have hm:=abg.mp hm
   unfold T1
   refine oF _ _ (λj _=>Dz ..) ?_
   refine(acv).imp_of_mem λ{a b} ha hb hab x hx iQ=>?_
   have ha:=abg.mp ha
   have hb:=abg.mp hb
   have q:=(nD hx (gp ps b)).mp ((nD iQ (gp ps b)).mpr (.inr (.inr rfl)))
   rcases q with q|q|q
   ·have:=jK nd (by omega) (by omega) q;omega
   ·have:=jK nd (by omega) (by omega) q;omega
   ·have:=jK nd (by omega) (by omega) q;omega
  ·refine(acv).imp_of_mem λ{a b} ha hb hab x hx iQ=>?_
   have ha:=abg.mp ha
   have hb:=abg.mp hb
   obtain⟨j,hj,hx⟩:=FL hx
   obtain⟨j2,hj2,iQ⟩:=FL iQ
   have q:=(nD hx (gp ps b)).mp ((nD iQ (gp ps b)).mpr (.inr (.inl rfl)))
   rcases q with q|q|q
   ·have:=jK nd (by omega) (by omega) q;omega
   ·have:=jK nd (by omega) (by omega) q;omega
   ·have:=jK nd (by omega) (by omega) q;omega
 ·refine(acv).imp_of_mem λ{a b} ha hb hab x hx iQ=>?_
  have ha:=abg.mp ha
  have hb:=abg.mp hb
  obtain⟨i,j,hi,hj,hx⟩:=KR hx
  obtain⟨i2,j2,hi2,hj2,iQ⟩:=KR iQ
  have q:=(nD hx (gp ps b)).mp ((nD iQ (gp ps b)).mpr (.inl rfl))
  rcases q with q|q|q
  ·have:=jK nd (by omega) (by omega) q;omega
  ·have:=jK nd (by omega) (by omega) q;omega
  ·have:=jK nd (by omega) (by omega) q;omega
end L3
namespace L3
open PySem PySem.Spec PyProof.Rows L2
theorem MJ{u v w:Pl}(k:eE (.int (tw u v w).sign) (.int 1)=true):0<tw u v w:=by
 rw[eY]at k
 exact ab2.mp (eq_of_beq k)
theorem Jk{u v w:Pl}(k:¬eE (.int (tw u v w).sign) (.int 1)=true):¬0<tw u v w:=λz=>by
 apply k
 rw[eY,aba z]
 rfl
def Rx(ps:List Pl)(a b c:Pl):Bool:=ps.any λd=>decide (fO a b c d)
theorem vI{ps:List Pl}{i:Nat}(h:i<ps.length):rW (ps.map Pl.d) (i:Int)=some (gp ps i).d:=eV (by rw[aa0,wZ h];rfl)
def MK(ps:List Pl):List Pl->Bool
 |[a,b,c]=>!Rx ps a b c
 |_=>false
theorem eK{ts:List (List Pl)}{i:Nat}{x:D}(h:(ts.map tD)[i]?=some x):∃t,ts[i]?=some t/\x=tD t:=by
 rw[aa0]at h
 cases e:ts[i]? with
 |none=>rw[e]at h;cases h
 |some p=>rw[e]at h;exact⟨p,rfl,(Option.some.inj h).symm⟩
theorem aZ{ts:List (List Pl)}{f:List Pl->Bool}{i:Nat}{t:List Pl}(h:ts[i]?=some t):(ts.take (i+1)).filter f=(ts.take i).filter f++(if f t=true then[t]else[]):=by
 rw[acr,h,List.filter_append]
 congr 1
 show List.filter f [t]=_
 rw[abI]
 rfl
theorem Jl{ps:List Pl}(nd:ps.Nodup){t:List Pl}(h:t∈T3 ps ps.length):t.length=3:=by
 obtain⟨⟨u,v,w,rfl,_⟩,_⟩:=(A1 nd).mp h
 rfl
def P7:List Int:=[5,4,3,0, -3, -4, -5, -4, -3,0,3,4,0]
def P8:List Int:=[0,3,4,5,4,3,0, -3, -4, -5, -4, -3,0]
def xr(a b c d:Pl):Nat->Int
 |0=>0
 |1=>0+((c.x-d.x)*(c.x-d.x)+(c.y-d.y)*(c.y-d.y))*tw d a b
 |2=>0+((c.x-d.x)*(c.x-d.x)+(c.y-d.y)*(c.y-d.y))*tw d a b+((a.x-d.x)*(a.x-d.x)+(a.y-d.y)*(a.y-d.y))*tw d b c
 |_=>0+((c.x-d.x)*(c.x-d.x)+(c.y-d.y)*(c.y-d.y))*tw d a b+((a.x-d.x)*(a.x-d.x)+(a.y-d.y)*(a.y-d.y))*tw d b c+((b.x-d.x)*(b.x-d.x)+(b.y-d.y)*(b.y-d.y))*tw d c a
theorem FO(a b c d:Pl):dep a b c d=0+((c.x-d.x)*(c.x-d.x)+(c.y-d.y)*(c.y-d.y))*tw d a b+((a.x-d.x)*(a.x-d.x)+(a.y-d.y)*(a.y-d.y))*tw d b c+((b.x-d.x)*(b.x-d.x)+(b.y-d.y)*(b.y-d.y))*tw d c a:=by
 unfold dep wQ
 omega
theorem xu{p q:Int}(h:p*p+q*q=0):p=0/\q=0:=by
 have sq:∀z:Int,0<=z*z:=λz=>by
  rcases ab1 0 z with w|w
  ·exact aaB w w
  ·exact aaS w w
 have h1:=sq p
 have h2:=sq q
 have e1:p*p=0:=by omega
 have e2:q*q=0:=by omega
 exact⟨(aaU.mp e1).elim id id,(aaU.mp e2).elim id id⟩
theorem DA{p q r s x y:Int}(h1:p*s=q*r)(h2:(p*p+q*q)*(r*y-s*x)=(r*r+s*s)*(p*y-q*x))(hT:(r*y-s*x)-(p*y-q*x)≠0):(p=0/\q=0)\/(r=0/\s=0):=by
 by_cases k:p*y-q*x=0
 ·rw[k,abe]at h2
  rcases aaU.mp h2 with z|z
  ·exact .inl (xu z)
  ·exact absurd (by rw[z,k];rfl) hT
 ·have e:(p*r+q*s-(r*r+s*s))*(p*y-q*x)=0:=by grind
  rcases aaU.mp e with z|z
  ·have f:((p-r)*(p-r)+(q-s)*(q-s))*(r*r+s*s)=0:=by grind
   rcases aaU.mp f with w|w
   ·obtain⟨w1,w2⟩:=xu w
    exfalso
    apply hT
    have:p=r:=by omega
    have:q=s:=by omega
    subst p q
    omega
   ·exact .inr (xu w)
  ·exact absurd z k
theorem xw{a b c d:Pl}(hT:tw a b c≠0)(hd:dep a b c d=0)(hl:tw b c d=0):d=b\/d=c:=by
 have key:=DA (p:=b.x-d.x) (q:=b.y-d.y) (r:=c.x-d.x) (s:=c.y-d.y) (x:=a.x-d.x) (y:=a.y-d.y) (by unfold tw at hl;grind) (by unfold dep wQ at hd;unfold tw at hd hl;grind) (by intro z;apply hT;unfold tw at hl ⊢;grind)
 rcases key with⟨z1,z2⟩|⟨z1,z2⟩
 ·left;cases b;cases d;simp at z1 z2 ⊢;omega
 ·right;cases c;cases d;simp at z1 z2 ⊢;omega
theorem Jm{a b c d:Pl}(h:0<tw a b c)(hd:d=a\/d=b\/d=c):¬fO a b c d:=by
 intro z
 rcases hd with rfl|rfl|rfl
 ·have z:=(fj d b c d).mpr z
  exact(n9 (by rw[ja];exact h) z).2 rfl
 ·have z:=(fj d c a d).mpr ((fj a d c d).mpr z)
  exact(n9 (by rw[ja,ja];exact h) z).2 rfl
 ·exact(n9 h z).2 rfl
theorem DB{a b c d:Pl}(b1:aQ a b)(b2:aQ a c)(h:0<tw a b c)(hd:¬(d=a\/d=b\/d=c))(h0:dep a b c d=0):decide (fO a b c d)=(decide (aQ d a) || decide (tw b c d<0)):=by
 have hn:tw a b c≠0:=by omega
 rw[vG hn (mj h0) hd (.refl _) (az b1) (az b2)]
 have nz:tw b c d≠0:=λz=>by
  rcases xw hn h0 z with e|e
  ·exact hd (.inr (.inl e))
  ·exact hd (.inr (.inr e))
 by_cases k:aQ d a
 ·rw[if_pos k,decide_eq_true k];rfl
 ·rw[if_neg k,decide_eq_false k,Bool.false_or,decide_eq_decide,ja a b c,aba h]
  constructor
  ·intro z
   apply aaq
   intro w
   exact z (aba (by omega))
  ·intro z w
   have:=ab2.mp w
   omega
theorem iV:∀{as bs:List (List Pl)},as.Perm bs->as.Pairwise (λa b=>cX b a=false)->bs.Pairwise (λa b=>cX b a=false)->as=bs
 |[],bs,h,_,_=>by rw[List.nil_perm.mp h]
 |a::as,[],h,_,_=>by simp at h
 |a::as,b::bs,h,h1,h2=>by
  obtain⟨p1,p2⟩:=aaL.mp h1
  obtain⟨q1,q2⟩:=aaL.mp h2
  have e:a=b:=by
   have ma:a∈b::bs:=h.mem_iff.mp (aaG ..)
   have mb:b∈a::as:=h.mem_iff.mpr (aaG ..)
   rcases aat.mp ma with e|ma
   ·exact e
   rcases aat.mp mb with e|mb
   ·exact e.symm
   rcases k7 a b with c|c|c
   ·rw[q1 a ma]at c;cases c
   ·exact c
   ·rw[p1 b mb]at c;cases c
  subst e
  rw[iV ((ab9 a).mp h) p2 q2]
theorem bg(fs:List (List Pl)):(fs.map tD).all (plain 9)=true:=by
 rw[abh]
 intro d hd
 obtain⟨t,_,rfl⟩:=aaI.mp hd
 show(t.map Pl.d).all (plain 8)=true
 rw[abh]
 intro d hd
 obtain⟨p,_,rfl⟩:=aaI.mp hd
 rfl
end L3
namespace L3
open PySem PySem.Spec PyProof.Rows L2 Att
end L3
namespace PySem
open PySem.Calls PySem.W
theorem A2:typeLookup (.type "list_reverseiterator") "__len__" =pure none:=by rw[typeLookup_type,builtinLookup_eq_fast];kernel_rfl
theorem FP:typeLookup (.type "list_reverseiterator") "__length_hint__" =pure (some (.builtin "list_reverseiterator.__length_hint__")):=by rw[typeLookup_type,builtinLookup_eq_fast];kernel_rfl
theorem Jo:isSubtype (.type "list_reverseiterator") (.type "list_reverseiterator")=pure true:=by rw[isSubtype_type];kernel_rfl
section
variable{prog:Program}{w:World}{A:Around}{s:Shared}{R:Result->Shared->Prop}{E:Value->Shared->Prop}
variable{I:Addr}{fp wr:List Addr}{G:Array GenState->Array GenState->Prop}{n:Nat}{P:Nat->Value->Prop}{St:Nat->Shared->Prop}
theorem FQ{Q:Bool->Shared->Prop}(hT:s.TypeIs (.ref I) "list_reverseiterator")(h:Q false s):wpAny (model prog w) A (Builtin.List.listLengthHint (.ref I)) Q E s:=by
 unfold Builtin.List.listLengthHint
 refine wpAny_bind (wpAny_specialOf hT A2 ?_)
 show wpAny _ A (specialOf (Value.ref I) (Str.ofString "__length_hint__") >>= _) _ _ _
 refine wpAny_bind (wpAny_specialOf hT FP ?_)
 have hs:splitId "list_reverseiterator.__length_hint__" =some ("list_reverseiterator","__length_hint__"):=by decide +kernel
 simp only[hs]
 refine wpAny_bind (wpAny_isInstance (T:= "list_reverseiterator") (b:=true) hT Jo ?_)
 simp only[abk,aaD,if_false]
 exact wpAny_pure h
theorem pP(W:WalksS prog w A.in1 I fp wr G n P St)(hT:∀i s,St i s->s.TypeIs (.ref I) "list_reverseiterator")(S:Addr)(res:Value)(c₀:Nat)(hst:St 0 s)(hSf:S∉fp)(hI:I∈fp)
 (hS:s.heap.get? S=some {cls:= .type "list",data:= .seq #[] c₀})
 (hR:∀s' acc' c',Moved (S::wr) G s s'->s'.heap.get? S=some {cls:= .type "list",dict:=none,data:= .seq acc' c',slots:= #[]}->ItemsOf P acc' n->R (.ok (.ret res)) s')(hn:n<=sizeLine) :
 wpAny (model prog w) A.in1 (Builtin.List.listExtendWith (.ref S) (.ref I) res)
  (λfin s'=>match fin with| .done f=>R (.ok f) s'| .again c'=>c'.quiet=true/\codeAny (model prog w) A c' R s') (λe s'=>R (.error e) s') s:=by
 have hSI:S≠I:=λe=>hSf (e▸hI)
 unfold Builtin.List.listExtendWith
 refine wpAny_bind (wpAny_typeOf (hT 0 _ hst) ?_)
 have h1:Builtin.List.listSameRef (.ref S) (.ref I)=false:=by simp[Builtin.List.listSameRef,hSI]
 have h2:(Value.type "list_reverseiterator" ==Value.type "list")=false:=by decide
 have h3:(Value.type "list_reverseiterator" ==Value.type "tuple")=false:=by decide
 simp only[h1,h2,h3,ady,aaD,if_false]
 refine wpAny_bind (W.self 0 _ _ _ hst ?_)
 refine wpAny_bind (wpAny_holding (FQ (hT 0 _ hst) ?_))
 show wpAny _ A.in1 (again (.builtin "list.extend.loop" ⟨[.ref S,.ref I,res],[]⟩)) _ _ _
 exact wpAny_pure ⟨plainId_quiet F.plain_extend_loop _,codeAny_extend_loopS W hn _ hSf _ n 0 _ _ _ rfl (abp _) hst hS (ItemsOf.nil P) λs' acc' c' hm hS' hacc=>hR s' acc' c' hm hS' hacc⟩
theorem mK(W:WalksS prog w A.in1 I fp wr G n P St)(hT:∀i s,St i s->s.TypeIs (.ref I) "list_reverseiterator")(S:Addr)(hst:St 0 s)(hSf:S∉fp)(hI:I∈fp)
 (hS:s.heap.get? S=some {cls:= .type "list",data:= .seq #[]})
 (hR:∀s' acc' c',Moved (S::wr) G s s'->s'.heap.get? S=some {cls:= .type "list",dict:=none,data:= .seq acc' c',slots:= #[]}->ItemsOf P acc' n->R (.ok (.ret .none)) s')(hn:n<=sizeLine) :
 wpAny (model prog w) A.in1 (Builtin.«list.__init__» ⟨[.ref S,.ref I],[]⟩)
  (λfin s'=>match fin with| .done f=>R (.ok f) s'| .again c'=>c'.quiet=true/\codeAny (model prog w) A c' R s') (λe s'=>R (.error e) s') s:=by
 show wpAny _ A.in1 (do let old <-Builtin.List.listItems (.ref S);Builtin.List.listUpdate (.ref S) (λ_=> #[]);letGo old.toList.reverse;Builtin.List.listExtendWith (.ref S) (.ref I) .none) _ _ s
 refine wpAny_bind ?_
 unfold Builtin.List.listItems
 refine wpAny_bind (wpAny_seqItems hS rfl (wpAny_pure ?_))
 show wpAny _ A.in1 (updateSeq S (λ_=> #[]) >>= λ_=>letGo (#[]:Array Value).toList.reverse >>= λ_=>Builtin.List.listExtendWith (.ref S) (.ref I) .none) _ _ s
 refine wpAny_bind (wpAny_updateSeq hS rfl ?_)
 have NX:=Heap.get?_update_self (Obj.mapSeq (λ_=>(#[]:Array Value))) hS rfl
 have Jp:∀b o,b≠S->s.heap.get? b=some o->(s.heap.update S (Obj.mapSeq (λ_=>(#[]:Array Value)))).get? b=some o:=
  λb o hb e=>(Heap.get?_update_other _ _ (Ne.symm hb)).trans e
 refine wpAny_bind (wpAny_letGo ?_)
 refine pP W hT S .none _ (W.frame 0 s _ s.toks hst (aaz _) λb hb o e=>Jp b o (λh=>hSf (h▸hb)) e) hSf hI NX (λs' acc' c' hm hS' hacc=>?_) hn
 exact hR s' acc' c' (Moved.trans W.gtrans ((Moved.refl W.grefl).then_heap (aaz _) λb o hb e=>Jp b o (λh=>hb (h▸aaG)) e) hm) hS' hacc
theorem uK{Q:Value->Shared->Prop}(W:WalksS prog w A.in1.in1 I fp wr G n P St)(hT:∀i s,St i s->s.TypeIs (.ref I) "list_reverseiterator")(hst:St 0 s)(hfp:∀b∈fp,b<s.heap.objs.size)(hI:I∈fp)
 (hQ:∀s' acc' c',Moved (s.heap.objs.size::wr) G {s with heap:=s.heap.push {cls:= .type "list",data:= .seq #[]}} s'->
  s'.heap.get? s.heap.objs.size=some {cls:= .type "list",dict:=none,data:= .seq acc' c',slots:= #[]}->ItemsOf P acc' n->Q (.ref s.heap.objs.size) s')(hn:n<=sizeLine) :
 wpAny (model prog w) A (call (.type "list") [.ref I]) Q E s:=by
 have hSf:s.heap.objs.size∉fp:=λhm=>abu _ (hfp _ hm)
 refine callType_codes (Q₁:=λobj s₁=>obj= .ref s.heap.objs.size/\s₁= {s with heap:=s.heap.push {cls:= .type "list",data:= .seq #[]}}) F.called_list (F.typeCall_list_1 _) F.entry_list_init
  (code_list_new _ ⟨rfl,rfl⟩) λobj s₁ h₁=>?_
 obtain⟨rfl,rfl⟩:=h₁
 have hS:(s.heap.push {cls:= .type "list",data:= .seq #[]}).get? s.heap.objs.size=some {cls:= .type "list",data:= .seq #[]}:=Heap.get?_push_size _ rfl
 refine⟨⟨_,hS,rfl⟩,F.args_list_init_2 _ _,mK W hT _ (W.frame 0 s _ s.toks hst (aaz _) λb _ o e=>Heap.get?_push_of_some _ e) hSf hI hS (λs' acc' c' hm hS' hacc=>?_) hn⟩
 exact⟨rfl,hQ s' acc' c' hm hS' hacc⟩
end
end PySem
namespace L3
open PySem PySem.Spec PyProof.Rows L2
section
variable{X:Cx}{pos:Pos}
def TF(to:dg):dg:=λρ M Q=>to ρ M λd M1=>∃l xs y,d= .ref l/\M1 l=some (.lst (xs++[y]))/\Q y (ay M1 l (.lst xs))
theorem aF.snoc{K:PySem.W.Frag}{H:Hp}:∀{ds:List D} {y:D} {xs:List V},aF K H (ds++[y]) xs->∃zs v,xs=zs++[v]/\aF K H ds zs/\Dat K H y v
 |[],y,xs,h=>by
  obtain⟨v,rfl,hv⟩:=sj h
  exact⟨[],v,rfl,aM.mpr rfl,hv⟩
 |d::ds,y,xs,h=>by
  obtain⟨v,vs,rfl,h1,h2⟩:=aC.mp h
  obtain⟨zs,u,rfl,h3,h4⟩:=aF.snoc h2
  exact⟨v::zs,u,rfl,aC.mpr ⟨v,zs,rfl,h1,h3⟩,h4⟩
theorem P9{o:Expr}{to:dg}{apos:Pos}(ho:cH X o to)(Pw:PE X (.Call (.Attribute o "pop" apos) [] [] pos) (OP X.K "list" OR (dn X.K to))):cH X (.Call (.Attribute o "pop" apos) [] [] pos) (TF to):=
 up Pw λσ H ρ M Q r q=>dW r q λv H' d M' f dv r' ⟨l,xs,y,e1,hM,q2⟩=>by
  subst e1
  obtain rfl:=aA.mp dv
  obtain⟨ys,ha,hy⟩:=r'.mem.lst hM
  obtain⟨zs,u,rfl,h1,h2⟩:=aF.snoc hy
  refine⟨.inl ⟨rfl,_,gR.of ha⟩,l,zs++[u],u,rfl,rfl,ha,by simp,?_⟩
  rw[List.dropLast_concat]
  exact⟨y,ay M' l (.lst xs),f.trans (Fr.write (K:=X.K) hM),Dat.mono (Ext.kI ha) _ _ h2,r'.mem.kI ha h1,q2⟩
theorem y9{K:PySem.W.Frag}{H:Hp}:∀{ds:List D} {xs:List V},aF K H ds xs->aF K H ds.reverse xs.reverse
 |[],xs,h=>by rw[aM.mp h];exact aM.mpr rfl
 |d::ds,xs,h=>by
  obtain⟨v,vs,rfl,h1,h2⟩:=aC.mp h
  rw[abq,abq]
  exact(y9 h2).append (aF.one h1)
theorem za:∀{xs:List V} {us:List Value},Vals xs us->Vals xs.reverse us.reverse
 |_,_,.nil=> .nil
 |_,_,.cons r rr=>by
  rw[abq,abq]
  exact(za rr).append (.cons r .nil)
theorem tu:bootBuiltins "reversed" =some (.type "reversed"):=by decide +kernel
def Qa(te:dg):dg:=λρ M Q=>te ρ M λd M1=>∃xs,Ft M1 d xs/\∀p,M1 p=none->Q (.ref p) (ay M1 p (.lst xs.reverse))
theorem DC{e:Expr}{te:dg}{p1 p2 pos2:Pos}(hc:X.calm=true)(Pq:Gl X "list")(hml:X.mg "list" =none)(hgr:Gl X "reversed")(hmr:X.mg "reversed" =none)(he:cH X e te)
 (s1:starEach [e] X.env=[(false,eval e X.env)]:=by rfl)
 (s2:starEach [.Call (.Name "reversed" p2) [e] [] pos2] X.env=[(false,eval (.Call (.Name "reversed" p2) [e] [] pos2) X.env)]:=by rfl) :
 cH X (.Call (.Name "list" p1) [.Call (.Name "reversed" p2) [e] [] pos2] [] pos) (Qa te):=by
 constructor
 intro pins s σ H ρ M Q I r h
 refine wpAny_Call_Name_kw (kE I Pq hml c6 ?_ (by decide) (by decide))
 refine PyProof.Rows.callWith_type1 (Q:=EP X pins σ (Post X.K M H Q)) ?_ (by rw[s2];rfl) (by rfl)
 rw[s2]
 show wpAny _ _ (spliced ((false,eval (.Call (.Name "reversed" p2) [e] [] pos2) X.env)::backTo pos [])) _ _ s
 refine Calls.spliced_cons ?_
 refine wpAny_Call_Name_kw (kE I hgr hmr tu ?_ (by decide) (by decide))
 refine PyProof.Rows.callWith_type1 ?_ (by rw[s1];rfl) (by rfl)
 rw[s1]
 show wpAny _ _ (spliced ((false,eval e X.env)::backTo pos2 [])) _ _ s
 refine Calls.spliced_cons (c5 (he.run pins s σ H ρ M _ I r h) λv s1 ⟨x,H1,I1,rv,d,M1,f1,dd,ju,xs,hL,q⟩=>Calls.spliced_nil ?_)
 obtain⟨a,zs,rfl,hz,hd⟩:=hL.sq ju dd
 obtain rfl:v=Value.ref a:=rv
 obtain⟨its,Ry,pl,hsz⟩:=I1.list hz
 have la:a<s1.heap.objs.size:=by obtain⟨o,e,_⟩:=pl.isList;exact Heap.lt_size e
 refine PySem.call_reversed_list pl.isList ?_
 refine Calls.spliced_nil ?_
 have Ff:(s1.heap.push (PySem.revObj a ((its.toArray.size:Int)-1))).objs.size=s1.heap.objs.size+1:=Heap.size_push ..
 have ZC:zs.length=its.length:=Ry.length
 refine uK (PySem.Walks.listRev (A:=X.A.in1.in1) (show X.A.in1.in1.handled=none from I.ok.hd hc) s1.heap.objs.size a (aaN la) its.toArray).toS (λi s st=>st.2.1.typeIs) ?_ ?_ (by simp) (λs' acc' c' mv hS' hacc=>?_) (by rw[aax];omega)
 ·refine⟨abp _,⟨_,Heap.get?_push_size _ rfl,rfl,?_⟩,?_⟩
  ·simp[PySem.revObj]
  ·obtain⟨o,e,c,dd⟩:=pl.isList
   exact⟨o,Heap.get?_push_of_some _ e,c,dd⟩
 ·intro b hb
  show b<(s1.heap.push (PySem.revObj a ((its.toArray.size:Int)-1))).objs.size
  rw[Ff]
  simp only[aat,aa7,or_false]at hb
  rcases hb with rfl|rfl
  ·exact acA _
  ·exact abx la
 ·have hS':s'.heap.get? (s1.heap.objs.size+1)=some {cls:= .type "list",dict:=none,data:= .seq acc' c',slots:= #[]}:=by rw[<-Ff];exact hS'
  have TH:acc'=its.reverse.toArray:=by
   apply Array.ext'
   rw[ab0]
   apply adI
   intro j
   have ZD:acc'.size=its.length:=by
    have:=hacc.1
    rw[aax]at this
    exact this
   by_cases hj:j<its.length
   ·have g1:acc'[j]?=some (acc'[j]'(by omega)):=Array.getElem?_eq_getElem (by omega)
    have g2:=hacc.2 j _ g1
    have g2:its[its.length-1-j]?=some (acc'[j]'(by omega)):=by simpa using g2
    rw[List.getElem?_reverse hj,g2]
    rw[Array.getElem?_toList,g1]
   ·rw[aby (by simp;omega),aby (by simp;omega)]
  subst TH
  have kp:∀b o,s1.heap.get? b=some o->s'.heap.get? b=some o:=λb o e=>by
   have lb:=Heap.lt_size e
   refine mv.heap b o ?_ (Heap.get?_push_of_some _ (Heap.get?_push_of_some _ e))
   intro hb
   simp only[aat,aa7,or_false]at hb
   rcases hb with z|z
   ·have z:b=(s1.heap.push (PySem.revObj a ((its.toArray.size:Int)-1))).objs.size:=z
    rw[Ff]at z
    rw[z]at lb
    exact absurd lb (acu.mpr (abU _))
   ·rw[z]at lb
    exact abu _ lb
  have fr:H1 (s1.heap.objs.size+1)=none:=I1.hok.fresh (abU _)
  have es:s'= {s1 with heap:=s'.heap,toks:=s'.toks}:=by
   have g:=mv.gens
   have d:=mv.drawn
   have o:=mv.os
   cases s'
   cases s1
   simp only at g d o ⊢
   subst g d o
   rfl
  have I2:Inv X pins σ (upd H1 (s1.heap.objs.size+1) (.lst zs.reverse)) {s1 with heap:=s'.heap,toks:=s'.toks}:=
   I1.laid (t':=s'.toks) kp (abU _) ⟨by rw[aaW];exact hsz,its.reverse,c',za Ry,hS'⟩
  rw[es]
  have ev:(Value.ref (s1.heap.push (PySem.revObj a ((its.toArray.size:Int)-1))).objs.size)= .ref (s1.heap.objs.size+1):=by rw[Ff]
  refine⟨.ref (s1.heap.objs.size+1),_,I2,ev,.ref _,ay M1 _ (.lst xs.reverse),f1.trans (Fr.new fr λ_ hb=>aK hb),aA.mpr rfl,ju.newL fr (y9 hd),q _ (ju.free fr)⟩
end
end L3
namespace L3
open PySem PySem.Spec PyProof.Rows L2
section
variable{X:Cx}{pos:Pos}
end
structure Vs(K:PySem.W.Frag)(J:It)(inv:Hp->Prop)(ds:List L3.D):Prop where
 go:∀i H,i<ds.length->inv H->J.go i H
 HS:∀i H x H',i<ds.length->inv H->J.HS i H x H'->(∀b o,H b=some o->H' b=some o)/\∃d,ds[i]?=some d/\Dat K H' d x
 stop:∀H,inv H->J.stop ds.length H
end L3
namespace L2
open PySem PySem.Spec PyProof.Rows
section
variable{X:Cx}{pins:List (Addr ×Obj)}{σ:St}{H:Hp}{s:Shared}{h':Heap}
theorem Inv.Jq{t':Nat}{fp:List Addr}(I:Inv X pins σ H s)(k:∀b o,b∉fp->s.heap.get? b=some o->h'.get? b=some o)(hf:∀b∈fp,j7 X pins H b):Inv X pins σ H {s with heap:=h',toks:=t'}:=by
 have Oj:∀b u,H b=some u->b∉fp:=λb u e z=>by rw[(hf b z).1]at e;cases e
 refine I.step (g':=s.gens) (d':=s.drawn) (ch:=fp) (λb hb=>?_) (λb o _ _ hc e _=>k b o hc e) (λb o _ _ hc e _=>⟨o.slots,k b o hc e⟩) (λ_ _ _ _ n=>n)
  (λb o hc e=>⟨o,k b o hc e⟩) (λ_ _ e=>e) (λ_ _ _ e=>e) (λb ps e=>⟨#[],by rw[e];simp⟩) (λm hm=>?_) (λb u e=>?_) I.bare
 ·obtain⟨f0,f1,f2,f3,f4,f5⟩:=hf b hb
  exact⟨f3,f1,f4,f5⟩
 ·obtain⟨o,es,ep,ho,r⟩:=hm
  exact⟨o,es,ep,k _ o (λz=>(hf _ z).2.1 rfl) ho,r⟩
 ·refine(I.hok b u e).stay (λc v hc q=>k c v ?_ q) (λ_ q=>q) λ_ _ q=>q
  rcases hc with z|z
  ·rw[z];exact Oj b u e
  ·exact Oj c _ z
end
section
variable{X:Cx}
theorem DE:bootBuiltins "zip" =some (.type "zip"):=by decide +kernel
end
end L2
namespace L3
open PySem PySem.Spec PyProof.Rows L2
def pairD(x y:D):D:= .tup [x,y]
section
variable{X:Cx}{pos:Pos}{body:List Stmt}{g:sr}{tb:ia}
end
end L3
namespace PySem
open PySem.Calls PySem.W
abbrev jb(h:Heap)(z TI TO T:Addr)(f:Bool):Prop:=
 h.get? z=some {cls:= .type "zip",dict:=none,data:= .fields #[rawInt T,.bool f,.bool false,.ref TI,.ref TO],slots:= #[]}
section
variable{prog:Program}{w:World}{A:Around}{E:Value->Shared->Prop}{s:Shared}
theorem zb{M:Model}{a:Addr}{Q:Option Obj->Shared->Prop}(h:Q (s.heap.get? a) s):wpAny M A (loadIfAlive a) Q E s:=
 λ_ _ _=>h
theorem oG{z TI TO T:Addr}{f:Bool}{oT:Obj}{Q:Bool->Shared->Prop}(hz:jb s.heap z TI TO T f)(hT:s.heap.get? T=some oT)
 (hQ:∀h',jb h' z TI TO T true->h'.objs.size=s.heap.objs.size->(∀c o,c≠z->s.heap.get? c=some o->h'.get? c=some o)->Q false {s with heap:=h'}) :
 wpAny (model prog w) A (Builtin.SmallTypes.ownedTupleIsFree (.ref z)) Q E s:=by
 unfold Builtin.SmallTypes.ownedTupleIsFree
 refine wpAny_bind (wpAny_field hz rfl (x:=rawInt T) rfl ?_)
 show wpAny _ _ (loadIfAlive T >>= _) _ _ _
 refine wpAny_bind (zb ?_)
 rw[hT]
 show wpAny _ _ (field (.ref z) 1 >>= _) _ _ _
 refine wpAny_bind (wpAny_field hz rfl (x:= .bool f) rfl ?_)
 cases f with
 |true=>exact wpAny_pure (hQ s.heap hz rfl λ_ _ _ e=>e)
 |false=>
  show wpAny _ _ (setField (.ref z) 1 (.bool true) >>= _) _ _ _
  refine wpAny_bind (wpAny_setField_rec hz (by simp) λh₁ Rz hs₁=>wpAny_pure (hQ h₁ Rz hs₁.1 λc o c1 e=>hs₁.extBut _ _ c1 e))
theorem uL{z TI TO T i1 i2 l1 l2:Addr}{f:Bool}{k1 k2:Nat}{xs ys:Array Value}{x y:Value}{oT:Obj}{Q:Value->Shared->Prop}(D:ZipApart z TI TO i1 i2 l1 l2)
 (hz:jb s.heap z TI TO T f)(hT:s.heap.get? T=some oT)(hTI:IsPair s.heap TI (.ref i1) (.ref i2))
 (h1:s.heap.IsListIter i1 l1 k1)(h2:s.heap.IsListIter i2 l2 k2)(hl1:s.heap.IsList l1 xs)(hl2:s.heap.IsList l2 ys)(hx:xs[k1]?=some x)(hy:ys[k2]?=some y)
 (hQ:∀h',jb h' z TI TO T true->h'.IsListIter i1 l1 (k1+1)->h'.IsListIter i2 l2 (k2+1)->IsPair h' s.heap.objs.size x y->h'.objs.size=s.heap.objs.size+1->
  (∀c o,c≠z->c≠i1->c≠i2->s.heap.get? c=some o->h'.get? c=some o)->Q (.ref s.heap.objs.size) {s with heap:=h'}) :
 wpAny (model prog w) A (Builtin.«zip.__next__» ⟨[.ref z],[]⟩) (λfin s'=>∃v,fin= .done (.ret v)/\Q v s') E s:=by
 show wpAny _ _ (field (.ref z) 2 >>= _) _ _ _
 refine wpAny_bind (wpAny_field hz rfl (x:= .bool false) rfl ?_)
 show wpAny _ _ (field (.ref z) 3 >>= _) _ _ _
 refine wpAny_bind (wpAny_field hz rfl (x:= .ref TI) rfl ?_)
 refine wpAny_bind (wpAny_seqItems hTI rfl ?_)
 show wpAny _ _ (Builtin.SmallTypes.ownedTupleIsFree (.ref z) >>= _) _ _ _
 refine wpAny_bind (oG hz hT λh₁ Rz hn₁ hk₁=>?_)
 simp only[aaD,if_false]
 have e1:h₁.IsListIter i1 l1 k1:=h1.at λo e=>hk₁ i1 o D.i1z e
 have e2:h₁.IsListIter i2 l2 k2:=h2.at λo e=>hk₁ i2 o D.i2z e
 have m1:h₁.IsList l1 xs:=by obtain⟨o,e,r⟩:=hl1;exact⟨o,hk₁ _ _ D.l1z e,r⟩
 have m2:h₁.IsList l2 ys:=by obtain⟨o,e,r⟩:=hl2;exact⟨o,hk₁ _ _ D.l2z e,r⟩
 refine wpAny_bind ?_
 rw[<-Array.forIn_toList]
 simp only[ab5,acq]
 refine wpAny_bind (wpAny_bind (wpAny_holding ?_))
 show wpAny _ _ (Builtin.SmallTypes.nextOf (.ref i1) >>= _) _ _ _
 refine wpAny_bind (wpAny_nextOf_list_item e1 m1 hx λh₂ g1 hs₂=>wpAny_pure (wpAny_pure ?_))
 refine wpAny_bind (wpAny_bind (wpAny_holding ?_))
 show wpAny _ _ (Builtin.SmallTypes.nextOf (.ref i2) >>= _) _ _ _
 refine wpAny_bind (wpAny_nextOf_list_item (e2.extBut hs₂.extBut D.i12.symm) (m2.extBut hs₂.extBut D.l2i1) hy λh₃ g2 NY=>wpAny_pure (wpAny_pure (wpAny_pure ?_)))
 show wpAny _ _ (newTuple [x,y] >>= _) _ _ _
 refine wpAny_bind (wpAny_newTuple ?_)
 have hsz:h₃.objs.size=s.heap.objs.size:=by rw[NY.1,hs₂.1,hn₁]
 have kp:∀c o,c≠z->c≠i1->c≠i2->s.heap.get? c=some o->h₃.get? c=some o:=λc o c1 c2 c3 e=>NY.extBut _ _ c3 (hs₂.extBut _ _ c2 (hk₁ c o c1 e))
 have z3:jb h₃ z TI TO T true:=NY.extBut _ _ D.i2z.symm (hs₂.extBut _ _ D.i1z.symm Rz)
 have g3:h₃.IsListIter i1 l1 (k1+1):=g1.extBut NY.extBut D.i12
 have up:∀c o,h₃.get? c=some o->(h₃.push {cls:= .type "tuple",data:= .seq #[x,y]}).get? c=some o:=λc o e=>Heap.get?_push_of_some _ e
 refine wpAny_pure ⟨_,rfl,?_⟩
 show Q (.ref h₃.objs.size) _
 have hp:IsPair (h₃.push {cls:= .type "tuple",data:= .seq #[x,y]}) h₃.objs.size x y:=Heap.get?_push_size _ rfl
 have q:=hQ (h₃.push {cls:= .type "tuple",data:= .seq #[x,y]}) (up _ _ z3) (g3.at λo e=>up _ o e) (g2.at λo e=>up _ o e) (by rw[<-hsz];exact hp) (by rw[Heap.size_push,hsz]) λc o c1 c2 c3 e=>up c o (kp c o c1 c2 c3 e)
 rw[hsz]
 exact q
theorem xx{z TI TO T i1 i2 l1 l2:Addr}{f:Bool}{k1 k2:Nat}{xs ys:Array Value}{oT:Obj}{Q:Fin->Shared->Prop}(hh:A.handled=none)(D:ZipApart z TI TO i1 i2 l1 l2)
 (hz:jb s.heap z TI TO T f)(hT:s.heap.get? T=some oT)(hTI:IsPair s.heap TI (.ref i1) (.ref i2))
 (h1:s.heap.IsListIter i1 l1 k1)(h2:s.heap.IsListIter i2 l2 k2)(hl1:s.heap.IsList l1 xs)(hl2:s.heap.IsList l2 ys)(hend:xs[k1]?=none\/ys[k2]?=none)
 (hE:∀h' e,(∀c o,c≠z->c≠i1->c≠i2->s.heap.get? c=some o->h'.get? c=some o)->(∃o,h'.get? e=some o/\o.cls= .type "StopIteration")->E (.ref e) {s with heap:=h'}) :
 wpAny (model prog w) A (Builtin.«zip.__next__» ⟨[.ref z],[]⟩) Q E s:=by
 show wpAny _ _ (field (.ref z) 2 >>= _) _ _ _
 refine wpAny_bind (wpAny_field hz rfl (x:= .bool false) rfl ?_)
 show wpAny _ _ (field (.ref z) 3 >>= _) _ _ _
 refine wpAny_bind (wpAny_field hz rfl (x:= .ref TI) rfl ?_)
 refine wpAny_bind (wpAny_seqItems hTI rfl ?_)
 show wpAny _ _ (Builtin.SmallTypes.ownedTupleIsFree (.ref z) >>= _) _ _ _
 refine wpAny_bind (oG hz hT λh₁ Rz hn₁ hk₁=>?_)
 simp only[aaD,if_false]
 have e1:h₁.IsListIter i1 l1 k1:=h1.at λo e=>hk₁ i1 o D.i1z e
 have e2:h₁.IsListIter i2 l2 k2:=h2.at λo e=>hk₁ i2 o D.i2z e
 have m1:h₁.IsList l1 xs:=by obtain⟨o,e,r⟩:=hl1;exact⟨o,hk₁ _ _ D.l1z e,r⟩
 have m2:h₁.IsList l2 ys:=by obtain⟨o,e,r⟩:=hl2;exact⟨o,hk₁ _ _ D.l2z e,r⟩
 refine wpAny_bind ?_
 rw[<-Array.forIn_toList]
 simp only[ab5,acq]
 refine wpAny_bind (wpAny_bind (wpAny_holding ?_))
 show wpAny _ _ (Builtin.SmallTypes.nextOf (.ref i1) >>= _) _ _ _
 cases hx:xs[k1]? with
 |none=>exact wpAny_bind (wpAny_nextOf_list_end hh e1 m1 hx λh₂ e hs₂ he=>hE h₂ e (λc o c1 c2 c3 x=>hs₂ _ _ c2 (hk₁ c o c1 x)) he)
 |some x=>
  have hy:ys[k2]?=none:=by
   rcases hend with h|h
   ·rw[hx]at h;cases h
   ·exact h
  refine wpAny_bind (wpAny_nextOf_list_item e1 m1 hx λh₂ g1 hs₂=>wpAny_pure (wpAny_pure ?_))
  refine wpAny_bind (wpAny_bind (wpAny_holding ?_))
  show wpAny _ _ (Builtin.SmallTypes.nextOf (.ref i2) >>= _) _ _ _
  exact wpAny_bind (wpAny_nextOf_list_end hh (e2.extBut hs₂.extBut D.i12.symm) (m2.extBut hs₂.extBut D.l2i1) hy λh₃ e NY he=>hE h₃ e (λc o c1 c2 c3 x=>NY _ _ c3 (hs₂.extBut _ _ c2 (hk₁ c o c1 x))) he)
theorem DF{z TI TO T i1 i2 l1 l2:Addr}{f:Bool}{k1 k2:Nat}{xs ys:Array Value}{x y:Value}{oT:Obj}{Q:Option Value->Shared->Prop}(D:ZipApart z TI TO i1 i2 l1 l2)
 (hz:jb s.heap z TI TO T f)(hT:s.heap.get? T=some oT)(hTI:IsPair s.heap TI (.ref i1) (.ref i2))
 (h1:s.heap.IsListIter i1 l1 k1)(h2:s.heap.IsListIter i2 l2 k2)(hl1:s.heap.IsList l1 xs)(hl2:s.heap.IsList l2 ys)(hx:xs[k1]?=some x)(hy:ys[k2]?=some y)
 (hQ:∀h',jb h' z TI TO T true->h'.IsListIter i1 l1 (k1+1)->h'.IsListIter i2 l2 (k2+1)->IsPair h' s.heap.objs.size x y->h'.objs.size=s.heap.objs.size+1->
  (∀c o,c≠z->c≠i1->c≠i2->s.heap.get? c=some o->h'.get? c=some o)->Q (some (.ref s.heap.objs.size)) {s with heap:=h'}) :
 wpAny (model prog w) A (pyNext (.ref z)) Q E s:=by
 have hTy:s.TypeIs (.ref z) "zip" :=⟨_,hz,rfl⟩
 unfold pyNext
 exact wpAny_bind (wpAny_attempt (wpAny_callSpecial?_slot (name:=Str.ofString "__next__") hTy F.slot_zip_next
  (wpAny_call_entry F.slot_zip_next hTy F.entry_zip_next
   (uL D hz hT hTI h1 h2 hl1 hl2 hx hy λh' a1 a2 a3 a4 a5 a6=>wpAny_pure (hQ h' a1 a2 a3 a4 a5 a6)) (F.args_zip_next_1 _))))
theorem FT{z TI TO T i1 i2 l1 l2:Addr}{f:Bool}{k1 k2:Nat}{xs ys:Array Value}{oT:Obj}{Q:Option Value->Shared->Prop}(hh:A.handled=none)(D:ZipApart z TI TO i1 i2 l1 l2)
 (hz:jb s.heap z TI TO T f)(hT:s.heap.get? T=some oT)(hTI:IsPair s.heap TI (.ref i1) (.ref i2))
 (h1:s.heap.IsListIter i1 l1 k1)(h2:s.heap.IsListIter i2 l2 k2)(hl1:s.heap.IsList l1 xs)(hl2:s.heap.IsList l2 ys)(hend:xs[k1]?=none\/ys[k2]?=none)
 (hQ:∀h',(∀c o,c≠z->c≠i1->c≠i2->s.heap.get? c=some o->h'.get? c=some o)->Q none {s with heap:=h'}):wpAny (model prog w) A (pyNext (.ref z)) Q E s:=by
 have hTy:s.TypeIs (.ref z) "zip" :=⟨_,hz,rfl⟩
 unfold pyNext
 refine wpAny_bind (wpAny_attempt (wpAny_callSpecial?_slot (name:=Str.ofString "__next__") hTy F.slot_zip_next
  (wpAny_call_entry F.slot_zip_next hTy F.entry_zip_next (xx hh D hz hT hTI h1 h2 hl1 hl2 hend λh' e hk he=>?_) (F.args_zip_next_1 _))))
 obtain⟨o,ho,hc⟩:=he
 refine wpAny_bind (wpAny_isInstance (T:= "StopIteration") (b:=true) ⟨o,ho,hc⟩ isSubtype_stop ?_)
 exact wpAny_pure (hQ _ hk)
def Qc(N0:Nat)(h:Heap)(z TI TO:Addr):Prop:=
 (IsZip h z TI TO .none/\∃a b,IsPair h TO a b)\/∃T f oT,jb h z TI TO T f/\h.get? T=some oT/\N0<=T
structure j3(N0:Nat)(xs ys:Array Value)(z TI TO i1 i2 l1 l2:Addr)(i:Nat)(h:Heap):Prop where
 st:Qc N0 h z TI TO
 ti:IsPair h TI (.ref i1) (.ref i2)
 i1:h.IsListIter i1 l1 i
 i2:h.IsListIter i2 l2 i
 l1:h.IsList l1 xs
 l2:h.IsList l2 ys
theorem j3.next{N0:Nat}{z TI TO i1 i2 l1 l2:Addr}{i:Nat}{xs ys:Array Value}{x y:Value}{Q:Option Value->Shared->Prop}(D:ZipApart z TI TO i1 i2 l1 l2)
 (Z:j3 N0 xs ys z TI TO i1 i2 l1 l2 i s.heap)(hN:N0<=s.heap.objs.size)(lt:z<N0/\TO<N0/\i1<N0/\i2<N0)(hx:xs[i]?=some x)(hy:ys[i]?=some y)
 (hQ:∀h',j3 N0 xs ys z TI TO i1 i2 l1 l2 (i+1) h'->IsPair h' s.heap.objs.size x y->h'.objs.size=s.heap.objs.size+1->
  (∀c o,c≠z->c≠TO->c≠i1->c≠i2->s.heap.get? c=some o->h'.get? c=some o)->Q (some (.ref s.heap.objs.size)) {s with heap:=h'}) :
 wpAny (model prog w) A (pyNext (.ref z)) Q E s:=by
 obtain⟨st,ti,a1,a2,m1,m2⟩:=Z
 have tl:∀{h':Heap},(∀c o,c≠z->c≠TO->c≠i1->c≠i2->s.heap.get? c=some o->h'.get? c=some o)->h'.IsList l1 xs/\h'.IsList l2 ys/\IsPair h' TI (.ref i1) (.ref i2):=λk=>by
  refine⟨?_,?_,k _ _ D.TIz D.TITO D.TIi1 D.TIi2 ti⟩
  ·obtain⟨o,e,r⟩:=m1;exact⟨o,k _ _ D.l1z D.l1TO D.l1i1 D.l1i2 e,r⟩
  ·obtain⟨o,e,r⟩:=m2;exact⟨o,k _ _ D.l2z D.l2TO D.l2i1 D.l2i2 e,r⟩
 rcases st with⟨hz,a,b,hTO⟩|⟨T,f,oT,hz,hT,KS⟩
 ·refine wpAny_pyNext_zip_item D hz ti hTO a1 a2 m1 m2 hx hy λh' b1 b2 b3 b4 b5 b6 b7=>?_
  obtain⟨t1,t2,t3⟩:=tl b7
  exact hQ h' ⟨.inr ⟨_,false,_,b1,b5,hN⟩,t3,b3,b4,t1,t2⟩ b5 b6 b7
 ·refine DF D hz hT ti a1 a2 m1 m2 hx hy λh' b1 b3 b4 b5 b6 b7=>?_
  obtain⟨t1,t2,t3⟩:=tl λc o c1 c2 c3 c4 e=>b7 c o c1 c3 c4 e
  exact hQ h' ⟨.inr ⟨_,true,_,b1,b7 T _ (aa5 (aay lt.1 KS)) (aa5 (aay lt.2.2.1 KS)) (aa5 (aay lt.2.2.2 KS)) hT,KS⟩,t3,b3,b4,t1,t2⟩ b5 b6 λc o c1 c2 c3 c4 e=>b7 c o c1 c3 c4 e
theorem j3.fin{N0:Nat}{z TI TO i1 i2 l1 l2:Addr}{i:Nat}{xs ys:Array Value}{Q:Option Value->Shared->Prop}(hh:A.handled=none)(D:ZipApart z TI TO i1 i2 l1 l2)
 (Z:j3 N0 xs ys z TI TO i1 i2 l1 l2 i s.heap)(hend:xs[i]?=none\/ys[i]?=none)
 (hQ:∀h',(∀c o,c≠z->c≠TO->c≠i1->c≠i2->s.heap.get? c=some o->h'.get? c=some o)->Q none {s with heap:=h'}):wpAny (model prog w) A (pyNext (.ref z)) Q E s:=by
 obtain⟨st,ti,a1,a2,m1,m2⟩:=Z
 rcases st with⟨hz,a,b,hTO⟩|⟨T,f,oT,hz,hT,KS⟩
 ·exact wpAny_pyNext_zip_end hh D hz ti hTO a1 a2 m1 m2 hend hQ
 ·exact FT hh D hz hT ti a1 a2 m1 m2 hend λh' k=>hQ h' λc o c1 _ c3 c4 e=>k c o c1 c3 c4 e
theorem j3.keep{N0:Nat}{z TI TO i1 i2 l1 l2 S:Addr}{i:Nat}{xs ys:Array Value}{h h':Heap}(Z:j3 N0 xs ys z TI TO i1 i2 l1 l2 i h)(hS:S<N0)(ne:S≠z/\S≠TI/\S≠TO/\S≠i1/\S≠i2/\S≠l1/\S≠l2)
 (k:∀c o,c≠S->h.get? c=some o->h'.get? c=some o):j3 N0 xs ys z TI TO i1 i2 l1 l2 i h':=by
 obtain⟨st,ti,a1,a2,m1,m2⟩:=Z
 obtain⟨n1,n2,n3,n4,n5,n6,n7⟩:=ne
 refine⟨?_,k _ _ n2.symm ti,a1.at λo e=>k _ o n4.symm e,a2.at λo e=>k _ o n5.symm e,?_,?_⟩
 ·rcases st with⟨hz,a,b,hTO⟩|⟨T,f,oT,hz,hT,KS⟩
  ·exact .inl ⟨k _ _ n1.symm hz,a,b,k _ _ n3.symm hTO⟩
  ·exact .inr ⟨T,f,oT,k _ _ n1.symm hz,k _ _ (aa5 (aay hS KS)) hT,KS⟩
 ·obtain⟨o,e,r⟩:=m1;exact⟨o,k _ _ n6.symm e,r⟩
 ·obtain⟨o,e,r⟩:=m2;exact⟨o,k _ _ n7.symm e,r⟩
def dP(N0:Nat)(xs ys:Array Value)(h:Heap)(acc:Array Value)(i:Nat):Prop:=
 acc.size=i/\(∀j x y,j<i->xs[j]?=some x->ys[j]?=some y->∃p,acc[j]?=some (.ref p)/\IsPair h p x y/\N0<=p)/\acc.toList.Nodup
theorem dP.keep{N0:Nat}{xs ys:Array Value}{h h':Heap}{acc:Array Value}{i:Nat}(P:dP N0 xs ys h acc i)(k:∀c o,N0<=c->h.get? c=some o->h'.get? c=some o):dP N0 xs ys h' acc i:=
 ⟨P.1,(λj x y hj hx hy=>by obtain⟨p,e1,e2,e3⟩:=P.2.1 j x y hj hx hy;exact⟨p,e1,k p _ e3 e2,e3⟩),P.2.2⟩
theorem dP.push{N0:Nat}{xs ys:Array Value}{h:Heap}{acc:Array Value}{i:Nat}{x y:Value}{p:Addr}(P:dP N0 xs ys h acc i)(hx:xs[i]?=some x)(hy:ys[i]?=some y)(hp:IsPair h p x y)(hN:N0<=p)(hnew:Value.ref p∉acc.toList):dP N0 xs ys h (acc.push (.ref p)) (i+1):=by
 refine⟨by rw[Array.size_push,P.1],λj u v hj hu hv=>?_,by rw[Array.toList_push,aa1];exact⟨P.2.2,by simp,λa ha b hb e=>by rw[aav.mp hb]at e;rw[e]at ha;exact hnew ha⟩⟩
 by_cases e:j=i
 ·subst e
  rw[hx]at hu;rw[hy]at hv
  cases hu;cases hv
  refine⟨p,?_,hp,hN⟩
  have:=P.1
  subst this
  exact Array.getElem?_push_size
 ·obtain⟨q,e1,e2,e3⟩:=P.2.1 j u v (by omega) hu hv
  refine⟨q,?_,e2,e3⟩
  rw[Array.getElem?_push,if_neg (by rw[P.1];exact e)]
  exact e1
variable{R:Result->Shared->Prop}
theorem FU{N0:Nat}{z TI TO i1 i2 l1 l2 S:Addr}{xs ys:Array Value}(hh:A.in1.handled=none)(D:ZipApart z TI TO i1 i2 l1 l2)(lt:z<N0/\TO<N0/\i1<N0/\i2<N0)(KU:S<N0)(ne:S≠z/\S≠TI/\S≠TO/\S≠i1/\S≠i2/\S≠l1/\S≠l2)(n:Nat)(hn:n=min xs.size ys.size)(hsz:n<=sizeLine)(res:Value) :
 ∀(k i:Nat) (s:Shared) (acc:Array Value) (c:Nat),n-i=k->i<=n->N0<=s.heap.objs.size->j3 N0 xs ys z TI TO i1 i2 l1 l2 i s.heap->s.heap.get? S=some {cls:= .type "list",dict:=none,data:= .seq acc c,slots:= #[]}->dP N0 xs ys s.heap acc i->
 (∀h' acc' c',(∀b o,b≠S->b≠z->b≠TO->b≠i1->b≠i2->s.heap.get? b=some o->h'.get? b=some o)->h'.get? S=some {cls:= .type "list",dict:=none,data:= .seq acc' c',slots:= #[]}->dP N0 xs ys h' acc' n->R (.ok (.ret res)) {s with heap:=h'})->
 codeAny (model prog w) A (.builtin "list.extend.loop" ⟨[.ref S,.ref z,res],[]⟩) R s:=by
 obtain⟨n1,n2,n3,n4,n5,n6,n7⟩:=id ne
 intro k
 induction k with
 |zero=>
  intro i s acc c hk hi hN Z hS hP hR
  have hin:i=n:=by omega
  refine codeAny_builtin F.entry_extend_loop ?_
  rw[Around.under_plainId F.plain_extend_loop _]
  show wpAny _ A.in1 (pyNext (.ref z) >>= _) _ _ s
  have hend:xs[i]?=none\/ys[i]?=none:=by
   rcases Nat.le_total xs.size ys.size with q|q
   ·left;rw[Array.getElem?_eq_none];omega
   ·right;rw[Array.getElem?_eq_none];omega
  refine wpAny_bind (Z.fin hh D hend λh' kp=>?_)
  subst hin
  refine wpAny_pure (hR h' acc c (λb o b1 b2 b3 b4 b5 e=>kp b o b2 b3 b4 b5 e) (kp S _ n1 n3 n4 n5 hS) (hP.keep λc o hc e=>kp c o ?_ ?_ ?_ ?_ e))
  ·exact aa5 (aay lt.1 hc)
  ·exact aa5 (aay lt.2.1 hc)
  ·exact aa5 (aay lt.2.2.1 hc)
  ·exact aa5 (aay lt.2.2.2 hc)
 |succ k ih=>
  intro i s acc c hk hi hN Z hS hP hR
  have hlt:i<n:=by omega
  have lx:i<xs.size:=by omega
  have ly:i<ys.size:=by omega
  refine codeAny_builtin F.entry_extend_loop ?_
  rw[Around.under_plainId F.plain_extend_loop _]
  show wpAny _ A.in1 (pyNext (.ref z) >>= _) _ _ s
  have hx:xs[i]?=some xs[i]:=Array.getElem?_eq_getElem lx
  have hy:ys[i]?=some ys[i]:=Array.getElem?_eq_getElem ly
  refine wpAny_bind (Z.next D hN lt hx hy λh' Z' hp hz' kp=>?_)
  have hS':=kp S _ n1 n3 n4 n5 hS
  have W7:dP N0 xs ys h' acc i:=hP.keep λc o hc e=>kp c o (aa5 (aay lt.1 hc)) (aa5 (aay lt.2.1 hc)) (aa5 (aay lt.2.2.1 hc)) (aa5 (aay lt.2.2.2 hc)) e
  have hnew:Value.ref s.heap.objs.size∉acc.toList:=λhm=>by
   obtain⟨j,hj,ej⟩:=adt.mp hm
   have hj':j<acc.size:=by simpa using hj
   have hji:j<i:=by rw[<-hP.1];exact hj'
   have gx:xs[j]?=some xs[j]:=Array.getElem?_eq_getElem (by omega)
   have gy:ys[j]?=some ys[j]:=Array.getElem?_eq_getElem (by omega)
   obtain⟨q,e1,e2,e3⟩:=hP.2.1 j _ _ hji gx gy
   rw[Array.getElem?_eq_getElem hj']at e1
   have e4:acc[j]=Value.ref s.heap.objs.size:=by rw[<-ej];simp
   rw[e4]at e1
   have e5:s.heap.objs.size=q:=by injection Option.some.inj e1
   have:=Heap.lt_size e2
   rw[<-e5]at this
   exact abu _ this
  show wpAny _ A.in1 (updateSeq S (·.push (.ref s.heap.objs.size)) >>= _) _ _ _
  refine wpAny_bind ?_
  have up:∀b o,b≠S->h'.get? b=some o->(h'.update S (Obj.mapSeq (·.push (.ref s.heap.objs.size)))).get? b=some o:=λb o hb e=>(Heap.get?_update_other _ _ (Ne.symm hb)).trans e
  refine wpAny_updateSeq hS' rfl (wpAny_pure ⟨plainId_quiet F.plain_extend_loop _,ih (i+1) _ (acc.push (.ref s.heap.objs.size)) _ (by omega) hlt ?_ (Z'.keep KU ne λc o hc e=>up c o hc e) (Heap.get?_update_self _ hS' rfl)
   ((W7.push hx hy hp hN hnew).keep λc o hc e=>up c o (aa5 (aay KU hc)) e) λh'' acc' c' TJ TL TM=>?_⟩) (by rw[hP.1];omega) (by show(acc.push _).size<=sizeLine+1;rw[Array.size_push,hP.1];omega)
  ·show N0<=(h'.update S _).objs.size
   have:(h'.update S (Obj.mapSeq (·.push (.ref s.heap.objs.size)))).objs.size=h'.objs.size:=(Heap.SameBut.update ..).1
   omega
  ·exact hR h'' acc' c' (λb o b1 b2 b3 b4 b5 e=>TJ b o b1 b2 b3 b4 b5 (up b o b1 (kp b o b2 b3 b4 b5 e))) TL TM
theorem A3:typeLookup (.type "zip") "__len__" =pure none:=by rw[typeLookup_type,builtinLookup_eq_fast];kernel_rfl
theorem zc:typeLookup (.type "zip") "__length_hint__" =pure none:=by rw[typeLookup_type,builtinLookup_eq_fast];kernel_rfl
theorem A4{N0:Nat}{z TI TO i1 i2 l1 l2 S:Addr}{xs ys:Array Value}{c₀:Nat}(hh:A.in1.handled=none)(D:ZipApart z TI TO i1 i2 l1 l2)(lt:z<N0/\TO<N0/\i1<N0/\i2<N0)(KU:S<N0)(ne:S≠z/\S≠TI/\S≠TO/\S≠i1/\S≠i2/\S≠l1/\S≠l2)(n:Nat)(hn:n=min xs.size ys.size)(hsz:n<=sizeLine)(res:Value)
 (hN:N0<=s.heap.objs.size)(Z:j3 N0 xs ys z TI TO i1 i2 l1 l2 0 s.heap)(hz:IsZip s.heap z TI TO .none)(hS:s.heap.get? S=some {cls:= .type "list",data:= .seq #[] c₀})
 (hR:∀h' acc' c',(∀b o,b≠S->b≠z->b≠TO->b≠i1->b≠i2->s.heap.get? b=some o->h'.get? b=some o)->h'.get? S=some {cls:= .type "list",dict:=none,data:= .seq acc' c',slots:= #[]}->dP N0 xs ys h' acc' n->R (.ok (.ret res)) {s with heap:=h'}) :
 wpAny (model prog w) A.in1 (Builtin.List.listExtendWith (.ref S) (.ref z) res)
  (λfin s'=>match fin with| .done f=>R (.ok f) s'| .again c'=>c'.quiet=true/\codeAny (model prog w) A c' R s') (λe s'=>R (.error e) s') s:=by
 have hTy:s.TypeIs (.ref z) "zip" :=⟨_,hz,rfl⟩
 unfold Builtin.List.listExtendWith
 refine wpAny_bind (wpAny_typeOf hTy ?_)
 have h1:Builtin.List.listSameRef (.ref S) (.ref z)=false:=by simp[Builtin.List.listSameRef,ne.1]
 have h2:(Value.type "zip" ==Value.type "list")=false:=by decide
 have h3:(Value.type "zip" ==Value.type "tuple")=false:=by decide
 simp only[h1,h2,h3,ady,aaD,if_false]
 refine wpAny_bind (wpAny_pyIter_zip hz ?_)
 refine wpAny_bind (wpAny_holding ?_)
 unfold Builtin.List.listLengthHint
 refine wpAny_bind (wpAny_specialOf hTy A3 ?_)
 show wpAny _ A.in1 (specialOf (Value.ref z) (Str.ofString "__length_hint__") >>= _) _ _ _
 refine wpAny_bind (wpAny_specialOf hTy zc ?_)
 refine wpAny_pure ?_
 show wpAny _ A.in1 (rule "list.extend.makes-room" >>= λ_=>Builtin.List.listTouch (.ref S) >>= λ_=>
  again (.builtin "list.extend.loop" ⟨[.ref S,.ref z,res],[]⟩)) _ _ _
 refine wpAny_bind (wpAny_rule ?_)
 refine wpAny_bind ?_
 show wpAny _ A.in1 (updateSeq S (·.push .none) >>= λ_=>updateSeq S (·.pop)) _ _ _
 refine wpAny_bind (wpAny_updateSeq hS rfl ?_)
 have NX:=Heap.get?_update_self (Obj.mapSeq (·.push Value.none)) hS rfl
 refine wpAny_updateSeq (hz:=by seq_fits) NX rfl ?_
 have W8:=Heap.get?_update_self (Obj.mapSeq (·.pop)) NX rfl
 have Jp:∀b o,b≠S->s.heap.get? b=some o->((s.heap.update S (Obj.mapSeq (·.push Value.none))).update S (Obj.mapSeq (·.pop))).get? b=some o:=
  λb o hb e=>(Heap.get?_update_other _ _ (Ne.symm hb)).trans ((Heap.get?_update_other _ _ (Ne.symm hb)).trans e)
 have TN:((s.heap.update S (Obj.mapSeq (·.push Value.none))).update S (Obj.mapSeq (·.pop))).objs.size=s.heap.objs.size:=by
  rw[(Heap.SameBut.update ..).1,(Heap.SameBut.update ..).1]
 refine wpAny_pure ⟨plainId_quiet F.plain_extend_loop _,FU hh D lt KU ne n hn hsz res n 0 _ _ _ rfl (abp _) (abo hN (acC TN.symm)) (Z.keep KU ne λc o hc e=>Jp c o hc e) W8 ⟨rfl,(λj x y hj=>absurd hj (adi _)),acJ⟩ λh' acc' c' kp hS' hP=>?_⟩
 exact hR h' acc' c' (λb o b1 b2 b3 b4 b5 e=>kp b o b1 b2 b3 b4 b5 (Jp b o b1 e)) hS' hP
theorem uM{N0:Nat}{z TI TO i1 i2 l1 l2 S:Addr}{xs ys:Array Value}(hh:A.in1.handled=none)(D:ZipApart z TI TO i1 i2 l1 l2)(lt:z<N0/\TO<N0/\i1<N0/\i2<N0)(KU:S<N0)(ne:S≠z/\S≠TI/\S≠TO/\S≠i1/\S≠i2/\S≠l1/\S≠l2)(n:Nat)(hn:n=min xs.size ys.size)(hsz:n<=sizeLine)
 (hN:N0<=s.heap.objs.size)(Z:j3 N0 xs ys z TI TO i1 i2 l1 l2 0 s.heap)(hz:IsZip s.heap z TI TO .none)(hS:s.heap.get? S=some {cls:= .type "list",data:= .seq #[]})
 (hR:∀h' acc' c',(∀b o,b≠S->b≠z->b≠TO->b≠i1->b≠i2->s.heap.get? b=some o->h'.get? b=some o)->h'.get? S=some {cls:= .type "list",dict:=none,data:= .seq acc' c',slots:= #[]}->dP N0 xs ys h' acc' n->R (.ok (.ret .none)) {s with heap:=h'}) :
 wpAny (model prog w) A.in1 (Builtin.«list.__init__» ⟨[.ref S,.ref z],[]⟩)
  (λfin s'=>match fin with| .done f=>R (.ok f) s'| .again c'=>c'.quiet=true/\codeAny (model prog w) A c' R s') (λe s'=>R (.error e) s') s:=by
 show wpAny _ A.in1 (do let old <-Builtin.List.listItems (.ref S);Builtin.List.listUpdate (.ref S) (λ_=> #[]);letGo old.toList.reverse;Builtin.List.listExtendWith (.ref S) (.ref z) .none) _ _ s
 refine wpAny_bind ?_
 unfold Builtin.List.listItems
 refine wpAny_bind (wpAny_seqItems hS rfl (wpAny_pure ?_))
 show wpAny _ A.in1 (updateSeq S (λ_=> #[]) >>= λ_=>letGo (#[]:Array Value).toList.reverse >>= λ_=>Builtin.List.listExtendWith (.ref S) (.ref z) .none) _ _ s
 refine wpAny_bind (wpAny_updateSeq hS rfl ?_)
 have NX:=Heap.get?_update_self (Obj.mapSeq (λ_=>(#[]:Array Value))) hS rfl
 have Jp:∀b o,b≠S->s.heap.get? b=some o->(s.heap.update S (Obj.mapSeq (λ_=>(#[]:Array Value)))).get? b=some o:=
  λb o hb e=>(Heap.get?_update_other _ _ (Ne.symm hb)).trans e
 have TN:(s.heap.update S (Obj.mapSeq (λ_=>(#[]:Array Value)))).objs.size=s.heap.objs.size:=(Heap.SameBut.update ..).1
 refine wpAny_bind (wpAny_letGo ?_)
 refine A4 hh D lt KU ne n hn hsz .none (abo hN (acC TN.symm)) (Z.keep KU ne λc o hc e=>Jp c o hc e) (Jp _ _ ne.1.symm hz) NX λh' acc' c' kp hS' hP=>?_
 exact hR h' acc' c' (λb o b1 b2 b3 b4 b5 e=>kp b o b1 b2 b3 b4 b5 (Jp b o b1 e)) hS' hP
theorem uN{z TI TO i1 i2 l1 l2:Addr}{xs ys:Array Value}{Q:Value->Shared->Prop}(hh:A.in1.in1.handled=none)(D:ZipApart z TI TO i1 i2 l1 l2)
 (lt:z<s.heap.objs.size/\TI<s.heap.objs.size/\TO<s.heap.objs.size/\i1<s.heap.objs.size/\i2<s.heap.objs.size/\l1<s.heap.objs.size/\l2<s.heap.objs.size)(n:Nat)(hn:n=min xs.size ys.size)(hsz:n<=sizeLine)
 (hz:IsZip s.heap z TI TO .none)(hTI:IsPair s.heap TI (.ref i1) (.ref i2)){a b:Value}(hTO:IsPair s.heap TO a b)(h1:s.heap.IsListIter i1 l1 0)(h2:s.heap.IsListIter i2 l2 0)(hl1:s.heap.IsList l1 xs)(hl2:s.heap.IsList l2 ys)
 (hQ:∀h' acc' c',(∀b o,b≠z->b≠TO->b≠i1->b≠i2->s.heap.get? b=some o->h'.get? b=some o)->h'.get? s.heap.objs.size=some {cls:= .type "list",dict:=none,data:= .seq acc' c',slots:= #[]}->dP (s.heap.objs.size+1) xs ys h' acc' n->Q (.ref s.heap.objs.size) {s with heap:=h'}) :
 wpAny (model prog w) A (call (.type "list") [.ref z]) Q E s:=by
 obtain⟨q1,q2,q3,q4,q5,q6,q7⟩:=lt
 refine callType_codes (Q₁:=λobj s₁=>obj= .ref s.heap.objs.size/\s₁= {s with heap:=s.heap.push {cls:= .type "list",data:= .seq #[]}}) F.called_list (F.typeCall_list_1 _) F.entry_list_init
  (code_list_new _ ⟨rfl,rfl⟩) λobj s₁ h₁=>?_
 obtain⟨rfl,rfl⟩:=h₁
 have hS:(s.heap.push {cls:= .type "list",data:= .seq #[]}).get? s.heap.objs.size=some {cls:= .type "list",data:= .seq #[]}:=Heap.get?_push_size _ rfl
 have up:∀c o,s.heap.get? c=some o->(s.heap.push {cls:= .type "list",data:= .seq #[]}).get? c=some o:=λc o e=>Heap.get?_push_of_some _ e
 have Z:j3 (s.heap.objs.size+1) xs ys z TI TO i1 i2 l1 l2 0 (s.heap.push {cls:= .type "list",data:= .seq #[]}):=
  ⟨.inl ⟨up _ _ hz,a,b,up _ _ hTO⟩,up _ _ hTI,h1.at λo e=>up _ o e,h2.at λo e=>up _ o e,(by obtain⟨o,e,r⟩:=hl1;exact⟨o,up _ _ e,r⟩),(by obtain⟨o,e,r⟩:=hl2;exact⟨o,up _ _ e,r⟩)⟩
 refine⟨⟨_,hS,rfl⟩,F.args_list_init_2 _ _,uM (N0:=s.heap.objs.size+1) hh D ⟨abx q1,abx q3,abx q4,abx q5⟩ (acA _) ⟨aa5 q1,aa5 q2,aa5 q3,aa5 q4,aa5 q5,aa5 q6,aa5 q7⟩ n hn hsz
  (by show s.heap.objs.size+1<=(Heap.push _ _).objs.size;rw[Heap.size_push];exact aaz _) Z (up _ _ hz) hS λh' acc' c' kp hS' hP=>?_⟩
 exact⟨rfl,hQ h' acc' c' (λb o b2 b3 b4 b5 e=>kp b o (aaN (Heap.lt_size e)) b2 b3 b4 b5 (up b o e)) hS' hP⟩
end
end PySem
namespace L2
open PySem PySem.Spec PyProof.Rows
section
variable{X:Cx}{pins:List (Addr ×Obj)}{σ:St}{H:Hp}{s:Shared}
theorem Inv.named{a:Addr}{o:HO}(I:Inv X pins σ H s)(f:j7 X pins H a)(new:cj X.prog X.w (upd H a o) s.heap a o):Inv X pins σ (upd H a o) s:=by
 obtain⟨f0,f1,f2,f3,f4,f5⟩:=f
 have nn:∀b u,H b=some u->b≠a:=λb u e z=>by rw[z,f0]at e;cases e
 have hok:iR X.prog X.w (upd H a o) s.heap:=λb u e=>by
  by_cases hb:b=a
  ·subst hb;rw[bu]at e;cases e;exact new
  ·rw[aE hb]at e
   exact(I.hok b u e).stay (λc v _ q=>q) (λc q=>by rw[aE (nn _ _ q)];exact q) λc xs q=>by rw[aE (nn _ _ q)];exact q
 exact I.step (h':=s.heap) (g':=s.gens) (d':=s.drawn) (t':=s.toks) (ch:=[a]) (λb hb=>by rw[aav.mp hb];exact⟨f3,f1,f4,f5⟩) (λb o _ _ _ e _=>e) (λb o _ _ _ e _=>⟨o.slots,e⟩) (λb o hc e n=>by rw[aE (by simpa using hc)];exact n)
  (λb o _ e=>⟨o,e⟩) (λb xs e=>by rw[aE (nn _ _ e)];exact e) (λb o u e=>by rw[aE (nn _ _ e)];exact e) (λb ps e=>⟨#[],by rw[aE (nn _ _ e),e];simp⟩) (λm hm=>hm) hok I.bare
end
end L2
namespace L3
open PySem PySem.Spec PyProof.Rows L2
section
variable{X:Cx}{pins:List (Addr ×Obj)}{σ:St}{s:Shared}
theorem tE:∀(L:List (Addr ×V ×V)) {H:Hp},Inv X pins σ H s->(L.map (·.1)).Nodup->(∀q∈L,j7 X pins H q.1/\∃u v,RelV q.2.1 u/\RelV q.2.2 v/\IsPair s.heap q.1 u v)->
 ∃H',Inv X pins σ H' s/\(∀b o,H b=some o->H' b=some o)/\(∀b,b∉L.map (·.1)->H' b=H b)/\∀q∈L,H' q.1=some (.tup [q.2.1,q.2.2])
 |[],H,I,_,_=>⟨H,I,λ_ _ e=>e,λ_ _=>rfl,λq hq=>by cases hq⟩
 |(p,x,y)::L,H,I,nd,h=>by
  obtain⟨f,u,v,ru,rv,hp⟩:=h (p,x,y) (by simp)
  rw[aaV,aaR]at nd
  have I1:Inv X pins σ (upd H p (.tup [x,y])) s:=I.named f ⟨by rw[sizeLine_eq];show 2<=16777216;decide,[u,v],.cons ru (.cons rv .nil),⟨_,hp,rfl,_,rfl⟩⟩
  obtain⟨H',I',k1,k2,k3⟩:=tE L I1 nd.2 λq hq=>by
   obtain⟨⟨f0,fr⟩,r⟩:=h q (aar _ hq)
   refine⟨⟨?_,fr⟩,r⟩
   rw[aE (λz=>nd.1 (aaI.mpr ⟨q,hq,z⟩))]
   exact f0
  refine⟨H',I',λb o e=>k1 b o (by rw[aE (bF e f.1)];exact e),λb hb=>?_,λq hq=>?_⟩
  ·rw[aaV,aat,not_or]at hb
   rw[k2 b hb.2,aE hb.1]
  ·rcases aat.mp hq with e|e
   ·rw[e];exact k1 p _ bu
   ·exact k3 q e
theorem vJ:∀(ps:List Addr),Vals (ps.map V.ref) (ps.map Value.ref)
 |[]=> .nil
 |p::ps=> .cons rfl (vJ ps)
theorem qF{K:PySem.W.Frag}{H:Hp}:∀{ds:List D} {xs:List V},ds.length=xs.length->(∀(i:Nat) (d:D),ds[i]?=some d->∃v,xs[i]?=some v/\Dat K H d v)->aF K H ds xs
 |[],[],_,_=>aM.mpr rfl
 |d::ds,x::xs,hl,h=>by
  obtain⟨v,e,hv⟩:=h 0 d rfl
  cases e
  exact aC.mpr ⟨x,xs,rfl,hv,qF (by simpa using hl) λi d e=>h (i+1) d e⟩
 |[],_::_,hl,_=>by cases hl
 |_::_,[],hl,_=>by cases hl
end
section
variable{X:Cx}{pos:Pos}
def Qd(t:pC):dg:=λρ M Q=>t ρ M λvs M1=>∃a b xs ys,vs=[.ref a,.ref b]/\M1 a=some (.lst xs)/\M1 b=some (.lst ys)/\∀p,M1 p=none->Q (.ref p) (ay M1 p (.lst (List.zipWith pairD xs ys)))
theorem DG{e1 e2:Expr}{t:pC}{p1 p2 pos2:Pos}(hc:X.calm=true)(Pq:Gl X "list")(hml:X.mg "list" =none)(W9:Gl X "zip")(Xa:X.mg "zip" =none)(ha:yz X [e1,e2] t)
 (st1:starEach [e1,e2] X.env=(false,eval e1 X.env)::starEach [e2] X.env:=by rfl)(hpl:(backTo pos2 (starEach [e2] X.env)).any (·.1)=false:=by rfl)
 (s2:starEach [.Call (.Name "zip" p2) [e1,e2] [] pos2] X.env=[(false,eval (.Call (.Name "zip" p2) [e1,e2] [] pos2) X.env)]:=by rfl) :
 cH X (.Call (.Name "list" p1) [.Call (.Name "zip" p2) [e1,e2] [] pos2] [] pos) (Qd t):=by
 constructor
 intro pins s σ H ρ M Q I r h
 refine wpAny_Call_Name_kw (kE I Pq hml c6 ?_ (by decide) (by decide))
 refine PyProof.Rows.callWith_type1 (Q:=EP X pins σ (Post X.K M H Q)) ?_ (by rw[s2];rfl) (by rfl)
 rw[s2]
 show wpAny _ _ (spliced ((false,eval (.Call (.Name "zip" p2) [e1,e2] [] pos2) X.env)::backTo pos [])) _ _ s
 refine Calls.spliced_cons ?_
 refine wpAny_Call_Name_kw (kE I W9 Xa DE ?_ (by decide) (by decide))
 refine PyProof.Rows.callWith_type1 (c5 (ha.run pos2 pins s σ H ρ M _ I r h) λus s1 hq=>?_) st1 hpl
 obtain⟨vs,H1,I1,r1,ds,M1,f1,dv,ju,a,b,xs,ys,e,Xb,Xc,q⟩:=hq
 subst e
 obtain⟨v,u,rfl,hv,hu⟩:=kM dv
 obtain rfl:=aA.mp hv
 obtain rfl:=aA.mp hu
 obtain⟨u1,u2,rfl,ra,rb⟩:=vals2 r1
 obtain rfl:u1=Value.ref a:=ra
 obtain rfl:u2=Value.ref b:=rb
 obtain⟨zs,Xd,dz⟩:=ju.lst Xb
 obtain⟨ws,Xe,dw⟩:=ju.lst Xc
 obtain⟨its,rv,pl,hz1⟩:=I1.list (gR.of Xd)
 obtain⟨RA,rw',TQ,hz2⟩:=I1.list (gR.of Xe)
 have la:a<s1.heap.objs.size:=by obtain⟨o,e,_⟩:=pl.isList;exact Heap.lt_size e
 have lb:b<s1.heap.objs.size:=by obtain⟨o,e,_⟩:=TQ.isList;exact Heap.lt_size e
 refine call_zip_2 pl.isList TQ.isList λh' hz hTI hTO h1 h2 hsz kp=>Calls.spliced_nil ?_
 have na:∀k,a≠s1.heap.objs.size+k:=λk=>aaN (aay la (abi _ _))
 have nb:∀k,b≠s1.heap.objs.size+k:=λk=>aaN (aay lb (abi _ _))
 have nn:∀j k:Nat,j≠k->s1.heap.objs.size+j≠s1.heap.objs.size+k:=λj k h e=>h (Nat.add_left_cancel e)
 have D:ZipApart (s1.heap.objs.size+4) (s1.heap.objs.size+2) (s1.heap.objs.size+3) s1.heap.objs.size (s1.heap.objs.size+1) a b:=
  ⟨nn 2 4 (by decide),nn 3 4 (by decide),nn 0 4 (by decide),nn 1 4 (by decide),nn 2 3 (by decide),nn 2 0 (by decide),nn 2 1 (by decide),nn 3 0 (by decide),nn 3 1 (by decide),nn 0 1 (by decide),na 4,na 3,na 0,na 1,nb 4,nb 3,nb 0,nb 1⟩
 have lz:=rv.length
 have lw:=rw'.length
 refine uN (s:={s1 with heap:=h'}) (show _ from I.ok.hd hc) D (by show _<h'.objs.size/\_;rw[hsz];exact⟨ach (by decide) _,ach (by decide) _,ach (by decide) _,Nat.lt_add_of_pos_right (by decide),ach (by decide) _,aay la (abi _ _),aay lb (abi _ _)⟩) (min its.toArray.size RA.toArray.size) rfl (by simp only[aax];omega) hz hTI hTO h1 h2
  (by obtain⟨o,e,r⟩:=pl.isList;exact⟨o,kp _ _ e,r⟩) (by obtain⟨o,e,r⟩:=TQ.isList;exact⟨o,kp _ _ e,r⟩) λh'' acc c Mx hS hP=>?_
 have hS:h''.get? (s1.heap.objs.size+5)=some {cls:= .type "list",dict:=none,data:= .seq acc c,slots:= #[]}:=by rw[<-hsz];exact hS
 have hP:dP (s1.heap.objs.size+6) its.toArray RA.toArray h'' acc (min its.toArray.size RA.toArray.size):=by
  have e:s1.heap.objs.size+6=h'.objs.size+1:=by rw[hsz]
  rw[e];exact hP
 have en:min its.toArray.size RA.toArray.size=min zs.length ws.length:=by simp only[aax];omega
 rw[en]at hP
 have I2:Inv X pins σ H1 {s1 with heap:=h',toks:=s1.toks}:=I1.kept (t':=s1.toks) kp
 have fz:∀{H':Hp} {b:Addr},s1.heap.objs.size<=b->H' b=none->j7 X pins H' b:=λhb hn=>I1.Dc hb hn
 have I3:Inv X pins σ H1 {s1 with heap:=h'',toks:=s1.toks}:=Inv.Jq (s:={s1 with heap:=h',toks:=s1.toks}) (h':=h'') (t':=s1.toks) (fp:=[s1.heap.objs.size+4,s1.heap.objs.size+3,s1.heap.objs.size,s1.heap.objs.size+1]) I2
  (λb o hb e=>by
   have nb:b≠s1.heap.objs.size+4/\b≠s1.heap.objs.size+3/\b≠s1.heap.objs.size/\b≠s1.heap.objs.size+1:=by simpa using hb
   exact Mx b o nb.1 nb.2.1 nb.2.2.1 nb.2.2.2 e)
  (λb hb=>by
   have hle:s1.heap.objs.size<=b:=by
    simp only[aat,aa7,or_false]at hb
    rcases hb with rfl|rfl|rfl|rfl
    ·exact abi _ _
    ·exact abi _ _
    ·exact aaz _
    ·exact abi _ _
   exact fz hle (I1.hok.fresh hle))
 have key:∀j,j<min zs.length ws.length->∃x y u v p,zs[j]?=some x/\ws[j]?=some y/\RelV x u/\RelV y v/\acc[j]?=some (.ref p)/\IsPair h'' p u v/\s1.heap.objs.size+6<=p:=λj hj=>by
  have gx:zs[j]?=some (zs[j]'(by omega)):=aau (by omega)
  have gy:ws[j]?=some (ws[j]'(by omega)):=aau (by omega)
  obtain⟨u,hu,ru⟩:=rv.get gx
  obtain⟨v,hv,Ry⟩:=rw'.get gy
  obtain⟨p,a1,a2,a3⟩:=hP.2.1 j u v hj (by simpa using hu) (by simpa using hv)
  exact⟨_,_,u,v,p,gx,gy,ru,Ry,a1,a2,a3⟩
 generalize hm:min zs.length ws.length=m at *
 let pj:Nat->Addr:=λj=>match acc[j]? with|some (.ref p)=>p|_=>0
 have TR:∀j,j<m->∃x y u v,zs[j]?=some x/\ws[j]?=some y/\RelV x u/\RelV y v/\acc[j]?=some (.ref (pj j))/\IsPair h'' (pj j) u v/\s1.heap.objs.size+6<=pj j:=λj hj=>by
  obtain⟨x,y,u,v,p,a1,a2,a3,a4,a5,a6,a7⟩:=key j hj
  have e:pj j=p:=by show(match acc[j]? with|some (.ref p)=>p|_=>0)=p;rw[a5]
  rw[e]
  exact⟨x,y,u,v,a1,a2,a3,a4,a5,a6,a7⟩
 have KW:acc.toList=((List.range m).map pj).map Value.ref:=by
  apply adI
  intro j
  by_cases hj:j<m
  ·obtain⟨x,y,u,v,a1,a2,a3,a4,a5,a6,a7⟩:=TR j hj
   rw[Array.getElem?_toList,a5]
   simp[hj]
  ·rw[aby (by simp[hP.1];omega),aby (by simp;omega)]
 have Qe:((List.range m).map pj).Nodup:=by
  have q:=hP.2.2
  rw[KW]at q
  exact(acT.mp q).imp λhne e=>hne (congrArg _ e)
 obtain⟨H',I4,k1,k2,k3⟩:=tE ((List.range m).map λj=>(pj j,(zs[j]?).getD .bJ,(ws[j]?).getD .bJ)) I3 (by rw[ac8];exact Qe) (λq hq=>by
  obtain⟨j,hj,rfl⟩:=aaI.mp hq
  obtain⟨x,y,u,v,a1,a2,a3,a4,a5,a6,a7⟩:=TR j (abg.mp hj)
  have hle:s1.heap.objs.size<=pj j:=abo (abi _ _) a7
  refine⟨fz hle (I1.hok.fresh hle),u,v,?_,?_,a6⟩
  ·show RelV ((zs[j]?).getD .bJ) u;rw[a1];exact a3
  ·show RelV ((ws[j]?).getD .bJ) v;rw[a2];exact a4)
 have TU:H' (s1.heap.objs.size+5)=none:=by
  rw[k2 _ (λhz=>?_)]
  ·exact I1.hok.fresh (abi _ _)
  ·rw[ac8]at hz
   obtain⟨j,hj,e⟩:=aaI.mp hz
   obtain⟨x,y,u,v,a1,a2,a3,a4,a5,a6,a7⟩:=TR j (abg.mp hj)
   have e:pj j=s1.heap.objs.size+5:=e
   rw[e]at a7
   exact absurd a7 (by omega)
 have hlen:((List.range m).map pj).length<=sizeLine:=by
  rw[aas,adJ]
  omega
 have I5:Inv X pins σ (upd H' (s1.heap.objs.size+5) (.lst (((List.range m).map pj).map V.ref))) {s1 with heap:=h'',toks:=s1.toks}:=
  I4.named (fz (abi _ _) TU) ⟨by rw[aas];exact hlen,((List.range m).map pj).map Value.ref,c,vJ _,by rw[<-KW];exact hS⟩
 have ev:(Value.ref ({s1 with heap:=h'}:Shared).heap.objs.size)= .ref (s1.heap.objs.size+5):=by show Value.ref h'.objs.size=_;rw[hsz]
 have TV:Ext H1 H':=Ext.keep k1
 refine⟨.ref (s1.heap.objs.size+5),_,I5,ev,.ref _,ay M1 _ (.lst (List.zipWith pairD xs ys)),?_,aA.mpr rfl,(ju.keep k1).newL TU ?_,q _ ?_⟩
 ·refine f1.trans (Fr.trans (λb o n e=>⟨k1 b o e,n⟩) (Fr.new TU λ_ hb=>aK hb))
 ·refine qF (by rw[aci,aas,aas,adJ,<-hm,dz.length,dw.length]) λi d hd=>?_
  rw[abV]at hd
  cases hx:xs[i]? with
  |none=>rw[hx]at hd;cases hd
  |some dx=>
   cases hy:ys[i]? with
   |none=>rw[hx,hy]at hd;cases hd
   |some dy=>
    rw[hx,hy]at hd
    have hd:pairD dx dy=d:=Option.some.inj hd
    obtain⟨x,gx,qx⟩:=dz.get hx
    obtain⟨y,gy,qy⟩:=dw.get hy
    have hi:i<m:=by
     have i1:=(aaQ.mp gx).1
     have i2:=(aaQ.mp gy).1
     omega
    have q3:=k3 (pj i,(zs[i]?).getD .bJ,(ws[i]?).getD .bJ) (aaI.mpr ⟨i,abg.mpr hi,rfl⟩)
    rw[gx,gy]at q3
    refine⟨.ref (pj i),by simp[hi],?_⟩
    rw[<-hd]
    exact br.mpr ⟨pj i,[x,y],rfl,q3,aF.mono TV _ _ (aC.mpr ⟨x,[y],rfl,qx,aF.one qy⟩)⟩
 ·exact ju.free (I1.hok.fresh (abi _ _))
end
end L3
namespace L3
open PySem
def jy:List Pl->Pl->List Pl
 |b::a::r,p=>if tw a b p<0 then jy (a::r) p else b::a::r
 |[a],_=>[a]
 |[],_=>[]
def aR(st:List Pl)(p:Pl):List Pl:=p::jy st p
structure Way where
 al:Int
 be:Int
def Way.f(w:Way)(p:Pl):Int:=w.al*p.x+w.be*p.y
theorem iy(al be ux uy vx vy px py:Int):(al*vx+be*vy)*(ux*py-uy*px)=(al*ux+be*uy)*(vx*py-vy*px)+(al*px+be*py)*(ux*vy-uy*vx):=by grind
theorem iz{a b:Int}(ha:0<a)(h:0<=a*b):0<=b:=by
 apply aaq
 intro z
 have:a*b<0:=aa9 ha (by omega)
 omega
theorem rE{a b:Int}(ha:0<a)(h:0<a*b):0<b:=by
 apply aaq
 intro z
 have:a*b<=0:=aaJ (by omega) (by omega)
 omega
section
variable{w:Way}
theorem Jr{z a b p:Pl}(h1:w.f z<w.f a)(h2:w.f a<w.f b)(h3:w.f b<w.f p)(t1:0<=tw z a b)(t2:0<=tw a b p):0<=tw z a p:=by
 have key:=iy w.al w.be (a.x-z.x) (a.y-z.y) (b.x-a.x) (b.y-a.y) (p.x-a.x) (p.y-a.y)
 unfold Way.f at h1 h2 h3
 have e1:tw z a b=(a.x-z.x)*(b.y-a.y)-(a.y-z.y)*(b.x-a.x):=by unfold tw;grind
 have e2:tw a b p=(b.x-a.x)*(p.y-a.y)-(b.y-a.y)*(p.x-a.x):=by unfold tw;grind
 have e3:tw z a p=(a.x-z.x)*(p.y-a.y)-(a.y-z.y)*(p.x-a.x):=by unfold tw;grind
 rw[<-e1,<-e2,<-e3]at key
 have fU:0<w.al*(a.x-z.x)+w.be*(a.y-z.y):=by rw[aa3,aa3];omega
 have fV:0<w.al*(b.x-a.x)+w.be*(b.y-a.y):=by rw[aa3,aa3];omega
 have fP:0<w.al*(p.x-a.x)+w.be*(p.y-a.y):=by rw[aa3,aa3];omega
 refine iz fV ?_
 rw[key]
 have m1:=aaB (aaO fU) t2
 have m2:=aaB (aaO fP) t1
 omega
theorem FW{a c p q:Pl}(h1:w.f a<w.f c)(h2:w.f c<w.f p)(h3:w.f q<=w.f c)(t1:0<=tw a c q)(t2:0<=tw a c p):0<=tw c p q:=by
 have key:=iy w.al w.be (p.x-c.x) (p.y-c.y) (c.x-a.x) (c.y-a.y) (q.x-c.x) (q.y-c.y)
 unfold Way.f at h1 h2 h3
 have e1:tw a c q=(c.x-a.x)*(q.y-c.y)-(c.y-a.y)*(q.x-c.x):=by unfold tw;grind
 have e2:tw a c p= -((p.x-c.x)*(c.y-a.y)-(p.y-c.y)*(c.x-a.x)):=by unfold tw;grind
 have e3:tw c p q=(p.x-c.x)*(q.y-c.y)-(p.y-c.y)*(q.x-c.x):=by unfold tw;grind
 have TX:(p.x-c.x)*(c.y-a.y)-(p.y-c.y)*(c.x-a.x)= -tw a c p:=by omega
 rw[<-e1,TX,<-e3]at key
 have fU:0<w.al*(c.x-a.x)+w.be*(c.y-a.y):=by rw[aa3,aa3];omega
 have fP:0<w.al*(p.x-c.x)+w.be*(p.y-c.y):=by rw[aa3,aa3];omega
 have fQ:w.al*(q.x-c.x)+w.be*(q.y-c.y)<=0:=by rw[aa3,aa3];omega
 refine iz fU ?_
 rw[key]
 have m1:=aaB (aaO fP) t1
 have m2:0<=(w.al*(q.x-c.x)+w.be*(q.y-c.y))* -tw a c p:=aaS fQ (by omega)
 omega
theorem FY{c d p q:Pl}(h1:w.f c<w.f d)(h2:w.f c<w.f p)(h3:w.f c<w.f q)(t1:0<=tw c d q)(t2:tw c d p<0):0<tw c p q:=by
 have key:=iy w.al w.be (p.x-c.x) (p.y-c.y) (d.x-c.x) (d.y-c.y) (q.x-c.x) (q.y-c.y)
 unfold Way.f at h1 h2 h3
 have e1:tw c d q=(d.x-c.x)*(q.y-c.y)-(d.y-c.y)*(q.x-c.x):=by unfold tw;grind
 have TX:(p.x-c.x)*(d.y-c.y)-(p.y-c.y)*(d.x-c.x)= -tw c d p:=by unfold tw;grind
 have e3:tw c p q=(p.x-c.x)*(q.y-c.y)-(p.y-c.y)*(q.x-c.x):=by unfold tw;grind
 rw[<-e1,TX,<-e3]at key
 have fU:0<w.al*(d.x-c.x)+w.be*(d.y-c.y):=by rw[aa3,aa3];omega
 have fP:0<w.al*(p.x-c.x)+w.be*(p.y-c.y):=by rw[aa3,aa3];omega
 have fQ:0<w.al*(q.x-c.x)+w.be*(q.y-c.y):=by rw[aa3,aa3];omega
 refine rE fU ?_
 rw[key]
 have m1:=aaB (aaO fP) t1
 have m2:0<(w.al*(q.x-c.x)+w.be*(q.y-c.y))* -tw c d p:=aaT fQ (by omega)
 omega
def xA(w:Way)(S:List Pl)(a b:Pl):Prop:= ∀q∈S,0<=tw a b q/\(tw a b q=0->¬(w.f a<w.f q/\w.f q<w.f b))
def mY(w:Way)(S:List Pl):List Pl->Prop
 |b::a::r=>w.f a<w.f b/\xA w S a b/\mY w S (a::r)
 |_=>True
def Cs(p:Pl):List Pl->Prop
 |b::a::r=>0<=tw a b p/\Cs p (a::r)
 |_=>True
structure Ch(w:Way)(S st:List Pl):Prop where
 rF:∀q∈st,q∈S
 Js:mY w S st
 top:∀q∈S,∃t,st.head?=some t/\w.f q<=w.f t
 bot:∀q∈S,∃t,st.getLast?=some t/\w.f t<=w.f q
 inj:∀q∈S,∀r∈S,w.f q=w.f r->q=r
theorem zd{S:List Pl}{p:Pl}:∀(r:List Pl) (b a:Pl),mY w S (b::a::r)->(∀q∈b::a::r,q∈S)->w.f b<w.f p->0<=tw a b p->Cs p (b::a::r)
 |[],b,a,_,_,_,t=>⟨t,trivial⟩
 |z::r,b,a,e,m,h,t=>by
  obtain⟨e1,e2,e3⟩:=e
  obtain⟨e4,e5,e6⟩:=id e3
  have t2:0<=tw z a p:=Jr e4 e1 h (e5 b (m b (by simp))).1 t
  exact⟨t,zd r a z e3 (λq hq=>m q (aar _ hq)) (by omega) t2⟩
structure ML(w:Way)(S st:List Pl)(p c:Pl)(r:List Pl):Prop where
 eq:jy st p=c::r
 Js:mY w S (c::r)
 rF:∀q∈c::r,q∈S
 cL:Cs p (c::r)
 lst:(c::r).getLast?=st.getLast?
 Vt:(∀q∈S,w.f q<=w.f c)\/∃d,w.f c<w.f d/\(∀q∈S,0<=tw c d q)/\tw c d p<0
theorem FZ{S:List Pl}{p:Pl}(hp:∀q∈S,w.f q<w.f p):∀(st:List Pl) (c:Pl) (r:List Pl),st=c::r->mY w S st->(∀q∈st,q∈S)->((∀q∈S,w.f q<=w.f c)\/∃d,w.f c<w.f d/\(∀q∈S,0<=tw c d q)/\tw c d p<0)->
 ∃c' r',ML w S st p c' r'
 |_,c,[],rfl,e,m,f=>⟨c,[],rfl,trivial,m,trivial,rfl,f⟩
 |_,b,a::r,rfl,e,m,f=>by
  obtain⟨e1,e2,e3⟩:=id e
  by_cases k:tw a b p<0
  ·obtain⟨c',r',P⟩:=FZ hp (a::r) a r rfl e3 (λq hq=>m q (aar _ hq)) (.inr ⟨b,e1,λq hq=>(e2 q hq).1,k⟩)
   refine⟨c',r',?_,P.Js,P.rF,P.cL,?_,P.Vt⟩
   ·show(if tw a b p<0 then jy (a::r) p else b::a::r)=_
    rw[if_pos k];exact P.eq
   ·rw[P.lst];rfl
  ·refine⟨b,a::r,?_,e,m,zd r b a e m (hp b (m b (by simp))) (by omega),rfl,f⟩
   show(if tw a b p<0 then jy (a::r) p else b::a::r)=_
   rw[if_neg k]
theorem tF{S:List Pl}{p:Pl}:∀(st:List Pl),mY w S st->Cs p st->(∀q∈st,w.f q<w.f p)->mY w (S++[p]) st
 |[],_,_,_=>trivial
 |[_],_,_,_=>trivial
 |b::a::r,e,l,h=>by
  obtain⟨e1,e2,e3⟩:=e
  refine⟨e1,λq hq=>?_,tF (a::r) e3 l.2 λq hq=>h q (aar _ hq)⟩
  rcases aaF.mp hq with hq|hq
  ·exact e2 q hq
  ·rw[aav.mp hq]
   exact⟨l.1,λ_ z=>by have:=h b (by simp);omega⟩
theorem Ch.push{S st:List Pl}{p:Pl}(C:Ch w S st)(hne:S≠[])(hp:∀q∈S,w.f q<w.f p):Ch w (S++[p]) (aR st p):=by
 obtain⟨s0,hs0⟩:=acU S hne
 obtain⟨b,hb,_⟩:=C.top s0 hs0
 obtain⟨r,rfl⟩:∃r,st=b::r:=by
  cases st with
  |nil=>cases hb
  |cons x r=>exact⟨r,by rw[Option.some.inj hb]⟩
 obtain⟨c,r',P⟩:=FZ hp (b::r) b r rfl C.Js C.rF (.inl λq hq=>by
  obtain⟨t,e,h⟩:=C.top q hq
  rw[<-Option.some.inj e]at h
  exact h)
 have cS:c∈S:=P.rF c (by simp)
 have hcp:w.f c<w.f p:=hp c cS
 have TY:xA w (S++[p]) c p:=λq hq=>by
  rcases aaF.mp hq with hq|hq
  ·by_cases k:w.f q<=w.f c
   ·refine⟨?_,λ_ z=>by omega⟩
    cases r' with
    |nil=>
     obtain⟨t,e,h⟩:=C.bot q hq
     rw[<-P.lst]at e
     have e:c=t:=by simpa using e
     subst e
     have:=C.inj q hq c cS (by omega)
     subst this
     rw[ie]
     exact abr _
    |cons a r''=>
     obtain⟨e1,e2,e3⟩:=P.Js
     exact FW e1 hcp k (e2 q hq).1 P.cL.1
   ·rcases P.Vt with f|⟨d,d1,d2,d3⟩
    ·exact absurd (f q hq) k
    ·have:=FY d1 hcp (by omega) (d2 q hq) d3
     exact⟨by omega,λz=>by omega⟩
  ·rw[aav.mp hq,sE]
   exact⟨abr _,λ_ z=>by omega⟩
 refine⟨λq hq=>?_,?_,λq hq=>⟨p,rfl,?_⟩,λq hq=>?_,λq hq r hr e=>?_⟩
 ·unfold aR at hq
  rw[P.eq]at hq
  rcases aat.mp hq with rfl|hq
  ·simp
  ·exact aaH _ (P.rF q hq)
 ·unfold aR
  rw[P.eq]
  exact⟨hcp,TY,tF _ P.Js P.cL λq hq=>hp q (P.rF q hq)⟩
 ·rcases aaF.mp hq with hq|hq
  ·have:=hp q hq;omega
  ·rw[aav.mp hq];exact abr _
 ·unfold aR
  rw[P.eq,List.getLast?_cons_cons,P.lst]
  rcases aaF.mp hq with hq|hq
  ·exact C.bot q hq
  ·rw[aav.mp hq]
   obtain⟨t,e,h⟩:=C.bot s0 hs0
   have:=hp s0 hs0
   exact⟨t,e,by omega⟩
 ·rcases aaF.mp hq with hq|hq<;>rcases aaF.mp hr with hr|hr
  ·exact C.inj q hq r hr e
  ·rw[aav.mp hr]at e;have:=hp q hq;omega
  ·rw[aav.mp hq]at e;have:=hp r hr;omega
  ·rw[aav.mp hq,aav.mp hr]
theorem Ch.one(p:Pl):Ch w [p] (aR [] p):=by
 refine⟨λq hq=>hq,trivial,λq hq=>⟨p,rfl,?_⟩,λq hq=>⟨p,rfl,?_⟩,λq hq r hr _=>?_⟩
 ·rw[aav.mp hq];exact abr _
 ·rw[aav.mp hq];exact abr _
 ·rw[aav.mp hq,aav.mp hr]
theorem Ch.all:∀(line S st:List Pl),S≠[]->Ch w S st->(S++line).Pairwise (λp q=>w.f p<w.f q)->Ch w (S++line) (line.foldl aR st)
 |[],S,st,_,C,_=>by rw[abf];exact C
 |p::line,S,st,hne,C,hs=>by
  have e:S++p::line=(S++[p])++line:=by simp
  rw[e]at hs ⊢
  have hp:∀q∈S,w.f q<w.f p:=λq hq=>by
   have:=(ace.mp (ace.mp hs).1).2.2 q hq p (by simp)
   exact this
  rw[adP]
  exact Ch.all line (S++[p]) (aR st p) (by simp) (C.push hne hp) hs
theorem lA{line:List Pl}(hne:line≠[])(hs:line.Pairwise (λp q=>w.f p<w.f q)):Ch w line (line.foldl aR []):=by
 cases line with
 |nil=>exact absurd rfl hne
 |cons p line=>exact Ch.all line [p] (aR [] p) (by simp) (Ch.one p) hs
def xB(st:List Pl)(a b:Pl):Prop:= ∃i:Nat,st[i+1]?=some a/\st[i]?=some b
theorem xC{S:List Pl}:∀{st:List Pl} {a b:Pl},mY w S st->xB st a b->w.f a<w.f b/\xA w S a b
 |[],a,b,_,⟨i,h,_⟩=>by simp at h
 |[_],a,b,_,⟨i,h,_⟩=>by simp at h
 |y::x::r,a,b,e,⟨i,h1,h2⟩=>by
  obtain⟨e1,e2,e3⟩:=e
  cases i with
  |zero=>
   have z1:x=a:=by simpa using h1
   have z2:y=b:=by simpa using h2
   subst z1 z2
   exact⟨e1,e2⟩
  |succ i=>exact xC e3 ⟨i,by simpa using h1,by simpa using h2⟩
theorem vK{S:List Pl}:∀{st:List Pl} {t a:Pl},mY w S st->st.head?=some t->w.f a<w.f t->(∃z,st.getLast?=some z/\w.f z<=w.f a)->∃c d,xB st c d/\w.f c<=w.f a/\w.f a<w.f d
 |[],t,a,_,h,_,_=>by cases h
 |[y],t,a,_,h,h1,⟨z,hz,h2⟩=>by
  have z1:y=t:=by simpa using h
  have z2:y=z:=by simpa using hz
  subst z1 z2
  omega
 |y::x::r,t,a,e,h,h1,hz=>by
  have z1:y=t:=by simpa using h
  subst z1
  obtain⟨e1,e2,e3⟩:=e
  by_cases k:w.f x<=w.f a
  ·exact⟨x,y,⟨0,rfl,rfl⟩,k,h1⟩
  ·obtain⟨c,d,⟨i,g1,g2⟩,g3,g4⟩:=vK (t:=x) (a:=a) e3 rfl (by omega) (by
    obtain⟨z,hz,h2⟩:=hz
    exact⟨z,by simpa using hz,h2⟩)
   exact⟨c,d,⟨i+1,by simpa using g1,by simpa using g2⟩,g3,g4⟩
theorem DH{a b c d:Pl}(h1:w.f c<w.f a)(h2:w.f a<w.f d)(h3:w.f a<w.f b)(t1:0<=tw a b c)(t2:0<=tw a b d):tw c d a<=0:=by
 have key:=iy w.al w.be (c.x-a.x) (c.y-a.y) (b.x-a.x) (b.y-a.y) (d.x-a.x) (d.y-a.y)
 unfold Way.f at h1 h2 h3
 have e1:(c.x-a.x)*(b.y-a.y)-(c.y-a.y)*(b.x-a.x)= -tw a b c:=by unfold tw;grind
 have e2:tw a b d=(b.x-a.x)*(d.y-a.y)-(b.y-a.y)*(d.x-a.x):=by unfold tw;grind
 have e3:tw c d a=(c.x-a.x)*(d.y-a.y)-(c.y-a.y)*(d.x-a.x):=by unfold tw;grind
 rw[e1,<-e2,<-e3]at key
 have fV:0<w.al*(b.x-a.x)+w.be*(b.y-a.y):=by rw[aa3,aa3];omega
 have fC:w.al*(c.x-a.x)+w.be*(c.y-a.y)<0:=by rw[aa3,aa3];omega
 have fD:0<w.al*(d.x-a.x)+w.be*(d.y-a.y):=by rw[aa3,aa3];omega
 have m1:(w.al*(c.x-a.x)+w.be*(c.y-a.y))*tw a b d<=0:=aaM (by omega) t2
 have m2:(w.al*(d.x-a.x)+w.be*(d.y-a.y))* -tw a b c<=0:=aaJ (by omega) (by omega)
 apply aaq
 intro z
 have:0<(w.al*(b.x-a.x)+w.be*(b.y-a.y))*tw c d a:=aaT fV (by omega)
 omega
theorem iA{S st:List Pl}(C:Ch w S st){a b:Pl}:xB st a b↔a∈S/\b∈S/\w.f a<w.f b/\xA w S a b:=by
 constructor
 ·intro h
  obtain⟨h1,h2⟩:=xC C.Js h
  obtain⟨i,g1,g2⟩:=h
  exact⟨C.rF a (aaC g1),C.rF b (aaC g2),h1,h2⟩
 ·rintro⟨ha,hb,hab,he⟩
  obtain⟨t,ht,NZ⟩:=C.top b hb
  obtain⟨c,d,hcd,h1,h2⟩:=vK C.Js ht (show w.f a<w.f t by omega) (C.bot a ha)
  obtain⟨e1,e2⟩:=xC C.Js hcd
  have hc:c∈S:=by obtain⟨i,g1,g2⟩:=hcd;exact C.rF c (aaC g1)
  have hd:d∈S:=by obtain⟨i,g1,g2⟩:=hcd;exact C.rF d (aaC g2)
  have ea:c=a:=by
   apply aaq
   intro z
   have hlt:w.f c<w.f a:=by
    rcases acM h1 with y|y
    ·exact y
    ·exact absurd (C.inj c hc a ha y) z
   have t1:=DH hlt h2 hab (he c hc).1 (he d hd).1
   have t2:=(e2 a ha).1
   exact(e2 a ha).2 (by omega) ⟨hlt,h2⟩
  subst ea
  have t1:=(he d hd).1
  have t2:=(e2 b hb).1
  have t3:tw c d b= -tw c b d:=by rw[kT]
  have t0:tw c b d=0:=by omega
  have ed:d=b:=by
   rcases abw (w.f d) (w.f b)with y|y|y
   ·exact absurd ⟨h2,y⟩ ((he d hd).2 t0)
   ·exact C.inj d hd b hb y
   ·exact absurd ⟨hab,y⟩ ((e2 b hb).2 (by omega))
  subst ed
  exact hcd
def ao:Way:=⟨2 ^ 142,1⟩
def qR:Way:=⟨-2 ^ 142, -1⟩
theorem lB{p q:Pl}(hp:p.y.natAbs<2 ^ 140)(hq:q.y.natAbs<2 ^ 140):aQ p q↔ao.f p<ao.f q:=by
 unfold aQ Way.f ao
 dsimp only
 have e:(2:Int) ^ 142=5575186299632655785383929568162090376495104:=by decide
 have e2:(2:Nat) ^ 140=1393796574908163946345982392040522594123776:=by decide
 rw[e2]at hp hq
 rw[e]
 omega
theorem gW(p:Pl):qR.f p= -ao.f p:=by
 unfold Way.f qR ao
 dsimp only
 have e:(2:Int) ^ 142=5575186299632655785383929568162090376495104:=by decide
 rw[e]
 omega
end
end L3
namespace L3
open PySem PySem.Spec PyProof.Rows L2
theorem DI(b:Pl)(r:List Pl):rW ((b::r).reverse.map Pl.d) (-1)=some b.d:=by
 rw[abq,aaK]
 exact yI _ _
theorem DJ(b a:Pl)(r:List Pl):rW ((b::a::r).reverse.map Pl.d) (-2)=some a.d:=by
 have hl:((b::a::r).reverse.map Pl.d).length=r.length+2:=by simp
 have e:Em (r.length+2) (-2)=some r.length:=by
  unfold Em
  rw[if_neg (by decide),if_pos (by omega)]
  congr 1
  omega
 unfold rW
 rw[hl,e]
 show((b::a::r).reverse.map Pl.d)[r.length]?=some a.d
 rw[abq,abq,acV,aaK,abT (by simp)]
 simp
theorem ze:∀(st:List Pl) (p:Pl),(jy st p).length<=st.length
 |[],_=>aaz _
 |[_],_=>aaz _
 |b::a::r,p=>by
  show(if tw a b p<0 then jy (a::r) p else b::a::r).length<=_
  have:=ze (a::r) p
  split
  ·simp only[aaX]at this ⊢;omega
  ·exact aaz _
theorem zf:∀(st:List Pl) (p:Pl),∀q∈jy st p,q∈st
 |[],_,_,h=>h
 |[_],_,_,h=>h
 |b::a::r,p,q,h=>by
  have h:q∈(if tw a b p<0 then jy (a::r) p else b::a::r):=h
  by_cases k:tw a b p<0
  ·rw[if_pos k]at h
   exact aar _ (zf (a::r) p q h)
  ·rw[if_neg k]at h
   exact h
theorem Ga{a b p:Pl}{r:List Pl}(h:tw a b p<0):jy (b::a::r) p=jy (a::r) p:=by
 show(if tw a b p<0 then jy (a::r) p else b::a::r)=_
 rw[if_pos h]
theorem Gb{a b p:Pl}{r:List Pl}(h:¬tw a b p<0):jy (b::a::r) p=b::a::r:=by
 show(if tw a b p<0 then jy (a::r) p else b::a::r)=_
 rw[if_neg h]
theorem fR(ps:List Pl):(ps.foldl aR []).length<=ps.length:=by
 have key:∀(ps st:List Pl),(ps.foldl aR st).length<=st.length+ps.length:=by
  intro ps
  induction ps with
  |nil=>intro st;simp
  |cons p ps ih=>
   intro st
   have h1:=ih (aR st p)
   have h2:(aR st p).length<=st.length+1:=by
    show(jy st p).length+1<=_
    have:=ze st p
    omega
   simp only[adP,aaX]
   omega
 simpa using key ps []
theorem pQ(ps:List Pl):∀q∈ps.foldl aR [],q∈ps:=by
 have key:∀(ps st:List Pl),∀q∈ps.foldl aR st,q∈st\/q∈ps:=by
  intro ps
  induction ps with
  |nil=>intro st q h;exact .inl h
  |cons p ps ih=>
   intro st q h
   rcases ih (aR st p) q h with h|h
   ·rcases aat.mp h with h|h
    ·exact .inr (by rw[h];exact aaG ..)
    ·exact .inl (zf st p q h)
   ·exact .inr (aar _ h)
 intro q h
 rcases key ps [] q h with h|h
 ·cases h
 ·exact h
theorem A5{ps:List Pl}{i:Nat}{p:Pl}(h:ps[i]?=some p):(ps.take (i+1)).foldl aR []=aR ((ps.take i).foldl aR []) p:=by
 rw[acr,h,List.foldl_append]
 rfl
theorem Le.put{M M':Mp}{p:Addr}{o:MO}(h:Le M M'):Le (ay M p o) (ay M' p o):=λc u e=>by
 by_cases hc:c=p
 ·subst hc
  rw[ah]at e ⊢;exact e
 ·rw[aK hc]at e ⊢
  exact h c u e
theorem Le.free{M M':Mp}{p:Addr}(h:Le M M')(e:M' p=none):M p=none:=by
 cases k:M p with
 |none=>rfl
 |some o=>rw[h p o k]at e;cases e
theorem zg(ps:List Pl):cutD (ps.map Pl.d) none (some (-1))=ps.dropLast.map Pl.d:=by
 unfold cutD
 have e:HT.qw (ps.map Pl.d).length (ps.map Pl.d).length (some (-1))=ps.length-1:=by
  unfold HT.qw
  dsimp only
  rw[if_pos (by decide),aas]
  omega
 have e0:HT.qw (ps.map Pl.d).length 0 none=0:=rfl
 rw[e,e0,adq,adE,List.dropLast_eq_take,List.map_take]
def Flat(ps:List Pl):Prop:= ∀p∈ps,∀q∈ps,∀r∈ps,tw p q r=0
def hz(qs:List Pl):Pl:=qs.headD ⟨0,0⟩
def lz(qs:List Pl):Pl:=qs.getLastD ⟨0,0⟩
theorem MM{dx dy ux uy vx vy:Int}(h:dx≠0\/dy≠0)(h1:dx*uy-dy*ux=0)(h2:dx*vy-dy*vx=0):ux*vy-uy*vx=0:=by
 rcases h with h|h
 ·have:dx*(ux*vy-uy*vx)=0:=by grind
  exact(aaU.mp this).resolve_left h
 ·have:dy*(ux*vy-uy*vx)=0:=by grind
  exact(aaU.mp this).resolve_left h
theorem Gd{a z p q r:Pl}(h:a≠z)(h1:tw a z p=0)(h2:tw a z q=0)(h3:tw a z r=0):tw p q r=0:=by
 have hd:z.x-a.x≠0\/z.y-a.y≠0:=by
  by_cases k:z.x-a.x=0
  ·right
   intro k2
   apply h
   cases a;cases z
   simp only at k k2
   rw[Pl.mk.injEq]
   omega
  ·exact .inl k
 unfold tw at h1 h2 h3 ⊢
 exact MM hd (ux:=q.x-p.x) (uy:=q.y-p.y) (vx:=r.x-p.x) (vy:=r.y-p.y) (by grind) (by grind)
def bI(qs:List Pl):List Pl:=if qs.length<2 then qs else(qs.foldl aR []).reverse.dropLast++(qs.reverse.foldl aR []).reverse.dropLast
def bB(b:List Pl):List (List Pl):=if b.length<2 then[]else List.zipWith (λp q=>[p,q]) b (b.drop 1++b.take 1)
theorem Ge{α:Type}(g:α->D)(xs:List α)(n:Nat)(h:n<=xs.length):cutD (xs.map g) none (some (n:Int))=(xs.take n).map g:=by
 unfold cutD
 rw[HT.B4,HT.yG]
 rw[aas,adO h,List.map_take,adq,adE]
theorem vL:∀(as bs:List Pl),(List.zipWith (λp q=>[p,q]) as bs).map (λps:List Pl=>D.tup (ps.map Pl.d))=List.zipWith pairD (as.map Pl.d) (bs.map Pl.d)
 |[],_=>by simp
 |_::_,[]=>by simp
 |a::as,b::bs=>by
  show D.tup [a.d,b.d]::(List.zipWith (λp q=>[p,q]) as bs).map (λps:List Pl=>D.tup (ps.map Pl.d))=pairD a.d b.d::List.zipWith pairD (as.map Pl.d) (bs.map Pl.d)
  rw[vL as bs]
  rfl
end L3
namespace L3
open PySem PySem.Spec PyProof.Rows L2
section
variable{P:Program}{w:World}{A:Around}{E:Value->Shared->Prop}{s:Shared}
end
section
variable{X:Cx}{pos:Pos}
end
end L3
namespace L3
open PySem PySem.Spec PyProof.Rows L2
section
open PySem.SeqAt
open PySem.AutoSeq1 (wpAny_loadPart')
open PySem.MeetsSeq PySem.MeetsSeq2 PySem.MeetsSeq3
end
section
variable{X:Cx}{pos:Pos}
def TZ(to te:dg):dg:=λρ M Q=>to ρ M λd M1=>(∃l xs,d= .ref l/\M1 l=some (.lst xs))/\te ρ M1 λe M2=>∃(l b:Addr) (xs zs:List D),d= .ref l/\e= .ref b/\M2 l=some (.lst xs)/\M2 b=some (.lst zs)/\xs.length+zs.length<=sizeLine/\Q .bJ (ay M2 l (.lst (xs++zs)))
theorem Qf{o e:Expr}{to te:dg}{apos pos:Pos}(ho:cH X o to)(he:cH X e te)(Pw:PE X (.Call (.Attribute o "extend" apos) [e] [] pos) (SA X.K "list" B9 (dn X.K to) (EI (dn X.K te) LO))):cH X (.Call (.Attribute o "extend" apos) [e] [] pos) (TZ to te):=
 up Pw λσ H ρ M Q r q=>dW r q λv H' d M' f dv r' ⟨⟨l,xs,e1,hM⟩,q⟩=>by
  subst e1
  obtain rfl:=aA.mp dv
  obtain⟨ys,ha,hy⟩:=r'.mem.lst hM
  refine⟨.inl ⟨rfl,_,gR.of ha⟩,dW r' q λu H2 d2 M2 f2 du r2 ⟨l',b,xs',zs,e2,e3,HU,hB,hlt,q2⟩=>?_⟩
  injection e2 with e2
  subst e2 e3
  obtain rfl:=aA.mp du
  obtain⟨ws,hb,hw⟩:=r2.mem.lst HU
  obtain⟨vs,hc,hv⟩:=r2.mem.lst hB
  exact⟨l,b,ws,vs,rfl,rfl,hb,hc,by rw[<-hw.length,<-hv.length];exact hlt,.bJ,_,(f.trans f2).trans (Fr.write (K:=X.K) HU),dN.mpr rfl,r2.mem.kI hb (hw.append hv),q2⟩
end
end L3
namespace L3
open PySem PySem.Spec PyProof.Rows L2
section
variable{P:Program}{w:World}{A:Around}{E:Value->Shared->Prop}{s:Shared}
end
section
variable{X:Cx}{pos:Pos}
end
section
open PySem.SeqAt
open PySem.AutoSeq1 (wpAny_loadPart')
open PySem.MeetsSeq PySem.MeetsSeq2 PySem.MeetsSeq3
end
end L3
namespace L3
open PySem PySem.Spec PyProof.Rows L2
section
variable{P:Program}{w:World}{A:Around}{E:Value->Shared->Prop}{s:Shared}
end
end L3
namespace L3
open PySem PySem.Spec PyProof.Rows L2
section
variable{X:Cx}{pos:Pos}
structure Vu(X:Cx)(r:D->Mp->DK->Prop):Prop where
 run:∀(pins:List (Addr ×Obj)) (s:Shared) (σ:St) (H:Hp) (M:Mp) (x:V) (d:D) (u:Value) (Q:DK),Inv X pins σ H s->bK X.K H M->RelV x u->Dat X.K H d x->r d M Q->wpAny (model X.prog X.w) X.A (call (.builtin "min") [u] [(Str.ofString "default",.none)]) (EP X pins σ (Post X.K M H Q)) X.xe s
end
end L3
namespace L3
open PySem PySem.Spec PyProof.Rows L2
section
variable{P:Program}{w:World}{A:Around}{E:Value->Shared->Prop}{s:Shared}
variable{κ:KeyKind}{kd:SortKind}
end
section
variable{X:Cx}
end
end L3
namespace L3
def Nx:List Pl->Pl->Pl->Prop
 |x::y::r,a,b=>(x=a/\y=b)\/Nx (y::r) a b
 |_,_,_=>False
theorem A6(h:Pl)(r:List Pl)(a b:Pl):∀X:List Pl,Nx (X++h::r) a b↔Nx (X++[h]) a b\/Nx (h::r) a b
 |[]=>by
  show Nx (h::r) a b↔Nx [h] a b\/Nx (h::r) a b
  have:¬Nx [h] a b:=λz=>z
  exact⟨.inr,λz=>z.elim (λy=>absurd y this) id⟩
 |[x]=>by
  show(x=a/\h=b)\/Nx (h::r) a b↔((x=a/\h=b)\/Nx [h] a b)\/Nx (h::r) a b
  have:¬Nx [h] a b:=λz=>z
  constructor
  ·rintro(z|z)
   ·exact .inl (.inl z)
   ·exact .inr z
  ·rintro((z|z)|z)
   ·exact .inl z
   ·exact absurd z this
   ·exact .inr z
 |x::y::X=>by
  have ih:=A6 h r a b (y::X)
  show(x=a/\y=b)\/Nx (y::X++h::r) a b↔((x=a/\y=b)\/Nx (y::X++[h]) a b)\/Nx (h::r) a b
  rw[ih,or_assoc]
theorem mz:∀(st:List Pl) (a b:Pl),xB st a b↔Nx st.reverse a b
 |[],a,b=>⟨λ⟨i,h,_⟩=>by simp at h,λz=>z.elim⟩
 |[y],a,b=>⟨λ⟨i,h,_⟩=>by simp at h,λz=>z.elim⟩
 |y::x::r,a,b=>by
  have ih:=mz (x::r) a b
  have e:(y::x::r).reverse=r.reverse++x::[y]:=by simp
  have e2:(x::r).reverse=r.reverse++[x]:=by simp
  rw[e,A6,<-e2,<-ih]
  have:Nx [x,y] a b↔(x=a/\y=b):=⟨λz=>z.elim id (λy=>y.elim),.inl⟩
  rw[this]
  constructor
  ·rintro⟨i,h1,h2⟩
   cases i with
   |zero=>exact .inr ⟨by simpa using h1,by simpa using h2⟩
   |succ i=>exact .inl ⟨i,by simpa using h1,by simpa using h2⟩
  ·rintro(⟨i,h1,h2⟩|⟨h1,h2⟩)
   ·exact⟨i+1,by simpa using h1,by simpa using h2⟩
   ·exact⟨0,by simp[h1],by simp[h2]⟩
theorem zh(a b:Pl):∀(x:Pl) (r:List Pl) (z:Pl),[a,b]∈List.zipWith (λp q=>[p,q]) (x::r) (r++[z])↔Nx (x::r++[z]) a b
 |x,[],z=>by
  show[a,b]∈[[x,z]]↔(x=a/\z=b)\/Nx [z] a b
  have:¬Nx [z] a b:=λz=>z
  simp[this]
  exact⟨λ⟨h1,h2⟩=>⟨h1.symm,h2.symm⟩,λ⟨h1,h2⟩=>⟨h1.symm,h2.symm⟩⟩
 |x,y::r,z=>by
  have ih:=zh a b y r z
  show[a,b]∈[x,y]::List.zipWith (λp q=>[p,q]) (y::r) (r++[z])↔(x=a/\y=b)\/Nx (y::r++[z]) a b
  rw[aat,ih]
  simp
  constructor
  ·rintro(⟨h1,h2⟩|h)
   ·exact .inl ⟨h1.symm,h2.symm⟩
   ·exact .inr h
  ·rintro(⟨h1,h2⟩|h)
   ·exact .inl ⟨h1.symm,h2.symm⟩
   ·exact .inr h
theorem vM:∀(as bs:List Pl),∀t∈List.zipWith (λp q=>[p,q]) as bs,∃a b,t=[a,b]
 |[],_,t,h=>by simp at h
 |_::_,[],t,h=>by simp at h
 |a::as,b::bs,t,h=>by
  rcases aat.mp h with h|h
  ·exact⟨a,b,h⟩
  ·exact vM as bs t h
theorem Ch.ends{w:Way}{S st:List Pl}(C:Ch w S st){lo hi:Pl}(hl:lo∈S)(hh:hi∈S)(h1:∀q∈S,w.f lo<=w.f q)(h2:∀q∈S,w.f q<=w.f hi):st.head?=some hi/\st.getLast?=some lo:=by
 obtain⟨t,e1,e2⟩:=C.top hi hh
 obtain⟨u,e3,e4⟩:=C.bot lo hl
 have mt:t∈S:=C.rF t (ab7 e1)
 have mu:u∈S:=C.rF u (abE e3)
 have a1:=h2 t mt
 have a2:=h1 u mu
 rw[e1,e3,C.inj t mt hi hh (by omega),C.inj u mu lo hl (by omega)]
 exact⟨rfl,rfl⟩
theorem gP{l:List Pl}{x:Pl}(h:l.getLast?=some x):l=l.dropLast++[x]:=by
 have hne:l≠[]:=λz=>by rw[z]at h;simp at h
 rw[abn hne]at h
 have:=acG hne
 rw[Option.some.inj h]at this
 exact this.symm
theorem Gf{T H:List Pl}{lo hi a b:Pl}(t1:T.head?=some lo)(t2:T.getLast?=some hi)(h1:H.head?=some hi)(h2:H.getLast?=some lo)(hne:lo≠hi) :
 [a,b]∈List.zipWith (λp q=>[p,q]) (T.dropLast++H.dropLast) ((T.dropLast++H.dropLast).drop 1++(T.dropLast++H.dropLast).take 1)↔Nx T a b\/Nx H a b:=by
 have eT:=gP t2
 have eH:=gP h2
 obtain⟨X,hX⟩:∃X,T.dropLast=lo::X:=by
  cases e:T.dropLast with
  |nil=>
   rw[e]at eT
   rw[eT]at t1
   exact absurd (Option.some.inj t1).symm hne
  |cons x X=>
   rw[e]at eT
   rw[eT]at t1
   exact⟨X,by rw[Option.some.inj t1]⟩
 obtain⟨Y,hY⟩:∃Y,H=hi::Y:=by
  cases e:H with
  |nil=>rw[e]at h1;cases h1
  |cons x X=>rw[e]at h1;exact⟨X,by rw[Option.some.inj h1]⟩
 rw[hX]
 show[a,b]∈List.zipWith (λp q=>[p,q]) (lo::(X++H.dropLast)) ((X++H.dropLast)++[lo])↔_
 rw[zh]
 have e1:lo::(X++H.dropLast)++[lo]=(lo::X)++(H.dropLast++[lo]):=by simp
 rw[e1,<-eH]
 conv=>lhs;rw[hY,A6,<-hY]
 rw[<-hX,<-eT]
def T4(a b:Pl)(ps:List Pl):Prop:= ∀p∈ps,0<=tw a b p/\(tw a b p=0->¬(aQ (lo a b) p/\aQ p (hi a b)))
theorem gv:∀{qs:List Pl},qs.Pairwise (λp q=>aQ p q)->∀{x y:Pl},qs.head?=some x->qs.getLast?=some y->∀q∈qs,(q=x\/aQ x q)/\(q=y\/aQ q y)
 |[],_,_,_,h,_,_,_=>by cases h
 |[z],_,x,y,h1,h2,q,hq=>by
  have e1:z=x:=by simpa using h1
  have e2:z=y:=by simpa using h2
  rw[aav.mp hq]
  exact⟨.inl e1,.inl e2⟩
 |z::u::r,hs,x,y,h1,h2,q,hq=>by
  have e1:z=x:=by simpa using h1
  have h2':(u::r).getLast?=some y:=by simpa using h2
  have ih:=gv (aaL.mp hs).2 (x:=u) rfl h2'
  have hz:=(aaL.mp hs).1
  rcases aat.mp hq with e|hq
  ·subst e
   refine⟨.inl e1,.inr ?_⟩
   have hy:y∈u::r:=abE h2'
   exact hz y hy
  ·exact⟨.inr (e1▸hz q hq),(ih q hq).2⟩
theorem tG{st:List Pl}{x y:Pl}(h1:st.head?=some x)(h2:st.getLast?=some y)(h:x≠y):2<=st.length:=by
 match st,h1,h2 with
 |[],h1,_=>cases h1
 |[z],h1,h2=>
  have e1:z=x:=by simpa using h1
  have e2:z=y:=by simpa using h2
  exact absurd (e1.symm.trans e2) h
 |_::_::_,_,_=>simp
theorem DL{qs:List Pl}(hs:qs.Pairwise (λp q=>aQ p q))(hok:∀q∈qs,q.y.natAbs<2 ^ 140)(h2:2<=qs.length) :
 2<=((qs.foldl aR []).reverse.dropLast++(qs.reverse.foldl aR []).reverse.dropLast).length/\∀a b:Pl,[a,b]∈List.zipWith (λp q=>[p,q]) ((qs.foldl aR []).reverse.dropLast++(qs.reverse.foldl aR []).reverse.dropLast) (((qs.foldl aR []).reverse.dropLast++(qs.reverse.foldl aR []).reverse.dropLast).drop 1++((qs.foldl aR []).reverse.dropLast++(qs.reverse.foldl aR []).reverse.dropLast).take 1)↔a∈qs/\b∈qs/\a≠b/\T4 a b qs:=by
 have hne:qs≠[]:=λz=>by rw[z]at h2;simp at h2
 obtain⟨x,hx⟩:∃x,qs.head?=some x:=by
  cases e:qs with
  |nil=>exact absurd e hne
  |cons x r=>exact⟨x,rfl⟩
 obtain⟨y,hy⟩:∃y,qs.getLast?=some y:=⟨_,abn hne⟩
 have mx:x∈qs:=ab7 hx
 have my:y∈qs:=abE hy
 have hend:=gv hs hx hy
 have be:∀p∈qs,∀q∈qs,(aQ p q↔ao.f p<ao.f q):=λp hp q hq=>lB (hok p hp) (hok q hq)
 have bw:∀p∈qs,∀q∈qs,(aQ p q↔qR.f q<qR.f p):=λp hp q hq=>by
  rw[be p hp q hq,gW,gW]
  omega
 have xy:x≠y:=by
  intro e
  cases e1:qs with
  |nil=>exact absurd e1 hne
  |cons u r=>
   cases r with
   |nil=>rw[e1]at h2;simp at h2
   |cons v r=>
    rw[e1]at hx hy hs
    have eu:u=x:=by simpa using hx
    have T5:y∈v::r:=abE (by simpa using hy)
    have:=(aaL.mp hs).1 y T5
    rw[eu,e]at this
    exact bG _ this
 have C1:Ch ao qs (qs.foldl aR []):=lA hne (hs.imp_of_mem λhp hq h=>(be _ hp _ hq).mp h)
 have C2:Ch qR qs.reverse (qs.reverse.foldl aR []):=lA (by simpa using hne) (ado.mpr (hs.imp_of_mem λhp hq h=>(bw _ hp _ hq).mp h))
 have key:∀p∈qs,∀q∈qs,(p=q\/aQ p q)->ao.f p<=ao.f q/\qR.f q<=qR.f p:=λp hp q hq k=>by
  rcases k with rfl|k
  ·exact⟨abr _,abr _⟩
  ·have a1:=(be p hp q hq).mp k
   have a2:=(bw p hp q hq).mp k
   omega
 obtain⟨p1,p2⟩:=C1.ends mx my (λq hq=>(key x mx q hq ((hend q hq).1.imp Eq.symm id)).1) (λq hq=>(key q hq y my (hend q hq).2).1)
 obtain⟨r1,r2⟩:=C2.ends (lo:=y) (hi:=x) (by simpa using my) (by simpa using mx) (λq hq=>by have hq:=abd.mp hq;exact(key q hq y my (hend q hq).2).2) (λq hq=>by have hq:=abd.mp hq;exact(key x mx q hq ((hend q hq).1.imp Eq.symm id)).2)
 refine⟨?_,λa b=>?_⟩
 ·have l1:=tG p1 p2 (Ne.symm xy)
  have l2:=tG r1 r2 xy
  rw[aaA,abm,abm,aaW,aaW]
  omega
 rw[Gf (lo:=x) (hi:=y) (by rw[ab4];exact p2) (by rw[abJ];exact p1) (by rw[ab4];exact r2) (by rw[abJ];exact r1) xy,<-mz,<-mz,iA C1,iA C2]
 constructor
 ·rintro(⟨ha,hb,hab,he⟩|⟨ha,hb,hab,he⟩)
  ·have A7:=(be a ha b hb).mpr hab
   refine⟨ha,hb,kU A7,λp hp=>⟨(he p hp).1,λz=>?_⟩⟩
   unfold lo hi
   rw[if_neg (az A7),if_pos A7,be a ha p hp,be p hp b hb]
   exact(he p hp).2 z
  ·have ha:=abd.mp ha
   have hb:=abd.mp hb
   have A7:=(bw b hb a ha).mpr hab
   refine⟨ha,hb,(kU A7).symm,λp hp=>?_⟩
   have N7:=he p (abd.mpr hp)
   refine⟨N7.1,λz=>?_⟩
   unfold lo hi
   rw[if_pos A7,if_neg (az A7),bw b hb p hp,bw p hp a ha]
   exact λk=>N7.2 z ⟨k.2,k.1⟩
 ·rintro⟨ha,hb,hab,he⟩
  rcases bT a b with k|k|k
  ·refine .inl ⟨ha,hb,(be a ha b hb).mp k,λp hp=>⟨(he p hp).1,λz=>?_⟩⟩
   have:=(he p hp).2 z
   unfold lo hi at this
   rw[if_neg (az k),if_pos k,be a ha p hp,be p hp b hb]at this
   exact this
  ·exact absurd k hab
  ·refine .inr ⟨abd.mpr ha,abd.mpr hb,(bw b hb a ha).mp k,λp hp=>?_⟩
   have hp:=abd.mp hp
   refine⟨(he p hp).1,λz=>?_⟩
   have:=(he p hp).2 z
   unfold lo hi at this
   rw[if_pos k,if_neg (az k),bw b hb p hp,bw p hp a ha]at this
   exact λy=>this ⟨y.2,y.1⟩
end L3
namespace L3
theorem xD:∀(l:List Pl),l≠[]->∃m∈l,∀z∈l,¬aQ z m
 |[],e=>absurd rfl e
 |[p],_=>⟨p,by simp,λz hz=>by rw[aav.mp hz];exact bG _⟩
 |p::q::l,_=>by
  obtain⟨m,hm,k⟩:=xD (q::l) (by simp)
  by_cases c:aQ p m
  ·exact⟨p,by simp,λz hz=>by
    rcases aat.mp hz with rfl|hz
    ·exact bG _
    ·exact λy=>k z hz (aV y c)⟩
  ·exact⟨m,aar _ hm,λz hz=>by
    rcases aat.mp hz with rfl|hz
    ·exact c
    ·exact k z hz⟩
theorem Ct:∀(l:List Pl),l≠[]->∃m∈l,∀z∈l,¬aQ m z
 |[],e=>absurd rfl e
 |[p],_=>⟨p,by simp,λz hz=>by rw[aav.mp hz];exact bG _⟩
 |p::q::l,_=>by
  obtain⟨m,hm,k⟩:=Ct (q::l) (by simp)
  by_cases c:aQ m p
  ·exact⟨p,by simp,λz hz=>by
    rcases aat.mp hz with rfl|hz
    ·exact bG _
    ·exact λy=>k z hz (aV c y)⟩
  ·exact⟨m,aar _ hm,λz hz=>by
    rcases aat.mp hz with rfl|hz
    ·exact c
    ·exact k z hz⟩
theorem iB{ps:List Pl}(h:ps.length<2):Flat ps:=by
 match ps,h with
 |[],_=>exact λp hp=>by cases hp
 |[x],_=>
  intro p hp q hq r hr
  rw[aav.mp hp,aav.mp hq,aav.mp hr]
  exact ic x x
theorem DM{qs:List Pl}(hs:qs.Pairwise (λa b=> ¬aQ b a))(nd:qs.Nodup):qs.Pairwise (λp q=>aQ p q):=by
 refine(hs.and nd).imp λ{a b} h=>?_
 rcases bT a b with k|k|k
 ·exact k
 ·exact absurd k h.2
 ·exact absurd k h.1
end L3
namespace L3
open PySem L2
def Tr(t:List Pl):Prop:= ∃a b c:Pl,t=[a,b,c]/\a.Ok 140/\b.Ok 140/\c.Ok 140
def Qg:List Pl->Prop
 |[a,b,c]=>(¬aQ b a/\¬aQ c a)/\0<tw a b c
 |_=>False
def eL:List Pl->List (List Pl)
 |[a,b,c]=>[[a,b],[b,c],[c,a]]
 |_=>[]
def aS(ts:List (List Pl)):List (List Pl):=ts.flatMap eL
def Fs{α:Type}(ts:List α)(P:α->Prop):Option α->Prop
 |none=> ∀t∈ts,¬P t
 |some t=>∃i:Nat,ts[i]?=some t/\P t/\∀(j:Nat) (u:α),j<i->ts[j]?=some u->¬P u
def oT:Option (List Pl)->D
 |none=> .bJ
 |some t=>tD t
def Qh(W:List Pl->Prop):Option (List Pl)->Prop
 |none=> ∀w,¬W w
 |some m=>W m/\∀z,W z->cX z m=false
def Qi(W:Pl->Prop):Option Pl->Prop
 |none=> ∀w,¬W w
 |some m=>W m/\∀z,W z->¬aQ z m
theorem vN{ts:List (List Pl)}{i:Nat}{t:List Pl}(h:ts[i]?=some t):aS (ts.take (i+1))=aS (ts.take i)++eL t:=by
 unfold aS
 rw[acr,h,abR]
 simp
theorem Gg(t:List Pl):(eL t).length<=3:=by
 unfold eL
 split<;>simp
theorem lC:∀(ts:List (List Pl)),(aS ts).length<=3*ts.length
 |[]=>by simp[aS]
 |t::ts=>by
  have h1:=lC ts
  have h2:=Gg t
  show(eL t++aS ts).length<=_
  rw[aaA,aaX]
  omega
theorem Gh(t:List Pl):∀w∈eL t,∃a b,w=[a,b]/\a∈t/\b∈t:=by
 intro w hw
 unfold eL at hw
 split at hw
 ·rename_i a b c
  simp only[aat,aa7,or_false]at hw
  rcases hw with rfl|rfl|rfl
  ·exact⟨a,b,rfl,by simp,by simp⟩
  ·exact⟨b,c,rfl,by simp,by simp⟩
  ·exact⟨c,a,rfl,by simp,by simp⟩
 ·cases hw
theorem tH{ts:List (List Pl)}:∀w∈aS ts,∃a b,w=[a,b]/\∃t∈ts,a∈t/\b∈t:=by
 intro w hw
 obtain⟨t,ht,hw⟩:=abc.mp hw
 obtain⟨a,b,e,h1,h2⟩:=Gh t w hw
 exact⟨a,b,e,t,ht,h1,h2⟩
theorem Gi(s t:List Pl):eE (tD s) (tD t)=decide (s=t):=by
 unfold tD
 rw[jH]
 induction s generalizing t with
 |nil=>
  cases t with
  |nil=>rfl
  |cons q t=>simp[bL]
 |cons p s ih=>
  cases t with
  |nil=>simp[bL]
  |cons q t=>
   rw[aaV,aaV,jv,nt,ih,aa8]
   simp
theorem xE(t:List Pl)(ts:List (List Pl)):inD (tD t) (ts.map tD)=decide (t∈ts):=by
 rw[aa8,decide_eq_true_iff]
 unfold inD
 rw[ac5]
 constructor
 ·rintro⟨d,hd,e⟩
  obtain⟨u,hu,rfl⟩:=aaI.mp hd
  rw[Gi,decide_eq_true_iff]at e
  rw[<-e]
  exact hu
 ·intro h
  exact⟨tD t,aaI.mpr ⟨t,h,rfl⟩,by rw[Gi];simp⟩
def Xf(ws:List (List Pl))(w:List Pl):Prop:=w∈ws/\1<ws.count w
def T6(ws bs:List (List Pl))(w:List Pl):Prop:=(w∈ws/\w.reverse∉ws/\w∉bs)\/(w∈bs/\w∉ws)
def Xg(ps:List Pl)(ts:List (List Pl))(p:Pl):Prop:=p∈ps/\∀t∈ts,p∉t
def qS(t:List Pl)(d:Pl):Prop:=match t with
 |[a,b,c]=>fO a b c d
 |_=>False
theorem pR(w:List Pl):plain 9 (tD w)=true:=abh.mp (bg [w]) _ (by simp)
def Xh(ts:List (List Pl))(ps:List Pl):Option (List Pl ×Pl)->Prop
 |none=> ∀t∈ts,∀d∈ps,¬qS t d
 |some (t,d)=>Fs ts (λt=>∃d∈ps,qS t d) (some t)/\Qi (λd=>d∈ps/\qS t d) (some d)
inductive Flt where
 |KY (t:List Pl)|flat (t:List Pl)|Gj (w:List Pl)|bare (w:List Pl)|Gk (p:Pl)|Gm (t:List Pl) (d:Pl)
def fD:Option Flt->D
 |none=> .bJ
 |some (.KY t)=> .tup [.str (Str.ofString "alien"),tD t]
 |some (.flat t)=> .tup [.str (Str.ofString "flat"),tD t]
 |some (.Gj w)=> .tup [.str (Str.ofString "double"),tD w]
 |some (.bare w)=> .tup [.str (Str.ofString "bare"),tD w]
 |some (.Gk p)=> .tup [.str (Str.ofString "lonely"),p.d]
 |some (.Gm t d)=> .tup [.str (Str.ofString "spoilt"),tD t,d.d]
def T7(ps:List Pl)(ts bs:List (List Pl))(r:Option Flt):Prop:=
 ∃(d b:Option (List Pl)) (l:Option Pl),Qh (Xf (aS ts)) d/\(d=none->Qh (T6 (aS ts) bs) b)/\(d=none->b=none->Qi (Xg ps ts) l)/\
  r=match d,b,l with
   |some w,_,_=>some (.Gj w)
   |none,some w,_=>some (.bare w)
   |none,none,some p=>some (.Gk p)
   |none,none,none=>none
def Gn(ps:List Pl)(ts bs:List (List Pl))(r:Option Flt):Prop:=
 ∃(al fl:Option (List Pl)),Fs ts (λt=>∃q∈t,q∉ps) al/\(al=none->Fs ts (λt=> ¬Qg t) fl)/\
  match al,fl with
  |some t,_=>r=some (.KY t)
  |none,some t=>r=some (.flat t)
  |none,none=>(Flat ps->r=none)/\(¬Flat ps->∃(cf:Option Flt) (sp:Option (List Pl ×Pl)),T7 ps ts bs cf/\(cf=none->Xh ts ps sp)/\r=match cf,sp with
   |some f,_=>some f
   |none,some (t,d)=>some (.Gm t d)
   |none,none=>none)
def gK(ps t:List Pl):Prop:=dY t/\∀q∈t,q∈ps
theorem gK.tr{ps t:List Pl}(h:gK ps t)(ho:∀q∈ps,q.Ok 140):Tr t:=by
 obtain⟨⟨u,v,w,rfl,_⟩,h2⟩:=h
 exact⟨u,v,w,rfl,ho u (h2 u (by simp)),ho v (h2 v (by simp)),ho w (h2 w (by simp))⟩
end L3
namespace L3
def prs:List Pl->List (List Pl)
 |x::y::r=>[x,y]::prs (y::r)
 |_=>[]
theorem Cu(h:Pl)(r:List Pl):∀X:List Pl,prs (X++h::r)=prs (X++[h])++prs (h::r)
 |[]=>rfl
 |[x]=>rfl
 |x::y::X=>by
  have ih:=Cu h r (y::X)
  show[x,y]::prs (y::X++h::r)=[x,y]::prs (y::X++[h])++prs (h::r)
  rw[ih]
  rfl
theorem Cw:∀(x:Pl) (r:List Pl) (z:Pl),List.zipWith (λp q=>[p,q]) (x::r) (r++[z])=prs (x::r++[z])
 |x,[],z=>rfl
 |x,y::r,z=>by
  show[x,y]::List.zipWith (λp q=>[p,q]) (y::r) (r++[z])=[x,y]::prs (y::r++[z])
  rw[Cw y r z]
theorem xF:∀(l:List Pl) (w:List Pl),w∈prs l->∃a b,w=[a,b]/\Nx l a b
 |[],_,h=>by cases h
 |[_],_,h=>by cases h
 |x::y::r,w,h=>by
  rcases aat.mp h with h|h
  ·exact⟨x,y,h,.inl ⟨rfl,rfl⟩⟩
  ·obtain⟨a,b,e,k⟩:=xF (y::r) w h
   exact⟨a,b,e,.inr k⟩
theorem Gp:∀(l:List Pl) (a b:Pl),Nx l a b->[a,b]∈prs l
 |[],_,_,h=>h.elim
 |[_],_,_,h=>h.elim
 |x::y::r,a,b,h=>by
  rcases h with⟨rfl,rfl⟩|h
  ·exact aaG ..
  ·exact aar _ (Gp (y::r) a b h)
theorem DN{T H:List Pl}{lo hi:Pl}(t1:T.head?=some lo)(t2:T.getLast?=some hi)(h1:H.head?=some hi)(h2:H.getLast?=some lo)(hne:lo≠hi) :
 List.zipWith (λp q=>[p,q]) (T.dropLast++H.dropLast) ((T.dropLast++H.dropLast).drop 1++(T.dropLast++H.dropLast).take 1)=prs T++prs H:=by
 have eT:=gP t2
 have eH:=gP h2
 obtain⟨X,hX⟩:∃X,T.dropLast=lo::X:=by
  cases e:T.dropLast with
  |nil=>
   rw[e]at eT
   rw[eT]at t1
   exact absurd (Option.some.inj t1).symm hne
  |cons x X=>
   rw[e]at eT
   rw[eT]at t1
   exact⟨X,by rw[Option.some.inj t1]⟩
 obtain⟨Y,hY⟩:∃Y,H=hi::Y:=by
  cases e:H with
  |nil=>rw[e]at h1;cases h1
  |cons x X=>rw[e]at h1;exact⟨X,by rw[Option.some.inj h1]⟩
 rw[hX]
 show List.zipWith (λp q=>[p,q]) (lo::(X++H.dropLast)) ((X++H.dropLast)++[lo])=_
 rw[Cw]
 have e1:lo::(X++H.dropLast)++[lo]=(lo::X)++(H.dropLast++[lo]):=by simp
 rw[e1,<-eH]
 conv=>lhs;rw[hY,Cu,<-hY]
 rw[<-hX,<-eT]
theorem KZ{z:Pl}:∀{l:List Pl},l.getLast?=some z->2<=l.length->∃e,Nx l e z
 |[],_,h=>by simp at h
 |[_],_,h=>by simp at h
 |[x,y],e,_=>⟨x,.inl ⟨rfl,by simpa using e⟩⟩
 |x::y::u::r,e,_=>by
  obtain⟨e',k⟩:=KZ (l:=y::u::r) (by simpa using e) (by simp)
  exact⟨e',.inr k⟩
theorem tK{w:Way}{S:List Pl}:∀{st:List Pl},mY w S st->st.Pairwise (λb a=>w.f a<w.f b)
 |[],_=> .nil
 |[_],_=>by simp
 |y::x::r,e=>by
  obtain⟨e1,_,e3⟩:=e
  have ih:=tK e3
  refine aaL.mpr ⟨λz hz=>?_,ih⟩
  rcases aat.mp hz with rfl|hz
  ·exact e1
  ·have:=(aaL.mp ih).1 z hz
   omega
theorem Ch.nodup{w:Way}{S st:List Pl}(C:Ch w S st):st.Nodup:=(tK C.Js).imp λh e=>by rw[e]at h;omega
theorem pS{l m:List Pl}(nd:l.Nodup)(sub:∀x∈l,x∈m):l.length<=m.length:=by
 induction l generalizing m with
 |nil=>simp
 |cons a l ih=>
  obtain⟨h1,h2⟩:=aaR.mp nd
  have ma:=sub a (aaG ..)
  have:=ih (m:=m.erase a) h2 λx hx=>(adu (show x≠a from λe=>h1 (e▸hx))).mpr (sub x (aar _ hx))
  rw[ac2 ma]at this
  have:0<m.length:=adm ma
  rw[aaX]
  omega
theorem A8{w:Way}{x b e p:Pl}(h1:w.f x<w.f b)(h2:w.f x<w.f e)(h3:w.f x<w.f p)(h:0<=tw x b e)(s1:tw x b p<0)(s2:tw e x p<0):False:=by
 have key:=iy w.al w.be (b.x-x.x) (b.y-x.y) (e.x-x.x) (e.y-x.y) (p.x-x.x) (p.y-x.y)
 have s2':0<(e.x-x.x)*(p.y-x.y)-(e.y-x.y)*(p.x-x.x):=by
  unfold tw at s2
  grind
 unfold Way.f at h1 h2 h3
 unfold tw at h s1
 have k1:0<w.al*(b.x-x.x)+w.be*(b.y-x.y):=by grind
 have k2:0<w.al*(e.x-x.x)+w.be*(e.y-x.y):=by grind
 have k3:0<w.al*(p.x-x.x)+w.be*(p.y-x.y):=by grind
 have r1:=aaT k1 s2'
 have r2:0<=(w.al*(p.x-x.x)+w.be*(p.y-x.y))*((b.x-x.x)*(e.y-x.y)-(b.y-x.y)*(e.x-x.x)):=aaB (by omega) h
 have r3:(w.al*(e.x-x.x)+w.be*(e.y-x.y))*((b.x-x.x)*(p.y-x.y)-(b.y-x.y)*(p.x-x.x))<0:=aa9 k2 s1
 omega
def Ll(p:Pl):List Pl->Bool
 |[a,b]=>decide (tw a b p<0)
 |_=>false
end L3
namespace L3
def nE(bd:List Pl)(k:Nat):Option Pl:=if k=0 then bd.getLast? else bd[k-1]?
theorem xG{bd:List Pl}{k:Nat}{a b:Pl}(hb:bd[k]?=some b)(ha:nE bd k=some a):[a,b]∈List.zipWith (λp q=>[p,q]) bd (bd.drop 1++bd.take 1):=by
 have lk:k<bd.length:=(aaQ.mp hb).1
 unfold nE at ha
 rw[ab8]
 by_cases c:k=0
 ·subst c
  rw[if_pos rfl,acW]at ha
  refine⟨bd.length-1,?_⟩
  have e2:(bd.drop 1++bd.take 1)[bd.length-1]?=some b:=by
   rw[abT (by rw[abC];omega),abC,Nat.sub_self,ac1 (by omega)]
   exact hb
  rw[abV,ha,e2]
 ·rw[if_neg c]at ha
  refine⟨k-1,?_⟩
  have e2:(bd.drop 1++bd.take 1)[k-1]?=some b:=by
   rw[abY (by rw[abC];omega),List.getElem?_drop,show 1+(k-1)=k by omega]
   exact hb
  rw[abV,ha,e2]
theorem zj:∀{as bs:List Pl},as.Perm bs->as.Pairwise (λa b=> ¬aQ b a)->bs.Pairwise (λa b=> ¬aQ b a)->as=bs
 |[],bs,h,_,_=>by rw[List.nil_perm.mp h]
 |a::as,[],h,_,_=>by simp at h
 |a::as,b::bs,h,h1,h2=>by
  obtain⟨p1,p2⟩:=aaL.mp h1
  obtain⟨q1,q2⟩:=aaL.mp h2
  have e:a=b:=by
   rcases bT a b with k|k|k
   ·rcases aat.mp (h.mem_iff.mp (aaG (a:=a) (l:=as)))with z|z
    ·exact z
    ·exact absurd k (q1 a z)
   ·exact k
   ·rcases aat.mp (h.mem_iff.mpr (aaG (a:=b) (l:=bs)))with z|z
    ·exact z.symm
    ·exact absurd k (p1 b z)
  subst e
  rw[zj (List.Perm.cons_inv h) p2 q2]
end L3
namespace L3
def c8(Q:List Pl):Prop:=Q.Pairwise (λp q=>aQ p q)/\∀q∈Q,q.y.natAbs<2 ^ 140
def bf(Q:List Pl)(a b:Pl):Prop:=a∈Q/\b∈Q/\a≠b/\T4 a b Q
def SL(Q:List Pl):List (List Pl):=bB (bI Q)
theorem oH{Q:List Pl}(h:Q.length<2):SL Q=[]:=by
 unfold SL bI
 rw[if_pos h]
 unfold bB
 rw[if_pos h]
theorem vO{Q:List Pl}(s:c8 Q)(h:2<=Q.length):2<=(bI Q).length/\SL Q=List.zipWith (λp q=>[p,q]) (bI Q) ((bI Q).drop 1++(bI Q).take 1)/\∀a b,[a,b]∈SL Q↔bf Q a b:=by
 obtain⟨lb,char⟩:=DL s.1 s.2 h
 have eo:bI Q=(Q.foldl aR []).reverse.dropLast++(Q.reverse.foldl aR []).reverse.dropLast:=by unfold bI;rw[if_neg (by omega)]
 rw[<-eo]at lb char
 have e:SL Q=List.zipWith (λp q=>[p,q]) (bI Q) ((bI Q).drop 1++(bI Q).take 1):=by
  unfold SL bB
  rw[if_neg (by omega)]
 exact⟨lb,e,λa b=>by rw[e];exact char a b⟩
theorem oJ{Q:List Pl}{a b:Pl}(h:bf Q a b):2<=Q.length:=pS (l:=[a,b]) (by simp[h.2.2.1]) (λx hx=>by
 simp only[aat,aa7,or_false]at hx
 rcases hx with rfl|rfl
 ·exact h.1
 ·exact h.2.1)
theorem bX{Q:List Pl}(s:c8 Q){a b:Pl}:[a,b]∈SL Q↔bf Q a b:=by
 by_cases h:2<=Q.length
 ·exact(vO s h).2.2 a b
 ·rw[oH (by omega)]
  exact⟨(λz=>by cases z),λz=>absurd (oJ z) h⟩
theorem iC{Q w:List Pl}(h:w∈SL Q):∃a b,w=[a,b]:=by
 unfold SL bB at h
 split at h
 ·cases h
 ·exact vM _ _ _ h
theorem Jt{Q:List Pl}(s:c8 Q){a b:Pl}(h:bf Q a b):∃c,bf Q c a:=by
 obtain⟨lb,e,char⟩:=vO s (oJ h)
 have m:=(char a b).mpr h
 rw[e]at m
 obtain⟨i,hi⟩:=ab8.mp m
 rw[abV]at hi
 have ha:(bI Q)[i]?=some a:=by
  cases e1:(bI Q)[i]? with
  |none=>rw[e1]at hi;simp at hi
  |some u=>
   rw[e1]at hi
   cases e2:((bI Q).drop 1++(bI Q).take 1)[i]? with
   |none=>rw[e2]at hi;simp at hi
   |some v=>rw[e2]at hi;simp at hi;rw[hi.1]
 have li:=(aaQ.mp ha).1
 obtain⟨c,hc⟩:∃c,nE (bI Q) i=some c:=by
  unfold nE
  split
  ·exact⟨_,abn (λz=>by rw[z]at lb;simp at lb)⟩
  ·exact⟨_,aau (by omega)⟩
 have:=xG ha hc
 rw[<-e]at this
 exact⟨c,(char c a).mp this⟩
theorem tL{Q:List Pl}(s:c8 Q){a b:Pl}(h:bf Q a b):∃c,bf Q b c:=by
 obtain⟨lb,e,char⟩:=vO s (oJ h)
 have m:=(char a b).mpr h
 rw[e]at m
 have hb:b∈bI Q:=by
  obtain⟨i,hi⟩:=ab8.mp m
  rw[abV]at hi
  cases e1:(bI Q)[i]? with
  |none=>rw[e1]at hi;simp at hi
  |some u=>
   rw[e1]at hi
   cases e2:((bI Q).drop 1++(bI Q).take 1)[i]? with
   |none=>rw[e2]at hi;simp at hi
   |some v=>
    rw[e2]at hi
    simp at hi
    have mv:=aaC e2
    rw[hi.2]at mv
    rcases aaF.mp mv with z|z
    ·exact adw z
    ·exact abO z
 obtain⟨j,hj⟩:=ab8.mp hb
 have lj:=(aaQ.mp hj).1
 by_cases c:j+1<(bI Q).length
 ·have:=xG (k:=j+1) (aau c) (show nE (bI Q) (j+1)=some b by unfold nE;rw[if_neg (by omega)];exact hj)
  rw[<-e]at this
  exact⟨_,(char _ _).mp this⟩
 ·have:=xG (bd:=bI Q) (k:=0) (a:=b) (aau (by omega)) (by unfold nE;rw[if_pos rfl,acW,show(bI Q).length-1=j by omega];exact hj)
  rw[<-e]at this
  exact⟨_,(char _ _).mp this⟩
theorem pT:∀{l:List Pl},l.Nodup->(prs l).Nodup
 |[],_=> .nil
 |[_],_=> .nil
 |x::y::r,h=>by
  obtain⟨h1,h2⟩:=aaR.mp h
  refine aaR.mpr ⟨λz=>?_,pT h2⟩
  obtain⟨a,b,e,k⟩:=xF _ _ z
  have:x=a:=by injection e
  rw[this]at h1
  have key:∀(l:List Pl) (a b:Pl),Nx l a b->a∈l:=λl=>by
   induction l with
   |nil=>intro a b k;exact k.elim
   |cons u l ih=>
    intro a b k
    cases l with
    |nil=>exact k.elim
    |cons v l=>
     rcases k with⟨rfl,_⟩|k
     ·simp
     ·exact aar _ (ih a b k)
  exact h1 (key _ _ _ k)
theorem pU{Q:List Pl}(s:c8 Q)(h2:2<=Q.length):(SL Q).Nodup/\∀y,Q.getLast?=some y->∃e,bf Q e y:=by
 obtain⟨hs,hok⟩:=s
 have hne:Q≠[]:=λz=>by rw[z]at h2;simp at h2
 obtain⟨x,hx⟩:∃x,Q.head?=some x:=by
  cases e:Q with
  |nil=>exact absurd e hne
  |cons x r=>exact⟨x,rfl⟩
 obtain⟨y,hy⟩:∃y,Q.getLast?=some y:=⟨_,abn hne⟩
 have mx:x∈Q:=ab7 hx
 have my:y∈Q:=abE hy
 have hend:=gv hs hx hy
 have be:∀p∈Q,∀q∈Q,(aQ p q↔ao.f p<ao.f q):=λp hp q hq=>lB (hok p hp) (hok q hq)
 have bw:∀p∈Q,∀q∈Q,(aQ p q↔qR.f q<qR.f p):=λp hp q hq=>by
  rw[be p hp q hq,gW,gW]
  omega
 have xy:x≠y:=by
  intro e
  cases e1:Q with
  |nil=>exact absurd e1 hne
  |cons u r=>
   cases r with
   |nil=>rw[e1]at h2;simp at h2
   |cons v r=>
    rw[e1]at hx hy hs
    have eu:u=x:=by simpa using hx
    have T5:y∈v::r:=abE (by simpa using hy)
    have:=(aaL.mp hs).1 y T5
    rw[eu,e]at this
    exact bG _ this
 have C1:Ch ao Q (Q.foldl aR []):=lA hne (hs.imp_of_mem λhp hq h=>(be _ hp _ hq).mp h)
 have C2:Ch qR Q.reverse (Q.reverse.foldl aR []):=lA (by simpa using hne) (ado.mpr (hs.imp_of_mem λhp hq h=>(bw _ hp _ hq).mp h))
 have key:∀p∈Q,∀q∈Q,(p=q\/aQ p q)->ao.f p<=ao.f q/\qR.f q<=qR.f p:=λp hp q hq k=>by
  rcases k with rfl|k
  ·exact⟨abr _,abr _⟩
  ·have a1:=(be p hp q hq).mp k
   have a2:=(bw p hp q hq).mp k
   omega
 obtain⟨p1,p2⟩:=C1.ends mx my (λq hq=>(key x mx q hq ((hend q hq).1.imp Eq.symm id)).1) (λq hq=>(key q hq y my (hend q hq).2).1)
 obtain⟨r1,r2⟩:=C2.ends (lo:=y) (hi:=x) (by simpa using my) (by simpa using mx) (λq hq=>by have hq:=abd.mp hq;exact(key q hq y my (hend q hq).2).2) (λq hq=>by have hq:=abd.mp hq;exact(key x mx q hq ((hend q hq).1.imp Eq.symm id)).2)
 have e0:=DN (lo:=x) (hi:=y) (T:=(Q.foldl aR []).reverse) (H:=(Q.reverse.foldl aR []).reverse) (by rw[ab4];exact p2) (by rw[abJ];exact p1) (by rw[ab4];exact r2) (by rw[abJ];exact r1) xy
 obtain⟨lb,e,char⟩:=vO ⟨hs,hok⟩ h2
 have eo:bI Q=(Q.foldl aR []).reverse.dropLast++(Q.reverse.foldl aR []).reverse.dropLast:=by unfold bI;rw[if_neg (by omega)]
 have es:SL Q=prs (Q.foldl aR []).reverse++prs (Q.reverse.foldl aR []).reverse:=by
  rw[e,eo]
  exact e0
 have Xi:∀a b,Nx (Q.foldl aR []).reverse a b->ao.f a<ao.f b:=λa b k=>((iA C1).mp ((mz _ a b).mpr k)).2.2.1
 have Xj:∀a b,Nx (Q.reverse.foldl aR []).reverse a b->ao.f b<ao.f a:=λa b k=>by
  have h3:=((iA C2).mp ((mz _ a b).mpr k)).2.2.1
  rw[gW,gW]at h3
  omega
 have n1:=C1.nodup
 have n2:=C2.nodup
 constructor
 ·rw[es]
  refine aa1.mpr ⟨pT ((acX _).nodup_iff.mpr n1),pT ((acX _).nodup_iff.mpr n2),λv hv u hu z=>?_⟩
  subst z
  obtain⟨a,b,rfl,k1⟩:=xF _ _ hv
  obtain⟨c,d,e2,k2⟩:=xF _ _ hu
  injection e2 with e3 e2
  injection e2 with e4 _
  rw[<-e3,<-e4]at k2
  have:=Xi a b k1
  have:=Xj a b k2
  omega
 ·intro y' hy'
  rw[hy]at hy'
  cases hy'
  obtain⟨e1,k⟩:=KZ (l:=(Q.foldl aR []).reverse) (z:=y) (by rw[abJ];exact p1) (by rw[aaW];exact tG p1 p2 (Ne.symm xy))
  exact⟨e1,(char e1 y).mp (by rw[es];exact aaH _ (Gp _ _ _ k))⟩
theorem jz{Q:List Pl}(s:c8 Q):(SL Q).Nodup:=by
 by_cases h:2<=Q.length
 ·exact(pU s h).1
 ·rw[oH (by omega)]
  exact .nil
theorem tM(w:Way)(u v p o:Pl):(w.f v-w.f o)*tw o u p=(w.f u-w.f o)*tw o v p+(w.f p-w.f o)*tw o u v:=by
 unfold Way.f tw
 grind
theorem jc(a b c:Pl):tw b c a=tw a b c:=by unfold tw;grind
theorem nF(a b c:Pl):tw c a b=tw a b c:=by unfold tw;grind
theorem bY(a b c:Pl):tw b a c= - tw a b c:=by unfold tw;grind
theorem vP(a b c:Pl):tw a c b= - tw a b c:=by unfold tw;grind
section
variable{Q:List Pl}{p:Pl}
def MN(Q:List Pl)(p:Pl):Prop:=(∀q∈Q,aQ q p)/\p.y.natAbs<2 ^ 140
theorem c8.f(s:c8 Q){a b:Pl}(ha:a∈Q)(hb:b∈Q):aQ a b↔ao.f a<ao.f b:=lB (s.2 a ha) (s.2 b hb)
theorem c8.inj(s:c8 Q){a b:Pl}(ha:a∈Q)(hb:b∈Q)(e:ao.f a=ao.f b):a=b:=by
 rcases bT a b with k|k|k
 ·have:=(s.f ha hb).mp k;omega
 ·exact k
 ·have:=(s.f hb ha).mp k;omega
theorem MN.f(s:c8 Q)(h:MN Q p){a:Pl}(ha:a∈Q):ao.f a<ao.f p:=(lB (s.2 a ha) h.2).mp (h.1 a ha)
theorem dQ(s:c8 Q){a b q:Pl}(h:bf Q a b)(hq:q∈Q)(z:tw a b q=0):¬((ao.f a<ao.f q/\ao.f q<ao.f b)\/(ao.f b<ao.f q/\ao.f q<ao.f a)):=by
 obtain⟨ha,hb,ne,r⟩:=h
 have r2:=(r q hq).2 z
 unfold lo hi at r2
 rintro(⟨k1,k2⟩|⟨k1,k2⟩)
 ·have ab:aQ a b:=(s.f ha hb).mpr (by omega)
  rw[if_neg (az ab),if_pos ab]at r2
  exact r2 ⟨(s.f ha hq).mpr k1,(s.f hq hb).mpr k2⟩
 ·have ba:aQ b a:=(s.f hb ha).mpr (by omega)
  rw[if_pos ba,if_neg (az ba)]at r2
  exact r2 ⟨(s.f hb hq).mpr k1,(s.f hq ha).mpr k2⟩
theorem tO(s:c8 Q){a b:Pl}(ha:a∈Q)(hb:b∈Q)(h:∀q∈Q,0<=tw a b q/\(tw a b q=0->¬((ao.f a<ao.f q/\ao.f q<ao.f b)\/(ao.f b<ao.f q/\ao.f q<ao.f a)))):T4 a b Q:=λq hq=>⟨(h q hq).1,λz k=>(h q hq).2 z (by
 unfold lo hi at k
 by_cases c:aQ b a
 ·rw[if_pos c,if_neg (az c)]at k
  exact .inr ⟨(s.f hb hq).mp k.1,(s.f hq ha).mp k.2⟩
 ·rw[if_neg c]at k
  by_cases d:aQ a b
  ·rw[if_pos d]at k
   exact .inl ⟨(s.f ha hq).mp k.1,(s.f hq hb).mp k.2⟩
  ·rw[if_neg d]at k
   have:=(s.f ha hq).mp k.1
   have:=(s.f hq ha).mp k.2
   omega)⟩
theorem xH(s:c8 Q){a b:Pl}(ha:a∈Q)(hb:b∈Q)(ne:a≠b):ao.f a≠ao.f b:=λz=>ne (s.inj ha hb z)
theorem vQ(s:c8 Q){a b c:Pl}(h1:bf Q a b)(h2:bf Q a c)(s1:tw a b p<0)(s2:tw a c p<0):b=c:=by
 have z1:=(h1.2.2.2 c h2.2.1).1
 have z2:=(h2.2.2.2 b h1.2.1).1
 have z3:=vP a b c
 have z:tw a b c=0:=by omega
 have z':tw a c b=0:=by omega
 apply aaq
 intro ne
 have f1:=xH s h1.1 h1.2.1 h1.2.2.1
 have f2:=xH s h2.1 h2.2.1 h2.2.2.1
 have f3:=xH s h1.2.1 h2.2.1 ne
 have b1:=dQ s h1 h2.2.1 z
 have b2:=dQ s h2 h1.2.1 z'
 have key:=tM ao b c p a
 rw[z,abe,acd]at key
 rcases abv f1 with k|k
 ·rcases abv f2 with l|l
  ·omega
  ·have e1:0<(ao.f c-ao.f a)*tw a b p:=abK (by omega) s1
   have e2:(ao.f b-ao.f a)*tw a c p<0:=aa9 (by omega) s2
   omega
 ·rcases abv f2 with l|l
  ·have e1:(ao.f c-ao.f a)*tw a b p<0:=aa9 (by omega) s1
   have e2:0<(ao.f b-ao.f a)*tw a c p:=abK (by omega) s2
   omega
  ·omega
theorem zk(s:c8 Q){a b c:Pl}(h1:bf Q b a)(h2:bf Q c a)(s1:tw b a p<0)(s2:tw c a p<0):b=c:=by
 have z1:=(h1.2.2.2 c h2.1).1
 have z2:=(h2.2.2.2 b h1.1).1
 have z3:tw c a b= - tw b a c:=by unfold tw;grind
 have z:tw b a c=0:=by omega
 have z':tw c a b=0:=by omega
 apply aaq
 intro ne
 have f1:=xH s h1.1 h1.2.1 h1.2.2.1
 have f2:=xH s h2.1 h2.2.1 h2.2.2.1
 have f3:=xH s h1.1 h2.1 ne
 have b1:=dQ s h1 h2.1 z
 have b2:=dQ s h2 h1.1 z'
 have key:=tM ao b c p a
 have y1:tw a b p= - tw b a p:=bY b a p
 have y2:tw a c p= - tw c a p:=bY c a p
 have y3:tw a b c=0:=by have:=bY b a c;omega
 rw[y3,abe,acd]at key
 have s1:0<tw a b p:=by omega
 have s2:0<tw a c p:=by omega
 rcases abv f1 with k|k
 ·rcases abv f2 with l|l
  ·omega
  ·have e1:0<(ao.f c-ao.f a)*tw a b p:=aaT (by omega) s1
   have e2:(ao.f b-ao.f a)*tw a c p<0:=abj (by omega) s2
   omega
 ·rcases abv f2 with l|l
  ·have e1:(ao.f c-ao.f a)*tw a b p<0:=abj (by omega) s1
   have e2:0<(ao.f b-ao.f a)*tw a c p:=aaT (by omega) s2
   omega
  ·omega
theorem Qj(c a b p q:Pl):tw c a p*tw a b q-tw a b p*tw c a q=tw c a b*tw a p q:=by unfold tw;grind
theorem Qk(a b c p q:Pl):tw a b q*tw b c p-tw a b p*tw b c q=tw a b c*tw p b q:=by unfold tw;grind
theorem mC{a b:Pl}(ne:a≠b)(h:∀q∈Q,tw a b q=0):Flat Q:=λu hu v hv w hw=>Gd ne (h u hu) (h v hv) (h w hw)
theorem DO(nf:¬Flat Q){a b c:Pl}(h1:bf Q a b)(h2:bf Q c a)(s1:tw a b p<0)(s2:0<=tw c a p):∀q∈Q,0<=tw a p q:=λq hq=>by
 have z1:=(h1.2.2.2 q hq).1
 have z2:=(h2.2.2.2 q hq).1
 have z3:=(h2.2.2.2 b h1.2.1).1
 have key:=Qj c a b p q
 have e1:0<=tw c a p*tw a b q:=aaB s2 z1
 have e2:tw a b p*tw c a q<=0:=aaM (by omega) z2
 rcases acM z3 with k|k
 ·exact iz k (by omega)
 ·exfalso
  refine nf (mC h2.2.2.1 λr hr=>?_)
  have key:=Qj c a b p r
  rw[<-k,ab3]at key
  have y1:=(h1.2.2.2 r hr).1
  have y2:=(h2.2.2.2 r hr).1
  have e1:0<=tw c a p*tw a b r:=aaB s2 y1
  have e2:tw a b p*tw c a r<=0:=aaM (by omega) y2
  have e3:tw a b p*tw c a r=0:=by omega
  rcases aaU.mp e3 with z|z
  ·omega
  ·exact z
theorem Ju(nf:¬Flat Q){a b c:Pl}(h1:bf Q a b)(h2:bf Q b c)(s1:tw a b p<0)(s2:0<=tw b c p):∀q∈Q,0<=tw p b q:=λq hq=>by
 have z1:=(h1.2.2.2 q hq).1
 have z2:=(h2.2.2.2 q hq).1
 have z3:=(h1.2.2.2 c h2.2.1).1
 have key:=Qk a b c p q
 have e1:0<=tw a b q*tw b c p:=aaB z1 s2
 have e2:tw a b p*tw b c q<=0:=aaM (by omega) z2
 rcases acM z3 with k|k
 ·exact iz k (by omega)
 ·exfalso
  refine nf (mC h2.2.2.1 λr hr=>?_)
  have key:=Qk a b c p r
  rw[<-k,ab3]at key
  have y1:=(h1.2.2.2 r hr).1
  have y2:=(h2.2.2.2 r hr).1
  have e1:0<=tw a b r*tw b c p:=aaB y1 s2
  have e2:tw a b p*tw b c r<=0:=aaM (by omega) y2
  have e3:tw a b p*tw b c r=0:=by omega
  rcases aaU.mp e3 with z|z
  ·omega
  ·exact z
theorem mD(s:c8 Q)(fl:Flat Q){a b:Pl}(ha:a∈Q)(hb:b∈Q)(ne:a≠b)(h:∀q∈Q,¬((ao.f a<ao.f q/\ao.f q<ao.f b)\/(ao.f b<ao.f q/\ao.f q<ao.f a))):bf Q a b:=
 ⟨ha,hb,ne,tO s ha hb λq hq=>⟨by rw[fl a ha b hb q hq];omega,λ_=>h q hq⟩⟩
theorem xJ(s:c8 Q){a q:Pl}(ha:a∈Q)(hq:q∈Q)(ne:q≠a):∃c∈Q,c≠a/\(ao.f c<ao.f a↔ao.f q<ao.f a)/\∀z∈Q,¬((ao.f a<ao.f z/\ao.f z<ao.f c)\/(ao.f c<ao.f z/\ao.f z<ao.f a)):=by
 have fq:=xH s hq ha ne
 rcases abv fq with k|k
 ·obtain⟨c,hc,mx⟩:=Ct (Q.filter λz=>decide (aQ z a)) (abN (aaw.mpr ⟨hq,decide_eq_true ((s.f hq ha).mpr k)⟩))
  obtain⟨hc,ca⟩:=aaw.mp hc
  have ca:=(s.f hc ha).mp (of_decide_eq_true ca)
  refine⟨c,hc,λz=>by rw[z]at ca;omega,⟨λ_=>k,λ_=>ca⟩,λz hz=>?_⟩
  rintro(⟨k1,k2⟩|⟨k1,k2⟩)
  ·omega
  ·exact mx z (aaw.mpr ⟨hz,decide_eq_true ((s.f hz ha).mpr k2)⟩) ((s.f hc hz).mpr k1)
 ·obtain⟨c,hc,mn⟩:=xD (Q.filter λz=>decide (aQ a z)) (abN (aaw.mpr ⟨hq,decide_eq_true ((s.f ha hq).mpr k)⟩))
  obtain⟨hc,ca⟩:=aaw.mp hc
  have ca:=(s.f ha hc).mp (of_decide_eq_true ca)
  refine⟨c,hc,λz=>by rw[z]at ca;omega,⟨λ_=>by omega,λ_=>by omega⟩,λz hz=>?_⟩
  rintro(⟨k1,k2⟩|⟨k1,k2⟩)
  ·exact mn z (aaw.mpr ⟨hz,decide_eq_true ((s.f ha hz).mpr k1)⟩) ((s.f hz hc).mpr k2)
  ·omega
theorem RB{x y A B:Int}(h:x*A=y*B)(hA:A<0)(hB:0<B):(0<x->y<0)/\(x<0->0<y)/\(x=0->y=0):=by
 refine⟨λk=>?_,λk=>?_,λk=>?_⟩
 ·have:=aa9 k hA
  apply aaq
  intro z
  have:=aaB (a:=y) (b:=B) (by omega) (by omega)
  omega
 ·have:=abK k hA
  apply aaq
  intro z
  have:=aaM (a:=y) (b:=B) (by omega) (by omega)
  omega
 ·rw[k,ab3]at h
  rcases aaU.mp h.symm with z|z
  ·exact z
  ·omega
theorem T8{x y A B:Int}(h:x*A=y*B)(hA:A<0)(hxy:(0<x/\y<0)\/(x<0/\0<y)):0<B:=by
 apply aaq
 intro z
 rcases hxy with⟨k,l⟩|⟨k,l⟩
 ·have:=aa9 k hA
  have:=aaS (a:=y) (b:=B) (by omega) (by omega)
  omega
 ·have:=abK k hA
  have:=aaJ (a:=y) (b:=B) (by omega) (by omega)
  omega
theorem A9(s:c8 Q)(fl:Flat Q){a b:Pl}(h1:bf Q a b)(s1:tw a b p<0)(no:∀c,bf Q c a->0<=tw c a p):∀q∈Q,0<=tw a p q:=λq hq=>by
 apply aaq
 intro k
 have z0:=fl a h1.1 b h1.2.1 q hq
 have key:=tM ao b q p a
 rw[z0,abe,acd]at key
 have e1:tw a q p= - tw a p q:=vP a p q
 have o1:=RB key s1 (by omega)
 have nq:q≠a:=λz=>by rw[z]at k;have:=ie a p;omega
 obtain⟨c,hc,nc,sg,Ql⟩:=xJ s h1.1 hq nq
 have f1:=xH s h1.2.1 h1.1 (Ne.symm h1.2.2.1)
 have f2:=xH s hq h1.1 nq
 have f3:=xH s hc h1.1 nc
 have sd:bf Q c a:=mD s fl hc h1.1 nc λz hz w=>Ql z hz (by omega)
 have Jv:=tM ao b c p a
 rw[fl a h1.1 b h1.2.1 c hc,abe,acd]at Jv
 have:=T8 Jv s1 (by omega)
 have:=no c sd
 have:=bY a c p
 omega
theorem Gq(s:c8 Q)(fl:Flat Q){a b:Pl}(h1:bf Q a b)(s1:tw a b p<0)(no:∀c,bf Q b c->0<=tw b c p):∀q∈Q,0<=tw p b q:=λq hq=>by
 apply aaq
 intro k
 have z0:=fl b h1.2.1 a h1.1 q hq
 have key:=tM ao a q p b
 rw[z0,abe,acd]at key
 have e1:tw b q p=tw p b q:=jc p b q
 have e2:=bY a b p
 have key:(ao.f a-ao.f b)*tw b q p=(ao.f q-ao.f b)*tw b a p:=key.symm
 have o1:=RB key (by omega) (by omega)
 have nq:q≠b:=λz=>by rw[z]at k;have:=ic p b;have:tw p b b=0:=by unfold tw;grind
                     omega
 obtain⟨c,hc,nc,sg,Ql⟩:=xJ s h1.2.1 hq nq
 have f1:=xH s h1.1 h1.2.1 h1.2.2.1
 have f2:=xH s hq h1.2.1 nq
 have f3:=xH s hc h1.2.1 nc
 have sd:bf Q b c:=mD s fl h1.2.1 hc (Ne.symm nc) λz hz w=>Ql z hz (by omega)
 have Jv:=tM ao a c p b
 rw[fl b h1.2.1 a h1.1 c hc,abe,acd]at Jv
 have nn:=no c sd
 have pos:0<tw b a p:=by omega
 rcases abv f3 with l|l
 ·have e3:(ao.f c-ao.f b)*tw b a p<0:=abj (by omega) pos
  have e4:0<=(ao.f a-ao.f b)*tw b c p:=aaB (by omega) nn
  omega
 ·have e3:0<(ao.f c-ao.f b)*tw b a p:=aaT (by omega) pos
  have e4:(ao.f a-ao.f b)*tw b c p<=0:=aaM (by omega) nn
  omega
theorem DP(s:c8 Q)(bh:MN Q p){a b q:Pl}(h1:bf Q a b)(s1:tw a b p<0)(hq:q∈Q)(z:tw a p q=0):¬ao.f a<ao.f q:=λk=>by
 have key:=tM ao b q p a
 have e1:tw a q p=0:=by have:=vP a p q;omega
 rw[e1,abe,adD]at key
 have:=(h1.2.2.2 q hq).1
 have fp:=bh.f s h1.1
 have e2:(ao.f q-ao.f a)*tw a b p<0:=aa9 (by omega) s1
 have e3:0<=(ao.f p-ao.f a)*tw a b q:=aaB (by omega) this
 omega
theorem Jw(s:c8 Q)(bh:MN Q p){a b q:Pl}(h1:bf Q a b)(s1:tw a b p<0)(hq:q∈Q)(z:tw p b q=0):¬ao.f b<ao.f q:=λk=>by
 have key:=tM ao a q p b
 have e1:tw b q p=0:=by have:=jc p b q;omega
 rw[e1,abe,adD]at key
 have:=(h1.2.2.2 q hq).1
 have y1:=bY a b p
 have y2:=bY a b q
 have fp:=bh.f s h1.2.1
 have e2:0<(ao.f q-ao.f b)*tw b a p:=aaT (by omega) (by omega)
 have e3:(ao.f p-ao.f b)*tw b a q<=0:=aaJ (by omega) (by omega)
 omega
theorem c8.old(s:c8 (Q++[p])):c8 Q:=⟨(ace.mp s.1).1,λq hq=>s.2 q (aaH _ hq)⟩
theorem c8.Ba(s:c8 (Q++[p])):MN Q p:=⟨λq hq=>(ace.mp s.1).2.2 q hq p (by simp),s.2 p (by simp)⟩
theorem c8.out(s:c8 (Q++[p])):p∉Q:=λh=>bG _ (s.Ba.1 p h)
theorem eO{q:Pl}(h:q∈Q++[p]):q∈Q\/q=p:=by
 rcases aaF.mp h with h|h
 ·exact .inl h
 ·exact .inr (aav.mp h)
theorem iD(s:c8 (Q++[p])){a b:Pl}(ha:a∈Q)(hb:b∈Q):bf (Q++[p]) a b↔bf Q a b/\0<=tw a b p:=by
 constructor
 ·rintro⟨_,_,ne,r⟩
  exact⟨⟨ha,hb,ne,λq hq=>r q (aaH _ hq)⟩,(r p (by simp)).1⟩
 ·rintro⟨⟨_,_,ne,r⟩,h⟩
  refine⟨aaH _ ha,aaH _ hb,ne,tO s (aaH _ ha) (aaH _ hb) λq hq=>?_⟩
  rcases eO hq with hq|rfl
  ·exact⟨(r q hq).1,λz=>dQ s.old ⟨ha,hb,ne,r⟩ hq z⟩
  ·refine⟨h,λ_ k=>?_⟩
   have:=s.Ba.f s.old ha
   have:=s.Ba.f s.old hb
   omega
theorem tP(s:c8 (Q++[p])){a b:Pl}(h1:bf Q a b)(s1:tw a b p<0)(no:∀c,bf Q c a->0<=tw c a p):bf (Q++[p]) a p:=by
 have all:∀q∈Q,0<=tw a p q:=by
  by_cases fl:Flat Q
  ·exact A9 s.old fl h1 s1 no
  ·obtain⟨c,hc⟩:=Jt s.old h1
   exact DO fl h1 hc s1 (no c hc)
 have ma:a∈Q++[p]:=aaH _ h1.1
 have mp:p∈Q++[p]:=by simp
 refine⟨ma,mp,λz=>s.out (z▸h1.1),tO s ma mp λq hq=>?_⟩
 have fa:=s.Ba.f s.old h1.1
 rcases eO hq with hq|rfl
 ·refine⟨all q hq,λz k=>?_⟩
  have:=DP s.old s.Ba h1 s1 hq z
  have:=s.Ba.f s.old hq
  omega
 ·refine⟨by have:tw a q q=0:=by unfold tw;grind
            omega,λ_ k=>by omega⟩
theorem zl(s:c8 (Q++[p])){a b:Pl}(h1:bf Q a b)(s1:tw a b p<0)(no:∀c,bf Q b c->0<=tw b c p):bf (Q++[p]) p b:=by
 have all:∀q∈Q,0<=tw p b q:=by
  by_cases fl:Flat Q
  ·exact Gq s.old fl h1 s1 no
  ·obtain⟨c,hc⟩:=tL s.old h1
   exact Ju fl h1 hc s1 (no c hc)
 have mb:b∈Q++[p]:=aaH _ h1.2.1
 have mp:p∈Q++[p]:=by simp
 refine⟨mp,mb,λz=>s.out (z▸h1.2.1),tO s mp mb λq hq=>?_⟩
 have fb:=s.Ba.f s.old h1.2.1
 rcases eO hq with hq|rfl
 ·refine⟨all q hq,λz k=>?_⟩
  have:=Jw s.old s.Ba h1 s1 hq z
  have:=s.Ba.f s.old hq
  omega
 ·refine⟨by have:tw q b q=0:=by unfold tw;grind
            omega,λ_ k=>by omega⟩
theorem Gr(s:c8 (Q++[p])){u v:Pl}(h1:bf (Q++[p]) u p)(h2:bf (Q++[p]) v p):u=v:=by
 apply aaq
 intro ne
 have z1:=(h1.2.2.2 v h2.1).1
 have z2:=(h2.2.2.2 u h1.1).1
 have z3:tw v p u= - tw u p v:=by unfold tw;grind
 have f:=xH s h1.1 h2.1 ne
 have hu:=(eO h1.1).resolve_right h1.2.2.1
 have hv:=(eO h2.1).resolve_right h2.2.2.1
 have fu:=s.Ba.f s.old hu
 have fv:=s.Ba.f s.old hv
 have b1:=dQ s h1 h2.1 (by omega)
 have b2:=dQ s h2 h1.1 (by omega)
 omega
theorem K0(s:c8 (Q++[p])){u v:Pl}(h1:bf (Q++[p]) p u)(h2:bf (Q++[p]) p v):u=v:=by
 apply aaq
 intro ne
 have z1:=(h1.2.2.2 v h2.2.1).1
 have z2:=(h2.2.2.2 u h1.2.1).1
 have z3:tw p v u= - tw p u v:=vP p u v
 have f:=xH s h1.2.1 h2.2.1 ne
 have hu:=(eO h1.2.1).resolve_right (Ne.symm h1.2.2.1)
 have hv:=(eO h2.2.1).resolve_right (Ne.symm h2.2.2.1)
 have fu:=s.Ba.f s.old hu
 have fv:=s.Ba.f s.old hv
 have b1:=dQ s h1 h2.2.1 (by omega)
 have b2:=dQ s h2 h1.2.1 (by omega)
 omega
theorem zm{Q:List Pl}(h:Q.length<=2):Flat Q:=by
 match Q,h with
 |[],_=>exact λp hp=>by cases hp
 |[x],_=>exact iB (by simp)
 |[x,y],_=>
  have key:∀a∈[x,y],a=x\/a=y:=λa ha=>by simpa using ha
  intro a ha b hb c hc
  rcases key a ha with rfl|rfl<;>rcases key b hb with rfl|rfl<;>rcases key c hc with rfl|rfl<;>(unfold tw;grind)
theorem vR(s:c8 (Q++[p]))(nf:¬Flat (Q++[p])):∃a b,bf Q a b/\tw a b p<0:=by
 apply aaq
 intro none
 have un:∀a b,bf Q a b->0<=tw a b p:=λa b h=>aaq λz=>none ⟨a,b,h,by omega⟩
 have l2:2<=Q.length:=aaq λz=>nf (zm (by rw[aaA];simp;omega))
 have hne:Q≠[]:=λz=>by rw[z]at l2;simp at l2
 have hy:=abn hne
 obtain⟨e,he⟩:=(pU s.old l2).2 _ hy
 have last:∀q∈Q,q=Q.getLast hne\/aQ q (Q.getLast hne):=λq hq=>(gv s.old.1 (List.head?_eq_some_head hne) hy q hq).2
 generalize Q.getLast hne=y at he last
 obtain⟨b,hb⟩:=tL s.old he
 have my:y∈Q:=hb.1
 have fe:ao.f e<ao.f y:=(s.old.f he.1 my).mp ((last e he.1).resolve_left he.2.2.1)
 have fb:ao.f b<ao.f y:=(s.old.f hb.2.1 my).mp ((last b hb.2.1).resolve_left (Ne.symm hb.2.2.1))
 have fp:=s.Ba.f s.old my
 have u1:=un e y he
 have u2:=un y b hb
 have u3:=(he.2.2.2 b hb.2.1).1
 have g1:∀q,tw y e q= - tw e y q:=λq=>bY e y q
 have key:=tM ao e b p y
 have k1:=g1 p
 have k2:=g1 b
 have e1:0<=(ao.f b-ao.f y)*tw y e p:=aaS (by omega) (by omega)
 have e2:(ao.f e-ao.f y)*tw y b p<=0:=aaM (by omega) u2
 have e3:(ao.f p-ao.f y)*tw y e b<=0:=aaJ (by omega) (by omega)
 have z1:(ao.f b-ao.f y)*tw y e p=0:=by omega
 have z2:(ao.f p-ao.f y)*tw y e b=0:=by omega
 have y1:tw y e p=0:=(aaU.mp z1).resolve_left (by omega)
 have y2:tw y e b=0:=(aaU.mp z2).resolve_left (by omega)
 refine nf (mC (a:=y) (b:=e) (Ne.symm he.2.2.1) λq hq=>?_)
 rcases eO hq with hq|rfl
 ·have key:=tM ao e b q y
  rw[y2,abe,acd]at key
  have h1:=(he.2.2.2 q hq).1
  have h2:=(hb.2.2.2 q hq).1
  have h3:=g1 q
  have e4:0<=(ao.f b-ao.f y)*tw y e q:=aaS (by omega) (by omega)
  have e5:(ao.f e-ao.f y)*tw y b q<=0:=aaM (by omega) h2
  exact(aaU.mp (show(ao.f b-ao.f y)*tw y e q=0 by omega)).resolve_left (by omega)
 ·exact y1
def cE(Q:List Pl)(p:Pl):List (List Pl):=(SL Q).filter (Ll p)
theorem bH(s:c8 Q){a b:Pl}:[a,b]∈cE Q p↔bf Q a b/\tw a b p<0:=by
 unfold cE
 rw[aaw,bX s]
 exact⟨λh=>⟨h.1,of_decide_eq_true h.2⟩,λh=>⟨h.1,decide_eq_true h.2⟩⟩
theorem cF{w:List Pl}(h:w∈cE Q p):∃a b,w=[a,b]:=iC (aaw.mp h).1
theorem nG(s:c8 Q):(cE Q p).Nodup:=(jz s).filter _
def uO(w:List Pl):Pl:=w.headD ⟨0,0⟩
def xK(w:List Pl):Pl:=w.getLastD ⟨0,0⟩
theorem mE{α β:Type}{f:α->β}:∀{l:List α},l.Nodup->(∀x∈l,∀y∈l,f x=f y->x=y)->(l.map f).Nodup
 |[],_,_=> .nil
 |a::l,nd,h=>by
  obtain⟨h1,h2⟩:=aaR.mp nd
  rw[aaV]
  refine aaR.mpr ⟨λz=>?_,mE h2 λx hx y hy=>h x (aar _ hx) y (aar _ hy)⟩
  obtain⟨b,hb,e⟩:=aaI.mp z
  rw[h b (aar _ hb) a (by simp) e]at hb
  exact h1 hb
theorem xM(s:c8 Q):((cE Q p).map uO).Nodup:=mE (nG s) λx hx y hy e=>by
 obtain⟨a,b,rfl⟩:=cF hx
 obtain⟨c,d,rfl⟩:=cF hy
 have e:a=c:=e
 subst e
 obtain⟨h1,h2⟩:=(bH s).mp hx
 obtain⟨h3,h4⟩:=(bH s).mp hy
 rw[vQ s h1 h3 h2 h4]
theorem Bb(s:c8 Q):((cE Q p).map xK).Nodup:=mE (nG s) λx hx y hy e=>by
 obtain⟨a,b,rfl⟩:=cF hx
 obtain⟨c,d,rfl⟩:=cF hy
 have e:b=d:=e
 subst e
 obtain⟨h1,h2⟩:=(bH s).mp hx
 obtain⟨h3,h4⟩:=(bH s).mp hy
 rw[zk s h1 h3 h2 h4]
theorem zo{A B:List Pl}(na:A.Nodup)(l:A.length=B.length)(h:∀x∈A,x∈B):∀x∈B,x∈A:=λx hx=>by
 apply aaq
 intro n
 have:=pS (l:=x::A) (m:=B) (aaR.mpr ⟨n,na⟩) (λy hy=>by
  rcases aat.mp hy with rfl|hy
  ·exact hx
  ·exact h y hy)
 rw[aaX]at this
 omega
theorem Cy(s:c8 Q)(bh:MN Q p){a0 b0:Pl}(h0:[a0,b0]∈cE Q p)(h1:∀x∈(cE Q p).map uO,x∈(cE Q p).map xK)(h2:∀x∈(cE Q p).map xK,x∈(cE Q p).map uO):False:=by
 obtain⟨m,hm,mn⟩:=xD ((cE Q p).map uO) (abN (aaI.mpr ⟨_,h0,rfl⟩))
 obtain⟨w,hw,e1⟩:=aaI.mp hm
 obtain⟨v,hv,e2⟩:=aaI.mp (h1 m hm)
 obtain⟨a,b,rfl⟩:=cF hw
 obtain⟨c,d,rfl⟩:=cF hv
 have e1:a=m:=e1
 have e2:d=m:=e2
 subst e1
 subst e2
 obtain⟨k1,k2⟩:=(bH s).mp hw
 obtain⟨k3,k4⟩:=(bH s).mp hv
 have fb:ao.f d<ao.f b:=by
  have nb:=mn b (h2 b (aaI.mpr ⟨_,hw,rfl⟩))
  have ne:=xH s k1.1 k1.2.1 k1.2.2.1
  have:¬ao.f b<ao.f d:=λz=>nb ((s.f k1.2.1 k1.1).mpr z)
  omega
 have fc:ao.f d<ao.f c:=by
  have nb:=mn c (aaI.mpr ⟨_,hv,rfl⟩)
  have ne:=xH s k3.1 k3.2.1 k3.2.2.1
  have:¬ao.f c<ao.f d:=λz=>nb ((s.f k3.1 k3.2.1).mpr z)
  omega
 exact A8 fb fc (bh.f s k1.1) (k1.2.2.2 c k3.1).1 k2 k4
theorem Gs(s:c8 Q)(bh:MN Q p){a0 b0:Pl}(h0:[a0,b0]∈cE Q p):(∃a b,(bf Q a b/\tw a b p<0)/\∀c,bf Q c a->0<=tw c a p)/\∃a b,(bf Q a b/\tw a b p<0)/\∀c,bf Q b c->0<=tw b c p:=by
 have lens:((cE Q p).map uO).length=((cE Q p).map xK).length:=by rw[aas,aas]
 constructor
 ·apply aaq
  intro no
  have sub:∀x∈(cE Q p).map uO,x∈(cE Q p).map xK:=λx hx=>by
   obtain⟨w,hw,rfl⟩:=aaI.mp hx
   obtain⟨a,b,rfl⟩:=cF hw
   apply aaq
   intro n
   refine no ⟨a,b,(bH s).mp hw,λc hc=>aaq λz=>n ?_⟩
   exact aaI.mpr ⟨[c,a],(bH s).mpr ⟨hc,by omega⟩,rfl⟩
  exact Cy s bh h0 sub (zo (xM s) lens sub)
 ·apply aaq
  intro no
  have sub:∀x∈(cE Q p).map xK,x∈(cE Q p).map uO:=λx hx=>by
   obtain⟨w,hw,rfl⟩:=aaI.mp hx
   obtain⟨a,b,rfl⟩:=cF hw
   apply aaq
   intro n
   refine no ⟨a,b,(bH s).mp hw,λc hc=>aaq λz=>n ?_⟩
   exact aaI.mpr ⟨[b,c],(bH s).mpr ⟨hc,by omega⟩,rfl⟩
  exact Cy s bh h0 (zo (Bb s) lens.symm sub) sub
def Xk(p:Pl)(w:List Pl):List (List Pl):=[[xK w,uO w],[uO w,p],[p,xK w]]
def newD(Q:List Pl)(p:Pl):List (List Pl):=(cE Q p).flatMap (Xk p)
theorem gf(s:c8 Q){w:List Pl}:w∈newD Q p↔∃a b,(bf Q a b/\tw a b p<0)/\(w=[b,a]\/w=[a,p]\/w=[p,b]):=by
 unfold newD
 rw[abc]
 constructor
 ·rintro⟨v,hv,hw⟩
  obtain⟨a,b,rfl⟩:=cF hv
  refine⟨a,b,(bH s).mp hv,?_⟩
  have hw:w∈[[b,a],[a,p],[p,b]]:=hw
  simpa using hw
 ·rintro⟨a,b,h,hw⟩
  refine⟨[a,b],(bH s).mpr h,?_⟩
  show w∈[[b,a],[a,p],[p,b]]
  simpa using hw
theorem aT{a b c d:Pl}(h:[a,b]=[c,d]):a=c/\b=d:=by
 injection h with h1 h
 injection h with h2 _
 exact⟨h1,h2⟩
theorem DQ(s:c8 (Q++[p])):(newD Q p).Nodup:=by
 have so:=s.old
 have np:∀{x y},bf Q x y->x≠p/\y≠p:=λh=>⟨λz=>s.out (z▸h.1),λz=>s.out (z▸h.2.1)⟩
 unfold newD
 refine List.pairwise_flatMap.mpr ⟨λw hw=>?_,?_⟩
 ·obtain⟨a,b,rfl⟩:=cF hw
  obtain⟨h1,_⟩:=(bH so).mp hw
  obtain⟨n1,n2⟩:=np h1
  show([[b,a],[a,p],[p,b]]:List (List Pl)).Nodup
  simp only[aaR,aat,aa7,or_false,not_or,not_false_eq_true,acJ,and_true]
  refine⟨⟨λz=>n1 (aT z).2,λz=>n2 (aT z).1⟩,λz=>n1 (aT z).1⟩
 ·refine(nG so).imp_of_mem λ{w v} hw hv ne x hx y hy e=>?_
  subst e
  obtain⟨a,b,rfl⟩:=cF hw
  obtain⟨c,d,rfl⟩:=cF hv
  obtain⟨h1,h2⟩:=(bH so).mp hw
  obtain⟨h3,h4⟩:=(bH so).mp hv
  obtain⟨n1,n2⟩:=np h1
  obtain⟨n3,n4⟩:=np h3
  have hx:x∈[[b,a],[a,p],[p,b]]:=hx
  have hy:x∈[[d,c],[c,p],[p,d]]:=hy
  simp only[aat,aa7,or_false]at hx hy
  rcases hx with rfl|rfl|rfl
  ·rcases hy with e|e|e
   ·obtain⟨rfl,rfl⟩:=aT e
    exact ne rfl
   ·exact n1 (aT e).2
   ·exact n2 (aT e).1
  ·rcases hy with e|e|e
   ·exact n3 (aT e).2.symm
   ·have e:=(aT e).1
    subst e
    rw[vQ so h1 h3 h2 h4]at ne
    exact ne rfl
   ·exact n1 (aT e).1
  ·rcases hy with e|e|e
   ·exact n4 (aT e).1.symm
   ·exact n3 (aT e).1.symm
   ·have e:=(aT e).2
    subst e
    rw[zk so h1 h3 h2 h4]at ne
    exact ne rfl
structure Bc(Q:List Pl)(D:List (List Pl)):Prop where
 nd:D.Nodup
 rF:∀w∈D,∃a b,w=[a,b]/\a∈Q/\b∈Q
 bare:∀a b,[a,b]∈D->[b,a]∉D->bf Q a b
 pV:∀a b,bf Q a b->[b,a]∉D
 has:∀a b,bf Q a b->bf Q b a\/[a,b]∈D
theorem Bc.nil{Q:List Pl}(h:Q.length<2):Bc Q [] where
 nd:= .nil
 rF:=λw hw=>by cases hw
 bare:=λa b hw=>by cases hw
 pV:=λa b hw=>by simp
 has:=λa b hw=>absurd (oJ hw) (by omega)
theorem pW{a b:Pl}(h1:bf Q a b)(h2:bf Q b a):Flat Q:=mC h1.2.2.1 λq hq=>by
 have z1:=(h1.2.2.2 q hq).1
 have z2:=(h2.2.2.2 q hq).1
 have:=bY a b q
 omega
theorem vS(s:c8 Q)(fl:Flat Q){a b:Pl}(h:bf Q a b):bf Q b a:=mD s fl h.2.1 h.1 (Ne.symm h.2.2.1) λq hq k=>dQ s h hq (fl a h.1 b h.2.1 q hq) (by omega)
theorem Bc.step{D D':List (List Pl)}(s:c8 (Q++[p]))(c:Bc Q D)(e:D'.Perm (D++newD Q p)):Bc (Q++[p]) D':=by
 have so:=s.old
 have np:∀{x y},bf Q x y->x≠p/\y≠p:=λh=>⟨λz=>s.out (z▸h.1),λz=>s.out (z▸h.2.1)⟩
 have mem:∀w,w∈D'↔w∈D\/w∈newD Q p:=λw=>by rw[e.mem_iff,aaF]
 have pD:∀a b,[a,b]∈D->a∈Q/\b∈Q:=λa b h=>by
  obtain⟨u,v,e,h1,h2⟩:=c.rF _ h
  obtain⟨rfl,rfl⟩:=aT e
  exact⟨h1,h2⟩
 refine⟨?_,?_,?_,?_,?_⟩
 ·refine e.nodup_iff.mpr (aa1.mpr ⟨c.nd,DQ s,λw hw v hv z=>?_⟩)
  subst z
  obtain⟨a,b,⟨h1,h2⟩,h3⟩:=(gf so).mp hv
  rcases h3 with rfl|rfl|rfl
  ·exact c.pV a b h1 hw
  ·exact s.out (pD _ _ hw).2
  ·exact s.out (pD _ _ hw).1
 ·intro w hw
  rcases(mem w).mp hw with h|h
  ·obtain⟨a,b,e,h1,h2⟩:=c.rF w h
   exact⟨a,b,e,aaH _ h1,aaH _ h2⟩
  ·obtain⟨a,b,⟨h1,h2⟩,h3⟩:=(gf so).mp h
   have ma:a∈Q++[p]:=aaH _ h1.1
   have mb:b∈Q++[p]:=aaH _ h1.2.1
   have mp:p∈Q++[p]:=by simp
   rcases h3 with rfl|rfl|rfl
   ·exact⟨_,_,rfl,mb,ma⟩
   ·exact⟨_,_,rfl,ma,mp⟩
   ·exact⟨_,_,rfl,mp,mb⟩
 ·intro u v hw hb
  have Vv:[v,u]∉D:=λz=>hb ((mem _).mpr (.inl z))
  have T9:[v,u]∉newD Q p:=λz=>hb ((mem _).mpr (.inr z))
  rcases(mem _).mp hw with h|h
  ·have sd:=c.bare u v h Vv
   refine(iD s sd.1 sd.2.1).mpr ⟨sd,aaq λz=>T9 ?_⟩
   exact(gf so).mpr ⟨u,v,⟨sd,by omega⟩,.inl rfl⟩
  ·obtain⟨a,b,⟨h1,h2⟩,h3⟩:=(gf so).mp h
   rcases h3 with h3|h3|h3
   ·obtain⟨rfl,rfl⟩:=aT h3
    rcases c.has v u h1 with k|k
    ·exact(iD s k.1 k.2.1).mpr ⟨k,by have:=bY v u p;omega⟩
    ·exact absurd k Vv
   ·obtain⟨rfl,rfl⟩:=aT h3
    refine tP s h1 h2 λc hc=>aaq λz=>T9 ?_
    exact(gf so).mpr ⟨c,u,⟨hc,by omega⟩,.inr (.inr rfl)⟩
   ·obtain⟨rfl,rfl⟩:=aT h3
    refine zl s h1 h2 λc hc=>aaq λz=>T9 ?_
    exact(gf so).mpr ⟨v,c,⟨hc,by omega⟩,.inr (.inl rfl)⟩
 ·intro u v sd hw
  rcases(mem _).mp hw with h|h
  ·obtain⟨mv,mu⟩:=pD _ _ h
   exact c.pV u v ((iD s mu mv).mp sd).1 h
  ·obtain⟨a,b,⟨h1,h2⟩,h3⟩:=(gf so).mp h
   rcases h3 with h3|h3|h3
   ·obtain⟨rfl,rfl⟩:=aT h3
    have:=((iD s h1.1 h1.2.1).mp sd).2
    omega
   ·obtain⟨rfl,rfl⟩:=aT h3
    have:=(sd.2.2.2 b (aaH _ h1.2.1)).1
    have:=nF v b u
    omega
   ·obtain⟨rfl,rfl⟩:=aT h3
    have:=(sd.2.2.2 a (aaH _ h1.1)).1
    have:=jc a u v
    omega
 ·intro u v sd
  by_cases fl:Flat (Q++[p])
  ·exact .inl (vS s fl sd)
  ·right
   obtain⟨a0,b0,h0,s0⟩:=vR s fl
   obtain⟨⟨a1,b1,k1,Xl⟩,a2,b2,k2,Xm⟩:=Gs so s.Ba ((bH so).mpr ⟨h0,s0⟩)
   rcases eO sd.1 with mu|rfl
   ·rcases eO sd.2.1 with mv|rfl
    ·obtain⟨Ua,ge⟩:=(iD s mu mv).mp sd
     rcases c.has u v Ua with k|k
     ·have fq:=pW Ua k
      have nz:tw u v p≠0:=λz=>fl (mC Ua.2.2.1 λq hq=>by
       rcases eO hq with hq|rfl
       ·exact fq u mu v mv q hq
       ·exact z)
      exact(mem _).mpr (.inr ((gf so).mpr ⟨v,u,⟨k,by have:=bY u v p;omega⟩,.inl rfl⟩))
     ·exact(mem _).mpr (.inl k)
    ·have:=Gr s sd (tP s k1.1 k1.2 Xl)
     subst this
     exact(mem _).mpr (.inr ((gf so).mpr ⟨u,b1,k1,.inr (.inl rfl)⟩))
   ·have:=K0 s sd (zl s k2.1 k2.2 Xm)
    subst this
    exact(mem _).mpr (.inr ((gf so).mpr ⟨a2,v,k2,.inr (.inr rfl)⟩))
end
end L3
namespace L3
theorem pX{v w x y:Pl}(h:[v,w].Perm [x,y]):(v=x/\w=y)\/(v=y/\w=x):=by
 have m:v∈[x,y]:=h.mem_iff.mp (by simp)
 simp only[aat,aa7,or_false]at m
 rcases m with rfl|rfl
 ·have:=List.Perm.cons_inv h
  exact .inl ⟨rfl,by simpa using this⟩
 ·have:=List.Perm.cons_inv (h.trans (List.Perm.swap v x []))
  exact .inr ⟨rfl,by simpa using this⟩
theorem Jx{a b p:Pl}(h:tw a b p<0):(eL (qE a b p)).Perm [[b,a],[a,p],[p,b]]:=by
 obtain⟨⟨u,v,w,e,_,_,pos⟩,pm⟩:=pO (a:=a) (b:=b) (c:=p) (by omega)
 rw[e]at pm ⊢
 have m:u∈[a,b,p]:=pm.mem_iff.mp (by simp)
 simp only[aat,aa7,or_false]at m
 rcases m with rfl|rfl|rfl
 ·rcases pX (List.Perm.cons_inv pm)with⟨rfl,rfl⟩|⟨rfl,rfl⟩
  ·omega
  ·show([[u,v],[v,w],[w,u]]:List (List Pl)).Perm [[w,u],[u,v],[v,w]]
   exact aaY (l₁:=[[u,v],[v,w]]) (l₂:=[[w,u]])
 ·rcases pX (List.Perm.cons_inv (pm.trans (List.Perm.swap u a [p])))with⟨rfl,rfl⟩|⟨rfl,rfl⟩
  ·exact .refl _
  ·have:=jc w u v
   omega
 ·rcases pX (List.Perm.cons_inv (pm.trans (aaY (l₁:=[a,b]) (l₂:=[u]))))with⟨rfl,rfl⟩|⟨rfl,rfl⟩
  ·have:=nF v w u
   omega
  ·show([[u,v],[v,w],[w,u]]:List (List Pl)).Perm [[v,w],[w,u],[u,v]]
   exact aaY (l₁:=[[u,v]]) (l₂:=[[v,w],[w,u]])
def Gu(p:Pl)(w:List Pl):List Pl:=qE (uO w) (xK w) p
def zp(qs:List Pl)(k:Nat):Pl:=qs.getD k ⟨0,0⟩
def qT(qs:List Pl):Nat->List (List Pl)
 |0=>[]
 |k+1=>qT qs k++(cE (qs.take k) (zp qs k)).map (Gu (zp qs k))
theorem Gv(xs ys:List (List Pl)):aS (xs++ys)=aS xs++aS ys:=abR
theorem vU{α β:Type}{f g:α->List β}:∀{l:List α},(∀x∈l,(f x).Perm (g x))->(l.flatMap f).Perm (l.flatMap g)
 |[],_=> .refl _
 |a::l,h=>by
  rw[abl,abl]
  exact(h a (by simp)).append (vU λx hx=>h x (aar _ hx))
theorem Gw{Q:List Pl}{p:Pl}(s:c8 Q):(aS ((cE Q p).map (Gu p))).Perm (newD Q p):=by
 unfold aS newD
 rw[List.flatMap_map]
 refine vU λw hw=>?_
 obtain⟨a,b,rfl⟩:=cF hw
 exact Jx ((bH s).mp hw).2
theorem pY{qs:List Pl}{k:Nat}(h:k<qs.length):qs.take (k+1)=qs.take k++[zp qs k]:=by
 rw[acr,aau h]
 unfold zp
 rw[aaZ,aau h]
 rfl
theorem c8.take{qs:List Pl}(s:c8 qs)(k:Nat):c8 (qs.take k):=⟨s.1.sublist (adH _ _),λq hq=>s.2 q (abO hq)⟩
theorem Cz{qs:List Pl}(s:c8 qs):∀k,k<=qs.length->Bc (qs.take k) (aS (qT qs k))
 |0,_=>Bc.nil (by simp)
 |k+1,h=>by
  have st:=s.take (k+1)
  rw[pY (by omega)]at st ⊢
  refine Bc.step st (Cz s k (by omega)) ?_
  show(aS (qT qs k++_)).Perm _
  rw[Gv]
  exact(List.Perm.refl _).append (Gw st.old)
theorem Jy{a b p q:Pl}(h:tw a b p<0)(hq:q=a\/q=b\/q=p):q∈qE a b p:=(pO (a:=a) (b:=b) (c:=p) (by omega)).2.mem_iff.mpr (by simpa using hq)
theorem tQ{qs:List Pl}(s:c8 qs):∀k,k<=qs.length->¬Flat (qs.take k)->∀q∈qs.take k,∃t∈qT qs k,q∈t
 |0,_,nf,_,_=>absurd (iB (by simp)) nf
 |k+1,h,nf,q,hq=>by
  have st:=s.take (k+1)
  rw[pY (by omega)]at st nf hq
  have so:=st.old
  have put:∀a b,bf (qs.take k) a b->tw a b (zp qs k)<0->(q=a\/q=b\/q=zp qs k)->∃t∈qT qs (k+1),q∈t:=λa b h1 h2 e=>
   ⟨Gu (zp qs k) [a,b],aaP _ (aaI.mpr ⟨[a,b],(bH so).mpr ⟨h1,h2⟩,rfl⟩),Jy h2 e⟩
  rcases eO hq with hq|rfl
  ·by_cases fl:Flat (qs.take k)
   ·obtain⟨r,hr,ne⟩:∃r∈qs.take k,r≠q:=by
     apply aaq
     intro no
     refine nf (zm ?_)
     have:=pS (l:=qs.take k) (m:=[q]) (so.1.imp λh=>kU h) (λx hx=>by
      apply aaq
      intro z
      exact no ⟨x,hx,λe=>z (by rw[e];simp)⟩)
     rw[aaA]
     simp at this ⊢
     omega
    obtain⟨c,hc,nc,_,Ql⟩:=xJ so hq hr ne
    have sd:bf (qs.take k) q c:=mD so fl hq hc (Ne.symm nc) λz hz w=>Ql z hz w
    have nz:tw q c (zp qs k)≠0:=λz=>nf (mC (Ne.symm nc) λr hr=>by
     rcases eO hr with hr|rfl
     ·exact fl q hq c hc r hr
     ·exact z)
    rcases abv nz with z|z
    ·exact put q c sd z (.inl rfl)
    ·exact put c q (vS so fl sd) (by have:=bY q c (zp qs k);omega) (.inr (.inl rfl))
   ·obtain⟨t,ht,m⟩:=tQ s k (by omega) fl q hq
    exact⟨t,aaH _ ht,m⟩
  ·obtain⟨a,b,h1,h2⟩:=vR st nf
   exact put a b h1 h2 (.inr (.inr rfl))
theorem sub_len{α:Type}[DecidableEq α]{l m:List α}(nd:l.Nodup)(sub:∀x∈l,x∈m):l.length<=m.length:=by
 induction l generalizing m with
 |nil=>simp
 |cons a l ih=>
  obtain⟨h1,h2⟩:=aaR.mp nd
  have ma:=sub a (aaG ..)
  have:=ih (m:=m.erase a) h2 λx hx=>(adu (show x≠a from λe=>h1 (e▸hx))).mpr (sub x (aar _ hx))
  rw[ac2 ma]at this
  have:0<m.length:=adm ma
  rw[aaX]
  omega
theorem split_len{α:Type}(f:α->Bool):∀l:List α,l.length=(l.filter f).length+(l.filter (λv=>!f v)).length
 |[]=>rfl
 |a::l=>by
  have ih:=split_len f l
  rw[abI,abI,aaX]
  cases f a with
  |true=>simp;omega
  |false=>simp;omega
theorem Jz{Q:List Pl}{p:Pl}(s:c8 (Q++[p])):(SL (Q++[p])).length+(cE Q p).length<=(SL Q).length+2:=by
 have so:=s.old
 obtain⟨I,lI,hI⟩:∃I:List (List Pl),I.length<=1/\∀u,bf (Q++[p]) u p->[u,p]∈I:=by
  by_cases h:∃u,bf (Q++[p]) u p
  ·obtain⟨u,hu⟩:=h
   exact⟨[[u,p]],by simp,λv hv=>by rw[Gr s hv hu];simp⟩
  ·exact⟨[],by simp,λv hv=>absurd ⟨v,hv⟩ h⟩
 obtain⟨O,lO,hO⟩:∃O:List (List Pl),O.length<=1/\∀u,bf (Q++[p]) p u->[p,u]∈O:=by
  by_cases h:∃u,bf (Q++[p]) p u
  ·obtain⟨u,hu⟩:=h
   exact⟨[[p,u]],by simp,λv hv=>by rw[K0 s hv hu];simp⟩
  ·exact⟨[],by simp,λv hv=>absurd ⟨v,hv⟩ h⟩
 have sp:=split_len (Ll p) (SL Q)
 have:=sub_len (l:=SL (Q++[p])) (m:=(SL Q).filter (λv=>!Ll p v)++(I++O)) (jz s) (λw hw=>by
  obtain⟨a,b,rfl⟩:=iC hw
  have sd:=(bX s).mp hw
  rcases eO sd.1 with ma|rfl
  ·rcases eO sd.2.1 with mb|rfl
   ·obtain⟨h1,h2⟩:=(iD s ma mb).mp sd
    refine aaH _ (aaw.mpr ⟨(bX so).mpr h1,?_⟩)
    show(!decide (tw a b p<0))=true
    rw[decide_eq_false (by omega)]
    rfl
   ·exact aaP _ (aaH _ (hI a sd))
  ·exact aaP _ (aaP _ (hO b sd)))
 rw[aaA,aaA]at this
 unfold cE
 omega
theorem CA{qs:List Pl}(s:c8 qs):∀k,k<=qs.length->∀t∈qT qs k,gK qs t
 |0,_,t,ht=>by cases ht
 |k+1,h,t,ht=>by
  rcases aaF.mp ht with ht|ht
  ·exact CA s k (by omega) t ht
  ·obtain⟨w,hw,rfl⟩:=aaI.mp ht
   obtain⟨a,b,rfl⟩:=cF hw
   obtain⟨h1,h2⟩:=(bH (s.take k)).mp hw
   obtain⟨h3,h4⟩:=pO (a:=a) (b:=b) (c:=zp qs k) (by omega)
   refine⟨h3,λq hq=>?_⟩
   have:=h4.mem_iff.mp hq
   simp only[aat,aa7,or_false]at this
   rcases this with rfl|rfl|rfl
   ·exact abO h1.1
   ·exact abO h1.2.1
   ·unfold zp
    rw[aaZ,aau (by omega)]
    exact ac4 _
end L3
namespace L3
def Xn(a b c:Pl):Prop:=aQ (lo a b) c/\aQ c (hi a b)/\tw a b c=0
instance(a b c:Pl):Decidable (Xn a b c):=inferInstanceAs (Decidable (_/\_))
def Xp(a b c d:Pl):Prop:=(tw a b c).sign*(tw a b d).sign= -1/\(tw c d a).sign*(tw c d b).sign= -1
instance(a b c d:Pl):Decidable (Xp a b c d):=inferInstanceAs (Decidable (_/\_))
end L3
namespace L3
open PySem L2
end L3
namespace PySem.SetTable
def Ub:Nat->SetTable->Probe->Probe
 |0,_,p=>p
 |k+1,t,p=>Ub k t (t.advance p)
def MP(mask:Nat):Prop:=mask=7\/mask=31\/mask=127\/mask=511
def Good(t:SetTable)(n:Nat):Prop:=t.place.size=n/\t.dummies= #[]/\MP t.mask/\n*5<t.mask*3
def live(mask:Nat)(owner:Array (Option Nat)):List (Nat ×Nat):=(List.range (mask+1)).filterMap λj=>(owner.getD j none).map (j,·)
def Own(mask:Nat)(owner:Array (Option Nat))(k:Nat):Prop:=owner.size=mask+1/\(live mask owner).length=k/\∀(j v:Nat),owner[j]?=some (some v)->v<k
end PySem.SetTable
namespace PySem
open SetTable
structure gg(prog:Program)(w:World)(κ:Type) where
 is:Heap->κ->Addr->Prop
 hash:κ->Int
 draws:κ->Nat
 room:Around->Prop
 typ:∀{s:Shared} {k:κ} {a:Addr},is s.heap k a->s.TypeIs (.ref a) "tuple"
 keeps:∀{h h':Heap} {k:κ} {a:Addr},is h k a->(∀b o,h.get? b=some o->o.cls= .type "tuple"->h'.get? b=some o)->is h' k a
 pyHash:∀{A:Around} {E:Value->Shared->Prop} {s:Shared} {k:κ} {a:Addr} {Q:Int->Shared->Prop},room A->is s.heap k a->Q (hash k) {s with toks:=s.toks+draws k}->wpAny (model prog w) A (pyHash (.ref a)) Q E s
 other:∀{A:Around} {E:Value->Shared->Prop} {s:Shared} {k l:κ} {a b:Addr} {Q:Bool->Shared->Prop},room A->is s.heap k a->is s.heap l b->k≠l->Q false s->wpAny (model prog w) A (eqBool (.ref a) (.ref b)) Q E s
 quiet:∀{A:Around} {E:Value->Shared->Prop} {s:Shared} {k:κ} {a:Addr} {Q:Bool->Shared->Prop},is s.heap k a->Q true s->wpAny (model prog w) A (eqIsQuiet 8 (.ref a)) Q E s
 CB:∀{A:Around} {E:Value->Shared->Prop} {s:Shared} {k:κ} {a:Addr} {Q:Bool->Shared->Prop},is s.heap k a->Q false s->wpAny (model prog w) A (ofAClassStatement 8 (.ref a)) Q E s
 K4:∀{A:Around} {E:Value->Shared->Prop} {s:Shared} {k:κ} {a:Addr} {Q:Bool->Shared->Prop},is s.heap k a->Q true s->wpAny (model prog w) A (hashByValue 8 (.ref a)) Q E s
section
variable{prog:Program}{w:World}{κ:Type}{T:gg prog w κ}{A:Around}{E:Value->Shared->Prop}{s:Shared}
end
end PySem
namespace PySem
open SetTable
section
variable{prog:Program}{w:World}{κ:Type}{T:gg prog w κ}{A:Around}{R:Result->Shared->Prop}{I:Addr}{fp wr:List Addr}{G:Array GenState->Array GenState->Prop}{n:Nat}{P:Nat->Value->Prop}{St:Nat->Shared->Prop}
end
section
variable{prog:Program}{w:World}{κ:Type}{T:gg prog w κ}{A:Around}{E:Value->Shared->Prop}{s:Shared}
end
end PySem
namespace PySem
open SetTable
section
variable{prog:Program}{w:World}{A:Around}{E:Value->Shared->Prop}{s:Shared}
end
end PySem
namespace L3
open PySem PySem.Spec PyProof.Rows L2
section
variable{X:Cx}{pos:Pos}
end
end L3
namespace PySem
open SetTable
section
variable(prog:Program)(w:World)
inductive cO(h:Heap):List (List Int)->List Value->Prop
 |nil:cO h [] []
 |cons {k:List Int} {b:Addr} {ks:List (List Int)} {vs:List Value}:IsTupleKey (intKind prog w) h k b->cO h ks vs->cO h (k::ks) (.ref b::vs)
def eS(h:Heap)(ks:List (List Int))(a:Addr):Prop:= ∃o items n,h.get? a=some o/\o.cls= .type "tuple"/\o.data= .seq items n/\cO prog w h ks items.toList
end
section
variable{prog:Program}{w:World}
theorem eS.typ{s:Shared}{ks:List (List Int)}{a:Addr}(x:eS prog w s.heap ks a):s.TypeIs (.ref a) "tuple" :=let ⟨o,_,_,ho,hc,_⟩:=x;⟨o,ho,hc⟩
variable{A:Around}{E:Value->Shared->Prop}{s:Shared}
def Bd(ks:List (List Int)):Nat:=(ks.map λk=>k.length+1).sum+1
def Gx(prog:Program)(w:World)(ks:List (List Int)):Int:=reduceHash (Builtin.Tuple.tupleHashOf (ks.map (tupleKeyHash (intKind prog w))))
theorem DR{ks:List (List Int)}{a:Addr}{Q:Int->Shared->Prop}(hu:A.units+8<cLine)(hk:eS prog w s.heap ks a)(h:Q (Gx prog w ks) {s with toks:=s.toks+Bd ks}) :
 wpAny (model prog w) A (pyHash (.ref a)) Q E s:=by
 have hT:=hk.typ
 obtain⟨o,items,n,ho,_,hd,hi⟩:=hk
 unfold pyHash pyHashByItsType
 refine wpAny_bind (wpAny_cRoomFor_or (.inr (by omega)) ?_)
 refine wpAny_bind (wpAny_specialOf hT F.slot_tuple_hash.lookup ?_)
 refine(?_:wpAny _ _ (if(some (Value.builtin "tuple.__hash__")==some Value.none)=true then _ else _) Q E s)
 rw[if_neg (by rw[beq_builtin_none];exact aaE)]
 refine wpAny_bind (wpAny_specialOf hT F.slot_tuple_hash.lookup ?_)
 refine(?_:wpAny _ _ (callSpecialIfBoundUnlessNone? (.ref a) "__hash__" _ >>= _) Q E s)
 refine wpAny_bind (wpAny_callSpecialIfBoundUnlessNone?_slot hT F.slot_tuple_hash (wpAny_call_entry F.slot_tuple_hash hT F.entry_tuple_hash ?_ (F.args_tuple_hash_1 _)))
 refine(?_:wpAny _ _ (Builtin.Tuple.tupleItemsOf (.ref a) >>= _) _ _ s)
 refine wpAny_bind (wpAny_tupleItemsOf ho hd (wpAny_bind ?_))
 rw[<-Array.forIn_toList]
 refine wpAny_forIn_list _ (λrest (b:Array Int) s'=>∃done left,ks=done++left/\cO prog w s.heap left rest/\b.toList=done.map (tupleKeyHash (intKind prog w))/\s'= {s with toks:=s.toks+(done.map λk=>k.length+1).sum}) _ ?_ ?_ _ _ ⟨[],ks,rfl,hi,rfl,rfl⟩
 ·rintro x rest b s' ⟨done,left,rfl,hl,hb,rfl⟩
  cases hl with
  |@cons k c ks' _ h1 hl'=>
   refine wpAny_bind (wpAny_pyHash_tuple (s:={s with toks:=s.toks+(done.map λk=>k.length+1).sum}) (by show A.units+1<cLine;omega) h1 ?_)
   have fin:∃Gy K5,done++k::ks'=Gy++K5/\cO prog w s.heap K5 rest/\(b.push (tupleKeyHash (intKind prog w) k)).toList=Gy.map (tupleKeyHash (intKind prog w))/\
    ({s with toks:=s.toks+(done.map λk=>k.length+1).sum+(k.length+1)}:Shared)= {s with toks:=s.toks+(Gy.map λk=>k.length+1).sum}:=
    ⟨done++[k],ks',by simp,hl',by simp[hb],by simp[adz]⟩
   first
    |exact wpAny_pure fin
    |exact wpAny_bind (wpAny_pure (wpAny_pure fin))
 ·rintro b s' ⟨done,left,rfl,hl,hb,rfl⟩
  cases hl
  rw[abf]at h
  refine(?_:wpAny _ _ (retInt (Builtin.Tuple.tupleHashOf b.toList)) _ _ _)
  rw[hb]
  refine wpAny_ret_mkInt ?_
  unfold Gx reduceHash Bd at h
  generalize Builtin.Tuple.tupleHashOf (done.map (tupleKeyHash (intKind prog w)))=z at h ⊢
  refine(?_:wpAny _ _ (if(decide (-(2:Int) ^ 63<=z) && decide (z<2 ^ 63))=true then _ else _) Q E _)
  by_cases c:(decide (-(2:Int) ^ 63<=z) && decide (z<2 ^ 63))=true
  ·rw[if_pos c]at h ⊢
   exact wpAny_pure (by simpa[adz]using h)
  ·rw[if_neg c]at h ⊢
   exact wpAny_bind (wpAny_rule (wpAny_pure (by simpa[adz]using h)))
theorem zq{x y:List (List Int)}{a b:Addr}{P:Fin->Shared->Prop}(hu:A.units+4<cLine)(hx:eS prog w s.heap x a)(hy:eS prog w s.heap y b)(h:P (.done (.ret (.bool (decide (x=y))))) s) :
 wpAny (model prog w) A (Builtin.«tuple.__eq__» ⟨[.ref a,.ref b],[]⟩) P E s:=by
 have hTb:=hy.typ
 obtain⟨oa,xs,na,hoa,_,hda,Xq⟩:=hx
 obtain⟨ob,ys,nb,hob,_,hdb,hib⟩:=hy
 refine(?_:wpAny _ _ (isInstance (.ref b) (.type "tuple") >>= _) _ _ s)
 refine wpAny_bind (wpAny_isInstance hTb isSubtype_tuple_tuple ?_)
 simp only[abk,aaD,if_false]
 refine wpAny_bind (wpAny_tupleItemsOf hoa hda (wpAny_bind (wpAny_tupleItemsOf hob hdb (wpAny_bind ?_))))
 refine wpAny_forIn_list _ (λrest r s'=>r.1=none/\s'=s/\∃x' y' us vs,rest=List.zip us vs/\cO prog w s.heap x' us/\cO prog w s.heap y' vs/\decide (x'=y')=decide (x=y)/\(us.length==vs.length)=(xs.size==ys.size)) _ ?_ ?_ _ _ ⟨rfl,rfl,x,y,xs.toList,ys.toList,rfl,Xq,hib,rfl,by simp⟩
 ·rintro⟨u,v⟩ rest r s' ⟨hr,rfl,x',y',us,vs,hz,hx',hy',JA,hlen⟩
  cases hx' with
  |nil=>simp at hz
  |@cons k1 c1 Vw us' h1 Uc=>
   cases hy' with
   |nil=>simp at hz
   |@cons k2 c2 Vx vs' h2 Ud=>
    simp only[abL,List.cons.injEq,Prod.mk.injEq]at hz
    obtain⟨⟨rfl,rfl⟩,rfl⟩:=hz
    refine wpAny_bind (wpAny_eqBool_tuple (by omega) h1 h2 ?_)
    by_cases hk:k1=k2
    ·subst hk
     rw[decide_eq_true rfl]
     simp only[abk,aaD,if_false]
     refine wpAny_pure ⟨rfl,rfl,Vw,Vx,us',vs',rfl,Uc,Ud,?_,by simpa using hlen⟩
     rw[<-JA]
     by_cases c:Vw=Vx<;>simp[c]
    ·rw[decide_eq_false hk]
     simp only[abS,if_true]
     rw[show decide (x=y)=false by rw[<-JA];simp[hk]]at h
     exact wpAny_bind (wpAny_pure (wpAny_pure (wpAny_pure h)))
 ·rintro⟨r1,r2⟩ s' ⟨hr,rfl,x',y',us,vs,hz,hx',hy',JA,hlen⟩
  simp only at hr
  subst hr
  refine wpAny_pure ?_
  have Ue:(xs.size==ys.size)=decide (x=y):=by
   rw[<-JA,<-hlen]
   cases hx' with
   |nil=>cases hy'<;>simp
   |cons _ _=>
    cases hy' with
    |nil=>simp
    |cons _ _=>simp at hz
  refine(?_:P (.done (.ret (.bool (xs.size==ys.size)))) s')
  rw[Ue]
  exact h
theorem cO.inj{h:Heap}{x y:List (List Int)}{vs:List Value}(hx:cO prog w h x vs)(hy:cO prog w h y vs):x=y:=by
 induction hx generalizing y with
 |nil=>cases hy;rfl
 |cons h1 _ ih=>
  cases hy with
  |cons h2 t2=>rw[h1.inj h2,ih t2]
theorem eS.inj{h:Heap}{a:Addr}{x y:List (List Int)}(hx:eS prog w h x a)(hy:eS prog w h y a):x=y:=by
 obtain⟨o,items,n,ho,_,hd,hi⟩:=hx
 obtain⟨o',items',n',ho',_,hd',hi'⟩:=hy
 rw[ho]at ho'
 cases ho'
 rw[hd]at hd'
 injection hd' with h1 _
 subst h1
 exact hi.inj hi'
theorem MQ{x y:List (List Int)}{a b:Addr}{Q:Bool->Shared->Prop}(hu:A.units+8<cLine)(hx:eS prog w s.heap x a)(hy:eS prog w s.heap y b)(ne:x≠y)(h:Q false s) :
 wpAny (model prog w) A (eqBool (.ref a) (.ref b)) Q E s:=by
 unfold eqBool
 try with_reducible refine wpAny_holding ?_
 refine(?_:wpAny _ _ (if(Value.ref a==Value.ref b)=true then _ else _) Q E s)
 by_cases hab:(Value.ref a==Value.ref b)=true
 ·have e:a=b:=by have:=eq_of_beq hab;injection this
  subst e
  exact absurd (hx.inj hy) ne
 ·rw[if_neg hab]
  exact wpAny_bind (wpAny_richCompare_same_room (op:= .Eq) hx.typ hy.typ F.slot_tuple_eq
   (wpAny_call_entry F.slot_tuple_eq hx.typ F.entry_tuple_eq (zq (by show A.units+1+4<cLine;omega) hx hy (by rw[decide_eq_false ne];exact⟨_,rfl,(λe=>nomatch e),wpAny_truthy_bool h⟩)) (F.args_tuple_eq_2 _ _)) (by omega))
theorem Gz(d:Nat){k:List Int}{a:Addr}{Q:Bool->Shared->Prop}(hx:IsTupleKey (intKind prog w) s.heap k a)(q:Q true s):wpAny (model prog w) A (eqIsQuiet (d+1) (.ref a)) Q E s:=by
 have hT:=hx.typeIs
 obtain⟨o,items,n,ho,_,hd,hi⟩:=hx
 unfold eqIsQuiet
 refine wpAny_bind (wpAny_specialOf hT F.slot_tuple_eq.lookup ?_)
 refine(?_:wpAny _ _ (isInstance (.ref a) (.type "tuple") >>= _) _ _ s)
 refine wpAny_bind (wpAny_isInstance hT isSubtype_tuple_tuple ?_)
 simp only[abk,aaD,if_false]
 refine wpAny_bind (wpAny_seqItems ho hd (wpAny_bind ?_))
 refine(?_:wpAny _ _ (forIn items _ _) _ _ s)
 rw[<-Array.forIn_toList]
 refine wpAny_forIn_list _ (λrest r s'=>r.1=none/\s'=s/\∀v∈rest,carriedByValue v=true) _ ?_ ?_ _ _ ⟨rfl,rfl,hi.byValue⟩
 ·rintro v rest r s' ⟨hr,rfl,hall⟩
  rw[eqIsQuiet_byValue _ (hall v aaG)]
  refine wpAny_bind (wpAny_pure ?_)
  simp only[abk,aaD,if_false]
  exact wpAny_pure ⟨rfl,rfl,λu kj=>hall u (aar _ kj)⟩
 ·rintro⟨r1,r2⟩ s' ⟨hr,rfl,_⟩
  simp only at hr
  subst hr
  exact wpAny_pure q
theorem cO.all{h:Heap}{x:List (List Int)}{vs:List Value}(hx:cO prog w h x vs):∀v∈vs,∃b k,v= .ref b/\IsTupleKey (intKind prog w) h k b:=by
 induction hx with
 |nil=>intro v hv;cases hv
 |cons h1 _ ih=>
  intro v hv
  rcases aat.mp hv with rfl|hv
  ·exact⟨_,_,rfl,h1⟩
  ·exact ih v hv
theorem MR{k:List (List Int)}{a:Addr}{Q:Bool->Shared->Prop}(hx:eS prog w s.heap k a)(q:Q true s):wpAny (model prog w) A (eqIsQuiet 8 (.ref a)) Q E s:=by
 have hT:=hx.typ
 obtain⟨o,items,n,ho,_,hd,hi⟩:=hx
 unfold eqIsQuiet
 refine wpAny_bind (wpAny_specialOf hT F.slot_tuple_eq.lookup ?_)
 refine(?_:wpAny _ _ (isInstance (.ref a) (.type "tuple") >>= _) _ _ s)
 refine wpAny_bind (wpAny_isInstance hT isSubtype_tuple_tuple ?_)
 simp only[abk,aaD,if_false]
 refine wpAny_bind (wpAny_seqItems ho hd (wpAny_bind ?_))
 refine(?_:wpAny _ _ (forIn items _ _) _ _ s)
 rw[<-Array.forIn_toList]
 refine wpAny_forIn_list _ (λrest r s'=>r.1=none/\s'=s/\∀v∈rest,∃b k,v=Value.ref b/\IsTupleKey (intKind prog w) s.heap k b) _ ?_ ?_ _ _ ⟨rfl,rfl,hi.all⟩
 ·rintro v rest r s' ⟨hr,rfl,hall⟩
  obtain⟨b,k,rfl,hb⟩:=hall v aaG
  refine wpAny_bind (Gz 6 hb ?_)
  simp only[abk,aaD,if_false]
  exact wpAny_pure ⟨rfl,rfl,λu kj=>hall u (aar _ kj)⟩
 ·rintro⟨r1,r2⟩ s' ⟨hr,rfl,_⟩
  simp only at hr
  subst hr
  exact wpAny_pure q
end
end PySem
namespace L3
open PySem PySem.Spec PyProof.Rows L2
def lD(w:List Pl):List (List Int):=w.map λp=>[p.x,p.y]
section
variable{X:Cx}{pos:Pos}
end
end L3
namespace PySem.SetTable
def Qm(xs:Array Nat):Prop:= ∀(i j a b:Nat),i<j->xs[i]?=some a->xs[j]?=some b->a<b
def Xr(t:SetTable)(j:Nat):Prop:= ∃i:Nat,t.place[i]?=some j
def Way(t:SetTable)(Xs:Nat->Prop)(h:Int)(j:Nat):Prop:= ∃K,K<10*turns t.mask/\(Ub K t (t.probeStart h)).j=j/\∀m,m<K->Xs (Ub m t (t.probeStart h)).j
structure Reach(t:SetTable)(es:Array (Int ×Value)):Prop where
 rise:Qm t.place
 at_:∀(i:Nat) (e:Int ×Value),es[i]?=some e->∃j,t.place[i]?=some j/\Way t (Xr t) e.1 j
def Ug(owner:Array (Option Nat))(x:Nat):Prop:= ∃v,owner[x]?=some (some v)
structure Laid(t:SetTable)(owner:Array (Option Nat))(done:List Int):Prop where
 own:Own t.mask owner done.length
 way:∀(j v:Nat),owner[j]?=some (some v)->∃h,done[v]?=some h/\Way t (Ug owner) h j
 all:∀v,v<done.length->∃j:Nat,owner[j]?=some (some v)
end PySem.SetTable
namespace PySem
open SetTable
structure RC{prog:Program}{w:World}{κ:Type}(T:gg prog w κ):Prop where
 same:∀{A:Around} {E:Value->Shared->Prop} {s:Shared} {k:κ} {a b:Addr} {Q:Bool->Shared->Prop},T.room A->T.is s.heap k a->T.is s.heap k b->Q true s->wpAny (model prog w) A (eqBool (.ref a) (.ref b)) Q E s
section
variable{prog:Program}{w:World}{κ:Type}{T:gg prog w κ}{A:Around}{E:Value->Shared->Prop}{s:Shared}
end
end PySem
namespace PySem
open SetTable
section
variable{prog:Program}{w:World}{κ:Type}{T:gg prog w κ}{A:Around}{R:Result->Shared->Prop}{I:Addr}{fp wr:List Addr}{G:Array GenState->Array GenState->Prop}{n:Nat}{P:Nat->Value->Prop}{St:Nat->Shared->Prop}
end
section
variable{prog:Program}{w:World}{κ:Type}{T:gg prog w κ}{A:Around}{E:Value->Shared->Prop}{s:Shared}
end
end PySem
namespace PySem
open SetTable
namespace F
end F
structure Xu(w:World)(h:Heap)(S:Addr)(es:Array (Int ×Value))(ep:Nat)(t:SetTable):Prop where
 at':∃o,h.get? S=some o/\o.ExactSet/\o.data= .set es ep t
 good:t.Good es.size
 rise:Qm t.place
 led:t.led=!(w.params.followText "set-order")
 plain:t.plain=true
section
variable{prog:Program}{w:World}{A:Around}{E:Value->Shared->Prop}{s:Shared}{I S:Addr}{es:Array (Int ×Value)}{ep slot i:Nat}{t:SetTable}
end
end PySem
namespace PySem
open SetTable
section
variable{prog:Program}{w:World}{A:Around}{E:Value->Shared->Prop}{s:Shared}{S:Addr}{es:Array (Int ×Value)}{ep:Nat}{t:SetTable}
end
end PySem
namespace PySem
open SetTable
def gg.only{prog:Program}{w:World}{κ:Type}(T:gg prog w κ)(p:Addr->Prop):gg prog w κ where
 is:=λh k b=>T.is h k b/\p b
 hash:=T.hash
 draws:=T.draws
 room:=T.room
 typ:=λx=>T.typ x.1
 keeps:=λx k=>⟨T.keeps x.1 k,x.2⟩
 pyHash:=λhu hk h=>T.pyHash hu hk.1 h
 other:=λhu hx hy ne h=>T.other hu hx.1 hy.1 ne h
 quiet:=λhk h=>T.quiet hk.1 h
 CB:=λhk h=>T.CB hk.1 h
 K4:=λhk h=>T.K4 hk.1 h
theorem Qn{prog:Program}{w:World}{A:Around}{E:Value->Shared->Prop}{s:Shared}{x:List (List Int)}{a b:Addr}{Q:Bool->Shared->Prop}(hu:A.units+8<cLine)(hx:eS prog w s.heap x a)(hy:eS prog w s.heap x b)(h:Q true s) :
 wpAny (model prog w) A (eqBool (.ref a) (.ref b)) Q E s:=by
 unfold eqBool
 try with_reducible refine wpAny_holding ?_
 refine(?_:wpAny _ _ (if(Value.ref a==Value.ref b)=true then _ else _) Q E s)
 by_cases hab:(Value.ref a==Value.ref b)=true
 ·rw[if_pos hab]
  exact(wpAny_pure h:wpAny (model prog w) A (pure true) Q E s)
 ·rw[if_neg hab]
  exact wpAny_bind (wpAny_richCompare_same_room (op:= .Eq) hx.typ hy.typ F.slot_tuple_eq
   (wpAny_call_entry F.slot_tuple_eq hx.typ F.entry_tuple_eq (zq (by show A.units+1+4<cLine;omega) hx hy (by rw[decide_eq_true rfl];exact⟨_,rfl,(λe=>nomatch e),wpAny_truthy_bool h⟩)) (F.args_tuple_eq_2 _ _)) (by omega))
end PySem
namespace L3
open PySem PySem.Spec PyProof.Rows L2
end L3
namespace L3
open PySem PySem.Spec PyProof.Rows L2
section
variable{X:Cx}{pos:Pos}
end
end L3
namespace PySem
theorem cO.MS{prog:Program}{w:World}{h h':Heap}{ks:List (List Int)}{vs:List Value}{d:Addr}{o:Obj}{es:Array DictEntry}{ep:Nat}(x:cO prog w h ks vs)(ho:h.get? d=some o)(hd:o.data= .dict es ep)(hs:Heap.SameBut d h h'):cO prog w h' ks vs:=by
 induction x with
 |nil=>exact .nil
 |cons a _ ih=>exact .cons (a.keeps ho hd hs) ih
def lE(prog:Program)(w:World):HeapKind prog w (List (List Int)) where
 is:=eS prog w
 hash:=Gx prog w
 draws:=Bd
 room:=λA=>A.units+8<cLine
 inj:=λhx hy=>hx.inj hy
 keeps:=λ{h h' k a d o es ep} x ho hd hs=>by
  obtain⟨o',items,n,ho',hc,hd',hi⟩:=x
  have hne:a≠d:=by
   rintro rfl
   obtain rfl:o'=o:=Option.some.inj (ho'.symm.trans ho)
   rw[hd]at hd';exact nomatch hd'
  exact⟨o',items,n,(hs.2 a hne).trans ho',hc,hd',hi.MS ho hd hs⟩
 pyHash:=λhu hk h=>DR hu hk h
 eqBool:=λ{A E s x y a b Q} hu hx hy h=>by
  by_cases e:x=y
  ·subst e
   rw[decide_eq_true rfl]at h
   exact Qn hu hx hy h
  ·rw[decide_eq_false e]at h
   exact MQ hu hx hy e h
 quiet:=λhk h=>MR hk h
def CC{prog:Program}{w:World}{K:Type}[DecidableEq K](knd:HeapKind prog w K)(h:Heap)(d:Addr)(xs:List (K ×Addr ×Value)):Prop:= ∃o es,h.get? d=some o/\o.ExactDict/\o.data= .dict es xs.length/\es.toList=xs.map (entryOfKey knd)
theorem GA{prog:Program}{w:World}{K:Type}[DecidableEq K]{knd:HeapKind prog w K}{A:Around}{E:Value->Shared->Prop}{s:Shared}{d a:Addr}{k:K}{v:Value}{xs:List (K ×Addr ×Value)}{Q:Unit->Shared->Prop}(hu:knd.room A)(hkey:knd.is s.heap k a)(hl:CC knd s.heap d xs)(hm:s.heap.DictOfH knd d xs)(hsz:xs.length<=sizeLine)
 (q:∀h',CC knd h' d (storedH xs k a v)->Heap.SameBut d s.heap h'->Q () {s with heap:=h',toks:=s.toks+knd.draws k}):wpAny (model prog w) A (dictSet d (.ref a) v) Q E s:=by
 obtain⟨_,_,_,_,_,_,_,his,hn⟩:=hm
 obtain⟨o,es,ho,hc,hd,he⟩:=hl
 unfold dictSet
 try with_reducible refine wpAny_holding ?_
 refine wpAny_bind (knd.pyHash hu hkey ?_)
 unfold dictSetHashed
 try with_reducible refine wpAny_holding ?_
 refine wpAny_bind (wpAny_dictFind_heap (s:={s with toks:=s.toks+knd.draws k}) hu hkey ho hd he his hn (λno=>?_) λj p hj=>?_)
 ·have e:=storedH_new (atKey_none_of_get no) a v
  have el:xs.length+1=(storedH xs k a v).length:=by rw[e,aaA];rfl
  refine wpAny_bind (wpAny_rule (wpAny_updateDictKeys (hz:=by have e:=size_of_entries he;omega) (s:={s with toks:=s.toks+knd.draws k}) ho hd (q _ ⟨_,_,Heap.get?_update_self _ ho (Obj.isFreed_of_dict (Obj.data_mapDictKeys hd _)),hc.mapDictKeys _,(Obj.data_mapDictKeys hd _).trans (congrArg (λn=>Data.dict _ n) el),?_⟩ (Heap.SameBut.update ..))))
  rw[e]
  simp[he,entryOfKey]
 ·have e:=storedH_old (atKey_of_get hn hj) a v
  have el:xs.length=(storedH xs k a v).length:=by rw[e,aas]
  refine wpAny_bind (wpAny_rule (wpAny_bind (wpAny_updateDict (s:={s with toks:=s.toks+knd.draws k}) ho hd (wpAny_point (q _ ⟨_,_,Heap.get?_update_self _ ho (Obj.isFreed_of_dict (Obj.data_mapDict hd _)),hc.mapDict _,(Obj.data_mapDict hd _).trans (congrArg (λn=>Data.dict _ n) el),?_⟩ (Heap.SameBut.update ..))))))
  rw[e]
  have:=modify_map_putAt (entryOfKey knd) (λe:DictEntry=>{e with val:=v}) k v (λ_ _=>rfl) hn hj
  rw[<-he]at this
  obtain⟨l⟩:=es
  simpa using this
theorem zu{prog:Program}{w:World}{K:Type}[DecidableEq K]{knd:HeapKind prog w K}{A:Around}{E:Value->Shared->Prop}{s:Shared}{d a:Addr}{k:K}{v:Value}{xs:List (K ×Addr ×Value)}{Q:Unit->Shared->Prop}(hu:knd.room A.in1)(hkey:knd.is s.heap k a)(hl:CC knd s.heap d xs)(hm:s.heap.DictOfH knd d xs)(hsz:xs.length<=sizeLine)
 (q:∀h',CC knd h' d (storedH xs k a v)->Heap.SameBut d s.heap h'->Q () {s with heap:=h',toks:=s.toks+knd.draws k}):wpAny (model prog w) A (setItem (.ref d) (.ref a) v) Q E s:=by
 unfold setItem
 try with_reducible refine wpAny_holding ?_
 refine wpAny_bind (wpAny_sequenceKey hm.typeIs (by decide) (wpAny_bind (wpAny_callSpecial?_slot (name:=Str.ofString "__setitem__") hm.typeIs slot_dict_setitem (wpAny_call_entry slot_dict_setitem hm.typeIs entry_dict_setitem ?_ (args_dict_setitem _ _ _)))))
 show wpAny _ _ (Builtin.Dict.notOrdered "__setitem__" ⟨[.ref d,.ref a,v],[]⟩ >>= _) _ _ s
 refine wpAny_bind (wpAny_notOrdered_dict hm.typeIs ?_)
 show wpAny _ _ (dictSet d (.ref a) v >>= _) _ _ s
 exact wpAny_bind (GA hu hkey hl hm hsz λh' l m=>wpAny_pure ⟨.none,rfl,wpAny_pure (q h' l m)⟩)
theorem tR{prog:Program}{w:World}{K:Type}[DecidableEq K]{knd:HeapKind prog w K}{A:Around}{E:Value->Shared->Prop}{s:Shared}{d a:Addr}{k:K}{xs:List (K ×Addr ×Value)}{Q:Value->Shared->Prop}(hu:knd.room A.in1)(hkey:knd.is s.heap k a)(hd:(d==sysModules)=false)(hm:s.heap.DictOfH knd d xs)
 (h:Q (.bool (!(atKey xs k).isSome)) {s with toks:=s.toks+knd.draws k}):wpAny (model prog w) A (compareOp .NotIn (.ref a) (.ref d)) Q E s:=by
 show wpAny _ _ (do return .bool (!(<-contains (.ref d) (.ref a)))) Q E s
 refine wpAny_bind ?_
 unfold contains
 try with_reducible refine wpAny_holding ?_
 refine wpAny_bind (wpAny_specialOf hm.typeIs slot_dict_contains.lookup ?_)
 show wpAny _ _ (if(some (Value.builtin "dict.__contains__")==some Value.none)=true then _ else _) _ E s
 rw[if_neg (by rw[beq_builtin_none];exact aaE)]
 refine wpAny_bind (wpAny_callSpecialUnlessNone?_slot (name:=Str.ofString "__contains__") hm.typeIs slot_dict_contains
  (wpAny_call_entry slot_dict_contains hm.typeIs entry_dict_contains ?_ (args_dict_contains _ _)))
 show wpAny _ _ (dictGet d (.ref a) >>= _) _ _ s
 refine wpAny_bind (wpAny_dictGet_heap hu hkey hm ?_)
 cases hf:atKey xs k with
 |some p=>
  rw[hf]at h
  show wpAny _ _ (ret (.bool true)) _ _ _
  exact wpAny_pure ⟨_,rfl,wpAny_truthy_bool (wpAny_pure h)⟩
 |none=>
  rw[hf]at h
  show wpAny _ _ (Builtin.Dict.pendingKey? d (.ref a) >>= _) _ _ _
  exact wpAny_bind (wpAny_pendingKey_other hd (wpAny_pure ⟨_,rfl,wpAny_truthy_bool (wpAny_pure h)⟩))
end PySem
namespace L3
open PySem PySem.Spec PyProof.Rows L2
def qG(kvs:List (List (List Int) ×D))(k:List (List Int)):Option D:=(kvs.find? λp=>decide (p.1=k)).map (·.2)
def vV(kvs:List (List (List Int) ×D))(k:List (List Int))(d:D):List (List (List Int) ×D):=if(qG kvs k).isSome then kvs.map λp=>if p.1=k then(p.1,d)else p else kvs++[(k,d)]
theorem GB{P:Program}{w:World}{K:PySem.W.Frag}{H:Hp}{h:Heap}(ok:iR P w H h){l:List Int}{v:V}{u:Value}(d:Dat K H (.tup (l.map .int)) v)(r:RelV v u):∃b,u= .ref b/\IsTupleKey (intKind P w) h l b:=by
 obtain⟨a,xs,rfl,ha,hx⟩:=br.mp d
 obtain rfl:u=Value.ref a:=r
 obtain⟨its,rv,⟨o,h1,h2,n,h3⟩,hsz⟩:=eF ok ha
 refine⟨a,rfl,o,its.toArray,n,h1,h2,h3,?_⟩
 rw[ab0]
 clear h3 h2 h1 ha d hsz
 induction l generalizing xs its with
 |nil=>
  rw[aM.mp hx]at rv
  cases rv
  exact .nil
 |cons i l ih=>
  obtain⟨v,vs,rfl,d1,d2⟩:=aC.mp hx
  cases rv with
  |cons r1 r2=>
   obtain rfl:=aX.mp d1
   obtain⟨t,rfl⟩:=r1
   exact .cons (intKind_is _ _ _ _) (ih _ d2 _ r2)
theorem xN{P:Program}{w:World}{K:PySem.W.Frag}{H:Hp}{h:Heap}(ok:iR P w H h){k:List (List Int)}{b:Addr}(d:Dat K H (kD k) (.ref b)):eS P w h k b:=by
 obtain⟨a,xs,e,ha,hx⟩:=br.mp d
 cases e
 obtain⟨its,rv,⟨o,h1,h2,n,h3⟩,hsz⟩:=eF ok ha
 refine⟨o,its.toArray,n,h1,h2,h3,?_⟩
 rw[ab0]
 clear h3 h2 h1 ha d hsz
 induction k generalizing xs its with
 |nil=>
  rw[show([]:List (List Int)).map (λl=>D.tup (l.map .int))=[]from rfl]at hx
  rw[aM.mp hx]at rv
  cases rv
  exact .nil
 |cons l k ih=>
  rw[aaV]at hx
  obtain⟨v,vs,rfl,d1,d2⟩:=aC.mp hx
  cases rv with
  |cons r1 r2=>
   obtain⟨b,rfl,q⟩:=GB ok d1 r1
   exact .cons q (ih _ d2 _ r2)
theorem tS{α β:Type}{F:α->β->Prop}:∀{l₁:List α} {l₂:List β},Paired F l₁ l₂->∀y∈l₂,∃x∈l₁,F x y
 |_,_,.nil,y,m=>by cases m
 |_,_,.cons r t,y,m=>by
  rcases aat.mp m with rfl|m
  ·exact⟨_,aaG,r⟩
  ·obtain⟨x,m1,q⟩:=tS t y m
   exact⟨x,aar _ m1,q⟩
theorem iE{α β:Type}{F:α->β->Prop}:∀{l₁:List α} {l₂:List β},Paired F l₁ l₂->l₁.length=l₂.length
 |_,_,.nil=>rfl
 |_,_,.cons _ t=>by simp[iE t]
theorem Be{P:Program}{w:World}{K:PySem.W.Frag}{H:Hp}{h:Heap}(ok:iR P w H h){a:Addr}{xs:DX}{kvs:List (List (List Int) ×D)}(hH:H a=some (.ext (jt a xs)))(nd:(xs.map (·.1)).Nodup)(pk:Paired (j9 K H) kvs xs):h.DictOfH (lE P w) a xs:=by
 obtain⟨⟨o,es,h1,h2,h3,h4⟩,_⟩:=(show cj P w H h a (.ext (jt a xs))from ok a _ hH)
 refine⟨o,es,_,h1,h2,h3,h4,λx m=>?_,nd⟩
 obtain⟨p,_,e,q,_⟩:=tS pk x m
 rw[<-e]
 exact xN ok q
theorem oK{K:PySem.W.Frag}{H:Hp}(k:List (List Int)):∀{kvs:List (List (List Int) ×D)} {xs:DX},Paired (j9 K H) kvs xs->(qG kvs k=none/\atKey xs k=none)\/∃d p v,qG kvs k=some d/\atKey xs k=some p/\Dat K H d v/\RelV v p.2
 |_,_,.nil=> .inl ⟨rfl,rfl⟩
 |_,_,.cons (a:=p) (b:=x) r t=>by
  obtain⟨e,_,v,dv,rv⟩:=r
  unfold qG atKey
  rw[adn,adn,<-e]
  by_cases c:p.1=k
  ·rw[decide_eq_true c]
   exact .inr ⟨p.2,x.2,v,rfl,rfl,dv,rv⟩
  ·rw[decide_eq_false c]
   exact oK k t
theorem GC{K:PySem.W.Frag}{H:Hp}{k:List (List Int)}{a:Addr}{d:D}{v:V}{u:Value}(hk:Dat K H (kD k) (.ref a))(hd:Dat K H d v)(r:RelV v u){kvs:List (List (List Int) ×D)}{xs:DX}(pk:Paired (j9 K H) kvs xs):Paired (j9 K H) (vV kvs k d) (storedH xs k a u):=by
 have app:∀{l₁:List (List (List Int) ×D)} {l₂:DX},Paired (j9 K H) l₁ l₂->Paired (j9 K H) (l₁++[(k,d)]) (l₂++[(k,a,u)]):=by
  intro l₁ l₂ p
  induction p with
  |nil=>exact .cons ⟨rfl,hk,v,hd,r⟩ .nil
  |cons q _ ih=>exact .cons q ih
 have rep:∀{l₁:List (List (List Int) ×D)} {l₂:DX},Paired (j9 K H) l₁ l₂->Paired (j9 K H) (l₁.map λp=>if p.1=k then(p.1,d)else p) (l₂.map (putAt k u)):=by
  intro l₁ l₂ p
  induction p with
  |nil=>exact .nil
  |@cons p x _ _ q _ ih=>
   refine .cons ?_ ih
   obtain⟨e,q1,q2⟩:=q
   unfold putAt
   dsimp only
   rw[<-e]
   by_cases c:p.1=k
   ·rw[if_pos c,if_pos c]
    exact⟨rfl,q1,v,hd,r⟩
   ·rw[if_neg c,if_neg c]
    exact⟨e,q1,q2⟩
 unfold vV
 rcases oK k pk with⟨h1,h2⟩|⟨z,p,_,h1,h2,_⟩
 ·rw[h1,storedH_new h2]
  exact app pk
 ·rw[h1,storedH_old h2]
  exact rep pk
section
variable{X:Cx}{pos:Pos}{a b:Expr}{ta tb:dg}
theorem JB{pins:List (Addr ×Obj)}{σ:St}{H:Hp}{s:Shared}(I:Inv X pins σ H s):sysModules<s.heap.objs.size:=Nat.lt_trans (show sysModules<mainGlobals by decide) (I.mod.glob.keeps I.bk).lt
def MT:dg:=λ_ M Q=> ∀p,M p=none->Q (.ref p) (ay M p (.mQ []))
theorem MU:cH X (.Dict [] [] pos) MT:=by
 constructor
 intro pins s σ H ρ M Q I r h
 have fr:H s.heap.objs.size=none:=I.hok.fresh (aaz _)
 refine wpAny_Dict_empty ⟨.ref s.heap.objs.size,_,I.laid (a:=s.heap.objs.size) (o:= .ext (jt s.heap.objs.size [])) (t':=s.toks) (λ_ _ q=>Heap.get?_push_of_some _ q) (aaz _) ⟨⟨_,#[],Heap.get?_push_size _ rfl,⟨rfl,rfl,rfl⟩,rfl,rfl⟩,⟨_,Heap.get?_push_size _ rfl⟩,?_⟩,rfl,.ref _,ay M _ (.mQ []),Fr.new fr λ_ hb=>aK hb,aA.mpr rfl,r.mem.newD fr (beq_eq_false_iff_ne.mpr (Ne.symm (aaN (JB I)))),h _ (r.mem.free fr)⟩
 rintro h1 h2 ⟨o,es,e,q⟩ k
 exact⟨o,es,k o e,q⟩
def GD(neg:Bool):R3:=λd e M Q=>∃a k kvs,d=kD k/\e= .ref a/\M a=some (.mQ kvs)/\Q (.bl (neg !=(qG kvs k).isSome)) M
theorem xP{K:PySem.W.Frag}{H:Hp}{k:List (List Int)}{v:V}(d:Dat K H (kD k) v):∃b,v= .ref b:=by
 obtain⟨b,_,e,_⟩:=br.mp d
 exact⟨b,e⟩
theorem JC(hu:X.A.units+64<cLine):mS X (compareOp .In) (GD false):=by
 constructor
 intro pins s σ H M x y d e v u Q I rm rx ry dx dy ⟨a,k,kvs,e1,e2,hM,q⟩
 subst e1;subst e2
 obtain⟨b,rfl⟩:=xP dx
 obtain rfl:=aA.mp dy
 obtain rfl:v=Value.ref b:=rx
 obtain rfl:u=Value.ref a:=ry
 obtain⟨xs,hH,hy,nd,pk⟩:=rm.mQ hM
 refine wpAny_in_heap (knd:=lE X.prog X.w) (by show X.A.units+1+8<cLine;omega) (xN I.hok dx) hy (Be I.hok hH nd pk) ⟨.bl _,H,I.tok _,rfl,aH rm (bq.mpr rfl) ?_⟩
 rcases oK k pk with⟨h1,h2⟩|⟨_,p,_,h1,h2,_⟩
 ·rw[h2];rw[h1]at q;exact q
 ·rw[h2];rw[h1]at q;exact q
theorem Bf(hu:X.A.units+64<cLine):mS X (compareOp .NotIn) (GD true):=by
 constructor
 intro pins s σ H M x y d e v u Q I rm rx ry dx dy ⟨a,k,kvs,e1,e2,hM,q⟩
 subst e1;subst e2
 obtain⟨b,rfl⟩:=xP dx
 obtain rfl:=aA.mp dy
 obtain rfl:v=Value.ref b:=rx
 obtain rfl:u=Value.ref a:=ry
 obtain⟨xs,hH,hy,nd,pk⟩:=rm.mQ hM
 refine tR (knd:=lE X.prog X.w) (by show X.A.units+1+8<cLine;omega) (xN I.hok dx) hy (Be I.hok hH nd pk) ⟨.bl _,H,I.tok _,rfl,aH rm (bq.mpr rfl) ?_⟩
 rcases oK k pk with⟨h1,h2⟩|⟨_,p,_,h1,h2,_⟩
 ·rw[h2];rw[h1]at q;exact q
 ·rw[h2];rw[h1]at q;exact q
def Qo(K:PySem.W.Frag):Im:=λx y v H Q=>∃(a b:Addr) (xs:DX) (kvs:List (List (List Int) ×D)) (k:List (List Int)),x= .ref a/\y= .ref b/\H a=some (.ext (jt a xs))/\(xs.map (·.1)).Nodup/\Paired (j9 K H) kvs xs/\Dat K H (kD k) (.ref b)/\xs.length<=sizeLine/\
 ∀u,RelV v u->((storedH xs k b u).map (·.1)).Nodup->Q (upd H a (.ext (jt a (storedH xs k b u))))
theorem JD(hu:X.A.units+64<cLine):Ox X (Qo X.K):=by
 intro pins s σ H o i v ov iv u Q I ro ri rv hx
 obtain⟨a,b,xs,kvs,k,e1,e2,hH,nd,pk,dk,hz,q⟩:=hx
 subst e1;subst e2
 obtain rfl:ov=Value.ref a:=ro
 obtain rfl:iv=Value.ref b:=ri
 have dd:=Be I.hok hH nd pk
 obtain⟨dl,_⟩:=(show cj X.prog X.w H s.heap a (.ext (jt a xs))from I.hok a _ hH)
 have Uh:((storedH xs k b u).map (·.1)).Nodup:=by
  unfold storedH
  split
  ·rw[keys_map_putAt];exact nd
  ·rename_i z
   rw[aaK,aa1]
   refine⟨nd,by simp,λx hx y hy e=>?_⟩
   have ey:y=k:=by simpa using hy
   obtain⟨p,hp,ep⟩:=aaI.mp hx
   have:atKey xs k≠none:=by
    unfold atKey
    intro n
    rw[Option.map_eq_none_iff,List.find?_eq_none]at n
    exact n p hp (by simp[ep,e,ey])
   exact this (by simpa using z)
 refine zu (knd:=lE X.prog X.w) (by show X.A.units+1+8<cLine;omega) (xN I.hok dk) dl dd hz λh' Xv hs=>?_
 obtain⟨o,es,g1,g2,g3,g4⟩:=Xv
 refine⟨_,I.write (x:=a) (e:=a) (o:= .ext (jt a (storedH xs k b u))) (t':=s.toks+(lE X.prog X.w).draws k) (by rw[hH];trivial) (.inl rfl) (λc z nc e=>(hs.2 c nc).trans e) ⟨o,g1⟩ ⟨⟨o,es,g1,g2,g3,g4⟩,⟨o,g1⟩,?_⟩,q u rv Uh⟩
 rintro h1 h2 ⟨o,es,e,q⟩ k
 exact⟨o,es,k o e,q⟩
def Qp(to ti:dg):sr:=λd ρ M Q=>to ρ M λo M1=>ti ρ M1 λi M2=>∃l kvs k,o= .ref l/\i=kD k/\M2 l=some (.mQ kvs)/\kvs.length<=1000/\Q ρ (ay M2 l (.mQ (vV kvs k d)))
theorem MV(hu:X.A.units+64<cLine){o i:Expr}{to ti:dg}{pos:Pos}(ho:cH X o to)(hi:cH X i ti)
 (ha:∀v,assign (.Subscript o i pos) X.env v=(do
  let ov <-holding [v] (eval o X.env)
  let iv <-holding [v,ov] (eval i X.env)
  standAt pos
  holding [v,ov,iv] (setItem ov iv v)
  release [v,ov,iv] []):=by intro _;rfl):Dq X (.Subscript o i pos) (Qp to ti):=by
 constructor
 intro pins s σ H ρ M v d u Q I r rv dv q
 refine LC ho.dn hi.dn (JD hu) ha pins s σ H v u _ I rv (dW r q λx H1 d1 M1 f1 dx r1 q1=>dW r1 q1 λy H2 d2 M2 f2 dy r2 ⟨l,kvs,k,e1,e2,hM,hz,q2⟩=>?_)
 subst e1 e2
 obtain rfl:=aA.mp dx
 obtain⟨b,rfl⟩:=xP dy
 obtain⟨xs,hH,hy,nd,pk⟩:=r2.mem.mQ hM
 have O8:=Dat.mono ((f1.trans f2).ext r.mem) _ _ dv
 have Ds:=f1.trans f2
 refine⟨l,b,xs,kvs,k,rfl,rfl,hH,nd,pk,dy,by rw[<-iE pk,sizeLine_eq];omega,λu' ru Uh=>?_⟩
 have fw:Fr M2 H2 (ay M2 l (.mQ (vV kvs k d))) (upd H2 l (.ext (jt l (storedH xs k b u')))):=Fr.write (K:=X.K) hM
 exact⟨ρ,_,Ds.trans fw,r2.go fw (r2.mem.wI hH hy Uh (GC dy O8 ru pk)),q2⟩
end
end L3
namespace PySem
section
variable{prog:Program}{w:World}{A:Around}{E:Value->Shared->Prop}{s:Shared}{it d:Addr}{i n ep:Nat}{od:Obj}{es:Array DictEntry}
theorem Bg{Q:Value->Shared->Prop}(nm:(d==sysModules)=false)(hT:s.TypeIs (.ref d) "dict")(ho:s.heap.get? d=some od)(hd:od.data= .dict es ep)
 (q:Q (.ref s.heap.objs.size) {s with heap:=s.heap.push {cls:= .type "dict_keyiterator",data:= .fields #[.ref d,.int 0 0,.int es.size 0,.int ep 0]}}):wpAny (model prog w) A (pyIter (.ref d)) Q E s:=by
 refine wpAny_pyIter_slot hT F.slot_dict_iter (wpAny_call_entry F.slot_dict_iter hT F.entry_dict_iter ?_ (F.args_dict_iter_1 _))
 unfold Builtin.«dict.__iter__» Builtin.Dict.dictSlotNone
 refine wpAny_bind (wpAny_bind (wpAny_notOrdered_dict hT (show wpAny _ _ (pure (Value.ref d)) _ _ s from wpAny_pure ?_)))
 show wpAny _ _ (Builtin.Dict.showsAll d >>= _) _ _ s
 unfold Builtin.Dict.showsAll
 rw[if_neg (by rw[nm];exact aaE)]
 refine wpAny_bind (wpAny_pure (wpAny_bind (wpAny_dictEntries ho hd (wpAny_bind (wpAny_dictEpoch ho hd (wpAny_bind (wpAny_newObj_type (wpAny_pure ⟨_,rfl,"dict_keyiterator",_,⟨_,Heap.get?_push_size _ rfl,rfl⟩,F.slot_dict_keyiterator_next.lookup,?_⟩))))))))
 simpa[rawInt]using q
theorem DS{Q:Option Value->Shared->Prop}{e:DictEntry}(hit:s.heap.IsKeyIter it d i n ep)(hod:s.heap.get? d=some od)(Qq:od.data= .dict es ep)(hn:es.size=n)(hx:es[i]?=some e)
 (q:∀h',h'.IsKeyIter it d (i+1) n ep->Heap.SameBut it s.heap h'->Q (some e.key) {s with heap:=h'}):wpAny (model prog w) A (pyNext (.ref it)) Q E s:=by
 obtain⟨o,ho,hc,hd⟩:=id hit
 unfold pyNext
 refine wpAny_bind (wpAny_attempt (wpAny_callSpecial?_slot (name:=Str.ofString "__next__") hit.typeIs F.slot_dict_keyiterator_next (wpAny_call_entry F.slot_dict_keyiterator_next hit.typeIs F.entry_dict_keyiterator_next ?_ (F.args_dict_keyiterator_next_1 _))))
 refine wpAny_bind (wpAny_pure (wpAny_bind (wpAny_bind ?_)))
 first|refine wpAny_bind (wpAny_typeNameOfWhole_keyiter hit.typeIs (wpAny_pure ?_))|refine wpAny_bind (wpAny_typeNameOf_keyiter hit.typeIs (wpAny_pure ?_))
 refine wpAny_bind (wpAny_fieldsOf ho hd ?_)
 simp only[show Builtin.Dict_items.ownsTuple "dict_keyiterator" =false by decide,aaD,if_false]
 show wpAny _ _ (if(Value.ref d==Value.none)=true then _ else _) _ _ s
 rw[if_neg (show¬((Value.ref d==Value.none)=true)from aaE)]
 refine wpAny_bind (wpAny_pure (wpAny_bind (wpAny_dictEntries hod Qq ?_)))
 rw[if_neg (by rw[hn];simp)]
 refine wpAny_bind (wpAny_pure (wpAny_bind (wpAny_dictEpoch hod Qq ?_)))
 rw[if_neg (by simp)]
 refine wpAny_pure ?_
 simp only[show¬((i:Int)<0)from by omega,if_false,acQ,hx]
 refine wpAny_bind ?_
 first|refine wpAny_bind (wpAny_typeNameOfWhole_keyiter hit.typeIs (wpAny_pure ?_))|refine wpAny_bind (wpAny_typeNameOf_keyiter hit.typeIs (wpAny_pure ?_))
 refine wpAny_bind (wpAny_isOneOf_keyiter hit.typeIs ?_)
 refine wpAny_bind (show wpAny _ _ (setField (.ref it) 1 (rawInt ((i:Int)+1))) _ _ s from wpAny_setField ho hd (by simp) ?_)
 have Qt:(s.heap.update it (Obj.mapFields (·.setIfInBounds 1 (rawInt ((i:Int)+1))))).IsKeyIter it d (i+1) n ep:=
  ⟨_,Heap.get?_update_self _ ho (Obj.isFreed_of_fields (Obj.data_mapFields hd _)),(Obj.cls_mapFields ..).trans hc,by rw[Obj.data_mapFields hd];simp[rawInt]⟩
 refine wpAny_bind (wpAny_holding (wpAny_bind (wpAny_isOneOf_keyiter (s:={s with heap:=s.heap.update it (Obj.mapFields (·.setIfInBounds 1 (rawInt ((i:Int)+1))))}) Qt.typeIs ?_)))
 exact(show wpAny _ _ (pure e.key) _ _ _ from wpAny_pure (wpAny_pure ⟨_,rfl,wpAny_pure (q _ Qt (Heap.SameBut.update ..))⟩))
theorem GF{Q:Option Value->Shared->Prop}(hh:A.handled=none)(hit:s.heap.IsKeyIter it d i n ep)(hod:s.heap.get? d=some od)(Qq:od.data= .dict es ep)(hn:es.size=n)(hge:es.size<=i)
 (q:∀h',Heap.ExtBut it s.heap h'->Q none {s with heap:=h'}):wpAny (model prog w) A (pyNext (.ref it)) Q E s:=by
 obtain⟨o,ho,hc,hd⟩:=id hit
 unfold pyNext
 refine wpAny_bind (wpAny_attempt (wpAny_callSpecial?_slot (name:=Str.ofString "__next__") hit.typeIs F.slot_dict_keyiterator_next (wpAny_call_entry F.slot_dict_keyiterator_next hit.typeIs F.entry_dict_keyiterator_next ?_ (F.args_dict_keyiterator_next_1 _))))
 refine wpAny_bind (wpAny_pure (wpAny_bind (wpAny_bind ?_)))
 first|refine wpAny_bind (wpAny_typeNameOfWhole_keyiter hit.typeIs (wpAny_pure ?_))|refine wpAny_bind (wpAny_typeNameOf_keyiter hit.typeIs (wpAny_pure ?_))
 refine wpAny_bind (wpAny_fieldsOf ho hd ?_)
 simp only[show Builtin.Dict_items.ownsTuple "dict_keyiterator" =false by decide,aaD,if_false]
 show wpAny _ _ (if(Value.ref d==Value.none)=true then _ else _) _ _ s
 rw[if_neg (show¬((Value.ref d==Value.none)=true)from aaE)]
 refine wpAny_bind (wpAny_pure (wpAny_bind (wpAny_dictEntries hod Qq ?_)))
 rw[if_neg (by rw[hn];simp)]
 refine wpAny_bind (wpAny_pure (wpAny_bind (wpAny_dictEpoch hod Qq ?_)))
 rw[if_neg (by simp)]
 refine wpAny_pure ?_
 simp only[show¬((i:Int)<0)from by omega,if_false,acQ,Array.getElem?_eq_none hge]
 refine wpAny_bind ?_
 first|refine wpAny_bind (wpAny_typeNameOfWhole_keyiter hit.typeIs (wpAny_pure ?_))|refine wpAny_bind (wpAny_typeNameOf_keyiter hit.typeIs (wpAny_pure ?_))
 refine wpAny_bind (show wpAny _ _ (setField (.ref it) 0 .none) _ _ s from wpAny_setField ho hd (by simp) ?_)
 refine wpAny_bind (show wpAny _ _ (newExc (.type "StopIteration") []) _ _ _ from ?_)
 simp only[newExc,newTuple]
 refine wpAny_bind (wpAny_newObj_type ?_ (by size_fits))
 refine wpAny_bind (m:=firstArgMember _ _) (wpAny_of_eq (a:=Value.none) (by first|rfl|(simp only[firstArgMember];rfl)) ?_)
 refine wpAny_newObj_type ?_ (by size_fits)
 simp only[raiseNew]
 refine wpAny_bind (wpAny_handled ?_)
 rw[show A.in1.handled=none from hh]
 refine wpAny_bind (wpAny_pure (wpAny_throw ?_))
 refine wpAny_bind (wpAny_isInstance (T:= "StopIteration") (b:=true) ⟨_,Heap.get?_push_size _ rfl,rfl⟩ isSubtype_stop ?_)
 exact wpAny_pure (q _ (((Heap.SameBut.update ..).extBut.push _).push _))
end
end PySem
namespace L2
open PySem PySem.Spec PyProof.Rows L3
def Ui(d:Addr)(n:Nat):It:=
 ⟨λi H=>∃xs:DX,H d=some (.ext (jt d xs))/\xs.length=n/\i<n,
  λi H x H'=>H'=H/\∃b,x= .ref b/\∀xs:DX,H d=some (.ext (jt d xs))->∃e,xs[i]?=some e/\e.2.1=b,
  λi H=>∃xs:DX,H d=some (.ext (jt d xs))/\xs.length=n/\n<=i⟩
theorem rG{P:Program}{w:World}{H:Hp}{h:Heap}(ok:iR P w H h){d:Addr}{xs:DX}(hH:H d=some (.ext (jt d xs))):jt d xs h:=(show cj P w H h d (.ext (jt d xs))from ok d _ hH).1
theorem DT{P:Program}{w:World}{K:PySem.W.Frag}{tg:Expr}(d it:Addr)(n:Nat):Turn P w K tg (Ui d n) [it] it (λi h=>h.IsKeyIter it d i n n) where
 mem:=by simp
 obj:=λi h st b hb=>by
  obtain rfl:b=it:=by simpa using hb
  obtain⟨o,e,c,d⟩:=st
  exact⟨o,e,λv z=>by rw[d]at z;cases z⟩
 keep:=λi h h' st k=>st.at λo e=>k it (by simp) o e
 item:=by
  intro X hP hw hK hc i pins s σ H E I hf st hg
  subst hP hw hK
  obtain⟨xs,hH,hn,hi⟩:=hg
  obtain⟨o,es,h1,h2,h3,h4⟩:=rG I.hok hH
  obtain⟨f0,f1,f2,f3,f4,f5⟩:=hf it (by simp)
  have hz:es.size=n:=by rw[<-Array.length_toList,h4,aas];exact hn
  have hx:es[i]?=some (ET (xs[i]'(by omega))):=by
   rw[<-Array.getElem?_toList,h4,aa0,aau (by omega)]
   rfl
  refine DS (ep:=n) st h1 (by rw[h3,hn]) hz hx λh' st' sb=>?_
  have I1:Inv X pins σ H {s with heap:=h'}:=I.turned (t':=s.toks) (λb o hb e=>(sb.2 b hb).trans e) f0 f1 f3 f4 f5
  obtain⟨o',e,c,dd⟩:=id st'
  refine⟨_,rfl,BW (s:={s with heap:=h'}) e c dd (by decide) ⟨.ref (xs[i]'(by omega)).2.1,H,I1,rfl,⟨rfl,_,rfl,λys hy=>?_⟩,st',λb hb=>(hf b hb).1⟩⟩
  obtain⟨o2,Xx,g1,g2,g3,g4⟩:=rG I.hok hy
  obtain rfl:o2=o:=Option.some.inj (g1.symm.trans h1)
  have ee:Xx=es:=by rw[g3]at h3;injection h3
  rw[ee,h4]at g4
  have q:(ys.map ET)[i]?=some (ET (xs[i]'(by omega))):=by rw[<-g4,aa0,aau (by omega)];rfl
  rw[aa0]at q
  obtain⟨e,q1,q2⟩:=abF.mp q
  refine⟨e,q1,?_⟩
  have:=congrArg DictEntry.key q2
  unfold ET at this
  exact Value.ref.inj this
 done:=by
  intro X hP hw hK hc i pins s σ H E I hf st hg
  subst hP hw hK
  obtain⟨xs,hH,hn,hi⟩:=hg
  obtain⟨o,es,h1,h2,h3,h4⟩:=rG I.hok hH
  obtain⟨f0,f1,f2,f3,f4,f5⟩:=hf it (by simp)
  have hz:es.size=n:=by rw[<-Array.length_toList,h4,aas];exact hn
  exact GF (ep:=n) (I.ok.hd hc) st h1 (by rw[h3,hn]) hz (by omega) λh' eb=>⟨rfl,I.turned (t':=s.toks) (λb o hb e=>eb b o hb e) f0 f1 f3 f4 f5⟩
 self:=λ_ _ _ _ _ st h=>wpAny_pyIter_keyiter st h
def Qu(tl:TE):TI:=λσ H R=>tl σ H λx H1=>∃(a:Addr) (xs:DX),x= .ref a/\(a==sysModules)=false/\H1 a=some (.ext (jt a xs))/\R (Ui a xs.length) H1
theorem JE{X:Cx}{tg l:Expr}{tl:TE}(hl:PE X l tl):PI X tg l (Qu tl):=by
 intro pins s σ H R I h
 refine c5 (hl pins s σ H _ I h) λv s1 ⟨x,H1,I1,r1,q1⟩=>?_
 obtain⟨a,xs,e,nm,hH,q⟩:=q1
 subst e
 cases r1
 obtain⟨o,es,h1,h2,h3,h4⟩:=rG I1.hok hH
 have hz:es.size=xs.length:=by rw[<-Array.length_toList,h4,aas]
 refine Bg nm ⟨o,h1,h2.1⟩ h1 h3 ?_
 rw[hz]
 refine⟨s1.heap.objs.size,[s1.heap.objs.size],_,_,H1,rfl,I1.kept (t':=s1.toks) λb o e=>Heap.get?_push_of_some _ e,DT a _ _,⟨_,Heap.get?_push_size _ rfl,rfl,rfl⟩,λb hb=>?_,q⟩
 obtain rfl:b=s1.heap.objs.size:=by simpa using hb
 exact I1.Dc (aaz _) (I1.hok.fresh (aaz _))
end L2
namespace L3
open PySem PySem.Spec PyProof.Rows L2
theorem MW{K:PySem.W.Frag}{a:Addr}{kvs:List (List (List Int) ×D)}:AL K (Ui a kvs.length) (λH=>∃xs:DX,H a=some (.ext (jt a xs))/\Paired (j9 K H) kvs xs) (kvs.map λp=>kD p.1) where
 go:=λi H hi ⟨xs,h,pk⟩=>⟨xs,h,(iE pk).symm,by simpa using hi⟩
 HS:=λi H x H' hi ⟨xs,h,pk⟩ ⟨e,b,eb,k⟩=>by
  subst eb
  obtain⟨y,hy,ey⟩:=k xs h
  refine⟨e,?_⟩
  rw[aas]at hi
  have:∀{l₁:List (List (List Int) ×D)} {l₂:DX} {i:Nat},Paired (j9 K H) l₁ l₂->l₂[i]?=some y->∃p,l₁[i]?=some p/\j9 K H p y:=by
   intro l₁ l₂ i pk
   induction pk generalizing i with
   |nil=>intro z;simp at z
   |cons r _ ih=>
    intro z
    cases i with
    |zero=>
     rw[ac9]at z
     cases z
     exact⟨_,ac9,r⟩
    |succ j=>
     rw[List.getElem?_cons_succ]at z ⊢
     exact ih z
  obtain⟨p,hp,_,dk,_⟩:=this pk hy
  refine⟨kD p.1,by rw[aa0,hp];rfl,?_⟩
  rw[<-ey]
  exact dk
 stop:=λH ⟨xs,h,pk⟩=>⟨xs,h,(iE pk).symm,by simp⟩
section
variable{X:Cx}{pos:Pos}{tg iter:Expr}{body:List Stmt}{te:dg}{g:sr}{tb:ia}
def Qv(te:dg)(g:sr)(tb:ia):ia:=λD ρ M=>te ρ M λd M1=>∃a kvs,d= .ref a/\M1 a=some (.mQ kvs)/\runFor (λM=>M a=some (.mQ kvs)) g tb D (kvs.map λp=>kD p.1) ρ M1
theorem MX(hp:PassesOwn (model X.prog X.w) X.A X.env X.xe)(hc:X.calm=true)(hi:cH X iter te)(hg:Dq X tg g)(hb:iS X body tb)
 (hs:∀x,foldedSetIterable iter X.env x=pure x:=by intro _;rfl):vm X (.For tg iter body [] pos) (Qv te g tb):=EU (pB hp hc (JE hi.dn) hg.dn hb.dn hs) λσ H ρ M D r q=>dW r q λv H' d M' f dv r' ⟨a,kvs,e1,hM,q⟩=>by
 subst e1
 obtain rfl:=aA.mp dv
 obtain⟨xs,hH,nm,_,pk⟩:=r'.mem.mQ hM
 refine⟨a,xs,rfl,nm,hH,?_⟩
 rw[<-iE pk]
 exact jx MW f r' (λM1 H1 f1 ju g1=>by obtain⟨ys,h,_,_,p⟩:=ju.mQ g1;exact⟨ys,h,p⟩) q
end
end L3
namespace L3
open PySem PySem.Spec PyProof.Rows L2
section
variable{X:Cx}
def MY:R3:=λd e M Q=>∃a b a1 a2 b1 b2 x1 x2 y1 y2,d= .ref a/\e= .ref b/\M a=some (.lst [.ref a1,.ref a2])/\M b=some (.lst [.ref b1,.ref b2])/\M a1=some (.lst x1)/\M a2=some (.lst x2)/\M b1=some (.lst y1)/\M b2=some (.lst y2)/\
 a1≠b1/\a2≠b2/\x1.all (plain 9)=true/\x2.all (plain 9)=true/\y1.all (plain 9)=true/\y2.all (plain 9)=true/\Q (.bl (!(bL x1 y1 && bL x2 y2))) M
theorem JF(hu:X.A.units+64<cLine):mS X (compareOp .NotEq) MY:=by
 constructor
 intro pins s σ H M x y d e v u Q I rm rx ry dx dy hx
 obtain⟨a,b,a1,a2,b1,b2,x1,x2,y1,y2,e1,e2,ha,hb,h1,h2,h3,h4,n1,n2,p1,p2,p3,p4,q⟩:=hx
 subst e1;subst e2
 obtain rfl:=aA.mp dx
 obtain rfl:=aA.mp dy
 obtain rfl:v=Value.ref a:=rx
 obtain rfl:u=Value.ref b:=ry
 obtain⟨zs,g1,g2⟩:=rm.lst ha
 obtain⟨ws,g3,g4⟩:=rm.lst hb
 obtain⟨z1,z2,rfl,k1,k2⟩:=kM g2
 obtain⟨w1,w2,rfl,k3,k4⟩:=kM g4
 obtain rfl:=aA.mp k1
 obtain rfl:=aA.mp k2
 obtain rfl:=aA.mp k3
 obtain rfl:=aA.mp k4
 obtain⟨its,rv,pl,hz⟩:=I.list (gR.of (K:=X.K) g1)
 obtain⟨its2,mJ,yY,hz2⟩:=I.list (gR.of (K:=X.K) g3)
 obtain⟨u1,u2,rfl,r1,r2⟩:=vals2 rv
 obtain⟨v1,v2,rfl,r3,r4⟩:=vals2 mJ
 obtain rfl:u1=Value.ref a1:=r1
 obtain rfl:u2=Value.ref a2:=r2
 obtain rfl:v1=Value.ref b1:=r3
 obtain rfl:v2=Value.ref b2:=r4
 have c1:=eG (A:=X.A.in1) I rm (by show X.A.units+1+12<cLine;omega) n1 h1 h3 p1 p3
 have c2:=eG (A:=X.A.in1) I rm (by show X.A.units+1+12<cLine;omega) n2 h2 h4 p2 p4
 refine SeqAt.RcNeAt.lists (A:=X.A) (s:=s) (e:=λj=>if j=0 then bL x1 y1 else bL x2 y2) pl.isList yY.isList rfl (by omega) ?_ _ _ _ _ ⟨.bl _,H,I,rfl,aH rm (bq.mpr rfl) ?_⟩
 ·intro j hj1 hj2
  match j,hj1,hj2 with
  |0,_,_=>exact c1
  |1,_,_=>exact c2
 ·have e:(List.range #[Value.ref a1,Value.ref a2].size).all (λj=>if j=0 then bL x1 y1 else bL x2 y2)=(bL x1 y1 && bL x2 y2):=by
   simp[List.range,List.range.loop]
  rw[e]
  exact q
end
end L3
namespace L3
open PySem PySem.Spec PyProof.Rows L2
section
variable{X:Cx}
theorem vals3{v1 v2 v3:V}{us:List Value}(h:Vals [v1,v2,v3] us):∃u1 u2 u3,us=[u1,u2,u3]/\RelV v1 u1/\RelV v2 u2/\RelV v3 u3:=by
 cases h with
 |cons r1 h=>
  obtain⟨u2,u3,rfl,r2,r3⟩:=vals2 h
  exact⟨_,u2,u3,rfl,r1,r2,r3⟩
def Qw:R3:=λd e M Q=>∃a1 a2 a3 b1 b2 b3 x1 x2 x3 y1 y2 y3,d= .tup [.ref a1,.ref a2,.ref a3]/\e= .tup [.ref b1,.ref b2,.ref b3]/\M a1=some (.lst x1)/\M a2=some (.lst x2)/\M a3=some (.lst x3)/\M b1=some (.lst y1)/\M b2=some (.lst y2)/\M b3=some (.lst y3)/\
 (a1≠b1/\a2≠b2/\a3≠b3)/\(x1.all (plain 9)=true/\x2.all (plain 9)=true/\x3.all (plain 9)=true)/\(y1.all (plain 9)=true/\y2.all (plain 9)=true/\y3.all (plain 9)=true)/\Q (.bl (bL x1 y1 && bL x2 y2 && bL x3 y3)) M
theorem MZ(hu:X.A.units+64<cLine):mS X (compareOp .Eq) Qw:=by
 constructor
 intro pins s σ H M x y d e v u Q I rm rx ry dx dy hx
 obtain⟨a1,a2,a3,b1,b2,b3,x1,x2,x3,y1,y2,y3,e1,e2,h1,h2,h3,h4,h5,h6,⟨n1,n2,n3⟩,⟨p1,p2,p3⟩,⟨p4,p5,p6⟩,q⟩:=hx
 subst e1;subst e2
 obtain⟨a,xs,rfl,ha,hx⟩:=br.mp dx
 obtain⟨b,ys,rfl,hb,hy⟩:=br.mp dy
 obtain rfl:v=Value.ref a:=rx
 obtain rfl:u=Value.ref b:=ry
 obtain⟨w1,xs,rfl,k1,hx⟩:=aC.mp hx
 obtain⟨w2,w3,rfl,k2,k3⟩:=kM hx
 obtain⟨w4,ys,rfl,k4,hy⟩:=aC.mp hy
 obtain⟨w5,w6,rfl,k5,k6⟩:=kM hy
 obtain rfl:=aA.mp k1
 obtain rfl:=aA.mp k2
 obtain rfl:=aA.mp k3
 obtain rfl:=aA.mp k4
 obtain rfl:=aA.mp k5
 obtain rfl:=aA.mp k6
 obtain⟨its,rv,pl,hz⟩:=I.tuple (rQ.of (K:=X.K) ha)
 obtain⟨its2,mJ,yY,hz2⟩:=I.tuple (rQ.of (K:=X.K) hb)
 obtain⟨u1,u2,u3,rfl,r1,r2,r3⟩:=vals3 rv
 obtain⟨v1,v2,v3,rfl,r4,r5,r6⟩:=vals3 mJ
 obtain rfl:u1=Value.ref a1:=r1
 obtain rfl:u2=Value.ref a2:=r2
 obtain rfl:u3=Value.ref a3:=r3
 obtain rfl:v1=Value.ref b1:=r4
 obtain rfl:v2=Value.ref b2:=r5
 obtain rfl:v3=Value.ref b3:=r6
 have c1:=eG (A:=X.A.in1) I rm (by show X.A.units+1+12<cLine;omega) n1 h1 h4 p1 p4
 have c2:=eG (A:=X.A.in1) I rm (by show X.A.units+1+12<cLine;omega) n2 h2 h5 p2 p5
 have c3:=eG (A:=X.A.in1) I rm (by show X.A.units+1+12<cLine;omega) n3 h3 h6 p3 p6
 refine SeqAt.RcAt.tuples (A:=X.A) (s:=s) (e:=λj=>if j=0 then bL x1 y1 else if j=1 then bL x2 y2 else bL x3 y3) (show s.heap.IsTuple a #[Value.ref a1,Value.ref a2,Value.ref a3]from pl) (show s.heap.IsTuple b #[Value.ref b1,Value.ref b2,Value.ref b3]from yY) (by omega) ?_ _ _ _ _ ⟨.bl _,H,I,rfl,aH rm (bq.mpr rfl) ?_⟩
 ·intro j hj1 hj2
  match j,hj1,hj2 with
  |0,_,_=>exact c1
  |1,_,_=>exact c2
  |2,_,_=>exact c3
 ·have e:((List.range (min #[Value.ref a1,Value.ref a2,Value.ref a3].size #[Value.ref b1,Value.ref b2,Value.ref b3].size)).all (λj=>if j=0 then bL x1 y1 else if j=1 then bL x2 y2 else bL x3 y3) && #[Value.ref a1,Value.ref a2,Value.ref a3].size== #[Value.ref b1,Value.ref b2,Value.ref b3].size)=(bL x1 y1 && bL x2 y2 && bL x3 y3):=by
   simp[List.range,List.range.loop,adR]
  rw[e]
  exact q
end
end L3
namespace HT
open PySem PyProof.Rows
open PySem.SeqAt
open PySem.AutoSeq1 (wpAny_loadPart')
open PySem.MeetsSeq PySem.MeetsSeq2 PySem.MeetsSeq3
end HT
namespace L3
open PySem PySem.Spec PyProof.Rows L2
section
variable{X:Cx}
end
end L3
namespace L3
structure Pt where
 X:Int
 Y:Int
 N:Int
def hw(a b:Pl)(x:Pt):Int:=(b.x-a.x)*(x.Y-x.N*a.y)-(b.y-a.y)*(x.X-x.N*a.x)
def ko(w:Way)(a:Pl)(x:Pt):Int:=x.N*w.f a-(w.al*x.X+w.be*x.Y)
theorem iW(a b:Pl)(x:Pt):hw b a x= -hw a b x:=by unfold hw;grind
theorem Na(a b c:Pl)(x:Pt):hw a b x+hw b c x+hw c a x=x.N*tw a b c:=by unfold hw tw;grind
theorem GG(w:Way)(a b c:Pl)(x:Pt):hw b c x*ko w a x+hw c a x*ko w b x+hw a b x*ko w c x=0:=by unfold hw ko Way.f;grind
def K6(w:Way)(x:Pt)(a b:Pl):Int:=if ko w a x<=0/\0<ko w b x/\0<hw a b x then 1 else 0
def wn(w:Way)(x:Pt)(a b:Pl):Int:=K6 w x a b-K6 w x b a
theorem CD(w:Way)(x:Pt)(a b:Pl):wn w x b a= -wn w x a b:=by unfold wn;omega
theorem Qx:∀A B C a a' b b' c c':Bool,(a && a')=false->(b && b')=false->(c && c')=false->(A && B && C)=false->(a || a' || (b || b') || (c || c'))=true->
 (((!A && a) || (A && a')) || ((!B && b) || (B && b')) || ((!C && c) || (C && c')))=(((!A && a') || (A && a)) || ((!B && b') || (B && b)) || ((!C && c') || (C && c)))->
 ((if(!a && b && !C)=true then(1:Int)else 0)-(if(!b && a && C)=true then 1 else 0))+((if(!b && c && !A)=true then 1 else 0)-(if(!c && b && A)=true then 1 else 0))+((if(!c && a && !B)=true then 1 else 0)-(if(!a && c && B)=true then 1 else 0))=if(!C && !A && !B)=true then(1:Int)else 0:=by decide +kernel
theorem vW(A α:Int)(h:A≠0):((!decide (A<0) && decide (0<α)) || (decide (A<0) && decide (α<0)))=decide (0<A*α)/\((!decide (A<0) && decide (α<0)) || (decide (A<0) && decide (0<α)))=decide (A*α<0):=by
 rcases abw α 0 with z|z|z<;>rcases abA h with y|y
 ·have:=abK y z
  rw[decide_eq_true y,decide_eq_true z,decide_eq_true this,decide_eq_false (show¬0<α by omega),decide_eq_false (show¬A*α<0 by omega)]
  decide
 ·have:=aa9 y z
  rw[decide_eq_false (show¬A<0 by omega),decide_eq_true z,decide_eq_true this,decide_eq_false (show¬0<α by omega),decide_eq_false (show¬0<A*α by omega)]
  decide
 ·subst z;rw[abe];simp
 ·subst z;rw[abe];simp
 ·have:=abj y z
  rw[decide_eq_true y,decide_eq_true z,decide_eq_true this,decide_eq_false (show¬α<0 by omega),decide_eq_false (show¬0<A*α by omega)]
  decide
 ·have:=aaT y z
  rw[decide_eq_false (show¬A<0 by omega),decide_eq_true z,decide_eq_true this,decide_eq_false (show¬α<0 by omega),decide_eq_false (show¬A*α<0 by omega)]
  decide
theorem tT{p q:Prop}[Decidable p][Decidable q](h:p↔q):(if p then(1:Int)else 0)=if q then 1 else 0:=by
 by_cases k:p
 ·rw[if_pos k,if_pos (h.mp k)]
 ·rw[if_neg k,if_neg (λz=>k (h.mpr z))]
theorem GH(x:Int):(decide (0<x) && decide (x<0))=false:=by
 by_cases h:0<x
 ·rw[decide_eq_false (show¬x<0 by omega),adp]
 ·rw[decide_eq_false h,acI]
theorem GI(x:Int):(decide (0<x) || decide (x<0))=!decide (x=0):=by
 rcases abw x 0 with h|h|h
 ·rw[decide_eq_true h,decide_eq_false (show¬x=0 by omega),adF];rfl
 ·subst h;rfl
 ·rw[decide_eq_true h,decide_eq_false (show¬x=0 by omega),Bool.true_or];rfl
theorem GJ(α β C:Int)(h:C≠0):(α<=0/\0<β/\0<C)↔(!decide (0<α) && decide (0<β) && !decide (C<0))=true:=by
 simp only[aa6,abt,decide_eq_true_eq,decide_eq_false_iff_not];omega
theorem GK(α β C:Int):(α<=0/\0<β/\C<0)↔(!decide (0<α) && decide (0<β) && decide (C<0))=true:=by
 simp only[aa6,abt,decide_eq_true_eq,decide_eq_false_iff_not];omega
theorem Qy(A B C:Int)(hA:A≠0)(hB:B≠0)(hC:C≠0):(0<C/\0<A/\0<B)↔(!decide (C<0) && !decide (A<0) && !decide (B<0))=true:=by
 simp only[aa6,abt,decide_eq_false_iff_not];omega
theorem Qz(P Q R:Int)(e:P+Q+R=0):(decide (0<P) || decide (0<Q) || decide (0<R))=(decide (P<0) || decide (Q<0) || decide (R<0)):=by
 rw[aa8]
 simp only[adN,decide_eq_true_eq];omega
theorem QA(A B C:Int)(h:0<A+B+C):(decide (A<0) && decide (B<0) && decide (C<0))=false:=by
 rw[acY]
 intro z
 simp only[aa6,decide_eq_true_eq]at z;omega
theorem six{A B C α β γ S:Int}(hA:A≠0)(hB:B≠0)(hC:C≠0)(hS:0<S)(s:A+B+C=S)(e:A*α+B*β+C*γ=0)(d:¬(α=0/\β=0/\γ=0)) :
 ((if α<=0/\0<β/\0<C then 1 else 0)-(if β<=0/\0<α/\C<0 then 1 else 0))+((if β<=0/\0<γ/\0<A then 1 else 0)-(if γ<=0/\0<β/\A<0 then 1 else 0))+((if γ<=0/\0<α/\0<B then 1 else 0)-(if α<=0/\0<γ/\B<0 then 1 else 0))=if 0<C/\0<A/\0<B then(1:Int)else 0:=by
 rw[tT (GJ α β C hC),tT (GK β α C),tT (GJ β γ A hA),tT (GK γ β A),tT (GJ γ α B hB),tT (GK α γ B),tT (Qy A B C hA hB hC)]
 refine Qx _ _ _ _ (decide (α<0)) _ (decide (β<0)) _ (decide (γ<0)) (GH α) (GH β) (GH γ) (QA A B C (by rw[s];exact hS)) ?_ ?_
 ·rw[GI,GI,GI]
  rw[<-Bool.not_and,<-Bool.not_and,abt,acY]
  intro z
  simp only[aa6,decide_eq_true_eq]at z
  exact d ⟨z.1.1,z.1.2,z.2⟩
 ·rw[(vW A α hA).1,(vW B β hB).1,(vW C γ hC).1,(vW A α hA).2,(vW B β hB).2,(vW C γ hC).2]
  exact Qz _ _ _ e
theorem Nb{w:Way}{x:Pt}{a b c:Pl}(hN:0<x.N)(t:0<tw a b c)(f:w.f a≠w.f b)(h1:hw a b x≠0)(h2:hw b c x≠0)(h3:hw c a x≠0) :
 wn w x a b+wn w x b c+wn w x c a=if 0<hw a b x/\0<hw b c x/\0<hw c a x then 1 else 0:=by
 have s:hw b c x+hw c a x+hw a b x=x.N*tw a b c:=by rw[<-Na a b c x];omega
 have k:=six (α:=ko w a x) (β:=ko w b x) (γ:=ko w c x) h2 h3 h1 (aaT hN t) s (GG w a b c x) (λ⟨z1,z2,_⟩=>f (by
  have:x.N*w.f a=x.N*w.f b:=by unfold ko at z1 z2;omega
  exact acZ (by omega) this))
 have f1:=iW a b x
 have f2:=iW b c x
 have f3:=iW c a x
 have e1:(0<hw b a x)=(hw a b x<0):=by rw[f1];exact propext ⟨λ_=>by omega,λ_=>by omega⟩
 have e2:(0<hw c b x)=(hw b c x<0):=by rw[f2];exact propext ⟨λ_=>by omega,λ_=>by omega⟩
 have e3:(0<hw a c x)=(hw c a x<0):=by rw[f3];exact propext ⟨λ_=>by omega,λ_=>by omega⟩
 unfold wn K6
 simp only[e1,e2,e3]
 exact k
end L3
namespace L3
def sz(g:List Pl->Int):List (List Pl)->Int
 |[]=>0
 |d::r=>g d+sz g r
theorem GL(g:List Pl->Int):∀a b:List (List Pl),sz g (a++b)=sz g a+sz g b
 |[],b=>by simp[sz]
 |d::r,b=>by show g d+sz g (r++b)=g d+sz g r+sz g b;rw[GL g r b];omega
theorem rH(g:List Pl->Int){a b:List (List Pl)}(h:a.Perm b):sz g a=sz g b:=by
 induction h with
 |nil=>rfl
 |cons x _ ih=>show g x+_=g x+_;rw[ih]
 |swap x y l=>show g y+(g x+sz g l)=g x+(g y+sz g l);omega
 |trans _ _ i j=>rw[i,j]
theorem GN{g:List Pl->Int}{f:List Pl->List Pl}:∀{l:List (List Pl)},(∀d∈l,g (f d)= -g d)->sz g (l.map f)= -sz g l
 |[],_=>rfl
 |d::r,h=>by
  show g (f d)+sz g (r.map f)= -(g d+sz g r)
  rw[GN λx hx=>h x (aar _ hx),h d (by simp)]
  omega
theorem CG(g:List Pl->Int)(f:List Pl->Bool):∀l:List (List Pl),sz g l=sz g (l.filter f)+sz g (l.filter λv=>!f v)
 |[]=>rfl
 |d::r=>by
  have ih:=CG g f r
  cases q:f d
  ·rw[ada (by simp[q]),adb (by simp[q])]
   show g d+sz g r=_+(g d+sz g _)
   omega
  ·rw[adb (by simp[q]),ada (by simp[q])]
   show g d+sz g r=g d+sz g _+_
   omega
def wL(w:Way)(x:Pt):List Pl->Int
 |[a,b]=>wn w x a b
 |_=>0
def bk:List Pl->List Pl
 |[a,b]=>[b,a]
 |l=>l
theorem Nc:∀{u v:List Pl},bk u=bk v->u=v:=by
 have key:∀u,bk (bk u)=u:=λu=>by
  match u with
  |[]=>rfl
  |[_]=>rfl
  |[_,_]=>rfl
  |_::_::_::_=>rfl
 intro u v h
 rw[<-key u,h,key v]
theorem mF{α:Type}[DecidableEq α]{a b:List α}(na:a.Nodup)(nb:b.Nodup)(h:∀x,x∈a↔x∈b):a.Perm b:=(List.perm_ext_iff_of_nodup na nb).mpr h
theorem JG{D:List (List Pl)}(nd:D.Nodup)(two:∀d∈D,∃a b,d=[a,b]){g:List Pl->Int}(hg:∀a b,g [b,a]= -g [a,b]):sz g D=sz g (D.filter λd=>!decide (bk d∈D)):=by
 rw[CG g (λd=>decide (bk d∈D)) D]
 have z:sz g (D.filter λd=>decide (bk d∈D))=0:=by
  have n1:(D.filter λd=>decide (bk d∈D)).Nodup:=nd.filter _
  have n2:((D.filter λd=>decide (bk d∈D)).map bk).Nodup:=mE n1 λu _ v _ e=>Nc e
  have p:=mF n1 n2 λd=>by
   rw[aaw,aaI]
   constructor
   ·rintro⟨h1,h2⟩
    obtain⟨a,b,rfl⟩:=two d h1
    exact⟨[b,a],aaw.mpr ⟨of_decide_eq_true h2,decide_eq_true h1⟩,rfl⟩
   ·rintro⟨e,he,rfl⟩
    obtain⟨h1,h2⟩:=aaw.mp he
    obtain⟨a,b,rfl⟩:=two e h1
    exact⟨of_decide_eq_true h2,decide_eq_true h1⟩
  have e1:=rH g p
  rw[GN (f:=bk) λd hd=>by
   obtain⟨a,b,rfl⟩:=two d (aaw.mp hd).1
   exact hg a b]at e1
  omega
 rw[z]
 omega
theorem Bc.QB{Q:List Pl}{D:List (List Pl)}(s:c8 Q)(nf:¬Flat Q)(c:Bc Q D):(D.filter λd=>!decide (bk d∈D)).Perm (SL Q):=by
 refine mF (c.nd.filter _) (jz s) λd=>?_
 rw[aaw]
 constructor
 ·rintro⟨h1,h2⟩
  obtain⟨a,b,rfl,_,_⟩:=c.rF d h1
  refine(bX s).mpr (c.bare a b h1 λz=>?_)
  rw[abt]at h2
  exact of_decide_eq_false h2 z
 ·intro h
  obtain⟨a,b,rfl⟩:=iC h
  have h:=(bX s).mp h
  refine⟨(c.has a b h).resolve_left λz=>nf (pW h z),?_⟩
  rw[abt]
  exact decide_eq_false (c.pV a b h)
theorem GO{Q:List Pl}{D:List (List Pl)}(s:c8 Q)(nf:¬Flat Q)(c:Bc Q D){g:List Pl->Int}(hg:∀a b,g [b,a]= -g [a,b]):sz g D=sz g (SL Q):=by
 rw[JG c.nd (λd hd=>let ⟨a,b,e,_⟩:=c.rF d hd;⟨a,b,e⟩) hg]
 exact rH g (c.QB s nf)
theorem CH{Q:List Pl}(s:c8 Q){a b c d:Pl}(h1:bf Q a b)(h2:bf Q c d)(ab:ao.f a<ao.f b)(cb:ao.f c<ao.f b)(cd:ao.f c<ao.f d)(ac:ao.f a<=ao.f c):a=c/\b=d:=by
 have q1:=(h1.2.2.2 c h2.1).1
 have q2:=(h1.2.2.2 d h2.2.1).1
 have q3:=(h2.2.2.2 a h1.1).1
 have q4:=(h2.2.2.2 b h1.2.1).1
 have e1:=tM ao d b a c
 have r1:tw c b a= -tw a b c:=by unfold tw;grind
 rw[r1]at e1
 have m1:0<=(ao.f b-ao.f c)*tw c d a:=aaB (by omega) q3
 have m2:(ao.f d-ao.f c)* -tw a b c<=0:=aaJ (by omega) (by omega)
 have m3:(ao.f a-ao.f c)*tw c d b<=0:=aaM (by omega) q4
 have z1:(ao.f d-ao.f c)* -tw a b c=0:=by omega
 have z2:tw a b c=0:=by
  rcases aaU.mp z1 with z|z<;>omega
 have Xy:ao.f a=ao.f c:=by
  have:=dQ s h1 h2.1 z2
  omega
 obtain rfl:a=c:=s.inj h1.1 h2.1 Xy
 refine⟨rfl,?_⟩
 have r2:=vP a b d
 have z3:tw a b d=0:=by omega
 have b1:=dQ s h1 h2.2.1 z3
 have b2:=dQ s h2 h1.2.1 (by omega)
 exact s.inj h1.2.1 h2.2.1 (by omega)
theorem Nd{Q:List Pl}(s:c8 Q){x:Pt}{a b c d:Pl}(h1:bf Q a b)(h2:bf Q c d)(k1:ko ao a x<=0)(k2:0<ko ao b x)(k3:ko ao c x<=0)(k4:0<ko ao d x)(hN:0<x.N):a=c/\b=d:=by
 have lt:∀{u v:Pl},ko ao u x<=0->0<ko ao v x->ao.f u<ao.f v:=λ{u v} i j=>by
  unfold ko at i j
  have:x.N*ao.f u<x.N*ao.f v:=by omega
  exact Int.lt_of_mul_lt_mul_left this (by omega)
 rcases ab1 (ao.f a) (ao.f c)with z|z
 ·exact CH s h1 h2 (lt k1 k2) (lt k3 k2) (lt k3 k4) z
 ·obtain⟨e1,e2⟩:=CH s h2 h1 (lt k3 k4) (lt k1 k4) (lt k1 k2) z
  exact⟨e1.symm,e2.symm⟩
theorem vX{g:List Pl->Int}:∀{l:List (List Pl)},l.Nodup->(∀d∈l,g d<=1)->(∀d∈l,∀e∈l,0<g d->0<g e->d=e)->sz g l<=1
 |[],_,_,_=>by simp[sz]
 |d::r,n,h1,h2=>by
  obtain⟨n1,n2⟩:=aaR.mp n
  show g d+sz g r<=1
  by_cases z:0<g d
  ·have k:∀{l:List (List Pl)},(∀e∈l,g e<=0)->sz g l<=0:=λ{l} hl=>by
    induction l with
    |nil=>simp[sz]
    |cons e l ih=>
     have:=ih λx hx=>hl x (aar _ hx)
     have:=hl e (by simp)
     show g e+sz g l<=0
     omega
   have:=k (l:=r) λe he=>by
    apply aaq
    intro y
    have:=h2 d (by simp) e (aar _ he) z (by omega)
    exact n1 (this▸he)
   have:=h1 d (by simp)
   omega
  ·have:=vX n2 (λe he=>h1 e (aar _ he)) (λe he u hu=>h2 e (aar _ he) u (aar _ hu))
   omega
theorem GP(w:Way)(x:Pt)(a b:Pl):wn w x a b<=1/\(0<wn w x a b->ko w a x<=0/\0<ko w b x):=by
 unfold wn K6
 split<;>rename_i h1<;>split<;>rename_i h2
 ·exact⟨by omega,λ_=>⟨h1.1,h1.2.1⟩⟩
 ·exact⟨by omega,λ_=>⟨h1.1,h1.2.1⟩⟩
 ·exact⟨by omega,λz=>by omega⟩
 ·exact⟨by omega,λz=>by omega⟩
theorem JH{Q:List Pl}(s:c8 Q){x:Pt}(hN:0<x.N):sz (wL ao x) (SL Q)<=1:=by
 refine vX (jz s) (λd hd=>?_) λd hd e he k1 k2=>?_
 ·obtain⟨a,b,rfl⟩:=iC hd
  exact(GP ao x a b).1
 ·obtain⟨a,b,rfl⟩:=iC hd
  obtain⟨u,v,rfl⟩:=iC he
  obtain⟨i1,i2⟩:=(GP ao x a b).2 k1
  obtain⟨j1,j2⟩:=(GP ao x u v).2 k2
  obtain⟨rfl,rfl⟩:=Nd s ((bX s).mp hd) ((bX s).mp he) i1 i2 j1 j2 hN
  rfl
def ins(x:Pt):List Pl->Int
 |[a,b,c]=>if 0<hw a b x/\0<hw b c x/\0<hw c a x then 1 else 0
 |_=>0
def Gen(Q:List Pl)(x:Pt):Prop:=0<x.N/\∀a∈Q,∀b∈Q,a≠b->hw a b x≠0
theorem gK.parts{Q t:List Pl}(h:gK Q t):∃a b c,t=[a,b,c]/\0<tw a b c/\a∈Q/\b∈Q/\c∈Q/\a≠b/\b≠c/\c≠a:=by
 obtain⟨⟨a,b,c,rfl,l1,l2,p⟩,h2⟩:=h
 refine⟨a,b,c,rfl,p,h2 a (by simp),h2 b (by simp),h2 c (by simp),λz=>?_,λz=>?_,λz=>?_⟩
 ·rw[z]at p;unfold tw at p;exact absurd p (by grind)
 ·rw[z]at p;unfold tw at p;exact absurd p (by grind)
 ·rw[z]at p;unfold tw at p;exact absurd p (by grind)
theorem JI{Q t:List Pl}{x:Pt}(s:c8 Q)(g:Gen Q x)(h:gK Q t):sz (wL ao x) (eL t)=ins x t:=by
 obtain⟨a,b,c,rfl,p,ha,hb,hc,n1,n2,n3⟩:=h.parts
 show wn ao x a b+(wn ao x b c+(wn ao x c a+0))=if 0<hw a b x/\0<hw b c x/\0<hw c a x then 1 else 0
 have:=Nb (w:=ao) g.1 p (xH s ha hb n1) (g.2 a ha b hb n1) (g.2 b hb c hc n2) (g.2 c hc a ha n3)
 rw[<-this]
 omega
theorem xQ{Q:List Pl}{x:Pt}(s:c8 Q)(g:Gen Q x):∀{ts:List (List Pl)},(∀t∈ts,gK Q t)->sz (wL ao x) (aS ts)=sz (ins x) ts
 |[],_=>rfl
 |t::r,h=>by
  have e:aS (t::r)=eL t++aS r:=by unfold aS;rw[abl]
  rw[e,GL,JI s g (h t (by simp)),xQ s g λu hu=>h u (aar _ hu)]
  rfl
structure b9(Q:List Pl)(ts:List (List Pl)):Prop where
 vY:c8 Q
 vZ:Bc Q (aS ts)
 bV:∀t∈ts,gK Q t
theorem b9.Nf{Q:List Pl}{ts:List (List Pl)}(c:b9 Q ts)(nf:¬Flat Q){x:Pt}(g:Gen Q x):sz (ins x) ts<=1:=by
 rw[<-xQ c.vY g c.bV,GO c.vY nf c.vZ λa b=>CD ao x a b]
 exact JH c.vY g.1
theorem GQ{g:List Pl->Int}(h0:∀t,0<=g t){t u:List Pl}(ne:t≠u):∀{ts:List (List Pl)},t∈ts->u∈ts->g t+g u<=sz g ts
 |v::r,ht,hu=>by
  show _<=g v+sz g r
  have one:∀{l:List (List Pl)} {z:List Pl},z∈l->g z<=sz g l:=λ{l z} hz=>by
   induction l with
   |nil=>cases hz
   |cons e l ih=>
    have n:0<=sz g l:=by
     clear ih hz
     induction l with
     |nil=>simp[sz]
     |cons a l ih=>have:=h0 a;show 0<=g a+sz g l;omega
    show g z<=g e+sz g l
    rcases aat.mp hz with rfl|m
    ·omega
    ·have:=ih m;have:=h0 e;omega
  rcases aat.mp ht with e1|k1
  ·rcases aat.mp hu with e2|k2
   ·exact absurd (e1.trans e2.symm) ne
   ·have:=one k2;rw[e1];omega
  ·rcases aat.mp hu with e2|k2
   ·have:=one k1;rw[e2];omega
   ·have:=GQ h0 ne k1 k2;have:=h0 v;omega
theorem Ng(x:Pt)(t:List Pl):0<=ins x t:=by
 unfold ins
 split
 ·split<;>omega
 ·omega
theorem b9.one{Q:List Pl}{ts:List (List Pl)}(c:b9 Q ts)(nf:¬Flat Q){x:Pt}(g:Gen Q x){t u:List Pl}(ht:t∈ts)(hu:u∈ts)(it:ins x t=1)(iu:ins x u=1):t=u:=by
 apply aaq
 intro ne
 have:=GQ (Ng x) ne ht hu
 have:=c.Nf nf g
 omega
end L3
namespace L3
def Bh(p q c d:Pl):Int:=(q.x-p.x)*(d.x-c.x)+(q.y-p.y)*(d.y-c.y)
theorem GR(g:Pl->Pl->Nat)(Q:List Pl):∃B:Nat,∀p∈Q,∀q∈Q,g p q<=B:=by
 have one:∀(h:Pl->Nat) (R:List Pl),∃B:Nat,∀p∈R,h p<=B:=λh R=>by
  induction R with
  |nil=>exact⟨0,λp hp=>by cases hp⟩
  |cons a R ih=>
   obtain⟨B,hB⟩:=ih
   refine⟨B+h a,λp hp=>?_⟩
   rcases aat.mp hp with rfl|m
   ·omega
   ·have:=hB p m;omega
 have two:∀(R:List Pl),∃B:Nat,∀p∈R,∀q∈Q,g p q<=B:=λR=>by
  induction R with
  |nil=>exact⟨0,λp hp=>by cases hp⟩
  |cons a R ih=>
   obtain⟨B,hB⟩:=ih
   obtain⟨C,hC⟩:=one (g a) Q
   refine⟨B+C,λp hp q hq=>?_⟩
   rcases aat.mp hp with rfl|m
   ·have:=hC q hq;omega
   ·have:=hB p m q hq;omega
 exact two Q
theorem QC{B t u v:Int}(h0:0<=B)(hu: -B<=u/\u<=B)(hv: -B<=v/\v<=B)(h:0<t\/(t=0/\(0<u\/(u=0/\0<v)))):0<(B+1)*(B+1)*t+(B+1)*u+v:=by
 rcases h with h|⟨rfl,h|⟨rfl,h⟩⟩
 ·have m1:0<=(B+1)*(B+1)*(t-1):=aaB (aaB (by omega) (by omega)) (by omega)
  have m2:0<=(B+1)*(u+B):=aaB (by omega) (by omega)
  have e1:(B+1)*(B+1)*(t-1)=(B+1)*(B+1)*t-(B+1)*(B+1):=by rw[aa3,acN]
  have e2:(B+1)*(u+B)=(B+1)*u+(B+1)*B:=Int.mul_add _ _ _
  have e3:(B+1)*(B+1)=(B+1)*B+(B+1):=by rw[Int.mul_add,acN]
  omega
 ·have m2:0<=(B+1)*(u-1):=aaB (by omega) (by omega)
  have e2:(B+1)*(u-1)=(B+1)*u-(B+1):=by rw[aa3,acN]
  rw[abe]
  omega
 ·rw[abe,abe]
  omega
theorem pZ{p q c d:Pl}(n1:p≠q)(n2:c≠d)(h:tw p q d-tw p q c=0):Bh p q c d≠0:=λz=>by
 have e:(tw p q d-tw p q c)*(tw p q d-tw p q c)+Bh p q c d*Bh p q c d=((q.x-p.x)*(q.x-p.x)+(q.y-p.y)*(q.y-p.y))*((d.x-c.x)*(d.x-c.x)+(d.y-c.y)*(d.y-c.y)):=by unfold tw Bh;grind
 rw[h,z]at e
 have pos:∀u v:Pl,u≠v->0<(v.x-u.x)*(v.x-u.x)+(v.y-u.y)*(v.y-u.y):=λu v n=>by
  have s1:0<=(v.x-u.x)*(v.x-u.x):=by
   rcases ab1 0 (v.x-u.x)with k|k
   ·exact aaB k k
   ·exact aaS k k
  have s2:0<=(v.y-u.y)*(v.y-u.y):=by
   rcases ab1 0 (v.y-u.y)with k|k
   ·exact aaB k k
   ·exact aaS k k
  apply aaq
  intro k
  have z1:(v.x-u.x)*(v.x-u.x)=0:=by omega
  have z2:(v.y-u.y)*(v.y-u.y)=0:=by omega
  have z1:v.x-u.x=0:=(aaU.mp z1).elim id id
  have z2:v.y-u.y=0:=(aaU.mp z2).elim id id
  exact n (by cases u;cases v;simp only[Pl.mk.injEq];dsimp only at z1 z2;omega)
 have:=aaT (pos p q n1) (pos c d n2)
 omega
theorem Uj{Q:List Pl}{c d:Pl}(ne:c≠d):∃x:Pt,Gen Q x/\∀p∈Q,∀q∈Q,(0<tw p q c\/(tw p q c=0/\(0<tw p q d\/(tw p q d=0/\0<Bh p q c d))))->0<hw p q x:=by
 obtain⟨B,hB⟩:=GR (λp q=>(tw p q d-tw p q c).natAbs+(Bh p q c d).natAbs) Q
 refine⟨⟨((B:Int)+1)*(B+1)*c.x+(B+1)*(d.x-c.x)-(d.y-c.y),((B:Int)+1)*(B+1)*c.y+(B+1)*(d.y-c.y)+(d.x-c.x),((B:Int)+1)*(B+1)⟩,?_⟩
 have e:∀p q,hw p q ⟨((B:Int)+1)*(B+1)*c.x+(B+1)*(d.x-c.x)-(d.y-c.y),((B:Int)+1)*(B+1)*c.y+(B+1)*(d.y-c.y)+(d.x-c.x),((B:Int)+1)*(B+1)⟩=((B:Int)+1)*(B+1)*tw p q c+(B+1)*(tw p q d-tw p q c)+Bh p q c d:=λp q=>by unfold hw tw Bh;grind
 have key:∀p∈Q,∀q∈Q,(0<tw p q c\/(tw p q c=0/\(0<tw p q d\/(tw p q d=0/\0<Bh p q c d))))->0<hw p q ⟨((B:Int)+1)*(B+1)*c.x+(B+1)*(d.x-c.x)-(d.y-c.y),((B:Int)+1)*(B+1)*c.y+(B+1)*(d.y-c.y)+(d.x-c.x),((B:Int)+1)*(B+1)⟩:=λp hp q hq h=>by
  rw[e]
  have b:=hB p hp q hq
  exact QC (by omega) (by omega) (by omega) (h.imp id λ⟨z,h⟩=>⟨z,h.imp (λ_=>by omega) λ⟨z',h⟩=>⟨by omega,h⟩⟩)
 refine⟨⟨aaT (by omega) (by omega),λp hp q hq n z=>?_⟩,key⟩
 have fl:∀r,tw q p r= -tw p q r:=λr=>bY p q r
 have fd:Bh q p c d= -Bh p q c d:=by unfold Bh;grind
 have fh:=iW p q ⟨((B:Int)+1)*(B+1)*c.x+(B+1)*(d.x-c.x)-(d.y-c.y),((B:Int)+1)*(B+1)*c.y+(B+1)*(d.y-c.y)+(d.x-c.x),((B:Int)+1)*(B+1)⟩
 have k1:=key p hp q hq
 have k2:=key q hq p hp
 rw[fl,fl,fd]at k2
 by_cases c0:tw p q c=0
 ·by_cases d0:tw p q d=0
  ·have:=pZ n ne (by omega)
   rcases abA this with y|y
   ·have:=k2 (by omega);omega
   ·have:=k1 (by omega);omega
  ·rcases abA d0 with y|y
   ·have:=k2 (by omega);omega
   ·have:=k1 (by omega);omega
 ·rcases abA c0 with y|y
  ·have:=k2 (by omega);omega
  ·have:=k1 (by omega);omega
def cP(t:List Pl)(a b c:Pl):Prop:=t=[a,b,c]\/t=[b,c,a]\/t=[c,a,b]
theorem cP.dir{t:List Pl}{a b c:Pl}(r:cP t a b c):(eL t).Perm [[a,b],[b,c],[c,a]]:=by
 rcases r with rfl|rfl|rfl
 ·exact .refl _
 ·show[[b,c],[c,a],[a,b]].Perm _
  exact(aaY (l₁:=[[b,c],[c,a]]) (l₂:=[[a,b]]))
 ·show[[c,a],[a,b],[b,c]].Perm _
  exact(aaY (l₁:=[[c,a]]) (l₂:=[[a,b],[b,c]]))
theorem cP.ins{t:List Pl}{a b c:Pl}(r:cP t a b c){x:Pt}(h1:0<hw a b x)(h2:0<hw b c x)(h3:0<hw c a x):ins x t=1:=by
 rcases r with rfl|rfl|rfl
 ·exact if_pos ⟨h1,h2,h3⟩
 ·exact if_pos ⟨h2,h3,h1⟩
 ·exact if_pos ⟨h3,h1,h2⟩
theorem cP.mem{t:List Pl}{a b c:Pl}(r:cP t a b c)(q:Pl):q∈t↔q=a\/q=b\/q=c:=by
 rcases r with rfl|rfl|rfl<;>simp only[aat,aa7,or_false]
 ·exact⟨λh=>by rcases h with h|h|h<;>simp[h],λh=>by rcases h with h|h|h<;>simp[h]⟩
 ·exact⟨λh=>by rcases h with h|h|h<;>simp[h],λh=>by rcases h with h|h|h<;>simp[h]⟩
theorem cP.tw{Q t:List Pl}{a b c:Pl}(r:cP t a b c)(h:gK Q t):0<tw a b c/\a∈Q/\b∈Q/\c∈Q:=by
 obtain⟨u,v,w,rfl,p,hu,hv,hw,_⟩:=h.parts
 have e1:=jc u v w
 have e2:=nF u v w
 rcases r with e|e|e<;>injection e with x1 e<;>injection e with x2 e<;>injection e with x3 e<;>subst x1 x2 x3
 ·exact⟨p,hu,hv,hw⟩
 ·exact⟨by omega,hw,hu,hv⟩
 ·exact⟨by omega,hv,hw,hu⟩
theorem iF{Q t:List Pl}{a b:Pl}(h:gK Q t)(m:[a,b]∈eL t):∃c,cP t a b c:=by
 obtain⟨u,v,w,rfl,_⟩:=h.parts
 have m:[a,b]=[u,v]\/[a,b]=[v,w]\/[a,b]=[w,u]:=by simpa[eL]using m
 rcases m with e|e|e<;>obtain⟨rfl,rfl⟩:=aT e
 ·exact⟨w,.inl rfl⟩
 ·exact⟨u,.inr (.inr rfl)⟩
 ·exact⟨v,.inr (.inl rfl)⟩
theorem bz{ts:List (List Pl)}{w:List Pl}:w∈aS ts↔∃t∈ts,w∈eL t:=abc
section
variable{Q:List Pl}{ts:List (List Pl)}{a b c d:Pl}{t1 t2:List Pl}
theorem jL(p1:0<tw a b c)(p2:0<tw b a d)(cv:tw c d a*tw c d b<0):0<tw c d b/\tw c d a<0:=by
 have e:tw c d b-tw c d a=tw a b c+tw b a d:=by unfold tw;grind
 by_cases z:0<tw c d b
 ·refine⟨z,?_⟩
  apply aaq
  intro k
  have:=aaB (a:=tw c d a) (b:=tw c d b) (by omega) (by omega)
  omega
 ·have:=aaS (a:=tw c d a) (b:=tw c d b) (by omega) (by omega)
  omega
theorem eB(a b:Pl):tw a b a=0/\tw a b b=0/\tw a a b=0:=by unfold tw;grind
theorem b9.new_one(k:b9 Q ts)(nf:¬Flat Q)(h1:t1∈ts)(r1:cP t1 a b c)(p2:0<tw b a d)(hd:d∈Q)(cv:tw c d a*tw c d b<0):[c,d]∉aS ts:=λm=>by
 obtain⟨t,ht,m⟩:=bz.mp m
 obtain⟨e,re⟩:=iF (k.bV t ht) m
 obtain⟨p1,ha,hb,hc⟩:=r1.tw (k.bV t1 h1)
 obtain⟨p3,_,_,he⟩:=re.tw (k.bV t ht)
 obtain⟨s1,s2⟩:=jL p1 p2 cv
 have ne:c≠d:=λz=>by rw[z,(eB d b).2.2]at s1;omega
 obtain⟨x,g,hx⟩:=Uj (Q:=Q) ne
 have i1:ins x t=1:=by
  refine re.ins (hx c hc d hd (.inr ⟨(eB c d).1,.inr ⟨(eB c d).2.1,?_⟩⟩)) (hx d hd e he (.inl (by have:=jc c d e;omega))) (hx e he c hc (.inr ⟨(eB e c).2.1,.inl (by have:=nF c d e;omega)⟩))
  have n:=pZ (p:=c) (q:=d) (c:=c) (d:=d) ne ne (by rw[(eB c d).1,(eB c d).2.1];omega)
  have:0<=Bh c d c d:=by
   unfold Bh
   have q:∀z:Int,0<=z*z:=λz=>by
    rcases ab1 0 z with k|k
    ·exact aaB k k
    ·exact aaS k k
   have:=q (d.x-c.x)
   have:=q (d.y-c.y)
   omega
  omega
 have i2:ins x t1=1:=by
  refine r1.ins (hx a ha b hb (.inl p1)) (hx b hb c hc (.inr ⟨(eB b c).2.1,.inl ?_⟩)) (hx c hc a ha (.inr ⟨(eB c a).1,.inl ?_⟩))
  ·have:=jc b c d;omega
  ·have:=vP c d a;omega
 have ee:=k.one nf g ht h1 i1 i2
 subst ee
 have hd':d∈t:=(re.mem d).mpr (.inr (.inl rfl))
 rcases(r1.mem d).mp hd' with z|z|z
 ·rw[z,(eB b a).2.1]at p2;omega
 ·rw[z,(eB b a).1]at p2;omega
 ·exact ne z.symm
theorem b9.JJ(k:b9 Q ts)(nf:¬Flat Q)(h1:t1∈ts)(r1:cP t1 a b c)(h2:t2∈ts)(r2:cP t2 b a d)(cv:tw c d a*tw c d b<0):[c,d]∉aS ts/\[d,c]∉aS ts:=by
 obtain⟨p1,ha,hb,hc⟩:=r1.tw (k.bV t1 h1)
 obtain⟨p2,_,_,hd⟩:=r2.tw (k.bV t2 h2)
 refine⟨k.new_one nf h1 r1 p2 hd cv,k.new_one nf h2 r2 p1 hc ?_⟩
 rw[bY c d b,bY c d a,ack,abQ]
 exact cv
theorem Bc.swap{D D' E:List (List Pl)}(k:Bc Q D)(p:D.Perm ([a,b]::[b,a]::E))(p':D'.Perm ([c,d]::[d,c]::E))(n1:[c,d]∉D)(n2:[d,c]∉D)(ne:c≠d)(hc:c∈Q)(hd:d∈Q)
 (s1:¬bf Q a b)(s2:¬bf Q b a)(s3:¬bf Q c d)(s4:¬bf Q d c):Bc Q D':=by
 have m:∀w,w∈D↔w=[a,b]\/w=[b,a]\/w∈E:=λw=>by rw[p.mem_iff];simp only[aat]
 have m':∀w,w∈D'↔w=[c,d]\/w=[d,c]\/w∈E:=λw=>by rw[p'.mem_iff];simp only[aat]
 have nd:=p.nodup_iff.mp k.nd
 obtain⟨e1,nd⟩:=aaR.mp nd
 obtain⟨e2,nd⟩:=aaR.mp nd
 refine⟨?_,?_,?_,?_,?_⟩
 ·refine p'.nodup_iff.mpr (aaR.mpr ⟨λz=>?_,aaR.mpr ⟨λz=>n2 ((m _).mpr (.inr (.inr z))),nd⟩⟩)
  rcases aat.mp z with z|z
  ·exact ne (aT z).1
  ·exact n1 ((m _).mpr (.inr (.inr z)))
 ·intro w hw
  rcases(m' w).mp hw with rfl|rfl|z
  ·exact⟨c,d,rfl,hc,hd⟩
  ·exact⟨d,c,rfl,hd,hc⟩
  ·exact k.rF w ((m w).mpr (.inr (.inr z)))
 ·intro u v h1 h2
  have hE:[u,v]∈E:=by
   rcases(m' _).mp h1 with z|z|z
   ·obtain⟨rfl,rfl⟩:=aT z
    exact absurd ((m' _).mpr (.inr (.inl rfl))) h2
   ·obtain⟨rfl,rfl⟩:=aT z
    exact absurd ((m' _).mpr (.inl rfl)) h2
   ·exact z
  refine k.bare u v ((m _).mpr (.inr (.inr hE))) λz=>?_
  rcases(m _).mp z with z|z|z
  ·obtain⟨rfl,rfl⟩:=aT z
   exact e2 hE
  ·obtain⟨rfl,rfl⟩:=aT z
   exact e1 (aar _ hE)
  ·exact h2 ((m' _).mpr (.inr (.inr z)))
 ·intro u v h z
  rcases(m' _).mp z with z|z|z
  ·obtain⟨rfl,rfl⟩:=aT z
   exact s4 h
  ·obtain⟨rfl,rfl⟩:=aT z
   exact s3 h
  ·exact k.pV u v h ((m _).mpr (.inr (.inr z)))
 ·intro u v h
  refine(k.has u v h).imp id λz=>?_
  rcases(m _).mp z with z|z|z
  ·obtain⟨rfl,rfl⟩:=aT z
   exact absurd h s1
  ·obtain⟨rfl,rfl⟩:=aT z
   exact absurd h s2
  ·exact(m' _).mpr (.inr (.inr z))
theorem b9.nodup(k:b9 Q ts):ts.Nodup:=by
 have nd:=k.vZ.nd
 have bV:=k.bV
 clear k
 induction ts with
 |nil=>exact .nil
 |cons t r ih=>
  have e:aS (t::r)=eL t++aS r:=by unfold aS;rw[abl]
  rw[e]at nd
  obtain⟨_,n2,n3⟩:=aa1.mp nd
  refine aaR.mpr ⟨λz=>?_,ih n2 λu hu=>bV u (aar _ hu)⟩
  obtain⟨u,v,w,e,_⟩:=(bV t (by simp)).parts
  have m:[u,v]∈eL t:=by rw[e];simp[eL]
  exact n3 _ m _ (bz.mpr ⟨t,z,m⟩) rfl
theorem b9.flip(k:b9 Q ts)(nf:¬Flat Q){rest ts':List (List Pl)}{u1 u2:List Pl}(p:ts.Perm (t1::t2::rest))(r1:cP t1 a b c)(r2:cP t2 b a d)(cv:tw c d a*tw c d b<0)
 (p':ts'.Perm (u1::u2::rest))(v1:cP u1 a d c)(v2:cP u2 b c d)(l1:dY u1)(l2:dY u2):b9 Q ts':=by
 have h1:t1∈ts:=p.mem_iff.mpr (by simp)
 have h2:t2∈ts:=p.mem_iff.mpr (by simp)
 obtain⟨p1,ha,hb,hc⟩:=r1.tw (k.bV t1 h1)
 obtain⟨p2,_,_,hd⟩:=r2.tw (k.bV t2 h2)
 obtain⟨s1,s2⟩:=jL p1 p2 cv
 obtain⟨n1,n2⟩:=k.JJ nf h1 r1 h2 r2 cv
 have ne:c≠d:=λz=>by rw[z,(eB d b).2.2]at s1;omega
 refine⟨k.vY,?_,λt ht=>?_⟩
 ·have e1:(aS ts).Perm ([a,b]::[b,a]::([b,c]::[c,a]::[a,d]::[d,b]::aS rest)):=by
   have q1:(aS ts).Perm (eL t1++(eL t2++aS rest)):=by
    have:=p.flatMap_right (f:=eL)
    unfold aS
    simpa only[abl]using this
   refine q1.trans (((r1.dir.append_right _).trans ((r2.dir.append_right _).append_left _)).trans ?_)
   exact .cons _ (adM (l₁:=[[b,c],[c,a]]))
  have e2:(aS ts').Perm ([c,d]::[d,c]::([b,c]::[c,a]::[a,d]::[d,b]::aS rest)):=by
   have q1:(aS ts').Perm (eL u1++(eL u2++aS rest)):=by
    have:=p'.flatMap_right (f:=eL)
    unfold aS
    simpa only[abl]using this
   refine q1.trans (((v1.dir.append_right _).trans ((v2.dir.append_right _).append_left _)).trans ?_)
   show([a,d]::[d,c]::[c,a]::[b,c]::[c,d]::[d,b]::aS rest).Perm _
   refine(adM (l₁:=[[a,d],[d,c],[c,a],[b,c]])).trans (.cons _ ?_)
   refine(List.Perm.swap _ _ _).trans (.cons _ ?_)
   exact(acX [[b,c],[c,a],[a,d]]).append_right _
  refine k.vZ.swap e1 e2 n1 n2 ne hc hd (λh=>?_) (λh=>?_) (λh=>?_) (λh=>?_)
  ·have:=(h.2.2.2 d hd).1;have:=bY a b d;omega
  ·have:=(h.2.2.2 c hc).1;have:=bY a b c;omega
  ·have:=(h.2.2.2 a ha).1;omega
  ·have:=(h.2.2.2 b hb).1;have:=bY c d b;omega
 ·rcases aat.mp (p'.mem_iff.mp ht)with rfl|ht
  ·exact⟨l1,λq hq=>by rcases(v1.mem q).mp hq with rfl|rfl|rfl<;>assumption⟩
  ·rcases aat.mp ht with rfl|ht
   ·exact⟨l2,λq hq=>by rcases(v2.mem q).mp hq with rfl|rfl|rfl<;>assumption⟩
   ·exact k.bV t (p.mem_iff.mpr (aar _ (aar _ ht)))
end
end L3
namespace L3
theorem Bj{Q:List Pl}{p:Pl}(s:c8 (Q++[p]))(h:Q≠[]):(SL (Q++[p])).length+(cE Q p).length=(SL Q).length+2:=by
 have g:=Jz s
 have so:=s.old
 have l2:2<=(Q++[p]).length:=by
  have:=acH.mpr h
  rw[aaA,acw];omega
 obtain⟨u,hu⟩:=(pU s l2).2 p (by simp)
 obtain⟨v,hv⟩:=tL s hu
 have sp:=split_len (Ll p) (SL Q)
 have np:∀a b,[a,b]∈SL Q->a≠p/\b≠p:=λa b m=>by
  have:=(bX so).mp m
  exact⟨λz=>s.out (z▸this.1),λz=>s.out (z▸this.2.1)⟩
 have:=sub_len (l:=[u,p]::[p,v]::(SL Q).filter (λv=>!Ll p v)) (m:=SL (Q++[p])) (by
  refine aaR.mpr ⟨λz=>?_,aaR.mpr ⟨λz=>?_,(jz so).filter _⟩⟩
  ·rcases aat.mp z with z|z
   ·exact hu.2.2.1 (aT z).1
   ·exact(np u p (aaw.mp z).1).2 rfl
  ·exact(np p v (aaw.mp z).1).1 rfl) (λw hw=>by
  rcases aat.mp hw with rfl|hw
  ·exact(bX s).mpr hu
  ·rcases aat.mp hw with rfl|hw
   ·exact(bX s).mpr hv
   ·obtain⟨m,k⟩:=aaw.mp hw
    obtain⟨a,b,rfl⟩:=iC m
    have sd:=(bX so).mp m
    refine(bX s).mpr ((iD s sd.1 sd.2.1).mpr ⟨sd,?_⟩)
    replace k:(!decide (tw a b p<0))=true:=k
    rw[abt]at k
    have:=of_decide_eq_false k
    omega)
 rw[aaX,aaX]at this
 unfold cE at *
 omega
theorem tU{qs:List Pl}(s:c8 qs):∀k,k+1<=qs.length->(qT qs (k+1)).length+(SL (qs.take (k+1))).length=2*k
 |0,h=>by
  have e:SL (qs.take 0)=[]:=oH (by simp)
  rw[oH (by simp;omega)]
  show(qT qs 0++(cE (qs.take 0) (zp qs 0)).map (Gu (zp qs 0))).length+0=0
  unfold cE
  rw[e]
  rfl
 |k+1,h=>by
  have st:=s.take (k+2)
  have ih:=tU s k (by omega)
  rw[pY (by omega)]at st ⊢
  have ne:qs.take (k+1)≠[]:=λz=>by
   have:=congrArg List.length z
   rw[abB,abW]at this
   omega
  have:=Bj st ne
  show(qT qs (k+1)++(cE (qs.take (k+1)) (zp qs (k+1))).map (Gu (zp qs (k+1)))).length+_=_
  rw[aaA,aas]
  omega
theorem DU{qs:List Pl}(s:c8 qs)(h:2<=qs.length):(qT qs qs.length).length+(bI qs).length+2=2*qs.length:=by
 obtain⟨l2,e,_⟩:=vO s h
 have:=tU s (qs.length-1) (by omega)
 rw[show qs.length-1+1=qs.length by omega,aa4,e,aci,aaA,abC,abB]at this
 omega
def cr:List Pl->Int
 |[a,b]=>a.x*b.y-a.y*b.x
 |_=>0
def Xz(bd:List Pl)(k:Nat):Pl:=if k=0 then bd.getLastD ⟨0,0⟩else zp bd (k-1)
def rF(bd:List Pl):Nat->Int
 |0=>0
 |k+1=>rF bd k+cr [Xz bd k,zp bd k]
end L3
namespace L3
theorem zx{P:Pl->Prop}:∀{l:List Pl} {x y:Pl},l.head?=some x->l.getLast?=some y->P x->¬P y->∃a b,Nx l a b/\P a/\¬P b
 |[],_,_,h,_,_,_=>by cases h
 |[z],x,y,h1,h2,p,q=>by
  have e1:z=x:=by simpa using h1
  have e2:z=y:=by simpa using h2
  rw[<-e1]at p
  rw[<-e2]at q
  exact absurd p q
 |z::u::r,x,y,h1,h2,p,q=>by
  have e1:z=x:=by simpa using h1
  have h2':(u::r).getLast?=some y:=by simpa using h2
  rw[<-e1]at p
  by_cases k:P u
  ·obtain⟨a,b,n,pa,pb⟩:=zx (l:=u::r) rfl h2' k q
   exact⟨a,b,.inr n,pa,pb⟩
  ·exact⟨z,u,.inl ⟨rfl,rfl⟩,p,k⟩
theorem Bk{Q:List Pl}(s:c8 Q)(h2:2<=Q.length):∃(T:List Pl) (x y:Pl),T.head?=some x/\T.getLast?=some y/\(∀q∈Q,ao.f x<=ao.f q/\ao.f q<=ao.f y)/\∀a b,Nx T a b->bf Q a b:=by
 obtain⟨hs,hok⟩:=id s
 have hne:Q≠[]:=λz=>by rw[z]at h2;simp at h2
 obtain⟨x,hx⟩:∃x,Q.head?=some x:=by
  cases e:Q with
  |nil=>exact absurd e hne
  |cons x r=>exact⟨x,rfl⟩
 obtain⟨y,hy⟩:∃y,Q.getLast?=some y:=⟨_,abn hne⟩
 have mx:x∈Q:=ab7 hx
 have my:y∈Q:=abE hy
 have hend:=gv hs hx hy
 have be:∀p∈Q,∀q∈Q,(aQ p q↔ao.f p<ao.f q):=λp hp q hq=>lB (hok p hp) (hok q hq)
 have C1:Ch ao Q (Q.foldl aR []):=lA hne (hs.imp_of_mem λhp hq h=>(be _ hp _ hq).mp h)
 have key:∀p∈Q,∀q∈Q,(p=q\/aQ p q)->ao.f p<=ao.f q:=λp hp q hq k=>by
  rcases k with rfl|k
  ·exact abr _
  ·have a1:=(be p hp q hq).mp k
   omega
 have lo:∀q∈Q,ao.f x<=ao.f q:=λq hq=>key x mx q hq ((hend q hq).1.imp Eq.symm id)
 have hi:∀q∈Q,ao.f q<=ao.f y:=λq hq=>key q hq y my (hend q hq).2
 obtain⟨p1,p2⟩:=C1.ends mx my lo hi
 refine⟨(Q.foldl aR []).reverse,x,y,by rw[ab4];exact p2,by rw[abJ];exact p1,λq hq=>⟨lo q hq,hi q hq⟩,λa b k=>?_⟩
 obtain⟨c1,c2,c3,c4⟩:=(iA C1).mp ((mz _ a b).mpr k)
 refine⟨c1,c2,λz=>by rw[z]at c3;omega,tO s c1 c2 λq hq=>?_⟩
 obtain⟨k1,k2⟩:=c4 q hq
 refine⟨k1,λz h=>?_⟩
 have:=k2 z
 omega
theorem QD(a b p q r:Pl)(x:Pt):hw a b x*tw p q r=hw q r x*tw a b p+hw r p x*tw a b q+hw p q x*tw a b r:=by unfold hw tw;grind
theorem JK{Q:List Pl}(s:c8 Q)(h2:2<=Q.length){x:Pt}(g:Gen Q x){p q r:Pl}(hp:p∈Q)(hq:q∈Q)(hr:r∈Q)(t:0<tw p q r)(i1:0<hw p q x)(i2:0<hw q r x)(i3:0<hw r p x):1<=sz (wL ao x) (SL Q):=by
 have left:∀a b,bf Q a b->0<hw a b x:=λa b h=>by
  have e:=QD a b p q r x
  have m1:=aaB (aaO i2) (h.2.2.2 p hp).1
  have m2:=aaB (aaO i3) (h.2.2.2 q hq).1
  have m3:=aaB (aaO i1) (h.2.2.2 r hr).1
  have n:=g.2 a h.1 b h.2.1 h.2.2.1
  apply aaq
  intro z
  have:=abj (a:=hw a b x) (b:=tw p q r) (by omega) t
  omega
 have flat:∀a b,bf Q a b->K6 ao x b a=0:=λa b h=>by
  unfold K6
  rw[if_neg]
  rintro⟨_,_,k⟩
  have:=left a b h
  rw[iW]at k
  omega
 obtain⟨T,lo,hi,e1,e2,e3,e4⟩:=Bk s h2
 have fN:∀u v:Pl,ao.f u<=ao.f v->ko ao u x<=ko ao v x:=λu v h=>by
  unfold ko
  have:=abP h (aaO g.1)
  omega
 have k:=GG ao p q r x
 have P1:ko ao lo x<=0:=by
  apply aaq
  intro z
  have a1:=fN lo p (e3 p hp).1
  have a2:=fN lo q (e3 q hq).1
  have a3:=fN lo r (e3 r hr).1
  have m1:=aaT i2 (show 0<ko ao p x by omega)
  have m2:=aaT i3 (show 0<ko ao q x by omega)
  have m3:=aaT i1 (show 0<ko ao r x by omega)
  omega
 have P2:¬ko ao hi x<=0:=by
  intro z
  have a1:=fN p hi (e3 p hp).2
  have a2:=fN q hi (e3 q hq).2
  have a3:=fN r hi (e3 r hr).2
  have m1:=aaJ (aaO i2) (show ko ao p x<=0 by omega)
  have m2:=aaJ (aaO i3) (show ko ao q x<=0 by omega)
  have m3:=aaJ (aaO i1) (show ko ao r x<=0 by omega)
  have z1:ko ao p x=0:=(aaU.mp (show hw q r x*ko ao p x=0 by omega)).resolve_left (by omega)
  have z2:ko ao q x=0:=(aaU.mp (show hw r p x*ko ao q x=0 by omega)).resolve_left (by omega)
  have ne:p≠q:=λe=>by rw[e,(eB q r).2.2]at t;omega
  have g1:=g.1
  refine xH s hp hq ne (acZ (a:=x.N) (by omega) ?_)
  unfold ko at z1 z2
  omega
 obtain⟨a,b,n,pa,pb⟩:=zx (P:=λv=>ko ao v x<=0) e1 e2 P1 P2
 have Uk:=e4 a b n
 have one:wL ao x [a,b]=1:=by
  show wn ao x a b=1
  unfold wn
  rw[flat a b Uk]
  unfold K6
  rw[if_pos ⟨pa,by omega,left a b Uk⟩]
  rfl
 have nn:∀d∈SL Q,0<=wL ao x d:=λd hd=>by
  obtain⟨u,v,rfl⟩:=iC hd
  show 0<=wn ao x u v
  unfold wn
  rw[flat u v ((bX s).mp hd)]
  unfold K6
  split<;>omega
 have key:∀{l:List (List Pl)},(∀d∈l,0<=wL ao x d)->(0<=sz (wL ao x) l/\∀d∈l,wL ao x d<=sz (wL ao x) l):=λ{l} hl=>by
  induction l with
  |nil=>exact⟨by simp[sz],λd hd=>by cases hd⟩
  |cons e l ih=>
   obtain⟨h1,h2⟩:=ih λd hd=>hl d (aar _ hd)
   have h0:=hl e (by simp)
   refine⟨by show 0<=wL ao x e+sz (wL ao x) l;omega,λd hd=>?_⟩
   show _<=wL ao x e+sz (wL ao x) l
   rcases aat.mp hd with rfl|hd
   ·omega
   ·have:=h2 d hd;omega
 have:=(key nn).2 [a,b] ((bX s).mpr Uk)
 omega
theorem b9.some{Q:List Pl}{ts:List (List Pl)}(c:b9 Q ts)(nf:¬Flat Q){x:Pt}(g:Gen Q x){p q r:Pl}(hp:p∈Q)(hq:q∈Q)(hr:r∈Q)(t:0<tw p q r)(i1:0<hw p q x)(i2:0<hw q r x)(i3:0<hw r p x):∃u∈ts,ins x u=1:=by
 have h2:2<=Q.length:=by
  apply aaq
  intro z
  exact nf (iB (by omega))
 have k:=JK c.vY h2 g hp hq hr t i1 i2 i3
 rw[<-GO c.vY nf c.vZ λa b=>CD ao x a b,xQ c.vY g c.bV]at k
 apply aaq
 intro no
 have z:∀{l:List (List Pl)},(∀u∈l,ins x u≠1)->sz (ins x) l<=0:=λ{l} hl=>by
  induction l with
  |nil=>simp[sz]
  |cons e l ih=>
   have h1:=ih λd hd=>hl d (aar _ hd)
   have h0:=hl e (by simp)
   have:ins x e=0\/ins x e=1:=by
    unfold ins
    split
    ·split
     ·exact .inr rfl
     ·exact .inl rfl
    ·exact .inl rfl
   show ins x e+sz (ins x) l<=0
   omega
 have:=z λu hu e=>no ⟨u,hu,e⟩
 omega
def mZ(p q:Pl)(v:Pl):Int:=(q.x-p.x)*v.y-(q.y-p.y)*v.x
def Al(p q:Pl)(v:Pl):Int:=(q.x-p.x)*v.x+(q.y-p.y)*v.y
def Lex(X:Pt)(v p q:Pl):Prop:=0<hw p q X\/(hw p q X=0/\(0<mZ p q v\/(mZ p q v=0/\0<Al p q v)))
theorem CI{p q v:Pl}(n:p≠q)(nv:v≠⟨0,0⟩)(h:mZ p q v=0):Al p q v≠0:=λz=>by
 refine pZ (p:=p) (q:=q) (c:=⟨0,0⟩) (d:=v) n (Ne.symm nv) ?_ ?_
 ·unfold tw
  unfold mZ at h
  dsimp only
  grind
 ·unfold Bh
  unfold Al at z
  dsimp only
  grind
theorem beside{Q:List Pl}{X:Pt}(hN:0<X.N){v:Pl}(nv:v≠⟨0,0⟩):∃x:Pt,Gen Q x/\∀p∈Q,∀q∈Q,Lex X v p q->0<hw p q x:=by
 obtain⟨B,hB⟩:=GR (λp q=>(mZ p q v).natAbs+(Al p q v).natAbs) Q
 refine⟨⟨((B:Int)+1)*(B+1)*X.X+(B+1)*v.x-v.y,((B:Int)+1)*(B+1)*X.Y+(B+1)*v.y+v.x,((B:Int)+1)*(B+1)*X.N⟩,?_⟩
 have e:∀p q,hw p q ⟨((B:Int)+1)*(B+1)*X.X+(B+1)*v.x-v.y,((B:Int)+1)*(B+1)*X.Y+(B+1)*v.y+v.x,((B:Int)+1)*(B+1)*X.N⟩=((B:Int)+1)*(B+1)*hw p q X+(B+1)*mZ p q v+Al p q v:=λp q=>by unfold hw mZ Al;grind
 have XA:0<((B:Int)+1)*(B+1)*X.N:=aaT (aaT (by omega) (by omega)) hN
 have key:∀p∈Q,∀q∈Q,Lex X v p q->0<((B:Int)+1)*(B+1)*hw p q X+(B+1)*mZ p q v+Al p q v:=λp hp q hq h=>by
  have b:=hB p hp q hq
  exact QC (by omega) (by omega) (by omega) h
 refine⟨⟨XA,λp hp q hq n z=>?_⟩,λp hp q hq h=>by rw[e];exact key p hp q hq h⟩
 rw[e]at z
 have f1:=iW p q X
 have f2:mZ q p v= -mZ p q v:=by unfold mZ;grind
 have f3:Al q p v= -Al p q v:=by unfold Al;grind
 have k1:=key p hp q hq
 have k2:=key q hq p hp
 have e2:((B:Int)+1)*(B+1)*hw q p X+(B+1)*mZ q p v+Al q p v= -(((B:Int)+1)*(B+1)*hw p q X+(B+1)*mZ p q v+Al p q v):=by rw[f1,f2,f3];grind
 rw[e2]at k2
 unfold Lex at k1 k2
 by_cases c0:hw p q X=0
 ·by_cases d0:mZ p q v=0
  ·have:=CI n nv d0
   rcases abA this with y|y
   ·have:=k2 (.inr ⟨by omega,.inr ⟨by omega,by omega⟩⟩);omega
   ·have:=k1 (.inr ⟨c0,.inr ⟨d0,y⟩⟩);omega
  ·rcases abA d0 with y|y
   ·have:=k2 (.inr ⟨by omega,.inl (by omega)⟩);omega
   ·have:=k1 (.inr ⟨c0,.inl y⟩);omega
 ·rcases abA c0 with y|y
  ·have:=k2 (.inl (by omega));omega
  ·have:=k1 (.inl y);omega
def Wk(X:Pt)(a b c:Pl):Prop:=0<=hw a b X/\0<=hw b c X/\0<=hw c a X
theorem into{X:Pt}(hN:0<X.N){a b c:Pl}(t:0<tw a b c)(h:Wk X a b c):∃v:Pl,v≠⟨0,0⟩/\Lex X v a b/\Lex X v b c/\Lex X v c a:=by
 have pN:=aaT hN t
 have e1:mZ a b ⟨X.N*(a.x+b.x+c.x)-3*X.X,X.N*(a.y+b.y+c.y)-3*X.Y⟩=X.N*tw a b c-3*hw a b X:=by unfold mZ tw hw;grind
 have e2:mZ b c ⟨X.N*(a.x+b.x+c.x)-3*X.X,X.N*(a.y+b.y+c.y)-3*X.Y⟩=X.N*tw a b c-3*hw b c X:=by unfold mZ tw hw;grind
 have e3:mZ c a ⟨X.N*(a.x+b.x+c.x)-3*X.X,X.N*(a.y+b.y+c.y)-3*X.Y⟩=X.N*tw a b c-3*hw c a X:=by unfold mZ tw hw;grind
 generalize (⟨X.N*(a.x+b.x+c.x)-3*X.X,X.N*(a.y+b.y+c.y)-3*X.Y⟩:Pl)=v at e1 e2 e3
 obtain⟨h1,h2,h3⟩:=h
 by_cases z:v= ⟨0,0⟩
 ·have y1:mZ a b v=0:=by rw[z];unfold mZ;grind
  have y2:mZ b c v=0:=by rw[z];unfold mZ;grind
  have y3:mZ c a v=0:=by rw[z];unfold mZ;grind
  exact⟨⟨1,0⟩,by simp,.inl (by omega),.inl (by omega),.inl (by omega)⟩
 ·have one:∀p q,0<=hw p q X->mZ p q v=X.N*tw a b c-3*hw p q X->Lex X v p q:=λp q k e=>by
   by_cases y:hw p q X=0
   ·exact .inr ⟨y,.inl (by omega)⟩
   ·exact .inl (by omega)
  exact⟨v,z,one a b h1 e1,one b c h2 e2,one c a h3 e3⟩
section
variable{Q:List Pl}{ts:List (List Pl)}{X:Pt}
theorem b9.same(k:b9 Q ts)(nf:¬Flat Q)(hN:0<X.N){t u:List Pl}(ht:t∈ts)(hu:u∈ts){a b c a' b' c':Pl}(r:cP t a b c)(r':cP u a' b' c'){v:Pl}(nv:v≠⟨0,0⟩)
 (h1:Lex X v a b)(h2:Lex X v b c)(h3:Lex X v c a)(g1:Lex X v a' b')(g2:Lex X v b' c')(g3:Lex X v c' a'):t=u:=by
 obtain⟨_,ha,hb,hc⟩:=r.tw (k.bV t ht)
 obtain⟨_,ha',hb',hc'⟩:=r'.tw (k.bV u hu)
 obtain⟨x,g,hx⟩:=beside (Q:=Q) hN nv
 exact k.one nf g ht hu (r.ins (hx _ ha _ hb h1) (hx _ hb _ hc h2) (hx _ hc _ ha h3)) (r'.ins (hx _ ha' _ hb' g1) (hx _ hb' _ hc' g2) (hx _ hc' _ ha' g3))
theorem b9.alone(k:b9 Q ts)(nf:¬Flat Q)(hN:0<X.N){t u:List Pl}(ht:t∈ts)(hu:u∈ts){a b c a' b' c':Pl}(r:cP t a b c)(r':cP u a' b' c')(h1:0<hw a b X)(h2:0<hw b c X)(h3:0<hw c a X)(h:Wk X a' b' c'):t=u:=by
 obtain⟨p,_⟩:=r'.tw (k.bV u hu)
 obtain⟨v,nv,g1,g2,g3⟩:=into hN p h
 exact k.same nf hN ht hu r r' nv (.inl h1) (.inl h2) (.inl h3) g1 g2 g3
theorem v5{a b c:Pl}(t:0<tw a b c)(h1:hw a b X=0)(h2:hw b c X=0):X.X=X.N*b.x/\X.Y=X.N*b.y:=by
 have e1:tw a b c*(X.X-X.N*b.x)=hw a b X*(c.x-b.x)+hw b c X*(a.x-b.x):=by unfold tw hw;grind
 have e2:tw a b c*(X.Y-X.N*b.y)=hw a b X*(c.y-b.y)+hw b c X*(a.y-b.y):=by unfold tw hw;grind
 rw[h1,h2,ab3,ab3]at e1 e2
 have z1:=(aaU.mp (e1.trans (by omega))).resolve_left (by omega)
 have z2:=(aaU.mp (e2.trans (by omega))).resolve_left (by omega)
 omega
end
end L3
namespace L3
section
variable{Q:List Pl}{X:Pt}
end
end L3
namespace L3
def cL(H:Pl->Int)(a b c p:Pl):Int:=tw a b c*H p-(tw b c p*H a+tw c a p*H b+tw a b p*H c)
def K7(p:Pl):Int:=p.x*p.x+p.y*p.y
theorem JL(a b c d:Pl):cL K7 a b c d= -dep a b c d:=by unfold cL K7 dep wQ tw;grind
theorem JM(K C:Int)(f g:Pl->Int)(a b c d:Pl):cL (λp=>K*f p-g p+C) a b c d=K*cL f a b c d-cL g a b c d:=by unfold cL tw;grind
theorem rJ(H:Pl->Int)(a b c p:Pl):cL H b c a p=cL H a b c p:=by unfold cL tw;grind
theorem K8(H:Pl->Int)(a b c:Pl):cL H a b c a=0:=by unfold cL tw;grind
theorem K9(H:Pl->Int)(a b c:Pl):cL H a b c b=0:=by unfold cL tw;grind
theorem GS(H:Pl->Int)(a b c:Pl):cL H a b c c=0:=by unfold cL tw;grind
theorem zy(H:Pl->Int)(a b c d:Pl):cL H a b d c= -cL H a b c d:=by unfold cL tw;grind
theorem p7(H:Pl->Int)(a b c q p:Pl):cL H b a q p*tw a b c=cL H a b c p*tw b a q-cL H a b c q*tw b a p:=by unfold cL tw;grind
theorem oM(H:Pl->Int)(a b c q p:Pl):cL H a b q p*tw a b c=cL H a b c p*tw a b q-cL H a b c q*tw a b p:=by unfold cL tw;grind
theorem xR{α:Type}(f:α->Int):∀l:List α,∃B:Nat,∀x∈l,(f x).natAbs<=B
 |[]=>⟨0,λx hx=>by cases hx⟩
 |y::r=>by
  obtain⟨B,hB⟩:=xR f r
  refine⟨B+(f y).natAbs,λx hx=>?_⟩
  rcases aat.mp hx with rfl|hx
  ·omega
  ·have:=hB x hx;omega
theorem Nh(f:Pl->Pl->Pl->Int)(Q:List Pl):∃B:Nat,∀a∈Q,∀b∈Q,∀c∈Q,(f a b c).natAbs<=B:=by
 obtain⟨B,hB⟩:=xR id (Q.flatMap λa=>Q.flatMap λb=>Q.map λc=>f a b c)
 exact⟨B,λa ha b hb c hc=>hB _ (abc.mpr ⟨a,ha,abc.mpr ⟨b,hb,aaI.mpr ⟨c,hc,rfl⟩⟩⟩)⟩
theorem Ni(f:Pl->Pl->Pl->Pl->Int)(Q:List Pl):∃B:Nat,∀a∈Q,∀b∈Q,∀c∈Q,∀d∈Q,(f a b c d).natAbs<=B:=by
 obtain⟨B,hB⟩:=xR id (Q.flatMap λa=>Q.flatMap λb=>Q.flatMap λc=>Q.map λd=>f a b c d)
 exact⟨B,λa ha b hb c hc d hd=>hB _ (abc.mpr ⟨a,ha,abc.mpr ⟨b,hb,abc.mpr ⟨c,hc,aaI.mpr ⟨d,hd,rfl⟩⟩⟩⟩)⟩
theorem CJ{α:Type}{f g:α->Bool}:∀{l:List α},(∀x∈l,f x=true->g x=true)->(l.filter f).length<=(l.filter g).length
 |[],_=>aaz _
 |y::r,h=>by
  have ih:=CJ (l:=r) λx hx=>h x (aar _ hx)
  rw[abI,abI]
  have hy:=h y (by simp)
  cases e1:f y<;>cases e2:g y<;>simp_all<;>omega
theorem CK{α:Type}{f g:α->Bool}{y:α}:∀{l:List α},(∀x∈l,f x=true->g x=true)->y∈l->f y=false->g y=true->(l.filter f).length<(l.filter g).length
 |z::r,h,m,e1,e2=>by
  have hr:∀x∈r,f x=true->g x=true:=λx hx=>h x (aar _ hx)
  have le:=CJ hr
  rw[abI,abI]
  rcases aat.mp m with rfl|m
  ·simp[e1,e2];omega
  ·have ih:=CK hr m e1 e2
   have hz:=h z (by simp)
   cases e3:f z<;>cases e4:g z<;>simp_all<;>omega
theorem QE(Q:List Pl)(B:Nat)(hB:0<B):∃w:Pl->Int,(∀p∈Q,0<w p)/\∀p∈Q,∀q∈Q,aQ p q->(B:Int)*w q<=w p:=by
 refine⟨λp=>((B ^ (Q.filter λq=>decide (aQ p q)).length:Nat):Int),λp _=>?_,λp _ q hq h=>?_⟩
 ·have:=Nat.pow_pos (n:=(Q.filter λq=>decide (aQ p q)).length) hB
  show(0:Int)<((B ^ (Q.filter λq=>decide (aQ p q)).length:Nat):Int)
  omega
 ·have lt:(Q.filter λr=>decide (aQ q r)).length<(Q.filter λr=>decide (aQ p r)).length:=
   CK (y:=q) (λx _ hx=>decide_eq_true (aV h (of_decide_eq_true hx))) hq (decide_eq_false (bG q)) (decide_eq_true h)
  have h1:B ^ ((Q.filter λr=>decide (aQ q r)).length+1)<=B ^ (Q.filter λr=>decide (aQ p r)).length:=ads hB lt
  rw[Nat.pow_succ,Nat.mul_comm]at h1
  show(B:Int)*((B ^ (Q.filter λr=>decide (aQ q r)).length:Nat):Int)<=((B ^ (Q.filter λr=>decide (aQ p r)).length:Nat):Int)
  rw[<-Int.natCast_mul]
  exact Int.ofNat_le.mpr h1
structure Ht(Q:List Pl)(H:Pl->Int):Prop where
 xS:∀a∈Q,∀b∈Q,∀c∈Q,∀d∈Q,0<tw a b c->(fO a b c d↔cL H a b c d<0)
 gen:∀a∈Q,∀b∈Q,∀c∈Q,∀d∈Q,0<tw a b c->cL H a b c d=0->d=a\/d=b\/d=c
 nn:∀p∈Q,0<=H p
theorem oN{T:Nat}{k t1 t2 t3:Int}{w w1 w2 w3:Int}(hk:k≠0)(b1:t1.natAbs<=T)(b2:t2.natAbs<=T)(b3:t3.natAbs<=T)(p1:0<w1)(p2:0<w2)(p3:0<w3)
 (l1:((3*T+1:Nat):Int)*w1<=w)(l2:((3*T+1:Nat):Int)*w2<=w)(l3:((3*T+1:Nat):Int)*w3<=w)(hw0:0<w):(0<k->0<k*w+t1*w1+t2*w2+t3*w3)/\(k<0->k*w+t1*w1+t2*w2+t3*w3<0):=by
 have bnd:∀{t v:Int},t.natAbs<=T->0<v-> -((T:Int)*v)<=t*v/\t*v<=(T:Int)*v:=λ{t v} ht hv=>by
  have c1:t<=(T:Int):=by omega
  have c2: -(T:Int)<=t:=by omega
  have d1:=aa2 c1 (aaO hv)
  have d2:=aa2 c2 (aaO hv)
  rw[acj]at d2
  exact⟨d2,d1⟩
 have e:∀v:Int,((3*T+1:Nat):Int)*v=3*((T:Int)*v)+v:=λv=>by
  have:((3*T+1:Nat):Int)=3*(T:Int)+1:=by omega
  rw[this];grind
 rw[e]at l1 l2 l3
 have x1:=bnd b1 p1
 have x2:=bnd b2 p2
 have x3:=bnd b3 p3
 refine⟨λh=>?_,λh=>?_⟩
 ·have:1*w<=k*w:=aa2 (by omega) (aaO hw0)
  omega
 ·have:k*w<=(-1)*w:=aa2 (by omega) (aaO hw0)
  omega
theorem tV{a b c d:Pl}(hT:0<tw a b c)(h0:dep a b c d=0)(nb:d≠b)(nc:d≠c):tw b c d≠0:=λz=>by
 rcases xw (by omega) h0 z with h|h
 ·exact nb h
 ·exact nc h
theorem DV(a b c d:Pl)(n1:a≠b)(n2:b≠c)(n3:c≠a)(n4:d≠a)(n5:d≠b)(n6:d≠c):(aQ d a/\aQ d b/\aQ d c)\/(aQ a b/\aQ a c/\aQ a d)\/(aQ b a/\aQ b c/\aQ b d)\/(aQ c a/\aQ c b/\aQ c d):=by
 have x:∀{p q:Pl},p≠q->aQ p q\/aQ q p:=λ{p q} n=>by
  rcases bT p q with h|h|h
  ·exact .inl h
  ·exact absurd h n
  ·exact .inr h
 rcases x n1 with h1|h1<;>rcases x n6 with h6|h6
 ·rcases x n4 with h4|h4
  ·exact .inl ⟨h4,aV h4 h1,h6⟩
  ·exact .inr (.inl ⟨h1,aV h4 h6,h4⟩)
 ·rcases x n3 with h3|h3
  ·exact .inr (.inr (.inr ⟨h3,aV h3 h1,h6⟩))
  ·exact .inr (.inl ⟨h1,h3,aV h3 h6⟩)
 ·rcases x n5 with h5|h5
  ·exact .inl ⟨aV h5 h1,h5,h6⟩
  ·exact .inr (.inr (.inl ⟨h1,aV h5 h6,h5⟩))
 ·rcases x n2 with h2|h2
  ·exact .inr (.inr (.inl ⟨h1,h2,aV h2 h6⟩))
  ·exact .inr (.inr (.inr ⟨aV h2 h1,h2,h6⟩))
theorem Nj{x L:Int}(hx:x≠0)(o1:0 < -x->0<L)(o2: -x<0->L<0):L≠0/\(x<0↔0<L):=by
 rcases abA hx with h|h
 ·have:=o1 (by omega)
  exact⟨by omega,λ_=>this,λ_=>h⟩
 ·have:=o2 (by omega)
  exact⟨by omega,λ_=>by omega,λ_=>by omega⟩
theorem Ul(p q r s:Int):p+q+r+s=q+p+r+s:=by omega
theorem Um(p q r s:Int):p+q+r+s=r+p+q+s:=by omega
theorem Uo(p q r s:Int):p+q+r+s=s+p+q+r:=by omega
theorem JN{x:Int}{T:Nat}(h:x.natAbs<=T):(-x).natAbs<=T:=by rw[Int.natAbs_neg];exact h
theorem Up{x:Int}(h:x≠0): -x≠0:=by omega
theorem Uq{i:Int}(hi:i≠0){j:Int}(hj:0<j):i.sign≠j.sign↔i<0:=by
 rw[aba hj]
 constructor
 ·intro h
  apply aaq
  intro z
  exact h (aba (by omega))
 ·intro h z
  rw[abH h]at z
  omega
theorem fS(Q:List Pl):∃H,Ht Q H:=by
 obtain⟨T,hT⟩:=Nh tw Q
 obtain⟨w,wp,wl⟩:=QE Q (3*T+1) (by omega)
 obtain⟨K,hK⟩:=Ni (cL w) Q
 obtain⟨C,hC⟩:=xR (λp=>((K:Int)+1)*K7 p-w p) Q
 have QF:∀a∈Q,∀b∈Q,∀c∈Q,∀d∈Q,0<tw a b c->dep a b c d=0->d≠a->d≠b->d≠c->cL w a b c d≠0/\(fO a b c d↔0<cL w a b c d):=by
  intro a ha b hb c hc d hd p h0 n4 n5 n6
  have n1:a≠b:=λz=>by rw[z]at p;unfold tw at p;grind
  have n2:b≠c:=λz=>by rw[z]at p;unfold tw at p;grind
  have n3:c≠a:=λz=>by rw[z]at p;unfold tw at p;grind
  have r0:=mj h0
  have s1:=tV p h0 n5 n6
  have s2:=tV (a:=b) (b:=c) (c:=a) (d:=d) (by have:=jc a b c;omega) (by rw[rD];exact h0) n6 n4
  have s3:=tV (a:=c) (b:=a) (c:=b) (d:=d) (by have:=nF a b c;omega) (by rw[<-rD c a b d];exact h0) n4 n5
  have e:cL w a b c d=tw a b c*w d+(-tw b c d)*w a+(-tw c a d)*w b+(-tw a b d)*w c:=by unfold cL;grind
  have g1:=jc a b c
  have g2:=nF a b c
  have b1:=hT a ha b hb c hc
  have b2:=hT b hb c hc d hd
  have b3:=hT c hc a ha d hd
  have b4:=hT a ha b hb d hd
  have u1:=Uq s1 (show 0<tw b c a by rw[g1];exact p)
  have u2:=Uq s2 (show 0<tw c a b by rw[g2];exact p)
  have u3:=Uq s3 p
  rcases DV a b c d n1 n2 n3 n4 n5 n6 with⟨m1,m2,m3⟩|⟨m1,m2,m3⟩|⟨m1,m2,m3⟩|⟨m1,m2,m3⟩
  ·have l:=(oN (Int.ne_of_gt p) (JN b2) (JN b3) (JN b4) (wp a ha) (wp b hb) (wp c hc) (wl d hd a ha m1) (wl d hd b hb m2) (wl d hd c hc m3) (wp d hd)).1 p
   rw[<-e]at l
   exact⟨Int.ne_of_gt l,λ_=>l,λ_=> .inr ⟨r0,n4,n5,n6,.inl ⟨m1,m2,m3⟩⟩⟩
  ·have o:=oN (Up s1) b1 (JN b3) (JN b4) (wp d hd) (wp b hb) (wp c hc) (wl a ha d hd m3) (wl a ha b hb m1) (wl a ha c hc m2) (wp a ha)
   rw[<-e.trans (Ul _ _ _ _)]at o
   have A:=Nj s1 o.1 o.2
   refine⟨A.1,λh=>A.2.mp ?_,λh=> .inr ⟨r0,n4,n5,n6,.inr (.inl ⟨m1,m2,m3,u1.mpr (A.2.mpr h)⟩)⟩⟩
   rcases h with h|⟨_,_,_,_,⟨h,_⟩|⟨_,_,_,h⟩|⟨h,_⟩|⟨h,_⟩⟩
   ·rw[r0]at h;exact absurd h (by decide)
   ·exact absurd h (az m3)
   ·exact u1.mp h
   ·exact absurd h (az m1)
   ·exact absurd h (az m2)
  ·have o:=oN (Up s2) b1 (JN b2) (JN b4) (wp d hd) (wp a ha) (wp c hc) (wl b hb d hd m3) (wl b hb a ha m1) (wl b hb c hc m2) (wp b hb)
   rw[<-e.trans (Um _ _ _ _)]at o
   have A:=Nj s2 o.1 o.2
   refine⟨A.1,λh=>A.2.mp ?_,λh=> .inr ⟨r0,n4,n5,n6,.inr (.inr (.inl ⟨m1,m2,m3,u2.mpr (A.2.mpr h)⟩))⟩⟩
   rcases h with h|⟨_,_,_,_,⟨_,h,_⟩|⟨h,_⟩|⟨_,_,_,h⟩|⟨_,h,_⟩⟩
   ·rw[r0]at h;exact absurd h (by decide)
   ·exact absurd h (az m3)
   ·exact absurd h (az m1)
   ·exact u2.mp h
   ·exact absurd h (az m2)
  ·have o:=oN (Up s3) b1 (JN b2) (JN b3) (wp d hd) (wp a ha) (wp b hb) (wl c hc d hd m3) (wl c hc a ha m1) (wl c hc b hb m2) (wp c hc)
   rw[<-e.trans (Uo _ _ _ _)]at o
   have A:=Nj s3 o.1 o.2
   refine⟨A.1,λh=>A.2.mp ?_,λh=> .inr ⟨r0,n4,n5,n6,.inr (.inr (.inr ⟨m1,m2,m3,u3.mpr (A.2.mpr h)⟩))⟩⟩
   rcases h with h|⟨_,_,_,_,⟨_,_,h⟩|⟨_,h,_⟩|⟨_,h,_⟩|⟨_,_,_,h⟩⟩
   ·rw[r0]at h;exact absurd h (by decide)
   ·exact absurd h (az m3)
   ·exact absurd h (az m1)
   ·exact absurd h (az m2)
   ·exact u3.mp h
 have eH:∀a b c d,cL (λp=>((K:Int)+1)*K7 p-w p+(C:Int)) a b c d= -(((K:Int)+1)*dep a b c d)-cL w a b c d:=λa b c d=>by rw[JM,JL];grind
 have pos:∀a∈Q,∀b∈Q,∀c∈Q,∀d∈Q,0<dep a b c d->cL (λp=>((K:Int)+1)*K7 p-w p+(C:Int)) a b c d<0:=λa ha b hb c hc d hd h=>by
  rw[eH]
  have:=hK a ha b hb c hc d hd
  have:((K:Int)+1)*1<=((K:Int)+1)*dep a b c d:=abP (by omega) (by omega)
  omega
 have neg:∀a∈Q,∀b∈Q,∀c∈Q,∀d∈Q,dep a b c d<0->0<cL (λp=>((K:Int)+1)*K7 p-w p+(C:Int)) a b c d:=λa ha b hb c hc d hd h=>by
  rw[eH]
  have:=hK a ha b hb c hc d hd
  have:((K:Int)+1)*dep a b c d<=((K:Int)+1)*(-1):=abP (by omega) (by omega)
  omega
 refine⟨λp=>((K:Int)+1)*K7 p-w p+(C:Int),⟨λa ha b hb c hc d hd p=>?_,λa ha b hb c hc d hd p z=>?_,λp hp=>?_⟩⟩
 ·rcases abw (dep a b c d) 0 with h|h|h
  ·have:=neg a ha b hb c hc d hd h
   refine⟨λs=>?_,λs=>by omega⟩
   have:=(n9 p s).1
   omega
  ·by_cases n4:d=a
   ·subst n4
    rw[K8]
    refine⟨λs=>?_,λs=>by omega⟩
    rcases s with s|⟨_,n,_⟩
    ·rw[mj h]at s;omega
    ·exact absurd rfl n
   by_cases n5:d=b
   ·subst n5
    rw[K9]
    refine⟨λs=>?_,λs=>by omega⟩
    rcases s with s|⟨_,_,n,_⟩
    ·rw[mj h]at s;omega
    ·exact absurd rfl n
   by_cases n6:d=c
   ·subst n6
    rw[GS]
    refine⟨λs=>?_,λs=>by omega⟩
    rcases s with s|⟨_,_,_,n,_⟩
    ·rw[mj h]at s;omega
    ·exact absurd rfl n
   have t:=(QF a ha b hb c hc d hd p h n4 n5 n6).2
   rw[eH,h,abe,t]
   omega
  ·have:=pos a ha b hb c hc d hd h
   exact⟨λ_=>this,λ_=>nB p h⟩
 ·rcases abw (dep a b c d) 0 with h|h|h
  ·have:=neg a ha b hb c hc d hd h;omega
  ·apply aaq
   intro y
   have t:=(QF a ha b hb c hc d hd p h (λe=>y (.inl e)) (λe=>y (.inr (.inl e))) (λe=>y (.inr (.inr e)))).1
   rw[eH,h,abe]at z
   omega
  ·have:=pos a ha b hb c hc d hd h;omega
 ·have:=hC p hp
  show 0<=((K:Int)+1)*K7 p-w p+(C:Int)
  omega
end L3
namespace L3
section
variable{Q:List Pl}{H:Pl->Int}
def v7(Q:List Pl)(t:List Pl):Prop:= ∀d∈Q,¬qS t d
theorem Ht.zz(h:Ht Q H){t:List Pl}(hT:gK Q t){a b c:Pl}(r:cP t a b c){d:Pl}(hd:d∈Q):qS t d↔cL H a b c d<0:=by
 obtain⟨p,ha,hb,hc⟩:=r.tw hT
 rcases r with rfl|rfl|rfl
 ·exact h.xS a ha b hb c hc d hd p
 ·rw[<-rJ H a b c d]
  exact h.xS b hb c hc a ha d hd (by have:=jc a b c;omega)
 ·rw[rJ H c a b d]
  exact h.xS c hc a ha b hb d hd (by have:=nF a b c;omega)
theorem Ht.DW(h:Ht Q H){t:List Pl}(hT:gK Q t){a b c:Pl}(r:cP t a b c):v7 Q t↔∀d∈Q,0<=cL H a b c d:=by
 constructor
 ·intro k d hd
  have:=k d hd
  rw[h.zz hT r hd]at this
  omega
 ·intro k d hd
  rw[h.zz hT r hd]
  have:=k d hd
  omega
theorem tW{a b c:Pl}(p:0<tw a b c):∃t,dY t/\cP t a b c:=by
 have g1:=jc a b c
 have g2:=nF a b c
 have n1:a≠b:=λz=>by rw[z]at p;unfold tw at p;grind
 have n2:b≠c:=λz=>by rw[z]at p;unfold tw at p;grind
 have n3:c≠a:=λz=>by rw[z]at p;unfold tw at p;grind
 have x:∀{p q:Pl},p≠q->aQ p q\/aQ q p:=λ{p q} n=>by
  rcases bT p q with h|h|h
  ·exact .inl h
  ·exact absurd h n
  ·exact .inr h
 rcases x n1 with h1|h1
 ·rcases x n3 with h3|h3
  ·exact⟨[c,a,b],⟨c,a,b,rfl,h3,aV h3 h1,by omega⟩,.inr (.inr rfl)⟩
  ·exact⟨[a,b,c],⟨a,b,c,rfl,h1,h3,p⟩,.inl rfl⟩
 ·rcases x n2 with h2|h2
  ·exact⟨[b,c,a],⟨b,c,a,rfl,h2,h1,by omega⟩,.inr (.inl rfl)⟩
  ·exact⟨[c,a,b],⟨c,a,b,rfl,aV h2 h1,h2,by omega⟩,.inr (.inr rfl)⟩
theorem cP.Ur{t:List Pl}{a b c:Pl}(r:cP t a b c)(i:dY t)(ha:a∈Q)(hb:b∈Q)(hc:c∈Q):gK Q t:=⟨i,λq hq=>by
 rcases(r.mem q).mp hq with rfl|rfl|rfl<;>assumption⟩
theorem p8{f g:Pl->Int}:∀{l:List Pl},l≠[]->(∀p∈l,0<g p)->∃q∈l,∀p∈l,f q*g p<=f p*g q
 |[x],_,hg=>⟨x,by simp,λp hp=>by rw[aav.mp hp];exact abr _⟩
 |x::y::r,_,hg=>by
  obtain⟨q,hq,h⟩:=p8 (f:=f) (g:=g) (l:=y::r) (by simp) λp hp=>hg p (aar _ hp)
  have gx:=hg x (by simp)
  have gq:=hg q (aar _ hq)
  rcases ab1 (f q*g x) (f x*g q)with k|k
  ·refine⟨q,aar _ hq,λp hp=>?_⟩
   rcases aat.mp hp with rfl|hp
   ·exact k
   ·exact h p hp
  ·refine⟨x,by simp,λp hp=>?_⟩
   rcases aat.mp hp with rfl|hp
   ·exact abr _
   ·have N7:=h p hp
    have gp:=hg p (aar _ hp)
    refine acP ?_ gq
    have a1:=aa2 k (aaO gp)
    have a2:=aa2 N7 (aaO gx)
    have e1:f x*g q*g p=f x*g p*g q:=by grind
    have e2:f q*g x*g p=f q*g p*g x:=by grind
    have e3:f p*g q*g x=f p*g x*g q:=by grind
    omega
theorem tX{a b c d:Pl}(h:d=a\/d=b\/d=c):¬fO a b c d:=λs=>by
 have z:dep a b c d=0:=by
  rcases h with rfl|rfl|rfl
  ·exact Px _ _ _
  ·exact Py _ _ _
  ·exact KP _ _ _
 rcases s with s|⟨_,n1,n2,n3,_⟩
 ·rw[mj z]at s;omega
 ·rcases h with h|h|h
  ·exact n1 h
  ·exact n2 h
  ·exact n3 h
theorem GU(a b p:Pl):dt a b p=sF a b p:=by unfold dt sF;grind
theorem tY{a b c p:Pl}(t:0<tw a b c)(z:tw a b p=0)(nb:¬(aQ (lo a b) p/\aQ p (hi a b))):¬fO a b c p:=λs=>by
 by_cases e1:p=a
 ·exact tX (.inl e1) s
 by_cases e2:p=b
 ·exact tX (.inr (.inl e2)) s
 have d0:=(n9 t s).1
 have e:dep a b c p= -(dt a b p*tw a b c):=by rw[yR,z,abe];omega
 have n:¬sF a b p<0:=λk=>nb ((qA a b p z).mpr ⟨e1,e2,k⟩)
 rw[<-GU]at n
 have d1:dt a b p<=0:=by
  apply aaq
  intro y
  have:=aaT (show 0<dt a b p by omega) t
  omega
 have d2:dt a b p=0:=by omega
 have d3:dep a b c p=0:=by rw[e,d2];omega
 rcases xw (a:=c) (b:=a) (c:=b) (d:=p) (by have:=nF a b c;omega) (by rw[<-rD c a b p];exact d3) z with h|h
 ·exact e1 h
 ·exact e2 h
theorem qH{a b c p:Pl}(t:0<tw a b c)(z:tw a b p=0)(nb:aQ (lo a b) p/\aQ p (hi a b)):fO a b c p:=by
 obtain⟨_,_,d⟩:=(qA a b p z).mp nb
 rw[<-GU]at d
 refine nB t ?_
 rw[yR,z,abe]
 have:=abj d t
 omega
theorem Bl{ts:List (List Pl)}(nd:ts.Nodup)(bV:∀t∈ts,gK Q t)(h:∀t∈ts,∀u∈ts,∀w,w∈eL t->w∈eL u->t=u):(aS ts).Nodup:=by
 induction ts with
 |nil=>exact .nil
 |cons t r ih=>
  have e:aS (t::r)=eL t++aS r:=by unfold aS;rw[abl]
  rw[e]
  obtain⟨n1,n2⟩:=aaR.mp nd
  refine aa1.mpr ⟨?_,ih n2 (λu hu=>bV u (aar _ hu)) λu hu v hv=>h u (aar _ hu) v (aar _ hv),λw hw v hv z=>?_⟩
  ·obtain⟨a,b,c,rfl,_,_,_,_,n1,n2,n3⟩:=(bV t (by simp)).parts
   show([[a,b],[b,c],[c,a]]:List (List Pl)).Nodup
   simp[n1,n2,n3,n1.symm,n2.symm,n3.symm]
  ·subst z
   obtain⟨u,hu,hm⟩:=bz.mp hv
   have:=h t (by simp) u (aar _ hu) w hw hm
   rw[this]at n1
   exact n1 hu
theorem Ht.GV(h:Ht Q H){a b c d:Pl}(ha:a∈Q)(hb:b∈Q)(hc:c∈Q)(hd:d∈Q)(p1:0<tw a b c)(p2:0<tw a b d)(k1:∀q∈Q,0<=cL H a b c q)(k2:∀q∈Q,0<=cL H a b d q):d=c:=by
 have e:=zy H a b c d
 have x1:=k1 d hd
 have x2:=k2 c hc
 rcases h.gen a ha b hb c hc d hd p1 (by omega)with rfl|rfl|rfl
 ·unfold tw at p2;exact absurd p2 (by grind)
 ·unfold tw at p2;exact absurd p2 (by grind)
 ·rfl
theorem Ht.over(h:Ht Q H){a b:Pl}(ha:a∈Q)(hb:b∈Q){c:Pl}(hc:c∈Q)(p:0<tw a b c)(rt:∀{q},q∈Q->0<tw a b q->(∀r∈Q,0<tw a b r->0<=cL H a b q r)->∀r∈Q,tw a b r<=0->0<=cL H a b q r):∃q∈Q,0<tw a b q/\∀r∈Q,0<=cL H a b q r:=by
 have mem:∀q,q∈Q.filter (λq=>decide (0<tw a b q))↔q∈Q/\0<tw a b q:=λq=>by rw[aaw,decide_eq_true_eq]
 obtain⟨q,hq,hm⟩:=p8 (f:=cL H a b c) (g:=tw a b) (l:=Q.filter λq=>decide (0<tw a b q)) (abN ((mem c).mpr ⟨hc,p⟩)) λr hr=>((mem r).mp hr).2
 obtain⟨hq,pq⟩:=(mem q).mp hq
 have lf:∀r∈Q,0<tw a b r->0<=cL H a b q r:=λr hr pr=>by
  have e:=oM H a b c q r
  have:=hm r ((mem r).mpr ⟨hr,pr⟩)
  refine iz p ?_
  rw[abQ,e]
  omega
 refine⟨q,hq,pq,λr hr=>?_⟩
 rcases ade 0 (tw a b r)with y|y
 ·exact lf r hr y
 ·exact rt hq pq lf r hr y
theorem Ht.past(h:Ht Q H){a b c:Pl}(ha:a∈Q)(hb:b∈Q)(hc:c∈Q)(p:0<tw a b c)(k:∀q∈Q,0<=cL H a b c q){e:Pl}(he:e∈Q)(pe:0<tw b a e):∃q∈Q,0<tw b a q/\∀r∈Q,0<=cL H b a q r:=by
 refine h.over hb ha he pe λ{q} hq pq _ r hr y=>?_
 have i:=p7 H a b c q r
 refine iz p ?_
 rw[abQ,i]
 have x1:=aaB (k r hr) (aaO pq)
 have x2:=aaJ (k q hq) y
 omega
theorem lF(s:c8 Q){ns:List (List Pl)}(nd:ns.Nodup)(mem:∀t,t∈ns↔gK Q t/\v7 Q t):b9 Q ns:=by
 obtain⟨H,h⟩:=fS Q
 have bV:∀t∈ns,gK Q t:=λt ht=>((mem t).mp ht).1
 have DW:∀t∈ns,∀{a b c:Pl},cP t a b c->∀d∈Q,0<=cL H a b c d:=λt ht {a b c} r=>(h.DW (bV t ht) r).mp ((mem t).mp ht).2
 have dm:∀a b,[a,b]∈aS ns↔a∈Q/\b∈Q/\∃c∈Q,0<tw a b c/\∀d∈Q,0<=cL H a b c d:=λa b=>by
  constructor
  ·intro m
   obtain⟨t,ht,m⟩:=bz.mp m
   obtain⟨c,r⟩:=iF (bV t ht) m
   obtain⟨p,ha,hb,hc⟩:=r.tw (bV t ht)
   exact⟨ha,hb,c,hc,p,DW t ht r⟩
  ·rintro⟨ha,hb,c,hc,p,k⟩
   obtain⟨t,i,r⟩:=tW p
   have ti:gK Q t:=r.Ur i ha hb hc
   refine bz.mpr ⟨t,(mem t).mpr ⟨ti,(h.DW ti r).mpr k⟩,r.dir.mem_iff.mpr (by simp)⟩
 refine⟨s,⟨Bl nd bV λt ht u hu w m1 m2=>?_,λw hw=>?_,λa b m1 m2=>?_,λa b sd m=>?_,λa b sd=>?_⟩,bV⟩
 ·obtain⟨a,b,rfl,_⟩:=tH w (bz.mpr ⟨t,ht,m1⟩)
  obtain⟨c,r1⟩:=iF (bV t ht) m1
  obtain⟨d,r2⟩:=iF (bV u hu) m2
  obtain⟨p1,ha,hb,hc⟩:=r1.tw (bV t ht)
  obtain⟨p2,_,_,hd⟩:=r2.tw (bV u hu)
  obtain rfl:=h.GV ha hb hc hd p1 p2 (DW t ht r1) (DW u hu r2)
  refine dY.uniq (bV t ht).1 (bV u hu).1 ?_
  have q1:∀{v:List Pl},cP v a b d->v.Perm [a,b,d]:=λ{v} r=>by
   rcases r with rfl|rfl|rfl
   ·exact .refl _
   ·exact(aaY (l₁:=[b,d]) (l₂:=[a]))
   ·exact(aaY (l₁:=[d]) (l₂:=[a,b]))
  exact(q1 r1).trans (q1 r2).symm
 ·obtain⟨a,b,rfl,_⟩:=tH w hw
  obtain⟨ha,hb,_⟩:=(dm a b).mp hw
  exact⟨a,b,rfl,ha,hb⟩
 ·obtain⟨ha,hb,c,hc,p,k⟩:=(dm a b).mp m1
  refine⟨ha,hb,λz=>by rw[z]at p;unfold tw at p;exact absurd p (by grind),λq hq=>⟨?_,λz nb=>?_⟩⟩
  ·apply aaq
   intro y
   obtain⟨e,he,pe,ke⟩:=h.past ha hb hc p k hq (by have:=bY a b q;omega)
   exact m2 ((dm b a).mpr ⟨hb,ha,e,he,pe,ke⟩)
  ·have:=(h.xS a ha b hb c hc q hq p).mp (qH p z nb)
   have:=k q hq
   omega
 ·obtain⟨hb,ha,c,hc,p,_⟩:=(dm b a).mp m
  have:=(sd.2.2.2 c hc).1
  have:=bY a b c
  omega
 ·obtain⟨ha,hb,ne,HV⟩:=sd
  by_cases fl:∀q∈Q,tw a b q=0
  ·refine .inl ⟨hb,ha,ne.symm,λq hq=>⟨by have:=bY a b q;have:=fl q hq;omega,λ_ nb=>(HV q hq).2 (fl q hq) ?_⟩⟩
   have e1:lo b a=lo a b:=by
    unfold lo
    rcases bT a b with y|y|y
    ·rw[if_pos y,if_neg (az y)]
    ·exact absurd y ne
    ·rw[if_neg (az y),if_pos y]
   have e2:hi b a=hi a b:=by
    unfold hi
    rcases bT a b with y|y|y
    ·rw[if_pos y,if_neg (az y)]
    ·exact absurd y ne
    ·rw[if_neg (az y),if_pos y]
   rw[e1,e2]at nb
   exact nb
  ·obtain⟨c,hc,pc⟩:∃c∈Q,0<tw a b c:=by
    apply aaq
    intro z
    refine fl λq hq=>?_
    have:=(HV q hq).1
    apply aaq
    intro y
    exact z ⟨q,hq,by omega⟩
   obtain⟨q,hq,pq,kq⟩:=h.over ha hb hc pc λ{q} hq pq _ r hr y=>by
    have:=(HV r hr).1
    have ns:=tY pq (show tw a b r=0 by omega) ((HV r hr).2 (by omega))
    rw[h.xS a ha b hb q hq r hr pq]at ns
    omega
   exact .inr ((dm a b).mpr ⟨ha,hb,q,hq,pq,kq⟩)
end
end L3
namespace L3
section
variable{Q:List Pl}{ts:List (List Pl)}{H:Pl->Int}
def Full(Q:List Pl)(ts:List (List Pl)):Prop:= ∀q∈Q,∃t∈ts,q∈t
def GW(d:Pl):Pt:=⟨d.x,d.y,1⟩
theorem dG(a b d:Pl):hw a b (GW d)=tw a b d:=by unfold hw GW tw;grind
theorem cP.next{t:List Pl}{a b c:Pl}(r:cP t a b c):cP t b c a:=by
 rcases r with r|r|r
 ·exact .inr (.inr r)
 ·exact .inl r
 ·exact .inr (.inl r)
theorem cP.GX{t:List Pl}(h:gK Q t){d:Pl}(hd:d∈t):∃e f,cP t d e f:=by
 obtain⟨a,b,c,rfl,_⟩:=h.parts
 simp only[aat,aa7,or_false]at hd
 rcases hd with rfl|rfl|rfl
 ·exact⟨_,_,.inl rfl⟩
 ·exact⟨_,_,.inr (.inr rfl)⟩
 ·exact⟨_,_,.inr (.inl rfl)⟩
theorem b9.RB(k:b9 Q ts){t:List Pl}(ht:t∈ts){a b c:Pl}(r:cP t a b c){d:Pl}(hd:d∈Q)(n:tw a b d<0):∃u∈ts,∃e,cP u b a e:=by
 have m:[a,b]∈aS ts:=bz.mpr ⟨t,ht,r.dir.mem_iff.mpr (by simp)⟩
 have:[b,a]∈aS ts:=by
  apply aaq
  intro z
  have:=((k.vZ.bare a b m z).2.2.2 d hd).1
  omega
 obtain⟨u,hu,m2⟩:=bz.mp this
 obtain⟨e,r2⟩:=iF (k.bV u hu) m2
 exact⟨u,hu,e,r2⟩
theorem xT(k:b9 Q ts)(nf:¬Flat Q){t u:List Pl}(ht:t∈ts)(hu:u∈ts){a b c d e f:Pl}(r:cP t a b c)(ru:cP u d e f)(na:d≠a)(nb:d≠b)(nc:d≠c)(z:tw a b d=0)(p2:0<tw b c d)(p3:0<tw c a d):False:=by
 obtain⟨pt,ha,hb,hc⟩:=r.tw (k.bV t ht)
 obtain⟨pu,hd,he,hf⟩:=ru.tw (k.bV u hu)
 have hN:0<(GW d).N:=by show(0:Int)<1;decide
 have wk:Wk (GW d) d e f:=by
  unfold Wk
  rw[dG,dG,dG]
  have e1:tw d e d=0:=by unfold tw;grind
  have e2:tw f d d=0:=by unfold tw;grind
  have e3:=jc d e f
  omega
 obtain⟨v,nv,g1,g2,g3⟩:=into hN pu wk
 have dt:d∉t:=λm=>by
  rcases(r.mem d).mp m with h|h|h
  ·exact na h
  ·exact nb h
  ·exact nc h
 have du:d∈u:=(ru.mem d).mpr (.inl rfl)
 have ne:a≠b:=λy=>by rw[y]at pt;unfold tw at pt;exact absurd pt (by grind)
 by_cases lx:Lex (GW d) v a b
 ·have:=k.same nf hN ht hu r ru nv lx (.inl (by rw[dG];exact p2)) (.inl (by rw[dG];exact p3)) g1 g2 g3
  rw[this]at dt
  exact dt du
 ·have Vy:Lex (GW d) v b a:=by
   refine .inr ⟨by rw[iW,dG,z];omega,?_⟩
   have c1:mZ b a v= -mZ a b v:=by unfold mZ;grind
   have c2:Al b a v= -Al a b v:=by unfold Al;grind
   have c3:=CI ne nv
   have n1:¬0<mZ a b v:=λy=>lx (.inr ⟨by rw[dG,z],.inl y⟩)
   have n2:¬(mZ a b v=0/\0<Al a b v):=λy=>lx (.inr ⟨by rw[dG,z],.inr y⟩)
   omega
  by_cases sd:[b,a]∈aS ts
  ·obtain⟨w,GY,m2⟩:=bz.mp sd
   obtain⟨g,rw'⟩:=iF (k.bV w GY) m2
   obtain⟨pw,_,_,hg⟩:=rw'.tw (k.bV w GY)
   have i1:tw a g d*tw a b c=tw c a d*tw b a g:=by
    have:tw a g d*tw a b c=tw c a d*tw b a g+tw a b d*tw a g c:=by unfold tw;grind
    rw[z,ab3]at this
    omega
   have i2:tw g b d*tw a b c=tw b c d*tw b a g:=by
    have:tw g b d*tw a b c=tw b c d*tw b a g+tw a b d*tw g b c:=by unfold tw;grind
    rw[z,ab3]at this
    omega
   have q1:0<tw a g d:=rE pt (by rw[abQ,i1];exact aaT p3 pw)
   have q2:0<tw g b d:=rE pt (by rw[abQ,i2];exact aaT p2 pw)
   have:=k.same nf hN GY hu rw' ru nv Vy (.inl (by rw[dG];exact q1)) (.inl (by rw[dG];exact q2)) g1 g2 g3
   rw[<-this]at du
   rcases(rw'.mem d).mp du with y|y|y
   ·exact nb y
   ·exact na y
   ·rw[<-y]at q1;unfold tw at q1;exact absurd q1 (by grind)
  ·have m:[a,b]∈aS ts:=bz.mpr ⟨t,ht,r.dir.mem_iff.mpr (by simp)⟩
   have HV:=(k.vZ.bare a b m sd).2.2.2
   obtain⟨x,_,hx⟩:=beside (Q:=Q) hN nv
   have x1:=hx _ hd _ he g1
   have x2:=hx _ he _ hf g2
   have x3:=hx _ hf _ hd g3
   have x4:=hx _ hb _ ha Vy
   have i:=QD a b d e f x
   have y1:=aaB (aaO x2) (HV d hd).1
   have y2:=aaB (aaO x3) (HV e he).1
   have y3:=aaB (aaO x1) (HV f hf).1
   have:hw a b x<0:=by have:=iW b a x;omega
   have:=abj this pu
   omega
theorem b9.empty(k:b9 Q ts)(nf:¬Flat Q)(fu:Full Q ts){t:List Pl}(ht:t∈ts){a b c d:Pl}(r:cP t a b c)(hd:d∈Q)(w1:0<=tw a b d)(w2:0<=tw b c d)(w3:0<=tw c a d):d=a\/d=b\/d=c:=by
 obtain⟨u,hu,du⟩:=fu d hd
 obtain⟨e,f,ru⟩:=cP.GX (k.bV u hu) du
 obtain⟨pt,ha,hb,hc⟩:=r.tw (k.bV t ht)
 obtain⟨pu,_,_,_⟩:=ru.tw (k.bV u hu)
 apply aaq
 intro no
 have na:d≠a:=λy=>no (.inl y)
 have nb:d≠b:=λy=>no (.inr (.inl y))
 have nc:d≠c:=λy=>no (.inr (.inr y))
 have at2:∀{a b c:Pl},0<tw a b c->d≠b->¬(tw a b d=0/\tw b c d=0):=λ{a b c} p n z=>by
  obtain⟨e1,e2⟩:=v5 (X:=GW d) p (by rw[dG];exact z.1) (by rw[dG];exact z.2)
  have e1:d.x=1*b.x:=e1
  have e2:d.y=1*b.y:=e2
  apply n
  cases d
  cases b
  simp only at e1 e2
  rw[e1,e2,acO,acO]
 have n1:=at2 pt nb
 have n2:=at2 (a:=b) (b:=c) (c:=a) (by have:=jc a b c;omega) nc
 have n3:=at2 (a:=c) (b:=a) (c:=b) (by have:=nF a b c;omega) na
 by_cases z1:tw a b d=0
 ·exact xT k nf ht hu r ru na nb nc z1 (by omega) (by omega)
 by_cases z2:tw b c d=0
 ·exact xT k nf ht hu r.next ru nb nc na z2 (by omega) (by omega)
 by_cases z3:tw c a d=0
 ·exact xT k nf ht hu r.next.next ru nc na nb z3 (by omega) (by omega)
 have hN:0<(GW d).N:=by show(0:Int)<1;decide
 have:=k.alone nf hN ht hu r ru (by rw[dG];omega) (by rw[dG];omega) (by rw[dG];omega) (by
  unfold Wk
  rw[dG,dG,dG]
  have e1:tw d e d=0:=by unfold tw;grind
  have e2:tw f d d=0:=by unfold tw;grind
  have e3:=jc d e f
  omega)
 rw[<-this]at du
 exact no ((r.mem d).mp du)
theorem tZ{α:Type}{f g:α->Int}:∀{l:List α},l≠[]->(∀p∈l,0<g p)->∃q∈l,∀p∈l,f q*g p<=f p*g q
 |[x],_,hg=>⟨x,by simp,λp hp=>by rw[aav.mp hp];exact abr _⟩
 |x::y::r,_,hg=>by
  obtain⟨q,hq,h⟩:=tZ (f:=f) (g:=g) (l:=y::r) (by simp) λp hp=>hg p (aar _ hp)
  have gx:=hg x (by simp)
  have gq:=hg q (aar _ hq)
  rcases ab1 (f q*g x) (f x*g q)with k|k
  ·refine⟨q,aar _ hq,λp hp=>?_⟩
   rcases aat.mp hp with rfl|hp
   ·exact k
   ·exact h p hp
  ·refine⟨x,by simp,λp hp=>?_⟩
   rcases aat.mp hp with rfl|hp
   ·exact abr _
   ·have N7:=h p hp
    have gp:=hg p (aar _ hp)
    refine acP ?_ gq
    have a1:=aa2 k (aaO gp)
    have a2:=aa2 N7 (aaO gx)
    have e1:f x*g q*g p=f x*g p*g q:=by grind
    have e2:f q*g x*g p=f q*g p*g x:=by grind
    have e3:f p*g q*g x=f p*g x*g q:=by grind
    omega
def Us(H:Pl->Int)(d:Pl):List Pl->Int
 |[a,b,c]=>cL H a b c d
 |_=>0
def Ut:List Pl->Int
 |[a,b,c]=>tw a b c
 |_=>0
theorem CL{t:List Pl}{a b c:Pl}(r:cP t a b c):Ut t=tw a b c:=by
 rcases r with rfl|rfl|rfl
 ·rfl
 ·exact jc a b c
 ·exact nF a b c
theorem CM{t:List Pl}{a b c:Pl}(r:cP t a b c)(H:Pl->Int)(d:Pl):Us H d t=cL H a b c d:=by
 rcases r with rfl|rfl|rfl
 ·rfl
 ·exact rJ H a b c d
 ·exact(rJ H c a b d).symm
def Calm(ts:List (List Pl)):Prop:= ∀t∈ts,∀u∈ts,∀a b c e,cP t a b c->cP u b a e->¬qS t e
theorem b9.calm(k:b9 Q ts)(nf:¬Flat Q)(fu:Full Q ts)(ca:Calm ts):∀t∈ts,v7 Q t:=by
 obtain⟨H,h⟩:=fS Q
 intro u hu d hd
 have tp:∀t∈ts,0<L3.Ut t:=λt ht=>by
  obtain⟨a,b,c,rfl,p,_⟩:=(k.bV t ht).parts
  exact p
 obtain⟨t,ht,hm⟩:=tZ (f:=L3.Us H d) (g:=L3.Ut) (l:=ts) (abN hu) tp
 have nx:∀a b c,cP t a b c->0<=tw a b d:=λa b c r=>by
  apply aaq
  intro y
  obtain⟨w,GY,e,rw'⟩:=k.RB ht r hd (by omega)
  obtain⟨pt,ha,hb,hc⟩:=r.tw (k.bV t ht)
  obtain⟨pw,_,_,he⟩:=rw'.tw (k.bV w GY)
  have i:=p7 H a b c e d
  have m:=hm w GY
  rw[CM r,CL r,CM rw',CL rw']at m
  have l0:0<cL H a b c e:=by
   have n:=ca t ht w GY a b c e r rw'
   rw[h.zz (k.bV t ht) r he]at n
   have:cL H a b c e≠0:=λz=>by
    rcases h.gen a ha b hb c hc e he pt z with rfl|rfl|rfl
    ·unfold tw at pw;exact absurd pw (by grind)
    ·unfold tw at pw;exact absurd pw (by grind)
    ·have:=bY a b e;omega
   omega
  have:=aaT l0 (show 0<tw b a d by have:=bY a b d;omega)
  omega
 obtain⟨a,b,c,rfl,pt,_⟩:=(k.bV t ht).parts
 have r:cP [a,b,c] a b c:= .inl rfl
 have z:L3.Us H d [a,b,c]=0:=by
  show cL H a b c d=0
  rcases k.empty nf fu ht r hd (nx _ _ _ r) (nx _ _ _ r.next) (nx _ _ _ r.next.next)with rfl|rfl|rfl
  ·exact K8 _ _ _ _
  ·exact K9 _ _ _ _
  ·exact GS _ _ _ _
 have m:=hm u hu
 rw[z,ab3]at m
 obtain⟨a',b',c',rfl,pu,_⟩:=(k.bV u hu).parts
 rw[h.zz (k.bV _ hu) (.inl rfl) hd]
 have m:0<=cL H a' b' c' d*tw a b c:=m
 have:=iz pt (by rw[abQ];exact m)
 omega
theorem inner{t:List Pl}(hT:gK Q t){a b c:Pl}(r:cP t a b c):∃x:Pt,Gen Q x/\0<hw a b x/\0<hw b c x/\0<hw c a x:=by
 obtain⟨p,ha,hb,hc⟩:=r.tw hT
 have hN:0<(GW a).N:=by show(0:Int)<1;decide
 have wk:Wk (GW a) a b c:=by
  unfold Wk
  rw[dG,dG,dG]
  have e1:tw a b a=0:=by unfold tw;grind
  have e2:tw c a a=0:=by unfold tw;grind
  have e3:=jc a b c
  omega
 obtain⟨v,nv,g1,g2,g3⟩:=into hN p wk
 obtain⟨x,g,hx⟩:=beside (Q:=Q) hN nv
 exact⟨x,g,hx _ ha _ hb g1,hx _ hb _ hc g2,hx _ hc _ ha g3⟩
theorem b9.all(k:b9 Q ts)(nf:¬Flat Q){ns:List (List Pl)}(n:b9 Q ns)(sub:∀t∈ts,t∈ns):∀t∈ns,t∈ts:=λt ht=>by
 have hT:=n.bV t ht
 obtain⟨a,b,c,rfl,p,ha,hb,hc,_⟩:=hT.parts
 have r:cP [a,b,c] a b c:= .inl rfl
 obtain⟨x,g,x1,x2,x3⟩:=inner hT r
 obtain⟨u,hu,iu⟩:=k.some nf g ha hb hc p x1 x2 x3
 have:=n.one nf g ht (sub u hu) (r.ins x1 x2 x3) iu
 rw[this]
 exact hu
end
end L3
namespace L3
section
variable{Q:List Pl}{ts us:List (List Pl)}{H:Pl->Int}{a b c d:Pl}
theorem Nk(a b c p:Pl):tw a b c*dep a b c p=tw b c p*tw c a p*wQ a b+tw c a p*tw a b p*wQ b c+tw a b p*tw b c p*wQ c a:=by unfold dep wQ tw;grind
theorem p9{p:Pl}(t:0<tw a b c)(z1:tw a b p=0)(z2:tw b c p=0):p=b:=by
 obtain⟨e1,e2⟩:=v5 (X:=GW p) t (by rw[dG];exact z1) (by rw[dG];exact z2)
 have e1:p.x=1*b.x:=e1
 have e2:p.y=1*b.y:=e2
 cases p
 cases b
 simp only at e1 e2
 rw[e1,e2,acO,acO]
theorem t6{p:Pl}(t:0<tw a b c)(w1:0<=tw a b p)(w2:0<=tw b c p)(w3:0<=tw c a p)(na:p≠a)(nb:p≠b)(nc:p≠c):fO a b c p:=by
 refine nB t (rE t ?_)
 rw[Nk]
 have n1:a≠b:=λz=>by rw[z]at t;unfold tw at t;grind
 have n2:b≠c:=λz=>by rw[z]at t;unfold tw at t;grind
 have n3:c≠a:=λz=>by rw[z]at t;unfold tw at t;grind
 have d1:=wR n1
 have d2:=wR n2
 have d3:=wR n3
 have m1:=aaB (aaB w2 w3) (aaO d1)
 have m2:=aaB (aaB w3 w1) (aaO d2)
 have m3:=aaB (aaB w1 w2) (aaO d3)
 have k1:¬(tw a b p=0/\tw b c p=0):=λz=>nb (p9 t z.1 z.2)
 have k2:¬(tw b c p=0/\tw c a p=0):=λz=>nc (p9 (a:=b) (b:=c) (c:=a) (by have:=jc a b c;omega) z.1 z.2)
 have k3:¬(tw c a p=0/\tw a b p=0):=λz=>na (p9 (a:=c) (b:=a) (c:=b) (by have:=nF a b c;omega) z.1 z.2)
 by_cases z1:tw a b p=0
 ·have:=aaT (aaT (show 0<tw b c p by omega) (show 0<tw c a p by omega)) d1
  omega
 by_cases z2:tw b c p=0
 ·have:=aaT (aaT (show 0<tw c a p by omega) (show 0<tw a b p by omega)) d2
  omega
 have:=aaT (aaT (show 0<tw a b p by omega) (show 0<tw b c p by omega)) d3
 omega
theorem Nl(H:Pl->Int)(a b c d:Pl):cL H a d c b= -cL H a b c d:=by unfold cL tw;grind
theorem Nm(H:Pl->Int)(a b c d:Pl):cL H d b c a= -cL H a b c d:=by unfold cL tw;grind
theorem CN(H:Pl->Int)(a b c d:Pl):cL H b a d c=cL H a b c d:=by unfold cL tw;grind
theorem JO(p1:0<tw a b c)(p2:0<tw b a d):fO a b c d↔fO b a d c:=by
 obtain⟨H,h⟩:=fS [a,b,c,d]
 rw[h.xS a (by simp) b (by simp) c (by simp) d (by simp) p1,h.xS b (by simp) a (by simp) d (by simp) c (by simp) p2,CN]
theorem DY(p1:0<tw a b c)(p2:0<tw b a d)(s:fO a b c d):0<tw c d b/\tw c d a<0:=by
 obtain⟨H,h⟩:=fS [a,b,c,d]
 have s:=(h.xS a (by simp) b (by simp) c (by simp) d (by simp) p1).mp s
 have f:=bY a b d
 have ne:∀{x y z:Pl},0<tw x y z->x≠y/\y≠z/\z≠x:=λ{x y z} p=>⟨λe=>by rw[e]at p;unfold tw at p;grind,λe=>by rw[e]at p;unfold tw at p;grind,λe=>by rw[e]at p;unfold tw at p;grind⟩
 obtain⟨n1,n2,n3⟩:=ne p1
 obtain⟨_,n4,n5⟩:=ne p2
 have n6:c≠d:=λe=>by rw[e]at p1;omega
 constructor
 ·apply aaq
  intro y
  have e1:tw a d b=tw b a d:=jc b a d
  have e2:tw d c b= -tw c d b:=bY c d b
  have e3:tw c a b=tw a b c:=nF a b c
  have e4:tw a d c=tw a d b+tw d c b+tw c a b:=by unfold tw;grind
  have pos:0<tw a d c:=by omega
  have sp:=t6 (p:=b) pos (by omega) (by omega) (by omega) n1.symm n5.symm n2
  have:=(h.xS a (by simp) d (by simp) c (by simp) b (by simp) pos).mp sp
  rw[Nl]at this
  omega
 ·apply aaq
  intro y
  have e1:tw d b a=tw b a d:=nF b a d
  have e2:tw b c a=tw a b c:=jc a b c
  have e4:tw d b c=tw d b a+tw b c a+tw c d a:=by unfold tw;grind
  have pos:0<tw d b c:=by omega
  have sp:=t6 (p:=a) pos (by omega) (by omega) (by omega) n4 n1 n3.symm
  have:=(h.xS d (by simp) b (by simp) c (by simp) a (by simp) pos).mp sp
  rw[Nm]at this
  omega
theorem zA{α β:Type}{f:α->List β}{w:β}:∀{l:List α},(l.flatMap f).Nodup->∀{t u:α},t∈l->u∈l->w∈f t->w∈f u->t=u
 |x::r,nd,t,u,ht,hu,m1,m2=>by
  rw[abl]at nd
  obtain⟨_,n2,n3⟩:=aa1.mp nd
  rcases aat.mp ht with e1|h1
  ·rcases aat.mp hu with e2|h2
   ·rw[e1,e2]
   ·rw[e1]at m1
    exact absurd rfl (n3 w m1 w (abc.mpr ⟨u,h2,m2⟩))
  ·rcases aat.mp hu with e2|h2
   ·rw[e2]at m2
    exact absurd rfl (n3 w m2 w (abc.mpr ⟨t,h1,m1⟩))
   ·exact zA n2 h1 h2 m1 m2
theorem cP.DZ{t:List Pl}(r:cP t a b c):[a,b]∈eL t:=r.dir.mem_iff.mpr (by simp)
def Bm(ts us:List (List Pl))(a b c d:Pl):Prop:= ∃t1 t2 u1 u2,t1∈ts/\t2∈ts/\cP t1 a b c/\cP t2 b a d/\cP u1 a d c/\cP u2 b c d/\dY u1/\dY u2/\tw c d a*tw c d b<0/\us.Perm (u1::u2::ts.filter (λt=>decide (t∉[t1,t2])))
theorem Bo{t1 t2:List Pl}(nd:ts.Nodup)(n:t1≠t2)(h1:t1∈ts)(h2:t2∈ts):ts.Perm (t1::t2::ts.filter (λt=>decide (t∉[t1,t2]))):=by
 refine mF nd (aaR.mpr ⟨λz=>?_,aaR.mpr ⟨λz=>?_,nd.filter _⟩⟩) λt=>?_
 ·rcases aat.mp z with z|z
  ·exact n z
  ·exact of_decide_eq_true (aaw.mp z).2 (by simp)
 ·exact of_decide_eq_true (aaw.mp z).2 (by simp)
 ·rw[aat,aat,aaw]
  constructor
  ·intro h
   by_cases e1:t=t1
   ·exact .inl e1
   ·by_cases e2:t=t2
    ·exact .inr (.inl e2)
    ·exact .inr (.inr ⟨h,decide_eq_true (by simp[e1,e2])⟩)
  ·rintro(rfl|rfl|h)
   ·exact h1
   ·exact h2
   ·exact h.1
theorem xU{t1 t2:List Pl}(h1:gK Q t1)(h2:gK Q t2)(r1:cP t1 a b c)(r2:cP t2 b a d):t1≠t2:=λz=>by
 obtain⟨p1,_⟩:=r1.tw h1
 obtain⟨p2,_⟩:=r2.tw h2
 rw[z]at r1
 have:c=d:=by
  rcases(r1.mem d).mp ((r2.mem d).mpr (by simp))with h|h|h
  ·rw[h]at p2;unfold tw at p2;exact absurd p2 (by grind)
  ·rw[h]at p2;unfold tw at p2;exact absurd p2 (by grind)
  ·exact h.symm
 rw[this]at p1
 have:=bY a b d
 omega
theorem Bm.JP(k:b9 Q ts)(nf:¬Flat Q)(h:Bm ts us a b c d):b9 Q us:=by
 obtain⟨t1,t2,u1,u2,m1,m2,r1,r2,v1,v2,i1,i2,cv,hp⟩:=h
 exact k.flip nf (Bo k.nodup (xU (k.bV _ m1) (k.bV _ m2) r1 r2) m1 m2) r1 r2 cv hp v1 v2 i1 i2
theorem Bm.len(k:b9 Q ts)(h:Bm ts us a b c d):us.length=ts.length:=by
 obtain⟨t1,t2,u1,u2,m1,m2,r1,r2,v1,v2,i1,i2,cv,hp⟩:=h
 rw[hp.length_eq,(Bo k.nodup (xU (k.bV _ m1) (k.bV _ m2) r1 r2) m1 m2).length_eq]
 rfl
theorem Bm.full(fu:Full Q ts)(h:Bm ts us a b c d):Full Q us:=λq hq=>by
 obtain⟨t1,t2,u1,u2,m1,m2,r1,r2,v1,v2,i1,i2,cv,hp⟩:=h
 obtain⟨t,ht,qt⟩:=fu q hq
 have j1:u1∈us:=hp.mem_iff.mpr (by simp)
 have j2:u2∈us:=hp.mem_iff.mpr (by simp)
 have four:q=a\/q=b\/q=c\/q=d->∃u∈us,q∈u:=λh4=>by
  rcases h4 with y|y|y|y
  ·exact⟨u1,j1,(v1.mem q).mpr (.inl y)⟩
  ·exact⟨u2,j2,(v2.mem q).mpr (.inl y)⟩
  ·exact⟨u2,j2,(v2.mem q).mpr (.inr (.inl y))⟩
  ·exact⟨u2,j2,(v2.mem q).mpr (.inr (.inr y))⟩
 by_cases e1:t=t1
 ·rw[e1]at qt
  refine four ?_
  rcases(r1.mem q).mp qt with y|y|y<;>simp[y]
 ·by_cases e2:t=t2
  ·rw[e2]at qt
   refine four ?_
   rcases(r2.mem q).mp qt with y|y|y<;>simp[y]
  ·exact⟨t,hp.mem_iff.mpr (aar _ (aar _ (aaw.mpr ⟨ht,decide_eq_true (by simp[e1,e2])⟩))),qt⟩
end
end L3
namespace L3
open PySem PySem.Spec PyProof.Rows L2
theorem iX(ps:List Pl):kD (lD ps)=tD ps:=by
 unfold kD lD tD
 rw[ac8]
 rfl
section
variable{Q:List Pl}{ts:List (List Pl)}
def HW(ts:List (List Pl))(a b c d:Pl):Prop:=(∃t∈ts,cP t a b c)/\∃t∈ts,cP t b a d
def qa(ts:List (List Pl))(s:List Pl):Prop:= ∃a b c d:Pl,s=[a,b]/\aQ a b/\HW ts a b c d/\fO a b c d
theorem D3{t:List Pl}{a b c d:Pl}(hT:gK Q t)(r:cP t a b c)(r':cP t a b d):c=d:=by
 obtain⟨x,y,z,rfl,_,_,_,_,n1,n2,n3⟩:=hT.parts
 unfold cP at r r'
 simp only[List.cons.injEq,and_true]at r r'
 rcases r with⟨rfl,rfl,rfl⟩|⟨rfl,rfl,rfl⟩|⟨rfl,rfl,rfl⟩<;>rcases r' with⟨h1,h2,h3⟩|⟨h1,h2,h3⟩|⟨h1,h2,h3⟩<;>first|exact h3|exact h1|exact h2|(exfalso;simp_all)
theorem zB(nd:(aS ts).Nodup)(bV:∀t∈ts,gK Q t){t u:List Pl}{a b c d:Pl}(ht:t∈ts)(hu:u∈ts)(r:cP t a b c)(r':cP u a b d):t=u/\c=d:=by
 have e:t=u:=zA nd ht hu r.DZ r'.DZ
 subst e
 exact⟨rfl,D3 (bV t ht) r r'⟩
theorem jM{a b c:Pl}(p:0<tw a b c){x y z:Pl}(h:[x,y,z].Perm [a,b,c]):cP (qE x y z) a b c/\dY (qE x y z):=by
 obtain⟨t,i,r⟩:=tW p
 have q1:t.Perm [a,b,c]:=by
  rcases r with rfl|rfl|rfl
  ·exact .refl _
  ·exact(aaY (l₁:=[b,c]) (l₂:=[a]))
  ·exact(aaY (l₁:=[c]) (l₂:=[a,b]))
 obtain⟨_,e⟩:=lg i (q1.trans h.symm)
 rw[<-e]
 exact⟨r,i⟩
theorem zC(x y z:Pl):[x,y,z].Perm [x,z,y]:= .cons _ (.swap _ _ _)
theorem HW.one(nd:(aS ts).Nodup)(bV:∀t∈ts,gK Q t){a b c d c' d':Pl}(h:HW ts a b c d)(h':HW ts a b c' d'):c=c'/\d=d':=by
 obtain⟨⟨t,ht,r⟩,⟨w,hw,r2⟩⟩:=h
 obtain⟨⟨t',ht',r'⟩,⟨w',GY,r2'⟩⟩:=h'
 exact⟨(zB nd bV ht ht' r r').2,(zB nd bV hw GY r2 r2').2⟩
theorem D4(a b c d:Pl):tw d c a*tw d c b=tw c d a*tw c d b:=by rw[bY c d a,bY c d b,ack]
theorem GZ(k:b9 Q ts){t u:List Pl}{a b c d:Pl}(ht:t∈ts)(hu:u∈ts)(r1:cP t a b c)(r2:cP u b a d)(cv:tw c d a*tw c d b<0){us:List (List Pl)}{v1 v2:List Pl}(e1:cP v1 a d c/\dY v1)(e2:cP v2 b c d/\dY v2)(hp:us.Perm (ts.filter (λx=>decide (x∉[t,u]))++[v1,v2])):Bm ts us a b c d:=
 ⟨t,u,v1,v2,ht,hu,r1,r2,e1.1,e2.1,e1.2,e2.2,cv,hp.trans aaY⟩
theorem zD(k:b9 Q ts){t u:List Pl}{a b c d:Pl}(ht:t∈ts)(hu:u∈ts)(h:(cP t a b c/\cP u b a d)\/(cP t b a c/\cP u a b d)) :
 (tw c d a*tw c d b<0->∀us:List (List Pl),us.Perm (ts.filter (λx=>decide (x∉[t,u]))++[qE a c d,qE b c d])->∃c' d',HW ts a b c' d'/\Bm ts us a b c' d')/\
 (¬(tw c d a*tw c d b<0)->¬ ∃c' d',HW ts a b c' d'/\tw c' d' a*tw c' d' b<0):=by
 rcases h with⟨r1,r2⟩|⟨r1,r2⟩
 ·have ad:HW ts a b c d:=⟨⟨t,ht,r1⟩,⟨u,hu,r2⟩⟩
  obtain⟨p1,_⟩:=r1.tw (k.bV t ht)
  obtain⟨p2,_⟩:=r2.tw (k.bV u hu)
  refine⟨λcv us hp=>⟨c,d,ad,?_⟩,λn ⟨c',d',h1,h2⟩=>?_⟩
  ·obtain⟨s1,s2⟩:=jL p1 p2 cv
   have g1:tw a d c= -tw c d a:=by unfold tw;grind
   have g2:=jc b c d
   exact GZ k ht hu r1 r2 cv (jM (by omega) (zC a c d)) (jM (by omega) (.refl _)) hp
  ·obtain⟨rfl,rfl⟩:=ad.one k.vZ.nd k.bV h1
   exact n h2
 ·have ad:HW ts a b d c:=⟨⟨u,hu,r2⟩,⟨t,ht,r1⟩⟩
  obtain⟨p1,_⟩:=r1.tw (k.bV t ht)
  obtain⟨p2,_⟩:=r2.tw (k.bV u hu)
  have pf:=D4 a b c d
  refine⟨λcv us hp=>⟨d,c,ad,?_⟩,λn ⟨c',d',h1,h2⟩=>?_⟩
  ·obtain⟨s1,s2⟩:=jL p2 p1 (by omega)
   have g1:tw a c d= -tw d c a:=by unfold tw;grind
   have g2:tw b d c=tw d c b:=by unfold tw;grind
   have ef:ts.filter (λx=>decide (x∉[t,u]))=ts.filter (λx=>decide (x∉[u,t])):=List.filter_congr λx _=>by
    rw[decide_eq_decide]
    simp only[aat,aa7,or_false]
    exact⟨λh z=>h z.symm,λh z=>h z.symm⟩
   rw[ef]at hp
   exact GZ k hu ht r2 r1 (by omega) (jM (by omega) (.refl _)) (jM (by omega) (zC b c d)) hp
  ·obtain⟨rfl,rfl⟩:=ad.one k.vZ.nd k.bV h1
   omega
theorem G0{t:List Pl}{a b c d:Pl}(hT:gK Q t)(r:cP t a b c)(hd:d∈Q):qS t d↔fO a b c d:=by
 obtain⟨H,h⟩:=fS Q
 obtain⟨p,ha,hb,hc⟩:=r.tw hT
 rw[h.zz hT r hd,h.xS a ha b hb c hc d hd p]
theorem qa.turns{s:List Pl}(bV:∀t∈ts,gK Q t)(h:qa ts s):∃a b c d,s=[a,b]/\aQ a b/\HW ts a b c d/\tw c d a*tw c d b<0/\fO a b c d:=by
 obtain⟨a,b,c,d,e,hb,⟨⟨t,ht,r⟩,⟨u,hu,r2⟩⟩,sp⟩:=h
 obtain⟨p1,_⟩:=r.tw (bV t ht)
 obtain⟨p2,_⟩:=r2.tw (bV u hu)
 obtain⟨q1,q2⟩:=DY p1 p2 sp
 exact⟨a,b,c,d,e,hb,⟨⟨t,ht,r⟩,⟨u,hu,r2⟩⟩,abj q2 q1,sp⟩
theorem Bm.Vz{us:List (List Pl)}{a b c d:Pl}(f:Bm ts us a b c d):HW ts a b c d:=by
 obtain⟨t1,t2,_,_,m1,m2,r1,r2,_⟩:=f
 exact⟨⟨t1,m1,r1⟩,⟨t2,m2,r2⟩⟩
end
end L3
namespace L3
section
variable{Q:List Pl}{ts us vs:List (List Pl)}{H:Pl->Int}{a b c d:Pl}
end
end L3
namespace L3
section
variable{Q:List Pl}{ts us vs:List (List Pl)}{H:Pl->Int}{a b c d:Pl}
def nH(H:Pl->Int):List Pl->Int
 |[a,b,c]=>tw a b c*(H a+H b+H c)
 |_=>0
def La(H:Pl->Int)(ts:List (List Pl)):Int:=sz (nH H) ts
theorem oO{t:List Pl}(r:cP t a b c)(H:Pl->Int):nH H t=tw a b c*(H a+H b+H c):=by
 rcases r with rfl|rfl|rfl
 ·rfl
 ·show tw b c a*(H b+H c+H a)=_
  rw[jc]
  congr 1
  omega
 ·show tw c a b*(H c+H a+H b)=_
  rw[nF]
  congr 1
  omega
theorem G1(bV:∀t∈ts,gK Q t)(h:∀p∈Q,0<=H p):0<=La H ts:=by
 unfold La
 induction ts with
 |nil=>exact abr _
 |cons t r ih=>
  have i:=ih λu hu=>bV u (aar _ hu)
  obtain⟨a,b,c,rfl,p,ha,hb,hc,_⟩:=(bV t (by simp)).parts
  have:=aaB (aaO p) (show 0<=H a+H b+H c by have:=h a ha;have:=h b hb;have:=h c hc;omega)
  show 0<=tw a b c*(H a+H b+H c)+sz (nH H) r
  omega
theorem Bm.La(k:b9 Q us)(f:Bm us vs a b c d)(H:Pl->Int):La H vs=La H us+cL H a b c d:=by
 obtain⟨t1,t2,u1,u2,m1,m2,r1,r2,v1,v2,i1,i2,cv,hp⟩:=f
 have e1:=rH (nH H) hp
 have e2:=rH (nH H) (Bo k.nodup (xU (k.bV _ m1) (k.bV _ m2) r1 r2) m1 m2)
 have e3:sz (nH H) (u1::u2::us.filter (λt=>decide (t∉[t1,t2])))=nH H u1+(nH H u2+sz (nH H) (us.filter (λt=>decide (t∉[t1,t2])))):=rfl
 have e4:sz (nH H) (t1::t2::us.filter (λt=>decide (t∉[t1,t2])))=nH H t1+(nH H t2+sz (nH H) (us.filter (λt=>decide (t∉[t1,t2])))):=rfl
 rw[e3,oO v1,oO v2]at e1
 rw[e4,oO r1,oO r2]at e2
 have e5:tw a d c*(H a+H d+H c)+tw b c d*(H b+H c+H d)=tw a b c*(H a+H b+H c)+tw b a d*(H b+H a+H d)+cL H a b c d:=by unfold cL tw;grind
 show sz (nH H) vs=sz (nH H) us+cL H a b c d
 omega
def XD(us:List (List Pl))(s o:List Pl)(vs:List (List Pl)):Prop:= ∃a b c d:Pl,s=[a,b]/\aQ a b/\o=[lo c d,hi c d]/\fO a b c d/\Bm us vs a b c d/\vs.Pairwise (λp q=>cX q p=false)
inductive Run:List (List Pl)->List (List Pl ×List Pl)->List (List Pl)->Prop
 |nil (us:List (List Pl)):Run us [] us
 |cons {us vs ws:List (List Pl)} {s o:List Pl} {ss:List (List Pl ×List Pl)}:XD us s o vs->Run vs ss ws->Run us ((s,o)::ss) ws
theorem Bm.G2(k:b9 Q us)(h:Ht Q H)(f:Bm us vs a b c d):fO a b c d↔cL H a b c d<0:=by
 obtain⟨t1,t2,_,_,m1,m2,r1,r2,_⟩:=f
 obtain⟨p1,ha,hb,hc⟩:=r1.tw (k.bV _ m1)
 obtain⟨_,_,_,hd⟩:=r2.tw (k.bV _ m2)
 exact h.xS a ha b hb c hc d hd p1
end
end L3
namespace L3
section
variable{Q:List Pl}{ts us vs:List (List Pl)}{a b c d:Pl}
theorem D5(nf:¬Flat Q)(QG:∀l:List (List Pl),∃m:List (List Pl),m.Perm l/\m.Pairwise (λp q=>cX q p=false)):∀(n:Nat) {H:Pl->Int} (_:Ht Q H) {us:List (List Pl)},(La H us).toNat<=n->b9 Q us->Full Q us->∃ss ws,Run us ss ws/\b9 Q ws/\Full Q ws/\∀s,¬qa ws s:=by
 intro n
 induction n with
 |zero=>
  intro H h us hv k fu
  by_cases w:∃s,qa us s
  ·obtain⟨s,w⟩:=w
   obtain⟨a,b,c,d,rfl,hb,⟨⟨t,ht,r1⟩,⟨u,hu,r2⟩⟩,cv,sp⟩:=w.turns k.bV
   obtain⟨p1,ha,hb',hc⟩:=r1.tw (k.bV t ht)
   obtain⟨p2,_,_,hd⟩:=r2.tw (k.bV u hu)
   obtain⟨m,hm,so⟩:=QG (us.filter (λx=>decide (x∉[t,u]))++[qE a c d,qE b c d])
   obtain⟨c',d',_,f⟩:=(zD k ht hu (.inl ⟨r1,r2⟩)).1 cv m hm
   obtain⟨rfl,rfl⟩:=f.Vz.one k.vZ.nd k.bV ⟨⟨t,ht,r1⟩,⟨u,hu,r2⟩⟩
   have l:=(f.G2 k h).mp sp
   have e:=f.La k H
   have n1:=G1 (f.JP k nf).bV h.nn
   omega
  ·exact⟨[],us,.nil us,k,fu,λs ws=>w ⟨s,ws⟩⟩
 |succ n ih=>
  intro H h us hv k fu
  by_cases w:∃s,qa us s
  ·obtain⟨s,w⟩:=w
   obtain⟨a,b,c,d,rfl,hb,⟨⟨t,ht,r1⟩,⟨u,hu,r2⟩⟩,cv,sp⟩:=w.turns k.bV
   obtain⟨m,hm,so⟩:=QG (us.filter (λx=>decide (x∉[t,u]))++[qE a c d,qE b c d])
   obtain⟨c',d',_,f⟩:=(zD k ht hu (.inl ⟨r1,r2⟩)).1 cv m hm
   obtain⟨rfl,rfl⟩:=f.Vz.one k.vZ.nd k.bV ⟨⟨t,ht,r1⟩,⟨u,hu,r2⟩⟩
   have l:=(f.G2 k h).mp sp
   have e:=f.La k H
   have n1:=G1 (f.JP k nf).bV h.nn
   obtain⟨ss,ws,run,k2,Uu,no⟩:=ih h (us:=m) (by omega) (f.JP k nf) (f.full fu)
   exact⟨_,ws,.cons ⟨a,b,_,_,rfl,hb,rfl,sp,f,so⟩ run,k2,Uu,no⟩
  ·exact⟨[],us,.nil us,k,fu,λs ws=>w ⟨s,ws⟩⟩
theorem JQ(k:b9 Q ts)(no:∀s,¬qa ts s):Calm ts:=λt ht u hu a b c e r1 r2 sp=>by
 obtain⟨p1,ha,hb,hc⟩:=r1.tw (k.bV t ht)
 obtain⟨p2,_,_,he⟩:=r2.tw (k.bV u hu)
 have VA:=(G0 (k.bV t ht) r1 he).mp sp
 rcases bT a b with h|h|h
 ·exact no _ ⟨a,b,c,e,rfl,h,⟨⟨t,ht,r1⟩,⟨u,hu,r2⟩⟩,VA⟩
 ·rw[h]at p1;unfold tw at p1;exact absurd p1 (by grind)
 ·exact no _ ⟨b,a,e,c,rfl,h,⟨⟨u,hu,r2⟩,⟨t,ht,r1⟩⟩,(JO p1 p2).mp VA⟩
end
end L3
namespace L3
section
variable{Q:List Pl}{ns:List (List Pl)}{p:Pl}
def oQ(Q:List Pl)(ns:List (List Pl))(p:Pl)(a b:Pl):Prop:=(∃t∈ns,qS t p/\[a,b]∈eL t)\/(bf Q b a/\tw b a p<0)
theorem zE(s:c8 Q)(nd:ns.Nodup)(mem:∀t,t∈ns↔gK Q t/\v7 Q t){R:List Pl}(hR:∀q,q∈R↔q∈Q\/q=p){H:Pl->Int}(h:Ht R H)(np:p∉Q){a b:Pl}(ha:a∈Q)(hb:b∈Q)(pos:0<tw a b p):(∀q∈Q,0<=cL H a b p q)↔(oQ Q ns p a b/\¬oQ Q ns p b a):=by
 have k:=lF s nd mem
 have iq:∀{q},q∈Q->q∈R:=λ{q} hq=>(hR q).mpr (.inl hq)
 have ip:p∈R:=(hR p).mpr (.inr rfl)
 have ne:a≠b:=λz=>by rw[z]at pos;unfold tw at pos;exact absurd pos (by grind)
 have DW:∀{t:List Pl} {x y z:Pl},cP t x y z->gK Q t->(v7 Q t↔∀q∈Q,0<=cL H x y z q):=λ{t x y z} r hT=>by
  have RD:gK R t:=⟨hT.1,λq hq=>iq (hT.2 q hq)⟩
  constructor
  ·intro c q hq
   have:=c q hq
   rw[h.zz RD r (iq hq)]at this
   omega
  ·intro c q hq
   rw[h.zz RD r (iq hq)]
   have:=c q hq
   omega
 have xS:∀{t:List Pl} {x y z:Pl},cP t x y z->gK Q t->(qS t p↔cL H x y z p<0):=λ{t x y z} r hT=>h.zz ⟨hT.1,λq hq=>iq (hT.2 q hq)⟩ r ip
 have nz:∀{x y z:Pl},x∈Q->y∈Q->z∈Q->0<tw x y z->cL H x y z p≠0:=λ{x y z} hx hy hz t e=>by
  rcases h.gen x (iq hx) y (iq hy) z (iq hz) p ip t e with rfl|rfl|rfl
  ·exact np hx
  ·exact np hy
  ·exact np hz
 have mk:∀{x y z:Pl},x∈Q->y∈Q->z∈Q->0<tw x y z->(∀q∈Q,0<=cL H x y z q)->∃t∈ns,cP t x y z:=λ{x y z} hx hy hz t c=>by
  obtain⟨u,i,r⟩:=tW t
  have hT:gK Q u:=r.Ur i hx hy hz
  exact⟨u,(mem u).mpr ⟨hT,(DW r hT).mpr c⟩,r⟩
 have right:∀{e:Pl},e∈Q->0<tw b a e->(∀q∈Q,0<=cL H b a e q)->¬oQ Q ns p b a->∀q∈Q,tw a b q<0->0<=cL H a b p q:=λ{e} he pe ke nw q hq lt=>by
  obtain⟨t,ht,r⟩:=mk hb ha he pe ke
  have n:¬cL H b a e p<0:=λz=>nw (.inl ⟨t,ht,(xS r (k.bV t ht)).mpr z,r.DZ⟩)
  have i:=p7 H b a e p q
  have y1:=aaB (ke q hq) (aaO pos)
  have y2:=aaJ (show 0<=cL H b a e p by omega) (aaO lt)
  refine iz pe ?_
  rw[abQ,i]
  omega
 constructor
 ·intro c
  refine⟨?_,λw=>?_⟩
  ·by_cases ex:∃q∈Q,0<tw a b q
   ·obtain⟨q0,h0,p0⟩:=ex
    have mf:∀q,q∈Q.filter (λq=>decide (0<tw a b q))↔q∈Q/\0<tw a b q:=λq=>by rw[aaw,decide_eq_true_eq]
    obtain⟨e,he,hm⟩:=p8 (f:=cL H a b q0) (g:=tw a b) (l:=Q.filter λq=>decide (0<tw a b q)) (abN ((mf q0).mpr ⟨h0,p0⟩)) λr hr=>((mf r).mp hr).2
    obtain⟨he,pe⟩:=(mf e).mp he
    have ke:∀r∈Q,0<=cL H a b e r:=λr hr=>by
     rcases ade 0 (tw a b r)with y|y
     ·have i:=oM H a b q0 e r
      have:=hm r ((mf r).mpr ⟨hr,y⟩)
      refine iz p0 ?_
      rw[abQ,i]
      omega
     ·have i:=oM H a b p e r
      have y1:=aaB (c r hr) (aaO pe)
      have y2:=aaJ (c e he) y
      refine iz pos ?_
      rw[abQ,i]
      omega
    obtain⟨t,ht,r⟩:=mk ha hb he pe ke
    refine .inl ⟨t,ht,(xS r (k.bV t ht)).mpr ?_,r.DZ⟩
    have e1:=zy H a b p e
    have:=c e he
    have:=nz ha hb he pe
    omega
   ·refine .inr ⟨⟨hb,ha,ne.symm,λq hq=>⟨?_,λz nb=>?_⟩⟩,by have:=bY a b p;omega⟩
    ·have:=bY a b q
     apply aaq
     intro z
     exact ex ⟨q,hq,by omega⟩
    ·have z':tw a b q=0:=by have:=bY a b q;omega
     have e1:lo b a=lo a b:=by
      unfold lo
      rcases bT a b with y|y|y
      ·rw[if_pos y,if_neg (az y)]
      ·exact absurd y ne
      ·rw[if_neg (az y),if_pos y]
     have e2:hi b a=hi a b:=by
      unfold hi
      rcases bT a b with y|y|y
      ·rw[if_pos y,if_neg (az y)]
      ·exact absurd y ne
      ·rw[if_neg (az y),if_pos y]
     rw[e1,e2]at nb
     have:=(h.xS a (iq ha) b (iq hb) p ip q (iq hq) pos).mp (qH pos z' nb)
     have:=c q hq
     omega
  ·rcases w with⟨t,ht,sp,m⟩|⟨sd,lt⟩
   ·obtain⟨e,r⟩:=iF (k.bV t ht) m
    obtain⟨_,_,_,he⟩:=r.tw (k.bV t ht)
    have:=(xS r (k.bV t ht)).mp sp
    rw[CN]at this
    have:=c e he
    omega
   ·omega
 ·rintro⟨w,nw⟩ q hq
  have zero:tw a b q=0->(∀r∈Q,0<=tw b a r/\(tw b a r=0->¬(aQ (lo b a) r/\aQ r (hi b a))))->0<=cL H a b p q:=λz HV=>by
   have e1:lo b a=lo a b:=by
    unfold lo
    rcases bT a b with y|y|y
    ·rw[if_pos y,if_neg (az y)]
    ·exact absurd y ne
    ·rw[if_neg (az y),if_pos y]
   have e2:hi b a=hi a b:=by
    unfold hi
    rcases bT a b with y|y|y
    ·rw[if_pos y,if_neg (az y)]
    ·exact absurd y ne
    ·rw[if_neg (az y),if_pos y]
   have nb:=(HV q hq).2 (by have:=bY a b q;omega)
   rw[e1,e2]at nb
   have:=tY pos z nb
   rw[h.xS a (iq ha) b (iq hb) p ip q (iq hq) pos]at this
   omega
  rcases w with⟨t,ht,sp,m⟩|⟨sd,lt⟩
  ·obtain⟨c,r⟩:=iF (k.bV t ht) m
   obtain⟨pc,_,_,hc⟩:=r.tw (k.bV t ht)
   have kc:=(DW r (k.bV t ht)).mp ((mem t).mp ht).2
   have l0:=(xS r (k.bV t ht)).mp sp
   rcases ade (tw a b q) 0 with y|y
   ·have dn:[b,a]∈aS ns:=by
     apply aaq
     intro z
     have:=((k.vZ.bare a b (bz.mpr ⟨t,ht,r.DZ⟩) z).2.2.2 q hq).1
     omega
    obtain⟨u,hu,m2⟩:=bz.mp dn
    obtain⟨e,r2⟩:=iF (k.bV u hu) m2
    obtain⟨pe,_,_,he⟩:=r2.tw (k.bV u hu)
    exact right he pe ((DW r2 (k.bV u hu)).mp ((mem u).mp hu).2) nw q hq y
   ·have i:=oM H a b c p q
    have y1:=aaB (kc q hq) (aaO pos)
    have y2:=aaM (aaO l0) y
    refine iz pc ?_
    rw[abQ,i]
    omega
  ·have tq:=(sd.2.2.2 q hq).1
   have fq:=bY a b q
   by_cases z:tw a b q=0
   ·exact zero z sd.2.2.2
   ·rcases k.vZ.has b a sd with XE|dn
    ·have:=(XE.2.2.2 q hq).1
     omega
    ·obtain⟨u,hu,m2⟩:=bz.mp dn
     obtain⟨e,r2⟩:=iF (k.bV u hu) m2
     obtain⟨pe,_,_,he⟩:=r2.tw (k.bV u hu)
     exact right he pe ((DW r2 (k.bV u hu)).mp ((mem u).mp hu).2) nw q hq (by omega)
theorem oQ.places(k:b9 Q ns){a b:Pl}(w:oQ Q ns p a b):a∈Q/\b∈Q:=by
 rcases w with⟨t,ht,_,m⟩|⟨sd,_⟩
 ·obtain⟨c,r⟩:=iF (k.bV t ht) m
  obtain⟨_,ha,hb,_⟩:=r.tw (k.bV t ht)
  exact⟨ha,hb⟩
 ·exact⟨sd.2.1,sd.1⟩
theorem JR(s:c8 Q)(nd:ns.Nodup)(mem:∀t,t∈ns↔gK Q t/\v7 Q t){R:List Pl}(hR:∀q,q∈R↔q∈Q\/q=p)(np:p∉Q)(t:List Pl) :
 (gK R t/\v7 R t)↔((t∈ns/\¬qS t p)\/(dY t/\∃a b,cP t a b p/\oQ Q ns p a b/\¬oQ Q ns p b a/\0<tw a b p)):=by
 obtain⟨H,h⟩:=fS R
 have k:=lF s nd mem
 have ip:p∈R:=(hR p).mpr (.inr rfl)
 constructor
 ·rintro⟨hT,hC⟩
  by_cases m:p∈t
  ·obtain⟨e,f,r⟩:=cP.GX hT m
   have r':cP t e f p:=r.next
   obtain⟨pos,he,hf,_⟩:=r'.tw hT
   have ne:e≠p:=λz=>by rw[z]at pos;unfold tw at pos;exact absurd pos (by grind)
   have nf:f≠p:=λz=>by rw[z]at pos;unfold tw at pos;exact absurd pos (by grind)
   have he:e∈Q:=((hR e).mp he).resolve_right ne
   have hf:f∈Q:=((hR f).mp hf).resolve_right nf
   have c:=(h.DW hT r').mp hC
   obtain⟨w1,w2⟩:=(zE s nd mem hR h np he hf pos).mp λq hq=>c q ((hR q).mpr (.inl hq))
   exact .inr ⟨hT.1,e,f,r',w1,w2,pos⟩
  ·have RD:gK Q t:=⟨hT.1,λq hq=>((hR q).mp (hT.2 q hq)).resolve_right λz=>m (z▸hq)⟩
   exact .inl ⟨(mem t).mpr ⟨RD,λd hd=>hC d ((hR d).mpr (.inl hd))⟩,hC p ip⟩
 ·rintro(⟨m,n⟩|⟨i,a,b,r,w1,w2,pos⟩)
  ·obtain⟨hT,hC⟩:=(mem t).mp m
   refine⟨⟨hT.1,λq hq=>(hR q).mpr (.inl (hT.2 q hq))⟩,λd hd=>?_⟩
   rcases(hR d).mp hd with z|z
   ·exact hC d z
   ·rw[z];exact n
  ·obtain⟨ha,hb⟩:=w1.places k
   have hT:gK R t:=r.Ur i ((hR a).mpr (.inl ha)) ((hR b).mpr (.inl hb)) ip
   refine⟨hT,(h.DW hT r).mpr λd hd=>?_⟩
   rcases(hR d).mp hd with z|z
   ·exact(zE s nd mem hR h np ha hb pos).mpr ⟨w1,w2⟩ d z
   ·rw[z,GS];exact abr _
def jA(p:Pl)(w:List Pl):Bool:=match w with
 |[a,b]=>decide (tw a b p<0)
 |_=>false
def nI(w:List Pl):List Pl:=w.reverse
def qb(p:Pl)(t:List Pl):Bool:=match t with
 |[a,b,c]=>decide (fO a b c p)
 |_=>false
theorem xV{t:List Pl}:qb p t=true↔qS t p:=by
 unfold qb qS
 split
 ·exact decide_eq_true_iff
 ·simp
theorem G3(s:c8 Q)(a b:Pl):[a,b]∈aS (ns.filter (qb p))++((bB (bI Q)).filter (jA p)).map nI↔oQ Q ns p a b:=by
 have sl:∀a b,[a,b]∈bB (bI Q)↔bf Q a b:=λa b=>bX s
 rw[aaF]
 unfold oQ
 constructor
 ·rintro(m|m)
  ·obtain⟨t,ht,m⟩:=bz.mp m
   obtain⟨ht,sp⟩:=aaw.mp ht
   exact .inl ⟨t,ht,xV.mp sp,m⟩
  ·obtain⟨w,hw,ew⟩:=aaI.mp m
   obtain⟨hw,sb⟩:=aaw.mp hw
   have e2:w=[b,a]:=by
    have:=congrArg List.reverse ew
    unfold nI at this
    rw[acB]at this
    simpa using this
   subst e2
   exact .inr ⟨(sl b a).mp hw,of_decide_eq_true sb⟩
 ·rintro(⟨t,ht,sp,m⟩|⟨sd,lt⟩)
  ·exact .inl (bz.mpr ⟨t,aaw.mpr ⟨ht,xV.mpr sp⟩,m⟩)
  ·exact .inr (aaI.mpr ⟨[b,a],aaw.mpr ⟨(sl b a).mpr sd,decide_eq_true lt⟩,rfl⟩)
end
end L3
namespace L3
section
variable{Q:List Pl}{ts us ws:List (List Pl)}
theorem uP{p q r:List Pl}(h1:cX q p=false)(h2:cX r q=false):cX r p=false:=by
 cases e:cX r p with
 |false=>rfl
 |true=>
  rcases k7 p q with a|a|a
  ·have:=iw _ _ _ e a
   rw[h2]at this
   cases this
  ·subst a
   rw[h2]at e
   cases e
  ·rw[h1]at a
   cases a
def Bp(x:List Pl):List (List Pl)->List (List Pl)
 |[]=>[x]
 |y::r=>if cX y x=true then y::Bp x r else x::y::r
theorem qc(x:List Pl):∀l,(Bp x l).Perm (x::l)
 |[]=> .refl _
 |y::r=>by
  unfold Bp
  split
  ·exact(List.Perm.cons y (qc x r)).trans (.swap _ _ _)
  ·exact .refl _
theorem qI(x:List Pl):∀{l:List (List Pl)},l.Pairwise (λp q=>cX q p=false)->(Bp x l).Pairwise (λp q=>cX q p=false)
 |[],_=>by simp[Bp]
 |y::r,s=>by
  obtain⟨s1,s2⟩:=aaL.mp s
  unfold Bp
  split
  ·rename_i h
   refine aaL.mpr ⟨λz hz=>?_,qI x s2⟩
   rcases aat.mp ((qc x r).mem_iff.mp hz)with rfl|hz
   ·cases e:cX z y with
    |false=>rfl
    |true=>
     have:=iw _ _ _ h e
     rw[kZ]at this
     cases this
   ·exact s1 z hz
  ·rename_i h
   have h:cX y x=false:=by simpa using h
   refine aaL.mpr ⟨λz hz=>?_,s⟩
   rcases aat.mp hz with rfl|hz
   ·exact h
   ·exact uP h (s1 z hz)
theorem v8:∀l:List (List Pl),∃m:List (List Pl),m.Perm l/\m.Pairwise (λp q=>cX q p=false)
 |[]=>⟨[],.refl _,.nil⟩
 |x::r=>by
  obtain⟨m,hp,hs⟩:=v8 r
  exact⟨Bp x m,(qc x m).trans (.cons x hp),qI x hs⟩
theorem Run.G4{ss:List (List Pl ×List Pl)}(r:Run us ss ws):∀(_:b9 Q us) (_:¬Flat Q),ws.length=us.length:=by
 induction r with
 |nil us=>intro _ _;rfl
 |cons a _ ih=>
  intro k nf
  obtain⟨a',b',c',d',rfl,hb,rfl,sp,f,_⟩:=a
  rw[ih (f.JP k nf) nf,f.len k]
theorem CO(s:c8 Q){ns:List (List Pl)}(nd:ns.Nodup)(mem:∀t,t∈ns↔gK Q t/\v7 Q t):ns.length<=2*Q.length:=by
 by_cases fl:Flat Q
 ·cases e:ns with
  |nil=>simp
  |cons t0 tr=>
   obtain⟨u,v,w,et,pos,kj,hv',GY,_⟩:=((mem t0).mp (by rw[e];simp)).1.parts
   have:=fl u kj v hv' w GY
   omega
 ·have h2:2<=Q.length:=by
   apply aaq
   intro z
   exact fl (iB (by omega))
  have c:=DU s h2
  have kc:b9 Q (qT Q Q.length):=⟨s,by have:=Cz s Q.length (aaz _);rw[aa4]at this;exact this,λt ht=>CA s Q.length (aaz _) t ht⟩
  have fu:Full Q (qT Q Q.length):=λq hq=>tQ s Q.length (aaz _) (by rw[aa4];exact fl) q (by rw[aa4];exact hq)
  obtain⟨H,h⟩:=fS Q
  obtain⟨ss,ws,run,k2,Uu,no⟩:=D5 fl v8 _ h (aaz _) kc fu
  have cl:=k2.calm fl Uu (JQ k2 no)
  have sub:∀t∈ws,t∈ns:=λt ht=>(mem t).mpr ⟨k2.bV t ht,cl t ht⟩
  have kn:=lF s nd mem
  have e:=(mF nd k2.nodup λt=>⟨k2.all fl kn sub t,sub t⟩).length_eq
  have e2:=run.G4 kc fl
  omega
end
end L3
namespace L3
section
variable{Q:List Pl}{ns:List (List Pl)}{p:Pl}
def G5(p:Pl)(w:List Pl):Bool:=match w with
 |[a,b]=>decide (0<tw a b p)
 |_=>false
def QH(p:Pl)(w:List Pl):List Pl:=match w with
 |[a,b]=>qE a b p
 |_=>[]
def putL(Q:List Pl)(ns:List (List Pl))(p:Pl):List (List Pl):=aS (ns.filter (qb p))++((bB (bI Q)).filter (jA p)).map nI
def uQ(W:List (List Pl)):List (List Pl):=W.filter (λw=>decide (nI w∉W))
theorem qd{f:List Pl->Bool}:∀{ts:List (List Pl)},(aS ts).Nodup->(aS (ts.filter f)).Nodup
 |[],_=> .nil
 |t::r,h=>by
  have e:∀(t:List Pl) r,aS (t::r)=eL t++aS r:=λt r=>by unfold aS;rw[abl]
  rw[e,aa1]at h
  obtain⟨h1,h2,h3⟩:=h
  rw[abI]
  split
  ·rw[e,aa1]
   refine⟨h1,qd h2,λx hx y hy=>h3 x hx y ?_⟩
   obtain⟨u,hu,m⟩:=bz.mp hy
   exact bz.mpr ⟨u,(aaw.mp hu).1,m⟩
  ·exact qd h2
theorem Bq(k:b9 Q ns):(putL Q ns p).Nodup:=by
 unfold putL
 rw[aa1]
 refine⟨qd k.vZ.nd,?_,λx hx y hy e=>?_⟩
 ·have:=((jz k.vY).filter (jA p))
  unfold SL at this
  refine acT.mpr (this.imp λ{a b} h z=>h ?_)
  have:=congrArg List.reverse z
  unfold nI at this
  rwa [acB,acB]at this
 ·subst e
  obtain⟨v,hv,rfl⟩:=aaI.mp hy
  obtain⟨hv,_⟩:=aaw.mp hv
  obtain⟨a,b,rfl⟩:=iC (show v∈SL Q from hv)
  obtain⟨t,ht,m⟩:=bz.mp hx
  exact k.vZ.pV a b ((bX k.vY).mp hv) (bz.mpr ⟨t,(aaw.mp ht).1,m⟩)
theorem lG(s:c8 Q){w:List Pl}(k:b9 Q ns):w∈(uQ (putL Q ns p)).filter (G5 p)↔∃a b,w=[a,b]/\oQ Q ns p a b/\¬oQ Q ns p b a/\0<tw a b p:=by
 have pl:∀a b,[a,b]∈putL Q ns p↔oQ Q ns p a b:=λa b=>G3 s a b
 unfold uQ
 rw[aaw,aaw,decide_eq_true_iff]
 constructor
 ·rintro⟨⟨m,n⟩,l⟩
  obtain⟨a,b,rfl⟩:∃a b,w=[a,b]:=by
   unfold putL at m
   rcases aaF.mp m with m|m
   ·obtain⟨t,ht,m⟩:=bz.mp m
    obtain⟨a,b,e,_⟩:=k.vZ.rF w (bz.mpr ⟨t,(aaw.mp ht).1,m⟩)
    exact⟨a,b,e⟩
   ·obtain⟨v,hv,rfl⟩:=aaI.mp m
    obtain⟨a,b,rfl⟩:=iC (show v∈SL Q from(aaw.mp hv).1)
    exact⟨b,a,rfl⟩
  exact⟨a,b,rfl,(pl a b).mp m,λz=>n ((pl b a).mpr z),of_decide_eq_true l⟩
 ·rintro⟨a,b,rfl,w1,w2,pos⟩
  exact⟨⟨(pl a b).mpr w1,λz=>w2 ((pl b a).mp z)⟩,decide_eq_true pos⟩
theorem cP.G6{t:List Pl}{a b a' b':Pl}(r:cP t a b p)(r':cP t a' b' p)(na:a'≠p)(nb:b'≠p):a'=a/\b'=b:=by
 have:=r.dir.mem_iff.mp r'.DZ
 simp only[aat,aa7,or_false]at this
 rcases this with e|e|e
 ·exact aT e
 ·exact absurd (aT e).2 nb
 ·exact absurd (aT e).1 na
theorem cP.perm{t:List Pl}{a b c:Pl}(r:cP t a b c):t.Perm [a,b,c]:=by
 rcases r with rfl|rfl|rfl
 ·exact .refl _
 ·exact aaY (l₁:=[b,c]) (l₂:=[a])
 ·exact aaY (l₁:=[c]) (l₂:=[a,b])
theorem zF(s:c8 Q)(k:b9 Q ns)(t:List Pl):t∈((uQ (putL Q ns p)).filter (G5 p)).map (QH p)↔(dY t/\∃a b,cP t a b p/\oQ Q ns p a b/\¬oQ Q ns p b a/\0<tw a b p):=by
 rw[aaI]
 constructor
 ·rintro⟨w,hw,rfl⟩
  obtain⟨a,b,rfl,w1,w2,pos⟩:=(lG s k).mp hw
  obtain⟨r,i⟩:=jM pos (.refl _)
  exact⟨i,a,b,r,w1,w2,pos⟩
 ·rintro⟨i,a,b,r,w1,w2,pos⟩
  exact⟨[a,b],(lG s k).mpr ⟨a,b,rfl,w1,w2,pos⟩,(lg i r.perm).2.symm⟩
theorem zG{a b:Pl}(pos:0<tw a b p):a≠p/\b≠p:=⟨λz=>by rw[z]at pos;unfold tw at pos;exact absurd pos (by grind),λz=>by rw[z]at pos;unfold tw at pos;exact absurd pos (by grind)⟩
theorem Br(s:c8 Q)(k:b9 Q ns):(((uQ (putL Q ns p)).filter (G5 p)).map (QH p)).Nodup:=by
 have nd:((uQ (putL Q ns p)).filter (G5 p)).Nodup:=((Bq k).filter _).filter _
 refine acT.mpr (List.Pairwise.imp_of_mem (λ{v w} hv hw h z=>h ?_) nd)
 obtain⟨a,b,rfl,_,_,p1⟩:=(lG s k).mp hv
 obtain⟨a',b',rfl,_,_,p2⟩:=(lG s k).mp hw
 obtain⟨r,_⟩:=jM p1 (.refl _)
 obtain⟨r',_⟩:=jM p2 (.refl _)
 have z:qE a b p=qE a' b' p:=z
 rw[z]at r
 obtain⟨e1,e2⟩:=r'.G6 r (zG p1).1 (zG p1).2
 rw[e1,e2]
theorem G7(s:c8 Q)(k:b9 Q ns)(np:p∉Q){t:List Pl}(h:t∈((uQ (putL Q ns p)).filter (G5 p)).map (QH p)):t∉ns:=λm=>by
 obtain⟨_,a,b,r,_⟩:=(zF s k t).mp h
 exact np ((k.bV t m).2 p ((r.mem p).mpr (.inr (.inr rfl))))
theorem qe(ps:List Pl)(nd:ps.Nodup):∃qs:List Pl,qs.Perm ps/\qs.Pairwise (λp q=>aQ p q):=by
 have tot:∀a b:Pl,(!decide (aQ b a) || !decide (aQ a b))=true:=λa b=>by
  by_cases h:aQ b a
  ·simp[h,az h]
  ·simp[h]
 have XF:∀a b c:Pl,(!decide (aQ b a))=true->(!decide (aQ c b))=true->(!decide (aQ c a))=true:=λa b c h1 h2=>by
  simp only[abt,decide_eq_false_iff_not]at *
  intro h3
  rcases bT b c with k|k|k
  ·exact h1 (aV k h3)
  ·subst k;exact h1 h3
  ·exact h2 k
 refine⟨ps.mergeSort (λa b=>!decide (aQ b a)),adA _ _,?_⟩
 refine DM ((List.pairwise_mergeSort XF tot ps).imp λh=>?_) ((adA ps _).nodup_iff.mpr nd)
 simpa using h
theorem G8{ps:List Pl}(nd:ps.Nodup)(ok:∀q∈ps,q.Ok 140){ns:List (List Pl)}(N8:ns.Nodup)(mem:∀t,t∈ns↔gK ps t/\v7 ps t):ns.length<=2*ps.length:=by
 obtain⟨qs,hq,hs⟩:=qe ps nd
 rw[<-hq.length_eq]
 refine CO ⟨hs,λq m=>(ok q (hq.mem_iff.mp m)).2⟩ N8 λt=>(mem t).trans ?_
 exact and_congr ⟨λc=>⟨c.1,λq m=>hq.mem_iff.mpr (c.2 q m)⟩,λc=>⟨c.1,λq m=>hq.mem_iff.mp (c.2 q m)⟩⟩ ⟨λc d hd=>c d (hq.mem_iff.mp hd),λc d hd=>c d (hq.mem_iff.mpr hd)⟩
end
end L3
namespace L3
open PySem PySem.Spec PyProof.Rows L2
def yD(ws:List (List Pl)):List (List (List Int) ×D):=ws.map λw=>(lD w,.bl true)
theorem t7:∀{v w:List Pl},lD v=lD w->v=w
 |[],[],_=>rfl
 |[],_::_,h=>by unfold lD at h;simp at h
 |_::_,[],h=>by unfold lD at h;simp at h
 |a::v,b::w,h=>by
  unfold lD at h
  rw[aaV,aaV]at h
  obtain⟨h1,h2⟩:=List.cons.inj h
  have e:a=b:=by
   cases a;cases b
   simp only[List.cons.injEq,and_true]at h1
   rw[h1.1,h1.2]
  rw[e,t7 (v:=v) (w:=w) h2]
theorem mG(w:List Pl):∀ws:List (List Pl),(qG (yD ws) (lD w)).isSome=decide (w∈ws)
 |[]=>by simp[qG,yD]
 |v::ws=>by
  have ih:=mG w ws
  unfold qG yD at ih ⊢
  rw[aaV,adn]
  by_cases c:v=w
  ·subst c
   rw[decide_eq_true rfl]
   simp
  ·rw[decide_eq_false (λz=>c (t7 z))]
   dsimp only
   rw[ih]
   apply decide_eq_decide.mpr
   rw[aat]
   exact⟨λz=> .inr z,λz=>z.resolve_left λy=>c y.symm⟩
theorem xW{w:List Pl}{ws:List (List Pl)}(h:w∉ws):vV (yD ws) (lD w) (.bl true)=yD (ws++[w]):=by
 unfold vV
 rw[mG,decide_eq_false h]
 unfold yD
 rw[aaK]
 rfl
theorem G9(ws:List (List Pl)):(yD ws).map (λp=>kD p.1)=ws.map tD:=by
 unfold yD
 rw[ac8]
 apply List.map_congr_left
 intro w _
 exact iX w
theorem xX(ws:List (List Pl)):(yD ws).length=ws.length:=by unfold yD;rw[aas]
theorem QI(b c:Pl):∃m:Pl,[b,c].getD (argBest (bestOf (λp q=>decide (aQ p q)) [b,c]) ([b,c].length-1)) ⟨0,0⟩=m/\(m=b\/m=c):=by
 rw[show argBest (bestOf (λp q=>decide (aQ p q)) [b,c]) ([b,c].length-1)=argBest (bestOf (λp q=>decide (aQ p q)) [b,c]) 1 from rfl]
 unfold argBest argBest bestOf
 by_cases h1:aQ c b
 ·exact⟨c,by simp[h1],.inr rfl⟩
 ·exact⟨b,by simp[h1],.inl rfl⟩
theorem Nn{ps:List Pl}{q:Pl}(m:q∈ps):∃a b:Pl,a∈ps/\b∈ps/\rW (ps.map Pl.d) 0=some a.d/\rW (ps.map Pl.d) (-1)=some b.d:=by
 have h:ps≠[]:=abN m
 obtain⟨a,r,rfl⟩:=List.exists_cons_of_ne_nil h
 refine⟨a,(a::r).getLast h,by simp,List.getLast_mem h,eV (j:=0) rfl,?_⟩
 have e:(a::r)=(a::r).dropLast++[(a::r).getLast h]:=(acG h).symm
 have:(a::r).map Pl.d=((a::r).dropLast.map Pl.d)++[((a::r).getLast h).d]:=by
  have:=congrArg (List.map Pl.d) e
  rw[aaK]at this
  exact this
 rw[this]
 exact yI _ _
theorem Bs{ts:List (List Pl)}(h:(aS ts).Nodup)(i:Nat):(aS (ts.take i)).Nodup:=by
 rw[<-List.take_append_drop i ts]at h
 unfold aS at h ⊢
 rw[abR]at h
 exact(aa1.mp h).1
theorem Hf{Q:List Pl}(s:c8 Q)(k:b9 Q []):Flat Q:=by
 by_cases h2:Q.length<2
 ·exact iB (by omega)
 ·obtain⟨l,e,sl⟩:=vO s (by omega)
  obtain⟨w,hw⟩:∃w,w∈SL Q:=by
   apply acU
   intro z
   rw[z]at e
   have:=congrArg List.length e
   rw[aci,aaA,abC,abB,abW]at this
   omega
  obtain⟨a,b,rfl⟩:=iC hw
  have sd:=(sl a b).mp hw
  rcases k.vZ.has a b sd with h|h
  ·exact pW sd h
  ·unfold aS at h
   cases h
end L3
namespace L2
open PySem PySem.Spec PyProof.Rows
def XG(g:Heap)(H:Hp)(h:Heap)(e:Addr)(cls:Value)(dc:Option Addr):Prop:=
 g.get? e=none/\H e=none/\∃oe vs,h.get? e=some oe/\(oe.cls=cls/\oe.dict=dc)/\oe.data= .fields vs/\vs[1]?=some .none
def N9(g:Heap)(H:Hp)(h:Heap)(e:Addr)(cls fl:Value)(dc:Option Addr):Prop:=
 g.get? e=none/\H e=none/\∃oe vs T oT ts,h.get? e=some oe/\(oe.cls=cls/\oe.dict=dc)/\oe.data= .fields vs/\vs[1]?=some (.ref T)/\g.get? T=none/\H T=none/\T≠e/\h.get? T=some oT/\oT.data= .fields ts/\ts[3]?=some fl
def t8(g:Heap)(H:Hp)(h:Heap)(e:Addr)(cls:Value)(dc:Option Addr):Prop:=XG g H h e cls dc\/N9 g H h e cls .none dc
theorem t8.there{g h:Heap}{H:Hp}{e:Addr}{cls:Value}{dc:Option Addr}(x:t8 g H h e cls dc):∃oe,h.get? e=some oe/\(oe.cls=cls/\oe.dict=dc)/\∃vs,oe.data= .fields vs:=by
 rcases x with⟨_,_,oe,vs,h1,h2,h3,_⟩|⟨_,_,oe,vs,_,_,_,h1,h2,h3,_⟩
 ·exact⟨oe,h1,h2,vs,h3⟩
 ·exact⟨oe,h1,h2,vs,h3⟩
theorem t8.new{g h:Heap}{H:Hp}{e:Addr}{cls:Value}{dc:Option Addr}(x:t8 g H h e cls dc):g.get? e=none/\H e=none:=by
 rcases x with⟨a,b,_⟩|⟨a,b,_⟩<;>exact⟨a,b⟩
structure t9(g:Heap)(H:Hp)(S:List Addr)(h h':Heap):Prop where
 keep:∀b o,h.get? b=some o->b∉S->(H b≠none\/g.get? b≠none)->h'.get? b=some o
 slot:∀b o,h.get? b=some o->(H b≠none\/g.get? b≠none)->∃sl,h'.get? b=some {o with slots:=sl}
 there:∀b o,h.get? b=some o->∃o',h'.get? b=some o'
theorem t9.trans{g h h1 h2:Heap}{H:Hp}{S:List Addr}(a:t9 g H S h h1)(b:t9 g H S h1 h2):t9 g H S h h2 where
 keep:=λc o q n k=>b.keep c o (a.keep c o q n k) n k
 slot:=λc o q k=>by
  obtain⟨sl,e⟩:=a.slot c o q k
  obtain⟨Lx,e'⟩:=b.slot c _ e k
  exact⟨Lx,e'⟩
 there:=λc o q=>by
  obtain⟨o',e⟩:=a.there c o q
  exact b.there c o' e
theorem t9.Np{g h:Heap}{H:Hp}{S:List Addr}{x:Addr}{f:Obj->Obj}(h1:g.get? x=none)(h2:H x=none){o:Obj}(ho:h.get? x=some o)(hf:(f o).isFreed=false):t9 g H S h (h.update x f):=by
 have ne:∀b,(H b≠none\/g.get? b≠none)->x≠b:=λb k z=>by
  subst z
  rcases k with k|k
  ·exact k h2
  ·exact k h1
 refine⟨λb u q _ k=>by rw[Heap.get?_update_other _ _ (ne b k)];exact q,λb u q k=>⟨u.slots,by rw[Heap.get?_update_other _ _ (ne b k)];exact q⟩,λb u q=>?_⟩
 by_cases hb:x=b
 ·subst hb
  exact⟨_,Heap.get?_update_self _ ho hf⟩
 ·exact⟨u,by rw[Heap.get?_update_other _ _ hb];exact q⟩
theorem t9.kept{g h h':Heap}{H:Hp}{S:List Addr}(k:∀b u,h.get? b=some u->h'.get? b=some u):t9 g H S h h':=
 ⟨λb o q _ _=>k b o q,λb o q _=>⟨o.slots,k b o q⟩,λb o q=>⟨o,k b o q⟩⟩
theorem t9.slots{g h h':Heap}{H:Hp}{S:List Addr}(x:Heap.SlotsOnly S h h'):t9 g H S h h':=
 ⟨λb o q n _=>by rw[x.2.1 b n];exact q,λb o q _=>x.2.2 b o q,λb o q=>let ⟨_,e⟩:=x.2.2 b o q;⟨_,e⟩⟩
theorem D6(f:Array Value->Array Value)(o:Obj):(o.mapFields f).dict=o.dict:=by
 obtain⟨c,d,dt,sl⟩:=o
 cases dt<;>rfl
section
variable{M:Model}{A:Around}{E:Value->Shared->Prop}{s:Shared}
theorem zH{g base:Heap}{H:Hp}{env:Env}{outer:List Env}{L e:Addr}{oe:Obj}{dc:Option Addr}{vs:Array Value}{head:Value}{hadNext:Bool}{Q:Unit->Shared->Prop}
 (hfr:A.frames=some (env::outer))(hl:s.heap.FunFrames base (env::outer))(hf:env.frame=some L)
 (ge:g.get? e=none)(He:H e=none)(hdn:oe.dict=dc)(he:s.heap.get? e=some oe)(hd:oe.data= .fields vs)(hsz:1<vs.size)
 (gk:∀b o,g.get? b=some o->∃o',s.heap.get? b=some o')(Hk:∀b,s.heap.objs.size<=b->H b=none)
 (h:∀h',t9 g H (frs (env::outer)) s.heap h'->N9 g H h' e oe.cls (rawInt L) dc->Q () {s with heap:=h'}) :
 wpAny M A (do let a <-frameOf env;let pl <-entryPlaceOf L hadNext;let b <-EntryCells.newEntry head a .none (rawInt L) .none pl;setField (.ref e) 1 b) Q E s:=by
 have Uv:e∉(env::outer).filterMap (·.frame):=λhm=>by
  obtain⟨_,o,ho,hnf⟩:=hl.mem hm
  rw[he]at ho;injection ho with ho;subst ho;exact hnf vs hd
 refine wpAny_bind (wpAny_frameOf_fun hfr hl hf λh₁ hs₁=>?_)
 refine wpAny_bind (wpAny_entryPlaceOf λpl hpl=>?_)
 unfold EntryCells.newEntry newFields
 refine wpAny_bind (wpAny_newObj_type ?_ (hpl.sizeOk5 _ _ _ _ _))
 have VB:h₁.get? e=some oe:=(hs₁.2.1 e Uv).trans he
 have Pg:=Heap.get?_push_of_some (h:=h₁) {cls:= .type "traceback",dict:=none,data:= .fields ([head,.ref L,.none,rawInt L,.none]++(if pl.isEmpty then List.replicate 6 Value.none else pl)).toArray} VB
 refine wpAny_setField Pg hd hsz (h _ ?_ ?_)
 ·refine(t9.slots hs₁).trans ((t9.kept λb u q=>Heap.get?_push_of_some _ q).trans (t9.Np ge He Pg (Obj.isFreed_of_fields (Obj.data_mapFields hd _))))
 ·have Nq:h₁.objs.size≠e:=aa5 (Heap.lt_size VB)
  have hd₃:=Obj.data_mapFields hd (·.setIfInBounds 1 (Value.ref h₁.objs.size))
  have XH:=Heap.get?_update_self (Obj.mapFields (·.setIfInBounds 1 (Value.ref h₁.objs.size))) Pg (Obj.isFreed_of_fields hd₃)
  have XI:=(Heap.get?_update_other (h₁.push {cls:= .type "traceback",dict:=none,data:= .fields ([head,.ref L,.none,rawInt L,.none]++(if pl.isEmpty then List.replicate 6 Value.none else pl)).toArray})
   (Obj.mapFields (·.setIfInBounds 1 (Value.ref h₁.objs.size))) (Ne.symm Nq)).trans (Heap.get?_push_size h₁ rfl)
  have gT:g.get? h₁.objs.size=none:=by
   cases q:g.get? h₁.objs.size with
   |none=>rfl
   |some o=>
    obtain⟨o',e'⟩:=gk _ o q
    have:=Heap.lt_size e'
    rw[hs₁.1]at this
    exact absurd this (abu _)
  exact⟨ge,He,_,_,h₁.objs.size,_,_,XH,⟨Obj.cls_mapFields _ _,(D6 _ _).trans hdn⟩,hd₃,by simp[hsz],gT,Hk _ (acC hs₁.1.symm),Nq,XI,rfl,by first|(simp;done)|(rcases hpl with rfl|⟨_,_,_,_,_,_,_,rfl⟩<;>simp)⟩
theorem CP{g base:Heap}{H:Hp}{env:Env}{outer:List Env}{L e:Addr}{cls:Value}{dc:Option Addr}{Q:Unit->Shared->Prop}
 (hfr:A.frames=some (env::outer))(hl:s.heap.FunFrames base (env::outer))(hf:env.frame=some L)(hx:t8 g H s.heap e cls dc)
 (gk:∀b o,g.get? b=some o->∃o',s.heap.get? b=some o')(Hk:∀b,s.heap.objs.size<=b->H b=none)
 (h:∀h',t9 g H (frs (env::outer)) s.heap h'->N9 g H h' e cls (rawInt L) dc->Q () {s with heap:=h'}):wpAny M A (noteFrame (.ref e) env) Q E s:=by
 rcases hx with⟨ge,He,oe,vs,he,⟨hcls,hdn⟩,hd,h1⟩|⟨ge,He,oe,vs,T,oT,ts,he,⟨hcls,hdn⟩,hd,h1,gT,HT,Nq,hT,JS,h3⟩
 ·subst hcls
  unfold noteFrame
  simp only[hf]
  refine wpAny_bind (wpAny_field he hd h1 ?_)
  rw[if_neg (by decide)]
  exact zH hfr hl hf ge He hdn he hd (Array.getElem?_eq_some_iff.mp h1).1 gk Hk h
 ·subst hcls
  unfold noteFrame
  simp only[hf]
  refine wpAny_bind (wpAny_field he hd h1 ?_)
  rw[if_pos (show(Value.ref T !=Value.none)=true from by simp)]
  refine wpAny_bind (wpAny_field hT JS h3 ?_)
  rw[if_neg (show¬((Value.none==rawInt L)=true)from by simp[rawInt])]
  refine wpAny_bind (wpAny_setField hT JS (Array.getElem?_eq_some_iff.mp h3).1 ?_)
  have other:∀b,b≠T->(s.heap.update T (Obj.mapFields (·.setIfInBounds 3 Value.none))).get? b=s.heap.get? b:=λb hb=>Heap.get?_update_other _ _ (Ne.symm hb)
  have Hg:∀b o,s.heap.get? b=some o->(∀vs,o.data≠ .fields vs)->b≠T:=λb o hb hnf q=>by
   rw[q,hT]at hb;injection hb with hb;subst hb;exact hnf ts JS
  have st:t9 g H (frs (env::outer)) s.heap (s.heap.update T (Obj.mapFields (·.setIfInBounds 3 Value.none))):=t9.Np gT HT hT (Obj.isFreed_of_fields (Obj.data_mapFields JS _))
  refine zH hfr (hl.of_keeps λb o hb hnf=>⟨o,(other b (Hg b o hb hnf)).trans hb,rfl⟩) hf ge He hdn ((other e (Ne.symm Nq)).trans he) hd (Array.getElem?_eq_some_iff.mp h1).1
   (λb o q=>let ⟨o',e'⟩:=gk b o q;st.there b o' e') (λb hb=>Hk b (by rw[<-Heap.size_after_update];exact hb)) λh' a b=>h h' (st.trans a) b
theorem xY{g:Heap}{H:Hp}{S:List Addr}{e:Addr}{cls fl:Value}{dc:Option Addr}{Q:Unit->Shared->Prop}(hx:N9 g H s.heap e cls fl dc)
 (h:∀h',t9 g H S s.heap h'->N9 g H h' e cls .none dc->Q () {s with heap:=h'}):wpAny M A (setFlight (.ref e) none) Q E s:=by
 obtain⟨ge,He,oe,vs,T,oT,ts,he,hcls,hd,h1,gT,HT,Nq,hT,JS,h3⟩:=hx
 have QJ:3<ts.size:=(Array.getElem?_eq_some_iff.mp h3).1
 unfold setFlight
 refine wpAny_bind (wpAny_field he hd h1 ?_)
 rw[if_pos (show(Value.ref T !=Value.none)=true from by simp)]
 refine wpAny_setField hT JS QJ (h _ (t9.Np gT HT hT (Obj.isFreed_of_fields (Obj.data_mapFields JS _))) ?_)
 exact⟨ge,He,oe,vs,T,_,_,(Heap.get?_update_other _ _ Nq).trans he,hcls,hd,h1,gT,HT,Nq,Heap.get?_update_self _ hT (Obj.isFreed_of_fields (Obj.data_mapFields JS _)),Obj.data_mapFields JS _,by simp[QJ]⟩
theorem Hh{g base:Heap}{H:Hp}{env:Env}{outer:List Env}{L e:Addr}{cls:Value}{dc:Option Addr}{Q:Unit->Shared->Prop}
 (hfr:A.frames=some (env::outer))(hl:s.heap.FunFrames base (env::outer))(hf:env.frame=some L)(hx:t8 g H s.heap e cls dc)
 (gk:∀b o,g.get? b=some o->∃o',s.heap.get? b=some o')(Hk:∀b,s.heap.objs.size<=b->H b=none)
 (h:∀h',t9 g H (frs (env::outer)) s.heap h'->N9 g H h' e cls .none dc->Q () {s with heap:=h'}):wpAny M A (leaving env (.ref e)) Q E s:=by
 unfold leaving
 refine wpAny_bind (CP hfr hl hf hx gk Hk λh1 st1 x1=>?_)
 exact xY (s:={s with heap:=h1}) x1 λh2 st2 x2=>h h2 (st1.trans st2) x2
end
theorem iR.Lb{P:Program}{w:World}{g h h':Heap}{H:Hp}{S:List Addr}(x:iR P w H h)(st:t9 g H S h h')(hS:∀b∈S,H b=none):iR P w H h':=λa o e=>
 (x a o e).stay (λb u hb q=>by
  have hn:H b≠none:=by
   rcases hb with rfl|hb
   ·rw[e];simp
   ·rw[hb];simp
  exact st.keep b u q (λz=>hn (hS b z)) (.inl hn)) (λ_ r=>r) λ_ _ r=>r
theorem Un.Lb{fs S:List Addr}{h h1 h':Heap}{H H1:Hp}(u:Un fs [] H H1 h h1)(st:t9 h H1 S h1 h')(hS:∀b o,h.get? b=some o->b∈S->b∈fs):Un fs [] H H1 h h' where
 keep:=λb o q n hb _=>st.keep b o (u.keep b o q n hb (by simp)) (λz=>hb (hS b o q z)) (.inr (by rw[q];simp))
 slot:=λb o q n hb _=>by
  obtain⟨sl,e⟩:=u.slot b o q n hb (by simp)
  obtain⟨Lx,e'⟩:=st.slot b _ e (.inr (by rw[q];simp))
  exact⟨Lx,e'⟩
 free:=u.free
 there:=λb o q _=>by
  obtain⟨o',e⟩:=u.there b o q (by simp)
  exact st.there b o' e
 tups:=u.tups
 m9:=u.m9
 nQ:=u.nQ
end L2
namespace L2
open PySem PySem.Spec PyProof.Rows PySem.W
structure Uw(K:PySem.W.Frag)(C:Addr):Prop where
 ga:findIn K (.ref C) "__getattribute__" =some (some (.builtin "BaseException.__getattribute__"))
 gt:findIn K (.ref C) "__getattr__" =some none
 cl:findIn K (.ref C) "__class__" =some (some (.builtin "object.__class__"))
 sb:subIn K (.ref C) (.type "BaseException")=some true
 mo:mroIn K C (.type "object")=some true
 is:(clsIn K C).isSome=true
section
variable{prog:Program}{w:World}{A:Around}{E:Value->Shared->Prop}{h:Heap}{g:Array GenState}{d:Drawn}{t:Nat}{os:OsState}{a:Addr}{o:Obj}{K:PySem.W.Frag}{C:Addr}
theorem sub_K{M:Model}{v u:Value}{r:Bool}{Q:Bool->Shared->Prop}(X:K.In h)(e:subIn K v u=some r)(hq:Q r ⟨h,g,d,t,os⟩):wpAny M A (isSubtype v u) Q E ⟨h,g,d,t,os⟩:=(looks_subIn X e).at hq
end
end L2
namespace L3
open PySem PySem.Spec PyProof.Rows L2
abbrev Ux:List Value:=[.type "ValueError",.type "Exception",.type "BaseException",.type "object"]
structure XC(K:PySem.W.Frag)(C:Addr):Prop extends Uw K C where
 ex:PySem.W.excIn K C Ux "ValueError.__new__" =true
def Uy(X:Cx)(pins:List (Addr ×Obj))(M:Mp)(H:Hp)(xp:Addr->Prop):Value->Shared->Prop:=λe s'=>
 ∃a C σ' H' M',e= .ref a/\Inv X pins σ' H' s'/\Fr M H M' H'/\t8 X.s₀.heap H' s'.heap a (.ref C) none/\xp C
abbrev XJ:=En->Mp->DK->(Addr->Prop)->Prop
abbrev VC:=Aj->(Addr->Prop)->En->Mp->Prop
structure ZE(X:Cx)(e:Expr)(t:XJ):Prop where
 run:∀(pins:List (Addr ×Obj)) (s:Shared) (σ:St) (H:Hp) (ρ:En) (M:Mp) (Q:DK) (xp:Addr->Prop),Inv X pins σ H s->Rep X.K H σ ρ M->t ρ M Q xp->wpAny (model X.prog X.w) X.A (eval e X.env) (EP X pins σ (Post X.K M H Q)) (Uy X pins M H xp) s
structure ZF(X:Cx)(st:Stmt)(t:VC):Prop where
 run:∀(pins:List (Addr ×Obj)) (s:Shared) (σ:St) (H:Hp) (ρ:En) (M:Mp) (D:Aj) (xp:Addr->Prop),Inv X pins σ H s->Rep X.K H σ ρ M->t D xp ρ M->wpAny (model X.prog X.w) X.A (exec st X.env) (SP X pins (ends X.K M H D)) (Uy X pins M H xp) s
structure XM(X:Cx)(st:List Stmt)(t:VC):Prop where
 run:∀(pins:List (Addr ×Obj)) (s:Shared) (σ:St) (H:Hp) (ρ:En) (M:Mp) (D:Aj) (xp:Addr->Prop),Inv X pins σ H s->Rep X.K H σ ρ M->t D xp ρ M->wpAny (model X.prog X.w) X.A (execs st X.env) (SP X pins (ends X.K M H D)) (Uy X pins M H xp) s
section
variable{X:Cx}{e a b:Expr}{st:Stmt}{rest:List Stmt}{pos:Pos}
variable{k:Nat}{f:Addr}{fd:FuncData}{ps:List Str}{x:Str}{es:List Expr}{p:Pos}
end
end L3
namespace L3
open PySem PySem.Spec PyProof.Rows L2
section
variable{X:Cx}{pins:List (Addr ×Obj)}{σ:St}{H:Hp}{s:Shared}
theorem JT{M:Model}{A:Around}{E:Value->Shared->Prop}{i:Nat}{x:Str}{pos:Pos}{Q:Unit->Shared->Prop}(I:Inv X pins σ H s)(hN:X.N.Nodup)(hi:X.N[i]?=some x)(hk:X.env.scope.names.lookup x=some .local)
 (h:∀s',Inv X pins (σ.set i none) H s'->Q () s'):wpAny M A (do bindName X.env x .none;unbindBehindTheSuite X.env x pos) Q E s:=by
 obtain⟨m,hn,hl⟩:=id I.loc
 have hcls:(X.env.scope.kind== .class || (X.env.scope.kind== .module && X.env.locals !=X.env.globals))=false:=by rw[I.ok.kind];rfl
 have Ri:i<σ.length:=by rw[I.len];exact(aaQ.mp hi).1
 have Ey:=I.Ey
 obtain⟨oL,_,_,U0,_⟩:=id hn
 refine wpAny_nameGoes_keeps hk hn hcls λh' v hn' hs=>?_
 refine h _ ⟨I.ok,I.os,I.bare,⟨λb o e n hb hx=>?_,λb o e n hb hx=>?_,I.base.free,λb o e hx=>?_,I.base.tups,I.base.m9,I.base.nQ⟩,⟨_,hn',λj y v' e1 e2 e3=>?_⟩,λy c e=>?_,I.free,I.g9,λp hp=>?_,λb ob e=>?_,by simpa using I.len⟩
 ·exact(hs.2 b (aaN (aay (Heap.lt_size e) I.ok.above))).trans (I.base.keep b o e n hb hx)
 ·obtain⟨sl,e1⟩:=I.base.slot b o e n hb hx
  exact⟨sl,(hs.2 b (aaN (aay (Heap.lt_size e) I.ok.above))).trans e1⟩
 ·obtain⟨o',e1⟩:=I.base.there b o e hx
  exact⟨o',(hs.2 b (aaN (aay (Heap.lt_size e) I.ok.above))).trans e1⟩
 ·by_cases hj:j=i
  ·subst hj
   rw[abG Ri]at e2
   cases e2
  ·rw[abZ (Ne.symm hj)]at e2
   obtain⟨u',r',q⟩:=hl j y v' e1 e2 e3
   refine⟨u',r',?_⟩
   rcases q with⟨k,e⟩|⟨k,c,e,z⟩
   ·refine .inl ⟨k,?_⟩
    have:y≠x:=λe=>hj (rO hN e1 (e▸hi))
    simp[this,e]
   ·exact .inr ⟨k,c,e,z.sameBut hs (Ey y c e)⟩
 ·obtain⟨w',z⟩:=I.cell y c e
  exact⟨w',z.sameBut hs (Ey y c e)⟩
 ·obtain⟨e,n,ne,nf,d⟩:=I.pin p hp
  exact⟨(hs.2 p.1 ne).trans e,n,ne,nf,d⟩
 ·refine(I.hok b ob e).stay (λc w' hc q=>(hs.2 c ?_).trans q) (λ_ q=>q) λ_ _ q=>q
  rintro rfl
  rcases hc with rfl|hc
  ·rw[I.free]at e;cases e
  ·rw[I.free]at hc;cases hc
theorem Rep.unset{K:PySem.W.Frag}{H:Hp}{σ:St}{ρ:En}{M:Mp}{i:Nat}(r:Rep K H σ ρ M):Rep K H (σ.set i none) (ρ.set i none) M:=by
 refine⟨λj e q=>?_,by simp[r.len],r.mem⟩
 by_cases hj:i=j
 ·subst hj
  by_cases hl:i<ρ.length
  ·rw[abG hl]at q;cases q
  ·rw[aby (by simp;omega)]at q;cases q
 ·rw[abZ hj]at q ⊢
  exact r.env j e q
end
section
variable{X:Cx}{e:Expr}{es:List Expr}{k:Nat}{f:Addr}{fd:FuncData}{ps:List Str}{x cn n:Str}{p pos epos cpos hp cp:Pos}
end
section
variable{X:Cx}
end
end L3
namespace mL
open PySem PySem.Spec PyProof.Rows PySem.W PySem.Calls Builtin Builtin.ObjectAttr
abbrev QK:List Value:=[.type "ValueError",.type "Exception",.type "BaseException",.type "object"]
abbrev qU(C t:Addr):Obj:={cls:= .ref C,data:= .fields #[.ref t,.none,.none,.none,.bool false,.none]}
abbrev QL(C t d:Addr):Obj:={cls:= .ref C,dict:=some d,data:= .fields #[.ref t,.none,.none,.none,.bool false,.none]}
section
variable{prog:Program}{w:World}{A:Around}{E:Value->Shared->Prop}{s:Shared}{K:Frag}{C L:Addr}{h₀:Heap}{m:Str->Option Value}{news:List (Addr ×Obj)}{Q:Value->Shared->Prop}
end
structure XC(K:PySem.W.Frag)(C:Addr):Prop where
 ga:findIn K (.ref C) "__getattribute__" =some (some (.builtin "BaseException.__getattribute__"))
 gt:findIn K (.ref C) "__getattr__" =some none
 cl:findIn K (.ref C) "__class__" =some (some (.builtin "object.__class__"))
 sb:subIn K (.ref C) (.type "BaseException")=some true
 mo:mroIn K C (.type "object")=some true
 is:isClsIn K C=true
section
variable{prog:Program}{w:World}{A:Around}{E:Value->Shared->Prop}{h:Heap}{g:Array GenState}{d:Drawn}{t:Nat}{os:OsState}{a:Addr}{o:Obj}{od:Option Obj}{K:PySem.W.Frag}{C:Addr}
theorem Hi{M:Model}{v:Value}{n:Str}{r:Option Value}{Q:Option Value->Shared->Prop}(X:K.In h)(e:findIn K v n=some r)(hq:Q r ⟨h,g,d,t,os⟩):wpAny M A (typeLookup v n) Q E ⟨h,g,d,t,os⟩:=(looks_findIn X e).at hq
theorem sub_K{M:Model}{v u:Value}{r:Bool}{Q:Bool->Shared->Prop}(X:K.In h)(e:subIn K v u=some r)(hq:Q r ⟨h,g,d,t,os⟩):wpAny M A (isSubtype v u) Q E ⟨h,g,d,t,os⟩:=(looks_subIn X e).at hq
theorem zI{M:Model}{nameV:Value}{Q:Unit->Shared->Prop}(X:K.In h)(Z:XC K C)(hx:h.get? a=some o)(hc:o.cls= .ref C)(hq:Q () ⟨h,g,d,t,os⟩) :
 wpAny M A (checkBuiltinCall "BaseException.__getattribute__" ⟨[.ref a,nameV],[]⟩) Q E ⟨h,g,d,t,os⟩:=by
 have hk:builtinKind "BaseException.__getattribute__" =some .slot:=by decide +kernel
 have hsplit:splitId "BaseException.__getattribute__" =some ("BaseException","__getattribute__"):=by decide +kernel
 have ha:=F.args_bexc_ga (.ref a) nameV
 simp only[checkBuiltinCall,hk,hsplit]
 refine wpAny_bind ?_
 ·unfold isInstance
  repeat(first|(with_reducible refine wpAny_loadPart_at hx ?_;rw[hc])|with_reducible refine sub_K X Z.sb ?_|wp_step)
  exact hq
theorem Hj{tk:Tok}{Q:Fin->Shared->Prop}(X:K.In h)(Z:XC K C)(I:InstAt h a o C od)(hq:Q (.done (.ret (.ref C))) ⟨h,g,d,t,os⟩) :
 wpAny (model prog w) A (Builtin.«object.__getattribute__» ⟨[.ref a,.str "__class__" tk],[]⟩) Q E ⟨h,g,d,t,os⟩:=by
 have hx:=I.at_
 have hc:=I.cls
 have ZG:(⟨h,g,d,t,os⟩:Shared).TypeIs (.builtin "object.__class__") "getset_descriptor" :=F.typeOf_object_class
 have f5:=F.typeOf_object_class
 have f6:=F.slot_gs_get.lookup
 have f7:=F.slot_gs_set.lookup
 repeat(any_goals(first|assumption|(with_reducible refine wpAny_loadPart_at hx ?_;rw[hc])|with_reducible refine Hi X Z.cl ?_|wp_step))
 refine class_get (s:=⟨h,g,d,t,os⟩) X I Z.mo ?_
 repeat(any_goals(first|assumption|wp_step))
theorem Hl{name:Str}{v:Value}{tk:Tok}{Q:Fin->Shared->Prop}(X:K.In h)(I:InstAt h a o C od)(hf:findObj K C od name=some (.value v))(hq:Q (.done (.ret v)) ⟨h,g,d,t,os⟩) :
 wpAny (model prog w) A (Builtin.«object.__getattribute__» ⟨[.ref a,.str name tk],[]⟩) Q E ⟨h,g,d,t,os⟩:=by
 have L0:=I.type (M:=model prog w)
 have L1:=looks_find (M:=model prog w) X I hf
 refine wpAny_bind (wpAny_pure (wpAny_bind (wpAny_pure (wpAny_bind (L0.at (wpAny_bind (L1.at ?_)))))))
 exact wpAny_pure hq
theorem JU{tk:Tok}{R:Result->Shared->Prop}(X:K.In h)(Z:XC K C)(I:InstAt h a o C od)(hq:R (.ok (.ret (.ref C))) ⟨h,g,d,t,os⟩) :
 codeAny (model prog w) A (.call (.builtin "BaseException.__getattribute__") ⟨[.ref a,.str "__class__" tk],[]⟩) R ⟨h,g,d,t,os⟩:=
 codeAny_call_builtin F.attr_ValueError.ga.plain F.entry_bexc_ga (zI X Z I.at_ I.cls (Hj X Z I hq))
theorem JV{name:Str}{v:Value}{tk:Tok}{R:Result->Shared->Prop}(X:K.In h)(Z:XC K C)(I:InstAt h a o C od)(hf:findObj K C od name=some (.value v))(hq:R (.ok (.ret v)) ⟨h,g,d,t,os⟩) :
 codeAny (model prog w) A (.call (.builtin "BaseException.__getattribute__") ⟨[.ref a,.str name tk],[]⟩) R ⟨h,g,d,t,os⟩:=
 codeAny_call_builtin F.attr_ValueError.ga.plain F.entry_bexc_ga (zI X Z I.at_ I.cls (Hl X I hf hq))
theorem QM{tk:Tok}{fill expr:Bool}{Q:Value->Shared->Prop}(X:K.In h)(Z:XC K C)(I:InstAt h a o C od)(hq:Q (.ref C) ⟨h,g,d,t,os⟩) :
 wpAny (model prog w) A (getAttrBy (.ref a) (.str "__class__" tk) fill expr) Q E ⟨h,g,d,t,os⟩:=by
 have hx:=I.at_
 have hc:=I.cls
 have f3:=F.attr_ValueError.ga.bind (.ref a)
 have XN:(expr && onTheHeap (Value.builtin "BaseException.__getattribute__"))=false:=by cases expr<;>rfl
 have iQ:(Value.builtin "BaseException.__getattribute__" ==Value.builtin "object.__getattribute__")=false:=by decide +kernel
 have Nr:(onTheHeap (Value.ref C) && Value.builtin "BaseException.__getattribute__" ==Value.builtin "object.__getattribute__")=false:=by rw[iQ];rfl
 repeat(any_goals(first|assumption|(with_reducible refine wpAny_loadPart_at hx ?_;rw[hc])|with_reducible refine Hi X Z.ga ?_|with_reducible refine Hi X Z.gt ?_|wp_step))
 refine JU X Z I ?_
 repeat(any_goals(first|assumption|wp_step))
theorem QN{name:Str}{v:Value}{tk:Tok}{fill expr:Bool}{Q:Value->Shared->Prop}(X:K.In h)(Z:XC K C)(I:InstAt h a o C od)(hf:findObj K C od name=some (.value v))(hv:handedIn v=true)(hq:Q v ⟨h,g,d,t,os⟩) :
 wpAny (model prog w) A (getAttrBy (.ref a) (.str name tk) fill expr) Q E ⟨h,g,d,t,os⟩:=by
 have hx:=I.at_
 have hc:=I.cls
 have hh:=handedOut_of hv
 have f3:=F.attr_ValueError.ga.bind (.ref a)
 have XN:(expr && onTheHeap (Value.builtin "BaseException.__getattribute__"))=false:=by cases expr<;>rfl
 have iQ:(Value.builtin "BaseException.__getattribute__" ==Value.builtin "object.__getattribute__")=false:=by decide +kernel
 have Nr:(onTheHeap (Value.ref C) && Value.builtin "BaseException.__getattribute__" ==Value.builtin "object.__getattribute__")=false:=by rw[iQ];rfl
 repeat(any_goals(first|assumption|(with_reducible refine wpAny_loadPart_at hx ?_;rw[hc])|with_reducible refine Hi X Z.ga ?_|with_reducible refine Hi X Z.gt ?_|wp_step))
 refine JV X Z I hf ?_
 repeat(any_goals(first|assumption|wp_step))
theorem JW{Q:Option Value->Shared->Prop}(X:K.In h)(Z:XC K C)(I:InstAt h a o C od)(hq:Q (some (.ref C)) ⟨h,g,d,t+1,os⟩):wpAny (model prog w) A (getAttr? (.ref a) "__class__") Q E ⟨h,g,d,t,os⟩:=by
 unfold getAttr? getAttrBy?
 repeat(any_goals(first|assumption|with_reducible apply QM X Z I|wp_step))
theorem zJ(Z:XC K C):KitX K (.ref a) (.ref C) (λh=>∃o od,InstAt h a o C od) where
 ty:=λ_ _ _ ⟨_,_,I⟩=>I.type
 it:=λ_ _ X _=>by
  have JX:(clsIn K C).isSome=true:=Z.is
  unfold clsIn at JX
  split at JX
  ·rename_i c' d' XQ Lx ho
   intro A' Q' E' s' k q
   unfold isType loadHead
   exact wpAny_bind (wpAny_loadPart (k _ _ (X _ _ ho)) (wpAny_pure q))
  ·cases JX
 ne:=λh tp dd its n sl X htp=>by
  refine acY.mpr λq=>?_
  have e:C=tp:=Value.ref.inj (beq_iff_eq.mp q)
  subst e
  have JX:(clsIn K C).isSome=true:=Z.is
  unfold clsIn at JX
  split at JX
  ·rename_i c' d' XQ Lx ho
   have z:=(X _ _ ho).symm.trans htp
   cases z
  ·cases JX
 ca:=λ{_ _ _ _ _ s} X ⟨_,_,I⟩ k=>by obtain⟨h,g,d,t,os⟩:=s;exact JW X Z I k
end
section
variable{prog:Program}{w:World}{A:Around}{E:Value->Shared->Prop}{s:Shared}{K:Frag}{C L x:Addr}{h₀:Heap}{m:Str->Option Value}{news:List (Addr ×Obj)}{Q:Value->Shared->Prop}
end
def ua(K:Frag)(C:Addr):Bool:=match K.lookup C with
 |some ⟨.type "type",_,.cls cd,sl⟩=>(match cd.mro,sl.toList with
  | .ref C'::bm,[_,_,_,_,some (.builtin n),_]=>C'==C && n== "ValueError.__new__" && !cd.hasDel && tailIn K QK bm
  |_,_=>false)
 |_=>false
section
variable{prog:Program}{w:World}{A:Around}{E:Value->Shared->Prop}{s:Shared}{K:Frag}{C L x:Addr}{h₀:Heap}{m:Str->Option Value}{news:List (Addr ×Obj)}{Q:Value->Shared->Prop}
theorem xZ{h:Heap}(X:K.In h)(q:ua K C=true) :
 ∃bm N nm q bs hdct sn sub ab col dd k0 k1 k2 k3 k5,h.get? C=some (excClassObj nm q C N bs bm hdct sn sub ab col dd k0 k1 k2 k3 k5 "ValueError.__new__")/\OwnTail h QK bm:=by
 unfold ua at q
 split at q
 ·rename_i dd cd sl ho
  split at q
  ·rename_i C' bm k0 k1 k2 k3 n k5 hm hs
   simp only[aa6,beq_iff_eq,abt]at q
   obtain⟨⟨⟨rfl,rfl⟩,QO⟩,ht⟩:=q
   obtain⟨nm,bs,mro,ns,qn,hd,sn,sub,ab,col,del⟩:=cd
   dsimp only at hm QO
   subst hm QO
   have hsl:sl= #[k0,k1,k2,k3,some (.builtin "ValueError.__new__"),k5]:=by
    obtain⟨l⟩:=sl
    simp only at hs
    rw[hs]
   subst hsl
   exact⟨bm,ns,nm,qn,bs,hd,sn,sub,ab,col,dd,k0,k1,k2,k3,k5,X _ _ ho,tail_of_in X ht⟩
  ·cases q
 ·cases q
theorem D7{h:Heap}{g:Array GenState}{d:Drawn}{t:Nat}{os:OsState}{R:Result->Shared->Prop}{rest:List Value}{fI:Addr}(X:K.In h)(q:ua K C=true)
 (hcall:specialIn K (.ref C) "__call__" =some (some (.builtin "type.__call__")))(Uz:instIn K (.ref C) (.type "type")=some true)
 (hi:findIn K (.ref C) "__init__" =some (some (.ref fI)))(hf:isFn K (.ref fI)=true)(hr:rest.length<=sizeLine)
 (hq:codeAny (model prog w) (A.under (.builtin "type.__call__" ⟨.ref C::rest,[]⟩)) (.call (.ref fI) ⟨.ref (h.objs.size+1)::rest,[]⟩) (InitBack (h.objs.size+1) R) ⟨(h.push (⟨.type "tuple",none,.seq rest.toArray,#[]⟩:Obj)).push (qU C h.objs.size),g,d,t,os⟩) :
 codeAny (model prog w) A (.call (.ref C) ⟨rest,[]⟩) R ⟨h,g,d,t,os⟩:=by
 have B:=PySem.F.excBase_ValueError
 obtain⟨bm,N',nm,q',bs,hdct,sn,sub,ab,col,dd,k0,k1,k2,k3,k5,hC,T⟩:=xZ X q
 have call:=looks_specialIn (M:=model prog w) X hcall
 have typ:=looks_instIn (M:=model prog w) X Uz
 refine codeAny_of_tree ?_
 show wpAny _ _ (callAny (.ref C) _) _ _ _
 refine nd_load hC ?_
 show wpAny _ _ (callAny.viaDunder (.ref C) _) _ _ _
 unfold callAny.viaDunder
 refine wpAny_bind (call.at ?_)
 dsimp only
 rw[tc_bind]
 refine wpAny_bind (wpAny_pure (wpAny_bind (wpAny_pure ?_)))
 refine wpAny_pure (a:=Fin.again (.call (.builtin "type.__call__") ⟨.ref C::rest,[]⟩)) (And.intro rfl ?_)
 refine codeAny_call_builtin_at (Code.quiet_builtin _ (by decide +kernel)) entry_typeCall (check_slot tc_kind tc_split typ (tc_args _ _ _) ?_)
 repeat(first|with_reducible refine wpAny_loadPart_at hC ?_|with_reducible refine wpAny_madeBy_exc hC ?_|wp_step)
 refine codeAny_call_builtin_code (Code.quiet_builtin _ B.quiet) (wpAny_check_new_subT B T hC ?_)
 refine codeAny_exc_new_subT B T hC ?_ hr
 have k:∀b o,h.get? b=some o->((h.push (⟨.type "tuple",none,.seq rest.toArray,#[]⟩:Obj)).push (qU C h.objs.size)).get? b=some o:=λb o e=>Heap.get?_push_of_some _ (Heap.get?_push_of_some _ e)
 have hx:((h.push (⟨.type "tuple",none,.seq rest.toArray,#[]⟩:Obj)).push (qU C h.objs.size)).get? (h.objs.size+1)=some (qU C h.objs.size):=by heap_get
 have t1:Looks (model prog w) ((h.push (⟨.type "tuple",none,.seq rest.toArray,#[]⟩:Obj)).push (qU C h.objs.size)) (typeOf (.ref (h.objs.size+1))) (.ref C):=(Looks.ld hx).andThen .now
 have i1:=(looks_findIn (M:=model prog w) X hi).keeps k
 have b1:=(bind_fn (M:=model prog w) X (.ref (h.objs.size+1)) (beq_iff_eq.mp hf)).keeps k
 have XR:=k _ _ hC
 have hcC:(Value.ref C::bm).contains (.ref C)=true:=by simp
 show wpAny _ _ _ _ _ _
 unfold isInstance
 refine wpAny_bind (wpAny_bind (t1.at (wpAny_isSubtype_exc XR ?_)))
 rw[hcC]
 unfold callSpecial? specialOf
 repeat(first|with_reducible refine wpAny_call ?_|lk)
 refine codeAny_mono hq λr s' z=>?_
 rcases r with e|(v|_|_|_)<;>first|exact z|exact z.elim|skip
 obtain⟨rfl,z⟩:=z
 exact wpAny_pure (wpAny_pure z)
end
def zK:List Value->Bool
 | .ref _::r=>zK r
 |l=>l==QK
theorem oR(self:Value):∀{l:List Value},zK l=true->refuseLoop self "__setattr__" l=pure ()
 |[],e=>by cases e
 |v::r,e=>by
  cases v with
  |ref c=>rw[refuseLoop_ref];exact oR self e
  |_=>rw[show _::r=QK from beq_iff_eq.mp e];exact PySem.F.store_ValueError.passes self
theorem v9:∀{l:List Value},zK l=true->l.contains (.type "object")=true
 |[],e=>by cases e
 |v::r,e=>by
  cases v with
  |ref c=>rw[adC,v9 (l:=r) e,adF]
  |_=>rw[show _::r=QK from beq_iff_eq.mp e];decide +kernel
def x6(K:Frag)(C:Addr):Bool:=(clsIn K C).any λcd=>zK cd.mro && cd.hasDict
section
variable{prog:Program}{w:World}{A:Around}{E:Value->Shared->Prop}{s:Shared}{K:Frag}{C L x t:Addr}{h₀:Heap}{m:Str->Option Value}{post:List (Addr ×Obj)}{R:Result->Shared->Prop}{name:Str}{v:Value}{tk:Tok}
theorem Ho(X:K.In s.heap)(I:InstAt s.heap x (qU C t) C none)(hp:x6 K C=true)(ht:takerIn K C name=some none)
 (h:∀b,wpAny (model prog w) A.in1 (storeInOwnDict (.ref x) (.ref C) (.str name tk) name v b)
  (λfin s'=>match fin with| .done f=>R (.ok f) s'| .again c'=>c'.quiet=true/\codeAny (model prog w) A c' R s') (λe s'=>R (.error e) s') s) :
 codeAny (model prog w) A (.call (.builtin "object.__setattr__") ⟨[.ref x,.str name tk,v],[]⟩) R s:=by
 have SF:=PySem.F.store_object
 obtain⟨cd,hc,ho⟩:=any_some hp
 obtain⟨ho, -⟩:=abD.mp ho
 have ne:cd.mro.isEmpty=false:=by cases q:cd.mro with|nil=>rw[q]at ho;cases ho|cons _ _=>rfl
 have sub:Looks (model prog w) s.heap (isInstance (.ref x) (.type "object")) true:=I.type.andThen (looks_mroIn X (by unfold mroIn;rw[hc,Option.bind_some,if_neg (by rw[ne];decide),v9 ho]))
 refine codeAny_call_builtin SF.slot.plain SF.entry (@check_slot (model prog w) _ _ s "object.__setattr__" "object" "__setattr__" (.ref x) [.str name tk,v] [] _ SF.kind SF.split sub (SF.args (.ref x) (.str name tk) v) ?_)
 obtain⟨attr,ha,hr⟩:=Option.bind_eq_some_iff.mp ht
 have hm:Looks (model prog w) s.heap (mroOf (.ref C)) cd.mro:=(looks_clsIn X hc).andThen .now
 have L3:Looks (model prog w) s.heap (storeTaker? attr) none:=by
  cases attr with
  |none=>exact .now
  |some a=>
   obtain⟨b,hb,hr⟩:=abF.mp hr
   refine(looks_takesIn X hb).andThen ?_
   cases b
   ·exact .now
   ·cases hr
 rw[osa_eq,refuse_eq]
 refine wpAny_bind (wpAny_bind (I.type.here (wpAny_bind (hm.here ?_))))
 rw[oR _ ho]
 refine wpAny_pure (wpAny_bind (I.type.here (wpAny_bind ((looks_findIn X ha).here (wpAny_bind (L3.here ?_))))))
 exact h _
end
section
variable{prog:Program}{w:World}{A:Around}{E:Value->Shared->Prop}{s:Shared}{K:Frag}{C L x t:Addr}{h₀:Heap}{m:Str->Option Value}{news:List (Addr ×Obj)}{Q:Value->Shared->Prop}{c:Value}{b:Bool}
end
end mL
namespace L2
open PySem PySem.Spec PyProof.Rows PySem.W
structure XV(K:Frag)(C:Addr):Prop where
 xc:mL.XC K C
 tt:mL.ua K C=true
 ca:specialIn K (.ref C) "__call__" =some (some (.builtin "type.__call__"))
 ty:instIn K (.ref C) (.type "type")=some true
 kp:keepIn K (.ref C)=true
 hd:hasDictIn K C=true
 ov:mL.x6 K C=true
 sa:findIn K (.ref C) "__setattr__" =some (some (.builtin "object.__setattr__"))
section
variable{prog:Program}{w:World}{A:Around}{E:Value->Shared->Prop}{s:Shared}{K:Frag}{C x t:Addr}{name:Str}{v:Value}{Q:Unit->Shared->Prop}
theorem JY(X:K.In s.heap)(hx:s.heap.get? x=some (mL.qU C t))(Z:XV K C)(ht:takerIn K C name=some none)
 (h:∀h',(∀b o,b≠x->s.heap.get? b=some o->h'.get? b=some o)->h'.get? x=some (mL.QL C t s.heap.objs.size)->h'.Ns1 s.heap.objs.size (λy=>if y=name then some v else none)->
  Q () {s with heap:=h',toks:=s.toks+2}):wpAny (model prog w) A (setAttr (.ref x) name v) Q E s:=by
 have I:InstAt s.heap x (mL.qU C t) C none:=⟨hx,rfl,rfl,trivial⟩
 refine set_plain X I Z.sa (mL.Ho (s:={s with toks:=s.toks+1}) X I Z.ov ht λb=>?_)
 obtain⟨cd,hc,hd'⟩:=any_some Z.ov
 obtain⟨-,hd'⟩:=abD.mp hd'
 have VD:x≠s.heap.objs.size:=aaN (Heap.lt_size hx)
 have Nr:(s.heap.push emptyDict).get? x=some (mL.qU C t):=Heap.get?_push_of_some _ hx
 have iQ:((s.heap.push emptyDict).update x λo=>{o with dict:=some s.heap.objs.size}).get? x=some (mL.QL C t s.heap.objs.size):=Heap.get?_update_self _ Nr rfl
 have hd2:((s.heap.push emptyDict).update x λo=>{o with dict:=some s.heap.objs.size}).get? s.heap.objs.size=some emptyDict:=(Heap.get?_update_other _ _ VD).trans (Heap.get?_push_size s.heap rfl)
 have n2:((s.heap.push emptyDict).update x λo=>{o with dict:=some s.heap.objs.size}).Ns1 s.heap.objs.size (λ_=>none):=Heap.Ns1.of_empty ⟨emptyDict,#[],_,hd2,rfl,(λe he=>absurd he (by simp)),λ_=>rfl⟩
 refine wpAny_bind (wpAny_pure (wpAny_bind (wpAny_bind (wpAny_loadPart hx (wpAny_bind (Looks.here (s:={s with toks:=s.toks+1}) (looks_clsIn X hc) ?_))))))
 rw[hd']
 refine wpAny_bind (wpAny_alloc' ?_)
 refine wpAny_bind (wpAny_update' Nr ?_)
 refine wpAny_pure (wpAny_bind (wpAny_pure (wpAny_bind ?_)))
 refine wpAny_nsSet1 (s:={s with heap:=_,toks:=s.toks+1}) n2 λh' hn2 hs2=>?_
 obtain⟨oD,esD,ZH,XS,XT,JX⟩:=hn2.count (PySem.Within.cons name v (m:=λ_=>none) (ns:=[]) (λy hy=>absurd rfl hy))
 refine wpAny_bind (wpAny_lookBehind XS (by rw[XT];exact pastItsLine_dict (abo JX (by rw[sizeLine_eq,acw];omega))) ?_)
 refine wpAny_pure (h h' (λb o hb e=>?_) ((hs2.2 _ VD).trans iQ) hn2)
 have bne:b≠s.heap.objs.size:=aaN (Heap.lt_size e)
 exact(hs2.2 _ bne).trans ((Heap.get?_update_other _ _ (Ne.symm hb)).trans (Heap.get?_push_of_some _ e))
end
end L2
namespace L3
open PySem PySem.Spec PyProof.Rows L2
abbrev XO(x C t:Addr):HO:= .ext λh=>h.get? x=some (xO C t)
abbrev YO(x C t d:Addr):HO:= .gm (yO C t d) (.ext λh=>h.get? x=some (yO C t d))
section
variable{X:Cx}{pins:List (Addr ×Obj)}{σ:St}{H:Hp}{s:Shared}{h':Heap}
theorem Hq{P:Program}{w:World}{h:Heap}{a:Addr}{o:HO}(x:cj P w H h a o):∃u,h.get? a=some u:=by
 have lt:=x.lt
 cases o with
 |lst xs=>obtain⟨_,_,_,_,e⟩:=x;exact⟨_,e⟩
 |tup xs=>obtain⟨_,_,_,ob,e,_⟩:=x;exact⟨_,e⟩
 |dK kvs=>obtain⟨_,_,_,_,o,_,_,e,_⟩:=x;exact⟨_,e⟩
 |dT kvs=>obtain⟨_,_,_,_,o,_,_,e,_⟩:=x;exact⟨_,e⟩
 |set S n=>obtain⟨o,_,_,_,e,_⟩:=x;exact⟨_,e⟩
 |ins C dx fs=>obtain⟨_,_,_,e,_⟩:=x;exact⟨_,e⟩
 |own y=>obtain⟨_,e⟩:=x;exact⟨_,e⟩
 |xd fs=>obtain⟨_,⟨_,_,_,e,_⟩,_⟩:=x;exact⟨_,e⟩
 |Rb lo hi=>obtain⟨_,_,_,e⟩:=x;exact⟨_,e⟩
 |gm ob u=>obtain⟨e,_⟩:=x;exact⟨_,e⟩
 |Ky ps=>exact⟨_,(show h.get? a=some _ from x)⟩
 |met f y=>exact⟨_,(show h.get? a=some _ from x)⟩
 |ext φ=>obtain⟨_,⟨_,e⟩,_⟩:=x;exact⟨_,e⟩
theorem JZ{P:Program}{w:World}{h:Heap}{a:Addr}(ok:iR P w H h)(n:h.get? a=none):H a=none:=by
 cases q:H a with
 |none=>rfl
 |some o=>obtain⟨u,z⟩:=Hq (ok a o q);rw[n]at z;cases z
theorem J0{A:Around}{E:Value->Shared->Prop}{Q:Unit->Shared->Prop}{f:Str}{x C t:Addr}{y:V}{u:Value}(I:Inv X pins σ H s)(e:H x=some (XO x C t))(Z:XV X.K C)(n:PySem.W.takerIn X.K C f=some none)(ry:RelV y u)
 (h:∀d od s',H d=none->d≠x->Inv X pins σ (upd (upd H d (.gm od (.xd [(f,y)]))) x (YO x C t d)) s'->Q () s'):wpAny (model X.prog X.w) A (setAttr (.ref x) f u) Q E s:=by
 obtain⟨hx,_,_⟩:=(show cj X.prog X.w H s.heap x (XO x C t)from I.hok x _ e)
 refine JY I.nS hx Z n λh' kp gx n1=>?_
 obtain⟨od,es,ep,XU,r1⟩:=id n1
 have hd:H s.heap.objs.size=none:=I.hok.fresh (aaz _)
 have XW:s.heap.objs.size≠x:=aa5 (Heap.lt_size hx)
 have nx:∀b,H b=none->b≠x:=λb q z=>by rw[z,e]at q;cases q
 have old:∀b o,H b=some o->(∀φ,o≠ .ext φ)->upd (upd H s.heap.objs.size (.gm od (.xd [(f,y)]))) x (YO x C t s.heap.objs.size) b=some o:=λb o q m=>by
  have h1:b≠x:=λz=>by rw[z,e]at q;exact m _ (Option.some.inj q).symm
  rw[aE h1,aE (bF q hd)]
  exact q
 refine h s.heap.objs.size od _ hd XW ?_
 refine I.step (h':=h') (g':=s.gens) (d':=s.drawn) (t':=s.toks+2) (ch:=[]) (λ_ z=>nomatch z) (λb o _ _ _ q m=>kp b o (nx b m) q) (λb o _ _ _ q m=>⟨o.slots,kp b o (nx b m) q⟩)
  (λb o _ q m=>by rw[aE (nx b m),aE (aaN (Heap.lt_size q))];exact m) (λb o _ q=>?_) (λb xs q=>old b _ q λ_ z=>nomatch z) (λb o u q=>old b _ q λ_ z=>nomatch z)
  (λb ps q=>⟨#[],by rw[old b _ q λ_ z=>nomatch z];simp⟩) (λm hm=>?_) (λa o q=>?_) I.bare
 ·by_cases hb:b=x
  ·subst hb;exact⟨_,gx⟩
  ·exact⟨o,kp b o hb q⟩
 ·obtain⟨o,es,ep,ho,r⟩:=hm
  exact⟨o,es,ep,kp _ _ (nx _ I.free) ho,r⟩
 ·by_cases ha:a=x
  ·subst ha
   rw[bu]at q;cases q
   exact⟨gx,gx,⟨_,gx⟩,λh1 h2 z k=>k _ z⟩
  ·rw[aE ha]at q
   by_cases hb:a=s.heap.objs.size
   ·subst hb
    rw[bu]at q;cases q
    refine⟨XU,_,n1,λg=>?_⟩
    by_cases hg:g=f
    ·subst hg
     simp only[List.lookup,beq_self_eq_true,if_pos]
     exact ry
    ·have XX:(g==f)=false:=beq_eq_false_iff_ne.mpr hg
     simp only[List.lookup,XX,if_neg hg]
     trivial
   ·rw[aE hb]at q
    refine(I.hok a o q).stay (λb v hc z=>kp b v ?_ z) (λb z=>old b _ z λ_ z=>nomatch z) λb xs z=>old b _ z λ_ z=>nomatch z
    rcases hc with rfl|hc
    ·exact ha
    ·rintro rfl
     rw[e]at hc;cases hc
end
def QS(K:PySem.W.Frag)(ta tv:TE)(f:Str):TS:=λD σ H=>tv σ H λy H1=>ta σ H1 λz H2=>∃x C t,z= .ref x/\H2 x=some (XO x C t)/\XV K C/\PySem.W.takerIn K C f=some none/\
 ∀d od,H2 d=none->d≠x->D.nx σ (upd (upd H2 d (.gm od (.xd [(f,y)]))) x (YO x C t d))
theorem J1{X:Cx}{o value:Expr}{f:Str}{pos pos':Pos}{ta tv:TE}(ha:PE X o ta)(hv:PE X value tv)(hs:swapsWith value (some (.Attribute o f pos')) pos.line X.env=pure false):PS X (.Assign [.Attribute o f pos'] value pos) (QS X.K ta tv f):=by
 intro pins s σ H D I h
 refine plainObj_wpAny_Assign_Attribute (c5 (hv pins s σ H _ I h) λu s1 ⟨y,H1,I1,ry,q⟩=>c5 (ha pins s1 σ H1 _ I1 q) λov s2 ⟨z,H2,I2,rz,x,C,t,ez,ea,c,n,q2⟩=>?_) hs
 subst ez
 obtain rfl:ov=Value.ref x:=rz
 exact J0 I2 ea c n ry λd od s3 h1 h2 I3=>⟨σ,_,I3,q2 d od h1 h2⟩
def RE(C:Addr)(f:Str):Sp:=λvs H Q _=>∃x t y,vs=[.ref x,y]/\H x=some (XO x C t)/\∀d od,H d=none->d≠x->Q .bJ (upd (upd H d (.gm od (.xd [(f,y)]))) x (YO x C t d))
section
variable{X:Cx}{e:Expr}{es:List Expr}{x:Str}{p pos:Pos}{C:Addr}{t:pC}
end
section
variable{X:Cx}
theorem zL{P:Program}{w:World}{h:Heap}{H:Hp}{a C:Addr}{o:Obj}{u:HO}{nm:Str}{xs:List V}(ok:iR P w H h)(ha:H a=some (.gm o u))(x:Xo H C nm o xs):∃o od,PySem.W.InstAt h a o C od:=by
 obtain⟨ho,_⟩:=(show cj P w H h a (.gm o u)from ok a _ ha)
 obtain⟨⟨hc,fs,hf⟩,x⟩:=x
 rcases x with⟨_,hn⟩|⟨dx,od,vx,_,hn,hd⟩
 ·exact⟨o,none,ho,hc,by unfold PySem.W.notCls;rw[hf],by rw[hn];trivial⟩
 ·obtain⟨hd',_⟩:=(show cj P w H h dx (.gm od (.xd [(nm,vx)]))from ok dx _ hd)
  exact⟨o,some od,ho,hc,by unfold PySem.W.notCls;rw[hf],by rw[hn];exact hd'⟩
def UA(K:PySem.W.Frag):List D->Mp->DK->Prop:=λds M Q=>∃C nm es b,mL.XC K C/\((∃B,ds=[.exc C nm es,.ref B]/\PySem.W.kitOne K (.ref C) (.ref B)=some b)\/(∃n,ds=[.exc C nm es,.ty n]/\PySem.W.kitOne K (.ref C) (.type n)=some b))/\Q (.bl b) M
theorem uc:Call3 X (.builtin "isinstance") (UA X.K):=by
 constructor
 intro pins s σ H M xs ds us Q I rm rs dx ⟨C,nm,es,b,Z,hk,q⟩
 have fin:∀tk,EP X pins σ (Post X.K M H Q) (.bool b) {s with toks:=tk}:=λtk=>⟨.bl b,H,I.tok tk,rfl,aH rm (bq.mpr rfl) q⟩
 rcases hk with⟨B,ei,hk⟩|⟨n,ei,hk⟩
 ·subst ei
  obtain⟨v,u,rfl,h1,h2⟩:=kM dx
  obtain⟨a,o,_,xs,rfl,ha,xo,_⟩:=rB.mp h1
  obtain rfl:=aA.mp h2
  obtain⟨v',u',rfl,r1,r2⟩:=vals2 rs
  obtain rfl:v'=Value.ref a:=r1
  obtain rfl:u'=Value.ref B:=r2
  exact PySem.W.kia_one (mL.zJ Z) I.nS (zL I.hok ha xo) hk (λz=>nomatch z) fin
 ·subst ei
  obtain⟨v,u,rfl,h1,h2⟩:=kM dx
  obtain⟨a,o,_,xs,rfl,ha,xo,_⟩:=rB.mp h1
  obtain rfl:=AH.mp h2
  obtain⟨v',u',rfl,r1,r2⟩:=vals2 rs
  obtain rfl:v'=Value.ref a:=r1
  obtain rfl:u'=Value.type n:=r2
  exact PySem.W.kia_one (mL.zJ Z) I.nS (zL I.hok ha xo) hk (λz=>nomatch z) fin
variable{e:Expr}{f:Str}{pos:Pos}{ta:dg}
def QT(K:PySem.W.Frag)(ta:dg)(f:Str):dg:=λρ M Q=>ta ρ M λx M1=>∃C d,x= .exc C f [d]/\XV K C/\PySem.W.findIn K (.ref C) f=some none/\Q d M1
theorem Nt(he:cH X e ta)(hb:attributeBase e f X.env (eval e X.env)=eval e X.env:=by rfl):cH X (.Attribute e f pos) (QT X.K ta f):=by
 constructor
 intro pins s σ H ρ M Q I r h
 refine Iv hb (c5 (he.run pins s σ H ρ M _ I r h) λu s1 ⟨x,H1,I1,rx,dd,M1,f1,dx,ju,C,d,ed,Z,hn,q⟩=>?_)
 subst ed
 obtain⟨a,o,u0,xs,rfl,ha,xo,dv⟩:=rB.mp dx
 obtain rfl:u=Value.ref a:=rx
 obtain⟨ho,_⟩:=(show cj X.prog X.w H1 s1.heap a (.gm o u0)from I1.hok a _ ha)
 obtain⟨⟨hc,fs,hf⟩,xo⟩:=xo
 rcases xo with⟨rfl,_⟩|⟨dx,od,vx,rfl,hn2,hd⟩
 ·cases dv.length
 ·obtain⟨hd',mA,nA,rA⟩:=(show cj X.prog X.w H1 s1.heap dx (.gm od (.xd [(f,vx)]))from I1.hok dx _ hd)
  obtain⟨od',hod,hl⟩:=vc nA
  rw[hd']at hod
  cases hod
  have r0:=rA f
  simp only[List.lookup,beq_self_eq_true]at r0
  obtain⟨uv,hu,ru⟩:=C6.some_of r0
  obtain⟨v',vs',e1,d1,_⟩:=aC.mp dv
  cases e1
  obtain⟨hh,g,dr,tk,os⟩:=s1
  unfold getAttr
  refine wpAny_bind (wpAny_mkText ?_)
  refine mL.QN I1.nS Z.xc ⟨ho,hc,by unfold PySem.W.notCls;rw[hf],by rw[hn2];exact hd'⟩ (PySem.W.findObj_own Z.hd hn rfl (by rw[hl,hu])) (Dg ru) ?_
  exact⟨vx,H1,I1.tok _,ru,d,M1,f1,d1,ju,q⟩
end
end L3
namespace L3
open PySem PySem.Spec PyProof.Rows L2
section
variable{X:Cx}{pins:List (Addr ×Obj)}{σ:St}{H:Hp}{s:Shared}
theorem Inv.forget{x:Addr}{o:Obj}{u:HO}{σ1:St}{H1:Hp}{s1:Shared}(I:Inv X pins σ H s)(e:H x=some (.gm o u))(I1:Inv X pins σ1 H1 s1)(n:H1 x=none):Inv X pins σ (λb=>if b=x then none else H b) s:=by
 refine⟨I.ok,I.os,I.bare,⟨I.base.keep,I.base.slot,λb o' q1 q2 q3=>?_,I.base.there,λb xs q=>?_,λb o' u' q=>?_,λb ps q=>?_⟩,I.loc,I.cell,?_,λy c q=>?_,λp hp=>?_,λb ob q=>?_,I.len⟩
 ·split
  ·rfl
  ·exact I.base.free b o' q1 q2 q3
 ·have k:=I1.base.tups b xs q
  rw[if_neg (λz=>by rw[z,n]at k;cases k)];exact I.base.tups b xs q
 ·have k:=I1.base.m9 b o' u' q
  rw[if_neg (λz=>by rw[z,n]at k;cases k)];exact I.base.m9 b o' u' q
 ·obtain⟨more,k⟩:=I1.base.nQ b ps q
  rw[if_neg (λz=>by rw[z,n]at k;cases k)];exact I.base.nQ b ps q
 ·split
  ·rfl
  ·exact I.free
 ·split
  ·rfl
  ·exact I.g9 y c q
 ·obtain⟨a1,a2,a3⟩:=I.pin p hp
  refine⟨a1,?_,a3⟩
  split
  ·rfl
  ·exact a2
 ·split at q
  ·cases q
  ·refine(I.hok b ob q).stay (λ_ _ _ z=>z) (λc z=>?_) λc xs z=>?_
   ·rw[if_neg (λy=>by rw[y,e]at z;cases z)];exact z
   ·rw[if_neg (λy=>by rw[y,e]at z;cases z)];exact z
theorem Inv.QU{a:Addr}{oe:Obj}(I:Inv X pins σ H s)(h:s.heap.get? a=some oe)(n:H a=none)(n0:X.s₀.heap.get? a=none)(hl:a≠X.env.locals)(hp:∀p∈X.pn++pins,p.1≠a)(hd:∀v,oe.data≠ .cell v):Inv X pins σ (upd H a (.gm oe (.ext λh=>h.get? a=some oe))) s:=by
 have ne:∀b o',H b=some o'->b≠a:=λb o' q z=>by rw[z,n]at q;cases q
 refine⟨I.ok,I.os,I.bare,⟨I.base.keep,I.base.slot,λb o' q1 q2 q3=>?_,I.base.there,λb xs q=>?_,λb o' u' q=>?_,λb ps q=>?_⟩,I.loc,I.cell,?_,λy c q=>?_,λp hpp=>?_,λb ob q=>?_,I.len⟩
 ·rw[aE (λz=>by rw[z,n0]at q1;cases q1)];exact I.base.free b o' q1 q2 q3
 ·have:=I.base.tups b xs q;rw[aE (ne b _ this)];exact this
 ·have:=I.base.m9 b o' u' q;rw[aE (ne b _ this)];exact this
 ·obtain⟨more,this⟩:=I.base.nQ b ps q;exact⟨more,by rw[aE (ne b _ this)];exact this⟩
 ·rw[aE (Ne.symm hl)];exact I.free
 ·obtain⟨v,w⟩:=I.cell y c q
  rw[aE (λz=>?_)]
  ·exact I.g9 y c q
  ·subst z
   obtain⟨o',e1,e2⟩:=w
   rw[h]at e1;cases e1
   exact hd _ e2
 ·obtain⟨a1,a2,a3⟩:=I.pin p hpp
  exact⟨a1,by rw[aE (hp p hpp)];exact a2,a3⟩
 ·by_cases hb:b=a
  ·subst hb
   rw[bu]at q;cases q
   exact⟨h,h,⟨_,h⟩,λ_ _ z k=>k _ z⟩
  ·rw[aE hb]at q
   exact(I.hok b ob q).stay (λ_ _ _ z=>z) (λc z=>by rw[aE (ne c _ z)];exact z) λc xs z=>by rw[aE (ne c _ z)];exact z
end
def Nu(P:Program)(w:World):Ek:=λouter H s E e s'=>∃a C dx H',e= .ref a/\s'.os=s.os/\AllBare s'.gens/\Un (frs outer) [] H H' s.heap s'.heap/\iR P w H' s'.heap/\t8 s.heap H' s'.heap a (.ref C) (some dx)/\E (.ref C) (some dx) H'
abbrev XP:=Addr->Str->D->Mp->Prop
def Xw(K:PySem.W.Frag)(M:Mp)(H:Hp)(xp:XP)(C dx:Addr)(H':Hp):Prop:= ∃od f v d M',Fr M H M' H'/\H' dx=some (.gm od (.xd [(f,v)]))/\Dat K H' d v/\bK K H' M'/\xp C f d M'
theorem Xw.back{K:PySem.W.Frag}{M M1:Mp}{H H1 H':Hp}{xp:XP}{C dx:Addr}(f:Fr M H M1 H1)(h:Xw K M1 H1 xp C dx H'):Xw K M H xp C dx H':=by
 obtain⟨od,g,v,d,M',f',r⟩:=h
 exact⟨od,g,v,d,M',f.trans f',r⟩
def Oa(X:Cx)(pins:List (Addr ×Obj))(M:Mp)(H:Hp)(xp:XP):Value->Shared->Prop:=λe s'=>
 ∃a C dx σ' H',e= .ref a/\Inv X pins σ' H' s'/\t8 X.s₀.heap H' s'.heap a (.ref C) (some dx)/\Xw X.K M H xp C dx H'
theorem Oa.back{X:Cx}{pins:List (Addr ×Obj)}{M M1:Mp}{H H1:Hp}{xp:XP}{e:Value}{s':Shared}(f:Fr M H M1 H1)(h:Oa X pins M1 H1 xp e s'):Oa X pins M H xp e s':=by
 obtain⟨a,C,dx,σ',H',e,I,x,q⟩:=h
 exact⟨a,C,dx,σ',H',e,I,x,q.back f⟩
abbrev XY:=En->Mp->DK->XP->Prop
abbrev Hr:=Aj->XP->En->Mp->Prop
structure ZI(X:Cx)(e:Expr)(t:XY):Prop where
 run:∀(pins:List (Addr ×Obj)) (s:Shared) (σ:St) (H:Hp) (ρ:En) (M:Mp) (Q:DK) (xp:XP),Inv X pins σ H s->Rep X.K H σ ρ M->t ρ M Q xp->wpAny (model X.prog X.w) X.A (eval e X.env) (EP X pins σ (Post X.K M H Q)) (Oa X pins M H xp) s
structure RG(X:Cx)(st:Stmt)(t:Hr):Prop where
 run:∀(pins:List (Addr ×Obj)) (s:Shared) (σ:St) (H:Hp) (ρ:En) (M:Mp) (D:Aj) (xp:XP),Inv X pins σ H s->Rep X.K H σ ρ M->t D xp ρ M->wpAny (model X.prog X.w) X.A (exec st X.env) (SP X pins (ends X.K M H D)) (Oa X pins M H xp) s
structure zM(X:Cx)(st:List Stmt)(t:Hr):Prop where
 run:∀(pins:List (Addr ×Obj)) (s:Shared) (σ:St) (H:Hp) (ρ:En) (M:Mp) (D:Aj) (xp:XP),Inv X pins σ H s->Rep X.K H σ ρ M->t D xp ρ M->wpAny (model X.prog X.w) X.A (execs st X.env) (SP X pins (ends X.K M H D)) (Oa X pins M H xp) s
section
variable{X:Cx}{e a b:Expr}{st:Stmt}{rest:List Stmt}{pos:Pos}
def UB(t:ia):Hr:=λD _ ρ M=>t D ρ M
theorem QV{t:ia}(h:iS X rest t)(hx:∀e s,X.xe e s->False:=by intro _ _ h;exact h):zM X rest (UB t):=
 ⟨λpins s σ H ρ M D xp I r q=>wpAny_mono (h.run pins s σ H ρ M D I r q) (λ_ _ z=>z) λ_ _ z=>(hx _ _ z).elim⟩
def UC(t u:Hr):Hr:=λD xp ρ M=>t {D with nx:=u D xp} xp ρ M
theorem J2{t u:Hr}(h1:RG X st t)(h2:zM X rest u):zM X (st::rest) (UC t u):=by
 constructor
 intro pins s σ H ρ M D xp I r q
 refine wpAny_execs_cons (c5 (h1.run pins s σ H ρ M _ xp I r q) λf s1 z=>?_)
 cases f with
 |next=>
  obtain⟨σ',H',I',ρ',M',f,r',q'⟩:=z
  exact wpAny_mono (h2.run pins s1 σ' H' ρ' M' D xp I' r' q') (λfl s2 y=>pH f y) λ_ _ y=>y.back f
 |ret v=>exact z
 |brk=>exact z
 |cont=>exact z
theorem Nv{t:Hr}(h1:RG X st t):zM X [st] t:=by
 constructor
 intro pins s σ H ρ M D xp I r q
 refine wpAny_execs_cons (c5 (h1.run pins s σ H ρ M D xp I r q) λf s1 z=>?_)
 cases f with
 |next=>exact wpAny_execs_nil z
 |ret v=>exact z
 |brk=>exact z
 |cont=>exact z
theorem Hs:zM X rest (λ_ _ _ _=>False):=⟨λ_ _ _ _ _ _ _ _ _ _ h=>h.elim⟩
def XZ(c:mR)(t u:Hr):Hr:=λD xp ρ M=>c ρ M λb M1=>if b=true then t D xp ρ M1 else u D xp ρ M1
theorem QW{c:Expr}{a b:List Stmt}{tc:mR}{t u:Hr}(hc:yJ X c tc)(ha:zM X a t)(hb:zM X b u)(hx:∀e s,X.xe e s->False:=by intro _ _ h;exact h):RG X (.If c a b pos) (XZ tc t u):=by
 constructor
 intro pins s σ H ρ M D xp I r q
 refine wpAny_If (wpAny_mono (hc.run pins s σ H ρ M _ I r q) (λd s1 ⟨H1,I1,M1,f1,ju,q1⟩=>?_) λ_ _ z=>(hx _ _ z).elim)
 cases d with
 |true=>exact wpAny_mono (ha.run pins s1 σ H1 ρ M1 D xp I1 (r.go f1 ju) q1) (λfl s2 y=>pH f1 y) λ_ _ y=>y.back f1
 |false=>exact wpAny_mono (hb.run pins s1 σ H1 ρ M1 D xp I1 (r.go f1 ju) q1) (λfl s2 y=>pH f1 y) λ_ _ y=>y.back f1
abbrev QX:=List D->Mp->DK->XP->Prop
def RH(K:PySem.W.Frag)(S:QX):Sp:=λvs H Q E=>∃ds M Q0 C0,aF K H ds vs/\bK K H M/\S ds M Q0 C0/\(∀d M' v H',Q0 d M'->Dat K H' d v->bK K H' M'->Fr M H M' H'->Q v H')/\
 ∀C dx H',Xw K M H C0 C dx H'->E (.ref C) (some dx) H'
variable{k:Nat}{f:Addr}{fd:FuncData}{ps:List Str}{x:Str}{es:List Expr}{p:Pos}
theorem X3{P:Program}{w:World}{K:PySem.W.Frag}{mg:Str->Option Value}{base:Heap}{x qual:Str}{st:Stmt}{f:Addr}{fd:FuncData}{N ps:List Str}{k:Nat}{S:QX}(F:jC K x qual st f fd)(Sc:aO N ps (au st))(len:∀ds M Q C,S ds M Q C->ds.length=ps.length)
 (hbody:∀(cdv:Value) (A:Around) (outer:List Env) (s:Shared) (H:Hp),fK k (A.deeper (envOfC qual (au st) s.heap.objs.size f cdv))->
  ∃t,zM (j8 gJ P w K mg base N qual (au st) f cdv A outer s H E0).Ej (eW st) t/\∀ds M Q C,S ds M Q C->t {nx:=λ_ M'=>Q .bJ M',rt:=Q} C (kP N ds) M) :
 cz P w K mg base (Nu P w) (k+1) f fd ps (RH K S):=by
 obtain⟨oc,od,kV,doc,pm,an,cdv,ct,osl,rfl,lk,hcd⟩:=F.ex
 refine KC lk hcd Sc (λvs H Q E h=>?_) λA outer s H vs Q E hr h=>?_
 ·obtain⟨ds,M,Q0,C0,h1,_,h2,_⟩:=h
  rw[<-h1.length,len ds M Q0 C0 h2]
 ·obtain⟨ds,M,Q0,C0,h1,hm,h2,h3,h4⟩:=h
  obtain⟨t,ht,hq⟩:=hbody cdv A outer s H hr
  refine⟨λD' σ H1=>H1=H/\σ=L2.start N vs/\D'=({nx:=λ_ H'=>Q .bJ H',rt:=Q}:Ends),?_,rfl,rfl,rfl⟩
  intro pins s1 σ H1 D' I ⟨e1,e2,e3⟩
  subst e1 e2 e3
  refine wpAny_mono (ht.run pins s1 _ _ _ _ _ C0 (I.rR _) (pJ h1 hm) (hq ds M Q0 C0 h2)) (λfl s2 z=>?_) λe s2 z=>?_
  ·have un:∀{σ' H'},Inv (j8 gJ P w K mg base N qual (au st) f cdv A outer s H1 E0).Ej pins σ' H' s2->Inv (j8 (Nu P w) P w K mg base N qual (au st) f cdv A outer s H1 E) pins σ' H' s2:=λI'=>
    Inv.i8 (X:=j8 (Nu P w) P w K mg base N qual (au st) f cdv A outer s H1 E) (E:=λ_ _=>False) I'
   cases fl with
   |next=>obtain⟨σ',H',I',ρ',M',f',r',q⟩:=z;exact⟨σ',H',un I',h3 .bJ M' .bJ H' q (dN.mpr rfl) r'.mem f'⟩
   |ret u=>obtain⟨v,σ',H',I',rv,d,M',f',dv,rm,q⟩:=z;exact⟨v,σ',H',un I',rv,h3 d M' v H' q dv rm f'⟩
   |brk=>obtain⟨_,_,_,_,_,_,_,z⟩:=z;exact z.elim
   |cont=>obtain⟨_,_,_,_,_,_,_,z⟩:=z;exact z.elim
  ·obtain⟨a,C,dx,σ',H',rfl,I',xc,wq⟩:=z
   have I':Inv (j8 (Nu P w) P w K mg base N qual (au st) f cdv A outer s H1 E) pins σ' H' s2:=Inv.i8 (X:=j8 (Nu P w) P w K mg base N qual (au st) f cdv A outer s H1 E) (E:=λ_ _=>False) I'
   refine Hh (L:=s.heap.objs.size) I'.ok.frames I'.stack rfl xc (λb o q=>I'.base.there b o q (λz=>absurd (show b∈([]:List Addr)from z) (by simp))) (λb hb=>I'.hok.fresh hb) λh' Lb x'=>?_
   refine⟨a,C,dx,H',rfl,I'.os,I'.bare,I'.base.Lb Lb λb o q hb=>?_,I'.hok.Lb Lb I'.q8,.inr x',h4 C dx H' wq⟩
   rcases aat.mp (I'.wD b hb)with rfl|hb
   ·exact absurd (Heap.lt_size q) (abu _)
   ·exact hb
end
end L3
namespace L3
open PySem PySem.Spec PyProof.Rows L2
section
variable{M:Model}{A:Around}{E:Value->Shared->Prop}{s:Shared}{env:Env}{K:PySem.W.Frag}{C:Addr}
theorem nJ{x:Sem Value}{Q:Flow->Shared->Prop}(Z:mL.ua K C=true)(hh:A.handled=none)
 (h:wpAny M A x (λv s₁=>∃a t dx,v= .ref a/\K.In s₁.heap/\s₁.heap.get? a=some (yO C t dx)/\E (.ref a) s₁) E s) :
 wpAny M A (raiseStmt env (some x) none) Q E s:=by
 unfold raiseStmt
 refine wpAny_bind (wpAny_mono h (λv s₁ h₁=>?_) λ_ _ x=>x)
 obtain⟨e,t,dx,rfl,KX,he,hE⟩:=h₁
 obtain⟨bm,N',nm,q',bs,hdct,sn,sub,ab,col,dd,k0,k1,k2,k3,k5,hC,T⟩:=mL.xZ KX Z
 have X4:(Value.ref C::bm).contains (.type "BaseException")=true:=by rw[adC,show bm.contains (.type "BaseException")=true from T.hasType rfl,adF]
 obtain⟨hp,g,d,tk,os⟩:=s₁
 repeat(first|with_reducible refine wpAny_loadPart_at he ?_|with_reducible refine wpAny_loadPart_at hC ?_|(with_reducible refine wpAny_isSubtype_exc hC ?_;rw[X4])|wp_step)
 exact wpAny_raiseNew_none hh hE
theorem J3{x:Expr}{pos:Pos}{Q:Flow->Shared->Prop}(Z:mL.ua K C=true)(hh:A.handled=none)
 (h:wpAny M A (eval x env) (λv s₁=>∃a t dx,v= .ref a/\K.In s₁.heap/\s₁.heap.get? a=some (yO C t dx)/\E (.ref a) s₁) E s) :
 wpAny M A (exec (.Raise (some x) none pos) env) Q E s:=by
 rw[arm_exec_Raise]
 first
  |exact wpAny_bind (wpAny_standAt (nJ Z hh (wpAny_bind (wpAny_mono h (λv s₁ h₁=>wpAny_bind (wpAny_standAt (wpAny_pure h₁))) λ_ _ x=>x))))
  |(simp only[evalOpt,Option.map];exact wpAny_bind (wpAny_standAt (nJ Z hh (wpAny_bind (wpAny_mono h (λv s₁ h₁=>wpAny_bind (wpAny_standAt (wpAny_pure h₁))) λ_ _ x=>x)))))
  |(show wpAny M A (do standAt pos;raiseStmt env (some (do let v <-eval x env;standAt pos;pure v)) none) Q E s;exact wpAny_bind (wpAny_standAt (nJ Z hh (wpAny_bind (wpAny_mono h (λv s₁ h₁=>wpAny_bind (wpAny_standAt (wpAny_pure h₁))) λ_ _ x=>x)))))
end
section
variable{X:Cx}{e:Expr}{es:List Expr}{x:Str}{p pos:Pos}{C:Addr}{t:pC}
def X5(X:Cx)(pins:List (Addr ×Obj))(σ:St)(M:Mp)(H:Hp)(C:Addr)(f:Str)(Q:D->Mp->Prop)(a:Addr)(s':Shared):Prop:= ∃t dd od y d H1 M1 s1,Fr M H M1 H1/\bK X.K H1 M1/\Dat X.K H1 d y/\Q d M1/\Inv X pins σ H1 s1/\s1.heap.get? a=none/\H1 dd=none/\dd≠a/\
 Inv X pins σ (upd (upd (upd H1 a (XO a C t)) dd (.gm od (.xd [(f,y)]))) a (YO a C t dd)) s'
theorem Hu{f:Str}{fI:Addr}{fd:FuncData}{ps:List Str}{k:Nat}(Z:XV X.K C)(hi:PySem.W.findIn X.K (.ref C) "__init__" =some (some (.ref fI)))(hf:PySem.W.isFn X.K (.ref fI)=true)
 (F:cz X.prog X.w X.K X.mg X.base gJ k fI fd ps (RE C f))(hr:fK (k+1) X.A)(hg:Gl X x)(hm:X.mg x=some (.ref C))(hb:Binds X.K fd ps [])(ha:yz X (e::es) t)
 {pins:List (Addr ×Obj)}{s:Shared}{σ:St}{H:Hp}{ρ:En}{M:Mp}{Q:D->Mp->Prop}(I:Inv X pins σ H s)(r:Rep X.K H σ ρ M)(h:t ρ M λds M1=>∃d,ds=[d]/\Q d M1)
 (hdb:(x==("__debug__" :Str))=false:=by decide)(he:starEach (e::es) X.env=(false,eval e X.env)::starEach es X.env:=by rfl)(hpl:(backTo pos (starEach es X.env)).any (·.1)=false:=by rfl) :
 wpAny (model X.prog X.w) X.A (eval (.Call (.Name x p) (e::es) [] pos) X.env) (λu s'=>∃a,u= .ref a/\X5 X pins σ M H C f Q a s') X.xe s:=by
 refine wpAny_Call_Name_kw (nT I hg hm ?_ hdb)
 refine PySem.W.callWith_K (h₀:=X.base) I.ok.mod.u9 Z.kp (c5 (ha.run pos pins s σ H ρ M _ I r h) λus s1 ⟨vs,H1,I1,rv,ds,M1,f1,dv,ju,d,ed,q⟩=>⟨I1.nS,?_⟩) he hpl
 subst ed
 obtain⟨y,vs',rfl,dy,z⟩:=aC.mp dv
 obtain rfl:=aM.mp z
 obtain⟨u,rfl,ry⟩:=vals1 rv
 have iQ:((s1.heap.push (⟨.type "tuple",none,.seq [u].toArray,#[]⟩:Obj)).push (mL.qU C s1.heap.objs.size)).get? (s1.heap.objs.size+1)=some (xO C s1.heap.objs.size):=by heap_get
 have X6:Inv X pins σ H1 {s1 with heap:=s1.heap.push (⟨.type "tuple",none,.seq [u].toArray,#[]⟩:Obj)}:=I1.kept (t':=s1.toks) λb o z=>Heap.get?_push_of_some _ z
 have I2:Inv X pins σ (upd H1 (s1.heap.objs.size+1) (XO (s1.heap.objs.size+1) C s1.heap.objs.size)) {s1 with heap:=(s1.heap.push (⟨.type "tuple",none,.seq [u].toArray,#[]⟩:Obj)).push (mL.qU C s1.heap.objs.size)}:=
  X6.laid (a:=s1.heap.objs.size+1) (t':=s1.toks) (λb o z=>Heap.get?_push_of_some _ z) (acC (Heap.size_push _ _)) ⟨iQ,⟨_,iQ⟩,λ_ _ z k=>k _ z⟩
 have B3:RE C f [.ref (s1.heap.objs.size+1),y] (upd H1 (s1.heap.objs.size+1) (XO (s1.heap.objs.size+1) C s1.heap.objs.size)) (λv H2=>v= .bJ/\∃dd od,H1 dd=none/\dd≠s1.heap.objs.size+1/\H2=upd (upd (upd H1 (s1.heap.objs.size+1) (XO (s1.heap.objs.size+1) C s1.heap.objs.size)) dd (.gm od (.xd [(f,y)]))) (s1.heap.objs.size+1) (YO (s1.heap.objs.size+1) C s1.heap.objs.size dd)) E0:=
  ⟨_,_,y,rfl,bu,λdd od h1 h2=>⟨rfl,dd,od,by rw[aE h2]at h1;exact h1,h2,rfl⟩⟩
 have r2:Vals [V.ref (s1.heap.objs.size+1),y] [Value.ref (s1.heap.objs.size+1),u]:= .cons rfl (.cons ry .nil)
 have hl:([Value.ref (s1.heap.objs.size+1),u]++[]).length=ps.length:=by
  have e:=r2.length
  rw[F.len _ _ _ _ B3]at e
  simpa using e.symm
 have NZ:=hb {s1 with heap:=(s1.heap.push (⟨.type "tuple",none,.seq [u].toArray,#[]⟩:Obj)).push (mL.qU C s1.heap.objs.size)} [Value.ref (s1.heap.objs.size+1),u] I2.nS hl
 rw[abf]at NZ
 have hq:=F.run _ X.stack _ _ ⟨[Value.ref (s1.heap.objs.size+1),u],[]⟩ [Value.ref (s1.heap.objs.size+1),u] _ _ E0 (hr.make C [u] []) (I2.LQ.make C [u] []) NZ r2 B3
 have hno:s1.heap.get? (s1.heap.objs.size+1)=none:=by
  cases q:s1.heap.get? (s1.heap.objs.size+1)with
  |none=>rfl
  |some o=>exact absurd (Heap.lt_size q) (acu.mpr (abU _))
 obtain⟨hh,g,dr,tk,os⟩:=s1
 refine wpAny_call (mL.D7 I1.nS Z.tt Z.ca Z.ty hi hf (by rw[sizeLine_eq];simp) (codeAny_mono hq λr s' hq'=>?_))
 cases r with
 |error e=>exact hq'.elim
 |ok fl=>
  cases fl with
  |ret u'=>
   obtain⟨v,H',I3,UD,ev,dd,od,h1,h2,eH⟩:=I2.after hq'
   subst ev
   subst eH
   exact⟨UD,⟨_,rfl,_,dd,od,y,d,H1,M1,_,f1,ju,dy,q,I1,hno,h1,h2,I3⟩⟩
  |next=>exact False.elim hq'
  |brk=>exact False.elim hq'
  |cont=>exact False.elim hq'
def Ny(C:Addr)(f:Str)(t:pC):Hr:=λ_ xp ρ M=>t ρ M λds M1=>∃d,ds=[d]/\xp C f d M1
theorem Hv{f:Str}{fI:Addr}{fd:FuncData}{ps:List Str}{k:Nat}{rp:Pos}(Z:XV X.K C)(hi:PySem.W.findIn X.K (.ref C) "__init__" =some (some (.ref fI)))(hf:PySem.W.isFn X.K (.ref fI)=true)
 (F:cz X.prog X.w X.K X.mg X.base gJ k fI fd ps (RE C f))(hr:fK (k+1) X.A)(hc:X.calm=true)(hg:Gl X x)(hm:X.mg x=some (.ref C))(hb:Binds X.K fd ps [])(ha:yz X (e::es) t)
 (hdb:(x==("__debug__" :Str))=false:=by decide)(he:starEach (e::es) X.env=(false,eval e X.env)::starEach es X.env:=by rfl)(hpl:(backTo pos (starEach es X.env)).any (·.1)=false:=by rfl)
 (hx:∀e s,X.xe e s->False:=by intro _ _ h;exact h)(hex:X.ex=[]:=by rfl) :
 RG X (.Raise (some (.Call (.Name x p) (e::es) [] pos)) none rp) (Ny C f t):=by
 constructor
 intro pins s σ H ρ M D xp I r h
 refine J3 Z.tt (I.ok.hd hc) (wpAny_mono (Hu Z hi hf F hr hg hm hb ha I r h hdb he hpl) (λu s' w=>?_) λ_ _ z=>(hx _ _ z).elim)
 obtain⟨a,rfl,t,dd,od,y,d,H1,M1,s1,f1,ju,dy,q,I1,hno,n1,n2,I3⟩:=w
 have n0:X.s₀.heap.get? a=none:=by
  cases q':X.s₀.heap.get? a with
  |none=>rfl
  |some o=>obtain⟨u,z⟩:=I1.base.there a o q' (by rw[hex];simp);rw[hno]at z;cases z
 have na:H1 a=none:=JZ I1.hok hno
 obtain⟨Nr,_⟩:=(show cj X.prog X.w _ s'.heap a (YO a C t dd)from I3.hok a _ bu)
 have I4:=Inv.forget I3 bu I1 na
 generalize UE:(λb=>if b=a then none else upd (upd (upd H1 a (XO a C t)) dd (.gm od (.xd [(f,y)]))) a (YO a C t dd) b)=H2 at I4
 have ha2:H2 a=none:=by rw[<-UE];exact if_pos rfl
 have hd2:H2 dd=some (.gm od (.xd [(f,y)])):=by rw[<-UE];dsimp only;rw[if_neg n2,aE n2,bu]
 have kp:∀b o,H1 b=some o->H2 b=some o:=λb o z=>by
  have z1:b≠a:=λw=>by rw[w,na]at z;cases z
  have z2:b≠dd:=λw=>by rw[w,n1]at z;cases z
  rw[<-UE];dsimp only
  rw[if_neg z1,aE z1,aE z2,aE z1];exact z
 refine⟨a,_,_,rfl,I3.nS,Nr,a,C,dd,σ,H2,rfl,I4,.inl ⟨n0,ha2,_,_,Nr,⟨rfl,rfl⟩,rfl,rfl⟩,od,f,y,d,M1,f1.trans λb o n z=>⟨kp b o z,n⟩,hd2,Dat.mono (Ext.keep kp) _ _ dy,ju.keep kp,q⟩
end
def hnd(X:Cx)(a:Addr):Cx:={X with A:=X.A.mark (some (.ref a)),calm:=false,xe:=λ_ _=>False}
section
variable{X:Cx}{pins:List (Addr ×Obj)}{σ:St}{H:Hp}{s:Shared}
theorem CQ{a:Addr}(I:Inv X pins σ H s):Inv (hnd X a) pins σ H s:=
 ⟨⟨I.ok.mod,I.ok.kind,I.ok.glob,I.ok.blt,I.ok.above,I.ok.inj,I.ok.has,I.ok.Lw,(λz=>nomatch z),I.ok.frames,I.ok.stk,I.ok.NT,I.ok.bs,I.ok.HR,I.ok.Ar,I.ok.As,I.ok.nR,I.ok.Ih⟩,I.os,I.bare,I.base,I.loc,I.cell,I.free,I.g9,I.pin,I.hok,I.len⟩
theorem D8{a:Addr}(ok:X.Ok)(I:Inv (hnd X a) pins σ H s):Inv X pins σ H s:=
 ⟨ok,I.os,I.bare,I.base,I.loc,I.cell,I.free,I.g9,I.pin,I.hok,I.len⟩
end
theorem J6{M:Model}{A:Around}{E:Value->Shared->Prop}{h:Heap}{g:Array GenState}{d:Drawn}{t:Nat}{os:OsState}{K:PySem.W.Frag}{e C B:Addr}{oe:Obj}{Q:Bool->Shared->Prop}(X:K.In h)(he:h.get? e=some oe)(hcls:oe.cls= .ref C)
 (Z:mL.ua K B=true)(Zs:PySem.W.subIn K (.ref B) (.type "BaseException")=some true)(hs:PySem.W.subIn K (.ref C) (.ref B)=some true)(hq:Q true ⟨h,g,d,t,os⟩):wpAny M A (excMatches (.ref e) (.ref B)) Q E ⟨h,g,d,t,os⟩:=by
 obtain⟨bm,N',nm,q',bs,hdct,sn,sub,ab,col,dd,k0,k1,k2,k3,k5,hC,T⟩:=mL.xZ X Z
 have f:=tc_notTuple
 unfold excMatches
 repeat(first|(with_reducible refine wpAny_loadPart_at he ?_;rw[hcls])|with_reducible refine wpAny_loadPart_at hC ?_|with_reducible refine sub_K X Zs ?_|with_reducible refine sub_K X hs ?_|wp_step)
 exact hq
section
variable{X:Cx}{e:Expr}{es:List Expr}{k:Nat}{f:Addr}{fd:FuncData}{ps:List Str}{x cn n:Str}{p pos epos cpos hp cp:Pos}
def UG(K:PySem.W.Frag)(B:Addr)(S:QX)(t:pC)(i:Nat)(th:Addr->ia):ia:=λD ρ M=>t ρ M λds M1=>S ds M1 (λ_ M2=>D.nx ρ M2) λC f d M2=>
 PySem.W.subIn K (.ref C) (.ref B)=some true/\∀a,th a {nx:=λρ' M'=>D.nx (ρ'.set i none) M',rt:=D.rt,bk:=λρ' M'=>D.bk (ρ'.set i none) M',ct:=λρ' M'=>D.ct (ρ'.set i none) M'} (ρ.set i (some (.exc C f [d]))) M2
theorem Nz{S:QX}{t:pC}{i:Nat}{B:Addr}{b₀:Stmt}{suite:List Stmt}{th:Addr->ia}
 (F:cz X.prog X.w X.K X.mg X.base (Nu X.prog X.w) k f fd ps (RH X.K S))(hr:fK k X.A)(hg:Gl X x)(hm:X.mg x=some (.ref f))(hk:PySem.W.keepIn X.K (.ref f)=true)(hb:Binds X.K fd ps [])
 (ha:yz X (e::es) t)(Z:mL.ua X.K B=true)(Zs:PySem.W.subIn X.K (.ref B) (.type "BaseException")=some true)(hcg:Gl X cn)(UH:X.mg cn=some (.ref B))(hN:X.N.Nodup)(hi:X.N[i]?=some n)(hl:X.env.scope.names.lookup n=some .local)
 (hs:∀(a:Addr),iS (hnd X a) (b₀::suite) (th a))
 (hst:X.stack=X.env::X.outer:=by rfl)(hfr:X.env.frame=some X.env.locals:=by rfl)
 (hsw:swapsWith (.Call (.Name x p) (e::es) [] cpos) none epos.line X.env=pure false:=by rfl)
 (hdb:(x==("__debug__" :Str))=false:=by decide)(hdc:(cn==("__debug__" :Str))=false:=by decide)(he:starEach (e::es) X.env=(false,eval e X.env)::starEach es X.env:=by rfl)(hpl:(backTo cpos (starEach es X.env)).any (·.1)=false:=by rfl)
 (hx:∀e s,X.xe e s->False:=by intro _ _ h;exact h)(hex:X.ex=[]:=by rfl) :
 vm X (.Try [.Expr (.Call (.Name x p) (e::es) [] cpos) epos] [.ExceptHandler (some (.Name cn cp)) (some n) (b₀::suite) hp] [] [] pos) (UG X.K B S t i th):=by
 constructor
 intro pins s σ H ρ M D I r h
 refine wpAny_Try_except (wpAny_execs_cons (wpAny_Expr_any ?_ I.quiet hsw))
 refine wpAny_Call_Name_kw (nT I hg hm ?_ hdb)
 refine PySem.W.callWith_K (h₀:=X.base) I.ok.mod.u9 hk (wpAny_mono (ha.run cpos pins s σ H ρ M _ I r h) (λus s1 ⟨vs,H1,I1,rv,ds,M1,f1,dv,ju,q⟩=>⟨I1.nS,?_⟩) λ_ _ z=>(hx _ _ z).elim) he hpl
 have B3:RH X.K S vs H1 (λ_ H'=>gn X.K M H D.nx σ H') (λCv dx H'=>∃C d,Cv= .ref C/\dx=some d/\Xw X.K M1 H1 (λC f d M2=>PySem.W.subIn X.K (.ref C) (.ref B)=some true/\∀a,th a {nx:=λρ' M'=>D.nx (ρ'.set i none) M',rt:=D.rt,bk:=λρ' M'=>D.bk (ρ'.set i none) M',ct:=λρ' M'=>D.ct (ρ'.set i none) M'} (ρ.set i (some (.exc C f [d]))) M2) C d H'):=
  ⟨ds,M1,_,_,dv,ju,q,λd M2 v H2 q2 d2 r2 f2=>⟨ρ,M2,f1.trans f2,(r.go f1 ju).go f2 r2,q2⟩,λC dx H2 w=>⟨C,dx,rfl,rfl,w⟩⟩
 have hlen:us.length=ps.length:=by rw[<-rv.length];exact F.len _ _ _ _ B3
 have NZ:=hb s1 us I1.nS (by simpa using hlen)
 rw[abf]at NZ
 refine wpAny_call (codeAny_mono (F.run X.A X.stack s1 H1 ⟨us,[]⟩ us vs _ _ hr I1.LQ NZ rv B3) λres s' hq=>?_)
 cases res with
 |ok fl=>
  cases fl with
  |ret u=>
   obtain⟨v,H2,I2,_,z⟩:=I1.after hq
   exact wpAny_execs_nil (wpAny_execs_nil ⟨σ,H2,I2,z⟩)
  |next=>exact False.elim hq
  |brk=>exact False.elim hq
  |cont=>exact False.elim hq
 |error ev=>
  obtain⟨a,C,dx,H',rfl,os,bare,un,hok,xc,C',ZJ,ec,ed,od,g,v,d,M2,VE,hdx,dd,KJ,hsub,X7⟩:=hq
  cases ec
  cases ed
  have QY:∀b∈([]:List Addr),(b∈X.ex\/X.s₀.heap.objs.size<=b)/\b≠X.env.locals/\(∀x c,X.env.cells.lookup x=some c->c≠b)/\∀p∈X.pn++pins,p.1≠b:=λb z=>absurd z (by simp)
  have I':Inv X pins σ H' s':=I1.Ez (ch:=[]) os un hok bare QY
  have na:s1.heap.get? a=none:=xc.new.1
  have nA:H' a=none:=xc.new.2
  have n0:X.s₀.heap.get? a=none:=by
   cases q':X.s₀.heap.get? a with
   |none=>rfl
   |some o=>obtain⟨u,z⟩:=I1.base.there a o q' (by rw[hex];simp);rw[na]at z;cases z
  have aL:a≠X.env.locals:=λz=>by
   obtain⟨m,⟨o,_,_,ho,_⟩,_⟩:=I1.loc
   rw[<-z,na]at ho;cases ho
  have aP:∀p∈X.pn++pins,p.1≠a:=λp hp z=>by
   have:=(I1.pin p hp).1
   rw[z,na]at this;cases this
  have UI:X.A.frames=some (X.env::X.outer):=by rw[<-hst];exact I'.ok.frames
  have X8:s'.heap.FunFrames X.base (X.env::X.outer):=by rw[<-hst];exact I'.stack
  have sub:∀b∈frs (X.env::X.outer),H' b=none:=by rw[<-hst];exact I'.q8
  have step:∀h2,t9 s1.heap H' (frs (X.env::X.outer)) s'.heap h2->Inv X pins σ H' {s' with heap:=h2}:=λh2 st=>
   I1.Ez (ch:=[]) (s':={s' with heap:=h2}) os (by rw[hst]at un ⊢;exact un.Lb st λb o _ hb=>hb) (hok.Lb st sub) bare QY
  refine CP UI X8 hfr xc (λb o q=>un.there b o q (by simp)) (λb hb=>hok.fresh hb) λh1 st1 x1=>?_
  refine xY (S:=frs (X.env::X.outer)) (s:={s' with heap:=h1}) x1 λh2 st2 x2=>?_
  have I2:=step h2 (st1.trans st2)
  obtain⟨ZK,X9,⟨hc2,_⟩,_⟩:=t8.there (.inr x2)
  refine wpAny_handleBy_cons (codeAny_handlers_test (nT (X:=hnd X a) (CQ I2) hcg UH ?_ hdc)) (by intro q;cases q)
  refine J6 I2.nS X9 hc2 Z Zs hsub ?_
  refine codeAny_handlers_suite_as ?_
  refine xY (S:=frs (X.env::X.outer)) (s:={s' with heap:=h2}) x2 λh3 st3 x3=>?_
  have I3:=step h3 ((st1.trans st2).trans st3)
  obtain⟨oe,Yb,⟨hc3,Yc⟩,Yd,VF⟩:=t8.there (.inr x3)
  have I4:=Inv.QU I3 Yb nA n0 aL aP (by rw[VF];intro v z;cases z)
  have kp:∀b o,H' b=some o->upd H' a (.gm oe (.ext λh=>h.get? a=some oe)) b=some o:=λb o z=>by rw[aE (bF z nA)];exact z
  generalize RI:upd H' a (.gm oe (.ext λh=>h.get? a=some oe))=H4 at I4 kp
  have Ye:H4 a=some (.gm oe (.ext λh=>h.get? a=some oe)):=by rw[<-RI];exact bu
  have dE:Dat X.K H4 (.exc C g [d]) (.ref a):=rB.mpr ⟨a,oe,_,[v],rfl,Ye,⟨⟨hc3,Yd,VF⟩,.inr ⟨dx,od,v,rfl,Yc,kp _ _ hdx⟩⟩,aF.one (Dat.mono (Ext.keep kp) _ _ dd)⟩
  refine rP (X:=hnd X a) (v:= .ref a) (CQ I4) hN hi (.inl hl) rfl (λs4 J4=>?_) (.inr hl)
  have fr:Fr M H M2 H4:=(f1.trans VE).trans λb o n e=>⟨kp b o e,n⟩
  have rep:Rep X.K H4 (σ.set i (some (.ref a))) (ρ.set i (some (.exc C g [d]))) M2:=(((r.go f1 ju).go VE KJ).go (λb o n e=>⟨kp b o e,n⟩) (KJ.keep kp)).set dE
  refine wpAny_mono ((hs a).run pins s4 _ H4 _ M2 _ J4 rep (X7 a)) (λfl s5 z=>?_) λ_ _ z=>False.elim z
  have fin:∀{σ' HX} {R:Unit->Shared->Prop},Inv (hnd X a) pins σ' HX s5->(∀s6,Inv X pins (σ'.set i none) HX s6->R () s6)->wpAny (model X.prog X.w) X.A (do bindName X.env n .none;unbindBehindTheSuite X.env n hp) R X.xe s5:=
   λJ5 k=>JT (D8 I.ok J5) hN hi hl k
  cases fl with
  |next=>
   obtain⟨σ',HX,J5,ρ',M',f',r',q'⟩:=z
   exact fin J5 λs6 I6=>⟨_,HX,I6,_,M',fr.trans f',Rep.unset r',q'⟩
  |brk=>
   obtain⟨σ',HX,J5,ρ',M',f',r',q'⟩:=z
   exact fin J5 λs6 I6=>⟨_,HX,I6,_,M',fr.trans f',Rep.unset r',q'⟩
  |cont=>
   obtain⟨σ',HX,J5,ρ',M',f',r',q'⟩:=z
   exact fin J5 λs6 I6=>⟨_,HX,I6,_,M',fr.trans f',Rep.unset r',q'⟩
  |ret u=>
   obtain⟨v,σ',HX,J5,UD,d,M',f',Yg,S4,q'⟩:=z
   exact fin J5 λs6 I6=>⟨v,_,HX,I6,UD,d,M',fr.trans f',Yg,S4,q'⟩
end
end L3
namespace HD
open PySem PySem.W L2
theorem Lc:dA=jG:=funext λs=>by cases s<;>rfl
theorem Ld:dB=eW:=funext λs=>by cases s<;>rfl
theorem Lf:dS=au:=funext λs=>by cases s<;>rfl
theorem Bt(h:Heap):∀as:List Addr,(yy h as).In h
 |[],_,_,e=>nomatch e
 |b::r,a,o,e=>by
  unfold yy at e
  cases q:h.get? b with
  |none=>rw[q]at e;exact Bt h r a o e
  |some x=>
   rw[q]at e
   replace e:List.lookup a ((b,x)::yy h r)=some o:=e
   rw[abb]at e
   cases z:a==b with
   |true=>
    rw[z]at e
    obtain rfl:a=b:=eq_of_beq z
    cases e;exact q
   |false=>rw[z]at e;exact Bt h r a o e
theorem qf{h:Heap}{a:Addr}{o:Obj}(e:h.get? a=some o):∀{as:List Addr},a∈as->(yy h as).lookup a=some o
 |b::r,m=>by
  unfold yy
  by_cases z:a=b
  ·subst z
   rw[e]
   show List.lookup a ((a,o)::yy h r)=some o
   rw[abb,beq_self_eq_true]
  ·have m':a∈r:=by
    rcases aat.mp m with y|y
    ·exact absurd y z
    ·exact y
   cases q:h.get? b with
   |none=>exact qf e m'
   |some x=>
    show List.lookup a ((b,x)::yy h r)=some o
    rw[abb,beq_eq_false_iff_ne.mpr z]
    exact qf e m'
theorem J7{K:Frag}{o:Obj}(e:K.lookup mainGlobals=some o)(n:Str):nsIn K mainGlobals n=nsIn [(mainGlobals,o)] mainGlobals n:=by
 unfold nsIn
 rw[e]
 rfl
def VG(K:Frag)(p:Str ×Stmt):Prop:= ∃f fd,nsIn K mainGlobals p.1=some (some (.ref f))/\jC K p.1 p.1 p.2 f fd
def Gn(K:Frag):List (Str ×Stmt)->Prop
 |[]=>True
 |p::r=>VG K p/\Gn K r
def AllB(K:Frag):List Str->Prop
 |[]=>True
 |b::r=>nsIn K mainGlobals b=some none/\AllB K r
def YP(fs:List (Str ×Stmt))(bs:List Str)(h:Heap):Prop:= ∃K:Frag,K.In h/\Gn K fs/\AllB K bs
theorem keeps{fs:List (Str ×Stmt)}{bs:List Str}{h h':Heap}(y:YP fs bs h)(k:∀b o,h.get? b=some o->h'.get? b=some o):YP fs bs h':=
 let ⟨K,i,a,b⟩:=y
 ⟨K,i.keeps k,a,b⟩
theorem Hw{h:Heap}{as:List Addr}{n:Str}{r:Option Value}(m:mainGlobals∈as)(e:Lk h n=some r):nsIn (yy h as) mainGlobals n=some r:=by
 unfold Lk at e
 cases q:h.get? mainGlobals with
 |none=>rw[q]at e;cases e
 |some o=>rw[q]at e;rw[J7 (qf q m)];exact e
theorem J8{h:Heap}{n:Str}{f:Addr}{fd:FuncData}(e:fnAt h n=some (f,fd)):Lk h n=some (some (.ref f))/\∃oc od sl,h.get? f=some ⟨oc,od,.func fd,sl⟩:=by
 unfold fnAt at e
 split at e
 ·rename_i g hg
  split at e
  ·rename_i oc od fd' sl hq
   cases e
   exact⟨hg,oc,od,sl,hq⟩
  ·cases e
 ·cases e
theorem qJ{h:Heap}{v:Value}{q:Str}{as:List Addr}(e:jq h v=some q)(m:∀c,v= .ref c->c∈as):codeIn (yy h as) v q=true:=by
 unfold jq at e
 split at e
 ·rename_i c
  split at e
  ·rename_i oc od vs sl hc
   split at e
   ·rename_i a q' tk r hv
    cases e
    unfold codeIn
    dsimp only
    rw[qf hc (m c rfl)]
    dsimp only
    rw[hv]
    dsimp only
    exact beq_self_eq_true _
   ·cases e
  ·cases e
 ·cases e
theorem NB{h:Heap}{p:Str ×Stmt}{as:List Addr}(m0:mainGlobals∈as)(m:∀a∈adr h p.1,a∈as)
 (e:(fnAt h p.1).map (λx=>(blank x.2,jq h x.2.code))=some (fnOf p.1 p.1 (jG p.2) (eW p.2) (au p.2) .none .none .none .none none .none .none,some p.1)):VG (yy h as) p:=by
 obtain⟨⟨f,fd⟩,hf,hq⟩:=abF.mp e
 obtain⟨h1,oc,od,sl,h2⟩:=J8 hf
 obtain⟨e1,e2⟩:=Prod.mk.inj hq
 have hadr:adr h p.1=f::(match fd.code with| .ref c=>[c]|_=>[]):=by unfold adr;rw[hf]<;>rfl
 have QZ:f∈as:=m f (by rw[hadr];exact .head _)
 have lk:=qf h2 QZ
 have hc:codeIn (yy h as) fd.code p.1=true:=qJ e2 λc hc=>m c (by rw[hadr,hc];exact .tail _ (.head _))
 have hfd:fd=fnOf p.1 p.1 (jG p.2) (eW p.2) (au p.2) .none fd.kwdefaults fd.doc fd.pyModule fd.annotations fd.code fd.closureTuple:=by
  cases fd
  unfold blank at e1
  simp only[FuncData.mk.injEq]at e1
  obtain⟨a1,a2,a3,a4,a5,a6,a7,a8,a9⟩:=e1
  simp only[FuncData.mk.injEq]
  exact⟨a1,a2,a3,a4,a5,a6,a7,a8,trivial,trivial,trivial,trivial,trivial,trivial,by simpa using a9⟩
 refine⟨f,fd,Hw m0 h1,⟨oc,od,fd.kwdefaults,fd.doc,fd.pyModule,fd.annotations,fd.code,fd.closureTuple,sl,hfd,lk,hc⟩,?_⟩
 unfold keepIn
 dsimp only
 rw[lk]
theorem CS{h:Heap}{as:List Addr}(m0:mainGlobals∈as):∀{fs:List (Str ×Stmt)},(∀a∈fs.flatMap (λp=>adr h p.1),a∈as)->
 fs.map (λp=>(fnAt h p.1).map λx=>(blank x.2,jq h x.2.code))=fs.map (λp=>some (fnOf p.1 p.1 (jG p.2) (eW p.2) (au p.2) .none .none .none .none none .none .none,some p.1))->Gn (yy h as) fs
 |[],_,_=>trivial
 |p::r,m,e=>by
  rw[aaV,aaV]at e
  obtain⟨e1,e2⟩:=List.cons.inj e
  rw[abl]at m
  exact⟨NB m0 (λa ha=>m a (aaF.mpr (.inl ha))) e1,CS m0 (λa ha=>m a (aaF.mpr (.inr ha))) e2⟩
theorem allB_of{h:Heap}{as:List Addr}(m0:mainGlobals∈as):∀{bs:List Str},bs.map (λb=>Lk h b)=bs.map (λ_=>some none)->AllB (yy h as) bs
 |[],_=>trivial
 |b::r,e=>by
  rw[aaV,aaV]at e
  obtain⟨e1,e2⟩:=List.cons.inj e
  exact⟨Hw m0 e1,allB_of m0 e2⟩
theorem Hx{l:OpenLaw}{n k:Nat}{q:Program}{loose:List Str}{XP:(Str->Option Value)->Heap->Prop}{YP:World->Heap->Prop}{d:DefRec}{CX:Ek}{sp:Frag->Sp}{x:Str}
 (hn:l.most=some n)(hn2:n<=sizeLine)(hdf:d.params.defaults=[])(hr:fK k callerA)
 (F:∀(w:World) (mg:Str->Option Value) (fa:Addr) (h:Heap),YP w h->h.Ns mainGlobals mg->mg d.name=some (.ref fa)->
  ∃(K:Frag) (fd:FuncData),K.In h/\(∀(s:Shared) (u:Value),BindsTo s fd ⟨[u],[]⟩ [(x,u)])/\
   ∀base:Heap,K.In base->base.Ns mainGlobals mg->cz l.prog w K mg base CX k fa fd [x] (sp K))
 (B3:∀(K:Frag) (H:Hp) (a:Addr) (ns:List Int),ns.length<=n->(∀z∈ns,Att.Tz z)->IE H->gR K H a (ns.map V.int)->sp K [.ref a] H (λv _=>v= .bl true) λ_ _ _=>False)
 (SH:∀(H:Hp) (s:Shared) (e:Value) (s':Shared),CX [] H s (λ_ _ _=>False) e s'->False) :
 WalkO q loose XP YP l.row.toRowW d [] (λf vs=>PySem.call f vs):=by
 refine Att.wX hn hdf λw s₀ s₁ mg mb fa o pm cd doc a vs ns G Y ho hd hcd hmg hobj hints hlen hbig hg=>?_
 obtain⟨K,fd,KX,hb,hF⟩:=F w mg fa _ Y G.T.g hmg
 exact EO (CX:=CX) (sp:=sp K) KX G.T.g G.T.b G.T.builtins G.T.nolimit hg hobj hints (abo hlen hn2) hr hF hb (λH hO hS=>B3 K H a ns hlen hbig hO hS) λH e s'=>SH H s₁ e s'
end HD
namespace HD
open PySem PySem.W L2
theorem Lg:yT=mL.ua:=by funext K C;rfl
theorem Lh:∀l,yV l=mL.zK l
 |[]=>rfl
 |v::r=>by
  cases v with
  |ref c=>exact Lh r
  |_=>rfl
theorem NC(K:Frag)(C:Addr):RU K C=mL.x6 K C:=by
 unfold RU mL.x6
 congr 1
 funext cd
 rw[Lh]
theorem rK{r:Option (Option Value)}{s:String}(h:C5 r s=true):r=some (some (.builtin s)):=by
 unfold C5 at h
 split at h
 ·rw[eq_of_beq h]
 ·cases h
theorem Hy{r:Option (Option Value)}(h:Ra r=true):r=some none:=by
 unfold Ra at h
 split at h
 ·rfl
 ·cases h
theorem CT{r:Option (Option Value)}{a:Addr}(h:Ib r a=true):r=some (some (.ref a)):=by
 unfold Ib at h
 split at h
 ·rw[eq_of_beq h]
 ·cases h
theorem lH{r:Option Bool}{b:Bool}(h:HQ r b=true):r=some b:=by
 unfold HQ at h
 split at h
 ·rw[eq_of_beq h]
 ·cases h
structure CF(K:Frag)(cs:List Str)(R at_ qn:Str)(st:Stmt)(ad:Str->Addr)(i:Addr)(fd:FuncData):Prop where
 Z:mL.XC K (ad R)
 V:XV K (ad R)
 ini:findIn K (.ref (ad R)) "__init__" =some (some (.ref i))
 Yh:isFn K (.ref i)=true
 FI:jC K "__init__" qn st i fd
 na:findIn K (.ref (ad R)) at_=some none
 kv:kitOne K (.ref (ad R)) (.type "ValueError")=some true
 tN:mL.ua K (ad "NearError")=true
 sN:subIn K (.ref (ad "NearError")) (.type "BaseException")=some true
 sR:subIn K (.ref (ad R)) (.ref (ad "NearError"))=some true
 sS:subIn K (.ref (ad R)) (.ref (ad R))=some true
 ns:∀c∈cs,nsIn K mainGlobals c=some (some (.ref (ad c)))
 kk:∀c∈cs,kitOne K (.ref (ad R)) (.ref (ad c))=some (c==R || c== "NearError")
def Q2(fs:List (Str ×Stmt))(bs cs:List Str)(R at_ qn:Str)(st:Stmt)(h:Heap):Prop:= ∃K:Frag,K.In h/\Gn K fs/\AllB K bs/\∃ad i fd,CF K cs R at_ qn st ad i fd
theorem ND{fs:List (Str ×Stmt)}{bs cs:List Str}{R at_ qn:Str}{st:Stmt}{h h':Heap}(y:Q2 fs bs cs R at_ qn st h)(k:∀b o,h.get? b=some o->h'.get? b=some o):Q2 fs bs cs R at_ qn st h':=
 let ⟨K,i,a,b,c⟩:=y
 ⟨K,i.keeps k,a,b,c⟩
theorem J9{h:Heap}{n:Str}{i:Addr}{fd:FuncData}(e:Eu h n=some (i,fd)):∃oc od sl,h.get? i=some ⟨oc,od,.func fd,sl⟩:=by
 unfold Eu at e
 split at e
 ·split at e
  ·split at e
   ·split at e
    ·rename_i oc od fd' sl hq
     cases e
     exact⟨oc,od,sl,hq⟩
    ·cases e
   ·cases e
  ·cases e
 ·cases e
theorem Ka{fs:List (Str ×Stmt)}{bs cs:List Str}{R at_ qn:Str}{st:Stmt}{s:Shared}(e:Lo fs bs cs R at_ s=good2 fs bs qn st):Q2 fs bs cs R at_ qn st s.heap:=by
 obtain⟨e0,e'⟩:=Prod.mk.inj e
 obtain⟨e3,e4⟩:=Prod.mk.inj e'
 rw[good,Lc,Ld,Lf]at e0
 obtain⟨e1,e2⟩:=Prod.mk.inj e0
 rw[Lc,Ld,Lf]at e3
 obtain⟨⟨i,fd⟩,hf,hq⟩:=abF.mp e3
 obtain⟨q1,q2⟩:=Prod.mk.inj hq
 obtain⟨oc,od,sl,h2⟩:=J9 hf
 have sub:∀a∈Og s.heap fs,a∈mO s.heap fs cs R:=λa ha=>aaF.mpr (.inl ha)
 have m0:mainGlobals∈mO s.heap fs cs R:=sub _ (.head _)
 have hadr:Ia s.heap R=i::(match fd.code with| .ref c=>[c]|_=>[]):=by unfold Ia;rw[hf]<;>rfl
 have Q3:∀a∈Ia s.heap R,a∈mO s.heap fs cs R:=λa ha=>aaF.mpr (.inr (aaF.mpr (.inr ha)))
 have QZ:i∈mO s.heap fs cs R:=Q3 i (by rw[hadr];exact .head _)
 have lk:=qf h2 QZ
 have hc:codeIn (yy s.heap (mO s.heap fs cs R)) fd.code qn=true:=qJ q2 λc hc=>Q3 c (by rw[hadr,hc];exact .tail _ (.head _))
 have hfd:fd=fnOf "__init__" qn (jG st) (eW st) (au st) .none fd.kwdefaults fd.doc fd.pyModule fd.annotations fd.code fd.closureTuple:=by
  cases fd
  unfold blank at q1
  simp only[FuncData.mk.injEq]at q1
  obtain⟨a1,a2,a3,a4,a5,a6,a7,a8,a9⟩:=q1
  simp only[FuncData.mk.injEq]
  exact⟨a1,a2,a3,a4,a5,a6,a7,a8,trivial,trivial,trivial,trivial,trivial,trivial,by simpa using a9⟩
 have e4:Ln s.heap fs cs R at_=true:=e4
 unfold Ln at e4
 rw[hf]at e4
 dsimp only at e4
 have KI:=Bt s.heap (mO s.heap fs cs R)
 have AF:=CS (h:=s.heap) (as:=mO s.heap fs cs R) m0 (λa ha=>sub a (.tail _ ha)) e1
 have AB:=allB_of (h:=s.heap) (as:=mO s.heap fs cs R) m0 e2
 unfold Ew at e4
 rw[adQ,aa6]at e4
 obtain⟨f,g⟩:=e4
 rw[acD,abh]at g
 simp only[acf,List.all_nil,id,aa6,and_true]at f
 obtain⟨f1,f2,f3,f4,f5,f6,f7,f8,f9,VH,VI,Ds,VJ,VL,VM,VN,VO,VP,VQ,VR,VS,VT⟩:=f
 have Z:mL.XC (yy s.heap (mO s.heap fs cs R)) (Lm s.heap R):=⟨rK f1,Hy f2,rK f3,lH f4,lH f5,f6⟩
 refine⟨_,KI,AF,AB,Lm s.heap,i,fd,Z,⟨Z,by rw[<-Lg];exact f7,rK f8,lH f9,VH,VI,by rw[<-NC];exact Ds,rK VJ⟩,CT VL,VM,⟨⟨oc,od,fd.kwdefaults,fd.doc,fd.pyModule,fd.annotations,fd.code,fd.closureTuple,sl,hfd,lk,hc⟩,VN⟩,Hy VO,lH VP,by rw[<-Lg];exact VQ,lH VR,lH VS,lH VT,λc hc=>?_,λc hc=>?_⟩
 ·exact CT (abD.mp (g c hc)).1
 ·exact lH (abD.mp (g c hc)).2
end HD
namespace Pf
open PySem L2 L3
set_option genInjectivity false in
set_option genSizeOf false in
structure Ad where
 jN:Addr
 jd:FuncData
 lJ:Addr
 jO:FuncData
 je:Addr
 iG:FuncData
 nK:Addr
 lK:FuncData
 Bu:Addr
 x8:FuncData
 x9:Addr
 ud:FuncData
 Bv:Addr
 ya:FuncData
 jf:Addr
 iH:FuncData
 gD:Addr
 fT:FuncData
 lM:Addr
 jP:FuncData
 yb:Addr
 ue:FuncData
 Bw:Addr
 yc:FuncData
 uf:Addr
 qg:FuncData
 lN:Addr
 jQ:FuncData
 nL:Addr
 lP:FuncData
 Bx:Addr
 yd:FuncData
 ug:Addr
 qh:FuncData
 fW:Addr
 fk:FuncData
 iI:Addr
 gE:FuncData
 qi:Addr
 nM:FuncData
 gF:Addr
 fX:FuncData
 jR:Addr
 jg:FuncData
 oS:Addr
 mH:FuncData
 fY:Addr
 fm:FuncData
 jS:Addr
 jh:FuncData
 ji:Addr
 iJ:FuncData
 jj:Addr
 iK:FuncData
 jk:Addr
 iL:FuncData
 dH:Addr
 dh:FuncData
 Hz:Addr
 By:FuncData
 gw:Addr
 uh:Addr
 HA:Addr
 cg:Addr
 wc:Addr
 CU:Addr
 we:Addr
 rL:Addr
 um:FuncData
structure Txt(K:PySem.W.Frag)(mg:Str->Option Value)(t:Ad):Prop where
 bN:jC K "_law_given" "_law_given" jD t.jN t.jd
 cG:mg "_law_given" =some (.ref t.jN)
 iY:jC K "_law_spot" "_law_spot" ku t.lJ t.jO
 qK:mg "_law_spot" =some (.ref t.lJ)
 jl:jC K "_law_ground" "_law_ground" iZ t.je t.iG
 uR:mg "_law_ground" =some (.ref t.je)
 nN:jC K "_law_new" "_law_new" m8 t.nK t.lK
 BA:mg "_law_new" =some (.ref t.nK)
 uo:jC K "sign" "sign" Am t.Bu t.x8
 BB:mg "sign" =some (.ref t.Bu)
 jT:jC K "twice" "twice" wA t.x9 t.ud
 oU:mg "twice" =some (.ref t.x9)
 jU:jC K "turn" "turn" An t.Bv t.ya
 nO:mg "turn" =some (.ref t.Bv)
 dZ:jC K "triangle_of" "triangle_of" i0 t.jf t.iH
 jm:mg "triangle_of" =some (.ref t.jf)
 gG:jC K "all_triangles" "all_triangles" gB t.gD t.fT
 qV:mg "all_triangles" =some (.ref t.gD)
 lQ:jC K "ring_area" "ring_area" kB t.lM t.jP
 zN:mg "ring_area" =some (.ref t.lM)
 oV:jC K "apart" "apart" wB t.yb t.ue
 ye:mg "apart" =some (.ref t.yb)
 BC:jC K "ring" "ring" Ao t.Bw t.yc
 NF:mg "ring" =some (.ref t.Bw)
 oW:jC K "spoils" "spoils" rM t.uf t.qg
 zO:mg "spoils" =some (.ref t.uf)
 lR:jC K "is_spoilt" "is_spoilt" kC t.lN t.jQ
 zP:mg "is_spoilt" =some (.ref t.lN)
 nP:jC K "by_rings" "by_rings" jE t.nL t.lP
 BD:mg "by_rings" =some (.ref t.nL)
 yf:jC K "back" "back" Aq t.Bx t.yd
 HB:mg "back" =some (.ref t.Bx)
 oX:jC K "rounds" "rounds" rN t.ug t.qh
 zQ:mg "rounds" =some (.ref t.ug)
 fZ:jC K "directed_sides" "directed_sides" cQ t.fW t.fk
 qj:mg "directed_sides" =some (.ref t.fW)
 fy:jC K "without_bays" "without_bays" gY t.iI t.gE
 lS:mg "without_bays" =some (.ref t.iI)
 qk:jC K "outline" "outline" pA t.qi t.nM
 D9:mg "outline" =some (.ref t.qi)
 gH:jC K "outline_sides" "outline_sides" gC t.gF t.fX
 qW:mg "outline_sides" =some (.ref t.gF)
 jV:jC K "seen_sides" "seen_sides" eU t.jR t.jg
 yg:mg "seen_sides" =some (.ref t.jR)
 lT:jC K "put_in" "put_in" gZ t.oS t.mH
 zR:mg "put_in" =some (.ref t.oS)
 cY:jC K "_law_triangles" "_law_triangles" fL t.fY t.fm
 gb:mg "_law_triangles" =some (.ref t.fY)
 c7:jC K "_law_twice" "_law_twice" jF t.jS t.jh
 fB:mg "_law_twice" =some (.ref t.jS)
 jn:jC K "_law_within" "_law_within" i6 t.ji t.iJ
 uS:mg "_law_within" =some (.ref t.ji)
 gi:jC K "_law_spoils" "_law_spoils" i7 t.jj t.iK
 m5:mg "_law_spoils" =some (.ref t.jj)
 gj:jC K "_law_is_net" "_law_is_net" c9 t.jk t.iL
 m6:mg "_law_is_net" =some (.ref t.jk)
 dI:jC K "_law_twice_refused" "_law_twice_refused" dD t.dH t.dh
 lU:mg "_law_twice_refused" =some (.ref t.dH)
 Li:jC K "law" "law" u7 t.Hz t.By
 VU:mg "law" =some (.ref t.Hz)
 iM:mg "len" =none
 oY:mg "range" =none
 dR:mg "sorted" =none
 gQ:mg "list" =none
 zS:mg "reversed" =none
 NG:mg "zip" =none
 aY:mg "isinstance" =none
 uq:mg "tuple" =none
 CV:mg "bool" =none
 NH:mg "min" =none
 uT:mg "ValueError" =none
 yh:mg "NearError" =some (.ref t.gw)
 zT:mg "NoNumber" =some (.ref t.uh)
 Kc:mg "Flat" =some (.ref t.HA)
 zU:mg "Twice" =some (.ref t.cg)
 BE:mg "NoPlace" =some (.ref t.wc)
 HC:mg "Stiff" =some (.ref t.CU)
 BF:mg "Crossed" =some (.ref t.we)
 jW:mL.XC K t.cg
 yi:XV K t.cg
 zV:jC K "__init__" "Twice.__init__" jr t.rL t.um
 HE:PySem.W.findIn K (.ref t.cg) "__init__" =some (some (.ref t.rL))
 HF:PySem.W.isFn K (.ref t.rL)=true
 zW:PySem.W.findIn K (.ref t.cg) "place" =some none
 Yi:PySem.W.kitOne K (.ref t.cg) (.type "ValueError")=some true
 tN:mL.ua K t.gw=true
 sN:PySem.W.subIn K (.ref t.gw) (.type "BaseException")=some true
 sR:PySem.W.subIn K (.ref t.cg) (.ref t.gw)=some true
 sS:PySem.W.subIn K (.ref t.cg) (.ref t.cg)=some true
 Kd:PySem.W.kitOne K (.ref t.cg) (.ref t.gw)=some true
 zX:PySem.W.kitOne K (.ref t.cg) (.ref t.uh)=some false
 Ke:PySem.W.kitOne K (.ref t.cg) (.ref t.HA)=some false
 HG:PySem.W.kitOne K (.ref t.cg) (.ref t.cg)=some true
 BG:PySem.W.kitOne K (.ref t.cg) (.ref t.wc)=some false
 HH:PySem.W.kitOne K (.ref t.cg) (.ref t.CU)=some false
 BH:PySem.W.kitOne K (.ref t.cg) (.ref t.we)=some false
theorem Ea:aO ["self","place"] ["self","place"] (au jr):=⟨rfl,rfl,rfl,by decide +kernel,rfl,by decide +kernel,by decide +kernel⟩
theorem m7:aO ["_law_script","_law_k","_law_more"] ["_law_script","_law_k"] (au jD):=⟨rfl,rfl,rfl,by decide +kernel,rfl,by decide +kernel,by decide +kernel⟩
theorem fE:aO ["_law_head","_law_one","_law_two","_law_kind","_law_right","_law_high","_law_size"] ["_law_head","_law_one","_law_two"] (au ku):=⟨rfl,rfl,rfl,by decide +kernel,rfl,by decide +kernel,by decide +kernel⟩
theorem dJ:aO ["_law_script","_law_most","_law_head","_law_found","_law_k","_law_spot_here"] ["_law_script","_law_most"] (au iZ):=⟨rfl,rfl,rfl,by decide +kernel,rfl,by decide +kernel,by decide +kernel⟩
theorem gA:aO ["_law_places","_law_head","_law_how","_law_one","_law_two","_law_spot_here","_law_a","_law_b","_law_c"] ["_law_places","_law_head","_law_how","_law_one","_law_two"] (au m8):=⟨rfl,rfl,rfl,by decide +kernel,rfl,by decide +kernel,by decide +kernel⟩
theorem Kf:aO ["number"] ["number"] (au Am):=⟨rfl,rfl,rfl,by decide +kernel,rfl,by decide +kernel,by decide +kernel⟩
theorem HJ:aO ["a","b","c"] ["a","b","c"] (au wA):=⟨rfl,rfl,rfl,by decide +kernel,rfl,by decide +kernel,by decide +kernel⟩
theorem Kg:aO ["a","b","c"] ["a","b","c"] (au An):=⟨rfl,rfl,rfl,by decide +kernel,rfl,by decide +kernel,by decide +kernel⟩
theorem lV:aO ["a","b","c","three"] ["a","b","c"] (au i0):=⟨rfl,rfl,rfl,by decide +kernel,rfl,by decide +kernel,by decide +kernel⟩
theorem cZ:aO ["places","triangles","k","m","n"] ["places"] (au gB):=⟨rfl,rfl,rfl,by decide +kernel,rfl,by decide +kernel,by decide +kernel⟩
theorem oZ:aO ["a","b","c","area"] ["a","b","c"] (au kB):=⟨rfl,rfl,rfl,by decide +kernel,rfl,by decide +kernel,by decide +kernel⟩
theorem ur:aO ["p","q","right","up"] ["p","q"] (au wB):=⟨rfl,rfl,rfl,by decide +kernel,rfl,by decide +kernel,by decide +kernel⟩
theorem yj:aO ["a","b","c","d","area","depth"] ["a","b","c","d"] (au Ao):=⟨rfl,rfl,rfl,by decide +kernel,rfl,by decide +kernel,by decide +kernel⟩
theorem ql:aO ["a","b","c","d","lies","three"] ["a","b","c","d"] (au rM):=⟨rfl,rfl,rfl,by decide +kernel,rfl,by decide +kernel,by decide +kernel⟩
theorem o5:aO ["places","t","d"] ["places","t"] (au kC):=⟨rfl,rfl,rfl,by decide +kernel,rfl,by decide +kernel,by decide +kernel⟩
theorem zY:aO ["places"] ["places"] (au jE):=⟨rfl,rfl,rfl,by decide +kernel,rfl,by decide +kernel,by decide +kernel⟩
theorem Kh:aO ["way"] ["way"] (au Aq):=⟨rfl,rfl,rfl,by decide +kernel,rfl,by decide +kernel,by decide +kernel⟩
theorem Eb:aO ["t"] ["t"] (au rN):=⟨rfl,rfl,rfl,by decide +kernel,rfl,by decide +kernel,by decide +kernel⟩
theorem fF:aO ["cover","ways","t"] ["cover"] (au cQ):=⟨rfl,rfl,rfl,by decide +kernel,rfl,by decide +kernel,by decide +kernel⟩
theorem gI:aO ["line","chain","p"] ["line"] (au gY):=⟨rfl,rfl,rfl,by decide +kernel,rfl,by decide +kernel,by decide +kernel⟩
theorem jX:aO ["places","line","there","home"] ["places"] (au pA):=⟨rfl,rfl,rfl,by decide +kernel,rfl,by decide +kernel,by decide +kernel⟩
theorem jB:aO ["places","border"] ["places"] (au gC):=⟨rfl,rfl,rfl,by decide +kernel,rfl,by decide +kernel,by decide +kernel⟩
theorem jo:aO ["places","fallen","p","seen","ways"] ["places","fallen","p"] (au eU):=⟨rfl,rfl,rfl,by decide +kernel,rfl,by decide +kernel,by decide +kernel⟩
theorem gX:aO ["places","net","p","fallen","ways","come","stay"] ["places","net","p"] (au gZ):=⟨rfl,rfl,rfl,by decide +kernel,rfl,by decide +kernel,by decide +kernel⟩
theorem fG:aO ["_law_found","_law_places","_law_t","_law_corner"] ["_law_found","_law_places"] (au fL):=⟨rfl,rfl,rfl,by decide +kernel,rfl,by decide +kernel,by decide +kernel⟩
theorem uU:aO ["_law_a","_law_b","_law_c"] ["_law_a","_law_b","_law_c"] (au jF):=⟨rfl,rfl,rfl,by decide +kernel,rfl,by decide +kernel,by decide +kernel⟩
theorem bP:aO ["_law_a","_law_b","_law_c","_law_d","_law_found","_law_one","_law_two","_law_far","_law_right","_law_high"] ["_law_a","_law_b","_law_c","_law_d"] (au i6):=⟨rfl,rfl,rfl,by decide +kernel,rfl,by decide +kernel,by decide +kernel⟩
theorem dM:aO ["_law_triangle","_law_d","_law_a","_law_b","_law_c","_law_depth"] ["_law_triangle","_law_d"] (au i7):=⟨rfl,rfl,rfl,by decide +kernel,rfl,by decide +kernel,by decide +kernel⟩
theorem bQ:aO ["_law_places","_law_found","_law_sides","_law_a","_law_b","_law_c","_law_side"] ["_law_places","_law_found"] (au c9):=⟨rfl,rfl,rfl,by decide +kernel,rfl,by decide +kernel,by decide +kernel⟩
theorem bD:aO ["_law_places","_law_net","_law_p","_law_found","e","_law_others"] ["_law_places","_law_net","_law_p"] (au dD):=⟨rfl,rfl,rfl,by decide +kernel,rfl,by decide +kernel,by decide +kernel⟩
theorem iN:aO ["_law_script","_law_places","_law_p","_law_net","_law_handed","_law_found","_law_fallen","_law_come","_law_behind","_law_every","_law_kept"] ["_law_script"] (au u7):=⟨rfl,rfl,rfl,by decide +kernel,rfl,by decide +kernel,by decide +kernel⟩
section
variable{P:Program}{w:World}{K:PySem.W.Frag}{mg:Str->Option Value}{base:Heap}{t:Ad}
theorem Ec(T:Txt K mg t):Binds K t.um ["self","place"] []:=T.zV.binds λ_ _ _ _ _ _ us hl=>match us,hl with|[_,_],_=>rfl
theorem BI(T:Txt K mg t):cz P w K mg base gJ 1 t.rL t.um ["self","place"] (RE t.cg "place"):=by
 refine T.zV.ok Ea (λvs H Q E h=>by obtain⟨_,_,_,rfl,_⟩:=h;rfl) λcdv A outer s H vs Q E hr h=>?_
 obtain⟨x,a,y,rfl,hx,q⟩:=h
 exact⟨_,BV (J1 (pv 0) (pv 1) rfl),⟨y,rfl,V.ref x,rfl,x,_,_,rfl,hx,T.yi,Ay.OJ T.zW,q⟩⟩
theorem cu(T:Txt K mg t):Binds K t.jd ["_law_script","_law_k"] []:=T.bN.binds λ_ _ _ _ _ _ us hl=>match us,hl with|[_,_],_=>rfl
def yk:wK:=λds Q=>∃(ns:List Int) (k:Int),ds=[.Dn (ns.map L3.D.int),.int k]/\ns.length<=63/\0<=k/\k<=1000/\∀z:Int,Q (.int z)
theorem cy(T:Txt K mg t):cz P w K mg base gJ 1 t.jN t.jd ["_law_script","_law_k"] (vt K yk):=by
 refine AM T.bN m7 (λds Q h=>by(first|(obtain⟨_,rfl,_⟩:=h;rfl)|(obtain⟨_,_,rfl,_⟩:=h;rfl)|(obtain⟨_,_,_,rfl,_⟩:=h;rfl)|(obtain⟨_,_,_,_,rfl,_⟩:=h;rfl)|(obtain⟨_,_,_,_,_,rfl,_⟩:=h;rfl)|(obtain⟨_,_,_,_,_,_,rfl,_⟩:=h;rfl)|(obtain⟨_,_,_,_,_,_,_,rfl,_⟩:=h;rfl))) (λcdv A outer s H hr=>?_)
 have hu:=hr.units
 refine⟨_,(av (cI (aU (nY hu) (af 1) (bS kN (by rfl) T.iM cV (aa (af 0) ak)) (aI _)) (aB (aJ (aD (af 0) (af 1)))) bA)
  (av (bx (i:=2) m7.nd rfl (Or.inl rfl) (aq AV (aq AV (aq cA (af 1) ai) (aq cA (af 1) ai)) ai))
  (aB (aJ (SQ (aU (Fv hu) (af 0) (cK ak) (aI _)) (af 2) (aq cA (af 2) (aq AV (aD (af 0) (aq cT (af 1) (bS kN (by rfl) T.iM cV (aa (af 0) ak)))) (aq cA (af 1) ai)))))))),λds Q h=>?_⟩
 obtain⟨ns,k,rfl,hlen,hk,hk2,h⟩:=h
 have sk:Sm 11 k:=by
  show k.natAbs<2 ^ 11
  omega
 walk_at "rd"
 refine⟨_,_,rfl,.inr (.inl rfl),?_⟩
 walk_at "rd"
 refine dU (λc=>?_) (λc=>?_)
 ·have c:k<((ns.map L3.D.int).length:Int):=of_decide_eq_true c
  rw[aas]at c
  obtain⟨z,_,hz⟩:=sW hk c
  walk_at "rd"
  exact⟨_,k,.int z,.inr (.inl rfl),rfl,hz,h z⟩
 ·walk_at "rd"
  intro p hp
  refine⟨_,_,.inl rfl,.of ah,AW ns,rfl,?_⟩
  walk_at "rd"
  refine dU (λc=>?_) (λc=>?_)
  ·walk_at "rd"
   exact h _
  ·have hne:ns≠[]:=λz=>c (by rw[z];rfl)
   have hpos:0<ns.length:=acH.mpr hne
   walk_at "rd"
   refine⟨_,_,rfl,.inr (.inl rfl),?_⟩
   walk_at "rd"
   refine⟨by rw[aas];omega,?_⟩
   rw[aas]
   obtain⟨z,_,hz⟩:=sW (ns:=ns) (k:=k % (ns.length:Int)) (abX _ (by omega)) (abM _ (by omega))
   refine⟨_,_,.int z,.inr (.inl rfl),rfl,hz,?_⟩
   walk_at "rd"
   refine⟨Or.inr (Or.inr (show -(2 ^ 64)<k+5/\k+5<2 ^ 64 from⟨by omega,by omega⟩)),?_⟩
   walk_at "rd"
   exact h _
theorem o6(T:Txt K mg t):Binds K t.jO ["_law_head","_law_one","_law_two"] []:=T.iY.binds λ_ _ _ _ _ _ us hl=>match us,hl with|[_,_,_],_=>rfl
def zZ:wK:=λds Q=>∃h o t:Int,ds=[.int h,.int o,.int t]/\∀p:Pl,p.Ok 134->Q p.d
theorem o7(T:Txt K mg t):cz P w K mg base gJ 1 t.lJ t.jO ["_law_head","_law_one","_law_two"] (vt K zZ):=by
 refine AM T.iY fE (λds Q h=>by(first|(obtain⟨_,rfl,_⟩:=h;rfl)|(obtain⟨_,_,rfl,_⟩:=h;rfl)|(obtain⟨_,_,_,rfl,_⟩:=h;rfl)|(obtain⟨_,_,_,_,rfl,_⟩:=h;rfl)|(obtain⟨_,_,_,_,_,rfl,_⟩:=h;rfl)|(obtain⟨_,_,_,_,_,_,rfl,_⟩:=h;rfl)|(obtain⟨_,_,_,_,_,_,_,rfl,_⟩:=h;rfl))) (λcdv A outer s H hr=>?_)
 have hu:=hr.units
 refine⟨_,(av (bx (i:=3) fE.nd rfl (Or.inl rfl) (aq cT (af 0) ai))
  (av (cI (aU (kg hu) (af 3) ai (aI _)) (aB (aJ (bR (aa (aq cT (af 1) ai) (aa (aq cT (af 2) ai) ak))))) bA)
  (av (cI (aU (kg hu) (af 3) ai (aI _)) (aB (aJ (bR (aa (aq cA (aq cT (af 1) ai) (aq mU ai ai)) (aa (aq cR (aq cT (af 2) ai) (aq bW ai (aq mU ai ai))) ak))))) bA)
  (av (cI (aU (kg hu) (af 3) ai (aI _)) (av (bx (i:=4) fE.nd rfl (Or.inl rfl) (aD (cK (aa ai (aa ai (aa ai (aa ai (aa (eX ai) (aa (eX ai) (aa (eX ai) (aa (eX ai) (aa (eX ai) (aa ai (aa ai (aa ai (aa ai ak)))))))))))))) (aq cT (af 1) ai)))
  (av (bx (i:=5) fE.nd rfl (Or.inl rfl) (aD (cK (aa ai (aa ai (aa ai (aa ai (aa ai (aa ai (aa ai (aa (eX ai) (aa (eX ai) (aa (eX ai) (aa (eX ai) (aa (eX ai) (aa ai ak)))))))))))))) (aq cT (af 1) ai)))
  (av (bx (i:=6) fE.nd rfl (Or.inl rfl) (aq cA ai (aq cT (aq i9 (af 0) ai) ai)))
  (aB (aJ (bR (aa (aq cR (aq bW (af 4) (af 6)) (aq cT (aq i9 (af 0) ai) ai)) (aa (aq cA (aq bW (af 5) (af 6)) (aq cT (aq i9 (af 0) ai) ai)) ak)))))))) bA)
  (av (cI (aU (kg hu) (af 3) ai (aI _)) (aB (aJ (bR (aa (aq cR (aq cT (af 1) ai) ai) (aa (aq cA (aq bW ai (aq cT (af 1) ai)) (aD (cK (aa ai (aa ai (aa ai (aa ai (aa (eX ai) ak)))))) (aq cT (af 2) ai))) ak))))) bA)
  (av (cI (aU (kg hu) (af 3) ai (aI _)) (aB (aJ (bR (aa (aq cT (af 1) ai) (aa (aq cT (af 2) ai) ak))))) bA)
  (aB (aJ (bR (aa (aq cR (aq cT (af 1) (aq cA (aq bW ai (aq mU ai ai)) ai)) (aq mU ai ai)) (aa (aq cR (aq cT (af 2) (aq cA (aq bW ai (aq mU ai ai)) ai)) (aq mU ai ai)) ak))))))))))),λds Q h=>?_⟩
 obtain⟨h0,o,t,rfl,h⟩:=h
 walk_at "rd"
 refine dU (λ_=>?_) (λ_=>?_)
 ·walk_at "rd"
  exact h ⟨_,_⟩ ⟨by walk_at "smle",by walk_at "smle"⟩
 walk_at "rd"
 refine dU (λ_=>?_) (λ_=>?_)
 ·walk_at "rd"
  exact h ⟨_,_⟩ ⟨by walk_at "smle",by walk_at "smle"⟩
 walk_at "rd"
 refine dU (λ_=>?_) (λ_=>?_)
 ·walk_at "rd"
  intro p hp
  walk_at "rd"
  obtain⟨z1,m1,e1⟩:=sW (ns:=P7) (k:=o % 13) (abX _ (by decide)) (abM _ (by decide))
  refine⟨_,_,_,.inr (.inr ⟨p,rfl,ah⟩),rfl,e1,?_⟩
  walk_at "rd"
  intro q hq
  walk_at "rd"
  obtain⟨z2,m2,e2⟩:=sW (ns:=P8) (k:=o % 13) (abX _ (by decide)) (abM _ (by decide))
  refine⟨_,_,_,.inr (.inr ⟨q,rfl,ah⟩),rfl,e2,?_⟩
  have s1:Sm 3 z1:=AX (by decide) m1
  have s2:Sm 3 z2:=AX (by decide) m2
  walk_at "rd"
  exact h ⟨_,_⟩ ⟨by walk_at "smle",by walk_at "smle"⟩
 walk_at "rd"
 refine dU (λ_=>?_) (λ_=>?_)
 ·walk_at "rd"
  intro p hp
  walk_at "rd"
  obtain⟨z1,m1,e1⟩:=sW (ns:=[0,0,0,1, -1]) (k:=t % 5) (abX _ (by decide)) (abM _ (by decide))
  refine⟨_,_,_,.inr (.inr ⟨p,rfl,ah⟩),rfl,e1,?_⟩
  have s1:Sm 3 z1:=AX (ns:=[0,0,0,1, -1]) (by decide) m1
  walk_at "rd"
  exact h ⟨_,_⟩ ⟨by walk_at "smle",by walk_at "smle"⟩
 walk_at "rd"
 refine dU (λ_=>?_) (λ_=>?_)
 ·walk_at "rd"
  exact h ⟨_,_⟩ ⟨by walk_at "smle",by walk_at "smle"⟩
 walk_at "rd"
 exact h ⟨_,_⟩ ⟨by walk_at "smle",by walk_at "smle"⟩
theorem uu(T:Txt K mg t):Binds K t.iG ["_law_script","_law_most"] []:=T.jl.binds λ_ _ _ _ _ _ us hl=>match us,hl with|[_,_],_=>rfl
def uV:wM:=λds M Q=>∃ns:List Int,ds=[.Dn (ns.map L3.D.int),.int 7]/\ns.length<=63/\∀(p:Addr) (ps:List Pl),M p=none->ps.Nodup->(∀q∈ps,q.Ok 137)->ps.length<=7->Q (.ref p) (ay M p (.lst (ps.map Pl.d)))
theorem uw(T:Txt K mg t):cz P w K mg base gJ 2 t.je t.iG ["_law_script","_law_most"] (yN K uV):=by
 refine AN T.jl dJ (λds M Q h=>by(first|(obtain⟨_,rfl,_⟩:=h;rfl)|(obtain⟨_,_,rfl,_⟩:=h;rfl)|(obtain⟨_,_,_,rfl,_⟩:=h;rfl)|(obtain⟨_,_,_,_,rfl,_⟩:=h;rfl)|(obtain⟨_,_,_,_,_,rfl,_⟩:=h;rfl)|(obtain⟨_,_,_,_,_,_,rfl,_⟩:=h;rfl)|(obtain⟨_,_,_,_,_,_,_,rfl,_⟩:=h;rfl))) (λcdv A outer s H hr=>?_)
 have hu:=hr.units
 refine⟨_,(av (bx (i:=2) dJ.nd rfl (Or.inl rfl) (aG (cy T) (hr.mono (by decide)) (by rfl) T.cG T.bN.kp (cu T) (aa (af 0) (aa ai ak))))
  (av (bx (i:=3) dJ.nd rfl (Or.inl rfl) (cK ak))
  (av (wO PassesOwn.never rfl (by rfl) T.oY (aa (aq cT (aG (cy T) (hr.mono (by decide)) (by rfl) T.cG T.bN.kp (cu T) (aa (af 0) (aa ai ak))) (aq cA (af 1) ai)) ak) (bO (i:=4) dJ.nd rfl (Or.inl rfl)) (av (bx (i:=5) dJ.nd rfl (Or.inl rfl) (aG (o7 T) (hr.mono (by decide)) (by rfl) T.qK T.iY.kp (o6 T) (aa (af 2) (aa (aG (cy T) (hr.mono (by decide)) (by rfl) T.cG T.bN.kp (cu T) (aa (af 0) (aa (aq cA ai (aq bW ai (af 4))) ak))) (aa (aG (cy T) (hr.mono (by decide)) (by rfl) T.cG T.bN.kp (cu T) (aa (af 0) (aa (aq cA ai (aq bW ai (af 4))) ak))) ak)))))
  (aB (cI (aU (l9 hu) (bR (aa (aq bW ai (aD (af 5) ai)) (aa (aq bW ai (aD (af 5) ai)) ak))) (af 3) (by with_unfolding_all rfl)) (aB (kO (vv (af 3) (bR (aa (aq bW ai (aD (af 5) ai)) (aa (aq bW ai (aD (af 5) ai)) ak))) (rX PySem.F.plainAttrs_list PySem.F.slot_list_append PySem.F.type_list_append fM (cH.dn (af 3)) (iT (cH.dn (bR (aa (aq bW ai (aD (af 5) ai)) (aa (aq bW ai (aD (af 5) ai)) ak)))) kG))))) bA))))
  (aB (aJ (af 3)))))),λds M Q h=>?_⟩
 obtain⟨ns,rfl,hlen,h⟩:=h
 walk_at "rd"
 refine⟨hlen,by decide,by decide,λhd=>?_⟩
 walk_at "rd"
 intro p hp
 walk_at "rd"
 refine⟨hlen,by decide,by decide,λnm=>?_⟩
 walk_at "rd"
 have hm0:0<=nm % (7+1:Int):=abX _ (by decide)
 have ZL:nm % (7+1:Int)<8:=abM _ (by decide)
 refine⟨by dsimp only;omega,by dsimp only;omega,?_⟩
 refine cJ (λi ρ M'=>∃(ps:List Pl) (y1 y2:Option L3.D),ρ=[some (.Dn (ns.map L3.D.int)),some (.int 7),some (.int hd),some (.ref p),y1,y2]/\ps.length<=i/\ps.Nodup/\(∀q∈ps,q.Ok 137)/\M'=ay M p (.lst (ps.map Pl.d))) _ ?_ ?_ ⟨[],_,_,rfl,aaz _,acJ,(λq hq=>by cases hq),rfl⟩
 ·rintro i x ρ M' N hx ⟨ps,y1,y2,rfl,hl,nd,ho,rfl⟩ hN
  obtain⟨hi,rfl⟩:=mh hx
  have hi:i<8:=by dsimp only at hi;omega
  have si:Sm 10 ((i:Nat):Int):=by
   show i<2 ^ 10
   omega
  refine⟨trivial,?_⟩
  walk_at "rd"
  refine⟨hlen,by dsimp only;omega,by dsimp only;omega,λz1=>?_⟩
  walk_at "rd"
  refine⟨hlen,by dsimp only;omega,by dsimp only;omega,λz2=>?_⟩
  refine⟨_,_,_,rfl,λq0 ym=>?_⟩
  obtain⟨q1,q2⟩:=ym
  walk_at "rd"
  have hq:(⟨6*q0.x,6*q0.y⟩:Pl).Ok 137:=⟨by show L3.Sm 137 (6*q0.x);walk_at "smle",by show L3.Sm 137 (6*q0.y);walk_at "smle"⟩
  have UJ:(L3.D.tup [.int (6*q0.x),.int (6*q0.y)])=(⟨6*q0.x,6*q0.y⟩:Pl).d:=rfl
  generalize (⟨6*q0.x,6*q0.y⟩:Pl)=q at hq UJ
  refine⟨_,.inr ⟨p,rfl,ah⟩,rfl,bC ps,?_⟩
  walk_at "rd"
  rw[if_pos rfl,UJ,gO]
  refine dU (λk=>?_) (λk=>?_)
  ·have k:q∉ps:=λz=>by rw[decide_eq_true z]at k;cases k
   walk_at "rd"
   refine⟨⟨p,_,rfl,ah⟩,?_⟩
   walk_at "rd"
   refine⟨p,_,rfl,ah,?_,?_⟩
   ·rw[aas]
    have:(1000:Nat)<sizeLine:=by decide
    omega
   ·rw[kH,UJ]
    refine hN _ _ ⟨ps++[q],_,_,rfl,by simp;omega,?_,?_,by simp⟩
    ·rw[aa1]
     exact⟨nd,by simp,λa ha b hb e=>by rw[aav.mp hb]at e;subst e;exact k ha⟩
    ·intro z hz
     rcases aaF.mp hz with hz|hz
     ·exact ho z hz
     ·rw[aav.mp hz];exact hq
  ·exact hN _ _ ⟨ps,_,_,rfl,by omega,nd,ho,rfl⟩
 ·rintro ρ M' ⟨ps,y1,y2,rfl,hl,nd,ho,rfl⟩
  refine⟨trivial,?_⟩
  walk_at "rd"
  refine bM.mk ⟨_,Le.refl _,h p ps hp nd ho ?_⟩
  simp at hl
  omega
theorem Aa(T:Txt K mg t):Binds K t.lK ["_law_places","_law_head","_law_how","_law_one","_law_two"] []:=T.nN.binds λ_ _ _ _ _ _ us hl=>match us,hl with|[_,_,_,_,_],_=>rfl
theorem Km{ps:List Pl}{k:Int}(h0:0<=k)(h1:k<ps.length):∃p:Pl,p∈ps/\rW (ps.map Pl.d) k=some p.d:=by
 obtain⟨j,rfl⟩:∃j:Nat,k=(j:Int):=⟨k.toNat,by omega⟩
 have hlt:j<ps.length:=by omega
 refine⟨ps[j],ac4 hlt,eV ?_⟩
 rw[aa0,aau hlt]
 rfl
theorem yo{x d:Int}{m n:Nat}(hd:0<d)(h:L3.Sm m x)(l:m<=n):L3.Sm n (x / d):=by
 have:(x / d).natAbs<=x.natAbs:=by
  rcases ade x 0 with k|k
  ·have h1:x / d<0:=Int.ediv_neg_of_neg_of_pos k hd
   have h2:x<=x / d:=by
    apply Int.le_ediv_of_mul_le hd
    have h5:=abP (show(1:Int)<=d by omega) (show(0:Int)<= -x by omega)
    rw[acN,acj]at h5
    omega
   omega
  ·have h1:0<=x / d:=Int.ediv_nonneg k (by omega)
   have h2:x / d<=x:=Int.ediv_le_self _ k
   omega
 exact(h.E7 this).le l
theorem Ed(ps:List Pl):bL (ps.map Pl.d) []=(ps.map Pl.d).isEmpty:=by cases ps<;>rfl
def BJ:wM:=λds M Q=>∃(l:Addr) (ps:List Pl) (hd how o t:Int),ds=[.ref l,.int hd,.int how,.int o,.int t]/\M l=some (.lst (ps.map Pl.d))/\(∀q∈ps,q.Ok 137)/\ps.length<=7/\∀p:Pl,p.Ok 140->Q p.d M
theorem Ab(T:Txt K mg t):cz P w K mg base gJ 2 t.nK t.lK ["_law_places","_law_head","_law_how","_law_one","_law_two"] (yN K BJ):=by
 refine AN T.nN gA (λds M Q h=>by(first|(obtain⟨_,rfl,_⟩:=h;rfl)|(obtain⟨_,_,rfl,_⟩:=h;rfl)|(obtain⟨_,_,_,rfl,_⟩:=h;rfl)|(obtain⟨_,_,_,_,rfl,_⟩:=h;rfl)|(obtain⟨_,_,_,_,_,rfl,_⟩:=h;rfl)|(obtain⟨_,_,_,_,_,_,rfl,_⟩:=h;rfl)|(obtain⟨_,_,_,_,_,_,_,rfl,_⟩:=h;rfl))) (λcdv A outer s H hr=>?_)
 have hu:=hr.units
 refine⟨_,(av (bx (i:=5) gA.nd rfl (Or.inl rfl) (aG (o7 T) (hr.mono (by decide)) (by rfl) T.qK T.iY.kp (o6 T) (aa (af 1) (aa (af 3) (aa (af 4) ak)))))
  (av (cI (uF.pt (qP (aU (Fv hu) (af 0) (cK ak) (aI _)) (mT (aU (kg hu) (af 2) ai (aI _))))) (aB (aJ (bR (aa (aq cR (aq cA (aq bW ai (aD (af 5) ai)) (aq cT (aq i9 (af 3) ai) ai)) ai) (aa (aq cR (aq cA (aq bW ai (aD (af 5) ai)) (aq cT (aq i9 (af 4) ai) ai)) ai) ak))))) bA)
  (av (bx (i:=6) gA.nd rfl (Or.inl rfl) (aD (af 0) (aq cT (af 3) (bS kN (by rfl) T.iM cV (aa (af 0) ak)))))
  (av (bx (i:=7) gA.nd rfl (Or.inl rfl) (aD (af 0) (aq cT (af 4) (bS kN (by rfl) T.iM cV (aa (af 0) ak)))))
  (av (bx (i:=8) gA.nd rfl (Or.inl rfl) (aD (af 0) (aq cT (aq i9 (aq cA (af 3) (af 4)) ai) (bS kN (by rfl) T.iM cV (aa (af 0) ak)))))
  (av (cI (aU (kg hu) (af 2) ai (aI _)) (aB (aJ (bR (aa (aq i9 (aq cA (aD (af 6) ai) (aD (af 7) ai)) ai) (aa (aq i9 (aq cA (aD (af 6) ai) (aD (af 7) ai)) ai) ak))))) bA)
  (av (cI (aU (kg hu) (af 2) ai (aI _)) (aB (aJ (bR (aa (aq i9 (aq cA (aq cA (aD (af 6) ai) (aD (af 7) ai)) (aD (af 8) ai)) ai) (aa (aq i9 (aq cA (aq cA (aD (af 6) ai) (aD (af 7) ai)) (aD (af 8) ai)) ai) ak))))) bA)
  (av (cI (aU (kg hu) (af 2) ai (aI _)) (aB (aJ (bR (aa (aq cR (aq bW ai (aD (af 6) ai)) (aD (af 7) ai)) (aa (aq cR (aq bW ai (aD (af 6) ai)) (aD (af 7) ai)) ak))))) bA)
  (av (cI (aU (kg hu) (af 2) ai (aI _)) (aB (aJ (bR (aa (aq cR (aq cA (aD (af 6) ai) (aD (af 7) ai)) (aD (af 8) ai)) (aa (aq cR (aq cA (aD (af 6) ai) (aD (af 7) ai)) (aD (af 8) ai)) ak))))) bA)
  (av (cI (aU (kg hu) (af 2) ai (aI _)) (aB (aJ (af 6))) bA)
  (aB (aJ (bR (aa (aq cR (aq cT (af 3) (aq cA (aq bW ai (aq mU ai ai)) ai)) (aq mU ai ai)) (aa (aq cR (aq cT (af 4) (aq cA (aq bW ai (aq mU ai ai)) ai)) (aq mU ai ai)) ak))))))))))))))),λds M Q h=>?_⟩
 obtain⟨l,ps,hd,how,o,t,rfl,hM,ho,lp,h⟩:=h
 have sl:(1000:Nat)<sizeLine:=by decide
 walk_at "rd"
 intro q0 ym
 obtain⟨q1,q2⟩:=ym
 walk_at "rd"
 intro e he
 have le:=Le.new (o:=MO.lst []) he
 refine⟨_,_,.of (aj hM he),.of ah,bC ps,rfl,?_⟩
 rw[Ed]
 have NI:=aj (u:=MO.lst []) hM he
 generalize ay M e (.lst [])=M1 at le NI ⊢
 by_cases es:ps=[]
 ·rw[show(ps.map Pl.d).isEmpty=true by rw[es];rfl]
  walk_at "rd"
  exact bM.mk ⟨_,le,h ⟨_,_⟩ ⟨by walk_at "smle",by walk_at "smle"⟩⟩
 rw[show(ps.map Pl.d).isEmpty=false by cases ps with|nil=>exact absurd rfl es|cons a r=>rfl]
 walk_at "rd"
 refine dU (λk=>?_) (λk=>?_)
 ·walk_at "rd"
  exact bM.mk ⟨_,le,h ⟨_,_⟩ ⟨by walk_at "smle",by walk_at "smle"⟩⟩
 have ZM:0<ps.length:=acH.mpr es
 have pick:∀z:Int,∃a,a∈ps/\rW (ps.map Pl.d) (z % (ps.length:Int))=some a.d:=λz=>Km (abX _ (by omega)) (abM _ (by omega))
 walk_at "rd"
 refine⟨_,_,rfl,.inr (.inr ⟨l,rfl,NI⟩),?_⟩
 rw[aas]
 walk_at "rd"
 obtain⟨a,ma,ea⟩:=pick o
 refine⟨_,_,_,.inr (.inr ⟨l,rfl,NI⟩),rfl,ea,?_⟩
 walk_at "rd"
 refine⟨_,_,rfl,.inr (.inr ⟨l,rfl,NI⟩),?_⟩
 rw[aas]
 walk_at "rd"
 obtain⟨b,mb,eb⟩:=pick t
 refine⟨_,_,_,.inr (.inr ⟨l,rfl,NI⟩),rfl,eb,?_⟩
 walk_at "rd"
 refine⟨_,_,rfl,.inr (.inr ⟨l,rfl,NI⟩),?_⟩
 rw[aas]
 walk_at "rd"
 obtain⟨c,mc,ec⟩:=pick ((o+t) / 2)
 refine⟨_,_,_,.inr (.inr ⟨l,rfl,NI⟩),rfl,ec,?_⟩
 obtain⟨a1,a2⟩:=ho a ma
 obtain⟨b1,b2⟩:=ho b mb
 obtain⟨c1,c2⟩:=ho c mc
 walk_at "rd"
 refine dU (λ_=>?_) (λ_=>?_)
 ·walk_at "rd"
  exact bM.mk ⟨_,le,h ⟨_,_⟩ ⟨yo (by decide) (Sm.add a1 b1) (by decide),yo (by decide) (Sm.add a2 b2) (by decide)⟩⟩
 walk_at "rd"
 refine dU (λ_=>?_) (λ_=>?_)
 ·walk_at "rd"
  exact bM.mk ⟨_,le,h ⟨_,_⟩ ⟨yo (by decide) (Sm.add (Sm.add a1 b1) c1) (by decide),yo (by decide) (Sm.add (Sm.add a2 b2) c2) (by decide)⟩⟩
 walk_at "rd"
 refine dU (λ_=>?_) (λ_=>?_)
 ·walk_at "rd"
  exact bM.mk ⟨_,le,h ⟨_,_⟩ ⟨by walk_at "smle",by walk_at "smle"⟩⟩
 walk_at "rd"
 refine dU (λ_=>?_) (λ_=>?_)
 ·walk_at "rd"
  exact bM.mk ⟨_,le,h ⟨_,_⟩ ⟨by walk_at "smle",by walk_at "smle"⟩⟩
 walk_at "rd"
 refine dU (λ_=>?_) (λ_=>?_)
 ·walk_at "rd"
  exact bM.mk ⟨_,le,h a ⟨a1.le (by decide),a2.le (by decide)⟩⟩
 walk_at "rd"
 exact bM.mk ⟨_,le,h ⟨_,_⟩ ⟨by walk_at "smle",by walk_at "smle"⟩⟩
theorem yp(T:Txt K mg t):Binds K t.x8 ["number"] []:=T.uo.binds λ_ _ _ _ _ _ us hl=>match us,hl with|[_],_=>rfl
def NJ:wK:=λds Q=>∃i:Int,ds=[.int i]/\Q (.int i.sign)
theorem yq(T:Txt K mg t):cz P w K mg base gJ 1 t.Bu t.x8 ["number"] (vt K NJ):=by
 refine AM T.uo Kf (λds Q h=>by(first|(obtain⟨_,rfl,_⟩:=h;rfl)|(obtain⟨_,_,rfl,_⟩:=h;rfl)|(obtain⟨_,_,_,rfl,_⟩:=h;rfl)|(obtain⟨_,_,_,_,rfl,_⟩:=h;rfl)|(obtain⟨_,_,_,_,_,rfl,_⟩:=h;rfl)|(obtain⟨_,_,_,_,_,_,rfl,_⟩:=h;rfl)|(obtain⟨_,_,_,_,_,_,_,rfl,_⟩:=h;rfl))) (λcdv A outer s H hr=>?_)
 have hu:=hr.units
 refine⟨_,(av (cI (aU L7 (af 0) ai (aI _)) (aB (aJ ai)) bA)
  (av (cI (aU (nY hu) (af 0) ai (aI _)) (aB (aJ (eX ai))) bA)
  (aB (aJ ai)))),λds Q h=>?_⟩
 obtain⟨i,rfl,h⟩:=h
 walk_at "rd"
 refine dU (λc=>?_) (λc=>?_)
 ·have c:0<i:=of_decide_eq_true c
  rw[aba c]at h
  exact h
 ·have c:¬0<i:=λz=>c (decide_eq_true z)
  walk_at "rd"
  refine dU (λe=>?_) (λe=>?_)
  ·have e:i<0:=of_decide_eq_true e
   rw[abH e]at h
   walk_at "rd"
   exact h
  ·have e:¬i<0:=λz=>e (decide_eq_true z)
   have z:i=0:=by omega
   subst z
   exact h
theorem lW(T:Txt K mg t):Binds K t.ud ["a","b","c"] []:=T.jT.binds λ_ _ _ _ _ _ us hl=>match us,hl with|[_,_,_],_=>rfl
def Kn:wK:=λds Q=>∃a b c:Pl,ds=[a.d,b.d,c.d]/\a.Ok 140/\b.Ok 140/\c.Ok 140/\Q (.int (tw a b c))
theorem lY(T:Txt K mg t):cz P w K mg base gJ 1 t.x9 t.ud ["a","b","c"] (vt K Kn):=by
 refine AM T.jT HJ (λds Q h=>by(first|(obtain⟨_,rfl,_⟩:=h;rfl)|(obtain⟨_,_,rfl,_⟩:=h;rfl)|(obtain⟨_,_,_,rfl,_⟩:=h;rfl)|(obtain⟨_,_,_,_,rfl,_⟩:=h;rfl)|(obtain⟨_,_,_,_,_,rfl,_⟩:=h;rfl)|(obtain⟨_,_,_,_,_,_,rfl,_⟩:=h;rfl)|(obtain⟨_,_,_,_,_,_,_,rfl,_⟩:=h;rfl))) (λcdv A outer s H hr=>?_)
 have hu:=hr.units
 refine⟨_,(aB (aJ (aq cR (aq bW (aq cR (aD (af 1) ai) (aD (af 0) ai)) (aq cR (aD (af 2) ai) (aD (af 0) ai))) (aq bW (aq cR (aD (af 1) ai) (aD (af 0) ai)) (aq cR (aD (af 2) ai) (aD (af 0) ai)))))),λds Q h=>?_⟩
 obtain⟨a,b,c,rfl,⟨a1,a2⟩,⟨b1,b2⟩,⟨c1,c2⟩,h⟩:=h
 unfold tw at h
 walk_at "rd"
 exact h
theorem jY(T:Txt K mg t):Binds K t.ya ["a","b","c"] []:=T.jU.binds λ_ _ _ _ _ _ us hl=>match us,hl with|[_,_,_],_=>rfl
def NK:wK:=λds Q=>∃a b c:Pl,ds=[a.d,b.d,c.d]/\a.Ok 140/\b.Ok 140/\c.Ok 140/\Q (.int (tw a b c).sign)
theorem jZ(T:Txt K mg t):cz P w K mg base gJ 2 t.Bv t.ya ["a","b","c"] (vt K NK):=by
 refine AM T.jU Kg (λds Q h=>by(first|(obtain⟨_,rfl,_⟩:=h;rfl)|(obtain⟨_,_,rfl,_⟩:=h;rfl)|(obtain⟨_,_,_,rfl,_⟩:=h;rfl)|(obtain⟨_,_,_,_,rfl,_⟩:=h;rfl)|(obtain⟨_,_,_,_,_,rfl,_⟩:=h;rfl)|(obtain⟨_,_,_,_,_,_,rfl,_⟩:=h;rfl)|(obtain⟨_,_,_,_,_,_,_,rfl,_⟩:=h;rfl))) (λcdv A outer s H hr=>?_)
 have hu:=hr.units
 refine⟨_,(aB (aJ (aG (yq T) (hr.mono (by decide)) (by rfl) T.BB T.uo.kp (yp T) (aa (aG (lY T) (hr.mono (by decide)) (by rfl) T.oU T.jT.kp (lW T) (aa (af 0) (aa (af 1) (aa (af 2) ak)))) ak)))),λds Q h=>?_⟩
 obtain⟨a,b,c,rfl,ha,hb,hc,h⟩:=h
 walk_at "rd"
 refine⟨ha,hb,hc,?_⟩
 walk_at "rd"
 exact h
theorem iO(T:Txt K mg t):Binds K t.iH ["a","b","c"] []:=T.dZ.binds λ_ _ _ _ _ _ us hl=>match us,hl with|[_,_,_],_=>rfl
def uW:wK:=λds Q=>∃a b c:Pl,ds=[a.d,b.d,c.d]/\a.Ok 140/\b.Ok 140/\c.Ok 140/\tw a b c≠0/\Q (tD (qE a b c))
theorem iP(T:Txt K mg t):cz P w K mg base gJ 3 t.jf t.iH ["a","b","c"] (vt K uW):=by
 refine AM T.dZ lV (λds Q h=>by(first|(obtain⟨_,rfl,_⟩:=h;rfl)|(obtain⟨_,_,rfl,_⟩:=h;rfl)|(obtain⟨_,_,_,rfl,_⟩:=h;rfl)|(obtain⟨_,_,_,_,rfl,_⟩:=h;rfl)|(obtain⟨_,_,_,_,_,rfl,_⟩:=h;rfl)|(obtain⟨_,_,_,_,_,_,rfl,_⟩:=h;rfl)|(obtain⟨_,_,_,_,_,_,_,rfl,_⟩:=h;rfl))) (λcdv A outer s H hr=>?_)
 have hu:=hr.units
 refine⟨_,(av (bx (i:=3) lV.nd rfl (Or.inl rfl) (bS sO (by rfl) T.dR bZ (aa (cK (aa (af 0) (aa (af 1) (aa (af 2) ak)))) ak)))
  (av (cI (aU (kg hu) (aG (jZ T) (hr.mono (by decide)) (by rfl) T.nO T.jU.kp (jY T) (aa (aD (af 3) ai) (aa (aD (af 3) ai) (aa (aD (af 3) ai) ak)))) ai (aI _)) (aB (aJ (bR (aa (aD (af 3) ai) (aa (aD (af 3) ai) (aa (aD (af 3) ai) ak)))))) bA)
  (aB (aJ (bR (aa (aD (af 3) ai) (aa (aD (af 3) ai) (aa (aD (af 3) ai) ak)))))))),λds Q h=>?_⟩
 obtain⟨a,b,c,rfl,ha,hb,hc,hn,h⟩:=h
 walk_at "rd"
 intro l hl
 refine⟨l,[a,b,c],rfl,ah,by show 3<64;decide,λp qs hp cB j4=>?_⟩
 obtain⟨u,v,w,rfl⟩:=om cB.length_eq
 obtain⟨ou,ov,ow⟩:=yW cB ha hb hc
 rw[AY hn cB j4]at h
 walk_at "rd"
 refine⟨_,_,_,.inr (.inr ⟨p,rfl,ah⟩),rfl,rfl,?_⟩
 walk_at "rd"
 refine⟨_,_,_,.inr (.inr ⟨p,rfl,ah⟩),rfl,rfl,?_⟩
 walk_at "rd"
 refine⟨_,_,_,.inr (.inr ⟨p,rfl,ah⟩),rfl,rfl,?_⟩
 walk_at "rd"
 refine⟨ou,ov,ow,?_⟩
 walk_at "rd"
 refine dU (λk=>?_) (λk=>?_)
 ·rw[if_pos (MJ k)]at h
  walk_at "rd"
  refine⟨_,_,_,.inr (.inr ⟨p,rfl,ah⟩),rfl,rfl,?_⟩
  walk_at "rd"
  refine⟨_,_,_,.inr (.inr ⟨p,rfl,ah⟩),rfl,rfl,?_⟩
  walk_at "rd"
  refine⟨_,_,_,.inr (.inr ⟨p,rfl,ah⟩),rfl,rfl,?_⟩
  walk_at "rd"
  exact h
 ·rw[if_neg (Jk k)]at h
  walk_at "rd"
  refine⟨_,_,_,.inr (.inr ⟨p,rfl,ah⟩),rfl,rfl,?_⟩
  walk_at "rd"
  refine⟨_,_,_,.inr (.inr ⟨p,rfl,ah⟩),rfl,rfl,?_⟩
  walk_at "rd"
  refine⟨_,_,_,.inr (.inr ⟨p,rfl,ah⟩),rfl,rfl,?_⟩
  walk_at "rd"
  exact h
theorem qm(T:Txt K mg t):Binds K t.fT ["places"] []:=T.gG.binds λ_ _ _ _ _ _ us hl=>match us,hl with|[_],_=>rfl
def qX:wM:=λds M Q=>∃(l:Addr) (ps:List Pl),ds=[.ref l]/\M l=some (.lst (ps.map Pl.d))/\(∀q∈ps,q.Ok 140)/\ps.length<=16/\∀p,M p=none->Q (.ref p) (ay M p (.lst ((T3 ps ps.length).map tD)))
theorem qo(T:Txt K mg t):cz P w K mg base gJ 4 t.gD t.fT ["places"] (yN K qX):=by
 refine AN T.gG cZ (λds M Q h=>by(first|(obtain⟨_,rfl,_⟩:=h;rfl)|(obtain⟨_,_,rfl,_⟩:=h;rfl)|(obtain⟨_,_,_,rfl,_⟩:=h;rfl)|(obtain⟨_,_,_,_,rfl,_⟩:=h;rfl)|(obtain⟨_,_,_,_,_,rfl,_⟩:=h;rfl)|(obtain⟨_,_,_,_,_,_,rfl,_⟩:=h;rfl)|(obtain⟨_,_,_,_,_,_,_,rfl,_⟩:=h;rfl))) (λcdv A outer s H hr=>?_)
 have hu:=hr.units
 refine⟨_,(av (bx (i:=1) cZ.nd rfl (Or.inl rfl) (cK ak))
  (av (wO PassesOwn.never rfl (by rfl) T.oY (aa (bS kN (by rfl) T.iM cV (aa (af 0) ak)) ak) (bO (i:=2) cZ.nd rfl (Or.inl rfl)) (aB (wO PassesOwn.never rfl (by rfl) T.oY (aa (af 2) ak) (bO (i:=3) cZ.nd rfl (Or.inl rfl)) (aB (wO PassesOwn.never rfl (by rfl) T.oY (aa (af 3) ak) (bO (i:=4) cZ.nd rfl (Or.inl rfl)) (aB (cI (aU (AJ hu) (aG (jZ T) (hr.mono (by decide)) (by rfl) T.nO T.jU.kp (jY T) (aa (aD (af 0) (af 2)) (aa (aD (af 0) (af 3)) (aa (aD (af 0) (af 4)) ak)))) ai (aI _)) (aB (kO (vv (af 1) (aG (iP T) (hr.mono (by decide)) (by rfl) T.jm T.dZ.kp (iO T) (aa (aD (af 0) (af 2)) (aa (aD (af 0) (af 3)) (aa (aD (af 0) (af 4)) ak)))) (rX PySem.F.plainAttrs_list PySem.F.slot_list_append PySem.F.type_list_append fM (cH.dn (af 1)) (iT (cH.dn (aG (iP T) (hr.mono (by decide)) (by rfl) T.jm T.dZ.kp (iO T) (aa (aD (af 0) (af 2)) (aa (aD (af 0) (af 3)) (aa (aD (af 0) (af 4)) ak))))) kG))))) bA)))))))
  (aB (aJ (af 1))))),λds M Q h=>?_⟩
 obtain⟨l,ps,rfl,hM,ho,hlen,h⟩:=h
 have og:∀i,i<ps.length->(gp ps i).Ok 140:=λi hi=>ho _ (w9 hi)
 walk_at "rd"
 intro p hp
 have hl:∀o,ay M p o l=some (.lst (ps.map Pl.d)):=λo=>aj hM hp
 walk_at "rd"
 refine⟨_,_,rfl,.inr (.inr ⟨l,rfl,hl _⟩),?_⟩
 rw[aas]
 refine⟨_,rfl,by omega,by omega,?_⟩
 refine cJ (λi ρ M'=>M'=ay M p (.lst ((T3 ps i).map tD))/\∃y1 y2 y3:Option L3.D,ρ=[some (.ref l),some (.ref p),y1,y2,y3]) _ ?_ ?_ ⟨rfl,_,_,_,rfl⟩
 ·rintro k x ρ M' N hx ⟨rfl,y1,y2,y3,rfl⟩ hN
  obtain⟨hk,rfl⟩:=mh hx
  have hk:k<ps.length:=by simpa using hk
  refine⟨trivial,?_⟩
  walk_at "rd"
  refine⟨by omega,by omega,?_⟩
  refine cJ (λi ρ M'=>M'=ay M p (.lst ((T3 ps k++T2 ps k i).map tD))/\∃y2 y3:Option L3.D,ρ=[some (.ref l),some (.ref p),some (.int (k:Int)),y2,y3]) _ ?_ ?_ ⟨by simp[T2],_,_,rfl⟩
  ·rintro m x ρ M' N2 hx ⟨rfl,y2,y3,rfl⟩ kr
   obtain⟨hm,rfl⟩:=mh hx
   have hm:m<k:=by simpa using hm
   refine⟨trivial,?_⟩
   walk_at "rd"
   refine⟨by omega,by omega,?_⟩
   refine cJ (λi ρ M'=>M'=ay M p (.lst ((T3 ps k++T2 ps k m++T1 ps k m i).map tD))/\∃y3:Option L3.D,ρ=[some (.ref l),some (.ref p),some (.int (k:Int)),some (.int (m:Int)),y3]) _ ?_ ?_ ⟨by simp[T1],_,rfl⟩
   ·rintro n x ρ M' N3 hx ⟨rfl,y3,rfl⟩ VV
    obtain⟨hn,rfl⟩:=mh hx
    have hn:n<m:=by simpa using hn
    have o1:=og k hk
    have o2:=og m (by omega)
    have o3:=og n (by omega)
    refine⟨trivial,?_⟩
    walk_at "rd"
    refine⟨_,_,_,.inr (.inr ⟨l,rfl,hl _⟩),rfl,vI hk,?_⟩
    walk_at "rd"
    refine⟨_,_,_,.inr (.inr ⟨l,rfl,hl _⟩),rfl,vI (by omega),?_⟩
    walk_at "rd"
    refine⟨_,_,_,.inr (.inr ⟨l,rfl,hl _⟩),rfl,vI (by omega),?_⟩
    walk_at "rd"
    refine⟨o1,o2,o3,?_⟩
    walk_at "rd"
    rw[AR]
    refine dU (λq=>?_) (λq=>?_)
    ·have q:tw (gp ps k) (gp ps m) (gp ps n)≠0:=λz=>of_decide_eq_true q (by rw[z];rfl)
     walk_at "rd"
     refine⟨⟨p,_,rfl,ah⟩,?_⟩
     walk_at "rd"
     refine⟨_,_,_,.inr (.inr ⟨l,rfl,hl _⟩),rfl,vI hk,?_⟩
     walk_at "rd"
     refine⟨_,_,_,.inr (.inr ⟨l,rfl,hl _⟩),rfl,vI (by omega),?_⟩
     walk_at "rd"
     refine⟨_,_,_,.inr (.inr ⟨l,rfl,hl _⟩),rfl,vI (by omega),?_⟩
     walk_at "rd"
     refine⟨o1,o2,o3,q,?_⟩
     walk_at "rd"
     refine⟨p,_,rfl,ah,?_,?_⟩
     ·rw[aas,aaA,aaA]
      have e1:=xj ps k
      have e2:=A0 ps k m
      have e3:=AZ ps k m n
      have f1:=xm (m:=k) (n:=16) (by omega)
      have f2:=Jj (m:=m) (n:=16) (by omega)
      have g1:c3 16=560:=by decide
      have g2:c2 16=120:=by decide
      have:(1000:Nat)<sizeLine:=by decide
      omega
     ·rw[kH]
      refine VV _ _ ⟨?_,_,rfl⟩
      have e:one yes (gp ps k) (gp ps m) (gp ps n)=[qE (gp ps k) (gp ps m) (gp ps n)]:=by
       unfold one
       rw[if_pos ⟨q,rfl⟩]
      rw[xh,e,<-acV,aaK (l₂:=[_])]
      rfl
    ·have q:tw (gp ps k) (gp ps m) (gp ps n)=0:=by
      apply aaq
      intro z
      apply q
      exact decide_eq_true λw=>z (Int.sign_eq_zero_iff_zero.mp w)
     refine VV _ _ ⟨?_,_,rfl⟩
     have e:one yes (gp ps k) (gp ps m) (gp ps n)=[]:=by
      unfold one
      rw[if_neg (λz=>z.1 q)]
     rw[xh,e,abf]
   ·rintro ρ M' ⟨rfl,y3,rfl⟩
    refine⟨trivial,kr _ _ ⟨?_,_,_,rfl⟩⟩
    rw[Cq,acV]
    simp
  ·rintro ρ M' ⟨rfl,y2,y3,rfl⟩
   refine⟨trivial,hN _ _ ⟨?_,_,_,_,rfl⟩⟩
   rw[Cr]
   simp
 ·rintro ρ M' ⟨rfl,y1,y2,y3,rfl⟩
  refine⟨trivial,?_⟩
  walk_at "rd"
  refine bM.mk ⟨_,Le.refl _,?_⟩
  have q:=h p hp
  simpa using q
theorem yr(T:Txt K mg t):Binds K t.jP ["a","b","c"] []:=T.lQ.binds λ_ _ _ _ _ _ us hl=>match us,hl with|[_,_,_],_=>rfl
def Ac:wK:=λds Q=>∃a b c:Pl,ds=[a.d,b.d,c.d]/\a.Ok 140/\b.Ok 140/\c.Ok 140/\tw a b c≠0/\Q (.int (tw a b c))
theorem yt(T:Txt K mg t):cz P w K mg base gJ 2 t.lM t.jP ["a","b","c"] (vt K Ac):=by
 refine AM T.lQ oZ (λds Q h=>by(first|(obtain⟨_,rfl,_⟩:=h;rfl)|(obtain⟨_,_,rfl,_⟩:=h;rfl)|(obtain⟨_,_,_,rfl,_⟩:=h;rfl)|(obtain⟨_,_,_,_,rfl,_⟩:=h;rfl)|(obtain⟨_,_,_,_,_,rfl,_⟩:=h;rfl)|(obtain⟨_,_,_,_,_,_,rfl,_⟩:=h;rfl)|(obtain⟨_,_,_,_,_,_,_,rfl,_⟩:=h;rfl))) (λcdv A outer s H hr=>?_)
 have hu:=hr.units
 refine⟨_,(av (bx (i:=3) oZ.nd rfl (Or.inl rfl) (aG (lY T) (hr.mono (by decide)) (by rfl) T.oU T.jT.kp (lW T) (aa (af 0) (aa (af 1) (aa (af 2) ak)))))
  (av (cI (aU (kg hu) (af 3) ai (aI _)) (aB Cd) bA)
  (aB (aJ (af 3))))),λds Q h=>?_⟩
 obtain⟨a,b,c,rfl,ha,hb,hc,hn,h⟩:=h
 walk_at "rd"
 refine⟨ha,hb,hc,?_⟩
 walk_at "rd"
 refine dU (λk=>?_) (λ_=>?_)
 ·exfalso
  rw[eY]at k
  exact hn (eq_of_beq k)
 walk_at "rd"
 exact h
theorem uz(T:Txt K mg t):Binds K t.ue ["p","q"] []:=T.oV.binds λ_ _ _ _ _ _ us hl=>match us,hl with|[_,_],_=>rfl
def Ko:wK:=λds Q=>∃p q:Pl,ds=[p.d,q.d]/\p.Ok 140/\q.Ok 140/\Q (.int (wQ p q))
theorem uA(T:Txt K mg t):cz P w K mg base gJ 1 t.yb t.ue ["p","q"] (vt K Ko):=by
 refine AM T.oV ur (λds Q h=>by(first|(obtain⟨_,rfl,_⟩:=h;rfl)|(obtain⟨_,_,rfl,_⟩:=h;rfl)|(obtain⟨_,_,_,rfl,_⟩:=h;rfl)|(obtain⟨_,_,_,_,rfl,_⟩:=h;rfl)|(obtain⟨_,_,_,_,_,rfl,_⟩:=h;rfl)|(obtain⟨_,_,_,_,_,_,rfl,_⟩:=h;rfl)|(obtain⟨_,_,_,_,_,_,_,rfl,_⟩:=h;rfl))) (λcdv A outer s H hr=>?_)
 have hu:=hr.units
 refine⟨_,(av (bx (i:=2) ur.nd rfl (Or.inl rfl) (aq cR (aD (af 1) ai) (aD (af 0) ai)))
  (av (bx (i:=3) ur.nd rfl (Or.inl rfl) (aq cR (aD (af 1) ai) (aD (af 0) ai)))
  (aB (aJ (aq cA (aq bW (af 2) (af 2)) (aq bW (af 3) (af 3))))))),λds Q h=>?_⟩
 obtain⟨p,q,rfl,⟨p1,p2⟩,⟨q1,q2⟩,h⟩:=h
 unfold wQ at h
 walk_at "rd"
 exact h
theorem Kp(T:Txt K mg t):Binds K t.yc ["a","b","c","d"] []:=T.BC.binds λ_ _ _ _ _ _ us hl=>match us,hl with|[_,_,_,_],_=>rfl
def NL:wK:=λds Q=>∃a b c d:Pl,ds=[a.d,b.d,c.d,d.d]/\a.Ok 140/\b.Ok 140/\c.Ok 140/\d.Ok 140/\tw a b c≠0/\Q (.int (rg a b c d))
theorem Kq(T:Txt K mg t):cz P w K mg base gJ 3 t.Bw t.yc ["a","b","c","d"] (vt K NL):=by
 refine AM T.BC yj (λds Q h=>by(first|(obtain⟨_,rfl,_⟩:=h;rfl)|(obtain⟨_,_,rfl,_⟩:=h;rfl)|(obtain⟨_,_,_,rfl,_⟩:=h;rfl)|(obtain⟨_,_,_,_,rfl,_⟩:=h;rfl)|(obtain⟨_,_,_,_,_,rfl,_⟩:=h;rfl)|(obtain⟨_,_,_,_,_,_,rfl,_⟩:=h;rfl)|(obtain⟨_,_,_,_,_,_,_,rfl,_⟩:=h;rfl))) (λcdv A outer s H hr=>?_)
 have hu:=hr.units
 refine⟨_,(av (bx (i:=4) yj.nd rfl (Or.inl rfl) (aG (yt T) (hr.mono (by decide)) (by rfl) T.zN T.lQ.kp (yr T) (aa (af 0) (aa (af 1) (aa (af 2) ak)))))
  (av (bx (i:=5) yj.nd rfl (Or.inl rfl) (aq cA (aq cA (aq bW (aG (uA T) (hr.mono (by decide)) (by rfl) T.ye T.oV.kp (uz T) (aa (af 3) (aa (af 0) ak))) (aG (lY T) (hr.mono (by decide)) (by rfl) T.oU T.jT.kp (lW T) (aa (af 3) (aa (af 1) (aa (af 2) ak))))) (aq bW (aG (uA T) (hr.mono (by decide)) (by rfl) T.ye T.oV.kp (uz T) (aa (af 3) (aa (af 1) ak))) (aG (lY T) (hr.mono (by decide)) (by rfl) T.oU T.jT.kp (lW T) (aa (af 3) (aa (af 2) (aa (af 0) ak)))))) (aq bW (aG (uA T) (hr.mono (by decide)) (by rfl) T.ye T.oV.kp (uz T) (aa (af 3) (aa (af 2) ak))) (aG (lY T) (hr.mono (by decide)) (by rfl) T.oU T.jT.kp (lW T) (aa (af 3) (aa (af 0) (aa (af 1) ak)))))))
  (aB (aJ (aq bW (aG (yq T) (hr.mono (by decide)) (by rfl) T.BB T.uo.kp (yp T) (aa (af 4) ak)) (aG (yq T) (hr.mono (by decide)) (by rfl) T.BB T.uo.kp (yp T) (aa (af 5) ak))))))),λds Q h=>?_⟩
 obtain⟨a,b,c,d,rfl,ha,hb,hc,hd,hn,h⟩:=h
 have s1:=AO hd ha
 have s2:=AO hd hb
 have s3:=AO hd hc
 have t1:=Cj hd hb hc
 have t2:=Cj hd hc ha
 have t3:=Cj hd ha hb
 walk_at "rd"
 refine⟨ha,hb,hc,hn,?_⟩
 walk_at "rd"
 refine⟨hd,ha,?_⟩
 walk_at "rd"
 refine⟨hd,hb,hc,?_⟩
 walk_at "rd"
 refine⟨hd,hb,?_⟩
 walk_at "rd"
 refine⟨hd,hc,ha,?_⟩
 walk_at "rd"
 refine⟨hd,hc,?_⟩
 walk_at "rd"
 refine⟨hd,ha,hb,?_⟩
 walk_at "rd"
 unfold rg dep at h
 exact h
theorem wg(T:Txt K mg t):Binds K t.qg ["a","b","c","d"] []:=T.oW.binds λ_ _ _ _ _ _ us hl=>match us,hl with|[_,_,_,_],_=>rfl
def HK:wK:=λds Q=>∃a b c d:Pl,ds=[a.d,b.d,c.d,d.d]/\a.Ok 140/\b.Ok 140/\c.Ok 140/\d.Ok 140/\tw a b c≠0/\Q (.bl (decide (fO a b c d)))
theorem wj(T:Txt K mg t):cz P w K mg base gJ 4 t.uf t.qg ["a","b","c","d"] (vt K HK):=by
 refine AM T.oW ql (λds Q h=>by(first|(obtain⟨_,rfl,_⟩:=h;rfl)|(obtain⟨_,_,rfl,_⟩:=h;rfl)|(obtain⟨_,_,_,rfl,_⟩:=h;rfl)|(obtain⟨_,_,_,_,rfl,_⟩:=h;rfl)|(obtain⟨_,_,_,_,_,rfl,_⟩:=h;rfl)|(obtain⟨_,_,_,_,_,_,rfl,_⟩:=h;rfl)|(obtain⟨_,_,_,_,_,_,_,rfl,_⟩:=h;rfl))) (λcdv A outer s H hr=>?_)
 have hu:=hr.units
 refine⟨_,(av (bx (i:=4) ql.nd rfl (Or.inl rfl) (aG (Kq T) (hr.mono (by decide)) (by rfl) T.NF T.BC.kp (Kp T) (aa (af 0) (aa (af 1) (aa (af 2) (aa (af 3) ak))))))
  (av (cI (aU (AJ hu) (af 4) ai (aI _)) (aB (aJ (kK (kg hu) (af 4) ai (aI _)))) bA)
  (av (cI (aU (Dp hu) (af 3) (bR (aa (af 0) (aa (af 1) (aa (af 2) ak)))) (by with_unfolding_all rfl)) (aB (aJ gM)) bA)
  (av (bx (i:=5) ql.nd rfl (Or.inl rfl) (bS sO (by rfl) T.dR bZ (aa (cK (aa (af 0) (aa (af 1) (aa (af 2) ak)))) ak)))
  (av (cI (aU (nY hu) (af 3) (aD (af 5) ai) (aI _)) (aB (aJ gM)) bA)
  (aB (aJ (kK (AJ hu) (aG (jZ T) (hr.mono (by decide)) (by rfl) T.nO T.jU.kp (jY T) (aa (aD (af 5) ai) (aa (aD (af 5) ai) (aa (af 3) ak)))) (aG (jZ T) (hr.mono (by decide)) (by rfl) T.nO T.jU.kp (jY T) (aa (aD (af 5) ai) (aa (aD (af 5) ai) (aa (aD (af 5) ai) ak)))) (aI _))))))))),λds Q h=>?_⟩
 obtain⟨a,b,c,d,rfl,ha,hb,hc,hd,hn,h⟩:=h
 walk_at "rd"
 refine⟨ha,hb,hc,hd,hn,?_⟩
 walk_at "rd"
 refine dU (λk=>?_) (λk=>?_)
 ·have k:rg a b c d≠0:=λz=>by rw[z]at k;exact absurd k (by decide)
  walk_at "rd"
  have e:decide (fO a b c d)=eE (.int (rg a b c d)) (.int 1):=by
   rw[eY,aa8]
   simp[fO,k]
  rw[e]at h
  exact h
 ·have k:rg a b c d=0:=by
   apply aaq
   intro z
   apply k
   rw[eY,beq_eq_false_iff_ne.mpr z]
   rfl
  walk_at "rd"
  rw[Tc]
  refine dU (λk2=>?_) (λk2=>?_)
  ·have k2:=of_decide_eq_true k2
   walk_at "rd"
   have e:decide (fO a b c d)=false:=decide_eq_false (λz=>by unfold fO at z;rw[k]at z;grind)
   rw[e]at h
   exact h
  ·have k2:¬(d=a\/d=b\/d=c):=λz=>k2 (decide_eq_true z)
   walk_at "rd"
   intro l hl
   refine⟨l,[a,b,c],rfl,ah,by show 3<64;decide,λp qs hp cB j4=>?_⟩
   obtain⟨u,v,w,rfl⟩:=om cB.length_eq
   obtain⟨hu,hv,hw⟩:=yW cB ha hb hc
   have key:=AQ hn k k2 cB j4
   rw[key]at h
   walk_at "rd"
   refine⟨_,_,_,.inr (.inr ⟨p,rfl,ah⟩),rfl,rfl,?_⟩
   walk_at "rd"
   rw[oi]
   refine dU (λk3=>?_) (λk3=>?_)
   ·rw[if_pos (of_decide_eq_true k3)]at h
    walk_at "rd"
    exact h
   ·rw[if_neg (λz=>k3 (decide_eq_true z))]at h
    walk_at "rd"
    refine⟨_,_,_,.inr (.inr ⟨p,rfl,ah⟩),rfl,rfl,?_⟩
    walk_at "rd"
    refine⟨_,_,_,.inr (.inr ⟨p,rfl,ah⟩),rfl,rfl,?_⟩
    walk_at "rd"
    refine⟨hv,hw,hd,?_⟩
    walk_at "rd"
    refine⟨_,_,_,.inr (.inr ⟨p,rfl,ah⟩),rfl,rfl,?_⟩
    walk_at "rd"
    refine⟨_,_,_,.inr (.inr ⟨p,rfl,ah⟩),rfl,rfl,?_⟩
    walk_at "rd"
    refine⟨_,_,_,.inr (.inr ⟨p,rfl,ah⟩),rfl,rfl,?_⟩
    walk_at "rd"
    refine⟨hv,hw,hu,?_⟩
    walk_at "rd"
    rw[AR]
    exact h
theorem yu(T:Txt K mg t):Binds K t.jQ ["places","t"] []:=T.lR.binds λ_ _ _ _ _ _ us hl=>match us,hl with|[_,_],_=>rfl
def Ae:wM:=λds M Q=>∃(l:Addr) (ps:List Pl) (a b c:Pl),ds=[.ref l,tD [a,b,c]]/\M l=some (.lst (ps.map Pl.d))/\(∀q∈ps,q.Ok 140)/\a.Ok 140/\b.Ok 140/\c.Ok 140/\tw a b c≠0/\Q (.bl (Rx ps a b c)) M
theorem yv(T:Txt K mg t):cz P w K mg base gJ 5 t.lN t.jQ ["places","t"] (yN K Ae):=by
 refine AN T.lR o5 (λds M Q h=>by(first|(obtain⟨_,rfl,_⟩:=h;rfl)|(obtain⟨_,_,rfl,_⟩:=h;rfl)|(obtain⟨_,_,_,rfl,_⟩:=h;rfl)|(obtain⟨_,_,_,_,rfl,_⟩:=h;rfl)|(obtain⟨_,_,_,_,_,rfl,_⟩:=h;rfl)|(obtain⟨_,_,_,_,_,_,rfl,_⟩:=h;rfl)|(obtain⟨_,_,_,_,_,_,_,rfl,_⟩:=h;rfl))) (λcdv A outer s H hr=>?_)
 have hu:=hr.units
 refine⟨_,(av (sA PassesOwn.never rfl (af 0) (bO (i:=2) o5.nd rfl (Or.inl rfl)) (aB (cI (gu (aG (wj T) (hr.mono (by decide)) (by rfl) T.zO T.oW.kp (wg T) (aa (aD (af 1) ai) (aa (aD (af 1) ai) (aa (aD (af 1) ai) (aa (af 2) ak)))))) (aB (aJ gM)) bA)))
  (aB (aJ gM))),λds M Q h=>?_⟩
 obtain⟨l,ps,a,b,c,rfl,hM,ho,ha,hb,hc,hn,h⟩:=h
 walk_at "rd"
 refine⟨l,_,rfl,hM,?_⟩
 refine cJ (λi ρ M'=>M'=M/\(∃y:Option L3.D,ρ=[some (.ref l),some (tD [a,b,c]),y])/\(ps.take i).any (λd=>decide (fO a b c d))=false) _ ?_ ?_ ⟨rfl,⟨_,rfl⟩,rfl⟩
 ·rintro i x ρ M' N hx ⟨rfl,⟨y,rfl⟩,hf⟩ hN
  obtain⟨d,hd,rfl⟩:=sV hx
  have od:=ho d (aaC hd)
  refine⟨hM,?_⟩
  walk_at "rd"
  refine⟨ha,hb,hc,od,hn,?_⟩
  walk_at "rd"
  refine dU (λk=>?_) (λk=>?_)
  ·walk_at "rd"
   have e:Rx ps a b c=true:=ac5.mpr ⟨d,aaC hd,k⟩
   rw[e]at h
   exact bM.mk ⟨_,Le.refl _,h⟩
  ·have k:decide (fO a b c d)=false:=by simpa using k
   exact hN _ _ ⟨rfl,⟨_,rfl⟩,by rw[Fw hd,hf,k];rfl⟩
 ·rintro ρ M' ⟨rfl,⟨y,rfl⟩,hf⟩
  refine⟨hM,?_⟩
  walk_at "rd"
  rw[aas,aa4]at hf
  have e:Rx ps a b c=false:=hf
  rw[e]at h
  exact bM.mk ⟨_,Le.refl _,h⟩
theorem Af(T:Txt K mg t):Binds K t.lP ["places"] []:=T.nP.binds λ_ _ _ _ _ _ us hl=>match us,hl with|[_],_=>rfl
def BK:wM:=λds M Q=>∃(l:Addr) (ps:List Pl),ds=[.ref l]/\M l=some (.lst (ps.map Pl.d))/\(∀q∈ps,q.Ok 140)/\ps.Nodup/\ps.length<=7/\
 ∀(p:Addr) (fs:List (List Pl)),M p=none->fs.Perm ((T3 ps ps.length).filter (MK ps))->fs.Pairwise (λa b=>cX b a=false)->Q (.ref p) (ay M p (.lst (fs.map tD)))
theorem Ag(T:Txt K mg t):cz P w K mg base gJ 6 t.nL t.lP ["places"] (yN K BK):=by
 refine AN T.nP zY (λds M Q h=>by(first|(obtain⟨_,rfl,_⟩:=h;rfl)|(obtain⟨_,_,rfl,_⟩:=h;rfl)|(obtain⟨_,_,_,rfl,_⟩:=h;rfl)|(obtain⟨_,_,_,_,rfl,_⟩:=h;rfl)|(obtain⟨_,_,_,_,_,rfl,_⟩:=h;rfl)|(obtain⟨_,_,_,_,_,_,rfl,_⟩:=h;rfl)|(obtain⟨_,_,_,_,_,_,_,rfl,_⟩:=h;rfl))) (λcdv A outer s H hr=>?_)
 have hu:=hr.units
 refine⟨_,(aB (aJ (bS (gU (n:=3) (.inr rfl) hu) (by rfl) T.dR bZ (aa (qQ (ig (ys:=["places"]) (fs:=[0]) rfl (by show b8 (au jE) ["places"] _ _ _ _=true;decide +kernel) (cU (qo T) (hr.mono (by decide)) (by rfl) T.qV T.gG.kp (qm T) (aa (af 0) ak)) (λcl C s0 H0 ex=>j0 (k_not (gu (cU (yv T) (hr.mono (by decide)) (by rfl) T.zP T.lR.kp (yu T) (aa (af 1) (aa (af 0) ak)))))) (λcl C s0 H0 ex=>(af 0)))) ak)))),λds M Q h=>?_⟩
 obtain⟨l,ps,rfl,hM,ho,nd,hlen,h⟩:=h
 have l3:=xj ps ps.length
 have Yj:=xm (m:=ps.length) (n:=7) hlen
 have UK:c3 7=35:=by decide
 walk_at "rd"
 refine⟨l,ps,rfl,hM,ho,by omega,λq hq=>?_⟩
 have hl:ay M q (.lst ((T3 ps ps.length).map tD)) l=some (.lst (ps.map Pl.d)):=aj hM hq
 refine⟨q,_,rfl,ah,by rw[aas];have:(1000:Nat)<sizeLine:=by decide
                      omega,bM.mk (bU (λi acc M4=>M4=ay M q (.lst ((T3 ps ps.length).map tD))/\acc=(((T3 ps ps.length).take i).filter (MK ps)).map tD) _ ?_ ?_ ⟨rfl,rfl⟩)⟩
 ·rintro i d acc M4 N hx ⟨rfl,rfl⟩ hN
  obtain⟨t,ht,rfl⟩:=eK hx
  obtain⟨⟨u,v,w,rfl,b1,b2,p0⟩,hmem⟩:=(A1 nd).mp (aaC ht)
  refine⟨ah,?_⟩
  walk_at "rd"
  refine⟨l,ps,u,v,w,rfl,hl,ho,ho _ (hmem u (by simp)),ho _ (hmem v (by simp)),ho _ (hmem w (by simp)),by omega,?_⟩
  walk_at "rd"
  refine dU (λk=>?_) (λk=>?_)
  ·walk_at "rd"
   refine hN _ _ ⟨rfl,?_⟩
   have k:MK ps [u,v,w]=true:=k
   rw[aZ ht,if_pos k,aaK]
   rfl
  ·refine hN _ _ ⟨rfl,?_⟩
   have k:¬MK ps [u,v,w]=true:=k
   rw[aZ ht,if_neg k,abf]
 ·rintro acc M4 ⟨rfl,rfl⟩
  refine⟨ah,λr hr=>?_⟩
  rw[aas,aa4]
  have lf:((T3 ps ps.length).filter (MK ps)).length<=(T3 ps ps.length).length:=abz _ _
  refine⟨r,_,rfl,ah,λt ht=>Jl nd (aaw.mp ht).1,by omega,λp fs hp cB j4=>?_⟩
  have Yk:M p=none:=by
   cases e:M p with
   |none=>rfl
   |some o=>rw[aj (aj e hq) hr]at hp;cases hp
  refine bM.mk ⟨ay M p (.lst (fs.map tD)),λc o e=>?_,h p fs Yk cB j4⟩
  by_cases hc:c=p
  ·subst hc
   rw[ah]at e ⊢;exact e
  ·rw[aK hc]at e
   rw[aK hc]
   exact aj (aj e hq) hr
theorem CW(T:Txt K mg t):Binds K t.yd ["way"] []:=T.yf.binds λ_ _ _ _ _ _ us hl=>match us,hl with|[_],_=>rfl
def NN:wK:=λds Q=>∃a b:Pl,ds=[tD [a,b]]/\Q (tD [b,a])
theorem CY(T:Txt K mg t):cz P w K mg base gJ 1 t.Bx t.yd ["way"] (vt K NN):=by
 refine AM T.yf Kh (λds Q h=>by(first|(obtain⟨_,rfl,_⟩:=h;rfl)|(obtain⟨_,_,rfl,_⟩:=h;rfl)|(obtain⟨_,_,_,rfl,_⟩:=h;rfl)|(obtain⟨_,_,_,_,rfl,_⟩:=h;rfl)|(obtain⟨_,_,_,_,_,rfl,_⟩:=h;rfl)|(obtain⟨_,_,_,_,_,_,rfl,_⟩:=h;rfl)|(obtain⟨_,_,_,_,_,_,_,rfl,_⟩:=h;rfl))) (λcdv A outer s H hr=>?_)
 have hu:=hr.units
 refine⟨_,(aB (aJ (bR (aa (aD (af 0) ai) (aa (aD (af 0) ai) ak))))),λds Q h=>?_⟩
 obtain⟨a,b,rfl,h⟩:=h
 walk_at "rd"
 exact h
theorem wm(T:Txt K mg t):Binds K t.qh ["t"] []:=T.oX.binds λ_ _ _ _ _ _ us hl=>match us,hl with|[_],_=>rfl
def HL:wM:=λds M Q=>∃a b c:Pl,ds=[tD [a,b,c]]/\∀p,M p=none->Q (.ref p) (ay M p (.lst ([[a,b,c],[b,c,a],[c,a,b]].map tD)))
theorem wo(T:Txt K mg t):cz P w K mg base gJ 1 t.ug t.qh ["t"] (yN K HL):=by
 refine AN T.oX Eb (λds M Q h=>by(first|(obtain⟨_,rfl,_⟩:=h;rfl)|(obtain⟨_,_,rfl,_⟩:=h;rfl)|(obtain⟨_,_,_,rfl,_⟩:=h;rfl)|(obtain⟨_,_,_,_,rfl,_⟩:=h;rfl)|(obtain⟨_,_,_,_,_,rfl,_⟩:=h;rfl)|(obtain⟨_,_,_,_,_,_,rfl,_⟩:=h;rfl)|(obtain⟨_,_,_,_,_,_,_,rfl,_⟩:=h;rfl))) (λcdv A outer s H hr=>?_)
 have hu:=hr.units
 refine⟨_,(aB (aJ (cK (aa (bR (aa (aD (af 0) ai) (aa (aD (af 0) ai) (aa (aD (af 0) ai) ak)))) (aa (bR (aa (aD (af 0) ai) (aa (aD (af 0) ai) (aa (aD (af 0) ai) ak)))) (aa (bR (aa (aD (af 0) ai) (aa (aD (af 0) ai) (aa (aD (af 0) ai) ak)))) ak)))))),λds M Q h=>?_⟩
 obtain⟨a,b,c,rfl,h⟩:=h
 walk_at "rd"
 intro p hp
 exact bM.mk ⟨_,Le.refl _,h p hp⟩
theorem o8(T:Txt K mg t):Binds K t.fk ["cover"] []:=T.fZ.binds λ_ _ _ _ _ _ us hl=>match us,hl with|[_],_=>rfl
def qp:wM:=λds M Q=>∃l:Addr,ds=[.ref l]/\∃ts:List (List Pl),M l=some (.lst (ts.map tD))/\(∀t∈ts,Tr t)/\ts.length<=200/\∀p,M p=none->Q (.ref p) (ay M p (.lst ((aS ts).map tD)))
theorem o9(T:Txt K mg t):cz P w K mg base gJ 2 t.fW t.fk ["cover"] (yN K qp):=by
 refine AN T.fZ fF (λds M Q h=>by(first|(obtain⟨_,rfl,_⟩:=h;rfl)|(obtain⟨_,_,rfl,_⟩:=h;rfl)|(obtain⟨_,_,_,rfl,_⟩:=h;rfl)|(obtain⟨_,_,_,_,rfl,_⟩:=h;rfl)|(obtain⟨_,_,_,_,_,rfl,_⟩:=h;rfl)|(obtain⟨_,_,_,_,_,_,rfl,_⟩:=h;rfl)|(obtain⟨_,_,_,_,_,_,_,rfl,_⟩:=h;rfl))) (λcdv A outer s H hr=>?_)
 have hu:=hr.units
 refine⟨_,(av (bx (i:=1) fF.nd rfl (Or.inl rfl) (cK ak))
  (av (sA PassesOwn.never rfl (af 0) (bO (i:=2) fF.nd rfl (Or.inl rfl)) (aB (kO (Qf (af 1) (qQ (ig (ys:=[]) (fs:=[]) rfl (by show b8 (au cQ) ["cover","ways","t"] _ _ _ _=true;decide +kernel) (cU (wo T) (hr.mono (by decide)) (by rfl) T.zQ T.oX.kp (wm T) (aa (af 2) ak)) (λcl C s0 H0 ex=>Fo) (λcl C s0 H0 ex=>(bR (aa (aD (af 0) ai) (aa (aD (af 0) ai) ak)))))) (rX PySem.F.plainAttrs_list PySem.F.slot_list_extend PySem.F.type_list_extend Dj (cH.dn (af 1)) (iT (cH.dn (qQ (ig (ys:=[]) (fs:=[]) rfl (by show b8 (au cQ) ["cover","ways","t"] _ _ _ _=true;decide +kernel) (cU (wo T) (hr.mono (by decide)) (by rfl) T.zQ T.oX.kp (wm T) (aa (af 2) ak)) (λcl C s0 H0 ex=>Fo) (λcl C s0 H0 ex=>(bR (aa (aD (af 0) ai) (aa (aD (af 0) ai) ak))))))) kG))))))
  (aB (aJ (af 1))))),λds M Q h=>?_⟩
 obtain⟨l,rfl,ts,hM,hts,ZN,h⟩:=h
 have sl:(1000:Nat)<sizeLine:=by decide
 walk_at "rd"
 intro p hp
 have Yl:l≠p:=λz=>by rw[<-z,hM]at hp;cases hp
 walk_at "rd"
 refine⟨l,_,rfl,aj hM hp,?_⟩
 refine sP (λi ρ M'=>(∃y:Option L3.D,ρ=[some (.ref l),some (.ref p),y])/\M' l=some (.lst (ts.map tD))/\M' p=some (.lst ((aS (ts.take i)).map tD))/\Le M M') _ ?_ ?_ ⟨⟨_,rfl⟩,aj hM hp,ah,Le.new hp⟩
 ·rintro _ _ i x ρ M' N hx ⟨⟨y,rfl⟩,hM,hP,le⟩ hN
  obtain⟨t,ht,rfl⟩:=eK hx
  obtain⟨a,b,c,rfl,oa,ob,oc⟩:=hts t (aaC ht)
  refine⟨hM,?_⟩
  walk_at "rd"
  refine⟨⟨p,_,rfl,hP⟩,?_⟩
  refine⟨_,rfl,?_⟩
  refine⟨a,b,c,rfl,λq hq=>?_⟩
  have hM:=aj (u:=MO.lst ([[a,b,c],[b,c,a],[c,a,b]].map tD)) hM hq
  have hP:=aj (u:=MO.lst ([[a,b,c],[b,c,a],[c,a,b]].map tD)) hP hq
  have le:=le.trans (Le.new (o:=MO.lst ([[a,b,c],[b,c,a],[c,a,b]].map tD)) hq)
  have hQ:ay M' q (.lst ([[a,b,c],[b,c,a],[c,a,b]].map tD)) q=some (.lst ([[a,b,c],[b,c,a],[c,a,b]].map tD)):=ah
  generalize ay M' q (.lst ([[a,b,c],[b,c,a],[c,a,b]].map tD))=M2 at hM hP hQ le ⊢
  refine⟨q,_,rfl,hQ,by show 3<sizeLine;omega,bM.mk (bU (λj acc M4=>M4=M2/\acc=(([[a,b],[b,c],[c,a]].take j)).map tD) _ ?_ ?_ ⟨rfl,rfl⟩)⟩
  ·rintro j d acc M4 N2 iQ ⟨rfl,rfl⟩ kr
   obtain⟨u,kj,rfl⟩:=eK iQ
   have hj:j<3:=(aaQ.mp kj).1
   have hj:j=0\/j=1\/j=2:=by omega
   refine⟨hQ,?_⟩
   rcases hj with rfl|rfl|rfl
   ·cases kj
    walk_at "rd"
    exact kr _ _ ⟨rfl,rfl⟩
   ·cases kj
    walk_at "rd"
    exact kr _ _ ⟨rfl,rfl⟩
   ·cases kj
    walk_at "rd"
    exact kr _ _ ⟨rfl,rfl⟩
  ·rintro acc M4 ⟨rfl,hacc⟩
   have hacc:acc=[[a,b],[b,c],[c,a]].map tD:=hacc
   subst hacc
   refine⟨hQ,λu kj=>?_⟩
   have ld:=lC (ts.take i)
   rw[abB]at ld
   have ZO:u≠p:=λz=>by rw[z,hP]at kj;cases kj
   refine⟨p,u,_,_,rfl,rfl,aj hP kj,ah,by rw[aas];show _+3<=sizeLine;omega,?_⟩
   refine hN _ _ ⟨⟨_,rfl⟩,?_,?_,λx o e=>?_⟩
   ·rw[aK Yl]
    exact aj hM kj
   ·rw[ah,vN ht,aaK]
    rfl
   ·rw[aK (λz=>by rw[z,hp]at e;cases e)]
    exact aj (le _ _ e) kj
 ·rintro ρ M' ⟨⟨y,rfl⟩,hM,hP,le⟩
  refine⟨hM,?_⟩
  walk_at "rd"
  rw[aas,aa4]at hP
  refine bM.mk ⟨ay M p (.lst ((aS ts).map tD)),λb o e=>?_,h p hp⟩
  by_cases hb:b=p
  ·subst hb
   rw[ah]at e
   rw[hP]
   exact e
  ·rw[aK hb]at e
   exact le _ _ e
theorem j5(T:Txt K mg t):Binds K t.gE ["line"] []:=T.fy.binds λ_ _ _ _ _ _ us hl=>match us,hl with|[_],_=>rfl
def uB:wM:=λds M Q=>∃(l:Addr) (ps:List Pl),ds=[.ref l]/\M l=some (.lst (ps.map Pl.d))/\ps.length<=1000/\(∀q∈ps,q.Ok 140)/\∀p,M p=none->Q (.ref p) (ay M p (.lst ((ps.foldl aR []).reverse.map Pl.d)))
theorem j6(T:Txt K mg t):cz P w K mg base gJ 3 t.iI t.gE ["line"] (yN K uB):=by
 refine AN T.fy gI (λds M Q h=>by(first|(obtain⟨_,rfl,_⟩:=h;rfl)|(obtain⟨_,_,rfl,_⟩:=h;rfl)|(obtain⟨_,_,_,rfl,_⟩:=h;rfl)|(obtain⟨_,_,_,_,rfl,_⟩:=h;rfl)|(obtain⟨_,_,_,_,_,rfl,_⟩:=h;rfl)|(obtain⟨_,_,_,_,_,_,rfl,_⟩:=h;rfl)|(obtain⟨_,_,_,_,_,_,_,rfl,_⟩:=h;rfl))) (λcdv A outer s H hr=>?_)
 have hu:=hr.units
 refine⟨_,(av (bx (i:=1) gI.nd rfl (Or.inl rfl) (cK ak))
  (av (sA PassesOwn.never rfl (af 0) (bO (i:=2) gI.nd rfl (Or.inl rfl)) (av (IM PassesOwn.never (uF.pt (KL (aU L7 (bS kN (by rfl) T.iM cV (aa (af 1) ak)) ai (aI _)) (EW (aU (kg hu) (aG (jZ T) (hr.mono (by decide)) (by rfl) T.nO T.jU.kp (jY T) (aa (aD (af 1) (eX ai)) (aa (aD (af 1) (eX ai)) (aa (af 2) ak)))) (eX ai) (aI _))))) (aB (kO (P9 (af 1) (LW PySem.F.plainAttrs_list PySem.F.slot_list_pop PySem.F.type_list_pop LY (cH.dn (af 1)))))))
  (aB (kO (vv (af 1) (af 2) (rX PySem.F.plainAttrs_list PySem.F.slot_list_append PySem.F.type_list_append fM (cH.dn (af 1)) (iT (cH.dn (af 2)) kG)))))))
  (aB (aJ (af 1))))),λds M Q h=>?_⟩
 obtain⟨l,ps,rfl,hM,hlen,ho,h⟩:=h
 walk_at "rd"
 intro p hp
 have hl:∀o,ay M p o l=some (.lst (ps.map Pl.d)):=λo=>aj hM hp
 walk_at "rd"
 refine⟨l,_,rfl,hl _,?_⟩
 refine sP (λi ρ M'=>M'=ay M p (.lst (((ps.take i).foldl aR []).reverse.map Pl.d))/\∃y:Option L3.D,ρ=[some (.ref l),some (.ref p),y]) _ ?_ ?_ ⟨rfl,_,rfl⟩
 ·rintro _ _ i x ρ M' N hx ⟨rfl,y,rfl⟩ hN
  obtain⟨d,hd,rfl⟩:=sV hx
  have od:=ho d (aaC hd)
  have Ym:∀q∈(ps.take i).foldl aR [],q.Ok 140:=λq hq=>ho q (abO (pQ _ q hq))
  have lst:=fR (ps.take i)
  have eN:=A5 hd
  have lt:(ps.take i).length<=1000:=by rw[abB];omega
  generalize hst:(ps.take i).foldl aR []=st at *
  refine⟨hl _,?_⟩
  walk_at "rd"
  refine⟨λm ρ M'=>∃st':List Pl,M'=ay M p (.lst (st'.reverse.map Pl.d))/\ρ=[some (.ref l),some (.ref p),some d.d]/\m=st'.length/\jy st' d=jy st d/\(∀q∈st',q.Ok 140)/\st'.length<=1000,⟨_,st,rfl,rfl,rfl,rfl,Ym,by omega⟩,?_⟩
  rintro m ρ M' ⟨st',rfl,rfl,rfl,ep,os,ls⟩
  walk_at "rd"
  refine⟨_,_,rfl,.inr (.inr ⟨p,rfl,ah⟩),?_⟩
  walk_at "rd"
  rw[aas,aaW]
  refine dU (λc=>?_) (λc=>?_)
  ·have c:(1:Int)<(st'.length:Int):=of_decide_eq_true c
   obtain⟨b,a,r,rfl⟩:∃b a r,st'=b::a::r:=by
    match st',c with
    |b::a::r,_=>exact⟨b,a,r,rfl⟩
    |[x],c=>exact absurd c (by show¬(1:Int)<1;decide)
    |[],c=>exact absurd c (by decide)
   walk_at "rd"
   refine⟨_,_,a.d,.inr (.inr ⟨p,rfl,ah⟩),rfl,DJ b a r,?_⟩
   walk_at "rd"
   refine⟨_,_,b.d,.inr (.inr ⟨p,rfl,ah⟩),rfl,DI b _,?_⟩
   walk_at "rd"
   refine⟨os a (by simp),os b (by simp),od,?_⟩
   walk_at "rd"
   rw[eY]
   refine dU (λk=>?_) (λk=>?_)
   ·have k:=eq_of_beq k
    have k:tw a b d<0:=acK.mp k
    walk_at "rd"
    refine⟨p,_,b.d,rfl,by rw[abq,aaK];exact ah,?_⟩
    rw[kH]
    exact bM.mk ⟨_,acA _,a::r,rfl,rfl,rfl,by rw[<-ep,Ga k],λq hq=>os q (aar _ hq),by simp only[aaX]at ls ⊢;omega⟩
   ·have k:¬tw a b d<0:=λz=>k (by rw[abH z];rfl)
    have ez:=Gb (r:=r) k
    generalize b::a::r=st' at *
    walk_at "rd"
    refine⟨⟨p,_,rfl,ah⟩,?_⟩
    walk_at "rd"
    refine⟨p,_,rfl,ah,?_,?_⟩
    ·rw[aas,aaW]
     have:(1000:Nat)<sizeLine:=by decide
     omega
    ·rw[kH]
     refine hN _ _ ⟨?_,_,rfl⟩
     have e:aR st d=d::st':=by
      show d::jy st d=_
      rw[<-ep,ez]
     rw[eN,e,abq,aaK]
     rfl
  ·have c:¬(1:Int)<(st'.length:Int):=λz=>c (decide_eq_true z)
   have ez:jy st' d=st':=by
    match st',c with
    |[],_=>rfl
    |[_],_=>rfl
    |b::a::r,c=>exact absurd (show(1:Int)<((b::a::r).length:Int)by simp only[aaX];omega) c
   walk_at "rd"
   refine⟨⟨p,_,rfl,ah⟩,?_⟩
   walk_at "rd"
   refine⟨p,_,rfl,ah,?_,?_⟩
   ·rw[aas,aaW]
    have:(1000:Nat)<sizeLine:=by decide
    omega
   ·rw[kH]
    refine hN _ _ ⟨?_,_,rfl⟩
    have e:aR st d=d::st':=by
     show d::jy st d=_
     rw[<-ep,ez]
    rw[eN,e,abq,aaK]
    rfl
 ·rintro ρ M' ⟨rfl,y,rfl⟩
  refine⟨hl _,?_⟩
  walk_at "rd"
  refine bM.mk ⟨_,Le.refl _,?_⟩
  rw[aas,aa4]
  exact h p hp
theorem BL(T:Txt K mg t):Binds K t.nM ["places"] []:=T.qk.binds λ_ _ _ _ _ _ us hl=>match us,hl with|[_],_=>rfl
def Ef:wM:=λds M Q=>∃(l:Addr) (ps:List Pl),ds=[.ref l]/\M l=some (.lst (ps.map Pl.d))/\ps.length<64/\(∀q∈ps,q.Ok 140)/\∀(p:Addr) (qs:List Pl),M p=none->qs.Perm ps->qs.Pairwise (λp q=> ¬aQ q p)->Q (.ref p) (ay M p (.lst ((bI qs).map Pl.d)))
theorem BN(T:Txt K mg t):cz P w K mg base gJ 4 t.qi t.nM ["places"] (yN K Ef):=by
 refine AN T.qk jX (λds M Q h=>by(first|(obtain⟨_,rfl,_⟩:=h;rfl)|(obtain⟨_,_,rfl,_⟩:=h;rfl)|(obtain⟨_,_,_,rfl,_⟩:=h;rfl)|(obtain⟨_,_,_,_,rfl,_⟩:=h;rfl)|(obtain⟨_,_,_,_,_,rfl,_⟩:=h;rfl)|(obtain⟨_,_,_,_,_,_,rfl,_⟩:=h;rfl)|(obtain⟨_,_,_,_,_,_,_,rfl,_⟩:=h;rfl))) (λcdv A outer s H hr=>?_)
 have hu:=hr.units
 refine⟨_,(av (bx (i:=1) jX.nd rfl (Or.inl rfl) (bS sO (by rfl) T.dR bZ (aa (af 0) ak)))
  (av (cI (aU (nY hu) (bS kN (by rfl) T.iM cV (aa (af 1) ak)) ai (aI _)) (aB (aJ (af 1))) bA)
  (av (bx (i:=2) jX.nd rfl (Or.inl rfl) (cU (j6 T) (hr.mono (by decide)) (by rfl) T.lS T.fy.kp (j5 T) (aa (af 1) ak)))
  (av (bx (i:=3) jX.nd rfl (Or.inl rfl) (cU (j6 T) (hr.mono (by decide)) (by rfl) T.lS T.fy.kp (j5 T) (aa (DC (by rfl) (by rfl) T.gQ (by rfl) T.zS (af 1)) ak)))
  (aB (aJ (aq oB (oE (af 2) Jg (wW (eX ai))) (oE (af 3) Jg (wW (eX ai)))))))))),λds M Q h=>?_⟩
 obtain⟨l,ps,rfl,hM,h64,ho,h⟩:=h
 walk_at "rd"
 refine⟨l,ps,rfl,hM,h64,λp qs hp cB j4=>?_⟩
 have oq:∀q∈qs,q.Ok 140:=λq hq=>ho q (cB.mem_iff.mp hq)
 have lq:qs.length<64:=by rw[cB.length_eq];exact h64
 walk_at "rd"
 refine⟨_,_,rfl,.inr (.inr ⟨p,rfl,ah⟩),?_⟩
 walk_at "rd"
 rw[aas]
 refine dU (λc=>?_) (λc=>?_)
 ·have c:(qs.length:Int)<2:=of_decide_eq_true c
  have e:bI qs=qs:=by unfold bI;rw[if_pos (by omega)]
  have q:=h p qs hp cB j4
  rw[e]at q
  walk_at "rd"
  exact bM.mk ⟨_,Le.refl _,q⟩
 ·have c:¬(qs.length:Int)<2:=λz=>c (decide_eq_true z)
  have h':∀r,M r=none->Q (.ref r) (ay M r (.lst ((bI qs).map Pl.d))):=λr hr=>h r qs hr cB j4
  walk_at "rd"
  refine⟨p,qs,rfl,ah,by omega,oq,λp1 hp1=>?_⟩
  walk_at "rd"
  have e:bI qs=(qs.foldl aR []).reverse.dropLast++(qs.reverse.foldl aR []).reverse.dropLast:=by unfold bI;rw[if_neg (by omega)]
  rw[e]at h'
  have lt:(qs.foldl aR []).reverse.length<=64:=by
   have:=fR qs
   rw[aaW];omega
  have lh:(qs.reverse.foldl aR []).reverse.length<=64:=by
   have:=fR qs.reverse
   rw[aaW]at this ⊢;omega
  generalize (qs.foldl aR []).reverse=th at *
  have hQ:ay (ay M p (.lst (qs.map Pl.d))) p1 (.lst (th.map Pl.d)) p=some (.lst (qs.map Pl.d)):=aj ah hp1
  have hT:ay (ay M p (.lst (qs.map Pl.d))) p1 (.lst (th.map Pl.d)) p1=some (.lst (th.map Pl.d)):=ah
  have le:=(Le.new (o:= .lst (qs.map Pl.d)) hp).trans (Le.new (o:= .lst (th.map Pl.d)) hp1)
  generalize ay (ay M p (.lst (qs.map Pl.d))) p1 (.lst (th.map Pl.d))=M2 at hQ hT le ⊢
  refine⟨_,.of hQ,λp2 hp2=>?_⟩
  rw[<-List.map_reverse]
  have hT2:=aj (u:=MO.lst (qs.reverse.map Pl.d)) hT hp2
  have HY:=le.trans (Le.new (o:= .lst (qs.reverse.map Pl.d)) hp2)
  have hR:ay M2 p2 (.lst (qs.reverse.map Pl.d)) p2=some (.lst (qs.reverse.map Pl.d)):=ah
  generalize ay M2 p2 (.lst (qs.reverse.map Pl.d))=M3 at hT2 HY hR ⊢
  refine⟨p2,qs.reverse,rfl,hR,by rw[aaW];omega,λq hq=>oq q (abd.mp hq),λp3 hp3=>?_⟩
  have ZP:th.length<=64:=by omega
  generalize (qs.reverse.foldl aR []).reverse=hm at *
  have VW:=aj (u:=MO.lst (hm.map Pl.d)) hT2 hp3
  have HM:=HY.trans (Le.new (o:= .lst (hm.map Pl.d)) hp3)
  have hH:ay M3 p3 (.lst (hm.map Pl.d)) p3=some (.lst (hm.map Pl.d)):=ah
  generalize ay M3 p3 (.lst (hm.map Pl.d))=M4 at VW HM hH ⊢
  walk_at "rd"
  refine⟨_,.of VW,λp4 Ob=>?_⟩
  rw[zg]
  have RI:=aj (u:=MO.lst (th.dropLast.map Pl.d)) hH Ob
  have VX:=HM.trans (Le.new (o:= .lst (th.dropLast.map Pl.d)) Ob)
  have hA:ay M4 p4 (.lst (th.dropLast.map Pl.d)) p4=some (.lst (th.dropLast.map Pl.d)):=ah
  generalize ay M4 p4 (.lst (th.dropLast.map Pl.d))=M5 at RI VX hA ⊢
  walk_at "rd"
  refine⟨_,.of RI,λp5 VY=>?_⟩
  rw[zg]
  have VZ:=aj (u:=MO.lst (hm.dropLast.map Pl.d)) hA VY
  have UL:=VX.trans (Le.new (o:= .lst (hm.dropLast.map Pl.d)) VY)
  have hB:ay M5 p5 (.lst (hm.dropLast.map Pl.d)) p5=some (.lst (hm.dropLast.map Pl.d)):=ah
  generalize ay M5 p5 (.lst (hm.dropLast.map Pl.d))=M6 at VZ UL hB ⊢
  refine⟨p4,p5,_,_,rfl,rfl,VZ,hB,?_,λp6 Yn=>?_⟩
  ·rw[aas,aas,abm,abm]
   have:(1000:Nat)<sizeLine:=by decide
   omega
  ·rw[<-aaK]
   exact bM.mk ⟨_,UL.put,h' p6 (UL.free Yn)⟩
theorem qq(T:Txt K mg t):Binds K t.fX ["places"] []:=T.gH.binds λ_ _ _ _ _ _ us hl=>match us,hl with|[_],_=>rfl
def qY:wM:=λds M Q=>∃(l:Addr) (ps:List Pl),ds=[.ref l]/\M l=some (.lst (ps.map Pl.d))/\ps.length<64/\(∀q∈ps,q.Ok 140)/\∀(p:Addr) (qs:List Pl),M p=none->qs.Perm ps->qs.Pairwise (λp q=> ¬aQ q p)->Q (.ref p) (ay M p (.lst ((bB (bI qs)).map tD)))
theorem qu(T:Txt K mg t):cz P w K mg base gJ 5 t.gF t.fX ["places"] (yN K qY):=by
 refine AN T.gH jB (λds M Q h=>by(first|(obtain⟨_,rfl,_⟩:=h;rfl)|(obtain⟨_,_,rfl,_⟩:=h;rfl)|(obtain⟨_,_,_,rfl,_⟩:=h;rfl)|(obtain⟨_,_,_,_,rfl,_⟩:=h;rfl)|(obtain⟨_,_,_,_,_,rfl,_⟩:=h;rfl)|(obtain⟨_,_,_,_,_,_,rfl,_⟩:=h;rfl)|(obtain⟨_,_,_,_,_,_,_,rfl,_⟩:=h;rfl))) (λcdv A outer s H hr=>?_)
 have hu:=hr.units
 refine⟨_,(av (bx (i:=1) jB.nd rfl (Or.inl rfl) (cU (BN T) (hr.mono (by decide)) (by rfl) T.D9 T.qk.kp (BL T) (aa (af 0) ak)))
  (av (cI (aU (nY hu) (bS kN (by rfl) T.iM cV (aa (af 1) ak)) ai (aI _)) (aB (aJ (cK ak))) bA)
  (aB (aJ (DG (by rfl) (by rfl) T.gQ (by rfl) T.NG (aa (af 1) (aa (aq oB (oE (af 1) (wW ai) Jg) (oE (af 1) Jg (wW ai))) ak))))))),λds M Q h=>?_⟩
 obtain⟨l,ps,rfl,hM,h64,ho,h⟩:=h
 walk_at "rd"
 refine⟨l,ps,rfl,hM,h64,ho,λp qs hp cB j4=>?_⟩
 have h':∀r,M r=none->Q (.ref r) (ay M r (.lst ((bB (bI qs)).map tD))):=λr hr=>h r qs hr cB j4
 have lo:(bI qs).length<=200:=by
  have l1:=fR qs
  have l2:=fR qs.reverse
  have l3:=cB.length_eq
  rw[aaW]at l2
  unfold bI
  split
  ·omega
  ·rw[aaA,abm,abm,aaW,aaW]
   omega
 generalize bI qs=bd at *
 walk_at "rd"
 refine⟨_,_,rfl,.inr (.inr ⟨p,rfl,ah⟩),?_⟩
 walk_at "rd"
 rw[aas]
 refine dU (λc=>?_) (λc=>?_)
 ·have c:(bd.length:Int)<2:=of_decide_eq_true c
  walk_at "rd"
  intro r hr
  have q:=h' r ((Le.new hp).free hr)
  unfold bB at q
  rw[if_pos (by omega)]at q
  exact bM.mk ⟨_,(Le.new hp).put,q⟩
 ·have c:¬(bd.length:Int)<2:=λz=>c (decide_eq_true z)
  walk_at "rd"
  have le:=Le.new (o:= .lst (bd.map Pl.d)) hp
  have hB:ay M p (.lst (bd.map Pl.d)) p=some (.lst (bd.map Pl.d)):=ah
  generalize ay M p (.lst (bd.map Pl.d))=M1 at hB le ⊢
  refine⟨_,.of hB,λp1 hp1=>?_⟩
  have Yo:cutD (bd.map Pl.d) (some 1) none=(bd.drop 1).map Pl.d:=Fy Pl.d bd 1 (by omega)
  have Yp:cutD (bd.map Pl.d) none (some 1)=(bd.take 1).map Pl.d:=Ge Pl.d bd 1 (by omega)
  rw[Yo]
  have UM:=aj (u:=MO.lst ((bd.drop 1).map Pl.d)) hB hp1
  have NO:=le.trans (Le.new (o:= .lst ((bd.drop 1).map Pl.d)) hp1)
  have hA:ay M1 p1 (.lst ((bd.drop 1).map Pl.d)) p1=some (.lst ((bd.drop 1).map Pl.d)):=ah
  generalize ay M1 p1 (.lst ((bd.drop 1).map Pl.d))=M2 at UM NO hA ⊢
  walk_at "rd"
  refine⟨_,.of UM,λp2 hp2=>?_⟩
  rw[Yp]
  have hB2:=aj (u:=MO.lst ((bd.take 1).map Pl.d)) UM hp2
  have V0:=aj (u:=MO.lst ((bd.take 1).map Pl.d)) hA hp2
  have HY:=NO.trans (Le.new (o:= .lst ((bd.take 1).map Pl.d)) hp2)
  have hC:ay M2 p2 (.lst ((bd.take 1).map Pl.d)) p2=some (.lst ((bd.take 1).map Pl.d)):=ah
  generalize ay M2 p2 (.lst ((bd.take 1).map Pl.d))=M3 at hB2 V0 HY hC ⊢
  refine⟨p1,p2,_,_,rfl,rfl,V0,hC,?_,λp3 hp3=>?_⟩
  ·rw[aas,aas,abC,abB]
   have:(1000:Nat)<sizeLine:=by decide
   omega
  rw[<-aaK]
  have V1:=aj (u:=MO.lst ((bd.drop 1++bd.take 1).map Pl.d)) hB2 hp3
  have HM:=HY.trans (Le.new (o:= .lst ((bd.drop 1++bd.take 1).map Pl.d)) hp3)
  have hE:ay M3 p3 (.lst ((bd.drop 1++bd.take 1).map Pl.d)) p3=some (.lst ((bd.drop 1++bd.take 1).map Pl.d)):=ah
  generalize ay M3 p3 (.lst ((bd.drop 1++bd.take 1).map Pl.d))=M4 at V1 HM hE ⊢
  refine⟨p,p3,_,_,rfl,V1,hE,λp4 Ob=>?_⟩
  have q:=h' p4 (HM.free Ob)
  unfold bB at q
  rw[if_neg (by omega)]at q
  have ez:=vL bd (bd.drop 1++bd.take 1)
  rw[show((List.zipWith (λp q=>[p,q]) bd (bd.drop 1++bd.take 1)).map tD)=_ from ez]at q
  exact bM.mk ⟨_,HM.put,q⟩
theorem uX(T:Txt K mg t):Binds K t.jg ["places","fallen","p"] []:=T.jV.binds λ_ _ _ _ _ _ us hl=>match us,hl with|[_,_,_],_=>rfl
theorem wu{w:List Pl}:∀{as bs:List Pl},w∈List.zipWith (λp q=>[p,q]) as bs->∃a∈as,∃b∈bs,w=[a,b]
 |[],_,h=>by simp at h
 |a::as,[],h=>by simp at h
 |a::as,b::bs,h=>by
  rw[List.zipWith_cons_cons]at h
  rcases aat.mp h with h|h
  ·exact⟨a,by simp,b,by simp,h⟩
  ·obtain⟨x,hx,y,hy,e⟩:=wu h
   exact⟨x,aar _ hx,y,aar _ hy,e⟩
theorem uC{qs:List Pl}{q:Pl}(h:q∈bI qs):q∈qs:=by
 unfold bI at h
 split at h
 ·exact h
 ·rcases aaF.mp h with h|h
  ·exact pQ qs q (abd.mp (adx _ h))
  ·exact abd.mp (pQ _ q (abd.mp (adx _ h)))
theorem qL{qs w:List Pl}(h:w∈bB (bI qs)):∃a b,w=[a,b]/\a∈qs/\b∈qs:=by
 unfold bB at h
 split at h
 ·cases h
 ·obtain⟨a,ha,b,hb,e⟩:=wu h
  refine⟨a,b,e,uC ha,uC ?_⟩
  rcases aaF.mp hb with hb|hb
  ·exact adw hb
  ·exact abO hb
theorem qM(qs:List Pl):(bB (bI qs)).length<=2*qs.length:=by
 have l1:=fR qs
 have l2:=fR qs.reverse
 rw[aaW]at l2
 have:(bI qs).length<=2*qs.length:=by
  unfold bI
  split
  ·omega
  ·rw[aaA,abm,abm,aaW,aaW]
   omega
 unfold bB
 split
 ·exact abp _
 ·rw[aci]
  omega
def yw:wM:=λds M Q=>∃(l f:Addr) (p:Pl),ds=[.ref l,.ref f,p.d]/\∃(ps:List Pl) (fs:List (List Pl)),M l=some (.lst (ps.map Pl.d))/\M f=some (.lst (fs.map tD))/\ps.length<64/\(∀q∈ps,q.Ok 140)/\p.Ok 140/\(∀t∈fs,Tr t)/\fs.length<=60/\∀(r:Addr) (qs:List Pl) (M':Mp),Le M M'->qs.Perm ps->qs.Pairwise (λp q=> ¬aQ q p)->M' r=some (.lst (((aS fs++((bB (bI qs)).filter (jA p)).map nI).filter (λw=>decide (nI w∉aS fs++((bB (bI qs)).filter (jA p)).map nI))).map tD))->Q (.ref r) M'
theorem uY(T:Txt K mg t):cz P w K mg base gJ 6 t.jR t.jg ["places","fallen","p"] (yN K yw):=by
 refine AN T.jV jo (λds M Q h=>by(first|(obtain⟨_,rfl,_⟩:=h;rfl)|(obtain⟨_,_,rfl,_⟩:=h;rfl)|(obtain⟨_,_,_,rfl,_⟩:=h;rfl)|(obtain⟨_,_,_,_,rfl,_⟩:=h;rfl)|(obtain⟨_,_,_,_,_,rfl,_⟩:=h;rfl)|(obtain⟨_,_,_,_,_,_,rfl,_⟩:=h;rfl)|(obtain⟨_,_,_,_,_,_,_,rfl,_⟩:=h;rfl))) (λcdv A outer s H hr=>?_)
 have hu:=hr.units
 refine⟨_,(av (MB (j:=3) (ig (ys:=["p"]) (fs:=[2]) rfl (by show b8 (au eU) ["places","fallen","p","seen","ways"] _ _ _ _=true;decide +kernel) (cU (qu T) (hr.mono (by decide)) (by rfl) T.qW T.gH.kp (qq T) (aa (af 0) ak)) (λcl C s0 H0 ex=>j0 (aU (kg hu) (aG (jZ T) (hr.mono (by decide)) (by rfl) T.nO T.jU.kp (jY T) (aa (aD (af 0) ai) (aa (aD (af 0) ai) (aa (af 1) ak)))) (eX ai) (aI _))) (λcl C s0 H0 ex=>(aG (CY T) (hr.mono (by decide)) (by rfl) T.HB T.yf.kp (CW T) (aa (af 0) ak)))) jo.nd rfl (Or.inl rfl))
  (av (bx (i:=4) jo.nd rfl (Or.inr rfl) (aq oB (cU (o9 T) (hr.mono (by decide)) (by rfl) T.qj T.fZ.kp (o8 T) (aa (af 1) ak)) (af 3)))
  (aB (aJ (qQ (ig (ys:=["ways"]) (fs:=[4]) rfl (by show b8 (au eU) ["places","fallen","p","seen","ways"] _ _ _ _=true;decide +kernel) (af 4) (λcl C s0 H0 ex=>j0 (aU (l9 hu) (aG (CY T) (hr.mono (by decide)) (by rfl) T.HB T.yf.kp (CW T) (aa (af 0) ak)) (af 1) (by with_unfolding_all rfl))) (λcl C s0 H0 ex=>(af 0)))))))),λds M Q h=>?_⟩
 obtain⟨l,f,p,rfl,ps,fs,hM,hF,lp,ho,op,hT,lf,h⟩:=h
 have sl:(1000:Nat)<sizeLine:=by decide
 walk_at "rd"
 refine⟨l,ps,rfl,hM,lp,ho,λo qs ho' cB hso=>?_⟩
 have two:∀w∈bB (bI qs),∃a b,w=[a,b]/\a∈qs/\b∈qs:=λw hw=>qL hw
 have ls:(bB (bI qs)).length<=200:=by
  have:=qM qs
  have:=cB.length_eq
  omega
 have hO:ay M o (.lst ((bB (bI qs)).map tD)) o=some (.lst ((bB (bI qs)).map tD)):=ah
 have hF:=aj (u:=MO.lst ((bB (bI qs)).map tD)) hF ho'
 have le:=Le.new (o:=MO.lst ((bB (bI qs)).map tD)) ho'
 generalize ay M o (.lst ((bB (bI qs)).map tD))=M1 at hO hF le ⊢
 have hh:=h
 replace h:=λ(r:Addr) (M':Mp) (le:Le M M') hR=>hh r qs M' le cB hso hR
 clear hh
 generalize bB (bI qs)=bs at *
 walk_at "rd"
 refine⟨o,_,rfl,hO,by rw[aas];omega,bM.mk (bU (λj acc M4=>M4=M1/\acc=(((bs.take j).filter (jA p)).map nI).map tD) _ ?_ ?_ ⟨rfl,rfl⟩)⟩
 ·rintro j x acc M4 N2 iQ ⟨rfl,rfl⟩ kr
  obtain⟨w,hw,rfl⟩:=eK iQ
  obtain⟨a,b,rfl,ha,hb⟩:=two w (aaC hw)
  refine⟨hO,?_⟩
  walk_at "rd"
  refine⟨ho a (cB.mem_iff.mp ha),ho b (cB.mem_iff.mp hb),op,?_⟩
  walk_at "rd"
  have eb:L3.eE (.int (tw a b p).sign) (.int (-1))=jA p [a,b]:=by
   rw[eY,aa8]
   unfold jA
   rw[decide_eq_true_eq,beq_iff_eq]
   exact acK
  rw[eb]
  cases e:jA p [a,b]with
  |true=>
   walk_at "rd"
   refine kr _ _ ⟨rfl,?_⟩
   rw[aZ hw,if_pos e,aaK,aaK]
   rfl
  |false=>
   walk_at "rd"
   refine kr _ _ ⟨rfl,?_⟩
   rw[aZ hw,if_neg (by rw[e];simp),abf]
 rintro acc M4 ⟨rfl,hacc⟩
 rw[aas,aa4]at hacc
 subst hacc
 refine⟨hO,λr hr=>?_⟩
 have ZQ:((bs.filter (jA p)).map nI).length<=200:=by rw[aas];exact abo (abz _ _) ls
 have Yq:∀w∈(bs.filter (jA p)).map nI,∃a b:Pl,w=[a,b]:=λw hw=>by
  obtain⟨v,hv,rfl⟩:=aaI.mp hw
  obtain⟨a,b,rfl,_⟩:=two v (aaw.mp hv).1
  exact⟨b,a,rfl⟩
 generalize (bs.filter (jA p)).map nI=se at *
 have hS:ay M4 r (.lst (se.map tD)) r=some (.lst (se.map tD)):=ah
 have hF:=aj (u:=MO.lst (se.map tD)) hF hr
 have le:=le.trans (Le.new (o:=MO.lst (se.map tD)) hr)
 generalize ay M4 r (.lst (se.map tD))=M5 at hS hF le ⊢
 walk_at "rd"
 refine⟨fs,hF,hT,by omega,λd hd=>?_⟩
 have ld:=lC fs
 have hD:ay M5 d (.lst ((aS fs).map tD)) d=some (.lst ((aS fs).map tD)):=ah
 have hS:=aj (u:=MO.lst ((aS fs).map tD)) hS hd
 have le:=le.trans (Le.new (o:=MO.lst ((aS fs).map tD)) hd)
 generalize ay M5 d (.lst ((aS fs).map tD))=M6 at hS hD le ⊢
 walk_at "rd"
 refine⟨d,r,_,_,rfl,rfl,hD,hS,by rw[aas,aas];omega,λu kj=>?_⟩
 rw[<-aaK]
 have lw:(aS fs++se).length<=900:=by rw[aaA];omega
 have Yr:∀w∈aS fs++se,∃a b:Pl,w=[a,b]:=λw hw=>by
  rcases aaF.mp hw with hw|hw
  ·obtain⟨a,b,e,_⟩:=tH w hw
   exact⟨a,b,e⟩
  ·exact Yq w hw
 generalize aS fs++se=ws at *
 have hW:ay M6 u (.lst (ws.map tD)) u=some (.lst (ws.map tD)):=ah
 have le:=le.trans (Le.new (o:=MO.lst (ws.map tD)) kj)
 generalize ay M6 u (.lst (ws.map tD))=M7 at hW le ⊢
 walk_at "rd"
 refine⟨u,_,rfl,hW,by rw[aas];omega,bM.mk (bU (λj acc M8=>M8=M7/\acc=((ws.take j).filter (λw=>decide (nI w∉ws))).map tD) _ ?_ ?_ ⟨rfl,rfl⟩)⟩
 ·rintro j x acc M8 N2 iQ ⟨rfl,rfl⟩ kr
  obtain⟨w,hw,rfl⟩:=eK iQ
  obtain⟨a,b,rfl⟩:=Yr w (aaC hw)
  refine⟨hW,?_⟩
  walk_at "rd"
  refine⟨_,.inr ⟨u,rfl,hW⟩,pR _,bg ws,?_⟩
  walk_at "rd"
  rw[xE,if_pos rfl]
  by_cases u9:[b,a]∈ws
  ·rw[decide_eq_true u9]
   walk_at "rd"
   refine kr _ _ ⟨rfl,?_⟩
   rw[aZ hw,if_neg (λz=>of_decide_eq_true (p:=nI [a,b]∉ws) z u9),abf]
  ·rw[decide_eq_false u9]
   walk_at "rd"
   refine kr _ _ ⟨rfl,?_⟩
   rw[aZ hw,if_pos (decide_eq_true (show nI [a,b]∉ws from u9)),aaK]
   rfl
 rintro acc M8 ⟨rfl,hacc⟩
 rw[aas,aa4]at hacc
 subst hacc
 refine⟨hW,λx hx=>?_⟩
 walk_at "rd"
 exact bM.mk ⟨_,Le.refl _,h x _ (le.trans (Le.new hx)) ah⟩
theorem wz(T:Txt K mg t):Binds K t.mH ["places","net","p"] []:=T.lT.binds λ_ _ _ _ _ _ us hl=>match us,hl with|[_,_,_],_=>rfl
def BO(R:Addr):QX:=λds M Q C=>∃(l n:Addr) (p:Pl),ds=[.ref l,.ref n,p.d]/\∃ps:List Pl,M l=some (.lst (ps.map Pl.d))/\p∈ps/\C R "place" p.d M
theorem Ah(T:Txt K mg t):cz P w K mg base (Nu P w) 7 t.oS t.mH ["places","net","p"] (RH K (BO t.cg)):=by
 refine X3 T.lT gX (λds M Q C h=>by(first|(obtain⟨_,rfl,_⟩:=h;rfl)|(obtain⟨_,_,rfl,_⟩:=h;rfl)|(obtain⟨_,_,_,rfl,_⟩:=h;rfl)|(obtain⟨_,_,_,_,rfl,_⟩:=h;rfl)|(obtain⟨_,_,_,_,_,rfl,_⟩:=h;rfl)|(obtain⟨_,_,_,_,_,_,rfl,_⟩:=h;rfl)|(obtain⟨_,_,_,_,_,_,_,rfl,_⟩:=h;rfl))) (λcdv A outer s H hr=>?_)
 have hu:=hr.units
 refine⟨_,(J2 (QW (aU (Dp hu) (af 2) (af 0) (by with_unfolding_all rfl)) (Nv (Hv T.yi T.HE T.HF (BI T) (hr.mono (by decide)) rfl (by rfl) T.zU (Ec T) (aa (af 2) ak))) (QV bA)) Hs),λds M Q C h=>?_⟩
 obtain⟨l,n,p,rfl,ps,hM,mp,h⟩:=h
 walk_at "rd"
 refine⟨_,.inr ⟨l,rfl,hM⟩,rfl,bC ps,?_⟩
 walk_at "rd"
 rw[if_neg (by decide),gO,decide_eq_true mp]
 walk_at "rd"
 exact h
theorem aW{M:Mp}{a b:Addr}{o:MO}(h:M b=some o)(k:M a=none):a≠b:=λz=>by rw[z,h]at k;cases k
def HN:wM:=λds M Q=>∃(l n:Addr) (p:Pl),ds=[.ref l,.ref n,p.d]/\∃(ps:List Pl) (ns:List (List Pl)),M l=some (.lst (ps.map Pl.d))/\M n=some (.lst (ns.map tD))/\ps.Nodup/\ps.length<=20/\(∀q∈ps,q.Ok 140)/\p.Ok 140/\p∉ps/\ns.Nodup/\(∀t,t∈ns↔gK ps t/\v7 ps t)/\∀(f c b:Addr) (fl cm us:List (List Pl)) (M':Mp),Le M M'->M' f=some (.lst (fl.map tD))->M' c=some (.lst (cm.map tD))->M' b=some (.lst (us.map tD))->(∀t∈fl,t∈ns)->(∀t∈cm,t∉ns)->us.Perm (ns.filter (λt=>decide (t∉fl))++cm)->us.Nodup->(∀t,t∈us↔gK (ps++[p]) t/\v7 (ps++[p]) t)->us.Pairwise (λp q=>cX q p=false)->us.length<=44->fl.length<=44->M f=none->M c=none->M b=none->f≠c->f≠b->c≠b->fl.Perm (ns.filter (qb p))->fl.Pairwise (λp q=>cX q p=false)->cm.Pairwise (λp q=>cX q p=false)->(∀t∈cm,p∈t)->cm.length<=44->Q (.tup [.ref f,.ref c,.ref b]) M'
theorem Eg(T:Txt K mg t):cz P w K mg base gJ 7 t.oS t.mH ["places","net","p"] (yN K HN):=by
 refine AN T.lT gX (λds M Q h=>by(first|(obtain⟨_,rfl,_⟩:=h;rfl)|(obtain⟨_,_,rfl,_⟩:=h;rfl)|(obtain⟨_,_,_,rfl,_⟩:=h;rfl)|(obtain⟨_,_,_,_,rfl,_⟩:=h;rfl)|(obtain⟨_,_,_,_,_,rfl,_⟩:=h;rfl)|(obtain⟨_,_,_,_,_,_,rfl,_⟩:=h;rfl)|(obtain⟨_,_,_,_,_,_,_,rfl,_⟩:=h;rfl))) (λcdv A outer s H hr=>?_)
 have hu:=hr.units
 refine⟨_,(av (cI (aU (Dp hu) (af 2) (af 0) (by with_unfolding_all rfl)) (aB Cd) bA)
  (av (bx (i:=3) gX.nd rfl (Or.inr rfl) (qQ (ig (ys:=["p"]) (fs:=[2]) rfl (by show b8 (au gZ) ["places","net","p","fallen","ways","come","stay"] _ _ _ _=true;decide +kernel) (af 1) (λcl C s0 H0 ex=>j0 (gu (aG (wj T) (hr.mono (by decide)) (by rfl) T.zO T.oW.kp (wg T) (aa (aD (af 0) ai) (aa (aD (af 0) ai) (aa (aD (af 0) ai) (aa (af 1) ak))))))) (λcl C s0 H0 ex=>(af 0)))))
  (av (MB (j:=4) (ig (ys:=["p"]) (fs:=[2]) rfl (by show b8 (au gZ) ["places","net","p","fallen","ways","come","stay"] _ _ _ _=true;decide +kernel) (cU (uY T) (hr.mono (by decide)) (by rfl) T.yg T.jV.kp (uX T) (aa (af 0) (aa (af 3) (aa (af 2) ak)))) (λcl C s0 H0 ex=>j0 (aU (kg hu) (aG (jZ T) (hr.mono (by decide)) (by rfl) T.nO T.jU.kp (jY T) (aa (aD (af 0) ai) (aa (aD (af 0) ai) (aa (af 1) ak)))) ai (aI _))) (λcl C s0 H0 ex=>(af 0))) gX.nd rfl (Or.inl rfl))
  (av (bx (i:=5) gX.nd rfl (Or.inl rfl) (bS (gU (n:=3) (.inr rfl) hu) (by rfl) T.dR bZ (aa (qQ (ig (ys:=["p"]) (fs:=[2]) rfl (by show b8 (au gZ) ["places","net","p","fallen","ways","come","stay"] _ _ _ _=true;decide +kernel) (af 4) (λcl C s0 H0 ex=>Fo) (λcl C s0 H0 ex=>(aG (iP T) (hr.mono (by decide)) (by rfl) T.jm T.dZ.kp (iO T) (aa (aD (af 0) ai) (aa (aD (af 0) ai) (aa (af 1) ak))))))) ak)))
  (av (MB (j:=6) (ig (ys:=["fallen"]) (fs:=[3]) rfl (by show b8 (au gZ) ["places","net","p","fallen","ways","come","stay"] _ _ _ _=true;decide +kernel) (af 1) (λcl C s0 H0 ex=>j0 (aU (l9 hu) (af 0) (af 1) (by with_unfolding_all rfl))) (λcl C s0 H0 ex=>(af 0))) gX.nd rfl (Or.inl rfl))
  (aB (aJ (bR (aa (bS (gU (n:=3) (.inr rfl) hu) (by rfl) T.dR bZ (aa (af 3) ak)) (aa (af 5) (aa (bS (gU (n:=3) (.inr rfl) hu) (by rfl) T.dR bZ (aa (aq oB (af 6) (af 5)) ak)) ak))))))))))),λds M Q h=>?_⟩
 obtain⟨l,n,p,rfl,ps,ns,hM,hN,nd,lp,ho,op,np,N8,Q4,h⟩:=h
 have sl:(1000:Nat)<sizeLine:=by decide
 walk_at "rd"
 refine⟨_,.inr ⟨l,rfl,hM⟩,rfl,bC ps,?_⟩
 walk_at "rd"
 rw[if_neg (by decide),gO,decide_eq_false np]
 have RJ:∀t∈ns,gK ps t:=λt ht=>((Q4 t).mp ht).1
 obtain⟨Oc,ym,hs0⟩:=qe ps nd
 have vY:c8 Oc:=⟨hs0,λq hq=>(ho q (ym.mem_iff.mp hq)).2⟩
 have tq:∀t,gK ps t↔gK Oc t:=λt=>⟨λc=>⟨c.1,λq hq=>ym.mem_iff.mpr (c.2 q hq)⟩,λc=>⟨c.1,λq hq=>ym.mem_iff.mp (c.2 q hq)⟩⟩
 have cq:∀t,v7 ps t↔v7 Oc t:=λt=>⟨λc d hd=>c d (ym.mem_iff.mp hd),λc d hd=>c d (ym.mem_iff.mpr hd)⟩
 have NP:∀t,t∈ns↔gK Oc t/\v7 Oc t:=λt=>by rw[Q4,tq,cq]
 have ln:=CO vY N8 NP
 have ZR:=ym.length_eq
 walk_at "rd"
 refine⟨n,_,rfl,hN,by rw[aas];omega,bM.mk (bU (λj acc M4=>M4=M/\acc=((ns.take j).filter (qb p)).map tD) _ ?_ ?_ ⟨rfl,rfl⟩)⟩
 ·rintro j x acc M4 N2 iQ ⟨rfl,rfl⟩ kr
  obtain⟨t,ht,rfl⟩:=eK iQ
  obtain⟨a,b,c,rfl,pt,ha,hb,hc,_⟩:=(RJ t (aaC ht)).parts
  refine⟨hN,?_⟩
  walk_at "rd"
  refine⟨ho a ha,ho b hb,ho c hc,op,by omega,?_⟩
  walk_at "rd"
  rw[show decide (fO a b c p)=qb p [a,b,c]from rfl]
  cases e:qb p [a,b,c]with
  |true=>
   walk_at "rd"
   refine kr _ _ ⟨rfl,?_⟩
   rw[aZ ht,if_pos e,aaK]
   rfl
  |false=>
   walk_at "rd"
   refine kr _ _ ⟨rfl,?_⟩
   rw[aZ ht,if_neg (by rw[e];simp),abf]
 rintro acc M4 ⟨rfl,hacc⟩
 rw[aas,aa4]at hacc
 subst hacc
 refine⟨hN,λf hf=>?_⟩
 have ZS:(ns.filter (qb p)).length<=ns.length:=abz _ _
 have yE:ay M4 f (.lst ((ns.filter (qb p)).map tD)) f=some (.lst ((ns.filter (qb p)).map tD)):=ah
 have hM:=aj (u:=MO.lst ((ns.filter (qb p)).map tD)) hM hf
 have hN:=aj (u:=MO.lst ((ns.filter (qb p)).map tD)) hN hf
 have le:=Le.new (o:=MO.lst ((ns.filter (qb p)).map tD)) hf
 generalize ay M4 f (.lst ((ns.filter (qb p)).map tD))=M5 at hM hN yE le ⊢
 walk_at "rd"
 refine⟨ps,ns.filter (qb p),hM,yE,by omega,ho,op,λt ht=>(RJ t (aaw.mp ht).1).tr ho,by omega,λr qs M6 RK cB hso hR=>?_⟩
 have hM:=RK _ _ hM
 have hN:=RK _ _ hN
 have yE:=RK _ _ yE
 have le:=le.trans RK
 obtain rfl:qs=Oc:=zj (cB.trans ym.symm) hso (hs0.imp λh=>az h)
 have kv:=lF vY N8 NP
 have V2:p∉qs:=λz=>np (ym.mem_iff.mp z)
 have mX:=λw=>lG (p:=p) (w:=w) vY kv
 have cM:=zF (p:=p) vY kv
 have cN:=Br (p:=p) vY kv
 have cW:=λt h=>G7 (p:=p) (t:=t) vY kv V2 h
 have lX:(uQ (putL qs ns p)).length<=900:=by
  refine abo (abz _ _) ?_
  have l1:=lC (ns.filter (qb p))
  have l2:=qM qs
  have l3:=abz (jA p) (bB (bI qs))
  unfold putL
  rw[aaA,aas]
  omega
 have xq:∀w∈uQ (putL qs ns p),∃a b,w=[a,b]/\a∈ps/\b∈ps:=λw hw=>by
  obtain⟨m,_⟩:=aaw.mp hw
  rcases aaF.mp m with m|m
  ·obtain⟨t,ht,m⟩:=bz.mp m
   obtain⟨a,b,e,ha,hb⟩:=kv.vZ.rF w (bz.mpr ⟨t,(aaw.mp ht).1,m⟩)
   exact⟨a,b,e,ym.mem_iff.mp ha,ym.mem_iff.mp hb⟩
  ·obtain⟨v,hv,rfl⟩:=aaI.mp m
   obtain⟨a,b,rfl,ha,hb⟩:=qL (aaw.mp hv).1
   exact⟨b,a,rfl,ym.mem_iff.mp hb,ym.mem_iff.mp ha⟩
 replace hR:M6 r=some (.lst ((uQ (putL qs ns p)).map tD)):=hR
 generalize uQ (putL qs ns p)=X0 at *
 walk_at "rd"
 refine⟨r,_,rfl,hR,by rw[aas];omega,bM.mk (bU (λj acc M4=>M4=M6/\acc=((X0.take j).filter (G5 p)).map tD) _ ?_ ?_ ⟨rfl,rfl⟩)⟩
 ·rintro j x acc M4 N2 iQ ⟨rfl,rfl⟩ kr
  obtain⟨w,hw,rfl⟩:=eK iQ
  obtain⟨a,b,rfl,ha,hb⟩:=xq w (aaC hw)
  refine⟨hR,?_⟩
  walk_at "rd"
  refine⟨ho a ha,ho b hb,op,?_⟩
  walk_at "rd"
  have eb:L3.eE (.int (tw a b p).sign) (.int 1)=G5 p [a,b]:=by
   rw[eY,aa8]
   unfold G5
   rw[decide_eq_true_eq,beq_iff_eq]
   exact ab2
  rw[eb]
  cases e:G5 p [a,b]with
  |true=>
   walk_at "rd"
   refine kr _ _ ⟨rfl,?_⟩
   rw[aZ hw,if_pos e,aaK]
   rfl
  |false=>
   walk_at "rd"
   refine kr _ _ ⟨rfl,?_⟩
   rw[aZ hw,if_neg (by rw[e];simp),abf]
 rintro acc M7 ⟨rfl,hacc⟩
 rw[aas,aa4]at hacc
 subst hacc
 refine⟨hR,λu kj=>?_⟩
 have ZT:(X0.filter (G5 p)).length<=900:=abo (abz _ _) lX
 generalize X0.filter (G5 p)=ys at *
 have hY:ay M7 u (.lst (ys.map tD)) u=some (.lst (ys.map tD)):=ah
 have hN:=aj (u:=MO.lst (ys.map tD)) hN kj
 have yE:=aj (u:=MO.lst (ys.map tD)) yE kj
 have le:=le.trans (Le.new (o:=MO.lst (ys.map tD)) kj)
 generalize ay M7 u (.lst (ys.map tD))=M8 at hY hN yE le ⊢
 walk_at "rd"
 refine⟨u,_,rfl,hY,by rw[aas];omega,bM.mk (bU (λj acc M4=>M4=M8/\acc=((ys.take j).map (QH p)).map tD) _ ?_ ?_ ⟨rfl,rfl⟩)⟩
 ·rintro j x acc M4 N2 iQ ⟨rfl,rfl⟩ kr
  obtain⟨w,hw,rfl⟩:=eK iQ
  obtain⟨a,b,rfl,w1,_,pos⟩:=(mX w).mp (aaC hw)
  obtain⟨ha,hb⟩:=w1.places kv
  refine⟨hY,?_⟩
  walk_at "rd"
  refine⟨ho a (ym.mem_iff.mp ha),ho b (ym.mem_iff.mp hb),op,by omega,?_⟩
  walk_at "rd"
  refine kr _ _ ⟨rfl,?_⟩
  rw[List.take_add_one,hw,Option.toList_some,aaK,aaK]
  rfl
 rintro acc M9 ⟨rfl,hacc⟩
 rw[aas,aa4]at hacc
 subst hacc
 refine⟨hY,λv hv=>?_⟩
 generalize ys.map (QH p)=cs at *
 have lcs:(ns.filter (λt=>decide (t∉ns.filter (qb p)))++cs).length<=42/\(ns.filter (λt=>decide (t∉ns.filter (qb p)))++cs).Nodup/\∀t,t∈ns.filter (λt=>decide (t∉ns.filter (qb p)))++cs↔gK (ps++[p]) t/\v7 (ps++[p]) t:=by
  have Ys:∀q,q∈ps++[p]↔q∈qs\/q=p:=λq=>by rw[aaF,aav,ym.mem_iff]
  have Qe:(ps++[p]).Nodup:=aa1.mpr ⟨nd,by simp,λx hx y hy e=>by rw[aav]at hy;subst hy;exact np (e▸hx)⟩
  have UN:∀q∈ps++[p],q.Ok 140:=λq hq=>by
   rcases aaF.mp hq with z|z
   ·exact ho q z
   ·rw[aav]at z;subst z;exact op
  have mm:∀t,t∈ns.filter (λt=>decide (t∉ns.filter (qb p)))++cs↔gK (ps++[p]) t/\v7 (ps++[p]) t:=λt=>by
   rw[JR vY N8 NP Ys V2 t,aaF,cM,aaw,decide_eq_true_iff,aaw,<-xV]
   constructor
   ·rintro(⟨h1,h2⟩|h1)
    ·exact .inl ⟨h1,λz=>h2 ⟨h1,z⟩⟩
    ·exact .inr h1
   ·rintro(⟨h1,h2⟩|h1)
    ·exact .inl ⟨h1,λz=>h2 z.2⟩
    ·exact .inr h1
  have nn:(ns.filter (λt=>decide (t∉ns.filter (qb p)))++cs).Nodup:=aa1.mpr ⟨N8.filter _,cN,λx hx y hy e=>by subst e;exact cW x hy (aaw.mp hx).1⟩
  have:=G8 Qe UN nn mm
  rw[aaA (as:=ps)]at this
  simp only[aaX,abW]at this
  exact⟨by omega,nn,mm⟩
 obtain⟨lc,nc,mc⟩:=lcs
 rw[aaA]at lc
 have c3:∀t∈cs,t.length=3:=λt ht=>by
  obtain⟨⟨_,_,_,rfl,_⟩,_⟩:=(cM t).mp ht
  rfl
 have V3:ay M9 v (.lst (cs.map tD)) v=some (.lst (cs.map tD)):=ah
 have hN:=aj (u:=MO.lst (cs.map tD)) hN hv
 have yE:=aj (u:=MO.lst (cs.map tD)) yE hv
 have le:=le.trans (Le.new (o:=MO.lst (cs.map tD)) hv)
 generalize ay M9 v (.lst (cs.map tD))=Jd at V3 hN yE le ⊢
 refine⟨v,cs,rfl,V3,c3,by omega,λc cm hc pc sc=>?_⟩
 have fc:=le.free hc;have hC:ay Jd c (.lst (cm.map tD)) c=some (.lst (cm.map tD)):=ah
 have hN:=aj (u:=MO.lst (cm.map tD)) hN hc
 have yE:=aj (u:=MO.lst (cm.map tD)) yE hc
 have le:=le.trans (Le.new (o:=MO.lst (cm.map tD)) hc)
 generalize ay Jd c (.lst (cm.map tD))=UO at hC hN yE le ⊢
 have lcm:=pc.length_eq
 generalize RL:ns.filter (qb p)=fs at *
 walk_at "rd"
 refine⟨n,_,rfl,hN,by rw[aas];omega,bM.mk (bU (λj acc M4=>M4=UO/\acc=((ns.take j).filter (λt=>decide (t∉fs))).map tD) _ ?_ ?_ ⟨rfl,rfl⟩)⟩
 ·rintro j x acc M4 N2 iQ ⟨rfl,rfl⟩ kr
  obtain⟨t,ht,rfl⟩:=eK iQ
  obtain⟨a,b,c,rfl,_⟩:=(RJ t (aaC ht)).parts
  refine⟨hN,?_⟩
  walk_at "rd"
  refine⟨_,.inr ⟨f,rfl,yE⟩,pR _,bg fs,?_⟩
  walk_at "rd"
  rw[xE,if_pos rfl]
  by_cases u9:[a,b,c]∈fs
  ·rw[decide_eq_true u9]
   walk_at "rd"
   refine kr _ _ ⟨rfl,?_⟩
   rw[aZ ht,if_neg (by rw[decide_eq_true_iff];exact λz=>z u9),abf]
  ·rw[decide_eq_false u9]
   walk_at "rd"
   refine kr _ _ ⟨rfl,?_⟩
   rw[aZ ht,if_pos (decide_eq_true u9),aaK]
   rfl
 rintro acc RM ⟨rfl,hacc⟩
 rw[aas,aa4]at hacc
 subst hacc
 refine⟨hN,λy hy=>?_⟩
 have s3:∀t∈ns,t.length=3:=λt ht=>by
  obtain⟨_,_,_,rfl,_⟩:=(RJ t ht).parts
  rfl
 have fn:∀t∈fs,t∈ns:=λt ht=>by rw[<-RL]at ht;exact(aaw.mp ht).1
 have st3:∀t∈ns.filter (λt=>decide (t∉fs))++cm,t.length=3:=λt ht=>by
  rcases aaF.mp ht with z|z
  ·exact s3 t (aaw.mp z).1
  ·exact c3 t (pc.mem_iff.mp z)
 have pm:(ns.filter (λt=>decide (t∉fs))++cm).Perm (ns.filter (λt=>decide (t∉fs))++cs):=List.Perm.append_left _ pc
 generalize Yt:ns.filter (λt=>decide (t∉fs))=st at *
 have hS:ay RM y (.lst (st.map tD)) y=some (.lst (st.map tD)):=ah
 have hC:=aj (u:=MO.lst (st.map tD)) hC hy
 have yE:=aj (u:=MO.lst (st.map tD)) yE hy
 have le:=le.trans (Le.new (o:=MO.lst (st.map tD)) hy)
 generalize ay RM y (.lst (st.map tD))=Q5 at hC hS yE le ⊢
 walk_at "rd"
 refine⟨f,fs,rfl,yE,λt ht=>s3 t (fn t ht),by omega,λg fl hg pf sf=>?_⟩
 have fg:=le.free hg;have Yu:g≠c:=aW hC hg;have hG:ay Q5 g (.lst (fl.map tD)) g=some (.lst (fl.map tD)):=ah
 have hC:=aj (u:=MO.lst (fl.map tD)) hC hg
 have hS:=aj (u:=MO.lst (fl.map tD)) hS hg
 have le:=le.trans (Le.new (o:=MO.lst (fl.map tD)) hg)
 generalize ay Q5 g (.lst (fl.map tD))=RN at hC hS hG le ⊢
 walk_at "rd"
 refine⟨y,c,_,_,rfl,rfl,hS,hC,by rw[aas,aas];omega,λe he=>?_⟩
 rw[<-aaK]
 have hE:ay RN e (.lst ((st++cm).map tD)) e=some (.lst ((st++cm).map tD)):=ah
 have hC:=aj (u:=MO.lst ((st++cm).map tD)) hC he
 have hG:=aj (u:=MO.lst ((st++cm).map tD)) hG he
 have le:=le.trans (Le.new (o:=MO.lst ((st++cm).map tD)) he)
 generalize ay RN e (.lst ((st++cm).map tD))=RO at hC hG hE le ⊢
 walk_at "rd"
 refine⟨e,st++cm,rfl,hE,st3,by rw[aaA];omega,λb us hb pu su=>?_⟩
 have fb:=le.free hb;have RP:c≠b:=(aW hC hb).symm;have Yv:g≠b:=(aW hG hb).symm;have hC:=aj (u:=MO.lst (us.map tD)) hC hb
 have hG:=aj (u:=MO.lst (us.map tD)) hG hb
 have le:=le.trans (Le.new (o:=MO.lst (us.map tD)) hb)
 have hB:ay RO b (.lst (us.map tD)) b=some (.lst (us.map tD)):=ah
 generalize ay RO b (.lst (us.map tD))=UP at hC hG hB le ⊢
 walk_at "rd"
 refine bM.mk ⟨_,Le.refl _,h g c b fl cm us _ le hG hC hB (λt ht=>fn t (pf.mem_iff.mp ht)) (λt ht=>cW t (pc.mem_iff.mp ht)) ?_ ((pu.trans pm).nodup_iff.mpr nc) (λt=>((pu.trans pm).mem_iff).trans (mc t)) su ?_ (by rw[pf.length_eq];omega) fg fc fb Yu Yv RP (RL▸pf) sf sc (λt ht=>by obtain⟨_,a,b,r,_⟩:=(cM t).mp (pc.mem_iff.mp ht);exact(r.mem p).mpr (.inr (.inr rfl))) (by omega)⟩
 ·rw[show(λt=>decide (t∉fl))=λt=>decide (t∉fs)from funext λt=>decide_eq_decide.mpr (not_congr pf.mem_iff),Yt]
  exact pu
 ·have:=(pu.trans pm).length_eq
  rw[aaA]at this
  omega
theorem fH(T:Txt K mg t):Binds K t.fm ["_law_found","_law_places"] []:=T.cY.binds λ_ _ _ _ _ _ us hl=>match us,hl with|[_,_],_=>rfl
def qv:wM:=λds M Q=>∃(f l:Addr) (fs:List (List Pl)) (ps:List Pl),ds=[.ref f,.ref l]/\M f=some (.lst (fs.map tD))/\M l=some (.lst (ps.map Pl.d))/\fs.length<64/\fs.Pairwise (λa b=>cX b a=false)/\(∀t∈fs,dY t/\∀p∈t,p∈ps)/\Q (.bl true) M
theorem fJ(T:Txt K mg t):cz P w K mg base gJ 1 t.fY t.fm ["_law_found","_law_places"] (yN K qv):=by
 refine AN T.cY fG (λds M Q h=>by(first|(obtain⟨_,rfl,_⟩:=h;rfl)|(obtain⟨_,_,rfl,_⟩:=h;rfl)|(obtain⟨_,_,_,rfl,_⟩:=h;rfl)|(obtain⟨_,_,_,_,rfl,_⟩:=h;rfl)|(obtain⟨_,_,_,_,_,rfl,_⟩:=h;rfl)|(obtain⟨_,_,_,_,_,_,rfl,_⟩:=h;rfl)|(obtain⟨_,_,_,_,_,_,_,rfl,_⟩:=h;rfl))) (λcdv A outer s H hr=>?_)
 have hu:=hr.units
 refine⟨_,(av (cI (uF.pt (qP (k_not (gu (bS vq (by rfl) T.aY aN (aa (af 0) (aa (nj (by rfl) T.gQ c6) ak))))) (mT (aU (nC hu) (af 0) (bS (gU (n:=3) (.inr rfl) hu) (by rfl) T.dR bZ (aa (af 0) ak)) (aI _))))) (aB (aJ gM)) bA)
  (av (sA PassesOwn.never rfl (af 0) (bO (i:=2) fG.nd rfl (Or.inl rfl)) (av (cI (uF.pt (qP (k_not (gu (bS vq (by rfl) T.aY aN (aa (af 2) (aa (nj (by rfl) T.uq kQ) ak))))) (mT (aU (AJ hu) (bS kN (by rfl) T.iM cV (aa (af 2) ak)) ai (aI _))))) (aB (aJ gM)) bA)
  (aB (Mr PassesOwn.never rfl (af 2) (bO (i:=3) fG.nd rfl (Or.inl rfl)) (av (cI (uF.pt (qP (k_not (gu (bS vq (by rfl) T.aY aN (aa (af 3) (aa (nj (by rfl) T.uq kQ) ak))))) (mT (aU (l9 hu) (af 3) (af 1) (by with_unfolding_all rfl))))) (aB (aJ gM)) bA)
  (aB (cI (uF.pt (qP (gu (bS vq (by rfl) T.aY aN (aa (aD (af 3) ai) (aa (nj (by rfl) T.CV sC) ak)))) (mT (gu (bS vq (by rfl) T.aY aN (aa (aD (af 3) ai) (aa (nj (by rfl) T.CV sC) ak))))))) (aB (aJ gM)) bA)))))))
  (aB (aJ gM)))),λds M Q h=>?_⟩
 obtain⟨f,l,fs,ps,rfl,hf,hM,h64,j4,hfs,h⟩:=h
 walk_at "rd"
 refine⟨_,_,_,true,rfl,.lst hf,nZ,?_⟩
 walk_at "rd"
 refine⟨f,fs,rfl,hf,λt ht=>?_,h64,λp gs hp cB hs2=>?_⟩
 ·obtain⟨⟨u,v,w,rfl,_⟩,_⟩:=hfs t ht
  rfl
 obtain rfl:=iV cB hs2 j4
 refine⟨_,_,.of (aj hf hp),.of ah,bg _,bg _,?_⟩
 walk_at "rd"
 rw[cC (bg _)]
 refine ER ?_
 have hf2:=aj (u:=MO.lst (gs.map tD)) hf hp
 have HU:=aj (u:=MO.lst (gs.map tD)) hM hp
 have le:Le M (ay M p (.lst (gs.map tD))):=Le.new hp
 generalize ay M p (.lst (gs.map tD))=M2 at hf2 HU le ⊢
 walk_at "rd"
 refine⟨f,_,rfl,hf2,?_⟩
 refine cJ (λi ρ M'=>M'=M2/\∃y1 y2:Option L3.D,ρ=[some (.ref f),some (.ref l),y1,y2]) _ ?_ ?_ ⟨rfl,_,_,rfl⟩
 ·rintro i x ρ M' N hx ⟨rfl,y1,y2,rfl⟩ hN
  obtain⟨t,ht,rfl⟩:=eK hx
  obtain⟨⟨u,v,w,rfl,_⟩,hmem⟩:=hfs t (aaC ht)
  refine⟨hf2,?_⟩
  walk_at "rd"
  refine⟨_,.inr ⟨l,rfl,HU⟩,rfl,bC ps,?_⟩
  walk_at "rd"
  rw[if_pos rfl,gO,decide_eq_true (hmem u (by simp))]
  refine ER ?_
  walk_at "rd"
  refine⟨_,_,_,false,rfl,.int _,by rfl,?_⟩
  walk_at "rd"
  refine⟨_,_,_,false,rfl,.int _,by rfl,?_⟩
  walk_at "rd"
  refine⟨_,.inr ⟨l,rfl,HU⟩,rfl,bC ps,?_⟩
  walk_at "rd"
  rw[if_pos rfl,gO,decide_eq_true (hmem v (by simp))]
  refine ER ?_
  walk_at "rd"
  refine⟨_,_,_,false,rfl,.int _,by rfl,?_⟩
  walk_at "rd"
  refine⟨_,_,_,false,rfl,.int _,by rfl,?_⟩
  walk_at "rd"
  refine⟨_,.inr ⟨l,rfl,HU⟩,rfl,bC ps,?_⟩
  walk_at "rd"
  rw[if_pos rfl,gO,decide_eq_true (hmem w (by simp))]
  refine ER ?_
  walk_at "rd"
  refine⟨_,_,_,false,rfl,.int _,by rfl,?_⟩
  walk_at "rd"
  refine⟨_,_,_,false,rfl,.int _,by rfl,?_⟩
  walk_at "rd"
  exact hN _ _ ⟨rfl,_,_,rfl⟩
 ·rintro ρ M' ⟨rfl,y1,y2,rfl⟩
  refine⟨hf2,?_⟩
  walk_at "rd"
  exact bM.mk ⟨_,le,h⟩
theorem eg(T:Txt K mg t):Binds K t.jh ["_law_a","_law_b","_law_c"] []:=T.c7.binds λ_ _ _ _ _ _ us hl=>match us,hl with|[_,_,_],_=>rfl
def yx:wK:=λds Q=>∃a b c:Pl,ds=[a.d,b.d,c.d]/\a.Ok 140/\b.Ok 140/\c.Ok 140/\Q (.int (tw a b c))
theorem er(T:Txt K mg t):cz P w K mg base gJ 1 t.jS t.jh ["_law_a","_law_b","_law_c"] (vt K yx):=by
 refine AM T.c7 uU (λds Q h=>by(first|(obtain⟨_,rfl,_⟩:=h;rfl)|(obtain⟨_,_,rfl,_⟩:=h;rfl)|(obtain⟨_,_,_,rfl,_⟩:=h;rfl)|(obtain⟨_,_,_,_,rfl,_⟩:=h;rfl)|(obtain⟨_,_,_,_,_,rfl,_⟩:=h;rfl)|(obtain⟨_,_,_,_,_,_,rfl,_⟩:=h;rfl)|(obtain⟨_,_,_,_,_,_,_,rfl,_⟩:=h;rfl))) (λcdv A outer s H hr=>?_)
 have hu:=hr.units
 refine⟨_,(aB (aJ (aq cR (aq bW (aq cR (aD (af 1) ai) (aD (af 0) ai)) (aq cR (aD (af 2) ai) (aD (af 0) ai))) (aq bW (aq cR (aD (af 1) ai) (aD (af 0) ai)) (aq cR (aD (af 2) ai) (aD (af 0) ai)))))),λds Q h=>?_⟩
 obtain⟨a,b,c,rfl,⟨a1,a2⟩,⟨b1,b2⟩,⟨c1,c2⟩,h⟩:=h
 unfold tw at h
 walk_at "rd"
 exact h
theorem uD(T:Txt K mg t):Binds K t.iJ ["_law_a","_law_b","_law_c","_law_d"] []:=T.jn.binds λ_ _ _ _ _ _ us hl=>match us,hl with|[_,_,_,_],_=>rfl
def uZ:wK:=λds Q=>∃a b c d:Pl,ds=[a.d,b.d,c.d,d.d]/\a.Ok 140/\b.Ok 140/\c.Ok 140/\d.Ok 140/\Q (.int (dep a b c d))
theorem uE(T:Txt K mg t):cz P w K mg base gJ 2 t.ji t.iJ ["_law_a","_law_b","_law_c","_law_d"] (vt K uZ):=by
 refine AM T.jn bP (λds Q h=>by(first|(obtain⟨_,rfl,_⟩:=h;rfl)|(obtain⟨_,_,rfl,_⟩:=h;rfl)|(obtain⟨_,_,_,rfl,_⟩:=h;rfl)|(obtain⟨_,_,_,_,rfl,_⟩:=h;rfl)|(obtain⟨_,_,_,_,_,rfl,_⟩:=h;rfl)|(obtain⟨_,_,_,_,_,_,rfl,_⟩:=h;rfl)|(obtain⟨_,_,_,_,_,_,_,rfl,_⟩:=h;rfl))) (λcdv A outer s H hr=>?_)
 have hu:=hr.units
 refine⟨_,(av (bx (i:=4) bP.nd rfl (Or.inl rfl) ai)
  (av (IX PassesOwn.never rfl (aa (bR (aa (af 0) (aa (af 1) (aa (af 2) ak)))) (aa (bR (aa (af 1) (aa (af 2) (aa (af 0) ak)))) (aa (bR (aa (af 2) (aa (af 0) (aa (af 1) ak)))) ak))) (yP rfl (di (bO (i:=5) bP.nd rfl (Or.inl rfl)) (di (bO (i:=6) bP.nd rfl (Or.inl rfl)) (di (bO (i:=7) bP.nd rfl (Or.inl rfl)) sy)))) (av (bx (i:=8) bP.nd rfl (Or.inl rfl) (aq cR (aD (af 7) ai) (aD (af 3) ai)))
  (av (bx (i:=9) bP.nd rfl (Or.inl rfl) (aq cR (aD (af 7) ai) (aD (af 3) ai)))
  (aB (bx (i:=4) bP.nd rfl (Or.inl rfl) (aq cA (af 4) (aq bW (aq cA (aq bW (af 8) (af 8)) (aq bW (af 9) (af 9))) (aG (er T) (hr.mono (by decide)) (by rfl) T.fB T.c7.kp (eg T) (aa (af 3) (aa (af 5) (aa (af 6) ak)))))))))))
  (aB (aJ (af 4))))),λds Q h=>?_⟩
 obtain⟨a,b,c,d,rfl,ha,hb,hc,hd,h⟩:=h
 obtain⟨d1,d2⟩:=id hd
 walk_at "rd"
 refine bM.mk (cJ (λi ρ M'=>∃y1 y2 y3 y4 y5:Option L3.D,ρ=[some a.d,some b.d,some c.d,some d.d,some (.int (xr a b c d i)),y1,y2,y3,y4,y5]) _ ?_ ?_ ⟨_,_,_,_,_,rfl⟩)
 ·rintro i x ρ M' N hx ⟨y1,y2,y3,y4,y5,rfl⟩ hN
  obtain⟨p,q,f,rfl,hp,hq,hf,he⟩:∃p q f:Pl,x= .tup [p.d,q.d,f.d]/\p.Ok 140/\q.Ok 140/\f.Ok 140/\xr a b c d (i+1)=xr a b c d i+((f.x-d.x)*(f.x-d.x)+(f.y-d.y)*(f.y-d.y))*tw d p q:=by
   match i,hx with
   |0,e=>exact⟨a,b,c,(Option.some.inj e).symm,ha,hb,hc,rfl⟩
   |1,e=>exact⟨b,c,a,(Option.some.inj e).symm,hb,hc,ha,rfl⟩
   |2,e=>exact⟨c,a,b,(Option.some.inj e).symm,hc,ha,hb,rfl⟩
  have t1:=Cj hd hp hq
  obtain⟨f1,f2⟩:=id hf
  refine⟨trivial,?_⟩
  walk_at "rd"
  refine⟨hd,hp,hq,?_⟩
  walk_at "rd"
  refine hN _ _ ⟨some p.d,some q.d,some f.d,some (.int (f.x-d.x)),some (.int (f.y-d.y)),?_⟩
  rw[he]
  rfl
 ·rintro ρ M' ⟨y1,y2,y3,y4,y5,rfl⟩
  refine⟨trivial,?_⟩
  walk_at "rd"
  have e:dep a b c d=xr a b c d 3:=FO a b c d
  rw[e]at h
  exact h
theorem lZ(T:Txt K mg t):Binds K t.iK ["_law_triangle","_law_d"] []:=T.gi.binds λ_ _ _ _ _ _ us hl=>match us,hl with|[_,_],_=>rfl
def u5:wK:=λds Q=>∃a b c d:Pl,ds=[tD [a,b,c],d.d]/\a.Ok 140/\b.Ok 140/\c.Ok 140/\d.Ok 140/\aQ a b/\aQ a c/\0<tw a b c/\Q (.bl (decide (fO a b c d)))
theorem l5(T:Txt K mg t):cz P w K mg base gJ 3 t.jj t.iK ["_law_triangle","_law_d"] (vt K u5):=by
 refine AM T.gi dM (λds Q h=>by(first|(obtain⟨_,rfl,_⟩:=h;rfl)|(obtain⟨_,_,rfl,_⟩:=h;rfl)|(obtain⟨_,_,_,rfl,_⟩:=h;rfl)|(obtain⟨_,_,_,_,rfl,_⟩:=h;rfl)|(obtain⟨_,_,_,_,_,rfl,_⟩:=h;rfl)|(obtain⟨_,_,_,_,_,_,rfl,_⟩:=h;rfl)|(obtain⟨_,_,_,_,_,_,_,rfl,_⟩:=h;rfl))) (λcdv A outer s H hr=>?_)
 have hu:=hr.units
 refine⟨_,(av (E5 (af 0) (yP rfl (di (bO (i:=2) dM.nd rfl (Or.inl rfl)) (di (bO (i:=3) dM.nd rfl (Or.inl rfl)) (di (bO (i:=4) dM.nd rfl (Or.inl rfl)) sy)))))
  (av (cI (aU (Dp hu) (af 1) (af 0) (by with_unfolding_all rfl)) (aB (aJ gM)) bA)
  (av (bx (i:=5) dM.nd rfl (Or.inl rfl) (aG (uE T) (hr.mono (by decide)) (by rfl) T.uS T.jn.kp (uD T) (aa (af 2) (aa (af 3) (aa (af 4) (aa (af 1) ak))))))
  (av (cI (aU (AJ hu) (af 5) ai (aI _)) (aB (aJ (kK L7 (af 5) ai (aI _)))) bA)
  (aB (aJ (OY (kK (nY hu) (af 1) (af 2) (aI _)) (yK (kK (nY hu) (aG (er T) (hr.mono (by decide)) (by rfl) T.fB T.c7.kp (eg T) (aa (af 3) (aa (af 4) (aa (af 1) ak)))) ai (aI _)))))))))),λds Q h=>?_⟩
 obtain⟨a,b,c,d,rfl,ha,hb,hc,hd,b1,b2,ht,h⟩:=h
 walk_at "rd"
 rw[gO]
 refine dU (λk=>?_) (λk=>?_)
 ·walk_at "rd"
  rw[decide_eq_false (Jm ht (by simpa using of_decide_eq_true k))]at h
  exact h
 have k:¬(d=a\/d=b\/d=c):=λz=>k (decide_eq_true (by simpa using z))
 walk_at "rd"
 refine⟨ha,hb,hc,hd,?_⟩
 walk_at "rd"
 rw[AR]
 refine dU (λq=>?_) (λq=>?_)
 ·have q:=of_decide_eq_true q
  walk_at "rd"
  have e:decide (fO a b c d)=decide (0<dep a b c d):=by
   rw[decide_eq_decide,IP (by omega) q,wU ht]
   exact ab2
  rw[e]at h
  exact h
 have q:dep a b c d=0:=by
  apply aaq
  intro z
  exact q (decide_eq_true z)
 rw[DB b1 b2 ht k q]at h
 walk_at "rd"
 rw[oi]
 refine dU (λw=>?_) (λw=>?_)
 ·rw[decide_eq_true (of_decide_eq_true w)]at h
  exact h
 have w:decide (aQ d a)=false:=by simpa using w
 rw[w]at h
 walk_at "rd"
 refine⟨hb,hc,hd,?_⟩
 walk_at "rd"
 exact h
theorem l6(T:Txt K mg t):Binds K t.iL ["_law_places","_law_found"] []:=T.gj.binds λ_ _ _ _ _ _ us hl=>match us,hl with|[_,_],_=>rfl
def u6:wM:=λds M Q=>∃(l f:Addr) (ps:List Pl) (fs:List (List Pl)),ds=[.ref l,.ref f]/\M l=some (.lst (ps.map Pl.d))/\M f=some (.lst (fs.map tD))/\ps.Nodup/\ps.length<=17/\(∀q∈ps,q.Ok 140)/\fs.Nodup/\(∀t,t∈fs↔gK ps t/\v7 ps t)/\fs.Pairwise (λp q=>cX q p=false)/\fs.length<=44/\Q (.bl true) M
theorem l7(T:Txt K mg t):cz P w K mg base gJ 4 t.jk t.iL ["_law_places","_law_found"] (yN K u6):=by
 refine AN T.gj bQ (λds M Q h=>by(first|(obtain⟨_,rfl,_⟩:=h;rfl)|(obtain⟨_,_,rfl,_⟩:=h;rfl)|(obtain⟨_,_,_,rfl,_⟩:=h;rfl)|(obtain⟨_,_,_,_,rfl,_⟩:=h;rfl)|(obtain⟨_,_,_,_,_,rfl,_⟩:=h;rfl)|(obtain⟨_,_,_,_,_,_,rfl,_⟩:=h;rfl)|(obtain⟨_,_,_,_,_,_,_,rfl,_⟩:=h;rfl))) (λcdv A outer s H hr=>?_)
 have hu:=hr.units
 refine⟨_,(av (cI (k_not (gu (cU (fJ T) (hr.mono (by decide)) (by rfl) T.gb T.cY.kp (fH T) (aa (af 1) (aa (af 0) ak))))) (aB (aJ gM)) bA)
  (av (bx (i:=2) bQ.nd rfl (Or.inl rfl) MU)
  (av (sA PassesOwn.never rfl (af 1) (yP rfl (di (bO (i:=3) bQ.nd rfl (Or.inr rfl)) (di (bO (i:=4) bQ.nd rfl (Or.inr rfl)) (di (bO (i:=5) bQ.nd rfl (Or.inr rfl)) sy)))) (av (cI (uF.pt (qP (k_not (aU (nY hu) (af 3) (bS (MA hu rfl) (by rfl) T.NH Dt (aa (af 4) (aa (af 5) ak))) (aI _))) (mT (aU SW (aG (er T) (hr.mono (by decide)) (by rfl) T.fB T.c7.kp (eg T) (aa (af 3) (aa (af 4) (aa (af 5) ak)))) ai (aI _))))) (aB (aJ gM)) bA)
  (av (cI (aU (nC hu) (qQ (ig (ys:=["_law_a","_law_b","_law_c"]) (fs:=[3,4,5]) rfl (by show b8 (au c9) ["_law_places","_law_found","_law_sides","_law_a","_law_b","_law_c","_law_side"] _ _ _ _=true;decide +kernel) (af 0) (λcl C s0 H0 ex=>j0 (gu (aG (l5 T) (hr.mono (by decide)) (by rfl) T.m5 T.gi.kp (lZ T) (aa (bR (aa (af 1) (aa (af 2) (aa (af 3) ak)))) (aa (af 0) ak))))) (λcl C s0 H0 ex=>(af 0)))) (cK ak) (aI _)) (aB (aJ gM)) bA)
  (aB (Ms PassesOwn.never rfl (aa (bR (aa (af 3) (aa (af 4) ak))) (aa (bR (aa (af 4) (aa (af 5) ak))) (aa (bR (aa (af 5) (aa (af 3) ak))) ak))) (bO (i:=6) bQ.nd rfl (Or.inl rfl)) (av (cI (aU (JC hu) (af 6) (af 2) (by with_unfolding_all rfl)) (aB (aJ gM)) bA)
  (aB (E5 gM (MV hu (af 2) (af 6))))))))))
  (av (MX PassesOwn.never rfl (af 2) (yP rfl (di (bO (i:=3) bQ.nd rfl (Or.inr rfl)) (di (bO (i:=4) bQ.nd rfl (Or.inr rfl)) sy))) (aB (cI (uF.pt (KL (aU (Bf hu) (bR (aa (af 4) (aa (af 3) ak))) (af 2) (by with_unfolding_all rfl)) (EW (aU (nC hu) (qQ (ig (ys:=["_law_a","_law_b"]) (fs:=[3,4]) rfl (by show b8 (au c9) ["_law_places","_law_found","_law_sides","_law_a","_law_b","_law_c","_law_side"] _ _ _ _=true;decide +kernel) (af 0) (λcl C s0 H0 ex=>j0 (aU (nY hu) (aG (er T) (hr.mono (by decide)) (by rfl) T.fB T.c7.kp (eg T) (aa (af 1) (aa (af 2) (aa (af 0) ak)))) ai (aI _))) (λcl C s0 H0 ex=>(af 0)))) (cK ak) (aI _))))) (aB (aJ gM)) bA)))
  (aB (aJ (OY (kK (nC hu) (af 1) (cK ak) (aI _)) (yK (kK (PX hu) (qQ (ig (ys:=["_law_places"]) (fs:=[0]) rfl (by show b8 (au c9) ["_law_places","_law_found","_law_sides","_law_a","_law_b","_law_c","_law_side"] _ _ _ _=true;decide +kernel) (af 0) (λcl C s0 H0 ex=>j0 (aU (AJ hu) (aG (er T) (hr.mono (by decide)) (by rfl) T.fB T.c7.kp (eg T) (aa (aD (af 1) ai) (aa (aD (af 1) (eX ai)) (aa (af 0) ak)))) ai (aI _))) (λcl C s0 H0 ex=>(af 0)))) (cK ak) (aI _)))))))))),λds M Q h=>?_⟩
 obtain⟨l,f,ps,fs,rfl,hM,hF,nd,lp,ho,Yw,mf,sf,lf,h⟩:=h
 have sl:(1000:Nat)<sizeLine:=by decide
 obtain⟨qs,hq,hs⟩:=qe ps nd
 have vY:c8 qs:=⟨hs,λq m=>(ho q (hq.mem_iff.mp m)).2⟩
 have mq:∀t,t∈fs↔gK qs t/\v7 qs t:=λt=>(mf t).trans (and_congr ⟨λc=>⟨c.1,λq m=>hq.mem_iff.mpr (c.2 q m)⟩,λc=>⟨c.1,λq m=>hq.mem_iff.mp (c.2 q m)⟩⟩ ⟨λc d hd=>c d (hq.mem_iff.mp hd),λc d hd=>c d (hq.mem_iff.mpr hd)⟩)
 have kv:=lF vY Yw mq
 walk_at "rd"
 refine⟨f,l,fs,ps,rfl,hF,hM,by omega,sf,λt ht=>((mf t).mp ht).1,?_⟩
 walk_at "rd"
 intro p hp
 have le:=Le.new (o:=MO.mQ []) hp
 have hP:ay M p (.mQ []) p=some (.mQ []):=ah
 generalize ay M p (.mQ [])=M1 at le hP ⊢
 walk_at "rd"
 refine⟨f,_,rfl,le _ _ hF,?_⟩
 refine cJ (λi ρ M'=>(∃y3 y4 y5 y6:Option L3.D,ρ=[some (.ref l),some (.ref f),some (.ref p),y3,y4,y5,y6])/\Le M M'/\M' p=some (.mQ (yD (aS (fs.take i))))) _ ?_ ?_ ⟨⟨_,_,_,_,rfl⟩,le,hP⟩
 ·rintro i x ρ M' N hx ⟨⟨y3,y4,y5,y6,rfl⟩,le,hP⟩ hN
  obtain⟨t,ht,rfl⟩:=eK hx
  have mt:=aaC ht
  obtain⟨⟨⟨a,b,c,rfl,b1,b2,pt⟩,hin⟩,cl⟩:=(mf t).mp mt
  have ha:=hin a (by simp)
  have hb:=hin b (by simp)
  have hc:=hin c (by simp)
  refine⟨le _ _ hF,?_⟩
  walk_at "rd"
  refine⟨[b,c],rfl,by show 2<=2;decide,by show 2<=4;decide,?_⟩
  obtain⟨m,em,hm⟩:=QI b c
  rw[em]
  have bm:aQ a m:=by rcases hm with rfl|rfl<;>assumption
  walk_at "rd"
  rw[oi,decide_eq_true bm]
  walk_at "rd"
  refine⟨ho a ha,ho b hb,ho c hc,?_⟩
  walk_at "rd"
  refine dU (λk=>absurd (of_decide_eq_true k) (by omega)) (λ_=>?_)
  walk_at "rd"
  refine⟨l,_,rfl,le _ _ hM,by rw[aas];omega,bM.mk (bU (λj acc M4=>M4=M'/\acc=[]) _ ?_ ?_ ⟨rfl,rfl⟩)⟩
  ·rintro j x acc M4 N2 iQ ⟨rfl,rfl⟩ kr
   obtain⟨q,hq',rfl⟩:=sV iQ
   have Kr:=aaC hq'
   refine⟨le _ _ hM,?_⟩
   walk_at "rd"
   refine⟨ho a ha,ho b hb,ho c hc,ho q Kr,b1,b2,pt,?_⟩
   rw[decide_eq_false (show¬fO a b c q from cl q Kr)]
   walk_at "rd"
   exact kr _ _ ⟨rfl,rfl⟩
  rintro acc M4 ⟨rfl,rfl⟩
  refine⟨le _ _ hM,λu kj=>?_⟩
  have hP:=aj (u:=MO.lst []) hP kj
  have le:=le.trans (Le.new (o:=MO.lst []) kj)
  have hU:ay M4 u (.lst []) u=some (.lst []):=ah
  generalize ay M4 u (.lst [])=M5 at hP le hU ⊢
  walk_at "rd"
  intro v hv
  refine⟨_,_,.of (aj hU hv),.of ah,rfl,rfl,?_⟩
  have hP:=aj (u:=MO.lst []) hP hv
  have le:=le.trans (Le.new (o:=MO.lst []) hv)
  generalize ay M5 v (.lst [])=M6 at hP le ⊢
  rw[kL]
  have dt:=vN ht
  have V4:(aS (fs.take i)++[[a,b],[b,c],[c,a]]).Nodup:=by
   rw[show([[a,b],[b,c],[c,a]]:List (List Pl))=eL [a,b,c]from rfl,<-dt]
   exact Bs kv.vZ.nd _
  have ld:(aS (fs.take i)).length<=200:=by
   have:=lC (fs.take i)
   rw[abB]at this
   omega
  rw[aa1]at V4
  obtain⟨_,UQ,dj⟩:=V4
  have n1:[a,b]∉aS (fs.take i):=λz=>dj _ z _ (by simp) rfl
  have n2:[b,c]∉aS (fs.take i)++[[a,b]]:=λz=>by
   rcases aaF.mp z with z|z
   ·exact dj _ z _ (by simp) rfl
   ·rw[aav]at z
    exact(aaL.mp UQ).1 [b,c] (by simp) z.symm
  have n3:[c,a]∉(aS (fs.take i)++[[a,b]])++[[b,c]]:=λz=>by
   rcases aaF.mp z with z|z
   ·rcases aaF.mp z with z|z
    ·exact dj _ z _ (by simp) rfl
    ·rw[aav]at z
     exact(aaL.mp UQ).1 [c,a] (by simp) z.symm
   ·rw[aav]at z
    exact(aaL.mp (aaL.mp UQ).2).1 [c,a] (by simp) z.symm
  have e3:aS (fs.take (i+1))=((aS (fs.take i)++[[a,b]])++[[b,c]])++[[c,a]]:=by rw[dt];simp[eL]
  generalize aS (fs.take i)=D0 at *
  have keep:∀{M7:Mp} {o:MO},Le M M7->Le M (ay M7 p o):=λ{M7 o} l c o' e=>by
   rw[aK (λz=>by rw[z,hp]at e;cases e)]
   exact l _ _ e
  walk_at "rd"
  refine⟨p,lD [a,b],_,(iX [a,b]).symm,rfl,hP,?_⟩
  rw[mG,decide_eq_false n1]
  walk_at "rd"
  refine⟨p,_,lD [a,b],rfl,(iX [a,b]).symm,hP,by rw[xX];omega,?_⟩
  rw[xW n1]
  have hP:=ah (M:=M6) (a:=p) (o:=MO.mQ (yD (D0++[[a,b]])))
  have le:=keep (o:=MO.mQ (yD (D0++[[a,b]]))) le
  generalize ay M6 p (.mQ (yD (D0++[[a,b]])))=M7 at hP le ⊢
  walk_at "rd"
  refine⟨p,lD [b,c],_,(iX [b,c]).symm,rfl,hP,?_⟩
  rw[mG,decide_eq_false n2]
  walk_at "rd"
  refine⟨p,_,lD [b,c],rfl,(iX [b,c]).symm,hP,by rw[xX,aaA];simp;omega,?_⟩
  rw[xW n2]
  have hP:=ah (M:=M7) (a:=p) (o:=MO.mQ (yD ((D0++[[a,b]])++[[b,c]])))
  have le:=keep (o:=MO.mQ (yD ((D0++[[a,b]])++[[b,c]]))) le
  generalize ay M7 p (.mQ (yD ((D0++[[a,b]])++[[b,c]])))=M8 at hP le ⊢
  walk_at "rd"
  refine⟨p,lD [c,a],_,(iX [c,a]).symm,rfl,hP,?_⟩
  rw[mG,decide_eq_false n3]
  walk_at "rd"
  refine⟨p,_,lD [c,a],rfl,(iX [c,a]).symm,hP,by rw[xX,aaA,aaA];simp;omega,?_⟩
  rw[xW n3,<-e3]
  walk_at "rd"
  exact hN _ _ ⟨⟨_,_,_,_,rfl⟩,keep le,ah⟩
 ·rintro ρ M' ⟨⟨y3,y4,y5,y6,rfl⟩,le,hP⟩
  refine⟨le _ _ hF,?_⟩
  rw[aas,aa4]at hP
  walk_at "rd"
  refine⟨p,_,rfl,hP,?_⟩
  rw[G9]
  refine cJ (λi ρ M'=>(∃y3 y4 y5 y6:Option L3.D,ρ=[some (.ref l),some (.ref f),some (.ref p),y3,y4,y5,y6])/\Le M M'/\M' p=some (.mQ (yD (aS fs)))) _ ?_ ?_ ⟨⟨_,_,_,_,rfl⟩,le,hP⟩
  ·rintro i x ρ M' N hx ⟨⟨y3,y4,y5,y6,rfl⟩,le,hP⟩ hN
   obtain⟨w,hw,rfl⟩:=eK hx
   have mw:=aaC hw
   obtain⟨a,b,rfl,ha,hb⟩:=kv.vZ.rF w mw
   have ha:=hq.mem_iff.mp ha
   have hb:=hq.mem_iff.mp hb
   refine⟨hP,?_⟩
   walk_at "rd"
   refine⟨p,lD [b,a],_,(iX [b,a]).symm,rfl,hP,?_⟩
   rw[mG]
   walk_at "rd"
   by_cases dn:[b,a]∈aS fs
   ·rw[decide_eq_true dn]
    refine ER ?_
    walk_at "rd"
    exact hN _ _ ⟨⟨_,_,_,_,rfl⟩,le,hP⟩
   ·rw[decide_eq_false dn]
    have sd:=kv.vZ.bare a b mw dn
    refine SK ?_
    walk_at "rd"
    refine⟨l,_,rfl,le _ _ hM,by rw[aas];omega,bM.mk (bU (λj acc M4=>M4=M'/\acc=[]) _ ?_ ?_ ⟨rfl,rfl⟩)⟩
    ·rintro j x acc M4 N2 iQ ⟨rfl,rfl⟩ kr
     obtain⟨q,hq',rfl⟩:=sV iQ
     have Kr:=aaC hq'
     refine⟨le _ _ hM,?_⟩
     walk_at "rd"
     refine⟨ho a ha,ho b hb,ho q Kr,?_⟩
     walk_at "rd"
     have:=(sd.2.2.2 q (hq.mem_iff.mpr Kr)).1
     refine dU (λk=>absurd (of_decide_eq_true k) (by omega)) (λ_=>?_)
     exact kr _ _ ⟨rfl,rfl⟩
    rintro acc M4 ⟨rfl,rfl⟩
    refine⟨le _ _ hM,λu kj=>?_⟩
    have hP:=aj (u:=MO.lst []) hP kj
    have le:=le.trans (Le.new (o:=MO.lst []) kj)
    have hU:ay M4 u (.lst []) u=some (.lst []):=ah
    generalize ay M4 u (.lst [])=M5 at hP le hU ⊢
    walk_at "rd"
    intro v hv
    refine⟨_,_,.of (aj hU hv),.of ah,rfl,rfl,?_⟩
    rw[kL]
    walk_at "rd"
    exact hN _ _ ⟨⟨_,_,_,_,rfl⟩,le.trans (Le.new hv),aj hP hv⟩
  ·rintro ρ M' ⟨⟨y3,y4,y5,y6,rfl⟩,le,hP⟩
   refine⟨hP,?_⟩
   walk_at "rd"
   intro e he
   refine⟨_,_,.of ((Le.new he) _ _ (le _ _ hF)),.of ah,bg fs,rfl,?_⟩
   rw[Fx]
   cases RL:fs with
   |cons t0 tr=>
    walk_at "rd"
    exact bM.mk ⟨_,le.trans (Le.new he),h⟩
   |nil=>
    have fl:Flat qs:=Hf vY (RL▸kv)
    walk_at "rd"
    have hE:ay M' e (.lst []) e=some (.lst []):=ah
    have le:=le.trans (Le.new (o:=MO.lst []) he)
    generalize ay M' e (.lst [])=M2 at hE le ⊢
    refine⟨l,_,rfl,le _ _ hM,by rw[aas];omega,bM.mk (bU (λj acc M4=>M4=M2/\acc=[]) _ ?_ ?_ ⟨rfl,rfl⟩)⟩
    ·rintro j x acc M4 N2 iQ ⟨rfl,rfl⟩ kr
     obtain⟨q,hq',rfl⟩:=sV iQ
     have Kr:=aaC hq'
     refine⟨le _ _ hM,?_⟩
     obtain⟨x0,x1,m0,m1,e0,e1⟩:=Nn Kr
     walk_at "rd"
     refine⟨_,_,_,.inr (.inr ⟨l,rfl,le _ _ hM⟩),rfl,e0,?_⟩
     walk_at "rd"
     refine⟨_,_,_,.inr (.inr ⟨l,rfl,le _ _ hM⟩),rfl,e1,?_⟩
     walk_at "rd"
     refine⟨ho x0 m0,ho x1 m1,ho q Kr,?_⟩
     rw[fl x0 (hq.mem_iff.mpr m0) x1 (hq.mem_iff.mpr m1) q (hq.mem_iff.mpr Kr)]
     walk_at "rd"
     exact kr _ _ ⟨rfl,rfl⟩
    rintro acc M4 ⟨rfl,rfl⟩
    refine⟨le _ _ hM,λu kj=>?_⟩
    walk_at "rd"
    intro v hv
    refine⟨u,v,_,_,rfl,rfl,aj ah hv,ah,rfl,rfl,?_⟩
    rw[kL]
    walk_at "rd"
    exact bM.mk ⟨_,le.trans ((Le.new kj).trans (Le.new hv)),h⟩
theorem kh(T:Txt K mg t):Binds K t.dh ["_law_places","_law_net","_law_p"] []:=T.dI.binds λ_ _ _ _ _ _ us hl=>match us,hl with|[_,_,_],_=>rfl
def l8:wM:=λds M Q=>∃(l n:Addr) (p:Pl),ds=[.ref l,.ref n,p.d]/\∃ps:List Pl,M l=some (.lst (ps.map Pl.d))/\p∈ps/\Q (.bl true) M
theorem ki(T:Txt K mg t):cz P w K mg base gJ 8 t.dH t.dh ["_law_places","_law_net","_law_p"] (yN K l8):=by
 refine AN T.dI bD (λds M Q h=>by(first|(obtain⟨_,rfl,_⟩:=h;rfl)|(obtain⟨_,_,rfl,_⟩:=h;rfl)|(obtain⟨_,_,_,rfl,_⟩:=h;rfl)|(obtain⟨_,_,_,_,rfl,_⟩:=h;rfl)|(obtain⟨_,_,_,_,_,rfl,_⟩:=h;rfl)|(obtain⟨_,_,_,_,_,_,rfl,_⟩:=h;rfl)|(obtain⟨_,_,_,_,_,_,_,rfl,_⟩:=h;rfl))) (λcdv A outer s H hr=>?_)
 have hu:=hr.units
 refine⟨_,(av (bx (i:=3) bD.nd rfl (Or.inl rfl) gM)
  (av (Nz (i:=4) (Ah T) (hr.mono (by decide)) (by rfl) T.zR T.lT.kp (wz T) (aa (af 0) (aa (af 1) (aa (af 2) ak))) T.tN T.sN (by rfl) T.yh bD.nd rfl rfl (λa=>(av (bx (i:=5) bD.nd rfl (Or.inl rfl) (cK (aa (bS uc (by rfl) T.aY aN (aa (af 4) (aa (vn (by rfl) T.zT) ak))) (aa (bS uc (by rfl) T.aY aN (aa (af 4) (aa (vn (by rfl) T.Kc) ak))) (aa (bS uc (by rfl) T.aY aN (aa (af 4) (aa (vn (by rfl) T.BE) ak))) (aa (bS uc (by rfl) T.aY aN (aa (af 4) (aa (vn (by rfl) T.HC) ak))) ak))))))
  (av (bx (i:=3) bD.nd rfl (Or.inl rfl) (Cb (bS uc (by rfl) T.aY aN (aa (af 4) (aa (vn (by rfl) T.zU) ak))) (Cb (bS uc (by rfl) T.aY aN (aa (af 4) (aa (nj (by rfl) T.uT pK) ak))) (yK (kK (kg hu) (Nt (af 4)) (af 2) (aI _))))))
  (aB (cI (uF.pt (qP (aU (Dp hu) gM (af 5) (by with_unfolding_all rfl)) (mT (gu (bS uc (by rfl) T.aY aN (aa (af 4) (aa (vn (by rfl) T.BF) ak))))))) (aB (bx (i:=3) bD.nd rfl (Or.inl rfl) gM)) bA))))))
  (aB (aJ (af 3))))),λds M Q h=>?_⟩
 obtain⟨l,n,p,rfl,ps,hM,mp,h⟩:=h
 walk_at "rd"
 refine⟨ps,hM,mp,T.sR,λa=>?_⟩
 walk_at "rd"
 refine⟨_,_,_,_,T.jW,.inl ⟨_,rfl,T.zX⟩,?_⟩
 walk_at "rd"
 refine⟨_,_,_,_,T.jW,.inl ⟨_,rfl,T.Ke⟩,?_⟩
 walk_at "rd"
 refine⟨_,_,_,_,T.jW,.inl ⟨_,rfl,T.BG⟩,?_⟩
 walk_at "rd"
 refine⟨_,_,_,_,T.jW,.inl ⟨_,rfl,T.HH⟩,?_⟩
 walk_at "rd"
 intro u kj
 walk_at "rd"
 refine⟨_,_,_,_,T.jW,.inl ⟨_,rfl,T.HG⟩,?_⟩
 walk_at "rd"
 refine⟨_,_,_,_,T.jW,.inr ⟨_,rfl,T.Yi⟩,?_⟩
 walk_at "rd"
 refine⟨T.yi,T.zW,?_⟩
 walk_at "rd"
 rw[show L3.eE p.d p.d=true by rw[nt];exact decide_eq_true rfl]
 walk_at "rd"
 refine⟨_,.inr ⟨u,rfl,ah⟩,rfl,rfl,?_⟩
 walk_at "rd"
 refine⟨_,_,_,_,T.jW,.inl ⟨_,rfl,T.BH⟩,?_⟩
 walk_at "rd"
 exact bM.mk ⟨_,Le.new kj,h⟩
theorem UR(T:Txt K mg t):Binds K t.By ["_law_script"] []:=T.Li.binds λ_ _ _ _ _ _ us hl=>match us,hl with|[_],_=>rfl
theorem Ks{ps t:List Pl}(h:gK ps t):MK ps t=true↔v7 ps t:=by
 obtain⟨a,b,c,rfl,_⟩:=h.parts
 show(!(ps.any λd=>decide (fO a b c d)))=true↔∀d∈ps,¬fO a b c d
 rw[abt,adG]
 exact⟨λz d hd y=>z d hd (decide_eq_true y),λz d hd y=>z d hd (of_decide_eq_true y)⟩
structure Ku(M:Mp)(l n g p1 n1 f c b:Addr)(ps:List Pl)(xs fl cm us:List (List Pl)):Prop where
 P:M l=some (.lst (ps.map Pl.d))
 N:M n=some (.lst (xs.map tD))
 G:M g=some (.lst [.ref p1,.ref n1])
 P1:M p1=some (.lst (ps.map Pl.d))
 N1:M n1=some (.lst (xs.map tD))
 F:M f=some (.lst (fl.map tD))
 C:M c=some (.lst (cm.map tD))
 B:M b=some (.lst (us.map tD))
theorem Ku.mono{M M':Mp}{l n g p1 n1 f c b:Addr}{ps:List Pl}{xs fl cm us:List (List Pl)}(h:Ku M l n g p1 n1 f c b ps xs fl cm us)(le:Le M M'):Ku M' l n g p1 n1 f c b ps xs fl cm us:=
 ⟨le _ _ h.P,le _ _ h.N,le _ _ h.G,le _ _ h.P1,le _ _ h.N1,le _ _ h.F,le _ _ h.C,le _ _ h.B⟩
structure BP(M:Mp)(l n g p1 n1 k1 k2 k3 kk:Addr)(ps:List Pl)(xs fl cm us:List (List Pl)):Prop where
 P:M l=some (.lst (ps.map Pl.d))
 N:M n=some (.lst (xs.map tD))
 G:M g=some (.lst [.ref p1,.ref n1])
 P1:M p1=some (.lst (ps.map Pl.d))
 N1:M n1=some (.lst (xs.map tD))
 K1:M k1=some (.lst (fl.map tD))
 K2:M k2=some (.lst (cm.map tD))
 K3:M k3=some (.lst (us.map tD))
 KK:M kk=some (.lst [.ref k1,.ref k2,.ref k3])
theorem BP.mono{M M':Mp}{l n g p1 n1 k1 k2 k3 kk:Addr}{ps:List Pl}{xs fl cm us:List (List Pl)}(h:BP M l n g p1 n1 k1 k2 k3 kk ps xs fl cm us)(le:Le M M'):BP M' l n g p1 n1 k1 k2 k3 kk ps xs fl cm us:=
 ⟨le _ _ h.P,le _ _ h.N,le _ _ h.G,le _ _ h.P1,le _ _ h.N1,le _ _ h.K1,le _ _ h.K2,le _ _ h.K3,le _ _ h.KK⟩
/-- none of Yx is ZU one written -/
def Q6(l n g p1 n1 k1 k2 k3 kk a:Addr):Prop:=(l≠a/\n≠a/\g≠a/\p1≠a/\n1≠a)/\k1≠a/\k2≠a/\k3≠a/\kk≠a
theorem BP.put{M:Mp}{l n g p1 n1 k1 k2 k3 kk a:Addr}{o:MO}{ps:List Pl}{xs fl cm us:List (List Pl)}(h:BP M l n g p1 n1 k1 k2 k3 kk ps xs fl cm us)(e:Q6 l n g p1 n1 k1 k2 k3 kk a):BP (ay M a o) l n g p1 n1 k1 k2 k3 kk ps xs fl cm us:=by
 obtain⟨⟨e1,e2,e3,e4,e5⟩,e6,e7,e8,e9⟩:=e
 exact⟨(aK e1).trans h.P,(aK e2).trans h.N,(aK e3).trans h.G,(aK e4).trans h.P1,(aK e5).trans h.N1,(aK e6).trans h.K1,(aK e7).trans h.K2,(aK e8).trans h.K3,(aK e9).trans h.KK⟩
abbrev HP:=Ce
theorem NQ(T:Txt K mg t):cz P w K mg base gJ 9 t.Hz t.By ["_law_script"] (vt K HP):=by
 refine AM T.Li iN (λds Q h=>by(first|(obtain⟨_,rfl,_⟩:=h;rfl)|(obtain⟨_,_,rfl,_⟩:=h;rfl)|(obtain⟨_,_,_,rfl,_⟩:=h;rfl)|(obtain⟨_,_,_,_,rfl,_⟩:=h;rfl)|(obtain⟨_,_,_,_,_,rfl,_⟩:=h;rfl)|(obtain⟨_,_,_,_,_,_,rfl,_⟩:=h;rfl)|(obtain⟨_,_,_,_,_,_,_,rfl,_⟩:=h;rfl))) (λcdv A outer s H hr=>?_)
 have hu:=hr.units
 refine⟨_,(av (bx (i:=1) iN.nd rfl (Or.inl rfl) (cU (uw T) (hr.mono (by decide)) (by rfl) T.uR T.jl.kp (uu T) (aa (af 0) (aa ai ak))))
  (av (bx (i:=2) iN.nd rfl (Or.inr rfl) (cU (Ab T) (hr.mono (by decide)) (by rfl) T.BA T.nN.kp (Aa T) (aa (af 1) (aa (aG (cy T) (hr.mono (by decide)) (by rfl) T.cG T.bN.kp (cu T) (aa (af 0) (aa ai ak))) (aa (aq cT (aG (cy T) (hr.mono (by decide)) (by rfl) T.cG T.bN.kp (cu T) (aa (af 0) (aa ai ak))) ai) (aa (aG (cy T) (hr.mono (by decide)) (by rfl) T.cG T.bN.kp (cu T) (aa (af 0) (aa ai ak))) (aa (aG (cy T) (hr.mono (by decide)) (by rfl) T.cG T.bN.kp (cu T) (aa (af 0) (aa ai ak))) ak)))))))
  (av (bx (i:=3) iN.nd rfl (Or.inl rfl) (cU (Ag T) (hr.mono (by decide)) (by rfl) T.BD T.nP.kp (Af T) (aa (vp pM (by rfl) T.gQ c6 (aa (af 1) ak)) ak)))
  (av (cI (k_not (gu (cU (l7 T) (hr.mono (by decide)) (by rfl) T.m6 T.gj.kp (l6 T) (aa (af 1) (aa (af 3) ak))))) (aB (aJ gM)) bA)
  (av (bx (i:=4) iN.nd rfl (Or.inl rfl) (cK (aa (vp pM (by rfl) T.gQ c6 (aa (af 1) ak)) (aa (vp pM (by rfl) T.gQ c6 (aa (af 3) ak)) ak))))
  (av (cI (aU (Dp hu) (af 2) (af 1) (by with_unfolding_all rfl)) (aB (aJ (Cb (cU (ki T) (hr.mono (by decide)) (by rfl) T.lU T.dI.kp (kh T) (aa (aD (af 4) ai) (aa (aD (af 4) ai) (aa (af 2) ak)))) (yK (kK (Ck hu) (af 4) (cK (aa (af 1) (aa (af 3) ak))) (aI _)))))) bA)
  (av (bx (i:=5) iN.nd rfl (Or.inl rfl) (cU (Eg T) (hr.mono (by decide)) (by rfl) T.zR T.lT.kp (wz T) (aa (aD (af 4) ai) (aa (aD (af 4) ai) (aa (af 2) ak)))))
  (av (cI (uF.pt (qP (aU (JF hu) (af 4) (cK (aa (af 1) (aa (af 3) ak))) (aI _)) (qP (k_not (gu (bS vq (by rfl) T.aY aN (aa (af 5) (aa (nj (by rfl) T.uq kQ) ak))))) (mT (aU (AJ hu) (bS kN (by rfl) T.iM cV (aa (af 5) ak)) ai (aI _)))))) (aB (aJ gM)) bA)
  (av (E5 (af 5) (yP rfl (di (bO (i:=6) iN.nd rfl (Or.inr rfl)) (di (bO (i:=7) iN.nd rfl (Or.inl rfl)) (di (bO (i:=8) iN.nd rfl (Or.inl rfl)) sy)))))
  (av (bx (i:=9) iN.nd rfl (Or.inl rfl) (aq oB (af 1) (cK (aa (af 2) ak))))
  (av (cI (uF.pt (qP (k_not (gu (cU (l7 T) (hr.mono (by decide)) (by rfl) T.m6 T.gj.kp (l6 T) (aa (af 9) (aa (af 8) ak))))) (qP (k_not (gu (cU (fJ T) (hr.mono (by decide)) (by rfl) T.gb T.cY.kp (fH T) (aa (af 7) (aa (af 9) ak))))) (mT (k_not (gu (cU (fJ T) (hr.mono (by decide)) (by rfl) T.gb T.cY.kp (fH T) (aa (af 6) (aa (af 1) ak))))))))) (aB (aJ gM)) bA)
  (av (cI (uF.pt (qP (aU (nC hu) (af 6) (qQ (ig (ys:=["_law_p"]) (fs:=[2]) rfl (by show b8 (au u7) ["_law_script","_law_places","_law_p","_law_net","_law_handed","_law_found","_law_fallen","_law_come","_law_behind","_law_every","_law_kept"] _ _ _ _=true;decide +kernel) (af 3) (λcl C s0 H0 ex=>j0 (gu (aG (l5 T) (hr.mono (by decide)) (by rfl) T.m5 T.gi.kp (lZ T) (aa (af 0) (aa (af 1) ak))))) (λcl C s0 H0 ex=>(af 0)))) (aI _)) (mT (aU (nC hu) (qQ (ig (ys:=["_law_p"]) (fs:=[2]) rfl (by show b8 (au u7) ["_law_script","_law_places","_law_p","_law_net","_law_handed","_law_found","_law_fallen","_law_come","_law_behind","_law_every","_law_kept"] _ _ _ _=true;decide +kernel) (af 7) (λcl C s0 H0 ex=>j0 (aU (l9 hu) (af 1) (af 0) (by with_unfolding_all rfl))) (λcl C s0 H0 ex=>(af 0)))) (cK ak) (aI _))))) (aB (aJ gM)) bA)
  (av (cI (aU (nC hu) (af 8) (bS (gU (n:=3) (.inr rfl) hu) (by rfl) T.dR bZ (aa (aq oB (qQ (ig (ys:=["_law_fallen"]) (fs:=[6]) rfl (by show b8 (au u7) ["_law_script","_law_places","_law_p","_law_net","_law_handed","_law_found","_law_fallen","_law_come","_law_behind","_law_every","_law_kept"] _ _ _ _=true;decide +kernel) (af 3) (λcl C s0 H0 ex=>j0 (aU (l9 hu) (af 0) (af 1) (by with_unfolding_all rfl))) (λcl C s0 H0 ex=>(af 0)))) (af 7)) ak)) (aI _)) (aB (aJ gM)) bA)
  (av (bx (i:=10) iN.nd rfl (Or.inl rfl) (cK (aa (vp pM (by rfl) T.gQ c6 (aa (af 6) ak)) (aa (vp pM (by rfl) T.gQ c6 (aa (af 7) ak)) (aa (vp pM (by rfl) T.gQ c6 (aa (af 8) ak)) ak)))))
  (av (kO (vv (af 6) ai (rX PySem.F.plainAttrs_list PySem.F.slot_list_append PySem.F.type_list_append fM (cH.dn (af 6)) (iT (cH.dn ai) kG))))
  (av (kO (vv (af 7) ai (rX PySem.F.plainAttrs_list PySem.F.slot_list_append PySem.F.type_list_append fM (cH.dn (af 7)) (iT (cH.dn ai) kG))))
  (av (kO (vv (af 8) ai (rX PySem.F.plainAttrs_list PySem.F.slot_list_append PySem.F.type_list_append fM (cH.dn (af 8)) (iT (cH.dn ai) kG))))
  (aB (aJ (Cb (kK (Ck hu) (af 4) (cK (aa (af 1) (aa (af 3) ak))) (aI _)) (yK (kK (MZ hu) (af 5) (bR (aa (aq oB (aD (af 10) ai) (cK (aa ai ak))) (aa (aq oB (aD (af 10) ai) (cK (aa ai ak))) (aa (aq oB (aD (af 10) ai) (cK (aa ai ak))) ak)))) (aI _))))))))))))))))))))))),λds Q h=>?_⟩
 obtain⟨ns,rfl,hl,h⟩:=h
 have sl:(1000:Nat)<sizeLine:=by decide
 walk_at "rd"
 refine⟨hl,λl ps ZV nd ho hlen=>?_⟩
 have BQ:∀q∈ps,q.Ok 140:=λq hq=>⟨(ho q hq).1.le (by decide),(ho q hq).2.le (by decide)⟩
 have hP:ay OS l (.lst (ps.map Pl.d)) l=some (.lst (ps.map Pl.d)):=ah
 generalize ay OS l (.lst (ps.map Pl.d))=M1 at hP ⊢
 walk_at "rd"
 refine⟨hl,by decide,by decide,λz0=>?_⟩
 walk_at "rd"
 refine⟨hl,by decide,by decide,λz2=>?_⟩
 walk_at "rd"
 refine⟨hl,by decide,by decide,λz3=>?_⟩
 walk_at "rd"
 refine⟨hl,by decide,by decide,λZW=>?_⟩
 refine⟨l,ps,_,_,_,_,rfl,hP,ho,hlen,λp op=>?_⟩
 walk_at "rd"
 refine⟨_,_,rfl,.of hP,λe he=>?_⟩
 have hE:ay M1 e (.lst (ps.map Pl.d)) e=some (.lst (ps.map Pl.d)):=ah
 have hP:=aj (u:=MO.lst (ps.map Pl.d)) hP he
 generalize ay M1 e (.lst (ps.map Pl.d))=M2 at hE hP ⊢
 walk_at "rd"
 refine⟨e,ps,rfl,hE,BQ,nd,hlen,λn xs hn cB sx=>?_⟩
 have l3:=xj ps ps.length
 have Yj:=xm (m:=ps.length) (n:=7) hlen
 have UK:c3 7=35:=by decide
 have lf:((T3 ps ps.length).filter (MK ps)).length<=(T3 ps ps.length).length:=abz _ _
 have lx:xs.length<=44:=by have:=cB.length_eq;omega
 have mx:∀t,t∈xs↔gK ps t/\v7 ps t:=λt=>by
  rw[cB.mem_iff,aaw,A1 nd]
  exact and_congr_right λz=>Ks z
 have nx:xs.Nodup:=cB.nodup_iff.mpr ((FN nd).filter _)
 have hN:ay M2 n (.lst (xs.map tD)) n=some (.lst (xs.map tD)):=ah
 have hP:=aj (u:=MO.lst (xs.map tD)) hP hn
 generalize ay M2 n (.lst (xs.map tD))=M3 at hN hP ⊢
 walk_at "rd"
 refine⟨l,n,ps,xs,rfl,hP,hN,nd,by omega,BQ,nx,mx,sx,lx,?_⟩
 walk_at "rd"
 refine⟨_,_,rfl,.of hP,λp1 hp1=>?_⟩
 have US:=hP
 have Eh:ay M3 p1 (.lst (ps.map Pl.d)) p1=some (.lst (ps.map Pl.d)):=ah
 have hP:=aj (u:=MO.lst (ps.map Pl.d)) hP hp1
 have hN:=aj (u:=MO.lst (ps.map Pl.d)) hN hp1
 generalize ay M3 p1 (.lst (ps.map Pl.d))=M4 at hN hP Eh ⊢
 walk_at "rd"
 refine⟨_,_,rfl,.of hN,λn1 hn1=>?_⟩
 have UT:=hN
 have Kv:ay M4 n1 (.lst (xs.map tD)) n1=some (.lst (xs.map tD)):=ah
 have hP:=aj (u:=MO.lst (xs.map tD)) hP hn1
 have hN:=aj (u:=MO.lst (xs.map tD)) hN hn1
 have Eh:=aj (u:=MO.lst (xs.map tD)) Eh hn1
 generalize ay M4 n1 (.lst (xs.map tD))=M5 at hN hP Eh Kv ⊢
 walk_at "rd"
 intro g hg
 have hG:ay M5 g (.lst [.ref p1,.ref n1]) g=some (.lst [.ref p1,.ref n1]):=ah
 have hP:=aj (u:=MO.lst [.ref p1,.ref n1]) hP hg
 have hN:=aj (u:=MO.lst [.ref p1,.ref n1]) hN hg
 have Eh:=aj (u:=MO.lst [.ref p1,.ref n1]) Eh hg
 have Kv:=aj (u:=MO.lst [.ref p1,.ref n1]) Kv hg
 generalize ay M5 g (.lst [.ref p1,.ref n1])=M6 at hN hP Eh Kv hG ⊢
 have UU:p1≠l:=λz=>by rw[<-z,hp1]at US;cases US
 have UW:n1≠n:=λz=>by rw[<-z,hn1]at UT;cases UT
 clear hp1 hn1 US UT he hn
 walk_at "rd"
 refine⟨_,.inr ⟨l,rfl,hP⟩,rfl,bC ps,?_⟩
 walk_at "rd"
 rw[if_neg (by decide),gO]
 by_cases mp:p∈ps
 ·rw[decide_eq_true mp]
  walk_at "rd"
  refine⟨_,_,_,.inr (.inr ⟨g,rfl,hG⟩),rfl,eV (j:=0) rfl,?_⟩
  walk_at "rd"
  refine⟨_,_,_,.inr (.inr ⟨g,rfl,hG⟩),rfl,eV (j:=1) rfl,?_⟩
  walk_at "rd"
  refine⟨ps,Eh,mp,?_⟩
  walk_at "rd"
  intro y hy
  refine⟨g,y,p1,n1,l,n,_,_,_,_,rfl,rfl,aj hG hy,ah,aj Eh hy,aj Kv hy,aj hP hy,aj hN hy,UU,UW,bC ps,bg xs,bC ps,bg xs,?_⟩
  rw[cC (bC ps),cC (bg xs)]
  exact h
 rw[decide_eq_false mp]
 walk_at "rd"
 refine⟨_,_,_,.inr (.inr ⟨g,rfl,hG⟩),rfl,eV (j:=0) rfl,?_⟩
 walk_at "rd"
 refine⟨_,_,_,.inr (.inr ⟨g,rfl,hG⟩),rfl,eV (j:=1) rfl,?_⟩
 walk_at "rd"
 refine⟨ps,xs,Eh,Kv,nd,by omega,BQ,op,mp,nx,mx,λf c b fl cm us M7 le hF hC hB UX new1 pu nu mu su lu ZX ff fc fb V5 V6 RP Yy V7 Yz UH lcm=>?_⟩
 have off:∀{a:Addr},M6 a=none->l≠a/\n≠a/\g≠a/\p1≠a/\n1≠a:=λz=>⟨(aW hP z).symm,(aW hN z).symm,(aW hG z).symm,(aW Eh z).symm,(aW Kv z).symm⟩
 have off1:=off ff
 have off2:=off fc
 have UY:=off fb
 have hh:Ku M7 l n g p1 n1 f c b ps xs fl cm us:=⟨le _ _ hP,le _ _ hN,le _ _ hG,le _ _ Eh,le _ _ Kv,hF,hC,hB⟩
 clear off hP hN hG Eh Kv hF hC hB le
 have Qe:(ps++[p]).Nodup:=aa1.mpr ⟨nd,by simp,λx hx y hy e=>by rw[aav]at hy;subst hy;exact mp (e▸hx)⟩
 have UN:∀q∈ps++[p],q.Ok 140:=λq hq=>by
  rcases aaF.mp hq with z|z
  ·exact BQ q z
  ·rw[aav]at z;subst z;exact op
 have YA:(ps++[p]).length<=17:=by rw[aaA];show _+1<=_;omega
 have YB:xs.filter (qb p)=fl:=(iV Yy V7 (sx.filter _)).symm
 have t3:∀t∈xs,t.length=3:=λt ht=>by
  obtain⟨_,_,_,rfl,_⟩:=((mx t).mp ht).1.parts
  rfl
 have YC:=pu.length_eq
 rw[aaA]at YC
 walk_at "rd"
 intro y hy
 refine⟨g,y,p1,n1,l,n,_,_,_,_,rfl,rfl,aj hh.G hy,ah,aj hh.P1 hy,aj hh.N1 hy,aj hh.P hy,aj hh.N hy,UU,UW,bC ps,bg xs,bC ps,bg xs,?_⟩
 rw[cC (bC ps),cC (bg xs)]
 have hh:=hh.mono (Le.new (o:=MO.lst [.ref l,.ref n]) hy)
 generalize ay M7 y (.lst [.ref l,.ref n])=M8 at hh ⊢
 walk_at "rd"
 intro q hq
 have hQ:ay M8 q (.lst [p.d]) q=some (.lst ([p].map Pl.d)):=ah
 have hh:=hh.mono (Le.new (o:=MO.lst [p.d]) hq)
 generalize ay M8 q (.lst [p.d])=M9 at hh hQ ⊢
 walk_at "rd"
 refine⟨l,q,_,_,rfl,rfl,hh.P,hQ,by rw[aas,aas];show _+1<=_;omega,λv hv=>?_⟩
 rw[<-aaK]
 have hV:ay M9 v (.lst ((ps++[p]).map Pl.d)) v=some (.lst ((ps++[p]).map Pl.d)):=ah
 have hh:=hh.mono (Le.new (o:=MO.lst ((ps++[p]).map Pl.d)) hv)
 generalize ay M9 v (.lst ((ps++[p]).map Pl.d))=Jd at hh hV ⊢
 walk_at "rd"
 refine⟨v,b,ps++[p],us,rfl,hV,hh.B,Qe,YA,UN,nu,mu,su,lu,?_⟩
 walk_at "rd"
 refine⟨c,v,cm,ps++[p],rfl,hh.C,hV,by omega,Yz,λt ht=>((mu t).mp (pu.mem_iff.mpr (aaP _ ht))).1,?_⟩
 walk_at "rd"
 refine⟨f,l,fl,ps,rfl,hh.F,hh.P,by omega,V7,λt ht=>((mx t).mp (UX t ht)).1,?_⟩
 walk_at "rd"
 refine⟨n,_,rfl,hh.N,by rw[aas];omega,bM.mk (bU (λj acc M4=>M4=Jd/\acc=((xs.take j).filter (qb p)).map tD) _ ?_ ?_ ⟨rfl,rfl⟩)⟩
 ·rintro j x acc M4 N2 iQ ⟨rfl,rfl⟩ kr
  obtain⟨t,ht,rfl⟩:=eK iQ
  obtain⟨⟨t1,t2,t3,rfl,b1,b2,q1⟩,mt⟩:=((mx t).mp (aaC ht)).1
  refine⟨hh.N,?_⟩
  walk_at "rd"
  refine⟨BQ _ (mt t1 (by simp)),BQ _ (mt t2 (by simp)),BQ _ (mt t3 (by simp)),op,b1,b2,q1,?_⟩
  walk_at "rd"
  rw[show decide (fO t1 t2 t3 p)=qb p [t1,t2,t3]from rfl]
  cases e:qb p [t1,t2,t3]with
  |true=>
   walk_at "rd"
   refine kr _ _ ⟨rfl,?_⟩
   rw[aZ ht,if_pos e,aaK]
   rfl
  |false=>
   walk_at "rd"
   refine kr _ _ ⟨rfl,?_⟩
   rw[aZ ht,if_neg (by rw[e];simp),abf]
 rintro acc UO ⟨rfl,hacc⟩
 rw[aas,aa4,YB]at hacc
 subst hacc
 refine⟨hh.N,λu kj=>?_⟩
 refine⟨_,_,.of (aj hh.F kj),.of ah,bg fl,bg fl,?_⟩
 rw[cC (bg fl)]
 have hh:=hh.mono (Le.new (o:=MO.lst (fl.map tD)) kj)
 generalize ay UO u (.lst (fl.map tD))=RM at hh ⊢
 walk_at "rd"
 refine⟨c,_,rfl,hh.C,by rw[aas];omega,bM.mk (bU (λj acc M4=>M4=RM/\acc=[]) _ ?_ ?_ ⟨rfl,rfl⟩)⟩
 ·rintro j x acc M4 N2 iQ ⟨rfl,rfl⟩ kr
  obtain⟨t,ht,rfl⟩:=eK iQ
  refine⟨hh.C,?_⟩
  walk_at "rd"
  refine⟨bC t,?_⟩
  rw[if_pos rfl,gO,decide_eq_true (UH t (aaC ht))]
  walk_at "rd"
  exact kr _ _ ⟨rfl,rfl⟩
 rintro acc Q5 ⟨rfl,rfl⟩
 refine⟨hh.C,λu2 YD=>?_⟩
 have V8:ay Q5 u2 (.lst []) u2=some (.lst []):=ah
 have hh:=hh.mono (Le.new (o:=MO.lst []) YD)
 generalize ay Q5 u2 (.lst [])=RN at hh V8 ⊢
 walk_at "rd"
 intro u3 V9
 refine⟨_,_,.of (aj V8 V9),.of ah,rfl,rfl,?_⟩
 have hh:=hh.mono (Le.new (o:=MO.lst []) V9)
 generalize ay RN u3 (.lst [])=RO at hh ⊢
 walk_at "rd"
 refine⟨n,_,rfl,hh.N,by rw[aas];omega,bM.mk (bU (λj acc M4=>M4=RO/\acc=((xs.take j).filter (λt=>decide (t∉fl))).map tD) _ ?_ ?_ ⟨rfl,rfl⟩)⟩
 ·rintro j x acc M4 N2 iQ ⟨rfl,rfl⟩ kr
  obtain⟨t,ht,rfl⟩:=eK iQ
  refine⟨hh.N,?_⟩
  walk_at "rd"
  refine⟨_,.inr ⟨f,rfl,hh.F⟩,pR _,bg fl,?_⟩
  walk_at "rd"
  rw[xE,if_pos rfl]
  by_cases u9:t∈fl
  ·rw[decide_eq_true u9]
   walk_at "rd"
   refine kr _ _ ⟨rfl,?_⟩
   rw[aZ ht,if_neg (by rw[decide_eq_true_iff];exact λz=>z u9),abf]
  ·rw[decide_eq_false u9]
   walk_at "rd"
   refine kr _ _ ⟨rfl,?_⟩
   rw[aZ ht,if_pos (decide_eq_true u9),aaK]
   rfl
 rintro acc UP ⟨rfl,hacc⟩
 rw[aas,aa4]at hacc
 subst hacc
 refine⟨hh.N,λw hw=>?_⟩
 have s3:∀t∈xs.filter (λt=>decide (t∉fl))++cm,t.length=3:=λt ht=>by
  obtain⟨_,_,_,rfl,_⟩:=((mu t).mp (pu.mem_iff.mpr ht)).1.parts
  rfl
 generalize xs.filter (λt=>decide (t∉fl))=st at *
 have hW:ay UP w (.lst (st.map tD)) w=some (.lst (st.map tD)):=ah
 have hh:=hh.mono (Le.new (o:=MO.lst (st.map tD)) hw)
 generalize ay UP w (.lst (st.map tD))=Wa at hh hW ⊢
 walk_at "rd"
 refine⟨w,c,_,_,rfl,rfl,hW,hh.C,by rw[aas,aas];omega,λv2 hv2=>?_⟩
 rw[<-aaK]
 have Wb:ay Wa v2 (.lst ((st++cm).map tD)) v2=some (.lst ((st++cm).map tD)):=ah
 have hh:=hh.mono (Le.new (o:=MO.lst ((st++cm).map tD)) hv2)
 generalize ay Wa v2 (.lst ((st++cm).map tD))=YE at hh Wb ⊢
 walk_at "rd"
 refine⟨v2,st++cm,rfl,Wb,s3,by rw[aaA];omega,λr rs hr YF YG=>?_⟩
 obtain rfl:rs=us:=iV (YF.trans pu.symm) YG su
 refine⟨_,_,.of (aj hh.B hr),.of ah,bg _,bg _,?_⟩
 rw[cC (bg _)]
 have hh:=hh.mono (Le.new (o:=MO.lst (rs.map tD)) hr)
 generalize ay YE r (.lst (rs.map tD))=Wc at hh ⊢
 walk_at "rd"
 refine⟨_,_,rfl,.of hh.F,λk1 hk1=>?_⟩
 have o1:k1≠f/\k1≠c/\k1≠b:=⟨aW hh.F hk1,aW hh.C hk1,aW hh.B hk1⟩
 have Es:ay Wc k1 (.lst (fl.map tD)) k1=some (.lst (fl.map tD)):=ah
 have hh:=hh.mono (Le.new (o:=MO.lst (fl.map tD)) hk1)
 generalize ay Wc k1 (.lst (fl.map tD))=Wd at hh Es ⊢
 walk_at "rd"
 refine⟨_,_,rfl,.of hh.C,λk2 hk2=>?_⟩
 have o2:k2≠f/\k2≠c/\k2≠b:=⟨aW hh.F hk2,aW hh.C hk2,aW hh.B hk2⟩
 have ES:ay Wd k2 (.lst (cm.map tD)) k2=some (.lst (cm.map tD)):=ah
 have hh:=hh.mono (Le.new (o:=MO.lst (cm.map tD)) hk2)
 have Es:=aj (u:=MO.lst (cm.map tD)) Es hk2
 generalize ay Wd k2 (.lst (cm.map tD))=We at hh Es ES ⊢
 walk_at "rd"
 refine⟨_,_,rfl,.of hh.B,λk3 Od=>?_⟩
 have o3:k3≠f/\k3≠c/\k3≠b:=⟨aW hh.F Od,aW hh.C Od,aW hh.B Od⟩
 have Oe:ay We k3 (.lst (rs.map tD)) k3=some (.lst (rs.map tD)):=ah
 have hh:=hh.mono (Le.new (o:=MO.lst (rs.map tD)) Od)
 have Es:=aj (u:=MO.lst (rs.map tD)) Es Od
 have ES:=aj (u:=MO.lst (rs.map tD)) ES Od
 generalize ay We k3 (.lst (rs.map tD))=Wf at hh Es ES Oe ⊢
 walk_at "rd"
 intro kk hkk
 have o4:kk≠f/\kk≠c/\kk≠b:=⟨aW hh.F hkk,aW hh.C hkk,aW hh.B hkk⟩
 have hKK:ay Wf kk (.lst [.ref k1,.ref k2,.ref k3]) kk=some (.lst [.ref k1,.ref k2,.ref k3]):=ah
 have hh:=hh.mono (Le.new (o:=MO.lst [.ref k1,.ref k2,.ref k3]) hkk)
 have Es:=aj (u:=MO.lst [.ref k1,.ref k2,.ref k3]) Es hkk
 have ES:=aj (u:=MO.lst [.ref k1,.ref k2,.ref k3]) ES hkk
 have Oe:=aj (u:=MO.lst [.ref k1,.ref k2,.ref k3]) Oe hkk
 generalize ay Wf kk (.lst [.ref k1,.ref k2,.ref k3])=Q7 at hh Es ES Oe hKK ⊢
 have hr:BP Q7 l n g p1 n1 k1 k2 k3 kk ps xs fl cm rs:=⟨hh.P,hh.N,hh.G,hh.P1,hh.N1,Es,ES,Oe,hKK⟩
 have hF:=hh.F
 have hC:=hh.C
 have hB:=hh.B
 clear hh Es ES Oe hKK
 walk_at "rd"
 refine⟨⟨f,_,rfl,hF⟩,?_⟩
 walk_at "rd"
 refine⟨f,_,rfl,hF,by rw[aas];omega,?_⟩
 have hF:=ah (M:=Q7) (a:=f) (o:=MO.lst (fl.map tD++[.int 1]))
 have hC:=(aK (M:=Q7) (o:=MO.lst (fl.map tD++[.int 1])) V5.symm).trans hC
 have hB:=(aK (M:=Q7) (o:=MO.lst (fl.map tD++[.int 1])) V6.symm).trans hB
 have hr:=hr.put (o:=MO.lst (fl.map tD++[.int 1])) ⟨off1,o1.1,o2.1,o3.1,o4.1⟩
 generalize ay Q7 f (.lst (fl.map tD++[.int 1]))=RQ at hF hC hB hr ⊢
 walk_at "rd"
 refine⟨⟨c,_,rfl,hC⟩,?_⟩
 walk_at "rd"
 refine⟨c,_,rfl,hC,by rw[aas];omega,?_⟩
 have hC:=ah (M:=RQ) (a:=c) (o:=MO.lst (cm.map tD++[.int 2]))
 have hF:=(aK (M:=RQ) (o:=MO.lst (cm.map tD++[.int 2])) V5).trans hF
 have hB:=(aK (M:=RQ) (o:=MO.lst (cm.map tD++[.int 2])) RP.symm).trans hB
 have hr:=hr.put (o:=MO.lst (cm.map tD++[.int 2])) ⟨off2,o1.2.1,o2.2.1,o3.2.1,o4.2.1⟩
 generalize ay RQ c (.lst (cm.map tD++[.int 2]))=RS at hF hC hB hr ⊢
 walk_at "rd"
 refine⟨⟨b,_,rfl,hB⟩,?_⟩
 walk_at "rd"
 refine⟨b,_,rfl,hB,by rw[aas];omega,?_⟩
 have hB:=ah (M:=RS) (a:=b) (o:=MO.lst (rs.map tD++[.int 3]))
 have hF:=(aK (M:=RS) (o:=MO.lst (rs.map tD++[.int 3])) V6).trans hF
 have hC:=(aK (M:=RS) (o:=MO.lst (rs.map tD++[.int 3])) RP).trans hC
 have hr:=hr.put (o:=MO.lst (rs.map tD++[.int 3])) ⟨UY,o1.2.2,o2.2.2,o3.2.2,o4.2.2⟩
 generalize ay RS b (.lst (rs.map tD++[.int 3]))=YH at hF hC hB hr ⊢
 walk_at "rd"
 intro y2 Of
 refine⟨g,y2,p1,n1,l,n,_,_,_,_,rfl,rfl,aj hr.G Of,ah,aj hr.P1 Of,aj hr.N1 Of,aj hr.P Of,aj hr.N Of,UU,UW,bC ps,bg xs,bC ps,bg xs,?_⟩
 rw[cC (bC ps),cC (bg xs)]
 have qZ:=Le.new (o:=MO.lst [.ref l,.ref n]) Of
 generalize ay YH y2 (.lst [.ref l,.ref n])=M' at qZ ⊢
 have hF:=qZ _ _ hF
 have hC:=qZ _ _ hC
 have hB:=qZ _ _ hB
 have hr:=hr.mono qZ
 clear qZ
 have qZ:Le M' M':=Le.refl _
 walk_at "rd"
 refine⟨_,_,_,.inr (.inr ⟨kk,rfl,hr.KK⟩),rfl,eV (j:=0) rfl,?_⟩
 walk_at "rd"
 intro p2 hp2
 have NO:=Le.new (o:=MO.lst [.int 1]) hp2
 have Wg:ay M' p2 (.lst [.int 1]) p2=some (.lst [.int 1]):=ah
 generalize ay M' p2 (.lst [.int 1])=N1 at NO Wg ⊢
 refine⟨k1,p2,_,_,rfl,rfl,NO _ _ hr.K1,Wg,by rw[aas];show _+1<=_;omega,λq1 hq1=>?_⟩
 have YI:q1≠f:=aW (NO _ _ hF) hq1
 have Lj:ay N1 q1 (.lst (fl.map tD++[.int 1])) q1=some (.lst (fl.map tD++[.int 1])):=ah
 have qZ:=qZ.trans (NO.trans (Le.new (o:=MO.lst (fl.map tD++[.int 1])) hq1))
 generalize ay N1 q1 (.lst (fl.map tD++[.int 1]))=N2 at Lj qZ ⊢
 walk_at "rd"
 refine⟨_,_,_,.inr (.inr ⟨kk,rfl,qZ _ _ hr.KK⟩),rfl,eV (j:=1) rfl,?_⟩
 walk_at "rd"
 intro p3 hp3
 have HY:=Le.new (o:=MO.lst [.int 2]) hp3
 have Wh:ay N2 p3 (.lst [.int 2]) p3=some (.lst [.int 2]):=ah
 generalize ay N2 p3 (.lst [.int 2])=N3 at HY Wh ⊢
 refine⟨k2,p3,_,_,rfl,rfl,(qZ.trans HY) _ _ hr.K2,Wh,by rw[aas];show _+1<=_;omega,λq2 hq2=>?_⟩
 have YJ:q2≠c:=aW ((qZ.trans HY) _ _ hC) hq2
 have Q8:ay N3 q2 (.lst (cm.map tD++[.int 2])) q2=some (.lst (cm.map tD++[.int 2])):=ah
 have Q9:=HY.trans (Le.new (o:=MO.lst (cm.map tD++[.int 2])) hq2)
 have qZ:=qZ.trans Q9
 have Lj:=Q9 _ _ Lj
 generalize ay N3 q2 (.lst (cm.map tD++[.int 2]))=N4 at Lj Q8 qZ ⊢
 walk_at "rd"
 refine⟨_,_,_,.inr (.inr ⟨kk,rfl,qZ _ _ hr.KK⟩),rfl,eV (j:=2) rfl,?_⟩
 walk_at "rd"
 intro p4 Ob
 have HM:=Le.new (o:=MO.lst [.int 3]) Ob
 have Wi:ay N4 p4 (.lst [.int 3]) p4=some (.lst [.int 3]):=ah
 generalize ay N4 p4 (.lst [.int 3])=N5 at HM Wi ⊢
 refine⟨k3,p4,_,_,rfl,rfl,(qZ.trans HM) _ _ hr.K3,Wi,by rw[aas];show _+1<=_;omega,λq3 Wj=>?_⟩
 have YK:q3≠b:=aW ((qZ.trans HM) _ _ hB) Wj
 have Wl:ay N5 q3 (.lst (rs.map tD++[.int 3])) q3=some (.lst (rs.map tD++[.int 3])):=ah
 have NR:=HM.trans (Le.new (o:=MO.lst (rs.map tD++[.int 3])) Wj)
 have qZ:=qZ.trans NR
 have Lj:=NR _ _ Lj
 have Q8:=NR _ _ Q8
 generalize ay N5 q3 (.lst (rs.map tD++[.int 3]))=N6 at Lj Q8 Wl qZ ⊢
 have pl:∀(zs:List (List Pl)) (i:Int),(zs.map tD++[L3.D.int i]).all (plain 9)=true:=λzs i=>by
  rw[adQ,bg]
  rfl
 walk_at "rd"
 refine⟨f,c,b,q1,q2,q3,_,_,_,_,_,_,rfl,rfl,qZ _ _ hF,qZ _ _ hC,qZ _ _ hB,Lj,Q8,Wl,⟨YI.symm,YJ.symm,YK.symm⟩,⟨pl fl 1,pl cm 2,pl rs 3⟩,⟨pl fl 1,pl cm 2,pl rs 3⟩,?_⟩
 rw[cC (pl fl 1),cC (pl cm 2),cC (pl rs 3)]
 exact h
end
theorem all_mk{P:Program}{w:World}{h:Heap}{mg:Str->Option Value}{fa:Addr}(Y:HD.Q2 Pf.fs Pf.bs Pf.cs "Twice" "place" "Twice.__init__" Pf.jr h)(G:h.Ns mainGlobals mg)(QZ:mg "law" =some (.ref fa)):∃(K:PySem.W.Frag) (fd:FuncData),K.In h/\(∀(s:Shared) (v:Value),BindsTo s fd ⟨[v],[]⟩ [("_law_script",v)])/\∀base:Heap,K.In base->base.Ns mainGlobals mg->cz P w K mg base gJ 9 fa fd ["_law_script"] (vt K HP):=by
 obtain⟨K,X,H,B,ad,ii,ZY,cf⟩:=Y
 unfold fs at H
 unfold bs at B
 obtain⟨⟨f0,d0,a0,F0⟩,H⟩:=H
 obtain⟨⟨f1,d1,a1,F1⟩,H⟩:=H
 obtain⟨⟨f2,d2,a2,F2⟩,H⟩:=H
 obtain⟨⟨f3,d3,a3,F3⟩,H⟩:=H
 obtain⟨⟨f4,d4,a4,F4⟩,H⟩:=H
 obtain⟨⟨f5,d5,a5,F5⟩,H⟩:=H
 obtain⟨⟨f6,d6,a6,F6⟩,H⟩:=H
 obtain⟨⟨f7,d7,a7,F7⟩,H⟩:=H
 obtain⟨⟨f8,d8,a8,F8⟩,H⟩:=H
 obtain⟨⟨f9,d9,a9,F9⟩,H⟩:=H
 obtain⟨⟨VH,ZZ,YL,YM⟩,H⟩:=H
 obtain⟨⟨VI,Z0,YN,YQ⟩,H⟩:=H
 obtain⟨⟨Ds,Z1,YR,YS⟩,H⟩:=H
 obtain⟨⟨VJ,Z2,YT,YU⟩,H⟩:=H
 obtain⟨⟨VL,Z3,YV,YW⟩,H⟩:=H
 obtain⟨⟨VM,Z4,YX,YY⟩,H⟩:=H
 obtain⟨⟨VN,Z5,YZ,Y0⟩,H⟩:=H
 obtain⟨⟨VO,Z6,Y3,Y4⟩,H⟩:=H
 obtain⟨⟨VP,Z7,Y5,Y6⟩,H⟩:=H
 obtain⟨⟨VQ,Z8,Y7,Y8⟩,H⟩:=H
 obtain⟨⟨VR,Z9,Y9,Za⟩,H⟩:=H
 obtain⟨⟨VS,d21,Zb,Zc⟩,H⟩:=H
 obtain⟨⟨VT,d22,Zd,Ze⟩,H⟩:=H
 obtain⟨⟨f23,d23,Zf,Zg⟩,H⟩:=H
 obtain⟨⟨f24,d24,Zh,Zi⟩,H⟩:=H
 obtain⟨⟨f25,d25,Zj,Zk⟩,H⟩:=H
 obtain⟨⟨f26,d26,Zl,Zm⟩,H⟩:=H
 obtain⟨⟨f27,d27,Zn,Zo⟩,H⟩:=H
 obtain⟨⟨f28,d28,Zp,Zq⟩,H⟩:=H
 obtain⟨⟨f29,d29,Wm,Wn⟩,H⟩:=H
 obtain⟨z0,B⟩:=B
 obtain⟨z1,B⟩:=B
 obtain⟨z2,B⟩:=B
 obtain⟨z3,B⟩:=B
 obtain⟨z4,B⟩:=B
 obtain⟨z5,B⟩:=B
 obtain⟨z6,B⟩:=B
 obtain⟨z7,B⟩:=B
 obtain⟨z8,B⟩:=B
 obtain⟨z9,B⟩:=B
 obtain⟨Zr,B⟩:=B
 have e:=QZ.symm.trans (PySem.W.mg_of X G Wm)
 cases e
 have T:Txt K mg ⟨_,_,_,_,_,_,_,_,_,_,_,_,_,_,_,_,_,_,_,_,_,_,_,_,_,_,_,_,_,_,_,_,_,_,_,_,_,_,_,_,_,_,_,_,_,_,_,_,_,_,_,_,_,_,_,_,_,_,_,_,_,_,_,_,_,_,_,_,_⟩:=⟨F0,PySem.W.mg_of X G a0,F1,PySem.W.mg_of X G a1,F2,PySem.W.mg_of X G a2,F3,PySem.W.mg_of X G a3,F4,PySem.W.mg_of X G a4,F5,PySem.W.mg_of X G a5,F6,PySem.W.mg_of X G a6,F7,PySem.W.mg_of X G a7,F8,PySem.W.mg_of X G a8,F9,PySem.W.mg_of X G a9,YM,PySem.W.mg_of X G YL,YQ,PySem.W.mg_of X G YN,YS,PySem.W.mg_of X G YR,YU,PySem.W.mg_of X G YT,YW,PySem.W.mg_of X G YV,YY,PySem.W.mg_of X G YX,Y0,PySem.W.mg_of X G YZ,Y4,PySem.W.mg_of X G Y3,Y6,PySem.W.mg_of X G Y5,Y8,PySem.W.mg_of X G Y7,Za,PySem.W.mg_of X G Y9,Zc,PySem.W.mg_of X G Zb,Ze,PySem.W.mg_of X G Zd,Zg,PySem.W.mg_of X G Zf,Zi,PySem.W.mg_of X G Zh,Zk,PySem.W.mg_of X G Zj,Zm,PySem.W.mg_of X G Zl,Zo,PySem.W.mg_of X G Zn,Zq,PySem.W.mg_of X G Zp,Wn,PySem.W.mg_of X G Wm,PySem.W.mg_none_of X G z0,PySem.W.mg_none_of X G z1,PySem.W.mg_none_of X G z2,PySem.W.mg_none_of X G z3,PySem.W.mg_none_of X G z4,PySem.W.mg_none_of X G z5,PySem.W.mg_none_of X G z6,PySem.W.mg_none_of X G z7,PySem.W.mg_none_of X G z8,PySem.W.mg_none_of X G z9,PySem.W.mg_none_of X G Zr,PySem.W.mg_of X G (cf.ns "NearError" (by decide +kernel)),PySem.W.mg_of X G (cf.ns "NoNumber" (by decide +kernel)),PySem.W.mg_of X G (cf.ns "Flat" (by decide +kernel)),PySem.W.mg_of X G (cf.ns "Twice" (by decide +kernel)),PySem.W.mg_of X G (cf.ns "NoPlace" (by decide +kernel)),PySem.W.mg_of X G (cf.ns "Stiff" (by decide +kernel)),PySem.W.mg_of X G (cf.ns "Crossed" (by decide +kernel)),cf.Z,cf.V,cf.FI,cf.ini,cf.Yh,cf.na,cf.kv,cf.tN,cf.sN,cf.sR,cf.sS,(cf.kk "NearError" (by decide +kernel)).trans (congrArg some (by decide +kernel)),(cf.kk "NoNumber" (by decide +kernel)).trans (congrArg some (by decide +kernel)),(cf.kk "Flat" (by decide +kernel)).trans (congrArg some (by decide +kernel)),(cf.kk "Twice" (by decide +kernel)).trans (congrArg some (by decide +kernel)),(cf.kk "NoPlace" (by decide +kernel)).trans (congrArg some (by decide +kernel)),(cf.kk "Stiff" (by decide +kernel)).trans (congrArg some (by decide +kernel)),(cf.kk "Crossed" (by decide +kernel)).trans (congrArg some (by decide +kernel))⟩
 refine⟨K,_,X,λs v=>?_,λbase _ _=>NQ T⟩
 obtain⟨_,_,_,_,_,_,_,_,_,rfl,_,_⟩:=Wn.ex
 exact .of_eq rfl
end Pf
open PySem PySem.W PyProof.Rows
set_option maxRecDepth 100000 in
set_option maxHeartbeats 0 in
theorem PySem.Challenge.cw_nearland_k42_put_in_holds : PySem.Challenge.rw_nearland_k42_put_in.Holds := by
 refine holds_law Pf.said λsaid=>?_
 refine holds_open (q:=Pf.view) (loose:=Pf.loose) (Xt:=λs=>xlAt Pf.view [] s && recOk (RowW.records (OpenRow.toRowW PySem.Challenge.rw_nearland_k42_put_in.row)) s) (XP:=XL Pf.view []) (Yf:=HD.Lo Pf.fs Pf.bs Pf.cs "Twice" "place") (Ya:=λ_=>HD.good2 Pf.fs Pf.bs "Twice.__init__" Pf.jr) (YP:=λ_ h=>HD.Q2 Pf.fs Pf.bs Pf.cs "Twice" "place" "Twice.__init__" Pf.jr h) (N:=5936) Pf.left (λ_ _ e=>HD.Ka e) (λ_ _ _ y k=>HD.ND y k) (λs e=>xl_of s (abD.mp e).1) XL.keeps (by rfl) (by rfl) (by rfl) (λs e=>recFacts_of (abD.mp e).2) (by rfl) said (by decide +kernel) ⟨rfl,rfl,rfl,rfl,rfl,by decide +kernel⟩ (by w_witness2) ?hc
 refine HD.Hx (l:=PySem.Challenge.rw_nearland_k42_put_in) (n:=63) (k:=9) (x:= "_law_script") (CX:=L2.gJ) (sp:=λK=>L3.vt K Pf.HP) rfl (by decide) rfl ⟨rfl,by decide,by decide⟩ (λw mg fa h Y G hmg=>Pf.all_mk Y G hmg) (λK H a ns hl hb hO hS=>L3.Mt hl hO hS) (λ_ _ _ _ z=>z)
