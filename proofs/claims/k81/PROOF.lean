import PyProof.Rows.All
import Wide.All
import OpenK.AllK
import Wide.FinOn
import Lean
import PyProof.EqAt
import PyProof.EqKinds
import PyProof.TupleCall
import PySem.Challenge.RW_nearland_k81_tree_joins_all
set_option Elab.async false
set_option linter.all false
set_option maxRecDepth 100000
open Bool renaming false_ne_true->Iv,false_eq_true->ID,and_eq_true->IS,eq_iff_iff->Ju,and_eq_true_iff->Jy,not_eq_true'->JK,not_eq_false'->JX,not_true->J2,and_true->Ko,and_false->KU,not_false->K1
open Classical renaming byContradiction->J6
open Int renaming emod_lt_of_pos->IY,emod_nonneg->Jb,toNat_natCast->J1
open List renaming length_map->Iw,getElem?_eq_getElem->Iz,size_toArray->IA,mem_cons_self->IB,getElem?_eq_some_iff->IC,mem_cons_of_mem->IF,getElem?_map->II,mem_cons->IJ,mem_append->IK,length_cons->IL,all_eq_true->IM,map_cons->IP,lookup_cons->IT,getD_eq_getElem?_getD->IU,mem_of_getElem?->IW,length_append->IX,length_nil->IZ,append_assoc->Ja,getElem_mem->Jc,mem_append_right->Jd,nodup_append->Je,mem_singleton->Jf,length_take->Jg,drop_eq_getElem_cons->Ji,mem_map->Jj,map_append->Jk,zip_cons_cons->Jl,take_length->Jm,pairwise_iff_getElem->Js,perm_append_comm->Jt,take_sublist->Jv,getElem?_set_self->Jx,nodup_cons->JC,getElem?_eq_none->JD,pairwise_append->JE,getElem?_append_left->JF,all_cons->JG,zip_nil_right->JJ,reverse_cons->JL,take_of_length_le->JM,length_drop->JO,getElem?_set_ne->JP,mem_iff_getElem->JQ,of_mem_zip->JR,find?_cons->JT,map_map->JU,filterMap_cons->JV,find?_eq_none->JY,getElem?_append_right->JZ,zip_nil_left->J0,extract_eq_take_drop->J3,reverse_perm->J4,take_add_one->J5,length_erase_of_mem->J8,mem_reverse->Ka,getElem?_replicate->Kc,all_map->Kd,getElem?_cons_zero->Ke,drop_of_length_le->Kf,length_pos_of_mem->Kg,pairwise_reverse->Km,mem_append_left->Kn,toList_toArray->Kp,length_reverse->Kq,length_pos_iff->Ks,mem_filterMap->Ku,drop_sublist->Kz,mapM_toArray->KA,zipIdx_cons->KH,not_mem_nil->KI,isEmpty_iff->KJ,drop_length->KL,mem_filter->KN,append_nil->KO,nil_append->KR,forIn_cons->KS,nodup_nil->KW,drop_zero->KY,drop_drop->KZ,take_succ->K0
open Nat renaming le_refl->Iu,zero_le->IE,lt_of_lt_of_le->IG,ne_of_lt->IQ,lt_or_ge->IV,le_add_right->Jh,lt_irrefl->Jo,le_trans->Jp,add_sub_cancel'->Jq,zero_add->Jr,not_lt->Jz,le_succ->JA,le_of_lt->JB,add_one_sub_one->JH,zero_lt_one->JI,min_eq_left->JS,add_sub_cancel->JW,lt_succ_self->J9,le_of_ble_eq_true->Kh,eq_zero_or_pos->Kv,lt_of_le_of_lt->Kw,min_self->Kx,lt_succ_of_lt->Ky,succ_ne_self->KG,not_lt_zero->KP,le_antisymm->KQ
open Option renaming map_eq_some_iff->Jw,map_eq_none_iff->JN,isSome_iff_exists->J7,getD_none->KC,getD_some->KD
local macro_rules| `(tactic|omega)=> `(tactic|lia)
namespace HD
open PySem PySem.W PySem.Calls
def vS(p:Program)(w:World)(n₀:Nat)(ann:Option Value):Nat->SharedT->Thread->Option SharedT
 |0,_,_=>none
 |n+1,s,t=>match through t with
  |true=>some s
  |false=>match stepOk n₀ ann t with
   |false=>none
   |true=>match stepT (denote treeTable) p w s t with
    |some (s',t')=>vS p w n₀ ann n s' t'
    |none=>none
theorem qy{p:Program}{w:World}{n₀:Nat}{ann:Option Value}:∀{n:Nat} {s s':SharedT} {t:Thread},vS p w n₀ ann n s t=some s'->topRun treeTable p w n₀ ann n s.abs t=some s'.abs
 |0,_,_,_,h=>nomatch h
 |n+1,s,s',t,h=>by
  unfold vS at h
  unfold topRun
  cases a:through t with
  |true=>rw[a]at h;cases h;rfl
  |false=>
   rw[a]at h
   dsimp only at h ⊢
   cases b:stepOk n₀ ann t with
   |false=>rw[b]at h;cases h
   |true=>
    rw[b]at h
    dsimp only at h ⊢
    cases c:stepT (denote treeTable) p w s t with
    |none=>rw[c]at h;cases h
    |some x=>
     obtain⟨s1,t1⟩:=x
     rw[c]at h
     rw[stepT_spec c]
     exact qy h
noncomputable def tE(P:Params):BT:=((boot_heap P).objs.toList.foldl (λx o=>(x.1.ins x.2 o,x.2+1)) (BT.nil,0)).1
theorem rE(P:Params):absHeap (tE P) 11 (boot_heap P).life=boot_heap P:=by kernel_rfl
theorem rF(w:World):((boot_heap w.params).isNs mainGlobals && (#[]:Array GenState).size==0,(boot_heap w.params).objs.size,(boot_heap w.params).nsMap mainGlobals "__annotations__")=(true,11,some (.ref 6)):=by kernel_rfl
theorem rG{p q:Program}{loose:List Str}{Xt:Shared->Bool}{α:Type}{Yf:Shared->α}{Ya:World->α}{N M:Nat}(e:opening p=plainProg p.main.scope.names)(hN:Nat.ble 600 N=true)(f:∀s,fenceModules? p s=some s)(le:Nat.ble M N=true)
 (run:∀(w:World) (os:OsState),(vS p w 11 (some (.ref 6)) M ⟨tE w.params,11,(boot_heap w.params).life,#[],boot_drawn,boot_toks,os⟩ (topStub p)).map (λsT=>
  (staticsOk (importedModules p.main.body) (boot_heap w.params) sT.abs.heap && namesBound p sT.abs.heap && gensDone sT.abs && laidKept (boot_heap w.params) sT.abs.heap,openSeen q loose (importedModules p.main.body) Xt true sT.abs,Yf sT.abs))=some (true,openGood q loose,Ya w)):LeftO p q loose Xt Yf Ya N:=λw=>by
 obtain⟨⟨h,gs,d,k,os⟩,e,e'⟩:=Jw.mp (boot_open e hN f w)
 obtain⟨rfl,rfl,rfl,rfl⟩:h=boot_heap w.params/\gs=Array.mk []/\d=boot_drawn/\k=boot_toks:=by simpa using e'
 obtain⟨z1,z2,z3⟩:_/\_/\_:=by simpa only[Prod.mk.injEq]using rF w
 obtain⟨sT,e1,e2⟩:=Jw.mp (run w os)
 obtain⟨l1,l2,l3⟩:_/\_/\_:=by simpa only[Prod.mk.injEq]using e2
 have r:=topRun_mono (N-M) _ _ _ _ (qy e1)
 rw[show M+(N-M)=N by have:=Kh le;omega]at r
 have a:SharedT.abs ⟨tE w.params,11,(boot_heap w.params).life,#[],boot_drawn,boot_toks,os⟩= ⟨boot_heap w.params,Array.mk [],boot_drawn,boot_toks,os⟩:=by
  unfold SharedT.abs
  dsimp only
  rw[rE]
 rw[a]at r
 have t:topFrom treeTable p w N ⟨boot_heap w.params,Array.mk [],boot_drawn,boot_toks,os⟩=some sT.abs:=by
  unfold topFrom
  dsimp only
  rw[z1,z2,z3,r]
  show(match staticsOk (importedModules p.main.body) (boot_heap w.params) sT.abs.heap && namesBound p sT.abs.heap && gensDone sT.abs && laidKept (boot_heap w.params) sT.abs.heap with|true=>_|false=>_)=_
  rw[l1]
 unfold openEnds
 rw[e]
 show(topFrom treeTable p w N _).map _=_
 rw[t]
 exact congrArg some (Prod.ext l2 l3)
def dA(s:Stmt):Arguments:=match s with
 | .FunctionDef _ a _ _ _ _ _ _ _ _=>a
 |_=>{posonlyargs:=[],args:=[],vararg:=none,kwonlyargs:=[],kw_defaults:=[],kwarg:=none,defaults:=[]}
def dB(s:Stmt):List Stmt:=match s with
 | .FunctionDef _ _ b _ _ _ _ _ _ _=>b
 |_=>[]
def dS(s:Stmt):Scope:=match s with
 | .FunctionDef _ _ _ _ _ _ sc _ _ _=>sc
 |_=>{kind:= .function,names:=[],isGenerator:=false,isCoroutine:=false}
abbrev pr(n:Str)(st:Stmt):Str ×Stmt:=(n,st)
def x9(h:Heap)(n:Str):Option (Option Value):=match h.get? mainGlobals with
 |some o=>nsIn [(mainGlobals,o)] mainGlobals n
 |none=>none
def fnAt(h:Heap)(n:Str):Option (Addr ×FuncData):=match x9 h n with
 |some (some (.ref f))=>(match h.get? f with
  |some ⟨_,_,.func fd,_⟩=>some (f,fd)
  |_=>none)
 |_=>none
def gu(h:Heap)(v:Value):Option Str:=match v with
 | .ref c=>(match h.get? c with
   |some ⟨_,_,.fields vs,_⟩=>(match vs.toList with
    |_:: .str q _::_=>some q
    |_=>none)
   |_=>none)
 |_=>none
def blank(fd:FuncData):FuncData:={fd with kwdefaults:= .none,doc:= .none,pyModule:= .none,annotations:=none,code:= .none,closureTuple:= .none}
abbrev Seen:=List (Option (FuncData ×Option Str)) ×List (Option (Option Value))
def Gr(fs:List (Str ×Stmt))(bs:List Str)(s:Shared):Seen:=
 (fs.map λp=>(fnAt s.heap p.1).map λx=>(blank x.2,gu s.heap x.2.code),bs.map λb=>x9 s.heap b)
def good(fs:List (Str ×Stmt))(bs:List Str):Seen:=
 (fs.map λp=>some (fnOf p.1 p.1 (dA p.2) (dB p.2) (dS p.2) .none .none .none .none none .none .none,some p.1),bs.map λ_=>some none)
def mE(h:Heap):List Addr->Frag
 |[]=>[]
 |a::r=>match h.get? a with
  |some o=>(a,o)::mE h r
  |none=>mE h r
def adr(h:Heap)(n:Str):List Addr:=match fnAt h n with
 |some (f,fd)=>f::(match fd.code with| .ref c=>[c]|_=>[])
 |none=>[]
def rH(h:Heap)(fs:List (Str ×Stmt)):List Addr:=mainGlobals::fs.flatMap λp=>adr h p.1
end HD
namespace HD
open PySem PySem.W
def mF(h:Heap)(n:Str):Option (Addr ×Obj):=match fnAt h n with
 |some (_,fd)=>(match fd.code with
  | .ref c=>(match h.get? c with
    |some o=>some (c,o)
    |none=>none)
  |_=>none)
 |none=>none
def vU(v:Value)(t:String):Bool:=match v with
 | .type u=>u==t
 |_=>false
def tabIn(vs:Array Value):Option Addr:=match(vs[11]?:Option Value),vs.getD 18 .none,vs.getD 7 .none,vs.getD 9 .none,vs.getD 10 .none with
 |some (.ref a),.str _ _,.int _ _,.bool _,.int _ _=>some a
 |_,_,_,_,_=>none
def tabAt(h:Heap)(n:Str):Option Addr:=match mF h n with
 |some (_,o)=>if vU o.cls "code" then(match o.data with
  | .fields vs=>tabIn vs
  |_=>none)else none
 |none=>none
def ya(o:Obj):Bool:=vU o.cls "module" && o.dict==some builtinsNs && (match o.data with| .plain=>true|_=>false)
def yN(h:Heap):Option Addr:=match x9 h "__builtins__" with
 |some (some (.ref b))=>(match h.get? b with
  |some o=>if ya o && b !=builtinsNs then some b else none
  |none=>none)
 |_=>none
def Ba(v:Value):Bool:=match v with
 | .none=>true
 |_=>false
def jR(h:Heap)(a:Addr):Bool:=match h.get? a with
 |some o=>Ba o.cls && o.dict.isNone && o.slots.toList.isEmpty && (match o.data with| .fields vs=>vs.toList.isEmpty|_=>false)
 |none=>false
def yb(fs:List (Str ×Stmt))(n:Str)(h:Heap):Bool:=match tabAt h n,yN h with
 |some a,some b=>jR h a && a !=cStatics && b !=a && (rH h fs).all λc=>c !=a
 |_,_=>false
abbrev yc:=Seen ×Bool
def yO(fs:List (Str ×Stmt))(bs:List Str)(n:Str)(s:Shared):yc:=(Gr fs bs s,yb fs n s.heap)
def tF(fs:List (Str ×Stmt))(bs:List Str):yc:=(good fs bs,true)
end HD
namespace  Pf
open PySem PySem.W PyProof.Rows
def top(i:Nat):Stmt:=PySem.Challenge.pw_nearland_k81_tree_joins_all.main.body.getD i (.Pass ⟨0,0,0,0⟩)
abbrev gv:Stmt:=top 10
abbrev d7:Stmt:=top 11
abbrev fk:Stmt:=top 12
abbrev fm:Stmt:=top 13
abbrev fq:Stmt:=top 14
abbrev d8:Stmt:=top 15
abbrev dD:Stmt:=top 3
abbrev mG:Stmt:=top 1
abbrev cQ:Stmt:=top 5
abbrev jS:Stmt:=top 7
abbrev mH:Stmt:=top 8
abbrev cT:Stmt:=top 18
abbrev fy:Stmt:=top 16
abbrev fz:Stmt:=top 17
abbrev tG:Stmt:=top 19
def view:Program:={PySem.Challenge.pw_nearland_k81_tree_joins_all with main:={PySem.Challenge.pw_nearland_k81_tree_joins_all.main with body:=[top 19]}}
def loose:List Str:=(["apart","side_between","all_pairs","joined","tree","_law_cell","_law_ringed","_law_lined","_law_great","_law_place","_law_places","_law_alike","_law_apart","_law_together"]:List String).map Str.ofString
def fs:List (Str ×Stmt):=[HD.pr "_law_cell" gv,HD.pr "_law_ringed" d7,HD.pr "_law_lined" fk,HD.pr "_law_great" fm,HD.pr "_law_place" fq,HD.pr "_law_places" d8,HD.pr "side_between" dD,HD.pr "apart" mG,HD.pr "all_pairs" cQ,HD.pr "joined" jS,HD.pr "tree" mH,HD.pr "_law_together" cT,HD.pr "_law_alike" fy,HD.pr "_law_apart" fz,HD.pr "law" tG]
def bs:List Str:=["len","range","min","max","sorted","dict","isinstance","int","str","tuple","list","bool","reversed"]
set_option maxHeartbeats 0 in
theorem said:PySem.Challenge.rw_nearland_k81_tree_joins_all.wellSaid=true:=by
 unfold OpenLaw.wellSaid OpenRow.wellSaid OpenRow.partSaid looksOpen
 repeat' (with_reducible refine look_both ?_ ?_)
 all_goals decide +kernel
set_option maxHeartbeats 0 in
theorem left:LeftO PySem.Challenge.rw_nearland_k81_tree_joins_all.row.prog view loose (λs=>xlAt view [] s && recOk (RowW.records (OpenRow.toRowW PySem.Challenge.rw_nearland_k81_tree_joins_all.row)) s) (HD.yO fs bs "all_pairs") (λ_=>HD.tF fs bs) 1770:=HD.rG (M:=635) (by kernel_rfl) (by kernel_rfl) (λs=>by kernel_rfl) (by kernel_rfl) (λw os=>by kernel_rfl)
end Pf
namespace L2
open PySem PySem.Spec PyProof.Rows
abbrev Key:=Sum Int Str
def yd:Key->Value->Bool
 | .inl k,v=>Value.isInt k v
 | .inr x,v=>Value.isStrOf x v
def DA(w:World):Key->Int
 | .inl k=>hashInt k
 | .inr x=>hashStr w x
theorem bF:∀{k:Key} {v:Value},yd k v=true->(∃i t,k=Sum.inl i/\v=Value.int i t)\/(∃x t,k=Sum.inr x/\v=Value.str x t)
 | .inl i,v,h=>by
   obtain⟨t,e⟩:=Value.isInt_shape (k:=i) (v:=v) h
   exact .inl ⟨i,t,rfl,e⟩
 | .inr x,v,h=>by
   obtain⟨t,e⟩:=Value.isStrOf_shape (x:=x) (v:=v) h
   exact .inr ⟨x,t,rfl,e⟩
theorem yP(a b:Int):decide ((Sum.inl a:Key)=Sum.inl b)=(a==b):=by
 by_cases e:a=b
 ·subst e;simp
 ·have h:¬(Sum.inl a:Key)=Sum.inl b:=λq=>e (Sum.inl.inj q)
  rw[decide_eq_false h]
  exact(beq_eq_false_iff_ne.mpr e).symm
theorem yQ(a b:Str):decide ((Sum.inr a:Key)=Sum.inr b)=decide (a=b):=by
 by_cases e:a=b
 ·subst e;simp
 ·have h:¬(Sum.inr a:Key)=Sum.inr b:=λq=>e (Sum.inr.inj q)
  rw[decide_eq_false h,decide_eq_false e]
theorem yR(a:Int)(b:Str):decide ((Sum.inl a:Key)=Sum.inr b)=false:=decide_eq_false (λq=>nomatch q)
theorem yS(a:Str)(b:Int):decide ((Sum.inr a:Key)=Sum.inl b)=false:=decide_eq_false (λq=>nomatch q)
def qz(prog:Program)(w:World):PySem.KeyKind prog w Key where
 is:=yd
 hash:=DA w
 inj:=λv a b ha hb=>by
  rcases bF ha with⟨i,t,rfl,rfl⟩|⟨x,t,rfl,rfl⟩
  ·rcases bF hb with⟨j,u,rfl,e⟩|⟨y,u,rfl,e⟩
   ·injection e with e1 _;rw[e1]
   ·exact nomatch e
  ·rcases bF hb with⟨j,u,rfl,e⟩|⟨y,u,rfl,e⟩
   ·exact nomatch e
   ·injection e with e1 _;rw[e1]
 byValue:=λk v h=>by
  rcases bF h with⟨i,t,rfl,rfl⟩|⟨x,t,rfl,rfl⟩<;>rfl
 pyHash:=λhv h=>by
  rcases bF hv with⟨i,t,rfl,rfl⟩|⟨x,t,rfl,rfl⟩
  ·exact wpAny_pyHash_int h
  ·exact wpAny_pyHash_str h
 eqBool:=λhu hv h=>by
  rcases bF hu with⟨i,t,rfl,rfl⟩|⟨x,t,rfl,rfl⟩
  ·rcases bF hv with⟨j,u,rfl,rfl⟩|⟨y,u,rfl,rfl⟩
   ·rw[yP]at h;exact wpAny_eqBool_int h
   ·rw[yR]at h;exact SeqAt.EqAt.int_str i t y u _ _ _ _ h
  ·rcases bF hv with⟨j,u,rfl,rfl⟩|⟨y,u,rfl,rfl⟩
   ·rw[yS]at h;exact SeqAt.EqAt.str_int x t j u _ _ _ _ h
   ·rw[yQ]at h;exact wpAny_eqBool_str h
 «strs» :=λk x t v h=>by
  rcases bF h with⟨i,u,rfl,e⟩|⟨y,u,rfl,e⟩
  ·exact nomatch e
  ·injection e with e1 _
   subst e1
   cases v<;>rfl
end L2
namespace L2
open PySem PySem.Spec PyProof.Rows
inductive V where
 |aZ|bl (b:Bool)|int (i:Int)|str (x:Str)|tH (b:Array UInt8)|AY (b:UInt64)|ref (a:Addr)|ty (n:String)
 deriving DecidableEq
def RelV:V->Value->Prop
 | .aZ,u=>u=Value.none
 | .bl b,u=>u=Value.bool b
 | .int i,u=>∃t,u=Value.int i t
 | .str x,u=>∃t,u=Value.str x t
 | .tH b,u=>∃t,u=Value.bytes b t
 | .AY b,u=>∃t,u=Value.float b t
 | .ref a,u=>u=Value.ref a
 | .ty n,u=>u=Value.type n
abbrev Vals:List V->List Value->Prop:=Paired RelV
theorem Vals.length{xs:List V}{us:List Value}(r:Vals xs us):xs.length=us.length:=Paired.length r
theorem Vals.get:∀{xs:List V} {us:List Value} {i:Nat} {x:V},Vals xs us->xs[i]?=some x->∃u,us[i]?=some u/\RelV x u
 |_,_,_,_,.nil,e=>by simp at e
 |_,_,0,_,.cons r _,e=>by simp at e;subst e;exact⟨_,rfl,r⟩
 |_,_,i+1,x,.cons _ t,e=>by
  obtain⟨u,h1,h2⟩:=Vals.get (i:=i) (x:=x) t (by simpa using e)
  exact⟨u,by simpa using h1,h2⟩
theorem Vals.append:∀{xs ys:List V} {us ws:List Value},Vals xs us->Vals ys ws->Vals (xs++ys) (us++ws)
 |_,_,_,_,.nil,s=>s
 |_,_,_,_,.cons r t,s=> .cons r (Vals.append t s)
theorem Vals.take:∀{xs:List V} {us:List Value} (n:Nat),Vals xs us->Vals (xs.take n) (us.take n)
 |_,_,0,_=> .nil
 |_,_,_+1,.nil=> .nil
 |_,_,n+1,.cons r t=> .cons r (Vals.take n t)
theorem Vals.drop:∀{xs:List V} {us:List Value} (n:Nat),Vals xs us->Vals (xs.drop n) (us.drop n)
 |_,_,0,r=>r
 |_,_,_+1,.nil=> .nil
 |_,_,n+1,.cons _ t=>Vals.drop n t
def yT:Option V->Option Value->Prop
 |some v,some u=>RelV v u
 |none,none=>True
 |_,_=>False
def KV{κ:Type}:List (κ ×V)->List (κ ×Value)->Prop:=Paired λ(p:κ ×V) (q:κ ×Value)=>p.1=q.1/\RelV p.2 q.2
def kV:Key->V
 | .inl i=> .int i
 | .inr x=> .str x
inductive HO where
 |lst (xs:List V)
 |tup (xs:List V)
 |dK (kvs:List (Key ×V))|dT (kvs:List (List Key ×V))
 |set (S:Int->Bool) (n:Nat)
 |ins (C dx:Addr) (fs:List (Str ×V))
 |own (x:Addr)
 |xd (fs:List (Str ×V))
 |met (f x:Addr)
 |DB (lo hi:Int)
 |fZ (o:Obj) (u:HO)
 |yU (ps:Array Value)
 |ext (φ:Heap->Prop)
abbrev Hp:=Addr->Option HO
def upd(H:Hp)(a:Addr)(o:HO):Hp:=λb=>if b=a then some o else H b
theorem aU{H:Hp}{a:Addr}{o:HO}:upd H a o a=some o:=by unfold upd;rw[if_pos rfl]
theorem aD{H:Hp}{a b:Addr}{o:HO}(h:b≠a):upd H a o b=H b:=by unfold upd;rw[if_neg h]
theorem qA{H:Hp}{a b:Addr}{o u:HO}(h:H a=some o)(h':H b=some u)(d:o≠u):a≠b:=by
 intro e;subst e;rw[h]at h';exact d (Option.some.inj h')
theorem bh{H:Hp}{a b:Addr}{o:HO}(h:H a=some o)(h':H b=none):a≠b:=by
 intro e;subst e;rw[h]at h';cases h'
section
variable(P:Program)(w:World)
def bE(H:Hp)(h:Heap)(a:Addr):HO->Prop
 | .lst xs=>xs.length<=sizeLine/\∃(its:List Value) (n:Nat),Vals xs its/\h.get? a=some {cls:= .type "list",data:= .seq its.toArray n}
 | .tup xs=>xs.length<=sizeLine/\∃its:List Value,Vals xs its/\IsTup h a its.toArray
 | .dK kvs=>kvs.length<=sizeLine/\(a==sysModules)=false/\∃vs,KV kvs vs/\h.DictOf (qz P w) a vs
 | .dT kvs=>kvs.length<=sizeLine/\(a==sysModules)=false/\∃xs:List (List Key ×Addr ×Value),
  Paired (λ(p:List Key ×V) (q:List Key ×Addr ×Value)=>p.1=q.1/\H q.2.1=some (.tup (p.1.map kV))/\RelV p.2 q.2.2) kvs xs/\
  ∃o es ep,h.get? a=some o/\o.ExactDict/\o.data= .dict es ep/\es.toList=xs.map (entryOfKey (tupleKind (qz P w)))/\(xs.map (·.1)).Nodup
 | .set S n=>h.SetOf (intKind P w) a S n
 | .ins C dx fs=>H dx=some (.own a)/\fs.length<=1000/\dx≠a/\h.get? a=some (PySem.W.instObj C dx)/\
  ∃mA,h.Ns1 dx mA/\(∀f,yT (fs.lookup f) (mA f))/\PySem.Within mA (fs.map (·.1))
 | .own _=>∃o,h.get? a=some o
 | .xd fs=>∃mA,h.Ns1 a mA/\∀f,yT (fs.lookup f) (mA f)
 | .DB lo hi=>∃t u v,h.get? a=some {cls:= .type "range",data:= .fields #[.int lo t,.int hi u,.int 1 v]}
 | .fZ o u=>h.get? a=some o/\bE H h a u
 | .yU ps=>h.get? a=some {cls:= .none,data:= .fields ps}
 | .met f x=>h.get? a=some (PySem.W.methodObj (.ref f) (.ref x))
 | .ext φ=>φ h/\(∃o,h.get? a=some o)/\∀h1 h2:Heap,φ h1->(∀o,h1.get? a=some o->h2.get? a=some o)->φ h2
def d9(H:Hp)(h:Heap):Prop:= ∀a o,H a=some o->bE P w H h a o
end
section
variable{P:Program}{w:World}{H H':Hp}{h h':Heap}{a:Addr}{o:HO}
theorem bE.lt(x:bE P w H h a o):a<h.objs.size:=by
 cases o with
 |lst xs=>obtain⟨_,_,_,_,e⟩:=x;exact Heap.lt_size e
 |tup xs=>obtain⟨_,_,_,p⟩:=x;exact p.lt
 |dK kvs=>obtain⟨_,_,_,_,o,_,_,e,_⟩:=x;exact Heap.lt_size e
 |dT kvs=>obtain⟨_,_,_,_,o,_,_,e,_⟩:=x;exact Heap.lt_size e
 |set S n=>obtain⟨o,_,_,_,e,_⟩:=x;exact Heap.lt_size e
 |ins C dx fs=>obtain⟨_,_,_,e,_⟩:=x;exact Heap.lt_size e
 |own y=>obtain⟨_,e⟩:=x;exact Heap.lt_size e
 |xd fs=>obtain⟨_,⟨_,_,_,e,_⟩,_⟩:=x;exact Heap.lt_size e
 |DB lo hi=>obtain⟨_,_,_,e⟩:=x;exact Heap.lt_size e
 |fZ ob u=>obtain⟨e,_⟩:=x;exact Heap.lt_size e
 |yU ps=>exact Heap.lt_size (show h.get? a=some _ from x)
 |met f y=>exact Heap.lt_size (show h.get? a=some _ from x)
 |ext φ=>obtain⟨_,⟨_,e⟩,_⟩:=x;exact Heap.lt_size e
theorem Paired.rJ{α β:Type}{F G:α->β->Prop}:∀{l₁:List α} {l₂:List β},Paired F l₁ l₂->(∀a b,F a b->G a b)->Paired G l₁ l₂
 |_,_,.nil,_=> .nil
 |_,_,.cons r t,f=> .cons (f _ _ r) (Paired.rJ t f)
theorem bE.stay(x:bE P w H h a o)(k:∀b u,(b=a\/H b=some (.own a))->h.get? b=some u->h'.get? b=some u)
 (ho:∀b,H b=some (.own a)->H' b=some (.own a))(ht:∀b xs,H b=some (.tup xs)->H' b=some (.tup xs)):bE P w H' h' a o:=by
 induction o with
 |lst xs=>obtain⟨z,its,n,r,e⟩:=x;exact⟨z,its,n,r,k _ _ (.inl rfl) e⟩
 |tup xs=>obtain⟨z,its,r,ob,e,c⟩:=x;exact⟨z,its,r,ob,k _ _ (.inl rfl) e,c⟩
 |dK kvs=>obtain⟨z,y,vs,r,ob,es,ep,e,c⟩:=x;exact⟨z,y,vs,r,ob,es,ep,k _ _ (.inl rfl) e,c⟩
 |dT kvs=>
  obtain⟨z,y,xs,r,ob,es,ep,e,c⟩:=x
  exact⟨z,y,xs,Paired.rJ r λp q z=>⟨z.1,ht _ _ z.2.1,z.2.2⟩,ob,es,ep,k _ _ (.inl rfl) e,c⟩
 |set S n=>obtain⟨ob,es,ep,t,e,c⟩:=x;exact⟨ob,es,ep,t,k _ _ (.inl rfl) e,c⟩
 |ins C dx fs=>
  obtain⟨d,z,ne,e,mA,⟨od,es,ep,e2,c⟩,r⟩:=x
  exact⟨ho _ d,z,ne,k _ _ (.inl rfl) e,mA,⟨od,es,ep,k _ _ (.inr d) e2,c⟩,r⟩
 |own y=>obtain⟨ob,e⟩:=x;exact⟨ob,k _ _ (.inl rfl) e⟩
 |xd fs=>obtain⟨mA,⟨od,es,ep,e,c⟩,r⟩:=x;exact⟨mA,⟨od,es,ep,k _ _ (.inl rfl) e,c⟩,r⟩
 |DB lo hi=>obtain⟨t,u,v,e⟩:=x;exact⟨t,u,v,k _ _ (.inl rfl) e⟩
 |fZ ob u ih=>obtain⟨e,q⟩:=x;exact⟨k _ _ (.inl rfl) e,ih q⟩
 |yU ps=>
  have e:h.get? a=some {cls:= .none,data:= .fields ps}:=x
  show h'.get? a=some {cls:= .none,data:= .fields ps}
  exact k a _ (.inl rfl) e
 |met f y=>
  have e:h.get? a=some (PySem.W.methodObj (.ref f) (.ref y)):=x
  show h'.get? a=some (PySem.W.methodObj (.ref f) (.ref y))
  exact k a _ (.inl rfl) e
 |ext φ=>obtain⟨p,⟨o,e⟩,st⟩:=x;exact⟨st _ _ p λo q=>k _ _ (.inl rfl) q,⟨o,k _ _ (.inl rfl) e⟩,st⟩
theorem d9.lt(x:d9 P w H h)(e:H a=some o):a<h.objs.size:=(x a o e).lt
theorem d9.fresh(x:d9 P w H h)(e:h.objs.size<=a):H a=none:=by
 cases q:H a with
 |none=>rfl
 |some u=>exact absurd (IG (x.lt q) e) (Jo _)
theorem d9.kept(x:d9 P w H h)(k:∀b u,h.get? b=some u->h'.get? b=some u):d9 P w H h':=λa o e=>
 (x a o e).stay (λb u _ q=>k b u q) (λ_ q=>q) λ_ _ q=>q
theorem d9.laid(x:d9 P w H h)(k:∀b u,h.get? b=some u->h'.get? b=some u)(hp:h.objs.size<=a)(new:bE P w (upd H a o) h' a o):d9 P w (upd H a o) h':=λb u e=>by
 have hn:=x.fresh hp
 by_cases hb:b=a
 ·subst hb;rw[aU]at e;cases e;exact new
 ·rw[aD hb]at e
  exact(x b u e).stay (λc v _ q=>k c v q) (λc q=>by rw[aD (bh q hn)];exact q) λc xs q=>by rw[aD (bh q hn)];exact q
end
def Rd(H:Hp)(a:Addr)(u:HO):Prop:=H a=some u\/∃o,H a=some (.fZ o u)
theorem Rd.ok{P:Program}{w:World}{H:Hp}{h:Heap}{a:Addr}{u:HO}(r:Rd H a u)(x:d9 P w H h):bE P w H h a u:=by
 rcases r with r|⟨o,r⟩
 ·exact x a u r
 ·obtain⟨_,q⟩:=x a _ r
  exact q
def Dd:Option HO->Prop
 |some (.lst _)=>True
 |some (.dK _)=>True
 |some (.dT _)=>True
 |some (.set _ _)=>True
 |some (.ins _ _ _)=>True
 |some (.ext _)=>True
 |_=>False
section
variable{P:Program}{w:World}{H:Hp}{h h':Heap}{x e:Addr}{o':HO}
theorem d9.write(ok:d9 P w H h)(mu:Dd (H x))(he:e=x\/H e=some (.own x))(k:∀b u,b≠e->h.get? b=some u->h'.get? b=some u)(AZ:∃u,h'.get? e=some u)
 (new:bE P w (upd H x o') h' x o'):d9 P w (upd H x o') h':=λb u q=>by
 have Bb:∀c y,H c=some (.own y)->c≠x:=λc y r z=>by subst z;rw[r]at mu;exact mu
 have DC:∀c xs,H c=some (.tup xs)->c≠x:=λc xs r z=>by subst z;rw[r]at mu;exact mu
 by_cases hb:b=x
 ·subst hb;rw[aU]at q;cases q;exact new
 ·rw[aD hb]at q
  by_cases yV:b=e
  ·have q':H b=some (.own x):=by
    rcases he with z|z
    ·exact absurd (yV.trans z) hb
    ·rw[yV];exact z
   rw[q]at q';cases q'
   obtain⟨v,hv⟩:=AZ
   exact⟨v,by rw[yV];exact hv⟩
  ·refine(ok b u q).stay (λc v hc r=>k c v ?_ r) (λc r=>by rw[aD (Bb c b r)];exact r) λc xs r=>by rw[aD (DC c xs r)];exact r
   rcases hc with rfl|hc
   ·exact yV
   ·rintro rfl
    rcases he with z|z
    ·exact Bb c b hc z
    ·rw[hc]at z;cases z;exact hb rfl
end
structure Un(fs ex:List Addr)(H H':Hp)(h h':Heap):Prop where
 keep:∀b o,h.get? b=some o->H b=none->b∉fs->b∉ex->h'.get? b=some o
 slot:∀b o,h.get? b=some o->H b=none->b∈fs->b∉ex->∃sl,h'.get? b=some {o with slots:=sl}
 free:∀b o,h.get? b=some o->H b=none->b∉ex->H' b=none
 there:∀b o,h.get? b=some o->b∉ex->∃o',h'.get? b=some o'
 tups:∀b xs,H b=some (.tup xs)->H' b=some (.tup xs)
 mJ:∀b o u,H b=some (.fZ o u)->H' b=some (.fZ o u)
 oj:∀b ps,H b=some (.yU ps)->∃more,H' b=some (.yU (ps++more))
section
variable{fs fs' ex ex':List Addr}{H H1 H2:Hp}{h h1 h2 h':Heap}{a x e:Addr}{o:HO}
theorem Un.any(u:Un fs ex H H1 h h1){b:Addr}{ob:Obj}(q:h.get? b=some ob)(n:H b=none)(hx:b∉ex):∃sl,h1.get? b=some {ob with slots:=sl}:=by
 by_cases hb:b∈fs
 ·exact u.slot b ob q n hb hx
 ·exact⟨ob.slots,u.keep b ob q n hb hx⟩
theorem Un.kept(k:∀b u,h.get? b=some u->h'.get? b=some u):Un fs ex H H h h':=
 ⟨λb ob q _ _ _=>k b ob q,λb ob q _ _ _=>⟨ob.slots,k b ob q⟩,λ_ _ _ n _=>n,λb ob q _=>⟨ob,k b ob q⟩,λ_ _ q=>q,λ_ _ _ q=>q,λ_ ps q=>⟨#[],by rw[q];simp⟩⟩
theorem Un.refl:Un fs ex H H h h:=Un.kept λ_ _ q=>q
theorem Un.laid(k:∀b u,h.get? b=some u->h'.get? b=some u)(hp:h.objs.size<=a)(hn:H a=none):Un fs ex H (upd H a o) h h' where
 keep:=λb u q _ _ _=>k b u q
 slot:=λb u q _ _ _=>⟨u.slots,k b u q⟩
 free:=λb u q n _=>by rw[aD (IQ (IG (Heap.lt_size q) hp))];exact n
 there:=λb u q _=>⟨u,k b u q⟩
 tups:=λb xs q=>by rw[aD (bh q hn)];exact q
 mJ:=λb u xs q=>by rw[aD (bh q hn)];exact q
 oj:=λb ps q=>⟨#[],by rw[aD (bh q hn),q];simp⟩
theorem Un.write(mu:Dd (H x))(he:e=x\/H e=some (.own x))(k:∀b u,b≠e->h.get? b=some u->h'.get? b=some u)(AZ:∃u,h'.get? e=some u):Un fs ex H (upd H x o) h h':=by
 have hx:∀b,H b=none->b≠x:=λb n z=>by subst z;rw[n]at mu;exact mu
 have hb:∀b,H b=none->b≠e:=λb n z=>by
  subst z
  rcases he with r|r
  ·exact hx b n r
  ·rw[n]at r;cases r
 have hm:∀b u,H b=some u->¬Dd (some u)->b≠x:=λb u q nm z=>by subst z;rw[q]at mu;exact nm mu
 refine⟨λb u q n _ _=>k b u (hb b n) q,λb u q n _ _=>⟨u.slots,k b u (hb b n) q⟩,λb u q n _=>by rw[aD (hx b n)];exact n,λb u q _=>?_,
  λb xs q=>by rw[aD (hm b _ q λz=>z)];exact q,λb u xs q=>by rw[aD (hm b _ q λz=>z)];exact q,λb ps q=>⟨#[],by rw[aD (hm b _ q λz=>z),q];simp⟩⟩
 by_cases yV:b=e
 ·subst yV;exact AZ
 ·exact⟨u,k b u yV q⟩
end
def De(h:Heap)(H:Hp):List Addr:=(List.range h.objs.size).filter λa=>(H a).isSome
def mK(h:Heap)(H:Hp):Heap:=PySem.W.hideAll h (De h H)
theorem rK(h:Heap)(H:Hp):(mK h H).objs.size=h.objs.size:=PySem.W.hideAll_size _ _
theorem tK{h:Heap}{H:Hp}{b:Addr}{o:Obj}(e:h.get? b=some o)(n:H b=none):(mK h H).get? b=some o:=
 PySem.W.hideAll_get _ e λhm=>by
  have q:(H b).isSome=true:=(KN.mp hm).2
  rw[n]at q;simp at q
theorem vV{h:Heap}{H:Hp}{b:Addr}{o:Obj}(e:(mK h H).get? b=some o):h.get? b=some o/\H b=none:=by
 have e':h.get? b=some o:=PySem.W.of_hideAll (De h H) e
 refine⟨e',?_⟩
 cases q:H b with
 |none=>rfl
 |some x=>
  have hm:b∈De h H:=KN.mpr ⟨List.mem_range.mpr (Heap.lt_size e'),by simp[q]⟩
  have z:(mK h H).get? b=none:=PySem.W.hideAll_none (De h H) hm
  rw[z]at e;cases e
def vW(g h:Heap)(L:Addr):List (Addr ×Obj):=(List.range h.objs.size).filterMap λa=>if a=L\/(g.get? a).isSome=true then none else(h.get? a).map λo=>(a,o)
def rest(g h:Heap)(L d:Addr):List (Addr ×Obj):=(vW g h L).filter λp=>decide (p.1≠d)
end L2
namespace L2
open PySem PySem.Spec PyProof.Rows
structure Mod(K:PySem.W.Frag)(mg:Str->Option Value)(base:Heap):Prop where
 yW:K.In base
 glob:base.Ns mainGlobals mg
 blt:∃mb,base.Ns builtinsNs mb/\∀x:Str,x≠"__name__"->mb x=bootBuiltins x
 nolimit:base.NoLimit
structure Cx where
 prog:Program
 w:World
 K:PySem.W.Frag
 mg:Str->Option Value
 base:Heap
 A:Around
 N:List Str
 s₀:Shared
 H₀:Hp
 env:Env
 outer:List Env
 stack:List Env
 ex:List Addr
 fn:Str->Bool
 calm:Bool
 pn:List (Addr ×Obj)
 xe:Value->Shared->Prop
def frs(l:List Env):List Addr:=l.filterMap (·.frame)
abbrev Cx.fs(X:Cx):List Addr:=frs X.outer
def DE(sc:Scope)(x:Str):Prop:=sc.names.lookup x=some .local\/sc.names.lookup x=some .cell\/sc.names.lookup x=some .free
def Loc(sc:Scope)(x:Str):Prop:=sc.names.lookup x=some .local\/sc.names.lookup x=some .cell
def Look(env:Env)(h:Heap)(m:Str->Option Value)(x:Str)(u:Value):Prop:=
 (env.kindOf x=some .local/\m x=some u)\/((env.kindOf x=some .cell\/env.kindOf x=some .free)/\∃c,env.cells.lookup x=some c/\h.IsCell c (some u))
structure Cx.Ok(X:Cx):Prop where
 mod:Mod X.K X.mg X.base
 kind:X.env.scope.kind= .function
 glob:X.env.globals=mainGlobals
 blt:X.env.builtins=builtinsNs
 above:X.s₀.heap.objs.size<=X.env.locals
 inj:∀x y c,X.env.cells.lookup x=some c->X.env.cells.lookup y=some c->x=y
 has:∀x,(X.env.kindOf x=some .cell\/X.env.kindOf x=some .free)->∃c,X.env.cells.lookup x=some c
 A0:∀x c,X.fn x=true->X.env.cells.lookup x=some c->X.s₀.heap.objs.size<=c
 hd:X.calm=true->X.A.handled=none
 frames:X.A.frames=some X.stack
 stk:X.stack=X.outer\/(X.stack=X.env::X.outer/\X.env.frame=some X.env.locals)
 Bc:∀b∈X.ex,b≠X.env.locals/\∀x c,X.env.cells.lookup x=some c->c≠b
 bs:∀b o,X.base.get? b=some o->X.s₀.heap.get? b=some o/\X.H₀ b=none
 vX:X.base.objs.size<=X.s₀.heap.objs.size
 rL:∀b o,X.base.get? b=some o->b∉X.ex
 rM:∀b∈X.ex,b∉X.fs
 i8:X.s₀.heap.FunFrames X.base X.outer
 ye:∀b∈X.fs,X.H₀ b=none
structure Inv(X:Cx)(pins:List (Addr ×Obj))(σ:List (Option V))(H:Hp)(s:Shared):Prop where
 ok:X.Ok
 os:s.os=X.s₀.os
 bare:AllBare s.gens
 base:Un X.fs X.ex X.H₀ H X.s₀.heap s.heap
 loc:∃m,s.heap.Ns X.env.locals m/\∀(i:Nat) (x:Str) (v:V),X.N[i]?=some x->σ[i]?=some (some v)->DE X.env.scope x->∃u,RelV v u/\Look X.env s.heap m x u
 cell:∀x c,X.env.cells.lookup x=some c->∃v,s.heap.IsCell c v
 free:H X.env.locals=none
 ia:∀x c,X.env.cells.lookup x=some c->H c=none
 pin:∀p∈X.pn++pins,s.heap.get? p.1=some p.2/\H p.1=none/\p.1≠X.env.locals/\p.1∉X.fs/\∀v,p.2.data≠ .cell v
 hok:d9 X.prog X.w H s.heap
 len:σ.length=X.N.length
section
variable{X:Cx}{pins:List (Addr ×Obj)}{σ:List (Option V)}{H H':Hp}{s:Shared}{h':Heap}
theorem Cx.Ok.DF(ok:X.Ok){b:Addr}{o:Obj}(e:X.base.get? b=some o):b∉X.fs:=λhb=>by
 have:=(ok.i8.mem hb).1
 rw[e]at this;cases this
theorem Inv.bs(I:Inv X pins σ H s):∀b o,X.base.get? b=some o->s.heap.get? b=some o/\H b=none:=λb o e=>
 ⟨I.base.keep b o (I.ok.bs b o e).1 (I.ok.bs b o e).2 (I.ok.DF e) (I.ok.rL b o e),I.base.free b o (I.ok.bs b o e).1 (I.ok.bs b o e).2 (I.ok.rL b o e)⟩
theorem Inv.bk(I:Inv X pins σ H s):∀b o,X.base.get? b=some o->s.heap.get? b=some o:=λb o e=>(I.bs b o e).1
theorem Inv.mod(I:Inv X pins σ H s):Mod X.K X.mg X.base:=I.ok.mod
theorem Inv.n6(I:Inv X pins σ H s):X.K.In s.heap:=I.ok.mod.yW.keeps I.bk
theorem Inv.lt(I:Inv X pins σ H s):X.env.locals<s.heap.objs.size:=let ⟨_,hn,_⟩:=I.loc;hn.lt
theorem Inv.sz(I:Inv X pins σ H s):X.s₀.heap.objs.size<=s.heap.objs.size:=Jp I.ok.above (JB I.lt)
theorem Inv.DG(I:Inv X pins σ H s){a:Addr}(h:s.heap.objs.size<=a):a∉X.fs:=λhb=>by
 obtain⟨_,o,ho,_⟩:=I.ok.i8.mem hb
 exact absurd (IG (Heap.lt_size ho) (Jp I.sz h)) (Jo _)
theorem Inv.yX(I:Inv X pins σ H s):∀x c,X.env.cells.lookup x=some c->c≠X.env.locals:=λx c e z=>by
 obtain⟨v,o,ho,hd⟩:=I.cell x c e
 obtain⟨m,⟨o',es,ep,ho',hd',_⟩,_⟩:=I.loc
 rw[z,ho']at ho;cases ho;rw[hd']at hd;cases hd
theorem Inv.i8(I:Inv X pins σ H s):s.heap.FunFrames X.base X.outer:=by
 have all:∀(l:List Env),(∀b∈frs l,b∈X.fs)->X.s₀.heap.FunFrames X.base l->s.heap.FunFrames X.base l:=by
  intro l
  induction l with
  |nil=>intro _ _;trivial
  |cons env r ih=>
   intro hs hl
   obtain⟨hk,⟨L,o,hf,hn,ho,hd⟩,hr⟩:=hl
   have hL:L∈X.fs:=hs L (by unfold frs;rw[JV,hf];exact IB)
   obtain⟨sl,e⟩:=I.base.slot L o ho (I.ok.ye L hL) hL λz=>I.ok.rM L z hL
   exact⟨hk,⟨L,_,hf,hn,e,hd⟩,ih (λb hb=>hs b (by unfold frs;rw[JV,hf];exact IF _ hb)) hr⟩
 exact all X.outer (λ_ hb=>hb) I.ok.i8
theorem Inv.stack(I:Inv X pins σ H s):s.heap.FunFrames X.base X.stack:=by
 rcases I.ok.stk with e|⟨e,hf⟩
 ·rw[e];exact I.i8
 ·rw[e]
  obtain⟨m,hn,_⟩:=I.loc
  refine .cons (by rw[I.ok.kind];decide) hf hn ?_ I.i8
  exact Heap.get?_none_of_le (Jp I.ok.vX I.ok.above)
theorem Inv.mL(I:Inv X pins σ H s):∀b∈frs X.stack,b∈X.env.locals::X.fs:=λb hb=>by
 rcases I.ok.stk with e|⟨e,hf⟩
 ·rw[e]at hb;exact IF _ hb
 ·rw[e]at hb
  unfold frs at hb
  rw[JV,hf]at hb
  exact hb
theorem Inv.qB(I:Inv X pins σ H s):∀b∈frs X.stack,H b=none:=λb hb=>by
 rcases IJ.mp (I.mL b hb)with e|hb
 ·rw[e];exact I.free
 ·obtain⟨_,o,ho,_⟩:=I.ok.i8.mem hb
  exact I.base.free b o ho (I.ok.ye b hb) λz=>I.ok.rM b z hb
theorem Inv.step{g':Array GenState}{t':Nat}{d':Drawn}{ch:List Addr}(I:Inv X pins σ H s)
 (hch:∀b∈ch,(b∈X.ex\/X.s₀.heap.objs.size<=b)/\b≠X.env.locals/\(∀x c,X.env.cells.lookup x=some c->c≠b)/\∀p∈X.pn++pins,p.1≠b)
 (keep:∀b o,b≠X.env.locals->b∉X.fs->b∉ch->s.heap.get? b=some o->H b=none->h'.get? b=some o)
 (slot:∀b o,b≠X.env.locals->b∈X.fs->b∉ch->s.heap.get? b=some o->H b=none->∃sl,h'.get? b=some {o with slots:=sl})(free:∀b o,b∉ch->s.heap.get? b=some o->H b=none->H' b=none)
 (there:∀b o,b∉ch->s.heap.get? b=some o->∃o',h'.get? b=some o')
 (tups:∀b xs,H b=some (.tup xs)->H' b=some (.tup xs))(mJ:∀b o u,H b=some (.fZ o u)->H' b=some (.fZ o u))(oj:∀b ps,H b=some (.yU ps)->∃more,H' b=some (.yU (ps++more)))
 (ns:∀m,s.heap.Ns X.env.locals m->h'.Ns X.env.locals m)(hok:d9 X.prog X.w H' h')(hg:AllBare g') :
 Inv X pins σ H' {s with heap:=h',gens:=g',drawn:=d',toks:=t'}:=by
 have Fg:∀b o,X.s₀.heap.get? b=some o->b≠X.env.locals:=λb o e=>IQ (IG (Heap.lt_size e) I.ok.above)
 have Df:∀b o,X.s₀.heap.get? b=some o->b∉X.ex->b∉ch:=λb o e hx hb=>by
  rcases(hch b hb).1 with z|z
  ·exact hx z
  ·exact absurd (IG (Heap.lt_size e) z) (Jo _)
 have cellK:∀x c,X.env.cells.lookup x=some c->∀v,s.heap.IsCell c v->h'.IsCell c v:=λx c e v ⟨o,ho,hd⟩=>by
  have Bd:c∉ch:=λz=>(hch c z).2.2.1 x c e rfl
  by_cases hc:c∈X.fs
  ·obtain⟨sl,q⟩:=slot c o (I.yX x c e) hc Bd ho (I.ia x c e)
   exact⟨_,q,hd⟩
  ·exact⟨o,keep c o (I.yX x c e) hc Bd ho (I.ia x c e),hd⟩
 refine⟨I.ok,I.os,hg,⟨λb o e n hb hx=>?_,λb o e n hb hx=>?_,λb o e n hx=>?_,λb o e hx=>?_,λb xs e=>tups b xs (I.base.tups b xs e),λb o xs e=>mJ b o xs (I.base.mJ b o xs e),λb ps e=>?_⟩,?_,λx c e=>?_,?_,λx c e=>?_,λp hp=>?_,hok,I.len⟩
 ·exact keep b o (Fg b o e) hb (Df b o e hx) (I.base.keep b o e n hb hx) (I.base.free b o e n hx)
 ·obtain⟨sl,e1⟩:=I.base.slot b o e n hb hx
  obtain⟨Fi,e2⟩:=slot b _ (Fg b o e) hb (Df b o e hx) e1 (I.base.free b o e n hx)
  exact⟨Fi,e2⟩
 ·obtain⟨o',e1⟩:=I.base.there b o e hx
  exact free b o' (Df b o e hx) e1 (I.base.free b o e n hx)
 ·obtain⟨o',e1⟩:=I.base.there b o e hx
  exact there b o' (Df b o e hx) e1
 ·obtain⟨m1,e1⟩:=I.base.oj b ps e
  obtain⟨m2,e2⟩:=oj b _ e1
  exact⟨m1++m2,by rw[e2,Array.append_assoc]⟩
 ·obtain⟨m,hn,hl⟩:=I.loc
  refine⟨m,ns m hn,λi x v e1 e2 e3=>?_⟩
  obtain⟨u,r,l⟩:=hl i x v e1 e2 e3
  refine⟨u,r,?_⟩
  rcases l with l|⟨k,c,e,z⟩
  ·exact .inl l
  ·exact .inr ⟨k,c,e,cellK x c e _ z⟩
 ·obtain⟨v,z⟩:=I.cell x c e
  exact⟨v,cellK x c e v z⟩
 ·obtain⟨m,⟨o,_,_,ho,_⟩,_⟩:=I.loc
  exact free _ o (λz=>(hch _ z).2.1 rfl) ho I.free
 ·obtain⟨v,o,ho,hd⟩:=I.cell x c e
  exact free c o (λz=>(hch c z).2.2.1 x c e rfl) ho (I.ia x c e)
 ·obtain⟨e,n,ne,nf,d⟩:=I.pin p hp
  have Bd:p.1∉ch:=λz=>(hch p.1 z).2.2.2 p hp rfl
  exact⟨keep p.1 p.2 ne nf Bd e n,free p.1 p.2 Bd e n,ne,nf,d⟩
theorem Inv.un{t':Nat}(I:Inv X pins σ H s)(u:Un X.fs [] H H' s.heap h')(hok:d9 X.prog X.w H' h'):Inv X pins σ H' {s with heap:=h',toks:=t'}:=by
 obtain⟨m,⟨o,es,ep,ho,r⟩,_⟩:=id I.loc
 obtain⟨sl,hL⟩:=u.any ho I.free (by simp)
 exact I.step (g':=s.gens) (d':=s.drawn) (ch:=[]) (λ_ z=>nomatch z) (λb o _ hb _ e n=>u.keep b o e n hb (by simp)) (λb o _ hb _ e n=>u.slot b o e n hb (by simp)) (λb o _ e n=>u.free b o e n (by simp)) (λb o _ e=>u.there b o e (by simp)) u.tups u.mJ u.oj (λm' hm=>by
  obtain⟨o',es',DH,ho',r'⟩:=hm
  rw[ho]at ho';cases ho'
  exact⟨_,es',DH,hL,r'⟩) hok I.bare
theorem Inv.call{g':Array GenState}{t':Nat}{d':Drawn}{ch:List Addr}(I:Inv X pins σ H s)(u:Un (frs X.stack) ch H H' s.heap h')(hok:d9 X.prog X.w H' h')(hg:AllBare g')
 (hch:∀b∈ch,(b∈X.ex\/X.s₀.heap.objs.size<=b)/\b≠X.env.locals/\(∀x c,X.env.cells.lookup x=some c->c≠b)/\∀p∈X.pn++pins,p.1≠b) :
 Inv X pins σ H' {s with heap:=h',gens:=g',drawn:=d',toks:=t'}:=by
 obtain⟨m,⟨o,es,ep,ho,r⟩,_⟩:=id I.loc
 obtain⟨sl,hL⟩:=u.any ho I.free λz=>(hch _ z).2.1 rfl
 exact I.step (ch:=ch) hch (λb o hL hb hc e n=>u.keep b o e n (λz=>(IJ.mp (I.mL b z)).elim hL hb) hc) (λb o _ _ hc e n=>u.any e n hc) (λb o hc e n=>u.free b o e n hc) (λb o hc e=>u.there b o e hc) u.tups u.mJ u.oj (λm' hm=>by
  obtain⟨o',es',DH,ho',r'⟩:=hm
  rw[ho]at ho';cases ho'
  exact⟨_,es',DH,hL,r'⟩) hok hg
theorem Inv.turned{t':Nat}{it:Addr}(I:Inv X pins σ H s)(k:∀b o,b≠it->s.heap.get? b=some o->h'.get? b=some o)(hn:H it=none)(hL:it≠X.env.locals)
 (h1:it∈X.ex\/X.s₀.heap.objs.size<=it)(h2:∀x c,X.env.cells.lookup x=some c->c≠it)(h3:∀p∈X.pn++pins,p.1≠it):Inv X pins σ H {s with heap:=h',toks:=t'}:=by
 have Fj:∀b u,H b=some u->b≠it:=λb u e z=>by rw[z,hn]at e;cases e
 refine I.step (g':=s.gens) (d':=s.drawn) (ch:=[it]) (λb hb=>?_) (λb o _ _ hc e _=>k b o (λz=>hc (by simp[z])) e) (λb o _ _ hc e _=>⟨o.slots,k b o (λz=>hc (by simp[z])) e⟩) (λ_ _ _ _ n=>n)
  (λb o hc e=>⟨o,k b o (λz=>hc (by simp[z])) e⟩) (λ_ _ e=>e) (λ_ _ _ e=>e) (λb ps e=>⟨#[],by rw[e];simp⟩) (λm hm=>?_) (λb u e=>?_) I.bare
 ·have e:b=it:=by simpa using hb
  subst e
  exact⟨h1,hL,h2,h3⟩
 ·obtain⟨o,es,ep,ho,r⟩:=hm
  exact⟨o,es,ep,k _ o (Ne.symm hL) ho,r⟩
 ·refine(I.hok b u e).stay (λc v hc q=>k c v ?_ q) (λ_ q=>q) λ_ _ q=>q
  rcases hc with z|z
  ·rw[z];exact Fj b u e
  ·exact Fj c _ z
theorem Inv.tok(I:Inv X pins σ H s)(t:Nat):Inv X pins σ H {s with toks:=t}:=I.un (h':=s.heap) (t':=t) Un.refl I.hok
theorem Inv.kept{t':Nat}(I:Inv X pins σ H s)(k:∀b u,s.heap.get? b=some u->h'.get? b=some u):Inv X pins σ H {s with heap:=h',toks:=t'}:=I.un (Un.kept k) (I.hok.kept k)
theorem Inv.laid{a:Addr}{o:HO}{t':Nat}(I:Inv X pins σ H s)(k:∀b u,s.heap.get? b=some u->h'.get? b=some u)(hp:s.heap.objs.size<=a)(new:bE X.prog X.w (upd H a o) h' a o) :
 Inv X pins σ (upd H a o) {s with heap:=h',toks:=t'}:=I.un (Un.laid k hp (I.hok.fresh hp)) (I.hok.laid k hp new)
theorem Inv.write{x e:Addr}{o:HO}{t':Nat}(I:Inv X pins σ H s)(mu:Dd (H x))(he:e=x\/H e=some (.own x))(k:∀b u,b≠e->s.heap.get? b=some u->h'.get? b=some u)(AZ:∃u,h'.get? e=some u)
 (new:bE X.prog X.w (upd H x o) h' x o):Inv X pins σ (upd H x o) {s with heap:=h',toks:=t'}:=I.un (Un.write mu he k AZ) (I.hok.write mu he k AZ new)
theorem Inv.qC{yf:List (Addr ×Obj)}(I:Inv X pins σ H s)(h:∀p∈yf,s.heap.get? p.1=some p.2/\H p.1=none/\p.1≠X.env.locals/\p.1∉X.fs/\∀v,p.2.data≠ .cell v):Inv X yf σ H s:=
 ⟨I.ok,I.os,I.bare,I.base,I.loc,I.cell,I.free,I.ia,λp hp=>(IK.mp hp).elim (λz=>I.pin p (Kn _ z)) (h p),I.hok,I.len⟩
theorem om{N:List Str}(hN:N.Nodup){i j:Nat}{x:Str}(a:N[i]?=some x)(b:N[j]?=some x):i=j:=by
 obtain⟨h1,e1⟩:=IC.mp a
 obtain⟨h2,e2⟩:=IC.mp b
 exact(List.getElem_inj hN).mp (e1.trans e2.symm)
theorem rN{M:Model}{A:Around}{E:Value->Shared->Prop}{i:Nat}{x:Str}{v:V}{u:Value}{Q:Unit->Shared->Prop}(I:Inv X pins σ H s)(hN:X.N.Nodup)(hi:X.N[i]?=some x)(hx:Loc X.env.scope x)(r:RelV v u)
 (h:∀s',Inv X pins (σ.set i (some v)) H s'->(∃a,Heap.SameBut a s.heap s'.heap/\(a=X.env.locals\/X.env.cells.lookup x=some a))->Q () s')(hf:X.fn x=true\/X.env.scope.names.lookup x=some .local:=by first|exact .inl rfl|exact .inr rfl|assumption):wpAny M A (storeName X.env x u) Q E s:=by
 obtain⟨m,hn,hl⟩:=id I.loc
 have hcls:(X.env.scope.kind== .class || (X.env.scope.kind== .module && X.env.locals !=X.env.globals))=false:=by rw[I.ok.kind];rfl
 have Fl:i<σ.length:=by rw[I.len];exact(IC.mp hi).1
 have yX:=I.yX
 have tracked:∀{a:Addr} {h':Heap},(∃o,s.heap.get? a=some o/\H a=none)->Heap.SameBut a s.heap h'->d9 X.prog X.w H h':=λ{a h'} ha hs b ob e=>by
  obtain⟨_,_,hfree⟩:=ha
  refine(I.hok b ob e).stay (λc w' hc q=>(hs.2 c ?_).trans q) (λ_ q=>q) λ_ _ q=>q
  rintro rfl
  rcases hc with rfl|hc
  ·rw[hfree]at e;cases e
  ·rw[hfree]at hc;cases hc
 rcases hx with hk|hk
 ·refine wpAny_storeName_local hk hn (λh' hn' hs=>?_) hcls
  obtain⟨oL,_,_,Gs,_⟩:=id hn
  refine h _ ⟨I.ok,I.os,I.bare,⟨λb o e n hb hx=>?_,λb o e n hb hx=>?_,I.base.free,λb o e hx=>?_,I.base.tups,I.base.mJ,I.base.oj⟩,⟨_,hn',λj y v' e1 e2 e3=>?_⟩,λy c e=>?_,I.free,I.ia,λp hp=>?_,tracked ⟨oL,Gs,I.free⟩ hs,by simpa using I.len⟩ ⟨_,hs,.inl rfl⟩
  ·exact(hs.2 b (IQ (IG (Heap.lt_size e) I.ok.above))).trans (I.base.keep b o e n hb hx)
  ·obtain⟨sl,e1⟩:=I.base.slot b o e n hb hx
   exact⟨sl,(hs.2 b (IQ (IG (Heap.lt_size e) I.ok.above))).trans e1⟩
  ·obtain⟨o',e1⟩:=I.base.there b o e hx
   exact⟨o',(hs.2 b (IQ (IG (Heap.lt_size e) I.ok.above))).trans e1⟩
  ·by_cases hj:j=i
   ·subst hj
    rw[hi]at e1;cases e1
    rw[Jx Fl]at e2
    cases e2
    exact⟨u,r,.inl ⟨hk,by simp⟩⟩
   ·rw[JP (Ne.symm hj)]at e2
    obtain⟨u',r',q⟩:=hl j y v' e1 e2 e3
    refine⟨u',r',?_⟩
    rcases q with⟨k,e⟩|⟨k,c,e,z⟩
    ·refine .inl ⟨k,?_⟩
     have:y≠x:=λe=>hj (om hN e1 (e▸hi))
     simp[this,e]
    ·exact .inr ⟨k,c,e,z.sameBut hs (yX y c e)⟩
  ·obtain⟨w',z⟩:=I.cell y c e
   exact⟨w',z.sameBut hs (yX y c e)⟩
  ·obtain⟨e,n,ne,nf,d⟩:=I.pin p hp
   exact⟨(hs.2 p.1 ne).trans e,n,ne,nf,d⟩
 ·have hfn:X.fn x=true:=by
   rcases hf with z|z
   ·exact z
   ·rw[z]at hk;cases hk
  obtain⟨c,hc⟩:=I.ok.has x (.inl hk)
  obtain⟨w',z⟩:=I.cell x c hc
  refine wpAny_storeName_cell I.ok.kind hk hc z (λh' hc' hs=>?_)
  obtain⟨oc,hoc,DI⟩:=id z
  refine h {s with heap:=h'} ⟨I.ok,I.os,I.bare,⟨λb o e n hb hx=>?_,λb o e n hb hx=>?_,I.base.free,λb o e hx=>?_,I.base.tups,I.base.mJ,I.base.oj⟩,⟨m,hn.sameBut hs (Ne.symm (yX x c hc)),λj y v' e1 e2 e3=>?_⟩,λy c' e=>?_,I.free,I.ia,λp hp=>?_,tracked ⟨oc,hoc,I.ia x c hc⟩ hs,by simpa using I.len⟩ ⟨c,hs,.inr hc⟩
  ·exact(hs.2 b (IQ (IG (Heap.lt_size e) (I.ok.A0 x c hfn hc)))).trans (I.base.keep b o e n hb hx)
  ·obtain⟨sl,e1⟩:=I.base.slot b o e n hb hx
   exact⟨sl,(hs.2 b (IQ (IG (Heap.lt_size e) (I.ok.A0 x c hfn hc)))).trans e1⟩
  ·obtain⟨o',e1⟩:=I.base.there b o e hx
   exact⟨o',(hs.2 b (IQ (IG (Heap.lt_size e) (I.ok.A0 x c hfn hc)))).trans e1⟩
  ·by_cases hj:j=i
   ·subst hj
    rw[hi]at e1;cases e1
    rw[Jx Fl]at e2
    cases e2
    exact⟨u,r,.inr ⟨.inl hk,c,hc,hc'⟩⟩
   ·rw[JP (Ne.symm hj)]at e2
    obtain⟨u',r',q⟩:=hl j y v' e1 e2 e3
    refine⟨u',r',?_⟩
    rcases q with q|⟨k,c',e,z'⟩
    ·exact .inl q
    ·refine .inr ⟨k,c',e,z'.sameBut hs ?_⟩
     rintro rfl
     exact hj (om hN e1 (I.ok.inj _ _ _ e hc▸hi))
  ·by_cases hcc:c'=c
   ·subst hcc;exact⟨_,hc'⟩
   ·obtain⟨w2,z2⟩:=I.cell y c' e
    exact⟨w2,z2.sameBut hs hcc⟩
  ·obtain⟨e,n,ne,nf,d⟩:=I.pin p hp
   refine⟨(hs.2 p.1 ?_).trans e,n,ne,nf,d⟩
   intro q
   rw[q,hoc]at e
   have q':oc=p.2:=Option.some.inj e
   exact d w' (by rw[<-q'];exact DI)
theorem iM{M:Model}{A:Around}{E:Value->Shared->Prop}{i:Nat}{x:Str}{v:V}{u:Value}{Q:Unit->Shared->Prop}(I:Inv X pins σ H s)(hN:X.N.Nodup)(hi:X.N[i]?=some x)(hx:Loc X.env.scope x)(r:RelV v u)
 (h:∀s',Inv X pins (σ.set i (some v)) H s'->Q () s')(hf:X.fn x=true\/X.env.scope.names.lookup x=some .local:=by first|exact .inl rfl|exact .inr rfl|assumption):wpAny M A (storeName X.env x u) Q E s:=
 rN I hN hi hx r (λs' I' _=>h s' I') hf
theorem Inv.yg{s':Shared}{ch:List Addr}(I:Inv X pins σ H s)(ho:s'.os=s.os)(u:Un (frs X.stack) ch H H' s.heap s'.heap)(hok:d9 X.prog X.w H' s'.heap)(hg:AllBare s'.gens)
 (hch:∀b∈ch,(b∈X.ex\/X.s₀.heap.objs.size<=b)/\b≠X.env.locals/\(∀x c,X.env.cells.lookup x=some c->c≠b)/\∀p∈X.pn++pins,p.1≠b):Inv X pins σ H' s':=by
 obtain⟨h',g',d',t',o'⟩:=s'
 have e:o'=s.os:=ho
 subst e
 exact I.call (g':=g') (t':=t') (d':=d') u hok hg hch
end
abbrev XK:=Value->Option Addr->Hp->Prop
abbrev St:=List (Option V)
abbrev VK:=V->Hp->Prop
abbrev TE:=St->Hp->VK->Prop
abbrev TT:=St->Hp->(Bool->Hp->Prop)->Prop
abbrev TA:=St->Hp->(List V->Hp->Prop)->Prop
structure Ends where
 nx:St->Hp->Prop
 rt:VK
 bk:St->Hp->Prop:=λ_ _=>False
 ct:St->Hp->Prop:=λ_ _=>False
abbrev TS:=Ends->St->Hp->Prop
inductive EP(X:Cx)(pins:List (Addr ×Obj))(σ:St)(Q:VK)(u:Value)(s':Shared):Prop
 |mk (v:V) (H':Hp):Inv X pins σ H' s'->RelV v u->Q v H'->EP X pins σ Q u s'
def TP(X:Cx)(pins:List (Addr ×Obj))(σ:St)(Q:Bool->Hp->Prop)(b:Bool)(s':Shared):Prop:= ∃H',Inv X pins σ H' s'/\Q b H'
inductive AP(X:Cx)(pins:List (Addr ×Obj))(σ:St)(Q:List V->Hp->Prop)(us:List Value)(s':Shared):Prop
 |mk (vs:List V) (H':Hp):Inv X pins σ H' s'->Vals vs us->Q vs H'->AP X pins σ Q us s'
inductive RP(X:Cx)(pins:List (Addr ×Obj))(Q:VK)(u:Value)(s':Shared):Prop
 |mk (v:V) (σ':St) (H':Hp):Inv X pins σ' H' s'->RelV v u->Q v H'->RP X pins Q u s'
def SP(X:Cx)(pins:List (Addr ×Obj))(D:Ends)(f:Flow)(s':Shared):Prop:=
 match f with
 | .next=>∃σ' H',Inv X pins σ' H' s'/\D.nx σ' H'
 | .brk=>∃σ' H',Inv X pins σ' H' s'/\D.bk σ' H'
 | .cont=>∃σ' H',Inv X pins σ' H' s'/\D.ct σ' H'
 | .ret u=>RP X pins D.rt u s'
def PE(X:Cx)(e:Expr)(t:TE):Prop:=
 ∀(pins:List (Addr ×Obj)) (s:Shared) (σ:St) (H:Hp) (Q:VK),Inv X pins σ H s->t σ H Q->wpAny (model X.prog X.w) X.A (eval e X.env) (EP X pins σ Q) X.xe s
def PT(X:Cx)(e:Expr)(t:TT):Prop:=
 ∀(pins:List (Addr ×Obj)) (s:Shared) (σ:St) (H:Hp) (Q:Bool->Hp->Prop),Inv X pins σ H s->t σ H Q->wpAny (model X.prog X.w) X.A (isTrue e X.env (eval e X.env)) (TP X pins σ Q) X.xe s
def PW(X:Cx)(e:Expr)(t:TT):Prop:=
 ∀(whole:Sem Value) (pins:List (Addr ×Obj)) (s:Shared) (σ:St) (H:Hp) (Q:Bool->Hp->Prop),Inv X pins σ H s->t σ H Q->wpAny (model X.prog X.w) X.A (isTrue e X.env whole) (TP X pins σ Q) X.xe s
def PA(X:Cx)(es:List Expr)(t:TA):Prop:=
 ∀(pos:Pos) (pins:List (Addr ×Obj)) (s:Shared) (σ:St) (H:Hp) (Q:List V->Hp->Prop),Inv X pins σ H s->t σ H Q->wpAny (model X.prog X.w) X.A (spliced (backTo pos (starEach es X.env))) (AP X pins σ Q) X.xe s
def PS(X:Cx)(st:Stmt)(t:TS):Prop:=
 ∀(pins:List (Addr ×Obj)) (s:Shared) (σ:St) (H:Hp) (D:Ends),Inv X pins σ H s->t D σ H->wpAny (model X.prog X.w) X.A (exec st X.env) (SP X pins D) X.xe s
def qD(X:Cx)(st:List Stmt)(t:TS):Prop:=
 ∀(pins:List (Addr ×Obj)) (s:Shared) (σ:St) (H:Hp) (D:Ends),Inv X pins σ H s->t D σ H->wpAny (model X.prog X.w) X.A (execs st X.env) (SP X pins D) X.xe s
theorem bU{α:Type}{t:Sem α}{Q Q':α->Shared->Prop}{M:Model}{A:Around}{E:Value->Shared->Prop}{s:Shared}(h:wpAny M A t Q E s)(hQ:∀a s,Q a s->Q' a s):wpAny M A t Q' E s:=wpAny_mono h hQ λ_ _ x=>x
end L2
namespace L2
open PySem PySem.Spec PyProof.Rows
section
variable{X:Cx}
def DJ(i:Nat):TE:=λσ H Q=>∃v,σ[i]?=some (some v)/\Q v H
def tC(v:V):TE:=λ_ H Q=>Q v H
theorem yY{i:Nat}{x:Str}{pos:Pos}(hN:X.N[i]?=some x)(hv:DE X.env.scope x)(hd:(x==("__debug__" :Str))=false:=by decide)(hcd:(x==("__classdict__" :Str))=false:=by decide):PE X (.Name x pos) (DJ i):=by
 intro pins s σ H Q I h
 obtain⟨v,e,h⟩:=h
 obtain⟨m,hn,hl⟩:=I.loc
 obtain⟨u,r,l⟩:=hl i x v hN e hv
 have fin:EP X pins σ Q u s:=⟨v,H,I,r,h⟩
 rcases l with⟨hk,hm⟩|⟨hk,c,hc,hcell⟩
 ·exact wpAny_Name (wpAny_loadName_local I.ok.kind hk hn hm fin) hd
 ·rcases hk with hk|hk
  ·exact wpAny_Name (wpAny_loadName_cell I.ok.kind hk hc hcell fin) hd
  ·exact wpAny_Name (wpAny_loadName_free I.ok.kind hk hc hcell fin hcd) hd
theorem yZ{i j pos}:PE X (.Constant (.int i) j pos) (tC (.int i)):=λ_ _ _ H _ I h=>wpAny_Constant_int ⟨.int i,H,I.tok _,⟨_,rfl⟩,h⟩
theorem Be{b j pos}:PE X (.Constant (.bool b) j pos) (tC (.bl b)):=λ_ _ _ H _ I h=>Constant_bool ⟨.bl b,H,I,rfl,h⟩
theorem y9{j pos}:PE X (.Constant .none j pos) (tC .aZ):=λ_ _ _ H _ I h=>Constant_none ⟨.aZ,H,I,rfl,h⟩
def Gl(X:Cx)(x:Str):Prop:=X.env.kindOf x=some .globalImplicit
theorem vY{E:Value->Shared->Prop}{pins:List (Addr ×Obj)}{s:Shared}{σ:St}{H:Hp}{x:Str}{u:Value}{pos:Pos}{Q:Value->Shared->Prop}(I:Inv X pins σ H s)(hg:Gl X x)(hm:X.mg x=some u)(h:Q u s)
 (hd:(x==("__debug__" :Str))=false:=by decide):wpAny (model X.prog X.w) X.A (eval (.Name x pos) X.env) Q E s:=
 Calls.Name_function_global I.ok.kind hg (Calls.loadGlobal_global (by rw[I.ok.glob];exact I.mod.glob.keeps I.bk) hm h) hd
theorem iA{E:Value->Shared->Prop}{pins:List (Addr ×Obj)}{s:Shared}{σ:St}{H:Hp}{x:Str}{u:Value}{pos:Pos}{Q:Value->Shared->Prop}(I:Inv X pins σ H s)(hg:Gl X x)(hm:X.mg x=none)(hv:bootBuiltins x=some u)(h:Q u s)
 (hn:x≠"__name__" :=by decide)(hd:(x==("__debug__" :Str))=false:=by decide):wpAny (model X.prog X.w) X.A (eval (.Name x pos) X.env) Q E s:=by
 obtain⟨mb,h1,h2⟩:=I.mod.blt
 exact Calls.Name_function_global I.ok.kind hg (Calls.loadGlobal_builtin (by rw[I.ok.glob];exact I.mod.glob.keeps I.bk) hm (by rw[I.ok.blt];exact h1.keeps I.bk) ((h2 x hn).trans hv) h) hd
theorem vZ{x:Str}{v:V}{u:Value}{pos:Pos}(hg:Gl X x)(hm:X.mg x=none)(hv:bootBuiltins x=some u)(r:RelV v u)(hn:x≠"__name__" :=by decide)(hd:(x==("__debug__" :Str))=false:=by decide):PE X (.Name x pos) (tC v):=
 λ_ _ _ H _ I h=>iA I hg hm hv ⟨v,H,I,r,h⟩ hn hd
variable{a b:Expr}{ta tb:TE}{pos:Pos}
def tB(t:TE):TT:=λσ H Q=>t σ H λx H1=>∃c,x= .bl c/\Q c H1
variable{tA Dg:TT}{rest:List Expr}
def DL(t u:TT):TT:=λσ H Q=>t σ H λc H1=>if c=true then u σ H1 Q else Q false H1
def Gu(t u:TT):TT:=λσ H Q=>t σ H λc H1=>if c=true then Q true H1 else u σ H1 Q
def DM(t:TT):TT:=λσ H Q=>t σ H λc H1=>Q (!c) H1
theorem pw_and1(ha:PT X a tA):PW X (.BoolOp .And [a] pos) tA:=by
 intro wh pins s σ H Q I h
 refine isTrue_and (bU (ha pins s σ H Q I h) λc s1 e=>?_)
 cases c with
 |true=>exact isTrue_and_nil e
 |false=>exact e
theorem pw_or1(ha:PT X a tA):PW X (.BoolOp .Or [a] pos) tA:=by
 intro wh pins s σ H Q I h
 refine isTrue_or (bU (ha pins s σ H Q I h) λc s1 e=>?_)
 cases c with
 |false=>exact isTrue_or_nil e
 |true=>exact e
theorem pw_and(ha:PT X a tA)(hb:PW X (.BoolOp .And (b::rest) pos) Dg):PW X (.BoolOp .And (a::b::rest) pos) (DL tA Dg):=by
 intro wh pins s σ H Q I h
 refine isTrue_and (bU (ha pins s σ H _ I h) λc s1 ⟨H1,I1,q1⟩=>?_)
 cases c with
 |true=>exact hb wh pins s1 σ H1 Q I1 q1
 |false=>exact⟨H1,I1,q1⟩
theorem pw_or(ha:PT X a tA)(hb:PW X (.BoolOp .Or (b::rest) pos) Dg):PW X (.BoolOp .Or (a::b::rest) pos) (Gu tA Dg):=by
 intro wh pins s σ H Q I h
 refine isTrue_or (bU (ha pins s σ H _ I h) λc s1 ⟨H1,I1,q1⟩=>?_)
 cases c with
 |true=>exact⟨H1,I1,q1⟩
 |false=>exact hb wh pins s1 σ H1 Q I1 q1
theorem za(ha:PT X a tA):PT X (.UnaryOp .Not a pos) (DM tA):=by
 intro pins s σ H Q I h
 exact isTrue_not (ha pins s σ H (λc H1=>Q (!c) H1) I h)
def Bf(ta tb:TE):TE:=λσ H Q=>ta σ H λx H1=>∃c,x= .bl c/\if c=true then tb σ H1 Q else Q (.bl false) H1
def Bg(ta:TE):TE:=λσ H Q=>ta σ H λx H1=>∃c,x= .bl c/\Q (.bl (!c)) H1
theorem zb(ha:PE X a ta)(hb:PE X (.BoolOp .And (b::rest) pos) tb):PE X (.BoolOp .And (a::b::rest) pos) (Bf ta tb):=by
 intro pins s σ H Q I h
 refine BoolOp_and (bU (ha pins s σ H _ I h) λv s1 ⟨x,H1,I1,r1,q1⟩=>?_)
 obtain⟨c,rfl,q1⟩:=q1
 cases r1
 refine wpAny_truthy_bool ?_
 cases c with
 |true=>exact hb pins s1 σ H1 Q I1 q1
 |false=>exact⟨.bl false,H1,I1,rfl,q1⟩
theorem zc(ha:PE X a ta):PE X (.UnaryOp .Not a pos) (Bg ta):=by
 intro pins s σ H Q I h
 refine UnaryOp_ (bU (ha pins s σ H _ I h) λv s1 ⟨x,H1,I1,r1,q1⟩=>?_)
 obtain⟨c,rfl,q1⟩:=q1
 cases r1
 exact not_of (wpAny_truthy_bool ⟨.bl (!c),H1,I1,rfl,q1⟩)
def Gv(t:TT)(ta tb:TE):TE:=λσ H Q=>t σ H λc H1=>if c=true then ta σ H1 Q else tb σ H1 Q
theorem tL{c:Expr}(hc:PT X c tA)(ha:PE X a ta)(hb:PE X b tb):PE X (.IfExp c a b pos) (Gv tA ta tb):=by
 intro pins s σ H Q I h
 refine wpAny_IfExp (bU (hc pins s σ H _ I h) λd s1 ⟨H1,I1,q1⟩=>?_)
 cases d with
 |true=>exact ha pins s1 σ H1 Q I1 q1
 |false=>exact hb pins s1 σ H1 Q I1 q1
end
end L2
namespace L2
open PySem PySem.Spec PyProof.Rows
def gY(K:PySem.W.Frag)(H:Hp)(a:Addr)(xs:List V):Prop:=
 Rd H a (.lst xs)\/
  ∃(o:Obj) (its:Array Value) (n:Nat),K.lookup a=some o/\o.cls= .type "list"/\o.dict=none/\o.data= .seq its n/\its.size<=sizeLine/\Vals xs its.toList
def tM(K:PySem.W.Frag)(H:Hp)(a:Addr)(xs:List V):Prop:=
 Rd H a (.tup xs)\/
  ∃(o:Obj) (its:Array Value) (n:Nat),K.lookup a=some o/\o.cls= .type "tuple"/\o.data= .seq its n/\its.size<=sizeLine/\Vals xs its.toList
def Bh:Value->Option V
 | .none=>some .aZ
 | .bool b=>some (.bl b)
 | .int i _=>some (.int i)
 | .str x _=>some (.str x)
 | .bytes b _=>some (.tH b)
 | .float b _=>some (.AY b)
 | .ref a=>some (.ref a)
 | .type n=>some (.ty n)
 |_=>none
theorem RelV.abs{x:V}{u:Value}(r:RelV x u):Bh u=some x:=by
 cases x with
 |aZ=>cases r;rfl
 |bl _=>cases r;rfl
 |int _=>obtain⟨t,rfl⟩:=r;rfl
 |str _=>obtain⟨t,rfl⟩:=r;rfl
 |tH _=>obtain⟨t,rfl⟩:=r;rfl
 |AY _=>obtain⟨t,rfl⟩:=r;rfl
 |ref _=>cases r;rfl
 |ty _=>cases r;rfl
theorem RelV.inj{x y:V}{u:Value}(r:RelV x u)(q:RelV y u):x=y:=Option.some.inj (r.abs.symm.trans q.abs)
theorem Vals.inj:∀{xs ys:List V} {us:List Value},Vals xs us->Vals ys us->xs=ys
 |_,_,_,.nil,.nil=>rfl
 |_,_,_,.cons r t,.cons r' t'=>by rw[r.inj r',Vals.inj t t']
section
variable{X:Cx}{pins:List (Addr ×Obj)}{σ:St}{H:Hp}{s:Shared}{a:Addr}{xs ys:List V}
theorem gY.of{K:PySem.W.Frag}(h:H a=some (.lst xs)):gY K H a xs:= .inl (.inl h)
theorem tM.of{K:PySem.W.Frag}(h:H a=some (.tup xs)):tM K H a xs:= .inl (.inl h)
theorem Inv.list(I:Inv X pins σ H s)(h:gY X.K H a xs):∃its:List Value,Vals xs its/\PlainL s.heap a its.toArray/\xs.length<=sizeLine:=by
 rcases h with h|⟨o,its,n,hk,hc,hd,hs,hz,r⟩
 ·obtain⟨z,its,n,r,e⟩:=h.ok I.hok
  exact⟨its,r,⟨_,n,e,rfl,rfl,rfl⟩,z⟩
 ·refine⟨its.toList,r,⟨o,n,I.n6 a o hk,hc,hd,by simpa using hs⟩,?_⟩
  have e:=r.length
  simp only[Array.length_toList]at e
  omega
theorem Inv.tuple(I:Inv X pins σ H s)(h:tM X.K H a xs):∃its:List Value,Vals xs its/\IsTup s.heap a its.toArray/\xs.length<=sizeLine:=by
 rcases h with h|⟨o,its,n,hk,hc,hs,hz,r⟩
 ·obtain⟨z,its,r,p⟩:=h.ok I.hok
  exact⟨its,r,p,z⟩
 ·refine⟨its.toList,r,⟨o,I.n6 a o hk,hc,n,by simpa using hs⟩,?_⟩
  have e:=r.length
  simp only[Array.length_toList]at e
  omega
theorem Inv.tN(I:Inv X pins σ H s)(h:gY X.K H a xs)(h':gY X.K H a ys):xs=ys:=by
 obtain⟨its,r,⟨o,n,e,_,_,d⟩,_⟩:=I.list h
 obtain⟨its',r',⟨o',n',e',_,_,d'⟩,_⟩:=I.list h'
 rw[e]at e';cases e'
 rw[d]at d'
 injection d' with d1 _
 have:its=its':=by simpa using congrArg Array.toList d1
 subst this
 exact r.inj r'
end
abbrev Cx.jT(X:Cx)(E:Value->Shared->Prop):Cx:={X with xe:=E}
abbrev Cx.n8(X:Cx):Cx:=X.jT λ_ _=>False
theorem Cx.Ok.jT{X:Cx}(ok:X.Ok)(E:Value->Shared->Prop):(X.jT E).Ok:=
 ⟨ok.mod,ok.kind,ok.glob,ok.blt,ok.above,ok.inj,ok.has,ok.A0,ok.hd,ok.frames,ok.stk,ok.Bc,ok.bs,ok.vX,ok.rL,ok.rM,ok.i8,ok.ye⟩
theorem Cx.Ok.gw{X:Cx}{E:Value->Shared->Prop}(ok:(X.jT E).Ok):X.Ok:=
 ⟨ok.mod,ok.kind,ok.glob,ok.blt,ok.above,ok.inj,ok.has,ok.A0,ok.hd,ok.frames,ok.stk,ok.Bc,ok.bs,ok.vX,ok.rL,ok.rM,ok.i8,ok.ye⟩
section
variable{X:Cx}{pins:List (Addr ×Obj)}{σ:St}{H:Hp}{s:Shared}{E:Value->Shared->Prop}
theorem Inv.jT(I:Inv X pins σ H s)(E:Value->Shared->Prop):Inv (X.jT E) pins σ H s:=⟨I.ok.jT E,I.os,I.bare,I.base,I.loc,I.cell,I.free,I.ia,I.pin,I.hok,I.len⟩
theorem Inv.gw(I:Inv (X.jT E) pins σ H s):Inv X pins σ H s:=⟨I.ok.gw,I.os,I.bare,I.base,I.loc,I.cell,I.free,I.ia,I.pin,I.hok,I.len⟩
theorem SP.gw{D:Ends}{f:Flow}{s':Shared}(h:SP (X.jT E) pins D f s'):SP X pins D f s':=by
 cases f with
 |next=>obtain⟨σ',H',I,q⟩:=h;exact⟨σ',H',I.gw,q⟩
 |brk=>obtain⟨σ',H',I,q⟩:=h;exact⟨σ',H',I.gw,q⟩
 |cont=>obtain⟨σ',H',I,q⟩:=h;exact⟨σ',H',I.gw,q⟩
 |ret u=>obtain⟨v,σ',H',I,r,q⟩:=h;exact⟨v,σ',H',I.gw,r,q⟩
theorem qD.n8{st:List Stmt}{t:TS}(h:qD X.n8 st t):qD X st t:=λpins s σ H D I hw=>
 wpAny_mono (h pins s σ H D (I.jT _) hw) (λ_ _ q=>q.gw) λ_ _ z=>False.elim z
end
section
variable{X:Cx}{st:Stmt}{rest:List Stmt}{t u:TS}{e:Expr}{te:TE}{pos:Pos}
def Bj:TS:=λD σ H=>D.nx σ H
def DN(t u:TS):TS:=λD σ H=>t {D with nx:=u D} σ H
theorem v5:qD X [] Bj:=λ_ _ σ H _ I h=>wpAny_execs_nil ⟨σ,H,I,h⟩
theorem tO(h1:PS X st t)(h2:qD X rest u):qD X (st::rest) (DN t u):=by
 intro pins s σ H D I h
 refine wpAny_execs_cons (bU (h1 pins s σ H {D with nx:=u D} I h) λf s1 q=>?_)
 cases f with
 |next=>
  obtain⟨σ',H',I',q⟩:=q
  exact h2 pins s1 σ' H' D I' q
 |ret v=>exact q
 |brk=>exact q
 |cont=>exact q
theorem v7(h1:PS X st t):qD X [st] t:=by
 intro pins s σ H D I h
 refine wpAny_execs_cons (bU (h1 pins s σ H D I h) λf s1 q=>?_)
 cases f with
 |next=>exact wpAny_execs_nil q
 |ret v=>exact q
 |brk=>exact q
 |cont=>exact q
theorem Inv.quiet{pins:List (Addr ×Obj)}{σ:St}{H:Hp}{s:Shared}(I:Inv X pins σ H s):interactive X.env=false:=by simp[interactive,I.ok.kind]
def Bk(te:TE):TS:=λD σ H=>te σ H λ_ H1=>D.nx σ H1
theorem v8(he:PE X e te)(hs:swapsWith e none pos.line X.env=pure false:=by rfl):PS X (.Expr e pos) (Bk te):=by
 intro pins s σ H D I h
 exact wpAny_Expr_any (bU (he pins s σ H _ I h) λv s1 ⟨x,H1,I1,r1,q1⟩=>⟨σ,H1,I1,q1⟩) I.quiet hs
def DO(te:TE):TS:=λD σ H=>te σ H D.rt
theorem zd(he:PE X e te):PS X (.Return (some e) pos) (DO te):=by
 intro pins s σ H D I h
 exact wpAny_Return_some (bU (he pins s σ H _ I h) λv s1 ⟨x,H1,I1,r1,q1⟩=>⟨x,σ,H1,I1,r1,q1⟩)
def DP(c:TT)(t u:TS):TS:=λD σ H=>c σ H λb H1=>if b=true then t D σ H1 else u D σ H1
theorem Bl{c:Expr}{a b:List Stmt}{tc:TT}(hc:PT X c tc)(ha:qD X a t)(hb:qD X b u):PS X (.If c a b pos) (DP tc t u):=by
 intro pins s σ H D I h
 refine wpAny_If (bU (hc pins s σ H _ I h) λd s1 ⟨H1,I1,q1⟩=>?_)
 cases d with
 |true=>exact ha pins s1 σ H1 D I1 q1
 |false=>exact hb pins s1 σ H1 D I1 q1
end
abbrev TG:=V->St->Hp->(St->Hp->Prop)->Prop
def PG(X:Cx)(target:Expr)(t:TG):Prop:=
 ∀(pins:List (Addr ×Obj)) (s:Shared) (σ:St) (H:Hp) (v:V) (u:Value) (Q:St->Hp->Prop),Inv X pins σ H s->RelV v u->t v σ H Q->
  wpAny (model X.prog X.w) X.A (assign target X.env u) (λ_ s'=>∃σ' H',Inv X pins σ' H' s'/\Q σ' H') X.xe s
abbrev v9:=V->V->V->Hp->(Hp->Prop)->Prop
def Bm(X:Cx)(t:v9):Prop:=
 ∀(pins:List (Addr ×Obj)) (s:Shared) (σ:St) (H:Hp) (o i v:V) (ov iv u:Value) (Q:Hp->Prop),Inv X pins σ H s->RelV o ov->RelV i iv->RelV v u->t o i v H Q->
  wpAny (model X.prog X.w) X.A (setItem ov iv u) (λ_ s'=>∃H',Inv X pins σ H' s'/\Q H') X.xe s
section
variable{X:Cx}{pos:Pos}
def yh(i:Nat):TG:=λv σ H Q=>Q (σ.set i (some v)) H
theorem wc{i:Nat}{x:Str}(hN:X.N.Nodup)(hi:X.N[i]?=some x)(hx:Loc X.env.scope x)(hf:X.fn x=true\/X.env.scope.names.lookup x=some .local:=by first|exact .inl rfl|exact .inr rfl|assumption):PG X (.Name x pos) (yh i):=by
 intro pins s σ H v u Q I r h
 exact wpAny_assign_Name (iM I hN hi hx r (λs' I'=>⟨_,H,I',h⟩) hf)
def DQ(to ti:TE)(t:v9):TG:=λv σ H Q=>to σ H λo H1=>ti σ H1 λi H2=>t o i v H2 λH3=>Q σ H3
theorem ze{o i:Expr}{to ti:TE}{t:v9}(ho:PE X o to)(hi:PE X i ti)(hs:Bm X t)
 (ha:∀v,assign (.Subscript o i pos) X.env v=(do
  let ov <-holding [v] (eval o X.env)
  let iv <-holding [v,ov] (eval i X.env)
  standAt pos
  holding [v,ov,iv] (setItem ov iv v)
  release [v,ov,iv] []):=by intro _;rfl):PG X (.Subscript o i pos) (DQ to ti t):=by
 intro pins s σ H v u Q I r h
 rw[ha]
 refine wpAny_bind (wpAny_holding (bU (ho pins s σ H _ I h) λov s1 ⟨x,H1,I1,r1,q1⟩=>?_))
 refine wpAny_bind (wpAny_holding (bU (hi pins s1 σ H1 _ I1 q1) λiv s2 ⟨y,H2,I2,r2,q2⟩=>?_))
 refine wpAny_bind (wpAny_standAt (wpAny_bind (wpAny_holding (bU (hs pins s2 σ H2 x y v ov iv u _ I2 r1 r2 r q2) λ_ s3 ⟨H3,I3,q3⟩=>?_))))
 exact wpAny_release ⟨σ,H3,I3,q3⟩
def DR(te:TE)(g:TG):TS:=λD σ H=>te σ H λx H1=>g x σ H1 D.nx
theorem zf{i:Nat}{x:Str}{e:Expr}{te:TE}{pos':Pos}(hN:X.N.Nodup)(hi:X.N[i]?=some x)(hx:Loc X.env.scope x)(he:PE X e te)(hs:swapsWith e (some (.Name x pos')) pos.line X.env=pure false:=by rfl)(hf:X.fn x=true\/X.env.scope.names.lookup x=some .local:=by first|exact .inl rfl|exact .inr rfl|assumption) :
 PS X (.Assign [.Name x pos'] e pos) (DR te (yh i)):=by
 intro pins s σ H D I h
 refine wpAny_Assign_Name (bU (he pins s σ H _ I h) λv s1 ⟨y,H1,I1,r1,q1⟩=>?_) hs
 exact iM I1 hN hi hx r1 (λs2 I2=>⟨_,H1,I2,q1⟩) hf
def DS(i j:Nat)(ta:TA):TS:=λD σ H=>ta σ H λvs H1=>∃v w,vs=[v,w]/\D.nx ((σ.set i (some v)).set j (some w)) H1
theorem zg{i j:Nat}{x y:Str}{a b:Expr}{ta:TA}{px py pt:Pos}{kt k2 oq}(hc:X.calm=true)(hN:X.N.Nodup)(hi:X.N[i]?=some x)(hj:X.N[j]?=some y)(hij:i≠j)
 (hx:X.env.scope.names.lookup x=some .local)(hy:X.env.scope.names.lookup y=some .local)(ha:PA X [a,b] ta)
 (hw:swappedStores [.Tuple [.Name x px,.Name y py] kt pt] (.Tuple [a,b] k2 oq) X.env=pure (some [x,y]))
 (hs:swapsWithSole [.Tuple [.Name x px,.Name y py] kt pt] (.Tuple [a,b] k2 oq) pos.line X.env=pure false:=by rfl) :
 PS X (.Assign [.Tuple [.Name x px,.Name y py] kt pt] (.Tuple [a,b] k2 oq) pos) (DS i j ta):=by
 intro pins s σ H D I h
 rw[exec_Assign_arm]
 refine wpAny_bind (wpAny_standAt ?_)
 rw[hs]
 refine wpAny_bind (wpAny_pure ?_)
 rw[if_neg (by decide)]
 refine wpAny_bind (Tuple_ (bU (ha _ pins s σ H _ I h) λus s1 ⟨vs,H1,I1,r1,q1⟩=>?_))
 obtain⟨v,w,e1,q1⟩:=q1
 subst e1
 obtain⟨u1,u2,rfl,rv,rw'⟩:∃u1 u2,us=[u1,u2]/\RelV v u1/\RelV w u2:=by
  cases r1 with
  |cons p q=>
   cases q with
   |cons p' q'=>
    cases q'
    exact⟨_,_,rfl,p,p'⟩
 refine wpAny_newObj_type ?_ (by show 2<=sizeLine;decide)
 have I2:Inv X pins σ H1 {s1 with heap:=s1.heap.push {cls:= .type "tuple",data:= .seq [u1,u2].toArray}}:=I1.kept (t':=s1.toks) λb o e=>Heap.get?_push_of_some _ e
 rw[hw]
 refine wpAny_bind (wpAny_pure ?_)
 show wpAny (model X.prog X.w) X.A (do rule "assign.swapped-stores";let items <-unpackItems (.ref s1.heap.objs.size) 2 none;assignInOrder [λv=>bindName X.env y v,λv=>bindName X.env x v] items.reverse;pure Flow.next) _ _ _
 refine wpAny_bind (wpAny_rule (wpAny_bind (unpackItems_tuple (items:= #[u1,u2]) (I.ok.hd hc) (IsTup.new s1.heap _) λh' hx'=>?_)))
 have I3:=I2.kept (h':=h') (t':=s1.toks) λb o e=>hx' b o (IQ (Heap.lt_size e)) e
 show wpAny _ _ (assignInOrder [λv=>bindName X.env y v,λv=>bindName X.env x v] [u2,u1] >>= λ_=>pure Flow.next) _ _ _
 refine wpAny_bind (assignInOrder_cons (wpAny_bindName (iM I3 hN hj (.inl hy) rw' (λs2 I4=>?_) (.inr hy))))
 refine assignInOrder_cons (wpAny_bindName (iM I4 hN hi (.inl hx) rv (λs3 I5=>assignInOrder_nil (wpAny_pure ?_)) (.inr hx)))
 rw[List.set_comm _ _ (Ne.symm hij)]at I5
 exact⟨_,H1,I5,q1⟩
end
section
variable{X:Cx}{pos:Pos}
end
structure It where
 go:Nat->Hp->Prop
 yi:Nat->Hp->V->Hp->Prop
 stop:Nat->Hp->Prop
def cU(X:Cx)(pins:List (Addr ×Obj))(H:Hp)(b:Addr):Prop:=
 H b=none/\b≠X.env.locals/\b∉X.fs/\(b∈X.ex\/X.s₀.heap.objs.size<=b)/\(∀x c,X.env.cells.lookup x=some c->c≠b)/\∀p∈X.pn++pins,p.1≠b
theorem Inv.ou{X:Cx}{pins:List (Addr ×Obj)}{σ:St}{H H':Hp}{s:Shared}{b:Addr}(I:Inv X pins σ H s)(hb:s.heap.objs.size<=b)(hn:H' b=none):cU X pins H' b:=by
 refine⟨hn,Nat.ne_of_gt (IG I.lt hb),I.DG hb,.inr (Jp I.sz hb),λx c e z=>?_,λp hp z=>?_⟩
 ·obtain⟨v,q⟩:=I.cell x c e
  exact absurd (IG q.lt (by rw[z];exact hb)) (Jo _)
 ·exact absurd (IG (Heap.lt_size (I.pin p hp).1) (by rw[z];exact hb)) (Jo _)
structure Turn(P:Program)(w:World)(K:PySem.W.Frag)(tg:Expr)(J:It)(fp:List Addr)(it:Addr)(tn:Nat->Heap->Prop):Prop where
 mem:it∈fp
 obj:∀i h,tn i h->∀b∈fp,∃o,h.get? b=some o/\∀v,o.data≠ .cell v
 keep:∀i h h',tn i h->(∀b∈fp,∀o,h.get? b=some o->h'.get? b=some o)->tn i h'
 item:∀(X:Cx),X.prog=P->X.w=w->X.K=K->X.calm=true->∀(i:Nat) (pins:List (Addr ×Obj)) (s:Shared) (σ:St) (H:Hp) (E:Value->Shared->Prop),Inv X pins σ H s->(∀b∈fp,cU X pins H b)->tn i s.heap->J.go i H->
  wpAny (model P w) X.A (pyNext (.ref it)) (λr s1=>∃u,r=some u/\
   wpAny (model P w) X.A (letOwnedTupleGo tg (.ref it) u) (λ_ s2=>∃x H',Inv X pins σ H' s2/\RelV x u/\J.yi i H x H'/\tn (i+1) s2.heap/\∀b∈fp,H' b=none) E s1) E s
 done:∀(X:Cx),X.prog=P->X.w=w->X.K=K->X.calm=true->∀(i:Nat) (pins:List (Addr ×Obj)) (s:Shared) (σ:St) (H:Hp) (E:Value->Shared->Prop),Inv X pins σ H s->(∀b∈fp,cU X pins H b)->tn i s.heap->J.stop i H->
  wpAny (model P w) X.A (pyNext (.ref it)) (λr s1=>r=none/\Inv X pins σ H s1) E s
 self:∀(A:Around) (i:Nat) (s:Shared) (Q:Value->Shared->Prop) (E:Value->Shared->Prop),tn i s.heap->Q (.ref it) s->wpAny (model P w) A (pyIter (.ref it)) Q E s
abbrev TI:=St->Hp->(It->Hp->Prop)->Prop
def DT(X:Cx)(pins:List (Addr ×Obj))(σ:St)(tg:Expr)(R:It->Hp->Prop)(itv:Value)(s2:Shared):Prop:=
 ∃(it:Addr) (fp:List Addr) (tn:Nat->Heap->Prop) (J:It) (H':Hp),itv= .ref it/\Inv X pins σ H' s2/\Turn X.prog X.w X.K tg J fp it tn/\tn 0 s2.heap/\(∀b∈fp,cU X pins H' b)/\R J H'
def PI(X:Cx)(tg iter:Expr)(wi:TI):Prop:=
 ∀(pins:List (Addr ×Obj)) (s:Shared) (σ:St) (H:Hp) (R:It->Hp->Prop),Inv X pins σ H s->wi σ H R->
  wpAny (model X.prog X.w) X.A (eval iter X.env) (λv s1=>wpAny (model X.prog X.w) X.A (pyIter v) (DT X pins σ tg R) X.xe s1) X.xe s
theorem tP{M:Model}{A:Around}{E:Value->Shared->Prop}{s:Shared}{tg:Expr}{it:Addr}{u:Value}{o:Obj}{n:String}{vs:Array Value}{Q:Unit->Shared->Prop}(ho:s.heap.get? it=some o)(hc:o.cls= .type n)(hd:o.data= .fields vs)
 (hn:["enumerate","zip","dict_itemiterator","dict_reverseitemiterator","odict_iterator","itertools.zip_longest","itertools.pairwise"].contains n=false)(hQ:Q () s):wpAny M A (letOwnedTupleGo tg (.ref it) u) Q E s:=by
 unfold letOwnedTupleGo
 cases tg<;>first
  |exact wpAny_pure hQ
  |(cases u<;>first
   |exact wpAny_pure hQ
   |(refine wpAny_bind (wpAny_load ho ?_)
     rw[hc,hd]
     show wpAny M A (if(["enumerate","zip","dict_itemiterator","dict_reverseitemiterator","odict_iterator","itertools.zip_longest","itertools.pairwise"].contains n && vs[0]?==some (rawInt _))=true then _ else _) Q E s
     rw[if_neg (by intro h;rw[hn,Bool.false_and]at h;cases h)]
     exact wpAny_pure hQ))
def DU(K:PySem.W.Frag)(a:Addr):It:=
 ⟨λi H=>∃xs x,gY K H a xs/\xs[i]?=some x,λi H x H'=>H'=H/\∀xs,gY K H a xs->xs[i]?=some x,λi H=>∃xs,gY K H a xs/\xs.length<=i⟩
def Dh(lo:Int)(n:Nat):It:=⟨λi _=>i<n,λi H x H'=>H'=H/\x= .int (lo+i),λi _=>n<=i⟩
theorem rO{P:Program}{w:World}{K:PySem.W.Frag}{tg:Expr}(a it:Addr):Turn P w K tg (DU K a) [it] it (λi h=>h.IsListIter it a i) where
 mem:=by simp
 obj:=λi h st b hb=>by
  have e:b=it:=by simpa using hb
  subst e
  obtain⟨o,e,c,d⟩:=st
  exact⟨o,e,λv z=>by rw[d]at z;cases z⟩
 keep:=λi h h' st k=>st.at λo e=>k it (by simp) o e
 item:=by
  intro X hP hw hK hc i pins s σ H E I hf st hg
  subst hP hw hK
  obtain⟨xs,x,hq,hx⟩:=hg
  obtain⟨its,rv,p,hz⟩:=I.list hq
  obtain⟨u,hu,ru⟩:=rv.get hx
  obtain⟨f0,f1,f2,f3,f4,f5⟩:=hf it (by simp)
  refine wpAny_pyNext_list_item st p.isList (x:=u) (by simpa using hu) λh' st' sb=>?_
  have I1:Inv X pins σ H {s with heap:=h'}:=I.turned (t':=s.toks) (λb o hb e=>(sb.2 b hb).trans e) f0 f1 f3 f4 f5
  obtain⟨o,e,c,d⟩:=id st'
  exact⟨u,rfl,tP (s:={s with heap:=h'}) e c d (by decide) ⟨x,H,I1,ru,⟨rfl,λys hy=>by rw[I.tN hy hq];exact hx⟩,st',λb hb=>(hf b hb).1⟩⟩
 done:=by
  intro X hP hw hK hc i pins s σ H E I hf st hg
  subst hP hw hK
  obtain⟨xs,hq,hx⟩:=hg
  obtain⟨its,rv,p,hz⟩:=I.list hq
  obtain⟨f0,f1,f2,f3,f4,f5⟩:=hf it (by simp)
  have hl:=rv.length
  exact wpAny_pyNext_list_end (I.ok.hd hc) st p.isList (by simp;omega) λh' eb=>⟨rfl,I.turned (t':=s.toks) (λb o hb e=>eb b o hb e) f0 f1 f3 f4 f5⟩
 self:=λ_ _ _ _ _ st h=>wpAny_pyIter_listiter st h
theorem pM{P:Program}{w:World}{K:PySem.W.Frag}{tg:Expr}(it:Addr)(lo:Int)(n:Nat):Turn P w K tg (Dh lo n) [it] it (λi h=>IsRangeIter h it (lo+(i:Nat)*1) ((n:Int)-(i:Nat)) 1) where
 mem:=by simp
 obj:=λi h st b hb=>by
  have e:b=it:=by simpa using hb
  subst e
  exact⟨_,st,λv z=>by
   have z':Data.fields _=Data.cell v:=z
   cases z'⟩
 keep:=λi h h' st k=>k it (by simp) _ st
 item:=by
  intro X hP hw hK hc i pins s σ H E I hf st hg
  subst hP hw hK
  obtain⟨f0,f1,f2,f3,f4,f5⟩:=hf it (by simp)
  have W:=Walks.range (prog:=X.prog) (w:=X.w) (I.ok.hd hc) it lo 1 n
  refine W.item i s _ _ hg st λv h' tk hv st' kk=>?_
  obtain⟨t,rfl⟩:=hv
  have I1:Inv X pins σ H {s with heap:=h',toks:=tk}:=I.turned (λb o hb e=>kk b o (by simpa using hb) e) f0 f1 f3 f4 f5
  refine⟨_,rfl,tP (s:={s with heap:=h',toks:=tk}) (n:= "range_iterator") st' rfl rfl (by decide) ⟨.int (lo+i),H,I1,⟨t,?_⟩,⟨rfl,rfl⟩,st',λb hb=>(hf b hb).1⟩⟩
  rw[Int.mul_one]
 done:=by
  intro X hP hw hK hc i pins s σ H E I hf st hg
  subst hP hw hK
  obtain⟨f0,f1,f2,f3,f4,f5⟩:=hf it (by simp)
  exact wpAny_pyNext_range_end (I.ok.hd hc) st (by have:n<=i:=hg;omega) λh' eb=>⟨rfl,I.turned (t':=s.toks) (λb o hb e=>eb b o hb e) f0 f1 f3 f4 f5⟩
 self:=λ_ _ _ _ _ st h=>wpAny_pyIter_rangeiter st h
end L2
namespace L2
open PySem PySem.Spec PyProof.Rows
section
variable{X:Cx}{tg:Expr}
def Bo(K:PySem.W.Frag)(tl:TE):TI:=λσ H R=>tl σ H λx H1=>∃a,x= .ref a/\(∃xs,gY K H1 a xs)/\R (DU K a) H1
theorem qE{l:Expr}{tl:TE}(hl:PE X l tl):PI X tg l (Bo X.K tl):=by
 intro pins s σ H R I h
 refine bU (hl pins s σ H _ I h) λv s1 ⟨x,H1,I1,r1,q1⟩=>?_
 obtain⟨a,e,⟨xs,hq⟩,q⟩:=q1
 subst e
 cases r1
 obtain⟨its,rv,p,hz⟩:=I1.list hq
 refine wpAny_pyIter_list p.isList ?_
 refine⟨s1.heap.objs.size,[s1.heap.objs.size],_,_,H1,rfl,I1.kept (t':=s1.toks) λb o e=>Heap.get?_push_of_some _ e,rO a _,⟨_,Heap.get?_push_size _ rfl,rfl,rfl⟩,λb hb=>?_,q⟩
 have e:b=s1.heap.objs.size:=by simpa using hb
 subst e
 exact I1.ou (Iu _) (I1.hok.fresh (Iu _))
theorem tQ{pins:List (Addr ×Obj)}{σ:St}{H:Hp}{s:Shared}{R:It->Hp->Prop}{E:Value->Shared->Prop}{lo hi:Int}{t u v:Tok}{tk:Nat}(I:Inv X pins σ H s)(h1: -(2 ^ 62)<=lo)(h2:lo<2 ^ 62)(h3: -(2 ^ 62)<=hi)(h4:hi<2 ^ 62)
 (q:R (Dh lo (hi-lo).toNat) H):wpAny (model X.prog X.w) X.A (pyIter (.ref s.heap.objs.size)) (DT X pins σ tg R) E {s with heap:=s.heap.push {cls:= .type "range",data:= .fields #[.int lo t,.int hi u,.int 1 v]},toks:=tk}:=by
 refine wpAny_pyIter_range (IsRange.new ..) (small_one h1 h2 h3 h4) ?_
 have I1:Inv X pins σ H {s with heap:=s.heap.push {cls:= .type "range",data:= .fields #[.int lo t,.int hi u,.int 1 v]},toks:=tk}:=I.kept λb o e=>Heap.get?_push_of_some _ e
 refine⟨(s.heap.push {cls:= .type "range",data:= .fields #[.int lo t,.int hi u,.int 1 v]}).objs.size,[(s.heap.push {cls:= .type "range",data:= .fields #[.int lo t,.int hi u,.int 1 v]}).objs.size],_,_,H,rfl,
  I1.kept (t':=tk) λb o e=>Heap.get?_push_of_some _ e,pM _ lo (hi-lo).toNat,?_,λb hb=>?_,q⟩
 ·have e1:lo+((0:Nat):Int)*1=lo:=by simp
  have e2:(((hi-lo).toNat:Nat):Int)-((0:Nat):Int)=Builtin.Range.rangeSize lo hi 1:=by rw[rangeSize_one];split<;>omega
  show IsRangeIter _ _ (lo+((0:Nat):Int)*1) ((((hi-lo).toNat:Nat):Int)-((0:Nat):Int)) 1
  rw[e1,e2]
  exact Heap.get?_push_size _ rfl
 ·have e:b=(s.heap.push {cls:= .type "range",data:= .fields #[.int lo t,.int hi u,.int 1 v]}).objs.size:=by simpa using hb
  subst e
  exact I1.ou (Iu _) (I1.hok.fresh (Iu _))
def Bp(ta:TA):TI:=λσ H R=>ta σ H λvs H1=>∃j:Int,vs=[.int j]/\ -(2 ^ 62)<=j/\j<2 ^ 62/\R (Dh 0 j.toNat) H1
theorem rP{a:Expr}{ta:TA}{p pos:Pos}(hg:Gl X "range")(hm:X.mg "range" =none)(ha:PA X [a] ta)(hs:starEach [a] X.env=[(false,eval a X.env)]:=by rfl):PI X tg (.Call (.Name "range" p) [a] [] pos) (Bp ta):=by
 intro pins s σ H R I h
 refine Call_ (iA I hg hm boot_range (PyProof.Rows.callWith_type1 (bU (ha pos pins s σ H _ I h) λus s1 ⟨vs,H1,I1,r1,q1⟩=>?_) hs rfl))
 obtain⟨j,e,q1,q2,q⟩:=q1
 subst e
 cases r1 with
 |cons r rr=>
  cases rr
  obtain⟨t,rfl⟩:=r
  exact call_range_1 (tQ I1 (by omega) (by omega) q1 q2 (by simpa using q))
def DV(wi:TI)(g:TG)(tb:TS):TS:=λD σ H=>wi σ H λJ H1=>∃W:Nat->Nat->St->Hp->Prop,(∃m,W 0 m σ H1)/\∀i m σ H,W i m σ H->
 (J.stop i H/\D.nx σ H)\/(J.go i H/\∃N:St->Hp->Prop,(∀σ' H',N σ' H'->∃m',m'<m/\W (i+1) m' σ' H')/\∀x H',J.yi i H x H'->g x σ H' λσ2 H2=>tb {D with nx:=N,ct:=N,bk:=D.nx} σ2 H2)
def jU(fp:List Addr)(h:Heap):List (Addr ×Obj):=fp.filterMap λb=>(h.get? b).map λo=>(b,o)
theorem iB{fp:List Addr}{h:Heap}{b:Addr}{o:Obj}(hb:b∈fp)(e:h.get? b=some o):(b,o)∈jU fp h:=Ku.mpr ⟨b,hb,by rw[e];rfl⟩
theorem rQ{fp:List Addr}{h:Heap}{p:Addr ×Obj}(hp:p∈jU fp h):p.1∈fp/\h.get? p.1=some p.2:=by
 obtain⟨b,hb,e⟩:=Ku.mp hp
 cases q:h.get? b with
 |none=>rw[q]at e;cases e
 |some o=>
  rw[q]at e
  have e':(b,o)=p:=Option.some.inj e
  subst e'
  exact⟨hb,q⟩
theorem Inv.pinned{pins:List (Addr ×Obj)}{σ:St}{H:Hp}{s:Shared}{fp:List Addr}(I:Inv X pins σ H s)(hf:∀b∈fp,cU X pins H b)(ho:∀b∈fp,∃o,s.heap.get? b=some o/\∀v,o.data≠ .cell v):Inv X (pins++jU fp s.heap) σ H s:=
 I.qC λp hp=>(IK.mp hp).elim (λz=>I.pin p (Jd _ z)) λz=>by
   obtain⟨hb,e⟩:=rQ z
   obtain⟨f0,f1,f2,_⟩:=hf p.1 hb
   obtain⟨o,e',d⟩:=ho p.1 hb
   rw[e]at e';cases e'
   exact⟨e,f0,f1,f2,d⟩
theorem Inv.gy{pins pl:List (Addr ×Obj)}{σ:St}{H:Hp}{s:Shared}(I:Inv X (pins++pl) σ H s):Inv X pins σ H s:=I.qC λp hp=>I.pin p (Jd _ (Kn _ hp))
theorem pN{iter:Expr}{body:List Stmt}{wi:TI}{g:TG}{tb:TS}{pos:Pos}(hp:PassesOwn (model X.prog X.w) X.A X.env X.xe)(hc:X.calm=true)(hi:PI X tg iter wi)(hg:PG X tg g)(hb:qD X body tb)
 (hs:∀x,foldedSetIterable iter X.env x=pure x:=by intro _;rfl):PS X (.For tg iter body [] pos) (DV wi g tb):=by
 intro pins s σ H D I h
 refine wpAny_For (bU (hi pins s σ H _ I h) λv s1 h1=>bU h1 λitv s2 h2=>?_) hs
 obtain⟨it,fp,tn,J,H2,e,I2,T,st2,f2,W,⟨m0,w0⟩,turn⟩:=h2
 subst e
 have stat:∀{H':Hp},(∀b∈fp,H' b=none)->∀b∈fp,cU X pins H' b:=λhn b hb=>⟨hn b hb,(f2 b hb).2⟩
 refine codeAny_forLoop_any (λn s'=>∃i σ' H',Inv X pins σ' H' s'/\tn i s'.heap/\(∀b∈fp,H' b=none)/\W i n σ' H') ?_ m0 ⟨0,σ,H2,I2,st2,λb hb=>(f2 b hb).1,w0⟩
 rintro n s3 ⟨i,σ3,H3,I3,st3,Fo,w3⟩
 rcases turn i n σ3 H3 w3 with⟨stop,qn⟩|⟨go,N,hN,step⟩
 ·refine wpAny_passesOwn hp (bU (T.done X rfl rfl rfl hc i pins s3 σ3 H3 X.xe I3 (stat Fo) st3 stop) λr s4 ⟨hr,I4⟩=>?_)
  subst hr
  exact wpAny_execs_nil ⟨σ3,H3,I4,qn⟩
 ·refine wpAny_passesOwn hp (bU (T.item X rfl rfl rfl hc i pins s3 σ3 H3 X.xe I3 (stat Fo) st3 go) λr s4 ⟨u,hr,h4⟩=>?_)
  subst hr
  refine wpAny_passesOwn hp (bU h4 λ_ s5 ⟨x,H5,I5,r5,y5,A1,vP⟩=>?_)
  have Gw:=I5.pinned (stat vP) (T.obj _ _ A1)
  refine wpAny_passesOwn hp (bU (hg _ s5 σ3 H5 x u _ Gw r5 (step x H5 y5)) λ_ s6 ⟨σ6,H6,I6,q6⟩=>?_)
  refine wpAny_passesOwn hp (bU (hb _ s6 σ6 H6 _ I6 q6) λf s7 q7=>?_)
  have again:∀{σ7:St} {H7:Hp},Inv X (pins++jU fp s5.heap) σ7 H7 s7->N σ7 H7->∃m,m<n/\∃i σ' H',Inv X pins σ' H' s7/\tn i s7.heap/\(∀b∈fp,H' b=none)/\W i m σ' H':=λ{σ7 H7} I7 n7=>by
   obtain⟨m',hm,w7⟩:=hN σ7 H7 n7
   refine⟨m',hm,i+1,σ7,H7,I7.gy,T.keep _ _ _ A1 λb hb o e=>(I7.pin (b,o) (Jd _ (Jd _ (iB hb e)))).1,λb hb=>?_,w7⟩
   obtain⟨o,e,d⟩:=T.obj _ _ A1 b hb
   exact(I7.pin (b,o) (Jd _ (Jd _ (iB hb e)))).2.1
  cases f with
  |next=>obtain⟨σ7,H7,I7,n7⟩:=q7;exact again I7 n7
  |cont=>obtain⟨σ7,H7,I7,n7⟩:=q7;exact again I7 n7
  |brk=>obtain⟨σ7,H7,I7,q7⟩:=q7;exact⟨σ7,H7,I7.gy,q7⟩
  |ret v=>obtain⟨x7,σ7,H7,I7,r7,q7⟩:=q7;exact⟨x7,σ7,H7,I7.gy,r7,q7⟩
end
end L2
namespace L2
open PySem PySem.Spec PyProof.Rows
abbrev R2:=V->V->Hp->VK->Prop
def pH(X:Cx)(f:Value->Value->Sem Value)(r:R2):Prop:=
 ∀(pins:List (Addr ×Obj)) (s:Shared) (σ:St) (H:Hp) (x y:V) (v u:Value) (Q:VK),Inv X pins σ H s->RelV x v->RelV y u->r x y H Q->
  wpAny (model X.prog X.w) X.A (f v u) (EP X pins σ Q) X.xe s
def DW(X:Cx)(f:Value->Sem Value)(r:V->Hp->VK->Prop):Prop:=
 ∀(pins:List (Addr ×Obj)) (s:Shared) (σ:St) (H:Hp) (x:V) (v:Value) (Q:VK),Inv X pins σ H s->RelV x v->r x H Q->
  wpAny (model X.prog X.w) X.A (f v) (EP X pins σ Q) X.xe s
def ow(X:Cx)(f:Value)(r:List V->Hp->VK->Prop):Prop:=
 ∀(pins:List (Addr ×Obj)) (s:Shared) (σ:St) (H:Hp) (xs:List V) (us:List Value) (Q:VK),Inv X pins σ H s->Vals xs us->r xs H Q->
  wpAny (model X.prog X.w) X.A (call f us) (EP X pins σ Q) X.xe s
def Gx(r:R2)(ta tb:TE):TE:=λσ H Q=>ta σ H λx H1=>tb σ H1 λy H2=>r x y H2 Q
def Gy(r:V->Hp->VK->Prop)(ta:TE):TE:=λσ H Q=>ta σ H λx H1=>r x H1 Q
def rI(C:Int->Int->Prop)(g:Int->Int->V):R2:=λx y H Q=>∃i j,x= .int i/\y= .int j/\C i j/\Q (g i j) H
def yj(g:Int->Int->V):R2:=λx y H Q=>∃i j,x= .int i/\y= .int j/\Q (g i j) H
def rU(g:Int->V):V->Hp->VK->Prop:=λx H Q=>∃i,x= .int i/\Q (g i) H
section
variable{X:Cx}{a b c:Expr}{ta tb tc:TE}{pos:Pos}
theorem DY(ha:PE X a ta)(hb:PE X b tb){pins:List (Addr ×Obj)}{s:Shared}{σ:St}{H:Hp}{R:V->V->Hp->Prop}(I:Inv X pins σ H s)
 (h:ta σ H λx H1=>tb σ H1 λy H2=>R x y H2){Q:Value->Shared->Prop}{f:Value->Value->Sem Value}
 (hf:∀v u s2 x y H2,Inv X pins σ H2 s2->RelV x v->RelV y u->R x y H2->wpAny (model X.prog X.w) X.A (f v u) Q X.xe s2) :
 wpAny (model X.prog X.w) X.A (eval a X.env) (λv s₁=>wpAny (model X.prog X.w) X.A (eval b X.env) (λu s₂=>wpAny (model X.prog X.w) X.A (f v u) Q X.xe s₂) X.xe s₁) X.xe s:=by
 refine bU (ha pins s σ H _ I h) λv s1 ⟨x,H1,I1,r1,q1⟩=>?_
 refine bU (hb pins s1 σ H1 _ I1 q1) λu s2 ⟨y,H2,I2,r2,q2⟩=>?_
 exact hf v u s2 x y H2 I2 r1 r2 q2
theorem Bq{op:UnaryOp}{r:V->Hp->VK->Prop}(ho:DW X (unaryOp op) r)(ha:PE X a ta):PE X (.UnaryOp op a pos) (Gy r ta):=by
 intro pins s σ H Q I h
 exact UnaryOp_ (bU (ha pins s σ H _ I h) λv s1 ⟨x,H1,I1,r1,q1⟩=>ho pins s1 σ H1 x v Q I1 r1 q1)
theorem Br{f:Value->Value->Sem Value}{C:Int->Int->Prop}{g:Int->Int->Int}
 (rule:∀(i j:Int) (t u:Tok) (s:Shared) (Q:Value->Shared->Prop) (E:Value->Shared->Prop),C i j->Q (.int (g i j) s.toks) {s with toks:=s.toks+1}->wpAny (model X.prog X.w) X.A (f (.int i t) (.int j u)) Q E s) :
 pH X f (rI C λi j=> .int (g i j)):=by
 intro pins s σ H x y v u Q I rx ry h
 obtain⟨i,j,rfl,rfl,hc,q⟩:=h
 obtain⟨t,rfl⟩:=rx
 obtain⟨t',rfl⟩:=ry
 exact rule i j t t' s _ _ hc ⟨.int (g i j),H,I.tok _,⟨_,rfl⟩,q⟩
theorem Bs{f:Value->Value->Sem Value}{g:Int->Int->Int}
 (rule:∀(i j:Int) (t u:Tok) (s:Shared) (Q:Value->Shared->Prop) (E:Value->Shared->Prop),Q (.int (g i j) s.toks) {s with toks:=s.toks+1}->wpAny (model X.prog X.w) X.A (f (.int i t) (.int j u)) Q E s) :
 pH X f (yj λi j=> .int (g i j)):=by
 intro pins s σ H x y v u Q I rx ry h
 obtain⟨i,j,rfl,rfl,q⟩:=h
 obtain⟨t,rfl⟩:=rx
 obtain⟨t',rfl⟩:=ry
 exact rule i j t t' s _ _ ⟨.int (g i j),H,I.tok _,⟨_,rfl⟩,q⟩
theorem Bt{f:Value->Value->Sem Value}{g:Int->Int->Bool}
 (rule:∀(i j:Int) (t u:Tok) (s:Shared) (Q:Value->Shared->Prop) (E:Value->Shared->Prop),Q (.bool (g i j)) s->wpAny (model X.prog X.w) X.A (f (.int i t) (.int j u)) Q E s) :
 pH X f (yj λi j=> .bl (g i j)):=by
 intro pins s σ H x y v u Q I rx ry h
 obtain⟨i,j,rfl,rfl,q⟩:=h
 obtain⟨t,rfl⟩:=rx
 obtain⟨t',rfl⟩:=ry
 exact rule i j t t' s _ _ ⟨.bl (g i j),H,I,rfl,q⟩
def zh(i j:Int):Prop:=(-(2 ^ 64)<i/\i<2 ^ 64)\/(-(2 ^ 64)<j/\j<2 ^ 64)
theorem zh.ok{i j:Int}(h:zh i j):IntMulOk i j:=by
 rcases h with⟨h1,h2⟩|⟨h1,h2⟩
 ·exact .of_left (intBits_le_64 h1 h2)
 ·exact .of_right (intBits_le_64 h1 h2)
theorem zj:pH X (binaryOp .Add) (yj λi j=> .int (i+j)):=Bs λ_ _ _ _ _ _ _ q=>add_int q
theorem zk:pH X (binaryOp .Sub) (yj λi j=> .int (i-j)):=Bs λ_ _ _ _ _ _ _ q=>sub_int q
theorem zm:pH X (binaryOp .Mod) (rI (λ_ j=>0<j) λi j=> .int (i % j)):=Br λi j _ _ _ _ _ hc q=>by
 have h1:(0:Int)<j:=hc
 exact mod_int' (by omega) (by rw[Int.fmod_eq_emod_of_nonneg i (by omega)];exact q)
theorem Gz{f:Value->Sem Value}{g:Int->Int}
 (rule:∀(i:Int) (t:Tok) (s:Shared) (Q:Value->Shared->Prop) (E:Value->Shared->Prop),Q (.int (g i) s.toks) {s with toks:=s.toks+1}->wpAny (model X.prog X.w) X.A (f (.int i t)) Q E s) :
 DW X f (rU λi=> .int (g i)):=by
 intro pins s σ H x v Q I rx h
 obtain⟨i,rfl,q⟩:=h
 obtain⟨t,rfl⟩:=rx
 exact rule i t s _ _ ⟨.int (g i),H,I.tok _,⟨_,rfl⟩,q⟩
theorem zo:DW X (unaryOp .USub) (rU λi=> .int (-i)):=Gz λ_ _ _ _ _ q=>neg_int q
end
def we:V->V->Bool
 | .aZ,.aZ=>true| .aZ,.int _=>true| .int _,.aZ=>true| .aZ,.bl _=>true| .bl _,.aZ=>true| .aZ,.str _=>true| .str _,.aZ=>true
 | .int _,.int _=>true| .bl _,.bl _=>true| .str _,.str _=>true| .tH _,.tH _=>true
 | .int _,.str _=>true| .str _,.int _=>true| .bl _,.str _=>true| .str _,.bl _=>true
 |_,_=>false
def GA:R2:=λx y H Q=>we x y=true/\Q (.bl (decide (x=y))) H
def GB:R2:=λx y H Q=>we x y=true/\Q (.bl (!decide (x=y))) H
theorem mO{i j:Int}:decide (V.int i=V.int j)=(i==j):=by
 rw[Ju]
 simp
theorem pO{i j:Bool}:decide (V.bl i=V.bl j)=(i==j):=by
 rw[Ju]
 simp
theorem mP{i j:Str}:decide (V.str i=V.str j)=(i==j):=by
 rw[Ju]
 simp
theorem qF{i j:Array UInt8}:decide (V.tH i=V.tH j)=(i.toList==j.toList):=by
 rw[Ju]
 cases i
 cases j
 simp
section
variable{X:Cx}{a b c:Expr}{ta tb tc:TE}{pos:Pos}
theorem aT{pins:List (Addr ×Obj)}{σ:St}{H:Hp}{s:Shared}{Q:VK}{k k':Bool}(I:Inv X pins σ H s)(q:Q (.bl k) H)(e:k=k'):EP X pins σ Q (.bool k') s:=by
 subst e
 exact⟨.bl k,H,I,rfl,q⟩
theorem Bu:pH X (compareOp .Eq) GA:=by
 intro pins s σ H x y v u Q I rx ry h
 obtain⟨hs,q⟩:=h
 cases x with
 |aZ=>
  cases rx
  cases y with
  |aZ=>cases ry;exact PySem.EqNone.eq_none_none (aT I q (by simp))
  |bl j=>cases ry;exact PySem.EqNone.eq_none_bool (aT I q (by simp))
  |int j=>obtain⟨t',rfl⟩:=ry;exact PySem.EqNone.eq_none_int (aT I q (by simp))
  |str j=>obtain⟨t',rfl⟩:=ry;exact PySem.EqNone.eq_none_str (aT I q (by simp))
  |_=>exact absurd (show false=true from hs) Iv
 |bl i=>
  cases rx
  cases y with
  |aZ=>cases ry;exact PySem.EqNone.eq_bool_none (aT I q (by simp))
  |bl j=>cases ry;exact eq_bool (aT I q pO)
  |str j=>obtain⟨t',rfl⟩:=ry;exact PySem.EqMixed.eq_bool_str (aT I q (by simp))
  |_=>exact absurd (show false=true from hs) Iv
 |int i=>
  obtain⟨t,rfl⟩:=rx
  cases y with
  |aZ=>cases ry;exact PySem.EqNone.eq_int_none (aT I q (by simp))
  |int j=>obtain⟨t',rfl⟩:=ry;exact eq_int (aT I q mO)
  |str j=>obtain⟨t',rfl⟩:=ry;exact PySem.EqMixed.eq_int_str (aT I q (by simp))
  |_=>exact absurd (show false=true from hs) Iv
 |str i=>
  obtain⟨t,rfl⟩:=rx
  cases y with
  |aZ=>cases ry;exact PySem.EqNone.eq_str_none (aT I q (by simp))
  |bl j=>cases ry;exact PySem.EqMixed.eq_str_bool (aT I q (by simp))
  |int j=>obtain⟨t',rfl⟩:=ry;exact PySem.EqMixed.eq_str_int (aT I q (by simp))
  |str j=>obtain⟨t',rfl⟩:=ry;exact eq_str (aT I q mP)
  |_=>exact absurd (show false=true from hs) Iv
 |tH i=>
  obtain⟨t,rfl⟩:=rx
  cases y with
  |tH j=>obtain⟨t',rfl⟩:=ry;exact PySem.W.eq_bytes (aT I q qF)
  |_=>exact absurd (show false=true from hs) Iv
 |_=>cases y<;>exact absurd (show false=true from hs) Iv
theorem Bv:pH X (compareOp .NotEq) GB:=by
 intro pins s σ H x y v u Q I rx ry h
 obtain⟨hs,q⟩:=h
 cases x with
 |aZ=>
  cases rx
  cases y with
  |aZ=>cases ry;exact PySem.EqNone.ne_none_none (aT I q (by simp))
  |bl j=>cases ry;exact PySem.EqNone.ne_none_bool (aT I q (by simp))
  |int j=>obtain⟨t',rfl⟩:=ry;exact PySem.EqNone.ne_none_int (aT I q (by simp))
  |str j=>obtain⟨t',rfl⟩:=ry;exact PySem.EqNone.ne_none_str (aT I q (by simp))
  |_=>exact absurd (show false=true from hs) Iv
 |bl i=>
  cases rx
  cases y with
  |aZ=>cases ry;exact PySem.EqNone.ne_bool_none (aT I q (by simp))
  |bl j=>cases ry;exact ne_bool (aT I q (congrArg not pO))
  |str j=>obtain⟨t',rfl⟩:=ry;exact PySem.EqMixed.ne_bool_str (aT I q (by simp))
  |_=>exact absurd (show false=true from hs) Iv
 |int i=>
  obtain⟨t,rfl⟩:=rx
  cases y with
  |aZ=>cases ry;exact PySem.EqNone.ne_int_none (aT I q (by simp))
  |int j=>obtain⟨t',rfl⟩:=ry;exact ne_int (aT I q (congrArg not mO))
  |str j=>obtain⟨t',rfl⟩:=ry;exact PySem.EqMixed.ne_int_str (aT I q (by simp))
  |_=>exact absurd (show false=true from hs) Iv
 |str i=>
  obtain⟨t,rfl⟩:=rx
  cases y with
  |aZ=>cases ry;exact PySem.EqNone.ne_str_none (aT I q (by simp))
  |bl j=>cases ry;exact PySem.EqMixed.ne_str_bool (aT I q (by simp))
  |int j=>obtain⟨t',rfl⟩:=ry;exact PySem.EqMixed.ne_str_int (aT I q (by simp))
  |str j=>obtain⟨t',rfl⟩:=ry;exact ne_str (aT I q (congrArg not mP))
  |_=>exact absurd (show false=true from hs) Iv
 |tH i=>
  obtain⟨t,rfl⟩:=rx
  cases y with
  |tH j=>obtain⟨t',rfl⟩:=ry;exact PySem.W.ne_bytes (aT I q (congrArg not qF))
  |_=>exact absurd (show false=true from hs) Iv
 |_=>cases y<;>exact absurd (show false=true from hs) Iv
theorem Bw:pH X (compareOp .Lt) (yj λi j=> .bl (decide (i<j))):=Bt λ_ _ _ _ _ _ _ q=>lt_int q
theorem Bx:pH X (compareOp .Gt) (yj λi j=> .bl (decide (j<i))):=Bt λ_ _ _ _ _ _ _ q=>gt_int q
theorem zp:pH X (compareOp .Is) (λx y H Q=>y= .aZ/\Q (.bl (decide (x= .aZ))) H):=by
 intro pins s σ H x y v u Q I rx ry h
 obtain⟨rfl,q⟩:=h
 cases ry
 refine is_none_gen (aT I q ?_)
 cases x<;>first
  |(cases rx;rfl)
  |(obtain⟨t,rfl⟩:=rx;rfl)
theorem aA(b:Expr){op:CmpOp}(h:op≠ .In:=by decide)(h2:op≠ .NotIn:=by decide):behindInMarks op b=false:=by
 have e1:(op==CmpOp.In)=false:=by cases op<;>first|rfl|exact absurd rfl h
 have e2:(op==CmpOp.NotIn)=false:=by cases op<;>first|rfl|exact absurd rfl h2
 cases b<;>simp[behindInMarks,e1,e2]
theorem pP:(sizeLine:Nat)<2 ^ 63:=by rw[sizeLine_eq];decide
theorem vals1{x:V}{us:List Value}(r:Vals [x] us):∃u,us=[u]/\RelV x u:=by
 cases r with
 |cons r1 r2=>cases r2;exact⟨_,rfl,r1⟩
theorem vals2{x y:V}{us:List Value}(r:Vals [x,y] us):∃u w',us=[u,w']/\RelV x u/\RelV y w':=by
 cases r with
 |cons r1 r2=>
  cases r2 with
  |cons r3 r4=>cases r4;exact⟨_,_,rfl,r1,r3⟩
theorem rR(hc:X.calm=true):ow X (.builtin "max") (λxs H Q=>∃i j,xs=[.int i,.int j]/\Q (.int (if j>i then j else i)) H):=by
 intro pins s σ H xs us Q I r h
 obtain⟨i,j,rfl,q⟩:=h
 obtain⟨u,w',rfl,⟨t,rfl⟩,⟨t',rfl⟩⟩:=vals2 r
 refine max_two_ints (I.ok.hd hc) λh' tk k=>⟨_,H,I.kept k,?_,q⟩
 by_cases hj:j>i
 ·rw[if_pos hj,if_pos hj];exact⟨_,rfl⟩
 ·rw[if_neg hj,if_neg hj];exact⟨_,rfl⟩
theorem rS(hc:X.calm=true):ow X (.builtin "min") (λxs H Q=>∃i j,xs=[.int i,.int j]/\Q (.int (if j<i then j else i)) H):=by
 intro pins s σ H xs us Q I r h
 obtain⟨i,j,rfl,q⟩:=h
 obtain⟨u,w',rfl,⟨t,rfl⟩,⟨t',rfl⟩⟩:=vals2 r
 refine min_two_ints (I.ok.hd hc) λh' tk k=>⟨_,H,I.kept k,?_,q⟩
 by_cases hj:j<i
 ·rw[if_pos hj,if_pos hj];exact⟨_,rfl⟩
 ·rw[if_neg hj,if_neg hj];exact⟨_,rfl⟩
end
end L2
namespace L2
open PySem PySem.Spec PyProof.Rows
structure zq(h:Heap)(x dx C:Addr)(mA:Str->Option Value):Prop where
 obj:h.get? x=some (PySem.W.instObj C dx)
 ns:h.Ns1 dx mA
 ne:dx≠x
theorem rT{h:Heap}{dx:Addr}{mA:Str->Option Value}(n:h.Ns1 dx mA):∃od,h.get? dx=some od/\∀name,PySem.W.lookIn name od=some (mA name):=by
 obtain⟨o,es,ep,ho,hd,hk,_,hm⟩:=n
 refine⟨o,ho,λname=>?_⟩
 have e:=hm name
 unfold nsFind findBy at e
 rw[<-Array.find?_toList]at e
 unfold PySem.W.lookIn
 rw[hd]
 dsimp only
 split
 ·rename_i y q
  rw[q]at e
  exact congrArg some e
 ·rename_i q
  rw[q]at e
  have a:es.toList.any (·.refKey)=false:=by
   rw[List.any_eq_false]
   intro y hy
   obtain⟨z,t,hkey⟩:=hk y (Array.mem_toList_iff.mp hy)
   simp[DictEntry.refKey,hkey]
  have a':¬es.toList.any (·.refKey)=true:=by rw[a];exact Iv
  rw[if_neg a']
  exact congrArg some e
theorem zq.look{h:Heap}{x dx C:Addr}{mA:Str->Option Value}(I:zq h x dx C mA):∃od,PySem.W.InstAt h x (PySem.W.instObj C dx) C (some od)/\∀name,PySem.W.lookIn name od=some (mA name):=
 let ⟨od,ho,hl⟩:=rT I.ns
 ⟨od,⟨I.obj,rfl,rfl,ho⟩,hl⟩
section
variable{prog:Program}{w:World}{A:Around}{E:Value->Shared->Prop}{s:Shared}{K:PySem.W.Frag}{x dx C f:Addr}{mA:Str->Option Value}{name:Str}{v:Value}
end
section
variable{P:Program}{w:World}{H H':Hp}{h h':Heap}{a C dx:Addr}{fs fs':List (Str ×V)}
theorem wg(hok:d9 P w H h)(e:H a=some (.ins C dx fs)):∃mA,zq h a dx C mA/\(∀f,yT (fs.lookup f) (mA f))/\PySem.Within mA (fs.map (·.1))/\fs.length<=1000/\H dx=some (.own a):=by
 obtain⟨d,z,ne,ob,mA,n,r,q⟩:=(show bE P w H h a (.ins C dx fs)from hok a _ e)
 exact⟨mA,⟨ob,n,ne⟩,r,q,z,d⟩
end
structure DZ(K:PySem.W.Frag)(C:Addr):Prop where
 pg:PySem.W.plainGet K C Str.empty=true
 hd:PySem.W.hasDictIn K C=true
 po:PySem.W.plainOver K C=true
 sa:PySem.W.findIn K (.ref C) "__setattr__" =some (some (.builtin "object.__setattr__"))
theorem DZ.get{K:PySem.W.Frag}{C:Addr}(c:DZ K C)(f:Str):PySem.W.plainGet K C f=true:=c.pg
section
variable{X:Cx}{pins:List (Addr ×Obj)}{σ:St}{H:Hp}{s:Shared}{a C dx:Addr}{fs:List (Str ×V)}{f:Str}{v:V}{A:Around}{E:Value->Shared->Prop}
end
section
variable{X:Cx}{o e value:Expr}{f:Str}{pos pos' tpos:Pos}{ta tv:TE}
end
section
variable{X:Cx}{pins:List (Addr ×Obj)}{σ:St}{H:Hp}{s:Shared}{A:Around}{E:Value->Shared->Prop}{Q:Value->Shared->Prop}{c:Value}{b:Bool}
inductive jv(K:PySem.W.Frag)(H:Hp):V->Value->Prop where
 |aZ:jv K H .aZ (.type "NoneType")
 |bl (x:Bool):jv K H (.bl x) (.type "bool")
 |int (i:Int):jv K H (.int i) (.type "int")
 |str (x:Str):jv K H (.str x) (.type "str")
 |AY (x:UInt64):jv K H (.AY x) (.type "float")
 |lst {a:Addr} {xs:List V} (e:H a=some (.lst xs)):jv K H (.ref a) (.type "list")
 |fZ {a:Addr} {o:Obj} {xs:List V} (e:H a=some (.fZ o (.lst xs))):jv K H (.ref a) (.type "list")
 |tup {a:Addr} {xs:List V} (e:H a=some (.tup xs)):jv K H (.ref a) (.type "tuple")
 |dK {a:Addr} {kvs:List (Key ×V)} (e:H a=some (.dK kvs)):jv K H (.ref a) (.type "dict")
 |dT {a:Addr} {kvs:List (List Key ×V)} (e:H a=some (.dT kvs)):jv K H (.ref a) (.type "dict")
 |ins {a C dx:Addr} {fs:List (Str ×V)} (e:H a=some (.ins C dx fs)) (cl:DZ K C) (ha:PySem.W.findIn K (.ref C) "__class__" =some (some (.builtin "object.__class__")))
  (hn:PySem.W.specialIn K (.builtin "object.__class__") "__get__" =some (some (.builtin "getset_descriptor.__get__"))) (htk:PySem.W.takesIn K (.builtin "object.__class__")=some true)
  (hm:PySem.W.mroIn K C (.type "object")=some true):jv K H (.ref a) (.ref C)
theorem dj{x:V}{u t:Value}(I:Inv X pins σ H s)(rx:RelV x u)(ty:jv X.K H x t)(e:PySem.W.kitOne X.K t c=some b)(h:∀tk,Q (.bool b) {s with toks:=tk}) :
 wpAny (model X.prog X.w) A (call (.builtin "isinstance") [u,c]) Q E s:=by
 cases ty with
 |aZ=>cases(show u=Value.none from rx);exact PySem.W.kia_one PySem.W.kitx_none I.n6 True.intro e (λz=>nomatch z) h
 |bl y=>cases(show u=Value.bool y from rx);exact PySem.W.kia_one PySem.W.kitx_bool I.n6 True.intro e (λz=>nomatch z) h
 |int i=>obtain⟨t,q⟩:=(show∃t,u=Value.int i t from rx);cases q;exact PySem.W.kia_one PySem.W.kitx_int I.n6 True.intro e (λz=>nomatch z) h
 |str y=>obtain⟨t,q⟩:=(show∃t,u=Value.str y t from rx);cases q;exact PySem.W.kia_one PySem.W.kitx_str I.n6 True.intro e (λz=>nomatch z) h
 |AY y=>obtain⟨t,q⟩:=(show∃t,u=Value.float y t from rx);cases q;exact PySem.W.kia_one PySem.W.kitx_float I.n6 True.intro e (λz=>nomatch z) h
 |@lst a xs ea=>
  cases(show u=Value.ref a from rx)
  obtain⟨_,_,n,_,h1⟩:=(show bE X.prog X.w H s.heap a (.lst xs)from I.hok a _ ea)
  exact PySem.W.kia_one PySem.W.kitx_list I.n6 ⟨_,h1,rfl⟩ e (λz=>nomatch z) h
 |@fZ a ob xs ea=>
  cases(show u=Value.ref a from rx)
  obtain⟨_,_,_,n,_,h1⟩:=(show bE X.prog X.w H s.heap a (.fZ ob (.lst xs))from I.hok a _ ea)
  exact PySem.W.kia_one PySem.W.kitx_list I.n6 ⟨_,h1,rfl⟩ e (λz=>nomatch z) h
 |@tup a xs ea=>
  cases(show u=Value.ref a from rx)
  obtain⟨_,_,_,p⟩:=(show bE X.prog X.w H s.heap a (.tup xs)from I.hok a _ ea)
  obtain⟨o,h1,h2,_⟩:=p
  exact PySem.W.kia_one PySem.W.kitx_tuple I.n6 ⟨o,h1,h2⟩ e (λz=>nomatch z) h
 |@dK a kvs ea=>
  cases(show u=Value.ref a from rx)
  obtain⟨_,_,vs,_,p⟩:=(show bE X.prog X.w H s.heap a (.dK kvs)from I.hok a _ ea)
  obtain⟨o,es,ep,h1,h2,_⟩:=p
  exact PySem.W.kia_one PySem.W.kitx_dict I.n6 ⟨o,h1,h2.1⟩ e (λz=>nomatch z) h
 |@dT a kvs ea=>
  cases(show u=Value.ref a from rx)
  obtain⟨_,_,xs,_,o,es,ep,h1,h2,_⟩:=(show bE X.prog X.w H s.heap a (.dT kvs)from I.hok a _ ea)
  exact PySem.W.kia_one PySem.W.kitx_dict I.n6 ⟨o,h1,h2.1⟩ e (λz=>nomatch z) h
 |@ins a C dx fs ea cl ha hn htk hm=>
  cases(show u=Value.ref a from rx)
  obtain⟨mA,O,_⟩:=wg I.hok ea
  obtain⟨od,J,_⟩:=O.look
  exact PySem.W.kia_one (PySem.W.kitx_own (cl.get _) cl.hd ha hn htk hm) I.n6 J e (λz=>nomatch z) h
end
end L2
namespace L2
open PySem PySem.Spec PyProof.Rows
structure bV(k:Nat)(A:Around):Prop where
 hd:A.handled=none
 dp:A.depth+3*k+5<recursionLimit
 un:A.units+16*k+200<cLine
theorem bV.mono{j k:Nat}{A:Around}(r:bV k A)(h:j<=k):bV j A:=⟨r.hd,by have:=r.dp;omega,by have:=r.un;omega⟩
theorem bV.deeper{k:Nat}{A:Around}(r:bV (k+1) A)(env:Env):bV k (A.deeper env):=
 ⟨r.hd,by have:=r.dp;show A.depth+1+3*k+5<_;omega,by have:=r.un;show A.units+3+16*k+200<_;omega⟩
theorem bV.in1{k:Nat}{A:Around}(r:bV (k+1) A):bV k A.in1:=
 ⟨r.hd,by have:=r.dp;show A.depth+3*k+5<_;omega,by have:=r.un;show A.units+1+16*k+200<_;omega⟩
theorem bV.depth{k:Nat}{A:Around}(r:bV k A):A.depth<recursionLimit:=by have:=r.dp;omega
theorem bV.units{k:Nat}{A:Around}(r:bV k A):A.units+64<cLine:=by have:=r.un;omega
def zu:TA:=λ_ H Q=>Q [] H
def tR(ta:TE)(tr:TA):TA:=λσ H Q=>ta σ H λx H1=>tr σ H1 λxs H2=>Q (x::xs) H2
section
variable{X:Cx}{e:Expr}{es:List Expr}{te:TE}{t:TA}{pos:Pos}
theorem mQ:PA X [] zu:=λ_ _ _ _ H Q I h=>Calls.spliced_nil ⟨[],H,I,.nil,h⟩
theorem jH(ha:PE X e te)(hr:PA X es t)(hs:starEach (e::es) X.env=(false,eval e X.env)::starEach es X.env:=by rfl):PA X (e::es) (tR te t):=by
 intro pos pins s σ H Q I h
 rw[hs]
 show wpAny _ _ (spliced ((false,eval e X.env)::backTo pos (starEach es X.env))) _ _ s
 refine Calls.spliced_cons (bU (ha pins s σ H _ I h) λu s1 ⟨x,H1,I1,r1,q1⟩=>?_)
 exact bU (hr pos pins s1 σ H1 _ I1 q1) λus s2 ⟨xs,H2,I2,r2,q2⟩=>⟨x::xs,H2,I2,.cons r1 r2,q2⟩
def D0(t:TA):TE:=λσ H Q=>t σ H λxs H1=>xs.length<=sizeLine/\∀p,H1 p=none->Q (.ref p) (upd H1 p (.tup xs))
def D3(t:TA):TE:=λσ H Q=>t σ H λxs H1=>xs.length<=sizeLine/\∀p,H1 p=none->Q (.ref p) (upd H1 p (.lst xs))
theorem zx{x1}(h:PA X es t):PE X (.Tuple es x1 pos) (D0 t):=by
 intro pins s σ H Q I hq
 refine wpAny_Tuple_spliced (bU (h pos pins s σ H _ I hq) λus s1 ⟨xs,H1,I1,r,z,q⟩=>⟨by rw[<-r.length];exact z,?_⟩)
 have hf:H1 s1.heap.objs.size=none:=I1.hok.fresh (Iu _)
 refine⟨.ref s1.heap.objs.size,upd H1 s1.heap.objs.size (.tup xs),I1.laid (t':=s1.toks) (λb u e=>Heap.get?_push_of_some _ e) (Iu _) ?_,rfl,q _ hf⟩
 exact⟨z,us,r,⟨_,Heap.get?_push_size _ rfl,rfl,_,rfl⟩⟩
theorem zy(h:PA X es t):PE X (.List es pos) (D3 t):=by
 intro pins s σ H Q I hq
 refine wpAny_List_spliced (bU (h pos pins s σ H _ I hq) λus s1 ⟨xs,H1,I1,r,z,q⟩=>⟨by rw[<-r.length];exact z,?_⟩)
 have hf:H1 s1.heap.objs.size=none:=I1.hok.fresh (Iu _)
 refine⟨.ref s1.heap.objs.size,upd H1 s1.heap.objs.size (.lst xs),I1.laid (t':=s1.toks) (λb u e=>Heap.get?_push_of_some _ e) (Iu _) ?_,rfl,q _ hf⟩
 exact⟨z,us,0,r,Heap.get?_push_size _ rfl⟩
end
abbrev Sp:=List V->Hp->VK->XK->Prop
abbrev wj:=List Env->Hp->Shared->XK->Value->Shared->Prop
structure mR(P:Program)(w:World)(K:PySem.W.Frag)(mg:Str->Option Value)(base:Heap)(A:Around)(outer:List Env)(s:Shared)(H:Hp):Prop where
 frames:A.frames=some outer
 mod:Mod K mg base
 bs:∀b o,base.get? b=some o->s.heap.get? b=some o/\H b=none
 vX:base.objs.size<=s.heap.objs.size
 i8:s.heap.FunFrames base outer
 ye:∀b∈frs outer,H b=none
 hok:d9 P w H s.heap
 bare:AllBare s.gens
def CE(outer:List Env)(P:Program)(w:World)(H:Hp)(s:Shared)(Q:VK)(u:Value)(s':Shared):Prop:=
 ∃v H',s'.os=s.os/\AllBare s'.gens/\Un (frs outer) [] H H' s.heap s'.heap/\d9 P w H' s'.heap/\RelV v u/\Q v H'
def CR(CX:wj)(outer:List Env)(P:Program)(w:World)(H:Hp)(s:Shared)(Q:VK)(E:XK)(r:Result)(s':Shared):Prop:=
 match r with
 | .ok (.ret u)=>CE outer P w H s Q u s'
 | .ok _=>False
 | .error e=>CX outer H s E e s'
structure b9(P:Program)(w:World)(K:PySem.W.Frag)(mg:Str->Option Value)(base:Heap)(CX:wj)(k:Nat)(f:Addr)(fd:FuncData)(ps:List Str)(sp:Sp):Prop where
 len:∀vs H Q E,sp vs H Q E->vs.length=ps.length
 run:∀(A:Around) (outer:List Env) (s:Shared) (H:Hp) (args:Args) (us:List Value) (vs:List V) (Q:VK) (E:XK),bV k A->mR P w K mg base A outer s H->BindsTo s fd args (ps.zip us)->Vals vs us->sp vs H Q E->
  codeAny (model P w) A (.call (.ref f) args) (CR CX outer P w H s Q E) s
theorem mR.in1{P:Program}{w:World}{K:PySem.W.Frag}{mg:Str->Option Value}{base:Heap}{A:Around}{outer:List Env}{s:Shared}{H:Hp}(e:mR P w K mg base A outer s H) :
 mR P w K mg base A.in1 outer s H:=⟨e.frames,e.mod,e.bs,e.vX,e.i8,e.ye,e.hok,e.bare⟩
section
variable{X:Cx}{pins:List (Addr ×Obj)}{σ:St}{H:Hp}{s s':Shared}
theorem Inv.By(I:Inv X pins σ H s):mR X.prog X.w X.K X.mg X.base X.A X.stack s H:=
 ⟨I.ok.frames,I.ok.mod,I.bs,Jp I.ok.vX I.sz,I.stack,I.qB,I.hok,I.bare⟩
theorem Inv.after{Q:VK}{u:Value}(I:Inv X pins σ H s)(h:CE X.stack X.prog X.w H s Q u s'):EP X pins σ Q u s':=by
 obtain⟨v,H',os,bare,un,hok,r,q⟩:=h
 obtain⟨hh,g,d,t,os'⟩:=s'
 obtain rfl:os'=s.os:=os
 exact⟨v,H',I.call (h':=hh) (g':=g) (d':=d) (t':=t) (ch:=[]) un hok bare (λb z=>absurd z (by simp)),r,q⟩
end
def BA(sp:Sp)(sV:List V)(E:XK)(t:TA):TE:=λσ H Q=>t σ H λvs H1=>sp (vs++sV) H1 Q E
def Binds(K:PySem.W.Frag)(fd:FuncData)(ps:List Str)(ds:List Value):Prop:=
 ∀(s:Shared) (us:List Value),K.In s.heap->(us++ds).length=ps.length->BindsTo s fd ⟨us,[]⟩ (ps.zip (us++ds))
theorem Binds.all{K:PySem.W.Frag}{fd:FuncData}{ps:List Str}(h:∀us:List Value,us.length=ps.length->bindArgs fd ⟨us,[]⟩=pure (ps.zip us)):Binds K fd ps []:=λs us _ hl=>by
 rw[KO]at hl ⊢
 exact .of_eq (h us hl)
def Passes(CX:wj)(X:Cx)(E:XK):Prop:= ∀(pins:List (Addr ×Obj)) (σ:St) (H:Hp) (s:Shared) (e:Value) (s':Shared),Inv X pins σ H s->CX X.stack H s E e s'->X.xe e s'
section
variable{X:Cx}{CX:wj}{k:Nat}{f C:Addr}{fd:FuncData}{ps:List Str}{sp:Sp}{sV:List V}{ds:List Value}{E:XK}{x m:Str}{p pos apos:Pos}{e o:Expr}{es:List Expr}{ta:TE}{t:TA}
theorem zz{pins:List (Addr ×Obj)}{σ:St}{H:Hp}{s:Shared}{Q:VK}{us:List Value}{vs:List V}(F:b9 X.prog X.w X.K X.mg X.base CX k f fd ps sp)(hr:bV k X.A)(hb:Binds X.K fd ps ds)(hd:Vals sV ds)(hx:Passes CX X E)
 (I:Inv X pins σ H s)(r:Vals vs us)(h:sp (vs++sV) H Q E):wpAny (model X.prog X.w) X.A (call (.ref f) us) (EP X pins σ Q) X.xe s:=by
 have r2:Vals (vs++sV) (us++ds):=r.append hd
 have hl:(us++ds).length=ps.length:=by rw[<-r2.length];exact F.len _ _ _ _ h
 refine wpAny_call (codeAny_mono (F.run X.A X.stack s H ⟨us,[]⟩ (us++ds) (vs++sV) Q E hr I.By (hb s us I.n6 hl) r2 h) λr s' hq=>?_)
 cases r with
 |error e=>exact hx pins σ H s e s' I hq
 |ok fl=>
  cases fl with
  |ret u=>exact I.after hq
  |next=>exact False.elim hq
  |brk=>exact False.elim hq
  |cont=>exact False.elim hq
theorem qG(F:b9 X.prog X.w X.K X.mg X.base CX k f fd ps sp)(hr:bV k X.A)(hg:Gl X x)(hm:X.mg x=some (.ref f))(hk:PySem.W.keepIn X.K (.ref f)=true)(hb:Binds X.K fd ps ds)(hd:Vals sV ds)(hx:Passes CX X E)
 (ha:PA X (e::es) t)(hdb:(x==("__debug__" :Str))=false:=by decide)(he:starEach (e::es) X.env=(false,eval e X.env)::starEach es X.env:=by rfl)(hpl:(backTo pos (starEach es X.env)).any (·.1)=false:=by rfl) :
 PE X (.Call (.Name x p) (e::es) [] pos) (BA sp sV E t):=by
 intro pins s σ H Q I h
 refine wpAny_Call_Name_kw (vY I hg hm ?_ hdb)
 refine PySem.W.callWith_K (h₀:=X.base) I.ok.mod.yW hk (bU (ha pos pins s σ H _ I h) λus s1 ⟨vs,H1,I1,r,q⟩=>⟨I1.n6,?_⟩) he hpl
 exact zz F hr hb hd hx I1 r q
end
section
variable{X:Cx}{CX:wj}{k:Nat}{f C:Addr}{fd:FuncData}{ps ks:List Str}{sp:Sp}{E:XK}{x m:Str}{p pos apos kpos:Pos}{e o:Expr}{es:List Expr}{kws:List Keyword}{te ta:TE}{t tk:TA}{nm:Option Str}
variable{g:List Value->List Value->List Value}{gV:List V->List V->List V}
end
structure aS(N P:List Str)(sc:Scope):Prop where
 kind:sc.kind= .function
 co:sc.isCoroutine=false
 gen:sc.isGenerator=false
 nd:N.Nodup
 pre:N.take P.length=P
 par:∀x∈P,sc.names.lookup x=some .local\/sc.names.lookup x=some .cell
 zA:∀y∈sc.names,y.2≠ .free
theorem lP{kindOf:Str->Option NameKind}{x:Str}:∀{binds:List (Str ×Value)} {m:Str->Option Value},(∀v,(x,v)∉binds)->bindL kindOf binds m x=m x
 |[],_,_=>rfl
 |(n,v)::r,m,h=>by
  unfold bindL
  rw[lP λw hw=>h w (IF _ hw)]
  split
  ·have:x≠n:=by rintro rfl;exact h v IB
   simp[this]
  ·rfl
theorem lQ{kindOf:Str->Option NameKind}{x:Str}:∀{binds:List (Str ×Value)} {m:Str->Option Value},(∀v,(x,v)∉binds)->bindC kindOf binds m x=m x
 |[],_,_=>rfl
 |(n,v)::r,m,h=>by
  unfold bindC
  rw[lQ λw hw=>h w (IF _ hw)]
  split
  ·rfl
  ·have:x≠n:=by rintro rfl;exact h v IB
   simp[this]
theorem lR{kindOf:Str->Option NameKind}{x:Str}{v:Value}:∀{P:List Str} {vs:List Value} {i:Nat} {m:Str->Option Value},P.Nodup->P[i]?=some x->vs[i]?=some v->kindOf x=some .local->
 bindL kindOf (P.zip vs) m x=some v
 |[],_,_,_,_,h,_,_=>by simp at h
 |_::_,[],_,_,_,_,h,_=>by simp at h
 |p::P,w::vs,0,m,nd,h1,h2,hk=>by
  simp at h1 h2;subst h1;subst h2
  show bindL kindOf ((p,w)::P.zip vs) m p=_
  unfold bindL
  rw[lP λv hv=>(JC.mp nd).1 (JR hv).1,if_pos hk]
  simp
 |p::P,w::vs,i+1,m,nd,h1,h2,hk=>by
  show bindL kindOf ((p,w)::P.zip vs) m x=_
  unfold bindL
  exact lR (i:=i) (JC.mp nd).2 (by simpa using h1) (by simpa using h2) hk
theorem lS{kindOf:Str->Option NameKind}{x:Str}{v:Value}:∀{P:List Str} {vs:List Value} {i:Nat} {m:Str->Option Value},P.Nodup->P[i]?=some x->vs[i]?=some v->kindOf x≠some .local->
 bindC kindOf (P.zip vs) m x=some v
 |[],_,_,_,_,h,_,_=>by simp at h
 |_::_,[],_,_,_,_,h,_=>by simp at h
 |p::P,w::vs,0,m,nd,h1,h2,hk=>by
  simp at h1 h2;subst h1;subst h2
  show bindC kindOf ((p,w)::P.zip vs) m p=_
  unfold bindC
  rw[lQ λv hv=>(JC.mp nd).1 (JR hv).1,if_neg hk]
  simp
 |p::P,w::vs,i+1,m,nd,h1,h2,hk=>by
  show bindC kindOf ((p,w)::P.zip vs) m x=_
  unfold bindC
  exact lS (i:=i) (JC.mp nd).2 (by simpa using h1) (by simpa using h2) hk
def start(N:List Str)(vs:List V):St:=vs.map some++List.replicate (N.length-vs.length) none
def eX(CX:wj)(P:Program)(w:World)(K:PySem.W.Frag)(mg:Str->Option Value)(base:Heap)(N:List Str)(qual:Str)(scope:Scope)(f:Addr)(cd:Value)(A:Around)(outer:List Env)(s:Shared)(H:Hp)(E:XK):Cx where
 prog:=P
 w:=w
 K:=K
 mg:=mg
 base:=base
 A:=A.deeper (envOfC qual scope s.heap.objs.size f cd)
 N:=N
 s₀:=s
 H₀:=H
 env:=envOfC qual scope s.heap.objs.size f cd
 outer:=outer
 stack:=envOfC qual scope s.heap.objs.size f cd::outer
 ex:=[]
 calm:=true
 fn:=λ_=>true
 pn:=[]
 xe:=λe s'=>wpAny (model P w) (A.deeper (envOfC qual scope s.heap.objs.size f cd)) (leaving (envOfC qual scope s.heap.objs.size f cd) e) (λ_ s''=>CX outer H s E e s'') (λe' s''=>CX outer H s E e' s'') s'
theorem oz{sc:Scope}{n:Nat}{x:Str}(h:sc.names.lookup x=some .cell):∃c,(cellsFrom n sc.names []).lookup x=some c:=by
 have q:=PySem.W.cellsFrom_some sc.names n [] (.inl h)
 exact J7.mp q
theorem lT{CX:wj}{P:Program}{w:World}{K:PySem.W.Frag}{mg:Str->Option Value}{base:Heap}{N ps:List Str}{qual:Str}{scope:Scope}{f:Addr}{cd:Value}{A:Around}{outer:List Env}{s s1:Shared}{H:Hp}{E:XK}{us:List Value}{vs:List V}
 (S:aS N ps scope)(hd:A.handled=none)(e0:mR P w K mg base A outer s H)(hl:vs.length=ps.length)(r:Vals vs us)
 (x:InCallC s s.heap.objs.size (bindL (envOfC qual scope s.heap.objs.size f cd).kindOf (ps.zip us) λ_=>none) (cellsFrom (s.heap.objs.size+1) scope.names []) (bindC (envOfC qual scope s.heap.objs.size f cd).kindOf (ps.zip us) λ_=>none) s1) :
 Inv (eX CX P w K mg base N qual scope f cd A outer s H E) [] (start N vs) H s1:=by
 have hpl:ps.length<=N.length:=by have:=congrArg List.length S.pre;rw[Jg]at this;omega
 obtain⟨h1,tk,rfl,hk⟩:=x.done
 have BB:∀b:Addr,b∉(eX CX P w K mg base N qual scope f cd A outer s H E).ex:=λb z=>absurd (show b∈([]:List Addr)from z) (by simp)
 refine⟨⟨e0.mod,S.kind,rfl,rfl,Iu _,λy z c h1 h2=>?_,λy hy=>?_,λy c _ h=>?_,λ_=>hd,Around.frames_deeper e0.frames,.inr ⟨rfl,rfl⟩,λb z=>absurd z (BB b),e0.bs,e0.vX,λb _ _=>BB b,λb z=>absurd z (BB b),e0.i8,e0.ye⟩,
  rfl,e0.bare,Un.kept hk,⟨_,x.toInCall.ns,λi y v h1 h2 h3=>?_⟩,λy c h=>⟨_,x.cell y c h⟩,e0.hok.fresh (Iu _),λy c h=>?_,λp hp=>absurd (show p∈([]:List (Addr ×Obj))from hp) (by simp),e0.hok.kept hk,?_⟩
 ·exact name_of_addr x.apart (PySem.mem_of_lookup h1) (PySem.mem_of_lookup h2)
 ·have hy:scope.names.lookup y=some .cell\/scope.names.lookup y=some .free:=hy
  rcases hy with hy|hy
  ·exact oz hy
  ·exact absurd rfl (S.zA _ (PySem.mem_of_lookup hy))
 ·exact JB (x.above y c (PySem.mem_of_lookup h))
 ·have hi:i<vs.length:=by
   unfold start at h2
   by_cases hi:i<vs.length
   ·exact hi
   ·rw[JZ (by simpa using hi)]at h2
    rw[Kc]at h2
    split at h2<;>cases h2
  have ha:vs[i]?=some v:=by
   unfold start at h2
   rw[JF (by simpa using hi),II]at h2
   cases e:vs[i]? with
   |none=>rw[e]at h2;cases h2
   |some a=>rw[e]at h2;cases h2;rfl
  obtain⟨u,hu,rv⟩:=r.get ha
  have hp:ps[i]?=some y:=by
   rw[<-S.pre,List.getElem?_take_of_lt (by omega)];exact h1
  have Fp:ps.Nodup:=by rw[<-S.pre];exact S.nd.sublist (Jv _ _)
  refine⟨u,rv,?_⟩
  rcases S.par y (IW hp)with k|k
  ·exact .inl ⟨k,lR Fp hp hu k⟩
  ·obtain⟨c,e⟩:=oz (n:=s.heap.objs.size+1) k
   refine .inr ⟨.inl k,c,e,?_⟩
   have q:=x.cell y c e
   rw[lS Fp hp hu (by show scope.names.lookup y≠_;rw[k];decide)]at q
   exact q
 ·exact e0.hok.fresh (JB (x.above y c (PySem.mem_of_lookup h)))
 ·unfold start
  show _=N.length
  rw[IX,Iw,List.length_replicate]
  omega
theorem yk{CX:wj}{P:Program}{w:World}{K:PySem.W.Frag}{mg:Str->Option Value}{base:Heap}{k:Nat}{f:Addr}{name qual:Str}{params:Arguments}{body:List Stmt}{scope:Scope}{dV kV doc pm cdv ct oc:Value}{an od:Option Addr}
 {osl:Array (Option Value)}{N ps:List Str}{sp:Sp}(lk:K.lookup f=some ⟨oc,od,.func (PySem.W.fnOf name qual params body scope dV kV doc pm an cdv ct),osl⟩)(hcd:PySem.W.codeIn K cdv qual=true)(S:aS N ps scope)
 (len:∀vs H Q E,sp vs H Q E->vs.length=ps.length)
 (hbody:∀(A:Around) (outer:List Env) (s:Shared) (H:Hp) (vs:List V) (Q:VK) (E:XK),bV k (A.deeper (envOfC qual scope s.heap.objs.size f cdv))->sp vs H Q E->
  ∃t,qD (eX CX P w K mg base N qual scope f cdv A outer s H E) body t/\t {nx:=λ_ H'=>Q .aZ H',rt:=Q} (start N vs) H) :
 b9 P w K mg base CX (k+1) f (PySem.W.fnOf name qual params body scope dV kV doc pm an cdv ct) ps sp:=by
 refine⟨len,λA outer s H args us vs Q E hr e0 hb r ym=>?_⟩
 have hl:=len _ _ _ _ ym
 have KX:K.In s.heap:=e0.mod.yW.keeps λb o e=>(e0.bs b o e).1
 have lim:s.heap.NoLimit:=e0.mod.nolimit.keeps λb o e=>(e0.bs b o e).1
 have hkind:∀y∈ps.zip us,scope.names.lookup y.1=some .local\/(scope.names.lookup y.1=some .cell/\((cellsFrom (s.heap.objs.size+1) scope.names []).lookup y.1).isSome=true):=λ⟨n,v⟩ hy=>by
  rcases S.par n (JR hy).1 with q|q
  ·exact .inl q
  ·exact .inr ⟨q,PySem.W.cellsFrom_some _ _ _ (.inl q)⟩
 refine codeAny_call_function hr.depth (KX _ _ lk) rfl S.co S.gen rfl (PySem.W.codeRec_of KX hcd) (hb _ _ _ _ ?_)
 refine wpAny_newFunctionEnv_cells S.kind hkind λenv he s1 x=>?_
 subst he
 refine⟨lim.keeps x.toInCall.keep,codeAny_func ?_⟩
 obtain⟨t,ht,hq⟩:=hbody A outer s H vs Q E (hr.deeper _) ym
 have I:Inv (eX CX P w K mg base N qual scope f cdv A outer s H E) [] (start N vs) H s1:=lT S hr.hd e0 hl r x
 refine wpAny_mono (ht [] s1 (start N vs) H _ I hq) (λfl s' hs=>?_) λe s' hs=>hs
 have fin:∀{σ':St} {H':Hp} {v:V} {u:Value},Inv (eX CX P w K mg base N qual scope f cdv A outer s H E) [] σ' H' s'->RelV v u->Q v H'->CE outer P w H s Q u s':=
  λ{σ' H' v u} J rv q=>⟨v,H',J.os,J.bare,J.base,J.hok,rv,q⟩
 cases fl with
 |ret u=>
  obtain⟨v,σ',H',J,rv,q⟩:=hs
  exact fin J rv q
 |next=>
  obtain⟨σ',H',J,q⟩:=hs
  exact fin (v:=V.aZ) (u:=Value.none) J rfl q
 |brk=>
  obtain⟨_,_,_,q⟩:=hs
  exact False.elim q
 |cont=>
  obtain⟨_,_,_,q⟩:=hs
  exact False.elim q
end L2
namespace L2
open PySem PySem.Spec PyProof.Rows
section
variable{X:Cx}{x:Str}{p pos:Pos}{e:Expr}{es:List Expr}{t:TA}{id T:String}{r:List V->Hp->VK->Prop}
end
end L2
namespace HT
open PySem PyProof.Rows
def lexLt:List Int->List Int->Bool
 |[],[]=>false
 |[],_::_=>true
 |_::_,[]=>false
 |x::xs,y::ys=>if x=y then lexLt xs ys else decide (x<y)
theorem fB(x y:Int)(xs ys:List Int):lexLt (x::xs) (y::ys)=if x=y then lexLt xs ys else decide (x<y):=rfl
theorem eg:lexLt [] []=false:=rfl
theorem gA(y:Int)(ys:List Int):lexLt [] (y::ys)=true:=rfl
theorem gB(x:Int)(xs:List Int):lexLt (x::xs) []=false:=rfl
theorem oA(A:Around)(s:Shared)(a:Int)(t:Tok)(c:Int)(u:Tok):∃e,SeqAt.EqAt A s (.int a t) (.int c u) e/\(e=true↔a=c):=
 ⟨(a==c),SeqAt.EqAt.int_int a t c u,by simp⟩
theorem tS(A:Around)(s:Shared)(a:Int)(t:Tok)(c:Int)(u:Tok)(prog:Program)(w:World)(E:Value->Shared->Prop)(Q:Value->Shared->Prop)(h:Q (.bool (decide (a<c))) s) :
 wpAny (model prog w) A (richCompare .Lt (.int a t) (.int c u)) Q E s:=
 (PyProof.Rows.lt_int h:wpAny (model prog w) A (compareOp .Lt (.int a t) (.int c u)) Q E s)
section
open PySem.SeqAt
open PySem.AutoSeq1 (wpAny_loadPart')
open PySem.MeetsSeq PySem.MeetsSeq2 PySem.MeetsSeq3
theorem k6(l b:Addr)(items items2:Array Value)(n n2:Nat)(dd dd2:Option Addr)(sl sl2:Array (Option Value))(ns ms:List Int)(hi:IntsAre items.toList ns)(hj:IntsAre items2.toList ms) :
 Meets (Builtin.«tuple.__lt__» ⟨[.ref l,.ref b],[]⟩)
  (λ_ R s=>s.heap.get? l=some {cls:= .type "tuple",dict:=dd,data:= .seq items n,slots:=sl}/\s.heap.get? b=some {cls:= .type "tuple",dict:=dd2,data:= .seq items2 n2,slots:=sl2}/\
   R (.ok (.ret (.bool (lexLt ns ms)))) s):=
 .of_wp λprog w A R s h=>by
  obtain⟨hp,g,d,tk,os⟩:=s;obtain⟨hl,hb,h⟩:=h
  have f2:=AutoSeq1.sub_tuple_tuple
  have z1:items.size=ns.length:=by rw[<-hi.length];simp
  have z2:items2.size=ms.length:=by rw[<-hj.length];simp
  wp_walk using wpAny_loadPart' hl,wpAny_loadPart' hb,wpAny_forIn_list _ (λrest b s'=>b.1=none/\s'= ⟨hp,g,d,tk,os⟩/\∃(vs ws:List Value) (ns' ms':List Int),rest=vs.zip ws/\
   IntsAre vs ns'/\IntsAre ws ms'/\ns'.length+items2.size=ms'.length+items.size/\R (.ok (.ret (.bool (lexLt ns' ms')))) ⟨hp,g,d,tk,os⟩) _
  case turn=>
   rintro⟨y,x⟩ rest b s' ⟨hb',rfl,vs,ws,ns',ms',hz,tT,hwi,hlen,hR⟩
   cases tT with
   |nil=>rw[J0]at hz;cases hz
   |cons a t tU=>
    cases hwi with
    |nil=>rw[JJ]at hz;cases hz
    |cons c u tV=>
     rw[Jl]at hz
     injection hz with hyx hrest
     injection hyx with hy hx
     subst hy hx
     rw[fB]at hR
     simp only[IL]at hlen
     obtain⟨e,he,hiff⟩:=oA A.in1 ⟨hp,g,d,tk,os⟩ a t c u
     refine wpAny_bind (he prog w _ _ ?_)
     cases e with
     |true=>
      rw[if_pos (hiff.mp rfl)]at hR
      wp_walk
      exact⟨rfl,rfl,_,_,_,_,hrest,tU,tV,by omega,hR⟩
     |false=>
      rw[if_neg (λq=>absurd (hiff.mpr q) Iv)]at hR
      have BC:=tS A.in1 ⟨hp,g,d,tk,os⟩ a t c u prog w
      wp_walk using BC
      exact⟨_,rfl,by simpa using hR⟩
  case fin=>
   rintro⟨b1,b2⟩ s' ⟨hb',rfl,vs,ws,ns',ms',hz,tT,hwi,hlen,hR⟩
   simp only at hb'
   subst hb'
   have hv:lexLt ns' ms'=decide (items.size<items2.size):=by
    cases tT with
    |nil=>
     cases hwi with
     |nil=>
      simp only[IZ]at hlen
      rw[eg]
      exact(decide_eq_false (by omega)).symm
     |cons c u hw=>
      simp only[IZ,IL]at hlen
      rw[gA]
      exact(decide_eq_true (by omega)).symm
    |cons a t hv=>
     cases hwi with
     |nil=>
      simp only[IZ,IL]at hlen
      rw[gB]
      exact(decide_eq_false (by omega)).symm
     |cons c u hw=>
      rw[Jl]at hz
      cases hz
   rw[hv]at hR
   wp_walk
   exact⟨_,rfl,by simpa[Builtin.Tuple.tupleCompareSizes]using hR⟩
  case h=>
   exact⟨rfl,rfl,items.toList,items2.toList,ns,ms,rfl,hi,hj,by omega,h⟩
end
section
variable{prog:Program}{w:World}{A:Around}{E:Value->Shared->Prop}{s:Shared}
theorem iC{l b:Addr}{items items2:Array Value}{ns ms:List Int}{Q:Value->Shared->Prop}(hl:IsTup s.heap l items)(hb:IsTup s.heap b items2)(hi:IntsAre items.toList ns)(hj:IntsAre items2.toList ms)
 (hu:A.units<cLine)(h:Q (.bool (lexLt ns ms)) s):wpAny (model prog w) A (compareOp .Lt (.ref l) (.ref b)) Q E s:=by
 obtain⟨⟨cls,dd,data,sl⟩,ho,hc,n,hd⟩:=id hl
 obtain⟨⟨BD,dd2,data2,sl2⟩,ho2,hc2,n2,hd2⟩:=id hb
 simp only at hc hd hc2 hd2
 subst hc hd hc2 hd2
 exact richCompare_meets_room (op:= .Lt) ⟨_,ho,rfl⟩ ⟨_,ho2,rfl⟩ PySem.F.slot_tuple_lt PySem.F.entry_tuple_lt (PySem.F.args_tuple_lt_2 _ _) (k6 l b items items2 n n2 dd dd2 sl sl2 ns ms hi hj)
  ⟨ho,ho2,show Value.bool (lexLt ns ms)≠Value.notImplemented/\Q (.bool (lexLt ns ms)) s from⟨(λx=>nomatch x),h⟩⟩ hu
def jV(n d:Nat):Option Int->Nat
 |none=>d
 |some v=>if v<0 then(v+(n:Int)).toNat else min v.toNat n
theorem oB(n d:Nat):jV n d none=d:=rfl
theorem qH(n d k:Nat):jV n d (some (k:Int))=min k n:=by
 show(if(k:Int)<0 then((k:Int)+(n:Int)).toNat else min (k:Int).toNat n)=min k n
 rw[if_neg (by omega),J1]
end
end HT
namespace L2
open PySem PySem.Spec PyProof.Rows
abbrev TO:=St->Hp->(Option Int->Hp->Prop)->Prop
def PO(X:Cx)(e:Option Expr)(t:TO):Prop:=
 ∀(pins:List (Addr ×Obj)) (s:Shared) (σ:St) (H:Hp) (Q:Option Int->Hp->Prop),Inv X pins σ H s->t σ H Q->
  wpAny (model X.prog X.w) X.A (evalPart e X.env) (λu s'=>∃o H',Inv X pins σ H' s'/\IsPart u o/\Q o H') X.xe s
def qI:TO:=λ_ H Q=>Q none H
def yo(t:TE):TO:=λσ H Q=>t σ H λx H1=>∃i,x= .int i/\Q (some i) H1
theorem intsAre_of{ns:List Int}:∀{us:List Value},Vals (ns.map V.int) us->IntsAre us ns:=by
 induction ns with
 |nil=>intro us r;rw[List.map_nil]at r;cases r;exact .nil
 |cons n ns ih=>
  intro us r
  rw[IP]at r
  cases r with
  |cons r1 r2=>
   obtain⟨t,e⟩:=r1
   subst e
   exact .cons n t (ih r2)
section
variable{X:Cx}{e:Expr}{te:TE}{lo hi:Option Expr}{tl th:TO}{pos p2:Pos}
theorem wk:PO X none qI:=by
 intro pins s σ H Q I h
 rw[evalPart_none]
 exact wpAny_pure ⟨none,H,I,.none,h⟩
theorem wm(h:PE X e te):PO X (some e) (yo te):=by
 intro pins s σ H Q I hw
 rw[evalPart_some]
 refine bU (h pins s σ H _ I hw) λu s1 ⟨x,H1,I1,r1,q1⟩=>?_
 obtain⟨i,rfl,q⟩:=q1
 obtain⟨t,rfl⟩:=r1
 exact⟨some i,H1,I1,.int i t,q⟩
def Fq(X:Cx)(r:V->Option Int->Option Int->Hp->VK->Prop):Prop:=
 ∀(pins:List (Addr ×Obj)) (s:Shared) (σ:St) (H:Hp) (x:V) (v vl vu:Value) (lo hi:Option Int) (sl:Addr) (Q:VK),Inv X pins σ H s->RelV x v->s.heap.IsSliceOf sl vl vu .none->IsPart vl lo->IsPart vu hi->r x lo hi H Q->
  ∃T id,typeLookup (.type T) "__getitem__" =pure (some (.builtin id))/\s.TypeIs v T/\wpAny (model X.prog X.w) X.A (getItem v (.ref sl)) (EP X pins σ Q) X.xe s
def GC(r:V->Option Int->Option Int->Hp->VK->Prop)(te:TE)(tl th:TO):TE:=λσ H Q=>te σ H λx H1=>tl σ H1 λl H2=>th σ H2 λu H3=>r x l u H3 Q
theorem tW{r:V->Option Int->Option Int->Hp->VK->Prop}(hr:Fq X r)(he:PE X e te)(hl:PO X lo tl)(hu:PO X hi th):PE X (.Subscript e (.Slice lo hi none p2) pos) (GC r te tl th):=by
 intro pins s σ H Q I h
 refine Subscript_ (bU (he pins s σ H _ I h) λv s1 ⟨x,H1,I1,r1,q1⟩=>?_)
 refine wpAny_Slice (bU (hl pins s1 σ H1 _ I1 q1) λvl s2 ⟨l,H2,I2,pl,q2⟩=>bU (hu pins s2 σ H2 _ I2 q2) λvu s3 ⟨u,H3,I3,pu,q3⟩=>?_)
 rw[evalPart_none]
 refine wpAny_pure ?_
 have I4:Inv X pins σ H3 {s3 with heap:=s3.heap.push {cls:= .type "slice",data:= .fields #[vl,vu,.none]}}:=I3.kept (t':=s3.toks) λb ob q=>Heap.get?_push_of_some _ q
 obtain⟨T,id,hT,ht,hg⟩:=hr pins {s3 with heap:=s3.heap.push {cls:= .type "slice",data:= .fields #[vl,vu,.none]}} σ H3 x v vl vu l u s3.heap.objs.size Q I4 r1 (Heap.IsSliceOf.new ..) pl pu q3
 show wpAny (model X.prog X.w) X.A (subscriptTail e (.Slice lo hi none p2) v (.ref s3.heap.objs.size)) (EP X pins σ Q) X.xe {s3 with heap:=s3.heap.push {cls:= .type "slice",data:= .fields #[vl,vu,.none]}}
 exact tail_any (ops:=[.ref s3.heap.objs.size,v]) ht hT hg (by with_unfolding_all rfl)
def wo(xs:List V)(lo hi:Option Int):List V:=(xs.drop (HT.jV xs.length 0 lo)).take (HT.jV xs.length xs.length hi-HT.jV xs.length 0 lo)
theorem oE(xs:List V)(lo hi:Option Int):(wo xs lo hi).length<=xs.length:=by
 unfold wo
 rw[Jg,JO]
 omega
def BE(K:PySem.W.Frag):R2:=λx y H Q=>∃a b ns ms,x= .ref a/\y= .ref b/\tM K H a (ns.map V.int)/\tM K H b (ms.map V.int)/\Q (.bl (HT.lexLt ns ms)) H
end
end L2
namespace L2
open PySem PySem.Spec PyProof.Rows
def yp(n:Nat)(i:Int):Option Nat:=if 0<=i then(if i<n then some i.toNat else none)else if -(n:Int)<=i then some (i+n).toNat else none
def oG{α:Type}(xs:List α)(i:Int):Option α:=(yp xs.length i).bind λj=>xs[j]?
theorem wu{n:Nat}{i:Int}{j:Nat}(h:yp n i=some j):seqIndex? i n=some j/\j<n/\ -(n:Int)<=i/\i<n:=by
 unfold yp at h
 by_cases h0:0<=i
 ·rw[if_pos h0]at h
  by_cases h1:i<n
  ·rw[if_pos h1]at h
   have e:i.toNat=j:=Option.some.inj h
   exact⟨by rw[seqIndex_of h0 h1,e],by omega,by omega,h1⟩
  ·rw[if_neg h1]at h;cases h
 ·rw[if_neg h0]at h
  by_cases h1: -(n:Int)<=i
  ·rw[if_pos h1]at h
   have e:(i+n).toNat=j:=Option.some.inj h
   exact⟨by rw[seqIndex_neg (by omega) h1,e],by omega,h1,by omega⟩
  ·rw[if_neg h1]at h;cases h
theorem qJ{α:Type}{xs:List α}{i:Int}{v:α}(h:oG xs i=some v):∃j,seqIndex? i xs.length=some j/\xs[j]?=some v/\j<xs.length/\ -(xs.length:Int)<=i/\i<xs.length:=by
 unfold oG at h
 cases e:yp xs.length i with
 |none=>rw[e]at h;cases h
 |some j=>
  rw[e]at h
  obtain⟨h1,h2,h3,h4⟩:=wu e
  exact⟨j,h1,h,h2,h3,h4⟩
theorem bQ{α:Type}{xs:List α}{j:Nat}{v:α}(h:xs[j]?=some v):oG xs (j:Int)=some v:=by
 have hj:j<xs.length:=(IC.mp h).1
 have e:yp xs.length (j:Int)=some j:=by
  unfold yp
  rw[if_pos (by omega),if_pos (by omega)];simp
 unfold oG;rw[e];exact h
def mS(b:Expr):Prop:= ∀o i,subscripted b false o i=operate [o,i] (getItem o i)
def yq(X:Cx)(r:R2):Prop:=
 ∀(value slice:Expr) (pins:List (Addr ×Obj)) (s:Shared) (σ:St) (H:Hp) (x y:V) (v u:Value) (Q:VK),Inv X pins σ H s->RelV x v->RelV y u->r x y H Q->
  subscripted slice false v u=operate [v,u] (getItem v u)->wpAny (model X.prog X.w) X.A (subscriptTail value slice v u) (EP X pins σ Q) X.xe s
def GD(X:Cx)(id:String)(r:V->List V->Hp->VK->Prop):Prop:=
 ∀(pins:List (Addr ×Obj)) (s:Shared) (σ:St) (H:Hp) (x:V) (xs:List V) (v:Value) (us:List Value) (Q:VK),Inv X pins σ H s->RelV x v->Vals xs us->r x xs H Q->
  wpAny (model X.prog X.w) X.A (call (.builtin id) (v::us)) (EP X pins σ Q) X.xe s
section
variable{X:Cx}{a b:Expr}{ta tb:TE}{pos:Pos}
theorem yq.or{r r':R2}(h:yq X r)(h':yq X r'):yq X (λx y H Q=>r x y H Q\/r' x y H Q):=by
 intro value slice pins s σ H x y v u Q I rx ry q hs
 rcases q with q|q
 ·exact h value slice pins s σ H x y v u Q I rx ry q hs
 ·exact h' value slice pins s σ H x y v u Q I rx ry q hs
theorem yr{r:R2}(hr:yq X r)(ha:PE X a ta)(hb:PE X b tb)(hs:mS b):PE X (.Subscript a b pos) (Gx r ta tb):=by
 intro pins s σ H Q I h
 exact Subscript_ (DY ha hb I h λv u s2 x y H2 I2 rx ry q=>hr a b pins s2 σ H2 x y v u Q I2 rx ry q (hs _ _))
def D4(K:PySem.W.Frag):R2:=λx y H Q=>∃p xs i v,x= .ref p/\y= .int i/\gY K H p xs/\oG xs i=some v/\Q v H
def D5(K:PySem.W.Frag):R2:=λx y H Q=>∃p xs i v,x= .ref p/\y= .int i/\tM K H p xs/\oG xs i=some v/\Q v H
theorem wz:yq X (D4 X.K):=by
 intro value slice pins s σ H x y v u Q I rx ry h hs
 obtain⟨p,xs,i,z,rfl,rfl,hq,he,q⟩:=h
 cases rx
 obtain⟨t,rfl⟩:=ry
 obtain⟨its,r,pl,hz⟩:=I.list hq
 obtain⟨j,h1,h2,h3,h4,h5⟩:=qJ he
 obtain⟨w,ew,rw'⟩:=r.get h2
 have hl:=r.length
 have hn:=pP
 have fin:EP X pins σ Q w s:=⟨z,H,I,rw',q⟩
 by_cases h0:0<=i
 ·have hj:i.toNat=j:=by
   rw[seqIndex_of h0 h5]at h1
   exact Option.some.inj h1
  exact item_listR pl.isList h0 (by omega) (by rw[hj];simpa using ew) fin hs
 ·have hj:(i+(its.toArray.size:Int)).toNat=j:=by
   rw[seqIndex_neg (by omega) h4]at h1
   rw[IA,<-hl]
   exact Option.some.inj h1
  exact subscriptTail_builtinR (x:=w) pl.isList.typeIs slot_list_getitem.lookup
   (wpAny_getItem_list_neg (Q:=λr s'=>r=w/\EP X pins σ Q r s') pl.isList (by omega) (by rw[IA]<;>omega) (by omega) (by rw[hj];simpa using ew) ⟨rfl,fin⟩) hs
theorem zB:yq X (D5 X.K):=by
 intro value slice pins s σ H x y v u Q I rx ry h hs
 obtain⟨p,xs,i,z,rfl,rfl,hq,he,q⟩:=h
 cases rx
 obtain⟨t,rfl⟩:=ry
 obtain⟨its,r,pl,hz⟩:=I.tuple hq
 obtain⟨j,h1,h2,h3,h4,h5⟩:=qJ he
 obtain⟨w,ew,rw'⟩:=r.get h2
 have hl:=r.length
 have hn:=pP
 have fin:EP X pins σ Q w s:=⟨z,H,I,rw',q⟩
 exact subscriptTail_builtinR (x:=w) pl.typeIs slot_tuple_getitem.lookup
  (getItem_tuple (j:=j) (Q:=λr s'=>r=w/\EP X pins σ Q r s') pl (by omega) (by omega) (by rw[IA,<-hl];exact h1) (by simpa using ew) ⟨rfl,fin⟩) hs
theorem mT(lo hi:Option Int)(n:Nat):(sliceBounds lo hi none n).1=((HT.jV n 0 lo:Nat):Int)/\(sliceBounds lo hi none n).2.1=((HT.jV n n hi:Nat):Int)/\(sliceBounds lo hi none n).2.2=1:=by
 refine⟨?_,?_,rfl⟩
 ·cases lo with
  |none=>simp[sliceBounds,HT.jV]
  |some i=>
   simp only[sliceBounds,HT.jV,KC,show(1:Int)>0 by decide,if_true]
   by_cases h:i<0
   ·simp only[h,if_true]<;>omega
   ·simp only[h,if_false]<;>omega
 ·cases hi with
  |none=>simp[sliceBounds,HT.jV]
  |some i=>
   simp only[sliceBounds,HT.jV,KC,show(1:Int)>0 by decide,if_true]
   by_cases h:i<0
   ·simp only[h,if_true]<;>omega
   ·simp only[h,if_false]<;>omega
theorem k7(its:List Value)(lo hi:Option Int):slicePick its.toArray lo hi none=((its.drop (HT.jV its.length 0 lo)).take (HT.jV its.length its.length hi-HT.jV its.length 0 lo)).toArray:=by
 obtain⟨h1,h2,h3⟩:=mT lo hi its.toArray.size
 unfold slicePick
 rw[h1,h2,h3]
 simp only[sliceRange_one,pick_run,IA]<;>rfl
def D6(K:PySem.W.Frag):V->Option Int->Option Int->Hp->VK->Prop:=λx lo hi H Q=>∃a xs,x= .ref a/\gY K H a xs/\∀p,H p=none->Q (.ref p) (upd H p (.lst (wo xs lo hi)))
theorem wA:Fq X (D6 X.K):=by
 intro pins s σ H x v vl vu lo hi sl Q I rx hs pl pu h
 obtain⟨a,xs,rfl,hx,q⟩:=h
 cases rx
 obtain⟨its,r,ht,hz⟩:=I.list hx
 have hlen:=r.length
 refine⟨"list",_,slot_list_getitem.lookup,ht.isList.typeIs,?_⟩
 refine wpAny_getItem_list_slice ht.isList hs pl pu .none (by simp) ?_ (by rw[IA]<;>omega)
 rw[k7,<-hlen]
 refine⟨.ref s.heap.objs.size,_,I.laid (t':=s.toks) (o:= .lst (wo xs lo hi)) (λb ob q=>Heap.get?_push_of_some _ q) (Iu _) ?_,rfl,q _ (I.hok.fresh (Iu _))⟩
 exact⟨Jp (oE xs lo hi) hz,_,0,(r.drop (HT.jV xs.length 0 lo)).take (HT.jV xs.length xs.length hi-HT.jV xs.length 0 lo),Heap.get?_push_size _ rfl⟩
theorem mU:ow X (.builtin "len") (λxs H Q=>∃p ys,xs=[.ref p]/\(gY X.K H p ys\/tM X.K H p ys)/\Q (.int ys.length) H):=by
 intro pins s σ H xs us Q I r h
 obtain⟨p,ys,rfl,hq,q⟩:=h
 obtain⟨u,rfl,rx⟩:=vals1 r
 cases rx
 have hn:=pP
 rcases hq with hq|hq
 ·obtain⟨its,r',pl,hz⟩:=I.list hq
  have hlen:=r'.length
  exact Calls.call_len_list pl.isList (by simp only[IA]<;>omega) ⟨.int ys.length,H,I.tok _,⟨s.toks+1,by rw[IA,hlen]⟩,q⟩
 ·obtain⟨its,r',pl,hz⟩:=I.tuple hq
  have hlen:=r'.length
  exact len_tuple pl (by simp only[IA]<;>omega) ⟨.int ys.length,H,I.tok _,⟨s.toks+1,by rw[IA,hlen]⟩,q⟩
theorem mV:ow X (.type "list") (λxs H Q=>∃p ys,xs=[.ref p]/\(gY X.K H p ys\/tM X.K H p ys)/\∀l,H l=none->Q (.ref l) (upd H l (.lst ys))):=by
 intro pins s σ H xs us Q I r h
 obtain⟨p,ys,rfl,hq,q⟩:=h
 obtain⟨u,rfl,rx⟩:=vals1 r
 cases rx
 have fin:∀(its:List Value),Vals ys its->ys.length<=sizeLine->∀(h':Heap) (c':Nat),(∀b o',s.heap.get? b=some o'->h'.get? b=some o')->
  h'.get? s.heap.objs.size=some {cls:= .type "list",dict:=none,data:= .seq its.toArray c',slots:= #[]}->EP X pins σ Q (.ref s.heap.objs.size) {s with heap:=h'}:=λits r' hz h' c' kp e=>
  ⟨.ref s.heap.objs.size,_,I.laid (t':=s.toks) kp (Iu _) (show bE X.prog X.w _ h' _ (.lst ys)from⟨hz,its,c',r',e⟩),rfl,q _ (I.hok.fresh (Iu _))⟩
 rcases hq with hq|hq
 ·obtain⟨its,r',pl,hz⟩:=I.list hq
  have hlen:=r'.length
  obtain⟨o,ho,hc,n,hd⟩:=pl.isList
  exact call_list_seq p (.inl rfl) ho hc hd (λh' c' kp e=>fin its r' hz h' c' kp e) (by simp only[IA]<;>omega)
 ·obtain⟨its,r',pl,hz⟩:=I.tuple hq
  have hlen:=r'.length
  obtain⟨o,ho,hc,n,hd⟩:=pl
  exact call_list_seq p (.inr rfl) ho hc hd (λh' c' kp e=>fin its r' hz h' c' kp e) (by simp only[IA]<;>omega)
def Ft(K:PySem.W.Frag)(T:String)(x:V)(H:Hp):Prop:=match x with
 | .str _=>T= "str"
 | .int _=>T= "int"
 | .ref p=>(T= "list"/\∃xs,gY K H p xs)\/(T= "tuple"/\∃o,K.lookup p=some o/\o.cls= .type "tuple"/\o.dict=none)\/
  (T= "dict"/\((∃kvs,H p=some (.dK kvs))\/∃kvs,H p=some (.dT kvs)))\/(T= "set"/\∃S n,H p=some (.set S n))
 |_=>False
theorem zC{pins:List (Addr ×Obj)}{σ:St}{H:Hp}{s:Shared}{T:String}{x:V}{v:Value}(I:Inv X pins σ H s)(r:RelV x v)(ty:Ft X.K T x H) :
 s.TypeIs v T/\∀a,v= .ref a->∃ob,s.heap.get? a=some ob/\ob.dict=none:=by
 cases x with
 |str z=>
  obtain⟨t,rfl⟩:=r
  cases(show T= "str" from ty)
  exact⟨typeIs_str s z t,λ_ e=>nomatch e⟩
 |int i=>
  obtain⟨t,rfl⟩:=r
  cases(show T= "int" from ty)
  exact⟨typeIs_int s i t,λ_ e=>nomatch e⟩
 |ref p=>
  cases r
  rcases ty with⟨rfl,xs,hq⟩|⟨rfl,o,hk,hc,hd⟩|⟨rfl,hk⟩|⟨rfl,S,n,hk⟩
  ·obtain⟨its,_,pl,_⟩:=I.list hq
   refine⟨pl.isList.typeIs,λa e=>?_⟩
   cases e
   obtain⟨o,n,e,c,hd,_⟩:=pl
   exact⟨o,e,hd⟩
  ·refine⟨⟨o,I.n6 p o hk,hc⟩,λa e=>?_⟩
   cases e
   exact⟨o,I.n6 _ o hk,hd⟩
  ·have z:∃o,s.heap.get? p=some o/\o.ExactDict:=by
    rcases hk with⟨kvs,hk⟩|⟨kvs,hk⟩
    ·obtain⟨_,_,_,_,o,_,_,e,ex,_⟩:=I.hok p _ hk
     exact⟨o,e,ex⟩
    ·obtain⟨_,_,_,_,o,_,_,e,ex,_⟩:=I.hok p _ hk
     exact⟨o,e,ex⟩
   obtain⟨o,e,ex⟩:=z
   refine⟨⟨o,e,ex.1⟩,λa e2=>?_⟩
   cases e2
   exact⟨o,e,ex.2.1⟩
  ·obtain⟨o,_,_,_,e,ex,_⟩:=I.hok p _ hk
   refine⟨⟨o,e,ex.1⟩,λa e2=>?_⟩
   cases e2
   exact⟨o,e,ex.2.1⟩
 |_=>exact False.elim ty
def D7(K:PySem.W.Frag)(T:String)(r:V->List V->Hp->VK->Prop)(to:TE)(t:TA):TE:=λσ H Q=>to σ H λx H1=>Ft K T x H1/\t σ H1 λxs H2=>r x xs H2 Q
variable{o e:Expr}{es:List Expr}{to:TE}{t:TA}{name:Str}{apos cpos:Pos}{T id:String}{r:V->List V->Hp->VK->Prop}
theorem tX(pa:PlainAttrs T)(slot:Slot T name id)(hty:typeOf (.builtin id)=pure (.type "method_descriptor"))(hm:GD X id r)(ho:PE X o to)(ha:PA X (e::es) t)
 (hbase:attributeBase o name X.env (eval o X.env)=eval o X.env:=by rfl)
 (hfew:((backTo cpos (starEach (e::es) X.env)).all (λx=>!x.1) && (backToKw cpos (keywordEach [] X.env)).all (λx=>x.1.isSome)
  && decide ((e::es).length+([]:List Keyword).length+(if([]:List Keyword).isEmpty then 0 else 1)<30))=true:=by rfl)
 (hline:(apos.endLine==cpos.line)=true:=by rfl)(hs:starEach (e::es) X.env=(false,eval e X.env)::starEach es X.env:=by rfl)(hplain:(backTo cpos (starEach es X.env)).any (·.1)=false:=by rfl) :
 PE X (.Call (.Attribute o name apos) (e::es) [] cpos) (D7 X.K T r to t):=by
 intro pins s σ H Q I h
 refine wpAny_Call_method_late hbase hfew hline rfl (bU (ho pins s σ H _ I h) λv s1 ⟨x,H1,I1,r1,ty,q1⟩=>?_)
 obtain⟨h1,h2⟩:=zC I1 r1 ty
 refine⟨T,id,pa,slot,hty,h1,h2,?_⟩
 have hA:=ha cpos pins s1 σ H1 _ I1 q1
 rw[hs]at hA ⊢
 refine Calls.callWith_builtin (by show(false || (backTo cpos (starEach es X.env)).any (·.1))=false;rw[hplain]<;>rfl) (Calls.evalArgs_plain ?_)
 exact bU hA λus s2 ⟨vs,H2,I2,r2,q2⟩=>hm pins s2 σ H2 x vs v us Q I2 r1 r2 q2
end
end L2
namespace L2
open PySem PySem.Spec PyProof.Rows
def Fv(X:Cx)(id:String)(r:V->List V->Hp->VK->Prop):Prop:=
 ∀(pins:List (Addr ×Obj)) (s:Shared) (σ:St) (H:Hp) (x:V) (xs:List V) (v:Value) (us:List Value) (Q:VK),Inv X pins σ H s->RelV x v->Vals xs us->r x xs H Q->
  wpAny (model X.prog X.w) X.A (call (.builtin id) (v::us)) (EP X pins σ Q) X.xe s
theorem Vals.one:∀{x:V} {us:List Value},Vals [x] us->∃u,us=[u]/\RelV x u
 |_,_,.cons r .nil=>⟨_,rfl,r⟩
section
variable{X:Cx}{pins:List (Addr ×Obj)}{σ:St}{H:Hp}{s:Shared}{l b:Addr}{xs ys zs:List V}
theorem Inv.BF{its its':List Value}{n:Nat}{f:Array Value->Array Value}{t':Nat}(I:Inv X pins σ H s)(hH:H l=some (.lst xs))
 (e:s.heap.get? l=some {cls:= .type "list",data:= .seq its.toArray n})(hf:f its.toArray=its'.toArray)(hv:Vals ys its')(hz:ys.length<=sizeLine) :
 Inv X pins σ (upd H l (.lst ys)) {s with heap:=s.heap.update l (Obj.mapSeq f),toks:=t'}:=by
 have q:=PySem.IsL.update e f
 rw[hf]at q
 refine I.write (x:=l) (e:=l) (by rw[hH];exact trivial) (.inl rfl) (λb' u hb hu=>(Heap.get?_update_other s.heap (Obj.mapSeq f) (Ne.symm hb)).trans hu) ⟨_,q⟩ ?_
 exact⟨hz,its',_,hv,q⟩
theorem Inv.D8{its:List Value}{t':Nat}(I:Inv X pins σ H s)(hv:Vals ys its)(hz:ys.length<=sizeLine) :
 Inv X pins σ (upd H s.heap.objs.size (.lst ys)) {s with heap:=s.heap.push {cls:= .type "list",data:= .seq its.toArray},toks:=t'}:=
 I.laid (λ_ _ q=>Heap.get?_push_of_some _ q) (Iu _) ⟨hz,its,0,hv,Heap.get?_push_size _ rfl⟩
theorem Inv.fresh(I:Inv X pins σ H s):H s.heap.objs.size=none:=I.hok.fresh (Iu _)
theorem Inv.tY(I:Inv X pins σ H s)(hH:H l=some (.lst xs)):xs.length<=sizeLine/\∃(its:List Value) (n:Nat),Vals xs its/\xs.length=its.length/\s.heap.get? l=some {cls:= .type "list",data:= .seq its.toArray n}:=by
 obtain⟨z,its,n,r,e⟩:=I.hok l _ hH
 exact⟨z,its,n,r,r.length,e⟩
theorem tZ{n:Nat}(h:n<=sizeLine):Builtin.List.listTooLong n=false:=by
 unfold Builtin.List.listTooLong
 exact decide_eq_false (by omega)
end
section
variable{X:Cx}
def qK:V->List V->Hp->VK->Prop:=λx vs H Q=>∃l xs y,x= .ref l/\vs=[y]/\H l=some (.lst xs)/\xs.length<sizeLine/\Q .aZ (upd H l (.lst (xs++[y])))
theorem i9:Fv X "list.append" qK:=by
 intro pins s σ H x vs v us Q I rx rv h
 obtain⟨l,xs,y,rfl,rfl,hH,hz,q⟩:=h
 cases rx
 obtain⟨u,rfl,ru⟩:=rv.one
 obtain⟨z,its,n,r,hl,e⟩:=I.tY hH
 refine call_meets F.slot_list_append ⟨_,e,rfl⟩ F.entry_list_append (F.args_list_append_2 _ _) (PySem.list_append l its.toArray n u (by rw[IA];omega)) ⟨e,?_⟩
 refine⟨.aZ,_,I.BF (its':=its++[u]) hH e (by simp) (r.append (.cons ru .nil)) ?_,rfl,q⟩
 rw[IX,List.length_singleton]
 omega
def qL:V->List V->Hp->VK->Prop:=λx vs H Q=>∃l b xs zs,x= .ref l/\vs=[.ref b]/\H l=some (.lst xs)/\H b=some (.lst zs)/\xs.length+zs.length<=sizeLine/\Q .aZ (upd H l (.lst (xs++zs)))
theorem rV:Fv X "list.extend" qL:=by
 intro pins s σ H x vs v us Q I rx rv h
 obtain⟨l,b,xs,zs,rfl,rfl,hH,hB,hz,q⟩:=h
 cases rx
 obtain⟨u,rfl,ru⟩:=rv.one
 cases ru
 obtain⟨z,its,n,r,hl,e⟩:=I.tY hH
 obtain⟨z2,its2,n2,r2,hl2,e2⟩:=I.tY hB
 have hsz:its.toArray.size+its2.toArray.size<=sizeLine:=by rw[IA,IA];omega
 have BG:¬(!its.toArray.isEmpty && Builtin.List.listTooLong (its.toArray.size+its2.toArray.size))=true:=by
  rw[tZ hsz,KU]
  exact Iv
 refine call_meets F.slot_list_extend ⟨_,e,rfl⟩ F.entry_list_extend (F.args_list_extend_2 _ _)
  (AutoSeq1.list_extend_list_list_0 l its.toArray n b its2.toArray n2 BG (by rw[IA];omega) (by omega)) ⟨e,e2,?_⟩
 refine⟨.aZ,_,I.BF (its':=its++its2) hH e (by simp) (r.append r2) ?_,rfl,q⟩
 rw[IX]
 omega
def D9:R2:=λx y H Q=>∃l b xs zs,x= .ref l/\y= .ref b/\H l=some (.lst xs)/\H b=some (.lst zs)/\xs.length+zs.length<=sizeLine/\∀p,H p=none->Q (.ref p) (upd H p (.lst (xs++zs)))
theorem zD:pH X (binaryOp .Add) D9:=by
 intro pins s σ H x y v u Q I rx ry h
 obtain⟨l,b,xs,zs,rfl,rfl,hH,hB,hz,q⟩:=h
 cases rx
 cases ry
 obtain⟨z,its,n,r,hl,e⟩:=I.tY hH
 obtain⟨z2,its2,n2,r2,hl2,e2⟩:=I.tY hB
 refine PySem.P.add_list e e2 ?_ (by rw[IA,IA];omega)
 have ea:its.toArray++its2.toArray=(its++its2).toArray:=by simp
 rw[ea]
 exact⟨.ref _,_,I.D8 (t':=s.toks) (r.append r2) (by rw[IX];omega),rfl,q _ I.fresh⟩
end
section
variable{prog:Program}{w:World}{A:Around}{E:Value->Shared->Prop}{s:Shared}
end
section
variable{X:Cx}
end
end L2
namespace Att
open PySem PySem.W PySem.Calls PyProof.Rows
theorem jw{P:Params}{h:Heap}:∀(ns:List Int) (vs:List Value),WellAll P h vs (ns.map WData.int)->IntsAre vs ns:=by
 intro ns
 induction ns with
 |nil=>
  intro vs w
  rw[List.map_nil]at w
  cases w
  exact .nil
 |cons n ns ih=>
  intro vs w
  rw[IP]at w
  cases w with
  |cons a b=>
   cases a
   exact .cons _ _ (ih _ b)
theorem rW{l:OpenLaw}{n:Nat}(hn:l.most=some n){P:Params}{h:Heap}{args:List WData}{vals:List Value}
 (hpre:l.row.toRowW.claim.pre args=true)(hwl:WellAll P h vals args) :
 ∃a vs ns,vals=[Value.ref a]/\args=[WData.list (ns.map WData.int)]/\h.get? a=some {cls:= .type "list",data:= .seq vs.toArray}/\IntsAre vs ns/\ns.length<=n:=by
 have hsh:WShape.hasAll [] args [.list .int]=true:=(pre_splitW hpre).1
 have hc:l.pre.holds [] {args:=args}=true:=(pre_splitW hpre).2
 obtain⟨d,r,rfl,h1,h2⟩:=hasAllW_cons hsh
 obtain rfl:=hasAllW_nil h2
 obtain⟨xs,rfl,h3⟩:=hasW_list h1
 obtain⟨ns,rfl⟩:=items_int h3
 have hlen:ns.length<=n:=by
  unfold OpenLaw.pre at hc
  have h4:(WTm.not (.lt (.lit (.int (n:Int))) (.len (.arg 0)))).holds [] {args:=[.list (ns.map .int)]}=true:=by
   have h4:=(holds_andW hc).1
   rw[hn]at h4
   exact h4
  have h5:=condW_of h4 (w_not (w_lt w_lit (w_len_list (w_arg rfl))))
  rw[Iw]at h5
  refine Nat.le_of_not_lt λq=>?_
  have q':(n:Int)<((ns.length:Nat):Int):=by omega
  first
   |(rw[decide_eq_true q']at h5;exact absurd h5 (by decide))
   |(simp at h5;omega)
 cases hwl with
 |cons w1 w2=>
  cases w2
  cases w1 with
  |list ho hall=>exact⟨_,_,ns,rfl,rfl,ho,jw ns _ hall,hlen⟩
theorem rX(l:OpenLaw)(args:List WData):l.row.toRowW.claim.post args (.bool true) args=true:=
 postW_of (r:=l.row.toRowW) (X:=(true==true))
  (show WShape.has [] (.bool true) .bool=true by first|rfl|decide|simp[WShape.has,WShape.arms,WShape.armsAll])
  (show(WTm.eq .res (.lit (.bool true))).value [] {args:=args,res:=some (.bool true),after:=args}=some (.bool (true==true))from w_eq_bool (w_res rfl) w_lit) rfl
section
variable{prog:Program}{w:World}{A:Around}{E:Value->Shared->Prop}{s:Shared}{K:Frag}
end
end Att
namespace L2
open PySem PySem.Spec PyProof.Rows
theorem lU:∀{vs:List Value} {ns:List Int},IntsAre vs ns->Vals (ns.map V.int) vs
 |_,_,.nil=> .nil
 |_,_,.cons n t h=> .cons ⟨t,rfl⟩ (lU h)
end L2
namespace L2
open PySem PySem.Spec PyProof.Rows
end L2
namespace L2
open PySem PySem.Spec PyProof.Rows
def gS(s:Stmt):Arguments:=match s with
 | .FunctionDef _ a _ _ _ _ _ _ _ _=>a
 |_=>{posonlyargs:=[],args:=[],vararg:=none,kwonlyargs:=[],kw_defaults:=[],kwarg:=none,defaults:=[]}
def cM(s:Stmt):List Stmt:=match s with
 | .FunctionDef _ _ b _ _ _ _ _ _ _=>b
 |_=>[]
def ay(s:Stmt):Scope:=match s with
 | .FunctionDef _ _ _ _ _ _ sc _ _ _=>sc
 |_=>{kind:= .function,names:=[],isGenerator:=false,isCoroutine:=false}
abbrev dR:wj:=λ_ _ _ _ _ _=>False
abbrev E0:XK:=λ_ _ _=>False
theorem yt{X:Cx}:Passes dR X E0:=λ_ _ _ _ _ _ _ h=>h.elim
structure jx(K:PySem.W.Frag)(x qual:Str)(st:Stmt)(f:Addr)(fd:FuncData):Prop where
 ex:∃(oc:Value) (od:Option Addr) (kV doc pm:Value) (an:Option Addr) (cdv ct:Value) (osl:Array (Option Value)),
  fd=PySem.W.fnOf x qual (gS st) (cM st) (ay st) .none kV doc pm an cdv ct/\K.lookup f=some ⟨oc,od,.func fd,osl⟩/\PySem.W.codeIn K cdv qual=true
 kp:PySem.W.keepIn K (.ref f)=true
section
variable{P:Program}{w:World}{K:PySem.W.Frag}{mg:Str->Option Value}{base:Heap}
theorem jx.ok{x qual:Str}{st:Stmt}{f:Addr}{fd:FuncData}{N ps:List Str}{k:Nat}{sp:Sp}(F:jx K x qual st f fd)(S:aS N ps (ay st))(len:∀vs H Q E,sp vs H Q E->vs.length=ps.length)
 (hbody:∀(cdv:Value) (A:Around) (outer:List Env) (s:Shared) (H:Hp) (vs:List V) (Q:VK) (E:XK),bV k (A.deeper (envOfC qual (ay st) s.heap.objs.size f cdv))->sp vs H Q E->
  ∃t,qD (eX dR P w K mg base N qual (ay st) f cdv A outer s H E).n8 (cM st) t/\t {nx:=λ_ H'=>Q .aZ H',rt:=Q} (start N vs) H):b9 P w K mg base dR (k+1) f fd ps sp:=by
 obtain⟨oc,od,kV,doc,pm,an,cdv,ct,osl,rfl,lk,hcd⟩:=F.ex
 refine yk lk hcd S len λA outer s H vs Q E hr ym=>?_
 obtain⟨t,h,q⟩:=hbody cdv A outer s H vs Q E hr ym
 exact⟨t,h.n8,q⟩
theorem jx.binds{x qual:Str}{st:Stmt}{f:Addr}{fd:FuncData}{ps:List Str}(F:jx K x qual st f fd)
 (h:∀(kV doc pm:Value) (an:Option Addr) (cdv ct:Value) (us:List Value),us.length=ps.length->bindArgs (PySem.W.fnOf x qual (gS st) (cM st) (ay st) .none kV doc pm an cdv ct) ⟨us,[]⟩=pure (ps.zip us)):Binds K fd ps []:=by
 obtain⟨oc,od,kV,doc,pm,an,cdv,ct,osl,rfl,lk,hcd⟩:=F.ex
 exact .all (h kV doc pm an cdv ct)
end
section
variable{X:Cx}
end
theorem bS{c A B:Prop}[Decidable c](h1:c->A)(h2:¬c->B):if c then A else B:=by
 by_cases h:c
 ·rw[if_pos h]
  exact h1 h
 ·rw[if_neg h]
  exact h2 h
end L2
set_option maxHeartbeats 4000000
namespace L3
open PySem PySem.Spec PyProof.Rows L2
abbrev St:=L2.St
inductive D where
 |aZ|bl (b:Bool)|int (i:Int)|str (x:Str)|ty (n:String)|ref (a:Addr)|tup (xs:List D)|pQ (xs:List D)|zE (n:String)|exc (C:Addr) (nm:Str) (xs:List D)
def Kl(K:PySem.W.Frag)(a:Addr)(xs:List V):Prop:=
 ∃(o:Obj) (its:Array Value) (n:Nat),K.lookup a=some o/\o.cls= .type "list"/\o.dict=none/\o.data= .seq its n/\its.size<=sizeLine/\Vals xs its.toList
def Fz(K:PySem.W.Frag)(H:Hp)(a:Addr)(xs:List V):Prop:=(∃o,H a=some (.fZ o (.lst xs)))\/Kl K a xs
theorem Fz.sq{K:PySem.W.Frag}{H:Hp}{a:Addr}{xs:List V}(h:Fz K H a xs):gY K H a xs:=by
 rcases h with⟨o,h⟩|h
 ·exact .inl (.inr ⟨o,h⟩)
 ·exact .inr h
def Xo(H:Hp)(C:Addr)(nm:Str)(o:Obj)(xs:List V):Prop:=(o.cls= .ref C/\∃fs,o.data= .fields fs)/\((xs=[]/\o.dict=none)\/∃dx od vx,xs=[vx]/\o.dict=some dx/\H dx=some (.fZ od (.xd [(nm,vx)])))
mutual
def Dat(K:PySem.W.Frag)(H:Hp):D->V->Prop
 | .aZ,v=>v= .aZ
 | .bl b,v=>v= .bl b
 | .int i,v=>v= .int i
 | .str x,v=>v= .str x
 | .ty n,v=>v= .ty n
 | .ref a,v=>v= .ref a
 | .tup ds,v=>∃a xs,v= .ref a/\H a=some (.tup xs)/\aB K H ds xs
 | .pQ ds,v=>∃a xs,v= .ref a/\Fz K H a xs/\aB K H ds xs
 | .zE n,v=>∃a o u,v= .ref a/\H a=some (.fZ o u)/\o.cls= .type n
 | .exc C nm ds,v=>∃a o u xs,v= .ref a/\H a=some (.fZ o u)/\Xo H C nm o xs/\aB K H ds xs
def aB(K:PySem.W.Frag)(H:Hp):List D->List V->Prop
 |[],xs=>xs=[]
 |d::ds,xs=>∃v vs,xs=v::vs/\Dat K H d v/\aB K H ds vs
end
structure Ext(H H':Hp):Prop where
 tup:∀b xs,H b=some (.tup xs)->H' b=some (.tup xs)
 fZ:∀b o u,H b=some (.fZ o u)->H' b=some (.fZ o u)
theorem Fz.mono{K:PySem.W.Frag}{H H':Hp}{a:Addr}{xs:List V}(e:Ext H H')(h:Fz K H a xs):Fz K H' a xs:=by
 rcases h with⟨o,h⟩|h
 ·exact .inl ⟨o,e.fZ _ _ _ h⟩
 ·exact .inr h
theorem Xo.mono{H H':Hp}{C:Addr}{nm:Str}{o:Obj}{xs:List V}(e:Ext H H')(h:Xo H C nm o xs):Xo H' C nm o xs:=by
 obtain⟨k,h⟩:=h
 rcases h with h|⟨dx,od,vx,e1,e2,e3⟩
 ·exact⟨k,.inl h⟩
 ·exact⟨k,.inr ⟨dx,od,vx,e1,e2,e.fZ _ _ _ e3⟩⟩
mutual
theorem Dat.mono{K:PySem.W.Frag}{H H':Hp}(e:Ext H H'):∀(d:D) (v:V),Dat K H d v->Dat K H' d v
 | .aZ,v,h=>h
 | .bl b,v,h=>h
 | .int i,v,h=>h
 | .str x,v,h=>h
 | .ty n,v,h=>h
 | .ref a,v,h=>h
 | .tup ds,v,h=>by
   obtain⟨a,xs,e1,e2,e3⟩:=(show∃a xs,v= .ref a/\H a=some (.tup xs)/\aB K H ds xs from h)
   have:=aB.mono e ds xs e3
   exact⟨a,xs,e1,e.tup _ _ e2,this⟩
 | .pQ ds,v,h=>by
   obtain⟨a,xs,e1,e2,e3⟩:=(show∃a xs,v= .ref a/\Fz K H a xs/\aB K H ds xs from h)
   have:=aB.mono e ds xs e3
   exact⟨a,xs,e1,e2.mono e,this⟩
 | .zE n,v,h=>by
   obtain⟨a,o,u,e1,e2,e3⟩:=(show∃a o u,v= .ref a/\H a=some (.fZ o u)/\o.cls= .type n from h)
   exact⟨a,o,u,e1,e.fZ _ _ _ e2,e3⟩
 | .exc C nm ds,v,h=>by
   obtain⟨a,o,u,xs,e1,e2,e3,e4⟩:=(show∃a o u xs,v= .ref a/\H a=some (.fZ o u)/\Xo H C nm o xs/\aB K H ds xs from h)
   have:=aB.mono e ds xs e4
   exact⟨a,o,u,xs,e1,e.fZ _ _ _ e2,e3.mono e,this⟩
theorem aB.mono{K:PySem.W.Frag}{H H':Hp}(e:Ext H H'):∀(ds:List D) (xs:List V),aB K H ds xs->aB K H' ds xs
 |[],xs,h=>h
 |d::ds,xs,h=>by
  obtain⟨v,vs,e1,e2,e3⟩:=(show∃v vs,xs=v::vs/\Dat K H d v/\aB K H ds vs from h)
  have h1:=Dat.mono e d v e2
  have h2:=aB.mono e ds vs e3
  exact⟨v,vs,e1,h1,h2⟩
end
section
variable{K:PySem.W.Frag}{H:Hp}
theorem cN{v:V}:Dat K H .aZ v↔v= .aZ:=Iff.rfl
theorem br{b:Bool}{v:V}:Dat K H (.bl b) v↔v= .bl b:=Iff.rfl
theorem aJ{i:Int}{v:V}:Dat K H (.int i) v↔v= .int i:=Iff.rfl
theorem mW{x:Str}{v:V}:Dat K H (.str x) v↔v= .str x:=Iff.rfl
theorem pR{n:String}{v:V}:Dat K H (.ty n) v↔v= .ty n:=Iff.rfl
theorem aO{a:Addr}{v:V}:Dat K H (.ref a) v↔v= .ref a:=Iff.rfl
theorem aP{ds:List D}{v:V}:Dat K H (.tup ds) v↔∃a xs,v= .ref a/\H a=some (.tup xs)/\aB K H ds xs:=Iff.rfl
theorem iN{ds:List D}{v:V}:Dat K H (.pQ ds) v↔∃a xs,v= .ref a/\Fz K H a xs/\aB K H ds xs:=Iff.rfl
theorem qM{n:String}{v:V}:Dat K H (.zE n) v↔∃a o u,v= .ref a/\H a=some (.fZ o u)/\o.cls= .type n:=Iff.rfl
theorem wB{C:Addr}{nm:Str}{ds:List D}{v:V}:Dat K H (.exc C nm ds) v↔∃a o u xs,v= .ref a/\H a=some (.fZ o u)/\Xo H C nm o xs/\aB K H ds xs:=Iff.rfl
theorem aI{xs:List V}:aB K H [] xs↔xs=[]:=Iff.rfl
theorem aF{d:D}{ds:List D}{xs:List V}:aB K H (d::ds) xs↔∃v vs,xs=v::vs/\Dat K H d v/\aB K H ds vs:=Iff.rfl
theorem aB.length:∀{ds:List D} {xs:List V},aB K H ds xs->ds.length=xs.length
 |[],xs,h=>by rw[aI.mp h];rfl
 |d::ds,xs,h=>by
  obtain⟨v,vs,rfl,_,h⟩:=aF.mp h
  simp[aB.length h]
theorem aB.get:∀{ds:List D} {xs:List V} {i:Nat} {d:D},aB K H ds xs->ds[i]?=some d->∃v,xs[i]?=some v/\Dat K H d v
 |[],xs,_,_,_,e=>by simp at e
 |d::ds,xs,i,d',h,e=>by
  obtain⟨v,vs,rfl,h1,h2⟩:=aF.mp h
  cases i with
  |zero=>simp at e;subst e;exact⟨v,rfl,h1⟩
  |succ i=>exact aB.get (i:=i) h2 (by simpa using e)
theorem aB.back:∀{ds:List D} {xs:List V} {i:Nat} {v:V},aB K H ds xs->xs[i]?=some v->∃d,ds[i]?=some d/\Dat K H d v
 |[],xs,i,v,h,e=>by rw[aI.mp h]at e;simp at e
 |d::ds,xs,i,v',h,e=>by
  obtain⟨v,vs,rfl,h1,h2⟩:=aF.mp h
  cases i with
  |zero=>simp at e;subst e;exact⟨d,rfl,h1⟩
  |succ i=>exact aB.back (i:=i) h2 (by simpa using e)
theorem aB.append:∀{ds es:List D} {xs ys:List V},aB K H ds xs->aB K H es ys->aB K H (ds++es) (xs++ys)
 |[],es,xs,ys,h,h'=>by rw[aI.mp h];exact h'
 |d::ds,es,xs,ys,h,h'=>by
  obtain⟨v,vs,rfl,h1,h2⟩:=aF.mp h
  exact aF.mpr ⟨v,vs++ys,rfl,h1,h2.append h'⟩
theorem aB.one{d:D}{v:V}(h:Dat K H d v):aB K H [d] [v]:=aF.mpr ⟨v,[],rfl,h,aI.mpr rfl⟩
end
inductive MO where
 |lst (ds:List D)
 |Ea (kvs:List (List (List Int) ×D))
 |oH (q:Str)
 |gZ (kvs:List (List Int ×D))
abbrev Mp:=Addr->Option MO
def aH(M:Mp)(a:Addr)(o:MO):Mp:=λb=>if b=a then some o else M b
def A2:Mp:=λ_=>none
theorem au{M:Mp}{a:Addr}{o:MO}:aH M a o a=some o:=by unfold aH;rw[if_pos rfl]
theorem aR{M:Mp}{a b:Addr}{o:MO}(h:b≠a):aH M a o b=M b:=by unfold aH;rw[if_neg h]
theorem oJ{M:Mp}{a:Addr}{o u:MO}:aH (aH M a o) a u=aH M a u:=by
 funext b;unfold aH;split<;>rfl
theorem az{M:Mp}{a b:Addr}{o u:MO}(h:M b=some o)(n:M a=none):aH M a u b=some o:=by
 rw[aR (λe=>by subst e;rw[h]at n;cases n)];exact h
def Le(M M':Mp):Prop:= ∀a o,M a=some o->M' a=some o
theorem Le.refl(M:Mp):Le M M:=λ_ _ h=>h
theorem Le.trans{M M1 M2:Mp}(a:Le M M1)(b:Le M1 M2):Le M M2:=λc o h=>b c o (a c o h)
theorem Le.new{M:Mp}{a:Addr}{o:MO}(n:M a=none):Le M (aH M a o):=λ_ _ h=>az h n
def GF(ks:List (List Int)):Int:=reduceHash (Builtin.Tuple.tupleHashOf (ks.map λk=>reduceHash (Builtin.Tuple.tupleHashOf (k.map hashInt))))
abbrev DX:=List (List (List Int) ×Addr ×Value)
def Eb(x:List (List Int) ×Addr ×Value):DictEntry:=⟨GF x.1,.ref x.2.1,x.2.2⟩
def Ec(a:Addr)(xs:DX):Heap->Prop:=λh=>∃o es,h.get? a=some o/\o.ExactDict/\o.data= .dict es xs.length/\es.toList=xs.map Eb
def kD(k:List (List Int)):D:= .tup (k.map λl=> .tup (l.map .int))
def wC(K:PySem.W.Frag)(H:Hp)(p:List (List Int) ×D)(x:List (List Int) ×Addr ×Value):Prop:=p.1=x.1/\Dat K H (kD p.1) (.ref x.2.1)/\∃v,Dat K H p.2 v/\RelV v x.2.2
theorem wC.mono{K:PySem.W.Frag}{H H':Hp}(e:Ext H H'){p:List (List Int) ×D}{x:List (List Int) ×Addr ×Value}(h:wC K H p x):wC K H' p x:=by
 obtain⟨h1,h2,v,h3,h4⟩:=h
 exact⟨h1,Dat.mono e _ _ h2,v,Dat.mono e _ _ h3,h4⟩
def GG(k:List Int):Int:=reduceHash (Builtin.Tuple.tupleHashOf (k.map hashInt))
abbrev n9:=List (List Int ×Addr ×Value)
def t6(x:List Int ×Addr ×Value):DictEntry:=⟨GG x.1,.ref x.2.1,x.2.2⟩
def dU(a:Addr)(xs:n9):Heap->Prop:=λh=>∃o es,h.get? a=some o/\o.ExactDict/\o.data= .dict es xs.length/\es.toList=xs.map t6
def pD(k:List Int):D:= .tup (k.map .int)
def eY(K:PySem.W.Frag)(H:Hp)(p:List Int ×D)(x:List Int ×Addr ×Value):Prop:=p.1=x.1/\Dat K H (pD p.1) (.ref x.2.1)/\∃v,Dat K H p.2 v/\RelV v x.2.2
theorem eY.mono{K:PySem.W.Frag}{H H':Hp}(e:Ext H H'){p:List Int ×D}{x:List Int ×Addr ×Value}(h:eY K H p x):eY K H' p x:=by
 obtain⟨h1,h2,v,h3,h4⟩:=h
 exact⟨h1,Dat.mono e _ _ h2,v,Dat.mono e _ _ h3,h4⟩
def ja(a:Addr)(ps:Array Value):Heap->Prop:=λh=>h.get? a=some {cls:= .none,data:= .fields ps}
def t7(H:Hp)(q:Str)(ps:Array Value):Prop:= ∀pos v,codeAmong pos ps.toList=some v->∃c o u vs tk,v= .ref c/\H c=some (.fZ o u)/\o.data= .fields vs/\vs[1]?=some (.str q tk)
theorem t7.mono{H H':Hp}(e:Ext H H'){q:Str}{ps:Array Value}(h:t7 H q ps):t7 H' q ps:=λpos v z=>
 let ⟨c,o,u,vs,tk,e1,e2,e3⟩:=h pos v z
 ⟨c,o,u,vs,tk,e1,e.fZ _ _ _ e2,e3⟩
def A3(K:PySem.W.Frag)(H:Hp)(a:Addr):MO->Prop
 | .lst ds=>∃xs,H a=some (.lst xs)/\aB K H ds xs
 | .Ea kvs=>∃xs:DX,H a=some (.ext (Ec a xs))/\(a==sysModules)=false/\(xs.map (·.1)).Nodup/\Paired (wC K H) kvs xs
 | .oH q=>∃ps,H a=some (.ext (ja a ps))/\TriplesOk ps.toList/\t7 H q ps
 | .gZ kvs=>∃xs:n9,H a=some (.ext (dU a xs))/\(a==sysModules)=false/\(xs.map (·.1)).Nodup/\Paired (eY K H) kvs xs
theorem A3.mono{K:PySem.W.Frag}{H H':Hp}{a:Addr}{o:MO}(h:A3 K H a o)(e:Ext H H')(s:∀u,H a=some u->H' a=some u):A3 K H' a o:=by
 cases o with
 |lst ds=>
  obtain⟨xs,e1,e2⟩:=h
  exact⟨xs,s _ e1,aB.mono e _ _ e2⟩
 |Ea kvs=>
  obtain⟨xs,e1,y,nd,p⟩:=h
  exact⟨xs,s _ e1,y,nd,Paired.rJ p λ_ _ z=>z.mono e⟩
 |oH q=>
  obtain⟨ps,e1,e2,e3⟩:=h
  exact⟨ps,s _ e1,e2,e3.mono e⟩
 |gZ kvs=>
  obtain⟨xs,e1,y,nd,p⟩:=h
  exact⟨xs,s _ e1,y,nd,Paired.rJ p λ_ _ z=>z.mono e⟩
theorem A3.has{K:PySem.W.Frag}{H:Hp}{a:Addr}{o:MO}(h:A3 K H a o):∃u,H a=some u/\((∃xs,u= .lst xs)\/∃φ,u= .ext φ):=by
 cases o with
 |lst ds=>
  obtain⟨xs,e1,_⟩:=h
  exact⟨_,e1,.inl ⟨_,rfl⟩⟩
 |Ea kvs=>
  obtain⟨xs,e1,_⟩:=h
  exact⟨_,e1,.inr ⟨_,rfl⟩⟩
 |oH q=>
  obtain⟨ps,e1,_⟩:=h
  exact⟨_,e1,.inr ⟨_,rfl⟩⟩
 |gZ kvs=>
  obtain⟨xs,e1,_⟩:=h
  exact⟨_,e1,.inr ⟨_,rfl⟩⟩
def aV(K:PySem.W.Frag)(H:Hp)(M:Mp):Prop:= ∀a o,M a=some o->A3 K H a o
theorem aV.no{K:PySem.W.Frag}{H:Hp}:aV K H A2:=λ_ _ h=>by cases h
theorem aV.le{K:PySem.W.Frag}{H:Hp}{M M':Mp}(h:aV K H M')(l:Le M M'):aV K H M:=λa o e=>h a o (l a o e)
theorem aV.lst{K:PySem.W.Frag}{H:Hp}{M:Mp}{a:Addr}{ds:List D}(h:aV K H M)(e:M a=some (.lst ds)):∃xs,H a=some (.lst xs)/\aB K H ds xs:=h a _ e
theorem aV.free{K:PySem.W.Frag}{H:Hp}{M:Mp}{a:Addr}(h:aV K H M)(e:H a=none):M a=none:=by
 cases q:M a with
 |none=>rfl
 |some o=>
  obtain⟨u,e',_⟩:=(h a o q).has
  rw[e]at e';cases e'
theorem aV.t8{K:PySem.W.Frag}{H:Hp}{M:Mp}{a:Addr}{u:HO}(h:aV K H M)(e:H a=some u)(n:∀xs,u≠ .lst xs)(n2:∀φ,u≠ .ext φ:=by intro _ z;cases z):M a=none:=by
 cases q:M a with
 |none=>rfl
 |some o=>
  obtain⟨u',e',h'⟩:=(h a o q).has
  rw[e]at e'
  cases e'
  rcases h' with⟨xs,z⟩|⟨φ,z⟩
  ·exact absurd z (n xs)
  ·exact absurd z (n2 φ)
def Fr(M:Mp)(H:Hp)(M':Mp)(H':Hp):Prop:= ∀b o,M b=none->H b=some o->H' b=some o/\M' b=none
theorem Fr.refl(M:Mp)(H:Hp):Fr M H M H:=λ_ _ n e=>⟨e,n⟩
theorem Fr.trans{M M1 M2:Mp}{H H1 H2:Hp}(a:Fr M H M1 H1)(b:Fr M1 H1 M2 H2):Fr M H M2 H2:=λc o n e=>
 let ⟨e1,n1⟩:=a c o n e
 b c o n1 e1
theorem Fr.le{M M1 M2:Mp}{H H1:Hp}(a:Fr M H M1 H1)(l:Le M2 M1):Fr M H M2 H1:=λb o n e=>by
 obtain⟨e1,n1⟩:=a b o n e
 refine⟨e1,?_⟩
 cases q:M2 b with
 |none=>rfl
 |some u=>rw[l b u q]at n1;cases n1
theorem Fr.ext{K:PySem.W.Frag}{M M':Mp}{H H':Hp}(f:Fr M H M' H')(r:aV K H M):Ext H H':=
 ⟨λb xs e=>(f b _ (r.t8 e (λ_ z=>by cases z)) e).1,λb o u e=>(f b _ (r.t8 e (λ_ z=>by cases z)) e).1⟩
theorem Ext.new{H:Hp}{p:Addr}{o:HO}(n:H p=none):Ext H (upd H p o):=
 ⟨λb xs e=>by rw[aD (bh e n)];exact e,λb o' u e=>by rw[aD (bh e n)];exact e⟩
theorem Fr.new{M M':Mp}{H:Hp}{p:Addr}{o:HO}(n:H p=none)(h:∀b,b≠p->M' b=M b):Fr M H M' (upd H p o):=λb u m e=>by
 have hb:b≠p:=bh e n
 rw[aD hb,h b hb]
 exact⟨e,m⟩
theorem Fr.write{K:PySem.W.Frag}{M:Mp}{H:Hp}{p:Addr}{o:HO}{u:MO}{v:MO}(m:M p=some u):Fr M H (aH M p v) (upd H p o):=λb w n e=>by
 have hb:b≠p:=λz=>by subst z;rw[m]at n;cases n
 rw[aD hb,aR hb]
 exact⟨e,n⟩
theorem aV.new{K:PySem.W.Frag}{M:Mp}{H:Hp}{p:Addr}{o:HO}(r:aV K H M)(n:H p=none):aV K (upd H p o) M:=λa u e=>
 (r a u e).mono (Ext.new n) λv q=>by rw[aD (bh q n)];exact q
theorem Ext.jb{H:Hp}{p:Addr}{xs ys:List V}(h:H p=some (.lst xs)):Ext H (upd H p (.lst ys)):=
 ⟨λb zs e=>by rw[aD (qA e h (by intro z;cases z))];exact e,λb o u e=>by rw[aD (qA e h (by intro z;cases z))];exact e⟩
theorem aV.newL{K:PySem.W.Frag}{M:Mp}{H:Hp}{p:Addr}{xs:List V}{ds:List D}(r:aV K H M)(n:H p=none)(d:aB K H ds xs):aV K (upd H p (.lst xs)) (aH M p (.lst ds)):=λa u e=>by
 by_cases ha:a=p
 ·subst ha
  rw[au]at e;cases e
  exact⟨xs,aU,aB.mono (Ext.new n) _ _ d⟩
 ·rw[aR ha]at e
  exact r.new n a u e
theorem aV.jb{K:PySem.W.Frag}{M:Mp}{H:Hp}{p:Addr}{xs ys:List V}{ds:List D}(r:aV K H M)(h:H p=some (.lst xs))(d:aB K H ds ys):aV K (upd H p (.lst ys)) (aH M p (.lst ds)):=λa u e=>by
 by_cases ha:a=p
 ·subst ha
  rw[au]at e;cases e
  exact⟨ys,aU,aB.mono (Ext.jb h) _ _ d⟩
 ·rw[aR ha]at e
  exact(r a u e).mono (Ext.jb h) λv q=>by rw[aD ha];exact q
theorem Ext.t9{H:Hp}{p:Addr}{φ:Heap->Prop}{o:HO}(h:H p=some (.ext φ)):Ext H (upd H p o):=
 ⟨λb zs e=>by rw[aD (qA e h (by intro z;cases z))];exact e,λb o u e=>by rw[aD (qA e h (by intro z;cases z))];exact e⟩
theorem aV.Ed{K:PySem.W.Frag}{M:Mp}{H:Hp}{p:Addr}(r:aV K H M)(n:H p=none)(y:(p==sysModules)=false):aV K (upd H p (.ext (dU p []))) (aH M p (.gZ [])):=λa u e=>by
 by_cases ha:a=p
 ·subst ha
  rw[au]at e;cases e
  exact⟨[],aU,y,KW,.nil⟩
 ·rw[aR ha]at e
  exact r.new n a u e
theorem aV.gZ{K:PySem.W.Frag}{H:Hp}{M:Mp}{a:Addr}{kvs:List (List Int ×D)}(h:aV K H M)(e:M a=some (.gZ kvs)):∃xs:n9,H a=some (.ext (dU a xs))/\(a==sysModules)=false/\(xs.map (·.1)).Nodup/\Paired (eY K H) kvs xs:=h a _ e
theorem aV.zF{K:PySem.W.Frag}{M:Mp}{H:Hp}{p:Addr}{φ:Heap->Prop}{xs:n9}{kvs:List (List Int ×D)}(r:aV K H M)(h:H p=some (.ext φ))(y:(p==sysModules)=false)(nd:(xs.map (·.1)).Nodup)(d:Paired (eY K H) kvs xs) :
 aV K (upd H p (.ext (dU p xs))) (aH M p (.gZ kvs)):=λa u e=>by
 by_cases ha:a=p
 ·subst ha
  rw[au]at e;cases e
  exact⟨xs,aU,y,nd,Paired.rJ d λ_ _ z=>z.mono (Ext.t9 h)⟩
 ·rw[aR ha]at e
  exact(r a u e).mono (Ext.t9 h) λv q=>by rw[aD ha];exact q
theorem aV.oH{K:PySem.W.Frag}{H:Hp}{M:Mp}{a:Addr}{q:Str}(h:aV K H M)(e:M a=some (.oH q)):∃ps,H a=some (.ext (ja a ps))/\TriplesOk ps.toList/\t7 H q ps:=h a _ e
abbrev En:=List (Option D)
structure Rep(K:PySem.W.Frag)(H:Hp)(σ:St)(ρ:En)(M:Mp):Prop where
 env:∀(i:Nat) d,ρ[i]?=some (some d)->∃v,σ[i]?=some (some v)/\Dat K H d v
 len:ρ.length=σ.length
 mem:aV K H M
theorem Rep.go{K:PySem.W.Frag}{H H':Hp}{σ:St}{ρ:En}{M M':Mp}(r:Rep K H σ ρ M)(f:Fr M H M' H')(r':aV K H' M'):Rep K H' σ ρ M':=
 ⟨λi d e=>let ⟨v,e1,e2⟩:=r.env i d e;⟨v,e1,Dat.mono (f.ext r.mem) _ _ e2⟩,r.len,r'⟩
theorem Rep.set{K:PySem.W.Frag}{H:Hp}{σ:St}{ρ:En}{M:Mp}{i:Nat}{d:D}{v:V}(r:Rep K H σ ρ M)(h:Dat K H d v):Rep K H (σ.set i (some v)) (ρ.set i (some d)) M:=by
 refine⟨λj e q=>?_,by simp[r.len],r.mem⟩
 by_cases hj:i=j
 ·subst hj
  by_cases hl:i<ρ.length
  ·rw[Jx hl]at q
   cases q
   exact⟨v,Jx (by rw[<-r.len];exact hl),h⟩
  ·rw[JD (by simp;omega)]at q;cases q
 ·rw[JP hj]at q ⊢
  exact r.env j e q
abbrev DK:=D->Mp->Prop
abbrev bT:=En->Mp->DK->Prop
abbrev iO:=En->Mp->(Bool->Mp->Prop)->Prop
abbrev oh:=En->Mp->(List D->Mp->Prop)->Prop
inductive Post(K:PySem.W.Frag)(M:Mp)(H:Hp)(Q:DK)(v:V)(H':Hp):Prop
 |mk (d:D) (M':Mp):Fr M H M' H'->Dat K H' d v->aV K H' M'->Q d M'->Post K M H Q v H'
def jq(K:PySem.W.Frag)(M:Mp)(H:Hp)(Q:Bool->Mp->Prop):Bool->Hp->Prop:=λb H'=>∃M',Fr M H M' H'/\aV K H' M'/\Q b M'
inductive ua(K:PySem.W.Frag)(M:Mp)(H:Hp)(Q:List D->Mp->Prop)(vs:List V)(H':Hp):Prop
 |mk (ds:List D) (M':Mp):Fr M H M' H'->aB K H' ds vs->aV K H' M'->Q ds M'->ua K M H Q vs H'
structure bJ(X:Cx)(e:Expr)(t:bT):Prop where
 run:∀(pins:List (Addr ×Obj)) (s:Shared) (σ:St) (H:Hp) (ρ:En) (M:Mp) (Q:DK),Inv X pins σ H s->Rep X.K H σ ρ M->t ρ M Q->wpAny (model X.prog X.w) X.A (eval e X.env) (EP X pins σ (Post X.K M H Q)) X.xe s
structure pS(X:Cx)(e:Expr)(t:iO):Prop where
 run:∀(pins:List (Addr ×Obj)) (s:Shared) (σ:St) (H:Hp) (ρ:En) (M:Mp) (Q:Bool->Mp->Prop),Inv X pins σ H s->Rep X.K H σ ρ M->t ρ M Q->wpAny (model X.prog X.w) X.A (isTrue e X.env (eval e X.env)) (TP X pins σ (jq X.K M H Q)) X.xe s
structure jc(X:Cx)(e:Expr)(t:iO):Prop where
 run:∀(whole:Sem Value) (pins:List (Addr ×Obj)) (s:Shared) (σ:St) (H:Hp) (ρ:En) (M:Mp) (Q:Bool->Mp->Prop),Inv X pins σ H s->Rep X.K H σ ρ M->t ρ M Q->wpAny (model X.prog X.w) X.A (isTrue e X.env whole) (TP X pins σ (jq X.K M H Q)) X.xe s
theorem jc.pt{X:Cx}{e:Expr}{t:iO}(h:jc X e t):pS X e t:=⟨h.run _⟩
structure rY(X:Cx)(es:List Expr)(t:oh):Prop where
 run:∀(pos:Pos) (pins:List (Addr ×Obj)) (s:Shared) (σ:St) (H:Hp) (ρ:En) (M:Mp) (Q:List D->Mp->Prop),Inv X pins σ H s->Rep X.K H σ ρ M->t ρ M Q->wpAny (model X.prog X.w) X.A (spliced (backTo pos (starEach es X.env))) (AP X pins σ (ua X.K M H Q)) X.xe s
structure yu where
 nx:En->Mp->Prop
 rt:DK
 bk:En->Mp->Prop:=λ_ _=>False
 ct:En->Mp->Prop:=λ_ _=>False
abbrev gT:=yu->En->Mp->Prop
inductive dX(K:PySem.W.Frag)(M:Mp)(H:Hp)(Q:En->Mp->Prop)(σ':St)(H':Hp):Prop
 |mk (ρ':En) (M':Mp):Fr M H M' H'->Rep K H' σ' ρ' M'->Q ρ' M'->dX K M H Q σ' H'
def ends(K:PySem.W.Frag)(M:Mp)(H:Hp)(D:yu):Ends:={nx:=dX K M H D.nx,rt:=Post K M H D.rt,bk:=dX K M H D.bk,ct:=dX K M H D.ct}
structure pT(X:Cx)(st:Stmt)(t:gT):Prop where
 run:∀(pins:List (Addr ×Obj)) (s:Shared) (σ:St) (H:Hp) (ρ:En) (M:Mp) (D:yu),Inv X pins σ H s->Rep X.K H σ ρ M->t D ρ M->wpAny (model X.prog X.w) X.A (exec st X.env) (SP X pins (ends X.K M H D)) X.xe s
structure fE(X:Cx)(st:List Stmt)(t:gT):Prop where
 run:∀(pins:List (Addr ×Obj)) (s:Shared) (σ:St) (H:Hp) (ρ:En) (M:Mp) (D:yu),Inv X pins σ H s->Rep X.K H σ ρ M->t D ρ M->wpAny (model X.prog X.w) X.A (execs st X.env) (SP X pins (ends X.K M H D)) X.xe s
section
variable{X:Cx}
theorem up{e:Expr}{te:TE}{t:bT}(h:PE X e te)(g:∀σ H ρ M Q,Rep X.K H σ ρ M->t ρ M Q->te σ H (Post X.K M H Q)):bJ X e t:=
 ⟨λpins s σ H ρ M Q I r q=>h pins s σ H _ I (g σ H ρ M Q r q)⟩
theorem GH{e:Expr}{te:TT}{t:iO}(h:PT X e te)(g:∀σ H ρ M Q,Rep X.K H σ ρ M->t ρ M Q->te σ H (jq X.K M H Q)):pS X e t:=
 ⟨λpins s σ H ρ M Q I r q=>h pins s σ H _ I (g σ H ρ M Q r q)⟩
theorem yw{st:Stmt}{te:TS}{t:gT}(h:PS X st te)(g:∀σ H ρ M D,Rep X.K H σ ρ M->t D ρ M->te (ends X.K M H D) σ H):pT X st t:=
 ⟨λpins s σ H ρ M D I r q=>h pins s σ H _ I (g σ H ρ M D r q)⟩
def dn(K:PySem.W.Frag)(t:bT):TE:=λσ H Q'=>∃ρ M Q,Rep K H σ ρ M/\t ρ M Q/\∀v H',Post K M H Q v H'->Q' v H'
def Ef(K:PySem.W.Frag)(t:iO):TT:=λσ H Q'=>∃ρ M Q,Rep K H σ ρ M/\t ρ M Q/\∀v H',jq K M H Q v H'->Q' v H'
def Fw(K:PySem.W.Frag)(t:oh):TA:=λσ H Q'=>∃ρ M Q,Rep K H σ ρ M/\t ρ M Q/\∀v H',ua K M H Q v H'->Q' v H'
def Di(K:PySem.W.Frag)(t:gT):TS:=λD' σ H=>∃ρ M D,Rep K H σ ρ M/\t D ρ M/\(∀σ' H',dX K M H D.nx σ' H'->D'.nx σ' H')/\(∀v H',Post K M H D.rt v H'->D'.rt v H')/\(∀σ' H',dX K M H D.bk σ' H'->D'.bk σ' H')/\(∀σ' H',dX K M H D.ct σ' H'->D'.ct σ' H')
theorem bJ.dn{e:Expr}{t:bT}(h:bJ X e t):PE X e (dn X.K t):=λpins s σ H Q' I ⟨ρ,M,Q,r,q,k⟩=>
 bU (h.run pins s σ H ρ M Q I r q) λ_ _ ⟨v,H',I',rv,p⟩=>⟨v,H',I',rv,k v H' p⟩
theorem pS.dn{e:Expr}{t:iO}(h:pS X e t):PT X e (Ef X.K t):=λpins s σ H Q' I ⟨ρ,M,Q,r,q,k⟩=>
 bU (h.run pins s σ H ρ M Q I r q) λ_ _ ⟨H',I',p⟩=>⟨H',I',k _ H' p⟩
theorem jc.dn{e:Expr}{t:iO}(h:jc X e t):PW X e (Ef X.K t):=λwh pins s σ H Q' I ⟨ρ,M,Q,r,q,k⟩=>
 bU (h.run wh pins s σ H ρ M Q I r q) λ_ _ ⟨H',I',p⟩=>⟨H',I',k _ H' p⟩
theorem rY.dn{es:List Expr}{t:oh}(h:rY X es t):PA X es (Fw X.K t):=λpos pins s σ H Q' I ⟨ρ,M,Q,r,q,k⟩=>
 bU (h.run pos pins s σ H ρ M Q I r q) λ_ _ ⟨vs,H',I',rv,p⟩=>⟨vs,H',I',rv,k vs H' p⟩
theorem fE.dn{sts:List Stmt}{t:gT}(h:fE X sts t):qD X sts (Di X.K t):=λpins s σ H D' I ⟨ρ,M,D,r,q,k1,k2,k3,k4⟩=>
 bU (h.run pins s σ H ρ M D I r q) λf s' z=>by
  cases f with
  |next=>obtain⟨σ',H',I',p⟩:=z;exact⟨σ',H',I',k1 _ _ p⟩
  |brk=>obtain⟨σ',H',I',p⟩:=z;exact⟨σ',H',I',k3 _ _ p⟩
  |cont=>obtain⟨σ',H',I',p⟩:=z;exact⟨σ',H',I',k4 _ _ p⟩
  |ret u=>obtain⟨v,σ',H',I',rv,p⟩:=z;exact⟨v,σ',H',I',rv,k2 _ _ p⟩
theorem cy{K:PySem.W.Frag}{t:bT}{σ:St}{H:Hp}{ρ:En}{M:Mp}{Q:DK}{Q':VK}(r:Rep K H σ ρ M)(q:t ρ M Q)(k:∀v H' d M',Fr M H M' H'->Dat K H' d v->Rep K H' σ ρ M'->Q d M'->Q' v H'):dn K t σ H Q':=
 ⟨ρ,M,Q,r,q,λv H' ⟨d,M',f,dv,rm,p⟩=>k v H' d M' f dv (r.go f rm) p⟩
theorem jW{K:PySem.W.Frag}{t:iO}{σ:St}{H:Hp}{ρ:En}{M:Mp}{Q:Bool->Mp->Prop}{Q':Bool->Hp->Prop}(r:Rep K H σ ρ M)(q:t ρ M Q)(k:∀b H' M',Fr M H M' H'->Rep K H' σ ρ M'->Q b M'->Q' b H'):Ef K t σ H Q':=
 ⟨ρ,M,Q,r,q,λb H' ⟨M',f,rm,p⟩=>k b H' M' f (r.go f rm) p⟩
theorem iD{K:PySem.W.Frag}{t:oh}{σ:St}{H:Hp}{ρ:En}{M:Mp}{Q:List D->Mp->Prop}{Q':List V->Hp->Prop}(r:Rep K H σ ρ M)(q:t ρ M Q)(k:∀vs H' ds M',Fr M H M' H'->aB K H' ds vs->Rep K H' σ ρ M'->Q ds M'->Q' vs H'):Fw K t σ H Q':=
 ⟨ρ,M,Q,r,q,λv H' ⟨d,M',f,dv,rm,p⟩=>k v H' d M' f dv (r.go f rm) p⟩
theorem aE{K:PySem.W.Frag}{M:Mp}{H:Hp}{Q:DK}{d:D}{v:V}(rm:aV K H M)(h:Dat K H d v)(q:Q d M):Post K M H Q v H:=⟨d,M,.refl _ _,h,rm,q⟩
theorem Post.back{K:PySem.W.Frag}{M M1:Mp}{H H1:Hp}{Q:DK}{v:V}{H':Hp}(f:Fr M H M1 H1)(p:Post K M1 H1 Q v H'):Post K M H Q v H':=by
 obtain⟨d,M',f',dv,rm,q⟩:=p
 exact⟨d,M',f.trans f',dv,rm,q⟩
theorem jq.back{K:PySem.W.Frag}{M M1:Mp}{H H1:Hp}{Q:Bool->Mp->Prop}{b:Bool}{H':Hp}(f:Fr M H M1 H1)(p:jq K M1 H1 Q b H'):jq K M H Q b H':=by
 obtain⟨M',f',rm,q⟩:=p
 exact⟨M',f.trans f',rm,q⟩
theorem dX.back{K:PySem.W.Frag}{M M1:Mp}{H H1:Hp}{Q:En->Mp->Prop}{σ:St}{H':Hp}(f:Fr M H M1 H1)(p:dX K M1 H1 Q σ H'):dX K M H Q σ H':=by
 obtain⟨ρ',M',f',r,q⟩:=p
 exact⟨ρ',M',f.trans f',r,q⟩
end
end L3
namespace L3
open PySem PySem.Spec PyProof.Rows L2
section
variable{X:Cx}{a b c:Expr}{ta tb tc:bT}{pos:Pos}
def BH(i:Nat):bT:=λρ M Q=>∃d,ρ[i]?=some (some d)/\Q d M
def Dj(d:D):bT:=λ_ M Q=>Q d M
theorem aa(i:Nat){x:Str}{pos:Pos}(hN:X.N[i]?=some x:=by rfl)(hv:DE X.env.scope x:=by first|exact Or.inl rfl|exact Or.inr (Or.inl rfl)|exact Or.inr (Or.inr rfl))(hd:(x==("__debug__" :Str))=false:=by decide)
 (hcd:(x==("__classdict__" :Str))=false:=by decide):bJ X (.Name x pos) (BH i):=
 up (yY hN hv hd hcd) λσ H ρ M Q r ⟨d,e,q⟩=>by
  obtain⟨v,e1,e2⟩:=r.env i d e
  exact⟨v,e1,aE r.mem e2 q⟩
theorem aj{i j pos}:bJ X (.Constant (.int i) j pos) (Dj (.int i)):=up yZ λ_ _ _ _ _ r q=>aE r.mem (aJ.mpr rfl) q
theorem eZ{b j pos}:bJ X (.Constant (.bool b) j pos) (Dj (.bl b)):=up Be λ_ _ _ _ _ r q=>aE r.mem (br.mpr rfl) q
theorem f6{j pos}:bJ X (.Constant .none j pos) (Dj .aZ):=up y9 λ_ _ _ _ _ r q=>aE r.mem (cN.mpr rfl) q
theorem aL{x:Str}{n:String}{pos:Pos}(hg:Gl X x)(hm:X.mg x=none)(hv:bootBuiltins x=some (.type n))(hn:x≠"__name__" :=by decide)(hd:(x==("__debug__" :Str))=false:=by decide):bJ X (.Name x pos) (Dj (.ty n)):=
 up (vZ (v:= .ty n) hg hm hv rfl hn hd) λ_ _ _ _ _ r q=>aE r.mem (pR.mpr rfl) q
abbrev R3:=D->D->Mp->DK->Prop
structure jd(X:Cx)(f:Value->Value->Sem Value)(t:R3):Prop where
 run:∀(pins:List (Addr ×Obj)) (s:Shared) (σ:St) (H:Hp) (M:Mp) (x y:V) (d e:D) (v u:Value) (Q:DK),Inv X pins σ H s->aV X.K H M->RelV x v->RelV y u->Dat X.K H d x->Dat X.K H e y->t d e M Q->
  wpAny (model X.prog X.w) X.A (f v u) (EP X pins σ (Post X.K M H Q)) X.xe s
theorem BI{f:Value->Value->Sem Value}{r:R2}{t:R3}(h:pH X f r)(g:∀H M x y d e Q,aV X.K H M->Dat X.K H d x->Dat X.K H e y->t d e M Q->r x y H (Post X.K M H Q)):jd X f t:=
 ⟨λpins s σ H M x y d e v u Q I rm rx ry dx dy q=>h pins s σ H x y v u _ I rx ry (g H M x y d e Q rm dx dy q)⟩
def uc(t:R3)(ta tb:bT):bT:=λρ M Q=>ta ρ M λx M1=>tb ρ M1 λy M2=>t x y M2 Q
theorem BJ(ha:bJ X a ta)(hb:bJ X b tb){pins:List (Addr ×Obj)}{s:Shared}{σ:St}{H:Hp}{ρ:En}{M:Mp}{R:D->D->Mp->Prop}(I:Inv X pins σ H s)(r:Rep X.K H σ ρ M)
 (h:ta ρ M λx M1=>tb ρ M1 λy M2=>R x y M2){Q:Value->Shared->Prop}{f:Value->Value->Sem Value}
 (hf:∀v u s2 x y d e H2 M2,Inv X pins σ H2 s2->Rep X.K H2 σ ρ M2->Fr M H M2 H2->RelV x v->RelV y u->Dat X.K H2 d x->Dat X.K H2 e y->R d e M2->wpAny (model X.prog X.w) X.A (f v u) Q X.xe s2) :
 wpAny (model X.prog X.w) X.A (eval a X.env) (λv s₁=>wpAny (model X.prog X.w) X.A (eval b X.env) (λu s₂=>wpAny (model X.prog X.w) X.A (f v u) Q X.xe s₂) X.xe s₁) X.xe s:=by
 refine bU (ha.run pins s σ H ρ M _ I r h) λv s1 ⟨x,H1,I1,r1,d,M1,f1,d1,g7,q1⟩=>?_
 have R1:=r.go f1 g7
 refine bU (hb.run pins s1 σ H1 ρ M1 _ I1 R1 q1) λu s2 ⟨y,H2,I2,r2,e,M2,f2,d2,wD,q2⟩=>?_
 exact hf v u s2 x y d e H2 M2 I2 (R1.go f2 wD) (f1.trans f2) r1 r2 (Dat.mono (f2.ext g7) _ _ d1) d2 q2
theorem aq{op:Operator}{t:R3}(ho:jd X (binaryOp op) t)(ha:bJ X a ta)(hb:bJ X b tb):bJ X (.BinOp a op b pos) (uc t ta tb):=by
 constructor
 intro pins s σ H ρ M Q I r h
 refine wpAny_BinOp (BJ ha hb I r h λv u s2 x y d e H2 M2 I2 R2 f rx ry dx dy q=>?_)
 exact bU (ho.run pins s2 σ H2 M2 x y d e v u Q I2 R2.mem rx ry dx dy q) λ_ _ ⟨z,H3,I3,r3,p⟩=>⟨z,H3,I3,r3,p.back f⟩
theorem e9{op:CmpOp}{t:R3}(ho:jd X (compareOp op) t)(ha:bJ X a ta)(hb:bJ X b tb)(hm:behindInMarks op b=false):bJ X (.Compare a [op] [b] pos) (uc t ta tb):=by
 constructor
 intro pins s σ H ρ M Q I r h
 refine wpAny_Compare1 (BJ ha hb I r h λv u s2 x y d e H2 M2 I2 R2 f rx ry dx dy q=>?_) hm
 exact bU (ho.run pins s2 σ H2 M2 x y d e v u Q I2 R2.mem rx ry dx dy q) λ_ _ ⟨z,H3,I3,r3,p⟩=>⟨z,H3,I3,r3,p.back f⟩
def ud(t:bT):iO:=λρ M Q=>t ρ M λx M'=>∃k,x= .bl k/\Q k M'
theorem aN{op:CmpOp}{t:R3}(ho:jd X (compareOp op) t)(ha:bJ X a ta)(hb:bJ X b tb)(hm:behindInMarks op b=false):pS X (.Compare a [op] [b] pos) (ud (uc t ta tb)):=by
 constructor
 intro pins s σ H ρ M Q I r h
 refine wpAny_isTrue_Compare1 (bU (ha.run pins s σ H ρ M _ I r h) λv s1 ⟨x,H1,I1,r1,d,M1,f1,d1,g7,q1⟩=>bU (hb.run pins s1 σ H1 ρ M1 _ I1 (r.go f1 g7) q1) λu s2 ⟨y,H2,I2,r2,e,M2,f2,d2,wD,q2⟩=>
  bU (ho.run pins s2 σ H2 M2 x y d e v u _ I2 wD r1 r2 (Dat.mono (f2.ext g7) _ _ d1) d2 q2) λw s3 ⟨z,H3,I3,r3,dz,M3,f3,d3,GI,k,ek,q3⟩=>?_) hm
 subst ek
 obtain rfl:=br.mp d3
 cases r3
 exact wpAny_truthy_bool ⟨H3,I3,M3,(f1.trans f2).trans f3,GI,q3⟩
theorem dF{e:Expr}{t:bT}(h:bJ X e t)(he:∀whole,isTrue e X.env whole=(do let v <-whole;standAt e.pos;holding [v] (truthy v)):=by intro _;rfl):pS X e (ud t):=by
 constructor
 intro pins s σ H ρ M Q I r hw
 refine isTrue_plain (bU (h.run pins s σ H ρ M _ I r hw) λv s1 ⟨x,H1,I1,r1,d,M1,f1,d1,g7,k,ek,q1⟩=>?_) (he _)
 subst ek
 obtain rfl:=br.mp d1
 cases r1
 exact wpAny_truthy_bool ⟨H1,I1,M1,f1,g7,q1⟩
variable{tA tB:iO}{rest:List Expr}
def BK(t u:iO):iO:=λρ M Q=>t ρ M λc M1=>if c=true then u ρ M1 Q else Q false M1
def Eg(t u:iO):iO:=λρ M Q=>t ρ M λc M1=>if c=true then Q true M1 else u ρ M1 Q
def BL(t:iO):iO:=λρ M Q=>t ρ M λc M1=>Q (!c) M1
theorem jX(ha:pS X a tA):jc X (.BoolOp .And [a] pos) tA:=⟨λwh pins s σ H ρ M Q I r h=>bU (pw_and1 ha.dn wh pins s σ H _ I ⟨ρ,M,Q,r,h,λ_ _ z=>z⟩) λ_ _ z=>z⟩
theorem gb(ha:pS X a tA):jc X (.BoolOp .Or [a] pos) tA:=⟨λwh pins s σ H ρ M Q I r h=>bU (pw_or1 ha.dn wh pins s σ H _ I ⟨ρ,M,Q,r,h,λ_ _ z=>z⟩) λ_ _ z=>z⟩
theorem oK(ha:pS X a tA)(hb:jc X (.BoolOp .And (b::rest) pos) tB):jc X (.BoolOp .And (a::b::rest) pos) (BK tA tB):=⟨λwh pins s σ H ρ M Q I r h=>
 pw_and ha.dn hb.dn wh pins s σ H _ I (jW r h λc H' M' f r' q=>by
  cases c with
  |true=>exact⟨ρ,M',Q,r',q,λ_ _ p=>p.back f⟩
  |false=>exact⟨M',f,r'.mem,q⟩)⟩
theorem iE(ha:pS X a tA)(hb:jc X (.BoolOp .Or (b::rest) pos) tB):jc X (.BoolOp .Or (a::b::rest) pos) (Eg tA tB):=⟨λwh pins s σ H ρ M Q I r h=>
 pw_or ha.dn hb.dn wh pins s σ H _ I (jW r h λc H' M' f r' q=>by
  cases c with
  |true=>exact⟨M',f,r'.mem,q⟩
  |false=>exact⟨ρ,M',Q,r',q,λ_ _ p=>p.back f⟩)⟩
theorem k_not(ha:pS X a tA):pS X (.UnaryOp .Not a pos) (BL tA):=GH (za ha.dn) λσ H ρ M Q r h=>jW r h λ_ _ M' f r' q=>⟨M',f,r'.mem,q⟩
def zG(ta tb:bT):bT:=λρ M Q=>ta ρ M λx M1=>∃c,x= .bl c/\if c=true then tb ρ M1 Q else Q (.bl false) M1
def zH(ta:bT):bT:=λρ M Q=>ta ρ M λx M1=>∃c,x= .bl c/\Q (.bl (!c)) M1
theorem iP{op}{t:bT}(h:bJ X a t):bJ X (.BoolOp op [a] pos) t:=⟨λpins s σ H ρ M Q I r hw=>BoolOp_one (h.run pins s σ H ρ M Q I r hw)⟩
theorem fc(ha:bJ X a ta)(hb:bJ X (.BoolOp .And (b::rest) pos) tb):bJ X (.BoolOp .And (a::b::rest) pos) (zG ta tb):=up (zb ha.dn hb.dn) λσ H ρ M Q r h=>cy r h λv H' d M' f dv r' ⟨k,ek,q⟩=>by
 subst ek
 obtain rfl:=br.mp dv
 refine⟨k,rfl,?_⟩
 cases k with
 |true=>exact⟨ρ,M',Q,r',q,λ_ _ p=>p.back f⟩
 |false=>exact⟨.bl false,M',f,br.mpr rfl,r'.mem,q⟩
theorem qN(ha:bJ X a ta):bJ X (.UnaryOp .Not a pos) (zH ta):=up (zc ha.dn) λσ H ρ M Q r h=>cy r h λv H' d M' f dv r' ⟨k,ek,q⟩=>by
 subst ek
 obtain rfl:=br.mp dv
 exact⟨k,rfl,.bl (!k),M',f,br.mpr rfl,r'.mem,q⟩
def Eh(t:iO)(ta tb:bT):bT:=λρ M Q=>t ρ M λc M1=>if c=true then ta ρ M1 Q else tb ρ M1 Q
theorem ue{c:Expr}(hc:pS X c tA)(ha:bJ X a ta)(hb:bJ X b tb):bJ X (.IfExp c a b pos) (Eh tA ta tb):=up (tL hc.dn ha.dn hb.dn) λσ H ρ M Q r h=>jW r h λk H' M' f r' q=>by
 cases k with
 |true=>exact⟨ρ,M',Q,r',q,λ_ _ p=>p.back f⟩
 |false=>exact⟨ρ,M',Q,r',q,λ_ _ p=>p.back f⟩
def Ei(t:D->Mp->DK->Prop)(ta:bT):bT:=λρ M Q=>ta ρ M λx M1=>t x M1 Q
def Ej:D->Mp->DK->Prop:=λd M Q=>∃i,d= .int i/\Q (.int (-i)) M
theorem oM(ha:bJ X a ta):bJ X (.UnaryOp .USub a pos) (Ei Ej ta):=up (Bq zo ha.dn) λσ H ρ M Q r h=>cy r h λv H' d M' f dv r' ⟨i,ek,q⟩=>by
 subst ek
 obtain rfl:=aJ.mp dv
 exact⟨i,rfl,.int (-i),M',f,aJ.mpr rfl,r'.mem,q⟩
def Sm(n:Nat)(i:Int):Prop:=i.natAbs<2 ^ n
def MulOk(i j:Int):Prop:= ∃m n,Sm m i/\Sm n j/\m+n<=100000
theorem jY{k n:Nat}(h:k<2 ^ n):k.log2<=n:=by
 rcases Kv k with z|z
 ·subst z;simp
 ·exact JB (by rw[Nat.log2_lt (by omega)];exact h)
theorem iQ{n:Nat}{i:Int}(h:Sm n i):Builtin.Int.intBits i<=n+1:=by
 unfold Builtin.Int.intBits
 have:=jY h
 first
  |(split<;>omega)
  |omega
theorem MulOk.ok{i j:Int}(h:MulOk i j):IntMulOk i j:=by
 obtain⟨m,n,h1,h2,h3⟩:=h
 have b1:=iQ h1
 have b2:=iQ h2
 exact IntMulOk.of_bits (by omega) (by omega)
def zI(g:Int->Int->Int):R3:=λd e M Q=>∃i j,d= .int i/\e= .int j/\Q (.int (g i j)) M
def lV(C:Int->Int->Prop)(g:Int->Int->Int):R3:=λd e M Q=>∃i j,d= .int i/\e= .int j/\C i j/\Q (.int (g i j)) M
def uf(g:Int->Int->Bool):R3:=λd e M Q=>∃i j,d= .int i/\e= .int j/\Q (.bl (g i j)) M
theorem BN{f:Value->Value->Sem Value}{g:Int->Int->Int}(h:pH X f (yj λi j=> .int (g i j))):jd X f (zI g):=BI h λH M x y d e Q rm dx dy ⟨i,j,e1,e2,q⟩=>by
 subst e1;subst e2
 exact⟨i,j,aJ.mp dx,aJ.mp dy,aE rm (aJ.mpr rfl) q⟩
theorem oN{f:Value->Value->Sem Value}{C:Int->Int->Prop}{g:Int->Int->Int}(h:pH X f (rI C λi j=> .int (g i j))):jd X f (lV C g):=BI h λH M x y d e Q rm dx dy ⟨i,j,e1,e2,hc,q⟩=>by
 subst e1;subst e2
 exact⟨i,j,aJ.mp dx,aJ.mp dy,hc,aE rm (aJ.mpr rfl) q⟩
theorem yx{f:Value->Value->Sem Value}{g:Int->Int->Bool}(h:pH X f (yj λi j=> .bl (g i j))):jd X f (uf g):=BI h λH M x y d e Q rm dx dy ⟨i,j,e1,e2,q⟩=>by
 subst e1;subst e2
 exact⟨i,j,aJ.mp dx,aJ.mp dy,aE rm (br.mpr rfl) q⟩
theorem cZ:jd X (binaryOp .Add) (zI λi j=>i+j):=BN zj
theorem cR:jd X (binaryOp .Sub) (zI λi j=>i-j):=BN zk
theorem ic:jd X (binaryOp .Mult) (lV MulOk λi j=>i*j):=oN (Br λ_ _ _ _ _ _ _ hc q=>mul_int q hc.ok)
theorem bg:jd X (binaryOp .Mod) (lV (λ_ j=>0<j) λi j=>i % j):=oN zm
def BO(_ j:Int):Prop:=0<j/\∃n,Sm n j/\n<=8000
theorem cg:jd X (binaryOp .FloorDiv) (lV BO λi j=>i / j):=oN (Br λi j _ _ _ _ _ hc q=>floordiv_int (by have:=hc.1;omega) (by rw[Int.fdiv_eq_ediv_of_nonneg _ (by have:=hc.1;omega)];exact q) (.inl (PyProof.noPylong_of_log2 (by
 obtain⟨_,n,h1,h2⟩:=hc
 have:=jY h1
 omega))))
def ug(i j:Int):Prop:=0<=j/\j<=1000/\i.natAbs<2 ^ 400
theorem ug.bits{i j:Int}(h:ug i j):(Builtin.Int.intBits i:Int)*j<=2 ^ 27:=by
 have hb:Builtin.Int.intBits i<=401:=iQ (n:=400) h.2.2
 have h1:(Builtin.Int.intBits i:Int)*j<=401*j:=Int.mul_le_mul_of_nonneg_right (by omega) h.1
 have:=h.2.1
 omega
theorem ie:jd X (binaryOp .Pow) (lV ug λi j=>i ^ j.toNat):=oN (Br λ_ _ _ _ _ _ _ hc q=>pow_int hc.1 hc.bits q)
theorem Ek:jd X (compareOp .Lt) (uf λi j=>decide (i<j)):=yx Bw
theorem El:jd X (compareOp .Gt) (uf λi j=>decide (j<i)):=yx Bx
inductive Dk where
 |aZ|bl (b:Bool)|int (i:Int)|str (x:Str)
 deriving DecidableEq
def Dk.d:Dk->D| .aZ=> .aZ| .bl b=> .bl b| .int i=> .int i| .str x=> .str x
def Dk.v:Dk->V| .aZ=> .aZ| .bl b=> .bl b| .int i=> .int i| .str x=> .str x
end
end L3
namespace L3
open PySem PySem.Spec PyProof.Rows L2
mutual
def gc:D->D->Bool
 | .aZ,e=>match e with| .aZ=>true|_=>false
 | .bl a,e=>match e with| .bl b=>a==b| .int b=>(if a then 1 else 0)==b|_=>false
 | .int a,e=>match e with| .bl b=>a==(if b then 1 else 0)| .int b=>a==b|_=>false
 | .str a,e=>match e with| .str b=>a==b|_=>false
 | .tup as,e=>match e with| .tup bs=>iR as bs|_=>false
 | .ty _,_=>false
 | .ref _,_=>false
 | .pQ _,_=>false
 | .zE _,_=>false
 | .exc _ _ _,_=>false
def iR:List D->List D->Bool
 |[],e=>match e with|[]=>true|_=>false
 |a::as,e=>match e with|[]=>false|b::bs=>gc a b && iR as bs
end
def plain:Nat->D->Bool
 |_,.aZ=>true
 |_,.bl _=>true
 |_,.int _=>true
 |_,.str _=>true
 |n+1,.tup ds=>ds.all (plain n)
 |_,_=>false
theorem uh:iR [] []=true:=rfl
theorem fh(a b:D)(as bs:List D):iR (a::as) (b::bs)=(gc a b && iR as bs):=rfl
theorem gU(as bs:List D):gc (.tup as) (.tup bs)=iR as bs:=rfl
theorem c8(a b:Int):gc (.int a) (.int b)=(a==b):=rfl
theorem dG:∀(ds es:List D),iR ds es=((List.range (min ds.length es.length)).all (λj=>gc (ds.getD j .aZ) (es.getD j .aZ)) && (ds.length==es.length))
 |[],[]=>rfl
 |[],e::es=>rfl
 |d::ds,[]=>rfl
 |d::ds,e::es=>by
  rw[fh,dG ds es]
  have h:min (d::ds).length (e::es).length=min ds.length es.length+1:=by simp only[IL];omega
  rw[h,List.range_succ_eq_map,JG,Kd]
  simp only[List.getD_cons_zero,IL]
  have h2:((λj=>gc ((d::ds).getD j D.aZ) ((e::es).getD j D.aZ))∘Nat.succ)=λj=>gc (ds.getD j D.aZ) (es.getD j D.aZ):=by
   funext j;simp
  rw[h2]
  have h3:(ds.length+1==es.length+1)=(ds.length==es.length):=by
   rw[Ju];simp
  rw[h3,Bool.and_assoc]
theorem fj:∀(n:Nat) (d:D),plain n d=true->gc d d=true:=by
 intro n
 induction n with
 |zero=>
  intro d h
  cases d with
  |aZ=>rfl
  |bl b=>exact beq_self_eq_true b
  |int b=>exact beq_self_eq_true b
  |str b=>exact beq_self_eq_true b
  |_=>cases h
 |succ n ih=>
  intro d h
  cases d with
  |aZ=>rfl
  |bl b=>exact beq_self_eq_true b
  |int b=>exact beq_self_eq_true b
  |str b=>exact beq_self_eq_true b
  |tup ds=>
   have key:∀(es:List D),es.all (plain n)=true->iR es es=true:=by
    intro es
    induction es with
    |nil=>intro _;rfl
    |cons e es GJ=>
     intro h
     rw[JG,IS]at h
     rw[fh,ih e h.1,GJ h.2];rfl
   exact key ds h
  |_=>cases h
section
variable{K:PySem.W.Frag}{H:Hp}
inductive Sc:D->V->Prop
 |aZ:Sc .aZ .aZ
 |bl (b:Bool):Sc (.bl b) (.bl b)
 |int (i:Int):Sc (.int i) (.int i)
 |str (x:Str):Sc (.str x) (.str x)
theorem bN{n:Nat}{d:D}{v:V}(p:plain n d=true)(h:Dat K H d v):Sc d v\/∃m ds,n=m+1/\d= .tup ds/\ds.all (plain m)=true:=by
 cases d with
 |aZ=>rw[cN.mp h];exact .inl .aZ
 |bl b=>rw[br.mp h];exact .inl (.bl b)
 |int b=>rw[aJ.mp h];exact .inl (.int b)
 |str b=>rw[mW.mp h];exact .inl (.str b)
 |tup ds=>
  cases n with
  |zero=>cases p
  |succ m=>exact .inr ⟨m,ds,rfl,rfl,p⟩
 |_=>cases n<;>cases p
def GK:V->D
 | .bl b=> .bl b
 | .int i=> .int i
 | .str x=> .str x
 |_=> .aZ
theorem Sc.back{d:D}{v:V}(h:Sc d v):d=GK v:=by cases h<;>rfl
theorem Sc.noRef{d:D}{a:Addr}(h:Sc d (.ref a)):False:=nomatch h
theorem Dat.inj:∀(n:Nat) (d e:D) (v:V),plain n d=true->plain n e=true->Dat K H d v->Dat K H e v->d=e:=by
 intro n
 induction n with
 |zero=>
  intro d e v pd pe hd he
  rcases bN pd hd with a|⟨_,_,z,_⟩
  ·rcases bN pe he with b|⟨_,_,z,_⟩
   ·exact a.back.trans b.back.symm
   ·cases z
  ·cases z
 |succ n ih=>
  intro d e v pd pe hd he
  have lists:∀(ds es:List D) (xs:List V),ds.all (plain n)=true->es.all (plain n)=true->aB K H ds xs->aB K H es xs->ds=es:=by
   intro ds
   induction ds with
   |nil=>
    intro es xs _ _ h1 h2
    rw[aI.mp h1]at h2
    cases es with
    |nil=>rfl
    |cons e es=>obtain⟨_,_,z,_⟩:=aF.mp h2;cases z
   |cons d ds GL=>
    intro es xs p1 p2 h1 h2
    obtain⟨v,vs,rfl,g1,g2⟩:=aF.mp h1
    cases es with
    |nil=>cases aI.mp h2
    |cons e es=>
     obtain⟨v',vs',z,g3,g4⟩:=aF.mp h2
     injection z with z1 z2
     subst z1;subst z2
     rw[JG,IS]at p1 p2
     rw[ih d e v p1.1 p2.1 g1 g3,GL es vs p1.2 p2.2 g2 g4]
  rcases bN pd hd with sa|⟨_,ds,e1,rfl,pd⟩
  ·rcases bN pe he with sb|⟨_,es,e2,rfl,pe⟩
   ·exact sa.back.trans sb.back.symm
   ·obtain⟨b,ys,rfl,_⟩:=aP.mp he
    exact sa.noRef.elim
  ·cases e1
   obtain⟨a,xs,rfl,ha,hx⟩:=aP.mp hd
   rcases bN pe he with sb|⟨_,es,e2,rfl,pe⟩
   ·exact sb.noRef.elim
   ·cases e2
    obtain⟨b,ys,z,hb,hy⟩:=aP.mp he
    cases z
    rw[ha]at hb
    cases hb
    rw[lists ds es xs pd pe hx hy]
end
theorem jI{α:Type}{p:α->Bool}{xs:List α}(h:xs.all p=true){i:Nat}{x:α}(e:xs[i]?=some x):p x=true:=(IM.mp h) x (IW e)
section
variable{X:Cx}{pins:List (Addr ×Obj)}{σ:St}{H:Hp}{s:Shared}
theorem cj{P:Program}{w:World}{h:Heap}{a:Addr}{xs:List V}(ok:d9 P w H h)(e:H a=some (.tup xs)):∃its:List Value,Vals xs its/\IsTup h a its.toArray/\xs.length<=sizeLine:=by
 obtain⟨z,its,r,p⟩:=(show bE P w H h a (.tup xs)from ok a _ e)
 exact⟨its,r,p,z⟩
theorem Sc.eq{A:Around}{d e:D}{x y:V}{u v:Value}(h:Sc d x)(k:Sc e y)(rx:RelV x u)(ry:RelV y v):SeqAt.EqAt A s u v (gc d e):=by
 cases h with
 |aZ=>
  cases rx
  cases k with
  |aZ=>cases ry;exact SeqAt.EqAt.same Value.none
  |bl b=>cases ry;exact SeqAt.EqAt.none_bool b
  |int b=>obtain⟨t,rfl⟩:=ry;exact SeqAt.EqAt.none_int b t
  |str b=>obtain⟨t,rfl⟩:=ry;exact SeqAt.EqAt.none_str b t
 |bl a=>
  cases rx
  cases k with
  |aZ=>cases ry;exact SeqAt.EqAt.bool_none a
  |bl b=>cases ry;exact SeqAt.EqAt.bool_bool a b
  |int b=>obtain⟨t,rfl⟩:=ry;exact SeqAt.EqAt.bool_int a b t
  |str b=>obtain⟨t,rfl⟩:=ry;exact SeqAt.EqAt.bool_str a b t
 |int a=>
  obtain⟨t',rfl⟩:=rx
  cases k with
  |aZ=>cases ry;exact SeqAt.EqAt.int_none a t'
  |bl b=>cases ry;exact SeqAt.EqAt.int_bool a t' b
  |int b=>obtain⟨t,rfl⟩:=ry;exact SeqAt.EqAt.int_int a t' b t
  |str b=>obtain⟨t,rfl⟩:=ry;exact SeqAt.EqAt.int_str a t' b t
 |str a=>
  obtain⟨t',rfl⟩:=rx
  cases k with
  |aZ=>cases ry;exact SeqAt.EqAt.str_none a t'
  |bl b=>cases ry;exact SeqAt.EqAt.str_bool a t' b
  |int b=>obtain⟨t,rfl⟩:=ry;exact SeqAt.EqAt.str_int a t' b t
  |str b=>obtain⟨t,rfl⟩:=ry;exact SeqAt.EqAt.str_str a t' b t
theorem Sc.zJ{A:Around}{d:D}{x:V}{u:Value}{b:Addr}{its:Array Value}{es:List D}(h:Sc d x)(rx:RelV x u)(pt:IsTup s.heap b its)(hun:A.units<cLine):SeqAt.EqAt A s u (.ref b) (gc d (.tup es)):=by
 cases h with
 |aZ=>cases rx;exact SeqAt.EqAt.none_tuple pt hun
 |bl a=>cases rx;exact SeqAt.EqAt.bool_tuple a pt hun
 |int a=>obtain⟨t,rfl⟩:=rx;exact SeqAt.EqAt.int_tuple a t pt hun
 |str a=>obtain⟨t,rfl⟩:=rx;exact SeqAt.EqAt.str_tuple a t pt hun
theorem Sc.zK{A:Around}{d:D}{x:V}{u:Value}{b:Addr}{its:Array Value}{es:List D}(h:Sc d x)(rx:RelV x u)(pt:IsTup s.heap b its)(hun:A.units<cLine):SeqAt.EqAt A s (.ref b) u (gc (.tup es) d):=by
 cases h with
 |aZ=>cases rx;exact SeqAt.EqAt.tuple_none pt hun
 |bl a=>cases rx;exact SeqAt.EqAt.tuple_bool a pt hun
 |int a=>obtain⟨t,rfl⟩:=rx;exact SeqAt.EqAt.tuple_int a t pt hun
 |str a=>obtain⟨t,rfl⟩:=rx;exact SeqAt.EqAt.tuple_str a t pt hun
theorem qO{K:PySem.W.Frag}{ds:List D}{xs:List V}{its:List Value}{j:Nat}(hx:aB K H ds xs)(rv:Vals xs its)(h1:j<its.toArray.size):∃x1,ds[j]?=some (ds.getD j .aZ)/\Dat K H (ds.getD j .aZ) x1/\RelV x1 its.toArray[j]:=by
 have hl1:=hx.length.trans rv.length
 rw[IA]at h1
 have e1:ds[j]?=some (ds.getD j .aZ):=by rw[IU,Iz (by omega)];rfl
 obtain⟨x1,g1,g2⟩:=hx.get e1
 obtain⟨u1,g5,g6⟩:=rv.get g1
 obtain rfl:its.toArray[j]=u1:=Option.some.inj ((Iz h1).symm.trans g5)
 exact⟨x1,e1,g2,g6⟩
theorem pU{P:Program}{w:World}(ok:d9 P w H s.heap){K:PySem.W.Frag}:∀(n:Nat) (A:Around) (d e:D) (x y:V) (u v:Value),A.units+n<cLine->plain n d=true->plain n e=true->Dat K H d x->Dat K H e y->RelV x u->RelV y v->SeqAt.EqAt A s u v (gc d e):=by
 intro n
 induction n with
 |zero=>
  intro A d e x y u v hu pd pe dx dy rx ry
  rcases bN pd dx with a|⟨_,_,z,_⟩
  ·rcases bN pe dy with b|⟨_,_,z,_⟩
   ·exact a.eq b rx ry
   ·cases z
  ·cases z
 |succ n ih=>
  intro A d e x y u v hu pd pe dx dy rx ry
  have hun:A.units<cLine:=Kw (Jh _ _) hu
  rcases bN pd dx with sa|⟨_,ds,e1,rfl,GN⟩
  ·rcases bN pe dy with sb|⟨_,es,e2,rfl,Fx⟩
   ·exact sa.eq sb rx ry
   ·obtain⟨b,ys,rfl,hb,hy⟩:=aP.mp dy
    obtain rfl:v=Value.ref b:=ry
    obtain⟨its2,lW,oq,hz2⟩:=cj ok hb
    exact sa.zJ rx oq hun
  ·cases e1
   obtain⟨a,xs,rfl,ha,hx⟩:=aP.mp dx
   obtain rfl:u=Value.ref a:=rx
   obtain⟨its,rv,pt,hz⟩:=cj ok ha
   rcases bN pe dy with sb|⟨_,es,e2,rfl,Fx⟩
   ·exact sb.zK ry pt hun
   ·cases e2
    obtain⟨b,ys,rfl,hb,hy⟩:=aP.mp dy
    obtain rfl:v=Value.ref b:=ry
    obtain⟨its2,lW,oq,hz2⟩:=cj ok hb
    by_cases hab:a=b
    ·subst hab
     rw[<-Dat.inj (K:=K) (H:=H) (n+1) _ _ _ pd pe dx dy,fj (n+1) _ pd]
     exact SeqAt.EqAt.same _
    ·refine SeqAt.EqAt.of_refs hab ?_
     have key:=SeqAt.RcAt.tuples (A:=A) (s:=s) (e:=λj=>gc (ds.getD j .aZ) (es.getD j .aZ)) pt oq hun (λj h1 h2=>by
      obtain⟨x1,q1,q2,q3⟩:=qO hx rv h1
      obtain⟨y1,p1,p2,p3⟩:=qO hy lW h2
      exact ih A.in1 _ _ x1 y1 _ _ (by show A.units+1+n<cLine;omega) (jI GN q1) (jI Fx p1) q2 p2 q3 p3)
     rw[gU,dG]
     simp only[IA,<-hx.length.trans rv.length,<-hy.length.trans lW.length]at key
     exact key
def yW:D->D->Bool
 | .bl _,.int _=>false| .bl _,.str _=>false| .int _,.bl _=>false| .int _,.str _=>false| .str _,.bl _=>false| .str _,.int _=>false
 |_,_=>true
def wF(d e:D):Bool:=plain 0 d && plain 0 e && yW d e
def wG(d e:D):Bool:=match d,e with
 | .tup ds,.tup es=>plain 10 (.tup ds) && plain 10 (.tup es)
 |d,e=>wF d e
def Em:R3:=λd e M Q=>wG d e=true/\Q (.bl (gc d e)) M
def Eo:R3:=λd e M Q=>wG d e=true/\Q (.bl (!gc d e)) M
theorem Sc.GO{d e:D}{x y:V}(a:Sc d x)(b:Sc e y)(h:yW d e=true):we x y=true/\decide (x=y)=gc d e:=by
 cases a with
 |aZ=>cases b<;>exact⟨rfl,rfl⟩
 |bl p=>
  cases b with
  |aZ=>exact⟨rfl,rfl⟩
  |bl q=>exact⟨rfl,pO⟩
  |int q=>cases h
  |str q=>cases h
 |int p=>
  cases b with
  |aZ=>exact⟨rfl,rfl⟩
  |bl q=>cases h
  |int q=>exact⟨rfl,mO⟩
  |str q=>cases h
 |str p=>
  cases b with
  |aZ=>exact⟨rfl,rfl⟩
  |bl q=>cases h
  |int q=>cases h
  |str q=>exact⟨rfl,mP⟩
theorem um{K:PySem.W.Frag}{d e:D}{x y:V}(h:wF d e=true)(dx:Dat K H d x)(dy:Dat K H e y):we x y=true/\decide (x=y)=gc d e:=by
 obtain⟨h,k⟩:=Jy.mp h
 obtain⟨h1,h2⟩:=Jy.mp h
 rcases bN h1 dx with a|⟨_,_,z,_⟩
 ·rcases bN h2 dy with b|⟨_,_,z,_⟩
  ·exact a.GO b k
  ·cases z
 ·cases z
theorem iS{P:Program}{w:World}(ok:d9 P w H s.heap){K:PySem.W.Frag}{A:Around}{ds es:List D}{xs ys:List V}{its its2:List Value}{n:Nat}(hu:A.units+n<cLine)(pd:ds.all (plain n)=true)(pe:es.all (plain n)=true)(hx:aB K H ds xs)(hy:aB K H es ys)(rv:Vals xs its)(lW:Vals ys its2) :
 ∀j (h1:j<its.toArray.size) (h2:j<its2.toArray.size),SeqAt.EqAt A s its.toArray[j] its2.toArray[j] (gc (ds.getD j .aZ) (es.getD j .aZ)):=by
 intro j h1 h2
 obtain⟨x1,q1,q2,q3⟩:=qO hx rv h1
 obtain⟨y1,p1,p2,p3⟩:=qO hy lW h2
 exact pU ok n A _ _ x1 y1 _ _ hu (jI pd q1) (jI pe p1) q2 p2 q3 p3
theorem dH(hu:X.A.units+64<cLine):jd X (compareOp .Eq) Em:=by
 constructor
 intro pins s σ H M x y d e v u Q I rm rx ry dx dy ⟨hk,q⟩
 by_cases ht:∃ds es,d= .tup ds/\e= .tup es
 ·obtain⟨ds,es,rfl,rfl⟩:=ht
  have hk:(plain 10 (.tup ds) && plain 10 (.tup es))=true:=hk
  rw[IS]at hk
  obtain⟨a,xs,rfl,ha,hx⟩:=aP.mp dx
  obtain⟨b,ys,rfl,hb,hy⟩:=aP.mp dy
  obtain rfl:v=Value.ref a:=rx
  obtain rfl:u=Value.ref b:=ry
  obtain⟨its,rv,pt,hz⟩:=cj I.hok ha
  obtain⟨its2,lW,oq,hz2⟩:=cj I.hok hb
  have hl1:=hx.length.trans rv.length
  have hl2:=hy.length.trans lW.length
  refine SeqAt.RcAt.tuples (A:=X.A) (s:=s) (e:=λj=>gc (ds.getD j .aZ) (es.getD j .aZ)) pt oq (by omega) (iS I.hok (n:=9) (by show X.A.units+1+9<cLine;omega) hk.1 hk.2 hx hy rv lW) _ _ _ _ ?_
  refine⟨.bl _,H,I,rfl,aE rm (br.mpr rfl) ?_⟩
  simp only[IA,<-hl1,<-hl2]
  rw[gU,dG]at q
  exact q
 ·have hs:wF d e=true:=by
   unfold wG at hk
   split at hk
   ·exact absurd ⟨_,_,rfl,rfl⟩ ht
   ·exact hk
  obtain⟨h1,h2⟩:=um hs dx dy
  exact Bu pins s σ H x y v u _ I rx ry ⟨h1,by rw[h2];exact aE rm (br.mpr rfl) q⟩
theorem iF(hu:X.A.units+64<cLine):jd X (compareOp .NotEq) Eo:=by
 constructor
 intro pins s σ H M x y d e v u Q I rm rx ry dx dy ⟨hk,q⟩
 by_cases ht:∃ds es,d= .tup ds/\e= .tup es
 ·obtain⟨ds,es,rfl,rfl⟩:=ht
  have hk:(plain 10 (.tup ds) && plain 10 (.tup es))=true:=hk
  rw[IS]at hk
  obtain⟨a,xs,rfl,ha,hx⟩:=aP.mp dx
  obtain⟨b,ys,rfl,hb,hy⟩:=aP.mp dy
  obtain rfl:v=Value.ref a:=rx
  obtain rfl:u=Value.ref b:=ry
  obtain⟨its,rv,pt,hz⟩:=cj I.hok ha
  obtain⟨its2,lW,oq,hz2⟩:=cj I.hok hb
  have hl1:=hx.length.trans rv.length
  have hl2:=hy.length.trans lW.length
  refine SeqAt.RcNeAt.tuples (A:=X.A) (s:=s) (e:=λj=>gc (ds.getD j .aZ) (es.getD j .aZ)) pt oq (by omega) (iS I.hok (n:=9) (by show X.A.units+1+9<cLine;omega) hk.1 hk.2 hx hy rv lW) _ _ _ _ ?_
  refine⟨.bl _,H,I,rfl,aE rm (br.mpr rfl) ?_⟩
  simp only[IA,<-hl1,<-hl2]
  rw[gU,dG]at q
  exact q
 ·have hs:wF d e=true:=by
   unfold wG at hk
   split at hk
   ·exact absurd ⟨_,_,rfl,rfl⟩ ht
   ·exact hk
  obtain⟨h1,h2⟩:=um hs dx dy
  exact Bv pins s σ H x y v u _ I rx ry ⟨h1,by rw[h2];exact aE rm (br.mpr rfl) q⟩
noncomputable def Dm(K:PySem.W.Frag)(H:Hp)(v:V):D:=open Classical in if h:∃d,plain 9 d=true/\Dat K H d v then h.choose else .aZ
theorem zL{K:PySem.W.Frag}{d:D}{v:V}(p:plain 9 d=true)(h:Dat K H d v):Dm K H v=d:=by
 have hx:∃d,plain 9 d=true/\Dat K H d v:=⟨d,p,h⟩
 unfold Dm
 rw[dif_pos hx]
 exact Dat.inj 9 _ _ v hx.choose_spec.1 p hx.choose_spec.2 h
noncomputable def pI(K:PySem.W.Frag)(H:Hp)(d:D)(u:Value):Bool:=match Bh u with
 |some v=>gc (Dm K H v) d
 |none=>false
theorem uo{K:PySem.W.Frag}{d e:D}{v:V}{u:Value}(p:plain 9 e=true)(h:Dat K H e v)(r:RelV v u):pI K H d u=gc e d:=by
 unfold pI
 rw[r.abs]
 show gc (Dm K H v) d=_
 rw[zL p h]
theorem iT{K:PySem.W.Frag}{d:D}:∀{es:List D} {xs:List V} {us:List Value},aB K H es xs->Vals xs us->es.all (plain 9)=true->us.any (pI K H d)=es.any λe=>gc e d
 |[],xs,us,h,r,_=>by rw[aI.mp h]at r;cases r;rfl
 |e::es,xs,us,h,r,p=>by
  obtain⟨v,vs,rfl,h1,h2⟩:=aF.mp h
  cases r with
  |cons r rr=>
   rw[JG,IS]at p
   rw[List.any_cons,List.any_cons,uo p.1 h1 r,iT h2 rr p.2]
theorem iU{P:Program}{w:World}(ok:d9 P w H s.heap){K:PySem.W.Frag}{A:Around}{d:D}{x:V}{v:Value}(hu:A.units+9<cLine)(pd:plain 9 d=true)(dx:Dat K H d x)(rx:RelV x v) :
 ∀{es:List D} {xs:List V} {us:List Value},aB K H es xs->Vals xs us->es.all (plain 9)=true->∀u∈us,SeqAt.EqAt A s u v (pI K H d u)
 |[],xs,us,h,r,_,u,hm=>by rw[aI.mp h]at r;cases r;cases hm
 |e::es,xs,us,h,r,p,u,hm=>by
  obtain⟨y,ys,rfl,h1,h2⟩:=aF.mp h
  cases r with
  |cons r rr=>
   rw[JG,IS]at p
   rcases IJ.mp hm with rfl|hm
   ·rw[uo p.1 h1 r]
    exact pU ok 9 A _ _ _ _ _ _ hu p.1 pd h1 dx r rx
   ·exact iU ok hu pd dx rx h2 rr p.2 u hm
def inD(d:D)(es:List D):Bool:=es.any λe=>gc e d
def zM(M:Mp)(e:D)(es:List D):Prop:=e= .tup es\/∃a,e= .ref a/\M a=some (.lst es)
def BP(neg:Bool):R3:=λd e M Q=>∃es,zM M e es/\plain 9 d=true/\es.all (plain 9)=true/\Q (.bl (if neg then !inD d es else inD d es)) M
theorem BQ(hu:X.A.units+64<cLine):jd X (compareOp .In) (BP false):=by
 constructor
 intro pins s σ H M x y d e v u Q I rm rx ry dx dy ⟨es,hs,pd,pe,q⟩
 rcases hs with rfl|⟨a,rfl,hM⟩
 ·obtain⟨b,ys,rfl,hb,hy⟩:=aP.mp dy
  obtain rfl:u=Value.ref b:=ry
  obtain⟨its,rv,pt,hz⟩:=cj I.hok hb
  refine SeqAt.in_tupleAt (pI X.K H d) pt (λw hw=>iU I.hok (by show X.A.units+1+9<cLine;omega) pd dx rx hy rv pe w (by simpa using hw)) ⟨.bl _,H,I,rfl,aE rm (br.mpr rfl) ?_⟩
  rw[show its.toArray.any (pI X.K H d)=its.any (pI X.K H d)by simp,iT hy rv pe]
  exact q
 ·obtain rfl:=aO.mp dy
  obtain rfl:u=Value.ref a:=ry
  obtain⟨ys,hb,hy⟩:=rm.lst hM
  obtain⟨its,rv,pl,hz⟩:=I.list (gY.of hb)
  refine SeqAt.in_listAt (pI X.K H d) pl.isList (λw hw=>iU I.hok (by show X.A.units+1+9<cLine;omega) pd dx rx hy rv pe w (by simpa using hw)) ⟨.bl _,H,I,rfl,aE rm (br.mpr rfl) ?_⟩
  rw[show its.toArray.any (pI X.K H d)=its.any (pI X.K H d)by simp,iT hy rv pe]
  exact q
theorem iV(hu:X.A.units+64<cLine):jd X (compareOp .NotIn) (BP true):=by
 constructor
 intro pins s σ H M x y d e v u Q I rm rx ry dx dy ⟨es,hs,pd,pe,q⟩
 rcases hs with rfl|⟨a,rfl,hM⟩
 ·obtain⟨b,ys,rfl,hb,hy⟩:=aP.mp dy
  obtain rfl:u=Value.ref b:=ry
  obtain⟨its,rv,pt,hz⟩:=cj I.hok hb
  refine SeqAt.notIn_tupleAt (pI X.K H d) pt (λw hw=>iU I.hok (by show X.A.units+1+9<cLine;omega) pd dx rx hy rv pe w (by simpa using hw)) ⟨.bl _,H,I,rfl,aE rm (br.mpr rfl) ?_⟩
  rw[show its.toArray.any (pI X.K H d)=its.any (pI X.K H d)by simp,iT hy rv pe]
  exact q
 ·obtain rfl:=aO.mp dy
  obtain rfl:u=Value.ref a:=ry
  obtain⟨ys,hb,hy⟩:=rm.lst hM
  obtain⟨its,rv,pl,hz⟩:=I.list (gY.of hb)
  refine SeqAt.notIn_listAt (pI X.K H d) pl.isList (λw hw=>iU I.hok (by show X.A.units+1+9<cLine;omega) pd dx rx hy rv pe w (by simpa using hw)) ⟨.bl _,H,I,rfl,aE rm (br.mpr rfl) ?_⟩
  rw[show its.toArray.any (pI X.K H d)=its.any (pI X.K H d)by simp,iT hy rv pe]
  exact q
theorem je{K:PySem.W.Frag}:∀{ns:List Int} {xs:List V},aB K H (ns.map D.int) xs->xs=ns.map V.int
 |[],xs,h=>aI.mp h
 |n::ns,xs,h=>by
  obtain⟨v,vs,rfl,h1,h2⟩:=aF.mp h
  rw[aJ.mp h1,je h2];rfl
def BE:R3:=λd e M Q=>∃ns ms:List Int,d= .tup (ns.map D.int)/\e= .tup (ms.map D.int)/\Q (.bl (HT.lexLt ns ms)) M
theorem BR(hu:X.A.units+64<cLine):jd X (compareOp .Lt) BE:=by
 constructor
 intro pins s σ H M x y d e v u Q I rm rx ry dx dy ⟨ns,ms,e1,e2,q⟩
 subst e1;subst e2
 obtain⟨a,xs,rfl,ha,hx⟩:=aP.mp dx
 obtain⟨b,ys,rfl,hb,hy⟩:=aP.mp dy
 obtain rfl:v=Value.ref a:=rx
 obtain rfl:u=Value.ref b:=ry
 obtain⟨its,rv,pt,hz⟩:=cj I.hok ha
 obtain⟨its2,lW,oq,hz2⟩:=cj I.hok hb
 rw[je hx]at rv
 rw[je hy]at lW
 exact HT.iC pt oq (by simpa using intsAre_of rv) (by simpa using intsAre_of lW) (by omega) ⟨.bl _,H,I,rfl,aE rm (br.mpr rfl) q⟩
end
end L3
namespace L3
open PySem PySem.Spec PyProof.Rows L2
section
variable{X:Cx}{a b c e:Expr}{es:List Expr}{ta tb tc te:bT}{t:oh}{pos p:Pos}
def BS:oh:=λ_ M Q=>Q [] M
def zN(ta:bT)(tr:oh):oh:=λρ M Q=>ta ρ M λx M1=>tr ρ M1 λxs M2=>Q (x::xs) M2
theorem ao:rY X [] BS:=⟨λpos pins s σ H ρ M Q I r h=>mQ pos pins s σ H _ I ⟨[],M,.refl _ _,aI.mpr rfl,r.mem,h⟩⟩
theorem af(ha:bJ X e te)(hr:rY X es t)(hs:starEach (e::es) X.env=(false,eval e X.env)::starEach es X.env:=by rfl):rY X (e::es) (zN te t):=⟨λpos pins s σ H ρ M Q I r h=>
 jH ha.dn hr.dn hs pos pins s σ H _ I (cy r h λv H' d M' f dv r' q=>iD r' q λvs H2 ds M2 f2 sV r2 q2=>
  ⟨d::ds,M2,f.trans f2,aF.mpr ⟨v,vs,rfl,Dat.mono (f2.ext r'.mem) _ _ dv,sV⟩,r2.mem,q2⟩)⟩
def BU(t:oh):bT:=λρ M Q=>t ρ M λxs M1=>xs.length<=sizeLine/\Q (.tup xs) M1
def BV(t:oh):bT:=λρ M Q=>t ρ M λxs M1=>xs.length<=sizeLine/\∀p,M1 p=none->Q (.ref p) (aH M1 p (.lst xs))
theorem cI{x1}(h:rY X es t):bJ X (.Tuple es x1 pos) (BU t):=up (zx h.dn) λσ H ρ M Q r q=>iD r q λvs H' ds M' f dv r' ⟨hl,q⟩=>
 ⟨by rw[<-dv.length];exact hl,λp hp=>⟨.tup ds,M',f.trans (Fr.new hp λ_ _=>rfl),aP.mpr ⟨p,vs,rfl,aU,aB.mono (Ext.new hp) _ _ dv⟩,r'.mem.new hp,q⟩⟩
theorem gf(h:rY X es t):bJ X (.List es pos) (BV t):=up (zy h.dn) λσ H ρ M Q r q=>iD r q λvs H' ds M' f dv r' ⟨hl,q⟩=>
 ⟨by rw[<-dv.length];exact hl,λp hp=>⟨.ref p,aH M' p (.lst ds),f.trans (Fr.new hp λ_ hb=>aR hb),aO.mpr rfl,r'.mem.newL hp dv,q p (r'.mem.free hp)⟩⟩
def uq(M:Mp)(e:D)(es:List D):Prop:=e= .tup es\/e= .pQ es\/∃a,e= .ref a/\M a=some (.lst es)
def Ep:R3:=λd e M Q=>∃xs i z,uq M d xs/\e= .int i/\oG xs i=some z/\Q z M
theorem zO{α β:Type}{xs:List α}{ys:List β}(h:xs.length=ys.length){i:Int}{z:α}(e:oG xs i=some z):∃j,yp ys.length i=some j/\xs[j]?=some z:=by
 unfold oG at e
 rw[h]at e
 cases q:yp ys.length i with
 |none=>rw[q]at e;cases e
 |some j=>rw[q]at e;exact⟨j,rfl,e⟩
theorem jZ{K:PySem.W.Frag}{H:Hp}{ds:List D}{xs:List V}(h:aB K H ds xs){i:Int}{z:D}(e:oG ds i=some z):∃v,oG xs i=some v/\Dat K H z v:=by
 obtain⟨j,h1,h2⟩:=zO h.length e
 obtain⟨v,h3,h4⟩:=h.get h2
 refine⟨v,?_,h4⟩
 unfold oG
 rw[h1]
 exact h3
theorem bu(ha:bJ X a ta)(hb:bJ X b tb)(hs:mS b:=by intro _ _;rfl):bJ X (.Subscript a b pos) (uc Ep ta tb):=up (yr (wz.or zB) ha.dn hb.dn hs) λσ H ρ M Q r q=>
 cy r q λv H' d M' f dv r' q=>cy r' q λu H2 e M2 f2 du r2 ⟨xs,i,z,hq,ei,at',q⟩=>by
  subst ei
  obtain rfl:=aJ.mp du
  have BW:=Dat.mono (f2.ext r'.mem) _ _ dv
  have fin:∀w,Dat X.K H2 z w->Post X.K M H Q w H2:=λw dw=>⟨z,M2,f.trans f2,dw,r2.mem,q⟩
  rcases hq with rfl|rfl|⟨l,rfl,hl⟩
  ·obtain⟨p,ys,rfl,hp,hy⟩:=aP.mp BW
   obtain⟨w,h1,h2⟩:=jZ hy at'
   exact .inr ⟨p,ys,i,w,rfl,rfl,tM.of hp,h1,fin w h2⟩
  ·obtain⟨p,ys,rfl,hp,hy⟩:=iN.mp BW
   obtain⟨w,h1,h2⟩:=jZ hy at'
   exact .inl ⟨p,ys,i,w,rfl,rfl,hp.sq,h1,fin w h2⟩
  ·obtain rfl:=aO.mp BW
   obtain⟨ys,hp,hy⟩:=r2.mem.lst hl
   obtain⟨w,h1,h2⟩:=jZ hy at'
   exact .inl ⟨l,ys,i,w,rfl,rfl,gY.of hp,h1,fin w h2⟩
structure Call3(X:Cx)(f:Value)(t:List D->Mp->DK->Prop):Prop where
 run:∀(pins:List (Addr ×Obj)) (s:Shared) (σ:St) (H:Hp) (M:Mp) (xs:List V) (ds:List D) (us:List Value) (Q:DK),Inv X pins σ H s->aV X.K H M->Vals xs us->aB X.K H ds xs->t ds M Q->
  wpAny (model X.prog X.w) X.A (call f us) (EP X pins σ (Post X.K M H Q)) X.xe s
theorem qP{f:Value}{r:List V->Hp->VK->Prop}{t:List D->Mp->DK->Prop}(h:ow X f r)(g:∀H M xs ds Q,aV X.K H M->aB X.K H ds xs->t ds M Q->r xs H (Post X.K M H Q)):Call3 X f t:=
 ⟨λpins s σ H M xs ds us Q I rm rs dx q=>h pins s σ H xs us _ I rs (g H M xs ds Q rm dx q)⟩
def BX(r:List D->Mp->DK->Prop)(t:oh):bT:=λρ M Q=>t ρ M λds M1=>r ds M1 Q
variable{x:Str}{id T:String}{r:List D->Mp->DK->Prop}
theorem aG(hc:Call3 X (.builtin id) r)(hg:Gl X x)(hm:X.mg x=none)(hv:bootBuiltins x=some (.builtin id))(ha:rY X (e::es) t)(hn:x≠"__name__" :=by decide)(hdb:(x==("__debug__" :Str))=false:=by decide)
 (he:starEach (e::es) X.env=(false,eval e X.env)::starEach es X.env:=by rfl)(hpl:(backTo pos (starEach es X.env)).any (·.1)=false:=by rfl):bJ X (.Call (.Name x p) (e::es) [] pos) (BX r t):=by
 constructor
 intro pins s σ H ρ M Q I r h
 refine wpAny_Call_Name_kw (iA I hg hm hv ?_ hn hdb)
 refine PyProof.Rows.callWith_builtin1 (bU (ha.run pos pins s σ H ρ M _ I r h) λus s1 ⟨vs,H1,I1,r1,ds,M1,f1,d1,g7,q1⟩=>?_) he hpl
 exact bU (hc.run pins s1 σ H1 M1 vs ds us Q I1 g7 r1 d1 q1) λ_ _ ⟨z,H3,I3,r3,p⟩=>⟨z,H3,I3,r3,p.back f1⟩
theorem yy(hc:Call3 X (.type T) r)(hg:Gl X x)(hm:X.mg x=none)(hv:bootBuiltins x=some (.type T))(ha:rY X (e::es) t)(hn:x≠"__name__" :=by decide)(hdb:(x==("__debug__" :Str))=false:=by decide)
 (he:starEach (e::es) X.env=(false,eval e X.env)::starEach es X.env:=by rfl)(hpl:(backTo pos (starEach es X.env)).any (·.1)=false:=by rfl):bJ X (.Call (.Name x p) (e::es) [] pos) (BX r t):=by
 constructor
 intro pins s σ H ρ M Q I r h
 refine wpAny_Call_Name_kw (iA I hg hm hv ?_ hn hdb)
 refine PyProof.Rows.callWith_type1 (bU (ha.run pos pins s σ H ρ M _ I r h) λus s1 ⟨vs,H1,I1,r1,ds,M1,f1,d1,g7,q1⟩=>?_) he hpl
 exact bU (hc.run pins s1 σ H1 M1 vs ds us Q I1 g7 r1 d1 q1) λ_ _ ⟨z,H3,I3,r3,p⟩=>⟨z,H3,I3,r3,p.back f1⟩
theorem oO{K:PySem.W.Frag}{H:Hp}{d:D}{xs:List V}(h:aB K H [d] xs):∃v,xs=[v]/\Dat K H d v:=by
 obtain⟨v,vs,rfl,h1,h2⟩:=aF.mp h
 rw[aI.mp h2]
 exact⟨v,rfl,h1⟩
theorem j0{K:PySem.W.Frag}{H:Hp}{d e:D}{xs:List V}(h:aB K H [d,e] xs):∃v u,xs=[v,u]/\Dat K H d v/\Dat K H e u:=by
 obtain⟨v,vs,rfl,h1,h2⟩:=aF.mp h
 obtain⟨u,rfl,h3⟩:=oO h2
 exact⟨v,u,rfl,h1,h3⟩
def Er:List D->Mp->DK->Prop:=λds M Q=>∃d xs,ds=[d]/\uq M d xs/\Q (.int xs.length) M
theorem cz:Call3 X (.builtin "len") Er:=qP mU λH M xs ds Q rm dx ⟨d,ys,ei,hs,q⟩=>by
 subst ei
 obtain⟨v,rfl,hv⟩:=oO dx
 rcases hs with rfl|rfl|⟨l,rfl,hl⟩
 ·obtain⟨p,zs,rfl,hp,hz⟩:=aP.mp hv
  exact⟨p,zs,rfl,.inr (tM.of hp),aE rm (aJ.mpr (by rw[hz.length])) q⟩
 ·obtain⟨p,zs,rfl,hp,hz⟩:=iN.mp hv
  exact⟨p,zs,rfl,.inl hp.sq,aE rm (aJ.mpr (by rw[hz.length])) q⟩
 ·obtain rfl:=aO.mp hv
  obtain⟨zs,hp,hz⟩:=rm.lst hl
  exact⟨l,zs,rfl,.inl (gY.of hp),aE rm (aJ.mpr (by rw[hz.length])) q⟩
def BY:List D->Mp->DK->Prop:=λds M Q=>∃i j:Int,ds=[.int i,.int j]/\Q (.int (max i j)) M
def BZ:List D->Mp->DK->Prop:=λds M Q=>∃i j:Int,ds=[.int i,.int j]/\Q (.int (min i j)) M
theorem zP(hc:X.calm=true):Call3 X (.builtin "max") BY:=qP (rR hc) λH M xs ds Q rm dx ⟨i,j,ei,q⟩=>by
 subst ei
 obtain⟨v,u,rfl,hv,hu⟩:=j0 dx
 obtain rfl:=aJ.mp hv
 obtain rfl:=aJ.mp hu
 refine⟨i,j,rfl,aE rm (aJ.mpr rfl) ?_⟩
 have e:(if j>i then j else i)=max i j:=by split<;>omega
 rw[e]
 exact q
theorem zQ(hc:X.calm=true):Call3 X (.builtin "min") BZ:=qP (rS hc) λH M xs ds Q rm dx ⟨i,j,ei,q⟩=>by
 subst ei
 obtain⟨v,u,rfl,hv,hu⟩:=j0 dx
 obtain rfl:=aJ.mp hv
 obtain rfl:=aJ.mp hu
 refine⟨i,j,rfl,aE rm (aJ.mpr rfl) ?_⟩
 have e:(if j<i then j else i)=min i j:=by split<;>omega
 rw[e]
 exact q
inductive ur(M:Mp):D->String->Prop where
 |aZ:ur M .aZ "NoneType"
 |bl (b:Bool):ur M (.bl b) "bool"
 |int (i:Int):ur M (.int i) "int"
 |str (x:Str):ur M (.str x) "str"
 |tup (ds:List D):ur M (.tup ds) "tuple"
 |lst {a:Addr} {ds:List D} (h:M a=some (.lst ds)):ur M (.ref a) "list"
 |dct:ur M (.zE "dict") "dict"
def Es(K:PySem.W.Frag):List D->Mp->DK->Prop:=λds M Q=>∃d n m b,ds=[d,.ty m]/\ur M d n/\PySem.W.kitOne K (.type n) (.type m)=some b/\Q (.bl b) M
theorem bf:Call3 X (.builtin "isinstance") (Es X.K):=by
 constructor
 intro pins s σ H M xs ds us Q I rm rs dx ⟨d,n,m,b,ei,ty,hk,q⟩
 subst ei
 obtain⟨v,u,rfl,hv,hu⟩:=j0 dx
 obtain rfl:=pR.mp hu
 obtain⟨v',u',rfl,r1,r2⟩:=vals2 rs
 obtain rfl:u'=Value.type m:=r2
 have fin:∀tk,EP X pins σ (Post X.K M H Q) (.bool b) {s with toks:=tk}:=λtk=>⟨.bl b,H,I.tok tk,rfl,aE rm (br.mpr rfl) q⟩
 cases ty with
 |aZ=>obtain rfl:=cN.mp hv;exact dj I r1 .aZ hk fin
 |bl k=>obtain rfl:=br.mp hv;exact dj I r1 (.bl k) hk fin
 |int i=>obtain rfl:=aJ.mp hv;exact dj I r1 (.int i) hk fin
 |str z=>obtain rfl:=mW.mp hv;exact dj I r1 (.str z) hk fin
 |tup zs=>
  obtain⟨p,ys,rfl,hp,hy⟩:=aP.mp hv
  exact dj I r1 (.tup hp) hk fin
 |lst hM=>
  obtain rfl:=aO.mp hv
  obtain⟨ys,hp,hy⟩:=rm.lst hM
  exact dj I r1 (.lst hp) hk fin
 |dct=>
  obtain⟨p,o,u,rfl,hp,hc⟩:=qM.mp hv
  cases(show v'=Value.ref p from r1)
  obtain⟨h1,_⟩:=(show bE X.prog X.w H s.heap p (.fZ o u)from I.hok p _ hp)
  exact PySem.W.kia_one PySem.W.kitx_dict I.n6 ⟨o,h1,hc⟩ hk (λz=>nomatch z) fin
abbrev sW:=List D->(D->Prop)->Prop
def vQ(K:PySem.W.Frag)(S:sW):Sp:=λvs H Q _=>∃ds Q0,aB K H ds vs/\S ds Q0/\∀d v H',Q0 d->Dat K H' d v->(∀b o,H b=some o->H' b=some o)->Q v H'
abbrev mX:=List D->Mp->DK->Prop
def mY(K:PySem.W.Frag)(S:mX):Sp:=λvs H Q _=>∃ds M Q0,aB K H ds vs/\aV K H M/\S ds M Q0/\∀d M' v H',Q0 d M'->Dat K H' d v->aV K H' M'->Fr M H M' H'->Q v H'
theorem iW{K:PySem.W.Frag}{H:Hp}{ds:List D}{vs:List V}(h:aB K H ds vs):aB K H ds (vs++[]):=by simpa using h
theorem Ext.keep{H H':Hp}(h:∀b o,H b=some o->H' b=some o):Ext H H':=⟨λb _ e=>h b _ e,λb _ _ e=>h b _ e⟩
theorem aV.keep{K:PySem.W.Frag}{H H':Hp}{M:Mp}(r:aV K H M)(h:∀b o,H b=some o->H' b=some o):aV K H' M:=λa o e=>(r a o e).mono (Ext.keep h) λu q=>h _ _ q
variable{k:Nat}{f:Addr}{fd:FuncData}{ps:List Str}
def zR(S:sW)(t:oh):bT:=λρ M Q=>t ρ M λds M1=>S ds λd=>Q d M1
def zS(S:mX)(t:oh):bT:=λρ M Q=>t ρ M λds M1=>S ds M1 Q
theorem b7{S:sW}(F:b9 X.prog X.w X.K X.mg X.base dR k f fd ps (vQ X.K S))(hr:bV k X.A)(hg:Gl X x)(hm:X.mg x=some (.ref f))(hk:PySem.W.keepIn X.K (.ref f)=true)(hb:Binds X.K fd ps [])
 (ha:rY X (e::es) t)(hdb:(x==("__debug__" :Str))=false:=by decide)(he:starEach (e::es) X.env=(false,eval e X.env)::starEach es X.env:=by rfl)(hpl:(backTo pos (starEach es X.env)).any (·.1)=false:=by rfl) :
 bJ X (.Call (.Name x p) (e::es) [] pos) (zR S t):=
 up (qG (sV:=[]) (E:=E0) F hr hg hm hk hb .nil yt ha.dn hdb he hpl) λσ H ρ M Q r q=>iD r q λvs H' ds M' f dv r' q=>
  ⟨ds,_,iW dv,q,λd v H2 q2 d2 kp=>⟨d,M',f.trans λb o n e=>⟨kp b o e,n⟩,d2,r'.mem.keep kp,q2⟩⟩
theorem cV{S:mX}(F:b9 X.prog X.w X.K X.mg X.base dR k f fd ps (mY X.K S))(hr:bV k X.A)(hg:Gl X x)(hm:X.mg x=some (.ref f))(hk:PySem.W.keepIn X.K (.ref f)=true)(hb:Binds X.K fd ps [])
 (ha:rY X (e::es) t)(hdb:(x==("__debug__" :Str))=false:=by decide)(he:starEach (e::es) X.env=(false,eval e X.env)::starEach es X.env:=by rfl)(hpl:(backTo pos (starEach es X.env)).any (·.1)=false:=by rfl) :
 bJ X (.Call (.Name x p) (e::es) [] pos) (zS S t):=
 up (qG (sV:=[]) (E:=E0) F hr hg hm hk hb .nil yt ha.dn hdb he hpl) λσ H ρ M Q r q=>iD r q λvs H' ds M' f dv r' q=>
  ⟨ds,M',_,iW dv,r'.mem,q,λd M2 v H2 q2 d2 wD f2=>⟨d,M2,f.trans f2,d2,wD,q2⟩⟩
end
section
variable{X:Cx}{st:Stmt}{rest:List Stmt}{t u:gT}{e:Expr}{te:bT}{pos:Pos}
def zT:gT:=λD ρ M=>D.nx ρ M
def B0(t u:gT):gT:=λD ρ M=>t {D with nx:=u D} ρ M
theorem pT.dn{st:Stmt}{t:gT}(h:pT X st t):PS X st (Di X.K t):=λpins s σ H D' I ⟨ρ,M,D,r,q,k1,k2,k3,k4⟩=>
 bU (h.run pins s σ H ρ M D I r q) λf s' z=>by
  cases f with
  |next=>obtain⟨σ',H',I',p⟩:=z;exact⟨σ',H',I',k1 _ _ p⟩
  |brk=>obtain⟨σ',H',I',p⟩:=z;exact⟨σ',H',I',k3 _ _ p⟩
  |cont=>obtain⟨σ',H',I',p⟩:=z;exact⟨σ',H',I',k4 _ _ p⟩
  |ret u=>obtain⟨v,σ',H',I',rv,p⟩:=z;exact⟨v,σ',H',I',rv,k2 _ _ p⟩
theorem zU{sts:List Stmt}{te:TS}{t:gT}(h:qD X sts te)(g:∀σ H ρ M D,Rep X.K H σ ρ M->t D ρ M->te (ends X.K M H D) σ H):fE X sts t:=
 ⟨λpins s σ H ρ M D I r q=>h pins s σ H _ I (g σ H ρ M D r q)⟩
theorem iX{K:PySem.W.Frag}{M0:Mp}{H0:Hp}{σ:St}{H:Hp}{ρ:En}{M:Mp}{D:yu}{t:gT}(f:Fr M0 H0 M H)(r:Rep K H σ ρ M)(q:t D ρ M):Di K t (ends K M0 H0 D) σ H:=
 ⟨ρ,M,D,r,q,λ_ _ p=>p.back f,λ_ _ p=>p.back f,λ_ _ p=>p.back f,λ_ _ p=>p.back f⟩
theorem aX:fE X [] zT:=zU v5 λσ H ρ M D r q=>⟨ρ,M,.refl _ _,r,q⟩
theorem av(h1:pT X st t)(h2:fE X rest u):fE X (st::rest) (B0 t u):=zU (tO h1.dn h2.dn) λσ H ρ M D r q=>
 ⟨ρ,M,_,r,q,λσ' H' ⟨ρ',M',f,r',q'⟩=>iX f r' q',λ_ _ p=>p,λ_ _ p=>p,λ_ _ p=>p⟩
theorem aC(h1:pT X st t):fE X [st] t:=zU (v7 h1.dn) λσ H ρ M D r q=>iX (.refl _ _) r q
def zV(te:bT):gT:=λD ρ M=>te ρ M λ_ M1=>D.nx ρ M1
theorem pV(he:bJ X e te)(hs:swapsWith e none pos.line X.env=pure false:=by rfl):pT X (.Expr e pos) (zV te):=yw (v8 he.dn hs) λσ H ρ M D r q=>cy r q λv H' d M' f dv r' q=>⟨ρ,M',f,r',q⟩
def B3(te:bT):gT:=λD ρ M=>te ρ M D.rt
theorem aK(he:bJ X e te):pT X (.Return (some e) pos) (B3 te):=yw (zd he.dn) λσ H ρ M D r q=>⟨ρ,M,_,r,q,λ_ _ p=>p⟩
def B4(c:iO)(t u:gT):gT:=λD ρ M=>c ρ M λb M1=>if b=true then t D ρ M1 else u D ρ M1
theorem bM{c:Expr}{a b:List Stmt}{tc:iO}(hc:pS X c tc)(ha:fE X a t)(hb:fE X b u):pT X (.If c a b pos) (B4 tc t u):=yw (Bl hc.dn ha.dn hb.dn) λσ H ρ M D r q=>jW r q λk H' M' f r' q=>by
 cases k with
 |true=>exact iX f r' q
 |false=>exact iX f r' q
def B5(i:Nat)(te:bT):gT:=λD ρ M=>te ρ M λx M1=>D.nx (ρ.set i (some x)) M1
theorem bw{i:Nat}{x:Str}{pos':Pos}(hN:X.N.Nodup)(hi:X.N[i]?=some x)(hx:Loc X.env.scope x)(he:bJ X e te)(hs:swapsWith e (some (.Name x pos')) pos.line X.env=pure false:=by rfl)(hf:X.fn x=true\/X.env.scope.names.lookup x=some .local:=by first|exact .inl rfl|exact .inr rfl|assumption) :
 pT X (.Assign [.Name x pos'] e pos) (B5 i te):=yw (zf hN hi hx he.dn hs hf) λσ H ρ M D r q=>cy r q λv H' d M' f dv r' q=>⟨ρ.set i (some d),M',f,r'.set dv,q⟩
abbrev oi:=D->En->Mp->(En->Mp->Prop)->Prop
abbrev pW:=List D->En->Mp->(En->Mp->Prop)->Prop
structure uu(X:Cx)(target:Expr)(t:oi):Prop where
 run:∀(pins:List (Addr ×Obj)) (s:Shared) (σ:St) (H:Hp) (ρ:En) (M:Mp) (v:V) (d:D) (u:Value) (Q:En->Mp->Prop),Inv X pins σ H s->Rep X.K H σ ρ M->RelV v u->Dat X.K H d v->t d ρ M Q->
  wpAny (model X.prog X.w) X.A (assign target X.env u) (λ_ s'=>∃σ' H',Inv X pins σ' H' s'/\dX X.K M H Q σ' H') X.xe s
structure wH(X:Cx)(ts:List Expr)(t:pW):Prop where
 run:∀(pins:List (Addr ×Obj)) (s:Shared) (σ:St) (H:Hp) (ρ:En) (M:Mp) (vs:List V) (ds:List D) (us:List Value) (Q:En->Mp->Prop),Inv X pins σ H s->Rep X.K H σ ρ M->Vals vs us->aB X.K H ds vs->t ds ρ M Q->
  wpAny (model X.prog X.w) X.A (assignInOrder ((assignEach ts X.env).map (·.2)) us) (λ_ s'=>∃σ' H',Inv X pins σ' H' s'/\dX X.K M H Q σ' H') X.xe s
def uv(i:Nat):oi:=λd ρ M Q=>Q (ρ.set i (some d)) M
theorem cE{i:Nat}{x:Str}(hN:X.N.Nodup)(hi:X.N[i]?=some x)(hx:Loc X.env.scope x)(hf:X.fn x=true\/X.env.scope.names.lookup x=some .local:=by first|exact .inl rfl|exact .inr rfl|assumption):uu X (.Name x pos) (uv i):=
 ⟨λpins s σ H ρ M v d u Q I r rv dv q=>wc hN hi hx hf pins s σ H v u _ I rv ⟨ρ.set i (some d),M,.refl _ _,r.set dv,q⟩⟩
def B6:pW:=λds ρ M Q=>ds=[]/\Q ρ M
def zW(t:oi)(u:pW):pW:=λds ρ M Q=>∃d r,ds=d::r/\t d ρ M λρ' M'=>u r ρ' M' Q
theorem zX:wH X [] B6:=by
 constructor
 intro pins s σ H ρ M vs ds us Q I r rv dv ⟨e1,q⟩
 subst e1
 rw[aI.mp dv]at rv
 cases rv
 exact assignInOrder_nil ⟨σ,H,I,ρ,M,.refl _ _,r,q⟩
theorem qQ{e:Expr}{es:List Expr}{t:oi}{u:pW}(h1:uu X e t)(h2:wH X es u)
 (hs:(assignEach (e::es) X.env).map (·.2)=assign e X.env::(assignEach es X.env).map (·.2):=by rfl):wH X (e::es) (zW t u):=by
 constructor
 intro pins s σ H ρ M vs ds us Q I r rv dv ⟨d,dr,e1,q⟩
 subst e1
 obtain⟨v,vr,rfl,d1,d2⟩:=aF.mp dv
 cases rv with
 |cons rv rr=>
  rw[hs]
  refine assignInOrder_cons (bU (h1.run pins s σ H ρ M v d _ _ I r rv d1 q) λ_ s1 ⟨σ1,H1,I1,ρ1,M1,f1,r1,q1⟩=>?_)
  exact bU (h2.run pins s1 σ1 H1 ρ1 M1 vr dr _ Q I1 r1 rr (aB.mono (f1.ext r.mem) _ _ d2) q1) λ_ s2 ⟨σ2,H2,I2,p⟩=>⟨σ2,H2,I2,p.back f1⟩
def B7(n:Nat)(t:pW):oi:=λd ρ M Q=>∃xs,zM M d xs/\xs.length=n/\t xs ρ M Q
theorem rZ{prog:Program}{w:World}{A:Around}{E:Value->Shared->Prop}{it l:Addr}{items:Array Value}:∀(n i:Nat) (s:Shared) (Q:List Value->Shared->Prop),s.heap.IsListIter it l i->it≠l->s.heap.IsList l items->i+n<=items.size->
 (∀h',h'.IsListIter it l (i+n)->Heap.SameBut it s.heap h'->Q ((items.toList.drop i).take n) {s with heap:=h'})->wpAny (model prog w) A (draw (.ref it) n) Q E s:=by
 intro n
 induction n with
 |zero=>
  intro i s Q hit _ hl hi hQ
  have:=hQ s.heap hit (.refl ..)
  rw[List.take_zero]at this
  exact wpAny_pure this
 |succ n ih=>
  intro i s Q hit hne hl hi hQ
  have hlt:i<items.size:=by omega
  show wpAny _ _ (pyNext (.ref it) >>= _) Q E s
  refine wpAny_bind (wpAny_pyNext_list_item hit hl (x:=items[i]) (by simp[hlt]) λh₁ zY hs₁=>?_)
  refine wpAny_bind (wpAny_holding (ih (i+1) _ _ zY hne (hl.at λo e=>hs₁.extBut _ o (Ne.symm hne) e) (by omega) λh₂ Et hs₂=>wpAny_pure ?_))
  have hd:items.toList.drop i=items[i]::items.toList.drop (i+1):=by simp[Ji,hlt]
  have:=hQ h₂ (by rw[show i+(n+1)=i+1+n by omega];exact Et) (hs₁.trans hs₂)
  rw[hd,List.take_succ_cons]at this
  exact this
theorem jf{prog:Program}{w:World}{A:Around}{E:Value->Shared->Prop}{s:Shared}{t:Addr}{items:Array Value}{Q:List Value->Shared->Prop}(hh:A.handled=none)(ht:s.heap.IsList t items)
 (hQ:∀h',Heap.ExtBut s.heap.objs.size s.heap h'->Q items.toList {s with heap:=h'}):wpAny (model prog w) A (unpackItems (.ref t) items.size none) Q E s:=by
 have hlt:t≠s.heap.objs.size:=by obtain⟨o,ho,_⟩:=ht;exact IQ (Heap.lt_size ho)
 unfold unpackItems
 refine wpAny_bind ?_
 ·unfold notIterableAtAll
  refine wpAny_bind (wpAny_specialOf ht.typeIs slot_list_iter.lookup ?_)
  refine wpAny_pure ?_
  simp only[ID,if_false]
  refine wpAny_bind (wpAny_holding (wpAny_pyIter_list ht ?_))
  have ht0:(s.heap.push {cls:= .type "list_iterator",data:= .fields #[.ref t,rawInt 0]}).IsList t items:=by
   obtain⟨o,ho,c,n,d⟩:=id ht
   exact⟨o,Heap.get?_push_of_some _ ho,c,n,d⟩
  refine wpAny_bind (wpAny_holding (rZ items.size 0 _ _ ⟨_,Heap.get?_push_size _ rfl,rfl,rfl⟩ (Ne.symm hlt) ht0 (by omega) λh₁ zY hs₁=>?_))
  have hall:List.take items.size (List.drop 0 items.toList)=items.toList:=by
   rw[KY];exact JM (by simp)
  rw[hall]
  rw[if_neg (by simp)]
  have ht₁:h₁.IsList t items:=ht0.at λo e=>hs₁.extBut _ o hlt e
  refine wpAny_bind (wpAny_holding (wpAny_pyNext_list_end hh zY ht₁ (by simp) λh₂ GP=>?_))
  simp only[Option.isSome_none,ID,if_false]
  refine wpAny_pure (hQ h₂ λb o hb e=>GP b o hb (hs₁.extBut b o hb (Heap.get?_push_of_some _ e)))
theorem B8{es:List Expr}{k:Nat}{t:pW}{n:Nat}(hc:X.calm=true)(h:wH X es t)
 (hn:(assignEach es X.env).length=n:=by rfl)(hst:(assignEach es X.env).findIdx? (·.1)=none:=by rfl):uu X (.Tuple es k pos) (B7 n t):=by
 constructor
 intro pins s σ H ρ M v d u Q I r rv dv ⟨xs,hq,hl,q⟩
 rcases hq with rfl|⟨a,rfl,hM⟩
 ·obtain⟨a,ys,rfl,ha,hy⟩:=aP.mp dv
  obtain rfl:u=Value.ref a:=rv
  obtain⟨its,B9,ht,hz⟩:=I.tuple (tM.of ha)
  refine assign_Tuple_tuple (I.ok.hd hc) ht (by simp[hn,<-hl,hy.length,B9.length]) hst λh' hx=>?_
  have I1:Inv X pins σ H {s with heap:=h'}:=I.kept (t':=s.toks) λb o e=>hx b o (IQ (Heap.lt_size e)) e
  exact h.run pins _ σ H ρ M ys xs _ Q I1 r (by simpa using B9) hy q
 ·obtain rfl:=aO.mp dv
  obtain rfl:u=Value.ref a:=rv
  obtain⟨ys,ha,hy⟩:=r.mem.lst hM
  obtain⟨its,B9,ht,hz⟩:=I.list (gY.of ha)
  rw[assign_Tuple]
  refine wpAny_bind (wpAny_standAt ?_)
  unfold unpack
  have hsz:(assignEach es X.env).length=its.toArray.size:=by simp[hn,<-hl,hy.length,B9.length]
  rw[hsz,hst]
  refine wpAny_bind (wpAny_holding (jf (I.ok.hd hc) ht.isList λh' hx=>?_))
  have I1:Inv X pins σ H {s with heap:=h'}:=I.kept (t':=s.toks) λb o e=>hx b o (IQ (Heap.lt_size e)) e
  exact h.run pins _ σ H ρ M ys xs _ Q I1 r (by simpa using B9) hy q
def Ca(te:bT)(g:oi):gT:=λD ρ M=>te ρ M λx M1=>g x ρ M1 D.nx
theorem Cb{tg e:Expr}{g:oi}(he:bJ X e te)(hg:uu X tg g)(hs:swapsWithSole [tg] e pos.line X.env=pure false:=by rfl)(hw:swappedStores [tg] e X.env=pure none:=by rfl)
 (h1:(assignEach [tg] X.env).map (·.2)=[assign tg X.env]:=by rfl):pT X (.Assign [tg] e pos) (Ca te g):=by
 constructor
 intro pins s σ H ρ M D I r h
 refine wpAny_Assign_stores (bU (he.run pins s σ H ρ M _ I r h) λv s1 ⟨x,H1,I1,r1,d,M1,f1,d1,g7,q1⟩=>?_) hs hw
 rw[h1]
 exact bU (hg.run pins s1 σ H1 ρ M1 x d v _ I1 (r.go f1 g7) r1 d1 q1) λ_ s2 ⟨σ2,H2,I2,p⟩=>⟨σ2,H2,I2,p.back f1⟩
def Cc(i j:Nat)(ta:oh):gT:=λD ρ M=>ta ρ M λvs M1=>∃v w,vs=[v,w]/\D.nx ((ρ.set i (some v)).set j (some w)) M1
theorem Cd{i j:Nat}{x y:Str}{a b:Expr}{ta:oh}{px py pt:Pos}{kt k2 oq}(hc:X.calm=true)(hN:X.N.Nodup)(hi:X.N[i]?=some x)(hj:X.N[j]?=some y)(hij:i≠j)
 (hx:X.env.scope.names.lookup x=some .local)(hy:X.env.scope.names.lookup y=some .local)(ha:rY X [a,b] ta)
 (hw:swappedStores [.Tuple [.Name x px,.Name y py] kt pt] (.Tuple [a,b] k2 oq) X.env=pure (some [x,y]):=by rfl)
 (hs:swapsWithSole [.Tuple [.Name x px,.Name y py] kt pt] (.Tuple [a,b] k2 oq) pos.line X.env=pure false:=by rfl) :
 pT X (.Assign [.Tuple [.Name x px,.Name y py] kt pt] (.Tuple [a,b] k2 oq) pos) (Cc i j ta):=yw (zg hc hN hi hj hij hx hy ha.dn hw hs) λσ H ρ M D r q=>iD r q λvs H' ds M' f dv r' ⟨d1,d2,e1,q⟩=>by
 subst e1
 obtain⟨v,w,rfl,h1,h2⟩:=j0 dv
 exact⟨v,w,rfl,_,M',f,(r'.set h1).set h2,q⟩
variable{o:Expr}{to:bT}{es:List Expr}{t3:oh}{apos:Pos}
@[irreducible] def bC(p:Prop):Prop:=p
theorem bC.mk{p:Prop}(h:p):bC p:=by unfold bC;exact h
theorem bC.out{p:Prop}(h:bC p):p:=by unfold bC at h;exact h
def runFor(gd:Mp->Prop)(g:oi)(tb:gT)(D:yu):List L3.D->En->Mp->Prop
 |[],ρ,M=>gd M/\D.nx ρ M
 |x::xs,ρ,M=>gd M/\g x ρ M λρ2 M2=>tb {D with nx:=runFor gd g tb D xs,ct:=runFor gd g tb D xs,bk:=D.nx} ρ2 M2
structure pX(K:PySem.W.Frag)(J:It)(inv:Hp->Prop)(ds:List L3.D):Prop where
 go:∀i H,i<ds.length->inv H->J.go i H
 yi:∀i H x H',i<ds.length->inv H->J.yi i H x H'->H'=H/\∃d,ds[i]?=some d/\Dat K H d x
 stop:∀H,inv H->J.stop ds.length H
theorem uu.dn{tg:Expr}{g:oi}(h:uu X tg g):PG X tg (λv σ H Q=>∃ρ M d Q0,Rep X.K H σ ρ M/\Dat X.K H d v/\g d ρ M Q0/\∀σ' H',dX X.K M H Q0 σ' H'->Q σ' H'):=
 λpins s σ H v u Q I rv ⟨ρ,M,d,Q0,r,dv,q,k⟩=>bU (h.run pins s σ H ρ M v d u Q0 I r rv dv q) λ_ _ ⟨σ',H',I',p⟩=>⟨σ',H',I',k _ _ p⟩
theorem j3{K:PySem.W.Frag}{J:It}{inv:Hp->Prop}{ds:List L3.D}{gd:Mp->Prop}{g:oi}{tb:gT}{D:yu}{σ:St}{H H0:Hp}{ρ:En}{M M0:Mp}(hJ:pX K J inv ds)
 (f0:Fr M0 H0 M H)(r:Rep K H σ ρ M)
 (stay:∀M1 H1,Fr M H M1 H1->aV K H1 M1->gd M1->inv H1)(q:runFor gd g tb D ds ρ M) :
 ∃W:Nat->Nat->St->Hp->Prop,(∃m,W 0 m σ H)/\∀i m σ H,W i m σ H->
  (J.stop i H/\(ends K M0 H0 D).nx σ H)\/(J.go i H/\∃N:St->Hp->Prop,(∀σ' H',N σ' H'->∃m',m'<m/\W (i+1) m' σ' H')/\∀x H',J.yi i H x H'->
    (∃ρ M d Q0,Rep K H' σ ρ M/\Dat K H' d x/\g d ρ M Q0/\∀σ2 H2,dX K M H' Q0 σ2 H2->Di K tb { (ends K M0 H0 D)with nx:=N,ct:=N,bk:=(ends K M0 H0 D).nx} σ2 H2)):=by
 refine⟨λi m σ1 H1=>m=ds.length-i/\i<=ds.length/\∃ρ1 M1,Fr M H M1 H1/\Rep K H1 σ1 ρ1 M1/\runFor gd g tb D (ds.drop i) ρ1 M1,⟨ds.length,by simp,IE _,ρ,M,.refl _ _,r,by simpa using q⟩,?_⟩
 rintro i m σ1 H1 ⟨rfl,hi,ρ1,M1,f1,r1,q1⟩
 by_cases hlt:i<ds.length
 ·have hdr:ds.drop i=ds[i]::ds.drop (i+1):=Ji hlt
  rw[hdr]at q1
  obtain⟨hg,q1⟩:=q1
  have Fy:=stay M1 H1 f1 r1.mem hg
  refine .inr ⟨hJ.go i H1 hlt Fy,λσ' H'=>∃ρ' M',Fr M H M' H'/\Rep K H' σ' ρ' M'/\runFor gd g tb D (ds.drop (i+1)) ρ' M',λσ' H' ⟨ρ',M',f',r',q'⟩=>⟨ds.length-(i+1),by omega,rfl,hlt,ρ',M',f',r',q'⟩,λx H' y=>?_⟩
  obtain⟨e,d,hd1,hd2⟩:=hJ.yi i H1 x H' hlt Fy y
  subst e
  have ed:d=ds[i]:=Option.some.inj (hd1.symm.trans (Iz hlt))
  subst ed
  refine⟨ρ1,M1,_,_,r1,hd2,q1,λσ2 H2 ⟨ρ2,M2,f2,r2,q2⟩=>?_⟩
  have Ce:=f1.trans f2
  have FA:=f0.trans Ce
  exact⟨ρ2,M2,_,r2,q2,λσ' H' ⟨ρ',M',f,r',z⟩=>⟨ρ',M',Ce.trans f,r',z⟩,λ_ _ p=>p.back FA,λ_ _ p=>p.back FA,λσ' H' ⟨ρ',M',f,r',z⟩=>⟨ρ',M',Ce.trans f,r',z⟩⟩
 ·have e:i=ds.length:=by omega
  subst e
  rw[Kf (Iu _)]at q1
  obtain⟨hg,q1⟩:=q1
  exact .inl ⟨hJ.stop H1 (stay M1 H1 f1 r1.mem hg),ρ1,M1,f0.trans f1,r1,q1⟩
def Cf(te:bT)(g:oi)(tb:gT):gT:=λD ρ M=>te ρ M λd M1=>∃a xs,d= .ref a/\M1 a=some (.lst xs)/\runFor (λM=>M a=some (.lst xs)) g tb D xs ρ M1
def Cg(t:oh)(g:oi)(tb:gT):gT:=λD ρ M=>t ρ M λvs M1=>∃j:Int,vs=[.int j]/\ -(2 ^ 62)<=j/\j<2 ^ 62/\runFor (λ_=>True) g tb D ((List.range j.toNat).map λ(k:Nat)=>L3.D.int (k:Int)) ρ M1
variable{tg iter:Expr}{body:List Stmt}{g:oi}{tb:gT}
theorem uw{K:PySem.W.Frag}{a:Addr}{ds:List L3.D}:pX K (DU K a) (λH=>∃vs,H a=some (.lst vs)/\aB K H ds vs) ds:=
 ⟨λi H hi ⟨vs,h,hd⟩=>⟨vs,vs[i]'(by rw[<-hd.length];exact hi),gY.of h,Iz _⟩,λi H x H' _ ⟨vs,h,hd⟩ y=>⟨y.1,hd.back (y.2 vs (gY.of h))⟩,λH ⟨vs,h,hd⟩=>⟨vs,gY.of h,by rw[hd.length];exact Iu _⟩⟩
theorem zZ{K:PySem.W.Frag}{n:Nat}:pX K (Dh 0 n) (λ_=>True) ((List.range n).map λ(k:Nat)=>L3.D.int (k:Int)):=
 ⟨λi H hi _=>by show i<n;simpa using hi,λi H x H' hi _ y=>⟨y.1,L3.D.int (i:Int),by
  have hi:i<n:=by simpa using hi
  simp[hi],aJ.mpr (by rw[y.2,Int.zero_add])⟩,λH _=>by show n<=_;simp⟩
theorem mZ(hp:PassesOwn (model X.prog X.w) X.A X.env X.xe)(hc:X.calm=true)(hi:bJ X iter te)(hg:uu X tg g)(hb:fE X body tb)
 (hs:∀x,foldedSetIterable iter X.env x=pure x:=by intro _;rfl):pT X (.For tg iter body [] pos) (Cf te g tb):=yw (pN hp hc (qE hi.dn) hg.dn hb.dn hs) λσ H ρ M D r q=>cy r q λv H' d M' f dv r' ⟨a,xs,e1,hM,q⟩=>by
 subst e1
 obtain rfl:=aO.mp dv
 obtain⟨ys,ha,hy⟩:=r'.mem.lst hM
 exact⟨a,rfl,⟨ys,gY.of ha⟩,j3 uw f r' (λM1 H1 f1 g7 g1=>g7.lst g1) q⟩
theorem iG{a:Expr}{t:oh}{p rpos:Pos}(hp:PassesOwn (model X.prog X.w) X.A X.env X.xe)(hc:X.calm=true)(Eu:Gl X "range")(hm:X.mg "range" =none)(ha:rY X [a] t)(hg:uu X tg g)(hb:fE X body tb)
 (hst:starEach [a] X.env=[(false,eval a X.env)]:=by rfl)
 (hs:∀x,foldedSetIterable (.Call (.Name "range" p) [a] [] rpos) X.env x=pure x:=by intro _;rfl):pT X (.For tg (.Call (.Name "range" p) [a] [] rpos) body [] pos) (Cg t g tb):=yw (pN hp hc (rP Eu hm ha.dn hst) hg.dn hb.dn hs) λσ H ρ M D r q=>iD r q λvs H' ds M' f dv r' ⟨j,e1,h1,h2,q⟩=>by
 subst e1
 obtain⟨v,rfl,hv⟩:=oO dv
 obtain rfl:=aJ.mp hv
 exact⟨j,rfl,h1,h2,j3 zZ f r' (λ_ _ _ _ _=>trivial) q⟩
def Ci(to te:bT):bT:=λρ M Q=>to ρ M λd M1=>(∃l xs,d= .ref l/\M1 l=some (.lst xs))/\te ρ M1 λe M2=>∃l xs,d= .ref l/\M2 l=some (.lst xs)/\xs.length<sizeLine/\Q .aZ (aH M2 l (.lst (xs++[e])))
theorem yz{o e:Expr}{to te:bT}{apos:Pos}(ho:bJ X o to)(he:bJ X e te)(Ew:PE X (.Call (.Attribute o "append" apos) [e] [] pos) (D7 X.K "list" qK (dn X.K to) (tR (dn X.K te) zu))):bJ X (.Call (.Attribute o "append" apos) [e] [] pos) (Ci to te):=
 up Ew λσ H ρ M Q r q=>cy r q λv H' d M' f dv r' ⟨⟨l,xs,e1,hM⟩,q⟩=>by
  subst e1
  obtain rfl:=aO.mp dv
  obtain⟨ys,ha,hy⟩:=r'.mem.lst hM
  refine⟨.inl ⟨rfl,_,gY.of ha⟩,cy r' q λu H2 d2 M2 f2 du r2 ⟨l',xs',e2,Cj,hlt,q2⟩=>?_⟩
  injection e2 with e2
  subst e2
  obtain⟨zs,hb,hz⟩:=r2.mem.lst Cj
  refine⟨l,zs,u,rfl,rfl,hb,by rw[<-hz.length];exact hlt,.aZ,_,(f.trans f2).trans (Fr.write (K:=X.K) Cj),cN.mpr rfl,r2.mem.jb hb (hz.append (aB.one du)),q2⟩
end
section
variable{P:Program}{w:World}{K:PySem.W.Frag}{mg:Str->Option Value}{base:Heap}
def dI(N:List Str)(ds:List D):En:=ds.map some++List.replicate (N.length-ds.length) none
theorem gW{H:Hp}{N:List Str}{ds:List D}{vs:List V}{M:Mp}(h:aB K H ds vs)(rm:aV K H M):Rep K H (L2.start N vs) (dI N ds) M:=by
 have hl:=h.length
 refine⟨λi d e=>?_,by unfold L2.start dI;simp[hl],rm⟩
 unfold dI at e
 by_cases hi:i<ds.length
 ·rw[JF (by simpa using hi),II]at e
  cases q:ds[i]? with
  |none=>rw[q]at e;cases e
  |some d'=>
   rw[q]at e
   cases e
   obtain⟨v,h1,h2⟩:=h.get q
   refine⟨v,?_,h2⟩
   unfold L2.start
   rw[JF (by simp;omega),II,h1]
   rfl
 ·rw[JZ (by simpa using hi),Kc]at e
  split at e<;>cases e
theorem yC{x qual:Str}{st:Stmt}{f:Addr}{fd:FuncData}{N ps:List Str}{k:Nat}{S:sW}(F:jx K x qual st f fd)(Sc:aS N ps (ay st))(len:∀ds Q,S ds Q->ds.length=ps.length)
 (hbody:∀(cdv:Value) (A:Around) (outer:List Env) (s:Shared) (H:Hp),bV k (A.deeper (envOfC qual (ay st) s.heap.objs.size f cdv))->
  ∃t,fE (eX dR P w K mg base N qual (ay st) f cdv A outer s H E0).n8 (cM st) t/\∀ds Q,S ds Q->t {nx:=λ_ _=>Q .aZ,rt:=λd _=>Q d} (dI N ds) A2) :
 b9 P w K mg base dR (k+1) f fd ps (vQ K S):=by
 refine F.ok Sc (λvs H Q E h=>?_) (λcdv A outer s H vs Q E hr h=>?_)
 ·obtain⟨ds,Q0,h1,h2,_⟩:=h
  rw[<-h1.length,len ds Q0 h2]
 ·obtain⟨ds,Q0,h1,h2,h3⟩:=h
  obtain⟨t,ht,hq⟩:=hbody cdv A outer s H hr
  have hE:(eX dR P w K mg base N qual (ay st) f cdv A outer s H E).n8=(eX dR P w K mg base N qual (ay st) f cdv A outer s H E0).n8:=rfl
  refine⟨_,fE.dn (by rw[hE];exact ht),dI N ds,A2,_,gW h1 aV.no,hq ds Q0 h2,λσ' H' ⟨ρ',M',f',r',q⟩=>?_,λv H' ⟨d,M',f',dv,rm,q⟩=>?_,λ_ _ ⟨_,_,_,_,z⟩=>z.elim,λ_ _ ⟨_,_,_,_,z⟩=>z.elim⟩
  ·exact h3 .aZ .aZ H' q (cN.mpr rfl) λb o e=>(f' b o rfl e).1
  ·exact h3 d v H' q dv λb o e=>(f' b o rfl e).1
theorem wI{x qual:Str}{st:Stmt}{f:Addr}{fd:FuncData}{N ps:List Str}{k:Nat}{S:mX}(F:jx K x qual st f fd)(Sc:aS N ps (ay st))(len:∀ds M Q,S ds M Q->ds.length=ps.length)
 (hbody:∀(cdv:Value) (A:Around) (outer:List Env) (s:Shared) (H:Hp),bV k (A.deeper (envOfC qual (ay st) s.heap.objs.size f cdv))->
  ∃t,fE (eX dR P w K mg base N qual (ay st) f cdv A outer s H E0).n8 (cM st) t/\∀ds M Q,S ds M Q->t {nx:=λ_ M'=>bC (∃M0,Le M0 M'/\Q .aZ M0),rt:=λd M'=>bC (∃M0,Le M0 M'/\Q d M0)} (dI N ds) M) :
 b9 P w K mg base dR (k+1) f fd ps (mY K S):=by
 refine F.ok Sc (λvs H Q E h=>?_) (λcdv A outer s H vs Q E hr h=>?_)
 ·obtain⟨ds,M,Q0,h1,_,h2,_⟩:=h
  rw[<-h1.length,len ds M Q0 h2]
 ·obtain⟨ds,M,Q0,h1,rm,h2,h3⟩:=h
  obtain⟨t,ht,hq⟩:=hbody cdv A outer s H hr
  have hE:(eX dR P w K mg base N qual (ay st) f cdv A outer s H E).n8=(eX dR P w K mg base N qual (ay st) f cdv A outer s H E0).n8:=rfl
  refine⟨_,fE.dn (by rw[hE];exact ht),dI N ds,M,_,gW h1 rm,hq ds M Q0 h2,λσ' H' ⟨ρ',M',f',r',z⟩=>?_,λv H' ⟨d,M',f',dv,Ex,z⟩=>?_,λ_ _ ⟨_,_,_,_,z⟩=>z.elim,λ_ _ ⟨_,_,_,_,z⟩=>z.elim⟩
  ·obtain⟨M0,l,q⟩:=z.out
   exact h3 .aZ M0 .aZ H' q (cN.mpr rfl) (r'.mem.le l) (f'.le l)
  ·obtain⟨M0,l,q⟩:=z.out
   exact h3 d M0 v H' q dv (Ex.le l) (f'.le l)
end
end L3
namespace L3
open PySem PySem.Spec PyProof.Rows L2
section
variable{X:Cx}
def intsOf:List D->Option (List Int)
 |[]=>some []
 | .int i::ds=>(intsOf ds).map (i:: ·)
 |_::_=>none
theorem iH:∀{ds:List D} {ns:List Int},intsOf ds=some ns->ds=ns.map D.int
 |[],ns,h=>by cases h;rfl
 | .int i::ds,ns,h=>by
   have h:(intsOf ds).map (i:: ·)=some ns:=h
   cases q:intsOf ds with
   |none=>rw[q]at h;cases h
   |some ms=>
    rw[q]at h
    have h:i::ms=ns:=Option.some.inj h
    subst h
    rw[iH q];rfl
 | .aZ::_,ns,h=>by cases h
 | .bl _::_,ns,h=>by cases h
 | .str _::_,ns,h=>by cases h
 | .ty _::_,ns,h=>by cases h
 | .ref _::_,ns,h=>by cases h
 | .tup _::_,ns,h=>by cases h
 | .pQ _::_,ns,h=>by cases h
 | .zE _::_,ns,h=>by cases h
 | .exc _ _ _::_,ns,h=>by cases h
def FD:D->D->Option Bool
 | .int i,.int j=>some (decide (i<j))
 | .tup ds,.tup es=>match intsOf ds,intsOf es with
   |some ns,some ms=>some (HT.lexLt ns ms)
   |_,_=>none
 |_,_=>none
def Ey:R3:=λd e M Q=>∃b,FD d e=some b/\Q (.bl b) M
theorem yD(hu:X.A.units+64<cLine):jd X (compareOp .Lt) Ey:=by
 constructor
 intro pins s σ H M x y d e v u Q I rm rx ry dx dy ⟨b,hb,q⟩
 unfold FD at hb
 split at hb
 ·rename_i i j
  have hb:=Option.some.inj hb
  subst hb
  exact Ek.run pins s σ H M x y _ _ v u Q I rm rx ry dx dy ⟨i,j,rfl,rfl,q⟩
 ·rename_i ds es
  split at hb
  ·rename_i ns ms h1 h2
   have hb:=Option.some.inj hb
   subst hb
   exact(BR hu).run pins s σ H M x y _ _ v u Q I rm rx ry dx dy ⟨ns,ms,by rw[iH h1],by rw[iH h2],q⟩
  ·cases hb
 ·cases hb
theorem aM:bootBuiltins "len" =some (.builtin "len"):=by decide +kernel
theorem lX:bootBuiltins "min" =some (.builtin "min"):=by decide +kernel
theorem lY:bootBuiltins "max" =some (.builtin "max"):=by decide +kernel
theorem m5:bootBuiltins "sorted" =some (.builtin "sorted"):=by decide +kernel
theorem ai:bootBuiltins "isinstance" =some (.builtin "isinstance"):=by decide +kernel
theorem bD:bootBuiltins "list" =some (.type "list"):=by decide +kernel
theorem cA:bootBuiltins "int" =some (.type "int"):=by decide +kernel
theorem fF:bootBuiltins "bool" =some (.type "bool"):=by decide +kernel
theorem bG:bootBuiltins "tuple" =some (.type "tuple"):=by decide +kernel
end
theorem j4{m n:Nat}(h:m<=n):2 ^ m<=2 ^ n:=Nat.pow_le_pow_right (by decide) h
theorem Sm.le{m n:Nat}{i:Int}(h:Sm m i)(l:m<=n):Sm n i:=IG h (j4 l)
theorem Sm.z5{n:Nat}{i j:Int}(h:Sm n j)(l:i.natAbs<=j.natAbs):Sm n i:=Kw l h
theorem Sm.add{m n:Nat}{i j:Int}(h1:Sm m i)(h2:Sm n j):Sm (max m n+1) (i+j):=by
 have a:=IG h1 (j4 (Nat.le_max_left m n))
 have b:=IG h2 (j4 (Nat.le_max_right m n))
 show(i+j).natAbs<2 ^ (max m n+1)
 rw[Nat.pow_succ]
 have:=Int.natAbs_add_le i j
 omega
theorem Sm.neg{n:Nat}{i:Int}(h:Sm n i):Sm n (-i):=by
 show(-i).natAbs<_
 rw[Int.natAbs_neg];exact h
theorem Sm.sub{m n:Nat}{i j:Int}(h1:Sm m i)(h2:Sm n j):Sm (max m n+1) (i-j):=by
 rw[Int.sub_eq_add_neg];exact h1.add h2.neg
theorem Sm.mul{m n:Nat}{i j:Int}(h1:Sm m i)(h2:Sm n j):Sm (m+n) (i*j):=by
 show(i*j).natAbs<2 ^ (m+n)
 rw[Int.natAbs_mul,Nat.pow_add]
 exact Nat.mul_lt_mul'' h1 h2
theorem Sm.emod{n:Nat}{i j:Int}(hj:0<j)(h:Sm n j):Sm n (i % j):=by
 have h1:=Jb i (show j≠0 by omega)
 have h2:=IY i hj
 exact h.z5 (by omega)
instance{n:Nat}{i:Int}:Decidable (Sm n i):=inferInstanceAs (Decidable (_<_))
theorem MulOk.of{m n:Nat}{i j:Int}(h1:Sm m i)(h2:Sm n j)(h:m+n<=100000):MulOk i j:=⟨m,n,h1,h2,h⟩
theorem Sm.lit(i:Int):Sm (i.natAbs.log2+1) i:=Nat.lt_log2_self
theorem Sm.two:Sm 2 2:=by decide
theorem Sm.one:Sm 1 1:=by decide
theorem Sm.zero:Sm 0 0:=by decide
theorem aW{K:PySem.W.Frag}{n:String}:PySem.W.kitOne K (.type n) (.type n)=some true:=by simp[PySem.W.kitOne]
structure Pl where
 x:Int
 y:Int
 deriving DecidableEq
def Pl.d(p:Pl):D:= .tup [.int p.x,.int p.y]
def Pl.Ok(n:Nat)(p:Pl):Prop:=Sm n p.x/\Sm n p.y
theorem j5(p q:Pl):gc p.d q.d=decide (p=q):=by
 unfold Pl.d
 rw[gU,fh,fh,uh,c8,c8,Ju]
 cases p;cases q
 simp
end L3
namespace L3
open PySem L2
theorem lZ{K:PySem.W.Frag}{H:Hp}:∀(ns:List Int),aB K H (ns.map D.int) (ns.map V.int)
 |[]=>aI.mpr rfl
 |n::ns=>aF.mpr ⟨_,_,rfl,aJ.mpr rfl,lZ ns⟩
end L3
namespace L3
theorem aQ{gd:Mp->Prop}{g:oi}{tb:gT}{D:yu}{ρ:En}{M:Mp}(Pv:Nat->En->Mp->Prop):∀(xs:List L3.D),
 (∀(i:Nat) (x:L3.D) (ρ:En) (M:Mp) (N:En->Mp->Prop),xs[i]?=some x->Pv i ρ M->(∀ρ' M',Pv (i+1) ρ' M'->N ρ' M')->gd M/\g x ρ M λρ2 M2=>tb {D with nx:=N,ct:=N,bk:=D.nx} ρ2 M2)->
 (∀ρ M,Pv xs.length ρ M->gd M/\D.nx ρ M)->Pv 0 ρ M->runFor gd g tb D xs ρ M:=by
 intro xs hs hd h0
 have key:∀(ys:List L3.D) (i:Nat) (ρ:En) (M:Mp),xs.drop i=ys->Pv i ρ M->i<=xs.length->runFor gd g tb D ys ρ M:=by
  intro ys
  induction ys with
  |nil=>
   intro i ρ M e p hi
   have:xs.length<=i:=by
    have:=congrArg List.length e
    rw[JO]at this
    simp at this
    omega
   have:i=xs.length:=by omega
   subst this
   exact hd ρ M p
  |cons y ys ih=>
   intro i ρ M e p hi
   have hx:xs[i]?=some y:=by
    have:=congrArg (λl=>l[0]?) e
    simpa using this
   have hlt:i<xs.length:=(IC.mp hx).1
   refine hs i y ρ M _ hx p λρ' M' p'=>ih (i+1) ρ' M' ?_ p' hlt
   rw[<-KZ,e]
   rfl
 exact key xs 0 ρ M rfl h0 (IE _)
theorem bK{n i:Nat}{x:L3.D}(h:((List.range n).map λ(k:Nat)=>L3.D.int (k:Int))[i]?=some x):i<n/\x= .int (i:Int):=by
 rw[II]at h
 by_cases hi:i<n
 ·rw[List.getElem?_range hi]at h
  exact⟨hi,(Option.some.inj h).symm⟩
 ·rw[JD (by simp;omega)]at h
  cases h
end L3
namespace L3
theorem jr(a:Int):0<=a*a:=by
 rcases Int.le_total 0 a with h|h
 ·exact Int.mul_nonneg h h
 ·exact Int.mul_nonneg_of_nonpos_of_nonpos h h
def frac(a b:Int):Pl:=⟨a.fdiv ((Int.gcd a b:Int)*b.sign),b.fdiv ((Int.gcd a b:Int)*b.sign)⟩
def low(a b:Int):Pl:=⟨a / (Int.gcd a b:Int),b / (Int.gcd a b:Int)⟩
end L3
local macro_rules| `(tactic|walk_at "sm")=> `(tactic|first|assumption|exact L3.Sm.sign _|exact L3.Sm.zero|exact L3.Sm.one|exact L3.Sm.two|((with_reducible apply L3.Sm.mul)<;>walk_at "sm")|((with_reducible apply L3.Sm.sub)<;>walk_at "sm")|((with_reducible apply L3.Sm.add)<;>walk_at "sm")|((with_reducible apply L3.Sm.neg)<;>walk_at "sm")|((with_reducible apply L3.Sm.abs)<;>walk_at "sm")|((with_reducible apply L3.Sm.emod);(first|omega|decide +kernel);walk_at "sm")|exact L3.Sm.lit _)
local macro_rules| `(tactic|walk_at "smle")=> `(tactic|(apply L3.Sm.le;walk_at "sm";first|omega|decide +kernel))
namespace L3
@[irreducible] def GQ(p f g:Pl):Int:=(p.x*f.y-f.x)*g.y*((p.x*f.y-f.x)*g.y)+(p.y*g.y-g.x)*f.y*((p.y*g.y-g.x)*f.y)
@[irreducible] def sq(p f g:Pl):Pl:=frac (GQ p f g) (f.y*g.y*(f.y*g.y))
end L3
namespace L3
@[irreducible] def tw(a b c:Pl):Int:=(b.x-a.x)*(c.y-a.y)-(b.y-a.y)*(c.x-a.x)
def cu(p q:Pl):Prop:=p.x<q.x\/(p.x=q.x/\p.y<q.y)
instance(p q:Pl):Decidable (cu p q):=inferInstanceAs (Decidable (_\/_))
theorem bW(p:Pl):¬cu p p:=by unfold cu;omega
theorem cB{p q r:Pl}(a:cu p q)(b:cu q r):cu p r:=by unfold cu at *;omega
theorem jJ(p q:Pl):cu p q\/p=q\/cu q p:=by
 unfold cu
 by_cases h:p=q
 ·exact .inr (.inl h)
 ·have:¬(p.x=q.x/\p.y=q.y):=λ⟨a,b⟩=>h (by cases p;cases q;simp only at a b;rw[a,b])
  omega
theorem ux{p q:Pl}(a:cu p q):p≠q:=λe=>bW q (e▸a)
def lo(p q:Pl):Pl:=if cu q p then q else p
def hi(p q:Pl):Pl:=if cu p q then q else p
@[irreducible] def g8(p q:Pl):Int:=(q.x-p.x)*(q.x-p.x)+(q.y-p.y)*(q.y-p.y)
@[irreducible] def dep(a b c d:Pl):Int:=g8 d a*tw d b c+g8 d b*tw d c a+g8 d c*tw d a b
@[irreducible] def rg(a b c d:Pl):Int:=(tw a b c).sign*(dep a b c d).sign
end L3
namespace L3
def GR(a b c d:Pl):Prop:=rg a b c d=1\/(rg a b c d=0/\d≠a/\d≠b/\d≠c/\((cu d a/\cu d b/\cu d c)\/(cu a b/\cu a c/\cu a d/\(tw b c d).sign≠(tw b c a).sign)\/(cu b a/\cu b c/\cu b d/\(tw c a d).sign≠(tw c a b).sign)\/(cu c a/\cu c b/\cu c d/\(tw a b d).sign≠(tw a b c).sign)))
instance(a b c d:Pl):Decidable (GR a b c d):=inferInstanceAs (Decidable (_\/_))
def GS(p q r s:Pl):Prop:=(0<tw p q r/\tw p q s<0)\/(tw p q r<0/\0<tw p q s)
theorem pY{p q:Pl}(h:p≠q):cu p q\/cu q p:=by
 rcases jJ p q with z|z|z
 ·exact .inl z
 ·exact absurd z h
 ·exact .inr z
end L3
namespace L3
end L3
namespace L3
end L3
namespace L3
open PySem PySem.Spec PyProof.Rows
section
variable{P:Program}{w:World}{A:Around}{E:Value->Shared->Prop}{s:Shared}{κ:KeyKind}{kd:SortKind}{z:Array Keyed}{t:SortSt}
structure Ask(P:Program)(w:World)(A:Around)(s:Shared)(κ:KeyKind)(kd:SortKind):Prop where
 lt:∀(E:Value->Shared->Prop) (x y:Value) (a b:κ.α) (R:Bool->Shared->Prop),κ.keyOf x=some a->κ.keyOf y=some b->R (κ.blt a b) s->wpAny (model P w) A (keyLt' kd x y) R E s
structure Mid(kd:SortKind)(z:Array Keyed)(t:SortSt):Prop where
 pm:(arrOf t).Perm z
 kd:kindOf t=kd
 ok:failedOf t=none
 no:pendingOf t= #[]
theorem Mid.sz(m:Mid kd z t):(arrOf t).size=z.size:=m.pm.size_eq
theorem Mid.put(m:Mid kd z t){y:Array Keyed}(h:y.Perm (arrOf t)):Mid kd z (setArr t y):=⟨h.trans m.pm,m.kd,m.ok,m.no⟩
theorem Mid.key(m:Mid kd z t)(hk:KeysOf κ z){i:Nat}(hi:i<z.size):∃x q,(arrOf t)[i]?=some (x,q)/\κ.keyOf x=some (KK κ (arrOf t) i):=by
 have hlt:i<(arrOf t).size:=m.sz▸hi
 have e:(arrOf t)[i]?=some (arrOf t)[i]:=getElem?_pos _ i hlt
 obtain⟨a,ha⟩:=hk (arrOf t)[i] ((Array.perm_iff_toList_perm.mp m.pm).mem_iff.mp (by simp))
 refine⟨(arrOf t)[i].1,(arrOf t)[i].2,e,?_⟩
 have ek:KK κ (arrOf t) i=a:=by unfold KK;rw[e];simp only[ha,KD]
 rw[ek];exact ha
theorem j6(hA:Ask P w A s κ kd)(m:Mid kd z t)(hk:KeysOf κ z){i j:Nat}(hi:i<z.size)(hj:j<z.size){R:Option Bool->SortSt->Prop}
 (h:R (some (κ.blt (KK κ (arrOf t) i) (KK κ (arrOf t) j))) t):wpS (model P w) A E s (ltAt' i j) R t:=by
 obtain⟨x,p,e1,k1⟩:=m.key hk hi
 obtain⟨y,q,e2,k2⟩:=m.key hk hj
 rw[ltAt'_eq]
 apply wpS_bind;apply wpS_get
 show wpS (model P w) A E s (elem' (arrOf t) i >>= λu=>elem' (arrOf t) j >>= λv=>lt' u v) R t
 rw[elem'_eq,elem'_eq,e1,e2]
 apply wpS_bind;apply wpS_pure
 apply wpS_bind;apply wpS_pure
 rw[lt'_eq]
 apply wpS_bind;apply wpS_get
 rw[m.kd]
 refine wpS_bind (wpS_lift (wpAny_attempt (hA.lt _ x y _ _ _ k1 k2 ⟨rfl,wpS_pure h⟩)))
theorem rise{y:Array Keyed}{n:Nat}(h:SortedToK κ y n)(hl:1<=n)(hn:κ.kle (KK κ y (n-1)) (KK κ y n)):SortedToK κ y (n+1):=by
 intro i j hij hj
 rcases IV j n with c|c
 ·exact h i j hij c
 ·obtain rfl:j=n:=by omega
  rcases IV i j with d|d
  ·exact KeyOrd.kle_trans (h i (j-1) (by omega) (by omega)) hn
  ·obtain rfl:i=j:=by omega
   exact KeyOrd.kle_refl _
theorem wJ{y:Array Keyed}{n:Nat}(h:NonIncK κ y n)(hl:1<=n)(hn:κ.kle (KK κ y n) (KK κ y (n-1))):NonIncK κ y (n+1):=by
 intro i j hij hj
 rcases IV j n with c|c
 ·exact h i j hij c
 ·obtain rfl:j=n:=by omega
  rcases IV i j with d|d
  ·exact KeyOrd.kle_trans hn (h i (j-1) (by omega) (by omega))
  ·obtain rfl:i=j:=by omega
   exact KeyOrd.kle_refl _
theorem one_up(y:Array Keyed):SortedToK κ y 1:=by
 intro i j hij hj
 obtain rfl:i=j:=by omega
 exact KeyOrd.kle_refl _
theorem z6(y:Array Keyed):NonIncK κ y 1:=by
 intro i j hij hj
 obtain rfl:i=j:=by omega
 exact KeyOrd.kle_refl _
theorem qR(hA:Ask P w A s κ kd)(hk:KeysOf κ z)(m:Mid kd z t){a e:Nat}(he:e<=z.size)(h1:1<=a)(Ez:a<=e)(up:SortedToK κ (arrOf t) a){R:AscSt->SortSt->Prop}
 (h:∀n,a<=n->n<=e->SortedToK κ (arrOf t) n->(n<e->κ.klt (KK κ (arrOf t) n) (KK κ (arrOf t) (n-1)))->R (none,n) t):wpS (model P w) A E s (ascLoop a e) R t:=by
 unfold ascLoop
 refine wpS_forRange (I:=λi b u=>b=(none,i)/\u=t/\SortedToK κ (arrOf t) i) (λi b u hi1 hi2 hI=>?_) (λb u hI=>?_) ⟨rfl,rfl,up⟩
 ·obtain⟨rfl,rfl,hup⟩:=hI
  apply wpS_bind
  apply j6 hA m hk (by show i<z.size;omega) (by show i-1<z.size;omega)
  show wpS (model P w) A E s (if κ.blt (KK κ (arrOf u) i) (KK κ (arrOf u) (i-1))=true then _ else _) _ u
  cases c:κ.blt (KK κ (arrOf u) i) (KK κ (arrOf u) (i-1))with
  |true=>rw[if_pos rfl];exact wpS_pure (h i hi1 (by omega) hup λ_=>c)
  |false=>rw[if_neg Iv];exact wpS_pure ⟨rfl,rfl,rise hup (by omega) c⟩
 ·obtain⟨rfl,rfl,hup⟩:=hI
  have em:max a e=e:=by omega
  rw[em]at hup ⊢
  exact h e Ez (Iu e) hup λc=>absurd c (Jo e)
theorem oQ(hA:Ask P w A s κ kd)(hk:KeysOf κ z)(m:Mid kd z t){n e:Nat}(he:e<=z.size)(h1:1<=n)(hne:n<=e)(dn:NonIncK κ (arrOf t) n){R:Option Nat->SortSt->Prop}
 (h:∀i u,Mid kd z u->1<=i->i<=e->SortedToK κ (arrOf u) i->R (some i) u):wpS (model P w) A E s (tail3 n e) R t:=by
 have hz:n<=(arrOf t).size:=by have:=m.sz;omega
 have m2:=m.put (mirror_perm (arrOf t) 0 n ((n-0) / 2))
 unfold tail3
 apply wpS_bind
 apply wpS_reverse
 apply wpS_bind
 refine qR hA hk m2 he h1 hne (λi j hij hj=>?_) λi h2 h3 up _=>wpS_pure (h i _ m2 (by omega) h3 up)
 show κ.kle (KK κ (mirror (arrOf t) 0 n ((n-0) / 2)) i) (KK κ (mirror (arrOf t) 0 n ((n-0) / 2)) j)
 rw[KK_mirror hz i,KK_mirror hz j,if_pos ⟨IE i,by omega⟩,if_pos ⟨IE j,hj⟩]
 exact dn _ _ (by omega) (by omega)
def uy(κ:KeyKind)(y:Array Keyed)(n q:Nat):Prop:=q+1<=n/\∀i,n-(q+1)<=i->i<n->KK κ y i=KK κ y (n-1)
theorem uz{y:Array Keyed}{n:Nat}(h:1<=n):uy κ y n 0:=by
 refine⟨by omega,λi h1 h2=>?_⟩
 obtain rfl:i=n-1:=by omega
 rfl
theorem uA(hA:Ask P w A s κ kd)(hk:KeysOf κ z)(m:Mid kd z t){a e:Nat}(he:e<=z.size)(h1:1<=a)(Ez:a<=e)(dn:NonIncK κ (arrOf t) a){R:DescSt->SortSt->Prop}
 (h:∀n q u,Mid kd z u->a<=n->n<=e->NonIncK κ (arrOf u) n->uy κ (arrOf u) n q->R (none,n,q) u):wpS (model P w) A E s (descLoop a e) R t:=by
 unfold descLoop
 refine wpS_forRange (I:=λi b u=>Mid kd z u/\NonIncK κ (arrOf u) i/\∃q,uy κ (arrOf u) i q/\b=(none,i,q)) (λi b u hi1 hi2 hI=>?_) (λb u hI=>?_) ⟨m,dn,0,uz h1,rfl⟩
 ·obtain⟨mu,hd,q,hq,rfl⟩:=hI
  have hz:i<=(arrOf u).size:=by have:=mu.sz;omega
  apply wpS_bind
  apply j6 hA mu hk (by show i<z.size;omega) (by show i-1<z.size;omega)
  show wpS (model P w) A E s (if κ.blt (KK κ (arrOf u) i) (KK κ (arrOf u) (i-1))=true then _ else _) _ u
  cases c:κ.blt (KK κ (arrOf u) i) (KK κ (arrOf u) (i-1))with
  |true=>
   rw[if_pos rfl]
   have lower:NonIncK κ (arrOf u) (i+1):=wJ hd (by omega) (KeyOrd.kle_of_klt c)
   show wpS (model P w) A E s (if q>0 then _ else _) _ u
   by_cases d:q>0
   ·rw[if_pos d]
    apply wpS_bind
    apply wpS_reverse
    have same:=KK_mirror_equal (κ:=κ) hz hq.2
    refine wpS_pure ⟨mu.put (mirror_perm _ _ _ _),λx y hxy hy=>?_,0,uz (by omega),rfl⟩
    show κ.kle (KK κ (mirror (arrOf u) (i-(q+1)) i _) y) (KK κ (mirror (arrOf u) (i-(q+1)) i _) x)
    rw[same,same]
    exact lower x y hxy hy
   ·rw[if_neg d]
    exact wpS_pure ⟨mu,lower,0,uz (by omega),rfl⟩
  |false=>
   rw[if_neg Iv]
   apply wpS_bind
   apply j6 hA mu hk (by show i-1<z.size;omega) (by show i<z.size;omega)
   show wpS (model P w) A E s (if κ.blt (KK κ (arrOf u) (i-1)) (KK κ (arrOf u) i)=true then _ else _) _ u
   cases d:κ.blt (KK κ (arrOf u) (i-1)) (KK κ (arrOf u) i)with
   |true=>rw[if_pos rfl];exact wpS_pure (h i q u mu hi1 (by omega) hd hq)
   |false=>
    rw[if_neg Iv]
    have alike:KK κ (arrOf u) i=KK κ (arrOf u) (i-1):=κ.total _ _ c d
    refine wpS_pure ⟨mu,wJ hd (by omega) d,q+1,⟨by have:=hq.1;omega,λx h2 h3=>?_⟩,rfl⟩
    rw[JW]
    rcases IV x i with g|g
    ·rw[alike];exact hq.2 x (by omega) g
    ·obtain rfl:x=i:=by omega
     rfl
 ·obtain⟨mu,hd,q,hq,rfl⟩:=hI
  have em:max a e=e:=by omega
  rw[em]at hd hq ⊢
  exact h e q u mu Ez (Iu e) hd hq
theorem oR(hA:Ask P w A s κ kd)(hk:KeysOf κ z)(m:Mid kd z t){n e:Nat}(he:e<=z.size)(hne:n+1<=e)(dn:NonIncK κ (arrOf t) (n+1)){R:Option Nat->SortSt->Prop}
 (h:∀i u,Mid kd z u->1<=i->i<=e->SortedToK κ (arrOf u) i->R (some i) u):wpS (model P w) A E s (descPart n e) R t:=by
 unfold descPart
 apply wpS_bind
 refine wpS_lift (wpAny_rule ⟨rfl,?_⟩)
 apply wpS_bind
 refine uA hA hk m he (by omega) hne dn λi q u mu h2 h3 hd hq=>?_
 have hz:i<=(arrOf u).size:=by have:=mu.sz;omega
 show wpS (model P w) A E s (if q>0 then _ else _) R u
 by_cases d:q>0
 ·rw[if_pos d]
  apply wpS_bind
  apply wpS_reverse
  have same:=KK_mirror_equal (κ:=κ) hz hq.2
  refine oQ hA hk (mu.put (mirror_perm _ _ _ _)) he (by omega) h3 (λx y hxy hy=>?_) h
  show κ.kle (KK κ (mirror (arrOf u) (i-(q+1)) i _) y) (KK κ (mirror (arrOf u) (i-(q+1)) i _) x)
  rw[same,same]
  exact hd x y hxy hy
 ·rw[if_neg d]
  exact oQ hA hk mu he (by omega) h3 hd h
theorem sd(hA:Ask P w A s κ kd)(hk:KeysOf κ z)(m:Mid kd z t){e:Nat}(he:e<=z.size)(h1:1<=e){R:Option Nat->SortSt->Prop}
 (h:∀i u,Mid kd z u->1<=i->i<=e->SortedToK κ (arrOf u) i->R (some i) u):wpS (model P w) A E s (countRun' 0 e) R t:=by
 rw[countRun0_eq]
 apply wpS_bind
 refine qR hA hk m he (Iu 1) h1 (one_up _) λn h2 h3 up stop=>?_
 show wpS (model P w) A E s (if(n==e)=true then _ else _) R t
 by_cases c:n=e
 ·rw[if_pos (beq_iff_eq.mpr c)]
  exact wpS_pure (h n t m h2 h3 up)
 ·rw[if_neg λq=>c (beq_iff_eq.mp q)]
  have less:=stop (by omega)
  by_cases d:n>1
  ·rw[if_pos d]
   apply wpS_bind
   apply j6 hA m hk (by omega) (by show n-1<z.size;omega)
   show wpS (model P w) A E s (if κ.blt (KK κ (arrOf t) 0) (KK κ (arrOf t) (n-1))=true then _ else _) R t
   cases g:κ.blt (KK κ (arrOf t) 0) (KK κ (arrOf t) (n-1))with
   |true=>rw[if_pos rfl];exact wpS_pure (h n t m h2 h3 up)
   |false=>
    rw[if_neg Iv]
    have hz:n<=(arrOf t).size:=by have:=m.sz;omega
    have one:∀i,i<n->KK κ (arrOf t) i=KK κ (arrOf t) (n-1):=λi hi=>
     KeyOrd.kle_antisymm (up i (n-1) (by omega) (by omega)) (KeyOrd.kle_trans (show κ.kle (KK κ (arrOf t) (n-1)) (KK κ (arrOf t) 0)from g) (up 0 i (IE i) hi))
    have same:=KK_mirror_equal (κ:=κ) hz (λi (_:0<=i) hi=>one i hi)
    apply wpS_bind
    apply wpS_reverse
    refine oR hA hk (m.put (mirror_perm _ _ _ _)) he (by omega) (wJ (λx y hxy hy=>?_) (by omega) ?_) h
    ·show κ.kle (KK κ (mirror (arrOf t) 0 n _) y) (KK κ (mirror (arrOf t) 0 n _) x)
     rw[same,same,one x (by omega),one y hy]
     exact KeyOrd.kle_refl _
    ·show κ.kle (KK κ (mirror (arrOf t) 0 n _) n) (KK κ (mirror (arrOf t) 0 n _) (n-1))
     rw[same,same]
     exact KeyOrd.kle_of_klt less
  ·rw[if_neg d]
   obtain rfl:n=1:=by omega
   exact oR hA hk m he (by omega) (wJ (z6 _) (Iu 1) (KeyOrd.kle_of_klt less)) h
structure Cut(κ:KeyKind)(y:Array Keyed)(k l r:Nat):Prop where
 lr:l<=r
 rk:r<=k
 lo:∀i,i<l->κ.kle (KK κ y i) (KK κ y k)
 hi:∀i,r<=i->i<k->κ.klt (KK κ y k) (KK κ y i)
theorem Cut.put{y:Array Keyed}{k l:Nat}(c:Cut κ y k l l)(hk:k<y.size)(up:SortedToK κ y k):SortedToK κ (bubble y k (k-l)) (k+1):=by
 have hl:=c.rk
 have at':∀i,KK κ (bubble y k (k-l)) i=if i=l then KK κ y k else if l<i/\i<=k then KK κ y (i-1)else KK κ y i:=λi=>by
  have:=KK_bubble (κ:=κ) hk (Nat.sub_le k l) i
  have e:k-(k-l)=l:=by omega
  rw[e]at this
  exact this
 intro i j hij hj
 rw[at' i,at' j]
 by_cases i1:i=l
 ·rw[if_pos i1]
  by_cases j1:j=l
  ·rw[if_pos j1];exact KeyOrd.kle_refl _
  ·rw[if_neg j1,if_pos ⟨by omega,by omega⟩]
   exact KeyOrd.kle_of_klt (c.hi _ (by omega) (by omega))
 ·rw[if_neg i1]
  by_cases i2:l<i/\i<=k
  ·rw[if_pos i2,if_neg (by omega),if_pos ⟨by omega,by omega⟩]
   exact up _ _ (by omega) (by omega)
  ·rw[if_neg i2]
   by_cases j1:j=l
   ·rw[if_pos j1];exact c.lo i (by omega)
   ·rw[if_neg j1]
    by_cases j2:l<j/\j<=k
    ·rw[if_pos j2];exact up _ _ (by omega) (by omega)
    ·rw[if_neg j2];exact up _ _ hij (by omega)
theorem uB{l r:Nat}(h:l<r):l<=(l+r) / 2/\(l+r) / 2<r:=⟨by omega,by omega⟩
theorem wK(hA:Ask P w A s κ kd)(hk:KeysOf κ z)(m:Mid kd z t){n o:Nat}(hn:n<=z.size)(ho:o<=n)(up:SortedToK κ (arrOf t) o){R:Bool->SortSt->Prop}
 (h:∀u,Mid kd z u->SortedToK κ (arrOf u) n->R true u):wpS (model P w) A E s (binarySort' 0 n o) R t:=by
 rw[binarySort'_eq]
 simp only[Jr]
 apply wpS_bind
 refine wpS_mono (wpS_forRange (I:=λk b u=>b=(none,())/\Mid kd z u/\(k<=n->SortedToK κ (arrOf u) k)/\(n<k->SortedToK κ (arrOf u) n)) (Q:=λb u=>b=(none,())/\Mid kd z u/\SortedToK κ (arrOf u) n)
  (λk b u hk1 hk2 hI=>?_) (λb u hI=>?_) ⟨rfl,m,λc=>?_,λc=>?_⟩) λb u hI=>?_
 ·obtain⟨rfl,mu,up1,_⟩:=hI
  have z7:=up1 (by omega)
  apply wpS_bind
  refine wpS_mono (wpS_forRange (I:=λx b v=>v=u/\∃l r,b=(none,l,r)/\Cut κ (arrOf u) k l r/\r-l<=k-x) (Q:=λb v=>v=u/\∃l,b=(none,l,l)/\Cut κ (arrOf u) k l l)
   (λx b v _ hx hI=>?_) (λb v hI=>?_) ⟨rfl,0,k,rfl,⟨IE k,Iu k,λi hi=>absurd hi (KP i),λi h2 h3=>absurd h3 (Jz.mpr h2)⟩,Iu _⟩) λb v hI=>?_
  ·obtain⟨rfl,l,r,rfl,c,hw⟩:=hI
   show wpS (model P w) A E s (if l>=r then _ else _) _ v
   by_cases d:l>=r
   ·rw[if_pos d]
    obtain rfl:l=r:=KQ c.lr d
    exact wpS_pure ⟨rfl,l,rfl,c⟩
   ·rw[if_neg d]
    have hrk:=c.rk
    have hm:=uB (Nat.not_le.mp d)
    generalize (l+r) / 2=y at hm ⊢
    obtain⟨hm1,hm2⟩:=hm
    apply wpS_bind
    apply j6 hA mu hk (by show k<z.size;omega) (by show y<z.size;omega)
    show wpS (model P w) A E s (if κ.blt (KK κ (arrOf v) k) (KK κ (arrOf v) y)=true then _ else _) _ v
    cases g:κ.blt (KK κ (arrOf v) k) (KK κ (arrOf v) y)with
    |true=>
     rw[if_pos rfl]
     exact wpS_pure ⟨rfl,l,y,rfl,⟨by omega,by omega,c.lo,λi h2 h3=>KeyOrd.klt_of_klt_of_kle g (z7 _ i h2 h3)⟩,by omega⟩
    |false=>
     rw[if_neg Iv]
     exact wpS_pure ⟨rfl,y+1,r,rfl,⟨by omega,by omega,λi h2=>KeyOrd.kle_trans (z7 i _ (by omega) (by omega)) g,c.hi⟩,by omega⟩
  ·obtain⟨rfl,l,r,rfl,c,hw⟩:=hI
   have e:max 0 k=k:=by omega
   rw[e]at hw
   obtain rfl:l=r:=by have:=c.lr;omega
   exact⟨rfl,l,rfl,c⟩
  ·obtain⟨rfl,l,rfl,c⟩:=hI
   show wpS (model P w) A E s (moveDown' k l >>= λ_=>pure (ForInStep.yield (none,()))) _ v
   rw[moveDown'_eq]
   apply wpS_bind
   apply wpS_modify
   have hz:k<(arrOf v).size:=by have:=mu.sz;omega
   exact wpS_pure ⟨rfl,mu.put (bubble_perm _ _ _),λ_=>c.put hz z7,λq=>by omega⟩
 ·obtain⟨rfl,mu,up1,se⟩:=hI
  refine⟨rfl,mu,?_⟩
  rcases IV n (max (max o 1) n)with c|c
  ·exact se c
  ·have e:max (max o 1) n=n:=by omega
   rw[e]at up1
   exact up1 (Iu n)
 ·rcases Kv o with q|q
  ·have e:max o 1=1:=by omega
   rw[e];exact one_up _
  ·have e:max o 1=o:=by omega
   rw[e];exact up
 ·have e:n=0:=by omega
  subst e
  exact λi j _ hj=>absurd hj (KP j)
 ·obtain⟨rfl,mu,up'⟩:=hI
  exact wpS_pure (h u mu up')
structure uC(κ:KeyKind)(z:Array Keyed)(t:SortSt):Prop where
 pm:(arrOf t).Perm z
 ok:failedOf t=none
 one:pendingOf t= #[(0,z.size,0)]
 up:SortedToK κ (arrOf t) z.size
theorem Mid.fin(m:Mid kd z t)(up:SortedToK κ (arrOf t) z.size):uC κ z (setPending t ((pendingOf t).push (0,z.size,0))):=
 ⟨m.pm,m.ok,by show(pendingOf t).push (0,z.size,0)= #[(0,z.size,0)];rw[m.no];rfl,up⟩
theorem wL(hA:Ask P w A s κ kd)(hk:KeysOf κ z)(m:Mid kd z t)(h2:2<=z.size)(h64:z.size<64){R:Unit->SortSt->Prop}(h:∀u,uC κ z u->R () u):wpS (model P w) A E s sortRuns' R t:=by
 have low:minRun' z.size z.size 0=z.size:=by
  obtain⟨k,hk⟩:∃k,z.size=k+1:=⟨z.size-1,by omega⟩
  have:minRun' (k+1) z.size 0=z.size+0:=by rw[minRun'_succ,if_pos h64]
  rw[<-hk]at this
  exact this
 rw[sortRuns'_eq]
 apply wpS_bind;apply wpS_get
 dsimp only
 simp only[m.sz,low]
 apply wpS_bind
 refine wpS_mono (wpS_forRange (I:=λx b u=>if x=0 then b=(none,0)/\Mid kd z u else b=(none,z.size)/\uC κ z u) (Q:=λb u=>b=(none,z.size)/\uC κ z u) (λx b u _ hx hI=>?_) (λb u hI=>?_) ?_) λb u hI=>?_
 ·by_cases c:x=0
  ·subst c
   obtain⟨rfl,mu⟩:b=(none,0)/\Mid kd z u:=by simpa using hI
   dsimp only
   rw[if_neg (by omega:¬(0>=z.size))]
   simp only[Nat.sub_zero,Kx,Jr]
   apply wpS_bind
   refine sd hA hk mu (Iu _) (by omega) λi v mv h3 h4 up=>?_
   dsimp only
   by_cases d:i<z.size
   ·rw[if_pos d]
    apply wpS_bind
    refine wpS_lift (wpAny_rule ⟨rfl,?_⟩)
    apply wpS_bind
    refine wK hA hk mv (Iu _) h4 up λv' qS up'=>?_
    simp only[J2,ID,if_false]
    apply wpS_bind;apply wpS_get
    have e:(pendingOf v').back?=none:=by rw[qS.no];rfl
    rw[e]
    dsimp only
    apply wpS_bind
    apply wpS_modify
    exact wpS_pure ⟨rfl,qS.fin up'⟩
   ·rw[if_neg d]
    obtain rfl:i=z.size:=by omega
    apply wpS_bind;apply wpS_get
    have e:(pendingOf v).back?=none:=by rw[mv.no];rfl
    rw[e]
    dsimp only
    apply wpS_bind
    apply wpS_modify
    exact wpS_pure ⟨rfl,mv.fin up⟩
  ·obtain⟨rfl,fu⟩:b=(none,z.size)/\uC κ z u:=by simpa[c]using hI
   dsimp only
   rw[if_pos (Iu z.size)]
   exact wpS_pure ⟨rfl,fu⟩
 ·have c:max 0 z.size≠0:=by omega
  rw[if_neg c]at hI
  exact hI
 ·exact⟨rfl,m⟩
 ·obtain⟨rfl,fu⟩:=hI
  dsimp only
  apply wpS_bind
  refine wpS_mono (wpS_forRange (I:=λ_ b v=>b=(none,())/\v=u) (Q:=λb v=>b=(none,())/\v=u) (λx b v _ _ hI=>?_) (λ_ _ hI=>hI) ⟨rfl,rfl⟩) λb v hI=>?_
  ·obtain⟨rfl,rfl⟩:=hI
   apply wpS_bind;apply wpS_get
   rw[if_pos (by rw[fu.one];exact Iu 1)]
   exact wpS_pure ⟨rfl,rfl⟩
  ·obtain⟨rfl,rfl⟩:=hI
   exact wpS_pure (h v fu)
end
end L3
namespace L3
open PySem PySem.Spec PyProof.Rows
section
variable{P:Program}{w:World}{A:Around}{E:Value->Shared->Prop}{s:Shared}{κ:KeyKind}{kd:SortKind}
def er(h h':Heap):Prop:= ∀b o,h.get? b=some o->h'.get? b=some o
end
end L3
namespace L3
open PySem PySem.Spec PyProof.Rows
def m6(h:Heap)(v:Value)(p:Pl):Prop:= ∃(a:Addr) (o:Obj) (t u:Tok) (n:Nat),v= .ref a/\h.get? a=some o/\o.cls= .type "tuple"/\o.data= .seq #[.int p.x t,.int p.y u] n
theorem m6.grow{h h':Heap}{v:Value}{p:Pl}(a:m6 h v p)(g:er h h'):m6 h' v p:=by
 obtain⟨b,o,t,u,n,h1,h2,h3,h4⟩:=a
 exact⟨b,o,t,u,n,h1,g _ _ h2,h3,h4⟩
theorem m6.inj{h:Heap}{v:Value}{p q:Pl}(a:m6 h v p)(b:m6 h v q):p=q:=by
 obtain⟨a1,o,t,u,n,rfl,h2,h3,h4⟩:=a
 obtain⟨a2,o',t',u',n',e,k2,k3,k4⟩:=b
 injection e with e
 subst e
 rw[h2]at k2
 injection k2 with k2
 subst k2
 rw[h4]at k4
 injection k4 with k4 _
 cases p;cases q
 simp at k4
 obtain⟨⟨e1,_⟩,e2,_⟩:=k4
 rw[e1,e2]
open Classical in
noncomputable def EA(h:Heap):KeyKind where
 α:=Pl
 blt p q:=decide (cu p q)
 irrefl p:=decide_eq_false (bW p)
 trans p q r a b:=decide_eq_true (cB (of_decide_eq_true a) (of_decide_eq_true b))
 negTrans p q r a:=by
  have a:=of_decide_eq_true a
  rcases jJ p q with c|c|c
  ·exact .inl (decide_eq_true c)
  ·subst c;exact .inr (decide_eq_true a)
  ·exact .inr (decide_eq_true (cB c a))
 total p q a b:=by
  rcases jJ p q with c|c|c
  ·exact absurd c (of_decide_eq_false a)
  ·exact c
  ·exact absurd c (of_decide_eq_false b)
 keyOf v:=if e:∃p,m6 h v p then some e.choose else none
 dflt:=⟨0,0⟩
open Classical in
theorem wM{h:Heap}{v:Value}{p:Pl}(a:m6 h v p):(EA h).keyOf v=some p:=by
 have e:∃p,m6 h v p:=⟨p,a⟩
 show(if e:∃p,m6 h v p then some e.choose else none)=some p
 rw[dif_pos e,m6.inj e.choose_spec a]
section
variable{P:Program}{w:World}{A:Around}{E:Value->Shared->Prop}{s:Shared}
theorem sj(f:Bool)(v u:Value):keyLt' (tuples' f) v u=(do
 let a <-Builtin.List.listItems v;let b <-Builtin.List.listItems u
 for ((c,d),k) in (a.toList.zip b.toList).zipIdx do {if !(<-eqBool c d)then return <-oneLt' (f && k==0) c d}
 return a.size<b.size):=rfl
theorem pZ{b:Bool}{i j:Int}{t u:Tok}{Q:Bool->Shared->Prop}(h:Q (decide (i<j)) s):wpAny (model P w) A (oneLt' b (.int i t) (.int j u)) Q E s:=by
 cases b with
 |true=>exact oneLt_int h
 |false=>
  rw[oneLt'_eq]
  simp only[ID,if_false]
  apply wpAny_bind
  refine(lt_int ?_:wpAny (model P w) A (compareOp .Lt (.int i t) (.int j u)) _ E s)
  exact wpAny_truthy_bool h
theorem m7{β:Type}{f:Value->Sem β}(R:Value->β->Prop):∀(vs:List Value) (Q:List β->Shared->Prop),(∀v∈vs,∀(Q:β->Shared->Prop),(∀b,R v b->Q b s)->wpAny (model P w) A (f v) Q E s)->
 (∀bs:List β,Paired R vs bs->Q bs s)->wpAny (model P w) A (vs.mapM f) Q E s
 |[],Q,_,h=>by rw[List.mapM_nil];exact wpAny_pure (h [] .nil)
 |v::vs,Q,hv,h=>by
  rw[List.mapM_cons]
  apply wpAny_bind
  refine hv v (IB ..) _ λb rb=>?_
  apply wpAny_bind
  refine m7 R vs _ (λu hu=>hv u (IF _ hu)) λbs GU=>?_
  exact wpAny_pure (h (b::bs) (.cons rb GU))
theorem sr(v:Value):firstOfTuple' v=(typeOf v >>= λt=>if t != .type "tuple" then pure none else Builtin.List.listItems v >>= λa=>pure a[0]?):=rfl
end
end L3
namespace L3
open PySem PySem.Spec PyProof.Rows
section
variable{P:Program}{w:World}{A:Around}{E:Value->Shared->Prop}{s:Shared}
theorem z8{h0:Heap}{I S:Addr}{fp wr:List Addr}{n:Nat}{Pr:Nat->Value->Prop}{St:Nat->Heap->Prop}{bt:Nat->Nat->Bool}{R:Result->Shared->Prop}(W:Walks P w A.in1 I fp wr n Pr St)
 (hc:∀(i j:Nat) (vi vj:Value) (t:Shared) (Q:Value->Shared->Prop) (E:Value->Shared->Prop),er h0 t.heap->Pr i vi->Pr j vj->Q (.bool (bt i j)) t->wpAny (model P w) A.in1 (richCompare .Lt vi vj) Q E t)
 (hS:S∉fp)(sA:∀b o,h0.get? b=some o->b∉wr/\b≠S):∀(m k:Nat) (t:Shared) (vb:Value) (c:Nat),n-(k+1)=m->k+1<=n->er h0 t.heap->St (k+1) t.heap->Pr (argBest bt k) vb->
 t.heap.get? S=some {cls:= .type "list",dict:=none,data:= .seq #[vb,vb] c,slots:= #[]}->
 (∀v h' tk,Pr (argBest bt (n-1)) v->(∀b o,b∉wr->b≠S->t.heap.get? b=some o->h'.get? b=some o)->R (.ok (.ret v)) {t with heap:=h',toks:=tk})->
 codeAny (model P w) A (.builtin "min.loop" ⟨[.ref I,.none,.ref S],[]⟩) R t:=by
 have Sw:S∉wr:=λq=>hS (W.sub _ q)
 have nm:(toString "min" ++toString ".loop" :String)= "min.loop" :=by decide
 intro m
 induction m with
 |zero=>
  intro k t vb c e1 e2 gr st pb hs hR
  have ek:k+1=n:=by omega
  refine codeAny_builtin F.entry_min_loop ?_
  rw[Around.under_plainId F.plain_min_loop]
  show wpAny (model P w) A.in1 (seqItems? (.ref S) >>= _) _ _ t
  apply wpAny_bind;apply wpAny_seqItems hs rfl
  show wpAny (model P w) A.in1 (tryCatch (pyNext (.ref I)) _ >>= _) _ _ t
  apply wpAny_bind;apply wpAny_tryCatch
  refine W.done t _ _ (ek▸st) λh' tk kp=>?_
  have hs2:=kp S _ Sw hs
  show wpAny (model P w) A.in1 (updateSeq S (λ_=> #[]) >>= _) _ _ _
  apply wpAny_bind
  refine wpAny_updateSeq hs2 rfl ?_
  apply wpAny_bind;apply wpAny_letGo;apply wpAny_pure
  exact hR vb _ tk (by rw[<-ek];exact pb) λb o q1 q2 q=>(Heap.get?_update_other _ _ (Ne.symm q2)).trans (kp b o q1 q)
 |succ m ih=>
  intro k t vb c e1 e2 gr st pb hs hR
  refine codeAny_builtin F.entry_min_loop ?_
  rw[Around.under_plainId F.plain_min_loop]
  show wpAny (model P w) A.in1 (seqItems? (.ref S) >>= _) _ _ t
  apply wpAny_bind;apply wpAny_seqItems hs rfl
  show wpAny (model P w) A.in1 (tryCatch (pyNext (.ref I)) _ >>= _) _ _ t
  apply wpAny_bind;apply wpAny_tryCatch
  refine W.item (k+1) t _ _ (by omega) st λv h' tk pv st2 kp=>?_
  have hs2:=kp S _ Sw hs
  have uD:er h0 h':=λb o q=>kp b o (sA b o q).1 (gr b o q)
  show wpAny (model P w) A.in1 (tryCatch (holding [v,v] (richCompare .Lt v vb >>= _)) _ >>= _) _ _ _
  apply wpAny_bind;apply wpAny_tryCatch;apply wpAny_holding;apply wpAny_bind
  refine hc (k+1) (argBest bt k) v vb _ _ _ uD pv pb ?_
  apply wpAny_bind;apply wpAny_holding;apply wpAny_truthy_bool
  apply wpAny_bind;apply wpAny_letGo;apply wpAny_pure
  cases d:bt (k+1) (argBest bt k)with
  |true=>
   rw[if_pos rfl]
   apply wpAny_bind
   refine wpAny_updateSeq hs2 rfl ?_
   apply wpAny_bind;apply wpAny_letGo
   rw[nm]
   refine wpAny_pure ⟨plainId_quiet F.plain_min_loop _,ih (k+1) _ v _ (by omega) (by omega) (λb o q=>(Heap.get?_update_other _ _ (Ne.symm (sA b o q).2)).trans (uD b o q)) (W.frame _ _ _ st2 λb q1 o q=>(Heap.get?_update_other _ _ (λz:S=b=>hS (z▸q1))).trans q) (by simp only[argBest,d,if_true];exact pv) (Heap.get?_update_self _ hs2 rfl) λv2 h2 qT p2 uE=>?_⟩
   exact hR v2 h2 qT p2 λb o q1 q2 q=>uE b o q1 q2 ((Heap.get?_update_other _ _ (Ne.symm q2)).trans (kp b o q1 q))
  |false=>
   rw[if_neg Iv]
   apply wpAny_bind;apply wpAny_letGo
   rw[nm]
   refine wpAny_pure ⟨plainId_quiet F.plain_min_loop _,ih (k+1) _ vb c (by omega) (by omega) uD st2 (by simp only[argBest,d,ID,if_false];exact pb) hs2 λv2 h2 qT p2 uE=>?_⟩
   exact hR v2 h2 qT p2 λb o q1 q2 q=>uE b o q1 q2 (kp b o q1 q)
theorem sC{h0:Heap}{I S:Addr}{fp wr:List Addr}{n:Nat}{Pr:Nat->Value->Prop}{St:Nat->Heap->Prop}{bt:Nat->Nat->Bool}{R:Result->Shared->Prop}{t:Shared}{c:Nat}(W:Walks P w A.in1 I fp wr n Pr St)
 (hc:∀(i j:Nat) (vi vj:Value) (t:Shared) (Q:Value->Shared->Prop) (E:Value->Shared->Prop),er h0 t.heap->Pr i vi->Pr j vj->Q (.bool (bt i j)) t->wpAny (model P w) A.in1 (richCompare .Lt vi vj) Q E t)
 (hS:S∉fp)(sA:∀b o,h0.get? b=some o->b∉wr/\b≠S)(hn:0<n)(gr:er h0 t.heap)(st:St 0 t.heap)(hs:t.heap.get? S=some {cls:= .type "list",dict:=none,data:= .seq #[] c,slots:= #[]})
 (hR:∀v h' tk,Pr (argBest bt (n-1)) v->(∀b o,b∉wr->b≠S->t.heap.get? b=some o->h'.get? b=some o)->R (.ok (.ret v)) {t with heap:=h',toks:=tk}) :
 codeAny (model P w) A (.builtin "min.loop" ⟨[.ref I,.none,.ref S],[]⟩) R t:=by
 have Sw:S∉wr:=λq=>hS (W.sub _ q)
 have nm:(toString "min" ++toString ".loop" :String)= "min.loop" :=by decide
 refine codeAny_builtin F.entry_min_loop ?_
 rw[Around.under_plainId F.plain_min_loop]
 show wpAny (model P w) A.in1 (seqItems? (.ref S) >>= _) _ _ t
 apply wpAny_bind;apply wpAny_seqItems hs rfl
 show wpAny (model P w) A.in1 (tryCatch (pyNext (.ref I)) _ >>= _) _ _ t
 apply wpAny_bind;apply wpAny_tryCatch
 refine W.item 0 t _ _ hn st λv h' tk pv st2 kp=>?_
 have hs2:=kp S _ Sw hs
 have uD:er h0 h':=λb o q=>kp b o (sA b o q).1 (gr b o q)
 show wpAny (model P w) A.in1 (updateSeq S (λ_=> #[v,v]) >>= _) _ _ _
 apply wpAny_bind
 refine wpAny_updateSeq hs2 rfl ?_
 rw[nm]
 refine wpAny_pure ⟨plainId_quiet F.plain_min_loop _,z8 W hc hS sA _ 0 _ v _ rfl hn (λb o q=>(Heap.get?_update_other _ _ (Ne.symm (sA b o q).2)).trans (uD b o q)) (W.frame _ _ _ st2 λb q1 o q=>(Heap.get?_update_other _ _ (λz:S=b=>hS (z▸q1))).trans q) pv (Heap.get?_update_self _ hs2 rfl) λv2 h2 qT p2 uE=>?_⟩
 exact hR v2 h2 qT p2 λb o q1 q2 q=>uE b o q1 q2 ((Heap.get?_update_other _ _ (Ne.symm q2)).trans (kp b o q1 q))
theorem uF{vs:List Value}{bt:Nat->Nat->Bool}{Q:Value->Shared->Prop}(ha:argsOk "min" ⟨vs,[]⟩)(h2:2<=vs.length)(hz:vs.length<64)(hh:A.handled=none)
 (hc:∀(i j:Nat) (vi vj:Value) (t:Shared) (Q:Value->Shared->Prop) (E:Value->Shared->Prop),er s.heap t.heap->vs[i]?=some vi->vs[j]?=some vj->Q (.bool (bt i j)) t->wpAny (model P w) A.in1 (richCompare .Lt vi vj) Q E t)
 (h:∀v h' tk,vs[argBest bt (vs.length-1)]?=some v->er s.heap h'->Q v {s with heap:=h',toks:=tk}):wpAny (model P w) A (call (.builtin "min") vs) Q E s:=by
 have nm:(toString "min" ++toString ".loop" :String)= "min.loop" :=by decide
 have lz:vs.length<=sizeLine:=by rw[sizeLine_eq];omega
 refine call_function_tree F.kind_min F.plain_min F.entry_min ha ?_
 match vs,h2 with
 |v1::v2::rest,_=>
  show wpAny (model P w) A.in1 (Builtin.Builtins.bindParams "min" ["key","default"] 0 ⟨[],[]⟩ >>= _) _ _ s
  refine wpAny_bind (wpAny_of_eq (show Builtin.Builtins.bindParams "min" ["key","default"] 0 ⟨[],[]⟩=pure [none,none]from rfl) ?_)
  show wpAny (model P w) A.in1 (newTuple (v1::v2::rest) >>= _) _ _ s
  refine wpAny_bind (wpAny_newTuple (hsz:=lz) ?_)
  have k8:(s.heap.push {cls:= .type "tuple",data:= .seq (v1::v2::rest).toArray}).objs.size=s.heap.objs.size+1:=Heap.size_push ..
  have tp:(s.heap.push {cls:= .type "tuple",data:= .seq (v1::v2::rest).toArray}).IsTuple s.heap.objs.size (v1::v2::rest).toArray:=⟨_,Heap.get?_push_size _ rfl,rfl,0,rfl⟩
  refine wpAny_bind (wpAny_pyIter_tuple tp ?_)
  generalize hg:s.heap.push {cls:= .type "tuple",data:= .seq (v1::v2::rest).toArray}=g at k8 tp
  have k0:er s.heap g:=λb o q=>by rw[<-hg];exact Heap.get?_push_of_some _ q
  apply wpAny_bind
  refine wpAny_newObj_type ?_
  have uG:(g.push {cls:= .type "tuple_iterator",data:= .fields #[.ref s.heap.objs.size,.int 0 0]}).objs.size=s.heap.objs.size+2:=by rw[Heap.size_push,k8]
  rw[nm]
  refine wpAny_pure ⟨plainId_quiet F.plain_min_loop _,sC (h0:=s.heap) (Walks.tuple (A:=A.in1) hh _ s.heap.objs.size (by rw[k8];exact IQ (J9 _)) (v1::v2::rest).toArray) (bt:=bt) (λi j vi vj t Q E g1 p1 p2 q=>hc i j vi vj t Q E g1 (by simpa using p1) (by simpa using p2) q) ?_ (λb o q=>?_) (by simp) (λb o q=>Heap.get?_push_of_some _ (Heap.get?_push_of_some _ (k0 b o q))) ⟨⟨_,Heap.get?_push_of_some _ (Heap.get?_push_size _ rfl),rfl,rfl⟩,(tp.push _).push _⟩ (Heap.get?_push_size _ rfl) λv h' tk p kp=>?_⟩
  ·intro q
   rw[k8,uG]at q
   rcases IJ.mp q with q|q
   ·exact absurd q (by intro z;exact absurd (Nat.succ.inj z) (KG _))
   ·have q:=Jf.mp q
    exact absurd q (by intro z;have:s.heap.objs.size+2=s.heap.objs.size:=z;omega)
  ·have lb:=Heap.lt_size q
   rw[k8,uG]
   refine⟨λz=>?_,λz=>?_⟩
   ·have z:=Jf.mp z
    rw[z]at lb
    exact absurd lb (Jz.mpr (JA _))
   ·rw[z]at lb
    exact absurd lb (Jz.mpr (Jh _ 2))
  ·refine h v h' tk (by simpa using p) λb o q=>?_
   have lb:=Heap.lt_size q
   refine kp b o (λz=>?_) (λz=>?_) (Heap.get?_push_of_some _ (Heap.get?_push_of_some _ (k0 b o q)))
   ·have z:=Jf.mp z
    rw[z,k8]at lb
    exact absurd lb (Jz.mpr (JA _))
   ·rw[z,uG]at lb
    exact absurd lb (Jz.mpr (Jh _ 2))
theorem z9{h0:Heap}{I S:Addr}{fp wr:List Addr}{n:Nat}{Pr:Nat->Value->Prop}{St:Nat->Heap->Prop}{bt:Nat->Nat->Bool}{R:Result->Shared->Prop}(W:Walks P w A.in1 I fp wr n Pr St)
 (hc:∀(i j:Nat) (vi vj:Value) (t:Shared) (Q:Value->Shared->Prop) (E:Value->Shared->Prop),er h0 t.heap->Pr i vi->Pr j vj->Q (.bool (bt i j)) t->wpAny (model P w) A.in1 (richCompare .Gt vi vj) Q E t)
 (hS:S∉fp)(sA:∀b o,h0.get? b=some o->b∉wr/\b≠S):∀(m k:Nat) (t:Shared) (vb:Value) (c:Nat),n-(k+1)=m->k+1<=n->er h0 t.heap->St (k+1) t.heap->Pr (argBest bt k) vb->
 t.heap.get? S=some {cls:= .type "list",dict:=none,data:= .seq #[vb,vb] c,slots:= #[]}->
 (∀v h' tk,Pr (argBest bt (n-1)) v->(∀b o,b∉wr->b≠S->t.heap.get? b=some o->h'.get? b=some o)->R (.ok (.ret v)) {t with heap:=h',toks:=tk})->
 codeAny (model P w) A (.builtin "max.loop" ⟨[.ref I,.none,.ref S],[]⟩) R t:=by
 have Sw:S∉wr:=λq=>hS (W.sub _ q)
 have nm:(toString "max" ++toString ".loop" :String)= "max.loop" :=by decide
 intro m
 induction m with
 |zero=>
  intro k t vb c e1 e2 gr st pb hs hR
  have ek:k+1=n:=by omega
  refine codeAny_builtin F.entry_max_loop ?_
  rw[Around.under_plainId F.plain_max_loop]
  show wpAny (model P w) A.in1 (seqItems? (.ref S) >>= _) _ _ t
  apply wpAny_bind;apply wpAny_seqItems hs rfl
  show wpAny (model P w) A.in1 (tryCatch (pyNext (.ref I)) _ >>= _) _ _ t
  apply wpAny_bind;apply wpAny_tryCatch
  refine W.done t _ _ (ek▸st) λh' tk kp=>?_
  have hs2:=kp S _ Sw hs
  show wpAny (model P w) A.in1 (updateSeq S (λ_=> #[]) >>= _) _ _ _
  apply wpAny_bind
  refine wpAny_updateSeq hs2 rfl ?_
  apply wpAny_bind;apply wpAny_letGo;apply wpAny_pure
  exact hR vb _ tk (by rw[<-ek];exact pb) λb o q1 q2 q=>(Heap.get?_update_other _ _ (Ne.symm q2)).trans (kp b o q1 q)
 |succ m ih=>
  intro k t vb c e1 e2 gr st pb hs hR
  refine codeAny_builtin F.entry_max_loop ?_
  rw[Around.under_plainId F.plain_max_loop]
  show wpAny (model P w) A.in1 (seqItems? (.ref S) >>= _) _ _ t
  apply wpAny_bind;apply wpAny_seqItems hs rfl
  show wpAny (model P w) A.in1 (tryCatch (pyNext (.ref I)) _ >>= _) _ _ t
  apply wpAny_bind;apply wpAny_tryCatch
  refine W.item (k+1) t _ _ (by omega) st λv h' tk pv st2 kp=>?_
  have hs2:=kp S _ Sw hs
  have uD:er h0 h':=λb o q=>kp b o (sA b o q).1 (gr b o q)
  show wpAny (model P w) A.in1 (tryCatch (holding [v,v] (richCompare .Gt v vb >>= _)) _ >>= _) _ _ _
  apply wpAny_bind;apply wpAny_tryCatch;apply wpAny_holding;apply wpAny_bind
  refine hc (k+1) (argBest bt k) v vb _ _ _ uD pv pb ?_
  apply wpAny_bind;apply wpAny_holding;apply wpAny_truthy_bool
  apply wpAny_bind;apply wpAny_letGo;apply wpAny_pure
  cases d:bt (k+1) (argBest bt k)with
  |true=>
   rw[if_pos rfl]
   apply wpAny_bind
   refine wpAny_updateSeq hs2 rfl ?_
   apply wpAny_bind;apply wpAny_letGo
   rw[nm]
   refine wpAny_pure ⟨plainId_quiet F.plain_max_loop _,ih (k+1) _ v _ (by omega) (by omega) (λb o q=>(Heap.get?_update_other _ _ (Ne.symm (sA b o q).2)).trans (uD b o q)) (W.frame _ _ _ st2 λb q1 o q=>(Heap.get?_update_other _ _ (λz:S=b=>hS (z▸q1))).trans q) (by simp only[argBest,d,if_true];exact pv) (Heap.get?_update_self _ hs2 rfl) λv2 h2 qT p2 uE=>?_⟩
   exact hR v2 h2 qT p2 λb o q1 q2 q=>uE b o q1 q2 ((Heap.get?_update_other _ _ (Ne.symm q2)).trans (kp b o q1 q))
  |false=>
   rw[if_neg Iv]
   apply wpAny_bind;apply wpAny_letGo
   rw[nm]
   refine wpAny_pure ⟨plainId_quiet F.plain_max_loop _,ih (k+1) _ vb c (by omega) (by omega) uD st2 (by simp only[argBest,d,ID,if_false];exact pb) hs2 λv2 h2 qT p2 uE=>?_⟩
   exact hR v2 h2 qT p2 λb o q1 q2 q=>uE b o q1 q2 (kp b o q1 q)
theorem sD{h0:Heap}{I S:Addr}{fp wr:List Addr}{n:Nat}{Pr:Nat->Value->Prop}{St:Nat->Heap->Prop}{bt:Nat->Nat->Bool}{R:Result->Shared->Prop}{t:Shared}{c:Nat}(W:Walks P w A.in1 I fp wr n Pr St)
 (hc:∀(i j:Nat) (vi vj:Value) (t:Shared) (Q:Value->Shared->Prop) (E:Value->Shared->Prop),er h0 t.heap->Pr i vi->Pr j vj->Q (.bool (bt i j)) t->wpAny (model P w) A.in1 (richCompare .Gt vi vj) Q E t)
 (hS:S∉fp)(sA:∀b o,h0.get? b=some o->b∉wr/\b≠S)(hn:0<n)(gr:er h0 t.heap)(st:St 0 t.heap)(hs:t.heap.get? S=some {cls:= .type "list",dict:=none,data:= .seq #[] c,slots:= #[]})
 (hR:∀v h' tk,Pr (argBest bt (n-1)) v->(∀b o,b∉wr->b≠S->t.heap.get? b=some o->h'.get? b=some o)->R (.ok (.ret v)) {t with heap:=h',toks:=tk}) :
 codeAny (model P w) A (.builtin "max.loop" ⟨[.ref I,.none,.ref S],[]⟩) R t:=by
 have Sw:S∉wr:=λq=>hS (W.sub _ q)
 have nm:(toString "max" ++toString ".loop" :String)= "max.loop" :=by decide
 refine codeAny_builtin F.entry_max_loop ?_
 rw[Around.under_plainId F.plain_max_loop]
 show wpAny (model P w) A.in1 (seqItems? (.ref S) >>= _) _ _ t
 apply wpAny_bind;apply wpAny_seqItems hs rfl
 show wpAny (model P w) A.in1 (tryCatch (pyNext (.ref I)) _ >>= _) _ _ t
 apply wpAny_bind;apply wpAny_tryCatch
 refine W.item 0 t _ _ hn st λv h' tk pv st2 kp=>?_
 have hs2:=kp S _ Sw hs
 have uD:er h0 h':=λb o q=>kp b o (sA b o q).1 (gr b o q)
 show wpAny (model P w) A.in1 (updateSeq S (λ_=> #[v,v]) >>= _) _ _ _
 apply wpAny_bind
 refine wpAny_updateSeq hs2 rfl ?_
 rw[nm]
 refine wpAny_pure ⟨plainId_quiet F.plain_max_loop _,z9 W hc hS sA _ 0 _ v _ rfl hn (λb o q=>(Heap.get?_update_other _ _ (Ne.symm (sA b o q).2)).trans (uD b o q)) (W.frame _ _ _ st2 λb q1 o q=>(Heap.get?_update_other _ _ (λz:S=b=>hS (z▸q1))).trans q) pv (Heap.get?_update_self _ hs2 rfl) λv2 h2 qT p2 uE=>?_⟩
 exact hR v2 h2 qT p2 λb o q1 q2 q=>uE b o q1 q2 ((Heap.get?_update_other _ _ (Ne.symm q2)).trans (kp b o q1 q))
theorem uH{vs:List Value}{bt:Nat->Nat->Bool}{Q:Value->Shared->Prop}(ha:argsOk "max" ⟨vs,[]⟩)(h2:2<=vs.length)(hz:vs.length<64)(hh:A.handled=none)
 (hc:∀(i j:Nat) (vi vj:Value) (t:Shared) (Q:Value->Shared->Prop) (E:Value->Shared->Prop),er s.heap t.heap->vs[i]?=some vi->vs[j]?=some vj->Q (.bool (bt i j)) t->wpAny (model P w) A.in1 (richCompare .Gt vi vj) Q E t)
 (h:∀v h' tk,vs[argBest bt (vs.length-1)]?=some v->er s.heap h'->Q v {s with heap:=h',toks:=tk}):wpAny (model P w) A (call (.builtin "max") vs) Q E s:=by
 have nm:(toString "max" ++toString ".loop" :String)= "max.loop" :=by decide
 have lz:vs.length<=sizeLine:=by rw[sizeLine_eq];omega
 refine call_function_tree F.kind_max F.plain_max F.entry_max ha ?_
 match vs,h2 with
 |v1::v2::rest,_=>
  show wpAny (model P w) A.in1 (Builtin.Builtins.bindParams "max" ["key","default"] 0 ⟨[],[]⟩ >>= _) _ _ s
  refine wpAny_bind (wpAny_of_eq (show Builtin.Builtins.bindParams "max" ["key","default"] 0 ⟨[],[]⟩=pure [none,none]from rfl) ?_)
  show wpAny (model P w) A.in1 (newTuple (v1::v2::rest) >>= _) _ _ s
  refine wpAny_bind (wpAny_newTuple (hsz:=lz) ?_)
  have k8:(s.heap.push {cls:= .type "tuple",data:= .seq (v1::v2::rest).toArray}).objs.size=s.heap.objs.size+1:=Heap.size_push ..
  have tp:(s.heap.push {cls:= .type "tuple",data:= .seq (v1::v2::rest).toArray}).IsTuple s.heap.objs.size (v1::v2::rest).toArray:=⟨_,Heap.get?_push_size _ rfl,rfl,0,rfl⟩
  refine wpAny_bind (wpAny_pyIter_tuple tp ?_)
  generalize hg:s.heap.push {cls:= .type "tuple",data:= .seq (v1::v2::rest).toArray}=g at k8 tp
  have k0:er s.heap g:=λb o q=>by rw[<-hg];exact Heap.get?_push_of_some _ q
  apply wpAny_bind
  refine wpAny_newObj_type ?_
  have uG:(g.push {cls:= .type "tuple_iterator",data:= .fields #[.ref s.heap.objs.size,.int 0 0]}).objs.size=s.heap.objs.size+2:=by rw[Heap.size_push,k8]
  rw[nm]
  refine wpAny_pure ⟨plainId_quiet F.plain_max_loop _,sD (h0:=s.heap) (Walks.tuple (A:=A.in1) hh _ s.heap.objs.size (by rw[k8];exact IQ (J9 _)) (v1::v2::rest).toArray) (bt:=bt) (λi j vi vj t Q E g1 p1 p2 q=>hc i j vi vj t Q E g1 (by simpa using p1) (by simpa using p2) q) ?_ (λb o q=>?_) (by simp) (λb o q=>Heap.get?_push_of_some _ (Heap.get?_push_of_some _ (k0 b o q))) ⟨⟨_,Heap.get?_push_of_some _ (Heap.get?_push_size _ rfl),rfl,rfl⟩,(tp.push _).push _⟩ (Heap.get?_push_size _ rfl) λv h' tk p kp=>?_⟩
  ·intro q
   rw[k8,uG]at q
   rcases IJ.mp q with q|q
   ·exact absurd q (by intro z;exact absurd (Nat.succ.inj z) (KG _))
   ·have q:=Jf.mp q
    exact absurd q (by intro z;have:s.heap.objs.size+2=s.heap.objs.size:=z;omega)
  ·have lb:=Heap.lt_size q
   rw[k8,uG]
   refine⟨λz=>?_,λz=>?_⟩
   ·have z:=Jf.mp z
    rw[z]at lb
    exact absurd lb (Jz.mpr (JA _))
   ·rw[z]at lb
    exact absurd lb (Jz.mpr (Jh _ 2))
  ·refine h v h' tk (by simpa using p) λb o q=>?_
   have lb:=Heap.lt_size q
   refine kp b o (λz=>?_) (λz=>?_) (Heap.get?_push_of_some _ (Heap.get?_push_of_some _ (k0 b o q)))
   ·have z:=Jf.mp z
    rw[z,k8]at lb
    exact absurd lb (Jz.mpr (JA _))
   ·rw[z,uG]at lb
    exact absurd lb (Jz.mpr (Jh _ 2))
end
end L3
namespace HT
open PySem PyProof.Rows
theorem uI(A:Around)(s:Shared)(a:Int)(t:Tok)(c:Int)(u:Tok)(prog:Program)(w:World)(E:Value->Shared->Prop)(Q:Value->Shared->Prop)(h:Q (.bool (decide (c<a))) s) :
 wpAny (model prog w) A (richCompare .Gt (.int a t) (.int c u)) Q E s:=
 (PyProof.Rows.gt_int h:wpAny (model prog w) A (compareOp .Gt (.int a t) (.int c u)) Q E s)
section
open PySem.SeqAt
open PySem.AutoSeq1 (wpAny_loadPart')
open PySem.MeetsSeq PySem.MeetsSeq2 PySem.MeetsSeq3
theorem k9(l b:Addr)(items items2:Array Value)(n n2:Nat)(dd dd2:Option Addr)(sl sl2:Array (Option Value))(ns ms:List Int)(hi:IntsAre items.toList ns)(hj:IntsAre items2.toList ms) :
 Meets (Builtin.«tuple.__gt__» ⟨[.ref l,.ref b],[]⟩)
  (λ_ R s=>s.heap.get? l=some {cls:= .type "tuple",dict:=dd,data:= .seq items n,slots:=sl}/\s.heap.get? b=some {cls:= .type "tuple",dict:=dd2,data:= .seq items2 n2,slots:=sl2}/\
   R (.ok (.ret (.bool (lexLt ms ns)))) s):=
 .of_wp λprog w A R s h=>by
  obtain⟨hp,g,d,tk,os⟩:=s;obtain⟨hl,hb,h⟩:=h
  have f2:=AutoSeq1.sub_tuple_tuple
  have z1:items.size=ns.length:=by rw[<-hi.length];simp
  have z2:items2.size=ms.length:=by rw[<-hj.length];simp
  wp_walk using wpAny_loadPart' hl,wpAny_loadPart' hb,wpAny_forIn_list _ (λrest b s'=>b.1=none/\s'= ⟨hp,g,d,tk,os⟩/\∃(vs ws:List Value) (ns' ms':List Int),rest=vs.zip ws/\
   IntsAre vs ns'/\IntsAre ws ms'/\ns'.length+items2.size=ms'.length+items.size/\R (.ok (.ret (.bool (lexLt ms' ns')))) ⟨hp,g,d,tk,os⟩) _
  case turn=>
   rintro⟨y,x⟩ rest b s' ⟨hb',rfl,vs,ws,ns',ms',hz,tT,hwi,hlen,hR⟩
   cases tT with
   |nil=>rw[J0]at hz;cases hz
   |cons a t tU=>
    cases hwi with
    |nil=>rw[JJ]at hz;cases hz
    |cons c u tV=>
     rw[Jl]at hz
     injection hz with hyx hrest
     injection hyx with hy hx
     subst hy hx
     rw[fB]at hR
     simp only[IL]at hlen
     obtain⟨e,he,hiff⟩:=oA A.in1 ⟨hp,g,d,tk,os⟩ a t c u
     refine wpAny_bind (he prog w _ _ ?_)
     cases e with
     |true=>
      rw[if_pos (hiff.mp rfl).symm]at hR
      wp_walk
      exact⟨rfl,rfl,_,_,_,_,hrest,tU,tV,by omega,hR⟩
     |false=>
      rw[if_neg (λq=>absurd (hiff.mpr q.symm) Iv)]at hR
      have BC:=uI A.in1 ⟨hp,g,d,tk,os⟩ a t c u prog w
      wp_walk using BC
      exact⟨_,rfl,by simpa using hR⟩
  case fin=>
   rintro⟨b1,b2⟩ s' ⟨hb',rfl,vs,ws,ns',ms',hz,tT,hwi,hlen,hR⟩
   simp only at hb'
   subst hb'
   have hv:lexLt ms' ns'=decide (items.size>items2.size):=by
    cases tT with
    |nil=>
     cases hwi with
     |nil=>
      simp only[IZ]at hlen
      rw[eg]
      exact(decide_eq_false (by omega)).symm
     |cons c u hw=>
      simp only[IZ,IL]at hlen
      rw[gB]
      exact(decide_eq_false (by omega)).symm
    |cons a t hv=>
     cases hwi with
     |nil=>
      simp only[IZ,IL]at hlen
      rw[gA]
      exact(decide_eq_true (by omega)).symm
     |cons c u hw=>
      rw[Jl]at hz
      cases hz
   rw[hv]at hR
   wp_walk
   exact⟨_,rfl,by simpa[Builtin.Tuple.tupleCompareSizes]using hR⟩
  case h=>
   exact⟨rfl,rfl,items.toList,items2.toList,ns,ms,rfl,hi,hj,by omega,h⟩
end
section
variable{prog:Program}{w:World}{A:Around}{E:Value->Shared->Prop}{s:Shared}
theorem p5{l b:Addr}{items items2:Array Value}{ns ms:List Int}{Q:Value->Shared->Prop}(hl:IsTup s.heap l items)(hb:IsTup s.heap b items2)(hi:IntsAre items.toList ns)(hj:IntsAre items2.toList ms)
 (hu:A.units<cLine)(h:Q (.bool (lexLt ms ns)) s):wpAny (model prog w) A (compareOp .Gt (.ref l) (.ref b)) Q E s:=by
 obtain⟨⟨cls,dd,data,sl⟩,ho,hc,n,hd⟩:=id hl
 obtain⟨⟨BD,dd2,data2,sl2⟩,ho2,hc2,n2,hd2⟩:=id hb
 simp only at hc hd hc2 hd2
 subst hc hd hc2 hd2
 exact richCompare_meets_room (op:= .Gt) ⟨_,ho,rfl⟩ ⟨_,ho2,rfl⟩ PySem.F.slot_tuple_gt PySem.F.entry_tuple_gt (PySem.F.args_tuple_gt_2 _ _) (k9 l b items items2 n n2 dd dd2 sl sl2 ns ms hi hj)
  ⟨ho,ho2,show Value.bool (lexLt ms ns)≠Value.notImplemented/\Q (.bool (lexLt ms ns)) s from⟨(λx=>nomatch x),h⟩⟩ hu
end
end HT
namespace L3
open PySem PySem.Spec PyProof.Rows L2
section
variable{X:Cx}{pos:Pos}
def Ck(c:iO)(t:gT):gT:=λD ρ M=>∃J:En->Mp->Prop,(c ρ M λb M1=>if b=true then t {D with nx:=λρ' M'=>bC (J ρ' M')} ρ M1 else bC (J ρ M1))/\∀ρ M,J ρ M->D.nx ρ M
theorem yE{c:Expr}{a:List Stmt}{tc:iO}{t:gT}(hc:pS X c tc)(ha:fE X a t):pT X (.If c a [] pos) (Ck tc t):=by
 constructor
 intro pins s σ H ρ M D I r ⟨J,q,hJ⟩
 refine bU ((bM hc ha aX).run pins s σ H ρ M {D with nx:=λρ' M'=>bC (J ρ' M')} I r q) λf s' z=>?_
 cases f with
 |next=>obtain⟨σ',H',I',ρ',M',fr,r',p⟩:=z;exact⟨σ',H',I',ρ',M',fr,r',hJ _ _ p.out⟩
 |brk=>exact z
 |cont=>exact z
 |ret u=>exact z
theorem jK(p q:Pl):HT.lexLt [p.x,p.y] [q.x,q.y]=decide (cu p q):=by
 rw[HT.fB,HT.fB,HT.eg]
 by_cases ex:p.x=q.x
 ·rw[if_pos ex]
  by_cases ey:p.y=q.y
  ·rw[if_pos ey];exact(decide_eq_false (by unfold cu;omega)).symm
  ·rw[if_neg ey,decide_eq_decide];unfold cu;omega
 ·rw[if_neg ex,decide_eq_decide];unfold cu;omega
theorem Aa{P:Program}{w:World}{K:PySem.W.Frag}{H:Hp}{h:Heap}{p:Pl}{x:V}{u:Value}(ok:d9 P w H h)(d:Dat K H p.d x)(r:RelV x u):m6 h u p:=by
 obtain⟨a,xs,rfl,ha,hx⟩:=aP.mp d
 obtain rfl:u=Value.ref a:=r
 obtain⟨its,rv,⟨o,h1,h2,n,h3⟩,_⟩:=cj ok ha
 obtain⟨v1,v2,rfl,d1,d2⟩:=j0 hx
 obtain rfl:=aJ.mp d1
 obtain rfl:=aJ.mp d2
 obtain⟨u1,u2,rfl,⟨t1,rfl⟩,⟨t2,rfl⟩⟩:=vals2 rv
 exact⟨a,o,t1,t2,n,rfl,h1,h2,h3⟩
theorem m6.tup{h:Heap}{v:Value}{p:Pl}(a:m6 h v p):∃(l:Addr) (its:Array Value),v= .ref l/\IsTup h l its/\IntsAre its.toList [p.x,p.y]:=by
 obtain⟨b,o,t,u,n,h1,h2,h3,h4⟩:=a
 exact⟨b,_,h1,⟨o,h2,h3,n,h4⟩,.cons _ _ (.cons _ _ .nil)⟩
def gg(h:Heap):List Value->List Pl->Prop:=Paired (m6 h)
theorem iY{P:Program}{w:World}{K:PySem.W.Frag}{H:Hp}{h:Heap}(ok:d9 P w H h):∀{ps:List Pl} {xs:List V} {us:List Value},aB K H (ps.map Pl.d) xs->Vals xs us->gg h us ps
 |[],xs,us,d,r=>by rw[aI.mp d]at r;cases r;exact .nil
 |p::ps,xs,us,d,r=>by
  obtain⟨v,vs,rfl,d1,d2⟩:=aF.mp d
  cases r with
  |cons r rr=>exact .cons (Aa ok d1 r) (iY ok d2 rr)
theorem gg.get{h:Heap}:∀{us:List Value} {ps:List Pl} {i:Nat} {u:Value},gg h us ps->us[i]?=some u->∃p,ps[i]?=some p/\m6 h u p
 |_,_,i,u,.nil,e=>by simp at e
 |_,_,i,u,.cons a r,e=>by
  cases i with
  |zero=>simp at e;subst e;exact⟨_,rfl,a⟩
  |succ i=>exact gg.get (i:=i) r (by simpa using e)
theorem Vals.len{xs:List V}{us:List Value}(r:Vals xs us):us.length=xs.length:=(Vals.length r).symm
def bestOf(lt:Pl->Pl->Bool)(ps:List Pl)(i j:Nat):Bool:=lt (ps.getD i ⟨0,0⟩) (ps.getD j ⟨0,0⟩)
def yF(lt:Pl->Pl->Bool):List D->Mp->DK->Prop:=λds M Q=>∃ps:List Pl,ds=ps.map Pl.d/\2<=ps.length/\ps.length<=4/\Q (ps.getD (argBest (bestOf lt ps) (ps.length-1)) ⟨0,0⟩).d M
theorem iI(bt:Nat->Nat->Bool):∀n,argBest bt n<=n
 |0=>Iu 0
 |n+1=>by
  unfold argBest
  split
  ·exact Iu _
  ·exact Nat.le_succ_of_le (iI bt n)
theorem wN(a b:Value):argsOk "min" ⟨[a,b],[]⟩:=by unfold argsOk;kernel_rfl
theorem wO(a b c:Value):argsOk "min" ⟨[a,b,c],[]⟩:=by unfold argsOk;kernel_rfl
theorem wQ(a b c d:Value):argsOk "min" ⟨[a,b,c,d],[]⟩:=by unfold argsOk;kernel_rfl
theorem Ab:∀(vs:List Value),2<=vs.length->vs.length<=4->argsOk "min" ⟨vs,[]⟩:=by
 intro vs h2 h4
 cases vs with
 |nil=>exact absurd h2 (by decide)
 |cons a vs=>
  cases vs with
  |nil=>exact absurd h2 (by simp)
  |cons b vs=>
   cases vs with
   |nil=>exact wN a b
   |cons c vs=>
    cases vs with
    |nil=>exact wO a b c
    |cons d vs=>
     cases vs with
     |nil=>exact wQ a b c d
     |cons e vs=>exact absurd h4 (by simp only[IL];omega)
theorem wR(a b:Value):argsOk "max" ⟨[a,b],[]⟩:=by unfold argsOk;kernel_rfl
theorem wU(a b c:Value):argsOk "max" ⟨[a,b,c],[]⟩:=by unfold argsOk;kernel_rfl
theorem wV(a b c d:Value):argsOk "max" ⟨[a,b,c,d],[]⟩:=by unfold argsOk;kernel_rfl
theorem Ac:∀(vs:List Value),2<=vs.length->vs.length<=4->argsOk "max" ⟨vs,[]⟩:=by
 intro vs h2 h4
 cases vs with
 |nil=>exact absurd h2 (by decide)
 |cons a vs=>
  cases vs with
  |nil=>exact absurd h2 (by simp)
  |cons b vs=>
   cases vs with
   |nil=>exact wR a b
   |cons c vs=>
    cases vs with
    |nil=>exact wU a b c
    |cons d vs=>
     cases vs with
     |nil=>exact wV a b c d
     |cons e vs=>exact absurd h4 (by simp only[IL];omega)
theorem Ae(hu:X.A.units+64<cLine)(hc:X.calm=true):Call3 X (.builtin "min") (yF λp q=>decide (cu p q)):=by
 constructor
 intro pins s σ H M xs ds us Q I rm rs dx ⟨ps,e,h2,h4,q⟩
 subst e
 have hl:us.length=ps.length:=by rw[Vals.len rs,<-dx.length,Iw]
 have hp:=iY I.hok dx rs
 refine uF (Ab us (by omega) (by omega)) (by omega) (by omega) (I.ok.hd hc) (bt:=bestOf (λp q=>decide (cu p q)) ps) (λi j vi vj t Q E g e1 e2 q=>?_) λv h' tk e g=>?_
 ·obtain⟨p1,f1,a1⟩:=hp.get e1
  obtain⟨p2,f2,a2⟩:=hp.get e2
  obtain⟨l1,i1,rfl,t1,n1⟩:=(a1.grow g).tup
  obtain⟨l2,i2,rfl,t2,n2⟩:=(a2.grow g).tup
  have eb:bestOf (λp q=>decide (cu p q)) ps i j=decide (cu p1 p2):=by unfold bestOf;rw[IU,IU,f1,f2];rfl
  rw[eb,<-jK]at q
  exact(HT.iC t1 t2 n1 n2 (by show X.A.units+1<cLine;omega) q:wpAny (model X.prog X.w) X.A.in1 (compareOp .Lt (.ref l1) (.ref l2)) Q E t)
 ·rw[hl]at e
  obtain⟨x,ex,rx⟩:∃x,xs[argBest (bestOf (λp q=>decide (cu p q)) ps) (ps.length-1)]?=some x/\RelV x v:=by
   have lt:argBest (bestOf (λp q=>decide (cu p q)) ps) (ps.length-1)<xs.length:=by
    have:=iI (bestOf (λp q=>decide (cu p q)) ps) (ps.length-1)
    rw[<-dx.length,Iw];omega
   obtain⟨u,eu,ru⟩:=Vals.get rs (Iz lt)
   rw[e]at eu
   cases eu
   exact⟨_,Iz lt,ru⟩
  obtain⟨d,ed,dd⟩:=dx.back ex
  rw[II]at ed
  have eq:d=(ps.getD (argBest (bestOf (λp q=>decide (cu p q)) ps) (ps.length-1)) ⟨0,0⟩).d:=by
   rw[IU]
   cases z:ps[argBest (bestOf (λp q=>decide (cu p q)) ps) (ps.length-1)]? with
   |none=>rw[z]at ed;cases ed
   |some p=>rw[z]at ed;cases ed;rfl
  subst eq
  exact⟨x,H,I.kept g,rx,aE rm dd q⟩
theorem Af(hu:X.A.units+64<cLine)(hc:X.calm=true):Call3 X (.builtin "max") (yF λp q=>decide (cu q p)):=by
 constructor
 intro pins s σ H M xs ds us Q I rm rs dx ⟨ps,e,h2,h4,q⟩
 subst e
 have hl:us.length=ps.length:=by rw[Vals.len rs,<-dx.length,Iw]
 have hp:=iY I.hok dx rs
 refine uH (Ac us (by omega) (by omega)) (by omega) (by omega) (I.ok.hd hc) (bt:=bestOf (λp q=>decide (cu q p)) ps) (λi j vi vj t Q E g e1 e2 q=>?_) λv h' tk e g=>?_
 ·obtain⟨p1,f1,a1⟩:=hp.get e1
  obtain⟨p2,f2,a2⟩:=hp.get e2
  obtain⟨l1,i1,rfl,t1,n1⟩:=(a1.grow g).tup
  obtain⟨l2,i2,rfl,t2,n2⟩:=(a2.grow g).tup
  have eb:bestOf (λp q=>decide (cu q p)) ps i j=decide (cu p2 p1):=by unfold bestOf;rw[IU,IU,f1,f2];rfl
  rw[eb,<-jK]at q
  exact(HT.p5 t1 t2 n1 n2 (by show X.A.units+1<cLine;omega) q:wpAny (model X.prog X.w) X.A.in1 (compareOp .Gt (.ref l1) (.ref l2)) Q E t)
 ·rw[hl]at e
  obtain⟨x,ex,rx⟩:∃x,xs[argBest (bestOf (λp q=>decide (cu q p)) ps) (ps.length-1)]?=some x/\RelV x v:=by
   have lt:argBest (bestOf (λp q=>decide (cu q p)) ps) (ps.length-1)<xs.length:=by
    have:=iI (bestOf (λp q=>decide (cu q p)) ps) (ps.length-1)
    rw[<-dx.length,Iw];omega
   obtain⟨u,eu,ru⟩:=Vals.get rs (Iz lt)
   rw[e]at eu
   cases eu
   exact⟨_,Iz lt,ru⟩
  obtain⟨d,ed,dd⟩:=dx.back ex
  rw[II]at ed
  have eq:d=(ps.getD (argBest (bestOf (λp q=>decide (cu q p)) ps) (ps.length-1)) ⟨0,0⟩).d:=by
   rw[IU]
   cases z:ps[argBest (bestOf (λp q=>decide (cu q p)) ps) (ps.length-1)]? with
   |none=>rw[z]at ed;cases ed
   |some p=>rw[z]at ed;cases ed;rfl
  subst eq
  exact⟨x,H,I.kept g,rx,aE rm dd q⟩
def GV:List D->Mp->DK->Prop:=λds M Q=>∃p q:Pl,ds=[p.d,q.d]/\Q (lo p q).d M
def GW:List D->Mp->DK->Prop:=λds M Q=>∃p q:Pl,ds=[p.d,q.d]/\Q (hi p q).d M
theorem Call3.imp{f:Value}{r r':List D->Mp->DK->Prop}(h:Call3 X f r)(g:∀ds M Q,r' ds M Q->r ds M Q):Call3 X f r':=
 ⟨λpins s σ H M xs ds us Q I rm rs dx q=>h.run pins s σ H M xs ds us Q I rm rs dx (g _ _ _ q)⟩
theorem EB(hu:X.A.units+64<cLine)(hc:X.calm=true):Call3 X (.builtin "min") GV:=(Ae hu hc).imp λds M Q ⟨p,q,e,h⟩=>by
 refine⟨[p,q],e,Iu 2,Jh 2 2,?_⟩
 have e:[p,q].getD (argBest (bestOf (λp q=>decide (cu p q)) [p,q]) ([p,q].length-1)) ⟨0,0⟩=lo p q:=by
  have a:argBest (bestOf (λp q=>decide (cu p q)) [p,q]) ([p,q].length-1)=if decide (cu q p)=true then 1 else 0:=rfl
  rw[a]
  unfold lo
  by_cases c:cu q p
  ·rw[if_pos c,if_pos (decide_eq_true c)];rfl
  ·rw[if_neg c,if_neg (λz=>c (of_decide_eq_true z))];rfl
 rw[e];exact h
theorem EC(hu:X.A.units+64<cLine)(hc:X.calm=true):Call3 X (.builtin "max") GW:=(Af hu hc).imp λds M Q ⟨p,q,e,h⟩=>by
 refine⟨[p,q],e,Iu 2,Jh 2 2,?_⟩
 have e:[p,q].getD (argBest (bestOf (λp q=>decide (cu q p)) [p,q]) ([p,q].length-1)) ⟨0,0⟩=hi p q:=by
  have a:argBest (bestOf (λp q=>decide (cu q p)) [p,q]) ([p,q].length-1)=if decide (cu p q)=true then 1 else 0:=rfl
  rw[a]
  unfold hi
  by_cases c:cu p q
  ·rw[if_pos c,if_pos (decide_eq_true c)];rfl
  ·rw[if_neg c,if_neg (λz=>c (of_decide_eq_true z))];rfl
 rw[e];exact h
noncomputable def Ag(h:Heap)(v:Value):Pl:=Option.getD (α:=Pl) ((EA h).keyOf v) ⟨0,0⟩
theorem wW{h:Heap}{v:Value}{p:Pl}(a:m6 h v p):Ag h v=p:=by
 unfold Ag
 have e:(EA h).keyOf v=some p:=wM a
 exact congrArg (λo=>Option.getD (α:=Pl) o ⟨0,0⟩) e
theorem gg.keys{h:Heap}:∀{us:List Value} {ps:List Pl},gg h us ps->us.map (Ag h)=ps
 |_,_,.nil=>rfl
 |_,_,.cons a r=>by rw[IP,wW a,gg.keys r]
end
end L3
namespace L3
open PySem PySem.Spec PyProof.Rows L2
theorem ED{k:Bool}{Q:Bool->Prop}(h:Q k):∃b,D.bl k=D.bl b/\Q b:=⟨k,rfl,h⟩
theorem Cm{ρ:En}{i:Nat}{d:D}{Q:D->Prop}(e:ρ[i]?=some (some d))(h:Q d):∃x,ρ[i]?=some (some x)/\Q x:=⟨d,e,h⟩
theorem Cn{i j:Int}{Q:Int->Int->Prop}(h:Q i j):∃x y,D.int i=D.int x/\D.int j=D.int y/\Q x y:=⟨i,j,rfl,rfl,h⟩
theorem Co{i:Int}{Q:Int->Prop}(h:Q i):∃x,D.int i=D.int x/\Q x:=⟨i,rfl,h⟩
theorem EE{M:Mp}{xs:List D}{i:Int}{z:D}{Q:D->Prop}(e:oG xs i=some z)(h:Q z):∃ys y x,uq M (.tup xs) ys/\D.int i=D.int y/\oG ys y=some x/\Q x:=⟨xs,i,z,.inl rfl,rfl,e,h⟩
theorem Cp{xs:List D}{Q:Prop}(e:xs.length.ble 1000=true)(h:Q):xs.length<=sizeLine/\Q:=⟨Jp (Kh e) (by decide),h⟩
theorem j7{M:Mp}{a:Addr}{xs:List D}{i:Int}{z:D}{Q:D->Prop}(hM:M a=some (.lst xs))(e:oG xs i=some z)(h:Q z):∃ys y x,uq M (.ref a) ys/\D.int i=D.int y/\oG ys y=some x/\Q x:=⟨xs,i,z,.inr (.inr ⟨a,rfl,hM⟩),rfl,e,h⟩
theorem bX{M:Mp}{a:Addr}{xs:List D}{Q:List D->Prop}(hM:M a=some (.lst xs))(h:Q xs):∃d ys,[D.ref a]=[d]/\uq M d ys/\Q ys:=⟨_,xs,rfl,.inr (.inr ⟨a,rfl,hM⟩),h⟩
theorem j8{M:Mp}{a:Addr}{es:List D}{d:D}{Q:List D->Prop}(hM:M a=some (.lst es))(e1:plain 9 d=true)(e2:es.all (plain 9)=true)(h:Q es):∃ys,zM M (.ref a) ys/\plain 9 d=true/\ys.all (plain 9)=true/\Q ys:=⟨es,.inr ⟨a,rfl,hM⟩,e1,e2,h⟩
theorem p6{M:Mp}{a:Addr}{xs:List D}{Q:Addr->List D->Prop}(hM:M a=some (.lst xs))(h:Q a xs):∃b ys,D.ref a=D.ref b/\M b=some (.lst ys)/\Q b ys:=⟨a,xs,rfl,hM,h⟩
theorem uJ{M:Mp}{a:Addr}{xs:List D}{Q:Prop}(hM:M a=some (.lst xs))(h:Q):(∃b ys,D.ref a=D.ref b/\M b=some (.lst ys))/\Q:=⟨⟨a,xs,rfl,hM⟩,h⟩
theorem GX{P:List Value->Prop}(h:P [])(us:List Value)(l:us.length=0):P us:=by
 cases us with
 |nil=>exact h
 |cons a r=>cases l
theorem Dp{P:List Value->Prop}{n:Nat}(h:∀a r,r.length=n->P (a::r))(us:List Value)(l:us.length=n+1):P us:=by
 cases us with
 |nil=>cases l
 |cons a r=>exact h a r (Nat.succ.inj l)
theorem Cq{P:List Value->Prop}(h:∀a,P [a]):∀us:List Value,us.length=1->P us:=Dp λa=>GX (h a)
theorem wX{P:List Value->Prop}(h:∀a b,P [a,b]):∀us:List Value,us.length=2->P us:=Dp λa=>Cq (P:=λr=>P (a::r)) (h a)
theorem FE{P:List Value->Prop}(h:∀a b c,P [a,b,c]):∀us:List Value,us.length=3->P us:=Dp λa=>wX (P:=λr=>P (a::r)) (h a)
theorem FF{P:List Value->Prop}(h:∀a b c d,P [a,b,c,d]):∀us:List Value,us.length=4->P us:=Dp λa=>FE (P:=λr=>P (a::r)) (h a)
end L3
local macro_rules| `(tactic|walk_at "sm")=> `(tactic|first|assumption|exact L3.Sm.sign _|exact L3.Sm.zero|exact L3.Sm.one|exact L3.Sm.two|((with_reducible apply L3.Sm.mul)<;>walk_at "sm")|((with_reducible apply L3.Sm.sub)<;>walk_at "sm")|((with_reducible apply L3.Sm.add)<;>walk_at "sm")|((with_reducible apply L3.Sm.neg)<;>walk_at "sm")|((with_reducible apply L3.Sm.abs)<;>walk_at "sm")|((with_reducible apply L3.Sm.emod);(first|omega|decide +kernel);walk_at "sm")|exact L3.Sm.lit _)
local macro_rules| `(tactic|walk_at "mulok")=> `(tactic|(apply L3.MulOk.of;walk_at "sm";walk_at "sm";first|omega|decide +kernel))
local macro_rules| `(tactic|walk_at "rd1")=> `(tactic|first|refine L3.ED ?_|refine L3.Cm rfl ?_|refine L3.Cn ?_|refine L3.EE rfl ?_|refine L3.Co ?_|refine L3.Cp rfl ?_|refine⟨_,rfl,?_⟩|refine⟨_,_,rfl,rfl,?_⟩|refine⟨_,_,_,Or.inl rfl,rfl,rfl,?_⟩|(refine⟨?side,?_⟩;(case side=>first|walk_at "mulok"|(simp only[IL,IZ];decide)|(show(0:Int)<_;first|omega|(dsimp only;omega)|decide +kernel)|(show(0:Int)<=_;first|omega|(dsimp only;omega))|exact⟨by decide +kernel,by decide +kernel,by decide +kernel⟩|exact⟨by decide +kernel,_,L3.Sm.lit _,by decide +kernel⟩|(left;walk_at "mulok")|exact Or.inr (Or.inr ⟨by decide,by decide⟩)|decide))|refine⟨rfl,?_⟩|refine⟨trivial,?_⟩|refine⟨_,Or.inl rfl,rfl,?_⟩|refine⟨_,_,rfl,Or.inl rfl,?_⟩|refine⟨_,_,_,_,rfl,L3.ur.int _,L3.aW,?_⟩|refine⟨_,_,_,_,rfl,L3.ur.tup _,L3.aW,?_⟩|refine⟨_,_,_,_,rfl,L3.ur.bl _,L3.aW,?_⟩|refine⟨_,_,rfl,?_⟩|refine⟨_,_,_,rfl,?_⟩|refine⟨_,_,_,_,rfl,?_⟩)
local macro_rules| `(tactic|walk_at "rd")=> `(tactic|repeat walk_at "rd1")
local macro_rules| `(tactic|walk_at "smle")=> `(tactic|(apply L3.Sm.le;walk_at "sm";first|omega|decide +kernel))
local macro_rules| `(tactic|walk_at "om")=> `(tactic|first|omega|(dsimp only;omega))
namespace L3
open PySem L2
instance(p q r s:Pl):Decidable (GS p q r s):=inferInstanceAs (Decidable (_\/_))
theorem fG(i j:Int):(!gc (.int i) (.int j))=decide (i≠j):=by
 rw[c8,Ju]
 simp
theorem bO(qs:List Pl):(qs.map Pl.d).all (plain 9)=true:=by
 rw[Kd,IM]
 intro q _
 rfl
end L3
namespace PySem
open PySem.Calls PySem.W
section
variable{prog:Program}{w:World}{A:Around}{E:Value->Shared->Prop}{s:Shared}
variable{R:Result->Shared->Prop}
end
end PySem
namespace L2
open PySem PySem.Spec PyProof.Rows
section
variable{X:Cx}{pins:List (Addr ×Obj)}{σ:St}{H:Hp}{s:Shared}
theorem Inv.named{a:Addr}{o:HO}(I:Inv X pins σ H s)(f:cU X pins H a)(new:bE X.prog X.w (upd H a o) s.heap a o):Inv X pins σ (upd H a o) s:=by
 obtain⟨f0,f1,f2,f3,f4,f5⟩:=f
 have nn:∀b u,H b=some u->b≠a:=λb u e z=>by rw[z,f0]at e;cases e
 have hok:d9 X.prog X.w (upd H a o) s.heap:=λb u e=>by
  by_cases hb:b=a
  ·subst hb;rw[aU]at e;cases e;exact new
  ·rw[aD hb]at e
   exact(I.hok b u e).stay (λc v _ q=>q) (λc q=>by rw[aD (nn _ _ q)];exact q) λc xs q=>by rw[aD (nn _ _ q)];exact q
 exact I.step (h':=s.heap) (g':=s.gens) (d':=s.drawn) (t':=s.toks) (ch:=[a]) (λb hb=>by rw[Jf.mp hb];exact⟨f3,f1,f4,f5⟩) (λb o _ _ _ e _=>e) (λb o _ _ _ e _=>⟨o.slots,e⟩) (λb o hc e n=>by rw[aD (by simpa using hc)];exact n)
  (λb o _ e=>⟨o,e⟩) (λb xs e=>by rw[aD (nn _ _ e)];exact e) (λb o u e=>by rw[aD (nn _ _ e)];exact e) (λb ps e=>⟨#[],by rw[aD (nn _ _ e),e];simp⟩) (λm hm=>hm) hok I.bare
end
end L2
namespace L3
open PySem PySem.Spec PyProof.Rows L2
structure Tab(K:PySem.W.Frag)(mg:Str->Option Value)(cd:Value)(a:Addr):Prop where
 code:∃c o vs file tf flags tg wY text tt,cd= .ref c/\K.lookup c=some o/\o.cls= .type "code"/\o.data= .fields vs/\vs[11]?=some (.ref a)/\vs.getD 18 .none= .str file tf/\vs.getD 7 .none= .int flags tg/\vs.getD 9 .none= .bool wY/\vs.getD 10 .none= .int text tt
 bm:∃b o,mg "__builtins__" =some (.ref b)/\b≠builtinsNs/\K.lookup b=some o/\o.cls= .type "module"/\o.dict=some builtinsNs/\o.data= .plain
def j9(H:Hp)(v:Value)(q:Str):Prop:= ∃c o u vs tk,v= .ref c/\H c=some (.fZ o u)/\o.data= .fields vs/\vs[1]?=some (.str q tk)
def gC(q:Str)(args:Arguments)(body:Expr)(sc:Scope)(pm cd:Value):FuncData:=
 {name:= "<lambda>",qualname:=q,params:=args,body:= .expr body,scope:=sc,globals:=mainGlobals,closure:=[],defaults:= .none,kwdefaults:= .none,pyModule:=pm,code:=cd,builtins:=builtinsNs}
section
variable{X:Cx}{pins:List (Addr ×Obj)}{σ:St}{H:Hp}{s:Shared}{M:Mp}
theorem _root_.L2.Inv.Cr(I:Inv X pins σ H s){b:Addr}{o:Obj}(h:X.K.lookup b=some o):s.heap.get? b=some o/\H b=none:=I.bs b o (I.ok.mod.yW b o h)
theorem kc{pos:Pos}{a b:Int}{c v:Value}:∀{l:List Value},TriplesOk l->codeAmong pos (l++[rawInt a,rawInt b,c])=some v->codeAmong pos l=some v\/v=c
 |[],_,h=>by
  simp only[KR,rawInt,codeAmong]at h
  split at h
  ·exact .inr (Option.some.inj h).symm
  ·cases h
 | .int x t:: .int y u::z::r,h,e=>by
   simp only[List.cons_append,codeAmong]at e ⊢
   split at e
   ·rename_i hc;rw[if_pos hc];exact .inl e
   ·rename_i hc;rw[if_neg hc];exact kc (l:=r) h e
theorem Ah{sc:Scope}{env:Env}(hfree:∀x∈sc.names,x.2≠ .free):closureFor sc env=pure []:=by
 simp only[closureFor]
 rw[forIn_yield_id [] (λx hx c=>by
  obtain⟨n,kind⟩:=x
  have:(kind==NameKind.free)=false:=by simpa using hfree _ hx
  simp only[this,ID,if_false])]
 rfl
theorem wZ{args:Arguments}{body:Expr}{sc:Scope}{pos:Pos}{a:Addr}{Q:Value->Shared->Prop}(I:Inv X pins σ H s)(rm:aV X.K H M)(T:Tab X.K X.mg X.env.code a)(hM:M a=some (.oH (X.env.qual++ "<lambda>")))
 (hd:defaultsOf args X.env=([],[]))(hkw:args.kwonlyargs=[])(hfree:∀x∈sc.names,x.2≠ .free)
 (h:∀f pm cd H' s',Inv X pins σ H' s'->aV X.K H' M->Fr M H M H'->s'.heap.get? f=some {cls:= .type "function",data:= .func (gC (X.env.qual++ "<lambda>") args body sc pm cd)}->j9 H' cd (X.env.qual++ "<lambda>")->cU X pins H' f->Q (.ref f) s') :
 wpAny (model X.prog X.w) X.A (eval (.Lambda args body sc pos) X.env) Q X.xe s:=by
 show wpAny (model X.prog X.w) X.A (evalAll (defaultsOf args X.env).1 >>= λdv=>holding dv (evalAllOpt (defaultsOf args X.env).2) >>= λGY=>makeFunction "<lambda>" (X.env.qual++ "<lambda>") args (.expr body) sc X.env dv GY [] pos pos.line) Q X.xe s
 rw[hd]
 refine wpAny_bind (wpAny_pure (wpAny_bind (wpAny_holding (wpAny_pure ?_))))
 rw[makeFunction_eq,hkw]
 refine wpAny_bind (wpAny_pure (wpAny_bind (wpAny_pure (wpAny_bind (wpAny_pure ?_)))))
 unfold makeTail
 rw[Ah hfree]
 refine wpAny_bind (wpAny_pure (wpAny_bind (wpAny_pure ?_)))
 obtain⟨b,ob,b1,b2,b3,b4,b5,b6⟩:=T.bm
 obtain⟨c,oc,vs,file,tf,flags,tg,wY,text,tt,hc,c1,c0,c2,c3,c4,c5,c6,c7⟩:=T.code
 obtain⟨ps,hT,tr,good⟩:=rm.oH hM
 obtain⟨hop,_⟩:=(show bE X.prog X.w H s.heap a (.ext (ja a ps))from I.hok a _ hT)
 have hca:c≠a:=λz=>by have:=(I.Cr c1).2;rw[z,hT]at this;cases this
 have hba:b≠a:=λz=>by have:=(I.Cr b3).2;rw[z,hT]at this;cases this
 have hok:s.heap.IsCode c a ps:=⟨oc,vs,file,tf,flags,tg,wY,text,tt,_,(I.Cr c1).1,c2,by rw[Array.getD_eq_getD_getElem?,c3];rfl,c4,c5,c6,c7,hop,rfl,tr,hca⟩
 have htb:s.heap.TableAt c a ps:=⟨⟨oc,vs,(I.Cr c1).1,c0,c2,c3⟩,hop⟩
 have tail:∀(H1:Hp) (s1:Shared) (cd:Value),Inv X pins σ H1 s1->aV X.K H1 M->Fr M H M H1->j9 H1 cd (X.env.qual++ "<lambda>")->
  wpAny (model X.prog X.w) X.A (builtinsFor X.env.globals X.env.builtins >>= λbl=>nsGet X.env.globals "__name__" >>= λpm=>pure Value.none >>= λdc=>newObj (.type "function") (.func {gC (X.env.qual++ "<lambda>") args body sc (pm.getD .none) cd with globals:=X.env.globals,builtins:=bl,doc:=dc})) Q X.xe s1:=by
  intro H1 s1 cd I1 g7 f1 k1
  have hg:s1.heap.Ns X.env.globals X.mg:=by
   rw[I1.ok.glob]
   obtain⟨o',es,ep,ho,r⟩:=I1.ok.mod.glob
   exact⟨o',es,ep,(I1.bs _ _ ho).1,r⟩
  refine wpAny_bind (wpAny_builtinsFor hg b1 b2 (I1.Cr b3).1 b4 b5 b6 ?_)
  refine wpAny_bind (wpAny_nsGet hg ?_)
  refine wpAny_bind (wpAny_pure ?_)
  refine wpAny_newObj_type ?_ (by size_fits)
  rw[I1.ok.glob]
  have n1:H1 s1.heap.objs.size=none:=I1.hok.fresh (Iu _)
  refine h s1.heap.objs.size _ cd H1 _ (I1.kept (t':=s1.toks) λb u e=>Heap.get?_push_of_some _ e) g7 f1 (Heap.get?_push_size _ rfl) k1 (I1.ou (Iu _) n1)
 cases hf:codeAmong pos ps.toList with
 |some c'=>
  refine wpAny_bind (wpAny_functionCode_hit hc hok hf ?_)
  exact tail H s c' I rm (Fr.refl _ _) (good pos c' hf)
 |none=>
  refine wpAny_bind (wpAny_functionCodeX hc hok htb hf λc' h' tk hx hge hlt w6 hrec htb' _=>?_)
  obtain⟨Ih,o2,GZ,qT,e1,e2,e3,e4⟩:=hrec
  cases e1
  obtain⟨_,_,_,_,_,_,_,_,_,_,_,_,_,_,_,_,_,_,_,G0,_⟩:=w6
  have Ai:=htb'.2
  have ex:∀b u,b≠a->s.heap.get? b=some u->h'.get? b=some u:=λb u hb e=>hx b u hb e
  have I1:Inv X pins σ (upd H a (.ext (ja a (ps++ #[rawInt pos.line,rawInt pos.col,.ref c'])))) {s with heap:=h',toks:=tk}:=
   I.write (by rw[hT];trivial) (.inl rfl) ex ⟨_,Ai⟩ ⟨Ai,⟨_,Ai⟩,λh1 h2 p1 k=>k _ p1⟩
  have ha:a<s.heap.objs.size:=Heap.lt_size hop
  have FG:c'≠a:=λz=>by rw[z]at hge;omega
  have nH:H c'=none:=I.hok.fresh hge
  have I2:Inv X pins σ (upd (upd H a (.ext (ja a (ps++ #[rawInt pos.line,rawInt pos.col,.ref c'])))) c' (.fZ o2 (.own 0))) {s with heap:=h',toks:=tk}:=
   I1.named (I.ou hge (by rw[aD FG];exact nH)) ⟨e2,o2,e2⟩
  have fr:Fr M H M (upd (upd H a (.ext (ja a (ps++ #[rawInt pos.line,rawInt pos.col,.ref c'])))) c' (.fZ o2 (.own 0))):=λb u n e=>by
   have hb:b≠c':=bh e nH
   have hb2:b≠a:=λz=>by rw[z,hM]at n;cases n
   rw[aD hb,aD hb2]
   exact⟨e,n⟩
  have xt:=fr.ext rm
  have FH:j9 (upd (upd H a (.ext (ja a (ps++ #[rawInt pos.line,rawInt pos.col,.ref c'])))) c' (.fZ o2 (.own 0))) (.ref c') (X.env.qual++ "<lambda>"):=⟨c',o2,_,GZ,qT,rfl,aU,e3,e4⟩
  refine tail _ _ _ I2 (λb u e=>?_) fr FH
  by_cases hb:b=a
  ·subst hb
   rw[hM]at e
   cases e
   refine⟨_,by rw[aD (Ne.symm FG)];exact aU,G0,λp v hv=>?_⟩
   rw[Array.toList_append]at hv
   rcases kc tr hv with z|z
   ·exact good.mono xt p v z
   ·rw[z];exact FH
  ·refine(rm b u e).mono xt λw hw=>?_
   have hb2:b≠c':=bh hw nH
   rw[aD hb2,aD hb]
   exact hw
end
end L3
namespace L3
open PySem PySem.Spec PyProof.Rows L2
section
variable{P:Program}{w:World}{K:PySem.W.Frag}{mg:Str->Option Value}{base:Heap}{A:Around}{outer:List Env}{s:Shared}{H:Hp}
theorem j9.rec{cd:Value}{q:Str}(h:j9 H cd q)(hok:d9 P w H s.heap):s.heap.CodeRec cd q:=by
 obtain⟨c,o,u,vs,tk,e1,e2,e3,e4⟩:=h
 obtain⟨e5,_⟩:=(show bE P w H s.heap c (.fZ o u)from hok c _ e2)
 exact⟨c,o,vs,tk,e1,e5,e3,e4⟩
theorem w9{q:Str}{args:Arguments}{body:Expr}{sc:Scope}{pm cd:Value}{f:Addr}{N ps:List Str}{k:Nat}(S:aS N ps sc)(hr:bV (k+1) A)(e0:mR P w K mg base A outer s H)
 (ho:s.heap.get? f=some {cls:= .type "function",data:= .func (gC q args body sc pm cd)})(hcd:j9 H cd q){us:List Value}{vs:List V}(hb:BindsTo s (gC q args body sc pm cd) ⟨us,[]⟩ (ps.zip us))(r:Vals vs us)
 {M:Mp}{ds:List D}{te:bT}{Q0:DK}(hl:ds.length=ps.length)(hds:aB K H ds vs)(rm:aV K H M)
 (hbody:bV k (A.deeper (envOfC q sc s.heap.objs.size f cd))->bJ (eX dR P w K mg base N q sc f cd A outer s H E0).n8 body te)(hq:te (dI N ds) M Q0) :
 codeAny (model P w) A (.call (.ref f) ⟨us,[]⟩) (λr s'=>∃u,r= .ok (.ret u)/\CE outer P w H s (Post K M H Q0) u s') s:=by
 have lim:s.heap.NoLimit:=e0.mod.nolimit.keeps λb o e=>(e0.bs b o e).1
 have hl':vs.length=ps.length:=by rw[<-hds.length];exact hl
 have hkind:∀y∈ps.zip us,sc.names.lookup y.1=some .local\/(sc.names.lookup y.1=some .cell/\((cellsFrom (s.heap.objs.size+1) sc.names []).lookup y.1).isSome=true):=λ⟨n,v⟩ hy=>by
  rcases S.par n (JR hy).1 with q|q
  ·exact .inl q
  ·exact .inr ⟨q,PySem.W.cellsFrom_some _ _ _ (.inl q)⟩
 refine PySem.W.kla_callFunE hr.depth ho rfl S.co S.gen rfl (hcd.rec e0.hok) (hb _ _ _ _ ?_)
 refine wpAny_newFunctionEnv_cells S.kind hkind λenv he s1 x=>?_
 subst he
 refine⟨lim.keeps x.toInCall.keep,PySem.W.kla_codeExpr ?_⟩
 have I:Inv (eX dR P w K mg base N q sc f cd A outer s H E0) [] (start N vs) H s1:=lT S hr.hd e0 hl' r x
 refine wpAny_mono ((hbody (hr.deeper _)).run [] s1 (start N vs) H (dI N ds) M Q0 (I.jT _) (gW hds rm) hq) (λu s' h=>?_) λe s' h=>h.elim
 obtain⟨v,H',J,rv,p⟩:=h
 exact⟨u,rfl,v,H',J.os,J.bare,J.base,J.hok,rv,p⟩
end
theorem EF{P:Program}{w:World}{K:PySem.W.Frag}{mg:Str->Option Value}{base:Heap}{x qual:Str}{st:Stmt}{f:Addr}{fd:FuncData}{N ps:List Str}{k:Nat}{S:mX}(F:jx K x qual st f fd)(Sc:aS N ps (ay st))(len:∀ds M Q,S ds M Q->ds.length=ps.length)
 (hbody:∀(cdv:Value) (A:Around) (outer:List Env) (s:Shared) (H:Hp),fd.code=cdv->bV k (A.deeper (envOfC qual (ay st) s.heap.objs.size f cdv))->
  ∃t,fE (eX dR P w K mg base N qual (ay st) f cdv A outer s H E0).n8 (cM st) t/\∀ds M Q,S ds M Q->t {nx:=λ_ M'=>bC (∃M0,Le M0 M'/\Q .aZ M0),rt:=λd M'=>bC (∃M0,Le M0 M'/\Q d M0)} (dI N ds) M) :
 b9 P w K mg base dR (k+1) f fd ps (mY K S):=by
 obtain⟨oc,od,kV,doc,pm,an,cdv,ct,osl,rfl,lk,hcd⟩:=F.ex
 refine yk lk hcd Sc (λvs H Q E h=>?_) (λA outer s H vs Q E hr h=>?_)
 ·obtain⟨ds,M,Q0,h1,_,h2,_⟩:=h
  rw[<-h1.length,len ds M Q0 h2]
 ·obtain⟨ds,M,Q0,h1,rm,h2,h3⟩:=h
  obtain⟨t,ht,hq⟩:=hbody cdv A outer s H rfl hr
  have hE:(eX dR P w K mg base N qual (ay st) f cdv A outer s H E).n8=(eX dR P w K mg base N qual (ay st) f cdv A outer s H E0).n8:=rfl
  refine⟨_,(fE.dn (by rw[hE];exact ht)).n8,dI N ds,M,_,gW h1 rm,hq ds M Q0 h2,λσ' H' ⟨ρ',M',f',r',z⟩=>?_,λv H' ⟨d,M',f',dv,Ex,z⟩=>?_,λ_ _ ⟨_,_,_,_,z⟩=>z.elim,λ_ _ ⟨_,_,_,_,z⟩=>z.elim⟩
  ·obtain⟨M0,l,q⟩:=z.out
   exact h3 .aZ M0 .aZ H' q (cN.mpr rfl) (r'.mem.le l) (f'.le l)
  ·obtain⟨M0,l,q⟩:=z.out
   exact h3 d M0 v H' q dv (Ex.le l) (f'.le l)
end L3
namespace L3
open PySem PySem.Spec PyProof.Rows L2
section
variable{X:Cx}
theorem oS{ds es:List D}(h:ds.length≠es.length):iR ds es=false:=by
 rw[dG,beq_eq_false_iff_ne.mpr h,KU]
abbrev Cs:=En->Mp->(Option Int->Mp->Prop)->Prop
structure Dq(X:Cx)(e:Option Expr)(t:Cs):Prop where
 dn:∃t2:TO,PO X e t2/\∀σ H ρ M Q Q',Rep X.K H σ ρ M->t ρ M Q->(∀o H' M',Fr M H M' H'->Rep X.K H' σ ρ M'->Q o M'->Q' o H')->t2 σ H Q'
def EG:Cs:=λ_ M Q=>Q none M
def Aj(t:bT):Cs:=λρ M Q=>t ρ M λd M1=>∃i,d= .int i/\Q (some i) M1
theorem uK:Dq X none EG:=⟨qI,wk,λσ H ρ M Q Q' r q k=>k none H M (.refl _ _) r q⟩
theorem kg{e:Expr}{t:bT}(h:bJ X e t):Dq X (some e) (Aj t):=⟨yo (L3.dn X.K t),wm h.dn,λσ H ρ M Q Q' r q k=>cy r q λv H' d M' f dv r' ⟨i,e1,q⟩=>by
 subst e1
 obtain rfl:=aJ.mp dv
 exact⟨i,rfl,k (some i) H' M' f r' q⟩⟩
def cutD(xs:List D)(lo hi:Option Int):List D:=(xs.drop (HT.jV xs.length 0 lo)).take (HT.jV xs.length xs.length hi-HT.jV xs.length 0 lo)
theorem aB.drop{K:PySem.W.Frag}{H:Hp}:∀{ds:List D} {xs:List V} (n:Nat),aB K H ds xs->aB K H (ds.drop n) (xs.drop n)
 |ds,xs,0,h=>h
 |[],xs,n+1,h=>by rw[aI.mp h];exact aI.mpr rfl
 |d::ds,xs,n+1,h=>by
  obtain⟨v,vs,rfl,_,h2⟩:=aF.mp h
  exact aB.drop n h2
theorem aB.take{K:PySem.W.Frag}{H:Hp}:∀{ds:List D} {xs:List V} (n:Nat),aB K H ds xs->aB K H (ds.take n) (xs.take n)
 |ds,xs,0,h=>aI.mpr rfl
 |[],xs,n+1,h=>by rw[aI.mp h];exact aI.mpr rfl
 |d::ds,xs,n+1,h=>by
  obtain⟨v,vs,rfl,h1,h2⟩:=aF.mp h
  exact aF.mpr ⟨v,vs.take n,rfl,h1,aB.take n h2⟩
def Ct:R3:=λd e M Q=>∃a b xs ys,d= .ref a/\e= .ref b/\M a=some (.lst xs)/\M b=some (.lst ys)/\xs.length+ys.length<=sizeLine/\∀p,M p=none->Q (.ref p) (aH M p (.lst (xs++ys)))
theorem uL:jd X (binaryOp .Add) Ct:=BI zD λH M x y d e Q rm dx dy ⟨a,b,xs,ys,e1,e2,ha,hb,hz,q⟩=>by
 subst e1;subst e2
 obtain rfl:=aO.mp dx
 obtain rfl:=aO.mp dy
 obtain⟨zs,h1,h2⟩:=rm.lst ha
 obtain⟨ws,h3,h4⟩:=rm.lst hb
 exact⟨a,b,zs,ws,rfl,rfl,h1,h3,by rw[<-h2.length,<-h4.length];exact hz,λp hp=>⟨.ref p,aH M p (.lst (xs++ys)),Fr.new hp λ_ hb=>aR hb,aO.mpr rfl,rm.newL hp (h2.append h4),q p (rm.free hp)⟩⟩
end
end L3
namespace L3
open PySem PySem.Spec PyProof.Rows L2
section
variable{X:Cx}
def m8(M:Mp)(d:D)(xs:List D):Prop:=d= .pQ xs\/∃a,d= .ref a/\M a=some (.lst xs)
theorem m8.of{M:Mp}{a:Addr}{xs:List D}(h:M a=some (.lst xs)):m8 M (.ref a) xs:= .inr ⟨a,rfl,h⟩
theorem m8.sq{K:PySem.W.Frag}{H:Hp}{M:Mp}{d:D}{xs:List D}{x:V}(h:m8 M d xs)(rm:aV K H M)(dx:Dat K H d x):∃a zs,x= .ref a/\gY K H a zs/\aB K H xs zs:=by
 rcases h with rfl|⟨a,rfl,hM⟩
 ·obtain⟨a,zs,rfl,h1,h2⟩:=iN.mp dx
  exact⟨a,zs,rfl,h1.sq,h2⟩
 ·obtain rfl:=aO.mp dx
  obtain⟨zs,h1,h2⟩:=rm.lst hM
  exact⟨a,zs,rfl,gY.of h1,h2⟩
def Cu:R3:=λd e M Q=>∃xs ys,m8 M d xs/\m8 M e ys/\xs.all (plain 9)=true/\ys.all (plain 9)=true/\Q (.bl (iR xs ys)) M
def Cv:R3:=λd e M Q=>∃xs ys,m8 M d xs/\m8 M e ys/\xs.all (plain 9)=true/\ys.all (plain 9)=true/\Q (.bl (!iR xs ys)) M
theorem Ak(hu:X.A.units+64<cLine):jd X (compareOp .Eq) Cu:=by
 constructor
 intro pins s σ H M x y d e v u Q I rm rx ry dx dy ⟨xs,ys,ha,hb,pa,pb,q⟩
 obtain⟨a,zs,rfl,h1,h2⟩:=ha.sq rm dx
 obtain⟨b,ws,rfl,h3,h4⟩:=hb.sq rm dy
 obtain rfl:v=Value.ref a:=rx
 obtain rfl:u=Value.ref b:=ry
 obtain⟨its,rv,pl,hz⟩:=I.list h1
 obtain⟨its2,lW,Cw,hz2⟩:=I.list h3
 have l1:=h2.length.trans rv.length
 have l2:=h4.length.trans lW.length
 have fin:∀k,k=iR xs ys->EP X pins σ (Post X.K M H Q) (.bool k) s:=λk e=>⟨.bl k,H,I,rfl,aE rm (br.mpr rfl) (by rw[e];exact q)⟩
 by_cases hs:its.toArray.size=its2.toArray.size
 ·refine SeqAt.RcAt.lists (A:=X.A) (s:=s) (e:=λj=>gc (xs.getD j .aZ) (ys.getD j .aZ)) pl.isList Cw.isList hs (by omega) (iS I.hok (n:=9) (by show X.A.units+1+9<cLine;omega) pa pb h2 h4 rv lW) _ _ _ _ (fin _ ?_)
  simp only[IA]at hs
  rw[dG,IA,<-l1]
  have e:ys.length=xs.length:=by omega
  rw[e,Kx,beq_self_eq_true,Ko]
 ·refine SeqAt.RcAt.lists_lengths (A:=X.A) (s:=s) pl.isList Cw.isList (by simpa using hs) (by omega) _ _ _ _ (fin _ ?_)
  simp only[IA]at hs
  exact(oS (by omega)).symm
theorem Al(hu:X.A.units+64<cLine):jd X (compareOp .NotEq) Cv:=by
 constructor
 intro pins s σ H M x y d e v u Q I rm rx ry dx dy ⟨xs,ys,ha,hb,pa,pb,q⟩
 obtain⟨a,zs,rfl,h1,h2⟩:=ha.sq rm dx
 obtain⟨b,ws,rfl,h3,h4⟩:=hb.sq rm dy
 obtain rfl:v=Value.ref a:=rx
 obtain rfl:u=Value.ref b:=ry
 obtain⟨its,rv,pl,hz⟩:=I.list h1
 obtain⟨its2,lW,Cw,hz2⟩:=I.list h3
 have l1:=h2.length.trans rv.length
 have l2:=h4.length.trans lW.length
 have fin:∀k,k=(!iR xs ys)->EP X pins σ (Post X.K M H Q) (.bool k) s:=λk e=>⟨.bl k,H,I,rfl,aE rm (br.mpr rfl) (by rw[e];exact q)⟩
 by_cases hs:its.toArray.size=its2.toArray.size
 ·refine SeqAt.RcNeAt.lists (A:=X.A) (s:=s) (e:=λj=>gc (xs.getD j .aZ) (ys.getD j .aZ)) pl.isList Cw.isList hs (by omega) (iS I.hok (n:=9) (by show X.A.units+1+9<cLine;omega) pa pb h2 h4 rv lW) _ _ _ _ (fin _ ?_)
  simp only[IA]at hs
  rw[dG,IA,<-l1]
  have e:ys.length=xs.length:=by omega
  rw[e,Kx,beq_self_eq_true,Ko]
 ·refine SeqAt.RcNeAt.lists_lengths (A:=X.A) (s:=s) pl.isList Cw.isList (by simpa using hs) (by omega) _ _ _ _ (fin _ ?_)
  simp only[IA]at hs
  rw[oS (by omega)]
  rfl
def uM:D->Bool| .aZ=>true|_=>false
def EH:R3:=λd e M Q=>e= .aZ/\Q (.bl (uM d)) M
theorem sE{K:PySem.W.Frag}{H:Hp}{d:D}{x:V}(h:Dat K H d x):decide (x= .aZ)=uM d:=by
 cases d with
 |aZ=>obtain rfl:=cN.mp h;rfl
 |bl b=>obtain rfl:=br.mp h;rfl
 |int i=>obtain rfl:=aJ.mp h;rfl
 |str z=>obtain rfl:=mW.mp h;rfl
 |ty n=>obtain rfl:=pR.mp h;rfl
 |ref a=>obtain rfl:=aO.mp h;rfl
 |tup ds=>obtain⟨a,xs,rfl,_⟩:=aP.mp h;rfl
 |pQ ds=>obtain⟨a,xs,rfl,_⟩:=iN.mp h;rfl
 |zE n=>obtain⟨a,o,u,rfl,_⟩:=qM.mp h;rfl
 |exc C nm ds=>obtain⟨a,o,u,xs,rfl,_⟩:=wB.mp h;rfl
theorem gi:jd X (compareOp .Is) EH:=BI zp λH M x y d e Q rm dx dy ⟨e1,q⟩=>by
 subst e1
 exact⟨cN.mp dy,by rw[sE dx];exact aE rm (br.mpr rfl) q⟩
def Am:List D->Mp->DK->Prop:=λds M Q=>∃d xs,ds=[d]/\m8 M d xs/\∀p,M p=none->Q (.ref p) (aH M p (.lst xs))
theorem An:Call3 X (.type "list") Am:=qP mV λH M xs ds Q rm dx ⟨d,ys,e1,hs,q⟩=>by
 subst e1
 obtain⟨v,rfl,hv⟩:=oO dx
 obtain⟨a,zs,rfl,h1,h2⟩:=hs.sq rm hv
 exact⟨a,zs,rfl,.inl h1,λp hp=>⟨.ref p,aH M p (.lst ys),Fr.new hp λ_ hb=>aR hb,aO.mpr rfl,rm.newL hp h2,q p (rm.free hp)⟩⟩
def EI(te:bT)(tl th:Cs):bT:=λρ M Q=>te ρ M λd M1=>tl ρ M1 λlo M2=>th ρ M2 λhi M3=>∃xs,m8 M3 d xs/\∀p,M3 p=none->Q (.ref p) (aH M3 p (.lst (cutD xs lo hi)))
theorem gD{e:Expr}{lo hi:Option Expr}{te:bT}{tl th:Cs}{p2 pos:Pos}(he:bJ X e te)(hl:Dq X lo tl)(hh:Dq X hi th):bJ X (.Subscript e (.Slice lo hi none p2) pos) (EI te tl th):=by
 obtain⟨Ii,pl,gl⟩:=hl.dn
 obtain⟨Ij,ph,gh⟩:=hh.dn
 refine up (tW wA he.dn pl ph) λσ H ρ M Q r q=>cy r q λv H' d M' f dv r' q1=>gl _ _ _ _ _ _ r' q1 λlo H2 M2 f2 r2 q2=>gh _ _ _ _ _ _ r2 q2 λhi H3 M3 f3 r3 ⟨xs,hL,q3⟩=>?_
 obtain⟨a,zs,rfl,hz,hd⟩:=hL.sq r3.mem (Dat.mono ((f2.trans f3).ext r'.mem) _ _ dv)
 have ec:cutD xs lo hi=(xs.drop (HT.jV zs.length 0 lo)).take (HT.jV zs.length zs.length hi-HT.jV zs.length 0 lo):=by unfold cutD;rw[hd.length]
 refine⟨a,zs,rfl,hz,λp hp=>⟨.ref p,aH M3 p (.lst (cutD xs lo hi)),((f.trans f2).trans f3).trans (Fr.new hp λ_ hb=>aR hb),aO.mpr rfl,r3.mem.newL hp ?_,q3 p (r3.mem.free hp)⟩⟩
 rw[ec]
 exact aB.take _ (aB.drop _ hd)
end
end L3
namespace L3
open PySem PySem.Spec PyProof.Rows L2
theorem Ao{M:Mp}{d:D}{xs:List D}{Q:List D->Prop}(hM:m8 M d xs)(h:Q xs):∃e ys,[d]=[e]/\m8 M e ys/\Q ys:=⟨d,xs,rfl,hM,h⟩
theorem oU{M:Mp}{d:D}{xs:List D}{Q:List D->Prop}(hM:m8 M d xs)(h:Q xs):∃ys,m8 M d ys/\Q ys:=⟨xs,hM,h⟩
theorem Cy{M:Mp}{d e:D}{xs ys:List D}{Q:List D->List D->Prop}(h1:m8 M d xs)(h2:m8 M e ys)(e1:xs.all (plain 9)=true)(e2:ys.all (plain 9)=true)(h:Q xs ys):∃us vs,m8 M d us/\m8 M e vs/\us.all (plain 9)=true/\vs.all (plain 9)=true/\Q us vs:=⟨xs,ys,h1,h2,e1,e2,h⟩
end L3
namespace L3
open PySem PySem.Spec PyProof.Rows L2
section
variable{X:Cx}
end
end L3
namespace L3
open PySem PySem.Spec PyProof.Rows L2
def dJ(cells:List (Str ×Addr))(names:List (Str ×NameKind))(cs:List (Str ×Addr)):List (Str ×Addr):=
 names.foldl (λcs y=>if(y.2==NameKind.free)=true then(y.1,(cells.lookup y.1).getD 0)::cs else cs) cs
theorem kh{α β:Type}{f:α->β->Sem (ForInStep β)}{g:β->α->β}:∀{l:List α} {b:β},(∀x∈l,∀b,f x b=pure (.yield (g b x)))->forIn l b f=(pure (l.foldl g b):Sem β)
 |[],b,_=>rfl
 |x::l,b,h=>by
  rw[KS,h x (IB ..),pure_bind]
  exact kh λy hy=>h y (IF _ hy)
theorem p7{sc:Scope}{env:Env}(h:∀y∈sc.names,y.2= .free->∃c,env.cells.lookup y.1=some c):closureFor sc env=pure (dJ env.cells sc.names []):=by
 unfold closureFor dJ
 dsimp only
 rw[kh (g:=λcs y=>if(y.2==NameKind.free)=true then(y.1,(env.cells.lookup y.1).getD 0)::cs else cs)]
 ·rfl
 ·rintro⟨n,k⟩ hy b
  by_cases hk:k= .free
  ·subst hk
   obtain⟨c,hc⟩:=h _ hy rfl
   have hc:env.cells.lookup n=some c:=hc
   simp[cellOf,hc]
  ·have hb:(k==NameKind.free)=false:=by simpa using hk
   simp[hb]
theorem jt{cells:List (Str ×Addr)}{x:Str}{c:Addr}:∀{names:List (Str ×NameKind)} {cs:List (Str ×Addr)},(∀y∈names,y.2= .free->∃c,cells.lookup y.1=some c)->(∀x c,cs.lookup x=some c->cells.lookup x=some c)->
 (dJ cells names cs).lookup x=some c->cells.lookup x=some c
 |[],cs,_,h,e=>h x c e
 |(n,k)::r,cs,hf,h,e=>by
  refine jt (names:=r) (cs:=if(k==NameKind.free)=true then(n,(cells.lookup n).getD 0)::cs else cs) (λy hy=>hf y (IF _ hy)) (λx c q=>?_) e
  split at q
  ·rename_i hk
   rw[IT]at q
   split at q
   ·rename_i hx
    have hx:=eq_of_beq hx
    subst hx
    obtain⟨c',hc⟩:=hf (x,k) (IB ..) (eq_of_beq hk)
    have hc:cells.lookup x=some c':=hc
    rw[hc]at q
    rw[hc];exact q
   ·exact h x c q
  ·exact h x c q
theorem ju{cells:List (Str ×Addr)}{x:Str}:∀{names:List (Str ×NameKind)} {cs:List (Str ×Addr)},((cs.lookup x).isSome=true\/(x,NameKind.free)∈names)->((dJ cells names cs).lookup x).isSome=true
 |[],cs,h=>by
  rcases h with h|h
  ·exact h
  ·cases h
 |(n,k)::r,cs,h=>by
  refine ju (names:=r) (cs:=if(k==NameKind.free)=true then(n,(cells.lookup n).getD 0)::cs else cs) ?_
  rcases h with h|h
  ·left
   split
   ·rw[IT]
    split
    ·rfl
    ·exact h
   ·exact h
  ·rcases IJ.mp h with e|h
   ·left
    cases e
    simp[IT]
   ·exact .inr h
theorem mem_of_lookup{β:Type}{x:Str}{b:β}:∀{l:List (Str ×β)},l.lookup x=some b->(x,b)∈l
 |[],h=>by cases h
 |(n,c)::r,h=>by
  rw[IT]at h
  split at h
  ·rename_i hx
   cases h
   have:=eq_of_beq hx
   subst this
   exact IB ..
  ·exact IF _ (mem_of_lookup h)
def fH(outer:Scope)(N:List Str)(sc:Scope)(x:Str)(ys:List Str)(fs:List Nat):Bool:=
 (sc.kind== .function) && (outer.kind== .function) && sc.names.all (λy=>!(y.2== .cell) && (!(y.2== .local) || sc.names.lookup y.1==some .local) && (!(y.2== .free) || outer.names.lookup y.1==some .cell)) && (sc.names.lookup x==some .local) &&
  decide (ys.length=fs.length) && (ys.zip fs).all (λp=>N[p.2]?==some p.1 && sc.names.lookup p.1==some .free) && decide (x::ys).Nodup
structure ki(outer:Scope)(N:List Str)(sc:Scope)(x:Str)(ys:List Str)(fs:List Nat):Prop where
 kind:sc.kind= .function
 FI:outer.kind= .function
 uN:∀y∈sc.names,y.2≠ .cell
 names:∀y∈sc.names,y.2= .local->sc.names.lookup y.1=some .local
 EJ:∀y∈sc.names,y.2= .free->outer.names.lookup y.1=some .cell
 loc:sc.names.lookup x=some .local
 len:ys.length=fs.length
 at':∀(k:Nat) y,ys[k]?=some y->∃i,fs[k]?=some i/\N[i]?=some y/\sc.names.lookup y=some .free
 nd:(x::ys).Nodup
theorem ki.of{outer:Scope}{N:List Str}{sc:Scope}{x:Str}{ys:List Str}{fs:List Nat}(h:fH outer N sc x ys fs=true):ki outer N sc x ys fs:=by
 unfold fH at h
 simp only[IS,IM,decide_eq_true_eq]at h
 obtain⟨⟨⟨⟨⟨⟨h1,G1⟩,h2⟩,h3⟩,h4⟩,h5⟩,h6⟩:=h
 refine⟨eq_of_beq h1,eq_of_beq G1,λy hy z=>?_,λy hy z=>?_,λy hy z=>?_,eq_of_beq h3,h4,λk y e=>?_,h6⟩
 ·have:=(h2 y hy).1.1
  rw[z]at this
  simp at this
 ·have:=(h2 y hy).1.2
  rw[z]at this
  simpa using this
 ·have:=(h2 y hy).2
  rw[z]at this
  simpa using this
 ·have hk:k<fs.length:=by rw[<-h4];exact(IC.mp e).1
  have ez:(ys.zip fs)[k]?=some (y,fs[k]):=by
   rw[List.getElem?_zip_eq_some]
   exact⟨e,Iz hk⟩
  obtain⟨q1,q2⟩:=h5 _ (IW ez)
  exact⟨fs[k],Iz hk,eq_of_beq q1,eq_of_beq q2⟩
theorem iZ{env:Env}{y:Str}(hk:env.scope.kind= .function)(hc:env.scope.names.lookup y=some .cell):∀{names:List (Str ×NameKind)},names.lookup y=some .free->
 (names.map λ(n,k)=>if(k==NameKind.free && env.scope.kind== .function && env.kindOf n==some .cell)then(n,NameKind.cell)else(n,k)).lookup y=some .cell
 |[],h=>by cases h
 |(n,k)::r,h=>by
  rw[IT]at h
  split at h
  ·rename_i hx
   cases h
   have:=eq_of_beq hx
   subst this
   have hc:env.kindOf y=some .cell:=hc
   simp[hk,hc,IT]
  ·rename_i hx
   have ih:=iZ hk hc h
   simp only[IP]
   split
   ·rw[IT,hx];exact ih
   ·rw[IT,hx];exact ih
abbrev sZ(X:Cx)(sc:Scope)(x:Str)(ys:List Str)(cl:List (Str ×Addr))(C:Addr)(s0:Shared)(H0:Hp)(ex:List Addr):Cx:=
 {X with N:=x::ys,s₀:=s0,H₀:=H0,env:=compEnvC sc cl C X.env,outer:=X.stack,ex:=ex,fn:=λ_=>false,pn:=[],xe:=λ_ _=>False}
structure Cz(X:Cx)(ifs:List Expr)(t:iO):Prop where
 run:∀(pins:List (Addr ×Obj)) (s:Shared) (σ:St) (H:Hp) (ρ:En) (M:Mp) (Q:Bool->Mp->Prop),Inv X pins σ H s->Rep X.K H σ ρ M->t ρ M Q->
  wpAny (model X.prog X.w) X.A (forIn ifs true λc r=>if r=true then do {let ok <-isTrue c X.env (eval c X.env);pure (ForInStep.yield ok)}else pure (ForInStep.yield r)) (TP X pins σ (jq X.K M H Q)) X.xe s
def EK:iO:=λ_ M Q=>Q true M
theorem uO{X:Cx}:Cz X [] EK:=⟨λpins s σ H ρ M Q I r q=>wpAny_tests_nil ⟨H,I,M,.refl _ _,r.mem,q⟩⟩
def gj(gd:Mp->Prop)(tt:iO)(te:bT)(fr:En)(Q:List D->Mp->Prop):List D->List D->Mp->Prop
 |[],acc,M=>gd M/\Q acc M
 |d::ds,acc,M=>gd M/\tt (some d::fr) M λb M1=>if b=true then te (some d::fr) M1 λy M2=>gj gd tt te fr Q ds (acc++[y]) M2 else gj gd tt te fr Q ds acc M1
def lg(fs:List Nat)(ρ:En):En:=fs.map λi=>(ρ[i]?).join
section
variable{X:Cx}{sc:Scope}{x:Str}{ys:List Str}{fs:List Nat}
theorem uP{fs:List Nat}{ρ:En}{k:Nat}{d:D}(h:(lg fs ρ)[k]?=some (some d)):∃i,fs[k]?=some i/\ρ[i]?=some (some d):=by
 unfold lg at h
 rw[II]at h
 cases e:fs[k]? with
 |none=>rw[e]at h;cases h
 |some i=>
  rw[e]at h
  refine⟨i,rfl,?_⟩
  have h:(ρ[i]?).join=some d:=Option.some.inj h
  cases q:ρ[i]? with
  |none=>rw[q]at h;cases h
  |some o=>rw[q]at h;rw[show o=some d from h]
theorem sF{pins:List (Addr ×Obj)}{σ:St}{H:Hp}{s s':Shared}{C:Addr}{fp:List Addr}{cl:List (Str ×Addr)}{ρ:En}{M:Mp}(ck:ki X.env.scope X.N sc x ys fs)(I:Inv X pins σ H s)(r:Rep X.K H σ ρ M)(hcl:cl=dJ X.env.cells sc.names [])
 (hC:s.heap.objs.size<=C)(old:∀b o,s.heap.get? b=some o->s'.heap.get? b=some o)(ns:∃m,s'.heap.Ns C m)(hos:s'.os=s.os)(hg:s'.gens=s.gens)(hf:∀b∈fp,cU X pins H b)(hfp:∀b∈fp,b<s.heap.objs.size) :
 ∃σ',Inv (sZ X sc x ys cl C s H fp) [] σ' H s'/\Rep X.K H σ' (none::lg fs ρ) M:=by
 have uQ:∀y∈sc.names,y.2= .free->∃c,X.env.cells.lookup y.1=some c:=λy hy hk=>I.ok.has y.1 (.inl (ck.EJ y hy hk))
 have cf:∀{y c},cl.lookup y=some c->X.env.cells.lookup y=some c:=λ{y c} e=>by rw[hcl]at e;exact jt uQ (λ_ _ z=>by cases z) e
 have ch:∀y,sc.names.lookup y=some .free->∃c,cl.lookup y=some c:=λy e=>by rw[hcl];exact J7.mp (ju (.inr (mem_of_lookup e)))
 have rk:∀y k,(relabel sc X.env).names.lookup y=some k->(k= .cell\/k= .free)->∃c,cl.lookup y=some c:=by
  intro y k e hk
  have:∃k',sc.names.lookup y=some k'/\(k'=k\/k'= .free):=by
   clear ck uQ cf ch
   revert e
   show(sc.names.map _).lookup y=some k->_
   generalize sc.names=names
   intro e
   induction names with
   |nil=>cases e
   |cons p r ih=>
    obtain⟨n,kn⟩:=p
    simp only[IP]at e
    rw[IT]
    split
    ·rename_i hx
     split at e
     ·rename_i hc
      refine⟨kn,rfl,.inr ?_⟩
      simp only[IS]at hc
      exact eq_of_beq hc.1.1
     ·rw[IT,hx]at e
      exact⟨kn,rfl,.inl (Option.some.inj e)⟩
    ·rename_i hx
     split at e<;>(rw[IT,hx]at e;exact ih e)
  obtain⟨k',e',hk'⟩:=this
  rcases hk' with rfl|rfl
  ·rcases hk with rfl|rfl
   ·exact absurd rfl (ck.uN _ (mem_of_lookup e'))
   ·exact ch y e'
  ·exact ch y e'
 have lfp:∀b∈fp,b≠C:=λb hb z=>absurd (IG (hfp b hb) hC) (by rw[z];exact Jo _)
 have ok:(sZ X sc x ys cl C s H fp).Ok:={
  mod:=I.ok.mod
  kind:=ck.kind
  glob:=I.ok.glob
  blt:=I.ok.blt
  above:=hC
  inj:=λa b c e1 e2=>I.ok.inj a b c (cf e1) (cf e2)
  has:=λy hy=>by
   rcases hy with hy|hy
   ·exact rk y _ hy (.inl rfl)
   ·exact rk y _ hy (.inr rfl)
  A0:=λ_ _ z=>by cases z
  hd:=I.ok.hd
  frames:=I.ok.frames
  stk:= .inl rfl
  Bc:=λb hb=>⟨lfp b hb,λy c e=>(hf b hb).2.2.2.2.1 y c (cf e)⟩
  bs:=I.bs
  vX:=Jp I.ok.vX I.sz
  rL:=λb o e hb=>by
   rcases(hf b hb).2.2.2.1 with z|z
   ·exact I.ok.rL b o e z
   ·exact absurd (IG (Heap.lt_size (I.ok.bs b o e).1) z) (Jo _)
  rM:=λb hb z=>by
   rcases IJ.mp (I.mL b z)with e|e
   ·exact(hf b hb).2.1 e
   ·exact(hf b hb).2.2.1 e
  i8:=I.stack
  ye:=I.qB}
 have fC:H C=none:=I.hok.fresh hC
 obtain⟨m,hm⟩:=ns
 refine⟨none::fs.map (λi=>(σ[i]?).join),⟨ok,hos,by rw[hg];exact I.bare,Un.kept old,⟨m,hm,λi y v e1 e2 e3=>?_⟩,λy c e=>?_,fC,λy c e=>I.ia y c (cf e),λp hp=>(by cases hp),I.hok.kept old,by simp[ck.len]⟩,⟨λi d e=>?_,?_,r.mem⟩⟩
 ·cases i with
  |zero=>cases e2
  |succ i=>
   have e1:ys[i]?=some y:=e1
   obtain⟨j,f1,f2,f3⟩:=ck.at' i y e1
   have e2:(fs.map λi=>(σ[i]?).join)[i]?=some (some v):=e2
   rw[II,f1]at e2
   have e2:(σ[j]?).join=some v:=Option.some.inj e2
   have e4:σ[j]?=some (some v):=by
    cases q:σ[j]? with
    |none=>rw[q]at e2;cases e2
    |some o=>rw[q]at e2;rw[show o=some v from e2]
   have hc:X.env.scope.names.lookup y=some .cell:=ck.EJ (y,.free) (mem_of_lookup f3) rfl
   obtain⟨m0,_,hl⟩:=I.loc
   obtain⟨u,ru,lk⟩:=hl j y v f2 e4 (.inr (.inl hc))
   refine⟨u,ru,?_⟩
   rcases lk with⟨k1,_⟩|⟨_,c,e5,e6⟩
   ·have k1:X.env.scope.names.lookup y=some .local:=k1
    rw[hc]at k1;cases k1
   ·obtain⟨c',e7⟩:=ch y f3
    have:=cf e7
    rw[e5]at this
    cases this
    refine .inr ⟨.inl (iZ I.ok.kind hc f3),c,e7,?_⟩
    obtain⟨o,ho,hd⟩:=e6
    exact⟨o,old _ _ ho,hd⟩
 ·obtain⟨v,o,ho,hd⟩:=I.cell y c (cf e)
  exact⟨v,o,old _ _ ho,hd⟩
 ·cases i with
  |zero=>cases e
  |succ i=>
   obtain⟨j,f1,f2⟩:=uP (show(lg fs ρ)[i]?=some (some d)from e)
   obtain⟨v,g1,g2⟩:=r.env j d f2
   refine⟨v,?_,g2⟩
   show(fs.map λi=>(σ[i]?).join)[i]?=some (some v)
   rw[II,f1]
   show some ((σ[j]?).join)=_
   rw[g1];rfl
 ·simp[lg]
end
end L3
namespace L3
open PySem PySem.Spec PyProof.Rows L2
section
variable{X:Cx}{sc:Scope}{x:Str}{ys:List Str}{fs:List Nat}{elt iter:Expr}{px pos:Pos}{ifs:List Expr}{tt:iO}{te:bT}
theorem xg{α:Type}{t:Sem α}{Q Q':α->Shared->Prop}{M:Model}{A:Around}{E:Value->Shared->Prop}{s:Shared}(h:wpAny M A t Q (λ_ _=>False) s)(hQ:∀a s,Q a s->Q' a s):wpAny M A t Q' E s:=wpAny_mono h hQ λ_ _ z=>z.elim
theorem oV(elt target iter:Expr)(ifs:List Expr)(sc:Scope)(pos:Pos)(it acc:Value)(env:Env):compTurn (.ListComp elt [⟨target,iter,ifs,0⟩] sc pos) 0 it acc env=(standAt iter.pos >>= λ_=>pyNext it >>= λr=>match r with
 |none=>pure (.done .next)
 |some v=>letOwnedTupleGo target it v >>= λ_=>assign target env v >>= λ_=>(forIn ifs true λc r=>if r=true then do {let ok <-isTrue c env (eval c env);pure (ForInStep.yield ok)}else pure (ForInStep.yield r)) >>= λok=>
  if ok=true then(eval elt env >>= λy=>call (.builtin "list.append") [acc,y] >>= λ_=>again (.compLoop (.ListComp elt [⟨target,iter,ifs,0⟩] sc pos) 0 it acc env))else again (.compLoop (.ListComp elt [⟨target,iter,ifs,0⟩] sc pos) 0 it acc env)):=by
 rw[compTurn_list]
 congr 1;funext _;congr 1;funext r
 cases r with
 |none=>rfl
 |some v=>
  dsimp only
  congr 1;funext _;congr 1;funext _;congr 1;funext ok
  cases ok with
  |false=>rfl
  |true=>simp only[if_true,bind_assoc,pure_bind]
inductive xh(B:Cx)(Dl:Addr)(fp:List Addr)(tn:Nat->Heap->Prop)(M0:Mp)(H0:Hp)(fr:En)(i:Nat)(s:Shared)(acc:List D)(M:Mp):Prop
 |mk {σ:St} {H:Hp} {y:Option D} {ws:List V} (I:Inv B [] σ H s) (t:tn i s.heap) (f:∀b∈fp,H b=none) (r:Rep B.K H σ (y::fr) M) (g:Fr M0 H0 M H) (d:H Dl=some (.lst ws)) (n:M Dl=none) (a:aB B.K H acc ws) (l:acc.length<=i):xh B Dl fp tn M0 H0 fr i s acc M
section
variable{B:Cx}{Dl it:Addr}{fp:List Addr}{tn:Nat->Heap->Prop}{M0:Mp}{H0:Hp}{fr:En}{J:It}{inv:Hp->Prop}{ds:List D}{gd:Mp->Prop}{W:List D->Mp->Prop}{E:Value->Shared->Prop}{Z:Fin->Shared->Prop}
theorem xj{α:Type}{t:Sem α}{Q Q':α->Shared->Prop}{M:Model}{A:Around}{s:Shared}(hx:B.xe=λ_ _=>False)(h:wpAny M A t Q B.xe s)(hQ:∀a s,Q a s->Q' a s):wpAny M A t Q' E s:=xg (by rw[hx]at h;exact h) hQ
theorem Aq(hx:B.xe=λ_ _=>False){i:Nat}{s9:Shared}{pins:List (Addr ×Obj)}{σ8:St}{H9:Hp}{M9:Mp}{d:D}{acc:List D}{ws:List V}{k:Sem Fin}(he:bJ B elt te)(fD:H0 Dl=none)(la:acc.length<=i)(lz:i<sizeLine)
 (I9:Inv B pins σ8 H9 s9)(r9:Rep B.K H9 σ8 (some d::fr) M9)(f9:Fr M0 H0 M9 H9)(hD:H9 Dl=some (.lst ws))(hM:M9 Dl=none)(da:aB B.K H9 acc ws){ds':List D}
 (q:te (some d::fr) M9 λy M'=>gj gd tt te fr W ds' (acc++[y]) M')
 (go:∀(H:Hp) (s:Shared) (acc:List D) (ws:List V) (M:Mp),Inv B pins σ8 H s->Rep B.K H σ8 (some d::fr) M->Fr M0 H0 M H->H Dl=some (.lst ws)->M Dl=none->aB B.K H acc ws->acc.length<=i+1->gj gd tt te fr W ds' acc M->wpAny (model B.prog B.w) B.A k Z E s) :
 wpAny (model B.prog B.w) B.A (eval elt B.env >>= λy=>call (.builtin "list.append") [.ref Dl,y] >>= λ_=>k) Z E s9:=by
 refine wpAny_bind (xj hx (he.run _ s9 σ8 H9 _ M9 _ I9 r9 q) λG3 G4 ⟨v10,A4,G5,EL,dy,FJ,xm,EM,CA,G6⟩=>?_)
 obtain⟨CB,CC⟩:=xm _ _ hM hD
 have FL:=r9.go xm CA
 have CD:aB B.K A4 acc ws:=aB.mono (xm.ext r9.mem) _ _ da
 have lw:ws.length<sizeLine:=by rw[<-CD.length];omega
 refine wpAny_bind (xj hx (i9 (X:=B) _ G4 σ8 A4 (.ref Dl) [v10] (.ref Dl) [G3] (λ_ H'=>H'=upd A4 Dl (.lst (ws++[v10]))) G5 rfl (.cons EL .nil) ⟨_,ws,v10,rfl,rfl,CB,lw,rfl⟩) λ_ G7 ⟨_,Ik,G8,_,G9⟩=>?_)
 subst G9
 have ex:Ext A4 (upd A4 Dl (.lst (ws++[v10]))):=Ext.jb CB
 have EN:aV B.K (upd A4 Dl (.lst (ws++[v10]))) FJ:=λa o e=>by
  have na:a≠Dl:=λz=>by rw[z,CC]at e;cases e
  exact(CA a o e).mono ex λu q=>by rw[aD na];exact q
 refine go _ G7 _ _ FJ G8 ⟨λj d e=>let ⟨v,e1,e2⟩:=FL.env j d e;⟨v,e1,Dat.mono ex _ _ e2⟩,FL.len,EN⟩ (λb o n e=>?_) aU CC (aB.mono ex _ _ (CD.append (aB.one EM))) (by simp;omega) G6
 obtain⟨e1,n1⟩:=(f9.trans xm) b o n e
 exact⟨by rw[aD (bh e fD)];exact e1,n1⟩
theorem xo(hx:B.xe=λ_ _=>False)(hc:B.calm=true)(gn:uu B (.Name x px) (uv 0))(ht:Cz B ifs tt)(he:bJ B elt te)(T:Turn B.prog B.w B.K (.Name x px) J fp it tn)(hJ:pX B.K J inv ds)(hz:ds.length<sizeLine)(fD:H0 Dl=none)
 (CF:∀{H':Hp},(∀b∈fp,H' b=none)->∀b∈fp,cU B [] H' b)(stay:∀M1 H1,Fr M0 H0 M1 H1->aV B.K H1 M1->gd M1->inv H1)
 {i:Nat}{acc:List D}{M5:Mp}{s5:Shared}(hi:i<=ds.length)(h:xh B Dl fp tn M0 H0 fr i s5 acc M5)(q:gj gd tt te fr W (ds.drop i) acc M5)
 (more:∀(acc:List D) (M:Mp) (s:Shared),i<ds.length->xh B Dl fp tn M0 H0 fr (i+1) s acc M->gj gd tt te fr W (ds.drop (i+1)) acc M->Z (.again (.compLoop (.ListComp elt [⟨.Name x px,iter,ifs,0⟩] sc pos) 0 (.ref it) (.ref Dl) B.env)) s)
 (fin:∀(σ:St) (H:Hp) (y:Option D) (ws:List V) (s:Shared),Inv B [] σ H s->Rep B.K H σ (y::fr) M5->Fr M0 H0 M5 H->H Dl=some (.lst ws)->M5 Dl=none->aB B.K H acc ws->W acc M5->Z (.done .next) s) :
 wpAny (model B.prog B.w) B.A (compTurn (.ListComp elt [⟨.Name x px,iter,ifs,0⟩] sc pos) 0 (.ref it) (.ref Dl) B.env) Z E s5:=by
 obtain⟨I5,A1,f5,r5,vP,A5,A6,A7,Hf⟩:=h
 rename_i σ5 H5 y5 ws
 rw[oV]
 refine wpAny_bind (wpAny_standAt ?_)
 by_cases hlt:i<ds.length
 ·have hdr:ds.drop i=ds[i]::ds.drop (i+1):=Ji hlt
  rw[hdr]at q
  obtain⟨hg,q5⟩:=q
  have hinv:=stay M5 H5 vP r5.mem hg
  refine wpAny_bind (xg (T.item B rfl rfl rfl hc i [] s5 σ5 H5 (λ_ _=>False) I5 (CF f5) A1 (hJ.go i H5 hlt hinv)) λr6 s6 ⟨u,e6,h6⟩=>?_)
  subst e6
  refine wpAny_bind (xg h6 λ_ s7 ⟨v,H7,I7,rv,yl,EO,f7⟩=>?_)
  obtain⟨e7,d,hd1,hd2⟩:=hJ.yi i H5 v H7 hlt hinv yl
  subst e7
  have ed:d=ds[i]:=Option.some.inj (hd1.symm.trans (Iz hlt))
  subst ed
  have Hg:=I7.pinned (CF f7) (T.obj _ _ EO)
  refine wpAny_bind (xj hx (gn.run _ s7 σ5 H7 (y5::fr) M5 v ds[i] u (λρ' M'=>ρ'=some ds[i]::fr/\M'=M5) Hg r5 rv hd2 ⟨rfl,rfl⟩) λ_ s8 ⟨σ8,H8,I8,ρ8,M8,ER,r8,e8,Hh⟩=>?_)
  subst e8 Hh
  obtain⟨Hj,Hl⟩:=ER _ _ A6 A5
  refine wpAny_bind (xj hx (ht.run _ s8 σ8 H8 _ M8 _ I8 r8 q5) λb s9 ⟨H9,I9,M9,Dr,Ho,q9⟩=>?_)
  obtain⟨FN,FO⟩:=Dr _ _ Hl Hj
  have r9:=r8.go Dr Ho
  have CG:=(vP.trans ER).trans Dr
  have FP:aB B.K H9 acc ws:=aB.mono ((ER.trans Dr).ext r5.mem) _ _ A7
  have next:∀{H':Hp} {s':Shared},Inv B ([]++jU fp s7.heap) σ8 H' s'->(tn (i+1) s'.heap/\∀b∈fp,H' b=none):=λ{H' s'} I'=>by
   have pin:∀b∈fp,∀o,s7.heap.get? b=some o->s'.heap.get? b=some o/\H' b=none:=λb hb o e=>by
    have:=I'.pin (b,o) (Jd _ (Jd _ (iB hb e)))
    exact⟨this.1,this.2.1⟩
   refine⟨T.keep _ _ _ EO λb hb o e=>(pin b hb o e).1,λb hb=>?_⟩
   obtain⟨o,e,_⟩:=T.obj _ _ EO b hb
   exact(pin b hb o e).2
  cases b with
  |false=>
   rw[if_neg Iv]
   obtain⟨n1,n2⟩:=next I9
   exact wpAny_pure (more acc M9 s9 hlt ⟨I9.gy,n1,n2,r9,CG,FN,FO,FP,by omega⟩ q9)
  |true=>
   rw[if_pos rfl]
   refine Aq hx he fD Hf (by omega) I9 r9 CG FN FO FP q9 λH s acc ws M I r f d n a l q=>?_
   obtain⟨n1,n2⟩:=next I
   exact wpAny_pure (more acc M s hlt ⟨I.gy,n1,n2,r,f,d,n,a,l⟩ q)
 ·have ei:i=ds.length:=by omega
  subst ei
  rw[Kf (Iu _)]at q
  obtain⟨hg,q5⟩:=q
  have hinv:=stay M5 H5 vP r5.mem hg
  refine wpAny_bind (xg (T.done B rfl rfl rfl hc ds.length [] s5 σ5 H5 (λ_ _=>False) I5 (CF f5) A1 (hJ.stop H5 hinv)) λr6 s6 ⟨e6,I6⟩=>?_)
  subst e6
  exact wpAny_pure (fin σ5 H5 y5 ws s6 I6 r5 vP A5 A6 A7 q5)
theorem xq{K:PySem.W.Frag}{Ma M M5:Mp}{Ha H H5:Hp}{Q:DK}{acc:List D}{ws:List V}(fa:Fr Ma Ha M H)(fD:H Dl=none)(vP:Fr M H M5 H5)(rm:aV K H5 M5)(A5:H5 Dl=some (.lst ws))(A6:M5 Dl=none)(A7:aB K H5 acc ws)(q5:∀p,M5 p=none->Q (.ref p) (aH M5 p (.lst acc))):Post K Ma Ha Q (.ref Dl) H5:=by
 refine Post.back fa ⟨.ref Dl,aH M5 Dl (.lst acc),λb o n e=>?_,aO.mpr rfl,λa o e=>?_,q5 _ A6⟩
 ·obtain⟨e1,n1⟩:=vP b o n e
  exact⟨e1,by rw[aR (bh e fD)];exact n1⟩
 ·by_cases ha:a=Dl
  ·subst ha
   rw[au]at e
   cases e
   exact⟨ws,A5,A7⟩
  ·rw[aR ha]at e
   exact rm a o e
end
theorem xr(hc:X.calm=true)(ck:ki X.env.scope X.N sc x ys fs)(ht:∀cl C s0 H0 ex,Cz (sZ X sc x ys cl C s0 H0 ex) ifs tt)(he:∀cl C s0 H0 ex,bJ (sZ X sc x ys cl C s0 H0 ex) elt te)
 {pins:List (Addr ×Obj)}{σ:St}{H:Hp}{s:Shared}{ρ:En}{M:Mp}{it:Addr}{fp:List Addr}{tn:Nat->Heap->Prop}{J:It}{inv:Hp->Prop}{ds:List D}{gd:Mp->Prop}{Q:DK}{E:Value->Shared->Prop}{Ma:Mp}{Ha:Hp}{use:Option (Value->Sem Unit)}{Qs:Value->Shared->Prop}(fa:Fr Ma Ha M H)
 (fin:∀(C Dl:Addr) (s6:Shared) (H5:Hp),Inv X pins σ H5 s6->(∃m,s6.heap.Ns C m)->cU X pins H5 C->Post X.K Ma Ha Q (.ref Dl) H5->compPost (model X.prog X.w) X.A E use Qs (.ref Dl) C (.ok .next) s6)
 (I:Inv X pins σ H s)(r:Rep X.K H σ ρ M)(T:Turn X.prog X.w X.K (.Name x px) J fp it tn)(st:tn 0 s.heap)(hf:∀b∈fp,cU X pins H b)(hJ:pX X.K J inv ds)(hz:ds.length<sizeLine)
 (stay:∀M1 H1,Fr M H M1 H1->aV X.K H1 M1->gd M1->inv H1)(q:gj gd tt te (lg fs ρ) (λzs M2=> ∀p,M2 p=none->Q (.ref p) (aH M2 p (.lst zs))) ds [] M) :
 wpAny (model X.prog X.w) X.A (newList []) (λacc s3=>wpAny (model X.prog X.w) X.A (newFunctionEnv sc X.env.globals (dJ X.env.cells sc.names []) [] X.env.qual none .none (some X.env)) (λcenv s4=>
  codeAny (model X.prog X.w) X.A (.compStart (.ListComp elt [⟨.Name x px,iter,ifs,0⟩] sc pos) 0 (.ref it) acc {cenv with scope:=relabel sc X.env}) (compPost (model X.prog X.w) X.A E use Qs acc cenv.locals) s4) E s3) E s:=by
 have hfp:∀b∈fp,b<s.heap.objs.size:=λb hb=>by
  obtain⟨o,e,_⟩:=T.obj 0 _ st b hb
  exact Heap.lt_size e
 refine wpAny_newList (hsz:=IE _) ?_
 have fD:H s.heap.objs.size=none:=I.hok.fresh (Iu _)
 have k1:∀b o,s.heap.get? b=some o->(s.heap.push {cls:= .type "list",data:= .seq ([]:List Value).toArray}).get? b=some o:=λb o e=>Heap.get?_push_of_some _ e
 have z3:(s.heap.push {cls:= .type "list",data:= .seq ([]:List Value).toArray}).objs.size=s.heap.objs.size+1:=Heap.size_push ..
 have I3:Inv X pins σ (upd H s.heap.objs.size (.lst [])) {s with heap:=s.heap.push {cls:= .type "list",data:= .seq ([]:List Value).toArray}}:=
  I.laid (t':=s.toks) k1 (Iu _) ⟨IE _,[],0,.nil,Heap.get?_push_size _ rfl⟩
 refine wpAny_newFunctionEnv ck.uN (λy hy=>by cases hy) (λh1 FQ FT=>?_) ck.kind
 generalize FU:({s with heap:=s.heap.push {cls:= .type "list",data:= .seq ([]:List Value).toArray}}:Shared)=s3 at I3 FQ FT ⊢
 have Hq:s3.heap.objs.size=s.heap.objs.size+1:=by rw[<-FU];exact z3
 have old:∀b o,s3.heap.get? b=some o->h1.get? b=some o:=λb o e=>FT.extBut b o (IQ (Heap.lt_size e)) (Heap.get?_push_of_some _ e)
 have FW:∀b∈fp,cU X pins (upd H s.heap.objs.size (.lst [])) b:=λb hb=>⟨by rw[aD (IQ (hfp b hb))];exact(hf b hb).1,(hf b hb).2⟩
 have FY:Fr M H M (upd H s.heap.objs.size (.lst [])):=Fr.new fD λ_ _=>rfl
 have r3:Rep X.K (upd H s.heap.objs.size (.lst [])) σ ρ M:=r.go FY (r.mem.new fD)
 obtain⟨σ',I4,r4⟩:=sF (s:=s3) (s':={s3 with heap:=h1,toks:=s3.toks+([]:List (Str ×Value)).length}) (C:=s3.heap.objs.size) (fp:=fp) ck I3 r3 rfl (Iu _) old ⟨_,FQ⟩ rfl rfl FW (λb hb=>by rw[Hq];exact Ky (hfp b hb))
 have MD:M s.heap.objs.size=none:=r.mem.free fD
 have FZ:tn 0 h1:=T.keep 0 _ _ st λb hb o e=>old b o (by rw[<-FU];exact k1 b o e)
 have CF:∀{H':Hp},(∀b∈fp,H' b=none)->∀b∈fp,cU (sZ X sc x ys (dJ X.env.cells sc.names []) s3.heap.objs.size s3 (upd H s.heap.objs.size (.lst [])) fp) [] H' b:=λ{H'} hn b hb=>
  ⟨hn b hb,(I4.ok.Bc b hb).1,I4.ok.rM b hb,.inl hb,λy c e z=>(I4.ok.Bc b hb).2 y c e z,λp hp=>by cases hp⟩
 have loop:∀s4:Shared,s4= {s3 with heap:=h1,toks:=s3.toks+([]:List (Str ×Value)).length}->
  codeAny (model X.prog X.w) X.A (.compLoop (.ListComp elt [⟨.Name x px,iter,ifs,0⟩] sc pos) 0 (.ref it) (.ref s.heap.objs.size) ((sZ X sc x ys (dJ X.env.cells sc.names []) s3.heap.objs.size s3 (upd H s.heap.objs.size (.lst [])) fp)).env) (compPost (model X.prog X.w) X.A E use Qs (.ref s.heap.objs.size) s3.heap.objs.size) s4:=by
  rintro s4 rfl
  refine codeAny_loop rfl (I:=λn s'=>∃i acc M',n=ds.length-i/\i<=ds.length/\xh (sZ X sc x ys (dJ X.env.cells sc.names []) s3.heap.objs.size s3 (upd H s.heap.objs.size (.lst [])) fp) s.heap.objs.size fp tn M H (lg fs ρ) i s' acc M'/\gj gd tt te (lg fs ρ) (λzs M2=> ∀p,M2 p=none->Q (.ref p) (aH M2 p (.lst zs))) (ds.drop i) acc M')
   (λn s5 hI=>?_) ds.length ⟨0,[],M,rfl,IE _,⟨I4,FZ,λb hb=>(FW b hb).1,r4,FY,aU,MD,aI.mpr rfl,Iu _⟩,q⟩
  obtain⟨i,acc,M5,rfl,hi,L,q5⟩:=hI
  refine wpAny_noted ?_
  refine xo (B:=sZ X sc x ys (dJ X.env.cells sc.names []) s3.heap.objs.size s3 (upd H s.heap.objs.size (.lst [])) fp) rfl hc (cE ck.nd rfl (.inl (lookup_relabel_local ck.loc)) (.inr (lookup_relabel_local ck.loc))) (ht _ _ _ _ _) (he _ _ _ _ _) T hJ hz fD CF stay hi L q5 (λacc M s' hlt L q=>⟨rfl,ds.length-(i+1),by omega,i+1,acc,M,rfl,hlt,L,q⟩) λσ5 H5 y5 ws s6 I6 r5 vP A5 A6 A7 q5=>?_
  obtain⟨m,hm,_⟩:=id I6.loc
  have I7:Inv X pins σ H5 s6:=I3.yg (s':=s6) (ch:=fp) I6.os I6.base I6.hok I6.bare λb hb=>⟨(hf b hb).2.2.2.1,(hf b hb).2.1,(hf b hb).2.2.2.2.1,(hf b hb).2.2.2.2.2⟩
  exact fin _ _ s6 H5 I7 ⟨m,hm⟩ (I3.ou (Iu _) I6.free) (xq fa fD vP r5.mem A5 A6 A7 q5)
 exact codeAny_compStart_list (loop _ rfl) (T.self X.A 0 _ _ _ FZ (loop _ rfl))
end
end L3
namespace L3
open PySem PySem.Spec PyProof.Rows L2
section
variable{X:Cx}{sc:Scope}{x:Str}{ys:List Str}{fs:List Nat}{elt iter:Expr}{px pos:Pos}{ifs:List Expr}{tt:iO}{te:bT}{ti:bT}
def F0(Q:DK):List D->Mp->Prop:=λzs M2=> ∀p,M2 p=none->Q (.ref p) (aH M2 p (.lst zs))
def ES(fs:List Nat)(ti:bT)(tt:iO)(te:bT):bT:=λρ M Q=>ti ρ M λd M1=>∃a xs,d= .ref a/\M1 a=some (.lst xs)/\xs.length<sizeLine/\bC (gj (λM=>M a=some (.lst xs)) tt te (lg fs ρ) (F0 Q) xs [] M1)
def Hr(X:Cx)(fs:List Nat)(tt:iO)(te:bT)(σ:St)(ρ:En)(M:Mp)(H:Hp)(Q:DK):It->Hp->Prop:=λJ H2=>∃M2 inv ds gd,Fr M H M2 H2/\Rep X.K H2 σ ρ M2/\pX X.K J inv ds/\ds.length<sizeLine/\(∀M1 H1,Fr M2 H2 M1 H1->aV X.K H1 M1->gd M1->inv H1)/\gj gd tt te (lg fs ρ) (F0 Q) ds [] M2
theorem xu{pins:List (Addr ×Obj)}{σ:St}{M:Mp}{H:Hp}{Q:DK}{E:Value->Shared->Prop}:∀(C Dl:Addr) (s6:Shared) (H5:Hp),Inv X pins σ H5 s6->(∃m,s6.heap.Ns C m)->cU X pins H5 C->Post X.K M H Q (.ref Dl) H5->
 compPost (model X.prog X.w) X.A E none (EP X pins σ (Post X.K M H Q)) (.ref Dl) C (.ok .next) s6:=λC Dl s6 H5 I ⟨m,hm⟩ f P=>
 ⟨m,hm,λh' sb=>⟨.ref Dl,H5,I.turned (t':=s6.toks) (λb o hb e=>sb.extBut b o hb e) f.1 f.2.1 f.2.2.2.1 f.2.2.2.2.1 f.2.2.2.2.2,rfl,P⟩⟩
theorem CH{use:Option (Value->Sem Unit)}{Qs:Value->Shared->Prop}{ps:Pos}(hc:X.calm=true)(hk:fH X.env.scope X.N sc x ys fs=true)(ht:∀cl C s0 H0 ex,Cz (sZ X sc x ys cl C s0 H0 ex) ifs tt)(he:∀cl C s0 H0 ex,bJ (sZ X sc x ys cl C s0 H0 ex) elt te)
 (hs:∀z,foldedSetIterable iter X.env z=pure z){pins:List (Addr ×Obj)}{s:Shared}{σ:St}{H:Hp}{ρ:En}{M:Mp}{Q:DK}(I:Inv X pins σ H s)
 (fin:∀(C Dl:Addr) (s6:Shared) (H5:Hp),Inv X pins σ H5 s6->(∃m,s6.heap.Ns C m)->cU X pins H5 C->Post X.K M H Q (.ref Dl) H5->compPost (model X.prog X.w) X.A X.xe use Qs (.ref Dl) C (.ok .next) s6)
 (h:wpAny (model X.prog X.w) X.A (eval iter X.env) (λv s1=>wpAny (model X.prog X.w) X.A (pyIter v) (DT X pins σ (.Name x px) (Hr X fs tt te σ ρ M H Q)) X.xe s1) X.xe s) :
 wpAny (model X.prog X.w) X.A (comprehension (.ListComp elt [⟨.Name x px,iter,ifs,0⟩] sc pos) sc X.env ps (newList []) false (eval iter X.env) use) Qs X.xe s:=by
 have ck:=ki.of hk
 refine wpAny_comprehension_free (use:=use) (cl:=dJ X.env.cells sc.names []) rfl hs (p7 λy hy z=>I.ok.has y.1 (.inl (ck.EJ y hy z))) ck.kind ck.names (bU h λv s1 h1=>bU h1 λitv s2 h2=>?_)
 obtain⟨it,fp,tn,J,H2,e,I2,T,st2,f2,M2,inv,ds,gd,fr,r2,hJ,hz,stay,q⟩:=h2
 subst e
 exact xr hc ck ht he fr fin I2 r2 T st2 f2 hJ hz stay q
structure F1(X:Cx)(sc:Scope)(x:Str)(px:Pos)(ys:List Str)(fs:List Nat)(iter:Expr)(ifs:List Expr)(elt:Expr)(t:bT):Prop where
 run:∀{use:Option (Value->Sem Unit)} {Qs:Value->Shared->Prop} {ps pos:Pos} {pins:List (Addr ×Obj)} {s:Shared} {σ:St} {H:Hp} {ρ:En} {M:Mp} {Q:DK},Inv X pins σ H s->Rep X.K H σ ρ M->t ρ M Q->
  (∀(C Dl:Addr) (s6:Shared) (H5:Hp),Inv X pins σ H5 s6->(∃m,s6.heap.Ns C m)->cU X pins H5 C->Post X.K M H Q (.ref Dl) H5->compPost (model X.prog X.w) X.A X.xe use Qs (.ref Dl) C (.ok .next) s6)->
  wpAny (model X.prog X.w) X.A (comprehension (.ListComp elt [⟨.Name x px,iter,ifs,0⟩] sc pos) sc X.env ps (newList []) false (eval iter X.env) use) Qs X.xe s
theorem Ar{t:bT}(h:F1 X sc x px ys fs iter ifs elt t):bJ X (.ListComp elt [⟨.Name x px,iter,ifs,0⟩] sc pos) t:=by
 constructor
 intro pins s σ H ρ M Q I r q
 rw[eval_ListComp]
 exact h.run I r q xu
theorem uR(hc:X.calm=true)(hk:fH X.env.scope X.N sc x ys fs=true)(hi:bJ X iter ti)(ht:∀cl C s0 H0 ex,Cz (sZ X sc x ys cl C s0 H0 ex) ifs tt)(he:∀cl C s0 H0 ex,bJ (sZ X sc x ys cl C s0 H0 ex) elt te)
 (hs:∀z,foldedSetIterable iter X.env z=pure z:=by intro _;rfl):F1 X sc x px ys fs iter ifs elt (ES fs ti tt te):=by
 constructor
 intro use Qs ps pos pins s σ H ρ M Q I r h fin
 refine CH (ρ:=ρ) hc hk ht he hs I fin (qE hi.dn pins s σ H _ I (cy r h λv H' d M' f dv r' ⟨a,xs,e1,hM,hz,q⟩=>?_))
 subst e1
 obtain rfl:=aO.mp dv
 obtain⟨zs,ha,hy⟩:=r'.mem.lst hM
 exact⟨a,rfl,⟨zs,gY.of ha⟩,M',_,xs,_,f,r',uw,hz,λM1 H1 f1 g7 g1=>g7.lst g1,q.out⟩
theorem l0{gd:Mp->Prop}{fr:En}{Q:List D->Mp->Prop}{M:Mp}(Pv:Nat->List D->Mp->Prop):∀(ds:List D),(∀(i:Nat) (d:D) (acc:List D) (M:Mp) (N:List D->Mp->Prop),ds[i]?=some d->Pv i acc M->(∀acc' M',Pv (i+1) acc' M'->N acc' M')->
 gd M/\tt (some d::fr) M λb M1=>if b=true then te (some d::fr) M1 λy M2=>N (acc++[y]) M2 else N acc M1)->
 (∀acc M,Pv ds.length acc M->gd M/\Q acc M)->Pv 0 [] M->gj gd tt te fr Q ds [] M:=by
 intro ds hstep hend h0
 have key:∀(zs:List D) (i:Nat) (acc:List D) (M:Mp),ds.drop i=zs->Pv i acc M->i<=ds.length->gj gd tt te fr Q zs acc M:=by
  intro zs
  induction zs with
  |nil=>
   intro i acc M e p hi
   have:ds.length<=i:=by
    have:=congrArg List.length e
    rw[JO]at this
    simp at this
    omega
   obtain rfl:i=ds.length:=by omega
   exact hend acc M p
  |cons z zs ih=>
   intro i acc M e p hi
   have hx:ds[i]?=some z:=by
    have:=congrArg (λl=>l[0]?) e
    simpa using this
   have hlt:i<ds.length:=(IC.mp hx).1
   refine hstep i z acc M _ hx p λacc' M' p'=>ih (i+1) acc' M' ?_ p' hlt
   rw[<-KZ,e]
   rfl
 exact key ds 0 [] M rfl h0 (IE _)
end
end L3
namespace L3
open PySem PySem.Spec PyProof.Rows L2
section
variable{P:Program}{w:World}{A:Around}{E:Value->Shared->Prop}{s:Shared}
end
section
variable{X:Cx}{pos:Pos}
end
end L3
namespace L3
open PySem PySem.Spec PyProof.Rows L2
def dW:List Pl->List Pl->Bool
 |[],[]=>false
 |[],_::_=>true
 |_::_,[]=>false
 |p::ps,q::qs=>if p=q then dW ps qs else decide (cu p q)
theorem dY:∀ps,dW ps ps=false
 |[]=>rfl
 |p::ps=>by unfold dW;rw[if_pos rfl];exact dY ps
theorem gE:∀ps qs,dW ps qs=true\/ps=qs\/dW qs ps=true
 |[],[]=> .inr (.inl rfl)
 |[],_::_=> .inl rfl
 |_::_,[]=> .inr (.inr rfl)
 |p::ps,q::qs=>by
  unfold dW
  by_cases e:p=q
  ·subst e
   rw[if_pos rfl,if_pos rfl]
   rcases gE ps qs with h|h|h
   ·exact .inl h
   ·exact .inr (.inl (by rw[h]))
   ·exact .inr (.inr h)
  ·rw[if_neg e,if_neg (Ne.symm e)]
   rcases pY e with h|h
   ·exact .inl (decide_eq_true h)
   ·exact .inr (.inr (decide_eq_true h))
theorem fJ:∀ps qs rs,dW ps qs=true->dW qs rs=true->dW ps rs=true
 |[],[],_,h,_=>by cases h
 |[],_::_,[],_,h=>by cases h
 |[],_::_,_::_,_,_=>rfl
 |_::_,[],_,h,_=>by cases h
 |_::_,_::_,[],_,h=>by cases h
 |p::ps,q::qs,r::rs,h1,h2=>by
  unfold dW at *
  by_cases e1:p=q
  ·subst e1
   rw[if_pos rfl]at h1
   by_cases e2:p=r
   ·rw[if_pos e2]at h2 ⊢;exact fJ ps qs rs h1 h2
   ·rw[if_neg e2]at h2 ⊢;exact h2
  ·rw[if_neg e1]at h1
   have b1:=of_decide_eq_true h1
   by_cases e2:q=r
   ·subst e2;rw[if_neg e1];exact h1
   ·rw[if_neg e2]at h2
    have b3:=cB b1 (of_decide_eq_true h2)
    rw[if_neg (ux b3)]
    exact decide_eq_true b3
def p8(n:Nat)(h:Heap)(v:Value)(ps:List Pl):Prop:=ps.length=n/\∃(a:Addr) (o:Obj) (its:List Value) (m:Nat),v= .ref a/\h.get? a=some o/\o.cls= .type "tuple"/\o.data= .seq its.toArray m/\gg h its ps
theorem p8.inj{n:Nat}{h:Heap}{v:Value}{ps qs:List Pl}(a:p8 n h v ps)(b:p8 n h v qs):ps=qs:=by
 obtain⟨_,a1,o,its,m,rfl,h2,h3,h4,h5⟩:=a
 obtain⟨_,a2,o',its',m',e,k2,k3,k4,k5⟩:=b
 injection e with e
 subst e
 rw[h2]at k2
 injection k2 with k2
 subst k2
 rw[h4]at k4
 injection k4 with k4 _
 have k4:its=its':=by simpa using k4
 subst k4
 rw[<-h5.keys,<-k5.keys]
open Classical in
noncomputable def ET(n:Nat)(h:Heap):KeyKind where
 α:=List Pl
 blt p q:=dW p q
 irrefl p:=dY p
 trans p q r a b:=fJ p q r a b
 negTrans p q r a:=by
  rcases gE p q with c|c|c
  ·exact .inl c
  ·subst c;exact .inr a
  ·exact .inr (fJ _ _ _ c a)
 total p q a b:=by
  rcases gE p q with c|c|c
  ·rw[a]at c;cases c
  ·exact c
  ·rw[b]at c;cases c
 keyOf v:=if e:∃p,p8 n h v p then some e.choose else none
 dflt:=[]
open Classical in
theorem xw{n:Nat}{h:Heap}{v:Value}{p:List Pl}(a:p8 n h v p):(ET n h).keyOf v=some p:=by
 have e:∃p,p8 n h v p:=⟨p,a⟩
 show(if e:∃p,p8 n h v p then some e.choose else none)=some p
 rw[dif_pos e,p8.inj e.choose_spec a]
section
variable{P:Program}{w:World}{A:Around}{E:Value->Shared->Prop}{s:Shared}
theorem As{u v:Value}{p q:Pl}{Q:Bool->Shared->Prop}(hu:A.units<cLine)(a:m6 s.heap u p)(b:m6 s.heap v q)(h:Q (decide (p=q)) s):wpAny (model P w) A (eqBool u v) Q E s:=by
 obtain⟨a1,o1,t1,u1,n1,rfl,h2,h3,h4⟩:=a
 obtain⟨a2,o2,t2,u2,n2,rfl,k2,k3,k4⟩:=b
 refine wpAny_eqBool_tuple (knd:=intKind P w) (x:=[p.x,p.y]) (y:=[q.x,q.y]) hu ⟨o1,_,n1,h2,h3,h4,?_⟩ ⟨o2,_,n2,k2,k3,k4,?_⟩ ?_
 ·exact .cons (by simp[intKind,Value.isInt]) (.cons (by simp[intKind,Value.isInt]) .nil)
 ·exact .cons (by simp[intKind,Value.isInt]) (.cons (by simp[intKind,Value.isInt]) .nil)
 ·have e:decide ([p.x,p.y]=[q.x,q.y])=decide (p=q):=by
   rw[decide_eq_decide]
   cases p;cases q
   simp
  rw[e];exact h
end
noncomputable def lq(n:Nat)(h:Heap)(v:Value):List Pl:=Option.getD (α:=List Pl) ((ET n h).keyOf v) []
theorem m9{n:Nat}{h:Heap}{v:Value}{p:List Pl}(a:p8 n h v p):lq n h v=p:=by
 unfold lq
 have e:(ET n h).keyOf v=some p:=xw a
 exact congrArg (λo=>Option.getD (α:=List Pl) o []) e
def ng(n:Nat)(h:Heap):List Value->List (List Pl)->Prop:=Paired (p8 n h)
theorem ng.keys{n:Nat}{h:Heap}:∀{us:List Value} {ps:List (List Pl)},ng n h us ps->us.map (lq n h)=ps
 |_,_,.nil=>rfl
 |_,_,.cons a r=>by rw[IP,m9 a,ng.keys r]
def tD(ps:List Pl):D:= .tup (ps.map Pl.d)
theorem iJ{n:Nat}{P:Program}{w:World}{K:PySem.W.Frag}{H:Hp}{h:Heap}{ps:List Pl}{x:V}{u:Value}(ok:d9 P w H h)(hl:ps.length=n)(d:Dat K H (tD ps) x)(r:RelV x u):p8 n h u ps:=by
 obtain⟨a,xs,rfl,ha,hx⟩:=aP.mp d
 obtain rfl:u=Value.ref a:=r
 obtain⟨its,rv,⟨o,h1,h2,m,h3⟩,_⟩:=cj ok ha
 exact⟨hl,a,o,its,m,rfl,h1,h2,h3,iY ok hx rv⟩
theorem l5{n:Nat}{P:Program}{w:World}{K:PySem.W.Frag}{H:Hp}{h:Heap}(ok:d9 P w H h):∀{ps:List (List Pl)} {xs:List V} {us:List Value},(∀p∈ps,p.length=n)->aB K H (ps.map tD) xs->Vals xs us->ng n h us ps
 |[],xs,us,_,d,r=>by rw[aI.mp d]at r;cases r;exact .nil
 |p::ps,xs,us,hl,d,r=>by
  obtain⟨v,vs,rfl,d1,d2⟩:=aF.mp d
  cases r with
  |cons r1 r2=>exact .cons (iJ ok (hl p (IB ..)) d1 r1) (l5 ok (λq hq=>hl q (IF _ hq)) d2 r2)
theorem kj{n:Nat}{K:PySem.W.Frag}{H:Hp}{h:Heap}{P:Program}{w:World}(ok:d9 P w H h){ps:List (List Pl)}{zs:List V}{vs:List Value}(hl:∀p∈ps,p.length=n)(d:aB K H (ps.map tD) zs)(r:Vals zs vs):∀(out:List Value),(∀v∈out,v∈vs)->
 ∃ws,Vals ws out/\aB K H ((out.map (lq n h)).map tD) ws
 |[],_=>⟨[],.nil,aI.mpr rfl⟩
 |v::out,m=>by
  obtain⟨ws,h1,h2⟩:=kj ok hl d r out λu hu=>m u (IF _ hu)
  have one:∀{ps:List (List Pl)} {zs:List V} {vs:List Value},(∀p∈ps,p.length=n)->aB K H (ps.map tD) zs->Vals zs vs->v∈vs->∃(p:List Pl) (x:V),p.length=n/\RelV x v/\Dat K H (tD p) x:=by
   intro ps
   induction ps with
   |nil=>intro zs vs _ d r m;rw[aI.mp d]at r;cases r;cases m
   |cons p ps ih=>
    intro zs vs hl d r m
    obtain⟨x,xs,rfl,d1,d2⟩:=aF.mp d
    cases r with
    |cons r1 r2=>
     rcases IJ.mp m with rfl|m
     ·exact⟨p,x,hl p (IB ..),r1,d1⟩
     ·exact ih (λq hq=>hl q (IF _ hq)) d2 r2 m
  obtain⟨p,x,lp,rx,dx⟩:=one hl d r (m v (IB ..))
  refine⟨x::ws,.cons rx h1,?_⟩
  rw[IP,IP,m9 (iJ ok lp dx rx)]
  exact aF.mpr ⟨x,ws,rfl,dx,h2⟩
section
variable{X:Cx}
end
end L3
namespace L3
open PySem PySem.Spec PyProof.Rows L2
section
open PySem.SeqAt
open PySem.AutoSeq1 (wpAny_loadPart')
open PySem.MeetsSeq PySem.MeetsSeq2 PySem.MeetsSeq3
end
section
variable{X:Cx}{pos:Pos}
def EU(to te:bT):bT:=λρ M Q=>to ρ M λd M1=>(∃l xs,d= .ref l/\M1 l=some (.lst xs))/\te ρ M1 λe M2=>∃(l b:Addr) (xs zs:List D),d= .ref l/\e= .ref b/\M2 l=some (.lst xs)/\M2 b=some (.lst zs)/\xs.length+zs.length<=sizeLine/\Q .aZ (aH M2 l (.lst (xs++zs)))
theorem CI{o e:Expr}{to te:bT}{apos pos:Pos}(ho:bJ X o to)(he:bJ X e te)(Ew:PE X (.Call (.Attribute o "extend" apos) [e] [] pos) (D7 X.K "list" qL (dn X.K to) (tR (dn X.K te) zu))):bJ X (.Call (.Attribute o "extend" apos) [e] [] pos) (EU to te):=
 up Ew λσ H ρ M Q r q=>cy r q λv H' d M' f dv r' ⟨⟨l,xs,e1,hM⟩,q⟩=>by
  subst e1
  obtain rfl:=aO.mp dv
  obtain⟨ys,ha,hy⟩:=r'.mem.lst hM
  refine⟨.inl ⟨rfl,_,gY.of ha⟩,cy r' q λu H2 d2 M2 f2 du r2 ⟨l',b,xs',zs,e2,e3,Cj,hB,hlt,q2⟩=>?_⟩
  injection e2 with e2
  subst e2 e3
  obtain rfl:=aO.mp du
  obtain⟨ws,hb,hw⟩:=r2.mem.lst Cj
  obtain⟨vs,hc,hv⟩:=r2.mem.lst hB
  exact⟨l,b,ws,vs,rfl,rfl,hb,hc,by rw[<-hw.length,<-hv.length];exact hlt,.aZ,_,(f.trans f2).trans (Fr.write (K:=X.K) Cj),cN.mpr rfl,r2.mem.jb hb (hw.append hv),q2⟩
end
end L3
namespace L3
open PySem PySem.Spec PyProof.Rows L2
section
variable{P:Program}{w:World}{A:Around}{E:Value->Shared->Prop}{s:Shared}
end
section
variable{X:Cx}{pos:Pos}
end
section
open PySem.SeqAt
open PySem.AutoSeq1 (wpAny_loadPart')
open PySem.MeetsSeq PySem.MeetsSeq2 PySem.MeetsSeq3
theorem sG(p q:Pl)(ps qs:List Pl):dW (p::ps) (q::qs)=if p=q then dW ps qs else decide (cu p q):=rfl
theorem nh(l b:Addr)(items items2:Array Value)(n n2:Nat)(dd dd2:Option Addr)(sl sl2:Array (Option Value))(ps qs:List Pl) :
 Meets (Builtin.«tuple.__lt__» ⟨[.ref l,.ref b],[]⟩)
  (λA R s=>A.in1.units+8<cLine/\gg s.heap items.toList ps/\gg s.heap items2.toList qs/\s.heap.get? l=some {cls:= .type "tuple",dict:=dd,data:= .seq items n,slots:=sl}/\s.heap.get? b=some {cls:= .type "tuple",dict:=dd2,data:= .seq items2 n2,slots:=sl2}/\
   R (.ok (.ret (.bool (dW ps qs)))) s):=
 .of_wp λprog w A R s h=>by
  obtain⟨hp,g,d,tk,os⟩:=s
  obtain⟨hu,hi,hj,hl,hb,h⟩:=h
  have f2:=AutoSeq1.sub_tuple_tuple
  have z1:items.size=ps.length:=by have:=hi.length;simpa using this
  have z2:items2.size=qs.length:=by have:=hj.length;simpa using this
  wp_walk using wpAny_loadPart' hl,wpAny_loadPart' hb,wpAny_forIn_list _ (λrest b s'=>b.1=none/\s'= ⟨hp,g,d,tk,os⟩/\∃(vs ws:List Value) (ns' ms':List Pl),rest=vs.zip ws/\
   gg hp vs ns'/\gg hp ws ms'/\ns'.length+items2.size=ms'.length+items.size/\R (.ok (.ret (.bool (dW ns' ms')))) ⟨hp,g,d,tk,os⟩) _
  case turn=>
   rintro⟨y,x⟩ rest b s' ⟨hb',rfl,vs,ws,ns',ms',hz,tT,hwi,hlen,hR⟩
   cases tT with
   |nil=>rw[J0]at hz;cases hz
   |@cons _ p _ _ a tU=>
    cases hwi with
    |nil=>rw[JJ]at hz;cases hz
    |@cons _ q _ _ c tV=>
     rw[Jl]at hz
     injection hz with hyx hrest
     injection hyx with hy hx
     subst hy hx
     rw[sG]at hR
     simp only[IL]at hlen
     have BC:∀(E:Value->Shared->Prop) (Q:Value->Shared->Prop),Q (.bool (decide (cu p q))) ⟨hp,g,d,tk,os⟩->wpAny (model prog w) A.in1 (richCompare .Lt y x) Q E ⟨hp,g,d,tk,os⟩:=λE Q k=>by
      obtain⟨l1,i1,rfl,t1,n1⟩:=a.tup
      obtain⟨l2,i2,rfl,t2,n2⟩:=c.tup
      rw[<-jK]at k
      exact(HT.iC t1 t2 n1 n2 (by omega) k:wpAny (model prog w) A.in1 (compareOp .Lt (.ref l1) (.ref l2)) Q E ⟨hp,g,d,tk,os⟩)
     refine wpAny_bind (As (by omega) a c ?_)
     by_cases e:p=q
     ·rw[decide_eq_true e]
      rw[if_pos e]at hR
      wp_walk
      exact⟨rfl,rfl,_,_,_,_,hrest,tU,tV,by omega,hR⟩
     ·rw[decide_eq_false e]
      rw[if_neg e]at hR
      wp_walk using BC
      exact⟨_,rfl,by simpa using hR⟩
  case fin=>
   rintro⟨b1,b2⟩ s' ⟨hb',rfl,vs,ws,ns',ms',hz,tT,hwi,hlen,hR⟩
   simp only at hb'
   subst hb'
   have hv:dW ns' ms'=decide (items.size<items2.size):=by
    cases tT with
    |nil=>
     cases hwi with
     |nil=>
      simp only[IZ]at hlen
      exact(decide_eq_false (by omega)).symm
     |cons c hw=>
      simp only[IZ,IL]at hlen
      exact(decide_eq_true (by omega)).symm
    |cons a hv=>
     cases hwi with
     |nil=>
      simp only[IZ,IL]at hlen
      exact(decide_eq_false (by omega)).symm
     |cons c hw=>
      rw[Jl]at hz
      cases hz
   rw[hv]at hR
   wp_walk
   exact⟨_,rfl,by simpa[Builtin.Tuple.tupleCompareSizes]using hR⟩
  case h=>
   exact⟨rfl,rfl,items.toList,items2.toList,ps,qs,rfl,hi,hj,by omega,h⟩
end
end L3
namespace L3
open PySem PySem.Spec PyProof.Rows L2
section
variable{P:Program}{w:World}{A:Around}{E:Value->Shared->Prop}{s:Shared}
end
end L3
namespace L3
open PySem PySem.Spec PyProof.Rows L2
theorem l6{P:Program}{w:World}{A:Around}{E:Value->Shared->Prop}{s:Shared}{n:Nat}{u v:Value}{ps qs:List Pl}{Q:Value->Shared->Prop}(a:p8 n s.heap u ps)(b:p8 n s.heap v qs)(hu:A.units+16<cLine)(h:Q (.bool (dW ps qs)) s):wpAny (model P w) A (richCompare .Lt u v) Q E s:=by
 obtain⟨_,l,⟨cls,dd,data,sl⟩,its,m,rfl,ho,hc,hd,hp⟩:=a
 obtain⟨_,l2,⟨BD,dd2,data2,sl2⟩,its2,m2,rfl,ho2,hc2,hd2,hp2⟩:=b
 simp only at hc hd hc2 hd2
 subst hc hd hc2 hd2
 exact richCompare_meets_room (op:= .Lt) ⟨_,ho,rfl⟩ ⟨_,ho2,rfl⟩ PySem.F.slot_tuple_lt PySem.F.entry_tuple_lt (PySem.F.args_tuple_lt_2 _ _) (nh l l2 its.toArray its2.toArray m m2 dd dd2 sl sl2 ps qs)
  ⟨by show A.units+1+8<cLine;omega,by simpa using hp,by simpa using hp2,ho,ho2,show Value.bool (dW ps qs)≠Value.notImplemented/\Q (.bool (dW ps qs)) s from⟨(λx=>nomatch x),h⟩⟩ (by omega)
section
variable{X:Cx}{pos:Pos}
end
end L3
namespace L3
open PySem PySem.Spec PyProof.Rows
section
variable{P:Program}{w:World}{A:Around}{E:Value->Shared->Prop}{s:Shared}{κ:KeyKind}{kd:SortKind}{z:Array Keyed}{t:SortSt}
def xx:Bool->Keyed->Array Keyed->Nat->Nat->Nat->StateT SortSt Sem (Option Nat):=sortPriv% PySem.Builtin.gallop
def uS:Array Keyed->Array Keyed->StateT SortSt Sem (Array Keyed):=sortPriv% PySem.Builtin.mergeLo
def uT:Array Keyed->Array Keyed->StateT SortSt Sem (Array Keyed):=sortPriv% PySem.Builtin.mergeHi
theorem ko(hA:Ask P w A s κ kd)(hd:kindOf t=kd){x y:Keyed}{a b:κ.α}(ha:κ.keyOf x.1=some a)(hb:κ.keyOf y.1=some b){R:Option Bool->SortSt->Prop}
 (h:R (some (κ.blt a b)) t):wpS (model P w) A E s (lt' x y) R t:=by
 rw[lt'_eq]
 apply wpS_bind;apply wpS_get
 rw[hd]
 refine wpS_bind (wpS_lift (wpAny_attempt (hA.lt _ _ _ _ _ _ ha hb ⟨rfl,wpS_pure h⟩)))
theorem bY{y:Array Keyed}{i:Nat}(hi:i<y.size){R:Keyed->SortSt->Prop}(h:R y[i] t):wpS (model P w) A E s (elem' y i) R t:=by
 rw[elem'_eq,getElem?_pos y i hi];exact wpS_pure h
theorem cJ{y:Array Keyed}(hk:KeysOf κ y){i:Nat}(hi:i<y.size):κ.keyOf y[i].1=some (KK κ y i):=by
 obtain⟨a,ha⟩:=hk y[i] (by simp)
 unfold KK;rw[getElem?_pos y i hi];simp only[ha,KD]
def p9(κ:KeyKind)(left:Bool)(a b:κ.α):Bool:=if left then κ.blt b a else !κ.blt a b
theorem cK(hA:Ask P w A s κ kd)(hd:kindOf t=kd){left:Bool}{key:Keyed}{a:κ.α}(ha:κ.keyOf key.1=some a){arr:Array Keyed}(hk:KeysOf κ arr){base n hint:Nat}(hb:base+n<=arr.size)(hh:hint<n)
 (up:∀i j,i<=j->j<n->κ.kle (KK κ arr (base+i)) (KK κ arr (base+j))){R:Option Nat->SortSt->Prop}
 (h:∀k,k<=n->(∀i,i<k->p9 κ left a (KK κ arr (base+i))=true)->(∀i,k<=i->i<n->p9 κ left a (KK κ arr (base+i))=false)->R (some k) t):wpS (model P w) A E s (xx left key arr base n hint) R t:=by
 obtain⟨p,hp⟩:∃p:Nat->Bool,∀i,p i=p9 κ left a (KK κ arr (base+i)):=⟨_,λ_=>rfl⟩
 have mono:∀i j,i<=j->j<n->p j=true->p i=true:=by
  intro i j hij hj q
  have u:=up i j hij hj
  rw[hp]at q ⊢
  unfold p9 at q ⊢
  cases left with
  |true=>exact KeyOrd.klt_of_kle_of_klt u q
  |false=>
   simp only[ID,if_false,JK]at q ⊢
   exact KeyOrd.kle_trans u q
 have anti:∀i j,i<=j->j<n->p i=false->p j=false:=λi j hij hj q=>by
  cases c:p j with
  |false=>rfl
  |true=>rw[mono i j hij hj c]at q;exact q
 simp only[<-hp]at h
 have look:∀i,i<n->∀R':Option Bool->SortSt->Prop,R' (some (p i)) t->wpS (model P w) A E s (elem' arr (base+i) >>= λx=>if left=true then lt' x key else lt' key x >>= λr=>pure (Option.map (λx=>!x) r)) R' t:=by
  intro i hi R' q
  rw[hp]at q
  unfold p9 at q
  have hi':base+i<arr.size:=by omega
  have hk':=cJ hk hi'
  apply wpS_bind
  apply bY hi'
  cases left with
  |true=>rw[if_pos rfl];exact ko hA hd hk' ha q
  |false=>
   rw[if_neg Iv]
   apply wpS_bind
   exact ko hA hd ha hk' (wpS_pure q)
 apply wpS_bind
 refine look hint hh _ ?_
 show wpS (model P w) A E s (if p hint=true then _ else _) R t
 cases c0:p hint
 case' true=>
  rw[if_pos rfl]
  dsimp only
  apply wpS_bind
  refine wpS_mono (wpS_forRange (I:=λx b u=>u=t/\∃l o,b=(none,l,o)/\l<o/\x<o/\hint+l<n/\p (hint+l)=true) (Q:=λb u=>u=t/\∃l o,b=(none,l,o)/\l<o/\hint+l<n/\p (hint+l)=true/\(n<=hint+o\/p (hint+o)=false))
   (λx b u _ hx hI=>?_) (λb u hI=>?_) ⟨rfl,0,1,rfl,JI,JI,hh,c0⟩) λb u hI=>?_
  ·obtain⟨rfl,l,o,rfl,h1,h2,h3,h4⟩:=hI
   dsimp only
   by_cases d:o>=n-hint
   ·rw[if_pos d];exact wpS_pure ⟨rfl,l,o,rfl,h1,h3,h4,.inl (by omega)⟩
   ·rw[if_neg d]
    apply wpS_bind
    refine look (hint+o) (by omega) _ ?_
    show wpS (model P w) A E s (if(!p (hint+o))=true then _ else _) _ u
    cases g:p (hint+o)with
    |true=>rw[if_neg (by simp)];exact wpS_pure ⟨rfl,o,2*o+1,rfl,by omega,by omega,by omega,g⟩
    |false=>rw[if_pos (by simp)];exact wpS_pure ⟨rfl,l,o,rfl,h1,h3,h4,.inr g⟩
  ·obtain⟨rfl,l,o,rfl,h1,h2,h3,h4⟩:=hI
   exact⟨rfl,l,o,rfl,h1,h3,h4,.inl (by omega)⟩
  obtain⟨rfl,l,o,rfl,h1,h3,h4,h5⟩:=hI
  dsimp only
  have lo1:∀i,i<hint+l+1->p i=true:=λi hi=>mono i (hint+l) (by omega) h3 h4
  have hi1:∀i,hint+min o (n-hint)<=i->i<n->p i=false:=λi e1 e2=>by
   rcases h5 with h5|h5
   ·omega
   ·exact anti (hint+o) i (by omega) e2 h5
  have hw:hint+l+1<=hint+min o (n-hint)/\hint+min o (n-hint)<=n:=by omega
  generalize hint+l+1=a1 at lo1 hw ⊢
  generalize hint+min o (n-hint)=a2 at hi1 hw ⊢
 case' false=>
  rw[if_neg Iv]
  dsimp only
  apply wpS_bind
  refine wpS_mono (wpS_forRange (I:=λx b u=>u=t/\∃l o,b=(none,l,o)/\l<o/\x<o/\l<=hint/\p (hint-l)=false) (Q:=λb u=>u=t/\∃l o,b=(none,l,o)/\l<o/\l<=hint/\p (hint-l)=false/\(hint<o\/p (hint-o)=true))
   (λx b u _ hx hI=>?_) (λb u hI=>?_) ⟨rfl,0,1,rfl,JI,JI,IE _,c0⟩) λb u hI=>?_
  ·obtain⟨rfl,l,o,rfl,h1,h2,h3,h4⟩:=hI
   dsimp only
   by_cases d:o>=hint+1
   ·rw[if_pos d];exact wpS_pure ⟨rfl,l,o,rfl,h1,h3,h4,.inl (by omega)⟩
   ·rw[if_neg d]
    apply wpS_bind
    refine look (hint-o) (by omega) _ ?_
    show wpS (model P w) A E s (if p (hint-o)=true then _ else _) _ u
    cases g:p (hint-o)with
    |false=>rw[if_neg Iv];exact wpS_pure ⟨rfl,o,2*o+1,rfl,by omega,by omega,by omega,g⟩
    |true=>rw[if_pos rfl];exact wpS_pure ⟨rfl,l,o,rfl,h1,h3,h4,.inr g⟩
  ·obtain⟨rfl,l,o,rfl,h1,h2,h3,h4⟩:=hI
   exact⟨rfl,l,o,rfl,h1,h3,h4,.inl (by omega)⟩
  obtain⟨rfl,l,o,rfl,h1,h3,h4,h5⟩:=hI
  dsimp only
  have lo1:∀i,i<hint+1-min o (hint+1)->p i=true:=λi hi=>by
   rcases h5 with h5|h5
   ·omega
   ·exact mono i (hint-o) (by omega) (by omega) h5
  have hi1:∀i,hint-l<=i->i<n->p i=false:=λi e1 e2=>anti (hint-l) i e1 e2 h4
  have hw:hint+1-min o (hint+1)<=hint-l/\hint-l<=n:=by omega
  generalize hint+1-min o (hint+1)=a1 at lo1 hw ⊢
  generalize hint-l=a2 at hi1 hw ⊢
 all_goals
  clear h5 h4 h3 h1 c0
  apply wpS_bind
  refine wpS_mono (wpS_forRange (I:=λx b v=>v=u/\∃l r,b=(none,l,r)/\(∀i,i<l->p i=true)/\(∀i,r<=i->i<n->p i=false)/\l<=r/\r<=n/\r-l<=n-x) (Q:=λb v=>v=u/\∃l,b=(none,l,l)/\(∀i,i<l->p i=true)/\(∀i,l<=i->i<n->p i=false)/\l<=n)
   (λx b v _ hx hI=>?_) (λb v hI=>?_) ⟨rfl,a1,a2,rfl,lo1,hi1,hw.1,hw.2,by omega⟩) λb v hI=>?_
  ·obtain⟨rfl,l,r,rfl,e1,e2,e3,e4,e5⟩:=hI
   show wpS (model P w) A E s (if l>=r then _ else _) _ v
   by_cases d:l>=r
   ·rw[if_pos d]
    obtain rfl:l=r:=by omega
    exact wpS_pure ⟨rfl,l,rfl,e1,e2,e4⟩
   ·rw[if_neg d]
    have hm:l<=l+(r-l) / 2/\l+(r-l) / 2<r:=by omega
    generalize l+(r-l) / 2=m at hm ⊢
    obtain⟨m1,m2⟩:=hm
    apply wpS_bind
    refine look m (by omega) _ ?_
    show wpS (model P w) A E s (if p m=true then _ else _) _ v
    cases g:p m with
    |true=>rw[if_pos rfl];exact wpS_pure ⟨rfl,m+1,r,rfl,λi hi=>mono i m (by omega) (by omega) g,e2,by omega,e4,by omega⟩
    |false=>rw[if_neg Iv];exact wpS_pure ⟨rfl,l,m,rfl,e1,λi f1 f2=>anti m i f1 f2 g,m1,by omega,by omega⟩
  ·obtain⟨rfl,l,r,rfl,e1,e2,e3,e4,e5⟩:=hI
   obtain rfl:l=r:=by omega
   exact⟨rfl,l,rfl,e1,e2,e4⟩
  obtain⟨rfl,l,rfl,e1,e2,e4⟩:=hI
  exact wpS_pure (h l e4 e1 e2)
end
end L3
namespace L3
open PySem PySem.Spec PyProof.Rows
section
variable{P:Program}{w:World}{A:Around}{E:Value->Shared->Prop}{s:Shared}{κ:KeyKind}{kd:SortKind}{z:Array Keyed}{t:SortSt}
def tu(κ:KeyKind)(p:Keyed):κ.α:=(κ.keyOf p.1).getD κ.dflt
theorem l7{y:Array Keyed}{i:Nat}(hi:i<y.size):KK κ y i=tu κ y[i]:=by
 unfold KK tu;rw[getElem?_pos y i hi]
def qU(κ:KeyKind)(p q:Keyed):Prop:=κ.kle (tu κ p) (tu κ q)
theorem eB{y:Array Keyed}{i j:Nat}(hj:j<=y.size){p:Keyed}(h:p∈(y.extract i j).toList):∃n,i<=n/\n<j/\tu κ p=KK κ y n:=by
 obtain⟨n,hn,rfl⟩:=JQ.mp h
 have hs:(y.extract i j).toList.length=j-i:=by simp;omega
 refine⟨i+n,by omega,by omega,?_⟩
 rw[l7 (by omega)]
 simp
theorem uU{y:Array Keyed}(h:SortedToK κ y y.size)(i j:Nat):(y.extract i j).toList.Pairwise (qU κ):=by
 have:y.toList.Pairwise (qU κ):=by
  rw[Js]
  intro a b ha hb hab
  have ha':a<y.size:=by simpa using ha
  have hb':b<y.size:=by simpa using hb
  have:=h a b (by omega) hb'
  rw[l7 ha',l7 hb']at this
  simpa[qU]using this
 rw[Array.toList_extract]
 exact(this.sublist ((Jv _ _).trans (Kz _ _)))
theorem kq(y:Array Keyed){i j k:Nat}(h1:i<=j)(h2:j<=k):(y.extract i j).toList++(y.extract j k).toList=(y.extract i k).toList:=by
 rw[<-Array.toList_append,Array.extract_append_extract,JS h1,Nat.max_eq_right h2]
structure Mg(κ:KeyKind)(x y o:Array Keyed)(i j:Nat):Prop where
 pm:o.toList.Perm ((x.extract 0 i).toList++(y.extract 0 j).toList)
 so:o.toList.Pairwise (qU κ)
 lx:∀p∈o.toList,∀n,i<=n->n<x.size->κ.kle (tu κ p) (KK κ x n)
 ly:∀p∈o.toList,∀n,j<=n->n<y.size->κ.kle (tu κ p) (KK κ y n)
structure pJ(κ:KeyKind)(x y r:Array Keyed):Prop where
 pm:r.toList.Perm (x.toList++y.toList)
 so:r.toList.Pairwise (qU κ)
theorem Mg.sw{x y o:Array Keyed}{i j:Nat}(m:Mg κ x y o i j):Mg κ y x o j i:=⟨m.pm.trans Jt,m.so,m.ly,m.lx⟩
theorem Mg.put{x y o:Array Keyed}{i j k:Nat}(m:Mg κ x y o i j)(sx:SortedToK κ x x.size)(hi:i<=k)(hk:k<=x.size)(h:∀n,i<=n->n<k->∀l,j<=l->l<y.size->κ.kle (KK κ x n) (KK κ y l)):Mg κ x y (o++x.extract i k) k j:=by
 refine⟨?_,?_,λp hp n h1 h2=>?_,λp hp n h1 h2=>?_⟩
 ·rw[Array.toList_append,<-kq x (IE i) hi]
  refine(m.pm.append_right _).trans ?_
  rw[Ja,Ja]
  exact List.Perm.append_left _ Jt
 ·rw[Array.toList_append,JE]
  refine⟨m.so,uU sx _ _,λp hp q hq=>?_⟩
  obtain⟨n,e1,e2,e3⟩:=eB (κ:=κ) hk hq
  unfold qU;rw[e3];exact m.lx p hp n e1 (by omega)
 ·rw[Array.toList_append,IK]at hp
  rcases hp with hp|hp
  ·exact m.lx p hp n (by omega) h2
  ·obtain⟨l,e1,e2,e3⟩:=eB (κ:=κ) hk hp
   rw[e3];exact sx l n (by omega) h2
 ·rw[Array.toList_append,IK]at hp
  rcases hp with hp|hp
  ·exact m.ly p hp n h1 h2
  ·obtain⟨l,e1,e2,e3⟩:=eB (κ:=κ) hk hp
   rw[e3];exact h l e1 e2 n h1 h2
theorem uV{x:Array Keyed}{i:Nat}(hi:i<x.size)(o:Array Keyed):o++x.extract i (i+1)=o.push x[i]:=by
 apply Array.toList_inj.mp
 rw[Array.toList_append,Array.toList_push,Array.toList_extract]
 simp only[J3,Nat.add_sub_cancel_left]
 rw[Ji (by simpa using hi)]
 simp
theorem Mg.push{x y o:Array Keyed}{i j:Nat}(m:Mg κ x y o i j)(sx:SortedToK κ x x.size)(hi:i<x.size)(h:∀l,j<=l->l<y.size->κ.kle (KK κ x i) (KK κ y l)):Mg κ x y (o.push x[i]) (i+1) j:=by
 rw[<-uV hi o]
 exact m.put sx (JA i) hi λn h1 h2 l h3 h4=>by
  obtain rfl:n=i:=by omega
  exact h l h3 h4
theorem eE(x:Array Keyed):(x.extract 0 x.size)=x:=by simp
theorem Mg.fin{x y o:Array Keyed}{i:Nat}(m:Mg κ x y o i y.size)(sx:SortedToK κ x x.size)(hi:i<=x.size):pJ κ x y (o++x.extract i x.size++y.extract y.size y.size):=by
 have q:=m.put sx hi (Iu _) λn _ _ l h3 h4=>by omega
 have e:y.extract y.size y.size= #[]:=by simp
 rw[e,Array.append_empty]
 exact⟨by have:=q.pm;rwa [eE,eE]at this,q.so⟩
theorem Mg.last{x y o:Array Keyed}{i j:Nat}(m:Mg κ x y o i j)(sx:SortedToK κ x x.size)(sy:SortedToK κ y y.size)(hi:i+1=x.size)(hj:j<=y.size)(h:∀l,l<y.size->κ.kle (KK κ y l) (KK κ x i)) :
 pJ κ x y (o++y.extract j y.size++x.extract i x.size):=by
 have q:=m.sw.put sy hj (Iu _) λn _ _ l h3 h4=>by
  obtain rfl:l=i:=by omega
  exact h n (by omega)
 have q2:=q.sw.put sx (by omega) (Iu x.size) λn _ _ l h3 h4=>by omega
 exact⟨by have:=q2.pm;rwa [eE,eE]at this,q2.so⟩
def ig(t u:SortSt):Prop:= ∃g,u=SortSt.mk' (kindOf t) (arrOf t) (pendingOf t) g (failedOf t)
theorem ig.rfl':ig t t:=⟨gallopOf t,rfl⟩
theorem ig.kind{u:SortSt}(h:ig t u):kindOf u=kindOf t:=by obtain⟨g,rfl⟩:=h;rfl
theorem ig.set{u:SortSt}(h:ig t u)(g:Nat):ig t (SortSt.mk' (kindOf u) (arrOf u) (pendingOf u) g (failedOf u)):=by obtain⟨g',rfl⟩:=h;exact⟨g,rfl⟩
def ni:Nat->StateT SortSt Sem Unit:=sortPriv% PySem.Builtin.setMinGallop
theorem jL{u:SortSt}{g:Nat}{R:Unit->SortSt->Prop}(hu:ig t u)(h:∀v,ig t v->R () v):wpS (model P w) A E s (ni g) R u:=wpS_modify (h _ (hu.set g))
theorem Mg.fin'{x y o:Array Keyed}{j:Nat}(m:Mg κ x y o x.size j)(sy:SortedToK κ y y.size)(hj:j<=y.size):pJ κ x y (o++x.extract x.size x.size++y.extract j y.size):=by
 have q:=m.sw.put sy hj (Iu _) λn _ _ l h3 h4=>by omega
 have e:x.extract x.size x.size= #[]:=by simp
 rw[e,Array.append_empty]
 exact⟨by have:=q.sw.pm;rwa [eE,eE]at this,q.so⟩
theorem uW{β:Type}{c:Prop}{ci:Decidable c}{g2:Nat}{u:SortSt}{f:Nat->StateT SortSt Sem β}{R:β->SortSt->Prop}(hu:ig t u)(h:∀g v,ig t v->wpS (model P w) A E s (f g) R v) :
 ∀g1,wpS (model P w) A E s (@ite _ c ci (ni g1 >>= λ_=>f g1) (ni g2 >>= λ_=>f g2)) R u:=by
 intro g1
 split
 ·exact wpS_bind (jL hu (h g1))
 ·exact wpS_bind (jL hu (h g2))
theorem CJ{β:Type}{c:Prop}{d e:Nat->Prop}{ci:Decidable c}{di:∀i,Decidable (d i)}{ei:∀i,Decidable (e i)}{r1 r2:Array Keyed->Nat->β}{o2:Array Keyed}{i2:Nat}{u:SortSt}{f:Array Keyed->Nat->StateT SortSt Sem β}{R:β->SortSt->Prop}{pre:Array Keyed->Nat->Prop}(C:Array Keyed->Nat->Prop)
 (h1:∀o i,pre o i->d i->R (r1 o i) u)(h2:∀o i,pre o i->e i->R (r2 o i) u)(h3:∀o i,pre o i->¬d i->¬e i->C o i)(h4:∀o i,pre o i->¬c->C o2 i2)(h:∀o i,C o i->wpS (model P w) A E s (f o i) R u) :
 ∀o1 i1,pre o1 i1->wpS (model P w) A E s (@ite _ c ci (@ite _ (d i1) (di i1) (pure (r1 o1 i1)) (@ite _ (e i1) (ei i1) (pure (r2 o1 i1)) (f o1 i1))) (f o2 i2)) R u:=by
 intro o i p
 by_cases hc:c
 ·rw[if_pos hc]
  by_cases hd:d i
  ·rw[if_pos hd];exact wpS_pure (h1 o i p hd)
  ·rw[if_neg hd]
   by_cases he:e i
   ·rw[if_pos he];exact wpS_pure (h2 o i p he)
   ·rw[if_neg he];exact h _ _ (h3 o i p hd he)
 ·rw[if_neg hc];exact h _ _ (h4 o i p hc)
theorem yG{β:Type}{c:Prop}{d:Nat->Prop}{ci:Decidable c}{di:∀i,Decidable (d i)}{r1:Array Keyed->Nat->β}{o2:Array Keyed}{i2:Nat}{u:SortSt}{f:Array Keyed->Nat->StateT SortSt Sem β}{R:β->SortSt->Prop}{pre:Array Keyed->Nat->Prop}(C:Array Keyed->Nat->Prop)
 (h1:∀o i,pre o i->d i->R (r1 o i) u)(h3:∀o i,pre o i->¬d i->C o i)(h4:∀o i,pre o i->¬c->C o2 i2)(h:∀o i,C o i->wpS (model P w) A E s (f o i) R u) :
 ∀o1 i1,pre o1 i1->wpS (model P w) A E s (@ite _ c ci (@ite _ (d i1) (di i1) (pure (r1 o1 i1)) (f o1 i1)) (f o2 i2)) R u:=by
 intro o i p
 by_cases hc:c
 ·rw[if_pos hc]
  by_cases hd:d i
  ·rw[if_pos hd];exact wpS_pure (h1 o i p hd)
  ·rw[if_neg hd];exact h _ _ (h3 o i p hd)
 ·rw[if_neg hc];exact h _ _ (h4 o i p hc)
structure Lo(κ:KeyKind)(x y o:Array Keyed)(i j:Nat):Prop where
 mg:Mg κ x y o i j
 hx:i+1<x.size
 hy:j<y.size
theorem Au(hA:Ask P w A s κ kd)(hd:kindOf t=kd){x y:Array Keyed}(kx:KeysOf κ x)(ky':KeysOf κ y)(sx:SortedToK κ x x.size)(sy:SortedToK κ y y.size)(nx:0<x.size)(ny:0<y.size)
 (Av:κ.kle (KK κ y 0) (KK κ x 0))(last:κ.kle (KK κ y (y.size-1)) (KK κ x (x.size-1))){R:Array Keyed->SortSt->Prop}
 (h:∀r u,ig t u->pJ κ x y r->R r u):wpS (model P w) A E s (uS x y) R t:=by
 have top:∀i,i+1=x.size->∀l,l<y.size->κ.kle (KK κ y l) (KK κ x i):=λi hi l hl=>by
  obtain rfl:i=x.size-1:=by omega
  exact KeyOrd.kle_trans (sy l (y.size-1) (by omega) (by omega)) last
 apply wpS_bind
 refine wpS_lift (wpAny_rule ⟨rfl,?_⟩)
 apply wpS_bind
 refine bY ny ?_
 have m0:Mg κ x y #[y[0]] 0 1:=by
  have e:Mg κ y x #[] 0 0:=⟨by simp,by simp,λp hp=>by simp at hp,λp hp=>by simp at hp⟩
  exact(e.push sy ny λl _ hl=>KeyOrd.kle_trans Av (sx 0 l (IE l) hl)).sw
 show wpS (model P w) A E s (if(1==y.size)=true then _ else _) R t
 by_cases c1:1=y.size
 ·rw[if_pos (beq_iff_eq.mpr c1)]
  refine wpS_pure (h _ _ ig.rfl' ?_)
  rw[c1]at m0
  have:=m0.fin sx (IE _)
  rwa [<-c1]at this ⊢
 rw[if_neg λq=>c1 (beq_iff_eq.mp q)]
 show wpS (model P w) A E s (if(0+1==x.size)=true then _ else _) R t
 by_cases c2:0+1=x.size
 ·rw[if_pos (beq_iff_eq.mpr c2)]
  exact wpS_pure (h _ _ ig.rfl' (m0.last sx sy c2 (by omega) (top 0 c2)))
 rw[if_neg λq=>c2 (beq_iff_eq.mp q)]
 apply wpS_bind;apply wpS_get
 apply wpS_bind
 refine wpS_mono (wpS_forRange (I:=λn b u=>ig t u/\∃o i j g,b=(none,o,i,j,g)/\Lo κ x y o i j/\n<i+j) (Q:=λb u=>ig t u/\∃r o,b=(some r,o)/\pJ κ x y r)
  (λn b u _ hn hI=>?_) (λb u hI=>?_) ⟨ig.rfl',_,0,1,_,rfl,⟨m0,by omega,by omega⟩,JI⟩) λb u hI=>?_
 ·obtain⟨su,o,i,j,g,rfl,lo,hw⟩:=hI
  dsimp only
  apply wpS_bind
  refine wpS_mono (wpS_forRange (I:=λn b u=>ig t u/\∃o' i' j' a c,b=(none,o',i',j',a,c)/\Lo κ x y o' i' j'/\i+j+n<=i'+j') (Q:=λb u=>ig t u/\((∃r o,b=(some r,o)/\pJ κ x y r)\/∃o' i' j' a c,b=(none,o',i',j',a,c)/\Lo κ x y o' i' j'/\i+j+1<=i'+j'))
   (λn' b v _ hn' hI=>?_) (λb v hI=>?_) ⟨su,o,i,j,0,0,rfl,lo,Iu _⟩) λb v hI=>?_
  ·clear hw lo su
   obtain⟨su,o,i',j',a,c,rfl,lo,hw⟩:=hI
   have hx:=lo.hx
   have hy:=lo.hy
   have hx':i'<x.size:=by omega
   dsimp only
   apply wpS_bind;refine bY hy ?_
   apply wpS_bind;refine bY hx' ?_
   apply wpS_bind;refine ko hA (su.kind.trans hd) (cJ ky' hy) (cJ kx hx') ?_
   dsimp only
   cases d:κ.blt (KK κ y j') (KK κ x i')with
   |true=>
    rw[if_pos rfl]
    have m:=(lo.mg.sw.push sy hy λl h1 h2=>KeyOrd.kle_trans (KeyOrd.kle_of_klt d) (sx i' l h1 h2)).sw
    apply wpS_bind;refine bY hy ?_
    by_cases c1:j'+1=y.size
    ·rw[if_pos (beq_iff_eq.mpr c1)]
     refine wpS_pure ⟨su,.inl ⟨_,_,rfl,?_⟩⟩
     rw[c1]at m ⊢
     exact m.fin sx (JB hx')
    ·rw[if_neg λq=>c1 (beq_iff_eq.mp q)]
     split
     ·exact wpS_pure ⟨su,.inr ⟨_,i',j'+1,_,_,rfl,⟨m,hx,by omega⟩,by omega⟩⟩
     ·exact wpS_pure ⟨su,_,i',j'+1,_,_,rfl,⟨m,hx,by omega⟩,by omega⟩
   |false=>
    rw[if_neg Iv]
    have m:=lo.mg.push sx hx' λl h1 h2=>KeyOrd.kle_trans (show κ.kle _ _ from d) (sy j' l h1 h2)
    apply wpS_bind;refine bY hx' ?_
    by_cases c1:i'+1+1=x.size
    ·rw[if_pos (beq_iff_eq.mpr c1)]
     exact wpS_pure ⟨su,.inl ⟨_,_,rfl,m.last sx sy c1 (by omega) (top _ c1)⟩⟩
    ·rw[if_neg λq=>c1 (beq_iff_eq.mp q)]
     split
     ·exact wpS_pure ⟨su,.inr ⟨_,i'+1,j',_,_,rfl,⟨m,by omega,hy⟩,by omega⟩⟩
     ·exact wpS_pure ⟨su,_,i'+1,j',_,_,rfl,⟨m,by omega,hy⟩,by omega⟩
  ·obtain⟨su,o',i',j',a,c,rfl,lo',uZ⟩:=hI
   exact⟨su,.inr ⟨o',i',j',a,c,rfl,lo',by omega⟩⟩
  clear su lo
  obtain⟨su,⟨r,o',rfl,m⟩|⟨o',i',j',a,c,rfl,lo,uZ⟩⟩:=hI
  ·exact wpS_pure ⟨su,r,_,rfl,m⟩
  dsimp only
  apply wpS_bind
  refine wpS_lift (wpAny_rule ⟨rfl,?_⟩)
  apply wpS_bind
  refine wpS_mono (wpS_forRange (I:=λ_ b u=>ig t u/\∃o' i' j' a c e,b=(none,o',i',j',a,c,e)/\Lo κ x y o' i' j'/\i+j+1<=i'+j') (Q:=λb u=>ig t u/\((∃r o,b=(some r,o)/\pJ κ x y r)\/∃o' i' j' a c e,b=(none,o',i',j',a,c,e)/\Lo κ x y o' i' j'/\i+j+1<=i'+j'))
   (λn' b v _ hn' hI=>?_) (λb v hI=>⟨hI.1,.inr hI.2⟩) ⟨su,o',i',j',_,_,_,rfl,lo,uZ⟩) λb v hI=>?_
  ·clear hw lo su uZ
   obtain⟨su,o,i',j',a,c,e,rfl,lo,hw⟩:=hI
   dsimp only
   generalize a-1=a1
   revert a1
   refine uW su λa2 v sv=>?_
   have hx:=lo.hx
   have hy:=lo.hy
   apply wpS_bind;refine bY hy ?_
   apply wpS_bind
   refine cK hA (sv.kind.trans hd) (cJ ky' hy) kx (by omega) (by omega) (λp q h1 h2=>sx _ _ (by omega) (by omega)) λk hk lows highs=>?_
   dsimp only
   have pre:Mg κ x y (o++x.extract i' (i'+k)) (i'+k) j'/\(∀n,i'+k<=n->n<x.size->κ.kle (KK κ y j') (KK κ x n))/\(¬k>0->o++x.extract i' (i'+k)=o/\i'+k=i')/\i'<=i'+k/\i'+k<=x.size:=by
    refine⟨lo.mg.put sx (Jh _ _) (by omega) λn h1 h2 l h3 h4=>?_,λn h1 h2=>?_,λq=>?_,by omega,by omega⟩
    ·have q:=lows (n-i') (by omega)
     rw[Jq h1]at q
     simp only[p9,ID,if_false,JK]at q
     exact KeyOrd.kle_trans q (sy j' l h3 h4)
    ·have q:=highs (n-i') (by omega) (by omega)
     rw[Jq (by omega)]at q
     simp only[p9,ID,if_false,JX]at q
     exact KeyOrd.kle_of_klt q
    ·obtain rfl:k=0:=by omega
     exact⟨by simp;omega,rfl⟩
   clear lows highs
   generalize o++x.extract i' (i'+k)=o1 at pre ⊢
   generalize i'+k=i1 at pre ⊢
   revert o1 i1
   refine CJ (λo2 i2=>Mg κ x y o2 i2 j'/\i2+1<x.size/\i'<=i2/\∀n,i2<=n->n<x.size->κ.kle (KK κ y j') (KK κ x n)) (λo1 i1 ⟨m,hh,e0,hk'⟩ q=>?_) (λo1 i1 ⟨m,hh,e0,hk'⟩ q=>?_) (λo1 i1 ⟨m,hh,e0,hk'⟩ q1 q2=>?_) (λo1 i1 ⟨m,hh,e0,hk'⟩ q=>?_) λo2 i2 hC=>?_
   ·have q:=beq_iff_eq.mp q
    exact⟨sv,.inl ⟨_,_,rfl,m.last sx sy q (by omega) (top _ q)⟩⟩
   ·have q:=beq_iff_eq.mp q
    refine⟨sv,.inl ⟨_,_,rfl,?_⟩⟩
    subst q
    exact m.fin' sy (JB hy)
   ·have q1:¬i1+1=x.size:=λq=>q1 (beq_iff_eq.mpr q)
    have q2:¬i1=x.size:=λq=>q2 (beq_iff_eq.mpr q)
    exact⟨m,by omega,hk'.1,hh⟩
   ·obtain⟨rfl,rfl⟩:=e0 q
    exact⟨m,hx,Iu _,hh⟩
   obtain⟨m,g1,g2,hh⟩:=hC
   apply wpS_bind;refine bY hy ?_
   have m1:=(m.sw.push sy hy hh).sw
   by_cases c1:j'+1=y.size
   ·rw[if_pos (beq_iff_eq.mpr c1)]
    refine wpS_pure ⟨sv,.inl ⟨_,_,rfl,?_⟩⟩
    rw[c1]at m1 ⊢
    exact m1.fin sx (by omega)
   rw[if_neg λq=>c1 (beq_iff_eq.mp q)]
   have iu:i2<x.size:=by omega
   apply wpS_bind;refine bY iu ?_
   apply wpS_bind
   refine cK hA (sv.kind.trans hd) (cJ kx iu) ky' (by omega) (by omega) (λp q h1 h2=>sy _ _ (by omega) (by omega)) λk' hk' lows highs=>?_
   dsimp only
   generalize o2.push y[j']=o4 at m1 ⊢
   have pre:Mg κ x y (o4++y.extract (j'+1) (j'+1+k')) i2 (j'+1+k')/\(∀n,j'+1+k'<=n->n<y.size->κ.kle (KK κ x i2) (KK κ y n))/\(¬k'>0->o4++y.extract (j'+1) (j'+1+k')=o4/\j'+1+k'=j'+1)/\j'+1<=j'+1+k'/\j'+1+k'<=y.size:=by
    refine⟨(m1.sw.put sy (Jh (j'+1) k') (by omega) λn h1 h2 l h3 h4=>?_).sw,λn h1 h2=>?_,λq=>?_,by omega,by omega⟩
    ·have q:=lows (n-(j'+1)) (by omega)
     rw[Jq h1]at q
     simp only[p9,if_true]at q
     exact KeyOrd.kle_trans (KeyOrd.kle_of_klt q) (sx i2 l h3 h4)
    ·have q:=highs (n-(j'+1)) (by omega) (by omega)
     rw[Jq (by omega)]at q
     simp only[p9,if_true]at q
     exact q
    ·obtain rfl:k'=0:=by omega
     exact⟨by simp;omega,rfl⟩
   clear lows highs
   generalize o4++y.extract (j'+1) (j'+1+k')=o3 at pre ⊢
   generalize j'+1+k'=j1 at pre ⊢
   revert o3 j1
   refine yG (λo2 j2=>Mg κ x y o2 i2 j2/\j2<y.size/\j'<=j2/\∀n,j2<=n->n<y.size->κ.kle (KK κ x i2) (KK κ y n)) (λo3 j1 ⟨m2,qV,e0,hk2⟩ q=>?_) (λo3 j1 ⟨m2,qV,e0,hk2⟩ q1=>?_) (λo3 j1 ⟨m2,qV,e0,hk2⟩ q=>?_) λo5 j2 hC=>?_
   ·have q:=beq_iff_eq.mp q
    refine⟨sv,.inl ⟨_,_,rfl,?_⟩⟩
    subst q
    exact m2.fin sx (by omega)
   ·have q1:¬j1=y.size:=λq=>q1 (beq_iff_eq.mpr q)
    exact⟨m2,by omega,by omega,qV⟩
   ·obtain⟨rfl,rfl⟩:=e0 q
    exact⟨m2,by omega,by omega,qV⟩
   obtain⟨m2,g3,g4,qV⟩:=hC
   apply wpS_bind;refine bY iu ?_
   have m3:=m2.push sx iu qV
   by_cases c2:i2+1+1=x.size
   ·rw[if_pos (beq_iff_eq.mpr c2)]
    exact wpS_pure ⟨sv,.inl ⟨_,_,rfl,m3.last sx sy c2 (by omega) (top _ c2)⟩⟩
   rw[if_neg λq=>c2 (beq_iff_eq.mp q)]
   split
   ·exact wpS_pure ⟨sv,.inr ⟨_,i2+1,j2,_,_,_,rfl,⟨m3,by omega,g3⟩,by omega⟩⟩
   ·exact wpS_pure ⟨sv,_,i2+1,j2,_,_,_,rfl,⟨m3,by omega,g3⟩,by omega⟩
  clear su lo
  obtain⟨su,⟨r,o',rfl,m⟩|⟨o',i',j',a,c,e,rfl,lo,uZ⟩⟩:=hI
  ·exact wpS_pure ⟨su,r,_,rfl,m⟩
  dsimp only
  apply wpS_bind
  refine jL su λv' sv=>?_
  exact wpS_pure ⟨sv,o',i',j',_,rfl,lo,by omega⟩
 ·obtain⟨su,o,i,j,g,rfl,lo,hw⟩:=hI
  have:=lo.hx
  have:=lo.hy
  omega
 ·obtain⟨su,r,o,rfl,m⟩:=hI
  exact wpS_pure (h r u su m)
end
end L3
namespace L3
open PySem PySem.Spec PyProof.Rows
section
variable{P:Program}{w:World}{A:Around}{E:Value->Shared->Prop}{s:Shared}{κ:KeyKind}{kd:SortKind}{z:Array Keyed}{t:SortSt}
structure Mh(κ:KeyKind)(x y o:Array Keyed)(i j:Nat):Prop where
 pm:o.toList.Perm ((x.extract i x.size).toList++(y.extract j y.size).toList)
 so:o.toList.Pairwise λp q=>qU κ q p
 lx:∀p∈o.toList,∀n,n<i->κ.kle (KK κ x n) (tu κ p)
 ly:∀p∈o.toList,∀n,n<j->κ.kle (KK κ y n) (tu κ p)
theorem Mh.sw{x y o:Array Keyed}{i j:Nat}(m:Mh κ x y o i j):Mh κ y x o j i:=⟨m.pm.trans Jt,m.so,m.ly,m.lx⟩
theorem Mh.put{x y o:Array Keyed}{i j k:Nat}(m:Mh κ x y o i j)(sx:SortedToK κ x x.size)(hi:k<=i)(hk:i<=x.size)(h:∀n,k<=n->n<i->∀l,l<j->κ.kle (KK κ y l) (KK κ x n)):Mh κ x y (o++(x.extract k i).reverse) k j:=by
 have eT:(o++(x.extract k i).reverse).toList=o.toList++(x.extract k i).toList.reverse:=by simp
 refine⟨?_,?_,λp hp n h1=>?_,λp hp n h1=>?_⟩
 ·rw[eT,<-kq x hi hk]
  refine(m.pm.append (J4 _)).trans ?_
  rw[Ja]
  refine Jt.trans ?_
  rw[Ja,Ja]
  exact(Jt.trans (by rw[Ja]))
 ·rw[eT,JE]
  refine⟨m.so,Km.mpr (uU sx _ _),λp hp q hq=>?_⟩
  obtain⟨n,e1,e2,e3⟩:=eB (κ:=κ) hk (Ka.mp hq)
  unfold qU;rw[e3];exact m.lx p hp n e2
 ·rw[eT,IK]at hp
  rcases hp with hp|hp
  ·exact m.lx p hp n (by omega)
  ·obtain⟨l,e1,e2,e3⟩:=eB (κ:=κ) hk (Ka.mp hp)
   rw[e3];exact sx n l (by omega) (by omega)
 ·rw[eT,IK]at hp
  rcases hp with hp|hp
  ·exact m.ly p hp n h1
  ·obtain⟨l,e1,e2,e3⟩:=eB (κ:=κ) hk (Ka.mp hp)
   rw[e3];exact h l e1 e2 n h1
theorem xy{x:Array Keyed}{i:Nat}(hi:i<x.size)(o:Array Keyed):o++(x.extract i (i+1)).reverse=o.push x[i]:=by
 have e:=uV hi #[]
 rw[Array.empty_append]at e
 rw[e]
 apply Array.toList_inj.mp
 simp
theorem Mh.push{x y o:Array Keyed}{i j:Nat}(m:Mh κ x y o (i+1) j)(sx:SortedToK κ x x.size)(hi:i<x.size)(h:∀l,l<j->κ.kle (KK κ y l) (KK κ x i)):Mh κ x y (o.push x[i]) i j:=by
 rw[<-xy hi o]
 exact m.put sx (JA i) hi λn h1 h2 l h3=>by
  obtain rfl:n=i:=by omega
  exact h l h3
theorem Mh.end{x y o:Array Keyed}(m:Mh κ x y o 0 0):pJ κ x y o.reverse:=by
 refine⟨?_,?_⟩
 ·rw[Array.toList_reverse]
  have:=m.pm
  rw[eE,eE]at this
  exact(J4 _).trans this
 ·rw[Array.toList_reverse,Km];exact m.so
theorem kr(a b o:Array Keyed):(o++b.reverse++a.reverse).reverse=a++b++o.reverse:=by
 apply Array.toList_inj.mp
 simp
theorem Mh.fin{x y o:Array Keyed}{j:Nat}(m:Mh κ x y o 0 j)(sy:SortedToK κ y y.size)(hj:j<=y.size):pJ κ x y (x.extract 0 0++y.extract 0 j++o.reverse):=by
 have q:=(m.sw.put sy (IE j) hj λn _ _ l h3=>by omega).sw.end
 have e:x.extract 0 0= #[]:=by simp
 rw[e,<-kr]
 simpa using q
theorem Mh.fin'{x y o:Array Keyed}{i:Nat}(m:Mh κ x y o i 0)(sx:SortedToK κ x x.size)(hi:i<=x.size):pJ κ x y (x.extract 0 i++y.extract 0 0++o.reverse):=by
 have q:=(m.put sx (IE i) hi λn _ _ l h3=>by omega).end
 have e:y.extract 0 0= #[]:=by simp
 rw[e,<-kr]
 simpa using q
theorem Mh.first{x y o:Array Keyed}{i:Nat}(m:Mh κ x y o i 1)(sx:SortedToK κ x x.size)(sy:SortedToK κ y y.size)(hi:i<=x.size)(hy:0<y.size)(h:∀l,l<x.size->κ.kle (KK κ y 0) (KK κ x l)) :
 pJ κ x y (y.extract 0 1++x.extract 0 i++o.reverse):=by
 have q:=m.put sx (IE i) hi λn _ _ l h3=>by
  obtain rfl:l=0:=by omega
  exact h n (by omega)
 have q2:=(q.sw.put sy (IE 1) hy λn _ _ l h3=>by omega).sw.end
 rw[<-kr]
 exact q2
structure Hi(κ:KeyKind)(x y o:Array Keyed)(i j:Nat):Prop where
 mh:Mh κ x y o i j
 hx:0<i
 hy:1<j
 lx:i<=x.size
 ly:j<=y.size
theorem Aw(hA:Ask P w A s κ kd)(hd:kindOf t=kd){x y:Array Keyed}(kx:KeysOf κ x)(ky':KeysOf κ y)(sx:SortedToK κ x x.size)(sy:SortedToK κ y y.size)(nx:0<x.size)(ny:0<y.size)
 (Av:κ.kle (KK κ y 0) (KK κ x 0))(last:κ.kle (KK κ y (y.size-1)) (KK κ x (x.size-1))){R:Array Keyed->SortSt->Prop}
 (h:∀r u,ig t u->pJ κ x y r->R r u):wpS (model P w) A E s (uT x y) R t:=by
 have low:∀l,l<x.size->κ.kle (KK κ y 0) (KK κ x l):=λl hl=>KeyOrd.kle_trans Av (sx 0 l (IE l) hl)
 apply wpS_bind
 refine wpS_lift (wpAny_rule ⟨rfl,?_⟩)
 apply wpS_bind
 have F2:x.size-1<x.size:=by omega
 refine bY F2 ?_
 have m0:Mh κ x y #[x[x.size-1]] (x.size-1) y.size:=by
  have e:Mh κ x y #[] x.size y.size:=⟨by simp,by simp,λp hp=>by simp at hp,λp hp=>by simp at hp⟩
  have e':Mh κ x y #[] (x.size-1+1) y.size:=by rw[Nat.sub_add_cancel nx];exact e
  exact e'.push sx F2 λl hl=>KeyOrd.kle_trans (sy l (y.size-1) (by omega) (by omega)) last
 dsimp only
 generalize x[x.size-1]=e0 at m0 ⊢
 by_cases c1:x.size-1=0
 ·rw[if_pos (beq_iff_eq.mpr c1)]
  refine wpS_pure (h _ _ ig.rfl' ?_)
  rw[c1]at m0 ⊢
  exact m0.fin sy (Iu _)
 rw[if_neg λq=>c1 (beq_iff_eq.mp q)]
 by_cases c2:y.size=1
 ·rw[if_pos (beq_iff_eq.mpr c2)]
  refine wpS_pure (h _ _ ig.rfl' ?_)
  rw[c2]at m0 ⊢
  exact m0.first sx sy (by omega) ny low
 rw[if_neg λq=>c2 (beq_iff_eq.mp q)]
 apply wpS_bind;apply wpS_get
 apply wpS_bind
 refine wpS_mono (wpS_forRange (I:=λn b u=>ig t u/\∃i j o g,b=(none,i,j,o,g)/\Hi κ x y o i j/\n+i+j<x.size+y.size) (Q:=λb u=>ig t u/\∃r o,b=(some r,o)/\pJ κ x y r)
  (λn b u _ hn hI=>?_) (λb u hI=>?_) ⟨ig.rfl',_,_,_,_,rfl,⟨m0,by omega,by omega,by omega,by omega⟩,by omega⟩) λb u hI=>?_
 ·obtain⟨su,i,j,o,g,rfl,lo,hw⟩:=hI
  dsimp only
  apply wpS_bind
  refine wpS_mono (wpS_forRange (I:=λn b u=>ig t u/\∃i' j' o' a c,b=(none,i',j',o',a,c)/\Hi κ x y o' i' j'/\i'+j'+n<=i+j) (Q:=λb u=>ig t u/\((∃r o,b=(some r,o)/\pJ κ x y r)\/∃i' j' o' a c,b=(none,i',j',o',a,c)/\Hi κ x y o' i' j'/\i'+j'+1<=i+j))
   (λn' b v _ hn' hI=>?_) (λb v hI=>?_) ⟨su,i,j,o,0,0,rfl,lo,Iu _⟩) λb v hI=>?_
  ·clear lo su
   obtain⟨su,i',j',o,a,c,rfl,lo,uZ⟩:=hI
   obtain⟨i',rfl⟩:∃k,i'=k+1:=⟨i'-1,by have:=lo.hx;omega⟩
   obtain⟨j',rfl⟩:∃k,j'=k+1:=⟨j'-1,by have:=lo.hy;omega⟩
   have hx:i'<x.size:=lo.lx
   have hy:j'<y.size:=lo.ly
   have hy1:=lo.hy
   simp only[JH]
   apply wpS_bind;refine bY hy ?_
   apply wpS_bind;refine bY hx ?_
   apply wpS_bind;refine ko hA (su.kind.trans hd) (cJ ky' hy) (cJ kx hx) ?_
   dsimp only
   cases d:κ.blt (KK κ y j') (KK κ x i')with
   |true=>
    rw[if_pos rfl]
    have m:=lo.mh.push sx hx λl h1=>KeyOrd.kle_trans (sy l j' (by omega) hy) (KeyOrd.kle_of_klt d)
    apply wpS_bind;refine bY hx ?_
    by_cases c1:i'=0
    ·rw[if_pos (beq_iff_eq.mpr c1)]
     refine wpS_pure ⟨su,.inl ⟨_,_,rfl,?_⟩⟩
     subst c1
     exact m.fin sy hy
    ·rw[if_neg λq=>c1 (beq_iff_eq.mp q)]
     split
     ·exact wpS_pure ⟨su,.inr ⟨i',j'+1,_,_,_,rfl,⟨m,by omega,hy1,by omega,hy⟩,by omega⟩⟩
     ·exact wpS_pure ⟨su,i',j'+1,_,_,_,rfl,⟨m,by omega,hy1,by omega,hy⟩,by omega⟩
   |false=>
    rw[if_neg Iv]
    have m:=(lo.mh.sw.push sy hy λl h1=>KeyOrd.kle_trans (sx l i' (by omega) hx) (show κ.kle _ _ from d)).sw
    apply wpS_bind;refine bY hy ?_
    by_cases c1:j'=1
    ·rw[if_pos (beq_iff_eq.mpr c1)]
     refine wpS_pure ⟨su,.inl ⟨_,_,rfl,?_⟩⟩
     subst c1
     exact m.first sx sy hx ny low
    ·rw[if_neg λq=>c1 (beq_iff_eq.mp q)]
     split
     ·exact wpS_pure ⟨su,.inr ⟨i'+1,j',_,_,_,rfl,⟨m,by omega,by omega,hx,by omega⟩,by omega⟩⟩
     ·exact wpS_pure ⟨su,i'+1,j',_,_,_,rfl,⟨m,by omega,by omega,hx,by omega⟩,by omega⟩
  ·obtain⟨su,i',j',o',a,c,rfl,lo',uZ⟩:=hI
   exact⟨su,.inr ⟨i',j',o',a,c,rfl,lo',by omega⟩⟩
  clear su lo
  obtain⟨su,⟨r,o',rfl,m⟩|⟨i',j',o',a,c,rfl,lo,uZ⟩⟩:=hI
  ·exact wpS_pure ⟨su,r,_,rfl,m⟩
  dsimp only
  apply wpS_bind
  refine wpS_lift (wpAny_rule ⟨rfl,?_⟩)
  apply wpS_bind
  refine wpS_mono (wpS_forRange (I:=λ_ b u=>ig t u/\∃i' j' o' a c e,b=(none,i',j',o',a,c,e)/\Hi κ x y o' i' j'/\i'+j'+1<=i+j) (Q:=λb u=>ig t u/\((∃r o,b=(some r,o)/\pJ κ x y r)\/∃i' j' o' a c e,b=(none,i',j',o',a,c,e)/\Hi κ x y o' i' j'/\i'+j'+1<=i+j))
   (λn' b v _ hn' hI=>?_) (λb v hI=>⟨hI.1,.inr hI.2⟩) ⟨su,i',j',o',_,_,_,rfl,lo,uZ⟩) λb v hI=>?_
  ·clear lo su uZ
   obtain⟨su,i',j',o,a,c,e,rfl,lo,uZ⟩:=hI
   obtain⟨i',rfl⟩:∃k,i'=k+1:=⟨i'-1,by have:=lo.hx;omega⟩
   obtain⟨j',rfl⟩:∃k,j'=k+1:=⟨j'-1,by have:=lo.hy;omega⟩
   have hx:i'<x.size:=lo.lx
   have hy:j'<y.size:=lo.ly
   have hy1:=lo.hy
   dsimp only
   generalize a-1=a1
   rw[JH i',JH j']
   revert a1
   refine uW su λa2 v sv=>?_
   apply wpS_bind;refine bY hy ?_
   apply wpS_bind
   refine cK hA (sv.kind.trans hd) (cJ ky' hy) kx (by omega) (by omega) (λp q h1 h2=>sx _ _ (by omega) (by omega)) λk hk lows highs=>?_
   dsimp only
   simp only[Jr]at lows highs
   have pre:Mh κ x y (o++(x.extract k (i'+1)).reverse) k (j'+1)/\(∀n,n<k->κ.kle (KK κ x n) (KK κ y j'))/\(¬i'+1-k>0->o++(x.extract k (i'+1)).reverse=o/\k=i'+1)/\k<=i'+1:=by
    refine⟨lo.mh.put sx hk hx λn h1 h2 l h3=>?_,λn h1=>?_,λq=>?_,hk⟩
    ·have q:=highs n h1 h2
     simp only[p9,ID,if_false,JX]at q
     exact KeyOrd.kle_trans (sy l j' (by omega) hy) (KeyOrd.kle_of_klt q)
    ·have q:=lows n h1
     simp only[p9,ID,if_false,JK]at q
     exact q
    ·obtain rfl:k=i'+1:=by omega
     exact⟨by simp;omega,rfl⟩
   clear lows highs hk
   generalize i'+1-k=kk at pre ⊢
   generalize o++(x.extract k (i'+1)).reverse=o1 at pre ⊢
   generalize k=i1 at pre ⊢
   revert o1 i1
   refine yG (λo2 i2=>Mh κ x y o2 i2 (j'+1)/\0<i2/\i2<=i'+1/\∀n,n<i2->κ.kle (KK κ x n) (KK κ y j')) (λo1 i1 ⟨m,hh,e0,hk'⟩ q=>?_) (λo1 i1 ⟨m,hh,e0,hk'⟩ q1=>?_) (λo1 i1 ⟨m,hh,e0,hk'⟩ q=>?_) λo2 i2 hC=>?_
   ·have q:=beq_iff_eq.mp q
    subst q
    exact⟨sv,.inl ⟨_,_,rfl,m.fin sy hy⟩⟩
   ·have q1:¬i1=0:=λq=>q1 (beq_iff_eq.mpr q)
    exact⟨m,by omega,hk',hh⟩
   ·obtain⟨rfl,rfl⟩:=e0 q
    exact⟨m,by omega,Iu _,hh⟩
   obtain⟨m,g1,g2,hh⟩:=hC
   apply wpS_bind;refine bY hy ?_
   have m1:=(m.sw.push sy hy hh).sw
   generalize o2.push y[j']=o4 at m1 ⊢
   by_cases c1:j'=1
   ·rw[if_pos (beq_iff_eq.mpr c1)]
    refine wpS_pure ⟨sv,.inl ⟨_,_,rfl,?_⟩⟩
    subst c1
    exact m1.first sx sy (by omega) ny low
   rw[if_neg λq=>c1 (beq_iff_eq.mp q)]
   obtain⟨i2,rfl⟩:∃k,i2=k+1:=⟨i2-1,by omega⟩
   have iu:i2<x.size:=by omega
   rw[JH i2]
   apply wpS_bind;refine bY iu ?_
   apply wpS_bind
   refine cK hA (sv.kind.trans hd) (cJ kx iu) ky' (by omega) (by omega) (λp q h1 h2=>sy _ _ (by omega) (by omega)) λk' hk lows highs=>?_
   dsimp only
   simp only[Jr]at lows highs
   have pre:Mh κ x y (o4++(y.extract k' j').reverse) (i2+1) k'/\(∀n,n<k'->κ.kle (KK κ y n) (KK κ x i2))/\(¬j'-k'>0->o4++(y.extract k' j').reverse=o4/\k'=j')/\k'<=j':=by
    refine⟨(m1.sw.put sy hk (by omega) λn h1 h2 l h3=>?_).sw,λn h1=>?_,λq=>?_,hk⟩
    ·have q:=highs n h1 h2
     simp only[p9,if_true]at q
     exact KeyOrd.kle_trans (sx l i2 (by omega) iu) q
    ·have q:=lows n h1
     simp only[p9,if_true]at q
     exact KeyOrd.kle_of_klt q
    ·obtain rfl:k'=j':=by omega
     exact⟨by simp;omega,rfl⟩
   clear lows highs hk
   generalize j'-k'=kk at pre ⊢
   generalize o4++(y.extract k' j').reverse=o3 at pre ⊢
   generalize k'=j1 at pre ⊢
   revert o3 j1
   refine CJ (λo2 j2=>Mh κ x y o2 (i2+1) j2/\1<j2/\j2<=j'/\∀n,n<j2->κ.kle (KK κ y n) (KK κ x i2)) (λo3 j1 ⟨m2,qV,e0,hk2⟩ q=>?_) (λo3 j1 ⟨m2,qV,e0,hk2⟩ q=>?_) (λo3 j1 ⟨m2,qV,e0,hk2⟩ q1 q2=>?_) (λo3 j1 ⟨m2,qV,e0,hk2⟩ q=>?_) λo5 j2 hC=>?_
   ·have q:=beq_iff_eq.mp q
    subst q
    exact⟨sv,.inl ⟨_,_,rfl,m2.first sx sy (by omega) ny low⟩⟩
   ·have q:=beq_iff_eq.mp q
    subst q
    exact⟨sv,.inl ⟨_,_,rfl,m2.fin' sx (by omega)⟩⟩
   ·have q1:¬j1=1:=λq=>q1 (beq_iff_eq.mpr q)
    have q2:¬j1=0:=λq=>q2 (beq_iff_eq.mpr q)
    exact⟨m2,by omega,hk2,qV⟩
   ·obtain⟨rfl,rfl⟩:=e0 q
    exact⟨m2,by omega,Iu _,qV⟩
   obtain⟨m2,g3,g4,qV⟩:=hC
   apply wpS_bind;refine bY iu ?_
   have m3:=m2.push sx iu qV
   by_cases c2:i2=0
   ·rw[if_pos (beq_iff_eq.mpr c2)]
    subst c2
    exact wpS_pure ⟨sv,.inl ⟨_,_,rfl,m3.fin sy (by omega)⟩⟩
   rw[if_neg λq=>c2 (beq_iff_eq.mp q)]
   split
   ·exact wpS_pure ⟨sv,.inr ⟨i2,j2,_,_,_,_,rfl,⟨m3,by omega,g3,by omega,by omega⟩,by omega⟩⟩
   ·exact wpS_pure ⟨sv,i2,j2,_,_,_,_,rfl,⟨m3,by omega,g3,by omega,by omega⟩,by omega⟩
  clear su lo
  obtain⟨su,⟨r,o',rfl,m⟩|⟨i',j',o',a,c,e,rfl,lo,uZ⟩⟩:=hI
  ·exact wpS_pure ⟨su,r,_,rfl,m⟩
  dsimp only
  apply wpS_bind
  refine jL su λv' sv=>?_
  exact wpS_pure ⟨sv,i',j',o',_,rfl,lo,by omega⟩
 ·obtain⟨su,i,j,o,g,rfl,lo,hw⟩:=hI
  omega
 ·obtain⟨su,r,o,rfl,m⟩:=hI
  exact wpS_pure (h r u su m)
end
end L3
namespace L3
open PySem PySem.Spec PyProof.Rows
section
variable{P:Program}{w:World}{A:Around}{E:Value->Shared->Prop}{s:Shared}{κ:KeyKind}{kd:SortKind}{z:Array Keyed}{t:SortSt}
def Up(κ:KeyKind)(y:Array Keyed)(l n:Nat):Prop:= ∀i j,l<=i->i<=j->j<l+n->κ.kle (KK κ y i) (KK κ y j)
def Dn(κ:KeyKind)(y:Array Keyed)(l n:Nat):Prop:= ∀i j,l<=i->i<=j->j<l+n->κ.kle (KK κ y j) (KK κ y i)
theorem Up.more{y:Array Keyed}{l n:Nat}(h:Up κ y l n)(hl:1<=n)(hn:κ.kle (KK κ y (l+n-1)) (KK κ y (l+n))):Up κ y l (n+1):=by
 intro i j hi hij hj
 rcases IV j (l+n)with c|c
 ·exact h i j hi hij c
 ·obtain rfl:j=l+n:=by omega
  rcases IV i (l+n)with d|d
  ·exact KeyOrd.kle_trans (h i (l+n-1) hi (by omega) (by omega)) hn
  ·obtain rfl:i=l+n:=by omega
   exact KeyOrd.kle_refl _
theorem Dn.more{y:Array Keyed}{l n:Nat}(h:Dn κ y l n)(hl:1<=n)(hn:κ.kle (KK κ y (l+n)) (KK κ y (l+n-1))):Dn κ y l (n+1):=by
 intro i j hi hij hj
 rcases IV j (l+n)with c|c
 ·exact h i j hi hij c
 ·obtain rfl:j=l+n:=by omega
  rcases IV i (l+n)with d|d
  ·exact KeyOrd.kle_trans hn (h i (l+n-1) hi (by omega) (by omega))
  ·obtain rfl:i=l+n:=by omega
   exact KeyOrd.kle_refl _
theorem xA(y:Array Keyed)(l:Nat):Up κ y l 1:=by
 intro i j h1 h2 h3
 obtain rfl:i=j:=by omega
 exact KeyOrd.kle_refl _
theorem Ax(y:Array Keyed)(l:Nat):Dn κ y l 1:=by
 intro i j h1 h2 h3
 obtain rfl:i=j:=by omega
 exact KeyOrd.kle_refl _
structure Mo(κ:KeyKind)(kd:SortKind)(z:Array Keyed)(l:Nat)(t u:SortSt):Prop where
 pm:(arrOf u).Perm z
 kd:kindOf u=kd
 ok:failedOf u=none
 pd:pendingOf u=pendingOf t
 lw:∀i,i<l->KK κ (arrOf u) i=KK κ (arrOf t) i
variable{u:SortSt}{l:Nat}
theorem Mo.sz(m:Mo κ kd z l t u):(arrOf u).size=z.size:=m.pm.size_eq
theorem Mo.put(m:Mo κ kd z l t u){y:Array Keyed}(h:y.Perm (arrOf u))(hl:∀i,i<l->KK κ y i=KK κ (arrOf u) i):Mo κ kd z l t (setArr u y):=⟨h.trans m.pm,m.kd,m.ok,m.pd,λi hi=>(hl i hi).trans (m.lw i hi)⟩
theorem Mo.keys(m:Mo κ kd z l t u)(hk:KeysOf κ z):KeysOf κ (arrOf u):=λp hp=>hk p ((Array.perm_iff_toList_perm.mp m.pm).mem_iff.mp hp)
theorem l8(hA:Ask P w A s κ kd)(m:Mo κ kd z l t u)(hk:KeysOf κ z){i j:Nat}(hi:i<z.size)(hj:j<z.size){R:Option Bool->SortSt->Prop}
 (h:R (some (κ.blt (KK κ (arrOf u) i) (KK κ (arrOf u) j))) u):wpS (model P w) A E s (ltAt' i j) R u:=by
 rw[ltAt'_eq]
 apply wpS_bind;apply wpS_get
 have hi':i<(arrOf u).size:=m.sz▸hi
 have hj':j<(arrOf u).size:=m.sz▸hj
 show wpS (model P w) A E s (elem' (arrOf u) i >>= λa=>elem' (arrOf u) j >>= λb=>lt' a b) R u
 apply wpS_bind;refine bY hi' ?_
 apply wpS_bind;refine bY hj' ?_
 exact ko hA m.kd (cJ (m.keys hk) hi') (cJ (m.keys hk) hj') h
theorem Mo.rev(m:Mo κ kd z l t u){i j:Nat}(hl:l<=i)(hj:j<=z.size){R:Unit->SortSt->Prop}(h:∀v,Mo κ kd z l t v->(∀k,KK κ (arrOf v) k=if i<=k/\k<j then KK κ (arrOf u) (i+j-1-k)else KK κ (arrOf u) k)->R () v) :
 wpS (model P w) A E s (reverseSlice' i j) R u:=by
 have e:=λk=>KK_mirror (κ:=κ) (xs:=arrOf u) (i:=i) (j:=j) (m.sz▸hj) k
 rw[reverseSlice'_eq]
 apply wpS_modify
 refine h _ (m.put (mirror_perm _ _ _ _) λk hk=>?_) e
 rw[e,if_neg (by omega)]
def EV(κ:KeyKind)(y:Array Keyed)(l n q:Nat):Prop:=q+1<=n/\∀i,l+n-(q+1)<=i->i<l+n->KK κ y i=KK κ y (l+n-1)
theorem Ay{y:Array Keyed}{n:Nat}(h:1<=n):EV κ y l n 0:=by
 refine⟨by omega,λi h1 h2=>?_⟩
 obtain rfl:i=l+n-1:=by omega
 rfl
theorem ku{y y':Array Keyed}{i j:Nat}(hq:∀k,i<=k->k<j->KK κ y k=KK κ y (j-1))(e:∀k,KK κ y' k=if i<=k/\k<j then KK κ y (i+j-1-k)else KK κ y k)(k:Nat):KK κ y' k=KK κ y k:=by
 rw[e]
 split
 ·rw[hq _ (by omega) (by omega),hq k (by omega) (by omega)]
 ·rfl
theorem kB(hA:Ask P w A s κ kd)(hk:KeysOf κ z)(m:Mo κ kd z l t t){e:Nat}(he:l+e<=z.size)(h1:1<=e){R:Option Nat->SortSt->Prop}
 (h:∀i u,Mo κ kd z l t u->1<=i->i<=e->Up κ (arrOf u) l i->R (some i) u):wpS (model P w) A E s (countRun' l e) R t:=by
 rw[countRun'_eq]
 apply wpS_bind
 refine wpS_mono (wpS_forRange (I:=λi b u=>b=(none,i)/\u=t/\Up κ (arrOf t) l i) (Q:=λb u=>u=t/\∃n,b=(none,n)/\1<=n/\n<=e/\Up κ (arrOf t) l n/\(n<e->κ.klt (KK κ (arrOf t) (l+n)) (KK κ (arrOf t) (l+n-1)))) (λi b u hi1 hi2 hI=>?_) (λb u hI=>?_) ⟨rfl,rfl,xA _ _⟩) λb u hI=>?_
 ·obtain⟨rfl,rfl,hup⟩:=hI
  dsimp only
  apply wpS_bind
  refine l8 hA m hk (by omega) (by omega) ?_
  dsimp only
  cases c:κ.blt (KK κ (arrOf u) (l+i)) (KK κ (arrOf u) (l+i-1))with
  |true=>rw[if_pos rfl];exact wpS_pure ⟨rfl,i,rfl,hi1,by omega,hup,λ_=>c⟩
  |false=>rw[if_neg Iv];exact wpS_pure ⟨rfl,rfl,hup.more (by omega) c⟩
 ·obtain⟨rfl,rfl,hup⟩:=hI
  have em:max 1 e=e:=by omega
  rw[em]at hup ⊢
  exact⟨rfl,e,rfl,h1,Iu e,hup,λc=>absurd c (Jo e)⟩
 obtain⟨rfl,n,rfl,n1,n2,up,stop⟩:=hI
 dsimp only
 by_cases c:n=e
 ·rw[if_pos (beq_iff_eq.mpr c)]
  exact wpS_pure (h n u m n1 n2 up)
 rw[if_neg λq=>c (beq_iff_eq.mp q)]
 have less:=stop (by omega)
 clear stop
 by_cases d:n>1
 case' pos=>
  rw[if_pos d]
  apply wpS_bind
  refine l8 hA m hk (by omega) (by omega) ?_
  dsimp only
  cases g:κ.blt (KK κ (arrOf u) l) (KK κ (arrOf u) (l+n-1))
  case' true=>
   rw[if_pos rfl];exact wpS_pure (h n u m n1 n2 up)
  rw[if_neg Iv]
  have one:∀i,l<=i->i<l+n->KK κ (arrOf u) i=KK κ (arrOf u) (l+n-1):=λi h2 hi=>
   KeyOrd.kle_antisymm (up i (l+n-1) h2 (by omega) (by omega)) (KeyOrd.kle_trans (show κ.kle (KK κ (arrOf u) (l+n-1)) (KK κ (arrOf u) l)from g) (up l i (Iu l) h2 hi))
  apply wpS_bind
  refine m.rev (Iu l) (by omega) λv mv ev=>?_
  have same:=ku one ev
  have dn:Dn κ (arrOf v) l (n+1):=Dn.more (λi j h2 h3 h4=>by rw[same,same,one i h2 (by omega),one j (by omega) h4];exact KeyOrd.kle_refl _) n1 (by rw[same,same];exact KeyOrd.kle_of_klt less)
 case' neg=>
  rw[if_neg d]
  have mv:=m
  have dn:Dn κ (arrOf u) l (n+1):=by
   obtain rfl:n=1:=by omega
   exact(Ax _ _).more (Iu 1) (KeyOrd.kle_of_klt less)
 all_goals
  apply wpS_bind
  refine wpS_lift (wpAny_rule ⟨rfl,?_⟩)
  clear less up
  apply wpS_bind
  refine wpS_mono (wpS_forRange (I:=λi b v=>Mo κ kd z l u v/\Dn κ (arrOf v) l i/\∃q,EV κ (arrOf v) l i q/\b=(none,i,q)) (Q:=λb v=>Mo κ kd z l u v/\∃i q,Dn κ (arrOf v) l i/\1<=i/\i<=e/\EV κ (arrOf v) l i q/\b=(none,i,q)) (λi b v hi1 hi2 hI=>?_) (λb v hI=>?_) ⟨mv,dn,0,Ay (by omega),rfl⟩) λb v hI=>?_
  ·clear mv dn
   obtain⟨mv,dn,q,hq,rfl⟩:=hI
   dsimp only
   apply wpS_bind
   refine l8 hA mv hk (by omega) (by omega) ?_
   dsimp only
   cases c:κ.blt (KK κ (arrOf v) (l+i)) (KK κ (arrOf v) (l+i-1))with
   |true=>
    rw[if_pos rfl]
    have lower:=dn.more (by omega) (KeyOrd.kle_of_klt c)
    have q1:=hq.1
    by_cases d:q>0
    ·rw[if_pos d]
     apply wpS_bind
     refine mv.rev (by omega) (by omega) λv' qS ev=>?_
     have same:=ku hq.2 ev
     exact wpS_pure ⟨qS,λi j h2 h3 h4=>by rw[same,same];exact lower i j h2 h3 h4,0,Ay (by omega),rfl⟩
    ·rw[if_neg d]
     exact wpS_pure ⟨mv,lower,0,Ay (by omega),rfl⟩
   |false=>
    rw[if_neg Iv]
    apply wpS_bind
    refine l8 hA mv hk (by omega) (by omega) ?_
    dsimp only
    cases d:κ.blt (KK κ (arrOf v) (l+i-1)) (KK κ (arrOf v) (l+i))with
    |true=>rw[if_pos rfl];exact wpS_pure ⟨mv,i,q,dn,by omega,by omega,hq,rfl⟩
    |false=>
     rw[if_neg Iv]
     have alike:KK κ (arrOf v) (l+i)=KK κ (arrOf v) (l+i-1):=κ.total _ _ c d
     have q1:=hq.1
     refine wpS_pure ⟨mv,dn.more (by omega) d,q+1,⟨by omega,λx h2 h3=>?_⟩,rfl⟩
     have e1:l+(i+1)-1=l+i:=by omega
     rw[e1]
     rcases IV x (l+i)with g|g
     ·rw[alike];exact hq.2 x (by omega) g
     ·obtain rfl:x=l+i:=by omega
      rfl
  ·clear mv dn
   obtain⟨mv,dn,q,hq,rfl⟩:=hI
   have em:max (n+1) e=e:=by omega
   rw[em]at dn hq ⊢
   exact⟨mv,e,q,dn,h1,Iu e,hq,rfl⟩
  clear mv dn
  obtain⟨mv,i,q,dn,i1,i2,hq,rfl⟩:=hI
  dsimp only
  have q1:=hq.1
  by_cases d:q>0
  case' pos=>
   rw[if_pos d]
   apply wpS_bind
   refine mv.rev (by omega) (by omega) λv' qS ev=>?_
   have same:=ku hq.2 ev
   have Hs:Dn κ (arrOf v') l i:=λi j h2 h3 h4=>by rw[same,same];exact dn i j h2 h3 h4
   clear mv dn
   have mv:=qS
   have dn:=Hs
  case' neg=>
   rw[if_neg d]
  all_goals
   apply wpS_bind
   refine mv.rev (Iu l) (by omega) λv2 F3 F4=>?_
   have up:Up κ (arrOf v2) l i:=λa b h2 h3 h4=>by
    rw[F4,F4,if_pos (by omega),if_pos (by omega)]
    exact dn _ _ (by omega) (by omega) (by omega)
   apply wpS_bind
   refine wpS_mono (wpS_forRange (I:=λi b v=>b=(none,i)/\v=v2/\Up κ (arrOf v2) l i) (Q:=λb v=>v=v2/\∃n,b=(none,n)/\1<=n/\n<=e/\Up κ (arrOf v2) l n) (λi b v hi1 hi2 hI=>?_) (λb v hI=>?_) ⟨rfl,rfl,up⟩) λb v hI=>?_
   ·obtain⟨rfl,rfl,hup⟩:=hI
    dsimp only
    apply wpS_bind
    refine l8 hA F3 hk (by omega) (by omega) ?_
    dsimp only
    cases c:κ.blt (KK κ (arrOf v) (l+i)) (KK κ (arrOf v) (l+i-1))with
    |true=>rw[if_pos rfl];exact wpS_pure ⟨rfl,i,rfl,by omega,by omega,hup⟩
    |false=>rw[if_neg Iv];exact wpS_pure ⟨rfl,rfl,hup.more (by omega) c⟩
   ·obtain⟨rfl,rfl,hup⟩:=hI
    have em:max i e=e:=by omega
    rw[em]at hup ⊢
    exact⟨rfl,e,rfl,h1,Iu e,hup⟩
   obtain⟨rfl,n,rfl,e1,e2,up⟩:=hI
   exact wpS_pure (h n v F3 e1 e2 up)
end
end L3
namespace L3
open PySem PySem.Spec PyProof.Rows
section
variable{P:Program}{w:World}{A:Around}{E:Value->Shared->Prop}{s:Shared}{κ:KeyKind}{kd:SortKind}{z:Array Keyed}{t:SortSt}
variable{u:SortSt}{l:Nat}
structure xB(κ:KeyKind)(y:Array Keyed)(l k a b:Nat):Prop where
 ab:a<=b
 bk:b<=k
 lo:∀i,l<=i->i<l+a->κ.kle (KK κ y i) (KK κ y (l+k))
 hi:∀i,l+b<=i->i<l+k->κ.klt (KK κ y (l+k)) (KK κ y i)
theorem xB.put{y:Array Keyed}{k a:Nat}(c:xB κ y l k a a)(hk:l+k<y.size)(up:Up κ y l k):Up κ (bubble y (l+k) (l+k-(l+a))) l (k+1)/\∀i,i<l->KK κ (bubble y (l+k) (l+k-(l+a))) i=KK κ y i:=by
 have hl:=c.bk
 have at':∀i,KK κ (bubble y (l+k) (l+k-(l+a))) i=if i=l+a then KK κ y (l+k)else if l+a<i/\i<=l+k then KK κ y (i-1)else KK κ y i:=λi=>by
  have:=KK_bubble (κ:=κ) hk (Nat.sub_le (l+k) (l+a)) i
  have e:l+k-(l+k-(l+a))=l+a:=by omega
  rw[e]at this
  exact this
 refine⟨λi j h1 hij hj=>?_,λi hi=>?_⟩
 ·rw[at' i,at' j]
  by_cases i1:i=l+a
  ·rw[if_pos i1]
   by_cases j1:j=l+a
   ·rw[if_pos j1];exact KeyOrd.kle_refl _
   ·rw[if_neg j1,if_pos ⟨by omega,by omega⟩]
    exact KeyOrd.kle_of_klt (c.hi _ (by omega) (by omega))
  ·rw[if_neg i1]
   by_cases i2:l+a<i/\i<=l+k
   ·rw[if_pos i2,if_neg (by omega),if_pos ⟨by omega,by omega⟩]
    exact up _ _ (by omega) (by omega) (by omega)
   ·rw[if_neg i2]
    by_cases j1:j=l+a
    ·rw[if_pos j1];exact c.lo i h1 (by omega)
    ·rw[if_neg j1]
     by_cases j2:l+a<j/\j<=l+k
     ·rw[if_pos j2];exact up _ _ h1 (by omega) (by omega)
     ·rw[if_neg j2];exact up _ _ h1 hij (by omega)
 ·rw[at' i,if_neg (by omega),if_neg (by omega)]
theorem oW(hA:Ask P w A s κ kd)(hk:KeysOf κ z)(m:Mo κ kd z l t u){n o:Nat}(hn:l+n<=z.size)(ho:o<=n)(h1:1<=o)(up:Up κ (arrOf u) l o){R:Bool->SortSt->Prop}
 (h:∀v,Mo κ kd z l t v->Up κ (arrOf v) l n->R true v):wpS (model P w) A E s (binarySort' l n o) R u:=by
 rw[binarySort'_eq]
 apply wpS_bind
 refine wpS_mono (wpS_forRange (I:=λk b v=>b=(none,())/\Mo κ kd z l t v/\Up κ (arrOf v) l k/\k<=n) (Q:=λb v=>b=(none,())/\Mo κ kd z l t v/\Up κ (arrOf v) l n)
  (λk b v hk1 hk2 hI=>?_) (λb v hI=>?_) ⟨rfl,m,by rw[Nat.max_eq_left h1];exact up,by omega⟩) λb v hI=>?_
 ·obtain⟨rfl,mv,z7,_⟩:=hI
  dsimp only
  apply wpS_bind
  refine wpS_mono (wpS_forRange (I:=λx b v'=>v'=v/\∃l' r,b=(none,l',r)/\xB κ (arrOf v) l k l' r/\r-l'<=k-x) (Q:=λb v'=>v'=v/\∃l',b=(none,l',l')/\xB κ (arrOf v) l k l' l')
   (λx b v' _ hx hI=>?_) (λb v' hI=>?_) ⟨rfl,0,k,rfl,⟨IE k,Iu k,λi _ hi=>by omega,λi h2 h3=>by omega⟩,Iu _⟩) λb v' hI=>?_
  ·obtain⟨rfl,a,r,rfl,c,hw⟩:=hI
   dsimp only
   by_cases d:a>=r
   ·rw[if_pos d]
    obtain rfl:a=r:=KQ c.ab d
    exact wpS_pure ⟨rfl,a,rfl,c⟩
   ·rw[if_neg d]
    have hrk:=c.bk
    have hm:=uB (Nat.not_le.mp d)
    generalize (a+r) / 2=y at hm ⊢
    obtain⟨hm1,hm2⟩:=hm
    apply wpS_bind
    refine l8 hA mv hk (by omega) (by omega) ?_
    dsimp only
    cases g:κ.blt (KK κ (arrOf v') (l+k)) (KK κ (arrOf v') (l+y))with
    |true=>
     rw[if_pos rfl]
     exact wpS_pure ⟨rfl,a,y,rfl,⟨by omega,by omega,c.lo,λi h2 h3=>KeyOrd.klt_of_klt_of_kle g (z7 _ i (by omega) h2 h3)⟩,by omega⟩
    |false=>
     rw[if_neg Iv]
     exact wpS_pure ⟨rfl,y+1,r,rfl,⟨by omega,by omega,λi h2 h3=>KeyOrd.kle_trans (z7 i (l+y) h2 (by omega) (by omega)) g,c.hi⟩,by omega⟩
  ·obtain⟨rfl,a,r,rfl,c,hw⟩:=hI
   have e:max 0 k=k:=by omega
   rw[e]at hw
   obtain rfl:a=r:=by have:=c.ab;omega
   exact⟨rfl,a,rfl,c⟩
  ·obtain⟨rfl,a,rfl,c⟩:=hI
   dsimp only
   rw[moveDown'_eq]
   apply wpS_bind
   apply wpS_modify
   have hz:l+k<(arrOf v').size:=by have:=mv.sz;omega
   have q:=c.put hz z7
   exact wpS_pure ⟨rfl,mv.put (bubble_perm _ _ _) q.2,q.1,hk2⟩
 ·obtain⟨rfl,mv,up1,hle⟩:=hI
  have e:max (max o 1) n=n:=by omega
  rw[e]at up1
  exact⟨rfl,mv,up1⟩
 ·obtain⟨rfl,mv,up'⟩:=hI
  exact wpS_pure (h v mv up')
theorem qW(b:Nat):∀(p:List Keyed) (n:Nat) (y:Array Keyed),b+n+p.length<=y.size->((p.zipIdx n).foldl (λa (q:Keyed ×Nat)=>a.setIfInBounds (b+q.2) q.1) y).toList=y.toList.take (b+n)++p++y.toList.drop (b+n+p.length)
 |[],n,y,_=>by simp
 |q::p,n,y,h=>by
  rw[KH,List.foldl_cons]
  have hl:(q::p).length=p.length+1:=rfl
  rw[hl]at h
  have e:=qW b p (n+1) (y.setIfInBounds (b+n) q) (by rw[Array.size_setIfInBounds];omega)
  refine e.trans ?_
  have hb:b+n<y.toList.length:=by rw[Array.length_toList];omega
  rw[Array.toList_setIfInBounds,hl]
  have e1:(y.toList.set (b+n) q).take (b+(n+1))=y.toList.take (b+n)++[q]:=by
   rw[show b+(n+1)=b+n+1 from rfl,K0,List.take_set_of_le (Iu _),Jx hb]
   rfl
  have e2:(y.toList.set (b+n) q).drop (b+(n+1)+p.length)=y.toList.drop (b+n+(p.length+1)):=by
   rw[List.drop_set_of_lt (by omega)]
   congr 1
   omega
  rw[e1,e2,Ja,Ja,Ja]
  rfl
theorem iw{y:Array Keyed}{a b i:Nat}(hb:b<=y.size)(hi:i<b-a):KK κ (y.extract a b) i=KK κ y (a+i):=by
 apply KK_congr
 rw[Array.getElem?_extract,if_pos (by omega)]
theorem jM{y:Array Keyed}(hk:KeysOf κ y)(a b:Nat):KeysOf κ (y.extract a b):=λp hp=>hk p (by
 rw[Array.toList_extract]at hp
 exact((Jv _ _).trans (Kz _ _)).subset hp)
theorem nj{y:Array Keyed}{a b:Nat}(hb:b<=y.size):(y.extract a b).size=b-a:=by simp;omega
theorem xC{M:Model}{σ:Type}{a st:σ}{Q:PUnit->σ->Prop}(h:Q ⟨⟩ a):wpS M A E s (set a:StateT σ Sem PUnit) Q st:=by
 unfold wpS;rw[StateT.run_set];exact wpAny_pure ⟨rfl,h⟩
theorem u0{y:Array Keyed}{b c:Nat}(hc:c<=y.size)(h:∀i j,b<=i->i<=j->j<c->κ.kle (KK κ y i) (KK κ y j)):(y.extract b c).toList.Pairwise (qU κ):=by
 have q:SortedToK κ (y.extract b c) (y.extract b c).size:=λi j h1 h2=>by
  rw[nj hc]at h2
  rw[iw hc (by omega),iw hc (by omega)]
  exact h _ _ (by omega) (by omega) (by omega)
 have:=uU q 0 (y.extract b c).size
 rwa [eE]at this
theorem pw_up{y:Array Keyed}(h:y.toList.Pairwise (qU κ)):SortedToK κ y y.size:=by
 intro i j hij hj
 rcases IV i j with c|c
 ·rw[l7 (by omega:i<y.size),l7 hj]
  have:=Js.mp h i j (by rw[Array.length_toList];omega) (by rw[Array.length_toList];exact hj) c
  simpa[qU]using this
 ·obtain rfl:i=j:=by omega
  exact KeyOrd.kle_refl _
theorem Az(hA:Ask P w A s κ kd)(hk:KeysOf κ z)(hp:(arrOf t).Perm z)(hd:kindOf t=kd)(hf:failedOf t=none){n1 n2 p q:Nat}(pd:pendingOf t= #[(0,n1,p),(n1,n2,q)])(hn:n1+n2=z.size)(h1:0<n1)(h2:0<n2)
 (up1:Up κ (arrOf t) 0 n1)(se:Up κ (arrOf t) n1 n2){R:Bool->SortSt->Prop}
 (h:∀v,(arrOf v).Perm z->failedOf v=none->pendingOf v= #[(0,n1+n2,p)]->SortedToK κ (arrOf v) z.size->R true v):wpS (model P w) A E s (mergeAt' 0) R t:=by
 rcases t with⟨kk,a,pe,g,f⟩
 change a.Perm z at hp
 change kk=kd at hd
 change f=none at hf
 change pe=_ at pd
 change Up κ a 0 n1 at up1
 change Up κ a n1 n2 at se
 subst hd hf pd
 apply wpS_bind;apply wpS_get
 have hs:a.size=z.size:=hp.size_eq
 have ka:KeysOf κ a:=λp' Ht=>hk p' ((Array.perm_iff_toList_perm.mp hp).mem_iff.mp Ht)
 have p0:(#[(0,n1,p),(n1,n2,q)]:Array (Nat ×Nat ×Nat))[0]?=some (0,n1,p):=rfl
 have p1:(#[(0,n1,p),(n1,n2,q)]:Array (Nat ×Nat ×Nat))[0+1]?=some (n1,n2,q):=rfl
 have p2:((#[(0,n1,p),(n1,n2,q)]:Array (Nat ×Nat ×Nat)).setIfInBounds 0 (0,n1+n2,p)).eraseIdxIfInBounds (0+1)= #[(0,n1+n2,p)]:=by simp[Array.eraseIdxIfInBounds]
 dsimp only
 rw[p0,p1]
 dsimp only
 rw[p2]
 apply wpS_bind
 refine xC ?_
 have hn1:n1<a.size:=by omega
 apply wpS_bind;refine bY hn1 ?_
 apply wpS_bind
 refine cK hA rfl (cJ ka hn1) ka (by omega) h1 (λi j h3 h4=>up1 _ _ (by omega) (by omega) (by omega)) λk hk1 lows highs=>?_
 dsimp only
 simp only[Jr]at lows highs ⊢
 simp only[p9,ID,if_false,JK,JX]at lows highs
 by_cases c1:n1-k=0
 ·rw[if_pos (beq_iff_eq.mpr c1)]
  refine wpS_pure (h _ hp rfl rfl λi j hij hj=>?_)
  show κ.kle (KK κ a i) (KK κ a j)
  rcases IV j n1 with d|d
  ·exact up1 i j (IE i) hij (by omega)
  ·rcases IV i n1 with e|e
   ·exact KeyOrd.kle_trans (lows i (by omega)) (se n1 j (Iu _) d (by omega))
   ·exact se i j e hij (by omega)
 rw[if_neg λq=>c1 (beq_iff_eq.mp q)]
 have e1:k+(n1-k)-1=n1-1:=by omega
 rw[e1]
 have hn0:n1-1<a.size:=by omega
 apply wpS_bind;refine bY hn0 ?_
 apply wpS_bind
 refine cK hA rfl (cJ ka hn0) ka (by omega) (by omega) (λi j h3 h4=>se _ _ (by omega) (by omega) (by omega)) λm hm yH qa=>?_
 dsimp only
 simp only[p9,if_true]at yH qa
 by_cases c2:m=0
 ·rw[if_pos (beq_iff_eq.mpr c2)]
  refine wpS_pure (h _ hp rfl rfl λi j hij hj=>?_)
  show κ.kle (KK κ a i) (KK κ a j)
  rcases IV j n1 with d|d
  ·exact up1 i j (IE i) hij (by omega)
  ·rcases IV i n1 with e|e
   ·have q:=qa (j-n1) (by omega) (by omega)
    rw[Jq d]at q
    exact KeyOrd.kle_trans (up1 i (n1-1) (IE i) (by omega) (by omega)) q
   ·exact se i j e hij (by omega)
 rw[if_neg λq=>c2 (beq_iff_eq.mp q)]
 have sX:(a.extract k n1).size=n1-k:=nj (by omega)
 have sY:(a.extract n1 (n1+m)).size=m:=(nj (by omega)).trans (by omega)
 have uX:SortedToK κ (a.extract k n1) (a.extract k n1).size:=λi j h3 h4=>by
  rw[sX]at h4
  rw[iw (by omega) (by omega),iw (by omega) (by omega)]
  exact up1 _ _ (by omega) (by omega) (by omega)
 have uY:SortedToK κ (a.extract n1 (n1+m)) (a.extract n1 (n1+m)).size:=λi j h3 h4=>by
  rw[sY]at h4
  rw[iw (by omega) (by omega),iw (by omega) (by omega)]
  exact se _ _ (by omega) (by omega) (by omega)
 have fst:κ.kle (KK κ (a.extract n1 (n1+m)) 0) (KK κ (a.extract k n1) 0):=by
  rw[iw (by omega) (by omega),iw (by omega) (by omega)]
  exact KeyOrd.kle_of_klt (highs k (Iu k) (by omega))
 have lst:κ.kle (KK κ (a.extract n1 (n1+m)) ((a.extract n1 (n1+m)).size-1)) (KK κ (a.extract k n1) ((a.extract k n1).size-1)):=by
  rw[sX,sY,iw (by omega) (by omega),iw (by omega) (by omega),show k+(n1-k-1)=n1-1 by omega]
  exact KeyOrd.kle_of_klt (yH (m-1) (by omega))
 have fin:∀(r:Array Keyed) (v:SortSt),ig (SortSt.mk' kk a #[(0,n1+n2,p)] g none) v->pJ κ (a.extract k n1) (a.extract n1 (n1+m)) r->R true (setArr v (r.toList.zipIdx.foldl (λa (q:Keyed ×Nat)=>a.setIfInBounds (k+q.2) q.1) (arrOf v))):=by
  rintro r v ⟨g',rfl⟩ mg
  have ln:r.toList.length=n1-k+m:=by rw[mg.pm.length_eq,IX,Array.length_toList,Array.length_toList,sX,sY]
  have e:=qW k r.toList 0 a (by omega)
  rw[Nat.add_zero,ln]at e
  have e2:k+(n1-k+m)=n1+m:=by omega
  rw[e2]at e
  have eT:a.toList.take k=(a.extract 0 k).toList:=by simp
  have eD:a.toList.drop (n1+m)=(a.extract (n1+m) a.size).toList:=by
   rw[Array.toList_extract,J3,JM (by simp)]
  rw[eT,eD]at e
  have F5:(r.toList.zipIdx.foldl (λa (q:Keyed ×Nat)=>a.setIfInBounds (k+q.2) q.1) a).Perm z:=by
   refine(Array.perm_iff_toList_perm.mpr ?_).trans hp
   refine(List.Perm.of_eq e).trans ?_
   refine((List.Perm.append_left _ mg.pm).append_right _).trans (List.Perm.of_eq ?_)
   rw[<-Ja,kq a (IE k) hk1,kq a (IE n1) (Jh n1 m),kq a (IE _) (by omega),eE]
  refine h _ F5 rfl rfl ?_
  ·have pw:(r.toList.zipIdx.foldl (λa (q:Keyed ×Nat)=>a.setIfInBounds (k+q.2) q.1) a).toList.Pairwise (qU κ):=by
    rw[e]
    have inR:∀q∈r.toList,∃n,k<=n/\n<n1+m/\tu κ q=KK κ a n:=λq hq=>by
     rcases IK.mp (mg.pm.mem_iff.mp hq)with hq|hq
     ·obtain⟨n,f1,f2,f3⟩:=eB (κ:=κ) (by omega) hq
      exact⟨n,f1,by omega,f3⟩
     ·obtain⟨n,f1,f2,f3⟩:=eB (κ:=κ) (by omega) hq
      exact⟨n,by omega,f2,f3⟩
    have inD:∀q∈(a.extract (n1+m) a.size).toList,∃n,n1+m<=n/\n<a.size/\tu κ q=KK κ a n:=λq hq=>eB (Iu _) hq
    have F6:∀q∈(a.extract 0 k).toList,∃n,0<=n/\n<k/\tu κ q=KK κ a n:=λq hq=>eB (by omega) hq
    have TR:∀i j,i<k->k<=j->j<a.size->κ.kle (KK κ a i) (KK κ a j):=λi j f1 f2 f3=>by
     rcases IV j n1 with d|d
     ·exact up1 i j (IE i) (by omega) (by omega)
     ·exact KeyOrd.kle_trans (lows i f1) (se n1 j (Iu _) d (by omega))
    rw[JE,JE]
    refine⟨⟨u0 (by omega) λi j f1 f2 f3=>up1 i j f1 f2 (by omega),mg.so,λp hp q hq=>?_⟩,u0 (Iu _) λi j f1 f2 f3=>se i j (by omega) f2 (by omega),λp hp q hq=>?_⟩
    ·obtain⟨i,_,f2,f3⟩:=F6 p hp
     obtain⟨j,g1,g2,g3⟩:=inR q hq
     unfold qU;rw[f3,g3];exact TR i j f2 g1 (by omega)
    ·obtain⟨j,g1,g2,g3⟩:=inD q hq
     unfold qU;rw[g3]
     rcases IK.mp hp with hp|hp
     ·obtain⟨i,_,f2,f3⟩:=F6 p hp
      rw[f3];exact TR i j f2 (by omega) g2
     ·obtain⟨i,f1,f2,f3⟩:=inR p hp
      rw[f3]
      rcases IV i n1 with d|d
      ·have q:=qa (j-n1) (by omega) (by omega)
       rw[Jq (by omega)]at q
       exact KeyOrd.kle_trans (up1 i (n1-1) (IE i) (by omega) (by omega)) q
      ·exact se i j d (by omega) (by omega)
   have hz:=F5.size_eq
   have:=pw_up pw
   rw[hz]at this
   exact this
 split
 ·apply wpS_bind
  refine Au hA rfl (jM ka _ _) (jM ka _ _) uX uY (by omega) (by omega) fst lst λr v sv mg=>?_
  have q:=fin r v sv mg
  apply wpS_bind;apply wpS_modify
  apply wpS_bind;apply wpS_get
  obtain⟨g',rfl⟩:=sv
  exact wpS_pure q
 ·apply wpS_bind
  refine Aw hA rfl (jM ka _ _) (jM ka _ _) uX uY (by omega) (by omega) fst lst λr v sv mg=>?_
  have q:=fin r v sv mg
  apply wpS_bind;apply wpS_modify
  apply wpS_bind;apply wpS_get
  obtain⟨g',rfl⟩:=sv
  exact wpS_pure q
end
end L3
namespace L3
open PySem PySem.Spec PyProof.Rows
section
variable{P:Program}{w:World}{A:Around}{E:Value->Shared->Prop}{s:Shared}{κ:KeyKind}{kd:SortKind}{z:Array Keyed}{t:SortSt}
variable{u:SortSt}{l:Nat}
structure CK(κ:KeyKind)(kd:SortKind)(z:Array Keyed)(n1:Nat)(u:SortSt):Prop where
 pm:(arrOf u).Perm z
 kd:kindOf u=kd
 ok:failedOf u=none
 pd:pendingOf u= #[(0,n1,0)]
 up:Up κ (arrOf u) 0 n1
 le:n1<=z.size
 gt:0<n1
 hf:z.size-n1<=z.size / 2+z.size % 2
structure xD(κ:KeyKind)(kd:SortKind)(z:Array Keyed)(n1 n2 p:Nat)(u:SortSt):Prop where
 pm:(arrOf u).Perm z
 kd:kindOf u=kd
 ok:failedOf u=none
 pd:pendingOf u= #[(0,n1,p),(n1,n2,0)]
 up:Up κ (arrOf u) 0 n1
 se:Up κ (arrOf u) n1 n2
 al:n1+n2=z.size
 g1:0<n1
 g2:0<n2
theorem u5{n1 i pw:Nat}:((#[(0,n1,0)]:Array (Nat ×Nat ×Nat)).modify ((#[(0,n1,0)]:Array (Nat ×Nat ×Nat)).size-1) λx=>(x.fst,x.2.fst,pw)).push (n1,i,0)= #[(0,n1,pw),(n1,i,0)]:=by
 apply Array.toList_inj.mp
 simp
theorem u6(hA:Ask P w A s κ kd)(hk:KeysOf κ z)(m:Mid kd z t)(h2:64<=z.size)(sH:z.size<128){R:Unit->SortSt->Prop}
 (h:∀u,(arrOf u).Perm z->failedOf u=none->SortedToK κ (arrOf u) z.size->R () u):wpS (model P w) A E s sortRuns' R t:=by
 have low:minRun' z.size z.size 0=z.size / 2+z.size % 2:=by
  obtain⟨k,hk⟩:∃k,z.size=k+2:=⟨z.size-2,by omega⟩
  have:minRun' (k+2) z.size 0=z.size / 2+max 0 (z.size % 2):=by rw[minRun'_succ,if_neg (by omega),minRun'_succ,if_pos (by omega)]
  rw[<-hk]at this
  omega
 rw[sortRuns'_eq]
 apply wpS_bind;apply wpS_get
 dsimp only
 simp only[m.sz,low]
 generalize hmr:z.size / 2+z.size % 2=mr
 apply wpS_bind
 refine wpS_mono (wpS_forRange (I:=λx b u=>(x=0/\b=(none,0)/\Mid kd z u)\/(x=1/\∃n1,b=(none,n1)/\CK κ kd z n1 u)\/(2<=x/\b=(none,z.size)/\∃n1 n2 p,xD κ kd z n1 n2 p u))
  (Q:=λb u=>b=(none,z.size)/\(CK κ kd z z.size u\/∃n1 n2 p,xD κ kd z n1 n2 p u)) (λx b u _ hx hI=>?_) (λb u hI=>?_) (.inl ⟨rfl,rfl,m⟩)) λb u hI=>?_
 ·obtain⟨rfl,rfl,mu⟩|⟨rfl,n1,rfl,r1⟩|⟨iu,rfl,n1,n2,p,r2⟩:=hI
  ·dsimp only
   rw[if_neg (by omega:¬(0>=z.size))]
   have mo:Mo κ kd z 0 u u:=⟨mu.pm,mu.kd,mu.ok,rfl,λ_ _=>rfl⟩
   apply wpS_bind
   refine kB hA hk mo (by omega) (by omega) λi v mv h3 h4 up=>?_
   dsimp only
   by_cases d:i<mr
   ·rw[if_pos d]
    apply wpS_bind
    refine wpS_lift (wpAny_rule ⟨rfl,?_⟩)
    apply wpS_bind
    have em:min (z.size-0) mr=mr:=by omega
    rw[em]
    refine oW hA hk mv (by omega) (by omega) h3 up λv' qS up'=>?_
    rw[if_neg (by decide:¬((!true)=true))]
    apply wpS_bind;apply wpS_get
    have e:(pendingOf v').back?=none:=by rw[qS.pd,mu.no];rfl
    rw[e]
    dsimp only
    apply wpS_bind
    apply wpS_modify
    refine wpS_pure (.inr (.inl ⟨rfl,mr,by rw[Jr],⟨qS.pm,qS.kd,qS.ok,?_,up',by omega,by omega,by omega⟩⟩))
    show(pendingOf v').push (0,mr,0)=_
    rw[qS.pd,mu.no];rfl
   ·rw[if_neg d]
    apply wpS_bind;apply wpS_get
    have e:(pendingOf v).back?=none:=by rw[mv.pd,mu.no];rfl
    rw[e]
    dsimp only
    apply wpS_bind
    apply wpS_modify
    refine wpS_pure (.inr (.inl ⟨rfl,i,by rw[Jr],⟨mv.pm,mv.kd,mv.ok,?_,up,by omega,by omega,by omega⟩⟩))
    show(pendingOf v).push (0,i,0)=_
    rw[mv.pd,mu.no];rfl
  ·dsimp only
   have hle:=r1.le
   have hf:=r1.hf
   have hgt:=r1.gt
   by_cases c:n1>=z.size
   ·rw[if_pos c]
    obtain rfl:n1=z.size:=by omega
    exact wpS_pure ⟨rfl,.inl r1⟩
   rw[if_neg c]
   have mo:Mo κ kd z n1 u u:=⟨r1.pm,r1.kd,r1.ok,rfl,λ_ _=>rfl⟩
   have fin:∀v,Mo κ kd z n1 u v->Up κ (arrOf v) n1 (z.size-n1)->∀pw,xD κ kd z n1 (z.size-n1) pw (setPending v #[(0,n1,pw),(n1,z.size-n1,0)]):=λv mv up pw=>
    ⟨mv.pm,mv.kd,mv.ok,rfl,λi j f1 f2 f3=>by
     show κ.kle (KK κ (arrOf v) i) (KK κ (arrOf v) j)
     rw[mv.lw i (by omega),mv.lw j (by omega)];exact r1.up i j f1 f2 f3,up,by omega,hgt,by omega⟩
   apply wpS_bind
   refine kB hA hk mo (by omega) (by omega) λi v mv h3 h4 up=>?_
   dsimp only
   by_cases d:i<mr
   case' pos=>
    rw[if_pos d]
    apply wpS_bind
    refine wpS_lift (wpAny_rule ⟨rfl,?_⟩)
    apply wpS_bind
    have em:min (z.size-n1) mr=z.size-n1:=by omega
    rw[em]
    refine oW hA hk mv (by omega) (by omega) h3 up λv' qS up'=>?_
    rw[if_neg (by decide:¬((!true)=true))]
    clear up mv
    have mv:=qS
    have up:=up'
    generalize hni:z.size-n1=i' at up ⊢
   case' neg=>
    rw[if_neg d]
    generalize hi':i=i' at up ⊢
    have hni:z.size-n1=i':=by omega
   all_goals
    apply wpS_bind;apply wpS_get
    have EW:=mv.pd.trans r1.pd
    have e:Array.back? _=some (0,n1,0):=(congrArg Array.back? EW).trans rfl
    rw[e]
    dsimp only
    apply wpS_bind
    refine wpS_mono (wpS_forRange (I:=λ_ b v'=>b=(none,())/\v'=_) (Q:=λb v'=>b=(none,())/\v'=_) (λx b v' _ _ hI=>?_) (λ_ _ hI=>hI) ⟨rfl,rfl⟩) λb v' hI=>?_
    ·obtain⟨rfl,rfl⟩:=hI
     apply wpS_bind;apply wpS_get
     rw[if_neg (by rw[EW];show¬1>1;omega)]
     exact wpS_pure ⟨rfl,rfl⟩
    obtain⟨rfl,rfl⟩:=hI
    dsimp only
    generalize power' z.size _ _ z.size=pw
    apply wpS_bind
    apply wpS_modify
    apply wpS_bind
    apply wpS_modify
    refine wpS_pure (.inr (.inr ⟨by omega,by rw[<-hni,Jq hle],n1,z.size-n1,pw,?_⟩))
    have q:=fin _ mv (by rw[hni];exact up) pw
    show xD κ kd z n1 (z.size-n1) pw (setPending v' (((pendingOf v').modify ((pendingOf v').size-1) λx=>(x.fst,x.2.fst,pw)).push (n1,i',0)))
    rw[EW,u5,<-hni]
    exact q
  ·dsimp only
   rw[if_pos (Iu z.size)]
   exact wpS_pure ⟨rfl,.inr ⟨n1,n2,p,r2⟩⟩
 ·obtain⟨q,_⟩|⟨q,_⟩|⟨iu,rfl,n1,n2,p,r2⟩:=hI
  ·omega
  ·omega
  ·exact⟨rfl,.inr ⟨n1,n2,p,r2⟩⟩
 obtain⟨rfl,hr⟩:=hI
 dsimp only
 apply wpS_bind
 refine wpS_mono (wpS_forRange (I:=λx b v=>b=(none,())/\(x=0/\v=u\/(arrOf v).Perm z/\failedOf v=none/\(pendingOf v).size<=1/\SortedToK κ (arrOf v) z.size)) (Q:=λb v=>b=(none,())/\(arrOf v).Perm z/\failedOf v=none/\SortedToK κ (arrOf v) z.size) (λx b v _ hx hI=>?_) (λb v hI=>?_) ⟨rfl,.inl ⟨rfl,rfl⟩⟩) λb v hI=>?_
 ·obtain⟨rfl,⟨rfl,rfl⟩|⟨q1,q2,q3,q4⟩⟩:=hI
  ·apply wpS_bind;apply wpS_get
   obtain r1|⟨n1,n2,p,r2⟩:=hr
   ·rw[if_pos (by rw[r1.pd];exact Iu 1)]
    exact wpS_pure ⟨rfl,r1.pm,r1.ok,λi j f1 f2=>r1.up i j (IE i) f1 (by omega)⟩
   ·rw[r2.pd]
    rw[if_neg (by show¬2<=1;omega)]
    apply wpS_bind
    refine Az hA hk r2.pm r2.kd r2.ok r2.pd r2.al r2.g1 r2.g2 r2.up r2.se λv' e1 e2 e3 e4=>?_
    rw[if_neg (by decide:¬((!true)=true))]
    exact wpS_pure ⟨rfl,.inr ⟨e1,e2,by rw[e3];exact Iu 1,e4⟩⟩
  ·apply wpS_bind;apply wpS_get
   rw[if_pos q3]
   exact wpS_pure ⟨rfl,q1,q2,q4⟩
 ·obtain⟨rfl,⟨q,_⟩|⟨q1,q2,q3,q4⟩⟩:=hI
  ·omega
  ·exact⟨rfl,q1,q2,q4⟩
 obtain⟨rfl,q1,q2,q3⟩:=hI
 exact wpS_pure (h v q1 q2 q3)
end
end L3
namespace L3
open PySem PySem.Spec PyProof.Rows L2
def kZ(p q:Int ×List Pl):Bool:=if p.1=q.1 then dW p.2 q.2 else decide (p.1<q.1)
theorem qb(p:Int ×List Pl):kZ p p=false:=by unfold kZ;rw[if_pos rfl];exact dY _
theorem nk(p q:Int ×List Pl):kZ p q=true\/p=q\/kZ q p=true:=by
 unfold kZ
 by_cases e:p.1=q.1
 ·rw[if_pos e,if_pos e.symm]
  rcases gE p.2 q.2 with h|h|h
  ·exact .inl h
  ·exact .inr (.inl (Prod.ext e h))
  ·exact .inr (.inr h)
 ·rw[if_neg e,if_neg (Ne.symm e)]
  rcases Int.lt_or_gt_of_ne e with h|h
  ·exact .inl (decide_eq_true h)
  ·exact .inr (.inr (decide_eq_true h))
theorem l9{p q r:Int ×List Pl}(h1:kZ p q=true)(h2:kZ q r=true):kZ p r=true:=by
 unfold kZ at *
 by_cases e1:p.1=q.1
 ·rw[if_pos e1]at h1
  by_cases e2:q.1=r.1
  ·rw[if_pos e2]at h2;rw[if_pos (e1.trans e2)];exact fJ _ _ _ h1 h2
  ·rw[if_neg e2]at h2;rw[if_neg (by rw[e1];exact e2),e1];exact h2
 ·rw[if_neg e1]at h1
  have b1:=of_decide_eq_true h1
  by_cases e2:q.1=r.1
  ·rw[if_neg (by rw[<-e2];exact e1),<-e2];exact h1
  ·rw[if_neg e2]at h2
   have b2:=of_decide_eq_true h2
   rw[if_neg (by omega)]
   exact decide_eq_true (by omega)
def sI(k:Int ×List Pl):D:= .tup [.int k.1,tD k.2]
theorem iK{ps:List Pl}:plain 2 (tD ps)=true:=by
 unfold tD
 show(ps.map Pl.d).all (plain 1)=true
 rw[Kd]
 exact IM.mpr λp _=>rfl
theorem mj(k:Int ×List Pl):plain 3 (sI k)=true:=by
 show([D.int k.1,tD k.2]).all (plain 2)=true
 simp only[JG,List.all_nil,Ko,iK]
 rfl
theorem oX:∀{ps qs:List Pl},ps.map Pl.d=qs.map Pl.d->ps=qs
 |[],[],_=>rfl
 |p::ps,q::qs,h=>by
  rw[IP,IP]at h
  obtain⟨h1,h2⟩:=List.cons.inj h
  have e:p=q:=by
   cases p;cases q
   unfold Pl.d at h1
   simp only[D.tup.injEq,List.cons.injEq,D.int.injEq,and_true]at h1
   rw[h1.1,h1.2]
  rw[e,oX h2]
theorem xE{k l:Int ×List Pl}(h:sI k=sI l):k=l:=by
 unfold sI tD at h
 simp only[D.tup.injEq,List.cons.injEq,D.int.injEq,and_true]at h
 exact Prod.ext h.1 (oX h.2)
theorem u7:∀(s t:List Pl),gc (tD s) (tD t)=decide (s=t):=by
 intro s t
 unfold tD
 rw[gU]
 induction s generalizing t with
 |nil=>cases t<;>rfl
 |cons p s ih=>
  cases t with
  |nil=>rfl
  |cons q t=>
   rw[IP,IP,fh,ih t,j5]
   by_cases e:p=q
   ·subst e;simp
   ·simp[e]
def oY(K:PySem.W.Frag)(H:Hp)(v:Value)(k:Int ×List Pl):Prop:=k.2.length=2/\∃x,Dat K H (sI k) x/\RelV x v
theorem oY.inj{K:PySem.W.Frag}{H:Hp}{v:Value}{k l:Int ×List Pl}(a:oY K H v k)(b:oY K H v l):k=l:=by
 obtain⟨_,x,d1,r1⟩:=a
 obtain⟨_,y,d2,r2⟩:=b
 obtain⟨p,xs,rfl,h1,_⟩:=aP.mp d1
 obtain⟨q,ys,rfl,h2,_⟩:=aP.mp d2
 obtain rfl:v=Value.ref p:=r1
 cases(show Value.ref p=Value.ref q from r2)
 exact xE (Dat.inj 3 _ _ _ (mj k) (mj l) d1 d2)
open Classical in
noncomputable def yI(K:PySem.W.Frag)(H:Hp):KeyKind where
 α:=Int ×List Pl
 blt p q:=kZ p q
 irrefl p:=qb p
 trans p q r a b:=l9 a b
 negTrans p q r a:=by
  rcases nk p q with c|c|c
  ·exact .inl c
  ·subst c;exact .inr a
  ·exact .inr (l9 c a)
 total p q a b:=by
  rcases nk p q with c|c|c
  ·rw[a]at c;cases c
  ·exact c
  ·rw[b]at c;cases c
 keyOf v:=if e:∃p,oY K H v p then some e.choose else none
 dflt:=(0,[])
open Classical in
theorem qX{K:PySem.W.Frag}{H:Hp}{v:Value}{p:Int ×List Pl}(a:oY K H v p):(yI K H).keyOf v=some p:=by
 have e:∃p,oY K H v p:=⟨p,a⟩
 show(if e:∃p,oY K H v p then some e.choose else none)=some p
 rw[dif_pos e,oY.inj e.choose_spec a]
open Classical in
theorem u9{K:PySem.W.Frag}{H:Hp}{v:Value}{p:Int ×List Pl}(a:(yI K H).keyOf v=some p):oY K H v p:=by
 have a:(if e:∃p,oY K H v p then some e.choose else none)=some p:=a
 by_cases e:∃p,oY K H v p
 ·rw[dif_pos e]at a
  have:=e.choose_spec
  rwa [Option.some.inj a]at this
 ·rw[dif_neg e]at a;cases a
section
variable{P:Program}{w:World}{A:Around}{E:Value->Shared->Prop}{s:Shared}{K:PySem.W.Frag}{H:Hp}
theorem oY.parts{v:Value}{k:Int ×List Pl}(a:oY K H v k)(ok:d9 P w H s.heap):∃(p:Addr) (o:Obj) (t:Tok) (b:Value) (y:V) (n:Nat),v= .ref p/\s.heap.get? p=some o/\o.cls= .type "tuple"/\o.data= .seq #[.int k.1 t,b] n/\Dat K H (tD k.2) y/\RelV y b:=by
 obtain⟨_,x,d,r⟩:=a
 obtain⟨p,xs,rfl,h1,hx⟩:=aP.mp d
 obtain rfl:v=Value.ref p:=r
 obtain⟨its,rv,⟨o,e1,e2,n,e3⟩,_⟩:=cj ok h1
 obtain⟨x1,x2,rfl,d1,d2⟩:=j0 hx
 obtain⟨u1,u2,rfl,r1,r2⟩:=vals2 rv
 obtain rfl:=aJ.mp d1
 obtain⟨t,rfl⟩:=r1
 exact⟨p,o,t,u2,x2,n,rfl,e1,e2,e3,d2,r2⟩
theorem CL{x y:Value}{p q:Int ×List Pl}{R:Bool->Shared->Prop}(hu:A.units+32<cLine)(ok:d9 P w H s.heap)(kx:oY K H x p)(ky:oY K H y q)(hR:R (kZ p q) s):wpAny (model P w) A (keyLt' (tuples' true) x y) R E s:=by
 obtain⟨a,o,t,b,v,n,rfl,h1,h2,h3,h4,h5⟩:=kx.parts ok
 obtain⟨a',o',t',b',v',n',rfl,k1,k2,k3,k4,k5⟩:=ky.parts ok
 rw[sj]
 apply wpAny_bind;apply listItems_at h1 h3
 apply wpAny_bind;apply listItems_at k1 k3
 simp only[Jl,JJ,KH,List.zipIdx_nil,KS,List.forIn_nil,bind_assoc]
 apply wpAny_bind
 apply wpAny_eqBool_int
 by_cases ex:p.1=q.1
 ·have e:(p.1==q.1)=true:=beq_iff_eq.mpr ex
  rw[e]
  simp only[J2,ID,if_false,pure_bind,bind_assoc]
  apply wpAny_bind
  refine pU (K:=K) ok 2 A _ _ _ _ _ _ (by omega) iK iK h4 k4 h5 k5 _ _ _ _ ?_
  rw[u7]
  unfold kZ at hR
  rw[if_pos ex]at hR
  by_cases ey:p.2=q.2
  ·rw[decide_eq_true ey]
   simp only[J2,ID,if_false,pure_bind]
   rw[ey,dY]at hR
   exact wpAny_pure hR
  ·rw[decide_eq_false ey]
   simp only[K1,if_true,bind_assoc,pure_bind]
   apply wpAny_bind
   rw[oneLt'_eq]
   show wpAny _ _ (if false=true then _ else _) _ _ _
   rw[if_neg Iv]
   apply wpAny_bind
   refine l6 (iJ ok kx.1 h4 h5) (iJ ok ky.1 k4 k5) (by omega) ?_
   exact wpAny_truthy_bool (wpAny_pure hR)
 ·have e:(p.1==q.1)=false:=beq_eq_false_iff_ne.mpr ex
  rw[e]
  simp only[K1,if_true,bind_assoc,pure_bind]
  apply wpAny_bind
  apply pZ
  unfold kZ at hR
  rw[if_neg ex]at hR
  exact wpAny_pure hR
theorem AA{t:Shared}(hu:A.units+32<cLine)(ok:d9 P w H t.heap):Ask P w A t (yI K H) (tuples' true):=
 ⟨λE x y p q R kx ky hR=>CL hu ok (u9 kx) (u9 ky) hR⟩
end
section
variable{P:Program}{w:World}{A:Around}{E:Value->Shared->Prop}{s:Shared}{K:PySem.W.Frag}{H:Hp}
theorem xF{vs:List Value}(h2:1<=vs.length)(hv:∀v∈vs,∃(a:Addr) (o:Obj) (its:Array Value) (i:Int) (t:Tok) (n:Nat),v= .ref a/\s.heap.get? a=some o/\o.cls= .type "tuple"/\o.data= .seq its n/\its[0]?=some (.int i t)){Q:SortKind->Shared->Prop}(h:Q (tuples' true) s):wpAny (model P w) A (keyKind' vs.toArray) Q E s:=by
 rw[keyKind'_eq,KA]
 simp only[bind_map_left]
 apply wpAny_bind
 refine m7 (λ_ b=>∃i t,b=some (Value.int i t)) vs _ (λv hm Q hQ=>?_) λbs hb=>?_
 ·obtain⟨a,o,its,i,t,n,rfl,k2,k3,k4,k5⟩:=hv v hm
  rw[sr]
  apply wpAny_bind
  refine wpAny_typeOf (T:= "tuple") ⟨o,k2,k3⟩ ?_
  have e:(Value.type "tuple" !=Value.type "tuple")=false:=by decide
  rw[e]
  simp only[ID,if_false,pure_bind]
  apply wpAny_bind;apply listItems_at k2 k4
  exact wpAny_pure (hQ _ ⟨i,t,k5⟩)
 ·have all:∀(vs:List Value) (bs:List (Option Value)),Paired (λ_ b=>∃i t,b=some (Value.int i t)) vs bs->∃us:List Value,bs=us.map some/\us.length=vs.length/\∀u∈us,∃i t,u=Value.int i t:=by
   intro vs
   induction vs with
   |nil=>intro bs q;cases q;exact⟨[],rfl,rfl,λ_ z=>by cases z⟩
   |cons v vs ih=>
    intro bs q
    cases q with
    |cons q1 q2=>
     obtain⟨us,rfl,l,m⟩:=ih _ q2
     obtain⟨i,t,rfl⟩:=q1
     exact⟨.int i t::us,rfl,by simp[l],λu hu=>(IJ.mp hu).elim (λz=>⟨i,t,z⟩) (m u)⟩
  obtain⟨us,rfl,hl,hm⟩:=all vs bs hb
  rw[if_pos (by simp)]
  apply wpAny_bind;apply wpAny_rule
  rw[oneTypeOnly'_eq]
  have ef:(us.map some).toArray.filterMap id=us.toArray:=by simp
  rw[ef,KA]
  simp only[bind_map_left,bind_assoc]
  apply wpAny_bind
  refine m7 (λ_ b=>b=Value.type "int") _ _ (λv hv' Q hQ=>?_) λcs hc=>?_
  ·obtain⟨i,t,rfl⟩:=hm v hv'
   exact wpAny_typeOf (T:= "int") (typeIs_int s i t) (hQ _ rfl)
  ·have all2:∀(us cs:List Value),Paired (λ_ b=>b=Value.type "int") us cs->cs=us.map λ_=>Value.type "int" :=by
    intro us
    induction us with
    |nil=>intro cs q;cases q;rfl
    |cons u us ih=>intro cs q;cases q with|cons q1 q2=>rw[q1,ih _ q2];rfl
   rw[all2 _ _ hc]
   cases us with
   |nil=>simp at hl;omega
   |cons u us=>
    have e0:(List.map (λ_=>Value.type "int") (u::us)).toArray[0]?=some (Value.type "int"):=by simp
    rw[e0]
    have e1:((List.map (λ_=>Value.type "int") (u::us)).toArray.all λx=>x==Value.type "int")=true:=by
     simp only[List.all_toArray,Kd,IM]
     intro _ _;rfl
    simp only[e1,if_true,pure_bind]
    exact wpAny_pure h
theorem xG{κ:KeyKind}{kd:SortKind}{z:Array Keyed}{t:SortSt}(hA:Ask P w A s κ kd)(hk:KeysOf κ z)(m:Mid kd z t)(h2:2<=z.size)(sH:z.size<128){R:Unit->SortSt->Prop}
 (h:∀u,(arrOf u).Perm z->failedOf u=none->SortedToK κ (arrOf u) z.size->R () u):wpS (model P w) A E s sortRuns' R t:=by
 by_cases c:z.size<64
 ·exact wL hA hk m h2 c λu f=>h u f.pm f.ok f.up
 ·exact u6 hA hk m (by omega) sH h
theorem xH{a kS:Addr}{vs ks:List Value}{e1 ek:Nat}{κ:KeyKind}{kd:SortKind}{R:Fin->Shared->Prop}(hl:ks.length=vs.length)(sH:vs.length<128)(ha:s.heap.get? a=some (seqObj "list" #[] e1))(hs:s.heap.get? kS=some (seqObj "list" ks.toArray ek))(hne:a≠kS)
 (hk:KeysOf κ (ks.toArray.zip vs.toArray))(hd:2<=vs.length->∀(Q:SortKind->Shared->Prop),Q kd s->wpAny (model P w) A (keyKind' ks.toArray) Q E s)(hA:Ask P w A s κ kd)
 (h:∀(y:Array Keyed) (h':Heap) (c:Nat),y.Perm (ks.toArray.zip vs.toArray)->SortedToK κ y y.size->(∀b o,b≠a->b≠kS->s.heap.get? b=some o->h'.get? b=some o)->(∃o,h'.get? kS=some o)->h'.get? a=some (seqObj "list" (y.map (·.2)) c)->R (.done (.ret .none)) {s with heap:=h'}) :
 wpAny (model P w) A (ksk_end a false vs.toArray e1 (.ref kS) ks.toArray) R E s:=by
 have zl:(ks.toArray.zip vs.toArray).size=vs.length:=by simp[hl]
 have fin:∀st:SortSt,(arrOf st).Perm (ks.toArray.zip vs.toArray)->failedOf st=none->SortedToK κ (arrOf st) (ks.toArray.zip vs.toArray).size->wpAny (model P w) A (ksk_tail a false e1 (.ref kS) st) R E s:=by
  intro st p1 p2 p3
  unfold ksk_tail
  dsimp only
  have zs:((arrOf st).map (·.2)).size=vs.length:=by rw[Array.size_map,p1.size_eq,zl]
  refine wpAny_bind (listUpdate_at hs rfl ?_ (by rw[IA,sizeLine_eq];omega) (IE _))
  refine wpAny_bind (wpAny_letGo ?_)
  have s1:=Heap.SameBut.update s.heap kS (Obj.mapSeq λ_=>(#[]:Array Value))
  have ha1:(s.heap.update kS (Obj.mapSeq λ_=>(#[]:Array Value))).get? a=some (seqObj "list" #[] e1):=(s1.2 a hne).trans ha
  refine wpAny_bind (seqEpoch_at ha1 rfl ?_)
  refine wpAny_bind (listUpdate_at ha1 rfl ?_ (IE _) (by show((arrOf st).map (·.2)).size<=_;rw[zs,sizeLine_eq];omega))
  rw[p2]
  simp only[bne_self_eq_false,ID,if_false]
  obtain⟨c,hc⟩:∃c,((s.heap.update kS (Obj.mapSeq λ_=>(#[]:Array Value))).update a (Obj.mapSeq λ_=>(arrOf st).map (·.2))).get? a=some (seqObj "list" ((arrOf st).map (·.2)) c):=⟨_,get?_update_seq ha1 λ_=>(arrOf st).map (·.2)⟩
  have s2:=Heap.SameBut.update (s.heap.update kS (Obj.mapSeq λ_=>(#[]:Array Value))) a (Obj.mapSeq λ_=>(arrOf st).map (·.2))
  obtain⟨ck,hck⟩:∃c,(s.heap.update kS (Obj.mapSeq λ_=>(#[]:Array Value))).get? kS=some (seqObj "list" #[] c):=⟨_,get?_update_seq hs λ_=> #[]⟩
  refine wpAny_pure (h (arrOf st) _ c p1 ?_ (λb o b1 b2 q=>?_) ⟨_,(s2.2 kS (Ne.symm hne)).trans hck⟩ hc)
  ·rw[p1.size_eq];exact p3
  ·rw[s2.2 b b1,s1.2 b b2];exact q
 unfold ksk_end
 dsimp only
 simp only[ID,if_false]
 have zv:vs.toArray.size=vs.length:=by simp
 by_cases c:vs.toArray.size<2
 ·rw[if_pos c,if_pos c]
  refine wpAny_bind (wpAny_pure ?_)
  rw[StateT.run_pure]
  refine wpAny_bind (wpAny_pure ?_)
  dsimp only
  refine fin _ (Array.Perm.refl _) rfl λi j hij hj=>?_
  obtain rfl:i=j:=by rw[zl]at hj;omega
  exact KeyOrd.kle_refl _
 ·rw[if_neg c,if_neg c]
  apply wpAny_bind
  refine hd (by omega) _ ?_
  apply wpAny_bind
  refine wpAny_mono (xG (z:=ks.toArray.zip vs.toArray) (t:=SortSt.mk' kd (ks.toArray.zip vs.toArray) #[] 7 none) (R:=λ_ u=>(arrOf u).Perm (ks.toArray.zip vs.toArray)/\failedOf u=none/\SortedToK κ (arrOf u) (ks.toArray.zip vs.toArray).size) hA hk ⟨Array.Perm.refl _,rfl,rfl,rfl⟩ (by omega) (by omega) λu q1 q2 q3=>⟨q1,q2,q3⟩) (λr s' q=>?_) λ_ _ q=>q
  obtain⟨⟨⟩,u⟩:=r
  obtain⟨rfl,q1,q2,q3⟩:=q
  exact fin u q1 q2 q3
end
end L3
namespace L3
open PySem PySem.Spec PyProof.Rows L2
section
variable{X:Cx}{pins:List (Addr ×Obj)}{σ:St}{H H':Hp}{s s':Shared}{M:Mp}
theorem nt{b:Addr}{o:Obj}(I:Inv X pins σ H s)(f:cU X pins H b)(e:s.heap.get? b=some o)(u:Un (frs X.stack) [] H H' s.heap s'.heap):s'.heap.get? b=some o/\cU X pins H' b:=by
 have nf:b∉frs X.stack:=λz=>by
  rcases IJ.mp (I.mL b z)with q|q
  ·exact f.2.1 q
  ·exact f.2.2.1 q
 exact⟨u.keep b o e f.1 nf (by simp),u.free b o e f.1 (by simp),f.2⟩
theorem j9.mono{cd:Value}{q:Str}(h:j9 H cd q)(e:Ext H H'):j9 H' cd q:=
 let ⟨c,o,u,vs,tk,e1,e2,e3⟩:=h
 ⟨c,o,u,vs,tk,e1,e.fZ _ _ _ e2,e3⟩
theorem _root_.L2.Inv.two{a b:Addr}{h':Heap}(I:Inv X pins σ H s)(fa:cU X pins H a)(fb:cU X pins H b)(k:∀c o,c≠a->c≠b->s.heap.get? c=some o->h'.get? c=some o):Inv X pins σ H {s with heap:=h'}:=by
 have na:∀c u,H c=some u->c≠a:=λc u e z=>by rw[z,fa.1]at e;cases e
 have nb:∀c u,H c=some u->c≠b:=λc u e z=>by rw[z,fb.1]at e;cases e
 refine I.step (g':=s.gens) (d':=s.drawn) (t':=s.toks) (ch:=[a,b]) (λc hc=>?_) (λc o _ _ hc e _=>k c o (λz=>hc (by simp[z])) (λz=>hc (by simp[z])) e) (λc o _ _ hc e _=>⟨o.slots,k c o (λz=>hc (by simp[z])) (λz=>hc (by simp[z])) e⟩) (λ_ _ _ _ n=>n)
  (λc o hc e=>⟨o,k c o (λz=>hc (by simp[z])) (λz=>hc (by simp[z])) e⟩) (λ_ _ e=>e) (λ_ _ _ e=>e) (λc ps e=>⟨#[],by rw[e];simp⟩) (λm hm=>?_) (λc u e=>?_) I.bare
 ·rcases IJ.mp hc with rfl|hc
  ·exact⟨fa.2.2.2.1,fa.2.1,fa.2.2.2.2.1,fa.2.2.2.2.2⟩
  ·obtain rfl:c=b:=by simpa using hc
   exact⟨fb.2.2.2.1,fb.2.1,fb.2.2.2.2.1,fb.2.2.2.2.2⟩
 ·obtain⟨o,es,ep,ho,r⟩:=hm
  exact⟨o,es,ep,k _ o (Ne.symm fa.2.1) (Ne.symm fb.2.1) ho,r⟩
 ·refine(I.hok c u e).stay (λd v hd q=>k d v ?_ ?_ q) (λ_ q=>q) λ_ _ q=>q
  ·rcases hd with rfl|z
   ·exact na _ _ e
   ·exact na _ _ z
  ·rcases hd with rfl|z
   ·exact nb _ _ e
   ·exact nb _ _ z
structure yJ(X:Cx)(pins:List (Addr ×Obj))(σ:St)(M:Mp)(H:Hp)(dA kS f:Addr)(oD oF:Obj)(ds:List L3.D)(s:Shared):Prop where
 ex:∃(H1:Hp) (ks:List Value) (e:Nat) (kvs:List V),Inv X pins σ H1 s/\aV X.K H1 M/\Fr M H M H1/\s.heap.get? dA=some oD/\s.heap.get? f=some oF/\s.heap.get? kS=some (seqObj "list" ks.toArray e)/\cU X pins H1 dA/\cU X pins H1 f/\cU X pins H1 kS/\Vals kvs ks/\aB X.K H1 ds kvs
theorem vc{q:Str}{args:Arguments}{body:Expr}{sc:Scope}{pm cd:Value}{f:Addr}{x:Str}{k:Nat}{A:Around}(S:aS [x] [x] sc)(hr:bV (k+1) A)(e0:mR X.prog X.w X.K X.mg X.base A X.stack s H)
 (ho:s.heap.get? f=some {cls:= .type "function",data:= .func (gC q args body sc pm cd)})(hcd:j9 H cd q)(hb:∀us:List Value,us.length=1->bindArgs (gC q args body sc pm cd) ⟨us,[]⟩=pure (List.zip [x] us)){v:V}{u:Value}{d:D}(r:RelV v u)(hv:Dat X.K H d v)(rm:aV X.K H M)
 {tb:bT}{Q0:DK}{E:Value->Shared->Prop}{Q:Value->Shared->Prop}(hbody:∀(f:Addr) (cd:Value) (A:Around) (outer:List Env) (s:Shared) (H:Hp),bV k (A.deeper (envOfC q sc s.heap.objs.size f cd))->bJ (eX dR X.prog X.w X.K X.mg X.base [x] q sc f cd A outer s H E0).n8 body tb)(hq:tb [some d] M Q0)
 (h:∀u s',CE X.stack X.prog X.w H s (Post X.K M H Q0) u s'->Q u s'):wpAny (model X.prog X.w) A (call (.ref f) [u]) Q E s:=by
 refine wpAny_call (codeAny_mono (w9 (us:=[u]) (vs:=[v]) (ds:=[d]) S hr e0 ho hcd (.of_eq (hb [u] rfl)) (.cons r .nil) rfl (aB.one hv) rm (hbody f cd A X.stack s H) hq) λr s' z=>?_)
 obtain⟨u',rfl,ce⟩:=z
 exact h u' s' ce
theorem zip_get{α β:Type}:∀{as:List α} {bs:List β} {p:α ×β},p∈as.zip bs->∃i:Nat,as[i]?=some p.1/\bs[i]?=some p.2
 |[],_,p,h=>by simp at h
 |_::_,[],p,h=>by simp at h
 |a::as,b::bs,p,h=>by
  rw[Jl]at h
  rcases IJ.mp h with rfl|h
  ·exact⟨0,rfl,rfl⟩
  ·obtain⟨i,h1,h2⟩:=zip_get h
   exact⟨i+1,h1,h2⟩
theorem qc{q:Str}{args:Arguments}{body:Expr}{sc:Scope}{pm cd:Value}{f l:Addr}{x:Str}{k:Nat}{ts:List (List Pl)}{kf:List Pl->Int}{tb:bT}{Q:DK}(I:Inv X pins σ H s)(rm:aV X.K H M)(hM:M l=some (.lst (ts.map tD)))(A8:∀t∈ts,t.length=2)(sH:ts.length<128)
 (S:aS [x] [x] sc)(hr:bV (k+3) X.A)(ho:s.heap.get? f=some {cls:= .type "function",data:= .func (gC q args body sc pm cd)})(hcd:j9 H cd q)(ff:cU X pins H f)
 (hb:∀us:List Value,us.length=1->bindArgs (gC q args body sc pm cd) ⟨us,[]⟩=pure (List.zip [x] us))
 (hbody:∀(f:Addr) (cd:Value) (A:Around) (outer:List Env) (s:Shared) (H:Hp),bV k (A.deeper (envOfC q sc s.heap.objs.size f cd))->bJ (eX dR X.prog X.w X.K X.mg X.base [x] q sc f cd A outer s H E0).n8 body tb)
 (hq:∀t∈ts,tb [some (tD t)] M λd M2=>d=sI (kf t,t)/\M2=M)
 (h:∀(r:Addr) (us:List (List Pl)),M r=none->us.Perm ts->us.Pairwise (λp q=>kZ (kf q,q) (kf p,p)=false)->Q (.ref r) (aH M r (.lst (us.map tD)))) :
 wpAny (model X.prog X.w) X.A (call (.builtin "sorted") [.ref l] [(Str.ofString "key",.ref f)]) (EP X pins σ (Post X.K M H Q)) X.xe s:=by
 obtain⟨zs,hH,hz⟩:=rm.lst hM
 obtain⟨its,rv,pl,hsz⟩:=I.list (gY.of (K:=X.K) hH)
 have hl:its.length=ts.length:=by rw[Vals.len rv,<-hz.length,Iw]
 have lz:its.length<=sizeLine:=by rw[sizeLine_eq];omega
 refine call_function_entry_kw kind_sorted plain_sorted entry_sorted (ksk_s1 _ _) ?_
 unfold Builtin.«sorted»
 refine wpAny_bind (m:=checkCount "sorted" 1 1 _) (wpAny_pure ?_)
 refine wpAny_bind (collect_list pl.isList (hsz:=lz) ?_)
 refine wpAny_bind (wpAny_newList (hsz:=lz) ?_)
 show wpAny (model X.prog X.w) X.A.in1 _ _ _ {s with heap:=((s.heap.push (seqObj "list" #[] 0)).update s.heap.objs.size (Obj.mapSeq (· ++its.toArray))).push (seqObj "list" its.toArray 0)}
 generalize hg:(s.heap.push (seqObj "list" #[] 0)).update s.heap.objs.size (Obj.mapSeq (· ++its.toArray))=g
 have gz:g.objs.size=s.heap.objs.size+1:=by rw[<-hg,Heap.size_update,size_push']
 have gk:er s.heap g:=λb o q=>by
  have lb:=Heap.lt_size q
  rw[<-hg,Heap.get?_update_ne _ _ _ _ (IQ lb),Heap.get?_push_ne _ _ _ (IQ lb)]
  exact q
 rw[gz]
 have at':(g.push (seqObj "list" its.toArray 0)).get? (s.heap.objs.size+1)=some (seqObj "list" its.toArray 0):=by rw[<-gz];exact Heap.get?_push_size _ rfl
 apply wpAny_bind;apply wpAny_holding
 refine wpAny_call_entry_kw slot_list_sort ⟨_,at',rfl⟩ entry_list_sort ?_ (ksk_l1 _ _)
 rw[ksk_t1]
 unfold ksk_tree
 refine wpAny_bind (listItems_at at' rfl ?_)
 refine wpAny_bind (listUpdate_at at' rfl ?_ (hsz:=by rw[IA];omega) (hsz2:=IE _))
 obtain⟨e1,EX⟩:∃e1,((g.push (seqObj "list" its.toArray 0)).update (s.heap.objs.size+1) (Obj.mapSeq λ_=>(#[]:Array Value))).get? (s.heap.objs.size+1)=some (seqObj "list" #[] e1):=⟨_,get?_update_seq at' λ_=> #[]⟩
 refine wpAny_bind (seqEpoch_at EX rfl ?_)
 refine wpAny_bind (wpAny_newTuple (hsz:=lz) ?_)
 refine wpAny_bind (wpAny_newList (hsz:=IE _) ?_)
 refine wpAny_holding ?_
 have k8:((g.push (seqObj "list" its.toArray 0)).update (s.heap.objs.size+1) (Obj.mapSeq λ_=>(#[]:Array Value))).objs.size=s.heap.objs.size+2:=by rw[Heap.size_update,size_push',gz]
 have uG:(((g.push (seqObj "list" its.toArray 0)).update (s.heap.objs.size+1) (Obj.mapSeq λ_=>(#[]:Array Value))).push (seqObj "tuple" its.toArray 0)).objs.size=s.heap.objs.size+3:=by rw[size_push',k8]
 show wpAny (model X.prog X.w) X.A.in1.in1 (ksk_rest (s.heap.objs.size+1) (.ref f) false its.toArray e1 (.ref (((g.push (seqObj "list" its.toArray 0)).update (s.heap.objs.size+1) (Obj.mapSeq λ_=>(#[]:Array Value))).push (seqObj "tuple" its.toArray 0)).objs.size)) _ _
  {s with heap:=(((g.push (seqObj "list" its.toArray 0)).update (s.heap.objs.size+1) (Obj.mapSeq λ_=>(#[]:Array Value))).push (seqObj "tuple" its.toArray 0)).push (seqObj "list" #[] 0)}
 have hS:((((g.push (seqObj "list" its.toArray 0)).update (s.heap.objs.size+1) (Obj.mapSeq λ_=>(#[]:Array Value))).push (seqObj "tuple" its.toArray 0)).push (seqObj "list" #[] 0)).get? (s.heap.objs.size+3)=some (seqObj "list" #[] 0):=by rw[<-uG];exact Heap.get?_push_size _ rfl
 rw[uG]
 have hD:((((g.push (seqObj "list" its.toArray 0)).update (s.heap.objs.size+1) (Obj.mapSeq λ_=>(#[]:Array Value))).push (seqObj "tuple" its.toArray 0)).push (seqObj "list" #[] 0)).get? (s.heap.objs.size+1)=some (seqObj "list" #[] e1):=Heap.get?_push_of_some _ (Heap.get?_push_of_some _ EX)
 have hK:er s.heap ((((g.push (seqObj "list" its.toArray 0)).update (s.heap.objs.size+1) (Obj.mapSeq λ_=>(#[]:Array Value))).push (seqObj "tuple" its.toArray 0)).push (seqObj "list" #[] 0)):=λb o q=>by
  have lb:=Heap.lt_size q
  refine Heap.get?_push_of_some _ (Heap.get?_push_of_some _ ?_)
  rw[Heap.get?_update_ne _ _ _ _ (by omega)]
  exact Heap.get?_push_of_some _ (gk b o q)
 generalize (((g.push (seqObj "list" its.toArray 0)).update (s.heap.objs.size+1) (Obj.mapSeq λ_=>(#[]:Array Value))).push (seqObj "tuple" its.toArray 0)).push (seqObj "list" #[] 0)=hp at hS hD hK ⊢
 clear k8 uG EX at' gk gz hg
 have nD:H (s.heap.objs.size+1)=none:=I.hok.fresh (by omega)
 have nS:H (s.heap.objs.size+3)=none:=I.hok.fresh (by omega)
 have fD:=I.ou (H':=H) (b:=s.heap.objs.size+1) (by omega) nD
 have fS:=I.ou (H':=H) (b:=s.heap.objs.size+3) (by omega) nS
 have I0:Inv X pins σ H {s with heap:=hp}:=I.kept (t':=s.toks) hK
 have hne:s.heap.objs.size+1≠s.heap.objs.size+3:=by omega
 generalize s.heap.objs.size+1=dA at hD nD fD hne ⊢
 generalize s.heap.objs.size+3=kS at hS nS fS hne ⊢
 unfold ksk_rest
 refine wpAny_bind (wpAny_rule ?_)
 rw[List.forIn_toArray]
 have start:yJ X pins σ M H dA kS f (seqObj "list" #[] e1) {cls:= .type "function",data:= .func (gC q args body sc pm cd)} [] {s with heap:=hp}:=
  ⟨H,[],0,[],I0,rm,Fr.refl _ _,hD,hK _ _ ho,hS,fD,ff,fS,.nil,aI.mpr rfl⟩
 refine wpAny_bind (ksk_fold (λi s1=>yJ X pins σ M H dA kS f (seqObj "list" #[] e1) {cls:= .type "function",data:= .func (gC q args body sc pm cd)} ((ts.take i).map λt=>sI (kf t,t)) s1) its 0 _ start (λj v s1 hj hI=>?_) λs1 hI=>?_)
 ·rw[Jr]at hI ⊢
  obtain⟨H1,ks,e,kvs,I1,g7,CM,g1,g2,g3,f1,f2,f3,w1,w2⟩:=hI
  have xt:=CM.ext rm
  have lj:j<its.length:=(IC.mp hj).1
  have hk:ks.length=j:=by rw[<-Vals.length w1,<-w2.length,Iw,Jg];omega
  have ht:ts[j]?=some ts[j]:=Iz (by omega)
  obtain⟨y,hy,dy⟩:=hz.get (show(ts.map tD)[j]?=some (tD ts[j])by rw[II,ht];rfl)
  obtain⟨v',hv',ry⟩:=rv.get hy
  obtain rfl:v=v':=Option.some.inj (hj.symm.trans hv')
  have et:(ts.take (j+1)).map (λt=>sI (kf t,t))=(ts.take j).map (λt=>sI (kf t,t))++[sI (kf ts[j],ts[j])]:=by
   rw[J5,ht,Jk];rfl
  have hm:ts[j]∈ts:=Jc _
  generalize ts[j]=tj at dy et hm
  refine wpAny_bind (wpAny_attempt (vc (k:=k) S (bV.in1 (bV.in1 hr)) I1.By.in1.in1 g2 (hcd.mono xt) hb ry (Dat.mono xt _ _ dy) g7 hbody (hq tj hm) λu s2 ce=>?_))
  obtain⟨kv,H2,os,bare,un,hok,rk,d,M2,F7,dv,wD,rfl,rfl⟩:=ce
  have I2:Inv X pins σ H2 s2:=I1.yg (ch:=[]) os un hok bare λb z=>absurd z (by simp)
  obtain⟨Hu,Hv⟩:=nt I1 f1 g1 un
  obtain⟨EY,Hw⟩:=nt I1 f2 g2 un
  obtain⟨EZ,E1⟩:=nt I1 f3 g3 un
  dsimp only
  have ea:ks.toArray.push u=(ks++[u]).toArray:=by simp
  refine wpAny_bind (listUpdate_at EZ rfl ?_ (by rw[IA,sizeLine_eq];omega) (by rw[Array.size_push,IA,sizeLine_eq];omega))
  obtain⟨c2,hc2⟩:∃c2,(s2.heap.update kS (Obj.mapSeq (·.push u))).get? kS=some (seqObj "list" (ks++[u]).toArray c2):=⟨_,by rw[<-ea];exact get?_update_seq EZ (·.push u)⟩
  have sb:=Heap.SameBut.update s2.heap kS (Obj.mapSeq (·.push u))
  have I3:=I2.two E1 E1 (h':=s2.heap.update kS (Obj.mapSeq (·.push u))) λc o hc _ q=>(sb.2 c hc).trans q
  refine wpAny_pure ⟨rfl,H2,ks++[u],c2,kvs++[kv],I3,wD,CM.trans F7,(sb.2 dA hne).trans Hu,(sb.2 f λz=>?_).trans EY,hc2,Hv,Hw,E1,Vals.append w1 (.cons rk .nil),?_⟩
  ·rw[z,EZ]at EY
   exact absurd (congrArg Obj.data (Option.some.inj EY)) (λw=>nomatch w)
  ·rw[et]
   exact aB.append (aB.mono (F7.ext g7) _ _ w2) (aB.one dv)
 ·rw[Jr,hl,Jm]at hI
  obtain⟨H1,ks,e,kvs,I1,g7,CM,g1,g2,g3,f1,f2,f3,w1,w2⟩:=hI
  have xt:=CM.ext rm
  refine wpAny_bind (listItems_at g3 rfl ?_)
  have Hx:ks.length=its.length:=by rw[<-Vals.length w1,<-w2.length,Iw,hl]
  have hz1:=aB.mono xt _ _ hz
  have two:∀p∈(ks.toArray.zip its.toArray).toList,∃t∈ts,oY X.K H1 p.1 (kf t,t)/\p8 2 s1.heap p.2 t/\p.2∈its:=λp hp=>by
   have hp:p∈ks.zip its:=by simpa using hp
   obtain⟨i,h1,h2⟩:=zip_get hp
   have li:i<its.length:=(IC.mp h2).1
   have ht:ts[i]?=some ts[i]:=Iz (by omega)
   obtain⟨y,hy,dy⟩:=hz1.get (show(ts.map tD)[i]?=some (tD ts[i])by rw[II,ht];rfl)
   obtain⟨v',hv',ry⟩:=rv.get hy
   obtain rfl:p.2=v':=Option.some.inj (h2.symm.trans hv')
   obtain⟨y2,Hy,Hz⟩:=w2.get (show(ts.map λt=>sI (kf t,t))[i]?=some (sI (kf ts[i],ts[i]))by rw[II,ht];rfl)
   obtain⟨v2,hv2,HA⟩:=w1.get Hy
   obtain rfl:p.1=v2:=Option.some.inj (h1.symm.trans hv2)
   have hm:ts[i]∈ts:=Jc _
   exact⟨ts[i],hm,⟨A8 _ hm,y2,Hz,HA⟩,iJ I1.hok (A8 _ hm) dy ry,IW h2⟩
  have room:X.A.in1.in1.units+32<cLine:=by have:=hr.un;show X.A.units+1+1+32<cLine;omega
  refine xH (κ:=yI X.K H1) (kd:=tuples' true) Hx (by omega) g1 g3 hne (λp hp=>?_) (λh2 Q' hQ=>xF (by omega) (λv hv=>?_) hQ) (AA room I1.hok) λy h' c py sy keep hx hd=>?_
  ·obtain⟨t,_,a,_⟩:=two p hp
   exact⟨_,qX a⟩
  ·obtain⟨i,hi,rfl⟩:=JQ.mp hv
   have hp:(ks[i],its[i])∈(ks.toArray.zip its.toArray).toList:=by
    have:(ks.toArray.zip its.toArray).toList=ks.zip its:=by simp
    rw[this]
    exact JQ.mpr ⟨i,by simp;omega,by simp⟩
   obtain⟨t,_,a,_⟩:=two _ hp
   obtain⟨p,o,tk,b,yv,n,HB,HC,HE,HF,_⟩:=a.parts I1.hok
   exact⟨p,o,_,_,tk,n,HB,HC,HE,HF,rfl⟩
  ·have I4:=I1.two f1 f3 keep
   have F8:y.toList.Perm (ks.zip its):=by
    have:=Array.perm_iff_toList_perm.mp py
    simpa using this
   have F9:∀p∈y.toList,∃t∈ts,oY X.K H1 p.1 (kf t,t)/\p8 2 s1.heap p.2 t/\p.2∈its:=λp hp=>two p (by simpa using F8.mem_iff.mp hp)
   have eo:y.map (·.2)=(y.toList.map (·.2)).toArray:=by rw[<-Array.toList_map,Array.toArray_toList]
   have mo:∀v∈y.toList.map (·.2),v∈its:=λv hv=>by
    obtain⟨p,hp,rfl⟩:=Jj.mp hv
    obtain⟨t,_,_,_,z⟩:=F9 p hp
    exact z
   obtain⟨ws,v1,v2⟩:=kj (n:=2) I1.hok A8 hz1 rv (y.toList.map (·.2)) mo
   have pm:((y.toList.map (·.2)).map (lq 2 s1.heap)).Perm ts:=by
    have q:=(F8.map (λp=>p.2)).map (lq 2 s1.heap)
    have e:(ks.zip its).map (λp=>p.2)=its:=List.map_snd_zip (by omega)
    rw[e,(l5 I1.hok A8 hz1 rv).keys]at q
    exact q
   have so:((y.toList.map (·.2)).map (lq 2 s1.heap)).Pairwise (λp q=>kZ (kf q,q) (kf p,p)=false):=by
    have key:∀i (hi:i<y.size),KK (yI X.K H1) y i=(kf (lq 2 s1.heap y[i].2),lq 2 s1.heap y[i].2):=λi hi=>by
     obtain⟨t,_,a,b,_⟩:=F9 y[i] (by simp)
     rw[l7 hi,m9 b]
     show((yI X.K H1).keyOf y[i].1).getD _=_
     rw[qX a]
     rfl
    rw[Js]
    intro i j hi hj hij
    have li:i<y.size:=by simpa using hi
    have lj:j<y.size:=by simpa using hj
    have q:=sy i j (JB hij) lj
    have q:kZ (KK (yI X.K H1) y j) (KK (yI X.K H1) y i)=false:=q
    rw[key i li,key j lj]at q
    simpa using q
   have zw:ws.length<=sizeLine:=by
    rw[<-v2.length,Iw,pm.length_eq,sizeLine_eq];omega
   rw[eo]at hd
   have I5:=I4.named (o:= .lst ws) f1 ⟨zw,y.toList.map (·.2),c,v1,hd⟩
   refine⟨_,rfl,wpAny_pure ⟨_,rfl,.ref dA,upd H1 dA (.lst ws),I5,rfl,.ref dA,aH M dA (.lst (((y.toList.map (·.2)).map (lq 2 s1.heap)).map tD)),CM.trans (Fr.new f1.1 λ_ hb=>aR hb),aO.mpr rfl,g7.newL f1.1 v2,h dA _ (g7.free f1.1) pm so⟩⟩
def AB(a:Addr)(q:Str)(kf:List Pl->Int)(tb te:bT):bT:=λρ M Q=>te ρ M λd M1=>∃(l:Addr) (ts:List (List Pl)),d= .ref l/\M1 l=some (.lst (ts.map tD))/\(∀t∈ts,t.length=2)/\ts.length<128/\M1 a=some (.oH q)/\
 (∀t∈ts,tb [some (tD t)] M1 λd M2=>d=sI (kf t,t)/\M2=M1)/\∀(r:Addr) (us:List (List Pl)),M1 r=none->us.Perm ts->us.Pairwise (λp q=>kZ (kf q,q) (kf p,p)=false)->Q (.ref r) (aH M1 r (.lst (us.map tD)))
theorem xJ{a:Addr}{kf:List Pl->Int}{tb te:bT}{e body:Expr}{args:Arguments}{sc:Scope}{x:Str}{k:Nat}{p p3 lp pos:Pos}(T:Tab X.K X.mg X.env.code a)(hd:defaultsOf args X.env=([],[]))(hkw:args.kwonlyargs=[])(hfree:∀x∈sc.names,x.2≠ .free)
 (S:aS [x] [x] sc)(hr:bV (k+3) X.A)(hb:∀(q:Str) (pm cd:Value) (us:List Value),us.length=1->bindArgs (gC q args body sc pm cd) ⟨us,[]⟩=pure (List.zip [x] us))(hg:Gl X "sorted")(hm:X.mg "sorted" =none)(he:bJ X e te)
 (hbody:∀(f:Addr) (cd:Value) (A:Around) (outer:List Env) (s:Shared) (H:Hp),bV k (A.deeper (envOfC (X.env.qual++ "<lambda>") sc s.heap.objs.size f cd))->bJ (eX dR X.prog X.w X.K X.mg X.base [x] (X.env.qual++ "<lambda>") sc f cd A outer s H E0).n8 body tb)
 (s1:starEach [e] X.env=[(false,eval e X.env)]:=by rfl):bJ X (.Call (.Name "sorted" p) [e] [⟨some (Str.ofString "key"),.Lambda args body sc lp,p3⟩] pos) (AB a (X.env.qual++ "<lambda>") kf tb te):=by
 constructor
 intro pins s σ H ρ M Q I r h
 refine wpAny_Call_Name_kw (iA I hg hm m5 ?_ (by decide) (by decide))
 refine PyProof.Rows.callWith_kw ?_ (by rw[s1];rfl) (by rw[s1];rfl) (by rfl) (by rfl)
 rw[s1]
 show wpAny _ _ (spliced ((false,eval e X.env)::backTo pos [])) _ _ s
 refine Calls.spliced_cons (bU (he.run pins s σ H ρ M _ I r h) λv s1 ⟨y,H1,I1,rv,d,M1,f1,dd,g7,l,ts,e1,hM,A8,sH,hc,hq,q⟩=>Calls.spliced_nil ?_)
 subst e1
 obtain rfl:=aO.mp dd
 obtain rfl:v=Value.ref l:=rv
 refine PyProof.Rows.kws_cons (wZ I1 g7 T hc hd hkw hfree λf pm cd H2 s2 I2 wD f2 ho k2 ff=>PyProof.Rows.kws_nil ?_)
 show wpAny _ _ (call (.builtin "sorted") [.ref l] [(Str.ofString "key",.ref f)]) _ _ s2
 exact bU (qc I2 wD hM A8 sH S hr ho k2 ff (hb _ pm cd) hbody hq q) λ_ _ ⟨z,H3,I3,r3,p⟩=>⟨z,H3,I3,r3,p.back (f1.trans f2)⟩
end
end L3
namespace PySem
open PySem.Calls PySem.W
theorem qd:typeLookup (.type "list_reverseiterator") "__len__" =pure none:=by rw[typeLookup_type,builtinLookup_eq_fast];kernel_rfl
theorem vd:typeLookup (.type "list_reverseiterator") "__length_hint__" =pure (some (.builtin "list_reverseiterator.__length_hint__")):=by rw[typeLookup_type,builtinLookup_eq_fast];kernel_rfl
theorem xK:isSubtype (.type "list_reverseiterator") (.type "list_reverseiterator")=pure true:=by rw[isSubtype_type];kernel_rfl
section
variable{prog:Program}{w:World}{A:Around}{s:Shared}{R:Result->Shared->Prop}{E:Value->Shared->Prop}
variable{I:Addr}{fp wr:List Addr}{G:Array GenState->Array GenState->Prop}{n:Nat}{P:Nat->Value->Prop}{St:Nat->Shared->Prop}
theorem ve{Q:Bool->Shared->Prop}(hT:s.TypeIs (.ref I) "list_reverseiterator")(h:Q false s):wpAny (model prog w) A (Builtin.List.listLengthHint (.ref I)) Q E s:=by
 unfold Builtin.List.listLengthHint
 refine wpAny_bind (wpAny_specialOf hT qd ?_)
 show wpAny _ A (specialOf (Value.ref I) (Str.ofString "__length_hint__") >>= _) _ _ _
 refine wpAny_bind (wpAny_specialOf hT vd ?_)
 have hs:splitId "list_reverseiterator.__length_hint__" =some ("list_reverseiterator","__length_hint__"):=by decide +kernel
 simp only[hs]
 refine wpAny_bind (wpAny_isInstance (T:= "list_reverseiterator") (b:=true) hT xK ?_)
 simp only[J2,ID,if_false]
 exact wpAny_pure h
theorem jg(W:WalksS prog w A.in1 I fp wr G n P St)(hT:∀i s,St i s->s.TypeIs (.ref I) "list_reverseiterator")(S:Addr)(res:Value)(c₀:Nat)(hst:St 0 s)(hSf:S∉fp)(hI:I∈fp)
 (hS:s.heap.get? S=some {cls:= .type "list",data:= .seq #[] c₀})
 (hR:∀s' acc' c',Moved (S::wr) G s s'->s'.heap.get? S=some {cls:= .type "list",dict:=none,data:= .seq acc' c',slots:= #[]}->ItemsOf P acc' n->R (.ok (.ret res)) s')(hn:n<=sizeLine) :
 wpAny (model prog w) A.in1 (Builtin.List.listExtendWith (.ref S) (.ref I) res)
  (λfin s'=>match fin with| .done f=>R (.ok f) s'| .again c'=>c'.quiet=true/\codeAny (model prog w) A c' R s') (λe s'=>R (.error e) s') s:=by
 have hSI:S≠I:=λe=>hSf (e▸hI)
 unfold Builtin.List.listExtendWith
 refine wpAny_bind (wpAny_typeOf (hT 0 _ hst) ?_)
 have h1:Builtin.List.listSameRef (.ref S) (.ref I)=false:=by simp[Builtin.List.listSameRef,hSI]
 have h2:(Value.type "list_reverseiterator" ==Value.type "list")=false:=by decide
 have h3:(Value.type "list_reverseiterator" ==Value.type "tuple")=false:=by decide
 simp only[h1,h2,h3,Bool.or_false,ID,if_false]
 refine wpAny_bind (W.self 0 _ _ _ hst ?_)
 refine wpAny_bind (wpAny_holding (ve (hT 0 _ hst) ?_))
 show wpAny _ A.in1 (again (.builtin "list.extend.loop" ⟨[.ref S,.ref I,res],[]⟩)) _ _ _
 exact wpAny_pure ⟨plainId_quiet F.plain_extend_loop _,codeAny_extend_loopS W hn _ hSf _ n 0 _ _ _ rfl (IE _) hst hS (ItemsOf.nil P) λs' acc' c' hm hS' hacc=>hR s' acc' c' hm hS' hacc⟩
theorem g9(W:WalksS prog w A.in1 I fp wr G n P St)(hT:∀i s,St i s->s.TypeIs (.ref I) "list_reverseiterator")(S:Addr)(hst:St 0 s)(hSf:S∉fp)(hI:I∈fp)
 (hS:s.heap.get? S=some {cls:= .type "list",data:= .seq #[]})
 (hR:∀s' acc' c',Moved (S::wr) G s s'->s'.heap.get? S=some {cls:= .type "list",dict:=none,data:= .seq acc' c',slots:= #[]}->ItemsOf P acc' n->R (.ok (.ret .none)) s')(hn:n<=sizeLine) :
 wpAny (model prog w) A.in1 (Builtin.«list.__init__» ⟨[.ref S,.ref I],[]⟩)
  (λfin s'=>match fin with| .done f=>R (.ok f) s'| .again c'=>c'.quiet=true/\codeAny (model prog w) A c' R s') (λe s'=>R (.error e) s') s:=by
 show wpAny _ A.in1 (do let old <-Builtin.List.listItems (.ref S);Builtin.List.listUpdate (.ref S) (λ_=> #[]);letGo old.toList.reverse;Builtin.List.listExtendWith (.ref S) (.ref I) .none) _ _ s
 refine wpAny_bind ?_
 unfold Builtin.List.listItems
 refine wpAny_bind (wpAny_seqItems hS rfl (wpAny_pure ?_))
 show wpAny _ A.in1 (updateSeq S (λ_=> #[]) >>= λ_=>letGo (#[]:Array Value).toList.reverse >>= λ_=>Builtin.List.listExtendWith (.ref S) (.ref I) .none) _ _ s
 refine wpAny_bind (wpAny_updateSeq hS rfl ?_)
 have HG:=Heap.get?_update_self (Obj.mapSeq (λ_=>(#[]:Array Value))) hS rfl
 have Ga:∀b o,b≠S->s.heap.get? b=some o->(s.heap.update S (Obj.mapSeq (λ_=>(#[]:Array Value)))).get? b=some o:=
  λb o hb e=>(Heap.get?_update_other _ _ (Ne.symm hb)).trans e
 refine wpAny_bind (wpAny_letGo ?_)
 refine jg W hT S .none _ (W.frame 0 s _ s.toks hst (Iu _) λb hb o e=>Ga b o (λh=>hSf (h▸hb)) e) hSf hI HG (λs' acc' c' hm hS' hacc=>?_) hn
 exact hR s' acc' c' (Moved.trans W.gtrans ((Moved.refl W.grefl).then_heap (Iu _) λb o hb e=>Ga b o (λh=>hb (h▸IB)) e) hm) hS' hacc
theorem lA{Q:Value->Shared->Prop}(W:WalksS prog w A.in1.in1 I fp wr G n P St)(hT:∀i s,St i s->s.TypeIs (.ref I) "list_reverseiterator")(hst:St 0 s)(hfp:∀b∈fp,b<s.heap.objs.size)(hI:I∈fp)
 (hQ:∀s' acc' c',Moved (s.heap.objs.size::wr) G {s with heap:=s.heap.push {cls:= .type "list",data:= .seq #[]}} s'->
  s'.heap.get? s.heap.objs.size=some {cls:= .type "list",dict:=none,data:= .seq acc' c',slots:= #[]}->ItemsOf P acc' n->Q (.ref s.heap.objs.size) s')(hn:n<=sizeLine) :
 wpAny (model prog w) A (call (.type "list") [.ref I]) Q E s:=by
 have hSf:s.heap.objs.size∉fp:=λhm=>Jo _ (hfp _ hm)
 refine callType_codes (Q₁:=λobj s₁=>obj= .ref s.heap.objs.size/\s₁= {s with heap:=s.heap.push {cls:= .type "list",data:= .seq #[]}}) F.called_list (F.typeCall_list_1 _) F.entry_list_init
  (code_list_new _ ⟨rfl,rfl⟩) λobj s₁ h₁=>?_
 obtain⟨rfl,rfl⟩:=h₁
 have hS:(s.heap.push {cls:= .type "list",data:= .seq #[]}).get? s.heap.objs.size=some {cls:= .type "list",data:= .seq #[]}:=Heap.get?_push_size _ rfl
 refine⟨⟨_,hS,rfl⟩,F.args_list_init_2 _ _,g9 W hT _ (W.frame 0 s _ s.toks hst (Iu _) λb _ o e=>Heap.get?_push_of_some _ e) hSf hI hS (λs' acc' c' hm hS' hacc=>?_) hn⟩
 exact⟨rfl,hQ s' acc' c' hm hS' hacc⟩
end
end PySem
namespace L3
open PySem PySem.Spec PyProof.Rows L2
section
variable{X:Cx}{pos:Pos}
theorem oZ{K:PySem.W.Frag}{H:Hp}:∀{ds:List D} {xs:List V},aB K H ds xs->aB K H ds.reverse xs.reverse
 |[],xs,h=>by rw[aI.mp h];exact aI.mpr rfl
 |d::ds,xs,h=>by
  obtain⟨v,vs,rfl,h1,h2⟩:=aF.mp h
  rw[JL,JL]
  exact(oZ h2).append (aB.one h1)
theorem o6:∀{xs:List V} {us:List Value},Vals xs us->Vals xs.reverse us.reverse
 |_,_,.nil=> .nil
 |_,_,.cons r rr=>by
  rw[JL,JL]
  exact(o6 rr).append (.cons r .nil)
theorem kC:bootBuiltins "reversed" =some (.type "reversed"):=by decide +kernel
def CN(te:bT):bT:=λρ M Q=>te ρ M λd M1=>∃xs,m8 M1 d xs/\∀p,M1 p=none->Q (.ref p) (aH M1 p (.lst xs.reverse))
theorem sJ{e:Expr}{te:bT}{p1 p2 pos2:Pos}(hc:X.calm=true)(Eu:Gl X "list")(hml:X.mg "list" =none)(hgr:Gl X "reversed")(hmr:X.mg "reversed" =none)(he:bJ X e te)
 (s1:starEach [e] X.env=[(false,eval e X.env)]:=by rfl)
 (s2:starEach [.Call (.Name "reversed" p2) [e] [] pos2] X.env=[(false,eval (.Call (.Name "reversed" p2) [e] [] pos2) X.env)]:=by rfl) :
 bJ X (.Call (.Name "list" p1) [.Call (.Name "reversed" p2) [e] [] pos2] [] pos) (CN te):=by
 constructor
 intro pins s σ H ρ M Q I r h
 refine wpAny_Call_Name_kw (iA I Eu hml bD ?_ (by decide) (by decide))
 refine PyProof.Rows.callWith_type1 (Q:=EP X pins σ (Post X.K M H Q)) ?_ (by rw[s2];rfl) (by rfl)
 rw[s2]
 show wpAny _ _ (spliced ((false,eval (.Call (.Name "reversed" p2) [e] [] pos2) X.env)::backTo pos [])) _ _ s
 refine Calls.spliced_cons ?_
 refine wpAny_Call_Name_kw (iA I hgr hmr kC ?_ (by decide) (by decide))
 refine PyProof.Rows.callWith_type1 ?_ (by rw[s1];rfl) (by rfl)
 rw[s1]
 show wpAny _ _ (spliced ((false,eval e X.env)::backTo pos2 [])) _ _ s
 refine Calls.spliced_cons (bU (he.run pins s σ H ρ M _ I r h) λv s1 ⟨x,H1,I1,rv,d,M1,f1,dd,g7,xs,hL,q⟩=>Calls.spliced_nil ?_)
 obtain⟨a,zs,rfl,hz,hd⟩:=hL.sq g7 dd
 obtain rfl:v=Value.ref a:=rv
 obtain⟨its,Gb,pl,hsz⟩:=I1.list hz
 have la:a<s1.heap.objs.size:=by obtain⟨o,e,_⟩:=pl.isList;exact Heap.lt_size e
 refine PySem.call_reversed_list pl.isList ?_
 refine Calls.spliced_nil ?_
 have k8:(s1.heap.push (PySem.revObj a ((its.toArray.size:Int)-1))).objs.size=s1.heap.objs.size+1:=Heap.size_push ..
 have Il:zs.length=its.length:=Gb.length
 refine lA (PySem.Walks.listRev (A:=X.A.in1.in1) (show X.A.in1.in1.handled=none from I.ok.hd hc) s1.heap.objs.size a (IQ la) its.toArray).toS (λi s st=>st.2.1.typeIs) ?_ ?_ (by simp) (λs' acc' c' mv hS' hacc=>?_) (by rw[IA];omega)
 ·refine⟨IE _,⟨_,Heap.get?_push_size _ rfl,rfl,?_⟩,?_⟩
  ·simp[PySem.revObj]
  ·obtain⟨o,e,c,dd⟩:=pl.isList
   exact⟨o,Heap.get?_push_of_some _ e,c,dd⟩
 ·intro b hb
  show b<(s1.heap.push (PySem.revObj a ((its.toArray.size:Int)-1))).objs.size
  rw[k8]
  simp only[IJ,KI,or_false]at hb
  rcases hb with rfl|rfl
  ·exact J9 _
  ·exact Ky la
 ·have hS':s'.heap.get? (s1.heap.objs.size+1)=some {cls:= .type "list",dict:=none,data:= .seq acc' c',slots:= #[]}:=by rw[<-k8];exact hS'
  have E2:acc'=its.reverse.toArray:=by
   apply Array.ext'
   rw[Kp]
   apply List.ext_getElem?
   intro j
   have Im:acc'.size=its.length:=by
    have:=hacc.1
    rw[IA]at this
    exact this
   by_cases hj:j<its.length
   ·have g1:acc'[j]?=some (acc'[j]'(by omega)):=Array.getElem?_eq_getElem (by omega)
    have g2:=hacc.2 j _ g1
    have g2:its[its.length-1-j]?=some (acc'[j]'(by omega)):=by simpa using g2
    rw[List.getElem?_reverse hj,g2]
    rw[Array.getElem?_toList,g1]
   ·rw[JD (by simp;omega),JD (by simp;omega)]
  subst E2
  have kp:∀b o,s1.heap.get? b=some o->s'.heap.get? b=some o:=λb o e=>by
   have lb:=Heap.lt_size e
   refine mv.heap b o ?_ (Heap.get?_push_of_some _ (Heap.get?_push_of_some _ e))
   intro hb
   simp only[IJ,KI,or_false]at hb
   rcases hb with z|z
   ·have z:b=(s1.heap.push (PySem.revObj a ((its.toArray.size:Int)-1))).objs.size:=z
    rw[k8]at z
    rw[z]at lb
    exact absurd lb (Jz.mpr (JA _))
   ·rw[z]at lb
    exact Jo _ lb
  have fr:H1 (s1.heap.objs.size+1)=none:=I1.hok.fresh (JA _)
  have es:s'= {s1 with heap:=s'.heap,toks:=s'.toks}:=by
   have g:=mv.gens
   have d:=mv.drawn
   have o:=mv.os
   cases s'
   cases s1
   simp only at g d o ⊢
   subst g d o
   rfl
  have I2:Inv X pins σ (upd H1 (s1.heap.objs.size+1) (.lst zs.reverse)) {s1 with heap:=s'.heap,toks:=s'.toks}:=
   I1.laid (t':=s'.toks) kp (JA _) ⟨by rw[Kq];exact hsz,its.reverse,c',o6 Gb,hS'⟩
  rw[es]
  have ev:(Value.ref (s1.heap.push (PySem.revObj a ((its.toArray.size:Int)-1))).objs.size)= .ref (s1.heap.objs.size+1):=by rw[k8]
  refine⟨.ref (s1.heap.objs.size+1),_,I2,ev,.ref _,aH M1 _ (.lst xs.reverse),f1.trans (Fr.new fr λ_ hb=>aR hb),aO.mpr rfl,g7.newL fr (oZ hd),q _ (g7.free fr)⟩
end
end L3
namespace L3
open PySem PySem.Spec PyProof.Rows L2
theorem nu{ps:List Pl}{i:Nat}{x:D}(h:(ps.map Pl.d)[i]?=some x):∃p,ps[i]?=some p/\x=p.d:=by
 rw[II]at h
 cases e:ps[i]? with
 |none=>rw[e]at h;cases h
 |some p=>rw[e]at h;exact⟨p,rfl,(Option.some.inj h).symm⟩
theorem qe(ns:List Int):(ns.map D.int).all (plain 9)=true:=by
 rw[IM]
 intro d hd
 obtain⟨i,_,rfl⟩:=Jj.mp hd
 rfl
theorem fK{ns:List Int}{k:Int}(h0:0<=k)(h1:k<ns.length):∃z:Int,z∈ns/\oG (ns.map D.int) k=some (.int z):=by
 obtain⟨j,rfl⟩:∃j:Nat,k=(j:Int):=⟨k.toNat,by omega⟩
 have hlt:j<ns.length:=by omega
 refine⟨ns[j],Jc hlt,bQ ?_⟩
 rw[II,Iz hlt]
 rfl
theorem iL{ns:List Int}{n:Nat}{z:Int}(h:ns.all (λz=>decide (z.natAbs<2 ^ n))=true)(m:z∈ns):Sm n z:=of_decide_eq_true (IM.mp h z m)
theorem fL{q:Pl}{ps:List Pl}:inD q.d (ps.map Pl.d)=decide (q∈ps):=by
 unfold inD
 rw[Ju,List.any_eq_true,decide_eq_true_eq]
 constructor
 ·rintro⟨x,hx,e⟩
  obtain⟨p,hp,rfl⟩:=Jj.mp hx
  rw[j5]at e
  rw[<-of_decide_eq_true e];exact hp
 ·intro hq
  exact⟨q.d,Jj.mpr ⟨q,hq,rfl⟩,by rw[j5];exact decide_eq_true rfl⟩
theorem sL{ds:List D}(h:ds.all (plain 9)=true):iR ds ds=true:=by
 have:=fj 10 (.tup ds) h
 rwa [gU]at this
theorem vf{α:Type}(g:α->D)(xs:List α)(n:Nat)(h:n<=xs.length):cutD (xs.map g) (some (n:Int)) none=(xs.drop n).map g:=by
 unfold cutD
 rw[HT.qH,HT.oB]
 rw[Iw,JS h,List.map_drop]
 exact JM (by simp)
end L3
namespace Att
open PySem PySem.W PySem.Calls PyProof.Rows
def vg(z:Int):Prop:=Builtin.Int.intBits z<=1048576
theorem kE{N:Nat}:∀{ns:List Int},WData.weightAll (ns.map WData.int)<=N->∀z∈ns,Builtin.Int.intBits z<=N
 |[],_,z,m=>by cases m
 |n::ns,h,z,m=>by
  have e:WData.weightAll ((n::ns).map WData.int)=Builtin.Int.intBits n+1+WData.weightAll (ns.map WData.int):=by
   rw[IP]
   simp only[WData.weightAll,WData.weight,Builtin.Int.intBits]
  rw[e]at h
  rcases IJ.mp m with rfl|m
  ·omega
  ·exact kE (by omega) z m
theorem AD{ns:List Int}(h:WData.layableAll [WData.list (ns.map WData.int)]=true):∀z∈ns,vg z:=by
 have h:WData.layable (WData.list (ns.map WData.int))=true:=by simpa[WData.layableAll]using h
 unfold WData.layable at h
 have h:=of_decide_eq_true (Jy.mp h).2
 have e:WData.weight (WData.list (ns.map WData.int))=WData.weightAll (ns.map WData.int):=by simp only[WData.weight]
 rw[e]at h
 exact λz m=>kE h z m
theorem nv{l:OpenLaw}{n:Nat}{q:Program}{loose:List Str}{XP:(Str->Option Value)->Heap->Prop}{YP:World->Heap->Prop}{d:DefRec}
 (hn:l.most=some n)(hdf:d.params.defaults=[])
 (call:∀(w:World) (s₀ s₁:Shared) (mg mb:Str->Option Value) (fa:Addr) (o:Obj) (pm cd doc:Value) (a:Addr) (vs:List Value) (ns:List Int),
  Ground q loose [] XP w s₀ mg mb s₁.heap->YP w s₁.heap->
  s₁.heap.get? fa=some o->o.data= .func (docDef d.name d.params d.body d.scope pm cd doc)->s₁.heap.CodeRec cd d.name->mg d.name=some (.ref fa)->
  s₁.heap.get? a=some {cls:= .type "list",data:= .seq vs.toArray}->IntsAre vs ns->ns.length<=n->(∀z∈ns,vg z)->s₁.gens= #[]->
  codeAny (model l.prog w) callerA (.call (.ref fa) ⟨[.ref a],[]⟩) (λr s'=>r= .ok (.ret (.bool true))/\OldK s₁.heap s'.heap/\s'.os=s₁.os/\AllBare s'.gens) s₁) :
 WalkO q loose XP YP l.row.toRowW d [] (λf vs=>PySem.call f vs):=by
 intro w s₀ s₁ mg mb G Y fa o pm cd doc dV kV ho hd hcd hD hmg hg args vals as hpre hlay hrd hwl hlo
 obtain rfl:dV= .none:=Dflts.none hD hdf
 obtain rfl:kV= .none:=Dflts.noKw hD
 obtain⟨a,vs,ns,rfl,rfl,hobj,hints,hlen⟩:=rW hn hpre hwl
 refine enter_call (codeAny_mono (call w s₀ s₁ mg mb fa o pm cd doc a vs ns G Y ho (fd_plain hd) hcd hmg hobj hints hlen (AD hlay) hg) λr s' hq=>?_)
 obtain⟨rfl,h2,h3,h4⟩:=hq
 exact⟨.inl ⟨.bool true,.bool true,[],rfl,λ_=>rfl,.bool true,rX l _,λ_=>⟨List.Pairwise.nil,λ_ hm=>(nomatch hm)⟩⟩,h2,h3,h4⟩
end Att
namespace L2
open PySem PySem.Spec PyProof.Rows
end L2
namespace L3
open PySem PySem.Spec PyProof.Rows L2 Att
def AE(i j:Int):Prop:=MulOk i j\/zh i j\/(vg i/\∃n,Sm n j/\n<=1000)
theorem AE.ok{i j:Int}(h:AE i j):IntMulOk i j:=by
 rcases h with h|h|⟨h,n,h1,h2⟩
 ·exact h.ok
 ·exact h.ok
 ·have:=iQ h1
  exact IntMulOk.of_bits (Jp h (by decide)) (Jp this (by omega))
section
variable{X:Cx}
theorem eF:jd X (binaryOp .Mult) (lV AE λi j=>i*j):=oN (Br λ_ _ _ _ _ _ _ hc q=>mul_int q hc.ok)
end
end L3
namespace L3
open PySem PySem.Spec PyProof.Rows L2
section
variable{X:Cx}{sc:Scope}{x:Str}{ys:List Str}{fs:List Nat}
end
section
variable{X:Cx}{sc:Scope}{x:Str}{ys:List Str}{fs:List Nat}{elt iter:Expr}{px pos:Pos}{ifs:List Expr}{tt:iO}{te:bT}{ti:bT}
end
end L3
namespace L3
open PySem PySem.Spec PyProof.Rows L2
section
variable{X:Cx}{pos:Pos}
end
end L3
namespace L2
open PySem PySem.Spec PyProof.Rows
section
variable{X:Cx}{pins:List (Addr ×Obj)}{σ:St}{H:Hp}{s:Shared}{h':Heap}
end
section
variable{X:Cx}
end
end L2
namespace L3
open PySem PySem.Spec PyProof.Rows L2
section
variable{X:Cx}{pos:Pos}{body:List Stmt}{g:oi}{tb:gT}
end
end L3
namespace L3
open PySem PySem.Spec PyProof.Rows L2
section
variable{X:Cx}{pins:List (Addr ×Obj)}{σ:St}{s:Shared}
end
section
variable{X:Cx}{pos:Pos}
end
end L3
namespace L3
open PySem
structure Way where
 al:Int
 be:Int
def Way.f(w:Way)(p:Pl):Int:=w.al*p.x+w.be*p.y
section
variable{w:Way}
end
end L3
namespace L3
open PySem PySem.Spec PyProof.Rows L2
theorem cC:bootBuiltins "str" =some (.type "str"):=by decide +kernel
theorem xM{P:Program}{w:World}{K:PySem.W.Frag}{mg:Str->Option Value}{base:Heap}{k:Nat}{f:Addr}{fd:FuncData}{ps:List Str}:b9 P w K mg base dR k f fd ps (mY K λ_ _ _=>False):=
 ⟨λ_ _ _ _ ⟨_,_,_,_,_,h,_⟩=>h.elim,λ_ _ _ _ _ _ _ _ _ _ _ _ _ ⟨_,_,_,_,_,h,_⟩=>h.elim⟩
theorem Le.put{M M':Mp}{p:Addr}{o:MO}(h:Le M M'):Le (aH M p o) (aH M' p o):=λc u e=>by
 by_cases hc:c=p
 ·subst hc
  rw[au]at e ⊢;exact e
 ·rw[aR hc]at e ⊢
  exact h c u e
theorem Le.free{M M':Mp}{p:Addr}(h:Le M M')(e:M' p=none):M p=none:=by
 cases k:M p with
 |none=>rfl
 |some o=>rw[h p o k]at e;cases e
theorem vh{n:Nat}{z:Int}(h:Sm n z)(hn:n<=1000):Att.vg z:=by
 have:=iQ h
 show Builtin.Int.intBits z<=1048576
 omega
def hz(qs:List Pl):Pl:=qs.headD ⟨0,0⟩
def lz(qs:List Pl):Pl:=qs.getLastD ⟨0,0⟩
def mw:Nat->D->Bool
 |0,_=>false
 |_+1,.int _=>true
 |_+1,.aZ=>true
 |_+1,.str _=>true
 |n+1,.tup ds=>decide (ds.length<=1000) && ds.all (mw n)
 |_+1,_=>false
def HH(M:Mp)(n:Nat)(d e:D):Prop:=(d=e/\mw n d=true)\/∃(f g:Addr) (xs:List D),d= .ref f/\e= .ref g/\M f=some (.lst xs)/\M g=some (.lst xs)/\xs.all (mw (n-1))=true/\xs.length<=1000
def qY(n:Nat):mX:=λds M Q=>∃d e:D,ds=[d,e]/\HH M n d e/\Q (.bl true) M
theorem kF{α:Type}(g:α->D)(xs:List α)(n:Nat)(h:n<=xs.length):cutD (xs.map g) none (some (n:Int))=(xs.take n).map g:=by
 unfold cutD
 rw[HT.qH,HT.oB]
 rw[Iw,JS h,List.map_take,KY,Nat.sub_zero]
end L3
namespace HD
open PySem PySem.W L2
theorem CO:dA=gS:=funext λs=>by cases s<;>rfl
theorem CP:dB=cM:=funext λs=>by cases s<;>rfl
theorem CQ:dS=ay:=funext λs=>by cases s<;>rfl
theorem qf(h:Heap):∀as:List Addr,(mE h as).In h
 |[],_,_,e=>nomatch e
 |b::r,a,o,e=>by
  unfold mE at e
  cases q:h.get? b with
  |none=>rw[q]at e;exact qf h r a o e
  |some x=>
   rw[q]at e
   replace e:List.lookup a ((b,x)::mE h r)=some o:=e
   rw[IT]at e
   cases z:a==b with
   |true=>
    rw[z]at e
    obtain rfl:a=b:=eq_of_beq z
    cases e;exact q
   |false=>rw[z]at e;exact qf h r a o e
theorem gF{h:Heap}{a:Addr}{o:Obj}(e:h.get? a=some o):∀{as:List Addr},a∈as->(mE h as).lookup a=some o
 |b::r,m=>by
  unfold mE
  by_cases z:a=b
  ·subst z
   rw[e]
   show List.lookup a ((a,o)::mE h r)=some o
   rw[IT,beq_self_eq_true]
  ·have m':a∈r:=by
    rcases IJ.mp m with y|y
    ·exact absurd y z
    ·exact y
   cases q:h.get? b with
   |none=>exact gF e m'
   |some x=>
    show List.lookup a ((b,x)::mE h r)=some o
    rw[IT,beq_eq_false_iff_ne.mpr z]
    exact gF e m'
theorem xN{K:Frag}{o:Obj}(e:K.lookup mainGlobals=some o)(n:Str):nsIn K mainGlobals n=nsIn [(mainGlobals,o)] mainGlobals n:=by
 unfold nsIn
 rw[e]
 rfl
def E3(K:Frag)(p:Str ×Stmt):Prop:= ∃f fd,nsIn K mainGlobals p.1=some (some (.ref f))/\jx K p.1 p.1 p.2 f fd
def nA(K:Frag):List (Str ×Stmt)->Prop
 |[]=>True
 |p::r=>E3 K p/\nA K r
def AllB(K:Frag):List Str->Prop
 |[]=>True
 |b::r=>nsIn K mainGlobals b=some none/\AllB K r
def YP(fs:List (Str ×Stmt))(bs:List Str)(h:Heap):Prop:= ∃K:Frag,K.In h/\nA K fs/\AllB K bs
theorem keeps{fs:List (Str ×Stmt)}{bs:List Str}{h h':Heap}(y:YP fs bs h)(k:∀b o,h.get? b=some o->h'.get? b=some o):YP fs bs h':=
 let ⟨K,i,a,b⟩:=y
 ⟨K,i.keeps k,a,b⟩
theorem nB{h:Heap}{as:List Addr}{n:Str}{r:Option Value}(m:mainGlobals∈as)(e:x9 h n=some r):nsIn (mE h as) mainGlobals n=some r:=by
 unfold x9 at e
 cases q:h.get? mainGlobals with
 |none=>rw[q]at e;cases e
 |some o=>rw[q]at e;rw[xN (gF q m)];exact e
theorem qZ{h:Heap}{n:Str}{f:Addr}{fd:FuncData}(e:fnAt h n=some (f,fd)):x9 h n=some (some (.ref f))/\∃oc od sl,h.get? f=some ⟨oc,od,.func fd,sl⟩:=by
 unfold fnAt at e
 split at e
 ·rename_i g hg
  split at e
  ·rename_i oc od fd' sl hq
   cases e
   exact⟨hg,oc,od,sl,hq⟩
  ·cases e
 ·cases e
theorem o7{h:Heap}{v:Value}{q:Str}{as:List Addr}(e:gu h v=some q)(m:∀c,v= .ref c->c∈as):codeIn (mE h as) v q=true:=by
 unfold gu at e
 split at e
 ·rename_i c
  split at e
  ·rename_i oc od vs sl hc
   split at e
   ·rename_i a q' tk r hv
    cases e
    unfold codeIn
    dsimp only
    rw[gF hc (m c rfl)]
    dsimp only
    rw[hv]
    dsimp only
    exact beq_self_eq_true _
   ·cases e
  ·cases e
 ·cases e
theorem AF{h:Heap}{p:Str ×Stmt}{as:List Addr}(m0:mainGlobals∈as)(m:∀a∈adr h p.1,a∈as)
 (e:(fnAt h p.1).map (λx=>(blank x.2,gu h x.2.code))=some (fnOf p.1 p.1 (gS p.2) (cM p.2) (ay p.2) .none .none .none .none none .none .none,some p.1)):E3 (mE h as) p:=by
 obtain⟨⟨f,fd⟩,hf,hq⟩:=Jw.mp e
 obtain⟨h1,oc,od,sl,h2⟩:=qZ hf
 obtain⟨e1,e2⟩:=Prod.mk.inj hq
 have hadr:adr h p.1=f::(match fd.code with| .ref c=>[c]|_=>[]):=by unfold adr;rw[hf]<;>rfl
 have E4:f∈as:=m f (by rw[hadr];exact .head _)
 have lk:=gF h2 E4
 have hc:codeIn (mE h as) fd.code p.1=true:=o7 e2 λc hc=>m c (by rw[hadr,hc];exact .tail _ (.head _))
 have hfd:fd=fnOf p.1 p.1 (gS p.2) (cM p.2) (ay p.2) .none fd.kwdefaults fd.doc fd.pyModule fd.annotations fd.code fd.closureTuple:=by
  cases fd
  unfold blank at e1
  simp only[FuncData.mk.injEq]at e1
  obtain⟨a1,a2,a3,a4,a5,a6,a7,a8,a9⟩:=e1
  simp only[FuncData.mk.injEq]
  exact⟨a1,a2,a3,a4,a5,a6,a7,a8,trivial,trivial,trivial,trivial,trivial,trivial,by simpa using a9⟩
 refine⟨f,fd,nB m0 h1,⟨oc,od,fd.kwdefaults,fd.doc,fd.pyModule,fd.annotations,fd.code,fd.closureTuple,sl,hfd,lk,hc⟩,?_⟩
 unfold keepIn
 dsimp only
 rw[lk]
theorem q8{h:Heap}{as:List Addr}(m0:mainGlobals∈as):∀{fs:List (Str ×Stmt)},(∀a∈fs.flatMap (λp=>adr h p.1),a∈as)->
 fs.map (λp=>(fnAt h p.1).map λx=>(blank x.2,gu h x.2.code))=fs.map (λp=>some (fnOf p.1 p.1 (gS p.2) (cM p.2) (ay p.2) .none .none .none .none none .none .none,some p.1))->nA (mE h as) fs
 |[],_,_=>trivial
 |p::r,m,e=>by
  rw[IP,IP]at e
  obtain⟨e1,e2⟩:=List.cons.inj e
  rw[List.flatMap_cons]at m
  exact⟨AF m0 (λa ha=>m a (IK.mpr (.inl ha))) e1,q8 m0 (λa ha=>m a (IK.mpr (.inr ha))) e2⟩
theorem allB_of{h:Heap}{as:List Addr}(m0:mainGlobals∈as):∀{bs:List Str},bs.map (λb=>x9 h b)=bs.map (λ_=>some none)->AllB (mE h as) bs
 |[],_=>trivial
 |b::r,e=>by
  rw[IP,IP]at e
  obtain⟨e1,e2⟩:=List.cons.inj e
  exact⟨nB m0 e1,allB_of m0 e2⟩
theorem i0{K:Frag}:∀{l:List (Str ×Stmt)},nA K l->∀{i:Nat} {p:Str ×Stmt},l[i]?=some p->E3 K p
 |_::_,h,0,_,e=>by cases e;exact h.1
 |_::_,h,i+1,_,e=>i0 h.2 (i:=i) e
theorem bR{K:Frag}:∀{l:List Str},AllB K l->∀{i:Nat} {b:Str},l[i]?=some b->nsIn K mainGlobals b=some none
 |_::_,h,0,_,e=>by cases e;exact h.1
 |_::_,h,i+1,_,e=>bR h.2 (i:=i) e
noncomputable def fA{K:Frag}{l:List (Str ×Stmt)}(h:nA K l)(i:Nat){p:Str ×Stmt}(e:l[i]?=some p):Addr:=(i0 h e).choose
noncomputable def fD{K:Frag}{l:List (Str ×Stmt)}(h:nA K l)(i:Nat){p:Str ×Stmt}(e:l[i]?=some p):FuncData:=(i0 h e).choose_spec.choose
theorem cS{K:Frag}{l:List (Str ×Stmt)}(h:nA K l)(i:Nat){p:Str ×Stmt}(e:l[i]?=some p):nsIn K mainGlobals p.1=some (some (.ref (fA h i e))):=(i0 h e).choose_spec.choose_spec.1
theorem bZ{K:Frag}{l:List (Str ×Stmt)}(h:nA K l)(i:Nat){p:Str ×Stmt}(e:l[i]?=some p):jx K p.1 p.1 p.2 (fA h i e) (fD h i e):=(i0 h e).choose_spec.choose_spec.2
end HD
namespace HD
open PySem PySem.W L2 L3 PyProof.Rows
theorem qg{h:Heap}{a:Addr}:∀{as:List Addr},a∉as->(mE h as).lookup a=none
 |[],_=>rfl
 |b::r,m=>by
  unfold mE
  have ne:a≠b:=λz=>m (by rw[z];exact .head _)
  have m':a∉r:=λz=>m (.tail _ z)
  cases q:h.get? b with
  |none=>exact qg m'
  |some x=>
   show List.lookup a ((b,x)::mE h r)=none
   rw[IT,beq_eq_false_iff_ne.mpr ne]
   exact qg m'
structure CS(K:Frag)(n:Str)(a:Addr)(h:Heap):Prop where
 code:∀f fd,nsIn K mainGlobals n=some (some (.ref f))->(∃oc od sl,K.lookup f=some ⟨oc,od,.func fd,sl⟩)->∃c o vs file tf flags tg wY text tt,fd.code= .ref c/\K.lookup c=some o/\o.cls= .type "code"/\o.data= .fields vs/\vs[11]?=some (.ref a)/\vs.getD 18 .none= .str file tf/\vs.getD 7 .none= .int flags tg/\vs.getD 9 .none= .bool wY/\vs.getD 10 .none= .int text tt
 bm:∃b o,nsIn K mainGlobals "__builtins__" =some (some (.ref b))/\b≠builtinsNs/\K.lookup b=some o/\o.cls= .type "module"/\o.dict=some builtinsNs/\o.data= .plain
 tab:h.get? a=some {cls:= .none,data:= .fields #[]}
 Gd:isCodeTable h a
 st:a≠cStatics
 no:K.lookup a=none
def CT(fs:List (Str ×Stmt))(bs:List Str)(n:Str)(h:Heap):Prop:= ∃(K:Frag) (a:Addr),K.In h/\nA K fs/\AllB K bs/\CS K n a h
theorem AG{fs:List (Str ×Stmt)}{bs:List Str}{n:Str}{h h':Heap}(y:CT fs bs n h)(k:∀b o,h.get? b=some o->h'.get? b=some o):CT fs bs n h':=
 let ⟨K,a,i,f,b,t⟩:=y
 ⟨K,a,i.keeps k,f,b,t.code,t.bm,k _ _ t.tab,(let ⟨c,o,vs,e1,e2⟩:=t.Gd;⟨c,o,vs,k _ _ e1,e2⟩),t.st,t.no⟩
theorem qh{h:Heap}{n:Str}{c:Addr}{o:Obj}(e:mF h n=some (c,o)):∃f fd,fnAt h n=some (f,fd)/\fd.code= .ref c/\h.get? c=some o:=by
 unfold mF at e
 split at e
 ·rename_i f fd hf
  split at e
  ·rename_i c' hc
   split at e
   ·rename_i o' ho
    cases e
    exact⟨f,fd,hf,hc,ho⟩
   ·cases e
  ·cases e
 ·cases e
theorem rf{v:Value}{t:String}(h:vU v t=true):v= .type t:=by
 unfold vU at h
 split at h
 ·rw[beq_iff_eq.mp h]
 ·cases h
theorem vm{vs:Array Value}{a:Addr}(h:tabIn vs=some a):∃file tf flags tg wY text tt,vs[11]?=some (.ref a)/\vs.getD 18 .none= .str file tf/\vs.getD 7 .none= .int flags tg/\vs.getD 9 .none= .bool wY/\vs.getD 10 .none= .int text tt:=by
 unfold tabIn at h
 split at h
 ·rename_i w1 w2 w3 w4 w5
  cases h
  exact⟨_,_,_,_,_,_,_,w1,w2,w3,w4,w5⟩
 ·cases h
theorem vn{h:Heap}{n:Str}{a:Addr}(e:tabAt h n=some a):∃f fd c o vs,fnAt h n=some (f,fd)/\fd.code= .ref c/\h.get? c=some o/\o.cls= .type "code"/\o.data= .fields vs/\tabIn vs=some a:=by
 unfold tabAt at e
 split at e
 ·rename_i c o hc
  obtain⟨f,fd,q1,q2,q3⟩:=qh hc
  split at e
  ·rename_i ht
   split at e
   ·rename_i vs hv
    exact⟨f,fd,c,o,vs,q1,q2,q3,rf ht,hv,e⟩
   ·cases e
  ·cases e
 ·cases e
theorem xO{h:Heap}{b:Addr}(e:yN h=some b):∃o,x9 h "__builtins__" =some (some (.ref b))/\b≠builtinsNs/\h.get? b=some o/\o.cls= .type "module"/\o.dict=some builtinsNs/\o.data= .plain:=by
 unfold yN at e
 split at e
 ·rename_i b' hb'
  split at e
  ·rename_i o ho
   split at e
   ·rename_i hd
    cases e
    unfold ya at hd
    simp only[IS,beq_iff_eq,bne_iff_ne,ne_eq]at hd
    obtain⟨⟨⟨h1,h2⟩,h3⟩,h4⟩:=hd
    refine⟨o,hb',h4,ho,rf h1,h2,?_⟩
    split at h3
    ·assumption
    ·cases h3
   ·cases e
  ·cases e
 ·cases e
theorem o8{h:Heap}{a:Addr}(e:jR h a=true):h.get? a=some {cls:= .none,data:= .fields #[]}:=by
 unfold jR at e
 split at e
 ·rename_i o ho
  obtain⟨cl,di,da,sl⟩:=o
  simp only[IS,KJ,Option.isNone_iff_eq_none]at e
  obtain⟨⟨⟨h1,h2⟩,h3⟩,h4⟩:=e
  have h1:cl= .none:=by
   unfold Ba at h1
   split at h1
   ·rfl
   ·cases h1
  have h3:sl= #[]:=Array.toList_inj.mp (by rw[h3])
  have h4:da= .fields #[]:=by
   cases da with
   |fields vs=>
    have:vs.toList=[]:=KJ.mp h4
    rw[show vs= #[]from Array.toList_inj.mp this]
   |_=>cases h4
  subst h1 h2 h3 h4
  exact ho
 ·cases e
theorem xP{fs:List (Str ×Stmt)}{bs:List Str}{n:Str}{s:Shared}(hn:∃st,(n,st)∈fs)(e:yO fs bs n s=tF fs bs):CT fs bs n s.heap:=by
 obtain⟨e1,e2⟩:=Prod.mk.inj e
 rw[good,CO,CP,CQ]at e1
 obtain⟨e3,e4⟩:=Prod.mk.inj e1
 unfold yb at e2
 split at e2
 ·rename_i a b ha hb
  simp only[IS,IM,bne_iff_ne,ne_eq]at e2
  obtain⟨⟨⟨t1,t2⟩,t3⟩,t4⟩:=e2
  have na:a∉b::rH s.heap fs:=λz=>by
   rcases IJ.mp z with z|z
   ·exact t3 z.symm
   ·exact t4 a z rfl
  have m0:mainGlobals∈b::rH s.heap fs:= .tail _ (.head _)
  obtain⟨f,fd,c,Ge,vs,q1,q2,q3,q4,q5,q6⟩:=vn ha
  obtain⟨file,tf,flags,tg,wY,text,tt,w1,w2,w3,w4,w5⟩:=vm q6
  obtain⟨ob,b1,b2,b3,b4,b5,b6⟩:=xO hb
  refine⟨mE s.heap (b::rH s.heap fs),a,qf _ _,q8 m0 (λx hx=> .tail _ (.tail _ hx)) e3,allB_of m0 e4,?_,⟨b,ob,nB m0 b1,b2,gF b3 (.head _),b4,b5,b6⟩,o8 t1,⟨c,Ge,vs,q3,q4,q5,w1⟩,t2,qg na⟩
  intro f' fd' hf' E5
  obtain⟨st,hst⟩:=hn
  obtain⟨r1,oc,od,Io,r2⟩:=qZ q1
  rw[nB (as:=b::rH s.heap fs) m0 r1]at hf'
  cases hf'
  have Gf:∀x∈adr s.heap n,x∈b::rH s.heap fs:=λx hx=> .tail _ (.tail _ (List.mem_flatMap.mpr ⟨(n,st),hst,hx⟩))
  have hadr:adr s.heap n=f::[c]:=by unfold adr;rw[q1];dsimp only;rw[q2]
  obtain⟨Ip,od',Fi,r4⟩:=E5
  have r5:=gF r2 (Gf f (by rw[hadr];exact .head _))
  rw[r5]at r4
  cases r4
  exact⟨c,Ge,vs,file,tf,flags,tg,wY,text,tt,q2,gF q3 (Gf c (by rw[hadr];exact .tail _ (.head _))),q4,q5,w1,w2,w3,w4,w5⟩
 ·cases e2
def yK(a:Addr)(H:Hp):Prop:=H a=some (.ext (ja a #[]))/\∀b,b≠a->H b=none\/∃o xs,H b=some (.fZ o (.lst xs))
theorem sM{P:Program}{w:World}{K:Frag}{mg mb:Str->Option Value}{k:Nat}{fa a tA:Addr}{fd:FuncData}{x:Str}{sp:Sp}{s₁:Shared}{vs:List Value}{ns:List Int}
 (KX:K.In s₁.heap)(hns:s₁.heap.Ns mainGlobals mg)(hb:s₁.heap.Ns builtinsNs mb)(HJ:∀x:Str,x≠"__name__"->mb x=bootBuiltins x)(hlim:s₁.heap.NoLimit)(hg:s₁.gens= #[])
 (ha:s₁.heap.get? a=some {cls:= .type "list",data:= .seq vs.toArray})(hi:IntsAre vs ns)(hl:ns.length<=sizeLine)(hr:bV k callerA)
 (hT:s₁.heap.get? tA=some {cls:= .none,data:= .fields #[]})(hC:isCodeTable s₁.heap tA)(hno:K.lookup tA=none)
 (F:∀base:Heap,K.In base->base.Ns mainGlobals mg->b9 P w K mg base dR k fa fd [x] sp)(hbind:∀(s:Shared) (u:Value),BindsTo s fd ⟨[u],[]⟩ [(x,u)])
 (ym:∀H:Hp,yK tA H->gY K H a (ns.map V.int)->sp [.ref a] H (λv H'=>v= .bl true/\∃ps,H' tA=some (.ext (ja tA ps))) λ_ _ _=>False) :
 codeAny (model P w) callerA (.call (.ref fa) ⟨[.ref a],[]⟩) (λr s'=>r= .ok (.ret (.bool true))/\OldK s₁.heap s'.heap/\s'.os=s₁.os/\AllBare s'.gens) s₁:=by
 have rv:=lU hi
 have E6:=hi.length
 have hat:a≠tA:=λz=>by rw[z,hT]at ha;exact absurd (congrArg Obj.data (Option.some.inj ha)) (λw=>nomatch w)
 have core:∀H:Hp,yK tA H->gY K H a (ns.map V.int)->d9 P w H s₁.heap->(∀b,H b≠none->b=a\/b=tA)->(H a≠none->K.lookup a=none)->
  codeAny (model P w) callerA (.call (.ref fa) ⟨[.ref a],[]⟩) (λr s'=>r= .ok (.ret (.bool true))/\OldK s₁.heap s'.heap/\s'.os=s₁.os/\AllBare s'.gens) s₁:=by
  intro H hO hS hok hA hK
  have rj:∀{b:Addr} {o:Obj},s₁.heap.get? b=some o->H b=none->(mK s₁.heap H).get? b=some o:=λe n=>tK e n
  have BB:∀{b:Addr} {o:Obj} {es:Array DictEntry} {ep:Nat},s₁.heap.get? b=some o->o.data= .dict es ep->H b=none:=λ{b o es ep} e d=>by
   cases q:H b with
   |none=>rfl
   |some u=>
    rcases hA b (by rw[q];simp)with e'|e'
    ·subst e'
     rw[ha]at e;cases e
     exact nomatch d
    ·subst e'
     rw[hT]at e;cases e
     exact nomatch d
  have Ds:∀{b:Addr} {m:Str->Option Value},s₁.heap.Ns b m->(mK s₁.heap H).Ns b m:=λ{b m} ⟨o,es,ep,e,d,r⟩=>⟨o,es,ep,rj e (BB e d),d,r⟩
  have Gg:K.In (mK s₁.heap H):=λb o e=>rj (KX b o e) (by
   cases q:H b with
   |none=>rfl
   |some u=>
    rcases hA b (by rw[q];simp)with e'|e'
    ·subst e'
     rw[hK (by rw[q];simp)]at e;cases e
    ·subst e'
     rw[hno]at e;cases e)
  have hM:Mod K mg (mK s₁.heap H):=⟨Gg,Ds hns,⟨mb,Ds hb,HJ⟩,let ⟨mc,h1,h2⟩:=hlim;⟨mc,Ds h1,h2⟩⟩
  have e0:mR P w K mg (mK s₁.heap H) callerA [] s₁ H:=⟨rfl,hM,λb o e=>vV e,Nat.le_of_eq (rK _ _),trivial,λb hb=>absurd (show b∈([]:List Addr)from hb) (by simp),hok,.of_eq hg⟩
  refine codeAny_mono ((F _ Gg (Ds hns)).run callerA [] s₁ H ⟨[.ref a],[]⟩ [.ref a] [.ref a] _ _ hr e0 (hbind s₁ (.ref a)) (.cons rfl .nil) (ym H hO hS)) λr s' h=>?_
  cases r with
  |error e=>exact False.elim h
  |ok fl=>
   cases fl with
   |next=>exact False.elim h
   |brk=>exact False.elim h
   |cont=>exact False.elim h
   |ret u=>
    obtain⟨v,H',os,bare,un,w6,r',q,ps,ht⟩:=h
    subst q
    obtain rfl:u=Value.bool true:=r'
    have tab:s'.heap.get? tA=some {cls:= .none,data:= .fields ps}:=(show bE P w H' s'.heap tA (.ext (ja tA ps))from w6 tA _ ht).1
    have rest:∀b o,b≠tA->s₁.heap.get? b=some o->s'.heap.get? b=some o:=λb o hb e=>by
     cases q:H b with
     |none=>exact un.keep b o e q (by intro z;exact absurd (show b∈([]:List Addr)from z) (by simp)) (by simp)
     |some u=>
      rcases hO.2 b hb with z|⟨ob,xs,z⟩
      ·rw[q]at z;cases z
      ·have z2:=un.mJ b ob _ z
       obtain⟨e1,_⟩:=hok b _ z
       obtain⟨e2,_⟩:=w6 b _ z2
       rw[e]at e1;cases e1
       exact e2
    refine⟨rfl,⟨λb o e=>?_,λb o e=>?_⟩,os,bare⟩
    ·by_cases hb:b=tA
     ·subst hb
      rw[hT]at e;cases e
      exact .inr (.inl ⟨hC,rfl,#[],ps,rfl,by rw[tab];simp⟩)
     ·exact .inl (rest b o hb e)
    ·by_cases hb:b=tA
     ·exact⟨_,by rw[hb];exact tab⟩
     ·exact⟨o,rest b o hb e⟩
 have Gh:∀H:Hp,bE P w H s₁.heap tA (.ext (ja tA #[])):=λH=>⟨hT,⟨_,hT⟩,λh1 h2 p1 k=>k _ p1⟩
 cases hk:K.lookup a with
 |some o=>
  have e:=KX a o hk
  rw[ha]at e
  cases e
  refine core (upd (λ_=>none) tA (.ext (ja tA #[]))) ⟨aU,λb hb=> .inl (aD hb)⟩ (.inr ⟨_,vs.toArray,_,hk,rfl,rfl,rfl,by rw[IA,E6];exact hl,by simpa using rv⟩) (λb u z=>?_) (λb z=>?_) (λz=>absurd (aD hat) z)
  ·by_cases hb:b=tA
   ·subst hb;rw[aU]at z;cases z;exact Gh _
   ·rw[aD hb]at z;cases z
  ·by_cases hb:b=tA
   ·exact .inr hb
   ·exact absurd (aD hb) z
 |none=>
  refine core (upd (upd (λ_=>none) a (.fZ {cls:= .type "list",data:= .seq vs.toArray} (.lst (ns.map V.int)))) tA (.ext (ja tA #[]))) ⟨aU,λb hb=>?_⟩ (.inl (.inr ⟨{cls:= .type "list",data:= .seq vs.toArray},by rw[aD hat];exact aU⟩)) (λb u z=>?_) (λb z=>?_) λ_=>hk
  ·rw[aD hb]
   by_cases hb2:b=a
   ·subst hb2;exact .inr ⟨_,_,aU⟩
   ·exact .inl (aD hb2)
  ·by_cases hb:b=tA
   ·subst hb;rw[aU]at z;cases z;exact Gh _
   ·rw[aD hb]at z
    by_cases hb2:b=a
    ·subst hb2
     rw[aU]at z
     cases z
     exact⟨ha,by rw[Iw];exact hl,vs,_,rv,ha⟩
    ·rw[aD hb2]at z;cases z
  ·by_cases hb:b=tA
   ·exact .inr hb
   ·rw[aD hb]at z
    by_cases hb2:b=a
    ·exact .inl hb2
    ·exact absurd (aD hb2) z
theorem vo{l:OpenLaw}{n k:Nat}{q:Program}{loose:List Str}{XP:(Str->Option Value)->Heap->Prop}{YP:World->Heap->Prop}{d:DefRec}{S:Addr->mX}{x:Str}
 (hn:l.most=some n)(hn2:n<=sizeLine)(hdf:d.params.defaults=[])(hr:bV k callerA)
 (F:∀(w:World) (mg:Str->Option Value) (fa:Addr) (h:Heap),YP w h->h.Ns mainGlobals mg->mg d.name=some (.ref fa)->
  ∃(K:Frag) (fd:FuncData) (tA:Addr),K.In h/\h.get? tA=some {cls:= .none,data:= .fields #[]}/\isCodeTable h tA/\K.lookup tA=none/\(∀(s:Shared) (u:Value),BindsTo s fd ⟨[u],[]⟩ [(x,u)])/\
   ∀base:Heap,K.In base->base.Ns mainGlobals mg->b9 l.prog w K mg base dR k fa fd [x] (mY K (S tA)))
 (ym:∀(tA:Addr) (ns:List Int),ns.length<=n->(∀z∈ns,Att.vg z)->∃q,S tA [.pQ (ns.map L3.D.int)] (aH A2 tA (.oH q)) λd M=>d= .bl true/\∃q,M tA=some (.oH q)) :
 WalkO q loose XP YP l.row.toRowW d [] (λf vs=>PySem.call f vs):=by
 refine Att.nv hn hdf λw s₀ s₁ mg mb fa o pm cd doc a vs ns G Y ho hd hcd hmg hobj hints hlen hbig hg=>?_
 obtain⟨K,fd,tA,KX,hT,hC,hno,hb,hF⟩:=F w mg fa _ Y G.T.g hmg
 refine sM (sp:=mY K (S tA)) KX G.T.g G.T.b G.T.builtins G.T.nolimit hg hobj hints (Jp hlen hn2) hr hT hC hno hF hb λH hO hS=>?_
 have hz:Fz K H a (ns.map V.int):=by
  rcases hS with(h|⟨o,h⟩)|h
  ·by_cases e:a=tA
   ·rw[e,hO.1]at h;cases h
   ·rcases hO.2 a e with z|⟨o,xs,z⟩
    ·rw[z]at h;cases h
    ·rw[z]at h;cases h
  ·exact .inl ⟨o,h⟩
  ·exact .inr h
 obtain⟨q,hq⟩:=ym tA ns hlen hbig
 refine⟨[.pQ (ns.map L3.D.int)],_,_,aB.one (iN.mpr ⟨a,_,rfl,hz,lZ ns⟩),λb u e=>?_,hq,λd M' v H' q' dv rm _=>?_⟩
 ·by_cases hb:b=tA
  ·subst hb
   rw[au]at e;cases e
   exact⟨#[],hO.1,trivial,λpos v z=>by cases z⟩
  ·rw[aR hb]at e;cases e
 ·obtain⟨rfl,q2,hc⟩:=q'
  obtain⟨ps,hp,_⟩:=rm.oH hc
  exact⟨br.mp dv,ps,hp⟩
end HD
namespace PySem
def kG{prog:Program}{w:World}{K:Type}[DecidableEq K](knd:HeapKind prog w K)(h:Heap)(d:Addr)(xs:List (K ×Addr ×Value)):Prop:= ∃o es,h.get? d=some o/\o.ExactDict/\o.data= .dict es xs.length/\es.toList=xs.map (entryOfKey knd)
theorem o9{prog:Program}{w:World}{K:Type}[DecidableEq K]{knd:HeapKind prog w K}{A:Around}{E:Value->Shared->Prop}{s:Shared}{d a:Addr}{k:K}{v:Value}{xs:List (K ×Addr ×Value)}{Q:Unit->Shared->Prop}(hu:knd.room A)(hkey:knd.is s.heap k a)(hl:kG knd s.heap d xs)(hm:s.heap.DictOfH knd d xs)(hsz:xs.length<=sizeLine)
 (q:∀h',kG knd h' d (storedH xs k a v)->Heap.SameBut d s.heap h'->Q () {s with heap:=h',toks:=s.toks+knd.draws k}):wpAny (model prog w) A (dictSet d (.ref a) v) Q E s:=by
 obtain⟨_,_,_,_,_,_,_,his,hn⟩:=hm
 obtain⟨o,es,ho,hc,hd,he⟩:=hl
 unfold dictSet
 try with_reducible refine wpAny_holding ?_
 refine wpAny_bind (knd.pyHash hu hkey ?_)
 unfold dictSetHashed
 try with_reducible refine wpAny_holding ?_
 refine wpAny_bind (wpAny_dictFind_heap (s:={s with toks:=s.toks+knd.draws k}) hu hkey ho hd he his hn (λno=>?_) λj p hj=>?_)
 ·have e:=storedH_new (atKey_none_of_get no) a v
  have el:xs.length+1=(storedH xs k a v).length:=by rw[e,IX];rfl
  refine wpAny_bind (wpAny_rule (wpAny_updateDictKeys (hz:=by have e:=size_of_entries he;omega) (s:={s with toks:=s.toks+knd.draws k}) ho hd (q _ ⟨_,_,Heap.get?_update_self _ ho (Obj.isFreed_of_dict (Obj.data_mapDictKeys hd _)),hc.mapDictKeys _,(Obj.data_mapDictKeys hd _).trans (congrArg (λn=>Data.dict _ n) el),?_⟩ (Heap.SameBut.update ..))))
  rw[e]
  simp[he,entryOfKey]
 ·have e:=storedH_old (atKey_of_get hn hj) a v
  have el:xs.length=(storedH xs k a v).length:=by rw[e,Iw]
  refine wpAny_bind (wpAny_rule (wpAny_bind (wpAny_updateDict (s:={s with toks:=s.toks+knd.draws k}) ho hd (wpAny_point (q _ ⟨_,_,Heap.get?_update_self _ ho (Obj.isFreed_of_dict (Obj.data_mapDict hd _)),hc.mapDict _,(Obj.data_mapDict hd _).trans (congrArg (λn=>Data.dict _ n) el),?_⟩ (Heap.SameBut.update ..))))))
  rw[e]
  have:=modify_map_putAt (entryOfKey knd) (λe:DictEntry=>{e with val:=v}) k v (λ_ _=>rfl) hn hj
  rw[<-he]at this
  obtain⟨l⟩:=es
  simpa using this
theorem pq{prog:Program}{w:World}{K:Type}[DecidableEq K]{knd:HeapKind prog w K}{A:Around}{E:Value->Shared->Prop}{s:Shared}{d a:Addr}{k:K}{v:Value}{xs:List (K ×Addr ×Value)}{Q:Unit->Shared->Prop}(hu:knd.room A.in1)(hkey:knd.is s.heap k a)(hl:kG knd s.heap d xs)(hm:s.heap.DictOfH knd d xs)(hsz:xs.length<=sizeLine)
 (q:∀h',kG knd h' d (storedH xs k a v)->Heap.SameBut d s.heap h'->Q () {s with heap:=h',toks:=s.toks+knd.draws k}):wpAny (model prog w) A (setItem (.ref d) (.ref a) v) Q E s:=by
 unfold setItem
 try with_reducible refine wpAny_holding ?_
 refine wpAny_bind (wpAny_sequenceKey hm.typeIs (by decide) (wpAny_bind (wpAny_callSpecial?_slot (name:=Str.ofString "__setitem__") hm.typeIs slot_dict_setitem (wpAny_call_entry slot_dict_setitem hm.typeIs entry_dict_setitem ?_ (args_dict_setitem _ _ _)))))
 show wpAny _ _ (Builtin.Dict.notOrdered "__setitem__" ⟨[.ref d,.ref a,v],[]⟩ >>= _) _ _ s
 refine wpAny_bind (wpAny_notOrdered_dict hm.typeIs ?_)
 show wpAny _ _ (dictSet d (.ref a) v >>= _) _ _ s
 exact wpAny_bind (o9 hu hkey hl hm hsz λh' l m=>wpAny_pure ⟨.none,rfl,wpAny_pure (q h' l m)⟩)
end PySem
namespace L3
open PySem PySem.Spec PyProof.Rows L2
theorem vp{P:Program}{w:World}{K:PySem.W.Frag}{H:Hp}{h:Heap}(ok:d9 P w H h){l:List Int}{v:V}{u:Value}(d:Dat K H (.tup (l.map .int)) v)(r:RelV v u):∃b,u= .ref b/\IsTupleKey (intKind P w) h l b:=by
 obtain⟨a,xs,rfl,ha,hx⟩:=aP.mp d
 obtain rfl:u=Value.ref a:=r
 obtain⟨its,rv,⟨o,h1,h2,n,h3⟩,hsz⟩:=cj ok ha
 refine⟨a,rfl,o,its.toArray,n,h1,h2,h3,?_⟩
 rw[Kp]
 clear h3 h2 h1 ha d hsz
 induction l generalizing xs its with
 |nil=>
  rw[aI.mp hx]at rv
  cases rv
  exact .nil
 |cons i l ih=>
  obtain⟨v,vs,rfl,d1,d2⟩:=aF.mp hx
  cases rv with
  |cons r1 r2=>
   obtain rfl:=aJ.mp d1
   obtain⟨t,rfl⟩:=r1
   exact .cons (intKind_is _ _ _ _) (ih _ d2 _ r2)
theorem kH{α β:Type}{F:α->β->Prop}:∀{l₁:List α} {l₂:List β},Paired F l₁ l₂->∀y∈l₂,∃x∈l₁,F x y
 |_,_,.nil,y,m=>by cases m
 |_,_,.cons r t,y,m=>by
  rcases IJ.mp m with rfl|m
  ·exact⟨_,IB,r⟩
  ·obtain⟨x,m1,q⟩:=kH t y m
   exact⟨x,IF _ m1,q⟩
theorem dM{α β:Type}{F:α->β->Prop}:∀{l₁:List α} {l₂:List β},Paired F l₁ l₂->l₁.length=l₂.length
 |_,_,.nil=>rfl
 |_,_,.cons _ t=>by simp[dM t]
section
variable{X:Cx}
theorem rq{pins:List (Addr ×Obj)}{σ:St}{H:Hp}{s:Shared}(I:Inv X pins σ H s):sysModules<s.heap.objs.size:=Nat.lt_trans (show sysModules<mainGlobals by decide) (I.mod.glob.keeps I.bk).lt
end
end L3
namespace L3
open PySem PySem.Spec PyProof.Rows L2
def i6(kvs:List (List Int ×D))(k:List Int):Option D:=(kvs.find? λp=>decide (p.1=k)).map (·.2)
def kI(kvs:List (List Int ×D))(k:List Int)(d:D):List (List Int ×D):=if(i6 kvs k).isSome then kvs.map λp=>if p.1=k then(p.1,d)else p else kvs++[(k,d)]
theorem nC{P:Program}{w:World}{K:PySem.W.Frag}{H:Hp}{h:Heap}(ok:d9 P w H h){k:List Int}{b:Addr}(d:Dat K H (pD k) (.ref b)):IsTupleKey (intKind P w) h k b:=by
 obtain⟨c,e,q⟩:=vp ok d rfl
 cases e
 exact q
theorem vq{P:Program}{w:World}{K:PySem.W.Frag}{H:Hp}{h:Heap}(ok:d9 P w H h){a:Addr}{xs:n9}{kvs:List (List Int ×D)}(hH:H a=some (.ext (dU a xs)))(nd:(xs.map (·.1)).Nodup)(pk:Paired (eY K H) kvs xs):h.DictOfH (tupleKind (intKind P w)) a xs:=by
 obtain⟨⟨o,es,h1,h2,h3,h4⟩,_⟩:=(show bE P w H h a (.ext (dU a xs))from ok a _ hH)
 refine⟨o,es,_,h1,h2,h3,h4,λx m=>?_,nd⟩
 obtain⟨p,_,e,q,_⟩:=kH pk x m
 rw[<-e]
 exact nC ok q
theorem jh{K:PySem.W.Frag}{H:Hp}(k:List Int):∀{kvs:List (List Int ×D)} {xs:n9},Paired (eY K H) kvs xs->(i6 kvs k=none/\atKey xs k=none)\/∃d p v,i6 kvs k=some d/\atKey xs k=some p/\Dat K H d v/\RelV v p.2
 |_,_,.nil=> .inl ⟨rfl,rfl⟩
 |_,_,.cons (a:=p) (b:=x) r t=>by
  obtain⟨e,_,v,dv,rv⟩:=r
  unfold i6 atKey
  rw[JT,JT,<-e]
  by_cases c:p.1=k
  ·rw[decide_eq_true c]
   exact .inr ⟨p.2,x.2,v,rfl,rfl,dv,rv⟩
  ·rw[decide_eq_false c]
   exact jh k t
theorem sN{K:PySem.W.Frag}{H:Hp}{k:List Int}{a:Addr}{d:D}{v:V}{u:Value}(hk:Dat K H (pD k) (.ref a))(hd:Dat K H d v)(r:RelV v u){kvs:List (List Int ×D)}{xs:n9}(pk:Paired (eY K H) kvs xs):Paired (eY K H) (kI kvs k d) (storedH xs k a u):=by
 have app:∀{l₁:List (List Int ×D)} {l₂:n9},Paired (eY K H) l₁ l₂->Paired (eY K H) (l₁++[(k,d)]) (l₂++[(k,a,u)]):=by
  intro l₁ l₂ p
  induction p with
  |nil=>exact .cons ⟨rfl,hk,v,hd,r⟩ .nil
  |cons q _ ih=>exact .cons q ih
 have rep:∀{l₁:List (List Int ×D)} {l₂:n9},Paired (eY K H) l₁ l₂->Paired (eY K H) (l₁.map λp=>if p.1=k then(p.1,d)else p) (l₂.map (putAt k u)):=by
  intro l₁ l₂ p
  induction p with
  |nil=>exact .nil
  |@cons p x _ _ q _ ih=>
   refine .cons ?_ ih
   obtain⟨e,q1,q2⟩:=q
   unfold putAt
   dsimp only
   rw[<-e]
   by_cases c:p.1=k
   ·rw[if_pos c,if_pos c]
    exact⟨rfl,q1,v,hd,r⟩
   ·rw[if_neg c,if_neg c]
    exact⟨e,q1,q2⟩
 unfold kI
 rcases jh k pk with⟨h1,h2⟩|⟨z,p,_,h1,h2,_⟩
 ·rw[h1,storedH_new h2]
  exact app pk
 ·rw[h1,storedH_old h2]
  exact rep pk
section
variable{X:Cx}{pos:Pos}{a b:Expr}{ta tb:bT}
def AH:bT:=λ_ M Q=> ∀p,M p=none->Q (.ref p) (aH M p (.gZ []))
theorem xQ:bJ X (.Dict [] [] pos) AH:=by
 constructor
 intro pins s σ H ρ M Q I r h
 have fr:H s.heap.objs.size=none:=I.hok.fresh (Iu _)
 refine wpAny_Dict_empty ⟨.ref s.heap.objs.size,_,I.laid (a:=s.heap.objs.size) (o:= .ext (dU s.heap.objs.size [])) (t':=s.toks) (λ_ _ q=>Heap.get?_push_of_some _ q) (Iu _) ⟨⟨_,#[],Heap.get?_push_size _ rfl,⟨rfl,rfl,rfl⟩,rfl,rfl⟩,⟨_,Heap.get?_push_size _ rfl⟩,?_⟩,rfl,.ref _,aH M _ (.gZ []),Fr.new fr λ_ hb=>aR hb,aO.mpr rfl,r.mem.Ed fr (beq_eq_false_iff_ne.mpr (Ne.symm (IQ (rq I)))),h _ (r.mem.free fr)⟩
 rintro h1 h2 ⟨o,es,e,q⟩ k
 exact⟨o,es,k o e,q⟩
theorem nE{K:PySem.W.Frag}{H:Hp}{k:List Int}{v:V}(d:Dat K H (pD k) v):∃b,v= .ref b:=by
 obtain⟨b,_,e,_⟩:=aP.mp d
 exact⟨b,e⟩
def CU(K:PySem.W.Frag):R2:=λx y H Q=>∃(a b:Addr) (xs:n9) (kvs:List (List Int ×D)) (k:List Int) (p:Addr ×Value) (v:V),x= .ref a/\y= .ref b/\H a=some (.ext (dU a xs))/\(xs.map (·.1)).Nodup/\Paired (eY K H) kvs xs/\Dat K H (pD k) (.ref b)/\atKey xs k=some p/\RelV v p.2/\Q v H
theorem AI(hu:X.A.units+64<cLine):yq X (CU X.K):=by
 intro value slice pins s σ H x y v u Q I rx ry hx hs
 obtain⟨a,b,xs,kvs,k,p,z,e1,e2,hH,nd,pk,dk,hp,rz,q⟩:=hx
 subst e1;subst e2
 obtain rfl:v=Value.ref a:=rx
 obtain rfl:u=Value.ref b:=ry
 have dd:=vq I.hok hH nd pk
 exact subscriptTail_builtinR (x:=p.2) dd.typeIs slot_dict_getitem.lookup
  (wpAny_getItem_heap (knd:=tupleKind (intKind X.prog X.w)) (Q:=λr s'=>r=p.2/\EP X pins σ Q r s') (by show X.A.units+1<cLine;omega) (nC I.hok dk) dd hp ⟨rfl,z,H,I.tok _,rz,q⟩) hs
def CV:R3:=λd e M Q=>∃a k kvs z,d= .ref a/\e=pD k/\M a=some (.gZ kvs)/\i6 kvs k=some z/\Q z M
theorem rA(hu:X.A.units+64<cLine)(ha:bJ X a ta)(hb:bJ X b tb)(hs:mS b:=by intro _ _;rfl):bJ X (.Subscript a b pos) (uc CV ta tb):=up (yr (AI hu) ha.dn hb.dn hs) λσ H ρ M Q r q=>
 cy r q λv H' d M' f dv r' q=>cy r' q λu H2 e M2 f2 du r2 ⟨l,k,kvs,z,e1,e2,hM,g,q2⟩=>by
  subst e1;subst e2
  obtain rfl:=aO.mp dv
  obtain⟨b,rfl⟩:=nE du
  obtain⟨xs,hH,hy,nd,pk⟩:=r2.mem.gZ hM
  rcases jh k pk with⟨h1,h2⟩|⟨z',p,v,h1,h2,dz,rz⟩
  ·rw[h1]at g;cases g
  ·rw[g]at h1
   cases h1
   exact⟨l,b,xs,kvs,k,p,v,rfl,rfl,hH,nd,pk,du,h2,rz,z,M2,f.trans f2,dz,r2.mem,q2⟩
def CW(K:PySem.W.Frag):v9:=λx y v H Q=>∃(a b:Addr) (xs:n9) (kvs:List (List Int ×D)) (k:List Int),x= .ref a/\y= .ref b/\H a=some (.ext (dU a xs))/\(xs.map (·.1)).Nodup/\Paired (eY K H) kvs xs/\Dat K H (pD k) (.ref b)/\xs.length<=sizeLine/\
 ∀u,RelV v u->((storedH xs k b u).map (·.1)).Nodup->Q (upd H a (.ext (dU a (storedH xs k b u))))
theorem xR(hu:X.A.units+64<cLine):Bm X (CW X.K):=by
 intro pins s σ H o i v ov iv u Q I ro ri rv hx
 obtain⟨a,b,xs,kvs,k,e1,e2,hH,nd,pk,dk,hz,q⟩:=hx
 subst e1;subst e2
 obtain rfl:ov=Value.ref a:=ro
 obtain rfl:iv=Value.ref b:=ri
 have dd:=vq I.hok hH nd pk
 obtain⟨dl,_⟩:=(show bE X.prog X.w H s.heap a (.ext (dU a xs))from I.hok a _ hH)
 have E7:((storedH xs k b u).map (·.1)).Nodup:=by
  unfold storedH
  split
  ·rw[keys_map_putAt];exact nd
  ·rename_i z
   rw[Jk,Je]
   refine⟨nd,by simp,λx hx y hy e=>?_⟩
   have ey:y=k:=by simpa using hy
   obtain⟨p,hp,ep⟩:=Jj.mp hx
   have:atKey xs k≠none:=by
    unfold atKey
    intro n
    rw[JN,JY]at n
    exact n p hp (by simp[ep,e,ey])
   exact this (by simpa using z)
 refine pq (knd:=tupleKind (intKind X.prog X.w)) (by show X.A.units+1<cLine;omega) (nC I.hok dk) dl dd hz λh' Dt hs=>?_
 obtain⟨o,es,g1,g2,g3,g4⟩:=Dt
 refine⟨_,I.write (x:=a) (e:=a) (o:= .ext (dU a (storedH xs k b u))) (t':=s.toks+(tupleKind (intKind X.prog X.w)).draws k) (by rw[hH];trivial) (.inl rfl) (λc z nc e=>(hs.2 c nc).trans e) ⟨o,g1⟩ ⟨⟨o,es,g1,g2,g3,g4⟩,⟨o,g1⟩,?_⟩,q u rv E7⟩
 rintro h1 h2 ⟨o,es,e,q⟩ k
 exact⟨o,es,k o e,q⟩
def CY(to ti:bT):oi:=λd ρ M Q=>to ρ M λo M1=>ti ρ M1 λi M2=>∃l kvs k,o= .ref l/\i=pD k/\M2 l=some (.gZ kvs)/\kvs.length<=1000/\Q ρ (aH M2 l (.gZ (kI kvs k d)))
theorem AJ(hu:X.A.units+64<cLine){o i:Expr}{to ti:bT}{pos:Pos}(ho:bJ X o to)(hi:bJ X i ti)
 (ha:∀v,assign (.Subscript o i pos) X.env v=(do
  let ov <-holding [v] (eval o X.env)
  let iv <-holding [v,ov] (eval i X.env)
  standAt pos
  holding [v,ov,iv] (setItem ov iv v)
  release [v,ov,iv] []):=by intro _;rfl):uu X (.Subscript o i pos) (CY to ti):=by
 constructor
 intro pins s σ H ρ M v d u Q I r rv dv q
 refine ze ho.dn hi.dn (xR hu) ha pins s σ H v u _ I rv (cy r q λx H1 d1 M1 f1 dx r1 q1=>cy r1 q1 λy H2 d2 M2 f2 dy r2 ⟨l,kvs,k,e1,e2,hM,hz,q2⟩=>?_)
 subst e1 e2
 obtain rfl:=aO.mp dx
 obtain⟨b,rfl⟩:=nE dy
 obtain⟨xs,hH,hy,nd,pk⟩:=r2.mem.gZ hM
 have BW:=Dat.mono ((f1.trans f2).ext r.mem) _ _ dv
 have Ce:=f1.trans f2
 refine⟨l,b,xs,kvs,k,rfl,rfl,hH,nd,pk,dy,by rw[<-dM pk,sizeLine_eq];omega,λu' ru E7=>?_⟩
 have fw:Fr M2 H2 (aH M2 l (.gZ (kI kvs k d))) (upd H2 l (.ext (dU l (storedH xs k b u')))):=Fr.write (K:=X.K) hM
 exact⟨ρ,_,Ce.trans fw,r2.go fw (r2.mem.zF hH hy E7 (sN dy BW ru pk)),q2⟩
end
end L3
namespace PySem
open Sem (wp)
theorem nF:typeLookup (.type "list") "keys" =pure none:=by rw[typeLookup_type,builtinLookup_eq_fast];kernel_rfl
theorem sO{prog:Program}{w:World}{A:Around}{E:Value->Shared->Prop}{s:Shared}{a:Addr}{xs:Array Value}{k:Nat}{sl:Array (Option Value)}{Q:Option Value->Shared->Prop}
 (hx:s.heap.get? a=some {cls:= .type "list",dict:=none,data:= .seq xs k,slots:=sl})(hA:A.handled=none)(h:∀h' tk,(∀b o,s.heap.get? b=some o->h'.get? b=some o)->Q none {s with heap:=h',toks:=tk}) :
 wpAny (model prog w) A (getAttr? (.ref a) "keys") Q E s:=by
 obtain⟨hp,g,d,tk,os⟩:=s
 have hT:∀tk',(⟨hp,g,d,tk',os⟩:Shared).TypeIs (.ref a) "list" :=λ_=>⟨_,hx,rfl⟩
 have f1:=sub_AttributeError
 have f3:=F.slot_list_getattribute.lookup
 have f4:=F.slot_list_getattribute.bind (.ref a)
 have f5:=am_list_getattr_none
 unfold getAttr? getAttrBy? getAttrBy
 repeat(any_goals(first|assumption|exact hT _|((with_reducible show wpAny _ _ (call (Value.builtin "list.__getattribute__") _ _) _ _ _);refine call_meets F.slot_list_getattribute (hT _) am_entry_list_getattribute (F.args_list_getattribute_2 _ _) (meets_getattribute_miss_list a xs k sl "keys" _ nF (by decide +kernel) (by size_fits)) ⟨hx,hA,λh' tk' e hx'=>?_⟩)|wp_step))
 obtain⟨t',u',he⟩:=hx'.there
 show wpAny _ _ (getattributeRaised _ _ _ _ _ _ _) _ _ _
 unfold getattributeRaised
 repeat(any_goals(first|assumption|wp_step))
 exact h h' tk' hx'.keeps
theorem gG:entryFor table "dict.update.loop" =some Builtin.«dict.update.loop» :=entryFor_of_tree (by kernel_rfl)
abbrev A9:=Addr ×List Int ×Addr ×Value
def vt(P:Program)(w:World)(h:Heap)(p:A9):Prop:=(∃o n,h.get? p.1=some o/\o.cls= .type "tuple"/\o.data= .seq #[.ref p.2.2.1,p.2.2.2] n)/\IsTupleKey (intKind P w) h p.2.1 p.2.2.1
theorem kJ{P:Program}{w:World}{h h':Heap}(G:∀b o,h.get? b=some o->h'.get? b=some o){k:List Int}{a:Addr}(x:IsTupleKey (intKind P w) h k a):IsTupleKey (intKind P w) h' k a:=by
 obtain⟨o,its,n,h1,h2⟩:=x
 exact⟨o,its,n,G _ _ h1,h2⟩
def xS(ps:List A9)(xs:List (List Int ×Addr ×Value)):List (List Int ×Addr ×Value):=ps.foldl (λxs p=>storedH xs p.2.1 p.2.2.1 p.2.2.2) xs
theorem nG{K:Type}[DecidableEq K]{xs:List (K ×Addr ×Value)}(nd:(xs.map (·.1)).Nodup)(k:K)(b:Addr)(u:Value):((storedH xs k b u).map (·.1)).Nodup:=by
 unfold storedH
 split
 ·rw[keys_map_putAt];exact nd
 ·rename_i z
  rw[Jk,Je]
  refine⟨nd,by simp,λx hx y hy e=>?_⟩
  have ey:y=k:=by simpa using hy
  obtain⟨p,hp,ep⟩:=Jj.mp hx
  have:atKey xs k≠none:=by
   unfold atKey
   intro n
   rw[JN,JY]at n
   exact n p hp (by simp[ep,e,ey])
  exact this (by simpa using z)
theorem qi{K:Type}[DecidableEq K]{xs:List (K ×Addr ×Value)}{k:K}{b:Addr}{u:Value}{I:K->Addr->Prop}(h:∀x∈xs,I x.1 x.2.1)(hk:I k b):∀x∈storedH xs k b u,I x.1 x.2.1:=by
 intro x hx
 unfold storedH at hx
 split at hx
 ·obtain⟨y,hy,rfl⟩:=Jj.mp hx
  have:=h y hy
  unfold putAt
  split
  ·exact this
  ·exact this
 ·rcases IK.mp hx with hx|hx
  ·exact h x hx
  ·obtain rfl:x=(k,b,u):=by simpa using hx
   exact hk
theorem qj{K:Type}[DecidableEq K]{xs:List (K ×Addr ×Value)}{k:K}{b:Addr}{u:Value}:(storedH xs k b u).length<=xs.length+1:=by
 unfold storedH
 split
 ·simp
 ·simp
section
variable{P:Program}{w:World}{A:Around}{E:Value->Shared->Prop}{D I l:Addr}{h0:Heap}{vs:Array Value}{Q:Value->Shared->Prop}
theorem vv(hu:A.units+8<cLine)(hh:A.handled=none)(hl:h0.IsList l vs)(hD:h0.get? D=none)(hI:h0.get? I=none)(hne:D≠I):∀(ps:List A9) (i:Nat) (t:Tok) (xs:List (List Int ×Addr ×Value)) (s:Shared),xs.length+ps.length<=1000->
 (∀p∈ps,vt P w h0 p)->(∀(j:Nat) (p:A9),ps[j]?=some p->vs[i+j]?=some (.ref p.1))->vs[i+ps.length]?=none->(∀b o,h0.get? b=some o->s.heap.get? b=some o)->s.heap.IsListIter I l i->
 (xs.map (·.1)).Nodup->(∀x∈xs,IsTupleKey (intKind P w) h0 x.1 x.2.1)->kG (tupleKind (intKind P w)) s.heap D xs->
 (∀h' tk,(∀b o,b≠D->b≠I->s.heap.get? b=some o->h'.get? b=some o)->kG (tupleKind (intKind P w)) h' D (xS ps xs)->Q .none {s with heap:=h',toks:=tk})->
 codeAny (model P w) A (.builtin "dict.update.loop" ⟨[.ref D,.ref I,.int i t,.none],[]⟩) (wants Q E) s:=by
 intro ps
 induction ps with
 |nil=>
  intro i t xs s _ _ _ he G hit nd ik dl h
  refine codeAny_builtin gG ?_
  unfold Builtin.«dict.update.loop»
  dsimp only
  obtain⟨ol,el,rl⟩:=id hl
  refine wpAny_bind (wpAny_pyNext_list_end hh hit ⟨ol,G _ _ el,rl⟩ he λh' xb=>?_)
  show wpAny _ _ (Builtin.Dict.addKeywords D [] >>= _) _ _ _
  refine wpAny_bind (wpAny_pure (wpAny_pure ?_))
  refine h h' s.toks (λb o _ b2 e=>xb b o b2 e) ?_
  obtain⟨o,es,e1,e2⟩:=dl
  exact⟨o,es,xb _ _ hne e1,e2⟩
 |cons p ps ih=>
  intro i t xs s hz hp hv he G hit nd ik dl h
  refine codeAny_builtin gG ?_
  unfold Builtin.«dict.update.loop»
  dsimp only
  obtain⟨ol,el,rl⟩:=id hl
  have h0':=hv 0 p rfl
  rw[Nat.add_zero]at h0'
  refine wpAny_bind (wpAny_pyNext_list_item hit ⟨ol,G _ _ el,rl⟩ h0' λh' xT sb=>?_)
  obtain⟨⟨o,n,p1,p2,p3⟩,pk⟩:=hp p (IB ..)
  have G':∀b o,h0.get? b=some o->h'.get? b=some o:=λb o e=>(sb.2 b (λz=>by rw[z,hI]at e;cases e)).trans (G b o e)
  dsimp only
  refine wpAny_bind (wpAny_holding ?_)
  refine wpAny_bind (wpAny_tryCatch ?_)
  unfold Builtin.Dict.pairItems
  refine wpAny_bind (wpAny_typeOf (T:= "tuple") ⟨o,G' _ _ p1,p2⟩ ?_)
  rw[if_pos (by decide)]
  refine wpAny_bind (wpAny_seqItems (G' _ _ p1) p3 (wpAny_pure ?_))
  show wpAny _ _ (holding _ (dictSet D (.ref p.2.2.1) p.2.2.2)) _ _ _
  refine wpAny_holding ?_
  have Dt:kG (tupleKind (intKind P w)) h' D xs:=by
   obtain⟨o,es,e1,e2⟩:=dl
   exact⟨o,es,(sb.2 D hne).trans e1,e2⟩
  have dm:h'.DictOfH (tupleKind (intKind P w)) D xs:=by
   obtain⟨o,es,e1,e2,e3,e4⟩:=Dt
   exact⟨o,es,_,e1,e2,e3,e4,λx hx=>kJ G' (ik x hx),nd⟩
  rw[IL]at hz he
  refine o9 (s:={s with heap:=h'}) (knd:=tupleKind (intKind P w)) (by show A.units+1<cLine;omega) (kJ G' pk) Dt dm (by rw[sizeLine_eq];omega) λh2 HK E8=>?_
  have G2:∀b o,h0.get? b=some o->h2.get? b=some o:=λb o e=>(E8.2 b (λz=>by rw[z,hD]at e;cases e)).trans (G' b o e)
  refine wpAny_pure ⟨Code.quiet_builtin _ (by decide +kernel),?_⟩
  have en:((i:Int)+1)=((i+1:Nat):Int):=by omega
  show codeAny (model P w) A (.builtin "dict.update.loop" ⟨[.ref D,.ref I,.int ((i:Int)+1) _,.none],[]⟩) (wants Q E) _
  rw[en]
  refine ih (i+1) _ (storedH xs p.2.1 p.2.2.1 p.2.2.2) _ (by have:=qj (xs:=xs) (k:=p.2.1) (b:=p.2.2.1) (u:=p.2.2.2);omega) (λq hq=>hp q (IF _ hq)) (λj q hq=>?_) ?_ G2 ?_ (nG nd _ _ _) (qi (I:=λk a=>IsTupleKey (intKind P w) h0 k a) ik pk) HK λh3 tk k3 HL=>?_
  ·have:=hv (j+1) q hq
   rwa [show i+(j+1)=i+1+j by omega]at this
  ·rwa [show i+(ps.length+1)=i+1+ps.length by omega]at he
  ·obtain⟨o,e1,e2⟩:=xT
   exact⟨o,(E8.2 I (Ne.symm hne)).trans e1,e2⟩
  ·exact h h3 tk (λb o b1 b2 e=>k3 b o b1 b2 ((E8.2 b b1).trans ((sb.2 b b2).trans e))) HL
end
end PySem
namespace L3
open PySem PySem.Spec PyProof.Rows L2
theorem pA:∀(ps:List A9) (xs:List (List Int ×Addr ×Value)),(xs.map (·.1)++ps.map (·.2.1)).Nodup->xS ps xs=xs++ps.map (·.2)
 |[],xs,_=>by simp[xS]
 |p::ps,xs,nd=>by
  have e:storedH xs p.2.1 p.2.2.1 p.2.2.2=xs++[p.2]:=by
   refine storedH_new ?_ _ _
   unfold atKey
   rw[JN,JY]
   intro x hx z
   have z:x.1=p.2.1:=by simpa using z
   have:=(Je.mp nd).2.2 x.1 (Jj.mpr ⟨x,hx,rfl⟩) p.2.1 (by simp)
   exact this z
  show xS ps (storedH xs p.2.1 p.2.2.1 p.2.2.2)=_
  rw[e,pA ps _ (by simpa using nd)]
  simp
theorem qk:bootBuiltins "dict" =some (.type "dict"):=by kernel_rfl
section
variable{X:Cx}
def AK:List D->Mp->DK->Prop:=λds M Q=>∃(l:Addr) (kvs:List (List Int ×D)),ds=[.ref l]/\M l=some (.lst (kvs.map λp=> .tup [pD p.1,p.2]))/\kvs.length<=900/\(kvs.map (·.1)).Nodup/\∀r,M r=none->Q (.ref r) (aH M r (.gZ kvs))
theorem pairs_at{P:Program}{w:World}{K:PySem.W.Frag}{H:Hp}{h:Heap}(ok:d9 P w H h):∀{kvs:List (List Int ×D)} {zs:List V} {its:List Value},aB K H (kvs.map λp=> .tup [pD p.1,p.2]) zs->Vals zs its->∃ps:List A9,its=ps.map (λp=>Value.ref p.1)/\(∀p∈ps,vt P w h p)/\ps.map (·.2.1)=kvs.map (·.1)/\Paired (eY K H) kvs (ps.map (·.2))
 |[],zs,its,d,r=>by
  rw[show([]:List (List Int ×D)).map (λp=>D.tup [pD p.1,p.2])=[]from rfl]at d
  rw[aI.mp d]at r
  cases r
  exact⟨[],rfl,(λp hp=>by cases hp),rfl,.nil⟩
 |(k,e)::kvs,zs,its,d,r=>by
  rw[IP]at d
  obtain⟨v,vs,rfl,d1,d2⟩:=aF.mp d
  cases r with
  |cons r1 r2=>
   obtain⟨ps,e1,e2,e3,e4⟩:=pairs_at ok d2 r2
   obtain⟨t,xs,rfl,ht,hx⟩:=aP.mp d1
   obtain⟨y1,y2,rfl,q1,q2⟩:=j0 hx
   obtain⟨its',rv,⟨o,o1,o2,n,o3⟩,_⟩:=cj ok ht
   obtain⟨u1,u2,rfl,s1,s2⟩:=vals2 rv
   obtain⟨ka,rfl⟩:=nE q1
   obtain rfl:u1=Value.ref ka:=s1
   refine⟨(t,k,ka,u2)::ps,?_,?_,by rw[IP,e3];rfl,?_⟩
   ·rw[e1];show _::_=_;rw[show _=Value.ref t from r1];rfl
   ·intro p hp
    rcases IJ.mp hp with rfl|hp
    ·exact⟨⟨o,n,o1,o2,o3⟩,nC ok q1⟩
    ·exact e2 p hp
   ·exact .cons ⟨rfl,q1,y2,q2,s2⟩ e4
theorem xU(hu:X.A.units+64<cLine)(hc:X.calm=true):Call3 X (.type "dict") AK:=by
 constructor
 intro pins s σ H M xs ds us Q I rm rs dx ⟨l,kvs,e,hM,hz,nd,q⟩
 subst e
 obtain⟨v,rfl,hv⟩:=oO dx
 obtain rfl:=aO.mp hv
 obtain⟨u,rfl,r1⟩:=vals1 rs
 obtain rfl:u=Value.ref l:=r1
 obtain⟨zs,hH,HM⟩:=rm.lst hM
 obtain⟨its,rv,pl,hsz⟩:=I.list (gY.of (K:=X.K) hH)
 obtain⟨ps,e1,e2,e3,e4⟩:=pairs_at I.hok HM rv
 have hh:X.A.handled=none:=I.ok.hd hc
 obtain⟨_,its2,n2,_,hobj⟩:=(show bE X.prog X.w H s.heap l (.lst zs)from I.hok l _ hH)
 have lk:kvs.length=ps.length:=by have:=congrArg List.length e3;simpa using this.symm
 have n0:H s.heap.objs.size=none:=I.hok.fresh (Iu _)
 refine callType_codes (Q₁:=λobj s₁=>obj= .ref s.heap.objs.size/\s₁= {s with heap:=s.heap.push {cls:= .type "dict",data:= .dict #[]}}) F.kt_called_dict (F.kt_typeCall_dict_1 _) F.entry_dict_init (kt_code_dict_new _ ⟨rfl,rfl⟩) ?_
 rintro obj s₁ ⟨rfl,rfl⟩
 have g1:∀b o,s.heap.get? b=some o->(s.heap.push {cls:= .type "dict",data:= .dict #[]}).get? b=some o:=λb o e=>Heap.get?_push_of_some _ e
 have hT:(s.heap.push {cls:= .type "dict",data:= .dict #[]}).get? s.heap.objs.size=some {cls:= .type "dict",data:= .dict #[]}:=Heap.get?_push_size _ rfl
 refine⟨⟨_,hT,rfl⟩,F.args_dict_init_2 _ _,?_⟩
 unfold Builtin.«dict.__init__»
 refine wpAny_bind ?_
 unfold Builtin.Dict.selfAndRest
 refine wpAny_bind (wpAny_notOrdered_dict ⟨_,hT,rfl⟩ ?_)
 show wpAny _ _ (pure (s.heap.objs.size,[Value.ref l])) _ _ _
 refine wpAny_pure ?_
 show wpAny _ _ (Builtin.Dict.updateFrom "dict.__init__" s.heap.objs.size (.ref l) [] .none) _ _ _
 unfold Builtin.Dict.updateFrom
 refine wpAny_bind (wpAny_typeOf (T:= "list") ⟨_,g1 _ _ hobj,rfl⟩ ?_)
 rw[if_pos (by decide)]
 refine wpAny_bind (sO (g1 _ _ hobj) hh λh2 qT k2=>?_)
 rw[if_pos (show(none:Option Value).isNone=true from rfl)]
 refine wpAny_bind (wpAny_rule ?_)
 have il:s.heap.IsList l its.toArray:=pl.isList
 have HN:h2.IsList l its.toArray:=by
  obtain⟨o,e,r⟩:=il
  exact⟨o,k2 _ _ (g1 _ _ e),r⟩
 refine wpAny_bind (wpAny_pyIter_list HN (wpAny_pure ?_))
 refine⟨Code.quiet_builtin _ (by decide +kernel),?_⟩
 have E9:=k2 _ _ hT
 have hI:s.heap.get? h2.objs.size=none:=Heap.get?_none_of_le (by
  have:=Heap.lt_size E9
  exact JB this)
 have hD:s.heap.get? s.heap.objs.size=none:=Heap.get?_none_of_le (Iu _)
 have hne:s.heap.objs.size≠h2.objs.size:=IQ (Heap.lt_size E9)
 refine vv (P:=X.prog) (w:=X.w) (A:=X.A.in1) (h0:=s.heap) (l:=l) (vs:=its.toArray) (by show X.A.units+1+8<cLine;omega) hh il hD hI hne ps 0 _ [] _ (by simp;omega) e2 (λj p hp=>?_) ?_ ?_ ?_ (by simp) (λx hx=>by cases hx) ?_ λh3 HP k3 dl=>?_
 ·rw[Jr,e1]
  simp[hp]
 ·rw[Jr,e1]
  simp
 ·exact λb o e=>Heap.get?_push_of_some _ (k2 _ _ (g1 _ _ e))
 ·exact⟨_,Heap.get?_push_size _ rfl,rfl,rfl⟩
 ·exact⟨_,#[],Heap.get?_push_of_some _ E9,⟨rfl,rfl,rfl⟩,rfl,rfl⟩
 ·refine⟨rfl,?_⟩
  rw[pA ps [] (by simpa[e3]using nd),KR]at dl
  have kk:((ps.map (·.2)).map (·.1)).Nodup:=by rw[JU];exact e3▸nd
  have keep:∀b o,s.heap.get? b=some o->h3.get? b=some o:=λb o e=>k3 b o (λz=>by rw[z,hD]at e;cases e) (λz=>by rw[z,hI]at e;cases e) (Heap.get?_push_of_some _ (k2 _ _ (g1 _ _ e)))
  obtain⟨o,es,d1,d2,d3,d4⟩:=dl
  have I1:Inv X pins σ (upd H s.heap.objs.size (.ext (dU s.heap.objs.size (ps.map (·.2))))) {s with heap:=h3,toks:=HP}:=
   I.laid keep (Iu _) ⟨⟨o,es,d1,d2,d3,d4⟩,⟨o,d1⟩,λa1 a2 ⟨o,es,e,q⟩ k=>⟨o,es,k o e,q⟩⟩
  refine⟨.ref _,_,I1,rfl,.ref _,aH M _ (.gZ kvs),Fr.new n0 λ_ hb=>aR hb,aO.mpr rfl,λa u e=>?_,q _ (rm.free n0)⟩
  by_cases ha:a=s.heap.objs.size
  ·subst ha
   rw[au]at e;cases e
   exact⟨_,aU,beq_eq_false_iff_ne.mpr (Ne.symm (IQ (rq I))),kk,Paired.rJ e4 λ_ _ z=>z.mono (Ext.new n0)⟩
  ·rw[aR ha]at e
   exact rm.new n0 a u e
end
end L3
namespace PySem
section
variable{prog:Program}{w:World}{A:Around}{E:Value->Shared->Prop}{s:Shared}{it d:Addr}{i n ep:Nat}{od:Obj}{es:Array DictEntry}
theorem ql{Q:Value->Shared->Prop}(nm:(d==sysModules)=false)(hT:s.TypeIs (.ref d) "dict")(ho:s.heap.get? d=some od)(hd:od.data= .dict es ep)
 (q:Q (.ref s.heap.objs.size) {s with heap:=s.heap.push {cls:= .type "dict_keyiterator",data:= .fields #[.ref d,.int 0 0,.int es.size 0,.int ep 0]}}):wpAny (model prog w) A (pyIter (.ref d)) Q E s:=by
 refine wpAny_pyIter_slot hT F.slot_dict_iter (wpAny_call_entry F.slot_dict_iter hT F.entry_dict_iter ?_ (F.args_dict_iter_1 _))
 unfold Builtin.«dict.__iter__» Builtin.Dict.dictSlotNone
 refine wpAny_bind (wpAny_bind (wpAny_notOrdered_dict hT (show wpAny _ _ (pure (Value.ref d)) _ _ s from wpAny_pure ?_)))
 show wpAny _ _ (Builtin.Dict.showsAll d >>= _) _ _ s
 unfold Builtin.Dict.showsAll
 rw[if_neg (by rw[nm];exact Iv)]
 refine wpAny_bind (wpAny_pure (wpAny_bind (wpAny_dictEntries ho hd (wpAny_bind (wpAny_dictEpoch ho hd (wpAny_bind (wpAny_newObj_type (wpAny_pure ⟨_,rfl,"dict_keyiterator",_,⟨_,Heap.get?_push_size _ rfl,rfl⟩,F.slot_dict_keyiterator_next.lookup,?_⟩))))))))
 simpa[rawInt]using q
theorem sP{Q:Option Value->Shared->Prop}{e:DictEntry}(hit:s.heap.IsKeyIter it d i n ep)(hod:s.heap.get? d=some od)(CZ:od.data= .dict es ep)(hn:es.size=n)(hx:es[i]?=some e)
 (q:∀h',h'.IsKeyIter it d (i+1) n ep->Heap.SameBut it s.heap h'->Q (some e.key) {s with heap:=h'}):wpAny (model prog w) A (pyNext (.ref it)) Q E s:=by
 obtain⟨o,ho,hc,hd⟩:=id hit
 unfold pyNext
 refine wpAny_bind (wpAny_attempt (wpAny_callSpecial?_slot (name:=Str.ofString "__next__") hit.typeIs F.slot_dict_keyiterator_next (wpAny_call_entry F.slot_dict_keyiterator_next hit.typeIs F.entry_dict_keyiterator_next ?_ (F.args_dict_keyiterator_next_1 _))))
 refine wpAny_bind (wpAny_pure (wpAny_bind (wpAny_bind ?_)))
 first|refine wpAny_bind (wpAny_typeNameOfWhole_keyiter hit.typeIs (wpAny_pure ?_))|refine wpAny_bind (wpAny_typeNameOf_keyiter hit.typeIs (wpAny_pure ?_))
 refine wpAny_bind (wpAny_fieldsOf ho hd ?_)
 simp only[show Builtin.Dict_items.ownsTuple "dict_keyiterator" =false by decide,ID,if_false]
 show wpAny _ _ (if(Value.ref d==Value.none)=true then _ else _) _ _ s
 rw[if_neg (show¬((Value.ref d==Value.none)=true)from Iv)]
 refine wpAny_bind (wpAny_pure (wpAny_bind (wpAny_dictEntries hod CZ ?_)))
 rw[if_neg (by rw[hn];simp)]
 refine wpAny_bind (wpAny_pure (wpAny_bind (wpAny_dictEpoch hod CZ ?_)))
 rw[if_neg (by simp)]
 refine wpAny_pure ?_
 simp only[show¬((i:Int)<0)from by omega,if_false,J1,hx]
 refine wpAny_bind ?_
 first|refine wpAny_bind (wpAny_typeNameOfWhole_keyiter hit.typeIs (wpAny_pure ?_))|refine wpAny_bind (wpAny_typeNameOf_keyiter hit.typeIs (wpAny_pure ?_))
 refine wpAny_bind (wpAny_isOneOf_keyiter hit.typeIs ?_)
 refine wpAny_bind (show wpAny _ _ (setField (.ref it) 1 (rawInt ((i:Int)+1))) _ _ s from wpAny_setField ho hd (by simp) ?_)
 have xT:(s.heap.update it (Obj.mapFields (·.setIfInBounds 1 (rawInt ((i:Int)+1))))).IsKeyIter it d (i+1) n ep:=
  ⟨_,Heap.get?_update_self _ ho (Obj.isFreed_of_fields (Obj.data_mapFields hd _)),(Obj.cls_mapFields ..).trans hc,by rw[Obj.data_mapFields hd];simp[rawInt]⟩
 refine wpAny_bind (wpAny_holding (wpAny_bind (wpAny_isOneOf_keyiter (s:={s with heap:=s.heap.update it (Obj.mapFields (·.setIfInBounds 1 (rawInt ((i:Int)+1))))}) xT.typeIs ?_)))
 exact(show wpAny _ _ (pure e.key) _ _ _ from wpAny_pure (wpAny_pure ⟨_,rfl,wpAny_pure (q _ xT (Heap.SameBut.update ..))⟩))
theorem vz{Q:Option Value->Shared->Prop}(hh:A.handled=none)(hit:s.heap.IsKeyIter it d i n ep)(hod:s.heap.get? d=some od)(CZ:od.data= .dict es ep)(hn:es.size=n)(hge:es.size<=i)
 (q:∀h',Heap.ExtBut it s.heap h'->Q none {s with heap:=h'}):wpAny (model prog w) A (pyNext (.ref it)) Q E s:=by
 obtain⟨o,ho,hc,hd⟩:=id hit
 unfold pyNext
 refine wpAny_bind (wpAny_attempt (wpAny_callSpecial?_slot (name:=Str.ofString "__next__") hit.typeIs F.slot_dict_keyiterator_next (wpAny_call_entry F.slot_dict_keyiterator_next hit.typeIs F.entry_dict_keyiterator_next ?_ (F.args_dict_keyiterator_next_1 _))))
 refine wpAny_bind (wpAny_pure (wpAny_bind (wpAny_bind ?_)))
 first|refine wpAny_bind (wpAny_typeNameOfWhole_keyiter hit.typeIs (wpAny_pure ?_))|refine wpAny_bind (wpAny_typeNameOf_keyiter hit.typeIs (wpAny_pure ?_))
 refine wpAny_bind (wpAny_fieldsOf ho hd ?_)
 simp only[show Builtin.Dict_items.ownsTuple "dict_keyiterator" =false by decide,ID,if_false]
 show wpAny _ _ (if(Value.ref d==Value.none)=true then _ else _) _ _ s
 rw[if_neg (show¬((Value.ref d==Value.none)=true)from Iv)]
 refine wpAny_bind (wpAny_pure (wpAny_bind (wpAny_dictEntries hod CZ ?_)))
 rw[if_neg (by rw[hn];simp)]
 refine wpAny_bind (wpAny_pure (wpAny_bind (wpAny_dictEpoch hod CZ ?_)))
 rw[if_neg (by simp)]
 refine wpAny_pure ?_
 simp only[show¬((i:Int)<0)from by omega,if_false,J1,Array.getElem?_eq_none hge]
 refine wpAny_bind ?_
 first|refine wpAny_bind (wpAny_typeNameOfWhole_keyiter hit.typeIs (wpAny_pure ?_))|refine wpAny_bind (wpAny_typeNameOf_keyiter hit.typeIs (wpAny_pure ?_))
 refine wpAny_bind (show wpAny _ _ (setField (.ref it) 0 .none) _ _ s from wpAny_setField ho hd (by simp) ?_)
 refine wpAny_bind (show wpAny _ _ (newExc (.type "StopIteration") []) _ _ _ from ?_)
 simp only[newExc,newTuple]
 refine wpAny_bind (wpAny_newObj_type ?_ (by size_fits))
 refine wpAny_bind (m:=firstArgMember _ _) (wpAny_of_eq (a:=Value.none) (by first|rfl|(simp only[firstArgMember];rfl)) ?_)
 refine wpAny_newObj_type ?_ (by size_fits)
 simp only[raiseNew]
 refine wpAny_bind (wpAny_handled ?_)
 rw[show A.in1.handled=none from hh]
 refine wpAny_bind (wpAny_pure (wpAny_throw ?_))
 refine wpAny_bind (wpAny_isInstance (T:= "StopIteration") (b:=true) ⟨_,Heap.get?_push_size _ rfl,rfl⟩ isSubtype_stop ?_)
 exact wpAny_pure (q _ (((Heap.SameBut.update ..).extBut.push _).push _))
end
end PySem
namespace L2
open PySem PySem.Spec PyProof.Rows L3
def Fb(d:Addr)(n:Nat):It:=
 ⟨λi H=>∃xs:n9,H d=some (.ext (dU d xs))/\xs.length=n/\i<n,
  λi H x H'=>H'=H/\∃b,x= .ref b/\∀xs:n9,H d=some (.ext (dU d xs))->∃e,xs[i]?=some e/\e.2.1=b,
  λi H=>∃xs:n9,H d=some (.ext (dU d xs))/\xs.length=n/\n<=i⟩
theorem jN{P:Program}{w:World}{H:Hp}{h:Heap}(ok:d9 P w H h){d:Addr}{xs:n9}(hH:H d=some (.ext (dU d xs))):dU d xs h:=(show bE P w H h d (.ext (dU d xs))from ok d _ hH).1
theorem qm{P:Program}{w:World}{K:PySem.W.Frag}{tg:Expr}(d it:Addr)(n:Nat):Turn P w K tg (Fb d n) [it] it (λi h=>h.IsKeyIter it d i n n) where
 mem:=by simp
 obj:=λi h st b hb=>by
  obtain rfl:b=it:=by simpa using hb
  obtain⟨o,e,c,d⟩:=st
  exact⟨o,e,λv z=>by rw[d]at z;cases z⟩
 keep:=λi h h' st k=>st.at λo e=>k it (by simp) o e
 item:=by
  intro X hP hw hK hc i pins s σ H E I hf st hg
  subst hP hw hK
  obtain⟨xs,hH,hn,hi⟩:=hg
  obtain⟨o,es,h1,h2,h3,h4⟩:=jN I.hok hH
  obtain⟨f0,f1,f2,f3,f4,f5⟩:=hf it (by simp)
  have hz:es.size=n:=by rw[<-Array.length_toList,h4,Iw];exact hn
  have hx:es[i]?=some (t6 (xs[i]'(by omega))):=by
   rw[<-Array.getElem?_toList,h4,II,Iz (by omega)]
   rfl
  refine sP (ep:=n) st h1 (by rw[h3,hn]) hz hx λh' st' sb=>?_
  have I1:Inv X pins σ H {s with heap:=h'}:=I.turned (t':=s.toks) (λb o hb e=>(sb.2 b hb).trans e) f0 f1 f3 f4 f5
  obtain⟨o',e,c,dd⟩:=id st'
  refine⟨_,rfl,tP (s:={s with heap:=h'}) e c dd (by decide) ⟨.ref (xs[i]'(by omega)).2.1,H,I1,rfl,⟨rfl,_,rfl,λys hy=>?_⟩,st',λb hb=>(hf b hb).1⟩⟩
  obtain⟨o2,HQ,g1,g2,g3,g4⟩:=jN I.hok hy
  obtain rfl:o2=o:=Option.some.inj (g1.symm.trans h1)
  have ee:HQ=es:=by rw[g3]at h3;injection h3
  rw[ee,h4]at g4
  have q:(ys.map t6)[i]?=some (t6 (xs[i]'(by omega))):=by rw[<-g4,II,Iz (by omega)];rfl
  rw[II]at q
  obtain⟨e,q1,q2⟩:=Jw.mp q
  refine⟨e,q1,?_⟩
  have:=congrArg DictEntry.key q2
  unfold t6 at this
  exact Value.ref.inj this
 done:=by
  intro X hP hw hK hc i pins s σ H E I hf st hg
  subst hP hw hK
  obtain⟨xs,hH,hn,hi⟩:=hg
  obtain⟨o,es,h1,h2,h3,h4⟩:=jN I.hok hH
  obtain⟨f0,f1,f2,f3,f4,f5⟩:=hf it (by simp)
  have hz:es.size=n:=by rw[<-Array.length_toList,h4,Iw];exact hn
  exact vz (ep:=n) (I.ok.hd hc) st h1 (by rw[h3,hn]) hz (by omega) λh' eb=>⟨rfl,I.turned (t':=s.toks) (λb o hb e=>eb b o hb e) f0 f1 f3 f4 f5⟩
 self:=λ_ _ _ _ _ st h=>wpAny_pyIter_keyiter st h
def AL(tl:TE):TI:=λσ H R=>tl σ H λx H1=>∃(a:Addr) (xs:n9),x= .ref a/\(a==sysModules)=false/\H1 a=some (.ext (dU a xs))/\R (Fb a xs.length) H1
theorem vA{X:Cx}{tg l:Expr}{tl:TE}(hl:PE X l tl):PI X tg l (AL tl):=by
 intro pins s σ H R I h
 refine bU (hl pins s σ H _ I h) λv s1 ⟨x,H1,I1,r1,q1⟩=>?_
 obtain⟨a,xs,e,nm,hH,q⟩:=q1
 subst e
 cases r1
 obtain⟨o,es,h1,h2,h3,h4⟩:=jN I1.hok hH
 have hz:es.size=xs.length:=by rw[<-Array.length_toList,h4,Iw]
 refine ql nm ⟨o,h1,h2.1⟩ h1 h3 ?_
 rw[hz]
 refine⟨s1.heap.objs.size,[s1.heap.objs.size],_,_,H1,rfl,I1.kept (t':=s1.toks) λb o e=>Heap.get?_push_of_some _ e,qm a _ _,⟨_,Heap.get?_push_size _ rfl,rfl,rfl⟩,λb hb=>?_,q⟩
 obtain rfl:b=s1.heap.objs.size:=by simpa using hb
 exact I1.ou (Iu _) (I1.hok.fresh (Iu _))
end L2
namespace L3
open PySem PySem.Spec PyProof.Rows L2
theorem AM{K:PySem.W.Frag}{a:Addr}{kvs:List (List Int ×D)}:pX K (Fb a kvs.length) (λH=>∃xs:n9,H a=some (.ext (dU a xs))/\Paired (eY K H) kvs xs) (kvs.map λp=>pD p.1) where
 go:=λi H hi ⟨xs,h,pk⟩=>⟨xs,h,(dM pk).symm,by simpa using hi⟩
 yi:=λi H x H' hi ⟨xs,h,pk⟩ ⟨e,b,eb,k⟩=>by
  subst eb
  obtain⟨y,hy,ey⟩:=k xs h
  refine⟨e,?_⟩
  rw[Iw]at hi
  have:∀{l₁:List (List Int ×D)} {l₂:n9} {i:Nat},Paired (eY K H) l₁ l₂->l₂[i]?=some y->∃p,l₁[i]?=some p/\eY K H p y:=by
   intro l₁ l₂ i pk
   induction pk generalizing i with
   |nil=>intro z;simp at z
   |cons r _ ih=>
    intro z
    cases i with
    |zero=>
     rw[Ke]at z
     cases z
     exact⟨_,Ke,r⟩
    |succ j=>
     rw[List.getElem?_cons_succ]at z ⊢
     exact ih z
  obtain⟨p,hp,_,dk,_⟩:=this pk hy
  refine⟨pD p.1,by rw[II,hp];rfl,?_⟩
  rw[<-ey]
  exact dk
 stop:=λH ⟨xs,h,pk⟩=>⟨xs,h,(dM pk).symm,by simp⟩
section
variable{X:Cx}{pos:Pos}{tg iter:Expr}{body:List Stmt}{te:bT}{g:oi}{tb:gT}
def C0(te:bT)(g:oi)(tb:gT):gT:=λD ρ M=>te ρ M λd M1=>∃a kvs,d= .ref a/\M1 a=some (.gZ kvs)/\runFor (λM=>M a=some (.gZ kvs)) g tb D (kvs.map λp=>pD p.1) ρ M1
theorem AN(hp:PassesOwn (model X.prog X.w) X.A X.env X.xe)(hc:X.calm=true)(hi:bJ X iter te)(hg:uu X tg g)(hb:fE X body tb)
 (hs:∀x,foldedSetIterable iter X.env x=pure x:=by intro _;rfl):pT X (.For tg iter body [] pos) (C0 te g tb):=yw (pN hp hc (vA hi.dn) hg.dn hb.dn hs) λσ H ρ M D r q=>cy r q λv H' d M' f dv r' ⟨a,kvs,e1,hM,q⟩=>by
 subst e1
 obtain rfl:=aO.mp dv
 obtain⟨xs,hH,nm,_,pk⟩:=r'.mem.gZ hM
 refine⟨a,xs,rfl,nm,hH,?_⟩
 rw[<-dM pk]
 exact j3 AM f r' (λM1 H1 f1 g7 g1=>by obtain⟨ys,h,_,_,p⟩:=g7.gZ g1;exact⟨ys,h,p⟩) q
end
end L3
namespace L3
open PySem L2
def jn(g:Pl->Pl)(one other:Pl):Pl->Pl:=λp=>if g p=other then one else g p
def Kr:List (List Pl)->(Pl->Pl)->List (List Pl)
 |[a,b]::r,g=>if g a=g b then Kr r g else[a,b]::Kr r (jn g (g a) (g b))
 |_::r,g=>Kr r g
 |[],_=>[]
def pK:List (List Pl)->(Pl->Pl)->Pl->Pl
 |[a,b]::r,g=>if g a=g b then pK r g else pK r (jn g (g a) (g b))
 |_::r,g=>pK r g
 |[],g=>g
theorem jO(a b:Pl)(r:List (List Pl))(g:Pl->Pl):Kr ([a,b]::r) g=if g a=g b then Kr r g else[a,b]::Kr r (jn g (g a) (g b)):=rfl
theorem kK(a b:Pl)(r:List (List Pl))(g:Pl->Pl):pK ([a,b]::r) g=if g a=g b then pK r g else pK r (jn g (g a) (g b)):=rfl
def vR(ps:List Pl)(L:List (List Pl)):Prop:= ∀t∈L,∃a b,t=[a,b]/\a∈ps/\b∈ps
theorem vR.tail{ps:List Pl}{t:List Pl}{L:List (List Pl)}(h:vR ps (t::L)):vR ps L:=λu hu=>h u (IF _ hu)
theorem qo{ps:List Pl}:∀{L:List (List Pl)} {g:Pl->Pl},vR ps L->(Kr L g).Sublist L
 |[],_,_=> .slnil
 |t::L,g,h=>by
  obtain⟨a,b,rfl,_⟩:=h t (IB ..)
  rw[jO]
  split
  ·exact(qo h.tail).cons _
  ·exact(qo h.tail).cons₂ _
theorem C1{g:Pl->Pl}{one other p q:Pl}(h:g p=g q):jn g one other p=jn g one other q:=by
 unfold jn;rw[h]
theorem nI{ps:List Pl}:∀{L:List (List Pl)} {g:Pl->Pl} {p q:Pl},vR ps L->g p=g q->pK L g p=pK L g q
 |[],_,_,_,_,h=>h
 |t::L,g,p,q,hs,h=>by
  obtain⟨a,b,rfl,_⟩:=hs t (IB ..)
  rw[kK]
  split
  ·exact nI hs.tail h
  ·exact nI hs.tail (C1 h)
theorem jP{ps:List Pl}:∀{L:List (List Pl)} {g:Pl->Pl} {a b:Pl},vR ps L->[a,b]∈L->pK L g a=pK L g b
 |t::L,g,a,b,hs,h=>by
  obtain⟨c,d,rfl,_⟩:=hs t (IB ..)
  rw[kK]
  rcases IJ.mp h with e|e
  ·cases e
   split
   ·rename_i z;exact nI hs.tail z
   ·refine nI hs.tail ?_
    unfold jn
    rw[if_pos rfl]
    exact ite_self _
  ·split
   ·exact jP hs.tail e
   ·exact jP hs.tail e
structure C2(ps:List Pl)(g:Pl->Pl)(ls:List Pl):Prop where
 nd:ls.Nodup
 mem:∀l,l∈ls↔∃p∈ps,g p=l
theorem C2.join{ps:List Pl}{g:Pl->Pl}{ls:List Pl}(h:C2 ps g ls){a b:Pl}(ha:a∈ps)(hb:b∈ps)(n:g a≠g b):C2 ps (jn g (g a) (g b)) (ls.erase (g b)):=by
 refine⟨h.nd.erase _,λl=>?_⟩
 rw[h.nd.mem_erase_iff,h.mem]
 constructor
 ·rintro⟨z,p,hp,rfl⟩
  exact⟨p,hp,by unfold jn;rw[if_neg z]⟩
 ·rintro⟨p,hp,rfl⟩
  unfold jn
  split
  ·exact⟨n,a,ha,rfl⟩
  ·rename_i z;exact⟨z,p,hp,rfl⟩
theorem qp{ps:List Pl}:∀{L:List (List Pl)} {g:Pl->Pl} {ls:List Pl},vR ps L->C2 ps g ls->∃ls',C2 ps (pK L g) ls'/\(Kr L g).length+ls'.length=ls.length
 |[],g,ls,_,h=>⟨ls,h,by simp[Kr]⟩
 |t::L,g,ls,hs,h=>by
  obtain⟨a,b,rfl,ha,hb⟩:=hs t (IB ..)
  rw[kK,jO]
  split
  ·exact qp hs.tail h
  ·rename_i n
   obtain⟨ls',h1,h2⟩:=qp hs.tail (h.join ha hb n)
   refine⟨ls',h1,?_⟩
   have hm:g b∈ls:=(h.mem _).mpr ⟨b,hb,rfl⟩
   have:=J8 hm
   have:=Kg hm
   rw[IL]
   omega
theorem vB{ps:List Pl}{L:List (List Pl)}(nd:ps.Nodup)(hs:vR ps L)(all:∀a∈ps,∀b∈ps,a≠b->[a,b]∈L\/[b,a]∈L):(Kr L id).length=ps.length-1:=by
 obtain⟨ls,h1,h2⟩:=qp (L:=L) (g:=id) (ls:=ps) hs ⟨nd,λl=>⟨λh=>⟨l,h,rfl⟩,λ⟨p,hp,e⟩=>e▸hp⟩⟩
 cases ps with
 |nil=>
  have:(Kr L id).length=0:=by rw[IZ]at h2;omega
  rw[this];rfl
 |cons p ps=>
  have one:∀q∈p::ps,pK L id q=pK L id p:=λq hq=>by
   by_cases e:q=p
   ·rw[e]
   ·rcases all q hq p (IB ..) e with h|h
    ·exact jP hs h
    ·exact(jP hs h).symm
  have hl:ls=[pK L id p]:=by
   have m1:∀l∈ls,l=pK L id p:=λl hl=>by
    obtain⟨q,hq,e⟩:=(h1.mem l).mp hl
    rw[<-e];exact one q hq
   have m2:pK L id p∈ls:=(h1.mem _).mpr ⟨p,IB ..,rfl⟩
   cases ls with
   |nil=>cases m2
   |cons x xs=>
    have ex:=m1 x (IB ..)
    cases xs with
    |nil=>rw[ex]
    |cons y ys=>
     have ey:=m1 y (IF _ (IB ..))
     have:=(JC.mp h1.nd).1
     rw[ex,ey]at this
     exact absurd (IB ..) this
  rw[hl]at h2
  simp only[IL,IZ]at h2 ⊢
  omega
def Fc(S:Pl->Prop)(t:List Pl):Prop:= ∃a b,t=[a,b]/\¬(S a↔S b)
theorem kL{ps:List Pl}{S:Pl->Prop}:∀{L:List (List Pl)} {g:Pl->Pl},vR ps L->(∀p q,g p=g q->(S p↔S q))->(∃t∈L,Fc S t)->∃t∈Kr L g,Fc S t
 |[],_,_,_,⟨_,h,_⟩=>by cases h
 |t::L,g,hs,hg,⟨u,hu,hc⟩=>by
  obtain⟨a,b,rfl,_⟩:=hs t (IB ..)
  rw[jO]
  by_cases c:S a↔S b
  ·have Gi:u∈L:=by
    rcases IJ.mp hu with rfl|h
    ·obtain⟨x,y,e,n⟩:=hc
     cases e
     exact absurd c n
    ·exact h
   split
   ·exact kL hs.tail hg ⟨u,Gi,hc⟩
   ·have HR:∀p q,jn g (g a) (g b) p=jn g (g a) (g b) q->(S p↔S q):=by
     intro p q e
     unfold jn at e
     by_cases e1:g p=g b
     ·rw[if_pos e1]at e
      by_cases e2:g q=g b
      ·exact hg p q (e1.trans e2.symm)
      ·rw[if_neg e2]at e
       exact(hg p b e1).trans (c.symm.trans (hg a q e))
     ·rw[if_neg e1]at e
      by_cases e2:g q=g b
      ·rw[if_pos e2]at e
       exact(hg p a e).trans (c.trans (hg b q e2.symm))
      ·rw[if_neg e2]at e
       exact hg p q e
    obtain⟨v,hv,HS⟩:=kL hs.tail HR ⟨u,Gi,hc⟩
    exact⟨v,IF _ hv,HS⟩
  ·have n:g a≠g b:=λz=>c (hg a b z)
   rw[if_neg n]
   exact⟨_,IB ..,a,b,rfl,c⟩
def prs(ps:List Pl):Nat->List (List Pl)
 |0=>[]
 |i+1=>prs ps i++(ps.take i).map λp=>[lo (ps.getD i ⟨0,0⟩) p,hi (ps.getD i ⟨0,0⟩) p]
theorem vC(a b:Pl):(lo a b=a/\hi a b=b)\/(lo a b=b/\hi a b=a):=by
 unfold lo hi
 rcases jJ a b with h|h|h
 ·rw[if_neg λz=>bW a (cB h z),if_pos h];exact .inl ⟨rfl,rfl⟩
 ·subst h;rw[if_neg (bW a)];exact .inl ⟨rfl,rfl⟩
 ·rw[if_pos h,if_neg λz=>bW a (cB z h)];exact .inr ⟨rfl,rfl⟩
theorem vD{a b:Pl}(h:a≠b):cu (lo a b) (hi a b):=by
 rcases pY h with k|k
 ·unfold lo hi;rw[if_neg λz=>bW a (cB k z),if_pos k];exact k
 ·unfold lo hi;rw[if_pos k,if_neg λz=>bW a (cB z k)];exact k
theorem mC{ps:List Pl}{i:Nat}(h:i<ps.length):ps.take (i+1)=ps.take i++[ps.getD i ⟨0,0⟩]:=by
 rw[J5,Iz h]
 simp[h]
theorem fM{ps:List Pl}(nd:ps.Nodup):∀(i:Nat),i<=ps.length->∀t,t∈prs ps i↔∃a b,t=[a,b]/\cu a b/\a∈ps.take i/\b∈ps.take i
 |0,_,t=>by simp[prs]
 |i+1,hle,t=>by
  have ih:=fM nd i (by omega) t
  have e:=mC (ps:=ps) (i:=i) (by omega)
  have nq:ps.getD i ⟨0,0⟩∉ps.take i:=λz=>by
   have:(ps.take i++[ps.getD i ⟨0,0⟩]).Nodup:=by rw[<-e];exact nd.sublist (Jv _ _)
   exact(Je.mp this).2.2 _ z _ (by simp) rfl
  unfold prs
  rw[IK,ih,e]
  generalize ps.getD i ⟨0,0⟩=q at nq
  constructor
  ·rintro(⟨a,b,rfl,h1,h2,h3⟩|h)
   ·exact⟨a,b,rfl,h1,IK.mpr (.inl h2),IK.mpr (.inl h3)⟩
   ·obtain⟨p,hp,rfl⟩:=Jj.mp h
    have ne:q≠p:=λz=>nq (z▸hp)
    refine⟨_,_,rfl,vD ne,?_,?_⟩
    ·rcases vC q p with⟨z,_⟩|⟨z,_⟩<;>rw[z]<;>simp[hp]
    ·rcases vC q p with⟨_,z⟩|⟨_,z⟩<;>rw[z]<;>simp[hp]
  ·rintro⟨a,b,rfl,h1,h2,h3⟩
   have n:=ux h1
   have lh:∀{x y:Pl},cu x y->lo x y=x/\hi x y=y/\lo y x=x/\hi y x=y:=λ{x y} k=>by
    have k2:¬cu y x:=λz=>bW x (cB k z)
    unfold lo hi
    rw[if_neg k2,if_pos k]
    exact⟨rfl,rfl,if_pos k,if_neg k2⟩
   rcases IK.mp h2 with h2|h2
   ·rcases IK.mp h3 with h3|h3
    ·exact .inl ⟨a,b,rfl,h1,h2,h3⟩
    ·have z:b=q:=by simpa using h3
     exact .inr (Jj.mpr ⟨a,h2,by rw[<-z,(lh h1).2.2.1,(lh h1).2.2.2]⟩)
   ·have z:a=q:=by simpa using h2
    rcases IK.mp h3 with h3|h3
    ·exact .inr (Jj.mpr ⟨b,h3,by rw[<-z,(lh h1).1,(lh h1).2.1]⟩)
    ·exact absurd (z.trans (show b=q by simpa using h3).symm) n
theorem gX{ps:List Pl}(nd:ps.Nodup):∀(i:Nat),i<=ps.length->(prs ps i).Nodup
 |0,_=> .nil
 |i+1,hle=>by
  have e:=mC (ps:=ps) (i:=i) (by omega)
  have n2:(ps.take i++[ps.getD i ⟨0,0⟩]).Nodup:=by rw[<-e];exact nd.sublist (Jv _ _)
  have nq:ps.getD i ⟨0,0⟩∉ps.take i:=λz=>(Je.mp n2).2.2 _ z _ (by simp) rfl
  unfold prs
  rw[Je]
  refine⟨gX nd i (by omega),?_,λt h1 u h2 z=>?_⟩
  ·refine List.Pairwise.map _ (λa b h=>?_) (Je.mp n2).1
   intro z
   simp only[List.cons.injEq,and_true]at z
   rcases vC (ps.getD i ⟨0,0⟩) a with⟨z1,z2⟩|⟨z1,z2⟩<;>rcases vC (ps.getD i ⟨0,0⟩) b with⟨z3,z4⟩|⟨z3,z4⟩<;>rw[z1,z2,z3,z4]at z
   ·exact h z.2
   ·exact h (z.2.trans z.1)
   ·exact h (z.1.trans z.2)
   ·exact h z.1
  ·subst z
   obtain⟨p,hp,rfl⟩:=Jj.mp h2
   obtain⟨a,b,e1,_,ha,hb⟩:=(fM nd i (by omega) _).mp h1
   simp only[List.cons.injEq,and_true]at e1
   rcases vC (ps.getD i ⟨0,0⟩) p with⟨z1,z2⟩|⟨z1,z2⟩
   ·rw[z1]at e1;exact nq (e1.1▸ha)
   ·rw[z2]at e1;exact nq (e1.2▸hb)
theorem nJ{ps:List Pl}:∀(i:Nat),i<=ps.length->2*(prs ps i).length=i*(i-1)
 |0,_=>rfl
 |i+1,hle=>by
  have ih:=nJ (ps:=ps) i (by omega)
  unfold prs
  rw[IX,Iw,Jg,JS (by omega),Nat.mul_add,ih,JW]
  cases i with
  |zero=>rfl
  |succ j=>rw[JW];grind
theorem rB{ps:List Pl}(h:ps.length<=16):(prs ps ps.length).length<=120:=by
 have:=nJ (ps:=ps) ps.length (Iu _)
 have h2:ps.length*(ps.length-1)<=16*15:=Nat.mul_le_mul h (by omega)
 omega
def AO(t:List Pl):Int:=match t with
 |[a,b]=>g8 a b
 |_=>0
def C3(L:List (List Pl)):Prop:=L.Pairwise λp q=>kZ (AO q,q) (AO p,p)=false
theorem xV{L L':List (List Pl)}(h:C3 L)(h':C3 L')(p:L.Perm L'):L=L':=by
 refine List.Perm.eq_of_pairwise (λa b _ _ h1 h2=>?_) h h' p
 rcases nk (AO a,a) (AO b,b)with c|c|c
 ·rw[h2]at c;cases c
 ·exact congrArg Prod.snd c
 ·rw[h1]at c;cases c
def ji(ps:List Pl)(us:List (List Pl)):Prop:= ∃L,L.Perm (prs ps ps.length)/\C3 L/\us=Kr L id
theorem ji.same{ps qs:List Pl}{us vs:List (List Pl)}(nd:ps.Nodup)(p:qs.Perm ps)(h:ji ps us)(h':ji qs vs):vs=us:=by
 obtain⟨L,h1,h2,rfl⟩:=h
 obtain⟨L',k1,k2,rfl⟩:=h'
 have nq:qs.Nodup:=p.nodup_iff.mpr nd
 have e:(prs qs qs.length).Perm (prs ps ps.length):=(List.perm_ext_iff_of_nodup (gX nq _ (Iu _)) (gX nd _ (Iu _))).mpr λt=>by
  rw[fM nq _ (Iu _),fM nd _ (Iu _),Jm,Jm]
  simp only[p.mem_iff]
 rw[xV k2 h2 (k1.trans (e.trans h1.symm))]
structure vE(ps:List Pl)(us:List (List Pl)):Prop where
 Du:∀t∈us,∃a b,t=[a,b]/\cu a b/\a∈ps/\b∈ps
 len:us.length=ps.length-1
 nd:us.Nodup
 so:C3 us
 cut:∀S:Pl->Prop,(∃p∈ps,S p)->(∃q∈ps,¬S q)->∃t∈us,Fc S t
theorem ji.prop{ps:List Pl}{us:List (List Pl)}(nd:ps.Nodup)(h:ji ps us):vE ps us:=by
 obtain⟨L,h1,h2,rfl⟩:=h
 have hm:∀t,t∈L↔∃a b,t=[a,b]/\cu a b/\a∈ps/\b∈ps:=λt=>by
  rw[h1.mem_iff,fM nd _ (Iu _),Jm]
 have hs:vR ps L:=λt ht=>by
  obtain⟨a,b,e,_,ha,hb⟩:=(hm t).mp ht
  exact⟨a,b,e,ha,hb⟩
 have all:∀a∈ps,∀b∈ps,a≠b->[a,b]∈L\/[b,a]∈L:=λa ha b hb n=>by
  rcases pY n with k|k
  ·exact .inl ((hm _).mpr ⟨a,b,rfl,k,ha,hb⟩)
  ·exact .inr ((hm _).mpr ⟨b,a,rfl,k,hb,ha⟩)
 have sub:=qo (g:=id) hs
 refine⟨λt ht=>(hm t).mp (sub.subset ht),vB nd hs all,(h1.nodup_iff.mpr (gX nd _ (Iu _))).sublist sub,h2.sublist sub,λS ⟨p,hp,sp⟩ ⟨q,hq,sq⟩=>?_⟩
 refine kL hs (λa b e=>by have e:a=b:=e;rw[e]) ?_
 have n:p≠q:=λz=>sq (z▸sp)
 rcases all p hp q hq n with k|k
 ·exact⟨_,k,p,q,rfl,λz=>sq (z.mp sp)⟩
 ·exact⟨_,k,q,p,rfl,λz=>sq (z.mpr sp)⟩
theorem nK{l m:List Pl}(nd:l.Nodup)(sub:∀x∈l,x∈m):l.length<=m.length:=by
 induction l generalizing m with
 |nil=>simp
 |cons a l ih=>
  obtain⟨h1,h2⟩:=JC.mp nd
  have ma:=sub a (IB ..)
  have:=ih (m:=m.erase a) h2 λx hx=>(List.mem_erase_of_ne (show x≠a from λe=>h1 (e▸hx))).mpr (sub x (IF _ hx))
  rw[J8 ma]at this
  have:0<m.length:=Kg ma
  rw[IL]
  omega
def stp(s:List Pl)(a b:Pl):List Pl:=
 if b∈(if a∈s/\b∉s then s++[b]else s)/\a∉(if a∈s/\b∉s then s++[b]else s)then(if a∈s/\b∉s then s++[b]else s)++[a]else(if a∈s/\b∉s then s++[b]else s)
def pL:List (List Pl)->List Pl->List Pl
 |[a,b]::r,s=>pL r (stp s a b)
 |_::r,s=>pL r s
 |[],s=>s
structure Reach(ps s:List Pl):Prop where
 nd:s.Nodup
 sub:∀p∈s,p∈ps
theorem AQ(s:List Pl)(a b:Pl):(∃e,stp s a b=s++e)/\((a∈s\/b∈s)->a∈stp s a b/\b∈stp s a b):=by
 unfold stp
 by_cases h1:a∈s
 ·by_cases h2:b∈s
  ·simp[h1,h2]
  ·simp[h1,h2]
 ·by_cases h2:b∈s
  ·simp[h1,h2]
  ·simp[h1,h2]
theorem sQ{ps s:List Pl}{a b:Pl}(h:Reach ps s)(ha:a∈ps)(hb:b∈ps):Reach ps (stp s a b):=by
 have add:∀{s:List Pl} {c:Pl},Reach ps s->c∈ps->c∉s->Reach ps (s++[c]):=by
  intro s c h hc n
  refine⟨Je.mpr ⟨h.nd,by simp,λx hx y hy z=>?_⟩,λp hp=>?_⟩
  ·have e:y=c:=by simpa using hy
   exact n (by rw[<-e,<-z];exact hx)
  ·rcases IK.mp hp with hp|hp
   ·exact h.sub p hp
   ·have e:p=c:=by simpa using hp
    rw[e];exact hc
 have one:Reach ps (if a∈s/\b∉s then s++[b]else s):=by
  by_cases k2:a∈s/\b∉s
  ·rw[if_pos k2];exact add h hb k2.2
  ·rw[if_neg k2];exact h
 unfold stp
 generalize (if a∈s/\b∉s then s++[b]else s)=s2 at one
 by_cases k:b∈s2/\a∉s2
 ·rw[if_pos k];exact add one ha k.2
 ·rw[if_neg k];exact one
theorem jj:∀(T:List (List Pl)) (s:List Pl),(∃e,pL T s=s++e)/\∀a b,[a,b]∈T->(a∈s\/b∈s)->a∈pL T s/\b∈pL T s
 |[],s=>⟨⟨[],by simp[pL]⟩,λ_ _ h=>by cases h⟩
 |[x,y]::r,s=>by
  show(∃e,pL r (stp s x y)=s++e)/\∀a b,[a,b]∈[x,y]::r->(a∈s\/b∈s)->a∈pL r (stp s x y)/\b∈pL r (stp s x y)
  obtain⟨⟨e1,h1⟩,h2⟩:=AQ s x y
  obtain⟨⟨e2,k1⟩,k2⟩:=jj r (stp s x y)
  refine⟨⟨e1++e2,by rw[k1,h1,Ja]⟩,λa b hab hs=>?_⟩
  have up:∀p∈stp s x y,p∈pL r (stp s x y):=λp hp=>by rw[k1];exact IK.mpr (.inl hp)
  rcases IJ.mp hab with z|z
  ·cases z
   obtain⟨m1,m2⟩:=h2 hs
   exact⟨up _ m1,up _ m2⟩
  ·refine k2 a b z ?_
   rw[h1]
   rcases hs with hs|hs
   ·exact .inl (IK.mpr (.inl hs))
   ·exact .inr (IK.mpr (.inl hs))
 |[]::r,s=>by
  obtain⟨k1,k2⟩:=jj r s
  exact⟨k1,λa b hab hs=>k2 a b (by rcases IJ.mp hab with z|z;cases z;exact z) hs⟩
 |[_]::r,s=>by
  obtain⟨k1,k2⟩:=jj r s
  exact⟨k1,λa b hab hs=>k2 a b (by rcases IJ.mp hab with z|z;cases z;exact z) hs⟩
 |(_::_::_::_)::r,s=>by
  obtain⟨k1,k2⟩:=jj r s
  exact⟨k1,λa b hab hs=>k2 a b (by rcases IJ.mp hab with z|z;cases z;exact z) hs⟩
theorem vF{ps s:List Pl}{us:List (List Pl)}(T:vE ps us)(h:Reach ps s)(h0:s≠[])(hl:s.length<ps.length)(nd:ps.Nodup):s.length+1<=(pL us s).length:=by
 obtain⟨p,hp⟩:=List.exists_mem_of_ne_nil s h0
 have⟨q,hq,nq⟩:∃q∈ps,q∉s:=by
  refine J6 λz=>?_
  have z:∀q∈ps,q∈s:=λq hq=>J6 λw=>z ⟨q,hq,w⟩
  have:=nK nd z
  omega
 obtain⟨t,ht,a,b,rfl,hc⟩:=T.cut (·∈s) ⟨p,h.sub p hp,hp⟩ ⟨q,hq,nq⟩
 obtain⟨⟨e,k1⟩,k2⟩:=jj us s
 have hs:a∈s\/b∈s:=by
  by_cases ha:a∈s
  ·exact .inl ha
  ·by_cases hb:b∈s
   ·exact .inr hb
   ·exact absurd ⟨λz=>absurd z ha,λz=>absurd z hb⟩ hc
 obtain⟨m1,m2⟩:=k2 a b ht hs
 have hne:e≠[]:=λz=>by
  rw[k1,z,KO]at m1 m2
  exact hc ⟨λ_=>m2,λ_=>m1⟩
 rw[k1,IX]
 have:=Ks.mpr hne
 omega
end L3
namespace HD
open PySem PySem.W PyProof.Rows L2 L3
theorem tab_of{K:Frag}{mg:Str->Option Value}{h:Heap}{n:Str}{a f:Addr}{fd:FuncData}{x qual:Str}{st:Stmt}(Y:CS K n a h)(X:K.In h)(G:h.Ns mainGlobals mg)(hf:nsIn K mainGlobals n=some (some (.ref f)))(F:jx K x qual st f fd):Tab K mg fd.code a:=by
 obtain⟨oc,od,kV,doc,pm,an,cdv,ct,osl,e,lk,hcd⟩:=F.ex
 obtain⟨b,o,h1,h2⟩:=Y.bm
 exact⟨Y.code f fd hf ⟨_,_,_,lk⟩,b,o,mg_of X G h1,h2⟩
end HD
namespace L3
open PySem PySem.Spec PyProof.Rows L2
theorem Tab.at{K:PySem.W.Frag}{mg:Str->Option Value}{c c':Value}{a:Addr}(T:Tab K mg c a)(e:c=c'):Tab K mg c' a:=e▸T
def C4:Str:=("all_pairs" :Str)++ ".<locals>." ++ "<lambda>"
def qq(q:Str)(tA:Addr):mX:=λds M Q=>∃ns:List Int,ds=[.pQ (ns.map L3.D.int)]/\ns.length<=63/\(∀z∈ns,Att.vg z)/\M tA=some (.oH q)/\Q (.bl true) (aH A2 tA (.oH q))
theorem AR{tA:Addr}{q:Str}{M:Mp}(h:M tA=some (.oH q)):Le (aH A2 tA (.oH q)) M:=λb u e=>by
 by_cases hb:b=tA
 ·rw[hb,au]at e;rw[hb,h];exact e
 ·rw[aR hb]at e;cases e
def C5:R3:=λd e M Q=>∃p q:List Pl,d=tD p/\e=tD q/\p.length=2/\q.length=2/\Q (.bl (dW p q)) M
theorem AS{X:Cx}(hu:X.A.units+64<cLine):jd X (compareOp .Lt) C5:=by
 constructor
 intro pins s σ H M x y d e v u Q I rm rx ry dx dy ⟨p,q,e1,e2,l1,l2,k⟩
 subst e1 e2
 exact l6 (n:=2) (iJ I.hok l1 dx rx) (iJ I.hok l2 dy ry) (by omega) ⟨.bl _,H,I,rfl,aE rm (br.mpr rfl) k⟩
def gm(g:Pl->Pl)(ps:List Pl):List (List Int ×D):=ps.map λp=>([p.x,p.y],(g p).d)
theorem xW(g:Pl->Pl)(ps:List Pl):((gm g ps).map λp=>pD p.1)=ps.map Pl.d:=by
 unfold gm;rw[JU];rfl
theorem vG(g:Pl->Pl)(ps:List Pl):((gm g ps).map λp=>D.tup [pD p.1,p.2])=ps.map λp=>D.tup [p.d,(g p).d]:=by
 unfold gm;rw[JU];rfl
theorem qt{p q:Pl}(h:[p.x,p.y]=[q.x,q.y]):p=q:=by
 cases p;cases q
 simp only[List.cons.injEq,and_true]at h
 rw[h.1,h.2]
theorem C6(g:Pl->Pl){ps:List Pl}(nd:ps.Nodup):((gm g ps).map (·.1)).Nodup:=by
 unfold gm
 rw[JU]
 exact List.Pairwise.map _ (λa b h z=>h (qt z)) nd
theorem kM(g:Pl->Pl):∀{ps:List Pl} {p:Pl},p∈ps->i6 (gm g ps) [p.x,p.y]=some (g p).d
 |q::ps,p,h=>by
  unfold i6 gm
  rw[IP,JT]
  by_cases e:q=p
  ·subst e;simp
  ·have n:([q.x,q.y]:List Int)≠[p.x,p.y]:=λz=>e (qt z)
   rw[decide_eq_false n]
   exact kM g ((IJ.mp h).resolve_left (Ne.symm e))
theorem yL(g:Pl->Pl):∀{ps:List Pl} {p:Pl},p∉ps->i6 (gm g ps) [p.x,p.y]=none
 |[],p,h=>rfl
 |q::ps,p,h=>by
  unfold i6 gm
  rw[IP,JT]
  have n:([q.x,q.y]:List Int)≠[p.x,p.y]:=λz=>h (qt z▸IB ..)
  rw[decide_eq_false n]
  exact yL g λz=>h (IF _ z)
theorem AU(g:Pl->Pl){ps:List Pl}(nd:ps.Nodup){i:Nat}{p:Pl}(hp:ps[i]?=some p):kI (gm g (ps.take i)) [p.x,p.y] (g p).d=gm g (ps.take (i+1)):=by
 have li:=(IC.mp hp).1
 have e:ps.take (i+1)=ps.take i++[p]:=by rw[J5,hp];rfl
 have n:p∉ps.take i:=λz=>by
  have n2:(ps.take i++[p]).Nodup:=by rw[<-e];exact nd.sublist (Jv _ _)
  exact(Je.mp n2).2.2 _ z _ (by simp) rfl
 unfold kI
 rw[yL g n,e]
 unfold gm
 rw[Jk]
 rfl
theorem qu(g:Pl->Pl)(ps:List Pl):(gm g ps).length=ps.length:=Iw _
theorem xX{M M':Mp}{f:Addr}{o:MO}(h:Le M M')(n:M f=none):Le M (aH M' f o):=λc u e=>by
 have hc:c≠f:=λz=>by rw[z,n]at e;cases e
 rw[aR hc];exact h c u e
theorem qv{ts:List (List Pl)}{i:Nat}{x:D}(h:(ts.map tD)[i]?=some x):∃t,ts[i]?=some t/\x=tD t:=by
 rw[II,Jw]at h
 obtain⟨t,h1,h2⟩:=h
 exact⟨t,h1,h2.symm⟩
theorem xY{us:List (List Pl)}(h:∀t∈us,t.length=2):(us.map tD).all (mw 3)=true:=by
 rw[IM]
 intro d hd
 obtain⟨t,ht,rfl⟩:=Jj.mp hd
 match t,h t ht with
 |[a,b],_=>rfl
theorem mD{α β:Type}{f:α->β}{xs:List α}{i:Nat}{x:α}(h:xs[i]?=some x):(xs.take (i+1)).map f=(xs.take i).map f++[f x]:=by
 rw[K0,h,Jk]
 rfl
theorem C7{M M':Mp}{b:Addr}{o:MO}(h:Le M M')(e:M' b=some o):Le (aH M b o) M':=λc u k=>by
 by_cases hc:c=b
 ·rw[hc,au]at k;rw[hc,e];exact k
 ·rw[aR hc]at k;exact h c u k
end L3
namespace Pf
open PySem L2 L3
set_option genInjectivity false in
set_option genSizeOf false in
structure Ad where
 (gH eG fN fO fP eH dN nL gI kN qw cW bH fQ vH:Addr)
 (fR dO eL eN eO dP cX kO c9 jk nM cL bA eS qx:FuncData)
 (tab:Addr)
structure Txt(K:PySem.W.Frag)(mg:Str->Option Value)(t:Ad):Prop where
 cD:jx K "_law_cell" "_law_cell" gv t.gH t.fR
 dZ:mg "_law_cell" =some (.ref t.gH)
 cO:jx K "_law_ringed" "_law_ringed" d7 t.eG t.dO
 iy:mg "_law_ringed" =some (.ref t.eG)
 fT:jx K "_law_lined" "_law_lined" fk t.fN t.eL
 nN:mg "_law_lined" =some (.ref t.fN)
 fU:jx K "_law_great" "_law_great" fm t.fO t.eN
 nO:mg "_law_great" =some (.ref t.fO)
 fV:jx K "_law_place" "_law_place" fq t.fP t.eO
 nP:mg "_law_place" =some (.ref t.fP)
 eU:jx K "_law_places" "_law_places" d8 t.eH t.dP
 lB:mg "_law_places" =some (.ref t.eH)
 cF:jx K "side_between" "side_between" dD t.dN t.cX
 gJ:mg "side_between" =some (.ref t.dN)
 nQ:jx K "apart" "apart" mG t.nL t.kO
 xZ:mg "apart" =some (.ref t.nL)
 gK:jx K "all_pairs" "all_pairs" cQ t.gI t.c9
 pB:mg "all_pairs" =some (.ref t.gI)
 kP:jx K "joined" "joined" jS t.kN t.jk
 vI:mg "joined" =some (.ref t.kN)
 nR:jx K "tree" "tree" mH t.qw t.nM
 vJ:mg "tree" =some (.ref t.qw)
 cY:jx K "_law_together" "_law_together" cT t.cW t.cL
 jy:mg "_law_together" =some (.ref t.cW)
 aY:jx K "_law_alike" "_law_alike" fy t.bH t.bA
 b8:mg "_law_alike" =some (.ref t.bH)
 fW:jx K "_law_apart" "_law_apart" fz t.fQ t.eS
 nT:mg "_law_apart" =some (.ref t.fQ)
 yM:jx K "law" "law" tG t.vH t.qx
 Gj:mg "law" =some (.ref t.vH)
 bI:mg "len" =none
 dQ:mg "range" =none
 vK:mg "min" =none
 vL:mg "max" =none
 sR:mg "sorted" =none
 no_dict:mg "dict" =none
 ak:mg "isinstance" =none
 gM:mg "int" =none
 gO:mg "str" =none
 cG:mg "tuple" =none
 cH:mg "list" =none
 jQ:mg "bool" =none
 pC:mg "reversed" =none
 tab:Tab K mg t.c9.code t.tab
theorem i7:aS ["_law_script","_law_k","_law_number"] ["_law_script","_law_k"] (ay gv):=⟨rfl,rfl,rfl,by decide +kernel,rfl,by decide +kernel,by decide +kernel⟩
theorem bx:aS ["_law_cell_here","_law_far","_law_x","_law_y","_law_spot","_law_across","_law_up","_law_k"] ["_law_cell_here","_law_far","_law_x","_law_y"] (ay d7):=⟨rfl,rfl,rfl,by decide +kernel,rfl,by decide +kernel,by decide +kernel⟩
theorem cP:aS ["_law_cell_here","_law_frame","_law_spanned","_law_x","_law_y"] ["_law_cell_here","_law_frame"] (ay fk):=⟨rfl,rfl,rfl,by decide +kernel,rfl,by decide +kernel,by decide +kernel⟩
theorem eV:aS ["_law_cell_here","_law_x","_law_y"] ["_law_cell_here"] (ay fm):=⟨rfl,rfl,rfl,by decide +kernel,rfl,by decide +kernel,by decide +kernel⟩
theorem lC:aS ["_law_kind","_law_cell_here","_law_frame","_law_k"] ["_law_kind","_law_cell_here","_law_frame","_law_k"] (ay fq):=⟨rfl,rfl,rfl,by decide +kernel,rfl,by decide +kernel,by decide +kernel⟩
theorem bL:aS ["_law_script","_law_most","_law_head","_law_frame","_law_places_here","_law_k","_law_p"] ["_law_script","_law_most"] (ay d8):=⟨rfl,rfl,rfl,by decide +kernel,rfl,by decide +kernel,by decide +kernel⟩
theorem jz:aS ["a","b"] ["a","b"] (ay dD):=⟨rfl,rfl,rfl,by decide +kernel,rfl,by decide +kernel,by decide +kernel⟩
theorem kQ:aS ["p","q","right","up"] ["p","q"] (ay mG):=⟨rfl,rfl,rfl,by decide +kernel,rfl,by decide +kernel,by decide +kernel⟩
theorem fX:aS ["places","pairs","k"] ["places"] (ay cQ):=⟨rfl,rfl,rfl,by decide +kernel,rfl,by decide +kernel,by decide +kernel⟩
theorem jl:aS ["groups","one","other","now","p"] ["groups","one","other"] (ay jS):=⟨rfl,rfl,rfl,by decide +kernel,rfl,by decide +kernel,by decide +kernel⟩
theorem fY:aS ["places","groups","sides","side","one","other"] ["places"] (ay mH):=⟨rfl,rfl,rfl,by decide +kernel,rfl,by decide +kernel,by decide +kernel⟩
theorem bq:aS ["_law_places_here","_law_sides","_law_seen","_law_p","_law_a","_law_b"] ["_law_places_here","_law_sides"] (ay cT):=⟨rfl,rfl,rfl,by decide +kernel,rfl,by decide +kernel,by decide +kernel⟩
theorem bB:aS ["_law_found","_law_due","_law_k"] ["_law_found","_law_due"] (ay fy):=⟨rfl,rfl,rfl,by decide +kernel,rfl,by decide +kernel,by decide +kernel⟩
theorem lD:aS ["_law_a","_law_b"] ["_law_a","_law_b"] (ay fz):=⟨rfl,rfl,rfl,by decide +kernel,rfl,by decide +kernel,by decide +kernel⟩
theorem eW:aS ["_law_script","_law_places_here","_law_handed","_law_found","_law_ahead","_law_one","_law_key","_law_cut","_law_again"] ["_law_script"] (ay tG):=⟨rfl,rfl,rfl,by decide +kernel,rfl,by decide +kernel,by decide +kernel⟩
section
variable{P:Program}{w:World}{K:PySem.W.Frag}{mg:Str->Option Value}{base:Heap}{t:Ad}
theorem dg(T:Txt K mg t):Binds K t.fR ["_law_script","_law_k"] []:=T.cD.binds λ_ _ _ _ _ _=>L3.wX λ_ _=>rfl
def pF:sW:=λds Q=>∃(ns:List Int) (k:Int),ds=[.pQ (ns.map L3.D.int),.int k]/\(∀z∈ns,Att.vg z)/\ns.length<=63/\0<=k/\k<=1000/\∀z:Int,Att.vg z->Q (.int z)
theorem dh(T:Txt K mg t):b9 P w K mg base dR 1 t.gH t.fR ["_law_script","_law_k"] (vQ K pF):=by
 refine yC T.cD i7 (λds Q h=>by(first|(obtain⟨_,rfl,_⟩:=h;rfl)|(obtain⟨_,_,rfl,_⟩:=h;rfl)|(obtain⟨_,_,_,rfl,_⟩:=h;rfl)|(obtain⟨_,_,_,_,rfl,_⟩:=h;rfl)|(obtain⟨_,_,_,_,_,rfl,_⟩:=h;rfl)|(obtain⟨_,_,_,_,_,_,rfl,_⟩:=h;rfl)|(obtain⟨_,_,_,_,_,_,_,rfl,_⟩:=h;rfl))) (λcdv A outer s H hr=>?_)
 have hu:=hr.units
 refine⟨_,(av (bM (aN (yD hu) (aa 1) (aG cz (by rfl) T.bI aM (af (aa 0) ao)) (aA _)) (aC (aK (bu (aa 0) (aa 1)))) aX)
  (av (bM (aN (Ak hu) (aa 0) (gf ao) (aA _)) (aC (aK (aq bg (aq eF (aq eF (aa 1) (aa 1)) aj) aj))) aX)
  (av (bw (i:=2) i7.nd rfl (Or.inl rfl) (aq bg (aq eF (aq cZ (aq bg (bu (aa 0) (aq bg (aa 1) (aG cz (by rfl) T.bI aM (af (aa 0) ao)))) aj) (aq eF (aq eF (aa 1) (aa 1)) aj)) aj) aj))
  (aC (aK (aq bg (aq eF (aa 2) (aa 2)) aj)))))),λds Q h=>?_⟩
 obtain⟨ns,k,rfl,hb,hlen,hk,hk2,h⟩:=h
 have sk:Sm 11 k:=by
  show k.natAbs<2 ^ 11
  omega
 walk_at "rd"
 refine⟨_,_,rfl,.inr (.inl rfl),?_⟩
 walk_at "rd"
 refine bS (λc=>?_) (λc=>?_)
 ·have c:k<((ns.map L3.D.int).length:Int):=of_decide_eq_true c
  rw[Iw]at c
  obtain⟨z,mz,hz⟩:=fK hk c
  walk_at "rd"
  exact⟨_,k,.int z,.inr (.inl rfl),rfl,hz,h z (hb z mz)⟩
 ·walk_at "rd"
  intro p hp
  refine⟨_,_,.inl rfl,.of au,qe ns,rfl,?_⟩
  walk_at "rd"
  refine bS (λc=>?_) (λc=>?_)
  ·walk_at "rd"
   exact h _ (vh (n:=31) (by walk_at "smle") (by decide))
  ·have hne:ns≠[]:=λz=>c (by rw[z];rfl)
   have hpos:0<ns.length:=Ks.mpr hne
   walk_at "rd"
   refine⟨_,_,rfl,.inr (.inl rfl),?_⟩
   walk_at "rd"
   refine⟨by rw[Iw];omega,?_⟩
   rw[Iw]
   obtain⟨z,_,hz⟩:=fK (ns:=ns) (k:=k % (ns.length:Int)) (Jb _ (by omega)) (IY _ (by omega))
   refine⟨_,_,.int z,.inr (.inl rfl),rfl,hz,?_⟩
   walk_at "rd"
   exact h _ (vh (n:=31) (by walk_at "smle") (by decide))
theorem gP(T:Txt K mg t):Binds K t.dO ["_law_cell_here","_law_far","_law_x","_law_y"] []:=T.cO.binds λ_ _ _ _ _ _=>L3.FF λ_ _ _ _=>rfl
def lE:sW:=λds Q=>∃c f x y:Int,ds=[.int c,.int f,.int x,.int y]/\Sm 40 f/\Sm 70 x/\Sm 70 y/\∀p:Pl,p.Ok 136->Q p.d
theorem gQ(T:Txt K mg t):b9 P w K mg base dR 1 t.eG t.dO ["_law_cell_here","_law_far","_law_x","_law_y"] (vQ K lE):=by
 refine yC T.cO bx (λds Q h=>by(first|(obtain⟨_,rfl,_⟩:=h;rfl)|(obtain⟨_,_,rfl,_⟩:=h;rfl)|(obtain⟨_,_,_,rfl,_⟩:=h;rfl)|(obtain⟨_,_,_,_,rfl,_⟩:=h;rfl)|(obtain⟨_,_,_,_,_,rfl,_⟩:=h;rfl)|(obtain⟨_,_,_,_,_,_,rfl,_⟩:=h;rfl)|(obtain⟨_,_,_,_,_,_,_,rfl,_⟩:=h;rfl))) (λcdv A outer s H hr=>?_)
 have hu:=hr.units
 refine⟨_,(av (bw (i:=4) bx.nd rfl (Or.inl rfl) (aq bg (aa 0) aj))
  (av (bw (i:=5) bx.nd rfl (Or.inl rfl) (bu (gf (af aj (af aj (af aj ao)))) (aq bg (aa 4) aj)))
  (av (bw (i:=6) bx.nd rfl (Or.inl rfl) (bu (gf (af aj (af aj (af aj ao)))) (aq bg (aa 4) aj)))
  (av (iG PassesOwn.never rfl (by rfl) T.dQ (af (aq cg (aa 4) aj) ao) (cE (i:=7) bx.nd rfl (Or.inl rfl)) (aC (Cd (i:=5) (j:=6) rfl bx.nd rfl rfl (by decide) rfl rfl (af (oM (aa 6)) (af (aa 5) ao)))))
  (av (bM (aN (dH hu) (aa 4) aj (aA _)) (av (bw (i:=5) bx.nd rfl (Or.inl rfl) aj)
  (aC (bw (i:=6) bx.nd rfl (Or.inl rfl) aj))) aX)
  (aC (aK (cI (af (aq cZ (aa 2) (aq ic (aa 1) (aa 5))) (af (aq cZ (aa 3) (aq ic (aa 1) (aa 6))) ao)))))))))),λds Q h=>?_⟩
 obtain⟨c,f,x,y,rfl,sf,sx,sy,h⟩:=h
 walk_at "rd"
 intro p hp
 walk_at "rd"
 obtain⟨z1,m1,e1⟩:=fK (ns:=[5,4,3]) (k:=c % 13 % 3) (Jb _ (by decide)) (IY _ (by decide))
 have s1:Sm 3 z1:=iL (ns:=[5,4,3]) (by decide) m1
 refine L3.j7 au e1 ?_
 walk_at "rd"
 intro q hq
 walk_at "rd"
 obtain⟨z2,m2,e2⟩:=fK (ns:=[0,3,4]) (k:=c % 13 % 3) (Jb _ (by decide)) (IY _ (by decide))
 have s2:Sm 3 z2:=iL (ns:=[0,3,4]) (by decide) m2
 refine L3.j7 au e2 ?_
 walk_at "rd"
 have Iq:c % 13<13:=IY _ (by decide)
 have HU:0<=c % 13:=Jb _ (by decide)
 refine⟨by dsimp only;omega,by dsimp only;omega,?_⟩
 refine aQ (λi ρ M'=>∃(u v:Int) (y1:Option L3.D),ρ=[some (.int c),some (.int f),some (.int x),some (.int y),some (.int (c % 13)),some (.int u),some (.int v),y1]/\Sm 3 u/\Sm 3 v) _ ?_ ?_ ⟨_,_,_,rfl,s1,s2⟩
 ·rintro i d ρ M' N hx ⟨u,v,y1,rfl,su,sv⟩ hN
  obtain⟨hi,rfl⟩:=bK hx
  refine⟨trivial,?_⟩
  walk_at "rd"
  exact hN _ _ ⟨_,_,_,rfl,sv.neg,su⟩
 ·rintro ρ M' ⟨u,v,y1,rfl,su,sv⟩
  refine⟨trivial,?_⟩
  walk_at "rd"
  refine bS (λ_=>?_) (λ_=>?_)
  ·walk_at "rd"
   exact h ⟨_,_⟩ ⟨by walk_at "smle",by walk_at "smle"⟩
  ·walk_at "rd"
   exact h ⟨_,_⟩ ⟨by walk_at "smle",by walk_at "smle"⟩
theorem lF(T:Txt K mg t):Binds K t.eL ["_law_cell_here","_law_frame"] []:=T.fT.binds λ_ _ _ _ _ _=>L3.wX λ_ _=>rfl
def nU:sW:=λds Q=>∃c f:Int,ds=[.int c,.int f]/\∀p:Pl,p.Ok 136->Q p.d
theorem lG(T:Txt K mg t):b9 P w K mg base dR 1 t.fN t.eL ["_law_cell_here","_law_frame"] (vQ K nU):=by
 refine yC T.fT cP (λds Q h=>by(first|(obtain⟨_,rfl,_⟩:=h;rfl)|(obtain⟨_,_,rfl,_⟩:=h;rfl)|(obtain⟨_,_,_,rfl,_⟩:=h;rfl)|(obtain⟨_,_,_,_,rfl,_⟩:=h;rfl)|(obtain⟨_,_,_,_,_,rfl,_⟩:=h;rfl)|(obtain⟨_,_,_,_,_,_,rfl,_⟩:=h;rfl)|(obtain⟨_,_,_,_,_,_,_,rfl,_⟩:=h;rfl))) (λcdv A outer s H hr=>?_)
 have hu:=hr.units
 refine⟨_,(av (bw (i:=2) cP.nd rfl (Or.inl rfl) (aq ic (aq cR (aq bg (aq cg (aa 0) aj) aj) aj) (bu (gf (af aj (af (aq ie aj aj) ao))) (aq bg (aq cg (aa 1) aj) aj))))
  (av (bw (i:=3) cP.nd rfl (Or.inl rfl) (aq cZ (aq ic (aa 2) (bu (gf (af aj (af aj (af aj (af aj ao))))) (aq bg (aa 1) aj))) (aq bg (aq cg (aa 1) aj) aj)))
  (av (bw (i:=4) cP.nd rfl (Or.inl rfl) (aq cR (aq ic (aa 2) (bu (gf (af aj (af aj (af aj (af (oM aj) ao))))) (aq bg (aa 1) aj))) aj))
  (av (bM (jc.pt (oK (aN (dH hu) (aq bg (aq cg (aa 1) aj) aj) aj (aA _)) (jX (aN (dH hu) (aq bg (aa 0) aj) aj (aA _))))) (aC (aK (cI (af (aq cZ (aa 3) (aq bg (aq cg (aa 0) aj) aj)) (af (aq cZ (aq cZ (aa 4) aj) (aq bg (aq cg (aa 0) aj) aj)) ao))))) aX)
  (aC (aK (cI (af (aa 3) (af (aa 4) ao))))))))),λds Q h=>?_⟩
 obtain⟨c,f,rfl,h⟩:=h
 walk_at "rd"
 intro p hp
 walk_at "rd"
 obtain⟨z0,m0,e0⟩:=fK (ns:=[1,10 ^ 30]) (k:=f / 4 % 2) (Jb _ (by decide)) (IY _ (by decide))
 have s0:Sm 100 z0:=iL (ns:=[1,10 ^ 30]) (by decide) m0
 refine L3.j7 au e0 ?_
 walk_at "rd"
 intro q hq
 walk_at "rd"
 obtain⟨z1,m1,e1⟩:=fK (ns:=[1,0,1,3]) (k:=f % 4) (Jb _ (by decide)) (IY _ (by decide))
 have s1:Sm 3 z1:=iL (ns:=[1,0,1,3]) (by decide) m1
 refine L3.j7 au e1 ?_
 walk_at "rd"
 intro r hr
 walk_at "rd"
 obtain⟨z2,m2,e2⟩:=fK (ns:=[0,1,2, -2]) (k:=f % 4) (Jb _ (by decide)) (IY _ (by decide))
 have s2:Sm 3 z2:=iL (ns:=[0,1,2, -2]) (by decide) m2
 refine L3.j7 au e2 ?_
 walk_at "rd"
 have fin:∀x y,Sm 136 x->Sm 136 y->Q (.tup [.int x,.int y]):=λx y a b=>h ⟨x,y⟩ ⟨a,b⟩
 refine bS (λ_=>?_) (λ_=>?_)
 ·walk_at "rd"
  refine bS (λ_=>?_) (λ_=>?_)
  ·walk_at "rd"
   exact fin _ _ (by walk_at "smle") (by walk_at "smle")
  ·walk_at "rd"
   exact fin _ _ (by walk_at "smle") (by walk_at "smle")
 ·walk_at "rd"
  exact fin _ _ (by walk_at "smle") (by walk_at "smle")
theorem lH(T:Txt K mg t):Binds K t.eN ["_law_cell_here"] []:=T.fU.binds λ_ _ _ _ _ _=>L3.Cq λ_=>rfl
def nV:sW:=λds Q=>∃c:Int,ds=[.int c]/\Att.vg c/\∀p:Pl,p.Ok 136->Q p.d
theorem lI(T:Txt K mg t):b9 P w K mg base dR 1 t.fO t.eN ["_law_cell_here"] (vQ K nV):=by
 refine yC T.fU eV (λds Q h=>by(first|(obtain⟨_,rfl,_⟩:=h;rfl)|(obtain⟨_,_,rfl,_⟩:=h;rfl)|(obtain⟨_,_,_,rfl,_⟩:=h;rfl)|(obtain⟨_,_,_,_,rfl,_⟩:=h;rfl)|(obtain⟨_,_,_,_,_,rfl,_⟩:=h;rfl)|(obtain⟨_,_,_,_,_,_,rfl,_⟩:=h;rfl)|(obtain⟨_,_,_,_,_,_,_,rfl,_⟩:=h;rfl))) (λcdv A outer s H hr=>?_)
 have hu:=hr.units
 refine⟨_,(av (bw (i:=1) eV.nd rfl (Or.inl rfl) (aq bg (aq eF (aa 0) aj) (aq ie aj aj)))
  (av (bw (i:=2) eV.nd rfl (Or.inl rfl) (aq bg (aq eF (aa 0) aj) (aq cZ (aq ie aj aj) aj)))
  (aC (aK (cI (af (aq cR (aa 1) (aq eF aj (aq ie aj aj))) (af (aq cR (aa 2) (aq eF aj (aq ie aj aj))) ao))))))),λds Q h=>?_⟩
 obtain⟨c,rfl,bc,h⟩:=h
 walk_at "rd"
 refine⟨Or.inr (Or.inr ⟨bc,200,by decide +kernel,by decide⟩),?_⟩
 walk_at "rd"
 refine⟨Or.inr (Or.inr ⟨bc,200,by decide +kernel,by decide⟩),?_⟩
 walk_at "rd"
 exact h ⟨_,_⟩ ⟨by walk_at "smle",by walk_at "smle"⟩
theorem lJ(T:Txt K mg t):Binds K t.eO ["_law_kind","_law_cell_here","_law_frame","_law_k"] []:=T.fV.binds λ_ _ _ _ _ _=>L3.FF λ_ _ _ _=>rfl
def nW:sW:=λds Q=>∃k c f i:Int,ds=[.int k,.int c,.int f,.int i]/\Att.vg c/\∀p:Pl,p.Ok 136->Q p.d
theorem lK(T:Txt K mg t):b9 P w K mg base dR 2 t.fP t.eO ["_law_kind","_law_cell_here","_law_frame","_law_k"] (vQ K nW):=by
 refine yC T.fV lC (λds Q h=>by(first|(obtain⟨_,rfl,_⟩:=h;rfl)|(obtain⟨_,_,rfl,_⟩:=h;rfl)|(obtain⟨_,_,_,rfl,_⟩:=h;rfl)|(obtain⟨_,_,_,_,rfl,_⟩:=h;rfl)|(obtain⟨_,_,_,_,_,rfl,_⟩:=h;rfl)|(obtain⟨_,_,_,_,_,_,rfl,_⟩:=h;rfl)|(obtain⟨_,_,_,_,_,_,_,rfl,_⟩:=h;rfl))) (λcdv A outer s H hr=>?_)
 have hu:=hr.units
 refine⟨_,(av (bM (aN (dH hu) (aa 0) aj (aA _)) (aC (aK (cI (af (aq cZ (aq ie aj aj) (aq bg (aa 1) aj)) (af (aq cR (aq bg (aq cg (aa 1) aj) aj) (aq ic aj (aq ie aj aj))) ao))))) aX)
  (av (bM (aN (dH hu) (aa 0) aj (aA _)) (aC (aK (b7 (gQ T) (hr.mono (by decide)) (by rfl) T.iy T.cO.kp (gP T) (af (aa 1) (af (aq cZ aj (aq bg (aa 2) (aq ie aj aj))) (af (aq cR (aq bg (aq cg (aa 2) aj) aj) aj) (af (oM (aq bg (aq cg (aa 2) aj) (aq ie aj aj))) ao))))))) aX)
  (av (bM (aN (dH hu) (aa 0) aj (aA _)) (aC (aK (b7 (lG T) (hr.mono (by decide)) (by rfl) T.nN T.fT.kp (lF T) (af (aa 1) (af (aa 2) ao))))) aX)
  (av (bM (aN (dH hu) (aa 0) aj (aA _)) (aC (aK (b7 (lI T) (hr.mono (by decide)) (by rfl) T.nO T.fU.kp (lH T) (af (aa 1) ao)))) aX)
  (av (bM (aN (dH hu) (aa 0) aj (aA _)) (aC (aK (cI (af (aq cR (aq bg (aa 1) aj) aj) (af (aq cR (aq bg (aq cg (aa 1) aj) aj) aj) ao))))) aX)
  (av (bM (jc.pt (oK (aN (dH hu) (aa 0) aj (aA _)) (jX (aN (dH hu) (aq bg (aa 3) aj) aj (aA _))))) (aC (aK (b7 (gQ T) (hr.mono (by decide)) (by rfl) T.iy T.cO.kp (gP T) (af (aa 1) (af aj (af aj (af (oM aj) ao))))))) aX)
  (av (bM (aN (dH hu) (aa 0) aj (aA _)) (aC (aK (cI (af (aq cR (aq bg (aa 1) aj) aj) (af (aq cR (aq bg (aq cg (aa 1) aj) aj) aj) ao))))) aX)
  (av (bM (aN (dH hu) (aa 0) aj (aA _)) (aC (aK (cI (af (aq cZ (aq bg (aa 1) aj) (bu (gf (af aj (af (aq ie aj aj) ao))) (aq bg (aq cg (aa 1) aj) aj))) (af (aq bg (aq cg (aa 1) aj) aj) ao))))) aX)
  (aC (aK (cI (af (aq bg (aa 1) aj) (af (aq bg (aq cg (aa 1) aj) aj) ao))))))))))))),λds Q h=>?_⟩
 obtain⟨k,c,f,i,rfl,bc,h⟩:=h
 have fin:∀x y,Sm 136 x->Sm 136 y->Q (.tup [.int x,.int y]):=λx y a b=>h ⟨x,y⟩ ⟨a,b⟩
 walk_at "rd"
 refine bS (λ_=>?_) (λ_=>?_)
 ·walk_at "rd"
  exact fin _ _ (by walk_at "smle") (by walk_at "smle")
 walk_at "rd"
 refine bS (λ_=>?_) (λ_=>?_)
 ·walk_at "rd"
  have n1:Sm 40 (1+f % 10 ^ 9):=by walk_at "smle"
  have n2:Sm 70 (f / 7 % 2001-1000):=by walk_at "smle"
  have n3:Sm 70 (-(f / 11 % 10 ^ 20)):=by walk_at "smle"
  exact⟨n1,n2,n3,λp hp=>h p hp⟩
 walk_at "rd"
 refine bS (λ_=>?_) (λ_=>?_)
 ·walk_at "rd"
  exact λp hp=>h p hp
 walk_at "rd"
 refine bS (λ_=>?_) (λ_=>?_)
 ·walk_at "rd"
  exact⟨bc,λp hp=>h p hp⟩
 walk_at "rd"
 refine bS (λ_=>?_) (λ_=>?_)
 ·walk_at "rd"
  exact fin _ _ (by walk_at "smle") (by walk_at "smle")
 walk_at "rd"
 refine bS (λ_=>?_) (λ_=>?_)
 ·walk_at "rd"
  refine bS (λ_=>?_) (λ_=>?_)
  ·walk_at "rd"
   exact λp hp=>h p hp
  walk_at "rd"
  refine bS (λ_=>?_) (λ_=>?_)
  ·walk_at "rd"
   exact fin _ _ (by walk_at "smle") (by walk_at "smle")
  walk_at "rd"
  refine bS (λ_=>?_) (λ_=>?_)
  ·walk_at "rd"
   intro p hp
   walk_at "rd"
   obtain⟨z1,m1,e1⟩:=fK (ns:=[0,10 ^ 38]) (k:=c / 9 % 2) (Jb _ (by decide)) (IY _ (by decide))
   have s1:Sm 128 z1:=iL (ns:=[0,10 ^ 38]) (by decide) m1
   refine L3.j7 au e1 ?_
   walk_at "rd"
   exact fin _ _ (by walk_at "smle") (by walk_at "smle")
  walk_at "rd"
  exact fin _ _ (by walk_at "smle") (by walk_at "smle")
 ·walk_at "rd"
  refine bS (λ_=>?_) (λ_=>?_)
  ·walk_at "rd"
   exact fin _ _ (by walk_at "smle") (by walk_at "smle")
  walk_at "rd"
  refine bS (λ_=>?_) (λ_=>?_)
  ·walk_at "rd"
   intro p hp
   walk_at "rd"
   obtain⟨z1,m1,e1⟩:=fK (ns:=[0,10 ^ 38]) (k:=c / 9 % 2) (Jb _ (by decide)) (IY _ (by decide))
   have s1:Sm 128 z1:=iL (ns:=[0,10 ^ 38]) (by decide) m1
   refine L3.j7 au e1 ?_
   walk_at "rd"
   exact fin _ _ (by walk_at "smle") (by walk_at "smle")
  walk_at "rd"
  exact fin _ _ (by walk_at "smle") (by walk_at "smle")
theorem kR(T:Txt K mg t):Binds K t.dP ["_law_script","_law_most"] []:=T.eU.binds λ_ _ _ _ _ _=>L3.wX λ_ _=>rfl
def lM:mX:=λds M Q=>∃(ns:List Int) (m:Int),ds=[.pQ (ns.map L3.D.int),.int m]/\(∀z∈ns,Att.vg z)/\ns.length<=63/\0<=m/\m<=40/\∀(p:Addr) (ps:List Pl),M p=none->ps.Nodup->(∀q∈ps,q.Ok 136)->(ps.length:Int)<=m->Q (.ref p) (aH M p (.lst (ps.map Pl.d)))
theorem kT(T:Txt K mg t):b9 P w K mg base dR 3 t.eH t.dP ["_law_script","_law_most"] (mY K lM):=by
 refine wI T.eU bL (λds M Q h=>by(first|(obtain⟨_,rfl,_⟩:=h;rfl)|(obtain⟨_,_,rfl,_⟩:=h;rfl)|(obtain⟨_,_,_,rfl,_⟩:=h;rfl)|(obtain⟨_,_,_,_,rfl,_⟩:=h;rfl)|(obtain⟨_,_,_,_,_,rfl,_⟩:=h;rfl)|(obtain⟨_,_,_,_,_,_,rfl,_⟩:=h;rfl)|(obtain⟨_,_,_,_,_,_,_,rfl,_⟩:=h;rfl))) (λcdv A outer s H hr=>?_)
 have hu:=hr.units
 refine⟨_,(av (bw (i:=2) bL.nd rfl (Or.inl rfl) (b7 (dh T) (hr.mono (by decide)) (by rfl) T.dZ T.cD.kp (dg T) (af (aa 0) (af aj ao))))
  (av (bw (i:=3) bL.nd rfl (Or.inl rfl) (b7 (dh T) (hr.mono (by decide)) (by rfl) T.dZ T.cD.kp (dg T) (af (aa 0) (af aj ao))))
  (av (bw (i:=4) bL.nd rfl (Or.inl rfl) (gf ao))
  (av (iG PassesOwn.never rfl (by rfl) T.dQ (af (aG (zQ rfl) (by rfl) T.vK lX (af (aa 1) (af (aq bg (aq cg (aa 2) aj) (aq cZ (aa 1) aj)) ao))) ao) (cE (i:=5) bL.nd rfl (Or.inl rfl)) (av (bw (i:=6) bL.nd rfl (Or.inl rfl) (b7 (lK T) (hr.mono (by decide)) (by rfl) T.nP T.fV.kp (lJ T) (af (aq bg (aa 2) aj) (af (b7 (dh T) (hr.mono (by decide)) (by rfl) T.dZ T.cD.kp (dg T) (af (aa 0) (af (aq cZ (aa 5) aj) ao))) (af (aa 3) (af (aa 5) ao))))))
  (aC (bM (aN (iV hu) (aa 6) (aa 4) (by with_unfolding_all rfl)) (aC (pV (yz (aa 4) (aa 6) (tX PySem.F.plainAttrs_list PySem.F.slot_list_append PySem.F.type_list_append i9 (bJ.dn (aa 4)) (jH (bJ.dn (aa 6)) mQ))))) aX))))
  (aC (aK (aa 4))))))),λds M Q h=>?_⟩
 obtain⟨ns,m,rfl,hb,hlen,hm0,hm1,h⟩:=h
 walk_at "rd"
 refine⟨hb,hlen,by decide,by decide,λhd _=>?_⟩
 walk_at "rd"
 refine⟨hb,hlen,by decide,by decide,λfr _=>?_⟩
 walk_at "rd"
 intro p hp
 walk_at "rd"
 have e0:0<=hd / 8 % (m+3):=Jb _ (by omega)
 refine⟨by dsimp only;omega,by dsimp only;omega,?_⟩
 refine aQ (λi ρ M'=>∃(ps:List Pl) (y1 y2:Option L3.D),ρ=[some (.pQ (ns.map L3.D.int)),some (.int m),some (.int hd),some (.int fr),some (.ref p),y1,y2]/\ps.length<=i/\ps.Nodup/\(∀q∈ps,q.Ok 136)/\M'=aH M p (.lst (ps.map Pl.d))) _ ?_ ?_ ⟨[],_,_,rfl,Iu _,KW,(λq hq=>by cases hq),rfl⟩
 ·rintro i x ρ M' N hx ⟨ps,y1,y2,rfl,hl,nd,ho,rfl⟩ hN
  obtain⟨hi,rfl⟩:=bK hx
  have hi:i<41:=by dsimp only at hi;omega
  refine⟨trivial,?_⟩
  walk_at "rd"
  refine⟨hb,hlen,by dsimp only;omega,by dsimp only;omega,λz1 bz=>?_⟩
  walk_at "rd"
  refine⟨bz,λq hq=>?_⟩
  walk_at "rd"
  refine L3.j8 au (rfl) (bO ps) ?_
  walk_at "rd"
  rw[if_pos rfl,fL]
  refine bS (λk=>?_) (λk=>?_)
  ·have k:q∉ps:=λz=>by rw[decide_eq_true z]at k;cases k
   walk_at "rd"
   refine L3.uJ au ?_
   walk_at "rd"
   refine⟨p,_,rfl,au,?_,?_⟩
   ·rw[Iw]
    have:(1000:Nat)<sizeLine:=by decide
    omega
   ·rw[oJ]
    refine hN _ _ ⟨ps++[q],_,_,rfl,by simp;omega,?_,?_,by simp⟩
    ·rw[Je]
     exact⟨nd,by simp,λa ha b hb e=>by rw[Jf.mp hb]at e;subst e;exact k ha⟩
    ·intro z hz
     rcases IK.mp hz with hz|hz
     ·exact ho z hz
     ·rw[Jf.mp hz];exact hq
  ·exact hN _ _ ⟨ps,_,_,rfl,by omega,nd,ho,rfl⟩
 ·rintro ρ M' ⟨ps,y1,y2,rfl,hl,nd,ho,rfl⟩
  refine⟨trivial,?_⟩
  walk_at "rd"
  refine bC.mk ⟨_,Le.refl _,h p ps hp nd ho ?_⟩
  simp at hl
  omega
theorem gp(T:Txt K mg t):Binds K t.cX ["a","b"] []:=T.cF.binds λ_ _ _ _ _ _=>L3.wX λ_ _=>rfl
def kU:sW:=λds Q=>∃a b:Pl,ds=[a.d,b.d]/\Q (tD [lo a b,hi a b])
theorem gq(T:Txt K mg t):b9 P w K mg base dR 1 t.dN t.cX ["a","b"] (vQ K kU):=by
 refine yC T.cF jz (λds Q h=>by(first|(obtain⟨_,rfl,_⟩:=h;rfl)|(obtain⟨_,_,rfl,_⟩:=h;rfl)|(obtain⟨_,_,_,rfl,_⟩:=h;rfl)|(obtain⟨_,_,_,_,rfl,_⟩:=h;rfl)|(obtain⟨_,_,_,_,_,rfl,_⟩:=h;rfl)|(obtain⟨_,_,_,_,_,_,rfl,_⟩:=h;rfl)|(obtain⟨_,_,_,_,_,_,_,rfl,_⟩:=h;rfl))) (λcdv A outer s H hr=>?_)
 have hu:=hr.units
 refine⟨_,(aC (aK (cI (af (aG (EB hu rfl) (by rfl) T.vK lX (af (aa 0) (af (aa 1) ao))) (af (aG (EC hu rfl) (by rfl) T.vL lY (af (aa 0) (af (aa 1) ao))) ao))))),λds Q h=>?_⟩
 obtain⟨a,b,rfl,h⟩:=h
 walk_at "rd"
 exact h
theorem vM(T:Txt K mg t):Binds K t.kO ["p","q"] []:=T.nQ.binds λ_ _ _ _ _ _=>L3.wX λ_ _=>rfl
def x6:sW:=λds Q=>∃p q:Pl,ds=[p.d,q.d]/\p.Ok 140/\q.Ok 140/\Q (.int (g8 p q))
theorem vN(T:Txt K mg t):b9 P w K mg base dR 1 t.nL t.kO ["p","q"] (vQ K x6):=by
 refine yC T.nQ kQ (λds Q h=>by(first|(obtain⟨_,rfl,_⟩:=h;rfl)|(obtain⟨_,_,rfl,_⟩:=h;rfl)|(obtain⟨_,_,_,rfl,_⟩:=h;rfl)|(obtain⟨_,_,_,_,rfl,_⟩:=h;rfl)|(obtain⟨_,_,_,_,_,rfl,_⟩:=h;rfl)|(obtain⟨_,_,_,_,_,_,rfl,_⟩:=h;rfl)|(obtain⟨_,_,_,_,_,_,_,rfl,_⟩:=h;rfl))) (λcdv A outer s H hr=>?_)
 have hu:=hr.units
 refine⟨_,(av (bw (i:=2) kQ.nd rfl (Or.inl rfl) (aq cR (bu (aa 1) aj) (bu (aa 0) aj)))
  (av (bw (i:=3) kQ.nd rfl (Or.inl rfl) (aq cR (bu (aa 1) aj) (bu (aa 0) aj)))
  (aC (aK (aq cZ (aq ic (aa 2) (aa 2)) (aq ic (aa 3) (aa 3))))))),λds Q h=>?_⟩
 obtain⟨p,q,rfl,⟨p1,p2⟩,⟨q1,q2⟩,h⟩:=h
 unfold g8 at h
 walk_at "rd"
 exact h
theorem nX(T:Txt K mg t):Binds K t.c9 ["places"] []:=T.gK.binds λ_ _ _ _ _ _=>L3.Cq λ_=>rfl
def pG(t:Ad):mX:=λds M Q=>∃l:Addr,ds=[.ref l]/\∃ps:List Pl,M l=some (.lst (ps.map Pl.d))/\ps.Nodup/\ps.length<=16/\(∀q∈ps,q.Ok 140)/\M t.tab=some (.oH C4)/\∀(r:Addr) (L:List (List Pl)),M r=none->L.Perm (prs ps ps.length)->C3 L->Q (.ref r) (aH M r (.lst (L.map tD)))
theorem nY(T:Txt K mg t):b9 P w K mg base dR 5 t.gI t.c9 ["places"] (mY K (pG t)):=by
 refine EF T.gK fX (λds M Q h=>by(first|(obtain⟨_,rfl,_⟩:=h;rfl)|(obtain⟨_,_,rfl,_⟩:=h;rfl)|(obtain⟨_,_,_,rfl,_⟩:=h;rfl)|(obtain⟨_,_,_,_,rfl,_⟩:=h;rfl)|(obtain⟨_,_,_,_,_,rfl,_⟩:=h;rfl)|(obtain⟨_,_,_,_,_,_,rfl,_⟩:=h;rfl)|(obtain⟨_,_,_,_,_,_,_,rfl,_⟩:=h;rfl))) (λcdv A outer s H hc hr=>?_)
 have hu:=hr.units
 refine⟨_,(av (bw (i:=1) fX.nd rfl (Or.inl rfl) (gf ao))
  (av (iG PassesOwn.never rfl (by rfl) T.dQ (af (aG cz (by rfl) T.bI aM (af (aa 0) ao)) ao) (cE (i:=2) fX.nd rfl (Or.inr rfl)) (aC (pV (CI (aa 1) (Ar (uR (ys:=["places","k"]) (fs:=[0,2]) rfl (by show fH (ay cQ) ["places","pairs","k"] _ _ _ _=true;decide +kernel) (gD (aa 0) uK (kg (aa 2))) (λcl C s0 H0 ex=>uO) (λcl C s0 H0 ex=>(b7 (gq T) (hr.mono (by decide)) (by rfl) T.gJ T.cF.kp (gp T) (af (bu (aa 1) (aa 2)) (af (aa 0) ao)))))) (tX PySem.F.plainAttrs_list PySem.F.slot_list_extend PySem.F.type_list_extend rV (bJ.dn (aa 1)) (jH (bJ.dn (Ar (uR (ys:=["places","k"]) (fs:=[0,2]) rfl (by show fH (ay cQ) ["places","pairs","k"] _ _ _ _=true;decide +kernel) (gD (aa 0) uK (kg (aa 2))) (λcl C s0 H0 ex=>uO) (λcl C s0 H0 ex=>(b7 (gq T) (hr.mono (by decide)) (by rfl) T.gJ T.cF.kp (gp T) (af (bu (aa 1) (aa 2)) (af (aa 0) ao))))))) mQ))))))
  (aC (aK (xJ (x:= "side") (k:=1) (kf:=AO) (T.tab.at hc) rfl rfl (by decide +kernel) ⟨rfl,rfl,rfl,by decide +kernel,rfl,by decide +kernel,by decide +kernel⟩ (hr.mono (by decide)) (λ_ _ _ us h=>by match us,h with|[_],_=>rfl) (by rfl) T.sR (aa 1) (λf cd A outer s H hr=>(cI (af (b7 (vN T) (hr.mono (by decide)) (by rfl) T.xZ T.nQ.kp (vM T) (af (bu (aa 0) aj) (af (bu (aa 0) aj) ao))) (af (aa 0) ao))))))))),λds M Q h=>?_⟩
 obtain⟨l,rfl,ps,hM,nd,Dv,ho,hT,h⟩:=h
 have sl:(1000:Nat)<sizeLine:=by decide
 walk_at "rd"
 intro b hb
 have HV:l≠b:=λz=>by rw[<-z,hM]at hb;cases hb
 have le:=Le.new (o:=MO.lst []) hb
 have hM:=az (u:=MO.lst []) hM hb
 have hB:aH M b (.lst []) b=some (.lst []):=au
 generalize aH M b (.lst [])=M1 at hM hB le ⊢
 walk_at "rd"
 refine L3.bX hM ?_
 rw[Iw]
 walk_at "rd"
 refine⟨by omega,by omega,?_⟩
 refine aQ (λi ρ M'=>∃(y1:Option L3.D),ρ=[some (.ref l),some (.ref b),y1]/\Le M M'/\M' l=some (.lst (ps.map Pl.d))/\M' b=some (.lst ((prs ps i).map tD))) _ ?_ ?_ ⟨_,rfl,le,hM,hB⟩
 ·rintro i v ρ M' N jA ⟨y1,rfl,le,hM,hB⟩ hN
  obtain⟨hj,rfl⟩:=bK jA
  have hj:i<ps.length:=by omega
  have hp:ps[i]?=some (ps.getD i ⟨0,0⟩):=by rw[IU,Iz hj];rfl
  have few:(prs ps i).length<=120:=by
   have:=nJ (ps:=ps) i (by omega)
   have h2:i*(i-1)<=16*15:=Nat.mul_le_mul (by omega) (by omega)
   omega
  refine⟨trivial,?_⟩
  walk_at "rd"
  refine L3.uJ hB ?_
  walk_at "rd"
  refine L3.oU (.of hM) λc hc=>?_
  have ec:cutD (ps.map Pl.d) none (some (i:Int))=(ps.take i).map Pl.d:=kF Pl.d ps i (by omega)
  rw[ec]
  have hM:=az (u:=MO.lst ((ps.take i).map Pl.d)) hM hc
  have hB:=az (u:=MO.lst ((ps.take i).map Pl.d)) hB hc
  have le:=le.trans (Le.new (o:=MO.lst ((ps.take i).map Pl.d)) hc)
  have hC:aH M' c (.lst ((ps.take i).map Pl.d)) c=some (.lst ((ps.take i).map Pl.d)):=au
  generalize aH M' c (.lst ((ps.take i).map Pl.d))=M3 at hM hB hC le ⊢
  refine L3.p6 hC ⟨by rw[Iw,Jg];omega,bC.mk (l0 (λj acc M5=>M5=M3/\acc=(((ps.take i).take j).map λp=>tD [lo (ps.getD i ⟨0,0⟩) p,hi (ps.getD i ⟨0,0⟩) p])) _ ?_ ?_ ⟨rfl,rfl⟩)⟩
  ·rintro j v acc M5 N2 iu ⟨rfl,rfl⟩ C8
   obtain⟨q,hq,rfl⟩:=nu iu
   refine⟨hC,?_⟩
   walk_at "rd"
   refine⟨_,_,_,.inr (.inr ⟨l,rfl,hM⟩),rfl,bQ (by rw[II,hp];rfl),?_⟩
   walk_at "rd"
   refine C8 _ _ ⟨rfl,?_⟩
   rw[mD hq]
  ·rintro acc M5 ⟨rfl,rfl⟩
   refine⟨hC,λg hg=>?_⟩
   rw[Iw,Jm]
   refine⟨b,g,_,_,rfl,rfl,az hB hg,au,by rw[Iw,Iw,Jg];omega,?_⟩
   have e2:(prs ps i).map tD++(ps.take i).map (λp=>tD [lo (ps.getD i ⟨0,0⟩) p,hi (ps.getD i ⟨0,0⟩) p])=(prs ps (i+1)).map tD:=by
    rw[prs,Jk,JU]
    rfl
   rw[e2]
   refine hN _ _ ⟨_,rfl,λx o e=>?_,?_,au⟩
   ·rw[aR (λz=>by rw[z,hb]at e;cases e)]
    exact az (le _ _ e) hg
   ·rw[aR HV]
    exact az hM hg
 ·rintro ρ M' ⟨y1,rfl,le,hM,hB⟩
  refine⟨trivial,?_⟩
  rw[Iw,List.length_range]at hB
  have hm:∀t∈prs ps ps.length,∃a b,t=[a,b]/\a∈ps/\b∈ps:=λt ht=>by
   obtain⟨a,b,e,_,h1,h2⟩:=(fM nd _ (Iu _) t).mp ht
   rw[Jm]at h1 h2
   exact⟨a,b,e,h1,h2⟩
  walk_at "rd"
  refine⟨b,prs ps ps.length,rfl,hB,λt ht=>?_,by have:=rB Dv;omega,le _ _ hT,λt ht=>?_,λr us hr pm so=>bC.mk ⟨_,le.put,h r us (le.free hr) pm so⟩⟩
  ·obtain⟨x,y,rfl,_⟩:=hm t ht
   rfl
  ·obtain⟨x,y,rfl,mx,my⟩:=hm t ht
   walk_at "rd"
   refine⟨ho x mx,ho y my,?_⟩
   walk_at "rd"
   rfl
theorem sS(T:Txt K mg t):Binds K t.jk ["groups","one","other"] []:=T.kP.binds λ_ _ _ _ _ _=>L3.FE λ_ _ _=>rfl
def vO:mX:=λds M Q=>∃(l:Addr) (one other:Pl),ds=[.ref l,one.d,other.d]/\∃(ps:List Pl) (g:Pl->Pl),M l=some (.gZ (gm g ps))/\ps.Nodup/\ps.length<=100/\∀r:Addr,M r=none->Q (.ref r) (aH M r (.gZ (gm (jn g one other) ps)))
theorem sU(T:Txt K mg t):b9 P w K mg base dR 1 t.kN t.jk ["groups","one","other"] (mY K vO):=by
 refine wI T.kP jl (λds M Q h=>by(first|(obtain⟨_,rfl,_⟩:=h;rfl)|(obtain⟨_,_,rfl,_⟩:=h;rfl)|(obtain⟨_,_,_,rfl,_⟩:=h;rfl)|(obtain⟨_,_,_,_,rfl,_⟩:=h;rfl)|(obtain⟨_,_,_,_,_,rfl,_⟩:=h;rfl)|(obtain⟨_,_,_,_,_,_,rfl,_⟩:=h;rfl)|(obtain⟨_,_,_,_,_,_,_,rfl,_⟩:=h;rfl))) (λcdv A outer s H hr=>?_)
 have hu:=hr.units
 refine⟨_,(av (bw (i:=3) jl.nd rfl (Or.inl rfl) xQ)
  (av (AN PassesOwn.never rfl (aa 0) (cE (i:=4) jl.nd rfl (Or.inl rfl)) (aC (Cb (ue (aN (dH hu) (rA hu (aa 0) (aa 4)) (aa 2) (aA _)) (aa 1) (rA hu (aa 0) (aa 4))) (AJ hu (aa 3) (aa 4)))))
  (aC (aK (aa 3))))),λds M Q h=>?_⟩
 obtain⟨l,one,other,rfl,ps,g,hM,nd,HW,h⟩:=h
 walk_at "rd"
 intro b hb
 have n1:l≠b:=λz=>by rw[<-z,hM]at hb;cases hb
 walk_at "rd"
 refine⟨l,_,rfl,az hM hb,?_⟩
 rw[xW]
 refine aQ (λi ρ M'=>∃(y1:Option L3.D),ρ=[some (.ref l),some one.d,some other.d,some (.ref b),y1]/\M'=aH M b (.gZ (gm (jn g one other) (ps.take i)))) _ ?_ ?_ ⟨_,rfl,rfl⟩
 ·rintro i v ρ M' N jA ⟨y1,rfl,rfl⟩ hN
  obtain⟨p,hp,rfl⟩:=nu jA
  have mp:=IW hp
  refine⟨az hM hb,?_⟩
  have put:aH (aH M b (.gZ (gm (jn g one other) (ps.take i)))) b (.gZ (kI (gm (jn g one other) (ps.take i)) [p.x,p.y] (jn g one other p).d))=aH M b (.gZ (gm (jn g one other) (ps.take (i+1)))):=by
   rw[oJ,AU _ nd hp]
  walk_at "rd"
  refine⟨l,[p.x,p.y],_,_,rfl,rfl,az hM hb,kM g mp,?_⟩
  walk_at "rd"
  rw[j5]
  refine bS (λk=>?_) (λk=>?_)
  ·have e:jn g one other p=one:=if_pos (of_decide_eq_true k)
   rw[e]at put
   walk_at "rd"
   refine⟨b,_,[p.x,p.y],rfl,rfl,au,by rw[qu,Jg];omega,?_⟩
   exact hN _ _ ⟨_,rfl,put⟩
  ·have e:jn g one other p=g p:=if_neg λz=>k (decide_eq_true z)
   rw[e]at put
   walk_at "rd"
   refine⟨l,[p.x,p.y],_,_,rfl,rfl,az hM hb,kM g mp,?_⟩
   walk_at "rd"
   refine⟨b,_,[p.x,p.y],rfl,rfl,au,by rw[qu,Jg];omega,?_⟩
   exact hN _ _ ⟨_,rfl,put⟩
 ·rintro ρ M' ⟨y1,rfl,rfl⟩
  refine⟨az hM hb,?_⟩
  rw[Iw,Jm]
  walk_at "rd"
  exact bC.mk ⟨_,Le.refl _,h b hb⟩
theorem rC(T:Txt K mg t):Binds K t.nM ["places"] []:=T.nR.binds λ_ _ _ _ _ _=>L3.Cq λ_=>rfl
def AV(t:Ad):mX:=λds M Q=>∃l:Addr,ds=[.ref l]/\∃ps:List Pl,M l=some (.lst (ps.map Pl.d))/\ps.Nodup/\ps.length<=16/\(∀q∈ps,q.Ok 140)/\M t.tab=some (.oH C4)/\∀(r:Addr) (us:List (List Pl)),M r=none->ji ps us->Q (.ref r) (aH M r (.lst (us.map tD)))
theorem rD(T:Txt K mg t):b9 P w K mg base dR 6 t.qw t.nM ["places"] (mY K (AV t)):=by
 refine wI T.nR fY (λds M Q h=>by(first|(obtain⟨_,rfl,_⟩:=h;rfl)|(obtain⟨_,_,rfl,_⟩:=h;rfl)|(obtain⟨_,_,_,rfl,_⟩:=h;rfl)|(obtain⟨_,_,_,_,rfl,_⟩:=h;rfl)|(obtain⟨_,_,_,_,_,rfl,_⟩:=h;rfl)|(obtain⟨_,_,_,_,_,_,rfl,_⟩:=h;rfl)|(obtain⟨_,_,_,_,_,_,_,rfl,_⟩:=h;rfl))) (λcdv A outer s H hr=>?_)
 have hu:=hr.units
 refine⟨_,(av (bw (i:=1) fY.nd rfl (Or.inl rfl) (yy (xU hu rfl) (by rfl) T.no_dict qk (af (Ar (uR (ys:=[]) (fs:=[]) rfl (by show fH (ay mH) ["places","groups","sides","side","one","other"] _ _ _ _=true;decide +kernel) (aa 0) (λcl C s0 H0 ex=>uO) (λcl C s0 H0 ex=>(cI (af (aa 0) (af (aa 0) ao)))))) ao)))
  (av (bw (i:=2) fY.nd rfl (Or.inl rfl) (gf ao))
  (av (mZ PassesOwn.never rfl (cV (nY T) (hr.mono (by decide)) (by rfl) T.pB T.gK.kp (nX T) (af (aa 0) ao)) (cE (i:=3) fY.nd rfl (Or.inl rfl)) (av (bw (i:=4) fY.nd rfl (Or.inl rfl) (rA hu (aa 1) (bu (aa 3) aj)))
  (av (bw (i:=5) fY.nd rfl (Or.inl rfl) (rA hu (aa 1) (bu (aa 3) aj)))
  (aC (bM (aN (iF hu) (aa 4) (aa 5) (aA _)) (av (pV (yz (aa 2) (aa 3) (tX PySem.F.plainAttrs_list PySem.F.slot_list_append PySem.F.type_list_append i9 (bJ.dn (aa 2)) (jH (bJ.dn (aa 3)) mQ))))
  (aC (bw (i:=1) fY.nd rfl (Or.inl rfl) (cV (sU T) (hr.mono (by decide)) (by rfl) T.vI T.kP.kp (sS T) (af (aa 1) (af (aa 4) (af (aa 5) ao))))))) aX)))))
  (aC (aK (aa 2)))))),λds M Q h=>?_⟩
 obtain⟨l,rfl,ps,hM,nd,Dv,ho,hT,h⟩:=h
 have sl:(1000:Nat)<sizeLine:=by decide
 walk_at "rd"
 refine L3.p6 hM ⟨by rw[Iw];omega,bC.mk (l0 (λj acc M5=>M5=M/\acc=(ps.take j).map λp=>L3.D.tup [p.d,p.d]) _ ?_ ?_ ⟨rfl,rfl⟩)⟩
 ·rintro j v acc M5 N2 iu ⟨rfl,rfl⟩ C8
  obtain⟨q,hq,rfl⟩:=nu iu
  refine⟨hM,?_⟩
  walk_at "rd"
  refine C8 _ _ ⟨rfl,?_⟩
  rw[mD hq]
 rintro acc M5 ⟨rfl,rfl⟩
 refine⟨hM,λf hf=>?_⟩
 rw[Iw,Jm]
 have le:=Le.new (o:=MO.lst (ps.map λp=>L3.D.tup [p.d,p.d])) hf
 have hF:aH M5 f (.lst (ps.map λp=>L3.D.tup [p.d,p.d])) f=some (.lst (ps.map λp=>L3.D.tup [p.d,p.d])):=au
 generalize aH M5 f (.lst (ps.map λp=>L3.D.tup [p.d,p.d]))=M1 at hF le ⊢
 refine⟨f,gm id ps,rfl,by rw[vG];exact hF,by rw[qu];omega,C6 _ nd,λg0 HX=>?_⟩
 have le:=le.trans (Le.new (o:=MO.gZ (gm id ps)) HX)
 have hG:aH M1 g0 (.gZ (gm id ps)) g0=some (.gZ (gm id ps)):=au
 generalize aH M1 g0 (.gZ (gm id ps))=M2 at hG le ⊢
 walk_at "rd"
 intro b hb
 have nb:M5 b=none:=le.free hb
 have C9:g0≠b:=λz=>by rw[<-z,hG]at hb;cases hb
 have le:=le.trans (Le.new (o:=MO.lst []) hb)
 have hG:=az (u:=MO.lst []) hG hb
 have hB:aH M2 b (.lst []) b=some (.lst []):=au
 generalize aH M2 b (.lst [])=M3 at hG hB le ⊢
 walk_at "rd"
 refine⟨ps,le _ _ hM,nd,Dv,ho,le _ _ hT,λr L hr pm so=>?_⟩
 have few:L.length<=120:=by rw[pm.length_eq];exact rB Dv
 have hs:∀t∈L,∃a b,t=[a,b]/\a∈ps/\b∈ps:=λt ht=>by
  obtain⟨a,b,e,_,h1,h2⟩:=(fM nd _ (Iu _) t).mp (pm.mem_iff.mp ht)
  rw[Jm]at h1 h2
  exact⟨a,b,e,h1,h2⟩
 have le:=le.trans (Le.new (o:=MO.lst (L.map tD)) hr)
 have HY:b≠r:=λz=>by rw[<-z,hB]at hr;cases hr
 have hG:=az (u:=MO.lst (L.map tD)) hG hr
 have hB:=az (u:=MO.lst (L.map tD)) hB hr
 have hR:aH M3 r (.lst (L.map tD)) r=some (.lst (L.map tD)):=au
 generalize aH M3 r (.lst (L.map tD))=M4 at hG hB hR le ⊢
 refine⟨r,_,rfl,hR,?_⟩
 refine aQ (λi ρ M'=>∃(ga:Addr) (g:Pl->Pl) (us:List (List Pl)) (y1 y2 y3:Option L3.D),ρ=[some (.ref l),some (.ref ga),some (.ref b),y1,y2,y3]/\ga≠b/\(us.map tD).length<=i/\us++Kr (L.drop i) g=Kr L id/\Le M5 M'/\M' r=some (.lst (L.map tD))/\M' ga=some (.gZ (gm g ps))/\M' b=some (.lst (us.map tD))) _ ?_ ?_ ⟨g0,id,[],_,_,_,rfl,C9,IE _,rfl,le,hR,hG,hB⟩
 ·rintro i v ρ M' N jA ⟨ga,g,us,y1,y2,y3,rfl,C9,lu,eK,le,hR,hG,hB⟩ hN
  obtain⟨s2,hs2,rfl⟩:=qv jA
  have li:=(IC.mp hs2).1
  obtain⟨p,q,rfl,mp,mq⟩:=hs s2 (IW hs2)
  have ed:L.drop i=[p,q]::L.drop (i+1):=by rw[Ji li,(IC.mp hs2).2]
  rw[ed,jO]at eK
  refine⟨hR,?_⟩
  walk_at "rd"
  refine⟨ga,[p.x,p.y],_,_,rfl,rfl,hG,kM g mp,?_⟩
  walk_at "rd"
  refine⟨ga,[q.x,q.y],_,_,rfl,rfl,hG,kM g mq,?_⟩
  walk_at "rd"
  rw[j5]
  refine bS (λk=>?_) (λk=>?_)
  ·have k:g p≠g q:=by simpa using k
   rw[if_neg k]at eK
   walk_at "rd"
   refine L3.uJ hB ?_
   walk_at "rd"
   refine L3.p6 hB ⟨by rw[Iw]at *;omega,?_⟩
   have le:Le M5 (aH M' b (.lst (us.map tD++[tD [p,q]]))):=xX le nb
   have hR:aH M' b (.lst (us.map tD++[tD [p,q]])) r=some (.lst (L.map tD)):=by rw[aR (Ne.symm HY)];exact hR
   have hG:aH M' b (.lst (us.map tD++[tD [p,q]])) ga=some (.gZ (gm g ps)):=by rw[aR C9];exact hG
   have hB:aH M' b (.lst (us.map tD++[tD [p,q]])) b=some (.lst (us.map tD++[tD [p,q]])):=au
   generalize aH M' b (.lst (us.map tD++[tD [p,q]]))=M6 at le hR hG hB ⊢
   walk_at "rd"
   refine⟨ps,g,hG,nd,by omega,λr2 hr2=>?_⟩
   have n2:r2≠b:=λz=>by rw[z,hB]at hr2;cases hr2
   exact hN _ _ ⟨r2,jn g (g p) (g q),us++[[p,q]],_,_,_,rfl,n2,by rw[Iw]at *;rw[IX];show us.length+1<=i+1;omega,by rw[<-eK];simp,le.trans (Le.new hr2),az hR hr2,au,by rw[az hB hr2,Jk];rfl⟩
  ·have k:g p=g q:=by simpa using k
   rw[if_pos k]at eK
   exact hN _ _ ⟨ga,g,us,_,_,_,rfl,C9,by omega,eK,le,hR,hG,hB⟩
 ·rintro ρ M' ⟨ga,g,us,y1,y2,y3,rfl,C9,lu,eK,le,hR,hG,hB⟩
  refine⟨hR,?_⟩
  rw[Iw,KL]at eK
  have eK:us=Kr L id:=by rw[<-eK];simp[Kr]
  walk_at "rd"
  exact bC.mk ⟨_,C7 le hB,h b us nb ⟨L,pm,so,eK⟩⟩
theorem jm(T:Txt K mg t):Binds K t.cL ["_law_places_here","_law_sides"] []:=T.cY.binds λ_ _ _ _ _ _=>L3.wX λ_ _=>rfl
def jB:mX:=λds M Q=>∃(l u:Addr),ds=[.ref l,.ref u]/\∃(ps:List Pl) (us:List (List Pl)),M l=some (.lst (ps.map Pl.d))/\M u=some (.lst (us.map tD))/\ps.Nodup/\ps.length<=40/\vE ps us/\Q (.bl true) M
theorem jo(T:Txt K mg t):b9 P w K mg base dR 1 t.cW t.cL ["_law_places_here","_law_sides"] (mY K jB):=by
 refine wI T.cY bq (λds M Q h=>by(first|(obtain⟨_,rfl,_⟩:=h;rfl)|(obtain⟨_,_,rfl,_⟩:=h;rfl)|(obtain⟨_,_,_,rfl,_⟩:=h;rfl)|(obtain⟨_,_,_,_,rfl,_⟩:=h;rfl)|(obtain⟨_,_,_,_,_,rfl,_⟩:=h;rfl)|(obtain⟨_,_,_,_,_,_,rfl,_⟩:=h;rfl)|(obtain⟨_,_,_,_,_,_,_,rfl,_⟩:=h;rfl))) (λcdv A outer s H hr=>?_)
 have hu:=hr.units
 refine⟨_,(av (bw (i:=2) bq.nd rfl (Or.inl rfl) (gD (aa 0) uK (kg aj)))
  (av (mZ PassesOwn.never rfl (aa 0) (cE (i:=3) bq.nd rfl (Or.inl rfl)) (aC (mZ PassesOwn.never rfl (aa 1) (B8 rfl (qQ (cE (i:=4) bq.nd rfl (Or.inl rfl)) (qQ (cE (i:=5) bq.nd rfl (Or.inl rfl)) zX))) (av (yE (jc.pt (oK (aN (BQ hu) (aa 4) (aa 2) (by with_unfolding_all rfl)) (jX (aN (iV hu) (aa 5) (aa 2) (by with_unfolding_all rfl))))) (aC (bw (i:=2) bq.nd rfl (Or.inl rfl) (aq uL (aa 2) (gf (af (aa 5) ao))))))
  (aC (yE (jc.pt (oK (aN (BQ hu) (aa 5) (aa 2) (by with_unfolding_all rfl)) (jX (aN (iV hu) (aa 4) (aa 2) (by with_unfolding_all rfl))))) (aC (bw (i:=2) bq.nd rfl (Or.inl rfl) (aq uL (aa 2) (gf (af (aa 4) ao)))))))))))
  (aC (aK (e9 (dH hu) (aG cz (by rfl) T.bI aM (af (aa 2) ao)) (aG cz (by rfl) T.bI aM (af (aa 0) ao)) (aA _)))))),λds M Q h=>?_⟩
 obtain⟨l,u,rfl,ps,us,hM,hU,nd,HZ,tp,h⟩:=h
 have sl:(1000:Nat)<sizeLine:=by decide
 walk_at "rd"
 refine L3.oU (.of hM) λc hc=>?_
 have ec:cutD (ps.map Pl.d) none (some 1)=(ps.take 1).map Pl.d:=by
  cases ps with
  |nil=>rfl
  |cons p r=>exact kF Pl.d (p::r) 1 (by simp)
 rw[ec]
 have le:=Le.new (o:=MO.lst ((ps.take 1).map Pl.d)) hc
 have hS:aH M c (.lst ((ps.take 1).map Pl.d)) c=some (.lst ((ps.take 1).map Pl.d)):=au
 generalize aH M c (.lst ((ps.take 1).map Pl.d))=M1 at hS le ⊢
 walk_at "rd"
 refine⟨l,_,rfl,le _ _ hM,?_⟩
 have r0:Reach ps (ps.take 1):=⟨nd.sublist (Jv _ _),λp hp=>List.mem_of_mem_take hp⟩
 have bnd:∀{s:List Pl},Reach ps s->s.length<=40:=λr=>Jp (nK r.nd r.sub) HZ
 refine aQ (λi ρ M'=>∃(sa:Addr) (s:List Pl) (y1 y2 y3:Option L3.D),ρ=[some (.ref l),some (.ref u),some (.ref sa),y1,y2,y3]/\Le M M'/\M' sa=some (.lst (s.map Pl.d))/\Reach ps s/\min ps.length (i+1)<=s.length) _ ?_ ?_ ⟨c,ps.take 1,_,_,_,rfl,le,hS,r0,by rw[Jg];omega⟩
 ·rintro i v ρ M' N jA ⟨sa,s,y1,y2,y3,rfl,le,hS,rs,ls⟩ hN
  obtain⟨pp,hpp,rfl⟩:=nu jA
  have li:=(IC.mp hpp).1
  refine⟨le _ _ hM,?_⟩
  walk_at "rd"
  refine⟨u,_,rfl,le _ _ hU,?_⟩
  have ne:s≠[]:=λz=>by rw[z,IZ]at ls;omega
  refine aQ (λj ρ M'=>∃(sa:Addr) (s2:List Pl) (y2 y3:Option L3.D),ρ=[some (.ref l),some (.ref u),some (.ref sa),some pp.d,y2,y3]/\Le M M'/\M' sa=some (.lst (s2.map Pl.d))/\Reach ps s2/\pL (us.drop j) s2=pL us s) _ ?_ ?_ ⟨sa,s,_,_,rfl,le,hS,rs,rfl⟩
  ·rintro j v ρ M' N2 Ia ⟨sa,s2,y2,y3,rfl,le,hS,Dw,ep⟩ C8
   obtain⟨t2,x8,rfl⟩:=qv Ia
   have lj:=(IC.mp x8).1
   obtain⟨a,b,rfl,_,ma,mb⟩:=tp.Du t2 (IW x8)
   have ed:us.drop j=[a,b]::us.drop (j+1):=by rw[Ji lj,(IC.mp x8).2]
   rw[ed]at ep
   have ep:pL (us.drop (j+1)) (stp s2 a b)=pL us s:=ep
   refine⟨le _ _ hU,?_⟩
   refine⟨_,.inl rfl,rfl,_,_,rfl,_,_,rfl,rfl,?_⟩
   have l2:s2.length<=40:=bnd Dw
   refine⟨λρ M'=>∃sa,ρ=[some (.ref l),some (.ref u),some (.ref sa),some pp.d,some a.d,some b.d]/\Le M M'/\M' sa=some (.lst ((if a∈s2/\b∉s2 then s2++[b]else s2).map Pl.d)),?_,?_⟩
   ·walk_at "rd"
    refine L3.j8 hS (rfl) (bO s2) ?_
    walk_at "rd"
    rw[if_neg Iv,fL]
    refine bS (λk=>?_) (λk=>?_)
    ·have k:=of_decide_eq_true k
     walk_at "rd"
     refine L3.j8 hS (rfl) (bO s2) ?_
     walk_at "rd"
     rw[if_pos rfl,fL]
     refine bS (λk2=>?_) (λk2=>?_)
     ·have k2:b∉s2:=λz=>by rw[decide_eq_true z]at k2;cases k2
      walk_at "rd"
      intro e he
      refine⟨sa,e,_,_,rfl,rfl,az hS he,au,by rw[Iw];show _+1<=_;omega,λf hf=>?_⟩
      exact bC.mk ⟨f,rfl,(le.trans (Le.new he)).trans (Le.new hf),by rw[au,if_pos ⟨k,k2⟩,Jk];rfl⟩
     ·exact bC.mk ⟨sa,rfl,le,by rw[if_neg (λz=>k2 (by rw[decide_eq_false z.2];rfl))];exact hS⟩
    ·exact bC.mk ⟨sa,rfl,le,by rw[if_neg (λz=>k (decide_eq_true z.1))];exact hS⟩
   rintro ρ M' ⟨sa,rfl,le,hS⟩
   have Ib:=sQ Dw ma mb
   have l3:(if a∈s2/\b∉s2 then s2++[b]else s2).length<=41:=by
    split
    ·rw[IX];show _+1<=_;omega
    ·omega
   have Dy:stp s2 a b=(λs3:List Pl=>if b∈s3/\a∉s3 then s3++[a]else s3) (if a∈s2/\b∉s2 then s2++[b]else s2):=rfl
   generalize (if a∈s2/\b∉s2 then s2++[b]else s2)=s3 at hS l3 Dy
   have Dy:stp s2 a b=if b∈s3/\a∉s3 then s3++[a]else s3:=Dy
   refine⟨λρ M'=>∃sa,ρ=[some (.ref l),some (.ref u),some (.ref sa),some pp.d,some a.d,some b.d]/\Le M M'/\M' sa=some (.lst ((if b∈s3/\a∉s3 then s3++[a]else s3).map Pl.d)),?_,?_⟩
   ·walk_at "rd"
    refine L3.j8 hS (rfl) (bO s3) ?_
    walk_at "rd"
    rw[if_neg Iv,fL]
    refine bS (λk=>?_) (λk=>?_)
    ·have k:=of_decide_eq_true k
     walk_at "rd"
     refine L3.j8 hS (rfl) (bO s3) ?_
     walk_at "rd"
     rw[if_pos rfl,fL]
     refine bS (λk2=>?_) (λk2=>?_)
     ·have k2:a∉s3:=λz=>by rw[decide_eq_true z]at k2;cases k2
      walk_at "rd"
      intro e he
      refine⟨sa,e,_,_,rfl,rfl,az hS he,au,by rw[Iw];show _+1<=_;omega,λf hf=>?_⟩
      exact bC.mk ⟨f,rfl,(le.trans (Le.new he)).trans (Le.new hf),by rw[au,if_pos ⟨k,k2⟩,Jk];rfl⟩
     ·exact bC.mk ⟨sa,rfl,le,by rw[if_neg (λz=>k2 (by rw[decide_eq_false z.2];rfl))];exact hS⟩
    ·exact bC.mk ⟨sa,rfl,le,by rw[if_neg (λz=>k (decide_eq_true z.1))];exact hS⟩
   rintro ρ M' ⟨sa,rfl,le,hS⟩
   rw[<-Dy]at hS
   exact C8 _ _ ⟨sa,stp s2 a b,_,_,rfl,le,hS,Ib,ep⟩
  ·rintro ρ M' ⟨sa,s2,y2,y3,rfl,le,hS,Dw,ep⟩
   refine⟨le _ _ hU,?_⟩
   rw[Iw,KL]at ep
   have ep:s2=pL us s:=ep
   refine hN _ _ ⟨sa,s2,_,_,_,rfl,le,hS,Dw,?_⟩
   by_cases hl:s.length<ps.length
   ·have:=vF tp rs ne hl nd
    rw[<-ep]at this
    omega
   ·obtain⟨e,k1⟩:=(jj us s).1
    rw[ep,k1,IX]
    omega
 ·rintro ρ M' ⟨sa,s,y1,y2,y3,rfl,le,hS,rs,ls⟩
  refine⟨le _ _ hM,?_⟩
  have lu:s.length=ps.length:=by
   have:=nK rs.nd rs.sub
   rw[Iw]at ls
   omega
  walk_at "rd"
  refine L3.bX hS ?_
  walk_at "rd"
  refine⟨_,_,rfl,.inr (.inr ⟨l,rfl,le _ _ hM⟩),?_⟩
  walk_at "rd"
  rw[Iw,Iw,lu,c8,beq_self_eq_true]
  exact bC.mk ⟨M,le,h⟩
theorem bP(T:Txt K mg t):Binds K t.bA ["_law_found","_law_due"] []:=T.aY.binds λ_ _ _ _ _ _=>L3.wX λ_ _=>rfl
theorem jC(T:Txt K mg t):b9 P w K mg base dR 0 t.bH t.bA ["_law_found","_law_due"] (mY K λ_ _ _=>False):=xM
def kW:mX:=qY 1
theorem jD(T:Txt K mg t):b9 P w K mg base dR 1 t.bH t.bA ["_law_found","_law_due"] (mY K kW):=by
 refine wI T.aY bB (λds M Q h=>by(first|(obtain⟨_,rfl,_⟩:=h;rfl)|(obtain⟨_,_,rfl,_⟩:=h;rfl)|(obtain⟨_,_,_,rfl,_⟩:=h;rfl)|(obtain⟨_,_,_,_,rfl,_⟩:=h;rfl)|(obtain⟨_,_,_,_,_,rfl,_⟩:=h;rfl)|(obtain⟨_,_,_,_,_,_,rfl,_⟩:=h;rfl)|(obtain⟨_,_,_,_,_,_,_,rfl,_⟩:=h;rfl))) (λcdv A outer s H hr=>?_)
 have hu:=hr.units
 refine⟨_,(av (bM (jc.pt (iE (aN gi (aa 1) f6 (aA _)) (gb (dF (aG bf (by rfl) T.ak ai (af (aa 1) (af (aL (by rfl) T.gO cC) ao))))))) (aC (aK (ue (aN gi (aa 1) f6 (aA _)) (e9 gi (aa 0) f6 (aA _)) (fc (aG bf (by rfl) T.ak ai (af (aa 0) (af (aL (by rfl) T.gO cC) ao))) (iP (e9 (dH hu) (aa 0) (aa 1) (aA _))))))) aX)
  (av (bM (dF (aG bf (by rfl) T.ak ai (af (aa 1) (af (aL (by rfl) T.gM cA) ao)))) (aC (aK (fc (aG bf (by rfl) T.ak ai (af (aa 0) (af (aL (by rfl) T.gM cA) ao))) (fc (qN (aG bf (by rfl) T.ak ai (af (aa 0) (af (aL (by rfl) T.jQ fF) ao)))) (iP (e9 (dH hu) (aa 0) (aa 1) (aA _))))))) aX)
  (av (bM (jc.pt (iE (aN (iF hu) (aG bf (by rfl) T.ak ai (af (aa 0) (af (aL (by rfl) T.cG bG) ao))) (aG bf (by rfl) T.ak ai (af (aa 1) (af (aL (by rfl) T.cG bG) ao))) (aA _)) (gb (aN (iF hu) (aG bf (by rfl) T.ak ai (af (aa 0) (af (aL (by rfl) T.cH bD) ao))) (aG bf (by rfl) T.ak ai (af (aa 1) (af (aL (by rfl) T.cH bD) ao))) (aA _))))) (aC (aK eZ)) aX)
  (av (bM (aN (iF hu) (aG cz (by rfl) T.bI aM (af (aa 0) ao)) (aG cz (by rfl) T.bI aM (af (aa 1) ao)) (aA _)) (aC (aK eZ)) aX)
  (av (iG PassesOwn.never rfl (by rfl) T.dQ (af (aG cz (by rfl) T.bI aM (af (aa 1) ao)) ao) (cE (i:=2) bB.nd rfl (Or.inl rfl)) (aC (bM (k_not (dF (cV (jC T) (hr.mono (by decide)) (by rfl) T.b8 T.aY.kp (bP T) (af (bu (aa 0) (aa 2)) (af (bu (aa 1) (aa 2)) ao))))) (aC (aK eZ)) aX)))
  (aC (aK eZ))))))),λds M Q h=>?_⟩
 obtain⟨d,e,rfl,ha,h⟩:=h
 rcases ha with⟨rfl,ha⟩|⟨f,g,xs,rfl,rfl,hf,hg,hx,hl⟩
 ·cases d with
  |int i=>
   walk_at "rd"
   refine⟨_,_,_,false,rfl,.int _,by rfl,?_⟩
   walk_at "rd"
   refine⟨_,_,_,false,rfl,.int _,by rfl,?_⟩
   walk_at "rd"
   have e:gc (.int i) (.int i)=true:=by rw[c8];simp
   rw[e]
   exact bC.mk ⟨_,Le.refl _,h⟩
  |aZ=>
   walk_at "rd"
   exact bC.mk ⟨_,Le.refl _,h⟩
  |str x=>
   walk_at "rd"
   refine⟨_,_,_,true,rfl,.str _,aW,?_⟩
   walk_at "rd"
   refine⟨_,_,_,true,rfl,.str _,aW,?_⟩
   walk_at "rd"
   have e:gc (.str x) (.str x)=true:=fj 1 _ rfl
   rw[e]
   exact bC.mk ⟨_,Le.refl _,h⟩
  |tup xs=>
   obtain⟨hl,hx⟩:xs.length<=1000/\xs.all (mw 0)=true:=by
    have ha:(decide (xs.length<=1000) && xs.all (mw 0))=true:=ha
    rw[IS]at ha
    exact⟨of_decide_eq_true ha.1,ha.2⟩
   walk_at "rd"
   refine⟨_,_,_,false,rfl,.tup _,by rfl,?_⟩
   walk_at "rd"
   refine⟨_,_,_,false,rfl,.tup _,by rfl,?_⟩
   walk_at "rd"
   refine⟨_,_,_,false,rfl,.tup _,by rfl,?_⟩
   walk_at "rd"
   refine⟨_,_,_,false,rfl,.tup _,by rfl,?_⟩
   walk_at "rd"
   rw[fG]
   refine bS (λz=>absurd rfl (of_decide_eq_true z)) (λ_=>?_)
   walk_at "rd"
   refine⟨by omega,by omega,?_⟩
   refine aQ (λi ρ M'=>M'=M/\∃y:Option L3.D,ρ=[some (.tup xs),some (.tup xs),y]) _ ?_ ?_ ⟨rfl,_,rfl⟩
   ·rintro i x ρ M' Nx jA ⟨rfl,y,rfl⟩ hN
    obtain⟨hi,rfl⟩:=bK jA
    have hi:i<xs.length:=by simpa using hi
    have gx:xs[i]?=some xs[i]:=Iz hi
    have iu:mw 0 xs[i]=true:=IM.mp hx _ (Jc hi)
    refine⟨trivial,?_⟩
    walk_at "rd"
    exact absurd iu (by show¬false=true;decide)
   ·rintro ρ M' ⟨rfl,y,rfl⟩
    refine⟨trivial,?_⟩
    walk_at "rd"
    exact bC.mk ⟨_,Le.refl _,h⟩
  |_=>cases ha
 ·walk_at "rd"
  refine⟨_,_,_,false,rfl,.lst hg,by rfl,?_⟩
  walk_at "rd"
  refine⟨_,_,_,false,rfl,.lst hg,by rfl,?_⟩
  walk_at "rd"
  refine⟨_,_,_,false,rfl,.lst hf,by rfl,?_⟩
  walk_at "rd"
  refine⟨_,_,_,false,rfl,.lst hg,by rfl,?_⟩
  walk_at "rd"
  refine⟨_,_,_,true,rfl,.lst hf,aW,?_⟩
  walk_at "rd"
  refine⟨_,_,_,true,rfl,.lst hg,aW,?_⟩
  walk_at "rd"
  refine L3.bX hf ?_
  walk_at "rd"
  refine L3.bX hg ?_
  walk_at "rd"
  rw[fG]
  refine bS (λz=>absurd rfl (of_decide_eq_true z)) (λ_=>?_)
  walk_at "rd"
  refine L3.bX hg ?_
  refine⟨_,rfl,by omega,by omega,?_⟩
  refine aQ (λi ρ M'=>M'=M/\∃y:Option L3.D,ρ=[some (.ref f),some (.ref g),y]) _ ?_ ?_ ⟨rfl,_,rfl⟩
  ·rintro i x ρ M' Nx jA ⟨rfl,y,rfl⟩ hN
   obtain⟨hi,rfl⟩:=bK jA
   have hi:i<xs.length:=by simpa using hi
   have gx:xs[i]?=some xs[i]:=Iz hi
   have iu:mw 0 xs[i]=true:=IM.mp hx _ (Jc hi)
   refine⟨trivial,?_⟩
   walk_at "rd"
   exact absurd iu (by show¬false=true;decide)
  ·rintro ρ M' ⟨rfl,y,rfl⟩
   refine⟨trivial,?_⟩
   walk_at "rd"
   exact bC.mk ⟨_,Le.refl _,h⟩
def kX:mX:=qY 2
theorem jE(T:Txt K mg t):b9 P w K mg base dR 2 t.bH t.bA ["_law_found","_law_due"] (mY K kX):=by
 refine wI T.aY bB (λds M Q h=>by(first|(obtain⟨_,rfl,_⟩:=h;rfl)|(obtain⟨_,_,rfl,_⟩:=h;rfl)|(obtain⟨_,_,_,rfl,_⟩:=h;rfl)|(obtain⟨_,_,_,_,rfl,_⟩:=h;rfl)|(obtain⟨_,_,_,_,_,rfl,_⟩:=h;rfl)|(obtain⟨_,_,_,_,_,_,rfl,_⟩:=h;rfl)|(obtain⟨_,_,_,_,_,_,_,rfl,_⟩:=h;rfl))) (λcdv A outer s H hr=>?_)
 have hu:=hr.units
 refine⟨_,(av (bM (jc.pt (iE (aN gi (aa 1) f6 (aA _)) (gb (dF (aG bf (by rfl) T.ak ai (af (aa 1) (af (aL (by rfl) T.gO cC) ao))))))) (aC (aK (ue (aN gi (aa 1) f6 (aA _)) (e9 gi (aa 0) f6 (aA _)) (fc (aG bf (by rfl) T.ak ai (af (aa 0) (af (aL (by rfl) T.gO cC) ao))) (iP (e9 (dH hu) (aa 0) (aa 1) (aA _))))))) aX)
  (av (bM (dF (aG bf (by rfl) T.ak ai (af (aa 1) (af (aL (by rfl) T.gM cA) ao)))) (aC (aK (fc (aG bf (by rfl) T.ak ai (af (aa 0) (af (aL (by rfl) T.gM cA) ao))) (fc (qN (aG bf (by rfl) T.ak ai (af (aa 0) (af (aL (by rfl) T.jQ fF) ao)))) (iP (e9 (dH hu) (aa 0) (aa 1) (aA _))))))) aX)
  (av (bM (jc.pt (iE (aN (iF hu) (aG bf (by rfl) T.ak ai (af (aa 0) (af (aL (by rfl) T.cG bG) ao))) (aG bf (by rfl) T.ak ai (af (aa 1) (af (aL (by rfl) T.cG bG) ao))) (aA _)) (gb (aN (iF hu) (aG bf (by rfl) T.ak ai (af (aa 0) (af (aL (by rfl) T.cH bD) ao))) (aG bf (by rfl) T.ak ai (af (aa 1) (af (aL (by rfl) T.cH bD) ao))) (aA _))))) (aC (aK eZ)) aX)
  (av (bM (aN (iF hu) (aG cz (by rfl) T.bI aM (af (aa 0) ao)) (aG cz (by rfl) T.bI aM (af (aa 1) ao)) (aA _)) (aC (aK eZ)) aX)
  (av (iG PassesOwn.never rfl (by rfl) T.dQ (af (aG cz (by rfl) T.bI aM (af (aa 1) ao)) ao) (cE (i:=2) bB.nd rfl (Or.inl rfl)) (aC (bM (k_not (dF (cV (jD T) (hr.mono (by decide)) (by rfl) T.b8 T.aY.kp (bP T) (af (bu (aa 0) (aa 2)) (af (bu (aa 1) (aa 2)) ao))))) (aC (aK eZ)) aX)))
  (aC (aK eZ))))))),λds M Q h=>?_⟩
 obtain⟨d,e,rfl,ha,h⟩:=h
 rcases ha with⟨rfl,ha⟩|⟨f,g,xs,rfl,rfl,hf,hg,hx,hl⟩
 ·cases d with
  |int i=>
   walk_at "rd"
   refine⟨_,_,_,false,rfl,.int _,by rfl,?_⟩
   walk_at "rd"
   refine⟨_,_,_,false,rfl,.int _,by rfl,?_⟩
   walk_at "rd"
   have e:gc (.int i) (.int i)=true:=by rw[c8];simp
   rw[e]
   exact bC.mk ⟨_,Le.refl _,h⟩
  |aZ=>
   walk_at "rd"
   exact bC.mk ⟨_,Le.refl _,h⟩
  |str x=>
   walk_at "rd"
   refine⟨_,_,_,true,rfl,.str _,aW,?_⟩
   walk_at "rd"
   refine⟨_,_,_,true,rfl,.str _,aW,?_⟩
   walk_at "rd"
   have e:gc (.str x) (.str x)=true:=fj 1 _ rfl
   rw[e]
   exact bC.mk ⟨_,Le.refl _,h⟩
  |tup xs=>
   obtain⟨hl,hx⟩:xs.length<=1000/\xs.all (mw 1)=true:=by
    have ha:(decide (xs.length<=1000) && xs.all (mw 1))=true:=ha
    rw[IS]at ha
    exact⟨of_decide_eq_true ha.1,ha.2⟩
   walk_at "rd"
   refine⟨_,_,_,false,rfl,.tup _,by rfl,?_⟩
   walk_at "rd"
   refine⟨_,_,_,false,rfl,.tup _,by rfl,?_⟩
   walk_at "rd"
   refine⟨_,_,_,false,rfl,.tup _,by rfl,?_⟩
   walk_at "rd"
   refine⟨_,_,_,false,rfl,.tup _,by rfl,?_⟩
   walk_at "rd"
   rw[fG]
   refine bS (λz=>absurd rfl (of_decide_eq_true z)) (λ_=>?_)
   walk_at "rd"
   refine⟨by omega,by omega,?_⟩
   refine aQ (λi ρ M'=>M'=M/\∃y:Option L3.D,ρ=[some (.tup xs),some (.tup xs),y]) _ ?_ ?_ ⟨rfl,_,rfl⟩
   ·rintro i x ρ M' Nx jA ⟨rfl,y,rfl⟩ hN
    obtain⟨hi,rfl⟩:=bK jA
    have hi:i<xs.length:=by simpa using hi
    have gx:xs[i]?=some xs[i]:=Iz hi
    have iu:mw 1 xs[i]=true:=IM.mp hx _ (Jc hi)
    refine⟨trivial,?_⟩
    walk_at "rd"
    refine⟨_,_,xs[i],.inl rfl,rfl,bQ gx,?_⟩
    walk_at "rd"
    refine⟨_,_,xs[i],.inl rfl,rfl,bQ gx,?_⟩
    walk_at "rd"
    refine⟨.inl ⟨rfl,iu⟩,?_⟩
    walk_at "rd"
    exact hN _ _ ⟨rfl,_,rfl⟩
   ·rintro ρ M' ⟨rfl,y,rfl⟩
    refine⟨trivial,?_⟩
    walk_at "rd"
    exact bC.mk ⟨_,Le.refl _,h⟩
  |_=>cases ha
 ·walk_at "rd"
  refine⟨_,_,_,false,rfl,.lst hg,by rfl,?_⟩
  walk_at "rd"
  refine⟨_,_,_,false,rfl,.lst hg,by rfl,?_⟩
  walk_at "rd"
  refine⟨_,_,_,false,rfl,.lst hf,by rfl,?_⟩
  walk_at "rd"
  refine⟨_,_,_,false,rfl,.lst hg,by rfl,?_⟩
  walk_at "rd"
  refine⟨_,_,_,true,rfl,.lst hf,aW,?_⟩
  walk_at "rd"
  refine⟨_,_,_,true,rfl,.lst hg,aW,?_⟩
  walk_at "rd"
  refine L3.bX hf ?_
  walk_at "rd"
  refine L3.bX hg ?_
  walk_at "rd"
  rw[fG]
  refine bS (λz=>absurd rfl (of_decide_eq_true z)) (λ_=>?_)
  walk_at "rd"
  refine L3.bX hg ?_
  refine⟨_,rfl,by omega,by omega,?_⟩
  refine aQ (λi ρ M'=>M'=M/\∃y:Option L3.D,ρ=[some (.ref f),some (.ref g),y]) _ ?_ ?_ ⟨rfl,_,rfl⟩
  ·rintro i x ρ M' Nx jA ⟨rfl,y,rfl⟩ hN
   obtain⟨hi,rfl⟩:=bK jA
   have hi:i<xs.length:=by simpa using hi
   have gx:xs[i]?=some xs[i]:=Iz hi
   have iu:mw 1 xs[i]=true:=IM.mp hx _ (Jc hi)
   refine⟨trivial,?_⟩
   walk_at "rd"
   refine⟨_,_,xs[i],.inr (.inr ⟨f,rfl,hf⟩),rfl,bQ gx,?_⟩
   walk_at "rd"
   refine⟨_,_,xs[i],.inr (.inr ⟨g,rfl,hg⟩),rfl,bQ gx,?_⟩
   walk_at "rd"
   refine⟨.inl ⟨rfl,iu⟩,?_⟩
   walk_at "rd"
   exact hN _ _ ⟨rfl,_,rfl⟩
  ·rintro ρ M' ⟨rfl,y,rfl⟩
   refine⟨trivial,?_⟩
   walk_at "rd"
   exact bC.mk ⟨_,Le.refl _,h⟩
def kY:mX:=qY 3
theorem jF(T:Txt K mg t):b9 P w K mg base dR 3 t.bH t.bA ["_law_found","_law_due"] (mY K kY):=by
 refine wI T.aY bB (λds M Q h=>by(first|(obtain⟨_,rfl,_⟩:=h;rfl)|(obtain⟨_,_,rfl,_⟩:=h;rfl)|(obtain⟨_,_,_,rfl,_⟩:=h;rfl)|(obtain⟨_,_,_,_,rfl,_⟩:=h;rfl)|(obtain⟨_,_,_,_,_,rfl,_⟩:=h;rfl)|(obtain⟨_,_,_,_,_,_,rfl,_⟩:=h;rfl)|(obtain⟨_,_,_,_,_,_,_,rfl,_⟩:=h;rfl))) (λcdv A outer s H hr=>?_)
 have hu:=hr.units
 refine⟨_,(av (bM (jc.pt (iE (aN gi (aa 1) f6 (aA _)) (gb (dF (aG bf (by rfl) T.ak ai (af (aa 1) (af (aL (by rfl) T.gO cC) ao))))))) (aC (aK (ue (aN gi (aa 1) f6 (aA _)) (e9 gi (aa 0) f6 (aA _)) (fc (aG bf (by rfl) T.ak ai (af (aa 0) (af (aL (by rfl) T.gO cC) ao))) (iP (e9 (dH hu) (aa 0) (aa 1) (aA _))))))) aX)
  (av (bM (dF (aG bf (by rfl) T.ak ai (af (aa 1) (af (aL (by rfl) T.gM cA) ao)))) (aC (aK (fc (aG bf (by rfl) T.ak ai (af (aa 0) (af (aL (by rfl) T.gM cA) ao))) (fc (qN (aG bf (by rfl) T.ak ai (af (aa 0) (af (aL (by rfl) T.jQ fF) ao)))) (iP (e9 (dH hu) (aa 0) (aa 1) (aA _))))))) aX)
  (av (bM (jc.pt (iE (aN (iF hu) (aG bf (by rfl) T.ak ai (af (aa 0) (af (aL (by rfl) T.cG bG) ao))) (aG bf (by rfl) T.ak ai (af (aa 1) (af (aL (by rfl) T.cG bG) ao))) (aA _)) (gb (aN (iF hu) (aG bf (by rfl) T.ak ai (af (aa 0) (af (aL (by rfl) T.cH bD) ao))) (aG bf (by rfl) T.ak ai (af (aa 1) (af (aL (by rfl) T.cH bD) ao))) (aA _))))) (aC (aK eZ)) aX)
  (av (bM (aN (iF hu) (aG cz (by rfl) T.bI aM (af (aa 0) ao)) (aG cz (by rfl) T.bI aM (af (aa 1) ao)) (aA _)) (aC (aK eZ)) aX)
  (av (iG PassesOwn.never rfl (by rfl) T.dQ (af (aG cz (by rfl) T.bI aM (af (aa 1) ao)) ao) (cE (i:=2) bB.nd rfl (Or.inl rfl)) (aC (bM (k_not (dF (cV (jE T) (hr.mono (by decide)) (by rfl) T.b8 T.aY.kp (bP T) (af (bu (aa 0) (aa 2)) (af (bu (aa 1) (aa 2)) ao))))) (aC (aK eZ)) aX)))
  (aC (aK eZ))))))),λds M Q h=>?_⟩
 obtain⟨d,e,rfl,ha,h⟩:=h
 rcases ha with⟨rfl,ha⟩|⟨f,g,xs,rfl,rfl,hf,hg,hx,hl⟩
 ·cases d with
  |int i=>
   walk_at "rd"
   refine⟨_,_,_,false,rfl,.int _,by rfl,?_⟩
   walk_at "rd"
   refine⟨_,_,_,false,rfl,.int _,by rfl,?_⟩
   walk_at "rd"
   have e:gc (.int i) (.int i)=true:=by rw[c8];simp
   rw[e]
   exact bC.mk ⟨_,Le.refl _,h⟩
  |aZ=>
   walk_at "rd"
   exact bC.mk ⟨_,Le.refl _,h⟩
  |str x=>
   walk_at "rd"
   refine⟨_,_,_,true,rfl,.str _,aW,?_⟩
   walk_at "rd"
   refine⟨_,_,_,true,rfl,.str _,aW,?_⟩
   walk_at "rd"
   have e:gc (.str x) (.str x)=true:=fj 1 _ rfl
   rw[e]
   exact bC.mk ⟨_,Le.refl _,h⟩
  |tup xs=>
   obtain⟨hl,hx⟩:xs.length<=1000/\xs.all (mw 2)=true:=by
    have ha:(decide (xs.length<=1000) && xs.all (mw 2))=true:=ha
    rw[IS]at ha
    exact⟨of_decide_eq_true ha.1,ha.2⟩
   walk_at "rd"
   refine⟨_,_,_,false,rfl,.tup _,by rfl,?_⟩
   walk_at "rd"
   refine⟨_,_,_,false,rfl,.tup _,by rfl,?_⟩
   walk_at "rd"
   refine⟨_,_,_,false,rfl,.tup _,by rfl,?_⟩
   walk_at "rd"
   refine⟨_,_,_,false,rfl,.tup _,by rfl,?_⟩
   walk_at "rd"
   rw[fG]
   refine bS (λz=>absurd rfl (of_decide_eq_true z)) (λ_=>?_)
   walk_at "rd"
   refine⟨by omega,by omega,?_⟩
   refine aQ (λi ρ M'=>M'=M/\∃y:Option L3.D,ρ=[some (.tup xs),some (.tup xs),y]) _ ?_ ?_ ⟨rfl,_,rfl⟩
   ·rintro i x ρ M' Nx jA ⟨rfl,y,rfl⟩ hN
    obtain⟨hi,rfl⟩:=bK jA
    have hi:i<xs.length:=by simpa using hi
    have gx:xs[i]?=some xs[i]:=Iz hi
    have iu:mw 2 xs[i]=true:=IM.mp hx _ (Jc hi)
    refine⟨trivial,?_⟩
    walk_at "rd"
    refine⟨_,_,xs[i],.inl rfl,rfl,bQ gx,?_⟩
    walk_at "rd"
    refine⟨_,_,xs[i],.inl rfl,rfl,bQ gx,?_⟩
    walk_at "rd"
    refine⟨.inl ⟨rfl,iu⟩,?_⟩
    walk_at "rd"
    exact hN _ _ ⟨rfl,_,rfl⟩
   ·rintro ρ M' ⟨rfl,y,rfl⟩
    refine⟨trivial,?_⟩
    walk_at "rd"
    exact bC.mk ⟨_,Le.refl _,h⟩
  |_=>cases ha
 ·walk_at "rd"
  refine⟨_,_,_,false,rfl,.lst hg,by rfl,?_⟩
  walk_at "rd"
  refine⟨_,_,_,false,rfl,.lst hg,by rfl,?_⟩
  walk_at "rd"
  refine⟨_,_,_,false,rfl,.lst hf,by rfl,?_⟩
  walk_at "rd"
  refine⟨_,_,_,false,rfl,.lst hg,by rfl,?_⟩
  walk_at "rd"
  refine⟨_,_,_,true,rfl,.lst hf,aW,?_⟩
  walk_at "rd"
  refine⟨_,_,_,true,rfl,.lst hg,aW,?_⟩
  walk_at "rd"
  refine L3.bX hf ?_
  walk_at "rd"
  refine L3.bX hg ?_
  walk_at "rd"
  rw[fG]
  refine bS (λz=>absurd rfl (of_decide_eq_true z)) (λ_=>?_)
  walk_at "rd"
  refine L3.bX hg ?_
  refine⟨_,rfl,by omega,by omega,?_⟩
  refine aQ (λi ρ M'=>M'=M/\∃y:Option L3.D,ρ=[some (.ref f),some (.ref g),y]) _ ?_ ?_ ⟨rfl,_,rfl⟩
  ·rintro i x ρ M' Nx jA ⟨rfl,y,rfl⟩ hN
   obtain⟨hi,rfl⟩:=bK jA
   have hi:i<xs.length:=by simpa using hi
   have gx:xs[i]?=some xs[i]:=Iz hi
   have iu:mw 2 xs[i]=true:=IM.mp hx _ (Jc hi)
   refine⟨trivial,?_⟩
   walk_at "rd"
   refine⟨_,_,xs[i],.inr (.inr ⟨f,rfl,hf⟩),rfl,bQ gx,?_⟩
   walk_at "rd"
   refine⟨_,_,xs[i],.inr (.inr ⟨g,rfl,hg⟩),rfl,bQ gx,?_⟩
   walk_at "rd"
   refine⟨.inl ⟨rfl,iu⟩,?_⟩
   walk_at "rd"
   exact hN _ _ ⟨rfl,_,rfl⟩
  ·rintro ρ M' ⟨rfl,y,rfl⟩
   refine⟨trivial,?_⟩
   walk_at "rd"
   exact bC.mk ⟨_,Le.refl _,h⟩
def gR:mX:=qY 4
theorem jG(T:Txt K mg t):b9 P w K mg base dR 4 t.bH t.bA ["_law_found","_law_due"] (mY K gR):=by
 refine wI T.aY bB (λds M Q h=>by(first|(obtain⟨_,rfl,_⟩:=h;rfl)|(obtain⟨_,_,rfl,_⟩:=h;rfl)|(obtain⟨_,_,_,rfl,_⟩:=h;rfl)|(obtain⟨_,_,_,_,rfl,_⟩:=h;rfl)|(obtain⟨_,_,_,_,_,rfl,_⟩:=h;rfl)|(obtain⟨_,_,_,_,_,_,rfl,_⟩:=h;rfl)|(obtain⟨_,_,_,_,_,_,_,rfl,_⟩:=h;rfl))) (λcdv A outer s H hr=>?_)
 have hu:=hr.units
 refine⟨_,(av (bM (jc.pt (iE (aN gi (aa 1) f6 (aA _)) (gb (dF (aG bf (by rfl) T.ak ai (af (aa 1) (af (aL (by rfl) T.gO cC) ao))))))) (aC (aK (ue (aN gi (aa 1) f6 (aA _)) (e9 gi (aa 0) f6 (aA _)) (fc (aG bf (by rfl) T.ak ai (af (aa 0) (af (aL (by rfl) T.gO cC) ao))) (iP (e9 (dH hu) (aa 0) (aa 1) (aA _))))))) aX)
  (av (bM (dF (aG bf (by rfl) T.ak ai (af (aa 1) (af (aL (by rfl) T.gM cA) ao)))) (aC (aK (fc (aG bf (by rfl) T.ak ai (af (aa 0) (af (aL (by rfl) T.gM cA) ao))) (fc (qN (aG bf (by rfl) T.ak ai (af (aa 0) (af (aL (by rfl) T.jQ fF) ao)))) (iP (e9 (dH hu) (aa 0) (aa 1) (aA _))))))) aX)
  (av (bM (jc.pt (iE (aN (iF hu) (aG bf (by rfl) T.ak ai (af (aa 0) (af (aL (by rfl) T.cG bG) ao))) (aG bf (by rfl) T.ak ai (af (aa 1) (af (aL (by rfl) T.cG bG) ao))) (aA _)) (gb (aN (iF hu) (aG bf (by rfl) T.ak ai (af (aa 0) (af (aL (by rfl) T.cH bD) ao))) (aG bf (by rfl) T.ak ai (af (aa 1) (af (aL (by rfl) T.cH bD) ao))) (aA _))))) (aC (aK eZ)) aX)
  (av (bM (aN (iF hu) (aG cz (by rfl) T.bI aM (af (aa 0) ao)) (aG cz (by rfl) T.bI aM (af (aa 1) ao)) (aA _)) (aC (aK eZ)) aX)
  (av (iG PassesOwn.never rfl (by rfl) T.dQ (af (aG cz (by rfl) T.bI aM (af (aa 1) ao)) ao) (cE (i:=2) bB.nd rfl (Or.inl rfl)) (aC (bM (k_not (dF (cV (jF T) (hr.mono (by decide)) (by rfl) T.b8 T.aY.kp (bP T) (af (bu (aa 0) (aa 2)) (af (bu (aa 1) (aa 2)) ao))))) (aC (aK eZ)) aX)))
  (aC (aK eZ))))))),λds M Q h=>?_⟩
 obtain⟨d,e,rfl,ha,h⟩:=h
 rcases ha with⟨rfl,ha⟩|⟨f,g,xs,rfl,rfl,hf,hg,hx,hl⟩
 ·cases d with
  |int i=>
   walk_at "rd"
   refine⟨_,_,_,false,rfl,.int _,by rfl,?_⟩
   walk_at "rd"
   refine⟨_,_,_,false,rfl,.int _,by rfl,?_⟩
   walk_at "rd"
   have e:gc (.int i) (.int i)=true:=by rw[c8];simp
   rw[e]
   exact bC.mk ⟨_,Le.refl _,h⟩
  |aZ=>
   walk_at "rd"
   exact bC.mk ⟨_,Le.refl _,h⟩
  |str x=>
   walk_at "rd"
   refine⟨_,_,_,true,rfl,.str _,aW,?_⟩
   walk_at "rd"
   refine⟨_,_,_,true,rfl,.str _,aW,?_⟩
   walk_at "rd"
   have e:gc (.str x) (.str x)=true:=fj 1 _ rfl
   rw[e]
   exact bC.mk ⟨_,Le.refl _,h⟩
  |tup xs=>
   obtain⟨hl,hx⟩:xs.length<=1000/\xs.all (mw 3)=true:=by
    have ha:(decide (xs.length<=1000) && xs.all (mw 3))=true:=ha
    rw[IS]at ha
    exact⟨of_decide_eq_true ha.1,ha.2⟩
   walk_at "rd"
   refine⟨_,_,_,false,rfl,.tup _,by rfl,?_⟩
   walk_at "rd"
   refine⟨_,_,_,false,rfl,.tup _,by rfl,?_⟩
   walk_at "rd"
   refine⟨_,_,_,false,rfl,.tup _,by rfl,?_⟩
   walk_at "rd"
   refine⟨_,_,_,false,rfl,.tup _,by rfl,?_⟩
   walk_at "rd"
   rw[fG]
   refine bS (λz=>absurd rfl (of_decide_eq_true z)) (λ_=>?_)
   walk_at "rd"
   refine⟨by omega,by omega,?_⟩
   refine aQ (λi ρ M'=>M'=M/\∃y:Option L3.D,ρ=[some (.tup xs),some (.tup xs),y]) _ ?_ ?_ ⟨rfl,_,rfl⟩
   ·rintro i x ρ M' Nx jA ⟨rfl,y,rfl⟩ hN
    obtain⟨hi,rfl⟩:=bK jA
    have hi:i<xs.length:=by simpa using hi
    have gx:xs[i]?=some xs[i]:=Iz hi
    have iu:mw 3 xs[i]=true:=IM.mp hx _ (Jc hi)
    refine⟨trivial,?_⟩
    walk_at "rd"
    refine⟨_,_,xs[i],.inl rfl,rfl,bQ gx,?_⟩
    walk_at "rd"
    refine⟨_,_,xs[i],.inl rfl,rfl,bQ gx,?_⟩
    walk_at "rd"
    refine⟨.inl ⟨rfl,iu⟩,?_⟩
    walk_at "rd"
    exact hN _ _ ⟨rfl,_,rfl⟩
   ·rintro ρ M' ⟨rfl,y,rfl⟩
    refine⟨trivial,?_⟩
    walk_at "rd"
    exact bC.mk ⟨_,Le.refl _,h⟩
  |_=>cases ha
 ·walk_at "rd"
  refine⟨_,_,_,false,rfl,.lst hg,by rfl,?_⟩
  walk_at "rd"
  refine⟨_,_,_,false,rfl,.lst hg,by rfl,?_⟩
  walk_at "rd"
  refine⟨_,_,_,false,rfl,.lst hf,by rfl,?_⟩
  walk_at "rd"
  refine⟨_,_,_,false,rfl,.lst hg,by rfl,?_⟩
  walk_at "rd"
  refine⟨_,_,_,true,rfl,.lst hf,aW,?_⟩
  walk_at "rd"
  refine⟨_,_,_,true,rfl,.lst hg,aW,?_⟩
  walk_at "rd"
  refine L3.bX hf ?_
  walk_at "rd"
  refine L3.bX hg ?_
  walk_at "rd"
  rw[fG]
  refine bS (λz=>absurd rfl (of_decide_eq_true z)) (λ_=>?_)
  walk_at "rd"
  refine L3.bX hg ?_
  refine⟨_,rfl,by omega,by omega,?_⟩
  refine aQ (λi ρ M'=>M'=M/\∃y:Option L3.D,ρ=[some (.ref f),some (.ref g),y]) _ ?_ ?_ ⟨rfl,_,rfl⟩
  ·rintro i x ρ M' Nx jA ⟨rfl,y,rfl⟩ hN
   obtain⟨hi,rfl⟩:=bK jA
   have hi:i<xs.length:=by simpa using hi
   have gx:xs[i]?=some xs[i]:=Iz hi
   have iu:mw 3 xs[i]=true:=IM.mp hx _ (Jc hi)
   refine⟨trivial,?_⟩
   walk_at "rd"
   refine⟨_,_,xs[i],.inr (.inr ⟨f,rfl,hf⟩),rfl,bQ gx,?_⟩
   walk_at "rd"
   refine⟨_,_,xs[i],.inr (.inr ⟨g,rfl,hg⟩),rfl,bQ gx,?_⟩
   walk_at "rd"
   refine⟨.inl ⟨rfl,iu⟩,?_⟩
   walk_at "rd"
   exact hN _ _ ⟨rfl,_,rfl⟩
  ·rintro ρ M' ⟨rfl,y,rfl⟩
   refine⟨trivial,?_⟩
   walk_at "rd"
   exact bC.mk ⟨_,Le.refl _,h⟩
def nZ:mX:=gR
theorem iz(T:Txt K mg t):b9 P w K mg base dR 4 t.bH t.bA ["_law_found","_law_due"] (mY K nZ):=jG T
theorem lN(T:Txt K mg t):Binds K t.eS ["_law_a","_law_b"] []:=T.fW.binds λ_ _ _ _ _ _=>L3.wX λ_ _=>rfl
def n5:sW:=λds Q=>∃p q:Pl,ds=[p.d,q.d]/\p.Ok 140/\q.Ok 140/\Q (.int (g8 p q))
theorem lO(T:Txt K mg t):b9 P w K mg base dR 1 t.fQ t.eS ["_law_a","_law_b"] (vQ K n5):=by
 refine yC T.fW lD (λds Q h=>by(first|(obtain⟨_,rfl,_⟩:=h;rfl)|(obtain⟨_,_,rfl,_⟩:=h;rfl)|(obtain⟨_,_,_,rfl,_⟩:=h;rfl)|(obtain⟨_,_,_,_,rfl,_⟩:=h;rfl)|(obtain⟨_,_,_,_,_,rfl,_⟩:=h;rfl)|(obtain⟨_,_,_,_,_,_,rfl,_⟩:=h;rfl)|(obtain⟨_,_,_,_,_,_,_,rfl,_⟩:=h;rfl))) (λcdv A outer s H hr=>?_)
 have hu:=hr.units
 refine⟨_,(aC (aK (aq cZ (aq ic (aq cR (bu (aa 1) aj) (bu (aa 0) aj)) (aq cR (bu (aa 1) aj) (bu (aa 0) aj))) (aq ic (aq cR (bu (aa 1) aj) (bu (aa 0) aj)) (aq cR (bu (aa 1) aj) (bu (aa 0) aj)))))),λds Q h=>?_⟩
 obtain⟨p,q,rfl,⟨p1,p2⟩,⟨q1,q2⟩,h⟩:=h
 unfold g8 at h
 walk_at "rd"
 exact h
theorem Fd(T:Txt K mg t):Binds K t.qx ["_law_script"] []:=T.yM.binds λ_ _ _ _ _ _=>L3.Cq λ_=>rfl
theorem AW(a b:Pl):0<=g8 a b:=by
 unfold g8
 have h1:=jr (b.x-a.x)
 have h2:=jr (b.y-a.y)
 omega
def Dc(t:Ad):mX:=qq C4 t.tab
theorem AX(T:Txt K mg t):b9 P w K mg base dR 7 t.vH t.qx ["_law_script"] (mY K (Dc t)):=by
 refine wI T.yM eW (λds M Q h=>by(first|(obtain⟨_,rfl,_⟩:=h;rfl)|(obtain⟨_,_,rfl,_⟩:=h;rfl)|(obtain⟨_,_,_,rfl,_⟩:=h;rfl)|(obtain⟨_,_,_,_,rfl,_⟩:=h;rfl)|(obtain⟨_,_,_,_,_,rfl,_⟩:=h;rfl)|(obtain⟨_,_,_,_,_,_,rfl,_⟩:=h;rfl)|(obtain⟨_,_,_,_,_,_,_,rfl,_⟩:=h;rfl))) (λcdv A outer s H hr=>?_)
 have hu:=hr.units
 refine⟨_,(av (bw (i:=1) eW.nd rfl (Or.inl rfl) (cV (kT T) (hr.mono (by decide)) (by rfl) T.lB T.eU.kp (kR T) (af (aa 0) (af aj ao))))
  (av (bw (i:=2) eW.nd rfl (Or.inl rfl) (yy An (by rfl) T.cH bD (af (aa 1) ao)))
  (av (bw (i:=3) eW.nd rfl (Or.inl rfl) (cV (rD T) (hr.mono (by decide)) (by rfl) T.vJ T.nR.kp (rC T) (af (aa 2) ao)))
  (av (bM (jc.pt (iE (aN (Al hu) (aa 2) (aa 1) (aA _)) (iE (k_not (dF (aG bf (by rfl) T.ak ai (af (aa 3) (af (aL (by rfl) T.cH bD) ao))))) (gb (aN (iF hu) (aG cz (by rfl) T.bI aM (af (aa 3) ao)) (aG (zP rfl) (by rfl) T.vL lY (af aj (af (aq cR (aG cz (by rfl) T.bI aM (af (aa 1) ao)) aj) ao))) (aA _)))))) (aC (aK eZ)) aX)
  (av (bw (i:=4) eW.nd rfl (Or.inl rfl) (cI (af (oM aj) (af (cI (af aj (af aj ao))) ao))))
  (av (mZ PassesOwn.never rfl (aa 3) (cE (i:=5) eW.nd rfl (Or.inl rfl)) (av (bM (jc.pt (iE (k_not (dF (aG bf (by rfl) T.ak ai (af (aa 5) (af (aL (by rfl) T.cG bG) ao))))) (iE (aN (iF hu) (aG cz (by rfl) T.bI aM (af (aa 5) ao)) aj (aA _)) (iE (aN (iV hu) (bu (aa 5) aj) (aa 1) (by with_unfolding_all rfl)) (gb (aN (iV hu) (bu (aa 5) aj) (aa 1) (by with_unfolding_all rfl))))))) (aC (aK eZ)) aX)
  (av (bM (jc.pt (iE (k_not (aN (yD hu) (bu (aa 5) aj) (bu (aa 5) aj) (aA _))) (gb (k_not (dF (cV (iz T) (hr.mono (by decide)) (by rfl) T.b8 T.aY.kp (bP T) (af (aa 5) (af (cI (af (cI (af (bu (bu (aa 5) aj) aj) (af (bu (bu (aa 5) aj) aj) ao))) (af (cI (af (bu (bu (aa 5) aj) aj) (af (bu (bu (aa 5) aj) aj) ao))) ao))) ao)))))))) (aC (aK eZ)) aX)
  (av (bw (i:=6) eW.nd rfl (Or.inl rfl) (cI (af (b7 (lO T) (hr.mono (by decide)) (by rfl) T.nT T.fW.kp (lN T) (af (bu (aa 5) aj) (af (bu (aa 5) aj) ao))) (af (aa 5) ao))))
  (av (bM (jc.pt (iE (aN El (bu (aa 4) aj) (bu (aa 6) aj) (aA _)) (gb (jc.pt (oK (aN (dH hu) (bu (aa 4) aj) (bu (aa 6) aj) (aA _)) (jX (k_not (aN (AS hu) (bu (aa 4) aj) (aa 5) (aA _))))))))) (aC (aK eZ)) aX)
  (aC (bw (i:=4) eW.nd rfl (Or.inl rfl) (aa 6))))))))
  (av (bw (i:=7) eW.nd rfl (Or.inl rfl) (aq bg (b7 (dh T) (hr.mono (by decide)) (by rfl) T.dZ T.cD.kp (dg T) (af (aa 0) (af aj ao))) (aq cZ (aG cz (by rfl) T.bI aM (af (aa 1) ao)) aj)))
  (av (bw (i:=8) eW.nd rfl (Or.inl rfl) (cV (rD T) (hr.mono (by decide)) (by rfl) T.vJ T.nR.kp (rC T) (af (aq uL (gD (aa 1) (kg (aa 7)) uK) (sJ (by rfl) (by rfl) T.cH (by rfl) T.pC (gD (aa 1) uK (kg (aa 7))))) ao)))
  (aC (aK (fc (cV (jo T) (hr.mono (by decide)) (by rfl) T.jy T.cY.kp (jm T) (af (aa 1) (af (aa 3) ao))) (iP (cV (iz T) (hr.mono (by decide)) (by rfl) T.b8 T.aY.kp (bP T) (af (aa 8) (af (aa 3) ao))))))))))))))),λds M Q h=>?_⟩
 obtain⟨ns,rfl,hl,hb,hT,h⟩:=h
 have sl:(1000:Nat)<sizeLine:=by decide
 walk_at "rd"
 refine⟨hb,hl,by decide,by decide,λl ps Ic nd ho hlen=>?_⟩
 have ho:∀q∈ps,q.Ok 140:=λq hq=>⟨(ho q hq).1.le (by decide),(ho q hq).2.le (by decide)⟩
 have h12:ps.length<=12:=by omega
 have hT:=az (u:=MO.lst (ps.map Pl.d)) hT Ic
 have hM:aH M l (.lst (ps.map Pl.d)) l=some (.lst (ps.map Pl.d)):=au
 generalize aH M l (.lst (ps.map Pl.d))=M0 at hM hT ⊢
 walk_at "rd"
 refine L3.Ao (.of hM) λl2 hl2=>?_
 have hM:=az (u:=MO.lst (ps.map Pl.d)) hM hl2
 have hT:=az (u:=MO.lst (ps.map Pl.d)) hT hl2
 have hL:aH M0 l2 (.lst (ps.map Pl.d)) l2=some (.lst (ps.map Pl.d)):=au
 generalize aH M0 l2 (.lst (ps.map Pl.d))=M1 at hM hT hL ⊢
 walk_at "rd"
 refine⟨ps,hL,nd,by omega,ho,hT,λp us hp ht=>?_⟩
 have tp:=ht.prop nd
 have hM:=az (u:=MO.lst (us.map tD)) hM hp
 have hT:=az (u:=MO.lst (us.map tD)) hT hp
 have hL:=az (u:=MO.lst (us.map tD)) hL hp
 have hP:aH M1 p (.lst (us.map tD)) p=some (.lst (us.map tD)):=au
 generalize aH M1 p (.lst (us.map tD))=M2 at hM hL hP hT ⊢
 have lu:us.length<=12:=by rw[tp.len];omega
 walk_at "rd"
 refine L3.Cy (.of hL) (.of hM) (bO _) (bO _) ?_
 rw[sL (bO ps)]
 walk_at "rd"
 refine⟨_,_,_,true,rfl,.lst hP,aW,?_⟩
 walk_at "rd"
 refine L3.bX hP ?_
 walk_at "rd"
 refine L3.bX hM ?_
 walk_at "rd"
 rw[fG]
 refine bS (λz=>absurd ?_ (of_decide_eq_true z)) (λ_=>?_)
 ·rw[Iw,Iw,tp.len]
  omega
 walk_at "rd"
 refine⟨p,_,rfl,hP,?_⟩
 refine aQ (λi ρ M'=>∃(k:Int) (d:L3.D) (y1 y2:Option L3.D),ρ=[some (.pQ (ns.map L3.D.int)),some (.ref l),some (.ref l2),some (.ref p),some (.tup [.int k,d]),y1,y2,none,none]/\M'=M2/\((i=0/\k= -1)\/∃w,us[i-1]?=some w/\0<i/\k=AO w/\d=tD w)) _ ?_ ?_ ⟨-1,_,_,_,rfl,rfl,.inl ⟨rfl,rfl⟩⟩
 ·rintro i v ρ M' N jA ⟨kk,dd,y1,y2,rfl,rfl,ah⟩ hN
  obtain⟨t2,x8,rfl⟩:=qv jA
  obtain⟨a,b,rfl,ab,ma,mb⟩:=tp.Du t2 (IW x8)
  refine⟨hP,?_⟩
  walk_at "rd"
  refine L3.j8 hM (rfl) (bO ps) ?_
  walk_at "rd"
  rw[if_pos rfl,fL]
  refine bS (λz=>absurd z (by rw[decide_eq_true ma];decide)) (λ_=>?_)
  walk_at "rd"
  refine L3.j8 hM (rfl) (bO ps) ?_
  walk_at "rd"
  rw[if_pos rfl,fL]
  refine bS (λz=>absurd z (by rw[decide_eq_true mb];decide)) (λ_=>?_)
  walk_at "rd"
  rw[jK,decide_eq_true ab]
  walk_at "rd"
  refine⟨.inl ⟨rfl,rfl⟩,?_⟩
  walk_at "rd"
  refine⟨ho a ma,ho b mb,?_⟩
  walk_at "rd"
  have pos:0<=g8 a b:=AW a b
  have fin:(i+1=0/\g8 a b= -1)\/∃w,us[i+1-1]?=some w/\0<i+1/\g8 a b=AO w/\tD [a,b]=tD w:= .inr ⟨[a,b],x8,by omega,rfl,rfl⟩
  have Gk:(kk= -1)\/∃w,dd=tD w/\w.length=2/\kk<=g8 a b/\(kk=g8 a b->dW w [a,b]=true):=by
   rcases ah with⟨_,z⟩|⟨w',hw,hi,rfl,rfl⟩
   ·exact .inl z
   ·obtain⟨c,d,rfl,_⟩:=tp.Du w' (IW hw)
    obtain⟨l1,e1⟩:=IC.mp hw
    obtain⟨l2,e2⟩:=IC.mp x8
    have so:=Js.mp tp.so (i-1) i l1 l2 (by omega)
    have ne:us[i-1]≠us[i]:=Js.mp tp.nd (i-1) i l1 l2 (by omega)
    rw[e1,e2]at so ne
    have so:kZ (g8 a b,[a,b]) (g8 c d,[c,d])=false:=so
    refine .inr ⟨_,rfl,rfl,?_,λz=>?_⟩
    ·show g8 c d<=g8 a b
     rcases Int.lt_or_le (g8 a b) (g8 c d)with k|k
     ·have:kZ (g8 a b,[a,b]) (g8 c d,[c,d])=true:=by unfold kZ;rw[if_neg (show g8 a b≠g8 c d by omega)];exact decide_eq_true k
      rw[this]at so;cases so
     ·exact k
    ·have z:g8 c d=g8 a b:=z
     unfold kZ at so
     rw[if_pos (show g8 a b=g8 c d from z.symm)]at so
     rcases gE [c,d] [a,b]with k|k|k
     ·exact k
     ·exact absurd k ne
     ·rw[k]at so;cases so
  have ge:kk<=g8 a b:=by
   rcases Gk with z|⟨_,_,_,z,_⟩
   ·omega
   ·exact z
  refine bS (λz=>absurd (of_decide_eq_true z) (by omega)) (λ_=>?_)
  walk_at "rd"
  rw[c8]
  refine bS (λz=>?_) (λ_=>?_)
  ·have z:kk=g8 a b:=eq_of_beq z
   rcases Gk with k|⟨w',rfl,lw,_,lx⟩
   ·omega
   walk_at "rd"
   refine⟨lw,rfl,?_⟩
   rw[lx z]
   walk_at "rd"
   exact hN _ _ ⟨g8 a b,tD [a,b],_,_,rfl,rfl,fin⟩
  ·walk_at "rd"
   exact hN _ _ ⟨g8 a b,tD [a,b],_,_,rfl,rfl,fin⟩
 ·rintro ρ M' ⟨kk,dd,y1,y2,rfl,rfl,ah⟩
  refine⟨hP,?_⟩
  walk_at "rd"
  refine⟨hb,hl,by decide,by decide,λz _=>?_⟩
  walk_at "rd"
  refine L3.bX hM ?_
  rw[Iw]
  walk_at "rd"
  refine L3.oU (.of hM) λq1 hq1=>?_
  obtain⟨j,hj,ej⟩:∃j:Nat,j<=ps.length/\z % ((ps.length:Int)+1)=(j:Int):=by
   have e1:=Jb z (show(ps.length:Int)+1≠0 by omega)
   have e2:=IY z (show 0<(ps.length:Int)+1 by omega)
   exact⟨(z % ((ps.length:Int)+1)).toNat,by omega,by omega⟩
  dsimp only
  rw[ej]
  have Ie:cutD (ps.map Pl.d) (some (j:Int)) none=(ps.drop j).map Pl.d:=vf Pl.d ps j hj
  have Ig:cutD (ps.map Pl.d) none (some (j:Int))=(ps.take j).map Pl.d:=kF Pl.d ps j hj
  rw[Ie]
  have hM:=az (u:=MO.lst ((ps.drop j).map Pl.d)) hM hq1
  have hP:=az (u:=MO.lst ((ps.drop j).map Pl.d)) hP hq1
  have hT:=az (u:=MO.lst ((ps.drop j).map Pl.d)) hT hq1
  have hA:aH M' q1 (.lst ((ps.drop j).map Pl.d)) q1=some (.lst ((ps.drop j).map Pl.d)):=au
  generalize aH M' q1 (.lst ((ps.drop j).map Pl.d))=Gm at hM hP hT hA ⊢
  walk_at "rd"
  refine L3.oU (.of hM) λq2 hq2=>?_
  rw[Ig]
  have hM:=az (u:=MO.lst ((ps.take j).map Pl.d)) hM hq2
  have hP:=az (u:=MO.lst ((ps.take j).map Pl.d)) hP hq2
  have hT:=az (u:=MO.lst ((ps.take j).map Pl.d)) hT hq2
  have hA:=az (u:=MO.lst ((ps.take j).map Pl.d)) hA hq2
  have hB:aH Gm q2 (.lst ((ps.take j).map Pl.d)) q2=some (.lst ((ps.take j).map Pl.d)):=au
  generalize aH Gm q2 (.lst ((ps.take j).map Pl.d))=Gn at hM hP hT hA hB ⊢
  refine L3.oU (.of hB) λq3 Dz=>?_
  rw[<-List.map_reverse]
  have hM:=az (u:=MO.lst ((ps.take j).reverse.map Pl.d)) hM Dz
  have hP:=az (u:=MO.lst ((ps.take j).reverse.map Pl.d)) hP Dz
  have hT:=az (u:=MO.lst ((ps.take j).reverse.map Pl.d)) hT Dz
  have hA:=az (u:=MO.lst ((ps.take j).reverse.map Pl.d)) hA Dz
  have hB:aH Gn q3 (.lst ((ps.take j).reverse.map Pl.d)) q3=some (.lst ((ps.take j).reverse.map Pl.d)):=au
  generalize aH Gn q3 (.lst ((ps.take j).reverse.map Pl.d))=Gp at hM hP hT hA hB ⊢
  refine⟨q1,q3,_,_,rfl,rfl,hA,hB,?_,λq4 Fe=>?_⟩
  ·rw[Iw,Iw,Kq,JO,Jg]
   omega
  rw[<-Jk]
  have hM:=az (u:=MO.lst ((ps.drop j++(ps.take j).reverse).map Pl.d)) hM Fe
  have hP:=az (u:=MO.lst ((ps.drop j++(ps.take j).reverse).map Pl.d)) hP Fe
  have hT:=az (u:=MO.lst ((ps.drop j++(ps.take j).reverse).map Pl.d)) hT Fe
  have hA:aH Gp q4 (.lst ((ps.drop j++(ps.take j).reverse).map Pl.d)) q4=some (.lst ((ps.drop j++(ps.take j).reverse).map Pl.d)):=au
  generalize aH Gp q4 (.lst ((ps.drop j++(ps.take j).reverse).map Pl.d))=Gq at hM hP hT hA ⊢
  have pp:(ps.drop j++(ps.take j).reverse).Perm ps:=by
   refine((J4 _).append_left _).trans (Jt.trans ?_)
   rw[List.take_append_drop]
  walk_at "rd"
  refine⟨_,hA,pp.nodup_iff.mpr nd,by rw[pp.length_eq];omega,λq hq=>ho q (pp.mem_iff.mp hq),hT,λq5 vs Ff x8=>?_⟩
  obtain rfl:=ht.same nd pp x8
  have hM:=az (u:=MO.lst (vs.map tD)) hM Ff
  have hP:=az (u:=MO.lst (vs.map tD)) hP Ff
  have hT:=az (u:=MO.lst (vs.map tD)) hT Ff
  have hA:aH Gq q5 (.lst (vs.map tD)) q5=some (.lst (vs.map tD)):=au
  generalize aH Gq q5 (.lst (vs.map tD))=Ir at hM hP hT hA ⊢
  walk_at "rd"
  refine⟨ps,vs,hM,hP,nd,by omega,tp,?_⟩
  walk_at "rd"
  refine⟨.inr ⟨q5,p,_,rfl,rfl,hA,hP,xY (λt ht=>by obtain⟨_,_,rfl,_⟩:=tp.Du t ht;rfl),by rw[Iw];omega⟩,?_⟩
  exact bC.mk ⟨_,AR hT,h⟩
end
theorem all_mk{P:Program}{w:World}{h:Heap}{mg:Str->Option Value}{fa:Addr}(Y:HD.CT Pf.fs Pf.bs "all_pairs" h)(G:h.Ns mainGlobals mg)(E4:mg "law" =some (.ref fa)):∃(K:PySem.W.Frag) (fd:FuncData) (tA:Addr),K.In h/\h.get? tA=some {cls:= .none,data:= .fields #[]}/\PySem.isCodeTable h tA/\K.lookup tA=none/\(∀(s:Shared) (v:Value),BindsTo s fd ⟨[v],[]⟩ [("_law_script",v)])/\∀base:Heap,K.In base->base.Ns mainGlobals mg->b9 P w K mg base dR 7 fa fd ["_law_script"] (mY K (qq C4 tA)):=by
 obtain⟨K,a,X,H,B,TY⟩:=Y
 have e:=E4.symm.trans (PySem.W.mg_of X G (HD.cS H 14 rfl))
 cases e
 have T:Txt K mg ⟨HD.fA H 0 rfl,HD.fA H 1 rfl,HD.fA H 2 rfl,HD.fA H 3 rfl,HD.fA H 4 rfl,HD.fA H 5 rfl,HD.fA H 6 rfl,HD.fA H 7 rfl,HD.fA H 8 rfl,HD.fA H 9 rfl,HD.fA H 10 rfl,HD.fA H 11 rfl,HD.fA H 12 rfl,HD.fA H 13 rfl,HD.fA H 14 rfl,HD.fD H 0 rfl,HD.fD H 1 rfl,HD.fD H 2 rfl,HD.fD H 3 rfl,HD.fD H 4 rfl,HD.fD H 5 rfl,HD.fD H 6 rfl,HD.fD H 7 rfl,HD.fD H 8 rfl,HD.fD H 9 rfl,HD.fD H 10 rfl,HD.fD H 11 rfl,HD.fD H 12 rfl,HD.fD H 13 rfl,HD.fD H 14 rfl,a⟩:=⟨HD.bZ H 0 rfl,PySem.W.mg_of X G (HD.cS H 0 rfl),HD.bZ H 1 rfl,PySem.W.mg_of X G (HD.cS H 1 rfl),HD.bZ H 2 rfl,PySem.W.mg_of X G (HD.cS H 2 rfl),HD.bZ H 3 rfl,PySem.W.mg_of X G (HD.cS H 3 rfl),HD.bZ H 4 rfl,PySem.W.mg_of X G (HD.cS H 4 rfl),HD.bZ H 5 rfl,PySem.W.mg_of X G (HD.cS H 5 rfl),HD.bZ H 6 rfl,PySem.W.mg_of X G (HD.cS H 6 rfl),HD.bZ H 7 rfl,PySem.W.mg_of X G (HD.cS H 7 rfl),HD.bZ H 8 rfl,PySem.W.mg_of X G (HD.cS H 8 rfl),HD.bZ H 9 rfl,PySem.W.mg_of X G (HD.cS H 9 rfl),HD.bZ H 10 rfl,PySem.W.mg_of X G (HD.cS H 10 rfl),HD.bZ H 11 rfl,PySem.W.mg_of X G (HD.cS H 11 rfl),HD.bZ H 12 rfl,PySem.W.mg_of X G (HD.cS H 12 rfl),HD.bZ H 13 rfl,PySem.W.mg_of X G (HD.cS H 13 rfl),HD.bZ H 14 rfl,PySem.W.mg_of X G (HD.cS H 14 rfl),PySem.W.mg_none_of X G (HD.bR B (i:=0) rfl),PySem.W.mg_none_of X G (HD.bR B (i:=1) rfl),PySem.W.mg_none_of X G (HD.bR B (i:=2) rfl),PySem.W.mg_none_of X G (HD.bR B (i:=3) rfl),PySem.W.mg_none_of X G (HD.bR B (i:=4) rfl),PySem.W.mg_none_of X G (HD.bR B (i:=5) rfl),PySem.W.mg_none_of X G (HD.bR B (i:=6) rfl),PySem.W.mg_none_of X G (HD.bR B (i:=7) rfl),PySem.W.mg_none_of X G (HD.bR B (i:=8) rfl),PySem.W.mg_none_of X G (HD.bR B (i:=9) rfl),PySem.W.mg_none_of X G (HD.bR B (i:=10) rfl),PySem.W.mg_none_of X G (HD.bR B (i:=11) rfl),PySem.W.mg_none_of X G (HD.bR B (i:=12) rfl),HD.tab_of TY X G (HD.cS H 8 rfl) (HD.bZ H 8 rfl)⟩
 refine⟨K,HD.fD H 14 rfl,a,X,TY.tab,TY.Gd,TY.no,λs v=>?_,λbase _ _=>AX T⟩
 obtain⟨_,_,_,_,_,_,_,_,_,e,_,_⟩:=(HD.bZ H 14 rfl).ex
 rw[e]
 exact .of_eq rfl
end Pf
open PySem PySem.W PyProof.Rows
set_option maxRecDepth 100000 in
set_option maxHeartbeats 0 in
theorem PySem.Challenge.cw_nearland_k81_tree_joins_all_holds : PySem.Challenge.rw_nearland_k81_tree_joins_all.Holds := by
 refine holds_law Pf.said λsaid=>?_
 refine holds_open (q:=Pf.view) (loose:=Pf.loose) (Xt:=λs=>xlAt Pf.view [] s && recOk (RowW.records (OpenRow.toRowW PySem.Challenge.rw_nearland_k81_tree_joins_all.row)) s) (XP:=XL Pf.view []) (Yf:=HD.yO Pf.fs Pf.bs "all_pairs") (Ya:=λ_=>HD.tF Pf.fs Pf.bs) (YP:=λ_ h=>HD.CT Pf.fs Pf.bs "all_pairs" h) (N:=1770) Pf.left (λ_ _ e=>HD.xP ⟨_,IW (show Pf.fs[8]?=some _ from rfl)⟩ e) (λ_ _ _ y k=>HD.AG y k) (λs e=>xl_of s (Jy.mp e).1) XL.keeps (by rfl) (by rfl) (by rfl) (λs e=>recFacts_of (Jy.mp e).2) (by rfl) said (by decide +kernel) ⟨rfl,rfl,rfl,rfl,rfl,by decide +kernel⟩ (by w_witness2) ?hc
 exact HD.vo (l:=PySem.Challenge.rw_nearland_k81_tree_joins_all) (n:=63) (k:=7) (x:= "_law_script") (S:=L3.qq L3.C4) rfl (by decide) rfl ⟨rfl,by decide,by decide⟩ (λw mg fa h Y G hmg=>Pf.all_mk Y G hmg) (λtA ns hl hb=>⟨_,ns,rfl,hl,hb,L3.au,rfl,_,L3.au⟩)
