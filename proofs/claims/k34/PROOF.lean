import PyProof.Rows.All
import Wide.All
import OpenK.AllK
import Wide.FinOn
import Lean
import PyProof.EqAt
import PyProof.EqKinds
import PyProof.TupleCall
import PySem.Challenge.RW_nearland_k34_wrong_sides
set_option Elab.async false
set_option linter.all false
set_option maxRecDepth 100000
namespace HD
open PySem PySem.W PySem.Calls
def G6 (p:Program) (w:World) (n₀:Nat) (ann:Option Value):Nat→SharedT→Thread→Option SharedT
 | 0,_,_=>none
 | n+1,s,t=>match through t with
   | true=>some s
   | false=>match stepOk n₀ ann t with
     | false=>none
     | true=>match stepT (denote treeTable) p w s t with
       | some (s',t')=>G6 p w n₀ ann n s' t'
       | none=>none
theorem A9 {p:Program} {w:World} {n₀:Nat} {ann:Option Value}:∀ {n:Nat} {s s':SharedT} {t:Thread},G6 p w n₀ ann n s t=some s'→topRun treeTable p w n₀ ann n s.abs t=some s'.abs
 | 0,_,_,_,h=>nomatch h
 | n+1,s,s',t,h=>by
   unfold G6 at h
   unfold topRun
   cases a:through t with
   | true=>rw [a] at h;cases h;rfl
   | false=>
     rw [a] at h
     dsimp only at h ⊢
     cases b:stepOk n₀ ann t with
     | false=>rw [b] at h;cases h
     | true=>
       rw [b] at h
       dsimp only at h ⊢
       cases c:stepT (denote treeTable) p w s t with
       | none=>rw [c] at h;cases h
       | some x=>
         obtain ⟨s1,t1⟩:=x
         rw [c] at h
         rw [stepT_spec c]
         exact A9 h
noncomputable def DY (P:Params):BT:=((boot_heap P).objs.toList.foldl (fun x o=>(x.1.ins x.2 o,x.2+1)) (BT.nil,0)).1
theorem Cm (P:Params):absHeap (DY P) 11 (boot_heap P).life=boot_heap P:=by kernel_rfl
theorem Cn (w:World):((boot_heap w.params).isNs mainGlobals && (#[]:Array GenState).size == 0,(boot_heap w.params).objs.size,(boot_heap w.params).nsMap mainGlobals "__annotations__")=(true,11,some (.ref 6)):=by kernel_rfl
theorem Co {p q:Program} {loose:List Str} {Xt:Shared→Bool} {α:Type} {Yf:Shared→α} {Ya:World→α} {N M:Nat} (e:opening p=plainProg p.main.scope.names) (hN:Nat.ble 600 N=true) (f:∀ s,fenceModules? p s=some s) (le:Nat.ble M N=true)
 (run:∀ (w:World) (os:OsState),(G6 p w 11 (some (.ref 6)) M ⟨DY w.params,11,(boot_heap w.params).life,#[],boot_drawn,boot_toks,os⟩ (topStub p)).map (fun sT=>
  (staticsOk (importedModules p.main.body) (boot_heap w.params) sT.abs.heap && namesBound p sT.abs.heap && gensDone sT.abs && laidKept (boot_heap w.params) sT.abs.heap,openSeen q loose (importedModules p.main.body) Xt true sT.abs,Yf sT.abs))=some (true,openGood q loose,Ya w)):LeftO p q loose Xt Yf Ya N:=fun w=>by
 obtain ⟨⟨h,gs,d,k,os⟩,e,e'⟩:=Option.map_eq_some_iff.mp (boot_open e hN f w)
 obtain ⟨rfl,rfl,rfl,rfl⟩:h=boot_heap w.params∧gs=Array.mk []∧d=boot_drawn∧k=boot_toks:=by simpa using e'
 obtain ⟨z1,z2,z3⟩:_∧_∧_:=by simpa only [Prod.mk.injEq] using Cn w
 obtain ⟨sT,e1,e2⟩:=Option.map_eq_some_iff.mp (run w os)
 obtain ⟨l1,l2,l3⟩:_∧_∧_:=by simpa only [Prod.mk.injEq] using e2
 have r:=topRun_mono (N - M) _ _ _ _ (A9 e1)
 rw [show M+(N - M)=N by have:=Nat.le_of_ble_eq_true le;omega] at r
 have a:SharedT.abs ⟨DY w.params,11,(boot_heap w.params).life,#[],boot_drawn,boot_toks,os⟩= ⟨boot_heap w.params,Array.mk [],boot_drawn,boot_toks,os⟩:=by
  unfold SharedT.abs
  dsimp only
  rw [Cm]
 rw [a] at r
 have t:topFrom treeTable p w N ⟨boot_heap w.params,Array.mk [],boot_drawn,boot_toks,os⟩=some sT.abs:=by
  unfold topFrom
  dsimp only
  rw [z1,z2,z3,r]
  show (match staticsOk (importedModules p.main.body) (boot_heap w.params) sT.abs.heap && namesBound p sT.abs.heap && gensDone sT.abs && laidKept (boot_heap w.params) sT.abs.heap with | true=>_ | false=>_)=_
  rw [l1]
 unfold openEnds
 rw [e]
 show (topFrom treeTable p w N _).map _=_
 rw [t]
 exact congrArg some (Prod.ext l2 l3)
def dA (s:Stmt):Arguments:=match s with
 | .FunctionDef _ a _ _ _ _ _ _ _ _=>a
 | _=>{ posonlyargs:=[],args:=[],vararg:=none,kwonlyargs:=[],kw_defaults:=[],kwarg:=none,defaults:=[] }
def dB (s:Stmt):List Stmt:=match s with
 | .FunctionDef _ _ b _ _ _ _ _ _ _=>b
 | _=>[]
def dS (s:Stmt):Scope:=match s with
 | .FunctionDef _ _ _ _ _ _ sc _ _ _=>sc
 | _=>{ kind:= .function,names:=[],isGenerator:=false,isCoroutine:=false }
abbrev pr (n:Str) (st:Stmt):Str ×Stmt:=(n,st)
def Mv (h:Heap) (n:Str):Option (Option Value):=match h.get? mainGlobals with
 | some o=>nsIn [(mainGlobals,o)] mainGlobals n
 | none=>none
def fnAt (h:Heap) (n:Str):Option (Addr ×FuncData):=match Mv h n with
 | some (some (.ref f))=>(match h.get? f with
   | some ⟨_,_,.func fd,_⟩=>some (f,fd)
   | _=>none)
 | _=>none
def jL (h:Heap) (v:Value):Option Str:=match v with
 | .ref c=>(match h.get? c with
   | some ⟨_,_,.fields vs,_⟩=>(match vs.toList with
     | _ :: .str q _ :: _=>some q
     | _=>none)
   | _=>none)
 | _=>none
def blank (fd:FuncData):FuncData:={ fd with kwdefaults:= .none,doc:= .none,pyModule:= .none,annotations:=none,code:= .none,closureTuple:= .none }
abbrev Seen:=List (Option (FuncData ×Option Str)) ×List (Option (Option Value))
def zI (fs:List (Str ×Stmt)) (bs:List Str) (s:Shared):Seen:=
 (fs.map fun p=>(fnAt s.heap p.1).map fun x=>(blank x.2,jL s.heap x.2.code),bs.map fun b=>Mv s.heap b)
def good (fs:List (Str ×Stmt)) (bs:List Str):Seen:=
 (fs.map fun p=>some (fnOf p.1 p.1 (dA p.2) (dB p.2) (dS p.2) .none .none .none .none none .none .none,some p.1),bs.map fun _=>some none)
end HD
namespace  Pf
open PySem PySem.W PyProof.Rows
def top (i:Nat):Stmt:=PySem.Challenge.pw_nearland_k34_wrong_sides.main.body.getD i (.Pass ⟨0,0,0,0⟩)
abbrev jM:Stmt:=top 34
abbrev jN:Stmt:=top 33
abbrev om:Stmt:=top 32
abbrev ia:Stmt:=top 35
abbrev jO:Stmt:=top 42
abbrev i9:Stmt:=top 36
abbrev ff:Stmt:=top 37
abbrev bH:Stmt:=top 41
abbrev ic:Stmt:=top 43
abbrev zJ:Stmt:=top 4
abbrev vB:Stmt:=top 6
abbrev zK:Stmt:=top 7
abbrev gf:Stmt:=top 9
abbrev oz:Stmt:=top 10
abbrev fk:Stmt:=top 11
abbrev ie:Stmt:=top 20
abbrev kR:Stmt:=top 26
abbrev lP:Stmt:=top 38
abbrev dX:Stmt:=top 39
abbrev jP:Stmt:=top 40
abbrev qT:Stmt:=top 21
abbrev gg:Stmt:=top 28
abbrev gi:Stmt:=top 19
abbrev b9:Stmt:=top 22
abbrev ja:Stmt:=top 24
abbrev jQ:Stmt:=top 13
abbrev vC:Stmt:=top 14
abbrev zL:Stmt:=top 15
abbrev qU:Stmt:=top 16
abbrev zM:Stmt:=top 18
abbrev lQ:Stmt:=top 29
abbrev qE:Stmt:=top 30
abbrev c9:Stmt:=top 44
abbrev xQ:Stmt:=top 45
def view:Program:={ PySem.Challenge.pw_nearland_k34_wrong_sides with main:={ PySem.Challenge.pw_nearland_k34_wrong_sides.main with body:=[top 45] } }
def loose:List Str:=(["NearError","Flat","sign","twice","turn","without_bays","outline","outline_sides","ring_area","apart","ring","spoils","back","side_between","triangle_of","rounds","directed_sides","sides_of","swept","left_corners","is_wrong","wrong","_law_at","_law_spot","_law_many","_law_places","_law_twice","_law_triangle","_law_int","_law_places_of","_law_rows","_law_flipped","_law_pick","_law_shaken","_law_spoils"]:List String).map Str.ofString
def fs:List (Str ×Stmt):=[HD.pr "_law_many" jM,HD.pr "_law_spot" jN,HD.pr "_law_at" om,HD.pr "_law_places" ia,HD.pr "_law_pick" jO,HD.pr "_law_twice" i9,HD.pr "_law_triangle" ff,HD.pr "_law_flipped" bH,HD.pr "_law_shaken" ic,HD.pr "sign" zJ,HD.pr "twice" vB,HD.pr "turn" zK,HD.pr "without_bays" gf,HD.pr "outline" oz,HD.pr "outline_sides" fk,HD.pr "triangle_of" ie,HD.pr "swept" kR,HD.pr "_law_int" lP,HD.pr "_law_places_of" dX,HD.pr "_law_rows" jP,HD.pr "rounds" qT,HD.pr "left_corners" gg,HD.pr "side_between" gi,HD.pr "directed_sides" b9,HD.pr "sides_of" ja,HD.pr "ring_area" jQ,HD.pr "apart" vC,HD.pr "ring" zL,HD.pr "spoils" qU,HD.pr "back" zM,HD.pr "is_wrong" lQ,HD.pr "wrong" qE,HD.pr "_law_spoils" c9,HD.pr "law" xQ]
def bs:List Str:=["min","max","len","sorted","tuple","list","reversed","zip","range","isinstance","int","set"]
set_option maxHeartbeats 0 in
theorem said:PySem.Challenge.rw_nearland_k34_wrong_sides.wellSaid=true:=by
 unfold OpenLaw.wellSaid OpenRow.wellSaid OpenRow.partSaid looksOpen
 repeat' (with_reducible refine look_both ?_ ?_)
 all_goals decide +kernel
set_option maxHeartbeats 0 in
theorem left:LeftO PySem.Challenge.rw_nearland_k34_wrong_sides.row.prog view loose (fun s=>xlAt view [] s && recOk (RowW.records (OpenRow.toRowW PySem.Challenge.rw_nearland_k34_wrong_sides.row)) s) (HD.zI fs bs) (fun _=>HD.good fs bs) 3760:=HD.Co (M:=1630) (by kernel_rfl) (by kernel_rfl) (fun s=>by kernel_rfl) (by kernel_rfl) (fun w os=>by kernel_rfl)
end Pf
namespace L2
open PySem PySem.Spec PyProof.Rows
abbrev Key:=Sum Int Str
def Js:Key→Value→Bool
 | .inl k,v=>Value.isInt k v
 | .inr x,v=>Value.isStrOf x v
def P0 (w:World):Key→Int
 | .inl k=>hashInt k
 | .inr x=>hashStr w x
theorem bR:∀ {k:Key} {v:Value},Js k v=true→(∃ i t,k=Sum.inl i∧v=Value.int i t)∨(∃ x t,k=Sum.inr x∧v=Value.str x t)
 | .inl i,v,h=>by
   obtain ⟨t,e⟩:=Value.isInt_shape (k:=i) (v:=v) h
   exact .inl ⟨i,t,rfl,e⟩
 | .inr x,v,h=>by
   obtain ⟨t,e⟩:=Value.isStrOf_shape (x:=x) (v:=v) h
   exact .inr ⟨x,t,rfl,e⟩
theorem J1 (a b:Int):decide ((Sum.inl a:Key)=Sum.inl b)=(a == b):=by
 by_cases e:a=b
 ·subst e;simp
 ·have h:¬ (Sum.inl a:Key)=Sum.inl b:=fun q=>e (Sum.inl.inj q)
  rw [decide_eq_false h]
  exact (beq_eq_false_iff_ne.mpr e).symm
theorem J2 (a b:Str):decide ((Sum.inr a:Key)=Sum.inr b)=decide (a=b):=by
 by_cases e:a=b
 ·subst e;simp
 ·have h:¬ (Sum.inr a:Key)=Sum.inr b:=fun q=>e (Sum.inr.inj q)
  rw [decide_eq_false h,decide_eq_false e]
theorem J3 (a:Int) (b:Str):decide ((Sum.inl a:Key)=Sum.inr b)=false:=decide_eq_false (fun q=>nomatch q)
theorem J4 (a:Str) (b:Int):decide ((Sum.inr a:Key)=Sum.inl b)=false:=decide_eq_false (fun q=>nomatch q)
def Ba (prog:Program) (w:World):PySem.KeyKind prog w Key where
 is:=Js
 hash:=P0 w
 inj:=fun v a b ha hb=>by
  rcases bR ha with ⟨i,t,rfl,rfl⟩ | ⟨x,t,rfl,rfl⟩
  ·rcases bR hb with ⟨j,u,rfl,e⟩ | ⟨y,u,rfl,e⟩
   ·injection e with e1 _;rw [e1]
   ·exact nomatch e
  ·rcases bR hb with ⟨j,u,rfl,e⟩ | ⟨y,u,rfl,e⟩
   ·exact nomatch e
   ·injection e with e1 _;rw [e1]
 byValue:=fun k v h=>by
  rcases bR h with ⟨i,t,rfl,rfl⟩ | ⟨x,t,rfl,rfl⟩ <;> rfl
 pyHash:=fun hv h=>by
  rcases bR hv with ⟨i,t,rfl,rfl⟩ | ⟨x,t,rfl,rfl⟩
  ·exact wpAny_pyHash_int h
  ·exact wpAny_pyHash_str h
 eqBool:=fun hu hv h=>by
  rcases bR hu with ⟨i,t,rfl,rfl⟩ | ⟨x,t,rfl,rfl⟩
  ·rcases bR hv with ⟨j,u,rfl,rfl⟩ | ⟨y,u,rfl,rfl⟩
   ·rw [J1] at h;exact wpAny_eqBool_int h
   ·rw [J3] at h;exact SeqAt.EqAt.int_str i t y u _ _ _ _ h
  ·rcases bR hv with ⟨j,u,rfl,rfl⟩ | ⟨y,u,rfl,rfl⟩
   ·rw [J4] at h;exact SeqAt.EqAt.str_int x t j u _ _ _ _ h
   ·rw [J2] at h;exact wpAny_eqBool_str h
 «strs» :=fun k x t v h=>by
  rcases bR h with ⟨i,u,rfl,e⟩ | ⟨y,u,rfl,e⟩
  ·exact nomatch e
  ·injection e with e1 _
   subst e1
   cases v <;> rfl
end L2
namespace L2
open PySem PySem.Spec PyProof.Rows
inductive V where
 | aX | bl (b:Bool) | int (i:Int) | str (x:Str) | DZ (b:Array UInt8) | Mw (b:UInt64) | ref (a:Addr) | ty (n:String)
 deriving DecidableEq
def RelV:V→Value→Prop
 | .aX,u=>u=Value.none
 | .bl b,u=>u=Value.bool b
 | .int i,u=> ∃ t,u=Value.int i t
 | .str x,u=> ∃ t,u=Value.str x t
 | .DZ b,u=> ∃ t,u=Value.bytes b t
 | .Mw b,u=> ∃ t,u=Value.float b t
 | .ref a,u=>u=Value.ref a
 | .ty n,u=>u=Value.type n
abbrev Vals:List V→List Value→Prop:=Paired RelV
theorem Vals.length {xs:List V} {us:List Value} (r:Vals xs us):xs.length=us.length:=Paired.length r
theorem Vals.get:∀ {xs:List V} {us:List Value} {i:Nat} {x:V},Vals xs us→xs[i]?=some x→∃ u,us[i]?=some u∧RelV x u
 | _,_,_,_,.nil,e=>by simp at e
 | _,_,0,_,.cons r _,e=>by simp at e;subst e;exact ⟨_,rfl,r⟩
 | _,_,i+1,x,.cons _ t,e=>by
   obtain ⟨u,h1,h2⟩:=Vals.get (i:=i) (x:=x) t (by simpa using e)
   exact ⟨u,by simpa using h1,h2⟩
theorem Vals.append:∀ {xs ys:List V} {us ws:List Value},Vals xs us→Vals ys ws→Vals (xs ++ ys) (us ++ ws)
 | _,_,_,_,.nil,s=>s
 | _,_,_,_,.cons r t,s=> .cons r (Vals.append t s)
theorem Vals.take:∀ {xs:List V} {us:List Value} (n:Nat),Vals xs us→Vals (xs.take n) (us.take n)
 | _,_,0,_=> .nil
 | _,_,_+1,.nil=> .nil
 | _,_,n+1,.cons r t=> .cons r (Vals.take n t)
theorem Vals.drop:∀ {xs:List V} {us:List Value} (n:Nat),Vals xs us→Vals (xs.drop n) (us.drop n)
 | _,_,0,r=>r
 | _,_,_+1,.nil=> .nil
 | _,_,n+1,.cons _ t=>Vals.drop n t
def J5:Option V→Option Value→Prop
 | some v,some u=>RelV v u
 | none,none=>True
 | _,_=>False
def KV {κ:Type}:List (κ ×V)→List (κ ×Value)→Prop:=Paired fun (p:κ ×V) (q:κ ×Value)=>p.1=q.1∧RelV p.2 q.2
def kV:Key→V
 | .inl i=> .int i
 | .inr x=> .str x
inductive HO where
 | lst (xs:List V)
 | tup (xs:List V)
 | dK (kvs:List (Key ×V)) | dT (kvs:List (List Key ×V))
 | set (S:Int→Bool) (n:Nat)
 | ins (C dx:Addr) (fs:List (Str ×V))
 | own (x:Addr)
 | xd (fs:List (Str ×V))
 | met (f x:Addr)
 | P1 (lo hi:Int)
 | mP (o:Obj) (u:HO)
 | J6 (ps:Array Value)
 | ext (φ:Heap→Prop)
abbrev Hp:=Addr→Option HO
def upd (H:Hp) (a:Addr) (o:HO):Hp:=fun b=>if b=a then some o else H b
theorem cF {H:Hp} {a:Addr} {o:HO}:upd H a o a=some o:=by unfold upd;rw [if_pos rfl]
theorem aQ {H:Hp} {a b:Addr} {o:HO} (h:b≠a):upd H a o b=H b:=by unfold upd;rw [if_neg h]
theorem Bb {H:Hp} {a b:Addr} {o u:HO} (h:H a=some o) (h':H b=some u) (d:o≠u):a≠b:=by
 intro e;subst e;rw [h] at h';exact d (Option.some.inj h')
theorem bC {H:Hp} {a b:Addr} {o:HO} (h:H a=some o) (h':H b=none):a≠b:=by
 intro e;subst e;rw [h] at h';cases h'
section
variable (P:Program) (w:World)
def cL (H:Hp) (h:Heap) (a:Addr):HO→Prop
 | .lst xs=>xs.length≤sizeLine∧∃ (its:List Value) (n:Nat),Vals xs its∧h.get? a=some { cls:= .type "list",data:= .seq its.toArray n }
 | .tup xs=>xs.length≤sizeLine∧∃ its:List Value,Vals xs its∧IsTup h a its.toArray
 | .dK kvs=>kvs.length≤sizeLine∧(a == sysModules)=false∧∃ vs,KV kvs vs∧h.DictOf (Ba P w) a vs
 | .dT kvs=>kvs.length≤sizeLine∧(a == sysModules)=false∧∃ xs:List (List Key ×Addr ×Value),
  Paired (fun (p:List Key ×V) (q:List Key ×Addr ×Value)=>p.1=q.1∧H q.2.1=some (.tup (p.1.map kV))∧RelV p.2 q.2.2) kvs xs∧
  ∃ o es ep,h.get? a=some o∧o.ExactDict∧o.data= .dict es ep∧es.toList=xs.map (entryOfKey (tupleKind (Ba P w)))∧(xs.map (·.1)).Nodup
 | .set S n=>h.SetOf (intKind P w) a S n
 | .ins C dx fs=>H dx=some (.own a)∧fs.length≤1000∧dx≠a∧h.get? a=some (PySem.W.instObj C dx)∧
  ∃ mA,h.Ns1 dx mA∧(∀ f,J5 (fs.lookup f) (mA f))∧PySem.Within mA (fs.map (·.1))
 | .own _=> ∃ o,h.get? a=some o
 | .xd fs=> ∃ mA,h.Ns1 a mA∧∀ f,J5 (fs.lookup f) (mA f)
 | .P1 lo hi=> ∃ t u v,h.get? a=some { cls:= .type "range",data:= .fields #[.int lo t,.int hi u,.int 1 v] }
 | .mP o u=>h.get? a=some o∧cL H h a u
 | .J6 ps=>h.get? a=some { cls:= .none,data:= .fields ps }
 | .met f x=>h.get? a=some (PySem.W.methodObj (.ref f) (.ref x))
 | .ext φ=>φ h∧(∃ o,h.get? a=some o)∧∀ h1 h2:Heap,φ h1→(∀ o,h1.get? a=some o→h2.get? a=some o)→φ h2
def i7 (H:Hp) (h:Heap):Prop:= ∀ a o,H a=some o→cL P w H h a o
end
section
variable {P:Program} {w:World} {H H':Hp} {h h':Heap} {a:Addr} {o:HO}
theorem cL.lt (x:cL P w H h a o):a < h.objs.size:=by
 cases o with
 | lst xs=>obtain ⟨_,_,_,_,e⟩:=x;exact Heap.lt_size e
 | tup xs=>obtain ⟨_,_,_,p⟩:=x;exact p.lt
 | dK kvs=>obtain ⟨_,_,_,_,o,_,_,e,_⟩:=x;exact Heap.lt_size e
 | dT kvs=>obtain ⟨_,_,_,_,o,_,_,e,_⟩:=x;exact Heap.lt_size e
 | set S n=>obtain ⟨o,_,_,_,e,_⟩:=x;exact Heap.lt_size e
 | ins C dx fs=>obtain ⟨_,_,_,e,_⟩:=x;exact Heap.lt_size e
 | own y=>obtain ⟨_,e⟩:=x;exact Heap.lt_size e
 | xd fs=>obtain ⟨_,⟨_,_,_,e,_⟩,_⟩:=x;exact Heap.lt_size e
 | P1 lo hi=>obtain ⟨_,_,_,e⟩:=x;exact Heap.lt_size e
 | mP ob u=>obtain ⟨e,_⟩:=x;exact Heap.lt_size e
 | J6 ps=>exact Heap.lt_size (show h.get? a=some _ from x)
 | met f y=>exact Heap.lt_size (show h.get? a=some _ from x)
 | ext φ=>obtain ⟨_,⟨_,e⟩,_⟩:=x;exact Heap.lt_size e
theorem Paired.G7 {α β:Type} {F G:α→β→Prop}:∀ {l₁:List α} {l₂:List β},Paired F l₁ l₂→(∀ a b,F a b→G a b)→Paired G l₁ l₂
 | _,_,.nil,_=> .nil
 | _,_,.cons r t,f=> .cons (f _ _ r) (Paired.G7 t f)
theorem cL.stay (x:cL P w H h a o) (k:∀ b u,(b=a∨H b=some (.own a))→h.get? b=some u→h'.get? b=some u)
 (ho:∀ b,H b=some (.own a)→H' b=some (.own a)) (ht:∀ b xs,H b=some (.tup xs)→H' b=some (.tup xs)):cL P w H' h' a o:=by
 induction o with
 | lst xs=>obtain ⟨z,its,n,r,e⟩:=x;exact ⟨z,its,n,r,k _ _ (.inl rfl) e⟩
 | tup xs=>obtain ⟨z,its,r,ob,e,c⟩:=x;exact ⟨z,its,r,ob,k _ _ (.inl rfl) e,c⟩
 | dK kvs=>obtain ⟨z,y,vs,r,ob,es,ep,e,c⟩:=x;exact ⟨z,y,vs,r,ob,es,ep,k _ _ (.inl rfl) e,c⟩
 | dT kvs=>
   obtain ⟨z,y,xs,r,ob,es,ep,e,c⟩:=x
   exact ⟨z,y,xs,Paired.G7 r fun p q z=>⟨z.1,ht _ _ z.2.1,z.2.2⟩,ob,es,ep,k _ _ (.inl rfl) e,c⟩
 | set S n=>obtain ⟨ob,es,ep,t,e,c⟩:=x;exact ⟨ob,es,ep,t,k _ _ (.inl rfl) e,c⟩
 | ins C dx fs=>
   obtain ⟨d,z,ne,e,mA,⟨od,es,ep,e2,c⟩,r⟩:=x
   exact ⟨ho _ d,z,ne,k _ _ (.inl rfl) e,mA,⟨od,es,ep,k _ _ (.inr d) e2,c⟩,r⟩
 | own y=>obtain ⟨ob,e⟩:=x;exact ⟨ob,k _ _ (.inl rfl) e⟩
 | xd fs=>obtain ⟨mA,⟨od,es,ep,e,c⟩,r⟩:=x;exact ⟨mA,⟨od,es,ep,k _ _ (.inl rfl) e,c⟩,r⟩
 | P1 lo hi=>obtain ⟨t,u,v,e⟩:=x;exact ⟨t,u,v,k _ _ (.inl rfl) e⟩
 | mP ob u ih=>obtain ⟨e,q⟩:=x;exact ⟨k _ _ (.inl rfl) e,ih q⟩
 | J6 ps=>
   have e:h.get? a=some { cls:= .none,data:= .fields ps }:=x
   show h'.get? a=some { cls:= .none,data:= .fields ps }
   exact k a _ (.inl rfl) e
 | met f y=>
   have e:h.get? a=some (PySem.W.methodObj (.ref f) (.ref y)):=x
   show h'.get? a=some (PySem.W.methodObj (.ref f) (.ref y))
   exact k a _ (.inl rfl) e
 | ext φ=>obtain ⟨p,⟨o,e⟩,st⟩:=x;exact ⟨st _ _ p fun o q=>k _ _ (.inl rfl) q,⟨o,k _ _ (.inl rfl) e⟩,st⟩
theorem i7.lt (x:i7 P w H h) (e:H a=some o):a < h.objs.size:=(x a o e).lt
theorem i7.fresh (x:i7 P w H h) (e:h.objs.size≤a):H a=none:=by
 cases q:H a with
 | none=>rfl
 | some u=>exact absurd (Nat.lt_of_lt_of_le (x.lt q) e) (Nat.lt_irrefl _)
theorem i7.kept (x:i7 P w H h) (k:∀ b u,h.get? b=some u→h'.get? b=some u):i7 P w H h':=fun a o e=>
 (x a o e).stay (fun b u _ q=>k b u q) (fun _ q=>q) fun _ _ q=>q
theorem i7.laid (x:i7 P w H h) (k:∀ b u,h.get? b=some u→h'.get? b=some u) (hp:h.objs.size≤a) (new:cL P w (upd H a o) h' a o):i7 P w (upd H a o) h':=fun b u e=>by
 have hn:=x.fresh hp
 by_cases hb:b=a
 ·subst hb;rw [cF] at e;cases e;exact new
 ·rw [aQ hb] at e
  exact (x b u e).stay (fun c v _ q=>k c v q) (fun c q=>by rw [aQ (bC q hn)];exact q) fun c xs q=>by rw [aQ (bC q hn)];exact q
end
def Rd (H:Hp) (a:Addr) (u:HO):Prop:=H a=some u∨∃ o,H a=some (.mP o u)
theorem Rd.ok {P:Program} {w:World} {H:Hp} {h:Heap} {a:Addr} {u:HO} (r:Rd H a u) (x:i7 P w H h):cL P w H h a u:=by
 rcases r with r | ⟨o,r⟩
 ·exact x a u r
 ·obtain ⟨_,q⟩:=x a _ r
  exact q
def Pg:Option HO→Prop
 | some (.lst _)=>True
 | some (.dK _)=>True
 | some (.dT _)=>True
 | some (.set _ _)=>True
 | some (.ins _ _ _)=>True
 | some (.ext _)=>True
 | _=>False
section
variable {P:Program} {w:World} {H:Hp} {h h':Heap} {x e:Addr} {o':HO}
theorem i7.write (ok:i7 P w H h) (mu:Pg (H x)) (he:e=x∨H e=some (.own x)) (k:∀ b u,b≠e→h.get? b=some u→h'.get? b=some u) (Mx:∃ u,h'.get? e=some u)
 (new:cL P w (upd H x o') h' x o'):i7 P w (upd H x o') h':=fun b u q=>by
 have MN:∀ c y,H c=some (.own y)→c≠x:=fun c y r z=>by subst z;rw [r] at mu;exact mu
 have P4:∀ c xs,H c=some (.tup xs)→c≠x:=fun c xs r z=>by subst z;rw [r] at mu;exact mu
 by_cases hb:b=x
 ·subst hb;rw [cF] at q;cases q;exact new
 ·rw [aQ hb] at q
  by_cases J7:b=e
  ·have q':H b=some (.own x):=by
    rcases he with z | z
    ·exact absurd (J7.trans z) hb
    ·rw [J7];exact z
   rw [q] at q';cases q'
   obtain ⟨v,hv⟩:=Mx
   exact ⟨v,by rw [J7];exact hv⟩
  ·refine (ok b u q).stay (fun c v hc r=>k c v ?_ r) (fun c r=>by rw [aQ (MN c b r)];exact r) fun c xs r=>by rw [aQ (P4 c xs r)];exact r
   rcases hc with rfl | hc
   ·exact J7
   ·rintro rfl
    rcases he with z | z
    ·exact MN c b hc z
    ·rw [hc] at z;cases z;exact hb rfl
end
structure Un (fs ex:List Addr) (H H':Hp) (h h':Heap):Prop where
 keep:∀ b o,h.get? b=some o→H b=none→b∉fs→b∉ex→h'.get? b=some o
 slot:∀ b o,h.get? b=some o→H b=none→b∈fs→b∉ex→∃ sl,h'.get? b=some { o with slots:=sl }
 free:∀ b o,h.get? b=some o→H b=none→b∉ex→H' b=none
 there:∀ b o,h.get? b=some o→b∉ex→∃ o',h'.get? b=some o'
 tups:∀ b xs,H b=some (.tup xs)→H' b=some (.tup xs)
 vD:∀ b o u,H b=some (.mP o u)→H' b=some (.mP o u)
 xR:∀ b ps,H b=some (.J6 ps)→∃ more,H' b=some (.J6 (ps ++ more))
section
variable {fs fs' ex ex':List Addr} {H H1 H2:Hp} {h h1 h2 h':Heap} {a x e:Addr} {o:HO}
theorem Un.any (u:Un fs ex H H1 h h1) {b:Addr} {ob:Obj} (q:h.get? b=some ob) (n:H b=none) (hx:b∉ex):∃ sl,h1.get? b=some { ob with slots:=sl }:=by
 by_cases hb:b∈fs
 ·exact u.slot b ob q n hb hx
 ·exact ⟨ob.slots,u.keep b ob q n hb hx⟩
theorem Un.kept (k:∀ b u,h.get? b=some u→h'.get? b=some u):Un fs ex H H h h':=
 ⟨fun b ob q _ _ _=>k b ob q,fun b ob q _ _ _=>⟨ob.slots,k b ob q⟩,fun _ _ _ n _=>n,fun b ob q _=>⟨ob,k b ob q⟩,fun _ _ q=>q,fun _ _ _ q=>q,fun _ ps q=>⟨#[],by rw [q];simp⟩⟩
theorem Un.refl:Un fs ex H H h h:=Un.kept fun _ _ q=>q
theorem Un.laid (k:∀ b u,h.get? b=some u→h'.get? b=some u) (hp:h.objs.size≤a) (hn:H a=none):Un fs ex H (upd H a o) h h' where
 keep:=fun b u q _ _ _=>k b u q
 slot:=fun b u q _ _ _=>⟨u.slots,k b u q⟩
 free:=fun b u q n _=>by rw [aQ (Nat.ne_of_lt (Nat.lt_of_lt_of_le (Heap.lt_size q) hp))];exact n
 there:=fun b u q _=>⟨u,k b u q⟩
 tups:=fun b xs q=>by rw [aQ (bC q hn)];exact q
 vD:=fun b u xs q=>by rw [aQ (bC q hn)];exact q
 xR:=fun b ps q=>⟨#[],by rw [aQ (bC q hn),q];simp⟩
theorem Un.write (mu:Pg (H x)) (he:e=x∨H e=some (.own x)) (k:∀ b u,b≠e→h.get? b=some u→h'.get? b=some u) (Mx:∃ u,h'.get? e=some u):Un fs ex H (upd H x o) h h':=by
 have hx:∀ b,H b=none→b≠x:=fun b n z=>by subst z;rw [n] at mu;exact mu
 have hb:∀ b,H b=none→b≠e:=fun b n z=>by
  subst z
  rcases he with r | r
  ·exact hx b n r
  ·rw [n] at r;cases r
 have hm:∀ b u,H b=some u→¬ Pg (some u)→b≠x:=fun b u q nm z=>by subst z;rw [q] at mu;exact nm mu
 refine ⟨fun b u q n _ _=>k b u (hb b n) q,fun b u q n _ _=>⟨u.slots,k b u (hb b n) q⟩,fun b u q n _=>by rw [aQ (hx b n)];exact n,fun b u q _=>?_,
  fun b xs q=>by rw [aQ (hm b _ q fun z=>z)];exact q,fun b u xs q=>by rw [aQ (hm b _ q fun z=>z)];exact q,fun b ps q=>⟨#[],by rw [aQ (hm b _ q fun z=>z),q];simp⟩⟩
 by_cases J7:b=e
 ·subst J7;exact Mx
 ·exact ⟨u,k b u J7 q⟩
end
def Ph (h:Heap) (H:Hp):List Addr:=(List.range h.objs.size).filter fun a=>(H a).isSome
def vE (h:Heap) (H:Hp):Heap:=PySem.W.hideAll h (Ph h H)
theorem Cp (h:Heap) (H:Hp):(vE h H).objs.size=h.objs.size:=PySem.W.hideAll_size _ _
theorem D0 {h:Heap} {H:Hp} {b:Addr} {o:Obj} (e:h.get? b=some o) (n:H b=none):(vE h H).get? b=some o:=
 PySem.W.hideAll_get _ e fun hm=>by
  have q:(H b).isSome=true:=(List.mem_filter.mp hm).2
  rw [n] at q;simp at q
theorem G8 {h:Heap} {H:Hp} {b:Addr} {o:Obj} (e:(vE h H).get? b=some o):h.get? b=some o∧H b=none:=by
 have e':h.get? b=some o:=PySem.W.of_hideAll (Ph h H) e
 refine ⟨e',?_⟩
 cases q:H b with
 | none=>rfl
 | some x=>
   have hm:b∈Ph h H:=List.mem_filter.mpr ⟨List.mem_range.mpr (Heap.lt_size e'),by simp [q]⟩
   have z:(vE h H).get? b=none:=PySem.W.hideAll_none (Ph h H) hm
   rw [z] at e;cases e
def G9 (g h:Heap) (L:Addr):List (Addr ×Obj):=(List.range h.objs.size).filterMap fun a=>if a=L∨(g.get? a).isSome=true then none else (h.get? a).map fun o=>(a,o)
def rest (g h:Heap) (L d:Addr):List (Addr ×Obj):=(G9 g h L).filter fun p=>decide (p.1≠d)
end L2
namespace L2
open PySem PySem.Spec PyProof.Rows
structure Mod (K:PySem.W.Frag) (mg:Str→Option Value) (base:Heap):Prop where
 Jt:K.In base
 glob:base.Ns mainGlobals mg
 blt:∃ mb,base.Ns builtinsNs mb∧∀ x:Str,x≠"__name__"→mb x=bootBuiltins x
 nolimit:base.NoLimit
structure Cx where
 prog:Program
 w:World
 K:PySem.W.Frag
 mg:Str→Option Value
 base:Heap
 A:Around
 N:List Str
 s₀:Shared
 H₀:Hp
 env:Env
 outer:List Env
 stack:List Env
 ex:List Addr
 fn:Str→Bool
 calm:Bool
 pn:List (Addr ×Obj)
 xe:Value→Shared→Prop
def frs (l:List Env):List Addr:=l.filterMap (·.frame)
abbrev Cx.fs (X:Cx):List Addr:=frs X.outer
def P5 (sc:Scope) (x:Str):Prop:=sc.names.lookup x=some .local∨sc.names.lookup x=some .cell∨sc.names.lookup x=some .free
def Loc (sc:Scope) (x:Str):Prop:=sc.names.lookup x=some .local∨sc.names.lookup x=some .cell
def Look (env:Env) (h:Heap) (m:Str→Option Value) (x:Str) (u:Value):Prop:=
 (env.kindOf x=some .local∧m x=some u)∨((env.kindOf x=some .cell∨env.kindOf x=some .free)∧∃ c,env.cells.lookup x=some c∧h.IsCell c (some u))
structure Cx.Ok (X:Cx):Prop where
 mod:Mod X.K X.mg X.base
 kind:X.env.scope.kind= .function
 glob:X.env.globals=mainGlobals
 blt:X.env.builtins=builtinsNs
 above:X.s₀.heap.objs.size≤X.env.locals
 inj:∀ x y c,X.env.cells.lookup x=some c→X.env.cells.lookup y=some c→x=y
 has:∀ x,(X.env.kindOf x=some .cell∨X.env.kindOf x=some .free)→∃ c,X.env.cells.lookup x=some c
 My:∀ x c,X.fn x=true→X.env.cells.lookup x=some c→X.s₀.heap.objs.size≤c
 hd:X.calm=true→X.A.handled=none
 frames:X.A.frames=some X.stack
 stk:X.stack=X.outer∨(X.stack=X.env :: X.outer∧X.env.frame=some X.env.locals)
 MP:∀ b∈X.ex,b≠X.env.locals∧∀ x c,X.env.cells.lookup x=some c→c≠b
 bs:∀ b o,X.base.get? b=some o→X.s₀.heap.get? b=some o∧X.H₀ b=none
 Ju:X.base.objs.size≤X.s₀.heap.objs.size
 Cq:∀ b o,X.base.get? b=some o→b∉X.ex
 Cr:∀ b∈X.ex,b∉X.fs
 qb:X.s₀.heap.FunFrames X.base X.outer
 J8:∀ b∈X.fs,X.H₀ b=none
structure Inv (X:Cx) (pins:List (Addr ×Obj)) (σ:List (Option V)) (H:Hp) (s:Shared):Prop where
 ok:X.Ok
 os:s.os=X.s₀.os
 bare:AllBare s.gens
 base:Un X.fs X.ex X.H₀ H X.s₀.heap s.heap
 loc:∃ m,s.heap.Ns X.env.locals m∧∀ (i:Nat) (x:Str) (v:V),X.N[i]?=some x→σ[i]?=some (some v)→P5 X.env.scope x→∃ u,RelV v u∧Look X.env s.heap m x u
 cell:∀ x c,X.env.cells.lookup x=some c→∃ v,s.heap.IsCell c v
 free:H X.env.locals=none
 lG:∀ x c,X.env.cells.lookup x=some c→H c=none
 pin:∀ p∈X.pn ++ pins,s.heap.get? p.1=some p.2∧H p.1=none∧p.1≠X.env.locals∧p.1∉X.fs∧∀ v,p.2.data≠ .cell v
 hok:i7 X.prog X.w H s.heap
 len:σ.length=X.N.length
section
variable {X:Cx} {pins:List (Addr ×Obj)} {σ:List (Option V)} {H H':Hp} {s:Shared} {h':Heap}
theorem Cx.Ok.P6 (ok:X.Ok) {b:Addr} {o:Obj} (e:X.base.get? b=some o):b∉X.fs:=fun hb=>by
 have:=(ok.qb.mem hb).1
 rw [e] at this;cases this
theorem Inv.bs (I:Inv X pins σ H s):∀ b o,X.base.get? b=some o→s.heap.get? b=some o∧H b=none:=fun b o e=>
 ⟨I.base.keep b o (I.ok.bs b o e).1 (I.ok.bs b o e).2 (I.ok.P6 e) (I.ok.Cq b o e),I.base.free b o (I.ok.bs b o e).1 (I.ok.bs b o e).2 (I.ok.Cq b o e)⟩
theorem Inv.bk (I:Inv X pins σ H s):∀ b o,X.base.get? b=some o→s.heap.get? b=some o:=fun b o e=>(I.bs b o e).1
theorem Inv.mod (I:Inv X pins σ H s):Mod X.K X.mg X.base:=I.ok.mod
theorem Inv.xH (I:Inv X pins σ H s):X.K.In s.heap:=I.ok.mod.Jt.keeps I.bk
theorem Inv.lt (I:Inv X pins σ H s):X.env.locals < s.heap.objs.size:=let ⟨_,hn,_⟩:=I.loc;hn.lt
theorem Inv.sz (I:Inv X pins σ H s):X.s₀.heap.objs.size≤s.heap.objs.size:=Nat.le_trans I.ok.above (Nat.le_of_lt I.lt)
theorem Inv.P7 (I:Inv X pins σ H s) {a:Addr} (h:s.heap.objs.size≤a):a∉X.fs:=fun hb=>by
 obtain ⟨_,o,ho,_⟩:=I.ok.qb.mem hb
 exact absurd (Nat.lt_of_lt_of_le (Heap.lt_size ho) (Nat.le_trans I.sz h)) (Nat.lt_irrefl _)
theorem Inv.J9 (I:Inv X pins σ H s):∀ x c,X.env.cells.lookup x=some c→c≠X.env.locals:=fun x c e z=>by
 obtain ⟨v,o,ho,hd⟩:=I.cell x c e
 obtain ⟨m,⟨o',es,ep,ho',hd',_⟩,_⟩:=I.loc
 rw [z,ho'] at ho;cases ho;rw [hd'] at hd;cases hd
theorem Inv.qb (I:Inv X pins σ H s):s.heap.FunFrames X.base X.outer:=by
 have all:∀ (l:List Env),(∀ b∈frs l,b∈X.fs)→X.s₀.heap.FunFrames X.base l→s.heap.FunFrames X.base l:=by
  intro l
  induction l with
  | nil=>intro _ _;trivial
  | cons env r ih=>
    intro hs hl
    obtain ⟨hk,⟨L,o,hf,hn,ho,hd⟩,hr⟩:=hl
    have hL:L∈X.fs:=hs L (by unfold frs;rw [List.filterMap_cons,hf];exact List.mem_cons_self)
    obtain ⟨sl,e⟩:=I.base.slot L o ho (I.ok.J8 L hL) hL fun z=>I.ok.Cr L z hL
    exact ⟨hk,⟨L,_,hf,hn,e,hd⟩,ih (fun b hb=>hs b (by unfold frs;rw [List.filterMap_cons,hf];exact List.mem_cons_of_mem _ hb)) hr⟩
 exact all X.outer (fun _ hb=>hb) I.ok.qb
theorem Inv.stack (I:Inv X pins σ H s):s.heap.FunFrames X.base X.stack:=by
 rcases I.ok.stk with e | ⟨e,hf⟩
 ·rw [e];exact I.qb
 ·rw [e]
  obtain ⟨m,hn,_⟩:=I.loc
  refine .cons (by rw [I.ok.kind];decide) hf hn ?_ I.qb
  exact Heap.get?_none_of_le (Nat.le_trans I.ok.Ju I.ok.above)
theorem Inv.zN (I:Inv X pins σ H s):∀ b∈frs X.stack,b∈X.env.locals :: X.fs:=fun b hb=>by
 rcases I.ok.stk with e | ⟨e,hf⟩
 ·rw [e] at hb;exact List.mem_cons_of_mem _ hb
 ·rw [e] at hb
  unfold frs at hb
  rw [List.filterMap_cons,hf] at hb
  exact hb
theorem Inv.Bc (I:Inv X pins σ H s):∀ b∈frs X.stack,H b=none:=fun b hb=>by
 rcases List.mem_cons.mp (I.zN b hb) with e | hb
 ·rw [e];exact I.free
 ·obtain ⟨_,o,ho,_⟩:=I.ok.qb.mem hb
  exact I.base.free b o ho (I.ok.J8 b hb) fun z=>I.ok.Cr b z hb
theorem Inv.step {g':Array GenState} {t':Nat} {d':Drawn} {ch:List Addr} (I:Inv X pins σ H s)
 (hch:∀ b∈ch,(b∈X.ex∨X.s₀.heap.objs.size≤b)∧b≠X.env.locals∧(∀ x c,X.env.cells.lookup x=some c→c≠b)∧∀ p∈X.pn ++ pins,p.1≠b)
 (keep:∀ b o,b≠X.env.locals→b∉X.fs→b∉ch→s.heap.get? b=some o→H b=none→h'.get? b=some o)
 (slot:∀ b o,b≠X.env.locals→b∈X.fs→b∉ch→s.heap.get? b=some o→H b=none→∃ sl,h'.get? b=some { o with slots:=sl }) (free:∀ b o,b∉ch→s.heap.get? b=some o→H b=none→H' b=none)
 (there:∀ b o,b∉ch→s.heap.get? b=some o→∃ o',h'.get? b=some o')
 (tups:∀ b xs,H b=some (.tup xs)→H' b=some (.tup xs)) (vD:∀ b o u,H b=some (.mP o u)→H' b=some (.mP o u)) (xR:∀ b ps,H b=some (.J6 ps)→∃ more,H' b=some (.J6 (ps ++ more)))
 (ns:∀ m,s.heap.Ns X.env.locals m→h'.Ns X.env.locals m) (hok:i7 X.prog X.w H' h') (hg:AllBare g') :
 Inv X pins σ H' { s with heap:=h',gens:=g',drawn:=d',toks:=t' }:=by
 have Sq:∀ b o,X.s₀.heap.get? b=some o→b≠X.env.locals:=fun b o e=>Nat.ne_of_lt (Nat.lt_of_lt_of_le (Heap.lt_size e) I.ok.above)
 have Pj:∀ b o,X.s₀.heap.get? b=some o→b∉X.ex→b∉ch:=fun b o e hx hb=>by
  rcases (hch b hb).1 with z | z
  ·exact hx z
  ·exact absurd (Nat.lt_of_lt_of_le (Heap.lt_size e) z) (Nat.lt_irrefl _)
 have cellK:∀ x c,X.env.cells.lookup x=some c→∀ v,s.heap.IsCell c v→h'.IsCell c v:=fun x c e v ⟨o,ho,hd⟩=>by
  have MQ:c∉ch:=fun z=>(hch c z).2.2.1 x c e rfl
  by_cases hc:c∈X.fs
  ·obtain ⟨sl,q⟩:=slot c o (I.J9 x c e) hc MQ ho (I.lG x c e)
   exact ⟨_,q,hd⟩
  ·exact ⟨o,keep c o (I.J9 x c e) hc MQ ho (I.lG x c e),hd⟩
 refine ⟨I.ok,I.os,hg,⟨fun b o e n hb hx=>?_,fun b o e n hb hx=>?_,fun b o e n hx=>?_,fun b o e hx=>?_,fun b xs e=>tups b xs (I.base.tups b xs e),fun b o xs e=>vD b o xs (I.base.vD b o xs e),fun b ps e=>?_⟩,?_,fun x c e=>?_,?_,fun x c e=>?_,fun p hp=>?_,hok,I.len⟩
 ·exact keep b o (Sq b o e) hb (Pj b o e hx) (I.base.keep b o e n hb hx) (I.base.free b o e n hx)
 ·obtain ⟨sl,e1⟩:=I.base.slot b o e n hb hx
  obtain ⟨TU,e2⟩:=slot b _ (Sq b o e) hb (Pj b o e hx) e1 (I.base.free b o e n hx)
  exact ⟨TU,e2⟩
 ·obtain ⟨o',e1⟩:=I.base.there b o e hx
  exact free b o' (Pj b o e hx) e1 (I.base.free b o e n hx)
 ·obtain ⟨o',e1⟩:=I.base.there b o e hx
  exact there b o' (Pj b o e hx) e1
 ·obtain ⟨m1,e1⟩:=I.base.xR b ps e
  obtain ⟨m2,e2⟩:=xR b _ e1
  exact ⟨m1 ++ m2,by rw [e2,Array.append_assoc]⟩
 ·obtain ⟨m,hn,hl⟩:=I.loc
  refine ⟨m,ns m hn,fun i x v e1 e2 e3=>?_⟩
  obtain ⟨u,r,l⟩:=hl i x v e1 e2 e3
  refine ⟨u,r,?_⟩
  rcases l with l | ⟨k,c,e,z⟩
  ·exact .inl l
  ·exact .inr ⟨k,c,e,cellK x c e _ z⟩
 ·obtain ⟨v,z⟩:=I.cell x c e
  exact ⟨v,cellK x c e v z⟩
 ·obtain ⟨m,⟨o,_,_,ho,_⟩,_⟩:=I.loc
  exact free _ o (fun z=>(hch _ z).2.1 rfl) ho I.free
 ·obtain ⟨v,o,ho,hd⟩:=I.cell x c e
  exact free c o (fun z=>(hch c z).2.2.1 x c e rfl) ho (I.lG x c e)
 ·obtain ⟨e,n,ne,nf,d⟩:=I.pin p hp
  have MQ:p.1∉ch:=fun z=>(hch p.1 z).2.2.2 p hp rfl
  exact ⟨keep p.1 p.2 ne nf MQ e n,free p.1 p.2 MQ e n,ne,nf,d⟩
theorem Inv.un {t':Nat} (I:Inv X pins σ H s) (u:Un X.fs [] H H' s.heap h') (hok:i7 X.prog X.w H' h'):Inv X pins σ H' { s with heap:=h',toks:=t' }:=by
 obtain ⟨m,⟨o,es,ep,ho,r⟩,_⟩:=id I.loc
 obtain ⟨sl,hL⟩:=u.any ho I.free (by simp)
 exact I.step (g':=s.gens) (d':=s.drawn) (ch:=[]) (fun _ z=>nomatch z) (fun b o _ hb _ e n=>u.keep b o e n hb (by simp)) (fun b o _ hb _ e n=>u.slot b o e n hb (by simp)) (fun b o _ e n=>u.free b o e n (by simp)) (fun b o _ e=>u.there b o e (by simp)) u.tups u.vD u.xR (fun m' hm=>by
  obtain ⟨o',es',Ka,ho',r'⟩:=hm
  rw [ho] at ho';cases ho'
  exact ⟨_,es',Ka,hL,r'⟩) hok I.bare
theorem Inv.call {g':Array GenState} {t':Nat} {d':Drawn} {ch:List Addr} (I:Inv X pins σ H s) (u:Un (frs X.stack) ch H H' s.heap h') (hok:i7 X.prog X.w H' h') (hg:AllBare g')
 (hch:∀ b∈ch,(b∈X.ex∨X.s₀.heap.objs.size≤b)∧b≠X.env.locals∧(∀ x c,X.env.cells.lookup x=some c→c≠b)∧∀ p∈X.pn ++ pins,p.1≠b) :
 Inv X pins σ H' { s with heap:=h',gens:=g',drawn:=d',toks:=t' }:=by
 obtain ⟨m,⟨o,es,ep,ho,r⟩,_⟩:=id I.loc
 obtain ⟨sl,hL⟩:=u.any ho I.free fun z=>(hch _ z).2.1 rfl
 exact I.step (ch:=ch) hch (fun b o hL hb hc e n=>u.keep b o e n (fun z=>(List.mem_cons.mp (I.zN b z)).elim hL hb) hc) (fun b o _ _ hc e n=>u.any e n hc) (fun b o hc e n=>u.free b o e n hc) (fun b o hc e=>u.there b o e hc) u.tups u.vD u.xR (fun m' hm=>by
  obtain ⟨o',es',Ka,ho',r'⟩:=hm
  rw [ho] at ho';cases ho'
  exact ⟨_,es',Ka,hL,r'⟩) hok hg
theorem Inv.turned {t':Nat} {it:Addr} (I:Inv X pins σ H s) (k:∀ b o,b≠it→s.heap.get? b=some o→h'.get? b=some o) (hn:H it=none) (hL:it≠X.env.locals)
 (h1:it∈X.ex∨X.s₀.heap.objs.size≤it) (h2:∀ x c,X.env.cells.lookup x=some c→c≠it) (h3:∀ p∈X.pn ++ pins,p.1≠it):Inv X pins σ H { s with heap:=h',toks:=t' }:=by
 have MR:∀ b u,H b=some u→b≠it:=fun b u e z=>by rw [z,hn] at e;cases e
 refine I.step (g':=s.gens) (d':=s.drawn) (ch:=[it]) (fun b hb=>?_) (fun b o _ _ hc e _=>k b o (fun z=>hc (by simp [z])) e) (fun b o _ _ hc e _=>⟨o.slots,k b o (fun z=>hc (by simp [z])) e⟩) (fun _ _ _ _ n=>n)
  (fun b o hc e=>⟨o,k b o (fun z=>hc (by simp [z])) e⟩) (fun _ _ e=>e) (fun _ _ _ e=>e) (fun b ps e=>⟨#[],by rw [e];simp⟩) (fun m hm=>?_) (fun b u e=>?_) I.bare
 ·have e:b=it:=by simpa using hb
  subst e
  exact ⟨h1,hL,h2,h3⟩
 ·obtain ⟨o,es,ep,ho,r⟩:=hm
  exact ⟨o,es,ep,k _ o (Ne.symm hL) ho,r⟩
 ·refine (I.hok b u e).stay (fun c v hc q=>k c v ?_ q) (fun _ q=>q) fun _ _ q=>q
  rcases hc with z | z
  ·rw [z];exact MR b u e
  ·exact MR c _ z
theorem Inv.tok (I:Inv X pins σ H s) (t:Nat):Inv X pins σ H { s with toks:=t }:=I.un (h':=s.heap) (t':=t) Un.refl I.hok
theorem Inv.kept {t':Nat} (I:Inv X pins σ H s) (k:∀ b u,s.heap.get? b=some u→h'.get? b=some u):Inv X pins σ H { s with heap:=h',toks:=t' }:=I.un (Un.kept k) (I.hok.kept k)
theorem Inv.laid {a:Addr} {o:HO} {t':Nat} (I:Inv X pins σ H s) (k:∀ b u,s.heap.get? b=some u→h'.get? b=some u) (hp:s.heap.objs.size≤a) (new:cL X.prog X.w (upd H a o) h' a o) :
 Inv X pins σ (upd H a o) { s with heap:=h',toks:=t' }:=I.un (Un.laid k hp (I.hok.fresh hp)) (I.hok.laid k hp new)
theorem Inv.write {x e:Addr} {o:HO} {t':Nat} (I:Inv X pins σ H s) (mu:Pg (H x)) (he:e=x∨H e=some (.own x)) (k:∀ b u,b≠e→s.heap.get? b=some u→h'.get? b=some u) (Mx:∃ u,h'.get? e=some u)
 (new:cL X.prog X.w (upd H x o) h' x o):Inv X pins σ (upd H x o) { s with heap:=h',toks:=t' }:=I.un (Un.write mu he k Mx) (I.hok.write mu he k Mx new)
theorem Inv.qF {Jv:List (Addr ×Obj)} (I:Inv X pins σ H s) (h:∀ p∈Jv,s.heap.get? p.1=some p.2∧H p.1=none∧p.1≠X.env.locals∧p.1∉X.fs∧∀ v,p.2.data≠ .cell v):Inv X Jv σ H s:=
 ⟨I.ok,I.os,I.bare,I.base,I.loc,I.cell,I.free,I.lG,fun p hp=>(List.mem_append.mp hp).elim (fun z=>I.pin p (List.mem_append_left _ z)) (h p),I.hok,I.len⟩
theorem xS {N:List Str} (hN:N.Nodup) {i j:Nat} {x:Str} (a:N[i]?=some x) (b:N[j]?=some x):i=j:=by
 obtain ⟨h1,e1⟩:=List.getElem?_eq_some_iff.mp a
 obtain ⟨h2,e2⟩:=List.getElem?_eq_some_iff.mp b
 exact (List.getElem_inj hN).mp (e1.trans e2.symm)
theorem Cs {M:Model} {A:Around} {E:Value→Shared→Prop} {i:Nat} {x:Str} {v:V} {u:Value} {Q:Unit→Shared→Prop} (I:Inv X pins σ H s) (hN:X.N.Nodup) (hi:X.N[i]?=some x) (hx:Loc X.env.scope x) (r:RelV v u)
 (h:∀ s',Inv X pins (σ.set i (some v)) H s'→(∃ a,Heap.SameBut a s.heap s'.heap∧(a=X.env.locals∨X.env.cells.lookup x=some a))→Q () s') (hf:X.fn x=true∨X.env.scope.names.lookup x=some .local:=by first | exact .inl rfl | exact .inr rfl | assumption):wpAny M A (storeName X.env x u) Q E s:=by
 obtain ⟨m,hn,hl⟩:=id I.loc
 have hcls:(X.env.scope.kind == .class || (X.env.scope.kind == .module && X.env.locals !=X.env.globals))=false:=by rw [I.ok.kind];rfl
 have Ss:i < σ.length:=by rw [I.len];exact (List.getElem?_eq_some_iff.mp hi).1
 have J9:=I.J9
 have tracked:∀ {a:Addr} {h':Heap},(∃ o,s.heap.get? a=some o∧H a=none)→Heap.SameBut a s.heap h'→i7 X.prog X.w H h':=fun {a h'} ha hs b ob e=>by
  obtain ⟨_,_,hfree⟩:=ha
  refine (I.hok b ob e).stay (fun c w' hc q=>(hs.2 c ?_).trans q) (fun _ q=>q) fun _ _ q=>q
  rintro rfl
  rcases hc with rfl | hc
  ·rw [hfree] at e;cases e
  ·rw [hfree] at hc;cases hc
 rcases hx with hk | hk
 ·refine wpAny_storeName_local hk hn (fun h' hn' hs=>?_) hcls
  obtain ⟨oL,_,_,TV,_⟩:=id hn
  refine h _ ⟨I.ok,I.os,I.bare,⟨fun b o e n hb hx=>?_,fun b o e n hb hx=>?_,I.base.free,fun b o e hx=>?_,I.base.tups,I.base.vD,I.base.xR⟩,⟨_,hn',fun j y v' e1 e2 e3=>?_⟩,fun y c e=>?_,I.free,I.lG,fun p hp=>?_,tracked ⟨oL,TV,I.free⟩ hs,by simpa using I.len⟩ ⟨_,hs,.inl rfl⟩
  ·exact (hs.2 b (Nat.ne_of_lt (Nat.lt_of_lt_of_le (Heap.lt_size e) I.ok.above))).trans (I.base.keep b o e n hb hx)
  ·obtain ⟨sl,e1⟩:=I.base.slot b o e n hb hx
   exact ⟨sl,(hs.2 b (Nat.ne_of_lt (Nat.lt_of_lt_of_le (Heap.lt_size e) I.ok.above))).trans e1⟩
  ·obtain ⟨o',e1⟩:=I.base.there b o e hx
   exact ⟨o',(hs.2 b (Nat.ne_of_lt (Nat.lt_of_lt_of_le (Heap.lt_size e) I.ok.above))).trans e1⟩
  ·by_cases hj:j=i
   ·subst hj
    rw [hi] at e1;cases e1
    rw [List.getElem?_set_self Ss] at e2
    cases e2
    exact ⟨u,r,.inl ⟨hk,by simp⟩⟩
   ·rw [List.getElem?_set_ne (Ne.symm hj)] at e2
    obtain ⟨u',r',q⟩:=hl j y v' e1 e2 e3
    refine ⟨u',r',?_⟩
    rcases q with ⟨k,e⟩ | ⟨k,c,e,z⟩
    ·refine .inl ⟨k,?_⟩
     have:y≠x:=fun e=>hj (xS hN e1 (e▸hi))
     simp [this,e]
    ·exact .inr ⟨k,c,e,z.sameBut hs (J9 y c e)⟩
  ·obtain ⟨w',z⟩:=I.cell y c e
   exact ⟨w',z.sameBut hs (J9 y c e)⟩
  ·obtain ⟨e,n,ne,nf,d⟩:=I.pin p hp
   exact ⟨(hs.2 p.1 ne).trans e,n,ne,nf,d⟩
 ·have hfn:X.fn x=true:=by
   rcases hf with z | z
   ·exact z
   ·rw [z] at hk;cases hk
  obtain ⟨c,hc⟩:=I.ok.has x (.inl hk)
  obtain ⟨w',z⟩:=I.cell x c hc
  refine wpAny_storeName_cell I.ok.kind hk hc z (fun h' hc' hs=>?_)
  obtain ⟨oc,hoc,P8⟩:=id z
  refine h { s with heap:=h' } ⟨I.ok,I.os,I.bare,⟨fun b o e n hb hx=>?_,fun b o e n hb hx=>?_,I.base.free,fun b o e hx=>?_,I.base.tups,I.base.vD,I.base.xR⟩,⟨m,hn.sameBut hs (Ne.symm (J9 x c hc)),fun j y v' e1 e2 e3=>?_⟩,fun y c' e=>?_,I.free,I.lG,fun p hp=>?_,tracked ⟨oc,hoc,I.lG x c hc⟩ hs,by simpa using I.len⟩ ⟨c,hs,.inr hc⟩
  ·exact (hs.2 b (Nat.ne_of_lt (Nat.lt_of_lt_of_le (Heap.lt_size e) (I.ok.My x c hfn hc)))).trans (I.base.keep b o e n hb hx)
  ·obtain ⟨sl,e1⟩:=I.base.slot b o e n hb hx
   exact ⟨sl,(hs.2 b (Nat.ne_of_lt (Nat.lt_of_lt_of_le (Heap.lt_size e) (I.ok.My x c hfn hc)))).trans e1⟩
  ·obtain ⟨o',e1⟩:=I.base.there b o e hx
   exact ⟨o',(hs.2 b (Nat.ne_of_lt (Nat.lt_of_lt_of_le (Heap.lt_size e) (I.ok.My x c hfn hc)))).trans e1⟩
  ·by_cases hj:j=i
   ·subst hj
    rw [hi] at e1;cases e1
    rw [List.getElem?_set_self Ss] at e2
    cases e2
    exact ⟨u,r,.inr ⟨.inl hk,c,hc,hc'⟩⟩
   ·rw [List.getElem?_set_ne (Ne.symm hj)] at e2
    obtain ⟨u',r',q⟩:=hl j y v' e1 e2 e3
    refine ⟨u',r',?_⟩
    rcases q with q | ⟨k,c',e,z'⟩
    ·exact .inl q
    ·refine .inr ⟨k,c',e,z'.sameBut hs ?_⟩
     rintro rfl
     exact hj (xS hN e1 (I.ok.inj _ _ _ e hc▸hi))
  ·by_cases hcc:c'=c
   ·subst hcc;exact ⟨_,hc'⟩
   ·obtain ⟨w2,z2⟩:=I.cell y c' e
    exact ⟨w2,z2.sameBut hs hcc⟩
  ·obtain ⟨e,n,ne,nf,d⟩:=I.pin p hp
   refine ⟨(hs.2 p.1 ?_).trans e,n,ne,nf,d⟩
   intro q
   rw [q,hoc] at e
   have q':oc=p.2:=Option.some.inj e
   exact d w' (by rw [← q'];exact P8)
theorem xT {M:Model} {A:Around} {E:Value→Shared→Prop} {i:Nat} {x:Str} {v:V} {u:Value} {Q:Unit→Shared→Prop} (I:Inv X pins σ H s) (hN:X.N.Nodup) (hi:X.N[i]?=some x) (hx:Loc X.env.scope x) (r:RelV v u)
 (h:∀ s',Inv X pins (σ.set i (some v)) H s'→Q () s') (hf:X.fn x=true∨X.env.scope.names.lookup x=some .local:=by first | exact .inl rfl | exact .inr rfl | assumption):wpAny M A (storeName X.env x u) Q E s:=
 Cs I hN hi hx r (fun s' I' _=>h s' I') hf
theorem Inv.MS {s':Shared} {ch:List Addr} (I:Inv X pins σ H s) (ho:s'.os=s.os) (u:Un (frs X.stack) ch H H' s.heap s'.heap) (hok:i7 X.prog X.w H' s'.heap) (hg:AllBare s'.gens)
 (hch:∀ b∈ch,(b∈X.ex∨X.s₀.heap.objs.size≤b)∧b≠X.env.locals∧(∀ x c,X.env.cells.lookup x=some c→c≠b)∧∀ p∈X.pn ++ pins,p.1≠b):Inv X pins σ H' s':=by
 obtain ⟨h',g',d',t',o'⟩:=s'
 have e:o'=s.os:=ho
 subst e
 exact I.call (g':=g') (t':=t') (d':=d') u hok hg hch
end
abbrev XK:=Value→Option Addr→Hp→Prop
abbrev St:=List (Option V)
abbrev VK:=V→Hp→Prop
abbrev TE:=St→Hp→VK→Prop
abbrev TT:=St→Hp→(Bool→Hp→Prop)→Prop
abbrev TA:=St→Hp→(List V→Hp→Prop)→Prop
structure Ends where
 nx:St→Hp→Prop
 rt:VK
 bk:St→Hp→Prop:=fun _ _=>False
 ct:St→Hp→Prop:=fun _ _=>False
abbrev TS:=Ends→St→Hp→Prop
def EP (X:Cx) (pins:List (Addr ×Obj)) (σ:St) (Q:VK) (u:Value) (s':Shared):Prop:= ∃ v H',Inv X pins σ H' s'∧RelV v u∧Q v H'
def TP (X:Cx) (pins:List (Addr ×Obj)) (σ:St) (Q:Bool→Hp→Prop) (b:Bool) (s':Shared):Prop:= ∃ H',Inv X pins σ H' s'∧Q b H'
def AP (X:Cx) (pins:List (Addr ×Obj)) (σ:St) (Q:List V→Hp→Prop) (us:List Value) (s':Shared):Prop:= ∃ vs H',Inv X pins σ H' s'∧Vals vs us∧Q vs H'
def SP (X:Cx) (pins:List (Addr ×Obj)) (D:Ends) (f:Flow) (s':Shared):Prop:=
 match f with
 | .next=> ∃ σ' H',Inv X pins σ' H' s'∧D.nx σ' H'
 | .brk=> ∃ σ' H',Inv X pins σ' H' s'∧D.bk σ' H'
 | .cont=> ∃ σ' H',Inv X pins σ' H' s'∧D.ct σ' H'
 | .ret u=> ∃ v σ' H',Inv X pins σ' H' s'∧RelV v u∧D.rt v H'
def PE (X:Cx) (e:Expr) (t:TE):Prop:=
 ∀ (pins:List (Addr ×Obj)) (s:Shared) (σ:St) (H:Hp) (Q:VK),Inv X pins σ H s→t σ H Q→wpAny (model X.prog X.w) X.A (eval e X.env) (EP X pins σ Q) X.xe s
def PT (X:Cx) (e:Expr) (t:TT):Prop:=
 ∀ (pins:List (Addr ×Obj)) (s:Shared) (σ:St) (H:Hp) (Q:Bool→Hp→Prop),Inv X pins σ H s→t σ H Q→wpAny (model X.prog X.w) X.A (isTrue e X.env (eval e X.env)) (TP X pins σ Q) X.xe s
def PW (X:Cx) (e:Expr) (t:TT):Prop:=
 ∀ (whole:Sem Value) (pins:List (Addr ×Obj)) (s:Shared) (σ:St) (H:Hp) (Q:Bool→Hp→Prop),Inv X pins σ H s→t σ H Q→wpAny (model X.prog X.w) X.A (isTrue e X.env whole) (TP X pins σ Q) X.xe s
def PA (X:Cx) (es:List Expr) (t:TA):Prop:=
 ∀ (pos:Pos) (pins:List (Addr ×Obj)) (s:Shared) (σ:St) (H:Hp) (Q:List V→Hp→Prop),Inv X pins σ H s→t σ H Q→wpAny (model X.prog X.w) X.A (spliced (backTo pos (starEach es X.env))) (AP X pins σ Q) X.xe s
def PS (X:Cx) (st:Stmt) (t:TS):Prop:=
 ∀ (pins:List (Addr ×Obj)) (s:Shared) (σ:St) (H:Hp) (D:Ends),Inv X pins σ H s→t D σ H→wpAny (model X.prog X.w) X.A (exec st X.env) (SP X pins D) X.xe s
def zO (X:Cx) (st:List Stmt) (t:TS):Prop:=
 ∀ (pins:List (Addr ×Obj)) (s:Shared) (σ:St) (H:Hp) (D:Ends),Inv X pins σ H s→t D σ H→wpAny (model X.prog X.w) X.A (execs st X.env) (SP X pins D) X.xe s
theorem cI {α:Type} {t:Sem α} {Q Q':α→Shared→Prop} {M:Model} {A:Around} {E:Value→Shared→Prop} {s:Shared} (h:wpAny M A t Q E s) (hQ:∀ a s,Q a s→Q' a s):wpAny M A t Q' E s:=wpAny_mono h hQ fun _ _ x=>x
end L2
namespace L2
open PySem PySem.Spec PyProof.Rows
section
variable {X:Cx}
def P9 (i:Nat):TE:=fun σ H Q=> ∃ v,σ[i]?=some (some v)∧Q v H
def tC (v:V):TE:=fun _ H Q=>Q v H
theorem Kc {i:Nat} {x:Str} {pos:Pos} (hN:X.N[i]?=some x) (hv:P5 X.env.scope x) (hd:(x == ("__debug__" :Str))=false:=by decide) (hcd:(x == ("__classdict__" :Str))=false:=by decide):PE X (.Name x pos) (P9 i):=by
 intro pins s σ H Q I h
 obtain ⟨v,e,h⟩:=h
 obtain ⟨m,hn,hl⟩:=I.loc
 obtain ⟨u,r,l⟩:=hl i x v hN e hv
 have fin:EP X pins σ Q u s:=⟨v,H,I,r,h⟩
 rcases l with ⟨hk,hm⟩ | ⟨hk,c,hc,hcell⟩
 ·exact wpAny_Name (wpAny_loadName_local I.ok.kind hk hn hm fin) hd
 ·rcases hk with hk | hk
  ·exact wpAny_Name (wpAny_loadName_cell I.ok.kind hk hc hcell fin) hd
  ·exact wpAny_Name (wpAny_loadName_free I.ok.kind hk hc hcell fin hcd) hd
theorem Kd {i j pos}:PE X (.Constant (.int i) j pos) (tC (.int i)):=fun _ _ _ H _ I h=>wpAny_Constant_int ⟨.int i,H,I.tok _,⟨_,rfl⟩,h⟩
theorem MT {b j pos}:PE X (.Constant (.bool b) j pos) (tC (.bl b)):=fun _ _ _ H _ I h=>Constant_bool ⟨.bl b,H,I,rfl,h⟩
theorem Ke {j pos}:PE X (.Constant .none j pos) (tC .aX):=fun _ _ _ H _ I h=>Constant_none ⟨.aX,H,I,rfl,h⟩
def Gl (X:Cx) (x:Str):Prop:=X.env.kindOf x=some .globalImplicit
theorem Hf {E:Value→Shared→Prop} {pins:List (Addr ×Obj)} {s:Shared} {σ:St} {H:Hp} {x:Str} {u:Value} {pos:Pos} {Q:Value→Shared→Prop} (I:Inv X pins σ H s) (hg:Gl X x) (hm:X.mg x=some u) (h:Q u s)
 (hd:(x == ("__debug__" :Str))=false:=by decide):wpAny (model X.prog X.w) X.A (eval (.Name x pos) X.env) Q E s:=
 Calls.Name_function_global I.ok.kind hg (Calls.loadGlobal_global (by rw [I.ok.glob];exact I.mod.glob.keeps I.bk) hm h) hd
theorem ig {E:Value→Shared→Prop} {pins:List (Addr ×Obj)} {s:Shared} {σ:St} {H:Hp} {x:Str} {u:Value} {pos:Pos} {Q:Value→Shared→Prop} (I:Inv X pins σ H s) (hg:Gl X x) (hm:X.mg x=none) (hv:bootBuiltins x=some u) (h:Q u s)
 (hn:x≠"__name__" :=by decide) (hd:(x == ("__debug__" :Str))=false:=by decide):wpAny (model X.prog X.w) X.A (eval (.Name x pos) X.env) Q E s:=by
 obtain ⟨mb,h1,h2⟩:=I.mod.blt
 exact Calls.Name_function_global I.ok.kind hg (Calls.loadGlobal_builtin (by rw [I.ok.glob];exact I.mod.glob.keeps I.bk) hm (by rw [I.ok.blt];exact h1.keeps I.bk) ((h2 x hn).trans hv) h) hd
theorem Hg {x:Str} {v:V} {u:Value} {pos:Pos} (hg:Gl X x) (hm:X.mg x=none) (hv:bootBuiltins x=some u) (r:RelV v u) (hn:x≠"__name__" :=by decide) (hd:(x == ("__debug__" :Str))=false:=by decide):PE X (.Name x pos) (tC v):=
 fun _ _ _ H _ I h=>ig I hg hm hv ⟨v,H,I,r,h⟩ hn hd
variable {a b:Expr} {ta tb:TE} {pos:Pos}
def tB (t:TE):TT:=fun σ H Q=>t σ H fun x H1=> ∃ c,x= .bl c∧Q c H1
variable {tA Pk:TT} {rest:List Expr}
def Qa (t u:TT):TT:=fun σ H Q=>t σ H fun c H1=>if c=true then u σ H1 Q else Q false H1
def TX (t u:TT):TT:=fun σ H Q=>t σ H fun c H1=>if c=true then Q true H1 else u σ H1 Q
def Qc (t:TT):TT:=fun σ H Q=>t σ H fun c H1=>Q (!c) H1
theorem pw_and1 (ha:PT X a tA):PW X (.BoolOp .And [a] pos) tA:=by
 intro wh pins s σ H Q I h
 refine isTrue_and (cI (ha pins s σ H Q I h) fun c s1 e=>?_)
 cases c with
 | true=>exact isTrue_and_nil e
 | false=>exact e
theorem pw_or1 (ha:PT X a tA):PW X (.BoolOp .Or [a] pos) tA:=by
 intro wh pins s σ H Q I h
 refine isTrue_or (cI (ha pins s σ H Q I h) fun c s1 e=>?_)
 cases c with
 | false=>exact isTrue_or_nil e
 | true=>exact e
theorem pw_and (ha:PT X a tA) (hb:PW X (.BoolOp .And (b :: rest) pos) Pk):PW X (.BoolOp .And (a :: b :: rest) pos) (Qa tA Pk):=by
 intro wh pins s σ H Q I h
 refine isTrue_and (cI (ha pins s σ H _ I h) fun c s1 ⟨H1,I1,q1⟩=>?_)
 cases c with
 | true=>exact hb wh pins s1 σ H1 Q I1 q1
 | false=>exact ⟨H1,I1,q1⟩
theorem pw_or (ha:PT X a tA) (hb:PW X (.BoolOp .Or (b :: rest) pos) Pk):PW X (.BoolOp .Or (a :: b :: rest) pos) (TX tA Pk):=by
 intro wh pins s σ H Q I h
 refine isTrue_or (cI (ha pins s σ H _ I h) fun c s1 ⟨H1,I1,q1⟩=>?_)
 cases c with
 | true=>exact ⟨H1,I1,q1⟩
 | false=>exact hb wh pins s1 σ H1 Q I1 q1
theorem Kf (ha:PT X a tA):PT X (.UnaryOp .Not a pos) (Qc tA):=by
 intro pins s σ H Q I h
 exact isTrue_not (ha pins s σ H (fun c H1=>Q (!c) H1) I h)
def MU (ta tb:TE):TE:=fun σ H Q=>ta σ H fun x H1=> ∃ c,x= .bl c∧if c=true then tb σ H1 Q else Q (.bl false) H1
def Qd (ta tb:TE):TE:=fun σ H Q=>ta σ H fun x H1=> ∃ c,x= .bl c∧if c=true then Q (.bl true) H1 else tb σ H1 Q
theorem Kg (ha:PE X a ta) (hb:PE X (.BoolOp .And (b :: rest) pos) tb):PE X (.BoolOp .And (a :: b :: rest) pos) (MU ta tb):=by
 intro pins s σ H Q I h
 refine BoolOp_and (cI (ha pins s σ H _ I h) fun v s1 ⟨x,H1,I1,r1,q1⟩=>?_)
 obtain ⟨c,rfl,q1⟩:=q1
 cases r1
 refine wpAny_truthy_bool ?_
 cases c with
 | true=>exact hb pins s1 σ H1 Q I1 q1
 | false=>exact ⟨.bl false,H1,I1,rfl,q1⟩
theorem MV (ha:PE X a ta) (hb:PE X (.BoolOp .Or (b :: rest) pos) tb):PE X (.BoolOp .Or (a :: b :: rest) pos) (Qd ta tb):=by
 intro pins s σ H Q I h
 refine BoolOp_or (cI (ha pins s σ H _ I h) fun v s1 ⟨x,H1,I1,r1,q1⟩=>?_)
 obtain ⟨c,rfl,q1⟩:=q1
 cases r1
 refine wpAny_truthy_bool ?_
 cases c with
 | false=>exact hb pins s1 σ H1 Q I1 q1
 | true=>exact ⟨.bl true,H1,I1,rfl,q1⟩
end
end L2
namespace L2
open PySem PySem.Spec PyProof.Rows
def jb (K:PySem.W.Frag) (H:Hp) (a:Addr) (xs:List V):Prop:=
 Rd H a (.lst xs)∨
  ∃ (o:Obj) (its:Array Value) (n:Nat),K.lookup a=some o∧o.cls= .type "list"∧o.dict=none∧o.data= .seq its n∧its.size≤sizeLine∧Vals xs its.toList
def qV (K:PySem.W.Frag) (H:Hp) (a:Addr) (xs:List V):Prop:=
 Rd H a (.tup xs)∨
  ∃ (o:Obj) (its:Array Value) (n:Nat),K.lookup a=some o∧o.cls= .type "tuple"∧o.data= .seq its n∧its.size≤sizeLine∧Vals xs its.toList
def MW:Value→Option V
 | .none=>some .aX
 | .bool b=>some (.bl b)
 | .int i _=>some (.int i)
 | .str x _=>some (.str x)
 | .bytes b _=>some (.DZ b)
 | .float b _=>some (.Mw b)
 | .ref a=>some (.ref a)
 | .type n=>some (.ty n)
 | _=>none
theorem RelV.abs {x:V} {u:Value} (r:RelV x u):MW u=some x:=by
 cases x with
 | aX=>cases r;rfl
 | bl _=>cases r;rfl
 | int _=>obtain ⟨t,rfl⟩:=r;rfl
 | str _=>obtain ⟨t,rfl⟩:=r;rfl
 | DZ _=>obtain ⟨t,rfl⟩:=r;rfl
 | Mw _=>obtain ⟨t,rfl⟩:=r;rfl
 | ref _=>cases r;rfl
 | ty _=>cases r;rfl
theorem RelV.inj {x y:V} {u:Value} (r:RelV x u) (q:RelV y u):x=y:=Option.some.inj (r.abs.symm.trans q.abs)
theorem Vals.inj:∀ {xs ys:List V} {us:List Value},Vals xs us→Vals ys us→xs=ys
 | _,_,_,.nil,.nil=>rfl
 | _,_,_,.cons r t,.cons r' t'=>by rw [r.inj r',Vals.inj t t']
section
variable {X:Cx} {pins:List (Addr ×Obj)} {σ:St} {H:Hp} {s:Shared} {a:Addr} {xs ys:List V}
theorem jb.of {K:PySem.W.Frag} (h:H a=some (.lst xs)):jb K H a xs:= .inl (.inl h)
theorem qV.of {K:PySem.W.Frag} (h:H a=some (.tup xs)):qV K H a xs:= .inl (.inl h)
theorem Inv.list (I:Inv X pins σ H s) (h:jb X.K H a xs):∃ its:List Value,Vals xs its∧PlainL s.heap a its.toArray∧xs.length≤sizeLine:=by
 rcases h with h | ⟨o,its,n,hk,hc,hd,hs,hz,r⟩
 ·obtain ⟨z,its,n,r,e⟩:=h.ok I.hok
  exact ⟨its,r,⟨_,n,e,rfl,rfl,rfl⟩,z⟩
 ·refine ⟨its.toList,r,⟨o,n,I.xH a o hk,hc,hd,by simpa using hs⟩,?_⟩
  have e:=r.length
  simp only [Array.length_toList] at e
  omega
theorem Inv.tuple (I:Inv X pins σ H s) (h:qV X.K H a xs):∃ its:List Value,Vals xs its∧IsTup s.heap a its.toArray∧xs.length≤sizeLine:=by
 rcases h with h | ⟨o,its,n,hk,hc,hs,hz,r⟩
 ·obtain ⟨z,its,r,p⟩:=h.ok I.hok
  exact ⟨its,r,p,z⟩
 ·refine ⟨its.toList,r,⟨o,I.xH a o hk,hc,n,by simpa using hs⟩,?_⟩
  have e:=r.length
  simp only [Array.length_toList] at e
  omega
theorem Inv.D3 (I:Inv X pins σ H s) (h:jb X.K H a xs) (h':jb X.K H a ys):xs=ys:=by
 obtain ⟨its,r,⟨o,n,e,_,_,d⟩,_⟩:=I.list h
 obtain ⟨its',r',⟨o',n',e',_,_,d'⟩,_⟩:=I.list h'
 rw [e] at e';cases e'
 rw [d] at d'
 injection d' with d1 _
 have:its=its':=by simpa using congrArg Array.toList d1
 subst this
 exact r.inj r'
theorem Inv.Ct (I:Inv X pins σ H s) (h:qV X.K H a xs) (h':qV X.K H a ys):xs=ys:=by
 obtain ⟨its,r,⟨o,e,_,n,d⟩,_⟩:=I.tuple h
 obtain ⟨its',r',⟨o',e',_,n',d'⟩,_⟩:=I.tuple h'
 rw [e] at e';cases e'
 rw [d] at d'
 injection d' with d1 _
 have:its=its':=by simpa using congrArg Array.toList d1
 subst this
 exact r.inj r'
end
abbrev Cx.t9 (X:Cx) (E:Value→Shared→Prop):Cx:={ X with xe:=E }
abbrev Cx.GY (X:Cx):Cx:=X.t9 fun _ _=>False
theorem Cx.Ok.t9 {X:Cx} (ok:X.Ok) (E:Value→Shared→Prop):(X.t9 E).Ok:=
 ⟨ok.mod,ok.kind,ok.glob,ok.blt,ok.above,ok.inj,ok.has,ok.My,ok.hd,ok.frames,ok.stk,ok.MP,ok.bs,ok.Ju,ok.Cq,ok.Cr,ok.qb,ok.J8⟩
theorem Cx.Ok.jR {X:Cx} {E:Value→Shared→Prop} (ok:(X.t9 E).Ok):X.Ok:=
 ⟨ok.mod,ok.kind,ok.glob,ok.blt,ok.above,ok.inj,ok.has,ok.My,ok.hd,ok.frames,ok.stk,ok.MP,ok.bs,ok.Ju,ok.Cq,ok.Cr,ok.qb,ok.J8⟩
section
variable {X:Cx} {pins:List (Addr ×Obj)} {σ:St} {H:Hp} {s:Shared} {E:Value→Shared→Prop}
theorem Inv.t9 (I:Inv X pins σ H s) (E:Value→Shared→Prop):Inv (X.t9 E) pins σ H s:=⟨I.ok.t9 E,I.os,I.bare,I.base,I.loc,I.cell,I.free,I.lG,I.pin,I.hok,I.len⟩
theorem Inv.jR (I:Inv (X.t9 E) pins σ H s):Inv X pins σ H s:=⟨I.ok.jR,I.os,I.bare,I.base,I.loc,I.cell,I.free,I.lG,I.pin,I.hok,I.len⟩
theorem SP.jR {D:Ends} {f:Flow} {s':Shared} (h:SP (X.t9 E) pins D f s'):SP X pins D f s':=by
 cases f with
 | next=>obtain ⟨σ',H',I,q⟩:=h;exact ⟨σ',H',I.jR,q⟩
 | brk=>obtain ⟨σ',H',I,q⟩:=h;exact ⟨σ',H',I.jR,q⟩
 | cont=>obtain ⟨σ',H',I,q⟩:=h;exact ⟨σ',H',I.jR,q⟩
 | ret u=>obtain ⟨v,σ',H',I,r,q⟩:=h;exact ⟨v,σ',H',I.jR,r,q⟩
theorem zO.GY {st:List Stmt} {t:TS} (h:zO X.GY st t):zO X st t:=fun pins s σ H D I hw=>
 wpAny_mono (h pins s σ H D (I.t9 _) hw) (fun _ _ q=>q.jR) fun _ _ z=>False.elim z
end
section
variable {X:Cx} {st:Stmt} {rest:List Stmt} {t u:TS} {e:Expr} {te:TE} {pos:Pos}
def MX:TS:=fun D σ H=>D.nx σ H
def Qe (t u:TS):TS:=fun D σ H=>t { D with nx:=u D } σ H
theorem Hh:zO X [] MX:=fun _ _ σ H _ I h=>wpAny_execs_nil ⟨σ,H,I,h⟩
theorem D4 (h1:PS X st t) (h2:zO X rest u):zO X (st :: rest) (Qe t u):=by
 intro pins s σ H D I h
 refine wpAny_execs_cons (cI (h1 pins s σ H { D with nx:=u D } I h) fun f s1 q=>?_)
 cases f with
 | next=>
   obtain ⟨σ',H',I',q⟩:=q
   exact h2 pins s1 σ' H' D I' q
 | ret v=>exact q
 | brk=>exact q
 | cont=>exact q
theorem Hi (h1:PS X st t):zO X [st] t:=by
 intro pins s σ H D I h
 refine wpAny_execs_cons (cI (h1 pins s σ H D I h) fun f s1 q=>?_)
 cases f with
 | next=>exact wpAny_execs_nil q
 | ret v=>exact q
 | brk=>exact q
 | cont=>exact q
theorem Inv.quiet {pins:List (Addr ×Obj)} {σ:St} {H:Hp} {s:Shared} (I:Inv X pins σ H s):interactive X.env=false:=by simp [interactive,I.ok.kind]
def MY (te:TE):TS:=fun D σ H=>te σ H fun _ H1=>D.nx σ H1
theorem Hj (he:PE X e te) (hs:swapsWith e none pos.line X.env=pure false:=by rfl):PS X (.Expr e pos) (MY te):=by
 intro pins s σ H D I h
 exact wpAny_Expr_any (cI (he pins s σ H _ I h) fun v s1 ⟨x,H1,I1,r1,q1⟩=>⟨σ,H1,I1,q1⟩) I.quiet hs
def Qf (te:TE):TS:=fun D σ H=>te σ H D.rt
theorem Kh (he:PE X e te):PS X (.Return (some e) pos) (Qf te):=by
 intro pins s σ H D I h
 exact wpAny_Return_some (cI (he pins s σ H _ I h) fun v s1 ⟨x,H1,I1,r1,q1⟩=>⟨x,σ,H1,I1,r1,q1⟩)
def Qg (c:TT) (t u:TS):TS:=fun D σ H=>c σ H fun b H1=>if b=true then t D σ H1 else u D σ H1
theorem MZ {c:Expr} {a b:List Stmt} {tc:TT} (hc:PT X c tc) (ha:zO X a t) (hb:zO X b u):PS X (.If c a b pos) (Qg tc t u):=by
 intro pins s σ H D I h
 refine wpAny_If (cI (hc pins s σ H _ I h) fun d s1 ⟨H1,I1,q1⟩=>?_)
 cases d with
 | true=>exact ha pins s1 σ H1 D I1 q1
 | false=>exact hb pins s1 σ H1 D I1 q1
end
abbrev TG:=V→St→Hp→(St→Hp→Prop)→Prop
def PG (X:Cx) (target:Expr) (t:TG):Prop:=
 ∀ (pins:List (Addr ×Obj)) (s:Shared) (σ:St) (H:Hp) (v:V) (u:Value) (Q:St→Hp→Prop),Inv X pins σ H s→RelV v u→t v σ H Q→
   wpAny (model X.prog X.w) X.A (assign target X.env u) (fun _ s'=> ∃ σ' H',Inv X pins σ' H' s'∧Q σ' H') X.xe s
abbrev Hl:=V→V→V→Hp→(Hp→Prop)→Prop
def Na (X:Cx) (t:Hl):Prop:=
 ∀ (pins:List (Addr ×Obj)) (s:Shared) (σ:St) (H:Hp) (o i v:V) (ov iv u:Value) (Q:Hp→Prop),Inv X pins σ H s→RelV o ov→RelV i iv→RelV v u→t o i v H Q→
   wpAny (model X.prog X.w) X.A (setItem ov iv u) (fun _ s'=> ∃ H',Inv X pins σ H' s'∧Q H') X.xe s
section
variable {X:Cx} {pos:Pos}
def Jw (i:Nat):TG:=fun v σ H Q=>Q (σ.set i (some v)) H
theorem Ho {i:Nat} {x:Str} (hN:X.N.Nodup) (hi:X.N[i]?=some x) (hx:Loc X.env.scope x) (hf:X.fn x=true∨X.env.scope.names.lookup x=some .local:=by first | exact .inl rfl | exact .inr rfl | assumption):PG X (.Name x pos) (Jw i):=by
 intro pins s σ H v u Q I r h
 exact wpAny_assign_Name (xT I hN hi hx r (fun s' I'=>⟨_,H,I',h⟩) hf)
def Qh (to ti:TE) (t:Hl):TG:=fun v σ H Q=>to σ H fun o H1=>ti σ H1 fun i H2=>t o i v H2 fun H3=>Q σ H3
theorem Km {o i:Expr} {to ti:TE} {t:Hl} (ho:PE X o to) (hi:PE X i ti) (hs:Na X t)
 (ha:∀ v,assign (.Subscript o i pos) X.env v=(do
  let ov ← holding [v] (eval o X.env)
  let iv ← holding [v,ov] (eval i X.env)
  standAt pos
  holding [v,ov,iv] (setItem ov iv v)
  release [v,ov,iv] []):=by intro _;rfl):PG X (.Subscript o i pos) (Qh to ti t):=by
 intro pins s σ H v u Q I r h
 rw [ha]
 refine wpAny_bind (wpAny_holding (cI (ho pins s σ H _ I h) fun ov s1 ⟨x,H1,I1,r1,q1⟩=>?_))
 refine wpAny_bind (wpAny_holding (cI (hi pins s1 σ H1 _ I1 q1) fun iv s2 ⟨y,H2,I2,r2,q2⟩=>?_))
 refine wpAny_bind (wpAny_standAt (wpAny_bind (wpAny_holding (cI (hs pins s2 σ H2 x y v ov iv u _ I2 r1 r2 r q2) fun _ s3 ⟨H3,I3,q3⟩=>?_))))
 exact wpAny_release ⟨σ,H3,I3,q3⟩
def Qi (te:TE) (g:TG):TS:=fun D σ H=>te σ H fun x H1=>g x σ H1 D.nx
theorem Kn {i:Nat} {x:Str} {e:Expr} {te:TE} {pos':Pos} (hN:X.N.Nodup) (hi:X.N[i]?=some x) (hx:Loc X.env.scope x) (he:PE X e te) (hs:swapsWith e (some (.Name x pos')) pos.line X.env=pure false:=by rfl) (hf:X.fn x=true∨X.env.scope.names.lookup x=some .local:=by first | exact .inl rfl | exact .inr rfl | assumption) :
 PS X (.Assign [.Name x pos'] e pos) (Qi te (Jw i)):=by
 intro pins s σ H D I h
 refine wpAny_Assign_Name (cI (he pins s σ H _ I h) fun v s1 ⟨y,H1,I1,r1,q1⟩=>?_) hs
 exact xT I1 hN hi hx r1 (fun s2 I2=>⟨_,H1,I2,q1⟩) hf
end
section
variable {X:Cx} {pos:Pos}
def Ko (c:TT) (tb:TS):TS:=fun D σ H=> ∃ W:Nat→St→Hp→Prop,(∃ m,W m σ H)∧∀ m σ H,W m σ H→
 c σ H fun b H1=>if b=true then ∃ N:St→Hp→Prop,(∀ σ' H',N σ' H'→∃ m',m' < m∧W m' σ' H')∧tb { D with nx:=N,ct:=N,bk:=D.nx } σ H1 else D.nx σ H1
theorem D5 {c:Expr} {body:List Stmt} {tc:TT} {tb:TS} (hp:PassesOwn (model X.prog X.w) X.A X.env X.xe) (hc:PT X c tc) (hb:zO X body tb):PS X (.While c body [] pos) (Ko tc tb):=by
 intro pins s σ H D I h
 obtain ⟨W,⟨m0,w0⟩,turn⟩:=h
 refine wpAny_While (codeAny_whileLoop (fun n s'=> ∃ σ' H',Inv X pins σ' H' s'∧W n σ' H') ?_ m0 ⟨σ,H,I,w0⟩)
 rintro n s1 ⟨σ1,H1,I1,w1⟩
 refine wpAny_passesOwn hp (cI (hc pins s1 σ1 H1 _ I1 (turn n σ1 H1 w1)) fun b s2 ⟨H2,I2,q2⟩=>?_)
 cases b with
 | true=>
   obtain ⟨N,hN,q2⟩:=q2
   rw [if_pos rfl]
   refine wpAny_passesOwn hp (cI (hb pins s2 σ1 H2 _ I2 q2) fun f s3 q3=>?_)
   cases f with
   | next=>
     obtain ⟨σ3,H3,I3,n3⟩:=q3
     obtain ⟨m',hm,w3⟩:=hN σ3 H3 n3
     exact ⟨m',hm,σ3,H3,I3,w3⟩
   | cont=>
     obtain ⟨σ3,H3,I3,n3⟩:=q3
     obtain ⟨m',hm,w3⟩:=hN σ3 H3 n3
     exact ⟨m',hm,σ3,H3,I3,w3⟩
   | brk=>exact q3
   | ret v=>exact q3
 | false=>
   rw [if_neg Bool.false_ne_true]
   exact wpAny_execs_nil ⟨σ1,H2,I2,q2⟩
end
structure It where
 go:Nat→Hp→Prop
 Hq:Nat→Hp→V→Hp→Prop
 stop:Nat→Hp→Prop
def jF (X:Cx) (pins:List (Addr ×Obj)) (H:Hp) (b:Addr):Prop:=
 H b=none∧b≠X.env.locals∧b∉X.fs∧(b∈X.ex∨X.s₀.heap.objs.size≤b)∧(∀ x c,X.env.cells.lookup x=some c→c≠b)∧∀ p∈X.pn ++ pins,p.1≠b
theorem Inv.D6 {X:Cx} {pins:List (Addr ×Obj)} {σ:St} {H H':Hp} {s:Shared} {b:Addr} (I:Inv X pins σ H s) (hb:s.heap.objs.size≤b) (hn:H' b=none):jF X pins H' b:=by
 refine ⟨hn,Nat.ne_of_gt (Nat.lt_of_lt_of_le I.lt hb),I.P7 hb,.inr (Nat.le_trans I.sz hb),fun x c e z=>?_,fun p hp z=>?_⟩
 ·obtain ⟨v,q⟩:=I.cell x c e
  exact absurd (Nat.lt_of_lt_of_le q.lt (by rw [z];exact hb)) (Nat.lt_irrefl _)
 ·exact absurd (Nat.lt_of_lt_of_le (Heap.lt_size (I.pin p hp).1) (by rw [z];exact hb)) (Nat.lt_irrefl _)
structure Turn (P:Program) (w:World) (K:PySem.W.Frag) (tg:Expr) (J:It) (fp:List Addr) (it:Addr) (tn:Nat→Heap→Prop):Prop where
 mem:it∈fp
 obj:∀ i h,tn i h→∀ b∈fp,∃ o,h.get? b=some o∧∀ v,o.data≠ .cell v
 keep:∀ i h h',tn i h→(∀ b∈fp,∀ o,h.get? b=some o→h'.get? b=some o)→tn i h'
 item:∀ (X:Cx),X.prog=P→X.w=w→X.K=K→X.calm=true→∀ (i:Nat) (pins:List (Addr ×Obj)) (s:Shared) (σ:St) (H:Hp) (E:Value→Shared→Prop),Inv X pins σ H s→(∀ b∈fp,jF X pins H b)→tn i s.heap→J.go i H→
  wpAny (model P w) X.A (pyNext (.ref it)) (fun r s1=> ∃ u,r=some u∧
   wpAny (model P w) X.A (letOwnedTupleGo tg (.ref it) u) (fun _ s2=> ∃ x H',Inv X pins σ H' s2∧RelV x u∧J.Hq i H x H'∧tn (i+1) s2.heap∧∀ b∈fp,H' b=none) E s1) E s
 done:∀ (X:Cx),X.prog=P→X.w=w→X.K=K→X.calm=true→∀ (i:Nat) (pins:List (Addr ×Obj)) (s:Shared) (σ:St) (H:Hp) (E:Value→Shared→Prop),Inv X pins σ H s→(∀ b∈fp,jF X pins H b)→tn i s.heap→J.stop i H→
  wpAny (model P w) X.A (pyNext (.ref it)) (fun r s1=>r=none∧Inv X pins σ H s1) E s
 self:∀ (A:Around) (i:Nat) (s:Shared) (Q:Value→Shared→Prop) (E:Value→Shared→Prop),tn i s.heap→Q (.ref it) s→wpAny (model P w) A (pyIter (.ref it)) Q E s
abbrev TI:=St→Hp→(It→Hp→Prop)→Prop
def Qj (X:Cx) (pins:List (Addr ×Obj)) (σ:St) (tg:Expr) (R:It→Hp→Prop) (itv:Value) (s2:Shared):Prop:=
 ∃ (it:Addr) (fp:List Addr) (tn:Nat→Heap→Prop) (J:It) (H':Hp),itv= .ref it∧Inv X pins σ H' s2∧Turn X.prog X.w X.K tg J fp it tn∧tn 0 s2.heap∧(∀ b∈fp,jF X pins H' b)∧R J H'
def PI (X:Cx) (tg iter:Expr) (wi:TI):Prop:=
 ∀ (pins:List (Addr ×Obj)) (s:Shared) (σ:St) (H:Hp) (R:It→Hp→Prop),Inv X pins σ H s→wi σ H R→
   wpAny (model X.prog X.w) X.A (eval iter X.env) (fun v s1=>wpAny (model X.prog X.w) X.A (pyIter v) (Qj X pins σ tg R) X.xe s1) X.xe s
theorem D7 {M:Model} {A:Around} {E:Value→Shared→Prop} {s:Shared} {tg:Expr} {it:Addr} {u:Value} {o:Obj} {n:String} {vs:Array Value} {Q:Unit→Shared→Prop} (ho:s.heap.get? it=some o) (hc:o.cls= .type n) (hd:o.data= .fields vs)
 (hn: ["enumerate","zip","dict_itemiterator","dict_reverseitemiterator","odict_iterator","itertools.zip_longest","itertools.pairwise"].contains n=false) (hQ:Q () s):wpAny M A (letOwnedTupleGo tg (.ref it) u) Q E s:=by
 unfold letOwnedTupleGo
 cases tg <;> first
  | exact wpAny_pure hQ
  | (cases u <;> first
   | exact wpAny_pure hQ
   | (refine wpAny_bind (wpAny_load ho ?_)
      rw [hc,hd]
      show wpAny M A (if (["enumerate","zip","dict_itemiterator","dict_reverseitemiterator","odict_iterator","itertools.zip_longest","itertools.pairwise"].contains n && vs[0]? == some (rawInt _))=true then _ else _) Q E s
      rw [if_neg (by intro h;rw [hn,Bool.false_and] at h;cases h)]
      exact wpAny_pure hQ))
def Qk (K:PySem.W.Frag) (a:Addr):It:=
 ⟨fun i H=> ∃ xs x,jb K H a xs∧xs[i]?=some x,fun i H x H'=>H'=H∧∀ xs,jb K H a xs→xs[i]?=some x,fun i H=> ∃ xs,jb K H a xs∧xs.length≤i⟩
def Ql (K:PySem.W.Frag) (a:Addr):It:=
 ⟨fun i H=> ∃ xs x,qV K H a xs∧xs[i]?=some x,fun i H x H'=>H'=H∧∀ xs,qV K H a xs→xs[i]?=some x,fun i H=> ∃ xs,qV K H a xs∧xs.length≤i⟩
def Pn (lo:Int) (n:Nat):It:=⟨fun i _=>i < n,fun i H x H'=>H'=H∧x= .int (lo+i),fun i _=>n≤i⟩
theorem Cu {P:Program} {w:World} {K:PySem.W.Frag} {tg:Expr} (a it:Addr):Turn P w K tg (Qk K a) [it] it (fun i h=>h.IsListIter it a i) where
 mem:=by simp
 obj:=fun i h st b hb=>by
  have e:b=it:=by simpa using hb
  subst e
  obtain ⟨o,e,c,d⟩:=st
  exact ⟨o,e,fun v z=>by rw [d] at z;cases z⟩
 keep:=fun i h h' st k=>st.at fun o e=>k it (by simp) o e
 item:=by
  intro X hP hw hK hc i pins s σ H E I hf st hg
  subst hP hw hK
  obtain ⟨xs,x,hq,hx⟩:=hg
  obtain ⟨its,rv,p,hz⟩:=I.list hq
  obtain ⟨u,hu,ru⟩:=rv.get hx
  obtain ⟨f0,f1,f2,f3,f4,f5⟩:=hf it (by simp)
  refine wpAny_pyNext_list_item st p.isList (x:=u) (by simpa using hu) fun h' st' sb=>?_
  have I1:Inv X pins σ H { s with heap:=h' }:=I.turned (t':=s.toks) (fun b o hb e=>(sb.2 b hb).trans e) f0 f1 f3 f4 f5
  obtain ⟨o,e,c,d⟩:=id st'
  exact ⟨u,rfl,D7 (s:={ s with heap:=h' }) e c d (by decide) ⟨x,H,I1,ru,⟨rfl,fun ys hy=>by rw [I.D3 hy hq];exact hx⟩,st',fun b hb=>(hf b hb).1⟩⟩
 done:=by
  intro X hP hw hK hc i pins s σ H E I hf st hg
  subst hP hw hK
  obtain ⟨xs,hq,hx⟩:=hg
  obtain ⟨its,rv,p,hz⟩:=I.list hq
  obtain ⟨f0,f1,f2,f3,f4,f5⟩:=hf it (by simp)
  have hl:=rv.length
  exact wpAny_pyNext_list_end (I.ok.hd hc) st p.isList (by simp;omega) fun h' eb=>⟨rfl,I.turned (t':=s.toks) (fun b o hb e=>eb b o hb e) f0 f1 f3 f4 f5⟩
 self:=fun _ _ _ _ _ st h=>wpAny_pyIter_listiter st h
theorem zP {P:Program} {w:World} {K:PySem.W.Frag} {tg:Expr} (a it:Addr):Turn P w K tg (Ql K a) [it] it (fun i h=>h.IsTupleIter it a i) where
 mem:=by simp
 obj:=fun i h st b hb=>by
  have e:b=it:=by simpa using hb
  subst e
  obtain ⟨o,e,c,d⟩:=st
  exact ⟨o,e,fun v z=>by rw [d] at z;cases z⟩
 keep:=fun i h h' st k=>st.at fun o e=>k it (by simp) o e
 item:=by
  intro X hP hw hK hc i pins s σ H E I hf st hg
  subst hP hw hK
  obtain ⟨xs,x,hq,hx⟩:=hg
  obtain ⟨its,rv,p,hz⟩:=I.tuple hq
  obtain ⟨u,hu,ru⟩:=rv.get hx
  obtain ⟨f0,f1,f2,f3,f4,f5⟩:=hf it (by simp)
  refine wpAny_pyNext_tuple_item st (show s.heap.IsTuple a its.toArray from p) (x:=u) (by simpa using hu) fun h' st' sb=>?_
  have I1:Inv X pins σ H { s with heap:=h' }:=I.turned (t':=s.toks) (fun b o hb e=>(sb.2 b hb).trans e) f0 f1 f3 f4 f5
  obtain ⟨o,e,c,d⟩:=id st'
  exact ⟨u,rfl,D7 (s:={ s with heap:=h' }) e c d (by decide) ⟨x,H,I1,ru,⟨rfl,fun ys hy=>by rw [I.Ct hy hq];exact hx⟩,st',fun b hb=>(hf b hb).1⟩⟩
 done:=by
  intro X hP hw hK hc i pins s σ H E I hf st hg
  subst hP hw hK
  obtain ⟨xs,hq,hx⟩:=hg
  obtain ⟨its,rv,p,hz⟩:=I.tuple hq
  obtain ⟨f0,f1,f2,f3,f4,f5⟩:=hf it (by simp)
  have hl:=rv.length
  exact wpAny_pyNext_tuple_end (I.ok.hd hc) st (show s.heap.IsTuple a its.toArray from p) (by simp;omega) fun h' eb=>⟨rfl,I.turned (t':=s.toks) (fun b o hb e=>eb b o hb e) f0 f1 f3 f4 f5⟩
 self:=fun _ _ _ _ _ st h=>wpAny_pyIter_tupleiter st h
theorem zQ {P:Program} {w:World} {K:PySem.W.Frag} {tg:Expr} (it:Addr) (lo:Int) (n:Nat):Turn P w K tg (Pn lo n) [it] it (fun i h=>IsRangeIter h it (lo+(i:Nat)*1) ((n:Int) - (i:Nat)) 1) where
 mem:=by simp
 obj:=fun i h st b hb=>by
  have e:b=it:=by simpa using hb
  subst e
  exact ⟨_,st,fun v z=>by
   have z':Data.fields _=Data.cell v:=z
   cases z'⟩
 keep:=fun i h h' st k=>k it (by simp) _ st
 item:=by
  intro X hP hw hK hc i pins s σ H E I hf st hg
  subst hP hw hK
  obtain ⟨f0,f1,f2,f3,f4,f5⟩:=hf it (by simp)
  have W:=Walks.range (prog:=X.prog) (w:=X.w) (I.ok.hd hc) it lo 1 n
  refine W.item i s _ _ hg st fun v h' tk hv st' kk=>?_
  obtain ⟨t,rfl⟩:=hv
  have I1:Inv X pins σ H { s with heap:=h',toks:=tk }:=I.turned (fun b o hb e=>kk b o (by simpa using hb) e) f0 f1 f3 f4 f5
  refine ⟨_,rfl,D7 (s:={ s with heap:=h',toks:=tk }) (n:= "range_iterator") st' rfl rfl (by decide) ⟨.int (lo+i),H,I1,⟨t,?_⟩,⟨rfl,rfl⟩,st',fun b hb=>(hf b hb).1⟩⟩
  rw [Int.mul_one]
 done:=by
  intro X hP hw hK hc i pins s σ H E I hf st hg
  subst hP hw hK
  obtain ⟨f0,f1,f2,f3,f4,f5⟩:=hf it (by simp)
  exact wpAny_pyNext_range_end (I.ok.hd hc) st (by have:n≤i:=hg;omega) fun h' eb=>⟨rfl,I.turned (t':=s.toks) (fun b o hb e=>eb b o hb e) f0 f1 f3 f4 f5⟩
 self:=fun _ _ _ _ _ st h=>wpAny_pyIter_rangeiter st h
end L2
namespace L2
open PySem PySem.Spec PyProof.Rows
section
variable {X:Cx} {tg:Expr}
def Nb (K:PySem.W.Frag) (tl:TE):TI:=fun σ H R=>tl σ H fun x H1=> ∃ a,x= .ref a∧(∃ xs,jb K H1 a xs)∧R (Qk K a) H1
def Qm (K:PySem.W.Frag) (tl:TE):TI:=fun σ H R=>tl σ H fun x H1=> ∃ a,x= .ref a∧(∃ xs,qV K H1 a xs)∧R (Ql K a) H1
theorem Bd {l:Expr} {tl:TE} (hl:PE X l tl):PI X tg l (Nb X.K tl):=by
 intro pins s σ H R I h
 refine cI (hl pins s σ H _ I h) fun v s1 ⟨x,H1,I1,r1,q1⟩=>?_
 obtain ⟨a,e,⟨xs,hq⟩,q⟩:=q1
 subst e
 cases r1
 obtain ⟨its,rv,p,hz⟩:=I1.list hq
 refine wpAny_pyIter_list p.isList ?_
 refine ⟨s1.heap.objs.size,[s1.heap.objs.size],_,_,H1,rfl,I1.kept (t':=s1.toks) fun b o e=>Heap.get?_push_of_some _ e,Cu a _,⟨_,Heap.get?_push_size _ rfl,rfl,rfl⟩,fun b hb=>?_,q⟩
 have e:b=s1.heap.objs.size:=by simpa using hb
 subst e
 exact I1.D6 (Nat.le_refl _) (I1.hok.fresh (Nat.le_refl _))
theorem D8 {l:Expr} {tl:TE} (hl:PE X l tl):PI X tg l (Qm X.K tl):=by
 intro pins s σ H R I h
 refine cI (hl pins s σ H _ I h) fun v s1 ⟨x,H1,I1,r1,q1⟩=>?_
 obtain ⟨a,e,⟨xs,hq⟩,q⟩:=q1
 subst e
 cases r1
 obtain ⟨its,rv,p,hz⟩:=I1.tuple hq
 refine wpAny_pyIter_tuple (show s1.heap.IsTuple a its.toArray from p) ?_
 refine ⟨s1.heap.objs.size,[s1.heap.objs.size],_,_,H1,rfl,I1.kept (t':=s1.toks) fun b o e=>Heap.get?_push_of_some _ e,zP a _,⟨_,Heap.get?_push_size _ rfl,rfl,rfl⟩,fun b hb=>?_,q⟩
 have e:b=s1.heap.objs.size:=by simpa using hb
 subst e
 exact I1.D6 (Nat.le_refl _) (I1.hok.fresh (Nat.le_refl _))
theorem D9 {pins:List (Addr ×Obj)} {σ:St} {H:Hp} {s:Shared} {R:It→Hp→Prop} {E:Value→Shared→Prop} {lo hi:Int} {t u v:Tok} {tk:Nat} (I:Inv X pins σ H s) (h1: -(2 ^ 62)≤lo) (h2:lo < 2 ^ 62) (h3: -(2 ^ 62)≤hi) (h4:hi < 2 ^ 62)
 (q:R (Pn lo (hi - lo).toNat) H):wpAny (model X.prog X.w) X.A (pyIter (.ref s.heap.objs.size)) (Qj X pins σ tg R) E { s with heap:=s.heap.push { cls:= .type "range",data:= .fields #[.int lo t,.int hi u,.int 1 v] },toks:=tk }:=by
 refine wpAny_pyIter_range (IsRange.new ..) (small_one h1 h2 h3 h4) ?_
 have I1:Inv X pins σ H { s with heap:=s.heap.push { cls:= .type "range",data:= .fields #[.int lo t,.int hi u,.int 1 v] },toks:=tk }:=I.kept fun b o e=>Heap.get?_push_of_some _ e
 refine ⟨(s.heap.push { cls:= .type "range",data:= .fields #[.int lo t,.int hi u,.int 1 v] }).objs.size,[(s.heap.push { cls:= .type "range",data:= .fields #[.int lo t,.int hi u,.int 1 v] }).objs.size],_,_,H,rfl,
  I1.kept (t':=tk) fun b o e=>Heap.get?_push_of_some _ e,zQ _ lo (hi - lo).toNat,?_,fun b hb=>?_,q⟩
 ·have e1:lo+((0:Nat):Int)*1=lo:=by simp
  have e2:(((hi - lo).toNat:Nat):Int) - ((0:Nat):Int)=Builtin.Range.rangeSize lo hi 1:=by rw [rangeSize_one];split <;> omega
  show IsRangeIter _ _ (lo+((0:Nat):Int)*1) ((((hi - lo).toNat:Nat):Int) - ((0:Nat):Int)) 1
  rw [e1,e2]
  exact Heap.get?_push_size _ rfl
 ·have e:b=(s.heap.push { cls:= .type "range",data:= .fields #[.int lo t,.int hi u,.int 1 v] }).objs.size:=by simpa using hb
  subst e
  exact I1.D6 (Nat.le_refl _) (I1.hok.fresh (Nat.le_refl _))
def Nc (ta:TA):TI:=fun σ H R=>ta σ H fun vs H1=> ∃ j:Int,vs= [.int j]∧ -(2 ^ 62)≤j∧j < 2 ^ 62∧R (Pn 0 j.toNat) H1
theorem Cv {a:Expr} {ta:TA} {p pos:Pos} (hg:Gl X "range") (hm:X.mg "range" =none) (ha:PA X [a] ta) (hs:starEach [a] X.env= [(false,eval a X.env)]:=by rfl):PI X tg (.Call (.Name "range" p) [a] [] pos) (Nc ta):=by
 intro pins s σ H R I h
 refine Call_ (ig I hg hm boot_range (PyProof.Rows.callWith_type1 (cI (ha pos pins s σ H _ I h) fun us s1 ⟨vs,H1,I1,r1,q1⟩=>?_) hs rfl))
 obtain ⟨j,e,q1,q2,q⟩:=q1
 subst e
 cases r1 with
 | cons r rr=>
   cases rr
   obtain ⟨t,rfl⟩:=r
   exact call_range_1 (D9 I1 (by omega) (by omega) q1 q2 (by simpa using q))
def Qn (wi:TI) (g:TG) (tb:TS):TS:=fun D σ H=>wi σ H fun J H1=> ∃ W:Nat→Nat→St→Hp→Prop,(∃ m,W 0 m σ H1)∧∀ i m σ H,W i m σ H→
 (J.stop i H∧D.nx σ H)∨(J.go i H∧∃ N:St→Hp→Prop,(∀ σ' H',N σ' H'→∃ m',m' < m∧W (i+1) m' σ' H')∧∀ x H',J.Hq i H x H'→g x σ H' fun σ2 H2=>tb { D with nx:=N,ct:=N,bk:=D.nx } σ2 H2)
def qW (fp:List Addr) (h:Heap):List (Addr ×Obj):=fp.filterMap fun b=>(h.get? b).map fun o=>(b,o)
theorem lR {fp:List Addr} {h:Heap} {b:Addr} {o:Obj} (hb:b∈fp) (e:h.get? b=some o):(b,o)∈qW fp h:=List.mem_filterMap.mpr ⟨b,hb,by rw [e];rfl⟩
theorem Cw {fp:List Addr} {h:Heap} {p:Addr ×Obj} (hp:p∈qW fp h):p.1∈fp∧h.get? p.1=some p.2:=by
 obtain ⟨b,hb,e⟩:=List.mem_filterMap.mp hp
 cases q:h.get? b with
 | none=>rw [q] at e;cases e
 | some o=>
   rw [q] at e
   have e':(b,o)=p:=Option.some.inj e
   subst e'
   exact ⟨hb,q⟩
theorem Inv.pinned {pins:List (Addr ×Obj)} {σ:St} {H:Hp} {s:Shared} {fp:List Addr} (I:Inv X pins σ H s) (hf:∀ b∈fp,jF X pins H b) (ho:∀ b∈fp,∃ o,s.heap.get? b=some o∧∀ v,o.data≠ .cell v):Inv X (pins ++ qW fp s.heap) σ H s:=
 I.qF fun p hp=>(List.mem_append.mp hp).elim (fun z=>I.pin p (List.mem_append_right _ z)) fun z=>by
   obtain ⟨hb,e⟩:=Cw z
   obtain ⟨f0,f1,f2,_⟩:=hf p.1 hb
   obtain ⟨o,e',d⟩:=ho p.1 hb
   rw [e] at e';cases e'
   exact ⟨e,f0,f1,f2,d⟩
theorem Inv.jS {pins pl:List (Addr ×Obj)} {σ:St} {H:Hp} {s:Shared} (I:Inv X (pins ++ pl) σ H s):Inv X pins σ H s:=I.qF fun p hp=>I.pin p (List.mem_append_right _ (List.mem_append_left _ hp))
theorem zR {iter:Expr} {body:List Stmt} {wi:TI} {g:TG} {tb:TS} {pos:Pos} (hp:PassesOwn (model X.prog X.w) X.A X.env X.xe) (hc:X.calm=true) (hi:PI X tg iter wi) (hg:PG X tg g) (hb:zO X body tb)
 (hs:∀ x,foldedSetIterable iter X.env x=pure x:=by intro _;rfl):PS X (.For tg iter body [] pos) (Qn wi g tb):=by
 intro pins s σ H D I h
 refine wpAny_For (cI (hi pins s σ H _ I h) fun v s1 h1=>cI h1 fun itv s2 h2=>?_) hs
 obtain ⟨it,fp,tn,J,H2,e,I2,T,st2,f2,W,⟨m0,w0⟩,turn⟩:=h2
 subst e
 have stat:∀ {H':Hp},(∀ b∈fp,H' b=none)→∀ b∈fp,jF X pins H' b:=fun hn b hb=>⟨hn b hb,(f2 b hb).2⟩
 refine codeAny_forLoop_any (fun n s'=> ∃ i σ' H',Inv X pins σ' H' s'∧tn i s'.heap∧(∀ b∈fp,H' b=none)∧W i n σ' H') ?_ m0 ⟨0,σ,H2,I2,st2,fun b hb=>(f2 b hb).1,w0⟩
 rintro n s3 ⟨i,σ3,H3,I3,st3,Su,w3⟩
 rcases turn i n σ3 H3 w3 with ⟨stop,qn⟩ | ⟨go,N,hN,step⟩
 ·refine wpAny_passesOwn hp (cI (T.done X rfl rfl rfl hc i pins s3 σ3 H3 X.xe I3 (stat Su) st3 stop) fun r s4 ⟨hr,I4⟩=>?_)
  subst hr
  exact wpAny_execs_nil ⟨σ3,H3,I4,qn⟩
 ·refine wpAny_passesOwn hp (cI (T.item X rfl rfl rfl hc i pins s3 σ3 H3 X.xe I3 (stat Su) st3 go) fun r s4 ⟨u,hr,h4⟩=>?_)
  subst hr
  refine wpAny_passesOwn hp (cI h4 fun _ s5 ⟨x,H5,I5,r5,y5,Mz,Hr⟩=>?_)
  have TY:=I5.pinned (stat Hr) (T.obj _ _ Mz)
  refine wpAny_passesOwn hp (cI (hg _ s5 σ3 H5 x u _ TY r5 (step x H5 y5)) fun _ s6 ⟨σ6,H6,I6,q6⟩=>?_)
  refine wpAny_passesOwn hp (cI (hb _ s6 σ6 H6 _ I6 q6) fun f s7 q7=>?_)
  have again:∀ {σ7:St} {H7:Hp},Inv X (pins ++ qW fp s5.heap) σ7 H7 s7→N σ7 H7→∃ m,m < n∧∃ i σ' H',Inv X pins σ' H' s7∧tn i s7.heap∧(∀ b∈fp,H' b=none)∧W i m σ' H':=fun {σ7 H7} I7 n7=>by
   obtain ⟨m',hm,w7⟩:=hN σ7 H7 n7
   refine ⟨m',hm,i+1,σ7,H7,I7.jS,T.keep _ _ _ Mz fun b hb o e=>(I7.pin (b,o) (List.mem_append_right _ (List.mem_append_right _ (lR hb e)))).1,fun b hb=>?_,w7⟩
   obtain ⟨o,e,d⟩:=T.obj _ _ Mz b hb
   exact (I7.pin (b,o) (List.mem_append_right _ (List.mem_append_right _ (lR hb e)))).2.1
  cases f with
  | next=>obtain ⟨σ7,H7,I7,n7⟩:=q7;exact again I7 n7
  | cont=>obtain ⟨σ7,H7,I7,n7⟩:=q7;exact again I7 n7
  | brk=>obtain ⟨σ7,H7,I7,q7⟩:=q7;exact ⟨σ7,H7,I7.jS,q7⟩
  | ret v=>obtain ⟨x7,σ7,H7,I7,r7,q7⟩:=q7;exact ⟨x7,σ7,H7,I7.jS,r7,q7⟩
end
end L2
namespace L2
open PySem PySem.Spec PyProof.Rows
abbrev R2:=V→V→Hp→VK→Prop
def xJ (X:Cx) (f:Value→Value→Sem Value) (r:R2):Prop:=
 ∀ (pins:List (Addr ×Obj)) (s:Shared) (σ:St) (H:Hp) (x y:V) (v u:Value) (Q:VK),Inv X pins σ H s→RelV x v→RelV y u→r x y H Q→
   wpAny (model X.prog X.w) X.A (f v u) (EP X pins σ Q) X.xe s
def Qo (X:Cx) (f:Value→Sem Value) (r:V→Hp→VK→Prop):Prop:=
 ∀ (pins:List (Addr ×Obj)) (s:Shared) (σ:St) (H:Hp) (x:V) (v:Value) (Q:VK),Inv X pins σ H s→RelV x v→r x H Q→
   wpAny (model X.prog X.w) X.A (f v) (EP X pins σ Q) X.xe s
def Be (X:Cx) (f:Value) (r:List V→Hp→VK→Prop):Prop:=
 ∀ (pins:List (Addr ×Obj)) (s:Shared) (σ:St) (H:Hp) (xs:List V) (us:List Value) (Q:VK),Inv X pins σ H s→Vals xs us→r xs H Q→
   wpAny (model X.prog X.w) X.A (call f us) (EP X pins σ Q) X.xe s
def TZ (r:R2) (ta tb:TE):TE:=fun σ H Q=>ta σ H fun x H1=>tb σ H1 fun y H2=>r x y H2 Q
def T3 (r:V→Hp→VK→Prop) (ta:TE):TE:=fun σ H Q=>ta σ H fun x H1=>r x H1 Q
def rI (C:Int→Int→Prop) (g:Int→Int→V):R2:=fun x y H Q=> ∃ i j,x= .int i∧y= .int j∧C i j∧Q (g i j) H
def Hs (g:Int→Int→V):R2:=fun x y H Q=> ∃ i j,x= .int i∧y= .int j∧Q (g i j) H
def rU (g:Int→V):V→Hp→VK→Prop:=fun x H Q=> ∃ i,x= .int i∧Q (g i) H
section
variable {X:Cx} {a b c:Expr} {ta tb tc:TE} {pos:Pos}
theorem Qp (ha:PE X a ta) (hb:PE X b tb) {pins:List (Addr ×Obj)} {s:Shared} {σ:St} {H:Hp} {R:V→V→Hp→Prop} (I:Inv X pins σ H s)
 (h:ta σ H fun x H1=>tb σ H1 fun y H2=>R x y H2) {Q:Value→Shared→Prop} {f:Value→Value→Sem Value}
 (hf:∀ v u s2 x y H2,Inv X pins σ H2 s2→RelV x v→RelV y u→R x y H2→wpAny (model X.prog X.w) X.A (f v u) Q X.xe s2) :
 wpAny (model X.prog X.w) X.A (eval a X.env) (fun v s₁=>wpAny (model X.prog X.w) X.A (eval b X.env) (fun u s₂=>wpAny (model X.prog X.w) X.A (f v u) Q X.xe s₂) X.xe s₁) X.xe s:=by
 refine cI (ha pins s σ H _ I h) fun v s1 ⟨x,H1,I1,r1,q1⟩=>?_
 refine cI (hb pins s1 σ H1 _ I1 q1) fun u s2 ⟨y,H2,I2,r2,q2⟩=>?_
 exact hf v u s2 x y H2 I2 r1 r2 q2
theorem Nd {op:UnaryOp} {r:V→Hp→VK→Prop} (ho:Qo X (unaryOp op) r) (ha:PE X a ta):PE X (.UnaryOp op a pos) (T3 r ta):=by
 intro pins s σ H Q I h
 exact UnaryOp_ (cI (ha pins s σ H _ I h) fun v s1 ⟨x,H1,I1,r1,q1⟩=>ho pins s1 σ H1 x v Q I1 r1 q1)
theorem Nf {f:Value→Value→Sem Value} {C:Int→Int→Prop} {g:Int→Int→Int}
 (rule:∀ (i j:Int) (t u:Tok) (s:Shared) (Q:Value→Shared→Prop) (E:Value→Shared→Prop),C i j→Q (.int (g i j) s.toks) { s with toks:=s.toks+1 }→wpAny (model X.prog X.w) X.A (f (.int i t) (.int j u)) Q E s) :
 xJ X f (rI C fun i j=> .int (g i j)):=by
 intro pins s σ H x y v u Q I rx ry h
 obtain ⟨i,j,rfl,rfl,hc,q⟩:=h
 obtain ⟨t,rfl⟩:=rx
 obtain ⟨t',rfl⟩:=ry
 exact rule i j t t' s _ _ hc ⟨.int (g i j),H,I.tok _,⟨_,rfl⟩,q⟩
theorem Ng {f:Value→Value→Sem Value} {g:Int→Int→Int}
 (rule:∀ (i j:Int) (t u:Tok) (s:Shared) (Q:Value→Shared→Prop) (E:Value→Shared→Prop),Q (.int (g i j) s.toks) { s with toks:=s.toks+1 }→wpAny (model X.prog X.w) X.A (f (.int i t) (.int j u)) Q E s) :
 xJ X f (Hs fun i j=> .int (g i j)):=by
 intro pins s σ H x y v u Q I rx ry h
 obtain ⟨i,j,rfl,rfl,q⟩:=h
 obtain ⟨t,rfl⟩:=rx
 obtain ⟨t',rfl⟩:=ry
 exact rule i j t t' s _ _ ⟨.int (g i j),H,I.tok _,⟨_,rfl⟩,q⟩
theorem Kp {f:Value→Value→Sem Value} {g:Int→Int→Bool}
 (rule:∀ (i j:Int) (t u:Tok) (s:Shared) (Q:Value→Shared→Prop) (E:Value→Shared→Prop),Q (.bool (g i j)) s→wpAny (model X.prog X.w) X.A (f (.int i t) (.int j u)) Q E s) :
 xJ X f (Hs fun i j=> .bl (g i j)):=by
 intro pins s σ H x y v u Q I rx ry h
 obtain ⟨i,j,rfl,rfl,q⟩:=h
 obtain ⟨t,rfl⟩:=rx
 obtain ⟨t',rfl⟩:=ry
 exact rule i j t t' s _ _ ⟨.bl (g i j),H,I,rfl,q⟩
def Kq (i j:Int):Prop:=(-(2 ^ 64) < i∧i < 2 ^ 64)∨(-(2 ^ 64) < j∧j < 2 ^ 64)
theorem Kq.ok {i j:Int} (h:Kq i j):IntMulOk i j:=by
 rcases h with ⟨h1,h2⟩ | ⟨h1,h2⟩
 ·exact .of_left (intBits_le_64 h1 h2)
 ·exact .of_right (intBits_le_64 h1 h2)
theorem Kr:xJ X (binaryOp .Add) (Hs fun i j=> .int (i+j)):=Ng fun _ _ _ _ _ _ _ q=>add_int q
theorem Ks:xJ X (binaryOp .Sub) (Hs fun i j=> .int (i - j)):=Ng fun _ _ _ _ _ _ _ q=>sub_int q
theorem Ku:xJ X (binaryOp .Mod) (rI (fun _ j=>0 < j) fun i j=> .int (i % j)):=Nf fun i j _ _ _ _ _ hc q=>by
 have h1:(0:Int) < j:=hc
 exact mod_int' (by omega) (by rw [Int.fmod_eq_emod_of_nonneg i (by omega)];exact q)
theorem T4 {f:Value→Sem Value} {g:Int→Int}
 (rule:∀ (i:Int) (t:Tok) (s:Shared) (Q:Value→Shared→Prop) (E:Value→Shared→Prop),Q (.int (g i) s.toks) { s with toks:=s.toks+1 }→wpAny (model X.prog X.w) X.A (f (.int i t)) Q E s) :
 Qo X f (rU fun i=> .int (g i)):=by
 intro pins s σ H x v Q I rx h
 obtain ⟨i,rfl,q⟩:=h
 obtain ⟨t,rfl⟩:=rx
 exact rule i t s _ _ ⟨.int (g i),H,I.tok _,⟨_,rfl⟩,q⟩
theorem Kv:Qo X (unaryOp .USub) (rU fun i=> .int (-i)):=T4 fun _ _ _ _ _ q=>neg_int q
end
def Kw:V→V→Bool
 | .aX,.aX=>true | .aX,.int _=>true | .int _,.aX=>true | .aX,.bl _=>true | .bl _,.aX=>true | .aX,.str _=>true | .str _,.aX=>true
 | .int _,.int _=>true | .bl _,.bl _=>true | .str _,.str _=>true | .DZ _,.DZ _=>true
 | .int _,.str _=>true | .str _,.int _=>true | .bl _,.str _=>true | .str _,.bl _=>true
 | _,_=>false
def T5:R2:=fun x y H Q=>Kw x y=true∧Q (.bl (decide (x=y))) H
def T6:R2:=fun x y H Q=>Kw x y=true∧Q (.bl (!decide (x=y))) H
theorem Bf {i j:Int}:decide (V.int i=V.int j)=(i == j):=by
 rw [Bool.eq_iff_iff]
 simp
theorem Ea {i j:Bool}:decide (V.bl i=V.bl j)=(i == j):=by
 rw [Bool.eq_iff_iff]
 simp
theorem Bg {i j:Str}:decide (V.str i=V.str j)=(i == j):=by
 rw [Bool.eq_iff_iff]
 simp
theorem Bh {i j:Array UInt8}:decide (V.DZ i=V.DZ j)=(i.toList == j.toList):=by
 rw [Bool.eq_iff_iff]
 cases i
 cases j
 simp
section
variable {X:Cx} {a b c:Expr} {ta tb tc:TE} {pos:Pos}
theorem aW {pins:List (Addr ×Obj)} {σ:St} {H:Hp} {s:Shared} {Q:VK} {k k':Bool} (I:Inv X pins σ H s) (q:Q (.bl k) H) (e:k=k'):EP X pins σ Q (.bool k') s:=by
 subst e
 exact ⟨.bl k,H,I,rfl,q⟩
theorem Nh:xJ X (compareOp .Eq) T5:=by
 intro pins s σ H x y v u Q I rx ry h
 obtain ⟨hs,q⟩:=h
 cases x with
 | aX=>
   cases rx
   cases y with
   | aX=>cases ry;exact PySem.EqNone.eq_none_none (aW I q (by simp))
   | bl j=>cases ry;exact PySem.EqNone.eq_none_bool (aW I q (by simp))
   | int j=>obtain ⟨t',rfl⟩:=ry;exact PySem.EqNone.eq_none_int (aW I q (by simp))
   | str j=>obtain ⟨t',rfl⟩:=ry;exact PySem.EqNone.eq_none_str (aW I q (by simp))
   | _=>exact absurd (show false=true from hs) Bool.false_ne_true
 | bl i=>
   cases rx
   cases y with
   | aX=>cases ry;exact PySem.EqNone.eq_bool_none (aW I q (by simp))
   | bl j=>cases ry;exact eq_bool (aW I q Ea)
   | str j=>obtain ⟨t',rfl⟩:=ry;exact PySem.EqMixed.eq_bool_str (aW I q (by simp))
   | _=>exact absurd (show false=true from hs) Bool.false_ne_true
 | int i=>
   obtain ⟨t,rfl⟩:=rx
   cases y with
   | aX=>cases ry;exact PySem.EqNone.eq_int_none (aW I q (by simp))
   | int j=>obtain ⟨t',rfl⟩:=ry;exact eq_int (aW I q Bf)
   | str j=>obtain ⟨t',rfl⟩:=ry;exact PySem.EqMixed.eq_int_str (aW I q (by simp))
   | _=>exact absurd (show false=true from hs) Bool.false_ne_true
 | str i=>
   obtain ⟨t,rfl⟩:=rx
   cases y with
   | aX=>cases ry;exact PySem.EqNone.eq_str_none (aW I q (by simp))
   | bl j=>cases ry;exact PySem.EqMixed.eq_str_bool (aW I q (by simp))
   | int j=>obtain ⟨t',rfl⟩:=ry;exact PySem.EqMixed.eq_str_int (aW I q (by simp))
   | str j=>obtain ⟨t',rfl⟩:=ry;exact eq_str (aW I q Bg)
   | _=>exact absurd (show false=true from hs) Bool.false_ne_true
 | DZ i=>
   obtain ⟨t,rfl⟩:=rx
   cases y with
   | DZ j=>obtain ⟨t',rfl⟩:=ry;exact PySem.W.eq_bytes (aW I q Bh)
   | _=>exact absurd (show false=true from hs) Bool.false_ne_true
 | _=>cases y <;> exact absurd (show false=true from hs) Bool.false_ne_true
theorem Ni:xJ X (compareOp .NotEq) T6:=by
 intro pins s σ H x y v u Q I rx ry h
 obtain ⟨hs,q⟩:=h
 cases x with
 | aX=>
   cases rx
   cases y with
   | aX=>cases ry;exact PySem.EqNone.ne_none_none (aW I q (by simp))
   | bl j=>cases ry;exact PySem.EqNone.ne_none_bool (aW I q (by simp))
   | int j=>obtain ⟨t',rfl⟩:=ry;exact PySem.EqNone.ne_none_int (aW I q (by simp))
   | str j=>obtain ⟨t',rfl⟩:=ry;exact PySem.EqNone.ne_none_str (aW I q (by simp))
   | _=>exact absurd (show false=true from hs) Bool.false_ne_true
 | bl i=>
   cases rx
   cases y with
   | aX=>cases ry;exact PySem.EqNone.ne_bool_none (aW I q (by simp))
   | bl j=>cases ry;exact ne_bool (aW I q (congrArg not Ea))
   | str j=>obtain ⟨t',rfl⟩:=ry;exact PySem.EqMixed.ne_bool_str (aW I q (by simp))
   | _=>exact absurd (show false=true from hs) Bool.false_ne_true
 | int i=>
   obtain ⟨t,rfl⟩:=rx
   cases y with
   | aX=>cases ry;exact PySem.EqNone.ne_int_none (aW I q (by simp))
   | int j=>obtain ⟨t',rfl⟩:=ry;exact ne_int (aW I q (congrArg not Bf))
   | str j=>obtain ⟨t',rfl⟩:=ry;exact PySem.EqMixed.ne_int_str (aW I q (by simp))
   | _=>exact absurd (show false=true from hs) Bool.false_ne_true
 | str i=>
   obtain ⟨t,rfl⟩:=rx
   cases y with
   | aX=>cases ry;exact PySem.EqNone.ne_str_none (aW I q (by simp))
   | bl j=>cases ry;exact PySem.EqMixed.ne_str_bool (aW I q (by simp))
   | int j=>obtain ⟨t',rfl⟩:=ry;exact PySem.EqMixed.ne_str_int (aW I q (by simp))
   | str j=>obtain ⟨t',rfl⟩:=ry;exact ne_str (aW I q (congrArg not Bg))
   | _=>exact absurd (show false=true from hs) Bool.false_ne_true
 | DZ i=>
   obtain ⟨t,rfl⟩:=rx
   cases y with
   | DZ j=>obtain ⟨t',rfl⟩:=ry;exact PySem.W.ne_bytes (aW I q (congrArg not Bh))
   | _=>exact absurd (show false=true from hs) Bool.false_ne_true
 | _=>cases y <;> exact absurd (show false=true from hs) Bool.false_ne_true
theorem Nj:xJ X (compareOp .Lt) (Hs fun i j=> .bl (decide (i < j))):=Kp fun _ _ _ _ _ _ _ q=>lt_int q
theorem Nk:xJ X (compareOp .Gt) (Hs fun i j=> .bl (decide (j < i))):=Kp fun _ _ _ _ _ _ _ q=>gt_int q
theorem Nl:xJ X (compareOp .GtE) (Hs fun i j=> .bl (decide (j≤i))):=Kp fun _ _ _ _ _ _ _ q=>ge_int q
theorem Kx:xJ X (compareOp .Is) (fun x y H Q=>y= .aX∧Q (.bl (decide (x= .aX))) H):=by
 intro pins s σ H x y v u Q I rx ry h
 obtain ⟨rfl,q⟩:=h
 cases ry
 refine is_none_gen (aW I q ?_)
 cases x <;> first
  | (cases rx;rfl)
  | (obtain ⟨t,rfl⟩:=rx;rfl)
theorem Hu:xJ X (compareOp .IsNot) (fun x y H Q=>y= .aX∧Q (.bl (!decide (x= .aX))) H):=by
 intro pins s σ H x y v u Q I rx ry h
 obtain ⟨rfl,q⟩:=h
 cases ry
 refine isnot_none_gen (aW I q ?_)
 cases x <;> first
  | (cases rx;rfl)
  | (obtain ⟨t,rfl⟩:=rx;rfl)
theorem aJ (b:Expr) {op:CmpOp} (h:op≠ .In:=by decide) (h2:op≠ .NotIn:=by decide):behindInMarks op b=false:=by
 have e1:(op == CmpOp.In)=false:=by cases op <;> first | rfl | exact absurd rfl h
 have e2:(op == CmpOp.NotIn)=false:=by cases op <;> first | rfl | exact absurd rfl h2
 cases b <;> simp [behindInMarks,e1,e2]
theorem zS:(sizeLine:Nat) < 2 ^ 63:=by rw [sizeLine_eq];decide
theorem vals1 {x:V} {us:List Value} (r:Vals [x] us):∃ u,us= [u]∧RelV x u:=by
 cases r with
 | cons r1 r2=>cases r2;exact ⟨_,rfl,r1⟩
theorem vals2 {x y:V} {us:List Value} (r:Vals [x,y] us):∃ u w',us= [u,w']∧RelV x u∧RelV y w':=by
 cases r with
 | cons r1 r2=>
   cases r2 with
   | cons r3 r4=>cases r4;exact ⟨_,_,rfl,r1,r3⟩
end
end L2
namespace L2
open PySem PySem.Spec PyProof.Rows
structure Ky (h:Heap) (x dx C:Addr) (mA:Str→Option Value):Prop where
 obj:h.get? x=some (PySem.W.instObj C dx)
 ns:h.Ns1 dx mA
 ne:dx≠x
theorem Cy {h:Heap} {dx:Addr} {mA:Str→Option Value} (n:h.Ns1 dx mA):∃ od,h.get? dx=some od∧∀ name,PySem.W.lookIn name od=some (mA name):=by
 obtain ⟨o,es,ep,ho,hd,hk,_,hm⟩:=n
 refine ⟨o,ho,fun name=>?_⟩
 have e:=hm name
 unfold nsFind findBy at e
 rw [← Array.find?_toList] at e
 unfold PySem.W.lookIn
 rw [hd]
 dsimp only
 split
 ·rename_i y q
  rw [q] at e
  exact congrArg some e
 ·rename_i q
  rw [q] at e
  have a:es.toList.any (·.refKey)=false:=by
   rw [List.any_eq_false]
   intro y hy
   obtain ⟨z,t,hkey⟩:=hk y (Array.mem_toList_iff.mp hy)
   simp [DictEntry.refKey,hkey]
  have a':¬ es.toList.any (·.refKey)=true:=by rw [a];exact Bool.false_ne_true
  rw [if_neg a']
  exact congrArg some e
theorem Ky.look {h:Heap} {x dx C:Addr} {mA:Str→Option Value} (I:Ky h x dx C mA):∃ od,PySem.W.InstAt h x (PySem.W.instObj C dx) C (some od)∧∀ name,PySem.W.lookIn name od=some (mA name):=
 let ⟨od,ho,hl⟩:=Cy I.ns
 ⟨od,⟨I.obj,rfl,rfl,ho⟩,hl⟩
section
variable {prog:Program} {w:World} {A:Around} {E:Value→Shared→Prop} {s:Shared} {K:PySem.W.Frag} {x dx C f:Addr} {mA:Str→Option Value} {name:Str} {v:Value}
end
section
variable {P:Program} {w:World} {H H':Hp} {h h':Heap} {a C dx:Addr} {fs fs':List (Str ×V)}
theorem Hv (hok:i7 P w H h) (e:H a=some (.ins C dx fs)):∃ mA,Ky h a dx C mA∧(∀ f,J5 (fs.lookup f) (mA f))∧PySem.Within mA (fs.map (·.1))∧fs.length≤1000∧H dx=some (.own a):=by
 obtain ⟨d,z,ne,ob,mA,n,r,q⟩:=(show cL P w H h a (.ins C dx fs) from hok a _ e)
 exact ⟨mA,⟨ob,n,ne⟩,r,q,z,d⟩
end
structure Qq (K:PySem.W.Frag) (C:Addr):Prop where
 pg:PySem.W.plainGet K C Str.empty=true
 hd:PySem.W.hasDictIn K C=true
 po:PySem.W.plainOver K C=true
 sa:PySem.W.findIn K (.ref C) "__setattr__" =some (some (.builtin "object.__setattr__"))
theorem Qq.get {K:PySem.W.Frag} {C:Addr} (c:Qq K C) (f:Str):PySem.W.plainGet K C f=true:=c.pg
structure Wr (K:PySem.W.Frag) (C:Addr) (f:Str) (v:V) (u:Value):Prop where
 at_:PySem.W.findIn K (.ref C) f=some (some u)
 rel:RelV v u
 get:PySem.W.specialIn K u "__get__" =some none
 cp:PySem.W.copiedNames.contains f=false
structure Meth (K:PySem.W.Frag) (C:Addr) (m:Str) (f:Addr):Prop where
 at_:PySem.W.findIn K (.ref C) m=some (some (.ref f))
 fn:PySem.W.isFn K (.ref f)=true
 kp:PySem.W.keepIn K (.ref f)=true
section
variable {X:Cx} {pins:List (Addr ×Obj)} {σ:St} {H:Hp} {s:Shared} {a C dx:Addr} {fs:List (Str ×V)} {f:Str} {v:V} {A:Around} {E:Value→Shared→Prop}
end
section
variable {X:Cx} {o e value:Expr} {f:Str} {pos pos' tpos:Pos} {ta tv:TE}
end
section
variable {X:Cx} {pins:List (Addr ×Obj)} {σ:St} {H:Hp} {s:Shared} {A:Around} {E:Value→Shared→Prop} {Q:Value→Shared→Prop} {c:Value} {b:Bool}
inductive qc (K:PySem.W.Frag) (H:Hp):V→Value→Prop where
 | aX:qc K H .aX (.type "NoneType")
 | bl (x:Bool):qc K H (.bl x) (.type "bool")
 | int (i:Int):qc K H (.int i) (.type "int")
 | str (x:Str):qc K H (.str x) (.type "str")
 | Mw (x:UInt64):qc K H (.Mw x) (.type "float")
 | lst {a:Addr} {xs:List V} (e:H a=some (.lst xs)):qc K H (.ref a) (.type "list")
 | mP {a:Addr} {o:Obj} {xs:List V} (e:H a=some (.mP o (.lst xs))):qc K H (.ref a) (.type "list")
 | tup {a:Addr} {xs:List V} (e:H a=some (.tup xs)):qc K H (.ref a) (.type "tuple")
 | dK {a:Addr} {kvs:List (Key ×V)} (e:H a=some (.dK kvs)):qc K H (.ref a) (.type "dict")
 | dT {a:Addr} {kvs:List (List Key ×V)} (e:H a=some (.dT kvs)):qc K H (.ref a) (.type "dict")
 | ins {a C dx:Addr} {fs:List (Str ×V)} (e:H a=some (.ins C dx fs)) (cl:Qq K C) (ha:PySem.W.findIn K (.ref C) "__class__" =some (some (.builtin "object.__class__")))
  (hn:PySem.W.specialIn K (.builtin "object.__class__") "__get__" =some (some (.builtin "getset_descriptor.__get__"))) (htk:PySem.W.takesIn K (.builtin "object.__class__")=some true)
  (hm:PySem.W.mroIn K C (.type "object")=some true):qc K H (.ref a) (.ref C)
theorem fZ {x:V} {u t:Value} (I:Inv X pins σ H s) (rx:RelV x u) (ty:qc X.K H x t) (e:PySem.W.kitOne X.K t c=some b) (h:∀ tk,Q (.bool b) { s with toks:=tk }) :
 wpAny (model X.prog X.w) A (call (.builtin "isinstance") [u,c]) Q E s:=by
 cases ty with
 | aX=>cases (show u=Value.none from rx);exact PySem.W.kia_one PySem.W.kitx_none I.xH True.intro e (fun z=>nomatch z) h
 | bl y=>cases (show u=Value.bool y from rx);exact PySem.W.kia_one PySem.W.kitx_bool I.xH True.intro e (fun z=>nomatch z) h
 | int i=>obtain ⟨t,q⟩:=(show ∃ t,u=Value.int i t from rx);cases q;exact PySem.W.kia_one PySem.W.kitx_int I.xH True.intro e (fun z=>nomatch z) h
 | str y=>obtain ⟨t,q⟩:=(show ∃ t,u=Value.str y t from rx);cases q;exact PySem.W.kia_one PySem.W.kitx_str I.xH True.intro e (fun z=>nomatch z) h
 | Mw y=>obtain ⟨t,q⟩:=(show ∃ t,u=Value.float y t from rx);cases q;exact PySem.W.kia_one PySem.W.kitx_float I.xH True.intro e (fun z=>nomatch z) h
 | @lst a xs ea=>
   cases (show u=Value.ref a from rx)
   obtain ⟨_,_,n,_,h1⟩:=(show cL X.prog X.w H s.heap a (.lst xs) from I.hok a _ ea)
   exact PySem.W.kia_one PySem.W.kitx_list I.xH ⟨_,h1,rfl⟩ e (fun z=>nomatch z) h
 | @mP a ob xs ea=>
   cases (show u=Value.ref a from rx)
   obtain ⟨_,_,_,n,_,h1⟩:=(show cL X.prog X.w H s.heap a (.mP ob (.lst xs)) from I.hok a _ ea)
   exact PySem.W.kia_one PySem.W.kitx_list I.xH ⟨_,h1,rfl⟩ e (fun z=>nomatch z) h
 | @tup a xs ea=>
   cases (show u=Value.ref a from rx)
   obtain ⟨_,_,_,p⟩:=(show cL X.prog X.w H s.heap a (.tup xs) from I.hok a _ ea)
   obtain ⟨o,h1,h2,_⟩:=p
   exact PySem.W.kia_one PySem.W.kitx_tuple I.xH ⟨o,h1,h2⟩ e (fun z=>nomatch z) h
 | @dK a kvs ea=>
   cases (show u=Value.ref a from rx)
   obtain ⟨_,_,vs,_,p⟩:=(show cL X.prog X.w H s.heap a (.dK kvs) from I.hok a _ ea)
   obtain ⟨o,es,ep,h1,h2,_⟩:=p
   exact PySem.W.kia_one PySem.W.kitx_dict I.xH ⟨o,h1,h2.1⟩ e (fun z=>nomatch z) h
 | @dT a kvs ea=>
   cases (show u=Value.ref a from rx)
   obtain ⟨_,_,xs,_,o,es,ep,h1,h2,_⟩:=(show cL X.prog X.w H s.heap a (.dT kvs) from I.hok a _ ea)
   exact PySem.W.kia_one PySem.W.kitx_dict I.xH ⟨o,h1,h2.1⟩ e (fun z=>nomatch z) h
 | @ins a C dx fs ea cl ha hn htk hm=>
   cases (show u=Value.ref a from rx)
   obtain ⟨mA,O,_⟩:=Hv I.hok ea
   obtain ⟨od,J,_⟩:=O.look
   exact PySem.W.kia_one (PySem.W.kitx_own (cl.get _) cl.hd ha hn htk hm) I.xH J e (fun z=>nomatch z) h
end
end L2
namespace L2
open PySem PySem.Spec PyProof.Rows
structure iw (k:Nat) (A:Around):Prop where
 hd:A.handled=none
 dp:A.depth+3*k+5 < recursionLimit
 un:A.units+16*k+200 < cLine
theorem iw.mono {j k:Nat} {A:Around} (r:iw k A) (h:j≤k):iw j A:=⟨r.hd,by have:=r.dp;omega,by have:=r.un;omega⟩
theorem iw.deeper {k:Nat} {A:Around} (r:iw (k+1) A) (env:Env):iw k (A.deeper env):=
 ⟨r.hd,by have:=r.dp;show A.depth+1+3*k+5 < _;omega,by have:=r.un;show A.units+3+16*k+200 < _;omega⟩
theorem iw.depth {k:Nat} {A:Around} (r:iw k A):A.depth < recursionLimit:=by have:=r.dp;omega
theorem iw.units {k:Nat} {A:Around} (r:iw k A):A.units+64 < cLine:=by have:=r.un;omega
def Kz:TA:=fun _ H Q=>Q [] H
def Eb (ta:TE) (tr:TA):TA:=fun σ H Q=>ta σ H fun x H1=>tr σ H1 fun xs H2=>Q (x :: xs) H2
section
variable {X:Cx} {e:Expr} {es:List Expr} {te:TE} {t:TA} {pos:Pos}
theorem oA:PA X [] Kz:=fun _ _ _ _ H Q I h=>Calls.spliced_nil ⟨[],H,I,.nil,h⟩
theorem kT (ha:PE X e te) (hr:PA X es t) (hs:starEach (e :: es) X.env=(false,eval e X.env) :: starEach es X.env:=by rfl):PA X (e :: es) (Eb te t):=by
 intro pos pins s σ H Q I h
 rw [hs]
 show wpAny _ _ (spliced ((false,eval e X.env) :: backTo pos (starEach es X.env))) _ _ s
 refine Calls.spliced_cons (cI (ha pins s σ H _ I h) fun u s1 ⟨x,H1,I1,r1,q1⟩=>?_)
 exact cI (hr pos pins s1 σ H1 _ I1 q1) fun us s2 ⟨xs,H2,I2,r2,q2⟩=>⟨x :: xs,H2,I2,.cons r1 r2,q2⟩
def Qt (t:TA):TE:=fun σ H Q=>t σ H fun xs H1=>xs.length≤sizeLine∧∀ p,H1 p=none→Q (.ref p) (upd H1 p (.tup xs))
def Qu (t:TA):TE:=fun σ H Q=>t σ H fun xs H1=>xs.length≤sizeLine∧∀ p,H1 p=none→Q (.ref p) (upd H1 p (.lst xs))
theorem KA {x1} (h:PA X es t):PE X (.Tuple es x1 pos) (Qt t):=by
 intro pins s σ H Q I hq
 refine wpAny_Tuple_spliced (cI (h pos pins s σ H _ I hq) fun us s1 ⟨xs,H1,I1,r,z,q⟩=>⟨by rw [← r.length];exact z,?_⟩)
 have hf:H1 s1.heap.objs.size=none:=I1.hok.fresh (Nat.le_refl _)
 refine ⟨.ref s1.heap.objs.size,upd H1 s1.heap.objs.size (.tup xs),I1.laid (t':=s1.toks) (fun b u e=>Heap.get?_push_of_some _ e) (Nat.le_refl _) ?_,rfl,q _ hf⟩
 exact ⟨z,us,r,⟨_,Heap.get?_push_size _ rfl,rfl,_,rfl⟩⟩
theorem KC (h:PA X es t):PE X (.List es pos) (Qu t):=by
 intro pins s σ H Q I hq
 refine wpAny_List_spliced (cI (h pos pins s σ H _ I hq) fun us s1 ⟨xs,H1,I1,r,z,q⟩=>⟨by rw [← r.length];exact z,?_⟩)
 have hf:H1 s1.heap.objs.size=none:=I1.hok.fresh (Nat.le_refl _)
 refine ⟨.ref s1.heap.objs.size,upd H1 s1.heap.objs.size (.lst xs),I1.laid (t':=s1.toks) (fun b u e=>Heap.get?_push_of_some _ e) (Nat.le_refl _) ?_,rfl,q _ hf⟩
 exact ⟨z,us,0,r,Heap.get?_push_size _ rfl⟩
end
abbrev Sp:=List V→Hp→VK→XK→Prop
abbrev Ec:=List Env→Hp→Shared→XK→Value→Shared→Prop
structure Hw (P:Program) (w:World) (K:PySem.W.Frag) (mg:Str→Option Value) (base:Heap) (A:Around) (outer:List Env) (s:Shared) (H:Hp):Prop where
 frames:A.frames=some outer
 mod:Mod K mg base
 bs:∀ b o,base.get? b=some o→s.heap.get? b=some o∧H b=none
 Ju:base.objs.size≤s.heap.objs.size
 qb:s.heap.FunFrames base outer
 J8:∀ b∈frs outer,H b=none
 hok:i7 P w H s.heap
 bare:AllBare s.gens
def CE (outer:List Env) (P:Program) (w:World) (H:Hp) (s:Shared) (Q:VK) (u:Value) (s':Shared):Prop:=
 ∃ v H',s'.os=s.os∧AllBare s'.gens∧Un (frs outer) [] H H' s.heap s'.heap∧i7 P w H' s'.heap∧RelV v u∧Q v H'
def CR (CX:Ec) (outer:List Env) (P:Program) (w:World) (H:Hp) (s:Shared) (Q:VK) (E:XK) (r:Result) (s':Shared):Prop:=
 match r with
 | .ok (.ret u)=>CE outer P w H s Q u s'
 | .ok _=>False
 | .error e=>CX outer H s E e s'
structure bO (P:Program) (w:World) (K:PySem.W.Frag) (mg:Str→Option Value) (base:Heap) (CX:Ec) (k:Nat) (f:Addr) (fd:FuncData) (ps:List Str) (sp:Sp):Prop where
 len:∀ vs H Q E,sp vs H Q E→vs.length=ps.length
 run:∀ (A:Around) (outer:List Env) (s:Shared) (H:Hp) (args:Args) (us:List Value) (vs:List V) (Q:VK) (E:XK),iw k A→Hw P w K mg base A outer s H→BindsTo s fd args (ps.zip us)→Vals vs us→sp vs H Q E→
  codeAny (model P w) A (.call (.ref f) args) (CR CX outer P w H s Q E) s
section
variable {X:Cx} {pins:List (Addr ×Obj)} {σ:St} {H:Hp} {s s':Shared}
theorem Inv.Qv (I:Inv X pins σ H s):Hw X.prog X.w X.K X.mg X.base X.A X.stack s H:=
 ⟨I.ok.frames,I.ok.mod,I.bs,Nat.le_trans I.ok.Ju I.sz,I.stack,I.Bc,I.hok,I.bare⟩
theorem Inv.after {Q:VK} {u:Value} (I:Inv X pins σ H s) (h:CE X.stack X.prog X.w H s Q u s'):EP X pins σ Q u s':=by
 obtain ⟨v,H',os,bare,un,hok,r,q⟩:=h
 obtain ⟨hh,g,d,t,os'⟩:=s'
 obtain rfl:os'=s.os:=os
 exact ⟨v,H',I.call (h':=hh) (g':=g) (d':=d) (t':=t) (ch:=[]) un hok bare (fun b z=>absurd z (by simp)),r,q⟩
end
def Nm (sp:Sp) (DT:List V) (E:XK) (t:TA):TE:=fun σ H Q=>t σ H fun vs H1=>sp (vs ++ DT) H1 Q E
def Binds (K:PySem.W.Frag) (fd:FuncData) (ps:List Str) (ds:List Value):Prop:=
 ∀ (s:Shared) (us:List Value),K.In s.heap→(us ++ ds).length=ps.length→BindsTo s fd ⟨us,[]⟩ (ps.zip (us ++ ds))
theorem Binds.all {K:PySem.W.Frag} {fd:FuncData} {ps:List Str} (h:∀ us:List Value,us.length=ps.length→bindArgs fd ⟨us,[]⟩=pure (ps.zip us)):Binds K fd ps []:=fun s us _ hl=>by
 rw [List.append_nil] at hl ⊢
 exact .of_eq (h us hl)
def Passes (CX:Ec) (X:Cx) (E:XK):Prop:= ∀ (pins:List (Addr ×Obj)) (σ:St) (H:Hp) (s:Shared) (e:Value) (s':Shared),Inv X pins σ H s→CX X.stack H s E e s'→X.xe e s'
section
variable {X:Cx} {CX:Ec} {k:Nat} {f C:Addr} {fd:FuncData} {ps:List Str} {sp:Sp} {DT:List V} {ds:List Value} {E:XK} {x m:Str} {p pos apos:Pos} {e o:Expr} {es:List Expr} {ta:TE} {t:TA}
theorem KD {pins:List (Addr ×Obj)} {σ:St} {H:Hp} {s:Shared} {Q:VK} {us:List Value} {vs:List V} (F:bO X.prog X.w X.K X.mg X.base CX k f fd ps sp) (hr:iw k X.A) (hb:Binds X.K fd ps ds) (hd:Vals DT ds) (hx:Passes CX X E)
 (I:Inv X pins σ H s) (r:Vals vs us) (h:sp (vs ++ DT) H Q E):wpAny (model X.prog X.w) X.A (call (.ref f) us) (EP X pins σ Q) X.xe s:=by
 have r2:Vals (vs ++ DT) (us ++ ds):=r.append hd
 have hl:(us ++ ds).length=ps.length:=by rw [← r2.length];exact F.len _ _ _ _ h
 refine wpAny_call (codeAny_mono (F.run X.A X.stack s H ⟨us,[]⟩ (us ++ ds) (vs ++ DT) Q E hr I.Qv (hb s us I.xH hl) r2 h) fun r s' hq=>?_)
 cases r with
 | error e=>exact hx pins σ H s e s' I hq
 | ok fl=>
   cases fl with
   | ret u=>exact I.after hq
   | next=>exact False.elim hq
   | brk=>exact False.elim hq
   | cont=>exact False.elim hq
theorem Bj (F:bO X.prog X.w X.K X.mg X.base CX k f fd ps sp) (hr:iw k X.A) (hg:Gl X x) (hm:X.mg x=some (.ref f)) (hk:PySem.W.keepIn X.K (.ref f)=true) (hb:Binds X.K fd ps ds) (hd:Vals DT ds) (hx:Passes CX X E)
 (ha:PA X (e :: es) t) (hdb:(x == ("__debug__" :Str))=false:=by decide) (he:starEach (e :: es) X.env=(false,eval e X.env) :: starEach es X.env:=by rfl) (hpl:(backTo pos (starEach es X.env)).any (·.1)=false:=by rfl) :
 PE X (.Call (.Name x p) (e :: es) [] pos) (Nm sp DT E t):=by
 intro pins s σ H Q I h
 refine wpAny_Call_Name_kw (Hf I hg hm ?_ hdb)
 refine PySem.W.callWith_K (h₀:=X.base) I.ok.mod.Jt hk (cI (ha pos pins s σ H _ I h) fun us s1 ⟨vs,H1,I1,r,q⟩=>⟨I1.xH,?_⟩) he hpl
 exact KD F hr hb hd hx I1 r q
structure Mk (K:PySem.W.Frag) (C f:Addr):Prop where
 makes:PySem.W.makesIn K C=true
 init:PySem.W.findIn K (.ref C) "__init__" =some (some (.ref f))
 fn:PySem.W.isFn K (.ref f)=true
 kp:PySem.W.keepIn K (.ref C)=true
end
section
variable {X:Cx} {CX:Ec} {k:Nat} {f C:Addr} {fd:FuncData} {ps ks:List Str} {sp:Sp} {E:XK} {x m:Str} {p pos apos kpos:Pos} {e o:Expr} {es:List Expr} {kws:List Keyword} {te ta:TE} {t tk:TA} {nm:Option Str}
structure Qw (K:PySem.W.Frag) (fd:FuncData) (ps ks:List Str) (g:List Value→List Value→List Value) (gV:List V→List V→List V):Prop where
 to:∀ (s:Shared) (us ws:List Value),K.In s.heap→(g us ws).length=ps.length→BindsTo s fd ⟨us,ks.zip ws⟩ (ps.zip (g us ws))
 rel:∀ {vs:List V} {us:List Value} {zs:List V} {ws:List Value},Vals vs us→Vals zs ws→Vals (gV vs zs) (g us ws)
variable {g:List Value→List Value→List Value} {gV:List V→List V→List V}
end
structure aG (N P:List Str) (sc:Scope):Prop where
 kind:sc.kind= .function
 co:sc.isCoroutine=false
 gen:sc.isGenerator=false
 nd:N.Nodup
 pre:N.take P.length=P
 par:∀ x∈P,sc.names.lookup x=some .local∨sc.names.lookup x=some .cell
 KG:∀ y∈sc.names,y.2≠ .free
theorem uG {kindOf:Str→Option NameKind} {x:Str}:∀ {binds:List (Str ×Value)} {m:Str→Option Value},(∀ v,(x,v)∉binds)→bindL kindOf binds m x=m x
 | [],_,_=>rfl
 | (n,v) :: r,m,h=>by
   unfold bindL
   rw [uG fun w hw=>h w (List.mem_cons_of_mem _ hw)]
   split
   ·have:x≠n:=by rintro rfl;exact h v List.mem_cons_self
    simp [this]
   ·rfl
theorem uH {kindOf:Str→Option NameKind} {x:Str}:∀ {binds:List (Str ×Value)} {m:Str→Option Value},(∀ v,(x,v)∉binds)→bindC kindOf binds m x=m x
 | [],_,_=>rfl
 | (n,v) :: r,m,h=>by
   unfold bindC
   rw [uH fun w hw=>h w (List.mem_cons_of_mem _ hw)]
   split
   ·rfl
   ·have:x≠n:=by rintro rfl;exact h v List.mem_cons_self
    simp [this]
theorem uI {kindOf:Str→Option NameKind} {x:Str} {v:Value}:∀ {P:List Str} {vs:List Value} {i:Nat} {m:Str→Option Value},P.Nodup→P[i]?=some x→vs[i]?=some v→kindOf x=some .local→
 bindL kindOf (P.zip vs) m x=some v
 | [],_,_,_,_,h,_,_=>by simp at h
 | _ :: _,[],_,_,_,_,h,_=>by simp at h
 | p :: P,w :: vs,0,m,nd,h1,h2,hk=>by
   simp at h1 h2;subst h1;subst h2
   show bindL kindOf ((p,w) :: P.zip vs) m p=_
   unfold bindL
   rw [uG fun v hv=>(List.nodup_cons.mp nd).1 (List.of_mem_zip hv).1,if_pos hk]
   simp
 | p :: P,w :: vs,i+1,m,nd,h1,h2,hk=>by
   show bindL kindOf ((p,w) :: P.zip vs) m x=_
   unfold bindL
   exact uI (i:=i) (List.nodup_cons.mp nd).2 (by simpa using h1) (by simpa using h2) hk
theorem uJ {kindOf:Str→Option NameKind} {x:Str} {v:Value}:∀ {P:List Str} {vs:List Value} {i:Nat} {m:Str→Option Value},P.Nodup→P[i]?=some x→vs[i]?=some v→kindOf x≠some .local→
 bindC kindOf (P.zip vs) m x=some v
 | [],_,_,_,_,h,_,_=>by simp at h
 | _ :: _,[],_,_,_,_,h,_=>by simp at h
 | p :: P,w :: vs,0,m,nd,h1,h2,hk=>by
   simp at h1 h2;subst h1;subst h2
   show bindC kindOf ((p,w) :: P.zip vs) m p=_
   unfold bindC
   rw [uH fun v hv=>(List.nodup_cons.mp nd).1 (List.of_mem_zip hv).1,if_neg hk]
   simp
 | p :: P,w :: vs,i+1,m,nd,h1,h2,hk=>by
   show bindC kindOf ((p,w) :: P.zip vs) m x=_
   unfold bindC
   exact uJ (i:=i) (List.nodup_cons.mp nd).2 (by simpa using h1) (by simpa using h2) hk
def start (N:List Str) (vs:List V):St:=vs.map some ++ List.replicate (N.length - vs.length) none
def qd (CX:Ec) (P:Program) (w:World) (K:PySem.W.Frag) (mg:Str→Option Value) (base:Heap) (N:List Str) (qual:Str) (scope:Scope) (f:Addr) (cd:Value) (A:Around) (outer:List Env) (s:Shared) (H:Hp) (E:XK):Cx where
 prog:=P
 w:=w
 K:=K
 mg:=mg
 base:=base
 A:=A.deeper (envOfC qual scope s.heap.objs.size f cd)
 N:=N
 s₀:=s
 H₀:=H
 env:=envOfC qual scope s.heap.objs.size f cd
 outer:=outer
 stack:=envOfC qual scope s.heap.objs.size f cd :: outer
 ex:=[]
 calm:=true
 fn:=fun _=>true
 pn:=[]
 xe:=fun e s'=>wpAny (model P w) (A.deeper (envOfC qual scope s.heap.objs.size f cd)) (leaving (envOfC qual scope s.heap.objs.size f cd) e) (fun _ s''=>CX outer H s E e s'') (fun e' s''=>CX outer H s E e' s'') s'
theorem xU {sc:Scope} {n:Nat} {x:Str} (h:sc.names.lookup x=some .cell):∃ c,(cellsFrom n sc.names []).lookup x=some c:=by
 have q:=PySem.W.cellsFrom_some sc.names n [] (.inl h)
 exact Option.isSome_iff_exists.mp q
theorem Cz {CX:Ec} {P:Program} {w:World} {K:PySem.W.Frag} {mg:Str→Option Value} {base:Heap} {N ps:List Str} {qual:Str} {scope:Scope} {f:Addr} {cd:Value} {A:Around} {outer:List Env} {s s1:Shared} {H:Hp} {E:XK} {us:List Value} {vs:List V}
 (S:aG N ps scope) (hd:A.handled=none) (e0:Hw P w K mg base A outer s H) (hl:vs.length=ps.length) (r:Vals vs us)
 (x:InCallC s s.heap.objs.size (bindL (envOfC qual scope s.heap.objs.size f cd).kindOf (ps.zip us) fun _=>none) (cellsFrom (s.heap.objs.size+1) scope.names []) (bindC (envOfC qual scope s.heap.objs.size f cd).kindOf (ps.zip us) fun _=>none) s1) :
 Inv (qd CX P w K mg base N qual scope f cd A outer s H E) [] (start N vs) H s1:=by
 have hpl:ps.length≤N.length:=by have:=congrArg List.length S.pre;rw [List.length_take] at this;omega
 obtain ⟨h1,tk,rfl,hk⟩:=x.done
 have Nn:∀ b:Addr,b∉(qd CX P w K mg base N qual scope f cd A outer s H E).ex:=fun b z=>absurd (show b∈([]:List Addr) from z) (by simp)
 refine ⟨⟨e0.mod,S.kind,rfl,rfl,Nat.le_refl _,fun y z c h1 h2=>?_,fun y hy=>?_,fun y c _ h=>?_,fun _=>hd,Around.frames_deeper e0.frames,.inr ⟨rfl,rfl⟩,fun b z=>absurd z (Nn b),e0.bs,e0.Ju,fun b _ _=>Nn b,fun b z=>absurd z (Nn b),e0.qb,e0.J8⟩,
  rfl,e0.bare,Un.kept hk,⟨_,x.toInCall.ns,fun i y v h1 h2 h3=>?_⟩,fun y c h=>⟨_,x.cell y c h⟩,e0.hok.fresh (Nat.le_refl _),fun y c h=>?_,fun p hp=>absurd (show p∈([]:List (Addr ×Obj)) from hp) (by simp),e0.hok.kept hk,?_⟩
 ·exact name_of_addr x.apart (PySem.mem_of_lookup h1) (PySem.mem_of_lookup h2)
 ·have hy:scope.names.lookup y=some .cell∨scope.names.lookup y=some .free:=hy
  rcases hy with hy | hy
  ·exact xU hy
  ·exact absurd rfl (S.KG _ (PySem.mem_of_lookup hy))
 ·exact Nat.le_of_lt (x.above y c (PySem.mem_of_lookup h))
 ·have hi:i < vs.length:=by
   unfold start at h2
   by_cases hi:i < vs.length
   ·exact hi
   ·rw [List.getElem?_append_right (by simpa using hi)] at h2
    rw [List.getElem?_replicate] at h2
    split at h2 <;> cases h2
  have ha:vs[i]?=some v:=by
   unfold start at h2
   rw [List.getElem?_append_left (by simpa using hi),List.getElem?_map] at h2
   cases e:vs[i]? with
   | none=>rw [e] at h2;cases h2
   | some a=>rw [e] at h2;cases h2;rfl
  obtain ⟨u,hu,rv⟩:=r.get ha
  have hp:ps[i]?=some y:=by
   rw [← S.pre,List.getElem?_take_of_lt (by omega)];exact h1
  have Sv:ps.Nodup:=by rw [← S.pre];exact S.nd.sublist (List.take_sublist _ _)
  refine ⟨u,rv,?_⟩
  rcases S.par y (List.mem_of_getElem? hp) with k | k
  ·exact .inl ⟨k,uI Sv hp hu k⟩
  ·obtain ⟨c,e⟩:=xU (n:=s.heap.objs.size+1) k
   refine .inr ⟨.inl k,c,e,?_⟩
   have q:=x.cell y c e
   rw [uJ Sv hp hu (by show scope.names.lookup y≠_;rw [k];decide)] at q
   exact q
 ·exact e0.hok.fresh (Nat.le_of_lt (x.above y c (PySem.mem_of_lookup h)))
 ·unfold start
  show _=N.length
  rw [List.length_append,List.length_map,List.length_replicate]
  omega
theorem Np {CX:Ec} {P:Program} {w:World} {K:PySem.W.Frag} {mg:Str→Option Value} {base:Heap} {k:Nat} {f:Addr} {name qual:Str} {params:Arguments} {body:List Stmt} {scope:Scope} {dV kV doc pm cdv ct oc:Value} {an od:Option Addr}
 {osl:Array (Option Value)} {N ps:List Str} {sp:Sp} (lk:K.lookup f=some ⟨oc,od,.func (PySem.W.fnOf name qual params body scope dV kV doc pm an cdv ct),osl⟩) (hcd:PySem.W.codeIn K cdv qual=true) (S:aG N ps scope)
 (len:∀ vs H Q E,sp vs H Q E→vs.length=ps.length)
 (hbody:∀ (A:Around) (outer:List Env) (s:Shared) (H:Hp) (vs:List V) (Q:VK) (E:XK),iw k (A.deeper (envOfC qual scope s.heap.objs.size f cdv))→sp vs H Q E→
  ∃ t,zO (qd CX P w K mg base N qual scope f cdv A outer s H E) body t∧t { nx:=fun _ H'=>Q .aX H',rt:=Q } (start N vs) H) :
 bO P w K mg base CX (k+1) f (PySem.W.fnOf name qual params body scope dV kV doc pm an cdv ct) ps sp:=by
 refine ⟨len,fun A outer s H args us vs Q E hr e0 hb r Jx=>?_⟩
 have hl:=len _ _ _ _ Jx
 have KX:K.In s.heap:=e0.mod.Jt.keeps fun b o e=>(e0.bs b o e).1
 have lim:s.heap.NoLimit:=e0.mod.nolimit.keeps fun b o e=>(e0.bs b o e).1
 have hkind:∀ y∈ps.zip us,scope.names.lookup y.1=some .local∨(scope.names.lookup y.1=some .cell∧((cellsFrom (s.heap.objs.size+1) scope.names []).lookup y.1).isSome=true):=fun ⟨n,v⟩ hy=>by
  rcases S.par n (List.of_mem_zip hy).1 with q | q
  ·exact .inl q
  ·exact .inr ⟨q,PySem.W.cellsFrom_some _ _ _ (.inl q)⟩
 refine codeAny_call_function hr.depth (KX _ _ lk) rfl S.co S.gen rfl (PySem.W.codeRec_of KX hcd) (hb _ _ _ _ ?_)
 refine wpAny_newFunctionEnv_cells S.kind hkind fun env he s1 x=>?_
 subst he
 refine ⟨lim.keeps x.toInCall.keep,codeAny_func ?_⟩
 obtain ⟨t,ht,hq⟩:=hbody A outer s H vs Q E (hr.deeper _) Jx
 have I:Inv (qd CX P w K mg base N qual scope f cdv A outer s H E) [] (start N vs) H s1:=Cz S hr.hd e0 hl r x
 refine wpAny_mono (ht [] s1 (start N vs) H _ I hq) (fun fl s' hs=>?_) fun e s' hs=>hs
 have fin:∀ {σ':St} {H':Hp} {v:V} {u:Value},Inv (qd CX P w K mg base N qual scope f cdv A outer s H E) [] σ' H' s'→RelV v u→Q v H'→CE outer P w H s Q u s':=
  fun {σ' H' v u} J rv q=>⟨v,H',J.os,J.bare,J.base,J.hok,rv,q⟩
 cases fl with
 | ret u=>
   obtain ⟨v,σ',H',J,rv,q⟩:=hs
   exact fin J rv q
 | next=>
   obtain ⟨σ',H',J,q⟩:=hs
   exact fin (v:=V.aX) (u:=Value.none) J rfl q
 | brk=>
   obtain ⟨_,_,_,q⟩:=hs
   exact False.elim q
 | cont=>
   obtain ⟨_,_,_,q⟩:=hs
   exact False.elim q
end L2
namespace L2
open PySem PySem.Spec PyProof.Rows
section
variable {X:Cx} {x:Str} {p pos:Pos} {e:Expr} {es:List Expr} {t:TA} {id T:String} {r:List V→Hp→VK→Prop}
end
end L2
namespace HT
open PySem PyProof.Rows
def lexLt:List Int→List Int→Bool
 | [],[]=>false
 | [],_ :: _=>true
 | _ :: _,[]=>false
 | x :: xs,y :: ys=>if x=y then lexLt xs ys else decide (x < y)
theorem jc (x y:Int) (xs ys:List Int):lexLt (x :: xs) (y :: ys)=if x=y then lexLt xs ys else decide (x < y):=rfl
theorem iy:lexLt [] []=false:=rfl
theorem jT (y:Int) (ys:List Int):lexLt [] (y :: ys)=true:=rfl
theorem jU (x:Int) (xs:List Int):lexLt (x :: xs) []=false:=rfl
theorem xV (A:Around) (s:Shared) (a:Int) (t:Tok) (c:Int) (u:Tok):∃ e,SeqAt.EqAt A s (.int a t) (.int c u) e∧(e=true↔a=c):=
 ⟨(a == c),SeqAt.EqAt.int_int a t c u,by simp⟩
theorem Ed (A:Around) (s:Shared) (a:Int) (t:Tok) (c:Int) (u:Tok) (prog:Program) (w:World) (E:Value→Shared→Prop) (Q:Value→Shared→Prop) (h:Q (.bool (decide (a < c))) s) :
 wpAny (model prog w) A (richCompare .Lt (.int a t) (.int c u)) Q E s:=
 (PyProof.Rows.lt_int h:wpAny (model prog w) A (compareOp .Lt (.int a t) (.int c u)) Q E s)
section
open PySem.SeqAt
open PySem.AutoSeq1 (wpAny_loadPart')
open PySem.MeetsSeq PySem.MeetsSeq2 PySem.MeetsSeq3
theorem ua (l b:Addr) (items items2:Array Value) (n n2:Nat) (dd dd2:Option Addr) (sl sl2:Array (Option Value)) (ns ms:List Int) (hi:IntsAre items.toList ns) (hj:IntsAre items2.toList ms) :
 Meets (Builtin.«tuple.__lt__» ⟨[.ref l,.ref b],[]⟩)
  (fun _ R s=>s.heap.get? l=some { cls:= .type "tuple",dict:=dd,data:= .seq items n,slots:=sl }∧s.heap.get? b=some { cls:= .type "tuple",dict:=dd2,data:= .seq items2 n2,slots:=sl2 }∧
   R (.ok (.ret (.bool (lexLt ns ms)))) s):=
 .of_wp fun prog w A R s h=>by
  obtain ⟨hp,g,d,tk,os⟩:=s;obtain ⟨hl,hb,h⟩:=h
  have f2:=AutoSeq1.sub_tuple_tuple
  have z1:items.size=ns.length:=by rw [← hi.length];simp
  have z2:items2.size=ms.length:=by rw [← hj.length];simp
  wp_walk using wpAny_loadPart' hl,wpAny_loadPart' hb,wpAny_forIn_list _ (fun rest b s'=>b.1=none∧s'= ⟨hp,g,d,tk,os⟩∧∃ (vs ws:List Value) (ns' ms':List Int),rest=vs.zip ws∧
   IntsAre vs ns'∧IntsAre ws ms'∧ns'.length+items2.size=ms'.length+items.size∧R (.ok (.ret (.bool (lexLt ns' ms')))) ⟨hp,g,d,tk,os⟩) _
  case turn=>
   rintro ⟨y,x⟩ rest b s' ⟨hb',rfl,vs,ws,ns',ms',hz,KH,hwi,hlen,hR⟩
   cases KH with
   | nil=>rw [List.zip_nil_left] at hz;cases hz
   | cons a t KI=>
     cases hwi with
     | nil=>rw [List.zip_nil_right] at hz;cases hz
     | cons c u KJ=>
       rw [List.zip_cons_cons] at hz
       injection hz with hyx hrest
       injection hyx with hy hx
       subst hy hx
       rw [jc] at hR
       simp only [List.length_cons] at hlen
       obtain ⟨e,he,hiff⟩:=xV A.in1 ⟨hp,g,d,tk,os⟩ a t c u
       refine wpAny_bind (he prog w _ _ ?_)
       cases e with
       | true=>
         rw [if_pos (hiff.mp rfl)] at hR
         wp_walk
         exact ⟨rfl,rfl,_,_,_,_,hrest,KI,KJ,by omega,hR⟩
       | false=>
         rw [if_neg (fun q=>absurd (hiff.mpr q) Bool.false_ne_true)] at hR
         have Qx:=Ed A.in1 ⟨hp,g,d,tk,os⟩ a t c u prog w
         wp_walk using Qx
         exact ⟨_,rfl,by simpa using hR⟩
  case fin=>
   rintro ⟨b1,b2⟩ s' ⟨hb',rfl,vs,ws,ns',ms',hz,KH,hwi,hlen,hR⟩
   simp only at hb'
   subst hb'
   have hv:lexLt ns' ms'=decide (items.size < items2.size):=by
    cases KH with
    | nil=>
      cases hwi with
      | nil=>
        simp only [List.length_nil] at hlen
        rw [iy]
        exact (decide_eq_false (by omega)).symm
      | cons c u hw=>
        simp only [List.length_nil,List.length_cons] at hlen
        rw [jT]
        exact (decide_eq_true (by omega)).symm
    | cons a t hv=>
      cases hwi with
      | nil=>
        simp only [List.length_nil,List.length_cons] at hlen
        rw [jU]
        exact (decide_eq_false (by omega)).symm
      | cons c u hw=>
        rw [List.zip_cons_cons] at hz
        cases hz
   rw [hv] at hR
   wp_walk
   exact ⟨_,rfl,by simpa [Builtin.Tuple.tupleCompareSizes] using hR⟩
  case h=>
   exact ⟨rfl,rfl,items.toList,items2.toList,ns,ms,rfl,hi,hj,by omega,h⟩
end
section
variable {prog:Program} {w:World} {A:Around} {E:Value→Shared→Prop} {s:Shared}
theorem lV {l b:Addr} {items items2:Array Value} {ns ms:List Int} {Q:Value→Shared→Prop} (hl:IsTup s.heap l items) (hb:IsTup s.heap b items2) (hi:IntsAre items.toList ns) (hj:IntsAre items2.toList ms)
 (hu:A.units < cLine) (h:Q (.bool (lexLt ns ms)) s):wpAny (model prog w) A (compareOp .Lt (.ref l) (.ref b)) Q E s:=by
 obtain ⟨⟨cls,dd,data,sl⟩,ho,hc,n,hd⟩:=id hl
 obtain ⟨⟨Qy,dd2,data2,sl2⟩,ho2,hc2,n2,hd2⟩:=id hb
 simp only at hc hd hc2 hd2
 subst hc hd hc2 hd2
 exact richCompare_meets_room (op:= .Lt) ⟨_,ho,rfl⟩ ⟨_,ho2,rfl⟩ PySem.F.slot_tuple_lt PySem.F.entry_tuple_lt (PySem.F.args_tuple_lt_2 _ _) (ua l b items items2 n n2 dd dd2 sl sl2 ns ms hi hj)
  ⟨ho,ho2,show Value.bool (lexLt ns ms)≠Value.notImplemented∧Q (.bool (lexLt ns ms)) s from ⟨(fun x=>nomatch x),h⟩⟩ hu
def mS (n d:Nat):Option Int→Nat
 | none=>d
 | some v=>if v < 0 then (v+(n:Int)).toNat else min v.toNat n
theorem xW (n d:Nat):mS n d none=d:=rfl
theorem qG (n d k:Nat):mS n d (some (k:Int))=min k n:=by
 show (if (k:Int) < 0 then ((k:Int)+(n:Int)).toNat else min (k:Int).toNat n)=min k n
 rw [if_neg (by omega),Int.toNat_natCast]
end
end HT
namespace L2
open PySem PySem.Spec PyProof.Rows
abbrev TO:=St→Hp→(Option Int→Hp→Prop)→Prop
def PO (X:Cx) (e:Option Expr) (t:TO):Prop:=
 ∀ (pins:List (Addr ×Obj)) (s:Shared) (σ:St) (H:Hp) (Q:Option Int→Hp→Prop),Inv X pins σ H s→t σ H Q→
   wpAny (model X.prog X.w) X.A (evalPart e X.env) (fun u s'=> ∃ o H',Inv X pins σ H' s'∧IsPart u o∧Q o H') X.xe s
def Bk:TO:=fun _ H Q=>Q none H
def Jy (t:TE):TO:=fun σ H Q=>t σ H fun x H1=> ∃ i,x= .int i∧Q (some i) H1
theorem intsAre_of {ns:List Int}:∀ {us:List Value},Vals (ns.map V.int) us→IntsAre us ns:=by
 induction ns with
 | nil=>intro us r;rw [List.map_nil] at r;cases r;exact .nil
 | cons n ns ih=>
   intro us r
   rw [List.map_cons] at r
   cases r with
   | cons r1 r2=>
     obtain ⟨t,e⟩:=r1
     subst e
     exact .cons n t (ih r2)
section
variable {X:Cx} {e:Expr} {te:TE} {lo hi:Option Expr} {tl th:TO} {pos p2:Pos}
theorem Hx:PO X none Bk:=by
 intro pins s σ H Q I h
 rw [evalPart_none]
 exact wpAny_pure ⟨none,H,I,.none,h⟩
theorem Hy (h:PE X e te):PO X (some e) (Jy te):=by
 intro pins s σ H Q I hw
 rw [evalPart_some]
 refine cI (h pins s σ H _ I hw) fun u s1 ⟨x,H1,I1,r1,q1⟩=>?_
 obtain ⟨i,rfl,q⟩:=q1
 obtain ⟨t,rfl⟩:=r1
 exact ⟨some i,H1,I1,.int i t,q⟩
def Sx (X:Cx) (r:V→Option Int→Option Int→Hp→VK→Prop):Prop:=
 ∀ (pins:List (Addr ×Obj)) (s:Shared) (σ:St) (H:Hp) (x:V) (v vl vu:Value) (lo hi:Option Int) (sl:Addr) (Q:VK),Inv X pins σ H s→RelV x v→s.heap.IsSliceOf sl vl vu .none→IsPart vl lo→IsPart vu hi→r x lo hi H Q→
   ∃ T id,typeLookup (.type T) "__getitem__" =pure (some (.builtin id))∧s.TypeIs v T∧wpAny (model X.prog X.w) X.A (getItem v (.ref sl)) (EP X pins σ Q) X.xe s
def T7 (r:V→Option Int→Option Int→Hp→VK→Prop) (te:TE) (tl th:TO):TE:=fun σ H Q=>te σ H fun x H1=>tl σ H1 fun l H2=>th σ H2 fun u H3=>r x l u H3 Q
theorem Ef {r:V→Option Int→Option Int→Hp→VK→Prop} (hr:Sx X r) (he:PE X e te) (hl:PO X lo tl) (hu:PO X hi th):PE X (.Subscript e (.Slice lo hi none p2) pos) (T7 r te tl th):=by
 intro pins s σ H Q I h
 refine Subscript_ (cI (he pins s σ H _ I h) fun v s1 ⟨x,H1,I1,r1,q1⟩=>?_)
 refine wpAny_Slice (cI (hl pins s1 σ H1 _ I1 q1) fun vl s2 ⟨l,H2,I2,pl,q2⟩=>cI (hu pins s2 σ H2 _ I2 q2) fun vu s3 ⟨u,H3,I3,pu,q3⟩=>?_)
 rw [evalPart_none]
 refine wpAny_pure ?_
 have I4:Inv X pins σ H3 { s3 with heap:=s3.heap.push { cls:= .type "slice",data:= .fields #[vl,vu,.none] } }:=I3.kept (t':=s3.toks) fun b ob q=>Heap.get?_push_of_some _ q
 obtain ⟨T,id,hT,ht,hg⟩:=hr pins { s3 with heap:=s3.heap.push { cls:= .type "slice",data:= .fields #[vl,vu,.none] } } σ H3 x v vl vu l u s3.heap.objs.size Q I4 r1 (Heap.IsSliceOf.new ..) pl pu q3
 show wpAny (model X.prog X.w) X.A (subscriptTail e (.Slice lo hi none p2) v (.ref s3.heap.objs.size)) (EP X pins σ Q) X.xe { s3 with heap:=s3.heap.push { cls:= .type "slice",data:= .fields #[vl,vu,.none] } }
 exact tail_any (ops:=[.ref s3.heap.objs.size,v]) ht hT hg (by with_unfolding_all rfl)
def Hz (xs:List V) (lo hi:Option Int):List V:=(xs.drop (HT.mS xs.length 0 lo)).take (HT.mS xs.length xs.length hi - HT.mS xs.length 0 lo)
theorem xX (xs:List V) (lo hi:Option Int):(Hz xs lo hi).length≤xs.length:=by
 unfold Hz
 rw [List.length_take,List.length_drop]
 omega
def Nq (K:PySem.W.Frag):R2:=fun x y H Q=> ∃ a b ns ms,x= .ref a∧y= .ref b∧qV K H a (ns.map V.int)∧qV K H b (ms.map V.int)∧Q (.bl (HT.lexLt ns ms)) H
end
end L2
namespace L2
open PySem PySem.Spec PyProof.Rows
def DU (n:Nat) (i:Int):Option Nat:=if 0≤i then (if i < n then some i.toNat else none) else if -(n:Int)≤i then some (i+n).toNat else none
def t8 {α:Type} (xs:List α) (i:Int):Option α:=(DU xs.length i).bind fun j=>xs[j]?
theorem HA {n:Nat} {i:Int} {j:Nat} (h:DU n i=some j):seqIndex? i n=some j∧j < n∧ -(n:Int)≤i∧i < n:=by
 unfold DU at h
 by_cases h0:0≤i
 ·rw [if_pos h0] at h
  by_cases h1:i < n
  ·rw [if_pos h1] at h
   have e:i.toNat=j:=Option.some.inj h
   exact ⟨by rw [seqIndex_of h0 h1,e],by omega,by omega,h1⟩
  ·rw [if_neg h1] at h;cases h
 ·rw [if_neg h0] at h
  by_cases h1: -(n:Int)≤i
  ·rw [if_pos h1] at h
   have e:(i+n).toNat=j:=Option.some.inj h
   exact ⟨by rw [seqIndex_neg (by omega) h1,e],by omega,h1,by omega⟩
  ·rw [if_neg h1] at h;cases h
theorem Bl {α:Type} {xs:List α} {i:Int} {v:α} (h:t8 xs i=some v):∃ j,seqIndex? i xs.length=some j∧xs[j]?=some v∧j < xs.length∧ -(xs.length:Int)≤i∧i < xs.length:=by
 unfold t8 at h
 cases e:DU xs.length i with
 | none=>rw [e] at h;cases h
 | some j=>
   rw [e] at h
   obtain ⟨h1,h2,h3,h4⟩:=HA e
   exact ⟨j,h1,h,h2,h3,h4⟩
theorem kU {α:Type} {xs:List α} {j:Nat} {v:α} (h:xs[j]?=some v):t8 xs (j:Int)=some v:=by
 have hj:j < xs.length:=(List.getElem?_eq_some_iff.mp h).1
 have e:DU xs.length (j:Int)=some j:=by
  unfold DU
  rw [if_pos (by omega),if_pos (by omega)];simp
 unfold t8;rw [e];exact h
theorem Eg {α:Type} (xs:List α) (v:α):t8 (xs ++ [v]) (-1)=some v:=by
 have hl:(xs ++ [v]).length=xs.length+1:=by simp
 have e:DU (xs ++ [v]).length (-1)=some xs.length:=by
  unfold DU
  rw [hl,if_neg (by decide),if_pos (by omega)]
  congr 1
  omega
 unfold t8
 rw [e]
 show (xs ++ [v])[xs.length]?=some v
 simp
def vF (b:Expr):Prop:= ∀ o i,subscripted b false o i=operate [o,i] (getItem o i)
def Jz (X:Cx) (r:R2):Prop:=
 ∀ (value slice:Expr) (pins:List (Addr ×Obj)) (s:Shared) (σ:St) (H:Hp) (x y:V) (v u:Value) (Q:VK),Inv X pins σ H s→RelV x v→RelV y u→r x y H Q→
   subscripted slice false v u=operate [v,u] (getItem v u)→wpAny (model X.prog X.w) X.A (subscriptTail value slice v u) (EP X pins σ Q) X.xe s
def Sy (X:Cx) (id:String) (r:V→List V→Hp→VK→Prop):Prop:=
 ∀ (pins:List (Addr ×Obj)) (s:Shared) (σ:St) (H:Hp) (x:V) (xs:List V) (v:Value) (us:List Value) (Q:VK),Inv X pins σ H s→RelV x v→Vals xs us→r x xs H Q→
   wpAny (model X.prog X.w) X.A (call (.builtin id) (v :: us)) (EP X pins σ Q) X.xe s
section
variable {X:Cx} {a b:Expr} {ta tb:TE} {pos:Pos}
theorem Jz.or {r r':R2} (h:Jz X r) (h':Jz X r'):Jz X (fun x y H Q=>r x y H Q∨r' x y H Q):=by
 intro value slice pins s σ H x y v u Q I rx ry q hs
 rcases q with q | q
 ·exact h value slice pins s σ H x y v u Q I rx ry q hs
 ·exact h' value slice pins s σ H x y v u Q I rx ry q hs
theorem JA {r:R2} (hr:Jz X r) (ha:PE X a ta) (hb:PE X b tb) (hs:vF b):PE X (.Subscript a b pos) (TZ r ta tb):=by
 intro pins s σ H Q I h
 exact Subscript_ (Qp ha hb I h fun v u s2 x y H2 I2 rx ry q=>hr a b pins s2 σ H2 x y v u Q I2 rx ry q (hs _ _))
def Qz (K:PySem.W.Frag):R2:=fun x y H Q=> ∃ p xs i v,x= .ref p∧y= .int i∧jb K H p xs∧t8 xs i=some v∧Q v H
def QA (K:PySem.W.Frag):R2:=fun x y H Q=> ∃ p xs i v,x= .ref p∧y= .int i∧qV K H p xs∧t8 xs i=some v∧Q v H
theorem HB:Jz X (Qz X.K):=by
 intro value slice pins s σ H x y v u Q I rx ry h hs
 obtain ⟨p,xs,i,z,rfl,rfl,hq,he,q⟩:=h
 cases rx
 obtain ⟨t,rfl⟩:=ry
 obtain ⟨its,r,pl,hz⟩:=I.list hq
 obtain ⟨j,h1,h2,h3,h4,h5⟩:=Bl he
 obtain ⟨w,ew,rw'⟩:=r.get h2
 have hl:=r.length
 have hn:=zS
 have fin:EP X pins σ Q w s:=⟨z,H,I,rw',q⟩
 by_cases h0:0≤i
 ·have hj:i.toNat=j:=by
   rw [seqIndex_of h0 h5] at h1
   exact Option.some.inj h1
  exact item_listR pl.isList h0 (by omega) (by rw [hj];simpa using ew) fin hs
 ·have hj:(i+(its.toArray.size:Int)).toNat=j:=by
   rw [seqIndex_neg (by omega) h4] at h1
   rw [List.size_toArray,← hl]
   exact Option.some.inj h1
  exact subscriptTail_builtinR (x:=w) pl.isList.typeIs slot_list_getitem.lookup
   (wpAny_getItem_list_neg (Q:=fun r s'=>r=w∧EP X pins σ Q r s') pl.isList (by omega) (by rw [List.size_toArray] <;> omega) (by omega) (by rw [hj];simpa using ew) ⟨rfl,fin⟩) hs
theorem KL:Jz X (QA X.K):=by
 intro value slice pins s σ H x y v u Q I rx ry h hs
 obtain ⟨p,xs,i,z,rfl,rfl,hq,he,q⟩:=h
 cases rx
 obtain ⟨t,rfl⟩:=ry
 obtain ⟨its,r,pl,hz⟩:=I.tuple hq
 obtain ⟨j,h1,h2,h3,h4,h5⟩:=Bl he
 obtain ⟨w,ew,rw'⟩:=r.get h2
 have hl:=r.length
 have hn:=zS
 have fin:EP X pins σ Q w s:=⟨z,H,I,rw',q⟩
 exact subscriptTail_builtinR (x:=w) pl.typeIs slot_tuple_getitem.lookup
  (getItem_tuple (j:=j) (Q:=fun r s'=>r=w∧EP X pins σ Q r s') pl (by omega) (by omega) (by rw [List.size_toArray,← hl];exact h1) (by simpa using ew) ⟨rfl,fin⟩) hs
theorem vG (lo hi:Option Int) (n:Nat):(sliceBounds lo hi none n).1=((HT.mS n 0 lo:Nat):Int)∧(sliceBounds lo hi none n).2.1=((HT.mS n n hi:Nat):Int)∧(sliceBounds lo hi none n).2.2=1:=by
 refine ⟨?_,?_,rfl⟩
 ·cases lo with
  | none=>simp [sliceBounds,HT.mS]
  | some i=>
    simp only [sliceBounds,HT.mS,Option.getD_none,show (1:Int) > 0 by decide,if_true]
    by_cases h:i < 0
    ·simp only [h,if_true] <;> omega
    ·simp only [h,if_false] <;> omega
 ·cases hi with
  | none=>simp [sliceBounds,HT.mS]
  | some i=>
    simp only [sliceBounds,HT.mS,Option.getD_none,show (1:Int) > 0 by decide,if_true]
    by_cases h:i < 0
    ·simp only [h,if_true] <;> omega
    ·simp only [h,if_false] <;> omega
theorem uc (its:List Value) (lo hi:Option Int):slicePick its.toArray lo hi none=((its.drop (HT.mS its.length 0 lo)).take (HT.mS its.length its.length hi - HT.mS its.length 0 lo)).toArray:=by
 obtain ⟨h1,h2,h3⟩:=vG lo hi its.toArray.size
 unfold slicePick
 rw [h1,h2,h3]
 simp only [sliceRange_one,pick_run,List.size_toArray] <;> rfl
def QB (K:PySem.W.Frag):V→Option Int→Option Int→Hp→VK→Prop:=fun x lo hi H Q=> ∃ a xs,x= .ref a∧jb K H a xs∧∀ p,H p=none→Q (.ref p) (upd H p (.lst (Hz xs lo hi)))
theorem HC:Sx X (QB X.K):=by
 intro pins s σ H x v vl vu lo hi sl Q I rx hs pl pu h
 obtain ⟨a,xs,rfl,hx,q⟩:=h
 cases rx
 obtain ⟨its,r,ht,hz⟩:=I.list hx
 have hlen:=r.length
 refine ⟨"list",_,slot_list_getitem.lookup,ht.isList.typeIs,?_⟩
 refine wpAny_getItem_list_slice ht.isList hs pl pu .none (by simp) ?_ (by rw [List.size_toArray] <;> omega)
 rw [uc,← hlen]
 refine ⟨.ref s.heap.objs.size,_,I.laid (t':=s.toks) (o:= .lst (Hz xs lo hi)) (fun b ob q=>Heap.get?_push_of_some _ q) (Nat.le_refl _) ?_,rfl,q _ (I.hok.fresh (Nat.le_refl _))⟩
 exact ⟨Nat.le_trans (xX xs lo hi) hz,_,0,(r.drop (HT.mS xs.length 0 lo)).take (HT.mS xs.length xs.length hi - HT.mS xs.length 0 lo),Heap.get?_push_size _ rfl⟩
theorem vH:Be X (.builtin "len") (fun xs H Q=> ∃ p ys,xs= [.ref p]∧(jb X.K H p ys∨qV X.K H p ys)∧Q (.int ys.length) H):=by
 intro pins s σ H xs us Q I r h
 obtain ⟨p,ys,rfl,hq,q⟩:=h
 obtain ⟨u,rfl,rx⟩:=vals1 r
 cases rx
 have hn:=zS
 rcases hq with hq | hq
 ·obtain ⟨its,r',pl,hz⟩:=I.list hq
  have hlen:=r'.length
  exact Calls.call_len_list pl.isList (by simp only [List.size_toArray] <;> omega) ⟨.int ys.length,H,I.tok _,⟨s.toks+1,by rw [List.size_toArray,hlen]⟩,q⟩
 ·obtain ⟨its,r',pl,hz⟩:=I.tuple hq
  have hlen:=r'.length
  exact len_tuple pl (by simp only [List.size_toArray] <;> omega) ⟨.int ys.length,H,I.tok _,⟨s.toks+1,by rw [List.size_toArray,hlen]⟩,q⟩
theorem vI:Be X (.type "list") (fun xs H Q=> ∃ p ys,xs= [.ref p]∧(jb X.K H p ys∨qV X.K H p ys)∧∀ l,H l=none→Q (.ref l) (upd H l (.lst ys))):=by
 intro pins s σ H xs us Q I r h
 obtain ⟨p,ys,rfl,hq,q⟩:=h
 obtain ⟨u,rfl,rx⟩:=vals1 r
 cases rx
 have fin:∀ (its:List Value),Vals ys its→ys.length≤sizeLine→∀ (h':Heap) (c':Nat),(∀ b o',s.heap.get? b=some o'→h'.get? b=some o')→
  h'.get? s.heap.objs.size=some { cls:= .type "list",dict:=none,data:= .seq its.toArray c',slots:= #[] }→EP X pins σ Q (.ref s.heap.objs.size) { s with heap:=h' }:=fun its r' hz h' c' kp e=>
  ⟨.ref s.heap.objs.size,_,I.laid (t':=s.toks) kp (Nat.le_refl _) (show cL X.prog X.w _ h' _ (.lst ys) from ⟨hz,its,c',r',e⟩),rfl,q _ (I.hok.fresh (Nat.le_refl _))⟩
 rcases hq with hq | hq
 ·obtain ⟨its,r',pl,hz⟩:=I.list hq
  have hlen:=r'.length
  obtain ⟨o,ho,hc,n,hd⟩:=pl.isList
  exact call_list_seq p (.inl rfl) ho hc hd (fun h' c' kp e=>fin its r' hz h' c' kp e) (by simp only [List.size_toArray] <;> omega)
 ·obtain ⟨its,r',pl,hz⟩:=I.tuple hq
  have hlen:=r'.length
  obtain ⟨o,ho,hc,n,hd⟩:=pl
  exact call_list_seq p (.inr rfl) ho hc hd (fun h' c' kp e=>fin its r' hz h' c' kp e) (by simp only [List.size_toArray] <;> omega)
theorem ud:Be X (.type "tuple") (fun xs H Q=> ∃ p ys,xs= [.ref p]∧((jb X.K H p ys∧∀ l,H l=none→Q (.ref l) (upd H l (.tup ys)))∨(qV X.K H p ys∧Q (.ref p) H))):=by
 intro pins s σ H xs us Q I r h
 obtain ⟨p,ys,rfl,h⟩:=h
 obtain ⟨u,rfl,rx⟩:=vals1 r
 cases rx
 rcases h with ⟨hq,q⟩ | ⟨hq,q⟩
 ·obtain ⟨its,r',pl,hz⟩:=I.list hq
  have hlen:=r'.length
  refine call_tuple_list pl.isList (fun h' kp=>?_) (by simp only [List.size_toArray] <;> omega)
  have I1:Inv X pins σ H { s with heap:=h' }:=I.kept (t':=s.toks) kp
  have I2:Inv X pins σ (upd H h'.objs.size (.tup ys)) { s with heap:=h'.push { cls:= .type "tuple",data:= .seq its.toArray } }:=
   I1.laid (t':=s.toks) (fun b o e=>Heap.get?_push_of_some _ e) (Nat.le_refl _) (show cL X.prog X.w _ _ _ (.tup ys) from ⟨hz,its,r',IsTup.new _ _⟩)
  exact ⟨.ref h'.objs.size,_,I2,rfl,q _ (I1.hok.fresh (Nat.le_refl _))⟩
 ·obtain ⟨its,r',pl,hz⟩:=I.tuple hq
  exact call_tuple_same pl ⟨.ref p,H,I,rfl,q⟩
def QC (K:PySem.W.Frag) (T:String) (x:V) (H:Hp):Prop:=match x with
 | .str _=>T= "str"
 | .int _=>T= "int"
 | .ref p=>(T= "list"∧∃ xs,jb K H p xs)∨(T= "tuple"∧∃ o,K.lookup p=some o∧o.cls= .type "tuple"∧o.dict=none)∨
  (T= "dict"∧((∃ kvs,H p=some (.dK kvs))∨∃ kvs,H p=some (.dT kvs)))∨(T= "set"∧∃ S n,H p=some (.set S n))
 | _=>False
theorem Eh {pins:List (Addr ×Obj)} {σ:St} {H:Hp} {s:Shared} {T:String} {x:V} {v:Value} (I:Inv X pins σ H s) (r:RelV x v) (ty:QC X.K T x H) :
 s.TypeIs v T∧∀ a,v= .ref a→∃ ob,s.heap.get? a=some ob∧ob.dict=none:=by
 cases x with
 | str z=>
   obtain ⟨t,rfl⟩:=r
   cases (show T= "str" from ty)
   exact ⟨typeIs_str s z t,fun _ e=>nomatch e⟩
 | int i=>
   obtain ⟨t,rfl⟩:=r
   cases (show T= "int" from ty)
   exact ⟨typeIs_int s i t,fun _ e=>nomatch e⟩
 | ref p=>
   cases r
   rcases ty with ⟨rfl,xs,hq⟩ | ⟨rfl,o,hk,hc,hd⟩ | ⟨rfl,hk⟩ | ⟨rfl,S,n,hk⟩
   ·obtain ⟨its,_,pl,_⟩:=I.list hq
    refine ⟨pl.isList.typeIs,fun a e=>?_⟩
    cases e
    obtain ⟨o,n,e,c,hd,_⟩:=pl
    exact ⟨o,e,hd⟩
   ·refine ⟨⟨o,I.xH p o hk,hc⟩,fun a e=>?_⟩
    cases e
    exact ⟨o,I.xH _ o hk,hd⟩
   ·have z:∃ o,s.heap.get? p=some o∧o.ExactDict:=by
     rcases hk with ⟨kvs,hk⟩ | ⟨kvs,hk⟩
     ·obtain ⟨_,_,_,_,o,_,_,e,ex,_⟩:=I.hok p _ hk
      exact ⟨o,e,ex⟩
     ·obtain ⟨_,_,_,_,o,_,_,e,ex,_⟩:=I.hok p _ hk
      exact ⟨o,e,ex⟩
    obtain ⟨o,e,ex⟩:=z
    refine ⟨⟨o,e,ex.1⟩,fun a e2=>?_⟩
    cases e2
    exact ⟨o,e,ex.2.1⟩
   ·obtain ⟨o,_,_,_,e,ex,_⟩:=I.hok p _ hk
    refine ⟨⟨o,e,ex.1⟩,fun a e2=>?_⟩
    cases e2
    exact ⟨o,e,ex.2.1⟩
 | _=>exact False.elim ty
def Nr (K:PySem.W.Frag) (T:String) (r:V→List V→Hp→VK→Prop) (to:TE):TE:=fun σ H Q=>to σ H fun x H1=>QC K T x H1∧r x [] H1 Q
def QD (K:PySem.W.Frag) (T:String) (r:V→List V→Hp→VK→Prop) (to:TE) (t:TA):TE:=fun σ H Q=>to σ H fun x H1=>QC K T x H1∧t σ H1 fun xs H2=>r x xs H2 Q
variable {o e:Expr} {es:List Expr} {to:TE} {t:TA} {name:Str} {apos cpos:Pos} {T id:String} {r:V→List V→Hp→VK→Prop}
theorem KN (pa:PlainAttrs T) (slot:Slot T name id) (hty:typeOf (.builtin id)=pure (.type "method_descriptor")) (hm:Sy X id r) (ho:PE X o to)
 (hbase:attributeBase o name X.env (eval o X.env)=eval o X.env:=by rfl) (hline:(apos.endLine == cpos.line)=true:=by rfl):PE X (.Call (.Attribute o name apos) [] [] cpos) (Nr X.K T r to):=by
 intro pins s σ H Q I h
 refine wpAny_Call_method0_late hbase hline (cI (ho pins s σ H _ I h) fun v s1 ⟨x,H1,I1,r1,ty,q1⟩=>?_)
 obtain ⟨h1,h2⟩:=Eh I1 r1 ty
 exact ⟨T,id,pa,slot,hty,h1,h2,Calls.callWith_builtin rfl (PySem.evalArgs_none (hm pins s1 σ H1 x [] v [] Q I1 r1 .nil q1))⟩
theorem xY (pa:PlainAttrs T) (slot:Slot T name id) (hty:typeOf (.builtin id)=pure (.type "method_descriptor")) (hm:Sy X id r) (ho:PE X o to) (ha:PA X (e :: es) t)
 (hbase:attributeBase o name X.env (eval o X.env)=eval o X.env:=by rfl)
 (hfew:((backTo cpos (starEach (e :: es) X.env)).all (fun x=>!x.1) && (backToKw cpos (keywordEach [] X.env)).all (fun x=>x.1.isSome)
  && decide ((e :: es).length+([]:List Keyword).length+(if ([]:List Keyword).isEmpty then 0 else 1) < 30))=true:=by rfl)
 (hline:(apos.endLine == cpos.line)=true:=by rfl) (hs:starEach (e :: es) X.env=(false,eval e X.env) :: starEach es X.env:=by rfl) (hplain:(backTo cpos (starEach es X.env)).any (·.1)=false:=by rfl) :
 PE X (.Call (.Attribute o name apos) (e :: es) [] cpos) (QD X.K T r to t):=by
 intro pins s σ H Q I h
 refine wpAny_Call_method_late hbase hfew hline rfl (cI (ho pins s σ H _ I h) fun v s1 ⟨x,H1,I1,r1,ty,q1⟩=>?_)
 obtain ⟨h1,h2⟩:=Eh I1 r1 ty
 refine ⟨T,id,pa,slot,hty,h1,h2,?_⟩
 have hA:=ha cpos pins s1 σ H1 _ I1 q1
 rw [hs] at hA ⊢
 refine Calls.callWith_builtin (by show (false || (backTo cpos (starEach es X.env)).any (·.1))=false;rw [hplain] <;> rfl) (Calls.evalArgs_plain ?_)
 exact cI hA fun us s2 ⟨vs,H2,I2,r2,q2⟩=>hm pins s2 σ H2 x vs v us Q I2 r1 r2 q2
end
end L2
namespace L2
open PySem PySem.Spec PyProof.Rows
def QE (X:Cx) (id:String) (r:V→List V→Hp→VK→Prop):Prop:=
 ∀ (pins:List (Addr ×Obj)) (s:Shared) (σ:St) (H:Hp) (x:V) (xs:List V) (v:Value) (us:List Value) (Q:VK),Inv X pins σ H s→RelV x v→Vals xs us→r x xs H Q→
   wpAny (model X.prog X.w) X.A (call (.builtin id) (v :: us)) (EP X pins σ Q) X.xe s
theorem Vals.one:∀ {x:V} {us:List Value},Vals [x] us→∃ u,us= [u]∧RelV x u
 | _,_,.cons r .nil=>⟨_,rfl,r⟩
theorem Vals.zero:∀ {us:List Value},Vals [] us→us= []
 | _,.nil=>rfl
theorem Vals.dropLast {xs:List V} {us:List Value} (h:Vals xs us):Vals xs.dropLast us.dropLast:=by
 induction h with
 | nil=>exact .nil
 | cons r t ih=>
   cases t with
   | nil=>exact .nil
   | cons q t'=>exact .cons r ih
theorem zT {α:Type} (l:List α):l.eraseIdx (l.length - 1)=l.dropLast:=by
 induction l with
 | nil=>rfl
 | cons a r ih=>
   cases r with
   | nil=>rfl
   | cons b r=>
     have e:(a :: b :: r).length - 1=((b :: r).length - 1)+1:=by
      have h1:(a :: b :: r).length=r.length+2:=rfl
      have h2:(b :: r).length=r.length+1:=rfl
      omega
     rw [e,List.eraseIdx_cons_succ,ih]
     all_goals rfl
section
variable {X:Cx} {pins:List (Addr ×Obj)} {σ:St} {H:Hp} {s:Shared} {l b:Addr} {xs ys zs:List V}
theorem Inv.KO {its its':List Value} {n:Nat} {f:Array Value→Array Value} {t':Nat} (I:Inv X pins σ H s) (hH:H l=some (.lst xs))
 (e:s.heap.get? l=some { cls:= .type "list",data:= .seq its.toArray n }) (hf:f its.toArray=its'.toArray) (hv:Vals ys its') (hz:ys.length≤sizeLine) :
 Inv X pins σ (upd H l (.lst ys)) { s with heap:=s.heap.update l (Obj.mapSeq f),toks:=t' }:=by
 have q:=PySem.IsL.update e f
 rw [hf] at q
 refine I.write (x:=l) (e:=l) (by rw [hH];exact trivial) (.inl rfl) (fun b' u hb hu=>(Heap.get?_update_other s.heap (Obj.mapSeq f) (Ne.symm hb)).trans hu) ⟨_,q⟩ ?_
 exact ⟨hz,its',_,hv,q⟩
theorem Inv.QF {its:List Value} {t':Nat} (I:Inv X pins σ H s) (hv:Vals ys its) (hz:ys.length≤sizeLine) :
 Inv X pins σ (upd H s.heap.objs.size (.lst ys)) { s with heap:=s.heap.push { cls:= .type "list",data:= .seq its.toArray },toks:=t' }:=
 I.laid (fun _ _ q=>Heap.get?_push_of_some _ q) (Nat.le_refl _) ⟨hz,its,0,hv,Heap.get?_push_size _ rfl⟩
theorem Inv.fresh (I:Inv X pins σ H s):H s.heap.objs.size=none:=I.hok.fresh (Nat.le_refl _)
theorem Inv.CA (I:Inv X pins σ H s) (hH:H l=some (.lst xs)):xs.length≤sizeLine∧∃ (its:List Value) (n:Nat),Vals xs its∧xs.length=its.length∧s.heap.get? l=some { cls:= .type "list",data:= .seq its.toArray n }:=by
 obtain ⟨z,its,n,r,e⟩:=I.hok l _ hH
 exact ⟨z,its,n,r,r.length,e⟩
theorem Ei {n:Nat} (h:n≤sizeLine):Builtin.List.listTooLong n=false:=by
 unfold Builtin.List.listTooLong
 exact decide_eq_false (by omega)
end
section
variable {X:Cx}
def Bm:V→List V→Hp→VK→Prop:=fun x vs H Q=> ∃ l xs y,x= .ref l∧vs= [y]∧H l=some (.lst xs)∧xs.length < sizeLine∧Q .aX (upd H l (.lst (xs ++ [y])))
theorem kW:QE X "list.append" Bm:=by
 intro pins s σ H x vs v us Q I rx rv h
 obtain ⟨l,xs,y,rfl,rfl,hH,hz,q⟩:=h
 cases rx
 obtain ⟨u,rfl,ru⟩:=rv.one
 obtain ⟨z,its,n,r,hl,e⟩:=I.CA hH
 refine call_meets F.slot_list_append ⟨_,e,rfl⟩ F.entry_list_append (F.args_list_append_2 _ _) (PySem.list_append l its.toArray n u (by rw [List.size_toArray];omega)) ⟨e,?_⟩
 refine ⟨.aX,_,I.KO (its':=its ++ [u]) hH e (by simp) (r.append (.cons ru .nil)) ?_,rfl,q⟩
 rw [List.length_append,List.length_singleton]
 omega
def Bo:V→List V→Hp→VK→Prop:=fun x vs H Q=> ∃ l b xs zs,x= .ref l∧vs= [.ref b]∧H l=some (.lst xs)∧H b=some (.lst zs)∧xs.length+zs.length≤sizeLine∧Q .aX (upd H l (.lst (xs ++ zs)))
theorem uK:QE X "list.extend" Bo:=by
 intro pins s σ H x vs v us Q I rx rv h
 obtain ⟨l,b,xs,zs,rfl,rfl,hH,hB,hz,q⟩:=h
 cases rx
 obtain ⟨u,rfl,ru⟩:=rv.one
 cases ru
 obtain ⟨z,its,n,r,hl,e⟩:=I.CA hH
 obtain ⟨z2,its2,n2,r2,hl2,e2⟩:=I.CA hB
 have hsz:its.toArray.size+its2.toArray.size≤sizeLine:=by rw [List.size_toArray,List.size_toArray];omega
 have Nt:¬ (!its.toArray.isEmpty && Builtin.List.listTooLong (its.toArray.size+its2.toArray.size))=true:=by
  rw [Ei hsz,Bool.and_false]
  exact Bool.false_ne_true
 refine call_meets F.slot_list_extend ⟨_,e,rfl⟩ F.entry_list_extend (F.args_list_extend_2 _ _)
  (AutoSeq1.list_extend_list_list_0 l its.toArray n b its2.toArray n2 Nt (by rw [List.size_toArray];omega) (by omega)) ⟨e,e2,?_⟩
 refine ⟨.aX,_,I.KO (its':=its ++ its2) hH e (by simp) (r.append r2) ?_,rfl,q⟩
 rw [List.length_append]
 omega
def Nu:V→List V→Hp→VK→Prop:=fun x vs H Q=> ∃ l xs y,x= .ref l∧vs= []∧H l=some (.lst xs)∧xs[xs.length - 1]?=some y∧Q y (upd H l (.lst xs.dropLast))
theorem KP:QE X "list.pop" Nu:=by
 intro pins s σ H x vs v us Q I rx rv h
 obtain ⟨l,xs,y,rfl,rfl,hH,hy,q⟩:=h
 cases rx
 have T8:=rv.zero
 subst T8
 obtain ⟨z,its,n,r,hl,e⟩:=I.CA hH
 obtain ⟨u,hu,ru⟩:=r.get hy
 have hy':its.toArray[its.toArray.size - 1]?=some u:=by
  show its.toArray[its.length - 1]?=some u
  rw [← Array.getElem?_toList,← hl]
  exact hu
 refine call_meets F.slot_list_pop ⟨_,e,rfl⟩ F.entry_list_pop (F.args_list_pop_1 _) (MeetsSeq.list_pop_last l its.toArray n u hy' (by rw [List.size_toArray];omega)) ⟨e,?_⟩
 refine ⟨y,_,I.KO (its':=its.dropLast) hH e ?_ r.dropLast ?_,ru,q⟩
 ·show its.toArray.eraseIdxIfInBounds (its.toArray.size - 1)=its.dropLast.toArray
  rw [List.size_toArray,List.eraseIdxIfInBounds_toArray,zT]
 ·rw [List.length_dropLast]
  omega
def QG:R2:=fun x y H Q=> ∃ l b xs zs,x= .ref l∧y= .ref b∧H l=some (.lst xs)∧H b=some (.lst zs)∧xs.length+zs.length≤sizeLine∧∀ p,H p=none→Q (.ref p) (upd H p (.lst (xs ++ zs)))
theorem KQ:xJ X (binaryOp .Add) QG:=by
 intro pins s σ H x y v u Q I rx ry h
 obtain ⟨l,b,xs,zs,rfl,rfl,hH,hB,hz,q⟩:=h
 cases rx
 cases ry
 obtain ⟨z,its,n,r,hl,e⟩:=I.CA hH
 obtain ⟨z2,its2,n2,r2,hl2,e2⟩:=I.CA hB
 refine PySem.P.add_list e e2 ?_ (by rw [List.size_toArray,List.size_toArray];omega)
 have ea:its.toArray ++ its2.toArray=(its ++ its2).toArray:=by simp
 rw [ea]
 exact ⟨.ref _,_,I.QF (t':=s.toks) (r.append r2) (by rw [List.length_append];omega),rfl,q _ I.fresh⟩
end
section
variable {prog:Program} {w:World} {A:Around} {E:Value→Shared→Prop} {s:Shared}
end
section
variable {X:Cx}
end
end L2
namespace Att
open PySem PySem.W PySem.Calls PyProof.Rows
theorem qe {P:Params} {h:Heap}:∀ (ns:List Int) (vs:List Value),WellAll P h vs (ns.map WData.int)→IntsAre vs ns:=by
 intro ns
 induction ns with
 | nil=>
   intro vs w
   rw [List.map_nil] at w
   cases w
   exact .nil
 | cons n ns ih=>
   intro vs w
   rw [List.map_cons] at w
   cases w with
   | cons a b=>
     cases a
     exact .cons _ _ (ih _ b)
theorem CB {l:OpenLaw} {n:Nat} (hn:l.most=some n) {P:Params} {h:Heap} {args:List WData} {vals:List Value}
 (hpre:l.row.toRowW.claim.pre args=true) (hwl:WellAll P h vals args) :
 ∃ a vs ns,vals= [Value.ref a]∧args= [WData.list (ns.map WData.int)]∧h.get? a=some { cls:= .type "list",data:= .seq vs.toArray }∧IntsAre vs ns∧ns.length≤n:=by
 have hsh:WShape.hasAll [] args [.list .int]=true:=(pre_splitW hpre).1
 have hc:l.pre.holds [] { args:=args }=true:=(pre_splitW hpre).2
 obtain ⟨d,r,rfl,h1,h2⟩:=hasAllW_cons hsh
 obtain rfl:=hasAllW_nil h2
 obtain ⟨xs,rfl,h3⟩:=hasW_list h1
 obtain ⟨ns,rfl⟩:=items_int h3
 have hlen:ns.length≤n:=by
  unfold OpenLaw.pre at hc
  have h4:(WTm.not (.lt (.lit (.int (n:Int))) (.len (.arg 0)))).holds [] { args:=[.list (ns.map .int)] }=true:=by
   have h4:=(holds_andW hc).1
   rw [hn] at h4
   exact h4
  have h5:=condW_of h4 (w_not (w_lt w_lit (w_len_list (w_arg rfl))))
  rw [List.length_map] at h5
  refine Nat.le_of_not_lt fun q=>?_
  have q':(n:Int) < ((ns.length:Nat):Int):=by omega
  first
   | (rw [decide_eq_true q'] at h5;exact absurd h5 (by decide))
   | (simp at h5;omega)
 cases hwl with
 | cons w1 w2=>
   cases w2
   cases w1 with
   | list ho hall=>exact ⟨_,_,ns,rfl,rfl,ho,qe ns _ hall,hlen⟩
theorem CC (l:OpenLaw) (args:List WData):l.row.toRowW.claim.post args (.bool true) args=true:=
 postW_of (r:=l.row.toRowW) (X:=(true == true))
  (show WShape.has [] (.bool true) .bool=true by first | rfl | decide | simp [WShape.has,WShape.arms,WShape.armsAll])
  (show (WTm.eq .res (.lit (.bool true))).value [] { args:=args,res:=some (.bool true),after:=args }=some (.bool (true == true)) from w_eq_bool (w_res rfl) w_lit) rfl
section
variable {prog:Program} {w:World} {A:Around} {E:Value→Shared→Prop} {s:Shared} {K:Frag}
end
end Att
namespace L2
open PySem PySem.Spec PyProof.Rows
theorem uL:∀ {vs:List Value} {ns:List Int},IntsAre vs ns→Vals (ns.map V.int) vs
 | _,_,.nil=> .nil
 | _,_,.cons n t h=> .cons ⟨t,rfl⟩ (uL h)
def HE (H:Hp):Prop:= ∀ b,H b=none∨∃ o xs,H b=some (.mP o (.lst xs))
theorem Ej {P:Program} {w:World} {K:PySem.W.Frag} {mg mb:Str→Option Value} {CX:Ec} {k:Nat} {fa a:Addr} {fd:FuncData} {x:Str} {sp:Sp} {s₁:Shared} {vs:List Value} {ns:List Int}
 (KX:K.In s₁.heap) (hns:s₁.heap.Ns mainGlobals mg) (hb:s₁.heap.Ns builtinsNs mb) (T9:∀ x:Str,x≠"__name__"→mb x=bootBuiltins x) (hlim:s₁.heap.NoLimit) (hg:s₁.gens= #[])
 (ha:s₁.heap.get? a=some { cls:= .type "list",data:= .seq vs.toArray }) (hi:IntsAre vs ns) (hl:ns.length≤sizeLine) (hr:iw k callerA)
 (F:∀ base:Heap,K.In base→base.Ns mainGlobals mg→bO P w K mg base CX k fa fd [x] sp) (hbind:∀ (s:Shared) (u:Value),BindsTo s fd ⟨[u],[]⟩ [(x,u)])
 (Jx:∀ H:Hp,HE H→jb K H a (ns.map V.int)→sp [.ref a] H (fun v _=>v= .bl true) fun _ _ _=>False)
 (QH:∀ H e s',CX [] H s₁ (fun _ _ _=>False) e s'→False) :
 codeAny (model P w) callerA (.call (.ref fa) ⟨[.ref a],[]⟩) (fun r s'=>r= .ok (.ret (.bool true))∧OldK s₁.heap s'.heap∧s'.os=s₁.os∧AllBare s'.gens) s₁:=by
 have rv:=uL hi
 have QI:=hi.length
 have core:∀ H:Hp,HE H→jb K H a (ns.map V.int)→i7 P w H s₁.heap→(∀ b,H b≠none→b=a)→(H a≠none→K.lookup a=none)→
  codeAny (model P w) callerA (.call (.ref fa) ⟨[.ref a],[]⟩) (fun r s'=>r= .ok (.ret (.bool true))∧OldK s₁.heap s'.heap∧s'.os=s₁.os∧AllBare s'.gens) s₁:=by
  intro H hO hS hok hA hK
  have Bp:∀ {b:Addr} {o:Obj},s₁.heap.get? b=some o→H b=none→(vE s₁.heap H).get? b=some o:=fun e n=>D0 e n
  have Nn:∀ {b:Addr} {o:Obj} {es:Array DictEntry} {ep:Nat},s₁.heap.get? b=some o→o.data= .dict es ep→H b=none:=fun {b o es ep} e d=>by
   cases q:H b with
   | none=>rfl
   | some u=>
     have e':b=a:=hA b (by rw [q];simp)
     subst e'
     rw [ha] at e;cases e
     have d':Data.seq vs.toArray _=Data.dict es ep:=d
     cases d'
  have Po:∀ {b:Addr} {m:Str→Option Value},s₁.heap.Ns b m→(vE s₁.heap H).Ns b m:=fun {b m} ⟨o,es,ep,e,d,r⟩=>⟨o,es,ep,Bp e (Nn e d),d,r⟩
  have Sz:K.In (vE s₁.heap H):=fun b o e=>Bp (KX b o e) (by
   cases q:H b with
   | none=>rfl
   | some u=>
     have e':b=a:=hA b (by rw [q];simp)
     subst e'
     rw [hK (by rw [q];simp)] at e;cases e)
  have hM:Mod K mg (vE s₁.heap H):=⟨Sz,Po hns,⟨mb,Po hb,T9⟩,let ⟨mc,h1,h2⟩:=hlim;⟨mc,Po h1,h2⟩⟩
  have e0:Hw P w K mg (vE s₁.heap H) callerA [] s₁ H:=⟨rfl,hM,fun b o e=>G8 e,Nat.le_of_eq (Cp _ _),trivial,fun b hb=>absurd (show b∈([]:List Addr) from hb) (by simp),hok,.of_eq hg⟩
  refine codeAny_mono ((F _ Sz (Po hns)).run callerA [] s₁ H ⟨[.ref a],[]⟩ [.ref a] [.ref a] _ _ hr e0 (hbind s₁ (.ref a)) (.cons rfl .nil) (Jx H hO hS)) fun r s' h=>?_
  cases r with
  | error e=>exact (QH H e s' h).elim
  | ok fl=>
    cases fl with
    | next=>exact False.elim h
    | brk=>exact False.elim h
    | cont=>exact False.elim h
    | ret u=>
      obtain ⟨v,H',os,bare,un,QJ,r',q⟩:=h
      have q':v= .bl true:=q
      subst q'
      obtain rfl:u=Value.bool true:=r'
      refine ⟨rfl,OldK.of_keep fun b o e=>?_,os,bare⟩
      cases q:H b with
      | none=>exact un.keep b o e q (by intro z;exact absurd (show b∈([]:List Addr) from z) (by simp)) (by simp)
      | some u=>
        rcases hO b with z | ⟨ob,xs,z⟩
        ·rw [q] at z;cases z
        ·have z2:=un.vD b ob _ z
         obtain ⟨e1,_⟩:=hok b _ z
         obtain ⟨e2,_⟩:=QJ b _ z2
         rw [e] at e1;cases e1
         exact e2
 cases hk:K.lookup a with
 | some o=>
   have e:=KX a o hk
   rw [ha] at e
   cases e
   refine core (fun _=>none) (fun _=> .inl rfl) (.inr ⟨_,vs.toArray,_,hk,rfl,rfl,rfl,by rw [List.size_toArray,QI];exact hl,by simpa using rv⟩) (fun b u z=>by have z':(none:Option HO)=some u:=z;cases z') (fun b z=>absurd rfl z) fun z=>absurd rfl z
 | none=>
   refine core (fun b=>if b=a then some (.mP { cls:= .type "list",data:= .seq vs.toArray } (.lst (ns.map V.int))) else none) (fun b=>?_) (.inl (.inr ⟨{ cls:= .type "list",data:= .seq vs.toArray },if_pos rfl⟩)) (fun b u z=>?_) (fun b z=>?_) fun _=>hk
   ·by_cases hb:b=a
    ·exact .inr ⟨_,_,if_pos hb⟩
    ·exact .inl (if_neg hb)
   ·by_cases hb:b=a
    ·have z':=(if_pos hb).symm.trans z
     cases z'
     subst hb
     exact ⟨ha,by rw [List.length_map];exact hl,vs,_,rv,ha⟩
    ·have z':=(if_neg hb).symm.trans z
     cases z'
   ·by_cases hb:b=a
    ·exact hb
    ·exact absurd (if_neg hb) z
end L2
namespace L2
open PySem PySem.Spec PyProof.Rows
end L2
namespace L2
open PySem PySem.Spec PyProof.Rows
def kX (s:Stmt):Arguments:=match s with
 | .FunctionDef _ a _ _ _ _ _ _ _ _=>a
 | _=>{ posonlyargs:=[],args:=[],vararg:=none,kwonlyargs:=[],kw_defaults:=[],kwarg:=none,defaults:=[] }
def fO (s:Stmt):List Stmt:=match s with
 | .FunctionDef _ _ b _ _ _ _ _ _ _=>b
 | _=>[]
def ak (s:Stmt):Scope:=match s with
 | .FunctionDef _ _ _ _ _ _ sc _ _ _=>sc
 | _=>{ kind:= .function,names:=[],isGenerator:=false,isCoroutine:=false }
abbrev fR:Ec:=fun _ _ _ _ _ _=>False
abbrev E0:XK:=fun _ _ _=>False
theorem JB {X:Cx}:Passes fR X E0:=fun _ _ _ _ _ _ _ h=>h.elim
structure iM (K:PySem.W.Frag) (x qual:Str) (st:Stmt) (f:Addr) (fd:FuncData):Prop where
 ex:∃ (oc:Value) (od:Option Addr) (kV doc pm:Value) (an:Option Addr) (cdv ct:Value) (osl:Array (Option Value)),
  fd=PySem.W.fnOf x qual (kX st) (fO st) (ak st) .none kV doc pm an cdv ct∧K.lookup f=some ⟨oc,od,.func fd,osl⟩∧PySem.W.codeIn K cdv qual=true
 kp:PySem.W.keepIn K (.ref f)=true
section
variable {P:Program} {w:World} {K:PySem.W.Frag} {mg:Str→Option Value} {base:Heap}
theorem iM.ok {x qual:Str} {st:Stmt} {f:Addr} {fd:FuncData} {N ps:List Str} {k:Nat} {sp:Sp} (F:iM K x qual st f fd) (S:aG N ps (ak st)) (len:∀ vs H Q E,sp vs H Q E→vs.length=ps.length)
 (hbody:∀ (cdv:Value) (A:Around) (outer:List Env) (s:Shared) (H:Hp) (vs:List V) (Q:VK) (E:XK),iw k (A.deeper (envOfC qual (ak st) s.heap.objs.size f cdv))→sp vs H Q E→
  ∃ t,zO (qd fR P w K mg base N qual (ak st) f cdv A outer s H E).GY (fO st) t∧t { nx:=fun _ H'=>Q .aX H',rt:=Q } (start N vs) H):bO P w K mg base fR (k+1) f fd ps sp:=by
 obtain ⟨oc,od,kV,doc,pm,an,cdv,ct,osl,rfl,lk,hcd⟩:=F.ex
 refine Np lk hcd S len fun A outer s H vs Q E hr Jx=>?_
 obtain ⟨t,h,q⟩:=hbody cdv A outer s H vs Q E hr Jx
 exact ⟨t,h.GY,q⟩
theorem iM.binds {x qual:Str} {st:Stmt} {f:Addr} {fd:FuncData} {ps:List Str} (F:iM K x qual st f fd)
 (h:∀ (kV doc pm:Value) (an:Option Addr) (cdv ct:Value) (us:List Value),us.length=ps.length→bindArgs (PySem.W.fnOf x qual (kX st) (fO st) (ak st) .none kV doc pm an cdv ct) ⟨us,[]⟩=pure (ps.zip us)):Binds K fd ps []:=by
 obtain ⟨oc,od,kV,doc,pm,an,cdv,ct,osl,rfl,lk,hcd⟩:=F.ex
 exact .all (h kV doc pm an cdv ct)
end
section
variable {X:Cx}
end
theorem QK {A B:Prop} (h:B):if false=true then A else B:=by
 rw [if_neg Bool.false_ne_true]
 exact h
theorem cJ {c A B:Prop} [Decidable c] (h1:c→A) (h2:¬ c→B):if c then A else B:=by
 by_cases h:c
 ·rw [if_pos h]
  exact h1 h
 ·rw [if_neg h]
  exact h2 h
end L2
set_option maxHeartbeats 4000000
namespace L3
open PySem PySem.Spec PyProof.Rows L2
abbrev St:=L2.St
inductive D where
 | aX | bl (b:Bool) | int (i:Int) | str (x:Str) | ty (n:String) | ref (a:Addr) | tup (xs:List D) | zU (xs:List D) | JC (n:String) | exc (C:Addr) (nm:Str) (xs:List D)
def Kl (K:PySem.W.Frag) (a:Addr) (xs:List V):Prop:=
 ∃ (o:Obj) (its:Array Value) (n:Nat),K.lookup a=some o∧o.cls= .type "list"∧o.dict=none∧o.data= .seq its n∧its.size≤sizeLine∧Vals xs its.toList
def Fz (K:PySem.W.Frag) (H:Hp) (a:Addr) (xs:List V):Prop:=(∃ o,H a=some (.mP o (.lst xs)))∨Kl K a xs
theorem Fz.sq {K:PySem.W.Frag} {H:Hp} {a:Addr} {xs:List V} (h:Fz K H a xs):jb K H a xs:=by
 rcases h with ⟨o,h⟩ | h
 ·exact .inl (.inr ⟨o,h⟩)
 ·exact .inr h
abbrev xO (C t:Addr):Obj:={ cls:= .ref C,data:= .fields #[.ref t,.none,.none,.none,.bool false,.none] }
abbrev yO (C t d:Addr):Obj:={ cls:= .ref C,dict:=some d,data:= .fields #[.ref t,.none,.none,.none,.bool false,.none] }
def Xo (H:Hp) (C:Addr) (nm:Str) (o:Obj) (xs:List V):Prop:=(xs= []∧∃ t,o=xO C t)∨∃ t dx od vx,xs= [vx]∧o=yO C t dx∧H dx=some (.mP od (.xd [(nm,vx)]))
mutual
def Dat (K:PySem.W.Frag) (H:Hp):D→V→Prop
 | .aX,v=>v= .aX
 | .bl b,v=>v= .bl b
 | .int i,v=>v= .int i
 | .str x,v=>v= .str x
 | .ty n,v=>v= .ty n
 | .ref a,v=>v= .ref a
 | .tup ds,v=> ∃ a xs,v= .ref a∧H a=some (.tup xs)∧aB K H ds xs
 | .zU ds,v=> ∃ a xs,v= .ref a∧Fz K H a xs∧aB K H ds xs
 | .JC n,v=> ∃ a o u,v= .ref a∧H a=some (.mP o u)∧o.cls= .type n
 | .exc C nm ds,v=> ∃ a o u xs,v= .ref a∧H a=some (.mP o u)∧Xo H C nm o xs∧aB K H ds xs
def aB (K:PySem.W.Frag) (H:Hp):List D→List V→Prop
 | [],xs=>xs= []
 | d :: ds,xs=> ∃ v vs,xs=v :: vs∧Dat K H d v∧aB K H ds vs
end
structure Ext (H H':Hp):Prop where
 tup:∀ b xs,H b=some (.tup xs)→H' b=some (.tup xs)
 mP:∀ b o u,H b=some (.mP o u)→H' b=some (.mP o u)
theorem Fz.mono {K:PySem.W.Frag} {H H':Hp} {a:Addr} {xs:List V} (e:Ext H H') (h:Fz K H a xs):Fz K H' a xs:=by
 rcases h with ⟨o,h⟩ | h
 ·exact .inl ⟨o,e.mP _ _ _ h⟩
 ·exact .inr h
theorem Xo.mono {H H':Hp} {C:Addr} {nm:Str} {o:Obj} {xs:List V} (e:Ext H H') (h:Xo H C nm o xs):Xo H' C nm o xs:=by
 rcases h with h | ⟨t,dx,od,vx,e1,e2,e3⟩
 ·exact .inl h
 ·exact .inr ⟨t,dx,od,vx,e1,e2,e.mP _ _ _ e3⟩
mutual
theorem Dat.mono {K:PySem.W.Frag} {H H':Hp} (e:Ext H H'):∀ (d:D) (v:V),Dat K H d v→Dat K H' d v
 | .aX,v,h=>by simpa [Dat] using h
 | .bl b,v,h=>by simpa [Dat] using h
 | .int i,v,h=>by simpa [Dat] using h
 | .str x,v,h=>by simpa [Dat] using h
 | .ty n,v,h=>by simpa [Dat] using h
 | .ref a,v,h=>by simpa [Dat] using h
 | .tup ds,v,h=>by
   obtain ⟨a,xs,e1,e2,e3⟩:=(show ∃ a xs,v= .ref a∧H a=some (.tup xs)∧aB K H ds xs from by simpa only [Dat] using h)
   have:=aB.mono e ds xs e3
   simp only [Dat]
   exact ⟨a,xs,e1,e.tup _ _ e2,this⟩
 | .zU ds,v,h=>by
   obtain ⟨a,xs,e1,e2,e3⟩:=(show ∃ a xs,v= .ref a∧Fz K H a xs∧aB K H ds xs from by simpa only [Dat] using h)
   have:=aB.mono e ds xs e3
   simp only [Dat]
   exact ⟨a,xs,e1,e2.mono e,this⟩
 | .JC n,v,h=>by
   obtain ⟨a,o,u,e1,e2,e3⟩:=(show ∃ a o u,v= .ref a∧H a=some (.mP o u)∧o.cls= .type n from by simpa only [Dat] using h)
   simp only [Dat]
   exact ⟨a,o,u,e1,e.mP _ _ _ e2,e3⟩
 | .exc C nm ds,v,h=>by
   obtain ⟨a,o,u,xs,e1,e2,e3,e4⟩:=(show ∃ a o u xs,v= .ref a∧H a=some (.mP o u)∧Xo H C nm o xs∧aB K H ds xs from by simpa only [Dat] using h)
   have:=aB.mono e ds xs e4
   simp only [Dat]
   exact ⟨a,o,u,xs,e1,e.mP _ _ _ e2,e3.mono e,this⟩
theorem aB.mono {K:PySem.W.Frag} {H H':Hp} (e:Ext H H'):∀ (ds:List D) (xs:List V),aB K H ds xs→aB K H' ds xs
 | [],xs,h=>by simpa [aB] using h
 | d :: ds,xs,h=>by
   obtain ⟨v,vs,e1,e2,e3⟩:=(show ∃ v vs,xs=v :: vs∧Dat K H d v∧aB K H ds vs from by simpa only [aB] using h)
   have h1:=Dat.mono e d v e2
   have h2:=aB.mono e ds vs e3
   simp only [aB]
   exact ⟨v,vs,e1,h1,h2⟩
end
section
variable {K:PySem.W.Frag} {H:Hp}
theorem b8 {v:V}:Dat K H .aX v↔v= .aX:=by simp only [Dat]
theorem aS {b:Bool} {v:V}:Dat K H (.bl b) v↔v= .bl b:=by simp only [Dat]
theorem aO {i:Int} {v:V}:Dat K H (.int i) v↔v= .int i:=by simp only [Dat]
theorem fS {x:Str} {v:V}:Dat K H (.str x) v↔v= .str x:=by simp only [Dat]
theorem zV {n:String} {v:V}:Dat K H (.ty n) v↔v= .ty n:=by simp only [Dat]
theorem aK {a:Addr} {v:V}:Dat K H (.ref a) v↔v= .ref a:=by simp only [Dat]
theorem aR {ds:List D} {v:V}:Dat K H (.tup ds) v↔∃ a xs,v= .ref a∧H a=some (.tup xs)∧aB K H ds xs:=by simp only [Dat]
theorem mT {ds:List D} {v:V}:Dat K H (.zU ds) v↔∃ a xs,v= .ref a∧Fz K H a xs∧aB K H ds xs:=by simp only [Dat]
theorem Bq {n:String} {v:V}:Dat K H (.JC n) v↔∃ a o u,v= .ref a∧H a=some (.mP o u)∧o.cls= .type n:=by simp only [Dat]
theorem HF {C:Addr} {nm:Str} {ds:List D} {v:V}:Dat K H (.exc C nm ds) v↔∃ a o u xs,v= .ref a∧H a=some (.mP o u)∧Xo H C nm o xs∧aB K H ds xs:=by simp only [Dat]
theorem aH {xs:List V}:aB K H [] xs↔xs= []:=by simp only [aB]
theorem aA {d:D} {ds:List D} {xs:List V}:aB K H (d :: ds) xs↔∃ v vs,xs=v :: vs∧Dat K H d v∧aB K H ds vs:=by simp only [aB]
theorem aB.length:∀ {ds:List D} {xs:List V},aB K H ds xs→ds.length=xs.length
 | [],xs,h=>by rw [aH.mp h];rfl
 | d :: ds,xs,h=>by
   obtain ⟨v,vs,rfl,_,h⟩:=aA.mp h
   simp [aB.length h]
theorem aB.get:∀ {ds:List D} {xs:List V} {i:Nat} {d:D},aB K H ds xs→ds[i]?=some d→∃ v,xs[i]?=some v∧Dat K H d v
 | [],xs,_,_,_,e=>by simp at e
 | d :: ds,xs,i,d',h,e=>by
   obtain ⟨v,vs,rfl,h1,h2⟩:=aA.mp h
   cases i with
   | zero=>simp at e;subst e;exact ⟨v,rfl,h1⟩
   | succ i=>exact aB.get (i:=i) h2 (by simpa using e)
theorem aB.back:∀ {ds:List D} {xs:List V} {i:Nat} {v:V},aB K H ds xs→xs[i]?=some v→∃ d,ds[i]?=some d∧Dat K H d v
 | [],xs,i,v,h,e=>by rw [aH.mp h] at e;simp at e
 | d :: ds,xs,i,v',h,e=>by
   obtain ⟨v,vs,rfl,h1,h2⟩:=aA.mp h
   cases i with
   | zero=>simp at e;subst e;exact ⟨d,rfl,h1⟩
   | succ i=>exact aB.back (i:=i) h2 (by simpa using e)
theorem aB.append:∀ {ds es:List D} {xs ys:List V},aB K H ds xs→aB K H es ys→aB K H (ds ++ es) (xs ++ ys)
 | [],es,xs,ys,h,h'=>by rw [aH.mp h];exact h'
 | d :: ds,es,xs,ys,h,h'=>by
   obtain ⟨v,vs,rfl,h1,h2⟩:=aA.mp h
   exact aA.mpr ⟨v,vs ++ ys,rfl,h1,h2.append h'⟩
theorem aB.one {d:D} {v:V} (h:Dat K H d v):aB K H [d] [v]:=aA.mpr ⟨v,[],rfl,h,aH.mpr rfl⟩
end
inductive MO where
 | lst (ds:List D)
 | oB (kvs:List (List (List Int) ×D))
abbrev Mp:=Addr→Option MO
def ay (M:Mp) (a:Addr) (o:MO):Mp:=fun b=>if b=a then some o else M b
def MA:Mp:=fun _=>none
theorem ai {M:Mp} {a:Addr} {o:MO}:ay M a o a=some o:=by unfold ay;rw [if_pos rfl]
theorem aP {M:Mp} {a b:Addr} {o:MO} (h:b≠a):ay M a o b=M b:=by unfold ay;rw [if_neg h]
theorem mU {M:Mp} {a:Addr} {o u:MO}:ay (ay M a o) a u=ay M a u:=by
 funext b;unfold ay;split <;> rfl
theorem ao {M:Mp} {a b:Addr} {o u:MO} (h:M b=some o) (n:M a=none):ay M a u b=some o:=by
 rw [aP (fun e=>by subst e;rw [h] at n;cases n)];exact h
def Le (M M':Mp):Prop:= ∀ a o,M a=some o→M' a=some o
theorem Le.refl (M:Mp):Le M M:=fun _ _ h=>h
theorem Le.trans {M M1 M2:Mp} (a:Le M M1) (b:Le M1 M2):Le M M2:=fun c o h=>b c o (a c o h)
theorem Le.new {M:Mp} {a:Addr} {o:MO} (n:M a=none):Le M (ay M a o):=fun _ _ h=>ao h n
def Nv (ks:List (List Int)):Int:=reduceHash (Builtin.Tuple.tupleHashOf (ks.map fun k=>reduceHash (Builtin.Tuple.tupleHashOf (k.map hashInt))))
abbrev DX:=List (List (List Int) ×Addr ×Value)
def QL (x:List (List Int) ×Addr ×Value):DictEntry:=⟨Nv x.1,.ref x.2.1,x.2.2⟩
def qf (a:Addr) (xs:DX):Heap→Prop:=fun h=> ∃ o es ep,h.get? a=some o∧o.ExactDict∧o.data= .dict es ep∧es.toList=xs.map QL
def kD (k:List (List Int)):D:= .tup (k.map fun l=> .tup (l.map .int))
def lD (K:PySem.W.Frag) (H:Hp) (p:List (List Int) ×D) (x:List (List Int) ×Addr ×Value):Prop:=p.1=x.1∧Dat K H (kD p.1) (.ref x.2.1)∧∃ v,Dat K H p.2 v∧RelV v x.2.2
theorem lD.mono {K:PySem.W.Frag} {H H':Hp} (e:Ext H H') {p:List (List Int) ×D} {x:List (List Int) ×Addr ×Value} (h:lD K H p x):lD K H' p x:=by
 obtain ⟨h1,h2,v,h3,h4⟩:=h
 exact ⟨h1,Dat.mono e _ _ h2,v,Dat.mono e _ _ h3,h4⟩
def MB (K:PySem.W.Frag) (H:Hp) (a:Addr):MO→Prop
 | .lst ds=> ∃ xs,H a=some (.lst xs)∧aB K H ds xs
 | .oB kvs=> ∃ xs:DX,H a=some (.ext (qf a xs))∧(a == sysModules)=false∧(xs.map (·.1)).Nodup∧Paired (lD K H) kvs xs
theorem MB.mono {K:PySem.W.Frag} {H H':Hp} {a:Addr} {o:MO} (h:MB K H a o) (e:Ext H H') (s:∀ u,H a=some u→H' a=some u):MB K H' a o:=by
 cases o with
 | lst ds=>
   obtain ⟨xs,e1,e2⟩:=h
   exact ⟨xs,s _ e1,aB.mono e _ _ e2⟩
 | oB kvs=>
   obtain ⟨xs,e1,y,nd,p⟩:=h
   exact ⟨xs,s _ e1,y,nd,Paired.G7 p fun _ _ z=>z.mono e⟩
theorem MB.has {K:PySem.W.Frag} {H:Hp} {a:Addr} {o:MO} (h:MB K H a o):∃ u,H a=some u∧((∃ xs,u= .lst xs)∨∃ φ,u= .ext φ):=by
 cases o with
 | lst ds=>
   obtain ⟨xs,e1,_⟩:=h
   exact ⟨_,e1,.inl ⟨_,rfl⟩⟩
 | oB kvs=>
   obtain ⟨xs,e1,_⟩:=h
   exact ⟨_,e1,.inr ⟨_,rfl⟩⟩
def br (K:PySem.W.Frag) (H:Hp) (M:Mp):Prop:= ∀ a o,M a=some o→MB K H a o
theorem br.no {K:PySem.W.Frag} {H:Hp}:br K H MA:=fun _ _ h=>by cases h
theorem br.le {K:PySem.W.Frag} {H:Hp} {M M':Mp} (h:br K H M') (l:Le M M'):br K H M:=fun a o e=>h a o (l a o e)
theorem br.lst {K:PySem.W.Frag} {H:Hp} {M:Mp} {a:Addr} {ds:List D} (h:br K H M) (e:M a=some (.lst ds)):∃ xs,H a=some (.lst xs)∧aB K H ds xs:=h a _ e
theorem br.free {K:PySem.W.Frag} {H:Hp} {M:Mp} {a:Addr} (h:br K H M) (e:H a=none):M a=none:=by
 cases q:M a with
 | none=>rfl
 | some o=>
   obtain ⟨u,e',_⟩:=(h a o q).has
   rw [e] at e';cases e'
theorem br.vJ {K:PySem.W.Frag} {H:Hp} {M:Mp} {a:Addr} {u:HO} (h:br K H M) (e:H a=some u) (n:∀ xs,u≠ .lst xs) (n2:∀ φ,u≠ .ext φ:=by intro _ z;cases z):M a=none:=by
 cases q:M a with
 | none=>rfl
 | some o=>
   obtain ⟨u',e',h'⟩:=(h a o q).has
   rw [e] at e'
   cases e'
   rcases h' with ⟨xs,z⟩ | ⟨φ,z⟩
   ·exact absurd z (n xs)
   ·exact absurd z (n2 φ)
def Fr (M:Mp) (H:Hp) (M':Mp) (H':Hp):Prop:= ∀ b o,M b=none→H b=some o→H' b=some o∧M' b=none
theorem Fr.refl (M:Mp) (H:Hp):Fr M H M H:=fun _ _ n e=>⟨e,n⟩
theorem Fr.trans {M M1 M2:Mp} {H H1 H2:Hp} (a:Fr M H M1 H1) (b:Fr M1 H1 M2 H2):Fr M H M2 H2:=fun c o n e=>
 let ⟨e1,n1⟩:=a c o n e
 b c o n1 e1
theorem Fr.le {M M1 M2:Mp} {H H1:Hp} (a:Fr M H M1 H1) (l:Le M2 M1):Fr M H M2 H1:=fun b o n e=>by
 obtain ⟨e1,n1⟩:=a b o n e
 refine ⟨e1,?_⟩
 cases q:M2 b with
 | none=>rfl
 | some u=>rw [l b u q] at n1;cases n1
theorem Fr.ext {K:PySem.W.Frag} {M M':Mp} {H H':Hp} (f:Fr M H M' H') (r:br K H M):Ext H H':=
 ⟨fun b xs e=>(f b _ (r.vJ e (fun _ z=>by cases z)) e).1,fun b o u e=>(f b _ (r.vJ e (fun _ z=>by cases z)) e).1⟩
theorem Ext.new {H:Hp} {p:Addr} {o:HO} (n:H p=none):Ext H (upd H p o):=
 ⟨fun b xs e=>by rw [aQ (bC e n)];exact e,fun b o' u e=>by rw [aQ (bC e n)];exact e⟩
theorem Fr.new {M M':Mp} {H:Hp} {p:Addr} {o:HO} (n:H p=none) (h:∀ b,b≠p→M' b=M b):Fr M H M' (upd H p o):=fun b u m e=>by
 have hb:b≠p:=bC e n
 rw [aQ hb,h b hb]
 exact ⟨e,m⟩
theorem Fr.write {K:PySem.W.Frag} {M:Mp} {H:Hp} {p:Addr} {o:HO} {u:MO} {v:MO} (m:M p=some u):Fr M H (ay M p v) (upd H p o):=fun b w n e=>by
 have hb:b≠p:=fun z=>by subst z;rw [m] at n;cases n
 rw [aQ hb,aP hb]
 exact ⟨e,n⟩
theorem br.new {K:PySem.W.Frag} {M:Mp} {H:Hp} {p:Addr} {o:HO} (r:br K H M) (n:H p=none):br K (upd H p o) M:=fun a u e=>
 (r a u e).mono (Ext.new n) fun v q=>by rw [aQ (bC q n)];exact q
theorem Ext.jV {H:Hp} {p:Addr} {xs ys:List V} (h:H p=some (.lst xs)):Ext H (upd H p (.lst ys)):=
 ⟨fun b zs e=>by rw [aQ (Bb e h (by intro z;cases z))];exact e,fun b o u e=>by rw [aQ (Bb e h (by intro z;cases z))];exact e⟩
theorem br.newL {K:PySem.W.Frag} {M:Mp} {H:Hp} {p:Addr} {xs:List V} {ds:List D} (r:br K H M) (n:H p=none) (d:aB K H ds xs):br K (upd H p (.lst xs)) (ay M p (.lst ds)):=fun a u e=>by
 by_cases ha:a=p
 ·subst ha
  rw [ai] at e;cases e
  exact ⟨xs,cF,aB.mono (Ext.new n) _ _ d⟩
 ·rw [aP ha] at e
  exact r.new n a u e
theorem br.jV {K:PySem.W.Frag} {M:Mp} {H:Hp} {p:Addr} {xs ys:List V} {ds:List D} (r:br K H M) (h:H p=some (.lst xs)) (d:aB K H ds ys):br K (upd H p (.lst ys)) (ay M p (.lst ds)):=fun a u e=>by
 by_cases ha:a=p
 ·subst ha
  rw [ai] at e;cases e
  exact ⟨ys,cF,aB.mono (Ext.jV h) _ _ d⟩
 ·rw [aP ha] at e
  exact (r a u e).mono (Ext.jV h) fun v q=>by rw [aQ ha];exact q
theorem Ext.vK {H:Hp} {p:Addr} {φ:Heap→Prop} {o:HO} (h:H p=some (.ext φ)):Ext H (upd H p o):=
 ⟨fun b zs e=>by rw [aQ (Bb e h (by intro z;cases z))];exact e,fun b o u e=>by rw [aQ (Bb e h (by intro z;cases z))];exact e⟩
theorem br.newD {K:PySem.W.Frag} {M:Mp} {H:Hp} {p:Addr} (r:br K H M) (n:H p=none) (y:(p == sysModules)=false):br K (upd H p (.ext (qf p []))) (ay M p (.oB [])):=fun a u e=>by
 by_cases ha:a=p
 ·subst ha
  rw [ai] at e;cases e
  exact ⟨[],cF,y,List.nodup_nil,.nil⟩
 ·rw [aP ha] at e
  exact r.new n a u e
theorem br.oB {K:PySem.W.Frag} {H:Hp} {M:Mp} {a:Addr} {kvs:List (List (List Int) ×D)} (h:br K H M) (e:M a=some (.oB kvs)):∃ xs:DX,H a=some (.ext (qf a xs))∧(a == sysModules)=false∧(xs.map (·.1)).Nodup∧Paired (lD K H) kvs xs:=h a _ e
theorem br.vK {K:PySem.W.Frag} {M:Mp} {H:Hp} {p:Addr} {φ:Heap→Prop} {xs:DX} {kvs:List (List (List Int) ×D)} (r:br K H M) (h:H p=some (.ext φ)) (y:(p == sysModules)=false) (nd:(xs.map (·.1)).Nodup) (d:Paired (lD K H) kvs xs) :
 br K (upd H p (.ext (qf p xs))) (ay M p (.oB kvs)):=fun a u e=>by
 by_cases ha:a=p
 ·subst ha
  rw [ai] at e;cases e
  exact ⟨xs,cF,y,nd,Paired.G7 d fun _ _ z=>z.mono (Ext.vK h)⟩
 ·rw [aP ha] at e
  exact (r a u e).mono (Ext.vK h) fun v q=>by rw [aQ ha];exact q
abbrev En:=List (Option D)
structure Rep (K:PySem.W.Frag) (H:Hp) (σ:St) (ρ:En) (M:Mp):Prop where
 env:∀ (i:Nat) d,ρ[i]?=some (some d)→∃ v,σ[i]?=some (some v)∧Dat K H d v
 len:ρ.length=σ.length
 mem:br K H M
theorem Rep.go {K:PySem.W.Frag} {H H':Hp} {σ:St} {ρ:En} {M M':Mp} (r:Rep K H σ ρ M) (f:Fr M H M' H') (r':br K H' M'):Rep K H' σ ρ M':=
 ⟨fun i d e=>let ⟨v,e1,e2⟩:=r.env i d e;⟨v,e1,Dat.mono (f.ext r.mem) _ _ e2⟩,r.len,r'⟩
theorem Rep.set {K:PySem.W.Frag} {H:Hp} {σ:St} {ρ:En} {M:Mp} {i:Nat} {d:D} {v:V} (r:Rep K H σ ρ M) (h:Dat K H d v):Rep K H (σ.set i (some v)) (ρ.set i (some d)) M:=by
 refine ⟨fun j e q=>?_,by simp [r.len],r.mem⟩
 by_cases hj:i=j
 ·subst hj
  by_cases hl:i < ρ.length
  ·rw [List.getElem?_set_self hl] at q
   cases q
   exact ⟨v,List.getElem?_set_self (by rw [← r.len];exact hl),h⟩
  ·rw [List.getElem?_eq_none (by simp;omega)] at q;cases q
 ·rw [List.getElem?_set_ne hj] at q ⊢
  exact r.env j e q
abbrev DK:=D→Mp→Prop
abbrev cK:=En→Mp→DK→Prop
abbrev lH:=En→Mp→(Bool→Mp→Prop)→Prop
abbrev xK:=En→Mp→(List D→Mp→Prop)→Prop
def Post (K:PySem.W.Frag) (M:Mp) (H:Hp) (Q:DK):VK:=fun v H'=> ∃ d M',Fr M H M' H'∧Dat K H' d v∧br K H' M'∧Q d M'
def pP (K:PySem.W.Frag) (M:Mp) (H:Hp) (Q:Bool→Mp→Prop):Bool→Hp→Prop:=fun b H'=> ∃ M',Fr M H M' H'∧br K H' M'∧Q b M'
def JD (K:PySem.W.Frag) (M:Mp) (H:Hp) (Q:List D→Mp→Prop):List V→Hp→Prop:=fun vs H'=> ∃ ds M',Fr M H M' H'∧aB K H' ds vs∧br K H' M'∧Q ds M'
structure bZ (X:Cx) (e:Expr) (t:cK):Prop where
 run:∀ (pins:List (Addr ×Obj)) (s:Shared) (σ:St) (H:Hp) (ρ:En) (M:Mp) (Q:DK),Inv X pins σ H s→Rep X.K H σ ρ M→t ρ M Q→wpAny (model X.prog X.w) X.A (eval e X.env) (EP X pins σ (Post X.K M H Q)) X.xe s
structure zE (X:Cx) (e:Expr) (t:lH):Prop where
 run:∀ (pins:List (Addr ×Obj)) (s:Shared) (σ:St) (H:Hp) (ρ:En) (M:Mp) (Q:Bool→Mp→Prop),Inv X pins σ H s→Rep X.K H σ ρ M→t ρ M Q→wpAny (model X.prog X.w) X.A (isTrue e X.env (eval e X.env)) (TP X pins σ (pP X.K M H Q)) X.xe s
structure qH (X:Cx) (e:Expr) (t:lH):Prop where
 run:∀ (whole:Sem Value) (pins:List (Addr ×Obj)) (s:Shared) (σ:St) (H:Hp) (ρ:En) (M:Mp) (Q:Bool→Mp→Prop),Inv X pins σ H s→Rep X.K H σ ρ M→t ρ M Q→wpAny (model X.prog X.w) X.A (isTrue e X.env whole) (TP X pins σ (pP X.K M H Q)) X.xe s
theorem qH.pt {X:Cx} {e:Expr} {t:lH} (h:qH X e t):zE X e t:=⟨h.run _⟩
structure CD (X:Cx) (es:List Expr) (t:xK):Prop where
 run:∀ (pos:Pos) (pins:List (Addr ×Obj)) (s:Shared) (σ:St) (H:Hp) (ρ:En) (M:Mp) (Q:List D→Mp→Prop),Inv X pins σ H s→Rep X.K H σ ρ M→t ρ M Q→wpAny (model X.prog X.w) X.A (spliced (backTo pos (starEach es X.env))) (AP X pins σ (JD X.K M H Q)) X.xe s
structure JE where
 nx:En→Mp→Prop
 rt:DK
 bk:En→Mp→Prop:=fun _ _=>False
 ct:En→Mp→Prop:=fun _ _=>False
abbrev jJ:=JE→En→Mp→Prop
def iN (K:PySem.W.Frag) (M:Mp) (H:Hp) (Q:En→Mp→Prop):St→Hp→Prop:=fun σ' H'=> ∃ ρ' M',Fr M H M' H'∧Rep K H' σ' ρ' M'∧Q ρ' M'
def ends (K:PySem.W.Frag) (M:Mp) (H:Hp) (D:JE):Ends:={ nx:=iN K M H D.nx,rt:=Post K M H D.rt,bk:=iN K M H D.bk,ct:=iN K M H D.ct }
structure xZ (X:Cx) (st:Stmt) (t:jJ):Prop where
 run:∀ (pins:List (Addr ×Obj)) (s:Shared) (σ:St) (H:Hp) (ρ:En) (M:Mp) (D:JE),Inv X pins σ H s→Rep X.K H σ ρ M→t D ρ M→wpAny (model X.prog X.w) X.A (exec st X.env) (SP X pins (ends X.K M H D)) X.xe s
structure jG (X:Cx) (st:List Stmt) (t:jJ):Prop where
 run:∀ (pins:List (Addr ×Obj)) (s:Shared) (σ:St) (H:Hp) (ρ:En) (M:Mp) (D:JE),Inv X pins σ H s→Rep X.K H σ ρ M→t D ρ M→wpAny (model X.prog X.w) X.A (execs st X.env) (SP X pins (ends X.K M H D)) X.xe s
section
variable {X:Cx}
theorem up {e:Expr} {te:TE} {t:cK} (h:PE X e te) (g:∀ σ H ρ M Q,Rep X.K H σ ρ M→t ρ M Q→te σ H (Post X.K M H Q)):bZ X e t:=
 ⟨fun pins s σ H ρ M Q I r q=>h pins s σ H _ I (g σ H ρ M Q r q)⟩
theorem Ua {e:Expr} {te:TT} {t:lH} (h:PT X e te) (g:∀ σ H ρ M Q,Rep X.K H σ ρ M→t ρ M Q→te σ H (pP X.K M H Q)):zE X e t:=
 ⟨fun pins s σ H ρ M Q I r q=>h pins s σ H _ I (g σ H ρ M Q r q)⟩
theorem JF {st:Stmt} {te:TS} {t:jJ} (h:PS X st te) (g:∀ σ H ρ M D,Rep X.K H σ ρ M→t D ρ M→te (ends X.K M H D) σ H):xZ X st t:=
 ⟨fun pins s σ H ρ M D I r q=>h pins s σ H _ I (g σ H ρ M D r q)⟩
def dn (K:PySem.W.Frag) (t:cK):TE:=fun σ H Q'=> ∃ ρ M Q,Rep K H σ ρ M∧t ρ M Q∧∀ v H',Post K M H Q v H'→Q' v H'
def QM (K:PySem.W.Frag) (t:lH):TT:=fun σ H Q'=> ∃ ρ M Q,Rep K H σ ρ M∧t ρ M Q∧∀ v H',pP K M H Q v H'→Q' v H'
def SA (K:PySem.W.Frag) (t:xK):TA:=fun σ H Q'=> ∃ ρ M Q,Rep K H σ ρ M∧t ρ M Q∧∀ v H',JD K M H Q v H'→Q' v H'
def Pp (K:PySem.W.Frag) (t:jJ):TS:=fun D' σ H=> ∃ ρ M D,Rep K H σ ρ M∧t D ρ M∧(∀ σ' H',iN K M H D.nx σ' H'→D'.nx σ' H')∧(∀ v H',Post K M H D.rt v H'→D'.rt v H')∧(∀ σ' H',iN K M H D.bk σ' H'→D'.bk σ' H')∧(∀ σ' H',iN K M H D.ct σ' H'→D'.ct σ' H')
theorem bZ.dn {e:Expr} {t:cK} (h:bZ X e t):PE X e (dn X.K t):=fun pins s σ H Q' I ⟨ρ,M,Q,r,q,k⟩=>
 cI (h.run pins s σ H ρ M Q I r q) fun _ _ ⟨v,H',I',rv,p⟩=>⟨v,H',I',rv,k v H' p⟩
theorem zE.dn {e:Expr} {t:lH} (h:zE X e t):PT X e (QM X.K t):=fun pins s σ H Q' I ⟨ρ,M,Q,r,q,k⟩=>
 cI (h.run pins s σ H ρ M Q I r q) fun _ _ ⟨H',I',p⟩=>⟨H',I',k _ H' p⟩
theorem qH.dn {e:Expr} {t:lH} (h:qH X e t):PW X e (QM X.K t):=fun wh pins s σ H Q' I ⟨ρ,M,Q,r,q,k⟩=>
 cI (h.run wh pins s σ H ρ M Q I r q) fun _ _ ⟨H',I',p⟩=>⟨H',I',k _ H' p⟩
theorem CD.dn {es:List Expr} {t:xK} (h:CD X es t):PA X es (SA X.K t):=fun pos pins s σ H Q' I ⟨ρ,M,Q,r,q,k⟩=>
 cI (h.run pos pins s σ H ρ M Q I r q) fun _ _ ⟨vs,H',I',rv,p⟩=>⟨vs,H',I',rv,k vs H' p⟩
theorem jG.dn {sts:List Stmt} {t:jJ} (h:jG X sts t):zO X sts (Pp X.K t):=fun pins s σ H D' I ⟨ρ,M,D,r,q,k1,k2,k3,k4⟩=>
 cI (h.run pins s σ H ρ M D I r q) fun f s' z=>by
  cases f with
  | next=>obtain ⟨σ',H',I',p⟩:=z;exact ⟨σ',H',I',k1 _ _ p⟩
  | brk=>obtain ⟨σ',H',I',p⟩:=z;exact ⟨σ',H',I',k3 _ _ p⟩
  | cont=>obtain ⟨σ',H',I',p⟩:=z;exact ⟨σ',H',I',k4 _ _ p⟩
  | ret u=>obtain ⟨v,σ',H',I',rv,p⟩:=z;exact ⟨v,σ',H',I',rv,k2 _ _ p⟩
theorem cN {K:PySem.W.Frag} {t:cK} {σ:St} {H:Hp} {ρ:En} {M:Mp} {Q:DK} {Q':VK} (r:Rep K H σ ρ M) (q:t ρ M Q) (k:∀ v H' d M',Fr M H M' H'→Dat K H' d v→Rep K H' σ ρ M'→Q d M'→Q' v H'):dn K t σ H Q':=
 ⟨ρ,M,Q,r,q,fun v H' ⟨d,M',f,dv,rm,p⟩=>k v H' d M' f dv (r.go f rm) p⟩
theorem qX {K:PySem.W.Frag} {t:lH} {σ:St} {H:Hp} {ρ:En} {M:Mp} {Q:Bool→Mp→Prop} {Q':Bool→Hp→Prop} (r:Rep K H σ ρ M) (q:t ρ M Q) (k:∀ b H' M',Fr M H M' H'→Rep K H' σ ρ M'→Q b M'→Q' b H'):QM K t σ H Q':=
 ⟨ρ,M,Q,r,q,fun b H' ⟨M',f,rm,p⟩=>k b H' M' f (r.go f rm) p⟩
theorem oE {K:PySem.W.Frag} {t:xK} {σ:St} {H:Hp} {ρ:En} {M:Mp} {Q:List D→Mp→Prop} {Q':List V→Hp→Prop} (r:Rep K H σ ρ M) (q:t ρ M Q) (k:∀ vs H' ds M',Fr M H M' H'→aB K H' ds vs→Rep K H' σ ρ M'→Q ds M'→Q' vs H'):SA K t σ H Q':=
 ⟨ρ,M,Q,r,q,fun v H' ⟨d,M',f,dv,rm,p⟩=>k v H' d M' f dv (r.go f rm) p⟩
theorem aD {K:PySem.W.Frag} {M:Mp} {H:Hp} {Q:DK} {d:D} {v:V} (rm:br K H M) (h:Dat K H d v) (q:Q d M):Post K M H Q v H:=⟨d,M,.refl _ _,h,rm,q⟩
theorem Post.back {K:PySem.W.Frag} {M M1:Mp} {H H1:Hp} {Q:DK} {v:V} {H':Hp} (f:Fr M H M1 H1) (p:Post K M1 H1 Q v H'):Post K M H Q v H':=by
 obtain ⟨d,M',f',dv,rm,q⟩:=p
 exact ⟨d,M',f.trans f',dv,rm,q⟩
theorem pP.back {K:PySem.W.Frag} {M M1:Mp} {H H1:Hp} {Q:Bool→Mp→Prop} {b:Bool} {H':Hp} (f:Fr M H M1 H1) (p:pP K M1 H1 Q b H'):pP K M H Q b H':=by
 obtain ⟨M',f',rm,q⟩:=p
 exact ⟨M',f.trans f',rm,q⟩
theorem iN.back {K:PySem.W.Frag} {M M1:Mp} {H H1:Hp} {Q:En→Mp→Prop} {σ:St} {H':Hp} (f:Fr M H M1 H1) (p:iN K M1 H1 Q σ H'):iN K M H Q σ H':=by
 obtain ⟨ρ',M',f',r,q⟩:=p
 exact ⟨ρ',M',f.trans f',r,q⟩
end
end L3
namespace L3
open PySem PySem.Spec PyProof.Rows L2
section
variable {X:Cx} {a b c:Expr} {ta tb tc:cK} {pos:Pos}
def Ny (i:Nat):cK:=fun ρ M Q=> ∃ d,ρ[i]?=some (some d)∧Q d M
def Pq (d:D):cK:=fun _ M Q=>Q d M
theorem aa (i:Nat) {x:Str} {pos:Pos} (hN:X.N[i]?=some x:=by rfl) (hv:P5 X.env.scope x:=by first | exact Or.inl rfl | exact Or.inr (Or.inl rfl) | exact Or.inr (Or.inr rfl)) (hd:(x == ("__debug__" :Str))=false:=by decide)
 (hcd:(x == ("__classdict__" :Str))=false:=by decide):bZ X (.Name x pos) (Ny i):=
 up (Kc hN hv hd hcd) fun σ H ρ M Q r ⟨d,e,q⟩=>by
  obtain ⟨v,e1,e2⟩:=r.env i d e
  exact ⟨v,e1,aD r.mem e2 q⟩
theorem ah {i j pos}:bZ X (.Constant (.int i) j pos) (Pq (.int i)):=up Kd fun _ _ _ _ _ r q=>aD r.mem (aO.mpr rfl) q
theorem qg {b j pos}:bZ X (.Constant (.bool b) j pos) (Pq (.bl b)):=up MT fun _ _ _ _ _ r q=>aD r.mem (aS.mpr rfl) q
theorem Br {j pos}:bZ X (.Constant .none j pos) (Pq .aX):=up Ke fun _ _ _ _ _ r q=>aD r.mem (b8.mpr rfl) q
theorem vL {x:Str} {n:String} {pos:Pos} (hg:Gl X x) (hm:X.mg x=none) (hv:bootBuiltins x=some (.type n)) (hn:x≠"__name__" :=by decide) (hd:(x == ("__debug__" :Str))=false:=by decide):bZ X (.Name x pos) (Pq (.ty n)):=
 up (Hg (v:= .ty n) hg hm hv rfl hn hd) fun _ _ _ _ _ r q=>aD r.mem (zV.mpr rfl) q
abbrev R3:=D→D→Mp→DK→Prop
structure mQ (X:Cx) (f:Value→Value→Sem Value) (t:R3):Prop where
 run:∀ (pins:List (Addr ×Obj)) (s:Shared) (σ:St) (H:Hp) (M:Mp) (x y:V) (d e:D) (v u:Value) (Q:DK),Inv X pins σ H s→br X.K H M→RelV x v→RelV y u→Dat X.K H d x→Dat X.K H e y→t d e M Q→
  wpAny (model X.prog X.w) X.A (f v u) (EP X pins σ (Post X.K M H Q)) X.xe s
theorem MC {f:Value→Value→Sem Value} {r:R2} {t:R3} (h:xJ X f r) (g:∀ H M x y d e Q,br X.K H M→Dat X.K H d x→Dat X.K H e y→t d e M Q→r x y H (Post X.K M H Q)):mQ X f t:=
 ⟨fun pins s σ H M x y d e v u Q I rm rx ry dx dy q=>h pins s σ H x y v u _ I rx ry (g H M x y d e Q rm dx dy q)⟩
def Ek (t:R3) (ta tb:cK):cK:=fun ρ M Q=>ta ρ M fun x M1=>tb ρ M1 fun y M2=>t x y M2 Q
theorem Nz (ha:bZ X a ta) (hb:bZ X b tb) {pins:List (Addr ×Obj)} {s:Shared} {σ:St} {H:Hp} {ρ:En} {M:Mp} {R:D→D→Mp→Prop} (I:Inv X pins σ H s) (r:Rep X.K H σ ρ M)
 (h:ta ρ M fun x M1=>tb ρ M1 fun y M2=>R x y M2) {Q:Value→Shared→Prop} {f:Value→Value→Sem Value}
 (hf:∀ v u s2 x y d e H2 M2,Inv X pins σ H2 s2→Rep X.K H2 σ ρ M2→Fr M H M2 H2→RelV x v→RelV y u→Dat X.K H2 d x→Dat X.K H2 e y→R d e M2→wpAny (model X.prog X.w) X.A (f v u) Q X.xe s2) :
 wpAny (model X.prog X.w) X.A (eval a X.env) (fun v s₁=>wpAny (model X.prog X.w) X.A (eval b X.env) (fun u s₂=>wpAny (model X.prog X.w) X.A (f v u) Q X.xe s₂) X.xe s₁) X.xe s:=by
 refine cI (ha.run pins s σ H ρ M _ I r h) fun v s1 ⟨x,H1,I1,r1,d,M1,f1,d1,mR,q1⟩=>?_
 have R1:=r.go f1 mR
 refine cI (hb.run pins s1 σ H1 ρ M1 _ I1 R1 q1) fun u s2 ⟨y,H2,I2,r2,e,M2,f2,d2,NB,q2⟩=>?_
 exact hf v u s2 x y d e H2 M2 I2 (R1.go f2 NB) (f1.trans f2) r1 r2 (Dat.mono (f2.ext mR) _ _ d1) d2 q2
theorem au {op:Operator} {t:R3} (ho:mQ X (binaryOp op) t) (ha:bZ X a ta) (hb:bZ X b tb):bZ X (.BinOp a op b pos) (Ek t ta tb):=by
 constructor
 intro pins s σ H ρ M Q I r h
 refine wpAny_BinOp (Nz ha hb I r h fun v u s2 x y d e H2 M2 I2 R2 f rx ry dx dy q=>?_)
 exact cI (ho.run pins s2 σ H2 M2 x y d e v u Q I2 R2.mem rx ry dx dy q) fun _ _ ⟨z,H3,I3,r3,p⟩=>⟨z,H3,I3,r3,p.back f⟩
theorem mV {op:CmpOp} {t:R3} (ho:mQ X (compareOp op) t) (ha:bZ X a ta) (hb:bZ X b tb) (hm:behindInMarks op b=false):bZ X (.Compare a [op] [b] pos) (Ek t ta tb):=by
 constructor
 intro pins s σ H ρ M Q I r h
 refine wpAny_Compare1 (Nz ha hb I r h fun v u s2 x y d e H2 M2 I2 R2 f rx ry dx dy q=>?_) hm
 exact cI (ho.run pins s2 σ H2 M2 x y d e v u Q I2 R2.mem rx ry dx dy q) fun _ _ ⟨z,H3,I3,r3,p⟩=>⟨z,H3,I3,r3,p.back f⟩
def El (t:cK):lH:=fun ρ M Q=>t ρ M fun x M'=> ∃ k,x= .bl k∧Q k M'
theorem aU {op:CmpOp} {t:R3} (ho:mQ X (compareOp op) t) (ha:bZ X a ta) (hb:bZ X b tb) (hm:behindInMarks op b=false):zE X (.Compare a [op] [b] pos) (El (Ek t ta tb)):=by
 constructor
 intro pins s σ H ρ M Q I r h
 refine wpAny_isTrue_Compare1 (cI (ha.run pins s σ H ρ M _ I r h) fun v s1 ⟨x,H1,I1,r1,d,M1,f1,d1,mR,q1⟩=>cI (hb.run pins s1 σ H1 ρ M1 _ I1 (r.go f1 mR) q1) fun u s2 ⟨y,H2,I2,r2,e,M2,f2,d2,NB,q2⟩=>
  cI (ho.run pins s2 σ H2 M2 x y d e v u _ I2 NB r1 r2 (Dat.mono (f2.ext mR) _ _ d1) d2 q2) fun w s3 ⟨z,H3,I3,r3,dz,M3,f3,d3,Ub,k,ek,q3⟩=>?_) hm
 subst ek
 obtain rfl:=aS.mp d3
 cases r3
 exact wpAny_truthy_bool ⟨H3,I3,M3,(f1.trans f2).trans f3,Ub,q3⟩
theorem mW {e:Expr} {t:cK} (h:bZ X e t) (he:∀ whole,isTrue e X.env whole=(do let v ← whole;standAt e.pos;holding [v] (truthy v)):=by intro _;rfl):zE X e (El t):=by
 constructor
 intro pins s σ H ρ M Q I r hw
 refine isTrue_plain (cI (h.run pins s σ H ρ M _ I r hw) fun v s1 ⟨x,H1,I1,r1,d,M1,f1,d1,mR,k,ek,q1⟩=>?_) (he _)
 subst ek
 obtain rfl:=aS.mp d1
 cases r1
 exact wpAny_truthy_bool ⟨H1,I1,M1,f1,mR,q1⟩
variable {tA tB:lH} {rest:List Expr}
def NC (t u:lH):lH:=fun ρ M Q=>t ρ M fun c M1=>if c=true then u ρ M1 Q else Q false M1
def QN (t u:lH):lH:=fun ρ M Q=>t ρ M fun c M1=>if c=true then Q true M1 else u ρ M1 Q
def ND (t:lH):lH:=fun ρ M Q=>t ρ M fun c M1=>Q (!c) M1
theorem lW (ha:zE X a tA):qH X (.BoolOp .And [a] pos) tA:=⟨fun wh pins s σ H ρ M Q I r h=>cI (pw_and1 ha.dn wh pins s σ H _ I ⟨ρ,M,Q,r,h,fun _ _ z=>z⟩) fun _ _ z=>z⟩
theorem qY (ha:zE X a tA):qH X (.BoolOp .Or [a] pos) tA:=⟨fun wh pins s σ H ρ M Q I r h=>cI (pw_or1 ha.dn wh pins s σ H _ I ⟨ρ,M,Q,r,h,fun _ _ z=>z⟩) fun _ _ z=>z⟩
theorem qZ (ha:zE X a tA) (hb:qH X (.BoolOp .And (b :: rest) pos) tB):qH X (.BoolOp .And (a :: b :: rest) pos) (NC tA tB):=⟨fun wh pins s σ H ρ M Q I r h=>
 pw_and ha.dn hb.dn wh pins s σ H _ I (qX r h fun c H' M' f r' q=>by
  cases c with
  | true=>exact ⟨ρ,M',Q,r',q,fun _ _ p=>p.back f⟩
  | false=>exact ⟨M',f,r'.mem,q⟩)⟩
theorem vM (ha:zE X a tA) (hb:qH X (.BoolOp .Or (b :: rest) pos) tB):qH X (.BoolOp .Or (a :: b :: rest) pos) (QN tA tB):=⟨fun wh pins s σ H ρ M Q I r h=>
 pw_or ha.dn hb.dn wh pins s σ H _ I (qX r h fun c H' M' f r' q=>by
  cases c with
  | true=>exact ⟨M',f,r'.mem,q⟩
  | false=>exact ⟨ρ,M',Q,r',q,fun _ _ p=>p.back f⟩)⟩
theorem k_not (ha:zE X a tA):zE X (.UnaryOp .Not a pos) (ND tA):=Ua (Kf ha.dn) fun σ H ρ M Q r h=>qX r h fun _ _ M' f r' q=>⟨M',f,r'.mem,q⟩
def KR (ta tb:cK):cK:=fun ρ M Q=>ta ρ M fun x M1=> ∃ c,x= .bl c∧if c=true then tb ρ M1 Q else Q (.bl false) M1
def NF (ta tb:cK):cK:=fun ρ M Q=>ta ρ M fun x M1=> ∃ c,x= .bl c∧if c=true then Q (.bl true) M1 else tb ρ M1 Q
theorem x6 {op} {t:cK} (h:bZ X a t):bZ X (.BoolOp op [a] pos) t:=⟨fun pins s σ H ρ M Q I r hw=>BoolOp_one (h.run pins s σ H ρ M Q I r hw)⟩
theorem Bs (ha:bZ X a ta) (hb:bZ X (.BoolOp .And (b :: rest) pos) tb):bZ X (.BoolOp .And (a :: b :: rest) pos) (KR ta tb):=up (Kg ha.dn hb.dn) fun σ H ρ M Q r h=>cN r h fun v H' d M' f dv r' ⟨k,ek,q⟩=>by
 subst ek
 obtain rfl:=aS.mp dv
 refine ⟨k,rfl,?_⟩
 cases k with
 | true=>exact ⟨ρ,M',Q,r',q,fun _ _ p=>p.back f⟩
 | false=>exact ⟨.bl false,M',f,aS.mpr rfl,r'.mem,q⟩
theorem NG (ha:bZ X a ta) (hb:bZ X (.BoolOp .Or (b :: rest) pos) tb):bZ X (.BoolOp .Or (a :: b :: rest) pos) (NF ta tb):=up (MV ha.dn hb.dn) fun σ H ρ M Q r h=>cN r h fun v H' d M' f dv r' ⟨k,ek,q⟩=>by
 subst ek
 obtain rfl:=aS.mp dv
 refine ⟨k,rfl,?_⟩
 cases k with
 | true=>exact ⟨.bl true,M',f,aS.mpr rfl,r'.mem,q⟩
 | false=>exact ⟨ρ,M',Q,r',q,fun _ _ p=>p.back f⟩
def QO (t:D→Mp→DK→Prop) (ta:cK):cK:=fun ρ M Q=>ta ρ M fun x M1=>t x M1 Q
def QS:D→Mp→DK→Prop:=fun d M Q=> ∃ i,d= .int i∧Q (.int (-i)) M
theorem eZ (ha:bZ X a ta):bZ X (.UnaryOp .USub a pos) (QO QS ta):=up (Nd Kv ha.dn) fun σ H ρ M Q r h=>cN r h fun v H' d M' f dv r' ⟨i,ek,q⟩=>by
 subst ek
 obtain rfl:=aO.mp dv
 exact ⟨i,rfl,.int (-i),M',f,aO.mpr rfl,r'.mem,q⟩
def Sm (n:Nat) (i:Int):Prop:=i.natAbs < 2 ^ n
def MulOk (i j:Int):Prop:= ∃ m n,Sm m i∧Sm n j∧m+n≤100000
theorem rf {k n:Nat} (h:k < 2 ^ n):k.log2≤n:=by
 rcases Nat.eq_zero_or_pos k with z | z
 ·subst z;simp
 ·exact Nat.le_of_lt (by rw [Nat.log2_lt (by omega)];exact h)
theorem qI {n:Nat} {i:Int} (h:Sm n i):Builtin.Int.intBits i≤n+1:=by
 unfold Builtin.Int.intBits
 have:=rf h
 first
  | (split <;> omega)
  | omega
theorem MulOk.ok {i j:Int} (h:MulOk i j):IntMulOk i j:=by
 obtain ⟨m,n,h1,h2,h3⟩:=h
 have b1:=qI h1
 have b2:=qI h2
 exact IntMulOk.of_bits (by omega) (by omega)
def KS (g:Int→Int→Int):R3:=fun d e M Q=> ∃ i j,d= .int i∧e= .int j∧Q (.int (g i j)) M
def uM (C:Int→Int→Prop) (g:Int→Int→Int):R3:=fun d e M Q=> ∃ i j,d= .int i∧e= .int j∧C i j∧Q (.int (g i j)) M
def Bt (g:Int→Int→Bool):R3:=fun d e M Q=> ∃ i j,d= .int i∧e= .int j∧Q (.bl (g i j)) M
theorem NH {f:Value→Value→Sem Value} {g:Int→Int→Int} (h:xJ X f (Hs fun i j=> .int (g i j))):mQ X f (KS g):=MC h fun H M x y d e Q rm dx dy ⟨i,j,e1,e2,q⟩=>by
 subst e1;subst e2
 exact ⟨i,j,aO.mp dx,aO.mp dy,aD rm (aO.mpr rfl) q⟩
theorem x8 {f:Value→Value→Sem Value} {C:Int→Int→Prop} {g:Int→Int→Int} (h:xJ X f (rI C fun i j=> .int (g i j))):mQ X f (uM C g):=MC h fun H M x y d e Q rm dx dy ⟨i,j,e1,e2,hc,q⟩=>by
 subst e1;subst e2
 exact ⟨i,j,aO.mp dx,aO.mp dy,hc,aD rm (aO.mpr rfl) q⟩
theorem Em {f:Value→Value→Sem Value} {g:Int→Int→Bool} (h:xJ X f (Hs fun i j=> .bl (g i j))):mQ X f (Bt g):=MC h fun H M x y d e Q rm dx dy ⟨i,j,e1,e2,q⟩=>by
 subst e1;subst e2
 exact ⟨i,j,aO.mp dx,aO.mp dy,aD rm (aS.mpr rfl) q⟩
theorem fM:mQ X (binaryOp .Add) (KS fun i j=>i+j):=NH Kr
theorem bY:mQ X (binaryOp .Sub) (KS fun i j=>i - j):=NH Ks
theorem cO:mQ X (binaryOp .Mult) (uM MulOk fun i j=>i*j):=x8 (Nf fun _ _ _ _ _ _ _ hc q=>mul_int q hc.ok)
theorem dc:mQ X (binaryOp .Mod) (uM (fun _ j=>0 < j) fun i j=>i % j):=x8 Ku
def NI (_ j:Int):Prop:=0 < j∧∃ n,Sm n j∧n≤8000
theorem iz:mQ X (binaryOp .FloorDiv) (uM NI fun i j=>i / j):=x8 (Nf fun i j _ _ _ _ _ hc q=>floordiv_int (by have:=hc.1;omega) (by rw [Int.fdiv_eq_ediv_of_nonneg _ (by have:=hc.1;omega)];exact q) (.inl (PyProof.noPylong_of_log2 (by
 obtain ⟨_,n,h1,h2⟩:=hc
 have:=rf h1
 omega))))
def Eo (i j:Int):Prop:=0≤j∧j≤1000∧i.natAbs < 2 ^ 400
theorem Eo.bits {i j:Int} (h:Eo i j):(Builtin.Int.intBits i:Int)*j≤2 ^ 27:=by
 have hb:Builtin.Int.intBits i≤401:=qI (n:=400) h.2.2
 have h1:(Builtin.Int.intBits i:Int)*j≤401*j:=Int.mul_le_mul_of_nonneg_right (by omega) h.1
 have:=h.2.1
 omega
theorem pQ:mQ X (binaryOp .Pow) (uM Eo fun i j=>i ^ j.toNat):=x8 (Nf fun _ _ _ _ _ _ _ hc q=>pow_int hc.1 hc.bits q)
theorem QT:mQ X (compareOp .Lt) (Bt fun i j=>decide (i < j)):=Em Nj
theorem Ep:mQ X (compareOp .Gt) (Bt fun i j=>decide (j < i)):=Em Nk
theorem QU:mQ X (compareOp .GtE) (Bt fun i j=>decide (j≤i)):=Em Nl
inductive Pu where
 | aX | bl (b:Bool) | int (i:Int) | str (x:Str)
 deriving DecidableEq
def Pu.d:Pu→D | .aX=> .aX | .bl b=> .bl b | .int i=> .int i | .str x=> .str x
def Pu.v:Pu→V | .aX=> .aX | .bl b=> .bl b | .int i=> .int i | .str x=> .str x
end
end L3
namespace L3
open PySem PySem.Spec PyProof.Rows L2
mutual
def cZ:D→D→Bool
 | .aX,e=>match e with | .aX=>true | _=>false
 | .bl a,e=>match e with | .bl b=>a == b | .int b=>(if a then 1 else 0) == b | _=>false
 | .int a,e=>match e with | .bl b=>a == (if b then 1 else 0) | .int b=>a == b | _=>false
 | .str a,e=>match e with | .str b=>a == b | _=>false
 | .tup as,e=>match e with | .tup bs=>gj as bs | _=>false
 | .ty _,_=>false
 | .ref _,_=>false
 | .zU _,_=>false
 | .JC _,_=>false
 | .exc _ _ _,_=>false
def gj:List D→List D→Bool
 | [],e=>match e with | []=>true | _=>false
 | a :: as,e=>match e with | []=>false | b :: bs=>cZ a b && gj as bs
end
def plain:Nat→D→Bool
 | _,.aX=>true
 | _,.bl _=>true
 | _,.int _=>true
 | _,.str _=>true
 | n+1,.tup ds=>ds.all (plain n)
 | _,_=>false
theorem x9:gj [] []=true:=by simp [gj]
theorem iO (a b:D) (as bs:List D):gj (a :: as) (b :: bs)=(cZ a b && gj as bs):=by simp [gj]
theorem jd (as bs:List D):cZ (.tup as) (.tup bs)=gj as bs:=by simp [cZ]
theorem cA (a b:Int):cZ (.int a) (.int b)=(a == b):=by simp [cZ]
theorem KU (a b:Bool):cZ (.bl a) (.bl b)=(a == b):=by simp [cZ]
theorem gm:∀ (ds es:List D),gj ds es=((List.range (min ds.length es.length)).all (fun j=>cZ (ds.getD j .aX) (es.getD j .aX)) && (ds.length == es.length))
 | [],[]=>by simp [gj]
 | [],e :: es=>by simp [gj]
 | d :: ds,[]=>by simp [gj]
 | d :: ds,e :: es=>by
   rw [iO,gm ds es]
   have h:min (d :: ds).length (e :: es).length=min ds.length es.length+1:=by simp only [List.length_cons];omega
   rw [h,List.range_succ_eq_map,List.all_cons,List.all_map]
   simp only [List.getD_cons_zero,List.length_cons]
   have h2:((fun j=>cZ ((d :: ds).getD j D.aX) ((e :: es).getD j D.aX))∘Nat.succ)=fun j=>cZ (ds.getD j D.aX) (es.getD j D.aX):=by
    funext j;simp
   rw [h2]
   have h3:(ds.length+1 == es.length+1)=(ds.length == es.length):=by
    rw [Bool.eq_iff_iff];simp
   rw [h3,Bool.and_assoc]
theorem rj:∀ (n:Nat) (d:D),plain n d=true→cZ d d=true:=by
 intro n
 induction n with
 | zero=>intro d h;cases d <;> simp [plain] at h <;> simp [cZ]
 | succ n ih=>
   intro d h
   cases d with
   | tup ds=>
     have h:ds.all (plain n)=true:=by simpa [plain] using h
     rw [jd]
     have:∀ (es:List D),es.all (plain n)=true→gj es es=true:=by
      intro es
      induction es with
      | nil=>intro _;exact x9
      | cons e es Uc=>
        intro h
        rw [List.all_cons,Bool.and_eq_true] at h
        rw [iO,ih e h.1,Uc h.2];rfl
     exact this ds h
   | _=>first | (simp [plain] at h;done) | (simp [cZ];done)
section
variable {K:PySem.W.Frag} {H:Hp}
theorem Dat.inj:∀ (n:Nat) (d e:D) (v:V),plain n d=true→plain n e=true→Dat K H d v→Dat K H e v→d=e:=by
 intro n
 induction n with
 | zero=>
   intro d e v pd pe hd he
   cases d <;> simp [plain] at pd <;> cases e <;> simp [plain] at pe <;> simp only [Dat] at hd he <;> subst hd <;> first | rfl | (injection he with z;rw [z]) | cases he
 | succ n ih=>
   intro d e v pd pe hd he
   have lists:∀ (ds es:List D) (xs:List V),ds.all (plain n)=true→es.all (plain n)=true→aB K H ds xs→aB K H es xs→ds=es:=by
    intro ds
    induction ds with
    | nil=>
      intro es xs _ _ h1 h2
      rw [aH.mp h1] at h2
      cases es with
      | nil=>rfl
      | cons e es=>obtain ⟨_,_,z,_⟩:=aA.mp h2;cases z
    | cons d ds Ud=>
      intro es xs p1 p2 h1 h2
      obtain ⟨v,vs,rfl,g1,g2⟩:=aA.mp h1
      cases es with
      | nil=>cases aH.mp h2
      | cons e es=>
        obtain ⟨v',vs',z,g3,g4⟩:=aA.mp h2
        injection z with z1 z2
        subst z1;subst z2
        rw [List.all_cons,Bool.and_eq_true] at p1 p2
        rw [ih d e v p1.1 p2.1 g1 g3,Ud es vs p1.2 p2.2 g2 g4]
   cases d with
   | tup ds=>
     obtain ⟨a,xs,rfl,ha,hx⟩:=aR.mp hd
     cases e with
     | tup es=>
       obtain ⟨b,ys,z,hb,hy⟩:=aR.mp he
       injection z with z
       subst z
       rw [ha] at hb
       injection hb with hb
       injection hb with hb
       subst hb
       rw [lists ds es xs (by simpa [plain] using pd) (by simpa [plain] using pe) hx hy]
     | _=>first | (simp [plain] at pe;done) | (simp only [Dat] at he;cases he)
   | _=>first
     | (simp [plain] at pd;done)
     | (cases e <;> first
      | (simp [plain] at pe;done)
      | (obtain ⟨b,ys,z,hb,hy⟩:=aR.mp he;simp only [Dat] at hd;subst hd;cases z;done)
      | (simp only [Dat] at hd he;subst hd;first | rfl | (injection he with z;rw [z]) | cases he))
end
theorem qJ {α:Type} {p:α→Bool} {xs:List α} (h:xs.all p=true) {i:Nat} {x:α} (e:xs[i]?=some x):p x=true:=(List.all_eq_true.mp h) x (List.mem_of_getElem? e)
section
variable {X:Cx} {pins:List (Addr ×Obj)} {σ:St} {H:Hp} {s:Shared}
theorem c6 {P:Program} {w:World} {h:Heap} {a:Addr} {xs:List V} (ok:i7 P w H h) (e:H a=some (.tup xs)):∃ its:List Value,Vals xs its∧IsTup h a its.toArray∧xs.length≤sizeLine:=by
 obtain ⟨z,its,r,p⟩:=(show cL P w H h a (.tup xs) from ok a _ e)
 exact ⟨its,r,p,z⟩
theorem Er {P:Program} {w:World} (ok:i7 P w H s.heap) {K:PySem.W.Frag}:∀ (n:Nat) (A:Around) (d e:D) (x y:V) (u v:Value),A.units+n < cLine→plain n d=true→plain n e=true→Dat K H d x→Dat K H e y→RelV x u→RelV y v→SeqAt.EqAt A s u v (cZ d e):=by
 intro n
 induction n with
 | zero=>
   intro A d e x y u v hu pd pe dx dy rx ry
   cases d with
   | tup ds=>simp [plain] at pd
   | ty _=>simp [plain] at pd
   | ref _=>simp [plain] at pd
   | zU _=>simp [plain] at pd
   | JC _=>simp [plain] at pd
   | exc _ _ _=>simp [plain] at pd
   | aX=>
     obtain rfl:=b8.mp dx
     cases rx
     cases e with
     | aX=>obtain rfl:=b8.mp dy;cases ry;simpa [cZ] using SeqAt.EqAt.same (A:=A) (s:=s) Value.none
     | bl b=>obtain rfl:=aS.mp dy;cases ry;simpa [cZ] using SeqAt.EqAt.none_bool (A:=A) (s:=s) b
     | int b=>obtain rfl:=aO.mp dy;obtain ⟨t,rfl⟩:=ry;simpa [cZ] using SeqAt.EqAt.none_int (A:=A) (s:=s) b t
     | str b=>obtain rfl:=fS.mp dy;obtain ⟨t,rfl⟩:=ry;simpa [cZ] using SeqAt.EqAt.none_str (A:=A) (s:=s) b t
     | _=>simp [plain] at pe
   | bl a=>
     obtain rfl:=aS.mp dx
     cases rx
     cases e with
     | aX=>obtain rfl:=b8.mp dy;cases ry;simpa [cZ] using SeqAt.EqAt.bool_none (A:=A) (s:=s) a
     | bl b=>obtain rfl:=aS.mp dy;cases ry;simpa [cZ] using SeqAt.EqAt.bool_bool (A:=A) (s:=s) a b
     | int b=>obtain rfl:=aO.mp dy;obtain ⟨t,rfl⟩:=ry;simpa [cZ] using SeqAt.EqAt.bool_int (A:=A) (s:=s) a b t
     | str b=>obtain rfl:=fS.mp dy;obtain ⟨t,rfl⟩:=ry;simpa [cZ] using SeqAt.EqAt.bool_str (A:=A) (s:=s) a b t
     | _=>simp [plain] at pe
   | int a=>
     obtain rfl:=aO.mp dx
     obtain ⟨t',rfl⟩:=rx
     cases e with
     | aX=>obtain rfl:=b8.mp dy;cases ry;simpa [cZ] using SeqAt.EqAt.int_none (A:=A) (s:=s) a t'
     | bl b=>obtain rfl:=aS.mp dy;cases ry;simpa [cZ] using SeqAt.EqAt.int_bool (A:=A) (s:=s) a t' b
     | int b=>obtain rfl:=aO.mp dy;obtain ⟨t,rfl⟩:=ry;simpa [cZ] using SeqAt.EqAt.int_int (A:=A) (s:=s) a t' b t
     | str b=>obtain rfl:=fS.mp dy;obtain ⟨t,rfl⟩:=ry;simpa [cZ] using SeqAt.EqAt.int_str (A:=A) (s:=s) a t' b t
     | _=>simp [plain] at pe
   | str a=>
     obtain rfl:=fS.mp dx
     obtain ⟨t',rfl⟩:=rx
     cases e with
     | aX=>obtain rfl:=b8.mp dy;cases ry;simpa [cZ] using SeqAt.EqAt.str_none (A:=A) (s:=s) a t'
     | bl b=>obtain rfl:=aS.mp dy;cases ry;simpa [cZ] using SeqAt.EqAt.str_bool (A:=A) (s:=s) a t' b
     | int b=>obtain rfl:=aO.mp dy;obtain ⟨t,rfl⟩:=ry;simpa [cZ] using SeqAt.EqAt.str_int (A:=A) (s:=s) a t' b t
     | str b=>obtain rfl:=fS.mp dy;obtain ⟨t,rfl⟩:=ry;simpa [cZ] using SeqAt.EqAt.str_str (A:=A) (s:=s) a t' b t
     | _=>simp [plain] at pe
 | succ n ih=>
   intro A d e x y u v hu pd pe dx dy rx ry
   have flat:∀ (z:D),plain (n+1) z=true→(∀ zs,z≠ .tup zs)→plain n z=true:=by
    intro z pz nz
    cases z with
    | tup zs=>exact absurd rfl (nz zs)
    | _=>first | (simp [plain];done) | (simp [plain] at pz;done)
   have hun:A.units < cLine:=by omega
   cases d with
   | tup ds=>
     obtain ⟨a,xs,rfl,ha,hx⟩:=aR.mp dx
     obtain rfl:u=Value.ref a:=rx
     obtain ⟨its,rv,pt,hz⟩:=c6 ok ha
     cases e with
     | tup es=>
       obtain ⟨b,ys,rfl,hb,hy⟩:=aR.mp dy
       obtain rfl:v=Value.ref b:=ry
       obtain ⟨its2,ue,DV,hz2⟩:=c6 ok hb
       by_cases hab:a=b
       ·subst hab
        have:=Dat.inj (K:=K) (H:=H) (n+1) _ _ _ pd pe dx dy
        rw [← this,rj (n+1) _ pd]
        exact SeqAt.EqAt.same _
       ·refine SeqAt.EqAt.of_refs hab ?_
        have hl1:=hx.length.trans rv.length
        have hl2:=hy.length.trans ue.length
        have key:=SeqAt.RcAt.tuples (A:=A) (s:=s) (e:=fun j=>cZ (ds.getD j .aX) (es.getD j .aX)) pt DV hun (fun j h1 h2=>?_)
        ·rw [jd,gm]
         simp only [List.size_toArray,← hl1,← hl2] at key
         exact key
        ·simp only [List.size_toArray] at h1 h2
         have e1:ds[j]?=some (ds.getD j .aX):=by rw [List.getD_eq_getElem?_getD,List.getElem?_eq_getElem (by omega)];rfl
         have e2:es[j]?=some (es.getD j .aX):=by rw [List.getD_eq_getElem?_getD,List.getElem?_eq_getElem (by omega)];rfl
         obtain ⟨x1,g1,g2⟩:=hx.get e1
         obtain ⟨y1,g3,g4⟩:=hy.get e2
         obtain ⟨u1,g5,g6⟩:=rv.get g1
         obtain ⟨v1,g7,g8⟩:=ue.get g3
         have q1:its.toArray[j]=u1:=by
          have:its[j]=u1:=Option.some.inj ((List.getElem?_eq_getElem (by omega)).symm.trans g5)
          simpa using this
         have q2:its2.toArray[j]=v1:=by
          have:its2[j]=v1:=Option.some.inj ((List.getElem?_eq_getElem (by omega)).symm.trans g7)
          simpa using this
         rw [q1,q2]
         have Ue:ds.all (plain n)=true:=by simpa [plain] using pd
         have Ug:es.all (plain n)=true:=by simpa [plain] using pe
         exact ih A.in1 _ _ x1 y1 u1 v1 (by show A.units+1+n < cLine;omega) (qJ Ue e1) (qJ Ug e2) g2 g4 g6 g8
     | aX=>obtain rfl:=b8.mp dy;cases ry;simpa [cZ] using SeqAt.EqAt.tuple_none (A:=A) (s:=s) pt hun
     | bl b=>obtain rfl:=aS.mp dy;cases ry;simpa [cZ] using SeqAt.EqAt.tuple_bool (A:=A) (s:=s) b pt hun
     | int b=>obtain rfl:=aO.mp dy;obtain ⟨t,rfl⟩:=ry;simpa [cZ] using SeqAt.EqAt.tuple_int (A:=A) (s:=s) b t pt hun
     | str b=>obtain rfl:=fS.mp dy;obtain ⟨t,rfl⟩:=ry;simpa [cZ] using SeqAt.EqAt.tuple_str (A:=A) (s:=s) b t pt hun
     | _=>simp [plain] at pe
   | _=>
     first
     | (simp [plain] at pd;done)
     | (cases e with
      | tup es=>
        obtain ⟨b,ys,rfl,hb,hy⟩:=aR.mp dy
        obtain rfl:v=Value.ref b:=ry
        obtain ⟨its2,ue,DV,hz2⟩:=c6 ok hb
        first
        | (obtain rfl:=b8.mp dx;cases rx;simpa [cZ] using SeqAt.EqAt.none_tuple (A:=A) (s:=s) DV hun)
        | (obtain rfl:=aS.mp dx;cases rx;simpa [cZ] using SeqAt.EqAt.bool_tuple (A:=A) (s:=s) _ DV hun)
        | (obtain rfl:=aO.mp dx;obtain ⟨t,rfl⟩:=rx;simpa [cZ] using SeqAt.EqAt.int_tuple (A:=A) (s:=s) _ t DV hun)
        | (obtain rfl:=fS.mp dx;obtain ⟨t,rfl⟩:=rx;simpa [cZ] using SeqAt.EqAt.str_tuple (A:=A) (s:=s) _ t DV hun)
      | _=>
        first
        | (simp [plain] at pe;done)
        | exact ih A _ _ x y u v (by omega) (flat _ pd (fun _ z=>by cases z)) (flat _ pe (fun _ z=>by cases z)) dx dy rx ry)
def Es:D→D→Bool
 | .aX,.aX=>true | .aX,.int _=>true | .int _,.aX=>true | .aX,.bl _=>true | .bl _,.aX=>true | .aX,.str _=>true | .str _,.aX=>true
 | .int _,.int _=>true | .bl _,.bl _=>true | .str _,.str _=>true
 | _,_=>false
def Et (d e:D):Bool:=match d,e with
 | .tup ds,.tup es=>plain 10 (.tup ds) && plain 10 (.tup es)
 | d,e=>Es d e
def QV:R3:=fun d e M Q=>Et d e=true∧Q (.bl (cZ d e)) M
def QW:R3:=fun d e M Q=>Et d e=true∧Q (.bl (!cZ d e)) M
theorem Eu {K:PySem.W.Frag} {d e:D} {x y:V} (h:Es d e=true) (dx:Dat K H d x) (dy:Dat K H e y):Kw x y=true∧decide (x=y)=cZ d e:=by
 cases d <;> cases e <;> first
  | (simp [Es] at h;done)
  | (simp only [Dat] at dx dy;subst dx;subst dy;refine ⟨rfl,?_⟩;rw [Bool.eq_iff_iff];simp [cZ])
theorem mX {P:Program} {w:World} (ok:i7 P w H s.heap) {K:PySem.W.Frag} {A:Around} {ds es:List D} {xs ys:List V} {its its2:List Value} {n:Nat} (hu:A.units+n < cLine) (pd:ds.all (plain n)=true) (pe:es.all (plain n)=true) (hx:aB K H ds xs) (hy:aB K H es ys) (rv:Vals xs its) (ue:Vals ys its2) :
 ∀ j (h1:j < its.toArray.size) (h2:j < its2.toArray.size),SeqAt.EqAt A s its.toArray[j] its2.toArray[j] (cZ (ds.getD j .aX) (es.getD j .aX)):=by
 intro j h1 h2
 have hl1:=hx.length.trans rv.length
 have hl2:=hy.length.trans ue.length
 simp only [List.size_toArray] at h1 h2
 have e1:ds[j]?=some (ds.getD j .aX):=by rw [List.getD_eq_getElem?_getD,List.getElem?_eq_getElem (by omega)];rfl
 have e2:es[j]?=some (es.getD j .aX):=by rw [List.getD_eq_getElem?_getD,List.getElem?_eq_getElem (by omega)];rfl
 obtain ⟨x1,g1,g2⟩:=hx.get e1
 obtain ⟨y1,g3,g4⟩:=hy.get e2
 obtain ⟨u1,g5,g6⟩:=rv.get g1
 obtain ⟨v1,g7,g8⟩:=ue.get g3
 have q1:its.toArray[j]=u1:=by
  have:its[j]=u1:=Option.some.inj ((List.getElem?_eq_getElem (by omega)).symm.trans g5)
  simpa using this
 have q2:its2.toArray[j]=v1:=by
  have:its2[j]=v1:=Option.some.inj ((List.getElem?_eq_getElem (by omega)).symm.trans g7)
  simpa using this
 rw [q1,q2]
 exact Er ok n A _ _ x1 y1 u1 v1 hu (qJ pd e1) (qJ pe e2) g2 g4 g6 g8
theorem oF (hu:X.A.units+64 < cLine):mQ X (compareOp .Eq) QV:=by
 constructor
 intro pins s σ H M x y d e v u Q I rm rx ry dx dy ⟨hk,q⟩
 by_cases ht:∃ ds es,d= .tup ds∧e= .tup es
 ·obtain ⟨ds,es,rfl,rfl⟩:=ht
  have hk:(plain 10 (.tup ds) && plain 10 (.tup es))=true:=hk
  rw [Bool.and_eq_true] at hk
  obtain ⟨a,xs,rfl,ha,hx⟩:=aR.mp dx
  obtain ⟨b,ys,rfl,hb,hy⟩:=aR.mp dy
  obtain rfl:v=Value.ref a:=rx
  obtain rfl:u=Value.ref b:=ry
  obtain ⟨its,rv,pt,hz⟩:=c6 I.hok ha
  obtain ⟨its2,ue,DV,hz2⟩:=c6 I.hok hb
  have hl1:=hx.length.trans rv.length
  have hl2:=hy.length.trans ue.length
  refine SeqAt.RcAt.tuples (A:=X.A) (s:=s) (e:=fun j=>cZ (ds.getD j .aX) (es.getD j .aX)) pt DV (by omega) (mX I.hok (n:=9) (by show X.A.units+1+9 < cLine;omega) (by simpa [plain] using hk.1) (by simpa [plain] using hk.2) hx hy rv ue) _ _ _ _ ?_
  refine ⟨.bl _,H,I,rfl,aD rm (aS.mpr rfl) ?_⟩
  simp only [List.size_toArray,← hl1,← hl2]
  rw [jd,gm] at q
  exact q
 ·have hs:Es d e=true:=by
   unfold Et at hk
   split at hk
   ·exact absurd ⟨_,_,rfl,rfl⟩ ht
   ·exact hk
  obtain ⟨h1,h2⟩:=Eu hs dx dy
  exact Nh pins s σ H x y v u _ I rx ry ⟨h1,by rw [h2];exact aD rm (aS.mpr rfl) q⟩
theorem qh (hu:X.A.units+64 < cLine):mQ X (compareOp .NotEq) QW:=by
 constructor
 intro pins s σ H M x y d e v u Q I rm rx ry dx dy ⟨hk,q⟩
 by_cases ht:∃ ds es,d= .tup ds∧e= .tup es
 ·obtain ⟨ds,es,rfl,rfl⟩:=ht
  have hk:(plain 10 (.tup ds) && plain 10 (.tup es))=true:=hk
  rw [Bool.and_eq_true] at hk
  obtain ⟨a,xs,rfl,ha,hx⟩:=aR.mp dx
  obtain ⟨b,ys,rfl,hb,hy⟩:=aR.mp dy
  obtain rfl:v=Value.ref a:=rx
  obtain rfl:u=Value.ref b:=ry
  obtain ⟨its,rv,pt,hz⟩:=c6 I.hok ha
  obtain ⟨its2,ue,DV,hz2⟩:=c6 I.hok hb
  have hl1:=hx.length.trans rv.length
  have hl2:=hy.length.trans ue.length
  refine SeqAt.RcNeAt.tuples (A:=X.A) (s:=s) (e:=fun j=>cZ (ds.getD j .aX) (es.getD j .aX)) pt DV (by omega) (mX I.hok (n:=9) (by show X.A.units+1+9 < cLine;omega) (by simpa [plain] using hk.1) (by simpa [plain] using hk.2) hx hy rv ue) _ _ _ _ ?_
  refine ⟨.bl _,H,I,rfl,aD rm (aS.mpr rfl) ?_⟩
  simp only [List.size_toArray,← hl1,← hl2]
  rw [jd,gm] at q
  exact q
 ·have hs:Es d e=true:=by
   unfold Et at hk
   split at hk
   ·exact absurd ⟨_,_,rfl,rfl⟩ ht
   ·exact hk
  obtain ⟨h1,h2⟩:=Eu hs dx dy
  exact Ni pins s σ H x y v u _ I rx ry ⟨h1,by rw [h2];exact aD rm (aS.mpr rfl) q⟩
noncomputable def Pw (K:PySem.W.Frag) (H:Hp) (v:V):D:=open Classical in if h:∃ d,plain 9 d=true∧Dat K H d v then h.choose else .aX
theorem KW {K:PySem.W.Frag} {d:D} {v:V} (p:plain 9 d=true) (h:Dat K H d v):Pw K H v=d:=by
 have hx:∃ d,plain 9 d=true∧Dat K H d v:=⟨d,p,h⟩
 unfold Pw
 rw [dif_pos hx]
 exact Dat.inj 9 _ _ v hx.choose_spec.1 p hx.choose_spec.2 h
noncomputable def zF (K:PySem.W.Frag) (H:Hp) (d:D) (u:Value):Bool:=match MW u with
 | some v=>cZ (Pw K H v) d
 | none=>false
theorem Ew {K:PySem.W.Frag} {d e:D} {v:V} {u:Value} (p:plain 9 e=true) (h:Dat K H e v) (r:RelV v u):zF K H d u=cZ e d:=by
 unfold zF
 rw [r.abs]
 show cZ (Pw K H v) d=_
 rw [KW p h]
theorem mY {K:PySem.W.Frag} {d:D}:∀ {es:List D} {xs:List V} {us:List Value},aB K H es xs→Vals xs us→es.all (plain 9)=true→us.any (zF K H d)=es.any fun e=>cZ e d
 | [],xs,us,h,r,_=>by rw [aH.mp h] at r;cases r;rfl
 | e :: es,xs,us,h,r,p=>by
   obtain ⟨v,vs,rfl,h1,h2⟩:=aA.mp h
   cases r with
   | cons r rr=>
     rw [List.all_cons,Bool.and_eq_true] at p
     rw [List.any_cons,List.any_cons,Ew p.1 h1 r,mY h2 rr p.2]
theorem mZ {P:Program} {w:World} (ok:i7 P w H s.heap) {K:PySem.W.Frag} {A:Around} {d:D} {x:V} {v:Value} (hu:A.units+9 < cLine) (pd:plain 9 d=true) (dx:Dat K H d x) (rx:RelV x v) :
 ∀ {es:List D} {xs:List V} {us:List Value},aB K H es xs→Vals xs us→es.all (plain 9)=true→∀ u∈us,SeqAt.EqAt A s u v (zF K H d u)
 | [],xs,us,h,r,_,u,hm=>by rw [aH.mp h] at r;cases r;cases hm
 | e :: es,xs,us,h,r,p,u,hm=>by
   obtain ⟨y,ys,rfl,h1,h2⟩:=aA.mp h
   cases r with
   | cons r rr=>
     rw [List.all_cons,Bool.and_eq_true] at p
     rcases List.mem_cons.mp hm with rfl | hm
     ·rw [Ew p.1 h1 r]
      exact Er ok 9 A _ _ _ _ _ _ hu p.1 pd h1 dx r rx
     ·exact mZ ok hu pd dx rx h2 rr p.2 u hm
def inD (d:D) (es:List D):Bool:=es.any fun e=>cZ e d
def NJ (M:Mp) (e:D) (es:List D):Prop:=e= .tup es∨∃ a,e= .ref a∧M a=some (.lst es)
def NK (neg:Bool):R3:=fun d e M Q=> ∃ es,NJ M e es∧plain 9 d=true∧es.all (plain 9)=true∧Q (.bl (if neg then !inD d es else inD d es)) M
theorem Ex (hu:X.A.units+64 < cLine):mQ X (compareOp .In) (NK false):=by
 constructor
 intro pins s σ H M x y d e v u Q I rm rx ry dx dy ⟨es,hs,pd,pe,q⟩
 rcases hs with rfl | ⟨a,rfl,hM⟩
 ·obtain ⟨b,ys,rfl,hb,hy⟩:=aR.mp dy
  obtain rfl:u=Value.ref b:=ry
  obtain ⟨its,rv,pt,hz⟩:=c6 I.hok hb
  refine SeqAt.in_tupleAt (zF X.K H d) pt (fun w hw=>mZ I.hok (by show X.A.units+1+9 < cLine;omega) pd dx rx hy rv pe w (by simpa using hw)) ⟨.bl _,H,I,rfl,aD rm (aS.mpr rfl) ?_⟩
  rw [show its.toArray.any (zF X.K H d)=its.any (zF X.K H d) by simp,mY hy rv pe]
  exact q
 ·obtain rfl:=aK.mp dy
  obtain rfl:u=Value.ref a:=ry
  obtain ⟨ys,hb,hy⟩:=rm.lst hM
  obtain ⟨its,rv,pl,hz⟩:=I.list (jb.of hb)
  refine SeqAt.in_listAt (zF X.K H d) pl.isList (fun w hw=>mZ I.hok (by show X.A.units+1+9 < cLine;omega) pd dx rx hy rv pe w (by simpa using hw)) ⟨.bl _,H,I,rfl,aD rm (aS.mpr rfl) ?_⟩
  rw [show its.toArray.any (zF X.K H d)=its.any (zF X.K H d) by simp,mY hy rv pe]
  exact q
theorem qK (hu:X.A.units+64 < cLine):mQ X (compareOp .NotIn) (NK true):=by
 constructor
 intro pins s σ H M x y d e v u Q I rm rx ry dx dy ⟨es,hs,pd,pe,q⟩
 rcases hs with rfl | ⟨a,rfl,hM⟩
 ·obtain ⟨b,ys,rfl,hb,hy⟩:=aR.mp dy
  obtain rfl:u=Value.ref b:=ry
  obtain ⟨its,rv,pt,hz⟩:=c6 I.hok hb
  refine SeqAt.notIn_tupleAt (zF X.K H d) pt (fun w hw=>mZ I.hok (by show X.A.units+1+9 < cLine;omega) pd dx rx hy rv pe w (by simpa using hw)) ⟨.bl _,H,I,rfl,aD rm (aS.mpr rfl) ?_⟩
  rw [show its.toArray.any (zF X.K H d)=its.any (zF X.K H d) by simp,mY hy rv pe]
  exact q
 ·obtain rfl:=aK.mp dy
  obtain rfl:u=Value.ref a:=ry
  obtain ⟨ys,hb,hy⟩:=rm.lst hM
  obtain ⟨its,rv,pl,hz⟩:=I.list (jb.of hb)
  refine SeqAt.notIn_listAt (zF X.K H d) pl.isList (fun w hw=>mZ I.hok (by show X.A.units+1+9 < cLine;omega) pd dx rx hy rv pe w (by simpa using hw)) ⟨.bl _,H,I,rfl,aD rm (aS.mpr rfl) ?_⟩
  rw [show its.toArray.any (zF X.K H d)=its.any (zF X.K H d) by simp,mY hy rv pe]
  exact q
theorem oG {K:PySem.W.Frag}:∀ {ns:List Int} {xs:List V},aB K H (ns.map D.int) xs→xs=ns.map V.int
 | [],xs,h=>aH.mp h
 | n :: ns,xs,h=>by
   obtain ⟨v,vs,rfl,h1,h2⟩:=aA.mp h
   rw [aO.mp h1,oG h2];rfl
def Nq:R3:=fun d e M Q=> ∃ ns ms:List Int,d= .tup (ns.map D.int)∧e= .tup (ms.map D.int)∧Q (.bl (HT.lexLt ns ms)) M
theorem NL (hu:X.A.units+64 < cLine):mQ X (compareOp .Lt) Nq:=by
 constructor
 intro pins s σ H M x y d e v u Q I rm rx ry dx dy ⟨ns,ms,e1,e2,q⟩
 subst e1;subst e2
 obtain ⟨a,xs,rfl,ha,hx⟩:=aR.mp dx
 obtain ⟨b,ys,rfl,hb,hy⟩:=aR.mp dy
 obtain rfl:v=Value.ref a:=rx
 obtain rfl:u=Value.ref b:=ry
 obtain ⟨its,rv,pt,hz⟩:=c6 I.hok ha
 obtain ⟨its2,ue,DV,hz2⟩:=c6 I.hok hb
 rw [oG hx] at rv
 rw [oG hy] at ue
 exact HT.lV pt DV (by simpa using intsAre_of rv) (by simpa using intsAre_of ue) (by omega) ⟨.bl _,H,I,rfl,aD rm (aS.mpr rfl) q⟩
def HG:R3:=fun d e M Q=> ∃ i b,d= .int i∧e= .bl b∧Q (.bl true) M
theorem ya:mQ X (compareOp .IsNot) HG:=by
 constructor
 intro pins s σ H M x y d e v u Q I rm rx ry dx dy ⟨i,b,e1,e2,q⟩
 subst e1;subst e2
 obtain rfl:=aO.mp dx
 obtain rfl:=aS.mp dy
 obtain ⟨t,rfl⟩:=rx
 cases ry
 exact wpAny_isNot_other rfl (fun z=>by cases z) ⟨.bl true,H,I,rfl,aD rm (aS.mpr rfl) q⟩
end
end L3
namespace L3
open PySem PySem.Spec PyProof.Rows L2
section
variable {X:Cx} {a b c e:Expr} {es:List Expr} {ta tb tc te:cK} {t:xK} {pos p:Pos}
def NN:xK:=fun _ M Q=>Q [] M
def KY (ta:cK) (tr:xK):xK:=fun ρ M Q=>ta ρ M fun x M1=>tr ρ M1 fun xs M2=>Q (x :: xs) M2
theorem aj:CD X [] NN:=⟨fun pos pins s σ H ρ M Q I r h=>oA pos pins s σ H _ I ⟨[],M,.refl _ _,aH.mpr rfl,r.mem,h⟩⟩
theorem af (ha:bZ X e te) (hr:CD X es t) (hs:starEach (e :: es) X.env=(false,eval e X.env) :: starEach es X.env:=by rfl):CD X (e :: es) (KY te t):=⟨fun pos pins s σ H ρ M Q I r h=>
 kT ha.dn hr.dn hs pos pins s σ H _ I (cN r h fun v H' d M' f dv r' q=>oE r' q fun vs H2 ds M2 f2 DT r2 q2=>
  ⟨d :: ds,M2,f.trans f2,aA.mpr ⟨v,vs,rfl,Dat.mono (f2.ext r'.mem) _ _ dv,DT⟩,r2.mem,q2⟩)⟩
def NO (t:xK):cK:=fun ρ M Q=>t ρ M fun xs M1=>xs.length≤sizeLine∧Q (.tup xs) M1
def NP (t:xK):cK:=fun ρ M Q=>t ρ M fun xs M1=>xs.length≤sizeLine∧∀ p,M1 p=none→Q (.ref p) (ay M1 p (.lst xs))
theorem bD {x1} (h:CD X es t):bZ X (.Tuple es x1 pos) (NO t):=up (KA h.dn) fun σ H ρ M Q r q=>oE r q fun vs H' ds M' f dv r' ⟨hl,q⟩=>
 ⟨by rw [← dv.length];exact hl,fun p hp=>⟨.tup ds,M',f.trans (Fr.new hp fun _ _=>rfl),aR.mpr ⟨p,vs,rfl,cF,aB.mono (Ext.new hp) _ _ dv⟩,r'.mem.new hp,q⟩⟩
theorem dU (h:CD X es t):bZ X (.List es pos) (NP t):=up (KC h.dn) fun σ H ρ M Q r q=>oE r q fun vs H' ds M' f dv r' ⟨hl,q⟩=>
 ⟨by rw [← dv.length];exact hl,fun p hp=>⟨.ref p,ay M' p (.lst ds),f.trans (Fr.new hp fun _ hb=>aP hb),aK.mpr rfl,r'.mem.newL hp dv,q p (r'.mem.free hp)⟩⟩
def NQ (M:Mp) (e:D) (es:List D):Prop:=e= .tup es∨e= .zU es∨∃ a,e= .ref a∧M a=some (.lst es)
def QX:R3:=fun d e M Q=> ∃ xs i z,NQ M d xs∧e= .int i∧t8 xs i=some z∧Q z M
theorem KZ {α β:Type} {xs:List α} {ys:List β} (h:xs.length=ys.length) {i:Int} {z:α} (e:t8 xs i=some z):∃ j,DU ys.length i=some j∧xs[j]?=some z:=by
 unfold t8 at e
 rw [h] at e
 cases q:DU ys.length i with
 | none=>rw [q] at e;cases e
 | some j=>rw [q] at e;exact ⟨j,rfl,e⟩
theorem rq {K:PySem.W.Frag} {H:Hp} {ds:List D} {xs:List V} (h:aB K H ds xs) {i:Int} {z:D} (e:t8 ds i=some z):∃ v,t8 xs i=some v∧Dat K H z v:=by
 obtain ⟨j,h1,h2⟩:=KZ h.length e
 obtain ⟨v,h3,h4⟩:=h.get h2
 refine ⟨v,?_,h4⟩
 unfold t8
 rw [h1]
 exact h3
theorem az (ha:bZ X a ta) (hb:bZ X b tb) (hs:vF b:=by intro _ _;rfl):bZ X (.Subscript a b pos) (Ek QX ta tb):=up (JA (HB.or KL) ha.dn hb.dn hs) fun σ H ρ M Q r q=>
 cN r q fun v H' d M' f dv r' q=>cN r' q fun u H2 e M2 f2 du r2 ⟨xs,i,z,hq,ei,at',q⟩=>by
  subst ei
  obtain rfl:=aO.mp du
  have NR:=Dat.mono (f2.ext r'.mem) _ _ dv
  have fin:∀ w,Dat X.K H2 z w→Post X.K M H Q w H2:=fun w dw=>⟨z,M2,f.trans f2,dw,r2.mem,q⟩
  rcases hq with rfl | rfl | ⟨l,rfl,hl⟩
  ·obtain ⟨p,ys,rfl,hp,hy⟩:=aR.mp NR
   obtain ⟨w,h1,h2⟩:=rq hy at'
   exact .inr ⟨p,ys,i,w,rfl,rfl,qV.of hp,h1,fin w h2⟩
  ·obtain ⟨p,ys,rfl,hp,hy⟩:=mT.mp NR
   obtain ⟨w,h1,h2⟩:=rq hy at'
   exact .inl ⟨p,ys,i,w,rfl,rfl,hp.sq,h1,fin w h2⟩
  ·obtain rfl:=aK.mp NR
   obtain ⟨ys,hp,hy⟩:=r2.mem.lst hl
   obtain ⟨w,h1,h2⟩:=rq hy at'
   exact .inl ⟨l,ys,i,w,rfl,rfl,jb.of hp,h1,fin w h2⟩
structure Call3 (X:Cx) (f:Value) (t:List D→Mp→DK→Prop):Prop where
 run:∀ (pins:List (Addr ×Obj)) (s:Shared) (σ:St) (H:Hp) (M:Mp) (xs:List V) (ds:List D) (us:List Value) (Q:DK),Inv X pins σ H s→br X.K H M→Vals xs us→aB X.K H ds xs→t ds M Q→
  wpAny (model X.prog X.w) X.A (call f us) (EP X pins σ (Post X.K M H Q)) X.xe s
theorem Ey {f:Value} {r:List V→Hp→VK→Prop} {t:List D→Mp→DK→Prop} (h:Be X f r) (g:∀ H M xs ds Q,br X.K H M→aB X.K H ds xs→t ds M Q→r xs H (Post X.K M H Q)):Call3 X f t:=
 ⟨fun pins s σ H M xs ds us Q I rm rs dx q=>h pins s σ H xs us _ I rs (g H M xs ds Q rm dx q)⟩
def NS (r:List D→Mp→DK→Prop) (t:xK):cK:=fun ρ M Q=>t ρ M fun ds M1=>r ds M1 Q
variable {x:Str} {id T:String} {r:List D→Mp→DK→Prop}
theorem bN (hc:Call3 X (.builtin id) r) (hg:Gl X x) (hm:X.mg x=none) (hv:bootBuiltins x=some (.builtin id)) (ha:CD X (e :: es) t) (hn:x≠"__name__" :=by decide) (hdb:(x == ("__debug__" :Str))=false:=by decide)
 (he:starEach (e :: es) X.env=(false,eval e X.env) :: starEach es X.env:=by rfl) (hpl:(backTo pos (starEach es X.env)).any (·.1)=false:=by rfl):bZ X (.Call (.Name x p) (e :: es) [] pos) (NS r t):=by
 constructor
 intro pins s σ H ρ M Q I r h
 refine wpAny_Call_Name_kw (ig I hg hm hv ?_ hn hdb)
 refine PyProof.Rows.callWith_builtin1 (cI (ha.run pos pins s σ H ρ M _ I r h) fun us s1 ⟨vs,H1,I1,r1,ds,M1,f1,d1,mR,q1⟩=>?_) he hpl
 exact cI (hc.run pins s1 σ H1 M1 vs ds us Q I1 mR r1 d1 q1) fun _ _ ⟨z,H3,I3,r3,p⟩=>⟨z,H3,I3,r3,p.back f1⟩
theorem Ez (hc:Call3 X (.type T) r) (hg:Gl X x) (hm:X.mg x=none) (hv:bootBuiltins x=some (.type T)) (ha:CD X (e :: es) t) (hn:x≠"__name__" :=by decide) (hdb:(x == ("__debug__" :Str))=false:=by decide)
 (he:starEach (e :: es) X.env=(false,eval e X.env) :: starEach es X.env:=by rfl) (hpl:(backTo pos (starEach es X.env)).any (·.1)=false:=by rfl):bZ X (.Call (.Name x p) (e :: es) [] pos) (NS r t):=by
 constructor
 intro pins s σ H ρ M Q I r h
 refine wpAny_Call_Name_kw (ig I hg hm hv ?_ hn hdb)
 refine PyProof.Rows.callWith_type1 (cI (ha.run pos pins s σ H ρ M _ I r h) fun us s1 ⟨vs,H1,I1,r1,ds,M1,f1,d1,mR,q1⟩=>?_) he hpl
 exact cI (hc.run pins s1 σ H1 M1 vs ds us Q I1 mR r1 d1 q1) fun _ _ ⟨z,H3,I3,r3,p⟩=>⟨z,H3,I3,r3,p.back f1⟩
theorem pR {K:PySem.W.Frag} {H:Hp} {d:D} {xs:List V} (h:aB K H [d] xs):∃ v,xs= [v]∧Dat K H d v:=by
 obtain ⟨v,vs,rfl,h1,h2⟩:=aA.mp h
 rw [aH.mp h2]
 exact ⟨v,rfl,h1⟩
theorem EA {K:PySem.W.Frag} {H:Hp} {d e:D} {xs:List V} (h:aB K H [d,e] xs):∃ v u,xs= [v,u]∧Dat K H d v∧Dat K H e u:=by
 obtain ⟨v,vs,rfl,h1,h2⟩:=aA.mp h
 obtain ⟨u,rfl,h3⟩:=pR h2
 exact ⟨v,u,rfl,h1,h3⟩
def QY:List D→Mp→DK→Prop:=fun ds M Q=> ∃ d xs,ds= [d]∧NQ M d xs∧Q (.int xs.length) M
theorem gU:Call3 X (.builtin "len") QY:=Ey vH fun H M xs ds Q rm dx ⟨d,ys,ei,hs,q⟩=>by
 subst ei
 obtain ⟨v,rfl,hv⟩:=pR dx
 rcases hs with rfl | rfl | ⟨l,rfl,hl⟩
 ·obtain ⟨p,zs,rfl,hp,hz⟩:=aR.mp hv
  exact ⟨p,zs,rfl,.inr (qV.of hp),aD rm (aO.mpr (by rw [hz.length])) q⟩
 ·obtain ⟨p,zs,rfl,hp,hz⟩:=mT.mp hv
  exact ⟨p,zs,rfl,.inl hp.sq,aD rm (aO.mpr (by rw [hz.length])) q⟩
 ·obtain rfl:=aK.mp hv
  obtain ⟨zs,hp,hz⟩:=rm.lst hl
  exact ⟨l,zs,rfl,.inl (jb.of hp),aD rm (aO.mpr (by rw [hz.length])) q⟩
inductive EB (M:Mp):D→String→Prop where
 | aX:EB M .aX "NoneType"
 | bl (b:Bool):EB M (.bl b) "bool"
 | int (i:Int):EB M (.int i) "int"
 | str (x:Str):EB M (.str x) "str"
 | tup (ds:List D):EB M (.tup ds) "tuple"
 | lst {a:Addr} {ds:List D} (h:M a=some (.lst ds)):EB M (.ref a) "list"
 | dct:EB M (.JC "dict") "dict"
def QZ (K:PySem.W.Frag):List D→Mp→DK→Prop:=fun ds M Q=> ∃ d n m b,ds= [d,.ty m]∧EB M d n∧PySem.W.kitOne K (.type n) (.type m)=some b∧Q (.bl b) M
theorem Bu:Call3 X (.builtin "isinstance") (QZ X.K):=by
 constructor
 intro pins s σ H M xs ds us Q I rm rs dx ⟨d,n,m,b,ei,ty,hk,q⟩
 subst ei
 obtain ⟨v,u,rfl,hv,hu⟩:=EA dx
 obtain rfl:=zV.mp hu
 obtain ⟨v',u',rfl,r1,r2⟩:=vals2 rs
 obtain rfl:u'=Value.type m:=r2
 have fin:∀ tk,EP X pins σ (Post X.K M H Q) (.bool b) { s with toks:=tk }:=fun tk=>⟨.bl b,H,I.tok tk,rfl,aD rm (aS.mpr rfl) q⟩
 cases ty with
 | aX=>obtain rfl:=b8.mp hv;exact fZ I r1 .aX hk fin
 | bl k=>obtain rfl:=aS.mp hv;exact fZ I r1 (.bl k) hk fin
 | int i=>obtain rfl:=aO.mp hv;exact fZ I r1 (.int i) hk fin
 | str z=>obtain rfl:=fS.mp hv;exact fZ I r1 (.str z) hk fin
 | tup zs=>
   obtain ⟨p,ys,rfl,hp,hy⟩:=aR.mp hv
   exact fZ I r1 (.tup hp) hk fin
 | lst hM=>
   obtain rfl:=aK.mp hv
   obtain ⟨ys,hp,hy⟩:=rm.lst hM
   exact fZ I r1 (.lst hp) hk fin
 | dct=>
   obtain ⟨p,o,u,rfl,hp,hc⟩:=Bq.mp hv
   cases (show v'=Value.ref p from r1)
   obtain ⟨h1,_⟩:=(show cL X.prog X.w H s.heap p (.mP o u) from I.hok p _ hp)
   exact PySem.W.kia_one PySem.W.kitx_dict I.xH ⟨o,h1,hc⟩ hk (fun z=>nomatch z) fin
abbrev rA:=List D→(D→Prop)→Prop
def qL (K:PySem.W.Frag) (S:rA):Sp:=fun vs H Q _=> ∃ ds Q0,aB K H ds vs∧S ds Q0∧∀ d v H',Q0 d→Dat K H' d v→(∀ b o,H b=some o→H' b=some o)→Q v H'
abbrev vN:=List D→Mp→DK→Prop
def yb (K:PySem.W.Frag) (S:vN):Sp:=fun vs H Q _=> ∃ ds M Q0,aB K H ds vs∧br K H M∧S ds M Q0∧∀ d M' v H',Q0 d M'→Dat K H' d v→br K H' M'→Fr M H M' H'→Q v H'
theorem m5 {K:PySem.W.Frag} {H:Hp} {ds:List D} {vs:List V} (h:aB K H ds vs):aB K H ds (vs ++ []):=by simpa using h
theorem Ext.keep {H H':Hp} (h:∀ b o,H b=some o→H' b=some o):Ext H H':=⟨fun b _ e=>h b _ e,fun b _ _ e=>h b _ e⟩
theorem br.keep {K:PySem.W.Frag} {H H':Hp} {M:Mp} (r:br K H M) (h:∀ b o,H b=some o→H' b=some o):br K H' M:=fun a o e=>(r a o e).mono (Ext.keep h) fun u q=>h _ _ q
variable {k:Nat} {f:Addr} {fd:FuncData} {ps:List Str}
def K1 (S:rA) (t:xK):cK:=fun ρ M Q=>t ρ M fun ds M1=>S ds fun d=>Q d M1
def K2 (S:vN) (t:xK):cK:=fun ρ M Q=>t ρ M fun ds M1=>S ds M1 Q
theorem aF {S:rA} (F:bO X.prog X.w X.K X.mg X.base fR k f fd ps (qL X.K S)) (hr:iw k X.A) (hg:Gl X x) (hm:X.mg x=some (.ref f)) (hk:PySem.W.keepIn X.K (.ref f)=true) (hb:Binds X.K fd ps [])
 (ha:CD X (e :: es) t) (hdb:(x == ("__debug__" :Str))=false:=by decide) (he:starEach (e :: es) X.env=(false,eval e X.env) :: starEach es X.env:=by rfl) (hpl:(backTo pos (starEach es X.env)).any (·.1)=false:=by rfl) :
 bZ X (.Call (.Name x p) (e :: es) [] pos) (K1 S t):=
 up (Bj (DT:=[]) (E:=E0) F hr hg hm hk hb .nil JB ha.dn hdb he hpl) fun σ H ρ M Q r q=>oE r q fun vs H' ds M' f dv r' q=>
  ⟨ds,_,m5 dv,q,fun d v H2 q2 d2 kp=>⟨d,M',f.trans fun b o n e=>⟨kp b o e,n⟩,d2,r'.mem.keep kp,q2⟩⟩
theorem cg {S:vN} (F:bO X.prog X.w X.K X.mg X.base fR k f fd ps (yb X.K S)) (hr:iw k X.A) (hg:Gl X x) (hm:X.mg x=some (.ref f)) (hk:PySem.W.keepIn X.K (.ref f)=true) (hb:Binds X.K fd ps [])
 (ha:CD X (e :: es) t) (hdb:(x == ("__debug__" :Str))=false:=by decide) (he:starEach (e :: es) X.env=(false,eval e X.env) :: starEach es X.env:=by rfl) (hpl:(backTo pos (starEach es X.env)).any (·.1)=false:=by rfl) :
 bZ X (.Call (.Name x p) (e :: es) [] pos) (K2 S t):=
 up (Bj (DT:=[]) (E:=E0) F hr hg hm hk hb .nil JB ha.dn hdb he hpl) fun σ H ρ M Q r q=>oE r q fun vs H' ds M' f dv r' q=>
  ⟨ds,M',_,m5 dv,r'.mem,q,fun d M2 v H2 q2 d2 NB f2=>⟨d,M2,f.trans f2,d2,NB,q2⟩⟩
end
section
variable {X:Cx} {st:Stmt} {rest:List Stmt} {t u:jJ} {e:Expr} {te:cK} {pos:Pos}
def K3:jJ:=fun D ρ M=>D.nx ρ M
def NT (t u:jJ):jJ:=fun D ρ M=>t { D with nx:=u D } ρ M
theorem xZ.dn {st:Stmt} {t:jJ} (h:xZ X st t):PS X st (Pp X.K t):=fun pins s σ H D' I ⟨ρ,M,D,r,q,k1,k2,k3,k4⟩=>
 cI (h.run pins s σ H ρ M D I r q) fun f s' z=>by
  cases f with
  | next=>obtain ⟨σ',H',I',p⟩:=z;exact ⟨σ',H',I',k1 _ _ p⟩
  | brk=>obtain ⟨σ',H',I',p⟩:=z;exact ⟨σ',H',I',k3 _ _ p⟩
  | cont=>obtain ⟨σ',H',I',p⟩:=z;exact ⟨σ',H',I',k4 _ _ p⟩
  | ret u=>obtain ⟨v,σ',H',I',rv,p⟩:=z;exact ⟨v,σ',H',I',rv,k2 _ _ p⟩
theorem K4 {sts:List Stmt} {te:TS} {t:jJ} (h:zO X sts te) (g:∀ σ H ρ M D,Rep X.K H σ ρ M→t D ρ M→te (ends X.K M H D) σ H):jG X sts t:=
 ⟨fun pins s σ H ρ M D I r q=>h pins s σ H _ I (g σ H ρ M D r q)⟩
theorem m6 {K:PySem.W.Frag} {M0:Mp} {H0:Hp} {σ:St} {H:Hp} {ρ:En} {M:Mp} {D:JE} {t:jJ} (f:Fr M0 H0 M H) (r:Rep K H σ ρ M) (q:t D ρ M):Pp K t (ends K M0 H0 D) σ H:=
 ⟨ρ,M,D,r,q,fun _ _ p=>p.back f,fun _ _ p=>p.back f,fun _ _ p=>p.back f,fun _ _ p=>p.back f⟩
theorem bS:jG X [] K3:=K4 Hh fun σ H ρ M D r q=>⟨ρ,M,.refl _ _,r,q⟩
theorem av (h1:xZ X st t) (h2:jG X rest u):jG X (st :: rest) (NT t u):=K4 (D4 h1.dn h2.dn) fun σ H ρ M D r q=>
 ⟨ρ,M,_,r,q,fun σ' H' ⟨ρ',M',f,r',q'⟩=>m6 f r' q',fun _ _ p=>p,fun _ _ p=>p,fun _ _ p=>p⟩
theorem aC (h1:xZ X st t):jG X [st] t:=K4 (Hi h1.dn) fun σ H ρ M D r q=>m6 (.refl _ _) r q
def K5 (te:cK):jJ:=fun D ρ M=>te ρ M fun _ M1=>D.nx ρ M1
theorem oH (he:bZ X e te) (hs:swapsWith e none pos.line X.env=pure false:=by rfl):xZ X (.Expr e pos) (K5 te):=JF (Hj he.dn hs) fun σ H ρ M D r q=>cN r q fun v H' d M' f dv r' q=>⟨ρ,M',f,r',q⟩
def NU (te:cK):jJ:=fun D ρ M=>te ρ M D.rt
theorem aM (he:bZ X e te):xZ X (.Return (some e) pos) (NU te):=JF (Kh he.dn) fun σ H ρ M D r q=>⟨ρ,M,_,r,q,fun _ _ p=>p⟩
def NV (c:lH) (t u:jJ):jJ:=fun D ρ M=>c ρ M fun b M1=>if b=true then t D ρ M1 else u D ρ M1
theorem dF {c:Expr} {a b:List Stmt} {tc:lH} (hc:zE X c tc) (ha:jG X a t) (hb:jG X b u):xZ X (.If c a b pos) (NV tc t u):=JF (MZ hc.dn ha.dn hb.dn) fun σ H ρ M D r q=>qX r q fun k H' M' f r' q=>by
 cases k with
 | true=>exact m6 f r' q
 | false=>exact m6 f r' q
def HH:jJ:=fun _ _ _=>False
theorem HJ:xZ X st HH:=⟨fun _ _ _ _ _ _ _ _ _ h=>h.elim⟩
def JG (i:Nat) (te:cK):jJ:=fun D ρ M=>te ρ M fun x M1=>D.nx (ρ.set i (some x)) M1
theorem aV {i:Nat} {x:Str} {pos':Pos} (hN:X.N.Nodup) (hi:X.N[i]?=some x) (hx:Loc X.env.scope x) (he:bZ X e te) (hs:swapsWith e (some (.Name x pos')) pos.line X.env=pure false:=by rfl) (hf:X.fn x=true∨X.env.scope.names.lookup x=some .local:=by first | exact .inl rfl | exact .inr rfl | assumption) :
 xZ X (.Assign [.Name x pos'] e pos) (JG i te):=JF (Kn hN hi hx he.dn hs hf) fun σ H ρ M D r q=>cN r q fun v H' d M' f dv r' q=>⟨ρ.set i (some d),M',f,r'.set dv,q⟩
abbrev yc:=D→En→Mp→(En→Mp→Prop)→Prop
abbrev zW:=List D→En→Mp→(En→Mp→Prop)→Prop
structure GZ (X:Cx) (target:Expr) (t:yc):Prop where
 run:∀ (pins:List (Addr ×Obj)) (s:Shared) (σ:St) (H:Hp) (ρ:En) (M:Mp) (v:V) (d:D) (u:Value) (Q:En→Mp→Prop),Inv X pins σ H s→Rep X.K H σ ρ M→RelV v u→Dat X.K H d v→t d ρ M Q→
  wpAny (model X.prog X.w) X.A (assign target X.env u) (fun _ s'=> ∃ σ' H',Inv X pins σ' H' s'∧iN X.K M H Q σ' H') X.xe s
structure HK (X:Cx) (ts:List Expr) (t:zW):Prop where
 run:∀ (pins:List (Addr ×Obj)) (s:Shared) (σ:St) (H:Hp) (ρ:En) (M:Mp) (vs:List V) (ds:List D) (us:List Value) (Q:En→Mp→Prop),Inv X pins σ H s→Rep X.K H σ ρ M→Vals vs us→aB X.K H ds vs→t ds ρ M Q→
  wpAny (model X.prog X.w) X.A (assignInOrder ((assignEach ts X.env).map (·.2)) us) (fun _ s'=> ∃ σ' H',Inv X pins σ' H' s'∧iN X.K M H Q σ' H') X.xe s
def K6 (i:Nat):yc:=fun d ρ M Q=>Q (ρ.set i (some d)) M
theorem cB {i:Nat} {x:Str} (hN:X.N.Nodup) (hi:X.N[i]?=some x) (hx:Loc X.env.scope x) (hf:X.fn x=true∨X.env.scope.names.lookup x=some .local:=by first | exact .inl rfl | exact .inr rfl | assumption):GZ X (.Name x pos) (K6 i):=
 ⟨fun pins s σ H ρ M v d u Q I r rv dv q=>Ho hN hi hx hf pins s σ H v u _ I rv ⟨ρ.set i (some d),M,.refl _ _,r.set dv,q⟩⟩
def NW:zW:=fun ds ρ M Q=>ds= []∧Q ρ M
def K7 (t:yc) (u:zW):zW:=fun ds ρ M Q=> ∃ d r,ds=d :: r∧t d ρ M fun ρ' M'=>u r ρ' M' Q
theorem zX:HK X [] NW:=by
 constructor
 intro pins s σ H ρ M vs ds us Q I r rv dv ⟨e1,q⟩
 subst e1
 rw [aH.mp dv] at rv
 cases rv
 exact assignInOrder_nil ⟨σ,H,I,ρ,M,.refl _ _,r,q⟩
theorem je {e:Expr} {es:List Expr} {t:yc} {u:zW} (h1:GZ X e t) (h2:HK X es u)
 (hs:(assignEach (e :: es) X.env).map (·.2)=assign e X.env :: (assignEach es X.env).map (·.2):=by rfl):HK X (e :: es) (K7 t u):=by
 constructor
 intro pins s σ H ρ M vs ds us Q I r rv dv ⟨d,dr,e1,q⟩
 subst e1
 obtain ⟨v,vr,rfl,d1,d2⟩:=aA.mp dv
 cases rv with
 | cons rv rr=>
   rw [hs]
   refine assignInOrder_cons (cI (h1.run pins s σ H ρ M v d _ _ I r rv d1 q) fun _ s1 ⟨σ1,H1,I1,ρ1,M1,f1,r1,q1⟩=>?_)
   exact cI (h2.run pins s1 σ1 H1 ρ1 M1 vr dr _ Q I1 r1 rr (aB.mono (f1.ext r.mem) _ _ d2) q1) fun _ s2 ⟨σ2,H2,I2,p⟩=>⟨σ2,H2,I2,p.back f1⟩
def NX (n:Nat) (t:zW):yc:=fun d ρ M Q=> ∃ xs,NJ M d xs∧xs.length=n∧t xs ρ M Q
theorem CF {prog:Program} {w:World} {A:Around} {E:Value→Shared→Prop} {it l:Addr} {items:Array Value}:∀ (n i:Nat) (s:Shared) (Q:List Value→Shared→Prop),s.heap.IsListIter it l i→it≠l→s.heap.IsList l items→i+n≤items.size→
 (∀ h',h'.IsListIter it l (i+n)→Heap.SameBut it s.heap h'→Q ((items.toList.drop i).take n) { s with heap:=h' })→wpAny (model prog w) A (draw (.ref it) n) Q E s:=by
 intro n
 induction n with
 | zero=>
   intro i s Q hit _ hl hi hQ
   have:=hQ s.heap hit (.refl ..)
   rw [List.take_zero] at this
   exact wpAny_pure this
 | succ n ih=>
   intro i s Q hit hne hl hi hQ
   have hlt:i < items.size:=by omega
   show wpAny _ _ (pyNext (.ref it) >>= _) Q E s
   refine wpAny_bind (wpAny_pyNext_list_item hit hl (x:=items[i]) (by simp [hlt]) fun h₁ K8 hs₁=>?_)
   refine wpAny_bind (wpAny_holding (ih (i+1) _ _ K8 hne (hl.at fun o e=>hs₁.extBut _ o (Ne.symm hne) e) (by omega) fun h₂ Q2 hs₂=>wpAny_pure ?_))
   have hd:items.toList.drop i=items[i] :: items.toList.drop (i+1):=by simp [List.drop_eq_getElem_cons,hlt]
   have:=hQ h₂ (by rw [show i+(n+1)=i+1+n by omega];exact Q2) (hs₁.trans hs₂)
   rw [hd,List.take_succ_cons] at this
   exact this
theorem oJ {prog:Program} {w:World} {A:Around} {E:Value→Shared→Prop} {s:Shared} {t:Addr} {items:Array Value} {Q:List Value→Shared→Prop} (hh:A.handled=none) (ht:s.heap.IsList t items)
 (hQ:∀ h',Heap.ExtBut s.heap.objs.size s.heap h'→Q items.toList { s with heap:=h' }):wpAny (model prog w) A (unpackItems (.ref t) items.size none) Q E s:=by
 have hlt:t≠s.heap.objs.size:=by obtain ⟨o,ho,_⟩:=ht;exact Nat.ne_of_lt (Heap.lt_size ho)
 unfold unpackItems
 refine wpAny_bind ?_
 ·unfold notIterableAtAll
  refine wpAny_bind (wpAny_specialOf ht.typeIs slot_list_iter.lookup ?_)
  refine wpAny_pure ?_
  simp only [Bool.false_eq_true,if_false]
  refine wpAny_bind (wpAny_holding (wpAny_pyIter_list ht ?_))
  have ht0:(s.heap.push { cls:= .type "list_iterator",data:= .fields #[.ref t,rawInt 0] }).IsList t items:=by
   obtain ⟨o,ho,c,n,d⟩:=id ht
   exact ⟨o,Heap.get?_push_of_some _ ho,c,n,d⟩
  refine wpAny_bind (wpAny_holding (CF items.size 0 _ _ ⟨_,Heap.get?_push_size _ rfl,rfl,rfl⟩ (Ne.symm hlt) ht0 (by omega) fun h₁ K8 hs₁=>?_))
  have hall:List.take items.size (List.drop 0 items.toList)=items.toList:=by
   rw [List.drop_zero];exact List.take_of_length_le (by simp)
  rw [hall]
  rw [if_neg (by simp)]
  have ht₁:h₁.IsList t items:=ht0.at fun o e=>hs₁.extBut _ o hlt e
  refine wpAny_bind (wpAny_holding (wpAny_pyNext_list_end hh K8 ht₁ (by simp) fun h₂ Uh=>?_))
  simp only [Option.isSome_none,Bool.false_eq_true,if_false]
  refine wpAny_pure (hQ h₂ fun b o hb e=>Uh b o hb (hs₁.extBut b o hb (Heap.get?_push_of_some _ e)))
theorem EC {es:List Expr} {k:Nat} {t:zW} {n:Nat} (hc:X.calm=true) (h:HK X es t)
 (hn:(assignEach es X.env).length=n:=by rfl) (hst:(assignEach es X.env).findIdx? (·.1)=none:=by rfl):GZ X (.Tuple es k pos) (NX n t):=by
 constructor
 intro pins s σ H ρ M v d u Q I r rv dv ⟨xs,hq,hl,q⟩
 rcases hq with rfl | ⟨a,rfl,hM⟩
 ·obtain ⟨a,ys,rfl,ha,hy⟩:=aR.mp dv
  obtain rfl:u=Value.ref a:=rv
  obtain ⟨its,NY,ht,hz⟩:=I.tuple (qV.of ha)
  refine assign_Tuple_tuple (I.ok.hd hc) ht (by simp [hn,← hl,hy.length,NY.length]) hst fun h' hx=>?_
  have I1:Inv X pins σ H { s with heap:=h' }:=I.kept (t':=s.toks) fun b o e=>hx b o (Nat.ne_of_lt (Heap.lt_size e)) e
  exact h.run pins _ σ H ρ M ys xs _ Q I1 r (by simpa using NY) hy q
 ·obtain rfl:=aK.mp dv
  obtain rfl:u=Value.ref a:=rv
  obtain ⟨ys,ha,hy⟩:=r.mem.lst hM
  obtain ⟨its,NY,ht,hz⟩:=I.list (jb.of ha)
  rw [assign_Tuple]
  refine wpAny_bind (wpAny_standAt ?_)
  unfold unpack
  have hsz:(assignEach es X.env).length=its.toArray.size:=by simp [hn,← hl,hy.length,NY.length]
  rw [hsz,hst]
  refine wpAny_bind (wpAny_holding (oJ (I.ok.hd hc) ht.isList fun h' hx=>?_))
  have I1:Inv X pins σ H { s with heap:=h' }:=I.kept (t':=s.toks) fun b o e=>hx b o (Nat.ne_of_lt (Heap.lt_size e)) e
  exact h.run pins _ σ H ρ M ys xs _ Q I1 r (by simpa using NY) hy q
def NZ (te:cK) (g:yc):jJ:=fun D ρ M=>te ρ M fun x M1=>g x ρ M1 D.nx
theorem Bv {tg e:Expr} {g:yc} (he:bZ X e te) (hg:GZ X tg g) (hs:swapsWithSole [tg] e pos.line X.env=pure false:=by rfl) (hw:swappedStores [tg] e X.env=pure none:=by rfl)
 (h1:(assignEach [tg] X.env).map (·.2)= [assign tg X.env]:=by rfl):xZ X (.Assign [tg] e pos) (NZ te g):=by
 constructor
 intro pins s σ H ρ M D I r h
 refine wpAny_Assign_stores (cI (he.run pins s σ H ρ M _ I r h) fun v s1 ⟨x,H1,I1,r1,d,M1,f1,d1,mR,q1⟩=>?_) hs hw
 rw [h1]
 exact cI (hg.run pins s1 σ H1 ρ M1 x d v _ I1 (r.go f1 mR) r1 d1 q1) fun _ s2 ⟨σ2,H2,I2,p⟩=>⟨σ2,H2,I2,p.back f1⟩
variable {o:Expr} {to:cK} {es:List Expr} {t3:xK} {apos:Pos}
@[irreducible] def bq (p:Prop):Prop:=p
theorem bq.mk {p:Prop} (h:p):bq p:=by unfold bq;exact h
theorem bq.out {p:Prop} (h:bq p):p:=by unfold bq at h;exact h
def HL (c:lH) (tb:jJ):jJ:=fun D ρ M=> ∃ W:Nat→En→Mp→Prop,(∃ m,W m ρ M)∧∀ m ρ M,W m ρ M→
 c ρ M fun b M1=>if b=true then tb { D with nx:=fun ρ' M'=>bq (∃ m',m' < m∧W m' ρ' M'),ct:=fun ρ' M'=>bq (∃ m',m' < m∧W m' ρ' M'),bk:=D.nx } ρ M1 else D.nx ρ M1
theorem HM {c:Expr} {body:List Stmt} {tc:lH} {tb:jJ} (hp:PassesOwn (model X.prog X.w) X.A X.env X.xe) (hc:zE X c tc) (hb:jG X body tb):xZ X (.While c body [] pos) (HL tc tb):=JF (D5 hp hc.dn hb.dn) fun σ H ρ M D r ⟨W,⟨m0,w0⟩,turn⟩=>by
 refine ⟨fun m σ' H'=> ∃ ρ' M',Fr M H M' H'∧Rep X.K H' σ' ρ' M'∧W m ρ' M',⟨m0,ρ,M,.refl _ _,r,w0⟩,?_⟩
 rintro m σ1 H1 ⟨ρ1,M1,f1,r1,w1⟩
 refine qX r1 (turn m ρ1 M1 w1) fun k H2 M2 f2 r2 q=>?_
 cases k with
 | true=>
   refine ⟨fun σ' H'=> ∃ m',m' < m∧∃ ρ' M',Fr M H M' H'∧Rep X.K H' σ' ρ' M'∧W m' ρ' M',fun σ' H' z=>z,?_⟩
   have ED:=f1.trans f2
   refine ⟨ρ1,M2,_,r2,q,fun σ' H' ⟨ρ',M',f,r',z⟩=>let ⟨m',hm,w'⟩:=z.out;⟨m',hm,ρ',M',ED.trans f,r',w'⟩,fun _ _ p=>p.back ED,fun _ _ p=>p.back ED,fun σ' H' ⟨ρ',M',f,r',z⟩=>let ⟨m',hm,w'⟩:=z.out;⟨m',hm,ρ',M',ED.trans f,r',w'⟩⟩
 | false=>exact ⟨ρ1,M2,f1.trans f2,r2,q⟩
def runFor (gd:Mp→Prop) (g:yc) (tb:jJ) (D:JE):List L3.D→En→Mp→Prop
 | [],ρ,M=>gd M∧D.nx ρ M
 | x :: xs,ρ,M=>gd M∧g x ρ M fun ρ2 M2=>tb { D with nx:=runFor gd g tb D xs,ct:=runFor gd g tb D xs,bk:=D.nx } ρ2 M2
structure CG (K:PySem.W.Frag) (J:It) (inv:Hp→Prop) (ds:List L3.D):Prop where
 go:∀ i H,i < ds.length→inv H→J.go i H
 Hq:∀ i H x H',i < ds.length→inv H→J.Hq i H x H'→H'=H∧∃ d,ds[i]?=some d∧Dat K H d x
 stop:∀ H,inv H→J.stop ds.length H
theorem GZ.dn {tg:Expr} {g:yc} (h:GZ X tg g):PG X tg (fun v σ H Q=> ∃ ρ M d Q0,Rep X.K H σ ρ M∧Dat X.K H d v∧g d ρ M Q0∧∀ σ' H',iN X.K M H Q0 σ' H'→Q σ' H'):=
 fun pins s σ H v u Q I rv ⟨ρ,M,d,Q0,r,dv,q,k⟩=>cI (h.run pins s σ H ρ M v d u Q0 I r rv dv q) fun _ _ ⟨σ',H',I',p⟩=>⟨σ',H',I',k _ _ p⟩
theorem rB {K:PySem.W.Frag} {J:It} {inv:Hp→Prop} {ds:List L3.D} {gd:Mp→Prop} {g:yc} {tb:jJ} {D:JE} {σ:St} {H H0:Hp} {ρ:En} {M M0:Mp} (hJ:CG K J inv ds)
 (f0:Fr M0 H0 M H) (r:Rep K H σ ρ M)
 (stay:∀ M1 H1,Fr M H M1 H1→br K H1 M1→gd M1→inv H1) (q:runFor gd g tb D ds ρ M) :
 ∃ W:Nat→Nat→St→Hp→Prop,(∃ m,W 0 m σ H)∧∀ i m σ H,W i m σ H→
   (J.stop i H∧(ends K M0 H0 D).nx σ H)∨(J.go i H∧∃ N:St→Hp→Prop,(∀ σ' H',N σ' H'→∃ m',m' < m∧W (i+1) m' σ' H')∧∀ x H',J.Hq i H x H'→
     (∃ ρ M d Q0,Rep K H' σ ρ M∧Dat K H' d x∧g d ρ M Q0∧∀ σ2 H2,iN K M H' Q0 σ2 H2→Pp K tb { (ends K M0 H0 D) with nx:=N,ct:=N,bk:=(ends K M0 H0 D).nx } σ2 H2)):=by
 refine ⟨fun i m σ1 H1=>m=ds.length - i∧i≤ds.length∧∃ ρ1 M1,Fr M H M1 H1∧Rep K H1 σ1 ρ1 M1∧runFor gd g tb D (ds.drop i) ρ1 M1,⟨ds.length,by simp,Nat.zero_le _,ρ,M,.refl _ _,r,by simpa using q⟩,?_⟩
 rintro i m σ1 H1 ⟨rfl,hi,ρ1,M1,f1,r1,q1⟩
 by_cases hlt:i < ds.length
 ·have hdr:ds.drop i=ds[i] :: ds.drop (i+1):=List.drop_eq_getElem_cons hlt
  rw [hdr] at q1
  obtain ⟨hg,q1⟩:=q1
  have ME:=stay M1 H1 f1 r1.mem hg
  refine .inr ⟨hJ.go i H1 hlt ME,fun σ' H'=> ∃ ρ' M',Fr M H M' H'∧Rep K H' σ' ρ' M'∧runFor gd g tb D (ds.drop (i+1)) ρ' M',fun σ' H' ⟨ρ',M',f',r',q'⟩=>⟨ds.length - (i+1),by omega,rfl,hlt,ρ',M',f',r',q'⟩,fun x H' y=>?_⟩
  obtain ⟨e,d,hd1,hd2⟩:=hJ.Hq i H1 x H' hlt ME y
  subst e
  have ed:d=ds[i]:=Option.some.inj (hd1.symm.trans (List.getElem?_eq_getElem hlt))
  subst ed
  refine ⟨ρ1,M1,_,_,r1,hd2,q1,fun σ2 H2 ⟨ρ2,M2,f2,r2,q2⟩=>?_⟩
  have ED:=f1.trans f2
  have SD:=f0.trans ED
  exact ⟨ρ2,M2,_,r2,q2,fun σ' H' ⟨ρ',M',f,r',z⟩=>⟨ρ',M',ED.trans f,r',z⟩,fun _ _ p=>p.back SD,fun _ _ p=>p.back SD,fun σ' H' ⟨ρ',M',f,r',z⟩=>⟨ρ',M',ED.trans f,r',z⟩⟩
 ·have e:i=ds.length:=by omega
  subst e
  rw [List.drop_of_length_le (Nat.le_refl _)] at q1
  obtain ⟨hg,q1⟩:=q1
  exact .inl ⟨hJ.stop H1 (stay M1 H1 f1 r1.mem hg),ρ1,M1,f0.trans f1,r1,q1⟩
def N1 (te:cK) (g:yc) (tb:jJ):jJ:=fun D ρ M=>te ρ M fun d M1=> ∃ xs,d= .tup xs∧runFor (fun _=>True) g tb D xs ρ M1
def N4 (te:cK) (g:yc) (tb:jJ):jJ:=fun D ρ M=>te ρ M fun d M1=> ∃ a xs,d= .ref a∧M1 a=some (.lst xs)∧runFor (fun M=>M a=some (.lst xs)) g tb D xs ρ M1
def N5 (t:xK) (g:yc) (tb:jJ):jJ:=fun D ρ M=>t ρ M fun vs M1=> ∃ j:Int,vs= [.int j]∧ -(2 ^ 62)≤j∧j < 2 ^ 62∧runFor (fun _=>True) g tb D ((List.range j.toNat).map fun (k:Nat)=>L3.D.int (k:Int)) ρ M1
variable {tg iter:Expr} {body:List Stmt} {g:yc} {tb:jJ}
theorem EE {K:PySem.W.Frag} {a:Addr} {ds:List L3.D}:CG K (Ql K a) (fun H=> ∃ vs,H a=some (.tup vs)∧aB K H ds vs) ds:=
 ⟨fun i H hi ⟨vs,h,hd⟩=>⟨vs,vs[i]'(by rw [← hd.length];exact hi),qV.of h,List.getElem?_eq_getElem _⟩,fun i H x H' _ ⟨vs,h,hd⟩ y=>⟨y.1,hd.back (y.2 vs (qV.of h))⟩,fun H ⟨vs,h,hd⟩=>⟨vs,qV.of h,by rw [hd.length];exact Nat.le_refl _⟩⟩
theorem EF {K:PySem.W.Frag} {a:Addr} {ds:List L3.D}:CG K (Qk K a) (fun H=> ∃ vs,H a=some (.lst vs)∧aB K H ds vs) ds:=
 ⟨fun i H hi ⟨vs,h,hd⟩=>⟨vs,vs[i]'(by rw [← hd.length];exact hi),jb.of h,List.getElem?_eq_getElem _⟩,fun i H x H' _ ⟨vs,h,hd⟩ y=>⟨y.1,hd.back (y.2 vs (jb.of h))⟩,fun H ⟨vs,h,hd⟩=>⟨vs,jb.of h,by rw [hd.length];exact Nat.le_refl _⟩⟩
theorem K9 {K:PySem.W.Frag} {n:Nat}:CG K (Pn 0 n) (fun _=>True) ((List.range n).map fun (k:Nat)=>L3.D.int (k:Int)):=
 ⟨fun i H hi _=>by show i < n;simpa using hi,fun i H x H' hi _ y=>⟨y.1,L3.D.int (i:Int),by
  have hi:i < n:=by simpa using hi
  simp [hi],aO.mpr (by rw [y.2,Int.zero_add])⟩,fun H _=>by show n≤_;simp⟩
theorem La (hp:PassesOwn (model X.prog X.w) X.A X.env X.xe) (hc:X.calm=true) (hi:bZ X iter te) (hg:GZ X tg g) (hb:jG X body tb)
 (hs:∀ x,foldedSetIterable iter X.env x=pure x:=by intro _;rfl):xZ X (.For tg iter body [] pos) (N1 te g tb):=JF (zR hp hc (D8 hi.dn) hg.dn hb.dn hs) fun σ H ρ M D r q=>cN r q fun v H' d M' f dv r' ⟨xs,e1,q⟩=>by
 subst e1
 obtain ⟨a,ys,rfl,ha,hy⟩:=aR.mp dv
 refine ⟨a,rfl,⟨ys,qV.of ha⟩,rB EE f r' (fun M1 H1 f1 _ _=>⟨ys,?_,aB.mono (f1.ext r'.mem) _ _ hy⟩) q⟩
 exact (f1 a _ (r'.mem.vJ ha (fun _ z=>by cases z)) ha).1
theorem oK (hp:PassesOwn (model X.prog X.w) X.A X.env X.xe) (hc:X.calm=true) (hi:bZ X iter te) (hg:GZ X tg g) (hb:jG X body tb)
 (hs:∀ x,foldedSetIterable iter X.env x=pure x:=by intro _;rfl):xZ X (.For tg iter body [] pos) (N4 te g tb):=JF (zR hp hc (Bd hi.dn) hg.dn hb.dn hs) fun σ H ρ M D r q=>cN r q fun v H' d M' f dv r' ⟨a,xs,e1,hM,q⟩=>by
 subst e1
 obtain rfl:=aK.mp dv
 obtain ⟨ys,ha,hy⟩:=r'.mem.lst hM
 exact ⟨a,rfl,⟨ys,jb.of ha⟩,rB EF f r' (fun M1 H1 f1 mR g1=>mR.lst g1) q⟩
theorem zY {a:Expr} {t:xK} {p rpos:Pos} (hp:PassesOwn (model X.prog X.w) X.A X.env X.xe) (hc:X.calm=true) (Lb:Gl X "range") (hm:X.mg "range" =none) (ha:CD X [a] t) (hg:GZ X tg g) (hb:jG X body tb)
 (hst:starEach [a] X.env= [(false,eval a X.env)]:=by rfl)
 (hs:∀ x,foldedSetIterable (.Call (.Name "range" p) [a] [] rpos) X.env x=pure x:=by intro _;rfl):xZ X (.For tg (.Call (.Name "range" p) [a] [] rpos) body [] pos) (N5 t g tb):=JF (zR hp hc (Cv Lb hm ha.dn hst) hg.dn hb.dn hs) fun σ H ρ M D r q=>oE r q fun vs H' ds M' f dv r' ⟨j,e1,h1,h2,q⟩=>by
 subst e1
 obtain ⟨v,rfl,hv⟩:=pR dv
 obtain rfl:=aO.mp hv
 exact ⟨j,rfl,h1,h2,rB K9 f r' (fun _ _ _ _ _=>trivial) q⟩
def N6 (to te:cK):cK:=fun ρ M Q=>to ρ M fun d M1=>(∃ l xs,d= .ref l∧M1 l=some (.lst xs))∧te ρ M1 fun e M2=> ∃ l xs,d= .ref l∧M2 l=some (.lst xs)∧xs.length < sizeLine∧Q .aX (ay M2 l (.lst (xs ++ [e])))
theorem EG {o e:Expr} {to te:cK} {apos:Pos} (ho:bZ X o to) (he:bZ X e te) (Lc:PE X (.Call (.Attribute o "append" apos) [e] [] pos) (QD X.K "list" Bm (dn X.K to) (Eb (dn X.K te) Kz))):bZ X (.Call (.Attribute o "append" apos) [e] [] pos) (N6 to te):=
 up Lc fun σ H ρ M Q r q=>cN r q fun v H' d M' f dv r' ⟨⟨l,xs,e1,hM⟩,q⟩=>by
  subst e1
  obtain rfl:=aK.mp dv
  obtain ⟨ys,ha,hy⟩:=r'.mem.lst hM
  refine ⟨.inl ⟨rfl,_,jb.of ha⟩,cN r' q fun u H2 d2 M2 f2 du r2 ⟨l',xs',e2,JH,hlt,q2⟩=>?_⟩
  injection e2 with e2
  subst e2
  obtain ⟨zs,hb,hz⟩:=r2.mem.lst JH
  refine ⟨l,zs,u,rfl,rfl,hb,by rw [← hz.length];exact hlt,.aX,_,(f.trans f2).trans (Fr.write (K:=X.K) JH),b8.mpr rfl,r2.mem.jV hb (hz.append (aB.one du)),q2⟩
end
section
variable {P:Program} {w:World} {K:PySem.W.Frag} {mg:Str→Option Value} {base:Heap}
def lX (N:List Str) (ds:List D):En:=ds.map some ++ List.replicate (N.length - ds.length) none
theorem uN {H:Hp} {N:List Str} {ds:List D} {vs:List V} {M:Mp} (h:aB K H ds vs) (rm:br K H M):Rep K H (L2.start N vs) (lX N ds) M:=by
 have hl:=h.length
 refine ⟨fun i d e=>?_,by unfold L2.start lX;simp [hl],rm⟩
 unfold lX at e
 by_cases hi:i < ds.length
 ·rw [List.getElem?_append_left (by simpa using hi),List.getElem?_map] at e
  cases q:ds[i]? with
  | none=>rw [q] at e;cases e
  | some d'=>
    rw [q] at e
    cases e
    obtain ⟨v,h1,h2⟩:=h.get q
    refine ⟨v,?_,h2⟩
    unfold L2.start
    rw [List.getElem?_append_left (by simp;omega),List.getElem?_map,h1]
    rfl
 ·rw [List.getElem?_append_right (by simpa using hi),List.getElem?_replicate] at e
  split at e <;> cases e
theorem vO {x qual:Str} {st:Stmt} {f:Addr} {fd:FuncData} {N ps:List Str} {k:Nat} {S:rA} (F:iM K x qual st f fd) (Sc:aG N ps (ak st)) (len:∀ ds Q,S ds Q→ds.length=ps.length)
 (hbody:∀ (cdv:Value) (A:Around) (outer:List Env) (s:Shared) (H:Hp),iw k (A.deeper (envOfC qual (ak st) s.heap.objs.size f cdv))→
  ∃ t,jG (qd fR P w K mg base N qual (ak st) f cdv A outer s H E0).GY (fO st) t∧∀ ds Q,S ds Q→t { nx:=fun _ _=>Q .aX,rt:=fun d _=>Q d } (lX N ds) MA) :
 bO P w K mg base fR (k+1) f fd ps (qL K S):=by
 refine F.ok Sc (fun vs H Q E h=>?_) (fun cdv A outer s H vs Q E hr h=>?_)
 ·obtain ⟨ds,Q0,h1,h2,_⟩:=h
  rw [← h1.length,len ds Q0 h2]
 ·obtain ⟨ds,Q0,h1,h2,h3⟩:=h
  obtain ⟨t,ht,hq⟩:=hbody cdv A outer s H hr
  have hE:(qd fR P w K mg base N qual (ak st) f cdv A outer s H E).GY=(qd fR P w K mg base N qual (ak st) f cdv A outer s H E0).GY:=rfl
  refine ⟨_,jG.dn (by rw [hE];exact ht),lX N ds,MA,_,uN h1 br.no,hq ds Q0 h2,fun σ' H' ⟨ρ',M',f',r',q⟩=>?_,fun v H' ⟨d,M',f',dv,rm,q⟩=>?_,fun _ _ ⟨_,_,_,_,z⟩=>z.elim,fun _ _ ⟨_,_,_,_,z⟩=>z.elim⟩
  ·exact h3 .aX .aX H' q (b8.mpr rfl) fun b o e=>(f' b o rfl e).1
  ·exact h3 d v H' q dv fun b o e=>(f' b o rfl e).1
theorem zZ {x qual:Str} {st:Stmt} {f:Addr} {fd:FuncData} {N ps:List Str} {k:Nat} {S:vN} (F:iM K x qual st f fd) (Sc:aG N ps (ak st)) (len:∀ ds M Q,S ds M Q→ds.length=ps.length)
 (hbody:∀ (cdv:Value) (A:Around) (outer:List Env) (s:Shared) (H:Hp),iw k (A.deeper (envOfC qual (ak st) s.heap.objs.size f cdv))→
  ∃ t,jG (qd fR P w K mg base N qual (ak st) f cdv A outer s H E0).GY (fO st) t∧∀ ds M Q,S ds M Q→t { nx:=fun _ M'=>bq (∃ M0,Le M0 M'∧Q .aX M0),rt:=fun d M'=>bq (∃ M0,Le M0 M'∧Q d M0) } (lX N ds) M) :
 bO P w K mg base fR (k+1) f fd ps (yb K S):=by
 refine F.ok Sc (fun vs H Q E h=>?_) (fun cdv A outer s H vs Q E hr h=>?_)
 ·obtain ⟨ds,M,Q0,h1,_,h2,_⟩:=h
  rw [← h1.length,len ds M Q0 h2]
 ·obtain ⟨ds,M,Q0,h1,rm,h2,h3⟩:=h
  obtain ⟨t,ht,hq⟩:=hbody cdv A outer s H hr
  have hE:(qd fR P w K mg base N qual (ak st) f cdv A outer s H E).GY=(qd fR P w K mg base N qual (ak st) f cdv A outer s H E0).GY:=rfl
  refine ⟨_,jG.dn (by rw [hE];exact ht),lX N ds,M,_,uN h1 rm,hq ds M Q0 h2,fun σ' H' ⟨ρ',M',f',r',z⟩=>?_,fun v H' ⟨d,M',f',dv,Ui,z⟩=>?_,fun _ _ ⟨_,_,_,_,z⟩=>z.elim,fun _ _ ⟨_,_,_,_,z⟩=>z.elim⟩
  ·obtain ⟨M0,l,q⟩:=z.out
   exact h3 .aX M0 .aX H' q (b8.mpr rfl) (r'.mem.le l) (f'.le l)
  ·obtain ⟨M0,l,q⟩:=z.out
   exact h3 d M0 v H' q dv (Ui.le l) (f'.le l)
end
end L3
namespace L3
open PySem PySem.Spec PyProof.Rows L2
section
variable {X:Cx}
def intsOf:List D→Option (List Int)
 | []=>some []
 | .int i :: ds=>(intsOf ds).map (i :: ·)
 | _ :: _=>none
theorem lY:∀ {ds:List D} {ns:List Int},intsOf ds=some ns→ds=ns.map D.int
 | [],ns,h=>by cases h;rfl
 | .int i :: ds,ns,h=>by
   have h:(intsOf ds).map (i :: ·)=some ns:=h
   cases q:intsOf ds with
   | none=>rw [q] at h;cases h
   | some ms=>
     rw [q] at h
     have h:i :: ms=ns:=Option.some.inj h
     subst h
     rw [lY q];rfl
 | .aX :: _,ns,h=>by cases h
 | .bl _ :: _,ns,h=>by cases h
 | .str _ :: _,ns,h=>by cases h
 | .ty _ :: _,ns,h=>by cases h
 | .ref _ :: _,ns,h=>by cases h
 | .tup _ :: _,ns,h=>by cases h
 | .zU _ :: _,ns,h=>by cases h
 | .JC _ :: _,ns,h=>by cases h
 | .exc _ _ _ :: _,ns,h=>by cases h
def SE:D→D→Option Bool
 | .int i,.int j=>some (decide (i < j))
 | .tup ds,.tup es=>match intsOf ds,intsOf es with
   | some ns,some ms=>some (HT.lexLt ns ms)
   | _,_=>none
 | _,_=>none
def Q3:R3:=fun d e M Q=> ∃ b,SE d e=some b∧Q (.bl b) M
theorem uO (hu:X.A.units+64 < cLine):mQ X (compareOp .Lt) Q3:=by
 constructor
 intro pins s σ H M x y d e v u Q I rm rx ry dx dy ⟨b,hb,q⟩
 unfold SE at hb
 split at hb
 ·rename_i i j
  have hb:=Option.some.inj hb
  subst hb
  exact QT.run pins s σ H M x y _ _ v u Q I rm rx ry dx dy ⟨i,j,rfl,rfl,q⟩
 ·rename_i ds es
  split at hb
  ·rename_i ns ms h1 h2
   have hb:=Option.some.inj hb
   subst hb
   exact (NL hu).run pins s σ H M x y _ _ v u Q I rm rx ry dx dy ⟨ns,ms,by rw [lY h1],by rw [lY h2],q⟩
  ·cases hb
 ·cases hb
theorem bu:bootBuiltins "len" =some (.builtin "len"):=by decide +kernel
theorem uP:bootBuiltins "min" =some (.builtin "min"):=by decide +kernel
theorem uQ:bootBuiltins "max" =some (.builtin "max"):=by decide +kernel
theorem bE:bootBuiltins "sorted" =some (.builtin "sorted"):=by decide +kernel
theorem cR:bootBuiltins "isinstance" =some (.builtin "isinstance"):=by decide +kernel
theorem gn:bootBuiltins "list" =some (.type "list"):=by decide +kernel
theorem CH:bootBuiltins "int" =some (.type "int"):=by decide +kernel
theorem jW:bootBuiltins "tuple" =some (.type "tuple"):=by decide +kernel
end
theorem rC {m n:Nat} (h:m≤n):2 ^ m≤2 ^ n:=Nat.pow_le_pow_right (by decide) h
theorem Sm.le {m n:Nat} {i:Int} (h:Sm m i) (l:m≤n):Sm n i:=Nat.lt_of_lt_of_le h (rC l)
theorem Sm.Ld {n:Nat} {i j:Int} (h:Sm n j) (l:i.natAbs≤j.natAbs):Sm n i:=Nat.lt_of_le_of_lt l h
theorem Sm.add {m n:Nat} {i j:Int} (h1:Sm m i) (h2:Sm n j):Sm (max m n+1) (i+j):=by
 have a:=Nat.lt_of_lt_of_le h1 (rC (Nat.le_max_left m n))
 have b:=Nat.lt_of_lt_of_le h2 (rC (Nat.le_max_right m n))
 show (i+j).natAbs < 2 ^ (max m n+1)
 rw [Nat.pow_succ]
 have:=Int.natAbs_add_le i j
 omega
theorem Sm.neg {n:Nat} {i:Int} (h:Sm n i):Sm n (-i):=by
 show (-i).natAbs < _
 rw [Int.natAbs_neg];exact h
theorem Sm.sub {m n:Nat} {i j:Int} (h1:Sm m i) (h2:Sm n j):Sm (max m n+1) (i - j):=by
 rw [Int.sub_eq_add_neg];exact h1.add h2.neg
theorem Sm.mul {m n:Nat} {i j:Int} (h1:Sm m i) (h2:Sm n j):Sm (m+n) (i*j):=by
 show (i*j).natAbs < 2 ^ (m+n)
 rw [Int.natAbs_mul,Nat.pow_add]
 exact Nat.mul_lt_mul'' h1 h2
theorem Sm.emod {n:Nat} {i j:Int} (hj:0 < j) (h:Sm n j):Sm n (i % j):=by
 have h1:=Int.emod_nonneg i (show j≠0 by omega)
 have h2:=Int.emod_lt_of_pos i hj
 exact h.Ld (by omega)
instance {n:Nat} {i:Int}:Decidable (Sm n i):=inferInstanceAs (Decidable (_ < _))
theorem Sm.sign (i:Int):Sm 1 i.sign:=by
 rcases Int.lt_trichotomy i 0 with h | h | h
 ·rw [Int.sign_eq_neg_one_of_neg h];decide
 ·subst h;decide
 ·rw [Int.sign_eq_one_of_pos h];decide
theorem MulOk.of {m n:Nat} {i j:Int} (h1:Sm m i) (h2:Sm n j) (h:m+n≤100000):MulOk i j:=⟨m,n,h1,h2,h⟩
theorem Sm.lit (i:Int):Sm (i.natAbs.log2+1) i:=Nat.lt_log2_self
theorem Sm.two:Sm 2 2:=by decide
theorem Sm.one:Sm 1 1:=by decide
theorem m7 {K:PySem.W.Frag} {n:String}:PySem.W.kitOne K (.type n) (.type n)=some true:=by simp [PySem.W.kitOne]
structure Pl where
 x:Int
 y:Int
 deriving DecidableEq
def Pl.d (p:Pl):D:= .tup [.int p.x,.int p.y]
def Pl.Ok (n:Nat) (p:Pl):Prop:=Sm n p.x∧Sm n p.y
theorem jX (p q:Pl):cZ p.d q.d=decide (p=q):=by
 unfold Pl.d
 rw [jd,iO,iO,x9,cA,cA,Bool.eq_iff_iff]
 cases p;cases q
 simp
end L3
namespace L3
open PySem L2
theorem uR {K:PySem.W.Frag} {H:Hp}:∀ (ns:List Int),aB K H (ns.map D.int) (ns.map V.int)
 | []=>aH.mpr rfl
 | n :: ns=>aA.mpr ⟨_,_,rfl,aO.mpr rfl,uR ns⟩
end L3
namespace L3
theorem cC {gd:Mp→Prop} {g:yc} {tb:jJ} {D:JE} {ρ:En} {M:Mp} (Pv:Nat→En→Mp→Prop):∀ (xs:List L3.D),
 (∀ (i:Nat) (x:L3.D) (ρ:En) (M:Mp) (N:En→Mp→Prop),xs[i]?=some x→Pv i ρ M→(∀ ρ' M',Pv (i+1) ρ' M'→N ρ' M')→gd M∧g x ρ M fun ρ2 M2=>tb { D with nx:=N,ct:=N,bk:=D.nx } ρ2 M2)→
 (∀ ρ M,Pv xs.length ρ M→gd M∧D.nx ρ M)→Pv 0 ρ M→runFor gd g tb D xs ρ M:=by
 intro xs hs hd h0
 have key:∀ (ys:List L3.D) (i:Nat) (ρ:En) (M:Mp),xs.drop i=ys→Pv i ρ M→i≤xs.length→runFor gd g tb D ys ρ M:=by
  intro ys
  induction ys with
  | nil=>
    intro i ρ M e p hi
    have:xs.length≤i:=by
     have:=congrArg List.length e
     rw [List.length_drop] at this
     simp at this
     omega
    have:i=xs.length:=by omega
    subst this
    exact hd ρ M p
  | cons y ys ih=>
    intro i ρ M e p hi
    have hx:xs[i]?=some y:=by
     have:=congrArg (fun l=>l[0]?) e
     simpa using this
    have hlt:i < xs.length:=(List.getElem?_eq_some_iff.mp hx).1
    refine hs i y ρ M _ hx p fun ρ' M' p'=>ih (i+1) ρ' M' ?_ p' hlt
    rw [← List.drop_drop,e]
    rfl
 exact key xs 0 ρ M rfl h0 (Nat.zero_le _)
theorem oM {n i:Nat} {x:L3.D} (h:((List.range n).map fun (k:Nat)=>L3.D.int (k:Int))[i]?=some x):i < n∧x= .int (i:Int):=by
 rw [List.getElem?_map] at h
 by_cases hi:i < n
 ·rw [List.getElem?_range hi] at h
  exact ⟨hi,(Option.some.inj h).symm⟩
 ·rw [List.getElem?_eq_none (by simp;omega)] at h
  cases h
end L3
namespace L3
theorem pS (a:Int):0≤a*a:=by
 rcases Int.le_total 0 a with h | h
 ·exact Int.mul_nonneg h h
 ·exact Int.mul_nonneg_of_nonpos_of_nonpos h h
def frac (a b:Int):Pl:=⟨a.fdiv ((Int.gcd a b:Int)*b.sign),b.fdiv ((Int.gcd a b:Int)*b.sign)⟩
def low (a b:Int):Pl:=⟨a / (Int.gcd a b:Int),b / (Int.gcd a b:Int)⟩
end L3
local macro_rules | `(tactic| walk_at "sm")=> `(tactic| first | assumption | exact L3.Sm.sign _ | exact L3.Sm.zero | exact L3.Sm.one | exact L3.Sm.two | ((with_reducible apply L3.Sm.mul) <;> walk_at "sm") | ((with_reducible apply L3.Sm.sub) <;> walk_at "sm") | ((with_reducible apply L3.Sm.add) <;> walk_at "sm") | ((with_reducible apply L3.Sm.neg) <;> walk_at "sm") | ((with_reducible apply L3.Sm.abs) <;> walk_at "sm") | ((with_reducible apply L3.Sm.emod);(first | omega | decide +kernel);walk_at "sm") | exact L3.Sm.lit _)
local macro_rules | `(tactic| walk_at "smle")=> `(tactic| (apply L3.Sm.le;walk_at "sm";first | omega | decide +kernel))
namespace L3
@[irreducible] def Uj (p f g:Pl):Int:=(p.x*f.y - f.x)*g.y*((p.x*f.y - f.x)*g.y)+(p.y*g.y - g.x)*f.y*((p.y*g.y - g.x)*f.y)
@[irreducible] def sq (p f g:Pl):Pl:=frac (Uj p f g) (f.y*g.y*(f.y*g.y))
end L3
namespace L3
@[irreducible] def tw (a b c:Pl):Int:=(b.x - a.x)*(c.y - a.y) - (b.y - a.y)*(c.x - a.x)
theorem lZ (a b c:Pl):tw b c a=tw a b c:=by unfold tw;grind
theorem eL (a b c:Pl):tw b a c= -tw a b c:=by unfold tw;grind
theorem jY (a b c:Pl):tw a c b= -tw a b c:=by unfold tw;grind
theorem gp (a b:Pl):tw a a b=0:=by unfold tw;grind
theorem rD (a b:Pl):tw a b b=0:=by unfold tw;grind
theorem gq (a b:Pl):tw a b a=0:=by unfold tw;grind
def aI (p q:Pl):Prop:=p.x < q.x∨(p.x=q.x∧p.y < q.y)
instance (p q:Pl):Decidable (aI p q):=inferInstanceAs (Decidable (_∨_))
theorem bI (p:Pl):¬ aI p p:=by unfold aI;omega
theorem bP {p q r:Pl} (a:aI p q) (b:aI q r):aI p r:=by unfold aI at *;omega
theorem aE {p q:Pl} (a:aI p q):¬ aI q p:=by unfold aI at *;omega
theorem eO (p q:Pl):aI p q∨p=q∨aI q p:=by
 unfold aI
 by_cases h:p=q
 ·exact .inr (.inl h)
 ·have:¬ (p.x=q.x∧p.y=q.y):=fun ⟨a,b⟩=>h (by cases p;cases q;simp only at a b;rw [a,b])
  omega
theorem rE {p q:Pl} (a:aI p q):p≠q:=fun e=>bI q (e▸a)
def lo (p q:Pl):Pl:=if aI q p then q else p
def hi (p q:Pl):Pl:=if aI p q then q else p
@[irreducible] def xM (p q:Pl):Int:=(q.x - p.x)*(q.x - p.x)+(q.y - p.y)*(q.y - p.y)
@[irreducible] def dep (a b c d:Pl):Int:=xM d a*tw d b c+xM d b*tw d c a+xM d c*tw d a b
theorem vP (a b c d:Pl):dep b c a d=dep a b c d:=by unfold dep;grind
theorem EH (a b c d:Pl):dep b a c d= -dep a b c d:=by unfold dep;have:=eL d;unfold tw;grind
theorem rF (a:Pl):xM a a=0:=by unfold xM;grind
theorem N7 (a b c:Pl):dep a b c a=0:=by unfold dep;rw [rF,gp,gq];grind
theorem N8 (a b c:Pl):dep a b c b=0:=by unfold dep;rw [rF,gp,gq];grind
theorem JI (a b c:Pl):dep a b c c=0:=by unfold dep;rw [rF,gp,gq];grind
@[irreducible] def rg (a b c d:Pl):Int:=(tw a b c).sign*(dep a b c d).sign
theorem jZ (a b c d:Pl):rg b c a d=rg a b c d:=by unfold rg;rw [lZ,vP]
theorem m8 (a b c d:Pl):rg b a c d=rg a b c d:=by unfold rg;rw [eL,EH,Int.sign_neg,Int.sign_neg,Int.neg_mul_neg]
end L3
namespace L3
def gS (a b c d:Pl):Prop:=rg a b c d=1∨(rg a b c d=0∧d≠a∧d≠b∧d≠c∧((aI d a∧aI d b∧aI d c)∨(aI a b∧aI a c∧aI a d∧(tw b c d).sign≠(tw b c a).sign)∨(aI b a∧aI b c∧aI b d∧(tw c a d).sign≠(tw c a b).sign)∨(aI c a∧aI c b∧aI c d∧(tw a b d).sign≠(tw a b c).sign)))
instance (a b c d:Pl):Decidable (gS a b c d):=inferInstanceAs (Decidable (_∨_))
theorem rG {a b c d:Pl} (h:gS a b c d):gS b c a d:=by
 rcases h with h | ⟨h0,n1,n2,n3,h⟩
 ·exact .inl ((jZ a b c d).trans h)
 ·refine .inr ⟨(jZ a b c d).trans h0,n2,n3,n1,?_⟩
  rcases h with ⟨k1,k2,k3⟩ | ⟨k1,k2,k3,k4⟩ | ⟨k1,k2,k3,k4⟩ | ⟨k1,k2,k3,k4⟩
  ·exact .inl ⟨k2,k3,k1⟩
  ·exact .inr (.inr (.inr ⟨k1,k2,k3,k4⟩))
  ·exact .inr (.inl ⟨k2,k1,k3,k4⟩)
  ·exact .inr (.inr (.inl ⟨k2,k1,k3,k4⟩))
theorem gW (a b c d:Pl):gS b c a d↔gS a b c d:=⟨fun h=>rG (rG h),rG⟩
theorem j3 (i j:Int):((-i).sign≠(-j).sign)↔(i.sign≠j.sign):=by
 rw [Int.sign_neg,Int.sign_neg];omega
theorem uS {a b c d:Pl} (h:gS a b c d):gS b a c d:=by
 rcases h with h | ⟨h0,n1,n2,n3,h⟩
 ·exact .inl ((m8 a b c d).trans h)
 ·refine .inr ⟨(m8 a b c d).trans h0,n2,n1,n3,?_⟩
  rcases h with ⟨k1,k2,k3⟩ | ⟨k1,k2,k3,k4⟩ | ⟨k1,k2,k3,k4⟩ | ⟨k1,k2,k3,k4⟩
  ·exact .inl ⟨k2,k1,k3⟩
  ·refine .inr (.inr (.inl ⟨k1,k2,k3,?_⟩))
   rw [eL b c d,eL b c a]
   exact (j3 _ _).mpr k4
  ·refine .inr (.inl ⟨k1,k2,k3,?_⟩)
   rw [eL c a d,eL c a b]
   exact (j3 _ _).mpr k4
  ·refine .inr (.inr (.inr ⟨k2,k1,k3,?_⟩))
   rw [eL a b d,eL a b c]
   exact (j3 _ _).mpr k4
theorem rH (a b c d:Pl):gS b a c d↔gS a b c d:=⟨uS,uS⟩
theorem Aa (i:Int):(i < 0∧i.sign= -1)∨(i=0∧i.sign=0)∨(0 < i∧i.sign=1):=by
 rcases Int.lt_trichotomy i 0 with h | h | h
 ·exact .inl ⟨h,Int.sign_eq_neg_one_of_neg h⟩
 ·exact .inr (.inl ⟨h,by rw [h];rfl⟩)
 ·exact .inr (.inr ⟨h,Int.sign_eq_one_of_pos h⟩)
theorem vQ {p q:Pl} (h:p≠q):0 < xM p q:=by
 unfold xM
 have h1:=pS (q.x - p.x)
 have h2:=pS (q.y - p.y)
 rcases Int.lt_trichotomy ((q.x - p.x)*(q.x - p.x)+(q.y - p.y)*(q.y - p.y)) 0 with z | z | z
 ·omega
 ·exfalso
  have e1:(q.x - p.x)*(q.x - p.x)=0:=by omega
  have e2:(q.y - p.y)*(q.y - p.y)=0:=by omega
  have f1:q.x - p.x=0:=by rcases Int.mul_eq_zero.mp e1 with z | z <;> exact z
  have f2:q.y - p.y=0:=by rcases Int.mul_eq_zero.mp e2 with z | z <;> exact z
  exact h (by cases p;cases q;simp only at f1 f2;congr 1 <;> omega)
 ·exact z
theorem kY {a b c d:Pl} (h:dep a b c d=0):rg a b c d=0:=by unfold rg;rw [h];simp
def Uk (p q r s:Pl):Prop:=(0 < tw p q r∧tw p q s < 0)∨(tw p q r < 0∧0 < tw p q s)
def dt (a b x:Pl):Int:=(x.x - a.x)*(x.x - b.x)+(x.y - a.y)*(x.y - b.y)
theorem HN (a b c d:Pl):gS a c b d↔gS a b c d:=by
 rw [← gW a c b d,rH,← gW,gW,gW]
theorem Bw {a b c d:Pl} (h:0 < tw a b c):rg a b c d=(dep a b c d).sign:=by unfold rg;rw [Int.sign_eq_one_of_pos h,Int.one_mul]
theorem Bx {a b x y:Pl} (hx:0 < tw a b x) (h:gS a b x y):0≤dep a b x y∧x≠y:=by
 unfold gS at h
 rw [Bw hx] at h
 rcases Aa (dep a b x y) with ⟨v,f⟩ | ⟨v,f⟩ | ⟨v,f⟩ <;> rw [f] at h
 ·omega
 ·refine ⟨by omega,?_⟩
  rcases h with h | h
  ·cases h
  ·exact fun e=>h.2.2.2.1 e.symm
 ·refine ⟨by omega,fun e=>?_⟩
  subst e
  rw [JI] at v
  omega
theorem l0 {a b x y:Pl} (hx:0 < tw a b x) (h:0 < dep a b x y):gS a b x y:=by
 left;rw [Bw hx,Int.sign_eq_one_of_pos h]
theorem iA {p q:Pl} (h:p≠q):aI p q∨aI q p:=by
 rcases eO p q with z | z | z
 ·exact .inl z
 ·exact absurd z h
 ·exact .inr z
end L3
namespace L3
end L3
namespace L3
end L3
namespace L3
open PySem PySem.Spec PyProof.Rows
section
variable {P:Program} {w:World} {A:Around} {E:Value→Shared→Prop} {s:Shared} {κ:KeyKind} {kd:SortKind} {z:Array Keyed} {t:SortSt}
structure Ask (P:Program) (w:World) (A:Around) (s:Shared) (κ:KeyKind) (kd:SortKind):Prop where
 lt:∀ (E:Value→Shared→Prop) (x y:Value) (a b:κ.α) (R:Bool→Shared→Prop),κ.keyOf x=some a→κ.keyOf y=some b→R (κ.blt a b) s→wpAny (model P w) A (keyLt' kd x y) R E s
structure Mid (kd:SortKind) (z:Array Keyed) (t:SortSt):Prop where
 pm:(arrOf t).Perm z
 kd:kindOf t=kd
 ok:failedOf t=none
 no:pendingOf t= #[]
theorem Mid.sz (m:Mid kd z t):(arrOf t).size=z.size:=m.pm.size_eq
theorem Mid.put (m:Mid kd z t) {y:Array Keyed} (h:y.Perm (arrOf t)):Mid kd z (setArr t y):=⟨h.trans m.pm,m.kd,m.ok,m.no⟩
theorem Mid.key (m:Mid kd z t) (hk:KeysOf κ z) {i:Nat} (hi:i < z.size):∃ x q,(arrOf t)[i]?=some (x,q)∧κ.keyOf x=some (KK κ (arrOf t) i):=by
 have hlt:i < (arrOf t).size:=m.sz▸hi
 have e:(arrOf t)[i]?=some (arrOf t)[i]:=getElem?_pos _ i hlt
 obtain ⟨a,ha⟩:=hk (arrOf t)[i] ((Array.perm_iff_toList_perm.mp m.pm).mem_iff.mp (by simp))
 refine ⟨(arrOf t)[i].1,(arrOf t)[i].2,e,?_⟩
 have ek:KK κ (arrOf t) i=a:=by unfold KK;rw [e];simp only [ha,Option.getD_some]
 rw [ek];exact ha
theorem rJ (hA:Ask P w A s κ kd) (m:Mid kd z t) (hk:KeysOf κ z) {i j:Nat} (hi:i < z.size) (hj:j < z.size) {R:Option Bool→SortSt→Prop}
 (h:R (some (κ.blt (KK κ (arrOf t) i) (KK κ (arrOf t) j))) t):wpS (model P w) A E s (ltAt' i j) R t:=by
 obtain ⟨x,p,e1,k1⟩:=m.key hk hi
 obtain ⟨y,q,e2,k2⟩:=m.key hk hj
 rw [ltAt'_eq]
 apply wpS_bind;apply wpS_get
 show wpS (model P w) A E s (elem' (arrOf t) i >>= fun u=>elem' (arrOf t) j >>= fun v=>lt' u v) R t
 rw [elem'_eq,elem'_eq,e1,e2]
 apply wpS_bind;apply wpS_pure
 apply wpS_bind;apply wpS_pure
 rw [lt'_eq]
 apply wpS_bind;apply wpS_get
 rw [m.kd]
 refine wpS_bind (wpS_lift (wpAny_attempt (hA.lt _ x y _ _ _ k1 k2 ⟨rfl,wpS_pure h⟩)))
theorem rise {y:Array Keyed} {n:Nat} (h:SortedToK κ y n) (hl:1≤n) (hn:κ.kle (KK κ y (n - 1)) (KK κ y n)):SortedToK κ y (n+1):=by
 intro i j hij hj
 rcases Nat.lt_or_ge j n with c | c
 ·exact h i j hij c
 ·obtain rfl:j=n:=by omega
  rcases Nat.lt_or_ge i j with d | d
  ·exact KeyOrd.kle_trans (h i (j - 1) (by omega) (by omega)) hn
  ·obtain rfl:i=j:=by omega
   exact KeyOrd.kle_refl _
theorem HP {y:Array Keyed} {n:Nat} (h:NonIncK κ y n) (hl:1≤n) (hn:κ.kle (KK κ y n) (KK κ y (n - 1))):NonIncK κ y (n+1):=by
 intro i j hij hj
 rcases Nat.lt_or_ge j n with c | c
 ·exact h i j hij c
 ·obtain rfl:j=n:=by omega
  rcases Nat.lt_or_ge i j with d | d
  ·exact KeyOrd.kle_trans hn (h i (j - 1) (by omega) (by omega))
  ·obtain rfl:i=j:=by omega
   exact KeyOrd.kle_refl _
theorem one_up (y:Array Keyed):SortedToK κ y 1:=by
 intro i j hij hj
 obtain rfl:i=j:=by omega
 exact KeyOrd.kle_refl _
theorem Lf (y:Array Keyed):NonIncK κ y 1:=by
 intro i j hij hj
 obtain rfl:i=j:=by omega
 exact KeyOrd.kle_refl _
theorem By (hA:Ask P w A s κ kd) (hk:KeysOf κ z) (m:Mid kd z t) {a e:Nat} (he:e≤z.size) (h1:1≤a) (Q4:a≤e) (up:SortedToK κ (arrOf t) a) {R:AscSt→SortSt→Prop}
 (h:∀ n,a≤n→n≤e→SortedToK κ (arrOf t) n→(n < e→κ.klt (KK κ (arrOf t) n) (KK κ (arrOf t) (n - 1)))→R (none,n) t):wpS (model P w) A E s (ascLoop a e) R t:=by
 unfold ascLoop
 refine wpS_forRange (I:=fun i b u=>b=(none,i)∧u=t∧SortedToK κ (arrOf t) i) (fun i b u hi1 hi2 hI=>?_) (fun b u hI=>?_) ⟨rfl,rfl,up⟩
 ·obtain ⟨rfl,rfl,hup⟩:=hI
  apply wpS_bind
  apply rJ hA m hk (by show i < z.size;omega) (by show i - 1 < z.size;omega)
  show wpS (model P w) A E s (if κ.blt (KK κ (arrOf u) i) (KK κ (arrOf u) (i - 1))=true then _ else _) _ u
  cases c:κ.blt (KK κ (arrOf u) i) (KK κ (arrOf u) (i - 1)) with
  | true=>rw [if_pos rfl];exact wpS_pure (h i hi1 (by omega) hup fun _=>c)
  | false=>rw [if_neg Bool.false_ne_true];exact wpS_pure ⟨rfl,rfl,rise hup (by omega) c⟩
 ·obtain ⟨rfl,rfl,hup⟩:=hI
  have em:max a e=e:=by omega
  rw [em] at hup ⊢
  exact h e Q4 (Nat.le_refl e) hup fun c=>absurd c (Nat.lt_irrefl e)
theorem yd (hA:Ask P w A s κ kd) (hk:KeysOf κ z) (m:Mid kd z t) {n e:Nat} (he:e≤z.size) (h1:1≤n) (hne:n≤e) (dn:NonIncK κ (arrOf t) n) {R:Option Nat→SortSt→Prop}
 (h:∀ i u,Mid kd z u→1≤i→i≤e→SortedToK κ (arrOf u) i→R (some i) u):wpS (model P w) A E s (tail3 n e) R t:=by
 have hz:n≤(arrOf t).size:=by have:=m.sz;omega
 have m2:=m.put (mirror_perm (arrOf t) 0 n ((n - 0) / 2))
 unfold tail3
 apply wpS_bind
 apply wpS_reverse
 apply wpS_bind
 refine By hA hk m2 he h1 hne (fun i j hij hj=>?_) fun i h2 h3 up _=>wpS_pure (h i _ m2 (by omega) h3 up)
 show κ.kle (KK κ (mirror (arrOf t) 0 n ((n - 0) / 2)) i) (KK κ (mirror (arrOf t) 0 n ((n - 0) / 2)) j)
 rw [KK_mirror hz i,KK_mirror hz j,if_pos ⟨Nat.zero_le i,by omega⟩,if_pos ⟨Nat.zero_le j,hj⟩]
 exact dn _ _ (by omega) (by omega)
def EI (κ:KeyKind) (y:Array Keyed) (n q:Nat):Prop:=q+1≤n∧∀ i,n - (q+1)≤i→i < n→KK κ y i=KK κ y (n - 1)
theorem EJ {y:Array Keyed} {n:Nat} (h:1≤n):EI κ y n 0:=by
 refine ⟨by omega,fun i h1 h2=>?_⟩
 obtain rfl:i=n - 1:=by omega
 rfl
theorem EK (hA:Ask P w A s κ kd) (hk:KeysOf κ z) (m:Mid kd z t) {a e:Nat} (he:e≤z.size) (h1:1≤a) (Q4:a≤e) (dn:NonIncK κ (arrOf t) a) {R:DescSt→SortSt→Prop}
 (h:∀ n q u,Mid kd z u→a≤n→n≤e→NonIncK κ (arrOf u) n→EI κ (arrOf u) n q→R (none,n,q) u):wpS (model P w) A E s (descLoop a e) R t:=by
 unfold descLoop
 refine wpS_forRange (I:=fun i b u=>Mid kd z u∧NonIncK κ (arrOf u) i∧∃ q,EI κ (arrOf u) i q∧b=(none,i,q)) (fun i b u hi1 hi2 hI=>?_) (fun b u hI=>?_) ⟨m,dn,0,EJ h1,rfl⟩
 ·obtain ⟨mu,hd,q,hq,rfl⟩:=hI
  have hz:i≤(arrOf u).size:=by have:=mu.sz;omega
  apply wpS_bind
  apply rJ hA mu hk (by show i < z.size;omega) (by show i - 1 < z.size;omega)
  show wpS (model P w) A E s (if κ.blt (KK κ (arrOf u) i) (KK κ (arrOf u) (i - 1))=true then _ else _) _ u
  cases c:κ.blt (KK κ (arrOf u) i) (KK κ (arrOf u) (i - 1)) with
  | true=>
    rw [if_pos rfl]
    have lower:NonIncK κ (arrOf u) (i+1):=HP hd (by omega) (KeyOrd.kle_of_klt c)
    show wpS (model P w) A E s (if q > 0 then _ else _) _ u
    by_cases d:q > 0
    ·rw [if_pos d]
     apply wpS_bind
     apply wpS_reverse
     have same:=KK_mirror_equal (κ:=κ) hz hq.2
     refine wpS_pure ⟨mu.put (mirror_perm _ _ _ _),fun x y hxy hy=>?_,0,EJ (by omega),rfl⟩
     show κ.kle (KK κ (mirror (arrOf u) (i - (q+1)) i _) y) (KK κ (mirror (arrOf u) (i - (q+1)) i _) x)
     rw [same,same]
     exact lower x y hxy hy
    ·rw [if_neg d]
     exact wpS_pure ⟨mu,lower,0,EJ (by omega),rfl⟩
  | false=>
    rw [if_neg Bool.false_ne_true]
    apply wpS_bind
    apply rJ hA mu hk (by show i - 1 < z.size;omega) (by show i < z.size;omega)
    show wpS (model P w) A E s (if κ.blt (KK κ (arrOf u) (i - 1)) (KK κ (arrOf u) i)=true then _ else _) _ u
    cases d:κ.blt (KK κ (arrOf u) (i - 1)) (KK κ (arrOf u) i) with
    | true=>rw [if_pos rfl];exact wpS_pure (h i q u mu hi1 (by omega) hd hq)
    | false=>
      rw [if_neg Bool.false_ne_true]
      have alike:KK κ (arrOf u) i=KK κ (arrOf u) (i - 1):=κ.total _ _ c d
      refine wpS_pure ⟨mu,HP hd (by omega) d,q+1,⟨by have:=hq.1;omega,fun x h2 h3=>?_⟩,rfl⟩
      rw [Nat.add_sub_cancel]
      rcases Nat.lt_or_ge x i with g | g
      ·rw [alike];exact hq.2 x (by omega) g
      ·obtain rfl:x=i:=by omega
       rfl
 ·obtain ⟨mu,hd,q,hq,rfl⟩:=hI
  have em:max a e=e:=by omega
  rw [em] at hd hq ⊢
  exact h e q u mu Q4 (Nat.le_refl e) hd hq
theorem ye (hA:Ask P w A s κ kd) (hk:KeysOf κ z) (m:Mid kd z t) {n e:Nat} (he:e≤z.size) (hne:n+1≤e) (dn:NonIncK κ (arrOf t) (n+1)) {R:Option Nat→SortSt→Prop}
 (h:∀ i u,Mid kd z u→1≤i→i≤e→SortedToK κ (arrOf u) i→R (some i) u):wpS (model P w) A E s (descPart n e) R t:=by
 unfold descPart
 apply wpS_bind
 refine wpS_lift (wpAny_rule ⟨rfl,?_⟩)
 apply wpS_bind
 refine EK hA hk m he (by omega) hne dn fun i q u mu h2 h3 hd hq=>?_
 have hz:i≤(arrOf u).size:=by have:=mu.sz;omega
 show wpS (model P w) A E s (if q > 0 then _ else _) R u
 by_cases d:q > 0
 ·rw [if_pos d]
  apply wpS_bind
  apply wpS_reverse
  have same:=KK_mirror_equal (κ:=κ) hz hq.2
  refine yd hA hk (mu.put (mirror_perm _ _ _ _)) he (by omega) h3 (fun x y hxy hy=>?_) h
  show κ.kle (KK κ (mirror (arrOf u) (i - (q+1)) i _) y) (KK κ (mirror (arrOf u) (i - (q+1)) i _) x)
  rw [same,same]
  exact hd x y hxy hy
 ·rw [if_neg d]
  exact yd hA hk mu he (by omega) h3 hd h
theorem CI (hA:Ask P w A s κ kd) (hk:KeysOf κ z) (m:Mid kd z t) {e:Nat} (he:e≤z.size) (h1:1≤e) {R:Option Nat→SortSt→Prop}
 (h:∀ i u,Mid kd z u→1≤i→i≤e→SortedToK κ (arrOf u) i→R (some i) u):wpS (model P w) A E s (countRun' 0 e) R t:=by
 rw [countRun0_eq]
 apply wpS_bind
 refine By hA hk m he (Nat.le_refl 1) h1 (one_up _) fun n h2 h3 up stop=>?_
 show wpS (model P w) A E s (if (n == e)=true then _ else _) R t
 by_cases c:n=e
 ·rw [if_pos (beq_iff_eq.mpr c)]
  exact wpS_pure (h n t m h2 h3 up)
 ·rw [if_neg fun q=>c (beq_iff_eq.mp q)]
  have less:=stop (by omega)
  by_cases d:n > 1
  ·rw [if_pos d]
   apply wpS_bind
   apply rJ hA m hk (by omega) (by show n - 1 < z.size;omega)
   show wpS (model P w) A E s (if κ.blt (KK κ (arrOf t) 0) (KK κ (arrOf t) (n - 1))=true then _ else _) R t
   cases g:κ.blt (KK κ (arrOf t) 0) (KK κ (arrOf t) (n - 1)) with
   | true=>rw [if_pos rfl];exact wpS_pure (h n t m h2 h3 up)
   | false=>
     rw [if_neg Bool.false_ne_true]
     have hz:n≤(arrOf t).size:=by have:=m.sz;omega
     have one:∀ i,i < n→KK κ (arrOf t) i=KK κ (arrOf t) (n - 1):=fun i hi=>
      KeyOrd.kle_antisymm (up i (n - 1) (by omega) (by omega)) (KeyOrd.kle_trans (show κ.kle (KK κ (arrOf t) (n - 1)) (KK κ (arrOf t) 0) from g) (up 0 i (Nat.zero_le i) hi))
     have same:=KK_mirror_equal (κ:=κ) hz (fun i (_:0≤i) hi=>one i hi)
     apply wpS_bind
     apply wpS_reverse
     refine ye hA hk (m.put (mirror_perm _ _ _ _)) he (by omega) (HP (fun x y hxy hy=>?_) (by omega) ?_) h
     ·show κ.kle (KK κ (mirror (arrOf t) 0 n _) y) (KK κ (mirror (arrOf t) 0 n _) x)
      rw [same,same,one x (by omega),one y hy]
      exact KeyOrd.kle_refl _
     ·show κ.kle (KK κ (mirror (arrOf t) 0 n _) n) (KK κ (mirror (arrOf t) 0 n _) (n - 1))
      rw [same,same]
      exact KeyOrd.kle_of_klt less
  ·rw [if_neg d]
   obtain rfl:n=1:=by omega
   exact ye hA hk m he (by omega) (HP (Lf _) (Nat.le_refl 1) (KeyOrd.kle_of_klt less)) h
structure Cut (κ:KeyKind) (y:Array Keyed) (k l r:Nat):Prop where
 lr:l≤r
 rk:r≤k
 lo:∀ i,i < l→κ.kle (KK κ y i) (KK κ y k)
 hi:∀ i,r≤i→i < k→κ.klt (KK κ y k) (KK κ y i)
theorem Cut.put {y:Array Keyed} {k l:Nat} (c:Cut κ y k l l) (hk:k < y.size) (up:SortedToK κ y k):SortedToK κ (bubble y k (k - l)) (k+1):=by
 have hl:=c.rk
 have at':∀ i,KK κ (bubble y k (k - l)) i=if i=l then KK κ y k else if l < i∧i≤k then KK κ y (i - 1) else KK κ y i:=fun i=>by
  have:=KK_bubble (κ:=κ) hk (Nat.sub_le k l) i
  have e:k - (k - l)=l:=by omega
  rw [e] at this
  exact this
 intro i j hij hj
 rw [at' i,at' j]
 by_cases i1:i=l
 ·rw [if_pos i1]
  by_cases j1:j=l
  ·rw [if_pos j1];exact KeyOrd.kle_refl _
  ·rw [if_neg j1,if_pos ⟨by omega,by omega⟩]
   exact KeyOrd.kle_of_klt (c.hi _ (by omega) (by omega))
 ·rw [if_neg i1]
  by_cases i2:l < i∧i≤k
  ·rw [if_pos i2,if_neg (by omega),if_pos ⟨by omega,by omega⟩]
   exact up _ _ (by omega) (by omega)
  ·rw [if_neg i2]
   by_cases j1:j=l
   ·rw [if_pos j1];exact c.lo i (by omega)
   ·rw [if_neg j1]
    by_cases j2:l < j∧j≤k
    ·rw [if_pos j2];exact up _ _ (by omega) (by omega)
    ·rw [if_neg j2];exact up _ _ hij (by omega)
theorem HQ (hA:Ask P w A s κ kd) (hk:KeysOf κ z) (m:Mid kd z t) {n o:Nat} (hn:n≤z.size) (ho:o≤n) (up:SortedToK κ (arrOf t) o) {R:Bool→SortSt→Prop}
 (h:∀ u,Mid kd z u→SortedToK κ (arrOf u) n→R true u):wpS (model P w) A E s (binarySort' 0 n o) R t:=by
 rw [binarySort'_eq]
 simp only [Nat.zero_add]
 apply wpS_bind
 refine wpS_mono (wpS_forRange (I:=fun k b u=>b=(none,())∧Mid kd z u∧(k≤n→SortedToK κ (arrOf u) k)∧(n < k→SortedToK κ (arrOf u) n)) (Q:=fun b u=>b=(none,())∧Mid kd z u∧SortedToK κ (arrOf u) n)
  (fun k b u hk1 hk2 hI=>?_) (fun b u hI=>?_) ⟨rfl,m,fun c=>?_,fun c=>?_⟩) fun b u hI=>?_
 ·obtain ⟨rfl,mu,up1,_⟩:=hI
  have Q5:=up1 (by omega)
  apply wpS_bind
  refine wpS_mono (wpS_forRange (I:=fun x b v=>v=u∧∃ l r,b=(none,l,r)∧Cut κ (arrOf u) k l r∧r - l≤k - x) (Q:=fun b v=>v=u∧∃ l,b=(none,l,l)∧Cut κ (arrOf u) k l l)
   (fun x b v _ hx hI=>?_) (fun b v hI=>?_) ⟨rfl,0,k,rfl,⟨Nat.zero_le k,Nat.le_refl k,fun i hi=>absurd hi (Nat.not_lt_zero i),fun i h2 h3=>absurd h3 (Nat.not_lt.mpr h2)⟩,Nat.le_refl _⟩) fun b v hI=>?_
  ·obtain ⟨rfl,l,r,rfl,c,hw⟩:=hI
   show wpS (model P w) A E s (if l≥r then _ else _) _ v
   by_cases d:l≥r
   ·rw [if_pos d]
    obtain rfl:l=r:=Nat.le_antisymm c.lr d
    exact wpS_pure ⟨rfl,l,rfl,c⟩
   ·rw [if_neg d]
    have hrk:=c.rk
    apply wpS_bind
    apply rJ hA mu hk (by show k < z.size;omega) (by show (l+r) / 2 < z.size;omega)
    show wpS (model P w) A E s (if κ.blt (KK κ (arrOf v) k) (KK κ (arrOf v) ((l+r) / 2))=true then _ else _) _ v
    cases g:κ.blt (KK κ (arrOf v) k) (KK κ (arrOf v) ((l+r) / 2)) with
    | true=>
      rw [if_pos rfl]
      exact wpS_pure ⟨rfl,l,(l+r) / 2,rfl,⟨by omega,by omega,c.lo,fun i h2 h3=>KeyOrd.klt_of_klt_of_kle g (Q5 _ i h2 h3)⟩,by omega⟩
    | false=>
      rw [if_neg Bool.false_ne_true]
      exact wpS_pure ⟨rfl,(l+r) / 2+1,r,rfl,⟨by omega,by omega,fun i h2=>KeyOrd.kle_trans (Q5 i _ (by omega) (by omega)) g,c.hi⟩,by omega⟩
  ·obtain ⟨rfl,l,r,rfl,c,hw⟩:=hI
   have e:max 0 k=k:=by omega
   rw [e] at hw
   obtain rfl:l=r:=by have:=c.lr;omega
   exact ⟨rfl,l,rfl,c⟩
  ·obtain ⟨rfl,l,rfl,c⟩:=hI
   show wpS (model P w) A E s (moveDown' k l >>= fun _=>pure (ForInStep.yield (none,()))) _ v
   rw [moveDown'_eq]
   apply wpS_bind
   apply wpS_modify
   have hz:k < (arrOf v).size:=by have:=mu.sz;omega
   exact wpS_pure ⟨rfl,mu.put (bubble_perm _ _ _),fun _=>c.put hz Q5,fun q=>by omega⟩
 ·obtain ⟨rfl,mu,up1,Ul⟩:=hI
  refine ⟨rfl,mu,?_⟩
  rcases Nat.lt_or_ge n (max (max o 1) n) with c | c
  ·exact Ul c
  ·have e:max (max o 1) n=n:=by omega
   rw [e] at up1
   exact up1 (Nat.le_refl n)
 ·rcases Nat.eq_zero_or_pos o with q | q
  ·have e:max o 1=1:=by omega
   rw [e];exact one_up _
  ·have e:max o 1=o:=by omega
   rw [e];exact up
 ·have e:n=0:=by omega
  subst e
  exact fun i j _ hj=>absurd hj (Nat.not_lt_zero j)
 ·obtain ⟨rfl,mu,up'⟩:=hI
  exact wpS_pure (h u mu up')
structure CJ (κ:KeyKind) (z:Array Keyed) (t:SortSt):Prop where
 pm:(arrOf t).Perm z
 ok:failedOf t=none
 one:pendingOf t= #[(0,z.size,0)]
 up:SortedToK κ (arrOf t) z.size
theorem Mid.fin (m:Mid kd z t) (up:SortedToK κ (arrOf t) z.size):CJ κ z (setPending t ((pendingOf t).push (0,z.size,0))):=
 ⟨m.pm,m.ok,by show (pendingOf t).push (0,z.size,0)= #[(0,z.size,0)];rw [m.no];rfl,up⟩
theorem HR (hA:Ask P w A s κ kd) (hk:KeysOf κ z) (m:Mid kd z t) (h2:2≤z.size) (h64:z.size < 64) {R:Unit→SortSt→Prop} (h:∀ u,CJ κ z u→R () u):wpS (model P w) A E s sortRuns' R t:=by
 have low:minRun' z.size z.size 0=z.size:=by
  obtain ⟨k,hk⟩:∃ k,z.size=k+1:=⟨z.size - 1,by omega⟩
  have:minRun' (k+1) z.size 0=z.size+0:=by rw [minRun'_succ,if_pos h64]
  rw [← hk] at this
  exact this
 rw [sortRuns'_eq]
 apply wpS_bind;apply wpS_get
 dsimp only
 simp only [m.sz,low]
 apply wpS_bind
 refine wpS_mono (wpS_forRange (I:=fun x b u=>if x=0 then b=(none,0)∧Mid kd z u else b=(none,z.size)∧CJ κ z u) (Q:=fun b u=>b=(none,z.size)∧CJ κ z u) (fun x b u _ hx hI=>?_) (fun b u hI=>?_) ?_) fun b u hI=>?_
 ·by_cases c:x=0
  ·subst c
   obtain ⟨rfl,mu⟩:b=(none,0)∧Mid kd z u:=by simpa using hI
   dsimp only
   rw [if_neg (by omega:¬ (0≥z.size))]
   simp only [Nat.sub_zero,Nat.min_self,Nat.zero_add]
   apply wpS_bind
   refine CI hA hk mu (Nat.le_refl _) (by omega) fun i v mv h3 h4 up=>?_
   dsimp only
   by_cases d:i < z.size
   ·rw [if_pos d]
    apply wpS_bind
    refine wpS_lift (wpAny_rule ⟨rfl,?_⟩)
    apply wpS_bind
    refine HQ hA hk mv (Nat.le_refl _) h4 up fun v' SG up'=>?_
    simp only [Bool.not_true,Bool.false_eq_true,if_false]
    apply wpS_bind;apply wpS_get
    have e:(pendingOf v').back?=none:=by rw [SG.no];rfl
    rw [e]
    dsimp only
    apply wpS_bind
    apply wpS_modify
    exact wpS_pure ⟨rfl,SG.fin up'⟩
   ·rw [if_neg d]
    obtain rfl:i=z.size:=by omega
    apply wpS_bind;apply wpS_get
    have e:(pendingOf v).back?=none:=by rw [mv.no];rfl
    rw [e]
    dsimp only
    apply wpS_bind
    apply wpS_modify
    exact wpS_pure ⟨rfl,mv.fin up⟩
  ·obtain ⟨rfl,fu⟩:b=(none,z.size)∧CJ κ z u:=by simpa [c] using hI
   dsimp only
   rw [if_pos (Nat.le_refl z.size)]
   exact wpS_pure ⟨rfl,fu⟩
 ·have c:max 0 z.size≠0:=by omega
  rw [if_neg c] at hI
  exact hI
 ·exact ⟨rfl,m⟩
 ·obtain ⟨rfl,fu⟩:=hI
  dsimp only
  apply wpS_bind
  refine wpS_mono (wpS_forRange (I:=fun _ b v=>b=(none,())∧v=u) (Q:=fun b v=>b=(none,())∧v=u) (fun x b v _ _ hI=>?_) (fun _ _ hI=>hI) ⟨rfl,rfl⟩) fun b v hI=>?_
  ·obtain ⟨rfl,rfl⟩:=hI
   apply wpS_bind;apply wpS_get
   rw [if_pos (by rw [fu.one];exact Nat.le_refl 1)]
   exact wpS_pure ⟨rfl,rfl⟩
  ·obtain ⟨rfl,rfl⟩:=hI
   exact wpS_pure (h v fu)
end
end L3
namespace L3
open PySem PySem.Spec PyProof.Rows
section
variable {P:Program} {w:World} {A:Around} {E:Value→Shared→Prop} {s:Shared} {κ:KeyKind} {kd:SortKind}
def dQ (h h':Heap):Prop:= ∀ b o,h.get? b=some o→h'.get? b=some o
theorem BA {a:Addr} {vs:List Value} {n:Nat} {R:Fin→Shared→Prop} (ho:s.heap.get? a=some (seqObj "list" vs.toArray n)) (hk:KeysOf κ (pairsOf vs))
 (hd:∀ (t:Shared) (E:Value→Shared→Prop) (Q:SortKind→Shared→Prop),(∀ b o,b≠a→s.heap.get? b=some o→t.heap.get? b=some o)→2≤vs.length→Q kd t→wpAny (model P w) A (keyKind' vs.toArray) Q E t)
 (hA:∀ t:Shared,(∀ b o,b≠a→s.heap.get? b=some o→t.heap.get? b=some o)→Ask P w A t κ kd) (h64:vs.length < 64)
 (h:∀ y:Array Keyed,y.Perm (pairsOf vs)→SortedToK κ y (pairsOf vs).size→R (.done (.ret .none)) { s with heap:=sortedHeap s.heap a vs (y.map (·.2)) }) :
 wpAny (model P w) A (Builtin.«list.sort» ⟨[.ref a],[]⟩) R E s:=by
 have la:a < s.heap.objs.size:=Heap.lt_size ho
 have lz:vs.length≤sizeLine:=by rw [sizeLine_eq];omega
 rw [list_sort_plain]
 apply wpAny_bind;apply listItems_at ho rfl
 refine wpAny_bind (listUpdate_at ho rfl ?_ (hsz:=by simp only [List.size_toArray];omega) (hsz2:=Nat.zero_le _))
 obtain ⟨e,h1⟩:∃ e,(s.heap.update a (Obj.mapSeq fun _=> #[])).get? a=some (seqObj "list" #[] e):=⟨_,get?_update_seq ho fun _=> #[]⟩
 apply wpAny_bind;apply seqEpoch_at h1 rfl
 refine wpAny_bind (wpAny_newTuple (hsz:=lz) ?_)
 refine wpAny_bind (wpAny_newList (hsz:=Nat.zero_le _) ?_)
 apply wpAny_holding
 show wpAny (model P w) A _ R E { s with heap:=((s.heap.update a (Obj.mapSeq fun _=> #[])).push (seqObj "tuple" vs.toArray 0)).push (seqObj "list" #[] 0) }
 generalize hh:((s.heap.update a (Obj.mapSeq fun _=> #[])).push (seqObj "tuple" vs.toArray 0)).push (seqObj "list" #[] 0)=g
 have g1:g.get? a=some (seqObj "list" #[] e):=by
  rw [← hh,Heap.get?_push_ne _ _ _ (by rw [size_push',Heap.size_update];exact Nat.ne_of_lt (Nat.lt_succ_of_lt la)),Heap.get?_push_ne _ _ _ (by rw [Heap.size_update];exact Nat.ne_of_lt la)]
  exact h1
 have g2:∀ b o,b≠a→s.heap.get? b=some o→g.get? b=some o:=fun b o hb q=>by
  have lb:=Heap.lt_size q
  rw [← hh,Heap.get?_push_ne _ _ _ (by rw [size_push',Heap.size_update];exact Nat.ne_of_lt (Nat.lt_succ_of_lt lb)),Heap.get?_push_ne _ _ _ (by rw [Heap.size_update];exact Nat.ne_of_lt lb),Heap.get?_update_ne _ _ _ _ hb]
  exact q
 have fin:∀ y:Array Keyed,y.Perm (pairsOf vs)→SortedToK κ y (pairsOf vs).size→R (.done (.ret .none)) { s with heap:=g.update a (Obj.mapSeq fun _=>y.map (·.2)) }:=fun y h2 h3=>by rw [← hh];exact h y h2 h3
 dsimp only
 have zv:vs.toArray.size=vs.length:=by simp
 have room:∀ y:Array Keyed,y.Perm (pairsOf vs)→(y.map (·.2)).size≤sizeLine+1:=fun y q=>by
  rw [Array.size_map,q.size_eq,pairsOf_size,sizeLine_eq];omega
 by_cases c:vs.toArray.size < 2
 ·rw [if_pos c,if_pos c]
  apply wpAny_bind;apply wpAny_pure
  rw [StateT.run_pure]
  apply wpAny_bind;apply wpAny_pure
  dsimp only
  apply wpAny_bind;apply seqEpoch_at g1 rfl
  apply wpAny_bind
  refine listUpdate_at g1 rfl ?_ (hsz2:=room (pairsOf vs) (Array.Perm.refl _))
  simp only [bne_self_eq_false,Bool.false_eq_true,if_false]
  refine wpAny_pure (fin (pairsOf vs) (Array.Perm.refl _) fun i j hij hj=>?_)
  obtain rfl:i=j:=by rw [pairsOf_size] at hj;omega
  exact KeyOrd.kle_refl _
 ·rw [if_neg c,if_neg c]
  apply wpAny_bind
  refine hd _ _ _ g2 (by omega) ?_
  apply wpAny_bind
  refine wpAny_mono (HR (z:=pairsOf vs) (t:=SortSt.mk' kd (pairsOf vs) #[] 7 none) (R:=fun _ u=>CJ κ (pairsOf vs) u) (hA _ g2) hk ⟨Array.Perm.refl _,rfl,rfl,rfl⟩ (by rw [pairsOf_size];omega) (by rw [pairsOf_size];exact h64) fun u q=>q) (fun r s' q=>?_) fun _ _ q=>q
  obtain ⟨⟨⟩,u⟩:=r
  obtain ⟨rfl,fu⟩:=q
  dsimp only
  apply wpAny_bind;apply seqEpoch_at g1 rfl
  apply wpAny_bind
  refine listUpdate_at g1 rfl ?_ (hsz2:=room (arrOf u) fu.pm)
  rw [fu.ok]
  simp only [bne_self_eq_false,Bool.false_eq_true,if_false]
  exact wpAny_pure (fin (arrOf u) fu.pm fu.up)
theorem uT {l:Addr} {vs:List Value} {Q:Value→Shared→Prop} (hl:s.heap.IsList l vs.toArray) (hk:KeysOf κ (pairsOf vs))
 (hd:∀ (t:Shared) (E:Value→Shared→Prop) (Q:SortKind→Shared→Prop),dQ s.heap t.heap→2≤vs.length→Q kd t→wpAny (model P w) A.in1.in1 (keyKind' vs.toArray) Q E t)
 (hA:∀ t:Shared,dQ s.heap t.heap→Ask P w A.in1.in1 t κ kd) (h64:vs.length < 64)
 (h:∀ y:Array Keyed,y.Perm (pairsOf vs)→SortedToK κ y (pairsOf vs).size→Q (.ref (s.heap.objs.size+1)) { s with heap:=sortedAll s.heap vs (y.map (·.2)) }) :
 wpAny (model P w) A (call (.builtin "sorted") [.ref l]) Q E s:=by
 refine Calls.call_function_entry kind_sorted plain_sorted entry_sorted (args_sorted1 _) ?_
 unfold Builtin.«sorted»
 refine wpAny_bind (m:=checkCount "sorted" 1 1 _) (wpAny_pure ?_)
 have lz:vs.length≤sizeLine:=by rw [sizeLine_eq];omega
 refine wpAny_bind (collect_list hl (hsz:=lz) ?_)
 refine wpAny_bind (wpAny_newList (hsz:=lz) ?_)
 show wpAny (model P w) A.in1 _ _ _ { s with heap:=((s.heap.push (seqObj "list" #[] 0)).update s.heap.objs.size (Obj.mapSeq (· ++ vs.toArray))).push (seqObj "list" vs.toArray 0) }
 generalize hg:(s.heap.push (seqObj "list" #[] 0)).update s.heap.objs.size (Obj.mapSeq (· ++ vs.toArray))=g
 have gz:g.objs.size=s.heap.objs.size+1:=by rw [← hg,Heap.size_update,size_push']
 have gk:dQ s.heap g:=fun b o q=>by
  have lb:=Heap.lt_size q
  rw [← hg,Heap.get?_update_ne _ _ _ _ (Nat.ne_of_lt lb),Heap.get?_push_ne _ _ _ (Nat.ne_of_lt lb)]
  exact q
 have fin:∀ y:Array Keyed,y.Perm (pairsOf vs)→SortedToK κ y (pairsOf vs).size→Q (.ref (s.heap.objs.size+1)) { s with heap:=sortedHeap (g.push (seqObj "list" vs.toArray 0)) (s.heap.objs.size+1) vs (y.map (·.2)) }:=fun y h1 h2=>by rw [← hg];exact h y h1 h2
 rw [gz]
 have at':(g.push (seqObj "list" vs.toArray 0)).get? (s.heap.objs.size+1)=some (seqObj "list" vs.toArray 0):=by rw [← gz];exact Heap.get?_push_size _ rfl
 have G0:∀ b o,s.heap.get? b=some o→b≠s.heap.objs.size+1∧(g.push (seqObj "list" vs.toArray 0)).get? b=some o:=fun b o q=>by
  have lb:=Heap.lt_size q
  have lc:=Nat.ne_of_lt (Nat.lt_succ_of_lt lb)
  refine ⟨lc,?_⟩
  rw [Heap.get?_push_ne _ _ _ (by rw [gz];exact lc)]
  exact gk b o q
 apply wpAny_bind;apply wpAny_holding
 refine wpAny_call_entry slot_list_sort ⟨_,at',rfl⟩ entry_list_sort (BA (κ:=κ) (kd:=kd) at' hk (fun t E Q hg=>hd t E Q fun b o q=>hg b o (G0 b o q).1 (G0 b o q).2) (fun t hg=>hA t fun b o q=>hg b o (G0 b o q).1 (G0 b o q).2) h64 fun y h1 h2=>⟨_,rfl,?_⟩) (args_list_sort _)
 exact wpAny_pure ⟨_,rfl,fin y h1 h2⟩
end
end L3
namespace L3
open PySem PySem.Spec PyProof.Rows
def lE (h:Heap) (v:Value) (p:Pl):Prop:= ∃ (a:Addr) (o:Obj) (t u:Tok) (n:Nat),v= .ref a∧h.get? a=some o∧o.cls= .type "tuple"∧o.data= .seq #[.int p.x t,.int p.y u] n
theorem lE.grow {h h':Heap} {v:Value} {p:Pl} (a:lE h v p) (g:dQ h h'):lE h' v p:=by
 obtain ⟨b,o,t,u,n,h1,h2,h3,h4⟩:=a
 exact ⟨b,o,t,u,n,h1,g _ _ h2,h3,h4⟩
theorem lE.inj {h:Heap} {v:Value} {p q:Pl} (a:lE h v p) (b:lE h v q):p=q:=by
 obtain ⟨a1,o,t,u,n,rfl,h2,h3,h4⟩:=a
 obtain ⟨a2,o',t',u',n',e,k2,k3,k4⟩:=b
 injection e with e
 subst e
 rw [h2] at k2
 injection k2 with k2
 subst k2
 rw [h4] at k4
 injection k4 with k4 _
 cases p;cases q
 simp at k4
 obtain ⟨⟨e1,_⟩,e2,_⟩:=k4
 rw [e1,e2]
open Classical in
noncomputable def DW (h:Heap):KeyKind where
 α:=Pl
 blt p q:=decide (aI p q)
 irrefl p:=decide_eq_false (bI p)
 trans p q r a b:=decide_eq_true (bP (of_decide_eq_true a) (of_decide_eq_true b))
 negTrans p q r a:=by
  have a:=of_decide_eq_true a
  rcases eO p q with c | c | c
  ·exact .inl (decide_eq_true c)
  ·subst c;exact .inr (decide_eq_true a)
  ·exact .inr (decide_eq_true (bP c a))
 total p q a b:=by
  rcases eO p q with c | c | c
  ·exact absurd c (of_decide_eq_false a)
  ·exact c
  ·exact absurd c (of_decide_eq_false b)
 keyOf v:=if e:∃ p,lE h v p then some e.choose else none
 dflt:=⟨0,0⟩
open Classical in
theorem BB {h:Heap} {v:Value} {p:Pl} (a:lE h v p):(DW h).keyOf v=some p:=by
 have e:∃ p,lE h v p:=⟨p,a⟩
 show (if e:∃ p,lE h v p then some e.choose else none)=some p
 rw [dif_pos e,lE.inj e.choose_spec a]
open Classical in
theorem EL {h:Heap} {v:Value} {p:Pl} (a:(DW h).keyOf v=some p):lE h v p:=by
 have a:(if e:∃ p,lE h v p then some e.choose else none)=some p:=a
 by_cases e:∃ p,lE h v p
 ·rw [dif_pos e] at a
  have:=e.choose_spec
  rwa [Option.some.inj a] at this
 ·rw [dif_neg e] at a;cases a
section
variable {P:Program} {w:World} {A:Around} {E:Value→Shared→Prop} {s:Shared}
theorem uU (f:Bool) (v u:Value):keyLt' (tuples' f) v u=(do
 let a ← Builtin.List.listItems v;let b ← Builtin.List.listItems u
 for ((c,d),k) in (a.toList.zip b.toList).zipIdx do { if !(← eqBool c d) then return ← oneLt' (f && k == 0) c d }
 return a.size < b.size):=rfl
theorem rK {b:Bool} {i j:Int} {t u:Tok} {Q:Bool→Shared→Prop} (h:Q (decide (i < j)) s):wpAny (model P w) A (oneLt' b (.int i t) (.int j u)) Q E s:=by
 cases b with
 | true=>exact oneLt_int h
 | false=>
   rw [oneLt'_eq]
   simp only [Bool.false_eq_true,if_false]
   apply wpAny_bind
   refine (lt_int ?_:wpAny (model P w) A (compareOp .Lt (.int i t) (.int j u)) _ E s)
   exact wpAny_truthy_bool h
theorem N9 {t:Shared} {x y:Value} {p q:Pl} {f:Bool} {R:Bool→Shared→Prop} (kx:lE t.heap x p) (ky:lE t.heap y q) (hR:R (decide (aI p q)) t):wpAny (model P w) A (keyLt' (tuples' f) x y) R E t:=by
 obtain ⟨a,o,t1,u1,n1,rfl,h2,h3,h4⟩:=kx
 obtain ⟨b,o',t2,u2,n2,rfl,k2,k3,k4⟩:=ky
 rw [uU]
 apply wpAny_bind;apply listItems_at h2 h4
 apply wpAny_bind;apply listItems_at k2 k4
 simp only [List.zip_cons_cons,List.zip_nil_right,List.zipIdx_cons,List.zipIdx_nil,List.forIn_cons,List.forIn_nil,bind_assoc]
 apply wpAny_bind
 apply wpAny_eqBool_int
 by_cases ex:p.x=q.x
 ·have e:(p.x == q.x)=true:=beq_iff_eq.mpr ex
  rw [e]
  simp only [Bool.not_true,Bool.false_eq_true,if_false,pure_bind,bind_assoc]
  apply wpAny_bind
  apply wpAny_eqBool_int
  by_cases ey:p.y=q.y
  ·have e:(p.y == q.y)=true:=beq_iff_eq.mpr ey
   rw [e]
   simp only [Bool.not_true,Bool.false_eq_true,if_false,pure_bind]
   have en:decide (aI p q)=false:=decide_eq_false (by unfold aI;omega)
   rw [en] at hR
   exact wpAny_pure hR
  ·have e:(p.y == q.y)=false:=beq_eq_false_iff_ne.mpr ey
   rw [e]
   simp only [Bool.not_false,if_true,bind_assoc,pure_bind]
   apply wpAny_bind
   apply rK
   have en:decide (aI p q)=decide (p.y < q.y):=by rw [decide_eq_decide];unfold aI;omega
   rw [en] at hR
   exact wpAny_pure hR
 ·have e:(p.x == q.x)=false:=beq_eq_false_iff_ne.mpr ex
  rw [e]
  simp only [Bool.not_false,if_true,bind_assoc,pure_bind]
  apply wpAny_bind
  apply rK
  have en:decide (aI p q)=decide (p.x < q.x):=by rw [decide_eq_decide];unfold aI;omega
  rw [en] at hR
  exact wpAny_pure hR
theorem Lg {h:Heap} {t:Shared} (g:dQ h t.heap) (f:Bool):Ask P w A t (DW h) (tuples' f):=
 ⟨fun E x y p q R kx ky hR=>N9 ((EL kx).grow g) ((EL ky).grow g) hR⟩
theorem m9 {β:Type} {f:Value→Sem β} (R:Value→β→Prop):∀ (vs:List Value) (Q:List β→Shared→Prop),(∀ v∈vs,∀ (Q:β→Shared→Prop),(∀ b,R v b→Q b s)→wpAny (model P w) A (f v) Q E s)→
 (∀ bs:List β,Paired R vs bs→Q bs s)→wpAny (model P w) A (vs.mapM f) Q E s
 | [],Q,_,h=>by rw [List.mapM_nil];exact wpAny_pure (h [] .nil)
 | v :: vs,Q,hv,h=>by
   rw [List.mapM_cons]
   apply wpAny_bind
   refine hv v (List.mem_cons_self ..) _ fun b rb=>?_
   apply wpAny_bind
   refine m9 R vs _ (fun u hu=>hv u (List.mem_cons_of_mem _ hu)) fun bs Um=>?_
   exact wpAny_pure (h (b :: bs) (.cons rb Um))
theorem uV (v:Value):firstOfTuple' v=(typeOf v >>= fun t=>if t != .type "tuple" then pure none else Builtin.List.listItems v >>= fun a=>pure a[0]?):=rfl
theorem HS {vs:List Value} (h2:1≤vs.length) (hv:∀ v∈vs,∃ p,lE s.heap v p) {Q:SortKind→Shared→Prop} (h:Q (tuples' true) s):wpAny (model P w) A (keyKind' vs.toArray) Q E s:=by
 rw [keyKind'_eq,List.mapM_toArray]
 simp only [bind_map_left]
 apply wpAny_bind
 refine m9 (fun _ b=> ∃ i t,b=some (Value.int i t)) vs _ (fun v hm Q hQ=>?_) fun bs hb=>?_
 ·obtain ⟨p,a,o,t,u,n,rfl,k2,k3,k4⟩:=hv v hm
  rw [uV]
  apply wpAny_bind
  refine wpAny_typeOf (T:= "tuple") ⟨o,k2,k3⟩ ?_
  have e:(Value.type "tuple" !=Value.type "tuple")=false:=by decide
  rw [e]
  simp only [Bool.false_eq_true,if_false,pure_bind]
  apply wpAny_bind;apply listItems_at k2 k4
  exact wpAny_pure (hQ _ ⟨p.x,t,rfl⟩)
 ·have all:∀ (vs:List Value) (bs:List (Option Value)),Paired (fun _ b=> ∃ i t,b=some (Value.int i t)) vs bs→bs.length=vs.length∧(∀ b∈bs,∃ i t,b=some (Value.int i t)):=by
   intro vs
   induction vs with
   | nil=>intro bs q;cases q;exact ⟨rfl,fun _ z=>by cases z⟩
   | cons v vs ih=>
     intro bs q
     cases q with
     | cons q1 q2=>
       obtain ⟨l,m⟩:=ih _ q2
       refine ⟨by simp [l],fun b hb=>?_⟩
       rcases List.mem_cons.mp hb with rfl | hb
       ·exact q1
       ·exact m b hb
  obtain ⟨hl,hm⟩:=all vs bs hb
  have c:(bs.toArray.all fun b=>b.isSome)=true:=by
   simp only [List.all_toArray,List.all_eq_true]
   intro b hb
   obtain ⟨i,t,rfl⟩:=hm b hb
   rfl
  rw [if_pos c]
  apply wpAny_bind;apply wpAny_rule
  rw [oneTypeOnly'_eq]
  have ef:bs.toArray.filterMap id=(bs.filterMap id).toArray:=by simp
  rw [ef,List.mapM_toArray]
  simp only [bind_map_left,bind_assoc]
  apply wpAny_bind
  refine m9 (fun _ b=>b=Value.type "int") _ _ (fun v hv' Q hQ=>?_) fun cs hc=>?_
  ·obtain ⟨b,hb1,hb2⟩:=List.mem_filterMap.mp hv'
   obtain ⟨i,t,rfl⟩:=hm b hb1
   have hb2:some (Value.int i t)=some v:=hb2
   cases hb2
   exact wpAny_typeOf (T:= "int") (typeIs_int s i t) (hQ _ rfl)
  ·have len:1≤(bs.filterMap id).length:=by
    cases bs with
    | nil=>simp at hl;omega
    | cons b bs=>
      obtain ⟨i,t,rfl⟩:=hm b (List.mem_cons_self ..)
      simp
   have all2:∀ (us cs:List Value),Paired (fun _ b=>b=Value.type "int") us cs→cs=us.map fun _=>Value.type "int" :=by
    intro us
    induction us with
    | nil=>intro cs q;cases q;rfl
    | cons u us ih=>intro cs q;cases q with | cons q1 q2=>rw [q1,ih _ q2];rfl
   rw [all2 _ _ hc]
   generalize bs.filterMap id=us at len
   cases us with
   | nil=>simp at len
   | cons u us=>
     have e0:(List.map (fun _=>Value.type "int") (u :: us)).toArray[0]?=some (Value.type "int"):=by simp
     rw [e0]
     have e1:((List.map (fun _=>Value.type "int") (u :: us)).toArray.all fun x=>x == Value.type "int")=true:=by
      simp only [List.all_toArray,List.all_map,List.all_eq_true]
      intro _ _;rfl
     simp only [e1,if_true,pure_bind]
     exact wpAny_pure h
end
end L3
namespace L3
open PySem PySem.Spec PyProof.Rows
section
variable {P:Program} {w:World} {A:Around} {E:Value→Shared→Prop} {s:Shared}
theorem Lh {h0:Heap} {I S:Addr} {fp wr:List Addr} {n:Nat} {Pr:Nat→Value→Prop} {St:Nat→Heap→Prop} {bt:Nat→Nat→Bool} {R:Result→Shared→Prop} (W:Walks P w A.in1 I fp wr n Pr St)
 (hc:∀ (i j:Nat) (vi vj:Value) (t:Shared) (Q:Value→Shared→Prop) (E:Value→Shared→Prop),dQ h0 t.heap→Pr i vi→Pr j vj→Q (.bool (bt i j)) t→wpAny (model P w) A.in1 (richCompare .Lt vi vj) Q E t)
 (hS:S∉fp) (CK:∀ b o,h0.get? b=some o→b∉wr∧b≠S):∀ (m k:Nat) (t:Shared) (vb:Value) (c:Nat),n - (k+1)=m→k+1≤n→dQ h0 t.heap→St (k+1) t.heap→Pr (argBest bt k) vb→
 t.heap.get? S=some { cls:= .type "list",dict:=none,data:= .seq #[vb,vb] c,slots:= #[] }→
 (∀ v h' tk,Pr (argBest bt (n - 1)) v→(∀ b o,b∉wr→b≠S→t.heap.get? b=some o→h'.get? b=some o)→R (.ok (.ret v)) { t with heap:=h',toks:=tk })→
 codeAny (model P w) A (.builtin "min.loop" ⟨[.ref I,.none,.ref S],[]⟩) R t:=by
 have Sw:S∉wr:=fun q=>hS (W.sub _ q)
 have nm:(toString "min" ++ toString ".loop" :String)= "min.loop" :=by decide
 intro m
 induction m with
 | zero=>
   intro k t vb c e1 e2 gr st pb hs hR
   have ek:k+1=n:=by omega
   refine codeAny_builtin F.entry_min_loop ?_
   rw [Around.under_plainId F.plain_min_loop]
   show wpAny (model P w) A.in1 (seqItems? (.ref S) >>= _) _ _ t
   apply wpAny_bind;apply wpAny_seqItems hs rfl
   show wpAny (model P w) A.in1 (tryCatch (pyNext (.ref I)) _ >>= _) _ _ t
   apply wpAny_bind;apply wpAny_tryCatch
   refine W.done t _ _ (ek▸st) fun h' tk kp=>?_
   have hs2:=kp S _ Sw hs
   show wpAny (model P w) A.in1 (updateSeq S (fun _=> #[]) >>= _) _ _ _
   apply wpAny_bind
   refine wpAny_updateSeq hs2 rfl ?_
   apply wpAny_bind;apply wpAny_letGo;apply wpAny_pure
   exact hR vb _ tk (by rw [← ek];exact pb) fun b o q1 q2 q=>(Heap.get?_update_other _ _ (Ne.symm q2)).trans (kp b o q1 q)
 | succ m ih=>
   intro k t vb c e1 e2 gr st pb hs hR
   refine codeAny_builtin F.entry_min_loop ?_
   rw [Around.under_plainId F.plain_min_loop]
   show wpAny (model P w) A.in1 (seqItems? (.ref S) >>= _) _ _ t
   apply wpAny_bind;apply wpAny_seqItems hs rfl
   show wpAny (model P w) A.in1 (tryCatch (pyNext (.ref I)) _ >>= _) _ _ t
   apply wpAny_bind;apply wpAny_tryCatch
   refine W.item (k+1) t _ _ (by omega) st fun v h' tk pv st2 kp=>?_
   have hs2:=kp S _ Sw hs
   have EM:dQ h0 h':=fun b o q=>kp b o (CK b o q).1 (gr b o q)
   show wpAny (model P w) A.in1 (tryCatch (holding [v,v] (richCompare .Lt v vb >>= _)) _ >>= _) _ _ _
   apply wpAny_bind;apply wpAny_tryCatch;apply wpAny_holding;apply wpAny_bind
   refine hc (k+1) (argBest bt k) v vb _ _ _ EM pv pb ?_
   apply wpAny_bind;apply wpAny_holding;apply wpAny_truthy_bool
   apply wpAny_bind;apply wpAny_letGo;apply wpAny_pure
   cases d:bt (k+1) (argBest bt k) with
   | true=>
     rw [if_pos rfl]
     apply wpAny_bind
     refine wpAny_updateSeq hs2 rfl ?_
     apply wpAny_bind;apply wpAny_letGo
     rw [nm]
     refine wpAny_pure ⟨plainId_quiet F.plain_min_loop _,ih (k+1) _ v _ (by omega) (by omega) (fun b o q=>(Heap.get?_update_other _ _ (Ne.symm (CK b o q).2)).trans (EM b o q)) (W.frame _ _ _ st2 fun b q1 o q=>(Heap.get?_update_other _ _ (fun z:S=b=>hS (z▸q1))).trans q) (by simp only [argBest,d,if_true];exact pv) (Heap.get?_update_self _ hs2 rfl) fun v2 h2 zG p2 CL=>?_⟩
     exact hR v2 h2 zG p2 fun b o q1 q2 q=>CL b o q1 q2 ((Heap.get?_update_other _ _ (Ne.symm q2)).trans (kp b o q1 q))
   | false=>
     rw [if_neg Bool.false_ne_true]
     apply wpAny_bind;apply wpAny_letGo
     rw [nm]
     refine wpAny_pure ⟨plainId_quiet F.plain_min_loop _,ih (k+1) _ vb c (by omega) (by omega) EM st2 (by simp only [argBest,d,Bool.false_eq_true,if_false];exact pb) hs2 fun v2 h2 zG p2 CL=>?_⟩
     exact hR v2 h2 zG p2 fun b o q1 q2 q=>CL b o q1 q2 (kp b o q1 q)
theorem CM {h0:Heap} {I S:Addr} {fp wr:List Addr} {n:Nat} {Pr:Nat→Value→Prop} {St:Nat→Heap→Prop} {bt:Nat→Nat→Bool} {R:Result→Shared→Prop} {t:Shared} {c:Nat} (W:Walks P w A.in1 I fp wr n Pr St)
 (hc:∀ (i j:Nat) (vi vj:Value) (t:Shared) (Q:Value→Shared→Prop) (E:Value→Shared→Prop),dQ h0 t.heap→Pr i vi→Pr j vj→Q (.bool (bt i j)) t→wpAny (model P w) A.in1 (richCompare .Lt vi vj) Q E t)
 (hS:S∉fp) (CK:∀ b o,h0.get? b=some o→b∉wr∧b≠S) (hn:0 < n) (gr:dQ h0 t.heap) (st:St 0 t.heap) (hs:t.heap.get? S=some { cls:= .type "list",dict:=none,data:= .seq #[] c,slots:= #[] })
 (hR:∀ v h' tk,Pr (argBest bt (n - 1)) v→(∀ b o,b∉wr→b≠S→t.heap.get? b=some o→h'.get? b=some o)→R (.ok (.ret v)) { t with heap:=h',toks:=tk }) :
 codeAny (model P w) A (.builtin "min.loop" ⟨[.ref I,.none,.ref S],[]⟩) R t:=by
 have Sw:S∉wr:=fun q=>hS (W.sub _ q)
 have nm:(toString "min" ++ toString ".loop" :String)= "min.loop" :=by decide
 refine codeAny_builtin F.entry_min_loop ?_
 rw [Around.under_plainId F.plain_min_loop]
 show wpAny (model P w) A.in1 (seqItems? (.ref S) >>= _) _ _ t
 apply wpAny_bind;apply wpAny_seqItems hs rfl
 show wpAny (model P w) A.in1 (tryCatch (pyNext (.ref I)) _ >>= _) _ _ t
 apply wpAny_bind;apply wpAny_tryCatch
 refine W.item 0 t _ _ hn st fun v h' tk pv st2 kp=>?_
 have hs2:=kp S _ Sw hs
 have EM:dQ h0 h':=fun b o q=>kp b o (CK b o q).1 (gr b o q)
 show wpAny (model P w) A.in1 (updateSeq S (fun _=> #[v,v]) >>= _) _ _ _
 apply wpAny_bind
 refine wpAny_updateSeq hs2 rfl ?_
 rw [nm]
 refine wpAny_pure ⟨plainId_quiet F.plain_min_loop _,Lh W hc hS CK _ 0 _ v _ rfl hn (fun b o q=>(Heap.get?_update_other _ _ (Ne.symm (CK b o q).2)).trans (EM b o q)) (W.frame _ _ _ st2 fun b q1 o q=>(Heap.get?_update_other _ _ (fun z:S=b=>hS (z▸q1))).trans q) pv (Heap.get?_update_self _ hs2 rfl) fun v2 h2 zG p2 CL=>?_⟩
 exact hR v2 h2 zG p2 fun b o q1 q2 q=>CL b o q1 q2 ((Heap.get?_update_other _ _ (Ne.symm q2)).trans (kp b o q1 q))
theorem EN {vs:List Value} {bt:Nat→Nat→Bool} {Q:Value→Shared→Prop} (ha:argsOk "min" ⟨vs,[]⟩) (h2:2≤vs.length) (hz:vs.length < 64) (hh:A.handled=none)
 (hc:∀ (i j:Nat) (vi vj:Value) (t:Shared) (Q:Value→Shared→Prop) (E:Value→Shared→Prop),dQ s.heap t.heap→vs[i]?=some vi→vs[j]?=some vj→Q (.bool (bt i j)) t→wpAny (model P w) A.in1 (richCompare .Lt vi vj) Q E t)
 (h:∀ v h' tk,vs[argBest bt (vs.length - 1)]?=some v→dQ s.heap h'→Q v { s with heap:=h',toks:=tk }):wpAny (model P w) A (call (.builtin "min") vs) Q E s:=by
 have nm:(toString "min" ++ toString ".loop" :String)= "min.loop" :=by decide
 have lz:vs.length≤sizeLine:=by rw [sizeLine_eq];omega
 refine call_function_tree F.kind_min F.plain_min F.entry_min ha ?_
 match vs,h2 with
 | v1 :: v2 :: rest,_=>
   show wpAny (model P w) A.in1 (Builtin.Builtins.bindParams "min" ["key","default"] 0 ⟨[],[]⟩ >>= _) _ _ s
   refine wpAny_bind (wpAny_of_eq (show Builtin.Builtins.bindParams "min" ["key","default"] 0 ⟨[],[]⟩=pure [none,none] from rfl) ?_)
   show wpAny (model P w) A.in1 (newTuple (v1 :: v2 :: rest) >>= _) _ _ s
   refine wpAny_bind (wpAny_newTuple (hsz:=lz) ?_)
   have qM:(s.heap.push { cls:= .type "tuple",data:= .seq (v1 :: v2 :: rest).toArray }).objs.size=s.heap.objs.size+1:=Heap.size_push ..
   have tp:(s.heap.push { cls:= .type "tuple",data:= .seq (v1 :: v2 :: rest).toArray }).IsTuple s.heap.objs.size (v1 :: v2 :: rest).toArray:=⟨_,Heap.get?_push_size _ rfl,rfl,0,rfl⟩
   refine wpAny_bind (wpAny_pyIter_tuple tp ?_)
   generalize hg:s.heap.push { cls:= .type "tuple",data:= .seq (v1 :: v2 :: rest).toArray }=g at qM tp
   have k0:dQ s.heap g:=fun b o q=>by rw [← hg];exact Heap.get?_push_of_some _ q
   apply wpAny_bind
   refine wpAny_newObj_type ?_
   have CN:(g.push { cls:= .type "tuple_iterator",data:= .fields #[.ref s.heap.objs.size,.int 0 0] }).objs.size=s.heap.objs.size+2:=by rw [Heap.size_push,qM]
   rw [nm]
   refine wpAny_pure ⟨plainId_quiet F.plain_min_loop _,CM (h0:=s.heap) (Walks.tuple (A:=A.in1) hh _ s.heap.objs.size (by rw [qM];exact Nat.ne_of_lt (Nat.lt_succ_self _)) (v1 :: v2 :: rest).toArray) (bt:=bt) (fun i j vi vj t Q E g1 p1 p2 q=>hc i j vi vj t Q E g1 (by simpa using p1) (by simpa using p2) q) ?_ (fun b o q=>?_) (by simp) (fun b o q=>Heap.get?_push_of_some _ (Heap.get?_push_of_some _ (k0 b o q))) ⟨⟨_,Heap.get?_push_of_some _ (Heap.get?_push_size _ rfl),rfl,rfl⟩,(tp.push _).push _⟩ (Heap.get?_push_size _ rfl) fun v h' tk p kp=>?_⟩
   ·intro q
    rw [qM,CN] at q
    rcases List.mem_cons.mp q with q | q
    ·exact absurd q (by intro z;exact absurd (Nat.succ.inj z) (Nat.succ_ne_self _))
    ·have q:=List.mem_singleton.mp q
     exact absurd q (by intro z;have:s.heap.objs.size+2=s.heap.objs.size:=z;omega)
   ·have lb:=Heap.lt_size q
    rw [qM,CN]
    refine ⟨fun z=>?_,fun z=>?_⟩
    ·have z:=List.mem_singleton.mp z
     rw [z] at lb
     exact absurd lb (Nat.not_lt.mpr (Nat.le_succ _))
    ·rw [z] at lb
     exact absurd lb (Nat.not_lt.mpr (Nat.le_add_right _ 2))
   ·refine h v h' tk (by simpa using p) fun b o q=>?_
    have lb:=Heap.lt_size q
    refine kp b o (fun z=>?_) (fun z=>?_) (Heap.get?_push_of_some _ (Heap.get?_push_of_some _ (k0 b o q)))
    ·have z:=List.mem_singleton.mp z
     rw [z,qM] at lb
     exact absurd lb (Nat.not_lt.mpr (Nat.le_succ _))
    ·rw [z,CN] at lb
     exact absurd lb (Nat.not_lt.mpr (Nat.le_add_right _ 2))
theorem Li {h0:Heap} {I S:Addr} {fp wr:List Addr} {n:Nat} {Pr:Nat→Value→Prop} {St:Nat→Heap→Prop} {bt:Nat→Nat→Bool} {R:Result→Shared→Prop} (W:Walks P w A.in1 I fp wr n Pr St)
 (hc:∀ (i j:Nat) (vi vj:Value) (t:Shared) (Q:Value→Shared→Prop) (E:Value→Shared→Prop),dQ h0 t.heap→Pr i vi→Pr j vj→Q (.bool (bt i j)) t→wpAny (model P w) A.in1 (richCompare .Gt vi vj) Q E t)
 (hS:S∉fp) (CK:∀ b o,h0.get? b=some o→b∉wr∧b≠S):∀ (m k:Nat) (t:Shared) (vb:Value) (c:Nat),n - (k+1)=m→k+1≤n→dQ h0 t.heap→St (k+1) t.heap→Pr (argBest bt k) vb→
 t.heap.get? S=some { cls:= .type "list",dict:=none,data:= .seq #[vb,vb] c,slots:= #[] }→
 (∀ v h' tk,Pr (argBest bt (n - 1)) v→(∀ b o,b∉wr→b≠S→t.heap.get? b=some o→h'.get? b=some o)→R (.ok (.ret v)) { t with heap:=h',toks:=tk })→
 codeAny (model P w) A (.builtin "max.loop" ⟨[.ref I,.none,.ref S],[]⟩) R t:=by
 have Sw:S∉wr:=fun q=>hS (W.sub _ q)
 have nm:(toString "max" ++ toString ".loop" :String)= "max.loop" :=by decide
 intro m
 induction m with
 | zero=>
   intro k t vb c e1 e2 gr st pb hs hR
   have ek:k+1=n:=by omega
   refine codeAny_builtin F.entry_max_loop ?_
   rw [Around.under_plainId F.plain_max_loop]
   show wpAny (model P w) A.in1 (seqItems? (.ref S) >>= _) _ _ t
   apply wpAny_bind;apply wpAny_seqItems hs rfl
   show wpAny (model P w) A.in1 (tryCatch (pyNext (.ref I)) _ >>= _) _ _ t
   apply wpAny_bind;apply wpAny_tryCatch
   refine W.done t _ _ (ek▸st) fun h' tk kp=>?_
   have hs2:=kp S _ Sw hs
   show wpAny (model P w) A.in1 (updateSeq S (fun _=> #[]) >>= _) _ _ _
   apply wpAny_bind
   refine wpAny_updateSeq hs2 rfl ?_
   apply wpAny_bind;apply wpAny_letGo;apply wpAny_pure
   exact hR vb _ tk (by rw [← ek];exact pb) fun b o q1 q2 q=>(Heap.get?_update_other _ _ (Ne.symm q2)).trans (kp b o q1 q)
 | succ m ih=>
   intro k t vb c e1 e2 gr st pb hs hR
   refine codeAny_builtin F.entry_max_loop ?_
   rw [Around.under_plainId F.plain_max_loop]
   show wpAny (model P w) A.in1 (seqItems? (.ref S) >>= _) _ _ t
   apply wpAny_bind;apply wpAny_seqItems hs rfl
   show wpAny (model P w) A.in1 (tryCatch (pyNext (.ref I)) _ >>= _) _ _ t
   apply wpAny_bind;apply wpAny_tryCatch
   refine W.item (k+1) t _ _ (by omega) st fun v h' tk pv st2 kp=>?_
   have hs2:=kp S _ Sw hs
   have EM:dQ h0 h':=fun b o q=>kp b o (CK b o q).1 (gr b o q)
   show wpAny (model P w) A.in1 (tryCatch (holding [v,v] (richCompare .Gt v vb >>= _)) _ >>= _) _ _ _
   apply wpAny_bind;apply wpAny_tryCatch;apply wpAny_holding;apply wpAny_bind
   refine hc (k+1) (argBest bt k) v vb _ _ _ EM pv pb ?_
   apply wpAny_bind;apply wpAny_holding;apply wpAny_truthy_bool
   apply wpAny_bind;apply wpAny_letGo;apply wpAny_pure
   cases d:bt (k+1) (argBest bt k) with
   | true=>
     rw [if_pos rfl]
     apply wpAny_bind
     refine wpAny_updateSeq hs2 rfl ?_
     apply wpAny_bind;apply wpAny_letGo
     rw [nm]
     refine wpAny_pure ⟨plainId_quiet F.plain_max_loop _,ih (k+1) _ v _ (by omega) (by omega) (fun b o q=>(Heap.get?_update_other _ _ (Ne.symm (CK b o q).2)).trans (EM b o q)) (W.frame _ _ _ st2 fun b q1 o q=>(Heap.get?_update_other _ _ (fun z:S=b=>hS (z▸q1))).trans q) (by simp only [argBest,d,if_true];exact pv) (Heap.get?_update_self _ hs2 rfl) fun v2 h2 zG p2 CL=>?_⟩
     exact hR v2 h2 zG p2 fun b o q1 q2 q=>CL b o q1 q2 ((Heap.get?_update_other _ _ (Ne.symm q2)).trans (kp b o q1 q))
   | false=>
     rw [if_neg Bool.false_ne_true]
     apply wpAny_bind;apply wpAny_letGo
     rw [nm]
     refine wpAny_pure ⟨plainId_quiet F.plain_max_loop _,ih (k+1) _ vb c (by omega) (by omega) EM st2 (by simp only [argBest,d,Bool.false_eq_true,if_false];exact pb) hs2 fun v2 h2 zG p2 CL=>?_⟩
     exact hR v2 h2 zG p2 fun b o q1 q2 q=>CL b o q1 q2 (kp b o q1 q)
theorem CO {h0:Heap} {I S:Addr} {fp wr:List Addr} {n:Nat} {Pr:Nat→Value→Prop} {St:Nat→Heap→Prop} {bt:Nat→Nat→Bool} {R:Result→Shared→Prop} {t:Shared} {c:Nat} (W:Walks P w A.in1 I fp wr n Pr St)
 (hc:∀ (i j:Nat) (vi vj:Value) (t:Shared) (Q:Value→Shared→Prop) (E:Value→Shared→Prop),dQ h0 t.heap→Pr i vi→Pr j vj→Q (.bool (bt i j)) t→wpAny (model P w) A.in1 (richCompare .Gt vi vj) Q E t)
 (hS:S∉fp) (CK:∀ b o,h0.get? b=some o→b∉wr∧b≠S) (hn:0 < n) (gr:dQ h0 t.heap) (st:St 0 t.heap) (hs:t.heap.get? S=some { cls:= .type "list",dict:=none,data:= .seq #[] c,slots:= #[] })
 (hR:∀ v h' tk,Pr (argBest bt (n - 1)) v→(∀ b o,b∉wr→b≠S→t.heap.get? b=some o→h'.get? b=some o)→R (.ok (.ret v)) { t with heap:=h',toks:=tk }) :
 codeAny (model P w) A (.builtin "max.loop" ⟨[.ref I,.none,.ref S],[]⟩) R t:=by
 have Sw:S∉wr:=fun q=>hS (W.sub _ q)
 have nm:(toString "max" ++ toString ".loop" :String)= "max.loop" :=by decide
 refine codeAny_builtin F.entry_max_loop ?_
 rw [Around.under_plainId F.plain_max_loop]
 show wpAny (model P w) A.in1 (seqItems? (.ref S) >>= _) _ _ t
 apply wpAny_bind;apply wpAny_seqItems hs rfl
 show wpAny (model P w) A.in1 (tryCatch (pyNext (.ref I)) _ >>= _) _ _ t
 apply wpAny_bind;apply wpAny_tryCatch
 refine W.item 0 t _ _ hn st fun v h' tk pv st2 kp=>?_
 have hs2:=kp S _ Sw hs
 have EM:dQ h0 h':=fun b o q=>kp b o (CK b o q).1 (gr b o q)
 show wpAny (model P w) A.in1 (updateSeq S (fun _=> #[v,v]) >>= _) _ _ _
 apply wpAny_bind
 refine wpAny_updateSeq hs2 rfl ?_
 rw [nm]
 refine wpAny_pure ⟨plainId_quiet F.plain_max_loop _,Li W hc hS CK _ 0 _ v _ rfl hn (fun b o q=>(Heap.get?_update_other _ _ (Ne.symm (CK b o q).2)).trans (EM b o q)) (W.frame _ _ _ st2 fun b q1 o q=>(Heap.get?_update_other _ _ (fun z:S=b=>hS (z▸q1))).trans q) pv (Heap.get?_update_self _ hs2 rfl) fun v2 h2 zG p2 CL=>?_⟩
 exact hR v2 h2 zG p2 fun b o q1 q2 q=>CL b o q1 q2 ((Heap.get?_update_other _ _ (Ne.symm q2)).trans (kp b o q1 q))
theorem EO {vs:List Value} {bt:Nat→Nat→Bool} {Q:Value→Shared→Prop} (ha:argsOk "max" ⟨vs,[]⟩) (h2:2≤vs.length) (hz:vs.length < 64) (hh:A.handled=none)
 (hc:∀ (i j:Nat) (vi vj:Value) (t:Shared) (Q:Value→Shared→Prop) (E:Value→Shared→Prop),dQ s.heap t.heap→vs[i]?=some vi→vs[j]?=some vj→Q (.bool (bt i j)) t→wpAny (model P w) A.in1 (richCompare .Gt vi vj) Q E t)
 (h:∀ v h' tk,vs[argBest bt (vs.length - 1)]?=some v→dQ s.heap h'→Q v { s with heap:=h',toks:=tk }):wpAny (model P w) A (call (.builtin "max") vs) Q E s:=by
 have nm:(toString "max" ++ toString ".loop" :String)= "max.loop" :=by decide
 have lz:vs.length≤sizeLine:=by rw [sizeLine_eq];omega
 refine call_function_tree F.kind_max F.plain_max F.entry_max ha ?_
 match vs,h2 with
 | v1 :: v2 :: rest,_=>
   show wpAny (model P w) A.in1 (Builtin.Builtins.bindParams "max" ["key","default"] 0 ⟨[],[]⟩ >>= _) _ _ s
   refine wpAny_bind (wpAny_of_eq (show Builtin.Builtins.bindParams "max" ["key","default"] 0 ⟨[],[]⟩=pure [none,none] from rfl) ?_)
   show wpAny (model P w) A.in1 (newTuple (v1 :: v2 :: rest) >>= _) _ _ s
   refine wpAny_bind (wpAny_newTuple (hsz:=lz) ?_)
   have qM:(s.heap.push { cls:= .type "tuple",data:= .seq (v1 :: v2 :: rest).toArray }).objs.size=s.heap.objs.size+1:=Heap.size_push ..
   have tp:(s.heap.push { cls:= .type "tuple",data:= .seq (v1 :: v2 :: rest).toArray }).IsTuple s.heap.objs.size (v1 :: v2 :: rest).toArray:=⟨_,Heap.get?_push_size _ rfl,rfl,0,rfl⟩
   refine wpAny_bind (wpAny_pyIter_tuple tp ?_)
   generalize hg:s.heap.push { cls:= .type "tuple",data:= .seq (v1 :: v2 :: rest).toArray }=g at qM tp
   have k0:dQ s.heap g:=fun b o q=>by rw [← hg];exact Heap.get?_push_of_some _ q
   apply wpAny_bind
   refine wpAny_newObj_type ?_
   have CN:(g.push { cls:= .type "tuple_iterator",data:= .fields #[.ref s.heap.objs.size,.int 0 0] }).objs.size=s.heap.objs.size+2:=by rw [Heap.size_push,qM]
   rw [nm]
   refine wpAny_pure ⟨plainId_quiet F.plain_max_loop _,CO (h0:=s.heap) (Walks.tuple (A:=A.in1) hh _ s.heap.objs.size (by rw [qM];exact Nat.ne_of_lt (Nat.lt_succ_self _)) (v1 :: v2 :: rest).toArray) (bt:=bt) (fun i j vi vj t Q E g1 p1 p2 q=>hc i j vi vj t Q E g1 (by simpa using p1) (by simpa using p2) q) ?_ (fun b o q=>?_) (by simp) (fun b o q=>Heap.get?_push_of_some _ (Heap.get?_push_of_some _ (k0 b o q))) ⟨⟨_,Heap.get?_push_of_some _ (Heap.get?_push_size _ rfl),rfl,rfl⟩,(tp.push _).push _⟩ (Heap.get?_push_size _ rfl) fun v h' tk p kp=>?_⟩
   ·intro q
    rw [qM,CN] at q
    rcases List.mem_cons.mp q with q | q
    ·exact absurd q (by intro z;exact absurd (Nat.succ.inj z) (Nat.succ_ne_self _))
    ·have q:=List.mem_singleton.mp q
     exact absurd q (by intro z;have:s.heap.objs.size+2=s.heap.objs.size:=z;omega)
   ·have lb:=Heap.lt_size q
    rw [qM,CN]
    refine ⟨fun z=>?_,fun z=>?_⟩
    ·have z:=List.mem_singleton.mp z
     rw [z] at lb
     exact absurd lb (Nat.not_lt.mpr (Nat.le_succ _))
    ·rw [z] at lb
     exact absurd lb (Nat.not_lt.mpr (Nat.le_add_right _ 2))
   ·refine h v h' tk (by simpa using p) fun b o q=>?_
    have lb:=Heap.lt_size q
    refine kp b o (fun z=>?_) (fun z=>?_) (Heap.get?_push_of_some _ (Heap.get?_push_of_some _ (k0 b o q)))
    ·have z:=List.mem_singleton.mp z
     rw [z,qM] at lb
     exact absurd lb (Nat.not_lt.mpr (Nat.le_succ _))
    ·rw [z,CN] at lb
     exact absurd lb (Nat.not_lt.mpr (Nat.le_add_right _ 2))
end
end L3
namespace HT
open PySem PyProof.Rows
theorem ER (A:Around) (s:Shared) (a:Int) (t:Tok) (c:Int) (u:Tok) (prog:Program) (w:World) (E:Value→Shared→Prop) (Q:Value→Shared→Prop) (h:Q (.bool (decide (c < a))) s) :
 wpAny (model prog w) A (richCompare .Gt (.int a t) (.int c u)) Q E s:=
 (PyProof.Rows.gt_int h:wpAny (model prog w) A (compareOp .Gt (.int a t) (.int c u)) Q E s)
section
open PySem.SeqAt
open PySem.AutoSeq1 (wpAny_loadPart')
open PySem.MeetsSeq PySem.MeetsSeq2 PySem.MeetsSeq3
theorem uf (l b:Addr) (items items2:Array Value) (n n2:Nat) (dd dd2:Option Addr) (sl sl2:Array (Option Value)) (ns ms:List Int) (hi:IntsAre items.toList ns) (hj:IntsAre items2.toList ms) :
 Meets (Builtin.«tuple.__gt__» ⟨[.ref l,.ref b],[]⟩)
  (fun _ R s=>s.heap.get? l=some { cls:= .type "tuple",dict:=dd,data:= .seq items n,slots:=sl }∧s.heap.get? b=some { cls:= .type "tuple",dict:=dd2,data:= .seq items2 n2,slots:=sl2 }∧
   R (.ok (.ret (.bool (lexLt ms ns)))) s):=
 .of_wp fun prog w A R s h=>by
  obtain ⟨hp,g,d,tk,os⟩:=s;obtain ⟨hl,hb,h⟩:=h
  have f2:=AutoSeq1.sub_tuple_tuple
  have z1:items.size=ns.length:=by rw [← hi.length];simp
  have z2:items2.size=ms.length:=by rw [← hj.length];simp
  wp_walk using wpAny_loadPart' hl,wpAny_loadPart' hb,wpAny_forIn_list _ (fun rest b s'=>b.1=none∧s'= ⟨hp,g,d,tk,os⟩∧∃ (vs ws:List Value) (ns' ms':List Int),rest=vs.zip ws∧
   IntsAre vs ns'∧IntsAre ws ms'∧ns'.length+items2.size=ms'.length+items.size∧R (.ok (.ret (.bool (lexLt ms' ns')))) ⟨hp,g,d,tk,os⟩) _
  case turn=>
   rintro ⟨y,x⟩ rest b s' ⟨hb',rfl,vs,ws,ns',ms',hz,KH,hwi,hlen,hR⟩
   cases KH with
   | nil=>rw [List.zip_nil_left] at hz;cases hz
   | cons a t KI=>
     cases hwi with
     | nil=>rw [List.zip_nil_right] at hz;cases hz
     | cons c u KJ=>
       rw [List.zip_cons_cons] at hz
       injection hz with hyx hrest
       injection hyx with hy hx
       subst hy hx
       rw [jc] at hR
       simp only [List.length_cons] at hlen
       obtain ⟨e,he,hiff⟩:=xV A.in1 ⟨hp,g,d,tk,os⟩ a t c u
       refine wpAny_bind (he prog w _ _ ?_)
       cases e with
       | true=>
         rw [if_pos (hiff.mp rfl).symm] at hR
         wp_walk
         exact ⟨rfl,rfl,_,_,_,_,hrest,KI,KJ,by omega,hR⟩
       | false=>
         rw [if_neg (fun q=>absurd (hiff.mpr q.symm) Bool.false_ne_true)] at hR
         have Qx:=ER A.in1 ⟨hp,g,d,tk,os⟩ a t c u prog w
         wp_walk using Qx
         exact ⟨_,rfl,by simpa using hR⟩
  case fin=>
   rintro ⟨b1,b2⟩ s' ⟨hb',rfl,vs,ws,ns',ms',hz,KH,hwi,hlen,hR⟩
   simp only at hb'
   subst hb'
   have hv:lexLt ms' ns'=decide (items.size > items2.size):=by
    cases KH with
    | nil=>
      cases hwi with
      | nil=>
        simp only [List.length_nil] at hlen
        rw [iy]
        exact (decide_eq_false (by omega)).symm
      | cons c u hw=>
        simp only [List.length_nil,List.length_cons] at hlen
        rw [jU]
        exact (decide_eq_false (by omega)).symm
    | cons a t hv=>
      cases hwi with
      | nil=>
        simp only [List.length_nil,List.length_cons] at hlen
        rw [jT]
        exact (decide_eq_true (by omega)).symm
      | cons c u hw=>
        rw [List.zip_cons_cons] at hz
        cases hz
   rw [hv] at hR
   wp_walk
   exact ⟨_,rfl,by simpa [Builtin.Tuple.tupleCompareSizes] using hR⟩
  case h=>
   exact ⟨rfl,rfl,items.toList,items2.toList,ns,ms,rfl,hi,hj,by omega,h⟩
end
section
variable {prog:Program} {w:World} {A:Around} {E:Value→Shared→Prop} {s:Shared}
theorem Ab {l b:Addr} {items items2:Array Value} {ns ms:List Int} {Q:Value→Shared→Prop} (hl:IsTup s.heap l items) (hb:IsTup s.heap b items2) (hi:IntsAre items.toList ns) (hj:IntsAre items2.toList ms)
 (hu:A.units < cLine) (h:Q (.bool (lexLt ms ns)) s):wpAny (model prog w) A (compareOp .Gt (.ref l) (.ref b)) Q E s:=by
 obtain ⟨⟨cls,dd,data,sl⟩,ho,hc,n,hd⟩:=id hl
 obtain ⟨⟨Qy,dd2,data2,sl2⟩,ho2,hc2,n2,hd2⟩:=id hb
 simp only at hc hd hc2 hd2
 subst hc hd hc2 hd2
 exact richCompare_meets_room (op:= .Gt) ⟨_,ho,rfl⟩ ⟨_,ho2,rfl⟩ PySem.F.slot_tuple_gt PySem.F.entry_tuple_gt (PySem.F.args_tuple_gt_2 _ _) (uf l b items items2 n n2 dd dd2 sl sl2 ns ms hi hj)
  ⟨ho,ho2,show Value.bool (lexLt ms ns)≠Value.notImplemented∧Q (.bool (lexLt ms ns)) s from ⟨(fun x=>nomatch x),h⟩⟩ hu
end
end HT
namespace L3
open PySem PySem.Spec PyProof.Rows L2
section
variable {X:Cx} {pos:Pos}
def Oa (c:lH) (t:jJ):jJ:=fun D ρ M=> ∃ J:En→Mp→Prop,(c ρ M fun b M1=>if b=true then t { D with nx:=fun ρ' M'=>bq (J ρ' M') } ρ M1 else bq (J ρ M1))∧∀ ρ M,J ρ M→D.nx ρ M
theorem Ob {c:Expr} {a:List Stmt} {tc:lH} {t:jJ} (hc:zE X c tc) (ha:jG X a t):xZ X (.If c a [] pos) (Oa tc t):=by
 constructor
 intro pins s σ H ρ M D I r ⟨J,q,hJ⟩
 refine cI ((dF hc ha bS).run pins s σ H ρ M { D with nx:=fun ρ' M'=>bq (J ρ' M') } I r q) fun f s' z=>?_
 cases f with
 | next=>obtain ⟨σ',H',I',ρ',M',fr,r',p⟩:=z;exact ⟨σ',H',I',ρ',M',fr,r',hJ _ _ p.out⟩
 | brk=>exact z
 | cont=>exact z
 | ret u=>exact z
theorem ng (p q:Pl):HT.lexLt [p.x,p.y] [q.x,q.y]=decide (aI p q):=by
 rw [HT.jc,HT.jc,HT.iy]
 by_cases ex:p.x=q.x
 ·rw [if_pos ex]
  by_cases ey:p.y=q.y
  ·rw [if_pos ey];exact (decide_eq_false (by unfold aI;omega)).symm
  ·rw [if_neg ey,decide_eq_decide];unfold aI;omega
 ·rw [if_neg ex,decide_eq_decide];unfold aI;omega
theorem ES {P:Program} {w:World} {K:PySem.W.Frag} {H:Hp} {h:Heap} {p:Pl} {x:V} {u:Value} (ok:i7 P w H h) (d:Dat K H p.d x) (r:RelV x u):lE h u p:=by
 obtain ⟨a,xs,rfl,ha,hx⟩:=aR.mp d
 obtain rfl:u=Value.ref a:=r
 obtain ⟨its,rv,⟨o,h1,h2,n,h3⟩,_⟩:=c6 ok ha
 obtain ⟨v1,v2,rfl,d1,d2⟩:=EA hx
 obtain rfl:=aO.mp d1
 obtain rfl:=aO.mp d2
 obtain ⟨u1,u2,rfl,⟨t1,rfl⟩,⟨t2,rfl⟩⟩:=vals2 rv
 exact ⟨a,o,t1,t2,n,rfl,h1,h2,h3⟩
theorem lE.tup {h:Heap} {v:Value} {p:Pl} (a:lE h v p):∃ (l:Addr) (its:Array Value),v= .ref l∧IsTup h l its∧IntsAre its.toList [p.x,p.y]:=by
 obtain ⟨b,o,t,u,n,h1,h2,h3,h4⟩:=a
 exact ⟨b,_,h1,⟨o,h2,h3,n,h4⟩,.cons _ _ (.cons _ _ .nil)⟩
def cX (h:Heap):List Value→List Pl→Prop:=Paired (lE h)
theorem iP {P:Program} {w:World} {K:PySem.W.Frag} {H:Hp} {h:Heap} (ok:i7 P w H h):∀ {ps:List Pl} {xs:List V} {us:List Value},aB K H (ps.map Pl.d) xs→Vals xs us→cX h us ps
 | [],xs,us,d,r=>by rw [aH.mp d] at r;cases r;exact .nil
 | p :: ps,xs,us,d,r=>by
   obtain ⟨v,vs,rfl,d1,d2⟩:=aA.mp d
   cases r with
   | cons r rr=>exact .cons (ES ok d1 r) (iP ok d2 rr)
theorem cX.get {h:Heap}:∀ {us:List Value} {ps:List Pl} {i:Nat} {u:Value},cX h us ps→us[i]?=some u→∃ p,ps[i]?=some p∧lE h u p
 | _,_,i,u,.nil,e=>by simp at e
 | _,_,i,u,.cons a r,e=>by
   cases i with
   | zero=>simp at e;subst e;exact ⟨_,rfl,a⟩
   | succ i=>exact cX.get (i:=i) r (by simpa using e)
theorem Vals.len {xs:List V} {us:List Value} (r:Vals xs us):us.length=xs.length:=(Vals.length r).symm
def bestOf (lt:Pl→Pl→Bool) (ps:List Pl) (i j:Nat):Bool:=lt (ps.getD i ⟨0,0⟩) (ps.getD j ⟨0,0⟩)
def JJ (lt:Pl→Pl→Bool):List D→Mp→DK→Prop:=fun ds M Q=> ∃ ps:List Pl,ds=ps.map Pl.d∧2≤ps.length∧ps.length≤4∧Q (ps.getD (argBest (bestOf lt ps) (ps.length - 1)) ⟨0,0⟩).d M
theorem l5 (bt:Nat→Nat→Bool):∀ n,argBest bt n≤n
 | 0=>Nat.le_refl 0
 | n+1=>by
   unfold argBest
   split
   ·exact Nat.le_refl _
   ·exact Nat.le_succ_of_le (l5 bt n)
theorem HU (a b:Value):argsOk "min" ⟨[a,b],[]⟩:=by unfold argsOk;kernel_rfl
theorem HV (a b c:Value):argsOk "min" ⟨[a,b,c],[]⟩:=by unfold argsOk;kernel_rfl
theorem HW (a b c d:Value):argsOk "min" ⟨[a,b,c,d],[]⟩:=by unfold argsOk;kernel_rfl
theorem Lj:∀ (vs:List Value),2≤vs.length→vs.length≤4→argsOk "min" ⟨vs,[]⟩:=by
 intro vs h2 h4
 cases vs with
 | nil=>exact absurd h2 (by decide)
 | cons a vs=>
   cases vs with
   | nil=>exact absurd h2 (by simp)
   | cons b vs=>
     cases vs with
     | nil=>exact HU a b
     | cons c vs=>
       cases vs with
       | nil=>exact HV a b c
       | cons d vs=>
         cases vs with
         | nil=>exact HW a b c d
         | cons e vs=>exact absurd h4 (by simp only [List.length_cons];omega)
theorem HX (a b:Value):argsOk "max" ⟨[a,b],[]⟩:=by unfold argsOk;kernel_rfl
theorem HY (a b c:Value):argsOk "max" ⟨[a,b,c],[]⟩:=by unfold argsOk;kernel_rfl
theorem HZ (a b c d:Value):argsOk "max" ⟨[a,b,c,d],[]⟩:=by unfold argsOk;kernel_rfl
theorem Lk:∀ (vs:List Value),2≤vs.length→vs.length≤4→argsOk "max" ⟨vs,[]⟩:=by
 intro vs h2 h4
 cases vs with
 | nil=>exact absurd h2 (by decide)
 | cons a vs=>
   cases vs with
   | nil=>exact absurd h2 (by simp)
   | cons b vs=>
     cases vs with
     | nil=>exact HX a b
     | cons c vs=>
       cases vs with
       | nil=>exact HY a b c
       | cons d vs=>
         cases vs with
         | nil=>exact HZ a b c d
         | cons e vs=>exact absurd h4 (by simp only [List.length_cons];omega)
theorem Ll (hu:X.A.units+64 < cLine) (hc:X.calm=true):Call3 X (.builtin "min") (JJ fun p q=>decide (aI p q)):=by
 constructor
 intro pins s σ H M xs ds us Q I rm rs dx ⟨ps,e,h2,h4,q⟩
 subst e
 have hl:us.length=ps.length:=by rw [Vals.len rs,← dx.length,List.length_map]
 have hp:=iP I.hok dx rs
 refine EN (Lj us (by omega) (by omega)) (by omega) (by omega) (I.ok.hd hc) (bt:=bestOf (fun p q=>decide (aI p q)) ps) (fun i j vi vj t Q E g e1 e2 q=>?_) fun v h' tk e g=>?_
 ·obtain ⟨p1,f1,a1⟩:=hp.get e1
  obtain ⟨p2,f2,a2⟩:=hp.get e2
  obtain ⟨l1,i1,rfl,t1,n1⟩:=(a1.grow g).tup
  obtain ⟨l2,i2,rfl,t2,n2⟩:=(a2.grow g).tup
  have eb:bestOf (fun p q=>decide (aI p q)) ps i j=decide (aI p1 p2):=by unfold bestOf;rw [List.getD_eq_getElem?_getD,List.getD_eq_getElem?_getD,f1,f2];rfl
  rw [eb,← ng] at q
  exact (HT.lV t1 t2 n1 n2 (by show X.A.units+1 < cLine;omega) q:wpAny (model X.prog X.w) X.A.in1 (compareOp .Lt (.ref l1) (.ref l2)) Q E t)
 ·rw [hl] at e
  obtain ⟨x,ex,rx⟩:∃ x,xs[argBest (bestOf (fun p q=>decide (aI p q)) ps) (ps.length - 1)]?=some x∧RelV x v:=by
   have lt:argBest (bestOf (fun p q=>decide (aI p q)) ps) (ps.length - 1) < xs.length:=by
    have:=l5 (bestOf (fun p q=>decide (aI p q)) ps) (ps.length - 1)
    rw [← dx.length,List.length_map];omega
   obtain ⟨u,eu,ru⟩:=Vals.get rs (List.getElem?_eq_getElem lt)
   rw [e] at eu
   cases eu
   exact ⟨_,List.getElem?_eq_getElem lt,ru⟩
  obtain ⟨d,ed,dd⟩:=dx.back ex
  rw [List.getElem?_map] at ed
  have eq:d=(ps.getD (argBest (bestOf (fun p q=>decide (aI p q)) ps) (ps.length - 1)) ⟨0,0⟩).d:=by
   rw [List.getD_eq_getElem?_getD]
   cases z:ps[argBest (bestOf (fun p q=>decide (aI p q)) ps) (ps.length - 1)]? with
   | none=>rw [z] at ed;cases ed
   | some p=>rw [z] at ed;cases ed;rfl
  subst eq
  exact ⟨x,H,I.kept g,rx,aD rm dd q⟩
theorem Lm (hu:X.A.units+64 < cLine) (hc:X.calm=true):Call3 X (.builtin "max") (JJ fun p q=>decide (aI q p)):=by
 constructor
 intro pins s σ H M xs ds us Q I rm rs dx ⟨ps,e,h2,h4,q⟩
 subst e
 have hl:us.length=ps.length:=by rw [Vals.len rs,← dx.length,List.length_map]
 have hp:=iP I.hok dx rs
 refine EO (Lk us (by omega) (by omega)) (by omega) (by omega) (I.ok.hd hc) (bt:=bestOf (fun p q=>decide (aI q p)) ps) (fun i j vi vj t Q E g e1 e2 q=>?_) fun v h' tk e g=>?_
 ·obtain ⟨p1,f1,a1⟩:=hp.get e1
  obtain ⟨p2,f2,a2⟩:=hp.get e2
  obtain ⟨l1,i1,rfl,t1,n1⟩:=(a1.grow g).tup
  obtain ⟨l2,i2,rfl,t2,n2⟩:=(a2.grow g).tup
  have eb:bestOf (fun p q=>decide (aI q p)) ps i j=decide (aI p2 p1):=by unfold bestOf;rw [List.getD_eq_getElem?_getD,List.getD_eq_getElem?_getD,f1,f2];rfl
  rw [eb,← ng] at q
  exact (HT.Ab t1 t2 n1 n2 (by show X.A.units+1 < cLine;omega) q:wpAny (model X.prog X.w) X.A.in1 (compareOp .Gt (.ref l1) (.ref l2)) Q E t)
 ·rw [hl] at e
  obtain ⟨x,ex,rx⟩:∃ x,xs[argBest (bestOf (fun p q=>decide (aI q p)) ps) (ps.length - 1)]?=some x∧RelV x v:=by
   have lt:argBest (bestOf (fun p q=>decide (aI q p)) ps) (ps.length - 1) < xs.length:=by
    have:=l5 (bestOf (fun p q=>decide (aI q p)) ps) (ps.length - 1)
    rw [← dx.length,List.length_map];omega
   obtain ⟨u,eu,ru⟩:=Vals.get rs (List.getElem?_eq_getElem lt)
   rw [e] at eu
   cases eu
   exact ⟨_,List.getElem?_eq_getElem lt,ru⟩
  obtain ⟨d,ed,dd⟩:=dx.back ex
  rw [List.getElem?_map] at ed
  have eq:d=(ps.getD (argBest (bestOf (fun p q=>decide (aI q p)) ps) (ps.length - 1)) ⟨0,0⟩).d:=by
   rw [List.getD_eq_getElem?_getD]
   cases z:ps[argBest (bestOf (fun p q=>decide (aI q p)) ps) (ps.length - 1)]? with
   | none=>rw [z] at ed;cases ed
   | some p=>rw [z] at ed;cases ed;rfl
  subst eq
  exact ⟨x,H,I.kept g,rx,aD rm dd q⟩
def Uo:List D→Mp→DK→Prop:=fun ds M Q=> ∃ p q:Pl,ds= [p.d,q.d]∧Q (lo p q).d M
def Up:List D→Mp→DK→Prop:=fun ds M Q=> ∃ p q:Pl,ds= [p.d,q.d]∧Q (hi p q).d M
theorem Call3.imp {f:Value} {r r':List D→Mp→DK→Prop} (h:Call3 X f r) (g:∀ ds M Q,r' ds M Q→r ds M Q):Call3 X f r':=
 ⟨fun pins s σ H M xs ds us Q I rm rs dx q=>h.run pins s σ H M xs ds us Q I rm rs dx (g _ _ _ q)⟩
theorem Oc (hu:X.A.units+64 < cLine) (hc:X.calm=true):Call3 X (.builtin "min") Uo:=(Ll hu hc).imp fun ds M Q ⟨p,q,e,h⟩=>by
 refine ⟨[p,q],e,Nat.le_refl 2,Nat.le_add_right 2 2,?_⟩
 have e: [p,q].getD (argBest (bestOf (fun p q=>decide (aI p q)) [p,q]) ([p,q].length - 1)) ⟨0,0⟩=lo p q:=by
  have a:argBest (bestOf (fun p q=>decide (aI p q)) [p,q]) ([p,q].length - 1)=if decide (aI q p)=true then 1 else 0:=rfl
  rw [a]
  unfold lo
  by_cases c:aI q p
  ·rw [if_pos c,if_pos (decide_eq_true c)];rfl
  ·rw [if_neg c,if_neg (fun z=>c (of_decide_eq_true z))];rfl
 rw [e];exact h
theorem Od (hu:X.A.units+64 < cLine) (hc:X.calm=true):Call3 X (.builtin "max") Up:=(Lm hu hc).imp fun ds M Q ⟨p,q,e,h⟩=>by
 refine ⟨[p,q],e,Nat.le_refl 2,Nat.le_add_right 2 2,?_⟩
 have e: [p,q].getD (argBest (bestOf (fun p q=>decide (aI q p)) [p,q]) ([p,q].length - 1)) ⟨0,0⟩=hi p q:=by
  have a:argBest (bestOf (fun p q=>decide (aI q p)) [p,q]) ([p,q].length - 1)=if decide (aI p q)=true then 1 else 0:=rfl
  rw [a]
  unfold hi
  by_cases c:aI p q
  ·rw [if_pos c,if_pos (decide_eq_true c)];rfl
  ·rw [if_neg c,if_neg (fun z=>c (of_decide_eq_true z))];rfl
 rw [e];exact h
noncomputable def vR (h:Heap) (v:Value):Pl:=Option.getD (α:=Pl) ((DW h).keyOf v) ⟨0,0⟩
theorem BC {h:Heap} {v:Value} {p:Pl} (a:lE h v p):vR h v=p:=by
 unfold vR
 have e:(DW h).keyOf v=some p:=BB a
 exact congrArg (fun o=>Option.getD (α:=Pl) o ⟨0,0⟩) e
theorem cX.keys {h:Heap}:∀ {us:List Value} {ps:List Pl},cX h us ps→us.map (vR h)=ps
 | _,_,.nil=>rfl
 | _,_,.cons a r=>by rw [List.map_cons,BC a,cX.keys r]
theorem cX.mem {h:Heap}:∀ {us:List Value} {ps:List Pl} {v:Value},cX h us ps→v∈us→∃ p,lE h v p
 | _,_,v,.nil,m=>by cases m
 | _,_,v,.cons a r,m=>by
   rcases List.mem_cons.mp m with rfl | m
   ·exact ⟨_,a⟩
   ·exact cX.mem r m
theorem bT {α:Type}:∀ {vs:List α} {p:α ×α},p∈vs.zip vs→p.1=p.2∧p.1∈vs
 | [],p,m=>by simp at m
 | v :: vs,p,m=>by
   rw [List.zip_cons_cons] at m
   rcases List.mem_cons.mp m with rfl | m
   ·exact ⟨rfl,List.mem_cons_self ..⟩
   ·exact ⟨(bT m).1,List.mem_cons_of_mem _ (bT m).2⟩
theorem ug {P:Program} {w:World} {A:Around} {E:Value→Shared→Prop} {s:Shared} {l:Addr} {vs:List Value} {ps:List Pl} {Q:Value→Shared→Prop} (hl:s.heap.IsList l vs.toArray) (hv:cX s.heap vs ps) (h64:vs.length < 64)
 (h:∀ (out:List Value) (qs:List Pl),(∀ v∈out,v∈vs)→qs=out.map (vR s.heap)→qs.Perm ps→qs.Pairwise (fun p q=> ¬ aI q p)→Q (.ref (s.heap.objs.size+1)) { s with heap:=sortedAll s.heap vs out.toArray }) :
 wpAny (model P w) A (call (.builtin "sorted") [.ref l]) Q E s:=by
 have hk:KeysOf (DW s.heap) (pairsOf vs):=fun p hp=>by
  rw [pairsOf_toList] at hp
  obtain ⟨q,a⟩:=hv.mem (bT hp).2
  exact ⟨q,BB a⟩
 refine uT (κ:=DW s.heap) (kd:=tuples' true) hl hk (fun t E Q g h2 q=>HS (by omega) (fun v m=>?_) q) (fun t g=>Lg g true) h64 fun y hp hs=>?_
 ·obtain ⟨p,a⟩:=hv.mem m
  exact ⟨p,a.grow g⟩
 ·have pl:y.toList.Perm (vs.zip vs):=by rw [← pairsOf_toList];exact Array.perm_iff_toList_perm.mp hp
  have same:∀ p∈y.toList,p.1=p.2∧p.1∈vs:=fun p m=>bT (pl.mem_iff.mp m)
  have eo:y.map (·.2)=(y.toList.map (·.2)).toArray:=by rw [← Array.toList_map,Array.toArray_toList]
  rw [eo]
  refine h (y.toList.map (·.2)) _ (fun v m=>?_) rfl ?_ ?_
  ·obtain ⟨p,m2,rfl⟩:=List.mem_map.mp m
   rw [← (same p m2).1];exact (same p m2).2
  ·have q:=(pl.map (fun p=>p.2)).map (vR s.heap)
   have e:(vs.zip vs).map (fun p=>p.2)=vs:=List.map_snd_zip (Nat.le_refl _)
   rw [e,hv.keys] at q
   exact q
  ·rw [List.pairwise_iff_getElem]
   intro i j hi hj hij
   have li:i < y.size:=by simpa using hi
   have lj:j < y.size:=by simpa using hj
   have q:=hs i j (Nat.le_of_lt hij) (by rw [← hp.size_eq];exact lj)
   have key:∀ k (hk:k < y.size),KK (DW s.heap) y k=vR s.heap y[k].2:=fun k hk=>by
    unfold KK
    rw [getElem?_pos y k hk]
    show Option.getD (α:=Pl) ((DW s.heap).keyOf y[k].1) ⟨0,0⟩=_
    rw [(same y[k] (by simp)).1]
    rfl
   have q:(DW s.heap).blt (KK (DW s.heap) y j) (KK (DW s.heap) y i)=false:=q
   rw [key i li,key j lj] at q
   have q:decide (aI (vR s.heap y[j].2) (vR s.heap y[i].2))=false:=q
   simpa using of_decide_eq_false q
def Ia:List D→Mp→DK→Prop:=fun ds M Q=> ∃ (l:Addr) (ps:List Pl),ds= [.ref l]∧M l=some (.lst (ps.map Pl.d))∧ps.length < 64∧∀ (p:Addr) (qs:List Pl),M p=none→qs.Perm ps→qs.Pairwise (fun p q=> ¬ aI q p)→Q (.ref p) (ay M p (.lst (qs.map Pl.d)))
theorem uW {K:PySem.W.Frag} {H:Hp} {h:Heap} {P:Program} {w:World} (ok:i7 P w H h) {ps:List Pl} {zs:List V} {vs:List Value} (d:aB K H (ps.map Pl.d) zs) (r:Vals zs vs):∀ (out:List Value),(∀ v∈out,v∈vs)→
 ∃ ws,Vals ws out∧aB K H ((out.map (vR h)).map Pl.d) ws
 | [],_=>⟨[],.nil,aH.mpr rfl⟩
 | v :: out,m=>by
   obtain ⟨ws,h1,h2⟩:=uW ok d r out fun u hu=>m u (List.mem_cons_of_mem _ hu)
   have one:∀ {ps:List Pl} {zs:List V} {vs:List Value},aB K H (ps.map Pl.d) zs→Vals zs vs→v∈vs→∃ (p:Pl) (x:V),RelV x v∧Dat K H p.d x:=by
    intro ps
    induction ps with
    | nil=>intro zs vs d r m;rw [aH.mp d] at r;cases r;cases m
    | cons p ps ih=>
      intro zs vs d r m
      obtain ⟨x,xs,rfl,d1,d2⟩:=aA.mp d
      cases r with
      | cons r1 r2=>
        rcases List.mem_cons.mp m with rfl | m
        ·exact ⟨p,x,r1,d1⟩
        ·exact ih d2 r2 m
   obtain ⟨p,x,rx,dx⟩:=one d r (m v (List.mem_cons_self ..))
   refine ⟨x :: ws,.cons rx h1,?_⟩
   rw [List.map_cons,List.map_cons,BC (ES ok dx rx)]
   exact aA.mpr ⟨x,ws,rfl,dx,h2⟩
theorem j4:Call3 X (.builtin "sorted") Ia:=by
 constructor
 intro pins s σ H M xs ds us Q I rm rs dx ⟨l,ps,e,hM,h64,q⟩
 subst e
 obtain ⟨v,rfl,hv⟩:=pR dx
 obtain rfl:=aK.mp hv
 obtain ⟨u,rfl,r1⟩:=vals1 rs
 obtain rfl:u=Value.ref l:=r1
 obtain ⟨zs,hH,hz⟩:=rm.lst hM
 obtain ⟨its,rv,pl,hsz⟩:=I.list (jb.of (K:=X.K) hH)
 have hl:its.length=ps.length:=by rw [Vals.len rv,← hz.length,List.length_map]
 refine ug pl.isList (iP I.hok hz rv) (by omega) fun out qs hm eq hp hs=>?_
 obtain ⟨ws,w1,w2⟩:=uW I.hok hz rv out hm
 rw [← eq] at w2
 obtain ⟨n,hn⟩:=sortedAll_at s.heap its out.toArray
 have fr:H (s.heap.objs.size+1)=none:=I.hok.fresh (Nat.le_succ _)
 have zw:ws.length≤sizeLine:=by
  rw [← w2.length,List.length_map,hp.length_eq,sizeLine_eq];omega
 refine ⟨.ref (s.heap.objs.size+1),upd H (s.heap.objs.size+1) (.lst ws),I.laid (t':=s.toks) (fun b o e=>sortedAll_old e) (Nat.le_succ _) ⟨zw,out,n,w1,hn⟩,rfl,.ref _,ay M _ (.lst (qs.map Pl.d)),Fr.new fr fun _ hb=>aP hb,aK.mpr rfl,rm.newL fr w2,q _ _ (rm.free fr) hp hs⟩
end
end L3
local macro_rules | `(tactic| walk_at "sm")=> `(tactic| first | assumption | exact L3.Sm.sign _ | exact L3.Sm.zero | exact L3.Sm.one | exact L3.Sm.two | ((with_reducible apply L3.Sm.mul) <;> walk_at "sm") | ((with_reducible apply L3.Sm.sub) <;> walk_at "sm") | ((with_reducible apply L3.Sm.add) <;> walk_at "sm") | ((with_reducible apply L3.Sm.neg) <;> walk_at "sm") | ((with_reducible apply L3.Sm.abs) <;> walk_at "sm") | ((with_reducible apply L3.Sm.emod);(first | omega | decide +kernel);walk_at "sm") | exact L3.Sm.lit _)
local macro_rules | `(tactic| walk_at "mulok")=> `(tactic| (apply L3.MulOk.of;walk_at "sm";walk_at "sm";first | omega | decide +kernel))
local macro_rules | `(tactic| walk_at "rd1")=> `(tactic| first | refine ⟨_,rfl,?_⟩ | refine ⟨_,_,rfl,rfl,?_⟩ | refine ⟨_,_,_,Or.inl rfl,rfl,rfl,?_⟩ | (refine ⟨?side,?_⟩;(case side=>first | walk_at "mulok" | (simp only [List.length_cons,List.length_nil];decide) | (show (0:Int) < _;first | omega | (dsimp only;omega) | decide +kernel) | (show (0:Int)≤_;first | omega | (dsimp only;omega)) | exact ⟨by decide +kernel,by decide +kernel,by decide +kernel⟩ | exact ⟨by decide +kernel,_,L3.Sm.lit _,by decide +kernel⟩ | (left;walk_at "mulok") | exact Or.inr (Or.inr ⟨by decide,by decide⟩) | decide)) | refine ⟨rfl,?_⟩ | refine ⟨trivial,?_⟩ | refine ⟨_,Or.inl rfl,rfl,?_⟩ | refine ⟨_,_,rfl,Or.inl rfl,?_⟩ | refine ⟨_,_,_,_,rfl,L3.EB.int _,L3.m7,?_⟩ | refine ⟨_,_,_,_,rfl,L3.EB.tup _,L3.m7,?_⟩ | refine ⟨_,_,_,_,rfl,L3.EB.bl _,L3.m7,?_⟩ | refine ⟨_,_,rfl,?_⟩ | refine ⟨_,_,_,rfl,?_⟩ | refine ⟨_,_,_,_,rfl,?_⟩)
local macro_rules | `(tactic| walk_at "rd")=> `(tactic| repeat walk_at "rd1")
local macro_rules | `(tactic| walk_at "smle")=> `(tactic| (apply L3.Sm.le;walk_at "sm";first | omega | decide +kernel))
local macro_rules | `(tactic| walk_at "om")=> `(tactic| first | omega | (dsimp only;omega))
namespace L3
open PySem L2
theorem yf {a b c:Pl} (ha:a.Ok 140) (hb:b.Ok 140) (hc:c.Ok 140):Sm 290 (tw a b c):=by
 obtain ⟨a1,a2⟩:=ha
 obtain ⟨b1,b2⟩:=hb
 obtain ⟨c1,c2⟩:=hc
 unfold tw
 walk_at "smle"
theorem Ac {p q:Pl} (hp:p.Ok 140) (hq:q.Ok 140):Sm 290 (xM p q):=by
 obtain ⟨p1,p2⟩:=hp
 obtain ⟨q1,q2⟩:=hq
 unfold xM
 walk_at "smle"
theorem Q6 (a b c d:Pl):inD d.d [a.d,b.d,c.d]=decide (d=a∨d=b∨d=c):=by
 unfold inD
 rw [List.any_cons,List.any_cons,List.any_cons,List.any_nil,jX,jX,jX,Bool.or_false,Bool.eq_iff_iff]
 simp only [Bool.or_eq_true,decide_eq_true_eq]
 grind
theorem iQ {α:Type} {qs:List α} (h:qs.length=3):∃ u v w,qs= [u,v,w]:=by
 match qs,h with
 | [u,v,w],_=>exact ⟨u,v,w,rfl⟩
theorem ET {α:Type} {v w b c:α} (h: [v,w].Perm [b,c]):(v=b∧w=c)∨(v=c∧w=b):=by
 have m:v∈[b,c]:=h.mem_iff.mp (by simp)
 rcases List.mem_cons.mp m with rfl | m
 ·exact .inl ⟨rfl,by have:=(List.perm_cons v).mp h;simpa using this⟩
 ·have:=List.mem_singleton.mp m
  subst this
  have h2:=(List.perm_cons v).mp (h.trans (List.Perm.swap v b []))
  exact .inr ⟨rfl,by simpa using h2⟩
theorem uX {α:Type} {u v w a b c:α} (h: [u,v,w].Perm [a,b,c]):(u=a∧v=b∧w=c)∨(u=a∧v=c∧w=b)∨(u=b∧v=a∧w=c)∨(u=b∧v=c∧w=a)∨(u=c∧v=a∧w=b)∨(u=c∧v=b∧w=a):=by
 have m:u∈[a,b,c]:=h.mem_iff.mp (by simp)
 rcases List.mem_cons.mp m with rfl | m
 ·rcases ET ((List.perm_cons u).mp h) with ⟨e1,e2⟩ | ⟨e1,e2⟩
  ·exact .inl ⟨rfl,e1,e2⟩
  ·exact .inr (.inl ⟨rfl,e1,e2⟩)
 ·rcases List.mem_cons.mp m with rfl | m
  ·have h2:=(List.perm_cons u).mp (h.trans (List.Perm.swap u a [c]))
   rcases ET h2 with ⟨e1,e2⟩ | ⟨e1,e2⟩
   ·exact .inr (.inr (.inl ⟨rfl,e1,e2⟩))
   ·exact .inr (.inr (.inr (.inl ⟨rfl,e1,e2⟩)))
  ·have:=List.mem_singleton.mp m
   subst this
   have h2:=(List.perm_cons u).mp (h.trans ((List.Perm.cons a (List.Perm.swap u b [])).trans (List.Perm.swap u a [b])))
   rcases ET h2 with ⟨e1,e2⟩ | ⟨e1,e2⟩
   ·exact .inr (.inr (.inr (.inr (.inl ⟨rfl,e1,e2⟩))))
   ·exact .inr (.inr (.inr (.inr (.inr ⟨rfl,e1,e2⟩))))
theorem rL {n:Nat} {u v w a b c:Pl} (h: [u,v,w].Perm [a,b,c]) (ha:a.Ok n) (hb:b.Ok n) (hc:c.Ok n):u.Ok n∧v.Ok n∧w.Ok n:=by
 rcases uX h with ⟨rfl,rfl,rfl⟩ | ⟨rfl,rfl,rfl⟩ | ⟨rfl,rfl,rfl⟩ | ⟨rfl,rfl,rfl⟩ | ⟨rfl,rfl,rfl⟩ | ⟨rfl,rfl,rfl⟩ <;> exact ⟨by assumption,by assumption,by assumption⟩
theorem EU {u v w a b c d:Pl} (h: [u,v,w].Perm [a,b,c]):gS u v w d↔gS a b c d:=by
 rcases uX h with ⟨rfl,rfl,rfl⟩ | ⟨rfl,rfl,rfl⟩ | ⟨rfl,rfl,rfl⟩ | ⟨rfl,rfl,rfl⟩ | ⟨rfl,rfl,rfl⟩ | ⟨rfl,rfl,rfl⟩
 ·exact Iff.rfl
 ·exact HN _ _ _ _
 ·exact rH _ _ _ _
 ·exact gW _ _ _ _
 ·exact (gW _ _ _ _).trans (gW _ _ _ _)
 ·exact (rH _ _ _ _).trans (gW _ _ _ _)
theorem Ib {u v w a b c d:Pl} (h: [u,v,w].Perm [a,b,c]):rg u v w d=rg a b c d:=by
 have mid:∀ a b c d,rg a c b d=rg a b c d:=fun a b c d=>by rw [← jZ a c b d,m8 b c a d,jZ]
 rcases uX h with ⟨rfl,rfl,rfl⟩ | ⟨rfl,rfl,rfl⟩ | ⟨rfl,rfl,rfl⟩ | ⟨rfl,rfl,rfl⟩ | ⟨rfl,rfl,rfl⟩ | ⟨rfl,rfl,rfl⟩
 ·rfl
 ·exact mid _ _ _ _
 ·exact m8 _ _ _ _
 ·exact jZ _ _ _ _
 ·exact (jZ _ _ _ _).trans (jZ _ _ _ _)
 ·exact (m8 _ _ _ _).trans (jZ _ _ _ _)
theorem uY {a b c d u v w:Pl} (hn:tw a b c≠0) (h0:rg a b c d=0) (hd:¬ (d=a∨d=b∨d=c)) (hp: [u,v,w].Perm [a,b,c]) (s1:¬ aI v u) (s2:¬ aI w u) :
 decide (gS a b c d)=if aI d u then true else decide ((tw v w d).sign≠(tw v w u).sign):=by
 have nab:a≠b:=fun e=>by subst e;rw [gp] at hn;exact hn rfl
 have Ws:a≠c:=fun e=>by subst e;rw [gq] at hn;exact hn rfl
 have Wt:b≠c:=fun e=>by subst e;rw [rD] at hn;exact hn rfl
 have ho:(u≠v∧u≠w)∧(d≠u∧d≠v∧d≠w):=by
  rcases uX hp with ⟨rfl,rfl,rfl⟩ | ⟨rfl,rfl,rfl⟩ | ⟨rfl,rfl,rfl⟩ | ⟨rfl,rfl,rfl⟩ | ⟨rfl,rfl,rfl⟩ | ⟨rfl,rfl,rfl⟩ <;> grind
 obtain ⟨⟨n1,n2⟩,e1,e2,e3⟩:=ho
 have b1:aI u v:=by rcases iA n1 with z | z;exact z;exact absurd z s1
 have b2:aI u w:=by rcases iA n2 with z | z;exact z;exact absurd z s2
 have e:decide (gS a b c d)=decide (gS u v w d):=by rw [decide_eq_decide];exact (EU hp).symm
 rw [e]
 have h1:rg u v w d=0:=by rw [Ib hp];exact h0
 by_cases k:aI d u
 ·rw [if_pos k]
  exact decide_eq_true (.inr ⟨h1,e1,e2,e3,.inl ⟨k,bP k b1,bP k b2⟩⟩)
 ·rw [if_neg k,decide_eq_decide]
  have k2:aI u d:=by rcases iA e1 with z | z;exact absurd z k;exact z
  unfold gS
  rw [h1]
  constructor
  ·rintro (z | ⟨_,_,_,_,z | z | z | z⟩)
   ·cases z
   ·exact absurd z.1 k
   ·exact z.2.2.2
   ·exact absurd z.1 s1
   ·exact absurd z.1 s2
  ·intro z
   exact .inr ⟨rfl,e1,e2,e3,.inr (.inl ⟨b1,b2,k2,z⟩)⟩
theorem Ae {a b c d u v w:Pl} (hn:tw a b c≠0) (h0:rg a b c d=0) (hd:¬ (d=a∨d=b∨d=c)) (hp: [u,v,w].Perm [a,b,c]) (hs: [u,v,w].Pairwise (fun p q=> ¬ aI q p)) :
 decide (gS a b c d)=if aI d u then true else decide ((tw v w d).sign≠(tw v w u).sign):=
 uY hn h0 hd hp ((List.pairwise_cons.mp hs).1 v (by simp)) ((List.pairwise_cons.mp hs).1 w (by simp))
instance (p q r s:Pl):Decidable (Uk p q r s):=inferInstanceAs (Decidable (_∨_))
theorem EV (i j:Int):(!cZ (.int i) (.int j))=decide (i≠j):=by
 rw [cA,Bool.eq_iff_iff]
 simp
theorem gb (qs:List Pl):(qs.map Pl.d).all (plain 9)=true:=by
 rw [List.all_map,List.all_eq_true]
 intro q _
 rfl
end L3
namespace L3
open PySem PySem.Spec PyProof.Rows L2
def cP (cells:List (Str ×Addr)) (names:List (Str ×NameKind)) (cs:List (Str ×Addr)):List (Str ×Addr):=
 names.foldl (fun cs y=>if (y.2 == NameKind.free)=true then (y.1,(cells.lookup y.1).getD 0) :: cs else cs) cs
theorem rM {α β:Type} {f:α→β→Sem (ForInStep β)} {g:β→α→β}:∀ {l:List α} {b:β},(∀ x∈l,∀ b,f x b=pure (.yield (g b x)))→forIn l b f=(pure (l.foldl g b):Sem β)
 | [],b,_=>rfl
 | x :: l,b,h=>by
   rw [List.forIn_cons,h x (List.mem_cons_self ..),pure_bind]
   exact rM fun y hy=>h y (List.mem_cons_of_mem _ hy)
theorem Af {sc:Scope} {env:Env} (h:∀ y∈sc.names,y.2= .free→∃ c,env.cells.lookup y.1=some c):closureFor sc env=pure (cP env.cells sc.names []):=by
 unfold closureFor cP
 dsimp only
 rw [rM (g:=fun cs y=>if (y.2 == NameKind.free)=true then (y.1,(env.cells.lookup y.1).getD 0) :: cs else cs)]
 ·rfl
 ·rintro ⟨n,k⟩ hy b
  by_cases hk:k= .free
  ·subst hk
   obtain ⟨c,hc⟩:=h _ hy rfl
   have hc:env.cells.lookup n=some c:=hc
   simp [cellOf,hc]
  ·have hb:(k == NameKind.free)=false:=by simpa using hk
   simp [hb]
theorem pT {cells:List (Str ×Addr)} {x:Str} {c:Addr}:∀ {names:List (Str ×NameKind)} {cs:List (Str ×Addr)},(∀ y∈names,y.2= .free→∃ c,cells.lookup y.1=some c)→(∀ x c,cs.lookup x=some c→cells.lookup x=some c)→
 (cP cells names cs).lookup x=some c→cells.lookup x=some c
 | [],cs,_,h,e=>h x c e
 | (n,k) :: r,cs,hf,h,e=>by
   refine pT (names:=r) (cs:=if (k == NameKind.free)=true then (n,(cells.lookup n).getD 0) :: cs else cs) (fun y hy=>hf y (List.mem_cons_of_mem _ hy)) (fun x c q=>?_) e
   split at q
   ·rename_i hk
    rw [List.lookup_cons] at q
    split at q
    ·rename_i hx
     have hx:=eq_of_beq hx
     subst hx
     obtain ⟨c',hc⟩:=hf (x,k) (List.mem_cons_self ..) (eq_of_beq hk)
     have hc:cells.lookup x=some c':=hc
     rw [hc] at q
     rw [hc];exact q
    ·exact h x c q
   ·exact h x c q
theorem pU {cells:List (Str ×Addr)} {x:Str}:∀ {names:List (Str ×NameKind)} {cs:List (Str ×Addr)},((cs.lookup x).isSome=true∨(x,NameKind.free)∈names)→((cP cells names cs).lookup x).isSome=true
 | [],cs,h=>by
   rcases h with h | h
   ·exact h
   ·cases h
 | (n,k) :: r,cs,h=>by
   refine pU (names:=r) (cs:=if (k == NameKind.free)=true then (n,(cells.lookup n).getD 0) :: cs else cs) ?_
   rcases h with h | h
   ·left
    split
    ·rw [List.lookup_cons]
     split
     ·rfl
     ·exact h
    ·exact h
   ·rcases List.mem_cons.mp h with e | h
    ·left
     cases e
     simp [List.lookup_cons]
    ·exact .inr h
theorem mem_of_lookup {β:Type} {x:Str} {b:β}:∀ {l:List (Str ×β)},l.lookup x=some b→(x,b)∈l
 | [],h=>by cases h
 | (n,c) :: r,h=>by
   rw [List.lookup_cons] at h
   split at h
   ·rename_i hx
    cases h
    have:=eq_of_beq hx
    subst this
    exact List.mem_cons_self ..
   ·exact List.mem_cons_of_mem _ (mem_of_lookup h)
def bx (outer:Scope) (N:List Str) (sc:Scope) (x:Str) (ys:List Str) (fs:List Nat):Bool:=
 (sc.kind == .function) && (outer.kind == .function) && sc.names.all (fun y=>!(y.2 == .cell) && (!(y.2 == .local) || sc.names.lookup y.1 == some .local) && (!(y.2 == .free) || outer.names.lookup y.1 == some .cell)) && (sc.names.lookup x == some .local) &&
  decide (ys.length=fs.length) && (ys.zip fs).all (fun p=>N[p.2]? == some p.1 && sc.names.lookup p.1 == some .free) && decide (x :: ys).Nodup
structure rN (outer:Scope) (N:List Str) (sc:Scope) (x:Str) (ys:List Str) (fs:List Nat):Prop where
 kind:sc.kind= .function
 Oe:outer.kind= .function
 EW:∀ y∈sc.names,y.2≠ .cell
 names:∀ y∈sc.names,y.2= .local→sc.names.lookup y.1=some .local
 Px:∀ y∈sc.names,y.2= .free→outer.names.lookup y.1=some .cell
 loc:sc.names.lookup x=some .local
 len:ys.length=fs.length
 at':∀ (k:Nat) y,ys[k]?=some y→∃ i,fs[k]?=some i∧N[i]?=some y∧sc.names.lookup y=some .free
 nd:(x :: ys).Nodup
theorem rN.of {outer:Scope} {N:List Str} {sc:Scope} {x:Str} {ys:List Str} {fs:List Nat} (h:bx outer N sc x ys fs=true):rN outer N sc x ys fs:=by
 unfold bx at h
 simp only [Bool.and_eq_true,List.all_eq_true,decide_eq_true_eq] at h
 obtain ⟨⟨⟨⟨⟨⟨h1,Q7⟩,h2⟩,h3⟩,h4⟩,h5⟩,h6⟩:=h
 refine ⟨eq_of_beq h1,eq_of_beq Q7,fun y hy z=>?_,fun y hy z=>?_,fun y hy z=>?_,eq_of_beq h3,h4,fun k y e=>?_,h6⟩
 ·have:=(h2 y hy).1.1
  rw [z] at this
  simp at this
 ·have:=(h2 y hy).1.2
  rw [z] at this
  simpa using this
 ·have:=(h2 y hy).2
  rw [z] at this
  simpa using this
 ·have hk:k < fs.length:=by rw [← h4];exact (List.getElem?_eq_some_iff.mp e).1
  have ez:(ys.zip fs)[k]?=some (y,fs[k]):=by
   rw [List.getElem?_zip_eq_some]
   exact ⟨e,List.getElem?_eq_getElem hk⟩
  obtain ⟨q1,q2⟩:=h5 _ (List.mem_of_getElem? ez)
  exact ⟨fs[k],List.getElem?_eq_getElem hk,eq_of_beq q1,eq_of_beq q2⟩
theorem nh {env:Env} {y:Str} (hk:env.scope.kind= .function) (hc:env.scope.names.lookup y=some .cell):∀ {names:List (Str ×NameKind)},names.lookup y=some .free→
 (names.map fun (n,k)=>if (k == NameKind.free && env.scope.kind == .function && env.kindOf n == some .cell) then (n,NameKind.cell) else (n,k)).lookup y=some .cell
 | [],h=>by cases h
 | (n,k) :: r,h=>by
   rw [List.lookup_cons] at h
   split at h
   ·rename_i hx
    cases h
    have:=eq_of_beq hx
    subst this
    have hc:env.kindOf y=some .cell:=hc
    simp [hk,hc,List.lookup_cons]
   ·rename_i hx
    have ih:=nh hk hc h
    simp only [List.map_cons]
    split
    ·rw [List.lookup_cons,hx];exact ih
    ·rw [List.lookup_cons,hx];exact ih
abbrev uZ (X:Cx) (sc:Scope) (x:Str) (ys:List Str) (cl:List (Str ×Addr)) (C:Addr) (s0:Shared) (H0:Hp) (ex:List Addr):Cx:=
 { X with N:=x :: ys,s₀:=s0,H₀:=H0,env:=compEnvC sc cl C X.env,outer:=X.stack,ex:=ex,fn:=fun _=>false,pn:=[],xe:=fun _ _=>False }
structure MF (X:Cx) (ifs:List Expr) (t:lH):Prop where
 run:∀ (pins:List (Addr ×Obj)) (s:Shared) (σ:St) (H:Hp) (ρ:En) (M:Mp) (Q:Bool→Mp→Prop),Inv X pins σ H s→Rep X.K H σ ρ M→t ρ M Q→
  wpAny (model X.prog X.w) X.A (forIn ifs true fun c r=>if r=true then do { let ok ← isTrue c X.env (eval c X.env);pure (ForInStep.yield ok) } else pure (ForInStep.yield r)) (TP X pins σ (pP X.K M H Q)) X.xe s
def Q8:lH:=fun _ M Q=>Q true M
theorem pV {X:Cx}:MF X [] Q8:=⟨fun pins s σ H ρ M Q I r q=>wpAny_tests_nil ⟨H,I,M,.refl _ _,r.mem,q⟩⟩
theorem pW {X:Cx} {c:Expr} {t:lH} (h:zE X c t):MF X [c] t:=⟨fun pins s σ H ρ M Q I r q=>wpAny_tests_one (h.run pins s σ H ρ M Q I r q)⟩
def ni (gd:Mp→Prop) (tt:lH) (te:cK) (fr:En) (Q:List D→Mp→Prop):List D→List D→Mp→Prop
 | [],acc,M=>gd M∧Q acc M
 | d :: ds,acc,M=>gd M∧tt (some d :: fr) M fun b M1=>if b=true then te (some d :: fr) M1 fun y M2=>ni gd tt te fr Q ds (acc ++ [y]) M2 else ni gd tt te fr Q ds acc M1
def nk (fs:List Nat) (ρ:En):En:=fs.map fun i=>(ρ[i]?).join
section
variable {X:Cx} {sc:Scope} {x:Str} {ys:List Str} {fs:List Nat}
theorem EX {fs:List Nat} {ρ:En} {k:Nat} {d:D} (h:(nk fs ρ)[k]?=some (some d)):∃ i,fs[k]?=some i∧ρ[i]?=some (some d):=by
 unfold nk at h
 rw [List.getElem?_map] at h
 cases e:fs[k]? with
 | none=>rw [e] at h;cases h
 | some i=>
   rw [e] at h
   refine ⟨i,rfl,?_⟩
   have h:(ρ[i]?).join=some d:=Option.some.inj h
   cases q:ρ[i]? with
   | none=>rw [q] at h;cases h
   | some o=>rw [q] at h;rw [show o=some d from h]
theorem CP {pins:List (Addr ×Obj)} {σ:St} {H:Hp} {s s':Shared} {C:Addr} {fp:List Addr} {cl:List (Str ×Addr)} {ρ:En} {M:Mp} (ck:rN X.env.scope X.N sc x ys fs) (I:Inv X pins σ H s) (r:Rep X.K H σ ρ M) (hcl:cl=cP X.env.cells sc.names [])
 (hC:s.heap.objs.size≤C) (old:∀ b o,s.heap.get? b=some o→s'.heap.get? b=some o) (ns:∃ m,s'.heap.Ns C m) (hos:s'.os=s.os) (hg:s'.gens=s.gens) (hf:∀ b∈fp,jF X pins H b) (hfp:∀ b∈fp,b < s.heap.objs.size) :
 ∃ σ',Inv (uZ X sc x ys cl C s H fp) [] σ' H s'∧Rep X.K H σ' (none :: nk fs ρ) M:=by
 have EY:∀ y∈sc.names,y.2= .free→∃ c,X.env.cells.lookup y.1=some c:=fun y hy hk=>I.ok.has y.1 (.inl (ck.Px y hy hk))
 have cf:∀ {y c},cl.lookup y=some c→X.env.cells.lookup y=some c:=fun {y c} e=>by rw [hcl] at e;exact pT EY (fun _ _ z=>by cases z) e
 have ch:∀ y,sc.names.lookup y=some .free→∃ c,cl.lookup y=some c:=fun y e=>by rw [hcl];exact Option.isSome_iff_exists.mp (pU (.inr (mem_of_lookup e)))
 have rk:∀ y k,(relabel sc X.env).names.lookup y=some k→(k= .cell∨k= .free)→∃ c,cl.lookup y=some c:=by
  intro y k e hk
  have:∃ k',sc.names.lookup y=some k'∧(k'=k∨k'= .free):=by
   clear ck EY cf ch
   revert e
   show (sc.names.map _).lookup y=some k→_
   generalize sc.names=names
   intro e
   induction names with
   | nil=>cases e
   | cons p r ih=>
     obtain ⟨n,kn⟩:=p
     simp only [List.map_cons] at e
     rw [List.lookup_cons]
     split
     ·rename_i hx
      split at e
      ·rename_i hc
       refine ⟨kn,rfl,.inr ?_⟩
       simp only [Bool.and_eq_true] at hc
       exact eq_of_beq hc.1.1
      ·rw [List.lookup_cons,hx] at e
       exact ⟨kn,rfl,.inl (Option.some.inj e)⟩
     ·rename_i hx
      split at e <;> (rw [List.lookup_cons,hx] at e;exact ih e)
  obtain ⟨k',e',hk'⟩:=this
  rcases hk' with rfl | rfl
  ·rcases hk with rfl | rfl
   ·exact absurd rfl (ck.EW _ (mem_of_lookup e'))
   ·exact ch y e'
  ·exact ch y e'
 have lfp:∀ b∈fp,b≠C:=fun b hb z=>absurd (Nat.lt_of_lt_of_le (hfp b hb) hC) (by rw [z];exact Nat.lt_irrefl _)
 have ok:(uZ X sc x ys cl C s H fp).Ok:={
  mod:=I.ok.mod
  kind:=ck.kind
  glob:=I.ok.glob
  blt:=I.ok.blt
  above:=hC
  inj:=fun a b c e1 e2=>I.ok.inj a b c (cf e1) (cf e2)
  has:=fun y hy=>by
   rcases hy with hy | hy
   ·exact rk y _ hy (.inl rfl)
   ·exact rk y _ hy (.inr rfl)
  My:=fun _ _ z=>by cases z
  hd:=I.ok.hd
  frames:=I.ok.frames
  stk:= .inl rfl
  MP:=fun b hb=>⟨lfp b hb,fun y c e=>(hf b hb).2.2.2.2.1 y c (cf e)⟩
  bs:=I.bs
  Ju:=Nat.le_trans I.ok.Ju I.sz
  Cq:=fun b o e hb=>by
   rcases (hf b hb).2.2.2.1 with z | z
   ·exact I.ok.Cq b o e z
   ·exact absurd (Nat.lt_of_lt_of_le (Heap.lt_size (I.ok.bs b o e).1) z) (Nat.lt_irrefl _)
  Cr:=fun b hb z=>by
   rcases List.mem_cons.mp (I.zN b z) with e | e
   ·exact (hf b hb).2.1 e
   ·exact (hf b hb).2.2.1 e
  qb:=I.stack
  J8:=I.Bc }
 have fC:H C=none:=I.hok.fresh hC
 obtain ⟨m,hm⟩:=ns
 refine ⟨none :: fs.map (fun i=>(σ[i]?).join),⟨ok,hos,by rw [hg];exact I.bare,Un.kept old,⟨m,hm,fun i y v e1 e2 e3=>?_⟩,fun y c e=>?_,fC,fun y c e=>I.lG y c (cf e),fun p hp=>(by cases hp),I.hok.kept old,by simp [ck.len]⟩,⟨fun i d e=>?_,?_,r.mem⟩⟩
 ·cases i with
  | zero=>cases e2
  | succ i=>
    have e1:ys[i]?=some y:=e1
    obtain ⟨j,f1,f2,f3⟩:=ck.at' i y e1
    have e2:(fs.map fun i=>(σ[i]?).join)[i]?=some (some v):=e2
    rw [List.getElem?_map,f1] at e2
    have e2:(σ[j]?).join=some v:=Option.some.inj e2
    have e4:σ[j]?=some (some v):=by
     cases q:σ[j]? with
     | none=>rw [q] at e2;cases e2
     | some o=>rw [q] at e2;rw [show o=some v from e2]
    have hc:X.env.scope.names.lookup y=some .cell:=ck.Px (y,.free) (mem_of_lookup f3) rfl
    obtain ⟨m0,_,hl⟩:=I.loc
    obtain ⟨u,ru,lk⟩:=hl j y v f2 e4 (.inr (.inl hc))
    refine ⟨u,ru,?_⟩
    rcases lk with ⟨k1,_⟩ | ⟨_,c,e5,e6⟩
    ·have k1:X.env.scope.names.lookup y=some .local:=k1
     rw [hc] at k1;cases k1
    ·obtain ⟨c',e7⟩:=ch y f3
     have:=cf e7
     rw [e5] at this
     cases this
     refine .inr ⟨.inl (nh I.ok.kind hc f3),c,e7,?_⟩
     obtain ⟨o,ho,hd⟩:=e6
     exact ⟨o,old _ _ ho,hd⟩
 ·obtain ⟨v,o,ho,hd⟩:=I.cell y c (cf e)
  exact ⟨v,o,old _ _ ho,hd⟩
 ·cases i with
  | zero=>cases e
  | succ i=>
    obtain ⟨j,f1,f2⟩:=EX (show (nk fs ρ)[i]?=some (some d) from e)
    obtain ⟨v,g1,g2⟩:=r.env j d f2
    refine ⟨v,?_,g2⟩
    show (fs.map fun i=>(σ[i]?).join)[i]?=some (some v)
    rw [List.getElem?_map,f1]
    show some ((σ[j]?).join)=_
    rw [g1];rfl
 ·simp [nk]
end
end L3
namespace L3
open PySem PySem.Spec PyProof.Rows L2
section
variable {X:Cx} {sc:Scope} {x:Str} {ys:List Str} {fs:List Nat} {elt iter:Expr} {px pos:Pos} {ifs:List Expr} {tt:lH} {te:cK}
theorem Ag {α:Type} {t:Sem α} {Q Q':α→Shared→Prop} {M:Model} {A:Around} {E:Value→Shared→Prop} {s:Shared} (h:wpAny M A t Q (fun _ _=>False) s) (hQ:∀ a s,Q a s→Q' a s):wpAny M A t Q' E s:=wpAny_mono h hQ fun _ _ z=>z.elim
theorem yg (elt target iter:Expr) (ifs:List Expr) (sc:Scope) (pos:Pos) (it acc:Value) (env:Env):compTurn (.ListComp elt [⟨target,iter,ifs,0⟩] sc pos) 0 it acc env=(standAt iter.pos >>= fun _=>pyNext it >>= fun r=>match r with
 | none=>pure (.done .next)
 | some v=>letOwnedTupleGo target it v >>= fun _=>assign target env v >>= fun _=>(forIn ifs true fun c r=>if r=true then do { let ok ← isTrue c env (eval c env);pure (ForInStep.yield ok) } else pure (ForInStep.yield r)) >>= fun ok=>
   if ok=true then (eval elt env >>= fun y=>call (.builtin "list.append") [acc,y] >>= fun _=>again (.compLoop (.ListComp elt [⟨target,iter,ifs,0⟩] sc pos) 0 it acc env)) else again (.compLoop (.ListComp elt [⟨target,iter,ifs,0⟩] sc pos) 0 it acc env)):=by
 rw [compTurn_list]
 congr 1;funext _;congr 1;funext r
 cases r with
 | none=>rfl
 | some v=>
   dsimp only
   congr 1;funext _;congr 1;funext _;congr 1;funext ok
   cases ok with
   | false=>rfl
   | true=>simp only [if_true,bind_assoc,pure_bind]
structure Q9 (X X':Cx) (Dl:Addr) (fp:List Addr) (tn:Nat→Heap→Prop) (M0:Mp) (H0:Hp) (fr:En) (i:Nat) (s:Shared) (acc:List D) (M:Mp):Prop where
 ex:∃ σ H y ws,Inv X' [] σ H s∧tn i s.heap∧(∀ b∈fp,H b=none)∧Rep X.K H σ (y :: fr) M∧Fr M0 H0 M H∧H Dl=some (.lst ws)∧M Dl=none∧aB X.K H acc ws∧acc.length≤i
theorem Ic (hc:X.calm=true) (ck:rN X.env.scope X.N sc x ys fs) (ht:∀ cl C s0 H0 ex,MF (uZ X sc x ys cl C s0 H0 ex) ifs tt) (he:∀ cl C s0 H0 ex,bZ (uZ X sc x ys cl C s0 H0 ex) elt te)
 {pins:List (Addr ×Obj)} {σ:St} {H:Hp} {s:Shared} {ρ:En} {M:Mp} {it:Addr} {fp:List Addr} {tn:Nat→Heap→Prop} {J:It} {inv:Hp→Prop} {ds:List D} {gd:Mp→Prop} {Q:DK} {E:Value→Shared→Prop} {Ma:Mp} {Ha:Hp} {use:Option (Value→Sem Unit)} {Qs:Value→Shared→Prop} (fa:Fr Ma Ha M H)
 (fin:∀ (C Dl:Addr) (s6:Shared) (H5:Hp),Inv X pins σ H5 s6→(∃ m,s6.heap.Ns C m)→jF X pins H5 C→Post X.K Ma Ha Q (.ref Dl) H5→compPost (model X.prog X.w) X.A E use Qs (.ref Dl) C (.ok .next) s6)
 (I:Inv X pins σ H s) (r:Rep X.K H σ ρ M) (T:Turn X.prog X.w X.K (.Name x px) J fp it tn) (st:tn 0 s.heap) (hf:∀ b∈fp,jF X pins H b) (hJ:CG X.K J inv ds) (hz:ds.length < sizeLine)
 (stay:∀ M1 H1,Fr M H M1 H1→br X.K H1 M1→gd M1→inv H1) (q:ni gd tt te (nk fs ρ) (fun zs M2=> ∀ p,M2 p=none→Q (.ref p) (ay M2 p (.lst zs))) ds [] M) :
 wpAny (model X.prog X.w) X.A (newList []) (fun acc s3=>wpAny (model X.prog X.w) X.A (newFunctionEnv sc X.env.globals (cP X.env.cells sc.names []) [] X.env.qual none .none (some X.env)) (fun cenv s4=>
  codeAny (model X.prog X.w) X.A (.compStart (.ListComp elt [⟨.Name x px,iter,ifs,0⟩] sc pos) 0 (.ref it) acc { cenv with scope:=relabel sc X.env }) (compPost (model X.prog X.w) X.A E use Qs acc cenv.locals) s4) E s3) E s:=by
 have hfp:∀ b∈fp,b < s.heap.objs.size:=fun b hb=>by
  obtain ⟨o,e,_⟩:=T.obj 0 _ st b hb
  exact Heap.lt_size e
 refine wpAny_newList (hsz:=Nat.zero_le _) ?_
 have fD:H s.heap.objs.size=none:=I.hok.fresh (Nat.le_refl _)
 have k1:∀ b o,s.heap.get? b=some o→(s.heap.push { cls:= .type "list",data:= .seq ([]:List Value).toArray }).get? b=some o:=fun b o e=>Heap.get?_push_of_some _ e
 have z3:(s.heap.push { cls:= .type "list",data:= .seq ([]:List Value).toArray }).objs.size=s.heap.objs.size+1:=Heap.size_push ..
 have I3:Inv X pins σ (upd H s.heap.objs.size (.lst [])) { s with heap:=s.heap.push { cls:= .type "list",data:= .seq ([]:List Value).toArray } }:=
  I.laid (t':=s.toks) k1 (Nat.le_refl _) ⟨Nat.zero_le _,[],0,.nil,Heap.get?_push_size _ rfl⟩
 refine wpAny_newFunctionEnv ck.EW (fun y hy=>by cases hy) (fun h1 SH Of=>?_) ck.kind
 generalize SI:({ s with heap:=s.heap.push { cls:= .type "list",data:= .seq ([]:List Value).toArray } }:Shared)=s3 at I3 SH Of ⊢
 have Uq:s3.heap.objs.size=s.heap.objs.size+1:=by rw [← SI];exact z3
 have old:∀ b o,s3.heap.get? b=some o→h1.get? b=some o:=fun b o e=>Of.extBut b o (Nat.ne_of_lt (Heap.lt_size e)) (Heap.get?_push_of_some _ e)
 have SJ:∀ b∈fp,jF X pins (upd H s.heap.objs.size (.lst [])) b:=fun b hb=>⟨by rw [aQ (Nat.ne_of_lt (hfp b hb))];exact (hf b hb).1,(hf b hb).2⟩
 have SK:Fr M H M (upd H s.heap.objs.size (.lst [])):=Fr.new fD fun _ _=>rfl
 have r3:Rep X.K (upd H s.heap.objs.size (.lst [])) σ ρ M:=r.go SK (r.mem.new fD)
 obtain ⟨σ',I4,r4⟩:=CP (s:=s3) (s':={ s3 with heap:=h1,toks:=s3.toks+([]:List (Str ×Value)).length }) (C:=s3.heap.objs.size) (fp:=fp) ck I3 r3 rfl (Nat.le_refl _) old ⟨_,SH⟩ rfl rfl SJ (fun b hb=>by rw [Uq];exact Nat.lt_succ_of_lt (hfp b hb))
 have MD:M s.heap.objs.size=none:=r.mem.free fD
 have SM:tn 0 h1:=T.keep 0 _ _ st fun b hb o e=>old b o (by rw [← SI];exact k1 b o e)
 have Ra:∀ {H':Hp},(∀ b∈fp,H' b=none)→∀ b∈fp,jF (uZ X sc x ys (cP X.env.cells sc.names []) s3.heap.objs.size s3 (upd H s.heap.objs.size (.lst [])) fp) [] H' b:=fun {H'} hn b hb=>
  ⟨hn b hb,(I4.ok.MP b hb).1,I4.ok.Cr b hb,.inl hb,fun y c e z=>(I4.ok.MP b hb).2 y c e z,fun p hp=>by cases hp⟩
 have loop:∀ s4:Shared,s4= { s3 with heap:=h1,toks:=s3.toks+([]:List (Str ×Value)).length }→
  codeAny (model X.prog X.w) X.A (.compLoop (.ListComp elt [⟨.Name x px,iter,ifs,0⟩] sc pos) 0 (.ref it) (.ref s.heap.objs.size) ((uZ X sc x ys (cP X.env.cells sc.names []) s3.heap.objs.size s3 (upd H s.heap.objs.size (.lst [])) fp)).env) (compPost (model X.prog X.w) X.A E use Qs (.ref s.heap.objs.size) s3.heap.objs.size) s4:=by
  rintro s4 rfl
  refine codeAny_loop rfl (I:=fun n s'=> ∃ i acc M',n=ds.length - i∧i≤ds.length∧Q9 X (uZ X sc x ys (cP X.env.cells sc.names []) s3.heap.objs.size s3 (upd H s.heap.objs.size (.lst [])) fp) s.heap.objs.size fp tn M H (nk fs ρ) i s' acc M'∧ni gd tt te (nk fs ρ) (fun zs M2=> ∀ p,M2 p=none→Q (.ref p) (ay M2 p (.lst zs))) (ds.drop i) acc M')
   (fun n s5 hI=>?_) ds.length ⟨0,[],M,rfl,Nat.zero_le _,⟨σ',_,none,[],I4,SM,fun b hb=>(SJ b hb).1,r4,SK,cF,MD,aH.mpr rfl,Nat.le_refl _⟩,q⟩
  obtain ⟨i,acc,M5,rfl,hi,⟨σ5,H5,y5,ws,I5,Mz,f5,r5,Hr,SN,SO,SQ,Wu⟩,q5⟩:=hI
  show wpAny (model X.prog X.w) X.A ((compTurn (.ListComp elt [⟨.Name x px,iter,ifs,0⟩] sc pos) 0 (.ref it) (.ref s.heap.objs.size) ((uZ X sc x ys (cP X.env.cells sc.names []) s3.heap.objs.size s3 (upd H s.heap.objs.size (.lst [])) fp)).env).onRaise (fun z=>do { noteFrame z ((uZ X sc x ys (cP X.env.cells sc.names []) s3.heap.objs.size s3 (upd H s.heap.objs.size (.lst [])) fp)).env;theTreesLotGoes z })) _ _ s5
  refine wpAny_noted ?_
  rw [yg]
  refine wpAny_bind (wpAny_standAt ?_)
  by_cases hlt:i < ds.length
  ·have hdr:ds.drop i=ds[i] :: ds.drop (i+1):=List.drop_eq_getElem_cons hlt
   rw [hdr] at q5
   obtain ⟨hg,q5⟩:=q5
   have hinv:=stay M5 H5 Hr r5.mem hg
   refine wpAny_bind (Ag (T.item (uZ X sc x ys (cP X.env.cells sc.names []) s3.heap.objs.size s3 (upd H s.heap.objs.size (.lst [])) fp) rfl rfl rfl hc i [] s5 σ5 H5 (fun _ _=>False) I5 (Ra f5) Mz (hJ.go i H5 hlt hinv)) fun r6 s6 ⟨u,e6,h6⟩=>?_)
   subst e6
   refine wpAny_bind (Ag h6 fun _ s7 ⟨v,H7,I7,rv,yl,Rb,f7⟩=>?_)
   obtain ⟨e7,d,hd1,hd2⟩:=hJ.Hq i H5 v H7 hlt hinv yl
   subst e7
   have ed:d=ds[i]:=Option.some.inj (hd1.symm.trans (List.getElem?_eq_getElem hlt))
   subst ed
   have Ur:=I7.pinned (Ra f7) (T.obj _ _ Rb)
   have lx:(relabel sc X.env).names.lookup x=some .local:=lookup_relabel_local ck.loc
   refine wpAny_bind (Ag ((cB (X:=(uZ X sc x ys (cP X.env.cells sc.names []) s3.heap.objs.size s3 (upd H s.heap.objs.size (.lst [])) fp)) (i:=0) (x:=x) (pos:=px) ck.nd rfl (.inl lx) (.inr lx)).run _ s7 σ5 H7 (y5 :: nk fs ρ) M5 v ds[i] u (fun ρ' M'=>ρ'=some ds[i] :: nk fs ρ∧M'=M5) Ur r5 rv hd2 ⟨rfl,rfl⟩) fun _ s8 ⟨σ8,H8,I8,ρ8,M8,Rc,r8,e8,Us⟩=>?_)
   subst e8 Us
   obtain ⟨Ut,Uu⟩:=Rc _ _ SO SN
   refine wpAny_bind (Ag ((ht _ _ _ _ _).run _ s8 σ8 H8 _ M8 _ I8 r8 q5) fun b s9 ⟨H9,I9,M9,Py,Uv,q9⟩=>?_)
   obtain ⟨SR,SS⟩:=Py _ _ Uu Ut
   have r9:=r8.go Py Uv
   have Og:=(Hr.trans Rc).trans Py
   have SV:aB X.K H9 acc ws:=aB.mono ((Rc.trans Py).ext r5.mem) _ _ SQ
   have next:∀ {H':Hp} {s':Shared},Inv (uZ X sc x ys (cP X.env.cells sc.names []) s3.heap.objs.size s3 (upd H s.heap.objs.size (.lst [])) fp) ([] ++ qW fp s7.heap) σ8 H' s'→(tn (i+1) s'.heap∧∀ b∈fp,H' b=none):=fun {H' s'} I'=>by
    have pin:∀ b∈fp,∀ o,s7.heap.get? b=some o→s'.heap.get? b=some o∧H' b=none:=fun b hb o e=>by
     have:=I'.pin (b,o) (List.mem_append_right _ (List.mem_append_right _ (lR hb e)))
     exact ⟨this.1,this.2.1⟩
    refine ⟨T.keep _ _ _ Rb fun b hb o e=>(pin b hb o e).1,fun b hb=>?_⟩
    obtain ⟨o,e,_⟩:=T.obj _ _ Rb b hb
    exact (pin b hb o e).2
   cases b with
   | false=>
     rw [if_neg Bool.false_ne_true]
     obtain ⟨n1,n2⟩:=next I9
     exact wpAny_pure ⟨rfl,ds.length - (i+1),by omega,i+1,acc,M9,rfl,hlt,⟨σ8,H9,_,ws,I9.jS,n1,n2,r9,Og,SR,SS,SV,by omega⟩,q9⟩
   | true=>
     rw [if_pos rfl]
     refine wpAny_bind (Ag ((he _ _ _ _ _).run _ s9 σ8 H9 _ M9 _ I9 r9 q9) fun Uw Ux ⟨v10,JK,Uy,Rf,dy,Ie,Ig,Rg,Oh,Rh⟩=>?_)
     obtain ⟨Oi,Oj⟩:=Ig _ _ SS SR
     have SW:=r9.go Ig Oh
     have Ol:aB X.K JK acc ws:=aB.mono (Ig.ext r9.mem) _ _ SV
     have lw:ws.length < sizeLine:=by rw [← Ol.length];omega
     refine wpAny_bind (Ag (kW (X:=(uZ X sc x ys (cP X.env.cells sc.names []) s3.heap.objs.size s3 (upd H s.heap.objs.size (.lst [])) fp)) _ Ux σ8 JK (.ref s.heap.objs.size) [v10] (.ref s.heap.objs.size) [Uw] (fun _ H'=>H'=upd JK s.heap.objs.size (.lst (ws ++ [v10]))) Uy rfl (.cons Rf .nil) ⟨_,ws,v10,rfl,rfl,Oi,lw,rfl⟩) fun _ Wv ⟨_,Ww,SX,_,Uz⟩=>?_)
     subst Uz
     have ex:Ext JK (upd JK s.heap.objs.size (.lst (ws ++ [v10]))):=Ext.jV Oi
     have Ri:br X.K (upd JK s.heap.objs.size (.lst (ws ++ [v10]))) Ie:=fun a o e=>by
      have na:a≠s.heap.objs.size:=fun z=>by rw [z,Oj] at e;cases e
      exact (Oh a o e).mono ex fun u q=>by rw [aQ na];exact q
     have UA:Rep X.K (upd JK s.heap.objs.size (.lst (ws ++ [v10]))) σ8 (some ds[i] :: nk fs ρ) Ie:=⟨fun j d e=>let ⟨v,e1,e2⟩:=SW.env j d e;⟨v,e1,Dat.mono ex _ _ e2⟩,SW.len,Ri⟩
     have Rj:Fr M H Ie (upd JK s.heap.objs.size (.lst (ws ++ [v10]))):=fun b o n e=>by
      obtain ⟨e1,n1⟩:=(Og.trans Ig) b o n e
      exact ⟨by rw [aQ (bC e fD)];exact e1,n1⟩
     obtain ⟨n1,n2⟩:=next SX
     exact wpAny_pure ⟨rfl,ds.length - (i+1),by omega,i+1,acc ++ [dy],Ie,rfl,hlt,⟨σ8,_,_,ws ++ [v10],SX.jS,n1,n2,UA,Rj,cF,Oj,aB.mono ex _ _ (Ol.append (aB.one Rg)),by simp;omega⟩,Rh⟩
  ·have ei:i=ds.length:=by omega
   subst ei
   rw [List.drop_of_length_le (Nat.le_refl _)] at q5
   obtain ⟨hg,q5⟩:=q5
   have hinv:=stay M5 H5 Hr r5.mem hg
   refine wpAny_bind (Ag (T.done (uZ X sc x ys (cP X.env.cells sc.names []) s3.heap.objs.size s3 (upd H s.heap.objs.size (.lst [])) fp) rfl rfl rfl hc ds.length [] s5 σ5 H5 (fun _ _=>False) I5 (Ra f5) Mz (hJ.stop H5 hinv)) fun r6 s6 ⟨e6,I6⟩=>?_)
   subst e6
   refine wpAny_pure ?_
   obtain ⟨m,hm,_⟩:=id I6.loc
   have I7:Inv X pins σ H5 s6:=I3.MS (s':=s6) (ch:=fp) I6.os I6.base I6.hok I6.bare fun b hb=>⟨(hf b hb).2.2.2.1,(hf b hb).2.1,(hf b hb).2.2.2.2.1,(hf b hb).2.2.2.2.2⟩
   refine fin _ _ s6 H5 I7 ⟨m,hm⟩ (I3.D6 (Nat.le_refl _) I6.free) (Post.back fa ⟨.ref s.heap.objs.size,ay M5 s.heap.objs.size (.lst acc),fun b o n e=>?_,aK.mpr rfl,fun a o e=>?_,q5 _ SO⟩)
   ·obtain ⟨e1,n1⟩:=Hr b o n e
    exact ⟨e1,by rw [aP (bC e fD)];exact n1⟩
   ·by_cases ha:a=s.heap.objs.size
    ·subst ha
     rw [ai] at e
     cases e
     exact ⟨ws,SN,SQ⟩
    ·rw [aP ha] at e
     exact r5.mem a o e
 exact codeAny_compStart_list (loop _ rfl) (T.self X.A 0 _ _ _ SM (loop _ rfl))
end
end L3
namespace L3
open PySem PySem.Spec PyProof.Rows L2
section
variable {X:Cx} {sc:Scope} {x:Str} {ys:List Str} {fs:List Nat} {elt iter:Expr} {px pos:Pos} {ifs:List Expr} {tt:lH} {te:cK} {ti:cK}
def Rk (Q:DK):List D→Mp→Prop:=fun zs M2=> ∀ p,M2 p=none→Q (.ref p) (ay M2 p (.lst zs))
def Rl (fs:List Nat) (ti:cK) (tt:lH) (te:cK):cK:=fun ρ M Q=>ti ρ M fun d M1=> ∃ xs,d= .tup xs∧xs.length < sizeLine∧bq (ni (fun _=>True) tt te (nk fs ρ) (Rk Q) xs [] M1)
def Rm (fs:List Nat) (ti:cK) (tt:lH) (te:cK):cK:=fun ρ M Q=>ti ρ M fun d M1=> ∃ a xs,d= .ref a∧M1 a=some (.lst xs)∧xs.length < sizeLine∧bq (ni (fun M=>M a=some (.lst xs)) tt te (nk fs ρ) (Rk Q) xs [] M1)
def UB (X:Cx) (fs:List Nat) (tt:lH) (te:cK) (σ:St) (ρ:En) (M:Mp) (H:Hp) (Q:DK):It→Hp→Prop:=fun J H2=> ∃ M2 inv ds gd,Fr M H M2 H2∧Rep X.K H2 σ ρ M2∧CG X.K J inv ds∧ds.length < sizeLine∧(∀ M1 H1,Fr M2 H2 M1 H1→br X.K H1 M1→gd M1→inv H1)∧ni gd tt te (nk fs ρ) (Rk Q) ds [] M2
theorem Ih {pins:List (Addr ×Obj)} {σ:St} {M:Mp} {H:Hp} {Q:DK} {E:Value→Shared→Prop}:∀ (C Dl:Addr) (s6:Shared) (H5:Hp),Inv X pins σ H5 s6→(∃ m,s6.heap.Ns C m)→jF X pins H5 C→Post X.K M H Q (.ref Dl) H5→
 compPost (model X.prog X.w) X.A E none (EP X pins σ (Post X.K M H Q)) (.ref Dl) C (.ok .next) s6:=fun C Dl s6 H5 I ⟨m,hm⟩ f P=>
 ⟨m,hm,fun h' sb=>⟨.ref Dl,H5,I.turned (t':=s6.toks) (fun b o hb e=>sb.extBut b o hb e) f.1 f.2.1 f.2.2.2.1 f.2.2.2.2.1 f.2.2.2.2.2,rfl,P⟩⟩
theorem JL {use:Option (Value→Sem Unit)} {Qs:Value→Shared→Prop} {ps:Pos} (hc:X.calm=true) (hk:bx X.env.scope X.N sc x ys fs=true) (ht:∀ cl C s0 H0 ex,MF (uZ X sc x ys cl C s0 H0 ex) ifs tt) (he:∀ cl C s0 H0 ex,bZ (uZ X sc x ys cl C s0 H0 ex) elt te)
 (hs:∀ z,foldedSetIterable iter X.env z=pure z) {pins:List (Addr ×Obj)} {s:Shared} {σ:St} {H:Hp} {ρ:En} {M:Mp} {Q:DK} (I:Inv X pins σ H s)
 (fin:∀ (C Dl:Addr) (s6:Shared) (H5:Hp),Inv X pins σ H5 s6→(∃ m,s6.heap.Ns C m)→jF X pins H5 C→Post X.K M H Q (.ref Dl) H5→compPost (model X.prog X.w) X.A X.xe use Qs (.ref Dl) C (.ok .next) s6)
 (h:wpAny (model X.prog X.w) X.A (eval iter X.env) (fun v s1=>wpAny (model X.prog X.w) X.A (pyIter v) (Qj X pins σ (.Name x px) (UB X fs tt te σ ρ M H Q)) X.xe s1) X.xe s) :
 wpAny (model X.prog X.w) X.A (comprehension (.ListComp elt [⟨.Name x px,iter,ifs,0⟩] sc pos) sc X.env ps (newList []) false (eval iter X.env) use) Qs X.xe s:=by
 have ck:=rN.of hk
 refine wpAny_comprehension_free (use:=use) (cl:=cP X.env.cells sc.names []) rfl hs (Af fun y hy z=>I.ok.has y.1 (.inl (ck.Px y hy z))) ck.kind ck.names (cI h fun v s1 h1=>cI h1 fun itv s2 h2=>?_)
 obtain ⟨it,fp,tn,J,H2,e,I2,T,st2,f2,M2,inv,ds,gd,fr,r2,hJ,hz,stay,q⟩:=h2
 subst e
 exact Ic hc ck ht he fr fin I2 r2 T st2 f2 hJ hz stay q
structure Pz (X:Cx) (sc:Scope) (x:Str) (px:Pos) (ys:List Str) (fs:List Nat) (iter:Expr) (ifs:List Expr) (elt:Expr) (t:cK):Prop where
 run:∀ {use:Option (Value→Sem Unit)} {Qs:Value→Shared→Prop} {ps pos:Pos} {pins:List (Addr ×Obj)} {s:Shared} {σ:St} {H:Hp} {ρ:En} {M:Mp} {Q:DK},Inv X pins σ H s→Rep X.K H σ ρ M→t ρ M Q→
  (∀ (C Dl:Addr) (s6:Shared) (H5:Hp),Inv X pins σ H5 s6→(∃ m,s6.heap.Ns C m)→jF X pins H5 C→Post X.K M H Q (.ref Dl) H5→compPost (model X.prog X.w) X.A X.xe use Qs (.ref Dl) C (.ok .next) s6)→
  wpAny (model X.prog X.w) X.A (comprehension (.ListComp elt [⟨.Name x px,iter,ifs,0⟩] sc pos) sc X.env ps (newList []) false (eval iter X.env) use) Qs X.xe s
theorem uh {t:cK} (h:Pz X sc x px ys fs iter ifs elt t):bZ X (.ListComp elt [⟨.Name x px,iter,ifs,0⟩] sc pos) t:=by
 constructor
 intro pins s σ H ρ M Q I r q
 rw [eval_ListComp]
 exact h.run I r q Ih
theorem CQ {t:cK} {j:Nat} {y:Str} {py spos:Pos} (h:Pz X sc x px ys fs iter ifs elt t) (hN:X.N.Nodup) (hj:X.N[j]?=some y) (hy:Loc X.env.scope y)
 (hsw:swapsWith (.ListComp elt [⟨.Name x px,iter,ifs,0⟩] sc pos) (some (.Name y py)) spos.line X.env=pure true:=by rfl) (hf:X.fn y=true∨X.env.scope.names.lookup y=some .local:=by first | exact .inl rfl | exact .inr rfl) :
 xZ X (.Assign [.Name y py] (.ListComp elt [⟨.Name x px,iter,ifs,0⟩] sc pos) spos) (JG j t):=by
 constructor
 intro pins s σ H ρ M D I r q
 rw [exec_Assign_Name_used _ _ _ _ hsw]
 refine wpAny_bind (wpAny_standAt (wpAny_bind ?_))
 show wpAny (model X.prog X.w) X.A (do { let _ ← comprehension (.ListComp elt [⟨.Name x px,iter,ifs,0⟩] sc pos) sc X.env _ (newList []) false (eval iter X.env) (some (assign (.Name y py) X.env)) }) _ _ s
 refine wpAny_bind (cI (h.run (use:=some (assign (.Name y py) X.env)) (Qs:=fun _ s'=>SP X pins (ends X.K M H D) .next s') I r q fun C Dl s6 H5 I6 hC f P=>?_) fun _ s' hq=>wpAny_pure (wpAny_pure hq))
 obtain ⟨m,o,es,ep,ho,hd,hrest⟩:=hC
 obtain ⟨d,M5,Hr,dd,UC,q5⟩:=P
 have UD:Inv X (pins ++ [(C,o)]) σ H5 s6:=I6.qF fun p hp=>(List.mem_append.mp hp).elim (fun z=>I6.pin p (List.mem_append_right _ z)) fun z=>by
  have e:=List.mem_singleton.mp z
  subst e
  exact ⟨ho,f.1,f.2.1,f.2.2.1,fun v z=>by rw [hd] at z;cases z⟩
 refine cI ((cB (i:=j) (x:=y) (pos:=py) hN hj hy hf).run _ s6 σ H5 ρ M5 (.ref Dl) d (.ref Dl) (D.nx) UD (r.go Hr UC) rfl dd q5) fun _ s7 ⟨σ7,H7,I7,ρ7,M7,UE,r7,q7⟩=>?_
 have pin:=I7.pin (C,o) (List.mem_append_right _ (List.mem_append_right _ (List.mem_singleton.mpr rfl)))
 refine ⟨m,⟨o,es,ep,pin.1,hd,hrest⟩,fun h' sb=>?_⟩
 have I8:Inv X pins σ7 H7 s7:=I7.qF fun p hp=>I7.pin p (List.mem_append_right _ (List.mem_append_left _ hp))
 exact ⟨σ7,H7,I8.turned (t':=s7.toks) (fun b o hb e=>sb.extBut b o hb e) pin.2.1 f.2.1 f.2.2.2.1 f.2.2.2.2.1 f.2.2.2.2.2,ρ7,M7,Hr.trans UE,r7,q7⟩
theorem BD (hc:X.calm=true) (hk:bx X.env.scope X.N sc x ys fs=true) (hi:bZ X iter ti) (ht:∀ cl C s0 H0 ex,MF (uZ X sc x ys cl C s0 H0 ex) ifs tt) (he:∀ cl C s0 H0 ex,bZ (uZ X sc x ys cl C s0 H0 ex) elt te)
 (hs:∀ z,foldedSetIterable iter X.env z=pure z:=by intro _;rfl):Pz X sc x px ys fs iter ifs elt (Rl fs ti tt te):=by
 constructor
 intro use Qs ps pos pins s σ H ρ M Q I r h fin
 refine JL (ρ:=ρ) hc hk ht he hs I fin (D8 hi.dn pins s σ H _ I (cN r h fun v H' d M' f dv r' ⟨xs,e1,hz,q⟩=>?_))
 subst e1
 obtain ⟨a,zs,rfl,ha,hy⟩:=aR.mp dv
 refine ⟨a,rfl,⟨zs,qV.of ha⟩,M',_,xs,_,f,r',EE,hz,fun M1 H1 f1 _ _=>⟨zs,?_,aB.mono (f1.ext r'.mem) _ _ hy⟩,q.out⟩
 exact (f1 a _ (r'.mem.vJ ha (fun _ z=>by cases z)) ha).1
theorem jw (hc:X.calm=true) (hk:bx X.env.scope X.N sc x ys fs=true) (hi:bZ X iter ti) (ht:∀ cl C s0 H0 ex,MF (uZ X sc x ys cl C s0 H0 ex) ifs tt) (he:∀ cl C s0 H0 ex,bZ (uZ X sc x ys cl C s0 H0 ex) elt te)
 (hs:∀ z,foldedSetIterable iter X.env z=pure z:=by intro _;rfl):Pz X sc x px ys fs iter ifs elt (Rm fs ti tt te):=by
 constructor
 intro use Qs ps pos pins s σ H ρ M Q I r h fin
 refine JL (ρ:=ρ) hc hk ht he hs I fin (Bd hi.dn pins s σ H _ I (cN r h fun v H' d M' f dv r' ⟨a,xs,e1,hM,hz,q⟩=>?_))
 subst e1
 obtain rfl:=aK.mp dv
 obtain ⟨zs,ha,hy⟩:=r'.mem.lst hM
 exact ⟨a,rfl,⟨zs,jb.of ha⟩,M',_,xs,_,f,r',EF,hz,fun M1 H1 f1 mR g1=>mR.lst g1,q.out⟩
theorem bA {gd:Mp→Prop} {fr:En} {Q:List D→Mp→Prop} {M:Mp} (Pv:Nat→List D→Mp→Prop):∀ (ds:List D),(∀ (i:Nat) (d:D) (acc:List D) (M:Mp) (N:List D→Mp→Prop),ds[i]?=some d→Pv i acc M→(∀ acc' M',Pv (i+1) acc' M'→N acc' M')→
 gd M∧tt (some d :: fr) M fun b M1=>if b=true then te (some d :: fr) M1 fun y M2=>N (acc ++ [y]) M2 else N acc M1)→
 (∀ acc M,Pv ds.length acc M→gd M∧Q acc M)→Pv 0 [] M→ni gd tt te fr Q ds [] M:=by
 intro ds hstep hend h0
 have key:∀ (zs:List D) (i:Nat) (acc:List D) (M:Mp),ds.drop i=zs→Pv i acc M→i≤ds.length→ni gd tt te fr Q zs acc M:=by
  intro zs
  induction zs with
  | nil=>
    intro i acc M e p hi
    have:ds.length≤i:=by
     have:=congrArg List.length e
     rw [List.length_drop] at this
     simp at this
     omega
    obtain rfl:i=ds.length:=by omega
    exact hend acc M p
  | cons z zs ih=>
    intro i acc M e p hi
    have hx:ds[i]?=some z:=by
     have:=congrArg (fun l=>l[0]?) e
     simpa using this
    have hlt:i < ds.length:=(List.getElem?_eq_some_iff.mp hx).1
    refine hstep i z acc M _ hx p fun acc' M' p'=>ih (i+1) acc' M' ?_ p' hlt
    rw [← List.drop_drop,e]
    rfl
 exact key ds 0 [] M rfl h0 (Nat.zero_le _)
end
end L3
namespace L3
open PySem PySem.Spec PyProof.Rows L2
structure PB (outer:Scope) (N:List Str) (sc:Scope) (x:Str) (ys:List Str) (fs:List Nat):Prop where
 kind:sc.kind= .function
 Oe:outer.kind= .function
 names:∀ y∈sc.names,y.2= .local→sc.names.lookup y.1=some .local
 Px:∀ y∈sc.names,y.2= .free→outer.names.lookup y.1=some .cell
 loc:sc.names.lookup x=some .cell
 cells:sc.names.filter (fun y=>y.2 == .cell)= [(x,.cell)]
 len:ys.length=fs.length
 at':∀ (k:Nat) y,ys[k]?=some y→∃ i,fs[k]?=some i∧N[i]?=some y∧sc.names.lookup y=some .free
 nd:(x :: ys).Nodup
section
variable {X:Cx} {sc:Scope} {x:Str} {ys:List Str} {fs:List Nat}
end
section
variable {X:Cx} {sc:Scope} {x:Str} {ys:List Str} {fs:List Nat} {elt iter:Expr} {px pos:Pos} {ifs:List Expr} {tt:lH} {te:cK} {ti:cK}
end
end L3
namespace L3
open PySem PySem.Spec PyProof.Rows L2
section
variable {X:Cx}
theorem yh {ds es:List D} (h:ds.length≠es.length):gj ds es=false:=by
 rw [gm,beq_eq_false_iff_ne.mpr h,Bool.and_false]
abbrev Om:=En→Mp→(Option Int→Mp→Prop)→Prop
structure PC (X:Cx) (e:Option Expr) (t:Om):Prop where
 dn:∃ t2:TO,PO X e t2∧∀ σ H ρ M Q Q',Rep X.K H σ ρ M→t ρ M Q→(∀ o H' M',Fr M H M' H'→Rep X.K H' σ ρ M'→Q o M'→Q' o H')→t2 σ H Q'
def Rn:Om:=fun _ M Q=>Q none M
def Ln (t:cK):Om:=fun ρ M Q=>t ρ M fun d M1=> ∃ i,d= .int i∧Q (some i) M1
theorem EZ:PC X none Rn:=⟨Bk,Hx,fun σ H ρ M Q Q' r q k=>k none H M (.refl _ _) r q⟩
theorem gu {e:Expr} {t:cK} (h:bZ X e t):PC X (some e) (Ln t):=⟨Jy (L3.dn X.K t),Hy h.dn,fun σ H ρ M Q Q' r q k=>cN r q fun v H' d M' f dv r' ⟨i,e1,q⟩=>by
 subst e1
 obtain rfl:=aO.mp dv
 exact ⟨i,rfl,k (some i) H' M' f r' q⟩⟩
def cutD (xs:List D) (lo hi:Option Int):List D:=(xs.drop (HT.mS xs.length 0 lo)).take (HT.mS xs.length xs.length hi - HT.mS xs.length 0 lo)
theorem aB.drop {K:PySem.W.Frag} {H:Hp}:∀ {ds:List D} {xs:List V} (n:Nat),aB K H ds xs→aB K H (ds.drop n) (xs.drop n)
 | ds,xs,0,h=>h
 | [],xs,n+1,h=>by rw [aH.mp h];exact aH.mpr rfl
 | d :: ds,xs,n+1,h=>by
   obtain ⟨v,vs,rfl,_,h2⟩:=aA.mp h
   exact aB.drop n h2
theorem aB.take {K:PySem.W.Frag} {H:Hp}:∀ {ds:List D} {xs:List V} (n:Nat),aB K H ds xs→aB K H (ds.take n) (xs.take n)
 | ds,xs,0,h=>aH.mpr rfl
 | [],xs,n+1,h=>by rw [aH.mp h];exact aH.mpr rfl
 | d :: ds,xs,n+1,h=>by
   obtain ⟨v,vs,rfl,h1,h2⟩:=aA.mp h
   exact aA.mpr ⟨v,vs.take n,rfl,h1,aB.take n h2⟩
def Oo:R3:=fun d e M Q=> ∃ a b xs ys,d= .ref a∧e= .ref b∧M a=some (.lst xs)∧M b=some (.lst ys)∧xs.length+ys.length≤sizeLine∧∀ p,M p=none→Q (.ref p) (ay M p (.lst (xs ++ ys)))
theorem yi:mQ X (binaryOp .Add) Oo:=MC KQ fun H M x y d e Q rm dx dy ⟨a,b,xs,ys,e1,e2,ha,hb,hz,q⟩=>by
 subst e1;subst e2
 obtain rfl:=aK.mp dx
 obtain rfl:=aK.mp dy
 obtain ⟨zs,h1,h2⟩:=rm.lst ha
 obtain ⟨ws,h3,h4⟩:=rm.lst hb
 exact ⟨a,b,zs,ws,rfl,rfl,h1,h3,by rw [← h2.length,← h4.length];exact hz,fun p hp=>⟨.ref p,ay M p (.lst (xs ++ ys)),Fr.new hp fun _ hb=>aP hb,aK.mpr rfl,rm.newL hp (h2.append h4),q p (rm.free hp)⟩⟩
end
end L3
namespace L3
open PySem PySem.Spec PyProof.Rows L2
section
variable {X:Cx}
def CS (M:Mp) (d:D) (xs:List D):Prop:=d= .zU xs∨∃ a,d= .ref a∧M a=some (.lst xs)
theorem CS.of {M:Mp} {a:Addr} {xs:List D} (h:M a=some (.lst xs)):CS M (.ref a) xs:= .inr ⟨a,rfl,h⟩
theorem CS.sq {K:PySem.W.Frag} {H:Hp} {M:Mp} {d:D} {xs:List D} {x:V} (h:CS M d xs) (rm:br K H M) (dx:Dat K H d x):∃ a zs,x= .ref a∧jb K H a zs∧aB K H xs zs:=by
 rcases h with rfl | ⟨a,rfl,hM⟩
 ·obtain ⟨a,zs,rfl,h1,h2⟩:=mT.mp dx
  exact ⟨a,zs,rfl,h1.sq,h2⟩
 ·obtain rfl:=aK.mp dx
  obtain ⟨zs,h1,h2⟩:=rm.lst hM
  exact ⟨a,zs,rfl,jb.of h1,h2⟩
def Oq:R3:=fun d e M Q=> ∃ xs ys,CS M d xs∧CS M e ys∧xs.all (plain 9)=true∧ys.all (plain 9)=true∧Q (.bl (gj xs ys)) M
def Ot:R3:=fun d e M Q=> ∃ xs ys,CS M d xs∧CS M e ys∧xs.all (plain 9)=true∧ys.all (plain 9)=true∧Q (.bl (!gj xs ys)) M
theorem Lo (hu:X.A.units+64 < cLine):mQ X (compareOp .Eq) Oq:=by
 constructor
 intro pins s σ H M x y d e v u Q I rm rx ry dx dy ⟨xs,ys,ha,hb,pa,pb,q⟩
 obtain ⟨a,zs,rfl,h1,h2⟩:=ha.sq rm dx
 obtain ⟨b,ws,rfl,h3,h4⟩:=hb.sq rm dy
 obtain rfl:v=Value.ref a:=rx
 obtain rfl:u=Value.ref b:=ry
 obtain ⟨its,rv,pl,hz⟩:=I.list h1
 obtain ⟨its2,ue,Ou,hz2⟩:=I.list h3
 have l1:=h2.length.trans rv.length
 have l2:=h4.length.trans ue.length
 have fin:∀ k,k=gj xs ys→EP X pins σ (Post X.K M H Q) (.bool k) s:=fun k e=>⟨.bl k,H,I,rfl,aD rm (aS.mpr rfl) (by rw [e];exact q)⟩
 by_cases hs:its.toArray.size=its2.toArray.size
 ·refine SeqAt.RcAt.lists (A:=X.A) (s:=s) (e:=fun j=>cZ (xs.getD j .aX) (ys.getD j .aX)) pl.isList Ou.isList hs (by omega) (mX I.hok (n:=9) (by show X.A.units+1+9 < cLine;omega) pa pb h2 h4 rv ue) _ _ _ _ (fin _ ?_)
  simp only [List.size_toArray] at hs
  rw [gm,List.size_toArray,← l1]
  have e:ys.length=xs.length:=by omega
  rw [e,Nat.min_self,beq_self_eq_true,Bool.and_true]
 ·refine SeqAt.RcAt.lists_lengths (A:=X.A) (s:=s) pl.isList Ou.isList (by simpa using hs) (by omega) _ _ _ _ (fin _ ?_)
  simp only [List.size_toArray] at hs
  exact (yh (by omega)).symm
theorem Lp (hu:X.A.units+64 < cLine):mQ X (compareOp .NotEq) Ot:=by
 constructor
 intro pins s σ H M x y d e v u Q I rm rx ry dx dy ⟨xs,ys,ha,hb,pa,pb,q⟩
 obtain ⟨a,zs,rfl,h1,h2⟩:=ha.sq rm dx
 obtain ⟨b,ws,rfl,h3,h4⟩:=hb.sq rm dy
 obtain rfl:v=Value.ref a:=rx
 obtain rfl:u=Value.ref b:=ry
 obtain ⟨its,rv,pl,hz⟩:=I.list h1
 obtain ⟨its2,ue,Ou,hz2⟩:=I.list h3
 have l1:=h2.length.trans rv.length
 have l2:=h4.length.trans ue.length
 have fin:∀ k,k=(!gj xs ys)→EP X pins σ (Post X.K M H Q) (.bool k) s:=fun k e=>⟨.bl k,H,I,rfl,aD rm (aS.mpr rfl) (by rw [e];exact q)⟩
 by_cases hs:its.toArray.size=its2.toArray.size
 ·refine SeqAt.RcNeAt.lists (A:=X.A) (s:=s) (e:=fun j=>cZ (xs.getD j .aX) (ys.getD j .aX)) pl.isList Ou.isList hs (by omega) (mX I.hok (n:=9) (by show X.A.units+1+9 < cLine;omega) pa pb h2 h4 rv ue) _ _ _ _ (fin _ ?_)
  simp only [List.size_toArray] at hs
  rw [gm,List.size_toArray,← l1]
  have e:ys.length=xs.length:=by omega
  rw [e,Nat.min_self,beq_self_eq_true,Bool.and_true]
 ·refine SeqAt.RcNeAt.lists_lengths (A:=X.A) (s:=s) pl.isList Ou.isList (by simpa using hs) (by omega) _ _ _ _ (fin _ ?_)
  simp only [List.size_toArray] at hs
  rw [yh (by omega)]
  rfl
def Ah:D→Bool | .aX=>true | _=>false
def Ro:R3:=fun d e M Q=>e= .aX∧Q (.bl (Ah d)) M
def Ov:R3:=fun d e M Q=>e= .aX∧Q (.bl (!Ah d)) M
theorem u0 {K:PySem.W.Frag} {H:Hp} {d:D} {x:V} (h:Dat K H d x):decide (x= .aX)=Ah d:=by
 cases d with
 | aX=>obtain rfl:=b8.mp h;rfl
 | bl b=>obtain rfl:=aS.mp h;rfl
 | int i=>obtain rfl:=aO.mp h;rfl
 | str z=>obtain rfl:=fS.mp h;rfl
 | ty n=>obtain rfl:=zV.mp h;rfl
 | ref a=>obtain rfl:=aK.mp h;rfl
 | tup ds=>obtain ⟨a,xs,rfl,_⟩:=aR.mp h;rfl
 | zU ds=>obtain ⟨a,xs,rfl,_⟩:=mT.mp h;rfl
 | JC n=>obtain ⟨a,o,u,rfl,_⟩:=Bq.mp h;rfl
 | exc C nm ds=>obtain ⟨a,o,u,xs,rfl,_⟩:=HF.mp h;rfl
theorem Ow:mQ X (compareOp .Is) Ro:=MC Kx fun H M x y d e Q rm dx dy ⟨e1,q⟩=>by
 subst e1
 exact ⟨b8.mp dy,by rw [u0 dx];exact aD rm (aS.mpr rfl) q⟩
theorem Lq:mQ X (compareOp .IsNot) Ov:=MC Hu fun H M x y d e Q rm dx dy ⟨e1,q⟩=>by
 subst e1
 exact ⟨b8.mp dy,by rw [u0 dx];exact aD rm (aS.mpr rfl) q⟩
def Lr:List D→Mp→DK→Prop:=fun ds M Q=> ∃ d xs,ds= [d]∧CS M d xs∧∀ p,M p=none→Q (.ref p) (ay M p (.lst xs))
theorem E1:Call3 X (.type "list") Lr:=Ey vI fun H M xs ds Q rm dx ⟨d,ys,e1,hs,q⟩=>by
 subst e1
 obtain ⟨v,rfl,hv⟩:=pR dx
 obtain ⟨a,zs,rfl,h1,h2⟩:=hs.sq rm hv
 exact ⟨a,zs,rfl,.inl h1,fun p hp=>⟨.ref p,ay M p (.lst ys),Fr.new hp fun _ hb=>aP hb,aK.mpr rfl,rm.newL hp h2,q p (rm.free hp)⟩⟩
def Ox:List D→Mp→DK→Prop:=fun ds M Q=> ∃ d xs,ds= [d]∧CS M d xs∧Q (.tup xs) M
theorem Ii:Call3 X (.type "tuple") Ox:=Ey ud fun H M xs ds Q rm dx ⟨d,ys,e1,hs,q⟩=>by
 subst e1
 obtain ⟨v,rfl,hv⟩:=pR dx
 obtain ⟨a,zs,rfl,h1,h2⟩:=hs.sq rm hv
 exact ⟨a,zs,rfl,.inl ⟨h1,fun p hp=>⟨.tup ys,M,Fr.new hp fun _ _=>rfl,aR.mpr ⟨p,zs,rfl,cF,aB.mono (Ext.new hp) _ _ h2⟩,rm.new hp,q⟩⟩⟩
def Rp (te:cK) (tl th:Om):cK:=fun ρ M Q=>te ρ M fun d M1=>tl ρ M1 fun lo M2=>th ρ M2 fun hi M3=> ∃ xs,CS M3 d xs∧∀ p,M3 p=none→Q (.ref p) (ay M3 p (.lst (cutD xs lo hi)))
theorem e9 {e:Expr} {lo hi:Option Expr} {te:cK} {tl th:Om} {p2 pos:Pos} (he:bZ X e te) (hl:PC X lo tl) (hh:PC X hi th):bZ X (.Subscript e (.Slice lo hi none p2) pos) (Rp te tl th):=by
 obtain ⟨Wx,pl,gl⟩:=hl.dn
 obtain ⟨Wy,ph,gh⟩:=hh.dn
 refine up (Ef HC he.dn pl ph) fun σ H ρ M Q r q=>cN r q fun v H' d M' f dv r' q1=>gl _ _ _ _ _ _ r' q1 fun lo H2 M2 f2 r2 q2=>gh _ _ _ _ _ _ r2 q2 fun hi H3 M3 f3 r3 ⟨xs,hL,q3⟩=>?_
 obtain ⟨a,zs,rfl,hz,hd⟩:=hL.sq r3.mem (Dat.mono ((f2.trans f3).ext r'.mem) _ _ dv)
 have ec:cutD xs lo hi=(xs.drop (HT.mS zs.length 0 lo)).take (HT.mS zs.length zs.length hi - HT.mS zs.length 0 lo):=by unfold cutD;rw [hd.length]
 refine ⟨a,zs,rfl,hz,fun p hp=>⟨.ref p,ay M3 p (.lst (cutD xs lo hi)),((f.trans f2).trans f3).trans (Fr.new hp fun _ hb=>aP hb),aK.mpr rfl,r3.mem.newL hp ?_,q3 p (r3.mem.free hp)⟩⟩
 rw [ec]
 exact aB.take _ (aB.drop _ hd)
end
end L3
namespace L3
open PySem PySem.Spec PyProof.Rows L2
section
variable {X:Cx}
end
end L3
namespace L3
open PySem PySem.Spec PyProof.Rows L2
theorem oN {ps:List Pl} {i:Nat} {x:D} (h:(ps.map Pl.d)[i]?=some x):∃ p,ps[i]?=some p∧x=p.d:=by
 rw [List.getElem?_map] at h
 cases e:ps[i]? with
 | none=>rw [e] at h;cases h
 | some p=>rw [e] at h;exact ⟨p,rfl,(Option.some.inj h).symm⟩
theorem E2 {ns:List Int} {k:Int} (h0:0≤k) (h1:k < ns.length):∃ z:Int,z∈ns∧t8 (ns.map D.int) k=some (.int z):=by
 obtain ⟨j,rfl⟩:∃ j:Nat,k=(j:Int):=⟨k.toNat,by omega⟩
 have hlt:j < ns.length:=by omega
 refine ⟨ns[j],List.getElem_mem hlt,kU ?_⟩
 rw [List.getElem?_map,List.getElem?_eq_getElem hlt]
 rfl
theorem kZ {q:Pl} {ps:List Pl}:inD q.d (ps.map Pl.d)=decide (q∈ps):=by
 unfold inD
 rw [Bool.eq_iff_iff,List.any_eq_true,decide_eq_true_eq]
 constructor
 ·rintro ⟨x,hx,e⟩
  obtain ⟨p,hp,rfl⟩:=List.mem_map.mp hx
  rw [jX] at e
  rw [← of_decide_eq_true e];exact hp
 ·intro hq
  exact ⟨q.d,List.mem_map.mpr ⟨q,hq,rfl⟩,by rw [jX];exact decide_eq_true rfl⟩
theorem bU {ts:List Pl} {f:Pl→Bool} {i:Nat} {t:Pl} (h:ts[i]?=some t):(ts.take (i+1)).filter f=(ts.take i).filter f ++ (if f t=true then [t] else []):=by
 rw [List.take_succ,h,List.filter_append]
 congr 1
 show List.filter f [t]=_
 rw [List.filter_cons]
 rfl
theorem E3 (ds:List D):gj ds []=ds.isEmpty:=by
 cases ds <;> simp [gj]
theorem CT {ds:List D} (h:ds.all (plain 9)=true):gj ds ds=true:=by
 have:=rj 10 (.tup ds) h
 rwa [jd] at this
theorem E4 {α:Type} (g:α→D) (xs:List α) (n:Nat) (h:n≤xs.length):cutD (xs.map g) (some (n:Int)) none=(xs.drop n).map g:=by
 unfold cutD
 rw [HT.qG,HT.xW]
 rw [List.length_map,Nat.min_eq_left h,List.map_drop]
 exact List.take_of_length_le (by simp)
end L3
namespace Att
open PySem PySem.W PySem.Calls PyProof.Rows
def BE (z:Int):Prop:=Builtin.Int.intBits z≤1048576
theorem rO {N:Nat}:∀ {ns:List Int},WData.weightAll (ns.map WData.int)≤N→∀ z∈ns,Builtin.Int.intBits z≤N
 | [],_,z,m=>by cases m
 | n :: ns,h,z,m=>by
   have e:WData.weightAll ((n :: ns).map WData.int)=Builtin.Int.intBits n+1+WData.weightAll (ns.map WData.int):=by
    rw [List.map_cons]
    simp only [WData.weightAll,WData.weight,Builtin.Int.intBits]
   rw [e] at h
   rcases List.mem_cons.mp m with rfl | m
   ·omega
   ·exact rO (by omega) z m
theorem Ls {ns:List Int} (h:WData.layableAll [WData.list (ns.map WData.int)]=true):∀ z∈ns,BE z:=by
 have h:WData.layable (WData.list (ns.map WData.int))=true:=by simpa [WData.layableAll] using h
 unfold WData.layable at h
 have h:=of_decide_eq_true (Bool.and_eq_true_iff.mp h).2
 have e:WData.weight (WData.list (ns.map WData.int))=WData.weightAll (ns.map WData.int):=by simp only [WData.weight]
 rw [e] at h
 exact fun z m=>rO h z m
theorem vS {l:OpenLaw} {n:Nat} {q:Program} {loose:List Str} {XP:(Str→Option Value)→Heap→Prop} {YP:World→Heap→Prop} {d:DefRec}
 (hn:l.most=some n) (hdf:d.params.defaults= [])
 (call:∀ (w:World) (s₀ s₁:Shared) (mg mb:Str→Option Value) (fa:Addr) (o:Obj) (pm cd doc:Value) (a:Addr) (vs:List Value) (ns:List Int),
  Ground q loose [] XP w s₀ mg mb s₁.heap→YP w s₁.heap→
  s₁.heap.get? fa=some o→o.data= .func (docDef d.name d.params d.body d.scope pm cd doc)→s₁.heap.CodeRec cd d.name→mg d.name=some (.ref fa)→
  s₁.heap.get? a=some { cls:= .type "list",data:= .seq vs.toArray }→IntsAre vs ns→ns.length≤n→(∀ z∈ns,BE z)→s₁.gens= #[]→
  codeAny (model l.prog w) callerA (.call (.ref fa) ⟨[.ref a],[]⟩) (fun r s'=>r= .ok (.ret (.bool true))∧OldK s₁.heap s'.heap∧s'.os=s₁.os∧AllBare s'.gens) s₁) :
 WalkO q loose XP YP l.row.toRowW d [] (fun f vs=>PySem.call f vs):=by
 intro w s₀ s₁ mg mb G Y fa o pm cd doc dV kV ho hd hcd hD hmg hg args vals as hpre hlay hrd hwl hlo
 obtain rfl:dV= .none:=Dflts.none hD hdf
 obtain rfl:kV= .none:=Dflts.noKw hD
 obtain ⟨a,vs,ns,rfl,rfl,hobj,hints,hlen⟩:=CB hn hpre hwl
 refine enter_call (codeAny_mono (call w s₀ s₁ mg mb fa o pm cd doc a vs ns G Y ho (fd_plain hd) hcd hmg hobj hints hlen (Ls hlay) hg) fun r s' hq=>?_)
 obtain ⟨rfl,h2,h3,h4⟩:=hq
 exact ⟨.inl ⟨.bool true,.bool true,[],rfl,fun _=>rfl,.bool true,CC l _,fun _=>⟨List.Pairwise.nil,fun _ hm=>(nomatch hm)⟩⟩,h2,h3,h4⟩
end Att
namespace L2
open PySem PySem.Spec PyProof.Rows
end L2
namespace L3
open PySem PySem.Spec PyProof.Rows L2 Att
def E5:rA:=fun ds Q=> ∃ ns:List Int,ds= [.zU (ns.map D.int)]∧ns.length≤63∧(∀ z∈ns,BE z)∧Q (.bl true)
theorem Ij {K:PySem.W.Frag} {H:Hp} {a:Addr} {ns:List Int} {E:XK} (hl:ns.length≤63) (hb:∀ z∈ns,BE z) (hO:HE H) (hS:jb K H a (ns.map V.int)):qL K E5 [.ref a] H (fun v _=>v= .bl true) E:=by
 have hz:Fz K H a (ns.map V.int):=by
  rcases hS with (h | ⟨o,h⟩) | h
  ·rcases hO a with z | ⟨o,xs,z⟩
   ·rw [z] at h;cases h
   ·rw [z] at h;cases h
  ·exact .inl ⟨o,h⟩
  ·exact .inr h
 exact ⟨[.zU (ns.map D.int)],fun d=>d= .bl true,aB.one (mT.mpr ⟨a,_,rfl,hz,uR ns⟩),⟨ns,rfl,hl,hb,rfl⟩,fun d v H' q dv _=>by subst q;exact aS.mp dv⟩
def Lu (i j:Int):Prop:=MulOk i j∨Kq i j∨(BE i∧∃ n,Sm n j∧n≤1000)
theorem Lu.ok {i j:Int} (h:Lu i j):IntMulOk i j:=by
 rcases h with h | h | ⟨h,n,h1,h2⟩
 ·exact h.ok
 ·exact h.ok
 ·have:=qI h1
  exact IntMulOk.of_bits (Nat.le_trans h (by decide)) (Nat.le_trans this (by omega))
section
variable {X:Cx}
theorem iB:mQ X (binaryOp .Mult) (uM Lu fun i j=>i*j):=x8 (Nf fun _ _ _ _ _ _ _ hc q=>mul_int q hc.ok)
end
end L3
namespace L3
open PySem PySem.Spec PyProof.Rows L2
def c7:List Pl→List Pl→Bool
 | [],[]=>false
 | [],_ :: _=>true
 | _ :: _,[]=>false
 | p :: ps,q :: qs=>if p=q then c7 ps qs else decide (aI p q)
theorem pX:∀ ps,c7 ps ps=false
 | []=>rfl
 | p :: ps=>by unfold c7;rw [if_pos rfl];exact pX ps
theorem nt:∀ ps qs,c7 ps qs=true∨ps=qs∨c7 qs ps=true
 | [],[]=> .inr (.inl rfl)
 | [],_ :: _=> .inl rfl
 | _ :: _,[]=> .inr (.inr rfl)
 | p :: ps,q :: qs=>by
   unfold c7
   by_cases e:p=q
   ·subst e
    rw [if_pos rfl,if_pos rfl]
    rcases nt ps qs with h | h | h
    ·exact .inl h
    ·exact .inr (.inl (by rw [h]))
    ·exact .inr (.inr h)
   ·rw [if_neg e,if_neg (Ne.symm e)]
    rcases iA e with h | h
    ·exact .inl (decide_eq_true h)
    ·exact .inr (.inr (decide_eq_true h))
theorem l6:∀ ps qs rs,c7 ps qs=true→c7 qs rs=true→c7 ps rs=true
 | [],[],_,h,_=>by cases h
 | [],_ :: _,[],_,h=>by cases h
 | [],_ :: _,_ :: _,_,_=>rfl
 | _ :: _,[],_,h,_=>by cases h
 | _ :: _,_ :: _,[],_,h=>by cases h
 | p :: ps,q :: qs,r :: rs,h1,h2=>by
   unfold c7 at *
   by_cases e1:p=q
   ·subst e1
    rw [if_pos rfl] at h1
    by_cases e2:p=r
    ·rw [if_pos e2] at h2 ⊢;exact l6 ps qs rs h1 h2
    ·rw [if_neg e2] at h2 ⊢;exact h2
   ·rw [if_neg e1] at h1
    have b1:=of_decide_eq_true h1
    by_cases e2:q=r
    ·subst e2;rw [if_neg e1];exact h1
    ·rw [if_neg e2] at h2
     have b3:=bP b1 (of_decide_eq_true h2)
     rw [if_neg (rE b3)]
     exact decide_eq_true b3
def qi (n:Nat) (h:Heap) (v:Value) (ps:List Pl):Prop:=ps.length=n∧∃ (a:Addr) (o:Obj) (its:List Value) (m:Nat),v= .ref a∧h.get? a=some o∧o.cls= .type "tuple"∧o.data= .seq its.toArray m∧cX h its ps
theorem cX.grow {h h':Heap} (g:dQ h h'):∀ {us:List Value} {ps:List Pl},cX h us ps→cX h' us ps
 | _,_,.nil=> .nil
 | _,_,.cons a r=> .cons (a.grow g) (cX.grow g r)
theorem qi.grow {n:Nat} {h h':Heap} {v:Value} {ps:List Pl} (a:qi n h v ps) (g:dQ h h'):qi n h' v ps:=by
 obtain ⟨hl,b,o,its,m,h1,h2,h3,h4,h5⟩:=a
 exact ⟨hl,b,o,its,m,h1,g _ _ h2,h3,h4,h5.grow g⟩
theorem qi.inj {n:Nat} {h:Heap} {v:Value} {ps qs:List Pl} (a:qi n h v ps) (b:qi n h v qs):ps=qs:=by
 obtain ⟨_,a1,o,its,m,rfl,h2,h3,h4,h5⟩:=a
 obtain ⟨_,a2,o',its',m',e,k2,k3,k4,k5⟩:=b
 injection e with e
 subst e
 rw [h2] at k2
 injection k2 with k2
 subst k2
 rw [h4] at k4
 injection k4 with k4 _
 have k4:its=its':=by simpa using k4
 subst k4
 rw [← h5.keys,← k5.keys]
open Classical in
noncomputable def vU (n:Nat) (h:Heap):KeyKind where
 α:=List Pl
 blt p q:=c7 p q
 irrefl p:=pX p
 trans p q r a b:=l6 p q r a b
 negTrans p q r a:=by
  rcases nt p q with c | c | c
  ·exact .inl c
  ·subst c;exact .inr a
  ·exact .inr (l6 _ _ _ c a)
 total p q a b:=by
  rcases nt p q with c | c | c
  ·rw [a] at c;cases c
  ·exact c
  ·rw [b] at c;cases c
 keyOf v:=if e:∃ p,qi n h v p then some e.choose else none
 dflt:=[]
open Classical in
theorem vV {n:Nat} {h:Heap} {v:Value} {p:List Pl} (a:qi n h v p):(vU n h).keyOf v=some p:=by
 have e:∃ p,qi n h v p:=⟨p,a⟩
 show (if e:∃ p,qi n h v p then some e.choose else none)=some p
 rw [dif_pos e,qi.inj e.choose_spec a]
open Classical in
theorem E6 {n:Nat} {h:Heap} {v:Value} {p:List Pl} (a:(vU n h).keyOf v=some p):qi n h v p:=by
 have a:(if e:∃ p,qi n h v p then some e.choose else none)=some p:=a
 by_cases e:∃ p,qi n h v p
 ·rw [dif_pos e] at a
  have:=e.choose_spec
  rwa [Option.some.inj a] at this
 ·rw [dif_neg e] at a;cases a
section
variable {P:Program} {w:World} {A:Around} {E:Value→Shared→Prop} {s:Shared}
theorem rP {u v:Value} {p q:Pl} {Q:Bool→Shared→Prop} (hu:A.units < cLine) (a:lE s.heap u p) (b:lE s.heap v q) (h:Q (decide (p=q)) s):wpAny (model P w) A (eqBool u v) Q E s:=by
 obtain ⟨a1,o1,t1,u1,n1,rfl,h2,h3,h4⟩:=a
 obtain ⟨a2,o2,t2,u2,n2,rfl,k2,k3,k4⟩:=b
 refine wpAny_eqBool_tuple (knd:=intKind P w) (x:=[p.x,p.y]) (y:=[q.x,q.y]) hu ⟨o1,_,n1,h2,h3,h4,?_⟩ ⟨o2,_,n2,k2,k3,k4,?_⟩ ?_
 ·exact .cons (by simp [intKind,Value.isInt]) (.cons (by simp [intKind,Value.isInt]) .nil)
 ·exact .cons (by simp [intKind,Value.isInt]) (.cons (by simp [intKind,Value.isInt]) .nil)
 ·have e:decide ([p.x,p.y]= [q.x,q.y])=decide (p=q):=by
   rw [decide_eq_decide]
   cases p;cases q
   simp
  rw [e];exact h
theorem j5 {u v:Value} {p q:Pl} {Q:Bool→Shared→Prop} (hu:A.units < cLine) (a:lE s.heap u p) (b:lE s.heap v q) (h:Q (decide (aI p q)) s):wpAny (model P w) A (oneLt' false u v) Q E s:=by
 obtain ⟨l,its,rfl,h1,h2⟩:=a.tup
 obtain ⟨l',its',rfl,k1,k2⟩:=b.tup
 rw [oneLt'_eq]
 simp only [Bool.false_eq_true,if_false]
 apply wpAny_bind
 refine (HT.lV h1 k1 h2 k2 hu ?_:wpAny (model P w) A (compareOp .Lt (.ref l) (.ref l')) _ E s)
 refine wpAny_truthy_bool ?_
 rw [ng]
 exact h
theorem cX.cons_inv {h:Heap} {us:List Value} {p:Pl} {ps:List Pl} (a:cX h us (p :: ps)):∃ u vs,us=u :: vs∧lE h u p∧cX h vs ps:=by
 cases a with
 | cons a r=>exact ⟨_,_,rfl,a,r⟩
theorem cX.nil_inv {h:Heap} {us:List Value} (a:cX h us []):us= []:=by
 cases a
 rfl
theorem Ai {α:Type} {qs:List α} (h:qs.length=2):∃ u v,qs= [u,v]:=by
 match qs,h with
 | [u,v],_=>exact ⟨u,v,rfl⟩
theorem Oz {n:Nat} (hn:n=2∨n=3) {t:Shared} {x y:Value} {ps qs:List Pl} {R:Bool→Shared→Prop} (hu:A.units < cLine) (kx:qi n t.heap x ps) (ky:qi n t.heap y qs) (hR:R (c7 ps qs) t):wpAny (model P w) A (keyLt' (tuples' false) x y) R E t:=by
 obtain ⟨l1,a,o,its,m,rfl,h2,h3,h4,h5⟩:=kx
 obtain ⟨l2,b,o',its',m',rfl,k2,k3,k4,k5⟩:=ky
 rw [uU]
 apply wpAny_bind;apply listItems_at h2 h4
 apply wpAny_bind;apply listItems_at k2 k4
 rcases hn with rfl | rfl
 ·obtain ⟨p1,p2,rfl⟩:=Ai l1
  obtain ⟨q1,q2,rfl⟩:=Ai l2
  obtain ⟨u1,us,rfl,a1,h5⟩:=h5.cons_inv
  obtain ⟨u2,us,rfl,a2,h5⟩:=h5.cons_inv
  obtain rfl:=h5.nil_inv
  obtain ⟨v1,vs,rfl,b1,k5⟩:=k5.cons_inv
  obtain ⟨v2,vs,rfl,b2,k5⟩:=k5.cons_inv
  obtain rfl:=k5.nil_inv
  ·clear h2 h4 k2 k4 h3 k3
   simp only [List.toList_toArray,List.zip_cons_cons,List.zip_nil_right,List.zipIdx_cons,List.zipIdx_nil,List.forIn_cons,List.forIn_nil,bind_assoc,Bool.false_and]
   apply wpAny_bind
   refine rP hu a1 b1 ?_
   unfold c7 at hR
   by_cases e1:p1=q1
   ·rw [if_pos e1] at hR
    rw [decide_eq_true e1]
    simp only [Bool.not_true,Bool.false_eq_true,if_false,pure_bind,bind_assoc]
    apply wpAny_bind
    refine rP hu a2 b2 ?_
    unfold c7 at hR
    by_cases e2:p2=q2
    ·rw [if_pos e2] at hR
     rw [decide_eq_true e2]
     simp only [Bool.not_true,Bool.false_eq_true,if_false,pure_bind]
     exact wpAny_pure hR
    ·rw [if_neg e2] at hR
     rw [decide_eq_false e2]
     simp only [Bool.not_false,if_true,bind_assoc,pure_bind]
     apply wpAny_bind
     exact j5 hu a2 b2 (wpAny_pure hR)
   ·rw [if_neg e1] at hR
    rw [decide_eq_false e1]
    simp only [Bool.not_false,if_true,bind_assoc,pure_bind]
    apply wpAny_bind
    exact j5 hu a1 b1 (wpAny_pure hR)
 ·obtain ⟨p1,p2,p3,rfl⟩:=iQ l1
  obtain ⟨q1,q2,q3,rfl⟩:=iQ l2
  obtain ⟨u1,us,rfl,a1,h5⟩:=h5.cons_inv
  obtain ⟨u2,us,rfl,a2,h5⟩:=h5.cons_inv
  obtain ⟨u3,us,rfl,a3,h5⟩:=h5.cons_inv
  obtain rfl:=h5.nil_inv
  obtain ⟨v1,vs,rfl,b1,k5⟩:=k5.cons_inv
  obtain ⟨v2,vs,rfl,b2,k5⟩:=k5.cons_inv
  obtain ⟨v3,vs,rfl,b3,k5⟩:=k5.cons_inv
  obtain rfl:=k5.nil_inv
  ·clear h2 h4 k2 k4 h3 k3
   simp only [List.toList_toArray,List.zip_cons_cons,List.zip_nil_right,List.zipIdx_cons,List.zipIdx_nil,List.forIn_cons,List.forIn_nil,bind_assoc,Bool.false_and]
   apply wpAny_bind
   refine rP hu a1 b1 ?_
   unfold c7 at hR
   by_cases e1:p1=q1
   ·rw [if_pos e1] at hR
    rw [decide_eq_true e1]
    simp only [Bool.not_true,Bool.false_eq_true,if_false,pure_bind,bind_assoc]
    apply wpAny_bind
    refine rP hu a2 b2 ?_
    unfold c7 at hR
    by_cases e2:p2=q2
    ·rw [if_pos e2] at hR
     rw [decide_eq_true e2]
     simp only [Bool.not_true,Bool.false_eq_true,if_false,pure_bind,bind_assoc]
     apply wpAny_bind
     refine rP hu a3 b3 ?_
     unfold c7 at hR
     by_cases e3:p3=q3
     ·rw [if_pos e3] at hR
      rw [decide_eq_true e3]
      simp only [Bool.not_true,Bool.false_eq_true,if_false,pure_bind]
      exact wpAny_pure hR
     ·rw [if_neg e3] at hR
      rw [decide_eq_false e3]
      simp only [Bool.not_false,if_true,bind_assoc,pure_bind]
      apply wpAny_bind
      exact j5 hu a3 b3 (wpAny_pure hR)
    ·rw [if_neg e2] at hR
     rw [decide_eq_false e2]
     simp only [Bool.not_false,if_true,bind_assoc,pure_bind]
     apply wpAny_bind
     exact j5 hu a2 b2 (wpAny_pure hR)
   ·rw [if_neg e1] at hR
    rw [decide_eq_false e1]
    simp only [Bool.not_false,if_true,bind_assoc,pure_bind]
    apply wpAny_bind
    exact j5 hu a1 b1 (wpAny_pure hR)
theorem E7 {n:Nat} (hn:n=2∨n=3) (hu:A.units < cLine) {h:Heap} {t:Shared} (g:dQ h t.heap):Ask P w A t (vU n h) (tuples' false):=
 ⟨fun E x y p q R kx ky hR=>Oz hn hu ((E6 kx).grow g) ((E6 ky).grow g) hR⟩
theorem BF {n:Nat} (hn:n=2∨n=3) {vs:List Value} (h2:1≤vs.length) (hv:∀ v∈vs,∃ p,qi n s.heap v p) {Q:SortKind→Shared→Prop} (h:Q (tuples' false) s):wpAny (model P w) A (keyKind' vs.toArray) Q E s:=by
 rw [keyKind'_eq,List.mapM_toArray]
 simp only [bind_map_left]
 apply wpAny_bind
 refine m9 (fun _ b=> ∃ u p,b=some u∧lE s.heap u p) vs _ (fun v hm Q hQ=>?_) fun bs hb=>?_
 ·obtain ⟨ps,hl,a,o,its,m,rfl,k2,k3,k4,k5⟩:=hv v hm
  rw [uV]
  apply wpAny_bind
  refine wpAny_typeOf (T:= "tuple") ⟨o,k2,k3⟩ ?_
  have e:(Value.type "tuple" !=Value.type "tuple")=false:=by decide
  rw [e]
  simp only [Bool.false_eq_true,if_false,pure_bind]
  apply wpAny_bind;apply listItems_at k2 k4
  cases ps with
  | nil=>simp at hl;omega
  | cons p ps=>
    obtain ⟨u,us,rfl,a,_⟩:=k5.cons_inv
    exact wpAny_pure (hQ _ ⟨u,p,rfl,a⟩)
 ·have all:∀ (vs:List Value) (bs:List (Option Value)),Paired (fun _ b=> ∃ u p,b=some u∧lE s.heap u p) vs bs→bs.length=vs.length∧(∀ b∈bs,∃ u p,b=some u∧lE s.heap u p):=by
   intro vs
   induction vs with
   | nil=>intro bs q;cases q;exact ⟨rfl,fun _ z=>by cases z⟩
   | cons v vs ih=>
     intro bs q
     cases q with
     | cons q1 q2=>
       obtain ⟨l,m⟩:=ih _ q2
       refine ⟨by simp [l],fun b hb=>?_⟩
       rcases List.mem_cons.mp hb with rfl | hb
       ·exact q1
       ·exact m b hb
  obtain ⟨hl,hm⟩:=all vs bs hb
  have c:(bs.toArray.all fun b=>b.isSome)=true:=by
   simp only [List.all_toArray,List.all_eq_true]
   intro b hb
   obtain ⟨u,p,rfl,_⟩:=hm b hb
   rfl
  rw [if_pos c]
  apply wpAny_bind;apply wpAny_rule
  rw [oneTypeOnly'_eq]
  have ef:bs.toArray.filterMap id=(bs.filterMap id).toArray:=by simp
  rw [ef,List.mapM_toArray]
  simp only [bind_map_left,bind_assoc]
  apply wpAny_bind
  refine m9 (fun _ b=>b=Value.type "tuple") _ _ (fun v hv' Q hQ=>?_) fun cs hc=>?_
  ·obtain ⟨b,hb1,hb2⟩:=List.mem_filterMap.mp hv'
   obtain ⟨u,p,rfl,a,o,t,u',m,rfl,k2,k3,k4⟩:=hm b hb1
   have hb2:some (Value.ref a)=some v:=hb2
   cases hb2
   exact wpAny_typeOf (T:= "tuple") ⟨o,k2,k3⟩ (hQ _ rfl)
  ·have len:1≤(bs.filterMap id).length:=by
    cases bs with
    | nil=>simp at hl;omega
    | cons b bs=>
      obtain ⟨u,p,rfl,_⟩:=hm b (List.mem_cons_self ..)
      simp
   have all2:∀ (us cs:List Value),Paired (fun _ b=>b=Value.type "tuple") us cs→cs=us.map fun _=>Value.type "tuple" :=by
    intro us
    induction us with
    | nil=>intro cs q;cases q;rfl
    | cons u us ih=>intro cs q;cases q with | cons q1 q2=>rw [q1,ih _ q2];rfl
   rw [all2 _ _ hc]
   generalize bs.filterMap id=us at len
   cases us with
   | nil=>simp at len
   | cons u us=>
     have e0:(List.map (fun _=>Value.type "tuple") (u :: us)).toArray[0]?=some (Value.type "tuple"):=by simp
     rw [e0]
     have e1:((List.map (fun _=>Value.type "tuple") (u :: us)).toArray.all fun x=>x == Value.type "tuple")=true:=by
      simp only [List.all_toArray,List.all_map,List.all_eq_true]
      intro _ _;rfl
     simp only [e1,if_true,pure_bind]
     exact wpAny_pure h
end
noncomputable def iC (n:Nat) (h:Heap) (v:Value):List Pl:=Option.getD (α:=List Pl) ((vU n h).keyOf v) []
theorem qN {n:Nat} {h:Heap} {v:Value} {p:List Pl} (a:qi n h v p):iC n h v=p:=by
 unfold iC
 have e:(vU n h).keyOf v=some p:=vV a
 exact congrArg (fun o=>Option.getD (α:=List Pl) o []) e
def iD (n:Nat) (h:Heap):List Value→List (List Pl)→Prop:=Paired (qi n h)
theorem iD.keys {n:Nat} {h:Heap}:∀ {us:List Value} {ps:List (List Pl)},iD n h us ps→us.map (iC n h)=ps
 | _,_,.nil=>rfl
 | _,_,.cons a r=>by rw [List.map_cons,qN a,iD.keys r]
theorem iD.mem {n:Nat} {h:Heap}:∀ {us:List Value} {ps:List (List Pl)} {v:Value},iD n h us ps→v∈us→∃ p,qi n h v p
 | _,_,v,.nil,m=>by cases m
 | _,_,v,.cons a r,m=>by
   rcases List.mem_cons.mp m with rfl | m
   ·exact ⟨_,a⟩
   ·exact iD.mem r m
theorem yj {n:Nat} (hn:n=2∨n=3) {P:Program} {w:World} {A:Around} {E:Value→Shared→Prop} {s:Shared} {l:Addr} {vs:List Value} {ps:List (List Pl)} {Q:Value→Shared→Prop} (hu:A.units+64 < cLine) (hl:s.heap.IsList l vs.toArray) (hv:iD n s.heap vs ps) (h64:vs.length < 64)
 (h:∀ (out:List Value) (qs:List (List Pl)),(∀ v∈out,v∈vs)→qs=out.map (iC n s.heap)→qs.Perm ps→qs.Pairwise (fun p q=>c7 q p=false)→Q (.ref (s.heap.objs.size+1)) { s with heap:=sortedAll s.heap vs out.toArray }) :
 wpAny (model P w) A (call (.builtin "sorted") [.ref l]) Q E s:=by
 have hk:KeysOf (vU n s.heap) (pairsOf vs):=fun p hp=>by
  rw [pairsOf_toList] at hp
  obtain ⟨q,a⟩:=hv.mem (bT hp).2
  exact ⟨q,vV a⟩
 refine uT (κ:=vU n s.heap) (kd:=tuples' false) hl hk (fun t E Q g h2 q=>BF hn (by omega) (fun v m=>?_) q) (fun t g=>E7 hn (by show A.units+1+1 < cLine;omega) g) h64 fun y hp hs=>?_
 ·obtain ⟨p,a⟩:=hv.mem m
  exact ⟨p,a.grow g⟩
 ·have pl:y.toList.Perm (vs.zip vs):=by rw [← pairsOf_toList];exact Array.perm_iff_toList_perm.mp hp
  have same:∀ p∈y.toList,p.1=p.2∧p.1∈vs:=fun p m=>bT (pl.mem_iff.mp m)
  have eo:y.map (·.2)=(y.toList.map (·.2)).toArray:=by rw [← Array.toList_map,Array.toArray_toList]
  rw [eo]
  refine h (y.toList.map (·.2)) _ (fun v m=>?_) rfl ?_ ?_
  ·obtain ⟨p,m2,rfl⟩:=List.mem_map.mp m
   rw [← (same p m2).1];exact (same p m2).2
  ·have q:=(pl.map (fun p=>p.2)).map (iC n s.heap)
   have e:(vs.zip vs).map (fun p=>p.2)=vs:=List.map_snd_zip (Nat.le_refl _)
   rw [e,hv.keys] at q
   exact q
  ·rw [List.pairwise_iff_getElem]
   intro i j hi hj hij
   have li:i < y.size:=by simpa using hi
   have lj:j < y.size:=by simpa using hj
   have q:=hs i j (Nat.le_of_lt hij) (by rw [← hp.size_eq];exact lj)
   have key:∀ k (hk:k < y.size),KK (vU n s.heap) y k=iC n s.heap y[k].2:=fun k hk=>by
    unfold KK
    rw [getElem?_pos y k hk]
    show Option.getD (α:=List Pl) ((vU n s.heap).keyOf y[k].1) []=_
    rw [(same y[k] (by simp)).1]
    rfl
   have q:(vU n s.heap).blt (KK (vU n s.heap) y j) (KK (vU n s.heap) y i)=false:=q
   rw [key i li,key j lj] at q
   have q:c7 (iC n s.heap y[j].2) (iC n s.heap y[i].2)=false:=q
   simpa using q
def tD (ps:List Pl):D:= .tup (ps.map Pl.d)
theorem E8 {n:Nat} {P:Program} {w:World} {K:PySem.W.Frag} {H:Hp} {h:Heap} {ps:List Pl} {x:V} {u:Value} (ok:i7 P w H h) (hl:ps.length=n) (d:Dat K H (tD ps) x) (r:RelV x u):qi n h u ps:=by
 obtain ⟨a,xs,rfl,ha,hx⟩:=aR.mp d
 obtain rfl:u=Value.ref a:=r
 obtain ⟨its,rv,⟨o,h1,h2,m,h3⟩,_⟩:=c6 ok ha
 exact ⟨hl,a,o,its,m,rfl,h1,h2,h3,iP ok hx rv⟩
theorem oO {n:Nat} {P:Program} {w:World} {K:PySem.W.Frag} {H:Hp} {h:Heap} (ok:i7 P w H h):∀ {ps:List (List Pl)} {xs:List V} {us:List Value},(∀ p∈ps,p.length=n)→aB K H (ps.map tD) xs→Vals xs us→iD n h us ps
 | [],xs,us,_,d,r=>by rw [aH.mp d] at r;cases r;exact .nil
 | p :: ps,xs,us,hl,d,r=>by
   obtain ⟨v,vs,rfl,d1,d2⟩:=aA.mp d
   cases r with
   | cons r1 r2=>exact .cons (E8 ok (hl p (List.mem_cons_self ..)) d1 r1) (oO ok (fun q hq=>hl q (List.mem_cons_of_mem _ hq)) d2 r2)
theorem l7 {n:Nat} {K:PySem.W.Frag} {H:Hp} {h:Heap} {P:Program} {w:World} (ok:i7 P w H h) {ps:List (List Pl)} {zs:List V} {vs:List Value} (hl:∀ p∈ps,p.length=n) (d:aB K H (ps.map tD) zs) (r:Vals zs vs):∀ (out:List Value),(∀ v∈out,v∈vs)→
 ∃ ws,Vals ws out∧aB K H ((out.map (iC n h)).map tD) ws
 | [],_=>⟨[],.nil,aH.mpr rfl⟩
 | v :: out,m=>by
   obtain ⟨ws,h1,h2⟩:=l7 ok hl d r out fun u hu=>m u (List.mem_cons_of_mem _ hu)
   have one:∀ {ps:List (List Pl)} {zs:List V} {vs:List Value},(∀ p∈ps,p.length=n)→aB K H (ps.map tD) zs→Vals zs vs→v∈vs→∃ (p:List Pl) (x:V),p.length=n∧RelV x v∧Dat K H (tD p) x:=by
    intro ps
    induction ps with
    | nil=>intro zs vs _ d r m;rw [aH.mp d] at r;cases r;cases m
    | cons p ps ih=>
      intro zs vs hl d r m
      obtain ⟨x,xs,rfl,d1,d2⟩:=aA.mp d
      cases r with
      | cons r1 r2=>
        rcases List.mem_cons.mp m with rfl | m
        ·exact ⟨p,x,hl p (List.mem_cons_self ..),r1,d1⟩
        ·exact ih (fun q hq=>hl q (List.mem_cons_of_mem _ hq)) d2 r2 m
   obtain ⟨p,x,lp,rx,dx⟩:=one hl d r (m v (List.mem_cons_self ..))
   refine ⟨x :: ws,.cons rx h1,?_⟩
   rw [List.map_cons,List.map_cons,qN (E8 ok lp dx rx)]
   exact aA.mpr ⟨x,ws,rfl,dx,h2⟩
section
variable {X:Cx}
def E9 (n:Nat):List D→Mp→DK→Prop:=fun ds M Q=> ∃ (l:Addr) (ps:List (List Pl)),ds= [.ref l]∧M l=some (.lst (ps.map tD))∧(∀ p∈ps,p.length=n)∧ps.length < 64∧∀ (p:Addr) (qs:List (List Pl)),M p=none→qs.Perm ps→qs.Pairwise (fun p q=>c7 q p=false)→Q (.ref p) (ay M p (.lst (qs.map tD)))
theorem oQ {n:Nat} (hn:n=2∨n=3) (hu:X.A.units+64 < cLine):Call3 X (.builtin "sorted") (E9 n):=by
 constructor
 intro pins s σ H M xs ds us Q I rm rs dx ⟨l,ps,e,hM,OA,h64,q⟩
 subst e
 obtain ⟨v,rfl,hv⟩:=pR dx
 obtain rfl:=aK.mp hv
 obtain ⟨u,rfl,r1⟩:=vals1 rs
 obtain rfl:u=Value.ref l:=r1
 obtain ⟨zs,hH,hz⟩:=rm.lst hM
 obtain ⟨its,rv,pl,hsz⟩:=I.list (jb.of (K:=X.K) hH)
 have hl:its.length=ps.length:=by rw [Vals.len rv,← hz.length,List.length_map]
 refine yj hn hu pl.isList (oO I.hok OA hz rv) (by omega) fun out qs hm eq hp hs=>?_
 obtain ⟨ws,w1,w2⟩:=l7 I.hok OA hz rv out hm
 rw [← eq] at w2
 obtain ⟨m,hm'⟩:=sortedAll_at s.heap its out.toArray
 have fr:H (s.heap.objs.size+1)=none:=I.hok.fresh (Nat.le_succ _)
 have zw:ws.length≤sizeLine:=by
  rw [← w2.length,List.length_map,hp.length_eq,sizeLine_eq];omega
 refine ⟨.ref (s.heap.objs.size+1),upd H (s.heap.objs.size+1) (.lst ws),I.laid (t':=s.toks) (fun b o e=>sortedAll_old e) (Nat.le_succ _) ⟨zw,out,m,w1,hm'⟩,rfl,.ref _,ay M _ (.lst (qs.map tD)),Fr.new fr fun _ hb=>aP hb,aK.mpr rfl,rm.newL fr w2,q _ _ (rm.free fr) hp hs⟩
end
end L3
namespace L3
open PySem
def gv (t:List Pl):Prop:= ∃ u v w,t= [u,v,w]∧aI u v∧aI u w∧0 < tw u v w
theorem gv.uniq {s t:List Pl} (hs:gv s) (ht:gv t) (h:s.Perm t):s=t:=by
 obtain ⟨u,v,w,rfl,b1,b2,p1⟩:=hs
 obtain ⟨a,b,c,rfl,c1,c2,p2⟩:=ht
 rcases uX h with ⟨rfl,rfl,rfl⟩ | ⟨rfl,rfl,rfl⟩ | ⟨rfl,rfl,rfl⟩ | ⟨rfl,rfl,rfl⟩ | ⟨rfl,rfl,rfl⟩ | ⟨rfl,rfl,rfl⟩
 ·rfl
 ·rw [jY] at p2;omega
 ·exact absurd c1 (aE b1)
 ·exact absurd c1 (aE b2)
 ·exact absurd c2 (aE b1)
 ·exact absurd c2 (aE b2)
theorem JM {a b c:Pl} (h:tw a b c≠0):a≠b∧a≠c∧b≠c:=
 ⟨fun e=>by subst e;rw [gp] at h;exact h rfl,fun e=>by subst e;rw [gq] at h;exact h rfl,fun e=>by subst e;rw [rD] at h;exact h rfl⟩
def Fb (a b c:Pl):List Pl:=if aI a b∧aI a c then [a,b,c] else if aI b c then [b,c,a] else [c,a,b]
theorem BG {a b c:Pl} (h:0 < tw a b c):gv (Fb a b c)∧(Fb a b c).Perm [a,b,c]:=by
 obtain ⟨n1,n2,n3⟩:=JM (show tw a b c≠0 by omega)
 unfold Fb
 by_cases k:aI a b∧aI a c
 ·rw [if_pos k]
  exact ⟨⟨a,b,c,rfl,k.1,k.2,h⟩,.refl _⟩
 ·rw [if_neg k]
  by_cases k2:aI b c
  ·rw [if_pos k2]
   refine ⟨⟨b,c,a,rfl,k2,?_,by rw [lZ];exact h⟩,(List.perm_append_comm (l₁:=[b,c]) (l₂:=[a]))⟩
   rcases iA n1 with z | z
   ·exact absurd ⟨z,bP z k2⟩ k
   ·exact z
  ·rw [if_neg k2]
   have cb:aI c b:=by rcases iA n3 with z | z;exact absurd z k2;exact z
   have ca:aI c a:=by
    rcases iA n2 with z | z
    ·exact absurd ⟨bP z cb,z⟩ k
    ·exact z
   exact ⟨⟨c,a,b,rfl,ca,cb,by rw [← lZ c a b];exact h⟩,(List.perm_append_comm (l₁:=[c]) (l₂:=[a,b]))⟩
def oR (a b c:Pl):List Pl:=if 0 < tw a b c then Fb a b c else Fb a c b
theorem rQ {a b c:Pl} (h:tw a b c≠0):gv (oR a b c)∧(oR a b c).Perm [a,b,c]:=by
 unfold oR
 by_cases k:0 < tw a b c
 ·rw [if_pos k];exact BG k
 ·rw [if_neg k]
  obtain ⟨h1,h2⟩:=BG (a:=a) (b:=c) (c:=b) (by rw [jY];omega)
  exact ⟨h1,h2.trans (.cons a (.swap b c []))⟩
theorem BH {u v w a b c:Pl} (h: [u,v,w].Perm [a,b,c]):tw u v w≠0↔tw a b c≠0:=by
 rcases uX h with ⟨rfl,rfl,rfl⟩ | ⟨rfl,rfl,rfl⟩ | ⟨rfl,rfl,rfl⟩ | ⟨rfl,rfl,rfl⟩ | ⟨rfl,rfl,rfl⟩ | ⟨rfl,rfl,rfl⟩
 ·exact Iff.rfl
 ·rw [jY u v w];omega
 ·rw [eL u v w];omega
 ·rw [lZ w u v]
 ·rw [← lZ u v w]
 ·rw [eL v w u,lZ u v w];omega
theorem rR {t:List Pl} {a b c:Pl} (ht:gv t) (h:t.Perm [a,b,c]):tw a b c≠0∧t=oR a b c:=by
 have hn:tw a b c≠0:=by
  obtain ⟨u,v,w,rfl,_,_,p⟩:=ht
  exact (BH h).mp (by omega)
 obtain ⟨h1,h2⟩:=rQ hn
 exact ⟨hn,ht.uniq h1 (h.trans h2.symm)⟩
theorem rS {a b c u v w:Pl} (hn:tw a b c≠0) (hp: [u,v,w].Perm [a,b,c]) (hs: [u,v,w].Pairwise (fun p q=> ¬ aI q p)) :
 oR a b c=if 0 < tw u v w then [u,v,w] else [u,w,v]:=by
 have hn2:tw u v w≠0:=(BH hp).mpr hn
 obtain ⟨n1,n2,n3⟩:=JM hn2
 have b1:aI u v:=by rcases iA n1 with z | z;exact z;exact absurd z ((List.pairwise_cons.mp hs).1 v (by simp))
 have b2:aI u w:=by rcases iA n2 with z | z;exact z;exact absurd z ((List.pairwise_cons.mp hs).1 w (by simp))
 by_cases k:0 < tw u v w
 ·rw [if_pos k]
  exact (rR ⟨u,v,w,rfl,b1,b2,k⟩ hp).2.symm
 ·rw [if_neg k]
  exact (rR ⟨u,w,v,rfl,b2,b1,by rw [jY];omega⟩ ((List.Perm.cons u (.swap v w [])).trans hp)).2.symm
def one (ok:List Pl→Bool) (a b c:Pl):List (List Pl):=if tw a b c≠0∧ok (oR a b c)=true then [oR a b c] else []
def c2:Nat→Nat | 0=>0 | m+1=>c2 m+m
def c3:Nat→Nat | 0=>0 | k+1=>c3 k+c2 k
end L3
namespace L3
open PySem PySem.Spec PyProof.Rows L2
theorem Lv {u v w:Pl} (k:cZ (.int (tw u v w).sign) (.int 1)=true):0 < tw u v w:=by
 rw [cA] at k
 exact Int.sign_eq_one_iff_pos.mp (eq_of_beq k)
theorem Ik {u v w:Pl} (k:¬ cZ (.int (tw u v w).sign) (.int 1)=true):¬ 0 < tw u v w:=fun z=>by
 apply k
 rw [cA,Int.sign_eq_one_of_pos z]
 rfl
theorem fm {ts:List (List Pl)} {i:Nat} {x:D} (h:(ts.map tD)[i]?=some x):∃ t,ts[i]?=some t∧x=tD t:=by
 rw [List.getElem?_map] at h
 cases e:ts[i]? with
 | none=>rw [e] at h;cases h
 | some p=>rw [e] at h;exact ⟨p,rfl,(Option.some.inj h).symm⟩
theorem cz {ts:List (List Pl)} {f:List Pl→Bool} {i:Nat} {t:List Pl} (h:ts[i]?=some t):(ts.take (i+1)).filter f=(ts.take i).filter f ++ (if f t=true then [t] else []):=by
 rw [List.take_succ,h,List.filter_append]
 congr 1
 show List.filter f [t]=_
 rw [List.filter_cons]
 rfl
theorem vW {p q:Int} (h:p*p+q*q=0):p=0∧q=0:=by
 have sq:∀ z:Int,0≤z*z:=fun z=>by
  rcases Int.le_total 0 z with w | w
  ·exact Int.mul_nonneg w w
  ·exact Int.mul_nonneg_of_nonpos_of_nonpos w w
 have h1:=sq p
 have h2:=sq q
 have e1:p*p=0:=by omega
 have e2:q*q=0:=by omega
 exact ⟨(Int.mul_eq_zero.mp e1).elim id id,(Int.mul_eq_zero.mp e2).elim id id⟩
theorem CU {p q r s x y:Int} (h1:p*s=q*r) (h2:(p*p+q*q)*(r*y - s*x)=(r*r+s*s)*(p*y - q*x)) (hT:(r*y - s*x) - (p*y - q*x)≠0):(p=0∧q=0)∨(r=0∧s=0):=by
 by_cases k:p*y - q*x=0
 ·rw [k,Int.mul_zero] at h2
  rcases Int.mul_eq_zero.mp h2 with z | z
  ·exact .inl (vW z)
  ·exact absurd (by rw [z,k];rfl) hT
 ·have e:(p*r+q*s - (r*r+s*s))*(p*y - q*x)=0:=by grind
  rcases Int.mul_eq_zero.mp e with z | z
  ·have f:((p - r)*(p - r)+(q - s)*(q - s))*(r*r+s*s)=0:=by grind
   rcases Int.mul_eq_zero.mp f with w | w
   ·obtain ⟨w1,w2⟩:=vW w
    exfalso
    apply hT
    have:p=r:=by omega
    have:q=s:=by omega
    subst p q
    omega
   ·exact .inr (vW w)
  ·exact absurd z k
theorem BI {a b c d:Pl} (hT:tw a b c≠0) (hd:dep a b c d=0) (hl:tw b c d=0):d=b∨d=c:=by
 have key:=CU (p:=b.x - d.x) (q:=b.y - d.y) (r:=c.x - d.x) (s:=c.y - d.y) (x:=a.x - d.x) (y:=a.y - d.y) (by unfold tw at hl;grind) (by unfold dep xM at hd;unfold tw at hd hl;grind) (by intro z;apply hT;unfold tw at hl ⊢;grind)
 rcases key with ⟨z1,z2⟩ | ⟨z1,z2⟩
 ·left;cases b;cases d;simp at z1 z2 ⊢;omega
 ·right;cases c;cases d;simp at z1 z2 ⊢;omega
theorem CV {a b c d:Pl} (b1:aI a b) (b2:aI a c) (h:0 < tw a b c) (hd:¬ (d=a∨d=b∨d=c)) (h0:dep a b c d=0):decide (gS a b c d)=(decide (aI d a) || decide (tw b c d < 0)):=by
 have hn:tw a b c≠0:=by omega
 rw [uY hn (kY h0) hd (.refl _) (aE b1) (aE b2)]
 have nz:tw b c d≠0:=fun z=>by
  rcases BI hn h0 z with e | e
  ·exact hd (.inr (.inl e))
  ·exact hd (.inr (.inr e))
 by_cases k:aI d a
 ·rw [if_pos k,decide_eq_true k];rfl
 ·rw [if_neg k,decide_eq_false k,Bool.false_or,decide_eq_decide,lZ a b c,Int.sign_eq_one_of_pos h]
  constructor
  ·intro z
   apply Classical.byContradiction
   intro w
   exact z (Int.sign_eq_one_of_pos (by omega))
  ·intro z w
   have:=Int.sign_eq_one_iff_pos.mp w
   omega
theorem pY:∀ {as bs:List (List Pl)},as.Perm bs→as.Pairwise (fun a b=>c7 b a=false)→bs.Pairwise (fun a b=>c7 b a=false)→as=bs
 | [],bs,h,_,_=>by rw [List.nil_perm.mp h]
 | a :: as,[],h,_,_=>by simp at h
 | a :: as,b :: bs,h,h1,h2=>by
   obtain ⟨p1,p2⟩:=List.pairwise_cons.mp h1
   obtain ⟨q1,q2⟩:=List.pairwise_cons.mp h2
   have e:a=b:=by
    have ma:a∈b :: bs:=h.mem_iff.mp (List.mem_cons_self ..)
    have mb:b∈a :: as:=h.mem_iff.mpr (List.mem_cons_self ..)
    rcases List.mem_cons.mp ma with e | ma
    ·exact e
    rcases List.mem_cons.mp mb with e | mb
    ·exact e.symm
    rcases nt a b with c | c | c
    ·rw [q1 a ma] at c;cases c
    ·exact c
    ·rw [p1 b mb] at c;cases c
   subst e
   rw [pY ((List.perm_cons a).mp h) p2 q2]
theorem gA (fs:List (List Pl)):(fs.map tD).all (plain 9)=true:=by
 rw [List.all_eq_true]
 intro d hd
 obtain ⟨t,_,rfl⟩:=List.mem_map.mp hd
 show (t.map Pl.d).all (plain 8)=true
 rw [List.all_eq_true]
 intro d hd
 obtain ⟨p,_,rfl⟩:=List.mem_map.mp hd
 rfl
end L3
namespace L3
open PySem PySem.Spec PyProof.Rows L2 Att
theorem BJ {a b c:Pl} (h:tw a b c≠0):(oR a b c).length=3:=by
 obtain ⟨⟨u,v,w,e,_⟩,_⟩:=rQ h
 rw [e];rfl
end L3
namespace PySem
open PySem.Calls PySem.W
theorem Aj:typeLookup (.type "list_reverseiterator") "__len__" =pure none:=by rw [typeLookup_type,builtinLookup_eq_fast];kernel_rfl
theorem Fc:typeLookup (.type "list_reverseiterator") "__length_hint__" =pure (some (.builtin "list_reverseiterator.__length_hint__")):=by rw [typeLookup_type,builtinLookup_eq_fast];kernel_rfl
theorem Il:isSubtype (.type "list_reverseiterator") (.type "list_reverseiterator")=pure true:=by rw [isSubtype_type];kernel_rfl
section
variable {prog:Program} {w:World} {A:Around} {s:Shared} {R:Result→Shared→Prop} {E:Value→Shared→Prop}
variable {I:Addr} {fp wr:List Addr} {G:Array GenState→Array GenState→Prop} {n:Nat} {P:Nat→Value→Prop} {St:Nat→Shared→Prop}
theorem Fd {Q:Bool→Shared→Prop} (hT:s.TypeIs (.ref I) "list_reverseiterator") (h:Q false s):wpAny (model prog w) A (Builtin.List.listLengthHint (.ref I)) Q E s:=by
 unfold Builtin.List.listLengthHint
 refine wpAny_bind (wpAny_specialOf hT Aj ?_)
 show wpAny _ A (specialOf (Value.ref I) (Str.ofString "__length_hint__") >>= _) _ _ _
 refine wpAny_bind (wpAny_specialOf hT Fc ?_)
 have hs:splitId "list_reverseiterator.__length_hint__" =some ("list_reverseiterator","__length_hint__"):=by decide +kernel
 simp only [hs]
 refine wpAny_bind (wpAny_isInstance (T:= "list_reverseiterator") (b:=true) hT Il ?_)
 simp only [Bool.not_true,Bool.false_eq_true,if_false]
 exact wpAny_pure h
theorem oU (W:WalksS prog w A.in1 I fp wr G n P St) (hT:∀ i s,St i s→s.TypeIs (.ref I) "list_reverseiterator") (S:Addr) (res:Value) (c₀:Nat) (hst:St 0 s) (hSf:S∉fp) (hI:I∈fp)
 (hS:s.heap.get? S=some { cls:= .type "list",data:= .seq #[] c₀ })
 (hR:∀ s' acc' c',Moved (S :: wr) G s s'→s'.heap.get? S=some { cls:= .type "list",dict:=none,data:= .seq acc' c',slots:= #[] }→ItemsOf P acc' n→R (.ok (.ret res)) s') (hn:n≤sizeLine) :
 wpAny (model prog w) A.in1 (Builtin.List.listExtendWith (.ref S) (.ref I) res)
  (fun fin s'=>match fin with | .done f=>R (.ok f) s' | .again c'=>c'.quiet=true∧codeAny (model prog w) A c' R s') (fun e s'=>R (.error e) s') s:=by
 have hSI:S≠I:=fun e=>hSf (e▸hI)
 unfold Builtin.List.listExtendWith
 refine wpAny_bind (wpAny_typeOf (hT 0 _ hst) ?_)
 have h1:Builtin.List.listSameRef (.ref S) (.ref I)=false:=by simp [Builtin.List.listSameRef,hSI]
 have h2:(Value.type "list_reverseiterator" == Value.type "list")=false:=by decide
 have h3:(Value.type "list_reverseiterator" == Value.type "tuple")=false:=by decide
 simp only [h1,h2,h3,Bool.or_false,Bool.false_eq_true,if_false]
 refine wpAny_bind (W.self 0 _ _ _ hst ?_)
 refine wpAny_bind (wpAny_holding (Fd (hT 0 _ hst) ?_))
 show wpAny _ A.in1 (again (.builtin "list.extend.loop" ⟨[.ref S,.ref I,res],[]⟩)) _ _ _
 exact wpAny_pure ⟨plainId_quiet F.plain_extend_loop _,codeAny_extend_loopS W hn _ hSf _ n 0 _ _ _ rfl (Nat.zero_le _) hst hS (ItemsOf.nil P) fun s' acc' c' hm hS' hacc=>hR s' acc' c' hm hS' hacc⟩
theorem lF (W:WalksS prog w A.in1 I fp wr G n P St) (hT:∀ i s,St i s→s.TypeIs (.ref I) "list_reverseiterator") (S:Addr) (hst:St 0 s) (hSf:S∉fp) (hI:I∈fp)
 (hS:s.heap.get? S=some { cls:= .type "list",data:= .seq #[] })
 (hR:∀ s' acc' c',Moved (S :: wr) G s s'→s'.heap.get? S=some { cls:= .type "list",dict:=none,data:= .seq acc' c',slots:= #[] }→ItemsOf P acc' n→R (.ok (.ret .none)) s') (hn:n≤sizeLine) :
 wpAny (model prog w) A.in1 (Builtin.«list.__init__» ⟨[.ref S,.ref I],[]⟩)
  (fun fin s'=>match fin with | .done f=>R (.ok f) s' | .again c'=>c'.quiet=true∧codeAny (model prog w) A c' R s') (fun e s'=>R (.error e) s') s:=by
 show wpAny _ A.in1 (do let old ← Builtin.List.listItems (.ref S);Builtin.List.listUpdate (.ref S) (fun _=> #[]);letGo old.toList.reverse;Builtin.List.listExtendWith (.ref S) (.ref I) .none) _ _ s
 refine wpAny_bind ?_
 unfold Builtin.List.listItems
 refine wpAny_bind (wpAny_seqItems hS rfl (wpAny_pure ?_))
 show wpAny _ A.in1 (updateSeq S (fun _=> #[]) >>= fun _=>letGo (#[]:Array Value).toList.reverse >>= fun _=>Builtin.List.listExtendWith (.ref S) (.ref I) .none) _ _ s
 refine wpAny_bind (wpAny_updateSeq hS rfl ?_)
 have MG:=Heap.get?_update_self (Obj.mapSeq (fun _=>(#[]:Array Value))) hS rfl
 have Im:∀ b o,b≠S→s.heap.get? b=some o→(s.heap.update S (Obj.mapSeq (fun _=>(#[]:Array Value)))).get? b=some o:=
  fun b o hb e=>(Heap.get?_update_other _ _ (Ne.symm hb)).trans e
 refine wpAny_bind (wpAny_letGo ?_)
 refine oU W hT S .none _ (W.frame 0 s _ s.toks hst (Nat.le_refl _) fun b hb o e=>Im b o (fun h=>hSf (h▸hb)) e) hSf hI MG (fun s' acc' c' hm hS' hacc=>?_) hn
 exact hR s' acc' c' (Moved.trans W.gtrans ((Moved.refl W.grefl).then_heap (Nat.le_refl _) fun b o hb e=>Im b o (fun h=>hb (h▸List.mem_cons_self)) e) hm) hS' hacc
theorem um {Q:Value→Shared→Prop} (W:WalksS prog w A.in1.in1 I fp wr G n P St) (hT:∀ i s,St i s→s.TypeIs (.ref I) "list_reverseiterator") (hst:St 0 s) (hfp:∀ b∈fp,b < s.heap.objs.size) (hI:I∈fp)
 (hQ:∀ s' acc' c',Moved (s.heap.objs.size :: wr) G { s with heap:=s.heap.push { cls:= .type "list",data:= .seq #[] } } s'→
  s'.heap.get? s.heap.objs.size=some { cls:= .type "list",dict:=none,data:= .seq acc' c',slots:= #[] }→ItemsOf P acc' n→Q (.ref s.heap.objs.size) s') (hn:n≤sizeLine) :
 wpAny (model prog w) A (call (.type "list") [.ref I]) Q E s:=by
 have hSf:s.heap.objs.size∉fp:=fun hm=>Nat.lt_irrefl _ (hfp _ hm)
 refine callType_codes (Q₁:=fun obj s₁=>obj= .ref s.heap.objs.size∧s₁= { s with heap:=s.heap.push { cls:= .type "list",data:= .seq #[] } }) F.called_list (F.typeCall_list_1 _) F.entry_list_init
  (code_list_new _ ⟨rfl,rfl⟩) fun obj s₁ h₁=>?_
 obtain ⟨rfl,rfl⟩:=h₁
 have hS:(s.heap.push { cls:= .type "list",data:= .seq #[] }).get? s.heap.objs.size=some { cls:= .type "list",data:= .seq #[] }:=Heap.get?_push_size _ rfl
 refine ⟨⟨_,hS,rfl⟩,F.args_list_init_2 _ _,lF W hT _ (W.frame 0 s _ s.toks hst (Nat.le_refl _) fun b _ o e=>Heap.get?_push_of_some _ e) hSf hI hS (fun s' acc' c' hm hS' hacc=>?_) hn⟩
 exact ⟨rfl,hQ s' acc' c' hm hS' hacc⟩
end
end PySem
namespace L3
open PySem PySem.Spec PyProof.Rows L2
section
variable {X:Cx} {pos:Pos}
def Rq (to:cK):cK:=fun ρ M Q=>to ρ M fun d M1=> ∃ l xs y,d= .ref l∧M1 l=some (.lst (xs ++ [y]))∧Q y (ay M1 l (.lst xs))
theorem aB.snoc {K:PySem.W.Frag} {H:Hp}:∀ {ds:List D} {y:D} {xs:List V},aB K H (ds ++ [y]) xs→∃ zs v,xs=zs ++ [v]∧aB K H ds zs∧Dat K H y v
 | [],y,xs,h=>by
   obtain ⟨v,rfl,hv⟩:=pR h
   exact ⟨[],v,rfl,aH.mpr rfl,hv⟩
 | d :: ds,y,xs,h=>by
   obtain ⟨v,vs,rfl,h1,h2⟩:=aA.mp h
   obtain ⟨zs,u,rfl,h3,h4⟩:=aB.snoc h2
   exact ⟨v :: zs,u,rfl,aA.mpr ⟨v,zs,rfl,h1,h3⟩,h4⟩
theorem OB {o:Expr} {to:cK} {apos:Pos} (ho:bZ X o to) (Lc:PE X (.Call (.Attribute o "pop" apos) [] [] pos) (Nr X.K "list" Nu (dn X.K to))):bZ X (.Call (.Attribute o "pop" apos) [] [] pos) (Rq to):=
 up Lc fun σ H ρ M Q r q=>cN r q fun v H' d M' f dv r' ⟨l,xs,y,e1,hM,q2⟩=>by
  subst e1
  obtain rfl:=aK.mp dv
  obtain ⟨ys,ha,hy⟩:=r'.mem.lst hM
  obtain ⟨zs,u,rfl,h1,h2⟩:=aB.snoc hy
  refine ⟨.inl ⟨rfl,_,jb.of ha⟩,l,zs ++ [u],u,rfl,rfl,ha,by simp,?_⟩
  rw [List.dropLast_concat]
  exact ⟨y,ay M' l (.lst xs),f.trans (Fr.write (K:=X.K) hM),Dat.mono (Ext.jV ha) _ _ h2,r'.mem.jV ha h1,q2⟩
theorem yk {K:PySem.W.Frag} {H:Hp}:∀ {ds:List D} {xs:List V},aB K H ds xs→aB K H ds.reverse xs.reverse
 | [],xs,h=>by rw [aH.mp h];exact aH.mpr rfl
 | d :: ds,xs,h=>by
   obtain ⟨v,vs,rfl,h1,h2⟩:=aA.mp h
   rw [List.reverse_cons,List.reverse_cons]
   exact (yk h2).append (aB.one h1)
theorem ym:∀ {xs:List V} {us:List Value},Vals xs us→Vals xs.reverse us.reverse
 | _,_,.nil=> .nil
 | _,_,.cons r rr=>by
   rw [List.reverse_cons,List.reverse_cons]
   exact (ym rr).append (.cons r .nil)
theorem rT:bootBuiltins "reversed" =some (.type "reversed"):=by decide +kernel
def OC (te:cK):cK:=fun ρ M Q=>te ρ M fun d M1=> ∃ xs,CS M1 d xs∧∀ p,M1 p=none→Q (.ref p) (ay M1 p (.lst xs.reverse))
theorem CW {e:Expr} {te:cK} {p1 p2 pos2:Pos} (hc:X.calm=true) (Lb:Gl X "list") (hml:X.mg "list" =none) (hgr:Gl X "reversed") (hmr:X.mg "reversed" =none) (he:bZ X e te)
 (s1:starEach [e] X.env= [(false,eval e X.env)]:=by rfl)
 (s2:starEach [.Call (.Name "reversed" p2) [e] [] pos2] X.env= [(false,eval (.Call (.Name "reversed" p2) [e] [] pos2) X.env)]:=by rfl) :
 bZ X (.Call (.Name "list" p1) [.Call (.Name "reversed" p2) [e] [] pos2] [] pos) (OC te):=by
 constructor
 intro pins s σ H ρ M Q I r h
 refine wpAny_Call_Name_kw (ig I Lb hml gn ?_ (by decide) (by decide))
 refine PyProof.Rows.callWith_type1 (Q:=EP X pins σ (Post X.K M H Q)) ?_ (by rw [s2];rfl) (by rfl)
 rw [s2]
 show wpAny _ _ (spliced ((false,eval (.Call (.Name "reversed" p2) [e] [] pos2) X.env) :: backTo pos [])) _ _ s
 refine Calls.spliced_cons ?_
 refine wpAny_Call_Name_kw (ig I hgr hmr rT ?_ (by decide) (by decide))
 refine PyProof.Rows.callWith_type1 ?_ (by rw [s1];rfl) (by rfl)
 rw [s1]
 show wpAny _ _ (spliced ((false,eval e X.env) :: backTo pos2 [])) _ _ s
 refine Calls.spliced_cons (cI (he.run pins s σ H ρ M _ I r h) fun v s1 ⟨x,H1,I1,rv,d,M1,f1,dd,mR,xs,hL,q⟩=>Calls.spliced_nil ?_)
 obtain ⟨a,zs,rfl,hz,hd⟩:=hL.sq mR dd
 obtain rfl:v=Value.ref a:=rv
 obtain ⟨its,Io,pl,hsz⟩:=I1.list hz
 have la:a < s1.heap.objs.size:=by obtain ⟨o,e,_⟩:=pl.isList;exact Heap.lt_size e
 refine PySem.call_reversed_list pl.isList ?_
 refine Calls.spliced_nil ?_
 have qM:(s1.heap.push (PySem.revObj a ((its.toArray.size:Int) - 1))).objs.size=s1.heap.objs.size+1:=Heap.size_push ..
 have Wz:zs.length=its.length:=Io.length
 refine um (PySem.Walks.listRev (A:=X.A.in1.in1) (show X.A.in1.in1.handled=none from I.ok.hd hc) s1.heap.objs.size a (Nat.ne_of_lt la) its.toArray).toS (fun i s st=>st.2.1.typeIs) ?_ ?_ (by simp) (fun s' acc' c' mv hS' hacc=>?_) (by rw [List.size_toArray];omega)
 ·refine ⟨Nat.zero_le _,⟨_,Heap.get?_push_size _ rfl,rfl,?_⟩,?_⟩
  ·simp [PySem.revObj]
  ·obtain ⟨o,e,c,dd⟩:=pl.isList
   exact ⟨o,Heap.get?_push_of_some _ e,c,dd⟩
 ·intro b hb
  show b < (s1.heap.push (PySem.revObj a ((its.toArray.size:Int) - 1))).objs.size
  rw [qM]
  simp only [List.mem_cons,List.not_mem_nil,or_false] at hb
  rcases hb with rfl | rfl
  ·exact Nat.lt_succ_self _
  ·exact Nat.lt_succ_of_lt la
 ·have hS':s'.heap.get? (s1.heap.objs.size+1)=some { cls:= .type "list",dict:=none,data:= .seq acc' c',slots:= #[] }:=by rw [← qM];exact hS'
  have Rr:acc'=its.reverse.toArray:=by
   apply Array.ext'
   rw [List.toList_toArray]
   apply List.ext_getElem?
   intro j
   have WA:acc'.size=its.length:=by
    have:=hacc.1
    rw [List.size_toArray] at this
    exact this
   by_cases hj:j < its.length
   ·have g1:acc'[j]?=some (acc'[j]'(by omega)):=Array.getElem?_eq_getElem (by omega)
    have g2:=hacc.2 j _ g1
    have g2:its[its.length - 1 - j]?=some (acc'[j]'(by omega)):=by simpa using g2
    rw [List.getElem?_reverse hj,g2]
    rw [Array.getElem?_toList,g1]
   ·rw [List.getElem?_eq_none (by simp;omega),List.getElem?_eq_none (by simp;omega)]
  subst Rr
  have kp:∀ b o,s1.heap.get? b=some o→s'.heap.get? b=some o:=fun b o e=>by
   have lb:=Heap.lt_size e
   refine mv.heap b o ?_ (Heap.get?_push_of_some _ (Heap.get?_push_of_some _ e))
   intro hb
   simp only [List.mem_cons,List.not_mem_nil,or_false] at hb
   rcases hb with z | z
   ·have z:b=(s1.heap.push (PySem.revObj a ((its.toArray.size:Int) - 1))).objs.size:=z
    rw [qM] at z
    rw [z] at lb
    exact absurd lb (Nat.not_lt.mpr (Nat.le_succ _))
   ·rw [z] at lb
    exact Nat.lt_irrefl _ lb
  have fr:H1 (s1.heap.objs.size+1)=none:=I1.hok.fresh (Nat.le_succ _)
  have es:s'= { s1 with heap:=s'.heap,toks:=s'.toks }:=by
   have g:=mv.gens
   have d:=mv.drawn
   have o:=mv.os
   cases s'
   cases s1
   simp only at g d o ⊢
   subst g d o
   rfl
  have I2:Inv X pins σ (upd H1 (s1.heap.objs.size+1) (.lst zs.reverse)) { s1 with heap:=s'.heap,toks:=s'.toks }:=
   I1.laid (t':=s'.toks) kp (Nat.le_succ _) ⟨by rw [List.length_reverse];exact hsz,its.reverse,c',ym Io,hS'⟩
  rw [es]
  have ev:(Value.ref (s1.heap.push (PySem.revObj a ((its.toArray.size:Int) - 1))).objs.size)= .ref (s1.heap.objs.size+1):=by rw [qM]
  refine ⟨.ref (s1.heap.objs.size+1),_,I2,ev,.ref _,ay M1 _ (.lst xs.reverse),f1.trans (Fr.new fr fun _ hb=>aP hb),aK.mpr rfl,mR.newL fr (yk hd),q _ (mR.free fr)⟩
end
end L3
namespace L3
open PySem PySem.Spec PyProof.Rows L2
section
variable {X:Cx} {pos:Pos}
end
structure SY (K:PySem.W.Frag) (J:It) (inv:Hp→Prop) (ds:List L3.D):Prop where
 go:∀ i H,i < ds.length→inv H→J.go i H
 Hq:∀ i H x H',i < ds.length→inv H→J.Hq i H x H'→(∀ b o,H b=some o→H' b=some o)∧∃ d,ds[i]?=some d∧Dat K H' d x
 stop:∀ H,inv H→J.stop ds.length H
end L3
namespace L2
open PySem PySem.Spec PyProof.Rows
section
variable {X:Cx} {pins:List (Addr ×Obj)} {σ:St} {H:Hp} {s:Shared} {h':Heap}
theorem Inv.Ip {t':Nat} {fp:List Addr} (I:Inv X pins σ H s) (k:∀ b o,b∉fp→s.heap.get? b=some o→h'.get? b=some o) (hf:∀ b∈fp,jF X pins H b):Inv X pins σ H { s with heap:=h',toks:=t' }:=by
 have MR:∀ b u,H b=some u→b∉fp:=fun b u e z=>by rw [(hf b z).1] at e;cases e
 refine I.step (g':=s.gens) (d':=s.drawn) (ch:=fp) (fun b hb=>?_) (fun b o _ _ hc e _=>k b o hc e) (fun b o _ _ hc e _=>⟨o.slots,k b o hc e⟩) (fun _ _ _ _ n=>n)
  (fun b o hc e=>⟨o,k b o hc e⟩) (fun _ _ e=>e) (fun _ _ _ e=>e) (fun b ps e=>⟨#[],by rw [e];simp⟩) (fun m hm=>?_) (fun b u e=>?_) I.bare
 ·obtain ⟨f0,f1,f2,f3,f4,f5⟩:=hf b hb
  exact ⟨f3,f1,f4,f5⟩
 ·obtain ⟨o,es,ep,ho,r⟩:=hm
  exact ⟨o,es,ep,k _ o (fun z=>(hf _ z).2.1 rfl) ho,r⟩
 ·refine (I.hok b u e).stay (fun c v hc q=>k c v ?_ q) (fun _ q=>q) fun _ _ q=>q
  rcases hc with z | z
  ·rw [z];exact MR b u e
  ·exact MR c _ z
end
section
variable {X:Cx}
theorem CY:bootBuiltins "zip" =some (.type "zip"):=by decide +kernel
end
end L2
namespace L3
open PySem PySem.Spec PyProof.Rows L2
def pairD (x y:D):D:= .tup [x,y]
section
variable {X:Cx} {pos:Pos} {body:List Stmt} {g:yc} {tb:jJ}
end
end L3
namespace PySem
open PySem.Calls PySem.W
abbrev iE (h:Heap) (z TI TO T:Addr) (f:Bool):Prop:=
 h.get? z=some { cls:= .type "zip",dict:=none,data:= .fields #[rawInt T,.bool f,.bool false,.ref TI,.ref TO],slots:= #[] }
section
variable {prog:Program} {w:World} {A:Around} {E:Value→Shared→Prop} {s:Shared}
theorem yo {M:Model} {a:Addr} {Q:Option Obj→Shared→Prop} (h:Q (s.heap.get? a) s):wpAny M A (loadIfAlive a) Q E s:=
 fun _ _ _=>h
theorem nu {z TI TO T:Addr} {f:Bool} {oT:Obj} {Q:Bool→Shared→Prop} (hz:iE s.heap z TI TO T f) (hT:s.heap.get? T=some oT)
 (hQ:∀ h',iE h' z TI TO T true→h'.objs.size=s.heap.objs.size→(∀ c o,c≠z→s.heap.get? c=some o→h'.get? c=some o)→Q false { s with heap:=h' }) :
 wpAny (model prog w) A (Builtin.SmallTypes.ownedTupleIsFree (.ref z)) Q E s:=by
 unfold Builtin.SmallTypes.ownedTupleIsFree
 refine wpAny_bind (wpAny_field hz rfl (x:=rawInt T) rfl ?_)
 show wpAny _ _ (loadIfAlive T >>= _) _ _ _
 refine wpAny_bind (yo ?_)
 rw [hT]
 show wpAny _ _ (field (.ref z) 1 >>= _) _ _ _
 refine wpAny_bind (wpAny_field hz rfl (x:= .bool f) rfl ?_)
 cases f with
 | true=>exact wpAny_pure (hQ s.heap hz rfl fun _ _ _ e=>e)
 | false=>
   show wpAny _ _ (setField (.ref z) 1 (.bool true) >>= _) _ _ _
   refine wpAny_bind (wpAny_setField_rec hz (by simp) fun h₁ PD hs₁=>wpAny_pure (hQ h₁ PD hs₁.1 fun c o c1 e=>hs₁.extBut _ _ c1 e))
theorem uo {z TI TO T i1 i2 l1 l2:Addr} {f:Bool} {k1 k2:Nat} {xs ys:Array Value} {x y:Value} {oT:Obj} {Q:Value→Shared→Prop} (D:ZipApart z TI TO i1 i2 l1 l2)
 (hz:iE s.heap z TI TO T f) (hT:s.heap.get? T=some oT) (hTI:IsPair s.heap TI (.ref i1) (.ref i2))
 (h1:s.heap.IsListIter i1 l1 k1) (h2:s.heap.IsListIter i2 l2 k2) (hl1:s.heap.IsList l1 xs) (hl2:s.heap.IsList l2 ys) (hx:xs[k1]?=some x) (hy:ys[k2]?=some y)
 (hQ:∀ h',iE h' z TI TO T true→h'.IsListIter i1 l1 (k1+1)→h'.IsListIter i2 l2 (k2+1)→IsPair h' s.heap.objs.size x y→h'.objs.size=s.heap.objs.size+1→
  (∀ c o,c≠z→c≠i1→c≠i2→s.heap.get? c=some o→h'.get? c=some o)→Q (.ref s.heap.objs.size) { s with heap:=h' }) :
 wpAny (model prog w) A (Builtin.«zip.__next__» ⟨[.ref z],[]⟩) (fun fin s'=> ∃ v,fin= .done (.ret v)∧Q v s') E s:=by
 show wpAny _ _ (field (.ref z) 2 >>= _) _ _ _
 refine wpAny_bind (wpAny_field hz rfl (x:= .bool false) rfl ?_)
 show wpAny _ _ (field (.ref z) 3 >>= _) _ _ _
 refine wpAny_bind (wpAny_field hz rfl (x:= .ref TI) rfl ?_)
 refine wpAny_bind (wpAny_seqItems hTI rfl ?_)
 show wpAny _ _ (Builtin.SmallTypes.ownedTupleIsFree (.ref z) >>= _) _ _ _
 refine wpAny_bind (nu hz hT fun h₁ PD hn₁ hk₁=>?_)
 simp only [Bool.false_eq_true,if_false]
 have e1:h₁.IsListIter i1 l1 k1:=h1.at fun o e=>hk₁ i1 o D.i1z e
 have e2:h₁.IsListIter i2 l2 k2:=h2.at fun o e=>hk₁ i2 o D.i2z e
 have m1:h₁.IsList l1 xs:=by obtain ⟨o,e,r⟩:=hl1;exact ⟨o,hk₁ _ _ D.l1z e,r⟩
 have m2:h₁.IsList l2 ys:=by obtain ⟨o,e,r⟩:=hl2;exact ⟨o,hk₁ _ _ D.l2z e,r⟩
 refine wpAny_bind ?_
 rw [← Array.forIn_toList]
 simp only [List.forIn_cons,List.forIn_nil]
 refine wpAny_bind (wpAny_bind (wpAny_holding ?_))
 show wpAny _ _ (Builtin.SmallTypes.nextOf (.ref i1) >>= _) _ _ _
 refine wpAny_bind (wpAny_nextOf_list_item e1 m1 hx fun h₂ g1 hs₂=>wpAny_pure (wpAny_pure ?_))
 refine wpAny_bind (wpAny_bind (wpAny_holding ?_))
 show wpAny _ _ (Builtin.SmallTypes.nextOf (.ref i2) >>= _) _ _ _
 refine wpAny_bind (wpAny_nextOf_list_item (e2.extBut hs₂.extBut D.i12.symm) (m2.extBut hs₂.extBut D.l2i1) hy fun h₃ g2 MH=>wpAny_pure (wpAny_pure (wpAny_pure ?_)))
 show wpAny _ _ (newTuple [x,y] >>= _) _ _ _
 refine wpAny_bind (wpAny_newTuple ?_)
 have hsz:h₃.objs.size=s.heap.objs.size:=by rw [MH.1,hs₂.1,hn₁]
 have kp:∀ c o,c≠z→c≠i1→c≠i2→s.heap.get? c=some o→h₃.get? c=some o:=fun c o c1 c2 c3 e=>MH.extBut _ _ c3 (hs₂.extBut _ _ c2 (hk₁ c o c1 e))
 have z3:iE h₃ z TI TO T true:=MH.extBut _ _ D.i2z.symm (hs₂.extBut _ _ D.i1z.symm PD)
 have g3:h₃.IsListIter i1 l1 (k1+1):=g1.extBut MH.extBut D.i12
 have up:∀ c o,h₃.get? c=some o→(h₃.push { cls:= .type "tuple",data:= .seq #[x,y] }).get? c=some o:=fun c o e=>Heap.get?_push_of_some _ e
 refine wpAny_pure ⟨_,rfl,?_⟩
 show Q (.ref h₃.objs.size) _
 have hp:IsPair (h₃.push { cls:= .type "tuple",data:= .seq #[x,y] }) h₃.objs.size x y:=Heap.get?_push_size _ rfl
 have q:=hQ (h₃.push { cls:= .type "tuple",data:= .seq #[x,y] }) (up _ _ z3) (g3.at fun o e=>up _ o e) (g2.at fun o e=>up _ o e) (by rw [← hsz];exact hp) (by rw [Heap.size_push,hsz]) fun c o c1 c2 c3 e=>up c o (kp c o c1 c2 c3 e)
 rw [hsz]
 exact q
theorem vX {z TI TO T i1 i2 l1 l2:Addr} {f:Bool} {k1 k2:Nat} {xs ys:Array Value} {oT:Obj} {Q:Fin→Shared→Prop} (hh:A.handled=none) (D:ZipApart z TI TO i1 i2 l1 l2)
 (hz:iE s.heap z TI TO T f) (hT:s.heap.get? T=some oT) (hTI:IsPair s.heap TI (.ref i1) (.ref i2))
 (h1:s.heap.IsListIter i1 l1 k1) (h2:s.heap.IsListIter i2 l2 k2) (hl1:s.heap.IsList l1 xs) (hl2:s.heap.IsList l2 ys) (hend:xs[k1]?=none∨ys[k2]?=none)
 (hE:∀ h' e,(∀ c o,c≠z→c≠i1→c≠i2→s.heap.get? c=some o→h'.get? c=some o)→(∃ o,h'.get? e=some o∧o.cls= .type "StopIteration")→E (.ref e) { s with heap:=h' }) :
 wpAny (model prog w) A (Builtin.«zip.__next__» ⟨[.ref z],[]⟩) Q E s:=by
 show wpAny _ _ (field (.ref z) 2 >>= _) _ _ _
 refine wpAny_bind (wpAny_field hz rfl (x:= .bool false) rfl ?_)
 show wpAny _ _ (field (.ref z) 3 >>= _) _ _ _
 refine wpAny_bind (wpAny_field hz rfl (x:= .ref TI) rfl ?_)
 refine wpAny_bind (wpAny_seqItems hTI rfl ?_)
 show wpAny _ _ (Builtin.SmallTypes.ownedTupleIsFree (.ref z) >>= _) _ _ _
 refine wpAny_bind (nu hz hT fun h₁ PD hn₁ hk₁=>?_)
 simp only [Bool.false_eq_true,if_false]
 have e1:h₁.IsListIter i1 l1 k1:=h1.at fun o e=>hk₁ i1 o D.i1z e
 have e2:h₁.IsListIter i2 l2 k2:=h2.at fun o e=>hk₁ i2 o D.i2z e
 have m1:h₁.IsList l1 xs:=by obtain ⟨o,e,r⟩:=hl1;exact ⟨o,hk₁ _ _ D.l1z e,r⟩
 have m2:h₁.IsList l2 ys:=by obtain ⟨o,e,r⟩:=hl2;exact ⟨o,hk₁ _ _ D.l2z e,r⟩
 refine wpAny_bind ?_
 rw [← Array.forIn_toList]
 simp only [List.forIn_cons,List.forIn_nil]
 refine wpAny_bind (wpAny_bind (wpAny_holding ?_))
 show wpAny _ _ (Builtin.SmallTypes.nextOf (.ref i1) >>= _) _ _ _
 cases hx:xs[k1]? with
 | none=>exact wpAny_bind (wpAny_nextOf_list_end hh e1 m1 hx fun h₂ e hs₂ he=>hE h₂ e (fun c o c1 c2 c3 x=>hs₂ _ _ c2 (hk₁ c o c1 x)) he)
 | some x=>
   have hy:ys[k2]?=none:=by
    rcases hend with h | h
    ·rw [hx] at h;cases h
    ·exact h
   refine wpAny_bind (wpAny_nextOf_list_item e1 m1 hx fun h₂ g1 hs₂=>wpAny_pure (wpAny_pure ?_))
   refine wpAny_bind (wpAny_bind (wpAny_holding ?_))
   show wpAny _ _ (Builtin.SmallTypes.nextOf (.ref i2) >>= _) _ _ _
   exact wpAny_bind (wpAny_nextOf_list_end hh (e2.extBut hs₂.extBut D.i12.symm) (m2.extBut hs₂.extBut D.l2i1) hy fun h₃ e MH he=>hE h₃ e (fun c o c1 c2 c3 x=>MH _ _ c3 (hs₂.extBut _ _ c2 (hk₁ c o c1 x))) he)
theorem CZ {z TI TO T i1 i2 l1 l2:Addr} {f:Bool} {k1 k2:Nat} {xs ys:Array Value} {x y:Value} {oT:Obj} {Q:Option Value→Shared→Prop} (D:ZipApart z TI TO i1 i2 l1 l2)
 (hz:iE s.heap z TI TO T f) (hT:s.heap.get? T=some oT) (hTI:IsPair s.heap TI (.ref i1) (.ref i2))
 (h1:s.heap.IsListIter i1 l1 k1) (h2:s.heap.IsListIter i2 l2 k2) (hl1:s.heap.IsList l1 xs) (hl2:s.heap.IsList l2 ys) (hx:xs[k1]?=some x) (hy:ys[k2]?=some y)
 (hQ:∀ h',iE h' z TI TO T true→h'.IsListIter i1 l1 (k1+1)→h'.IsListIter i2 l2 (k2+1)→IsPair h' s.heap.objs.size x y→h'.objs.size=s.heap.objs.size+1→
  (∀ c o,c≠z→c≠i1→c≠i2→s.heap.get? c=some o→h'.get? c=some o)→Q (some (.ref s.heap.objs.size)) { s with heap:=h' }) :
 wpAny (model prog w) A (pyNext (.ref z)) Q E s:=by
 have hTy:s.TypeIs (.ref z) "zip" :=⟨_,hz,rfl⟩
 unfold pyNext
 exact wpAny_bind (wpAny_attempt (wpAny_callSpecial?_slot (name:=Str.ofString "__next__") hTy F.slot_zip_next
  (wpAny_call_entry F.slot_zip_next hTy F.entry_zip_next
   (uo D hz hT hTI h1 h2 hl1 hl2 hx hy fun h' a1 a2 a3 a4 a5 a6=>wpAny_pure (hQ h' a1 a2 a3 a4 a5 a6)) (F.args_zip_next_1 _))))
theorem Fe {z TI TO T i1 i2 l1 l2:Addr} {f:Bool} {k1 k2:Nat} {xs ys:Array Value} {oT:Obj} {Q:Option Value→Shared→Prop} (hh:A.handled=none) (D:ZipApart z TI TO i1 i2 l1 l2)
 (hz:iE s.heap z TI TO T f) (hT:s.heap.get? T=some oT) (hTI:IsPair s.heap TI (.ref i1) (.ref i2))
 (h1:s.heap.IsListIter i1 l1 k1) (h2:s.heap.IsListIter i2 l2 k2) (hl1:s.heap.IsList l1 xs) (hl2:s.heap.IsList l2 ys) (hend:xs[k1]?=none∨ys[k2]?=none)
 (hQ:∀ h',(∀ c o,c≠z→c≠i1→c≠i2→s.heap.get? c=some o→h'.get? c=some o)→Q none { s with heap:=h' }):wpAny (model prog w) A (pyNext (.ref z)) Q E s:=by
 have hTy:s.TypeIs (.ref z) "zip" :=⟨_,hz,rfl⟩
 unfold pyNext
 refine wpAny_bind (wpAny_attempt (wpAny_callSpecial?_slot (name:=Str.ofString "__next__") hTy F.slot_zip_next
  (wpAny_call_entry F.slot_zip_next hTy F.entry_zip_next (vX hh D hz hT hTI h1 h2 hl1 hl2 hend fun h' e hk he=>?_) (F.args_zip_next_1 _))))
 obtain ⟨o,ho,hc⟩:=he
 refine wpAny_bind (wpAny_isInstance (T:= "StopIteration") (b:=true) ⟨o,ho,hc⟩ isSubtype_stop ?_)
 exact wpAny_pure (hQ _ hk)
def OD (N0:Nat) (h:Heap) (z TI TO:Addr):Prop:=
 (IsZip h z TI TO .none∧∃ a b,IsPair h TO a b)∨∃ T f oT,iE h z TI TO T f∧h.get? T=some oT∧N0≤T
structure jx (N0:Nat) (xs ys:Array Value) (z TI TO i1 i2 l1 l2:Addr) (i:Nat) (h:Heap):Prop where
 st:OD N0 h z TI TO
 ti:IsPair h TI (.ref i1) (.ref i2)
 i1:h.IsListIter i1 l1 i
 i2:h.IsListIter i2 l2 i
 l1:h.IsList l1 xs
 l2:h.IsList l2 ys
theorem jx.next {N0:Nat} {z TI TO i1 i2 l1 l2:Addr} {i:Nat} {xs ys:Array Value} {x y:Value} {Q:Option Value→Shared→Prop} (D:ZipApart z TI TO i1 i2 l1 l2)
 (Z:jx N0 xs ys z TI TO i1 i2 l1 l2 i s.heap) (hN:N0≤s.heap.objs.size) (lt:z < N0∧TO < N0∧i1 < N0∧i2 < N0) (hx:xs[i]?=some x) (hy:ys[i]?=some y)
 (hQ:∀ h',jx N0 xs ys z TI TO i1 i2 l1 l2 (i+1) h'→IsPair h' s.heap.objs.size x y→h'.objs.size=s.heap.objs.size+1→
  (∀ c o,c≠z→c≠TO→c≠i1→c≠i2→s.heap.get? c=some o→h'.get? c=some o)→Q (some (.ref s.heap.objs.size)) { s with heap:=h' }) :
 wpAny (model prog w) A (pyNext (.ref z)) Q E s:=by
 obtain ⟨st,ti,a1,a2,m1,m2⟩:=Z
 have tl:∀ {h':Heap},(∀ c o,c≠z→c≠TO→c≠i1→c≠i2→s.heap.get? c=some o→h'.get? c=some o)→h'.IsList l1 xs∧h'.IsList l2 ys∧IsPair h' TI (.ref i1) (.ref i2):=fun k=>by
  refine ⟨?_,?_,k _ _ D.TIz D.TITO D.TIi1 D.TIi2 ti⟩
  ·obtain ⟨o,e,r⟩:=m1;exact ⟨o,k _ _ D.l1z D.l1TO D.l1i1 D.l1i2 e,r⟩
  ·obtain ⟨o,e,r⟩:=m2;exact ⟨o,k _ _ D.l2z D.l2TO D.l2i1 D.l2i2 e,r⟩
 rcases st with ⟨hz,a,b,hTO⟩ | ⟨T,f,oT,hz,hT,JN⟩
 ·refine wpAny_pyNext_zip_item D hz ti hTO a1 a2 m1 m2 hx hy fun h' b1 b2 b3 b4 b5 b6 b7=>?_
  obtain ⟨t1,t2,t3⟩:=tl b7
  exact hQ h' ⟨.inr ⟨_,false,_,b1,b5,hN⟩,t3,b3,b4,t1,t2⟩ b5 b6 b7
 ·refine CZ D hz hT ti a1 a2 m1 m2 hx hy fun h' b1 b3 b4 b5 b6 b7=>?_
  obtain ⟨t1,t2,t3⟩:=tl fun c o c1 c2 c3 c4 e=>b7 c o c1 c3 c4 e
  exact hQ h' ⟨.inr ⟨_,true,_,b1,b7 T _ (Nat.ne_of_gt (Nat.lt_of_lt_of_le lt.1 JN)) (Nat.ne_of_gt (Nat.lt_of_lt_of_le lt.2.2.1 JN)) (Nat.ne_of_gt (Nat.lt_of_lt_of_le lt.2.2.2 JN)) hT,JN⟩,t3,b3,b4,t1,t2⟩ b5 b6 fun c o c1 c2 c3 c4 e=>b7 c o c1 c3 c4 e
theorem jx.fin {N0:Nat} {z TI TO i1 i2 l1 l2:Addr} {i:Nat} {xs ys:Array Value} {Q:Option Value→Shared→Prop} (hh:A.handled=none) (D:ZipApart z TI TO i1 i2 l1 l2)
 (Z:jx N0 xs ys z TI TO i1 i2 l1 l2 i s.heap) (hend:xs[i]?=none∨ys[i]?=none)
 (hQ:∀ h',(∀ c o,c≠z→c≠TO→c≠i1→c≠i2→s.heap.get? c=some o→h'.get? c=some o)→Q none { s with heap:=h' }):wpAny (model prog w) A (pyNext (.ref z)) Q E s:=by
 obtain ⟨st,ti,a1,a2,m1,m2⟩:=Z
 rcases st with ⟨hz,a,b,hTO⟩ | ⟨T,f,oT,hz,hT,JN⟩
 ·exact wpAny_pyNext_zip_end hh D hz ti hTO a1 a2 m1 m2 hend hQ
 ·exact Fe hh D hz hT ti a1 a2 m1 m2 hend fun h' k=>hQ h' fun c o c1 _ c3 c4 e=>k c o c1 c3 c4 e
theorem jx.keep {N0:Nat} {z TI TO i1 i2 l1 l2 S:Addr} {i:Nat} {xs ys:Array Value} {h h':Heap} (Z:jx N0 xs ys z TI TO i1 i2 l1 l2 i h) (hS:S < N0) (ne:S≠z∧S≠TI∧S≠TO∧S≠i1∧S≠i2∧S≠l1∧S≠l2)
 (k:∀ c o,c≠S→h.get? c=some o→h'.get? c=some o):jx N0 xs ys z TI TO i1 i2 l1 l2 i h':=by
 obtain ⟨st,ti,a1,a2,m1,m2⟩:=Z
 obtain ⟨n1,n2,n3,n4,n5,n6,n7⟩:=ne
 refine ⟨?_,k _ _ n2.symm ti,a1.at fun o e=>k _ o n4.symm e,a2.at fun o e=>k _ o n5.symm e,?_,?_⟩
 ·rcases st with ⟨hz,a,b,hTO⟩ | ⟨T,f,oT,hz,hT,JN⟩
  ·exact .inl ⟨k _ _ n1.symm hz,a,b,k _ _ n3.symm hTO⟩
  ·exact .inr ⟨T,f,oT,k _ _ n1.symm hz,k _ _ (Nat.ne_of_gt (Nat.lt_of_lt_of_le hS JN)) hT,JN⟩
 ·obtain ⟨o,e,r⟩:=m1;exact ⟨o,k _ _ n6.symm e,r⟩
 ·obtain ⟨o,e,r⟩:=m2;exact ⟨o,k _ _ n7.symm e,r⟩
def cT (N0:Nat) (xs ys:Array Value) (h:Heap) (acc:Array Value) (i:Nat):Prop:=
 acc.size=i∧(∀ j x y,j < i→xs[j]?=some x→ys[j]?=some y→∃ p,acc[j]?=some (.ref p)∧IsPair h p x y∧N0≤p)∧acc.toList.Nodup
theorem cT.keep {N0:Nat} {xs ys:Array Value} {h h':Heap} {acc:Array Value} {i:Nat} (P:cT N0 xs ys h acc i) (k:∀ c o,N0≤c→h.get? c=some o→h'.get? c=some o):cT N0 xs ys h' acc i:=
 ⟨P.1,(fun j x y hj hx hy=>by obtain ⟨p,e1,e2,e3⟩:=P.2.1 j x y hj hx hy;exact ⟨p,e1,k p _ e3 e2,e3⟩),P.2.2⟩
theorem cT.push {N0:Nat} {xs ys:Array Value} {h:Heap} {acc:Array Value} {i:Nat} {x y:Value} {p:Addr} (P:cT N0 xs ys h acc i) (hx:xs[i]?=some x) (hy:ys[i]?=some y) (hp:IsPair h p x y) (hN:N0≤p) (hnew:Value.ref p∉acc.toList):cT N0 xs ys h (acc.push (.ref p)) (i+1):=by
 refine ⟨by rw [Array.size_push,P.1],fun j u v hj hu hv=>?_,by rw [Array.toList_push,List.nodup_append];exact ⟨P.2.2,by simp,fun a ha b hb e=>by rw [List.mem_singleton.mp hb] at e;rw [e] at ha;exact hnew ha⟩⟩
 by_cases e:j=i
 ·subst e
  rw [hx] at hu;rw [hy] at hv
  cases hu;cases hv
  refine ⟨p,?_,hp,hN⟩
  have:=P.1
  subst this
  exact Array.getElem?_push_size
 ·obtain ⟨q,e1,e2,e3⟩:=P.2.1 j u v (by omega) hu hv
  refine ⟨q,?_,e2,e3⟩
  rw [Array.getElem?_push,if_neg (by rw [P.1];exact e)]
  exact e1
variable {R:Result→Shared→Prop}
theorem Ff {N0:Nat} {z TI TO i1 i2 l1 l2 S:Addr} {xs ys:Array Value} (hh:A.in1.handled=none) (D:ZipApart z TI TO i1 i2 l1 l2) (lt:z < N0∧TO < N0∧i1 < N0∧i2 < N0) (JO:S < N0) (ne:S≠z∧S≠TI∧S≠TO∧S≠i1∧S≠i2∧S≠l1∧S≠l2) (n:Nat) (hn:n=min xs.size ys.size) (hsz:n≤sizeLine) (res:Value) :
 ∀ (k i:Nat) (s:Shared) (acc:Array Value) (c:Nat),n - i=k→i≤n→N0≤s.heap.objs.size→jx N0 xs ys z TI TO i1 i2 l1 l2 i s.heap→s.heap.get? S=some { cls:= .type "list",dict:=none,data:= .seq acc c,slots:= #[] }→cT N0 xs ys s.heap acc i→
 (∀ h' acc' c',(∀ b o,b≠S→b≠z→b≠TO→b≠i1→b≠i2→s.heap.get? b=some o→h'.get? b=some o)→h'.get? S=some { cls:= .type "list",dict:=none,data:= .seq acc' c',slots:= #[] }→cT N0 xs ys h' acc' n→R (.ok (.ret res)) { s with heap:=h' })→
 codeAny (model prog w) A (.builtin "list.extend.loop" ⟨[.ref S,.ref z,res],[]⟩) R s:=by
 obtain ⟨n1,n2,n3,n4,n5,n6,n7⟩:=id ne
 intro k
 induction k with
 | zero=>
   intro i s acc c hk hi hN Z hS hP hR
   have hin:i=n:=by omega
   refine codeAny_builtin F.entry_extend_loop ?_
   rw [Around.under_plainId F.plain_extend_loop _]
   show wpAny _ A.in1 (pyNext (.ref z) >>= _) _ _ s
   have hend:xs[i]?=none∨ys[i]?=none:=by
    rcases Nat.le_total xs.size ys.size with q | q
    ·left;rw [Array.getElem?_eq_none];omega
    ·right;rw [Array.getElem?_eq_none];omega
   refine wpAny_bind (Z.fin hh D hend fun h' kp=>?_)
   subst hin
   refine wpAny_pure (hR h' acc c (fun b o b1 b2 b3 b4 b5 e=>kp b o b2 b3 b4 b5 e) (kp S _ n1 n3 n4 n5 hS) (hP.keep fun c o hc e=>kp c o ?_ ?_ ?_ ?_ e))
   ·exact Nat.ne_of_gt (Nat.lt_of_lt_of_le lt.1 hc)
   ·exact Nat.ne_of_gt (Nat.lt_of_lt_of_le lt.2.1 hc)
   ·exact Nat.ne_of_gt (Nat.lt_of_lt_of_le lt.2.2.1 hc)
   ·exact Nat.ne_of_gt (Nat.lt_of_lt_of_le lt.2.2.2 hc)
 | succ k ih=>
   intro i s acc c hk hi hN Z hS hP hR
   have hlt:i < n:=by omega
   have lx:i < xs.size:=by omega
   have ly:i < ys.size:=by omega
   refine codeAny_builtin F.entry_extend_loop ?_
   rw [Around.under_plainId F.plain_extend_loop _]
   show wpAny _ A.in1 (pyNext (.ref z) >>= _) _ _ s
   have hx:xs[i]?=some xs[i]:=Array.getElem?_eq_getElem lx
   have hy:ys[i]?=some ys[i]:=Array.getElem?_eq_getElem ly
   refine wpAny_bind (Z.next D hN lt hx hy fun h' Z' hp hz' kp=>?_)
   have hS':=kp S _ n1 n3 n4 n5 hS
   have UG:cT N0 xs ys h' acc i:=hP.keep fun c o hc e=>kp c o (Nat.ne_of_gt (Nat.lt_of_lt_of_le lt.1 hc)) (Nat.ne_of_gt (Nat.lt_of_lt_of_le lt.2.1 hc)) (Nat.ne_of_gt (Nat.lt_of_lt_of_le lt.2.2.1 hc)) (Nat.ne_of_gt (Nat.lt_of_lt_of_le lt.2.2.2 hc)) e
   have hnew:Value.ref s.heap.objs.size∉acc.toList:=fun hm=>by
    obtain ⟨j,hj,ej⟩:=List.mem_iff_getElem.mp hm
    have hj':j < acc.size:=by simpa using hj
    have hji:j < i:=by rw [← hP.1];exact hj'
    have gx:xs[j]?=some xs[j]:=Array.getElem?_eq_getElem (by omega)
    have gy:ys[j]?=some ys[j]:=Array.getElem?_eq_getElem (by omega)
    obtain ⟨q,e1,e2,e3⟩:=hP.2.1 j _ _ hji gx gy
    rw [Array.getElem?_eq_getElem hj'] at e1
    have e4:acc[j]=Value.ref s.heap.objs.size:=by rw [← ej];simp
    rw [e4] at e1
    have e5:s.heap.objs.size=q:=by injection Option.some.inj e1
    have:=Heap.lt_size e2
    rw [← e5] at this
    exact Nat.lt_irrefl _ this
   show wpAny _ A.in1 (updateSeq S (·.push (.ref s.heap.objs.size)) >>= _) _ _ _
   refine wpAny_bind ?_
   have up:∀ b o,b≠S→h'.get? b=some o→(h'.update S (Obj.mapSeq (·.push (.ref s.heap.objs.size)))).get? b=some o:=fun b o hb e=>(Heap.get?_update_other _ _ (Ne.symm hb)).trans e
   refine wpAny_updateSeq hS' rfl (wpAny_pure ⟨plainId_quiet F.plain_extend_loop _,ih (i+1) _ (acc.push (.ref s.heap.objs.size)) _ (by omega) hlt ?_ (Z'.keep JO ne fun c o hc e=>up c o hc e) (Heap.get?_update_self _ hS' rfl)
    ((UG.push hx hy hp hN hnew).keep fun c o hc e=>up c o (Nat.ne_of_gt (Nat.lt_of_lt_of_le JO hc)) e) fun h'' acc' c' Rt Ru Rv=>?_⟩) (by rw [hP.1];omega) (by show (acc.push _).size≤sizeLine+1;rw [Array.size_push,hP.1];omega)
   ·show N0≤(h'.update S _).objs.size
    have:(h'.update S (Obj.mapSeq (·.push (.ref s.heap.objs.size)))).objs.size=h'.objs.size:=(Heap.SameBut.update ..).1
    omega
   ·exact hR h'' acc' c' (fun b o b1 b2 b3 b4 b5 e=>Rt b o b1 b2 b3 b4 b5 (up b o b1 (kp b o b2 b3 b4 b5 e))) Ru Rv
theorem Ak:typeLookup (.type "zip") "__len__" =pure none:=by rw [typeLookup_type,builtinLookup_eq_fast];kernel_rfl
theorem yp:typeLookup (.type "zip") "__length_hint__" =pure none:=by rw [typeLookup_type,builtinLookup_eq_fast];kernel_rfl
theorem Al {N0:Nat} {z TI TO i1 i2 l1 l2 S:Addr} {xs ys:Array Value} {c₀:Nat} (hh:A.in1.handled=none) (D:ZipApart z TI TO i1 i2 l1 l2) (lt:z < N0∧TO < N0∧i1 < N0∧i2 < N0) (JO:S < N0) (ne:S≠z∧S≠TI∧S≠TO∧S≠i1∧S≠i2∧S≠l1∧S≠l2) (n:Nat) (hn:n=min xs.size ys.size) (hsz:n≤sizeLine) (res:Value)
 (hN:N0≤s.heap.objs.size) (Z:jx N0 xs ys z TI TO i1 i2 l1 l2 0 s.heap) (hz:IsZip s.heap z TI TO .none) (hS:s.heap.get? S=some { cls:= .type "list",data:= .seq #[] c₀ })
 (hR:∀ h' acc' c',(∀ b o,b≠S→b≠z→b≠TO→b≠i1→b≠i2→s.heap.get? b=some o→h'.get? b=some o)→h'.get? S=some { cls:= .type "list",dict:=none,data:= .seq acc' c',slots:= #[] }→cT N0 xs ys h' acc' n→R (.ok (.ret res)) { s with heap:=h' }) :
 wpAny (model prog w) A.in1 (Builtin.List.listExtendWith (.ref S) (.ref z) res)
  (fun fin s'=>match fin with | .done f=>R (.ok f) s' | .again c'=>c'.quiet=true∧codeAny (model prog w) A c' R s') (fun e s'=>R (.error e) s') s:=by
 have hTy:s.TypeIs (.ref z) "zip" :=⟨_,hz,rfl⟩
 unfold Builtin.List.listExtendWith
 refine wpAny_bind (wpAny_typeOf hTy ?_)
 have h1:Builtin.List.listSameRef (.ref S) (.ref z)=false:=by simp [Builtin.List.listSameRef,ne.1]
 have h2:(Value.type "zip" == Value.type "list")=false:=by decide
 have h3:(Value.type "zip" == Value.type "tuple")=false:=by decide
 simp only [h1,h2,h3,Bool.or_false,Bool.false_eq_true,if_false]
 refine wpAny_bind (wpAny_pyIter_zip hz ?_)
 refine wpAny_bind (wpAny_holding ?_)
 unfold Builtin.List.listLengthHint
 refine wpAny_bind (wpAny_specialOf hTy Ak ?_)
 show wpAny _ A.in1 (specialOf (Value.ref z) (Str.ofString "__length_hint__") >>= _) _ _ _
 refine wpAny_bind (wpAny_specialOf hTy yp ?_)
 refine wpAny_pure ?_
 show wpAny _ A.in1 (rule "list.extend.makes-room" >>= fun _=>Builtin.List.listTouch (.ref S) >>= fun _=>
  again (.builtin "list.extend.loop" ⟨[.ref S,.ref z,res],[]⟩)) _ _ _
 refine wpAny_bind (wpAny_rule ?_)
 refine wpAny_bind ?_
 show wpAny _ A.in1 (updateSeq S (·.push .none) >>= fun _=>updateSeq S (·.pop)) _ _ _
 refine wpAny_bind (wpAny_updateSeq hS rfl ?_)
 have MG:=Heap.get?_update_self (Obj.mapSeq (·.push Value.none)) hS rfl
 refine wpAny_updateSeq (hz:=by seq_fits) MG rfl ?_
 have UH:=Heap.get?_update_self (Obj.mapSeq (·.pop)) MG rfl
 have Im:∀ b o,b≠S→s.heap.get? b=some o→((s.heap.update S (Obj.mapSeq (·.push Value.none))).update S (Obj.mapSeq (·.pop))).get? b=some o:=
  fun b o hb e=>(Heap.get?_update_other _ _ (Ne.symm hb)).trans ((Heap.get?_update_other _ _ (Ne.symm hb)).trans e)
 have Rw:((s.heap.update S (Obj.mapSeq (·.push Value.none))).update S (Obj.mapSeq (·.pop))).objs.size=s.heap.objs.size:=by
  rw [(Heap.SameBut.update ..).1,(Heap.SameBut.update ..).1]
 refine wpAny_pure ⟨plainId_quiet F.plain_extend_loop _,Ff hh D lt JO ne n hn hsz res n 0 _ _ _ rfl (Nat.zero_le _) (Nat.le_trans hN (Nat.le_of_eq Rw.symm)) (Z.keep JO ne fun c o hc e=>Im c o hc e) UH ⟨rfl,(fun j x y hj=>absurd hj (Nat.not_lt_zero _)),List.nodup_nil⟩ fun h' acc' c' kp hS' hP=>?_⟩
 exact hR h' acc' c' (fun b o b1 b2 b3 b4 b5 e=>kp b o b1 b2 b3 b4 b5 (Im b o b1 e)) hS' hP
theorem uq {N0:Nat} {z TI TO i1 i2 l1 l2 S:Addr} {xs ys:Array Value} (hh:A.in1.handled=none) (D:ZipApart z TI TO i1 i2 l1 l2) (lt:z < N0∧TO < N0∧i1 < N0∧i2 < N0) (JO:S < N0) (ne:S≠z∧S≠TI∧S≠TO∧S≠i1∧S≠i2∧S≠l1∧S≠l2) (n:Nat) (hn:n=min xs.size ys.size) (hsz:n≤sizeLine)
 (hN:N0≤s.heap.objs.size) (Z:jx N0 xs ys z TI TO i1 i2 l1 l2 0 s.heap) (hz:IsZip s.heap z TI TO .none) (hS:s.heap.get? S=some { cls:= .type "list",data:= .seq #[] })
 (hR:∀ h' acc' c',(∀ b o,b≠S→b≠z→b≠TO→b≠i1→b≠i2→s.heap.get? b=some o→h'.get? b=some o)→h'.get? S=some { cls:= .type "list",dict:=none,data:= .seq acc' c',slots:= #[] }→cT N0 xs ys h' acc' n→R (.ok (.ret .none)) { s with heap:=h' }) :
 wpAny (model prog w) A.in1 (Builtin.«list.__init__» ⟨[.ref S,.ref z],[]⟩)
  (fun fin s'=>match fin with | .done f=>R (.ok f) s' | .again c'=>c'.quiet=true∧codeAny (model prog w) A c' R s') (fun e s'=>R (.error e) s') s:=by
 show wpAny _ A.in1 (do let old ← Builtin.List.listItems (.ref S);Builtin.List.listUpdate (.ref S) (fun _=> #[]);letGo old.toList.reverse;Builtin.List.listExtendWith (.ref S) (.ref z) .none) _ _ s
 refine wpAny_bind ?_
 unfold Builtin.List.listItems
 refine wpAny_bind (wpAny_seqItems hS rfl (wpAny_pure ?_))
 show wpAny _ A.in1 (updateSeq S (fun _=> #[]) >>= fun _=>letGo (#[]:Array Value).toList.reverse >>= fun _=>Builtin.List.listExtendWith (.ref S) (.ref z) .none) _ _ s
 refine wpAny_bind (wpAny_updateSeq hS rfl ?_)
 have MG:=Heap.get?_update_self (Obj.mapSeq (fun _=>(#[]:Array Value))) hS rfl
 have Im:∀ b o,b≠S→s.heap.get? b=some o→(s.heap.update S (Obj.mapSeq (fun _=>(#[]:Array Value)))).get? b=some o:=
  fun b o hb e=>(Heap.get?_update_other _ _ (Ne.symm hb)).trans e
 have Rw:(s.heap.update S (Obj.mapSeq (fun _=>(#[]:Array Value)))).objs.size=s.heap.objs.size:=(Heap.SameBut.update ..).1
 refine wpAny_bind (wpAny_letGo ?_)
 refine Al hh D lt JO ne n hn hsz .none (Nat.le_trans hN (Nat.le_of_eq Rw.symm)) (Z.keep JO ne fun c o hc e=>Im c o hc e) (Im _ _ ne.1.symm hz) MG fun h' acc' c' kp hS' hP=>?_
 exact hR h' acc' c' (fun b o b1 b2 b3 b4 b5 e=>kp b o b1 b2 b3 b4 b5 (Im b o b1 e)) hS' hP
theorem ur {z TI TO i1 i2 l1 l2:Addr} {xs ys:Array Value} {Q:Value→Shared→Prop} (hh:A.in1.in1.handled=none) (D:ZipApart z TI TO i1 i2 l1 l2)
 (lt:z < s.heap.objs.size∧TI < s.heap.objs.size∧TO < s.heap.objs.size∧i1 < s.heap.objs.size∧i2 < s.heap.objs.size∧l1 < s.heap.objs.size∧l2 < s.heap.objs.size) (n:Nat) (hn:n=min xs.size ys.size) (hsz:n≤sizeLine)
 (hz:IsZip s.heap z TI TO .none) (hTI:IsPair s.heap TI (.ref i1) (.ref i2)) {a b:Value} (hTO:IsPair s.heap TO a b) (h1:s.heap.IsListIter i1 l1 0) (h2:s.heap.IsListIter i2 l2 0) (hl1:s.heap.IsList l1 xs) (hl2:s.heap.IsList l2 ys)
 (hQ:∀ h' acc' c',(∀ b o,b≠z→b≠TO→b≠i1→b≠i2→s.heap.get? b=some o→h'.get? b=some o)→h'.get? s.heap.objs.size=some { cls:= .type "list",dict:=none,data:= .seq acc' c',slots:= #[] }→cT (s.heap.objs.size+1) xs ys h' acc' n→Q (.ref s.heap.objs.size) { s with heap:=h' }) :
 wpAny (model prog w) A (call (.type "list") [.ref z]) Q E s:=by
 obtain ⟨q1,q2,q3,q4,q5,q6,q7⟩:=lt
 refine callType_codes (Q₁:=fun obj s₁=>obj= .ref s.heap.objs.size∧s₁= { s with heap:=s.heap.push { cls:= .type "list",data:= .seq #[] } }) F.called_list (F.typeCall_list_1 _) F.entry_list_init
  (code_list_new _ ⟨rfl,rfl⟩) fun obj s₁ h₁=>?_
 obtain ⟨rfl,rfl⟩:=h₁
 have hS:(s.heap.push { cls:= .type "list",data:= .seq #[] }).get? s.heap.objs.size=some { cls:= .type "list",data:= .seq #[] }:=Heap.get?_push_size _ rfl
 have up:∀ c o,s.heap.get? c=some o→(s.heap.push { cls:= .type "list",data:= .seq #[] }).get? c=some o:=fun c o e=>Heap.get?_push_of_some _ e
 have Z:jx (s.heap.objs.size+1) xs ys z TI TO i1 i2 l1 l2 0 (s.heap.push { cls:= .type "list",data:= .seq #[] }):=
  ⟨.inl ⟨up _ _ hz,a,b,up _ _ hTO⟩,up _ _ hTI,h1.at fun o e=>up _ o e,h2.at fun o e=>up _ o e,(by obtain ⟨o,e,r⟩:=hl1;exact ⟨o,up _ _ e,r⟩),(by obtain ⟨o,e,r⟩:=hl2;exact ⟨o,up _ _ e,r⟩)⟩
 refine ⟨⟨_,hS,rfl⟩,F.args_list_init_2 _ _,uq (N0:=s.heap.objs.size+1) hh D ⟨Nat.lt_succ_of_lt q1,Nat.lt_succ_of_lt q3,Nat.lt_succ_of_lt q4,Nat.lt_succ_of_lt q5⟩ (Nat.lt_succ_self _) ⟨Nat.ne_of_gt q1,Nat.ne_of_gt q2,Nat.ne_of_gt q3,Nat.ne_of_gt q4,Nat.ne_of_gt q5,Nat.ne_of_gt q6,Nat.ne_of_gt q7⟩ n hn hsz
  (by show s.heap.objs.size+1≤(Heap.push _ _).objs.size;rw [Heap.size_push];exact Nat.le_refl _) Z (up _ _ hz) hS fun h' acc' c' kp hS' hP=>?_⟩
 exact ⟨rfl,hQ h' acc' c' (fun b o b2 b3 b4 b5 e=>kp b o (Nat.ne_of_lt (Heap.lt_size e)) b2 b3 b4 b5 (up b o e)) hS' hP⟩
end
end PySem
namespace L2
open PySem PySem.Spec PyProof.Rows
section
variable {X:Cx} {pins:List (Addr ×Obj)} {σ:St} {H:Hp} {s:Shared}
theorem Inv.named {a:Addr} {o:HO} (I:Inv X pins σ H s) (f:jF X pins H a) (new:cL X.prog X.w (upd H a o) s.heap a o):Inv X pins σ (upd H a o) s:=by
 obtain ⟨f0,f1,f2,f3,f4,f5⟩:=f
 have nn:∀ b u,H b=some u→b≠a:=fun b u e z=>by rw [z,f0] at e;cases e
 have hok:i7 X.prog X.w (upd H a o) s.heap:=fun b u e=>by
  by_cases hb:b=a
  ·subst hb;rw [cF] at e;cases e;exact new
  ·rw [aQ hb] at e
   exact (I.hok b u e).stay (fun c v _ q=>q) (fun c q=>by rw [aQ (nn _ _ q)];exact q) fun c xs q=>by rw [aQ (nn _ _ q)];exact q
 exact I.step (h':=s.heap) (g':=s.gens) (d':=s.drawn) (t':=s.toks) (ch:=[a]) (fun b hb=>by rw [List.mem_singleton.mp hb];exact ⟨f3,f1,f4,f5⟩) (fun b o _ _ _ e _=>e) (fun b o _ _ _ e _=>⟨o.slots,e⟩) (fun b o hc e n=>by rw [aQ (by simpa using hc)];exact n)
  (fun b o _ e=>⟨o,e⟩) (fun b xs e=>by rw [aQ (nn _ _ e)];exact e) (fun b o u e=>by rw [aQ (nn _ _ e)];exact e) (fun b ps e=>⟨#[],by rw [aQ (nn _ _ e),e];simp⟩) (fun m hm=>hm) hok I.bare
end
end L2
namespace L3
open PySem PySem.Spec PyProof.Rows L2
section
variable {X:Cx} {pins:List (Addr ×Obj)} {σ:St} {s:Shared}
theorem rV:∀ (L:List (Addr ×V ×V)) {H:Hp},Inv X pins σ H s→(L.map (·.1)).Nodup→(∀ q∈L,jF X pins H q.1∧∃ u v,RelV q.2.1 u∧RelV q.2.2 v∧IsPair s.heap q.1 u v)→
 ∃ H',Inv X pins σ H' s∧(∀ b o,H b=some o→H' b=some o)∧(∀ b,b∉L.map (·.1)→H' b=H b)∧∀ q∈L,H' q.1=some (.tup [q.2.1,q.2.2])
 | [],H,I,_,_=>⟨H,I,fun _ _ e=>e,fun _ _=>rfl,fun q hq=>by cases hq⟩
 | (p,x,y) :: L,H,I,nd,h=>by
   obtain ⟨f,u,v,ru,rv,hp⟩:=h (p,x,y) (by simp)
   rw [List.map_cons,List.nodup_cons] at nd
   have I1:Inv X pins σ (upd H p (.tup [x,y])) s:=I.named f ⟨by rw [sizeLine_eq];show 2≤16777216;decide,[u,v],.cons ru (.cons rv .nil),⟨_,hp,rfl,_,rfl⟩⟩
   obtain ⟨H',I',k1,k2,k3⟩:=rV L I1 nd.2 fun q hq=>by
    obtain ⟨⟨f0,fr⟩,r⟩:=h q (List.mem_cons_of_mem _ hq)
    refine ⟨⟨?_,fr⟩,r⟩
    rw [aQ (fun z=>nd.1 (List.mem_map.mpr ⟨q,hq,z⟩))]
    exact f0
   refine ⟨H',I',fun b o e=>k1 b o (by rw [aQ (bC e f.1)];exact e),fun b hb=>?_,fun q hq=>?_⟩
   ·rw [List.map_cons,List.mem_cons,not_or] at hb
    rw [k2 b hb.2,aQ hb.1]
   ·rcases List.mem_cons.mp hq with e | e
    ·rw [e];exact k1 p _ cF
    ·exact k3 q e
theorem u5:∀ (ps:List Addr),Vals (ps.map V.ref) (ps.map Value.ref)
 | []=> .nil
 | p :: ps=> .cons rfl (u5 ps)
theorem pZ {K:PySem.W.Frag} {H:Hp}:∀ {ds:List D} {xs:List V},ds.length=xs.length→(∀ (i:Nat) (d:D),ds[i]?=some d→∃ v,xs[i]?=some v∧Dat K H d v)→aB K H ds xs
 | [],[],_,_=>aH.mpr rfl
 | d :: ds,x :: xs,hl,h=>by
   obtain ⟨v,e,hv⟩:=h 0 d rfl
   cases e
   exact aA.mpr ⟨x,xs,rfl,hv,pZ (by simpa using hl) fun i d e=>h (i+1) d e⟩
 | [],_ :: _,hl,_=>by cases hl
 | _ :: _,[],hl,_=>by cases hl
end
section
variable {X:Cx} {pos:Pos}
def OE (t:xK):cK:=fun ρ M Q=>t ρ M fun vs M1=> ∃ a b xs ys,vs= [.ref a,.ref b]∧M1 a=some (.lst xs)∧M1 b=some (.lst ys)∧∀ p,M1 p=none→Q (.ref p) (ay M1 p (.lst (List.zipWith pairD xs ys)))
theorem C0 {e1 e2:Expr} {t:xK} {p1 p2 pos2:Pos} (hc:X.calm=true) (Lb:Gl X "list") (hml:X.mg "list" =none) (UI:Gl X "zip") (UJ:X.mg "zip" =none) (ha:CD X [e1,e2] t)
 (st1:starEach [e1,e2] X.env=(false,eval e1 X.env) :: starEach [e2] X.env:=by rfl) (hpl:(backTo pos2 (starEach [e2] X.env)).any (·.1)=false:=by rfl)
 (s2:starEach [.Call (.Name "zip" p2) [e1,e2] [] pos2] X.env= [(false,eval (.Call (.Name "zip" p2) [e1,e2] [] pos2) X.env)]:=by rfl) :
 bZ X (.Call (.Name "list" p1) [.Call (.Name "zip" p2) [e1,e2] [] pos2] [] pos) (OE t):=by
 constructor
 intro pins s σ H ρ M Q I r h
 refine wpAny_Call_Name_kw (ig I Lb hml gn ?_ (by decide) (by decide))
 refine PyProof.Rows.callWith_type1 (Q:=EP X pins σ (Post X.K M H Q)) ?_ (by rw [s2];rfl) (by rfl)
 rw [s2]
 show wpAny _ _ (spliced ((false,eval (.Call (.Name "zip" p2) [e1,e2] [] pos2) X.env) :: backTo pos [])) _ _ s
 refine Calls.spliced_cons ?_
 refine wpAny_Call_Name_kw (ig I UI UJ CY ?_ (by decide) (by decide))
 refine PyProof.Rows.callWith_type1 (cI (ha.run pos2 pins s σ H ρ M _ I r h) fun us s1 hq=>?_) st1 hpl
 obtain ⟨vs,H1,I1,r1,ds,M1,f1,dv,mR,a,b,xs,ys,e,UK,UL,q⟩:=hq
 subst e
 obtain ⟨v,u,rfl,hv,hu⟩:=EA dv
 obtain rfl:=aK.mp hv
 obtain rfl:=aK.mp hu
 obtain ⟨u1,u2,rfl,ra,rb⟩:=vals2 r1
 obtain rfl:u1=Value.ref a:=ra
 obtain rfl:u2=Value.ref b:=rb
 obtain ⟨zs,UM,dz⟩:=mR.lst UK
 obtain ⟨ws,UN,dw⟩:=mR.lst UL
 obtain ⟨its,rv,pl,hz1⟩:=I1.list (jb.of UM)
 obtain ⟨PF,rw',Rx,hz2⟩:=I1.list (jb.of UN)
 have la:a < s1.heap.objs.size:=by obtain ⟨o,e,_⟩:=pl.isList;exact Heap.lt_size e
 have lb:b < s1.heap.objs.size:=by obtain ⟨o,e,_⟩:=Rx.isList;exact Heap.lt_size e
 refine call_zip_2 pl.isList Rx.isList fun h' hz hTI hTO h1 h2 hsz kp=>Calls.spliced_nil ?_
 have na:∀ k,a≠s1.heap.objs.size+k:=fun k=>Nat.ne_of_lt (Nat.lt_of_lt_of_le la (Nat.le_add_right _ _))
 have nb:∀ k,b≠s1.heap.objs.size+k:=fun k=>Nat.ne_of_lt (Nat.lt_of_lt_of_le lb (Nat.le_add_right _ _))
 have nn:∀ j k:Nat,j≠k→s1.heap.objs.size+j≠s1.heap.objs.size+k:=fun j k h e=>h (Nat.add_left_cancel e)
 have D:ZipApart (s1.heap.objs.size+4) (s1.heap.objs.size+2) (s1.heap.objs.size+3) s1.heap.objs.size (s1.heap.objs.size+1) a b:=
  ⟨nn 2 4 (by decide),nn 3 4 (by decide),nn 0 4 (by decide),nn 1 4 (by decide),nn 2 3 (by decide),nn 2 0 (by decide),nn 2 1 (by decide),nn 3 0 (by decide),nn 3 1 (by decide),nn 0 1 (by decide),na 4,na 3,na 0,na 1,nb 4,nb 3,nb 0,nb 1⟩
 have lz:=rv.length
 have lw:=rw'.length
 refine ur (s:={ s1 with heap:=h' }) (show _ from I.ok.hd hc) D (by show _ < h'.objs.size∧_;rw [hsz];exact ⟨Nat.add_lt_add_left (by decide) _,Nat.add_lt_add_left (by decide) _,Nat.add_lt_add_left (by decide) _,Nat.lt_add_of_pos_right (by decide),Nat.add_lt_add_left (by decide) _,Nat.lt_of_lt_of_le la (Nat.le_add_right _ _),Nat.lt_of_lt_of_le lb (Nat.le_add_right _ _)⟩) (min its.toArray.size PF.toArray.size) rfl (by simp only [List.size_toArray];omega) hz hTI hTO h1 h2
  (by obtain ⟨o,e,r⟩:=pl.isList;exact ⟨o,kp _ _ e,r⟩) (by obtain ⟨o,e,r⟩:=Rx.isList;exact ⟨o,kp _ _ e,r⟩) fun h'' acc c CL hS hP=>?_
 have hS:h''.get? (s1.heap.objs.size+5)=some { cls:= .type "list",dict:=none,data:= .seq acc c,slots:= #[] }:=by rw [← hsz];exact hS
 have hP:cT (s1.heap.objs.size+6) its.toArray PF.toArray h'' acc (min its.toArray.size PF.toArray.size):=by
  have e:s1.heap.objs.size+6=h'.objs.size+1:=by rw [hsz]
  rw [e];exact hP
 have en:min its.toArray.size PF.toArray.size=min zs.length ws.length:=by simp only [List.size_toArray];omega
 rw [en] at hP
 have I2:Inv X pins σ H1 { s1 with heap:=h',toks:=s1.toks }:=I1.kept (t':=s1.toks) kp
 have fz:∀ {H':Hp} {b:Addr},s1.heap.objs.size≤b→H' b=none→jF X pins H' b:=fun hb hn=>I1.D6 hb hn
 have I3:Inv X pins σ H1 { s1 with heap:=h'',toks:=s1.toks }:=Inv.Ip (s:={ s1 with heap:=h',toks:=s1.toks }) (h':=h'') (t':=s1.toks) (fp:=[s1.heap.objs.size+4,s1.heap.objs.size+3,s1.heap.objs.size,s1.heap.objs.size+1]) I2
  (fun b o hb e=>by
   have nb:b≠s1.heap.objs.size+4∧b≠s1.heap.objs.size+3∧b≠s1.heap.objs.size∧b≠s1.heap.objs.size+1:=by simpa using hb
   exact CL b o nb.1 nb.2.1 nb.2.2.1 nb.2.2.2 e)
  (fun b hb=>by
   have hle:s1.heap.objs.size≤b:=by
    simp only [List.mem_cons,List.not_mem_nil,or_false] at hb
    rcases hb with rfl | rfl | rfl | rfl
    ·exact Nat.le_add_right _ _
    ·exact Nat.le_add_right _ _
    ·exact Nat.le_refl _
    ·exact Nat.le_add_right _ _
   exact fz hle (I1.hok.fresh hle))
 have key:∀ j,j < min zs.length ws.length→∃ x y u v p,zs[j]?=some x∧ws[j]?=some y∧RelV x u∧RelV y v∧acc[j]?=some (.ref p)∧IsPair h'' p u v∧s1.heap.objs.size+6≤p:=fun j hj=>by
  have gx:zs[j]?=some (zs[j]'(by omega)):=List.getElem?_eq_getElem (by omega)
  have gy:ws[j]?=some (ws[j]'(by omega)):=List.getElem?_eq_getElem (by omega)
  obtain ⟨u,hu,ru⟩:=rv.get gx
  obtain ⟨v,hv,Io⟩:=rw'.get gy
  obtain ⟨p,a1,a2,a3⟩:=hP.2.1 j u v hj (by simpa using hu) (by simpa using hv)
  exact ⟨_,_,u,v,p,gx,gy,ru,Io,a1,a2,a3⟩
 generalize hm:min zs.length ws.length=m at *
 let pj:Nat→Addr:=fun j=>match acc[j]? with | some (.ref p)=>p | _=>0
 have Ry:∀ j,j < m→∃ x y u v,zs[j]?=some x∧ws[j]?=some y∧RelV x u∧RelV y v∧acc[j]?=some (.ref (pj j))∧IsPair h'' (pj j) u v∧s1.heap.objs.size+6≤pj j:=fun j hj=>by
  obtain ⟨x,y,u,v,p,a1,a2,a3,a4,a5,a6,a7⟩:=key j hj
  have e:pj j=p:=by show (match acc[j]? with | some (.ref p)=>p | _=>0)=p;rw [a5]
  rw [e]
  exact ⟨x,y,u,v,a1,a2,a3,a4,a5,a6,a7⟩
 have JP:acc.toList=((List.range m).map pj).map Value.ref:=by
  apply List.ext_getElem?
  intro j
  by_cases hj:j < m
  ·obtain ⟨x,y,u,v,a1,a2,a3,a4,a5,a6,a7⟩:=Ry j hj
   rw [Array.getElem?_toList,a5]
   simp [hj]
  ·rw [List.getElem?_eq_none (by simp [hP.1];omega),List.getElem?_eq_none (by simp;omega)]
 have UO:((List.range m).map pj).Nodup:=by
  have q:=hP.2.2
  rw [JP] at q
  exact (List.pairwise_map.mp q).imp fun hne e=>hne (congrArg _ e)
 obtain ⟨H',I4,k1,k2,k3⟩:=rV ((List.range m).map fun j=>(pj j,(zs[j]?).getD .aX,(ws[j]?).getD .aX)) I3 (by rw [List.map_map];exact UO) (fun q hq=>by
  obtain ⟨j,hj,rfl⟩:=List.mem_map.mp hq
  obtain ⟨x,y,u,v,a1,a2,a3,a4,a5,a6,a7⟩:=Ry j (List.mem_range.mp hj)
  have hle:s1.heap.objs.size≤pj j:=Nat.le_trans (Nat.le_add_right _ _) a7
  refine ⟨fz hle (I1.hok.fresh hle),u,v,?_,?_,a6⟩
  ·show RelV ((zs[j]?).getD .aX) u;rw [a1];exact a3
  ·show RelV ((ws[j]?).getD .aX) v;rw [a2];exact a4)
 have Rz:H' (s1.heap.objs.size+5)=none:=by
  rw [k2 _ (fun hz=>?_)]
  ·exact I1.hok.fresh (Nat.le_add_right _ _)
  ·rw [List.map_map] at hz
   obtain ⟨j,hj,e⟩:=List.mem_map.mp hz
   obtain ⟨x,y,u,v,a1,a2,a3,a4,a5,a6,a7⟩:=Ry j (List.mem_range.mp hj)
   have e:pj j=s1.heap.objs.size+5:=e
   rw [e] at a7
   exact absurd a7 (by omega)
 have hlen:((List.range m).map pj).length≤sizeLine:=by
  rw [List.length_map,List.length_range]
  omega
 have I5:Inv X pins σ (upd H' (s1.heap.objs.size+5) (.lst (((List.range m).map pj).map V.ref))) { s1 with heap:=h'',toks:=s1.toks }:=
  I4.named (fz (Nat.le_add_right _ _) Rz) ⟨by rw [List.length_map];exact hlen,((List.range m).map pj).map Value.ref,c,u5 _,by rw [← JP];exact hS⟩
 have ev:(Value.ref ({ s1 with heap:=h' }:Shared).heap.objs.size)= .ref (s1.heap.objs.size+5):=by show Value.ref h'.objs.size=_;rw [hsz]
 have RA:Ext H1 H':=Ext.keep k1
 refine ⟨.ref (s1.heap.objs.size+5),_,I5,ev,.ref _,ay M1 _ (.lst (List.zipWith pairD xs ys)),?_,aK.mpr rfl,(mR.keep k1).newL Rz ?_,q _ ?_⟩
 ·refine f1.trans (Fr.trans (fun b o n e=>⟨k1 b o e,n⟩) (Fr.new Rz fun _ hb=>aP hb))
 ·refine pZ (by rw [List.length_zipWith,List.length_map,List.length_map,List.length_range,← hm,dz.length,dw.length]) fun i d hd=>?_
  rw [List.getElem?_zipWith] at hd
  cases hx:xs[i]? with
  | none=>rw [hx] at hd;cases hd
  | some dx=>
    cases hy:ys[i]? with
    | none=>rw [hx,hy] at hd;cases hd
    | some dy=>
      rw [hx,hy] at hd
      have hd:pairD dx dy=d:=Option.some.inj hd
      obtain ⟨x,gx,qx⟩:=dz.get hx
      obtain ⟨y,gy,qy⟩:=dw.get hy
      have hi:i < m:=by
       have i1:=(List.getElem?_eq_some_iff.mp gx).1
       have i2:=(List.getElem?_eq_some_iff.mp gy).1
       omega
      have q3:=k3 (pj i,(zs[i]?).getD .aX,(ws[i]?).getD .aX) (List.mem_map.mpr ⟨i,List.mem_range.mpr hi,rfl⟩)
      rw [gx,gy] at q3
      refine ⟨.ref (pj i),by simp [hi],?_⟩
      rw [← hd]
      exact aR.mpr ⟨pj i,[x,y],rfl,q3,aB.mono RA _ _ (aA.mpr ⟨x,[y],rfl,qx,aB.one qy⟩)⟩
 ·exact mR.free (I1.hok.fresh (Nat.le_add_right _ _))
end
end L3
namespace L3
open PySem
def iR:List Pl→Pl→List Pl
 | b :: a :: r,p=>if tw a b p < 0 then iR (a :: r) p else b :: a :: r
 | [a],_=>[a]
 | [],_=>[]
def aN (st:List Pl) (p:Pl):List Pl:=p :: iR st p
structure Way where
 al:Int
 be:Int
def Way.f (w:Way) (p:Pl):Int:=w.al*p.x+w.be*p.y
theorem gB (al be ux uy vx vy px py:Int):(al*vx+be*vy)*(ux*py - uy*px)=(al*ux+be*uy)*(vx*py - vy*px)+(al*px+be*py)*(ux*vy - uy*vx):=by grind
theorem vY {a b:Int} (ha:0 < a) (h:0≤a*b):0≤b:=by
 apply Classical.byContradiction
 intro z
 have:a*b < 0:=Int.mul_neg_of_pos_of_neg ha (by omega)
 omega
theorem BK {a b:Int} (ha:0 < a) (h:0 < a*b):0 < b:=by
 apply Classical.byContradiction
 intro z
 have:a*b≤0:=Int.mul_nonpos_of_nonneg_of_nonpos (by omega) (by omega)
 omega
section
variable {w:Way}
theorem Iq {z a b p:Pl} (h1:w.f z < w.f a) (h2:w.f a < w.f b) (h3:w.f b < w.f p) (t1:0≤tw z a b) (t2:0≤tw a b p):0≤tw z a p:=by
 have key:=gB w.al w.be (a.x - z.x) (a.y - z.y) (b.x - a.x) (b.y - a.y) (p.x - a.x) (p.y - a.y)
 unfold Way.f at h1 h2 h3
 have e1:tw z a b=(a.x - z.x)*(b.y - a.y) - (a.y - z.y)*(b.x - a.x):=by unfold tw;grind
 have e2:tw a b p=(b.x - a.x)*(p.y - a.y) - (b.y - a.y)*(p.x - a.x):=by unfold tw;grind
 have e3:tw z a p=(a.x - z.x)*(p.y - a.y) - (a.y - z.y)*(p.x - a.x):=by unfold tw;grind
 rw [← e1,← e2,← e3] at key
 have fU:0 < w.al*(a.x - z.x)+w.be*(a.y - z.y):=by rw [Int.mul_sub,Int.mul_sub];omega
 have fV:0 < w.al*(b.x - a.x)+w.be*(b.y - a.y):=by rw [Int.mul_sub,Int.mul_sub];omega
 have fP:0 < w.al*(p.x - a.x)+w.be*(p.y - a.y):=by rw [Int.mul_sub,Int.mul_sub];omega
 refine vY fV ?_
 rw [key]
 have m1:=Int.mul_nonneg (Int.le_of_lt fU) t2
 have m2:=Int.mul_nonneg (Int.le_of_lt fP) t1
 omega
theorem Fg {a c p q:Pl} (h1:w.f a < w.f c) (h2:w.f c < w.f p) (h3:w.f q≤w.f c) (t1:0≤tw a c q) (t2:0≤tw a c p):0≤tw c p q:=by
 have key:=gB w.al w.be (p.x - c.x) (p.y - c.y) (c.x - a.x) (c.y - a.y) (q.x - c.x) (q.y - c.y)
 unfold Way.f at h1 h2 h3
 have e1:tw a c q=(c.x - a.x)*(q.y - c.y) - (c.y - a.y)*(q.x - c.x):=by unfold tw;grind
 have e2:tw a c p= -((p.x - c.x)*(c.y - a.y) - (p.y - c.y)*(c.x - a.x)):=by unfold tw;grind
 have e3:tw c p q=(p.x - c.x)*(q.y - c.y) - (p.y - c.y)*(q.x - c.x):=by unfold tw;grind
 have RB:(p.x - c.x)*(c.y - a.y) - (p.y - c.y)*(c.x - a.x)= -tw a c p:=by omega
 rw [← e1,RB,← e3] at key
 have fU:0 < w.al*(c.x - a.x)+w.be*(c.y - a.y):=by rw [Int.mul_sub,Int.mul_sub];omega
 have fP:0 < w.al*(p.x - c.x)+w.be*(p.y - c.y):=by rw [Int.mul_sub,Int.mul_sub];omega
 have fQ:w.al*(q.x - c.x)+w.be*(q.y - c.y)≤0:=by rw [Int.mul_sub,Int.mul_sub];omega
 refine vY fU ?_
 rw [key]
 have m1:=Int.mul_nonneg (Int.le_of_lt fP) t1
 have m2:0≤(w.al*(q.x - c.x)+w.be*(q.y - c.y))* -tw a c p:=Int.mul_nonneg_of_nonpos_of_nonpos fQ (by omega)
 omega
theorem Fi {c d p q:Pl} (h1:w.f c < w.f d) (h2:w.f c < w.f p) (h3:w.f c < w.f q) (t1:0≤tw c d q) (t2:tw c d p < 0):0 < tw c p q:=by
 have key:=gB w.al w.be (p.x - c.x) (p.y - c.y) (d.x - c.x) (d.y - c.y) (q.x - c.x) (q.y - c.y)
 unfold Way.f at h1 h2 h3
 have e1:tw c d q=(d.x - c.x)*(q.y - c.y) - (d.y - c.y)*(q.x - c.x):=by unfold tw;grind
 have RB:(p.x - c.x)*(d.y - c.y) - (p.y - c.y)*(d.x - c.x)= -tw c d p:=by unfold tw;grind
 have e3:tw c p q=(p.x - c.x)*(q.y - c.y) - (p.y - c.y)*(q.x - c.x):=by unfold tw;grind
 rw [← e1,RB,← e3] at key
 have fU:0 < w.al*(d.x - c.x)+w.be*(d.y - c.y):=by rw [Int.mul_sub,Int.mul_sub];omega
 have fP:0 < w.al*(p.x - c.x)+w.be*(p.y - c.y):=by rw [Int.mul_sub,Int.mul_sub];omega
 have fQ:0 < w.al*(q.x - c.x)+w.be*(q.y - c.y):=by rw [Int.mul_sub,Int.mul_sub];omega
 refine BK fU ?_
 rw [key]
 have m1:=Int.mul_nonneg (Int.le_of_lt fP) t1
 have m2:0 < (w.al*(q.x - c.x)+w.be*(q.y - c.y))* -tw c d p:=Int.mul_pos fQ (by omega)
 omega
def vZ (w:Way) (S:List Pl) (a b:Pl):Prop:= ∀ q∈S,0≤tw a b q∧(tw a b q=0→¬ (w.f a < w.f q∧w.f q < w.f b))
def lJ (w:Way) (S:List Pl):List Pl→Prop
 | b :: a :: r=>w.f a < w.f b∧vZ w S a b∧lJ w S (a :: r)
 | _=>True
def BL (p:Pl):List Pl→Prop
 | b :: a :: r=>0≤tw a b p∧BL p (a :: r)
 | _=>True
structure Ch (w:Way) (S st:List Pl):Prop where
 rW:∀ q∈st,q∈S
 Ir:lJ w S st
 top:∀ q∈S,∃ t,st.head?=some t∧w.f q≤w.f t
 bot:∀ q∈S,∃ t,st.getLast?=some t∧w.f t≤w.f q
 inj:∀ q∈S,∀ r∈S,w.f q=w.f r→q=r
theorem yq {S:List Pl} {p:Pl}:∀ (r:List Pl) (b a:Pl),lJ w S (b :: a :: r)→(∀ q∈b :: a :: r,q∈S)→w.f b < w.f p→0≤tw a b p→BL p (b :: a :: r)
 | [],b,a,_,_,_,t=>⟨t,trivial⟩
 | z :: r,b,a,e,m,h,t=>by
   obtain ⟨e1,e2,e3⟩:=e
   obtain ⟨e4,e5,e6⟩:=id e3
   have t2:0≤tw z a p:=Iq e4 e1 h (e5 b (m b (by simp))).1 t
   exact ⟨t,yq r a z e3 (fun q hq=>m q (List.mem_cons_of_mem _ hq)) (by omega) t2⟩
structure Lw (w:Way) (S st:List Pl) (p c:Pl) (r:List Pl):Prop where
 eq:iR st p=c :: r
 Ir:lJ w S (c :: r)
 rW:∀ q∈c :: r,q∈S
 i8:BL p (c :: r)
 lst:(c :: r).getLast?=st.getLast?
 S0:(∀ q∈S,w.f q≤w.f c)∨∃ d,w.f c < w.f d∧(∀ q∈S,0≤tw c d q)∧tw c d p < 0
theorem Fj {S:List Pl} {p:Pl} (hp:∀ q∈S,w.f q < w.f p):∀ (st:List Pl) (c:Pl) (r:List Pl),st=c :: r→lJ w S st→(∀ q∈st,q∈S)→((∀ q∈S,w.f q≤w.f c)∨∃ d,w.f c < w.f d∧(∀ q∈S,0≤tw c d q)∧tw c d p < 0)→
 ∃ c' r',Lw w S st p c' r'
 | _,c,[],rfl,e,m,f=>⟨c,[],rfl,trivial,m,trivial,rfl,f⟩
 | _,b,a :: r,rfl,e,m,f=>by
   obtain ⟨e1,e2,e3⟩:=id e
   by_cases k:tw a b p < 0
   ·obtain ⟨c',r',P⟩:=Fj hp (a :: r) a r rfl e3 (fun q hq=>m q (List.mem_cons_of_mem _ hq)) (.inr ⟨b,e1,fun q hq=>(e2 q hq).1,k⟩)
    refine ⟨c',r',?_,P.Ir,P.rW,P.i8,?_,P.S0⟩
    ·show (if tw a b p < 0 then iR (a :: r) p else b :: a :: r)=_
     rw [if_pos k];exact P.eq
    ·rw [P.lst];rfl
   ·refine ⟨b,a :: r,?_,e,m,yq r b a e m (hp b (m b (by simp))) (by omega),rfl,f⟩
    show (if tw a b p < 0 then iR (a :: r) p else b :: a :: r)=_
    rw [if_neg k]
theorem rX {S:List Pl} {p:Pl}:∀ (st:List Pl),lJ w S st→BL p st→(∀ q∈st,w.f q < w.f p)→lJ w (S ++ [p]) st
 | [],_,_,_=>trivial
 | [_],_,_,_=>trivial
 | b :: a :: r,e,l,h=>by
   obtain ⟨e1,e2,e3⟩:=e
   refine ⟨e1,fun q hq=>?_,rX (a :: r) e3 l.2 fun q hq=>h q (List.mem_cons_of_mem _ hq)⟩
   rcases List.mem_append.mp hq with hq | hq
   ·exact e2 q hq
   ·rw [List.mem_singleton.mp hq]
    exact ⟨l.1,fun _ z=>by have:=h b (by simp);omega⟩
theorem Ch.push {S st:List Pl} {p:Pl} (C:Ch w S st) (hne:S≠[]) (hp:∀ q∈S,w.f q < w.f p):Ch w (S ++ [p]) (aN st p):=by
 obtain ⟨s0,hs0⟩:=List.exists_mem_of_ne_nil S hne
 obtain ⟨b,hb,_⟩:=C.top s0 hs0
 obtain ⟨r,rfl⟩:∃ r,st=b :: r:=by
  cases st with
  | nil=>cases hb
  | cons x r=>exact ⟨r,by rw [Option.some.inj hb]⟩
 obtain ⟨c,r',P⟩:=Fj hp (b :: r) b r rfl C.Ir C.rW (.inl fun q hq=>by
  obtain ⟨t,e,h⟩:=C.top q hq
  rw [← Option.some.inj e] at h
  exact h)
 have cS:c∈S:=P.rW c (by simp)
 have hcp:w.f c < w.f p:=hp c cS
 have RC:vZ w (S ++ [p]) c p:=fun q hq=>by
  rcases List.mem_append.mp hq with hq | hq
  ·by_cases k:w.f q≤w.f c
   ·refine ⟨?_,fun _ z=>by omega⟩
    cases r' with
    | nil=>
      obtain ⟨t,e,h⟩:=C.bot q hq
      rw [← P.lst] at e
      have e:c=t:=by simpa using e
      subst e
      have:=C.inj q hq c cS (by omega)
      subst this
      rw [gq]
      exact Int.le_refl _
    | cons a r''=>
      obtain ⟨e1,e2,e3⟩:=P.Ir
      exact Fg e1 hcp k (e2 q hq).1 P.i8.1
   ·rcases P.S0 with f | ⟨d,d1,d2,d3⟩
    ·exact absurd (f q hq) k
    ·have:=Fi d1 hcp (by omega) (d2 q hq) d3
     exact ⟨by omega,fun z=>by omega⟩
  ·rw [List.mem_singleton.mp hq,rD]
   exact ⟨Int.le_refl _,fun _ z=>by omega⟩
 refine ⟨fun q hq=>?_,?_,fun q hq=>⟨p,rfl,?_⟩,fun q hq=>?_,fun q hq r hr e=>?_⟩
 ·unfold aN at hq
  rw [P.eq] at hq
  rcases List.mem_cons.mp hq with rfl | hq
  ·simp
  ·exact List.mem_append_left _ (P.rW q hq)
 ·unfold aN
  rw [P.eq]
  exact ⟨hcp,RC,rX _ P.Ir P.i8 fun q hq=>hp q (P.rW q hq)⟩
 ·rcases List.mem_append.mp hq with hq | hq
  ·have:=hp q hq;omega
  ·rw [List.mem_singleton.mp hq];exact Int.le_refl _
 ·unfold aN
  rw [P.eq,List.getLast?_cons_cons,P.lst]
  rcases List.mem_append.mp hq with hq | hq
  ·exact C.bot q hq
  ·rw [List.mem_singleton.mp hq]
   obtain ⟨t,e,h⟩:=C.bot s0 hs0
   have:=hp s0 hs0
   exact ⟨t,e,by omega⟩
 ·rcases List.mem_append.mp hq with hq | hq <;> rcases List.mem_append.mp hr with hr | hr
  ·exact C.inj q hq r hr e
  ·rw [List.mem_singleton.mp hr] at e;have:=hp q hq;omega
  ·rw [List.mem_singleton.mp hq] at e;have:=hp r hr;omega
  ·rw [List.mem_singleton.mp hq,List.mem_singleton.mp hr]
theorem Ch.one (p:Pl):Ch w [p] (aN [] p):=by
 refine ⟨fun q hq=>hq,trivial,fun q hq=>⟨p,rfl,?_⟩,fun q hq=>⟨p,rfl,?_⟩,fun q hq r hr _=>?_⟩
 ·rw [List.mem_singleton.mp hq];exact Int.le_refl _
 ·rw [List.mem_singleton.mp hq];exact Int.le_refl _
 ·rw [List.mem_singleton.mp hq,List.mem_singleton.mp hr]
theorem Ch.all:∀ (line S st:List Pl),S≠[]→Ch w S st→(S ++ line).Pairwise (fun p q=>w.f p < w.f q)→Ch w (S ++ line) (line.foldl aN st)
 | [],S,st,_,C,_=>by rw [List.append_nil];exact C
 | p :: line,S,st,hne,C,hs=>by
   have e:S ++ p :: line=(S ++ [p]) ++ line:=by simp
   rw [e] at hs ⊢
   have hp:∀ q∈S,w.f q < w.f p:=fun q hq=>by
    have:=(List.pairwise_append.mp (List.pairwise_append.mp hs).1).2.2 q hq p (by simp)
    exact this
   rw [List.foldl_cons]
   exact Ch.all line (S ++ [p]) (aN st p) (by simp) (C.push hne hp) hs
theorem nv {line:List Pl} (hne:line≠[]) (hs:line.Pairwise (fun p q=>w.f p < w.f q)):Ch w line (line.foldl aN []):=by
 cases line with
 | nil=>exact absurd rfl hne
 | cons p line=>exact Ch.all line [p] (aN [] p) (by simp) (Ch.one p) hs
def v5 (st:List Pl) (a b:Pl):Prop:= ∃ i:Nat,st[i+1]?=some a∧st[i]?=some b
theorem v7 {S:List Pl}:∀ {st:List Pl} {a b:Pl},lJ w S st→v5 st a b→w.f a < w.f b∧vZ w S a b
 | [],a,b,_,⟨i,h,_⟩=>by simp at h
 | [_],a,b,_,⟨i,h,_⟩=>by simp at h
 | y :: x :: r,a,b,e,⟨i,h1,h2⟩=>by
   obtain ⟨e1,e2,e3⟩:=e
   cases i with
   | zero=>
     have z1:x=a:=by simpa using h1
     have z2:y=b:=by simpa using h2
     subst z1 z2
     exact ⟨e1,e2⟩
   | succ i=>exact v7 e3 ⟨i,by simpa using h1,by simpa using h2⟩
theorem u6 {S:List Pl}:∀ {st:List Pl} {t a:Pl},lJ w S st→st.head?=some t→w.f a < w.f t→(∃ z,st.getLast?=some z∧w.f z≤w.f a)→∃ c d,v5 st c d∧w.f c≤w.f a∧w.f a < w.f d
 | [],t,a,_,h,_,_=>by cases h
 | [y],t,a,_,h,h1,⟨z,hz,h2⟩=>by
   have z1:y=t:=by simpa using h
   have z2:y=z:=by simpa using hz
   subst z1 z2
   omega
 | y :: x :: r,t,a,e,h,h1,hz=>by
   have z1:y=t:=by simpa using h
   subst z1
   obtain ⟨e1,e2,e3⟩:=e
   by_cases k:w.f x≤w.f a
   ·exact ⟨x,y,⟨0,rfl,rfl⟩,k,h1⟩
   ·obtain ⟨c,d,⟨i,g1,g2⟩,g3,g4⟩:=u6 (t:=x) (a:=a) e3 rfl (by omega) (by
     obtain ⟨z,hz,h2⟩:=hz
     exact ⟨z,by simpa using hz,h2⟩)
    exact ⟨c,d,⟨i+1,by simpa using g1,by simpa using g2⟩,g3,g4⟩
theorem C3 {a b c d:Pl} (h1:w.f c < w.f a) (h2:w.f a < w.f d) (h3:w.f a < w.f b) (t1:0≤tw a b c) (t2:0≤tw a b d):tw c d a≤0:=by
 have key:=gB w.al w.be (c.x - a.x) (c.y - a.y) (b.x - a.x) (b.y - a.y) (d.x - a.x) (d.y - a.y)
 unfold Way.f at h1 h2 h3
 have e1:(c.x - a.x)*(b.y - a.y) - (c.y - a.y)*(b.x - a.x)= -tw a b c:=by unfold tw;grind
 have e2:tw a b d=(b.x - a.x)*(d.y - a.y) - (b.y - a.y)*(d.x - a.x):=by unfold tw;grind
 have e3:tw c d a=(c.x - a.x)*(d.y - a.y) - (c.y - a.y)*(d.x - a.x):=by unfold tw;grind
 rw [e1,← e2,← e3] at key
 have fV:0 < w.al*(b.x - a.x)+w.be*(b.y - a.y):=by rw [Int.mul_sub,Int.mul_sub];omega
 have fC:w.al*(c.x - a.x)+w.be*(c.y - a.y) < 0:=by rw [Int.mul_sub,Int.mul_sub];omega
 have fD:0 < w.al*(d.x - a.x)+w.be*(d.y - a.y):=by rw [Int.mul_sub,Int.mul_sub];omega
 have m1:(w.al*(c.x - a.x)+w.be*(c.y - a.y))*tw a b d≤0:=Int.mul_nonpos_of_nonpos_of_nonneg (by omega) t2
 have m2:(w.al*(d.x - a.x)+w.be*(d.y - a.y))* -tw a b c≤0:=Int.mul_nonpos_of_nonneg_of_nonpos (by omega) (by omega)
 apply Classical.byContradiction
 intro z
 have:0 < (w.al*(b.x - a.x)+w.be*(b.y - a.y))*tw c d a:=Int.mul_pos fV (by omega)
 omega
theorem jf {S st:List Pl} (C:Ch w S st) {a b:Pl}:v5 st a b↔a∈S∧b∈S∧w.f a < w.f b∧vZ w S a b:=by
 constructor
 ·intro h
  obtain ⟨h1,h2⟩:=v7 C.Ir h
  obtain ⟨i,g1,g2⟩:=h
  exact ⟨C.rW a (List.mem_of_getElem? g1),C.rW b (List.mem_of_getElem? g2),h1,h2⟩
 ·rintro ⟨ha,hb,hab,he⟩
  obtain ⟨t,ht,WB⟩:=C.top b hb
  obtain ⟨c,d,hcd,h1,h2⟩:=u6 C.Ir ht (show w.f a < w.f t by omega) (C.bot a ha)
  obtain ⟨e1,e2⟩:=v7 C.Ir hcd
  have hc:c∈S:=by obtain ⟨i,g1,g2⟩:=hcd;exact C.rW c (List.mem_of_getElem? g1)
  have hd:d∈S:=by obtain ⟨i,g1,g2⟩:=hcd;exact C.rW d (List.mem_of_getElem? g2)
  have ea:c=a:=by
   apply Classical.byContradiction
   intro z
   have hlt:w.f c < w.f a:=by
    rcases Int.lt_or_eq_of_le h1 with y | y
    ·exact y
    ·exact absurd (C.inj c hc a ha y) z
   have t1:=C3 hlt h2 hab (he c hc).1 (he d hd).1
   have t2:=(e2 a ha).1
   exact (e2 a ha).2 (by omega) ⟨hlt,h2⟩
  subst ea
  have t1:=(he d hd).1
  have t2:=(e2 b hb).1
  have t3:tw c d b= -tw c b d:=by rw [jY]
  have t0:tw c b d=0:=by omega
  have ed:d=b:=by
   rcases Int.lt_trichotomy (w.f d) (w.f b) with y | y | y
   ·exact absurd ⟨h2,y⟩ ((he d hd).2 t0)
   ·exact C.inj d hd b hb y
   ·exact absurd ⟨hab,y⟩ ((e2 b hb).2 (by omega))
  subst ed
  exact hcd
def aq:Way:=⟨2 ^ 142,1⟩
def qj:Way:=⟨-2 ^ 142, -1⟩
theorem ny {p q:Pl} (hp:p.y.natAbs < 2 ^ 140) (hq:q.y.natAbs < 2 ^ 140):aI p q↔aq.f p < aq.f q:=by
 unfold aI Way.f aq
 dsimp only
 have e:(2:Int) ^ 142=5575186299632655785383929568162090376495104:=by decide
 have e2:(2:Nat) ^ 140=1393796574908163946345982392040522594123776:=by decide
 rw [e2] at hp hq
 rw [e]
 omega
theorem gc (p:Pl):qj.f p= -aq.f p:=by
 unfold Way.f qj aq
 dsimp only
 have e:(2:Int) ^ 142=5575186299632655785383929568162090376495104:=by decide
 rw [e]
 omega
end
end L3
namespace L3
open PySem PySem.Spec PyProof.Rows L2
theorem C4 (b:Pl) (r:List Pl):t8 ((b :: r).reverse.map Pl.d) (-1)=some b.d:=by
 rw [List.reverse_cons,List.map_append]
 exact Eg _ _
theorem C5 (b a:Pl) (r:List Pl):t8 ((b :: a :: r).reverse.map Pl.d) (-2)=some a.d:=by
 have hl:((b :: a :: r).reverse.map Pl.d).length=r.length+2:=by simp
 have e:DU (r.length+2) (-2)=some r.length:=by
  unfold DU
  rw [if_neg (by decide),if_pos (by omega)]
  congr 1
  omega
 unfold t8
 rw [hl,e]
 show ((b :: a :: r).reverse.map Pl.d)[r.length]?=some a.d
 rw [List.reverse_cons,List.reverse_cons,List.append_assoc,List.map_append,List.getElem?_append_right (by simp)]
 simp
theorem yr:∀ (st:List Pl) (p:Pl),(iR st p).length≤st.length
 | [],_=>Nat.le_refl _
 | [_],_=>Nat.le_refl _
 | b :: a :: r,p=>by
   show (if tw a b p < 0 then iR (a :: r) p else b :: a :: r).length≤_
   have:=yr (a :: r) p
   split
   ·simp only [List.length_cons] at this ⊢;omega
   ·exact Nat.le_refl _
theorem yt:∀ (st:List Pl) (p:Pl),∀ q∈iR st p,q∈st
 | [],_,_,h=>h
 | [_],_,_,h=>h
 | b :: a :: r,p,q,h=>by
   have h:q∈(if tw a b p < 0 then iR (a :: r) p else b :: a :: r):=h
   by_cases k:tw a b p < 0
   ·rw [if_pos k] at h
    exact List.mem_cons_of_mem _ (yt (a :: r) p q h)
   ·rw [if_neg k] at h
    exact h
theorem Fl {a b p:Pl} {r:List Pl} (h:tw a b p < 0):iR (b :: a :: r) p=iR (a :: r) p:=by
 show (if tw a b p < 0 then iR (a :: r) p else b :: a :: r)=_
 rw [if_pos h]
theorem Fo {a b p:Pl} {r:List Pl} (h:¬ tw a b p < 0):iR (b :: a :: r) p=b :: a :: r:=by
 show (if tw a b p < 0 then iR (a :: r) p else b :: a :: r)=_
 rw [if_neg h]
theorem dY (ps:List Pl):(ps.foldl aN []).length≤ps.length:=by
 have key:∀ (ps st:List Pl),(ps.foldl aN st).length≤st.length+ps.length:=by
  intro ps
  induction ps with
  | nil=>intro st;simp
  | cons p ps ih=>
    intro st
    have h1:=ih (aN st p)
    have h2:(aN st p).length≤st.length+1:=by
     show (iR st p).length+1≤_
     have:=yr st p
     omega
    simp only [List.foldl_cons,List.length_cons]
    omega
 simpa using key ps []
theorem oV (ps:List Pl):∀ q∈ps.foldl aN [],q∈ps:=by
 have key:∀ (ps st:List Pl),∀ q∈ps.foldl aN st,q∈st∨q∈ps:=by
  intro ps
  induction ps with
  | nil=>intro st q h;exact .inl h
  | cons p ps ih=>
    intro st q h
    rcases ih (aN st p) q h with h | h
    ·rcases List.mem_cons.mp h with h | h
     ·exact .inr (by rw [h];exact List.mem_cons_self ..)
     ·exact .inl (yt st p q h)
    ·exact .inr (List.mem_cons_of_mem _ h)
 intro q h
 rcases key ps [] q h with h | h
 ·cases h
 ·exact h
theorem Am {ps:List Pl} {i:Nat} {p:Pl} (h:ps[i]?=some p):(ps.take (i+1)).foldl aN []=aN ((ps.take i).foldl aN []) p:=by
 rw [List.take_succ,h,List.foldl_append]
 rfl
theorem Le.put {M M':Mp} {p:Addr} {o:MO} (h:Le M M'):Le (ay M p o) (ay M' p o):=fun c u e=>by
 by_cases hc:c=p
 ·subst hc
  rw [ai] at e ⊢;exact e
 ·rw [aP hc] at e ⊢
  exact h c u e
theorem Le.free {M M':Mp} {p:Addr} (h:Le M M') (e:M' p=none):M p=none:=by
 cases k:M p with
 | none=>rfl
 | some o=>rw [h p o k] at e;cases e
theorem yu (ps:List Pl):cutD (ps.map Pl.d) none (some (-1))=ps.dropLast.map Pl.d:=by
 unfold cutD
 have e:HT.mS (ps.map Pl.d).length (ps.map Pl.d).length (some (-1))=ps.length - 1:=by
  unfold HT.mS
  dsimp only
  rw [if_pos (by decide),List.length_map]
  omega
 have e0:HT.mS (ps.map Pl.d).length 0 none=0:=rfl
 rw [e,e0,List.drop_zero,Nat.sub_zero,List.dropLast_eq_take,List.map_take]
def Flat (ps:List Pl):Prop:= ∀ p∈ps,∀ q∈ps,∀ r∈ps,tw p q r=0
def hz (qs:List Pl):Pl:=qs.headD ⟨0,0⟩
def lz (qs:List Pl):Pl:=qs.getLastD ⟨0,0⟩
theorem Lx {dx dy ux uy vx vy:Int} (h:dx≠0∨dy≠0) (h1:dx*uy - dy*ux=0) (h2:dx*vy - dy*vx=0):ux*vy - uy*vx=0:=by
 rcases h with h | h
 ·have:dx*(ux*vy - uy*vx)=0:=by grind
  exact (Int.mul_eq_zero.mp this).resolve_left h
 ·have:dy*(ux*vy - uy*vx)=0:=by grind
  exact (Int.mul_eq_zero.mp this).resolve_left h
theorem Fp {a z p q r:Pl} (h:a≠z) (h1:tw a z p=0) (h2:tw a z q=0) (h3:tw a z r=0):tw p q r=0:=by
 have hd:z.x - a.x≠0∨z.y - a.y≠0:=by
  by_cases k:z.x - a.x=0
  ·right
   intro k2
   apply h
   cases a;cases z
   simp only at k k2
   rw [Pl.mk.injEq]
   omega
  ·exact .inl k
 unfold tw at h1 h2 h3 ⊢
 exact Lx hd (ux:=q.x - p.x) (uy:=q.y - p.y) (vx:=r.x - p.x) (vy:=r.y - p.y) (by grind) (by grind)
def bJ (qs:List Pl):List Pl:=if qs.length < 2 then qs else (qs.foldl aN []).reverse.dropLast ++ (qs.reverse.foldl aN []).reverse.dropLast
def cD (b:List Pl):List (List Pl):=if b.length < 2 then [] else List.zipWith (fun p q=>[p,q]) b (b.drop 1 ++ b.take 1)
theorem yv {α:Type} (g:α→D) (xs:List α) (n:Nat) (h:n≤xs.length):cutD (xs.map g) none (some (n:Int))=(xs.take n).map g:=by
 unfold cutD
 rw [HT.qG,HT.xW]
 rw [List.length_map,Nat.min_eq_left h,List.map_take,List.drop_zero,Nat.sub_zero]
theorem u7:∀ (as bs:List Pl),(List.zipWith (fun p q=>[p,q]) as bs).map (fun ps:List Pl=>D.tup (ps.map Pl.d))=List.zipWith pairD (as.map Pl.d) (bs.map Pl.d)
 | [],_=>by simp
 | _ :: _,[]=>by simp
 | a :: as,b :: bs=>by
   show D.tup [a.d,b.d] :: (List.zipWith (fun p q=>[p,q]) as bs).map (fun ps:List Pl=>D.tup (ps.map Pl.d))=pairD a.d b.d :: List.zipWith pairD (as.map Pl.d) (bs.map Pl.d)
   rw [u7 as bs]
   rfl
end L3
namespace L3
open PySem PySem.Spec PyProof.Rows L2
section
variable {P:Program} {w:World} {A:Around} {E:Value→Shared→Prop} {s:Shared}
end
section
variable {X:Cx} {pos:Pos}
end
end L3
namespace L3
open PySem PySem.Spec PyProof.Rows L2
section
open PySem.SeqAt
open PySem.AutoSeq1 (wpAny_loadPart')
open PySem.MeetsSeq PySem.MeetsSeq2 PySem.MeetsSeq3
end
section
variable {X:Cx} {pos:Pos}
def RD (to te:cK):cK:=fun ρ M Q=>to ρ M fun d M1=>(∃ l xs,d= .ref l∧M1 l=some (.lst xs))∧te ρ M1 fun e M2=> ∃ (l b:Addr) (xs zs:List D),d= .ref l∧e= .ref b∧M2 l=some (.lst xs)∧M2 b=some (.lst zs)∧xs.length+zs.length≤sizeLine∧Q .aX (ay M2 l (.lst (xs ++ zs)))
theorem JQ {o e:Expr} {to te:cK} {apos pos:Pos} (ho:bZ X o to) (he:bZ X e te) (Lc:PE X (.Call (.Attribute o "extend" apos) [e] [] pos) (QD X.K "list" Bo (dn X.K to) (Eb (dn X.K te) Kz))):bZ X (.Call (.Attribute o "extend" apos) [e] [] pos) (RD to te):=
 up Lc fun σ H ρ M Q r q=>cN r q fun v H' d M' f dv r' ⟨⟨l,xs,e1,hM⟩,q⟩=>by
  subst e1
  obtain rfl:=aK.mp dv
  obtain ⟨ys,ha,hy⟩:=r'.mem.lst hM
  refine ⟨.inl ⟨rfl,_,jb.of ha⟩,cN r' q fun u H2 d2 M2 f2 du r2 ⟨l',b,xs',zs,e2,e3,JH,hB,hlt,q2⟩=>?_⟩
  injection e2 with e2
  subst e2 e3
  obtain rfl:=aK.mp du
  obtain ⟨ws,hb,hw⟩:=r2.mem.lst JH
  obtain ⟨vs,hc,hv⟩:=r2.mem.lst hB
  exact ⟨l,b,ws,vs,rfl,rfl,hb,hc,by rw [← hw.length,← hv.length];exact hlt,.aX,_,(f.trans f2).trans (Fr.write (K:=X.K) JH),b8.mpr rfl,r2.mem.jV hb (hw.append hv),q2⟩
end
end L3
namespace L3
open PySem PySem.Spec PyProof.Rows L2
section
variable {P:Program} {w:World} {A:Around} {E:Value→Shared→Prop} {s:Shared}
end
section
variable {X:Cx} {pos:Pos}
end
section
open PySem.SeqAt
open PySem.AutoSeq1 (wpAny_loadPart')
open PySem.MeetsSeq PySem.MeetsSeq2 PySem.MeetsSeq3
end
end L3
namespace L3
open PySem PySem.Spec PyProof.Rows L2
section
variable {P:Program} {w:World} {A:Around} {E:Value→Shared→Prop} {s:Shared}
end
end L3
namespace L3
open PySem PySem.Spec PyProof.Rows L2
section
variable {X:Cx} {pos:Pos}
structure S1 (X:Cx) (r:D→Mp→DK→Prop):Prop where
 run:∀ (pins:List (Addr ×Obj)) (s:Shared) (σ:St) (H:Hp) (M:Mp) (x:V) (d:D) (u:Value) (Q:DK),Inv X pins σ H s→br X.K H M→RelV x u→Dat X.K H d x→r d M Q→wpAny (model X.prog X.w) X.A (call (.builtin "min") [u] [(Str.ofString "default",.none)]) (EP X pins σ (Post X.K M H Q)) X.xe s
end
end L3
namespace L3
open PySem PySem.Spec PyProof.Rows L2
section
variable {P:Program} {w:World} {A:Around} {E:Value→Shared→Prop} {s:Shared}
variable {κ:KeyKind} {kd:SortKind}
end
section
variable {X:Cx}
end
end L3
namespace L3
def Nx:List Pl→Pl→Pl→Prop
 | x :: y :: r,a,b=>(x=a∧y=b)∨Nx (y :: r) a b
 | _,_,_=>False
theorem An (h:Pl) (r:List Pl) (a b:Pl):∀ X:List Pl,Nx (X ++ h :: r) a b↔Nx (X ++ [h]) a b∨Nx (h :: r) a b
 | []=>by
   show Nx (h :: r) a b↔Nx [h] a b∨Nx (h :: r) a b
   have:¬ Nx [h] a b:=fun z=>z
   exact ⟨.inr,fun z=>z.elim (fun y=>absurd y this) id⟩
 | [x]=>by
   show (x=a∧h=b)∨Nx (h :: r) a b↔((x=a∧h=b)∨Nx [h] a b)∨Nx (h :: r) a b
   have:¬ Nx [h] a b:=fun z=>z
   constructor
   ·rintro (z | z)
    ·exact .inl (.inl z)
    ·exact .inr z
   ·rintro ((z | z) | z)
    ·exact .inl z
    ·exact absurd z this
    ·exact .inr z
 | x :: y :: X=>by
   have ih:=An h r a b (y :: X)
   show (x=a∧y=b)∨Nx (y :: X ++ h :: r) a b↔((x=a∧y=b)∨Nx (y :: X ++ [h]) a b)∨Nx (h :: r) a b
   rw [ih,or_assoc]
theorem nD:∀ (st:List Pl) (a b:Pl),v5 st a b↔Nx st.reverse a b
 | [],a,b=>⟨fun ⟨i,h,_⟩=>by simp at h,fun z=>z.elim⟩
 | [y],a,b=>⟨fun ⟨i,h,_⟩=>by simp at h,fun z=>z.elim⟩
 | y :: x :: r,a,b=>by
   have ih:=nD (x :: r) a b
   have e:(y :: x :: r).reverse=r.reverse ++ x :: [y]:=by simp
   have e2:(x :: r).reverse=r.reverse ++ [x]:=by simp
   rw [e,An,← e2,← ih]
   have:Nx [x,y] a b↔(x=a∧y=b):=⟨fun z=>z.elim id (fun y=>y.elim),.inl⟩
   rw [this]
   constructor
   ·rintro ⟨i,h1,h2⟩
    cases i with
    | zero=>exact .inr ⟨by simpa using h1,by simpa using h2⟩
    | succ i=>exact .inl ⟨i,by simpa using h1,by simpa using h2⟩
   ·rintro (⟨i,h1,h2⟩ | ⟨h1,h2⟩)
    ·exact ⟨i+1,by simpa using h1,by simpa using h2⟩
    ·exact ⟨0,by simp [h1],by simp [h2]⟩
theorem yw (a b:Pl):∀ (x:Pl) (r:List Pl) (z:Pl),[a,b]∈List.zipWith (fun p q=>[p,q]) (x :: r) (r ++ [z])↔Nx (x :: r ++ [z]) a b
 | x,[],z=>by
   show [a,b]∈[[x,z]]↔(x=a∧z=b)∨Nx [z] a b
   have:¬ Nx [z] a b:=fun z=>z
   simp [this]
   exact ⟨fun ⟨h1,h2⟩=>⟨h1.symm,h2.symm⟩,fun ⟨h1,h2⟩=>⟨h1.symm,h2.symm⟩⟩
 | x,y :: r,z=>by
   have ih:=yw a b y r z
   show [a,b]∈[x,y] :: List.zipWith (fun p q=>[p,q]) (y :: r) (r ++ [z])↔(x=a∧y=b)∨Nx (y :: r ++ [z]) a b
   rw [List.mem_cons,ih]
   simp
   constructor
   ·rintro (⟨h1,h2⟩ | h)
    ·exact .inl ⟨h1.symm,h2.symm⟩
    ·exact .inr h
   ·rintro (⟨h1,h2⟩ | h)
    ·exact .inl ⟨h1.symm,h2.symm⟩
    ·exact .inr h
theorem u9:∀ (as bs:List Pl),∀ t∈List.zipWith (fun p q=>[p,q]) as bs,∃ a b,t= [a,b]
 | [],_,t,h=>by simp at h
 | _ :: _,[],t,h=>by simp at h
 | a :: as,b :: bs,t,h=>by
   rcases List.mem_cons.mp h with h | h
   ·exact ⟨a,b,h⟩
   ·exact u9 as bs t h
theorem Ch.ends {w:Way} {S st:List Pl} (C:Ch w S st) {lo hi:Pl} (hl:lo∈S) (hh:hi∈S) (h1:∀ q∈S,w.f lo≤w.f q) (h2:∀ q∈S,w.f q≤w.f hi):st.head?=some hi∧st.getLast?=some lo:=by
 obtain ⟨t,e1,e2⟩:=C.top hi hh
 obtain ⟨u,e3,e4⟩:=C.bot lo hl
 have mt:t∈S:=C.rW t (List.mem_of_mem_head? e1)
 have mu:u∈S:=C.rW u (List.mem_of_getLast? e3)
 have a1:=h2 t mt
 have a2:=h1 u mu
 rw [e1,e3,C.inj t mt hi hh (by omega),C.inj u mu lo hl (by omega)]
 exact ⟨rfl,rfl⟩
theorem fT {l:List Pl} {x:Pl} (h:l.getLast?=some x):l=l.dropLast ++ [x]:=by
 have hne:l≠[]:=fun z=>by rw [z] at h;simp at h
 rw [List.getLast?_eq_some_getLast hne] at h
 have:=List.dropLast_concat_getLast hne
 rw [Option.some.inj h] at this
 exact this.symm
theorem Fq {T H:List Pl} {lo hi a b:Pl} (t1:T.head?=some lo) (t2:T.getLast?=some hi) (h1:H.head?=some hi) (h2:H.getLast?=some lo) (hne:lo≠hi) :
 [a,b]∈List.zipWith (fun p q=>[p,q]) (T.dropLast ++ H.dropLast) ((T.dropLast ++ H.dropLast).drop 1 ++ (T.dropLast ++ H.dropLast).take 1)↔Nx T a b∨Nx H a b:=by
 have eT:=fT t2
 have eH:=fT h2
 obtain ⟨X,hX⟩:∃ X,T.dropLast=lo :: X:=by
  cases e:T.dropLast with
  | nil=>
    rw [e] at eT
    rw [eT] at t1
    exact absurd (Option.some.inj t1).symm hne
  | cons x X=>
    rw [e] at eT
    rw [eT] at t1
    exact ⟨X,by rw [Option.some.inj t1]⟩
 obtain ⟨Y,hY⟩:∃ Y,H=hi :: Y:=by
  cases e:H with
  | nil=>rw [e] at h1;cases h1
  | cons x X=>rw [e] at h1;exact ⟨X,by rw [Option.some.inj h1]⟩
 rw [hX]
 show [a,b]∈List.zipWith (fun p q=>[p,q]) (lo :: (X ++ H.dropLast)) ((X ++ H.dropLast) ++ [lo])↔_
 rw [yw]
 have e1:lo :: (X ++ H.dropLast) ++ [lo]=(lo :: X) ++ (H.dropLast ++ [lo]):=by simp
 rw [e1,← eH]
 conv=>lhs;rw [hY,An,← hY]
 rw [← hX,← eT]
def RE (a b:Pl) (ps:List Pl):Prop:= ∀ p∈ps,0≤tw a b p∧(tw a b p=0→¬ (aI (lo a b) p∧aI p (hi a b)))
theorem gX:∀ {qs:List Pl},qs.Pairwise (fun p q=>aI p q)→∀ {x y:Pl},qs.head?=some x→qs.getLast?=some y→∀ q∈qs,(q=x∨aI x q)∧(q=y∨aI q y)
 | [],_,_,_,h,_,_,_=>by cases h
 | [z],_,x,y,h1,h2,q,hq=>by
   have e1:z=x:=by simpa using h1
   have e2:z=y:=by simpa using h2
   rw [List.mem_singleton.mp hq]
   exact ⟨.inl e1,.inl e2⟩
 | z :: u :: r,hs,x,y,h1,h2,q,hq=>by
   have e1:z=x:=by simpa using h1
   have h2':(u :: r).getLast?=some y:=by simpa using h2
   have ih:=gX (List.pairwise_cons.mp hs).2 (x:=u) rfl h2'
   have hz:=(List.pairwise_cons.mp hs).1
   rcases List.mem_cons.mp hq with e | hq
   ·subst e
    refine ⟨.inl e1,.inr ?_⟩
    have hy:y∈u :: r:=List.mem_of_getLast? h2'
    exact hz y hy
   ·exact ⟨.inr (e1▸hz q hq),(ih q hq).2⟩
theorem rY {st:List Pl} {x y:Pl} (h1:st.head?=some x) (h2:st.getLast?=some y) (h:x≠y):2≤st.length:=by
 match st,h1,h2 with
 | [],h1,_=>cases h1
 | [z],h1,h2=>
   have e1:z=x:=by simpa using h1
   have e2:z=y:=by simpa using h2
   exact absurd (e1.symm.trans e2) h
 | _ :: _ :: _,_,_=>simp
theorem C6 {qs:List Pl} (hs:qs.Pairwise (fun p q=>aI p q)) (hok:∀ q∈qs,q.y.natAbs < 2 ^ 140) (h2:2≤qs.length) :
 2≤((qs.foldl aN []).reverse.dropLast ++ (qs.reverse.foldl aN []).reverse.dropLast).length∧∀ a b:Pl,[a,b]∈List.zipWith (fun p q=>[p,q]) ((qs.foldl aN []).reverse.dropLast ++ (qs.reverse.foldl aN []).reverse.dropLast) (((qs.foldl aN []).reverse.dropLast ++ (qs.reverse.foldl aN []).reverse.dropLast).drop 1 ++ ((qs.foldl aN []).reverse.dropLast ++ (qs.reverse.foldl aN []).reverse.dropLast).take 1)↔a∈qs∧b∈qs∧a≠b∧RE a b qs:=by
 have hne:qs≠[]:=fun z=>by rw [z] at h2;simp at h2
 obtain ⟨x,hx⟩:∃ x,qs.head?=some x:=by
  cases e:qs with
  | nil=>exact absurd e hne
  | cons x r=>exact ⟨x,rfl⟩
 obtain ⟨y,hy⟩:∃ y,qs.getLast?=some y:=⟨_,List.getLast?_eq_some_getLast hne⟩
 have mx:x∈qs:=List.mem_of_mem_head? hx
 have my:y∈qs:=List.mem_of_getLast? hy
 have hend:=gX hs hx hy
 have be:∀ p∈qs,∀ q∈qs,(aI p q↔aq.f p < aq.f q):=fun p hp q hq=>ny (hok p hp) (hok q hq)
 have bw:∀ p∈qs,∀ q∈qs,(aI p q↔qj.f q < qj.f p):=fun p hp q hq=>by
  rw [be p hp q hq,gc,gc]
  omega
 have xy:x≠y:=by
  intro e
  cases e1:qs with
  | nil=>exact absurd e1 hne
  | cons u r=>
    cases r with
    | nil=>rw [e1] at h2;simp at h2
    | cons v r=>
      rw [e1] at hx hy hs
      have eu:u=x:=by simpa using hx
      have RG:y∈v :: r:=List.mem_of_getLast? (by simpa using hy)
      have:=(List.pairwise_cons.mp hs).1 y RG
      rw [eu,e] at this
      exact bI _ this
 have C1:Ch aq qs (qs.foldl aN []):=nv hne (hs.imp_of_mem fun hp hq h=>(be _ hp _ hq).mp h)
 have C2:Ch qj qs.reverse (qs.reverse.foldl aN []):=nv (by simpa using hne) (List.pairwise_reverse.mpr (hs.imp_of_mem fun hp hq h=>(bw _ hp _ hq).mp h))
 have key:∀ p∈qs,∀ q∈qs,(p=q∨aI p q)→aq.f p≤aq.f q∧qj.f q≤qj.f p:=fun p hp q hq k=>by
  rcases k with rfl | k
  ·exact ⟨Int.le_refl _,Int.le_refl _⟩
  ·have a1:=(be p hp q hq).mp k
   have a2:=(bw p hp q hq).mp k
   omega
 obtain ⟨p1,p2⟩:=C1.ends mx my (fun q hq=>(key x mx q hq ((hend q hq).1.imp Eq.symm id)).1) (fun q hq=>(key q hq y my (hend q hq).2).1)
 obtain ⟨r1,r2⟩:=C2.ends (lo:=y) (hi:=x) (by simpa using my) (by simpa using mx) (fun q hq=>by have hq:=List.mem_reverse.mp hq;exact (key q hq y my (hend q hq).2).2) (fun q hq=>by have hq:=List.mem_reverse.mp hq;exact (key x mx q hq ((hend q hq).1.imp Eq.symm id)).2)
 refine ⟨?_,fun a b=>?_⟩
 ·have l1:=rY p1 p2 (Ne.symm xy)
  have l2:=rY r1 r2 xy
  rw [List.length_append,List.length_dropLast,List.length_dropLast,List.length_reverse,List.length_reverse]
  omega
 rw [Fq (lo:=x) (hi:=y) (by rw [List.head?_reverse];exact p2) (by rw [List.getLast?_reverse];exact p1) (by rw [List.head?_reverse];exact r2) (by rw [List.getLast?_reverse];exact r1) xy,← nD,← nD,jf C1,jf C2]
 constructor
 ·rintro (⟨ha,hb,hab,he⟩ | ⟨ha,hb,hab,he⟩)
  ·have Ao:=(be a ha b hb).mpr hab
   refine ⟨ha,hb,rE Ao,fun p hp=>⟨(he p hp).1,fun z=>?_⟩⟩
   unfold lo hi
   rw [if_neg (aE Ao),if_pos Ao,be a ha p hp,be p hp b hb]
   exact (he p hp).2 z
  ·have ha:=List.mem_reverse.mp ha
   have hb:=List.mem_reverse.mp hb
   have Ao:=(bw b hb a ha).mpr hab
   refine ⟨ha,hb,(rE Ao).symm,fun p hp=>?_⟩
   have OF:=he p (List.mem_reverse.mpr hp)
   refine ⟨OF.1,fun z=>?_⟩
   unfold lo hi
   rw [if_pos Ao,if_neg (aE Ao),bw b hb p hp,bw p hp a ha]
   exact fun k=>OF.2 z ⟨k.2,k.1⟩
 ·rintro ⟨ha,hb,hab,he⟩
  rcases eO a b with k | k | k
  ·refine .inl ⟨ha,hb,(be a ha b hb).mp k,fun p hp=>⟨(he p hp).1,fun z=>?_⟩⟩
   have:=(he p hp).2 z
   unfold lo hi at this
   rw [if_neg (aE k),if_pos k,be a ha p hp,be p hp b hb] at this
   exact this
  ·exact absurd k hab
  ·refine .inr ⟨List.mem_reverse.mpr ha,List.mem_reverse.mpr hb,(bw b hb a ha).mp k,fun p hp=>?_⟩
   have hp:=List.mem_reverse.mp hp
   refine ⟨(he p hp).1,fun z=>?_⟩
   have:=(he p hp).2 z
   unfold lo hi at this
   rw [if_pos k,if_neg (aE k),bw b hb p hp,bw p hp a ha] at this
   exact fun y=>this ⟨y.2,y.1⟩
end L3
namespace L3
theorem v8:∀ (l:List Pl),l≠[]→∃ m∈l,∀ z∈l,¬ aI z m
 | [],e=>absurd rfl e
 | [p],_=>⟨p,by simp,fun z hz=>by rw [List.mem_singleton.mp hz];exact bI _⟩
 | p :: q :: l,_=>by
   obtain ⟨m,hm,k⟩:=v8 (q :: l) (by simp)
   by_cases c:aI p m
   ·exact ⟨p,by simp,fun z hz=>by
     rcases List.mem_cons.mp hz with rfl | hz
     ·exact bI _
     ·exact fun y=>k z hz (bP y c)⟩
   ·exact ⟨m,List.mem_cons_of_mem _ hm,fun z hz=>by
     rcases List.mem_cons.mp hz with rfl | hz
     ·exact c
     ·exact k z hz⟩
theorem BN:∀ (l:List Pl),l≠[]→∃ m∈l,∀ z∈l,¬ aI m z
 | [],e=>absurd rfl e
 | [p],_=>⟨p,by simp,fun z hz=>by rw [List.mem_singleton.mp hz];exact bI _⟩
 | p :: q :: l,_=>by
   obtain ⟨m,hm,k⟩:=BN (q :: l) (by simp)
   by_cases c:aI m p
   ·exact ⟨p,by simp,fun z hz=>by
     rcases List.mem_cons.mp hz with rfl | hz
     ·exact bI _
     ·exact fun y=>k z hz (bP c y)⟩
   ·exact ⟨m,List.mem_cons_of_mem _ hm,fun z hz=>by
     rcases List.mem_cons.mp hz with rfl | hz
     ·exact c
     ·exact k z hz⟩
theorem l8 {ps:List Pl} (h:ps.length < 2):Flat ps:=by
 match ps,h with
 | [],_=>exact fun p hp=>by cases hp
 | [x],_=>
   intro p hp q hq r hr
   rw [List.mem_singleton.mp hp,List.mem_singleton.mp hq,List.mem_singleton.mp hr]
   exact gp x x
theorem C7 {qs:List Pl} (hs:qs.Pairwise (fun a b=> ¬ aI b a)) (nd:qs.Nodup):qs.Pairwise (fun p q=>aI p q):=by
 refine (hs.and nd).imp fun {a b} h=>?_
 rcases eO a b with k | k | k
 ·exact k
 ·exact absurd k h.2
 ·exact absurd k h.1
end L3
namespace L3
open PySem L2
def Tr (t:List Pl):Prop:= ∃ a b c:Pl,t= [a,b,c]∧a.Ok 140∧b.Ok 140∧c.Ok 140
def OG:List Pl→Prop
 | [a,b,c]=>(¬ aI b a∧¬ aI c a)∧0 < tw a b c
 | _=>False
def dj:List Pl→List (List Pl)
 | [a,b,c]=>[[a,b],[b,c],[c,a]]
 | _=>[]
def bf (ts:List (List Pl)):List (List Pl):=ts.flatMap dj
def Fs {α:Type} (ts:List α) (P:α→Prop):Option α→Prop
 | none=> ∀ t∈ts,¬ P t
 | some t=> ∃ i:Nat,ts[i]?=some t∧P t∧∀ (j:Nat) (u:α),j < i→ts[j]?=some u→¬ P u
def oT:Option (List Pl)→D
 | none=> .aX
 | some t=>tD t
def OH (W:List Pl→Prop):Option (List Pl)→Prop
 | none=> ∀ w,¬ W w
 | some m=>W m∧∀ z,W z→c7 z m=false
def OI (W:Pl→Prop):Option Pl→Prop
 | none=> ∀ w,¬ W w
 | some m=>W m∧∀ z,W z→¬ aI z m
theorem C8 {ts:List (List Pl)} {i:Nat} {t:List Pl} (h:ts[i]?=some t):bf (ts.take (i+1))=bf (ts.take i) ++ dj t:=by
 unfold bf
 rw [List.take_succ,h,List.flatMap_append]
 simp
theorem Ft (t:List Pl):(dj t).length≤3:=by
 unfold dj
 split <;> simp
theorem nE:∀ (ts:List (List Pl)),(bf ts).length≤3*ts.length
 | []=>by simp [bf]
 | t :: ts=>by
   have h1:=nE ts
   have h2:=Ft t
   show (dj t ++ bf ts).length≤_
   rw [List.length_append,List.length_cons]
   omega
theorem Fv (t:List Pl):∀ w∈dj t,∃ a b,w= [a,b]∧a∈t∧b∈t:=by
 intro w hw
 unfold dj at hw
 split at hw
 ·rename_i a b c
  simp only [List.mem_cons,List.not_mem_nil,or_false] at hw
  rcases hw with rfl | rfl | rfl
  ·exact ⟨a,b,rfl,by simp,by simp⟩
  ·exact ⟨b,c,rfl,by simp,by simp⟩
  ·exact ⟨c,a,rfl,by simp,by simp⟩
 ·cases hw
theorem rZ {ts:List (List Pl)}:∀ w∈bf ts,∃ a b,w= [a,b]∧∃ t∈ts,a∈t∧b∈t:=by
 intro w hw
 obtain ⟨t,ht,hw⟩:=List.mem_flatMap.mp hw
 obtain ⟨a,b,e,h1,h2⟩:=Fv t w hw
 exact ⟨a,b,e,t,ht,h1,h2⟩
theorem Fw (s t:List Pl):cZ (tD s) (tD t)=decide (s=t):=by
 unfold tD
 rw [jd]
 induction s generalizing t with
 | nil=>
   cases t with
   | nil=>rfl
   | cons q t=>simp [gj]
 | cons p s ih=>
   cases t with
   | nil=>simp [gj]
   | cons q t=>
     rw [List.map_cons,List.map_cons,iO,jX,ih,Bool.eq_iff_iff]
     simp
theorem BO (t:List Pl) (ts:List (List Pl)):inD (tD t) (ts.map tD)=decide (t∈ts):=by
 rw [Bool.eq_iff_iff,decide_eq_true_iff]
 unfold inD
 rw [List.any_eq_true]
 constructor
 ·rintro ⟨d,hd,e⟩
  obtain ⟨u,hu,rfl⟩:=List.mem_map.mp hd
  rw [Fw,decide_eq_true_iff] at e
  rw [← e]
  exact hu
 ·intro h
  exact ⟨tD t,List.mem_map.mpr ⟨t,h,rfl⟩,by rw [Fw];simp⟩
def UP (ws:List (List Pl)) (w:List Pl):Prop:=w∈ws∧1 < ws.count w
def RH (ws bs:List (List Pl)) (w:List Pl):Prop:=(w∈ws∧w.reverse∉ws∧w∉bs)∨(w∈bs∧w∉ws)
def UQ (ps:List Pl) (ts:List (List Pl)) (p:Pl):Prop:=p∈ps∧∀ t∈ts,p∉t
def Aq (t:List Pl) (d:Pl):Prop:=match t with
 | [a,b,c]=>gS a b c d
 | _=>False
def UR (ts:List (List Pl)) (ps:List Pl):Option (List Pl ×Pl)→Prop
 | none=> ∀ t∈ts,∀ d∈ps,¬ Aq t d
 | some (t,d)=>Fs ts (fun t=> ∃ d∈ps,Aq t d) (some t)∧OI (fun d=>d∈ps∧Aq t d) (some d)
def oS:Option (List Pl ×Pl)→D
 | none=> .aX
 | some (t,d)=> .tup [.str (Str.ofString "spoilt"),tD t,d.d]
inductive Flt where
 | JR (t:List Pl) | flat (t:List Pl) | Fx (w:List Pl) | bare (w:List Pl) | Fy (p:Pl) | FA (t:List Pl) (d:Pl)
def fD:Option Flt→D
 | none=> .aX
 | some (.JR t)=> .tup [.str (Str.ofString "alien"),tD t]
 | some (.flat t)=> .tup [.str (Str.ofString "flat"),tD t]
 | some (.Fx w)=> .tup [.str (Str.ofString "double"),tD w]
 | some (.bare w)=> .tup [.str (Str.ofString "bare"),tD w]
 | some (.Fy p)=> .tup [.str (Str.ofString "lonely"),p.d]
 | some (.FA t d)=> .tup [.str (Str.ofString "spoilt"),tD t,d.d]
def RI (ps:List Pl) (ts bs:List (List Pl)) (r:Option Flt):Prop:=
 ∃ (d b:Option (List Pl)) (l:Option Pl),OH (UP (bf ts)) d∧(d=none→OH (RH (bf ts) bs) b)∧(d=none→b=none→OI (UQ ps ts) l)∧
   r=match d,b,l with
    | some w,_,_=>some (.Fx w)
    | none,some w,_=>some (.bare w)
    | none,none,some p=>some (.Fy p)
    | none,none,none=>none
def Iu (ps:List Pl) (ts bs:List (List Pl)) (r:Option Flt):Prop:=
 ∃ (al fl:Option (List Pl)),Fs ts (fun t=> ∃ q∈t,q∉ps) al∧(al=none→Fs ts (fun t=> ¬ OG t) fl)∧
   match al,fl with
   | some t,_=>r=some (.JR t)
   | none,some t=>r=some (.flat t)
   | none,none=>(Flat ps→r=none)∧(¬ Flat ps→∃ (cf:Option Flt) (sp:Option (List Pl ×Pl)),RI ps ts bs cf∧(cf=none→UR ts ps sp)∧r=match cf,sp with
     | some f,_=>some f
     | none,some (t,d)=>some (.FA t d)
     | none,none=>none)
def nF (ps t:List Pl):Prop:=gv t∧∀ q∈t,q∈ps
theorem nF.tr {ps t:List Pl} (h:nF ps t) (ho:∀ q∈ps,q.Ok 140):Tr t:=by
 obtain ⟨⟨u,v,w,rfl,_⟩,h2⟩:=h
 exact ⟨u,v,w,rfl,ho u (h2 u (by simp)),ho v (h2 v (by simp)),ho w (h2 w (by simp))⟩
end L3
namespace L3
def prs:List Pl→List (List Pl)
 | x :: y :: r=>[x,y] :: prs (y :: r)
 | _=>[]
theorem BP (h:Pl) (r:List Pl):∀ X:List Pl,prs (X ++ h :: r)=prs (X ++ [h]) ++ prs (h :: r)
 | []=>rfl
 | [x]=>rfl
 | x :: y :: X=>by
   have ih:=BP h r (y :: X)
   show [x,y] :: prs (y :: X ++ h :: r)= [x,y] :: prs (y :: X ++ [h]) ++ prs (h :: r)
   rw [ih]
   rfl
theorem BQ:∀ (x:Pl) (r:List Pl) (z:Pl),List.zipWith (fun p q=>[p,q]) (x :: r) (r ++ [z])=prs (x :: r ++ [z])
 | x,[],z=>rfl
 | x,y :: r,z=>by
   show [x,y] :: List.zipWith (fun p q=>[p,q]) (y :: r) (r ++ [z])= [x,y] :: prs (y :: r ++ [z])
   rw [BQ y r z]
theorem v9:∀ (l:List Pl) (w:List Pl),w∈prs l→∃ a b,w= [a,b]∧Nx l a b
 | [],_,h=>by cases h
 | [_],_,h=>by cases h
 | x :: y :: r,w,h=>by
   rcases List.mem_cons.mp h with h | h
   ·exact ⟨x,y,h,.inl ⟨rfl,rfl⟩⟩
   ·obtain ⟨a,b,e,k⟩:=v9 (y :: r) w h
    exact ⟨a,b,e,.inr k⟩
theorem FD:∀ (l:List Pl) (a b:Pl),Nx l a b→[a,b]∈prs l
 | [],_,_,h=>h.elim
 | [_],_,_,h=>h.elim
 | x :: y :: r,a,b,h=>by
   rcases h with ⟨rfl,rfl⟩ | h
   ·exact List.mem_cons_self ..
   ·exact List.mem_cons_of_mem _ (FD (y :: r) a b h)
theorem C9 {T H:List Pl} {lo hi:Pl} (t1:T.head?=some lo) (t2:T.getLast?=some hi) (h1:H.head?=some hi) (h2:H.getLast?=some lo) (hne:lo≠hi) :
 List.zipWith (fun p q=>[p,q]) (T.dropLast ++ H.dropLast) ((T.dropLast ++ H.dropLast).drop 1 ++ (T.dropLast ++ H.dropLast).take 1)=prs T ++ prs H:=by
 have eT:=fT t2
 have eH:=fT h2
 obtain ⟨X,hX⟩:∃ X,T.dropLast=lo :: X:=by
  cases e:T.dropLast with
  | nil=>
    rw [e] at eT
    rw [eT] at t1
    exact absurd (Option.some.inj t1).symm hne
  | cons x X=>
    rw [e] at eT
    rw [eT] at t1
    exact ⟨X,by rw [Option.some.inj t1]⟩
 obtain ⟨Y,hY⟩:∃ Y,H=hi :: Y:=by
  cases e:H with
  | nil=>rw [e] at h1;cases h1
  | cons x X=>rw [e] at h1;exact ⟨X,by rw [Option.some.inj h1]⟩
 rw [hX]
 show List.zipWith (fun p q=>[p,q]) (lo :: (X ++ H.dropLast)) ((X ++ H.dropLast) ++ [lo])=_
 rw [BQ]
 have e1:lo :: (X ++ H.dropLast) ++ [lo]=(lo :: X) ++ (H.dropLast ++ [lo]):=by simp
 rw [e1,← eH]
 conv=>lhs;rw [hY,BP,← hY]
 rw [← hX,← eT]
theorem JS {z:Pl}:∀ {l:List Pl},l.getLast?=some z→2≤l.length→∃ e,Nx l e z
 | [],_,h=>by simp at h
 | [_],_,h=>by simp at h
 | [x,y],e,_=>⟨x,.inl ⟨rfl,by simpa using e⟩⟩
 | x :: y :: u :: r,e,_=>by
   obtain ⟨e',k⟩:=JS (l:=y :: u :: r) (by simpa using e) (by simp)
   exact ⟨e',.inr k⟩
theorem se {w:Way} {S:List Pl}:∀ {st:List Pl},lJ w S st→st.Pairwise (fun b a=>w.f a < w.f b)
 | [],_=> .nil
 | [_],_=>by simp
 | y :: x :: r,e=>by
   obtain ⟨e1,_,e3⟩:=e
   have ih:=se e3
   refine List.pairwise_cons.mpr ⟨fun z hz=>?_,ih⟩
   rcases List.mem_cons.mp hz with rfl | hz
   ·exact e1
   ·have:=(List.pairwise_cons.mp ih).1 z hz
    omega
theorem Ch.nodup {w:Way} {S st:List Pl} (C:Ch w S st):st.Nodup:=(se C.Ir).imp fun h e=>by rw [e] at h;omega
theorem oW {l m:List Pl} (nd:l.Nodup) (sub:∀ x∈l,x∈m):l.length≤m.length:=by
 induction l generalizing m with
 | nil=>simp
 | cons a l ih=>
   obtain ⟨h1,h2⟩:=List.nodup_cons.mp nd
   have ma:=sub a (List.mem_cons_self ..)
   have:=ih (m:=m.erase a) h2 fun x hx=>(List.mem_erase_of_ne (show x≠a from fun e=>h1 (e▸hx))).mpr (sub x (List.mem_cons_of_mem _ hx))
   rw [List.length_erase_of_mem ma] at this
   have:0 < m.length:=List.length_pos_of_mem ma
   rw [List.length_cons]
   omega
theorem Ar {w:Way} {x b e p:Pl} (h1:w.f x < w.f b) (h2:w.f x < w.f e) (h3:w.f x < w.f p) (h:0≤tw x b e) (s1:tw x b p < 0) (s2:tw e x p < 0):False:=by
 have key:=gB w.al w.be (b.x - x.x) (b.y - x.y) (e.x - x.x) (e.y - x.y) (p.x - x.x) (p.y - x.y)
 have s2':0 < (e.x - x.x)*(p.y - x.y) - (e.y - x.y)*(p.x - x.x):=by
  unfold tw at s2
  grind
 unfold Way.f at h1 h2 h3
 unfold tw at h s1
 have k1:0 < w.al*(b.x - x.x)+w.be*(b.y - x.y):=by grind
 have k2:0 < w.al*(e.x - x.x)+w.be*(e.y - x.y):=by grind
 have k3:0 < w.al*(p.x - x.x)+w.be*(p.y - x.y):=by grind
 have r1:=Int.mul_pos k1 s2'
 have r2:0≤(w.al*(p.x - x.x)+w.be*(p.y - x.y))*((b.x - x.x)*(e.y - x.y) - (b.y - x.y)*(e.x - x.x)):=Int.mul_nonneg (by omega) h
 have r3:(w.al*(e.x - x.x)+w.be*(e.y - x.y))*((b.x - x.x)*(p.y - x.y) - (b.y - x.y)*(p.x - x.x)) < 0:=Int.mul_neg_of_pos_of_neg k2 s1
 omega
def zI (p:Pl):List Pl→Bool
 | [a,b]=>decide (tw a b p < 0)
 | _=>false
end L3
namespace L3
def l9 (bd:List Pl) (k:Nat):Option Pl:=if k=0 then bd.getLast? else bd[k - 1]?
theorem wc {bd:List Pl} {k:Nat} {a b:Pl} (hb:bd[k]?=some b) (ha:l9 bd k=some a): [a,b]∈List.zipWith (fun p q=>[p,q]) bd (bd.drop 1 ++ bd.take 1):=by
 have lk:k < bd.length:=(List.getElem?_eq_some_iff.mp hb).1
 unfold l9 at ha
 rw [List.mem_iff_getElem?]
 by_cases c:k=0
 ·subst c
  rw [if_pos rfl,List.getLast?_eq_getElem?] at ha
  refine ⟨bd.length - 1,?_⟩
  have e2:(bd.drop 1 ++ bd.take 1)[bd.length - 1]?=some b:=by
   rw [List.getElem?_append_right (by rw [List.length_drop];omega),List.length_drop,Nat.sub_self,List.getElem?_take_of_lt (by omega)]
   exact hb
  rw [List.getElem?_zipWith,ha,e2]
 ·rw [if_neg c] at ha
  refine ⟨k - 1,?_⟩
  have e2:(bd.drop 1 ++ bd.take 1)[k - 1]?=some b:=by
   rw [List.getElem?_append_left (by rw [List.length_drop];omega),List.getElem?_drop,show 1+(k - 1)=k by omega]
   exact hb
  rw [List.getElem?_zipWith,ha,e2]
theorem yx:∀ {as bs:List Pl},as.Perm bs→as.Pairwise (fun a b=> ¬ aI b a)→bs.Pairwise (fun a b=> ¬ aI b a)→as=bs
 | [],bs,h,_,_=>by rw [List.nil_perm.mp h]
 | a :: as,[],h,_,_=>by simp at h
 | a :: as,b :: bs,h,h1,h2=>by
   obtain ⟨p1,p2⟩:=List.pairwise_cons.mp h1
   obtain ⟨q1,q2⟩:=List.pairwise_cons.mp h2
   have e:a=b:=by
    rcases eO a b with k | k | k
    ·rcases List.mem_cons.mp (h.mem_iff.mp (List.mem_cons_self (a:=a) (l:=as))) with z | z
     ·exact z
     ·exact absurd k (q1 a z)
    ·exact k
    ·rcases List.mem_cons.mp (h.mem_iff.mpr (List.mem_cons_self (a:=b) (l:=bs))) with z | z
     ·exact z.symm
     ·exact absurd k (p1 b z)
   subst e
   rw [yx (List.Perm.cons_inv h) p2 q2]
end L3
namespace L3
def cY (Q:List Pl):Prop:=Q.Pairwise (fun p q=>aI p q)∧∀ q∈Q,q.y.natAbs < 2 ^ 140
def aT (Q:List Pl) (a b:Pl):Prop:=a∈Q∧b∈Q∧a≠b∧RE a b Q
def SL (Q:List Pl):List (List Pl):=cD (bJ Q)
theorem j6 {Q:List Pl} (h:Q.length < 2):SL Q= []:=by
 unfold SL bJ
 rw [if_pos h]
 unfold cD
 rw [if_pos h]
theorem vc {Q:List Pl} (s:cY Q) (h:2≤Q.length):2≤(bJ Q).length∧SL Q=List.zipWith (fun p q=>[p,q]) (bJ Q) ((bJ Q).drop 1 ++ (bJ Q).take 1)∧∀ a b,[a,b]∈SL Q↔aT Q a b:=by
 obtain ⟨lb,char⟩:=C6 s.1 s.2 h
 have eo:bJ Q=(Q.foldl aN []).reverse.dropLast ++ (Q.reverse.foldl aN []).reverse.dropLast:=by unfold bJ;rw [if_neg (by omega)]
 rw [← eo] at lb char
 have e:SL Q=List.zipWith (fun p q=>[p,q]) (bJ Q) ((bJ Q).drop 1 ++ (bJ Q).take 1):=by
  unfold SL cD
  rw [if_neg (by omega)]
 exact ⟨lb,e,fun a b=>by rw [e];exact char a b⟩
theorem nG {Q:List Pl} {a b:Pl} (h:aT Q a b):2≤Q.length:=oW (l:=[a,b]) (by simp [h.2.2.1]) (fun x hx=>by
 simp only [List.mem_cons,List.not_mem_nil,or_false] at hx
 rcases hx with rfl | rfl
 ·exact h.1
 ·exact h.2.1)
theorem cG {Q:List Pl} (s:cY Q) {a b:Pl}: [a,b]∈SL Q↔aT Q a b:=by
 by_cases h:2≤Q.length
 ·exact (vc s h).2.2 a b
 ·rw [j6 (by omega)]
  exact ⟨(fun z=>by cases z),fun z=>absurd (nG z) h⟩
theorem mh {Q w:List Pl} (h:w∈SL Q):∃ a b,w= [a,b]:=by
 unfold SL cD at h
 split at h
 ·cases h
 ·exact u9 _ _ _ h
theorem Iv {Q:List Pl} (s:cY Q) {a b:Pl} (h:aT Q a b):∃ c,aT Q c a:=by
 obtain ⟨lb,e,char⟩:=vc s (nG h)
 have m:=(char a b).mpr h
 rw [e] at m
 obtain ⟨i,hi⟩:=List.mem_iff_getElem?.mp m
 rw [List.getElem?_zipWith] at hi
 have ha:(bJ Q)[i]?=some a:=by
  cases e1:(bJ Q)[i]? with
  | none=>rw [e1] at hi;simp at hi
  | some u=>
    rw [e1] at hi
    cases e2:((bJ Q).drop 1 ++ (bJ Q).take 1)[i]? with
    | none=>rw [e2] at hi;simp at hi
    | some v=>rw [e2] at hi;simp at hi;rw [hi.1]
 have li:=(List.getElem?_eq_some_iff.mp ha).1
 obtain ⟨c,hc⟩:∃ c,l9 (bJ Q) i=some c:=by
  unfold l9
  split
  ·exact ⟨_,List.getLast?_eq_some_getLast (fun z=>by rw [z] at lb;simp at lb)⟩
  ·exact ⟨_,List.getElem?_eq_getElem (by omega)⟩
 have:=wc ha hc
 rw [← e] at this
 exact ⟨c,(char c a).mp this⟩
theorem sf {Q:List Pl} (s:cY Q) {a b:Pl} (h:aT Q a b):∃ c,aT Q b c:=by
 obtain ⟨lb,e,char⟩:=vc s (nG h)
 have m:=(char a b).mpr h
 rw [e] at m
 have hb:b∈bJ Q:=by
  obtain ⟨i,hi⟩:=List.mem_iff_getElem?.mp m
  rw [List.getElem?_zipWith] at hi
  cases e1:(bJ Q)[i]? with
  | none=>rw [e1] at hi;simp at hi
  | some u=>
    rw [e1] at hi
    cases e2:((bJ Q).drop 1 ++ (bJ Q).take 1)[i]? with
    | none=>rw [e2] at hi;simp at hi
    | some v=>
      rw [e2] at hi
      simp at hi
      have mv:=List.mem_of_getElem? e2
      rw [hi.2] at mv
      rcases List.mem_append.mp mv with z | z
      ·exact List.mem_of_mem_drop z
      ·exact List.mem_of_mem_take z
 obtain ⟨j,hj⟩:=List.mem_iff_getElem?.mp hb
 have lj:=(List.getElem?_eq_some_iff.mp hj).1
 by_cases c:j+1 < (bJ Q).length
 ·have:=wc (k:=j+1) (List.getElem?_eq_getElem c) (show l9 (bJ Q) (j+1)=some b by unfold l9;rw [if_neg (by omega)];exact hj)
  rw [← e] at this
  exact ⟨_,(char _ _).mp this⟩
 ·have:=wc (bd:=bJ Q) (k:=0) (a:=b) (List.getElem?_eq_getElem (by omega)) (by unfold l9;rw [if_pos rfl,List.getLast?_eq_getElem?,show (bJ Q).length - 1=j by omega];exact hj)
  rw [← e] at this
  exact ⟨_,(char _ _).mp this⟩
theorem oX:∀ {l:List Pl},l.Nodup→(prs l).Nodup
 | [],_=> .nil
 | [_],_=> .nil
 | x :: y :: r,h=>by
   obtain ⟨h1,h2⟩:=List.nodup_cons.mp h
   refine List.nodup_cons.mpr ⟨fun z=>?_,oX h2⟩
   obtain ⟨a,b,e,k⟩:=v9 _ _ z
   have:x=a:=by injection e
   rw [this] at h1
   have key:∀ (l:List Pl) (a b:Pl),Nx l a b→a∈l:=fun l=>by
    induction l with
    | nil=>intro a b k;exact k.elim
    | cons u l ih=>
      intro a b k
      cases l with
      | nil=>exact k.elim
      | cons v l=>
        rcases k with ⟨rfl,_⟩ | k
        ·simp
        ·exact List.mem_cons_of_mem _ (ih a b k)
   exact h1 (key _ _ _ k)
theorem oY {Q:List Pl} (s:cY Q) (h2:2≤Q.length):(SL Q).Nodup∧∀ y,Q.getLast?=some y→∃ e,aT Q e y:=by
 obtain ⟨hs,hok⟩:=s
 have hne:Q≠[]:=fun z=>by rw [z] at h2;simp at h2
 obtain ⟨x,hx⟩:∃ x,Q.head?=some x:=by
  cases e:Q with
  | nil=>exact absurd e hne
  | cons x r=>exact ⟨x,rfl⟩
 obtain ⟨y,hy⟩:∃ y,Q.getLast?=some y:=⟨_,List.getLast?_eq_some_getLast hne⟩
 have mx:x∈Q:=List.mem_of_mem_head? hx
 have my:y∈Q:=List.mem_of_getLast? hy
 have hend:=gX hs hx hy
 have be:∀ p∈Q,∀ q∈Q,(aI p q↔aq.f p < aq.f q):=fun p hp q hq=>ny (hok p hp) (hok q hq)
 have bw:∀ p∈Q,∀ q∈Q,(aI p q↔qj.f q < qj.f p):=fun p hp q hq=>by
  rw [be p hp q hq,gc,gc]
  omega
 have xy:x≠y:=by
  intro e
  cases e1:Q with
  | nil=>exact absurd e1 hne
  | cons u r=>
    cases r with
    | nil=>rw [e1] at h2;simp at h2
    | cons v r=>
      rw [e1] at hx hy hs
      have eu:u=x:=by simpa using hx
      have RG:y∈v :: r:=List.mem_of_getLast? (by simpa using hy)
      have:=(List.pairwise_cons.mp hs).1 y RG
      rw [eu,e] at this
      exact bI _ this
 have C1:Ch aq Q (Q.foldl aN []):=nv hne (hs.imp_of_mem fun hp hq h=>(be _ hp _ hq).mp h)
 have C2:Ch qj Q.reverse (Q.reverse.foldl aN []):=nv (by simpa using hne) (List.pairwise_reverse.mpr (hs.imp_of_mem fun hp hq h=>(bw _ hp _ hq).mp h))
 have key:∀ p∈Q,∀ q∈Q,(p=q∨aI p q)→aq.f p≤aq.f q∧qj.f q≤qj.f p:=fun p hp q hq k=>by
  rcases k with rfl | k
  ·exact ⟨Int.le_refl _,Int.le_refl _⟩
  ·have a1:=(be p hp q hq).mp k
   have a2:=(bw p hp q hq).mp k
   omega
 obtain ⟨p1,p2⟩:=C1.ends mx my (fun q hq=>(key x mx q hq ((hend q hq).1.imp Eq.symm id)).1) (fun q hq=>(key q hq y my (hend q hq).2).1)
 obtain ⟨r1,r2⟩:=C2.ends (lo:=y) (hi:=x) (by simpa using my) (by simpa using mx) (fun q hq=>by have hq:=List.mem_reverse.mp hq;exact (key q hq y my (hend q hq).2).2) (fun q hq=>by have hq:=List.mem_reverse.mp hq;exact (key x mx q hq ((hend q hq).1.imp Eq.symm id)).2)
 have e0:=C9 (lo:=x) (hi:=y) (T:=(Q.foldl aN []).reverse) (H:=(Q.reverse.foldl aN []).reverse) (by rw [List.head?_reverse];exact p2) (by rw [List.getLast?_reverse];exact p1) (by rw [List.head?_reverse];exact r2) (by rw [List.getLast?_reverse];exact r1) xy
 obtain ⟨lb,e,char⟩:=vc ⟨hs,hok⟩ h2
 have eo:bJ Q=(Q.foldl aN []).reverse.dropLast ++ (Q.reverse.foldl aN []).reverse.dropLast:=by unfold bJ;rw [if_neg (by omega)]
 have es:SL Q=prs (Q.foldl aN []).reverse ++ prs (Q.reverse.foldl aN []).reverse:=by
  rw [e,eo]
  exact e0
 have US:∀ a b,Nx (Q.foldl aN []).reverse a b→aq.f a < aq.f b:=fun a b k=>((jf C1).mp ((nD _ a b).mpr k)).2.2.1
 have UT:∀ a b,Nx (Q.reverse.foldl aN []).reverse a b→aq.f b < aq.f a:=fun a b k=>by
  have h3:=((jf C2).mp ((nD _ a b).mpr k)).2.2.1
  rw [gc,gc] at h3
  omega
 have n1:=C1.nodup
 have n2:=C2.nodup
 constructor
 ·rw [es]
  refine List.nodup_append.mpr ⟨oX ((List.reverse_perm _).nodup_iff.mpr n1),oX ((List.reverse_perm _).nodup_iff.mpr n2),fun v hv u hu z=>?_⟩
  subst z
  obtain ⟨a,b,rfl,k1⟩:=v9 _ _ hv
  obtain ⟨c,d,e2,k2⟩:=v9 _ _ hu
  injection e2 with e3 e2
  injection e2 with e4 _
  rw [← e3,← e4] at k2
  have:=US a b k1
  have:=UT a b k2
  omega
 ·intro y' hy'
  rw [hy] at hy'
  cases hy'
  obtain ⟨e1,k⟩:=JS (l:=(Q.foldl aN []).reverse) (z:=y) (by rw [List.getLast?_reverse];exact p1) (by rw [List.length_reverse];exact rY p1 p2 (Ne.symm xy))
  exact ⟨e1,(char e1 y).mp (by rw [es];exact List.mem_append_left _ (FD _ _ _ k))⟩
theorem j7 {Q:List Pl} (s:cY Q):(SL Q).Nodup:=by
 by_cases h:2≤Q.length
 ·exact (oY s h).1
 ·rw [j6 (by omega)]
  exact .nil
theorem sj (w:Way) (u v p o:Pl):(w.f v - w.f o)*tw o u p=(w.f u - w.f o)*tw o v p+(w.f p - w.f o)*tw o u v:=by
 unfold Way.f tw
 grind
theorem jH (a b c:Pl):tw b c a=tw a b c:=by unfold tw;grind
theorem sr (a b c:Pl):tw c a b=tw a b c:=by unfold tw;grind
theorem cM (a b c:Pl):tw b a c= - tw a b c:=by unfold tw;grind
theorem vd (a b c:Pl):tw a c b= - tw a b c:=by unfold tw;grind
section
variable {Q:List Pl} {p:Pl}
def Ly (Q:List Pl) (p:Pl):Prop:=(∀ q∈Q,aI q p)∧p.y.natAbs < 2 ^ 140
theorem cY.f (s:cY Q) {a b:Pl} (ha:a∈Q) (hb:b∈Q):aI a b↔aq.f a < aq.f b:=ny (s.2 a ha) (s.2 b hb)
theorem cY.inj (s:cY Q) {a b:Pl} (ha:a∈Q) (hb:b∈Q) (e:aq.f a=aq.f b):a=b:=by
 rcases eO a b with k | k | k
 ·have:=(s.f ha hb).mp k;omega
 ·exact k
 ·have:=(s.f hb ha).mp k;omega
theorem Ly.f (s:cY Q) (h:Ly Q p) {a:Pl} (ha:a∈Q):aq.f a < aq.f p:=(ny (s.2 a ha) h.2).mp (h.1 a ha)
theorem cU (s:cY Q) {a b q:Pl} (h:aT Q a b) (hq:q∈Q) (z:tw a b q=0):¬ ((aq.f a < aq.f q∧aq.f q < aq.f b)∨(aq.f b < aq.f q∧aq.f q < aq.f a)):=by
 obtain ⟨ha,hb,ne,r⟩:=h
 have r2:=(r q hq).2 z
 unfold lo hi at r2
 rintro (⟨k1,k2⟩ | ⟨k1,k2⟩)
 ·have ab:aI a b:=(s.f ha hb).mpr (by omega)
  rw [if_neg (aE ab),if_pos ab] at r2
  exact r2 ⟨(s.f ha hq).mpr k1,(s.f hq hb).mpr k2⟩
 ·have ba:aI b a:=(s.f hb ha).mpr (by omega)
  rw [if_pos ba,if_neg (aE ba)] at r2
  exact r2 ⟨(s.f hb hq).mpr k1,(s.f hq ha).mpr k2⟩
theorem we (s:cY Q) {a b:Pl} (ha:a∈Q) (hb:b∈Q) (h:∀ q∈Q,0≤tw a b q∧(tw a b q=0→¬ ((aq.f a < aq.f q∧aq.f q < aq.f b)∨(aq.f b < aq.f q∧aq.f q < aq.f a)))):RE a b Q:=fun q hq=>⟨(h q hq).1,fun z k=>(h q hq).2 z (by
 unfold lo hi at k
 by_cases c:aI b a
 ·rw [if_pos c,if_neg (aE c)] at k
  exact .inr ⟨(s.f hb hq).mp k.1,(s.f hq ha).mp k.2⟩
 ·rw [if_neg c] at k
  by_cases d:aI a b
  ·rw [if_pos d] at k
   exact .inl ⟨(s.f ha hq).mp k.1,(s.f hq hb).mp k.2⟩
  ·rw [if_neg d] at k
   have:=(s.f ha hq).mp k.1
   have:=(s.f hq ha).mp k.2
   omega)⟩
theorem xN (s:cY Q) {a b:Pl} (ha:a∈Q) (hb:b∈Q) (ne:a≠b):aq.f a≠aq.f b:=fun z=>ne (s.inj ha hb z)
theorem ve (s:cY Q) {a b c:Pl} (h1:aT Q a b) (h2:aT Q a c) (s1:tw a b p < 0) (s2:tw a c p < 0):b=c:=by
 have z1:=(h1.2.2.2 c h2.2.1).1
 have z2:=(h2.2.2.2 b h1.2.1).1
 have z3:=vd a b c
 have z:tw a b c=0:=by omega
 have z':tw a c b=0:=by omega
 apply Classical.byContradiction
 intro ne
 have f1:=xN s h1.1 h1.2.1 h1.2.2.1
 have f2:=xN s h2.1 h2.2.1 h2.2.2.1
 have f3:=xN s h1.2.1 h2.2.1 ne
 have b1:=cU s h1 h2.2.1 z
 have b2:=cU s h2 h1.2.1 z'
 have key:=sj aq b c p a
 rw [z,Int.mul_zero,Int.add_zero] at key
 rcases Int.lt_or_lt_of_ne f1 with k | k
 ·rcases Int.lt_or_lt_of_ne f2 with l | l
  ·omega
  ·have e1:0 < (aq.f c - aq.f a)*tw a b p:=Int.mul_pos_of_neg_of_neg (by omega) s1
   have e2:(aq.f b - aq.f a)*tw a c p < 0:=Int.mul_neg_of_pos_of_neg (by omega) s2
   omega
 ·rcases Int.lt_or_lt_of_ne f2 with l | l
  ·have e1:(aq.f c - aq.f a)*tw a b p < 0:=Int.mul_neg_of_pos_of_neg (by omega) s1
   have e2:0 < (aq.f b - aq.f a)*tw a c p:=Int.mul_pos_of_neg_of_neg (by omega) s2
   omega
  ·omega
theorem yy (s:cY Q) {a b c:Pl} (h1:aT Q b a) (h2:aT Q c a) (s1:tw b a p < 0) (s2:tw c a p < 0):b=c:=by
 have z1:=(h1.2.2.2 c h2.1).1
 have z2:=(h2.2.2.2 b h1.1).1
 have z3:tw c a b= - tw b a c:=by unfold tw;grind
 have z:tw b a c=0:=by omega
 have z':tw c a b=0:=by omega
 apply Classical.byContradiction
 intro ne
 have f1:=xN s h1.1 h1.2.1 h1.2.2.1
 have f2:=xN s h2.1 h2.2.1 h2.2.2.1
 have f3:=xN s h1.1 h2.1 ne
 have b1:=cU s h1 h2.1 z
 have b2:=cU s h2 h1.1 z'
 have key:=sj aq b c p a
 have y1:tw a b p= - tw b a p:=cM b a p
 have y2:tw a c p= - tw c a p:=cM c a p
 have y3:tw a b c=0:=by have:=cM b a c;omega
 rw [y3,Int.mul_zero,Int.add_zero] at key
 have s1:0 < tw a b p:=by omega
 have s2:0 < tw a c p:=by omega
 rcases Int.lt_or_lt_of_ne f1 with k | k
 ·rcases Int.lt_or_lt_of_ne f2 with l | l
  ·omega
  ·have e1:0 < (aq.f c - aq.f a)*tw a b p:=Int.mul_pos (by omega) s1
   have e2:(aq.f b - aq.f a)*tw a c p < 0:=Int.mul_neg_of_neg_of_pos (by omega) s2
   omega
 ·rcases Int.lt_or_lt_of_ne f2 with l | l
  ·have e1:(aq.f c - aq.f a)*tw a b p < 0:=Int.mul_neg_of_neg_of_pos (by omega) s1
   have e2:0 < (aq.f b - aq.f a)*tw a c p:=Int.mul_pos (by omega) s2
   omega
  ·omega
theorem OJ (c a b p q:Pl):tw c a p*tw a b q - tw a b p*tw c a q=tw c a b*tw a p q:=by unfold tw;grind
theorem OL (a b c p q:Pl):tw a b q*tw b c p - tw a b p*tw b c q=tw a b c*tw p b q:=by unfold tw;grind
theorem k6 {a b:Pl} (ne:a≠b) (h:∀ q∈Q,tw a b q=0):Flat Q:=fun u hu v hv w hw=>Fp ne (h u hu) (h v hv) (h w hw)
theorem Dc (nf:¬ Flat Q) {a b c:Pl} (h1:aT Q a b) (h2:aT Q c a) (s1:tw a b p < 0) (s2:0≤tw c a p):∀ q∈Q,0≤tw a p q:=fun q hq=>by
 have z1:=(h1.2.2.2 q hq).1
 have z2:=(h2.2.2.2 q hq).1
 have z3:=(h2.2.2.2 b h1.2.1).1
 have key:=OJ c a b p q
 have e1:0≤tw c a p*tw a b q:=Int.mul_nonneg s2 z1
 have e2:tw a b p*tw c a q≤0:=Int.mul_nonpos_of_nonpos_of_nonneg (by omega) z2
 rcases Int.lt_or_eq_of_le z3 with k | k
 ·exact vY k (by omega)
 ·exfalso
  refine nf (k6 h2.2.2.1 fun r hr=>?_)
  have key:=OJ c a b p r
  rw [← k,Int.zero_mul] at key
  have y1:=(h1.2.2.2 r hr).1
  have y2:=(h2.2.2.2 r hr).1
  have e1:0≤tw c a p*tw a b r:=Int.mul_nonneg s2 y1
  have e2:tw a b p*tw c a r≤0:=Int.mul_nonpos_of_nonpos_of_nonneg (by omega) y2
  have e3:tw a b p*tw c a r=0:=by omega
  rcases Int.mul_eq_zero.mp e3 with z | z
  ·omega
  ·exact z
theorem Iw (nf:¬ Flat Q) {a b c:Pl} (h1:aT Q a b) (h2:aT Q b c) (s1:tw a b p < 0) (s2:0≤tw b c p):∀ q∈Q,0≤tw p b q:=fun q hq=>by
 have z1:=(h1.2.2.2 q hq).1
 have z2:=(h2.2.2.2 q hq).1
 have z3:=(h1.2.2.2 c h2.2.1).1
 have key:=OL a b c p q
 have e1:0≤tw a b q*tw b c p:=Int.mul_nonneg z1 s2
 have e2:tw a b p*tw b c q≤0:=Int.mul_nonpos_of_nonpos_of_nonneg (by omega) z2
 rcases Int.lt_or_eq_of_le z3 with k | k
 ·exact vY k (by omega)
 ·exfalso
  refine nf (k6 h2.2.2.1 fun r hr=>?_)
  have key:=OL a b c p r
  rw [← k,Int.zero_mul] at key
  have y1:=(h1.2.2.2 r hr).1
  have y2:=(h2.2.2.2 r hr).1
  have e1:0≤tw a b r*tw b c p:=Int.mul_nonneg y1 s2
  have e2:tw a b p*tw b c r≤0:=Int.mul_nonpos_of_nonpos_of_nonneg (by omega) y2
  have e3:tw a b p*tw b c r=0:=by omega
  rcases Int.mul_eq_zero.mp e3 with z | z
  ·omega
  ·exact z
theorem k7 (s:cY Q) (fl:Flat Q) {a b:Pl} (ha:a∈Q) (hb:b∈Q) (ne:a≠b) (h:∀ q∈Q,¬ ((aq.f a < aq.f q∧aq.f q < aq.f b)∨(aq.f b < aq.f q∧aq.f q < aq.f a))):aT Q a b:=
 ⟨ha,hb,ne,we s ha hb fun q hq=>⟨by rw [fl a ha b hb q hq];omega,fun _=>h q hq⟩⟩
theorem wg (s:cY Q) {a q:Pl} (ha:a∈Q) (hq:q∈Q) (ne:q≠a):∃ c∈Q,c≠a∧(aq.f c < aq.f a↔aq.f q < aq.f a)∧∀ z∈Q,¬ ((aq.f a < aq.f z∧aq.f z < aq.f c)∨(aq.f c < aq.f z∧aq.f z < aq.f a)):=by
 have fq:=xN s hq ha ne
 rcases Int.lt_or_lt_of_ne fq with k | k
 ·obtain ⟨c,hc,mx⟩:=BN (Q.filter fun z=>decide (aI z a)) (List.ne_nil_of_mem (List.mem_filter.mpr ⟨hq,decide_eq_true ((s.f hq ha).mpr k)⟩))
  obtain ⟨hc,ca⟩:=List.mem_filter.mp hc
  have ca:=(s.f hc ha).mp (of_decide_eq_true ca)
  refine ⟨c,hc,fun z=>by rw [z] at ca;omega,⟨fun _=>k,fun _=>ca⟩,fun z hz=>?_⟩
  rintro (⟨k1,k2⟩ | ⟨k1,k2⟩)
  ·omega
  ·exact mx z (List.mem_filter.mpr ⟨hz,decide_eq_true ((s.f hz ha).mpr k2)⟩) ((s.f hc hz).mpr k1)
 ·obtain ⟨c,hc,mn⟩:=v8 (Q.filter fun z=>decide (aI a z)) (List.ne_nil_of_mem (List.mem_filter.mpr ⟨hq,decide_eq_true ((s.f ha hq).mpr k)⟩))
  obtain ⟨hc,ca⟩:=List.mem_filter.mp hc
  have ca:=(s.f ha hc).mp (of_decide_eq_true ca)
  refine ⟨c,hc,fun z=>by rw [z] at ca;omega,⟨fun _=>by omega,fun _=>by omega⟩,fun z hz=>?_⟩
  rintro (⟨k1,k2⟩ | ⟨k1,k2⟩)
  ·exact mn z (List.mem_filter.mpr ⟨hz,decide_eq_true ((s.f ha hz).mpr k1)⟩) ((s.f hz hc).mpr k2)
  ·omega
theorem S2 {x y A B:Int} (h:x*A=y*B) (hA:A < 0) (hB:0 < B):(0 < x→y < 0)∧(x < 0→0 < y)∧(x=0→y=0):=by
 refine ⟨fun k=>?_,fun k=>?_,fun k=>?_⟩
 ·have:=Int.mul_neg_of_pos_of_neg k hA
  apply Classical.byContradiction
  intro z
  have:=Int.mul_nonneg (a:=y) (b:=B) (by omega) (by omega)
  omega
 ·have:=Int.mul_pos_of_neg_of_neg k hA
  apply Classical.byContradiction
  intro z
  have:=Int.mul_nonpos_of_nonpos_of_nonneg (a:=y) (b:=B) (by omega) (by omega)
  omega
 ·rw [k,Int.zero_mul] at h
  rcases Int.mul_eq_zero.mp h.symm with z | z
  ·exact z
  ·omega
theorem RJ {x y A B:Int} (h:x*A=y*B) (hA:A < 0) (hxy:(0 < x∧y < 0)∨(x < 0∧0 < y)):0 < B:=by
 apply Classical.byContradiction
 intro z
 rcases hxy with ⟨k,l⟩ | ⟨k,l⟩
 ·have:=Int.mul_neg_of_pos_of_neg k hA
  have:=Int.mul_nonneg_of_nonpos_of_nonpos (a:=y) (b:=B) (by omega) (by omega)
  omega
 ·have:=Int.mul_pos_of_neg_of_neg k hA
  have:=Int.mul_nonpos_of_nonneg_of_nonpos (a:=y) (b:=B) (by omega) (by omega)
  omega
theorem As (s:cY Q) (fl:Flat Q) {a b:Pl} (h1:aT Q a b) (s1:tw a b p < 0) (no:∀ c,aT Q c a→0≤tw c a p):∀ q∈Q,0≤tw a p q:=fun q hq=>by
 apply Classical.byContradiction
 intro k
 have z0:=fl a h1.1 b h1.2.1 q hq
 have key:=sj aq b q p a
 rw [z0,Int.mul_zero,Int.add_zero] at key
 have e1:tw a q p= - tw a p q:=vd a p q
 have o1:=S2 key s1 (by omega)
 have nq:q≠a:=fun z=>by rw [z] at k;have:=gq a p;omega
 obtain ⟨c,hc,nc,sg,OM⟩:=wg s h1.1 hq nq
 have f1:=xN s h1.2.1 h1.1 (Ne.symm h1.2.2.1)
 have f2:=xN s hq h1.1 nq
 have f3:=xN s hc h1.1 nc
 have sd:aT Q c a:=k7 s fl hc h1.1 nc fun z hz w=>OM z hz (by omega)
 have Iz:=sj aq b c p a
 rw [fl a h1.1 b h1.2.1 c hc,Int.mul_zero,Int.add_zero] at Iz
 have:=RJ Iz s1 (by omega)
 have:=no c sd
 have:=cM a c p
 omega
theorem FE (s:cY Q) (fl:Flat Q) {a b:Pl} (h1:aT Q a b) (s1:tw a b p < 0) (no:∀ c,aT Q b c→0≤tw b c p):∀ q∈Q,0≤tw p b q:=fun q hq=>by
 apply Classical.byContradiction
 intro k
 have z0:=fl b h1.2.1 a h1.1 q hq
 have key:=sj aq a q p b
 rw [z0,Int.mul_zero,Int.add_zero] at key
 have e1:tw b q p=tw p b q:=jH p b q
 have e2:=cM a b p
 have key:(aq.f a - aq.f b)*tw b q p=(aq.f q - aq.f b)*tw b a p:=key.symm
 have o1:=S2 key (by omega) (by omega)
 have nq:q≠b:=fun z=>by rw [z] at k;have:=gp p b;have:tw p b b=0:=by unfold tw;grind
                        omega
 obtain ⟨c,hc,nc,sg,OM⟩:=wg s h1.2.1 hq nq
 have f1:=xN s h1.1 h1.2.1 h1.2.2.1
 have f2:=xN s hq h1.2.1 nq
 have f3:=xN s hc h1.2.1 nc
 have sd:aT Q b c:=k7 s fl h1.2.1 hc (Ne.symm nc) fun z hz w=>OM z hz (by omega)
 have Iz:=sj aq a c p b
 rw [fl b h1.2.1 a h1.1 c hc,Int.mul_zero,Int.add_zero] at Iz
 have nn:=no c sd
 have pos:0 < tw b a p:=by omega
 rcases Int.lt_or_lt_of_ne f3 with l | l
 ·have e3:(aq.f c - aq.f b)*tw b a p < 0:=Int.mul_neg_of_neg_of_pos (by omega) pos
  have e4:0≤(aq.f a - aq.f b)*tw b c p:=Int.mul_nonneg (by omega) nn
  omega
 ·have e3:0 < (aq.f c - aq.f b)*tw b a p:=Int.mul_pos (by omega) pos
  have e4:(aq.f a - aq.f b)*tw b c p≤0:=Int.mul_nonpos_of_nonpos_of_nonneg (by omega) nn
  omega
theorem Dd (s:cY Q) (bh:Ly Q p) {a b q:Pl} (h1:aT Q a b) (s1:tw a b p < 0) (hq:q∈Q) (z:tw a p q=0):¬ aq.f a < aq.f q:=fun k=>by
 have key:=sj aq b q p a
 have e1:tw a q p=0:=by have:=vd a p q;omega
 rw [e1,Int.mul_zero,Int.zero_add] at key
 have:=(h1.2.2.2 q hq).1
 have fp:=bh.f s h1.1
 have e2:(aq.f q - aq.f a)*tw a b p < 0:=Int.mul_neg_of_pos_of_neg (by omega) s1
 have e3:0≤(aq.f p - aq.f a)*tw a b q:=Int.mul_nonneg (by omega) this
 omega
theorem IA (s:cY Q) (bh:Ly Q p) {a b q:Pl} (h1:aT Q a b) (s1:tw a b p < 0) (hq:q∈Q) (z:tw p b q=0):¬ aq.f b < aq.f q:=fun k=>by
 have key:=sj aq a q p b
 have e1:tw b q p=0:=by have:=jH p b q;omega
 rw [e1,Int.mul_zero,Int.zero_add] at key
 have:=(h1.2.2.2 q hq).1
 have y1:=cM a b p
 have y2:=cM a b q
 have fp:=bh.f s h1.2.1
 have e2:0 < (aq.f q - aq.f b)*tw b a p:=Int.mul_pos (by omega) (by omega)
 have e3:(aq.f p - aq.f b)*tw b a q≤0:=Int.mul_nonpos_of_nonneg_of_nonpos (by omega) (by omega)
 omega
theorem cY.old (s:cY (Q ++ [p])):cY Q:=⟨(List.pairwise_append.mp s.1).1,fun q hq=>s.2 q (List.mem_append_left _ hq)⟩
theorem cY.Au (s:cY (Q ++ [p])):Ly Q p:=⟨fun q hq=>(List.pairwise_append.mp s.1).2.2 q hq p (by simp),s.2 p (by simp)⟩
theorem cY.out (s:cY (Q ++ [p])):p∉Q:=fun h=>bI _ (s.Au.1 p h)
theorem dm {q:Pl} (h:q∈Q ++ [p]):q∈Q∨q=p:=by
 rcases List.mem_append.mp h with h | h
 ·exact .inl h
 ·exact .inr (List.mem_singleton.mp h)
theorem gC (s:cY (Q ++ [p])) {a b:Pl} (ha:a∈Q) (hb:b∈Q):aT (Q ++ [p]) a b↔aT Q a b∧0≤tw a b p:=by
 constructor
 ·rintro ⟨_,_,ne,r⟩
  exact ⟨⟨ha,hb,ne,fun q hq=>r q (List.mem_append_left _ hq)⟩,(r p (by simp)).1⟩
 ·rintro ⟨⟨_,_,ne,r⟩,h⟩
  refine ⟨List.mem_append_left _ ha,List.mem_append_left _ hb,ne,we s (List.mem_append_left _ ha) (List.mem_append_left _ hb) fun q hq=>?_⟩
  rcases dm hq with hq | rfl
  ·exact ⟨(r q hq).1,fun z=>cU s.old ⟨ha,hb,ne,r⟩ hq z⟩
  ·refine ⟨h,fun _ k=>?_⟩
   have:=s.Au.f s.old ha
   have:=s.Au.f s.old hb
   omega
theorem su (s:cY (Q ++ [p])) {a b:Pl} (h1:aT Q a b) (s1:tw a b p < 0) (no:∀ c,aT Q c a→0≤tw c a p):aT (Q ++ [p]) a p:=by
 have all:∀ q∈Q,0≤tw a p q:=by
  by_cases fl:Flat Q
  ·exact As s.old fl h1 s1 no
  ·obtain ⟨c,hc⟩:=Iv s.old h1
   exact Dc fl h1 hc s1 (no c hc)
 have ma:a∈Q ++ [p]:=List.mem_append_left _ h1.1
 have mp:p∈Q ++ [p]:=by simp
 refine ⟨ma,mp,fun z=>s.out (z▸h1.1),we s ma mp fun q hq=>?_⟩
 have fa:=s.Au.f s.old h1.1
 rcases dm hq with hq | rfl
 ·refine ⟨all q hq,fun z k=>?_⟩
  have:=Dd s.old s.Au h1 s1 hq z
  have:=s.Au.f s.old hq
  omega
 ·refine ⟨by have:tw a q q=0:=by unfold tw;grind
             omega,fun _ k=>by omega⟩
theorem yz (s:cY (Q ++ [p])) {a b:Pl} (h1:aT Q a b) (s1:tw a b p < 0) (no:∀ c,aT Q b c→0≤tw b c p):aT (Q ++ [p]) p b:=by
 have all:∀ q∈Q,0≤tw p b q:=by
  by_cases fl:Flat Q
  ·exact FE s.old fl h1 s1 no
  ·obtain ⟨c,hc⟩:=sf s.old h1
   exact Iw fl h1 hc s1 (no c hc)
 have mb:b∈Q ++ [p]:=List.mem_append_left _ h1.2.1
 have mp:p∈Q ++ [p]:=by simp
 refine ⟨mp,mb,fun z=>s.out (z▸h1.2.1),we s mp mb fun q hq=>?_⟩
 have fb:=s.Au.f s.old h1.2.1
 rcases dm hq with hq | rfl
 ·refine ⟨all q hq,fun z k=>?_⟩
  have:=IA s.old s.Au h1 s1 hq z
  have:=s.Au.f s.old hq
  omega
 ·refine ⟨by have:tw q b q=0:=by unfold tw;grind
             omega,fun _ k=>by omega⟩
theorem FF (s:cY (Q ++ [p])) {u v:Pl} (h1:aT (Q ++ [p]) u p) (h2:aT (Q ++ [p]) v p):u=v:=by
 apply Classical.byContradiction
 intro ne
 have z1:=(h1.2.2.2 v h2.1).1
 have z2:=(h2.2.2.2 u h1.1).1
 have z3:tw v p u= - tw u p v:=by unfold tw;grind
 have f:=xN s h1.1 h2.1 ne
 have hu:=(dm h1.1).resolve_right h1.2.2.1
 have hv:=(dm h2.1).resolve_right h2.2.2.1
 have fu:=s.Au.f s.old hu
 have fv:=s.Au.f s.old hv
 have b1:=cU s h1 h2.1 (by omega)
 have b2:=cU s h2 h1.1 (by omega)
 omega
theorem JT (s:cY (Q ++ [p])) {u v:Pl} (h1:aT (Q ++ [p]) p u) (h2:aT (Q ++ [p]) p v):u=v:=by
 apply Classical.byContradiction
 intro ne
 have z1:=(h1.2.2.2 v h2.2.1).1
 have z2:=(h2.2.2.2 u h1.2.1).1
 have z3:tw p v u= - tw p u v:=vd p u v
 have f:=xN s h1.2.1 h2.2.1 ne
 have hu:=(dm h1.2.1).resolve_right (Ne.symm h1.2.2.1)
 have hv:=(dm h2.2.1).resolve_right (Ne.symm h2.2.2.1)
 have fu:=s.Au.f s.old hu
 have fv:=s.Au.f s.old hv
 have b1:=cU s h1 h2.2.1 (by omega)
 have b2:=cU s h2 h1.2.1 (by omega)
 omega
theorem yC {Q:List Pl} (h:Q.length≤2):Flat Q:=by
 match Q,h with
 | [],_=>exact fun p hp=>by cases hp
 | [x],_=>exact l8 (by simp)
 | [x,y],_=>
   have key:∀ a∈[x,y],a=x∨a=y:=fun a ha=>by simpa using ha
   intro a ha b hb c hc
   rcases key a ha with rfl | rfl <;> rcases key b hb with rfl | rfl <;> rcases key c hc with rfl | rfl <;> (unfold tw;grind)
theorem vf (s:cY (Q ++ [p])) (nf:¬ Flat (Q ++ [p])):∃ a b,aT Q a b∧tw a b p < 0:=by
 apply Classical.byContradiction
 intro none
 have un:∀ a b,aT Q a b→0≤tw a b p:=fun a b h=>Classical.byContradiction fun z=>none ⟨a,b,h,by omega⟩
 have l2:2≤Q.length:=Classical.byContradiction fun z=>nf (yC (by rw [List.length_append];simp;omega))
 have hne:Q≠[]:=fun z=>by rw [z] at l2;simp at l2
 have hy:=List.getLast?_eq_some_getLast hne
 obtain ⟨e,he⟩:=(oY s.old l2).2 _ hy
 have last:∀ q∈Q,q=Q.getLast hne∨aI q (Q.getLast hne):=fun q hq=>(gX s.old.1 (List.head?_eq_some_head hne) hy q hq).2
 generalize Q.getLast hne=y at he last
 obtain ⟨b,hb⟩:=sf s.old he
 have my:y∈Q:=hb.1
 have fe:aq.f e < aq.f y:=(s.old.f he.1 my).mp ((last e he.1).resolve_left he.2.2.1)
 have fb:aq.f b < aq.f y:=(s.old.f hb.2.1 my).mp ((last b hb.2.1).resolve_left (Ne.symm hb.2.2.1))
 have fp:=s.Au.f s.old my
 have u1:=un e y he
 have u2:=un y b hb
 have u3:=(he.2.2.2 b hb.2.1).1
 have g1:∀ q,tw y e q= - tw e y q:=fun q=>cM e y q
 have key:=sj aq e b p y
 have k1:=g1 p
 have k2:=g1 b
 have e1:0≤(aq.f b - aq.f y)*tw y e p:=Int.mul_nonneg_of_nonpos_of_nonpos (by omega) (by omega)
 have e2:(aq.f e - aq.f y)*tw y b p≤0:=Int.mul_nonpos_of_nonpos_of_nonneg (by omega) u2
 have e3:(aq.f p - aq.f y)*tw y e b≤0:=Int.mul_nonpos_of_nonneg_of_nonpos (by omega) (by omega)
 have z1:(aq.f b - aq.f y)*tw y e p=0:=by omega
 have z2:(aq.f p - aq.f y)*tw y e b=0:=by omega
 have y1:tw y e p=0:=(Int.mul_eq_zero.mp z1).resolve_left (by omega)
 have y2:tw y e b=0:=(Int.mul_eq_zero.mp z2).resolve_left (by omega)
 refine nf (k6 (a:=y) (b:=e) (Ne.symm he.2.2.1) fun q hq=>?_)
 rcases dm hq with hq | rfl
 ·have key:=sj aq e b q y
  rw [y2,Int.mul_zero,Int.add_zero] at key
  have h1:=(he.2.2.2 q hq).1
  have h2:=(hb.2.2.2 q hq).1
  have h3:=g1 q
  have e4:0≤(aq.f b - aq.f y)*tw y e q:=Int.mul_nonneg_of_nonpos_of_nonpos (by omega) (by omega)
  have e5:(aq.f e - aq.f y)*tw y b q≤0:=Int.mul_nonpos_of_nonpos_of_nonneg (by omega) h2
  exact (Int.mul_eq_zero.mp (show (aq.f b - aq.f y)*tw y e q=0 by omega)).resolve_left (by omega)
 ·exact y1
def bK (Q:List Pl) (p:Pl):List (List Pl):=(SL Q).filter (zI p)
theorem aY (s:cY Q) {a b:Pl}: [a,b]∈bK Q p↔aT Q a b∧tw a b p < 0:=by
 unfold bK
 rw [List.mem_filter,cG s]
 exact ⟨fun h=>⟨h.1,of_decide_eq_true h.2⟩,fun h=>⟨h.1,decide_eq_true h.2⟩⟩
theorem bV {w:List Pl} (h:w∈bK Q p):∃ a b,w= [a,b]:=mh (List.mem_filter.mp h).1
theorem mj (s:cY Q):(bK Q p).Nodup:=(j7 s).filter _
def uu (w:List Pl):Pl:=w.headD ⟨0,0⟩
def wj (w:List Pl):Pl:=w.getLastD ⟨0,0⟩
theorem k8 {α β:Type} {f:α→β}:∀ {l:List α},l.Nodup→(∀ x∈l,∀ y∈l,f x=f y→x=y)→(l.map f).Nodup
 | [],_,_=> .nil
 | a :: l,nd,h=>by
   obtain ⟨h1,h2⟩:=List.nodup_cons.mp nd
   rw [List.map_cons]
   refine List.nodup_cons.mpr ⟨fun z=>?_,k8 h2 fun x hx y hy=>h x (List.mem_cons_of_mem _ hx) y (List.mem_cons_of_mem _ hy)⟩
   obtain ⟨b,hb,e⟩:=List.mem_map.mp z
   rw [h b (List.mem_cons_of_mem _ hb) a (by simp) e] at hb
   exact h1 hb
theorem wk (s:cY Q):((bK Q p).map uu).Nodup:=k8 (mj s) fun x hx y hy e=>by
 obtain ⟨a,b,rfl⟩:=bV hx
 obtain ⟨c,d,rfl⟩:=bV hy
 have e:a=c:=e
 subst e
 obtain ⟨h1,h2⟩:=(aY s).mp hx
 obtain ⟨h3,h4⟩:=(aY s).mp hy
 rw [ve s h1 h3 h2 h4]
theorem Av (s:cY Q):((bK Q p).map wj).Nodup:=k8 (mj s) fun x hx y hy e=>by
 obtain ⟨a,b,rfl⟩:=bV hx
 obtain ⟨c,d,rfl⟩:=bV hy
 have e:b=d:=e
 subst e
 obtain ⟨h1,h2⟩:=(aY s).mp hx
 obtain ⟨h3,h4⟩:=(aY s).mp hy
 rw [yy s h1 h3 h2 h4]
theorem yD {A B:List Pl} (na:A.Nodup) (l:A.length=B.length) (h:∀ x∈A,x∈B):∀ x∈B,x∈A:=fun x hx=>by
 apply Classical.byContradiction
 intro n
 have:=oW (l:=x :: A) (m:=B) (List.nodup_cons.mpr ⟨n,na⟩) (fun y hy=>by
  rcases List.mem_cons.mp hy with rfl | hy
  ·exact hx
  ·exact h y hy)
 rw [List.length_cons] at this
 omega
theorem BR (s:cY Q) (bh:Ly Q p) {a0 b0:Pl} (h0: [a0,b0]∈bK Q p) (h1:∀ x∈(bK Q p).map uu,x∈(bK Q p).map wj) (h2:∀ x∈(bK Q p).map wj,x∈(bK Q p).map uu):False:=by
 obtain ⟨m,hm,mn⟩:=v8 ((bK Q p).map uu) (List.ne_nil_of_mem (List.mem_map.mpr ⟨_,h0,rfl⟩))
 obtain ⟨w,hw,e1⟩:=List.mem_map.mp hm
 obtain ⟨v,hv,e2⟩:=List.mem_map.mp (h1 m hm)
 obtain ⟨a,b,rfl⟩:=bV hw
 obtain ⟨c,d,rfl⟩:=bV hv
 have e1:a=m:=e1
 have e2:d=m:=e2
 subst e1
 subst e2
 obtain ⟨k1,k2⟩:=(aY s).mp hw
 obtain ⟨k3,k4⟩:=(aY s).mp hv
 have fb:aq.f d < aq.f b:=by
  have nb:=mn b (h2 b (List.mem_map.mpr ⟨_,hw,rfl⟩))
  have ne:=xN s k1.1 k1.2.1 k1.2.2.1
  have:¬ aq.f b < aq.f d:=fun z=>nb ((s.f k1.2.1 k1.1).mpr z)
  omega
 have fc:aq.f d < aq.f c:=by
  have nb:=mn c (List.mem_map.mpr ⟨_,hv,rfl⟩)
  have ne:=xN s k3.1 k3.2.1 k3.2.2.1
  have:¬ aq.f c < aq.f d:=fun z=>nb ((s.f k3.1 k3.2.1).mpr z)
  omega
 exact Ar fb fc (bh.f s k1.1) (k1.2.2.2 c k3.1).1 k2 k4
theorem FG (s:cY Q) (bh:Ly Q p) {a0 b0:Pl} (h0: [a0,b0]∈bK Q p):(∃ a b,(aT Q a b∧tw a b p < 0)∧∀ c,aT Q c a→0≤tw c a p)∧∃ a b,(aT Q a b∧tw a b p < 0)∧∀ c,aT Q b c→0≤tw b c p:=by
 have lens:((bK Q p).map uu).length=((bK Q p).map wj).length:=by rw [List.length_map,List.length_map]
 constructor
 ·apply Classical.byContradiction
  intro no
  have sub:∀ x∈(bK Q p).map uu,x∈(bK Q p).map wj:=fun x hx=>by
   obtain ⟨w,hw,rfl⟩:=List.mem_map.mp hx
   obtain ⟨a,b,rfl⟩:=bV hw
   apply Classical.byContradiction
   intro n
   refine no ⟨a,b,(aY s).mp hw,fun c hc=>Classical.byContradiction fun z=>n ?_⟩
   exact List.mem_map.mpr ⟨[c,a],(aY s).mpr ⟨hc,by omega⟩,rfl⟩
  exact BR s bh h0 sub (yD (wk s) lens sub)
 ·apply Classical.byContradiction
  intro no
  have sub:∀ x∈(bK Q p).map wj,x∈(bK Q p).map uu:=fun x hx=>by
   obtain ⟨w,hw,rfl⟩:=List.mem_map.mp hx
   obtain ⟨a,b,rfl⟩:=bV hw
   apply Classical.byContradiction
   intro n
   refine no ⟨a,b,(aY s).mp hw,fun c hc=>Classical.byContradiction fun z=>n ?_⟩
   exact List.mem_map.mpr ⟨[b,c],(aY s).mpr ⟨hc,by omega⟩,rfl⟩
  exact BR s bh h0 (yD (Av s) lens.symm sub) sub
def UU (p:Pl) (w:List Pl):List (List Pl):=[[wj w,uu w],[uu w,p],[p,wj w]]
def newD (Q:List Pl) (p:Pl):List (List Pl):=(bK Q p).flatMap (UU p)
theorem eS (s:cY Q) {w:List Pl}:w∈newD Q p↔∃ a b,(aT Q a b∧tw a b p < 0)∧(w= [b,a]∨w= [a,p]∨w= [p,b]):=by
 unfold newD
 rw [List.mem_flatMap]
 constructor
 ·rintro ⟨v,hv,hw⟩
  obtain ⟨a,b,rfl⟩:=bV hv
  refine ⟨a,b,(aY s).mp hv,?_⟩
  have hw:w∈[[b,a],[a,p],[p,b]]:=hw
  simpa using hw
 ·rintro ⟨a,b,h,hw⟩
  refine ⟨[a,b],(aY s).mpr h,?_⟩
  show w∈[[b,a],[a,p],[p,b]]
  simpa using hw
theorem aL {a b c d:Pl} (h: [a,b]= [c,d]):a=c∧b=d:=by
 injection h with h1 h
 injection h with h2 _
 exact ⟨h1,h2⟩
theorem De (s:cY (Q ++ [p])):(newD Q p).Nodup:=by
 have so:=s.old
 have np:∀ {x y},aT Q x y→x≠p∧y≠p:=fun h=>⟨fun z=>s.out (z▸h.1),fun z=>s.out (z▸h.2.1)⟩
 unfold newD
 refine List.pairwise_flatMap.mpr ⟨fun w hw=>?_,?_⟩
 ·obtain ⟨a,b,rfl⟩:=bV hw
  obtain ⟨h1,_⟩:=(aY so).mp hw
  obtain ⟨n1,n2⟩:=np h1
  show ([[b,a],[a,p],[p,b]]:List (List Pl)).Nodup
  simp only [List.nodup_cons,List.mem_cons,List.not_mem_nil,or_false,not_or,not_false_eq_true,List.nodup_nil,and_true]
  refine ⟨⟨fun z=>n1 (aL z).2,fun z=>n2 (aL z).1⟩,fun z=>n1 (aL z).1⟩
 ·refine (mj so).imp_of_mem fun {w v} hw hv ne x hx y hy e=>?_
  subst e
  obtain ⟨a,b,rfl⟩:=bV hw
  obtain ⟨c,d,rfl⟩:=bV hv
  obtain ⟨h1,h2⟩:=(aY so).mp hw
  obtain ⟨h3,h4⟩:=(aY so).mp hv
  obtain ⟨n1,n2⟩:=np h1
  obtain ⟨n3,n4⟩:=np h3
  have hx:x∈[[b,a],[a,p],[p,b]]:=hx
  have hy:x∈[[d,c],[c,p],[p,d]]:=hy
  simp only [List.mem_cons,List.not_mem_nil,or_false] at hx hy
  rcases hx with rfl | rfl | rfl
  ·rcases hy with e | e | e
   ·obtain ⟨rfl,rfl⟩:=aL e
    exact ne rfl
   ·exact n1 (aL e).2
   ·exact n2 (aL e).1
  ·rcases hy with e | e | e
   ·exact n3 (aL e).2.symm
   ·have e:=(aL e).1
    subst e
    rw [ve so h1 h3 h2 h4] at ne
    exact ne rfl
   ·exact n1 (aL e).1
  ·rcases hy with e | e | e
   ·exact n4 (aL e).1.symm
   ·exact n3 (aL e).1.symm
   ·have e:=(aL e).2
    subst e
    rw [yy so h1 h3 h2 h4] at ne
    exact ne rfl
structure wm (Q:List Pl) (D:List (List Pl)):Prop where
 nd:D.Nodup
 rW:∀ w∈D,∃ a b,w= [a,b]∧a∈Q∧b∈Q
 bare:∀ a b,[a,b]∈D→[b,a]∉D→aT Q a b
 mw:∀ a b,aT Q a b→[b,a]∉D
 has:∀ a b,aT Q a b→aT Q b a∨[a,b]∈D
theorem wm.nil {Q:List Pl} (h:Q.length < 2):wm Q [] where
 nd:= .nil
 rW:=fun w hw=>by cases hw
 bare:=fun a b hw=>by cases hw
 mw:=fun a b hw=>by simp
 has:=fun a b hw=>absurd (nG hw) (by omega)
theorem vg {a b:Pl} (h1:aT Q a b) (h2:aT Q b a):Flat Q:=k6 h1.2.2.1 fun q hq=>by
 have z1:=(h1.2.2.2 q hq).1
 have z2:=(h2.2.2.2 q hq).1
 have:=cM a b q
 omega
theorem vh (s:cY Q) (fl:Flat Q) {a b:Pl} (h:aT Q a b):aT Q b a:=k7 s fl h.2.1 h.1 (Ne.symm h.2.2.1) fun q hq k=>cU s h hq (fl a h.1 b h.2.1 q hq) (by omega)
theorem wm.step {D D':List (List Pl)} (s:cY (Q ++ [p])) (c:wm Q D) (e:D'.Perm (D ++ newD Q p)):wm (Q ++ [p]) D':=by
 have so:=s.old
 have np:∀ {x y},aT Q x y→x≠p∧y≠p:=fun h=>⟨fun z=>s.out (z▸h.1),fun z=>s.out (z▸h.2.1)⟩
 have mem:∀ w,w∈D'↔w∈D∨w∈newD Q p:=fun w=>by rw [e.mem_iff,List.mem_append]
 have pD:∀ a b,[a,b]∈D→a∈Q∧b∈Q:=fun a b h=>by
  obtain ⟨u,v,e,h1,h2⟩:=c.rW _ h
  obtain ⟨rfl,rfl⟩:=aL e
  exact ⟨h1,h2⟩
 refine ⟨?_,?_,?_,?_,?_⟩
 ·refine e.nodup_iff.mpr (List.nodup_append.mpr ⟨c.nd,De s,fun w hw v hv z=>?_⟩)
  subst z
  obtain ⟨a,b,⟨h1,h2⟩,h3⟩:=(eS so).mp hv
  rcases h3 with rfl | rfl | rfl
  ·exact c.mw a b h1 hw
  ·exact s.out (pD _ _ hw).2
  ·exact s.out (pD _ _ hw).1
 ·intro w hw
  rcases (mem w).mp hw with h | h
  ·obtain ⟨a,b,e,h1,h2⟩:=c.rW w h
   exact ⟨a,b,e,List.mem_append_left _ h1,List.mem_append_left _ h2⟩
  ·obtain ⟨a,b,⟨h1,h2⟩,h3⟩:=(eS so).mp h
   have ma:a∈Q ++ [p]:=List.mem_append_left _ h1.1
   have mb:b∈Q ++ [p]:=List.mem_append_left _ h1.2.1
   have mp:p∈Q ++ [p]:=by simp
   rcases h3 with rfl | rfl | rfl
   ·exact ⟨_,_,rfl,mb,ma⟩
   ·exact ⟨_,_,rfl,ma,mp⟩
   ·exact ⟨_,_,rfl,mp,mb⟩
 ·intro u v hw hb
  have S3: [v,u]∉D:=fun z=>hb ((mem _).mpr (.inl z))
  have RK: [v,u]∉newD Q p:=fun z=>hb ((mem _).mpr (.inr z))
  rcases (mem _).mp hw with h | h
  ·have sd:=c.bare u v h S3
   refine (gC s sd.1 sd.2.1).mpr ⟨sd,Classical.byContradiction fun z=>RK ?_⟩
   exact (eS so).mpr ⟨u,v,⟨sd,by omega⟩,.inl rfl⟩
  ·obtain ⟨a,b,⟨h1,h2⟩,h3⟩:=(eS so).mp h
   rcases h3 with h3 | h3 | h3
   ·obtain ⟨rfl,rfl⟩:=aL h3
    rcases c.has v u h1 with k | k
    ·exact (gC s k.1 k.2.1).mpr ⟨k,by have:=cM v u p;omega⟩
    ·exact absurd k S3
   ·obtain ⟨rfl,rfl⟩:=aL h3
    refine su s h1 h2 fun c hc=>Classical.byContradiction fun z=>RK ?_
    exact (eS so).mpr ⟨c,u,⟨hc,by omega⟩,.inr (.inr rfl)⟩
   ·obtain ⟨rfl,rfl⟩:=aL h3
    refine yz s h1 h2 fun c hc=>Classical.byContradiction fun z=>RK ?_
    exact (eS so).mpr ⟨v,c,⟨hc,by omega⟩,.inr (.inl rfl)⟩
 ·intro u v sd hw
  rcases (mem _).mp hw with h | h
  ·obtain ⟨mv,mu⟩:=pD _ _ h
   exact c.mw u v ((gC s mu mv).mp sd).1 h
  ·obtain ⟨a,b,⟨h1,h2⟩,h3⟩:=(eS so).mp h
   rcases h3 with h3 | h3 | h3
   ·obtain ⟨rfl,rfl⟩:=aL h3
    have:=((gC s h1.1 h1.2.1).mp sd).2
    omega
   ·obtain ⟨rfl,rfl⟩:=aL h3
    have:=(sd.2.2.2 b (List.mem_append_left _ h1.2.1)).1
    have:=sr v b u
    omega
   ·obtain ⟨rfl,rfl⟩:=aL h3
    have:=(sd.2.2.2 a (List.mem_append_left _ h1.1)).1
    have:=jH a u v
    omega
 ·intro u v sd
  by_cases fl:Flat (Q ++ [p])
  ·exact .inl (vh s fl sd)
  ·right
   obtain ⟨a0,b0,h0,s0⟩:=vf s fl
   obtain ⟨⟨a1,b1,k1,UW⟩,a2,b2,k2,UX⟩:=FG so s.Au ((aY so).mpr ⟨h0,s0⟩)
   rcases dm sd.1 with mu | rfl
   ·rcases dm sd.2.1 with mv | rfl
    ·obtain ⟨RL,ge⟩:=(gC s mu mv).mp sd
     rcases c.has u v RL with k | k
     ·have fq:=vg RL k
      have nz:tw u v p≠0:=fun z=>fl (k6 RL.2.2.1 fun q hq=>by
       rcases dm hq with hq | rfl
       ·exact fq u mu v mv q hq
       ·exact z)
      exact (mem _).mpr (.inr ((eS so).mpr ⟨v,u,⟨k,by have:=cM u v p;omega⟩,.inl rfl⟩))
     ·exact (mem _).mpr (.inl k)
    ·have:=FF s sd (su s k1.1 k1.2 UW)
     subst this
     exact (mem _).mpr (.inr ((eS so).mpr ⟨u,b1,k1,.inr (.inl rfl)⟩))
   ·have:=JT s sd (yz s k2.1 k2.2 UX)
    subst this
    exact (mem _).mpr (.inr ((eS so).mpr ⟨a2,v,k2,.inr (.inr rfl)⟩))
end
end L3
namespace L3
theorem oZ {v w x y:Pl} (h: [v,w].Perm [x,y]):(v=x∧w=y)∨(v=y∧w=x):=by
 have m:v∈[x,y]:=h.mem_iff.mp (by simp)
 simp only [List.mem_cons,List.not_mem_nil,or_false] at m
 rcases m with rfl | rfl
 ·have:=List.Perm.cons_inv h
  exact .inl ⟨rfl,by simpa using this⟩
 ·have:=List.Perm.cons_inv (h.trans (List.Perm.swap v x []))
  exact .inr ⟨rfl,by simpa using this⟩
theorem IB {a b p:Pl} (h:tw a b p < 0):(dj (oR a b p)).Perm [[b,a],[a,p],[p,b]]:=by
 obtain ⟨⟨u,v,w,e,_,_,pos⟩,pm⟩:=rQ (a:=a) (b:=b) (c:=p) (by omega)
 rw [e] at pm ⊢
 have m:u∈[a,b,p]:=pm.mem_iff.mp (by simp)
 simp only [List.mem_cons,List.not_mem_nil,or_false] at m
 rcases m with rfl | rfl | rfl
 ·rcases oZ (List.Perm.cons_inv pm) with ⟨rfl,rfl⟩ | ⟨rfl,rfl⟩
  ·omega
  ·show ([[u,v],[v,w],[w,u]]:List (List Pl)).Perm [[w,u],[u,v],[v,w]]
   exact List.perm_append_comm (l₁:=[[u,v],[v,w]]) (l₂:=[[w,u]])
 ·rcases oZ (List.Perm.cons_inv (pm.trans (List.Perm.swap u a [p]))) with ⟨rfl,rfl⟩ | ⟨rfl,rfl⟩
  ·exact .refl _
  ·have:=jH w u v
   omega
 ·rcases oZ (List.Perm.cons_inv (pm.trans (List.perm_append_comm (l₁:=[a,b]) (l₂:=[u])))) with ⟨rfl,rfl⟩ | ⟨rfl,rfl⟩
  ·have:=sr v w u
   omega
  ·show ([[u,v],[v,w],[w,u]]:List (List Pl)).Perm [[v,w],[w,u],[u,v]]
   exact List.perm_append_comm (l₁:=[[u,v]]) (l₂:=[[v,w],[w,u]])
def yE (p:Pl) (w:List Pl):List Pl:=oR (uu w) (wj w) p
def uv (qs:List Pl) (k:Nat):Pl:=qs.getD k ⟨0,0⟩
def jg (qs:List Pl):Nat→List (List Pl)
 | 0=>[]
 | k+1=>jg qs k ++ (bK (qs.take k) (uv qs k)).map (yE (uv qs k))
theorem FH (xs ys:List (List Pl)):bf (xs ++ ys)=bf xs ++ bf ys:=List.flatMap_append
theorem vm {α β:Type} {f g:α→List β}:∀ {l:List α},(∀ x∈l,(f x).Perm (g x))→(l.flatMap f).Perm (l.flatMap g)
 | [],_=> .refl _
 | a :: l,h=>by
   rw [List.flatMap_cons,List.flatMap_cons]
   exact (h a (by simp)).append (vm fun x hx=>h x (List.mem_cons_of_mem _ hx))
theorem FI {Q:List Pl} {p:Pl} (s:cY Q):(bf ((bK Q p).map (yE p))).Perm (newD Q p):=by
 unfold bf newD
 rw [List.flatMap_map]
 refine vm fun w hw=>?_
 obtain ⟨a,b,rfl⟩:=bV hw
 exact IB ((aY s).mp hw).2
theorem k9 {qs:List Pl} {k:Nat} (h:k < qs.length):qs.take (k+1)=qs.take k ++ [uv qs k]:=by
 rw [List.take_succ,List.getElem?_eq_getElem h]
 unfold uv
 rw [List.getD_eq_getElem?_getD,List.getElem?_eq_getElem h]
 rfl
theorem cY.take {qs:List Pl} (s:cY qs) (k:Nat):cY (qs.take k):=⟨s.1.sublist (List.take_sublist _ _),fun q hq=>s.2 q (List.mem_of_mem_take hq)⟩
theorem BS {qs:List Pl} (s:cY qs):∀ k,k≤qs.length→wm (qs.take k) (bf (jg qs k))
 | 0,_=>wm.nil (by simp)
 | k+1,h=>by
   have st:=s.take (k+1)
   rw [k9 (by omega)] at st ⊢
   refine wm.step st (BS s k (by omega)) ?_
   show (bf (jg qs k ++ _)).Perm _
   rw [FH]
   exact (List.Perm.refl _).append (FI st.old)
theorem IC {a b p q:Pl} (h:tw a b p < 0) (hq:q=a∨q=b∨q=p):q∈oR a b p:=(rQ (a:=a) (b:=b) (c:=p) (by omega)).2.mem_iff.mpr (by simpa using hq)
theorem sy {qs:List Pl} (s:cY qs):∀ k,k≤qs.length→¬ Flat (qs.take k)→∀ q∈qs.take k,∃ t∈jg qs k,q∈t
 | 0,_,nf,_,_=>absurd (l8 (by simp)) nf
 | k+1,h,nf,q,hq=>by
   have st:=s.take (k+1)
   rw [k9 (by omega)] at st nf hq
   have so:=st.old
   have put:∀ a b,aT (qs.take k) a b→tw a b (uv qs k) < 0→(q=a∨q=b∨q=uv qs k)→∃ t∈jg qs (k+1),q∈t:=fun a b h1 h2 e=>
    ⟨yE (uv qs k) [a,b],List.mem_append_right _ (List.mem_map.mpr ⟨[a,b],(aY so).mpr ⟨h1,h2⟩,rfl⟩),IC h2 e⟩
   rcases dm hq with hq | rfl
   ·by_cases fl:Flat (qs.take k)
    ·obtain ⟨r,hr,ne⟩:∃ r∈qs.take k,r≠q:=by
      apply Classical.byContradiction
      intro no
      refine nf (yC ?_)
      have:=oW (l:=qs.take k) (m:=[q]) (so.1.imp fun h=>rE h) (fun x hx=>by
       apply Classical.byContradiction
       intro z
       exact no ⟨x,hx,fun e=>z (by rw [e];simp)⟩)
      rw [List.length_append]
      simp at this ⊢
      omega
     obtain ⟨c,hc,nc,_,OM⟩:=wg so hq hr ne
     have sd:aT (qs.take k) q c:=k7 so fl hq hc (Ne.symm nc) fun z hz w=>OM z hz w
     have nz:tw q c (uv qs k)≠0:=fun z=>nf (k6 (Ne.symm nc) fun r hr=>by
      rcases dm hr with hr | rfl
      ·exact fl q hq c hc r hr
      ·exact z)
     rcases Int.lt_or_lt_of_ne nz with z | z
     ·exact put q c sd z (.inl rfl)
     ·exact put c q (vh so fl sd) (by have:=cM q c (uv qs k);omega) (.inr (.inl rfl))
    ·obtain ⟨t,ht,m⟩:=sy s k (by omega) fl q hq
     exact ⟨t,List.mem_append_left _ ht,m⟩
   ·obtain ⟨a,b,h1,h2⟩:=vf st nf
    exact put a b h1 h2 (.inr (.inr rfl))
theorem sub_len {α:Type} [DecidableEq α] {l m:List α} (nd:l.Nodup) (sub:∀ x∈l,x∈m):l.length≤m.length:=by
 induction l generalizing m with
 | nil=>simp
 | cons a l ih=>
   obtain ⟨h1,h2⟩:=List.nodup_cons.mp nd
   have ma:=sub a (List.mem_cons_self ..)
   have:=ih (m:=m.erase a) h2 fun x hx=>(List.mem_erase_of_ne (show x≠a from fun e=>h1 (e▸hx))).mpr (sub x (List.mem_cons_of_mem _ hx))
   rw [List.length_erase_of_mem ma] at this
   have:0 < m.length:=List.length_pos_of_mem ma
   rw [List.length_cons]
   omega
theorem split_len {α:Type} (f:α→Bool):∀ l:List α,l.length=(l.filter f).length+(l.filter (fun v=>!f v)).length
 | []=>rfl
 | a :: l=>by
   have ih:=split_len f l
   rw [List.filter_cons,List.filter_cons,List.length_cons]
   cases f a with
   | true=>simp;omega
   | false=>simp;omega
theorem BU {Q:List Pl} {p:Pl} (s:cY (Q ++ [p])):(SL (Q ++ [p])).length+(bK Q p).length≤(SL Q).length+2:=by
 have so:=s.old
 obtain ⟨I,lI,hI⟩:∃ I:List (List Pl),I.length≤1∧∀ u,aT (Q ++ [p]) u p→[u,p]∈I:=by
  by_cases h:∃ u,aT (Q ++ [p]) u p
  ·obtain ⟨u,hu⟩:=h
   exact ⟨[[u,p]],by simp,fun v hv=>by rw [FF s hv hu];simp⟩
  ·exact ⟨[],by simp,fun v hv=>absurd ⟨v,hv⟩ h⟩
 obtain ⟨O,lO,hO⟩:∃ O:List (List Pl),O.length≤1∧∀ u,aT (Q ++ [p]) p u→[p,u]∈O:=by
  by_cases h:∃ u,aT (Q ++ [p]) p u
  ·obtain ⟨u,hu⟩:=h
   exact ⟨[[p,u]],by simp,fun v hv=>by rw [JT s hv hu];simp⟩
  ·exact ⟨[],by simp,fun v hv=>absurd ⟨v,hv⟩ h⟩
 have sp:=split_len (zI p) (SL Q)
 have:=sub_len (l:=SL (Q ++ [p])) (m:=(SL Q).filter (fun v=>!zI p v) ++ (I ++ O)) (j7 s) (fun w hw=>by
  obtain ⟨a,b,rfl⟩:=mh hw
  have sd:=(cG s).mp hw
  rcases dm sd.1 with ma | rfl
  ·rcases dm sd.2.1 with mb | rfl
   ·obtain ⟨h1,h2⟩:=(gC s ma mb).mp sd
    refine List.mem_append_left _ (List.mem_filter.mpr ⟨(cG so).mpr h1,?_⟩)
    show (!decide (tw a b p < 0))=true
    rw [decide_eq_false (by omega)]
    rfl
   ·exact List.mem_append_right _ (List.mem_append_left _ (hI a sd))
  ·exact List.mem_append_right _ (List.mem_append_right _ (hO b sd)))
 rw [List.length_append,List.length_append] at this
 unfold bK
 omega
theorem wo {qs:List Pl} (s:cY qs):∀ k,k≤qs.length→(jg qs k).length+(SL (qs.take k)).length≤2*k
 | 0,_=>by rw [j6 (by simp)];simp [jg]
 | k+1,h=>by
   have st:=s.take (k+1)
   have ih:=wo s k (by omega)
   rw [k9 (by omega)] at st ⊢
   have:=BU st
   show (jg qs k ++ _).length+_≤_
   rw [List.length_append,List.length_map]
   omega
theorem wu {qs:List Pl} (s:cY qs):∀ k,k≤qs.length→∀ t∈jg qs k,nF qs t
 | 0,_,t,ht=>by cases ht
 | k+1,h,t,ht=>by
   rcases List.mem_append.mp ht with ht | ht
   ·exact wu s k (by omega) t ht
   ·obtain ⟨w,hw,rfl⟩:=List.mem_map.mp ht
    obtain ⟨a,b,rfl⟩:=bV hw
    obtain ⟨h1,h2⟩:=(aY (s.take k)).mp hw
    obtain ⟨h3,h4⟩:=rQ (a:=a) (b:=b) (c:=uv qs k) (by omega)
    refine ⟨h3,fun q hq=>?_⟩
    have:=h4.mem_iff.mp hq
    simp only [List.mem_cons,List.not_mem_nil,or_false] at this
    rcases this with rfl | rfl | rfl
    ·exact List.mem_of_mem_take h1.1
    ·exact List.mem_of_mem_take h1.2.1
    ·unfold uv
     rw [List.getD_eq_getElem?_getD,List.getElem?_eq_getElem (by omega)]
     exact List.getElem_mem _
theorem wm.perm {Q:List Pl} {D D':List (List Pl)} (c:wm Q D) (e:D'.Perm D):wm Q D' where
 nd:=e.nodup_iff.mpr c.nd
 rW:=fun w hw=>c.rW w (e.mem_iff.mp hw)
 bare:=fun a b h1 h2=>c.bare a b (e.mem_iff.mp h1) fun z=>h2 (e.mem_iff.mpr z)
 mw:=fun a b h1 h2=>c.mw a b h1 (e.mem_iff.mp h2)
 has:=fun a b h=>(c.has a b h).imp id fun z=>e.mem_iff.mpr z
end L3
namespace L3
def UY (a b c:Pl):Prop:=aI (lo a b) c∧aI c (hi a b)∧tw a b c=0
instance (a b c:Pl):Decidable (UY a b c):=inferInstanceAs (Decidable (_∧_))
def UZ (a b c d:Pl):Prop:=(tw a b c).sign*(tw a b d).sign= -1∧(tw c d a).sign*(tw c d b).sign= -1
instance (a b c d:Pl):Decidable (UZ a b c d):=inferInstanceAs (Decidable (_∧_))
end L3
namespace L3
open PySem L2
theorem Df {M:Mp} {a b:Addr} {o u:MO} (h:a≠b):ay (ay M a o) b u=ay (ay M b u) a o:=by
 funext c
 unfold ay
 by_cases h1:c=b
 ·subst h1
  rw [if_pos rfl,if_neg (Ne.symm h),if_pos rfl]
 ·rw [if_neg h1]
  by_cases h2:c=a
  ·subst h2
   rw [if_pos rfl,if_pos rfl]
  ·rw [if_neg h2,if_neg h2,if_neg h1]
theorem Le.put2 {M M':Mp} {p:Addr} {o:MO} (h:Le M M'):Le (ay M p o) (ay M' p o):=fun c u e=>by
 unfold ay at *
 by_cases k:c=p
 ·rw [if_pos k] at e ⊢;exact e
 ·rw [if_neg k] at e ⊢;exact h _ _ e
theorem yF {ns:List Int} {k m:Int} (hb:∀ z∈ns,Att.BE z) (h0:0≤k) (hm:0≤m):∃ zs:List Int,(∀ z∈zs,Att.BE z)∧(zs.length:Int)≤m∧zs.length≤ns.length∧cutD (ns.map L3.D.int) (some k) (some (k+m))=zs.map L3.D.int:=by
 obtain ⟨i,rfl⟩:∃ i:Nat,k=(i:Int):=⟨k.toNat,by omega⟩
 obtain ⟨j,rfl⟩:∃ j:Nat,m=(j:Int):=⟨m.toNat,by omega⟩
 have e:((i:Int)+(j:Int))=((i+j:Nat):Int):=by omega
 refine ⟨(ns.drop (min i ns.length)).take (min (i+j) ns.length - min i ns.length),fun z hz=>hb z (List.mem_of_mem_drop (List.mem_of_mem_take hz)),?_,?_,?_⟩
 ·rw [List.length_take,List.length_drop]
  omega
 ·rw [List.length_take,List.length_drop]
  omega
 ·unfold cutD
  rw [e,HT.qG,HT.qG,List.length_map,List.map_take,List.map_drop]
end L3
namespace PySem.SetTable
def dg:Nat→SetTable→Probe→Probe
 | 0,_,p=>p
 | k+1,t,p=>dg k t (t.advance p)
theorem jh (t:SetTable):∀ (a b:Nat) (p:Probe),dg (a+b) t p=dg b t (dg a t p)
 | 0,b,p=>by rw [Nat.zero_add];rfl
 | a+1,b,p=>by
   rw [show a+1+b=(a+b)+1 by omega]
   exact jh t a b (t.advance p)
theorem vn (t:SetTable) (p:Probe):(t.advance p).dummy=p.dummy:=by
 unfold advance
 split <;> rfl
theorem sA (t:SetTable):∀ (k:Nat) (p:Probe),(dg k t p).dummy=p.dummy
 | 0,_=>rfl
 | k+1,p=>(sA t k (t.advance p)).trans (vn t p)
theorem sC {t:SetTable} (h:t.dummies= #[]) (j:Nat):t.slot j= .empty∨∃ i,t.slot j= .live i∧t.place[i]?=some j:=by
 unfold slot
 by_cases c:(t.place[below t.place j]? == some j)=true
 ·rw [if_pos c]
  exact .inr ⟨_,rfl,by simpa using c⟩
 ·rw [if_neg c,if_neg (by rw [h];unfold has;simp)]
  exact .inl rfl
theorem Dg {t:SetTable} (h:t.dummies= #[]) {j:Nat} (n:∀ i:Nat,t.place[i]?≠some j):t.slot j= .empty:=by
 rcases sC h j with e | ⟨i,_,e⟩
 ·exact e
 ·exact absurd e (n i)
theorem len_sub {α:Type} [DecidableEq α] {l m:List α} (nd:l.Nodup) (sub:∀ x∈l,x∈m):l.length≤m.length:=by
 induction l generalizing m with
 | nil=>simp
 | cons a l ih=>
   obtain ⟨h1,h2⟩:=List.nodup_cons.mp nd
   have ma:=sub a (List.mem_cons_self ..)
   have:=ih (m:=m.erase a) h2 fun x hx=>(List.mem_erase_of_ne (show x≠a from fun e=>h1 (e▸hx))).mpr (sub x (List.mem_cons_of_mem _ hx))
   rw [List.length_erase_of_mem ma] at this
   have:0 < m.length:=List.length_pos_of_mem ma
   rw [List.length_cons]
   omega
theorem Dh {t:SetTable} (h:t.place.size≤t.mask):∃ j,j≤t.mask∧∀ i:Nat,t.place[i]?≠some j:=by
 apply Classical.byContradiction
 intro c
 have all:∀ j∈List.range (t.mask+1),j∈t.place.toList:=fun j hj=>by
  have hj:=List.mem_range.mp hj
  apply Classical.byContradiction
  intro n
  refine c ⟨j,by omega,fun i e=>n ?_⟩
  exact Array.mem_toList_iff.mpr (Array.mem_of_getElem? e)
 have:=len_sub List.nodup_range all
 rw [List.length_range,Array.length_toList] at this
 omega
def G1 (t:SetTable) (p:Probe):Probe:={ j:=(leap t.mask p.i p.perturb).1,more:=runEnd t.mask (leap t.mask p.i p.perturb).1 - (leap t.mask p.i p.perturb).1,i:=(leap t.mask p.i p.perturb).1,perturb:=(leap t.mask p.i p.perturb).2,dummy:=p.dummy }
theorem Aw (t:SetTable):∀ (n:Nat) (p:Probe),p.more=n→dg (n+1) t p=G1 t p
 | 0,p,h=>by
   show t.advance p=G1 t p
   unfold advance
   rw [if_neg (by omega)]
   rfl
 | n+1,p,h=>by
   have e:t.advance p= { p with j:=p.j+1,more:=p.more - 1 }:=by
    unfold advance
    rw [if_pos (by omega)]
   show dg (n+1) t (t.advance p)=_
   rw [Aw t n (t.advance p) (by rw [e];show p.more - 1=n;omega),e]
   rfl
theorem Ax (mask i:Nat):runEnd mask i - i≤9:=by
 unfold runEnd
 split <;> omega
def RM:Nat→SetTable→Probe→Probe
 | 0,_,p=>p
 | m+1,t,p=>RM m t (G1 t p)
theorem BV (t:SetTable):∀ (m:Nat) (p:Probe),p.more≤9→∃ k,k≤10*m∧dg k t p=RM m t p
 | 0,p,_=>⟨0,Nat.le_refl _,rfl⟩
 | m+1,p,h=>by
   obtain ⟨k,h1,h2⟩:=BV t m (G1 t p) (Ax _ _)
   refine ⟨p.more+1+k,by omega,?_⟩
   rw [jh,Aw t p.more p rfl,h2]
   rfl
def dW (mask:Nat):Nat→Nat→Nat→Nat ×Nat
 | 0,i,q=>(i,q)
 | m+1,i,q=>dW mask m (leap mask i q).1 (leap mask i q).2
theorem FJ (t:SetTable):∀ (m:Nat) (p:Probe),p.j=p.i→(RM m t p).j=(dW t.mask m p.i p.perturb).1
 | 0,p,h=>h
 | m+1,p,h=>FJ t m (G1 t p) rfl
theorem iS (mask:Nat):∀ (a b i q:Nat),dW mask (a+b) i q=dW mask b (dW mask a i q).1 (dW mask a i q).2
 | 0,b,i,q=>by rw [Nat.zero_add];rfl
 | a+1,b,i,q=>by
   rw [show a+1+b=(a+b)+1 by omega]
   exact iS mask a b _ _
theorem wz (mask:Nat):∀ (m i q:Nat),(dW mask m i q).2=q / 32 ^ m
 | 0,i,q=>by show q=q / 1;rw [Nat.div_one]
 | m+1,i,q=>by
   show (dW mask m _ (q / 32)).2=_
   rw [wz mask m,Nat.div_div_eq_div_mul,Nat.pow_succ,Nat.mul_comm]
theorem yG (mask:Nat):∀ (m i q:Nat),(dW mask (m+1) i q).1≤mask
 | 0,i,q=>Nat.le_of_lt_succ (Nat.mod_lt _ (Nat.succ_pos _))
 | m+1,i,q=>yG mask m _ _
def Round (mask:Nat):Prop:=(∀ j,j≤mask→∃ m,m≤mask∧(dW mask m 0 0).1=j)∧(dW mask (mask+1) 0 0).1=0
theorem Ay (mask m i:Nat):(dW mask m i 0).2=0:=by rw [wz,Nat.zero_div]
theorem Az {mask:Nat} (R:Round mask) {i j:Nat} (hi:i≤mask) (hj:j≤mask):∃ m,m≤mask+1∧(dW mask m i 0).1=j:=by
 obtain ⟨R1,R2⟩:=R
 obtain ⟨a,ha,ea⟩:=R1 i hi
 obtain ⟨b,hb,eb⟩:=R1 j hj
 by_cases c:a≤b
 ·refine ⟨b - a,by omega,?_⟩
  have:=iS mask a (b - a) 0 0
  rw [Ay,ea,show a+(b - a)=b by omega] at this
  rw [← this]
  exact eb
 ·refine ⟨mask+1+b - a,by omega,?_⟩
  have h1:=iS mask a (mask+1+b - a) 0 0
  rw [Ay,ea,show a+(mask+1+b - a)=mask+1+b by omega] at h1
  have h2:=iS mask (mask+1) b 0 0
  rw [Ay,R2] at h2
  rw [← h1,h2]
  exact eb
theorem BW (h:Int):bits h < 2 ^ 64:=by
 unfold bits
 have h1:=Int.emod_nonneg h (show (2 ^ 64:Int)≠0 by decide)
 have h2:=Int.emod_lt_of_pos h (show (0:Int) < 2 ^ 64 by decide)
 omega
theorem yH {mask:Nat} (R:Round mask) {i q j:Nat} (hq:q < 2 ^ 64) (hj:j≤mask):∃ m,m≤mask+14∧(dW mask m i q).1=j:=by
 have z:(dW mask 13 i q).2=0:=by
  rw [wz]
  exact Nat.div_eq_of_lt (Nat.lt_of_lt_of_le hq (by decide))
 obtain ⟨m,hm,e⟩:=Az R (yG mask 12 i q) hj
 refine ⟨13+m,by omega,?_⟩
 rw [iS,z]
 exact e
def o4 (mask:Nat):Prop:=mask=7∨mask=31∨mask=127∨mask=511
def RN (mask:Nat):Nat→Nat→List Nat
 | 0,_=>[]
 | n+1,i=>i :: RN mask n ((i*5+1) % (mask+1))
theorem FL (mask:Nat):∀ (n i j:Nat),j∈RN mask n i→∃ m,m < n∧(dW mask m i 0).1=j
 | 0,_,_,h=>by cases h
 | n+1,i,j,h=>by
   rcases List.mem_cons.mp h with rfl | h
   ·exact ⟨0,by omega,rfl⟩
   ·obtain ⟨m,hm,e⟩:=FL mask n _ j h
    exact ⟨m+1,by omega,e⟩
theorem nH {mask:Nat} (h:(List.range (mask+1)).all (fun j=>(RN mask (mask+1) 0).contains j)=true) (h2:((dW mask (mask+1) 0 0).1 == 0)=true):Round mask:=by
 refine ⟨fun j hj=>?_,by simpa using h2⟩
 have:=List.all_eq_true.mp h j (List.mem_range.mpr (by omega))
 obtain ⟨m,hm,e⟩:=FL mask (mask+1) 0 j (List.contains_iff_mem.mp this)
 exact ⟨m,by omega,e⟩
theorem o4.round {mask:Nat} (h:o4 mask):Round mask:=by
 rcases h with rfl | rfl | rfl | rfl
 ·exact nH (by decide +kernel) (by decide +kernel)
 ·exact nH (by decide +kernel) (by decide +kernel)
 ·exact nH (by decide +kernel) (by decide +kernel)
 ·exact nH (by decide +kernel) (by decide +kernel)
def Good (t:SetTable) (n:Nat):Prop:=t.place.size=n∧t.dummies= #[]∧o4 t.mask∧n*5 < t.mask*3
theorem Good.fits {t:SetTable} {n:Nat} (g:Good t n):t.fits n=true:=by
 obtain ⟨h1,h2,h3,h4⟩:=g
 unfold SetTable.fits fill
 rw [h1,h2]
 simp
 omega
theorem FN {t:SetTable} {n:Nat} (g:Good t n) (h:Int):∃ k,k < 10*turns t.mask∧t.slot (dg k t (t.probeStart h)).j= .empty:=by
 obtain ⟨h1,h2,h3,h4⟩:=g
 obtain ⟨j,hj,nj⟩:=Dh (t:=t) (by omega)
 obtain ⟨m,hm,e⟩:=yH h3.round (i:=(t.probeStart h).i) (q:=(t.probeStart h).perturb) (BW h) hj
 obtain ⟨k,hk,e2⟩:=BV t m (t.probeStart h) (Ax _ _)
 refine ⟨k,by unfold turns;omega,?_⟩
 rw [e2,FJ t m _ rfl,e]
 exact Dg h2 nj
theorem Di {mask:Nat} {owner:Array (Option Nat)} {j0:Nat} (h0:(owner.getD j0 (some 0)).isNone=true):∀ (m fuel i q:Nat),m < fuel→(dW mask m i q).1=j0→∃ j,layClean.free mask owner fuel i q=some j∧(owner.getD j (some 0)).isNone=true:=by
 intro m
 induction m with
 | zero=>
   intro fuel i q hf e
   cases fuel with
   | zero=>omega
   | succ f=>
     have e:i=j0:=e
     unfold layClean.free
     split
     ·rename_i k hk
      exact ⟨i+k,rfl,List.find?_some (p:=fun k=>(owner.getD (i+k) (some 0)).isNone) hk⟩
     ·rename_i hk
      have:=List.find?_eq_none.mp hk 0 (List.mem_range.mpr (by unfold runEnd;split <;> omega))
      rw [Nat.add_zero,e] at this
      exact absurd h0 this
 | succ m ih=>
   intro fuel i q hf e
   cases fuel with
   | zero=>omega
   | succ f=>
     unfold layClean.free
     split
     ·rename_i k hk
      exact ⟨i+k,rfl,List.find?_some (p:=fun k=>(owner.getD (i+k) (some 0)).isNone) hk⟩
     ·exact ih f _ _ (by omega) e
theorem AA {mask:Nat} (R:Round mask) {owner:Array (Option Nat)} {j0:Nat} (hj:j0≤mask) (h0:(owner.getD j0 (some 0)).isNone=true) (h:Int):∃ j,layClean.free mask owner (turns mask) (bits h % (mask+1)) (bits h)=some j∧(owner.getD j (some 0)).isNone=true:=by
 obtain ⟨m,hm,e⟩:=yH R (i:=bits h % (mask+1)) (q:=bits h) (BW h) hj
 exact Di h0 m _ _ _ (by unfold turns;omega) e
def live (mask:Nat) (owner:Array (Option Nat)):List (Nat ×Nat):=(List.range (mask+1)).filterMap fun j=>(owner.getD j none).map (j,·)
theorem FO {f g:Nat→Bool} {j0:Nat} (hne:∀ j,j≠j0→f j=g j) (hf:f j0=false) (hg:g j0=true):∀ n,(List.range n).countP g=(List.range n).countP f+(if j0 < n then 1 else 0)
 | 0=>by simp
 | n+1=>by
   rw [List.range_succ,List.countP_append,List.countP_append,FO hne hf hg n]
   by_cases e:n=j0
   ·subst e
    simp [hf,hg]
   ·rw [show List.countP g [n]=List.countP f [n] by simp [List.countP_cons,hne n e]]
    by_cases c:j0 < n
    ·rw [if_pos c,if_pos (by omega)]
     omega
    ·rw [if_neg c,if_neg (by omega)]
     omega
theorem sD (mask:Nat) (owner:Array (Option Nat)):(live mask owner).length=(List.range (mask+1)).countP fun j=>(owner.getD j none).isSome:=by
 unfold live
 induction List.range (mask+1) with
 | nil=>rfl
 | cons j l ih=>
   rw [List.filterMap_cons,List.countP_cons]
   cases e:owner.getD j none with
   | none=>simpa using ih
   | some v=>simpa using ih
def Own (mask:Nat) (owner:Array (Option Nat)) (k:Nat):Prop:=owner.size=mask+1∧(live mask owner).length=k∧∀ (j v:Nat),owner[j]?=some (some v)→v < k
theorem ID (mask:Nat):Own mask (Array.replicate (mask+1) none) 0:=by
 refine ⟨by simp,?_,fun j v e=>?_⟩
 ·rw [sD,List.countP_eq_zero]
  intro j hj
  have hj:=List.mem_range.mp hj
  simp [Array.getD,hj]
 ·rw [Array.getElem?_replicate] at e
  split at e <;> cases e
theorem FP {mask k:Nat} {owner:Array (Option Nat)} (o:Own mask owner k) (hk:k≤mask):∃ j,j≤mask∧(owner.getD j (some 0)).isNone=true:=by
 obtain ⟨o1,o2,_⟩:=o
 apply Classical.byContradiction
 intro c
 have:(List.range (mask+1)).countP (fun j=>(owner.getD j none).isSome)=(List.range (mask+1)).length:=by
  rw [List.countP_eq_length]
  intro j hj
  have hj:=List.mem_range.mp hj
  have lt:j < owner.size:=by omega
  have n:=fun z=>c ⟨j,by omega,z⟩
  simp only [Array.getD,lt,dite_true] at n ⊢
  cases e:owner.getInternal j lt with
  | none=>rw [e] at n;exact absurd rfl n
  | some v=>rfl
 rw [← sD,o2,List.length_range] at this
 omega
theorem IE {mask k j:Nat} {owner:Array (Option Nat)} (o:Own mask owner k) (hj:(owner.getD j (some 0)).isNone=true):Own mask (owner.setIfInBounds j (some k)) (k+1):=by
 obtain ⟨o1,o2,o3⟩:=o
 have lt:j < owner.size:=by
  apply Classical.byContradiction
  intro c
  simp [Array.getD,c] at hj
 have en:owner.getD j none=none:=by
  simp only [Array.getD,lt,dite_true] at hj ⊢
  cases e:owner.getInternal j lt with
  | none=>rfl
  | some v=>rw [e] at hj;cases hj
 refine ⟨by simp [o1],?_,fun i v e=>?_⟩
 ·rw [sD] at o2 ⊢
  rw [FO (f:=fun i=>(owner.getD i none).isSome) (j0:=j) (fun i hi=>?_) (by simp only [en];rfl) ?_ (mask+1),o2,if_pos (by omega)]
  ·show ((owner.setIfInBounds j (some k)).getD j none).isSome=true
   rw [Array.getD_eq_getD_getElem?,Array.getElem?_setIfInBounds_self_of_lt lt]
   rfl
  ·show (owner.getD i none).isSome=((owner.setIfInBounds j (some k)).getD i none).isSome
   rw [Array.getD_eq_getD_getElem?,Array.getD_eq_getD_getElem?,Array.getElem?_setIfInBounds_ne (Ne.symm hi)]
 ·by_cases c:j=i
  ·subst c
   rw [Array.getElem?_setIfInBounds_self_of_lt lt] at e
   cases e
   omega
  ·rw [Array.getElem?_setIfInBounds_ne c] at e
   have:=o3 i v e
   omega
end PySem.SetTable
namespace PySem
open SetTable
structure cE (prog:Program) (w:World) (κ:Type) where
 is:Heap→κ→Addr→Prop
 hash:κ→Int
 draws:κ→Nat
 room:Around→Prop
 typ:∀ {s:Shared} {k:κ} {a:Addr},is s.heap k a→s.TypeIs (.ref a) "tuple"
 keeps:∀ {h h':Heap} {k:κ} {a:Addr},is h k a→(∀ b o,h.get? b=some o→o.cls= .type "tuple"→h'.get? b=some o)→is h' k a
 pyHash:∀ {A:Around} {E:Value→Shared→Prop} {s:Shared} {k:κ} {a:Addr} {Q:Int→Shared→Prop},room A→is s.heap k a→Q (hash k) { s with toks:=s.toks+draws k }→wpAny (model prog w) A (pyHash (.ref a)) Q E s
 other:∀ {A:Around} {E:Value→Shared→Prop} {s:Shared} {k l:κ} {a b:Addr} {Q:Bool→Shared→Prop},room A→is s.heap k a→is s.heap l b→k≠l→Q false s→wpAny (model prog w) A (eqBool (.ref a) (.ref b)) Q E s
 quiet:∀ {A:Around} {E:Value→Shared→Prop} {s:Shared} {k:κ} {a:Addr} {Q:Bool→Shared→Prop},is s.heap k a→Q true s→wpAny (model prog w) A (eqIsQuiet 8 (.ref a)) Q E s
 lA:∀ {A:Around} {E:Value→Shared→Prop} {s:Shared} {k:κ} {a:Addr} {Q:Bool→Shared→Prop},is s.heap k a→Q false s→wpAny (model prog w) A (ofAClassStatement 8 (.ref a)) Q E s
 yI:∀ {A:Around} {E:Value→Shared→Prop} {s:Shared} {k:κ} {a:Addr} {Q:Bool→Shared→Prop},is s.heap k a→Q true s→wpAny (model prog w) A (hashByValue 8 (.ref a)) Q E s
section
variable {prog:Program} {w:World} {κ:Type} {T:cE prog w κ} {A:Around} {E:Value→Shared→Prop} {s:Shared}
theorem FQ {k:κ} {a:Addr} {Q:Bool→Shared→Prop} (hx:T.is s.heap k a) (q:Q false s) (ys:List Value) (hy:∀ y∈ys,∃ b l,y= .ref b∧T.is s.heap l b):wpAny (model prog w) A (searchCouldBeSeen (.ref a) ys) Q E s:=by
 unfold searchCouldBeSeen
 refine wpAny_bind ?_
 refine wpAny_forIn_list _ (fun rest r s'=>r.1=none∧s'=s∧∀ y∈rest,∃ b l,y= .ref b∧T.is s.heap l b) _ ?_ ?_ _ _ ⟨rfl,rfl,hy⟩
 ·rintro y rest r s' ⟨hr,rfl,hall⟩
  obtain ⟨b,l,rfl,hb⟩:=hall y List.mem_cons_self
  dsimp only
  refine wpAny_ite ?_
  split
  ·exact wpAny_pure ⟨rfl,rfl,fun y hy=>hall y (List.mem_cons_of_mem _ hy)⟩
  ·refine wpAny_bind (T.quiet hx ?_)
   simp only [Bool.not_true,Bool.false_eq_true,if_false]
   refine wpAny_bind (T.quiet hb ?_)
   simp only [Bool.not_true,Bool.false_eq_true,if_false]
   refine wpAny_bind (T.lA hx ?_)
   simp only [Bool.false_eq_true,if_false]
   refine wpAny_bind (T.lA hb ?_)
   simp only [Bool.false_eq_true,if_false]
   exact wpAny_pure ⟨rfl,rfl,fun y hy=>hall y (List.mem_cons_of_mem _ hy)⟩
 ·rintro ⟨r1,r2⟩ s' ⟨hr,rfl,_⟩
  simp only at hr
  subst hr
  exact wpAny_pure q
end
end PySem
namespace PySem
open SetTable
section
variable {prog:Program} {w:World} {κ:Type} {T:cE prog w κ} {A:Around} {R:Result→Shared→Prop} {I:Addr} {fp wr:List Addr} {G:Array GenState→Array GenState→Prop} {n:Nat} {P:Nat→Value→Prop} {St:Nat→Shared→Prop}
end
section
variable {prog:Program} {w:World} {κ:Type} {T:cE prog w κ} {A:Around} {E:Value→Shared→Prop} {s:Shared}
abbrev qk (led:Bool):Obj:={ cls:= .type "set",dict:=none,data:= .set #[] 0 (.fresh 0 0 led) }
end
end PySem
namespace PySem
open SetTable
section
variable {prog:Program} {w:World} {A:Around} {E:Value→Shared→Prop} {s:Shared}
theorem items_int {ks:List Int} {vs:List Value} (h:ItemsAre (intKind prog w) ks vs):∀ v∈vs,∃ i t,v= .int i t:=by
 induction h with
 | nil=>intro v hv;cases hv
 | cons h1 _ ih=>
   intro v hv
   rcases List.mem_cons.mp hv with rfl | hv
   ·obtain ⟨t,e⟩:=Value.isInt_shape h1
    exact ⟨_,t,e⟩
   ·exact ih v hv
theorem yJ {k:List Int} {a:Addr} {Q:Bool→Shared→Prop} (hx:IsTupleKey (intKind prog w) s.heap k a) (q:Q false s):wpAny (model prog w) A (ofAClassStatement 8 (.ref a)) Q E s:=by
 have hT:=hx.typeIs
 obtain ⟨o,items,n,ho,_,hd,hi⟩:=hx
 unfold ofAClassStatement
 refine wpAny_bind (wpAny_typeOf hT ?_)
 have e1:("tuple" == "tuple")=true:=by decide
 simp only [e1,if_true]
 refine wpAny_bind (wpAny_pure ?_)
 simp only [Bool.not_true,Bool.false_eq_true,if_false]
 refine wpAny_bind (wpAny_seqItems ho hd ?_)
 dsimp only
 refine wpAny_bind ?_
 rw [← Array.forIn_toList]
 refine wpAny_forIn_list _ (fun rest r s'=>r.1=none∧s'=s∧∀ v∈rest,∃ i t,v=Value.int i t) _ ?_ ?_ _ _ ⟨rfl,rfl,items_int hi⟩
 ·rintro v rest r s' ⟨hr,rfl,hall⟩
  obtain ⟨i,t,rfl⟩:=hall v List.mem_cons_self
  refine wpAny_bind (wpAny_pure ?_)
  simp only [Bool.false_eq_true,if_false]
  exact wpAny_pure ⟨rfl,rfl,fun y hy=>hall y (List.mem_cons_of_mem _ hy)⟩
 ·rintro ⟨r1,r2⟩ s' ⟨hr,rfl,_⟩
  simp only at hr
  subst hr
  exact wpAny_pure q
theorem Dj {k:List Int} {a:Addr} {Q:Bool→Shared→Prop} (hx:IsTupleKey (intKind prog w) s.heap k a) (q:Q true s):wpAny (model prog w) A (hashByValue 8 (.ref a)) Q E s:=by
 have hT:=hx.typeIs
 obtain ⟨o,items,n,ho,_,hd,hi⟩:=hx
 unfold hashByValue
 refine wpAny_bind (wpAny_specialOf hT F.slot_tuple_hash.lookup ?_)
 dsimp only
 refine wpAny_bind (wpAny_seqItems ho hd ?_)
 refine wpAny_bind ?_
 show wpAny _ _ (forIn items _ _) _ _ s
 rw [← Array.forIn_toList]
 refine wpAny_forIn_list _ (fun rest r s'=>r.1=none∧s'=s∧∀ v∈rest,∃ i t,v=Value.int i t) _ ?_ ?_ _ _ ⟨rfl,rfl,items_int hi⟩
 ·rintro v rest r s' ⟨hr,rfl,hall⟩
  obtain ⟨i,t,rfl⟩:=hall v List.mem_cons_self
  refine wpAny_bind (wpAny_pure ?_)
  simp only [Bool.not_true,Bool.false_eq_true,if_false]
  exact wpAny_pure ⟨rfl,rfl,fun y hy=>hall y (List.mem_cons_of_mem _ hy)⟩
 ·rintro ⟨r1,r2⟩ s' ⟨hr,rfl,_⟩
  simp only at hr
  subst hr
  exact wpAny_pure q
end
def Lz (prog:Program) (w:World):cE prog w (List Int) where
 is:=IsTupleKey (intKind prog w)
 hash:=tupleKeyHash (intKind prog w)
 draws:=fun ks=>ks.length+1
 room:=fun A=>A.units < cLine
 typ:=fun x=>x.typeIs
 keeps:=fun ⟨o,items,n,ho,hc,hd,hi⟩ k=>⟨o,items,n,k _ o ho hc,hc,hd,hi⟩
 pyHash:=fun hu hk h=>wpAny_pyHash_tuple hu hk h
 other:=fun hu hx hy ne h=>wpAny_eqBool_tuple hu hx hy (by rw [decide_eq_false ne];exact h)
 quiet:=fun hk h=>wpAny_eqIsQuiet_tuple hk h
 lA:=fun hk h=>yJ hk h
 yI:=fun hk h=>Dj hk h
end PySem
namespace L3
open PySem PySem.Spec PyProof.Rows L2
theorem IF {P:Program} {w:World} {h:Heap} {u:Value} {p:Pl} (a:lE h u p):∃ b,u= .ref b∧IsTupleKey (intKind P w) h [p.x,p.y] b:=by
 obtain ⟨l,its,rfl,t,n⟩:=a.tup
 obtain ⟨o,ho,hc,m,hd⟩:=t
 refine ⟨l,rfl,o,its,m,ho,hc,hd,?_⟩
 revert n
 generalize its.toList=vs
 intro n
 cases n with
 | cons i t n1=>
   cases n1 with
   | cons j t2 n2=>
     cases n2
     exact .cons (intKind_is _ _ _ _) (.cons (intKind_is _ _ _ _) .nil)
section
variable {X:Cx} {pos:Pos}
theorem Dk:bootBuiltins "set" =some (.type "set"):=by decide +kernel
end
end L3
namespace PySem
open SetTable
section
variable (prog:Program) (w:World)
inductive bB (h:Heap):List (List Int)→List Value→Prop
 | nil:bB h [] []
 | cons {k:List Int} {b:Addr} {ks:List (List Int)} {vs:List Value}:IsTupleKey (intKind prog w) h k b→bB h ks vs→bB h (k :: ks) (.ref b :: vs)
def bL (h:Heap) (ks:List (List Int)) (a:Addr):Prop:= ∃ o items n,h.get? a=some o∧o.cls= .type "tuple"∧o.data= .seq items n∧bB prog w h ks items.toList
end
section
variable {prog:Program} {w:World}
theorem bB.keeps {h h':Heap} {ks:List (List Int)} {vs:List Value} (x:bB prog w h ks vs) (k:∀ b o,h.get? b=some o→o.cls= .type "tuple"→h'.get? b=some o):bB prog w h' ks vs:=by
 induction x with
 | nil=>exact .nil
 | cons a _ ih=>exact .cons ((Lz prog w).keeps a k) ih
theorem bL.typ {s:Shared} {ks:List (List Int)} {a:Addr} (x:bL prog w s.heap ks a):s.TypeIs (.ref a) "tuple" :=let ⟨o,_,_,ho,hc,_⟩:=x;⟨o,ho,hc⟩
variable {A:Around} {E:Value→Shared→Prop} {s:Shared}
def wA (ks:List (List Int)):Nat:=(ks.map fun k=>k.length+1).sum+1
def BX (prog:Program) (w:World) (ks:List (List Int)):Int:=reduceHash (Builtin.Tuple.tupleHashOf (ks.map (tupleKeyHash (intKind prog w))))
theorem vo {ks:List (List Int)} {a:Addr} {Q:Int→Shared→Prop} (hu:A.units+8 < cLine) (hk:bL prog w s.heap ks a) (h:Q (BX prog w ks) { s with toks:=s.toks+wA ks }) :
 wpAny (model prog w) A (pyHash (.ref a)) Q E s:=by
 have hT:=hk.typ
 obtain ⟨o,items,n,ho,_,hd,hi⟩:=hk
 unfold pyHash pyHashByItsType
 refine wpAny_bind (wpAny_cRoomFor_or (.inr (by omega)) ?_)
 refine wpAny_bind (wpAny_specialOf hT F.slot_tuple_hash.lookup ?_)
 refine (?_:wpAny _ _ (if (some (Value.builtin "tuple.__hash__") == some Value.none)=true then _ else _) Q E s)
 rw [if_neg (by rw [beq_builtin_none];exact Bool.false_ne_true)]
 refine wpAny_bind (wpAny_specialOf hT F.slot_tuple_hash.lookup ?_)
 refine (?_:wpAny _ _ (callSpecialIfBoundUnlessNone? (.ref a) "__hash__" _ >>= _) Q E s)
 refine wpAny_bind (wpAny_callSpecialIfBoundUnlessNone?_slot hT F.slot_tuple_hash (wpAny_call_entry F.slot_tuple_hash hT F.entry_tuple_hash ?_ (F.args_tuple_hash_1 _)))
 refine (?_:wpAny _ _ (Builtin.Tuple.tupleItemsOf (.ref a) >>= _) _ _ s)
 refine wpAny_bind (wpAny_tupleItemsOf ho hd (wpAny_bind ?_))
 rw [← Array.forIn_toList]
 refine wpAny_forIn_list _ (fun rest (b:Array Int) s'=> ∃ done left,ks=done ++ left∧bB prog w s.heap left rest∧b.toList=done.map (tupleKeyHash (intKind prog w))∧s'= { s with toks:=s.toks+(done.map fun k=>k.length+1).sum }) _ ?_ ?_ _ _ ⟨[],ks,rfl,hi,rfl,rfl⟩
 ·rintro x rest b s' ⟨done,left,rfl,hl,hb,rfl⟩
  cases hl with
  | @cons k c ks' _ h1 hl'=>
    refine wpAny_bind (wpAny_pyHash_tuple (s:={ s with toks:=s.toks+(done.map fun k=>k.length+1).sum }) (by show A.units+1 < cLine;omega) h1 ?_)
    have fin:∃ FT JU,done ++ k :: ks'=FT ++ JU∧bB prog w s.heap JU rest∧(b.push (tupleKeyHash (intKind prog w) k)).toList=FT.map (tupleKeyHash (intKind prog w))∧
     ({ s with toks:=s.toks+(done.map fun k=>k.length+1).sum+(k.length+1) }:Shared)= { s with toks:=s.toks+(FT.map fun k=>k.length+1).sum }:=
     ⟨done ++ [k],ks',by simp,hl',by simp [hb],by simp [Nat.add_assoc]⟩
    first
     | exact wpAny_pure fin
     | exact wpAny_bind (wpAny_pure (wpAny_pure fin))
 ·rintro b s' ⟨done,left,rfl,hl,hb,rfl⟩
  cases hl
  rw [List.append_nil] at h
  refine (?_:wpAny _ _ (retInt (Builtin.Tuple.tupleHashOf b.toList)) _ _ _)
  rw [hb]
  refine wpAny_ret_mkInt ?_
  unfold BX reduceHash wA at h
  generalize Builtin.Tuple.tupleHashOf (done.map (tupleKeyHash (intKind prog w)))=z at h ⊢
  refine (?_:wpAny _ _ (if (decide (-(2:Int) ^ 63≤z) && decide (z < 2 ^ 63))=true then _ else _) Q E _)
  by_cases c:(decide (-(2:Int) ^ 63≤z) && decide (z < 2 ^ 63))=true
  ·rw [if_pos c] at h ⊢
   exact wpAny_pure (by simpa [Nat.add_assoc] using h)
  ·rw [if_neg c] at h ⊢
   exact wpAny_bind (wpAny_rule (wpAny_pure (by simpa [Nat.add_assoc] using h)))
theorem yK {x y:List (List Int)} {a b:Addr} {P:Fin→Shared→Prop} (hu:A.units+4 < cLine) (hx:bL prog w s.heap x a) (hy:bL prog w s.heap y b) (h:P (.done (.ret (.bool (decide (x=y))))) s) :
 wpAny (model prog w) A (Builtin.«tuple.__eq__» ⟨[.ref a,.ref b],[]⟩) P E s:=by
 have hTb:=hy.typ
 obtain ⟨oa,xs,na,hoa,_,hda,U0⟩:=hx
 obtain ⟨ob,ys,nb,hob,_,hdb,hib⟩:=hy
 refine (?_:wpAny _ _ (isInstance (.ref b) (.type "tuple") >>= _) _ _ s)
 refine wpAny_bind (wpAny_isInstance hTb isSubtype_tuple_tuple ?_)
 simp only [Bool.not_true,Bool.false_eq_true,if_false]
 refine wpAny_bind (wpAny_tupleItemsOf hoa hda (wpAny_bind (wpAny_tupleItemsOf hob hdb (wpAny_bind ?_))))
 refine wpAny_forIn_list _ (fun rest r s'=>r.1=none∧s'=s∧∃ x' y' us vs,rest=List.zip us vs∧bB prog w s.heap x' us∧bB prog w s.heap y' vs∧decide (x'=y')=decide (x=y)∧(us.length == vs.length)=(xs.size == ys.size)) _ ?_ ?_ _ _ ⟨rfl,rfl,x,y,xs.toList,ys.toList,rfl,U0,hib,rfl,by simp⟩
 ·rintro ⟨u,v⟩ rest r s' ⟨hr,rfl,x',y',us,vs,hz,hx',hy',IG,hlen⟩
  cases hx' with
  | nil=>simp at hz
  | @cons k1 c1 S4 us' h1 RO=>
    cases hy' with
    | nil=>simp at hz
    | @cons k2 c2 S5 vs' h2 RP=>
      simp only [List.zip_cons_cons,List.cons.injEq,Prod.mk.injEq] at hz
      obtain ⟨⟨rfl,rfl⟩,rfl⟩:=hz
      refine wpAny_bind (wpAny_eqBool_tuple (by omega) h1 h2 ?_)
      by_cases hk:k1=k2
      ·subst hk
       rw [decide_eq_true rfl]
       simp only [Bool.not_true,Bool.false_eq_true,if_false]
       refine wpAny_pure ⟨rfl,rfl,S4,S5,us',vs',rfl,RO,RP,?_,by simpa using hlen⟩
       rw [← IG]
       by_cases c:S4=S5 <;> simp [c]
      ·rw [decide_eq_false hk]
       simp only [Bool.not_false,if_true]
       rw [show decide (x=y)=false by rw [← IG];simp [hk]] at h
       exact wpAny_bind (wpAny_pure (wpAny_pure (wpAny_pure h)))
 ·rintro ⟨r1,r2⟩ s' ⟨hr,rfl,x',y',us,vs,hz,hx',hy',IG,hlen⟩
  simp only at hr
  subst hr
  refine wpAny_pure ?_
  have RQ:(xs.size == ys.size)=decide (x=y):=by
   rw [← IG,← hlen]
   cases hx' with
   | nil=>cases hy' <;> simp
   | cons _ _=>
     cases hy' with
     | nil=>simp
     | cons _ _=>simp at hz
  refine (?_:P (.done (.ret (.bool (xs.size == ys.size)))) s')
  rw [RQ]
  exact h
theorem bB.inj {h:Heap} {x y:List (List Int)} {vs:List Value} (hx:bB prog w h x vs) (hy:bB prog w h y vs):x=y:=by
 induction hx generalizing y with
 | nil=>cases hy;rfl
 | cons h1 _ ih=>
   cases hy with
   | cons h2 t2=>rw [h1.inj h2,ih t2]
theorem bL.inj {h:Heap} {a:Addr} {x y:List (List Int)} (hx:bL prog w h x a) (hy:bL prog w h y a):x=y:=by
 obtain ⟨o,items,n,ho,_,hd,hi⟩:=hx
 obtain ⟨o',items',n',ho',_,hd',hi'⟩:=hy
 rw [ho] at ho'
 cases ho'
 rw [hd] at hd'
 injection hd' with h1 _
 subst h1
 exact hi.inj hi'
theorem FU {x y:List (List Int)} {a b:Addr} {Q:Bool→Shared→Prop} (hu:A.units+8 < cLine) (hx:bL prog w s.heap x a) (hy:bL prog w s.heap y b) (ne:x≠y) (h:Q false s) :
 wpAny (model prog w) A (eqBool (.ref a) (.ref b)) Q E s:=by
 unfold eqBool
 try with_reducible refine wpAny_holding ?_
 refine (?_:wpAny _ _ (if (Value.ref a == Value.ref b)=true then _ else _) Q E s)
 by_cases hab:(Value.ref a == Value.ref b)=true
 ·have e:a=b:=by have:=eq_of_beq hab;injection this
  subst e
  exact absurd (hx.inj hy) ne
 ·rw [if_neg hab]
  exact wpAny_bind (wpAny_richCompare_same_room (op:= .Eq) hx.typ hy.typ F.slot_tuple_eq
   (wpAny_call_entry F.slot_tuple_eq hx.typ F.entry_tuple_eq (yK (by show A.units+1+4 < cLine;omega) hx hy (by rw [decide_eq_false ne];exact ⟨_,rfl,(fun e=>nomatch e),wpAny_truthy_bool h⟩)) (F.args_tuple_eq_2 _ _)) (by omega))
theorem FW (d:Nat) {k:List Int} {a:Addr} {Q:Bool→Shared→Prop} (hx:IsTupleKey (intKind prog w) s.heap k a) (q:Q true s):wpAny (model prog w) A (eqIsQuiet (d+1) (.ref a)) Q E s:=by
 have hT:=hx.typeIs
 obtain ⟨o,items,n,ho,_,hd,hi⟩:=hx
 unfold eqIsQuiet
 refine wpAny_bind (wpAny_specialOf hT F.slot_tuple_eq.lookup ?_)
 refine (?_:wpAny _ _ (isInstance (.ref a) (.type "tuple") >>= _) _ _ s)
 refine wpAny_bind (wpAny_isInstance hT isSubtype_tuple_tuple ?_)
 simp only [Bool.not_true,Bool.false_eq_true,if_false]
 refine wpAny_bind (wpAny_seqItems ho hd (wpAny_bind ?_))
 refine (?_:wpAny _ _ (forIn items _ _) _ _ s)
 rw [← Array.forIn_toList]
 refine wpAny_forIn_list _ (fun rest r s'=>r.1=none∧s'=s∧∀ v∈rest,carriedByValue v=true) _ ?_ ?_ _ _ ⟨rfl,rfl,hi.byValue⟩
 ·rintro v rest r s' ⟨hr,rfl,hall⟩
  rw [eqIsQuiet_byValue _ (hall v List.mem_cons_self)]
  refine wpAny_bind (wpAny_pure ?_)
  simp only [Bool.not_true,Bool.false_eq_true,if_false]
  exact wpAny_pure ⟨rfl,rfl,fun u j8=>hall u (List.mem_cons_of_mem _ j8)⟩
 ·rintro ⟨r1,r2⟩ s' ⟨hr,rfl,_⟩
  simp only at hr
  subst hr
  exact wpAny_pure q
theorem bB.all {h:Heap} {x:List (List Int)} {vs:List Value} (hx:bB prog w h x vs):∀ v∈vs,∃ b k,v= .ref b∧IsTupleKey (intKind prog w) h k b:=by
 induction hx with
 | nil=>intro v hv;cases hv
 | cons h1 _ ih=>
   intro v hv
   rcases List.mem_cons.mp hv with rfl | hv
   ·exact ⟨_,_,rfl,h1⟩
   ·exact ih v hv
theorem FY {k:List (List Int)} {a:Addr} {Q:Bool→Shared→Prop} (hx:bL prog w s.heap k a) (q:Q true s):wpAny (model prog w) A (eqIsQuiet 8 (.ref a)) Q E s:=by
 have hT:=hx.typ
 obtain ⟨o,items,n,ho,_,hd,hi⟩:=hx
 unfold eqIsQuiet
 refine wpAny_bind (wpAny_specialOf hT F.slot_tuple_eq.lookup ?_)
 refine (?_:wpAny _ _ (isInstance (.ref a) (.type "tuple") >>= _) _ _ s)
 refine wpAny_bind (wpAny_isInstance hT isSubtype_tuple_tuple ?_)
 simp only [Bool.not_true,Bool.false_eq_true,if_false]
 refine wpAny_bind (wpAny_seqItems ho hd (wpAny_bind ?_))
 refine (?_:wpAny _ _ (forIn items _ _) _ _ s)
 rw [← Array.forIn_toList]
 refine wpAny_forIn_list _ (fun rest r s'=>r.1=none∧s'=s∧∀ v∈rest,∃ b k,v=Value.ref b∧IsTupleKey (intKind prog w) s.heap k b) _ ?_ ?_ _ _ ⟨rfl,rfl,hi.all⟩
 ·rintro v rest r s' ⟨hr,rfl,hall⟩
  obtain ⟨b,k,rfl,hb⟩:=hall v List.mem_cons_self
  refine wpAny_bind (FW 6 hb ?_)
  simp only [Bool.not_true,Bool.false_eq_true,if_false]
  exact wpAny_pure ⟨rfl,rfl,fun u j8=>hall u (List.mem_cons_of_mem _ j8)⟩
 ·rintro ⟨r1,r2⟩ s' ⟨hr,rfl,_⟩
  simp only at hr
  subst hr
  exact wpAny_pure q
theorem AB (d:Nat) {k:List Int} {a:Addr} {Q:Bool→Shared→Prop} (hx:IsTupleKey (intKind prog w) s.heap k a) (q:Q false s):wpAny (model prog w) A (ofAClassStatement (d+1) (.ref a)) Q E s:=by
 have hT:=hx.typeIs
 obtain ⟨o,items,n,ho,_,hd,hi⟩:=hx
 unfold ofAClassStatement
 refine wpAny_bind (wpAny_typeOf hT ?_)
 have e1:("tuple" == "tuple")=true:=by decide
 simp only [e1,if_true]
 refine wpAny_bind (wpAny_pure ?_)
 simp only [Bool.not_true,Bool.false_eq_true,if_false]
 refine wpAny_bind (wpAny_seqItems ho hd ?_)
 dsimp only
 refine wpAny_bind ?_
 rw [← Array.forIn_toList]
 refine wpAny_forIn_list _ (fun rest r s'=>r.1=none∧s'=s∧∀ v∈rest,∃ i t,v=Value.int i t) _ ?_ ?_ _ _ ⟨rfl,rfl,items_int hi⟩
 ·rintro v rest r s' ⟨hr,rfl,hall⟩
  obtain ⟨i,t,rfl⟩:=hall v List.mem_cons_self
  refine wpAny_bind ?_
  unfold ofAClassStatement
  refine wpAny_pure ?_
  simp only [Bool.false_eq_true,if_false]
  exact wpAny_pure ⟨rfl,rfl,fun y hy=>hall y (List.mem_cons_of_mem _ hy)⟩
 ·rintro ⟨r1,r2⟩ s' ⟨hr,rfl,_⟩
  simp only at hr
  subst hr
  exact wpAny_pure q
theorem FZ {k:List (List Int)} {a:Addr} {Q:Bool→Shared→Prop} (hx:bL prog w s.heap k a) (q:Q false s):wpAny (model prog w) A (ofAClassStatement 8 (.ref a)) Q E s:=by
 have hT:=hx.typ
 obtain ⟨o,items,n,ho,_,hd,hi⟩:=hx
 unfold ofAClassStatement
 refine wpAny_bind (wpAny_typeOf hT ?_)
 have e1:("tuple" == "tuple")=true:=by decide
 simp only [e1,if_true]
 refine wpAny_bind (wpAny_pure ?_)
 simp only [Bool.not_true,Bool.false_eq_true,if_false]
 refine wpAny_bind (wpAny_seqItems ho hd ?_)
 dsimp only
 refine wpAny_bind ?_
 rw [← Array.forIn_toList]
 refine wpAny_forIn_list _ (fun rest r s'=>r.1=none∧s'=s∧∀ v∈rest,∃ b k,v=Value.ref b∧IsTupleKey (intKind prog w) s.heap k b) _ ?_ ?_ _ _ ⟨rfl,rfl,hi.all⟩
 ·rintro v rest r s' ⟨hr,rfl,hall⟩
  obtain ⟨b,k,rfl,hb⟩:=hall v List.mem_cons_self
  refine wpAny_bind (AB 6 hb ?_)
  simp only [Bool.false_eq_true,if_false]
  exact wpAny_pure ⟨rfl,rfl,fun y hy=>hall y (List.mem_cons_of_mem _ hy)⟩
 ·rintro ⟨r1,r2⟩ s' ⟨hr,rfl,_⟩
  simp only at hr
  subst hr
  exact wpAny_pure q
theorem Ga (d:Nat) {k:List Int} {a:Addr} {Q:Bool→Shared→Prop} (hx:IsTupleKey (intKind prog w) s.heap k a) (q:Q true s):wpAny (model prog w) A (hashByValue (d+1) (.ref a)) Q E s:=by
 have hT:=hx.typeIs
 obtain ⟨o,items,n,ho,_,hd,hi⟩:=hx
 unfold hashByValue
 refine wpAny_bind (wpAny_specialOf hT F.slot_tuple_hash.lookup ?_)
 dsimp only
 refine wpAny_bind (wpAny_seqItems ho hd (wpAny_bind ?_))
 refine (?_:wpAny _ _ (forIn items _ _) _ _ s)
 rw [← Array.forIn_toList]
 refine wpAny_forIn_list _ (fun rest r s'=>r.1=none∧s'=s∧∀ v∈rest,∃ i t,v=Value.int i t) _ ?_ ?_ _ _ ⟨rfl,rfl,items_int hi⟩
 ·rintro v rest r s' ⟨hr,rfl,hall⟩
  obtain ⟨i,t,rfl⟩:=hall v List.mem_cons_self
  refine wpAny_bind ?_
  unfold hashByValue
  refine wpAny_pure ?_
  simp only [Bool.not_true,Bool.false_eq_true,if_false]
  exact wpAny_pure ⟨rfl,rfl,fun y hy=>hall y (List.mem_cons_of_mem _ hy)⟩
 ·rintro ⟨r1,r2⟩ s' ⟨hr,rfl,_⟩
  simp only at hr
  subst hr
  exact wpAny_pure q
theorem LA {k:List (List Int)} {a:Addr} {Q:Bool→Shared→Prop} (hx:bL prog w s.heap k a) (q:Q true s):wpAny (model prog w) A (hashByValue 8 (.ref a)) Q E s:=by
 have hT:=hx.typ
 obtain ⟨o,items,n,ho,_,hd,hi⟩:=hx
 unfold hashByValue
 refine wpAny_bind (wpAny_specialOf hT F.slot_tuple_hash.lookup ?_)
 dsimp only
 refine wpAny_bind (wpAny_seqItems ho hd (wpAny_bind ?_))
 refine (?_:wpAny _ _ (forIn items _ _) _ _ s)
 rw [← Array.forIn_toList]
 refine wpAny_forIn_list _ (fun rest r s'=>r.1=none∧s'=s∧∀ v∈rest,∃ b k,v=Value.ref b∧IsTupleKey (intKind prog w) s.heap k b) _ ?_ ?_ _ _ ⟨rfl,rfl,hi.all⟩
 ·rintro v rest r s' ⟨hr,rfl,hall⟩
  obtain ⟨b,k,rfl,hb⟩:=hall v List.mem_cons_self
  refine wpAny_bind (Ga 6 hb ?_)
  simp only [Bool.not_true,Bool.false_eq_true,if_false]
  exact wpAny_pure ⟨rfl,rfl,fun y hy=>hall y (List.mem_cons_of_mem _ hy)⟩
 ·rintro ⟨r1,r2⟩ s' ⟨hr,rfl,_⟩
  simp only at hr
  subst hr
  exact wpAny_pure q
end
def j9 (prog:Program) (w:World):cE prog w (List (List Int)) where
 is:=bL prog w
 hash:=BX prog w
 draws:=wA
 room:=fun A=>A.units+8 < cLine
 typ:=fun x=>x.typ
 keeps:=fun ⟨o,items,n,ho,hc,hd,hi⟩ k=>⟨o,items,n,k _ o ho hc,hc,hd,hi.keeps k⟩
 pyHash:=fun hu hk h=>vo hu hk h
 other:=fun hu hx hy ne h=>FU hu hx hy ne h
 quiet:=fun hk h=>FY hk h
 lA:=fun hk h=>FZ hk h
 yI:=fun hk h=>LA hk h
end PySem
namespace L3
open PySem PySem.Spec PyProof.Rows L2
def bX (w:List Pl):List (List Int):=w.map fun p=>[p.x,p.y]
theorem nI:∀ {w v:List Pl},bX w=bX v→w=v
 | [],[],_=>rfl
 | [],_ :: _,h=>by cases h
 | _ :: _,[],h=>by cases h
 | p :: w,q :: v,h=>by
   injection h with h1 h2
   injection h1 with h3 h1
   injection h1 with h4 _
   rw [nI h2]
   cases p;cases q
   simp only at h3 h4
   rw [h3,h4]
theorem wB {P:Program} {w:World} {h:Heap}:∀ {us:List Value} {ps:List Pl},cX h us ps→bB P w h (bX ps) us
 | _,_,.nil=> .nil
 | _,_,.cons a r=>by
   obtain ⟨b,rfl,k⟩:=IF (P:=P) (w:=w) a
   exact .cons k (wB r)
theorem II {P:Program} {w:World} {K:PySem.W.Frag} {H:Hp} {h:Heap} {t:List Pl} {x:V} {u:Value} (ok:i7 P w H h) (d:Dat K H (tD t) x) (r:RelV x u):∃ b,u= .ref b∧bL P w h (bX t) b:=by
 obtain ⟨a,xs,rfl,ha,hx⟩:=aR.mp d
 obtain rfl:u=Value.ref a:=r
 obtain ⟨its,rv,⟨o,h1,h2,n,h3⟩,_⟩:=c6 ok ha
 exact ⟨a,rfl,o,its.toArray,n,h1,h2,h3,by rw [List.toList_toArray];exact wB (iP ok hx rv)⟩
theorem yL {P:Program} {w:World} {K:PySem.W.Frag} {H:Hp} {h:Heap} (ok:i7 P w H h):∀ {ts:List (List Pl)} {xs:List V} {us:List Value},aB K H (ts.map tD) xs→Vals xs us→∀ (i:Nat) (u:Value),us[i]?=some u→∃ t,ts[i]?=some t∧∃ b,u= .ref b∧bL P w h (bX t) b
 | [],xs,us,d,r,i,u,e=>by
   rw [aH.mp d] at r
   cases r
   simp at e
 | t :: ts,xs,us,d,r,i,u,e=>by
   obtain ⟨v,vs,rfl,d1,d2⟩:=aA.mp d
   cases r with
   | cons r rr=>
     cases i with
     | zero=>
       simp at e
       subst e
       exact ⟨t,rfl,II ok d1 r⟩
     | succ i=>exact yL ok d2 rr i u (by simpa using e)
section
variable {X:Cx} {pos:Pos}
end
end L3
namespace PySem.SetTable
def uw (xs:Array Nat):Prop:= ∀ (i j a b:Nat),i < j→xs[i]?=some a→xs[j]?=some b→a < b
theorem Gb:uw #[]:=fun i j a b _ h _=>by simp at h
theorem Gd {xs:Array Nat} (r:uw xs) (j:Nat):∀ (fuel lo hi:Nat),hi - lo≤fuel→lo≤hi→hi≤xs.size→(∀ i a,i < lo→xs[i]?=some a→a < j)→(∀ i a,hi≤i→xs[i]?=some a→j≤a)→
 below.go xs j fuel lo hi≤xs.size∧(∀ i a,i < below.go xs j fuel lo hi→xs[i]?=some a→a < j)∧∀ i a,below.go xs j fuel lo hi≤i→xs[i]?=some a→j≤a:=by
 intro fuel
 induction fuel with
 | zero=>
   intro lo hi h1 h2 h3 h4 h5
   obtain rfl:lo=hi:=by omega
   exact ⟨h3,h4,h5⟩
 | succ f ih=>
   intro lo hi h1 h2 h3 h4 h5
   unfold below.go
   by_cases c:lo < hi
   ·rw [if_pos c]
    have hm:(lo+hi) / 2 < xs.size:=by omega
    have em:xs[(lo+hi) / 2]?=some xs[(lo+hi) / 2]:=Array.getElem?_eq_getElem hm
    dsimp only
    rw [Array.getD_eq_getD_getElem?,em,Option.getD_some]
    by_cases d:xs[(lo+hi) / 2] < j
    ·rw [if_pos d]
     refine ih _ _ (by omega) (by omega) h3 (fun i a hi2 e=>?_) h5
     by_cases z:i=(lo+hi) / 2
     ·subst z
      rw [em] at e
      cases e
      exact d
     ·exact Nat.lt_trans (r i _ a _ (by omega) e em) d
    ·rw [if_neg d]
     refine ih _ _ (by omega) (by omega) (by omega) h4 fun i a hi2 e=>?_
     by_cases z:i=(lo+hi) / 2
     ·subst z
      rw [em] at e
      cases e
      omega
     ·have:=r _ i _ a (by omega) em e
      omega
   ·rw [if_neg c]
    obtain rfl:lo=hi:=by omega
    exact ⟨h3,h4,h5⟩
theorem gD {xs:Array Nat} (r:uw xs) (j:Nat):below xs j≤xs.size∧(∀ i a,i < below xs j→xs[i]?=some a→a < j)∧∀ i a,below xs j≤i→xs[i]?=some a→j≤a:=
 Gd r j _ _ _ (Nat.le_refl _) (Nat.zero_le _) (Nat.le_refl _) (fun i a h _=>absurd h (Nat.not_lt_zero _)) fun i a h e=>by
  have:=(Array.getElem?_eq_some_iff.mp e).1
  omega
def LB (t:SetTable) (j:Nat):Prop:= ∃ i:Nat,t.place[i]?=some j
theorem below_at {xs:Array Nat} (r:uw xs) {i j:Nat} (h:xs[i]?=some j):below xs j=i:=by
 obtain ⟨h1,h2,h3⟩:=gD r j
 rcases Nat.lt_trichotomy (below xs j) i with c | c | c
 ·have hb:below xs j < xs.size:=by
   have:=(Array.getElem?_eq_some_iff.mp h).1
   omega
  have eb:xs[below xs j]?=some xs[below xs j]:=Array.getElem?_eq_getElem hb
  have a:=h3 _ _ (Nat.le_refl _) eb
  have b:=r _ _ _ _ c eb h
  omega
 ·exact c
 ·have:=h2 i j c h
  omega
theorem vp {t:SetTable} (r:uw t.place) {i j:Nat} (h:t.place[i]?=some j):t.slot j= .live i:=by
 unfold slot
 dsimp only
 rw [below_at r h,h]
 simp
theorem yM {t:SetTable} (r:uw t.place) {j:Nat} (h:LB t j):t.slot j≠ .empty:=by
 obtain ⟨i,e⟩:=h
 rw [vp r e]
 intro z
 cases z
theorem Ge {t:SetTable} (hd:t.dummies= #[]) {j:Nat} (h:t.slot j≠ .empty):LB t j:=by
 rcases sC hd j with e | ⟨i,_,e⟩
 ·exact absurd e h
 ·exact ⟨i,e⟩
theorem gE {α:Type} (xs:Array α) {p:Nat} (hp:p≤xs.size) (x:α) (i:Nat):(insertAt xs p x)[i]?=if i < p then xs[i]? else if i=p then some x else xs[i - 1]?:=by
 have e:(insertAt xs p x).toList=xs.toList.take p ++ x :: xs.toList.drop p:=by
  unfold insertAt
  rw [Array.toList_append,Array.toList_push,Array.toList_extract,Array.toList_extract]
  simp
  exact List.take_of_length_le (by rw [List.length_drop,Array.length_toList];exact Nat.le_refl _)
 rw [← Array.getElem?_toList,e]
 have lt:(xs.toList.take p).length=p:=by rw [List.length_take,Array.length_toList];omega
 by_cases h1:i < p
 ·rw [if_pos h1,List.getElem?_append_left (by omega),List.getElem?_take_of_lt h1,Array.getElem?_toList]
 ·rw [if_neg h1,List.getElem?_append_right (by omega),lt]
  by_cases h2:i=p
  ·subst h2
   rw [if_pos rfl,Nat.sub_self]
   rfl
  ·rw [if_neg h2,show i - p=(i - p - 1)+1 by omega,List.getElem?_cons_succ,List.getElem?_drop,Array.getElem?_toList]
   congr 1
   omega
theorem yN {xs:Array Nat} (r:uw xs) {j:Nat} (n:∀ i:Nat,xs[i]?≠some j):uw (insertAt xs (below xs j) j):=by
 obtain ⟨h1,h2,h3⟩:=gD r j
 have h3':∀ i a,below xs j≤i→xs[i]?=some a→j < a:=fun i a h e=>by
  have:=h3 i a h e
  rcases Nat.lt_or_ge j a with c | c
  ·exact c
  ·exact absurd (show xs[i]?=some j by rw [e];congr 1;omega) (n i)
 intro i k a b hik ha hb
 rw [gE xs h1] at ha hb
 by_cases c1:i < below xs j
 ·rw [if_pos c1] at ha
  by_cases c2:k < below xs j
  ·rw [if_pos c2] at hb
   exact r i k a b hik ha hb
  ·rw [if_neg c2] at hb
   by_cases c3:k=below xs j
   ·rw [if_pos c3] at hb
    cases hb
    exact h2 i a c1 ha
   ·rw [if_neg c3] at hb
    exact r i (k - 1) a b (by omega) ha hb
 ·rw [if_neg c1] at ha
  have c2:¬ k < below xs j:=by omega
  have c3:¬ k=below xs j:=by omega
  rw [if_neg c2,if_neg c3] at hb
  by_cases c4:i=below xs j
  ·rw [if_pos c4] at ha
   cases ha
   exact h3' (k - 1) b (by omega) hb
  ·rw [if_neg c4] at ha
   exact r (i - 1) (k - 1) a b (by omega) ha hb
theorem sE {t u:SetTable} (h:t.mask=u.mask):∀ (k:Nat) (p:Probe),dg k t p=dg k u p
 | 0,_=>rfl
 | k+1,p=>by
   show dg k t (t.advance p)=dg k u (u.advance p)
   have e:t.advance p=u.advance p:=by unfold advance;rw [h]
   rw [e]
   exact sE h k _
theorem sF {t u:SetTable} (h:t.mask=u.mask) (x:Int):t.probeStart x=u.probeStart x:=by unfold probeStart;rw [h]
def Way (t:SetTable) (PJ:Nat→Prop) (h:Int) (j:Nat):Prop:= ∃ K,K < 10*turns t.mask∧(dg K t (t.probeStart h)).j=j∧∀ m,m < K→PJ (dg m t (t.probeStart h)).j
theorem Way.mono {t u:SetTable} {PJ ON:Nat→Prop} {h:Int} {j:Nat} (w:Way t PJ h j) (hm:t.mask=u.mask) (ho:∀ x,PJ x→ON x):Way u ON h j:=by
 obtain ⟨K,h1,h2,h3⟩:=w
 refine ⟨K,by rw [← hm];exact h1,?_,fun m S6=>ho _ ?_⟩
 ·rw [← sE hm,← sF hm]
  exact h2
 ·rw [← sE hm,← sF hm]
  exact h3 m S6
structure Reach (t:SetTable) (es:Array (Int ×Value)):Prop where
 rise:uw t.place
 at_:∀ (i:Nat) (e:Int ×Value),es[i]?=some e→∃ j,t.place[i]?=some j∧Way t (LB t) e.1 j
theorem Dm {t:SetTable} {es:Array (Int ×Value)} {n:Nat} (g:Good t n) (he:es.size=n) (r:Reach t es) {h:Int} {v:Value} {j:Nat} (nj:¬ LB t j) (w:Way t (LB t) h j):Reach (t.put j).1 (insertAt es (t.put j).2 (h,v)):=by
 have hp:below t.place j≤t.place.size:=(gD r.rise j).1
 have Lc:below t.place j≤es.size:=by rw [he,← g.1];exact hp
 have keep:∀ x,LB t x→LB (t.put j).1 x:=fun x ⟨i,e⟩=>by
  by_cases c:i < below t.place j
  ·exact ⟨i,by show (insertAt t.place (below t.place j) j)[i]?=_;rw [gE _ hp,if_pos c];exact e⟩
  ·refine ⟨i+1,?_⟩
   show (insertAt t.place (below t.place j) j)[i+1]?=_
   rw [gE _ hp,if_neg (by omega),if_neg (by omega)]
   exact e
 refine ⟨yN r.rise fun i e=>nj ⟨i,e⟩,fun i e hi=>?_⟩
 show ∃ k,(insertAt t.place (below t.place j) j)[i]?=some k∧_
 have hi:(insertAt es (below t.place j) (h,v))[i]?=some e:=hi
 rw [gE _ Lc] at hi
 rw [gE _ hp]
 by_cases c1:i < below t.place j
 ·rw [if_pos c1] at hi ⊢
  obtain ⟨k,h1,h2⟩:=r.at_ i e hi
  exact ⟨k,h1,h2.mono rfl keep⟩
 ·rw [if_neg c1] at hi ⊢
  by_cases c2:i=below t.place j
  ·rw [if_pos c2] at hi ⊢
   cases hi
   exact ⟨j,rfl,w.mono rfl keep⟩
  ·rw [if_neg c2] at hi ⊢
   obtain ⟨k,h1,h2⟩:=r.at_ (i - 1) e hi
   exact ⟨k,h1,h2.mono rfl keep⟩
theorem qO (t:SetTable):∀ (k:Nat) (p:Probe),k≤p.more→(dg k t p).j=p.j+k∧(dg k t p).more=p.more - k
 | 0,p,_=>⟨rfl,rfl⟩
 | k+1,p,h=>by
   have e:t.advance p= { p with j:=p.j+1,more:=p.more - 1 }:=by unfold advance;rw [if_pos (by omega)]
   obtain ⟨h1,h2⟩:=qO t k { p with j:=p.j+1,more:=p.more - 1 } (by show k≤p.more - 1;omega)
   refine ⟨?_,?_⟩
   ·show (dg k t (t.advance p)).j=_
    rw [e,h1]
    show p.j+1+k=_
    omega
   ·show (dg k t (t.advance p)).more=_
    rw [e,h2]
    show p.more - 1 - k=_
    omega
theorem yP {t:SetTable} {owner:Array (Option Nat)}:∀ (fuel i q j:Nat) (p:Probe),p.j=i→p.i=i→p.perturb=q→p.more=runEnd t.mask i - i→layClean.free t.mask owner fuel i q=some j→
 ∃ K,K < 10*fuel∧(dg K t p).j=j∧(owner.getD j (some 0)).isNone=true∧∀ m,m < K→(owner.getD (dg m t p).j (some 0)).isNone=false
 | 0,i,q,j,p,_,_,_,_,h=>by cases h
 | fuel+1,i,q,j,p,hj,hi,hq,hm,h=>by
   unfold layClean.free at h
   have r9:=Ax t.mask i
   have ri:i≤runEnd t.mask i:=by unfold runEnd;split <;> omega
   split at h
   ·rename_i k hk
    cases h
    have k1:k < runEnd t.mask i+1 - i:=List.mem_range.mp (List.mem_of_find?_eq_some hk)
    have k2:=List.find?_some (p:=fun k=>(owner.getD (i+k) (some 0)).isNone) hk
    have a:=qO t k p (by omega)
    refine ⟨k,by omega,by rw [a.1,hj],k2,fun m U1=>?_⟩
    have b:=qO t m p (by omega)
    rw [b.1,hj]
    have:=List.find?_range_eq_some.mp hk
    obtain ⟨_,_,h3⟩:=this
    have:=h3 m U1
    simpa using this
   ·rename_i hk
    have all:∀ k,k≤p.more→(owner.getD (i+k) (some 0)).isNone=false:=fun k hk2=>by
     exact Bool.eq_false_iff.mpr (List.find?_eq_none.mp hk k (List.mem_range.mpr (by omega)))
    have e:=Aw t p.more p rfl
    have hl:(leap t.mask i q)=((leap t.mask i q).1,(leap t.mask i q).2):=rfl
    obtain ⟨K,h1,h2,h3,h4⟩:=yP fuel (leap t.mask i q).1 (leap t.mask i q).2 j (G1 t p) (by unfold G1;rw [hi,hq]) (by unfold G1;rw [hi,hq]) (by unfold G1;rw [hi,hq]) (by unfold G1;rw [hi,hq]) h
    refine ⟨p.more+1+K,by omega,?_,h3,fun m S6=>?_⟩
    ·rw [jh,e]
     exact h2
    ·by_cases c:m≤p.more
     ·rw [(qO t m p c).1,hj]
      exact all m c
     ·have:=h4 (m - (p.more+1)) (by omega)
      rw [← e,← jh,show p.more+1+(m - (p.more+1))=m by omega] at this
      exact this
theorem vq {mask i:Nat} (h:i≤mask):i≤runEnd mask i∧runEnd mask i≤mask:=by
 unfold runEnd
 split <;> omega
theorem Gf (t:SetTable):∀ (k:Nat) (p:Probe),p.j+p.more≤t.mask→(dg k t p).j≤t.mask
 | 0,p,h=>by show p.j≤_;omega
 | k+1,p,h=>by
   refine Gf t k (t.advance p) ?_
   unfold advance
   split
   ·show p.j+1+(p.more - 1)≤_
    omega
   ·have a:(leap t.mask p.i p.perturb).1≤t.mask:=by
     unfold leap
     exact Nat.le_of_lt_succ (Nat.mod_lt _ (Nat.succ_pos _))
    have b:=vq a
    show (leap t.mask p.i p.perturb).1+(runEnd t.mask (leap t.mask p.i p.perturb).1 - (leap t.mask p.i p.perturb).1)≤_
    omega
theorem Gg (t:SetTable) (h:Int):(t.probeStart h).j+(t.probeStart h).more≤t.mask:=by
 have a:bits h % (t.mask+1)≤t.mask:=Nat.le_of_lt_succ (Nat.mod_lt _ (Nat.succ_pos _))
 have b:=vq a
 show bits h % (t.mask+1)+(runEnd t.mask (bits h % (t.mask+1)) - bits h % (t.mask+1))≤_
 omega
def LC (owner:Array (Option Nat)) (x:Nat):Prop:= ∃ v,owner[x]?=some (some v)
structure Laid (t:SetTable) (owner:Array (Option Nat)) (done:List Int):Prop where
 own:Own t.mask owner done.length
 way:∀ (j v:Nat),owner[j]?=some (some v)→∃ h,done[v]?=some h∧Way t (LC owner) h j
 all:∀ v,v < done.length→∃ j:Nat,owner[j]?=some (some v)
theorem Gh (t:SetTable):Laid t (Array.replicate (t.mask+1) none) []:=by
 refine ⟨ID _,fun j v e=>?_,fun v h=>absurd h (Nat.not_lt_zero _)⟩
 rw [Array.getElem?_replicate] at e
 split at e <;> cases e
theorem Gi {t:SetTable} {owner:Array (Option Nat)} {done:List Int} (L:Laid t owner done) {h:Int} {j:Nat} (hf:layClean.free t.mask owner (turns t.mask) (bits h % (t.mask+1)) (bits h)=some j) (fj:(owner.getD j (some 0)).isNone=true) :
 Laid t (owner.setIfInBounds j (some done.length)) (done ++ [h]):=by
 have lt:j < owner.size:=by
  apply Classical.byContradiction
  intro c
  simp [Array.getD,c] at fj
 have ej:owner[j]?=some none:=by
  rw [Array.getD_eq_getD_getElem?,Array.getElem?_eq_getElem lt,Option.getD_some] at fj
  rw [Array.getElem?_eq_getElem lt,Option.isNone_iff_eq_none.mp fj]
 have self:(owner.setIfInBounds j (some done.length))[j]?=some (some done.length):=Array.getElem?_setIfInBounds_self_of_lt lt
 have other:∀ x,x≠j→(owner.setIfInBounds j (some done.length))[x]?=owner[x]?:=fun x hx=>Array.getElem?_setIfInBounds_ne (Ne.symm hx)
 have keep:∀ x,LC owner x→LC (owner.setIfInBounds j (some done.length)) x:=fun x ⟨v,e⟩=>by
  have hx:x≠j:=fun z=>by rw [z,ej] at e;cases e
  exact ⟨v,by rw [other x hx];exact e⟩
 refine ⟨by rw [List.length_append,List.length_singleton];exact IE L.own fj,fun x v e=>?_,fun v hv=>?_⟩
 ·by_cases hx:x=j
  ·subst hx
   rw [self] at e
   cases e
   obtain ⟨K,h1,h2,_,h4⟩:=yP (turns t.mask) _ _ _ (t.probeStart h) rfl rfl rfl rfl hf
   refine ⟨h,by simp,K,h1,h2,fun m hm=>keep _ ?_⟩
   have a:=h4 m hm
   have b:=Gf t m _ (Gg t h)
   have c:(dg m t (t.probeStart h)).j < owner.size:=by rw [L.own.1];omega
   rw [Array.getD_eq_getD_getElem?,Array.getElem?_eq_getElem c,Option.getD_some] at a
   cases q:owner[(dg m t (t.probeStart h)).j] with
   | none=>rw [q] at a;cases a
   | some v=>exact ⟨v,by rw [Array.getElem?_eq_getElem c,q]⟩
  ·rw [other x hx] at e
   obtain ⟨h',h1,h2⟩:=L.way x v e
   refine ⟨h',?_,h2.mono rfl keep⟩
   rw [List.getElem?_append_left (List.getElem?_eq_some_iff.mp h1).1]
   exact h1
 ·rw [List.length_append,List.length_singleton] at hv
  by_cases c:v < done.length
  ·obtain ⟨x,e⟩:=L.all v c
   have hx:x≠j:=fun z=>by rw [z,ej] at e;cases e
   exact ⟨x,by rw [other x hx];exact e⟩
  ·obtain rfl:v=done.length:=by omega
   exact ⟨j,self⟩
theorem yQ {t:SetTable} (R:Round t.mask):∀ (hs done:List Int) (owner:Array (Option Nat)),Laid t owner done→done.length+hs.length≤t.mask+1→
 ∃ o',hs.foldl (fun acc h=>do let (owner,k) ← acc;let j ← layClean.free t.mask owner (turns t.mask) (bits h % (t.mask+1)) (bits h);pure (owner.setIfInBounds j (some k),k+1)) (some (owner,done.length))=some (o',done.length+hs.length)∧Laid t o' (done ++ hs)
 | [],done,owner,L,_=>⟨owner,rfl,by rw [List.append_nil];exact L⟩
 | h :: hs,done,owner,L,hl=>by
   rw [List.length_cons] at hl
   obtain ⟨j0,hj0,e0⟩:=FP L.own (by omega)
   obtain ⟨j,ej,fj⟩:=AA R hj0 e0 h
   obtain ⟨o',e',L'⟩:=yQ R hs (done ++ [h]) _ (Gi L ej fj) (by rw [List.length_append,List.length_singleton];omega)
   rw [List.append_assoc] at L'
   refine ⟨o',?_,L'⟩
   rw [List.length_append,List.length_singleton] at e'
   rw [List.foldl_cons,List.length_cons,show done.length+(hs.length+1)=done.length+1+hs.length by omega,← e']
   simp [ej]
theorem nJ {mask:Nat} {owner:Array (Option Nat)} {x v:Nat}:(x,v)∈live mask owner↔x≤mask∧owner[x]?=some (some v):=by
 unfold live
 rw [List.mem_filterMap]
 constructor
 ·rintro ⟨y,hy,e⟩
  rw [Array.getD_eq_getD_getElem?] at e
  have hy:=List.mem_range.mp hy
  cases q:owner[y]? with
  | none=>rw [q] at e;cases e
  | some z=>
    rw [q] at e
    cases z with
    | none=>cases e
    | some z=>
      cases e
      exact ⟨by omega,q⟩
 ·rintro ⟨h1,h2⟩
  refine ⟨x,List.mem_range.mpr (by omega),?_⟩
  rw [Array.getD_eq_getD_getElem?,h2]
  rfl
theorem Dn (mask:Nat) (owner:Array (Option Nat)):((live mask owner).map (·.1)).Pairwise (· < ·):=by
 unfold live
 rw [List.map_filterMap]
 have key:∀ l:List Nat,l.Pairwise (· < ·)→((l.filterMap fun j=>((owner.getD j none).map (j,·)).map (·.1)).Pairwise (· < ·)):=fun l=>by
  intro hp
  refine List.Pairwise.filterMap _ (fun a b hab c hc d hd=>?_) hp
  cases q:owner.getD a none with
  | none=>rw [q] at hc;cases hc
  | some z=>
    rw [q] at hc
    cases hc
    cases q2:owner.getD b none with
    | none=>rw [q2] at hd;cases hd
    | some z=>
      rw [q2] at hd
      cases hd
      exact hab
 exact key _ List.pairwise_lt_range
theorem nK {α β:Type} {f:α→Option β}:∀ {l:List α},(∀ a∈l,(f a).isSome=true)→∀ i:Nat,(l.filterMap f)[i]?=(l[i]?).bind f
 | [],_,i=>by simp
 | a :: l,h,i=>by
   obtain ⟨b,hb⟩:=Option.isSome_iff_exists.mp (h a List.mem_cons_self)
   rw [List.filterMap_cons,hb]
   cases i with
   | zero=>simp [hb]
   | succ i=>
     simp only [List.getElem?_cons_succ]
     exact nK (fun x hx=>h x (List.mem_cons_of_mem _ hx)) i
theorem wC {t:SetTable} {es:Array (Int ×Value)} {wanted:Nat} (hm:o4 (sizeAbove wanted - 1)) (hn:es.size*5 < (sizeAbove wanted - 1)*3) :
 ∃ t' order,t.relaid (es.map (·.1)) wanted=some (t',order)∧Good t' es.size∧order.size=es.size∧(∀ v∈order,v < es.size)∧Reach t' (order.filterMap (es[·]?))∧(∀ e∈es.toList,e∈(order.filterMap (es[·]?)).toList)∧t'.led=t.led∧t'.plain=t.plain:=by
 obtain ⟨u,hu⟩:∃ u:SetTable,u.mask=sizeAbove wanted - 1:=⟨{ t with mask:=sizeAbove wanted - 1 },rfl⟩
 have R:Round u.mask:=by rw [hu];exact hm.round
 obtain ⟨o',e,L⟩:=yQ R (es.map (·.1)).toList [] _ (Gh u) (by rw [List.length_nil,Array.length_toList,Array.size_map];omega)
 rw [List.nil_append] at L
 have oo:=L.own
 have hlen:(es.map (·.1)).toList.length=es.size:=by rw [Array.length_toList,Array.size_map]
 rw [hlen] at oo
 rw [hu,List.length_nil] at e
 rw [hu] at oo
 have S7:∀ v∈((live (sizeAbove wanted - 1) o').map (·.2)),v < es.size:=fun v hv=>by
  obtain ⟨⟨x,y⟩,h1,rfl⟩:=List.mem_map.mp hv
  exact oo.2.2 _ _ (nJ.mp h1).2
 unfold relaid laid layClean
 rw [← Array.foldl_toList,e]
 refine ⟨_,_,rfl,⟨?_,rfl,hm,hn⟩,?_,fun v hv=>?_,⟨?_,fun i e1 h1=>?_⟩,fun e1 h1=>?_,rfl,rfl⟩
 ·show (List.map _ (live _ o')).toArray.size=_
  rw [List.size_toArray,List.length_map,oo.2.1]
 ·show (List.map _ (live _ o')).toArray.size=_
  rw [List.size_toArray,List.length_map,oo.2.1]
 ·exact S7 v (Array.mem_toList_iff.mpr hv)
 ·intro i j a b hij ha hb
  have ha:((live (sizeAbove wanted - 1) o').map (·.1)).toArray[i]?=some a:=ha
  have hb:((live (sizeAbove wanted - 1) o').map (·.1)).toArray[j]?=some b:=hb
  rw [List.getElem?_toArray] at ha hb
  have p:=Dn (sizeAbove wanted - 1) o'
  obtain ⟨l1,ea⟩:=List.getElem?_eq_some_iff.mp ha
  obtain ⟨l2,eb⟩:=List.getElem?_eq_some_iff.mp hb
  rw [← ea,← eb]
  exact List.pairwise_iff_getElem.mp p i j l1 l2 hij
 ·have h1:(((live (sizeAbove wanted - 1) o').map (·.2)).toArray.filterMap (es[·]?))[i]?=some e1:=h1
  rw [← Array.getElem?_toList,Array.toList_filterMap,nK (fun v hv=>by rw [Array.getElem?_eq_getElem (S7 v hv)];rfl)] at h1
  obtain ⟨v,h2,h3⟩:=Option.bind_eq_some_iff.mp h1
  have h2:((live (sizeAbove wanted - 1) o').map (·.2))[i]?=some v:=h2
  rw [List.getElem?_map] at h2
  cases q:(live (sizeAbove wanted - 1) o')[i]? with
  | none=>rw [q] at h2;cases h2
  | some xv=>
    obtain ⟨x,v'⟩:=xv
    rw [q] at h2
    obtain rfl:v'=v:=Option.some.inj h2
    refine ⟨x,?_,?_⟩
    ·show ((live (sizeAbove wanted - 1) o').map (·.1)).toArray[i]?=some x
     rw [List.getElem?_toArray,List.getElem?_map,q]
     rfl
    ·obtain ⟨h4,h5⟩:=nJ.mp (List.mem_of_getElem? q)
     obtain ⟨h,h6,h7⟩:=L.way x v' h5
     have eh:h=e1.1:=by
      rw [Array.getElem?_toList,Array.getElem?_map,h3] at h6
      exact (Option.some.inj h6).symm
     subst eh
     refine h7.mono hu fun y ⟨w,hw⟩=>?_
     have hy:y≤sizeAbove wanted - 1:=by
      have:=(Array.getElem?_eq_some_iff.mp hw).1
      rw [oo.1] at this
      omega
     obtain ⟨k,hk⟩:=List.getElem?_of_mem (nJ.mpr ⟨hy,hw⟩)
     refine ⟨k,?_⟩
     show ((live (sizeAbove wanted - 1) o').map (·.1)).toArray[k]?=some y
     rw [List.getElem?_toArray,List.getElem?_map,hk]
     rfl
 ·obtain ⟨v,hv⟩:=List.getElem?_of_mem h1
  rw [Array.getElem?_toList] at hv
  have lv:=(Array.getElem?_eq_some_iff.mp hv).1
  obtain ⟨x,hx⟩:=L.all v (by rw [hlen];exact lv)
  have U3:x≤sizeAbove wanted - 1:=by
   have:=(Array.getElem?_eq_some_iff.mp hx).1
   rw [oo.1] at this
   omega
  show e1∈(((live (sizeAbove wanted - 1) o').map (·.2)).toArray.filterMap (es[·]?)).toList
  rw [Array.toList_filterMap,List.mem_filterMap]
  exact ⟨v,List.mem_map.mpr ⟨(x,v),nJ.mpr ⟨U3,hx⟩,rfl⟩,hv⟩
end PySem.SetTable
namespace PySem
open SetTable
structure gY {prog:Program} {w:World} {κ:Type} (T:cE prog w κ):Prop where
 same:∀ {A:Around} {E:Value→Shared→Prop} {s:Shared} {k:κ} {a b:Addr} {Q:Bool→Shared→Prop},T.room A→T.is s.heap k a→T.is s.heap k b→Q true s→wpAny (model prog w) A (eqBool (.ref a) (.ref b)) Q E s
theorem Gj {t:SetTable} {hashAt:Nat→Int} {h:Int} (hd:t.dummies= #[]):∀ (k fuel:Nat) (p:Probe),k < fuel→(∀ m,m < k→t.slot (dg m t p).j≠ .empty)→p.dummy=none→
 (t.slot (dg k t p).j= .empty∨∃ i,t.slot (dg k t p).j= .live i∧t.place[i]?=some (dg k t p).j∧hashAt i=h)→
 (t.slot (dg k t p).j= .empty∧probe.go t hashAt h fuel p=some (.empty (dg k t p).j none))∨
 ∃ m i,m≤k∧probe.go t hashAt h fuel p=some (.candidate (dg m t p).j i (dg (m+1) t p))∧t.slot (dg m t p).j= .live i∧t.place[i]?=some (dg m t p).j:=by
 intro k
 induction k with
 | zero=>
   intro fuel p hf hp hn he
   cases fuel with
   | zero=>omega
   | succ f=>
     rcases he with e | ⟨i,e,ep,eh⟩
     ·refine .inl ⟨e,?_⟩
      unfold probe.go
      rw [show t.slot p.j= .empty from e,hn]
      rfl
     ·refine .inr ⟨0,i,Nat.le_refl _,?_,e,ep⟩
      unfold probe.go
      rw [show t.slot p.j= .live i from e]
      simp only [eh,beq_self_eq_true,if_true]
      rfl
 | succ k ih=>
   intro fuel p hf hp hn he
   cases fuel with
   | zero=>omega
   | succ f=>
     rcases sC hd p.j with e | ⟨i,e,ei⟩
     ·exact absurd e (hp 0 (Nat.succ_pos _))
     ·by_cases c:(hashAt i == h)=true
      ·refine .inr ⟨0,i,Nat.zero_le _,?_,e,ei⟩
       unfold probe.go
       rw [e]
       simp only [c,if_true]
       rfl
      ·have eg:probe.go t hashAt h (f+1) p=probe.go t hashAt h f (t.advance p):=by
        conv=>lhs;unfold probe.go
        rw [e]
        simp only [c]
        rfl
       rw [eg]
       rcases ih f (t.advance p) (by omega) (fun m hm=>hp (m+1) (by omega)) ((vn t p).trans hn) he with ⟨e1,e2⟩ | ⟨m,i',h1,h2,h3,h4⟩
       ·exact .inl ⟨e1,e2⟩
       ·exact .inr ⟨m+1,i',by omega,h2,h3,h4⟩
section
variable {prog:Program} {w:World} {κ:Type} {T:cE prog w κ} {A:Around} {E:Value→Shared→Prop} {s:Shared}
theorem sG (TS:gY T) {S a:Addr} {o:Obj} {es:Array (Int ×Value)} {ep:Nat} {t:SetTable} {k:κ} {h:Int} {K:Nat} {Q:SetFound→Shared→Prop} (hr:T.room A) (ho:s.heap.get? S=some o) (hd:o.data= .set es ep t) (g:t.Good es.size)
 (hx:T.is s.heap k a) (hes:∀ e∈es.toList,∃ b l,e.2= .ref b∧T.is s.heap l b∧(l=k→Q (.there none) s)) (hK:K < 10*turns t.mask) (hp:∀ m,m < K→t.slot (dg m t (t.probeStart h)).j≠ .empty)
 (hf:(t.slot (dg K t (t.probeStart h)).j= .empty∧Q (.free (dg K t (t.probeStart h)).j false) s)∨∃ i b,t.slot (dg K t (t.probeStart h)).j= .live i∧t.place[i]?=some (dg K t (t.probeStart h)).j∧es[i]?=some (h,.ref b)∧T.is s.heap k b∧Q (.there none) s) :
 ∀ (d m fuel:Nat) (Gk:Option Probe),K=m+d→d < fuel→Gk.getD (t.probeStart h)=dg m t (t.probeStart h)→wpAny (model prog w) A (setSearchFrom S (.ref a) h true fuel Gk) Q E s:=by
 intro d
 induction d using Nat.strongRecOn with
 | ind d ih=>
   intro m fuel Gk e1 e2 e3
   cases fuel with
   | zero=>omega
   | succ f=>
     unfold setSearchFrom
     refine wpAny_bind (wpAny_setState_of ho hd g.fits ?_)
     have gw:t.gaveWay=false:=by
      unfold SetTable.gaveWay
      rcases g.2.2.1 with z | z | z | z <;> rw [z] <;> rfl
     simp only [gw,Bool.false_eq_true,if_false]
     rw [e3]
     have ek:dg d t (dg m t (t.probeStart h))=dg K t (t.probeStart h):=by rw [← jh,← e1]
     have key:∀ (H:Nat→Int) (r:Option Met),(∀ (i:Nat) (b:Addr),es[i]?=some (h,Value.ref b)→H i=h)→t.probe H h (dg m t (t.probeStart h))=r→
      (t.slot (dg K t (t.probeStart h)).j= .empty∧r=some (.empty (dg K t (t.probeStart h)).j none))∨∃ m' i,m'≤d∧r=some (.candidate (dg m' t (dg m t (t.probeStart h))).j i (dg (m'+1) t (dg m t (t.probeStart h))))∧t.slot (dg m' t (dg m t (t.probeStart h))).j= .live i∧t.place[i]?=some (dg m' t (dg m t (t.probeStart h))).j:=fun H r hH e=>by
      rw [← e]
      have:=Gj (hashAt:=H) (h:=h) g.2.1 d (10*turns t.mask) (dg m t (t.probeStart h)) (by omega) (fun m' hm'=>by rw [← jh];exact hp (m+m') (by omega)) (sA t m _) (by
       rw [ek]
       rcases hf with ⟨z,_⟩ | ⟨i,b,z1,z2,z3,_⟩
       ·exact .inl z
       ·exact .inr ⟨i,z1,z2,hH i b z3⟩)
      rw [ek] at this
      exact this
     have hH:∀ (i:Nat) (b:Addr),es[i]?=some (h,Value.ref b)→((es[i]?.map fun e:Int ×Value=>e.1).getD 0)=h:=fun i b e=>by rw [e];rfl
     split
     ·rename_i met heq
      rcases key _ _ (fun i b e=>hH i b e) heq with ⟨z,e⟩ | ⟨m',i,h1,e,hl,OF⟩
      ·cases e
       rcases hf with ⟨_,q⟩ | ⟨i,b,z1,_⟩
       ·exact wpAny_pure q
       ·rw [z1] at z;cases z
      ·cases e
       have hi:i < es.size:=by
        have:=(Array.getElem?_eq_some_iff.mp OF).1
        rw [g.1] at this
        exact this
       obtain ⟨b,l,eb,hb,hq⟩:=hes es[i] (Array.mem_toList_iff.mpr (Array.getElem_mem hi))
       have ey:es[i]?=some (es[i].1,Value.ref b):=by rw [Array.getElem?_eq_getElem hi,← eb]
       have sm:t.sameMemory t.moves t.mask=some true:=by unfold sameMemory;simp
       have go:wpAny (model prog w) A (do
        let equal ← holding [Value.ref b] (eqBool (.ref b) (.ref a))
        let (es',_,t') ← setState S
        if true && equal then return .there none
        let some same:=t'.sameMemory t.moves t.mask | unsupported "set.changed-during-lookup:is-the-new-block-at-the-old-address"
        let OO ← match (if same then t'.slot (dg m' t (dg m t (t.probeStart h))).j else .empty) with
         | .live i'=>match es'[i']? with
           | some (_,y')=>do pure (if ← isSame y' (Value.ref b) then some i' else none)
           | none=>pure none
         | _=>pure none
        match OO with
        | none=>rule "set.search.anew";setSearchFrom S (.ref a) h true f none
        | some i'=>if equal then return .there (some i') else setSearchFrom S (.ref a) h true f (some (dg (m'+1) t (dg m t (t.probeStart h))))) Q E s:=by
        by_cases c:l=k
        ·subst c
         refine wpAny_bind (wpAny_holding (TS.same hr hb hx ?_))
         refine wpAny_bind (wpAny_setState_of ho hd g.fits ?_)
         simp only [Bool.and_self,if_true]
         exact wpAny_pure (hq rfl)
        ·by_cases md:m'=d
         ·subst md
          rcases hf with ⟨z,_⟩ | ⟨i0,b0,z1,z2,z3,z4,z5⟩
          ·rw [← ek] at z
           rw [hl] at z
           cases z
          ·rw [← ek,hl] at z1
           cases z1
           rw [ey] at z3
           cases z3
           refine wpAny_bind (wpAny_holding (TS.same hr z4 hx ?_))
           refine wpAny_bind (wpAny_setState_of ho hd g.fits ?_)
           simp only [Bool.and_self,if_true]
           exact wpAny_pure z5
         ·refine wpAny_bind (wpAny_holding (T.other hr hb hx c ?_))
          refine wpAny_bind (wpAny_setState_of ho hd g.fits ?_)
          simp only [Bool.and_false,Bool.false_eq_true,if_false,sm,if_true,hl,ey]
          refine wpAny_bind (wpAny_isSame_ref_self ?_)
          refine wpAny_bind (wpAny_pure ?_)
          simp only [if_true,Bool.false_eq_true,if_false]
          exact ih (d - (m'+1)) (by omega) (m+(m'+1)) f (some _) (by omega) (by omega) (by show dg (m'+1) t (dg m t (t.probeStart h))=_;rw [← jh])
       dsimp only
       refine wpAny_ite ?_
       split
       ·refine wpAny_bind (FQ hx ?_ _ fun y hy=>?_)
        rotate_left
        ·obtain ⟨e,he,rfl⟩:=List.mem_map.mp hy
         have he:=(Array.mem_filter.mp (Array.mem_toList_iff.mp he)).1
         obtain ⟨b,l,eb,hb,_⟩:=hes e (Array.mem_toList_iff.mpr he)
         exact ⟨b,l,eb,hb⟩
        simp only [Bool.false_eq_true,if_false]
        rw [ey]
        exact go
       ·rw [ey]
        exact go
     ·rename_i heq
      rcases key _ _ (fun i b e=>hH i b e) rfl with ⟨z,e⟩ | ⟨m',i,h1,e,hl,OF⟩
      ·exact (heq _ e).elim
      ·exact (heq _ e).elim
theorem wD {S:Addr} {o:Obj} {es es1:Array (Int ×Value)} {ep n1:Nat} {t t1:SetTable} {Q:Bool→Shared→Prop} (ho:s.heap.get? S=some o) (hex:o.ExactSet) (hd:o.data= .set es ep t) (RS:es1.size≤306) (h0:0 < es1.size) (en:n1=es1.size)
 (hp:t1.place.size=es1.size) (PK:t1.dummies= #[]) (hm:o4 t1.mask) (hb:(es1.size - 1)*5 < t1.mask*3) (hR:SetTable.Reach t1 es1)
 (h:∀ (h':Heap) (o':Obj) (es':Array (Int ×Value)) (Ka:Nat) (t':SetTable),Heap.SameBut S s.heap h'→h'.get? S=some o'→o'.ExactSet→o'.data= .set es' Ka t'→t'.Good es'.size→es'.size=es1.size→
  (∀ e∈es'.toList,e∈es1.toList)→(∀ e∈es1.toList,e∈es'.toList)→SetTable.Reach t' es'→t'.led=t1.led→t'.plain=t1.plain→Q true { s with heap:=h' }) :
 wpAny (model prog w) A (do
  storeSet S es1 t1
  if (!false && t1.tooFull)=true then do
   setRelay S (grown n1)
   pure true
  else pure true) Q E s:=by
 subst en
 have RT:t1.fits es1.size=true:=by
  unfold SetTable.fits fill
  rw [hp,PK]
  rcases hm with z | z | z | z <;> rw [z] at hb ⊢ <;> simp <;> omega
 have szl:es1.size≤sizeLine:=by rw [sizeLine_eq];omega
 refine wpAny_bind (wpAny_storeSet_of ho hd ?_ szl)
 have PL:(s.heap.update S (Obj.putSet es1 t1)).get? S=some { o with data:= .set es1 (ep+1) t1 }:=by
  have:=Heap.get?_update_self (Obj.putSet es1 t1) ho (by rw [putSet_of es1 t1 hd];rfl)
  rw [putSet_of es1 t1 hd] at this
  exact this
 have Of:=Heap.SameBut.update s.heap S (Obj.putSet es1 t1)
 by_cases c:t1.tooFull=true
 ·rw [c]
  simp only [Bool.not_false,Bool.and_self,if_true]
  have c':t1.mask*3≤es1.size*5:=by
   unfold tooFull fill at c
   rw [hp,PK] at c
   simpa using c
  obtain ⟨hm2,hn2⟩:o4 (sizeAbove (grown es1.size) - 1)∧es1.size*5 < (sizeAbove (grown es1.size) - 1)*3:=by
   rcases hm with z | z | z | z
   ·have e5:es1.size=5:=by omega
    rw [e5]
    exact ⟨.inr (.inl (by decide)),by decide⟩
   ·have e5:es1.size=19:=by omega
    rw [e5]
    exact ⟨.inr (.inr (.inl (by decide))),by decide⟩
   ·have e5:es1.size=77:=by omega
    rw [e5]
    exact ⟨.inr (.inr (.inr (by decide))),by decide⟩
   ·omega
  have small:¬ sizeAbove (grown es1.size) > sizeLine:=by
   rw [sizeLine_eq]
   rcases hm2 with z | z | z | z <;> omega
  obtain ⟨t2,order,er,g2,so,lo,R2,C2,ld,pl⟩:=wC (t:=t1) (es:=es1) (wanted:=grown es1.size) hm2 hn2
  have CN:(order.filterMap (es1[·]?)).size=es1.size:=by
   have key:∀ l:List Nat,(∀ v∈l,v < es1.size)→(l.filterMap (es1[·]?)).length=l.length:=fun l=>by
    induction l with
    | nil=>intro _;rfl
    | cons v l ih=>
      intro hv
      have lv:=hv v (by simp)
      rw [List.filterMap_cons,Array.getElem?_eq_getElem lv]
      simp only [List.length_cons]
      rw [ih fun u hu=>hv u (List.mem_cons_of_mem _ hu)]
   rw [← Array.length_toList,Array.toList_filterMap,key _ fun v hv=>lo v (Array.mem_toList_iff.mp hv),Array.length_toList]
   exact so
  have OP:∀ e∈(order.filterMap (es1[·]?)).toList,e∈es1.toList:=fun e he=>by
   rw [Array.toList_filterMap] at he
   obtain ⟨v,_,hv⟩:=List.mem_filterMap.mp he
   exact Array.mem_toList_iff.mpr (Array.mem_of_getElem? hv)
  unfold setRelay
  refine wpAny_bind (wpAny_bind (wpAny_setState_of PL rfl RT ?_))
  dsimp only
  rw [if_neg small,er]
  refine wpAny_bind ?_
  show wpAny _ _ (if ((order.filterMap (es1[·]?)).size !=es1.size)=true then _ else _) _ _ _
  rw [if_neg (by rw [CN];simp)]
  refine wpAny_pure ?_
  dsimp only
  generalize order.filterMap (es1[·]?)=MI at CN OP R2 C2
  refine wpAny_storeSet_of PL rfl ?_ (by rw [CN];exact szl)
  have hd1:({ o with data:= .set es1 (ep+1) t1 }:Obj).data= .set es1 (ep+1) t1:=rfl
  have ho2:((s.heap.update S (Obj.putSet es1 t1)).update S (Obj.putSet MI t2)).get? S=some { o with data:= .set MI (ep+2) t2 }:=by
   have:=Heap.get?_update_self (Obj.putSet MI t2) PL (by rw [putSet_of MI t2 hd1];rfl)
   rw [putSet_of MI t2 hd1] at this
   exact this
  refine wpAny_pure (h _ _ MI (ep+2) t2 (Of.trans (Heap.SameBut.update _ S _)) ho2 hex rfl (by rw [CN];exact g2) CN OP C2 R2 ld pl)
 ·rw [show t1.tooFull=false by simpa using c]
  simp only [Bool.not_false,Bool.and_false,Bool.false_eq_true,if_false]
  refine wpAny_pure (h _ _ es1 (ep+1) t1 Of PL hex rfl ⟨hp,PK,hm,?_⟩ rfl (fun e he=>he) (fun e he=>he) hR rfl rfl)
  unfold tooFull fill at c
  rw [hp,PK] at c
  simpa using c
theorem least {P:Nat→Prop}:∀ n,P n→∃ K,K≤n∧P K∧∀ m,m < K→¬ P m:=by
 intro n
 induction n using Nat.strongRecOn with
 | ind n ih=>
   intro h
   by_cases c:∃ m,m < n∧P m
   ·obtain ⟨m,h1,h2⟩:=c
    obtain ⟨K,h3,h4,h5⟩:=ih m h1 h2
    exact ⟨K,by omega,h4,h5⟩
   ·exact ⟨n,Nat.le_refl _,h,fun m hm hP=>c ⟨m,hm,hP⟩⟩
def Dp {prog:Program} {w:World} {κ:Type} (T:cE prog w κ) (h:Heap) (S:Addr) (led:Bool) (ls:List κ):Prop:=
 ∃ o es ep t,h.get? S=some o∧o.ExactSet∧o.data= .set es ep t∧t.Good es.size∧SetTable.Reach t es∧t.led=led∧t.plain=true∧es.size=ls.length∧
   (∀ e∈es.toList,∃ b l,e=(T.hash l,.ref b)∧T.is h l b∧l∈ls)∧∀ l∈ls,∃ e∈es.toList,∃ b,e=(T.hash l,.ref b)∧T.is h l b
theorem Dp.moved {s s':Shared} {S:Addr} {led:Bool} {ls:List κ} (h:Dp T s.heap S led ls) (mv:∀ b o,s.heap.get? b=some o→(b=S∨o.cls= .type "tuple")→s'.heap.get? b=some o):Dp T s'.heap S led ls:=by
 obtain ⟨o,es,ep,t,ho,hex,hd,g,R,hl,hp,sz,c1,c2⟩:=h
 refine ⟨o,es,ep,t,mv S o ho (.inl rfl),hex,hd,g,R,hl,hp,sz,fun e h1=>?_,fun l h1=>?_⟩
 ·obtain ⟨b,l,h2,h3,h4⟩:=c1 e h1
  exact ⟨b,l,h2,T.keeps h3 fun b o e c=>mv b o e (.inr c),h4⟩
 ·obtain ⟨e,h2,b,h3,h4⟩:=c2 l h1
  exact ⟨e,h2,b,h3,T.keeps h4 fun b o e c=>mv b o e (.inr c)⟩
theorem IJ (TS:gY T) {S a:Addr} {led:Bool} {ls:List κ} {k:κ} {Q:Bool→Shared→Prop} (hr:T.room A) (hS:Dp T s.heap S led ls) (hx:T.is s.heap k a) (hn:ls.length < 306)
 (h1:k∈ls→Q false { s with toks:=s.toks+T.draws k })
 (h2:k∉ls→∀ h',Heap.SameBut S s.heap h'→(∃ o,s.heap.get? S=some o∧o.cls= .type "set")→Dp T h' S led (k :: ls)→Q true { s with heap:=h',toks:=s.toks+T.draws k }) :
 wpAny (model prog w) A (setAdd S (.ref a)) Q E s:=by
 obtain ⟨o,es,ep,t,ho,hex,hd,g,R,hl,hp,sz,c1,c2⟩:=hS
 unfold setAdd
 refine wpAny_holding (wpAny_bind (T.pyHash hr hx ?_))
 unfold setAddHashed setAddHashedIn
 refine wpAny_holding (wpAny_bind (wpAny_setState_of (s:={ s with toks:=s.toks+T.draws k }) ho hd g.fits ?_))
 dsimp only
 rw [show byScan (Value.ref a) es=false from rfl]
 simp only [Bool.false_eq_true,if_false]
 unfold setSearch
 by_cases hk:k∈ls
 ·obtain ⟨e,he,b,rfl,hb⟩:=c2 k hk
  obtain ⟨i,hi⟩:=List.getElem?_of_mem he
  rw [Array.getElem?_toList] at hi
  obtain ⟨j,hj,K,hK,ej,hw⟩:=R.at_ i _ hi
  have Nv:K < 100000:=by
   unfold turns at hK
   rcases g.2.2.1 with z | z | z | z <;> rw [z] at hK <;> omega
  have qq:=h1 hk
  refine wpAny_bind (sG (s:={ s with toks:=s.toks+T.draws k }) TS hr ho hd g hx (fun e h3=>?_) hK (fun m hm=>yM R.rise (hw m hm)) (.inr ⟨i,b,?_,?_,hi,hb,?_⟩) K 0 100000 none (by omega) Nv rfl)
  ·obtain ⟨b',l,rfl,h5,_⟩:=c1 e h3
   exact ⟨b',l,rfl,h5,fun _=>wpAny_pure qq⟩
  ·have ej:(dg K t (t.probeStart (T.hash k))).j=j:=ej
   rw [ej]
   exact vp R.rise hj
  ·have ej:(dg K t (t.probeStart (T.hash k))).j=j:=ej
   rw [ej]
   exact hj
  ·exact wpAny_pure qq
 ·obtain ⟨K0,WC,U4⟩:=FN g (T.hash k)
  obtain ⟨K,hKK,hf,hmin⟩:=least (P:=fun m=>t.slot (dg m t (t.probeStart (T.hash k))).j= .empty) K0 U4
  have hK:K < 10*turns t.mask:=by omega
  have Nv:K < 100000:=by
   unfold turns at hK
   rcases g.2.2.1 with z | z | z | z <;> rw [z] at hK <;> omega
  have no:∀ e∈es.toList,∃ b l,e.2= .ref b∧T.is s.heap l b∧l≠k:=fun e h3=>by
   obtain ⟨b',l,rfl,h5,h6⟩:=c1 e h3
   exact ⟨b',l,rfl,h5,fun z=>hk (z▸h6)⟩
  refine wpAny_bind (sG (s:={ s with toks:=s.toks+T.draws k }) TS hr ho hd g hx (fun e h3=>?_) hK hmin (.inl ⟨hf,?_⟩) K 0 100000 none (by omega) Nv rfl)
  ·obtain ⟨b',l,h4,h5,h6⟩:=no e h3
   exact ⟨b',l,h4,h5,fun z=>absurd z h6⟩
  generalize ej:(dg K t (t.probeStart (T.hash k))).j=j at hf
  dsimp only
  refine wpAny_bind (wpAny_setState_of (s:={ s with toks:=s.toks+T.draws k }) ho hd g.fits ?_)
  dsimp only
  have sp:(insertAt es (t.put j).2 (T.hash k,Value.ref a)).size=es.size+1:=by
   have:=(insertAt_perm es (t.put j).2 (T.hash k,Value.ref a)).length_eq
   rw [Array.length_toList,Array.length_toList,Array.size_push] at this
   exact this
  have mp:∀ e,e∈(insertAt es (t.put j).2 (T.hash k,Value.ref a)).toList↔e∈es.toList∨e=(T.hash k,.ref a):=fun e=>by
   rw [(insertAt_perm es (t.put j).2 (T.hash k,Value.ref a)).mem_iff,Array.toList_push,List.mem_append,List.mem_singleton]
  have pp:(t.put j).1.place.size=es.size+1:=by
   have:=(insertAt_perm t.place (below t.place j) j).length_eq
   rw [Array.length_toList,Array.length_toList,Array.size_push,g.1] at this
   exact this
  have pd:(t.put j).1.dummies= #[]:=by
   show (if has t.dummies j then _ else t.dummies)= #[]
   rw [g.2.1,if_neg (by unfold has;simp)]
  have pm:(t.put j).1.mask=t.mask:=rfl
  have rp:SetTable.Reach (t.put j).1 (insertAt es (t.put j).2 (T.hash k,Value.ref a)):=Dm g rfl R (fun z=>yM R.rise z hf) ⟨K,hK,ej,fun m hm=>Ge g.2.1 (hmin m hm)⟩
  have fin:∀ n1,n1=es.size+1→wpAny (model prog w) A (do
   storeSet S (insertAt es (t.put j).2 (T.hash k,Value.ref a)) (t.put j).1
   if (!false && (t.put j).1.tooFull)=true then do
    setRelay S (grown n1)
    pure true
   else pure true) Q E { s with toks:=s.toks+T.draws k }:=fun n1 e1=>by
   refine wD (s:={ s with toks:=s.toks+T.draws k }) ho hex hd (by rw [sp];omega) (by rw [sp];omega) (by rw [sp];exact e1) (by rw [sp];exact pp) pd (by rw [pm];exact g.2.2.1) (by rw [sp,pm];exact g.2.2.2) rp fun h' o' es' Ka t' q1 q2 q3 q4 q5 q6 q7 q8 q9 Rh U5=>?_
   have kp:∀ c o2,s.heap.get? c=some o2→o2.cls= .type "tuple"→h'.get? c=some o2:=fun c o2 e z=>by
    have ne:c≠S:=fun h=>by
     subst h
     rw [ho] at e
     cases e
     rw [hex.1] at z
     injection z with z
     exact absurd z (by decide)
    rw [q1.2 c ne]
    exact e
   refine h2 hk h' q1 ⟨o,ho,hex.1⟩ ⟨o',es',Ka,t',q2,q3,q4,q5,q9,by rw [Rh];exact hl,by rw [U5];exact hp,by rw [q6,sp,sz];rfl,fun e h3=>?_,fun l h3=>?_⟩
   ·rcases (mp e).mp (q7 e h3) with h4 | rfl
    ·obtain ⟨b',l,h5,h6,h7⟩:=c1 e h4
     exact ⟨b',l,h5,T.keeps h6 kp,List.mem_cons_of_mem _ h7⟩
    ·exact ⟨a,k,rfl,T.keeps hx kp,List.mem_cons_self⟩
   ·rcases List.mem_cons.mp h3 with rfl | h3
    ·exact ⟨_,q8 _ ((mp _).mpr (.inr rfl)),a,rfl,T.keeps hx kp⟩
    ·obtain ⟨e,h4,b',h5,h6⟩:=c2 l h3
     exact ⟨e,q8 _ ((mp _).mpr (.inl h4)),b',h5,T.keeps h6 kp⟩
  have U6:(t.put j).1.plain=true:=hp
  rw [U6]
  simp only [if_true]
  refine wpAny_bind (T.yI (s:={ s with toks:=s.toks+T.draws k }) hx ?_)
  simp only [if_true]
  exact fin _ rfl
end
end PySem
namespace PySem
open SetTable
def PM {prog:Program} {w:World} {κ:Type} (T:cE prog w κ) (h:Heap) (S:Addr) (led:Bool) (i:Nat) (key:Nat→κ):Prop:= ∃ ls:List κ,ls.Nodup∧(∀ l,l∈ls↔∃ j,j < i∧key j=l)∧Dp T h S led ls
section
variable {prog:Program} {w:World} {κ:Type} {T:cE prog w κ} {A:Around} {R:Result→Shared→Prop} {I:Addr} {fp wr:List Addr} {G:Array GenState→Array GenState→Prop} {n:Nat} {P:Nat→Value→Prop} {St:Nat→Shared→Prop}
theorem p7 {α:Type}:∀ (l:List α) (i:Nat) (f:Nat→α),l.Nodup→(∀ x∈l,∃ j,j < i∧f j=x)→l.length≤i:=by
 intro l i f nd h
 have:∃ m:List Nat,m.Nodup∧m.length=l.length∧(∀ x∈m,x < i)∧m.map f=l:=by
  induction l with
  | nil=>exact ⟨[],List.nodup_nil,rfl,(fun _ z=>by cases z),rfl⟩
  | cons a l ih=>
    obtain ⟨ha,nd⟩:=List.nodup_cons.mp nd
    obtain ⟨m,h1,h2,h3,h4⟩:=ih nd fun x hx=>h x (List.mem_cons_of_mem _ hx)
    obtain ⟨j,hj,e⟩:=h a List.mem_cons_self
    refine ⟨j :: m,List.nodup_cons.mpr ⟨fun z=>ha ?_,h1⟩,by simp [h2],fun x hx=>?_,by rw [List.map_cons,h4,e]⟩
    ·rw [← h4,← e]
     exact List.mem_map.mpr ⟨j,z,rfl⟩
    ·rcases List.mem_cons.mp hx with rfl | hx
     ·exact hj
     ·exact h3 x hx
 obtain ⟨m,h1,h2,h3,_⟩:=this
 have:=len_sub (m:=List.range i) h1 fun x hx=>List.mem_range.mpr (h3 x hx)
 rw [List.length_range] at this
 omega
theorem Dq (W:WalksS prog w A.in1 I fp wr G n P St) (hwr:∀ i s,St i s→∀ b∈wr,∀ o,s.heap.get? b=some o→o.cls≠ .type "tuple") {S:Addr} (hSf:S∉fp) (key:Nat→κ) (TS:gY T) (hr:T.room A.in1) (RS:n≤306) (led:Bool) :
 ∀ (d i:Nat) (s:Shared),n - i=d→i≤n→St i s→PM T s.heap S led i key→(∀ j v,P j v→∃ b,v= .ref b∧T.is s.heap (key j) b)→
   (∀ s',Moved (S :: wr) G s s'→PM T s'.heap S led n key→R (.ok (.ret .none)) s')→codeAny (model prog w) A (.builtin "set.update.loop" ⟨[.ref S,.ref I],[]⟩) R s:=by
 have U7:S∉wr:=fun h=>hSf (W.sub _ h)
 have up:∀ b∈wr,b∈S :: wr:=fun b hb=>List.mem_cons_of_mem _ hb
 have RU:∀ {i:Nat} {s s':Shared},St i s→Moved wr G s s'→∀ b o,s.heap.get? b=some o→(b=S∨o.cls= .type "tuple")→s'.heap.get? b=some o:=fun st mv b o e c=>mv.heap b o (fun hb=>by
  rcases c with c | c
  ·exact U7 (c▸hb)
  ·exact hwr _ _ st b hb o e c) e
 intro d
 induction d with
 | zero=>
   intro i s e0 hi st ⟨ls,nd,mem,hS⟩ hI hR
   obtain rfl:i=n:=by omega
   refine codeAny_builtin PyProof.Rows.F.entry_set_update_loop ?_
   rw [Around.under_plainId PyProof.Rows.F.plain_set_update_loop _]
   show wpAny _ A.in1 (pyNext (.ref I) >>= _) _ _ s
   refine wpAny_bind (W.done s _ _ st fun s' mv=>?_)
   exact wpAny_pure (hR s' (mv.mono up) ⟨ls,nd,mem,hS.moved (RU st mv)⟩)
 | succ d ih=>
   intro i s e0 hi st ⟨ls,nd,mem,hS⟩ hI hR
   have lt:i < n:=by omega
   have short:=p7 ls i key nd fun x hx=>(mem x).mp hx
   refine codeAny_builtin PyProof.Rows.F.entry_set_update_loop ?_
   rw [Around.under_plainId PyProof.Rows.F.plain_set_update_loop _]
   show wpAny _ A.in1 (pyNext (.ref I) >>= _) _ _ s
   refine wpAny_bind (W.item i s _ _ lt st fun v s1 hP st1 mv=>?_)
   have S8:=hS.moved (RU st mv)
   have ME:∀ j v,P j v→∃ b,v= .ref b∧T.is s1.heap (key j) b:=fun j v h=>by
    obtain ⟨b,e,hb⟩:=hI j v h
    exact ⟨b,e,T.keeps hb fun c o e z=>RU st mv c o e (.inr z)⟩
   obtain ⟨b,rfl,hb⟩:=ME i v hP
   show wpAny _ A.in1 (holding [Value.ref b] (setAdd S (.ref b)) >>= _) _ _ s1
   refine wpAny_bind (wpAny_holding (IJ TS hr S8 hb (by omega) (fun hk=>?_) fun hk h' sb RV RW=>?_))
   ·refine wpAny_pure ⟨plainId_quiet PyProof.Rows.F.plain_set_update_loop _,ih (i+1) _ (by omega) lt (W.frame _ s1 _ _ st1 (Nat.le_add_right _ _) fun c hc o e=>e) ⟨ls,nd,fun l=>?_,S8⟩ (fun j v h=>ME j v h) fun s2 RX RW=>?_⟩
    ·rw [mem l]
     constructor
     ·rintro ⟨j,h1,h2⟩
      exact ⟨j,by omega,h2⟩
     ·rintro ⟨j,h1,h2⟩
      by_cases c:j < i
      ·exact ⟨j,c,h2⟩
      ·obtain rfl:j=i:=by omega
       subst h2
       exact (mem _).mp hk
    ·exact hR s2 (Moved.trans W.gtrans ((mv.mono up).then_heap (Nat.le_add_right _ _) fun c o hc e=>e) RX) RW
   obtain ⟨oS,hoS,hcS⟩:=RV
   have kp:∀ c o,s1.heap.get? c=some o→o.cls= .type "tuple"→h'.get? c=some o:=fun c o2 e z=>by
    have ne:c≠S:=fun h=>by
     subst h
     rw [hoS] at e
     cases e
     rw [hcS] at z
     injection z with z
     exact absurd z (by decide)
    rw [sb.2 c ne]
    exact e
   refine wpAny_pure ⟨plainId_quiet PyProof.Rows.F.plain_set_update_loop _,ih (i+1) _ (by omega) lt (W.frame _ s1 _ _ st1 (Nat.le_add_right _ _) fun c hc o e=>?_) ⟨key i :: ls,List.nodup_cons.mpr ⟨hk,nd⟩,fun l=>?_,RW⟩ (fun j v h=>?_) fun s2 RX U8=>?_⟩
   ·rw [sb.2 c (fun h:c=S=>hSf (h▸hc))]
    exact e
   ·rw [List.mem_cons,mem l]
    constructor
    ·rintro (rfl | ⟨j,h1,h2⟩)
     ·exact ⟨i,by omega,rfl⟩
     ·exact ⟨j,by omega,h2⟩
    ·rintro ⟨j,h1,h2⟩
     by_cases c:j < i
     ·exact .inr ⟨j,c,h2⟩
     ·obtain rfl:j=i:=by omega
      exact .inl h2.symm
   ·obtain ⟨c,e,hc⟩:=ME j v h
    exact ⟨c,e,T.keeps hc kp⟩
   ·refine hR s2 (Moved.trans W.gtrans ((mv.mono up).then_heap (Nat.le_add_right _ _) fun c o hc e=>?_) RX) U8
    rw [sb.2 c (fun h:c=S=>hc (by rw [h];exact List.mem_cons_self))]
    exact e
end
section
variable {prog:Program} {w:World} {κ:Type} {T:cE prog w κ} {A:Around} {E:Value→Shared→Prop} {s:Shared}
theorem yR (a:Value) {Q₁:Value→Shared→Prop} (h:Q₁ (.ref s.heap.objs.size) { s with heap:=s.heap.push (qk (!(w.params.followText "set-order"))) }) :
 codeAny (model prog w) A (.call (.builtin "set.__new__") ⟨[.type "set",a],[]⟩) (wants Q₁ E) s:=by
 refine codeAny_of_tree (show wpAny _ A.in1 (checkBuiltinCall "set.__new__" ⟨[.type "set",a],[]⟩ >>= fun _=>again (.builtin "set.__new__" ⟨[.type "set",a],[]⟩)) _ _ s from ?_)
 refine wpAny_bind (wpAny_of_eq (F.newCall_set_1 a) (wpAny_pure ⟨plainId_quiet F.plain_set_new _,codeAny_builtin F.entry_set_new ?_⟩))
 rw [Around.under_plainId F.plain_set_new _]
 have hsub:=sub_set_self
 unfold Builtin.«set.__new__» Builtin.Frozenset.newClass
 obtain ⟨hp,g,d,tk,os⟩:=s
 dsimp only
 wp_walk
 refine wpAny_askSetting (wpAny_pure ?_)
 dsimp only
 simp only [newObj]
 exact wpAny_bind (wpAny_alloc (wpAny_pure (wpAny_pure h)))
set_option maxRecDepth 100000 in
theorem wF (TS:gY T) {l:Addr} {items:Array Value} {key:Nat→κ} {Q:Value→Shared→Prop} (hh:A.handled=none) (hr:T.room A.in1.in1.in1) (hl:s.heap.IsList l items) (RS:items.size≤306)
 (hi:∀ (i:Nat) v,items[i]?=some v→∃ b,v= .ref b∧T.is s.heap (key i) b)
 (h:∀ (h':Heap) (tk:Nat),PM T h' s.heap.objs.size (!(w.params.followText "set-order")) items.size key→(∀ b o,s.heap.get? b=some o→h'.get? b=some o)→s.toks≤tk→Q (.ref s.heap.objs.size) { s with heap:=h',toks:=tk }) :
 wpAny (model prog w) A (call (.type "set") [.ref l]) Q E s:=by
 obtain ⟨c,tl,U9⟩:=F.called_set.mro
 have made:=F.called_set.made
 have sub:=F.called_set.sub
 refine wpAny_call (codeAny_of_tree (show wpAny _ _ (callAny (.type "set") _) _ _ _ from ?_))
 refine wpAny_pure ⟨Code.quiet_builtin _ (by decide +kernel),codeAny_builtin F.entry_type_call ?_⟩
 rw [Around.under_plain (weight_type_call_type "set" [.ref l] []) rfl]
 have n1:=F.called_set.notType
 have n2:=F.called_set.canCreate
 have n3:=F.typeCall_set_1 (.ref l)
 repeat (any_goals (first | assumption | wp_step))
 generalize el:(!(w.params.followText "set-order"))=led
 refine codeAny_mono (yR (.ref l) (E:=E) (Q₁:=fun obj s₁=>obj= .ref s.heap.objs.size∧s₁= { s with heap:=s.heap.push (qk led) }) (by rw [el];exact ⟨rfl,rfl⟩)) fun r s₁ hq=>?_
 cases r with
 | error e=>exact hq
 | ok fl=>
   cases fl with
   | ret obj=>
     obtain ⟨rfl,rfl⟩:=hq
     have hS:(s.heap.push (qk led)).get? s.heap.objs.size=some (qk led):=Heap.get?_push_size _ rfl
     have hT:Shared.TypeIs { s with heap:=s.heap.push (qk led) } (.ref s.heap.objs.size) "set" :=⟨_,hS,rfl⟩
     have b1:=F.called_set.init.lookup
     have b2:=F.called_set.init.bind (.ref s.heap.objs.size)
     repeat (any_goals (first | assumption | wp_step))
     refine codeAny_mono (codeAny_call_builtin (R:=wants (fun r s₂=>r= .none∧∃ h' tk,s₂= { s with heap:=h',toks:=tk }∧PM T h' s.heap.objs.size (!(w.params.followText "set-order")) items.size key∧(∀ b o,s.heap.get? b=some o→h'.get? b=some o)∧s.toks≤tk) E) F.called_set.init.plain F.entry_set_init (check_set_init_1 hT ?_)) fun r₂ s₂ RY=>?_
     ·obtain ⟨ol,S9,hcl,nl,hdl⟩:=hl
      obtain ⟨Va,OQ,Tc,LD⟩:=ol
      simp only at hcl hdl
      subst hcl;subst hdl
      have RZ:(s.heap.push (qk led)).get? l=some { cls:= .type "list",dict:=OQ,data:= .seq items nl,slots:=LD }:=Heap.get?_push_of_some _ S9
      have m1:=F.sub_list_set
      have m2:=F.sub_list_frozenset
      have m3:(Value.type "list" == Value.type "dict")=false:=by decide
      have hl1:(s.heap.push (qk led)).IsList l items:=⟨_,RZ,rfl,nl,rfl⟩
      unfold Builtin.«set.__init__» noKeywords Builtin.Frozenset.updateFrom
      generalize Vb:pyIter=PI
      wp_walk
      subst Vb
      refine wpAny_pyIter_list hl1 (wpAny_bind (wpAny_runValue ?_))
      have ll:l < s.heap.objs.size:=Heap.lt_size S9
      have sz:(s.heap.push (qk led)).objs.size=s.heap.objs.size+1:=Heap.size_push ..
      have Vc:A.in1.in1.in1.handled=none:=by simp [hh]
      have ne1:l≠(s.heap.push (qk led)).objs.size:=by rw [sz];exact Nat.ne_of_lt (Nat.lt_succ_of_lt ll)
      have out:s.heap.objs.size∉[(s.heap.push (qk led)).objs.size,l]:=by
       rw [sz]
       intro z
       rcases List.mem_cons.mp z with z | z
       ·exact Nat.ne_of_lt (Nat.lt_succ_self _) z
       ·exact Nat.ne_of_gt ll (List.mem_singleton.mp z)
      have kp:∀ b o,s.heap.get? b=some o→((s.heap.push (qk led)).push { cls:= .type "list_iterator",data:= .fields #[.ref l,.int 0 0] }).get? b=some o:=fun b o e=>Heap.get?_push_of_some _ (Heap.get?_push_of_some _ e)
      refine Dq (T:=T) ((Walks.list Vc _ l ne1 items).toS) (fun i s st b hb o e=>?_) out key TS hr RS led (items.size - 0) 0 _ (by omega) (Nat.zero_le _) ⟨⟨_,Heap.get?_push_size _ rfl,rfl,rfl⟩,(hl1.push _)⟩ ?_ (fun j v e=>?_) fun s' mv hS'=>?_
      ·obtain ⟨⟨o2,e2,c2,_⟩,_⟩:=st
       rw [List.mem_singleton.mp hb] at e
       rw [e2] at e
       cases e
       rw [c2]
       intro z
       injection z with z
       exact absurd z (by decide)
      ·refine ⟨[],List.nodup_nil,fun l=>⟨fun z=>(by cases z),fun ⟨j,z,_⟩=>absurd z (Nat.not_lt_zero _)⟩,qk led,#[],0,.fresh 0 0 led,Heap.get?_push_of_some _ hS,⟨rfl,rfl,rfl⟩,rfl,⟨rfl,rfl,.inl rfl,(show 0*5 < 7*3 by decide)⟩,⟨Gb,fun i e z=>by simp at z⟩,rfl,rfl,rfl,fun e he=>by simp at he,fun l he=>by cases he⟩
      ·obtain ⟨b,e1,hb⟩:=hi j v e
       exact ⟨b,e1,T.keeps hb fun b o e _=>kp b o e⟩
      ·obtain ⟨h',g',d',tk',os'⟩:=s'
       have eg:g'=s.gens:=mv.gens
       have ed:d'=s.drawn:=mv.drawn
       have eo:os'=s.os:=mv.os
       have et:=mv.toks
       subst eg;subst ed;subst eo
       refine wpAny_pure (show wpAny _ _ (ret Value.none) _ _ _ from wpAny_pure ⟨rfl,h',tk',rfl,by rw [el];exact hS',fun b o e=>?_,et⟩)
       have lb:=Heap.lt_size e
       refine mv.heap b o (fun z=>?_) (kp b o e)
       rw [sz] at z
       rcases List.mem_cons.mp z with z | z
       ·exact Nat.ne_of_lt lb z
       ·exact Nat.ne_of_lt (Nat.lt_succ_of_lt lb) (List.mem_singleton.mp z)
     ·cases r₂ with
      | error e=>exact RY
      | ok Vd=>
        cases Vd with
        | ret r=>
          obtain ⟨rfl,h',tk,rfl,hS',hk',ht⟩:=RY
          repeat (any_goals (first | assumption | wp_step))
          exact h _ _ hS' hk' ht
        | _=>exact RY.elim
   | _=>exact hq.elim
end
end PySem
namespace PySem
open SetTable
namespace F
theorem fN:Manifest.owners.lookup (String.ofList ['r','o','t','a','r','e','t','i','_','t','e','s'].reverse)=some Manifest.sig_set_iterator:=by kernel_rfl
theorem cj:Slot "set_iterator" "__next__" "set_iterator.__next__" :=
 .of (owner:= "set_iterator") (n:= "__next__") (by rw [typeLookup_type,builtinLookup_eq_fast];kernel_rfl) (by decide +kernel) (by decide +kernel) (by decide +kernel)
  (by first | exact .inl (by decide +kernel) | exact .inr (by decide +kernel)) (by rw [isSubtype_type];kernel_rfl)
theorem jy:entryFor table "set_iterator.__next__" =some Builtin.«set_iterator.__next__» :=entryFor_of_tree (by kernel_rfl)
theorem iT (a:Value):argsOk "set_iterator.__next__" ⟨[a],[]⟩:=by
 unfold argsOk;rw [signature?_of (id:= "set_iterator.__next__") (n:=['_','_','t','x','e','n','_','_']) (o:=['r','o','t','a','r','e','t','i','_','t','e','s']) (by kernel_rfl) fN];kernel_rfl
theorem kc:Slot "set_iterator" "__iter__" "set_iterator.__iter__" :=
 .of (owner:= "set_iterator") (n:= "__iter__") (by rw [typeLookup_type,builtinLookup_eq_fast];kernel_rfl) (by decide +kernel) (by decide +kernel) (by decide +kernel)
  (by first | exact .inl (by decide +kernel) | exact .inr (by decide +kernel)) (by rw [isSubtype_type];kernel_rfl)
theorem o5 (a:Value):argsOk "set_iterator.__iter__" ⟨[a],[]⟩:=by
 unfold argsOk;rw [signature?_of (id:= "set_iterator.__iter__") (n:=['_','_','r','e','t','i','_','_']) (o:=['r','o','t','a','r','e','t','i','_','t','e','s']) (by kernel_rfl) fN];kernel_rfl
theorem ql:entryFor table "set_iterator.__iter__" =some Builtin.«dict_keyiterator.__iter__» :=
 entryFor_alias (id':= "dict_keyiterator.__iter__") (by kernel_rfl) (by first | rfl | decide +kernel | (unfold String.splitOn;simp +decide [String.splitOnAux])) (by decide +kernel) (by kernel_rfl)
theorem qm:entryFor table "set.__iter__" =some Builtin.«frozenset.__iter__» :=
 entryFor_alias (id':= "frozenset.__iter__") (by kernel_rfl) (by first | rfl | decide +kernel | (unfold String.splitOn;simp +decide [String.splitOnAux])) (by decide +kernel) (by kernel_rfl)
theorem wG:typeLookup (.type "set") "__len__" =pure (some (.builtin "set.__len__")):=by rw [typeLookup_type,builtinLookup_eq_fast];kernel_rfl
end F
theorem lK {α:Type}:∀ (l:List α) (i:Nat) (x:α),l[i]?=some x→(x :: l.eraseIdx i).Perm l
 | [],i,x,h=>by simp at h
 | a :: l,0,x,h=>by
   simp only [List.getElem?_cons_zero,Option.some.injEq] at h
   subst h
   exact List.Perm.refl _
 | a :: l,i+1,x,h=>by
   simp only [List.getElem?_cons_succ] at h
   exact (List.Perm.swap a x _).trans ((lK l i x h).cons a)
theorem BY {α:Type} (next:Nat→Nat):∀ (fuel k:Nat) (left:List α) (out:Array α),left.length≤fuel→(pickOrder.go next fuel k left out).toList.Perm (out.toList ++ left)
 | 0,k,left,out,h=>by
   have:left= []:=List.length_eq_zero_iff.mp (Nat.le_zero.mp h)
   subst this
   unfold pickOrder.go
   rw [List.append_nil]
 | fuel+1,k,left,out,h=>by
   unfold pickOrder.go
   cases c:left[next k % left.length]? with
   | none=>
     have:left= []:=by
      cases left with
      | nil=>rfl
      | cons a l=>
        rw [List.getElem?_eq_none_iff] at c
        have:=Nat.mod_lt (next k) (show 0 < (a :: l).length by simp)
        omega
     subst this
     dsimp only
     rw [List.append_nil]
   | some x=>
     dsimp only
     have e:=lK left _ x c
     have l1:=e.length_eq
     rw [List.length_cons] at l1
     refine (BY next fuel (k+1) _ (out.push x) (by omega)).trans ?_
     rw [Array.toList_push,List.append_assoc]
     exact e.append_left out.toList
theorem Dr {α:Type} (next:Nat→Nat) (xs:Array α):(pickOrder next xs).toList.Perm xs.toList:=by
 unfold pickOrder
 exact BY next xs.size 0 xs.toList #[] (by simp)
def cQ (w:World) (S:Addr) (ep:Nat) (es:Array (Int ×Value)):Array (Int ×Value):=if w.params.followText "set-order" then pickOrder (w.params.setOrder S ep) es else es
theorem yS (w:World) (S:Addr) (ep:Nat) (es:Array (Int ×Value)):(cQ w S ep es).toList.Perm es.toList:=by
 unfold cQ
 split
 ·exact Dr _ _
 ·exact List.Perm.refl _
theorem nL (w:World) (S:Addr) (ep:Nat) (es:Array (Int ×Value)):(cQ w S ep es).size=es.size:=by
 have:=(yS w S ep es).length_eq
 simpa using this
def bQ (h:Heap) (I S:Addr) (slot i n ep:Nat):Prop:= ∃ o,h.get? I=some o∧o.cls= .type "set_iterator"∧o.data= .fields #[.int slot 0,.int i 0,.ref S,.int n 0,.int ep 0]
theorem bQ.typeIs {s:Shared} {I S:Addr} {slot i n ep:Nat} (x:bQ s.heap I S slot i n ep):s.TypeIs (.ref I) "set_iterator" :=let ⟨o,ho,hc,_⟩:=x;⟨o,ho,hc⟩
structure qo (w:World) (h:Heap) (S:Addr) (es:Array (Int ×Value)) (ep:Nat) (t:SetTable):Prop where
 at':∃ o,h.get? S=some o∧o.ExactSet∧o.data= .set es ep t
 good:t.Good es.size
 rise:uw t.place
 led:t.led=!(w.params.followText "set-order")
 plain:t.plain=true
section
variable {prog:Program} {w:World} {A:Around} {E:Value→Shared→Prop} {s:Shared} {I S:Addr} {es:Array (Int ×Value)} {ep slot i:Nat} {t:SetTable}
theorem AD (g:t.Good es.size):t.place.size=es.size:=by
 have:=g.fits
 simp only [SetTable.fits,Bool.and_eq_true,beq_iff_eq,decide_eq_true_eq] at this
 exact this.1
theorem yT (x:qo w s.heap S es ep t) (hb:w.params.followText "set-order" =false→below t.place slot=i) {Q:Option (Value ×Nat)→Shared→Prop}
 (h1:∀ (e:Int ×Value) (next:Nat),(cQ w S ep es)[i]?=some e→(w.params.followText "set-order" =false→below t.place next=i+1)→Q (some (e.2,next)) s) (h2:(cQ w S ep es)[i]?=none→Q none s) :
 wpAny (model prog w) A (setNext S slot i ep) Q E s:=by
 obtain ⟨o,ho,hex,hd⟩:=x.at'
 unfold setNext setsByText
 refine wpAny_bind (wpAny_setState_of ho hd x.good.fits ?_)
 refine wpAny_bind (wpAny_bind (wpAny_askSetting (wpAny_pure ?_)))
 dsimp only
 show wpAny _ _ (if w.params.followText "set-order" =true then _ else _) _ _ _
 unfold cQ at h1 h2
 cases c:w.params.followText "set-order" with
 | true=>
   rw [c] at h1 h2
   simp only [if_true] at h1 h2 ⊢
   rw [if_neg (by simp)]
   unfold setWalk setsByText
   refine wpAny_bind (wpAny_bind (wpAny_setState_of ho hd x.good.fits ?_))
   refine wpAny_bind (wpAny_bind (wpAny_askSetting (wpAny_pure ?_)))
   dsimp only
   show wpAny _ _ (if w.params.followText "set-order" =true then _ else _) _ _ _
   rw [c]
   simp only [if_true]
   refine wpAny_bind (wpAny_askSetting (wpAny_pure (wpAny_pure ?_)))
   show Q (((pickOrder (w.params.setOrder S ep) es)[i]?).map fun e=>(e.2,slot)) s
   cases e:(pickOrder (w.params.setOrder S ep) es)[i]? with
   | none=>exact h2 e
   | some z=>exact h1 z slot e (fun z=>by simp at z)
 | false=>
   rw [c] at h1 h2
   simp only [Bool.false_eq_true,if_false] at h1 h2 ⊢
   have hl:=x.led
   rw [c] at hl
   show wpAny _ _ (if (!t.plain && decide (es.size > 1))=true then _ else _) _ _ _
   rw [x.plain,if_neg (by simp)]
   refine wpAny_bind (show wpAny _ _ (if (!t.led && !es.isEmpty)=true then _ else _) _ _ _ from ?_)
   rw [hl,if_neg (by simp)]
   refine wpAny_pure (wpAny_pure ?_)
   rw [hb c]
   have ps:=AD x.good
   cases e:es[i]? with
   | none=>exact h2 e
   | some z=>
     have li:i < es.size:=by
      obtain ⟨l,_⟩:=Array.getElem?_eq_some_iff.mp e
      exact l
     have ep:t.place[i]?=some t.place[i]:=Array.getElem?_eq_getElem (by omega)
     rw [ep]
     refine h1 z _ e fun _=>?_
     obtain ⟨b1,b2,b3⟩:=gD x.rise (t.place[i]+1)
     have lb:¬ below t.place (t.place[i]+1)≤i:=fun z=>by
      have:=b3 i _ z ep
      omega
     have ub:¬ i+1 < below t.place (t.place[i]+1):=fun z=>by
      have l2:i+1 < t.place.size:=by omega
      have q:=b2 (i+1) _ z (Array.getElem?_eq_getElem l2)
      have q2:=x.rise i (i+1) _ _ (Nat.lt_succ_self _) ep (Array.getElem?_eq_getElem l2)
      omega
     omega
theorem bQ.upd {h:Heap} {o:Obj} {n slot':Nat} (ho:h.get? I=some o) (hc:o.cls= .type "set_iterator") (hd:o.data= .fields #[.int slot 0,.int i 0,.ref S,.int n 0,.int ep 0]) :
 bQ ((h.update I (Obj.mapFields (·.setIfInBounds 0 (rawInt slot')))).update I (Obj.mapFields (·.setIfInBounds 1 (rawInt ((i:Int)+1))))) I S slot' (i+1) n ep:=by
 have h1:=Heap.get?_update_self (Obj.mapFields (·.setIfInBounds 0 (rawInt slot'))) ho (Obj.isFreed_of_fields (Obj.data_mapFields hd _))
 have d1:=Obj.data_mapFields hd (·.setIfInBounds 0 (rawInt slot'))
 have h2:=Heap.get?_update_self (Obj.mapFields (·.setIfInBounds 1 (rawInt ((i:Int)+1)))) h1 (Obj.isFreed_of_fields (Obj.data_mapFields d1 _))
 refine ⟨_,h2,(Obj.cls_mapFields ..).trans ((Obj.cls_mapFields ..).trans hc),?_⟩
 rw [Obj.data_mapFields d1]
 simp [rawInt]
theorem next_item {Q:Option Value→Shared→Prop} (hit:bQ s.heap I S slot i es.size ep) (x:qo w s.heap S es ep t) (ne:S≠I) (hb:w.params.followText "set-order" =false→below t.place slot=i) (li:i < es.size)
 (hQ:∀ (e:Int ×Value) (h':Heap) (next:Nat),(cQ w S ep es)[i]?=some e→bQ h' I S next (i+1) es.size ep→(w.params.followText "set-order" =false→below t.place next=i+1)→(∀ b o,b≠I→s.heap.get? b=some o→h'.get? b=some o)→Q (some e.2) { s with heap:=h' }) :
 wpAny (model prog w) A (pyNext (.ref I)) Q E s:=by
 obtain ⟨o,ho,hc,hd⟩:=id hit
 obtain ⟨oS,hoS,Ds,hdS⟩:=x.at'
 unfold pyNext
 refine wpAny_bind (wpAny_attempt (wpAny_callSpecial?_slot (name:=Str.ofString "__next__") hit.typeIs F.cj
  (wpAny_call_entry F.cj hit.typeIs F.jy ?_ (F.iT _))))
 unfold Builtin.«set_iterator.__next__»
 refine wpAny_bind (m:=slotArgs "__next__" 0 _) (wpAny_pure ?_)
 refine wpAny_bind (wpAny_fieldsOf ho hd ?_)
 show wpAny _ _ (setEntries S >>= _) _ _ s
 refine wpAny_bind (wpAny_setEntries_of hoS hdS x.good.fits ?_)
 rw [if_neg (by simp)]
 refine wpAny_bind (m:=pure _) (wpAny_pure ?_)
 show wpAny _ _ (setNext S (Int.toNat slot) (Int.toNat i) (Int.toNat ep) >>= _) _ _ s
 simp only [Int.toNat_natCast]
 refine wpAny_bind (yT x hb (fun e next h1 h2=>?_) fun h2=>?_)
 ·show wpAny _ _ (setField (.ref I) 0 (rawInt next) >>= _) _ _ s
  refine wpAny_bind (wpAny_setField ho hd (by simp) ?_)
  have Q7:=Heap.get?_update_self (Obj.mapFields (·.setIfInBounds 0 (rawInt next))) ho (Obj.isFreed_of_fields (Obj.data_mapFields hd _))
  refine wpAny_bind (wpAny_setField Q7 (Obj.data_mapFields hd _) (by simp) ?_)
  refine wpAny_pure ⟨_,rfl,wpAny_pure (hQ e _ next h1 (bQ.upd ho hc hd) h2 fun b o2 nb e2=>?_)⟩
  rw [Heap.get?_update_other _ _ (Ne.symm nb),Heap.get?_update_other _ _ (Ne.symm nb)]
  exact e2
 ·have:=nL w S ep es
  rw [Array.getElem?_eq_none_iff] at h2
  omega
theorem Dt {Q:Option Value→Shared→Prop} (hh:A.handled=none) (hit:bQ s.heap I S slot es.size es.size ep) (x:qo w s.heap S es ep t) (hb:w.params.followText "set-order" =false→below t.place slot=es.size)
 (hQ:∀ h',Heap.ExtBut I s.heap h'→Q none { s with heap:=h' }) :
 wpAny (model prog w) A (pyNext (.ref I)) Q E s:=by
 obtain ⟨o,ho,hc,hd⟩:=id hit
 obtain ⟨oS,hoS,Ds,hdS⟩:=x.at'
 unfold pyNext
 refine wpAny_bind (wpAny_attempt (wpAny_callSpecial?_slot (name:=Str.ofString "__next__") hit.typeIs F.cj
  (wpAny_call_entry F.cj hit.typeIs F.jy ?_ (F.iT _))))
 unfold Builtin.«set_iterator.__next__»
 refine wpAny_bind (m:=slotArgs "__next__" 0 _) (wpAny_pure ?_)
 refine wpAny_bind (wpAny_fieldsOf ho hd ?_)
 show wpAny _ _ (setEntries S >>= _) _ _ s
 refine wpAny_bind (wpAny_setEntries_of hoS hdS x.good.fits ?_)
 rw [if_neg (by simp)]
 refine wpAny_bind (m:=pure _) (wpAny_pure ?_)
 show wpAny _ _ (setNext S (Int.toNat slot) (Int.toNat es.size) (Int.toNat ep) >>= _) _ _ s
 simp only [Int.toNat_natCast]
 refine wpAny_bind (yT x hb (fun e next h1 h2=>?_) fun h2=>?_)
 ·obtain ⟨l,_⟩:=Array.getElem?_eq_some_iff.mp h1
  rw [nL] at l
  omega
 ·show wpAny _ _ (setField (.ref I) 2 .none >>= _) _ _ s
  refine wpAny_bind (wpAny_setField ho hd (by simp) ?_)
  show wpAny _ _ (newExc (.type "StopIteration") [] >>= _) _ _ _
  refine wpAny_bind ?_
  simp only [newExc,newTuple]
  refine wpAny_bind (wpAny_newObj_type ?_ (by size_fits))
  refine wpAny_bind (m:=firstArgMember _ _) (wpAny_of_eq (a:=Value.none) (by first | rfl | (simp only [firstArgMember];rfl)) ?_)
  refine wpAny_newObj_type ?_ (by size_fits)
  simp only [raiseNew]
  refine wpAny_bind (wpAny_handled ?_)
  rw [show A.in1.handled=none from hh]
  refine wpAny_bind (wpAny_pure (wpAny_throw ?_))
  refine wpAny_bind (wpAny_isInstance (T:= "StopIteration") (b:=true) ⟨_,Heap.get?_push_size _ rfl,rfl⟩ isSubtype_stop ?_)
  exact wpAny_pure (hQ _ (((Heap.SameBut.update ..).extBut.push _).push _))
theorem Du {n:Nat} {Q:Value→Shared→Prop} (hit:bQ s.heap I S slot i n ep) (h:Q (.ref I) s):wpAny (model prog w) A (pyIter (.ref I)) Q E s:=by
 refine wpAny_pyIter_slot hit.typeIs F.kc (wpAny_call_entry F.kc hit.typeIs F.ql ?_ (F.o5 _))
 show wpAny _ _ (ret (.ref I)) _ _ s
 exact wpAny_pure ⟨_,rfl,"set_iterator",_,hit.typeIs,F.cj.lookup,h⟩
theorem Gm {Q:Value→Shared→Prop} (x:qo w s.heap S es ep t)
 (h:Q (.ref s.heap.objs.size) { s with heap:=s.heap.push { cls:= .type "set_iterator",data:= .fields #[.int (0:Nat) 0,.int (0:Nat) 0,.ref S,.int es.size 0,.int ep 0] } }):wpAny (model prog w) A (pyIter (.ref S)) Q E s:=by
 obtain ⟨oS,hoS,Ds,hdS⟩:=x.at'
 have hT:s.TypeIs (.ref S) "set" :=⟨oS,hoS,Ds.1⟩
 refine wpAny_pyIter_slot hT F.slot_set_iter (wpAny_call_entry F.slot_set_iter hT F.qm ?_ (F.args_set_iter_1 _))
 unfold Builtin.«frozenset.__iter__» Builtin.Frozenset.slot0 slotArgs
 simp only [List.isEmpty_nil,Bool.not_true,Bool.false_eq_true,↓reduceIte,bind_assoc,List.length_nil,bne_self_eq_false]
 unfold Builtin.Frozenset.addrOf Builtin.Frozenset.sizeOf
 refine wpAny_bind (wpAny_pure ?_)
 try dsimp only
 refine wpAny_bind (wpAny_pure ?_)
 refine wpAny_bind (wpAny_bind (wpAny_setEntries_of hoS hdS x.good.fits (wpAny_pure ?_)))
 unfold setDrawn setsByText
 refine wpAny_bind (wpAny_bind (wpAny_setState_of hoS hdS x.good.fits ?_))
 refine wpAny_bind (wpAny_bind (wpAny_askSetting (wpAny_pure ?_)))
 dsimp only
 refine wpAny_pure ?_
 show wpAny _ _ (if (!w.params.followText "set-order" && (!t.plain && decide (es.size > 1)))=true then _ else _) _ _ _
 rw [x.plain,if_neg (by simp)]
 refine wpAny_bind (m:=pure _) (wpAny_pure ?_)
 refine wpAny_bind (wpAny_setEpoch_of hoS hdS x.good.fits ?_)
 refine wpAny_bind (wpAny_newObj_type (wpAny_pure ⟨_,rfl,"set_iterator",_,⟨_,Heap.get?_push_size _ rfl,rfl⟩,F.cj.lookup,?_⟩))
 simpa [rawInt] using h
end
end PySem
namespace PySem
open SetTable
theorem qo.at2 {w:World} {h h':Heap} {S:Addr} {es:Array (Int ×Value)} {ep:Nat} {t:SetTable} (x:qo w h S es ep t) (k:∀ o,h.get? S=some o→h'.get? S=some o):qo w h' S es ep t:=by
 obtain ⟨⟨o,ho,r⟩,a,b,c,d⟩:=x
 exact ⟨⟨o,k o ho,r⟩,a,b,c,d⟩
theorem Walks.set {prog:Program} {w:World} {A:Around} (hh:A.handled=none) (I S:Addr) (ne:S≠I) (es:Array (Int ×Value)) (ep:Nat) (t:SetTable) :
 Walks prog w A I [I,S] [I] es.size (fun i v=> ∃ e,(cQ w S ep es)[i]?=some e∧v=e.2) (fun i h=>(∃ slot,bQ h I S slot i es.size ep∧(w.params.followText "set-order" =false→below t.place slot=i))∧qo w h S es ep t) where
 sub:=fun b hb=>by simp at hb;simp [hb]
 frame:=fun i h h' ⟨⟨slot,⟨o,ho,r⟩,q⟩,x⟩ hk=>⟨⟨slot,⟨o,hk I (by simp) o ho,r⟩,q⟩,x.at2 fun o e=>hk S (by simp) o e⟩
 item:=fun i s Q E hi ⟨⟨slot,hit,hb⟩,x⟩ hQ=>by
  refine next_item hit x ne hb hi fun e h' next h1 h2 h3 h4=>?_
  exact hQ _ h' s.toks ⟨e,h1,rfl⟩ ⟨⟨next,h2,h3⟩,x.at2 fun o e=>h4 S o ne e⟩ fun b o hb e=>h4 b o (fun h=>hb (by simp [h])) e
 done:=fun s Q E ⟨⟨slot,hit,hb⟩,x⟩ hQ=>Dt hh hit x hb fun h' he'=>hQ h' s.toks fun b o hb e=>he' b o (fun h=>hb (by simp [h])) e
 self:=fun i s Q E ⟨⟨slot,hit,_⟩,_⟩ hQ=>Du hit hQ
section
variable {prog:Program} {w:World} {A:Around} {E:Value→Shared→Prop} {s:Shared} {S:Addr} {es:Array (Int ×Value)} {ep:Nat} {t:SetTable}
theorem Gn {Q:Bool→Shared→Prop} (hT:s.TypeIs (.ref S) "set") (h:Q false s):wpAny (model prog w) A (Builtin.List.listLengthHint (.ref S)) Q E s:=by
 unfold Builtin.List.listLengthHint
 refine wpAny_bind (wpAny_specialOf hT F.wG ?_)
 have hs:splitId "set.__len__" =some ("set","__len__"):=by decide +kernel
 simp only [hs]
 refine wpAny_bind (wpAny_isInstance (T:= "set") (b:=true) hT sub_set_self ?_)
 simp only [Bool.not_true,Bool.false_eq_true,if_false]
 refine wpAny_bind (m:=pure _) (wpAny_pure ?_)
 show wpAny _ _ (typeOf (.ref S) >>= _) _ _ _
 refine wpAny_bind (wpAny_typeOf hT ?_)
 exact wpAny_pure h
theorem yU (hh:A.handled=none) (x:qo w s.heap S es ep t) (hz:es.size≤sizeLine) {Q:List Value→Shared→Prop}
 (h:∀ (h':Heap) (tk:Nat),(∀ b o,s.heap.get? b=some o→h'.get? b=some o)→s.heap.objs.size≤h'.objs.size→s.toks≤tk→Q ((cQ w S ep es).toList.map (·.2)) { s with heap:=h',toks:=tk }):wpAny (model prog w) A (collect (.ref S)) Q E s:=by
 obtain ⟨oS,hoS,Ds,hdS⟩:=x.at'
 have lS:S < s.heap.objs.size:=Heap.lt_size hoS
 unfold collect
 refine wpAny_bind (wpAny_runValue (codeAny_builtin F.entry_proto_collect ?_))
 rw [Around.under_plainId F.plain_proto_collect _]
 show wpAny _ A.in1 (newList [] >>= fun l=>again (.builtin "list.__iadd__" ⟨[l,.ref S],[]⟩)) _ _ s
 refine wpAny_bind (wpAny_newObj_type ?_)
 refine wpAny_pure ⟨plainId_quiet F.plain_list_iadd _,codeAny_builtin F.entry_list_iadd ?_⟩
 rw [Around.under_plainId F.plain_list_iadd _]
 have R0:(s.heap.push { cls:= .type "list",data:= .seq ([]:List Value).toArray }).get? s.heap.objs.size=some { cls:= .type "list",data:= .seq ([]:List Value).toArray }:=Heap.get?_push_size _ rfl
 have x1:qo w (s.heap.push { cls:= .type "list",data:= .seq ([]:List Value).toArray }) S es ep t:=x.at2 fun o e=>Heap.get?_push_of_some _ e
 have qM:(s.heap.push { cls:= .type "list",data:= .seq ([]:List Value).toArray }).objs.size=s.heap.objs.size+1:=Heap.size_push ..
 have Dv:∀ b o,s.heap.get? b=some o→(s.heap.push { cls:= .type "list",data:= .seq ([]:List Value).toArray }).get? b=some o:=fun b o e=>Heap.get?_push_of_some _ e
 revert R0 x1 qM Dv
 generalize s.heap.push { cls:= .type "list",data:= .seq ([]:List Value).toArray }=h1
 intro R0 x1 qM Dv
 have e1:Builtin.List.listSameRef (.ref s.heap.objs.size) (.ref S)=false:=by simp [Builtin.List.listSameRef,Nat.ne_of_gt lS]
 show wpAny _ A.in1 (Builtin.List.listExtendWith (.ref s.heap.objs.size) (.ref S) (.ref s.heap.objs.size)) _ _ _
 unfold Builtin.List.listExtendWith
 have hT1:Shared.TypeIs { s with heap:=h1 } (.ref S) "set" :=⟨oS,Dv S oS hoS,Ds.1⟩
 refine wpAny_bind (wpAny_typeOf hT1 ?_)
 rw [if_neg (by rw [e1];decide)]
 refine wpAny_bind (Gm (s:={ s with heap:=h1 }) x1 ?_)
 dsimp only
 have R4:bQ (h1.push { cls:= .type "set_iterator",data:= .fields #[.int (0:Nat) 0,.int (0:Nat) 0,.ref S,.int es.size 0,.int ep 0] }) h1.objs.size S 0 0 es.size ep:=⟨_,Heap.get?_push_size _ rfl,rfl,rfl⟩
 have Dw:∀ b o,h1.get? b=some o→(h1.push { cls:= .type "set_iterator",data:= .fields #[.int (0:Nat) 0,.int (0:Nat) 0,.ref S,.int es.size 0,.int ep 0] }).get? b=some o:=fun b o e=>Heap.get?_push_of_some _ e
 revert R4 Dw
 generalize h1.push { cls:= .type "set_iterator",data:= .fields #[.int (0:Nat) 0,.int (0:Nat) 0,.ref S,.int es.size 0,.int ep 0] }=h2
 intro R4 Dw
 have hT2:Shared.TypeIs { s with heap:=h2 } (.ref S) "set" :=⟨oS,Dw S oS (Dv S oS hoS),Ds.1⟩
 refine wpAny_bind (wpAny_holding (Gn hT2 ?_))
 rw [if_pos (by decide)]
 have l2:=Dw _ _ R0
 refine wpAny_bind (wpAny_rule ?_)
 refine wpAny_bind (show wpAny _ A.in1 (Builtin.List.listTouch (.ref s.heap.objs.size)) _ _ _ from ?_)
 unfold Builtin.List.listTouch
 refine wpAny_bind (show wpAny _ A.in1 (updateSeq s.heap.objs.size (·.push .none)) _ _ _ from wpAny_updateSeq l2 rfl ?_)
 have l3:=Heap.get?_update_self (Obj.mapSeq (·.push Value.none)) l2 rfl
 refine (show wpAny _ A.in1 (updateSeq s.heap.objs.size (·.pop)) _ _ _ from wpAny_updateSeq l3 rfl ?_)
 have l4:=Heap.get?_update_self (Obj.mapSeq (·.pop)) l3 rfl
 have Gp:∀ b o,b≠s.heap.objs.size→h2.get? b=some o→((h2.update s.heap.objs.size (Obj.mapSeq (·.push Value.none))).update s.heap.objs.size (Obj.mapSeq (·.pop))).get? b=some o:=fun b o nb e=>by
  rw [Heap.get?_update_other _ _ (Ne.symm nb),Heap.get?_update_other _ _ (Ne.symm nb)]
  exact e
 dsimp only at l4 ⊢
 revert l4 Gp
 generalize (h2.update s.heap.objs.size (Obj.mapSeq (·.push Value.none))).update s.heap.objs.size (Obj.mapSeq (·.pop))=h4
 intro l4 Gp
 have Td:S≠s.heap.objs.size:=Nat.ne_of_lt lS
 have Te:h1.objs.size≠s.heap.objs.size:=by rw [qM];exact Nat.succ_ne_self _
 have R5:S≠h1.objs.size:=by rw [qM];exact Nat.ne_of_lt (Nat.lt_succ_of_lt lS)
 have x4:qo w h4 S es ep t:=x.at2 fun o e=>Gp S o Td (Dw S o (Dv S o e))
 have Ve:bQ h4 h1.objs.size S 0 0 es.size ep:=by
  obtain ⟨o,ho,r⟩:=R4
  exact ⟨o,Gp _ o Te ho,r⟩
 have b0:below t.place 0=0:=by
  obtain ⟨b1,b2,b3⟩:=gD x.rise 0
  rcases Nat.eq_zero_or_pos (below t.place 0) with z | z
  ·exact z
  ·have:=b2 0 _ z (Array.getElem?_eq_getElem (by omega))
   omega
 refine wpAny_pure ⟨plainId_quiet F.plain_extend_loop _,codeAny_extend_loopS (Walks.set (A:=A.in1) hh h1.objs.size S R5 es ep t).toS hz _ (by
  intro z
  rcases List.mem_cons.mp z with z | z
  ·exact Te z.symm
  ·exact Td (List.mem_singleton.mp z).symm) _ es.size 0 _ _ _ rfl (Nat.zero_le _) ⟨⟨0,Ve,fun _=>b0⟩,x4⟩ l4 (ItemsOf.nil _) fun s' acc' c' hm hS' hacc=>?_⟩
 show wpAny _ A (load s.heap.objs.size >>= _) _ _ s'
 refine wpAny_bind (wpAny_load hS' ?_)
 refine wpAny_pure ?_
 obtain ⟨h',g',d',tk',os'⟩:=s'
 have eg:g'=s.gens:=hm.gens
 have ed:d'=s.drawn:=hm.drawn
 have eo:os'=s.os:=hm.os
 have et:=hm.toks
 subst eg;subst ed;subst eo
 have ea:acc'.toList=(cQ w S ep es).toList.map (·.2):=by
  apply List.ext_getElem?
  intro i
  rw [List.getElem?_map]
  simp only [Array.getElem?_toList]
  by_cases c:i < es.size
  ·have c1:i < acc'.size:=by rw [hacc.1];exact c
   obtain ⟨e,q1,q2⟩:=hacc.2 i _ (Array.getElem?_eq_getElem c1)
   rw [q1,Array.getElem?_eq_getElem c1,q2]
   rfl
  ·rw [Array.getElem?_eq_none (by rw [hacc.1];omega),Array.getElem?_eq_none (by rw [nL];omega)]
   rfl
 show Q acc'.toList _
 rw [ea]
 refine h h' tk' (fun b o e=>?_) (Nat.le_of_lt (Heap.lt_size hS')) et
 have lb:=Heap.lt_size e
 refine hm.heap b o (fun z=>?_) (Gp b o (Nat.ne_of_lt lb) (Dw b o (Dv b o e)))
 rw [qM] at z
 rcases List.mem_cons.mp z with z | z
 ·exact Nat.ne_of_lt lb z
 ·exact Nat.ne_of_lt (Nat.lt_succ_of_lt lb) (List.mem_singleton.mp z)
end
end PySem
namespace PySem
open SetTable
def cE.only {prog:Program} {w:World} {κ:Type} (T:cE prog w κ) (p:Addr→Prop):cE prog w κ where
 is:=fun h k b=>T.is h k b∧p b
 hash:=T.hash
 draws:=T.draws
 room:=T.room
 typ:=fun x=>T.typ x.1
 keeps:=fun x k=>⟨T.keeps x.1 k,x.2⟩
 pyHash:=fun hu hk h=>T.pyHash hu hk.1 h
 other:=fun hu hx hy ne h=>T.other hu hx.1 hy.1 ne h
 quiet:=fun hk h=>T.quiet hk.1 h
 lA:=fun hk h=>T.lA hk.1 h
 yI:=fun hk h=>T.yI hk.1 h
theorem gY.only {prog:Program} {w:World} {κ:Type} {T:cE prog w κ} (S:gY T) (p:Addr→Prop):gY (T.only p):=⟨fun hr hx hy h=>S.same hr hx.1 hy.1 h⟩
theorem JV {prog:Program} {w:World} {A:Around} {E:Value→Shared→Prop} {s:Shared} {x:List (List Int)} {a b:Addr} {Q:Bool→Shared→Prop} (hu:A.units+8 < cLine) (hx:bL prog w s.heap x a) (hy:bL prog w s.heap x b) (h:Q true s) :
 wpAny (model prog w) A (eqBool (.ref a) (.ref b)) Q E s:=by
 unfold eqBool
 try with_reducible refine wpAny_holding ?_
 refine (?_:wpAny _ _ (if (Value.ref a == Value.ref b)=true then _ else _) Q E s)
 by_cases hab:(Value.ref a == Value.ref b)=true
 ·rw [if_pos hab]
  exact (wpAny_pure h:wpAny (model prog w) A (pure true) Q E s)
 ·rw [if_neg hab]
  exact wpAny_bind (wpAny_richCompare_same_room (op:= .Eq) hx.typ hy.typ F.slot_tuple_eq
   (wpAny_call_entry F.slot_tuple_eq hx.typ F.entry_tuple_eq (yK (by show A.units+1+4 < cLine;omega) hx hy (by rw [decide_eq_true rfl];exact ⟨_,rfl,(fun e=>nomatch e),wpAny_truthy_bool h⟩)) (F.args_tuple_eq_2 _ _)) (by omega))
theorem yV (prog:Program) (w:World):gY (j9 prog w):=⟨fun hr hx hy h=>JV hr hx hy h⟩
end PySem
namespace L3
open PySem PySem.Spec PyProof.Rows L2
theorem AE {n:Nat} (hn:n=2∨n=3) {P:Program} {w:World} {A:Around} {E:Value→Shared→Prop} {s:Shared} {l:Addr} {vs:List Value} {ps:List (List Pl)} {Q:Value→Shared→Prop} (hu:A.units+64 < cLine)
 (hc:∀ (E:Value→Shared→Prop) (Q:List Value→Shared→Prop),(∀ h' tk,dQ s.heap h'→s.heap.objs.size≤h'.objs.size→s.toks≤tk→Q vs { s with heap:=h',toks:=tk })→wpAny (model P w) A.in1 (collect (.ref l)) Q E s)
 (hv:iD n s.heap vs ps) (h64:vs.length < 64)
 (h:∀ (out:List Value) (qs:List (List Pl)) (h':Heap) (a:Addr) (m tk:Nat),(∀ v∈out,v∈vs)→qs=out.map (iC n s.heap)→qs.Perm ps→qs.Pairwise (fun p q=>c7 q p=false)→dQ s.heap h'→s.heap.objs.size≤a→h'.get? a=some (seqObj "list" out.toArray m)→s.toks≤tk→
  Q (.ref a) { s with heap:=h',toks:=tk }) :
 wpAny (model P w) A (call (.builtin "sorted") [.ref l]) Q E s:=by
 refine Calls.call_function_entry kind_sorted plain_sorted entry_sorted (args_sorted1 _) ?_
 unfold Builtin.«sorted»
 refine wpAny_bind (m:=checkCount "sorted" 1 1 _) (wpAny_pure ?_)
 have lz:vs.length≤sizeLine:=by rw [sizeLine_eq];omega
 refine wpAny_bind (hc _ _ fun g tk gk gz ht=>?_)
 refine wpAny_bind (wpAny_newList (hsz:=lz) ?_)
 show wpAny (model P w) A.in1 _ _ _ { s with heap:=g.push (seqObj "list" vs.toArray 0),toks:=tk }
 have at':(g.push (seqObj "list" vs.toArray 0)).get? g.objs.size=some (seqObj "list" vs.toArray 0):=Heap.get?_push_size _ rfl
 have G0:∀ b o,s.heap.get? b=some o→b≠g.objs.size∧(g.push (seqObj "list" vs.toArray 0)).get? b=some o:=fun b o q=>by
  have lb:=Heap.lt_size (gk b o q)
  exact ⟨Nat.ne_of_lt lb,Heap.get?_push_of_some _ (gk b o q)⟩
 have hk:KeysOf (vU n s.heap) (pairsOf vs):=fun p hp=>by
  rw [pairsOf_toList] at hp
  obtain ⟨q,a⟩:=hv.mem (bT hp).2
  exact ⟨q,vV a⟩
 apply wpAny_bind;apply wpAny_holding
 refine wpAny_call_entry slot_list_sort ⟨_,at',rfl⟩ entry_list_sort (BA (κ:=vU n s.heap) (kd:=tuples' false) at' hk
  (fun t E Q hg h2 q=>BF hn (by omega) (fun v m=>?_) q) (fun t hg=>E7 hn (by show A.units+1+1 < cLine;omega) fun b o q=>hg b o (G0 b o q).1 (G0 b o q).2) h64 fun y hp hs=>⟨_,rfl,?_⟩) (args_list_sort _)
 ·obtain ⟨p,a⟩:=hv.mem m
  exact ⟨p,a.grow fun b o q=>hg b o (G0 b o q).1 (G0 b o q).2⟩
 ·refine wpAny_pure ⟨_,rfl,?_⟩
  have pl:y.toList.Perm (vs.zip vs):=by rw [← pairsOf_toList];exact Array.perm_iff_toList_perm.mp hp
  have same:∀ p∈y.toList,p.1=p.2∧p.1∈vs:=fun p m=>bT (pl.mem_iff.mp m)
  have eo:y.map (·.2)=(y.toList.map (·.2)).toArray:=by rw [← Array.toList_map,Array.toArray_toList]
  rw [eo]
  have lg:g.objs.size < (g.push (seqObj "list" vs.toArray 0)).objs.size:=Heap.lt_size at'
  obtain ⟨m,hm⟩:∃ m,(sortedHeap (g.push (seqObj "list" vs.toArray 0)) g.objs.size vs (y.toList.map (·.2)).toArray).get? g.objs.size=some (seqObj "list" (y.toList.map (·.2)).toArray m):=by
   unfold sortedHeap
   have h1:=get?_update_seq at' fun _=> #[]
   have h3:=(Heap.get?_push_ne (((g.push (seqObj "list" vs.toArray 0)).update g.objs.size (Obj.mapSeq fun _=> #[])).push (seqObj "tuple" vs.toArray 0)) g.objs.size (seqObj "list" #[] 0) (by rw [size_push',Heap.size_update];exact Nat.ne_of_lt (Nat.lt_succ_of_lt lg))).trans
    ((Heap.get?_push_ne ((g.push (seqObj "list" vs.toArray 0)).update g.objs.size (Obj.mapSeq fun _=> #[])) g.objs.size (seqObj "tuple" vs.toArray 0) (by rw [Heap.size_update];exact Nat.ne_of_lt lg)).trans h1)
   exact ⟨_,get?_update_seq h3 fun _=>(y.toList.map (·.2)).toArray⟩
  refine h (y.toList.map (·.2)) _ _ g.objs.size m tk (fun v m=>?_) rfl ?_ ?_ (fun b o q=>?_) gz hm ht
  ·obtain ⟨p,m2,rfl⟩:=List.mem_map.mp m
   rw [← (same p m2).1];exact (same p m2).2
  ·have q:=(pl.map (fun p=>p.2)).map (iC n s.heap)
   have e:(vs.zip vs).map (fun p=>p.2)=vs:=List.map_snd_zip (Nat.le_refl _)
   rw [e,hv.keys] at q
   exact q
  ·rw [List.pairwise_iff_getElem]
   intro i j hi hj hij
   have li:i < y.size:=by simpa using hi
   have lj:j < y.size:=by simpa using hj
   have q:=hs i j (Nat.le_of_lt hij) (by rw [← hp.size_eq];exact lj)
   have key:∀ k (hk:k < y.size),KK (vU n s.heap) y k=iC n s.heap y[k].2:=fun k hk=>by
    unfold KK
    rw [getElem?_pos y k hk]
    show Option.getD (α:=List Pl) ((vU n s.heap).keyOf y[k].1) []=_
    rw [(same y[k] (by simp)).1]
    rfl
   have q:(vU n s.heap).blt (KK (vU n s.heap) y j) (KK (vU n s.heap) y i)=false:=q
   rw [key i li,key j lj] at q
   have q:c7 (iC n s.heap y[j].2) (iC n s.heap y[i].2)=false:=q
   simpa using q
  ·obtain ⟨nb,q2⟩:=G0 b o q
   have lb:=Heap.lt_size q2
   unfold sortedHeap
   rw [Heap.get?_update_ne _ _ _ _ nb,Heap.get?_push_ne _ _ _ (by rw [size_push',Heap.size_update];exact Nat.ne_of_lt (Nat.lt_succ_of_lt lb)),Heap.get?_push_ne _ _ _ (by rw [Heap.size_update];exact Nat.ne_of_lt lb),Heap.get?_update_ne _ _ _ _ nb]
   exact q2
theorem wH {α:Type} {a b:List α} (nd:b.Nodup) (len:a.length=b.length) (sub:∀ x∈b,x∈a):a.Nodup:=by
 have pm:b.Perm a:=by
  classical
  have go:∀ (b a:List α),b.Nodup→(∀ x∈b,x∈a)→a.length=b.length→b.Perm a:=by
   intro b
   induction b with
   | nil=>intro a _ _ l;rw [List.length_eq_zero_iff.mp l];
   | cons x b ih=>
     intro a nd sub l
     obtain ⟨h1,h2⟩:=List.nodup_cons.mp nd
     have ma:=sub x List.mem_cons_self
     have q:=ih (a.erase x) h2 (fun y hy=>(List.mem_erase_of_ne (show y≠x from fun e=>h1 (e▸hy))).mpr (sub y (List.mem_cons_of_mem _ hy))) (by rw [List.length_erase_of_mem ma,l,List.length_cons];omega)
     exact (q.cons x).trans (List.perm_cons_erase ma).symm
  exact go b a nd sub len
 exact pm.nodup_iff.mp nd
theorem yW {P:Program} {w:World} {h:Heap} {es:List (Int ×Value)} {ls:List (List (List Int))} {p:Addr→Prop} (nd:ls.Nodup) (sz:es.length=ls.length)
 (c1:∀ e∈es,∃ b l,e=(((j9 P w).only p).hash l,.ref b)∧((j9 P w).only p).is h l b∧l∈ls)
 (c2:∀ l∈ls,∃ e∈es,∃ b,e=(((j9 P w).only p).hash l,.ref b)∧((j9 P w).only p).is h l b) :
 ∃ f:(Int ×Value)→List (List Int),(∀ e∈es,∃ b,e.2= .ref b∧bL P w h (f e) b∧p b)∧(es.map f).Nodup∧∀ l,l∈es.map f↔l∈ls:=by
 have ch:∀ e:Int ×Value,∃ l,e∈es→∃ b,e=(((j9 P w).only p).hash l,.ref b)∧((j9 P w).only p).is h l b∧l∈ls:=fun e=>by
  by_cases m:e∈es
  ·obtain ⟨b,l,q⟩:=c1 e m
   exact ⟨l,fun _=>⟨b,q⟩⟩
  ·exact ⟨[],fun z=>absurd z m⟩
 obtain ⟨f,hf⟩:=Classical.axiomOfChoice ch
 have mem:∀ l,l∈es.map f↔l∈ls:=fun l=>by
  constructor
  ·intro m
   obtain ⟨e,m1,rfl⟩:=List.mem_map.mp m
   obtain ⟨b,_,_,q⟩:=hf e m1
   exact q
  ·intro m
   obtain ⟨e,m1,b,e1,i1⟩:=c2 l m
   obtain ⟨b2,e2,i2,_⟩:=hf e m1
   have eb:b2=b:=by
    rw [e1] at e2
    injection e2 with _ e2
    injection e2 with e2
    exact e2.symm
   subst eb
   have:=bL.inj i1.1 i2.1
   rw [this]
   exact List.mem_map.mpr ⟨e,m1,rfl⟩
 refine ⟨f,fun e m=>?_,?_,mem⟩
 ·obtain ⟨b,e1,i1,_⟩:=hf e m
  exact ⟨b,by rw [e1],i1.1,i1.2⟩
 ·have len:(es.map f).length=ls.length:=by rw [List.length_map,sz]
  exact wH nd len fun l m=>(mem l).mpr m
end L3
namespace L3
open PySem PySem.Spec PyProof.Rows L2
theorem Gq {P:Program} {w:World} {n:Nat} {h:Heap} {v:Value} {t:List Pl} (a:qi n h v t):∃ b,v= .ref b∧bL P w h (bX t) b:=by
 obtain ⟨_,b,o,its,m,e,h1,h2,h3,h4⟩:=a
 exact ⟨b,e,o,its.toArray,m,h1,h2,h3,by rw [List.toList_toArray];exact wB h4⟩
theorem sH {n:Nat} {h:Heap}:∀ {vs:List Value},(∀ v∈vs,∃ t,qi n h v t)→iD n h vs (vs.map (iC n h))
 | [],_=> .nil
 | v :: vs,q=>by
   obtain ⟨t,a⟩:=q v List.mem_cons_self
   refine .cons ?_ (sH fun u hu=>q u (List.mem_cons_of_mem _ hu))
   rw [qN a]
   exact a
section
variable {X:Cx} {pos:Pos}
def Gr (n:Nat) (te:cK):cK:=fun ρ M Q=>te ρ M fun d M1=> ∃ ts:List (List Pl),CS M1 d (ts.map tD)∧(∀ t∈ts,t.length=n)∧ts.length < 64∧
 ∀ (p:Addr) (qs:List (List Pl)),M1 p=none→qs.Nodup→(∀ t,t∈qs↔t∈ts)→qs.Pairwise (fun p q=>c7 q p=false)→Q (.ref p) (ay M1 p (.lst (qs.map tD)))
theorem Dy {n:Nat} (hn:n=2∨n=3) {e:Expr} {te:cK} {p1 p2 pos2:Pos} (hu:X.A.units+64 < cLine) (hc:X.calm=true) (Lb:Gl X "sorted") (hml:X.mg "sorted" =none) (hgr:Gl X "set") (hmr:X.mg "set" =none) (he:bZ X e te)
 (s1:starEach [e] X.env= [(false,eval e X.env)]:=by rfl)
 (s2:starEach [.Call (.Name "set" p2) [e] [] pos2] X.env= [(false,eval (.Call (.Name "set" p2) [e] [] pos2) X.env)]:=by rfl) :
 bZ X (.Call (.Name "sorted" p1) [.Call (.Name "set" p2) [e] [] pos2] [] pos) (Gr n te):=by
 constructor
 intro pins s σ H ρ M Q I r h
 refine wpAny_Call_Name_kw (ig I Lb hml bE ?_ (by decide) (by decide))
 refine PyProof.Rows.callWith_builtin1 (Q:=EP X pins σ (Post X.K M H Q)) ?_ (by rw [s2];rfl) (by rfl)
 rw [s2]
 show wpAny _ _ (spliced ((false,eval (.Call (.Name "set" p2) [e] [] pos2) X.env) :: backTo pos [])) _ _ s
 refine Calls.spliced_cons ?_
 refine wpAny_Call_Name_kw (ig I hgr hmr Dk ?_ (by decide) (by decide))
 refine PyProof.Rows.callWith_type1 ?_ (by rw [s1];rfl) (by rfl)
 rw [s1]
 show wpAny _ _ (spliced ((false,eval e X.env) :: backTo pos2 [])) _ _ s
 refine Calls.spliced_cons (cI (he.run pins s σ H ρ M _ I r h) fun v s1 ⟨x,H1,I1,rv,d,M1,f1,dd,mR,ts,hL,OA,h64,q⟩=>Calls.spliced_nil ?_)
 obtain ⟨a,zs,rfl,hz,hd⟩:=hL.sq mR dd
 obtain rfl:v=Value.ref a:=rv
 obtain ⟨its,Io,pl,hsz⟩:=I1.list hz
 have lz:zs.length=its.length:=Io.length
 have ln:its.length=ts.length:=by rw [← lz,← hd.length,List.length_map]
 have get:=yL (P:=X.prog) (w:=X.w) I1.hok hd Io
 refine wF (T:=(j9 X.prog X.w).only fun b=>Value.ref b∈its) ((yV X.prog X.w).only _) (key:=fun i=>match ts[i]? with | some t=>bX t | none=>[]) (I.ok.hd hc) (by show X.A.units+1+1+1+8 < cLine;omega) pl.isList (by rw [List.size_toArray];omega) (fun i v e=>?_) fun h' tk hS kp ht=>Calls.spliced_nil ?_
 ·have e':its[i]?=some v:=by simpa using e
  obtain ⟨t,e1,b,e2,k⟩:=get i v e'
  refine ⟨b,e2,?_,?_⟩
  ·rw [e1]
   exact k
  ·show Value.ref b∈its
   rw [← e2]
   exact List.mem_of_getElem? e'
 ·obtain ⟨ls,nd,mem,o,es,ep,t,ho,hex,hd2,g,R,hl,hp,sz,c1,c2⟩:=hS
  have W:qo X.w h' s1.heap.objs.size es ep t:=⟨⟨o,ho,hex,hd2⟩,g,R.rise,hl,hp⟩
  have sh:ls.length≤ts.length:=by
   have:=p7 ls ts.length _ nd fun x hx=>by
    obtain ⟨j,hj,ej⟩:=(mem x).mp hx
    exact ⟨j,by rw [List.size_toArray] at hj;omega,ej⟩
   exact this
  obtain ⟨f,Vf,Vg,OR⟩:=yW nd (by rw [Array.length_toList];exact sz) c1 c2
  have I2:Inv X pins σ H1 { s1 with heap:=h',toks:=tk }:=I1.kept kp
  have Vh:=oO I1.hok OA hd Io
  have one:∀ e∈es.toList,∃ t,qi n h' e.2 t∧f e=bX t∧e.2∈its:=fun e m=>by
   obtain ⟨b,eb,i1,i2⟩:=Vf e m
   obtain ⟨t,at'⟩:=Vh.mem i2
   have at2:=at'.grow (h':=h') kp
   obtain ⟨b2,e2,i3⟩:=Gq (P:=X.prog) (w:=X.w) at2
   injection e2 with e2
   subst e2
   exact ⟨t,by rw [eb];exact at2,i1.inj i3,by rw [eb];exact i2⟩
  have pm:=yS X.w s1.heap.objs.size ep es
  have Tf:∀ v∈(cQ X.w s1.heap.objs.size ep es).toList.map (·.2),v∈its∧∃ t,qi n h' v t:=fun v m=>by
   obtain ⟨e,m1,rfl⟩:=List.mem_map.mp m
   obtain ⟨t,a1,_,a3⟩:=one e (pm.mem_iff.mp m1)
   exact ⟨a3,t,a1⟩
  have lv:((cQ X.w s1.heap.objs.size ep es).toList.map (·.2)).length < 64:=by
   rw [List.length_map,Array.length_toList,nL,sz]
   omega
  have km:(((cQ X.w s1.heap.objs.size ep es).toList.map (·.2)).map (iC n h')).map bX=(cQ X.w s1.heap.objs.size ep es).toList.map f:=by
   rw [List.map_map,List.map_map]
   refine List.map_congr_left fun e m=>?_
   obtain ⟨t,a1,a2,_⟩:=one e (pm.mem_iff.mp m)
   show bX (iC n h' e.2)=f e
   rw [qN a1,a2]
  refine AE (s:={ s1 with heap:=h',toks:=tk }) hn hu (fun E Q hQ=>yU (A:=X.A.in1) (I.ok.hd hc) W (by rw [sz,sizeLine_eq];omega) fun h2 zG g1 g2 g3=>hQ h2 zG g1 g2 g3) (sH fun v m=>(Tf v m).2) lv fun out qs h2 a2 m zG hm eq hp2 hs2 gr ge ga gt=>?_
  obtain ⟨ws,w1,w2⟩:=l7 (h:=h') I2.hok OA hd Io out fun v hv=>(Tf v (hm v hv)).1
  have eq':qs=out.map (iC n h'):=eq
  rw [← eq'] at w2
  have fr:H1 a2=none:=I2.hok.fresh ge
  have zw:ws.length≤sizeLine:=by
   rw [← w2.length,List.length_map,hp2.length_eq,List.length_map,sizeLine_eq];omega
  have kn:(((cQ X.w s1.heap.objs.size ep es).toList.map (·.2)).map (iC n h')).Nodup:=by
   have z:((((cQ X.w s1.heap.objs.size ep es).toList.map (·.2)).map (iC n h')).map bX).Nodup:=by
    rw [km]
    exact ((pm.map f).nodup_iff).mpr Vg
   exact (List.pairwise_map.mp z).imp fun hne e=>hne (by rw [e])
  have I3:Inv X pins σ (upd H1 a2 (.lst ws)) { s1 with heap:=h2,toks:=zG }:=I2.laid (t':=zG) gr ge ⟨zw,out,m,w1,ga⟩
  refine ⟨.ref a2,upd H1 a2 (.lst ws),I3,rfl,.ref _,ay M1 _ (.lst (qs.map tD)),f1.trans (Fr.new fr fun _ hb=>aP hb),aK.mpr rfl,mR.newL fr w2,q _ _ (mR.free fr) (hp2.nodup_iff.mpr kn) (fun t=>?_) hs2⟩
  rw [hp2.mem_iff]
  constructor
  ·intro m
   have m2:=List.mem_map_of_mem (f:=bX) m
   rw [km,(pm.map f).mem_iff,OR,mem] at m2
   obtain ⟨j,hj,ej⟩:=m2
   rw [List.size_toArray] at hj
   dsimp only at ej
   rw [List.getElem?_eq_getElem (by omega)] at ej
   rw [← nI ej]
   exact List.getElem_mem _
  ·intro m
   obtain ⟨j,hj,ej⟩:=List.getElem_of_mem m
   have:bX t∈(((cQ X.w s1.heap.objs.size ep es).toList.map (·.2)).map (iC n h')).map bX:=by
    rw [km,(pm.map f).mem_iff,OR,mem]
    refine ⟨j,by rw [List.size_toArray];omega,?_⟩
    dsimp only
    rw [List.getElem?_eq_getElem hj,ej]
   obtain ⟨t2,m2,e2⟩:=List.mem_map.mp this
   rw [← nI e2]
   exact m2
end
end L3
namespace PySem
theorem bB.LF {prog:Program} {w:World} {h h':Heap} {ks:List (List Int)} {vs:List Value} {d:Addr} {o:Obj} {es:Array DictEntry} {ep:Nat} (x:bB prog w h ks vs) (ho:h.get? d=some o) (hd:o.data= .dict es ep) (hs:Heap.SameBut d h h'):bB prog w h' ks vs:=by
 induction x with
 | nil=>exact .nil
 | cons a _ ih=>exact .cons (a.keeps ho hd hs) ih
def kg (prog:Program) (w:World):HeapKind prog w (List (List Int)) where
 is:=bL prog w
 hash:=BX prog w
 draws:=wA
 room:=fun A=>A.units+8 < cLine
 inj:=fun hx hy=>hx.inj hy
 keeps:=fun {h h' k a d o es ep} x ho hd hs=>by
  obtain ⟨o',items,n,ho',hc,hd',hi⟩:=x
  have hne:a≠d:=by
   rintro rfl
   obtain rfl:o'=o:=Option.some.inj (ho'.symm.trans ho)
   rw [hd] at hd';exact nomatch hd'
  exact ⟨o',items,n,(hs.2 a hne).trans ho',hc,hd',hi.LF ho hd hs⟩
 pyHash:=fun hu hk h=>vo hu hk h
 eqBool:=fun {A E s x y a b Q} hu hx hy h=>by
  by_cases e:x=y
  ·subst e
   rw [decide_eq_true rfl] at h
   exact JV hu hx hy h
  ·rw [decide_eq_false e] at h
   exact FU hu hx hy e h
 quiet:=fun hk h=>FY hk h
theorem sI {prog:Program} {w:World} {K:Type} [DecidableEq K] {knd:HeapKind prog w K} {A:Around} {E:Value→Shared→Prop} {s:Shared} {d a:Addr} {k:K} {xs:List (K ×Addr ×Value)} {Q:Value→Shared→Prop} (hu:knd.room A.in1) (hkey:knd.is s.heap k a) (hd:(d == sysModules)=false) (hm:s.heap.DictOfH knd d xs)
 (h:Q (.bool (!(atKey xs k).isSome)) { s with toks:=s.toks+knd.draws k }):wpAny (model prog w) A (compareOp .NotIn (.ref a) (.ref d)) Q E s:=by
 show wpAny _ _ (do return .bool (!(← contains (.ref d) (.ref a)))) Q E s
 refine wpAny_bind ?_
 unfold contains
 try with_reducible refine wpAny_holding ?_
 refine wpAny_bind (wpAny_specialOf hm.typeIs slot_dict_contains.lookup ?_)
 show wpAny _ _ (if (some (Value.builtin "dict.__contains__") == some Value.none)=true then _ else _) _ E s
 rw [if_neg (by rw [beq_builtin_none];exact Bool.false_ne_true)]
 refine wpAny_bind (wpAny_callSpecialUnlessNone?_slot (name:=Str.ofString "__contains__") hm.typeIs slot_dict_contains
  (wpAny_call_entry slot_dict_contains hm.typeIs entry_dict_contains ?_ (args_dict_contains _ _)))
 show wpAny _ _ (dictGet d (.ref a) >>= _) _ _ s
 refine wpAny_bind (wpAny_dictGet_heap hu hkey hm ?_)
 cases hf:atKey xs k with
 | some p=>
   rw [hf] at h
   show wpAny _ _ (ret (.bool true)) _ _ _
   exact wpAny_pure ⟨_,rfl,wpAny_truthy_bool (wpAny_pure h)⟩
 | none=>
   rw [hf] at h
   show wpAny _ _ (Builtin.Dict.pendingKey? d (.ref a) >>= _) _ _ _
   exact wpAny_bind (wpAny_pendingKey_other hd (wpAny_pure ⟨_,rfl,wpAny_truthy_bool (wpAny_pure h)⟩))
end PySem
namespace L3
open PySem PySem.Spec PyProof.Rows L2
def bg (kvs:List (List (List Int) ×D)) (k:List (List Int)):Option D:=(kvs.find? fun p=>decide (p.1=k)).map (·.2)
def jz (kvs:List (List (List Int) ×D)) (k:List (List Int)) (d:D):List (List (List Int) ×D):=if (bg kvs k).isSome then kvs.map fun p=>if p.1=k then (p.1,d) else p else kvs ++ [(k,d)]
theorem Gs {P:Program} {w:World} {K:PySem.W.Frag} {H:Hp} {h:Heap} (ok:i7 P w H h) {l:List Int} {v:V} {u:Value} (d:Dat K H (.tup (l.map .int)) v) (r:RelV v u):∃ b,u= .ref b∧IsTupleKey (intKind P w) h l b:=by
 obtain ⟨a,xs,rfl,ha,hx⟩:=aR.mp d
 obtain rfl:u=Value.ref a:=r
 obtain ⟨its,rv,⟨o,h1,h2,n,h3⟩,hsz⟩:=c6 ok ha
 refine ⟨a,rfl,o,its.toArray,n,h1,h2,h3,?_⟩
 rw [List.toList_toArray]
 clear h3 h2 h1 ha d hsz
 induction l generalizing xs its with
 | nil=>
   rw [aH.mp hx] at rv
   cases rv
   exact .nil
 | cons i l ih=>
   obtain ⟨v,vs,rfl,d1,d2⟩:=aA.mp hx
   cases rv with
   | cons r1 r2=>
     obtain rfl:=aO.mp d1
     obtain ⟨t,rfl⟩:=r1
     exact .cons (intKind_is _ _ _ _) (ih _ d2 _ r2)
theorem wI {P:Program} {w:World} {K:PySem.W.Frag} {H:Hp} {h:Heap} (ok:i7 P w H h) {k:List (List Int)} {b:Addr} (d:Dat K H (kD k) (.ref b)):bL P w h k b:=by
 obtain ⟨a,xs,e,ha,hx⟩:=aR.mp d
 cases e
 obtain ⟨its,rv,⟨o,h1,h2,n,h3⟩,hsz⟩:=c6 ok ha
 refine ⟨o,its.toArray,n,h1,h2,h3,?_⟩
 rw [List.toList_toArray]
 clear h3 h2 h1 ha d hsz
 induction k generalizing xs its with
 | nil=>
   rw [show ([]:List (List Int)).map (fun l=>D.tup (l.map .int))= [] from rfl] at hx
   rw [aH.mp hx] at rv
   cases rv
   exact .nil
 | cons l k ih=>
   rw [List.map_cons] at hx
   obtain ⟨v,vs,rfl,d1,d2⟩:=aA.mp hx
   cases rv with
   | cons r1 r2=>
     obtain ⟨b,rfl,q⟩:=Gs ok d1 r1
     exact .cons q (ih _ d2 _ r2)
theorem sJ {α β:Type} {F:α→β→Prop}:∀ {l₁:List α} {l₂:List β},Paired F l₁ l₂→∀ y∈l₂,∃ x∈l₁,F x y
 | _,_,.nil,y,m=>by cases m
 | _,_,.cons r t,y,m=>by
   rcases List.mem_cons.mp m with rfl | m
   ·exact ⟨_,List.mem_cons_self,r⟩
   ·obtain ⟨x,m1,q⟩:=sJ t y m
    exact ⟨x,List.mem_cons_of_mem _ m1,q⟩
theorem sL {α β:Type} {F:α→β→Prop}:∀ {l₁:List α} {l₂:List β},Paired F l₁ l₂→l₁.length=l₂.length
 | _,_,.nil=>rfl
 | _,_,.cons _ t=>by simp [sL t]
theorem AF {P:Program} {w:World} {K:PySem.W.Frag} {H:Hp} {h:Heap} (ok:i7 P w H h) {a:Addr} {xs:DX} {kvs:List (List (List Int) ×D)} (hH:H a=some (.ext (qf a xs))) (nd:(xs.map (·.1)).Nodup) (pk:Paired (lD K H) kvs xs):h.DictOfH (kg P w) a xs:=by
 obtain ⟨⟨o,es,ep,h1,h2,h3,h4⟩,_⟩:=(show cL P w H h a (.ext (qf a xs)) from ok a _ hH)
 refine ⟨o,es,ep,h1,h2,h3,h4,fun x m=>?_,nd⟩
 obtain ⟨p,_,e,q,_⟩:=sJ pk x m
 rw [← e]
 exact wI ok q
theorem nM {K:PySem.W.Frag} {H:Hp} (k:List (List Int)):∀ {kvs:List (List (List Int) ×D)} {xs:DX},Paired (lD K H) kvs xs→(bg kvs k=none∧atKey xs k=none)∨∃ d p v,bg kvs k=some d∧atKey xs k=some p∧Dat K H d v∧RelV v p.2
 | _,_,.nil=> .inl ⟨rfl,rfl⟩
 | _,_,.cons (a:=p) (b:=x) r t=>by
   obtain ⟨e,_,v,dv,rv⟩:=r
   unfold bg atKey
   rw [List.find?_cons,List.find?_cons,← e]
   by_cases c:p.1=k
   ·rw [decide_eq_true c]
    exact .inr ⟨p.2,x.2,v,rfl,rfl,dv,rv⟩
   ·rw [decide_eq_false c]
    exact nM k t
theorem Gu {K:PySem.W.Frag} {H:Hp} {k:List (List Int)} {a:Addr} {d:D} {v:V} {u:Value} (hk:Dat K H (kD k) (.ref a)) (hd:Dat K H d v) (r:RelV v u) {kvs:List (List (List Int) ×D)} {xs:DX} (pk:Paired (lD K H) kvs xs):Paired (lD K H) (jz kvs k d) (storedH xs k a u):=by
 have app:∀ {l₁:List (List (List Int) ×D)} {l₂:DX},Paired (lD K H) l₁ l₂→Paired (lD K H) (l₁ ++ [(k,d)]) (l₂ ++ [(k,a,u)]):=by
  intro l₁ l₂ p
  induction p with
  | nil=>exact .cons ⟨rfl,hk,v,hd,r⟩ .nil
  | cons q _ ih=>exact .cons q ih
 have rep:∀ {l₁:List (List (List Int) ×D)} {l₂:DX},Paired (lD K H) l₁ l₂→Paired (lD K H) (l₁.map fun p=>if p.1=k then (p.1,d) else p) (l₂.map (putAt k u)):=by
  intro l₁ l₂ p
  induction p with
  | nil=>exact .nil
  | @cons p x _ _ q _ ih=>
    refine .cons ?_ ih
    obtain ⟨e,q1,q2⟩:=q
    unfold putAt
    dsimp only
    rw [← e]
    by_cases c:p.1=k
    ·rw [if_pos c,if_pos c]
     exact ⟨rfl,q1,v,hd,r⟩
    ·rw [if_neg c,if_neg c]
     exact ⟨e,q1,q2⟩
 unfold jz
 rcases nM k pk with ⟨h1,h2⟩ | ⟨z,p,_,h1,h2,_⟩
 ·rw [h1,storedH_new h2]
  exact app pk
 ·rw [h1,storedH_old h2]
  exact rep pk
section
variable {X:Cx} {pos:Pos} {a b:Expr} {ta tb:cK}
theorem IK {pins:List (Addr ×Obj)} {σ:St} {H:Hp} {s:Shared} (I:Inv X pins σ H s):sysModules < s.heap.objs.size:=Nat.lt_trans (show sysModules < mainGlobals by decide) (I.mod.glob.keeps I.bk).lt
def LG:cK:=fun _ M Q=> ∀ p,M p=none→Q (.ref p) (ay M p (.oB []))
theorem LH:bZ X (.Dict [] [] pos) LG:=by
 constructor
 intro pins s σ H ρ M Q I r h
 have fr:H s.heap.objs.size=none:=I.hok.fresh (Nat.le_refl _)
 refine wpAny_Dict_empty ⟨.ref s.heap.objs.size,_,I.laid (a:=s.heap.objs.size) (o:= .ext (qf s.heap.objs.size [])) (t':=s.toks) (fun _ _ q=>Heap.get?_push_of_some _ q) (Nat.le_refl _) ⟨⟨_,#[],0,Heap.get?_push_size _ rfl,⟨rfl,rfl,rfl⟩,rfl,rfl⟩,⟨_,Heap.get?_push_size _ rfl⟩,?_⟩,rfl,.ref _,ay M _ (.oB []),Fr.new fr fun _ hb=>aP hb,aK.mpr rfl,r.mem.newD fr (beq_eq_false_iff_ne.mpr (Ne.symm (Nat.ne_of_lt (IK I)))),h _ (r.mem.free fr)⟩
 rintro h1 h2 ⟨o,es,ep,e,q⟩ k
 exact ⟨o,es,ep,k o e,q⟩
def LI (neg:Bool):R3:=fun d e M Q=> ∃ a k kvs,d=kD k∧e= .ref a∧M a=some (.oB kvs)∧Q (.bl (neg !=(bg kvs k).isSome)) M
theorem wJ {K:PySem.W.Frag} {H:Hp} {k:List (List Int)} {v:V} (d:Dat K H (kD k) v):∃ b,v= .ref b:=by
 obtain ⟨b,_,e,_⟩:=aR.mp d
 exact ⟨b,e⟩
theorem sM (hu:X.A.units+64 < cLine):mQ X (compareOp .NotIn) (LI true):=by
 constructor
 intro pins s σ H M x y d e v u Q I rm rx ry dx dy ⟨a,k,kvs,e1,e2,hM,q⟩
 subst e1;subst e2
 obtain ⟨b,rfl⟩:=wJ dx
 obtain rfl:=aK.mp dy
 obtain rfl:v=Value.ref b:=rx
 obtain rfl:u=Value.ref a:=ry
 obtain ⟨xs,hH,hy,nd,pk⟩:=rm.oB hM
 refine sI (knd:=kg X.prog X.w) (by show X.A.units+1+8 < cLine;omega) (wI I.hok dx) hy (AF I.hok hH nd pk) ⟨.bl _,H,I.tok _,rfl,aD rm (aS.mpr rfl) ?_⟩
 rcases nM k pk with ⟨h1,h2⟩ | ⟨_,p,_,h1,h2,_⟩
 ·rw [h2];rw [h1] at q;exact q
 ·rw [h2];rw [h1] at q;exact q
def OS (K:PySem.W.Frag):R2:=fun x y H Q=> ∃ (a b:Addr) (xs:DX) (kvs:List (List (List Int) ×D)) (k:List (List Int)) (p:Addr ×Value) (v:V),x= .ref a∧y= .ref b∧H a=some (.ext (qf a xs))∧(xs.map (·.1)).Nodup∧Paired (lD K H) kvs xs∧Dat K H (kD k) (.ref b)∧atKey xs k=some p∧RelV v p.2∧Q v H
theorem LJ (hu:X.A.units+64 < cLine):Jz X (OS X.K):=by
 intro value slice pins s σ H x y v u Q I rx ry hx hs
 obtain ⟨a,b,xs,kvs,k,p,z,e1,e2,hH,nd,pk,dk,hp,rz,q⟩:=hx
 subst e1;subst e2
 obtain rfl:v=Value.ref a:=rx
 obtain rfl:u=Value.ref b:=ry
 have dd:=AF I.hok hH nd pk
 exact subscriptTail_builtinR (x:=p.2) dd.typeIs slot_dict_getitem.lookup
  (wpAny_getItem_heap (knd:=kg X.prog X.w) (Q:=fun r s'=>r=p.2∧EP X pins σ Q r s') (by show X.A.units+1+8 < cLine;omega) (wI I.hok dk) dd hp ⟨rfl,z,H,I.tok _,rz,q⟩) hs
def OT:R3:=fun d e M Q=> ∃ a k kvs z,d= .ref a∧e=kD k∧M a=some (.oB kvs)∧bg kvs k=some z∧Q z M
theorem JW (hu:X.A.units+64 < cLine) (ha:bZ X a ta) (hb:bZ X b tb) (hs:vF b:=by intro _ _;rfl):bZ X (.Subscript a b pos) (Ek OT ta tb):=up (JA (LJ hu) ha.dn hb.dn hs) fun σ H ρ M Q r q=>
 cN r q fun v H' d M' f dv r' q=>cN r' q fun u H2 e M2 f2 du r2 ⟨l,k,kvs,z,e1,e2,hM,g,q2⟩=>by
  subst e1;subst e2
  obtain rfl:=aK.mp dv
  obtain ⟨b,rfl⟩:=wJ du
  obtain ⟨xs,hH,hy,nd,pk⟩:=r2.mem.oB hM
  rcases nM k pk with ⟨h1,h2⟩ | ⟨z',p,v,h1,h2,dz,rz⟩
  ·rw [h1] at g;cases g
  ·rw [g] at h1
   cases h1
   exact ⟨l,b,xs,kvs,k,p,v,rfl,rfl,hH,nd,pk,du,h2,rz,z,M2,f.trans f2,dz,r2.mem,q2⟩
def OU (K:PySem.W.Frag):Hl:=fun x y v H Q=> ∃ (a b:Addr) (xs:DX) (kvs:List (List (List Int) ×D)) (k:List (List Int)),x= .ref a∧y= .ref b∧H a=some (.ext (qf a xs))∧(xs.map (·.1)).Nodup∧Paired (lD K H) kvs xs∧Dat K H (kD k) (.ref b)∧xs.length≤sizeLine∧
 ∀ u,RelV v u→((storedH xs k b u).map (·.1)).Nodup→Q (upd H a (.ext (qf a (storedH xs k b u))))
theorem IL (hu:X.A.units+64 < cLine):Na X (OU X.K):=by
 intro pins s σ H o i v ov iv u Q I ro ri rv hx
 obtain ⟨a,b,xs,kvs,k,e1,e2,hH,nd,pk,dk,hz,q⟩:=hx
 subst e1;subst e2
 obtain rfl:ov=Value.ref a:=ro
 obtain rfl:iv=Value.ref b:=ri
 have dd:=AF I.hok hH nd pk
 refine wpAny_setItem_heap (knd:=kg X.prog X.w) (hsz:=hz) (by show X.A.units+1+8 < cLine;omega) (wI I.hok dk) dd fun h' Vi hs=>?_
 obtain ⟨o,es,ep,g1,g2,g3,g4,_,g6⟩:=Vi
 refine ⟨_,I.write (x:=a) (e:=a) (o:= .ext (qf a (storedH xs k b u))) (t':=s.toks+(kg X.prog X.w).draws k) (by rw [hH];trivial) (.inl rfl) (fun c z nc e=>(hs.2 c nc).trans e) ⟨o,g1⟩ ⟨⟨o,es,ep,g1,g2,g3,g4⟩,⟨o,g1⟩,?_⟩,q u rv g6⟩
 rintro h1 h2 ⟨o,es,ep,e,q⟩ k
 exact ⟨o,es,ep,k o e,q⟩
def OV (to ti:cK):yc:=fun d ρ M Q=>to ρ M fun o M1=>ti ρ M1 fun i M2=> ∃ l kvs k,o= .ref l∧i=kD k∧M2 l=some (.oB kvs)∧kvs.length≤1000∧Q ρ (ay M2 l (.oB (jz kvs k d)))
theorem LK (hu:X.A.units+64 < cLine) {o i:Expr} {to ti:cK} {pos:Pos} (ho:bZ X o to) (hi:bZ X i ti)
 (ha:∀ v,assign (.Subscript o i pos) X.env v=(do
  let ov ← holding [v] (eval o X.env)
  let iv ← holding [v,ov] (eval i X.env)
  standAt pos
  holding [v,ov,iv] (setItem ov iv v)
  release [v,ov,iv] []):=by intro _;rfl):GZ X (.Subscript o i pos) (OV to ti):=by
 constructor
 intro pins s σ H ρ M v d u Q I r rv dv q
 refine Km ho.dn hi.dn (IL hu) ha pins s σ H v u _ I rv (cN r q fun x H1 d1 M1 f1 dx r1 q1=>cN r1 q1 fun y H2 d2 M2 f2 dy r2 ⟨l,kvs,k,e1,e2,hM,hz,q2⟩=>?_)
 subst e1 e2
 obtain rfl:=aK.mp dx
 obtain ⟨b,rfl⟩:=wJ dy
 obtain ⟨xs,hH,hy,nd,pk⟩:=r2.mem.oB hM
 have NR:=Dat.mono ((f1.trans f2).ext r.mem) _ _ dv
 have ED:=f1.trans f2
 refine ⟨l,b,xs,kvs,k,rfl,rfl,hH,nd,pk,dy,by rw [← sL pk,sizeLine_eq];omega,fun u' ru Vj=>?_⟩
 have fw:Fr M2 H2 (ay M2 l (.oB (jz kvs k d))) (upd H2 l (.ext (qf l (storedH xs k b u')))):=Fr.write (K:=X.K) hM
 exact ⟨ρ,_,ED.trans fw,r2.go fw (r2.mem.vK hH hy Vj (Gu dy NR ru pk)),q2⟩
end
end L3
namespace L3
open PySem PySem.Spec PyProof.Rows L2
section
variable {X:Cx}
end
end L3
namespace HT
open PySem PyProof.Rows
open PySem.SeqAt
open PySem.AutoSeq1 (wpAny_loadPart')
open PySem.MeetsSeq PySem.MeetsSeq2 PySem.MeetsSeq3
end HT
namespace L3
open PySem PySem.Spec PyProof.Rows L2
section
variable {X:Cx}
end
end L3
namespace L3
structure Pt where
 X:Int
 Y:Int
 N:Int
def hw (a b:Pl) (x:Pt):Int:=(b.x - a.x)*(x.Y - x.N*a.y) - (b.y - a.y)*(x.X - x.N*a.x)
def wK (w:Way) (a:Pl) (x:Pt):Int:=x.N*w.f a - (w.al*x.X+w.be*x.Y)
theorem qP (a b:Pl) (x:Pt):hw b a x= -hw a b x:=by unfold hw;grind
theorem LL (a b c:Pl) (x:Pt):hw a b x+hw b c x+hw c a x=x.N*tw a b c:=by unfold hw tw;grind
theorem LM (w:Way) (a b c:Pl) (x:Pt):hw b c x*wK w a x+hw c a x*wK w b x+hw a b x*wK w c x=0:=by unfold hw wK Way.f;grind
def PN (w:Way) (x:Pt) (a b:Pl):Int:=if wK w a x≤0∧0 < wK w b x∧0 < hw a b x then 1 else 0
def wn (w:Way) (x:Pt) (a b:Pl):Int:=PN w x a b - PN w x b a
theorem IM (w:Way) (x:Pt) (a b:Pl):wn w x b a= -wn w x a b:=by unfold wn;omega
theorem mz (A α:Int) (h:A≠0):(0 < A→0 < α→0 < A*α)∧(0 < A→α≤0→A*α≤0)∧(A < 0→0 < α→A*α < 0)∧(A < 0→α≤0→0≤A*α)∧(A*α=0→α=0):=
 ⟨fun a b=>Int.mul_pos a b,fun a b=>Int.mul_nonpos_of_nonneg_of_nonpos (by omega) b,fun a b=>Int.mul_neg_of_neg_of_pos a b,fun a b=>Int.mul_nonneg_of_nonpos_of_nonpos (by omega) b,fun e=>(Int.mul_eq_zero.mp e).resolve_left h⟩
theorem six {A B C α β γ S:Int} (hA:A≠0) (hB:B≠0) (hC:C≠0) (hS:0 < S) (s:A+B+C=S) (e:A*α+B*β+C*γ=0) (d:¬ (α=0∧β=0∧γ=0)) :
 ((if α≤0∧0 < β∧0 < C then 1 else 0) - (if β≤0∧0 < α∧C < 0 then 1 else 0))+((if β≤0∧0 < γ∧0 < A then 1 else 0) - (if γ≤0∧0 < β∧A < 0 then 1 else 0))+((if γ≤0∧0 < α∧0 < B then 1 else 0) - (if α≤0∧0 < γ∧B < 0 then 1 else 0))=if 0 < C∧0 < A∧0 < B then (1:Int) else 0:=by
 obtain ⟨a1,a2,a3,a4,a5⟩:=mz A α hA
 obtain ⟨b1,b2,b3,b4,b5⟩:=mz B β hB
 obtain ⟨c1,c2,c3,c4,c5⟩:=mz C γ hC
 generalize A*α=P at *
 generalize B*β=Q at *
 generalize C*γ=R at *
 rcases Int.lt_or_gt_of_ne hA with xA | xA <;> rcases Int.lt_or_gt_of_ne hB with xB | xB <;> rcases Int.lt_or_gt_of_ne hC with xC | xC <;>
  by_cases yα:α≤0 <;> by_cases yβ:β≤0 <;> by_cases yγ:γ≤0 <;>
  first
  | (exfalso;omega)
  | (simp only [show ¬ (0 < α)↔α≤0 by omega,show ¬ (0 < β)↔β≤0 by omega,show ¬ (0 < γ)↔γ≤0 by omega, *]
     have nα:(0 < α)↔¬ α≤0:=by omega
     have nβ:(0 < β)↔¬ β≤0:=by omega
     have nγ:(0 < γ)↔¬ γ≤0:=by omega
     have nA:(0 < A)↔¬ A < 0:=by omega
     have nB:(0 < B)↔¬ B < 0:=by omega
     have nC:(0 < C)↔¬ C < 0:=by omega
     simp [nα,nβ,nγ,nA,nB,nC, *] <;> omega)
theorem LN {w:Way} {x:Pt} {a b c:Pl} (hN:0 < x.N) (t:0 < tw a b c) (f:w.f a≠w.f b) (h1:hw a b x≠0) (h2:hw b c x≠0) (h3:hw c a x≠0) :
 wn w x a b+wn w x b c+wn w x c a=if 0 < hw a b x∧0 < hw b c x∧0 < hw c a x then 1 else 0:=by
 have s:hw b c x+hw c a x+hw a b x=x.N*tw a b c:=by rw [← LL a b c x];omega
 have k:=six (α:=wK w a x) (β:=wK w b x) (γ:=wK w c x) h2 h3 h1 (Int.mul_pos hN t) s (LM w a b c x) (fun ⟨z1,z2,_⟩=>f (by
  have:x.N*w.f a=x.N*w.f b:=by unfold wK at z1 z2;omega
  exact Int.eq_of_mul_eq_mul_left (by omega) this))
 have f1:=qP a b x
 have f2:=qP b c x
 have f3:=qP c a x
 have e1:(0 < hw b a x)=(hw a b x < 0):=by rw [f1];exact propext ⟨fun _=>by omega,fun _=>by omega⟩
 have e2:(0 < hw c b x)=(hw b c x < 0):=by rw [f2];exact propext ⟨fun _=>by omega,fun _=>by omega⟩
 have e3:(0 < hw a c x)=(hw c a x < 0):=by rw [f3];exact propext ⟨fun _=>by omega,fun _=>by omega⟩
 unfold wn PN
 simp only [e1,e2,e3]
 exact k
end L3
namespace L3
def sz (g:List Pl→Int):List (List Pl)→Int
 | []=>0
 | d :: r=>g d+sz g r
theorem Gv (g:List Pl→Int):∀ a b:List (List Pl),sz g (a ++ b)=sz g a+sz g b
 | [],b=>by simp [sz]
 | d :: r,b=>by show g d+sz g (r ++ b)=g d+sz g r+sz g b;rw [Gv g r b];omega
theorem BZ (g:List Pl→Int) {a b:List (List Pl)} (h:a.Perm b):sz g a=sz g b:=by
 induction h with
 | nil=>rfl
 | cons x _ ih=>show g x+_=g x+_;rw [ih]
 | swap x y l=>show g y+(g x+sz g l)=g x+(g y+sz g l);omega
 | trans _ _ i j=>rw [i,j]
theorem Gw {g:List Pl→Int} {f:List Pl→List Pl}:∀ {l:List (List Pl)},(∀ d∈l,g (f d)= -g d)→sz g (l.map f)= -sz g l
 | [],_=>rfl
 | d :: r,h=>by
   show g (f d)+sz g (r.map f)= -(g d+sz g r)
   rw [Gw fun x hx=>h x (List.mem_cons_of_mem _ hx),h d (by simp)]
   omega
theorem B0 (g:List Pl→Int) (f:List Pl→Bool):∀ l:List (List Pl),sz g l=sz g (l.filter f)+sz g (l.filter fun v=>!f v)
 | []=>rfl
 | d :: r=>by
   have ih:=B0 g f r
   cases q:f d
   ·rw [List.filter_cons_of_neg (by simp [q]),List.filter_cons_of_pos (by simp [q])]
    show g d+sz g r=_+(g d+sz g _)
    omega
   ·rw [List.filter_cons_of_pos (by simp [q]),List.filter_cons_of_neg (by simp [q])]
    show g d+sz g r=g d+sz g _+_
    omega
def wL (w:Way) (x:Pt):List Pl→Int
 | [a,b]=>wn w x a b
 | _=>0
def bk:List Pl→List Pl
 | [a,b]=>[b,a]
 | l=>l
theorem LO:∀ {u v:List Pl},bk u=bk v→u=v:=by
 have key:∀ u,bk (bk u)=u:=fun u=>by
  match u with
  | []=>rfl
  | [_]=>rfl
  | [_,_]=>rfl
  | _ :: _ :: _ :: _=>rfl
 intro u v h
 rw [← key u,h,key v]
theorem lB {α:Type} [DecidableEq α] {a b:List α} (na:a.Nodup) (nb:b.Nodup) (h:∀ x,x∈a↔x∈b):a.Perm b:=(List.perm_ext_iff_of_nodup na nb).mpr h
theorem IP {D:List (List Pl)} (nd:D.Nodup) (two:∀ d∈D,∃ a b,d= [a,b]) {g:List Pl→Int} (hg:∀ a b,g [b,a]= -g [a,b]):sz g D=sz g (D.filter fun d=>!decide (bk d∈D)):=by
 rw [B0 g (fun d=>decide (bk d∈D)) D]
 have z:sz g (D.filter fun d=>decide (bk d∈D))=0:=by
  have n1:(D.filter fun d=>decide (bk d∈D)).Nodup:=nd.filter _
  have n2:((D.filter fun d=>decide (bk d∈D)).map bk).Nodup:=k8 n1 fun u _ v _ e=>LO e
  have p:=lB n1 n2 fun d=>by
   rw [List.mem_filter,List.mem_map]
   constructor
   ·rintro ⟨h1,h2⟩
    obtain ⟨a,b,rfl⟩:=two d h1
    exact ⟨[b,a],List.mem_filter.mpr ⟨of_decide_eq_true h2,decide_eq_true h1⟩,rfl⟩
   ·rintro ⟨e,he,rfl⟩
    obtain ⟨h1,h2⟩:=List.mem_filter.mp he
    obtain ⟨a,b,rfl⟩:=two e h1
    exact ⟨of_decide_eq_true h2,decide_eq_true h1⟩
  have e1:=BZ g p
  rw [Gw (f:=bk) fun d hd=>by
   obtain ⟨a,b,rfl⟩:=two d (List.mem_filter.mp hd).1
   exact hg a b] at e1
  omega
 rw [z]
 omega
theorem wm.OW {Q:List Pl} {D:List (List Pl)} (s:cY Q) (nf:¬ Flat Q) (c:wm Q D):(D.filter fun d=>!decide (bk d∈D)).Perm (SL Q):=by
 refine lB (c.nd.filter _) (j7 s) fun d=>?_
 rw [List.mem_filter]
 constructor
 ·rintro ⟨h1,h2⟩
  obtain ⟨a,b,rfl,_,_⟩:=c.rW d h1
  refine (cG s).mpr (c.bare a b h1 fun z=>?_)
  rw [Bool.not_eq_true'] at h2
  exact of_decide_eq_false h2 z
 ·intro h
  obtain ⟨a,b,rfl⟩:=mh h
  have h:=(cG s).mp h
  refine ⟨(c.has a b h).resolve_left fun z=>nf (vg h z),?_⟩
  rw [Bool.not_eq_true']
  exact decide_eq_false (c.mw a b h)
theorem LP {Q:List Pl} {D:List (List Pl)} (s:cY Q) (nf:¬ Flat Q) (c:wm Q D) {g:List Pl→Int} (hg:∀ a b,g [b,a]= -g [a,b]):sz g D=sz g (SL Q):=by
 rw [IP c.nd (fun d hd=>let ⟨a,b,e,_⟩:=c.rW d hd;⟨a,b,e⟩) hg]
 exact BZ g (c.OW s nf)
theorem B3 {Q:List Pl} (s:cY Q) {a b c d:Pl} (h1:aT Q a b) (h2:aT Q c d) (ab:aq.f a < aq.f b) (cb:aq.f c < aq.f b) (cd:aq.f c < aq.f d) (ac:aq.f a≤aq.f c):a=c∧b=d:=by
 have q1:=(h1.2.2.2 c h2.1).1
 have q2:=(h1.2.2.2 d h2.2.1).1
 have q3:=(h2.2.2.2 a h1.1).1
 have q4:=(h2.2.2.2 b h1.2.1).1
 have e1:=sj aq d b a c
 have r1:tw c b a= -tw a b c:=by unfold tw;grind
 rw [r1] at e1
 have m1:0≤(aq.f b - aq.f c)*tw c d a:=Int.mul_nonneg (by omega) q3
 have m2:(aq.f d - aq.f c)* -tw a b c≤0:=Int.mul_nonpos_of_nonneg_of_nonpos (by omega) (by omega)
 have m3:(aq.f a - aq.f c)*tw c d b≤0:=Int.mul_nonpos_of_nonpos_of_nonneg (by omega) q4
 have z1:(aq.f d - aq.f c)* -tw a b c=0:=by omega
 have z2:tw a b c=0:=by
  rcases Int.mul_eq_zero.mp z1 with z | z <;> omega
 have Vk:aq.f a=aq.f c:=by
  have:=cU s h1 h2.1 z2
  omega
 obtain rfl:a=c:=s.inj h1.1 h2.1 Vk
 refine ⟨rfl,?_⟩
 have r2:=vd a b d
 have z3:tw a b d=0:=by omega
 have b1:=cU s h1 h2.2.1 z3
 have b2:=cU s h2 h1.2.1 (by omega)
 exact s.inj h1.2.1 h2.2.1 (by omega)
theorem LQ {Q:List Pl} (s:cY Q) {x:Pt} {a b c d:Pl} (h1:aT Q a b) (h2:aT Q c d) (k1:wK aq a x≤0) (k2:0 < wK aq b x) (k3:wK aq c x≤0) (k4:0 < wK aq d x) (hN:0 < x.N):a=c∧b=d:=by
 have lt:∀ {u v:Pl},wK aq u x≤0→0 < wK aq v x→aq.f u < aq.f v:=fun {u v} i j=>by
  unfold wK at i j
  have:x.N*aq.f u < x.N*aq.f v:=by omega
  exact Int.lt_of_mul_lt_mul_left this (by omega)
 rcases Int.le_total (aq.f a) (aq.f c) with z | z
 ·exact B3 s h1 h2 (lt k1 k2) (lt k3 k2) (lt k3 k4) z
 ·obtain ⟨e1,e2⟩:=B3 s h2 h1 (lt k3 k4) (lt k1 k4) (lt k1 k2) z
  exact ⟨e1.symm,e2.symm⟩
theorem vt {g:List Pl→Int}:∀ {l:List (List Pl)},l.Nodup→(∀ d∈l,g d≤1)→(∀ d∈l,∀ e∈l,0 < g d→0 < g e→d=e)→sz g l≤1
 | [],_,_,_=>by simp [sz]
 | d :: r,n,h1,h2=>by
   obtain ⟨n1,n2⟩:=List.nodup_cons.mp n
   show g d+sz g r≤1
   by_cases z:0 < g d
   ·have k:∀ {l:List (List Pl)},(∀ e∈l,g e≤0)→sz g l≤0:=fun {l} hl=>by
     induction l with
     | nil=>simp [sz]
     | cons e l ih=>
       have:=ih fun x hx=>hl x (List.mem_cons_of_mem _ hx)
       have:=hl e (by simp)
       show g e+sz g l≤0
       omega
    have:=k (l:=r) fun e he=>by
     apply Classical.byContradiction
     intro y
     have:=h2 d (by simp) e (List.mem_cons_of_mem _ he) z (by omega)
     exact n1 (this▸he)
    have:=h1 d (by simp)
    omega
   ·have:=vt n2 (fun e he=>h1 e (List.mem_cons_of_mem _ he)) (fun e he u hu=>h2 e (List.mem_cons_of_mem _ he) u (List.mem_cons_of_mem _ hu))
    omega
theorem Gx (w:Way) (x:Pt) (a b:Pl):wn w x a b≤1∧(0 < wn w x a b→wK w a x≤0∧0 < wK w b x):=by
 unfold wn PN
 split <;> rename_i h1 <;> split <;> rename_i h2
 ·exact ⟨by omega,fun _=>⟨h1.1,h1.2.1⟩⟩
 ·exact ⟨by omega,fun _=>⟨h1.1,h1.2.1⟩⟩
 ·exact ⟨by omega,fun z=>by omega⟩
 ·exact ⟨by omega,fun z=>by omega⟩
theorem IQ {Q:List Pl} (s:cY Q) {x:Pt} (hN:0 < x.N):sz (wL aq x) (SL Q)≤1:=by
 refine vt (j7 s) (fun d hd=>?_) fun d hd e he k1 k2=>?_
 ·obtain ⟨a,b,rfl⟩:=mh hd
  exact (Gx aq x a b).1
 ·obtain ⟨a,b,rfl⟩:=mh hd
  obtain ⟨u,v,rfl⟩:=mh he
  obtain ⟨i1,i2⟩:=(Gx aq x a b).2 k1
  obtain ⟨j1,j2⟩:=(Gx aq x u v).2 k2
  obtain ⟨rfl,rfl⟩:=LQ s ((cG s).mp hd) ((cG s).mp he) i1 i2 j1 j2 hN
  rfl
def ins (x:Pt):List Pl→Int
 | [a,b,c]=>if 0 < hw a b x∧0 < hw b c x∧0 < hw c a x then 1 else 0
 | _=>0
def Gen (Q:List Pl) (x:Pt):Prop:=0 < x.N∧∀ a∈Q,∀ b∈Q,a≠b→hw a b x≠0
theorem nF.parts {Q t:List Pl} (h:nF Q t):∃ a b c,t= [a,b,c]∧0 < tw a b c∧a∈Q∧b∈Q∧c∈Q∧a≠b∧b≠c∧c≠a:=by
 obtain ⟨⟨a,b,c,rfl,l1,l2,p⟩,h2⟩:=h
 refine ⟨a,b,c,rfl,p,h2 a (by simp),h2 b (by simp),h2 c (by simp),fun z=>?_,fun z=>?_,fun z=>?_⟩
 ·rw [z] at p;unfold tw at p;exact absurd p (by grind)
 ·rw [z] at p;unfold tw at p;exact absurd p (by grind)
 ·rw [z] at p;unfold tw at p;exact absurd p (by grind)
theorem IS {Q t:List Pl} {x:Pt} (s:cY Q) (g:Gen Q x) (h:nF Q t):sz (wL aq x) (dj t)=ins x t:=by
 obtain ⟨a,b,c,rfl,p,ha,hb,hc,n1,n2,n3⟩:=h.parts
 show wn aq x a b+(wn aq x b c+(wn aq x c a+0))=if 0 < hw a b x∧0 < hw b c x∧0 < hw c a x then 1 else 0
 have:=LN (w:=aq) g.1 p (xN s ha hb n1) (g.2 a ha b hb n1) (g.2 b hb c hc n2) (g.2 c hc a ha n3)
 rw [← this]
 omega
theorem B4 {Q:List Pl} {x:Pt} (s:cY Q) (g:Gen Q x):∀ {ts:List (List Pl)},(∀ t∈ts,nF Q t)→sz (wL aq x) (bf ts)=sz (ins x) ts
 | [],_=>rfl
 | t :: r,h=>by
   have e:bf (t :: r)=dj t ++ bf r:=by unfold bf;rw [List.flatMap_cons]
   rw [e,Gv,IS s g (h t (by simp)),B4 s g fun u hu=>h u (List.mem_cons_of_mem _ hu)]
   rfl
structure dR (Q:List Pl) (ts:List (List Pl)):Prop where
 xP:cY Q
 IT:wm Q (bf ts)
 bW:∀ t∈ts,nF Q t
theorem dR.LR {Q:List Pl} {ts:List (List Pl)} (c:dR Q ts) (nf:¬ Flat Q) {x:Pt} (g:Gen Q x):sz (ins x) ts≤1:=by
 rw [← B4 c.xP g c.bW,LP c.xP nf c.IT fun a b=>IM aq x a b]
 exact IQ c.xP g.1
theorem Gy {g:List Pl→Int} (h0:∀ t,0≤g t) {t u:List Pl} (ne:t≠u):∀ {ts:List (List Pl)},t∈ts→u∈ts→g t+g u≤sz g ts
 | v :: r,ht,hu=>by
   show _≤g v+sz g r
   have one:∀ {l:List (List Pl)} {z:List Pl},z∈l→g z≤sz g l:=fun {l z} hz=>by
    induction l with
    | nil=>cases hz
    | cons e l ih=>
      have n:0≤sz g l:=by
       clear ih hz
       induction l with
       | nil=>simp [sz]
       | cons a l ih=>have:=h0 a;show 0≤g a+sz g l;omega
      show g z≤g e+sz g l
      rcases List.mem_cons.mp hz with rfl | m
      ·omega
      ·have:=ih m;have:=h0 e;omega
   rcases List.mem_cons.mp ht with e1 | k1
   ·rcases List.mem_cons.mp hu with e2 | k2
    ·exact absurd (e1.trans e2.symm) ne
    ·have:=one k2;rw [e1];omega
   ·rcases List.mem_cons.mp hu with e2 | k2
    ·have:=one k1;rw [e2];omega
    ·have:=Gy h0 ne k1 k2;have:=h0 v;omega
theorem LS (x:Pt) (t:List Pl):0≤ins x t:=by
 unfold ins
 split
 ·split <;> omega
 ·omega
theorem dR.one {Q:List Pl} {ts:List (List Pl)} (c:dR Q ts) (nf:¬ Flat Q) {x:Pt} (g:Gen Q x) {t u:List Pl} (ht:t∈ts) (hu:u∈ts) (it:ins x t=1) (iu:ins x u=1):t=u:=by
 apply Classical.byContradiction
 intro ne
 have:=Gy (LS x) ne ht hu
 have:=c.LR nf g
 omega
end L3
namespace L3
def B5 (p q c d:Pl):Int:=(q.x - p.x)*(d.x - c.x)+(q.y - p.y)*(d.y - c.y)
theorem LU (g:Pl→Pl→Nat) (Q:List Pl):∃ B:Nat,∀ p∈Q,∀ q∈Q,g p q≤B:=by
 have one:∀ (h:Pl→Nat) (R:List Pl),∃ B:Nat,∀ p∈R,h p≤B:=fun h R=>by
  induction R with
  | nil=>exact ⟨0,fun p hp=>by cases hp⟩
  | cons a R ih=>
    obtain ⟨B,hB⟩:=ih
    refine ⟨B+h a,fun p hp=>?_⟩
    rcases List.mem_cons.mp hp with rfl | m
    ·omega
    ·have:=hB p m;omega
 have two:∀ (R:List Pl),∃ B:Nat,∀ p∈R,∀ q∈Q,g p q≤B:=fun R=>by
  induction R with
  | nil=>exact ⟨0,fun p hp=>by cases hp⟩
  | cons a R ih=>
    obtain ⟨B,hB⟩:=ih
    obtain ⟨C,hC⟩:=one (g a) Q
    refine ⟨B+C,fun p hp q hq=>?_⟩
    rcases List.mem_cons.mp hp with rfl | m
    ·have:=hC q hq;omega
    ·have:=hB p m q hq;omega
 exact two Q
theorem R6 {B t u v:Int} (h0:0≤B) (hu: -B≤u∧u≤B) (hv: -B≤v∧v≤B) (h:0 < t∨(t=0∧(0 < u∨(u=0∧0 < v)))):0 < (B+1)*(B+1)*t+(B+1)*u+v:=by
 rcases h with h | ⟨rfl,h | ⟨rfl,h⟩⟩
 ·have m1:0≤(B+1)*(B+1)*(t - 1):=Int.mul_nonneg (Int.mul_nonneg (by omega) (by omega)) (by omega)
  have m2:0≤(B+1)*(u+B):=Int.mul_nonneg (by omega) (by omega)
  have e1:(B+1)*(B+1)*(t - 1)=(B+1)*(B+1)*t - (B+1)*(B+1):=by rw [Int.mul_sub,Int.mul_one]
  have e2:(B+1)*(u+B)=(B+1)*u+(B+1)*B:=Int.mul_add _ _ _
  have e3:(B+1)*(B+1)=(B+1)*B+(B+1):=by rw [Int.mul_add,Int.mul_one]
  omega
 ·have m2:0≤(B+1)*(u - 1):=Int.mul_nonneg (by omega) (by omega)
  have e2:(B+1)*(u - 1)=(B+1)*u - (B+1):=by rw [Int.mul_sub,Int.mul_one]
  rw [Int.mul_zero]
  omega
 ·rw [Int.mul_zero,Int.mul_zero]
  omega
theorem vv {p q c d:Pl} (n1:p≠q) (n2:c≠d) (h:tw p q d - tw p q c=0):B5 p q c d≠0:=fun z=>by
 have e:(tw p q d - tw p q c)*(tw p q d - tw p q c)+B5 p q c d*B5 p q c d=((q.x - p.x)*(q.x - p.x)+(q.y - p.y)*(q.y - p.y))*((d.x - c.x)*(d.x - c.x)+(d.y - c.y)*(d.y - c.y)):=by unfold tw B5;grind
 rw [h,z] at e
 have pos:∀ u v:Pl,u≠v→0 < (v.x - u.x)*(v.x - u.x)+(v.y - u.y)*(v.y - u.y):=fun u v n=>by
  have s1:0≤(v.x - u.x)*(v.x - u.x):=by
   rcases Int.le_total 0 (v.x - u.x) with k | k
   ·exact Int.mul_nonneg k k
   ·exact Int.mul_nonneg_of_nonpos_of_nonpos k k
  have s2:0≤(v.y - u.y)*(v.y - u.y):=by
   rcases Int.le_total 0 (v.y - u.y) with k | k
   ·exact Int.mul_nonneg k k
   ·exact Int.mul_nonneg_of_nonpos_of_nonpos k k
  apply Classical.byContradiction
  intro k
  have z1:(v.x - u.x)*(v.x - u.x)=0:=by omega
  have z2:(v.y - u.y)*(v.y - u.y)=0:=by omega
  have z1:v.x - u.x=0:=(Int.mul_eq_zero.mp z1).elim id id
  have z2:v.y - u.y=0:=(Int.mul_eq_zero.mp z2).elim id id
  exact n (by cases u;cases v;simp only [Pl.mk.injEq];dsimp only at z1 z2;omega)
 have:=Int.mul_pos (pos p q n1) (pos c d n2)
 omega
theorem R7 {Q:List Pl} {c d:Pl} (ne:c≠d):∃ x:Pt,Gen Q x∧∀ p∈Q,∀ q∈Q,(0 < tw p q c∨(tw p q c=0∧(0 < tw p q d∨(tw p q d=0∧0 < B5 p q c d))))→0 < hw p q x:=by
 obtain ⟨B,hB⟩:=LU (fun p q=>(tw p q d - tw p q c).natAbs+(B5 p q c d).natAbs) Q
 refine ⟨⟨((B:Int)+1)*(B+1)*c.x+(B+1)*(d.x - c.x) - (d.y - c.y),((B:Int)+1)*(B+1)*c.y+(B+1)*(d.y - c.y)+(d.x - c.x),((B:Int)+1)*(B+1)⟩,?_⟩
 have e:∀ p q,hw p q ⟨((B:Int)+1)*(B+1)*c.x+(B+1)*(d.x - c.x) - (d.y - c.y),((B:Int)+1)*(B+1)*c.y+(B+1)*(d.y - c.y)+(d.x - c.x),((B:Int)+1)*(B+1)⟩=((B:Int)+1)*(B+1)*tw p q c+(B+1)*(tw p q d - tw p q c)+B5 p q c d:=fun p q=>by unfold hw tw B5;grind
 have key:∀ p∈Q,∀ q∈Q,(0 < tw p q c∨(tw p q c=0∧(0 < tw p q d∨(tw p q d=0∧0 < B5 p q c d))))→0 < hw p q ⟨((B:Int)+1)*(B+1)*c.x+(B+1)*(d.x - c.x) - (d.y - c.y),((B:Int)+1)*(B+1)*c.y+(B+1)*(d.y - c.y)+(d.x - c.x),((B:Int)+1)*(B+1)⟩:=fun p hp q hq h=>by
  rw [e]
  have b:=hB p hp q hq
  exact R6 (by omega) (by omega) (by omega) (h.imp id fun ⟨z,h⟩=>⟨z,h.imp (fun _=>by omega) fun ⟨z',h⟩=>⟨by omega,h⟩⟩)
 refine ⟨⟨Int.mul_pos (by omega) (by omega),fun p hp q hq n z=>?_⟩,key⟩
 have fl:∀ r,tw q p r= -tw p q r:=fun r=>cM p q r
 have fd:B5 q p c d= -B5 p q c d:=by unfold B5;grind
 have fh:=qP p q ⟨((B:Int)+1)*(B+1)*c.x+(B+1)*(d.x - c.x) - (d.y - c.y),((B:Int)+1)*(B+1)*c.y+(B+1)*(d.y - c.y)+(d.x - c.x),((B:Int)+1)*(B+1)⟩
 have k1:=key p hp q hq
 have k2:=key q hq p hp
 rw [fl,fl,fd] at k2
 by_cases c0:tw p q c=0
 ·by_cases d0:tw p q d=0
  ·have:=vv n ne (by omega)
   rcases Int.lt_or_gt_of_ne this with y | y
   ·have:=k2 (by omega);omega
   ·have:=k1 (by omega);omega
  ·rcases Int.lt_or_gt_of_ne d0 with y | y
   ·have:=k2 (by omega);omega
   ·have:=k1 (by omega);omega
 ·rcases Int.lt_or_gt_of_ne c0 with y | y
  ·have:=k2 (by omega);omega
  ·have:=k1 (by omega);omega
def dD (t:List Pl) (a b c:Pl):Prop:=t= [a,b,c]∨t= [b,c,a]∨t= [c,a,b]
theorem dD.dir {t:List Pl} {a b c:Pl} (r:dD t a b c):(dj t).Perm [[a,b],[b,c],[c,a]]:=by
 rcases r with rfl | rfl | rfl
 ·exact .refl _
 ·show [[b,c],[c,a],[a,b]].Perm _
  exact (List.perm_append_comm (l₁:=[[b,c],[c,a]]) (l₂:=[[a,b]]))
 ·show [[c,a],[a,b],[b,c]].Perm _
  exact (List.perm_append_comm (l₁:=[[c,a]]) (l₂:=[[a,b],[b,c]]))
theorem dD.ins {t:List Pl} {a b c:Pl} (r:dD t a b c) {x:Pt} (h1:0 < hw a b x) (h2:0 < hw b c x) (h3:0 < hw c a x):ins x t=1:=by
 rcases r with rfl | rfl | rfl
 ·exact if_pos ⟨h1,h2,h3⟩
 ·exact if_pos ⟨h2,h3,h1⟩
 ·exact if_pos ⟨h3,h1,h2⟩
theorem dD.mem {t:List Pl} {a b c:Pl} (r:dD t a b c) (q:Pl):q∈t↔q=a∨q=b∨q=c:=by
 rcases r with rfl | rfl | rfl <;> simp only [List.mem_cons,List.not_mem_nil,or_false]
 ·exact ⟨fun h=>by rcases h with h | h | h <;> simp [h],fun h=>by rcases h with h | h | h <;> simp [h]⟩
 ·exact ⟨fun h=>by rcases h with h | h | h <;> simp [h],fun h=>by rcases h with h | h | h <;> simp [h]⟩
theorem dD.tw {Q t:List Pl} {a b c:Pl} (r:dD t a b c) (h:nF Q t):0 < tw a b c∧a∈Q∧b∈Q∧c∈Q:=by
 obtain ⟨u,v,w,rfl,p,hu,hv,hw,_⟩:=h.parts
 have e1:=jH u v w
 have e2:=sr u v w
 rcases r with e | e | e <;> injection e with x1 e <;> injection e with x2 e <;> injection e with x3 e <;> subst x1 x2 x3
 ·exact ⟨p,hu,hv,hw⟩
 ·exact ⟨by omega,hw,hu,hv⟩
 ·exact ⟨by omega,hv,hw,hu⟩
theorem ji {Q t:List Pl} {a b:Pl} (h:nF Q t) (m: [a,b]∈dj t):∃ c,dD t a b c:=by
 obtain ⟨u,v,w,rfl,_⟩:=h.parts
 have m: [a,b]= [u,v]∨[a,b]= [v,w]∨[a,b]= [w,u]:=by simpa [dj] using m
 rcases m with e | e | e <;> obtain ⟨rfl,rfl⟩:=aL e
 ·exact ⟨w,.inl rfl⟩
 ·exact ⟨u,.inr (.inr rfl)⟩
 ·exact ⟨v,.inr (.inl rfl)⟩
theorem cu {ts:List (List Pl)} {w:List Pl}:w∈bf ts↔∃ t∈ts,w∈dj t:=List.mem_flatMap
section
variable {Q:List Pl} {ts:List (List Pl)} {a b c d:Pl} {t1 t2:List Pl}
theorem jj (p1:0 < tw a b c) (p2:0 < tw b a d) (cv:tw c d a*tw c d b < 0):0 < tw c d b∧tw c d a < 0:=by
 have e:tw c d b - tw c d a=tw a b c+tw b a d:=by unfold tw;grind
 by_cases z:0 < tw c d b
 ·refine ⟨z,?_⟩
  apply Classical.byContradiction
  intro k
  have:=Int.mul_nonneg (a:=tw c d a) (b:=tw c d b) (by omega) (by omega)
  omega
 ·have:=Int.mul_nonneg_of_nonpos_of_nonpos (a:=tw c d a) (b:=tw c d b) (by omega) (by omega)
  omega
theorem dG (a b:Pl):tw a b a=0∧tw a b b=0∧tw a a b=0:=by unfold tw;grind
theorem dR.new_one (k:dR Q ts) (nf:¬ Flat Q) (h1:t1∈ts) (r1:dD t1 a b c) (p2:0 < tw b a d) (hd:d∈Q) (cv:tw c d a*tw c d b < 0): [c,d]∉bf ts:=fun m=>by
 obtain ⟨t,ht,m⟩:=cu.mp m
 obtain ⟨e,re⟩:=ji (k.bW t ht) m
 obtain ⟨p1,ha,hb,hc⟩:=r1.tw (k.bW t1 h1)
 obtain ⟨p3,_,_,he⟩:=re.tw (k.bW t ht)
 obtain ⟨s1,s2⟩:=jj p1 p2 cv
 have ne:c≠d:=fun z=>by rw [z,(dG d b).2.2] at s1;omega
 obtain ⟨x,g,hx⟩:=R7 (Q:=Q) ne
 have i1:ins x t=1:=by
  refine re.ins (hx c hc d hd (.inr ⟨(dG c d).1,.inr ⟨(dG c d).2.1,?_⟩⟩)) (hx d hd e he (.inl (by have:=jH c d e;omega))) (hx e he c hc (.inr ⟨(dG e c).2.1,.inl (by have:=sr c d e;omega)⟩))
  have n:=vv (p:=c) (q:=d) (c:=c) (d:=d) ne ne (by rw [(dG c d).1,(dG c d).2.1];omega)
  have:0≤B5 c d c d:=by
   unfold B5
   have q:∀ z:Int,0≤z*z:=fun z=>by
    rcases Int.le_total 0 z with k | k
    ·exact Int.mul_nonneg k k
    ·exact Int.mul_nonneg_of_nonpos_of_nonpos k k
   have:=q (d.x - c.x)
   have:=q (d.y - c.y)
   omega
  omega
 have i2:ins x t1=1:=by
  refine r1.ins (hx a ha b hb (.inl p1)) (hx b hb c hc (.inr ⟨(dG b c).2.1,.inl ?_⟩)) (hx c hc a ha (.inr ⟨(dG c a).1,.inl ?_⟩))
  ·have:=jH b c d;omega
  ·have:=vd c d a;omega
 have ee:=k.one nf g ht h1 i1 i2
 subst ee
 have hd':d∈t:=(re.mem d).mpr (.inr (.inl rfl))
 rcases (r1.mem d).mp hd' with z | z | z
 ·rw [z,(dG b a).2.1] at p2;omega
 ·rw [z,(dG b a).1] at p2;omega
 ·exact ne z.symm
theorem dR.IU (k:dR Q ts) (nf:¬ Flat Q) (h1:t1∈ts) (r1:dD t1 a b c) (h2:t2∈ts) (r2:dD t2 b a d) (cv:tw c d a*tw c d b < 0): [c,d]∉bf ts∧[d,c]∉bf ts:=by
 obtain ⟨p1,ha,hb,hc⟩:=r1.tw (k.bW t1 h1)
 obtain ⟨p2,_,_,hd⟩:=r2.tw (k.bW t2 h2)
 refine ⟨k.new_one nf h1 r1 p2 hd cv,k.new_one nf h2 r2 p1 hc ?_⟩
 rw [cM c d b,cM c d a,Int.neg_mul_neg,Int.mul_comm]
 exact cv
theorem wm.swap {D D' E:List (List Pl)} (k:wm Q D) (p:D.Perm ([a,b] :: [b,a] :: E)) (p':D'.Perm ([c,d] :: [d,c] :: E)) (n1: [c,d]∉D) (n2: [d,c]∉D) (ne:c≠d) (hc:c∈Q) (hd:d∈Q)
 (s1:¬ aT Q a b) (s2:¬ aT Q b a) (s3:¬ aT Q c d) (s4:¬ aT Q d c):wm Q D':=by
 have m:∀ w,w∈D↔w= [a,b]∨w= [b,a]∨w∈E:=fun w=>by rw [p.mem_iff];simp only [List.mem_cons]
 have m':∀ w,w∈D'↔w= [c,d]∨w= [d,c]∨w∈E:=fun w=>by rw [p'.mem_iff];simp only [List.mem_cons]
 have nd:=p.nodup_iff.mp k.nd
 obtain ⟨e1,nd⟩:=List.nodup_cons.mp nd
 obtain ⟨e2,nd⟩:=List.nodup_cons.mp nd
 refine ⟨?_,?_,?_,?_,?_⟩
 ·refine p'.nodup_iff.mpr (List.nodup_cons.mpr ⟨fun z=>?_,List.nodup_cons.mpr ⟨fun z=>n2 ((m _).mpr (.inr (.inr z))),nd⟩⟩)
  rcases List.mem_cons.mp z with z | z
  ·exact ne (aL z).1
  ·exact n1 ((m _).mpr (.inr (.inr z)))
 ·intro w hw
  rcases (m' w).mp hw with rfl | rfl | z
  ·exact ⟨c,d,rfl,hc,hd⟩
  ·exact ⟨d,c,rfl,hd,hc⟩
  ·exact k.rW w ((m w).mpr (.inr (.inr z)))
 ·intro u v h1 h2
  have hE: [u,v]∈E:=by
   rcases (m' _).mp h1 with z | z | z
   ·obtain ⟨rfl,rfl⟩:=aL z
    exact absurd ((m' _).mpr (.inr (.inl rfl))) h2
   ·obtain ⟨rfl,rfl⟩:=aL z
    exact absurd ((m' _).mpr (.inl rfl)) h2
   ·exact z
  refine k.bare u v ((m _).mpr (.inr (.inr hE))) fun z=>?_
  rcases (m _).mp z with z | z | z
  ·obtain ⟨rfl,rfl⟩:=aL z
   exact e2 hE
  ·obtain ⟨rfl,rfl⟩:=aL z
   exact e1 (List.mem_cons_of_mem _ hE)
  ·exact h2 ((m' _).mpr (.inr (.inr z)))
 ·intro u v h z
  rcases (m' _).mp z with z | z | z
  ·obtain ⟨rfl,rfl⟩:=aL z
   exact s4 h
  ·obtain ⟨rfl,rfl⟩:=aL z
   exact s3 h
  ·exact k.mw u v h ((m _).mpr (.inr (.inr z)))
 ·intro u v h
  refine (k.has u v h).imp id fun z=>?_
  rcases (m _).mp z with z | z | z
  ·obtain ⟨rfl,rfl⟩:=aL z
   exact absurd h s1
  ·obtain ⟨rfl,rfl⟩:=aL z
   exact absurd h s2
  ·exact (m' _).mpr (.inr (.inr z))
theorem dR.nodup (k:dR Q ts):ts.Nodup:=by
 have nd:=k.IT.nd
 have bW:=k.bW
 clear k
 induction ts with
 | nil=>exact .nil
 | cons t r ih=>
   have e:bf (t :: r)=dj t ++ bf r:=by unfold bf;rw [List.flatMap_cons]
   rw [e] at nd
   obtain ⟨_,n2,n3⟩:=List.nodup_append.mp nd
   refine List.nodup_cons.mpr ⟨fun z=>?_,ih n2 fun u hu=>bW u (List.mem_cons_of_mem _ hu)⟩
   obtain ⟨u,v,w,e,_⟩:=(bW t (by simp)).parts
   have m: [u,v]∈dj t:=by rw [e];simp [dj]
   exact n3 _ m _ (cu.mpr ⟨t,z,m⟩) rfl
theorem dR.flip (k:dR Q ts) (nf:¬ Flat Q) {rest ts':List (List Pl)} {u1 u2:List Pl} (p:ts.Perm (t1 :: t2 :: rest)) (r1:dD t1 a b c) (r2:dD t2 b a d) (cv:tw c d a*tw c d b < 0)
 (p':ts'.Perm (u1 :: u2 :: rest)) (v1:dD u1 a d c) (v2:dD u2 b c d) (l1:gv u1) (l2:gv u2):dR Q ts':=by
 have h1:t1∈ts:=p.mem_iff.mpr (by simp)
 have h2:t2∈ts:=p.mem_iff.mpr (by simp)
 obtain ⟨p1,ha,hb,hc⟩:=r1.tw (k.bW t1 h1)
 obtain ⟨p2,_,_,hd⟩:=r2.tw (k.bW t2 h2)
 obtain ⟨s1,s2⟩:=jj p1 p2 cv
 obtain ⟨n1,n2⟩:=k.IU nf h1 r1 h2 r2 cv
 have ne:c≠d:=fun z=>by rw [z,(dG d b).2.2] at s1;omega
 refine ⟨k.xP,?_,fun t ht=>?_⟩
 ·have e1:(bf ts).Perm ([a,b] :: [b,a] :: ([b,c] :: [c,a] :: [a,d] :: [d,b] :: bf rest)):=by
   have q1:(bf ts).Perm (dj t1 ++ (dj t2 ++ bf rest)):=by
    have:=p.flatMap_right (f:=dj)
    unfold bf
    simpa only [List.flatMap_cons] using this
   refine q1.trans (((r1.dir.append_right _).trans ((r2.dir.append_right _).append_left _)).trans ?_)
   exact .cons _ (List.perm_middle (l₁:=[[b,c],[c,a]]))
  have e2:(bf ts').Perm ([c,d] :: [d,c] :: ([b,c] :: [c,a] :: [a,d] :: [d,b] :: bf rest)):=by
   have q1:(bf ts').Perm (dj u1 ++ (dj u2 ++ bf rest)):=by
    have:=p'.flatMap_right (f:=dj)
    unfold bf
    simpa only [List.flatMap_cons] using this
   refine q1.trans (((v1.dir.append_right _).trans ((v2.dir.append_right _).append_left _)).trans ?_)
   show ([a,d] :: [d,c] :: [c,a] :: [b,c] :: [c,d] :: [d,b] :: bf rest).Perm _
   refine (List.perm_middle (l₁:=[[a,d],[d,c],[c,a],[b,c]])).trans (.cons _ ?_)
   refine (List.Perm.swap _ _ _).trans (.cons _ ?_)
   exact (List.reverse_perm [[b,c],[c,a],[a,d]]).append_right _
  refine k.IT.swap e1 e2 n1 n2 ne hc hd (fun h=>?_) (fun h=>?_) (fun h=>?_) (fun h=>?_)
  ·have:=(h.2.2.2 d hd).1;have:=cM a b d;omega
  ·have:=(h.2.2.2 c hc).1;have:=cM a b c;omega
  ·have:=(h.2.2.2 a ha).1;omega
  ·have:=(h.2.2.2 b hb).1;have:=cM c d b;omega
 ·rcases List.mem_cons.mp (p'.mem_iff.mp ht) with rfl | ht
  ·exact ⟨l1,fun q hq=>by rcases (v1.mem q).mp hq with rfl | rfl | rfl <;> assumption⟩
  ·rcases List.mem_cons.mp ht with rfl | ht
   ·exact ⟨l2,fun q hq=>by rcases (v2.mem q).mp hq with rfl | rfl | rfl <;> assumption⟩
   ·exact k.bW t (p.mem_iff.mpr (List.mem_cons_of_mem _ (List.mem_cons_of_mem _ ht)))
end
end L3
namespace L3
theorem AG {Q:List Pl} {p:Pl} (s:cY (Q ++ [p])) (h:Q≠[]):(SL (Q ++ [p])).length+(bK Q p).length=(SL Q).length+2:=by
 have g:=BU s
 have so:=s.old
 have l2:2≤(Q ++ [p]).length:=by
  have:=List.length_pos_iff.mpr h
  rw [List.length_append,List.length_singleton];omega
 obtain ⟨u,hu⟩:=(oY s l2).2 p (by simp)
 obtain ⟨v,hv⟩:=sf s hu
 have sp:=split_len (zI p) (SL Q)
 have np:∀ a b,[a,b]∈SL Q→a≠p∧b≠p:=fun a b m=>by
  have:=(cG so).mp m
  exact ⟨fun z=>s.out (z▸this.1),fun z=>s.out (z▸this.2.1)⟩
 have:=sub_len (l:=[u,p] :: [p,v] :: (SL Q).filter (fun v=>!zI p v)) (m:=SL (Q ++ [p])) (by
  refine List.nodup_cons.mpr ⟨fun z=>?_,List.nodup_cons.mpr ⟨fun z=>?_,(j7 so).filter _⟩⟩
  ·rcases List.mem_cons.mp z with z | z
   ·exact hu.2.2.1 (aL z).1
   ·exact (np u p (List.mem_filter.mp z).1).2 rfl
  ·exact (np p v (List.mem_filter.mp z).1).1 rfl) (fun w hw=>by
  rcases List.mem_cons.mp hw with rfl | hw
  ·exact (cG s).mpr hu
  ·rcases List.mem_cons.mp hw with rfl | hw
   ·exact (cG s).mpr hv
   ·obtain ⟨m,k⟩:=List.mem_filter.mp hw
    obtain ⟨a,b,rfl⟩:=mh m
    have sd:=(cG so).mp m
    refine (cG s).mpr ((gC s sd.1 sd.2.1).mpr ⟨sd,?_⟩)
    replace k:(!decide (tw a b p < 0))=true:=k
    rw [Bool.not_eq_true'] at k
    have:=of_decide_eq_false k
    omega)
 rw [List.length_cons,List.length_cons] at this
 unfold bK at *
 omega
theorem sN {qs:List Pl} (s:cY qs):∀ k,k+1≤qs.length→(jg qs (k+1)).length+(SL (qs.take (k+1))).length=2*k
 | 0,h=>by
   have e:SL (qs.take 0)= []:=j6 (by simp)
   rw [j6 (by simp;omega)]
   show (jg qs 0 ++ (bK (qs.take 0) (uv qs 0)).map (yE (uv qs 0))).length+0=0
   unfold bK
   rw [e]
   rfl
 | k+1,h=>by
   have st:=s.take (k+2)
   have ih:=sN s k (by omega)
   rw [k9 (by omega)] at st ⊢
   have ne:qs.take (k+1)≠[]:=fun z=>by
    have:=congrArg List.length z
    rw [List.length_take,List.length_nil] at this
    omega
   have:=AG st ne
   show (jg qs (k+1) ++ (bK (qs.take (k+1)) (uv qs (k+1))).map (yE (uv qs (k+1)))).length+_=_
   rw [List.length_append,List.length_map]
   omega
theorem Dz {qs:List Pl} (s:cY qs) (h:2≤qs.length):(jg qs qs.length).length+(bJ qs).length+2=2*qs.length:=by
 obtain ⟨l2,e,_⟩:=vc s h
 have:=sN s (qs.length - 1) (by omega)
 rw [show qs.length - 1+1=qs.length by omega,List.take_length,e,List.length_zipWith,List.length_append,List.length_drop,List.length_take] at this
 omega
def IV (w:List Pl):List Pl:=
 match w with
 | [a,b]=>[lo a b,hi a b]
 | w=>w
def cr:List Pl→Int
 | [a,b]=>a.x*b.y - a.y*b.x
 | _=>0
def Vl (bd:List Pl) (k:Nat):Pl:=if k=0 then bd.getLastD ⟨0,0⟩ else uv bd (k - 1)
def rW (bd:List Pl):Nat→Int
 | 0=>0
 | k+1=>rW bd k+cr [Vl bd k,uv bd k]
end L3
namespace L3
section
variable {Q:List Pl} {ts:List (List Pl)} {X:Pt}
theorem DA {a b c:Pl} (t:0 < tw a b c) (h1:hw a b X=0) (h2:hw b c X=0):X.X=X.N*b.x∧X.Y=X.N*b.y:=by
 have e1:tw a b c*(X.X - X.N*b.x)=hw a b X*(c.x - b.x)+hw b c X*(a.x - b.x):=by unfold tw hw;grind
 have e2:tw a b c*(X.Y - X.N*b.y)=hw a b X*(c.y - b.y)+hw b c X*(a.y - b.y):=by unfold tw hw;grind
 rw [h1,h2,Int.zero_mul,Int.zero_mul] at e1 e2
 have z1:=(Int.mul_eq_zero.mp (e1.trans (by omega))).resolve_left (by omega)
 have z2:=(Int.mul_eq_zero.mp (e2.trans (by omega))).resolve_left (by omega)
 omega
end
end L3
namespace L3
section
variable {Q:List Pl} {X:Pt}
end
end L3
namespace L3
def i8 (H:Pl→Int) (a b c p:Pl):Int:=tw a b c*H p - (tw b c p*H a+tw c a p*H b+tw a b p*H c)
def JX (p:Pl):Int:=p.x*p.x+p.y*p.y
theorem IW (a b c d:Pl):i8 JX a b c d= -dep a b c d:=by unfold i8 JX dep xM tw;grind
theorem IX (K C:Int) (f g:Pl→Int) (a b c d:Pl):i8 (fun p=>K*f p - g p+C) a b c d=K*i8 f a b c d - i8 g a b c d:=by unfold i8 tw;grind
theorem B6 (H:Pl→Int) (a b c p:Pl):i8 H b c a p=i8 H a b c p:=by unfold i8 tw;grind
theorem OX (H:Pl→Int) (a b c:Pl):i8 H a b c a=0:=by unfold i8 tw;grind
theorem OY (H:Pl→Int) (a b c:Pl):i8 H a b c b=0:=by unfold i8 tw;grind
theorem OZ (H:Pl→Int) (a b c:Pl):i8 H a b c c=0:=by unfold i8 tw;grind
theorem wM {α:Type} (f:α→Int):∀ l:List α,∃ B:Nat,∀ x∈l,(f x).natAbs≤B
 | []=>⟨0,fun x hx=>by cases hx⟩
 | y :: r=>by
   obtain ⟨B,hB⟩:=wM f r
   refine ⟨B+(f y).natAbs,fun x hx=>?_⟩
   rcases List.mem_cons.mp hx with rfl | hx
   ·omega
   ·have:=hB x hx;omega
theorem LV (f:Pl→Pl→Pl→Int) (Q:List Pl):∃ B:Nat,∀ a∈Q,∀ b∈Q,∀ c∈Q,(f a b c).natAbs≤B:=by
 obtain ⟨B,hB⟩:=wM id (Q.flatMap fun a=>Q.flatMap fun b=>Q.map fun c=>f a b c)
 exact ⟨B,fun a ha b hb c hc=>hB _ (List.mem_flatMap.mpr ⟨a,ha,List.mem_flatMap.mpr ⟨b,hb,List.mem_map.mpr ⟨c,hc,rfl⟩⟩⟩)⟩
theorem LW (f:Pl→Pl→Pl→Pl→Int) (Q:List Pl):∃ B:Nat,∀ a∈Q,∀ b∈Q,∀ c∈Q,∀ d∈Q,(f a b c d).natAbs≤B:=by
 obtain ⟨B,hB⟩:=wM id (Q.flatMap fun a=>Q.flatMap fun b=>Q.flatMap fun c=>Q.map fun d=>f a b c d)
 exact ⟨B,fun a ha b hb c hc d hd=>hB _ (List.mem_flatMap.mpr ⟨a,ha,List.mem_flatMap.mpr ⟨b,hb,List.mem_flatMap.mpr ⟨c,hc,List.mem_map.mpr ⟨d,hd,rfl⟩⟩⟩⟩)⟩
theorem B7 {α:Type} {f g:α→Bool}:∀ {l:List α},(∀ x∈l,f x=true→g x=true)→(l.filter f).length≤(l.filter g).length
 | [],_=>Nat.le_refl _
 | y :: r,h=>by
   have ih:=B7 (l:=r) fun x hx=>h x (List.mem_cons_of_mem _ hx)
   rw [List.filter_cons,List.filter_cons]
   have hy:=h y (by simp)
   cases e1:f y <;> cases e2:g y <;> simp_all <;> omega
theorem B8 {α:Type} {f g:α→Bool} {y:α}:∀ {l:List α},(∀ x∈l,f x=true→g x=true)→y∈l→f y=false→g y=true→(l.filter f).length < (l.filter g).length
 | z :: r,h,m,e1,e2=>by
   have hr:∀ x∈r,f x=true→g x=true:=fun x hx=>h x (List.mem_cons_of_mem _ hx)
   have le:=B7 hr
   rw [List.filter_cons,List.filter_cons]
   rcases List.mem_cons.mp m with rfl | m
   ·simp [e1,e2];omega
   ·have ih:=B8 hr m e1 e2
    have hz:=h z (by simp)
    cases e3:f z <;> cases e4:g z <;> simp_all <;> omega
theorem O0 (Q:List Pl) (B:Nat) (hB:0 < B):∃ w:Pl→Int,(∀ p∈Q,0 < w p)∧∀ p∈Q,∀ q∈Q,aI p q→(B:Int)*w q≤w p:=by
 refine ⟨fun p=>((B ^ (Q.filter fun q=>decide (aI p q)).length:Nat):Int),fun p _=>?_,fun p _ q hq h=>?_⟩
 ·have:=Nat.pow_pos (n:=(Q.filter fun q=>decide (aI p q)).length) hB
  show (0:Int) < ((B ^ (Q.filter fun q=>decide (aI p q)).length:Nat):Int)
  omega
 ·have lt:(Q.filter fun r=>decide (aI q r)).length < (Q.filter fun r=>decide (aI p r)).length:=
   B8 (y:=q) (fun x _ hx=>decide_eq_true (bP h (of_decide_eq_true hx))) hq (decide_eq_false (bI q)) (decide_eq_true h)
  have h1:B ^ ((Q.filter fun r=>decide (aI q r)).length+1)≤B ^ (Q.filter fun r=>decide (aI p r)).length:=Nat.pow_le_pow_right hB lt
  rw [Nat.pow_succ,Nat.mul_comm] at h1
  show (B:Int)*((B ^ (Q.filter fun r=>decide (aI q r)).length:Nat):Int)≤((B ^ (Q.filter fun r=>decide (aI p r)).length:Nat):Int)
  rw [← Int.natCast_mul]
  exact Int.ofNat_le.mpr h1
structure Ht (Q:List Pl) (H:Pl→Int):Prop where
 IY:∀ a∈Q,∀ b∈Q,∀ c∈Q,∀ d∈Q,0 < tw a b c→(gS a b c d↔i8 H a b c d < 0)
 gen:∀ a∈Q,∀ b∈Q,∀ c∈Q,∀ d∈Q,0 < tw a b c→i8 H a b c d=0→d=a∨d=b∨d=c
 nn:∀ p∈Q,0≤H p
theorem nN {T:Nat} {k t1 t2 t3:Int} {w w1 w2 w3:Int} (hk:k≠0) (b1:t1.natAbs≤T) (b2:t2.natAbs≤T) (b3:t3.natAbs≤T) (p1:0 < w1) (p2:0 < w2) (p3:0 < w3)
 (l1:((3*T+1:Nat):Int)*w1≤w) (l2:((3*T+1:Nat):Int)*w2≤w) (l3:((3*T+1:Nat):Int)*w3≤w) (hw0:0 < w):(0 < k→0 < k*w+t1*w1+t2*w2+t3*w3)∧(k < 0→k*w+t1*w1+t2*w2+t3*w3 < 0):=by
 have bnd:∀ {t v:Int},t.natAbs≤T→0 < v→ -((T:Int)*v)≤t*v∧t*v≤(T:Int)*v:=fun {t v} ht hv=>by
  have c1:t≤(T:Int):=by omega
  have c2: -(T:Int)≤t:=by omega
  have d1:=Int.mul_le_mul_of_nonneg_right c1 (Int.le_of_lt hv)
  have d2:=Int.mul_le_mul_of_nonneg_right c2 (Int.le_of_lt hv)
  rw [Int.neg_mul] at d2
  exact ⟨d2,d1⟩
 have e:∀ v:Int,((3*T+1:Nat):Int)*v=3*((T:Int)*v)+v:=fun v=>by
  have:((3*T+1:Nat):Int)=3*(T:Int)+1:=by omega
  rw [this];grind
 rw [e] at l1 l2 l3
 have x1:=bnd b1 p1
 have x2:=bnd b2 p2
 have x3:=bnd b3 p3
 refine ⟨fun h=>?_,fun h=>?_⟩
 ·have:1*w≤k*w:=Int.mul_le_mul_of_nonneg_right (by omega) (Int.le_of_lt hw0)
  omega
 ·have:k*w≤(-1)*w:=Int.mul_le_mul_of_nonneg_right (by omega) (Int.le_of_lt hw0)
  omega
theorem sO {a b c d:Pl} (hT:0 < tw a b c) (h0:dep a b c d=0) (nb:d≠b) (nc:d≠c):tw b c d≠0:=fun z=>by
 rcases BI (by omega) h0 z with h | h
 ·exact nb h
 ·exact nc h
theorem DB (a b c d:Pl) (n1:a≠b) (n2:b≠c) (n3:c≠a) (n4:d≠a) (n5:d≠b) (n6:d≠c):(aI d a∧aI d b∧aI d c)∨(aI a b∧aI a c∧aI a d)∨(aI b a∧aI b c∧aI b d)∨(aI c a∧aI c b∧aI c d):=by
 have x:∀ {p q:Pl},p≠q→aI p q∨aI q p:=fun {p q} n=>by
  rcases eO p q with h | h | h
  ·exact .inl h
  ·exact absurd h n
  ·exact .inr h
 rcases x n1 with h1 | h1 <;> rcases x n2 with h2 | h2 <;> rcases x n3 with h3 | h3 <;> rcases x n4 with h4 | h4 <;> rcases x n5 with h5 | h5 <;> rcases x n6 with h6 | h6 <;>
 first
 | exact .inl ⟨h4,h5,h6⟩
 | exact .inr (.inl ⟨h1,h3,h4⟩)
 | exact .inr (.inr (.inl ⟨h1,h2,h5⟩))
 | exact .inr (.inr (.inr ⟨h3,h2,h6⟩))
 | (exfalso;unfold aI at h1 h2 h3 h4 h5 h6;omega)
theorem o6 (Q:List Pl):∃ H,Ht Q H:=by
 obtain ⟨T,hT⟩:=LV tw Q
 obtain ⟨w,wp,wl⟩:=O0 Q (3*T+1) (by omega)
 obtain ⟨K,hK⟩:=LW (i8 w) Q
 obtain ⟨C,hC⟩:=wM (fun p=>((K:Int)+1)*JX p - w p) Q
 have O1:∀ a∈Q,∀ b∈Q,∀ c∈Q,∀ d∈Q,0 < tw a b c→dep a b c d=0→d≠a→d≠b→d≠c→i8 w a b c d≠0∧(gS a b c d↔0 < i8 w a b c d):=by
  intro a ha b hb c hc d hd p h0 n4 n5 n6
  have n1:a≠b:=fun z=>by rw [z] at p;unfold tw at p;grind
  have n2:b≠c:=fun z=>by rw [z] at p;unfold tw at p;grind
  have n3:c≠a:=fun z=>by rw [z] at p;unfold tw at p;grind
  have r0:=kY h0
  have s1:=sO p h0 n5 n6
  have s2:=sO (a:=b) (b:=c) (c:=a) (d:=d) (by have:=jH a b c;omega) (by rw [vP];exact h0) n6 n4
  have s3:=sO (a:=c) (b:=a) (c:=b) (d:=d) (by have:=sr a b c;omega) (by rw [← vP c a b d];exact h0) n4 n5
  have e:i8 w a b c d=tw a b c*w d+(-tw b c d)*w a+(-tw c a d)*w b+(-tw a b d)*w c:=by unfold i8;grind
  have sg:∀ {i:Int},i≠0→∀ {j:Int},0 < j→(i.sign≠j.sign↔i < 0):=fun {i} hi {j} hj=>by
   rw [Int.sign_eq_one_of_pos hj]
   constructor
   ·intro h
    apply Classical.byContradiction
    intro z
    exact h (Int.sign_eq_one_of_pos (by omega))
   ·intro h z
    rw [Int.sign_eq_neg_one_of_neg h] at z
    omega
  have g1:=jH a b c
  have g2:=sr a b c
  have b1:=hT a ha b hb c hc
  have b2:=hT b hb c hc d hd
  have b3:=hT c hc a ha d hd
  have b4:=hT a ha b hb d hd
  have u1:=sg s1 (show 0 < tw b c a by omega)
  have u2:=sg s2 (show 0 < tw c a b by omega)
  have u3:=sg s3 (show 0 < tw a b c by omega)
  rcases DB a b c d n1 n2 n3 n4 n5 n6 with ⟨m1,m2,m3⟩ | ⟨m1,m2,m3⟩ | ⟨m1,m2,m3⟩ | ⟨m1,m2,m3⟩
  ·have o:=nN (k:=tw a b c) (t1:= -tw b c d) (t2:= -tw c a d) (t3:= -tw a b d) (by omega) (by omega) (by omega) (by omega) (wp a ha) (wp b hb) (wp c hc) (wl d hd a ha m1) (wl d hd b hb m2) (wl d hd c hc m3) (wp d hd)
   have l:=o.1 p
   refine ⟨by omega,fun _=>by omega,fun _=> .inr ⟨r0,n4,n5,n6,.inl ⟨m1,m2,m3⟩⟩⟩
  ·have o:=nN (k:= -tw b c d) (t1:=tw a b c) (t2:= -tw c a d) (t3:= -tw a b d) (by omega) (by omega) (by omega) (by omega) (wp d hd) (wp b hb) (wp c hc) (wl a ha d hd m3) (wl a ha b hb m1) (wl a ha c hc m2) (wp a ha)
   refine ⟨fun z=>?_,fun h=>?_,fun h=>?_⟩
   ·rcases Int.lt_or_gt_of_ne s1 with q | q
    ·have:=o.1 (by omega);omega
    ·have:=o.2 (by omega);omega
   ·have:tw b c d < 0:=by
     rcases h with h | ⟨_,_,_,_,⟨h,_⟩ | ⟨_,_,_,h⟩ | ⟨h,_⟩ | ⟨h,_⟩⟩
     ·omega
     ·exact absurd h (aE m3)
     ·exact u1.mp h
     ·exact absurd h (aE m1)
     ·exact absurd h (aE m2)
    have:=o.1 (by omega)
    omega
   ·refine .inr ⟨r0,n4,n5,n6,.inr (.inl ⟨m1,m2,m3,u1.mpr ?_⟩)⟩
    apply Classical.byContradiction
    intro z
    have:=o.2 (by omega)
    omega
  ·have o:=nN (k:= -tw c a d) (t1:=tw a b c) (t2:= -tw b c d) (t3:= -tw a b d) (by omega) (by omega) (by omega) (by omega) (wp d hd) (wp a ha) (wp c hc) (wl b hb d hd m3) (wl b hb a ha m1) (wl b hb c hc m2) (wp b hb)
   refine ⟨fun z=>?_,fun h=>?_,fun h=>?_⟩
   ·rcases Int.lt_or_gt_of_ne s2 with q | q
    ·have:=o.1 (by omega);omega
    ·have:=o.2 (by omega);omega
   ·have:tw c a d < 0:=by
     rcases h with h | ⟨_,_,_,_,⟨_,h,_⟩ | ⟨h,_⟩ | ⟨_,_,_,h⟩ | ⟨_,h,_⟩⟩
     ·omega
     ·exact absurd h (aE m3)
     ·exact absurd h (aE m1)
     ·exact u2.mp h
     ·exact absurd h (aE m2)
    have:=o.1 (by omega)
    omega
   ·refine .inr ⟨r0,n4,n5,n6,.inr (.inr (.inl ⟨m1,m2,m3,u2.mpr ?_⟩))⟩
    apply Classical.byContradiction
    intro z
    have:=o.2 (by omega)
    omega
  ·have o:=nN (k:= -tw a b d) (t1:=tw a b c) (t2:= -tw b c d) (t3:= -tw c a d) (by omega) (by omega) (by omega) (by omega) (wp d hd) (wp a ha) (wp b hb) (wl c hc d hd m3) (wl c hc a ha m1) (wl c hc b hb m2) (wp c hc)
   refine ⟨fun z=>?_,fun h=>?_,fun h=>?_⟩
   ·rcases Int.lt_or_gt_of_ne s3 with q | q
    ·have:=o.1 (by omega);omega
    ·have:=o.2 (by omega);omega
   ·have:tw a b d < 0:=by
     rcases h with h | ⟨_,_,_,_,⟨_,_,h⟩ | ⟨_,h,_⟩ | ⟨_,h,_⟩ | ⟨_,_,_,h⟩⟩
     ·omega
     ·exact absurd h (aE m3)
     ·exact absurd h (aE m1)
     ·exact absurd h (aE m2)
     ·exact u3.mp h
    have:=o.1 (by omega)
    omega
   ·refine .inr ⟨r0,n4,n5,n6,.inr (.inr (.inr ⟨m1,m2,m3,u3.mpr ?_⟩))⟩
    apply Classical.byContradiction
    intro z
    have:=o.2 (by omega)
    omega
 have eH:∀ a b c d,i8 (fun p=>((K:Int)+1)*JX p - w p+(C:Int)) a b c d= -(((K:Int)+1)*dep a b c d) - i8 w a b c d:=fun a b c d=>by rw [IX,IW];grind
 have pos:∀ a∈Q,∀ b∈Q,∀ c∈Q,∀ d∈Q,0 < dep a b c d→i8 (fun p=>((K:Int)+1)*JX p - w p+(C:Int)) a b c d < 0:=fun a ha b hb c hc d hd h=>by
  rw [eH]
  have:=hK a ha b hb c hc d hd
  have:((K:Int)+1)*1≤((K:Int)+1)*dep a b c d:=Int.mul_le_mul_of_nonneg_left (by omega) (by omega)
  omega
 have neg:∀ a∈Q,∀ b∈Q,∀ c∈Q,∀ d∈Q,dep a b c d < 0→0 < i8 (fun p=>((K:Int)+1)*JX p - w p+(C:Int)) a b c d:=fun a ha b hb c hc d hd h=>by
  rw [eH]
  have:=hK a ha b hb c hc d hd
  have:((K:Int)+1)*dep a b c d≤((K:Int)+1)*(-1):=Int.mul_le_mul_of_nonneg_left (by omega) (by omega)
  omega
 refine ⟨fun p=>((K:Int)+1)*JX p - w p+(C:Int),⟨fun a ha b hb c hc d hd p=>?_,fun a ha b hb c hc d hd p z=>?_,fun p hp=>?_⟩⟩
 ·rcases Int.lt_trichotomy (dep a b c d) 0 with h | h | h
  ·have:=neg a ha b hb c hc d hd h
   refine ⟨fun s=>?_,fun s=>by omega⟩
   have:=(Bx p s).1
   omega
  ·by_cases n4:d=a
   ·subst n4
    rw [OX]
    refine ⟨fun s=>?_,fun s=>by omega⟩
    rcases s with s | ⟨_,n,_⟩
    ·rw [kY h] at s;omega
    ·exact absurd rfl n
   by_cases n5:d=b
   ·subst n5
    rw [OY]
    refine ⟨fun s=>?_,fun s=>by omega⟩
    rcases s with s | ⟨_,_,n,_⟩
    ·rw [kY h] at s;omega
    ·exact absurd rfl n
   by_cases n6:d=c
   ·subst n6
    rw [OZ]
    refine ⟨fun s=>?_,fun s=>by omega⟩
    rcases s with s | ⟨_,_,_,n,_⟩
    ·rw [kY h] at s;omega
    ·exact absurd rfl n
   have t:=(O1 a ha b hb c hc d hd p h n4 n5 n6).2
   rw [eH,h,Int.mul_zero,t]
   omega
  ·have:=pos a ha b hb c hc d hd h
   exact ⟨fun _=>this,fun _=>l0 p h⟩
 ·rcases Int.lt_trichotomy (dep a b c d) 0 with h | h | h
  ·have:=neg a ha b hb c hc d hd h;omega
  ·apply Classical.byContradiction
   intro y
   have t:=(O1 a ha b hb c hc d hd p h (fun e=>y (.inl e)) (fun e=>y (.inr (.inl e))) (fun e=>y (.inr (.inr e)))).1
   rw [eH,h,Int.mul_zero] at z
   omega
  ·have:=pos a ha b hb c hc d hd h;omega
 ·have:=hC p hp
  show 0≤((K:Int)+1)*JX p - w p+(C:Int)
  omega
end L3
namespace L3
section
variable {Q:List Pl} {H:Pl→Int}
theorem Ht.R8 (h:Ht Q H) {t:List Pl} (hT:nF Q t) {a b c:Pl} (r:dD t a b c) {d:Pl} (hd:d∈Q):Aq t d↔i8 H a b c d < 0:=by
 obtain ⟨p,ha,hb,hc⟩:=r.tw hT
 rcases r with rfl | rfl | rfl
 ·exact h.IY a ha b hb c hc d hd p
 ·rw [← B6 H a b c d]
  exact h.IY b hb c hc a ha d hd (by have:=jH a b c;omega)
 ·rw [B6 H c a b d]
  exact h.IY c hc a ha b hb d hd (by have:=sr a b c;omega)
theorem Gz {a b c:Pl} (p:0 < tw a b c):∃ t,gv t∧dD t a b c:=by
 have g1:=jH a b c
 have g2:=sr a b c
 have n1:a≠b:=fun z=>by rw [z] at p;unfold tw at p;grind
 have n2:b≠c:=fun z=>by rw [z] at p;unfold tw at p;grind
 have n3:c≠a:=fun z=>by rw [z] at p;unfold tw at p;grind
 have x:∀ {p q:Pl},p≠q→aI p q∨aI q p:=fun {p q} n=>by
  rcases eO p q with h | h | h
  ·exact .inl h
  ·exact absurd h n
  ·exact .inr h
 rcases x n1 with h1 | h1
 ·rcases x n3 with h3 | h3
  ·exact ⟨[c,a,b],⟨c,a,b,rfl,h3,bP h3 h1,by omega⟩,.inr (.inr rfl)⟩
  ·exact ⟨[a,b,c],⟨a,b,c,rfl,h1,h3,p⟩,.inl rfl⟩
 ·rcases x n2 with h2 | h2
  ·exact ⟨[b,c,a],⟨b,c,a,rfl,h2,h1,by omega⟩,.inr (.inl rfl)⟩
  ·exact ⟨[c,a,b],⟨c,a,b,rfl,bP h2 h1,h2,by omega⟩,.inr (.inr rfl)⟩
theorem AH {a b c d:Pl} (h:d=a∨d=b∨d=c):¬ gS a b c d:=fun s=>by
 have z:dep a b c d=0:=by
  rcases h with rfl | rfl | rfl
  ·exact N7 _ _ _
  ·exact N8 _ _ _
  ·exact JI _ _ _
 rcases s with s | ⟨_,n1,n2,n3,_⟩
 ·rw [kY z] at s;omega
 ·rcases h with h | h | h
  ·exact n1 h
  ·exact n2 h
  ·exact n3 h
end
end L3
namespace L3
section
variable {Q:List Pl} {ts:List (List Pl)} {H:Pl→Int}
def Full (Q:List Pl) (ts:List (List Pl)):Prop:= ∀ q∈Q,∃ t∈ts,q∈t
def R9 (d:Pl):Pt:=⟨d.x,d.y,1⟩
theorem JY (a b d:Pl):hw a b (R9 d)=tw a b d:=by unfold hw R9 tw;grind
end
end L3
namespace L3
section
variable {Q:List Pl} {ts us:List (List Pl)} {H:Pl→Int} {a b c d:Pl}
theorem LX (a b c p:Pl):tw a b c*dep a b c p=tw b c p*tw c a p*xM a b+tw c a p*tw a b p*xM b c+tw a b p*tw b c p*xM c a:=by unfold dep xM tw;grind
theorem o7 {p:Pl} (t:0 < tw a b c) (z1:tw a b p=0) (z2:tw b c p=0):p=b:=by
 obtain ⟨e1,e2⟩:=DA (X:=R9 p) t (by rw [JY];exact z1) (by rw [JY];exact z2)
 have e1:p.x=1*b.x:=e1
 have e2:p.y=1*b.y:=e2
 cases p
 cases b
 simp only at e1 e2
 rw [e1,e2,Int.one_mul,Int.one_mul]
theorem sP {p:Pl} (t:0 < tw a b c) (w1:0≤tw a b p) (w2:0≤tw b c p) (w3:0≤tw c a p) (na:p≠a) (nb:p≠b) (nc:p≠c):gS a b c p:=by
 refine l0 t (BK t ?_)
 rw [LX]
 have n1:a≠b:=fun z=>by rw [z] at t;unfold tw at t;grind
 have n2:b≠c:=fun z=>by rw [z] at t;unfold tw at t;grind
 have n3:c≠a:=fun z=>by rw [z] at t;unfold tw at t;grind
 have d1:=vQ n1
 have d2:=vQ n2
 have d3:=vQ n3
 have m1:=Int.mul_nonneg (Int.mul_nonneg w2 w3) (Int.le_of_lt d1)
 have m2:=Int.mul_nonneg (Int.mul_nonneg w3 w1) (Int.le_of_lt d2)
 have m3:=Int.mul_nonneg (Int.mul_nonneg w1 w2) (Int.le_of_lt d3)
 have k1:¬ (tw a b p=0∧tw b c p=0):=fun z=>nb (o7 t z.1 z.2)
 have k2:¬ (tw b c p=0∧tw c a p=0):=fun z=>nc (o7 (a:=b) (b:=c) (c:=a) (by have:=jH a b c;omega) z.1 z.2)
 have k3:¬ (tw c a p=0∧tw a b p=0):=fun z=>na (o7 (a:=c) (b:=a) (c:=b) (by have:=sr a b c;omega) z.1 z.2)
 by_cases z1:tw a b p=0
 ·have:=Int.mul_pos (Int.mul_pos (show 0 < tw b c p by omega) (show 0 < tw c a p by omega)) d1
  omega
 by_cases z2:tw b c p=0
 ·have:=Int.mul_pos (Int.mul_pos (show 0 < tw c a p by omega) (show 0 < tw a b p by omega)) d2
  omega
 have:=Int.mul_pos (Int.mul_pos (show 0 < tw a b p by omega) (show 0 < tw b c p by omega)) d3
 omega
theorem LY (H:Pl→Int) (a b c d:Pl):i8 H a d c b= -i8 H a b c d:=by unfold i8 tw;grind
theorem LZ (H:Pl→Int) (a b c d:Pl):i8 H d b c a= -i8 H a b c d:=by unfold i8 tw;grind
theorem IZ (H:Pl→Int) (a b c d:Pl):i8 H b a d c=i8 H a b c d:=by unfold i8 tw;grind
theorem B9 (p1:0 < tw a b c) (p2:0 < tw b a d):gS a b c d↔gS b a d c:=by
 obtain ⟨H,h⟩:=o6 [a,b,c,d]
 rw [h.IY a (by simp) b (by simp) c (by simp) d (by simp) p1,h.IY b (by simp) a (by simp) d (by simp) c (by simp) p2,IZ]
theorem DC (p1:0 < tw a b c) (p2:0 < tw b a d) (s:gS a b c d):0 < tw c d b∧tw c d a < 0:=by
 obtain ⟨H,h⟩:=o6 [a,b,c,d]
 have s:=(h.IY a (by simp) b (by simp) c (by simp) d (by simp) p1).mp s
 have f:=cM a b d
 have ne:∀ {x y z:Pl},0 < tw x y z→x≠y∧y≠z∧z≠x:=fun {x y z} p=>⟨fun e=>by rw [e] at p;unfold tw at p;grind,fun e=>by rw [e] at p;unfold tw at p;grind,fun e=>by rw [e] at p;unfold tw at p;grind⟩
 obtain ⟨n1,n2,n3⟩:=ne p1
 obtain ⟨_,n4,n5⟩:=ne p2
 have n6:c≠d:=fun e=>by rw [e] at p1;omega
 constructor
 ·apply Classical.byContradiction
  intro y
  have e1:tw a d b=tw b a d:=jH b a d
  have e2:tw d c b= -tw c d b:=cM c d b
  have e3:tw c a b=tw a b c:=sr a b c
  have e4:tw a d c=tw a d b+tw d c b+tw c a b:=by unfold tw;grind
  have pos:0 < tw a d c:=by omega
  have sp:=sP (p:=b) pos (by omega) (by omega) (by omega) n1.symm n5.symm n2
  have:=(h.IY a (by simp) d (by simp) c (by simp) b (by simp) pos).mp sp
  rw [LY] at this
  omega
 ·apply Classical.byContradiction
  intro y
  have e1:tw d b a=tw b a d:=sr b a d
  have e2:tw b c a=tw a b c:=jH a b c
  have e4:tw d b c=tw d b a+tw b c a+tw c d a:=by unfold tw;grind
  have pos:0 < tw d b c:=by omega
  have sp:=sP (p:=a) pos (by omega) (by omega) (by omega) n4 n1 n3.symm
  have:=(h.IY d (by simp) b (by simp) c (by simp) a (by simp) pos).mp sp
  rw [LZ] at this
  omega
theorem sQ {α β:Type} {f:α→List β} {w:β}:∀ {l:List α},(l.flatMap f).Nodup→∀ {t u:α},t∈l→u∈l→w∈f t→w∈f u→t=u
 | x :: r,nd,t,u,ht,hu,m1,m2=>by
   rw [List.flatMap_cons] at nd
   obtain ⟨_,n2,n3⟩:=List.nodup_append.mp nd
   rcases List.mem_cons.mp ht with e1 | h1
   ·rcases List.mem_cons.mp hu with e2 | h2
    ·rw [e1,e2]
    ·rw [e1] at m1
     exact absurd rfl (n3 w m1 w (List.mem_flatMap.mpr ⟨u,h2,m2⟩))
   ·rcases List.mem_cons.mp hu with e2 | h2
    ·rw [e2] at m2
     exact absurd rfl (n3 w m2 w (List.mem_flatMap.mpr ⟨t,h1,m1⟩))
    ·exact sQ n2 h1 h2 m1 m2
theorem dR.qQ (k:dR Q ts) {t u:List Pl} {w:List Pl} (ht:t∈ts) (hu:u∈ts) (m1:w∈dj t) (m2:w∈dj u):t=u:=sQ k.IT.nd ht hu m1 m2
theorem dD.wN {t:List Pl} (r:dD t a b c): [a,b]∈dj t:=r.dir.mem_iff.mpr (by simp)
theorem nO {t:List Pl} (hT:nF Q t) (ne:a≠b):(a∈t∧b∈t)↔([a,b]∈dj t∨[b,a]∈dj t):=by
 obtain ⟨x,y,z,rfl,_,_,_,_,n1,n2,n3⟩:=hT.parts
 simp only [dj,List.mem_cons,List.not_mem_nil,or_false,List.cons.injEq,and_true]
 constructor
 ·rintro ⟨rfl | rfl | rfl,rfl | rfl | rfl⟩ <;> simp_all
 ·rintro ((⟨rfl,rfl⟩ | ⟨rfl,rfl⟩ | ⟨rfl,rfl⟩) | (⟨rfl,rfl⟩ | ⟨rfl,rfl⟩ | ⟨rfl,rfl⟩)) <;> simp
def bG (ts:List (List Pl)) (a b:Pl):List (List Pl):=ts.filter fun t=>decide (a∈t∧b∈t)
theorem dR.yX (k:dR Q ts) (ne:a≠b) (h:(bG ts a b).length=2):∃ t u c d,bG ts a b= [t,u]∧t∈ts∧u∈ts∧t≠u∧((dD t a b c∧dD u b a d)∨(dD t b a c∧dD u a b d)):=by
 have nd:(bG ts a b).Nodup:=k.nodup.filter _
 match e:bG ts a b,h with
 | [t,u],_=>
   rw [e] at nd
   have mm:∀ v∈[t,u],v∈ts∧([a,b]∈dj v∨[b,a]∈dj v):=fun v hv=>by
    rw [← e] at hv
    obtain ⟨hv,h2⟩:=List.mem_filter.mp hv
    exact ⟨hv,(nO (k.bW v hv) ne).mp (of_decide_eq_true h2)⟩
   obtain ⟨ht,dt⟩:=mm t (by simp)
   obtain ⟨hu,du⟩:=mm u (by simp)
   have tu:t≠u:=fun z=>by
    have:=(List.nodup_cons.mp nd).1
    rw [z] at this
    exact this (by simp)
   rcases dt with dt | dt <;> rcases du with du | du
   ·exact absurd (k.qQ ht hu dt du) tu
   ·obtain ⟨c,r1⟩:=ji (k.bW t ht) dt
    obtain ⟨d,r2⟩:=ji (k.bW u hu) du
    exact ⟨t,u,c,d,rfl,ht,hu,tu,.inl ⟨r1,r2⟩⟩
   ·obtain ⟨c,r1⟩:=ji (k.bW t ht) dt
    obtain ⟨d,r2⟩:=ji (k.bW u hu) du
    exact ⟨t,u,c,d,rfl,ht,hu,tu,.inr ⟨r1,r2⟩⟩
   ·exact absurd (k.qQ ht hu dt du) tu
theorem dR.yY (k:dR Q ts) (m1: [a,b]∈bf ts) (m2: [b,a]∈bf ts):(bG ts a b).length=2:=by
 obtain ⟨t,ht,m1⟩:=cu.mp m1
 obtain ⟨u,hu,m2⟩:=cu.mp m2
 obtain ⟨c,r1⟩:=ji (k.bW t ht) m1
 obtain ⟨d,r2⟩:=ji (k.bW u hu) m2
 obtain ⟨p1,_⟩:=r1.tw (k.bW t ht)
 obtain ⟨p2,_⟩:=r2.tw (k.bW u hu)
 have ne:a≠b:=fun e=>by rw [e] at p1;unfold tw at p1;grind
 have tu:t≠u:=fun z=>by
  rw [z] at r1
  have:c=d:=by
   have h1:=(r1.mem d).mp ((r2.mem d).mpr (by simp))
   rcases h1 with h | h | h
   ·rw [h] at p2;unfold tw at p2;exact absurd p2 (by grind)
   ·rw [h] at p2;unfold tw at p2;exact absurd p2 (by grind)
   ·exact h.symm
  rw [this] at p1
  have:=cM a b d
  omega
 have nd:(bG ts a b).Nodup:=k.nodup.filter _
 have i1:t∈bG ts a b:=List.mem_filter.mpr ⟨ht,decide_eq_true ((nO (k.bW t ht) ne).mpr (.inl m1))⟩
 have i2:u∈bG ts a b:=List.mem_filter.mpr ⟨hu,decide_eq_true ((nO (k.bW u hu) ne).mpr (.inr m2))⟩
 have al:∀ v∈bG ts a b,v=t∨v=u:=fun v hv=>by
  obtain ⟨hv,h2⟩:=List.mem_filter.mp hv
  rcases (nO (k.bW v hv) ne).mp (of_decide_eq_true h2) with y | y
  ·exact .inl (k.qQ hv ht y m1)
  ·exact .inr (k.qQ hv hu y m2)
 have le:=sub_len (l:=bG ts a b) (m:=[t,u]) nd fun v hv=>by
  rcases al v hv with y | y <;> simp [y]
 have ge:=sub_len (l:=[t,u]) (m:=bG ts a b) (by simp [tu]) fun v hv=>by
  rcases List.mem_cons.mp hv with y | y
  ·rw [y];exact i1
  ·rw [List.mem_singleton.mp y];exact i2
 simp only [List.length_cons,List.length_nil] at le ge
 omega
def G2 (ts us:List (List Pl)) (a b c d:Pl):Prop:= ∃ t1 t2 u1 u2,t1∈ts∧t2∈ts∧dD t1 a b c∧dD t2 b a d∧dD u1 a d c∧dD u2 b c d∧gv u1∧gv u2∧tw c d a*tw c d b < 0∧us.Perm (u1 :: u2 :: ts.filter (fun t=>decide (t∉[t1,t2])))
theorem AI {t1 t2:List Pl} (nd:ts.Nodup) (n:t1≠t2) (h1:t1∈ts) (h2:t2∈ts):ts.Perm (t1 :: t2 :: ts.filter (fun t=>decide (t∉[t1,t2]))):=by
 refine lB nd (List.nodup_cons.mpr ⟨fun z=>?_,List.nodup_cons.mpr ⟨fun z=>?_,nd.filter _⟩⟩) fun t=>?_
 ·rcases List.mem_cons.mp z with z | z
  ·exact n z
  ·exact of_decide_eq_true (List.mem_filter.mp z).2 (by simp)
 ·exact of_decide_eq_true (List.mem_filter.mp z).2 (by simp)
 ·rw [List.mem_cons,List.mem_cons,List.mem_filter]
  constructor
  ·intro h
   by_cases e1:t=t1
   ·exact .inl e1
   ·by_cases e2:t=t2
    ·exact .inr (.inl e2)
    ·exact .inr (.inr ⟨h,decide_eq_true (by simp [e1,e2])⟩)
  ·rintro (rfl | rfl | h)
   ·exact h1
   ·exact h2
   ·exact h.1
theorem Ca {t1 t2:List Pl} (h1:nF Q t1) (h2:nF Q t2) (r1:dD t1 a b c) (r2:dD t2 b a d):t1≠t2:=fun z=>by
 obtain ⟨p1,_⟩:=r1.tw h1
 obtain ⟨p2,_⟩:=r2.tw h2
 rw [z] at r1
 have:c=d:=by
  rcases (r1.mem d).mp ((r2.mem d).mpr (by simp)) with h | h | h
  ·rw [h] at p2;unfold tw at p2;exact absurd p2 (by grind)
  ·rw [h] at p2;unfold tw at p2;exact absurd p2 (by grind)
  ·exact h.symm
 rw [this] at p1
 have:=cM a b d
 omega
theorem G2.Sa (k:dR Q ts) (nf:¬ Flat Q) (h:G2 ts us a b c d):dR Q us:=by
 obtain ⟨t1,t2,u1,u2,m1,m2,r1,r2,v1,v2,i1,i2,cv,hp⟩:=h
 exact k.flip nf (AI k.nodup (Ca (k.bW _ m1) (k.bW _ m2) r1 r2) m1 m2) r1 r2 cv hp v1 v2 i1 i2
theorem G2.len (k:dR Q ts) (h:G2 ts us a b c d):us.length=ts.length:=by
 obtain ⟨t1,t2,u1,u2,m1,m2,r1,r2,v1,v2,i1,i2,cv,hp⟩:=h
 rw [hp.length_eq,(AI k.nodup (Ca (k.bW _ m1) (k.bW _ m2) r1 r2) m1 m2).length_eq]
 rfl
theorem G2.full (fu:Full Q ts) (h:G2 ts us a b c d):Full Q us:=fun q hq=>by
 obtain ⟨t1,t2,u1,u2,m1,m2,r1,r2,v1,v2,i1,i2,cv,hp⟩:=h
 obtain ⟨t,ht,qt⟩:=fu q hq
 have j1:u1∈us:=hp.mem_iff.mpr (by simp)
 have j2:u2∈us:=hp.mem_iff.mpr (by simp)
 have four:q=a∨q=b∨q=c∨q=d→∃ u∈us,q∈u:=fun h4=>by
  rcases h4 with y | y | y | y
  ·exact ⟨u1,j1,(v1.mem q).mpr (.inl y)⟩
  ·exact ⟨u2,j2,(v2.mem q).mpr (.inl y)⟩
  ·exact ⟨u2,j2,(v2.mem q).mpr (.inr (.inl y))⟩
  ·exact ⟨u2,j2,(v2.mem q).mpr (.inr (.inr y))⟩
 by_cases e1:t=t1
 ·rw [e1] at qt
  refine four ?_
  rcases (r1.mem q).mp qt with y | y | y <;> simp [y]
 ·by_cases e2:t=t2
  ·rw [e2] at qt
   refine four ?_
   rcases (r2.mem q).mp qt with y | y | y <;> simp [y]
  ·exact ⟨t,hp.mem_iff.mpr (List.mem_cons_of_mem _ (List.mem_cons_of_mem _ (List.mem_filter.mpr ⟨ht,decide_eq_true (by simp [e1,e2])⟩))),qt⟩
end
end L3
namespace L3
open PySem PySem.Spec PyProof.Rows L2
theorem GA {α:Type} [DecidableEq α] {l m:List α} (nd:l.Nodup) (sub:∀ x∈l,x∈m):l.length≤m.length:=PySem.SetTable.len_sub nd sub
theorem Ja (t:List Pl):Et (tD t) (tD t)=true:=by
 have h:=gb t
 have h2:plain 10 (tD t)=true:=by
  unfold tD
  simp only [plain]
  exact h
 show (plain 10 (tD t) && plain 10 (tD t))=true
 rw [h2]
 rfl
theorem lC (ps:List Pl):kD (bX ps)=tD ps:=by
 unfold kD bX tD
 rw [List.map_map]
 rfl
theorem DE (kvs:List (List (List Int) ×D)) (k:List (List Int)) (d:D) (k':List (List Int)):bg (jz kvs k d) k'=if k=k' then some d else bg kvs k':=by
 have app:∀ kvs:List (List (List Int) ×D),bg kvs k=none→bg (kvs ++ [(k,d)]) k'=if k=k' then some d else bg kvs k':=by
  intro kvs
  induction kvs with
  | nil=>
    intro _
    by_cases c:k=k' <;> simp [bg,c]
  | cons p kvs ih=>
    intro h
    unfold bg at h ih ⊢
    rw [List.find?_cons] at h
    rw [List.cons_append,List.find?_cons,List.find?_cons]
    by_cases c:p.1=k
    ·rw [decide_eq_true c] at h;cases h
    ·rw [decide_eq_false c] at h
     by_cases c2:p.1=k'
     ·rw [decide_eq_true c2,if_neg (fun z=>c (c2.trans z.symm))]
     ·rw [decide_eq_false c2]
      exact ih h
 have rep:∀ kvs:List (List (List Int) ×D),(bg kvs k).isSome=true→bg (kvs.map fun p=>if p.1=k then (p.1,d) else p) k'=if k=k' then some d else bg kvs k':=by
  intro kvs
  induction kvs with
  | nil=>intro h;cases h
  | cons p kvs ih=>
    intro h
    by_cases c:p.1=k
    ·subst c
     by_cases c2:p.1=k'
     ·unfold bg
      rw [List.map_cons,if_pos rfl,List.find?_cons,decide_eq_true c2,if_pos c2]
      rfl
     ·rw [if_neg c2]
      unfold bg
      rw [List.map_cons,if_pos rfl,List.find?_cons,decide_eq_false c2,List.find?_cons,decide_eq_false c2]
      dsimp only
      clear ih h
      induction kvs with
      | nil=>rfl
      | cons q kvs ih=>
        rw [List.map_cons,List.find?_cons,List.find?_cons]
        by_cases c3:q.1=p.1
        ·rw [if_pos c3]
         dsimp only
         rw [decide_eq_false (show ¬ q.1=k' from fun z=>c2 (c3.symm.trans z))]
         exact ih
        ·rw [if_neg c3]
         cases decide (q.1=k') with
         | true=>rfl
         | false=>exact ih
    ·have h':(bg kvs k).isSome=true:=by
      unfold bg at h ⊢
      rw [List.find?_cons,decide_eq_false c] at h
      exact h
     have ih:=ih h'
     unfold bg at ih ⊢
     rw [List.map_cons,if_neg c,List.find?_cons,List.find?_cons]
     by_cases c2:p.1=k'
     ·rw [decide_eq_true c2,if_neg (fun z=>c (c2.trans z.symm))]
     ·rw [decide_eq_false c2]
      exact ih
 unfold jz
 by_cases c:(bg kvs k).isSome=true
 ·rw [if_pos c]
  exact rep kvs c
 ·rw [if_neg c]
  exact app kvs (by simpa using c)
theorem DF (kvs:List (List (List Int) ×D)) (k:List (List Int)) (d:D):(jz kvs k d).length≤kvs.length+1:=by
 unfold jz
 split
 ·rw [List.length_map];omega
 ·rw [List.length_append];simp
def wO:List Pl→List (List Pl)
 | [a,b,c]=>[[a,b,c],[b,c,a],[c,a,b]]
 | _=>[]
def gT (ts:List (List Pl)):List (List Pl):=ts.flatMap wO
theorem DG {ts:List (List Pl)} {i:Nat} {t:List Pl} (h:ts[i]?=some t):gT (ts.take (i+1))=gT (ts.take i) ++ wO t:=by
 unfold gT
 rw [List.take_succ,h,List.flatMap_append]
 simp
theorem yZ:∀ (ts:List (List Pl)),(gT ts).length≤3*ts.length
 | []=>by simp [gT]
 | t :: ts=>by
   have h1:=yZ ts
   have h2:(wO t).length≤3:=by unfold wO;split <;> simp
   show (wO t ++ gT ts).length≤_
   rw [List.length_append,List.length_cons]
   omega
def AJ (kvs:List (List (List Int) ×D)) (o:List Pl):List (List (List Int) ×D):=
 match o with
 | [a,b,c]=>jz kvs (bX [a,b]) c.d
 | _=>kvs
def jI (os:List (List Pl)):List (List (List Int) ×D):=os.foldl AJ []
theorem DH (os:List (List Pl)) (a b c:Pl):jI (os ++ [[a,b,c]])=jz (jI os) (bX [a,b]) c.d:=by
 unfold jI
 rw [List.foldl_append]
 rfl
theorem GB (os:List (List Pl)):(jI os).length≤os.length:=by
 have go:∀ (os:List (List Pl)) (kvs:List (List (List Int) ×D)),(os.foldl AJ kvs).length≤kvs.length+os.length:=by
  intro os
  induction os with
  | nil=>intro kvs;exact Nat.le_refl _
  | cons o os ih=>
    intro kvs
    rw [List.foldl_cons,List.length_cons]
    have h1:=ih (AJ kvs o)
    have h2:(AJ kvs o).length≤kvs.length+1:=by
     unfold AJ
     split
     ·exact DF _ _ _
     ·omega
    omega
 have:=go os []
 unfold jI
 simpa using this
theorem L0 (os:List (List Pl)) (h3:∀ o∈os,∃ a b c,o= [a,b,c]) (u v:Pl):(bg (jI os) (bX [u,v])=none∧∀ r,[u,v,r]∉os)∨∃ r,bg (jI os) (bX [u,v])=some (Pl.d r)∧[u,v,r]∈os:=by
 have go:∀ (os:List (List Pl)) (kvs:List (List (List Int) ×D)) (seen:List (List Pl)),(∀ o∈os,∃ a b c,o= [a,b,c])→
  ((bg kvs (bX [u,v])=none∧∀ r,[u,v,r]∉seen)∨∃ r,bg kvs (bX [u,v])=some (Pl.d r)∧[u,v,r]∈seen)→
  ((bg (os.foldl AJ kvs) (bX [u,v])=none∧∀ r,[u,v,r]∉seen ++ os)∨∃ r,bg (os.foldl AJ kvs) (bX [u,v])=some (Pl.d r)∧[u,v,r]∈seen ++ os):=by
  intro os
  induction os with
  | nil=>
    intro kvs seen _ h
    rw [List.append_nil]
    exact h
  | cons o os ih=>
    intro kvs seen h3 h
    obtain ⟨a,b,c,rfl⟩:=h3 o List.mem_cons_self
    rw [List.foldl_cons,show seen ++ [a,b,c] :: os=(seen ++ [[a,b,c]]) ++ os by simp]
    refine ih _ _ (fun o ho=>h3 o (List.mem_cons_of_mem _ ho)) ?_
    show (bg (jz kvs (bX [a,b]) c.d) (bX [u,v])=none∧_)∨∃ r,bg (jz kvs (bX [a,b]) c.d) (bX [u,v])=some (Pl.d r)∧_
    rw [DE]
    by_cases e:bX [a,b]=bX [u,v]
    ·rw [if_pos e]
     have e2:=nI e
     injection e2 with e3 e2
     injection e2 with e4 _
     subst e3;subst e4
     exact .inr ⟨c,rfl,by simp⟩
    ·rw [if_neg e]
     have ne:∀ r,([u,v,r]:List Pl)≠[a,b,c]:=fun r z=>by
      injection z with z1 z
      injection z with z2 z
      exact e (by rw [z1,z2])
     rcases h with ⟨g,n⟩ | ⟨r,g,m⟩
     ·refine .inl ⟨g,fun r z=>?_⟩
      rcases List.mem_append.mp z with z | z
      ·exact n r z
      ·exact ne r (List.mem_singleton.mp z)
     ·exact .inr ⟨r,g,List.mem_append_left _ m⟩
 have:=go os [] [] h3 (.inl ⟨rfl,fun r z=>by cases z⟩)
 rw [List.nil_append] at this
 exact this
theorem sR (t:List Pl):∀ o∈wO t,∃ a b c,o= [a,b,c]:=by
 intro o ho
 unfold wO at ho
 split at ho
 ·simp only [List.mem_cons,List.not_mem_nil,or_false] at ho
  rcases ho with rfl | rfl | rfl <;> exact ⟨_,_,_,rfl⟩
 ·cases ho
theorem AK (ts:List (List Pl)):∀ o∈gT ts,∃ a b c,o= [a,b,c]:=fun o ho=>by
 obtain ⟨t,_,h⟩:=List.mem_flatMap.mp ho
 exact sR t o h
theorem O2 (a b:Pl):(lo a b=a∧hi a b=b)∨(lo a b=b∧hi a b=a):=by
 unfold lo hi
 by_cases c:aI b a
 ·by_cases c2:aI a b
  ·exact absurd c (aE c2)
  ·simp [c,c2]
 ·by_cases c2:aI a b
  ·simp [c,c2]
  ·have e:a=b:=by
    rcases eO a b with z | z | z
    ·exact absurd z c2
    ·exact z
    ·exact absurd z c
   subst e
   simp
theorem vz {a b:Pl} (h:a≠b):aI (lo a b) (hi a b):=by
 unfold lo hi
 rcases iA h with c | c
 ·have c2:=aE c
  simp [c,c2]
 ·have c2:=aE c
  simp [c,c2]
theorem Jb {x y:Pl} {n:Nat} (ox:x.Ok n) (oy:y.Ok n):(lo x y).Ok n∧(hi x y).Ok n:=by
 rcases O2 x y with ⟨e1,e2⟩ | ⟨e1,e2⟩ <;> rw [e1,e2]
 ·exact ⟨ox,oy⟩
 ·exact ⟨oy,ox⟩
section
variable {Q:List Pl} {ts:List (List Pl)}
theorem Cb {t:List Pl} (hT:nF Q t) (a b c:Pl): [a,b,c]∈wO t↔dD t a b c:=by
 obtain ⟨x,y,z,rfl,_⟩:=hT.parts
 unfold dD wO
 simp only [List.mem_cons,List.not_mem_nil,or_false,List.cons.injEq,and_true]
 constructor
 ·rintro (⟨rfl,rfl,rfl⟩ | ⟨rfl,rfl,rfl⟩ | ⟨rfl,rfl,rfl⟩) <;> simp
 ·rintro (⟨rfl,rfl,rfl⟩ | ⟨rfl,rfl,rfl⟩ | ⟨rfl,rfl,rfl⟩) <;> simp
theorem za (bW:∀ t∈ts,nF Q t) (a b c:Pl): [a,b,c]∈gT ts↔∃ t∈ts,dD t a b c:=by
 unfold gT
 rw [List.mem_flatMap]
 constructor
 ·rintro ⟨t,ht,h⟩
  exact ⟨t,ht,(Cb (bW t ht) a b c).mp h⟩
 ·rintro ⟨t,ht,h⟩
  exact ⟨t,ht,(Cb (bW t ht) a b c).mpr h⟩
theorem Cc (bW:∀ t∈ts,nF Q t) (u v:Pl):(bg (jI (gT ts)) (bX [u,v])=none∧[u,v]∉bf ts)∨∃ r,bg (jI (gT ts)) (bX [u,v])=some (Pl.d r)∧∃ t∈ts,dD t u v r:=by
 rcases L0 (gT ts) (AK ts) u v with ⟨g,n⟩ | ⟨r,g,m⟩
 ·refine .inl ⟨g,fun m=>?_⟩
  obtain ⟨t,ht,m⟩:=cu.mp m
  obtain ⟨r,h⟩:=ji (bW t ht) m
  exact n r ((za bW u v r).mpr ⟨t,ht,h⟩)
 ·exact .inr ⟨r,g,(za bW u v r).mp m⟩
def GC (ts:List (List Pl)) (a b c d:Pl):Prop:=(∃ t∈ts,dD t a b c)∧∃ t∈ts,dD t b a d
def c8 (ts:List (List Pl)) (s:List Pl):Prop:= ∃ a b c d:Pl,s= [a,b]∧aI a b∧GC ts a b c d∧gS a b c d
noncomputable def qR (ts:List (List Pl)) (s:List Pl):Bool:= @decide (c8 ts s) (Classical.propDecidable _)
theorem fW {s:List Pl}:qR ts s=true↔c8 ts s:=by
 unfold qR
 exact @decide_eq_true_iff _ (Classical.propDecidable _)
theorem DI {t:List Pl} {a b c d:Pl} (hT:nF Q t) (r:dD t a b c) (r':dD t a b d):c=d:=by
 obtain ⟨x,y,z,rfl,_,_,_,_,n1,n2,n3⟩:=hT.parts
 unfold dD at r r'
 simp only [List.cons.injEq,and_true] at r r'
 rcases r with ⟨rfl,rfl,rfl⟩ | ⟨rfl,rfl,rfl⟩ | ⟨rfl,rfl,rfl⟩ <;> rcases r' with ⟨h1,h2,h3⟩ | ⟨h1,h2,h3⟩ | ⟨h1,h2,h3⟩ <;> first | exact h3 | exact h1 | exact h2 | (exfalso;simp_all)
theorem nP (nd:(bf ts).Nodup) (bW:∀ t∈ts,nF Q t) {t u:List Pl} {a b c d:Pl} (ht:t∈ts) (hu:u∈ts) (r:dD t a b c) (r':dD u a b d):t=u∧c=d:=by
 have e:t=u:=sQ nd ht hu r.wN r'.wN
 subst e
 exact ⟨rfl,DI (bW t ht) r r'⟩
theorem nQ {u v:Pl} (n: [u,v]∉bf ts∨[v,u]∉bf ts):qR ts [u,v]=false:=by
 cases e:qR ts [u,v] with
 | false=>rfl
 | true=>
   obtain ⟨a,b,c,d,es,_,⟨⟨t,ht,r⟩,⟨w,hw,r2⟩⟩,_⟩:=fW.mp e
   obtain ⟨rfl,rfl⟩:=aL es
   rcases n with n | n
   ·exact absurd (cu.mpr ⟨t,ht,r.wN⟩) n
   ·exact absurd (cu.mpr ⟨w,hw,r2.wN⟩) n
theorem o8 (nd:(bf ts).Nodup) (bW:∀ t∈ts,nF Q t) {u v x y:Pl} (hb:aI u v) (h:GC ts u v x y):qR ts [u,v]=decide (gS u v x y):=by
 rw [Bool.eq_iff_iff,fW,decide_eq_true_eq]
 obtain ⟨⟨t,ht,r⟩,⟨w,hw,r2⟩⟩:=h
 constructor
 ·rintro ⟨a,b,c,d,es,_,⟨⟨t',ht',r'⟩,⟨w',G3,r2'⟩⟩,s⟩
  obtain ⟨rfl,rfl⟩:=aL es
  obtain ⟨_,rfl⟩:=nP nd bW ht ht' r r'
  obtain ⟨_,rfl⟩:=nP nd bW hw G3 r2 r2'
  exact s
 ·intro s
  exact ⟨u,v,x,y,rfl,hb,⟨⟨t,ht,r⟩,⟨w,hw,r2⟩⟩,s⟩
theorem qS {a b c:Pl} (p:0 < tw a b c) {x y z:Pl} (h: [x,y,z].Perm [a,b,c]):dD (oR x y z) a b c∧gv (oR x y z):=by
 obtain ⟨t,i,r⟩:=Gz p
 have q1:t.Perm [a,b,c]:=by
  rcases r with rfl | rfl | rfl
  ·exact .refl _
  ·exact (List.perm_append_comm (l₁:=[b,c]) (l₂:=[a]))
  ·exact (List.perm_append_comm (l₁:=[c]) (l₂:=[a,b]))
 obtain ⟨_,e⟩:=rR i (q1.trans h.symm)
 rw [← e]
 exact ⟨r,i⟩
theorem zb (x y z:Pl): [x,y,z].Perm [x,z,y]:= .cons _ (.swap _ _ _)
theorem GC.one (nd:(bf ts).Nodup) (bW:∀ t∈ts,nF Q t) {a b c d c' d':Pl} (h:GC ts a b c d) (h':GC ts a b c' d'):c=c'∧d=d':=by
 obtain ⟨⟨t,ht,r⟩,⟨w,hw,r2⟩⟩:=h
 obtain ⟨⟨t',ht',r'⟩,⟨w',G3,r2'⟩⟩:=h'
 exact ⟨(nP nd bW ht ht' r r').2,(nP nd bW hw G3 r2 r2').2⟩
theorem DJ (a b c d:Pl):tw d c a*tw d c b=tw c d a*tw c d b:=by rw [cM c d a,cM c d b,Int.neg_mul_neg]
theorem GD (k:dR Q ts) {t u:List Pl} {a b c d:Pl} (ht:t∈ts) (hu:u∈ts) (r1:dD t a b c) (r2:dD u b a d) (cv:tw c d a*tw c d b < 0) {us:List (List Pl)} {v1 v2:List Pl} (e1:dD v1 a d c∧gv v1) (e2:dD v2 b c d∧gv v2) (hp:us.Perm (ts.filter (fun x=>decide (x∉[t,u])) ++ [v1,v2])):G2 ts us a b c d:=
 ⟨t,u,v1,v2,ht,hu,r1,r2,e1.1,e2.1,e1.2,e2.2,cv,hp.trans List.perm_append_comm⟩
theorem GF (k:dR Q ts) {t u:List Pl} {a b c d:Pl} (ht:t∈ts) (hu:u∈ts) (h:(dD t a b c∧dD u b a d)∨(dD t b a c∧dD u a b d)) :
 (tw c d a*tw c d b < 0→∀ us:List (List Pl),us.Perm (ts.filter (fun x=>decide (x∉[t,u])) ++ [oR a c d,oR b c d])→∃ c' d',GC ts a b c' d'∧G2 ts us a b c' d')∧
 (¬ (tw c d a*tw c d b < 0)→¬ ∃ c' d',GC ts a b c' d'∧tw c' d' a*tw c' d' b < 0):=by
 rcases h with ⟨r1,r2⟩ | ⟨r1,r2⟩
 ·have ad:GC ts a b c d:=⟨⟨t,ht,r1⟩,⟨u,hu,r2⟩⟩
  obtain ⟨p1,_⟩:=r1.tw (k.bW t ht)
  obtain ⟨p2,_⟩:=r2.tw (k.bW u hu)
  refine ⟨fun cv us hp=>⟨c,d,ad,?_⟩,fun n ⟨c',d',h1,h2⟩=>?_⟩
  ·obtain ⟨s1,s2⟩:=jj p1 p2 cv
   have g1:tw a d c= -tw c d a:=by unfold tw;grind
   have g2:=jH b c d
   exact GD k ht hu r1 r2 cv (qS (by omega) (zb a c d)) (qS (by omega) (.refl _)) hp
  ·obtain ⟨rfl,rfl⟩:=ad.one k.IT.nd k.bW h1
   exact n h2
 ·have ad:GC ts a b d c:=⟨⟨u,hu,r2⟩,⟨t,ht,r1⟩⟩
  obtain ⟨p1,_⟩:=r1.tw (k.bW t ht)
  obtain ⟨p2,_⟩:=r2.tw (k.bW u hu)
  have pf:=DJ a b c d
  refine ⟨fun cv us hp=>⟨d,c,ad,?_⟩,fun n ⟨c',d',h1,h2⟩=>?_⟩
  ·obtain ⟨s1,s2⟩:=jj p2 p1 (by omega)
   have g1:tw a c d= -tw d c a:=by unfold tw;grind
   have g2:tw b d c=tw d c b:=by unfold tw;grind
   have ef:ts.filter (fun x=>decide (x∉[t,u]))=ts.filter (fun x=>decide (x∉[u,t])):=List.filter_congr fun x _=>by
    rw [decide_eq_decide]
    simp only [List.mem_cons,List.not_mem_nil,or_false]
    exact ⟨fun h z=>h z.symm,fun h z=>h z.symm⟩
   rw [ef] at hp
   exact GD k hu ht r2 r1 (by omega) (qS (by omega) (.refl _)) (qS (by omega) (zb b c d)) hp
  ·obtain ⟨rfl,rfl⟩:=ad.one k.IT.nd k.bW h1
   omega
theorem wQ {t:List Pl} {a b c:Pl} (hT:nF Q t) (r:dD t a b c∨dD t b a c):t.filter (fun q=>decide (q≠a) && decide (q≠b))= [c]:=by
 have go:∀ {a b c:Pl},dD t a b c→t.filter (fun q=>decide (q≠a) && decide (q≠b))= [c]:=fun {a b c} r=>by
  obtain ⟨p,_⟩:=r.tw hT
  have n1:a≠b:=fun z=>by rw [z] at p;unfold tw at p;exact absurd p (by grind)
  have n2:b≠c:=fun z=>by rw [z] at p;unfold tw at p;exact absurd p (by grind)
  have n3:c≠a:=fun z=>by rw [z] at p;unfold tw at p;exact absurd p (by grind)
  rcases r with rfl | rfl | rfl <;> simp [List.filter,n1,n2,n3,n1.symm,n2.symm,n3.symm]
 rcases r with r | r
 ·exact go r
 ·rw [← go r]
  exact List.filter_congr fun x _=>Bool.and_comm _ _
theorem Cd (p q:Pl):(!L3.cZ p.d q.d)=decide (p≠q):=by rw [jX];exact (decide_not).symm
theorem zc {t:List Pl} {a b c:Pl} (hT:nF Q t) (r:dD t a b c∨dD t b a c):t.filter (fun q=>decide (q∉[a,b]))= [c]:=by
 rw [← wQ hT r]
 refine List.filter_congr fun x _=>?_
 rw [Bool.eq_iff_iff]
 simp
theorem nR {t:List Pl} {a b c d:Pl} (hT:nF Q t) (r:dD t a b c) (hd:d∈Q):Aq t d↔gS a b c d:=by
 obtain ⟨H,h⟩:=o6 Q
 obtain ⟨p,ha,hb,hc⟩:=r.tw hT
 rw [h.R8 hT r hd,h.IY a ha b hb c hc d hd p]
theorem GG (k:dR Q ts) {t u:List Pl} {a b c d:Pl} (hab:aI a b) (ht:t∈ts) (hu:u∈ts) (h:(dD t a b c∧dD u b a d)∨(dD t b a c∧dD u a b d)):(Aq t d↔c8 ts [a,b])∧(Aq u c↔c8 ts [a,b]):=by
 rcases h with ⟨r1,r2⟩ | ⟨r1,r2⟩
 ·obtain ⟨p1,_,_,hc⟩:=r1.tw (k.bW t ht)
  obtain ⟨p2,_,_,hd⟩:=r2.tw (k.bW u hu)
  have e:=o8 k.IT.nd k.bW hab ⟨⟨t,ht,r1⟩,⟨u,hu,r2⟩⟩
  have e2:c8 ts [a,b]↔gS a b c d:=by rw [← fW,e,decide_eq_true_eq]
  rw [nR (k.bW t ht) r1 hd,nR (k.bW u hu) r2 hc,e2]
  exact ⟨Iff.rfl,(B9 p1 p2).symm⟩
 ·obtain ⟨p1,_,_,hc⟩:=r1.tw (k.bW t ht)
  obtain ⟨p2,_,_,hd⟩:=r2.tw (k.bW u hu)
  have e:=o8 k.IT.nd k.bW hab ⟨⟨u,hu,r2⟩,⟨t,ht,r1⟩⟩
  have e2:c8 ts [a,b]↔gS a b d c:=by rw [← fW,e,decide_eq_true_eq]
  rw [nR (k.bW t ht) r1 hd,nR (k.bW u hu) r2 hc,e2]
  exact ⟨(B9 p2 p1).symm,Iff.rfl⟩
theorem c8.turns {s:List Pl} (bW:∀ t∈ts,nF Q t) (h:c8 ts s):∃ a b c d,s= [a,b]∧aI a b∧GC ts a b c d∧tw c d a*tw c d b < 0∧gS a b c d:=by
 obtain ⟨a,b,c,d,e,hb,⟨⟨t,ht,r⟩,⟨u,hu,r2⟩⟩,sp⟩:=h
 obtain ⟨p1,_⟩:=r.tw (bW t ht)
 obtain ⟨p2,_⟩:=r2.tw (bW u hu)
 obtain ⟨q1,q2⟩:=DC p1 p2 sp
 exact ⟨a,b,c,d,e,hb,⟨⟨t,ht,r⟩,⟨u,hu,r2⟩⟩,Int.mul_neg_of_neg_of_pos q2 q1,sp⟩
theorem c8.two (k:dR Q ts) {a b:Pl} (h:c8 ts [a,b]):(bG ts a b).length=2:=by
 obtain ⟨a',b',c,d,e,hb,⟨⟨t,ht,r⟩,⟨u,hu,r2⟩⟩,sp⟩:=h
 obtain ⟨rfl,rfl⟩:=aL e
 exact k.yY (cu.mpr ⟨t,ht,r.wN⟩) (cu.mpr ⟨u,hu,r2.wN⟩)
end
end L3
namespace HD
open PySem PySem.W L2
theorem O3:dA=kX:=funext fun s=>by cases s <;> rfl
theorem O4:dB=fO:=funext fun s=>by cases s <;> rfl
theorem O5:dS=ak:=funext fun s=>by cases s <;> rfl
def zH (h:Heap):List Addr→Frag
 | []=>[]
 | a :: r=>match h.get? a with
   | some o=>(a,o) :: zH h r
   | none=>zH h r
theorem AL (h:Heap):∀ as:List Addr,(zH h as).In h
 | [],_,_,e=>nomatch e
 | b :: r,a,o,e=>by
   unfold zH at e
   cases q:h.get? b with
   | none=>rw [q] at e;exact AL h r a o e
   | some x=>
     rw [q] at e
     replace e:List.lookup a ((b,x) :: zH h r)=some o:=e
     rw [List.lookup_cons] at e
     cases z:a == b with
     | true=>
       rw [z] at e
       obtain rfl:a=b:=eq_of_beq z
       cases e;exact q
     | false=>rw [z] at e;exact AL h r a o e
theorem sS {h:Heap} {a:Addr} {o:Obj} (e:h.get? a=some o):∀ {as:List Addr},a∈as→(zH h as).lookup a=some o
 | b :: r,m=>by
   unfold zH
   by_cases z:a=b
   ·subst z
    rw [e]
    show List.lookup a ((a,o) :: zH h r)=some o
    rw [List.lookup_cons,beq_self_eq_true]
   ·have m':a∈r:=by
     rcases List.mem_cons.mp m with y | y
     ·exact absurd y z
     ·exact y
    cases q:h.get? b with
    | none=>exact sS e m'
    | some x=>
      show List.lookup a ((b,x) :: zH h r)=some o
      rw [List.lookup_cons,beq_eq_false_iff_ne.mpr z]
      exact sS e m'
theorem Jc {K:Frag} {o:Obj} (e:K.lookup mainGlobals=some o) (n:Str):nsIn K mainGlobals n=nsIn [(mainGlobals,o)] mainGlobals n:=by
 unfold nsIn
 rw [e]
 rfl
def adr (h:Heap) (n:Str):List Addr:=match fnAt h n with
 | some (f,fd)=>f :: (match fd.code with | .ref c=>[c] | _=>[])
 | none=>[]
def Sb (h:Heap) (fs:List (Str ×Stmt)):List Addr:=mainGlobals :: fs.flatMap fun p=>adr h p.1
def Tg (K:Frag) (p:Str ×Stmt):Prop:= ∃ f fd,nsIn K mainGlobals p.1=some (some (.ref f))∧iM K p.1 p.1 p.2 f fd
def Iu (K:Frag):List (Str ×Stmt)→Prop
 | []=>True
 | p :: r=>Tg K p∧Iu K r
def AllB (K:Frag):List Str→Prop
 | []=>True
 | b :: r=>nsIn K mainGlobals b=some none∧AllB K r
def YP (fs:List (Str ×Stmt)) (bs:List Str) (h:Heap):Prop:= ∃ K:Frag,K.In h∧Iu K fs∧AllB K bs
theorem keeps {fs:List (Str ×Stmt)} {bs:List Str} {h h':Heap} (y:YP fs bs h) (k:∀ b o,h.get? b=some o→h'.get? b=some o):YP fs bs h':=
 let ⟨K,i,a,b⟩:=y
 ⟨K,i.keeps k,a,b⟩
theorem GH {h:Heap} {as:List Addr} {n:Str} {r:Option Value} (m:mainGlobals∈as) (e:Mv h n=some r):nsIn (zH h as) mainGlobals n=some r:=by
 unfold Mv at e
 cases q:h.get? mainGlobals with
 | none=>rw [q] at e;cases e
 | some o=>rw [q] at e;rw [Jc (sS q m)];exact e
theorem Jd {h:Heap} {n:Str} {f:Addr} {fd:FuncData} (e:fnAt h n=some (f,fd)):Mv h n=some (some (.ref f))∧∃ oc od sl,h.get? f=some ⟨oc,od,.func fd,sl⟩:=by
 unfold fnAt at e
 split at e
 ·rename_i g hg
  split at e
  ·rename_i oc od fd' sl hq
   cases e
   exact ⟨hg,oc,od,sl,hq⟩
  ·cases e
 ·cases e
theorem zd {h:Heap} {v:Value} {q:Str} {as:List Addr} (e:jL h v=some q) (m:∀ c,v= .ref c→c∈as):codeIn (zH h as) v q=true:=by
 unfold jL at e
 split at e
 ·rename_i c
  split at e
  ·rename_i oc od vs sl hc
   split at e
   ·rename_i a q' tk r hv
    cases e
    unfold codeIn
    dsimp only
    rw [sS hc (m c rfl)]
    dsimp only
    rw [hv]
    dsimp only
    exact beq_self_eq_true _
   ·cases e
  ·cases e
 ·cases e
theorem L1 {h:Heap} {p:Str ×Stmt} {as:List Addr} (m0:mainGlobals∈as) (m:∀ a∈adr h p.1,a∈as)
 (e:(fnAt h p.1).map (fun x=>(blank x.2,jL h x.2.code))=some (fnOf p.1 p.1 (kX p.2) (fO p.2) (ak p.2) .none .none .none .none none .none .none,some p.1)):Tg (zH h as) p:=by
 obtain ⟨⟨f,fd⟩,hf,hq⟩:=Option.map_eq_some_iff.mp e
 obtain ⟨h1,oc,od,sl,h2⟩:=Jd hf
 obtain ⟨e1,e2⟩:=Prod.mk.inj hq
 have hadr:adr h p.1=f :: (match fd.code with | .ref c=>[c] | _=>[]):=by unfold adr;rw [hf]
 have Sd:f∈as:=m f (by rw [hadr];exact .head _)
 have lk:=sS h2 Sd
 have hc:codeIn (zH h as) fd.code p.1=true:=zd e2 fun c hc=>m c (by rw [hadr,hc];exact .tail _ (.head _))
 have hfd:fd=fnOf p.1 p.1 (kX p.2) (fO p.2) (ak p.2) .none fd.kwdefaults fd.doc fd.pyModule fd.annotations fd.code fd.closureTuple:=by
  cases fd
  unfold blank at e1
  simp only [FuncData.mk.injEq] at e1
  obtain ⟨a1,a2,a3,a4,a5,a6,a7,a8,a9⟩:=e1
  simp only [FuncData.mk.injEq]
  exact ⟨a1,a2,a3,a4,a5,a6,a7,a8,trivial,trivial,trivial,trivial,trivial,trivial,by simpa using a9⟩
 refine ⟨f,fd,GH m0 h1,⟨oc,od,fd.kwdefaults,fd.doc,fd.pyModule,fd.annotations,fd.code,fd.closureTuple,sl,hfd,lk,hc⟩,?_⟩
 unfold keepIn
 dsimp only
 rw [lk]
theorem Ce {h:Heap} {as:List Addr} (m0:mainGlobals∈as):∀ {fs:List (Str ×Stmt)},(∀ a∈fs.flatMap (fun p=>adr h p.1),a∈as)→
 fs.map (fun p=>(fnAt h p.1).map fun x=>(blank x.2,jL h x.2.code))=fs.map (fun p=>some (fnOf p.1 p.1 (kX p.2) (fO p.2) (ak p.2) .none .none .none .none none .none .none,some p.1))→Iu (zH h as) fs
 | [],_,_=>trivial
 | p :: r,m,e=>by
   rw [List.map_cons,List.map_cons] at e
   obtain ⟨e1,e2⟩:=List.cons.inj e
   rw [List.flatMap_cons] at m
   exact ⟨L1 m0 (fun a ha=>m a (List.mem_append.mpr (.inl ha))) e1,Ce m0 (fun a ha=>m a (List.mem_append.mpr (.inr ha))) e2⟩
theorem allB_of {h:Heap} {as:List Addr} (m0:mainGlobals∈as):∀ {bs:List Str},bs.map (fun b=>Mv h b)=bs.map (fun _=>some none)→AllB (zH h as) bs
 | [],_=>trivial
 | b :: r,e=>by
   rw [List.map_cons,List.map_cons] at e
   obtain ⟨e1,e2⟩:=List.cons.inj e
   exact ⟨GH m0 e1,allB_of m0 e2⟩
theorem L4 {fs:List (Str ×Stmt)} {bs:List Str} {s:Shared} (e:zI fs bs s=good fs bs):YP fs bs s.heap:=
 let ⟨e1,e2⟩:=Prod.mk.inj (by rw [good,O3,O4,O5] at e;exact e)
 ⟨zH s.heap (Sb s.heap fs),AL _ _,Ce (.head _) (fun _ ha=> .tail _ ha) e1,allB_of (.head _) e2⟩
theorem GI {l:OpenLaw} {n k:Nat} {q:Program} {loose:List Str} {XP:(Str→Option Value)→Heap→Prop} {YP:World→Heap→Prop} {d:DefRec} {CX:Ec} {sp:Frag→Sp} {x:Str}
 (hn:l.most=some n) (hn2:n≤sizeLine) (hdf:d.params.defaults= []) (hr:iw k callerA)
 (F:∀ (w:World) (mg:Str→Option Value) (fa:Addr) (h:Heap),YP w h→h.Ns mainGlobals mg→mg d.name=some (.ref fa)→
  ∃ (K:Frag) (fd:FuncData),K.In h∧(∀ (s:Shared) (u:Value),BindsTo s fd ⟨[u],[]⟩ [(x,u)])∧
    ∀ base:Heap,K.In base→base.Ns mainGlobals mg→bO l.prog w K mg base CX k fa fd [x] (sp K))
 (Jx:∀ (K:Frag) (H:Hp) (a:Addr) (ns:List Int),ns.length≤n→(∀ z∈ns,Att.BE z)→HE H→jb K H a (ns.map V.int)→sp K [.ref a] H (fun v _=>v= .bl true) fun _ _ _=>False)
 (QH:∀ (H:Hp) (s:Shared) (e:Value) (s':Shared),CX [] H s (fun _ _ _=>False) e s'→False) :
 WalkO q loose XP YP l.row.toRowW d [] (fun f vs=>PySem.call f vs):=by
 refine Att.vS hn hdf fun w s₀ s₁ mg mb fa o pm cd doc a vs ns G Y ho hd hcd hmg hobj hints hlen hbig hg=>?_
 obtain ⟨K,fd,KX,hb,hF⟩:=F w mg fa _ Y G.T.g hmg
 exact Ej (CX:=CX) (sp:=sp K) KX G.T.g G.T.b G.T.builtins G.T.nolimit hg hobj hints (Nat.le_trans hlen hn2) hr hF hb (fun H hO hS=>Jx K H a ns hlen hbig hO hS) fun H e s'=>QH H s₁ e s'
end HD
namespace Pf
open PySem L2 L3
set_option genInjectivity false in
set_option genSizeOf false in
structure Ad where
 kh:Addr
 jk:FuncData
 ki:Addr
 jl:FuncData
 o9:Addr
 mC:FuncData
 iF:Addr
 gF:FuncData
 kj:Addr
 jm:FuncData
 jn:Addr
 iG:FuncData
 fB:Addr
 dZ:FuncData
 gG:Addr
 fE:FuncData
 iH:Addr
 gH:FuncData
 AM:Addr
 wR:FuncData
 wU:Addr
 sU:FuncData
 AN:Addr
 wV:FuncData
 gI:Addr
 fF:FuncData
 pq:Addr
 mD:FuncData
 fG:Addr
 eB:FuncData
 iI:Addr
 gJ:FuncData
 wW:Addr
 sV:FuncData
 mE:Addr
 ko:FuncData
 eE:Addr
 dH:FuncData
 kq:Addr
 jo:FuncData
 sW:Addr
 pA:FuncData
 gK:Addr
 fH:FuncData
 gM:Addr
 fJ:FuncData
 eF:Addr
 dI:FuncData
 mF:Addr
 kr:FuncData
 ku:Addr
 jq:FuncData
 wX:Addr
 sX:FuncData
 AO:Addr
 wY:FuncData
 sY:Addr
 pB:FuncData
 AQ:Addr
 wZ:FuncData
 mG:Addr
 kB:FuncData
 w4:Addr
 sZ:FuncData
 iJ:Addr
 gO:FuncData
 GJ:Addr
 AR:FuncData
structure Txt (K:PySem.W.Frag) (mg:Str→Option Value) (t:Ad):Prop where
 kC:iM K "_law_many" "_law_many" jM t.kh t.jk
 ze:mg "_law_many" =some (.ref t.kh)
 kE:iM K "_law_spot" "_law_spot" jN t.ki t.jl
 zf:mg "_law_spot" =some (.ref t.ki)
 iU:iM K "_law_at" "_law_at" om t.o9 t.mC
 pC:mg "_law_at" =some (.ref t.o9)
 iK:iM K "_law_places" "_law_places" ia t.iF t.gF
 uz:mg "_law_places" =some (.ref t.iF)
 gZ:iM K "_law_pick" "_law_pick" jO t.kj t.jm
 p8:mg "_law_pick" =some (.ref t.kj)
 cV:iM K "_law_twice" "_law_twice" i9 t.jn t.iG
 fX:mg "_law_twice" =some (.ref t.jn)
 dh:iM K "_law_triangle" "_law_triangle" ff t.fB t.dZ
 jA:mg "_law_triangle" =some (.ref t.fB)
 dJ:iM K "_law_flipped" "_law_flipped" bH t.gG t.fE
 kF:mg "_law_flipped" =some (.ref t.gG)
 iL:iM K "_law_shaken" "_law_shaken" ic t.iH t.gH
 uA:mg "_law_shaken" =some (.ref t.iH)
 tE:iM K "sign" "sign" zJ t.AM t.wR
 AS:mg "sign" =some (.ref t.AM)
 jr:iM K "twice" "twice" vB t.wU t.sU
 nS:mg "twice" =some (.ref t.wU)
 mH:iM K "turn" "turn" zK t.AN t.wV
 tF:mg "turn" =some (.ref t.AN)
 dM:iM K "without_bays" "without_bays" gf t.gI t.fF
 kG:mg "without_bays" =some (.ref t.gI)
 pF:iM K "outline" "outline" oz t.pq t.mD
 DL:mg "outline" =some (.ref t.pq)
 fK:iM K "outline_sides" "outline_sides" fk t.fG t.eB
 qp:mg "outline_sides" =some (.ref t.fG)
 eU:iM K "triangle_of" "triangle_of" ie t.iI t.gJ
 lM:mg "triangle_of" =some (.ref t.iI)
 w5:iM K "swept" "swept" kR t.wW t.sV
 Je:mg "swept" =some (.ref t.wW)
 jt:iM K "_law_int" "_law_int" lP t.mE t.ko
 tG:mg "_law_int" =some (.ref t.mE)
 eG:iM K "_law_places_of" "_law_places_of" dX t.eE t.dH
 pG:mg "_law_places_of" =some (.ref t.eE)
 kH:iM K "_law_rows" "_law_rows" jP t.kq t.jo
 zg:mg "_law_rows" =some (.ref t.kq)
 kI:iM K "rounds" "rounds" qT t.sW t.pA
 tH:mg "rounds" =some (.ref t.sW)
 gP:iM K "left_corners" "left_corners" gg t.gK t.fH
 tK:mg "left_corners" =some (.ref t.gK)
 gQ:iM K "side_between" "side_between" gi t.gM t.fJ
 tL:mg "side_between" =some (.ref t.gM)
 eK:iM K "directed_sides" "directed_sides" b9 t.eF t.dI
 pH:mg "directed_sides" =some (.ref t.eF)
 mJ:iM K "sides_of" "sides_of" ja t.mF t.kr
 AU:mg "sides_of" =some (.ref t.mF)
 kJ:iM K "ring_area" "ring_area" jQ t.ku t.jq
 zh:mg "ring_area" =some (.ref t.ku)
 nT:iM K "apart" "apart" vC t.wX t.sX
 w6:mg "apart" =some (.ref t.wX)
 AV:iM K "ring" "ring" zL t.AO t.wY
 L5:mg "ring" =some (.ref t.AO)
 tM:iM K "spoils" "spoils" qU t.sY t.pB
 GK:mg "spoils" =some (.ref t.sY)
 w9:iM K "back" "back" zM t.AQ t.wZ
 GL:mg "back" =some (.ref t.AQ)
 mK:iM K "is_wrong" "is_wrong" lQ t.mG t.kB
 AW:mg "is_wrong" =some (.ref t.mG)
 xg:iM K "wrong" "wrong" qE t.w4 t.sZ
 Jf:mg "wrong" =some (.ref t.w4)
 eV:iM K "_law_spoils" "_law_spoils" c9 t.iJ t.gO
 lN:mg "_law_spoils" =some (.ref t.iJ)
 JZ:iM K "law" "law" xQ t.GJ t.AR
 Th:mg "law" =some (.ref t.GJ)
 GN:mg "min" =none
 GO:mg "max" =none
 dN:mg "len" =none
 cW:mg "sorted" =none
 tN:mg "tuple" =none
 nU:mg "list" =none
 zj:mg "reversed" =none
 L6:mg "zip" =none
 tO:mg "range" =none
 eW:mg "isinstance" =none
 L7:mg "int" =none
 L8:mg "set" =none
theorem xh:aG ["_law_cell"] ["_law_cell"] (ak jM):=⟨rfl,rfl,rfl,by decide +kernel,rfl,by decide +kernel,by decide +kernel⟩
theorem bF:aG ["_law_kind","_law_cell","_law_head","_law_five","_law_x","_law_y","_law_times"] ["_law_kind","_law_cell","_law_head"] (ak jN):=⟨rfl,rfl,rfl,by decide +kernel,rfl,by decide +kernel,by decide +kernel⟩
theorem AX:aG ["_law_script","_law_k"] ["_law_script","_law_k"] (ak om):=⟨rfl,rfl,rfl,by decide +kernel,rfl,by decide +kernel,by decide +kernel⟩
theorem dO:aG ["_law_script","_law_most","_law_some","_law_cell","_law_spot_here"] ["_law_script","_law_most"] (ak ia):=⟨rfl,rfl,rfl,by decide +kernel,rfl,by decide +kernel,by decide +kernel⟩
theorem ju:aG ["_law_cover","_law_cell","_law_t","_law_k"] ["_law_cover","_law_cell"] (ak jO):=⟨rfl,rfl,rfl,by decide +kernel,rfl,by decide +kernel,by decide +kernel⟩
theorem uB:aG ["_law_a","_law_b","_law_c"] ["_law_a","_law_b","_law_c"] (ak i9):=⟨rfl,rfl,rfl,by decide +kernel,rfl,by decide +kernel,by decide +kernel⟩
theorem iV:aG ["_law_a","_law_b","_law_c","_law_some"] ["_law_a","_law_b","_law_c"] (ak ff):=⟨rfl,rfl,rfl,by decide +kernel,rfl,by decide +kernel,by decide +kernel⟩
theorem cH:aG ["_law_cover","_law_a","_law_b","_law_both","_law_c","_law_d","_law_left"] ["_law_cover","_law_a","_law_b"] (ak bH):=⟨rfl,rfl,rfl,by decide +kernel,rfl,by decide +kernel,by decide +kernel⟩
theorem cy:aG ["_law_cover","_law_cells","_law_cell","_law_a","_law_b","_law_other"] ["_law_cover","_law_cells"] (ak ic):=⟨rfl,rfl,rfl,by decide +kernel,rfl,by decide +kernel,by decide +kernel⟩
theorem Jg:aG ["number"] ["number"] (ak zJ):=⟨rfl,rfl,rfl,by decide +kernel,rfl,by decide +kernel,by decide +kernel⟩
theorem GP:aG ["a","b","c"] ["a","b","c"] (ak vB):=⟨rfl,rfl,rfl,by decide +kernel,rfl,by decide +kernel,by decide +kernel⟩
theorem Jh:aG ["a","b","c"] ["a","b","c"] (ak zK):=⟨rfl,rfl,rfl,by decide +kernel,rfl,by decide +kernel,by decide +kernel⟩
theorem fL:aG ["line","chain","p"] ["line"] (ak gf):=⟨rfl,rfl,rfl,by decide +kernel,rfl,by decide +kernel,by decide +kernel⟩
theorem jv:aG ["places","line","there","home"] ["places"] (ak oz):=⟨rfl,rfl,rfl,by decide +kernel,rfl,by decide +kernel,by decide +kernel⟩
theorem iW:aG ["places","border"] ["places"] (ak fk):=⟨rfl,rfl,rfl,by decide +kernel,rfl,by decide +kernel,by decide +kernel⟩
theorem kK:aG ["a","b","c","three"] ["a","b","c"] (ak ie):=⟨rfl,rfl,rfl,by decide +kernel,rfl,by decide +kernel,by decide +kernel⟩
theorem iX:aG ["places","line","cover","k","p","seen"] ["places"] (ak kR):=⟨rfl,rfl,rfl,by decide +kernel,rfl,by decide +kernel,by decide +kernel⟩
theorem zk:aG ["_law_one"] ["_law_one"] (ak lP):=⟨rfl,rfl,rfl,by decide +kernel,rfl,by decide +kernel,by decide +kernel⟩
theorem g9:aG ["_law_found","_law_many_here","_law_p"] ["_law_found","_law_many_here"] (ak dX):=⟨rfl,rfl,rfl,by decide +kernel,rfl,by decide +kernel,by decide +kernel⟩
theorem nV:aG ["_law_found","_law_due","_law_many_here","_law_k"] ["_law_found","_law_due","_law_many_here"] (ak jP):=⟨rfl,rfl,rfl,by decide +kernel,rfl,by decide +kernel,by decide +kernel⟩
theorem DM:aG ["t"] ["t"] (ak qT):=⟨rfl,rfl,rfl,by decide +kernel,rfl,by decide +kernel,by decide +kernel⟩
theorem di:aG ["cover","corners","t","one"] ["cover"] (ak gg):=⟨rfl,rfl,rfl,by decide +kernel,rfl,by decide +kernel,by decide +kernel⟩
theorem qu:aG ["a","b"] ["a","b"] (ak gi):=⟨rfl,rfl,rfl,by decide +kernel,rfl,by decide +kernel,by decide +kernel⟩
theorem dP:aG ["cover","ways","t"] ["cover"] (ak b9):=⟨rfl,rfl,rfl,by decide +kernel,rfl,by decide +kernel,by decide +kernel⟩
theorem zl:aG ["cover"] ["cover"] (ak ja):=⟨rfl,rfl,rfl,by decide +kernel,rfl,by decide +kernel,by decide +kernel⟩
theorem nW:aG ["a","b","c","area"] ["a","b","c"] (ak jQ):=⟨rfl,rfl,rfl,by decide +kernel,rfl,by decide +kernel,by decide +kernel⟩
theorem tP:aG ["p","q","right","up"] ["p","q"] (ak vC):=⟨rfl,rfl,rfl,by decide +kernel,rfl,by decide +kernel,by decide +kernel⟩
theorem xj:aG ["a","b","c","d","area","depth"] ["a","b","c","d"] (ak zL):=⟨rfl,rfl,rfl,by decide +kernel,rfl,by decide +kernel,by decide +kernel⟩
theorem pI:aG ["a","b","c","d","lies","three"] ["a","b","c","d"] (ak qU):=⟨rfl,rfl,rfl,by decide +kernel,rfl,by decide +kernel,by decide +kernel⟩
theorem Ji:aG ["way"] ["way"] (ak zM):=⟨rfl,rfl,rfl,by decide +kernel,rfl,by decide +kernel,by decide +kernel⟩
theorem zm:aG ["corners","side"] ["corners","side"] (ak lQ):=⟨rfl,rfl,rfl,by decide +kernel,rfl,by decide +kernel,by decide +kernel⟩
theorem zo:aG ["cover","corners"] ["cover"] (ak qE):=⟨rfl,rfl,rfl,by decide +kernel,rfl,by decide +kernel,by decide +kernel⟩
theorem aZ:aG ["_law_t","_law_d","_law_a","_law_b","_law_c","_law_near","_law_high","_law_number"] ["_law_t","_law_d"] (ak c9):=⟨rfl,rfl,rfl,by decide +kernel,rfl,by decide +kernel,by decide +kernel⟩
theorem gR:aG ["_law_script","_law_many_here","_law_places_here","_law_cover","_law_due","_law_k","_law_side","_law_both","_law_far","_law_ways","_law_handed"] ["_law_script"] (ak xQ):=⟨rfl,rfl,rfl,by decide +kernel,rfl,by decide +kernel,by decide +kernel⟩
section
variable {P:Program} {w:World} {K:PySem.W.Frag} {mg:Str→Option Value} {base:Heap} {t:Ad}
theorem xm (T:Txt K mg t):Binds K t.jk ["_law_cell"] []:=T.kC.binds fun _ _ _ _ _ _ us hl=>match us,hl with | [_],_=>rfl
def zp:rA:=fun ds Q=> ∃ c:Int,ds= [.int c]∧∀ m:Int,0≤m→m≤12→Q (.int m)
theorem xo (T:Txt K mg t):bO P w K mg base fR 1 t.kh t.jk ["_law_cell"] (qL K zp):=by
 refine vO T.kC xh (fun ds Q h=>by (first | (obtain ⟨_,rfl,_⟩:=h;rfl) | (obtain ⟨_,_,rfl,_⟩:=h;rfl) | (obtain ⟨_,_,_,rfl,_⟩:=h;rfl) | (obtain ⟨_,_,_,_,rfl,_⟩:=h;rfl) | (obtain ⟨_,_,_,_,_,rfl,_⟩:=h;rfl) | (obtain ⟨_,_,_,_,_,_,rfl,_⟩:=h;rfl) | (obtain ⟨_,_,_,_,_,_,_,rfl,_⟩:=h;rfl))) (fun cdv A outer s H hr=>?_)
 have hu:=hr.units
 refine ⟨_,(aC (aM (az (dU (af ah (af ah (af ah (af ah (af ah (af ah (af ah (af ah (af ah (af ah (af ah (af ah (af ah (af ah (af ah (af ah aj))))))))))))))))) (au dc (aa 0) ah)))),fun ds Q h=>?_⟩
 obtain ⟨c,rfl,h⟩:=h
 walk_at "rd"
 intro p hp
 walk_at "rd"
 obtain ⟨z1,m1,e1⟩:=E2 (ns:=[4,5,6,7,8,3,6,7,5,8,6,2,1,0,7,12]) (k:=c % 16) (Int.emod_nonneg _ (by decide)) (Int.emod_lt_of_pos _ (by decide))
 refine ⟨_,_,_,.inr (.inr ⟨p,rfl,ai⟩),rfl,e1,?_⟩
 have b:∀ z∈([4,5,6,7,8,3,6,7,5,8,6,2,1,0,7,12]:List Int),0≤z∧z≤12:=by decide
 exact h z1 (b z1 m1).1 (b z1 m1).2
theorem xq (T:Txt K mg t):Binds K t.jl ["_law_kind","_law_cell","_law_head"] []:=T.kE.binds fun _ _ _ _ _ _ us hl=>match us,hl with | [_,_,_],_=>rfl
def zq:rA:=fun ds Q=> ∃ kd c h:Int,ds= [.int kd,.int c,.int h]∧0≤kd∧kd < 8∧Att.BE c∧∀ p:Pl,p.Ok 130→Q p.d
def AY:List Pl:=[⟨5,0⟩,⟨4,3⟩,⟨3,4⟩,⟨0,5⟩,⟨-3,4⟩,⟨-4,3⟩,⟨-5,0⟩,⟨-4, -3⟩,⟨-3, -4⟩,⟨0, -5⟩,⟨3, -4⟩,⟨4, -3⟩,⟨0,0⟩]
theorem O6 {ps:List Pl} {k:Int} (h0:0≤k) (h1:k < ps.length):∃ p:Pl,p∈ps∧t8 (ps.map Pl.d) k=some p.d:=by
 obtain ⟨j,rfl⟩:∃ j:Nat,k=(j:Int):=⟨k.toNat,by omega⟩
 have hlt:j < ps.length:=by omega
 refine ⟨ps[j],List.getElem_mem hlt,kU ?_⟩
 rw [List.getElem?_map,List.getElem?_eq_getElem hlt]
 rfl
theorem Jj {p:Pl} (h:p∈AY):Sm 3 p.x∧Sm 3 p.y:=by
 have:AY.all (fun p=>decide (p.x.natAbs < 2 ^ 3) && decide (p.y.natAbs < 2 ^ 3))=true:=by decide
 have:=List.all_eq_true.mp this p h
 rw [Bool.and_eq_true] at this
 exact ⟨of_decide_eq_true this.1,of_decide_eq_true this.2⟩
theorem xr (T:Txt K mg t):bO P w K mg base fR 1 t.ki t.jl ["_law_kind","_law_cell","_law_head"] (qL K zq):=by
 refine vO T.kE bF (fun ds Q h=>by (first | (obtain ⟨_,rfl,_⟩:=h;rfl) | (obtain ⟨_,_,rfl,_⟩:=h;rfl) | (obtain ⟨_,_,_,rfl,_⟩:=h;rfl) | (obtain ⟨_,_,_,_,rfl,_⟩:=h;rfl) | (obtain ⟨_,_,_,_,_,rfl,_⟩:=h;rfl) | (obtain ⟨_,_,_,_,_,_,rfl,_⟩:=h;rfl) | (obtain ⟨_,_,_,_,_,_,_,rfl,_⟩:=h;rfl))) (fun cdv A outer s H hr=>?_)
 have hu:=hr.units
 refine ⟨_,(av (Ob (aU Ep (aa 0) ah (aJ _)) (aC (aV (i:=0) bF.nd rfl (Or.inl rfl) (az (dU (af ah (af ah (af ah (af ah aj))))) (au fM (au iB ah (au bY (aa 0) ah)) (au dc (au iz (aa 1) ah) ah))))))
  (av (dF (aU (oF hu) (aa 0) ah (aJ _)) (aC (aM (bD (af (au fM (au dc (aa 1) ah) (au pQ ah ah)) (af (au bY (au dc (au iz (aa 1) ah) ah) (au pQ ah ah)) aj))))) bS)
  (av (dF (aU (oF hu) (aa 0) ah (aJ _)) (av (aV (i:=3) bF.nd rfl (Or.inl rfl) (dU (af (bD (af ah (af ah aj))) (af (bD (af ah (af ah aj))) (af (bD (af ah (af ah aj))) (af (bD (af ah (af ah aj))) (af (bD (af (eZ ah) (af ah aj))) (af (bD (af (eZ ah) (af ah aj))) (af (bD (af (eZ ah) (af ah aj))) aj)))))))))
  (av (aV (i:=3) bF.nd rfl (Or.inl rfl) (au yi (aa 3) (dU (af (bD (af (eZ ah) (af (eZ ah) aj))) (af (bD (af (eZ ah) (af (eZ ah) aj))) (af (bD (af ah (af (eZ ah) aj))) (af (bD (af ah (af (eZ ah) aj))) (af (bD (af ah (af (eZ ah) aj))) (af (bD (af ah (af ah aj))) aj)))))))))
  (av (Bv (az (aa 3) (au dc (aa 1) ah)) (EC rfl (je (cB (i:=4) bF.nd rfl (Or.inl rfl)) (je (cB (i:=5) bF.nd rfl (Or.inl rfl)) zX))))
  (av (aV (i:=6) bF.nd rfl (Or.inl rfl) (au iB (au fM ah (au dc (aa 2) ah)) (au fM ah (au dc (au iz (aa 1) ah) ah))))
  (aC (aM (bD (af (au fM (au iB (aa 4) (aa 6)) (au dc (au iz (aa 2) ah) (au pQ ah ah))) (af (au bY (au iB (aa 5) (aa 6)) (au dc (au iz (aa 2) ah) (au pQ ah ah))) aj))))))))) bS)
  (av (dF (aU (oF hu) (aa 0) ah (aJ _)) (av (aV (i:=4) bF.nd rfl (Or.inl rfl) (au bY (au dc (aa 1) ah) ah))
  (aC (aM (bD (af (aa 4) (af (au fM (au iB ah (aa 4)) (au iB (au iz (au dc (au iz (aa 1) ah) ah) ah) (au fM ah (au dc (au iz (aa 1) ah) ah)))) aj)))))) bS)
  (av (dF (aU (oF hu) (aa 0) ah (aJ _)) (aC (aM (bD (af (au bY (au dc (au iB (aa 1) ah) ah) ah) (af (au bY (au dc (au iB (aa 1) ah) ah) ah) aj))))) bS)
  (av (dF (aU (oF hu) (aa 0) ah (aJ _)) (av (aV (i:=4) bF.nd rfl (Or.inl rfl) (au dc (au iB (aa 1) (au pQ ah ah)) ah))
  (aC (aM (bD (af (au bY (aa 4) (au pQ ah ah)) (af (au bY (au pQ ah ah) (au dc (au iB (aa 1) (au pQ ah ah)) ah)) aj)))))) bS)
  (aC (aM (bD (af (au dc (aa 1) ah) (af (au dc (au iz (aa 1) ah) ah) aj))))))))))),fun ds Q h=>?_⟩
 obtain ⟨kd,c,hd,rfl,h0,h8,bc,h⟩:=h
 walk_at "rd"
 refine ⟨fun ρ M'=> ∃ k:Int,ρ= [some (.int k),some (.int c),some (.int hd),none,none,none,none],?_,?_⟩
 ·walk_at "rd"
  refine cJ (fun k=>?_) (fun k=>?_)
  ·have k:5 < kd:=of_decide_eq_true k
   walk_at "rd"
   intro p hp
   walk_at "rd"
   refine ⟨Or.inr (Or.inl (Or.inl ⟨by decide,by decide⟩)),?_⟩
   walk_at "rd"
   have hm0:0≤c / 16 % 2:=Int.emod_nonneg _ (by decide)
   have hm2:c / 16 % 2 < 2:=Int.emod_lt_of_pos _ (by decide)
   obtain ⟨z,_,ez⟩:=E2 (ns:=[0,3,0,5]) (k:=2*(kd - 6)+c / 16 % 2) (by omega) (by show _ < (4:Int);omega)
   refine ⟨_,_,_,.inr (.inr ⟨p,rfl,ai⟩),rfl,ez,?_⟩
   walk_at "rd"
   exact bq.mk ⟨z,rfl⟩
  ·exact bq.mk ⟨kd,rfl⟩
 rintro ρ M' ⟨k,rfl⟩
 walk_at "rd"
 refine cJ (fun _=>?_) (fun _=>?_)
 ·walk_at "rd"
  exact h ⟨_,_⟩ ⟨by walk_at "smle",by walk_at "smle"⟩
 walk_at "rd"
 refine cJ (fun _=>?_) (fun _=>?_)
 ·walk_at "rd"
  intro p hp
  walk_at "rd"
  intro q hq
  refine ⟨p,q,_,_,rfl,rfl,ao ai hq,ai,by show 13≤sizeLine;decide,fun r hr=>?_⟩
  walk_at "rd"
  obtain ⟨v,m1,e1⟩:=O6 (ps:=AY) (k:=c % 13) (Int.emod_nonneg _ (by decide)) (Int.emod_lt_of_pos _ (by decide))
  obtain ⟨s1,s2⟩:=Jj m1
  refine ⟨_,_,_,.inr (.inr ⟨r,rfl,ai⟩),rfl,e1,?_⟩
  walk_at "rd"
  exact h ⟨_,_⟩ ⟨by walk_at "smle",by walk_at "smle"⟩
 walk_at "rd"
 refine cJ (fun _=>?_) (fun _=>?_)
 ·have s1:Sm 2 (c / 11 % 3 / 2):=by
   show (c / 11 % 3 / 2).natAbs < 4
   omega
  walk_at "rd"
  exact h ⟨_,_⟩ ⟨by walk_at "smle",by walk_at "smle"⟩
 walk_at "rd"
 refine cJ (fun _=>?_) (fun _=>?_)
 ·walk_at "rd"
  refine ⟨Or.inr (Or.inl (Or.inr ⟨by decide,by decide⟩)),?_⟩
  walk_at "rd"
  refine ⟨Or.inr (Or.inl (Or.inr ⟨by decide,by decide⟩)),?_⟩
  walk_at "rd"
  exact h ⟨_,_⟩ ⟨by walk_at "smle",by walk_at "smle"⟩
 walk_at "rd"
 refine cJ (fun _=>?_) (fun _=>?_)
 ·walk_at "rd"
  refine ⟨Or.inr (Or.inr ⟨bc,200,by decide +kernel,by decide⟩),?_⟩
  walk_at "rd"
  refine ⟨Or.inr (Or.inr ⟨bc,200,by decide +kernel,by decide⟩),?_⟩
  walk_at "rd"
  exact h ⟨_,_⟩ ⟨by walk_at "smle",by walk_at "smle"⟩
 walk_at "rd"
 exact h ⟨_,_⟩ ⟨by walk_at "smle",by walk_at "smle"⟩
theorem mL (T:Txt K mg t):Binds K t.mC ["_law_script","_law_k"] []:=T.iU.binds fun _ _ _ _ _ _ us hl=>match us,hl with | [_,_],_=>rfl
def DN:rA:=fun ds Q=> ∃ (ns:List Int) (k:Int),ds= [.zU (ns.map L3.D.int),.int k]∧(∀ z∈ns,Att.BE z)∧ns.length≤63∧∀ z:Int,Att.BE z→Q (.int z)
theorem mO (T:Txt K mg t):bO P w K mg base fR 1 t.o9 t.mC ["_law_script","_law_k"] (qL K DN):=by
 refine vO T.iU AX (fun ds Q h=>by (first | (obtain ⟨_,rfl,_⟩:=h;rfl) | (obtain ⟨_,_,rfl,_⟩:=h;rfl) | (obtain ⟨_,_,_,rfl,_⟩:=h;rfl) | (obtain ⟨_,_,_,_,rfl,_⟩:=h;rfl) | (obtain ⟨_,_,_,_,_,rfl,_⟩:=h;rfl) | (obtain ⟨_,_,_,_,_,_,rfl,_⟩:=h;rfl) | (obtain ⟨_,_,_,_,_,_,_,rfl,_⟩:=h;rfl))) (fun cdv A outer s H hr=>?_)
 have hu:=hr.units
 refine ⟨_,(aC (aM (az (au yi (e9 (aa 0) (gu (aa 1)) (gu (au fM (aa 1) ah))) (dU (af ah aj))) ah))),fun ds Q h=>?_⟩
 obtain ⟨ns,k,rfl,hb,hlen,h⟩:=h
 walk_at "rd"
 refine ⟨_,.inl rfl,fun p hp=>?_⟩
 walk_at "rd"
 intro q hq
 have hc:∃ zs:List Int,(∀ z∈zs,Att.BE z)∧cutD (ns.map L3.D.int) (some k) (some (k+1))=zs.map L3.D.int:=by
  refine ⟨(ns.drop (HT.mS (ns.map L3.D.int).length 0 (some k))).take (HT.mS (ns.map L3.D.int).length (ns.map L3.D.int).length (some (k+1)) - HT.mS (ns.map L3.D.int).length 0 (some k)),fun z hz=>hb z (List.mem_of_mem_drop (List.mem_of_mem_take hz)),?_⟩
  unfold cutD
  rw [List.map_take,List.map_drop]
 obtain ⟨zs,hzs,ec⟩:=hc
 have hp2:ay MA p (.lst (zs.map L3.D.int)) p=some (.lst (zs.map L3.D.int)):=ai
 have Se:cutD (ns.map L3.D.int) (some k) (some ((fun i j:Int=>i+j) k 1))=zs.map L3.D.int:=ec
 rw [Se] at hq ⊢
 refine ⟨p,q,_,_,rfl,rfl,ao hp2 hq,ai,?_,fun r hr=>?_⟩
 ·have h1:(zs.map L3.D.int).length≤(ns.map L3.D.int).length:=by
   rw [← ec]
   unfold cutD
   rw [List.length_take,List.length_drop]
   omega
  rw [List.length_map (as:=ns)] at h1
  have:(1000:Nat) < sizeLine:=by decide
  show (zs.map L3.D.int).length+1≤sizeLine
  omega
 walk_at "rd"
 have ha:∃ z:Int,Att.BE z∧t8 (zs.map L3.D.int ++ [.int 0]) 0=some (.int z):=by
  cases zs with
  | nil=>exact ⟨0,by show Builtin.Int.intBits 0≤_;decide,rfl⟩
  | cons z zs=>exact ⟨z,hzs z (List.mem_cons_self ..),kU (j:=0) rfl⟩
 obtain ⟨z,bz,ez⟩:=ha
 exact ⟨_,_,_,.inr (.inr ⟨r,rfl,ai⟩),rfl,ez,h z bz⟩
theorem tQ (T:Txt K mg t):Binds K t.gF ["_law_script","_law_most"] []:=T.iK.binds fun _ _ _ _ _ _ us hl=>match us,hl with | [_,_],_=>rfl
def uC:vN:=fun ds M Q=> ∃ (ns:List Int) (m:Int),ds= [.zU (ns.map L3.D.int),.int m]∧(∀ z∈ns,Att.BE z)∧ns.length≤63∧0≤m∧∀ (p:Addr) (ps:List Pl),M p=none→ps.Nodup→(∀ q∈ps,q.Ok 130)→(ps.length:Int)≤m→Q (.ref p) (ay M p (.lst (ps.map Pl.d)))
theorem tR (T:Txt K mg t):bO P w K mg base fR 2 t.iF t.gF ["_law_script","_law_most"] (yb K uC):=by
 refine zZ T.iK dO (fun ds M Q h=>by (first | (obtain ⟨_,rfl,_⟩:=h;rfl) | (obtain ⟨_,_,rfl,_⟩:=h;rfl) | (obtain ⟨_,_,_,rfl,_⟩:=h;rfl) | (obtain ⟨_,_,_,_,rfl,_⟩:=h;rfl) | (obtain ⟨_,_,_,_,_,rfl,_⟩:=h;rfl) | (obtain ⟨_,_,_,_,_,_,rfl,_⟩:=h;rfl) | (obtain ⟨_,_,_,_,_,_,_,rfl,_⟩:=h;rfl))) (fun cdv A outer s H hr=>?_)
 have hu:=hr.units
 refine ⟨_,(av (aV (i:=2) dO.nd rfl (Or.inl rfl) (dU aj))
  (av (oK PassesOwn.never rfl (e9 (aa 0) (gu ah) (gu (au fM ah (aa 1)))) (cB (i:=3) dO.nd rfl (Or.inl rfl)) (av (aV (i:=4) dO.nd rfl (Or.inl rfl) (aF (xr T) (hr.mono (by decide)) (by rfl) T.zf T.kE.kp (xq T) (af (au dc (aF (mO T) (hr.mono (by decide)) (by rfl) T.pC T.iU.kp (mL T) (af (aa 0) (af ah aj))) ah) (af (aa 3) (af (aF (mO T) (hr.mono (by decide)) (by rfl) T.pC T.iU.kp (mL T) (af (aa 0) (af ah aj))) aj)))))
  (aC (dF (aU (qK hu) (aa 4) (aa 2) (by with_unfolding_all rfl)) (aC (oH (EG (aa 2) (aa 4) (xY PySem.F.plainAttrs_list PySem.F.slot_list_append PySem.F.type_list_append kW (bZ.dn (aa 2)) (kT (bZ.dn (aa 4)) oA))))) bS))))
  (aC (aM (aa 2))))),fun ds M Q h=>?_⟩
 obtain ⟨ns,m,rfl,hb,hlen,hm,h⟩:=h
 walk_at "rd"
 intro p hp
 walk_at "rd"
 refine ⟨_,.inl rfl,fun c hc=>?_⟩
 obtain ⟨zs,hz,hl,hle,ez⟩:=yF (k:=3) hb (by decide) hm
 have ez:cutD (ns.map L3.D.int) (some 3) (some ((fun i j:Int=>i+j) 3 m))=zs.map L3.D.int:=ez
 rw [ez]
 have pc:p≠c:=fun z=>by rw [z,ai] at hc;cases hc
 have Vm:M c=none:=by rw [aP (Ne.symm pc)] at hc;exact hc
 refine ⟨c,_,rfl,ai,?_⟩
 refine cC (fun i ρ M'=> ∃ (ps:List Pl) (y1 y2:Option L3.D),ρ= [some (.zU (ns.map L3.D.int)),some (.int m),some (.ref p),y1,y2]∧ps.length≤i∧ps.Nodup∧(∀ q∈ps,q.Ok 130)∧M'=ay (ay M c (.lst (zs.map L3.D.int))) p (.lst (ps.map Pl.d))) _ ?_ ?_ ⟨[],_,_,rfl,Nat.le_refl _,List.nodup_nil,(fun q hq=>by cases hq),Df pc⟩
 ·rintro i x ρ M' N hx ⟨ps,y1,y2,rfl,hl2,nd,ho,rfl⟩ hN
  obtain ⟨z,Vn,rfl⟩:∃ z:Int,z∈zs∧x= .int z:=by
   rw [List.getElem?_map,Option.map_eq_some_iff] at hx
   obtain ⟨z,e1,e2⟩:=hx
   exact ⟨z,List.mem_of_getElem? e1,e2.symm⟩
  have hi:i < zs.length:=by
   have:=(List.getElem?_eq_some_iff.mp hx).1
   simpa using this
  refine ⟨by rw [aP (Ne.symm pc)];exact ai,?_⟩
  walk_at "rd"
  refine ⟨hb,hlen,fun z0 _=>?_⟩
  walk_at "rd"
  refine ⟨hb,hlen,fun z2 _=>?_⟩
  walk_at "rd"
  refine ⟨by dsimp only;omega,hz z Vn,fun q hq=>?_⟩
  walk_at "rd"
  refine ⟨_,.inr ⟨p,rfl,ai⟩,rfl,gb ps,?_⟩
  walk_at "rd"
  rw [if_pos rfl,kZ]
  refine cJ (fun k=>?_) (fun k=>?_)
  ·have k:q∉ps:=fun z=>by rw [decide_eq_true z] at k;cases k
   walk_at "rd"
   refine ⟨⟨p,_,rfl,ai⟩,?_⟩
   walk_at "rd"
   refine ⟨p,_,rfl,ai,?_,?_⟩
   ·rw [List.length_map]
    have:(1000:Nat) < sizeLine:=by decide
    omega
   ·rw [mU]
    refine hN _ _ ⟨ps ++ [q],_,_,rfl,by simp;omega,?_,?_,by simp⟩
    ·rw [List.nodup_append]
     exact ⟨nd,by simp,fun a ha b hb e=>by rw [List.mem_singleton.mp hb] at e;subst e;exact k ha⟩
    ·intro z hz
     rcases List.mem_append.mp hz with hz | hz
     ·exact ho z hz
     ·rw [List.mem_singleton.mp hz];exact hq
  ·exact hN _ _ ⟨ps,_,_,rfl,by omega,nd,ho,rfl⟩
 ·rintro ρ M' ⟨ps,y1,y2,rfl,hl2,nd,ho,rfl⟩
  refine ⟨by rw [aP (Ne.symm pc)];exact ai,?_⟩
  walk_at "rd"
  refine bq.mk ⟨ay M p (.lst (ps.map Pl.d)),Le.put2 (Le.new Vm),h p ps hp nd ho ?_⟩
  simp at hl2
  omega
theorem nX (T:Txt K mg t):Binds K t.jm ["_law_cover","_law_cell"] []:=T.gZ.binds fun _ _ _ _ _ _ us hl=>match us,hl with | [_,_],_=>rfl
/-- WD side Sf a number picks -/
def MJ (t:List Pl) (j:Int):List Pl:=match t with
 | [a,b,c]=>if j=0 then [lo a c,hi a c] else if j=1 then [lo b a,hi b a] else [lo c b,hi c b]
 | _=>[]
def AZ (ts:List (List Pl)) (z:Int):List Pl:=MJ (ts.getD (z % ts.length).toNat []) (z / ts.length % 3)
def zu:vN:=fun ds M Q=> ∃ (l:Addr) (z:Int),ds= [.ref l,.int z]∧∃ (ps:List Pl) (ts:List (List Pl)),M l=some (.lst (ts.map tD))∧(∀ t∈ts,nF ps t)∧(∀ q∈ps,q.Ok 140)∧ts≠[]∧ts.length≤20∧Q (tD (AZ ts z)) M
theorem nY (T:Txt K mg t):bO P w K mg base fR 1 t.kj t.jm ["_law_cover","_law_cell"] (yb K zu):=by
 refine zZ T.gZ ju (fun ds M Q h=>by (first | (obtain ⟨_,rfl,_⟩:=h;rfl) | (obtain ⟨_,_,rfl,_⟩:=h;rfl) | (obtain ⟨_,_,_,rfl,_⟩:=h;rfl) | (obtain ⟨_,_,_,_,rfl,_⟩:=h;rfl) | (obtain ⟨_,_,_,_,_,rfl,_⟩:=h;rfl) | (obtain ⟨_,_,_,_,_,_,rfl,_⟩:=h;rfl) | (obtain ⟨_,_,_,_,_,_,_,rfl,_⟩:=h;rfl))) (fun cdv A outer s H hr=>?_)
 have hu:=hr.units
 refine ⟨_,(av (aV (i:=2) ju.nd rfl (Or.inl rfl) (az (aa 0) (au dc (aa 1) (bN gU (by rfl) T.dN bu (af (aa 0) aj)))))
  (av (aV (i:=3) ju.nd rfl (Or.inl rfl) (au dc (au iz (aa 1) (bN gU (by rfl) T.dN bu (af (aa 0) aj))) ah))
  (aC (aM (bD (af (bN (Oc hu rfl) (by rfl) T.GN uP (af (az (aa 2) (aa 3)) (af (az (aa 2) (au bY (aa 3) ah)) aj))) (af (bN (Od hu rfl) (by rfl) T.GO uQ (af (az (aa 2) (aa 3)) (af (az (aa 2) (au bY (aa 3) ah)) aj))) aj))))))),fun ds M Q h=>?_⟩
 obtain ⟨l,z,rfl,ps,ts,hM,hT,ho,hne,lt,h⟩:=h
 have sl:(1000:Nat) < sizeLine:=by decide
 have lp:0 < ts.length:=List.length_pos_iff.mpr hne
 walk_at "rd"
 refine ⟨_,_,rfl,.inr (.inr ⟨l,rfl,hM⟩),?_⟩
 rw [List.length_map]
 walk_at "rd"
 have i0:0≤z % (ts.length:Int):=Int.emod_nonneg _ (by omega)
 have i1:z % (ts.length:Int) < ts.length:=Int.emod_lt_of_pos _ (by omega)
 obtain ⟨i,hi⟩:∃ i:Nat,z % (ts.length:Int)=(i:Int):=⟨(z % (ts.length:Int)).toNat,by omega⟩
 have li:i < ts.length:=by omega
 have ht:ts[i]?=some ts[i]:=List.getElem?_eq_getElem li
 have mt:ts[i]∈ts:=List.getElem_mem li
 generalize ts[i]=t at ht mt
 obtain ⟨a,b,c,rfl,p,ha,hb,hc,_⟩:=(hT t mt).parts
 have at':t8 (ts.map tD) (z % (ts.length:Int))=some (tD [a,b,c]):=by rw [hi];exact kU (by rw [List.getElem?_map,ht];rfl)
 refine ⟨_,_,_,.inr (.inr ⟨l,rfl,hM⟩),rfl,at',?_⟩
 walk_at "rd"
 refine ⟨_,_,rfl,.inr (.inr ⟨l,rfl,hM⟩),?_⟩
 rw [List.length_map]
 have Mb:AZ ts z=MJ [a,b,c] (z / ts.length % 3):=by
  unfold AZ
  rw [hi,Int.toNat_natCast,List.getD_eq_getElem?_getD,ht]
  rfl
 rw [Mb] at h
 walk_at "rd"
 refine ⟨⟨by omega,7,by show Int.natAbs _ < 2 ^ 7;omega,by decide⟩,?_⟩
 walk_at "rd"
 have k0:0≤z / (ts.length:Int) % 3:=Int.emod_nonneg _ (by decide)
 have k1:z / (ts.length:Int) % 3 < 3:=Int.emod_lt_of_pos _ (by decide)
 dsimp only
 generalize z / (ts.length:Int) % 3=k at h k0 k1 ⊢
 have:k=0∨k=1∨k=2:=by omega
 rcases this with rfl | rfl | rfl
 all_goals
  walk_at "rd"
  repeat
   first
   | exact bq.mk ⟨_,Le.refl _,h⟩
   | (refine ⟨_,_,_,Or.inl rfl,rfl,rfl,?_⟩;walk_at "rd")
theorem eX (T:Txt K mg t):Binds K t.iG ["_law_a","_law_b","_law_c"] []:=T.cV.binds fun _ _ _ _ _ _ us hl=>match us,hl with | [_,_,_],_=>rfl
def xu:rA:=fun ds Q=> ∃ a b c:Pl,ds= [a.d,b.d,c.d]∧a.Ok 140∧b.Ok 140∧c.Ok 140∧Q (.int (tw a b c))
theorem eY (T:Txt K mg t):bO P w K mg base fR 1 t.jn t.iG ["_law_a","_law_b","_law_c"] (qL K xu):=by
 refine vO T.cV uB (fun ds Q h=>by (first | (obtain ⟨_,rfl,_⟩:=h;rfl) | (obtain ⟨_,_,rfl,_⟩:=h;rfl) | (obtain ⟨_,_,_,rfl,_⟩:=h;rfl) | (obtain ⟨_,_,_,_,rfl,_⟩:=h;rfl) | (obtain ⟨_,_,_,_,_,rfl,_⟩:=h;rfl) | (obtain ⟨_,_,_,_,_,_,rfl,_⟩:=h;rfl) | (obtain ⟨_,_,_,_,_,_,_,rfl,_⟩:=h;rfl))) (fun cdv A outer s H hr=>?_)
 have hu:=hr.units
 refine ⟨_,(aC (aM (au bY (au cO (au bY (az (aa 1) ah) (az (aa 0) ah)) (au bY (az (aa 2) ah) (az (aa 0) ah))) (au cO (au bY (az (aa 1) ah) (az (aa 0) ah)) (au bY (az (aa 2) ah) (az (aa 0) ah)))))),fun ds Q h=>?_⟩
 obtain ⟨a,b,c,rfl,⟨a1,a2⟩,⟨b1,b2⟩,⟨c1,c2⟩,h⟩:=h
 unfold tw at h
 walk_at "rd"
 exact h
theorem iY (T:Txt K mg t):Binds K t.dZ ["_law_a","_law_b","_law_c"] []:=T.dh.binds fun _ _ _ _ _ _ us hl=>match us,hl with | [_,_,_],_=>rfl
def qv:rA:=fun ds Q=> ∃ a b c:Pl,ds= [a.d,b.d,c.d]∧a.Ok 140∧b.Ok 140∧c.Ok 140∧tw a b c≠0∧Q (tD (oR a b c))
theorem iZ (T:Txt K mg t):bO P w K mg base fR 2 t.fB t.dZ ["_law_a","_law_b","_law_c"] (qL K qv):=by
 refine vO T.dh iV (fun ds Q h=>by (first | (obtain ⟨_,rfl,_⟩:=h;rfl) | (obtain ⟨_,_,rfl,_⟩:=h;rfl) | (obtain ⟨_,_,_,rfl,_⟩:=h;rfl) | (obtain ⟨_,_,_,_,rfl,_⟩:=h;rfl) | (obtain ⟨_,_,_,_,_,rfl,_⟩:=h;rfl) | (obtain ⟨_,_,_,_,_,_,rfl,_⟩:=h;rfl) | (obtain ⟨_,_,_,_,_,_,_,rfl,_⟩:=h;rfl))) (fun cdv A outer s H hr=>?_)
 have hu:=hr.units
 refine ⟨_,(av (aV (i:=3) iV.nd rfl (Or.inl rfl) (bN j4 (by rfl) T.cW bE (af (dU (af (aa 0) (af (aa 1) (af (aa 2) aj)))) aj)))
  (av (dF (aU Ep (aF (eY T) (hr.mono (by decide)) (by rfl) T.fX T.cV.kp (eX T) (af (az (aa 3) ah) (af (az (aa 3) ah) (af (az (aa 3) ah) aj)))) ah (aJ _)) (aC (aM (Ez Ii (by rfl) T.tN jW (af (aa 3) aj)))) bS)
  (aC (aM (bD (af (az (aa 3) ah) (af (az (aa 3) ah) (af (az (aa 3) ah) aj)))))))),fun ds Q h=>?_⟩
 obtain ⟨a,b,c,rfl,ha,hb,hc,hn,h⟩:=h
 walk_at "rd"
 intro l hl
 refine ⟨l,[a,b,c],rfl,ai,by show 3 < 64;decide,fun p qs hp bM i6=>?_⟩
 obtain ⟨u,v,w,rfl⟩:=iQ bM.length_eq
 obtain ⟨ou,ov,ow⟩:=rL bM ha hb hc
 rw [rS hn bM i6] at h
 walk_at "rd"
 refine ⟨_,_,_,.inr (.inr ⟨p,rfl,ai⟩),rfl,rfl,?_⟩
 walk_at "rd"
 refine ⟨_,_,_,.inr (.inr ⟨p,rfl,ai⟩),rfl,rfl,?_⟩
 walk_at "rd"
 refine ⟨_,_,_,.inr (.inr ⟨p,rfl,ai⟩),rfl,rfl,?_⟩
 walk_at "rd"
 refine ⟨ou,ov,ow,?_⟩
 walk_at "rd"
 refine cJ (fun k=>?_) (fun k=>?_)
 ·rw [if_pos (of_decide_eq_true k)] at h
  walk_at "rd"
  refine ⟨_,_,rfl,.of ai,?_⟩
  exact h
 ·rw [if_neg (fun z=>k (decide_eq_true z))] at h
  walk_at "rd"
  refine ⟨_,_,_,.inr (.inr ⟨p,rfl,ai⟩),rfl,rfl,?_⟩
  walk_at "rd"
  refine ⟨_,_,_,.inr (.inr ⟨p,rfl,ai⟩),rfl,rfl,?_⟩
  walk_at "rd"
  refine ⟨_,_,_,.inr (.inr ⟨p,rfl,ai⟩),rfl,rfl,?_⟩
  walk_at "rd"
  exact h
theorem jB (T:Txt K mg t):Binds K t.fE ["_law_cover","_law_a","_law_b"] []:=T.dJ.binds fun _ _ _ _ _ _ us hl=>match us,hl with | [_,_,_],_=>rfl
def tS:vN:=fun ds M Q=> ∃ (l:Addr) (a b:Pl),ds= [.ref l,a.d,b.d]∧∃ (ps:List Pl) (ts:List (List Pl)),M l=some (.lst (ts.map tD))∧dR ps ts∧(∀ q∈ps,q.Ok 140)∧ts.length≤20∧((¬ ∃ c d,GC ts a b c d∧tw c d a*tw c d b < 0)→Q .aX M)∧∀ (p:Addr) (us:List (List Pl)) (M':Mp) (c d:Pl),Le M M'→M' p=some (.lst (us.map tD))→G2 ts us a b c d→us.Pairwise (fun p q=>c7 q p=false)→Q (.ref p) M'
theorem jC (T:Txt K mg t):bO P w K mg base fR 3 t.gG t.fE ["_law_cover","_law_a","_law_b"] (yb K tS):=by
 refine zZ T.dJ cH (fun ds M Q h=>by (first | (obtain ⟨_,rfl,_⟩:=h;rfl) | (obtain ⟨_,_,rfl,_⟩:=h;rfl) | (obtain ⟨_,_,_,rfl,_⟩:=h;rfl) | (obtain ⟨_,_,_,_,rfl,_⟩:=h;rfl) | (obtain ⟨_,_,_,_,_,rfl,_⟩:=h;rfl) | (obtain ⟨_,_,_,_,_,_,rfl,_⟩:=h;rfl) | (obtain ⟨_,_,_,_,_,_,_,rfl,_⟩:=h;rfl))) (fun cdv A outer s H hr=>?_)
 have hu:=hr.units
 refine ⟨_,(av (aV (i:=3) cH.nd rfl (Or.inr rfl) (uh (jw (ys:=["_law_a","_law_b"]) (fs:=[1,2]) rfl (by show bx (ak bH) ["_law_cover","_law_a","_law_b","_law_both","_law_c","_law_d","_law_left"] _ _ _ _=true;decide +kernel) (aa 0) (fun cl C s0 H0 ex=>pW (qH.pt (qZ (aU (Ex hu) (aa 1) (aa 0) (by with_unfolding_all rfl)) (lW (aU (Ex hu) (aa 2) (aa 0) (by with_unfolding_all rfl)))))) (fun cl C s0 H0 ex=>(aa 0)))))
  (av (dF (qH.pt (vM (aU (oF hu) (aa 1) (aa 2) (aJ _)) (qY (aU (qh hu) (bN gU (by rfl) T.dN bu (af (aa 3) aj)) ah (aJ _))))) (aC (aM Br)) bS)
  (av (aV (i:=4) cH.nd rfl (Or.inl rfl) (az (uh (BD (ys:=["_law_a","_law_b"]) (fs:=[1,2]) rfl (by show bx (ak bH) ["_law_cover","_law_a","_law_b","_law_both","_law_c","_law_d","_law_left"] _ _ _ _=true;decide +kernel) (az (aa 3) ah) (fun cl C s0 H0 ex=>pW (qH.pt (qZ (aU (qh hu) (aa 0) (aa 1) (aJ _)) (lW (aU (qh hu) (aa 0) (aa 2) (aJ _)))))) (fun cl C s0 H0 ex=>(aa 0)))) ah))
  (av (aV (i:=5) cH.nd rfl (Or.inl rfl) (az (uh (BD (ys:=["_law_a","_law_b"]) (fs:=[1,2]) rfl (by show bx (ak bH) ["_law_cover","_law_a","_law_b","_law_both","_law_c","_law_d","_law_left"] _ _ _ _=true;decide +kernel) (az (aa 3) ah) (fun cl C s0 H0 ex=>pW (qH.pt (qZ (aU (qh hu) (aa 0) (aa 1) (aJ _)) (lW (aU (qh hu) (aa 0) (aa 2) (aJ _)))))) (fun cl C s0 H0 ex=>(aa 0)))) ah))
  (av (dF (aU QU (au cO (aF (eY T) (hr.mono (by decide)) (by rfl) T.fX T.cV.kp (eX T) (af (aa 4) (af (aa 5) (af (aa 1) aj)))) (aF (eY T) (hr.mono (by decide)) (by rfl) T.fX T.cV.kp (eX T) (af (aa 4) (af (aa 5) (af (aa 2) aj))))) ah (aJ _)) (aC (aM Br)) bS)
  (av (CQ (j:=6) (jw (ys:=["_law_both"]) (fs:=[3]) rfl (by show bx (ak bH) ["_law_cover","_law_a","_law_b","_law_both","_law_c","_law_d","_law_left"] _ _ _ _=true;decide +kernel) (aa 0) (fun cl C s0 H0 ex=>pW (aU (qK hu) (aa 0) (aa 1) (by with_unfolding_all rfl))) (fun cl C s0 H0 ex=>(aa 0))) cH.nd rfl (Or.inl rfl))
  (aC (aM (bN (oQ (n:=3) (.inr rfl) hu) (by rfl) T.cW bE (af (au yi (aa 6) (dU (af (aF (iZ T) (hr.mono (by decide)) (by rfl) T.jA T.dh.kp (iY T) (af (aa 1) (af (aa 4) (af (aa 5) aj)))) (af (aF (iZ T) (hr.mono (by decide)) (by rfl) T.jA T.dh.kp (iY T) (af (aa 2) (af (aa 4) (af (aa 5) aj)))) aj)))) aj)))))))))),fun ds M Q h=>?_⟩
 obtain ⟨l,a,b,rfl,ps,ts,hM,hC,ho,lt,hn,h⟩:=h
 have sl:(1000:Nat) < sizeLine:=by decide
 have O7:∀ t∈ts,Tr t:=fun t ht=>(hC.bW t ht).tr ho
 walk_at "rd"
 refine ⟨l,_,rfl,hM,by rw [List.length_map];omega,bq.mk (bA (fun j acc M5=>M5=M∧acc=(bG (ts.take j) a b).map tD) _ ?_ ?_ ⟨rfl,rfl⟩)⟩
 ·rintro j x acc M5 N2 tT ⟨rfl,rfl⟩ jK
  obtain ⟨t,ht,rfl⟩:=fm tT
  refine ⟨hM,?_⟩
  have ft:bG (ts.take (j+1)) a b=bG (ts.take j) a b ++ (if decide (a∈t∧b∈t)=true then [t] else []):=cz ht
  walk_at "rd"
  refine ⟨gb t,?_⟩
  walk_at "rd"
  rw [kZ]
  refine cJ (fun k1=>?_) (fun k1=>?_)
  ·walk_at "rd"
   refine ⟨gb t,?_⟩
   walk_at "rd"
   rw [kZ]
   refine cJ (fun k2=>?_) (fun k2=>?_)
   ·walk_at "rd"
    refine jK _ _ ⟨rfl,?_⟩
    rw [ft,if_pos (decide_eq_true ⟨of_decide_eq_true k1,of_decide_eq_true k2⟩),List.map_append]
    rfl
   ·refine jK _ _ ⟨rfl,?_⟩
    rw [ft,if_neg (fun z=>k2 (decide_eq_true (of_decide_eq_true z).2)),List.append_nil]
  ·refine jK _ _ ⟨rfl,?_⟩
   rw [ft,if_neg (fun z=>k1 (decide_eq_true (of_decide_eq_true z).1)),List.append_nil]
 ·rintro acc M5 ⟨rfl,rfl⟩
  refine ⟨hM,fun p hp=>?_⟩
  rw [List.length_map,List.take_length]
  have lb:(bG ts a b).length≤20:=Nat.le_trans (List.length_filter_le _ _) lt
  have O8:=ao (u:=MO.lst ((bG ts a b).map tD)) hM hp
  have hB:ay M5 p (.lst ((bG ts a b).map tD)) p=some (.lst ((bG ts a b).map tD)):=ai
  have G4:Le M5 (ay M5 p (.lst ((bG ts a b).map tD))):=Le.new hp
  generalize ay M5 p (.lst ((bG ts a b).map tD))=M1 at O8 hB G4 ⊢
  walk_at "rd"
  rw [jX]
  by_cases PR:a=b
  ·rw [decide_eq_true PR]
   walk_at "rd"
   exact bq.mk ⟨_,G4,hn (fun ⟨c,d,⟨⟨t,ht,r⟩,_⟩,_⟩=>by obtain ⟨q,_⟩:=r.tw (hC.bW t ht);rw [PR] at q;unfold tw at q;exact absurd q (by grind))⟩
  rw [decide_eq_false PR]
  walk_at "rd"
  refine ⟨_,_,rfl,.inr (.inr ⟨p,rfl,hB⟩),?_⟩
  rw [List.length_map]
  walk_at "rd"
  rw [EV]
  refine cJ (fun k=>?_) (fun k=>?_)
  ·walk_at "rd"
   have k:=of_decide_eq_true k
   exact bq.mk ⟨_,G4,hn (fun ⟨c,d,⟨⟨t,ht,r⟩,⟨u,hu,r2⟩⟩,_⟩=>k (by rw [hC.yY (cu.mpr ⟨t,ht,r.wN⟩) (cu.mpr ⟨u,hu,r2.wN⟩)];rfl))⟩
  have k2:(bG ts a b).length=2:=by
   apply Classical.byContradiction
   intro z
   exact k (decide_eq_true (fun y=>z (by omega)))
  obtain ⟨t,u,c,d,eb,ht,j8,tu,hr⟩:=hC.yX PR k2
  rw [eb] at hB
  obtain ⟨Sg,Vo⟩:=GF hC ht j8 hr
  have Mc:=wQ (hC.bW t ht) (a:=a) (b:=b) (c:=c) (hr.imp (fun z=>z.1) (fun z=>z.1))
  have Me:=wQ (hC.bW u j8) (a:=a) (b:=b) (c:=d) (hr.elim (fun z=> .inr z.2) (fun z=> .inl z.2))
  have tl:∀ v∈ts,v.length=3:=fun v hv=>by obtain ⟨_,_,_,rfl,_⟩:=O7 v hv;rfl
  walk_at "rd"
  refine ⟨_,_,_,.inr (.inr ⟨p,rfl,hB⟩),rfl,rfl,?_⟩
  refine ⟨_,rfl,by rw [List.length_map,tl t ht];decide,bq.mk (bA (fun j acc M6=>M6=M1∧acc=((t.take j).filter (fun q=>decide (q≠a) && decide (q≠b))).map Pl.d) _ ?_ ?_ ⟨rfl,rfl⟩)⟩
  ·rintro j x acc M6 N2 tT ⟨rfl,rfl⟩ jK
   obtain ⟨q,hq,rfl⟩:=oN tT
   refine ⟨trivial,?_⟩
   walk_at "rd"
   rw [Cd]
   refine cJ (fun k1=>?_) (fun k1=>?_)
   ·walk_at "rd"
    rw [Cd]
    refine cJ (fun k2=>?_) (fun k2=>?_)
    ·walk_at "rd"
     refine jK _ _ ⟨rfl,?_⟩
     rw [bU hq,if_pos (by rw [k1,k2];rfl),List.map_append]
     rfl
    ·refine jK _ _ ⟨rfl,?_⟩
     rw [bU hq,if_neg (fun z=>k2 (Bool.and_eq_true_iff.mp z).2),List.append_nil]
   ·refine jK _ _ ⟨rfl,?_⟩
    rw [bU hq,if_neg (fun z=>k1 (Bool.and_eq_true_iff.mp z).1),List.append_nil]
  rintro acc M6 ⟨rfl,hacc⟩
  rw [List.length_map,List.take_length,Mc] at hacc
  subst hacc
  refine ⟨trivial,fun p4 G5=>?_⟩
  walk_at "rd"
  refine ⟨_,_,_,.inr (.inr ⟨p4,rfl,ai⟩),rfl,rfl,?_⟩
  have JH:=ao (u:=MO.lst ([c].map Pl.d)) O8 G5
  have hB2:=ao (u:=MO.lst ([c].map Pl.d)) hB G5
  have Cf:=G4.trans (Le.new (o:=MO.lst ([c].map Pl.d)) G5)
  generalize ay M6 p4 (.lst ([c].map Pl.d))=M7 at JH hB2 Cf ⊢
  walk_at "rd"
  refine ⟨_,_,_,.inr (.inr ⟨p,rfl,hB2⟩),rfl,rfl,?_⟩
  refine ⟨_,rfl,by rw [List.length_map,tl u j8];decide,bq.mk (bA (fun j acc M6=>M6=M7∧acc=((u.take j).filter (fun q=>decide (q≠a) && decide (q≠b))).map Pl.d) _ ?_ ?_ ⟨rfl,rfl⟩)⟩
  ·rintro j x acc M8 N2 tT ⟨rfl,rfl⟩ jK
   obtain ⟨q,hq,rfl⟩:=oN tT
   refine ⟨trivial,?_⟩
   walk_at "rd"
   rw [Cd]
   refine cJ (fun k1=>?_) (fun k1=>?_)
   ·walk_at "rd"
    rw [Cd]
    refine cJ (fun k2=>?_) (fun k2=>?_)
    ·walk_at "rd"
     refine jK _ _ ⟨rfl,?_⟩
     rw [bU hq,if_pos (by rw [k1,k2];rfl),List.map_append]
     rfl
    ·refine jK _ _ ⟨rfl,?_⟩
     rw [bU hq,if_neg (fun z=>k2 (Bool.and_eq_true_iff.mp z).2),List.append_nil]
   ·refine jK _ _ ⟨rfl,?_⟩
    rw [bU hq,if_neg (fun z=>k1 (Bool.and_eq_true_iff.mp z).1),List.append_nil]
  rintro acc M8 ⟨rfl,hacc⟩
  rw [List.length_map,List.take_length,Me] at hacc
  subst hacc
  refine ⟨trivial,fun p5 MK=>?_⟩
  walk_at "rd"
  refine ⟨_,_,_,.inr (.inr ⟨p5,rfl,ai⟩),rfl,rfl,?_⟩
  have PU:=ao (u:=MO.lst ([d].map Pl.d)) JH MK
  have O9:=ao (u:=MO.lst ([d].map Pl.d)) hB2 MK
  have A0:=Cf.trans (Le.new (o:=MO.lst ([d].map Pl.d)) MK)
  generalize ay M8 p5 (.lst ([d].map Pl.d))=M9 at PU O9 A0 ⊢
  have hcs:c∈t∧d∈u∧a∈t∧b∈t:=by
   rcases hr with ⟨r1,r2⟩ | ⟨r1,r2⟩
   ·exact ⟨(r1.mem c).mpr (by simp),(r2.mem d).mpr (by simp),(r1.mem a).mpr (by simp),(r1.mem b).mpr (by simp)⟩
   ·exact ⟨(r1.mem c).mpr (by simp),(r2.mem d).mpr (by simp),(r1.mem a).mpr (by simp),(r1.mem b).mpr (by simp)⟩
  have oc:=ho c ((hC.bW t ht).2 c hcs.1)
  have od:=ho d ((hC.bW u j8).2 d hcs.2.1)
  have oa:=ho a ((hC.bW t ht).2 a hcs.2.2.1)
  have ob:=ho b ((hC.bW t ht).2 b hcs.2.2.2)
  have w1:=yf oc od oa
  have w2:=yf oc od ob
  walk_at "rd"
  refine ⟨oc,od,oa,?_⟩
  walk_at "rd"
  refine ⟨oc,od,ob,?_⟩
  walk_at "rd"
  refine cJ (fun k=>?_) (fun k=>?_)
  ·walk_at "rd"
   have k:0≤tw c d a*tw c d b:=of_decide_eq_true k
   exact bq.mk ⟨_,A0,hn (Vo (by omega))⟩
  have cv:tw c d a*tw c d b < 0:=by
   apply Classical.byContradiction
   intro z
   exact k (decide_eq_true (show 0≤tw c d a*tw c d b by omega))
  walk_at "rd"
  refine ⟨l,_,rfl,PU,by rw [List.length_map];omega,bq.mk (bA (fun j acc M6=>M6=M9∧acc=((ts.take j).filter (fun x=>decide (x∉[t,u]))).map tD) _ ?_ ?_ ⟨rfl,rfl⟩)⟩
  ·rintro j x acc Ie N2 tT ⟨rfl,rfl⟩ jK
   obtain ⟨v,hv,rfl⟩:=fm tT
   refine ⟨PU,?_⟩
   walk_at "rd"
   obtain ⟨v1,v2,v3,ev,_⟩:=O7 v (List.mem_of_getElem? hv)
   refine ⟨_,.inr ⟨p,rfl,O9⟩,by rw [ev];rfl,gA _,?_⟩
   walk_at "rd"
   rw [BO,if_pos rfl]
   refine cJ (fun k=>?_) (fun k=>?_)
   ·have k:v∉[t,u]:=fun z=>by rw [decide_eq_true z] at k;cases k
    walk_at "rd"
    refine jK _ _ ⟨rfl,?_⟩
    rw [cz hv,if_pos (decide_eq_true k),List.map_append]
    rfl
   ·have k:v∈[t,u]:=Classical.byContradiction fun z=>k (by rw [decide_eq_false z];rfl)
    refine jK _ _ ⟨rfl,?_⟩
    rw [cz hv,if_neg (fun z=>of_decide_eq_true (p:=v∉[t,u]) z k),List.append_nil]
  rintro acc Ie ⟨rfl,hacc⟩
  rw [List.length_map,List.take_length] at hacc
  subst hacc
  refine ⟨PU,fun p6 PV=>?_⟩
  have fy:=Sg cv
  have lr:=(AI hC.nodup tu ht j8).length_eq
  rw [List.length_cons,List.length_cons] at lr
  have t1:tw a c d≠0∧tw b c d≠0:=by
   have g1:=jH a c d
   have g2:=jH b c d
   refine ⟨fun z=>?_,fun z=>?_⟩
   ·rw [z] at g1;rw [g1,Int.zero_mul] at cv;omega
   ·rw [z] at g2;rw [g2,Int.mul_zero] at cv;omega
  have Vp:=BJ t1.1
  have Vq:=BJ t1.2
  have hT2:∀ v∈ts.filter (fun x=>decide (x∉[t,u])),v.length=3:=fun v hv=>tl v (List.mem_filter.mp hv).1
  generalize ts.filter (fun x=>decide (x∉[t,u]))=fs at fy lr hT2 PV ⊢
  have hL:ay Ie p6 (.lst (fs.map tD)) p6=some (.lst (fs.map tD)):=ai
  have Pa:=A0.trans (Le.new (o:=MO.lst (fs.map tD)) PV)
  generalize ay Ie p6 (.lst (fs.map tD))=Ti at hL Pa ⊢
  walk_at "rd"
  refine ⟨oa,oc,od,t1.1,?_⟩
  walk_at "rd"
  refine ⟨ob,oc,od,t1.2,?_⟩
  walk_at "rd"
  intro e he
  have PX:∀ v∈[oR a c d,oR b c d],v.length=3:=fun v hv=>by
   simp only [List.mem_cons,List.not_mem_nil,or_false] at hv
   rcases hv with rfl | rfl
   ·exact Vp
   ·exact Vq
  have WE:([oR a c d,oR b c d]:List (List Pl)).length=2:=rfl
  have eN: [tD (oR a c d),tD (oR b c d)]= [oR a c d,oR b c d].map tD:=rfl
  try rw [eN]
  generalize [oR a c d,oR b c d]=ns at *
  have hL:=ao (u:=MO.lst (ns.map tD)) hL he
  have ML:=Pa.trans (Le.new (o:=MO.lst (ns.map tD)) he)
  have hE:ay Ti e (.lst (ns.map tD)) e=some (.lst (ns.map tD)):=ai
  generalize ay Ti e (.lst (ns.map tD))=Tj at hL hE ML ⊢
  refine ⟨p6,e,_,_,rfl,rfl,hL,hE,by rw [List.length_map,List.length_map];omega,fun x hx=>?_⟩
  rw [← List.map_append]
  have Tn:∀ v∈fs ++ ns,v.length=3:=fun v hv=>by
   rcases List.mem_append.mp hv with hv | hv
   ·exact hT2 v hv
   ·exact PX v hv
  have l4:(fs ++ ns).length≤20:=by rw [List.length_append];omega
  generalize fs ++ ns=rs at Tn l4 fy ⊢
  have To:=ML.trans (Le.new (o:=MO.lst (rs.map tD)) hx)
  have hX:ay Tj x (.lst (rs.map tD)) x=some (.lst (rs.map tD)):=ai
  generalize ay Tj x (.lst (rs.map tD))=WG at hX To ⊢
  walk_at "rd"
  refine ⟨x,rs,rfl,hX,Tn,by omega,fun y vs hy bM hso=>?_⟩
  obtain ⟨c',d',_,hF⟩:=fy vs bM
  exact bq.mk ⟨_,Le.refl _,h y vs _ c' d' (To.trans (Le.new hy)) ai hF hso⟩
theorem tU (T:Txt K mg t):Binds K t.gH ["_law_cover","_law_cells"] []:=T.iL.binds fun _ _ _ _ _ _ us hl=>match us,hl with | [_,_],_=>rfl
/-- what holds of a cover Sf is Sh -/
def vA (Q:List Pl) (us:List (List Pl)):Prop:=dR Q us∧(Flat Q→us= [])∧(¬ Flat Q→Full Q us)∧us.Pairwise (fun p q=>c7 q p=false)
theorem A1 {Q:List Pl} {us vs:List (List Pl)} {a b c d:Pl} (h:vA Q us) (f:G2 us vs a b c d) (so:vs.Pairwise (fun p q=>c7 q p=false)):vA Q vs:=by
 have nf:¬ Flat Q:=fun fl=>by
  obtain ⟨t1,_,_,_,m1,_⟩:=f
  rw [h.2.1 fl] at m1
  cases m1
 exact ⟨f.Sa h.1 nf,fun fl=>absurd fl nf,fun _=>f.full (h.2.2.1 nf),so⟩
theorem Cg {Q:List Pl} {us:List (List Pl)} (bW:∀ t∈us,nF Q t) (ne:us≠[]) (z:Int):∃ t∈us,∃ x y,AZ us z= [lo x y,L3.hi x y]∧x≠y∧x∈t∧y∈t:=by
 have lp:0 < us.length:=List.length_pos_iff.mpr ne
 have i0:0≤z % (us.length:Int):=Int.emod_nonneg _ (by omega)
 have i1:z % (us.length:Int) < us.length:=Int.emod_lt_of_pos _ (by omega)
 obtain ⟨i,hi⟩:∃ i:Nat,z % (us.length:Int)=(i:Int):=⟨(z % (us.length:Int)).toNat,by omega⟩
 have li:i < us.length:=by omega
 have ht:us[i]?=some us[i]:=List.getElem?_eq_getElem li
 have mt:us[i]∈us:=List.getElem_mem li
 generalize us[i]=t at ht mt
 obtain ⟨a,b,c,rfl,p,ha,hb,hc,n1,n2,n3⟩:=(bW t mt).parts
 have Mb:AZ us z=MJ [a,b,c] (z / us.length % 3):=by
  unfold AZ
  rw [hi,Int.toNat_natCast,List.getD_eq_getElem?_getD,ht]
  rfl
 rw [Mb]
 refine ⟨_,mt,?_⟩
 unfold MJ
 dsimp only
 split
 ·exact ⟨a,c,rfl,n3.symm,by simp,by simp⟩
 ·split
  ·exact ⟨b,a,rfl,n1.symm,by simp,by simp⟩
  ·exact ⟨c,b,rfl,n2.symm,by simp,by simp⟩
def uD:vN:=fun ds M Q=> ∃ l e:Addr,ds= [.ref l,.ref e]∧∃ (ps:List Pl) (ts:List (List Pl)) (cs:List Int),M l=some (.lst (ts.map tD))∧M e=some (.lst (cs.map L3.D.int))∧vA ps ts∧(∀ q∈ps,q.Ok 140)∧ts.length≤20∧∀ (p:Addr) (us:List (List Pl)) (M':Mp),Le M M'→M' p=some (.lst (us.map tD))→vA ps us→us.length=ts.length→Q (.ref p) M'
theorem tV (T:Txt K mg t):bO P w K mg base fR 4 t.iH t.gH ["_law_cover","_law_cells"] (yb K uD):=by
 refine zZ T.iL cy (fun ds M Q h=>by (first | (obtain ⟨_,rfl,_⟩:=h;rfl) | (obtain ⟨_,_,rfl,_⟩:=h;rfl) | (obtain ⟨_,_,_,rfl,_⟩:=h;rfl) | (obtain ⟨_,_,_,_,rfl,_⟩:=h;rfl) | (obtain ⟨_,_,_,_,_,rfl,_⟩:=h;rfl) | (obtain ⟨_,_,_,_,_,_,rfl,_⟩:=h;rfl) | (obtain ⟨_,_,_,_,_,_,_,rfl,_⟩:=h;rfl))) (fun cdv A outer s H hr=>?_)
 have hu:=hr.units
 refine ⟨_,(av (oK PassesOwn.never rfl (aa 1) (cB (i:=2) cy.nd rfl (Or.inl rfl)) (aC (dF (aU (Lp hu) (aa 0) (dU aj) (aJ _)) (av (Bv (cg (nY T) (hr.mono (by decide)) (by rfl) T.p8 T.gZ.kp (nX T) (af (aa 0) (af (aa 2) aj))) (EC rfl (je (cB (i:=3) cy.nd rfl (Or.inl rfl)) (je (cB (i:=4) cy.nd rfl (Or.inl rfl)) zX))))
  (av (aV (i:=5) cy.nd rfl (Or.inl rfl) (cg (jC T) (hr.mono (by decide)) (by rfl) T.kF T.dJ.kp (jB T) (af (aa 0) (af (aa 3) (af (aa 4) aj)))))
  (aC (dF (aU Lq (aa 5) Br (aJ _)) (aC (aV (i:=0) cy.nd rfl (Or.inl rfl) (aa 5))) bS)))) bS)))
  (aC (aM (aa 0)))),fun ds M Q h=>?_⟩
 obtain ⟨l,e,rfl,ps,ts,cs,hM,hE,hI,ho,lt,h⟩:=h
 have sl:(1000:Nat) < sizeLine:=by decide
 walk_at "rd"
 refine ⟨e,_,rfl,hE,?_⟩
 refine cC (fun i ρ M'=> ∃ (q:Addr) (us:List (List Pl)) (y1 y2 y3 y4:Option L3.D),ρ= [some (.ref q),some (.ref e),y1,y2,y3,y4]∧Le M M'∧M' q=some (.lst (us.map tD))∧vA ps us∧us.length=ts.length) _ ?_ ?_ ⟨l,ts,_,_,_,_,rfl,Le.refl _,hM,hI,rfl⟩
 ·rintro i v ρ M' N PY ⟨q,us,y1,y2,y3,y4,rfl,le,hU,hI,lu⟩ hN
  obtain ⟨z,rfl⟩:∃ z:Int,v= .int z:=by
   rw [List.getElem?_map,Option.map_eq_some_iff] at PY
   obtain ⟨z,_,e2⟩:=PY
   exact ⟨z,e2.symm⟩
  refine ⟨le _ _ hE,?_⟩
  walk_at "rd"
  intro o Si
  refine ⟨_,_,.of (ao hU Si),.of ai,gA _,rfl,?_⟩
  rw [E3]
  have le:=le.trans (Le.new (o:=MO.lst []) Si)
  have hU:=ao (u:=MO.lst []) hU Si
  generalize ay M' o (.lst [])=M1 at hU le ⊢
  by_cases es:us= []
  ·have en:(us.map tD).isEmpty=true:=by rw [es];rfl
   rw [en]
   walk_at "rd"
   exact hN _ _ ⟨q,us,_,_,_,_,rfl,le,hU,hI,lu⟩
  have en:(us.map tD).isEmpty=false:=by
   cases e2:us with
   | nil=>exact absurd e2 es
   | cons q0 qr=>rfl
  rw [en]
  walk_at "rd"
  refine ⟨ps,us,hU,hI.1.bW,ho,es,by omega,?_⟩
  obtain ⟨t,ht,x,y,Mb,Tp,mx,my⟩:=Cg hI.1.bW es z
  rw [Mb]
  walk_at "rd"
  refine ⟨ps,us,hU,hI.1,ho,by omega,fun _=>?_,fun p2 vs M2 c d Cf hV hF hso=>?_⟩
  ·walk_at "rd"
   exact hN _ _ ⟨q,us,_,_,_,_,rfl,le,hU,hI,lu⟩
  ·walk_at "rd"
   exact hN _ _ ⟨p2,vs,_,_,_,_,rfl,le.trans Cf,hV,A1 hI hF hso,(hF.len hI.1).trans lu⟩
 ·rintro ρ M' ⟨q,us,y1,y2,y3,y4,rfl,le,hU,hI,lu⟩
  refine ⟨le _ _ hE,?_⟩
  walk_at "rd"
  exact bq.mk ⟨_,Le.refl _,h q us M' le hU hI lu⟩
theorem xw (T:Txt K mg t):Binds K t.wR ["number"] []:=T.tE.binds fun _ _ _ _ _ _ us hl=>match us,hl with | [_],_=>rfl
def Mf:rA:=fun ds Q=> ∃ i:Int,ds= [.int i]∧Q (.int i.sign)
theorem xx (T:Txt K mg t):bO P w K mg base fR 1 t.AM t.wR ["number"] (qL K Mf):=by
 refine vO T.tE Jg (fun ds Q h=>by (first | (obtain ⟨_,rfl,_⟩:=h;rfl) | (obtain ⟨_,_,rfl,_⟩:=h;rfl) | (obtain ⟨_,_,_,rfl,_⟩:=h;rfl) | (obtain ⟨_,_,_,_,rfl,_⟩:=h;rfl) | (obtain ⟨_,_,_,_,_,rfl,_⟩:=h;rfl) | (obtain ⟨_,_,_,_,_,_,rfl,_⟩:=h;rfl) | (obtain ⟨_,_,_,_,_,_,_,rfl,_⟩:=h;rfl))) (fun cdv A outer s H hr=>?_)
 have hu:=hr.units
 refine ⟨_,(av (dF (aU Ep (aa 0) ah (aJ _)) (aC (aM ah)) bS)
  (av (dF (aU (uO hu) (aa 0) ah (aJ _)) (aC (aM (eZ ah))) bS)
  (aC (aM ah)))),fun ds Q h=>?_⟩
 obtain ⟨i,rfl,h⟩:=h
 walk_at "rd"
 refine cJ (fun c=>?_) (fun c=>?_)
 ·have c:0 < i:=of_decide_eq_true c
  rw [Int.sign_eq_one_of_pos c] at h
  exact h
 ·have c:¬ 0 < i:=fun z=>c (decide_eq_true z)
  walk_at "rd"
  refine cJ (fun e=>?_) (fun e=>?_)
  ·have e:i < 0:=of_decide_eq_true e
   rw [Int.sign_eq_neg_one_of_neg e] at h
   walk_at "rd"
   exact h
  ·have e:¬ i < 0:=fun z=>e (decide_eq_true z)
   have z:i=0:=by omega
   subst z
   exact h
theorem kL (T:Txt K mg t):Binds K t.sU ["a","b","c"] []:=T.jr.binds fun _ _ _ _ _ _ us hl=>match us,hl with | [_,_,_],_=>rfl
def Jk:rA:=fun ds Q=> ∃ a b c:Pl,ds= [a.d,b.d,c.d]∧a.Ok 140∧b.Ok 140∧c.Ok 140∧Q (.int (tw a b c))
theorem kM (T:Txt K mg t):bO P w K mg base fR 1 t.wU t.sU ["a","b","c"] (qL K Jk):=by
 refine vO T.jr GP (fun ds Q h=>by (first | (obtain ⟨_,rfl,_⟩:=h;rfl) | (obtain ⟨_,_,rfl,_⟩:=h;rfl) | (obtain ⟨_,_,_,rfl,_⟩:=h;rfl) | (obtain ⟨_,_,_,_,rfl,_⟩:=h;rfl) | (obtain ⟨_,_,_,_,_,rfl,_⟩:=h;rfl) | (obtain ⟨_,_,_,_,_,_,rfl,_⟩:=h;rfl) | (obtain ⟨_,_,_,_,_,_,_,rfl,_⟩:=h;rfl))) (fun cdv A outer s H hr=>?_)
 have hu:=hr.units
 refine ⟨_,(aC (aM (au bY (au cO (au bY (az (aa 1) ah) (az (aa 0) ah)) (au bY (az (aa 2) ah) (az (aa 0) ah))) (au cO (au bY (az (aa 1) ah) (az (aa 0) ah)) (au bY (az (aa 2) ah) (az (aa 0) ah)))))),fun ds Q h=>?_⟩
 obtain ⟨a,b,c,rfl,⟨a1,a2⟩,⟨b1,b2⟩,⟨c1,c2⟩,h⟩:=h
 unfold tw at h
 walk_at "rd"
 exact h
theorem nZ (T:Txt K mg t):Binds K t.wV ["a","b","c"] []:=T.mH.binds fun _ _ _ _ _ _ us hl=>match us,hl with | [_,_,_],_=>rfl
def Mg:rA:=fun ds Q=> ∃ a b c:Pl,ds= [a.d,b.d,c.d]∧a.Ok 140∧b.Ok 140∧c.Ok 140∧Q (.int (tw a b c).sign)
theorem n8 (T:Txt K mg t):bO P w K mg base fR 2 t.AN t.wV ["a","b","c"] (qL K Mg):=by
 refine vO T.mH Jh (fun ds Q h=>by (first | (obtain ⟨_,rfl,_⟩:=h;rfl) | (obtain ⟨_,_,rfl,_⟩:=h;rfl) | (obtain ⟨_,_,_,rfl,_⟩:=h;rfl) | (obtain ⟨_,_,_,_,rfl,_⟩:=h;rfl) | (obtain ⟨_,_,_,_,_,rfl,_⟩:=h;rfl) | (obtain ⟨_,_,_,_,_,_,rfl,_⟩:=h;rfl) | (obtain ⟨_,_,_,_,_,_,_,rfl,_⟩:=h;rfl))) (fun cdv A outer s H hr=>?_)
 have hu:=hr.units
 refine ⟨_,(aC (aM (aF (xx T) (hr.mono (by decide)) (by rfl) T.AS T.tE.kp (xw T) (af (aF (kM T) (hr.mono (by decide)) (by rfl) T.nS T.jr.kp (kL T) (af (aa 0) (af (aa 1) (af (aa 2) aj)))) aj)))),fun ds Q h=>?_⟩
 obtain ⟨a,b,c,rfl,ha,hb,hc,h⟩:=h
 walk_at "rd"
 refine ⟨ha,hb,hc,?_⟩
 walk_at "rd"
 exact h
theorem jD (T:Txt K mg t):Binds K t.fF ["line"] []:=T.dM.binds fun _ _ _ _ _ _ us hl=>match us,hl with | [_],_=>rfl
def tW:vN:=fun ds M Q=> ∃ (l:Addr) (ps:List Pl),ds= [.ref l]∧M l=some (.lst (ps.map Pl.d))∧ps.length≤1000∧(∀ q∈ps,q.Ok 140)∧∀ p,M p=none→Q (.ref p) (ay M p (.lst ((ps.foldl aN []).reverse.map Pl.d)))
theorem jE (T:Txt K mg t):bO P w K mg base fR 3 t.gI t.fF ["line"] (yb K tW):=by
 refine zZ T.dM fL (fun ds M Q h=>by (first | (obtain ⟨_,rfl,_⟩:=h;rfl) | (obtain ⟨_,_,rfl,_⟩:=h;rfl) | (obtain ⟨_,_,_,rfl,_⟩:=h;rfl) | (obtain ⟨_,_,_,_,rfl,_⟩:=h;rfl) | (obtain ⟨_,_,_,_,_,rfl,_⟩:=h;rfl) | (obtain ⟨_,_,_,_,_,_,rfl,_⟩:=h;rfl) | (obtain ⟨_,_,_,_,_,_,_,rfl,_⟩:=h;rfl))) (fun cdv A outer s H hr=>?_)
 have hu:=hr.units
 refine ⟨_,(av (aV (i:=1) fL.nd rfl (Or.inl rfl) (dU aj))
  (av (oK PassesOwn.never rfl (aa 0) (cB (i:=2) fL.nd rfl (Or.inl rfl)) (av (HM PassesOwn.never (qH.pt (qZ (aU Ep (bN gU (by rfl) T.dN bu (af (aa 1) aj)) ah (aJ _)) (lW (aU (oF hu) (aF (n8 T) (hr.mono (by decide)) (by rfl) T.tF T.mH.kp (nZ T) (af (az (aa 1) (eZ ah)) (af (az (aa 1) (eZ ah)) (af (aa 2) aj)))) (eZ ah) (aJ _))))) (aC (oH (OB (aa 1) (KN PySem.F.plainAttrs_list PySem.F.slot_list_pop PySem.F.type_list_pop KP (bZ.dn (aa 1)))))))
  (aC (oH (EG (aa 1) (aa 2) (xY PySem.F.plainAttrs_list PySem.F.slot_list_append PySem.F.type_list_append kW (bZ.dn (aa 1)) (kT (bZ.dn (aa 2)) oA)))))))
  (aC (aM (aa 1))))),fun ds M Q h=>?_⟩
 obtain ⟨l,ps,rfl,hM,hlen,ho,h⟩:=h
 walk_at "rd"
 intro p hp
 have hl:∀ o,ay M p o l=some (.lst (ps.map Pl.d)):=fun o=>ao hM hp
 walk_at "rd"
 refine ⟨l,_,rfl,hl _,?_⟩
 refine cC (fun i ρ M'=>M'=ay M p (.lst (((ps.take i).foldl aN []).reverse.map Pl.d))∧∃ y:Option L3.D,ρ= [some (.ref l),some (.ref p),y]) _ ?_ ?_ ⟨rfl,_,rfl⟩
 ·rintro i x ρ M' N hx ⟨rfl,y,rfl⟩ hN
  obtain ⟨d,hd,rfl⟩:=oN hx
  have od:=ho d (List.mem_of_getElem? hd)
  have Vr:∀ q∈(ps.take i).foldl aN [],q.Ok 140:=fun q hq=>ho q (List.mem_of_mem_take (oV _ q hq))
  have lst:=dY (ps.take i)
  have eN:=Am hd
  have lt:(ps.take i).length≤1000:=by rw [List.length_take];omega
  generalize hst:(ps.take i).foldl aN []=st at *
  refine ⟨hl _,?_⟩
  walk_at "rd"
  refine ⟨fun m ρ M'=> ∃ st':List Pl,M'=ay M p (.lst (st'.reverse.map Pl.d))∧ρ= [some (.ref l),some (.ref p),some d.d]∧m=st'.length∧iR st' d=iR st d∧(∀ q∈st',q.Ok 140)∧st'.length≤1000,⟨_,st,rfl,rfl,rfl,rfl,Vr,by omega⟩,?_⟩
  rintro m ρ M' ⟨st',rfl,rfl,rfl,ep,os,ls⟩
  walk_at "rd"
  refine ⟨_,_,rfl,.inr (.inr ⟨p,rfl,ai⟩),?_⟩
  walk_at "rd"
  rw [List.length_map,List.length_reverse]
  refine cJ (fun c=>?_) (fun c=>?_)
  ·have c:(1:Int) < (st'.length:Int):=of_decide_eq_true c
   obtain ⟨b,a,r,rfl⟩:∃ b a r,st'=b :: a :: r:=by
    match st',c with
    | b :: a :: r,_=>exact ⟨b,a,r,rfl⟩
    | [x],c=>exact absurd c (by show ¬ (1:Int) < 1;decide)
    | [],c=>exact absurd c (by decide)
   walk_at "rd"
   refine ⟨_,_,a.d,.inr (.inr ⟨p,rfl,ai⟩),rfl,C5 b a r,?_⟩
   walk_at "rd"
   refine ⟨_,_,b.d,.inr (.inr ⟨p,rfl,ai⟩),rfl,C4 b _,?_⟩
   walk_at "rd"
   refine ⟨os a (by simp),os b (by simp),od,?_⟩
   walk_at "rd"
   rw [cA]
   refine cJ (fun k=>?_) (fun k=>?_)
   ·have k:=eq_of_beq k
    have k:tw a b d < 0:=Int.sign_eq_neg_one_iff_neg.mp k
    walk_at "rd"
    refine ⟨p,_,b.d,rfl,by rw [List.reverse_cons,List.map_append];exact ai,?_⟩
    rw [mU]
    exact bq.mk ⟨_,Nat.lt_succ_self _,a :: r,rfl,rfl,rfl,by rw [← ep,Fl k],fun q hq=>os q (List.mem_cons_of_mem _ hq),by simp only [List.length_cons] at ls ⊢;omega⟩
   ·have k:¬ tw a b d < 0:=fun z=>k (by rw [Int.sign_eq_neg_one_of_neg z];rfl)
    have ez:=Fo (r:=r) k
    generalize b :: a :: r=st' at *
    walk_at "rd"
    refine ⟨⟨p,_,rfl,ai⟩,?_⟩
    walk_at "rd"
    refine ⟨p,_,rfl,ai,?_,?_⟩
    ·rw [List.length_map,List.length_reverse]
     have:(1000:Nat) < sizeLine:=by decide
     omega
    ·rw [mU]
     refine hN _ _ ⟨?_,_,rfl⟩
     have e:aN st d=d :: st':=by
      show d :: iR st d=_
      rw [← ep,ez]
     rw [eN,e,List.reverse_cons,List.map_append]
     rfl
  ·have c:¬ (1:Int) < (st'.length:Int):=fun z=>c (decide_eq_true z)
   have ez:iR st' d=st':=by
    match st',c with
    | [],_=>rfl
    | [_],_=>rfl
    | b :: a :: r,c=>exact absurd (show (1:Int) < ((b :: a :: r).length:Int) by simp only [List.length_cons];omega) c
   walk_at "rd"
   refine ⟨⟨p,_,rfl,ai⟩,?_⟩
   walk_at "rd"
   refine ⟨p,_,rfl,ai,?_,?_⟩
   ·rw [List.length_map,List.length_reverse]
    have:(1000:Nat) < sizeLine:=by decide
    omega
   ·rw [mU]
    refine hN _ _ ⟨?_,_,rfl⟩
    have e:aN st d=d :: st':=by
     show d :: iR st d=_
     rw [← ep,ez]
    rw [eN,e,List.reverse_cons,List.map_append]
    rfl
 ·rintro ρ M' ⟨rfl,y,rfl⟩
  refine ⟨hl _,?_⟩
  walk_at "rd"
  refine bq.mk ⟨_,Le.refl _,?_⟩
  rw [List.length_map,List.take_length]
  exact h p hp
theorem A2 (T:Txt K mg t):Binds K t.mD ["places"] []:=T.pF.binds fun _ _ _ _ _ _ us hl=>match us,hl with | [_],_=>rfl
def DO:vN:=fun ds M Q=> ∃ (l:Addr) (ps:List Pl),ds= [.ref l]∧M l=some (.lst (ps.map Pl.d))∧ps.length < 64∧(∀ q∈ps,q.Ok 140)∧∀ (p:Addr) (qs:List Pl),M p=none→qs.Perm ps→qs.Pairwise (fun p q=> ¬ aI q p)→Q (.ref p) (ay M p (.lst ((bJ qs).map Pl.d)))
theorem A3 (T:Txt K mg t):bO P w K mg base fR 4 t.pq t.mD ["places"] (yb K DO):=by
 refine zZ T.pF jv (fun ds M Q h=>by (first | (obtain ⟨_,rfl,_⟩:=h;rfl) | (obtain ⟨_,_,rfl,_⟩:=h;rfl) | (obtain ⟨_,_,_,rfl,_⟩:=h;rfl) | (obtain ⟨_,_,_,_,rfl,_⟩:=h;rfl) | (obtain ⟨_,_,_,_,_,rfl,_⟩:=h;rfl) | (obtain ⟨_,_,_,_,_,_,rfl,_⟩:=h;rfl) | (obtain ⟨_,_,_,_,_,_,_,rfl,_⟩:=h;rfl))) (fun cdv A outer s H hr=>?_)
 have hu:=hr.units
 refine ⟨_,(av (aV (i:=1) jv.nd rfl (Or.inl rfl) (bN j4 (by rfl) T.cW bE (af (aa 0) aj)))
  (av (dF (aU (uO hu) (bN gU (by rfl) T.dN bu (af (aa 1) aj)) ah (aJ _)) (aC (aM (aa 1))) bS)
  (av (aV (i:=2) jv.nd rfl (Or.inl rfl) (cg (jE T) (hr.mono (by decide)) (by rfl) T.kG T.dM.kp (jD T) (af (aa 1) aj)))
  (av (aV (i:=3) jv.nd rfl (Or.inl rfl) (cg (jE T) (hr.mono (by decide)) (by rfl) T.kG T.dM.kp (jD T) (af (CW (by rfl) (by rfl) T.nU (by rfl) T.zj (aa 1)) aj)))
  (aC (aM (au yi (e9 (aa 2) EZ (gu (eZ ah))) (e9 (aa 3) EZ (gu (eZ ah)))))))))),fun ds M Q h=>?_⟩
 obtain ⟨l,ps,rfl,hM,h64,ho,h⟩:=h
 walk_at "rd"
 refine ⟨l,ps,rfl,hM,h64,fun p qs hp bM i6=>?_⟩
 have oq:∀ q∈qs,q.Ok 140:=fun q hq=>ho q (bM.mem_iff.mp hq)
 have lq:qs.length < 64:=by rw [bM.length_eq];exact h64
 walk_at "rd"
 refine ⟨_,_,rfl,.inr (.inr ⟨p,rfl,ai⟩),?_⟩
 walk_at "rd"
 rw [List.length_map]
 refine cJ (fun c=>?_) (fun c=>?_)
 ·have c:(qs.length:Int) < 2:=of_decide_eq_true c
  have e:bJ qs=qs:=by unfold bJ;rw [if_pos (by omega)]
  have q:=h p qs hp bM i6
  rw [e] at q
  walk_at "rd"
  exact bq.mk ⟨_,Le.refl _,q⟩
 ·have c:¬ (qs.length:Int) < 2:=fun z=>c (decide_eq_true z)
  have h':∀ r,M r=none→Q (.ref r) (ay M r (.lst ((bJ qs).map Pl.d))):=fun r hr=>h r qs hr bM i6
  walk_at "rd"
  refine ⟨p,qs,rfl,ai,by omega,oq,fun p1 hp1=>?_⟩
  walk_at "rd"
  have e:bJ qs=(qs.foldl aN []).reverse.dropLast ++ (qs.reverse.foldl aN []).reverse.dropLast:=by unfold bJ;rw [if_neg (by omega)]
  rw [e] at h'
  have lt:(qs.foldl aN []).reverse.length≤64:=by
   have:=dY qs
   rw [List.length_reverse];omega
  have lh:(qs.reverse.foldl aN []).reverse.length≤64:=by
   have:=dY qs.reverse
   rw [List.length_reverse] at this ⊢;omega
  generalize (qs.foldl aN []).reverse=th at *
  have hQ:ay (ay M p (.lst (qs.map Pl.d))) p1 (.lst (th.map Pl.d)) p=some (.lst (qs.map Pl.d)):=ao ai hp1
  have hT:ay (ay M p (.lst (qs.map Pl.d))) p1 (.lst (th.map Pl.d)) p1=some (.lst (th.map Pl.d)):=ai
  have le:=(Le.new (o:= .lst (qs.map Pl.d)) hp).trans (Le.new (o:= .lst (th.map Pl.d)) hp1)
  generalize ay (ay M p (.lst (qs.map Pl.d))) p1 (.lst (th.map Pl.d))=M2 at hQ hT le ⊢
  refine ⟨_,.of hQ,fun p2 hp2=>?_⟩
  rw [← List.map_reverse]
  have hT2:=ao (u:=MO.lst (qs.reverse.map Pl.d)) hT hp2
  have Cf:=le.trans (Le.new (o:= .lst (qs.reverse.map Pl.d)) hp2)
  have hR:ay M2 p2 (.lst (qs.reverse.map Pl.d)) p2=some (.lst (qs.reverse.map Pl.d)):=ai
  generalize ay M2 p2 (.lst (qs.reverse.map Pl.d))=M3 at hT2 Cf hR ⊢
  refine ⟨p2,qs.reverse,rfl,hR,by rw [List.length_reverse];omega,fun q hq=>oq q (List.mem_reverse.mp hq),fun p3 hp3=>?_⟩
  have WH:th.length≤64:=by omega
  generalize (qs.reverse.foldl aN []).reverse=hm at *
  have PX:=ao (u:=MO.lst (hm.map Pl.d)) hT2 hp3
  have A0:=Cf.trans (Le.new (o:= .lst (hm.map Pl.d)) hp3)
  have hH:ay M3 p3 (.lst (hm.map Pl.d)) p3=some (.lst (hm.map Pl.d)):=ai
  generalize ay M3 p3 (.lst (hm.map Pl.d))=M4 at PX A0 hH ⊢
  walk_at "rd"
  refine ⟨_,.of PX,fun p4 G5=>?_⟩
  rw [yu]
  have Tq:=ao (u:=MO.lst (th.dropLast.map Pl.d)) hH G5
  have Pa:=A0.trans (Le.new (o:= .lst (th.dropLast.map Pl.d)) G5)
  have hA:ay M4 p4 (.lst (th.dropLast.map Pl.d)) p4=some (.lst (th.dropLast.map Pl.d)):=ai
  generalize ay M4 p4 (.lst (th.dropLast.map Pl.d))=M5 at Tq Pa hA ⊢
  walk_at "rd"
  refine ⟨_,.of Tq,fun p5 MK=>?_⟩
  rw [yu]
  have Tt:=ao (u:=MO.lst (hm.dropLast.map Pl.d)) hA MK
  have ML:=Pa.trans (Le.new (o:= .lst (hm.dropLast.map Pl.d)) MK)
  have hB:ay M5 p5 (.lst (hm.dropLast.map Pl.d)) p5=some (.lst (hm.dropLast.map Pl.d)):=ai
  generalize ay M5 p5 (.lst (hm.dropLast.map Pl.d))=M6 at Tt ML hB ⊢
  refine ⟨p4,p5,_,_,rfl,rfl,Tt,hB,?_,fun p6 PV=>?_⟩
  ·rw [List.length_map,List.length_map,List.length_dropLast,List.length_dropLast]
   have:(1000:Nat) < sizeLine:=by decide
   omega
  ·rw [← List.map_append]
   exact bq.mk ⟨_,ML.put,h' p6 (ML.free PV)⟩
theorem pJ (T:Txt K mg t):Binds K t.eB ["places"] []:=T.fK.binds fun _ _ _ _ _ _ us hl=>match us,hl with | [_],_=>rfl
def qw:vN:=fun ds M Q=> ∃ (l:Addr) (ps:List Pl),ds= [.ref l]∧M l=some (.lst (ps.map Pl.d))∧ps.length < 64∧(∀ q∈ps,q.Ok 140)∧∀ (p:Addr) (qs:List Pl),M p=none→qs.Perm ps→qs.Pairwise (fun p q=> ¬ aI q p)→Q (.ref p) (ay M p (.lst ((cD (bJ qs)).map tD)))
theorem pK (T:Txt K mg t):bO P w K mg base fR 5 t.fG t.eB ["places"] (yb K qw):=by
 refine zZ T.fK iW (fun ds M Q h=>by (first | (obtain ⟨_,rfl,_⟩:=h;rfl) | (obtain ⟨_,_,rfl,_⟩:=h;rfl) | (obtain ⟨_,_,_,rfl,_⟩:=h;rfl) | (obtain ⟨_,_,_,_,rfl,_⟩:=h;rfl) | (obtain ⟨_,_,_,_,_,rfl,_⟩:=h;rfl) | (obtain ⟨_,_,_,_,_,_,rfl,_⟩:=h;rfl) | (obtain ⟨_,_,_,_,_,_,_,rfl,_⟩:=h;rfl))) (fun cdv A outer s H hr=>?_)
 have hu:=hr.units
 refine ⟨_,(av (aV (i:=1) iW.nd rfl (Or.inl rfl) (cg (A3 T) (hr.mono (by decide)) (by rfl) T.DL T.pF.kp (A2 T) (af (aa 0) aj)))
  (av (dF (aU (uO hu) (bN gU (by rfl) T.dN bu (af (aa 1) aj)) ah (aJ _)) (aC (aM (dU aj))) bS)
  (aC (aM (C0 (by rfl) (by rfl) T.nU (by rfl) T.L6 (af (aa 1) (af (au yi (e9 (aa 1) (gu ah) EZ) (e9 (aa 1) EZ (gu ah))) aj))))))),fun ds M Q h=>?_⟩
 obtain ⟨l,ps,rfl,hM,h64,ho,h⟩:=h
 walk_at "rd"
 refine ⟨l,ps,rfl,hM,h64,ho,fun p qs hp bM i6=>?_⟩
 have h':∀ r,M r=none→Q (.ref r) (ay M r (.lst ((cD (bJ qs)).map tD))):=fun r hr=>h r qs hr bM i6
 have lo:(bJ qs).length≤200:=by
  have l1:=dY qs
  have l2:=dY qs.reverse
  have l3:=bM.length_eq
  rw [List.length_reverse] at l2
  unfold bJ
  split
  ·omega
  ·rw [List.length_append,List.length_dropLast,List.length_dropLast,List.length_reverse,List.length_reverse]
   omega
 generalize bJ qs=bd at *
 walk_at "rd"
 refine ⟨_,_,rfl,.inr (.inr ⟨p,rfl,ai⟩),?_⟩
 walk_at "rd"
 rw [List.length_map]
 refine cJ (fun c=>?_) (fun c=>?_)
 ·have c:(bd.length:Int) < 2:=of_decide_eq_true c
  walk_at "rd"
  intro r hr
  have q:=h' r ((Le.new hp).free hr)
  unfold cD at q
  rw [if_pos (by omega)] at q
  exact bq.mk ⟨_,(Le.new hp).put,q⟩
 ·have c:¬ (bd.length:Int) < 2:=fun z=>c (decide_eq_true z)
  walk_at "rd"
  have le:=Le.new (o:= .lst (bd.map Pl.d)) hp
  have hB:ay M p (.lst (bd.map Pl.d)) p=some (.lst (bd.map Pl.d)):=ai
  generalize ay M p (.lst (bd.map Pl.d))=M1 at hB le ⊢
  refine ⟨_,.of hB,fun p1 hp1=>?_⟩
  have Vs:cutD (bd.map Pl.d) (some 1) none=(bd.drop 1).map Pl.d:=E4 Pl.d bd 1 (by omega)
  have Se:cutD (bd.map Pl.d) none (some 1)=(bd.take 1).map Pl.d:=yv Pl.d bd 1 (by omega)
  rw [Vs]
  have Sj:=ao (u:=MO.lst ((bd.drop 1).map Pl.d)) hB hp1
  have G4:=le.trans (Le.new (o:= .lst ((bd.drop 1).map Pl.d)) hp1)
  have hA:ay M1 p1 (.lst ((bd.drop 1).map Pl.d)) p1=some (.lst ((bd.drop 1).map Pl.d)):=ai
  generalize ay M1 p1 (.lst ((bd.drop 1).map Pl.d))=M2 at Sj G4 hA ⊢
  walk_at "rd"
  refine ⟨_,.of Sj,fun p2 hp2=>?_⟩
  rw [Se]
  have hB2:=ao (u:=MO.lst ((bd.take 1).map Pl.d)) Sj hp2
  have Tu:=ao (u:=MO.lst ((bd.take 1).map Pl.d)) hA hp2
  have Cf:=G4.trans (Le.new (o:= .lst ((bd.take 1).map Pl.d)) hp2)
  have hC:ay M2 p2 (.lst ((bd.take 1).map Pl.d)) p2=some (.lst ((bd.take 1).map Pl.d)):=ai
  generalize ay M2 p2 (.lst ((bd.take 1).map Pl.d))=M3 at hB2 Tu Cf hC ⊢
  refine ⟨p1,p2,_,_,rfl,rfl,Tu,hC,?_,fun p3 hp3=>?_⟩
  ·rw [List.length_map,List.length_map,List.length_drop,List.length_take]
   have:(1000:Nat) < sizeLine:=by decide
   omega
  rw [← List.map_append]
  have O9:=ao (u:=MO.lst ((bd.drop 1 ++ bd.take 1).map Pl.d)) hB2 hp3
  have A0:=Cf.trans (Le.new (o:= .lst ((bd.drop 1 ++ bd.take 1).map Pl.d)) hp3)
  have hE:ay M3 p3 (.lst ((bd.drop 1 ++ bd.take 1).map Pl.d)) p3=some (.lst ((bd.drop 1 ++ bd.take 1).map Pl.d)):=ai
  generalize ay M3 p3 (.lst ((bd.drop 1 ++ bd.take 1).map Pl.d))=M4 at O9 A0 hE ⊢
  refine ⟨p,p3,_,_,rfl,O9,hE,fun p4 G5=>?_⟩
  have q:=h' p4 (A0.free G5)
  unfold cD at q
  rw [if_neg (by omega)] at q
  have ez:=u7 bd (bd.drop 1 ++ bd.take 1)
  rw [show ((List.zipWith (fun p q=>[p,q]) bd (bd.drop 1 ++ bd.take 1)).map tD)=_ from ez] at q
  exact bq.mk ⟨_,A0.put,q⟩
theorem kN (T:Txt K mg t):Binds K t.gJ ["a","b","c"] []:=T.eU.binds fun _ _ _ _ _ _ us hl=>match us,hl with | [_,_,_],_=>rfl
def uE:rA:=fun ds Q=> ∃ a b c:Pl,ds= [a.d,b.d,c.d]∧a.Ok 140∧b.Ok 140∧c.Ok 140∧tw a b c≠0∧Q (tD (oR a b c))
theorem kO (T:Txt K mg t):bO P w K mg base fR 3 t.iI t.gJ ["a","b","c"] (qL K uE):=by
 refine vO T.eU kK (fun ds Q h=>by (first | (obtain ⟨_,rfl,_⟩:=h;rfl) | (obtain ⟨_,_,rfl,_⟩:=h;rfl) | (obtain ⟨_,_,_,rfl,_⟩:=h;rfl) | (obtain ⟨_,_,_,_,rfl,_⟩:=h;rfl) | (obtain ⟨_,_,_,_,_,rfl,_⟩:=h;rfl) | (obtain ⟨_,_,_,_,_,_,rfl,_⟩:=h;rfl) | (obtain ⟨_,_,_,_,_,_,_,rfl,_⟩:=h;rfl))) (fun cdv A outer s H hr=>?_)
 have hu:=hr.units
 refine ⟨_,(av (aV (i:=3) kK.nd rfl (Or.inl rfl) (bN j4 (by rfl) T.cW bE (af (dU (af (aa 0) (af (aa 1) (af (aa 2) aj)))) aj)))
  (av (dF (aU (oF hu) (aF (n8 T) (hr.mono (by decide)) (by rfl) T.tF T.mH.kp (nZ T) (af (az (aa 3) ah) (af (az (aa 3) ah) (af (az (aa 3) ah) aj)))) ah (aJ _)) (aC (aM (bD (af (az (aa 3) ah) (af (az (aa 3) ah) (af (az (aa 3) ah) aj)))))) bS)
  (aC (aM (bD (af (az (aa 3) ah) (af (az (aa 3) ah) (af (az (aa 3) ah) aj)))))))),fun ds Q h=>?_⟩
 obtain ⟨a,b,c,rfl,ha,hb,hc,hn,h⟩:=h
 walk_at "rd"
 intro l hl
 refine ⟨l,[a,b,c],rfl,ai,by show 3 < 64;decide,fun p qs hp bM i6=>?_⟩
 obtain ⟨u,v,w,rfl⟩:=iQ bM.length_eq
 obtain ⟨ou,ov,ow⟩:=rL bM ha hb hc
 rw [rS hn bM i6] at h
 walk_at "rd"
 refine ⟨_,_,_,.inr (.inr ⟨p,rfl,ai⟩),rfl,rfl,?_⟩
 walk_at "rd"
 refine ⟨_,_,_,.inr (.inr ⟨p,rfl,ai⟩),rfl,rfl,?_⟩
 walk_at "rd"
 refine ⟨_,_,_,.inr (.inr ⟨p,rfl,ai⟩),rfl,rfl,?_⟩
 walk_at "rd"
 refine ⟨ou,ov,ow,?_⟩
 walk_at "rd"
 refine cJ (fun k=>?_) (fun k=>?_)
 ·rw [if_pos (Lv k)] at h
  walk_at "rd"
  refine ⟨_,_,_,.inr (.inr ⟨p,rfl,ai⟩),rfl,rfl,?_⟩
  walk_at "rd"
  refine ⟨_,_,_,.inr (.inr ⟨p,rfl,ai⟩),rfl,rfl,?_⟩
  walk_at "rd"
  refine ⟨_,_,_,.inr (.inr ⟨p,rfl,ai⟩),rfl,rfl,?_⟩
  walk_at "rd"
  exact h
 ·rw [if_neg (Ik k)] at h
  walk_at "rd"
  refine ⟨_,_,_,.inr (.inr ⟨p,rfl,ai⟩),rfl,rfl,?_⟩
  walk_at "rd"
  refine ⟨_,_,_,.inr (.inr ⟨p,rfl,ai⟩),rfl,rfl,?_⟩
  walk_at "rd"
  refine ⟨_,_,_,.inr (.inr ⟨p,rfl,ai⟩),rfl,rfl,?_⟩
  walk_at "rd"
  exact h
theorem GQ (T:Txt K mg t):Binds K t.sV ["places"] []:=T.w5.binds fun _ _ _ _ _ _ us hl=>match us,hl with | [_],_=>rfl
theorem Ci {w:List Pl}:∀ {as bs:List Pl},w∈List.zipWith (fun p q=>[p,q]) as bs→∃ a∈as,∃ b∈bs,w= [a,b]
 | [],_,h=>by simp at h
 | a :: as,[],h=>by simp at h
 | a :: as,b :: bs,h=>by
   rw [List.zipWith_cons_cons] at h
   rcases List.mem_cons.mp h with h | h
   ·exact ⟨a,by simp,b,by simp,h⟩
   ·obtain ⟨x,hx,y,hy,e⟩:=Ci h
    exact ⟨x,List.mem_cons_of_mem _ hx,y,List.mem_cons_of_mem _ hy,e⟩
theorem zx {qs:List Pl} {q:Pl} (h:q∈bJ qs):q∈qs:=by
 unfold bJ at h
 split at h
 ·exact h
 ·rcases List.mem_append.mp h with h | h
  ·exact oV qs q (List.mem_reverse.mp (List.dropLast_subset _ h))
  ·exact List.mem_reverse.mp (oV _ q (List.mem_reverse.mp (List.dropLast_subset _ h)))
theorem DP {qs w:List Pl} (h:w∈cD (bJ qs)):∃ a b,w= [a,b]∧a∈qs∧b∈qs:=by
 unfold cD at h
 split at h
 ·cases h
 ·obtain ⟨a,ha,b,hb,e⟩:=Ci h
  refine ⟨a,b,e,zx ha,zx ?_⟩
  rcases List.mem_append.mp hb with hb | hb
  ·exact List.mem_of_mem_drop hb
  ·exact List.mem_of_mem_take hb
theorem A4 (qs:List Pl):(cD (bJ qs)).length≤2*qs.length:=by
 have l1:=dY qs
 have l2:=dY qs.reverse
 rw [List.length_reverse] at l2
 have:(bJ qs).length≤2*qs.length:=by
  unfold bJ
  split
  ·omega
  ·rw [List.length_append,List.length_dropLast,List.length_dropLast,List.length_reverse,List.length_reverse]
   omega
 unfold cD
 split
 ·exact Nat.zero_le _
 ·rw [List.length_zipWith]
  omega
theorem DQ {α:Type} {f:α→List Pl} {xs:List α} {i:Nat} {x:α} (h:xs[i]?=some x):(xs.take (i+1)).map f=(xs.take i).map f ++ [f x]:=by
 rw [List.take_succ,h,List.map_append]
 rfl
def Jl:vN:=fun ds M Q=> ∃ l:Addr,ds= [.ref l]∧∃ ps:List Pl,M l=some (.lst (ps.map Pl.d))∧ps.Nodup∧ps.length≤16∧(∀ q∈ps,q.Ok 140)∧∀ (p:Addr) (qs:List Pl) (ts:List (List Pl)),M p=none→qs.Perm ps→cY qs→ts.Perm (jg qs qs.length)→ts.Pairwise (fun a b=>c7 b a=false)→Q (.ref p) (ay M p (.lst (ts.map tD)))
theorem GR (T:Txt K mg t):bO P w K mg base fR 6 t.wW t.sV ["places"] (yb K Jl):=by
 refine zZ T.w5 iX (fun ds M Q h=>by (first | (obtain ⟨_,rfl,_⟩:=h;rfl) | (obtain ⟨_,_,rfl,_⟩:=h;rfl) | (obtain ⟨_,_,_,rfl,_⟩:=h;rfl) | (obtain ⟨_,_,_,_,rfl,_⟩:=h;rfl) | (obtain ⟨_,_,_,_,_,rfl,_⟩:=h;rfl) | (obtain ⟨_,_,_,_,_,_,rfl,_⟩:=h;rfl) | (obtain ⟨_,_,_,_,_,_,_,rfl,_⟩:=h;rfl))) (fun cdv A outer s H hr=>?_)
 have hu:=hr.units
 refine ⟨_,(av (aV (i:=1) iX.nd rfl (Or.inl rfl) (bN j4 (by rfl) T.cW bE (af (aa 0) aj)))
  (av (aV (i:=2) iX.nd rfl (Or.inl rfl) (dU aj))
  (av (zY PassesOwn.never rfl (by rfl) T.tO (af (bN gU (by rfl) T.dN bu (af (aa 1) aj)) aj) (cB (i:=3) iX.nd rfl (Or.inl rfl)) (av (aV (i:=4) iX.nd rfl (Or.inr rfl) (az (aa 1) (aa 3)))
  (av (CQ (j:=5) (jw (ys:=["p"]) (fs:=[4]) rfl (by show bx (ak kR) ["places","line","cover","k","p","seen"] _ _ _ _=true;decide +kernel) (cg (pK T) (hr.mono (by decide)) (by rfl) T.qp T.fK.kp (pJ T) (af (e9 (aa 1) EZ (gu (aa 3))) aj)) (fun cl C s0 H0 ex=>pW (aU (oF hu) (aF (n8 T) (hr.mono (by decide)) (by rfl) T.tF T.mH.kp (nZ T) (af (az (aa 0) ah) (af (az (aa 0) ah) (af (aa 1) aj)))) (eZ ah) (aJ _))) (fun cl C s0 H0 ex=>(aa 0))) iX.nd rfl (Or.inl rfl))
  (aC (oH (JQ (aa 2) (uh (jw (ys:=["p"]) (fs:=[4]) rfl (by show bx (ak kR) ["places","line","cover","k","p","seen"] _ _ _ _=true;decide +kernel) (aa 5) (fun cl C s0 H0 ex=>pV) (fun cl C s0 H0 ex=>(aF (kO T) (hr.mono (by decide)) (by rfl) T.lM T.eU.kp (kN T) (af (az (aa 0) ah) (af (az (aa 0) ah) (af (aa 1) aj))))))) (xY PySem.F.plainAttrs_list PySem.F.slot_list_extend PySem.F.type_list_extend uK (bZ.dn (aa 2)) (kT (bZ.dn (uh (jw (ys:=["p"]) (fs:=[4]) rfl (by show bx (ak kR) ["places","line","cover","k","p","seen"] _ _ _ _=true;decide +kernel) (aa 5) (fun cl C s0 H0 ex=>pV) (fun cl C s0 H0 ex=>(aF (kO T) (hr.mono (by decide)) (by rfl) T.lM T.eU.kp (kN T) (af (az (aa 0) ah) (af (az (aa 0) ah) (af (aa 1) aj)))))))) oA))))))))
  (aC (aM (bN (oQ (n:=3) (.inr rfl) hu) (by rfl) T.cW bE (af (aa 2) aj))))))),fun ds M Q h=>?_⟩
 obtain ⟨l,rfl,ps,hM,nd,Vt,ho,h⟩:=h
 have sl:(1000:Nat) < sizeLine:=by decide
 walk_at "rd"
 refine ⟨l,ps,rfl,hM,by omega,fun a qs ha bM i6=>?_⟩
 have Vu:qs.Nodup:=bM.nodup_iff.mpr nd
 have strict:=C7 i6 Vu
 have oq:∀ q∈qs,q.Ok 140:=fun q hq=>ho q (bM.mem_iff.mp hq)
 have lq:qs.length≤16:=by rw [bM.length_eq];exact Vt
 have xP:cY qs:=⟨strict,fun q hq=>(oq q hq).2⟩
 have hA:ay M a (.lst (qs.map Pl.d)) a=some (.lst (qs.map Pl.d)):=ai
 have le:=Le.new (o:=MO.lst (qs.map Pl.d)) ha
 generalize ay M a (.lst (qs.map Pl.d))=M1 at hA le ⊢
 walk_at "rd"
 intro b hb
 have nb:M b=none:=le.free hb
 have nab:a≠b:=fun z=>by rw [← z,hA] at hb;cases hb
 have hA:=ao (u:=MO.lst []) hA hb
 have le:=le.trans (Le.new (o:=MO.lst []) hb)
 have hB:ay M1 b (.lst []) b=some (.lst []):=ai
 generalize ay M1 b (.lst [])=M2 at hA hB le ⊢
 walk_at "rd"
 refine ⟨_,_,rfl,.inr (.inr ⟨a,rfl,hA⟩),?_⟩
 rw [List.length_map]
 walk_at "rd"
 refine ⟨by omega,by omega,?_⟩
 refine cC (fun i ρ M'=> ∃ (y1 y2 y3:Option L3.D),ρ= [some (.ref l),some (.ref a),some (.ref b),y1,y2,y3]∧Le M M'∧M' a=some (.lst (qs.map Pl.d))∧M' b=some (.lst ((jg qs i).map tD))) _ ?_ ?_ ⟨_,_,_,rfl,le,hA,hB⟩
 ·rintro i v ρ M' N PY ⟨y1,y2,y3,rfl,le,hA,hB⟩ hN
  obtain ⟨hi,rfl⟩:=oM PY
  have hi:i < qs.length:=by omega
  obtain ⟨p,hp⟩:∃ p,qs[i]?=some p:=⟨qs[i],List.getElem?_eq_getElem hi⟩
  have mp:=List.mem_of_getElem? hp
  have ep:p=uv qs i:=by unfold uv;rw [List.getD_eq_getElem?_getD,hp];rfl
  have lc:=wo xP i (by omega)
  refine ⟨trivial,?_⟩
  walk_at "rd"
  refine ⟨_,_,_,.inr (.inr ⟨a,rfl,hA⟩),rfl,kU (by rw [List.getElem?_map,hp];rfl),?_⟩
  walk_at "rd"
  refine ⟨_,.of hA,fun c hc=>?_⟩
  have ec:cutD (qs.map Pl.d) none (some (i:Int))=(qs.take i).map Pl.d:=yv Pl.d qs i (by omega)
  rw [ec]
  have hA:=ao (u:=MO.lst ((qs.take i).map Pl.d)) hA hc
  have hB:=ao (u:=MO.lst ((qs.take i).map Pl.d)) hB hc
  have le:=le.trans (Le.new (o:=MO.lst ((qs.take i).map Pl.d)) hc)
  have hC:ay M' c (.lst ((qs.take i).map Pl.d)) c=some (.lst ((qs.take i).map Pl.d)):=ai
  generalize ay M' c (.lst ((qs.take i).map Pl.d))=M3 at hA hB hC le ⊢
  walk_at "rd"
  refine ⟨c,qs.take i,rfl,hC,by rw [List.length_take];omega,fun q hq=>oq q (List.mem_of_mem_take hq),fun d us hd A5 Mh=>?_⟩
  obtain rfl:=yx A5 Mh (i6.sublist (List.take_sublist _ _))
  have hW:∀ w∈cD (bJ (qs.take i)),∃ x y,w= [x,y]∧x∈qs∧y∈qs:=fun w hw=>by
   obtain ⟨x,y,e,hx,hy⟩:=DP hw
   exact ⟨x,y,e,List.mem_of_mem_take hx,List.mem_of_mem_take hy⟩
  have lw:=A4 (qs.take i)
  rw [List.length_take] at lw
  have lw:(cD (bJ (qs.take i))).length≤32:=by omega
  obtain ⟨ws,Tv⟩:∃ ws,SL (qs.take i)=ws:=⟨_,rfl⟩
  rw [show cD (bJ (qs.take i))=ws from Tv] at hW lw ⊢
  have hA:=ao (u:=MO.lst (ws.map tD)) hA hd
  have hB:=ao (u:=MO.lst (ws.map tD)) hB hd
  have le:=le.trans (Le.new (o:=MO.lst (ws.map tD)) hd)
  have hD:ay M3 d (.lst (ws.map tD)) d=some (.lst (ws.map tD)):=ai
  generalize ay M3 d (.lst (ws.map tD))=M4 at hA hB hD le ⊢
  refine ⟨d,_,rfl,hD,by rw [List.length_map];omega,bq.mk (bA (fun j acc M5=>M5=M4∧acc=((ws.take j).filter (zI p)).map tD) _ ?_ ?_ ⟨rfl,rfl⟩)⟩
  ·rintro j v acc M5 N2 tT ⟨rfl,rfl⟩ jK
   obtain ⟨w',hw,rfl⟩:=fm tT
   obtain ⟨x,y,rfl,mx,my⟩:=hW w' (List.mem_of_getElem? hw)
   refine ⟨hD,?_⟩
   refine ⟨_,rfl,?_⟩
   refine ⟨_,_,_,Or.inl rfl,rfl,rfl,?_⟩
   refine ⟨_,rfl,?_⟩
   refine ⟨_,_,_,Or.inl rfl,rfl,rfl,?_⟩
   walk_at "rd"
   refine ⟨oq x mx,oq y my,oq p mp,?_⟩
   walk_at "rd"
   rw [cA]
   refine cJ (fun k=>?_) (fun k=>?_)
   ·have k:tw x y p < 0:=Int.sign_eq_neg_one_iff_neg.mp (eq_of_beq k)
    walk_at "rd"
    refine jK _ _ ⟨rfl,?_⟩
    rw [cz hw,if_pos (show zI p [x,y]=true from decide_eq_true k),List.map_append]
    rfl
   ·have k:¬ tw x y p < 0:=fun z=>k (by rw [Int.sign_eq_neg_one_of_neg z];rfl)
    refine jK _ _ ⟨rfl,?_⟩
    rw [cz hw,if_neg (fun z:zI p [x,y]=true=>k (of_decide_eq_true z)),List.append_nil]
  ·rintro acc M5 ⟨rfl,rfl⟩
   refine ⟨hD,fun f hf=>?_⟩
   rw [List.length_map,List.take_length]
   have hS:∀ w∈ws.filter (zI p),∃ x y,w= [x,y]∧x∈qs∧y∈qs∧tw x y p < 0:=fun w hw=>by
    obtain ⟨hw,sw⟩:=List.mem_filter.mp hw
    obtain ⟨x,y,rfl,mx,my⟩:=hW w hw
    exact ⟨x,y,rfl,mx,my,of_decide_eq_true sw⟩
   have ls:(ws.filter (zI p)).length≤32:=Nat.le_trans (List.length_filter_le _ _) lw
   obtain ⟨ss,Tw⟩:∃ ss,ws.filter (zI p)=ss:=⟨_,rfl⟩
   rw [Tw] at hS ls ⊢
   have hA:=ao (u:=MO.lst (ss.map tD)) hA hf
   have hB:=ao (u:=MO.lst (ss.map tD)) hB hf
   have le:=le.trans (Le.new (o:=MO.lst (ss.map tD)) hf)
   have hF:ay M5 f (.lst (ss.map tD)) f=some (.lst (ss.map tD)):=ai
   generalize ay M5 f (.lst (ss.map tD))=M6 at hA hB hF le ⊢
   walk_at "rd"
   refine ⟨⟨b,_,rfl,hB⟩,?_⟩
   walk_at "rd"
   refine ⟨f,_,rfl,hF,by rw [List.length_map];omega,bq.mk (bA (fun j acc M5=>M5=M6∧acc=((ss.take j).map (yE p)).map tD) _ ?_ ?_ ⟨rfl,rfl⟩)⟩
   ·rintro j v acc M5 N2 tT ⟨rfl,rfl⟩ jK
    obtain ⟨w',hw,rfl⟩:=fm tT
    obtain ⟨x,y,rfl,mx,my,sx⟩:=hS w' (List.mem_of_getElem? hw)
    refine ⟨hF,?_⟩
    walk_at "rd"
    refine ⟨oq x mx,oq y my,oq p mp,by omega,?_⟩
    walk_at "rd"
    refine jK _ _ ⟨rfl,?_⟩
    rw [DQ hw,List.map_append]
    rfl
   ·rintro acc M5 ⟨rfl,rfl⟩
    refine ⟨hF,fun g hg=>?_⟩
    rw [List.length_map,List.take_length]
    have WI:b≠g:=fun z=>by rw [z,hg] at hB;cases hB
    refine ⟨b,g,_,_,rfl,rfl,ao hB hg,ai,by rw [List.length_map,List.length_map,List.length_map];omega,?_⟩
    rw [← List.map_append]
    have en:jg qs (i+1)=jg qs i ++ ss.map (yE p):=by
     show jg qs i ++ (bK (qs.take i) (uv qs i)).map (yE (uv qs i))=_
     rw [← ep]
     unfold bK
     rw [Tv,Tw]
    rw [← en]
    refine hN _ _ ⟨_,_,_,rfl,fun x o e=>?_,?_,ai⟩
    ·rw [aP (fun z=>by rw [z,nb] at e;cases e)]
     exact ao (le _ _ e) hg
    ·rw [aP nab]
     exact ao hA hg
 ·rintro ρ M' ⟨y1,y2,y3,rfl,le,hA,hB⟩
  refine ⟨trivial,?_⟩
  rw [List.length_map,List.length_range,show ((qs.length:Int)).toNat=qs.length by omega] at hB
  have lc:=wo xP qs.length (Nat.le_refl _)
  walk_at "rd"
  refine ⟨b,_,rfl,hB,fun t ht=>?_,by omega,fun g rs hg Mi Mj=>?_⟩
  ·obtain ⟨⟨u,v,w,e,_⟩,_⟩:=wu xP qs.length (Nat.le_refl _) t ht
   rw [e]
   rfl
  exact bq.mk ⟨_,le.put,h g qs rs (le.free hg) bM xP Mi Mj⟩
theorem p9 (T:Txt K mg t):Binds K t.ko ["_law_one"] []:=T.jt.binds fun _ _ _ _ _ _ us hl=>match us,hl with | [_],_=>rfl
def A6:rA:=fun ds Q=> ∃ i:Int,ds= [.int i]∧Q (.bl true)
theorem qa (T:Txt K mg t):bO P w K mg base fR 1 t.mE t.ko ["_law_one"] (qL K A6):=by
 refine vO T.jt zk (fun ds Q h=>by (first | (obtain ⟨_,rfl,_⟩:=h;rfl) | (obtain ⟨_,_,rfl,_⟩:=h;rfl) | (obtain ⟨_,_,_,rfl,_⟩:=h;rfl) | (obtain ⟨_,_,_,_,rfl,_⟩:=h;rfl) | (obtain ⟨_,_,_,_,_,rfl,_⟩:=h;rfl) | (obtain ⟨_,_,_,_,_,_,rfl,_⟩:=h;rfl) | (obtain ⟨_,_,_,_,_,_,_,rfl,_⟩:=h;rfl))) (fun cdv A outer s H hr=>?_)
 have hu:=hr.units
 refine ⟨_,(aC (aM (Bs (bN Bu (by rfl) T.eW cR (af (aa 0) (af (vL (by rfl) T.L7 CH) aj))) (Bs (mV ya (aa 0) qg (aJ _)) (x6 (mV ya (aa 0) qg (aJ _))))))),fun ds Q h=>?_⟩
 obtain ⟨i,rfl,h⟩:=h
 walk_at "rd"
 exact h
theorem n9 (T:Txt K mg t):Binds K t.dH ["_law_found","_law_many_here"] []:=T.eG.binds fun _ _ _ _ _ _ us hl=>match us,hl with | [_,_],_=>rfl
def pL:rA:=fun ds Q=> ∃ (ps:List Pl) (k:Int),ds= [tD ps,.int k]∧((k=2∧ps.length=2)∨(k=3∧ps.length=3))∧Q (.bl true)
theorem oh (T:Txt K mg t):bO P w K mg base fR 2 t.eE t.dH ["_law_found","_law_many_here"] (qL K pL):=by
 refine vO T.eG g9 (fun ds Q h=>by (first | (obtain ⟨_,rfl,_⟩:=h;rfl) | (obtain ⟨_,_,rfl,_⟩:=h;rfl) | (obtain ⟨_,_,_,rfl,_⟩:=h;rfl) | (obtain ⟨_,_,_,_,rfl,_⟩:=h;rfl) | (obtain ⟨_,_,_,_,_,rfl,_⟩:=h;rfl) | (obtain ⟨_,_,_,_,_,_,rfl,_⟩:=h;rfl) | (obtain ⟨_,_,_,_,_,_,_,rfl,_⟩:=h;rfl))) (fun cdv A outer s H hr=>?_)
 have hu:=hr.units
 refine ⟨_,(av (dF (qH.pt (vM (k_not (mW (bN Bu (by rfl) T.eW cR (af (aa 0) (af (vL (by rfl) T.tN jW) aj))))) (qY (aU (qh hu) (bN gU (by rfl) T.dN bu (af (aa 0) aj)) (aa 1) (aJ _))))) (aC (aM qg)) bS)
  (av (La PassesOwn.never rfl (aa 0) (cB (i:=2) g9.nd rfl (Or.inl rfl)) (aC (dF (qH.pt (vM (k_not (mW (bN Bu (by rfl) T.eW cR (af (aa 2) (af (vL (by rfl) T.tN jW) aj))))) (vM (aU (qh hu) (bN gU (by rfl) T.dN bu (af (aa 2) aj)) ah (aJ _)) (vM (k_not (mW (aF (qa T) (hr.mono (by decide)) (by rfl) T.tG T.jt.kp (p9 T) (af (az (aa 2) ah) aj)))) (qY (k_not (mW (aF (qa T) (hr.mono (by decide)) (by rfl) T.tG T.jt.kp (p9 T) (af (az (aa 2) ah) aj))))))))) (aC (aM qg)) bS)))
  (aC (aM qg)))),fun ds Q h=>?_⟩
 obtain ⟨ps,k,rfl,hk,h⟩:=h
 rcases hk with ⟨rfl,hl⟩ | ⟨rfl,hl⟩
 ·obtain ⟨a,b,rfl⟩:=Ai hl
  walk_at "rd"
  exact h
 ·obtain ⟨a,b,c,rfl⟩:=iQ hl
  walk_at "rd"
  exact h
theorem xD (T:Txt K mg t):Binds K t.jo ["_law_found","_law_due","_law_many_here"] []:=T.kH.binds fun _ _ _ _ _ _ us hl=>match us,hl with | [_,_,_],_=>rfl
def zy:vN:=fun ds M Q=> ∃ (l c:Addr) (k:Int) (ts:List (List Pl)),ds= [.ref l,.ref c,.int k]∧M l=some (.lst (ts.map tD))∧M c=some (.lst (ts.map tD))∧(∀ t∈ts,(k=2∧t.length=2)∨(k=3∧t.length=3))∧ts.length≤1000∧Q (.bl true) M
theorem xE (T:Txt K mg t):bO P w K mg base fR 3 t.kq t.jo ["_law_found","_law_due","_law_many_here"] (yb K zy):=by
 refine zZ T.kH nV (fun ds M Q h=>by (first | (obtain ⟨_,rfl,_⟩:=h;rfl) | (obtain ⟨_,_,rfl,_⟩:=h;rfl) | (obtain ⟨_,_,_,rfl,_⟩:=h;rfl) | (obtain ⟨_,_,_,_,rfl,_⟩:=h;rfl) | (obtain ⟨_,_,_,_,_,rfl,_⟩:=h;rfl) | (obtain ⟨_,_,_,_,_,_,rfl,_⟩:=h;rfl) | (obtain ⟨_,_,_,_,_,_,_,rfl,_⟩:=h;rfl))) (fun cdv A outer s H hr=>?_)
 have hu:=hr.units
 refine ⟨_,(av (dF (qH.pt (vM (k_not (mW (bN Bu (by rfl) T.eW cR (af (aa 0) (af (vL (by rfl) T.nU gn) aj))))) (qY (aU (qh hu) (bN gU (by rfl) T.dN bu (af (aa 0) aj)) (bN gU (by rfl) T.dN bu (af (aa 1) aj)) (aJ _))))) (aC (aM qg)) bS)
  (av (zY PassesOwn.never rfl (by rfl) T.tO (af (bN gU (by rfl) T.dN bu (af (aa 1) aj)) aj) (cB (i:=3) nV.nd rfl (Or.inl rfl)) (aC (dF (qH.pt (vM (k_not (mW (aF (oh T) (hr.mono (by decide)) (by rfl) T.pG T.eG.kp (n9 T) (af (az (aa 0) (aa 3)) (af (aa 2) aj))))) (qY (aU (qh hu) (az (aa 0) (aa 3)) (az (aa 1) (aa 3)) (aJ _))))) (aC (aM qg)) bS)))
  (aC (aM qg)))),fun ds M Q h=>?_⟩
 obtain ⟨l,c,k,ts,rfl,hM,hC,hk,Sk,h⟩:=h
 walk_at "rd"
 refine ⟨_,_,_,true,rfl,.lst hM,m7,?_⟩
 walk_at "rd"
 refine ⟨_,_,rfl,.inr (.inr ⟨l,rfl,hM⟩),?_⟩
 walk_at "rd"
 refine ⟨_,_,rfl,.inr (.inr ⟨c,rfl,hC⟩),?_⟩
 walk_at "rd"
 have e:∀ n:Int,cZ (.int n) (.int n)=true:=fun n=>by rw [cA];simp
 rw [e]
 refine QK ?_
 walk_at "rd"
 refine ⟨_,_,rfl,.inr (.inr ⟨c,rfl,hC⟩),?_⟩
 walk_at "rd"
 rw [List.length_map]
 refine ⟨by omega,by omega,?_⟩
 rw [Int.toNat_natCast]
 refine cC (fun i ρ M'=>M'=M∧∃ y:Option L3.D,ρ= [some (.ref l),some (.ref c),some (.int k),y]) _ ?_ ?_ ⟨rfl,_,rfl⟩
 ·rintro i x ρ M' N hx ⟨rfl,y,rfl⟩ hN
  obtain ⟨hi,rfl⟩:=oM hx
  have hg:ts[i]?=some ts[i]:=List.getElem?_eq_getElem hi
  have hk':=hk ts[i] (List.getElem_mem hi)
  have at':t8 (ts.map tD) (i:Int)=some (tD ts[i]):=kU (by rw [List.getElem?_map,hg];rfl)
  have pl:L3.plain 9 (tD ts[i])=true:=by
   have:=gA ts
   rw [List.all_eq_true] at this
   exact this _ (List.mem_map_of_mem (List.getElem_mem hi))
  refine ⟨trivial,?_⟩
  walk_at "rd"
  refine ⟨_,_,_,.inr (.inr ⟨l,rfl,hM⟩),rfl,at',?_⟩
  walk_at "rd"
  refine ⟨hk',?_⟩
  walk_at "rd"
  refine ⟨_,_,_,.inr (.inr ⟨l,rfl,hM⟩),rfl,at',?_⟩
  walk_at "rd"
  refine ⟨_,_,_,.inr (.inr ⟨c,rfl,hC⟩),rfl,at',?_⟩
  walk_at "rd"
  refine ⟨Ja _,?_⟩
  rw [rj 9 _ pl]
  walk_at "rd"
  exact hN _ _ ⟨rfl,_,rfl⟩
 ·rintro ρ M' ⟨rfl,y,rfl⟩
  refine ⟨trivial,?_⟩
  walk_at "rd"
  exact bq.mk ⟨_,Le.refl _,h⟩
theorem pM (T:Txt K mg t):Binds K t.pA ["t"] []:=T.kI.binds fun _ _ _ _ _ _ us hl=>match us,hl with | [_],_=>rfl
def GS:vN:=fun ds M Q=> ∃ a b c:Pl,ds= [tD [a,b,c]]∧∀ p,M p=none→Q (.ref p) (ay M p (.lst ([[a,b,c],[b,c,a],[c,a,b]].map tD)))
theorem pN (T:Txt K mg t):bO P w K mg base fR 1 t.sW t.pA ["t"] (yb K GS):=by
 refine zZ T.kI DM (fun ds M Q h=>by (first | (obtain ⟨_,rfl,_⟩:=h;rfl) | (obtain ⟨_,_,rfl,_⟩:=h;rfl) | (obtain ⟨_,_,_,rfl,_⟩:=h;rfl) | (obtain ⟨_,_,_,_,rfl,_⟩:=h;rfl) | (obtain ⟨_,_,_,_,_,rfl,_⟩:=h;rfl) | (obtain ⟨_,_,_,_,_,_,rfl,_⟩:=h;rfl) | (obtain ⟨_,_,_,_,_,_,_,rfl,_⟩:=h;rfl))) (fun cdv A outer s H hr=>?_)
 have hu:=hr.units
 refine ⟨_,(aC (aM (dU (af (bD (af (az (aa 0) ah) (af (az (aa 0) ah) (af (az (aa 0) ah) aj)))) (af (bD (af (az (aa 0) ah) (af (az (aa 0) ah) (af (az (aa 0) ah) aj)))) (af (bD (af (az (aa 0) ah) (af (az (aa 0) ah) (af (az (aa 0) ah) aj)))) aj)))))),fun ds M Q h=>?_⟩
 obtain ⟨a,b,c,rfl,h⟩:=h
 walk_at "rd"
 intro p hp
 exact bq.mk ⟨_,Le.refl _,h p hp⟩
theorem qz (T:Txt K mg t):Binds K t.fH ["cover"] []:=T.gP.binds fun _ _ _ _ _ _ us hl=>match us,hl with | [_],_=>rfl
def tX:vN:=fun ds M Q=> ∃ l:Addr,ds= [.ref l]∧∃ ts:List (List Pl),M l=some (.lst (ts.map tD))∧(∀ t∈ts,Tr t)∧ts.length≤200∧∀ p,M p=none→Q (.ref p) (ay M p (.oB (jI (gT ts))))
theorem qA (T:Txt K mg t):bO P w K mg base fR 2 t.gK t.fH ["cover"] (yb K tX):=by
 refine zZ T.gP di (fun ds M Q h=>by (first | (obtain ⟨_,rfl,_⟩:=h;rfl) | (obtain ⟨_,_,rfl,_⟩:=h;rfl) | (obtain ⟨_,_,_,rfl,_⟩:=h;rfl) | (obtain ⟨_,_,_,_,rfl,_⟩:=h;rfl) | (obtain ⟨_,_,_,_,_,rfl,_⟩:=h;rfl) | (obtain ⟨_,_,_,_,_,_,rfl,_⟩:=h;rfl) | (obtain ⟨_,_,_,_,_,_,_,rfl,_⟩:=h;rfl))) (fun cdv A outer s H hr=>?_)
 have hu:=hr.units
 refine ⟨_,(av (aV (i:=1) di.nd rfl (Or.inl rfl) LH)
  (av (oK PassesOwn.never rfl (aa 0) (cB (i:=2) di.nd rfl (Or.inl rfl)) (aC (oK PassesOwn.never rfl (cg (pN T) (hr.mono (by decide)) (by rfl) T.tH T.kI.kp (pM T) (af (aa 2) aj)) (cB (i:=3) di.nd rfl (Or.inl rfl)) (aC (Bv (az (aa 3) ah) (LK hu (aa 1) (bD (af (az (aa 3) ah) (af (az (aa 3) ah) aj)))))))))
  (aC (aM (aa 1))))),fun ds M Q h=>?_⟩
 obtain ⟨l,rfl,ts,hM,hts,Sk,h⟩:=h
 have sl:(1000:Nat) < sizeLine:=by decide
 refine fun (p:Addr) (hp:M p=none)=>?_
 have Sl:l≠p:=fun z=>by rw [← z,hM] at hp;cases hp
 walk_at "rd"
 refine ⟨l,_,rfl,ao hM hp,?_⟩
 refine cC (fun i ρ M'=>(∃ y z:Option L3.D,ρ= [some (.ref l),some (.ref p),y,z])∧M' l=some (.lst (ts.map tD))∧M' p=some (.oB (jI (gT (ts.take i))))∧Le M M') _ ?_ ?_ ⟨⟨_,_,rfl⟩,ao hM hp,ai,Le.new hp⟩
 ·rintro i x ρ M' N hx ⟨⟨y,z,rfl⟩,hM,hP,le⟩ hN
  obtain ⟨t,ht,rfl⟩:=fm hx
  obtain ⟨a,b,c,rfl,oa,ob,oc⟩:=hts t (List.mem_of_getElem? ht)
  refine ⟨hM,?_⟩
  refine ⟨_,rfl,?_⟩
  refine ⟨a,b,c,rfl,fun q hq=>?_⟩
  have hM:=ao (u:=MO.lst ([[a,b,c],[b,c,a],[c,a,b]].map tD)) hM hq
  have hP:=ao (u:=MO.lst ([[a,b,c],[b,c,a],[c,a,b]].map tD)) hP hq
  have le:=le.trans (Le.new (o:=MO.lst ([[a,b,c],[b,c,a],[c,a,b]].map tD)) hq)
  have hQ:ay M' q (.lst ([[a,b,c],[b,c,a],[c,a,b]].map tD)) q=some (.lst ([[a,b,c],[b,c,a],[c,a,b]].map tD)):=ai
  generalize ay M' q (.lst ([[a,b,c],[b,c,a],[c,a,b]].map tD))=M2 at hM hP hQ le ⊢
  have Vv:q≠p:=fun z=>by rw [z,hP] at hQ;cases hQ
  refine ⟨q,_,rfl,hQ,?_⟩
  have ln:=yZ (ts.take i)
  rw [List.length_take] at ln
  refine cC (fun j ρ M4=>(∃ z:Option L3.D,ρ= [some (.ref l),some (.ref p),some (tD [a,b,c]),z])∧M4 l=some (.lst (ts.map tD))∧M4 q=some (.lst ([[a,b,c],[b,c,a],[c,a,b]].map tD))∧M4 p=some (.oB (jI (gT (ts.take i) ++ [[a,b,c],[b,c,a],[c,a,b]].take j)))∧Le M M4) _ ?_ ?_ ⟨⟨_,rfl⟩,hM,hQ,by rw [List.take_zero,List.append_nil];exact hP,le⟩
  ·rintro j x ρ M4 N2 tT ⟨⟨z,rfl⟩,hM,hQ,hP,le⟩ jK
   obtain ⟨o,ho,rfl⟩:=fm tT
   have hj:j < 3:=(List.getElem?_eq_some_iff.mp ho).1
   obtain ⟨e1,e2,e3,rfl⟩:=sR [a,b,c] o (List.mem_of_getElem? ho)
   have lc:=GB (gT (ts.take i) ++ [[a,b,c],[b,c,a],[c,a,b]].take j)
   rw [List.length_append,List.length_take] at lc
   refine ⟨hQ,?_⟩
   walk_at "rd"
   refine ⟨p,_,bX [e1,e2],rfl,(lC [e1,e2]).symm,hP,by simp only [List.length_cons,List.length_nil] at lc;omega,?_⟩
   have es: [[a,b,c],[b,c,a],[c,a,b]].take (j+1)= [[a,b,c],[b,c,a],[c,a,b]].take j ++ [[e1,e2,e3]]:=by rw [List.take_succ,ho];rfl
   refine jK _ _ ⟨⟨_,rfl⟩,?_,?_,?_,fun x o e=>?_⟩
   ·rw [aP Sl];exact hM
   ·rw [aP Vv];exact hQ
   ·rw [ai,es,← List.append_assoc,DH]
   ·rw [aP (fun z=>by rw [z,hp] at e;cases e)]
    exact le _ _ e
  ·rintro ρ M4 ⟨⟨z,rfl⟩,hM,hQ,hP,le⟩
   refine ⟨hQ,hN _ _ ⟨⟨_,_,rfl⟩,hM,?_,le⟩⟩
   rw [DG ht]
   exact hP
 ·rintro ρ M' ⟨⟨y,z,rfl⟩,hM,hP,le⟩
  refine ⟨hM,?_⟩
  walk_at "rd"
  rw [List.length_map,List.take_length] at hP
  refine bq.mk ⟨ay M p (.oB (jI (gT ts))),fun b o e=>?_,h p hp⟩
  by_cases hb:b=p
  ·subst hb
   rw [ai] at e
   rw [hP]
   exact e
  ·rw [aP hb] at e
   exact le _ _ e
theorem qB (T:Txt K mg t):Binds K t.fJ ["a","b"] []:=T.gQ.binds fun _ _ _ _ _ _ us hl=>match us,hl with | [_,_],_=>rfl
def tY:rA:=fun ds Q=> ∃ a b:Pl,ds= [a.d,b.d]∧Q (tD [lo a b,hi a b])
theorem qC (T:Txt K mg t):bO P w K mg base fR 1 t.gM t.fJ ["a","b"] (qL K tY):=by
 refine vO T.gQ qu (fun ds Q h=>by (first | (obtain ⟨_,rfl,_⟩:=h;rfl) | (obtain ⟨_,_,rfl,_⟩:=h;rfl) | (obtain ⟨_,_,_,rfl,_⟩:=h;rfl) | (obtain ⟨_,_,_,_,rfl,_⟩:=h;rfl) | (obtain ⟨_,_,_,_,_,rfl,_⟩:=h;rfl) | (obtain ⟨_,_,_,_,_,_,rfl,_⟩:=h;rfl) | (obtain ⟨_,_,_,_,_,_,_,rfl,_⟩:=h;rfl))) (fun cdv A outer s H hr=>?_)
 have hu:=hr.units
 refine ⟨_,(aC (aM (bD (af (bN (Oc hu rfl) (by rfl) T.GN uP (af (aa 0) (af (aa 1) aj))) (af (bN (Od hu rfl) (by rfl) T.GO uQ (af (aa 0) (af (aa 1) aj))) aj))))),fun ds Q h=>?_⟩
 obtain ⟨a,b,rfl,h⟩:=h
 walk_at "rd"
 exact h
theorem oi (T:Txt K mg t):Binds K t.dI ["cover"] []:=T.eK.binds fun _ _ _ _ _ _ us hl=>match us,hl with | [_],_=>rfl
def pO:vN:=fun ds M Q=> ∃ l:Addr,ds= [.ref l]∧∃ ts:List (List Pl),M l=some (.lst (ts.map tD))∧(∀ t∈ts,Tr t)∧ts.length≤200∧∀ p,M p=none→Q (.ref p) (ay M p (.lst ((bf ts).map tD)))
theorem oj (T:Txt K mg t):bO P w K mg base fR 2 t.eF t.dI ["cover"] (yb K pO):=by
 refine zZ T.eK dP (fun ds M Q h=>by (first | (obtain ⟨_,rfl,_⟩:=h;rfl) | (obtain ⟨_,_,rfl,_⟩:=h;rfl) | (obtain ⟨_,_,_,rfl,_⟩:=h;rfl) | (obtain ⟨_,_,_,_,rfl,_⟩:=h;rfl) | (obtain ⟨_,_,_,_,_,rfl,_⟩:=h;rfl) | (obtain ⟨_,_,_,_,_,_,rfl,_⟩:=h;rfl) | (obtain ⟨_,_,_,_,_,_,_,rfl,_⟩:=h;rfl))) (fun cdv A outer s H hr=>?_)
 have hu:=hr.units
 refine ⟨_,(av (aV (i:=1) dP.nd rfl (Or.inl rfl) (dU aj))
  (av (oK PassesOwn.never rfl (aa 0) (cB (i:=2) dP.nd rfl (Or.inl rfl)) (aC (oH (JQ (aa 1) (uh (jw (ys:=[]) (fs:=[]) rfl (by show bx (ak b9) ["cover","ways","t"] _ _ _ _=true;decide +kernel) (cg (pN T) (hr.mono (by decide)) (by rfl) T.tH T.kI.kp (pM T) (af (aa 2) aj)) (fun cl C s0 H0 ex=>pV) (fun cl C s0 H0 ex=>(bD (af (az (aa 0) ah) (af (az (aa 0) ah) aj)))))) (xY PySem.F.plainAttrs_list PySem.F.slot_list_extend PySem.F.type_list_extend uK (bZ.dn (aa 1)) (kT (bZ.dn (uh (jw (ys:=[]) (fs:=[]) rfl (by show bx (ak b9) ["cover","ways","t"] _ _ _ _=true;decide +kernel) (cg (pN T) (hr.mono (by decide)) (by rfl) T.tH T.kI.kp (pM T) (af (aa 2) aj)) (fun cl C s0 H0 ex=>pV) (fun cl C s0 H0 ex=>(bD (af (az (aa 0) ah) (af (az (aa 0) ah) aj))))))) oA))))))
  (aC (aM (aa 1))))),fun ds M Q h=>?_⟩
 obtain ⟨l,rfl,ts,hM,hts,Sk,h⟩:=h
 have sl:(1000:Nat) < sizeLine:=by decide
 walk_at "rd"
 intro p hp
 have Sl:l≠p:=fun z=>by rw [← z,hM] at hp;cases hp
 walk_at "rd"
 refine ⟨l,_,rfl,ao hM hp,?_⟩
 refine cC (fun i ρ M'=>(∃ y:Option L3.D,ρ= [some (.ref l),some (.ref p),y])∧M' l=some (.lst (ts.map tD))∧M' p=some (.lst ((bf (ts.take i)).map tD))∧Le M M') _ ?_ ?_ ⟨⟨_,rfl⟩,ao hM hp,ai,Le.new hp⟩
 ·rintro i x ρ M' N hx ⟨⟨y,rfl⟩,hM,hP,le⟩ hN
  obtain ⟨t,ht,rfl⟩:=fm hx
  obtain ⟨a,b,c,rfl,oa,ob,oc⟩:=hts t (List.mem_of_getElem? ht)
  refine ⟨hM,?_⟩
  walk_at "rd"
  refine ⟨⟨p,_,rfl,hP⟩,?_⟩
  refine ⟨_,rfl,?_⟩
  refine ⟨a,b,c,rfl,fun q hq=>?_⟩
  have hM:=ao (u:=MO.lst ([[a,b,c],[b,c,a],[c,a,b]].map tD)) hM hq
  have hP:=ao (u:=MO.lst ([[a,b,c],[b,c,a],[c,a,b]].map tD)) hP hq
  have le:=le.trans (Le.new (o:=MO.lst ([[a,b,c],[b,c,a],[c,a,b]].map tD)) hq)
  have hQ:ay M' q (.lst ([[a,b,c],[b,c,a],[c,a,b]].map tD)) q=some (.lst ([[a,b,c],[b,c,a],[c,a,b]].map tD)):=ai
  generalize ay M' q (.lst ([[a,b,c],[b,c,a],[c,a,b]].map tD))=M2 at hM hP hQ le ⊢
  refine ⟨q,_,rfl,hQ,by show 3 < sizeLine;omega,bq.mk (bA (fun j acc M4=>M4=M2∧acc=(([[a,b],[b,c],[c,a]].take j)).map tD) _ ?_ ?_ ⟨rfl,rfl⟩)⟩
  ·rintro j d acc M4 N2 tT ⟨rfl,rfl⟩ jK
   obtain ⟨u,j8,rfl⟩:=fm tT
   have hj:j < 3:=(List.getElem?_eq_some_iff.mp j8).1
   have hj:j=0∨j=1∨j=2:=by omega
   refine ⟨hQ,?_⟩
   rcases hj with rfl | rfl | rfl
   ·cases j8
    walk_at "rd"
    exact jK _ _ ⟨rfl,rfl⟩
   ·cases j8
    walk_at "rd"
    exact jK _ _ ⟨rfl,rfl⟩
   ·cases j8
    walk_at "rd"
    exact jK _ _ ⟨rfl,rfl⟩
  ·rintro acc M4 ⟨rfl,hacc⟩
   have hacc:acc= [[a,b],[b,c],[c,a]].map tD:=hacc
   subst hacc
   refine ⟨hQ,fun u j8=>?_⟩
   have ld:=nE (ts.take i)
   rw [List.length_take] at ld
   have WJ:u≠p:=fun z=>by rw [z,hP] at j8;cases j8
   refine ⟨p,u,_,_,rfl,rfl,ao hP j8,ai,by rw [List.length_map];show _+3≤sizeLine;omega,?_⟩
   refine hN _ _ ⟨⟨_,rfl⟩,?_,?_,fun x o e=>?_⟩
   ·rw [aP Sl]
    exact ao hM j8
   ·rw [ai,C8 ht,List.map_append]
    rfl
   ·rw [aP (fun z=>by rw [z,hp] at e;cases e)]
    exact ao (le _ _ e) j8
 ·rintro ρ M' ⟨⟨y,rfl⟩,hM,hP,le⟩
  refine ⟨hM,?_⟩
  walk_at "rd"
  rw [List.length_map,List.take_length] at hP
  refine bq.mk ⟨ay M p (.lst ((bf ts).map tD)),fun b o e=>?_,h p hp⟩
  by_cases hb:b=p
  ·subst hb
   rw [ai] at e
   rw [hP]
   exact e
  ·rw [aP hb] at e
   exact le _ _ e
theorem zz (T:Txt K mg t):Binds K t.kr ["cover"] []:=T.mJ.binds fun _ _ _ _ _ _ us hl=>match us,hl with | [_],_=>rfl
def A7:vN:=fun ds M Q=> ∃ l:Addr,ds= [.ref l]∧∃ ts:List (List Pl),M l=some (.lst (ts.map tD))∧(∀ t∈ts,Tr t)∧ts.length≤20∧∀ (p:Addr) (qs:List (List Pl)),M p=none→qs.Nodup→(∀ s,s∈qs↔s∈(bf ts).map IV)→qs.Pairwise (fun p q=>c7 q p=false)→Q (.ref p) (ay M p (.lst (qs.map tD)))
theorem zA (T:Txt K mg t):bO P w K mg base fR 3 t.mF t.kr ["cover"] (yb K A7):=by
 refine zZ T.mJ zl (fun ds M Q h=>by (first | (obtain ⟨_,rfl,_⟩:=h;rfl) | (obtain ⟨_,_,rfl,_⟩:=h;rfl) | (obtain ⟨_,_,_,rfl,_⟩:=h;rfl) | (obtain ⟨_,_,_,_,rfl,_⟩:=h;rfl) | (obtain ⟨_,_,_,_,_,rfl,_⟩:=h;rfl) | (obtain ⟨_,_,_,_,_,_,rfl,_⟩:=h;rfl) | (obtain ⟨_,_,_,_,_,_,_,rfl,_⟩:=h;rfl))) (fun cdv A outer s H hr=>?_)
 have hu:=hr.units
 refine ⟨_,(aC (aM (Dy (n:=2) (.inl rfl) hu (by rfl) (by rfl) T.cW (by rfl) T.L8 (uh (jw (ys:=[]) (fs:=[]) rfl (by show bx (ak ja) ["cover"] _ _ _ _=true;decide +kernel) (cg (oj T) (hr.mono (by decide)) (by rfl) T.pH T.eK.kp (oi T) (af (aa 0) aj)) (fun cl C s0 H0 ex=>pV) (fun cl C s0 H0 ex=>(aF (qC T) (hr.mono (by decide)) (by rfl) T.tL T.gQ.kp (qB T) (af (az (aa 0) ah) (af (az (aa 0) ah) aj))))))))),fun ds M Q h=>?_⟩
 obtain ⟨l,rfl,ts,hM,hts,Sk,h⟩:=h
 have sl:(1000:Nat) < sizeLine:=by decide
 walk_at "rd"
 refine ⟨ts,hM,hts,by omega,fun p hp=>?_⟩
 have ld:=nE ts
 refine ⟨p,_,rfl,ai,by rw [List.length_map];omega,bq.mk (bA (fun j acc M4=>M4=ay M p (.lst ((bf ts).map tD))∧acc=(((bf ts).take j).map IV).map tD) _ ?_ ?_ ⟨rfl,rfl⟩)⟩
 ·rintro j d acc M4 N2 tT ⟨rfl,rfl⟩ jK
  obtain ⟨w,hw,rfl⟩:=fm tT
  obtain ⟨a,b,rfl,_⟩:=rZ w (List.mem_of_getElem? hw)
  refine ⟨ai,?_⟩
  walk_at "rd"
  refine jK _ _ ⟨rfl,?_⟩
  rw [List.take_succ,hw,List.map_append,List.map_append]
  rfl
 ·rintro acc M4 ⟨rfl,hacc⟩
  refine ⟨ai,fun u j8=>?_⟩
  rw [List.length_map,List.take_length] at hacc
  subst hacc
  refine ⟨(bf ts).map IV,.of ai,fun s hs=>?_,by rw [List.length_map];omega,fun q qs hq nd mem hso=>?_⟩
  ·obtain ⟨w,hw,rfl⟩:=List.mem_map.mp hs
   obtain ⟨a,b,rfl,_⟩:=rZ w hw
   rfl
  ·have hp2:M q=none:=by
    cases e:M q with
    | none=>rfl
    | some o=>
      have:=ao (u:=MO.lst (((bf ts).map IV).map tD)) (ao (u:=MO.lst ((bf ts).map tD)) e hp) j8
      rw [hq] at this
      cases this
   exact bq.mk ⟨ay M q (.lst (qs.map tD)),Le.put ((Le.new hp).trans (Le.new j8)),h q qs hp2 nd mem hso⟩
theorem xF (T:Txt K mg t):Binds K t.jq ["a","b","c"] []:=T.kJ.binds fun _ _ _ _ _ _ us hl=>match us,hl with | [_,_,_],_=>rfl
def zB:rA:=fun ds Q=> ∃ a b c:Pl,ds= [a.d,b.d,c.d]∧a.Ok 140∧b.Ok 140∧c.Ok 140∧tw a b c≠0∧Q (.int (tw a b c))
theorem xG (T:Txt K mg t):bO P w K mg base fR 2 t.ku t.jq ["a","b","c"] (qL K zB):=by
 refine vO T.kJ nW (fun ds Q h=>by (first | (obtain ⟨_,rfl,_⟩:=h;rfl) | (obtain ⟨_,_,rfl,_⟩:=h;rfl) | (obtain ⟨_,_,_,rfl,_⟩:=h;rfl) | (obtain ⟨_,_,_,_,rfl,_⟩:=h;rfl) | (obtain ⟨_,_,_,_,_,rfl,_⟩:=h;rfl) | (obtain ⟨_,_,_,_,_,_,rfl,_⟩:=h;rfl) | (obtain ⟨_,_,_,_,_,_,_,rfl,_⟩:=h;rfl))) (fun cdv A outer s H hr=>?_)
 have hu:=hr.units
 refine ⟨_,(av (aV (i:=3) nW.nd rfl (Or.inl rfl) (aF (kM T) (hr.mono (by decide)) (by rfl) T.nS T.jr.kp (kL T) (af (aa 0) (af (aa 1) (af (aa 2) aj)))))
  (av (dF (aU (oF hu) (aa 3) ah (aJ _)) (aC HJ) bS)
  (aC (aM (aa 3))))),fun ds Q h=>?_⟩
 obtain ⟨a,b,c,rfl,ha,hb,hc,hn,h⟩:=h
 walk_at "rd"
 refine ⟨ha,hb,hc,?_⟩
 walk_at "rd"
 refine cJ (fun k=>?_) (fun _=>?_)
 ·exfalso
  rw [cA] at k
  exact hn (eq_of_beq k)
 walk_at "rd"
 exact h
theorem tZ (T:Txt K mg t):Binds K t.sX ["p","q"] []:=T.nT.binds fun _ _ _ _ _ _ us hl=>match us,hl with | [_,_],_=>rfl
def Jm:rA:=fun ds Q=> ∃ p q:Pl,ds= [p.d,q.d]∧p.Ok 140∧q.Ok 140∧Q (.int (xM p q))
theorem t6 (T:Txt K mg t):bO P w K mg base fR 1 t.wX t.sX ["p","q"] (qL K Jm):=by
 refine vO T.nT tP (fun ds Q h=>by (first | (obtain ⟨_,rfl,_⟩:=h;rfl) | (obtain ⟨_,_,rfl,_⟩:=h;rfl) | (obtain ⟨_,_,_,rfl,_⟩:=h;rfl) | (obtain ⟨_,_,_,_,rfl,_⟩:=h;rfl) | (obtain ⟨_,_,_,_,_,rfl,_⟩:=h;rfl) | (obtain ⟨_,_,_,_,_,_,rfl,_⟩:=h;rfl) | (obtain ⟨_,_,_,_,_,_,_,rfl,_⟩:=h;rfl))) (fun cdv A outer s H hr=>?_)
 have hu:=hr.units
 refine ⟨_,(av (aV (i:=2) tP.nd rfl (Or.inl rfl) (au bY (az (aa 1) ah) (az (aa 0) ah)))
  (av (aV (i:=3) tP.nd rfl (Or.inl rfl) (au bY (az (aa 1) ah) (az (aa 0) ah)))
  (aC (aM (au fM (au cO (aa 2) (aa 2)) (au cO (aa 3) (aa 3))))))),fun ds Q h=>?_⟩
 obtain ⟨p,q,rfl,⟨p1,p2⟩,⟨q1,q2⟩,h⟩:=h
 unfold xM at h
 walk_at "rd"
 exact h
theorem Jo (T:Txt K mg t):Binds K t.wY ["a","b","c","d"] []:=T.AV.binds fun _ _ _ _ _ _ us hl=>match us,hl with | [_,_,_,_],_=>rfl
def Ml:rA:=fun ds Q=> ∃ a b c d:Pl,ds= [a.d,b.d,c.d,d.d]∧a.Ok 140∧b.Ok 140∧c.Ok 140∧d.Ok 140∧tw a b c≠0∧Q (.int (rg a b c d))
theorem Jp (T:Txt K mg t):bO P w K mg base fR 3 t.AO t.wY ["a","b","c","d"] (qL K Ml):=by
 refine vO T.AV xj (fun ds Q h=>by (first | (obtain ⟨_,rfl,_⟩:=h;rfl) | (obtain ⟨_,_,rfl,_⟩:=h;rfl) | (obtain ⟨_,_,_,rfl,_⟩:=h;rfl) | (obtain ⟨_,_,_,_,rfl,_⟩:=h;rfl) | (obtain ⟨_,_,_,_,_,rfl,_⟩:=h;rfl) | (obtain ⟨_,_,_,_,_,_,rfl,_⟩:=h;rfl) | (obtain ⟨_,_,_,_,_,_,_,rfl,_⟩:=h;rfl))) (fun cdv A outer s H hr=>?_)
 have hu:=hr.units
 refine ⟨_,(av (aV (i:=4) xj.nd rfl (Or.inl rfl) (aF (xG T) (hr.mono (by decide)) (by rfl) T.zh T.kJ.kp (xF T) (af (aa 0) (af (aa 1) (af (aa 2) aj)))))
  (av (aV (i:=5) xj.nd rfl (Or.inl rfl) (au fM (au fM (au cO (aF (t6 T) (hr.mono (by decide)) (by rfl) T.w6 T.nT.kp (tZ T) (af (aa 3) (af (aa 0) aj))) (aF (kM T) (hr.mono (by decide)) (by rfl) T.nS T.jr.kp (kL T) (af (aa 3) (af (aa 1) (af (aa 2) aj))))) (au cO (aF (t6 T) (hr.mono (by decide)) (by rfl) T.w6 T.nT.kp (tZ T) (af (aa 3) (af (aa 1) aj))) (aF (kM T) (hr.mono (by decide)) (by rfl) T.nS T.jr.kp (kL T) (af (aa 3) (af (aa 2) (af (aa 0) aj)))))) (au cO (aF (t6 T) (hr.mono (by decide)) (by rfl) T.w6 T.nT.kp (tZ T) (af (aa 3) (af (aa 2) aj))) (aF (kM T) (hr.mono (by decide)) (by rfl) T.nS T.jr.kp (kL T) (af (aa 3) (af (aa 0) (af (aa 1) aj)))))))
  (aC (aM (au cO (aF (xx T) (hr.mono (by decide)) (by rfl) T.AS T.tE.kp (xw T) (af (aa 4) aj)) (aF (xx T) (hr.mono (by decide)) (by rfl) T.AS T.tE.kp (xw T) (af (aa 5) aj))))))),fun ds Q h=>?_⟩
 obtain ⟨a,b,c,d,rfl,ha,hb,hc,hd,hn,h⟩:=h
 have s1:=Ac hd ha
 have s2:=Ac hd hb
 have s3:=Ac hd hc
 have t1:=yf hd hb hc
 have t2:=yf hd hc ha
 have t3:=yf hd ha hb
 walk_at "rd"
 refine ⟨ha,hb,hc,hn,?_⟩
 walk_at "rd"
 refine ⟨hd,ha,?_⟩
 walk_at "rd"
 refine ⟨hd,hb,hc,?_⟩
 walk_at "rd"
 refine ⟨hd,hb,?_⟩
 walk_at "rd"
 refine ⟨hd,hc,ha,?_⟩
 walk_at "rd"
 refine ⟨hd,hc,?_⟩
 walk_at "rd"
 refine ⟨hd,ha,hb,?_⟩
 walk_at "rd"
 unfold rg dep at h
 exact h
theorem DR (T:Txt K mg t):Binds K t.pB ["a","b","c","d"] []:=T.tM.binds fun _ _ _ _ _ _ us hl=>match us,hl with | [_,_,_,_],_=>rfl
def GU:rA:=fun ds Q=> ∃ a b c d:Pl,ds= [a.d,b.d,c.d,d.d]∧a.Ok 140∧b.Ok 140∧c.Ok 140∧d.Ok 140∧tw a b c≠0∧Q (.bl (decide (gS a b c d)))
theorem DS (T:Txt K mg t):bO P w K mg base fR 4 t.sY t.pB ["a","b","c","d"] (qL K GU):=by
 refine vO T.tM pI (fun ds Q h=>by (first | (obtain ⟨_,rfl,_⟩:=h;rfl) | (obtain ⟨_,_,rfl,_⟩:=h;rfl) | (obtain ⟨_,_,_,rfl,_⟩:=h;rfl) | (obtain ⟨_,_,_,_,rfl,_⟩:=h;rfl) | (obtain ⟨_,_,_,_,_,rfl,_⟩:=h;rfl) | (obtain ⟨_,_,_,_,_,_,rfl,_⟩:=h;rfl) | (obtain ⟨_,_,_,_,_,_,_,rfl,_⟩:=h;rfl))) (fun cdv A outer s H hr=>?_)
 have hu:=hr.units
 refine ⟨_,(av (aV (i:=4) pI.nd rfl (Or.inl rfl) (aF (Jp T) (hr.mono (by decide)) (by rfl) T.L5 T.AV.kp (Jo T) (af (aa 0) (af (aa 1) (af (aa 2) (af (aa 3) aj))))))
  (av (dF (aU (qh hu) (aa 4) ah (aJ _)) (aC (aM (mV (oF hu) (aa 4) ah (aJ _)))) bS)
  (av (dF (aU (Ex hu) (aa 3) (bD (af (aa 0) (af (aa 1) (af (aa 2) aj)))) (by with_unfolding_all rfl)) (aC (aM qg)) bS)
  (av (aV (i:=5) pI.nd rfl (Or.inl rfl) (bN j4 (by rfl) T.cW bE (af (dU (af (aa 0) (af (aa 1) (af (aa 2) aj)))) aj)))
  (av (dF (aU (uO hu) (aa 3) (az (aa 5) ah) (aJ _)) (aC (aM qg)) bS)
  (aC (aM (mV (qh hu) (aF (n8 T) (hr.mono (by decide)) (by rfl) T.tF T.mH.kp (nZ T) (af (az (aa 5) ah) (af (az (aa 5) ah) (af (aa 3) aj)))) (aF (n8 T) (hr.mono (by decide)) (by rfl) T.tF T.mH.kp (nZ T) (af (az (aa 5) ah) (af (az (aa 5) ah) (af (az (aa 5) ah) aj)))) (aJ _))))))))),fun ds Q h=>?_⟩
 obtain ⟨a,b,c,d,rfl,ha,hb,hc,hd,hn,h⟩:=h
 walk_at "rd"
 refine ⟨ha,hb,hc,hd,hn,?_⟩
 walk_at "rd"
 refine cJ (fun k=>?_) (fun k=>?_)
 ·have k:rg a b c d≠0:=fun z=>by rw [z] at k;exact absurd k (by decide)
  walk_at "rd"
  have e:decide (gS a b c d)=cZ (.int (rg a b c d)) (.int 1):=by
   rw [cA,Bool.eq_iff_iff]
   simp [gS,k]
  rw [e] at h
  exact h
 ·have k:rg a b c d=0:=by
   apply Classical.byContradiction
   intro z
   apply k
   rw [cA,beq_eq_false_iff_ne.mpr z]
   rfl
  walk_at "rd"
  rw [Q6]
  refine cJ (fun k2=>?_) (fun k2=>?_)
  ·have k2:=of_decide_eq_true k2
   walk_at "rd"
   have e:decide (gS a b c d)=false:=decide_eq_false (fun z=>by unfold gS at z;rw [k] at z;grind)
   rw [e] at h
   exact h
  ·have k2:¬ (d=a∨d=b∨d=c):=fun z=>k2 (decide_eq_true z)
   walk_at "rd"
   intro l hl
   refine ⟨l,[a,b,c],rfl,ai,by show 3 < 64;decide,fun p qs hp bM i6=>?_⟩
   obtain ⟨u,v,w,rfl⟩:=iQ bM.length_eq
   obtain ⟨hu,hv,hw⟩:=rL bM ha hb hc
   have key:=Ae hn k k2 bM i6
   rw [key] at h
   walk_at "rd"
   refine ⟨_,_,_,.inr (.inr ⟨p,rfl,ai⟩),rfl,rfl,?_⟩
   walk_at "rd"
   rw [ng]
   refine cJ (fun k3=>?_) (fun k3=>?_)
   ·rw [if_pos (of_decide_eq_true k3)] at h
    walk_at "rd"
    exact h
   ·rw [if_neg (fun z=>k3 (decide_eq_true z))] at h
    walk_at "rd"
    refine ⟨_,_,_,.inr (.inr ⟨p,rfl,ai⟩),rfl,rfl,?_⟩
    walk_at "rd"
    refine ⟨_,_,_,.inr (.inr ⟨p,rfl,ai⟩),rfl,rfl,?_⟩
    walk_at "rd"
    refine ⟨hv,hw,hd,?_⟩
    walk_at "rd"
    refine ⟨_,_,_,.inr (.inr ⟨p,rfl,ai⟩),rfl,rfl,?_⟩
    walk_at "rd"
    refine ⟨_,_,_,.inr (.inr ⟨p,rfl,ai⟩),rfl,rfl,?_⟩
    walk_at "rd"
    refine ⟨_,_,_,.inr (.inr ⟨p,rfl,ai⟩),rfl,rfl,?_⟩
    walk_at "rd"
    refine ⟨hv,hw,hu,?_⟩
    walk_at "rd"
    rw [EV]
    exact h
theorem Cj (T:Txt K mg t):Binds K t.wZ ["way"] []:=T.w9.binds fun _ _ _ _ _ _ us hl=>match us,hl with | [_],_=>rfl
def Mm:rA:=fun ds Q=> ∃ a b:Pl,ds= [tD [a,b]]∧Q (tD [b,a])
theorem Ck (T:Txt K mg t):bO P w K mg base fR 1 t.AQ t.wZ ["way"] (qL K Mm):=by
 refine vO T.w9 Ji (fun ds Q h=>by (first | (obtain ⟨_,rfl,_⟩:=h;rfl) | (obtain ⟨_,_,rfl,_⟩:=h;rfl) | (obtain ⟨_,_,_,rfl,_⟩:=h;rfl) | (obtain ⟨_,_,_,_,rfl,_⟩:=h;rfl) | (obtain ⟨_,_,_,_,_,rfl,_⟩:=h;rfl) | (obtain ⟨_,_,_,_,_,_,rfl,_⟩:=h;rfl) | (obtain ⟨_,_,_,_,_,_,_,rfl,_⟩:=h;rfl))) (fun cdv A outer s H hr=>?_)
 have hu:=hr.units
 refine ⟨_,(aC (aM (bD (af (az (aa 0) ah) (af (az (aa 0) ah) aj))))),fun ds Q h=>?_⟩
 obtain ⟨a,b,rfl,h⟩:=h
 walk_at "rd"
 exact h
theorem zC (T:Txt K mg t):Binds K t.kB ["corners","side"] []:=T.mK.binds fun _ _ _ _ _ _ us hl=>match us,hl with | [_,_],_=>rfl
def A8:vN:=fun ds M Q=> ∃ (a:Addr) (u v:Pl) (kvs:List (List (List Int) ×L3.D)),ds= [.ref a,tD [u,v]]∧M a=some (.oB kvs)∧(((bg kvs (bX [u,v])=none∨bg kvs (bX [v,u])=none)∧Q (.bl false) M)∨∃ x y:Pl,bg kvs (bX [u,v])=some x.d∧bg kvs (bX [v,u])=some y.d∧u.Ok 140∧v.Ok 140∧x.Ok 140∧y.Ok 140∧tw u v x≠0∧Q (.bl (decide (gS u v x y))) M)
theorem zD (T:Txt K mg t):bO P w K mg base fR 5 t.mG t.kB ["corners","side"] (yb K A8):=by
 refine zZ T.mK zm (fun ds M Q h=>by (first | (obtain ⟨_,rfl,_⟩:=h;rfl) | (obtain ⟨_,_,rfl,_⟩:=h;rfl) | (obtain ⟨_,_,_,rfl,_⟩:=h;rfl) | (obtain ⟨_,_,_,_,rfl,_⟩:=h;rfl) | (obtain ⟨_,_,_,_,_,rfl,_⟩:=h;rfl) | (obtain ⟨_,_,_,_,_,_,rfl,_⟩:=h;rfl) | (obtain ⟨_,_,_,_,_,_,_,rfl,_⟩:=h;rfl))) (fun cdv A outer s H hr=>?_)
 have hu:=hr.units
 refine ⟨_,(av (dF (qH.pt (vM (aU (sM hu) (aa 1) (aa 0) (by with_unfolding_all rfl)) (qY (aU (sM hu) (aF (Ck T) (hr.mono (by decide)) (by rfl) T.GL T.w9.kp (Cj T) (af (aa 1) aj)) (aa 0) (by with_unfolding_all rfl))))) (aC (aM qg)) bS)
  (aC (aM (aF (DS T) (hr.mono (by decide)) (by rfl) T.GK T.tM.kp (DR T) (af (az (aa 1) ah) (af (az (aa 1) ah) (af (JW hu (aa 0) (aa 1)) (af (JW hu (aa 0) (aF (Ck T) (hr.mono (by decide)) (by rfl) T.GL T.w9.kp (Cj T) (af (aa 1) aj))) aj)))))))),fun ds M Q h=>?_⟩
 obtain ⟨a,u,v,kvs,rfl,hM,h⟩:=h
 walk_at "rd"
 refine ⟨a,bX [u,v],kvs,(lC [u,v]).symm,rfl,hM,?_⟩
 rcases h with ⟨hn,h⟩ | ⟨x,y,g1,g2,ou,ov,ox,oy,hn,h⟩
 ·by_cases c:bg kvs (bX [u,v])=none
  ·rw [c]
   walk_at "rd"
   exact bq.mk ⟨_,Le.refl _,h⟩
  ·obtain ⟨z,hz⟩:=Option.ne_none_iff_exists'.mp c
   rw [hz]
   walk_at "rd"
   refine ⟨a,bX [v,u],kvs,(lC [v,u]).symm,rfl,hM,?_⟩
   rw [hn.resolve_left c]
   walk_at "rd"
   exact bq.mk ⟨_,Le.refl _,h⟩
 ·rw [g1]
  walk_at "rd"
  refine ⟨a,bX [v,u],kvs,(lC [v,u]).symm,rfl,hM,?_⟩
  rw [g2]
  walk_at "rd"
  refine ⟨a,bX [u,v],kvs,_,rfl,(lC [u,v]).symm,hM,g1,?_⟩
  walk_at "rd"
  refine ⟨a,bX [v,u],kvs,_,rfl,(lC [v,u]).symm,hM,g2,?_⟩
  walk_at "rd"
  refine ⟨ou,ov,ox,oy,hn,?_⟩
  exact bq.mk ⟨_,Le.refl _,h⟩
theorem GV (T:Txt K mg t):Binds K t.sZ ["cover"] []:=T.xg.binds fun _ _ _ _ _ _ us hl=>match us,hl with | [_],_=>rfl
def Jq:vN:=fun ds M Q=> ∃ l:Addr,ds= [.ref l]∧∃ (ps:List Pl) (ts:List (List Pl)),M l=some (.lst (ts.map tD))∧(∀ t∈ts,nF ps t)∧(bf ts).Nodup∧(∀ q∈ps,q.Ok 140)∧ts.length≤20∧∀ (r:Addr) (ws:List (List Pl)),M r=none→ws.Nodup→(∀ s,s∈ws↔c8 ts s)→ws.Pairwise (fun p q=>c7 q p=false)→ws.length≤60→Q (.ref r) (ay M r (.lst (ws.map tD)))
theorem GW (T:Txt K mg t):bO P w K mg base fR 6 t.w4 t.sZ ["cover"] (yb K Jq):=by
 refine zZ T.xg zo (fun ds M Q h=>by (first | (obtain ⟨_,rfl,_⟩:=h;rfl) | (obtain ⟨_,_,rfl,_⟩:=h;rfl) | (obtain ⟨_,_,_,rfl,_⟩:=h;rfl) | (obtain ⟨_,_,_,_,rfl,_⟩:=h;rfl) | (obtain ⟨_,_,_,_,_,rfl,_⟩:=h;rfl) | (obtain ⟨_,_,_,_,_,_,rfl,_⟩:=h;rfl) | (obtain ⟨_,_,_,_,_,_,_,rfl,_⟩:=h;rfl))) (fun cdv A outer s H hr=>?_)
 have hu:=hr.units
 refine ⟨_,(av (aV (i:=1) zo.nd rfl (Or.inr rfl) (cg (qA T) (hr.mono (by decide)) (by rfl) T.tK T.gP.kp (qz T) (af (aa 0) aj)))
  (aC (aM (uh (jw (ys:=["corners"]) (fs:=[1]) rfl (by show bx (ak qE) ["cover","corners"] _ _ _ _=true;decide +kernel) (cg (zA T) (hr.mono (by decide)) (by rfl) T.AU T.mJ.kp (zz T) (af (aa 0) aj)) (fun cl C s0 H0 ex=>pW (mW (cg (zD T) (hr.mono (by decide)) (by rfl) T.AW T.mK.kp (zC T) (af (aa 1) (af (aa 0) aj))))) (fun cl C s0 H0 ex=>(aa 0))))))),fun ds M Q h=>?_⟩
 obtain ⟨l,rfl,ps,ts,hM,hT,J0,ho,lt,h⟩:=h
 have sl:(1000:Nat) < sizeLine:=by decide
 have O7:∀ t∈ts,Tr t:=fun t ht=>(hT t ht).tr ho
 walk_at "rd"
 refine ⟨ts,hM,O7,by omega,fun c hcn=>?_⟩
 have O8:=ao (u:=MO.oB (jI (gT ts))) hM hcn
 have Tz:ay M c (.oB (jI (gT ts))) c=some (.oB (jI (gT ts))):=ai
 have G4:Le M (ay M c (.oB (jI (gT ts)))):=Le.new hcn
 generalize ay M c (.oB (jI (gT ts)))=M1 at O8 Tz G4 ⊢
 walk_at "rd"
 refine ⟨ts,O8,O7,lt,fun u qs j8 nd mem so=>?_⟩
 have lq:qs.length≤60:=by
  have h1:=GA nd fun s hs=>(mem s).mp hs
  have h2:=nE ts
  rw [List.length_map] at h1
  omega
 have TF:=ao (u:=MO.lst (qs.map tD)) Tz j8
 have Cf:=G4.trans (Le.new (o:=MO.lst (qs.map tD)) j8)
 have hU:ay M1 u (.lst (qs.map tD)) u=some (.lst (qs.map tD)):=ai
 generalize ay M1 u (.lst (qs.map tD))=M2 at TF Cf hU ⊢
 refine ⟨u,_,rfl,hU,by rw [List.length_map];omega,bq.mk (bA (fun j acc M4=>M4=M2∧acc=((qs.take j).filter (qR ts)).map tD) _ ?_ ?_ ⟨rfl,rfl⟩)⟩
 ·rintro j d acc M4 N2 tT ⟨rfl,rfl⟩ jK
  obtain ⟨s,hs,rfl⟩:=fm tT
  obtain ⟨w,hw,ew⟩:=List.mem_map.mp ((mem s).mp (List.mem_of_getElem? hs))
  obtain ⟨x0,y0,rfl,_⟩:=rZ w hw
  obtain ⟨t0,ht0,m0⟩:=cu.mp hw
  obtain ⟨c0,r0⟩:=ji (hT t0 ht0) m0
  obtain ⟨p0,_⟩:=r0.tw (hT t0 ht0)
  have n0:x0≠y0:=fun z=>by rw [z] at p0;unfold tw at p0;exact absurd p0 (by grind)
  have ew:s= [lo x0 y0,hi x0 y0]:=ew.symm
  obtain ⟨a,ea⟩:∃ a,a=lo x0 y0:=⟨_,rfl⟩
  obtain ⟨b,eb⟩:∃ b,b=hi x0 y0:=⟨_,rfl⟩
  have hab:aI a b:=by rw [ea,eb];exact vz n0
  rw [← ea,← eb] at ew
  subst ew
  refine ⟨hU,?_⟩
  walk_at "rd"
  have fin:∀ k:Bool,k=qR ts [a,b]→(k=true→N2 (((qs.take j).filter (qR ts)).map tD ++ [tD [a,b]]) M4)∧(¬ k=true→N2 (((qs.take j).filter (qR ts)).map tD) M4):=by
   intro k e
   constructor
   ·intro ek
    refine jK _ _ ⟨rfl,?_⟩
    rw [cz hs,if_pos (e▸ek),List.map_append]
    rfl
   ·intro ek
    refine jK _ _ ⟨rfl,?_⟩
    rw [cz hs,if_neg (e▸ek),List.append_nil]
  refine ⟨c,a,b,_,rfl,TF,?_⟩
  rcases Cc hT a b with ⟨g1,n1⟩ | ⟨x,g1,t1,ht1,r1⟩
  ·exact .inl ⟨.inl g1,_,rfl,cJ (fun k=>⟨_,rfl,(fin false (nQ (.inl n1)).symm).1 k⟩) (fun k=>(fin false (nQ (.inl n1)).symm).2 k)⟩
  ·rcases Cc hT b a with ⟨g2,n2⟩ | ⟨y,g2,t2,TH,r2⟩
   ·exact .inl ⟨.inr g2,_,rfl,cJ (fun k=>⟨_,rfl,(fin false (nQ (.inr n2)).symm).1 k⟩) (fun k=>(fin false (nQ (.inr n2)).symm).2 k)⟩
   ·obtain ⟨q1,ha,hb,hx⟩:=r1.tw (hT t1 ht1)
    obtain ⟨q2,_,_,hy⟩:=r2.tw (hT t2 TH)
    have ey:=o8 J0 hT hab ⟨⟨t1,ht1,r1⟩,⟨t2,TH,r2⟩⟩
    exact .inr ⟨x,y,g1,g2,ho a ha,ho b hb,ho x hx,ho y hy,by omega,_,rfl,cJ (fun k=>⟨_,rfl,(fin _ ey.symm).1 k⟩) (fun k=>(fin _ ey.symm).2 k)⟩
 ·rintro acc M4 ⟨rfl,hacc⟩
  refine ⟨hU,fun r hr=>?_⟩
  rw [List.length_map,List.take_length] at hacc
  subst hacc
  have hr2:M r=none:=by
   cases z:M r with
   | none=>rfl
   | some o=>
     rw [Cf _ _ z] at hr
     cases hr
  refine bq.mk ⟨_,Le.put Cf,h r _ hr2 (nd.filter _) (fun s=>?_) (so.filter _) (Nat.le_trans (List.length_filter_le _ _) lq)⟩
  rw [List.mem_filter,fW]
  refine ⟨fun k=>k.2,fun k=>⟨(mem s).mpr ?_,k⟩⟩
  obtain ⟨a,b,c,d,rfl,hab,⟨⟨t,ht,r⟩,_⟩,_⟩:=k
  refine List.mem_map.mpr ⟨[a,b],cu.mpr ⟨t,ht,r.wN⟩,?_⟩
  show [lo a b,hi a b]= [a,b]
  unfold lo hi
  rw [if_neg (aE hab),if_pos hab]
theorem kP (T:Txt K mg t):Binds K t.gO ["_law_t","_law_d"] []:=T.eV.binds fun _ _ _ _ _ _ us hl=>match us,hl with | [_,_],_=>rfl
theorem Pb {a b c d:Pl} (b1:aI a b) (b2:aI a c) (h:0 < tw a b c) (h0:dep a b c d=0):decide (gS a b c d)=(decide (aI d a) || decide (tw b c d < 0)):=by
 by_cases hd:d=a∨d=b∨d=c
 ·rw [decide_eq_false (AH hd)]
  have g:=jH a b c
  rcases hd with rfl | rfl | rfl
  ·rw [decide_eq_false (bI _),decide_eq_false (show ¬ tw b c d < 0 by omega)]
   rfl
  ·rw [decide_eq_false (aE b1),decide_eq_false (show ¬ tw d c d < 0 by unfold tw;grind)]
   rfl
  ·rw [decide_eq_false (aE b2),decide_eq_false (show ¬ tw b d d < 0 by unfold tw;grind)]
   rfl
 ·exact CV b1 b2 h hd h0
def fY (d q:Pl):Pl:=⟨q.x - d.x,q.y - d.y⟩
def qD (q:Pl):Int:=q.x*q.x+q.y*q.y
theorem Pc (a b c d:Pl):qD (fY d a)*((fY d b).x*(fY d c).y - (fY d b).y*(fY d c).x) - qD (fY d b)*((fY d a).x*(fY d c).y - (fY d a).y*(fY d c).x)+qD (fY d c)*((fY d a).x*(fY d b).y - (fY d a).y*(fY d b).x)=dep a b c d:=by unfold qD fY dep xM tw;grind
def uF:rA:=fun ds Q=> ∃ a b c d:Pl,ds= [tD [a,b,c],d.d]∧a.Ok 140∧b.Ok 140∧c.Ok 140∧d.Ok 140∧aI a b∧aI a c∧0 < tw a b c∧Q (.bl (decide (gS a b c d)))
theorem kQ (T:Txt K mg t):bO P w K mg base fR 2 t.iJ t.gO ["_law_t","_law_d"] (qL K uF):=by
 refine vO T.eV aZ (fun ds Q h=>by (first | (obtain ⟨_,rfl,_⟩:=h;rfl) | (obtain ⟨_,_,rfl,_⟩:=h;rfl) | (obtain ⟨_,_,_,rfl,_⟩:=h;rfl) | (obtain ⟨_,_,_,_,rfl,_⟩:=h;rfl) | (obtain ⟨_,_,_,_,_,rfl,_⟩:=h;rfl) | (obtain ⟨_,_,_,_,_,_,rfl,_⟩:=h;rfl) | (obtain ⟨_,_,_,_,_,_,_,rfl,_⟩:=h;rfl))) (fun cdv A outer s H hr=>?_)
 have hu:=hr.units
 refine ⟨_,(av (Bv (aa 0) (EC rfl (je (cB (i:=2) aZ.nd rfl (Or.inl rfl)) (je (cB (i:=3) aZ.nd rfl (Or.inl rfl)) (je (cB (i:=4) aZ.nd rfl (Or.inl rfl)) zX)))))
  (av (CQ (j:=5) (BD (ys:=["_law_d"]) (fs:=[1]) rfl (by show bx (ak c9) ["_law_t","_law_d","_law_a","_law_b","_law_c","_law_near","_law_high","_law_number"] _ _ _ _=true;decide +kernel) (aa 0) (fun cl C s0 H0 ex=>pV) (fun cl C s0 H0 ex=>(bD (af (au bY (az (aa 0) ah) (az (aa 1) ah)) (af (au bY (az (aa 0) ah) (az (aa 1) ah)) aj))))) aZ.nd rfl (Or.inl rfl))
  (av (CQ (j:=6) (jw (ys:=[]) (fs:=[]) rfl (by show bx (ak c9) ["_law_t","_law_d","_law_a","_law_b","_law_c","_law_near","_law_high","_law_number"] _ _ _ _=true;decide +kernel) (aa 5) (fun cl C s0 H0 ex=>pV) (fun cl C s0 H0 ex=>(au fM (au cO (az (aa 0) ah) (az (aa 0) ah)) (au cO (az (aa 0) ah) (az (aa 0) ah))))) aZ.nd rfl (Or.inl rfl))
  (av (aV (i:=7) aZ.nd rfl (Or.inl rfl) (au cO (az (aa 6) ah) (au bY (au cO (az (az (aa 5) ah) ah) (az (az (aa 5) ah) ah)) (au cO (az (az (aa 5) ah) ah) (az (az (aa 5) ah) ah)))))
  (av (aV (i:=7) aZ.nd rfl (Or.inl rfl) (au bY (aa 7) (au cO (az (aa 6) ah) (au bY (au cO (az (az (aa 5) ah) ah) (az (az (aa 5) ah) ah)) (au cO (az (az (aa 5) ah) ah) (az (az (aa 5) ah) ah))))))
  (av (aV (i:=7) aZ.nd rfl (Or.inl rfl) (au fM (aa 7) (au cO (az (aa 6) ah) (au bY (au cO (az (az (aa 5) ah) ah) (az (az (aa 5) ah) ah)) (au cO (az (az (aa 5) ah) ah) (az (az (aa 5) ah) ah))))))
  (aC (aM (NG (mV Ep (aa 7) ah (aJ _)) (x6 (Bs (mV (oF hu) (aa 7) ah (aJ _)) (x6 (NG (mV (uO hu) (aa 1) (aa 2) (aJ _)) (x6 (mV (uO hu) (aF (eY T) (hr.mono (by decide)) (by rfl) T.fX T.cV.kp (eX T) (af (aa 3) (af (aa 4) (af (aa 1) aj)))) ah (aJ _)))))))))))))))),fun ds Q h=>?_⟩
 obtain ⟨a,b,c,d,rfl,ha,hb,hc,hd,b1,b2,ht,h⟩:=h
 obtain ⟨d1,d2⟩:=id hd
 have Mn:∀ q:Pl,q.Ok 140→(fY d q).Ok 142:=fun q ⟨q1,q2⟩=>⟨by show Sm 142 (q.x - d.x);walk_at "smle",by show Sm 142 (q.y - d.y);walk_at "smle"⟩
 have Mq:∀ q:Pl,q.Ok 142→Sm 290 (qD q):=fun q ⟨q1,q2⟩=>by show Sm 290 (q.x*q.x+q.y*q.y);walk_at "smle"
 have num:=Pc a b c d
 walk_at "rd"
 refine ⟨by show 3 < sizeLine;decide,bq.mk (bA (fun i acc M4=>acc=(([a,b,c].take i).map (fY d)).map Pl.d) _ ?_ ?_ rfl)⟩
 ·rintro i x acc M4 N hx rfl hN
  obtain ⟨q,hq,rfl⟩:=oN (ps:=[a,b,c]) hx
  have oq:q.Ok 140:=by
   have mq:=List.mem_of_getElem? hq
   simp only [List.mem_cons,List.not_mem_nil,or_false] at mq
   rcases mq with rfl | rfl | rfl
   ·exact ha
   ·exact hb
   ·exact hc
  obtain ⟨q1,q2⟩:=oq
  refine ⟨trivial,?_⟩
  walk_at "rd"
  refine hN _ _ ?_
  rw [List.take_succ,hq,List.map_append,List.map_append]
  rfl
 rintro acc M4 hacc
 have hacc:acc= [fY d a,fY d b,fY d c].map Pl.d:=hacc
 subst hacc
 have o1:=Mn a ha
 have o2:=Mn b hb
 have o3:=Mn c hc
 generalize fY d a=p1 at o1 num ⊢
 generalize fY d b=p2 at o2 num ⊢
 generalize fY d c=p3 at o3 num ⊢
 refine ⟨trivial,fun u j8=>?_⟩
 have hU:ay M4 u (.lst ([p1,p2,p3].map Pl.d)) u=some (.lst ([p1,p2,p3].map Pl.d)):=ai
 generalize ay M4 u (.lst ([p1,p2,p3].map Pl.d))=M5 at hU ⊢
 walk_at "rd"
 refine ⟨u,_,rfl,hU,by show 3 < sizeLine;decide,bq.mk (bA (fun i acc M4=>M4 u=some (.lst ([p1,p2,p3].map Pl.d))∧acc=(([p1,p2,p3].take i).map qD).map L3.D.int) _ ?_ ?_ ⟨hU,rfl⟩)⟩
 ·rintro i x acc M6 N hx ⟨Pd,rfl⟩ hN
  obtain ⟨q,hq,rfl⟩:=oN (ps:=[p1,p2,p3]) hx
  have oq:q.Ok 142:=by
   have mq:=List.mem_of_getElem? hq
   simp only [List.mem_cons,List.not_mem_nil,or_false] at mq
   rcases mq with rfl | rfl | rfl <;> assumption
  obtain ⟨q1,q2⟩:=oq
  refine ⟨Pd,?_⟩
  walk_at "rd"
  refine hN _ _ ⟨Pd,?_⟩
  rw [List.take_succ,hq,List.map_append,List.map_append]
  rfl
 rintro acc M6 ⟨Pd,hacc⟩
 have hacc:acc= [qD p1,qD p2,qD p3].map L3.D.int:=hacc
 subst hacc
 have s1:=Mq p1 o1
 have s2:=Mq p2 o2
 have s3:=Mq p3 o3
 generalize qD p1=h1 at s1 num ⊢
 generalize qD p2=h2 at s2 num ⊢
 generalize qD p3=h3 at s3 num ⊢
 refine ⟨Pd,fun v hv=>?_⟩
 have hV:ay M6 v (.lst ([h1,h2,h3].map L3.D.int)) v=some (.lst ([h1,h2,h3].map L3.D.int)):=ai
 have TJ:=ao (u:=MO.lst ([h1,h2,h3].map L3.D.int)) Pd hv
 generalize ay M6 v (.lst ([h1,h2,h3].map L3.D.int))=M7 at hV TJ ⊢
 obtain ⟨x1,y1⟩:=p1
 obtain ⟨x2,y2⟩:=p2
 obtain ⟨x3,y3⟩:=p3
 obtain ⟨u1,v1⟩:=o1
 obtain ⟨u2,v2⟩:=o2
 obtain ⟨u3,v3⟩:=o3
 dsimp only at u1 u2 u3 v1 v2 v3 num
 iterate 15
  walk_at "rd"
  first
  | refine ⟨_,_,_,.inr (.inr ⟨v,rfl,hV⟩),rfl,rfl,?_⟩
  | refine ⟨_,_,_,.inr (.inr ⟨u,rfl,TJ⟩),rfl,rfl,?_⟩
 walk_at "rd"
 dsimp only
 refine cJ (fun q=>?_) (fun q=>?_)
 ·rw [num] at q
  rw [decide_eq_true (l0 ht (of_decide_eq_true q))] at h
  exact h
 rw [num] at q
 have q:¬ 0 < dep a b c d:=fun z=>q (decide_eq_true z)
 generalize hnn:h1*(x2*y3 - y2*x3) - h2*(x1*y3 - y1*x3)+h3*(x1*y2 - y1*x2)=nn
 have Vw:nn=dep a b c d:=hnn.symm.trans num
 clear hnn
 subst Vw
 walk_at "rd"
 by_cases z:dep a b c d=0
 ·rw [Pb b1 b2 ht z] at h
  rw [show L3.cZ (.int (dep a b c d)) (.int 0)=true by rw [cA,z];rfl]
  walk_at "rd"
  rw [ng]
  refine cJ (fun w=>?_) (fun w=>?_)
  ·rw [decide_eq_true (of_decide_eq_true w)] at h
   exact h
  have w:decide (aI d a)=false:=by simpa using w
  rw [w] at h
  walk_at "rd"
  refine ⟨hb,hc,hd,?_⟩
  walk_at "rd"
  exact h
 rw [decide_eq_false (fun sp=>by have:=(Bx ht sp).1;omega)] at h
 rw [show L3.cZ (.int (dep a b c d)) (.int 0)=false by rw [cA];simpa using z]
 walk_at "rd"
 exact h
theorem Sn (T:Txt K mg t):Binds K t.AR ["_law_script"] []:=T.JZ.binds fun _ _ _ _ _ _ us hl=>match us,hl with | [_],_=>rfl
abbrev GX:=E5
theorem Jr {qs ps:List Pl} {ts:List (List Pl)} (xP:cY qs) (bM:qs.Perm ps) (MM:ts.Perm (jg qs qs.length)) (hst:ts.Pairwise (fun p q=>c7 q p=false)) (TL:ps.length≤12):vA qs ts∧ts.length≤20:=by
 have TM:∀ t∈ts,nF qs t:=fun t ht=>wu xP qs.length (Nat.le_refl _) t (MM.mem_iff.mp ht)
 have fe:Flat qs→ts= []:=fun fl=>by
  cases e:ts with
  | nil=>rfl
  | cons t0 tr=>
    obtain ⟨u,v,w,et,pos,j8,hv',G3,_⟩:=(TM t0 (by rw [e];simp)).parts
    have:=fl u j8 v hv' w G3
    omega
 refine ⟨⟨⟨xP,wm.perm (by have:=BS xP qs.length (Nat.le_refl _);rw [List.take_length] at this;exact this) (List.Perm.flatMap_right _ MM),TM⟩,fe,fun nf q hq=>?_,hst⟩,?_⟩
 ·obtain ⟨t,ht,mq⟩:=sy xP qs.length (Nat.le_refl _) (by rw [List.take_length];exact nf) q (by rw [List.take_length];exact hq)
  exact ⟨t,MM.mem_iff.mpr ht,mq⟩
 ·by_cases fl:Flat qs
  ·rw [fe fl];exact Nat.zero_le _
  ·have h2:2≤qs.length:=by
    apply Classical.byContradiction
    intro z
    exact fl (l8 (by omega))
   have c:=Dz xP h2
   have l2:=(vc xP h2).1
   rw [MM.length_eq]
   have:=bM.length_eq
   omega
theorem Mr {us:List (List Pl)} {t:List Pl} {a b c:Pl} (ht:t∈us) (r:dD t a b c) (hab:aI a b):∃ k:Nat,k < 3*us.length∧AZ us (k:Int)= [a,b]:=by
 obtain ⟨i,hi⟩:=List.getElem?_of_mem ht
 have li:i < us.length:=(List.getElem?_eq_some_iff.mp hi).1
 have key:∀ j:Nat,j < 3→AZ us ((i+us.length*j:Nat):Int)=MJ t (j:Int):=fun j hj=>by
  unfold AZ
  rw [← Int.natCast_emod,← Int.natCast_ediv,Nat.add_mul_mod_self_left,Nat.mod_eq_of_lt li,Int.toNat_natCast,List.getD_eq_getElem?_getD,hi]
  have e:(i+us.length*j) / us.length=j:=by
   rw [Nat.add_mul_div_left _ _ (by omega),Nat.div_eq_of_lt li,Nat.zero_add]
  rw [e]
  show MJ t ((j:Int) % 3)=_
  rw [Int.emod_eq_of_lt (by omega) (by omega)]
 have bd:∀ j:Nat,j < 3→i+us.length*j < 3*us.length:=fun j hj=>by
  have:j=0∨j=1∨j=2:=by omega
  rcases this with rfl | rfl | rfl <;> omega
 have e2: [lo b a,L3.hi b a]= [a,b]:=by
  unfold lo L3.hi
  rw [if_pos hab,if_neg (aE hab)]
 rcases r with rfl | rfl | rfl
 ·exact ⟨_,bd 1 (by decide),(key 1 (by decide)).trans e2⟩
 ·exact ⟨_,bd 0 (by decide),(key 0 (by decide)).trans e2⟩
 ·exact ⟨_,bd 2 (by decide),(key 2 (by decide)).trans e2⟩
theorem eq2 {n:Nat} {k:Int} (h:(n:Int)=k):L3.cZ (.int (n:Int)) (.int k)=true:=by rw [cA,h];simp
theorem ne2 {n:Nat} {k:Int} (h:¬ (n:Int)=k):L3.cZ (.int (n:Int)) (.int k)=false:=by rw [cA];simpa using h
theorem Ms (T:Txt K mg t):bO P w K mg base fR 7 t.GJ t.AR ["_law_script"] (qL K GX):=by
 refine vO T.JZ gR (fun ds Q h=>by (first | (obtain ⟨_,rfl,_⟩:=h;rfl) | (obtain ⟨_,_,rfl,_⟩:=h;rfl) | (obtain ⟨_,_,_,rfl,_⟩:=h;rfl) | (obtain ⟨_,_,_,_,rfl,_⟩:=h;rfl) | (obtain ⟨_,_,_,_,_,rfl,_⟩:=h;rfl) | (obtain ⟨_,_,_,_,_,_,rfl,_⟩:=h;rfl) | (obtain ⟨_,_,_,_,_,_,_,rfl,_⟩:=h;rfl))) (fun cdv A outer s H hr=>?_)
 have hu:=hr.units
 refine ⟨_,(av (aV (i:=1) gR.nd rfl (Or.inl rfl) (aF (xo T) (hr.mono (by decide)) (by rfl) T.ze T.kC.kp (xm T) (af (aF (mO T) (hr.mono (by decide)) (by rfl) T.pC T.iU.kp (mL T) (af (aa 0) (af ah aj))) aj)))
  (av (aV (i:=2) gR.nd rfl (Or.inl rfl) (cg (tR T) (hr.mono (by decide)) (by rfl) T.uz T.iK.kp (tQ T) (af (aa 0) (af (aa 1) aj))))
  (av (aV (i:=3) gR.nd rfl (Or.inl rfl) (cg (tV T) (hr.mono (by decide)) (by rfl) T.uA T.iL.kp (tU T) (af (cg (GR T) (hr.mono (by decide)) (by rfl) T.Je T.w5.kp (GQ T) (af (Ez E1 (by rfl) T.nU gn (af (aa 2) aj)) aj)) (af (e9 (aa 0) (gu (au fM ah (aa 1))) (gu (au fM ah (aa 1)))) aj))))
  (av (aV (i:=4) gR.nd rfl (Or.inl rfl) (dU aj))
  (av (zY PassesOwn.never rfl (by rfl) T.tO (af (au cO ah (bN gU (by rfl) T.dN bu (af (aa 3) aj))) aj) (cB (i:=5) gR.nd rfl (Or.inl rfl)) (av (aV (i:=6) gR.nd rfl (Or.inr rfl) (cg (nY T) (hr.mono (by decide)) (by rfl) T.p8 T.gZ.kp (nX T) (af (aa 3) (af (aa 5) aj))))
  (av (CQ (j:=7) (jw (ys:=["_law_side"]) (fs:=[6]) rfl (by show bx (ak xQ) ["_law_script","_law_many_here","_law_places_here","_law_cover","_law_due","_law_k","_law_side","_law_both","_law_far","_law_ways","_law_handed"] _ _ _ _=true;decide +kernel) (aa 3) (fun cl C s0 H0 ex=>pW (qH.pt (qZ (aU (Ex hu) (az (aa 1) ah) (aa 0) (by with_unfolding_all rfl)) (lW (aU (Ex hu) (az (aa 1) ah) (aa 0) (by with_unfolding_all rfl)))))) (fun cl C s0 H0 ex=>(aa 0))) gR.nd rfl (Or.inl rfl))
  (aC (dF (qH.pt (qZ (aU (qK hu) (aa 6) (aa 4) (by with_unfolding_all rfl)) (lW (aU (oF hu) (bN gU (by rfl) T.dN bu (af (aa 7) aj)) ah (aJ _))))) (av (CQ (j:=8) (jw (ys:=["_law_side"]) (fs:=[6]) rfl (by show bx (ak xQ) ["_law_script","_law_many_here","_law_places_here","_law_cover","_law_due","_law_k","_law_side","_law_both","_law_far","_law_ways","_law_handed"] _ _ _ _=true;decide +kernel) (aa 7) (fun cl C s0 H0 ex=>pV) (fun cl C s0 H0 ex=>(az (uh (BD (ys:=["_law_side"]) (fs:=[1]) rfl (by kernel_rfl) (aa 0) (fun cl C s0 H0 ex=>pW (aU (qK hu) (aa 0) (aa 1) (by with_unfolding_all rfl))) (fun cl C s0 H0 ex=>(aa 0)))) ah))) gR.nd rfl (Or.inl rfl))
  (av (aV (i:=9) gR.nd rfl (Or.inl rfl) (dU (af (aF (kQ T) (hr.mono (by decide)) (by rfl) T.lN T.eV.kp (kP T) (af (az (aa 7) ah) (af (az (aa 8) ah) aj))) (af (aF (kQ T) (hr.mono (by decide)) (by rfl) T.lN T.eV.kp (kP T) (af (az (aa 7) ah) (af (az (aa 8) ah) aj))) aj))))
  (av (dF (qH.pt (vM (aU (qh hu) (az (aa 9) ah) (az (aa 9) ah) (aJ _)) (qY (qH.pt (qZ (mW (az (aa 9) ah)) (lW (aU Ow (cg (jC T) (hr.mono (by decide)) (by rfl) T.kF T.dJ.kp (jB T) (af (aa 3) (af (az (aa 6) ah) (af (az (aa 6) ah) aj)))) Br (aJ _)))))))) (aC (aM qg)) bS)
  (aC (dF (mW (az (aa 9) ah)) (aC (oH (EG (aa 4) (aa 6) (xY PySem.F.plainAttrs_list PySem.F.slot_list_append PySem.F.type_list_append kW (bZ.dn (aa 4)) (kT (bZ.dn (aa 6)) oA))))) bS))))) bS)))))
  (av (aV (i:=10) gR.nd rfl (Or.inl rfl) (Ez E1 (by rfl) T.nU gn (af (aa 3) aj)))
  (aC (aM (Bs (cg (xE T) (hr.mono (by decide)) (by rfl) T.zg T.kH.kp (xD T) (af (cg (GW T) (hr.mono (by decide)) (by rfl) T.Jf T.xg.kp (GV T) (af (aa 10) aj)) (af (bN (oQ (n:=2) (.inl rfl) hu) (by rfl) T.cW bE (af (aa 4) aj)) (af ah aj)))) (x6 (mV (Lo hu) (aa 10) (aa 3) (aJ _)))))))))))),fun ds Q h=>?_⟩
 obtain ⟨ns,rfl,hl,hb,h⟩:=h
 have sl:(1000:Nat) < sizeLine:=by decide
 walk_at "rd"
 refine ⟨hb,hl,fun z1 WK=>?_⟩
 walk_at "rd"
 intro m m0 WL
 walk_at "rd"
 refine ⟨hb,hl,m0,fun l ps Vx nd ho hlen=>?_⟩
 have Pe:∀ q∈ps,q.Ok 140:=fun q hq=>⟨(ho q hq).1.le (by decide),(ho q hq).2.le (by decide)⟩
 have TL:ps.length≤12:=by omega
 have hM:ay MA l (.lst (ps.map Pl.d)) l=some (.lst (ps.map Pl.d)):=ai
 generalize ay MA l (.lst (ps.map Pl.d))=M0 at hM ⊢
 walk_at "rd"
 refine ⟨_,_,rfl,.of hM,fun l2 hl2=>?_⟩
 have hL:ay M0 l2 (.lst (ps.map Pl.d)) l2=some (.lst (ps.map Pl.d)):=ai
 generalize ay M0 l2 (.lst (ps.map Pl.d))=M1 at hL ⊢
 walk_at "rd"
 refine ⟨ps,hL,nd,by omega,Pe,fun f qs ts hf bM xP MM hst=>?_⟩
 obtain ⟨I0,lT⟩:=Jr xP bM MM hst TL
 have oq:∀ q∈qs,q.Ok 140:=fun q hq=>Pe q (bM.mem_iff.mp hq)
 have hF:ay M1 f (.lst (ts.map tD)) f=some (.lst (ts.map tD)):=ai
 generalize ay M1 f (.lst (ts.map tD))=M2 at hF ⊢
 walk_at "rd"
 refine ⟨_,.inl rfl,fun c hc=>?_⟩
 obtain ⟨zs,_,_,_,ez⟩:=yF (k:=3+m) (m:=16) hb (by omega) (by decide)
 have ez:cutD (ns.map L3.D.int) (some ((fun i j:Int=>i+j) 3 m)) (some ((fun i j:Int=>i+j) 19 m))=zs.map L3.D.int:=by
  rw [← ez]
  show cutD (ns.map L3.D.int) (some (3+m)) (some (19+m))=_
  rw [show 3+m+16=19+m by omega]
 rw [ez]
 have hC:ay M2 c (.lst (zs.map L3.D.int)) c=some (.lst (zs.map L3.D.int)):=ai
 have hF:=ao (u:=MO.lst (zs.map L3.D.int)) hF hc
 generalize ay M2 c (.lst (zs.map L3.D.int))=M3 at hF hC ⊢
 walk_at "rd"
 refine ⟨qs,ts,zs,hF,hC,I0,oq,lT,fun g us M4 _ hU hI lu=>?_⟩
 have lU:us.length≤20:=by omega
 clear hL hM hF hC I0 hl2 hf Vx
 walk_at "rd"
 intro p hp
 have Vy:g≠p:=fun z=>by rw [z,hp] at hU;cases hU
 have hP:ay M4 p (.lst []) p=some (.lst []):=ai
 have hU:=ao (u:=MO.lst []) hU hp
 generalize ay M4 p (.lst [])=M5 at hU hP ⊢
 walk_at "rd"
 refine ⟨_,_,rfl,.inr (.inr ⟨g,rfl,hU⟩),?_⟩
 rw [List.length_map]
 have s1:L3.Sm 7 (us.length:Int):=by show Int.natAbs _ < 2 ^ 7;omega
 walk_at "rd"
 refine ⟨by dsimp only;omega,by dsimp only;omega,?_⟩
 refine cC (fun i ρ M'=> ∃ (ds:List (List Pl)) (y5 y6 y7 y8 y9:Option L3.D),ρ= [some (.zU (ns.map L3.D.int)),some (.int m),some (.ref l),some (.ref g),some (.ref p),y5,y6,y7,y8,y9,none]∧M' g=some (.lst (us.map tD))∧M' p=some (.lst (ds.map tD))∧ds.length≤i∧ds.Nodup∧(∀ s∈ds,c8 us s)∧∀ k:Nat,k < i→c8 us (AZ us (k:Int))→AZ us (k:Int)∈ds) _ ?_ ?_ ⟨[],_,_,_,_,_,rfl,hU,hP,Nat.le_refl _,List.nodup_nil,(fun s hs=>by cases hs),(fun k hk=>by omega)⟩
 ·rintro i v ρ M' N hx ⟨ds,y5,y6,y7,y8,y9,rfl,hU,hP,ld,J0,hws,hall⟩ hN
  obtain ⟨hi,rfl⟩:=oM hx
  have hi:i < 3*us.length:=by dsimp only at hi;omega
  have es:us≠[]:=fun z=>by rw [z] at hi;simp at hi
  refine ⟨trivial,?_⟩
  walk_at "rd"
  refine ⟨qs,us,hU,hI.1.bW,oq,es,lU,?_⟩
  obtain ⟨t0,ht0,x0,y0,Mb,Tp,mx,my⟩:=Cg hI.1.bW es (i:Int)
  have t7:∀ PZ:List (List Pl),(∀ s∈ds,s∈PZ)→(c8 us (AZ us (i:Int))→AZ us (i:Int)∈PZ)→∀ k:Nat,k < i+1→c8 us (AZ us (k:Int))→AZ us (k:Int)∈PZ:=fun PZ sub hi2 k hk hw=>by
   by_cases e:k=i
   ·subst e;exact hi2 hw
   ·exact sub _ (hall k (by omega) hw)
  rw [Mb] at t7 ⊢
  have hab:aI (lo x0 y0) (L3.hi x0 y0):=vz Tp
  have hok:(lo x0 y0).Ok 140∧(L3.hi x0 y0).Ok 140:=Jb (oq _ ((hI.1.bW t0 ht0).2 _ mx)) (oq _ ((hI.1.bW t0 ht0).2 _ my))
  generalize lo x0 y0=a at t7 hab hok ⊢
  generalize L3.hi x0 y0=b at t7 hab hok ⊢
  walk_at "rd"
  refine ⟨g,_,rfl,hU,by rw [List.length_map];omega,bq.mk (bA (fun j acc M5=>M5=M'∧acc=(bG (us.take j) a b).map tD) _ ?_ ?_ ⟨rfl,rfl⟩)⟩
  ·rintro j x acc M5 N2 tT ⟨rfl,rfl⟩ jK
   obtain ⟨t,ht,rfl⟩:=fm tT
   refine ⟨hU,?_⟩
   have ft:bG (us.take (j+1)) a b=bG (us.take j) a b ++ (if decide (a∈t∧b∈t)=true then [t] else []):=cz ht
   walk_at "rd"
   refine ⟨gb t,?_⟩
   walk_at "rd"
   rw [kZ]
   refine cJ (fun k1=>?_) (fun k1=>?_)
   ·walk_at "rd"
    refine ⟨gb t,?_⟩
    walk_at "rd"
    rw [kZ]
    refine cJ (fun k2=>?_) (fun k2=>?_)
    ·walk_at "rd"
     refine jK _ _ ⟨rfl,?_⟩
     rw [ft,if_pos (decide_eq_true ⟨of_decide_eq_true k1,of_decide_eq_true k2⟩),List.map_append]
     rfl
    ·refine jK _ _ ⟨rfl,?_⟩
     rw [ft,if_neg (fun z=>k2 (decide_eq_true (of_decide_eq_true z).2)),List.append_nil]
   ·refine jK _ _ ⟨rfl,?_⟩
    rw [ft,if_neg (fun z=>k1 (decide_eq_true (of_decide_eq_true z).1)),List.append_nil]
  rintro acc M5 ⟨rfl,hacc⟩
  rw [List.length_map,List.take_length] at hacc
  subst hacc
  refine ⟨hU,fun w hw=>?_⟩
  have lb:(bG us a b).length≤20:=Nat.le_trans (List.length_filter_le _ _) lU
  have hU:=ao (u:=MO.lst ((bG us a b).map tD)) hU hw
  have hP:=ao (u:=MO.lst ((bG us a b).map tD)) hP hw
  have hB:ay M5 w (.lst ((bG us a b).map tD)) w=some (.lst ((bG us a b).map tD)):=ai
  generalize ay M5 w (.lst ((bG us a b).map tD))=M6 at hU hP hB ⊢
  walk_at "rd"
  refine ⟨_,.inr ⟨p,rfl,hP⟩,rfl,gA _,?_⟩
  walk_at "rd"
  rw [BO,if_pos rfl]
  by_cases Jt: [a,b]∈ds
  ·rw [decide_eq_true Jt]
   walk_at "rd"
   exact hN _ _ ⟨ds,_,_,_,_,_,rfl,hU,hP,by omega,J0,hws,t7 ds (fun s hs=>hs) (fun _=>Jt)⟩
  rw [decide_eq_false Jt]
  walk_at "rd"
  refine ⟨_,_,rfl,.inr (.inr ⟨w,rfl,hB⟩),?_⟩
  rw [List.length_map]
  walk_at "rd"
  by_cases k2:(bG us a b).length=2
  case neg=>
   rw [ne2 (by omega)]
   walk_at "rd"
   exact hN _ _ ⟨ds,_,_,_,_,_,rfl,hU,hP,by omega,J0,hws,t7 ds (fun s hs=>hs) (fun G3=>absurd (G3.two hI.1) k2)⟩
  rw [eq2 (by omega)]
  obtain ⟨t,u,c,d,eb,ht,j8,tu,hr⟩:=hI.1.yX (rE hab) k2
  rw [eb] at hB
  obtain ⟨Vz,VA⟩:=GG hI.1 hab ht j8 hr
  have Mc:=zc (hI.1.bW t ht) (a:=a) (b:=b) (c:=c) (hr.imp (fun z=>z.1) (fun z=>z.1))
  have Me:=zc (hI.1.bW u j8) (a:=a) (b:=b) (c:=d) (hr.elim (fun z=> .inr z.2) (fun z=> .inl z.2))
  have tl:∀ v∈us,v.length=3:=fun v hv=>by obtain ⟨_,_,_,rfl,_⟩:=(hI.1.bW v hv).parts;rfl
  walk_at "rd"
  refine ⟨w,_,rfl,hB,by show 2 < sizeLine;decide,bq.mk (bA (fun j acc M7=>Le M6 M7∧acc=([c,d].take j).map Pl.d) _ ?_ ?_ ⟨Le.refl _,rfl⟩)⟩
  ·rintro j x acc M7 N2 tT ⟨le,rfl⟩ jK
   obtain ⟨v,hv,rfl⟩:=fm tT
   obtain ⟨e,he,So,mv⟩:∃ e,[c,d][j]?=some e∧v.filter (fun q=>decide (q∉[a,b]))= [e]∧v∈us:=by
    match j,hv with
    | 0,hv=>
      have hv:t=v:=Option.some.inj hv
      subst hv
      exact ⟨c,rfl,Mc,ht⟩
    | 1,hv=>
      have hv:u=v:=Option.some.inj hv
      subst hv
      exact ⟨d,rfl,Me,j8⟩
   refine ⟨le _ _ hB,?_⟩
   walk_at "rd"
   refine ⟨by rw [List.length_map,tl v mv];decide,bq.mk (bA (fun j2 Mt M8=>M8=M7∧Mt=((v.take j2).filter (fun q=>decide (q∉[a,b]))).map Pl.d) _ ?_ ?_ ⟨rfl,rfl⟩)⟩
   ·rintro j2 x2 Mt M8 N3 VB ⟨rfl,rfl⟩ TN
    obtain ⟨q,hq,rfl⟩:=oN VB
    refine ⟨trivial,?_⟩
    walk_at "rd"
    rw [if_pos rfl,kZ]
    refine cJ (fun k=>?_) (fun k=>?_)
    ·have k:q∉[a,b]:=fun z=>by rw [decide_eq_true z] at k;cases k
     walk_at "rd"
     refine TN _ _ ⟨rfl,?_⟩
     rw [bU hq,if_pos (decide_eq_true k),List.map_append]
     rfl
    ·have k:q∈[a,b]:=Classical.byContradiction fun z=>k (by rw [decide_eq_false z];rfl)
     refine TN _ _ ⟨rfl,?_⟩
     rw [bU hq,if_neg (fun z=>of_decide_eq_true (p:=q∉[a,b]) z k),List.append_nil]
   rintro Mt M8 ⟨rfl,hacc⟩
   rw [List.length_map,List.take_length,So] at hacc
   subst hacc
   refine ⟨trivial,fun p4 G5=>?_⟩
   walk_at "rd"
   refine ⟨_,_,_,.inr (.inr ⟨p4,rfl,ai⟩),rfl,rfl,?_⟩
   refine jK _ _ ⟨le.trans (Le.new G5),?_⟩
   rw [List.take_succ,he,List.map_append]
   rfl
  rintro acc M7 ⟨le,hacc⟩
  have hacc:acc= [c,d].map Pl.d:=hacc
  subst hacc
  have hU:=le _ _ hU
  have hP:=le _ _ hP
  have hB:=le _ _ hB
  refine ⟨hB,fun f hf=>?_⟩
  have hF:ay M7 f (.lst ([c,d].map Pl.d)) f=some (.lst ([c,d].map Pl.d)):=ai
  have hU:=ao (u:=MO.lst ([c,d].map Pl.d)) hU hf
  have hP:=ao (u:=MO.lst ([c,d].map Pl.d)) hP hf
  have hB:=ao (u:=MO.lst ([c,d].map Pl.d)) hB hf
  generalize ay M7 f (.lst ([c,d].map Pl.d))=M8 at hU hP hB hF ⊢
  have hcs:c∈t∧d∈u:=by
   rcases hr with ⟨r1,r2⟩ | ⟨r1,r2⟩
   ·exact ⟨(r1.mem c).mpr (by simp),(r2.mem d).mpr (by simp)⟩
   ·exact ⟨(r1.mem c).mpr (by simp),(r2.mem d).mpr (by simp)⟩
  have oc:=oq c ((hI.1.bW t ht).2 c hcs.1)
  have od:=oq d ((hI.1.bW u j8).2 d hcs.2)
  obtain ⟨⟨t1,t2,t3,rfl,b1,b2,q1⟩,mt⟩:=hI.1.bW t ht
  obtain ⟨⟨u1,u2,u3,rfl,b3,b4,q2⟩,mu⟩:=hI.1.bW u j8
  walk_at "rd"
  refine ⟨_,_,_,.inr (.inr ⟨w,rfl,hB⟩),rfl,rfl,?_⟩
  walk_at "rd"
  refine ⟨_,_,_,.inr (.inr ⟨f,rfl,hF⟩),rfl,rfl,?_⟩
  walk_at "rd"
  refine ⟨oq _ (mt t1 (by simp)),oq _ (mt t2 (by simp)),oq _ (mt t3 (by simp)),od,b1,b2,q1,?_⟩
  walk_at "rd"
  refine ⟨_,_,_,.inr (.inr ⟨w,rfl,hB⟩),rfl,rfl,?_⟩
  walk_at "rd"
  refine ⟨_,_,_,.inr (.inr ⟨f,rfl,hF⟩),rfl,rfl,?_⟩
  walk_at "rd"
  refine ⟨oq _ (mu u1 (by simp)),oq _ (mu u2 (by simp)),oq _ (mu u3 (by simp)),oc,b3,b4,q2,?_⟩
  have d1:decide (gS t1 t2 t3 d)=qR us [a,b]:=by rw [Bool.eq_iff_iff,decide_eq_true_eq,fW];exact Vz
  have d2:decide (gS u1 u2 u3 c)=qR us [a,b]:=by rw [Bool.eq_iff_iff,decide_eq_true_eq,fW];exact VA
  rw [d1,d2]
  walk_at "rd"
  intro x hx'
  have hX:ay M8 x (.lst [.bl (qR us [a,b]),.bl (qR us [a,b])]) x=some (.lst [.bl (qR us [a,b]),.bl (qR us [a,b])]):=ai
  have hU:=ao (u:=MO.lst [.bl (qR us [a,b]),.bl (qR us [a,b])]) hU hx'
  have hP:=ao (u:=MO.lst [.bl (qR us [a,b]),.bl (qR us [a,b])]) hP hx'
  generalize ay M8 x (.lst [.bl (qR us [a,b]),.bl (qR us [a,b])])=M9 at hU hP hX ⊢
  walk_at "rd"
  refine ⟨_,_,_,.inr (.inr ⟨x,rfl,hX⟩),rfl,rfl,?_⟩
  walk_at "rd"
  refine ⟨_,_,_,.inr (.inr ⟨x,rfl,hX⟩),rfl,rfl,?_⟩
  walk_at "rd"
  rw [show (!L3.cZ (D.bl (qR us [a,b])) (D.bl (qR us [a,b])))=false by rw [KU];simp]
  walk_at "rd"
  refine ⟨_,_,_,.inr (.inr ⟨x,rfl,hX⟩),rfl,rfl,?_⟩
  walk_at "rd"
  cases ew:qR us [a,b] with
  | false=>
    rw [ew] at hX
    walk_at "rd"
    refine ⟨_,_,_,.inr (.inr ⟨x,rfl,hX⟩),rfl,rfl,?_⟩
    walk_at "rd"
    exact hN _ _ ⟨ds,_,_,_,_,_,rfl,hU,hP,by omega,J0,hws,t7 ds (fun s hs=>hs) (fun G3=>by rw [← fW,ew] at G3;cases G3)⟩
  | true=>
    rw [ew] at hX
    have hwr:=fW.mp ew
    walk_at "rd"
    refine ⟨qs,us,hU,hI.1,oq,lU,fun hno=>?_,fun p3 vs Ie c' d' A0 hV WM hso=>?_⟩
    ·obtain ⟨a',b',c',d',e,_,ad,cv,_⟩:=hwr.turns hI.1.bW
     obtain ⟨rfl,rfl⟩:=aL e
     exact absurd ⟨c',d',ad,cv⟩ hno
    walk_at "rd"
    refine ⟨_,_,_,.inr (.inr ⟨x,rfl,A0 _ _ hX⟩),rfl,rfl,?_⟩
    walk_at "rd"
    refine ⟨⟨p,_,rfl,A0 _ _ hP⟩,?_⟩
    walk_at "rd"
    refine ⟨p,_,rfl,A0 _ _ hP,by rw [List.length_map];omega,?_⟩
    refine hN _ _ ⟨ds ++ [[a,b]],_,_,_,_,_,rfl,(aP Vy).trans (A0 _ _ hU),by rw [ai,List.map_append];rfl,by rw [List.length_append];simp;omega,?_,fun s hs=>?_,t7 _ (fun s hs=>List.mem_append_left _ hs) (fun _=>by simp)⟩
    ·rw [List.nodup_append]
     exact ⟨J0,by simp,fun s hs s' hs' e=>by rw [List.mem_singleton.mp hs'] at e;subst e;exact Jt hs⟩
    ·rcases List.mem_append.mp hs with hs | hs
     ·exact hws s hs
     ·rw [List.mem_singleton.mp hs];exact hwr
 ·rintro ρ M' ⟨ds,y5,y6,y7,y8,y9,rfl,hU,hP,ld,J0,hws,hall⟩
  refine ⟨trivial,?_⟩
  rw [List.length_map,List.length_range] at ld hall
  have ld:ds.length≤60:=by dsimp only at ld;omega
  have hall:∀ s,c8 us s→s∈ds:=fun s hs=>by
   obtain ⟨a,b,c,d,e,hab,⟨⟨t,ht,r⟩,_⟩,_⟩:=id hs
   obtain ⟨k,hk,ek⟩:=Mr ht r hab
   have:=hall k (by dsimp only;omega)
   rw [ek,← e] at this
   exact this hs
  walk_at "rd"
  refine ⟨_,_,rfl,.of hU,fun q hq=>?_⟩
  have hH:ay M' q (.lst (us.map tD)) q=some (.lst (us.map tD)):=ai
  have hU:=ao (u:=MO.lst (us.map tD)) hU hq
  have hP:=ao (u:=MO.lst (us.map tD)) hP hq
  generalize ay M' q (.lst (us.map tD))=M6 at hU hP hH ⊢
  walk_at "rd"
  refine ⟨qs,us,hH,hI.1.bW,hI.1.IT.nd,oq,lU,fun r ws hr VC Mu VD lw=>?_⟩
  have hW:ay M6 r (.lst (ws.map tD)) r=some (.lst (ws.map tD)):=ai
  have hU:=ao (u:=MO.lst (ws.map tD)) hU hr
  have hP:=ao (u:=MO.lst (ws.map tD)) hP hr
  have hH:=ao (u:=MO.lst (ws.map tD)) hH hr
  generalize ay M6 r (.lst (ws.map tD))=M7 at hU hP hH hW ⊢
  have l2:∀ s∈ws,s.length=2:=fun s hs=>by
   obtain ⟨_,_,_,_,rfl,_⟩:=(Mu s).mp hs
   rfl
  walk_at "rd"
  refine ⟨p,ds,rfl,hP,fun t ht=>by obtain ⟨_,_,_,_,rfl,_⟩:=hws t ht;rfl,by omega,fun x rs hx A5 hso=>?_⟩
  obtain rfl:rs=ws:=pY (A5.trans (lB J0 VC fun s=>⟨fun z=>(Mu s).mpr (hws s z),fun z=>hall s ((Mu s).mp z)⟩)) hso VD
  have hX:ay M7 x (.lst (rs.map tD)) x=some (.lst (rs.map tD)):=ai
  have hU:=ao (u:=MO.lst (rs.map tD)) hU hx
  have hW:=ao (u:=MO.lst (rs.map tD)) hW hx
  have hH:=ao (u:=MO.lst (rs.map tD)) hH hx
  generalize ay M7 x (.lst (rs.map tD))=M8 at hU hW hH hX ⊢
  walk_at "rd"
  refine ⟨r,x,2,rs,rfl,hW,hX,fun t ht=> .inl ⟨rfl,l2 t ht⟩,by omega,?_⟩
  walk_at "rd"
  refine ⟨_,_,.of hH,.of hU,gA us,gA us,?_⟩
  rw [CT (gA us)]
  exact h
end
theorem all_mk {P:Program} {w:World} {h:Heap} {mg:Str→Option Value} {fa:Addr} (Y:HD.YP fs bs h) (G:h.Ns mainGlobals mg) (Sd:mg "law" =some (.ref fa)):∃ (K:PySem.W.Frag) (fd:FuncData),K.In h∧(∀ (s:Shared) (v:Value),BindsTo s fd ⟨[v],[]⟩ [("_law_script",v)])∧∀ base:Heap,K.In base→base.Ns mainGlobals mg→bO P w K mg base fR 7 fa fd ["_law_script"] (qL K GX):=by
 obtain ⟨K,X,H,B⟩:=Y
 unfold fs at H
 unfold bs at B
 obtain ⟨⟨f0,d0,a0,F0⟩,H⟩:=H
 obtain ⟨⟨f1,d1,a1,F1⟩,H⟩:=H
 obtain ⟨⟨f2,d2,a2,F2⟩,H⟩:=H
 obtain ⟨⟨f3,d3,a3,F3⟩,H⟩:=H
 obtain ⟨⟨f4,d4,a4,F4⟩,H⟩:=H
 obtain ⟨⟨f5,d5,a5,F5⟩,H⟩:=H
 obtain ⟨⟨f6,d6,a6,F6⟩,H⟩:=H
 obtain ⟨⟨f7,d7,a7,F7⟩,H⟩:=H
 obtain ⟨⟨f8,d8,a8,F8⟩,H⟩:=H
 obtain ⟨⟨f9,d9,a9,F9⟩,H⟩:=H
 obtain ⟨⟨WN,WO,VE,VF⟩,H⟩:=H
 obtain ⟨⟨WQ,WR,VG,VH⟩,H⟩:=H
 obtain ⟨⟨ED,WS,VI,VJ⟩,H⟩:=H
 obtain ⟨⟨WT,WU,VL,VM⟩,H⟩:=H
 obtain ⟨⟨WV,WW,VN,VO⟩,H⟩:=H
 obtain ⟨⟨WX,WY,VP,VQ⟩,H⟩:=H
 obtain ⟨⟨WZ,W0,VR,VS⟩,H⟩:=H
 obtain ⟨⟨W2,W3,VT,VU⟩,H⟩:=H
 obtain ⟨⟨W4,W5,VV,VW⟩,H⟩:=H
 obtain ⟨⟨W6,W7,VX,VY⟩,H⟩:=H
 obtain ⟨⟨W8,W9,VZ,V0⟩,H⟩:=H
 obtain ⟨⟨Xa,Xb,V1,V2⟩,H⟩:=H
 obtain ⟨⟨Xc,Xd,V3,V4⟩,H⟩:=H
 obtain ⟨⟨Xe,Xf,V5,V6⟩,H⟩:=H
 obtain ⟨⟨Xg,Xh,V7,V8⟩,H⟩:=H
 obtain ⟨⟨Xi,Xj,V9,Wa⟩,H⟩:=H
 obtain ⟨⟨Xk,Xl,Wb,Wc⟩,H⟩:=H
 obtain ⟨⟨Xm,Xn,Wd,We⟩,H⟩:=H
 obtain ⟨⟨Xp,Xq,Wf,Wg⟩,H⟩:=H
 obtain ⟨⟨Xr,Xs,Wh,Wi⟩,H⟩:=H
 obtain ⟨⟨Xu,Xv,Wj,Wk⟩,H⟩:=H
 obtain ⟨⟨Xw,Xx,Wl,Wm⟩,H⟩:=H
 obtain ⟨⟨f32,Xy,a32,Wn⟩,H⟩:=H
 obtain ⟨⟨Xz,XA,TQ,TR⟩,H⟩:=H
 obtain ⟨z0,B⟩:=B
 obtain ⟨z1,B⟩:=B
 obtain ⟨z2,B⟩:=B
 obtain ⟨z3,B⟩:=B
 obtain ⟨z4,B⟩:=B
 obtain ⟨z5,B⟩:=B
 obtain ⟨z6,B⟩:=B
 obtain ⟨z7,B⟩:=B
 obtain ⟨z8,B⟩:=B
 obtain ⟨z9,B⟩:=B
 obtain ⟨Wo,B⟩:=B
 obtain ⟨Wq,B⟩:=B
 have e:=Sd.symm.trans (PySem.W.mg_of X G TQ)
 cases e
 have T:Txt K mg ⟨_,_,_,_,_,_,_,_,_,_,_,_,_,_,_,_,_,_,_,_,_,_,_,_,_,_,_,_,_,_,_,_,_,_,_,_,_,_,_,_,_,_,_,_,_,_,_,_,_,_,_,_,_,_,_,_,_,_,_,_,_,_,_,_,_,_,_,_⟩:=⟨F0,PySem.W.mg_of X G a0,F1,PySem.W.mg_of X G a1,F2,PySem.W.mg_of X G a2,F3,PySem.W.mg_of X G a3,F4,PySem.W.mg_of X G a4,F5,PySem.W.mg_of X G a5,F6,PySem.W.mg_of X G a6,F7,PySem.W.mg_of X G a7,F8,PySem.W.mg_of X G a8,F9,PySem.W.mg_of X G a9,VF,PySem.W.mg_of X G VE,VH,PySem.W.mg_of X G VG,VJ,PySem.W.mg_of X G VI,VM,PySem.W.mg_of X G VL,VO,PySem.W.mg_of X G VN,VQ,PySem.W.mg_of X G VP,VS,PySem.W.mg_of X G VR,VU,PySem.W.mg_of X G VT,VW,PySem.W.mg_of X G VV,VY,PySem.W.mg_of X G VX,V0,PySem.W.mg_of X G VZ,V2,PySem.W.mg_of X G V1,V4,PySem.W.mg_of X G V3,V6,PySem.W.mg_of X G V5,V8,PySem.W.mg_of X G V7,Wa,PySem.W.mg_of X G V9,Wc,PySem.W.mg_of X G Wb,We,PySem.W.mg_of X G Wd,Wg,PySem.W.mg_of X G Wf,Wi,PySem.W.mg_of X G Wh,Wk,PySem.W.mg_of X G Wj,Wm,PySem.W.mg_of X G Wl,Wn,PySem.W.mg_of X G a32,TR,PySem.W.mg_of X G TQ,PySem.W.mg_none_of X G z0,PySem.W.mg_none_of X G z1,PySem.W.mg_none_of X G z2,PySem.W.mg_none_of X G z3,PySem.W.mg_none_of X G z4,PySem.W.mg_none_of X G z5,PySem.W.mg_none_of X G z6,PySem.W.mg_none_of X G z7,PySem.W.mg_none_of X G z8,PySem.W.mg_none_of X G z9,PySem.W.mg_none_of X G Wo,PySem.W.mg_none_of X G Wq⟩
 refine ⟨K,_,X,fun s v=>?_,fun base _ _=>Ms T⟩
 obtain ⟨_,_,_,_,_,_,_,_,_,rfl,_,_⟩:=TR.ex
 exact .of_eq rfl
end Pf
open PySem PySem.W PyProof.Rows
set_option maxRecDepth 100000 in
set_option maxHeartbeats 0 in
theorem PySem.Challenge.cw_nearland_k34_wrong_sides_holds : PySem.Challenge.rw_nearland_k34_wrong_sides.Holds := by
 refine holds_law Pf.said fun said=>?_
 refine holds_open (q:=Pf.view) (loose:=Pf.loose) (Xt:=fun s=>xlAt Pf.view [] s && recOk (RowW.records (OpenRow.toRowW PySem.Challenge.rw_nearland_k34_wrong_sides.row)) s) (XP:=XL Pf.view []) (Yf:=HD.zI Pf.fs Pf.bs) (Ya:=fun _=>HD.good Pf.fs Pf.bs) (YP:=fun _ h=>HD.YP Pf.fs Pf.bs h) (N:=3760) Pf.left (fun _ _ e=>HD.L4 e) (fun _ _ _ y k=>HD.keeps y k) (fun s e=>xl_of s (Bool.and_eq_true_iff.mp e).1) XL.keeps (by rfl) (by rfl) (by rfl) (fun s e=>recFacts_of (Bool.and_eq_true_iff.mp e).2) (by rfl) said (by decide +kernel) ⟨rfl,rfl,rfl,rfl,rfl,by decide +kernel⟩ (by w_witness2) ?hc
 refine HD.GI (l:=PySem.Challenge.rw_nearland_k34_wrong_sides) (n:=63) (k:=7) (x:= "_law_script") (CX:=L2.fR) (sp:=fun K=>L3.qL K Pf.GX) rfl (by decide) rfl ⟨rfl,by decide,by decide⟩ (fun w mg fa h Y G hmg=>Pf.all_mk Y G hmg) (fun K H a ns hl hb hO hS=>L3.Ij hl hb hO hS) (fun _ _ _ _ z=>z)
