import PyProof.Rows.All
import Wide.All
import OpenK.AllK
import Wide.FinOn
import Lean
import PyProof.EqAt
import PyProof.EqKinds
import PyProof.TupleCall
import PySem.Challenge.RW_nearland_k24_points_in_covers
set_option Elab.async false
set_option linter.all false
set_option maxRecDepth 100000
namespace HD
open PySem PySem.W PySem.Calls
def Cv (p:Program) (w:World) (n₀:Nat) (ann:Option Value):Nat→SharedT→Thread→Option SharedT
 | 0,_,_=>none
 | n+1,s,t=>match through t with
   | true=>some s
   | false=>match stepOk n₀ ann t with
     | false=>none
     | true=>match stepT (denote treeTable) p w s t with
       | some (s',t')=>Cv p w n₀ ann n s' t'
       | none=>none
theorem xZ {p:Program} {w:World} {n₀:Nat} {ann:Option Value}:∀ {n:Nat} {s s':SharedT} {t:Thread},Cv p w n₀ ann n s t=some s'→topRun treeTable p w n₀ ann n s.abs t=some s'.abs
 | 0,_,_,_,h=>nomatch h
 | n+1,s,s',t,h=>by
   unfold Cv at h
   unfold topRun
   cases a:through t with
   | true=>rw [a] at h;cases h;rfl
   | false=>
     rw [a] at h
     dsimp only at h ⊢
     cases b:stepOk n₀ ann t with
     | false=>rw [b] at h;cases h
     | true=>
       rw [b] at h
       dsimp only at h ⊢
       cases c:stepT (denote treeTable) p w s t with
       | none=>rw [c] at h;cases h
       | some x=>
         obtain ⟨s1,t1⟩:=x
         rw [c] at h
         rw [stepT_spec c]
         exact xZ h
noncomputable def Aq (P:Params):BT:=((boot_heap P).objs.toList.foldl (fun x o=>(x.1.ins x.2 o,x.2+1)) (BT.nil,0)).1
theorem ze (P:Params):absHeap (Aq P) 11 (boot_heap P).life=boot_heap P:=by kernel_rfl
theorem zf (w:World):((boot_heap w.params).isNs mainGlobals && (#[]:Array GenState).size == 0,(boot_heap w.params).objs.size,(boot_heap w.params).nsMap mainGlobals "__annotations__")=(true,11,some (.ref 6)):=by kernel_rfl
theorem zg {p q:Program} {loose:List Str} {Xt:Shared→Bool} {α:Type} {Yf:Shared→α} {Ya:World→α} {N M:Nat} (e:opening p=plainProg p.main.scope.names) (hN:Nat.ble 600 N=true) (f:∀ s,fenceModules? p s=some s) (le:Nat.ble M N=true)
 (run:∀ (w:World) (os:OsState),(Cv p w 11 (some (.ref 6)) M ⟨Aq w.params,11,(boot_heap w.params).life,#[],boot_drawn,boot_toks,os⟩ (topStub p)).map (fun sT=>
  (staticsOk (importedModules p.main.body) (boot_heap w.params) sT.abs.heap && namesBound p sT.abs.heap && gensDone sT.abs && laidKept (boot_heap w.params) sT.abs.heap,openSeen q loose (importedModules p.main.body) Xt true sT.abs,Yf sT.abs))=some (true,openGood q loose,Ya w)):LeftO p q loose Xt Yf Ya N:=fun w=>by
 obtain ⟨⟨h,gs,d,k,os⟩,e,e'⟩:=Option.map_eq_some_iff.mp (boot_open e hN f w)
 obtain ⟨rfl,rfl,rfl,rfl⟩:h=boot_heap w.params∧gs=Array.mk []∧d=boot_drawn∧k=boot_toks:=by simpa using e'
 obtain ⟨z1,z2,z3⟩:_∧_∧_:=by simpa only [Prod.mk.injEq] using zf w
 obtain ⟨sT,e1,e2⟩:=Option.map_eq_some_iff.mp (run w os)
 obtain ⟨l1,l2,l3⟩:_∧_∧_:=by simpa only [Prod.mk.injEq] using e2
 have r:=topRun_mono (N - M) _ _ _ _ (xZ e1)
 rw [show M+(N - M)=N by have:=Nat.le_of_ble_eq_true le;omega] at r
 have a:SharedT.abs ⟨Aq w.params,11,(boot_heap w.params).life,#[],boot_drawn,boot_toks,os⟩= ⟨boot_heap w.params,Array.mk [],boot_drawn,boot_toks,os⟩:=by
  unfold SharedT.abs
  dsimp only
  rw [ze]
 rw [a] at r
 have t:topFrom treeTable p w N ⟨boot_heap w.params,Array.mk [],boot_drawn,boot_toks,os⟩=some sT.abs:=by
  unfold topFrom
  dsimp only
  rw [z1,z2,z3,r]
  show (match staticsOk (importedModules p.main.body) (boot_heap w.params) sT.abs.heap && namesBound p sT.abs.heap && gensDone sT.abs && laidKept (boot_heap w.params) sT.abs.heap with | true=>_ | false=>_)=_
  rw [l1]
 unfold openEnds
 rw [e]
 show (topFrom treeTable p w N _).map _=_
 rw [t]
 exact congrArg some (Prod.ext l2 l3)
def dA (s:Stmt):Arguments:=match s with
 | .FunctionDef _ a _ _ _ _ _ _ _ _=>a
 | _=>{ posonlyargs:=[],args:=[],vararg:=none,kwonlyargs:=[],kw_defaults:=[],kwarg:=none,defaults:=[] }
def dB (s:Stmt):List Stmt:=match s with
 | .FunctionDef _ _ b _ _ _ _ _ _ _=>b
 | _=>[]
def dS (s:Stmt):Scope:=match s with
 | .FunctionDef _ _ _ _ _ _ sc _ _ _=>sc
 | _=>{ kind:= .function,names:=[],isGenerator:=false,isCoroutine:=false }
abbrev pr (n:Str) (st:Stmt):Str ×Stmt:=(n,st)
def GK (h:Heap) (n:Str):Option (Option Value):=match h.get? mainGlobals with
 | some o=>nsIn [(mainGlobals,o)] mainGlobals n
 | none=>none
def fnAt (h:Heap) (n:Str):Option (Addr ×FuncData):=match GK h n with
 | some (some (.ref f))=>(match h.get? f with
   | some ⟨_,_,.func fd,_⟩=>some (f,fd)
   | _=>none)
 | _=>none
def jI (h:Heap) (v:Value):Option Str:=match v with
 | .ref c=>(match h.get? c with
   | some ⟨_,_,.fields vs,_⟩=>(match vs.toList with
     | _ :: .str q _ :: _=>some q
     | _=>none)
   | _=>none)
 | _=>none
def blank (fd:FuncData):FuncData:={ fd with kwdefaults:= .none,doc:= .none,pyModule:= .none,annotations:=none,code:= .none,closureTuple:= .none }
abbrev Seen:=List (Option (FuncData ×Option Str)) ×List (Option (Option Value))
def zh (fs:List (Str ×Stmt)) (bs:List Str) (s:Shared):Seen:=
 (fs.map fun p=>(fnAt s.heap p.1).map fun x=>(blank x.2,jI s.heap x.2.code),bs.map fun b=>GK s.heap b)
def good (fs:List (Str ×Stmt)) (bs:List Str):Seen:=
 (fs.map fun p=>some (fnOf p.1 p.1 (dA p.2) (dB p.2) (dS p.2) .none .none .none .none none .none .none,some p.1),bs.map fun _=>some none)
end HD
namespace  Pf
open PySem PySem.W PyProof.Rows
def top (i:Nat):Stmt:=PySem.Challenge.pw_nearland_k24_points_in_covers.main.body.getD i (.Pass ⟨0,0,0,0⟩)
abbrev jJ:Stmt:=top 20
abbrev gW:Stmt:=top 21
abbrev iS:Stmt:=top 22
abbrev iT:Stmt:=top 23
abbrev iU:Stmt:=top 24
abbrev gX:Stmt:=top 25
abbrev lH:Stmt:=top 29
abbrev jK:Stmt:=top 28
abbrev iV:Stmt:=top 26
abbrev dU:Stmt:=top 30
abbrev iW:Stmt:=top 31
abbrev pG:Stmt:=top 12
abbrev cF:Stmt:=top 13
abbrev wJ:Stmt:=top 1
abbrev nk:Stmt:=top 5
abbrev jL:Stmt:=top 15
abbrev Cw:Stmt:=top 16
abbrev gq:Stmt:=top 32
abbrev iX:Stmt:=top 33
abbrev bO:Stmt:=top 34
abbrev tP:Stmt:=top 3
abbrev wK:Stmt:=top 4
abbrev gu:Stmt:=top 7
abbrev nt:Stmt:=top 8
abbrev fF:Stmt:=top 9
abbrev gY:Stmt:=top 11
abbrev kM:Stmt:=top 18
abbrev iY:Stmt:=top 27
abbrev jM:Stmt:=top 35
abbrev fT:Stmt:=top 36
abbrev rR:Stmt:=top 37
def view:Program:={ PySem.Challenge.pw_nearland_k24_points_in_covers with main:={ PySem.Challenge.pw_nearland_k24_points_in_covers.main with body:=[top 37] } }
def loose:List Str:=(["sign","twice","turn","side_of","without_bays","outline","outline_sides","triangle_of","rounds","directed_sides","has_point","at","swept","_law_cell","_law_ringed","_law_lined","_law_great","_law_place","_law_places","_law_twice","_law_alike","_law_laid","_law_far","_law_flipped","_law_cover","_law_measure","_law_point","_law_shared","_law_hand","_law_hands"]:List String).map Str.ofString
def fs:List (Str ×Stmt):=[HD.pr "_law_cell" jJ,HD.pr "_law_ringed" gW,HD.pr "_law_lined" iS,HD.pr "_law_great" iT,HD.pr "_law_place" iU,HD.pr "_law_places" gX,HD.pr "_law_far" lH,HD.pr "_law_laid" jK,HD.pr "_law_twice" iV,HD.pr "_law_flipped" dU,HD.pr "_law_cover" iW,HD.pr "rounds" pG,HD.pr "directed_sides" cF,HD.pr "sign" wJ,HD.pr "side_of" nk,HD.pr "has_point" jL,HD.pr "at" Cw,HD.pr "_law_measure" gq,HD.pr "_law_point" iX,HD.pr "_law_shared" bO,HD.pr "twice" tP,HD.pr "turn" wK,HD.pr "without_bays" gu,HD.pr "outline" nt,HD.pr "outline_sides" fF,HD.pr "triangle_of" gY,HD.pr "swept" kM,HD.pr "_law_alike" iY,HD.pr "_law_hand" jM,HD.pr "_law_hands" fT,HD.pr "law" rR]
def bs:List Str:=["len","range","min","sorted","abs","sum","list","reversed","zip","isinstance","int","str","tuple","bool"]
set_option maxHeartbeats 0 in
theorem said:PySem.Challenge.rw_nearland_k24_points_in_covers.wellSaid=true:=by
 unfold OpenLaw.wellSaid OpenRow.wellSaid OpenRow.partSaid looksOpen
 repeat' (with_reducible refine look_both ?_ ?_)
 all_goals decide +kernel
set_option maxHeartbeats 0 in
theorem left:LeftO PySem.Challenge.rw_nearland_k24_points_in_covers.row.prog view loose (fun s=>xlAt view [] s && recOk (RowW.records (OpenRow.toRowW PySem.Challenge.rw_nearland_k24_points_in_covers.row)) s) (HD.zh fs bs) (fun _=>HD.good fs bs) 2746:=HD.zg (M:=1123) (by kernel_rfl) (by kernel_rfl) (fun s=>by kernel_rfl) (by kernel_rfl) (fun w os=>by kernel_rfl)
end Pf
namespace L2
open PySem PySem.Spec PyProof.Rows
abbrev Key:=Sum Int Str
def DU:Key→Value→Bool
 | .inl k,v=>Value.isInt k v
 | .inr x,v=>Value.isStrOf x v
def JK (w:World):Key→Int
 | .inl k=>hashInt k
 | .inr x=>hashStr w x
theorem cu:∀ {k:Key} {v:Value},DU k v=true→(∃ i t,k=Sum.inl i∧v=Value.int i t)∨(∃ x t,k=Sum.inr x∧v=Value.str x t)
 | .inl i,v,h=>by
   obtain ⟨t,e⟩:=Value.isInt_shape (k:=i) (v:=v) h
   exact .inl ⟨i,t,rfl,e⟩
 | .inr x,v,h=>by
   obtain ⟨t,e⟩:=Value.isStrOf_shape (x:=x) (v:=v) h
   exact .inr ⟨x,t,rfl,e⟩
theorem EA (a b:Int):decide ((Sum.inl a:Key)=Sum.inl b)=(a == b):=by
 by_cases e:a=b
 ·subst e;simp
 ·have h:¬ (Sum.inl a:Key)=Sum.inl b:=fun q=>e (Sum.inl.inj q)
  rw [decide_eq_false h]
  exact (beq_eq_false_iff_ne.mpr e).symm
theorem EB (a b:Str):decide ((Sum.inr a:Key)=Sum.inr b)=decide (a=b):=by
 by_cases e:a=b
 ·subst e;simp
 ·have h:¬ (Sum.inr a:Key)=Sum.inr b:=fun q=>e (Sum.inr.inj q)
  rw [decide_eq_false h,decide_eq_false e]
theorem EC (a:Int) (b:Str):decide ((Sum.inl a:Key)=Sum.inr b)=false:=decide_eq_false (fun q=>nomatch q)
theorem ED (a:Str) (b:Int):decide ((Sum.inr a:Key)=Sum.inl b)=false:=decide_eq_false (fun q=>nomatch q)
def x6 (prog:Program) (w:World):PySem.KeyKind prog w Key where
 is:=DU
 hash:=JK w
 inj:=fun v a b ha hb=>by
  rcases cu ha with ⟨i,t,rfl,rfl⟩ | ⟨x,t,rfl,rfl⟩
  ·rcases cu hb with ⟨j,u,rfl,e⟩ | ⟨y,u,rfl,e⟩
   ·injection e with e1 _;rw [e1]
   ·exact nomatch e
  ·rcases cu hb with ⟨j,u,rfl,e⟩ | ⟨y,u,rfl,e⟩
   ·exact nomatch e
   ·injection e with e1 _;rw [e1]
 byValue:=fun k v h=>by
  rcases cu h with ⟨i,t,rfl,rfl⟩ | ⟨x,t,rfl,rfl⟩ <;> rfl
 pyHash:=fun hv h=>by
  rcases cu hv with ⟨i,t,rfl,rfl⟩ | ⟨x,t,rfl,rfl⟩
  ·exact wpAny_pyHash_int h
  ·exact wpAny_pyHash_str h
 eqBool:=fun hu hv h=>by
  rcases cu hu with ⟨i,t,rfl,rfl⟩ | ⟨x,t,rfl,rfl⟩
  ·rcases cu hv with ⟨j,u,rfl,rfl⟩ | ⟨y,u,rfl,rfl⟩
   ·rw [EA] at h;exact wpAny_eqBool_int h
   ·rw [EC] at h;exact SeqAt.EqAt.int_str i t y u _ _ _ _ h
  ·rcases cu hv with ⟨j,u,rfl,rfl⟩ | ⟨y,u,rfl,rfl⟩
   ·rw [ED] at h;exact SeqAt.EqAt.str_int x t j u _ _ _ _ h
   ·rw [EB] at h;exact wpAny_eqBool_str h
 «strs» :=fun k x t v h=>by
  rcases cu h with ⟨i,u,rfl,e⟩ | ⟨y,u,rfl,e⟩
  ·exact nomatch e
  ·injection e with e1 _
   subst e1
   cases v <;> rfl
end L2
namespace L2
open PySem PySem.Spec PyProof.Rows
inductive V where
 | bE | bl (b:Bool) | int (i:Int) | str (x:Str) | Ar (b:Array UInt8) | GL (b:UInt64) | ref (a:Addr) | ty (n:String)
 deriving DecidableEq
def RelV:V→Value→Prop
 | .bE,u=>u=Value.none
 | .bl b,u=>u=Value.bool b
 | .int i,u=> ∃ t,u=Value.int i t
 | .str x,u=> ∃ t,u=Value.str x t
 | .Ar b,u=> ∃ t,u=Value.bytes b t
 | .GL b,u=> ∃ t,u=Value.float b t
 | .ref a,u=>u=Value.ref a
 | .ty n,u=>u=Value.type n
abbrev Vals:List V→List Value→Prop:=Paired RelV
theorem Vals.length {xs:List V} {us:List Value} (r:Vals xs us):xs.length=us.length:=Paired.length r
theorem Vals.get:∀ {xs:List V} {us:List Value} {i:Nat} {x:V},Vals xs us→xs[i]?=some x→∃ u,us[i]?=some u∧RelV x u
 | _,_,_,_,.nil,e=>by simp at e
 | _,_,0,_,.cons r _,e=>by simp at e;subst e;exact ⟨_,rfl,r⟩
 | _,_,i+1,x,.cons _ t,e=>by
   obtain ⟨u,h1,h2⟩:=Vals.get (i:=i) (x:=x) t (by simpa using e)
   exact ⟨u,by simpa using h1,h2⟩
theorem Vals.append:∀ {xs ys:List V} {us ws:List Value},Vals xs us→Vals ys ws→Vals (xs ++ ys) (us ++ ws)
 | _,_,_,_,.nil,s=>s
 | _,_,_,_,.cons r t,s=> .cons r (Vals.append t s)
theorem Vals.take:∀ {xs:List V} {us:List Value} (n:Nat),Vals xs us→Vals (xs.take n) (us.take n)
 | _,_,0,_=> .nil
 | _,_,_+1,.nil=> .nil
 | _,_,n+1,.cons r t=> .cons r (Vals.take n t)
theorem Vals.drop:∀ {xs:List V} {us:List Value} (n:Nat),Vals xs us→Vals (xs.drop n) (us.drop n)
 | _,_,0,r=>r
 | _,_,_+1,.nil=> .nil
 | _,_,n+1,.cons _ t=>Vals.drop n t
def EE:Option V→Option Value→Prop
 | some v,some u=>RelV v u
 | none,none=>True
 | _,_=>False
def KV {κ:Type}:List (κ ×V)→List (κ ×Value)→Prop:=Paired fun (p:κ ×V) (q:κ ×Value)=>p.1=q.1∧RelV p.2 q.2
def kV:Key→V
 | .inl i=> .int i
 | .inr x=> .str x
inductive HO where
 | lst (xs:List V)
 | tup (xs:List V)
 | dK (kvs:List (Key ×V)) | dT (kvs:List (List Key ×V))
 | set (S:Int→Bool) (n:Nat)
 | ins (C dx:Addr) (fs:List (Str ×V))
 | own (x:Addr)
 | xd (fs:List (Str ×V))
 | met (f x:Addr)
 | JL (lo hi:Int)
 | mh (o:Obj) (u:HO)
 | EF (ps:Array Value)
 | ext (φ:Heap→Prop)
abbrev Hp:=Addr→Option HO
def upd (H:Hp) (a:Addr) (o:HO):Hp:=fun b=>if b=a then some o else H b
theorem dW {H:Hp} {a:Addr} {o:HO}:upd H a o a=some o:=by unfold upd;rw [if_pos rfl]
theorem aY {H:Hp} {a b:Addr} {o:HO} (h:b≠a):upd H a o b=H b:=by unfold upd;rw [if_neg h]
theorem DV {H:Hp} {a b:Addr} {o u:HO} (h:H a=some o) (h':H b=some u) (d:o≠u):a≠b:=by
 intro e;subst e;rw [h] at h';exact d (Option.some.inj h')
theorem bV {H:Hp} {a b:Addr} {o:HO} (h:H a=some o) (h':H b=none):a≠b:=by
 intro e;subst e;rw [h] at h';cases h'
section
variable (P:Program) (w:World)
def dj (H:Hp) (h:Heap) (a:Addr):HO→Prop
 | .lst xs=>xs.length≤sizeLine∧∃ (its:List Value) (n:Nat),Vals xs its∧h.get? a=some { cls:= .type "list",data:= .seq its.toArray n }
 | .tup xs=>xs.length≤sizeLine∧∃ its:List Value,Vals xs its∧IsTup h a its.toArray
 | .dK kvs=>kvs.length≤sizeLine∧(a == sysModules)=false∧∃ vs,KV kvs vs∧h.DictOf (x6 P w) a vs
 | .dT kvs=>kvs.length≤sizeLine∧(a == sysModules)=false∧∃ xs:List (List Key ×Addr ×Value),
  Paired (fun (p:List Key ×V) (q:List Key ×Addr ×Value)=>p.1=q.1∧H q.2.1=some (.tup (p.1.map kV))∧RelV p.2 q.2.2) kvs xs∧
  ∃ o es ep,h.get? a=some o∧o.ExactDict∧o.data= .dict es ep∧es.toList=xs.map (entryOfKey (tupleKind (x6 P w)))∧(xs.map (·.1)).Nodup
 | .set S n=>h.SetOf (intKind P w) a S n
 | .ins C dx fs=>H dx=some (.own a)∧fs.length≤1000∧dx≠a∧h.get? a=some (PySem.W.instObj C dx)∧
  ∃ mA,h.Ns1 dx mA∧(∀ f,EE (fs.lookup f) (mA f))∧PySem.Within mA (fs.map (·.1))
 | .own _=> ∃ o,h.get? a=some o
 | .xd fs=> ∃ mA,h.Ns1 a mA∧∀ f,EE (fs.lookup f) (mA f)
 | .JL lo hi=> ∃ t u v,h.get? a=some { cls:= .type "range",data:= .fields #[.int lo t,.int hi u,.int 1 v] }
 | .mh o u=>h.get? a=some o∧dj H h a u
 | .EF ps=>h.get? a=some { cls:= .none,data:= .fields ps }
 | .met f x=>h.get? a=some (PySem.W.methodObj (.ref f) (.ref x))
 | .ext φ=>φ h∧(∃ o,h.get? a=some o)∧∀ h1 h2:Heap,φ h1→(∀ o,h1.get? a=some o→h2.get? a=some o)→φ h2
def jN (H:Hp) (h:Heap):Prop:= ∀ a o,H a=some o→dj P w H h a o
end
section
variable {P:Program} {w:World} {H H':Hp} {h h':Heap} {a:Addr} {o:HO}
theorem dj.lt (x:dj P w H h a o):a < h.objs.size:=by
 cases o with
 | lst xs=>obtain ⟨_,_,_,_,e⟩:=x;exact Heap.lt_size e
 | tup xs=>obtain ⟨_,_,_,p⟩:=x;exact p.lt
 | dK kvs=>obtain ⟨_,_,_,_,o,_,_,e,_⟩:=x;exact Heap.lt_size e
 | dT kvs=>obtain ⟨_,_,_,_,o,_,_,e,_⟩:=x;exact Heap.lt_size e
 | set S n=>obtain ⟨o,_,_,_,e,_⟩:=x;exact Heap.lt_size e
 | ins C dx fs=>obtain ⟨_,_,_,e,_⟩:=x;exact Heap.lt_size e
 | own y=>obtain ⟨_,e⟩:=x;exact Heap.lt_size e
 | xd fs=>obtain ⟨_,⟨_,_,_,e,_⟩,_⟩:=x;exact Heap.lt_size e
 | JL lo hi=>obtain ⟨_,_,_,e⟩:=x;exact Heap.lt_size e
 | mh ob u=>obtain ⟨e,_⟩:=x;exact Heap.lt_size e
 | EF ps=>exact Heap.lt_size (show h.get? a=some _ from x)
 | met f y=>exact Heap.lt_size (show h.get? a=some _ from x)
 | ext φ=>obtain ⟨_,⟨_,e⟩,_⟩:=x;exact Heap.lt_size e
theorem Paired.EG {α β:Type} {F G:α→β→Prop}:∀ {l₁:List α} {l₂:List β},Paired F l₁ l₂→(∀ a b,F a b→G a b)→Paired G l₁ l₂
 | _,_,.nil,_=> .nil
 | _,_,.cons r t,f=> .cons (f _ _ r) (Paired.EG t f)
theorem dj.stay (x:dj P w H h a o) (k:∀ b u,(b=a∨H b=some (.own a))→h.get? b=some u→h'.get? b=some u)
 (ho:∀ b,H b=some (.own a)→H' b=some (.own a)) (ht:∀ b xs,H b=some (.tup xs)→H' b=some (.tup xs)):dj P w H' h' a o:=by
 induction o with
 | lst xs=>obtain ⟨z,its,n,r,e⟩:=x;exact ⟨z,its,n,r,k _ _ (.inl rfl) e⟩
 | tup xs=>obtain ⟨z,its,r,ob,e,c⟩:=x;exact ⟨z,its,r,ob,k _ _ (.inl rfl) e,c⟩
 | dK kvs=>obtain ⟨z,y,vs,r,ob,es,ep,e,c⟩:=x;exact ⟨z,y,vs,r,ob,es,ep,k _ _ (.inl rfl) e,c⟩
 | dT kvs=>
   obtain ⟨z,y,xs,r,ob,es,ep,e,c⟩:=x
   exact ⟨z,y,xs,Paired.EG r fun p q z=>⟨z.1,ht _ _ z.2.1,z.2.2⟩,ob,es,ep,k _ _ (.inl rfl) e,c⟩
 | set S n=>obtain ⟨ob,es,ep,t,e,c⟩:=x;exact ⟨ob,es,ep,t,k _ _ (.inl rfl) e,c⟩
 | ins C dx fs=>
   obtain ⟨d,z,ne,e,mA,⟨od,es,ep,e2,c⟩,r⟩:=x
   exact ⟨ho _ d,z,ne,k _ _ (.inl rfl) e,mA,⟨od,es,ep,k _ _ (.inr d) e2,c⟩,r⟩
 | own y=>obtain ⟨ob,e⟩:=x;exact ⟨ob,k _ _ (.inl rfl) e⟩
 | xd fs=>obtain ⟨mA,⟨od,es,ep,e,c⟩,r⟩:=x;exact ⟨mA,⟨od,es,ep,k _ _ (.inl rfl) e,c⟩,r⟩
 | JL lo hi=>obtain ⟨t,u,v,e⟩:=x;exact ⟨t,u,v,k _ _ (.inl rfl) e⟩
 | mh ob u ih=>obtain ⟨e,q⟩:=x;exact ⟨k _ _ (.inl rfl) e,ih q⟩
 | EF ps=>
   have e:h.get? a=some { cls:= .none,data:= .fields ps }:=x
   show h'.get? a=some { cls:= .none,data:= .fields ps }
   exact k a _ (.inl rfl) e
 | met f y=>
   have e:h.get? a=some (PySem.W.methodObj (.ref f) (.ref y)):=x
   show h'.get? a=some (PySem.W.methodObj (.ref f) (.ref y))
   exact k a _ (.inl rfl) e
 | ext φ=>obtain ⟨p,⟨o,e⟩,st⟩:=x;exact ⟨st _ _ p fun o q=>k _ _ (.inl rfl) q,⟨o,k _ _ (.inl rfl) e⟩,st⟩
theorem jN.lt (x:jN P w H h) (e:H a=some o):a < h.objs.size:=(x a o e).lt
theorem jN.fresh (x:jN P w H h) (e:h.objs.size≤a):H a=none:=by
 cases q:H a with
 | none=>rfl
 | some u=>exact absurd (Nat.lt_of_lt_of_le (x.lt q) e) (Nat.lt_irrefl _)
theorem jN.kept (x:jN P w H h) (k:∀ b u,h.get? b=some u→h'.get? b=some u):jN P w H h':=fun a o e=>
 (x a o e).stay (fun b u _ q=>k b u q) (fun _ q=>q) fun _ _ q=>q
theorem jN.laid (x:jN P w H h) (k:∀ b u,h.get? b=some u→h'.get? b=some u) (hp:h.objs.size≤a) (new:dj P w (upd H a o) h' a o):jN P w (upd H a o) h':=fun b u e=>by
 have hn:=x.fresh hp
 by_cases hb:b=a
 ·subst hb;rw [dW] at e;cases e;exact new
 ·rw [aY hb] at e
  exact (x b u e).stay (fun c v _ q=>k c v q) (fun c q=>by rw [aY (bV q hn)];exact q) fun c xs q=>by rw [aY (bV q hn)];exact q
end
def Rd (H:Hp) (a:Addr) (u:HO):Prop:=H a=some u∨∃ o,H a=some (.mh o u)
theorem Rd.ok {P:Program} {w:World} {H:Hp} {h:Heap} {a:Addr} {u:HO} (r:Rd H a u) (x:jN P w H h):dj P w H h a u:=by
 rcases r with r | ⟨o,r⟩
 ·exact x a u r
 ·obtain ⟨_,q⟩:=x a _ r
  exact q
def Ji:Option HO→Prop
 | some (.lst _)=>True
 | some (.dK _)=>True
 | some (.dT _)=>True
 | some (.set _ _)=>True
 | some (.ins _ _ _)=>True
 | some (.ext _)=>True
 | _=>False
section
variable {P:Program} {w:World} {H:Hp} {h h':Heap} {x e:Addr} {o':HO}
theorem jN.write (ok:jN P w H h) (mu:Ji (H x)) (he:e=x∨H e=some (.own x)) (k:∀ b u,b≠e→h.get? b=some u→h'.get? b=some u) (GN:∃ u,h'.get? e=some u)
 (new:dj P w (upd H x o') h' x o'):jN P w (upd H x o') h':=fun b u q=>by
 have G0:∀ c y,H c=some (.own y)→c≠x:=fun c y r z=>by subst z;rw [r] at mu;exact mu
 have JM:∀ c xs,H c=some (.tup xs)→c≠x:=fun c xs r z=>by subst z;rw [r] at mu;exact mu
 by_cases hb:b=x
 ·subst hb;rw [dW] at q;cases q;exact new
 ·rw [aY hb] at q
  by_cases EH:b=e
  ·have q':H b=some (.own x):=by
    rcases he with z | z
    ·exact absurd (EH.trans z) hb
    ·rw [EH];exact z
   rw [q] at q';cases q'
   obtain ⟨v,hv⟩:=GN
   exact ⟨v,by rw [EH];exact hv⟩
  ·refine (ok b u q).stay (fun c v hc r=>k c v ?_ r) (fun c r=>by rw [aY (G0 c b r)];exact r) fun c xs r=>by rw [aY (JM c xs r)];exact r
   rcases hc with rfl | hc
   ·exact EH
   ·rintro rfl
    rcases he with z | z
    ·exact G0 c b hc z
    ·rw [hc] at z;cases z;exact hb rfl
end
structure Un (fs ex:List Addr) (H H':Hp) (h h':Heap):Prop where
 keep:∀ b o,h.get? b=some o→H b=none→b∉fs→b∉ex→h'.get? b=some o
 slot:∀ b o,h.get? b=some o→H b=none→b∈fs→b∉ex→∃ sl,h'.get? b=some { o with slots:=sl }
 free:∀ b o,h.get? b=some o→H b=none→b∉ex→H' b=none
 there:∀ b o,h.get? b=some o→b∉ex→∃ o',h'.get? b=some o'
 tups:∀ b xs,H b=some (.tup xs)→H' b=some (.tup xs)
 tQ:∀ b o u,H b=some (.mh o u)→H' b=some (.mh o u)
 vf:∀ b ps,H b=some (.EF ps)→∃ more,H' b=some (.EF (ps ++ more))
section
variable {fs fs' ex ex':List Addr} {H H1 H2:Hp} {h h1 h2 h':Heap} {a x e:Addr} {o:HO}
theorem Un.any (u:Un fs ex H H1 h h1) {b:Addr} {ob:Obj} (q:h.get? b=some ob) (n:H b=none) (hx:b∉ex):∃ sl,h1.get? b=some { ob with slots:=sl }:=by
 by_cases hb:b∈fs
 ·exact u.slot b ob q n hb hx
 ·exact ⟨ob.slots,u.keep b ob q n hb hx⟩
theorem Un.kept (k:∀ b u,h.get? b=some u→h'.get? b=some u):Un fs ex H H h h':=
 ⟨fun b ob q _ _ _=>k b ob q,fun b ob q _ _ _=>⟨ob.slots,k b ob q⟩,fun _ _ _ n _=>n,fun b ob q _=>⟨ob,k b ob q⟩,fun _ _ q=>q,fun _ _ _ q=>q,fun _ ps q=>⟨#[],by rw [q];simp⟩⟩
theorem Un.refl:Un fs ex H H h h:=Un.kept fun _ _ q=>q
theorem Un.laid (k:∀ b u,h.get? b=some u→h'.get? b=some u) (hp:h.objs.size≤a) (hn:H a=none):Un fs ex H (upd H a o) h h' where
 keep:=fun b u q _ _ _=>k b u q
 slot:=fun b u q _ _ _=>⟨u.slots,k b u q⟩
 free:=fun b u q n _=>by rw [aY (Nat.ne_of_lt (Nat.lt_of_lt_of_le (Heap.lt_size q) hp))];exact n
 there:=fun b u q _=>⟨u,k b u q⟩
 tups:=fun b xs q=>by rw [aY (bV q hn)];exact q
 tQ:=fun b u xs q=>by rw [aY (bV q hn)];exact q
 vf:=fun b ps q=>⟨#[],by rw [aY (bV q hn),q];simp⟩
theorem Un.write (mu:Ji (H x)) (he:e=x∨H e=some (.own x)) (k:∀ b u,b≠e→h.get? b=some u→h'.get? b=some u) (GN:∃ u,h'.get? e=some u):Un fs ex H (upd H x o) h h':=by
 have hx:∀ b,H b=none→b≠x:=fun b n z=>by subst z;rw [n] at mu;exact mu
 have hb:∀ b,H b=none→b≠e:=fun b n z=>by
  subst z
  rcases he with r | r
  ·exact hx b n r
  ·rw [n] at r;cases r
 have hm:∀ b u,H b=some u→¬ Ji (some u)→b≠x:=fun b u q nm z=>by subst z;rw [q] at mu;exact nm mu
 refine ⟨fun b u q n _ _=>k b u (hb b n) q,fun b u q n _ _=>⟨u.slots,k b u (hb b n) q⟩,fun b u q n _=>by rw [aY (hx b n)];exact n,fun b u q _=>?_,
  fun b xs q=>by rw [aY (hm b _ q fun z=>z)];exact q,fun b u xs q=>by rw [aY (hm b _ q fun z=>z)];exact q,fun b ps q=>⟨#[],by rw [aY (hm b _ q fun z=>z),q];simp⟩⟩
 by_cases EH:b=e
 ·subst EH;exact GN
 ·exact ⟨u,k b u EH q⟩
end
def Jj (h:Heap) (H:Hp):List Addr:=(List.range h.objs.size).filter fun a=>(H a).isSome
def tR (h:Heap) (H:Hp):Heap:=PySem.W.hideAll h (Jj h H)
theorem zj (h:Heap) (H:Hp):(tR h H).objs.size=h.objs.size:=PySem.W.hideAll_size _ _
theorem As {h:Heap} {H:Hp} {b:Addr} {o:Obj} (e:h.get? b=some o) (n:H b=none):(tR h H).get? b=some o:=
 PySem.W.hideAll_get _ e fun hm=>by
  have q:(H b).isSome=true:=(List.mem_filter.mp hm).2
  rw [n] at q;simp at q
theorem Cy {h:Heap} {H:Hp} {b:Addr} {o:Obj} (e:(tR h H).get? b=some o):h.get? b=some o∧H b=none:=by
 have e':h.get? b=some o:=PySem.W.of_hideAll (Jj h H) e
 refine ⟨e',?_⟩
 cases q:H b with
 | none=>rfl
 | some x=>
   have hm:b∈Jj h H:=List.mem_filter.mpr ⟨List.mem_range.mpr (Heap.lt_size e'),by simp [q]⟩
   have z:(tR h H).get? b=none:=PySem.W.hideAll_none (Jj h H) hm
   rw [z] at e;cases e
def Cz (g h:Heap) (L:Addr):List (Addr ×Obj):=(List.range h.objs.size).filterMap fun a=>if a=L∨(g.get? a).isSome=true then none else (h.get? a).map fun o=>(a,o)
def rest (g h:Heap) (L d:Addr):List (Addr ×Obj):=(Cz g h L).filter fun p=>decide (p.1≠d)
end L2
namespace L2
open PySem PySem.Spec PyProof.Rows
structure Mod (K:PySem.W.Frag) (mg:Str→Option Value) (base:Heap):Prop where
 JN:K.In base
 glob:base.Ns mainGlobals mg
 blt:∃ mb,base.Ns builtinsNs mb∧∀ x:Str,x≠"__name__"→mb x=bootBuiltins x
 nolimit:base.NoLimit
structure Cx where
 prog:Program
 w:World
 K:PySem.W.Frag
 mg:Str→Option Value
 base:Heap
 A:Around
 N:List Str
 s₀:Shared
 H₀:Hp
 env:Env
 outer:List Env
 stack:List Env
 ex:List Addr
 fn:Str→Bool
 calm:Bool
 pn:List (Addr ×Obj)
 xe:Value→Shared→Prop
def frs (l:List Env):List Addr:=l.filterMap (·.frame)
abbrev Cx.fs (X:Cx):List Addr:=frs X.outer
def JO (sc:Scope) (x:Str):Prop:=sc.names.lookup x=some .local∨sc.names.lookup x=some .cell∨sc.names.lookup x=some .free
def Loc (sc:Scope) (x:Str):Prop:=sc.names.lookup x=some .local∨sc.names.lookup x=some .cell
def Look (env:Env) (h:Heap) (m:Str→Option Value) (x:Str) (u:Value):Prop:=
 (env.kindOf x=some .local∧m x=some u)∨((env.kindOf x=some .cell∨env.kindOf x=some .free)∧∃ c,env.cells.lookup x=some c∧h.IsCell c (some u))
structure Cx.Ok (X:Cx):Prop where
 mod:Mod X.K X.mg X.base
 kind:X.env.scope.kind= .function
 glob:X.env.globals=mainGlobals
 blt:X.env.builtins=builtinsNs
 above:X.s₀.heap.objs.size≤X.env.locals
 inj:∀ x y c,X.env.cells.lookup x=some c→X.env.cells.lookup y=some c→x=y
 has:∀ x,(X.env.kindOf x=some .cell∨X.env.kindOf x=some .free)→∃ c,X.env.cells.lookup x=some c
 GO:∀ x c,X.fn x=true→X.env.cells.lookup x=some c→X.s₀.heap.objs.size≤c
 hd:X.calm=true→X.A.handled=none
 frames:X.A.frames=some X.stack
 stk:X.stack=X.outer∨(X.stack=X.env :: X.outer∧X.env.frame=some X.env.locals)
 G1:∀ b∈X.ex,b≠X.env.locals∧∀ x c,X.env.cells.lookup x=some c→c≠b
 bs:∀ b o,X.base.get? b=some o→X.s₀.heap.get? b=some o∧X.H₀ b=none
 DW:X.base.objs.size≤X.s₀.heap.objs.size
 zk:∀ b o,X.base.get? b=some o→b∉X.ex
 zl:∀ b∈X.ex,b∉X.fs
 oK:X.s₀.heap.FunFrames X.base X.outer
 EI:∀ b∈X.fs,X.H₀ b=none
structure Inv (X:Cx) (pins:List (Addr ×Obj)) (σ:List (Option V)) (H:Hp) (s:Shared):Prop where
 ok:X.Ok
 os:s.os=X.s₀.os
 bare:AllBare s.gens
 base:Un X.fs X.ex X.H₀ H X.s₀.heap s.heap
 loc:∃ m,s.heap.Ns X.env.locals m∧∀ (i:Nat) (x:Str) (v:V),X.N[i]?=some x→σ[i]?=some (some v)→JO X.env.scope x→∃ u,RelV v u∧Look X.env s.heap m x u
 cell:∀ x c,X.env.cells.lookup x=some c→∃ v,s.heap.IsCell c v
 free:H X.env.locals=none
 k6:∀ x c,X.env.cells.lookup x=some c→H c=none
 pin:∀ p∈X.pn ++ pins,s.heap.get? p.1=some p.2∧H p.1=none∧p.1≠X.env.locals∧p.1∉X.fs∧∀ v,p.2.data≠ .cell v
 hok:jN X.prog X.w H s.heap
 len:σ.length=X.N.length
section
variable {X:Cx} {pins:List (Addr ×Obj)} {σ:List (Option V)} {H H':Hp} {s:Shared} {h':Heap}
theorem Cx.Ok.JP (ok:X.Ok) {b:Addr} {o:Obj} (e:X.base.get? b=some o):b∉X.fs:=fun hb=>by
 have:=(ok.oK.mem hb).1
 rw [e] at this;cases this
theorem Inv.bs (I:Inv X pins σ H s):∀ b o,X.base.get? b=some o→s.heap.get? b=some o∧H b=none:=fun b o e=>
 ⟨I.base.keep b o (I.ok.bs b o e).1 (I.ok.bs b o e).2 (I.ok.JP e) (I.ok.zk b o e),I.base.free b o (I.ok.bs b o e).1 (I.ok.bs b o e).2 (I.ok.zk b o e)⟩
theorem Inv.bk (I:Inv X pins σ H s):∀ b o,X.base.get? b=some o→s.heap.get? b=some o:=fun b o e=>(I.bs b o e).1
theorem Inv.mod (I:Inv X pins σ H s):Mod X.K X.mg X.base:=I.ok.mod
theorem Inv.u7 (I:Inv X pins σ H s):X.K.In s.heap:=I.ok.mod.JN.keeps I.bk
theorem Inv.lt (I:Inv X pins σ H s):X.env.locals < s.heap.objs.size:=let ⟨_,hn,_⟩:=I.loc;hn.lt
theorem Inv.sz (I:Inv X pins σ H s):X.s₀.heap.objs.size≤s.heap.objs.size:=Nat.le_trans I.ok.above (Nat.le_of_lt I.lt)
theorem Inv.JQ (I:Inv X pins σ H s) {a:Addr} (h:s.heap.objs.size≤a):a∉X.fs:=fun hb=>by
 obtain ⟨_,o,ho,_⟩:=I.ok.oK.mem hb
 exact absurd (Nat.lt_of_lt_of_le (Heap.lt_size ho) (Nat.le_trans I.sz h)) (Nat.lt_irrefl _)
theorem Inv.EJ (I:Inv X pins σ H s):∀ x c,X.env.cells.lookup x=some c→c≠X.env.locals:=fun x c e z=>by
 obtain ⟨v,o,ho,hd⟩:=I.cell x c e
 obtain ⟨m,⟨o',es,ep,ho',hd',_⟩,_⟩:=I.loc
 rw [z,ho'] at ho;cases ho;rw [hd'] at hd;cases hd
theorem Inv.oK (I:Inv X pins σ H s):s.heap.FunFrames X.base X.outer:=by
 have all:∀ (l:List Env),(∀ b∈frs l,b∈X.fs)→X.s₀.heap.FunFrames X.base l→s.heap.FunFrames X.base l:=by
  intro l
  induction l with
  | nil=>intro _ _;trivial
  | cons env r ih=>
    intro hs hl
    obtain ⟨hk,⟨L,o,hf,hn,ho,hd⟩,hr⟩:=hl
    have hL:L∈X.fs:=hs L (by unfold frs;rw [List.filterMap_cons,hf];exact List.mem_cons_self)
    obtain ⟨sl,e⟩:=I.base.slot L o ho (I.ok.EI L hL) hL fun z=>I.ok.zl L z hL
    exact ⟨hk,⟨L,_,hf,hn,e,hd⟩,ih (fun b hb=>hs b (by unfold frs;rw [List.filterMap_cons,hf];exact List.mem_cons_of_mem _ hb)) hr⟩
 exact all X.outer (fun _ hb=>hb) I.ok.oK
theorem Inv.stack (I:Inv X pins σ H s):s.heap.FunFrames X.base X.stack:=by
 rcases I.ok.stk with e | ⟨e,hf⟩
 ·rw [e];exact I.oK
 ·rw [e]
  obtain ⟨m,hn,_⟩:=I.loc
  refine .cons (by rw [I.ok.kind];decide) hf hn ?_ I.oK
  exact Heap.get?_none_of_le (Nat.le_trans I.ok.DW I.ok.above)
theorem Inv.wM (I:Inv X pins σ H s):∀ b∈frs X.stack,b∈X.env.locals :: X.fs:=fun b hb=>by
 rcases I.ok.stk with e | ⟨e,hf⟩
 ·rw [e] at hb;exact List.mem_cons_of_mem _ hb
 ·rw [e] at hb
  unfold frs at hb
  rw [List.filterMap_cons,hf] at hb
  exact hb
theorem Inv.x8 (I:Inv X pins σ H s):∀ b∈frs X.stack,H b=none:=fun b hb=>by
 rcases List.mem_cons.mp (I.wM b hb) with e | hb
 ·rw [e];exact I.free
 ·obtain ⟨_,o,ho,_⟩:=I.ok.oK.mem hb
  exact I.base.free b o ho (I.ok.EI b hb) fun z=>I.ok.zl b z hb
theorem Inv.step {g':Array GenState} {t':Nat} {d':Drawn} {ch:List Addr} (I:Inv X pins σ H s)
 (hch:∀ b∈ch,(b∈X.ex∨X.s₀.heap.objs.size≤b)∧b≠X.env.locals∧(∀ x c,X.env.cells.lookup x=some c→c≠b)∧∀ p∈X.pn ++ pins,p.1≠b)
 (keep:∀ b o,b≠X.env.locals→b∉X.fs→b∉ch→s.heap.get? b=some o→H b=none→h'.get? b=some o)
 (slot:∀ b o,b≠X.env.locals→b∈X.fs→b∉ch→s.heap.get? b=some o→H b=none→∃ sl,h'.get? b=some { o with slots:=sl }) (free:∀ b o,b∉ch→s.heap.get? b=some o→H b=none→H' b=none)
 (there:∀ b o,b∉ch→s.heap.get? b=some o→∃ o',h'.get? b=some o')
 (tups:∀ b xs,H b=some (.tup xs)→H' b=some (.tup xs)) (tQ:∀ b o u,H b=some (.mh o u)→H' b=some (.mh o u)) (vf:∀ b ps,H b=some (.EF ps)→∃ more,H' b=some (.EF (ps ++ more)))
 (ns:∀ m,s.heap.Ns X.env.locals m→h'.Ns X.env.locals m) (hok:jN X.prog X.w H' h') (hg:AllBare g') :
 Inv X pins σ H' { s with heap:=h',gens:=g',drawn:=d',toks:=t' }:=by
 have Mc:∀ b o,X.s₀.heap.get? b=some o→b≠X.env.locals:=fun b o e=>Nat.ne_of_lt (Nat.lt_of_lt_of_le (Heap.lt_size e) I.ok.above)
 have Jk:∀ b o,X.s₀.heap.get? b=some o→b∉X.ex→b∉ch:=fun b o e hx hb=>by
  rcases (hch b hb).1 with z | z
  ·exact hx z
  ·exact absurd (Nat.lt_of_lt_of_le (Heap.lt_size e) z) (Nat.lt_irrefl _)
 have cellK:∀ x c,X.env.cells.lookup x=some c→∀ v,s.heap.IsCell c v→h'.IsCell c v:=fun x c e v ⟨o,ho,hd⟩=>by
  have G2:c∉ch:=fun z=>(hch c z).2.2.1 x c e rfl
  by_cases hc:c∈X.fs
  ·obtain ⟨sl,q⟩:=slot c o (I.EJ x c e) hc G2 ho (I.k6 x c e)
   exact ⟨_,q,hd⟩
  ·exact ⟨o,keep c o (I.EJ x c e) hc G2 ho (I.k6 x c e),hd⟩
 refine ⟨I.ok,I.os,hg,⟨fun b o e n hb hx=>?_,fun b o e n hb hx=>?_,fun b o e n hx=>?_,fun b o e hx=>?_,fun b xs e=>tups b xs (I.base.tups b xs e),fun b o xs e=>tQ b o xs (I.base.tQ b o xs e),fun b ps e=>?_⟩,?_,fun x c e=>?_,?_,fun x c e=>?_,fun p hp=>?_,hok,I.len⟩
 ·exact keep b o (Mc b o e) hb (Jk b o e hx) (I.base.keep b o e n hb hx) (I.base.free b o e n hx)
 ·obtain ⟨sl,e1⟩:=I.base.slot b o e n hb hx
  obtain ⟨Np,e2⟩:=slot b _ (Mc b o e) hb (Jk b o e hx) e1 (I.base.free b o e n hx)
  exact ⟨Np,e2⟩
 ·obtain ⟨o',e1⟩:=I.base.there b o e hx
  exact free b o' (Jk b o e hx) e1 (I.base.free b o e n hx)
 ·obtain ⟨o',e1⟩:=I.base.there b o e hx
  exact there b o' (Jk b o e hx) e1
 ·obtain ⟨m1,e1⟩:=I.base.vf b ps e
  obtain ⟨m2,e2⟩:=vf b _ e1
  exact ⟨m1 ++ m2,by rw [e2,Array.append_assoc]⟩
 ·obtain ⟨m,hn,hl⟩:=I.loc
  refine ⟨m,ns m hn,fun i x v e1 e2 e3=>?_⟩
  obtain ⟨u,r,l⟩:=hl i x v e1 e2 e3
  refine ⟨u,r,?_⟩
  rcases l with l | ⟨k,c,e,z⟩
  ·exact .inl l
  ·exact .inr ⟨k,c,e,cellK x c e _ z⟩
 ·obtain ⟨v,z⟩:=I.cell x c e
  exact ⟨v,cellK x c e v z⟩
 ·obtain ⟨m,⟨o,_,_,ho,_⟩,_⟩:=I.loc
  exact free _ o (fun z=>(hch _ z).2.1 rfl) ho I.free
 ·obtain ⟨v,o,ho,hd⟩:=I.cell x c e
  exact free c o (fun z=>(hch c z).2.2.1 x c e rfl) ho (I.k6 x c e)
 ·obtain ⟨e,n,ne,nf,d⟩:=I.pin p hp
  have G2:p.1∉ch:=fun z=>(hch p.1 z).2.2.2 p hp rfl
  exact ⟨keep p.1 p.2 ne nf G2 e n,free p.1 p.2 G2 e n,ne,nf,d⟩
theorem Inv.un {t':Nat} (I:Inv X pins σ H s) (u:Un X.fs [] H H' s.heap h') (hok:jN X.prog X.w H' h'):Inv X pins σ H' { s with heap:=h',toks:=t' }:=by
 obtain ⟨m,⟨o,es,ep,ho,r⟩,_⟩:=id I.loc
 obtain ⟨sl,hL⟩:=u.any ho I.free (by simp)
 exact I.step (g':=s.gens) (d':=s.drawn) (ch:=[]) (fun _ z=>nomatch z) (fun b o _ hb _ e n=>u.keep b o e n hb (by simp)) (fun b o _ hb _ e n=>u.slot b o e n hb (by simp)) (fun b o _ e n=>u.free b o e n (by simp)) (fun b o _ e=>u.there b o e (by simp)) u.tups u.tQ u.vf (fun m' hm=>by
  obtain ⟨o',es',JR,ho',r'⟩:=hm
  rw [ho] at ho';cases ho'
  exact ⟨_,es',JR,hL,r'⟩) hok I.bare
theorem Inv.call {g':Array GenState} {t':Nat} {d':Drawn} {ch:List Addr} (I:Inv X pins σ H s) (u:Un (frs X.stack) ch H H' s.heap h') (hok:jN X.prog X.w H' h') (hg:AllBare g')
 (hch:∀ b∈ch,(b∈X.ex∨X.s₀.heap.objs.size≤b)∧b≠X.env.locals∧(∀ x c,X.env.cells.lookup x=some c→c≠b)∧∀ p∈X.pn ++ pins,p.1≠b) :
 Inv X pins σ H' { s with heap:=h',gens:=g',drawn:=d',toks:=t' }:=by
 obtain ⟨m,⟨o,es,ep,ho,r⟩,_⟩:=id I.loc
 obtain ⟨sl,hL⟩:=u.any ho I.free fun z=>(hch _ z).2.1 rfl
 exact I.step (ch:=ch) hch (fun b o hL hb hc e n=>u.keep b o e n (fun z=>(List.mem_cons.mp (I.wM b z)).elim hL hb) hc) (fun b o _ _ hc e n=>u.any e n hc) (fun b o hc e n=>u.free b o e n hc) (fun b o hc e=>u.there b o e hc) u.tups u.tQ u.vf (fun m' hm=>by
  obtain ⟨o',es',JR,ho',r'⟩:=hm
  rw [ho] at ho';cases ho'
  exact ⟨_,es',JR,hL,r'⟩) hok hg
theorem Inv.turned {t':Nat} {it:Addr} (I:Inv X pins σ H s) (k:∀ b o,b≠it→s.heap.get? b=some o→h'.get? b=some o) (hn:H it=none) (hL:it≠X.env.locals)
 (h1:it∈X.ex∨X.s₀.heap.objs.size≤it) (h2:∀ x c,X.env.cells.lookup x=some c→c≠it) (h3:∀ p∈X.pn ++ pins,p.1≠it):Inv X pins σ H { s with heap:=h',toks:=t' }:=by
 have G3:∀ b u,H b=some u→b≠it:=fun b u e z=>by rw [z,hn] at e;cases e
 refine I.step (g':=s.gens) (d':=s.drawn) (ch:=[it]) (fun b hb=>?_) (fun b o _ _ hc e _=>k b o (fun z=>hc (by simp [z])) e) (fun b o _ _ hc e _=>⟨o.slots,k b o (fun z=>hc (by simp [z])) e⟩) (fun _ _ _ _ n=>n)
  (fun b o hc e=>⟨o,k b o (fun z=>hc (by simp [z])) e⟩) (fun _ _ e=>e) (fun _ _ _ e=>e) (fun b ps e=>⟨#[],by rw [e];simp⟩) (fun m hm=>?_) (fun b u e=>?_) I.bare
 ·have e:b=it:=by simpa using hb
  subst e
  exact ⟨h1,hL,h2,h3⟩
 ·obtain ⟨o,es,ep,ho,r⟩:=hm
  exact ⟨o,es,ep,k _ o (Ne.symm hL) ho,r⟩
 ·refine (I.hok b u e).stay (fun c v hc q=>k c v ?_ q) (fun _ q=>q) fun _ _ q=>q
  rcases hc with z | z
  ·rw [z];exact G3 b u e
  ·exact G3 c _ z
theorem Inv.tok (I:Inv X pins σ H s) (t:Nat):Inv X pins σ H { s with toks:=t }:=I.un (h':=s.heap) (t':=t) Un.refl I.hok
theorem Inv.kept {t':Nat} (I:Inv X pins σ H s) (k:∀ b u,s.heap.get? b=some u→h'.get? b=some u):Inv X pins σ H { s with heap:=h',toks:=t' }:=I.un (Un.kept k) (I.hok.kept k)
theorem Inv.laid {a:Addr} {o:HO} {t':Nat} (I:Inv X pins σ H s) (k:∀ b u,s.heap.get? b=some u→h'.get? b=some u) (hp:s.heap.objs.size≤a) (new:dj X.prog X.w (upd H a o) h' a o) :
 Inv X pins σ (upd H a o) { s with heap:=h',toks:=t' }:=I.un (Un.laid k hp (I.hok.fresh hp)) (I.hok.laid k hp new)
theorem Inv.write {x e:Addr} {o:HO} {t':Nat} (I:Inv X pins σ H s) (mu:Ji (H x)) (he:e=x∨H e=some (.own x)) (k:∀ b u,b≠e→s.heap.get? b=some u→h'.get? b=some u) (GN:∃ u,h'.get? e=some u)
 (new:dj X.prog X.w (upd H x o) h' x o):Inv X pins σ (upd H x o) { s with heap:=h',toks:=t' }:=I.un (Un.write mu he k GN) (I.hok.write mu he k GN new)
theorem Inv.o9 {DY:List (Addr ×Obj)} (I:Inv X pins σ H s) (h:∀ p∈DY,s.heap.get? p.1=some p.2∧H p.1=none∧p.1≠X.env.locals∧p.1∉X.fs∧∀ v,p.2.data≠ .cell v):Inv X DY σ H s:=
 ⟨I.ok,I.os,I.bare,I.base,I.loc,I.cell,I.free,I.k6,fun p hp=>(List.mem_append.mp hp).elim (fun z=>I.pin p (List.mem_append_left _ z)) (h p),I.hok,I.len⟩
theorem vg {N:List Str} (hN:N.Nodup) {i j:Nat} {x:Str} (a:N[i]?=some x) (b:N[j]?=some x):i=j:=by
 obtain ⟨h1,e1⟩:=List.getElem?_eq_some_iff.mp a
 obtain ⟨h2,e2⟩:=List.getElem?_eq_some_iff.mp b
 exact (List.getElem_inj hN).mp (e1.trans e2.symm)
theorem zm {M:Model} {A:Around} {E:Value→Shared→Prop} {i:Nat} {x:Str} {v:V} {u:Value} {Q:Unit→Shared→Prop} (I:Inv X pins σ H s) (hN:X.N.Nodup) (hi:X.N[i]?=some x) (hx:Loc X.env.scope x) (r:RelV v u)
 (h:∀ s',Inv X pins (σ.set i (some v)) H s'→(∃ a,Heap.SameBut a s.heap s'.heap∧(a=X.env.locals∨X.env.cells.lookup x=some a))→Q () s') (hf:X.fn x=true∨X.env.scope.names.lookup x=some .local:=by first | exact .inl rfl | exact .inr rfl | assumption):wpAny M A (storeName X.env x u) Q E s:=by
 obtain ⟨m,hn,hl⟩:=id I.loc
 have hcls:(X.env.scope.kind == .class || (X.env.scope.kind == .module && X.env.locals !=X.env.globals))=false:=by rw [I.ok.kind];rfl
 have Me:i < σ.length:=by rw [I.len];exact (List.getElem?_eq_some_iff.mp hi).1
 have EJ:=I.EJ
 have tracked:∀ {a:Addr} {h':Heap},(∃ o,s.heap.get? a=some o∧H a=none)→Heap.SameBut a s.heap h'→jN X.prog X.w H h':=fun {a h'} ha hs b ob e=>by
  obtain ⟨_,_,hfree⟩:=ha
  refine (I.hok b ob e).stay (fun c w' hc q=>(hs.2 c ?_).trans q) (fun _ q=>q) fun _ _ q=>q
  rintro rfl
  rcases hc with rfl | hc
  ·rw [hfree] at e;cases e
  ·rw [hfree] at hc;cases hc
 rcases hx with hk | hk
 ·refine wpAny_storeName_local hk hn (fun h' hn' hs=>?_) hcls
  obtain ⟨oL,_,_,Nq,_⟩:=id hn
  refine h _ ⟨I.ok,I.os,I.bare,⟨fun b o e n hb hx=>?_,fun b o e n hb hx=>?_,I.base.free,fun b o e hx=>?_,I.base.tups,I.base.tQ,I.base.vf⟩,⟨_,hn',fun j y v' e1 e2 e3=>?_⟩,fun y c e=>?_,I.free,I.k6,fun p hp=>?_,tracked ⟨oL,Nq,I.free⟩ hs,by simpa using I.len⟩ ⟨_,hs,.inl rfl⟩
  ·exact (hs.2 b (Nat.ne_of_lt (Nat.lt_of_lt_of_le (Heap.lt_size e) I.ok.above))).trans (I.base.keep b o e n hb hx)
  ·obtain ⟨sl,e1⟩:=I.base.slot b o e n hb hx
   exact ⟨sl,(hs.2 b (Nat.ne_of_lt (Nat.lt_of_lt_of_le (Heap.lt_size e) I.ok.above))).trans e1⟩
  ·obtain ⟨o',e1⟩:=I.base.there b o e hx
   exact ⟨o',(hs.2 b (Nat.ne_of_lt (Nat.lt_of_lt_of_le (Heap.lt_size e) I.ok.above))).trans e1⟩
  ·by_cases hj:j=i
   ·subst hj
    rw [hi] at e1;cases e1
    rw [List.getElem?_set_self Me] at e2
    cases e2
    exact ⟨u,r,.inl ⟨hk,by simp⟩⟩
   ·rw [List.getElem?_set_ne (Ne.symm hj)] at e2
    obtain ⟨u',r',q⟩:=hl j y v' e1 e2 e3
    refine ⟨u',r',?_⟩
    rcases q with ⟨k,e⟩ | ⟨k,c,e,z⟩
    ·refine .inl ⟨k,?_⟩
     have:y≠x:=fun e=>hj (vg hN e1 (e▸hi))
     simp [this,e]
    ·exact .inr ⟨k,c,e,z.sameBut hs (EJ y c e)⟩
  ·obtain ⟨w',z⟩:=I.cell y c e
   exact ⟨w',z.sameBut hs (EJ y c e)⟩
  ·obtain ⟨e,n,ne,nf,d⟩:=I.pin p hp
   exact ⟨(hs.2 p.1 ne).trans e,n,ne,nf,d⟩
 ·have hfn:X.fn x=true:=by
   rcases hf with z | z
   ·exact z
   ·rw [z] at hk;cases hk
  obtain ⟨c,hc⟩:=I.ok.has x (.inl hk)
  obtain ⟨w',z⟩:=I.cell x c hc
  refine wpAny_storeName_cell I.ok.kind hk hc z (fun h' hc' hs=>?_)
  obtain ⟨oc,hoc,JS⟩:=id z
  refine h { s with heap:=h' } ⟨I.ok,I.os,I.bare,⟨fun b o e n hb hx=>?_,fun b o e n hb hx=>?_,I.base.free,fun b o e hx=>?_,I.base.tups,I.base.tQ,I.base.vf⟩,⟨m,hn.sameBut hs (Ne.symm (EJ x c hc)),fun j y v' e1 e2 e3=>?_⟩,fun y c' e=>?_,I.free,I.k6,fun p hp=>?_,tracked ⟨oc,hoc,I.k6 x c hc⟩ hs,by simpa using I.len⟩ ⟨c,hs,.inr hc⟩
  ·exact (hs.2 b (Nat.ne_of_lt (Nat.lt_of_lt_of_le (Heap.lt_size e) (I.ok.GO x c hfn hc)))).trans (I.base.keep b o e n hb hx)
  ·obtain ⟨sl,e1⟩:=I.base.slot b o e n hb hx
   exact ⟨sl,(hs.2 b (Nat.ne_of_lt (Nat.lt_of_lt_of_le (Heap.lt_size e) (I.ok.GO x c hfn hc)))).trans e1⟩
  ·obtain ⟨o',e1⟩:=I.base.there b o e hx
   exact ⟨o',(hs.2 b (Nat.ne_of_lt (Nat.lt_of_lt_of_le (Heap.lt_size e) (I.ok.GO x c hfn hc)))).trans e1⟩
  ·by_cases hj:j=i
   ·subst hj
    rw [hi] at e1;cases e1
    rw [List.getElem?_set_self Me] at e2
    cases e2
    exact ⟨u,r,.inr ⟨.inl hk,c,hc,hc'⟩⟩
   ·rw [List.getElem?_set_ne (Ne.symm hj)] at e2
    obtain ⟨u',r',q⟩:=hl j y v' e1 e2 e3
    refine ⟨u',r',?_⟩
    rcases q with q | ⟨k,c',e,z'⟩
    ·exact .inl q
    ·refine .inr ⟨k,c',e,z'.sameBut hs ?_⟩
     rintro rfl
     exact hj (vg hN e1 (I.ok.inj _ _ _ e hc▸hi))
  ·by_cases hcc:c'=c
   ·subst hcc;exact ⟨_,hc'⟩
   ·obtain ⟨w2,z2⟩:=I.cell y c' e
    exact ⟨w2,z2.sameBut hs hcc⟩
  ·obtain ⟨e,n,ne,nf,d⟩:=I.pin p hp
   refine ⟨(hs.2 p.1 ?_).trans e,n,ne,nf,d⟩
   intro q
   rw [q,hoc] at e
   have q':oc=p.2:=Option.some.inj e
   exact d w' (by rw [← q'];exact JS)
theorem mj {M:Model} {A:Around} {E:Value→Shared→Prop} {i:Nat} {x:Str} {v:V} {u:Value} {Q:Unit→Shared→Prop} (I:Inv X pins σ H s) (hN:X.N.Nodup) (hi:X.N[i]?=some x) (hx:Loc X.env.scope x) (r:RelV v u)
 (h:∀ s',Inv X pins (σ.set i (some v)) H s'→Q () s') (hf:X.fn x=true∨X.env.scope.names.lookup x=some .local:=by first | exact .inl rfl | exact .inr rfl | assumption):wpAny M A (storeName X.env x u) Q E s:=
 zm I hN hi hx r (fun s' I' _=>h s' I') hf
theorem Inv.G4 {s':Shared} {ch:List Addr} (I:Inv X pins σ H s) (ho:s'.os=s.os) (u:Un (frs X.stack) ch H H' s.heap s'.heap) (hok:jN X.prog X.w H' s'.heap) (hg:AllBare s'.gens)
 (hch:∀ b∈ch,(b∈X.ex∨X.s₀.heap.objs.size≤b)∧b≠X.env.locals∧(∀ x c,X.env.cells.lookup x=some c→c≠b)∧∀ p∈X.pn ++ pins,p.1≠b):Inv X pins σ H' s':=by
 obtain ⟨h',g',d',t',o'⟩:=s'
 have e:o'=s.os:=ho
 subst e
 exact I.call (g':=g') (t':=t') (d':=d') u hok hg hch
end
abbrev XK:=Value→Option Addr→Hp→Prop
abbrev St:=List (Option V)
abbrev VK:=V→Hp→Prop
abbrev TE:=St→Hp→VK→Prop
abbrev TT:=St→Hp→(Bool→Hp→Prop)→Prop
abbrev TA:=St→Hp→(List V→Hp→Prop)→Prop
structure Ends where
 nx:St→Hp→Prop
 rt:VK
 bk:St→Hp→Prop:=fun _ _=>False
 ct:St→Hp→Prop:=fun _ _=>False
abbrev TS:=Ends→St→Hp→Prop
def EP (X:Cx) (pins:List (Addr ×Obj)) (σ:St) (Q:VK) (u:Value) (s':Shared):Prop:= ∃ v H',Inv X pins σ H' s'∧RelV v u∧Q v H'
def TP (X:Cx) (pins:List (Addr ×Obj)) (σ:St) (Q:Bool→Hp→Prop) (b:Bool) (s':Shared):Prop:= ∃ H',Inv X pins σ H' s'∧Q b H'
def AP (X:Cx) (pins:List (Addr ×Obj)) (σ:St) (Q:List V→Hp→Prop) (us:List Value) (s':Shared):Prop:= ∃ vs H',Inv X pins σ H' s'∧Vals vs us∧Q vs H'
def SP (X:Cx) (pins:List (Addr ×Obj)) (D:Ends) (f:Flow) (s':Shared):Prop:=
 match f with
 | .next=> ∃ σ' H',Inv X pins σ' H' s'∧D.nx σ' H'
 | .brk=> ∃ σ' H',Inv X pins σ' H' s'∧D.bk σ' H'
 | .cont=> ∃ σ' H',Inv X pins σ' H' s'∧D.ct σ' H'
 | .ret u=> ∃ v σ' H',Inv X pins σ' H' s'∧RelV v u∧D.rt v H'
def PE (X:Cx) (e:Expr) (t:TE):Prop:=
 ∀ (pins:List (Addr ×Obj)) (s:Shared) (σ:St) (H:Hp) (Q:VK),Inv X pins σ H s→t σ H Q→wpAny (model X.prog X.w) X.A (eval e X.env) (EP X pins σ Q) X.xe s
def PT (X:Cx) (e:Expr) (t:TT):Prop:=
 ∀ (pins:List (Addr ×Obj)) (s:Shared) (σ:St) (H:Hp) (Q:Bool→Hp→Prop),Inv X pins σ H s→t σ H Q→wpAny (model X.prog X.w) X.A (isTrue e X.env (eval e X.env)) (TP X pins σ Q) X.xe s
def PW (X:Cx) (e:Expr) (t:TT):Prop:=
 ∀ (whole:Sem Value) (pins:List (Addr ×Obj)) (s:Shared) (σ:St) (H:Hp) (Q:Bool→Hp→Prop),Inv X pins σ H s→t σ H Q→wpAny (model X.prog X.w) X.A (isTrue e X.env whole) (TP X pins σ Q) X.xe s
def PA (X:Cx) (es:List Expr) (t:TA):Prop:=
 ∀ (pos:Pos) (pins:List (Addr ×Obj)) (s:Shared) (σ:St) (H:Hp) (Q:List V→Hp→Prop),Inv X pins σ H s→t σ H Q→wpAny (model X.prog X.w) X.A (spliced (backTo pos (starEach es X.env))) (AP X pins σ Q) X.xe s
def PS (X:Cx) (st:Stmt) (t:TS):Prop:=
 ∀ (pins:List (Addr ×Obj)) (s:Shared) (σ:St) (H:Hp) (D:Ends),Inv X pins σ H s→t D σ H→wpAny (model X.prog X.w) X.A (exec st X.env) (SP X pins D) X.xe s
def wN (X:Cx) (st:List Stmt) (t:TS):Prop:=
 ∀ (pins:List (Addr ×Obj)) (s:Shared) (σ:St) (H:Hp) (D:Ends),Inv X pins σ H s→t D σ H→wpAny (model X.prog X.w) X.A (execs st X.env) (SP X pins D) X.xe s
theorem cZ {α:Type} {t:Sem α} {Q Q':α→Shared→Prop} {M:Model} {A:Around} {E:Value→Shared→Prop} {s:Shared} (h:wpAny M A t Q E s) (hQ:∀ a s,Q a s→Q' a s):wpAny M A t Q' E s:=wpAny_mono h hQ fun _ _ x=>x
end L2
namespace L2
open PySem PySem.Spec PyProof.Rows
section
variable {X:Cx}
def JT (i:Nat):TE:=fun σ H Q=> ∃ v,σ[i]?=some (some v)∧Q v H
def tC (v:V):TE:=fun _ H Q=>Q v H
theorem EK {i:Nat} {x:Str} {pos:Pos} (hN:X.N[i]?=some x) (hv:JO X.env.scope x) (hd:(x == ("__debug__" :Str))=false:=by decide) (hcd:(x == ("__classdict__" :Str))=false:=by decide):PE X (.Name x pos) (JT i):=by
 intro pins s σ H Q I h
 obtain ⟨v,e,h⟩:=h
 obtain ⟨m,hn,hl⟩:=I.loc
 obtain ⟨u,r,l⟩:=hl i x v hN e hv
 have fin:EP X pins σ Q u s:=⟨v,H,I,r,h⟩
 rcases l with ⟨hk,hm⟩ | ⟨hk,c,hc,hcell⟩
 ·exact wpAny_Name (wpAny_loadName_local I.ok.kind hk hn hm fin) hd
 ·rcases hk with hk | hk
  ·exact wpAny_Name (wpAny_loadName_cell I.ok.kind hk hc hcell fin) hd
  ·exact wpAny_Name (wpAny_loadName_free I.ok.kind hk hc hcell fin hcd) hd
theorem EL {i j pos}:PE X (.Constant (.int i) j pos) (tC (.int i)):=fun _ _ _ H _ I h=>wpAny_Constant_int ⟨.int i,H,I.tok _,⟨_,rfl⟩,h⟩
theorem G5 {b j pos}:PE X (.Constant (.bool b) j pos) (tC (.bl b)):=fun _ _ _ H _ I h=>Constant_bool ⟨.bl b,H,I,rfl,h⟩
theorem EM {j pos}:PE X (.Constant .none j pos) (tC .bE):=fun _ _ _ H _ I h=>Constant_none ⟨.bE,H,I,rfl,h⟩
def Gl (X:Cx) (x:Str):Prop:=X.env.kindOf x=some .globalImplicit
theorem CA {E:Value→Shared→Prop} {pins:List (Addr ×Obj)} {s:Shared} {σ:St} {H:Hp} {x:Str} {u:Value} {pos:Pos} {Q:Value→Shared→Prop} (I:Inv X pins σ H s) (hg:Gl X x) (hm:X.mg x=some u) (h:Q u s)
 (hd:(x == ("__debug__" :Str))=false:=by decide):wpAny (model X.prog X.w) X.A (eval (.Name x pos) X.env) Q E s:=
 Calls.Name_function_global I.ok.kind hg (Calls.loadGlobal_global (by rw [I.ok.glob];exact I.mod.glob.keeps I.bk) hm h) hd
theorem jO {E:Value→Shared→Prop} {pins:List (Addr ×Obj)} {s:Shared} {σ:St} {H:Hp} {x:Str} {u:Value} {pos:Pos} {Q:Value→Shared→Prop} (I:Inv X pins σ H s) (hg:Gl X x) (hm:X.mg x=none) (hv:bootBuiltins x=some u) (h:Q u s)
 (hn:x≠"__name__" :=by decide) (hd:(x == ("__debug__" :Str))=false:=by decide):wpAny (model X.prog X.w) X.A (eval (.Name x pos) X.env) Q E s:=by
 obtain ⟨mb,h1,h2⟩:=I.mod.blt
 exact Calls.Name_function_global I.ok.kind hg (Calls.loadGlobal_builtin (by rw [I.ok.glob];exact I.mod.glob.keeps I.bk) hm (by rw [I.ok.blt];exact h1.keeps I.bk) ((h2 x hn).trans hv) h) hd
theorem CB {x:Str} {v:V} {u:Value} {pos:Pos} (hg:Gl X x) (hm:X.mg x=none) (hv:bootBuiltins x=some u) (r:RelV v u) (hn:x≠"__name__" :=by decide) (hd:(x == ("__debug__" :Str))=false:=by decide):PE X (.Name x pos) (tC v):=
 fun _ _ _ H _ I h=>jO I hg hm hv ⟨v,H,I,r,h⟩ hn hd
variable {a b:Expr} {ta tb:TE} {pos:Pos}
def tB (t:TE):TT:=fun σ H Q=>t σ H fun x H1=> ∃ c,x= .bl c∧Q c H1
variable {tA Jl:TT} {rest:List Expr}
def JU (t u:TT):TT:=fun σ H Q=>t σ H fun c H1=>if c=true then u σ H1 Q else Q false H1
def Nr (t u:TT):TT:=fun σ H Q=>t σ H fun c H1=>if c=true then Q true H1 else u σ H1 Q
def JV (t:TT):TT:=fun σ H Q=>t σ H fun c H1=>Q (!c) H1
theorem pw_and1 (ha:PT X a tA):PW X (.BoolOp .And [a] pos) tA:=by
 intro wh pins s σ H Q I h
 refine isTrue_and (cZ (ha pins s σ H Q I h) fun c s1 e=>?_)
 cases c with
 | true=>exact isTrue_and_nil e
 | false=>exact e
theorem pw_or1 (ha:PT X a tA):PW X (.BoolOp .Or [a] pos) tA:=by
 intro wh pins s σ H Q I h
 refine isTrue_or (cZ (ha pins s σ H Q I h) fun c s1 e=>?_)
 cases c with
 | false=>exact isTrue_or_nil e
 | true=>exact e
theorem pw_and (ha:PT X a tA) (hb:PW X (.BoolOp .And (b :: rest) pos) Jl):PW X (.BoolOp .And (a :: b :: rest) pos) (JU tA Jl):=by
 intro wh pins s σ H Q I h
 refine isTrue_and (cZ (ha pins s σ H _ I h) fun c s1 ⟨H1,I1,q1⟩=>?_)
 cases c with
 | true=>exact hb wh pins s1 σ H1 Q I1 q1
 | false=>exact ⟨H1,I1,q1⟩
theorem pw_or (ha:PT X a tA) (hb:PW X (.BoolOp .Or (b :: rest) pos) Jl):PW X (.BoolOp .Or (a :: b :: rest) pos) (Nr tA Jl):=by
 intro wh pins s σ H Q I h
 refine isTrue_or (cZ (ha pins s σ H _ I h) fun c s1 ⟨H1,I1,q1⟩=>?_)
 cases c with
 | true=>exact ⟨H1,I1,q1⟩
 | false=>exact hb wh pins s1 σ H1 Q I1 q1
theorem EN (ha:PT X a tA):PT X (.UnaryOp .Not a pos) (JV tA):=by
 intro pins s σ H Q I h
 exact isTrue_not (ha pins s σ H (fun c H1=>Q (!c) H1) I h)
def G6 (ta tb:TE):TE:=fun σ H Q=>ta σ H fun x H1=> ∃ c,x= .bl c∧if c=true then tb σ H1 Q else Q (.bl false) H1
def JW (ta tb:TE):TE:=fun σ H Q=>ta σ H fun x H1=> ∃ c,x= .bl c∧if c=true then Q (.bl true) H1 else tb σ H1 Q
def G7 (ta:TE):TE:=fun σ H Q=>ta σ H fun x H1=> ∃ c,x= .bl c∧Q (.bl (!c)) H1
theorem EO (ha:PE X a ta) (hb:PE X (.BoolOp .And (b :: rest) pos) tb):PE X (.BoolOp .And (a :: b :: rest) pos) (G6 ta tb):=by
 intro pins s σ H Q I h
 refine BoolOp_and (cZ (ha pins s σ H _ I h) fun v s1 ⟨x,H1,I1,r1,q1⟩=>?_)
 obtain ⟨c,rfl,q1⟩:=q1
 cases r1
 refine wpAny_truthy_bool ?_
 cases c with
 | true=>exact hb pins s1 σ H1 Q I1 q1
 | false=>exact ⟨.bl false,H1,I1,rfl,q1⟩
theorem G8 (ha:PE X a ta) (hb:PE X (.BoolOp .Or (b :: rest) pos) tb):PE X (.BoolOp .Or (a :: b :: rest) pos) (JW ta tb):=by
 intro pins s σ H Q I h
 refine BoolOp_or (cZ (ha pins s σ H _ I h) fun v s1 ⟨x,H1,I1,r1,q1⟩=>?_)
 obtain ⟨c,rfl,q1⟩:=q1
 cases r1
 refine wpAny_truthy_bool ?_
 cases c with
 | false=>exact hb pins s1 σ H1 Q I1 q1
 | true=>exact ⟨.bl true,H1,I1,rfl,q1⟩
theorem ER (ha:PE X a ta):PE X (.UnaryOp .Not a pos) (G7 ta):=by
 intro pins s σ H Q I h
 refine UnaryOp_ (cZ (ha pins s σ H _ I h) fun v s1 ⟨x,H1,I1,r1,q1⟩=>?_)
 obtain ⟨c,rfl,q1⟩:=q1
 cases r1
 exact not_of (wpAny_truthy_bool ⟨.bl (!c),H1,I1,rfl,q1⟩)
def Nt (t:TT) (ta tb:TE):TE:=fun σ H Q=>t σ H fun c H1=>if c=true then ta σ H1 Q else tb σ H1 Q
theorem Au {c:Expr} (hc:PT X c tA) (ha:PE X a ta) (hb:PE X b tb):PE X (.IfExp c a b pos) (Nt tA ta tb):=by
 intro pins s σ H Q I h
 refine wpAny_IfExp (cZ (hc pins s σ H _ I h) fun d s1 ⟨H1,I1,q1⟩=>?_)
 cases d with
 | true=>exact ha pins s1 σ H1 Q I1 q1
 | false=>exact hb pins s1 σ H1 Q I1 q1
end
end L2
namespace L2
open PySem PySem.Spec PyProof.Rows
def jw (K:PySem.W.Frag) (H:Hp) (a:Addr) (xs:List V):Prop:=
 Rd H a (.lst xs)∨
  ∃ (o:Obj) (its:Array Value) (n:Nat),K.lookup a=some o∧o.cls= .type "list"∧o.dict=none∧o.data= .seq its n∧its.size≤sizeLine∧Vals xs its.toList
def Cq (K:PySem.W.Frag) (H:Hp) (a:Addr) (xs:List V):Prop:=
 Rd H a (.tup xs)∨
  ∃ (o:Obj) (its:Array Value) (n:Nat),K.lookup a=some o∧o.cls= .type "tuple"∧o.data= .seq its n∧its.size≤sizeLine∧Vals xs its.toList
def G9:Value→Option V
 | .none=>some .bE
 | .bool b=>some (.bl b)
 | .int i _=>some (.int i)
 | .str x _=>some (.str x)
 | .bytes b _=>some (.Ar b)
 | .float b _=>some (.GL b)
 | .ref a=>some (.ref a)
 | .type n=>some (.ty n)
 | _=>none
theorem RelV.abs {x:V} {u:Value} (r:RelV x u):G9 u=some x:=by
 cases x with
 | bE=>cases r;rfl
 | bl _=>cases r;rfl
 | int _=>obtain ⟨t,rfl⟩:=r;rfl
 | str _=>obtain ⟨t,rfl⟩:=r;rfl
 | Ar _=>obtain ⟨t,rfl⟩:=r;rfl
 | GL _=>obtain ⟨t,rfl⟩:=r;rfl
 | ref _=>cases r;rfl
 | ty _=>cases r;rfl
theorem RelV.inj {x y:V} {u:Value} (r:RelV x u) (q:RelV y u):x=y:=Option.some.inj (r.abs.symm.trans q.abs)
theorem Vals.inj:∀ {xs ys:List V} {us:List Value},Vals xs us→Vals ys us→xs=ys
 | _,_,_,.nil,.nil=>rfl
 | _,_,_,.cons r t,.cons r' t'=>by rw [r.inj r',Vals.inj t t']
section
variable {X:Cx} {pins:List (Addr ×Obj)} {σ:St} {H:Hp} {s:Shared} {a:Addr} {xs ys:List V}
theorem jw.of {K:PySem.W.Frag} (h:H a=some (.lst xs)):jw K H a xs:= .inl (.inl h)
theorem Cq.of {K:PySem.W.Frag} (h:H a=some (.tup xs)):Cq K H a xs:= .inl (.inl h)
theorem Inv.list (I:Inv X pins σ H s) (h:jw X.K H a xs):∃ its:List Value,Vals xs its∧PlainL s.heap a its.toArray∧xs.length≤sizeLine:=by
 rcases h with h | ⟨o,its,n,hk,hc,hd,hs,hz,r⟩
 ·obtain ⟨z,its,n,r,e⟩:=h.ok I.hok
  exact ⟨its,r,⟨_,n,e,rfl,rfl,rfl⟩,z⟩
 ·refine ⟨its.toList,r,⟨o,n,I.u7 a o hk,hc,hd,by simpa using hs⟩,?_⟩
  have e:=r.length
  simp only [Array.length_toList] at e
  omega
theorem Inv.tuple (I:Inv X pins σ H s) (h:Cq X.K H a xs):∃ its:List Value,Vals xs its∧IsTup s.heap a its.toArray∧xs.length≤sizeLine:=by
 rcases h with h | ⟨o,its,n,hk,hc,hs,hz,r⟩
 ·obtain ⟨z,its,r,p⟩:=h.ok I.hok
  exact ⟨its,r,p,z⟩
 ·refine ⟨its.toList,r,⟨o,I.u7 a o hk,hc,n,by simpa using hs⟩,?_⟩
  have e:=r.length
  simp only [Array.length_toList] at e
  omega
theorem Inv.Av (I:Inv X pins σ H s) (h:jw X.K H a xs) (h':jw X.K H a ys):xs=ys:=by
 obtain ⟨its,r,⟨o,n,e,_,_,d⟩,_⟩:=I.list h
 obtain ⟨its',r',⟨o',n',e',_,_,d'⟩,_⟩:=I.list h'
 rw [e] at e';cases e'
 rw [d] at d'
 injection d' with d1 _
 have:its=its':=by simpa using congrArg Array.toList d1
 subst this
 exact r.inj r'
end
abbrev Cx.qS (X:Cx) (E:Value→Shared→Prop):Cx:={ X with xe:=E }
abbrev Cx.Cr (X:Cx):Cx:=X.qS fun _ _=>False
theorem Cx.Ok.qS {X:Cx} (ok:X.Ok) (E:Value→Shared→Prop):(X.qS E).Ok:=
 ⟨ok.mod,ok.kind,ok.glob,ok.blt,ok.above,ok.inj,ok.has,ok.GO,ok.hd,ok.frames,ok.stk,ok.G1,ok.bs,ok.DW,ok.zk,ok.zl,ok.oK,ok.EI⟩
theorem Cx.Ok.jP {X:Cx} {E:Value→Shared→Prop} (ok:(X.qS E).Ok):X.Ok:=
 ⟨ok.mod,ok.kind,ok.glob,ok.blt,ok.above,ok.inj,ok.has,ok.GO,ok.hd,ok.frames,ok.stk,ok.G1,ok.bs,ok.DW,ok.zk,ok.zl,ok.oK,ok.EI⟩
section
variable {X:Cx} {pins:List (Addr ×Obj)} {σ:St} {H:Hp} {s:Shared} {E:Value→Shared→Prop}
theorem Inv.qS (I:Inv X pins σ H s) (E:Value→Shared→Prop):Inv (X.qS E) pins σ H s:=⟨I.ok.qS E,I.os,I.bare,I.base,I.loc,I.cell,I.free,I.k6,I.pin,I.hok,I.len⟩
theorem Inv.jP (I:Inv (X.qS E) pins σ H s):Inv X pins σ H s:=⟨I.ok.jP,I.os,I.bare,I.base,I.loc,I.cell,I.free,I.k6,I.pin,I.hok,I.len⟩
theorem SP.jP {D:Ends} {f:Flow} {s':Shared} (h:SP (X.qS E) pins D f s'):SP X pins D f s':=by
 cases f with
 | next=>obtain ⟨σ',H',I,q⟩:=h;exact ⟨σ',H',I.jP,q⟩
 | brk=>obtain ⟨σ',H',I,q⟩:=h;exact ⟨σ',H',I.jP,q⟩
 | cont=>obtain ⟨σ',H',I,q⟩:=h;exact ⟨σ',H',I.jP,q⟩
 | ret u=>obtain ⟨v,σ',H',I,r,q⟩:=h;exact ⟨v,σ',H',I.jP,r,q⟩
theorem wN.Cr {st:List Stmt} {t:TS} (h:wN X.Cr st t):wN X st t:=fun pins s σ H D I hw=>
 wpAny_mono (h pins s σ H D (I.qS _) hw) (fun _ _ q=>q.jP) fun _ _ z=>False.elim z
end
section
variable {X:Cx} {st:Stmt} {rest:List Stmt} {t u:TS} {e:Expr} {te:TE} {pos:Pos}
def Hf:TS:=fun D σ H=>D.nx σ H
def JX (t u:TS):TS:=fun D σ H=>t { D with nx:=u D } σ H
theorem CC:wN X [] Hf:=fun _ _ σ H _ I h=>wpAny_execs_nil ⟨σ,H,I,h⟩
theorem Aw (h1:PS X st t) (h2:wN X rest u):wN X (st :: rest) (JX t u):=by
 intro pins s σ H D I h
 refine wpAny_execs_cons (cZ (h1 pins s σ H { D with nx:=u D } I h) fun f s1 q=>?_)
 cases f with
 | next=>
   obtain ⟨σ',H',I',q⟩:=q
   exact h2 pins s1 σ' H' D I' q
 | ret v=>exact q
 | brk=>exact q
 | cont=>exact q
theorem CD (h1:PS X st t):wN X [st] t:=by
 intro pins s σ H D I h
 refine wpAny_execs_cons (cZ (h1 pins s σ H D I h) fun f s1 q=>?_)
 cases f with
 | next=>exact wpAny_execs_nil q
 | ret v=>exact q
 | brk=>exact q
 | cont=>exact q
theorem Inv.quiet {pins:List (Addr ×Obj)} {σ:St} {H:Hp} {s:Shared} (I:Inv X pins σ H s):interactive X.env=false:=by simp [interactive,I.ok.kind]
def Hg (te:TE):TS:=fun D σ H=>te σ H fun _ H1=>D.nx σ H1
theorem CF (he:PE X e te) (hs:swapsWith e none pos.line X.env=pure false:=by rfl):PS X (.Expr e pos) (Hg te):=by
 intro pins s σ H D I h
 exact wpAny_Expr_any (cZ (he pins s σ H _ I h) fun v s1 ⟨x,H1,I1,r1,q1⟩=>⟨σ,H1,I1,q1⟩) I.quiet hs
def JY (te:TE):TS:=fun D σ H=>te σ H D.rt
theorem ES (he:PE X e te):PS X (.Return (some e) pos) (JY te):=by
 intro pins s σ H D I h
 exact wpAny_Return_some (cZ (he pins s σ H _ I h) fun v s1 ⟨x,H1,I1,r1,q1⟩=>⟨x,σ,H1,I1,r1,q1⟩)
def JZ (c:TT) (t u:TS):TS:=fun D σ H=>c σ H fun b H1=>if b=true then t D σ H1 else u D σ H1
theorem Hh {c:Expr} {a b:List Stmt} {tc:TT} (hc:PT X c tc) (ha:wN X a t) (hb:wN X b u):PS X (.If c a b pos) (JZ tc t u):=by
 intro pins s σ H D I h
 refine wpAny_If (cZ (hc pins s σ H _ I h) fun d s1 ⟨H1,I1,q1⟩=>?_)
 cases d with
 | true=>exact ha pins s1 σ H1 D I1 q1
 | false=>exact hb pins s1 σ H1 D I1 q1
end
abbrev TG:=V→St→Hp→(St→Hp→Prop)→Prop
def PG (X:Cx) (target:Expr) (t:TG):Prop:=
 ∀ (pins:List (Addr ×Obj)) (s:Shared) (σ:St) (H:Hp) (v:V) (u:Value) (Q:St→Hp→Prop),Inv X pins σ H s→RelV v u→t v σ H Q→
   wpAny (model X.prog X.w) X.A (assign target X.env u) (fun _ s'=> ∃ σ' H',Inv X pins σ' H' s'∧Q σ' H') X.xe s
section
variable {X:Cx} {pos:Pos}
def DZ (i:Nat):TG:=fun v σ H Q=>Q (σ.set i (some v)) H
theorem CG {i:Nat} {x:Str} (hN:X.N.Nodup) (hi:X.N[i]?=some x) (hx:Loc X.env.scope x) (hf:X.fn x=true∨X.env.scope.names.lookup x=some .local:=by first | exact .inl rfl | exact .inr rfl | assumption):PG X (.Name x pos) (DZ i):=by
 intro pins s σ H v u Q I r h
 exact wpAny_assign_Name (mj I hN hi hx r (fun s' I'=>⟨_,H,I',h⟩) hf)
def J0 (te:TE) (g:TG):TS:=fun D σ H=>te σ H fun x H1=>g x σ H1 D.nx
theorem ET {i:Nat} {x:Str} {e:Expr} {te:TE} {pos':Pos} (hN:X.N.Nodup) (hi:X.N[i]?=some x) (hx:Loc X.env.scope x) (he:PE X e te) (hs:swapsWith e (some (.Name x pos')) pos.line X.env=pure false:=by rfl) (hf:X.fn x=true∨X.env.scope.names.lookup x=some .local:=by first | exact .inl rfl | exact .inr rfl | assumption) :
 PS X (.Assign [.Name x pos'] e pos) (J0 te (DZ i)):=by
 intro pins s σ H D I h
 refine wpAny_Assign_Name (cZ (he pins s σ H _ I h) fun v s1 ⟨y,H1,I1,r1,q1⟩=>?_) hs
 exact mj I1 hN hi hx r1 (fun s2 I2=>⟨_,H1,I2,q1⟩) hf
def J1 (i j:Nat) (ta:TA):TS:=fun D σ H=>ta σ H fun vs H1=> ∃ v w,vs= [v,w]∧D.nx ((σ.set i (some v)).set j (some w)) H1
theorem EU {i j:Nat} {x y:Str} {a b:Expr} {ta:TA} {px py pt:Pos} {kt k2 rS} (hc:X.calm=true) (hN:X.N.Nodup) (hi:X.N[i]?=some x) (hj:X.N[j]?=some y) (hij:i≠j)
 (hx:X.env.scope.names.lookup x=some .local) (hy:X.env.scope.names.lookup y=some .local) (ha:PA X [a,b] ta)
 (hw:swappedStores [.Tuple [.Name x px,.Name y py] kt pt] (.Tuple [a,b] k2 rS) X.env=pure (some [x,y]))
 (hs:swapsWithSole [.Tuple [.Name x px,.Name y py] kt pt] (.Tuple [a,b] k2 rS) pos.line X.env=pure false:=by rfl) :
 PS X (.Assign [.Tuple [.Name x px,.Name y py] kt pt] (.Tuple [a,b] k2 rS) pos) (J1 i j ta):=by
 intro pins s σ H D I h
 rw [exec_Assign_arm]
 refine wpAny_bind (wpAny_standAt ?_)
 rw [hs]
 refine wpAny_bind (wpAny_pure ?_)
 rw [if_neg (by decide)]
 refine wpAny_bind (Tuple_ (cZ (ha _ pins s σ H _ I h) fun us s1 ⟨vs,H1,I1,r1,q1⟩=>?_))
 obtain ⟨v,w,e1,q1⟩:=q1
 subst e1
 obtain ⟨u1,u2,rfl,rv,rw'⟩:∃ u1 u2,us= [u1,u2]∧RelV v u1∧RelV w u2:=by
  cases r1 with
  | cons p q=>
    cases q with
    | cons p' q'=>
      cases q'
      exact ⟨_,_,rfl,p,p'⟩
 refine wpAny_newObj_type ?_ (by show 2≤sizeLine;decide)
 have I2:Inv X pins σ H1 { s1 with heap:=s1.heap.push { cls:= .type "tuple",data:= .seq [u1,u2].toArray } }:=I1.kept (t':=s1.toks) fun b o e=>Heap.get?_push_of_some _ e
 rw [hw]
 refine wpAny_bind (wpAny_pure ?_)
 show wpAny (model X.prog X.w) X.A (do rule "assign.swapped-stores";let items ← unpackItems (.ref s1.heap.objs.size) 2 none;assignInOrder [fun v=>bindName X.env y v,fun v=>bindName X.env x v] items.reverse;pure Flow.next) _ _ _
 refine wpAny_bind (wpAny_rule (wpAny_bind (unpackItems_tuple (items:= #[u1,u2]) (I.ok.hd hc) (IsTup.new s1.heap _) fun h' hx'=>?_)))
 have I3:=I2.kept (h':=h') (t':=s1.toks) fun b o e=>hx' b o (Nat.ne_of_lt (Heap.lt_size e)) e
 show wpAny _ _ (assignInOrder [fun v=>bindName X.env y v,fun v=>bindName X.env x v] [u2,u1] >>= fun _=>pure Flow.next) _ _ _
 refine wpAny_bind (assignInOrder_cons (wpAny_bindName (mj I3 hN hj (.inl hy) rw' (fun s2 I4=>?_) (.inr hy))))
 refine assignInOrder_cons (wpAny_bindName (mj I4 hN hi (.inl hx) rv (fun s3 I5=>assignInOrder_nil (wpAny_pure ?_)) (.inr hx)))
 rw [List.set_comm _ _ (Ne.symm hij)] at I5
 exact ⟨_,H1,I5,q1⟩
end
section
variable {X:Cx} {pos:Pos}
def EV (c:TT) (tb:TS):TS:=fun D σ H=> ∃ W:Nat→St→Hp→Prop,(∃ m,W m σ H)∧∀ m σ H,W m σ H→
 c σ H fun b H1=>if b=true then ∃ N:St→Hp→Prop,(∀ σ' H',N σ' H'→∃ m',m' < m∧W m' σ' H')∧tb { D with nx:=N,ct:=N,bk:=D.nx } σ H1 else D.nx σ H1
theorem Ax {c:Expr} {body:List Stmt} {tc:TT} {tb:TS} (hp:PassesOwn (model X.prog X.w) X.A X.env X.xe) (hc:PT X c tc) (hb:wN X body tb):PS X (.While c body [] pos) (EV tc tb):=by
 intro pins s σ H D I h
 obtain ⟨W,⟨m0,w0⟩,turn⟩:=h
 refine wpAny_While (codeAny_whileLoop (fun n s'=> ∃ σ' H',Inv X pins σ' H' s'∧W n σ' H') ?_ m0 ⟨σ,H,I,w0⟩)
 rintro n s1 ⟨σ1,H1,I1,w1⟩
 refine wpAny_passesOwn hp (cZ (hc pins s1 σ1 H1 _ I1 (turn n σ1 H1 w1)) fun b s2 ⟨H2,I2,q2⟩=>?_)
 cases b with
 | true=>
   obtain ⟨N,hN,q2⟩:=q2
   rw [if_pos rfl]
   refine wpAny_passesOwn hp (cZ (hb pins s2 σ1 H2 _ I2 q2) fun f s3 q3=>?_)
   cases f with
   | next=>
     obtain ⟨σ3,H3,I3,n3⟩:=q3
     obtain ⟨m',hm,w3⟩:=hN σ3 H3 n3
     exact ⟨m',hm,σ3,H3,I3,w3⟩
   | cont=>
     obtain ⟨σ3,H3,I3,n3⟩:=q3
     obtain ⟨m',hm,w3⟩:=hN σ3 H3 n3
     exact ⟨m',hm,σ3,H3,I3,w3⟩
   | brk=>exact q3
   | ret v=>exact q3
 | false=>
   rw [if_neg Bool.false_ne_true]
   exact wpAny_execs_nil ⟨σ1,H2,I2,q2⟩
end
structure It where
 go:Nat→Hp→Prop
 CH:Nat→Hp→V→Hp→Prop
 stop:Nat→Hp→Prop
def jF (X:Cx) (pins:List (Addr ×Obj)) (H:Hp) (b:Addr):Prop:=
 H b=none∧b≠X.env.locals∧b∉X.fs∧(b∈X.ex∨X.s₀.heap.objs.size≤b)∧(∀ x c,X.env.cells.lookup x=some c→c≠b)∧∀ p∈X.pn ++ pins,p.1≠b
theorem Inv.Ay {X:Cx} {pins:List (Addr ×Obj)} {σ:St} {H H':Hp} {s:Shared} {b:Addr} (I:Inv X pins σ H s) (hb:s.heap.objs.size≤b) (hn:H' b=none):jF X pins H' b:=by
 refine ⟨hn,Nat.ne_of_gt (Nat.lt_of_lt_of_le I.lt hb),I.JQ hb,.inr (Nat.le_trans I.sz hb),fun x c e z=>?_,fun p hp z=>?_⟩
 ·obtain ⟨v,q⟩:=I.cell x c e
  exact absurd (Nat.lt_of_lt_of_le q.lt (by rw [z];exact hb)) (Nat.lt_irrefl _)
 ·exact absurd (Nat.lt_of_lt_of_le (Heap.lt_size (I.pin p hp).1) (by rw [z];exact hb)) (Nat.lt_irrefl _)
structure Turn (P:Program) (w:World) (K:PySem.W.Frag) (tg:Expr) (J:It) (fp:List Addr) (it:Addr) (tn:Nat→Heap→Prop):Prop where
 mem:it∈fp
 obj:∀ i h,tn i h→∀ b∈fp,∃ o,h.get? b=some o∧∀ v,o.data≠ .cell v
 keep:∀ i h h',tn i h→(∀ b∈fp,∀ o,h.get? b=some o→h'.get? b=some o)→tn i h'
 item:∀ (X:Cx),X.prog=P→X.w=w→X.K=K→X.calm=true→∀ (i:Nat) (pins:List (Addr ×Obj)) (s:Shared) (σ:St) (H:Hp) (E:Value→Shared→Prop),Inv X pins σ H s→(∀ b∈fp,jF X pins H b)→tn i s.heap→J.go i H→
  wpAny (model P w) X.A (pyNext (.ref it)) (fun r s1=> ∃ u,r=some u∧
   wpAny (model P w) X.A (letOwnedTupleGo tg (.ref it) u) (fun _ s2=> ∃ x H',Inv X pins σ H' s2∧RelV x u∧J.CH i H x H'∧tn (i+1) s2.heap∧∀ b∈fp,H' b=none) E s1) E s
 done:∀ (X:Cx),X.prog=P→X.w=w→X.K=K→X.calm=true→∀ (i:Nat) (pins:List (Addr ×Obj)) (s:Shared) (σ:St) (H:Hp) (E:Value→Shared→Prop),Inv X pins σ H s→(∀ b∈fp,jF X pins H b)→tn i s.heap→J.stop i H→
  wpAny (model P w) X.A (pyNext (.ref it)) (fun r s1=>r=none∧Inv X pins σ H s1) E s
 self:∀ (A:Around) (i:Nat) (s:Shared) (Q:Value→Shared→Prop) (E:Value→Shared→Prop),tn i s.heap→Q (.ref it) s→wpAny (model P w) A (pyIter (.ref it)) Q E s
abbrev TI:=St→Hp→(It→Hp→Prop)→Prop
def J2 (X:Cx) (pins:List (Addr ×Obj)) (σ:St) (tg:Expr) (R:It→Hp→Prop) (itv:Value) (s2:Shared):Prop:=
 ∃ (it:Addr) (fp:List Addr) (tn:Nat→Heap→Prop) (J:It) (H':Hp),itv= .ref it∧Inv X pins σ H' s2∧Turn X.prog X.w X.K tg J fp it tn∧tn 0 s2.heap∧(∀ b∈fp,jF X pins H' b)∧R J H'
def PI (X:Cx) (tg iter:Expr) (wi:TI):Prop:=
 ∀ (pins:List (Addr ×Obj)) (s:Shared) (σ:St) (H:Hp) (R:It→Hp→Prop),Inv X pins σ H s→wi σ H R→
   wpAny (model X.prog X.w) X.A (eval iter X.env) (fun v s1=>wpAny (model X.prog X.w) X.A (pyIter v) (J2 X pins σ tg R) X.xe s1) X.xe s
theorem D0 {M:Model} {A:Around} {E:Value→Shared→Prop} {s:Shared} {tg:Expr} {it:Addr} {u:Value} {o:Obj} {n:String} {vs:Array Value} {Q:Unit→Shared→Prop} (ho:s.heap.get? it=some o) (hc:o.cls= .type n) (hd:o.data= .fields vs)
 (hn: ["enumerate","zip","dict_itemiterator","dict_reverseitemiterator","odict_iterator","itertools.zip_longest","itertools.pairwise"].contains n=false) (hQ:Q () s):wpAny M A (letOwnedTupleGo tg (.ref it) u) Q E s:=by
 unfold letOwnedTupleGo
 cases tg <;> first
  | exact wpAny_pure hQ
  | (cases u <;> first
   | exact wpAny_pure hQ
   | (refine wpAny_bind (wpAny_load ho ?_)
      rw [hc,hd]
      show wpAny M A (if (["enumerate","zip","dict_itemiterator","dict_reverseitemiterator","odict_iterator","itertools.zip_longest","itertools.pairwise"].contains n && vs[0]? == some (rawInt _))=true then _ else _) Q E s
      rw [if_neg (by intro h;rw [hn,Bool.false_and] at h;cases h)]
      exact wpAny_pure hQ))
def J3 (K:PySem.W.Frag) (a:Addr):It:=
 ⟨fun i H=> ∃ xs x,jw K H a xs∧xs[i]?=some x,fun i H x H'=>H'=H∧∀ xs,jw K H a xs→xs[i]?=some x,fun i H=> ∃ xs,jw K H a xs∧xs.length≤i⟩
def Jm (lo:Int) (n:Nat):It:=⟨fun i _=>i < n,fun i H x H'=>H'=H∧x= .int (lo+i),fun i _=>n≤i⟩
theorem zo {P:Program} {w:World} {K:PySem.W.Frag} {tg:Expr} (a it:Addr):Turn P w K tg (J3 K a) [it] it (fun i h=>h.IsListIter it a i) where
 mem:=by simp
 obj:=fun i h st b hb=>by
  have e:b=it:=by simpa using hb
  subst e
  obtain ⟨o,e,c,d⟩:=st
  exact ⟨o,e,fun v z=>by rw [d] at z;cases z⟩
 keep:=fun i h h' st k=>st.at fun o e=>k it (by simp) o e
 item:=by
  intro X hP hw hK hc i pins s σ H E I hf st hg
  subst hP hw hK
  obtain ⟨xs,x,hq,hx⟩:=hg
  obtain ⟨its,rv,p,hz⟩:=I.list hq
  obtain ⟨u,hu,ru⟩:=rv.get hx
  obtain ⟨f0,f1,f2,f3,f4,f5⟩:=hf it (by simp)
  refine wpAny_pyNext_list_item st p.isList (x:=u) (by simpa using hu) fun h' st' sb=>?_
  have I1:Inv X pins σ H { s with heap:=h' }:=I.turned (t':=s.toks) (fun b o hb e=>(sb.2 b hb).trans e) f0 f1 f3 f4 f5
  obtain ⟨o,e,c,d⟩:=id st'
  exact ⟨u,rfl,D0 (s:={ s with heap:=h' }) e c d (by decide) ⟨x,H,I1,ru,⟨rfl,fun ys hy=>by rw [I.Av hy hq];exact hx⟩,st',fun b hb=>(hf b hb).1⟩⟩
 done:=by
  intro X hP hw hK hc i pins s σ H E I hf st hg
  subst hP hw hK
  obtain ⟨xs,hq,hx⟩:=hg
  obtain ⟨its,rv,p,hz⟩:=I.list hq
  obtain ⟨f0,f1,f2,f3,f4,f5⟩:=hf it (by simp)
  have hl:=rv.length
  exact wpAny_pyNext_list_end (I.ok.hd hc) st p.isList (by simp;omega) fun h' eb=>⟨rfl,I.turned (t':=s.toks) (fun b o hb e=>eb b o hb e) f0 f1 f3 f4 f5⟩
 self:=fun _ _ _ _ _ st h=>wpAny_pyIter_listiter st h
theorem wO {P:Program} {w:World} {K:PySem.W.Frag} {tg:Expr} (it:Addr) (lo:Int) (n:Nat):Turn P w K tg (Jm lo n) [it] it (fun i h=>IsRangeIter h it (lo+(i:Nat)*1) ((n:Int) - (i:Nat)) 1) where
 mem:=by simp
 obj:=fun i h st b hb=>by
  have e:b=it:=by simpa using hb
  subst e
  exact ⟨_,st,fun v z=>by
   have z':Data.fields _=Data.cell v:=z
   cases z'⟩
 keep:=fun i h h' st k=>k it (by simp) _ st
 item:=by
  intro X hP hw hK hc i pins s σ H E I hf st hg
  subst hP hw hK
  obtain ⟨f0,f1,f2,f3,f4,f5⟩:=hf it (by simp)
  have W:=Walks.range (prog:=X.prog) (w:=X.w) (I.ok.hd hc) it lo 1 n
  refine W.item i s _ _ hg st fun v h' tk hv st' kk=>?_
  obtain ⟨t,rfl⟩:=hv
  have I1:Inv X pins σ H { s with heap:=h',toks:=tk }:=I.turned (fun b o hb e=>kk b o (by simpa using hb) e) f0 f1 f3 f4 f5
  refine ⟨_,rfl,D0 (s:={ s with heap:=h',toks:=tk }) (n:= "range_iterator") st' rfl rfl (by decide) ⟨.int (lo+i),H,I1,⟨t,?_⟩,⟨rfl,rfl⟩,st',fun b hb=>(hf b hb).1⟩⟩
  rw [Int.mul_one]
 done:=by
  intro X hP hw hK hc i pins s σ H E I hf st hg
  subst hP hw hK
  obtain ⟨f0,f1,f2,f3,f4,f5⟩:=hf it (by simp)
  exact wpAny_pyNext_range_end (I.ok.hd hc) st (by have:n≤i:=hg;omega) fun h' eb=>⟨rfl,I.turned (t':=s.toks) (fun b o hb e=>eb b o hb e) f0 f1 f3 f4 f5⟩
 self:=fun _ _ _ _ _ st h=>wpAny_pyIter_rangeiter st h
end L2
namespace L2
open PySem PySem.Spec PyProof.Rows
section
variable {X:Cx} {tg:Expr}
def Hi (K:PySem.W.Frag) (tl:TE):TI:=fun σ H R=>tl σ H fun x H1=> ∃ a,x= .ref a∧(∃ xs,jw K H1 a xs)∧R (J3 K a) H1
theorem x9 {l:Expr} {tl:TE} (hl:PE X l tl):PI X tg l (Hi X.K tl):=by
 intro pins s σ H R I h
 refine cZ (hl pins s σ H _ I h) fun v s1 ⟨x,H1,I1,r1,q1⟩=>?_
 obtain ⟨a,e,⟨xs,hq⟩,q⟩:=q1
 subst e
 cases r1
 obtain ⟨its,rv,p,hz⟩:=I1.list hq
 refine wpAny_pyIter_list p.isList ?_
 refine ⟨s1.heap.objs.size,[s1.heap.objs.size],_,_,H1,rfl,I1.kept (t':=s1.toks) fun b o e=>Heap.get?_push_of_some _ e,zo a _,⟨_,Heap.get?_push_size _ rfl,rfl,rfl⟩,fun b hb=>?_,q⟩
 have e:b=s1.heap.objs.size:=by simpa using hb
 subst e
 exact I1.Ay (Nat.le_refl _) (I1.hok.fresh (Nat.le_refl _))
theorem Az {pins:List (Addr ×Obj)} {σ:St} {H:Hp} {s:Shared} {R:It→Hp→Prop} {E:Value→Shared→Prop} {lo hi:Int} {t u v:Tok} {tk:Nat} (I:Inv X pins σ H s) (h1: -(2 ^ 62)≤lo) (h2:lo < 2 ^ 62) (h3: -(2 ^ 62)≤hi) (h4:hi < 2 ^ 62)
 (q:R (Jm lo (hi - lo).toNat) H):wpAny (model X.prog X.w) X.A (pyIter (.ref s.heap.objs.size)) (J2 X pins σ tg R) E { s with heap:=s.heap.push { cls:= .type "range",data:= .fields #[.int lo t,.int hi u,.int 1 v] },toks:=tk }:=by
 refine wpAny_pyIter_range (IsRange.new ..) (small_one h1 h2 h3 h4) ?_
 have I1:Inv X pins σ H { s with heap:=s.heap.push { cls:= .type "range",data:= .fields #[.int lo t,.int hi u,.int 1 v] },toks:=tk }:=I.kept fun b o e=>Heap.get?_push_of_some _ e
 refine ⟨(s.heap.push { cls:= .type "range",data:= .fields #[.int lo t,.int hi u,.int 1 v] }).objs.size,[(s.heap.push { cls:= .type "range",data:= .fields #[.int lo t,.int hi u,.int 1 v] }).objs.size],_,_,H,rfl,
  I1.kept (t':=tk) fun b o e=>Heap.get?_push_of_some _ e,wO _ lo (hi - lo).toNat,?_,fun b hb=>?_,q⟩
 ·have e1:lo+((0:Nat):Int)*1=lo:=by simp
  have e2:(((hi - lo).toNat:Nat):Int) - ((0:Nat):Int)=Builtin.Range.rangeSize lo hi 1:=by rw [rangeSize_one];split <;> omega
  show IsRangeIter _ _ (lo+((0:Nat):Int)*1) ((((hi - lo).toNat:Nat):Int) - ((0:Nat):Int)) 1
  rw [e1,e2]
  exact Heap.get?_push_size _ rfl
 ·have e:b=(s.heap.push { cls:= .type "range",data:= .fields #[.int lo t,.int hi u,.int 1 v] }).objs.size:=by simpa using hb
  subst e
  exact I1.Ay (Nat.le_refl _) (I1.hok.fresh (Nat.le_refl _))
def Hj (ta:TA):TI:=fun σ H R=>ta σ H fun vs H1=> ∃ j:Int,vs= [.int j]∧ -(2 ^ 62)≤j∧j < 2 ^ 62∧R (Jm 0 j.toNat) H1
theorem rT {a:Expr} {ta:TA} {p pos:Pos} (hg:Gl X "range") (hm:X.mg "range" =none) (ha:PA X [a] ta) (hs:starEach [a] X.env= [(false,eval a X.env)]:=by rfl):PI X tg (.Call (.Name "range" p) [a] [] pos) (Hj ta):=by
 intro pins s σ H R I h
 refine Call_ (jO I hg hm boot_range (PyProof.Rows.callWith_type1 (cZ (ha pos pins s σ H _ I h) fun us s1 ⟨vs,H1,I1,r1,q1⟩=>?_) hs rfl))
 obtain ⟨j,e,q1,q2,q⟩:=q1
 subst e
 cases r1 with
 | cons r rr=>
   cases rr
   obtain ⟨t,rfl⟩:=r
   exact call_range_1 (Az I1 (by omega) (by omega) q1 q2 (by simpa using q))
def J4 (wi:TI) (g:TG) (tb:TS):TS:=fun D σ H=>wi σ H fun J H1=> ∃ W:Nat→Nat→St→Hp→Prop,(∃ m,W 0 m σ H1)∧∀ i m σ H,W i m σ H→
 (J.stop i H∧D.nx σ H)∨(J.go i H∧∃ N:St→Hp→Prop,(∀ σ' H',N σ' H'→∃ m',m' < m∧W (i+1) m' σ' H')∧∀ x H',J.CH i H x H'→g x σ H' fun σ2 H2=>tb { D with nx:=N,ct:=N,bk:=D.nx } σ2 H2)
def pH (fp:List Addr) (h:Heap):List (Addr ×Obj):=fp.filterMap fun b=>(h.get? b).map fun o=>(b,o)
theorem lJ {fp:List Addr} {h:Heap} {b:Addr} {o:Obj} (hb:b∈fp) (e:h.get? b=some o):(b,o)∈pH fp h:=List.mem_filterMap.mpr ⟨b,hb,by rw [e];rfl⟩
theorem zp {fp:List Addr} {h:Heap} {p:Addr ×Obj} (hp:p∈pH fp h):p.1∈fp∧h.get? p.1=some p.2:=by
 obtain ⟨b,hb,e⟩:=List.mem_filterMap.mp hp
 cases q:h.get? b with
 | none=>rw [q] at e;cases e
 | some o=>
   rw [q] at e
   have e':(b,o)=p:=Option.some.inj e
   subst e'
   exact ⟨hb,q⟩
theorem Inv.pinned {pins:List (Addr ×Obj)} {σ:St} {H:Hp} {s:Shared} {fp:List Addr} (I:Inv X pins σ H s) (hf:∀ b∈fp,jF X pins H b) (ho:∀ b∈fp,∃ o,s.heap.get? b=some o∧∀ v,o.data≠ .cell v):Inv X (pins ++ pH fp s.heap) σ H s:=
 I.o9 fun p hp=>(List.mem_append.mp hp).elim (fun z=>I.pin p (List.mem_append_right _ z)) fun z=>by
   obtain ⟨hb,e⟩:=zp z
   obtain ⟨f0,f1,f2,_⟩:=hf p.1 hb
   obtain ⟨o,e',d⟩:=ho p.1 hb
   rw [e] at e';cases e'
   exact ⟨e,f0,f1,f2,d⟩
theorem Inv.jQ {pins pl:List (Addr ×Obj)} {σ:St} {H:Hp} {s:Shared} (I:Inv X (pins ++ pl) σ H s):Inv X pins σ H s:=I.o9 fun p hp=>I.pin p (List.mem_append_right _ (List.mem_append_left _ hp))
theorem AA {iter:Expr} {body:List Stmt} {wi:TI} {g:TG} {tb:TS} {pos:Pos} (hp:PassesOwn (model X.prog X.w) X.A X.env X.xe) (hc:X.calm=true) (hi:PI X tg iter wi) (hg:PG X tg g) (hb:wN X body tb)
 (hs:∀ x,foldedSetIterable iter X.env x=pure x:=by intro _;rfl):PS X (.For tg iter body [] pos) (J4 wi g tb):=by
 intro pins s σ H D I h
 refine wpAny_For (cZ (hi pins s σ H _ I h) fun v s1 h1=>cZ h1 fun itv s2 h2=>?_) hs
 obtain ⟨it,fp,tn,J,H2,e,I2,T,st2,f2,W,⟨m0,w0⟩,turn⟩:=h2
 subst e
 have stat:∀ {H':Hp},(∀ b∈fp,H' b=none)→∀ b∈fp,jF X pins H' b:=fun hn b hb=>⟨hn b hb,(f2 b hb).2⟩
 refine codeAny_forLoop_any (fun n s'=> ∃ i σ' H',Inv X pins σ' H' s'∧tn i s'.heap∧(∀ b∈fp,H' b=none)∧W i n σ' H') ?_ m0 ⟨0,σ,H2,I2,st2,fun b hb=>(f2 b hb).1,w0⟩
 rintro n s3 ⟨i,σ3,H3,I3,st3,Mf,w3⟩
 rcases turn i n σ3 H3 w3 with ⟨stop,qn⟩ | ⟨go,N,hN,step⟩
 ·refine wpAny_passesOwn hp (cZ (T.done X rfl rfl rfl hc i pins s3 σ3 H3 X.xe I3 (stat Mf) st3 stop) fun r s4 ⟨hr,I4⟩=>?_)
  subst hr
  exact wpAny_execs_nil ⟨σ3,H3,I4,qn⟩
 ·refine wpAny_passesOwn hp (cZ (T.item X rfl rfl rfl hc i pins s3 σ3 H3 X.xe I3 (stat Mf) st3 go) fun r s4 ⟨u,hr,h4⟩=>?_)
  subst hr
  refine wpAny_passesOwn hp (cZ h4 fun _ s5 ⟨x,H5,I5,r5,y5,GP,CI⟩=>?_)
  have Nu:=I5.pinned (stat CI) (T.obj _ _ GP)
  refine wpAny_passesOwn hp (cZ (hg _ s5 σ3 H5 x u _ Nu r5 (step x H5 y5)) fun _ s6 ⟨σ6,H6,I6,q6⟩=>?_)
  refine wpAny_passesOwn hp (cZ (hb _ s6 σ6 H6 _ I6 q6) fun f s7 q7=>?_)
  have again:∀ {σ7:St} {H7:Hp},Inv X (pins ++ pH fp s5.heap) σ7 H7 s7→N σ7 H7→∃ m,m < n∧∃ i σ' H',Inv X pins σ' H' s7∧tn i s7.heap∧(∀ b∈fp,H' b=none)∧W i m σ' H':=fun {σ7 H7} I7 n7=>by
   obtain ⟨m',hm,w7⟩:=hN σ7 H7 n7
   refine ⟨m',hm,i+1,σ7,H7,I7.jQ,T.keep _ _ _ GP fun b hb o e=>(I7.pin (b,o) (List.mem_append_right _ (List.mem_append_right _ (lJ hb e)))).1,fun b hb=>?_,w7⟩
   obtain ⟨o,e,d⟩:=T.obj _ _ GP b hb
   exact (I7.pin (b,o) (List.mem_append_right _ (List.mem_append_right _ (lJ hb e)))).2.1
  cases f with
  | next=>obtain ⟨σ7,H7,I7,n7⟩:=q7;exact again I7 n7
  | cont=>obtain ⟨σ7,H7,I7,n7⟩:=q7;exact again I7 n7
  | brk=>obtain ⟨σ7,H7,I7,q7⟩:=q7;exact ⟨σ7,H7,I7.jQ,q7⟩
  | ret v=>obtain ⟨x7,σ7,H7,I7,r7,q7⟩:=q7;exact ⟨x7,σ7,H7,I7.jQ,r7,q7⟩
end
end L2
namespace L2
open PySem PySem.Spec PyProof.Rows
abbrev R2:=V→V→Hp→VK→Prop
def vh (X:Cx) (f:Value→Value→Sem Value) (r:R2):Prop:=
 ∀ (pins:List (Addr ×Obj)) (s:Shared) (σ:St) (H:Hp) (x y:V) (v u:Value) (Q:VK),Inv X pins σ H s→RelV x v→RelV y u→r x y H Q→
   wpAny (model X.prog X.w) X.A (f v u) (EP X pins σ Q) X.xe s
def J5 (X:Cx) (f:Value→Sem Value) (r:V→Hp→VK→Prop):Prop:=
 ∀ (pins:List (Addr ×Obj)) (s:Shared) (σ:St) (H:Hp) (x:V) (v:Value) (Q:VK),Inv X pins σ H s→RelV x v→r x H Q→
   wpAny (model X.prog X.w) X.A (f v) (EP X pins σ Q) X.xe s
def vm (X:Cx) (f:Value) (r:List V→Hp→VK→Prop):Prop:=
 ∀ (pins:List (Addr ×Obj)) (s:Shared) (σ:St) (H:Hp) (xs:List V) (us:List Value) (Q:VK),Inv X pins σ H s→Vals xs us→r xs H Q→
   wpAny (model X.prog X.w) X.A (call f us) (EP X pins σ Q) X.xe s
def Nv (r:R2) (ta tb:TE):TE:=fun σ H Q=>ta σ H fun x H1=>tb σ H1 fun y H2=>r x y H2 Q
def Ny (r:V→Hp→VK→Prop) (ta:TE):TE:=fun σ H Q=>ta σ H fun x H1=>r x H1 Q
def rI (C:Int→Int→Prop) (g:Int→Int→V):R2:=fun x y H Q=> ∃ i j,x= .int i∧y= .int j∧C i j∧Q (g i j) H
def CJ (g:Int→Int→V):R2:=fun x y H Q=> ∃ i j,x= .int i∧y= .int j∧Q (g i j) H
def rU (g:Int→V):V→Hp→VK→Prop:=fun x H Q=> ∃ i,x= .int i∧Q (g i) H
section
variable {X:Cx} {a b c:Expr} {ta tb tc:TE} {pos:Pos}
theorem J6 (ha:PE X a ta) (hb:PE X b tb) {pins:List (Addr ×Obj)} {s:Shared} {σ:St} {H:Hp} {R:V→V→Hp→Prop} (I:Inv X pins σ H s)
 (h:ta σ H fun x H1=>tb σ H1 fun y H2=>R x y H2) {Q:Value→Shared→Prop} {f:Value→Value→Sem Value}
 (hf:∀ v u s2 x y H2,Inv X pins σ H2 s2→RelV x v→RelV y u→R x y H2→wpAny (model X.prog X.w) X.A (f v u) Q X.xe s2) :
 wpAny (model X.prog X.w) X.A (eval a X.env) (fun v s₁=>wpAny (model X.prog X.w) X.A (eval b X.env) (fun u s₂=>wpAny (model X.prog X.w) X.A (f v u) Q X.xe s₂) X.xe s₁) X.xe s:=by
 refine cZ (ha pins s σ H _ I h) fun v s1 ⟨x,H1,I1,r1,q1⟩=>?_
 refine cZ (hb pins s1 σ H1 _ I1 q1) fun u s2 ⟨y,H2,I2,r2,q2⟩=>?_
 exact hf v u s2 x y H2 I2 r1 r2 q2
theorem Hl {op:UnaryOp} {r:V→Hp→VK→Prop} (ho:J5 X (unaryOp op) r) (ha:PE X a ta):PE X (.UnaryOp op a pos) (Ny r ta):=by
 intro pins s σ H Q I h
 exact UnaryOp_ (cZ (ha pins s σ H _ I h) fun v s1 ⟨x,H1,I1,r1,q1⟩=>ho pins s1 σ H1 x v Q I1 r1 q1)
theorem GQ {f:Value→Value→Sem Value} {C:Int→Int→Prop} {g:Int→Int→Int}
 (rule:∀ (i j:Int) (t u:Tok) (s:Shared) (Q:Value→Shared→Prop) (E:Value→Shared→Prop),C i j→Q (.int (g i j) s.toks) { s with toks:=s.toks+1 }→wpAny (model X.prog X.w) X.A (f (.int i t) (.int j u)) Q E s) :
 vh X f (rI C fun i j=> .int (g i j)):=by
 intro pins s σ H x y v u Q I rx ry h
 obtain ⟨i,j,rfl,rfl,hc,q⟩:=h
 obtain ⟨t,rfl⟩:=rx
 obtain ⟨t',rfl⟩:=ry
 exact rule i j t t' s _ _ hc ⟨.int (g i j),H,I.tok _,⟨_,rfl⟩,q⟩
theorem Ho {f:Value→Value→Sem Value} {g:Int→Int→Int}
 (rule:∀ (i j:Int) (t u:Tok) (s:Shared) (Q:Value→Shared→Prop) (E:Value→Shared→Prop),Q (.int (g i j) s.toks) { s with toks:=s.toks+1 }→wpAny (model X.prog X.w) X.A (f (.int i t) (.int j u)) Q E s) :
 vh X f (CJ fun i j=> .int (g i j)):=by
 intro pins s σ H x y v u Q I rx ry h
 obtain ⟨i,j,rfl,rfl,q⟩:=h
 obtain ⟨t,rfl⟩:=rx
 obtain ⟨t',rfl⟩:=ry
 exact rule i j t t' s _ _ ⟨.int (g i j),H,I.tok _,⟨_,rfl⟩,q⟩
theorem EW {f:Value→Value→Sem Value} {g:Int→Int→Bool}
 (rule:∀ (i j:Int) (t u:Tok) (s:Shared) (Q:Value→Shared→Prop) (E:Value→Shared→Prop),Q (.bool (g i j)) s→wpAny (model X.prog X.w) X.A (f (.int i t) (.int j u)) Q E s) :
 vh X f (CJ fun i j=> .bl (g i j)):=by
 intro pins s σ H x y v u Q I rx ry h
 obtain ⟨i,j,rfl,rfl,q⟩:=h
 obtain ⟨t,rfl⟩:=rx
 obtain ⟨t',rfl⟩:=ry
 exact rule i j t t' s _ _ ⟨.bl (g i j),H,I,rfl,q⟩
def EX (i j:Int):Prop:=(-(2 ^ 64) < i∧i < 2 ^ 64)∨(-(2 ^ 64) < j∧j < 2 ^ 64)
theorem EX.ok {i j:Int} (h:EX i j):IntMulOk i j:=by
 rcases h with ⟨h1,h2⟩ | ⟨h1,h2⟩
 ·exact .of_left (intBits_le_64 h1 h2)
 ·exact .of_right (intBits_le_64 h1 h2)
theorem EY:vh X (binaryOp .Add) (CJ fun i j=> .int (i+j)):=Ho fun _ _ _ _ _ _ _ q=>add_int q
theorem EZ:vh X (binaryOp .Sub) (CJ fun i j=> .int (i - j)):=Ho fun _ _ _ _ _ _ _ q=>sub_int q
theorem E5:vh X (binaryOp .Mod) (rI (fun _ j=>0 < j) fun i j=> .int (i % j)):=GQ fun i j _ _ _ _ _ hc q=>by
 have h1:(0:Int) < j:=hc
 exact mod_int' (by omega) (by rw [Int.fmod_eq_emod_of_nonneg i (by omega)];exact q)
theorem Nz {f:Value→Sem Value} {g:Int→Int}
 (rule:∀ (i:Int) (t:Tok) (s:Shared) (Q:Value→Shared→Prop) (E:Value→Shared→Prop),Q (.int (g i) s.toks) { s with toks:=s.toks+1 }→wpAny (model X.prog X.w) X.A (f (.int i t)) Q E s) :
 J5 X f (rU fun i=> .int (g i)):=by
 intro pins s σ H x v Q I rx h
 obtain ⟨i,rfl,q⟩:=h
 obtain ⟨t,rfl⟩:=rx
 exact rule i t s _ _ ⟨.int (g i),H,I.tok _,⟨_,rfl⟩,q⟩
theorem E6:J5 X (unaryOp .USub) (rU fun i=> .int (-i)):=Nz fun _ _ _ _ _ q=>neg_int q
end
def E7:V→V→Bool
 | .bE,.bE=>true | .bE,.int _=>true | .int _,.bE=>true | .bE,.bl _=>true | .bl _,.bE=>true | .bE,.str _=>true | .str _,.bE=>true
 | .int _,.int _=>true | .bl _,.bl _=>true | .str _,.str _=>true | .Ar _,.Ar _=>true
 | .int _,.str _=>true | .str _,.int _=>true | .bl _,.str _=>true | .str _,.bl _=>true
 | _,_=>false
def NB:R2:=fun x y H Q=>E7 x y=true∧Q (.bl (decide (x=y))) H
def NC:R2:=fun x y H Q=>E7 x y=true∧Q (.bl (!decide (x=y))) H
theorem ya {i j:Int}:decide (V.int i=V.int j)=(i == j):=by
 rw [Bool.eq_iff_iff]
 simp
theorem AB {i j:Bool}:decide (V.bl i=V.bl j)=(i == j):=by
 rw [Bool.eq_iff_iff]
 simp
theorem yb {i j:Str}:decide (V.str i=V.str j)=(i == j):=by
 rw [Bool.eq_iff_iff]
 simp
theorem yc {i j:Array UInt8}:decide (V.Ar i=V.Ar j)=(i.toList == j.toList):=by
 rw [Bool.eq_iff_iff]
 cases i
 cases j
 simp
section
variable {X:Cx} {a b c:Expr} {ta tb tc:TE} {pos:Pos}
theorem bx {pins:List (Addr ×Obj)} {σ:St} {H:Hp} {s:Shared} {Q:VK} {k k':Bool} (I:Inv X pins σ H s) (q:Q (.bl k) H) (e:k=k'):EP X pins σ Q (.bool k') s:=by
 subst e
 exact ⟨.bl k,H,I,rfl,q⟩
theorem Hq:vh X (compareOp .Eq) NB:=by
 intro pins s σ H x y v u Q I rx ry h
 obtain ⟨hs,q⟩:=h
 cases x with
 | bE=>
   cases rx
   cases y with
   | bE=>cases ry;exact PySem.EqNone.eq_none_none (bx I q (by simp))
   | bl j=>cases ry;exact PySem.EqNone.eq_none_bool (bx I q (by simp))
   | int j=>obtain ⟨t',rfl⟩:=ry;exact PySem.EqNone.eq_none_int (bx I q (by simp))
   | str j=>obtain ⟨t',rfl⟩:=ry;exact PySem.EqNone.eq_none_str (bx I q (by simp))
   | _=>exact absurd (show false=true from hs) Bool.false_ne_true
 | bl i=>
   cases rx
   cases y with
   | bE=>cases ry;exact PySem.EqNone.eq_bool_none (bx I q (by simp))
   | bl j=>cases ry;exact eq_bool (bx I q AB)
   | str j=>obtain ⟨t',rfl⟩:=ry;exact PySem.EqMixed.eq_bool_str (bx I q (by simp))
   | _=>exact absurd (show false=true from hs) Bool.false_ne_true
 | int i=>
   obtain ⟨t,rfl⟩:=rx
   cases y with
   | bE=>cases ry;exact PySem.EqNone.eq_int_none (bx I q (by simp))
   | int j=>obtain ⟨t',rfl⟩:=ry;exact eq_int (bx I q ya)
   | str j=>obtain ⟨t',rfl⟩:=ry;exact PySem.EqMixed.eq_int_str (bx I q (by simp))
   | _=>exact absurd (show false=true from hs) Bool.false_ne_true
 | str i=>
   obtain ⟨t,rfl⟩:=rx
   cases y with
   | bE=>cases ry;exact PySem.EqNone.eq_str_none (bx I q (by simp))
   | bl j=>cases ry;exact PySem.EqMixed.eq_str_bool (bx I q (by simp))
   | int j=>obtain ⟨t',rfl⟩:=ry;exact PySem.EqMixed.eq_str_int (bx I q (by simp))
   | str j=>obtain ⟨t',rfl⟩:=ry;exact eq_str (bx I q yb)
   | _=>exact absurd (show false=true from hs) Bool.false_ne_true
 | Ar i=>
   obtain ⟨t,rfl⟩:=rx
   cases y with
   | Ar j=>obtain ⟨t',rfl⟩:=ry;exact PySem.W.eq_bytes (bx I q yc)
   | _=>exact absurd (show false=true from hs) Bool.false_ne_true
 | _=>cases y <;> exact absurd (show false=true from hs) Bool.false_ne_true
theorem Hr:vh X (compareOp .NotEq) NC:=by
 intro pins s σ H x y v u Q I rx ry h
 obtain ⟨hs,q⟩:=h
 cases x with
 | bE=>
   cases rx
   cases y with
   | bE=>cases ry;exact PySem.EqNone.ne_none_none (bx I q (by simp))
   | bl j=>cases ry;exact PySem.EqNone.ne_none_bool (bx I q (by simp))
   | int j=>obtain ⟨t',rfl⟩:=ry;exact PySem.EqNone.ne_none_int (bx I q (by simp))
   | str j=>obtain ⟨t',rfl⟩:=ry;exact PySem.EqNone.ne_none_str (bx I q (by simp))
   | _=>exact absurd (show false=true from hs) Bool.false_ne_true
 | bl i=>
   cases rx
   cases y with
   | bE=>cases ry;exact PySem.EqNone.ne_bool_none (bx I q (by simp))
   | bl j=>cases ry;exact ne_bool (bx I q (congrArg not AB))
   | str j=>obtain ⟨t',rfl⟩:=ry;exact PySem.EqMixed.ne_bool_str (bx I q (by simp))
   | _=>exact absurd (show false=true from hs) Bool.false_ne_true
 | int i=>
   obtain ⟨t,rfl⟩:=rx
   cases y with
   | bE=>cases ry;exact PySem.EqNone.ne_int_none (bx I q (by simp))
   | int j=>obtain ⟨t',rfl⟩:=ry;exact ne_int (bx I q (congrArg not ya))
   | str j=>obtain ⟨t',rfl⟩:=ry;exact PySem.EqMixed.ne_int_str (bx I q (by simp))
   | _=>exact absurd (show false=true from hs) Bool.false_ne_true
 | str i=>
   obtain ⟨t,rfl⟩:=rx
   cases y with
   | bE=>cases ry;exact PySem.EqNone.ne_str_none (bx I q (by simp))
   | bl j=>cases ry;exact PySem.EqMixed.ne_str_bool (bx I q (by simp))
   | int j=>obtain ⟨t',rfl⟩:=ry;exact PySem.EqMixed.ne_str_int (bx I q (by simp))
   | str j=>obtain ⟨t',rfl⟩:=ry;exact ne_str (bx I q (congrArg not yb))
   | _=>exact absurd (show false=true from hs) Bool.false_ne_true
 | Ar i=>
   obtain ⟨t,rfl⟩:=rx
   cases y with
   | Ar j=>obtain ⟨t',rfl⟩:=ry;exact PySem.W.ne_bytes (bx I q (congrArg not yc))
   | _=>exact absurd (show false=true from hs) Bool.false_ne_true
 | _=>cases y <;> exact absurd (show false=true from hs) Bool.false_ne_true
theorem Hs:vh X (compareOp .Lt) (CJ fun i j=> .bl (decide (i < j))):=EW fun _ _ _ _ _ _ _ q=>lt_int q
theorem Ht:vh X (compareOp .Gt) (CJ fun i j=> .bl (decide (j < i))):=EW fun _ _ _ _ _ _ _ q=>gt_int q
theorem Hu:vh X (compareOp .GtE) (CJ fun i j=> .bl (decide (j≤i))):=EW fun _ _ _ _ _ _ _ q=>ge_int q
theorem E8:vh X (compareOp .Is) (fun x y H Q=>y= .bE∧Q (.bl (decide (x= .bE))) H):=by
 intro pins s σ H x y v u Q I rx ry h
 obtain ⟨rfl,q⟩:=h
 cases ry
 refine is_none_gen (bx I q ?_)
 cases x <;> first
  | (cases rx;rfl)
  | (obtain ⟨t,rfl⟩:=rx;rfl)
theorem aA (b:Expr) {op:CmpOp} (h:op≠ .In:=by decide) (h2:op≠ .NotIn:=by decide):behindInMarks op b=false:=by
 have e1:(op == CmpOp.In)=false:=by cases op <;> first | rfl | exact absurd rfl h
 have e2:(op == CmpOp.NotIn)=false:=by cases op <;> first | rfl | exact absurd rfl h2
 cases b <;> simp [behindInMarks,e1,e2]
theorem wQ:(sizeLine:Nat) < 2 ^ 63:=by rw [sizeLine_eq];decide
theorem vals1 {x:V} {us:List Value} (r:Vals [x] us):∃ u,us= [u]∧RelV x u:=by
 cases r with
 | cons r1 r2=>cases r2;exact ⟨_,rfl,r1⟩
theorem vals2 {x y:V} {us:List Value} (r:Vals [x,y] us):∃ u w',us= [u,w']∧RelV x u∧RelV y w':=by
 cases r with
 | cons r1 r2=>
   cases r2 with
   | cons r3 r4=>cases r4;exact ⟨_,_,rfl,r1,r3⟩
theorem AD:vm X (.builtin "abs") (fun xs H Q=> ∃ i,xs= [.int i]∧Q (.int (if i < 0 then -i else i)) H):=by
 intro pins s σ H xs us Q I r h
 obtain ⟨i,rfl,q⟩:=h
 obtain ⟨u,rfl,t,rfl⟩:=vals1 r
 exact call_abs_int fun u tk=>⟨.int (if i < 0 then -i else i),H,I.tok _,⟨_,rfl⟩,q⟩
theorem zq (hc:X.calm=true):vm X (.builtin "min") (fun xs H Q=> ∃ i j,xs= [.int i,.int j]∧Q (.int (if j < i then j else i)) H):=by
 intro pins s σ H xs us Q I r h
 obtain ⟨i,j,rfl,q⟩:=h
 obtain ⟨u,w',rfl,⟨t,rfl⟩,⟨t',rfl⟩⟩:=vals2 r
 refine min_two_ints (I.ok.hd hc) fun h' tk k=>⟨_,H,I.kept k,?_,q⟩
 by_cases hj:j < i
 ·rw [if_pos hj,if_pos hj];exact ⟨_,rfl⟩
 ·rw [if_neg hj,if_neg hj];exact ⟨_,rfl⟩
end
end L2
namespace L2
open PySem PySem.Spec PyProof.Rows
structure E9 (h:Heap) (x dx C:Addr) (mA:Str→Option Value):Prop where
 obj:h.get? x=some (PySem.W.instObj C dx)
 ns:h.Ns1 dx mA
 ne:dx≠x
theorem zu {h:Heap} {dx:Addr} {mA:Str→Option Value} (n:h.Ns1 dx mA):∃ od,h.get? dx=some od∧∀ name,PySem.W.lookIn name od=some (mA name):=by
 obtain ⟨o,es,ep,ho,hd,hk,_,hm⟩:=n
 refine ⟨o,ho,fun name=>?_⟩
 have e:=hm name
 unfold nsFind findBy at e
 rw [← Array.find?_toList] at e
 unfold PySem.W.lookIn
 rw [hd]
 dsimp only
 split
 ·rename_i y q
  rw [q] at e
  exact congrArg some e
 ·rename_i q
  rw [q] at e
  have a:es.toList.any (·.refKey)=false:=by
   rw [List.any_eq_false]
   intro y hy
   obtain ⟨z,t,hkey⟩:=hk y (Array.mem_toList_iff.mp hy)
   simp [DictEntry.refKey,hkey]
  have a':¬ es.toList.any (·.refKey)=true:=by rw [a];exact Bool.false_ne_true
  rw [if_neg a']
  exact congrArg some e
theorem E9.look {h:Heap} {x dx C:Addr} {mA:Str→Option Value} (I:E9 h x dx C mA):∃ od,PySem.W.InstAt h x (PySem.W.instObj C dx) C (some od)∧∀ name,PySem.W.lookIn name od=some (mA name):=
 let ⟨od,ho,hl⟩:=zu I.ns
 ⟨od,⟨I.obj,rfl,rfl,ho⟩,hl⟩
section
variable {prog:Program} {w:World} {A:Around} {E:Value→Shared→Prop} {s:Shared} {K:PySem.W.Frag} {x dx C f:Addr} {mA:Str→Option Value} {name:Str} {v:Value}
end
section
variable {P:Program} {w:World} {H H':Hp} {h h':Heap} {a C dx:Addr} {fs fs':List (Str ×V)}
theorem CK (hok:jN P w H h) (e:H a=some (.ins C dx fs)):∃ mA,E9 h a dx C mA∧(∀ f,EE (fs.lookup f) (mA f))∧PySem.Within mA (fs.map (·.1))∧fs.length≤1000∧H dx=some (.own a):=by
 obtain ⟨d,z,ne,ob,mA,n,r,q⟩:=(show dj P w H h a (.ins C dx fs) from hok a _ e)
 exact ⟨mA,⟨ob,n,ne⟩,r,q,z,d⟩
end
structure J7 (K:PySem.W.Frag) (C:Addr):Prop where
 pg:PySem.W.plainGet K C Str.empty=true
 hd:PySem.W.hasDictIn K C=true
 po:PySem.W.plainOver K C=true
 sa:PySem.W.findIn K (.ref C) "__setattr__" =some (some (.builtin "object.__setattr__"))
theorem J7.get {K:PySem.W.Frag} {C:Addr} (c:J7 K C) (f:Str):PySem.W.plainGet K C f=true:=c.pg
structure Qg (K:PySem.W.Frag) (C:Addr) (f:Str) (v:V) (u:Value):Prop where
 at_:PySem.W.findIn K (.ref C) f=some (some u)
 rel:RelV v u
 get:PySem.W.specialIn K u "__get__" =some none
 cp:PySem.W.copiedNames.contains f=false
structure Meth (K:PySem.W.Frag) (C:Addr) (m:Str) (f:Addr):Prop where
 at_:PySem.W.findIn K (.ref C) m=some (some (.ref f))
 fn:PySem.W.isFn K (.ref f)=true
 kp:PySem.W.keepIn K (.ref f)=true
section
variable {X:Cx} {pins:List (Addr ×Obj)} {σ:St} {H:Hp} {s:Shared} {a C dx:Addr} {fs:List (Str ×V)} {f:Str} {v:V} {A:Around} {E:Value→Shared→Prop}
end
section
variable {X:Cx} {o e value:Expr} {f:Str} {pos pos' tpos:Pos} {ta tv:TE}
end
section
variable {X:Cx} {pins:List (Addr ×Obj)} {σ:St} {H:Hp} {s:Shared} {A:Around} {E:Value→Shared→Prop} {Q:Value→Shared→Prop} {c:Value} {b:Bool}
inductive oM (K:PySem.W.Frag) (H:Hp):V→Value→Prop where
 | bE:oM K H .bE (.type "NoneType")
 | bl (x:Bool):oM K H (.bl x) (.type "bool")
 | int (i:Int):oM K H (.int i) (.type "int")
 | str (x:Str):oM K H (.str x) (.type "str")
 | GL (x:UInt64):oM K H (.GL x) (.type "float")
 | lst {a:Addr} {xs:List V} (e:H a=some (.lst xs)):oM K H (.ref a) (.type "list")
 | mh {a:Addr} {o:Obj} {xs:List V} (e:H a=some (.mh o (.lst xs))):oM K H (.ref a) (.type "list")
 | tup {a:Addr} {xs:List V} (e:H a=some (.tup xs)):oM K H (.ref a) (.type "tuple")
 | dK {a:Addr} {kvs:List (Key ×V)} (e:H a=some (.dK kvs)):oM K H (.ref a) (.type "dict")
 | dT {a:Addr} {kvs:List (List Key ×V)} (e:H a=some (.dT kvs)):oM K H (.ref a) (.type "dict")
 | ins {a C dx:Addr} {fs:List (Str ×V)} (e:H a=some (.ins C dx fs)) (cl:J7 K C) (ha:PySem.W.findIn K (.ref C) "__class__" =some (some (.builtin "object.__class__")))
  (hn:PySem.W.specialIn K (.builtin "object.__class__") "__get__" =some (some (.builtin "getset_descriptor.__get__"))) (htk:PySem.W.takesIn K (.builtin "object.__class__")=some true)
  (hm:PySem.W.mroIn K C (.type "object")=some true):oM K H (.ref a) (.ref C)
theorem gm {x:V} {u t:Value} (I:Inv X pins σ H s) (rx:RelV x u) (ty:oM X.K H x t) (e:PySem.W.kitOne X.K t c=some b) (h:∀ tk,Q (.bool b) { s with toks:=tk }) :
 wpAny (model X.prog X.w) A (call (.builtin "isinstance") [u,c]) Q E s:=by
 cases ty with
 | bE=>cases (show u=Value.none from rx);exact PySem.W.kia_one PySem.W.kitx_none I.u7 True.intro e (fun z=>nomatch z) h
 | bl y=>cases (show u=Value.bool y from rx);exact PySem.W.kia_one PySem.W.kitx_bool I.u7 True.intro e (fun z=>nomatch z) h
 | int i=>obtain ⟨t,q⟩:=(show ∃ t,u=Value.int i t from rx);cases q;exact PySem.W.kia_one PySem.W.kitx_int I.u7 True.intro e (fun z=>nomatch z) h
 | str y=>obtain ⟨t,q⟩:=(show ∃ t,u=Value.str y t from rx);cases q;exact PySem.W.kia_one PySem.W.kitx_str I.u7 True.intro e (fun z=>nomatch z) h
 | GL y=>obtain ⟨t,q⟩:=(show ∃ t,u=Value.float y t from rx);cases q;exact PySem.W.kia_one PySem.W.kitx_float I.u7 True.intro e (fun z=>nomatch z) h
 | @lst a xs ea=>
   cases (show u=Value.ref a from rx)
   obtain ⟨_,_,n,_,h1⟩:=(show dj X.prog X.w H s.heap a (.lst xs) from I.hok a _ ea)
   exact PySem.W.kia_one PySem.W.kitx_list I.u7 ⟨_,h1,rfl⟩ e (fun z=>nomatch z) h
 | @mh a ob xs ea=>
   cases (show u=Value.ref a from rx)
   obtain ⟨_,_,_,n,_,h1⟩:=(show dj X.prog X.w H s.heap a (.mh ob (.lst xs)) from I.hok a _ ea)
   exact PySem.W.kia_one PySem.W.kitx_list I.u7 ⟨_,h1,rfl⟩ e (fun z=>nomatch z) h
 | @tup a xs ea=>
   cases (show u=Value.ref a from rx)
   obtain ⟨_,_,_,p⟩:=(show dj X.prog X.w H s.heap a (.tup xs) from I.hok a _ ea)
   obtain ⟨o,h1,h2,_⟩:=p
   exact PySem.W.kia_one PySem.W.kitx_tuple I.u7 ⟨o,h1,h2⟩ e (fun z=>nomatch z) h
 | @dK a kvs ea=>
   cases (show u=Value.ref a from rx)
   obtain ⟨_,_,vs,_,p⟩:=(show dj X.prog X.w H s.heap a (.dK kvs) from I.hok a _ ea)
   obtain ⟨o,es,ep,h1,h2,_⟩:=p
   exact PySem.W.kia_one PySem.W.kitx_dict I.u7 ⟨o,h1,h2.1⟩ e (fun z=>nomatch z) h
 | @dT a kvs ea=>
   cases (show u=Value.ref a from rx)
   obtain ⟨_,_,xs,_,o,es,ep,h1,h2,_⟩:=(show dj X.prog X.w H s.heap a (.dT kvs) from I.hok a _ ea)
   exact PySem.W.kia_one PySem.W.kitx_dict I.u7 ⟨o,h1,h2.1⟩ e (fun z=>nomatch z) h
 | @ins a C dx fs ea cl ha hn htk hm=>
   cases (show u=Value.ref a from rx)
   obtain ⟨mA,O,_⟩:=CK I.hok ea
   obtain ⟨od,J,_⟩:=O.look
   exact PySem.W.kia_one (PySem.W.kitx_own (cl.get _) cl.hd ha hn htk hm) I.u7 J e (fun z=>nomatch z) h
end
end L2
namespace L2
open PySem PySem.Spec PyProof.Rows
structure gZ (k:Nat) (A:Around):Prop where
 hd:A.handled=none
 dp:A.depth+3*k+5 < recursionLimit
 un:A.units+16*k+200 < cLine
theorem gZ.mono {j k:Nat} {A:Around} (r:gZ k A) (h:j≤k):gZ j A:=⟨r.hd,by have:=r.dp;omega,by have:=r.un;omega⟩
theorem gZ.deeper {k:Nat} {A:Around} (r:gZ (k+1) A) (env:Env):gZ k (A.deeper env):=
 ⟨r.hd,by have:=r.dp;show A.depth+1+3*k+5 < _;omega,by have:=r.un;show A.units+3+16*k+200 < _;omega⟩
theorem gZ.depth {k:Nat} {A:Around} (r:gZ k A):A.depth < recursionLimit:=by have:=r.dp;omega
theorem gZ.units {k:Nat} {A:Around} (r:gZ k A):A.units+64 < cLine:=by have:=r.un;omega
def Fb:TA:=fun _ H Q=>Q [] H
def AE (ta:TE) (tr:TA):TA:=fun σ H Q=>ta σ H fun x H1=>tr σ H1 fun xs H2=>Q (x :: xs) H2
section
variable {X:Cx} {e:Expr} {es:List Expr} {te:TE} {t:TA} {pos:Pos}
theorem nu:PA X [] Fb:=fun _ _ _ _ H Q I h=>Calls.spliced_nil ⟨[],H,I,.nil,h⟩
theorem kN (ha:PE X e te) (hr:PA X es t) (hs:starEach (e :: es) X.env=(false,eval e X.env) :: starEach es X.env:=by rfl):PA X (e :: es) (AE te t):=by
 intro pos pins s σ H Q I h
 rw [hs]
 show wpAny _ _ (spliced ((false,eval e X.env) :: backTo pos (starEach es X.env))) _ _ s
 refine Calls.spliced_cons (cZ (ha pins s σ H _ I h) fun u s1 ⟨x,H1,I1,r1,q1⟩=>?_)
 exact cZ (hr pos pins s1 σ H1 _ I1 q1) fun us s2 ⟨xs,H2,I2,r2,q2⟩=>⟨x :: xs,H2,I2,.cons r1 r2,q2⟩
def J8 (t:TA):TE:=fun σ H Q=>t σ H fun xs H1=>xs.length≤sizeLine∧∀ p,H1 p=none→Q (.ref p) (upd H1 p (.tup xs))
def J9 (t:TA):TE:=fun σ H Q=>t σ H fun xs H1=>xs.length≤sizeLine∧∀ p,H1 p=none→Q (.ref p) (upd H1 p (.lst xs))
theorem Fc {x1} (h:PA X es t):PE X (.Tuple es x1 pos) (J8 t):=by
 intro pins s σ H Q I hq
 refine wpAny_Tuple_spliced (cZ (h pos pins s σ H _ I hq) fun us s1 ⟨xs,H1,I1,r,z,q⟩=>⟨by rw [← r.length];exact z,?_⟩)
 have hf:H1 s1.heap.objs.size=none:=I1.hok.fresh (Nat.le_refl _)
 refine ⟨.ref s1.heap.objs.size,upd H1 s1.heap.objs.size (.tup xs),I1.laid (t':=s1.toks) (fun b u e=>Heap.get?_push_of_some _ e) (Nat.le_refl _) ?_,rfl,q _ hf⟩
 exact ⟨z,us,r,⟨_,Heap.get?_push_size _ rfl,rfl,_,rfl⟩⟩
theorem Fd (h:PA X es t):PE X (.List es pos) (J9 t):=by
 intro pins s σ H Q I hq
 refine wpAny_List_spliced (cZ (h pos pins s σ H _ I hq) fun us s1 ⟨xs,H1,I1,r,z,q⟩=>⟨by rw [← r.length];exact z,?_⟩)
 have hf:H1 s1.heap.objs.size=none:=I1.hok.fresh (Nat.le_refl _)
 refine ⟨.ref s1.heap.objs.size,upd H1 s1.heap.objs.size (.lst xs),I1.laid (t':=s1.toks) (fun b u e=>Heap.get?_push_of_some _ e) (Nat.le_refl _) ?_,rfl,q _ hf⟩
 exact ⟨z,us,0,r,Heap.get?_push_size _ rfl⟩
end
abbrev Sp:=List V→Hp→VK→XK→Prop
abbrev AF:=List Env→Hp→Shared→XK→Value→Shared→Prop
structure CL (P:Program) (w:World) (K:PySem.W.Frag) (mg:Str→Option Value) (base:Heap) (A:Around) (outer:List Env) (s:Shared) (H:Hp):Prop where
 frames:A.frames=some outer
 mod:Mod K mg base
 bs:∀ b o,base.get? b=some o→s.heap.get? b=some o∧H b=none
 DW:base.objs.size≤s.heap.objs.size
 oK:s.heap.FunFrames base outer
 EI:∀ b∈frs outer,H b=none
 hok:jN P w H s.heap
 bare:AllBare s.gens
def CE (outer:List Env) (P:Program) (w:World) (H:Hp) (s:Shared) (Q:VK) (u:Value) (s':Shared):Prop:=
 ∃ v H',s'.os=s.os∧AllBare s'.gens∧Un (frs outer) [] H H' s.heap s'.heap∧jN P w H' s'.heap∧RelV v u∧Q v H'
def CR (CX:AF) (outer:List Env) (P:Program) (w:World) (H:Hp) (s:Shared) (Q:VK) (E:XK) (r:Result) (s':Shared):Prop:=
 match r with
 | .ok (.ret u)=>CE outer P w H s Q u s'
 | .ok _=>False
 | .error e=>CX outer H s E e s'
structure cg (P:Program) (w:World) (K:PySem.W.Frag) (mg:Str→Option Value) (base:Heap) (CX:AF) (k:Nat) (f:Addr) (fd:FuncData) (ps:List Str) (sp:Sp):Prop where
 len:∀ vs H Q E,sp vs H Q E→vs.length=ps.length
 run:∀ (A:Around) (outer:List Env) (s:Shared) (H:Hp) (args:Args) (us:List Value) (vs:List V) (Q:VK) (E:XK),gZ k A→CL P w K mg base A outer s H→BindsTo s fd args (ps.zip us)→Vals vs us→sp vs H Q E→
  codeAny (model P w) A (.call (.ref f) args) (CR CX outer P w H s Q E) s
section
variable {X:Cx} {pins:List (Addr ×Obj)} {σ:St} {H:Hp} {s s':Shared}
theorem Inv.Ka (I:Inv X pins σ H s):CL X.prog X.w X.K X.mg X.base X.A X.stack s H:=
 ⟨I.ok.frames,I.ok.mod,I.bs,Nat.le_trans I.ok.DW I.sz,I.stack,I.x8,I.hok,I.bare⟩
theorem Inv.after {Q:VK} {u:Value} (I:Inv X pins σ H s) (h:CE X.stack X.prog X.w H s Q u s'):EP X pins σ Q u s':=by
 obtain ⟨v,H',os,bare,un,hok,r,q⟩:=h
 obtain ⟨hh,g,d,t,os'⟩:=s'
 obtain rfl:os'=s.os:=os
 exact ⟨v,H',I.call (h':=hh) (g':=g) (d':=d) (t':=t) (ch:=[]) un hok bare (fun b z=>absurd z (by simp)),r,q⟩
end
def Hv (sp:Sp) (Al:List V) (E:XK) (t:TA):TE:=fun σ H Q=>t σ H fun vs H1=>sp (vs ++ Al) H1 Q E
def Binds (K:PySem.W.Frag) (fd:FuncData) (ps:List Str) (ds:List Value):Prop:=
 ∀ (s:Shared) (us:List Value),K.In s.heap→(us ++ ds).length=ps.length→BindsTo s fd ⟨us,[]⟩ (ps.zip (us ++ ds))
theorem Binds.all {K:PySem.W.Frag} {fd:FuncData} {ps:List Str} (h:∀ us:List Value,us.length=ps.length→bindArgs fd ⟨us,[]⟩=pure (ps.zip us)):Binds K fd ps []:=fun s us _ hl=>by
 rw [List.append_nil] at hl ⊢
 exact .of_eq (h us hl)
def Passes (CX:AF) (X:Cx) (E:XK):Prop:= ∀ (pins:List (Addr ×Obj)) (σ:St) (H:Hp) (s:Shared) (e:Value) (s':Shared),Inv X pins σ H s→CX X.stack H s E e s'→X.xe e s'
section
variable {X:Cx} {CX:AF} {k:Nat} {f C:Addr} {fd:FuncData} {ps:List Str} {sp:Sp} {Al:List V} {ds:List Value} {E:XK} {x m:Str} {p pos apos:Pos} {e o:Expr} {es:List Expr} {ta:TE} {t:TA}
theorem Fe {pins:List (Addr ×Obj)} {σ:St} {H:Hp} {s:Shared} {Q:VK} {us:List Value} {vs:List V} (F:cg X.prog X.w X.K X.mg X.base CX k f fd ps sp) (hr:gZ k X.A) (hb:Binds X.K fd ps ds) (hd:Vals Al ds) (hx:Passes CX X E)
 (I:Inv X pins σ H s) (r:Vals vs us) (h:sp (vs ++ Al) H Q E):wpAny (model X.prog X.w) X.A (call (.ref f) us) (EP X pins σ Q) X.xe s:=by
 have r2:Vals (vs ++ Al) (us ++ ds):=r.append hd
 have hl:(us ++ ds).length=ps.length:=by rw [← r2.length];exact F.len _ _ _ _ h
 refine wpAny_call (codeAny_mono (F.run X.A X.stack s H ⟨us,[]⟩ (us ++ ds) (vs ++ Al) Q E hr I.Ka (hb s us I.u7 hl) r2 h) fun r s' hq=>?_)
 cases r with
 | error e=>exact hx pins σ H s e s' I hq
 | ok fl=>
   cases fl with
   | ret u=>exact I.after hq
   | next=>exact False.elim hq
   | brk=>exact False.elim hq
   | cont=>exact False.elim hq
theorem yd (F:cg X.prog X.w X.K X.mg X.base CX k f fd ps sp) (hr:gZ k X.A) (hg:Gl X x) (hm:X.mg x=some (.ref f)) (hk:PySem.W.keepIn X.K (.ref f)=true) (hb:Binds X.K fd ps ds) (hd:Vals Al ds) (hx:Passes CX X E)
 (ha:PA X (e :: es) t) (hdb:(x == ("__debug__" :Str))=false:=by decide) (he:starEach (e :: es) X.env=(false,eval e X.env) :: starEach es X.env:=by rfl) (hpl:(backTo pos (starEach es X.env)).any (·.1)=false:=by rfl) :
 PE X (.Call (.Name x p) (e :: es) [] pos) (Hv sp Al E t):=by
 intro pins s σ H Q I h
 refine wpAny_Call_Name_kw (CA I hg hm ?_ hdb)
 refine PySem.W.callWith_K (h₀:=X.base) I.ok.mod.JN hk (cZ (ha pos pins s σ H _ I h) fun us s1 ⟨vs,H1,I1,r,q⟩=>⟨I1.u7,?_⟩) he hpl
 exact Fe F hr hb hd hx I1 r q
structure Mk (K:PySem.W.Frag) (C f:Addr):Prop where
 makes:PySem.W.makesIn K C=true
 init:PySem.W.findIn K (.ref C) "__init__" =some (some (.ref f))
 fn:PySem.W.isFn K (.ref f)=true
 kp:PySem.W.keepIn K (.ref C)=true
end
section
variable {X:Cx} {CX:AF} {k:Nat} {f C:Addr} {fd:FuncData} {ps ks:List Str} {sp:Sp} {E:XK} {x m:Str} {p pos apos kpos:Pos} {e o:Expr} {es:List Expr} {kws:List Keyword} {te ta:TE} {t tk:TA} {nm:Option Str}
structure Kc (K:PySem.W.Frag) (fd:FuncData) (ps ks:List Str) (g:List Value→List Value→List Value) (gV:List V→List V→List V):Prop where
 to:∀ (s:Shared) (us ws:List Value),K.In s.heap→(g us ws).length=ps.length→BindsTo s fd ⟨us,ks.zip ws⟩ (ps.zip (g us ws))
 rel:∀ {vs:List V} {us:List Value} {zs:List V} {ws:List Value},Vals vs us→Vals zs ws→Vals (gV vs zs) (g us ws)
variable {g:List Value→List Value→List Value} {gV:List V→List V→List V}
end
structure aO (N P:List Str) (sc:Scope):Prop where
 kind:sc.kind= .function
 co:sc.isCoroutine=false
 gen:sc.isGenerator=false
 nd:N.Nodup
 pre:N.take P.length=P
 par:∀ x∈P,sc.names.lookup x=some .local∨sc.names.lookup x=some .cell
 Ff:∀ y∈sc.names,y.2≠ .free
theorem rV {kindOf:Str→Option NameKind} {x:Str}:∀ {binds:List (Str ×Value)} {m:Str→Option Value},(∀ v,(x,v)∉binds)→bindL kindOf binds m x=m x
 | [],_,_=>rfl
 | (n,v) :: r,m,h=>by
   unfold bindL
   rw [rV fun w hw=>h w (List.mem_cons_of_mem _ hw)]
   split
   ·have:x≠n:=by rintro rfl;exact h v List.mem_cons_self
    simp [this]
   ·rfl
theorem rW {kindOf:Str→Option NameKind} {x:Str}:∀ {binds:List (Str ×Value)} {m:Str→Option Value},(∀ v,(x,v)∉binds)→bindC kindOf binds m x=m x
 | [],_,_=>rfl
 | (n,v) :: r,m,h=>by
   unfold bindC
   rw [rW fun w hw=>h w (List.mem_cons_of_mem _ hw)]
   split
   ·rfl
   ·have:x≠n:=by rintro rfl;exact h v List.mem_cons_self
    simp [this]
theorem rX {kindOf:Str→Option NameKind} {x:Str} {v:Value}:∀ {P:List Str} {vs:List Value} {i:Nat} {m:Str→Option Value},P.Nodup→P[i]?=some x→vs[i]?=some v→kindOf x=some .local→
 bindL kindOf (P.zip vs) m x=some v
 | [],_,_,_,_,h,_,_=>by simp at h
 | _ :: _,[],_,_,_,_,h,_=>by simp at h
 | p :: P,w :: vs,0,m,nd,h1,h2,hk=>by
   simp at h1 h2;subst h1;subst h2
   show bindL kindOf ((p,w) :: P.zip vs) m p=_
   unfold bindL
   rw [rV fun v hv=>(List.nodup_cons.mp nd).1 (List.of_mem_zip hv).1,if_pos hk]
   simp
 | p :: P,w :: vs,i+1,m,nd,h1,h2,hk=>by
   show bindL kindOf ((p,w) :: P.zip vs) m x=_
   unfold bindL
   exact rX (i:=i) (List.nodup_cons.mp nd).2 (by simpa using h1) (by simpa using h2) hk
theorem rY {kindOf:Str→Option NameKind} {x:Str} {v:Value}:∀ {P:List Str} {vs:List Value} {i:Nat} {m:Str→Option Value},P.Nodup→P[i]?=some x→vs[i]?=some v→kindOf x≠some .local→
 bindC kindOf (P.zip vs) m x=some v
 | [],_,_,_,_,h,_,_=>by simp at h
 | _ :: _,[],_,_,_,_,h,_=>by simp at h
 | p :: P,w :: vs,0,m,nd,h1,h2,hk=>by
   simp at h1 h2;subst h1;subst h2
   show bindC kindOf ((p,w) :: P.zip vs) m p=_
   unfold bindC
   rw [rW fun v hv=>(List.nodup_cons.mp nd).1 (List.of_mem_zip hv).1,if_neg hk]
   simp
 | p :: P,w :: vs,i+1,m,nd,h1,h2,hk=>by
   show bindC kindOf ((p,w) :: P.zip vs) m x=_
   unfold bindC
   exact rY (i:=i) (List.nodup_cons.mp nd).2 (by simpa using h1) (by simpa using h2) hk
def start (N:List Str) (vs:List V):St:=vs.map some ++ List.replicate (N.length - vs.length) none
def oN (CX:AF) (P:Program) (w:World) (K:PySem.W.Frag) (mg:Str→Option Value) (base:Heap) (N:List Str) (qual:Str) (scope:Scope) (f:Addr) (cd:Value) (A:Around) (outer:List Env) (s:Shared) (H:Hp) (E:XK):Cx where
 prog:=P
 w:=w
 K:=K
 mg:=mg
 base:=base
 A:=A.deeper (envOfC qual scope s.heap.objs.size f cd)
 N:=N
 s₀:=s
 H₀:=H
 env:=envOfC qual scope s.heap.objs.size f cd
 outer:=outer
 stack:=envOfC qual scope s.heap.objs.size f cd :: outer
 ex:=[]
 calm:=true
 fn:=fun _=>true
 pn:=[]
 xe:=fun e s'=>wpAny (model P w) (A.deeper (envOfC qual scope s.heap.objs.size f cd)) (leaving (envOfC qual scope s.heap.objs.size f cd) e) (fun _ s''=>CX outer H s E e s'') (fun e' s''=>CX outer H s E e' s'') s'
theorem vn {sc:Scope} {n:Nat} {x:Str} (h:sc.names.lookup x=some .cell):∃ c,(cellsFrom n sc.names []).lookup x=some c:=by
 have q:=PySem.W.cellsFrom_some sc.names n [] (.inl h)
 exact Option.isSome_iff_exists.mp q
theorem zx {CX:AF} {P:Program} {w:World} {K:PySem.W.Frag} {mg:Str→Option Value} {base:Heap} {N ps:List Str} {qual:Str} {scope:Scope} {f:Addr} {cd:Value} {A:Around} {outer:List Env} {s s1:Shared} {H:Hp} {E:XK} {us:List Value} {vs:List V}
 (S:aO N ps scope) (hd:A.handled=none) (e0:CL P w K mg base A outer s H) (hl:vs.length=ps.length) (r:Vals vs us)
 (x:InCallC s s.heap.objs.size (bindL (envOfC qual scope s.heap.objs.size f cd).kindOf (ps.zip us) fun _=>none) (cellsFrom (s.heap.objs.size+1) scope.names []) (bindC (envOfC qual scope s.heap.objs.size f cd).kindOf (ps.zip us) fun _=>none) s1) :
 Inv (oN CX P w K mg base N qual scope f cd A outer s H E) [] (start N vs) H s1:=by
 have hpl:ps.length≤N.length:=by have:=congrArg List.length S.pre;rw [List.length_take] at this;omega
 obtain ⟨h1,tk,rfl,hk⟩:=x.done
 have Hw:∀ b:Addr,b∉(oN CX P w K mg base N qual scope f cd A outer s H E).ex:=fun b z=>absurd (show b∈([]:List Addr) from z) (by simp)
 refine ⟨⟨e0.mod,S.kind,rfl,rfl,Nat.le_refl _,fun y z c h1 h2=>?_,fun y hy=>?_,fun y c _ h=>?_,fun _=>hd,Around.frames_deeper e0.frames,.inr ⟨rfl,rfl⟩,fun b z=>absurd z (Hw b),e0.bs,e0.DW,fun b _ _=>Hw b,fun b z=>absurd z (Hw b),e0.oK,e0.EI⟩,
  rfl,e0.bare,Un.kept hk,⟨_,x.toInCall.ns,fun i y v h1 h2 h3=>?_⟩,fun y c h=>⟨_,x.cell y c h⟩,e0.hok.fresh (Nat.le_refl _),fun y c h=>?_,fun p hp=>absurd (show p∈([]:List (Addr ×Obj)) from hp) (by simp),e0.hok.kept hk,?_⟩
 ·exact name_of_addr x.apart (PySem.mem_of_lookup h1) (PySem.mem_of_lookup h2)
 ·have hy:scope.names.lookup y=some .cell∨scope.names.lookup y=some .free:=hy
  rcases hy with hy | hy
  ·exact vn hy
  ·exact absurd rfl (S.Ff _ (PySem.mem_of_lookup hy))
 ·exact Nat.le_of_lt (x.above y c (PySem.mem_of_lookup h))
 ·have hi:i < vs.length:=by
   unfold start at h2
   by_cases hi:i < vs.length
   ·exact hi
   ·rw [List.getElem?_append_right (by simpa using hi)] at h2
    rw [List.getElem?_replicate] at h2
    split at h2 <;> cases h2
  have ha:vs[i]?=some v:=by
   unfold start at h2
   rw [List.getElem?_append_left (by simpa using hi),List.getElem?_map] at h2
   cases e:vs[i]? with
   | none=>rw [e] at h2;cases h2
   | some a=>rw [e] at h2;cases h2;rfl
  obtain ⟨u,hu,rv⟩:=r.get ha
  have hp:ps[i]?=some y:=by
   rw [← S.pre,List.getElem?_take_of_lt (by omega)];exact h1
  have Mg:ps.Nodup:=by rw [← S.pre];exact S.nd.sublist (List.take_sublist _ _)
  refine ⟨u,rv,?_⟩
  rcases S.par y (List.mem_of_getElem? hp) with k | k
  ·exact .inl ⟨k,rX Mg hp hu k⟩
  ·obtain ⟨c,e⟩:=vn (n:=s.heap.objs.size+1) k
   refine .inr ⟨.inl k,c,e,?_⟩
   have q:=x.cell y c e
   rw [rY Mg hp hu (by show scope.names.lookup y≠_;rw [k];decide)] at q
   exact q
 ·exact e0.hok.fresh (Nat.le_of_lt (x.above y c (PySem.mem_of_lookup h)))
 ·unfold start
  show _=N.length
  rw [List.length_append,List.length_map,List.length_replicate]
  omega
theorem Hx {CX:AF} {P:Program} {w:World} {K:PySem.W.Frag} {mg:Str→Option Value} {base:Heap} {k:Nat} {f:Addr} {name qual:Str} {params:Arguments} {body:List Stmt} {scope:Scope} {dV kV doc pm cdv ct oc:Value} {an od:Option Addr}
 {osl:Array (Option Value)} {N ps:List Str} {sp:Sp} (lk:K.lookup f=some ⟨oc,od,.func (PySem.W.fnOf name qual params body scope dV kV doc pm an cdv ct),osl⟩) (hcd:PySem.W.codeIn K cdv qual=true) (S:aO N ps scope)
 (len:∀ vs H Q E,sp vs H Q E→vs.length=ps.length)
 (hbody:∀ (A:Around) (outer:List Env) (s:Shared) (H:Hp) (vs:List V) (Q:VK) (E:XK),gZ k (A.deeper (envOfC qual scope s.heap.objs.size f cdv))→sp vs H Q E→
  ∃ t,wN (oN CX P w K mg base N qual scope f cdv A outer s H E) body t∧t { nx:=fun _ H'=>Q .bE H',rt:=Q } (start N vs) H) :
 cg P w K mg base CX (k+1) f (PySem.W.fnOf name qual params body scope dV kV doc pm an cdv ct) ps sp:=by
 refine ⟨len,fun A outer s H args us vs Q E hr e0 hb r D3=>?_⟩
 have hl:=len _ _ _ _ D3
 have KX:K.In s.heap:=e0.mod.JN.keeps fun b o e=>(e0.bs b o e).1
 have lim:s.heap.NoLimit:=e0.mod.nolimit.keeps fun b o e=>(e0.bs b o e).1
 have hkind:∀ y∈ps.zip us,scope.names.lookup y.1=some .local∨(scope.names.lookup y.1=some .cell∧((cellsFrom (s.heap.objs.size+1) scope.names []).lookup y.1).isSome=true):=fun ⟨n,v⟩ hy=>by
  rcases S.par n (List.of_mem_zip hy).1 with q | q
  ·exact .inl q
  ·exact .inr ⟨q,PySem.W.cellsFrom_some _ _ _ (.inl q)⟩
 refine codeAny_call_function hr.depth (KX _ _ lk) rfl S.co S.gen rfl (PySem.W.codeRec_of KX hcd) (hb _ _ _ _ ?_)
 refine wpAny_newFunctionEnv_cells S.kind hkind fun env he s1 x=>?_
 subst he
 refine ⟨lim.keeps x.toInCall.keep,codeAny_func ?_⟩
 obtain ⟨t,ht,hq⟩:=hbody A outer s H vs Q E (hr.deeper _) D3
 have I:Inv (oN CX P w K mg base N qual scope f cdv A outer s H E) [] (start N vs) H s1:=zx S hr.hd e0 hl r x
 refine wpAny_mono (ht [] s1 (start N vs) H _ I hq) (fun fl s' hs=>?_) fun e s' hs=>hs
 have fin:∀ {σ':St} {H':Hp} {v:V} {u:Value},Inv (oN CX P w K mg base N qual scope f cdv A outer s H E) [] σ' H' s'→RelV v u→Q v H'→CE outer P w H s Q u s':=
  fun {σ' H' v u} J rv q=>⟨v,H',J.os,J.bare,J.base,J.hok,rv,q⟩
 cases fl with
 | ret u=>
   obtain ⟨v,σ',H',J,rv,q⟩:=hs
   exact fin J rv q
 | next=>
   obtain ⟨σ',H',J,q⟩:=hs
   exact fin (v:=V.bE) (u:=Value.none) J rfl q
 | brk=>
   obtain ⟨_,_,_,q⟩:=hs
   exact False.elim q
 | cont=>
   obtain ⟨_,_,_,q⟩:=hs
   exact False.elim q
end L2
namespace L2
open PySem PySem.Spec PyProof.Rows
section
variable {X:Cx} {x:Str} {p pos:Pos} {e:Expr} {es:List Expr} {t:TA} {id T:String} {r:List V→Hp→VK→Prop}
end
end L2
namespace HT
open PySem PyProof.Rows
def lexLt:List Int→List Int→Bool
 | [],[]=>false
 | [],_ :: _=>true
 | _ :: _,[]=>false
 | x :: xs,y :: ys=>if x=y then lexLt xs ys else decide (x < y)
theorem lK (x y:Int) (xs ys:List Int):lexLt (x :: xs) (y :: ys)=if x=y then lexLt xs ys else decide (x < y):=rfl
theorem k7:lexLt [] []=false:=rfl
theorem pI (y:Int) (ys:List Int):lexLt [] (y :: ys)=true:=rfl
theorem pJ (x:Int) (xs:List Int):lexLt (x :: xs) []=false:=rfl
theorem AG (A:Around) (s:Shared) (a:Int) (t:Tok) (c:Int) (u:Tok):∃ e,SeqAt.EqAt A s (.int a t) (.int c u) e∧(e=true↔a=c):=
 ⟨(a == c),SeqAt.EqAt.int_int a t c u,by simp⟩
theorem AH (A:Around) (s:Shared) (a:Int) (t:Tok) (c:Int) (u:Tok) (prog:Program) (w:World) (E:Value→Shared→Prop) (Q:Value→Shared→Prop) (h:Q (.bool (decide (a < c))) s) :
 wpAny (model prog w) A (richCompare .Lt (.int a t) (.int c u)) Q E s:=
 (PyProof.Rows.lt_int h:wpAny (model prog w) A (compareOp .Lt (.int a t) (.int c u)) Q E s)
section
open PySem.SeqAt
open PySem.AutoSeq1 (wpAny_loadPart')
open PySem.MeetsSeq PySem.MeetsSeq2 PySem.MeetsSeq3
theorem qT (l b:Addr) (items items2:Array Value) (n n2:Nat) (dd dd2:Option Addr) (sl sl2:Array (Option Value)) (ns ms:List Int) (hi:IntsAre items.toList ns) (hj:IntsAre items2.toList ms) :
 Meets (Builtin.«tuple.__lt__» ⟨[.ref l,.ref b],[]⟩)
  (fun _ R s=>s.heap.get? l=some { cls:= .type "tuple",dict:=dd,data:= .seq items n,slots:=sl }∧s.heap.get? b=some { cls:= .type "tuple",dict:=dd2,data:= .seq items2 n2,slots:=sl2 }∧
   R (.ok (.ret (.bool (lexLt ns ms)))) s):=
 .of_wp fun prog w A R s h=>by
  obtain ⟨hp,g,d,tk,os⟩:=s;obtain ⟨hl,hb,h⟩:=h
  have f2:=AutoSeq1.sub_tuple_tuple
  have z1:items.size=ns.length:=by rw [← hi.length];simp
  have z2:items2.size=ms.length:=by rw [← hj.length];simp
  wp_walk using wpAny_loadPart' hl,wpAny_loadPart' hb,wpAny_forIn_list _ (fun rest b s'=>b.1=none∧s'= ⟨hp,g,d,tk,os⟩∧∃ (vs ws:List Value) (ns' ms':List Int),rest=vs.zip ws∧
   IntsAre vs ns'∧IntsAre ws ms'∧ns'.length+items2.size=ms'.length+items.size∧R (.ok (.ret (.bool (lexLt ns' ms')))) ⟨hp,g,d,tk,os⟩) _
  case turn=>
   rintro ⟨y,x⟩ rest b s' ⟨hb',rfl,vs,ws,ns',ms',hz,Kd,hwi,hlen,hR⟩
   cases Kd with
   | nil=>rw [List.zip_nil_left] at hz;cases hz
   | cons a t Ke=>
     cases hwi with
     | nil=>rw [List.zip_nil_right] at hz;cases hz
     | cons c u Kf=>
       rw [List.zip_cons_cons] at hz
       injection hz with hyx hrest
       injection hyx with hy hx
       subst hy hx
       rw [lK] at hR
       simp only [List.length_cons] at hlen
       obtain ⟨e,he,hiff⟩:=AG A.in1 ⟨hp,g,d,tk,os⟩ a t c u
       refine wpAny_bind (he prog w _ _ ?_)
       cases e with
       | true=>
         rw [if_pos (hiff.mp rfl)] at hR
         wp_walk
         exact ⟨rfl,rfl,_,_,_,_,hrest,Ke,Kf,by omega,hR⟩
       | false=>
         rw [if_neg (fun q=>absurd (hiff.mpr q) Bool.false_ne_true)] at hR
         have ND:=AH A.in1 ⟨hp,g,d,tk,os⟩ a t c u prog w
         wp_walk using ND
         exact ⟨_,rfl,by simpa using hR⟩
  case fin=>
   rintro ⟨b1,b2⟩ s' ⟨hb',rfl,vs,ws,ns',ms',hz,Kd,hwi,hlen,hR⟩
   simp only at hb'
   subst hb'
   have hv:lexLt ns' ms'=decide (items.size < items2.size):=by
    cases Kd with
    | nil=>
      cases hwi with
      | nil=>
        simp only [List.length_nil] at hlen
        rw [k7]
        exact (decide_eq_false (by omega)).symm
      | cons c u hw=>
        simp only [List.length_nil,List.length_cons] at hlen
        rw [pI]
        exact (decide_eq_true (by omega)).symm
    | cons a t hv=>
      cases hwi with
      | nil=>
        simp only [List.length_nil,List.length_cons] at hlen
        rw [pJ]
        exact (decide_eq_false (by omega)).symm
      | cons c u hw=>
        rw [List.zip_cons_cons] at hz
        cases hz
   rw [hv] at hR
   wp_walk
   exact ⟨_,rfl,by simpa [Builtin.Tuple.tupleCompareSizes] using hR⟩
  case h=>
   exact ⟨rfl,rfl,items.toList,items2.toList,ns,ms,rfl,hi,hj,by omega,h⟩
end
section
variable {prog:Program} {w:World} {A:Around} {E:Value→Shared→Prop} {s:Shared}
theorem pK {l b:Addr} {items items2:Array Value} {ns ms:List Int} {Q:Value→Shared→Prop} (hl:IsTup s.heap l items) (hb:IsTup s.heap b items2) (hi:IntsAre items.toList ns) (hj:IntsAre items2.toList ms)
 (hu:A.units < cLine) (h:Q (.bool (lexLt ns ms)) s):wpAny (model prog w) A (compareOp .Lt (.ref l) (.ref b)) Q E s:=by
 obtain ⟨⟨cls,dd,data,sl⟩,ho,hc,n,hd⟩:=id hl
 obtain ⟨⟨NF,dd2,data2,sl2⟩,ho2,hc2,n2,hd2⟩:=id hb
 simp only at hc hd hc2 hd2
 subst hc hd hc2 hd2
 exact richCompare_meets_room (op:= .Lt) ⟨_,ho,rfl⟩ ⟨_,ho2,rfl⟩ PySem.F.slot_tuple_lt PySem.F.entry_tuple_lt (PySem.F.args_tuple_lt_2 _ _) (qT l b items items2 n n2 dd dd2 sl sl2 ns ms hi hj)
  ⟨ho,ho2,show Value.bool (lexLt ns ms)≠Value.notImplemented∧Q (.bool (lexLt ns ms)) s from ⟨(fun x=>nomatch x),h⟩⟩ hu
def oh (n d:Nat):Option Int→Nat
 | none=>d
 | some v=>if v < 0 then (v+(n:Int)).toNat else min v.toNat n
theorem vo (n d:Nat):oh n d none=d:=rfl
theorem ye (n d k:Nat):oh n d (some (k:Int))=min k n:=by
 show (if (k:Int) < 0 then ((k:Int)+(n:Int)).toNat else min (k:Int).toNat n)=min k n
 rw [if_neg (by omega),Int.toNat_natCast]
end
end HT
namespace L2
open PySem PySem.Spec PyProof.Rows
abbrev TO:=St→Hp→(Option Int→Hp→Prop)→Prop
def PO (X:Cx) (e:Option Expr) (t:TO):Prop:=
 ∀ (pins:List (Addr ×Obj)) (s:Shared) (σ:St) (H:Hp) (Q:Option Int→Hp→Prop),Inv X pins σ H s→t σ H Q→
   wpAny (model X.prog X.w) X.A (evalPart e X.env) (fun u s'=> ∃ o H',Inv X pins σ H' s'∧IsPart u o∧Q o H') X.xe s
def yf:TO:=fun _ H Q=>Q none H
def D4 (t:TE):TO:=fun σ H Q=>t σ H fun x H1=> ∃ i,x= .int i∧Q (some i) H1
theorem intsAre_of {ns:List Int}:∀ {us:List Value},Vals (ns.map V.int) us→IntsAre us ns:=by
 induction ns with
 | nil=>intro us r;rw [List.map_nil] at r;cases r;exact .nil
 | cons n ns ih=>
   intro us r
   rw [List.map_cons] at r
   cases r with
   | cons r1 r2=>
     obtain ⟨t,e⟩:=r1
     subst e
     exact .cons n t (ih r2)
section
variable {X:Cx} {e:Expr} {te:TE} {lo hi:Option Expr} {tl th:TO} {pos p2:Pos}
theorem CM:PO X none yf:=by
 intro pins s σ H Q I h
 rw [evalPart_none]
 exact wpAny_pure ⟨none,H,I,.none,h⟩
theorem CN (h:PE X e te):PO X (some e) (D4 te):=by
 intro pins s σ H Q I hw
 rw [evalPart_some]
 refine cZ (h pins s σ H _ I hw) fun u s1 ⟨x,H1,I1,r1,q1⟩=>?_
 obtain ⟨i,rfl,q⟩:=q1
 obtain ⟨t,rfl⟩:=r1
 exact ⟨some i,H1,I1,.int i t,q⟩
def Mh (X:Cx) (r:V→Option Int→Option Int→Hp→VK→Prop):Prop:=
 ∀ (pins:List (Addr ×Obj)) (s:Shared) (σ:St) (H:Hp) (x:V) (v vl vu:Value) (lo hi:Option Int) (sl:Addr) (Q:VK),Inv X pins σ H s→RelV x v→s.heap.IsSliceOf sl vl vu .none→IsPart vl lo→IsPart vu hi→r x lo hi H Q→
   ∃ T id,typeLookup (.type T) "__getitem__" =pure (some (.builtin id))∧s.TypeIs v T∧wpAny (model X.prog X.w) X.A (getItem v (.ref sl)) (EP X pins σ Q) X.xe s
def NG (r:V→Option Int→Option Int→Hp→VK→Prop) (te:TE) (tl th:TO):TE:=fun σ H Q=>te σ H fun x H1=>tl σ H1 fun l H2=>th σ H2 fun u H3=>r x l u H3 Q
theorem AI {r:V→Option Int→Option Int→Hp→VK→Prop} (hr:Mh X r) (he:PE X e te) (hl:PO X lo tl) (hu:PO X hi th):PE X (.Subscript e (.Slice lo hi none p2) pos) (NG r te tl th):=by
 intro pins s σ H Q I h
 refine Subscript_ (cZ (he pins s σ H _ I h) fun v s1 ⟨x,H1,I1,r1,q1⟩=>?_)
 refine wpAny_Slice (cZ (hl pins s1 σ H1 _ I1 q1) fun vl s2 ⟨l,H2,I2,pl,q2⟩=>cZ (hu pins s2 σ H2 _ I2 q2) fun vu s3 ⟨u,H3,I3,pu,q3⟩=>?_)
 rw [evalPart_none]
 refine wpAny_pure ?_
 have I4:Inv X pins σ H3 { s3 with heap:=s3.heap.push { cls:= .type "slice",data:= .fields #[vl,vu,.none] } }:=I3.kept (t':=s3.toks) fun b ob q=>Heap.get?_push_of_some _ q
 obtain ⟨T,id,hT,ht,hg⟩:=hr pins { s3 with heap:=s3.heap.push { cls:= .type "slice",data:= .fields #[vl,vu,.none] } } σ H3 x v vl vu l u s3.heap.objs.size Q I4 r1 (Heap.IsSliceOf.new ..) pl pu q3
 show wpAny (model X.prog X.w) X.A (subscriptTail e (.Slice lo hi none p2) v (.ref s3.heap.objs.size)) (EP X pins σ Q) X.xe { s3 with heap:=s3.heap.push { cls:= .type "slice",data:= .fields #[vl,vu,.none] } }
 exact tail_any (ops:=[.ref s3.heap.objs.size,v]) ht hT hg (by with_unfolding_all rfl)
def CO (xs:List V) (lo hi:Option Int):List V:=(xs.drop (HT.oh xs.length 0 lo)).take (HT.oh xs.length xs.length hi - HT.oh xs.length 0 lo)
theorem vp (xs:List V) (lo hi:Option Int):(CO xs lo hi).length≤xs.length:=by
 unfold CO
 rw [List.length_take,List.length_drop]
 omega
def Hy (K:PySem.W.Frag):R2:=fun x y H Q=> ∃ a b ns ms,x= .ref a∧y= .ref b∧Cq K H a (ns.map V.int)∧Cq K H b (ms.map V.int)∧Q (.bl (HT.lexLt ns ms)) H
end
end L2
namespace L2
open PySem PySem.Spec PyProof.Rows
def Am (n:Nat) (i:Int):Option Nat:=if 0≤i then (if i < n then some i.toNat else none) else if -(n:Int)≤i then some (i+n).toNat else none
def mq {α:Type} (xs:List α) (i:Int):Option α:=(Am xs.length i).bind fun j=>xs[j]?
theorem CP {n:Nat} {i:Int} {j:Nat} (h:Am n i=some j):seqIndex? i n=some j∧j < n∧ -(n:Int)≤i∧i < n:=by
 unfold Am at h
 by_cases h0:0≤i
 ·rw [if_pos h0] at h
  by_cases h1:i < n
  ·rw [if_pos h1] at h
   have e:i.toNat=j:=Option.some.inj h
   exact ⟨by rw [seqIndex_of h0 h1,e],by omega,by omega,h1⟩
  ·rw [if_neg h1] at h;cases h
 ·rw [if_neg h0] at h
  by_cases h1: -(n:Int)≤i
  ·rw [if_pos h1] at h
   have e:(i+n).toNat=j:=Option.some.inj h
   exact ⟨by rw [seqIndex_neg (by omega) h1,e],by omega,h1,by omega⟩
  ·rw [if_neg h1] at h;cases h
theorem yg {α:Type} {xs:List α} {i:Int} {v:α} (h:mq xs i=some v):∃ j,seqIndex? i xs.length=some j∧xs[j]?=some v∧j < xs.length∧ -(xs.length:Int)≤i∧i < xs.length:=by
 unfold mq at h
 cases e:Am xs.length i with
 | none=>rw [e] at h;cases h
 | some j=>
   rw [e] at h
   obtain ⟨h1,h2,h3,h4⟩:=CP e
   exact ⟨j,h1,h,h2,h3,h4⟩
theorem bI {α:Type} {xs:List α} {j:Nat} {v:α} (h:xs[j]?=some v):mq xs (j:Int)=some v:=by
 have hj:j < xs.length:=(List.getElem?_eq_some_iff.mp h).1
 have e:Am xs.length (j:Int)=some j:=by
  unfold Am
  rw [if_pos (by omega),if_pos (by omega)];simp
 unfold mq;rw [e];exact h
theorem AJ {α:Type} (xs:List α) (v:α):mq (xs ++ [v]) (-1)=some v:=by
 have hl:(xs ++ [v]).length=xs.length+1:=by simp
 have e:Am (xs ++ [v]).length (-1)=some xs.length:=by
  unfold Am
  rw [hl,if_neg (by decide),if_pos (by omega)]
  congr 1
  omega
 unfold mq
 rw [e]
 show (xs ++ [v])[xs.length]?=some v
 simp
def yh (b:Expr):Prop:= ∀ o i,subscripted b false o i=operate [o,i] (getItem o i)
def Fg (X:Cx) (r:R2):Prop:=
 ∀ (value slice:Expr) (pins:List (Addr ×Obj)) (s:Shared) (σ:St) (H:Hp) (x y:V) (v u:Value) (Q:VK),Inv X pins σ H s→RelV x v→RelV y u→r x y H Q→
   subscripted slice false v u=operate [v,u] (getItem v u)→wpAny (model X.prog X.w) X.A (subscriptTail value slice v u) (EP X pins σ Q) X.xe s
def Mi (X:Cx) (id:String) (r:V→List V→Hp→VK→Prop):Prop:=
 ∀ (pins:List (Addr ×Obj)) (s:Shared) (σ:St) (H:Hp) (x:V) (xs:List V) (v:Value) (us:List Value) (Q:VK),Inv X pins σ H s→RelV x v→Vals xs us→r x xs H Q→
   wpAny (model X.prog X.w) X.A (call (.builtin id) (v :: us)) (EP X pins σ Q) X.xe s
section
variable {X:Cx} {a b:Expr} {ta tb:TE} {pos:Pos}
theorem Fg.or {r r':R2} (h:Fg X r) (h':Fg X r'):Fg X (fun x y H Q=>r x y H Q∨r' x y H Q):=by
 intro value slice pins s σ H x y v u Q I rx ry q hs
 rcases q with q | q
 ·exact h value slice pins s σ H x y v u Q I rx ry q hs
 ·exact h' value slice pins s σ H x y v u Q I rx ry q hs
theorem Hz {r:R2} (hr:Fg X r) (ha:PE X a ta) (hb:PE X b tb) (hs:yh b):PE X (.Subscript a b pos) (Nv r ta tb):=by
 intro pins s σ H Q I h
 exact Subscript_ (J6 ha hb I h fun v u s2 x y H2 I2 rx ry q=>hr a b pins s2 σ H2 x y v u Q I2 rx ry q (hs _ _))
def Kg (K:PySem.W.Frag):R2:=fun x y H Q=> ∃ p xs i v,x= .ref p∧y= .int i∧jw K H p xs∧mq xs i=some v∧Q v H
def Kh (K:PySem.W.Frag):R2:=fun x y H Q=> ∃ p xs i v,x= .ref p∧y= .int i∧Cq K H p xs∧mq xs i=some v∧Q v H
theorem CQ:Fg X (Kg X.K):=by
 intro value slice pins s σ H x y v u Q I rx ry h hs
 obtain ⟨p,xs,i,z,rfl,rfl,hq,he,q⟩:=h
 cases rx
 obtain ⟨t,rfl⟩:=ry
 obtain ⟨its,r,pl,hz⟩:=I.list hq
 obtain ⟨j,h1,h2,h3,h4,h5⟩:=yg he
 obtain ⟨w,ew,rw'⟩:=r.get h2
 have hl:=r.length
 have hn:=wQ
 have fin:EP X pins σ Q w s:=⟨z,H,I,rw',q⟩
 by_cases h0:0≤i
 ·have hj:i.toNat=j:=by
   rw [seqIndex_of h0 h5] at h1
   exact Option.some.inj h1
  exact item_listR pl.isList h0 (by omega) (by rw [hj];simpa using ew) fin hs
 ·have hj:(i+(its.toArray.size:Int)).toNat=j:=by
   rw [seqIndex_neg (by omega) h4] at h1
   rw [List.size_toArray,← hl]
   exact Option.some.inj h1
  exact subscriptTail_builtinR (x:=w) pl.isList.typeIs slot_list_getitem.lookup
   (wpAny_getItem_list_neg (Q:=fun r s'=>r=w∧EP X pins σ Q r s') pl.isList (by omega) (by rw [List.size_toArray] <;> omega) (by omega) (by rw [hj];simpa using ew) ⟨rfl,fin⟩) hs
theorem Fi:Fg X (Kh X.K):=by
 intro value slice pins s σ H x y v u Q I rx ry h hs
 obtain ⟨p,xs,i,z,rfl,rfl,hq,he,q⟩:=h
 cases rx
 obtain ⟨t,rfl⟩:=ry
 obtain ⟨its,r,pl,hz⟩:=I.tuple hq
 obtain ⟨j,h1,h2,h3,h4,h5⟩:=yg he
 obtain ⟨w,ew,rw'⟩:=r.get h2
 have hl:=r.length
 have hn:=wQ
 have fin:EP X pins σ Q w s:=⟨z,H,I,rw',q⟩
 exact subscriptTail_builtinR (x:=w) pl.typeIs slot_tuple_getitem.lookup
  (getItem_tuple (j:=j) (Q:=fun r s'=>r=w∧EP X pins σ Q r s') pl (by omega) (by omega) (by rw [List.size_toArray,← hl];exact h1) (by simpa using ew) ⟨rfl,fin⟩) hs
theorem tS (lo hi:Option Int) (n:Nat):(sliceBounds lo hi none n).1=((HT.oh n 0 lo:Nat):Int)∧(sliceBounds lo hi none n).2.1=((HT.oh n n hi:Nat):Int)∧(sliceBounds lo hi none n).2.2=1:=by
 refine ⟨?_,?_,rfl⟩
 ·cases lo with
  | none=>simp [sliceBounds,HT.oh]
  | some i=>
    simp only [sliceBounds,HT.oh,Option.getD_none,show (1:Int) > 0 by decide,if_true]
    by_cases h:i < 0
    ·simp only [h,if_true] <;> omega
    ·simp only [h,if_false] <;> omega
 ·cases hi with
  | none=>simp [sliceBounds,HT.oh]
  | some i=>
    simp only [sliceBounds,HT.oh,Option.getD_none,show (1:Int) > 0 by decide,if_true]
    by_cases h:i < 0
    ·simp only [h,if_true] <;> omega
    ·simp only [h,if_false] <;> omega
theorem qU (its:List Value) (lo hi:Option Int):slicePick its.toArray lo hi none=((its.drop (HT.oh its.length 0 lo)).take (HT.oh its.length its.length hi - HT.oh its.length 0 lo)).toArray:=by
 obtain ⟨h1,h2,h3⟩:=tS lo hi its.toArray.size
 unfold slicePick
 rw [h1,h2,h3]
 simp only [sliceRange_one,pick_run,List.size_toArray] <;> rfl
def Km (K:PySem.W.Frag):V→Option Int→Option Int→Hp→VK→Prop:=fun x lo hi H Q=> ∃ a xs,x= .ref a∧jw K H a xs∧∀ p,H p=none→Q (.ref p) (upd H p (.lst (CO xs lo hi)))
theorem CS:Mh X (Km X.K):=by
 intro pins s σ H x v vl vu lo hi sl Q I rx hs pl pu h
 obtain ⟨a,xs,rfl,hx,q⟩:=h
 cases rx
 obtain ⟨its,r,ht,hz⟩:=I.list hx
 have hlen:=r.length
 refine ⟨"list",_,slot_list_getitem.lookup,ht.isList.typeIs,?_⟩
 refine wpAny_getItem_list_slice ht.isList hs pl pu .none (by simp) ?_ (by rw [List.size_toArray] <;> omega)
 rw [qU,← hlen]
 refine ⟨.ref s.heap.objs.size,_,I.laid (t':=s.toks) (o:= .lst (CO xs lo hi)) (fun b ob q=>Heap.get?_push_of_some _ q) (Nat.le_refl _) ?_,rfl,q _ (I.hok.fresh (Nat.le_refl _))⟩
 exact ⟨Nat.le_trans (vp xs lo hi) hz,_,0,(r.drop (HT.oh xs.length 0 lo)).take (HT.oh xs.length xs.length hi - HT.oh xs.length 0 lo),Heap.get?_push_size _ rfl⟩
theorem tT:vm X (.builtin "len") (fun xs H Q=> ∃ p ys,xs= [.ref p]∧(jw X.K H p ys∨Cq X.K H p ys)∧Q (.int ys.length) H):=by
 intro pins s σ H xs us Q I r h
 obtain ⟨p,ys,rfl,hq,q⟩:=h
 obtain ⟨u,rfl,rx⟩:=vals1 r
 cases rx
 have hn:=wQ
 rcases hq with hq | hq
 ·obtain ⟨its,r',pl,hz⟩:=I.list hq
  have hlen:=r'.length
  exact Calls.call_len_list pl.isList (by simp only [List.size_toArray] <;> omega) ⟨.int ys.length,H,I.tok _,⟨s.toks+1,by rw [List.size_toArray,hlen]⟩,q⟩
 ·obtain ⟨its,r',pl,hz⟩:=I.tuple hq
  have hlen:=r'.length
  exact len_tuple pl (by simp only [List.size_toArray] <;> omega) ⟨.int ys.length,H,I.tok _,⟨s.toks+1,by rw [List.size_toArray,hlen]⟩,q⟩
theorem tU:vm X (.type "list") (fun xs H Q=> ∃ p ys,xs= [.ref p]∧(jw X.K H p ys∨Cq X.K H p ys)∧∀ l,H l=none→Q (.ref l) (upd H l (.lst ys))):=by
 intro pins s σ H xs us Q I r h
 obtain ⟨p,ys,rfl,hq,q⟩:=h
 obtain ⟨u,rfl,rx⟩:=vals1 r
 cases rx
 have fin:∀ (its:List Value),Vals ys its→ys.length≤sizeLine→∀ (h':Heap) (c':Nat),(∀ b o',s.heap.get? b=some o'→h'.get? b=some o')→
  h'.get? s.heap.objs.size=some { cls:= .type "list",dict:=none,data:= .seq its.toArray c',slots:= #[] }→EP X pins σ Q (.ref s.heap.objs.size) { s with heap:=h' }:=fun its r' hz h' c' kp e=>
  ⟨.ref s.heap.objs.size,_,I.laid (t':=s.toks) kp (Nat.le_refl _) (show dj X.prog X.w _ h' _ (.lst ys) from ⟨hz,its,c',r',e⟩),rfl,q _ (I.hok.fresh (Nat.le_refl _))⟩
 rcases hq with hq | hq
 ·obtain ⟨its,r',pl,hz⟩:=I.list hq
  have hlen:=r'.length
  obtain ⟨o,ho,hc,n,hd⟩:=pl.isList
  exact call_list_seq p (.inl rfl) ho hc hd (fun h' c' kp e=>fin its r' hz h' c' kp e) (by simp only [List.size_toArray] <;> omega)
 ·obtain ⟨its,r',pl,hz⟩:=I.tuple hq
  have hlen:=r'.length
  obtain ⟨o,ho,hc,n,hd⟩:=pl
  exact call_list_seq p (.inr rfl) ho hc hd (fun h' c' kp e=>fin its r' hz h' c' kp e) (by simp only [List.size_toArray] <;> omega)
def Kn (K:PySem.W.Frag) (T:String) (x:V) (H:Hp):Prop:=match x with
 | .str _=>T= "str"
 | .int _=>T= "int"
 | .ref p=>(T= "list"∧∃ xs,jw K H p xs)∨(T= "tuple"∧∃ o,K.lookup p=some o∧o.cls= .type "tuple"∧o.dict=none)∨
  (T= "dict"∧((∃ kvs,H p=some (.dK kvs))∨∃ kvs,H p=some (.dT kvs)))∨(T= "set"∧∃ S n,H p=some (.set S n))
 | _=>False
theorem AK {pins:List (Addr ×Obj)} {σ:St} {H:Hp} {s:Shared} {T:String} {x:V} {v:Value} (I:Inv X pins σ H s) (r:RelV x v) (ty:Kn X.K T x H) :
 s.TypeIs v T∧∀ a,v= .ref a→∃ ob,s.heap.get? a=some ob∧ob.dict=none:=by
 cases x with
 | str z=>
   obtain ⟨t,rfl⟩:=r
   cases (show T= "str" from ty)
   exact ⟨typeIs_str s z t,fun _ e=>nomatch e⟩
 | int i=>
   obtain ⟨t,rfl⟩:=r
   cases (show T= "int" from ty)
   exact ⟨typeIs_int s i t,fun _ e=>nomatch e⟩
 | ref p=>
   cases r
   rcases ty with ⟨rfl,xs,hq⟩ | ⟨rfl,o,hk,hc,hd⟩ | ⟨rfl,hk⟩ | ⟨rfl,S,n,hk⟩
   ·obtain ⟨its,_,pl,_⟩:=I.list hq
    refine ⟨pl.isList.typeIs,fun a e=>?_⟩
    cases e
    obtain ⟨o,n,e,c,hd,_⟩:=pl
    exact ⟨o,e,hd⟩
   ·refine ⟨⟨o,I.u7 p o hk,hc⟩,fun a e=>?_⟩
    cases e
    exact ⟨o,I.u7 _ o hk,hd⟩
   ·have z:∃ o,s.heap.get? p=some o∧o.ExactDict:=by
     rcases hk with ⟨kvs,hk⟩ | ⟨kvs,hk⟩
     ·obtain ⟨_,_,_,_,o,_,_,e,ex,_⟩:=I.hok p _ hk
      exact ⟨o,e,ex⟩
     ·obtain ⟨_,_,_,_,o,_,_,e,ex,_⟩:=I.hok p _ hk
      exact ⟨o,e,ex⟩
    obtain ⟨o,e,ex⟩:=z
    refine ⟨⟨o,e,ex.1⟩,fun a e2=>?_⟩
    cases e2
    exact ⟨o,e,ex.2.1⟩
   ·obtain ⟨o,_,_,_,e,ex,_⟩:=I.hok p _ hk
    refine ⟨⟨o,e,ex.1⟩,fun a e2=>?_⟩
    cases e2
    exact ⟨o,e,ex.2.1⟩
 | _=>exact False.elim ty
def HA (K:PySem.W.Frag) (T:String) (r:V→List V→Hp→VK→Prop) (to:TE):TE:=fun σ H Q=>to σ H fun x H1=>Kn K T x H1∧r x [] H1 Q
def Ko (K:PySem.W.Frag) (T:String) (r:V→List V→Hp→VK→Prop) (to:TE) (t:TA):TE:=fun σ H Q=>to σ H fun x H1=>Kn K T x H1∧t σ H1 fun xs H2=>r x xs H2 Q
variable {o e:Expr} {es:List Expr} {to:TE} {t:TA} {name:Str} {apos cpos:Pos} {T id:String} {r:V→List V→Hp→VK→Prop}
theorem Fj (pa:PlainAttrs T) (slot:Slot T name id) (hty:typeOf (.builtin id)=pure (.type "method_descriptor")) (hm:Mi X id r) (ho:PE X o to)
 (hbase:attributeBase o name X.env (eval o X.env)=eval o X.env:=by rfl) (hline:(apos.endLine == cpos.line)=true:=by rfl):PE X (.Call (.Attribute o name apos) [] [] cpos) (HA X.K T r to):=by
 intro pins s σ H Q I h
 refine wpAny_Call_method0_late hbase hline (cZ (ho pins s σ H _ I h) fun v s1 ⟨x,H1,I1,r1,ty,q1⟩=>?_)
 obtain ⟨h1,h2⟩:=AK I1 r1 ty
 exact ⟨T,id,pa,slot,hty,h1,h2,Calls.callWith_builtin rfl (PySem.evalArgs_none (hm pins s1 σ H1 x [] v [] Q I1 r1 .nil q1))⟩
theorem vq (pa:PlainAttrs T) (slot:Slot T name id) (hty:typeOf (.builtin id)=pure (.type "method_descriptor")) (hm:Mi X id r) (ho:PE X o to) (ha:PA X (e :: es) t)
 (hbase:attributeBase o name X.env (eval o X.env)=eval o X.env:=by rfl)
 (hfew:((backTo cpos (starEach (e :: es) X.env)).all (fun x=>!x.1) && (backToKw cpos (keywordEach [] X.env)).all (fun x=>x.1.isSome)
  && decide ((e :: es).length+([]:List Keyword).length+(if ([]:List Keyword).isEmpty then 0 else 1) < 30))=true:=by rfl)
 (hline:(apos.endLine == cpos.line)=true:=by rfl) (hs:starEach (e :: es) X.env=(false,eval e X.env) :: starEach es X.env:=by rfl) (hplain:(backTo cpos (starEach es X.env)).any (·.1)=false:=by rfl) :
 PE X (.Call (.Attribute o name apos) (e :: es) [] cpos) (Ko X.K T r to t):=by
 intro pins s σ H Q I h
 refine wpAny_Call_method_late hbase hfew hline rfl (cZ (ho pins s σ H _ I h) fun v s1 ⟨x,H1,I1,r1,ty,q1⟩=>?_)
 obtain ⟨h1,h2⟩:=AK I1 r1 ty
 refine ⟨T,id,pa,slot,hty,h1,h2,?_⟩
 have hA:=ha cpos pins s1 σ H1 _ I1 q1
 rw [hs] at hA ⊢
 refine Calls.callWith_builtin (by show (false || (backTo cpos (starEach es X.env)).any (·.1))=false;rw [hplain] <;> rfl) (Calls.evalArgs_plain ?_)
 exact cZ hA fun us s2 ⟨vs,H2,I2,r2,q2⟩=>hm pins s2 σ H2 x vs v us Q I2 r1 r2 q2
end
end L2
namespace L2
open PySem PySem.Spec PyProof.Rows
def Kp (X:Cx) (id:String) (r:V→List V→Hp→VK→Prop):Prop:=
 ∀ (pins:List (Addr ×Obj)) (s:Shared) (σ:St) (H:Hp) (x:V) (xs:List V) (v:Value) (us:List Value) (Q:VK),Inv X pins σ H s→RelV x v→Vals xs us→r x xs H Q→
   wpAny (model X.prog X.w) X.A (call (.builtin id) (v :: us)) (EP X pins σ Q) X.xe s
theorem Vals.one:∀ {x:V} {us:List Value},Vals [x] us→∃ u,us= [u]∧RelV x u
 | _,_,.cons r .nil=>⟨_,rfl,r⟩
theorem Vals.zero:∀ {us:List Value},Vals [] us→us= []
 | _,.nil=>rfl
theorem Vals.dropLast {xs:List V} {us:List Value} (h:Vals xs us):Vals xs.dropLast us.dropLast:=by
 induction h with
 | nil=>exact .nil
 | cons r t ih=>
   cases t with
   | nil=>exact .nil
   | cons q t'=>exact .cons r ih
theorem wR {α:Type} (l:List α):l.eraseIdx (l.length - 1)=l.dropLast:=by
 induction l with
 | nil=>rfl
 | cons a r ih=>
   cases r with
   | nil=>rfl
   | cons b r=>
     have e:(a :: b :: r).length - 1=((b :: r).length - 1)+1:=by
      have h1:(a :: b :: r).length=r.length+2:=rfl
      have h2:(b :: r).length=r.length+1:=rfl
      omega
     rw [e,List.eraseIdx_cons_succ,ih]
     all_goals rfl
section
variable {X:Cx} {pins:List (Addr ×Obj)} {σ:St} {H:Hp} {s:Shared} {l b:Addr} {xs ys zs:List V}
theorem Inv.Fl {its its':List Value} {n:Nat} {f:Array Value→Array Value} {t':Nat} (I:Inv X pins σ H s) (hH:H l=some (.lst xs))
 (e:s.heap.get? l=some { cls:= .type "list",data:= .seq its.toArray n }) (hf:f its.toArray=its'.toArray) (hv:Vals ys its') (hz:ys.length≤sizeLine) :
 Inv X pins σ (upd H l (.lst ys)) { s with heap:=s.heap.update l (Obj.mapSeq f),toks:=t' }:=by
 have q:=PySem.IsL.update e f
 rw [hf] at q
 refine I.write (x:=l) (e:=l) (by rw [hH];exact trivial) (.inl rfl) (fun b' u hb hu=>(Heap.get?_update_other s.heap (Obj.mapSeq f) (Ne.symm hb)).trans hu) ⟨_,q⟩ ?_
 exact ⟨hz,its',_,hv,q⟩
theorem Inv.Kq {its:List Value} {t':Nat} (I:Inv X pins σ H s) (hv:Vals ys its) (hz:ys.length≤sizeLine) :
 Inv X pins σ (upd H s.heap.objs.size (.lst ys)) { s with heap:=s.heap.push { cls:= .type "list",data:= .seq its.toArray },toks:=t' }:=
 I.laid (fun _ _ q=>Heap.get?_push_of_some _ q) (Nat.le_refl _) ⟨hz,its,0,hv,Heap.get?_push_size _ rfl⟩
theorem Inv.fresh (I:Inv X pins σ H s):H s.heap.objs.size=none:=I.hok.fresh (Nat.le_refl _)
theorem Inv.zy (I:Inv X pins σ H s) (hH:H l=some (.lst xs)):xs.length≤sizeLine∧∃ (its:List Value) (n:Nat),Vals xs its∧xs.length=its.length∧s.heap.get? l=some { cls:= .type "list",data:= .seq its.toArray n }:=by
 obtain ⟨z,its,n,r,e⟩:=I.hok l _ hH
 exact ⟨z,its,n,r,r.length,e⟩
theorem AL {n:Nat} (h:n≤sizeLine):Builtin.List.listTooLong n=false:=by
 unfold Builtin.List.listTooLong
 exact decide_eq_false (by omega)
end
section
variable {X:Cx}
def yi:V→List V→Hp→VK→Prop:=fun x vs H Q=> ∃ l xs y,x= .ref l∧vs= [y]∧H l=some (.lst xs)∧xs.length < sizeLine∧Q .bE (upd H l (.lst (xs ++ [y])))
theorem kO:Kp X "list.append" yi:=by
 intro pins s σ H x vs v us Q I rx rv h
 obtain ⟨l,xs,y,rfl,rfl,hH,hz,q⟩:=h
 cases rx
 obtain ⟨u,rfl,ru⟩:=rv.one
 obtain ⟨z,its,n,r,hl,e⟩:=I.zy hH
 refine call_meets F.slot_list_append ⟨_,e,rfl⟩ F.entry_list_append (F.args_list_append_2 _ _) (PySem.list_append l its.toArray n u (by rw [List.size_toArray];omega)) ⟨e,?_⟩
 refine ⟨.bE,_,I.Fl (its':=its ++ [u]) hH e (by simp) (r.append (.cons ru .nil)) ?_,rfl,q⟩
 rw [List.length_append,List.length_singleton]
 omega
def yj:V→List V→Hp→VK→Prop:=fun x vs H Q=> ∃ l b xs zs,x= .ref l∧vs= [.ref b]∧H l=some (.lst xs)∧H b=some (.lst zs)∧xs.length+zs.length≤sizeLine∧Q .bE (upd H l (.lst (xs ++ zs)))
theorem rZ:Kp X "list.extend" yj:=by
 intro pins s σ H x vs v us Q I rx rv h
 obtain ⟨l,b,xs,zs,rfl,rfl,hH,hB,hz,q⟩:=h
 cases rx
 obtain ⟨u,rfl,ru⟩:=rv.one
 cases ru
 obtain ⟨z,its,n,r,hl,e⟩:=I.zy hH
 obtain ⟨z2,its2,n2,r2,hl2,e2⟩:=I.zy hB
 have hsz:its.toArray.size+its2.toArray.size≤sizeLine:=by rw [List.size_toArray,List.size_toArray];omega
 have HB:¬ (!its.toArray.isEmpty && Builtin.List.listTooLong (its.toArray.size+its2.toArray.size))=true:=by
  rw [AL hsz,Bool.and_false]
  exact Bool.false_ne_true
 refine call_meets F.slot_list_extend ⟨_,e,rfl⟩ F.entry_list_extend (F.args_list_extend_2 _ _)
  (AutoSeq1.list_extend_list_list_0 l its.toArray n b its2.toArray n2 HB (by rw [List.size_toArray];omega) (by omega)) ⟨e,e2,?_⟩
 refine ⟨.bE,_,I.Fl (its':=its ++ its2) hH e (by simp) (r.append r2) ?_,rfl,q⟩
 rw [List.length_append]
 omega
def HC:V→List V→Hp→VK→Prop:=fun x vs H Q=> ∃ l xs y,x= .ref l∧vs= []∧H l=some (.lst xs)∧xs[xs.length - 1]?=some y∧Q y (upd H l (.lst xs.dropLast))
theorem Fo:Kp X "list.pop" HC:=by
 intro pins s σ H x vs v us Q I rx rv h
 obtain ⟨l,xs,y,rfl,rfl,hH,hy,q⟩:=h
 cases rx
 have NH:=rv.zero
 subst NH
 obtain ⟨z,its,n,r,hl,e⟩:=I.zy hH
 obtain ⟨u,hu,ru⟩:=r.get hy
 have hy':its.toArray[its.toArray.size - 1]?=some u:=by
  show its.toArray[its.length - 1]?=some u
  rw [← Array.getElem?_toList,← hl]
  exact hu
 refine call_meets F.slot_list_pop ⟨_,e,rfl⟩ F.entry_list_pop (F.args_list_pop_1 _) (MeetsSeq.list_pop_last l its.toArray n u hy' (by rw [List.size_toArray];omega)) ⟨e,?_⟩
 refine ⟨y,_,I.Fl (its':=its.dropLast) hH e ?_ r.dropLast ?_,ru,q⟩
 ·show its.toArray.eraseIdxIfInBounds (its.toArray.size - 1)=its.dropLast.toArray
  rw [List.size_toArray,List.eraseIdxIfInBounds_toArray,wR]
 ·rw [List.length_dropLast]
  omega
def Kr:R2:=fun x y H Q=> ∃ l b xs zs,x= .ref l∧y= .ref b∧H l=some (.lst xs)∧H b=some (.lst zs)∧xs.length+zs.length≤sizeLine∧∀ p,H p=none→Q (.ref p) (upd H p (.lst (xs ++ zs)))
theorem Fp:vh X (binaryOp .Add) Kr:=by
 intro pins s σ H x y v u Q I rx ry h
 obtain ⟨l,b,xs,zs,rfl,rfl,hH,hB,hz,q⟩:=h
 cases rx
 cases ry
 obtain ⟨z,its,n,r,hl,e⟩:=I.zy hH
 obtain ⟨z2,its2,n2,r2,hl2,e2⟩:=I.zy hB
 refine PySem.P.add_list e e2 ?_ (by rw [List.size_toArray,List.size_toArray];omega)
 have ea:its.toArray ++ its2.toArray=(its ++ its2).toArray:=by simp
 rw [ea]
 exact ⟨.ref _,_,I.Kq (t':=s.toks) (r.append r2) (by rw [List.length_append];omega),rfl,q _ I.fresh⟩
end
section
variable {prog:Program} {w:World} {A:Around} {E:Value→Shared→Prop} {s:Shared}
end
section
variable {X:Cx}
end
end L2
namespace Att
open PySem PySem.W PySem.Calls PyProof.Rows
theorem oO {P:Params} {h:Heap}:∀ (ns:List Int) (vs:List Value),WellAll P h vs (ns.map WData.int)→IntsAre vs ns:=by
 intro ns
 induction ns with
 | nil=>
   intro vs w
   rw [List.map_nil] at w
   cases w
   exact .nil
 | cons n ns ih=>
   intro vs w
   rw [List.map_cons] at w
   cases w with
   | cons a b=>
     cases a
     exact .cons _ _ (ih _ b)
theorem zA {l:OpenLaw} {n:Nat} (hn:l.most=some n) {P:Params} {h:Heap} {args:List WData} {vals:List Value}
 (hpre:l.row.toRowW.claim.pre args=true) (hwl:WellAll P h vals args) :
 ∃ a vs ns,vals= [Value.ref a]∧args= [WData.list (ns.map WData.int)]∧h.get? a=some { cls:= .type "list",data:= .seq vs.toArray }∧IntsAre vs ns∧ns.length≤n:=by
 have hsh:WShape.hasAll [] args [.list .int]=true:=(pre_splitW hpre).1
 have hc:l.pre.holds [] { args:=args }=true:=(pre_splitW hpre).2
 obtain ⟨d,r,rfl,h1,h2⟩:=hasAllW_cons hsh
 obtain rfl:=hasAllW_nil h2
 obtain ⟨xs,rfl,h3⟩:=hasW_list h1
 obtain ⟨ns,rfl⟩:=items_int h3
 have hlen:ns.length≤n:=by
  unfold OpenLaw.pre at hc
  have h4:(WTm.not (.lt (.lit (.int (n:Int))) (.len (.arg 0)))).holds [] { args:=[.list (ns.map .int)] }=true:=by
   have h4:=(holds_andW hc).1
   rw [hn] at h4
   exact h4
  have h5:=condW_of h4 (w_not (w_lt w_lit (w_len_list (w_arg rfl))))
  rw [List.length_map] at h5
  refine Nat.le_of_not_lt fun q=>?_
  have q':(n:Int) < ((ns.length:Nat):Int):=by omega
  first
   | (rw [decide_eq_true q'] at h5;exact absurd h5 (by decide))
   | (simp at h5;omega)
 cases hwl with
 | cons w1 w2=>
   cases w2
   cases w1 with
   | list ho hall=>exact ⟨_,_,ns,rfl,rfl,ho,oO ns _ hall,hlen⟩
theorem zB (l:OpenLaw) (args:List WData):l.row.toRowW.claim.post args (.bool true) args=true:=
 postW_of (r:=l.row.toRowW) (X:=(true == true))
  (show WShape.has [] (.bool true) .bool=true by first | rfl | decide | simp [WShape.has,WShape.arms,WShape.armsAll])
  (show (WTm.eq .res (.lit (.bool true))).value [] { args:=args,res:=some (.bool true),after:=args }=some (.bool (true == true)) from w_eq_bool (w_res rfl) w_lit) rfl
section
variable {prog:Program} {w:World} {A:Around} {E:Value→Shared→Prop} {s:Shared} {K:Frag}
end
end Att
namespace L2
open PySem PySem.Spec PyProof.Rows
theorem se:∀ {vs:List Value} {ns:List Int},IntsAre vs ns→Vals (ns.map V.int) vs
 | _,_,.nil=> .nil
 | _,_,.cons n t h=> .cons ⟨t,rfl⟩ (se h)
def CT (H:Hp):Prop:= ∀ b,H b=none∨∃ o xs,H b=some (.mh o (.lst xs))
theorem AM {P:Program} {w:World} {K:PySem.W.Frag} {mg mb:Str→Option Value} {CX:AF} {k:Nat} {fa a:Addr} {fd:FuncData} {x:Str} {sp:Sp} {s₁:Shared} {vs:List Value} {ns:List Int}
 (KX:K.In s₁.heap) (hns:s₁.heap.Ns mainGlobals mg) (hb:s₁.heap.Ns builtinsNs mb) (NI:∀ x:Str,x≠"__name__"→mb x=bootBuiltins x) (hlim:s₁.heap.NoLimit) (hg:s₁.gens= #[])
 (ha:s₁.heap.get? a=some { cls:= .type "list",data:= .seq vs.toArray }) (hi:IntsAre vs ns) (hl:ns.length≤sizeLine) (hr:gZ k callerA)
 (F:∀ base:Heap,K.In base→base.Ns mainGlobals mg→cg P w K mg base CX k fa fd [x] sp) (hbind:∀ (s:Shared) (u:Value),BindsTo s fd ⟨[u],[]⟩ [(x,u)])
 (D3:∀ H:Hp,CT H→jw K H a (ns.map V.int)→sp [.ref a] H (fun v _=>v= .bl true) fun _ _ _=>False)
 (Ks:∀ H e s',CX [] H s₁ (fun _ _ _=>False) e s'→False) :
 codeAny (model P w) callerA (.call (.ref fa) ⟨[.ref a],[]⟩) (fun r s'=>r= .ok (.ret (.bool true))∧OldK s₁.heap s'.heap∧s'.os=s₁.os∧AllBare s'.gens) s₁:=by
 have rv:=se hi
 have Ku:=hi.length
 have core:∀ H:Hp,CT H→jw K H a (ns.map V.int)→jN P w H s₁.heap→(∀ b,H b≠none→b=a)→(H a≠none→K.lookup a=none)→
  codeAny (model P w) callerA (.call (.ref fa) ⟨[.ref a],[]⟩) (fun r s'=>r= .ok (.ret (.bool true))∧OldK s₁.heap s'.heap∧s'.os=s₁.os∧AllBare s'.gens) s₁:=by
  intro H hO hS hok hA hK
  have yk:∀ {b:Addr} {o:Obj},s₁.heap.get? b=some o→H b=none→(tR s₁.heap H).get? b=some o:=fun e n=>As e n
  have Hw:∀ {b:Addr} {o:Obj} {es:Array DictEntry} {ep:Nat},s₁.heap.get? b=some o→o.data= .dict es ep→H b=none:=fun {b o es ep} e d=>by
   cases q:H b with
   | none=>rfl
   | some u=>
     have e':b=a:=hA b (by rw [q];simp)
     subst e'
     rw [ha] at e;cases e
     have d':Data.seq vs.toArray _=Data.dict es ep:=d
     cases d'
  have Jo:∀ {b:Addr} {m:Str→Option Value},s₁.heap.Ns b m→(tR s₁.heap H).Ns b m:=fun {b m} ⟨o,es,ep,e,d,r⟩=>⟨o,es,ep,yk e (Hw e d),d,r⟩
  have Mj:K.In (tR s₁.heap H):=fun b o e=>yk (KX b o e) (by
   cases q:H b with
   | none=>rfl
   | some u=>
     have e':b=a:=hA b (by rw [q];simp)
     subst e'
     rw [hK (by rw [q];simp)] at e;cases e)
  have hM:Mod K mg (tR s₁.heap H):=⟨Mj,Jo hns,⟨mb,Jo hb,NI⟩,let ⟨mc,h1,h2⟩:=hlim;⟨mc,Jo h1,h2⟩⟩
  have e0:CL P w K mg (tR s₁.heap H) callerA [] s₁ H:=⟨rfl,hM,fun b o e=>Cy e,Nat.le_of_eq (zj _ _),trivial,fun b hb=>absurd (show b∈([]:List Addr) from hb) (by simp),hok,.of_eq hg⟩
  refine codeAny_mono ((F _ Mj (Jo hns)).run callerA [] s₁ H ⟨[.ref a],[]⟩ [.ref a] [.ref a] _ _ hr e0 (hbind s₁ (.ref a)) (.cons rfl .nil) (D3 H hO hS)) fun r s' h=>?_
  cases r with
  | error e=>exact (Ks H e s' h).elim
  | ok fl=>
    cases fl with
    | next=>exact False.elim h
    | brk=>exact False.elim h
    | cont=>exact False.elim h
    | ret u=>
      obtain ⟨v,H',os,bare,un,Kv,r',q⟩:=h
      have q':v= .bl true:=q
      subst q'
      obtain rfl:u=Value.bool true:=r'
      refine ⟨rfl,OldK.of_keep fun b o e=>?_,os,bare⟩
      cases q:H b with
      | none=>exact un.keep b o e q (by intro z;exact absurd (show b∈([]:List Addr) from z) (by simp)) (by simp)
      | some u=>
        rcases hO b with z | ⟨ob,xs,z⟩
        ·rw [q] at z;cases z
        ·have z2:=un.tQ b ob _ z
         obtain ⟨e1,_⟩:=hok b _ z
         obtain ⟨e2,_⟩:=Kv b _ z2
         rw [e] at e1;cases e1
         exact e2
 cases hk:K.lookup a with
 | some o=>
   have e:=KX a o hk
   rw [ha] at e
   cases e
   refine core (fun _=>none) (fun _=> .inl rfl) (.inr ⟨_,vs.toArray,_,hk,rfl,rfl,rfl,by rw [List.size_toArray,Ku];exact hl,by simpa using rv⟩) (fun b u z=>by have z':(none:Option HO)=some u:=z;cases z') (fun b z=>absurd rfl z) fun z=>absurd rfl z
 | none=>
   refine core (fun b=>if b=a then some (.mh { cls:= .type "list",data:= .seq vs.toArray } (.lst (ns.map V.int))) else none) (fun b=>?_) (.inl (.inr ⟨{ cls:= .type "list",data:= .seq vs.toArray },if_pos rfl⟩)) (fun b u z=>?_) (fun b z=>?_) fun _=>hk
   ·by_cases hb:b=a
    ·exact .inr ⟨_,_,if_pos hb⟩
    ·exact .inl (if_neg hb)
   ·by_cases hb:b=a
    ·have z':=(if_pos hb).symm.trans z
     cases z'
     subst hb
     exact ⟨ha,by rw [List.length_map];exact hl,vs,_,rv,ha⟩
    ·have z':=(if_neg hb).symm.trans z
     cases z'
   ·by_cases hb:b=a
    ·exact hb
    ·exact absurd (if_neg hb) z
end L2
namespace L2
open PySem PySem.Spec PyProof.Rows
end L2
namespace L2
open PySem PySem.Spec PyProof.Rows
def kP (s:Stmt):Arguments:=match s with
 | .FunctionDef _ a _ _ _ _ _ _ _ _=>a
 | _=>{ posonlyargs:=[],args:=[],vararg:=none,kwonlyargs:=[],kw_defaults:=[],kwarg:=none,defaults:=[] }
def fW (s:Stmt):List Stmt:=match s with
 | .FunctionDef _ _ b _ _ _ _ _ _ _=>b
 | _=>[]
def av (s:Stmt):Scope:=match s with
 | .FunctionDef _ _ _ _ _ _ sc _ _ _=>sc
 | _=>{ kind:= .function,names:=[],isGenerator:=false,isCoroutine:=false }
abbrev fE:AF:=fun _ _ _ _ _ _=>False
abbrev E0:XK:=fun _ _ _=>False
theorem D5 {X:Cx}:Passes fE X E0:=fun _ _ _ _ _ _ _ h=>h.elim
structure jx (K:PySem.W.Frag) (x qual:Str) (st:Stmt) (f:Addr) (fd:FuncData):Prop where
 ex:∃ (oc:Value) (od:Option Addr) (kV doc pm:Value) (an:Option Addr) (cdv ct:Value) (osl:Array (Option Value)),
  fd=PySem.W.fnOf x qual (kP st) (fW st) (av st) .none kV doc pm an cdv ct∧K.lookup f=some ⟨oc,od,.func fd,osl⟩∧PySem.W.codeIn K cdv qual=true
 kp:PySem.W.keepIn K (.ref f)=true
section
variable {P:Program} {w:World} {K:PySem.W.Frag} {mg:Str→Option Value} {base:Heap}
theorem jx.ok {x qual:Str} {st:Stmt} {f:Addr} {fd:FuncData} {N ps:List Str} {k:Nat} {sp:Sp} (F:jx K x qual st f fd) (S:aO N ps (av st)) (len:∀ vs H Q E,sp vs H Q E→vs.length=ps.length)
 (hbody:∀ (cdv:Value) (A:Around) (outer:List Env) (s:Shared) (H:Hp) (vs:List V) (Q:VK) (E:XK),gZ k (A.deeper (envOfC qual (av st) s.heap.objs.size f cdv))→sp vs H Q E→
  ∃ t,wN (oN fE P w K mg base N qual (av st) f cdv A outer s H E).Cr (fW st) t∧t { nx:=fun _ H'=>Q .bE H',rt:=Q } (start N vs) H):cg P w K mg base fE (k+1) f fd ps sp:=by
 obtain ⟨oc,od,kV,doc,pm,an,cdv,ct,osl,rfl,lk,hcd⟩:=F.ex
 refine Hx lk hcd S len fun A outer s H vs Q E hr D3=>?_
 obtain ⟨t,h,q⟩:=hbody cdv A outer s H vs Q E hr D3
 exact ⟨t,h.Cr,q⟩
theorem jx.binds {x qual:Str} {st:Stmt} {f:Addr} {fd:FuncData} {ps:List Str} (F:jx K x qual st f fd)
 (h:∀ (kV doc pm:Value) (an:Option Addr) (cdv ct:Value) (us:List Value),us.length=ps.length→bindArgs (PySem.W.fnOf x qual (kP st) (fW st) (av st) .none kV doc pm an cdv ct) ⟨us,[]⟩=pure (ps.zip us)):Binds K fd ps []:=by
 obtain ⟨oc,od,kV,doc,pm,an,cdv,ct,osl,rfl,lk,hcd⟩:=F.ex
 exact .all (h kV doc pm an cdv ct)
end
section
variable {X:Cx}
end
theorem bD {c A B:Prop} [Decidable c] (h1:c→A) (h2:¬ c→B):if c then A else B:=by
 by_cases h:c
 ·rw [if_pos h]
  exact h1 h
 ·rw [if_neg h]
  exact h2 h
end L2
set_option maxHeartbeats 4000000
namespace L3
open PySem PySem.Spec PyProof.Rows L2
abbrev St:=L2.St
inductive D where
 | bE | bl (b:Bool) | int (i:Int) | str (x:Str) | ty (n:String) | ref (a:Addr) | tup (xs:List D) | tV (xs:List D) | D6 (n:String) | exc (C:Addr) (nm:Str) (xs:List D)
def Kl (K:PySem.W.Frag) (a:Addr) (xs:List V):Prop:=
 ∃ (o:Obj) (its:Array Value) (n:Nat),K.lookup a=some o∧o.cls= .type "list"∧o.dict=none∧o.data= .seq its n∧its.size≤sizeLine∧Vals xs its.toList
def Fz (K:PySem.W.Frag) (H:Hp) (a:Addr) (xs:List V):Prop:=(∃ o,H a=some (.mh o (.lst xs)))∨Kl K a xs
theorem Fz.sq {K:PySem.W.Frag} {H:Hp} {a:Addr} {xs:List V} (h:Fz K H a xs):jw K H a xs:=by
 rcases h with ⟨o,h⟩ | h
 ·exact .inl (.inr ⟨o,h⟩)
 ·exact .inr h
abbrev xO (C t:Addr):Obj:={ cls:= .ref C,data:= .fields #[.ref t,.none,.none,.none,.bool false,.none] }
abbrev yO (C t d:Addr):Obj:={ cls:= .ref C,dict:=some d,data:= .fields #[.ref t,.none,.none,.none,.bool false,.none] }
def Xo (H:Hp) (C:Addr) (nm:Str) (o:Obj) (xs:List V):Prop:=(xs= []∧∃ t,o=xO C t)∨∃ t dx od vx,xs= [vx]∧o=yO C t dx∧H dx=some (.mh od (.xd [(nm,vx)]))
mutual
def Dat (K:PySem.W.Frag) (H:Hp):D→V→Prop
 | .bE,v=>v= .bE
 | .bl b,v=>v= .bl b
 | .int i,v=>v= .int i
 | .str x,v=>v= .str x
 | .ty n,v=>v= .ty n
 | .ref a,v=>v= .ref a
 | .tup ds,v=> ∃ a xs,v= .ref a∧H a=some (.tup xs)∧aG K H ds xs
 | .tV ds,v=> ∃ a xs,v= .ref a∧Fz K H a xs∧aG K H ds xs
 | .D6 n,v=> ∃ a o u,v= .ref a∧H a=some (.mh o u)∧o.cls= .type n
 | .exc C nm ds,v=> ∃ a o u xs,v= .ref a∧H a=some (.mh o u)∧Xo H C nm o xs∧aG K H ds xs
def aG (K:PySem.W.Frag) (H:Hp):List D→List V→Prop
 | [],xs=>xs= []
 | d :: ds,xs=> ∃ v vs,xs=v :: vs∧Dat K H d v∧aG K H ds vs
end
structure Ext (H H':Hp):Prop where
 tup:∀ b xs,H b=some (.tup xs)→H' b=some (.tup xs)
 mh:∀ b o u,H b=some (.mh o u)→H' b=some (.mh o u)
theorem Fz.mono {K:PySem.W.Frag} {H H':Hp} {a:Addr} {xs:List V} (e:Ext H H') (h:Fz K H a xs):Fz K H' a xs:=by
 rcases h with ⟨o,h⟩ | h
 ·exact .inl ⟨o,e.mh _ _ _ h⟩
 ·exact .inr h
theorem Xo.mono {H H':Hp} {C:Addr} {nm:Str} {o:Obj} {xs:List V} (e:Ext H H') (h:Xo H C nm o xs):Xo H' C nm o xs:=by
 rcases h with h | ⟨t,dx,od,vx,e1,e2,e3⟩
 ·exact .inl h
 ·exact .inr ⟨t,dx,od,vx,e1,e2,e.mh _ _ _ e3⟩
mutual
theorem Dat.mono {K:PySem.W.Frag} {H H':Hp} (e:Ext H H'):∀ (d:D) (v:V),Dat K H d v→Dat K H' d v
 | .bE,v,h=>by simpa [Dat] using h
 | .bl b,v,h=>by simpa [Dat] using h
 | .int i,v,h=>by simpa [Dat] using h
 | .str x,v,h=>by simpa [Dat] using h
 | .ty n,v,h=>by simpa [Dat] using h
 | .ref a,v,h=>by simpa [Dat] using h
 | .tup ds,v,h=>by
   obtain ⟨a,xs,e1,e2,e3⟩:=(show ∃ a xs,v= .ref a∧H a=some (.tup xs)∧aG K H ds xs from by simpa only [Dat] using h)
   have:=aG.mono e ds xs e3
   simp only [Dat]
   exact ⟨a,xs,e1,e.tup _ _ e2,this⟩
 | .tV ds,v,h=>by
   obtain ⟨a,xs,e1,e2,e3⟩:=(show ∃ a xs,v= .ref a∧Fz K H a xs∧aG K H ds xs from by simpa only [Dat] using h)
   have:=aG.mono e ds xs e3
   simp only [Dat]
   exact ⟨a,xs,e1,e2.mono e,this⟩
 | .D6 n,v,h=>by
   obtain ⟨a,o,u,e1,e2,e3⟩:=(show ∃ a o u,v= .ref a∧H a=some (.mh o u)∧o.cls= .type n from by simpa only [Dat] using h)
   simp only [Dat]
   exact ⟨a,o,u,e1,e.mh _ _ _ e2,e3⟩
 | .exc C nm ds,v,h=>by
   obtain ⟨a,o,u,xs,e1,e2,e3,e4⟩:=(show ∃ a o u xs,v= .ref a∧H a=some (.mh o u)∧Xo H C nm o xs∧aG K H ds xs from by simpa only [Dat] using h)
   have:=aG.mono e ds xs e4
   simp only [Dat]
   exact ⟨a,o,u,xs,e1,e.mh _ _ _ e2,e3.mono e,this⟩
theorem aG.mono {K:PySem.W.Frag} {H H':Hp} (e:Ext H H'):∀ (ds:List D) (xs:List V),aG K H ds xs→aG K H' ds xs
 | [],xs,h=>by simpa [aG] using h
 | d :: ds,xs,h=>by
   obtain ⟨v,vs,e1,e2,e3⟩:=(show ∃ v vs,xs=v :: vs∧Dat K H d v∧aG K H ds vs from by simpa only [aG] using h)
   have h1:=Dat.mono e d v e2
   have h2:=aG.mono e ds vs e3
   simp only [aG]
   exact ⟨v,vs,e1,h1,h2⟩
end
section
variable {K:PySem.W.Frag} {H:Hp}
theorem cM {v:V}:Dat K H .bE v↔v= .bE:=by simp only [Dat]
theorem bA {b:Bool} {v:V}:Dat K H (.bl b) v↔v= .bl b:=by simp only [Dat]
theorem aJ {i:Int} {v:V}:Dat K H (.int i) v↔v= .int i:=by simp only [Dat]
theorem fX {x:Str} {v:V}:Dat K H (.str x) v↔v= .str x:=by simp only [Dat]
theorem wU {n:String} {v:V}:Dat K H (.ty n) v↔v= .ty n:=by simp only [Dat]
theorem aV {a:Addr} {v:V}:Dat K H (.ref a) v↔v= .ref a:=by simp only [Dat]
theorem bP {ds:List D} {v:V}:Dat K H (.tup ds) v↔∃ a xs,v= .ref a∧H a=some (.tup xs)∧aG K H ds xs:=by simp only [Dat]
theorem mC {ds:List D} {v:V}:Dat K H (.tV ds) v↔∃ a xs,v= .ref a∧Fz K H a xs∧aG K H ds xs:=by simp only [Dat]
theorem ym {n:String} {v:V}:Dat K H (.D6 n) v↔∃ a o u,v= .ref a∧H a=some (.mh o u)∧o.cls= .type n:=by simp only [Dat]
theorem CU {C:Addr} {nm:Str} {ds:List D} {v:V}:Dat K H (.exc C nm ds) v↔∃ a o u xs,v= .ref a∧H a=some (.mh o u)∧Xo H C nm o xs∧aG K H ds xs:=by simp only [Dat]
theorem aP {xs:List V}:aG K H [] xs↔xs= []:=by simp only [aG]
theorem aH {d:D} {ds:List D} {xs:List V}:aG K H (d :: ds) xs↔∃ v vs,xs=v :: vs∧Dat K H d v∧aG K H ds vs:=by simp only [aG]
theorem aG.length:∀ {ds:List D} {xs:List V},aG K H ds xs→ds.length=xs.length
 | [],xs,h=>by rw [aP.mp h];rfl
 | d :: ds,xs,h=>by
   obtain ⟨v,vs,rfl,_,h⟩:=aH.mp h
   simp [aG.length h]
theorem aG.get:∀ {ds:List D} {xs:List V} {i:Nat} {d:D},aG K H ds xs→ds[i]?=some d→∃ v,xs[i]?=some v∧Dat K H d v
 | [],xs,_,_,_,e=>by simp at e
 | d :: ds,xs,i,d',h,e=>by
   obtain ⟨v,vs,rfl,h1,h2⟩:=aH.mp h
   cases i with
   | zero=>simp at e;subst e;exact ⟨v,rfl,h1⟩
   | succ i=>exact aG.get (i:=i) h2 (by simpa using e)
theorem aG.back:∀ {ds:List D} {xs:List V} {i:Nat} {v:V},aG K H ds xs→xs[i]?=some v→∃ d,ds[i]?=some d∧Dat K H d v
 | [],xs,i,v,h,e=>by rw [aP.mp h] at e;simp at e
 | d :: ds,xs,i,v',h,e=>by
   obtain ⟨v,vs,rfl,h1,h2⟩:=aH.mp h
   cases i with
   | zero=>simp at e;subst e;exact ⟨d,rfl,h1⟩
   | succ i=>exact aG.back (i:=i) h2 (by simpa using e)
theorem aG.append:∀ {ds es:List D} {xs ys:List V},aG K H ds xs→aG K H es ys→aG K H (ds ++ es) (xs ++ ys)
 | [],es,xs,ys,h,h'=>by rw [aP.mp h];exact h'
 | d :: ds,es,xs,ys,h,h'=>by
   obtain ⟨v,vs,rfl,h1,h2⟩:=aH.mp h
   exact aH.mpr ⟨v,vs ++ ys,rfl,h1,h2.append h'⟩
theorem aG.one {d:D} {v:V} (h:Dat K H d v):aG K H [d] [v]:=aH.mpr ⟨v,[],rfl,h,aP.mpr rfl⟩
end
inductive MO where
 | lst (ds:List D)
 | Kw (kvs:List (List (List Int) ×D))
abbrev Mp:=Addr→Option MO
def aC (M:Mp) (a:Addr) (o:MO):Mp:=fun b=>if b=a then some o else M b
def HE:Mp:=fun _=>none
theorem ai {M:Mp} {a:Addr} {o:MO}:aC M a o a=some o:=by unfold aC;rw [if_pos rfl]
theorem bC {M:Mp} {a b:Addr} {o:MO} (h:b≠a):aC M a o b=M b:=by unfold aC;rw [if_neg h]
theorem mD {M:Mp} {a:Addr} {o u:MO}:aC (aC M a o) a u=aC M a u:=by
 funext b;unfold aC;split <;> rfl
theorem az {M:Mp} {a b:Addr} {o u:MO} (h:M b=some o) (n:M a=none):aC M a u b=some o:=by
 rw [bC (fun e=>by subst e;rw [h] at n;cases n)];exact h
def Le (M M':Mp):Prop:= ∀ a o,M a=some o→M' a=some o
theorem Le.refl (M:Mp):Le M M:=fun _ _ h=>h
theorem Le.trans {M M1 M2:Mp} (a:Le M M1) (b:Le M1 M2):Le M M2:=fun c o h=>b c o (a c o h)
theorem Le.new {M:Mp} {a:Addr} {o:MO} (n:M a=none):Le M (aC M a o):=fun _ _ h=>az h n
def NJ (ks:List (List Int)):Int:=reduceHash (Builtin.Tuple.tupleHashOf (ks.map fun k=>reduceHash (Builtin.Tuple.tupleHashOf (k.map hashInt))))
abbrev DX:=List (List (List Int) ×Addr ×Value)
def Kx (x:List (List Int) ×Addr ×Value):DictEntry:=⟨NJ x.1,.ref x.2.1,x.2.2⟩
def Ky (a:Addr) (xs:DX):Heap→Prop:=fun h=> ∃ o es ep,h.get? a=some o∧o.ExactDict∧o.data= .dict es ep∧es.toList=xs.map Kx
def kD (k:List (List Int)):D:= .tup (k.map fun l=> .tup (l.map .int))
def CV (K:PySem.W.Frag) (H:Hp) (p:List (List Int) ×D) (x:List (List Int) ×Addr ×Value):Prop:=p.1=x.1∧Dat K H (kD p.1) (.ref x.2.1)∧∃ v,Dat K H p.2 v∧RelV v x.2.2
theorem CV.mono {K:PySem.W.Frag} {H H':Hp} (e:Ext H H') {p:List (List Int) ×D} {x:List (List Int) ×Addr ×Value} (h:CV K H p x):CV K H' p x:=by
 obtain ⟨h1,h2,v,h3,h4⟩:=h
 exact ⟨h1,Dat.mono e _ _ h2,v,Dat.mono e _ _ h3,h4⟩
def GR (K:PySem.W.Frag) (H:Hp) (a:Addr):MO→Prop
 | .lst ds=> ∃ xs,H a=some (.lst xs)∧aG K H ds xs
 | .Kw kvs=> ∃ xs:DX,H a=some (.ext (Ky a xs))∧(a == sysModules)=false∧(xs.map (·.1)).Nodup∧Paired (CV K H) kvs xs
theorem GR.mono {K:PySem.W.Frag} {H H':Hp} {a:Addr} {o:MO} (h:GR K H a o) (e:Ext H H') (s:∀ u,H a=some u→H' a=some u):GR K H' a o:=by
 cases o with
 | lst ds=>
   obtain ⟨xs,e1,e2⟩:=h
   exact ⟨xs,s _ e1,aG.mono e _ _ e2⟩
 | Kw kvs=>
   obtain ⟨xs,e1,y,nd,p⟩:=h
   exact ⟨xs,s _ e1,y,nd,Paired.EG p fun _ _ z=>z.mono e⟩
theorem GR.has {K:PySem.W.Frag} {H:Hp} {a:Addr} {o:MO} (h:GR K H a o):∃ u,H a=some u∧((∃ xs,u= .lst xs)∨∃ φ,u= .ext φ):=by
 cases o with
 | lst ds=>
   obtain ⟨xs,e1,_⟩:=h
   exact ⟨_,e1,.inl ⟨_,rfl⟩⟩
 | Kw kvs=>
   obtain ⟨xs,e1,_⟩:=h
   exact ⟨_,e1,.inr ⟨_,rfl⟩⟩
def cy (K:PySem.W.Frag) (H:Hp) (M:Mp):Prop:= ∀ a o,M a=some o→GR K H a o
theorem cy.no {K:PySem.W.Frag} {H:Hp}:cy K H HE:=fun _ _ h=>by cases h
theorem cy.le {K:PySem.W.Frag} {H:Hp} {M M':Mp} (h:cy K H M') (l:Le M M'):cy K H M:=fun a o e=>h a o (l a o e)
theorem cy.lst {K:PySem.W.Frag} {H:Hp} {M:Mp} {a:Addr} {ds:List D} (h:cy K H M) (e:M a=some (.lst ds)):∃ xs,H a=some (.lst xs)∧aG K H ds xs:=h a _ e
theorem cy.free {K:PySem.W.Frag} {H:Hp} {M:Mp} {a:Addr} (h:cy K H M) (e:H a=none):M a=none:=by
 cases q:M a with
 | none=>rfl
 | some o=>
   obtain ⟨u,e',_⟩:=(h a o q).has
   rw [e] at e';cases e'
theorem cy.AN {K:PySem.W.Frag} {H:Hp} {M:Mp} {a:Addr} {u:HO} (h:cy K H M) (e:H a=some u) (n:∀ xs,u≠ .lst xs) (n2:∀ φ,u≠ .ext φ:=by intro _ z;cases z):M a=none:=by
 cases q:M a with
 | none=>rfl
 | some o=>
   obtain ⟨u',e',h'⟩:=(h a o q).has
   rw [e] at e'
   cases e'
   rcases h' with ⟨xs,z⟩ | ⟨φ,z⟩
   ·exact absurd z (n xs)
   ·exact absurd z (n2 φ)
def Fr (M:Mp) (H:Hp) (M':Mp) (H':Hp):Prop:= ∀ b o,M b=none→H b=some o→H' b=some o∧M' b=none
theorem Fr.refl (M:Mp) (H:Hp):Fr M H M H:=fun _ _ n e=>⟨e,n⟩
theorem Fr.trans {M M1 M2:Mp} {H H1 H2:Hp} (a:Fr M H M1 H1) (b:Fr M1 H1 M2 H2):Fr M H M2 H2:=fun c o n e=>
 let ⟨e1,n1⟩:=a c o n e
 b c o n1 e1
theorem Fr.le {M M1 M2:Mp} {H H1:Hp} (a:Fr M H M1 H1) (l:Le M2 M1):Fr M H M2 H1:=fun b o n e=>by
 obtain ⟨e1,n1⟩:=a b o n e
 refine ⟨e1,?_⟩
 cases q:M2 b with
 | none=>rfl
 | some u=>rw [l b u q] at n1;cases n1
theorem Fr.ext {K:PySem.W.Frag} {M M':Mp} {H H':Hp} (f:Fr M H M' H') (r:cy K H M):Ext H H':=
 ⟨fun b xs e=>(f b _ (r.AN e (fun _ z=>by cases z)) e).1,fun b o u e=>(f b _ (r.AN e (fun _ z=>by cases z)) e).1⟩
theorem Ext.new {H:Hp} {p:Addr} {o:HO} (n:H p=none):Ext H (upd H p o):=
 ⟨fun b xs e=>by rw [aY (bV e n)];exact e,fun b o' u e=>by rw [aY (bV e n)];exact e⟩
theorem Fr.new {M M':Mp} {H:Hp} {p:Addr} {o:HO} (n:H p=none) (h:∀ b,b≠p→M' b=M b):Fr M H M' (upd H p o):=fun b u m e=>by
 have hb:b≠p:=bV e n
 rw [aY hb,h b hb]
 exact ⟨e,m⟩
theorem Fr.write {K:PySem.W.Frag} {M:Mp} {H:Hp} {p:Addr} {o:HO} {u:MO} {v:MO} (m:M p=some u):Fr M H (aC M p v) (upd H p o):=fun b w n e=>by
 have hb:b≠p:=fun z=>by subst z;rw [m] at n;cases n
 rw [aY hb,bC hb]
 exact ⟨e,n⟩
theorem cy.new {K:PySem.W.Frag} {M:Mp} {H:Hp} {p:Addr} {o:HO} (r:cy K H M) (n:H p=none):cy K (upd H p o) M:=fun a u e=>
 (r a u e).mono (Ext.new n) fun v q=>by rw [aY (bV q n)];exact q
theorem Ext.jR {H:Hp} {p:Addr} {xs ys:List V} (h:H p=some (.lst xs)):Ext H (upd H p (.lst ys)):=
 ⟨fun b zs e=>by rw [aY (DV e h (by intro z;cases z))];exact e,fun b o u e=>by rw [aY (DV e h (by intro z;cases z))];exact e⟩
theorem cy.newL {K:PySem.W.Frag} {M:Mp} {H:Hp} {p:Addr} {xs:List V} {ds:List D} (r:cy K H M) (n:H p=none) (d:aG K H ds xs):cy K (upd H p (.lst xs)) (aC M p (.lst ds)):=fun a u e=>by
 by_cases ha:a=p
 ·subst ha
  rw [ai] at e;cases e
  exact ⟨xs,dW,aG.mono (Ext.new n) _ _ d⟩
 ·rw [bC ha] at e
  exact r.new n a u e
theorem cy.jR {K:PySem.W.Frag} {M:Mp} {H:Hp} {p:Addr} {xs ys:List V} {ds:List D} (r:cy K H M) (h:H p=some (.lst xs)) (d:aG K H ds ys):cy K (upd H p (.lst ys)) (aC M p (.lst ds)):=fun a u e=>by
 by_cases ha:a=p
 ·subst ha
  rw [ai] at e;cases e
  exact ⟨ys,dW,aG.mono (Ext.jR h) _ _ d⟩
 ·rw [bC ha] at e
  exact (r a u e).mono (Ext.jR h) fun v q=>by rw [aY ha];exact q
abbrev En:=List (Option D)
structure Rep (K:PySem.W.Frag) (H:Hp) (σ:St) (ρ:En) (M:Mp):Prop where
 env:∀ (i:Nat) d,ρ[i]?=some (some d)→∃ v,σ[i]?=some (some v)∧Dat K H d v
 len:ρ.length=σ.length
 mem:cy K H M
theorem Rep.go {K:PySem.W.Frag} {H H':Hp} {σ:St} {ρ:En} {M M':Mp} (r:Rep K H σ ρ M) (f:Fr M H M' H') (r':cy K H' M'):Rep K H' σ ρ M':=
 ⟨fun i d e=>let ⟨v,e1,e2⟩:=r.env i d e;⟨v,e1,Dat.mono (f.ext r.mem) _ _ e2⟩,r.len,r'⟩
theorem Rep.set {K:PySem.W.Frag} {H:Hp} {σ:St} {ρ:En} {M:Mp} {i:Nat} {d:D} {v:V} (r:Rep K H σ ρ M) (h:Dat K H d v):Rep K H (σ.set i (some v)) (ρ.set i (some d)) M:=by
 refine ⟨fun j e q=>?_,by simp [r.len],r.mem⟩
 by_cases hj:i=j
 ·subst hj
  by_cases hl:i < ρ.length
  ·rw [List.getElem?_set_self hl] at q
   cases q
   exact ⟨v,List.getElem?_set_self (by rw [← r.len];exact hl),h⟩
  ·rw [List.getElem?_eq_none (by simp;omega)] at q;cases q
 ·rw [List.getElem?_set_ne hj] at q ⊢
  exact r.env j e q
abbrev DK:=D→Mp→Prop
abbrev c6:=En→Mp→DK→Prop
abbrev kW:=En→Mp→(Bool→Mp→Prop)→Prop
abbrev qQ:=En→Mp→(List D→Mp→Prop)→Prop
def Post (K:PySem.W.Frag) (M:Mp) (H:Hp) (Q:DK):VK:=fun v H'=> ∃ d M',Fr M H M' H'∧Dat K H' d v∧cy K H' M'∧Q d M'
def oi (K:PySem.W.Frag) (M:Mp) (H:Hp) (Q:Bool→Mp→Prop):Bool→Hp→Prop:=fun b H'=> ∃ M',Fr M H M' H'∧cy K H' M'∧Q b M'
def D7 (K:PySem.W.Frag) (M:Mp) (H:Hp) (Q:List D→Mp→Prop):List V→Hp→Prop:=fun vs H'=> ∃ ds M',Fr M H M' H'∧aG K H' ds vs∧cy K H' M'∧Q ds M'
structure cN (X:Cx) (e:Expr) (t:c6):Prop where
 run:∀ (pins:List (Addr ×Obj)) (s:Shared) (σ:St) (H:Hp) (ρ:En) (M:Mp) (Q:DK),Inv X pins σ H s→Rep X.K H σ ρ M→t ρ M Q→wpAny (model X.prog X.w) X.A (eval e X.env) (EP X pins σ (Post X.K M H Q)) X.xe s
structure vt (X:Cx) (e:Expr) (t:kW):Prop where
 run:∀ (pins:List (Addr ×Obj)) (s:Shared) (σ:St) (H:Hp) (ρ:En) (M:Mp) (Q:Bool→Mp→Prop),Inv X pins σ H s→Rep X.K H σ ρ M→t ρ M Q→wpAny (model X.prog X.w) X.A (isTrue e X.env (eval e X.env)) (TP X pins σ (oi X.K M H Q)) X.xe s
structure ni (X:Cx) (e:Expr) (t:kW):Prop where
 run:∀ (whole:Sem Value) (pins:List (Addr ×Obj)) (s:Shared) (σ:St) (H:Hp) (ρ:En) (M:Mp) (Q:Bool→Mp→Prop),Inv X pins σ H s→Rep X.K H σ ρ M→t ρ M Q→wpAny (model X.prog X.w) X.A (isTrue e X.env whole) (TP X pins σ (oi X.K M H Q)) X.xe s
theorem ni.pt {X:Cx} {e:Expr} {t:kW} (h:ni X e t):vt X e t:=⟨h.run _⟩
structure wV (X:Cx) (es:List Expr) (t:qQ):Prop where
 run:∀ (pos:Pos) (pins:List (Addr ×Obj)) (s:Shared) (σ:St) (H:Hp) (ρ:En) (M:Mp) (Q:List D→Mp→Prop),Inv X pins σ H s→Rep X.K H σ ρ M→t ρ M Q→wpAny (model X.prog X.w) X.A (spliced (backTo pos (starEach es X.env))) (AP X pins σ (D7 X.K M H Q)) X.xe s
structure D8 where
 nx:En→Mp→Prop
 rt:DK
 bk:En→Mp→Prop:=fun _ _=>False
 ct:En→Mp→Prop:=fun _ _=>False
abbrev kX:=D8→En→Mp→Prop
def iL (K:PySem.W.Frag) (M:Mp) (H:Hp) (Q:En→Mp→Prop):St→Hp→Prop:=fun σ' H'=> ∃ ρ' M',Fr M H M' H'∧Rep K H' σ' ρ' M'∧Q ρ' M'
def ends (K:PySem.W.Frag) (M:Mp) (H:Hp) (D:D8):Ends:={ nx:=iL K M H D.nx,rt:=Post K M H D.rt,bk:=iL K M H D.bk,ct:=iL K M H D.ct }
structure wW (X:Cx) (st:Stmt) (t:kX):Prop where
 run:∀ (pins:List (Addr ×Obj)) (s:Shared) (σ:St) (H:Hp) (ρ:En) (M:Mp) (D:D8),Inv X pins σ H s→Rep X.K H σ ρ M→t D ρ M→wpAny (model X.prog X.w) X.A (exec st X.env) (SP X pins (ends X.K M H D)) X.xe s
structure jS (X:Cx) (st:List Stmt) (t:kX):Prop where
 run:∀ (pins:List (Addr ×Obj)) (s:Shared) (σ:St) (H:Hp) (ρ:En) (M:Mp) (D:D8),Inv X pins σ H s→Rep X.K H σ ρ M→t D ρ M→wpAny (model X.prog X.w) X.A (execs st X.env) (SP X pins (ends X.K M H D)) X.xe s
section
variable {X:Cx}
theorem up {e:Expr} {te:TE} {t:c6} (h:PE X e te) (g:∀ σ H ρ M Q,Rep X.K H σ ρ M→t ρ M Q→te σ H (Post X.K M H Q)):cN X e t:=
 ⟨fun pins s σ H ρ M Q I r q=>h pins s σ H _ I (g σ H ρ M Q r q)⟩
theorem NK {e:Expr} {te:TT} {t:kW} (h:PT X e te) (g:∀ σ H ρ M Q,Rep X.K H σ ρ M→t ρ M Q→te σ H (oi X.K M H Q)):vt X e t:=
 ⟨fun pins s σ H ρ M Q I r q=>h pins s σ H _ I (g σ H ρ M Q r q)⟩
theorem D9 {st:Stmt} {te:TS} {t:kX} (h:PS X st te) (g:∀ σ H ρ M D,Rep X.K H σ ρ M→t D ρ M→te (ends X.K M H D) σ H):wW X st t:=
 ⟨fun pins s σ H ρ M D I r q=>h pins s σ H _ I (g σ H ρ M D r q)⟩
def dn (K:PySem.W.Frag) (t:c6):TE:=fun σ H Q'=> ∃ ρ M Q,Rep K H σ ρ M∧t ρ M Q∧∀ v H',Post K M H Q v H'→Q' v H'
def Kz (K:PySem.W.Frag) (t:kW):TT:=fun σ H Q'=> ∃ ρ M Q,Rep K H σ ρ M∧t ρ M Q∧∀ v H',oi K M H Q v H'→Q' v H'
def Ml (K:PySem.W.Frag) (t:qQ):TA:=fun σ H Q'=> ∃ ρ M Q,Rep K H σ ρ M∧t ρ M Q∧∀ v H',D7 K M H Q v H'→Q' v H'
def Jp (K:PySem.W.Frag) (t:kX):TS:=fun D' σ H=> ∃ ρ M D,Rep K H σ ρ M∧t D ρ M∧(∀ σ' H',iL K M H D.nx σ' H'→D'.nx σ' H')∧(∀ v H',Post K M H D.rt v H'→D'.rt v H')∧(∀ σ' H',iL K M H D.bk σ' H'→D'.bk σ' H')∧(∀ σ' H',iL K M H D.ct σ' H'→D'.ct σ' H')
theorem cN.dn {e:Expr} {t:c6} (h:cN X e t):PE X e (dn X.K t):=fun pins s σ H Q' I ⟨ρ,M,Q,r,q,k⟩=>
 cZ (h.run pins s σ H ρ M Q I r q) fun _ _ ⟨v,H',I',rv,p⟩=>⟨v,H',I',rv,k v H' p⟩
theorem vt.dn {e:Expr} {t:kW} (h:vt X e t):PT X e (Kz X.K t):=fun pins s σ H Q' I ⟨ρ,M,Q,r,q,k⟩=>
 cZ (h.run pins s σ H ρ M Q I r q) fun _ _ ⟨H',I',p⟩=>⟨H',I',k _ H' p⟩
theorem ni.dn {e:Expr} {t:kW} (h:ni X e t):PW X e (Kz X.K t):=fun wh pins s σ H Q' I ⟨ρ,M,Q,r,q,k⟩=>
 cZ (h.run wh pins s σ H ρ M Q I r q) fun _ _ ⟨H',I',p⟩=>⟨H',I',k _ H' p⟩
theorem wV.dn {es:List Expr} {t:qQ} (h:wV X es t):PA X es (Ml X.K t):=fun pos pins s σ H Q' I ⟨ρ,M,Q,r,q,k⟩=>
 cZ (h.run pos pins s σ H ρ M Q I r q) fun _ _ ⟨vs,H',I',rv,p⟩=>⟨vs,H',I',rv,k vs H' p⟩
theorem jS.dn {sts:List Stmt} {t:kX} (h:jS X sts t):wN X sts (Jp X.K t):=fun pins s σ H D' I ⟨ρ,M,D,r,q,k1,k2,k3,k4⟩=>
 cZ (h.run pins s σ H ρ M D I r q) fun f s' z=>by
  cases f with
  | next=>obtain ⟨σ',H',I',p⟩:=z;exact ⟨σ',H',I',k1 _ _ p⟩
  | brk=>obtain ⟨σ',H',I',p⟩:=z;exact ⟨σ',H',I',k3 _ _ p⟩
  | cont=>obtain ⟨σ',H',I',p⟩:=z;exact ⟨σ',H',I',k4 _ _ p⟩
  | ret u=>obtain ⟨v,σ',H',I',rv,p⟩:=z;exact ⟨v,σ',H',I',rv,k2 _ _ p⟩
theorem eB {K:PySem.W.Frag} {t:c6} {σ:St} {H:Hp} {ρ:En} {M:Mp} {Q:DK} {Q':VK} (r:Rep K H σ ρ M) (q:t ρ M Q) (k:∀ v H' d M',Fr M H M' H'→Dat K H' d v→Rep K H' σ ρ M'→Q d M'→Q' v H'):dn K t σ H Q':=
 ⟨ρ,M,Q,r,q,fun v H' ⟨d,M',f,dv,rm,p⟩=>k v H' d M' f dv (r.go f rm) p⟩
theorem ny {K:PySem.W.Frag} {t:kW} {σ:St} {H:Hp} {ρ:En} {M:Mp} {Q:Bool→Mp→Prop} {Q':Bool→Hp→Prop} (r:Rep K H σ ρ M) (q:t ρ M Q) (k:∀ b H' M',Fr M H M' H'→Rep K H' σ ρ M'→Q b M'→Q' b H'):Kz K t σ H Q':=
 ⟨ρ,M,Q,r,q,fun b H' ⟨M',f,rm,p⟩=>k b H' M' f (r.go f rm) p⟩
theorem jT {K:PySem.W.Frag} {t:qQ} {σ:St} {H:Hp} {ρ:En} {M:Mp} {Q:List D→Mp→Prop} {Q':List V→Hp→Prop} (r:Rep K H σ ρ M) (q:t ρ M Q) (k:∀ vs H' ds M',Fr M H M' H'→aG K H' ds vs→Rep K H' σ ρ M'→Q ds M'→Q' vs H'):Ml K t σ H Q':=
 ⟨ρ,M,Q,r,q,fun v H' ⟨d,M',f,dv,rm,p⟩=>k v H' d M' f dv (r.go f rm) p⟩
theorem aM {K:PySem.W.Frag} {M:Mp} {H:Hp} {Q:DK} {d:D} {v:V} (rm:cy K H M) (h:Dat K H d v) (q:Q d M):Post K M H Q v H:=⟨d,M,.refl _ _,h,rm,q⟩
theorem Post.back {K:PySem.W.Frag} {M M1:Mp} {H H1:Hp} {Q:DK} {v:V} {H':Hp} (f:Fr M H M1 H1) (p:Post K M1 H1 Q v H'):Post K M H Q v H':=by
 obtain ⟨d,M',f',dv,rm,q⟩:=p
 exact ⟨d,M',f.trans f',dv,rm,q⟩
theorem oi.back {K:PySem.W.Frag} {M M1:Mp} {H H1:Hp} {Q:Bool→Mp→Prop} {b:Bool} {H':Hp} (f:Fr M H M1 H1) (p:oi K M1 H1 Q b H'):oi K M H Q b H':=by
 obtain ⟨M',f',rm,q⟩:=p
 exact ⟨M',f.trans f',rm,q⟩
theorem iL.back {K:PySem.W.Frag} {M M1:Mp} {H H1:Hp} {Q:En→Mp→Prop} {σ:St} {H':Hp} (f:Fr M H M1 H1) (p:iL K M1 H1 Q σ H'):iL K M H Q σ H':=by
 obtain ⟨ρ',M',f',r,q⟩:=p
 exact ⟨ρ',M',f.trans f',r,q⟩
end
end L3
namespace L3
open PySem PySem.Spec PyProof.Rows L2
section
variable {X:Cx} {a b c:Expr} {ta tb tc:c6} {pos:Pos}
def HF (i:Nat):c6:=fun ρ M Q=> ∃ d,ρ[i]?=some (some d)∧Q d M
def Jq (d:D):c6:=fun _ M Q=>Q d M
theorem af (i:Nat) {x:Str} {pos:Pos} (hN:X.N[i]?=some x:=by rfl) (hv:JO X.env.scope x:=by first | exact Or.inl rfl | exact Or.inr (Or.inl rfl) | exact Or.inr (Or.inr rfl)) (hd:(x == ("__debug__" :Str))=false:=by decide)
 (hcd:(x == ("__classdict__" :Str))=false:=by decide):cN X (.Name x pos) (HF i):=
 up (EK hN hv hd hcd) fun σ H ρ M Q r ⟨d,e,q⟩=>by
  obtain ⟨v,e1,e2⟩:=r.env i d e
  exact ⟨v,e1,aM r.mem e2 q⟩
theorem ah {i j pos}:cN X (.Constant (.int i) j pos) (Jq (.int i)):=up EL fun _ _ _ _ _ r q=>aM r.mem (aJ.mpr rfl) q
theorem g9 {b j pos}:cN X (.Constant (.bool b) j pos) (Jq (.bl b)):=up G5 fun _ _ _ _ _ r q=>aM r.mem (bA.mpr rfl) q
theorem gv {j pos}:cN X (.Constant .none j pos) (Jq .bE):=up EM fun _ _ _ _ _ r q=>aM r.mem (cM.mpr rfl) q
theorem aX {x:Str} {n:String} {pos:Pos} (hg:Gl X x) (hm:X.mg x=none) (hv:bootBuiltins x=some (.type n)) (hn:x≠"__name__" :=by decide) (hd:(x == ("__debug__" :Str))=false:=by decide):cN X (.Name x pos) (Jq (.ty n)):=
 up (CB (v:= .ty n) hg hm hv rfl hn hd) fun _ _ _ _ _ r q=>aM r.mem (wU.mpr rfl) q
abbrev R3:=D→D→Mp→DK→Prop
structure nD (X:Cx) (f:Value→Value→Sem Value) (t:R3):Prop where
 run:∀ (pins:List (Addr ×Obj)) (s:Shared) (σ:St) (H:Hp) (M:Mp) (x y:V) (d e:D) (v u:Value) (Q:DK),Inv X pins σ H s→cy X.K H M→RelV x v→RelV y u→Dat X.K H d x→Dat X.K H e y→t d e M Q→
  wpAny (model X.prog X.w) X.A (f v u) (EP X pins σ (Post X.K M H Q)) X.xe s
theorem HG {f:Value→Value→Sem Value} {r:R2} {t:R3} (h:vh X f r) (g:∀ H M x y d e Q,cy X.K H M→Dat X.K H d x→Dat X.K H e y→t d e M Q→r x y H (Post X.K M H Q)):nD X f t:=
 ⟨fun pins s σ H M x y d e v u Q I rm rx ry dx dy q=>h pins s σ H x y v u _ I rx ry (g H M x y d e Q rm dx dy q)⟩
def CW (t:R3) (ta tb:c6):c6:=fun ρ M Q=>ta ρ M fun x M1=>tb ρ M1 fun y M2=>t x y M2 Q
theorem HH (ha:cN X a ta) (hb:cN X b tb) {pins:List (Addr ×Obj)} {s:Shared} {σ:St} {H:Hp} {ρ:En} {M:Mp} {R:D→D→Mp→Prop} (I:Inv X pins σ H s) (r:Rep X.K H σ ρ M)
 (h:ta ρ M fun x M1=>tb ρ M1 fun y M2=>R x y M2) {Q:Value→Shared→Prop} {f:Value→Value→Sem Value}
 (hf:∀ v u s2 x y d e H2 M2,Inv X pins σ H2 s2→Rep X.K H2 σ ρ M2→Fr M H M2 H2→RelV x v→RelV y u→Dat X.K H2 d x→Dat X.K H2 e y→R d e M2→wpAny (model X.prog X.w) X.A (f v u) Q X.xe s2) :
 wpAny (model X.prog X.w) X.A (eval a X.env) (fun v s₁=>wpAny (model X.prog X.w) X.A (eval b X.env) (fun u s₂=>wpAny (model X.prog X.w) X.A (f v u) Q X.xe s₂) X.xe s₁) X.xe s:=by
 refine cZ (ha.run pins s σ H ρ M _ I r h) fun v s1 ⟨x,H1,I1,r1,d,M1,f1,d1,nj,q1⟩=>?_
 have R1:=r.go f1 nj
 refine cZ (hb.run pins s1 σ H1 ρ M1 _ I1 R1 q1) fun u s2 ⟨y,H2,I2,r2,e,M2,f2,d2,Ea,q2⟩=>?_
 exact hf v u s2 x y d e H2 M2 I2 (R1.go f2 Ea) (f1.trans f2) r1 r2 (Dat.mono (f2.ext nj) _ _ d1) d2 q2
theorem ak {op:Operator} {t:R3} (ho:nD X (binaryOp op) t) (ha:cN X a ta) (hb:cN X b tb):cN X (.BinOp a op b pos) (CW t ta tb):=by
 constructor
 intro pins s σ H ρ M Q I r h
 refine wpAny_BinOp (HH ha hb I r h fun v u s2 x y d e H2 M2 I2 R2 f rx ry dx dy q=>?_)
 exact cZ (ho.run pins s2 σ H2 M2 x y d e v u Q I2 R2.mem rx ry dx dy q) fun _ _ ⟨z,H3,I3,r3,p⟩=>⟨z,H3,I3,r3,p.back f⟩
theorem fS {op:CmpOp} {t:R3} (ho:nD X (compareOp op) t) (ha:cN X a ta) (hb:cN X b tb) (hm:behindInMarks op b=false):cN X (.Compare a [op] [b] pos) (CW t ta tb):=by
 constructor
 intro pins s σ H ρ M Q I r h
 refine wpAny_Compare1 (HH ha hb I r h fun v u s2 x y d e H2 M2 I2 R2 f rx ry dx dy q=>?_) hm
 exact cZ (ho.run pins s2 σ H2 M2 x y d e v u Q I2 R2.mem rx ry dx dy q) fun _ _ ⟨z,H3,I3,r3,p⟩=>⟨z,H3,I3,r3,p.back f⟩
def AO (t:c6):kW:=fun ρ M Q=>t ρ M fun x M'=> ∃ k,x= .bl k∧Q k M'
theorem aI {op:CmpOp} {t:R3} (ho:nD X (compareOp op) t) (ha:cN X a ta) (hb:cN X b tb) (hm:behindInMarks op b=false):vt X (.Compare a [op] [b] pos) (AO (CW t ta tb)):=by
 constructor
 intro pins s σ H ρ M Q I r h
 refine wpAny_isTrue_Compare1 (cZ (ha.run pins s σ H ρ M _ I r h) fun v s1 ⟨x,H1,I1,r1,d,M1,f1,d1,nj,q1⟩=>cZ (hb.run pins s1 σ H1 ρ M1 _ I1 (r.go f1 nj) q1) fun u s2 ⟨y,H2,I2,r2,e,M2,f2,d2,Ea,q2⟩=>
  cZ (ho.run pins s2 σ H2 M2 x y d e v u _ I2 Ea r1 r2 (Dat.mono (f2.ext nj) _ _ d1) d2 q2) fun w s3 ⟨z,H3,I3,r3,dz,M3,f3,d3,NL,k,ek,q3⟩=>?_) hm
 subst ek
 obtain rfl:=bA.mp d3
 cases r3
 exact wpAny_truthy_bool ⟨H3,I3,M3,(f1.trans f2).trans f3,NL,q3⟩
theorem gw {e:Expr} {t:c6} (h:cN X e t) (he:∀ whole,isTrue e X.env whole=(do let v ← whole;standAt e.pos;holding [v] (truthy v)):=by intro _;rfl):vt X e (AO t):=by
 constructor
 intro pins s σ H ρ M Q I r hw
 refine isTrue_plain (cZ (h.run pins s σ H ρ M _ I r hw) fun v s1 ⟨x,H1,I1,r1,d,M1,f1,d1,nj,k,ek,q1⟩=>?_) (he _)
 subst ek
 obtain rfl:=bA.mp d1
 cases r1
 exact wpAny_truthy_bool ⟨H1,I1,M1,f1,nj,q1⟩
variable {tA tB:kW} {rest:List Expr}
def HJ (t u:kW):kW:=fun ρ M Q=>t ρ M fun c M1=>if c=true then u ρ M1 Q else Q false M1
def KA (t u:kW):kW:=fun ρ M Q=>t ρ M fun c M1=>if c=true then Q true M1 else u ρ M1 Q
def HK (t:kW):kW:=fun ρ M Q=>t ρ M fun c M1=>Q (!c) M1
theorem nE (ha:vt X a tA):ni X (.BoolOp .And [a] pos) tA:=⟨fun wh pins s σ H ρ M Q I r h=>cZ (pw_and1 ha.dn wh pins s σ H _ I ⟨ρ,M,Q,r,h,fun _ _ z=>z⟩) fun _ _ z=>z⟩
theorem jy (ha:vt X a tA):ni X (.BoolOp .Or [a] pos) tA:=⟨fun wh pins s σ H ρ M Q I r h=>cZ (pw_or1 ha.dn wh pins s σ H _ I ⟨ρ,M,Q,r,h,fun _ _ z=>z⟩) fun _ _ z=>z⟩
theorem sj (ha:vt X a tA) (hb:ni X (.BoolOp .And (b :: rest) pos) tB):ni X (.BoolOp .And (a :: b :: rest) pos) (HJ tA tB):=⟨fun wh pins s σ H ρ M Q I r h=>
 pw_and ha.dn hb.dn wh pins s σ H _ I (ny r h fun c H' M' f r' q=>by
  cases c with
  | true=>exact ⟨ρ,M',Q,r',q,fun _ _ p=>p.back f⟩
  | false=>exact ⟨M',f,r'.mem,q⟩)⟩
theorem nF (ha:vt X a tA) (hb:ni X (.BoolOp .Or (b :: rest) pos) tB):ni X (.BoolOp .Or (a :: b :: rest) pos) (KA tA tB):=⟨fun wh pins s σ H ρ M Q I r h=>
 pw_or ha.dn hb.dn wh pins s σ H _ I (ny r h fun c H' M' f r' q=>by
  cases c with
  | true=>exact ⟨M',f,r'.mem,q⟩
  | false=>exact ⟨ρ,M',Q,r',q,fun _ _ p=>p.back f⟩)⟩
theorem k_not (ha:vt X a tA):vt X (.UnaryOp .Not a pos) (HK tA):=NK (EN ha.dn) fun σ H ρ M Q r h=>ny r h fun _ _ M' f r' q=>⟨M',f,r'.mem,q⟩
def Fq (ta tb:c6):c6:=fun ρ M Q=>ta ρ M fun x M1=> ∃ c,x= .bl c∧if c=true then tb ρ M1 Q else Q (.bl false) M1
def HL (ta tb:c6):c6:=fun ρ M Q=>ta ρ M fun x M1=> ∃ c,x= .bl c∧if c=true then Q (.bl true) M1 else tb ρ M1 Q
def Ft (ta:c6):c6:=fun ρ M Q=>ta ρ M fun x M1=> ∃ c,x= .bl c∧Q (.bl (!c)) M1
theorem mE {op} {t:c6} (h:cN X a t):cN X (.BoolOp op [a] pos) t:=⟨fun pins s σ H ρ M Q I r hw=>BoolOp_one (h.run pins s σ H ρ M Q I r hw)⟩
theorem jz (ha:cN X a ta) (hb:cN X (.BoolOp .And (b :: rest) pos) tb):cN X (.BoolOp .And (a :: b :: rest) pos) (Fq ta tb):=up (EO ha.dn hb.dn) fun σ H ρ M Q r h=>eB r h fun v H' d M' f dv r' ⟨k,ek,q⟩=>by
 subst ek
 obtain rfl:=bA.mp dv
 refine ⟨k,rfl,?_⟩
 cases k with
 | true=>exact ⟨ρ,M',Q,r',q,fun _ _ p=>p.back f⟩
 | false=>exact ⟨.bl false,M',f,bA.mpr rfl,r'.mem,q⟩
theorem KC (ha:cN X a ta) (hb:cN X (.BoolOp .Or (b :: rest) pos) tb):cN X (.BoolOp .Or (a :: b :: rest) pos) (HL ta tb):=up (G8 ha.dn hb.dn) fun σ H ρ M Q r h=>eB r h fun v H' d M' f dv r' ⟨k,ek,q⟩=>by
 subst ek
 obtain rfl:=bA.mp dv
 refine ⟨k,rfl,?_⟩
 cases k with
 | true=>exact ⟨.bl true,M',f,bA.mpr rfl,r'.mem,q⟩
 | false=>exact ⟨ρ,M',Q,r',q,fun _ _ p=>p.back f⟩
theorem yo (ha:cN X a ta):cN X (.UnaryOp .Not a pos) (Ft ta):=up (ER ha.dn) fun σ H ρ M Q r h=>eB r h fun v H' d M' f dv r' ⟨k,ek,q⟩=>by
 subst ek
 obtain rfl:=bA.mp dv
 exact ⟨k,rfl,.bl (!k),M',f,bA.mpr rfl,r'.mem,q⟩
def KD (t:kW) (ta tb:c6):c6:=fun ρ M Q=>t ρ M fun c M1=>if c=true then ta ρ M1 Q else tb ρ M1 Q
theorem CY {c:Expr} (hc:vt X c tA) (ha:cN X a ta) (hb:cN X b tb):cN X (.IfExp c a b pos) (KD tA ta tb):=up (Au hc.dn ha.dn hb.dn) fun σ H ρ M Q r h=>ny r h fun k H' M' f r' q=>by
 cases k with
 | true=>exact ⟨ρ,M',Q,r',q,fun _ _ p=>p.back f⟩
 | false=>exact ⟨ρ,M',Q,r',q,fun _ _ p=>p.back f⟩
def KG (t:D→Mp→DK→Prop) (ta:c6):c6:=fun ρ M Q=>ta ρ M fun x M1=>t x M1 Q
def KH:D→Mp→DK→Prop:=fun d M Q=> ∃ i,d= .int i∧Q (.int (-i)) M
theorem iM (ha:cN X a ta):cN X (.UnaryOp .USub a pos) (KG KH ta):=up (Hl E6 ha.dn) fun σ H ρ M Q r h=>eB r h fun v H' d M' f dv r' ⟨i,ek,q⟩=>by
 subst ek
 obtain rfl:=aJ.mp dv
 exact ⟨i,rfl,.int (-i),M',f,aJ.mpr rfl,r'.mem,q⟩
def Sm (n:Nat) (i:Int):Prop:=i.natAbs < 2 ^ n
def MulOk (i j:Int):Prop:= ∃ m n,Sm m i∧Sm n j∧m+n≤100000
theorem lM {k n:Nat} (h:k < 2 ^ n):k.log2≤n:=by
 rcases Nat.eq_zero_or_pos k with z | z
 ·subst z;simp
 ·exact Nat.le_of_lt (by rw [Nat.log2_lt (by omega)];exact h)
theorem mF {n:Nat} {i:Int} (h:Sm n i):Builtin.Int.intBits i≤n+1:=by
 unfold Builtin.Int.intBits
 have:=lM h
 first
  | (split <;> omega)
  | omega
theorem MulOk.ok {i j:Int} (h:MulOk i j):IntMulOk i j:=by
 obtain ⟨m,n,h1,h2,h3⟩:=h
 have b1:=mF h1
 have b2:=mF h2
 exact IntMulOk.of_bits (by omega) (by omega)
def Fv (g:Int→Int→Int):R3:=fun d e M Q=> ∃ i j,d= .int i∧e= .int j∧Q (.int (g i j)) M
def pL (C:Int→Int→Prop) (g:Int→Int→Int):R3:=fun d e M Q=> ∃ i j,d= .int i∧e= .int j∧C i j∧Q (.int (g i j)) M
def yp (g:Int→Int→Bool):R3:=fun d e M Q=> ∃ i j,d= .int i∧e= .int j∧Q (.bl (g i j)) M
theorem HM {f:Value→Value→Sem Value} {g:Int→Int→Int} (h:vh X f (CJ fun i j=> .int (g i j))):nD X f (Fv g):=HG h fun H M x y d e Q rm dx dy ⟨i,j,e1,e2,q⟩=>by
 subst e1;subst e2
 exact ⟨i,j,aJ.mp dx,aJ.mp dy,aM rm (aJ.mpr rfl) q⟩
theorem sr {f:Value→Value→Sem Value} {C:Int→Int→Prop} {g:Int→Int→Int} (h:vh X f (rI C fun i j=> .int (g i j))):nD X f (pL C g):=HG h fun H M x y d e Q rm dx dy ⟨i,j,e1,e2,hc,q⟩=>by
 subst e1;subst e2
 exact ⟨i,j,aJ.mp dx,aJ.mp dy,hc,aM rm (aJ.mpr rfl) q⟩
theorem AQ {f:Value→Value→Sem Value} {g:Int→Int→Bool} (h:vh X f (CJ fun i j=> .bl (g i j))):nD X f (yp g):=HG h fun H M x y d e Q rm dx dy ⟨i,j,e1,e2,q⟩=>by
 subst e1;subst e2
 exact ⟨i,j,aJ.mp dx,aJ.mp dy,aM rm (bA.mpr rfl) q⟩
theorem dF:nD X (binaryOp .Add) (Fv fun i j=>i+j):=HM EY
theorem bT:nD X (binaryOp .Sub) (Fv fun i j=>i - j):=HM EZ
theorem cR:nD X (binaryOp .Mult) (pL MulOk fun i j=>i*j):=sr (GQ fun _ _ _ _ _ _ _ hc q=>mul_int q hc.ok)
theorem aT:nD X (binaryOp .Mod) (pL (fun _ j=>0 < j) fun i j=>i % j):=sr E5
def HN (_ j:Int):Prop:=0 < j∧∃ n,Sm n j∧n≤8000
def wX (_ j:Int):Prop:=j≠0∧∃ n,Sm n j∧n≤8000
theorem pq:nD X (binaryOp .FloorDiv) (pL wX fun i j=>i.fdiv j):=sr (GQ fun i j _ _ _ _ _ hc q=>floordiv_int hc.1 q (.inl (PyProof.noPylong_of_log2 (by
 obtain ⟨_,n,h1,h2⟩:=hc
 have:=lM h1
 omega))))
theorem cG:nD X (binaryOp .FloorDiv) (pL HN fun i j=>i / j):=sr (GQ fun i j _ _ _ _ _ hc q=>floordiv_int (by have:=hc.1;omega) (by rw [Int.fdiv_eq_ediv_of_nonneg _ (by have:=hc.1;omega)];exact q) (.inl (PyProof.noPylong_of_log2 (by
 obtain ⟨_,n,h1,h2⟩:=hc
 have:=lM h1
 omega))))
def AR (i j:Int):Prop:=0≤j∧j≤1000∧i.natAbs < 2 ^ 400
theorem AR.bits {i j:Int} (h:AR i j):(Builtin.Int.intBits i:Int)*j≤2 ^ 27:=by
 have hb:Builtin.Int.intBits i≤401:=mF (n:=400) h.2.2
 have h1:(Builtin.Int.intBits i:Int)*j≤401*j:=Int.mul_le_mul_of_nonneg_right (by omega) h.1
 have:=h.2.1
 omega
theorem gA:nD X (binaryOp .Pow) (pL AR fun i j=>i ^ j.toNat):=sr (GQ fun _ _ _ _ _ _ _ hc q=>pow_int hc.1 hc.bits q)
theorem KI:nD X (compareOp .Lt) (yp fun i j=>decide (i < j)):=AQ Hs
theorem AS:nD X (compareOp .Gt) (yp fun i j=>decide (j < i)):=AQ Ht
theorem HP:nD X (compareOp .GtE) (yp fun i j=>decide (j≤i)):=AQ Hu
inductive Jr where
 | bE | bl (b:Bool) | int (i:Int) | str (x:Str)
 deriving DecidableEq
def Jr.d:Jr→D | .bE=> .bE | .bl b=> .bl b | .int i=> .int i | .str x=> .str x
def Jr.v:Jr→V | .bE=> .bE | .bl b=> .bl b | .int i=> .int i | .str x=> .str x
end
end L3
namespace L3
open PySem PySem.Spec PyProof.Rows L2
mutual
def cX:D→D→Bool
 | .bE,e=>match e with | .bE=>true | _=>false
 | .bl a,e=>match e with | .bl b=>a == b | .int b=>(if a then 1 else 0) == b | _=>false
 | .int a,e=>match e with | .bl b=>a == (if b then 1 else 0) | .int b=>a == b | _=>false
 | .str a,e=>match e with | .str b=>a == b | _=>false
 | .tup as,e=>match e with | .tup bs=>gB as bs | _=>false
 | .ty _,_=>false
 | .ref _,_=>false
 | .tV _,_=>false
 | .D6 _,_=>false
 | .exc _ _ _,_=>false
def gB:List D→List D→Bool
 | [],e=>match e with | []=>true | _=>false
 | a :: as,e=>match e with | []=>false | b :: bs=>cX a b && gB as bs
end
def plain:Nat→D→Bool
 | _,.bE=>true
 | _,.bl _=>true
 | _,.int _=>true
 | _,.str _=>true
 | n+1,.tup ds=>ds.all (plain n)
 | _,_=>false
theorem pM:gB [] []=true:=by simp [gB]
theorem eF (a b:D) (as bs:List D):gB (a :: as) (b :: bs)=(cX a b && gB as bs):=by simp [gB]
theorem gQ (as bs:List D):cX (.tup as) (.tup bs)=gB as bs:=by simp [cX]
theorem bU (a b:Int):cX (.int a) (.int b)=(a == b):=by simp [cX]
theorem gC:∀ (ds es:List D),gB ds es=((List.range (min ds.length es.length)).all (fun j=>cX (ds.getD j .bE) (es.getD j .bE)) && (ds.length == es.length))
 | [],[]=>by simp [gB]
 | [],e :: es=>by simp [gB]
 | d :: ds,[]=>by simp [gB]
 | d :: ds,e :: es=>by
   rw [eF,gC ds es]
   have h:min (d :: ds).length (e :: es).length=min ds.length es.length+1:=by simp only [List.length_cons];omega
   rw [h,List.range_succ_eq_map,List.all_cons,List.all_map]
   simp only [List.getD_cons_zero,List.length_cons]
   have h2:((fun j=>cX ((d :: ds).getD j D.bE) ((e :: es).getD j D.bE))∘Nat.succ)=fun j=>cX (ds.getD j D.bE) (es.getD j D.bE):=by
    funext j;simp
   rw [h2]
   have h3:(ds.length+1 == es.length+1)=(ds.length == es.length):=by
    rw [Bool.eq_iff_iff];simp
   rw [h3,Bool.and_assoc]
theorem iN:∀ (n:Nat) (d:D),plain n d=true→cX d d=true:=by
 intro n
 induction n with
 | zero=>intro d h;cases d <;> simp [plain] at h <;> simp [cX]
 | succ n ih=>
   intro d h
   cases d with
   | tup ds=>
     have h:ds.all (plain n)=true:=by simpa [plain] using h
     rw [gQ]
     have:∀ (es:List D),es.all (plain n)=true→gB es es=true:=by
      intro es
      induction es with
      | nil=>intro _;exact pM
      | cons e es NN=>
        intro h
        rw [List.all_cons,Bool.and_eq_true] at h
        rw [eF,ih e h.1,NN h.2];rfl
     exact this ds h
   | _=>first | (simp [plain] at h;done) | (simp [cX];done)
section
variable {K:PySem.W.Frag} {H:Hp}
theorem Dat.inj:∀ (n:Nat) (d e:D) (v:V),plain n d=true→plain n e=true→Dat K H d v→Dat K H e v→d=e:=by
 intro n
 induction n with
 | zero=>
   intro d e v pd pe hd he
   cases d <;> simp [plain] at pd <;> cases e <;> simp [plain] at pe <;> simp only [Dat] at hd he <;> subst hd <;> first | rfl | (injection he with z;rw [z]) | cases he
 | succ n ih=>
   intro d e v pd pe hd he
   have lists:∀ (ds es:List D) (xs:List V),ds.all (plain n)=true→es.all (plain n)=true→aG K H ds xs→aG K H es xs→ds=es:=by
    intro ds
    induction ds with
    | nil=>
      intro es xs _ _ h1 h2
      rw [aP.mp h1] at h2
      cases es with
      | nil=>rfl
      | cons e es=>obtain ⟨_,_,z,_⟩:=aH.mp h2;cases z
    | cons d ds NO=>
      intro es xs p1 p2 h1 h2
      obtain ⟨v,vs,rfl,g1,g2⟩:=aH.mp h1
      cases es with
      | nil=>cases aP.mp h2
      | cons e es=>
        obtain ⟨v',vs',z,g3,g4⟩:=aH.mp h2
        injection z with z1 z2
        subst z1;subst z2
        rw [List.all_cons,Bool.and_eq_true] at p1 p2
        rw [ih d e v p1.1 p2.1 g1 g3,NO es vs p1.2 p2.2 g2 g4]
   cases d with
   | tup ds=>
     obtain ⟨a,xs,rfl,ha,hx⟩:=bP.mp hd
     cases e with
     | tup es=>
       obtain ⟨b,ys,z,hb,hy⟩:=bP.mp he
       injection z with z
       subst z
       rw [ha] at hb
       injection hb with hb
       injection hb with hb
       subst hb
       rw [lists ds es xs (by simpa [plain] using pd) (by simpa [plain] using pe) hx hy]
     | _=>first | (simp [plain] at pe;done) | (simp only [Dat] at he;cases he)
   | _=>first
     | (simp [plain] at pd;done)
     | (cases e <;> first
      | (simp [plain] at pe;done)
      | (obtain ⟨b,ys,z,hb,hy⟩:=bP.mp he;simp only [Dat] at hd;subst hd;cases z;done)
      | (simp only [Dat] at hd he;subst hd;first | rfl | (injection he with z;rw [z]) | cases he))
end
theorem pA {α:Type} {p:α→Bool} {xs:List α} (h:xs.all p=true) {i:Nat} {x:α} (e:xs[i]?=some x):p x=true:=(List.all_eq_true.mp h) x (List.mem_of_getElem? e)
section
variable {X:Cx} {pins:List (Addr ×Obj)} {σ:St} {H:Hp} {s:Shared}
theorem fG {P:Program} {w:World} {h:Heap} {a:Addr} {xs:List V} (ok:jN P w H h) (e:H a=some (.tup xs)):∃ its:List Value,Vals xs its∧IsTup h a its.toArray∧xs.length≤sizeLine:=by
 obtain ⟨z,its,r,p⟩:=(show dj P w H h a (.tup xs) from ok a _ e)
 exact ⟨its,r,p,z⟩
theorem AU {P:Program} {w:World} (ok:jN P w H s.heap) {K:PySem.W.Frag}:∀ (n:Nat) (A:Around) (d e:D) (x y:V) (u v:Value),A.units+n < cLine→plain n d=true→plain n e=true→Dat K H d x→Dat K H e y→RelV x u→RelV y v→SeqAt.EqAt A s u v (cX d e):=by
 intro n
 induction n with
 | zero=>
   intro A d e x y u v hu pd pe dx dy rx ry
   cases d with
   | tup ds=>simp [plain] at pd
   | ty _=>simp [plain] at pd
   | ref _=>simp [plain] at pd
   | tV _=>simp [plain] at pd
   | D6 _=>simp [plain] at pd
   | exc _ _ _=>simp [plain] at pd
   | bE=>
     obtain rfl:=cM.mp dx
     cases rx
     cases e with
     | bE=>obtain rfl:=cM.mp dy;cases ry;simpa [cX] using SeqAt.EqAt.same (A:=A) (s:=s) Value.none
     | bl b=>obtain rfl:=bA.mp dy;cases ry;simpa [cX] using SeqAt.EqAt.none_bool (A:=A) (s:=s) b
     | int b=>obtain rfl:=aJ.mp dy;obtain ⟨t,rfl⟩:=ry;simpa [cX] using SeqAt.EqAt.none_int (A:=A) (s:=s) b t
     | str b=>obtain rfl:=fX.mp dy;obtain ⟨t,rfl⟩:=ry;simpa [cX] using SeqAt.EqAt.none_str (A:=A) (s:=s) b t
     | _=>simp [plain] at pe
   | bl a=>
     obtain rfl:=bA.mp dx
     cases rx
     cases e with
     | bE=>obtain rfl:=cM.mp dy;cases ry;simpa [cX] using SeqAt.EqAt.bool_none (A:=A) (s:=s) a
     | bl b=>obtain rfl:=bA.mp dy;cases ry;simpa [cX] using SeqAt.EqAt.bool_bool (A:=A) (s:=s) a b
     | int b=>obtain rfl:=aJ.mp dy;obtain ⟨t,rfl⟩:=ry;simpa [cX] using SeqAt.EqAt.bool_int (A:=A) (s:=s) a b t
     | str b=>obtain rfl:=fX.mp dy;obtain ⟨t,rfl⟩:=ry;simpa [cX] using SeqAt.EqAt.bool_str (A:=A) (s:=s) a b t
     | _=>simp [plain] at pe
   | int a=>
     obtain rfl:=aJ.mp dx
     obtain ⟨t',rfl⟩:=rx
     cases e with
     | bE=>obtain rfl:=cM.mp dy;cases ry;simpa [cX] using SeqAt.EqAt.int_none (A:=A) (s:=s) a t'
     | bl b=>obtain rfl:=bA.mp dy;cases ry;simpa [cX] using SeqAt.EqAt.int_bool (A:=A) (s:=s) a t' b
     | int b=>obtain rfl:=aJ.mp dy;obtain ⟨t,rfl⟩:=ry;simpa [cX] using SeqAt.EqAt.int_int (A:=A) (s:=s) a t' b t
     | str b=>obtain rfl:=fX.mp dy;obtain ⟨t,rfl⟩:=ry;simpa [cX] using SeqAt.EqAt.int_str (A:=A) (s:=s) a t' b t
     | _=>simp [plain] at pe
   | str a=>
     obtain rfl:=fX.mp dx
     obtain ⟨t',rfl⟩:=rx
     cases e with
     | bE=>obtain rfl:=cM.mp dy;cases ry;simpa [cX] using SeqAt.EqAt.str_none (A:=A) (s:=s) a t'
     | bl b=>obtain rfl:=bA.mp dy;cases ry;simpa [cX] using SeqAt.EqAt.str_bool (A:=A) (s:=s) a t' b
     | int b=>obtain rfl:=aJ.mp dy;obtain ⟨t,rfl⟩:=ry;simpa [cX] using SeqAt.EqAt.str_int (A:=A) (s:=s) a t' b t
     | str b=>obtain rfl:=fX.mp dy;obtain ⟨t,rfl⟩:=ry;simpa [cX] using SeqAt.EqAt.str_str (A:=A) (s:=s) a t' b t
     | _=>simp [plain] at pe
 | succ n ih=>
   intro A d e x y u v hu pd pe dx dy rx ry
   have flat:∀ (z:D),plain (n+1) z=true→(∀ zs,z≠ .tup zs)→plain n z=true:=by
    intro z pz nz
    cases z with
    | tup zs=>exact absurd rfl (nz zs)
    | _=>first | (simp [plain];done) | (simp [plain] at pz;done)
   have hun:A.units < cLine:=by omega
   cases d with
   | tup ds=>
     obtain ⟨a,xs,rfl,ha,hx⟩:=bP.mp dx
     obtain rfl:u=Value.ref a:=rx
     obtain ⟨its,rv,pt,hz⟩:=fG ok ha
     cases e with
     | tup es=>
       obtain ⟨b,ys,rfl,hb,hy⟩:=bP.mp dy
       obtain rfl:v=Value.ref b:=ry
       obtain ⟨its2,qV,rS,hz2⟩:=fG ok hb
       by_cases hab:a=b
       ·subst hab
        have:=Dat.inj (K:=K) (H:=H) (n+1) _ _ _ pd pe dx dy
        rw [← this,iN (n+1) _ pd]
        exact SeqAt.EqAt.same _
       ·refine SeqAt.EqAt.of_refs hab ?_
        have hl1:=hx.length.trans rv.length
        have hl2:=hy.length.trans qV.length
        have key:=SeqAt.RcAt.tuples (A:=A) (s:=s) (e:=fun j=>cX (ds.getD j .bE) (es.getD j .bE)) pt rS hun (fun j h1 h2=>?_)
        ·rw [gQ,gC]
         simp only [List.size_toArray,← hl1,← hl2] at key
         exact key
        ·simp only [List.size_toArray] at h1 h2
         have e1:ds[j]?=some (ds.getD j .bE):=by rw [List.getD_eq_getElem?_getD,List.getElem?_eq_getElem (by omega)];rfl
         have e2:es[j]?=some (es.getD j .bE):=by rw [List.getD_eq_getElem?_getD,List.getElem?_eq_getElem (by omega)];rfl
         obtain ⟨x1,g1,g2⟩:=hx.get e1
         obtain ⟨y1,g3,g4⟩:=hy.get e2
         obtain ⟨u1,g5,g6⟩:=rv.get g1
         obtain ⟨v1,g7,g8⟩:=qV.get g3
         have q1:its.toArray[j]=u1:=by
          have:its[j]=u1:=Option.some.inj ((List.getElem?_eq_getElem (by omega)).symm.trans g5)
          simpa using this
         have q2:its2.toArray[j]=v1:=by
          have:its2[j]=v1:=Option.some.inj ((List.getElem?_eq_getElem (by omega)).symm.trans g7)
          simpa using this
         rw [q1,q2]
         have NP:ds.all (plain n)=true:=by simpa [plain] using pd
         have NQ:es.all (plain n)=true:=by simpa [plain] using pe
         exact ih A.in1 _ _ x1 y1 u1 v1 (by show A.units+1+n < cLine;omega) (pA NP e1) (pA NQ e2) g2 g4 g6 g8
     | bE=>obtain rfl:=cM.mp dy;cases ry;simpa [cX] using SeqAt.EqAt.tuple_none (A:=A) (s:=s) pt hun
     | bl b=>obtain rfl:=bA.mp dy;cases ry;simpa [cX] using SeqAt.EqAt.tuple_bool (A:=A) (s:=s) b pt hun
     | int b=>obtain rfl:=aJ.mp dy;obtain ⟨t,rfl⟩:=ry;simpa [cX] using SeqAt.EqAt.tuple_int (A:=A) (s:=s) b t pt hun
     | str b=>obtain rfl:=fX.mp dy;obtain ⟨t,rfl⟩:=ry;simpa [cX] using SeqAt.EqAt.tuple_str (A:=A) (s:=s) b t pt hun
     | _=>simp [plain] at pe
   | _=>
     first
     | (simp [plain] at pd;done)
     | (cases e with
      | tup es=>
        obtain ⟨b,ys,rfl,hb,hy⟩:=bP.mp dy
        obtain rfl:v=Value.ref b:=ry
        obtain ⟨its2,qV,rS,hz2⟩:=fG ok hb
        first
        | (obtain rfl:=cM.mp dx;cases rx;simpa [cX] using SeqAt.EqAt.none_tuple (A:=A) (s:=s) rS hun)
        | (obtain rfl:=bA.mp dx;cases rx;simpa [cX] using SeqAt.EqAt.bool_tuple (A:=A) (s:=s) _ rS hun)
        | (obtain rfl:=aJ.mp dx;obtain ⟨t,rfl⟩:=rx;simpa [cX] using SeqAt.EqAt.int_tuple (A:=A) (s:=s) _ t rS hun)
        | (obtain rfl:=fX.mp dx;obtain ⟨t,rfl⟩:=rx;simpa [cX] using SeqAt.EqAt.str_tuple (A:=A) (s:=s) _ t rS hun)
      | _=>
        first
        | (simp [plain] at pe;done)
        | exact ih A _ _ x y u v (by omega) (flat _ pd (fun _ z=>by cases z)) (flat _ pe (fun _ z=>by cases z)) dx dy rx ry)
def AV:D→D→Bool
 | .bE,.bE=>true | .bE,.int _=>true | .int _,.bE=>true | .bE,.bl _=>true | .bl _,.bE=>true | .bE,.str _=>true | .str _,.bE=>true
 | .int _,.int _=>true | .bl _,.bl _=>true | .str _,.str _=>true
 | _,_=>false
def CZ (d e:D):Bool:=match d,e with
 | .tup ds,.tup es=>plain 10 (.tup ds) && plain 10 (.tup es)
 | d,e=>AV d e
def KJ:R3:=fun d e M Q=>CZ d e=true∧Q (.bl (cX d e)) M
def KL:R3:=fun d e M Q=>CZ d e=true∧Q (.bl (!cX d e)) M
theorem AW {K:PySem.W.Frag} {d e:D} {x y:V} (h:AV d e=true) (dx:Dat K H d x) (dy:Dat K H e y):E7 x y=true∧decide (x=y)=cX d e:=by
 cases d <;> cases e <;> first
  | (simp [AV] at h;done)
  | (simp only [Dat] at dx dy;subst dx;subst dy;refine ⟨rfl,?_⟩;rw [Bool.eq_iff_iff];simp [cX])
theorem mG {P:Program} {w:World} (ok:jN P w H s.heap) {K:PySem.W.Frag} {A:Around} {ds es:List D} {xs ys:List V} {its its2:List Value} {n:Nat} (hu:A.units+n < cLine) (pd:ds.all (plain n)=true) (pe:es.all (plain n)=true) (hx:aG K H ds xs) (hy:aG K H es ys) (rv:Vals xs its) (qV:Vals ys its2) :
 ∀ j (h1:j < its.toArray.size) (h2:j < its2.toArray.size),SeqAt.EqAt A s its.toArray[j] its2.toArray[j] (cX (ds.getD j .bE) (es.getD j .bE)):=by
 intro j h1 h2
 have hl1:=hx.length.trans rv.length
 have hl2:=hy.length.trans qV.length
 simp only [List.size_toArray] at h1 h2
 have e1:ds[j]?=some (ds.getD j .bE):=by rw [List.getD_eq_getElem?_getD,List.getElem?_eq_getElem (by omega)];rfl
 have e2:es[j]?=some (es.getD j .bE):=by rw [List.getD_eq_getElem?_getD,List.getElem?_eq_getElem (by omega)];rfl
 obtain ⟨x1,g1,g2⟩:=hx.get e1
 obtain ⟨y1,g3,g4⟩:=hy.get e2
 obtain ⟨u1,g5,g6⟩:=rv.get g1
 obtain ⟨v1,g7,g8⟩:=qV.get g3
 have q1:its.toArray[j]=u1:=by
  have:its[j]=u1:=Option.some.inj ((List.getElem?_eq_getElem (by omega)).symm.trans g5)
  simpa using this
 have q2:its2.toArray[j]=v1:=by
  have:its2[j]=v1:=Option.some.inj ((List.getElem?_eq_getElem (by omega)).symm.trans g7)
  simpa using this
 rw [q1,q2]
 exact AU ok n A _ _ x1 y1 u1 v1 hu (pA pd e1) (pA pe e2) g2 g4 g6 g8
theorem cV (hu:X.A.units+64 < cLine):nD X (compareOp .Eq) KJ:=by
 constructor
 intro pins s σ H M x y d e v u Q I rm rx ry dx dy ⟨hk,q⟩
 by_cases ht:∃ ds es,d= .tup ds∧e= .tup es
 ·obtain ⟨ds,es,rfl,rfl⟩:=ht
  have hk:(plain 10 (.tup ds) && plain 10 (.tup es))=true:=hk
  rw [Bool.and_eq_true] at hk
  obtain ⟨a,xs,rfl,ha,hx⟩:=bP.mp dx
  obtain ⟨b,ys,rfl,hb,hy⟩:=bP.mp dy
  obtain rfl:v=Value.ref a:=rx
  obtain rfl:u=Value.ref b:=ry
  obtain ⟨its,rv,pt,hz⟩:=fG I.hok ha
  obtain ⟨its2,qV,rS,hz2⟩:=fG I.hok hb
  have hl1:=hx.length.trans rv.length
  have hl2:=hy.length.trans qV.length
  refine SeqAt.RcAt.tuples (A:=X.A) (s:=s) (e:=fun j=>cX (ds.getD j .bE) (es.getD j .bE)) pt rS (by omega) (mG I.hok (n:=9) (by show X.A.units+1+9 < cLine;omega) (by simpa [plain] using hk.1) (by simpa [plain] using hk.2) hx hy rv qV) _ _ _ _ ?_
  refine ⟨.bl _,H,I,rfl,aM rm (bA.mpr rfl) ?_⟩
  simp only [List.size_toArray,← hl1,← hl2]
  rw [gQ,gC] at q
  exact q
 ·have hs:AV d e=true:=by
   unfold CZ at hk
   split at hk
   ·exact absurd ⟨_,_,rfl,rfl⟩ ht
   ·exact hk
  obtain ⟨h1,h2⟩:=AW hs dx dy
  exact Hq pins s σ H x y v u _ I rx ry ⟨h1,by rw [h2];exact aM rm (bA.mpr rfl) q⟩
theorem oQ (hu:X.A.units+64 < cLine):nD X (compareOp .NotEq) KL:=by
 constructor
 intro pins s σ H M x y d e v u Q I rm rx ry dx dy ⟨hk,q⟩
 by_cases ht:∃ ds es,d= .tup ds∧e= .tup es
 ·obtain ⟨ds,es,rfl,rfl⟩:=ht
  have hk:(plain 10 (.tup ds) && plain 10 (.tup es))=true:=hk
  rw [Bool.and_eq_true] at hk
  obtain ⟨a,xs,rfl,ha,hx⟩:=bP.mp dx
  obtain ⟨b,ys,rfl,hb,hy⟩:=bP.mp dy
  obtain rfl:v=Value.ref a:=rx
  obtain rfl:u=Value.ref b:=ry
  obtain ⟨its,rv,pt,hz⟩:=fG I.hok ha
  obtain ⟨its2,qV,rS,hz2⟩:=fG I.hok hb
  have hl1:=hx.length.trans rv.length
  have hl2:=hy.length.trans qV.length
  refine SeqAt.RcNeAt.tuples (A:=X.A) (s:=s) (e:=fun j=>cX (ds.getD j .bE) (es.getD j .bE)) pt rS (by omega) (mG I.hok (n:=9) (by show X.A.units+1+9 < cLine;omega) (by simpa [plain] using hk.1) (by simpa [plain] using hk.2) hx hy rv qV) _ _ _ _ ?_
  refine ⟨.bl _,H,I,rfl,aM rm (bA.mpr rfl) ?_⟩
  simp only [List.size_toArray,← hl1,← hl2]
  rw [gQ,gC] at q
  exact q
 ·have hs:AV d e=true:=by
   unfold CZ at hk
   split at hk
   ·exact absurd ⟨_,_,rfl,rfl⟩ ht
   ·exact hk
  obtain ⟨h1,h2⟩:=AW hs dx dy
  exact Hr pins s σ H x y v u _ I rx ry ⟨h1,by rw [h2];exact aM rm (bA.mpr rfl) q⟩
noncomputable def Js (K:PySem.W.Frag) (H:Hp) (v:V):D:=open Classical in if h:∃ d,plain 9 d=true∧Dat K H d v then h.choose else .bE
theorem Fw {K:PySem.W.Frag} {d:D} {v:V} (p:plain 9 d=true) (h:Dat K H d v):Js K H v=d:=by
 have hx:∃ d,plain 9 d=true∧Dat K H d v:=⟨d,p,h⟩
 unfold Js
 rw [dif_pos hx]
 exact Dat.inj 9 _ _ v hx.choose_spec.1 p hx.choose_spec.2 h
noncomputable def Cs (K:PySem.W.Frag) (H:Hp) (d:D) (u:Value):Bool:=match G9 u with
 | some v=>cX (Js K H v) d
 | none=>false
theorem AX {K:PySem.W.Frag} {d e:D} {v:V} {u:Value} (p:plain 9 e=true) (h:Dat K H e v) (r:RelV v u):Cs K H d u=cX e d:=by
 unfold Cs
 rw [r.abs]
 show cX (Js K H v) d=_
 rw [Fw p h]
theorem tW {K:PySem.W.Frag} {d:D}:∀ {es:List D} {xs:List V} {us:List Value},aG K H es xs→Vals xs us→es.all (plain 9)=true→us.any (Cs K H d)=es.any fun e=>cX e d
 | [],xs,us,h,r,_=>by rw [aP.mp h] at r;cases r;rfl
 | e :: es,xs,us,h,r,p=>by
   obtain ⟨v,vs,rfl,h1,h2⟩:=aH.mp h
   cases r with
   | cons r rr=>
     rw [List.all_cons,Bool.and_eq_true] at p
     rw [List.any_cons,List.any_cons,AX p.1 h1 r,tW h2 rr p.2]
theorem tX {P:Program} {w:World} (ok:jN P w H s.heap) {K:PySem.W.Frag} {A:Around} {d:D} {x:V} {v:Value} (hu:A.units+9 < cLine) (pd:plain 9 d=true) (dx:Dat K H d x) (rx:RelV x v) :
 ∀ {es:List D} {xs:List V} {us:List Value},aG K H es xs→Vals xs us→es.all (plain 9)=true→∀ u∈us,SeqAt.EqAt A s u v (Cs K H d u)
 | [],xs,us,h,r,_,u,hm=>by rw [aP.mp h] at r;cases r;cases hm
 | e :: es,xs,us,h,r,p,u,hm=>by
   obtain ⟨y,ys,rfl,h1,h2⟩:=aH.mp h
   cases r with
   | cons r rr=>
     rw [List.all_cons,Bool.and_eq_true] at p
     rcases List.mem_cons.mp hm with rfl | hm
     ·rw [AX p.1 h1 r]
      exact AU ok 9 A _ _ _ _ _ _ hu p.1 pd h1 dx r rx
     ·exact tX ok hu pd dx rx h2 rr p.2 u hm
def inD (d:D) (es:List D):Bool:=es.any fun e=>cX e d
def KN (M:Mp) (e:D) (es:List D):Prop:=e= .tup es∨∃ a,e= .ref a∧M a=some (.lst es)
def KO (neg:Bool):R3:=fun d e M Q=> ∃ es,KN M e es∧plain 9 d=true∧es.all (plain 9)=true∧Q (.bl (if neg then !inD d es else inD d es)) M
theorem yq (hu:X.A.units+64 < cLine):nD X (compareOp .NotIn) (KO true):=by
 constructor
 intro pins s σ H M x y d e v u Q I rm rx ry dx dy ⟨es,hs,pd,pe,q⟩
 rcases hs with rfl | ⟨a,rfl,hM⟩
 ·obtain ⟨b,ys,rfl,hb,hy⟩:=bP.mp dy
  obtain rfl:u=Value.ref b:=ry
  obtain ⟨its,rv,pt,hz⟩:=fG I.hok hb
  refine SeqAt.notIn_tupleAt (Cs X.K H d) pt (fun w hw=>tX I.hok (by show X.A.units+1+9 < cLine;omega) pd dx rx hy rv pe w (by simpa using hw)) ⟨.bl _,H,I,rfl,aM rm (bA.mpr rfl) ?_⟩
  rw [show its.toArray.any (Cs X.K H d)=its.any (Cs X.K H d) by simp,tW hy rv pe]
  exact q
 ·obtain rfl:=aV.mp dy
  obtain rfl:u=Value.ref a:=ry
  obtain ⟨ys,hb,hy⟩:=rm.lst hM
  obtain ⟨its,rv,pl,hz⟩:=I.list (jw.of hb)
  refine SeqAt.notIn_listAt (Cs X.K H d) pl.isList (fun w hw=>tX I.hok (by show X.A.units+1+9 < cLine;omega) pd dx rx hy rv pe w (by simpa using hw)) ⟨.bl _,H,I,rfl,aM rm (bA.mpr rfl) ?_⟩
  rw [show its.toArray.any (Cs X.K H d)=its.any (Cs X.K H d) by simp,tW hy rv pe]
  exact q
theorem nG {K:PySem.W.Frag}:∀ {ns:List Int} {xs:List V},aG K H (ns.map D.int) xs→xs=ns.map V.int
 | [],xs,h=>aP.mp h
 | n :: ns,xs,h=>by
   obtain ⟨v,vs,rfl,h1,h2⟩:=aH.mp h
   rw [aJ.mp h1,nG h2];rfl
def Hy:R3:=fun d e M Q=> ∃ ns ms:List Int,d= .tup (ns.map D.int)∧e= .tup (ms.map D.int)∧Q (.bl (HT.lexLt ns ms)) M
theorem HQ (hu:X.A.units+64 < cLine):nD X (compareOp .Lt) Hy:=by
 constructor
 intro pins s σ H M x y d e v u Q I rm rx ry dx dy ⟨ns,ms,e1,e2,q⟩
 subst e1;subst e2
 obtain ⟨a,xs,rfl,ha,hx⟩:=bP.mp dx
 obtain ⟨b,ys,rfl,hb,hy⟩:=bP.mp dy
 obtain rfl:v=Value.ref a:=rx
 obtain rfl:u=Value.ref b:=ry
 obtain ⟨its,rv,pt,hz⟩:=fG I.hok ha
 obtain ⟨its2,qV,rS,hz2⟩:=fG I.hok hb
 rw [nG hx] at rv
 rw [nG hy] at qV
 exact HT.pK pt rS (by simpa using intsAre_of rv) (by simpa using intsAre_of qV) (by omega) ⟨.bl _,H,I,rfl,aM rm (bA.mpr rfl) q⟩
end
end L3
namespace L3
open PySem PySem.Spec PyProof.Rows L2
section
variable {X:Cx} {a b c e:Expr} {es:List Expr} {ta tb tc te:c6} {t:qQ} {pos p:Pos}
def HR:qQ:=fun _ M Q=>Q [] M
def Fx (ta:c6) (tr:qQ):qQ:=fun ρ M Q=>ta ρ M fun x M1=>tr ρ M1 fun xs M2=>Q (x :: xs) M2
theorem aj:wV X [] HR:=⟨fun pos pins s σ H ρ M Q I r h=>nu pos pins s σ H _ I ⟨[],M,.refl _ _,aP.mpr rfl,r.mem,h⟩⟩
theorem aa (ha:cN X e te) (hr:wV X es t) (hs:starEach (e :: es) X.env=(false,eval e X.env) :: starEach es X.env:=by rfl):wV X (e :: es) (Fx te t):=⟨fun pos pins s σ H ρ M Q I r h=>
 kN ha.dn hr.dn hs pos pins s σ H _ I (eB r h fun v H' d M' f dv r' q=>jT r' q fun vs H2 ds M2 f2 Al r2 q2=>
  ⟨d :: ds,M2,f.trans f2,aH.mpr ⟨v,vs,rfl,Dat.mono (f2.ext r'.mem) _ _ dv,Al⟩,r2.mem,q2⟩)⟩
def HS (t:qQ):c6:=fun ρ M Q=>t ρ M fun xs M1=>xs.length≤sizeLine∧Q (.tup xs) M1
def HU (t:qQ):c6:=fun ρ M Q=>t ρ M fun xs M1=>xs.length≤sizeLine∧∀ p,M1 p=none→Q (.ref p) (aC M1 p (.lst xs))
theorem cE {x1} (h:wV X es t):cN X (.Tuple es x1 pos) (HS t):=up (Fc h.dn) fun σ H ρ M Q r q=>jT r q fun vs H' ds M' f dv r' ⟨hl,q⟩=>
 ⟨by rw [← dv.length];exact hl,fun p hp=>⟨.tup ds,M',f.trans (Fr.new hp fun _ _=>rfl),bP.mpr ⟨p,vs,rfl,dW,aG.mono (Ext.new hp) _ _ dv⟩,r'.mem.new hp,q⟩⟩
theorem cW (h:wV X es t):cN X (.List es pos) (HU t):=up (Fd h.dn) fun σ H ρ M Q r q=>jT r q fun vs H' ds M' f dv r' ⟨hl,q⟩=>
 ⟨by rw [← dv.length];exact hl,fun p hp=>⟨.ref p,aC M' p (.lst ds),f.trans (Fr.new hp fun _ hb=>bC hb),aV.mpr rfl,r'.mem.newL hp dv,q p (r'.mem.free hp)⟩⟩
def HV (M:Mp) (e:D) (es:List D):Prop:=e= .tup es∨e= .tV es∨∃ a,e= .ref a∧M a=some (.lst es)
def KP:R3:=fun d e M Q=> ∃ xs i z,HV M d xs∧e= .int i∧mq xs i=some z∧Q z M
theorem Fy {α β:Type} {xs:List α} {ys:List β} (h:xs.length=ys.length) {i:Int} {z:α} (e:mq xs i=some z):∃ j,Am ys.length i=some j∧xs[j]?=some z:=by
 unfold mq at e
 rw [h] at e
 cases q:Am ys.length i with
 | none=>rw [q] at e;cases e
 | some j=>rw [q] at e;exact ⟨j,rfl,e⟩
theorem pO {K:PySem.W.Frag} {H:Hp} {ds:List D} {xs:List V} (h:aG K H ds xs) {i:Int} {z:D} (e:mq ds i=some z):∃ v,mq xs i=some v∧Dat K H z v:=by
 obtain ⟨j,h1,h2⟩:=Fy h.length e
 obtain ⟨v,h3,h4⟩:=h.get h2
 refine ⟨v,?_,h4⟩
 unfold mq
 rw [h1]
 exact h3
theorem aE (ha:cN X a ta) (hb:cN X b tb) (hs:yh b:=by intro _ _;rfl):cN X (.Subscript a b pos) (CW KP ta tb):=up (Hz (CQ.or Fi) ha.dn hb.dn hs) fun σ H ρ M Q r q=>
 eB r q fun v H' d M' f dv r' q=>eB r' q fun u H2 e M2 f2 du r2 ⟨xs,i,z,hq,ei,at',q⟩=>by
  subst ei
  obtain rfl:=aJ.mp du
  have KQ:=Dat.mono (f2.ext r'.mem) _ _ dv
  have fin:∀ w,Dat X.K H2 z w→Post X.K M H Q w H2:=fun w dw=>⟨z,M2,f.trans f2,dw,r2.mem,q⟩
  rcases hq with rfl | rfl | ⟨l,rfl,hl⟩
  ·obtain ⟨p,ys,rfl,hp,hy⟩:=bP.mp KQ
   obtain ⟨w,h1,h2⟩:=pO hy at'
   exact .inr ⟨p,ys,i,w,rfl,rfl,Cq.of hp,h1,fin w h2⟩
  ·obtain ⟨p,ys,rfl,hp,hy⟩:=mC.mp KQ
   obtain ⟨w,h1,h2⟩:=pO hy at'
   exact .inl ⟨p,ys,i,w,rfl,rfl,hp.sq,h1,fin w h2⟩
  ·obtain rfl:=aV.mp KQ
   obtain ⟨ys,hp,hy⟩:=r2.mem.lst hl
   obtain ⟨w,h1,h2⟩:=pO hy at'
   exact .inl ⟨l,ys,i,w,rfl,rfl,jw.of hp,h1,fin w h2⟩
structure Call3 (X:Cx) (f:Value) (t:List D→Mp→DK→Prop):Prop where
 run:∀ (pins:List (Addr ×Obj)) (s:Shared) (σ:St) (H:Hp) (M:Mp) (xs:List V) (ds:List D) (us:List Value) (Q:DK),Inv X pins σ H s→cy X.K H M→Vals xs us→aG X.K H ds xs→t ds M Q→
  wpAny (model X.prog X.w) X.A (call f us) (EP X pins σ (Post X.K M H Q)) X.xe s
theorem yr {f:Value} {r:List V→Hp→VK→Prop} {t:List D→Mp→DK→Prop} (h:vm X f r) (g:∀ H M xs ds Q,cy X.K H M→aG X.K H ds xs→t ds M Q→r xs H (Post X.K M H Q)):Call3 X f t:=
 ⟨fun pins s σ H M xs ds us Q I rm rs dx q=>h pins s σ H xs us _ I rs (g H M xs ds Q rm dx q)⟩
def HW (r:List D→Mp→DK→Prop) (t:qQ):c6:=fun ρ M Q=>t ρ M fun ds M1=>r ds M1 Q
variable {x:Str} {id T:String} {r:List D→Mp→DK→Prop}
theorem aF (hc:Call3 X (.builtin id) r) (hg:Gl X x) (hm:X.mg x=none) (hv:bootBuiltins x=some (.builtin id)) (ha:wV X (e :: es) t) (hn:x≠"__name__" :=by decide) (hdb:(x == ("__debug__" :Str))=false:=by decide)
 (he:starEach (e :: es) X.env=(false,eval e X.env) :: starEach es X.env:=by rfl) (hpl:(backTo pos (starEach es X.env)).any (·.1)=false:=by rfl):cN X (.Call (.Name x p) (e :: es) [] pos) (HW r t):=by
 constructor
 intro pins s σ H ρ M Q I r h
 refine wpAny_Call_Name_kw (jO I hg hm hv ?_ hn hdb)
 refine PyProof.Rows.callWith_builtin1 (cZ (ha.run pos pins s σ H ρ M _ I r h) fun us s1 ⟨vs,H1,I1,r1,ds,M1,f1,d1,nj,q1⟩=>?_) he hpl
 exact cZ (hc.run pins s1 σ H1 M1 vs ds us Q I1 nj r1 d1 q1) fun _ _ ⟨z,H3,I3,r3,p⟩=>⟨z,H3,I3,r3,p.back f1⟩
theorem AY (hc:Call3 X (.type T) r) (hg:Gl X x) (hm:X.mg x=none) (hv:bootBuiltins x=some (.type T)) (ha:wV X (e :: es) t) (hn:x≠"__name__" :=by decide) (hdb:(x == ("__debug__" :Str))=false:=by decide)
 (he:starEach (e :: es) X.env=(false,eval e X.env) :: starEach es X.env:=by rfl) (hpl:(backTo pos (starEach es X.env)).any (·.1)=false:=by rfl):cN X (.Call (.Name x p) (e :: es) [] pos) (HW r t):=by
 constructor
 intro pins s σ H ρ M Q I r h
 refine wpAny_Call_Name_kw (jO I hg hm hv ?_ hn hdb)
 refine PyProof.Rows.callWith_type1 (cZ (ha.run pos pins s σ H ρ M _ I r h) fun us s1 ⟨vs,H1,I1,r1,ds,M1,f1,d1,nj,q1⟩=>?_) he hpl
 exact cZ (hc.run pins s1 σ H1 M1 vs ds us Q I1 nj r1 d1 q1) fun _ _ ⟨z,H3,I3,r3,p⟩=>⟨z,H3,I3,r3,p.back f1⟩
theorem jU {K:PySem.W.Frag} {H:Hp} {d:D} {xs:List V} (h:aG K H [d] xs):∃ v,xs= [v]∧Dat K H d v:=by
 obtain ⟨v,vs,rfl,h1,h2⟩:=aH.mp h
 rw [aP.mp h2]
 exact ⟨v,rfl,h1⟩
theorem vv {K:PySem.W.Frag} {H:Hp} {d e:D} {xs:List V} (h:aG K H [d,e] xs):∃ v u,xs= [v,u]∧Dat K H d v∧Dat K H e u:=by
 obtain ⟨v,vs,rfl,h1,h2⟩:=aH.mp h
 obtain ⟨u,rfl,h3⟩:=jU h2
 exact ⟨v,u,rfl,h1,h3⟩
def KR:List D→Mp→DK→Prop:=fun ds M Q=> ∃ i:Int,ds= [.int i]∧Q (.int (i.natAbs:Int)) M
theorem Eb:Call3 X (.builtin "abs") KR:=yr AD fun H M xs ds Q rm dx ⟨i,ei,q⟩=>by
 subst ei
 obtain ⟨v,rfl,hv⟩:=jU dx
 obtain rfl:=aJ.mp hv
 refine ⟨i,rfl,aM rm (aJ.mpr rfl) ?_⟩
 have e:(if i < 0 then -i else i)=(i.natAbs:Int):=by split <;> omega
 rw [e]
 exact q
def KS:List D→Mp→DK→Prop:=fun ds M Q=> ∃ d xs,ds= [d]∧HV M d xs∧Q (.int xs.length) M
theorem cJ:Call3 X (.builtin "len") KS:=yr tT fun H M xs ds Q rm dx ⟨d,ys,ei,hs,q⟩=>by
 subst ei
 obtain ⟨v,rfl,hv⟩:=jU dx
 rcases hs with rfl | rfl | ⟨l,rfl,hl⟩
 ·obtain ⟨p,zs,rfl,hp,hz⟩:=bP.mp hv
  exact ⟨p,zs,rfl,.inr (Cq.of hp),aM rm (aJ.mpr (by rw [hz.length])) q⟩
 ·obtain ⟨p,zs,rfl,hp,hz⟩:=mC.mp hv
  exact ⟨p,zs,rfl,.inl hp.sq,aM rm (aJ.mpr (by rw [hz.length])) q⟩
 ·obtain rfl:=aV.mp hv
  obtain ⟨zs,hp,hz⟩:=rm.lst hl
  exact ⟨l,zs,rfl,.inl (jw.of hp),aM rm (aJ.mpr (by rw [hz.length])) q⟩
def HX:List D→Mp→DK→Prop:=fun ds M Q=> ∃ i j:Int,ds= [.int i,.int j]∧Q (.int (min i j)) M
theorem FA (hc:X.calm=true):Call3 X (.builtin "min") HX:=yr (zq hc) fun H M xs ds Q rm dx ⟨i,j,ei,q⟩=>by
 subst ei
 obtain ⟨v,u,rfl,hv,hu⟩:=vv dx
 obtain rfl:=aJ.mp hv
 obtain rfl:=aJ.mp hu
 refine ⟨i,j,rfl,aM rm (aJ.mpr rfl) ?_⟩
 have e:(if j < i then j else i)=min i j:=by split <;> omega
 rw [e]
 exact q
inductive AZ (M:Mp):D→String→Prop where
 | bE:AZ M .bE "NoneType"
 | bl (b:Bool):AZ M (.bl b) "bool"
 | int (i:Int):AZ M (.int i) "int"
 | str (x:Str):AZ M (.str x) "str"
 | tup (ds:List D):AZ M (.tup ds) "tuple"
 | lst {a:Addr} {ds:List D} (h:M a=some (.lst ds)):AZ M (.ref a) "list"
 | dct:AZ M (.D6 "dict") "dict"
def KU (K:PySem.W.Frag):List D→Mp→DK→Prop:=fun ds M Q=> ∃ d n m b,ds= [d,.ty m]∧AZ M d n∧PySem.W.kitOne K (.type n) (.type m)=some b∧Q (.bl b) M
theorem bN:Call3 X (.builtin "isinstance") (KU X.K):=by
 constructor
 intro pins s σ H M xs ds us Q I rm rs dx ⟨d,n,m,b,ei,ty,hk,q⟩
 subst ei
 obtain ⟨v,u,rfl,hv,hu⟩:=vv dx
 obtain rfl:=wU.mp hu
 obtain ⟨v',u',rfl,r1,r2⟩:=vals2 rs
 obtain rfl:u'=Value.type m:=r2
 have fin:∀ tk,EP X pins σ (Post X.K M H Q) (.bool b) { s with toks:=tk }:=fun tk=>⟨.bl b,H,I.tok tk,rfl,aM rm (bA.mpr rfl) q⟩
 cases ty with
 | bE=>obtain rfl:=cM.mp hv;exact gm I r1 .bE hk fin
 | bl k=>obtain rfl:=bA.mp hv;exact gm I r1 (.bl k) hk fin
 | int i=>obtain rfl:=aJ.mp hv;exact gm I r1 (.int i) hk fin
 | str z=>obtain rfl:=fX.mp hv;exact gm I r1 (.str z) hk fin
 | tup zs=>
   obtain ⟨p,ys,rfl,hp,hy⟩:=bP.mp hv
   exact gm I r1 (.tup hp) hk fin
 | lst hM=>
   obtain rfl:=aV.mp hv
   obtain ⟨ys,hp,hy⟩:=rm.lst hM
   exact gm I r1 (.lst hp) hk fin
 | dct=>
   obtain ⟨p,o,u,rfl,hp,hc⟩:=ym.mp hv
   cases (show v'=Value.ref p from r1)
   obtain ⟨h1,_⟩:=(show dj X.prog X.w H s.heap p (.mh o u) from I.hok p _ hp)
   exact PySem.W.kia_one PySem.W.kitx_dict I.u7 ⟨o,h1,hc⟩ hk (fun z=>nomatch z) fin
abbrev sA:=List D→(D→Prop)→Prop
def qW (K:PySem.W.Frag) (S:sA):Sp:=fun vs H Q _=> ∃ ds Q0,aG K H ds vs∧S ds Q0∧∀ d v H',Q0 d→Dat K H' d v→(∀ b o,H b=some o→H' b=some o)→Q v H'
abbrev pB:=List D→Mp→DK→Prop
def pP (K:PySem.W.Frag) (S:pB):Sp:=fun vs H Q _=> ∃ ds M Q0,aG K H ds vs∧cy K H M∧S ds M Q0∧∀ d M' v H',Q0 d M'→Dat K H' d v→cy K H' M'→Fr M H M' H'→Q v H'
theorem mH {K:PySem.W.Frag} {H:Hp} {ds:List D} {vs:List V} (h:aG K H ds vs):aG K H ds (vs ++ []):=by simpa using h
theorem Ext.keep {H H':Hp} (h:∀ b o,H b=some o→H' b=some o):Ext H H':=⟨fun b _ e=>h b _ e,fun b _ _ e=>h b _ e⟩
theorem cy.keep {K:PySem.W.Frag} {H H':Hp} {M:Mp} (r:cy K H M) (h:∀ b o,H b=some o→H' b=some o):cy K H' M:=fun a o e=>(r a o e).mono (Ext.keep h) fun u q=>h _ _ q
variable {k:Nat} {f:Addr} {fd:FuncData} {ps:List Str}
def FD (S:sA) (t:qQ):c6:=fun ρ M Q=>t ρ M fun ds M1=>S ds fun d=>Q d M1
def FE (S:pB) (t:qQ):c6:=fun ρ M Q=>t ρ M fun ds M1=>S ds M1 Q
theorem aL {S:sA} (F:cg X.prog X.w X.K X.mg X.base fE k f fd ps (qW X.K S)) (hr:gZ k X.A) (hg:Gl X x) (hm:X.mg x=some (.ref f)) (hk:PySem.W.keepIn X.K (.ref f)=true) (hb:Binds X.K fd ps [])
 (ha:wV X (e :: es) t) (hdb:(x == ("__debug__" :Str))=false:=by decide) (he:starEach (e :: es) X.env=(false,eval e X.env) :: starEach es X.env:=by rfl) (hpl:(backTo pos (starEach es X.env)).any (·.1)=false:=by rfl) :
 cN X (.Call (.Name x p) (e :: es) [] pos) (FD S t):=
 up (yd (Al:=[]) (E:=E0) F hr hg hm hk hb .nil D5 ha.dn hdb he hpl) fun σ H ρ M Q r q=>jT r q fun vs H' ds M' f dv r' q=>
  ⟨ds,_,mH dv,q,fun d v H2 q2 d2 kp=>⟨d,M',f.trans fun b o n e=>⟨kp b o e,n⟩,d2,r'.mem.keep kp,q2⟩⟩
theorem bW {S:pB} (F:cg X.prog X.w X.K X.mg X.base fE k f fd ps (pP X.K S)) (hr:gZ k X.A) (hg:Gl X x) (hm:X.mg x=some (.ref f)) (hk:PySem.W.keepIn X.K (.ref f)=true) (hb:Binds X.K fd ps [])
 (ha:wV X (e :: es) t) (hdb:(x == ("__debug__" :Str))=false:=by decide) (he:starEach (e :: es) X.env=(false,eval e X.env) :: starEach es X.env:=by rfl) (hpl:(backTo pos (starEach es X.env)).any (·.1)=false:=by rfl) :
 cN X (.Call (.Name x p) (e :: es) [] pos) (FE S t):=
 up (yd (Al:=[]) (E:=E0) F hr hg hm hk hb .nil D5 ha.dn hdb he hpl) fun σ H ρ M Q r q=>jT r q fun vs H' ds M' f dv r' q=>
  ⟨ds,M',_,mH dv,r'.mem,q,fun d M2 v H2 q2 d2 Ea f2=>⟨d,M2,f.trans f2,d2,Ea,q2⟩⟩
end
section
variable {X:Cx} {st:Stmt} {rest:List Stmt} {t u:kX} {e:Expr} {te:c6} {pos:Pos}
def FF:kX:=fun D ρ M=>D.nx ρ M
def HY (t u:kX):kX:=fun D ρ M=>t { D with nx:=u D } ρ M
theorem wW.dn {st:Stmt} {t:kX} (h:wW X st t):PS X st (Jp X.K t):=fun pins s σ H D' I ⟨ρ,M,D,r,q,k1,k2,k3,k4⟩=>
 cZ (h.run pins s σ H ρ M D I r q) fun f s' z=>by
  cases f with
  | next=>obtain ⟨σ',H',I',p⟩:=z;exact ⟨σ',H',I',k1 _ _ p⟩
  | brk=>obtain ⟨σ',H',I',p⟩:=z;exact ⟨σ',H',I',k3 _ _ p⟩
  | cont=>obtain ⟨σ',H',I',p⟩:=z;exact ⟨σ',H',I',k4 _ _ p⟩
  | ret u=>obtain ⟨v,σ',H',I',rv,p⟩:=z;exact ⟨v,σ',H',I',rv,k2 _ _ p⟩
theorem FG {sts:List Stmt} {te:TS} {t:kX} (h:wN X sts te) (g:∀ σ H ρ M D,Rep X.K H σ ρ M→t D ρ M→te (ends X.K M H D) σ H):jS X sts t:=
 ⟨fun pins s σ H ρ M D I r q=>h pins s σ H _ I (g σ H ρ M D r q)⟩
theorem mJ {K:PySem.W.Frag} {M0:Mp} {H0:Hp} {σ:St} {H:Hp} {ρ:En} {M:Mp} {D:D8} {t:kX} (f:Fr M0 H0 M H) (r:Rep K H σ ρ M) (q:t D ρ M):Jp K t (ends K M0 H0 D) σ H:=
 ⟨ρ,M,D,r,q,fun _ _ p=>p.back f,fun _ _ p=>p.back f,fun _ _ p=>p.back f,fun _ _ p=>p.back f⟩
theorem aU:jS X [] FF:=FG CC fun σ H ρ M D r q=>⟨ρ,M,.refl _ _,r,q⟩
theorem au (h1:wW X st t) (h2:jS X rest u):jS X (st :: rest) (HY t u):=FG (Aw h1.dn h2.dn) fun σ H ρ M D r q=>
 ⟨ρ,M,_,r,q,fun σ' H' ⟨ρ',M',f,r',q'⟩=>mJ f r' q',fun _ _ p=>p,fun _ _ p=>p,fun _ _ p=>p⟩
theorem aB (h1:wW X st t):jS X [st] t:=FG (CD h1.dn) fun σ H ρ M D r q=>mJ (.refl _ _) r q
def FH (te:c6):kX:=fun D ρ M=>te ρ M fun _ M1=>D.nx ρ M1
theorem nH (he:cN X e te) (hs:swapsWith e none pos.line X.env=pure false:=by rfl):wW X (.Expr e pos) (FH te):=D9 (CF he.dn hs) fun σ H ρ M D r q=>eB r q fun v H' d M' f dv r' q=>⟨ρ,M',f,r',q⟩
def HZ (te:c6):kX:=fun D ρ M=>te ρ M D.rt
theorem aD (he:cN X e te):wW X (.Return (some e) pos) (HZ te):=D9 (ES he.dn) fun σ H ρ M D r q=>⟨ρ,M,_,r,q,fun _ _ p=>p⟩
def Ia (c:kW) (t u:kX):kX:=fun D ρ M=>c ρ M fun b M1=>if b=true then t D ρ M1 else u D ρ M1
theorem bX {c:Expr} {a b:List Stmt} {tc:kW} (hc:vt X c tc) (ha:jS X a t) (hb:jS X b u):wW X (.If c a b pos) (Ia tc t u):=D9 (Hh hc.dn ha.dn hb.dn) fun σ H ρ M D r q=>ny r q fun k H' M' f r' q=>by
 cases k with
 | true=>exact mJ f r' q
 | false=>exact mJ f r' q
def Ec (i:Nat) (te:c6):kX:=fun D ρ M=>te ρ M fun x M1=>D.nx (ρ.set i (some x)) M1
theorem aS {i:Nat} {x:Str} {pos':Pos} (hN:X.N.Nodup) (hi:X.N[i]?=some x) (hx:Loc X.env.scope x) (he:cN X e te) (hs:swapsWith e (some (.Name x pos')) pos.line X.env=pure false:=by rfl) (hf:X.fn x=true∨X.env.scope.names.lookup x=some .local:=by first | exact .inl rfl | exact .inr rfl | assumption) :
 wW X (.Assign [.Name x pos'] e pos) (Ec i te):=D9 (ET hN hi hx he.dn hs hf) fun σ H ρ M D r q=>eB r q fun v H' d M' f dv r' q=>⟨ρ.set i (some d),M',f,r'.set dv,q⟩
abbrev Ct:=D→En→Mp→(En→Mp→Prop)→Prop
abbrev KW:=List D→En→Mp→(En→Mp→Prop)→Prop
structure Ib (X:Cx) (target:Expr) (t:Ct):Prop where
 run:∀ (pins:List (Addr ×Obj)) (s:Shared) (σ:St) (H:Hp) (ρ:En) (M:Mp) (v:V) (d:D) (u:Value) (Q:En→Mp→Prop),Inv X pins σ H s→Rep X.K H σ ρ M→RelV v u→Dat X.K H d v→t d ρ M Q→
  wpAny (model X.prog X.w) X.A (assign target X.env u) (fun _ s'=> ∃ σ' H',Inv X pins σ' H' s'∧iL X.K M H Q σ' H') X.xe s
structure NR (X:Cx) (ts:List Expr) (t:KW):Prop where
 run:∀ (pins:List (Addr ×Obj)) (s:Shared) (σ:St) (H:Hp) (ρ:En) (M:Mp) (vs:List V) (ds:List D) (us:List Value) (Q:En→Mp→Prop),Inv X pins σ H s→Rep X.K H σ ρ M→Vals vs us→aG X.K H ds vs→t ds ρ M Q→
  wpAny (model X.prog X.w) X.A (assignInOrder ((assignEach ts X.env).map (·.2)) us) (fun _ s'=> ∃ σ' H',Inv X pins σ' H' s'∧iL X.K M H Q σ' H') X.xe s
def FI (i:Nat):Ct:=fun d ρ M Q=>Q (ρ.set i (some d)) M
theorem dJ {i:Nat} {x:Str} (hN:X.N.Nodup) (hi:X.N[i]?=some x) (hx:Loc X.env.scope x) (hf:X.fn x=true∨X.env.scope.names.lookup x=some .local:=by first | exact .inl rfl | exact .inr rfl | assumption):Ib X (.Name x pos) (FI i):=
 ⟨fun pins s σ H ρ M v d u Q I r rv dv q=>CG hN hi hx hf pins s σ H v u _ I rv ⟨ρ.set i (some d),M,.refl _ _,r.set dv,q⟩⟩
def Ic (i j:Nat) (ta:qQ):kX:=fun D ρ M=>ta ρ M fun vs M1=> ∃ v w,vs= [v,w]∧D.nx ((ρ.set i (some v)).set j (some w)) M1
theorem Ie {i j:Nat} {x y:Str} {a b:Expr} {ta:qQ} {px py pt:Pos} {kt k2 rS} (hc:X.calm=true) (hN:X.N.Nodup) (hi:X.N[i]?=some x) (hj:X.N[j]?=some y) (hij:i≠j)
 (hx:X.env.scope.names.lookup x=some .local) (hy:X.env.scope.names.lookup y=some .local) (ha:wV X [a,b] ta)
 (hw:swappedStores [.Tuple [.Name x px,.Name y py] kt pt] (.Tuple [a,b] k2 rS) X.env=pure (some [x,y]):=by rfl)
 (hs:swapsWithSole [.Tuple [.Name x px,.Name y py] kt pt] (.Tuple [a,b] k2 rS) pos.line X.env=pure false:=by rfl) :
 wW X (.Assign [.Tuple [.Name x px,.Name y py] kt pt] (.Tuple [a,b] k2 rS) pos) (Ic i j ta):=D9 (EU hc hN hi hj hij hx hy ha.dn hw hs) fun σ H ρ M D r q=>jT r q fun vs H' ds M' f dv r' ⟨d1,d2,e1,q⟩=>by
 subst e1
 obtain ⟨v,w,rfl,h1,h2⟩:=vv dv
 exact ⟨v,w,rfl,_,M',f,(r'.set h1).set h2,q⟩
variable {o:Expr} {to:c6} {es:List Expr} {t3:qQ} {apos:Pos}
@[irreducible] def aQ (p:Prop):Prop:=p
theorem aQ.mk {p:Prop} (h:p):aQ p:=by unfold aQ;exact h
theorem aQ.out {p:Prop} (h:aQ p):p:=by unfold aQ at h;exact h
def C0 (c:kW) (tb:kX):kX:=fun D ρ M=> ∃ W:Nat→En→Mp→Prop,(∃ m,W m ρ M)∧∀ m ρ M,W m ρ M→
 c ρ M fun b M1=>if b=true then tb { D with nx:=fun ρ' M'=>aQ (∃ m',m' < m∧W m' ρ' M'),ct:=fun ρ' M'=>aQ (∃ m',m' < m∧W m' ρ' M'),bk:=D.nx } ρ M1 else D.nx ρ M1
theorem yt {c:Expr} {body:List Stmt} {tc:kW} {tb:kX} (hp:PassesOwn (model X.prog X.w) X.A X.env X.xe) (hc:vt X c tc) (hb:jS X body tb):wW X (.While c body [] pos) (C0 tc tb):=D9 (Ax hp hc.dn hb.dn) fun σ H ρ M D r ⟨W,⟨m0,w0⟩,turn⟩=>by
 refine ⟨fun m σ' H'=> ∃ ρ' M',Fr M H M' H'∧Rep X.K H' σ' ρ' M'∧W m ρ' M',⟨m0,ρ,M,.refl _ _,r,w0⟩,?_⟩
 rintro m σ1 H1 ⟨ρ1,M1,f1,r1,w1⟩
 refine ny r1 (turn m ρ1 M1 w1) fun k H2 M2 f2 r2 q=>?_
 cases k with
 | true=>
   refine ⟨fun σ' H'=> ∃ m',m' < m∧∃ ρ' M',Fr M H M' H'∧Rep X.K H' σ' ρ' M'∧W m' ρ' M',fun σ' H' z=>z,?_⟩
   have C3:=f1.trans f2
   refine ⟨ρ1,M2,_,r2,q,fun σ' H' ⟨ρ',M',f,r',z⟩=>let ⟨m',hm,w'⟩:=z.out;⟨m',hm,ρ',M',C3.trans f,r',w'⟩,fun _ _ p=>p.back C3,fun _ _ p=>p.back C3,fun σ' H' ⟨ρ',M',f,r',z⟩=>let ⟨m',hm,w'⟩:=z.out;⟨m',hm,ρ',M',C3.trans f,r',w'⟩⟩
 | false=>exact ⟨ρ1,M2,f1.trans f2,r2,q⟩
def runFor (gd:Mp→Prop) (g:Ct) (tb:kX) (D:D8):List L3.D→En→Mp→Prop
 | [],ρ,M=>gd M∧D.nx ρ M
 | x :: xs,ρ,M=>gd M∧g x ρ M fun ρ2 M2=>tb { D with nx:=runFor gd g tb D xs,ct:=runFor gd g tb D xs,bk:=D.nx } ρ2 M2
structure A0 (K:PySem.W.Frag) (J:It) (inv:Hp→Prop) (ds:List L3.D):Prop where
 go:∀ i H,i < ds.length→inv H→J.go i H
 CH:∀ i H x H',i < ds.length→inv H→J.CH i H x H'→H'=H∧∃ d,ds[i]?=some d∧Dat K H d x
 stop:∀ H,inv H→J.stop ds.length H
theorem Ib.dn {tg:Expr} {g:Ct} (h:Ib X tg g):PG X tg (fun v σ H Q=> ∃ ρ M d Q0,Rep X.K H σ ρ M∧Dat X.K H d v∧g d ρ M Q0∧∀ σ' H',iL X.K M H Q0 σ' H'→Q σ' H'):=
 fun pins s σ H v u Q I rv ⟨ρ,M,d,Q0,r,dv,q,k⟩=>cZ (h.run pins s σ H ρ M v d u Q0 I r rv dv q) fun _ _ ⟨σ',H',I',p⟩=>⟨σ',H',I',k _ _ p⟩
theorem vz {K:PySem.W.Frag} {J:It} {inv:Hp→Prop} {ds:List L3.D} {gd:Mp→Prop} {g:Ct} {tb:kX} {D:D8} {σ:St} {H H0:Hp} {ρ:En} {M M0:Mp} (hJ:A0 K J inv ds)
 (f0:Fr M0 H0 M H) (r:Rep K H σ ρ M)
 (stay:∀ M1 H1,Fr M H M1 H1→cy K H1 M1→gd M1→inv H1) (q:runFor gd g tb D ds ρ M) :
 ∃ W:Nat→Nat→St→Hp→Prop,(∃ m,W 0 m σ H)∧∀ i m σ H,W i m σ H→
   (J.stop i H∧(ends K M0 H0 D).nx σ H)∨(J.go i H∧∃ N:St→Hp→Prop,(∀ σ' H',N σ' H'→∃ m',m' < m∧W (i+1) m' σ' H')∧∀ x H',J.CH i H x H'→
     (∃ ρ M d Q0,Rep K H' σ ρ M∧Dat K H' d x∧g d ρ M Q0∧∀ σ2 H2,iL K M H' Q0 σ2 H2→Jp K tb { (ends K M0 H0 D) with nx:=N,ct:=N,bk:=(ends K M0 H0 D).nx } σ2 H2)):=by
 refine ⟨fun i m σ1 H1=>m=ds.length - i∧i≤ds.length∧∃ ρ1 M1,Fr M H M1 H1∧Rep K H1 σ1 ρ1 M1∧runFor gd g tb D (ds.drop i) ρ1 M1,⟨ds.length,by simp,Nat.zero_le _,ρ,M,.refl _ _,r,by simpa using q⟩,?_⟩
 rintro i m σ1 H1 ⟨rfl,hi,ρ1,M1,f1,r1,q1⟩
 by_cases hlt:i < ds.length
 ·have hdr:ds.drop i=ds[i] :: ds.drop (i+1):=List.drop_eq_getElem_cons hlt
  rw [hdr] at q1
  obtain ⟨hg,q1⟩:=q1
  have Mm:=stay M1 H1 f1 r1.mem hg
  refine .inr ⟨hJ.go i H1 hlt Mm,fun σ' H'=> ∃ ρ' M',Fr M H M' H'∧Rep K H' σ' ρ' M'∧runFor gd g tb D (ds.drop (i+1)) ρ' M',fun σ' H' ⟨ρ',M',f',r',q'⟩=>⟨ds.length - (i+1),by omega,rfl,hlt,ρ',M',f',r',q'⟩,fun x H' y=>?_⟩
  obtain ⟨e,d,hd1,hd2⟩:=hJ.CH i H1 x H' hlt Mm y
  subst e
  have ed:d=ds[i]:=Option.some.inj (hd1.symm.trans (List.getElem?_eq_getElem hlt))
  subst ed
  refine ⟨ρ1,M1,_,_,r1,hd2,q1,fun σ2 H2 ⟨ρ2,M2,f2,r2,q2⟩=>?_⟩
  have C3:=f1.trans f2
  have Mn:=f0.trans C3
  exact ⟨ρ2,M2,_,r2,q2,fun σ' H' ⟨ρ',M',f,r',z⟩=>⟨ρ',M',C3.trans f,r',z⟩,fun _ _ p=>p.back Mn,fun _ _ p=>p.back Mn,fun σ' H' ⟨ρ',M',f,r',z⟩=>⟨ρ',M',C3.trans f,r',z⟩⟩
 ·have e:i=ds.length:=by omega
  subst e
  rw [List.drop_of_length_le (Nat.le_refl _)] at q1
  obtain ⟨hg,q1⟩:=q1
  exact .inl ⟨hJ.stop H1 (stay M1 H1 f1 r1.mem hg),ρ1,M1,f0.trans f1,r1,q1⟩
def Ig (te:c6) (g:Ct) (tb:kX):kX:=fun D ρ M=>te ρ M fun d M1=> ∃ a xs,d= .ref a∧M1 a=some (.lst xs)∧runFor (fun M=>M a=some (.lst xs)) g tb D xs ρ M1
def Ih (t:qQ) (g:Ct) (tb:kX):kX:=fun D ρ M=>t ρ M fun vs M1=> ∃ j:Int,vs= [.int j]∧ -(2 ^ 62)≤j∧j < 2 ^ 62∧runFor (fun _=>True) g tb D ((List.range j.toNat).map fun (k:Nat)=>L3.D.int (k:Int)) ρ M1
variable {tg iter:Expr} {body:List Stmt} {g:Ct} {tb:kX}
theorem A1 {K:PySem.W.Frag} {a:Addr} {ds:List L3.D}:A0 K (J3 K a) (fun H=> ∃ vs,H a=some (.lst vs)∧aG K H ds vs) ds:=
 ⟨fun i H hi ⟨vs,h,hd⟩=>⟨vs,vs[i]'(by rw [← hd.length];exact hi),jw.of h,List.getElem?_eq_getElem _⟩,fun i H x H' _ ⟨vs,h,hd⟩ y=>⟨y.1,hd.back (y.2 vs (jw.of h))⟩,fun H ⟨vs,h,hd⟩=>⟨vs,jw.of h,by rw [hd.length];exact Nat.le_refl _⟩⟩
theorem A2 {K:PySem.W.Frag} {n:Nat}:A0 K (Jm 0 n) (fun _=>True) ((List.range n).map fun (k:Nat)=>L3.D.int (k:Int)):=
 ⟨fun i H hi _=>by show i < n;simpa using hi,fun i H x H' hi _ y=>⟨y.1,L3.D.int (i:Int),by
  have hi:i < n:=by simpa using hi
  simp [hi],aJ.mpr (by rw [y.2,Int.zero_add])⟩,fun H _=>by show n≤_;simp⟩
theorem tY (hp:PassesOwn (model X.prog X.w) X.A X.env X.xe) (hc:X.calm=true) (hi:cN X iter te) (hg:Ib X tg g) (hb:jS X body tb)
 (hs:∀ x,foldedSetIterable iter X.env x=pure x:=by intro _;rfl):wW X (.For tg iter body [] pos) (Ig te g tb):=D9 (AA hp hc (x9 hi.dn) hg.dn hb.dn hs) fun σ H ρ M D r q=>eB r q fun v H' d M' f dv r' ⟨a,xs,e1,hM,q⟩=>by
 subst e1
 obtain rfl:=aV.mp dv
 obtain ⟨ys,ha,hy⟩:=r'.mem.lst hM
 exact ⟨a,rfl,⟨ys,jw.of ha⟩,vz A1 f r' (fun M1 H1 f1 nj g1=>nj.lst g1) q⟩
theorem iZ {a:Expr} {t:qQ} {p rpos:Pos} (hp:PassesOwn (model X.prog X.w) X.A X.env X.xe) (hc:X.calm=true) (FJ:Gl X "range") (hm:X.mg "range" =none) (ha:wV X [a] t) (hg:Ib X tg g) (hb:jS X body tb)
 (hst:starEach [a] X.env= [(false,eval a X.env)]:=by rfl)
 (hs:∀ x,foldedSetIterable (.Call (.Name "range" p) [a] [] rpos) X.env x=pure x:=by intro _;rfl):wW X (.For tg (.Call (.Name "range" p) [a] [] rpos) body [] pos) (Ih t g tb):=D9 (AA hp hc (rT FJ hm ha.dn hst) hg.dn hb.dn hs) fun σ H ρ M D r q=>jT r q fun vs H' ds M' f dv r' ⟨j,e1,h1,h2,q⟩=>by
 subst e1
 obtain ⟨v,rfl,hv⟩:=jU dv
 obtain rfl:=aJ.mp hv
 exact ⟨j,rfl,h1,h2,vz A2 f r' (fun _ _ _ _ _=>trivial) q⟩
def Ii (to te:c6):c6:=fun ρ M Q=>to ρ M fun d M1=>(∃ l xs,d= .ref l∧M1 l=some (.lst xs))∧te ρ M1 fun e M2=> ∃ l xs,d= .ref l∧M2 l=some (.lst xs)∧xs.length < sizeLine∧Q .bE (aC M2 l (.lst (xs ++ [e])))
theorem A3 {o e:Expr} {to te:c6} {apos:Pos} (ho:cN X o to) (he:cN X e te) (Ij:PE X (.Call (.Attribute o "append" apos) [e] [] pos) (Ko X.K "list" yi (dn X.K to) (AE (dn X.K te) Fb))):cN X (.Call (.Attribute o "append" apos) [e] [] pos) (Ii to te):=
 up Ij fun σ H ρ M Q r q=>eB r q fun v H' d M' f dv r' ⟨⟨l,xs,e1,hM⟩,q⟩=>by
  subst e1
  obtain rfl:=aV.mp dv
  obtain ⟨ys,ha,hy⟩:=r'.mem.lst hM
  refine ⟨.inl ⟨rfl,_,jw.of ha⟩,eB r' q fun u H2 d2 M2 f2 du r2 ⟨l',xs',e2,Ik,hlt,q2⟩=>?_⟩
  injection e2 with e2
  subst e2
  obtain ⟨zs,hb,hz⟩:=r2.mem.lst Ik
  refine ⟨l,zs,u,rfl,rfl,hb,by rw [← hz.length];exact hlt,.bE,_,(f.trans f2).trans (Fr.write (K:=X.K) Ik),cM.mpr rfl,r2.mem.jR hb (hz.append (aG.one du)),q2⟩
end
section
variable {P:Program} {w:World} {K:PySem.W.Frag} {mg:Str→Option Value} {base:Heap}
def lN (N:List Str) (ds:List D):En:=ds.map some ++ List.replicate (N.length - ds.length) none
theorem sC {H:Hp} {N:List Str} {ds:List D} {vs:List V} {M:Mp} (h:aG K H ds vs) (rm:cy K H M):Rep K H (L2.start N vs) (lN N ds) M:=by
 have hl:=h.length
 refine ⟨fun i d e=>?_,by unfold L2.start lN;simp [hl],rm⟩
 unfold lN at e
 by_cases hi:i < ds.length
 ·rw [List.getElem?_append_left (by simpa using hi),List.getElem?_map] at e
  cases q:ds[i]? with
  | none=>rw [q] at e;cases e
  | some d'=>
    rw [q] at e
    cases e
    obtain ⟨v,h1,h2⟩:=h.get q
    refine ⟨v,?_,h2⟩
    unfold L2.start
    rw [List.getElem?_append_left (by simp;omega),List.getElem?_map,h1]
    rfl
 ·rw [List.getElem?_append_right (by simpa using hi),List.getElem?_replicate] at e
  split at e <;> cases e
theorem wG {x qual:Str} {st:Stmt} {f:Addr} {fd:FuncData} {N ps:List Str} {k:Nat} {S:sA} (F:jx K x qual st f fd) (Sc:aO N ps (av st)) (len:∀ ds Q,S ds Q→ds.length=ps.length)
 (hbody:∀ (cdv:Value) (A:Around) (outer:List Env) (s:Shared) (H:Hp),gZ k (A.deeper (envOfC qual (av st) s.heap.objs.size f cdv))→
  ∃ t,jS (oN fE P w K mg base N qual (av st) f cdv A outer s H E0).Cr (fW st) t∧∀ ds Q,S ds Q→t { nx:=fun _ _=>Q .bE,rt:=fun d _=>Q d } (lN N ds) HE) :
 cg P w K mg base fE (k+1) f fd ps (qW K S):=by
 refine F.ok Sc (fun vs H Q E h=>?_) (fun cdv A outer s H vs Q E hr h=>?_)
 ·obtain ⟨ds,Q0,h1,h2,_⟩:=h
  rw [← h1.length,len ds Q0 h2]
 ·obtain ⟨ds,Q0,h1,h2,h3⟩:=h
  obtain ⟨t,ht,hq⟩:=hbody cdv A outer s H hr
  have hE:(oN fE P w K mg base N qual (av st) f cdv A outer s H E).Cr=(oN fE P w K mg base N qual (av st) f cdv A outer s H E0).Cr:=rfl
  refine ⟨_,jS.dn (by rw [hE];exact ht),lN N ds,HE,_,sC h1 cy.no,hq ds Q0 h2,fun σ' H' ⟨ρ',M',f',r',q⟩=>?_,fun v H' ⟨d,M',f',dv,rm,q⟩=>?_,fun _ _ ⟨_,_,_,_,z⟩=>z.elim,fun _ _ ⟨_,_,_,_,z⟩=>z.elim⟩
  ·exact h3 .bE .bE H' q (cM.mpr rfl) fun b o e=>(f' b o rfl e).1
  ·exact h3 d v H' q dv fun b o e=>(f' b o rfl e).1
theorem u9 {x qual:Str} {st:Stmt} {f:Addr} {fd:FuncData} {N ps:List Str} {k:Nat} {S:pB} (F:jx K x qual st f fd) (Sc:aO N ps (av st)) (len:∀ ds M Q,S ds M Q→ds.length=ps.length)
 (hbody:∀ (cdv:Value) (A:Around) (outer:List Env) (s:Shared) (H:Hp),gZ k (A.deeper (envOfC qual (av st) s.heap.objs.size f cdv))→
  ∃ t,jS (oN fE P w K mg base N qual (av st) f cdv A outer s H E0).Cr (fW st) t∧∀ ds M Q,S ds M Q→t { nx:=fun _ M'=>aQ (∃ M0,Le M0 M'∧Q .bE M0),rt:=fun d M'=>aQ (∃ M0,Le M0 M'∧Q d M0) } (lN N ds) M) :
 cg P w K mg base fE (k+1) f fd ps (pP K S):=by
 refine F.ok Sc (fun vs H Q E h=>?_) (fun cdv A outer s H vs Q E hr h=>?_)
 ·obtain ⟨ds,M,Q0,h1,_,h2,_⟩:=h
  rw [← h1.length,len ds M Q0 h2]
 ·obtain ⟨ds,M,Q0,h1,rm,h2,h3⟩:=h
  obtain ⟨t,ht,hq⟩:=hbody cdv A outer s H hr
  have hE:(oN fE P w K mg base N qual (av st) f cdv A outer s H E).Cr=(oN fE P w K mg base N qual (av st) f cdv A outer s H E0).Cr:=rfl
  refine ⟨_,jS.dn (by rw [hE];exact ht),lN N ds,M,_,sC h1 rm,hq ds M Q0 h2,fun σ' H' ⟨ρ',M',f',r',z⟩=>?_,fun v H' ⟨d,M',f',dv,NS,z⟩=>?_,fun _ _ ⟨_,_,_,_,z⟩=>z.elim,fun _ _ ⟨_,_,_,_,z⟩=>z.elim⟩
  ·obtain ⟨M0,l,q⟩:=z.out
   exact h3 .bE M0 .bE H' q (cM.mpr rfl) (r'.mem.le l) (f'.le l)
  ·obtain ⟨M0,l,q⟩:=z.out
   exact h3 d M0 v H' q dv (NS.le l) (f'.le l)
end
end L3
namespace L3
open PySem PySem.Spec PyProof.Rows L2
section
variable {X:Cx}
def intsOf:List D→Option (List Int)
 | []=>some []
 | .int i :: ds=>(intsOf ds).map (i :: ·)
 | _ :: _=>none
theorem lP:∀ {ds:List D} {ns:List Int},intsOf ds=some ns→ds=ns.map D.int
 | [],ns,h=>by cases h;rfl
 | .int i :: ds,ns,h=>by
   have h:(intsOf ds).map (i :: ·)=some ns:=h
   cases q:intsOf ds with
   | none=>rw [q] at h;cases h
   | some ms=>
     rw [q] at h
     have h:i :: ms=ns:=Option.some.inj h
     subst h
     rw [lP q];rfl
 | .bE :: _,ns,h=>by cases h
 | .bl _ :: _,ns,h=>by cases h
 | .str _ :: _,ns,h=>by cases h
 | .ty _ :: _,ns,h=>by cases h
 | .ref _ :: _,ns,h=>by cases h
 | .tup _ :: _,ns,h=>by cases h
 | .tV _ :: _,ns,h=>by cases h
 | .D6 _ :: _,ns,h=>by cases h
 | .exc _ _ _ :: _,ns,h=>by cases h
def Mq:D→D→Option Bool
 | .int i,.int j=>some (decide (i < j))
 | .tup ds,.tup es=>match intsOf ds,intsOf es with
   | some ns,some ms=>some (HT.lexLt ns ms)
   | _,_=>none
 | _,_=>none
def KY:R3:=fun d e M Q=> ∃ b,Mq d e=some b∧Q (.bl b) M
theorem oj (hu:X.A.units+64 < cLine):nD X (compareOp .Lt) KY:=by
 constructor
 intro pins s σ H M x y d e v u Q I rm rx ry dx dy ⟨b,hb,q⟩
 unfold Mq at hb
 split at hb
 ·rename_i i j
  have hb:=Option.some.inj hb
  subst hb
  exact KI.run pins s σ H M x y _ _ v u Q I rm rx ry dx dy ⟨i,j,rfl,rfl,q⟩
 ·rename_i ds es
  split at hb
  ·rename_i ns ms h1 h2
   have hb:=Option.some.inj hb
   subst hb
   exact (HQ hu).run pins s σ H M x y _ _ v u Q I rm rx ry dx dy ⟨ns,ms,by rw [lP h1],by rw [lP h2],q⟩
  ·cases hb
 ·cases hb
theorem aN:bootBuiltins "len" =some (.builtin "len"):=by decide +kernel
theorem sD:bootBuiltins "abs" =some (.builtin "abs"):=by decide +kernel
theorem nI:bootBuiltins "min" =some (.builtin "min"):=by decide +kernel
theorem c7:bootBuiltins "sorted" =some (.builtin "sorted"):=by decide +kernel
theorem aq:bootBuiltins "isinstance" =some (.builtin "isinstance"):=by decide +kernel
theorem bL:bootBuiltins "list" =some (.type "list"):=by decide +kernel
theorem dO:bootBuiltins "int" =some (.type "int"):=by decide +kernel
theorem i0:bootBuiltins "bool" =some (.type "bool"):=by decide +kernel
theorem cK:bootBuiltins "tuple" =some (.type "tuple"):=by decide +kernel
end
theorem pQ {m n:Nat} (h:m≤n):2 ^ m≤2 ^ n:=Nat.pow_le_pow_right (by decide) h
theorem Sm.le {m n:Nat} {i:Int} (h:Sm m i) (l:m≤n):Sm n i:=Nat.lt_of_lt_of_le h (pQ l)
theorem Sm.pR {n:Nat} {i j:Int} (h:Sm n j) (l:i.natAbs≤j.natAbs):Sm n i:=Nat.lt_of_le_of_lt l h
theorem Sm.add {m n:Nat} {i j:Int} (h1:Sm m i) (h2:Sm n j):Sm (max m n+1) (i+j):=by
 have a:=Nat.lt_of_lt_of_le h1 (pQ (Nat.le_max_left m n))
 have b:=Nat.lt_of_lt_of_le h2 (pQ (Nat.le_max_right m n))
 show (i+j).natAbs < 2 ^ (max m n+1)
 rw [Nat.pow_succ]
 have:=Int.natAbs_add_le i j
 omega
theorem Sm.neg {n:Nat} {i:Int} (h:Sm n i):Sm n (-i):=by
 show (-i).natAbs < _
 rw [Int.natAbs_neg];exact h
theorem Sm.sub {m n:Nat} {i j:Int} (h1:Sm m i) (h2:Sm n j):Sm (max m n+1) (i - j):=by
 rw [Int.sub_eq_add_neg];exact h1.add h2.neg
theorem Sm.mul {m n:Nat} {i j:Int} (h1:Sm m i) (h2:Sm n j):Sm (m+n) (i*j):=by
 show (i*j).natAbs < 2 ^ (m+n)
 rw [Int.natAbs_mul,Nat.pow_add]
 exact Nat.mul_lt_mul'' h1 h2
theorem Sm.emod {n:Nat} {i j:Int} (hj:0 < j) (h:Sm n j):Sm n (i % j):=by
 have h1:=Int.emod_nonneg i (show j≠0 by omega)
 have h2:=Int.emod_lt_of_pos i hj
 exact h.pR (by omega)
instance {n:Nat} {i:Int}:Decidable (Sm n i):=inferInstanceAs (Decidable (_ < _))
theorem MulOk.of {m n:Nat} {i j:Int} (h1:Sm m i) (h2:Sm n j) (h:m+n≤100000):MulOk i j:=⟨m,n,h1,h2,h⟩
theorem Sm.lit (i:Int):Sm (i.natAbs.log2+1) i:=Nat.lt_log2_self
theorem Sm.two:Sm 2 2:=by decide
theorem Sm.one:Sm 1 1:=by decide
theorem Sm.zero:Sm 0 0:=by decide
theorem bF {K:PySem.W.Frag} {n:String}:PySem.W.kitOne K (.type n) (.type n)=some true:=by simp [PySem.W.kitOne]
structure Pl where
 x:Int
 y:Int
 deriving DecidableEq
def Pl.d (p:Pl):D:= .tup [.int p.x,.int p.y]
def Pl.Ok (n:Nat) (p:Pl):Prop:=Sm n p.x∧Sm n p.y
theorem cO (p q:Pl):cX p.d q.d=decide (p=q):=by
 unfold Pl.d
 rw [gQ,eF,eF,pM,bU,bU,Bool.eq_iff_iff]
 cases p;cases q
 simp
end L3
namespace L3
open PySem L2
theorem sE {K:PySem.W.Frag} {H:Hp}:∀ (ns:List Int),aG K H (ns.map D.int) (ns.map V.int)
 | []=>aP.mpr rfl
 | n :: ns=>aH.mpr ⟨_,_,rfl,aJ.mpr rfl,sE ns⟩
end L3
namespace L3
theorem bu {gd:Mp→Prop} {g:Ct} {tb:kX} {D:D8} {ρ:En} {M:Mp} (Pv:Nat→En→Mp→Prop):∀ (xs:List L3.D),
 (∀ (i:Nat) (x:L3.D) (ρ:En) (M:Mp) (N:En→Mp→Prop),xs[i]?=some x→Pv i ρ M→(∀ ρ' M',Pv (i+1) ρ' M'→N ρ' M')→gd M∧g x ρ M fun ρ2 M2=>tb { D with nx:=N,ct:=N,bk:=D.nx } ρ2 M2)→
 (∀ ρ M,Pv xs.length ρ M→gd M∧D.nx ρ M)→Pv 0 ρ M→runFor gd g tb D xs ρ M:=by
 intro xs hs hd h0
 have key:∀ (ys:List L3.D) (i:Nat) (ρ:En) (M:Mp),xs.drop i=ys→Pv i ρ M→i≤xs.length→runFor gd g tb D ys ρ M:=by
  intro ys
  induction ys with
  | nil=>
    intro i ρ M e p hi
    have:xs.length≤i:=by
     have:=congrArg List.length e
     rw [List.length_drop] at this
     simp at this
     omega
    have:i=xs.length:=by omega
    subst this
    exact hd ρ M p
  | cons y ys ih=>
    intro i ρ M e p hi
    have hx:xs[i]?=some y:=by
     have:=congrArg (fun l=>l[0]?) e
     simpa using this
    have hlt:i < xs.length:=(List.getElem?_eq_some_iff.mp hx).1
    refine hs i y ρ M _ hx p fun ρ' M' p'=>ih (i+1) ρ' M' ?_ p' hlt
    rw [← List.drop_drop,e]
    rfl
 exact key xs 0 ρ M rfl h0 (Nat.zero_le _)
theorem bg {n i:Nat} {x:L3.D} (h:((List.range n).map fun (k:Nat)=>L3.D.int (k:Int))[i]?=some x):i < n∧x= .int (i:Int):=by
 rw [List.getElem?_map] at h
 by_cases hi:i < n
 ·rw [List.getElem?_range hi] at h
  exact ⟨hi,(Option.some.inj h).symm⟩
 ·rw [List.getElem?_eq_none (by simp;omega)] at h
  cases h
end L3
namespace L3
theorem wY {a b:Int} (h:0 < a*b) (ha:0 < a):0 < b:=by
 rcases Int.lt_or_le 0 b with q | q
 ·exact q
 ·have:=Int.mul_nonneg (Int.le_of_lt ha) (show 0≤ -b by omega)
  rw [Int.mul_neg] at this
  omega
theorem zC (a b:Int) (hb:b≠0):∃ k l:Int,a=(Int.gcd a b:Int)*k∧b=(Int.gcd a b:Int)*l∧0 < (Int.gcd a b:Int)∧Int.gcd k l=1:=by
 obtain ⟨k,hk⟩:=Int.gcd_dvd_left (a:=a) (b:=b)
 obtain ⟨l,hl⟩:=Int.gcd_dvd_right (a:=a) (b:=b)
 have hg:0 < Int.gcd a b:=Int.gcd_pos_of_ne_zero_right a hb
 refine ⟨k,l,hk,hl,by omega,?_⟩
 have e:Int.gcd ((Int.gcd a b:Int)*k) ((Int.gcd a b:Int)*l)=(Int.gcd a b:Int).natAbs*Int.gcd k l:=Int.gcd_mul_left _ _ _
 rw [← hk,← hl] at e
 have e2:(Int.gcd a b:Int).natAbs=Int.gcd a b:=rfl
 rw [e2] at e
 have:Int.gcd a b*1=Int.gcd a b*Int.gcd k l:=by omega
 exact (Nat.eq_of_mul_eq_mul_left hg this).symm
def frac (a b:Int):Pl:=⟨a.fdiv ((Int.gcd a b:Int)*b.sign),b.fdiv ((Int.gcd a b:Int)*b.sign)⟩
def low (a b:Int):Pl:=⟨a / (Int.gcd a b:Int),b / (Int.gcd a b:Int)⟩
theorem pS {a b:Int} (hb:0 < b):0 < (low a b).y∧(low a b).x*b=a*(low a b).y∧Int.gcd (low a b).x (low a b).y=1∧(low a b).x.natAbs≤a.natAbs∧(low a b).y.natAbs≤b.natAbs:=by
 obtain ⟨k,l,ha,hl,hg,h1⟩:=zC a b (by omega)
 have e:low a b= ⟨k,l⟩:=by
  unfold low
  generalize hG:(Int.gcd a b:Int)=g at *
  have f1:a / g=k:=by rw [ha];exact Int.mul_ediv_cancel_left _ (by omega)
  have f2:b / g=l:=by conv=>{ lhs;rw [hl] };exact Int.mul_ediv_cancel_left _ (by omega)
  rw [f1,f2]
 rw [e]
 generalize hG:(Int.gcd a b:Int)=g at *
 refine ⟨?_,?_,h1,?_,?_⟩
 ·rw [hl] at hb
  exact wY hb (by omega)
 ·show k*b=a*l
  conv=>lhs;arg 2;rw [hl]
  conv=>rhs;arg 1;rw [ha]
  grind
 ·show k.natAbs≤a.natAbs
  rw [ha,Int.natAbs_mul]
  exact Nat.le_mul_of_pos_left _ (by omega)
 ·show l.natAbs≤b.natAbs
  conv=>rhs;rw [hl,Int.natAbs_mul]
  exact Nat.le_mul_of_pos_left _ (by omega)
end L3
local macro_rules | `(tactic| walk_at "sm")=> `(tactic| first | assumption | exact L3.Sm.sign _ | exact L3.Sm.zero | exact L3.Sm.one | exact L3.Sm.two | ((with_reducible apply L3.Sm.mul) <;> walk_at "sm") | ((with_reducible apply L3.Sm.sub) <;> walk_at "sm") | ((with_reducible apply L3.Sm.add) <;> walk_at "sm") | ((with_reducible apply L3.Sm.neg) <;> walk_at "sm") | ((with_reducible apply L3.Sm.abs) <;> walk_at "sm") | ((with_reducible apply L3.Sm.emod);(first | omega | decide +kernel);walk_at "sm") | exact L3.Sm.lit _)
local macro_rules | `(tactic| walk_at "smle")=> `(tactic| (apply L3.Sm.le;walk_at "sm";first | omega | decide +kernel))
namespace L3
@[irreducible] def NT (p f g:Pl):Int:=(p.x*f.y - f.x)*g.y*((p.x*f.y - f.x)*g.y)+(p.y*g.y - g.x)*f.y*((p.y*g.y - g.x)*f.y)
@[irreducible] def sq (p f g:Pl):Pl:=frac (NT p f g) (f.y*g.y*(f.y*g.y))
theorem A4 {a b:Int} {n:Nat} (hb:0 < b) (sa:Sm n a) (sb:Sm n b):(low a b).Ok n:=by
 obtain ⟨_,_,_,h4,h5⟩:=pS (a:=a) hb
 exact ⟨sa.pR h4,sb.pR h5⟩
@[irreducible] def GS (p q:Pl) (m al to:Int):Int:=(p.x+q.x)*m - 2*al*(q.y - p.y)+2*to*(q.x - p.x)
end L3
namespace L3
@[irreducible] def tw (a b c:Pl):Int:=(b.x - a.x)*(c.y - a.y) - (b.y - a.y)*(c.x - a.x)
theorem i6 (a b c:Pl):tw b c a=tw a b c:=by unfold tw;grind
theorem tZ (a b c:Pl):tw b a c= -tw a b c:=by unfold tw;grind
theorem jV (a b c:Pl):tw a c b= -tw a b c:=by unfold tw;grind
theorem pT (a b:Pl):tw a a b=0:=by unfold tw;grind
theorem vA (a b:Pl):tw a b b=0:=by unfold tw;grind
theorem pU (a b:Pl):tw a b a=0:=by unfold tw;grind
def bQ (p q:Pl):Prop:=p.x < q.x∨(p.x=q.x∧p.y < q.y)
instance (p q:Pl):Decidable (bQ p q):=inferInstanceAs (Decidable (_∨_))
theorem cP (p:Pl):¬ bQ p p:=by unfold bQ;omega
theorem c8 {p q r:Pl} (a:bQ p q) (b:bQ q r):bQ p r:=by unfold bQ at *;omega
theorem cH {p q:Pl} (a:bQ p q):¬ bQ q p:=by unfold bQ at *;omega
theorem i7 (p q:Pl):bQ p q∨p=q∨bQ q p:=by
 unfold bQ
 by_cases h:p=q
 ·exact .inr (.inl h)
 ·have:¬ (p.x=q.x∧p.y=q.y):=fun ⟨a,b⟩=>h (by cases p;cases q;simp only at a b;rw [a,b])
  omega
theorem wZ {p q:Pl} (a:bQ p q):p≠q:=fun e=>cP q (e▸a)
def lo (p q:Pl):Pl:=if bQ q p then q else p
def hi (p q:Pl):Pl:=if bQ p q then q else p
@[irreducible] def KZ (p q:Pl):Int:=(q.x - p.x)*(q.x - p.x)+(q.y - p.y)*(q.y - p.y)
@[irreducible] def dep (a b c d:Pl):Int:=KZ d a*tw d b c+KZ d b*tw d c a+KZ d c*tw d a b
@[irreducible] def rg (a b c d:Pl):Int:=(tw a b c).sign*(dep a b c d).sign
end L3
namespace L3
def Mr (a b c d:Pl):Prop:=rg a b c d=1∨(rg a b c d=0∧d≠a∧d≠b∧d≠c∧((bQ d a∧bQ d b∧bQ d c)∨(bQ a b∧bQ a c∧bQ a d∧(tw b c d).sign≠(tw b c a).sign)∨(bQ b a∧bQ b c∧bQ b d∧(tw c a d).sign≠(tw c a b).sign)∨(bQ c a∧bQ c b∧bQ c d∧(tw a b d).sign≠(tw a b c).sign)))
instance (a b c d:Pl):Decidable (Mr a b c d):=inferInstanceAs (Decidable (_∨_))
def NU (p q r s:Pl):Prop:=(0 < tw p q r∧tw p q s < 0)∨(tw p q r < 0∧0 < tw p q s)
theorem i8 {p q:Pl} (h:p≠q):bQ p q∨bQ q p:=by
 rcases i7 p q with z | z | z
 ·exact .inl z
 ·exact absurd z h
 ·exact .inr z
end L3
namespace L3
end L3
namespace L3
@[irreducible] def i9 (a b f g:Pl):Int:=(b.x - a.x)*((g.x - a.y*g.y)*f.y) - (b.y - a.y)*((f.x - a.x*f.y)*g.y)
end L3
namespace L3
open PySem PySem.Spec PyProof.Rows
section
variable {P:Program} {w:World} {A:Around} {E:Value→Shared→Prop} {s:Shared} {κ:KeyKind} {kd:SortKind} {z:Array Keyed} {t:SortSt}
structure Ask (P:Program) (w:World) (A:Around) (s:Shared) (κ:KeyKind) (kd:SortKind):Prop where
 lt:∀ (E:Value→Shared→Prop) (x y:Value) (a b:κ.α) (R:Bool→Shared→Prop),κ.keyOf x=some a→κ.keyOf y=some b→R (κ.blt a b) s→wpAny (model P w) A (keyLt' kd x y) R E s
structure Mid (kd:SortKind) (z:Array Keyed) (t:SortSt):Prop where
 pm:(arrOf t).Perm z
 kd:kindOf t=kd
 ok:failedOf t=none
 no:pendingOf t= #[]
theorem Mid.sz (m:Mid kd z t):(arrOf t).size=z.size:=m.pm.size_eq
theorem Mid.put (m:Mid kd z t) {y:Array Keyed} (h:y.Perm (arrOf t)):Mid kd z (setArr t y):=⟨h.trans m.pm,m.kd,m.ok,m.no⟩
theorem Mid.key (m:Mid kd z t) (hk:KeysOf κ z) {i:Nat} (hi:i < z.size):∃ x q,(arrOf t)[i]?=some (x,q)∧κ.keyOf x=some (KK κ (arrOf t) i):=by
 have hlt:i < (arrOf t).size:=m.sz▸hi
 have e:(arrOf t)[i]?=some (arrOf t)[i]:=getElem?_pos _ i hlt
 obtain ⟨a,ha⟩:=hk (arrOf t)[i] ((Array.perm_iff_toList_perm.mp m.pm).mem_iff.mp (by simp))
 refine ⟨(arrOf t)[i].1,(arrOf t)[i].2,e,?_⟩
 have ek:KK κ (arrOf t) i=a:=by unfold KK;rw [e];simp only [ha,Option.getD_some]
 rw [ek];exact ha
theorem pV (hA:Ask P w A s κ kd) (m:Mid kd z t) (hk:KeysOf κ z) {i j:Nat} (hi:i < z.size) (hj:j < z.size) {R:Option Bool→SortSt→Prop}
 (h:R (some (κ.blt (KK κ (arrOf t) i) (KK κ (arrOf t) j))) t):wpS (model P w) A E s (ltAt' i j) R t:=by
 obtain ⟨x,p,e1,k1⟩:=m.key hk hi
 obtain ⟨y,q,e2,k2⟩:=m.key hk hj
 rw [ltAt'_eq]
 apply wpS_bind;apply wpS_get
 show wpS (model P w) A E s (elem' (arrOf t) i >>= fun u=>elem' (arrOf t) j >>= fun v=>lt' u v) R t
 rw [elem'_eq,elem'_eq,e1,e2]
 apply wpS_bind;apply wpS_pure
 apply wpS_bind;apply wpS_pure
 rw [lt'_eq]
 apply wpS_bind;apply wpS_get
 rw [m.kd]
 refine wpS_bind (wpS_lift (wpAny_attempt (hA.lt _ x y _ _ _ k1 k2 ⟨rfl,wpS_pure h⟩)))
theorem rise {y:Array Keyed} {n:Nat} (h:SortedToK κ y n) (hl:1≤n) (hn:κ.kle (KK κ y (n - 1)) (KK κ y n)):SortedToK κ y (n+1):=by
 intro i j hij hj
 rcases Nat.lt_or_ge j n with c | c
 ·exact h i j hij c
 ·obtain rfl:j=n:=by omega
  rcases Nat.lt_or_ge i j with d | d
  ·exact KeyOrd.kle_trans (h i (j - 1) (by omega) (by omega)) hn
  ·obtain rfl:i=j:=by omega
   exact KeyOrd.kle_refl _
theorem C4 {y:Array Keyed} {n:Nat} (h:NonIncK κ y n) (hl:1≤n) (hn:κ.kle (KK κ y n) (KK κ y (n - 1))):NonIncK κ y (n+1):=by
 intro i j hij hj
 rcases Nat.lt_or_ge j n with c | c
 ·exact h i j hij c
 ·obtain rfl:j=n:=by omega
  rcases Nat.lt_or_ge i j with d | d
  ·exact KeyOrd.kle_trans hn (h i (j - 1) (by omega) (by omega))
  ·obtain rfl:i=j:=by omega
   exact KeyOrd.kle_refl _
theorem one_up (y:Array Keyed):SortedToK κ y 1:=by
 intro i j hij hj
 obtain rfl:i=j:=by omega
 exact KeyOrd.kle_refl _
theorem FL (y:Array Keyed):NonIncK κ y 1:=by
 intro i j hij hj
 obtain rfl:i=j:=by omega
 exact KeyOrd.kle_refl _
theorem yu (hA:Ask P w A s κ kd) (hk:KeysOf κ z) (m:Mid kd z t) {a e:Nat} (he:e≤z.size) (h1:1≤a) (K0:a≤e) (up:SortedToK κ (arrOf t) a) {R:AscSt→SortSt→Prop}
 (h:∀ n,a≤n→n≤e→SortedToK κ (arrOf t) n→(n < e→κ.klt (KK κ (arrOf t) n) (KK κ (arrOf t) (n - 1)))→R (none,n) t):wpS (model P w) A E s (ascLoop a e) R t:=by
 unfold ascLoop
 refine wpS_forRange (I:=fun i b u=>b=(none,i)∧u=t∧SortedToK κ (arrOf t) i) (fun i b u hi1 hi2 hI=>?_) (fun b u hI=>?_) ⟨rfl,rfl,up⟩
 ·obtain ⟨rfl,rfl,hup⟩:=hI
  apply wpS_bind
  apply pV hA m hk (by show i < z.size;omega) (by show i - 1 < z.size;omega)
  show wpS (model P w) A E s (if κ.blt (KK κ (arrOf u) i) (KK κ (arrOf u) (i - 1))=true then _ else _) _ u
  cases c:κ.blt (KK κ (arrOf u) i) (KK κ (arrOf u) (i - 1)) with
  | true=>rw [if_pos rfl];exact wpS_pure (h i hi1 (by omega) hup fun _=>c)
  | false=>rw [if_neg Bool.false_ne_true];exact wpS_pure ⟨rfl,rfl,rise hup (by omega) c⟩
 ·obtain ⟨rfl,rfl,hup⟩:=hI
  have em:max a e=e:=by omega
  rw [em] at hup ⊢
  exact h e K0 (Nat.le_refl e) hup fun c=>absurd c (Nat.lt_irrefl e)
theorem vB (hA:Ask P w A s κ kd) (hk:KeysOf κ z) (m:Mid kd z t) {n e:Nat} (he:e≤z.size) (h1:1≤n) (hne:n≤e) (dn:NonIncK κ (arrOf t) n) {R:Option Nat→SortSt→Prop}
 (h:∀ i u,Mid kd z u→1≤i→i≤e→SortedToK κ (arrOf u) i→R (some i) u):wpS (model P w) A E s (tail3 n e) R t:=by
 have hz:n≤(arrOf t).size:=by have:=m.sz;omega
 have m2:=m.put (mirror_perm (arrOf t) 0 n ((n - 0) / 2))
 unfold tail3
 apply wpS_bind
 apply wpS_reverse
 apply wpS_bind
 refine yu hA hk m2 he h1 hne (fun i j hij hj=>?_) fun i h2 h3 up _=>wpS_pure (h i _ m2 (by omega) h3 up)
 show κ.kle (KK κ (mirror (arrOf t) 0 n ((n - 0) / 2)) i) (KK κ (mirror (arrOf t) 0 n ((n - 0) / 2)) j)
 rw [KK_mirror hz i,KK_mirror hz j,if_pos ⟨Nat.zero_le i,by omega⟩,if_pos ⟨Nat.zero_le j,hj⟩]
 exact dn _ _ (by omega) (by omega)
def A5 (κ:KeyKind) (y:Array Keyed) (n q:Nat):Prop:=q+1≤n∧∀ i,n - (q+1)≤i→i < n→KK κ y i=KK κ y (n - 1)
theorem A6 {y:Array Keyed} {n:Nat} (h:1≤n):A5 κ y n 0:=by
 refine ⟨by omega,fun i h1 h2=>?_⟩
 obtain rfl:i=n - 1:=by omega
 rfl
theorem A7 (hA:Ask P w A s κ kd) (hk:KeysOf κ z) (m:Mid kd z t) {a e:Nat} (he:e≤z.size) (h1:1≤a) (K0:a≤e) (dn:NonIncK κ (arrOf t) a) {R:DescSt→SortSt→Prop}
 (h:∀ n q u,Mid kd z u→a≤n→n≤e→NonIncK κ (arrOf u) n→A5 κ (arrOf u) n q→R (none,n,q) u):wpS (model P w) A E s (descLoop a e) R t:=by
 unfold descLoop
 refine wpS_forRange (I:=fun i b u=>Mid kd z u∧NonIncK κ (arrOf u) i∧∃ q,A5 κ (arrOf u) i q∧b=(none,i,q)) (fun i b u hi1 hi2 hI=>?_) (fun b u hI=>?_) ⟨m,dn,0,A6 h1,rfl⟩
 ·obtain ⟨mu,hd,q,hq,rfl⟩:=hI
  have hz:i≤(arrOf u).size:=by have:=mu.sz;omega
  apply wpS_bind
  apply pV hA mu hk (by show i < z.size;omega) (by show i - 1 < z.size;omega)
  show wpS (model P w) A E s (if κ.blt (KK κ (arrOf u) i) (KK κ (arrOf u) (i - 1))=true then _ else _) _ u
  cases c:κ.blt (KK κ (arrOf u) i) (KK κ (arrOf u) (i - 1)) with
  | true=>
    rw [if_pos rfl]
    have lower:NonIncK κ (arrOf u) (i+1):=C4 hd (by omega) (KeyOrd.kle_of_klt c)
    show wpS (model P w) A E s (if q > 0 then _ else _) _ u
    by_cases d:q > 0
    ·rw [if_pos d]
     apply wpS_bind
     apply wpS_reverse
     have same:=KK_mirror_equal (κ:=κ) hz hq.2
     refine wpS_pure ⟨mu.put (mirror_perm _ _ _ _),fun x y hxy hy=>?_,0,A6 (by omega),rfl⟩
     show κ.kle (KK κ (mirror (arrOf u) (i - (q+1)) i _) y) (KK κ (mirror (arrOf u) (i - (q+1)) i _) x)
     rw [same,same]
     exact lower x y hxy hy
    ·rw [if_neg d]
     exact wpS_pure ⟨mu,lower,0,A6 (by omega),rfl⟩
  | false=>
    rw [if_neg Bool.false_ne_true]
    apply wpS_bind
    apply pV hA mu hk (by show i - 1 < z.size;omega) (by show i < z.size;omega)
    show wpS (model P w) A E s (if κ.blt (KK κ (arrOf u) (i - 1)) (KK κ (arrOf u) i)=true then _ else _) _ u
    cases d:κ.blt (KK κ (arrOf u) (i - 1)) (KK κ (arrOf u) i) with
    | true=>rw [if_pos rfl];exact wpS_pure (h i q u mu hi1 (by omega) hd hq)
    | false=>
      rw [if_neg Bool.false_ne_true]
      have alike:KK κ (arrOf u) i=KK κ (arrOf u) (i - 1):=κ.total _ _ c d
      refine wpS_pure ⟨mu,C4 hd (by omega) d,q+1,⟨by have:=hq.1;omega,fun x h2 h3=>?_⟩,rfl⟩
      rw [Nat.add_sub_cancel]
      rcases Nat.lt_or_ge x i with g | g
      ·rw [alike];exact hq.2 x (by omega) g
      ·obtain rfl:x=i:=by omega
       rfl
 ·obtain ⟨mu,hd,q,hq,rfl⟩:=hI
  have em:max a e=e:=by omega
  rw [em] at hd hq ⊢
  exact h e q u mu K0 (Nat.le_refl e) hd hq
theorem vC (hA:Ask P w A s κ kd) (hk:KeysOf κ z) (m:Mid kd z t) {n e:Nat} (he:e≤z.size) (hne:n+1≤e) (dn:NonIncK κ (arrOf t) (n+1)) {R:Option Nat→SortSt→Prop}
 (h:∀ i u,Mid kd z u→1≤i→i≤e→SortedToK κ (arrOf u) i→R (some i) u):wpS (model P w) A E s (descPart n e) R t:=by
 unfold descPart
 apply wpS_bind
 refine wpS_lift (wpAny_rule ⟨rfl,?_⟩)
 apply wpS_bind
 refine A7 hA hk m he (by omega) hne dn fun i q u mu h2 h3 hd hq=>?_
 have hz:i≤(arrOf u).size:=by have:=mu.sz;omega
 show wpS (model P w) A E s (if q > 0 then _ else _) R u
 by_cases d:q > 0
 ·rw [if_pos d]
  apply wpS_bind
  apply wpS_reverse
  have same:=KK_mirror_equal (κ:=κ) hz hq.2
  refine vB hA hk (mu.put (mirror_perm _ _ _ _)) he (by omega) h3 (fun x y hxy hy=>?_) h
  show κ.kle (KK κ (mirror (arrOf u) (i - (q+1)) i _) y) (KK κ (mirror (arrOf u) (i - (q+1)) i _) x)
  rw [same,same]
  exact hd x y hxy hy
 ·rw [if_neg d]
  exact vB hA hk mu he (by omega) h3 hd h
theorem zD (hA:Ask P w A s κ kd) (hk:KeysOf κ z) (m:Mid kd z t) {e:Nat} (he:e≤z.size) (h1:1≤e) {R:Option Nat→SortSt→Prop}
 (h:∀ i u,Mid kd z u→1≤i→i≤e→SortedToK κ (arrOf u) i→R (some i) u):wpS (model P w) A E s (countRun' 0 e) R t:=by
 rw [countRun0_eq]
 apply wpS_bind
 refine yu hA hk m he (Nat.le_refl 1) h1 (one_up _) fun n h2 h3 up stop=>?_
 show wpS (model P w) A E s (if (n == e)=true then _ else _) R t
 by_cases c:n=e
 ·rw [if_pos (beq_iff_eq.mpr c)]
  exact wpS_pure (h n t m h2 h3 up)
 ·rw [if_neg fun q=>c (beq_iff_eq.mp q)]
  have less:=stop (by omega)
  by_cases d:n > 1
  ·rw [if_pos d]
   apply wpS_bind
   apply pV hA m hk (by omega) (by show n - 1 < z.size;omega)
   show wpS (model P w) A E s (if κ.blt (KK κ (arrOf t) 0) (KK κ (arrOf t) (n - 1))=true then _ else _) R t
   cases g:κ.blt (KK κ (arrOf t) 0) (KK κ (arrOf t) (n - 1)) with
   | true=>rw [if_pos rfl];exact wpS_pure (h n t m h2 h3 up)
   | false=>
     rw [if_neg Bool.false_ne_true]
     have hz:n≤(arrOf t).size:=by have:=m.sz;omega
     have one:∀ i,i < n→KK κ (arrOf t) i=KK κ (arrOf t) (n - 1):=fun i hi=>
      KeyOrd.kle_antisymm (up i (n - 1) (by omega) (by omega)) (KeyOrd.kle_trans (show κ.kle (KK κ (arrOf t) (n - 1)) (KK κ (arrOf t) 0) from g) (up 0 i (Nat.zero_le i) hi))
     have same:=KK_mirror_equal (κ:=κ) hz (fun i (_:0≤i) hi=>one i hi)
     apply wpS_bind
     apply wpS_reverse
     refine vC hA hk (m.put (mirror_perm _ _ _ _)) he (by omega) (C4 (fun x y hxy hy=>?_) (by omega) ?_) h
     ·show κ.kle (KK κ (mirror (arrOf t) 0 n _) y) (KK κ (mirror (arrOf t) 0 n _) x)
      rw [same,same,one x (by omega),one y hy]
      exact KeyOrd.kle_refl _
     ·show κ.kle (KK κ (mirror (arrOf t) 0 n _) n) (KK κ (mirror (arrOf t) 0 n _) (n - 1))
      rw [same,same]
      exact KeyOrd.kle_of_klt less
  ·rw [if_neg d]
   obtain rfl:n=1:=by omega
   exact vC hA hk m he (by omega) (C4 (FL _) (Nat.le_refl 1) (KeyOrd.kle_of_klt less)) h
structure Cut (κ:KeyKind) (y:Array Keyed) (k l r:Nat):Prop where
 lr:l≤r
 rk:r≤k
 lo:∀ i,i < l→κ.kle (KK κ y i) (KK κ y k)
 hi:∀ i,r≤i→i < k→κ.klt (KK κ y k) (KK κ y i)
theorem Cut.put {y:Array Keyed} {k l:Nat} (c:Cut κ y k l l) (hk:k < y.size) (up:SortedToK κ y k):SortedToK κ (bubble y k (k - l)) (k+1):=by
 have hl:=c.rk
 have at':∀ i,KK κ (bubble y k (k - l)) i=if i=l then KK κ y k else if l < i∧i≤k then KK κ y (i - 1) else KK κ y i:=fun i=>by
  have:=KK_bubble (κ:=κ) hk (Nat.sub_le k l) i
  have e:k - (k - l)=l:=by omega
  rw [e] at this
  exact this
 intro i j hij hj
 rw [at' i,at' j]
 by_cases i1:i=l
 ·rw [if_pos i1]
  by_cases j1:j=l
  ·rw [if_pos j1];exact KeyOrd.kle_refl _
  ·rw [if_neg j1,if_pos ⟨by omega,by omega⟩]
   exact KeyOrd.kle_of_klt (c.hi _ (by omega) (by omega))
 ·rw [if_neg i1]
  by_cases i2:l < i∧i≤k
  ·rw [if_pos i2,if_neg (by omega),if_pos ⟨by omega,by omega⟩]
   exact up _ _ (by omega) (by omega)
  ·rw [if_neg i2]
   by_cases j1:j=l
   ·rw [if_pos j1];exact c.lo i (by omega)
   ·rw [if_neg j1]
    by_cases j2:l < j∧j≤k
    ·rw [if_pos j2];exact up _ _ (by omega) (by omega)
    ·rw [if_neg j2];exact up _ _ hij (by omega)
theorem C5 (hA:Ask P w A s κ kd) (hk:KeysOf κ z) (m:Mid kd z t) {n o:Nat} (hn:n≤z.size) (ho:o≤n) (up:SortedToK κ (arrOf t) o) {R:Bool→SortSt→Prop}
 (h:∀ u,Mid kd z u→SortedToK κ (arrOf u) n→R true u):wpS (model P w) A E s (binarySort' 0 n o) R t:=by
 rw [binarySort'_eq]
 simp only [Nat.zero_add]
 apply wpS_bind
 refine wpS_mono (wpS_forRange (I:=fun k b u=>b=(none,())∧Mid kd z u∧(k≤n→SortedToK κ (arrOf u) k)∧(n < k→SortedToK κ (arrOf u) n)) (Q:=fun b u=>b=(none,())∧Mid kd z u∧SortedToK κ (arrOf u) n)
  (fun k b u hk1 hk2 hI=>?_) (fun b u hI=>?_) ⟨rfl,m,fun c=>?_,fun c=>?_⟩) fun b u hI=>?_
 ·obtain ⟨rfl,mu,up1,_⟩:=hI
  have K1:=up1 (by omega)
  apply wpS_bind
  refine wpS_mono (wpS_forRange (I:=fun x b v=>v=u∧∃ l r,b=(none,l,r)∧Cut κ (arrOf u) k l r∧r - l≤k - x) (Q:=fun b v=>v=u∧∃ l,b=(none,l,l)∧Cut κ (arrOf u) k l l)
   (fun x b v _ hx hI=>?_) (fun b v hI=>?_) ⟨rfl,0,k,rfl,⟨Nat.zero_le k,Nat.le_refl k,fun i hi=>absurd hi (Nat.not_lt_zero i),fun i h2 h3=>absurd h3 (Nat.not_lt.mpr h2)⟩,Nat.le_refl _⟩) fun b v hI=>?_
  ·obtain ⟨rfl,l,r,rfl,c,hw⟩:=hI
   show wpS (model P w) A E s (if l≥r then _ else _) _ v
   by_cases d:l≥r
   ·rw [if_pos d]
    obtain rfl:l=r:=Nat.le_antisymm c.lr d
    exact wpS_pure ⟨rfl,l,rfl,c⟩
   ·rw [if_neg d]
    have hrk:=c.rk
    apply wpS_bind
    apply pV hA mu hk (by show k < z.size;omega) (by show (l+r) / 2 < z.size;omega)
    show wpS (model P w) A E s (if κ.blt (KK κ (arrOf v) k) (KK κ (arrOf v) ((l+r) / 2))=true then _ else _) _ v
    cases g:κ.blt (KK κ (arrOf v) k) (KK κ (arrOf v) ((l+r) / 2)) with
    | true=>
      rw [if_pos rfl]
      exact wpS_pure ⟨rfl,l,(l+r) / 2,rfl,⟨by omega,by omega,c.lo,fun i h2 h3=>KeyOrd.klt_of_klt_of_kle g (K1 _ i h2 h3)⟩,by omega⟩
    | false=>
      rw [if_neg Bool.false_ne_true]
      exact wpS_pure ⟨rfl,(l+r) / 2+1,r,rfl,⟨by omega,by omega,fun i h2=>KeyOrd.kle_trans (K1 i _ (by omega) (by omega)) g,c.hi⟩,by omega⟩
  ·obtain ⟨rfl,l,r,rfl,c,hw⟩:=hI
   have e:max 0 k=k:=by omega
   rw [e] at hw
   obtain rfl:l=r:=by have:=c.lr;omega
   exact ⟨rfl,l,rfl,c⟩
  ·obtain ⟨rfl,l,rfl,c⟩:=hI
   show wpS (model P w) A E s (moveDown' k l >>= fun _=>pure (ForInStep.yield (none,()))) _ v
   rw [moveDown'_eq]
   apply wpS_bind
   apply wpS_modify
   have hz:k < (arrOf v).size:=by have:=mu.sz;omega
   exact wpS_pure ⟨rfl,mu.put (bubble_perm _ _ _),fun _=>c.put hz K1,fun q=>by omega⟩
 ·obtain ⟨rfl,mu,up1,NV⟩:=hI
  refine ⟨rfl,mu,?_⟩
  rcases Nat.lt_or_ge n (max (max o 1) n) with c | c
  ·exact NV c
  ·have e:max (max o 1) n=n:=by omega
   rw [e] at up1
   exact up1 (Nat.le_refl n)
 ·rcases Nat.eq_zero_or_pos o with q | q
  ·have e:max o 1=1:=by omega
   rw [e];exact one_up _
  ·have e:max o 1=o:=by omega
   rw [e];exact up
 ·have e:n=0:=by omega
  subst e
  exact fun i j _ hj=>absurd hj (Nat.not_lt_zero j)
 ·obtain ⟨rfl,mu,up'⟩:=hI
  exact wpS_pure (h u mu up')
structure zE (κ:KeyKind) (z:Array Keyed) (t:SortSt):Prop where
 pm:(arrOf t).Perm z
 ok:failedOf t=none
 one:pendingOf t= #[(0,z.size,0)]
 up:SortedToK κ (arrOf t) z.size
theorem Mid.fin (m:Mid kd z t) (up:SortedToK κ (arrOf t) z.size):zE κ z (setPending t ((pendingOf t).push (0,z.size,0))):=
 ⟨m.pm,m.ok,by show (pendingOf t).push (0,z.size,0)= #[(0,z.size,0)];rw [m.no];rfl,up⟩
theorem C6 (hA:Ask P w A s κ kd) (hk:KeysOf κ z) (m:Mid kd z t) (h2:2≤z.size) (h64:z.size < 64) {R:Unit→SortSt→Prop} (h:∀ u,zE κ z u→R () u):wpS (model P w) A E s sortRuns' R t:=by
 have low:minRun' z.size z.size 0=z.size:=by
  obtain ⟨k,hk⟩:∃ k,z.size=k+1:=⟨z.size - 1,by omega⟩
  have:minRun' (k+1) z.size 0=z.size+0:=by rw [minRun'_succ,if_pos h64]
  rw [← hk] at this
  exact this
 rw [sortRuns'_eq]
 apply wpS_bind;apply wpS_get
 dsimp only
 simp only [m.sz,low]
 apply wpS_bind
 refine wpS_mono (wpS_forRange (I:=fun x b u=>if x=0 then b=(none,0)∧Mid kd z u else b=(none,z.size)∧zE κ z u) (Q:=fun b u=>b=(none,z.size)∧zE κ z u) (fun x b u _ hx hI=>?_) (fun b u hI=>?_) ?_) fun b u hI=>?_
 ·by_cases c:x=0
  ·subst c
   obtain ⟨rfl,mu⟩:b=(none,0)∧Mid kd z u:=by simpa using hI
   dsimp only
   rw [if_neg (by omega:¬ (0≥z.size))]
   simp only [Nat.sub_zero,Nat.min_self,Nat.zero_add]
   apply wpS_bind
   refine zD hA hk mu (Nat.le_refl _) (by omega) fun i v mv h3 h4 up=>?_
   dsimp only
   by_cases d:i < z.size
   ·rw [if_pos d]
    apply wpS_bind
    refine wpS_lift (wpAny_rule ⟨rfl,?_⟩)
    apply wpS_bind
    refine C5 hA hk mv (Nat.le_refl _) h4 up fun v' Ms up'=>?_
    simp only [Bool.not_true,Bool.false_eq_true,if_false]
    apply wpS_bind;apply wpS_get
    have e:(pendingOf v').back?=none:=by rw [Ms.no];rfl
    rw [e]
    dsimp only
    apply wpS_bind
    apply wpS_modify
    exact wpS_pure ⟨rfl,Ms.fin up'⟩
   ·rw [if_neg d]
    obtain rfl:i=z.size:=by omega
    apply wpS_bind;apply wpS_get
    have e:(pendingOf v).back?=none:=by rw [mv.no];rfl
    rw [e]
    dsimp only
    apply wpS_bind
    apply wpS_modify
    exact wpS_pure ⟨rfl,mv.fin up⟩
  ·obtain ⟨rfl,fu⟩:b=(none,z.size)∧zE κ z u:=by simpa [c] using hI
   dsimp only
   rw [if_pos (Nat.le_refl z.size)]
   exact wpS_pure ⟨rfl,fu⟩
 ·have c:max 0 z.size≠0:=by omega
  rw [if_neg c] at hI
  exact hI
 ·exact ⟨rfl,m⟩
 ·obtain ⟨rfl,fu⟩:=hI
  dsimp only
  apply wpS_bind
  refine wpS_mono (wpS_forRange (I:=fun _ b v=>b=(none,())∧v=u) (Q:=fun b v=>b=(none,())∧v=u) (fun x b v _ _ hI=>?_) (fun _ _ hI=>hI) ⟨rfl,rfl⟩) fun b v hI=>?_
  ·obtain ⟨rfl,rfl⟩:=hI
   apply wpS_bind;apply wpS_get
   rw [if_pos (by rw [fu.one];exact Nat.le_refl 1)]
   exact wpS_pure ⟨rfl,rfl⟩
  ·obtain ⟨rfl,rfl⟩:=hI
   exact wpS_pure (h v fu)
end
end L3
namespace L3
open PySem PySem.Spec PyProof.Rows
section
variable {P:Program} {w:World} {A:Around} {E:Value→Shared→Prop} {s:Shared} {κ:KeyKind} {kd:SortKind}
def kY (h h':Heap):Prop:= ∀ b o,h.get? b=some o→h'.get? b=some o
theorem C7 {a:Addr} {vs:List Value} {n:Nat} {R:Fin→Shared→Prop} (ho:s.heap.get? a=some (seqObj "list" vs.toArray n)) (hk:KeysOf κ (pairsOf vs))
 (hd:∀ (t:Shared) (E:Value→Shared→Prop) (Q:SortKind→Shared→Prop),(∀ b o,b≠a→s.heap.get? b=some o→t.heap.get? b=some o)→2≤vs.length→Q kd t→wpAny (model P w) A (keyKind' vs.toArray) Q E t)
 (hA:∀ t:Shared,(∀ b o,b≠a→s.heap.get? b=some o→t.heap.get? b=some o)→Ask P w A t κ kd) (h64:vs.length < 64)
 (h:∀ y:Array Keyed,y.Perm (pairsOf vs)→SortedToK κ y (pairsOf vs).size→R (.done (.ret .none)) { s with heap:=sortedHeap s.heap a vs (y.map (·.2)) }) :
 wpAny (model P w) A (Builtin.«list.sort» ⟨[.ref a],[]⟩) R E s:=by
 have la:a < s.heap.objs.size:=Heap.lt_size ho
 have lz:vs.length≤sizeLine:=by rw [sizeLine_eq];omega
 rw [list_sort_plain]
 apply wpAny_bind;apply listItems_at ho rfl
 refine wpAny_bind (listUpdate_at ho rfl ?_ (hsz:=by simp only [List.size_toArray];omega) (hsz2:=Nat.zero_le _))
 obtain ⟨e,h1⟩:∃ e,(s.heap.update a (Obj.mapSeq fun _=> #[])).get? a=some (seqObj "list" #[] e):=⟨_,get?_update_seq ho fun _=> #[]⟩
 apply wpAny_bind;apply seqEpoch_at h1 rfl
 refine wpAny_bind (wpAny_newTuple (hsz:=lz) ?_)
 refine wpAny_bind (wpAny_newList (hsz:=Nat.zero_le _) ?_)
 apply wpAny_holding
 show wpAny (model P w) A _ R E { s with heap:=((s.heap.update a (Obj.mapSeq fun _=> #[])).push (seqObj "tuple" vs.toArray 0)).push (seqObj "list" #[] 0) }
 generalize hh:((s.heap.update a (Obj.mapSeq fun _=> #[])).push (seqObj "tuple" vs.toArray 0)).push (seqObj "list" #[] 0)=g
 have g1:g.get? a=some (seqObj "list" #[] e):=by
  rw [← hh,Heap.get?_push_ne _ _ _ (by rw [size_push',Heap.size_update];exact Nat.ne_of_lt (Nat.lt_succ_of_lt la)),Heap.get?_push_ne _ _ _ (by rw [Heap.size_update];exact Nat.ne_of_lt la)]
  exact h1
 have g2:∀ b o,b≠a→s.heap.get? b=some o→g.get? b=some o:=fun b o hb q=>by
  have lb:=Heap.lt_size q
  rw [← hh,Heap.get?_push_ne _ _ _ (by rw [size_push',Heap.size_update];exact Nat.ne_of_lt (Nat.lt_succ_of_lt lb)),Heap.get?_push_ne _ _ _ (by rw [Heap.size_update];exact Nat.ne_of_lt lb),Heap.get?_update_ne _ _ _ _ hb]
  exact q
 have fin:∀ y:Array Keyed,y.Perm (pairsOf vs)→SortedToK κ y (pairsOf vs).size→R (.done (.ret .none)) { s with heap:=g.update a (Obj.mapSeq fun _=>y.map (·.2)) }:=fun y h2 h3=>by rw [← hh];exact h y h2 h3
 dsimp only
 have zv:vs.toArray.size=vs.length:=by simp
 have room:∀ y:Array Keyed,y.Perm (pairsOf vs)→(y.map (·.2)).size≤sizeLine+1:=fun y q=>by
  rw [Array.size_map,q.size_eq,pairsOf_size,sizeLine_eq];omega
 by_cases c:vs.toArray.size < 2
 ·rw [if_pos c,if_pos c]
  apply wpAny_bind;apply wpAny_pure
  rw [StateT.run_pure]
  apply wpAny_bind;apply wpAny_pure
  dsimp only
  apply wpAny_bind;apply seqEpoch_at g1 rfl
  apply wpAny_bind
  refine listUpdate_at g1 rfl ?_ (hsz2:=room (pairsOf vs) (Array.Perm.refl _))
  simp only [bne_self_eq_false,Bool.false_eq_true,if_false]
  refine wpAny_pure (fin (pairsOf vs) (Array.Perm.refl _) fun i j hij hj=>?_)
  obtain rfl:i=j:=by rw [pairsOf_size] at hj;omega
  exact KeyOrd.kle_refl _
 ·rw [if_neg c,if_neg c]
  apply wpAny_bind
  refine hd _ _ _ g2 (by omega) ?_
  apply wpAny_bind
  refine wpAny_mono (C6 (z:=pairsOf vs) (t:=SortSt.mk' kd (pairsOf vs) #[] 7 none) (R:=fun _ u=>zE κ (pairsOf vs) u) (hA _ g2) hk ⟨Array.Perm.refl _,rfl,rfl,rfl⟩ (by rw [pairsOf_size];omega) (by rw [pairsOf_size];exact h64) fun u q=>q) (fun r s' q=>?_) fun _ _ q=>q
  obtain ⟨⟨⟩,u⟩:=r
  obtain ⟨rfl,fu⟩:=q
  dsimp only
  apply wpAny_bind;apply seqEpoch_at g1 rfl
  apply wpAny_bind
  refine listUpdate_at g1 rfl ?_ (hsz2:=room (arrOf u) fu.pm)
  rw [fu.ok]
  simp only [bne_self_eq_false,Bool.false_eq_true,if_false]
  exact wpAny_pure (fin (arrOf u) fu.pm fu.up)
theorem sF {l:Addr} {vs:List Value} {Q:Value→Shared→Prop} (hl:s.heap.IsList l vs.toArray) (hk:KeysOf κ (pairsOf vs))
 (hd:∀ (t:Shared) (E:Value→Shared→Prop) (Q:SortKind→Shared→Prop),kY s.heap t.heap→2≤vs.length→Q kd t→wpAny (model P w) A.in1.in1 (keyKind' vs.toArray) Q E t)
 (hA:∀ t:Shared,kY s.heap t.heap→Ask P w A.in1.in1 t κ kd) (h64:vs.length < 64)
 (h:∀ y:Array Keyed,y.Perm (pairsOf vs)→SortedToK κ y (pairsOf vs).size→Q (.ref (s.heap.objs.size+1)) { s with heap:=sortedAll s.heap vs (y.map (·.2)) }) :
 wpAny (model P w) A (call (.builtin "sorted") [.ref l]) Q E s:=by
 refine Calls.call_function_entry kind_sorted plain_sorted entry_sorted (args_sorted1 _) ?_
 unfold Builtin.«sorted»
 refine wpAny_bind (m:=checkCount "sorted" 1 1 _) (wpAny_pure ?_)
 have lz:vs.length≤sizeLine:=by rw [sizeLine_eq];omega
 refine wpAny_bind (collect_list hl (hsz:=lz) ?_)
 refine wpAny_bind (wpAny_newList (hsz:=lz) ?_)
 show wpAny (model P w) A.in1 _ _ _ { s with heap:=((s.heap.push (seqObj "list" #[] 0)).update s.heap.objs.size (Obj.mapSeq (· ++ vs.toArray))).push (seqObj "list" vs.toArray 0) }
 generalize hg:(s.heap.push (seqObj "list" #[] 0)).update s.heap.objs.size (Obj.mapSeq (· ++ vs.toArray))=g
 have gz:g.objs.size=s.heap.objs.size+1:=by rw [← hg,Heap.size_update,size_push']
 have gk:kY s.heap g:=fun b o q=>by
  have lb:=Heap.lt_size q
  rw [← hg,Heap.get?_update_ne _ _ _ _ (Nat.ne_of_lt lb),Heap.get?_push_ne _ _ _ (Nat.ne_of_lt lb)]
  exact q
 have fin:∀ y:Array Keyed,y.Perm (pairsOf vs)→SortedToK κ y (pairsOf vs).size→Q (.ref (s.heap.objs.size+1)) { s with heap:=sortedHeap (g.push (seqObj "list" vs.toArray 0)) (s.heap.objs.size+1) vs (y.map (·.2)) }:=fun y h1 h2=>by rw [← hg];exact h y h1 h2
 rw [gz]
 have at':(g.push (seqObj "list" vs.toArray 0)).get? (s.heap.objs.size+1)=some (seqObj "list" vs.toArray 0):=by rw [← gz];exact Heap.get?_push_size _ rfl
 have Jt:∀ b o,s.heap.get? b=some o→b≠s.heap.objs.size+1∧(g.push (seqObj "list" vs.toArray 0)).get? b=some o:=fun b o q=>by
  have lb:=Heap.lt_size q
  have lc:=Nat.ne_of_lt (Nat.lt_succ_of_lt lb)
  refine ⟨lc,?_⟩
  rw [Heap.get?_push_ne _ _ _ (by rw [gz];exact lc)]
  exact gk b o q
 apply wpAny_bind;apply wpAny_holding
 refine wpAny_call_entry slot_list_sort ⟨_,at',rfl⟩ entry_list_sort (C7 (κ:=κ) (kd:=kd) at' hk (fun t E Q hg=>hd t E Q fun b o q=>hg b o (Jt b o q).1 (Jt b o q).2) (fun t hg=>hA t fun b o q=>hg b o (Jt b o q).1 (Jt b o q).2) h64 fun y h1 h2=>⟨_,rfl,?_⟩) (args_list_sort _)
 exact wpAny_pure ⟨_,rfl,fin y h1 h2⟩
end
end L3
namespace L3
open PySem PySem.Spec PyProof.Rows
def lQ (h:Heap) (v:Value) (p:Pl):Prop:= ∃ (a:Addr) (o:Obj) (t u:Tok) (n:Nat),v= .ref a∧h.get? a=some o∧o.cls= .type "tuple"∧o.data= .seq #[.int p.x t,.int p.y u] n
theorem lQ.grow {h h':Heap} {v:Value} {p:Pl} (a:lQ h v p) (g:kY h h'):lQ h' v p:=by
 obtain ⟨b,o,t,u,n,h1,h2,h3,h4⟩:=a
 exact ⟨b,o,t,u,n,h1,g _ _ h2,h3,h4⟩
theorem lQ.inj {h:Heap} {v:Value} {p q:Pl} (a:lQ h v p) (b:lQ h v q):p=q:=by
 obtain ⟨a1,o,t,u,n,rfl,h2,h3,h4⟩:=a
 obtain ⟨a2,o',t',u',n',e,k2,k3,k4⟩:=b
 injection e with e
 subst e
 rw [h2] at k2
 injection k2 with k2
 subst k2
 rw [h4] at k4
 injection k4 with k4 _
 cases p;cases q
 simp at k4
 obtain ⟨⟨e1,_⟩,e2,_⟩:=k4
 rw [e1,e2]
open Classical in
noncomputable def An (h:Heap):KeyKind where
 α:=Pl
 blt p q:=decide (bQ p q)
 irrefl p:=decide_eq_false (cP p)
 trans p q r a b:=decide_eq_true (c8 (of_decide_eq_true a) (of_decide_eq_true b))
 negTrans p q r a:=by
  have a:=of_decide_eq_true a
  rcases i7 p q with c | c | c
  ·exact .inl (decide_eq_true c)
  ·subst c;exact .inr (decide_eq_true a)
  ·exact .inr (decide_eq_true (c8 c a))
 total p q a b:=by
  rcases i7 p q with c | c | c
  ·exact absurd c (of_decide_eq_false a)
  ·exact c
  ·exact absurd c (of_decide_eq_false b)
 keyOf v:=if e:∃ p,lQ h v p then some e.choose else none
 dflt:=⟨0,0⟩
open Classical in
theorem yv {h:Heap} {v:Value} {p:Pl} (a:lQ h v p):(An h).keyOf v=some p:=by
 have e:∃ p,lQ h v p:=⟨p,a⟩
 show (if e:∃ p,lQ h v p then some e.choose else none)=some p
 rw [dif_pos e,lQ.inj e.choose_spec a]
open Classical in
theorem A8 {h:Heap} {v:Value} {p:Pl} (a:(An h).keyOf v=some p):lQ h v p:=by
 have a:(if e:∃ p,lQ h v p then some e.choose else none)=some p:=a
 by_cases e:∃ p,lQ h v p
 ·rw [dif_pos e] at a
  have:=e.choose_spec
  rwa [Option.some.inj a] at this
 ·rw [dif_neg e] at a;cases a
section
variable {P:Program} {w:World} {A:Around} {E:Value→Shared→Prop} {s:Shared}
theorem sG (f:Bool) (v u:Value):keyLt' (tuples' f) v u=(do
 let a ← Builtin.List.listItems v;let b ← Builtin.List.listItems u
 for ((c,d),k) in (a.toList.zip b.toList).zipIdx do { if !(← eqBool c d) then return ← oneLt' (f && k == 0) c d }
 return a.size < b.size):=rfl
theorem pW {b:Bool} {i j:Int} {t u:Tok} {Q:Bool→Shared→Prop} (h:Q (decide (i < j)) s):wpAny (model P w) A (oneLt' b (.int i t) (.int j u)) Q E s:=by
 cases b with
 | true=>exact oneLt_int h
 | false=>
   rw [oneLt'_eq]
   simp only [Bool.false_eq_true,if_false]
   apply wpAny_bind
   refine (lt_int ?_:wpAny (model P w) A (compareOp .Lt (.int i t) (.int j u)) _ E s)
   exact wpAny_truthy_bool h
theorem Il {t:Shared} {x y:Value} {p q:Pl} {f:Bool} {R:Bool→Shared→Prop} (kx:lQ t.heap x p) (ky:lQ t.heap y q) (hR:R (decide (bQ p q)) t):wpAny (model P w) A (keyLt' (tuples' f) x y) R E t:=by
 obtain ⟨a,o,t1,u1,n1,rfl,h2,h3,h4⟩:=kx
 obtain ⟨b,o',t2,u2,n2,rfl,k2,k3,k4⟩:=ky
 rw [sG]
 apply wpAny_bind;apply listItems_at h2 h4
 apply wpAny_bind;apply listItems_at k2 k4
 simp only [List.zip_cons_cons,List.zip_nil_right,List.zipIdx_cons,List.zipIdx_nil,List.forIn_cons,List.forIn_nil,bind_assoc]
 apply wpAny_bind
 apply wpAny_eqBool_int
 by_cases ex:p.x=q.x
 ·have e:(p.x == q.x)=true:=beq_iff_eq.mpr ex
  rw [e]
  simp only [Bool.not_true,Bool.false_eq_true,if_false,pure_bind,bind_assoc]
  apply wpAny_bind
  apply wpAny_eqBool_int
  by_cases ey:p.y=q.y
  ·have e:(p.y == q.y)=true:=beq_iff_eq.mpr ey
   rw [e]
   simp only [Bool.not_true,Bool.false_eq_true,if_false,pure_bind]
   have en:decide (bQ p q)=false:=decide_eq_false (by unfold bQ;omega)
   rw [en] at hR
   exact wpAny_pure hR
  ·have e:(p.y == q.y)=false:=beq_eq_false_iff_ne.mpr ey
   rw [e]
   simp only [Bool.not_false,if_true,bind_assoc,pure_bind]
   apply wpAny_bind
   apply pW
   have en:decide (bQ p q)=decide (p.y < q.y):=by rw [decide_eq_decide];unfold bQ;omega
   rw [en] at hR
   exact wpAny_pure hR
 ·have e:(p.x == q.x)=false:=beq_eq_false_iff_ne.mpr ex
  rw [e]
  simp only [Bool.not_false,if_true,bind_assoc,pure_bind]
  apply wpAny_bind
  apply pW
  have en:decide (bQ p q)=decide (p.x < q.x):=by rw [decide_eq_decide];unfold bQ;omega
  rw [en] at hR
  exact wpAny_pure hR
theorem FN {h:Heap} {t:Shared} (g:kY h t.heap) (f:Bool):Ask P w A t (An h) (tuples' f):=
 ⟨fun E x y p q R kx ky hR=>Il ((A8 kx).grow g) ((A8 ky).grow g) hR⟩
theorem mK {β:Type} {f:Value→Sem β} (R:Value→β→Prop):∀ (vs:List Value) (Q:List β→Shared→Prop),(∀ v∈vs,∀ (Q:β→Shared→Prop),(∀ b,R v b→Q b s)→wpAny (model P w) A (f v) Q E s)→
 (∀ bs:List β,Paired R vs bs→Q bs s)→wpAny (model P w) A (vs.mapM f) Q E s
 | [],Q,_,h=>by rw [List.mapM_nil];exact wpAny_pure (h [] .nil)
 | v :: vs,Q,hv,h=>by
   rw [List.mapM_cons]
   apply wpAny_bind
   refine hv v (List.mem_cons_self ..) _ fun b rb=>?_
   apply wpAny_bind
   refine mK R vs _ (fun u hu=>hv u (List.mem_cons_of_mem _ hu)) fun bs NW=>?_
   exact wpAny_pure (h (b :: bs) (.cons rb NW))
theorem sH (v:Value):firstOfTuple' v=(typeOf v >>= fun t=>if t != .type "tuple" then pure none else Builtin.List.listItems v >>= fun a=>pure a[0]?):=rfl
theorem C8 {vs:List Value} (h2:1≤vs.length) (hv:∀ v∈vs,∃ p,lQ s.heap v p) {Q:SortKind→Shared→Prop} (h:Q (tuples' true) s):wpAny (model P w) A (keyKind' vs.toArray) Q E s:=by
 rw [keyKind'_eq,List.mapM_toArray]
 simp only [bind_map_left]
 apply wpAny_bind
 refine mK (fun _ b=> ∃ i t,b=some (Value.int i t)) vs _ (fun v hm Q hQ=>?_) fun bs hb=>?_
 ·obtain ⟨p,a,o,t,u,n,rfl,k2,k3,k4⟩:=hv v hm
  rw [sH]
  apply wpAny_bind
  refine wpAny_typeOf (T:= "tuple") ⟨o,k2,k3⟩ ?_
  have e:(Value.type "tuple" !=Value.type "tuple")=false:=by decide
  rw [e]
  simp only [Bool.false_eq_true,if_false,pure_bind]
  apply wpAny_bind;apply listItems_at k2 k4
  exact wpAny_pure (hQ _ ⟨p.x,t,rfl⟩)
 ·have all:∀ (vs:List Value) (bs:List (Option Value)),Paired (fun _ b=> ∃ i t,b=some (Value.int i t)) vs bs→bs.length=vs.length∧(∀ b∈bs,∃ i t,b=some (Value.int i t)):=by
   intro vs
   induction vs with
   | nil=>intro bs q;cases q;exact ⟨rfl,fun _ z=>by cases z⟩
   | cons v vs ih=>
     intro bs q
     cases q with
     | cons q1 q2=>
       obtain ⟨l,m⟩:=ih _ q2
       refine ⟨by simp [l],fun b hb=>?_⟩
       rcases List.mem_cons.mp hb with rfl | hb
       ·exact q1
       ·exact m b hb
  obtain ⟨hl,hm⟩:=all vs bs hb
  have c:(bs.toArray.all fun b=>b.isSome)=true:=by
   simp only [List.all_toArray,List.all_eq_true]
   intro b hb
   obtain ⟨i,t,rfl⟩:=hm b hb
   rfl
  rw [if_pos c]
  apply wpAny_bind;apply wpAny_rule
  rw [oneTypeOnly'_eq]
  have ef:bs.toArray.filterMap id=(bs.filterMap id).toArray:=by simp
  rw [ef,List.mapM_toArray]
  simp only [bind_map_left,bind_assoc]
  apply wpAny_bind
  refine mK (fun _ b=>b=Value.type "int") _ _ (fun v hv' Q hQ=>?_) fun cs hc=>?_
  ·obtain ⟨b,hb1,hb2⟩:=List.mem_filterMap.mp hv'
   obtain ⟨i,t,rfl⟩:=hm b hb1
   have hb2:some (Value.int i t)=some v:=hb2
   cases hb2
   exact wpAny_typeOf (T:= "int") (typeIs_int s i t) (hQ _ rfl)
  ·have len:1≤(bs.filterMap id).length:=by
    cases bs with
    | nil=>simp at hl;omega
    | cons b bs=>
      obtain ⟨i,t,rfl⟩:=hm b (List.mem_cons_self ..)
      simp
   have all2:∀ (us cs:List Value),Paired (fun _ b=>b=Value.type "int") us cs→cs=us.map fun _=>Value.type "int" :=by
    intro us
    induction us with
    | nil=>intro cs q;cases q;rfl
    | cons u us ih=>intro cs q;cases q with | cons q1 q2=>rw [q1,ih _ q2];rfl
   rw [all2 _ _ hc]
   generalize bs.filterMap id=us at len
   cases us with
   | nil=>simp at len
   | cons u us=>
     have e0:(List.map (fun _=>Value.type "int") (u :: us)).toArray[0]?=some (Value.type "int"):=by simp
     rw [e0]
     have e1:((List.map (fun _=>Value.type "int") (u :: us)).toArray.all fun x=>x == Value.type "int")=true:=by
      simp only [List.all_toArray,List.all_map,List.all_eq_true]
      intro _ _;rfl
     simp only [e1,if_true,pure_bind]
     exact wpAny_pure h
end
end L3
namespace L3
open PySem PySem.Spec PyProof.Rows
section
variable {P:Program} {w:World} {A:Around} {E:Value→Shared→Prop} {s:Shared}
theorem FO {h0:Heap} {I S:Addr} {fp wr:List Addr} {n:Nat} {Pr:Nat→Value→Prop} {St:Nat→Heap→Prop} {bt:Nat→Nat→Bool} {R:Result→Shared→Prop} (W:Walks P w A.in1 I fp wr n Pr St)
 (hc:∀ (i j:Nat) (vi vj:Value) (t:Shared) (Q:Value→Shared→Prop) (E:Value→Shared→Prop),kY h0 t.heap→Pr i vi→Pr j vj→Q (.bool (bt i j)) t→wpAny (model P w) A.in1 (richCompare .Lt vi vj) Q E t)
 (hS:S∉fp) (GU:∀ b o,h0.get? b=some o→b∉wr∧b≠S):∀ (m k:Nat) (t:Shared) (vb:Value) (c:Nat),n - (k+1)=m→k+1≤n→kY h0 t.heap→St (k+1) t.heap→Pr (argBest bt k) vb→
 t.heap.get? S=some { cls:= .type "list",dict:=none,data:= .seq #[vb,vb] c,slots:= #[] }→
 (∀ v h' tk,Pr (argBest bt (n - 1)) v→(∀ b o,b∉wr→b≠S→t.heap.get? b=some o→h'.get? b=some o)→R (.ok (.ret v)) { t with heap:=h',toks:=tk })→
 codeAny (model P w) A (.builtin "min.loop" ⟨[.ref I,.none,.ref S],[]⟩) R t:=by
 have Sw:S∉wr:=fun q=>hS (W.sub _ q)
 have nm:(toString "min" ++ toString ".loop" :String)= "min.loop" :=by decide
 intro m
 induction m with
 | zero=>
   intro k t vb c e1 e2 gr st pb hs hR
   have ek:k+1=n:=by omega
   refine codeAny_builtin F.entry_min_loop ?_
   rw [Around.under_plainId F.plain_min_loop]
   show wpAny (model P w) A.in1 (seqItems? (.ref S) >>= _) _ _ t
   apply wpAny_bind;apply wpAny_seqItems hs rfl
   show wpAny (model P w) A.in1 (tryCatch (pyNext (.ref I)) _ >>= _) _ _ t
   apply wpAny_bind;apply wpAny_tryCatch
   refine W.done t _ _ (ek▸st) fun h' tk kp=>?_
   have hs2:=kp S _ Sw hs
   show wpAny (model P w) A.in1 (updateSeq S (fun _=> #[]) >>= _) _ _ _
   apply wpAny_bind
   refine wpAny_updateSeq hs2 rfl ?_
   apply wpAny_bind;apply wpAny_letGo;apply wpAny_pure
   exact hR vb _ tk (by rw [← ek];exact pb) fun b o q1 q2 q=>(Heap.get?_update_other _ _ (Ne.symm q2)).trans (kp b o q1 q)
 | succ m ih=>
   intro k t vb c e1 e2 gr st pb hs hR
   refine codeAny_builtin F.entry_min_loop ?_
   rw [Around.under_plainId F.plain_min_loop]
   show wpAny (model P w) A.in1 (seqItems? (.ref S) >>= _) _ _ t
   apply wpAny_bind;apply wpAny_seqItems hs rfl
   show wpAny (model P w) A.in1 (tryCatch (pyNext (.ref I)) _ >>= _) _ _ t
   apply wpAny_bind;apply wpAny_tryCatch
   refine W.item (k+1) t _ _ (by omega) st fun v h' tk pv st2 kp=>?_
   have hs2:=kp S _ Sw hs
   have Im:kY h0 h':=fun b o q=>kp b o (GU b o q).1 (gr b o q)
   show wpAny (model P w) A.in1 (tryCatch (holding [v,v] (richCompare .Lt v vb >>= _)) _ >>= _) _ _ _
   apply wpAny_bind;apply wpAny_tryCatch;apply wpAny_holding;apply wpAny_bind
   refine hc (k+1) (argBest bt k) v vb _ _ _ Im pv pb ?_
   apply wpAny_bind;apply wpAny_holding;apply wpAny_truthy_bool
   apply wpAny_bind;apply wpAny_letGo;apply wpAny_pure
   cases d:bt (k+1) (argBest bt k) with
   | true=>
     rw [if_pos rfl]
     apply wpAny_bind
     refine wpAny_updateSeq hs2 rfl ?_
     apply wpAny_bind;apply wpAny_letGo
     rw [nm]
     refine wpAny_pure ⟨plainId_quiet F.plain_min_loop _,ih (k+1) _ v _ (by omega) (by omega) (fun b o q=>(Heap.get?_update_other _ _ (Ne.symm (GU b o q).2)).trans (Im b o q)) (W.frame _ _ _ st2 fun b q1 o q=>(Heap.get?_update_other _ _ (fun z:S=b=>hS (z▸q1))).trans q) (by simp only [argBest,d,if_true];exact pv) (Heap.get?_update_self _ hs2 rfl) fun v2 h2 Io p2 FP=>?_⟩
     exact hR v2 h2 Io p2 fun b o q1 q2 q=>FP b o q1 q2 ((Heap.get?_update_other _ _ (Ne.symm q2)).trans (kp b o q1 q))
   | false=>
     rw [if_neg Bool.false_ne_true]
     apply wpAny_bind;apply wpAny_letGo
     rw [nm]
     refine wpAny_pure ⟨plainId_quiet F.plain_min_loop _,ih (k+1) _ vb c (by omega) (by omega) Im st2 (by simp only [argBest,d,Bool.false_eq_true,if_false];exact pb) hs2 fun v2 h2 Io p2 FP=>?_⟩
     exact hR v2 h2 Io p2 fun b o q1 q2 q=>FP b o q1 q2 (kp b o q1 q)
theorem zF {h0:Heap} {I S:Addr} {fp wr:List Addr} {n:Nat} {Pr:Nat→Value→Prop} {St:Nat→Heap→Prop} {bt:Nat→Nat→Bool} {R:Result→Shared→Prop} {t:Shared} {c:Nat} (W:Walks P w A.in1 I fp wr n Pr St)
 (hc:∀ (i j:Nat) (vi vj:Value) (t:Shared) (Q:Value→Shared→Prop) (E:Value→Shared→Prop),kY h0 t.heap→Pr i vi→Pr j vj→Q (.bool (bt i j)) t→wpAny (model P w) A.in1 (richCompare .Lt vi vj) Q E t)
 (hS:S∉fp) (GU:∀ b o,h0.get? b=some o→b∉wr∧b≠S) (hn:0 < n) (gr:kY h0 t.heap) (st:St 0 t.heap) (hs:t.heap.get? S=some { cls:= .type "list",dict:=none,data:= .seq #[] c,slots:= #[] })
 (hR:∀ v h' tk,Pr (argBest bt (n - 1)) v→(∀ b o,b∉wr→b≠S→t.heap.get? b=some o→h'.get? b=some o)→R (.ok (.ret v)) { t with heap:=h',toks:=tk }) :
 codeAny (model P w) A (.builtin "min.loop" ⟨[.ref I,.none,.ref S],[]⟩) R t:=by
 have Sw:S∉wr:=fun q=>hS (W.sub _ q)
 have nm:(toString "min" ++ toString ".loop" :String)= "min.loop" :=by decide
 refine codeAny_builtin F.entry_min_loop ?_
 rw [Around.under_plainId F.plain_min_loop]
 show wpAny (model P w) A.in1 (seqItems? (.ref S) >>= _) _ _ t
 apply wpAny_bind;apply wpAny_seqItems hs rfl
 show wpAny (model P w) A.in1 (tryCatch (pyNext (.ref I)) _ >>= _) _ _ t
 apply wpAny_bind;apply wpAny_tryCatch
 refine W.item 0 t _ _ hn st fun v h' tk pv st2 kp=>?_
 have hs2:=kp S _ Sw hs
 have Im:kY h0 h':=fun b o q=>kp b o (GU b o q).1 (gr b o q)
 show wpAny (model P w) A.in1 (updateSeq S (fun _=> #[v,v]) >>= _) _ _ _
 apply wpAny_bind
 refine wpAny_updateSeq hs2 rfl ?_
 rw [nm]
 refine wpAny_pure ⟨plainId_quiet F.plain_min_loop _,FO W hc hS GU _ 0 _ v _ rfl hn (fun b o q=>(Heap.get?_update_other _ _ (Ne.symm (GU b o q).2)).trans (Im b o q)) (W.frame _ _ _ st2 fun b q1 o q=>(Heap.get?_update_other _ _ (fun z:S=b=>hS (z▸q1))).trans q) pv (Heap.get?_update_self _ hs2 rfl) fun v2 h2 Io p2 FP=>?_⟩
 exact hR v2 h2 Io p2 fun b o q1 q2 q=>FP b o q1 q2 ((Heap.get?_update_other _ _ (Ne.symm q2)).trans (kp b o q1 q))
end
end L3
namespace HT
open PySem PyProof.Rows
section
open PySem.SeqAt
open PySem.AutoSeq1 (wpAny_loadPart')
open PySem.MeetsSeq PySem.MeetsSeq2 PySem.MeetsSeq3
end
section
variable {prog:Program} {w:World} {A:Around} {E:Value→Shared→Prop} {s:Shared}
end
end HT
namespace L3
open PySem PySem.Spec PyProof.Rows L2
section
variable {X:Cx} {pos:Pos}
def Ip (c:kW) (t:kX):kX:=fun D ρ M=> ∃ J:En→Mp→Prop,(c ρ M fun b M1=>if b=true then t { D with nx:=fun ρ' M'=>aQ (J ρ' M') } ρ M1 else aQ (J ρ M1))∧∀ ρ M,J ρ M→D.nx ρ M
theorem vD {c:Expr} {a:List Stmt} {tc:kW} {t:kX} (hc:vt X c tc) (ha:jS X a t):wW X (.If c a [] pos) (Ip tc t):=by
 constructor
 intro pins s σ H ρ M D I r ⟨J,q,hJ⟩
 refine cZ ((bX hc ha aU).run pins s σ H ρ M { D with nx:=fun ρ' M'=>aQ (J ρ' M') } I r q) fun f s' z=>?_
 cases f with
 | next=>obtain ⟨σ',H',I',ρ',M',fr,r',p⟩:=z;exact ⟨σ',H',I',ρ',M',fr,r',hJ _ _ p.out⟩
 | brk=>exact z
 | cont=>exact z
 | ret u=>exact z
theorem ja (p q:Pl):HT.lexLt [p.x,p.y] [q.x,q.y]=decide (bQ p q):=by
 rw [HT.lK,HT.lK,HT.k7]
 by_cases ex:p.x=q.x
 ·rw [if_pos ex]
  by_cases ey:p.y=q.y
  ·rw [if_pos ey];exact (decide_eq_false (by unfold bQ;omega)).symm
  ·rw [if_neg ey,decide_eq_decide];unfold bQ;omega
 ·rw [if_neg ex,decide_eq_decide];unfold bQ;omega
theorem A9 {P:Program} {w:World} {K:PySem.W.Frag} {H:Hp} {h:Heap} {p:Pl} {x:V} {u:Value} (ok:jN P w H h) (d:Dat K H p.d x) (r:RelV x u):lQ h u p:=by
 obtain ⟨a,xs,rfl,ha,hx⟩:=bP.mp d
 obtain rfl:u=Value.ref a:=r
 obtain ⟨its,rv,⟨o,h1,h2,n,h3⟩,_⟩:=fG ok ha
 obtain ⟨v1,v2,rfl,d1,d2⟩:=vv hx
 obtain rfl:=aJ.mp d1
 obtain rfl:=aJ.mp d2
 obtain ⟨u1,u2,rfl,⟨t1,rfl⟩,⟨t2,rfl⟩⟩:=vals2 rv
 exact ⟨a,o,t1,t2,n,rfl,h1,h2,h3⟩
theorem lQ.tup {h:Heap} {v:Value} {p:Pl} (a:lQ h v p):∃ (l:Addr) (its:Array Value),v= .ref l∧IsTup h l its∧IntsAre its.toList [p.x,p.y]:=by
 obtain ⟨b,o,t,u,n,h1,h2,h3,h4⟩:=a
 exact ⟨b,_,h1,⟨o,h2,h3,n,h4⟩,.cons _ _ (.cons _ _ .nil)⟩
def eE (h:Heap):List Value→List Pl→Prop:=Paired (lQ h)
theorem pX {P:Program} {w:World} {K:PySem.W.Frag} {H:Hp} {h:Heap} (ok:jN P w H h):∀ {ps:List Pl} {xs:List V} {us:List Value},aG K H (ps.map Pl.d) xs→Vals xs us→eE h us ps
 | [],xs,us,d,r=>by rw [aP.mp d] at r;cases r;exact .nil
 | p :: ps,xs,us,d,r=>by
   obtain ⟨v,vs,rfl,d1,d2⟩:=aH.mp d
   cases r with
   | cons r rr=>exact .cons (A9 ok d1 r) (pX ok d2 rr)
theorem Vals.len {xs:List V} {us:List Value} (r:Vals xs us):us.length=xs.length:=(Vals.length r).symm
noncomputable def t6 (h:Heap) (v:Value):Pl:=Option.getD (α:=Pl) ((An h).keyOf v) ⟨0,0⟩
theorem yw {h:Heap} {v:Value} {p:Pl} (a:lQ h v p):t6 h v=p:=by
 unfold t6
 have e:(An h).keyOf v=some p:=yv a
 exact congrArg (fun o=>Option.getD (α:=Pl) o ⟨0,0⟩) e
theorem eE.keys {h:Heap}:∀ {us:List Value} {ps:List Pl},eE h us ps→us.map (t6 h)=ps
 | _,_,.nil=>rfl
 | _,_,.cons a r=>by rw [List.map_cons,yw a,eE.keys r]
theorem eE.mem {h:Heap}:∀ {us:List Value} {ps:List Pl} {v:Value},eE h us ps→v∈us→∃ p,lQ h v p
 | _,_,v,.nil,m=>by cases m
 | _,_,v,.cons a r,m=>by
   rcases List.mem_cons.mp m with rfl | m
   ·exact ⟨_,a⟩
   ·exact eE.mem r m
theorem c9 {α:Type}:∀ {vs:List α} {p:α ×α},p∈vs.zip vs→p.1=p.2∧p.1∈vs
 | [],p,m=>by simp at m
 | v :: vs,p,m=>by
   rw [List.zip_cons_cons] at m
   rcases List.mem_cons.mp m with rfl | m
   ·exact ⟨rfl,List.mem_cons_self ..⟩
   ·exact ⟨(c9 m).1,List.mem_cons_of_mem _ (c9 m).2⟩
theorem qX {P:Program} {w:World} {A:Around} {E:Value→Shared→Prop} {s:Shared} {l:Addr} {vs:List Value} {ps:List Pl} {Q:Value→Shared→Prop} (hl:s.heap.IsList l vs.toArray) (hv:eE s.heap vs ps) (h64:vs.length < 64)
 (h:∀ (out:List Value) (qs:List Pl),(∀ v∈out,v∈vs)→qs=out.map (t6 s.heap)→qs.Perm ps→qs.Pairwise (fun p q=> ¬ bQ q p)→Q (.ref (s.heap.objs.size+1)) { s with heap:=sortedAll s.heap vs out.toArray }) :
 wpAny (model P w) A (call (.builtin "sorted") [.ref l]) Q E s:=by
 have hk:KeysOf (An s.heap) (pairsOf vs):=fun p hp=>by
  rw [pairsOf_toList] at hp
  obtain ⟨q,a⟩:=hv.mem (c9 hp).2
  exact ⟨q,yv a⟩
 refine sF (κ:=An s.heap) (kd:=tuples' true) hl hk (fun t E Q g h2 q=>C8 (by omega) (fun v m=>?_) q) (fun t g=>FN g true) h64 fun y hp hs=>?_
 ·obtain ⟨p,a⟩:=hv.mem m
  exact ⟨p,a.grow g⟩
 ·have pl:y.toList.Perm (vs.zip vs):=by rw [← pairsOf_toList];exact Array.perm_iff_toList_perm.mp hp
  have same:∀ p∈y.toList,p.1=p.2∧p.1∈vs:=fun p m=>c9 (pl.mem_iff.mp m)
  have eo:y.map (·.2)=(y.toList.map (·.2)).toArray:=by rw [← Array.toList_map,Array.toArray_toList]
  rw [eo]
  refine h (y.toList.map (·.2)) _ (fun v m=>?_) rfl ?_ ?_
  ·obtain ⟨p,m2,rfl⟩:=List.mem_map.mp m
   rw [← (same p m2).1];exact (same p m2).2
  ·have q:=(pl.map (fun p=>p.2)).map (t6 s.heap)
   have e:(vs.zip vs).map (fun p=>p.2)=vs:=List.map_snd_zip (Nat.le_refl _)
   rw [e,hv.keys] at q
   exact q
  ·rw [List.pairwise_iff_getElem]
   intro i j hi hj hij
   have li:i < y.size:=by simpa using hi
   have lj:j < y.size:=by simpa using hj
   have q:=hs i j (Nat.le_of_lt hij) (by rw [← hp.size_eq];exact lj)
   have key:∀ k (hk:k < y.size),KK (An s.heap) y k=t6 s.heap y[k].2:=fun k hk=>by
    unfold KK
    rw [getElem?_pos y k hk]
    show Option.getD (α:=Pl) ((An s.heap).keyOf y[k].1) ⟨0,0⟩=_
    rw [(same y[k] (by simp)).1]
    rfl
   have q:(An s.heap).blt (KK (An s.heap) y j) (KK (An s.heap) y i)=false:=q
   rw [key i li,key j lj] at q
   have q:decide (bQ (t6 s.heap y[j].2) (t6 s.heap y[i].2))=false:=q
   simpa using of_decide_eq_false q
def C9:List D→Mp→DK→Prop:=fun ds M Q=> ∃ (l:Addr) (ps:List Pl),ds= [.ref l]∧M l=some (.lst (ps.map Pl.d))∧ps.length < 64∧∀ (p:Addr) (qs:List Pl),M p=none→qs.Perm ps→qs.Pairwise (fun p q=> ¬ bQ q p)→Q (.ref p) (aC M p (.lst (qs.map Pl.d)))
theorem sI {K:PySem.W.Frag} {H:Hp} {h:Heap} {P:Program} {w:World} (ok:jN P w H h) {ps:List Pl} {zs:List V} {vs:List Value} (d:aG K H (ps.map Pl.d) zs) (r:Vals zs vs):∀ (out:List Value),(∀ v∈out,v∈vs)→
 ∃ ws,Vals ws out∧aG K H ((out.map (t6 h)).map Pl.d) ws
 | [],_=>⟨[],.nil,aP.mpr rfl⟩
 | v :: out,m=>by
   obtain ⟨ws,h1,h2⟩:=sI ok d r out fun u hu=>m u (List.mem_cons_of_mem _ hu)
   have one:∀ {ps:List Pl} {zs:List V} {vs:List Value},aG K H (ps.map Pl.d) zs→Vals zs vs→v∈vs→∃ (p:Pl) (x:V),RelV x v∧Dat K H p.d x:=by
    intro ps
    induction ps with
    | nil=>intro zs vs d r m;rw [aP.mp d] at r;cases r;cases m
    | cons p ps ih=>
      intro zs vs d r m
      obtain ⟨x,xs,rfl,d1,d2⟩:=aH.mp d
      cases r with
      | cons r1 r2=>
        rcases List.mem_cons.mp m with rfl | m
        ·exact ⟨p,x,r1,d1⟩
        ·exact ih d2 r2 m
   obtain ⟨p,x,rx,dx⟩:=one d r (m v (List.mem_cons_self ..))
   refine ⟨x :: ws,.cons rx h1,?_⟩
   rw [List.map_cons,List.map_cons,yw (A9 ok dx rx)]
   exact aH.mpr ⟨x,ws,rfl,dx,h2⟩
theorem pY:Call3 X (.builtin "sorted") C9:=by
 constructor
 intro pins s σ H M xs ds us Q I rm rs dx ⟨l,ps,e,hM,h64,q⟩
 subst e
 obtain ⟨v,rfl,hv⟩:=jU dx
 obtain rfl:=aV.mp hv
 obtain ⟨u,rfl,r1⟩:=vals1 rs
 obtain rfl:u=Value.ref l:=r1
 obtain ⟨zs,hH,hz⟩:=rm.lst hM
 obtain ⟨its,rv,pl,hsz⟩:=I.list (jw.of (K:=X.K) hH)
 have hl:its.length=ps.length:=by rw [Vals.len rv,← hz.length,List.length_map]
 refine qX pl.isList (pX I.hok hz rv) (by omega) fun out qs hm eq hp hs=>?_
 obtain ⟨ws,w1,w2⟩:=sI I.hok hz rv out hm
 rw [← eq] at w2
 obtain ⟨n,hn⟩:=sortedAll_at s.heap its out.toArray
 have fr:H (s.heap.objs.size+1)=none:=I.hok.fresh (Nat.le_succ _)
 have zw:ws.length≤sizeLine:=by
  rw [← w2.length,List.length_map,hp.length_eq,sizeLine_eq];omega
 refine ⟨.ref (s.heap.objs.size+1),upd H (s.heap.objs.size+1) (.lst ws),I.laid (t':=s.toks) (fun b o e=>sortedAll_old e) (Nat.le_succ _) ⟨zw,out,n,w1,hn⟩,rfl,.ref _,aC M _ (.lst (qs.map Pl.d)),Fr.new fr fun _ hb=>bC hb,aV.mpr rfl,rm.newL fr w2,q _ _ (rm.free fr) hp hs⟩
end
end L3
local macro_rules | `(tactic| walk_at "sm")=> `(tactic| first | assumption | exact L3.Sm.sign _ | exact L3.Sm.zero | exact L3.Sm.one | exact L3.Sm.two | ((with_reducible apply L3.Sm.mul) <;> walk_at "sm") | ((with_reducible apply L3.Sm.sub) <;> walk_at "sm") | ((with_reducible apply L3.Sm.add) <;> walk_at "sm") | ((with_reducible apply L3.Sm.neg) <;> walk_at "sm") | ((with_reducible apply L3.Sm.abs) <;> walk_at "sm") | ((with_reducible apply L3.Sm.emod);(first | omega | decide +kernel);walk_at "sm") | exact L3.Sm.lit _)
local macro_rules | `(tactic| walk_at "mulok")=> `(tactic| (apply L3.MulOk.of;walk_at "sm";walk_at "sm";first | omega | decide +kernel))
local macro_rules | `(tactic| walk_at "rd1")=> `(tactic| first | refine ⟨_,rfl,?_⟩ | refine ⟨_,_,rfl,rfl,?_⟩ | refine ⟨_,_,_,Or.inl rfl,rfl,rfl,?_⟩ | (refine ⟨?side,?_⟩;(case side=>first | walk_at "mulok" | (simp only [List.length_cons,List.length_nil];decide) | (show (0:Int) < _;first | omega | (dsimp only;omega) | decide +kernel) | (show (0:Int)≤_;first | omega | (dsimp only;omega)) | exact ⟨by decide +kernel,by decide +kernel,by decide +kernel⟩ | exact ⟨by decide +kernel,_,L3.Sm.lit _,by decide +kernel⟩ | (left;walk_at "mulok") | exact Or.inr (Or.inr ⟨by decide,by decide⟩) | decide)) | refine ⟨rfl,?_⟩ | refine ⟨trivial,?_⟩ | refine ⟨_,Or.inl rfl,rfl,?_⟩ | refine ⟨_,_,rfl,Or.inl rfl,?_⟩ | refine ⟨_,_,_,_,rfl,L3.AZ.int _,L3.bF,?_⟩ | refine ⟨_,_,_,_,rfl,L3.AZ.tup _,L3.bF,?_⟩ | refine ⟨_,_,_,_,rfl,L3.AZ.bl _,L3.bF,?_⟩ | refine ⟨_,_,rfl,?_⟩ | refine ⟨_,_,_,rfl,?_⟩ | refine ⟨_,_,_,_,rfl,?_⟩)
local macro_rules | `(tactic| walk_at "rd")=> `(tactic| repeat walk_at "rd1")
local macro_rules | `(tactic| walk_at "smle")=> `(tactic| (apply L3.Sm.le;walk_at "sm";first | omega | decide +kernel))
local macro_rules | `(tactic| walk_at "om")=> `(tactic| first | omega | (dsimp only;omega))
namespace L3
open PySem L2
theorem Ed {a b c:Pl} (ha:a.Ok 140) (hb:b.Ok 140) (hc:c.Ok 140):Sm 290 (tw a b c):=by
 obtain ⟨a1,a2⟩:=ha
 obtain ⟨b1,b2⟩:=hb
 obtain ⟨c1,c2⟩:=hc
 unfold tw
 walk_at "smle"
theorem pZ {α:Type} {qs:List α} (h:qs.length=3):∃ u v w,qs= [u,v,w]:=by
 match qs,h with
 | [u,v,w],_=>exact ⟨u,v,w,rfl⟩
theorem Ba {α:Type} {v w b c:α} (h: [v,w].Perm [b,c]):(v=b∧w=c)∨(v=c∧w=b):=by
 have m:v∈[b,c]:=h.mem_iff.mp (by simp)
 rcases List.mem_cons.mp m with rfl | m
 ·exact .inl ⟨rfl,by have:=(List.perm_cons v).mp h;simpa using this⟩
 ·have:=List.mem_singleton.mp m
  subst this
  have h2:=(List.perm_cons v).mp (h.trans (List.Perm.swap v b []))
  exact .inr ⟨rfl,by simpa using h2⟩
theorem Bb {α:Type} {u v w a b c:α} (h: [u,v,w].Perm [a,b,c]):(u=a∧v=b∧w=c)∨(u=a∧v=c∧w=b)∨(u=b∧v=a∧w=c)∨(u=b∧v=c∧w=a)∨(u=c∧v=a∧w=b)∨(u=c∧v=b∧w=a):=by
 have m:u∈[a,b,c]:=h.mem_iff.mp (by simp)
 rcases List.mem_cons.mp m with rfl | m
 ·rcases Ba ((List.perm_cons u).mp h) with ⟨e1,e2⟩ | ⟨e1,e2⟩
  ·exact .inl ⟨rfl,e1,e2⟩
  ·exact .inr (.inl ⟨rfl,e1,e2⟩)
 ·rcases List.mem_cons.mp m with rfl | m
  ·have h2:=(List.perm_cons u).mp (h.trans (List.Perm.swap u a [c]))
   rcases Ba h2 with ⟨e1,e2⟩ | ⟨e1,e2⟩
   ·exact .inr (.inr (.inl ⟨rfl,e1,e2⟩))
   ·exact .inr (.inr (.inr (.inl ⟨rfl,e1,e2⟩)))
  ·have:=List.mem_singleton.mp m
   subst this
   have h2:=(List.perm_cons u).mp (h.trans ((List.Perm.cons a (List.Perm.swap u b [])).trans (List.Perm.swap u a [b])))
   rcases Ba h2 with ⟨e1,e2⟩ | ⟨e1,e2⟩
   ·exact .inr (.inr (.inr (.inr (.inl ⟨rfl,e1,e2⟩))))
   ·exact .inr (.inr (.inr (.inr (.inr ⟨rfl,e1,e2⟩))))
theorem Bc {n:Nat} {u v w a b c:Pl} (h: [u,v,w].Perm [a,b,c]) (ha:a.Ok n) (hb:b.Ok n) (hc:c.Ok n):u.Ok n∧v.Ok n∧w.Ok n:=by
 rcases Bb h with ⟨rfl,rfl,rfl⟩ | ⟨rfl,rfl,rfl⟩ | ⟨rfl,rfl,rfl⟩ | ⟨rfl,rfl,rfl⟩ | ⟨rfl,rfl,rfl⟩ | ⟨rfl,rfl,rfl⟩ <;> exact ⟨by assumption,by assumption,by assumption⟩
instance (p q r s:Pl):Decidable (NU p q r s):=inferInstanceAs (Decidable (_∨_))
theorem jW (i j:Int):(!cX (.int i) (.int j))=decide (i≠j):=by
 rw [bU,Bool.eq_iff_iff]
 simp
theorem sJ (qs:List Pl):(qs.map Pl.d).all (plain 9)=true:=by
 rw [List.all_map,List.all_eq_true]
 intro q _
 rfl
end L3
namespace L3
open PySem PySem.Spec PyProof.Rows L2
def cY (cells:List (Str ×Addr)) (names:List (Str ×NameKind)) (cs:List (Str ×Addr)):List (Str ×Addr):=
 names.foldl (fun cs y=>if (y.2 == NameKind.free)=true then (y.1,(cells.lookup y.1).getD 0) :: cs else cs) cs
theorem p7 {α β:Type} {f:α→β→Sem (ForInStep β)} {g:β→α→β}:∀ {l:List α} {b:β},(∀ x∈l,∀ b,f x b=pure (.yield (g b x)))→forIn l b f=(pure (l.foldl g b):Sem β)
 | [],b,_=>rfl
 | x :: l,b,h=>by
   rw [List.forIn_cons,h x (List.mem_cons_self ..),pure_bind]
   exact p7 fun y hy=>h y (List.mem_cons_of_mem _ hy)
theorem w4 {sc:Scope} {env:Env} (h:∀ y∈sc.names,y.2= .free→∃ c,env.cells.lookup y.1=some c):closureFor sc env=pure (cY env.cells sc.names []):=by
 unfold closureFor cY
 dsimp only
 rw [p7 (g:=fun cs y=>if (y.2 == NameKind.free)=true then (y.1,(env.cells.lookup y.1).getD 0) :: cs else cs)]
 ·rfl
 ·rintro ⟨n,k⟩ hy b
  by_cases hk:k= .free
  ·subst hk
   obtain ⟨c,hc⟩:=h _ hy rfl
   have hc:env.cells.lookup n=some c:=hc
   simp [cellOf,hc]
  ·have hb:(k == NameKind.free)=false:=by simpa using hk
   simp [hb]
theorem om {cells:List (Str ×Addr)} {x:Str} {c:Addr}:∀ {names:List (Str ×NameKind)} {cs:List (Str ×Addr)},(∀ y∈names,y.2= .free→∃ c,cells.lookup y.1=some c)→(∀ x c,cs.lookup x=some c→cells.lookup x=some c)→
 (cY cells names cs).lookup x=some c→cells.lookup x=some c
 | [],cs,_,h,e=>h x c e
 | (n,k) :: r,cs,hf,h,e=>by
   refine om (names:=r) (cs:=if (k == NameKind.free)=true then (n,(cells.lookup n).getD 0) :: cs else cs) (fun y hy=>hf y (List.mem_cons_of_mem _ hy)) (fun x c q=>?_) e
   split at q
   ·rename_i hk
    rw [List.lookup_cons] at q
    split at q
    ·rename_i hx
     have hx:=eq_of_beq hx
     subst hx
     obtain ⟨c',hc⟩:=hf (x,k) (List.mem_cons_self ..) (eq_of_beq hk)
     have hc:cells.lookup x=some c':=hc
     rw [hc] at q
     rw [hc];exact q
    ·exact h x c q
   ·exact h x c q
theorem oz {cells:List (Str ×Addr)} {x:Str}:∀ {names:List (Str ×NameKind)} {cs:List (Str ×Addr)},((cs.lookup x).isSome=true∨(x,NameKind.free)∈names)→((cY cells names cs).lookup x).isSome=true
 | [],cs,h=>by
   rcases h with h | h
   ·exact h
   ·cases h
 | (n,k) :: r,cs,h=>by
   refine oz (names:=r) (cs:=if (k == NameKind.free)=true then (n,(cells.lookup n).getD 0) :: cs else cs) ?_
   rcases h with h | h
   ·left
    split
    ·rw [List.lookup_cons]
     split
     ·rfl
     ·exact h
    ·exact h
   ·rcases List.mem_cons.mp h with e | h
    ·left
     cases e
     simp [List.lookup_cons]
    ·exact .inr h
theorem mem_of_lookup {β:Type} {x:Str} {b:β}:∀ {l:List (Str ×β)},l.lookup x=some b→(x,b)∈l
 | [],h=>by cases h
 | (n,c) :: r,h=>by
   rw [List.lookup_cons] at h
   split at h
   ·rename_i hx
    cases h
    have:=eq_of_beq hx
    subst this
    exact List.mem_cons_self ..
   ·exact List.mem_cons_of_mem _ (mem_of_lookup h)
def bJ (outer:Scope) (N:List Str) (sc:Scope) (x:Str) (ys:List Str) (fs:List Nat):Bool:=
 (sc.kind == .function) && (outer.kind == .function) && sc.names.all (fun y=>!(y.2 == .cell) && (!(y.2 == .local) || sc.names.lookup y.1 == some .local) && (!(y.2 == .free) || outer.names.lookup y.1 == some .cell)) && (sc.names.lookup x == some .local) &&
  decide (ys.length=fs.length) && (ys.zip fs).all (fun p=>N[p.2]? == some p.1 && sc.names.lookup p.1 == some .free) && decide (x :: ys).Nodup
structure p8 (outer:Scope) (N:List Str) (sc:Scope) (x:Str) (ys:List Str) (fs:List Nat):Prop where
 kind:sc.kind= .function
 Iq:outer.kind= .function
 Bd:∀ y∈sc.names,y.2≠ .cell
 names:∀ y∈sc.names,y.2= .local→sc.names.lookup y.1=some .local
 Ju:∀ y∈sc.names,y.2= .free→outer.names.lookup y.1=some .cell
 loc:sc.names.lookup x=some .local
 len:ys.length=fs.length
 at':∀ (k:Nat) y,ys[k]?=some y→∃ i,fs[k]?=some i∧N[i]?=some y∧sc.names.lookup y=some .free
 nd:(x :: ys).Nodup
theorem p8.of {outer:Scope} {N:List Str} {sc:Scope} {x:Str} {ys:List Str} {fs:List Nat} (h:bJ outer N sc x ys fs=true):p8 outer N sc x ys fs:=by
 unfold bJ at h
 simp only [Bool.and_eq_true,List.all_eq_true,decide_eq_true_eq] at h
 obtain ⟨⟨⟨⟨⟨⟨h1,NX⟩,h2⟩,h3⟩,h4⟩,h5⟩,h6⟩:=h
 refine ⟨eq_of_beq h1,eq_of_beq NX,fun y hy z=>?_,fun y hy z=>?_,fun y hy z=>?_,eq_of_beq h3,h4,fun k y e=>?_,h6⟩
 ·have:=(h2 y hy).1.1
  rw [z] at this
  simp at this
 ·have:=(h2 y hy).1.2
  rw [z] at this
  simpa using this
 ·have:=(h2 y hy).2
  rw [z] at this
  simpa using this
 ·have hk:k < fs.length:=by rw [← h4];exact (List.getElem?_eq_some_iff.mp e).1
  have ez:(ys.zip fs)[k]?=some (y,fs[k]):=by
   rw [List.getElem?_zip_eq_some]
   exact ⟨e,List.getElem?_eq_getElem hk⟩
  obtain ⟨q1,q2⟩:=h5 _ (List.mem_of_getElem? ez)
  exact ⟨fs[k],List.getElem?_eq_getElem hk,eq_of_beq q1,eq_of_beq q2⟩
theorem mL {env:Env} {y:Str} (hk:env.scope.kind= .function) (hc:env.scope.names.lookup y=some .cell):∀ {names:List (Str ×NameKind)},names.lookup y=some .free→
 (names.map fun (n,k)=>if (k == NameKind.free && env.scope.kind == .function && env.kindOf n == some .cell) then (n,NameKind.cell) else (n,k)).lookup y=some .cell
 | [],h=>by cases h
 | (n,k) :: r,h=>by
   rw [List.lookup_cons] at h
   split at h
   ·rename_i hx
    cases h
    have:=eq_of_beq hx
    subst this
    have hc:env.kindOf y=some .cell:=hc
    simp [hk,hc,List.lookup_cons]
   ·rename_i hx
    have ih:=mL hk hc h
    simp only [List.map_cons]
    split
    ·rw [List.lookup_cons,hx];exact ih
    ·rw [List.lookup_cons,hx];exact ih
abbrev sL (X:Cx) (sc:Scope) (x:Str) (ys:List Str) (cl:List (Str ×Addr)) (C:Addr) (s0:Shared) (H0:Hp) (ex:List Addr):Cx:=
 { X with N:=x :: ys,s₀:=s0,H₀:=H0,env:=compEnvC sc cl C X.env,outer:=X.stack,ex:=ex,fn:=fun _=>false,pn:=[],xe:=fun _ _=>False }
structure GV (X:Cx) (ifs:List Expr) (t:kW):Prop where
 run:∀ (pins:List (Addr ×Obj)) (s:Shared) (σ:St) (H:Hp) (ρ:En) (M:Mp) (Q:Bool→Mp→Prop),Inv X pins σ H s→Rep X.K H σ ρ M→t ρ M Q→
  wpAny (model X.prog X.w) X.A (forIn ifs true fun c r=>if r=true then do { let ok ← isTrue c X.env (eval c X.env);pure (ForInStep.yield ok) } else pure (ForInStep.yield r)) (TP X pins σ (oi X.K M H Q)) X.xe s
def K2:kW:=fun _ M Q=>Q true M
theorem jX {X:Cx}:GV X [] K2:=⟨fun pins s σ H ρ M Q I r q=>wpAny_tests_nil ⟨H,I,M,.refl _ _,r.mem,q⟩⟩
theorem sM {X:Cx} {c:Expr} {t:kW} (h:vt X c t):GV X [c] t:=⟨fun pins s σ H ρ M Q I r q=>wpAny_tests_one (h.run pins s σ H ρ M Q I r q)⟩
def mO (gd:Mp→Prop) (tt:kW) (te:c6) (fr:En) (Q:List D→Mp→Prop):List D→List D→Mp→Prop
 | [],acc,M=>gd M∧Q acc M
 | d :: ds,acc,M=>gd M∧tt (some d :: fr) M fun b M1=>if b=true then te (some d :: fr) M1 fun y M2=>mO gd tt te fr Q ds (acc ++ [y]) M2 else mO gd tt te fr Q ds acc M1
def mP (fs:List Nat) (ρ:En):En:=fs.map fun i=>(ρ[i]?).join
section
variable {X:Cx} {sc:Scope} {x:Str} {ys:List Str} {fs:List Nat}
theorem Be {fs:List Nat} {ρ:En} {k:Nat} {d:D} (h:(mP fs ρ)[k]?=some (some d)):∃ i,fs[k]?=some i∧ρ[i]?=some (some d):=by
 unfold mP at h
 rw [List.getElem?_map] at h
 cases e:fs[k]? with
 | none=>rw [e] at h;cases h
 | some i=>
   rw [e] at h
   refine ⟨i,rfl,?_⟩
   have h:(ρ[i]?).join=some d:=Option.some.inj h
   cases q:ρ[i]? with
   | none=>rw [q] at h;cases h
   | some o=>rw [q] at h;rw [show o=some d from h]
theorem zG {pins:List (Addr ×Obj)} {σ:St} {H:Hp} {s s':Shared} {C:Addr} {fp:List Addr} {cl:List (Str ×Addr)} {ρ:En} {M:Mp} (ck:p8 X.env.scope X.N sc x ys fs) (I:Inv X pins σ H s) (r:Rep X.K H σ ρ M) (hcl:cl=cY X.env.cells sc.names [])
 (hC:s.heap.objs.size≤C) (old:∀ b o,s.heap.get? b=some o→s'.heap.get? b=some o) (ns:∃ m,s'.heap.Ns C m) (hos:s'.os=s.os) (hg:s'.gens=s.gens) (hf:∀ b∈fp,jF X pins H b) (hfp:∀ b∈fp,b < s.heap.objs.size) :
 ∃ σ',Inv (sL X sc x ys cl C s H fp) [] σ' H s'∧Rep X.K H σ' (none :: mP fs ρ) M:=by
 have Bf:∀ y∈sc.names,y.2= .free→∃ c,X.env.cells.lookup y.1=some c:=fun y hy hk=>I.ok.has y.1 (.inl (ck.Ju y hy hk))
 have cf:∀ {y c},cl.lookup y=some c→X.env.cells.lookup y=some c:=fun {y c} e=>by rw [hcl] at e;exact om Bf (fun _ _ z=>by cases z) e
 have ch:∀ y,sc.names.lookup y=some .free→∃ c,cl.lookup y=some c:=fun y e=>by rw [hcl];exact Option.isSome_iff_exists.mp (oz (.inr (mem_of_lookup e)))
 have rk:∀ y k,(relabel sc X.env).names.lookup y=some k→(k= .cell∨k= .free)→∃ c,cl.lookup y=some c:=by
  intro y k e hk
  have:∃ k',sc.names.lookup y=some k'∧(k'=k∨k'= .free):=by
   clear ck Bf cf ch
   revert e
   show (sc.names.map _).lookup y=some k→_
   generalize sc.names=names
   intro e
   induction names with
   | nil=>cases e
   | cons p r ih=>
     obtain ⟨n,kn⟩:=p
     simp only [List.map_cons] at e
     rw [List.lookup_cons]
     split
     ·rename_i hx
      split at e
      ·rename_i hc
       refine ⟨kn,rfl,.inr ?_⟩
       simp only [Bool.and_eq_true] at hc
       exact eq_of_beq hc.1.1
      ·rw [List.lookup_cons,hx] at e
       exact ⟨kn,rfl,.inl (Option.some.inj e)⟩
     ·rename_i hx
      split at e <;> (rw [List.lookup_cons,hx] at e;exact ih e)
  obtain ⟨k',e',hk'⟩:=this
  rcases hk' with rfl | rfl
  ·rcases hk with rfl | rfl
   ·exact absurd rfl (ck.Bd _ (mem_of_lookup e'))
   ·exact ch y e'
  ·exact ch y e'
 have lfp:∀ b∈fp,b≠C:=fun b hb z=>absurd (Nat.lt_of_lt_of_le (hfp b hb) hC) (by rw [z];exact Nat.lt_irrefl _)
 have ok:(sL X sc x ys cl C s H fp).Ok:={
  mod:=I.ok.mod
  kind:=ck.kind
  glob:=I.ok.glob
  blt:=I.ok.blt
  above:=hC
  inj:=fun a b c e1 e2=>I.ok.inj a b c (cf e1) (cf e2)
  has:=fun y hy=>by
   rcases hy with hy | hy
   ·exact rk y _ hy (.inl rfl)
   ·exact rk y _ hy (.inr rfl)
  GO:=fun _ _ z=>by cases z
  hd:=I.ok.hd
  frames:=I.ok.frames
  stk:= .inl rfl
  G1:=fun b hb=>⟨lfp b hb,fun y c e=>(hf b hb).2.2.2.2.1 y c (cf e)⟩
  bs:=I.bs
  DW:=Nat.le_trans I.ok.DW I.sz
  zk:=fun b o e hb=>by
   rcases (hf b hb).2.2.2.1 with z | z
   ·exact I.ok.zk b o e z
   ·exact absurd (Nat.lt_of_lt_of_le (Heap.lt_size (I.ok.bs b o e).1) z) (Nat.lt_irrefl _)
  zl:=fun b hb z=>by
   rcases List.mem_cons.mp (I.wM b z) with e | e
   ·exact (hf b hb).2.1 e
   ·exact (hf b hb).2.2.1 e
  oK:=I.stack
  EI:=I.x8 }
 have fC:H C=none:=I.hok.fresh hC
 obtain ⟨m,hm⟩:=ns
 refine ⟨none :: fs.map (fun i=>(σ[i]?).join),⟨ok,hos,by rw [hg];exact I.bare,Un.kept old,⟨m,hm,fun i y v e1 e2 e3=>?_⟩,fun y c e=>?_,fC,fun y c e=>I.k6 y c (cf e),fun p hp=>(by cases hp),I.hok.kept old,by simp [ck.len]⟩,⟨fun i d e=>?_,?_,r.mem⟩⟩
 ·cases i with
  | zero=>cases e2
  | succ i=>
    have e1:ys[i]?=some y:=e1
    obtain ⟨j,f1,f2,f3⟩:=ck.at' i y e1
    have e2:(fs.map fun i=>(σ[i]?).join)[i]?=some (some v):=e2
    rw [List.getElem?_map,f1] at e2
    have e2:(σ[j]?).join=some v:=Option.some.inj e2
    have e4:σ[j]?=some (some v):=by
     cases q:σ[j]? with
     | none=>rw [q] at e2;cases e2
     | some o=>rw [q] at e2;rw [show o=some v from e2]
    have hc:X.env.scope.names.lookup y=some .cell:=ck.Ju (y,.free) (mem_of_lookup f3) rfl
    obtain ⟨m0,_,hl⟩:=I.loc
    obtain ⟨u,ru,lk⟩:=hl j y v f2 e4 (.inr (.inl hc))
    refine ⟨u,ru,?_⟩
    rcases lk with ⟨k1,_⟩ | ⟨_,c,e5,e6⟩
    ·have k1:X.env.scope.names.lookup y=some .local:=k1
     rw [hc] at k1;cases k1
    ·obtain ⟨c',e7⟩:=ch y f3
     have:=cf e7
     rw [e5] at this
     cases this
     refine .inr ⟨.inl (mL I.ok.kind hc f3),c,e7,?_⟩
     obtain ⟨o,ho,hd⟩:=e6
     exact ⟨o,old _ _ ho,hd⟩
 ·obtain ⟨v,o,ho,hd⟩:=I.cell y c (cf e)
  exact ⟨v,o,old _ _ ho,hd⟩
 ·cases i with
  | zero=>cases e
  | succ i=>
    obtain ⟨j,f1,f2⟩:=Be (show (mP fs ρ)[i]?=some (some d) from e)
    obtain ⟨v,g1,g2⟩:=r.env j d f2
    refine ⟨v,?_,g2⟩
    show (fs.map fun i=>(σ[i]?).join)[i]?=some (some v)
    rw [List.getElem?_map,f1]
    show some ((σ[j]?).join)=_
    rw [g1];rfl
 ·simp [mP]
end
end L3
namespace L3
open PySem PySem.Spec PyProof.Rows L2
section
variable {X:Cx} {sc:Scope} {x:Str} {ys:List Str} {fs:List Nat} {elt iter:Expr} {px pos:Pos} {ifs:List Expr} {tt:kW} {te:c6}
theorem w5 {α:Type} {t:Sem α} {Q Q':α→Shared→Prop} {M:Model} {A:Around} {E:Value→Shared→Prop} {s:Shared} (h:wpAny M A t Q (fun _ _=>False) s) (hQ:∀ a s,Q a s→Q' a s):wpAny M A t Q' E s:=wpAny_mono h hQ fun _ _ z=>z.elim
theorem vE (elt target iter:Expr) (ifs:List Expr) (sc:Scope) (pos:Pos) (it acc:Value) (env:Env):compTurn (.ListComp elt [⟨target,iter,ifs,0⟩] sc pos) 0 it acc env=(standAt iter.pos >>= fun _=>pyNext it >>= fun r=>match r with
 | none=>pure (.done .next)
 | some v=>letOwnedTupleGo target it v >>= fun _=>assign target env v >>= fun _=>(forIn ifs true fun c r=>if r=true then do { let ok ← isTrue c env (eval c env);pure (ForInStep.yield ok) } else pure (ForInStep.yield r)) >>= fun ok=>
   if ok=true then (eval elt env >>= fun y=>call (.builtin "list.append") [acc,y] >>= fun _=>again (.compLoop (.ListComp elt [⟨target,iter,ifs,0⟩] sc pos) 0 it acc env)) else again (.compLoop (.ListComp elt [⟨target,iter,ifs,0⟩] sc pos) 0 it acc env)):=by
 rw [compTurn_list]
 congr 1;funext _;congr 1;funext r
 cases r with
 | none=>rfl
 | some v=>
   dsimp only
   congr 1;funext _;congr 1;funext _;congr 1;funext ok
   cases ok with
   | false=>rfl
   | true=>simp only [if_true,bind_assoc,pure_bind]
structure K3 (X X':Cx) (Dl:Addr) (fp:List Addr) (tn:Nat→Heap→Prop) (M0:Mp) (H0:Hp) (fr:En) (i:Nat) (s:Shared) (acc:List D) (M:Mp):Prop where
 ex:∃ σ H y ws,Inv X' [] σ H s∧tn i s.heap∧(∀ b∈fp,H b=none)∧Rep X.K H σ (y :: fr) M∧Fr M0 H0 M H∧H Dl=some (.lst ws)∧M Dl=none∧aG X.K H acc ws∧acc.length≤i
theorem Dc (hc:X.calm=true) (ck:p8 X.env.scope X.N sc x ys fs) (ht:∀ cl C s0 H0 ex,GV (sL X sc x ys cl C s0 H0 ex) ifs tt) (he:∀ cl C s0 H0 ex,cN (sL X sc x ys cl C s0 H0 ex) elt te)
 {pins:List (Addr ×Obj)} {σ:St} {H:Hp} {s:Shared} {ρ:En} {M:Mp} {it:Addr} {fp:List Addr} {tn:Nat→Heap→Prop} {J:It} {inv:Hp→Prop} {ds:List D} {gd:Mp→Prop} {Q:DK} {E:Value→Shared→Prop} {Ma:Mp} {Ha:Hp} {use:Option (Value→Sem Unit)} {Qs:Value→Shared→Prop} (fa:Fr Ma Ha M H)
 (fin:∀ (C Dl:Addr) (s6:Shared) (H5:Hp),Inv X pins σ H5 s6→(∃ m,s6.heap.Ns C m)→jF X pins H5 C→Post X.K Ma Ha Q (.ref Dl) H5→compPost (model X.prog X.w) X.A E use Qs (.ref Dl) C (.ok .next) s6)
 (I:Inv X pins σ H s) (r:Rep X.K H σ ρ M) (T:Turn X.prog X.w X.K (.Name x px) J fp it tn) (st:tn 0 s.heap) (hf:∀ b∈fp,jF X pins H b) (hJ:A0 X.K J inv ds) (hz:ds.length < sizeLine)
 (stay:∀ M1 H1,Fr M H M1 H1→cy X.K H1 M1→gd M1→inv H1) (q:mO gd tt te (mP fs ρ) (fun zs M2=> ∀ p,M2 p=none→Q (.ref p) (aC M2 p (.lst zs))) ds [] M) :
 wpAny (model X.prog X.w) X.A (newList []) (fun acc s3=>wpAny (model X.prog X.w) X.A (newFunctionEnv sc X.env.globals (cY X.env.cells sc.names []) [] X.env.qual none .none (some X.env)) (fun cenv s4=>
  codeAny (model X.prog X.w) X.A (.compStart (.ListComp elt [⟨.Name x px,iter,ifs,0⟩] sc pos) 0 (.ref it) acc { cenv with scope:=relabel sc X.env }) (compPost (model X.prog X.w) X.A E use Qs acc cenv.locals) s4) E s3) E s:=by
 have hfp:∀ b∈fp,b < s.heap.objs.size:=fun b hb=>by
  obtain ⟨o,e,_⟩:=T.obj 0 _ st b hb
  exact Heap.lt_size e
 refine wpAny_newList (hsz:=Nat.zero_le _) ?_
 have fD:H s.heap.objs.size=none:=I.hok.fresh (Nat.le_refl _)
 have k1:∀ b o,s.heap.get? b=some o→(s.heap.push { cls:= .type "list",data:= .seq ([]:List Value).toArray }).get? b=some o:=fun b o e=>Heap.get?_push_of_some _ e
 have z3:(s.heap.push { cls:= .type "list",data:= .seq ([]:List Value).toArray }).objs.size=s.heap.objs.size+1:=Heap.size_push ..
 have I3:Inv X pins σ (upd H s.heap.objs.size (.lst [])) { s with heap:=s.heap.push { cls:= .type "list",data:= .seq ([]:List Value).toArray } }:=
  I.laid (t':=s.toks) k1 (Nat.le_refl _) ⟨Nat.zero_le _,[],0,.nil,Heap.get?_push_size _ rfl⟩
 refine wpAny_newFunctionEnv ck.Bd (fun y hy=>by cases hy) (fun h1 Mt Mu=>?_) ck.kind
 generalize Mv:({ s with heap:=s.heap.push { cls:= .type "list",data:= .seq ([]:List Value).toArray } }:Shared)=s3 at I3 Mt Mu ⊢
 have NY:s3.heap.objs.size=s.heap.objs.size+1:=by rw [← Mv];exact z3
 have old:∀ b o,s3.heap.get? b=some o→h1.get? b=some o:=fun b o e=>Mu.extBut b o (Nat.ne_of_lt (Heap.lt_size e)) (Heap.get?_push_of_some _ e)
 have Mw:∀ b∈fp,jF X pins (upd H s.heap.objs.size (.lst [])) b:=fun b hb=>⟨by rw [aY (Nat.ne_of_lt (hfp b hb))];exact (hf b hb).1,(hf b hb).2⟩
 have Mx:Fr M H M (upd H s.heap.objs.size (.lst [])):=Fr.new fD fun _ _=>rfl
 have r3:Rep X.K (upd H s.heap.objs.size (.lst [])) σ ρ M:=r.go Mx (r.mem.new fD)
 obtain ⟨σ',I4,r4⟩:=zG (s:=s3) (s':={ s3 with heap:=h1,toks:=s3.toks+([]:List (Str ×Value)).length }) (C:=s3.heap.objs.size) (fp:=fp) ck I3 r3 rfl (Nat.le_refl _) old ⟨_,Mt⟩ rfl rfl Mw (fun b hb=>by rw [NY];exact Nat.lt_succ_of_lt (hfp b hb))
 have MD:M s.heap.objs.size=none:=r.mem.free fD
 have My:tn 0 h1:=T.keep 0 _ _ st fun b hb o e=>old b o (by rw [← Mv];exact k1 b o e)
 have K4:∀ {H':Hp},(∀ b∈fp,H' b=none)→∀ b∈fp,jF (sL X sc x ys (cY X.env.cells sc.names []) s3.heap.objs.size s3 (upd H s.heap.objs.size (.lst [])) fp) [] H' b:=fun {H'} hn b hb=>
  ⟨hn b hb,(I4.ok.G1 b hb).1,I4.ok.zl b hb,.inl hb,fun y c e z=>(I4.ok.G1 b hb).2 y c e z,fun p hp=>by cases hp⟩
 have loop:∀ s4:Shared,s4= { s3 with heap:=h1,toks:=s3.toks+([]:List (Str ×Value)).length }→
  codeAny (model X.prog X.w) X.A (.compLoop (.ListComp elt [⟨.Name x px,iter,ifs,0⟩] sc pos) 0 (.ref it) (.ref s.heap.objs.size) ((sL X sc x ys (cY X.env.cells sc.names []) s3.heap.objs.size s3 (upd H s.heap.objs.size (.lst [])) fp)).env) (compPost (model X.prog X.w) X.A E use Qs (.ref s.heap.objs.size) s3.heap.objs.size) s4:=by
  rintro s4 rfl
  refine codeAny_loop rfl (I:=fun n s'=> ∃ i acc M',n=ds.length - i∧i≤ds.length∧K3 X (sL X sc x ys (cY X.env.cells sc.names []) s3.heap.objs.size s3 (upd H s.heap.objs.size (.lst [])) fp) s.heap.objs.size fp tn M H (mP fs ρ) i s' acc M'∧mO gd tt te (mP fs ρ) (fun zs M2=> ∀ p,M2 p=none→Q (.ref p) (aC M2 p (.lst zs))) (ds.drop i) acc M')
   (fun n s5 hI=>?_) ds.length ⟨0,[],M,rfl,Nat.zero_le _,⟨σ',_,none,[],I4,My,fun b hb=>(Mw b hb).1,r4,Mx,dW,MD,aP.mpr rfl,Nat.le_refl _⟩,q⟩
  obtain ⟨i,acc,M5,rfl,hi,⟨σ5,H5,y5,ws,I5,GP,f5,r5,CI,Mz,MA,MB,Qh⟩,q5⟩:=hI
  show wpAny (model X.prog X.w) X.A ((compTurn (.ListComp elt [⟨.Name x px,iter,ifs,0⟩] sc pos) 0 (.ref it) (.ref s.heap.objs.size) ((sL X sc x ys (cY X.env.cells sc.names []) s3.heap.objs.size s3 (upd H s.heap.objs.size (.lst [])) fp)).env).onRaise (fun z=>do { noteFrame z ((sL X sc x ys (cY X.env.cells sc.names []) s3.heap.objs.size s3 (upd H s.heap.objs.size (.lst [])) fp)).env;theTreesLotGoes z })) _ _ s5
  refine wpAny_noted ?_
  rw [vE]
  refine wpAny_bind (wpAny_standAt ?_)
  by_cases hlt:i < ds.length
  ·have hdr:ds.drop i=ds[i] :: ds.drop (i+1):=List.drop_eq_getElem_cons hlt
   rw [hdr] at q5
   obtain ⟨hg,q5⟩:=q5
   have hinv:=stay M5 H5 CI r5.mem hg
   refine wpAny_bind (w5 (T.item (sL X sc x ys (cY X.env.cells sc.names []) s3.heap.objs.size s3 (upd H s.heap.objs.size (.lst [])) fp) rfl rfl rfl hc i [] s5 σ5 H5 (fun _ _=>False) I5 (K4 f5) GP (hJ.go i H5 hlt hinv)) fun r6 s6 ⟨u,e6,h6⟩=>?_)
   subst e6
   refine wpAny_bind (w5 h6 fun _ s7 ⟨v,H7,I7,rv,yl,K5,f7⟩=>?_)
   obtain ⟨e7,d,hd1,hd2⟩:=hJ.CH i H5 v H7 hlt hinv yl
   subst e7
   have ed:d=ds[i]:=Option.some.inj (hd1.symm.trans (List.getElem?_eq_getElem hlt))
   subst ed
   have NZ:=I7.pinned (K4 f7) (T.obj _ _ K5)
   have lx:(relabel sc X.env).names.lookup x=some .local:=lookup_relabel_local ck.loc
   refine wpAny_bind (w5 ((dJ (X:=(sL X sc x ys (cY X.env.cells sc.names []) s3.heap.objs.size s3 (upd H s.heap.objs.size (.lst [])) fp)) (i:=0) (x:=x) (pos:=px) ck.nd rfl (.inl lx) (.inr lx)).run _ s7 σ5 H7 (y5 :: mP fs ρ) M5 v ds[i] u (fun ρ' M'=>ρ'=some ds[i] :: mP fs ρ∧M'=M5) NZ r5 rv hd2 ⟨rfl,rfl⟩) fun _ s8 ⟨σ8,H8,I8,ρ8,M8,K6,r8,e8,N1⟩=>?_)
   subst e8 N1
   obtain ⟨N3,N4⟩:=K6 _ _ MA Mz
   refine wpAny_bind (w5 ((ht _ _ _ _ _).run _ s8 σ8 H8 _ M8 _ I8 r8 q5) fun b s9 ⟨H9,I9,M9,Jv,N5,q9⟩=>?_)
   obtain ⟨MC,ME⟩:=Jv _ _ N4 N3
   have r9:=r8.go Jv N5
   have Ir:=(CI.trans K6).trans Jv
   have MF:aG X.K H9 acc ws:=aG.mono ((K6.trans Jv).ext r5.mem) _ _ MB
   have next:∀ {H':Hp} {s':Shared},Inv (sL X sc x ys (cY X.env.cells sc.names []) s3.heap.objs.size s3 (upd H s.heap.objs.size (.lst [])) fp) ([] ++ pH fp s7.heap) σ8 H' s'→(tn (i+1) s'.heap∧∀ b∈fp,H' b=none):=fun {H' s'} I'=>by
    have pin:∀ b∈fp,∀ o,s7.heap.get? b=some o→s'.heap.get? b=some o∧H' b=none:=fun b hb o e=>by
     have:=I'.pin (b,o) (List.mem_append_right _ (List.mem_append_right _ (lJ hb e)))
     exact ⟨this.1,this.2.1⟩
    refine ⟨T.keep _ _ _ K5 fun b hb o e=>(pin b hb o e).1,fun b hb=>?_⟩
    obtain ⟨o,e,_⟩:=T.obj _ _ K5 b hb
    exact (pin b hb o e).2
   cases b with
   | false=>
     rw [if_neg Bool.false_ne_true]
     obtain ⟨n1,n2⟩:=next I9
     exact wpAny_pure ⟨rfl,ds.length - (i+1),by omega,i+1,acc,M9,rfl,hlt,⟨σ8,H9,_,ws,I9.jQ,n1,n2,r9,Ir,MC,ME,MF,by omega⟩,q9⟩
   | true=>
     rw [if_pos rfl]
     refine wpAny_bind (w5 ((he _ _ _ _ _).run _ s9 σ8 H9 _ M9 _ I9 r9 q9) fun N6 N7 ⟨v10,Ef,N8,K7,dy,Eg,Dd,K8,Iu,N9⟩=>?_)
     obtain ⟨Iv,Iw⟩:=Dd _ _ ME MC
     have MG:=r9.go Dd Iu
     have Iz:aG X.K Ef acc ws:=aG.mono (Dd.ext r9.mem) _ _ MF
     have lw:ws.length < sizeLine:=by rw [← Iz.length];omega
     refine wpAny_bind (w5 (kO (X:=(sL X sc x ys (cY X.env.cells sc.names []) s3.heap.objs.size s3 (upd H s.heap.objs.size (.lst [])) fp)) _ N7 σ8 Ef (.ref s.heap.objs.size) [v10] (.ref s.heap.objs.size) [N6] (fun _ H'=>H'=upd Ef s.heap.objs.size (.lst (ws ++ [v10]))) N8 rfl (.cons K7 .nil) ⟨_,ws,v10,rfl,rfl,Iv,lw,rfl⟩) fun _ Qi ⟨_,Qj,MH,_,Oa⟩=>?_)
     subst Oa
     have ex:Ext Ef (upd Ef s.heap.objs.size (.lst (ws ++ [v10]))):=Ext.jR Iv
     have K9:cy X.K (upd Ef s.heap.objs.size (.lst (ws ++ [v10]))) Eg:=fun a o e=>by
      have na:a≠s.heap.objs.size:=fun z=>by rw [z,Iw] at e;cases e
      exact (Iu a o e).mono ex fun u q=>by rw [aY na];exact q
     have Ob:Rep X.K (upd Ef s.heap.objs.size (.lst (ws ++ [v10]))) σ8 (some ds[i] :: mP fs ρ) Eg:=⟨fun j d e=>let ⟨v,e1,e2⟩:=MG.env j d e;⟨v,e1,Dat.mono ex _ _ e2⟩,MG.len,K9⟩
     have La:Fr M H Eg (upd Ef s.heap.objs.size (.lst (ws ++ [v10]))):=fun b o n e=>by
      obtain ⟨e1,n1⟩:=(Ir.trans Dd) b o n e
      exact ⟨by rw [aY (bV e fD)];exact e1,n1⟩
     obtain ⟨n1,n2⟩:=next MH
     exact wpAny_pure ⟨rfl,ds.length - (i+1),by omega,i+1,acc ++ [dy],Eg,rfl,hlt,⟨σ8,_,_,ws ++ [v10],MH.jQ,n1,n2,Ob,La,dW,Iw,aG.mono ex _ _ (Iz.append (aG.one K8)),by simp;omega⟩,N9⟩
  ·have ei:i=ds.length:=by omega
   subst ei
   rw [List.drop_of_length_le (Nat.le_refl _)] at q5
   obtain ⟨hg,q5⟩:=q5
   have hinv:=stay M5 H5 CI r5.mem hg
   refine wpAny_bind (w5 (T.done (sL X sc x ys (cY X.env.cells sc.names []) s3.heap.objs.size s3 (upd H s.heap.objs.size (.lst [])) fp) rfl rfl rfl hc ds.length [] s5 σ5 H5 (fun _ _=>False) I5 (K4 f5) GP (hJ.stop H5 hinv)) fun r6 s6 ⟨e6,I6⟩=>?_)
   subst e6
   refine wpAny_pure ?_
   obtain ⟨m,hm,_⟩:=id I6.loc
   have I7:Inv X pins σ H5 s6:=I3.G4 (s':=s6) (ch:=fp) I6.os I6.base I6.hok I6.bare fun b hb=>⟨(hf b hb).2.2.2.1,(hf b hb).2.1,(hf b hb).2.2.2.2.1,(hf b hb).2.2.2.2.2⟩
   refine fin _ _ s6 H5 I7 ⟨m,hm⟩ (I3.Ay (Nat.le_refl _) I6.free) (Post.back fa ⟨.ref s.heap.objs.size,aC M5 s.heap.objs.size (.lst acc),fun b o n e=>?_,aV.mpr rfl,fun a o e=>?_,q5 _ MA⟩)
   ·obtain ⟨e1,n1⟩:=CI b o n e
    exact ⟨e1,by rw [bC (bV e fD)];exact n1⟩
   ·by_cases ha:a=s.heap.objs.size
    ·subst ha
     rw [ai] at e
     cases e
     exact ⟨ws,Mz,MB⟩
    ·rw [bC ha] at e
     exact r5.mem a o e
 exact codeAny_compStart_list (loop _ rfl) (T.self X.A 0 _ _ _ My (loop _ rfl))
end
end L3
namespace L3
open PySem PySem.Spec PyProof.Rows L2
section
variable {X:Cx} {sc:Scope} {x:Str} {ys:List Str} {fs:List Nat} {elt iter:Expr} {px pos:Pos} {ifs:List Expr} {tt:kW} {te:c6} {ti:c6}
def Lb (Q:DK):List D→Mp→Prop:=fun zs M2=> ∀ p,M2 p=none→Q (.ref p) (aC M2 p (.lst zs))
def Lc (fs:List Nat) (ti:c6) (tt:kW) (te:c6):c6:=fun ρ M Q=>ti ρ M fun d M1=> ∃ a xs,d= .ref a∧M1 a=some (.lst xs)∧xs.length < sizeLine∧aQ (mO (fun M=>M a=some (.lst xs)) tt te (mP fs ρ) (Lb Q) xs [] M1)
def Ld (fs:List Nat) (t:qQ) (tt:kW) (te:c6):c6:=fun ρ M Q=>t ρ M fun vs M1=> ∃ j:Int,vs= [.int j]∧ -(2 ^ 62)≤j∧j < 2 ^ 62∧j.toNat < sizeLine∧aQ (mO (fun _=>True) tt te (mP fs ρ) (Lb Q) ((List.range j.toNat).map fun (k:Nat)=>L3.D.int (k:Int)) [] M1)
def Oc (X:Cx) (fs:List Nat) (tt:kW) (te:c6) (σ:St) (ρ:En) (M:Mp) (H:Hp) (Q:DK):It→Hp→Prop:=fun J H2=> ∃ M2 inv ds gd,Fr M H M2 H2∧Rep X.K H2 σ ρ M2∧A0 X.K J inv ds∧ds.length < sizeLine∧(∀ M1 H1,Fr M2 H2 M1 H1→cy X.K H1 M1→gd M1→inv H1)∧mO gd tt te (mP fs ρ) (Lb Q) ds [] M2
theorem De {pins:List (Addr ×Obj)} {σ:St} {M:Mp} {H:Hp} {Q:DK} {E:Value→Shared→Prop}:∀ (C Dl:Addr) (s6:Shared) (H5:Hp),Inv X pins σ H5 s6→(∃ m,s6.heap.Ns C m)→jF X pins H5 C→Post X.K M H Q (.ref Dl) H5→
 compPost (model X.prog X.w) X.A E none (EP X pins σ (Post X.K M H Q)) (.ref Dl) C (.ok .next) s6:=fun C Dl s6 H5 I ⟨m,hm⟩ f P=>
 ⟨m,hm,fun h' sb=>⟨.ref Dl,H5,I.turned (t':=s6.toks) (fun b o hb e=>sb.extBut b o hb e) f.1 f.2.1 f.2.2.2.1 f.2.2.2.2.1 f.2.2.2.2.2,rfl,P⟩⟩
theorem Eh {use:Option (Value→Sem Unit)} {Qs:Value→Shared→Prop} {ps:Pos} (hc:X.calm=true) (hk:bJ X.env.scope X.N sc x ys fs=true) (ht:∀ cl C s0 H0 ex,GV (sL X sc x ys cl C s0 H0 ex) ifs tt) (he:∀ cl C s0 H0 ex,cN (sL X sc x ys cl C s0 H0 ex) elt te)
 (hs:∀ z,foldedSetIterable iter X.env z=pure z) {pins:List (Addr ×Obj)} {s:Shared} {σ:St} {H:Hp} {ρ:En} {M:Mp} {Q:DK} (I:Inv X pins σ H s)
 (fin:∀ (C Dl:Addr) (s6:Shared) (H5:Hp),Inv X pins σ H5 s6→(∃ m,s6.heap.Ns C m)→jF X pins H5 C→Post X.K M H Q (.ref Dl) H5→compPost (model X.prog X.w) X.A X.xe use Qs (.ref Dl) C (.ok .next) s6)
 (h:wpAny (model X.prog X.w) X.A (eval iter X.env) (fun v s1=>wpAny (model X.prog X.w) X.A (pyIter v) (J2 X pins σ (.Name x px) (Oc X fs tt te σ ρ M H Q)) X.xe s1) X.xe s) :
 wpAny (model X.prog X.w) X.A (comprehension (.ListComp elt [⟨.Name x px,iter,ifs,0⟩] sc pos) sc X.env ps (newList []) false (eval iter X.env) use) Qs X.xe s:=by
 have ck:=p8.of hk
 refine wpAny_comprehension_free (use:=use) (cl:=cY X.env.cells sc.names []) rfl hs (w4 fun y hy z=>I.ok.has y.1 (.inl (ck.Ju y hy z))) ck.kind ck.names (cZ h fun v s1 h1=>cZ h1 fun itv s2 h2=>?_)
 obtain ⟨it,fp,tn,J,H2,e,I2,T,st2,f2,M2,inv,ds,gd,fr,r2,hJ,hz,stay,q⟩:=h2
 subst e
 exact Dc hc ck ht he fr fin I2 r2 T st2 f2 hJ hz stay q
structure Jw (X:Cx) (sc:Scope) (x:Str) (px:Pos) (ys:List Str) (fs:List Nat) (iter:Expr) (ifs:List Expr) (elt:Expr) (t:c6):Prop where
 run:∀ {use:Option (Value→Sem Unit)} {Qs:Value→Shared→Prop} {ps pos:Pos} {pins:List (Addr ×Obj)} {s:Shared} {σ:St} {H:Hp} {ρ:En} {M:Mp} {Q:DK},Inv X pins σ H s→Rep X.K H σ ρ M→t ρ M Q→
  (∀ (C Dl:Addr) (s6:Shared) (H5:Hp),Inv X pins σ H5 s6→(∃ m,s6.heap.Ns C m)→jF X pins H5 C→Post X.K M H Q (.ref Dl) H5→compPost (model X.prog X.w) X.A X.xe use Qs (.ref Dl) C (.ok .next) s6)→
  wpAny (model X.prog X.w) X.A (comprehension (.ListComp elt [⟨.Name x px,iter,ifs,0⟩] sc pos) sc X.env ps (newList []) false (eval iter X.env) use) Qs X.xe s
theorem lR {t:c6} (h:Jw X sc x px ys fs iter ifs elt t):cN X (.ListComp elt [⟨.Name x px,iter,ifs,0⟩] sc pos) t:=by
 constructor
 intro pins s σ H ρ M Q I r q
 rw [eval_ListComp]
 exact h.run I r q De
theorem IA {t:c6} {j:Nat} {y:Str} {py spos:Pos} (h:Jw X sc x px ys fs iter ifs elt t) (hN:X.N.Nodup) (hj:X.N[j]?=some y) (hy:Loc X.env.scope y)
 (hsw:swapsWith (.ListComp elt [⟨.Name x px,iter,ifs,0⟩] sc pos) (some (.Name y py)) spos.line X.env=pure true:=by rfl) (hf:X.fn y=true∨X.env.scope.names.lookup y=some .local:=by first | exact .inl rfl | exact .inr rfl) :
 wW X (.Assign [.Name y py] (.ListComp elt [⟨.Name x px,iter,ifs,0⟩] sc pos) spos) (Ec j t):=by
 constructor
 intro pins s σ H ρ M D I r q
 rw [exec_Assign_Name_used _ _ _ _ hsw]
 refine wpAny_bind (wpAny_standAt (wpAny_bind ?_))
 show wpAny (model X.prog X.w) X.A (do { let _ ← comprehension (.ListComp elt [⟨.Name x px,iter,ifs,0⟩] sc pos) sc X.env _ (newList []) false (eval iter X.env) (some (assign (.Name y py) X.env)) }) _ _ s
 refine wpAny_bind (cZ (h.run (use:=some (assign (.Name y py) X.env)) (Qs:=fun _ s'=>SP X pins (ends X.K M H D) .next s') I r q fun C Dl s6 H5 I6 hC f P=>?_) fun _ s' hq=>wpAny_pure (wpAny_pure hq))
 obtain ⟨m,o,es,ep,ho,hd,hrest⟩:=hC
 obtain ⟨d,M5,CI,dd,Od,q5⟩:=P
 have Oe:Inv X (pins ++ [(C,o)]) σ H5 s6:=I6.o9 fun p hp=>(List.mem_append.mp hp).elim (fun z=>I6.pin p (List.mem_append_right _ z)) fun z=>by
  have e:=List.mem_singleton.mp z
  subst e
  exact ⟨ho,f.1,f.2.1,f.2.2.1,fun v z=>by rw [hd] at z;cases z⟩
 refine cZ ((dJ (i:=j) (x:=y) (pos:=py) hN hj hy hf).run _ s6 σ H5 ρ M5 (.ref Dl) d (.ref Dl) (D.nx) Oe (r.go CI Od) rfl dd q5) fun _ s7 ⟨σ7,H7,I7,ρ7,M7,Of,r7,q7⟩=>?_
 have pin:=I7.pin (C,o) (List.mem_append_right _ (List.mem_append_right _ (List.mem_singleton.mpr rfl)))
 refine ⟨m,⟨o,es,ep,pin.1,hd,hrest⟩,fun h' sb=>?_⟩
 have I8:Inv X pins σ7 H7 s7:=I7.o9 fun p hp=>I7.pin p (List.mem_append_right _ (List.mem_append_left _ hp))
 exact ⟨σ7,H7,I8.turned (t':=s7.toks) (fun b o hb e=>sb.extBut b o hb e) pin.2.1 f.2.1 f.2.2.2.1 f.2.2.2.2.1 f.2.2.2.2.2,ρ7,M7,CI.trans Of,r7,q7⟩
theorem k8 (hc:X.calm=true) (hk:bJ X.env.scope X.N sc x ys fs=true) (hi:cN X iter ti) (ht:∀ cl C s0 H0 ex,GV (sL X sc x ys cl C s0 H0 ex) ifs tt) (he:∀ cl C s0 H0 ex,cN (sL X sc x ys cl C s0 H0 ex) elt te)
 (hs:∀ z,foldedSetIterable iter X.env z=pure z:=by intro _;rfl):Jw X sc x px ys fs iter ifs elt (Lc fs ti tt te):=by
 constructor
 intro use Qs ps pos pins s σ H ρ M Q I r h fin
 refine Eh (ρ:=ρ) hc hk ht he hs I fin (x9 hi.dn pins s σ H _ I (eB r h fun v H' d M' f dv r' ⟨a,xs,e1,hM,hz,q⟩=>?_))
 subst e1
 obtain rfl:=aV.mp dv
 obtain ⟨zs,ha,hy⟩:=r'.mem.lst hM
 exact ⟨a,rfl,⟨zs,jw.of ha⟩,M',_,xs,_,f,r',A1,hz,fun M1 H1 f1 nj g1=>nj.lst g1,q.out⟩
theorem p9 {a:Expr} {t:qQ} {p rpos:Pos} (hc:X.calm=true) (hk:bJ X.env.scope X.N sc x ys fs=true) (FJ:Gl X "range") (hm:X.mg "range" =none) (ha:wV X [a] t) (ht:∀ cl C s0 H0 ex,GV (sL X sc x ys cl C s0 H0 ex) ifs tt) (he:∀ cl C s0 H0 ex,cN (sL X sc x ys cl C s0 H0 ex) elt te)
 (hst:starEach [a] X.env= [(false,eval a X.env)]:=by rfl) (hs:∀ z,foldedSetIterable (.Call (.Name "range" p) [a] [] rpos) X.env z=pure z:=by intro _;rfl):Jw X sc x px ys fs (.Call (.Name "range" p) [a] [] rpos) ifs elt (Ld fs t tt te):=by
 constructor
 intro use Qs ps pos pins s σ H ρ M Q I r h fin
 refine Eh (ρ:=ρ) hc hk ht he hs I fin (rT FJ hm ha.dn hst pins s σ H _ I (jT r h fun vs H' ds M' f dv r' ⟨j,e1,h1,h2,hz,q⟩=>?_))
 subst e1
 obtain ⟨v,rfl,hv⟩:=jU dv
 obtain rfl:=aJ.mp hv
 exact ⟨j,rfl,h1,h2,M',_,_,_,f,r',A2,by simpa using hz,fun _ _ _ _ _=>trivial,q.out⟩
theorem bM {gd:Mp→Prop} {fr:En} {Q:List D→Mp→Prop} {M:Mp} (Pv:Nat→List D→Mp→Prop):∀ (ds:List D),(∀ (i:Nat) (d:D) (acc:List D) (M:Mp) (N:List D→Mp→Prop),ds[i]?=some d→Pv i acc M→(∀ acc' M',Pv (i+1) acc' M'→N acc' M')→
 gd M∧tt (some d :: fr) M fun b M1=>if b=true then te (some d :: fr) M1 fun y M2=>N (acc ++ [y]) M2 else N acc M1)→
 (∀ acc M,Pv ds.length acc M→gd M∧Q acc M)→Pv 0 [] M→mO gd tt te fr Q ds [] M:=by
 intro ds hstep hend h0
 have key:∀ (zs:List D) (i:Nat) (acc:List D) (M:Mp),ds.drop i=zs→Pv i acc M→i≤ds.length→mO gd tt te fr Q zs acc M:=by
  intro zs
  induction zs with
  | nil=>
    intro i acc M e p hi
    have:ds.length≤i:=by
     have:=congrArg List.length e
     rw [List.length_drop] at this
     simp at this
     omega
    obtain rfl:i=ds.length:=by omega
    exact hend acc M p
  | cons z zs ih=>
    intro i acc M e p hi
    have hx:ds[i]?=some z:=by
     have:=congrArg (fun l=>l[0]?) e
     simpa using this
    have hlt:i < ds.length:=(List.getElem?_eq_some_iff.mp hx).1
    refine hstep i z acc M _ hx p fun acc' M' p'=>ih (i+1) acc' M' ?_ p' hlt
    rw [← List.drop_drop,e]
    rfl
 exact key ds 0 [] M rfl h0 (Nat.zero_le _)
end
end L3
namespace L3
open PySem PySem.Spec PyProof.Rows L2
structure Jx (outer:Scope) (N:List Str) (sc:Scope) (x:Str) (ys:List Str) (fs:List Nat):Prop where
 kind:sc.kind= .function
 Iq:outer.kind= .function
 names:∀ y∈sc.names,y.2= .local→sc.names.lookup y.1=some .local
 Ju:∀ y∈sc.names,y.2= .free→outer.names.lookup y.1=some .cell
 loc:sc.names.lookup x=some .cell
 cells:sc.names.filter (fun y=>y.2 == .cell)= [(x,.cell)]
 len:ys.length=fs.length
 at':∀ (k:Nat) y,ys[k]?=some y→∃ i,fs[k]?=some i∧N[i]?=some y∧sc.names.lookup y=some .free
 nd:(x :: ys).Nodup
section
variable {X:Cx} {sc:Scope} {x:Str} {ys:List Str} {fs:List Nat}
end
section
variable {X:Cx} {sc:Scope} {x:Str} {ys:List Str} {fs:List Nat} {elt iter:Expr} {px pos:Pos} {ifs:List Expr} {tt:kW} {te:c6} {ti:c6}
end
end L3
namespace L3
open PySem PySem.Spec PyProof.Rows L2
section
variable {X:Cx}
theorem vF {ds es:List D} (h:ds.length≠es.length):gB ds es=false:=by
 rw [gC,beq_eq_false_iff_ne.mpr h,Bool.and_false]
abbrev IB:=En→Mp→(Option Int→Mp→Prop)→Prop
structure Jy (X:Cx) (e:Option Expr) (t:IB):Prop where
 dn:∃ t2:TO,PO X e t2∧∀ σ H ρ M Q Q',Rep X.K H σ ρ M→t ρ M Q→(∀ o H' M',Fr M H M' H'→Rep X.K H' σ ρ M'→Q o M'→Q' o H')→t2 σ H Q'
def Lf:IB:=fun _ M Q=>Q none M
def FQ (t:c6):IB:=fun ρ M Q=>t ρ M fun d M1=> ∃ i,d= .int i∧Q (some i) M1
theorem Bg:Jy X none Lf:=⟨yf,CM,fun σ H ρ M Q Q' r q k=>k none H M (.refl _ _) r q⟩
theorem qa {e:Expr} {t:c6} (h:cN X e t):Jy X (some e) (FQ t):=⟨D4 (L3.dn X.K t),CN h.dn,fun σ H ρ M Q Q' r q k=>eB r q fun v H' d M' f dv r' ⟨i,e1,q⟩=>by
 subst e1
 obtain rfl:=aJ.mp dv
 exact ⟨i,rfl,k (some i) H' M' f r' q⟩⟩
def cutD (xs:List D) (lo hi:Option Int):List D:=(xs.drop (HT.oh xs.length 0 lo)).take (HT.oh xs.length xs.length hi - HT.oh xs.length 0 lo)
theorem aG.drop {K:PySem.W.Frag} {H:Hp}:∀ {ds:List D} {xs:List V} (n:Nat),aG K H ds xs→aG K H (ds.drop n) (xs.drop n)
 | ds,xs,0,h=>h
 | [],xs,n+1,h=>by rw [aP.mp h];exact aP.mpr rfl
 | d :: ds,xs,n+1,h=>by
   obtain ⟨v,vs,rfl,_,h2⟩:=aH.mp h
   exact aG.drop n h2
theorem aG.take {K:PySem.W.Frag} {H:Hp}:∀ {ds:List D} {xs:List V} (n:Nat),aG K H ds xs→aG K H (ds.take n) (xs.take n)
 | ds,xs,0,h=>aP.mpr rfl
 | [],xs,n+1,h=>by rw [aP.mp h];exact aP.mpr rfl
 | d :: ds,xs,n+1,h=>by
   obtain ⟨v,vs,rfl,h1,h2⟩:=aH.mp h
   exact aH.mpr ⟨v,vs.take n,rfl,h1,aG.take n h2⟩
def IC:R3:=fun d e M Q=> ∃ a b xs ys,d= .ref a∧e= .ref b∧M a=some (.lst xs)∧M b=some (.lst ys)∧xs.length+ys.length≤sizeLine∧∀ p,M p=none→Q (.ref p) (aC M p (.lst (xs ++ ys)))
theorem Bh:nD X (binaryOp .Add) IC:=HG Fp fun H M x y d e Q rm dx dy ⟨a,b,xs,ys,e1,e2,ha,hb,hz,q⟩=>by
 subst e1;subst e2
 obtain rfl:=aV.mp dx
 obtain rfl:=aV.mp dy
 obtain ⟨zs,h1,h2⟩:=rm.lst ha
 obtain ⟨ws,h3,h4⟩:=rm.lst hb
 exact ⟨a,b,zs,ws,rfl,rfl,h1,h3,by rw [← h2.length,← h4.length];exact hz,fun p hp=>⟨.ref p,aC M p (.lst (xs ++ ys)),Fr.new hp fun _ hb=>bC hb,aV.mpr rfl,rm.newL hp (h2.append h4),q p (rm.free hp)⟩⟩
end
end L3
namespace L3
open PySem PySem.Spec PyProof.Rows L2
section
variable {X:Cx}
def Bj (M:Mp) (d:D) (xs:List D):Prop:=d= .tV xs∨∃ a,d= .ref a∧M a=some (.lst xs)
theorem Bj.of {M:Mp} {a:Addr} {xs:List D} (h:M a=some (.lst xs)):Bj M (.ref a) xs:= .inr ⟨a,rfl,h⟩
theorem Bj.sq {K:PySem.W.Frag} {H:Hp} {M:Mp} {d:D} {xs:List D} {x:V} (h:Bj M d xs) (rm:cy K H M) (dx:Dat K H d x):∃ a zs,x= .ref a∧jw K H a zs∧aG K H xs zs:=by
 rcases h with rfl | ⟨a,rfl,hM⟩
 ·obtain ⟨a,zs,rfl,h1,h2⟩:=mC.mp dx
  exact ⟨a,zs,rfl,h1.sq,h2⟩
 ·obtain rfl:=aV.mp dx
  obtain ⟨zs,h1,h2⟩:=rm.lst hM
  exact ⟨a,zs,rfl,jw.of h1,h2⟩
def ID:R3:=fun d e M Q=> ∃ xs ys,Bj M d xs∧Bj M e ys∧xs.all (plain 9)=true∧ys.all (plain 9)=true∧Q (.bl (gB xs ys)) M
def IE:R3:=fun d e M Q=> ∃ xs ys,Bj M d xs∧Bj M e ys∧xs.all (plain 9)=true∧ys.all (plain 9)=true∧Q (.bl (!gB xs ys)) M
theorem Bk (hu:X.A.units+64 < cLine):nD X (compareOp .Eq) ID:=by
 constructor
 intro pins s σ H M x y d e v u Q I rm rx ry dx dy ⟨xs,ys,ha,hb,pa,pb,q⟩
 obtain ⟨a,zs,rfl,h1,h2⟩:=ha.sq rm dx
 obtain ⟨b,ws,rfl,h3,h4⟩:=hb.sq rm dy
 obtain rfl:v=Value.ref a:=rx
 obtain rfl:u=Value.ref b:=ry
 obtain ⟨its,rv,pl,hz⟩:=I.list h1
 obtain ⟨its2,qV,IF,hz2⟩:=I.list h3
 have l1:=h2.length.trans rv.length
 have l2:=h4.length.trans qV.length
 have fin:∀ k,k=gB xs ys→EP X pins σ (Post X.K M H Q) (.bool k) s:=fun k e=>⟨.bl k,H,I,rfl,aM rm (bA.mpr rfl) (by rw [e];exact q)⟩
 by_cases hs:its.toArray.size=its2.toArray.size
 ·refine SeqAt.RcAt.lists (A:=X.A) (s:=s) (e:=fun j=>cX (xs.getD j .bE) (ys.getD j .bE)) pl.isList IF.isList hs (by omega) (mG I.hok (n:=9) (by show X.A.units+1+9 < cLine;omega) pa pb h2 h4 rv qV) _ _ _ _ (fin _ ?_)
  simp only [List.size_toArray] at hs
  rw [gC,List.size_toArray,← l1]
  have e:ys.length=xs.length:=by omega
  rw [e,Nat.min_self,beq_self_eq_true,Bool.and_true]
 ·refine SeqAt.RcAt.lists_lengths (A:=X.A) (s:=s) pl.isList IF.isList (by simpa using hs) (by omega) _ _ _ _ (fin _ ?_)
  simp only [List.size_toArray] at hs
  exact (vF (by omega)).symm
theorem t7 (hu:X.A.units+64 < cLine):nD X (compareOp .NotEq) IE:=by
 constructor
 intro pins s σ H M x y d e v u Q I rm rx ry dx dy ⟨xs,ys,ha,hb,pa,pb,q⟩
 obtain ⟨a,zs,rfl,h1,h2⟩:=ha.sq rm dx
 obtain ⟨b,ws,rfl,h3,h4⟩:=hb.sq rm dy
 obtain rfl:v=Value.ref a:=rx
 obtain rfl:u=Value.ref b:=ry
 obtain ⟨its,rv,pl,hz⟩:=I.list h1
 obtain ⟨its2,qV,IF,hz2⟩:=I.list h3
 have l1:=h2.length.trans rv.length
 have l2:=h4.length.trans qV.length
 have fin:∀ k,k=(!gB xs ys)→EP X pins σ (Post X.K M H Q) (.bool k) s:=fun k e=>⟨.bl k,H,I,rfl,aM rm (bA.mpr rfl) (by rw [e];exact q)⟩
 by_cases hs:its.toArray.size=its2.toArray.size
 ·refine SeqAt.RcNeAt.lists (A:=X.A) (s:=s) (e:=fun j=>cX (xs.getD j .bE) (ys.getD j .bE)) pl.isList IF.isList hs (by omega) (mG I.hok (n:=9) (by show X.A.units+1+9 < cLine;omega) pa pb h2 h4 rv qV) _ _ _ _ (fin _ ?_)
  simp only [List.size_toArray] at hs
  rw [gC,List.size_toArray,← l1]
  have e:ys.length=xs.length:=by omega
  rw [e,Nat.min_self,beq_self_eq_true,Bool.and_true]
 ·refine SeqAt.RcNeAt.lists_lengths (A:=X.A) (s:=s) pl.isList IF.isList (by simpa using hs) (by omega) _ _ _ _ (fin _ ?_)
  simp only [List.size_toArray] at hs
  rw [vF (by omega)]
  rfl
def Bl:D→Bool | .bE=>true | _=>false
def Lg:R3:=fun d e M Q=>e= .bE∧Q (.bl (Bl d)) M
theorem zH {K:PySem.W.Frag} {H:Hp} {d:D} {x:V} (h:Dat K H d x):decide (x= .bE)=Bl d:=by
 cases d with
 | bE=>obtain rfl:=cM.mp h;rfl
 | bl b=>obtain rfl:=bA.mp h;rfl
 | int i=>obtain rfl:=aJ.mp h;rfl
 | str z=>obtain rfl:=fX.mp h;rfl
 | ty n=>obtain rfl:=wU.mp h;rfl
 | ref a=>obtain rfl:=aV.mp h;rfl
 | tup ds=>obtain ⟨a,xs,rfl,_⟩:=bP.mp h;rfl
 | tV ds=>obtain ⟨a,xs,rfl,_⟩:=mC.mp h;rfl
 | D6 n=>obtain ⟨a,o,u,rfl,_⟩:=ym.mp h;rfl
 | exc C nm ds=>obtain ⟨a,o,u,xs,rfl,_⟩:=CU.mp h;rfl
theorem gR:nD X (compareOp .Is) Lg:=HG E8 fun H M x y d e Q rm dx dy ⟨e1,q⟩=>by
 subst e1
 exact ⟨cM.mp dy,by rw [zH dx];exact aM rm (bA.mpr rfl) q⟩
def FT:List D→Mp→DK→Prop:=fun ds M Q=> ∃ d xs,ds= [d]∧Bj M d xs∧∀ p,M p=none→Q (.ref p) (aC M p (.lst xs))
theorem w6:Call3 X (.type "list") FT:=yr tU fun H M xs ds Q rm dx ⟨d,ys,e1,hs,q⟩=>by
 subst e1
 obtain ⟨v,rfl,hv⟩:=jU dx
 obtain ⟨a,zs,rfl,h1,h2⟩:=hs.sq rm hv
 exact ⟨a,zs,rfl,.inl h1,fun p hp=>⟨.ref p,aC M p (.lst ys),Fr.new hp fun _ hb=>bC hb,aV.mpr rfl,rm.newL hp h2,q p (rm.free hp)⟩⟩
def Lh (te:c6) (tl th:IB):c6:=fun ρ M Q=>te ρ M fun d M1=>tl ρ M1 fun lo M2=>th ρ M2 fun hi M3=> ∃ xs,Bj M3 d xs∧∀ p,M3 p=none→Q (.ref p) (aC M3 p (.lst (cutD xs lo hi)))
theorem jY {e:Expr} {lo hi:Option Expr} {te:c6} {tl th:IB} {p2 pos:Pos} (he:cN X e te) (hl:Jy X lo tl) (hh:Jy X hi th):cN X (.Subscript e (.Slice lo hi none p2) pos) (Lh te tl th):=by
 obtain ⟨Qk,pl,gl⟩:=hl.dn
 obtain ⟨Ql,ph,gh⟩:=hh.dn
 refine up (AI CS he.dn pl ph) fun σ H ρ M Q r q=>eB r q fun v H' d M' f dv r' q1=>gl _ _ _ _ _ _ r' q1 fun lo H2 M2 f2 r2 q2=>gh _ _ _ _ _ _ r2 q2 fun hi H3 M3 f3 r3 ⟨xs,hL,q3⟩=>?_
 obtain ⟨a,zs,rfl,hz,hd⟩:=hL.sq r3.mem (Dat.mono ((f2.trans f3).ext r'.mem) _ _ dv)
 have ec:cutD xs lo hi=(xs.drop (HT.oh zs.length 0 lo)).take (HT.oh zs.length zs.length hi - HT.oh zs.length 0 lo):=by unfold cutD;rw [hd.length]
 refine ⟨a,zs,rfl,hz,fun p hp=>⟨.ref p,aC M3 p (.lst (cutD xs lo hi)),((f.trans f2).trans f3).trans (Fr.new hp fun _ hb=>bC hb),aV.mpr rfl,r3.mem.newL hp ?_,q3 p (r3.mem.free hp)⟩⟩
 rw [ec]
 exact aG.take _ (aG.drop _ hd)
end
end L3
namespace L3
open PySem PySem.Spec PyProof.Rows L2
theorem kQ:bootBuiltins "sum" =some (.builtin "sum"):=by decide +kernel
section
variable {X:Cx}
theorem jb {K:PySem.W.Frag} {H:Hp}:∀ {ns:List Int} {xs:List V},aG K H (ns.map D.int) xs→xs=ns.map V.int
 | [],xs,h=>aP.mp h
 | n :: ns,xs,h=>by
   obtain ⟨v,vs,rfl,h1,h2⟩:=aH.mp h
   rw [aJ.mp h1,jb h2]
   rfl
theorem oA (ns:List Int):∀ n,n≤ns.length→preSum (fun i=>ns.getD i 0) n=(ns.take n).sum
 | 0,_=>by simp [preSum]
 | n+1,h=>by
   have ih:=oA ns n (by omega)
   have e:ns.getD n 0=ns[n]'(by omega):=by rw [List.getD_eq_getElem?_getD,List.getElem?_eq_getElem (by omega)];rfl
   show preSum _ n+ns.getD n 0=_
   rw [ih,e,List.take_succ,List.getElem?_eq_getElem (by omega:n < ns.length),Option.toList_some,List.sum_append,List.sum_cons,List.sum_nil,Int.add_zero]
def Li:List D→Mp→DK→Prop:=fun ds M Q=> ∃ (l:Addr) (ns:List Int),ds= [.ref l]∧M l=some (.lst (ns.map D.int))∧Q (.int ns.sum) M
theorem yx (hc:X.calm=true):Call3 X (.builtin "sum") Li:=by
 constructor
 intro pins s σ H M xs ds us Q I rm rs dx ⟨l,ns,e,hM,q⟩
 subst e
 obtain ⟨v,rfl,hv⟩:=jU dx
 obtain rfl:=aV.mp hv
 obtain ⟨u,rfl,r1⟩:=vals1 rs
 obtain rfl:u=Value.ref l:=r1
 obtain ⟨zs,hH,hz⟩:=rm.lst hM
 obtain ⟨its,rv,pl,hsz⟩:=I.list (jw.of (K:=X.K) hH)
 obtain rfl:=jb hz
 have hlen:its.length=ns.length:=by rw [Vals.len rv,List.length_map]
 have ll:l < s.heap.objs.size:=by obtain ⟨o,e,_⟩:=pl.isList;exact Heap.lt_size e
 have hne:l≠s.heap.objs.size:=Nat.ne_of_lt ll
 refine call_sum_walkAnyS (wpAny_pyIter_list pl.isList ?_)
 refine ⟨s.heap.objs.size,[s.heap.objs.size,l],[s.heap.objs.size],_,its.toArray.size,_,_,fun i=>ns.getD i 0,rfl,(Walks.list (show X.A.in1.handled=none from I.ok.hd hc) s.heap.objs.size l hne its.toArray).toS,?_,?_,?_,?_⟩
 ·refine ⟨⟨_,Heap.get?_push_size _ rfl,rfl,rfl⟩,?_⟩
  obtain ⟨o,e,c,d⟩:=pl.isList
  exact ⟨o,Heap.get?_push_of_some _ e,c,d⟩
 ·intro b hb
  rw [Heap.size_push]
  simp only [List.mem_cons,List.not_mem_nil,or_false] at hb
  rcases hb with rfl | rfl
  ·exact Nat.lt_succ_self _
  ·exact Nat.lt_succ_of_lt ll
 ·intro i v hv
  have hv:its[i]?=some v:=by simpa using hv
  have hi:i < its.length:=(List.getElem?_eq_some_iff.mp hv).1
  have hx:(ns.map V.int)[i]?=some (.int (ns.getD i 0)):=by
   rw [List.getElem?_map,List.getD_eq_getElem?_getD,List.getElem?_eq_getElem (by omega)]
   rfl
  obtain ⟨u,hu,ru⟩:=rv.get hx
  rw [hu] at hv
  cases hv
  exact ru
 ·intro s' t' mv
  have I1:Inv X pins σ H { s with heap:=s.heap.push { cls:= .type "list_iterator",data:= .fields #[.ref l,rawInt 0] },toks:=s.toks }:=I.kept fun b o e=>Heap.get?_push_of_some _ e
  have fo:=I.Ay (H':=H) (Nat.le_refl _) (I.hok.fresh (Nat.le_refl _))
  obtain ⟨f0,f1,f2,f3,f4,f5⟩:=fo
  have I2:Inv X pins σ H { s with heap:=s'.heap,toks:=s'.toks }:=I1.turned (h':=s'.heap) (t':=s'.toks) (fun b o hb e=>mv.heap b o (by simpa using hb) e) f0 f1 f3 f4 f5
  have es:s'= { s with heap:=s'.heap,toks:=s'.toks }:=by
   have g:=mv.gens
   have d:=mv.drawn
   have o:=mv.os
   cases s'
   cases s
   simp only at g d o ⊢
   subst g d o
   rfl
  rw [es]
  refine ⟨.int ns.sum,H,I2,⟨t',?_⟩,aM rm (aJ.mpr rfl) q⟩
  rw [List.size_toArray,hlen,oA ns _ (Nat.le_refl _),List.take_length]
end
end L3
namespace L3
open PySem PySem.Spec PyProof.Rows L2
theorem FU {ps:List Pl} {i:Nat} {x:D} (h:(ps.map Pl.d)[i]?=some x):∃ p,ps[i]?=some p∧x=p.d:=by
 rw [List.getElem?_map] at h
 cases e:ps[i]? with
 | none=>rw [e] at h;cases h
 | some p=>rw [e] at h;exact ⟨p,rfl,(Option.some.inj h).symm⟩
theorem w9 (ns:List Int):(ns.map D.int).all (plain 9)=true:=by
 rw [List.all_eq_true]
 intro d hd
 obtain ⟨i,_,rfl⟩:=List.mem_map.mp hd
 rfl
theorem lS {ns:List Int} {k:Int} (h0:0≤k) (h1:k < ns.length):∃ z:Int,z∈ns∧mq (ns.map D.int) k=some (.int z):=by
 obtain ⟨j,rfl⟩:∃ j:Nat,k=(j:Int):=⟨k.toNat,by omega⟩
 have hlt:j < ns.length:=by omega
 refine ⟨ns[j],List.getElem_mem hlt,bI ?_⟩
 rw [List.getElem?_map,List.getElem?_eq_getElem hlt]
 rfl
theorem lV {ns:List Int} {n:Nat} {z:Int} (h:ns.all (fun z=>decide (z.natAbs < 2 ^ n))=true) (m:z∈ns):Sm n z:=of_decide_eq_true (List.all_eq_true.mp h z m)
theorem Df {q:Pl} {ps:List Pl}:inD q.d (ps.map Pl.d)=decide (q∈ps):=by
 unfold inD
 rw [Bool.eq_iff_iff,List.any_eq_true,decide_eq_true_eq]
 constructor
 ·rintro ⟨x,hx,e⟩
  obtain ⟨p,hp,rfl⟩:=List.mem_map.mp hx
  rw [cO] at e
  rw [← of_decide_eq_true e];exact hp
 ·intro hq
  exact ⟨q.d,List.mem_map.mpr ⟨q,hq,rfl⟩,by rw [cO];exact decide_eq_true rfl⟩
theorem mQ (ds:List D):gB ds []=ds.isEmpty:=by
 cases ds <;> simp [gB]
theorem sN {ds:List D} (h:ds.all (plain 9)=true):gB ds ds=true:=by
 have:=iN 10 (.tup ds) h
 rwa [gQ] at this
theorem Bm {α:Type} (g:α→D) (xs:List α) (n:Nat) (h:n≤xs.length):cutD (xs.map g) (some (n:Int)) none=(xs.drop n).map g:=by
 unfold cutD
 rw [HT.ye,HT.vo]
 rw [List.length_map,Nat.min_eq_left h,List.map_drop]
 exact List.take_of_length_le (by simp)
end L3
namespace Att
open PySem PySem.W PySem.Calls PyProof.Rows
def yy (z:Int):Prop:=Builtin.Int.intBits z≤1048576
theorem qb {N:Nat}:∀ {ns:List Int},WData.weightAll (ns.map WData.int)≤N→∀ z∈ns,Builtin.Int.intBits z≤N
 | [],_,z,m=>by cases m
 | n :: ns,h,z,m=>by
   have e:WData.weightAll ((n :: ns).map WData.int)=Builtin.Int.intBits n+1+WData.weightAll (ns.map WData.int):=by
    rw [List.map_cons]
    simp only [WData.weightAll,WData.weight,Builtin.Int.intBits]
   rw [e] at h
   rcases List.mem_cons.mp m with rfl | m
   ·omega
   ·exact qb (by omega) z m
theorem FW {ns:List Int} (h:WData.layableAll [WData.list (ns.map WData.int)]=true):∀ z∈ns,yy z:=by
 have h:WData.layable (WData.list (ns.map WData.int))=true:=by simpa [WData.layableAll] using h
 unfold WData.layable at h
 have h:=of_decide_eq_true (Bool.and_eq_true_iff.mp h).2
 have e:WData.weight (WData.list (ns.map WData.int))=WData.weightAll (ns.map WData.int):=by simp only [WData.weight]
 rw [e] at h
 exact fun z m=>qb h z m
theorem t8 {l:OpenLaw} {n:Nat} {q:Program} {loose:List Str} {XP:(Str→Option Value)→Heap→Prop} {YP:World→Heap→Prop} {d:DefRec}
 (hn:l.most=some n) (hdf:d.params.defaults= [])
 (call:∀ (w:World) (s₀ s₁:Shared) (mg mb:Str→Option Value) (fa:Addr) (o:Obj) (pm cd doc:Value) (a:Addr) (vs:List Value) (ns:List Int),
  Ground q loose [] XP w s₀ mg mb s₁.heap→YP w s₁.heap→
  s₁.heap.get? fa=some o→o.data= .func (docDef d.name d.params d.body d.scope pm cd doc)→s₁.heap.CodeRec cd d.name→mg d.name=some (.ref fa)→
  s₁.heap.get? a=some { cls:= .type "list",data:= .seq vs.toArray }→IntsAre vs ns→ns.length≤n→(∀ z∈ns,yy z)→s₁.gens= #[]→
  codeAny (model l.prog w) callerA (.call (.ref fa) ⟨[.ref a],[]⟩) (fun r s'=>r= .ok (.ret (.bool true))∧OldK s₁.heap s'.heap∧s'.os=s₁.os∧AllBare s'.gens) s₁) :
 WalkO q loose XP YP l.row.toRowW d [] (fun f vs=>PySem.call f vs):=by
 intro w s₀ s₁ mg mb G Y fa o pm cd doc dV kV ho hd hcd hD hmg hg args vals as hpre hlay hrd hwl hlo
 obtain rfl:dV= .none:=Dflts.none hD hdf
 obtain rfl:kV= .none:=Dflts.noKw hD
 obtain ⟨a,vs,ns,rfl,rfl,hobj,hints,hlen⟩:=zA hn hpre hwl
 refine enter_call (codeAny_mono (call w s₀ s₁ mg mb fa o pm cd doc a vs ns G Y ho (fd_plain hd) hcd hmg hobj hints hlen (FW hlay) hg) fun r s' hq=>?_)
 obtain ⟨rfl,h2,h3,h4⟩:=hq
 exact ⟨.inl ⟨.bool true,.bool true,[],rfl,fun _=>rfl,.bool true,zB l _,fun _=>⟨List.Pairwise.nil,fun _ hm=>(nomatch hm)⟩⟩,h2,h3,h4⟩
end Att
namespace L2
open PySem PySem.Spec PyProof.Rows
end L2
namespace L3
open PySem PySem.Spec PyProof.Rows L2 Att
def Bo:sA:=fun ds Q=> ∃ ns:List Int,ds= [.tV (ns.map D.int)]∧ns.length≤63∧(∀ z∈ns,yy z)∧Q (.bl true)
theorem Dg {K:PySem.W.Frag} {H:Hp} {a:Addr} {ns:List Int} {E:XK} (hl:ns.length≤63) (hb:∀ z∈ns,yy z) (hO:CT H) (hS:jw K H a (ns.map V.int)):qW K Bo [.ref a] H (fun v _=>v= .bl true) E:=by
 have hz:Fz K H a (ns.map V.int):=by
  rcases hS with (h | ⟨o,h⟩) | h
  ·rcases hO a with z | ⟨o,xs,z⟩
   ·rw [z] at h;cases h
   ·rw [z] at h;cases h
  ·exact .inl ⟨o,h⟩
  ·exact .inr h
 exact ⟨[.tV (ns.map D.int)],fun d=>d= .bl true,aG.one (mC.mpr ⟨a,_,rfl,hz,sE ns⟩),⟨ns,rfl,hl,hb,rfl⟩,fun d v H' q dv _=>by subst q;exact bA.mp dv⟩
def FY (i j:Int):Prop:=MulOk i j∨EX i j∨(yy i∧∃ n,Sm n j∧n≤1000)
theorem FY.ok {i j:Int} (h:FY i j):IntMulOk i j:=by
 rcases h with h | h | ⟨h,n,h1,h2⟩
 ·exact h.ok
 ·exact h.ok
 ·have:=mF h1
  exact IntMulOk.of_bits (Nat.le_trans h (by decide)) (Nat.le_trans this (by omega))
section
variable {X:Cx}
theorem ia:nD X (binaryOp .Mult) (pL FY fun i j=>i*j):=sr (GQ fun _ _ _ _ _ _ _ hc q=>mul_int q hc.ok)
end
end L3
namespace L3
open PySem PySem.Spec PyProof.Rows L2
def dR:List Pl→List Pl→Bool
 | [],[]=>false
 | [],_ :: _=>true
 | _ :: _,[]=>false
 | p :: ps,q :: qs=>if p=q then dR ps qs else decide (bQ p q)
theorem oB:∀ ps,dR ps ps=false
 | []=>rfl
 | p :: ps=>by unfold dR;rw [if_pos rfl];exact oB ps
theorem mR:∀ ps qs,dR ps qs=true∨ps=qs∨dR qs ps=true
 | [],[]=> .inr (.inl rfl)
 | [],_ :: _=> .inl rfl
 | _ :: _,[]=> .inr (.inr rfl)
 | p :: ps,q :: qs=>by
   unfold dR
   by_cases e:p=q
   ·subst e
    rw [if_pos rfl,if_pos rfl]
    rcases mR ps qs with h | h | h
    ·exact .inl h
    ·exact .inr (.inl (by rw [h]))
    ·exact .inr (.inr h)
   ·rw [if_neg e,if_neg (Ne.symm e)]
    rcases i8 e with h | h
    ·exact .inl (decide_eq_true h)
    ·exact .inr (.inr (decide_eq_true h))
theorem lW:∀ ps qs rs,dR ps qs=true→dR qs rs=true→dR ps rs=true
 | [],[],_,h,_=>by cases h
 | [],_ :: _,[],_,h=>by cases h
 | [],_ :: _,_ :: _,_,_=>rfl
 | _ :: _,[],_,h,_=>by cases h
 | _ :: _,_ :: _,[],_,h=>by cases h
 | p :: ps,q :: qs,r :: rs,h1,h2=>by
   unfold dR at *
   by_cases e1:p=q
   ·subst e1
    rw [if_pos rfl] at h1
    by_cases e2:p=r
    ·rw [if_pos e2] at h2 ⊢;exact lW ps qs rs h1 h2
    ·rw [if_neg e2] at h2 ⊢;exact h2
   ·rw [if_neg e1] at h1
    have b1:=of_decide_eq_true h1
    by_cases e2:q=r
    ·subst e2;rw [if_neg e1];exact h1
    ·rw [if_neg e2] at h2
     have b3:=c8 b1 (of_decide_eq_true h2)
     rw [if_neg (wZ b3)]
     exact decide_eq_true b3
def qY (n:Nat) (h:Heap) (v:Value) (ps:List Pl):Prop:=ps.length=n∧∃ (a:Addr) (o:Obj) (its:List Value) (m:Nat),v= .ref a∧h.get? a=some o∧o.cls= .type "tuple"∧o.data= .seq its.toArray m∧eE h its ps
theorem eE.grow {h h':Heap} (g:kY h h'):∀ {us:List Value} {ps:List Pl},eE h us ps→eE h' us ps
 | _,_,.nil=> .nil
 | _,_,.cons a r=> .cons (a.grow g) (eE.grow g r)
theorem qY.grow {n:Nat} {h h':Heap} {v:Value} {ps:List Pl} (a:qY n h v ps) (g:kY h h'):qY n h' v ps:=by
 obtain ⟨hl,b,o,its,m,h1,h2,h3,h4,h5⟩:=a
 exact ⟨hl,b,o,its,m,h1,g _ _ h2,h3,h4,h5.grow g⟩
theorem qY.inj {n:Nat} {h:Heap} {v:Value} {ps qs:List Pl} (a:qY n h v ps) (b:qY n h v qs):ps=qs:=by
 obtain ⟨_,a1,o,its,m,rfl,h2,h3,h4,h5⟩:=a
 obtain ⟨_,a2,o',its',m',e,k2,k3,k4,k5⟩:=b
 injection e with e
 subst e
 rw [h2] at k2
 injection k2 with k2
 subst k2
 rw [h4] at k4
 injection k4 with k4 _
 have k4:its=its':=by simpa using k4
 subst k4
 rw [← h5.keys,← k5.keys]
open Classical in
noncomputable def Ao (n:Nat) (h:Heap):KeyKind where
 α:=List Pl
 blt p q:=dR p q
 irrefl p:=oB p
 trans p q r a b:=lW p q r a b
 negTrans p q r a:=by
  rcases mR p q with c | c | c
  ·exact .inl c
  ·subst c;exact .inr a
  ·exact .inr (lW _ _ _ c a)
 total p q a b:=by
  rcases mR p q with c | c | c
  ·rw [a] at c;cases c
  ·exact c
  ·rw [b] at c;cases c
 keyOf v:=if e:∃ p,qY n h v p then some e.choose else none
 dflt:=[]
open Classical in
theorem yz {n:Nat} {h:Heap} {v:Value} {p:List Pl} (a:qY n h v p):(Ao n h).keyOf v=some p:=by
 have e:∃ p,qY n h v p:=⟨p,a⟩
 show (if e:∃ p,qY n h v p then some e.choose else none)=some p
 rw [dif_pos e,qY.inj e.choose_spec a]
open Classical in
theorem Bp {n:Nat} {h:Heap} {v:Value} {p:List Pl} (a:(Ao n h).keyOf v=some p):qY n h v p:=by
 have a:(if e:∃ p,qY n h v p then some e.choose else none)=some p:=a
 by_cases e:∃ p,qY n h v p
 ·rw [dif_pos e] at a
  have:=e.choose_spec
  rwa [Option.some.inj a] at this
 ·rw [dif_neg e] at a;cases a
section
variable {P:Program} {w:World} {A:Around} {E:Value→Shared→Prop} {s:Shared}
theorem qc {u v:Value} {p q:Pl} {Q:Bool→Shared→Prop} (hu:A.units < cLine) (a:lQ s.heap u p) (b:lQ s.heap v q) (h:Q (decide (p=q)) s):wpAny (model P w) A (eqBool u v) Q E s:=by
 obtain ⟨a1,o1,t1,u1,n1,rfl,h2,h3,h4⟩:=a
 obtain ⟨a2,o2,t2,u2,n2,rfl,k2,k3,k4⟩:=b
 refine wpAny_eqBool_tuple (knd:=intKind P w) (x:=[p.x,p.y]) (y:=[q.x,q.y]) hu ⟨o1,_,n1,h2,h3,h4,?_⟩ ⟨o2,_,n2,k2,k3,k4,?_⟩ ?_
 ·exact .cons (by simp [intKind,Value.isInt]) (.cons (by simp [intKind,Value.isInt]) .nil)
 ·exact .cons (by simp [intKind,Value.isInt]) (.cons (by simp [intKind,Value.isInt]) .nil)
 ·have e:decide ([p.x,p.y]= [q.x,q.y])=decide (p=q):=by
   rw [decide_eq_decide]
   cases p;cases q
   simp
  rw [e];exact h
theorem jZ {u v:Value} {p q:Pl} {Q:Bool→Shared→Prop} (hu:A.units < cLine) (a:lQ s.heap u p) (b:lQ s.heap v q) (h:Q (decide (bQ p q)) s):wpAny (model P w) A (oneLt' false u v) Q E s:=by
 obtain ⟨l,its,rfl,h1,h2⟩:=a.tup
 obtain ⟨l',its',rfl,k1,k2⟩:=b.tup
 rw [oneLt'_eq]
 simp only [Bool.false_eq_true,if_false]
 apply wpAny_bind
 refine (HT.pK h1 k1 h2 k2 hu ?_:wpAny (model P w) A (compareOp .Lt (.ref l) (.ref l')) _ E s)
 refine wpAny_truthy_bool ?_
 rw [ja]
 exact h
theorem eE.cons_inv {h:Heap} {us:List Value} {p:Pl} {ps:List Pl} (a:eE h us (p :: ps)):∃ u vs,us=u :: vs∧lQ h u p∧eE h vs ps:=by
 cases a with
 | cons a r=>exact ⟨_,_,rfl,a,r⟩
theorem eE.nil_inv {h:Heap} {us:List Value} (a:eE h us []):us= []:=by
 cases a
 rfl
theorem Bq {α:Type} {qs:List α} (h:qs.length=2):∃ u v,qs= [u,v]:=by
 match qs,h with
 | [u,v],_=>exact ⟨u,v,rfl⟩
theorem IG {n:Nat} (hn:n=2∨n=3) {t:Shared} {x y:Value} {ps qs:List Pl} {R:Bool→Shared→Prop} (hu:A.units < cLine) (kx:qY n t.heap x ps) (ky:qY n t.heap y qs) (hR:R (dR ps qs) t):wpAny (model P w) A (keyLt' (tuples' false) x y) R E t:=by
 obtain ⟨l1,a,o,its,m,rfl,h2,h3,h4,h5⟩:=kx
 obtain ⟨l2,b,o',its',m',rfl,k2,k3,k4,k5⟩:=ky
 rw [sG]
 apply wpAny_bind;apply listItems_at h2 h4
 apply wpAny_bind;apply listItems_at k2 k4
 rcases hn with rfl | rfl
 ·obtain ⟨p1,p2,rfl⟩:=Bq l1
  obtain ⟨q1,q2,rfl⟩:=Bq l2
  obtain ⟨u1,us,rfl,a1,h5⟩:=h5.cons_inv
  obtain ⟨u2,us,rfl,a2,h5⟩:=h5.cons_inv
  obtain rfl:=h5.nil_inv
  obtain ⟨v1,vs,rfl,b1,k5⟩:=k5.cons_inv
  obtain ⟨v2,vs,rfl,b2,k5⟩:=k5.cons_inv
  obtain rfl:=k5.nil_inv
  ·clear h2 h4 k2 k4 h3 k3
   simp only [List.toList_toArray,List.zip_cons_cons,List.zip_nil_right,List.zipIdx_cons,List.zipIdx_nil,List.forIn_cons,List.forIn_nil,bind_assoc,Bool.false_and]
   apply wpAny_bind
   refine qc hu a1 b1 ?_
   unfold dR at hR
   by_cases e1:p1=q1
   ·rw [if_pos e1] at hR
    rw [decide_eq_true e1]
    simp only [Bool.not_true,Bool.false_eq_true,if_false,pure_bind,bind_assoc]
    apply wpAny_bind
    refine qc hu a2 b2 ?_
    unfold dR at hR
    by_cases e2:p2=q2
    ·rw [if_pos e2] at hR
     rw [decide_eq_true e2]
     simp only [Bool.not_true,Bool.false_eq_true,if_false,pure_bind]
     exact wpAny_pure hR
    ·rw [if_neg e2] at hR
     rw [decide_eq_false e2]
     simp only [Bool.not_false,if_true,bind_assoc,pure_bind]
     apply wpAny_bind
     exact jZ hu a2 b2 (wpAny_pure hR)
   ·rw [if_neg e1] at hR
    rw [decide_eq_false e1]
    simp only [Bool.not_false,if_true,bind_assoc,pure_bind]
    apply wpAny_bind
    exact jZ hu a1 b1 (wpAny_pure hR)
 ·obtain ⟨p1,p2,p3,rfl⟩:=pZ l1
  obtain ⟨q1,q2,q3,rfl⟩:=pZ l2
  obtain ⟨u1,us,rfl,a1,h5⟩:=h5.cons_inv
  obtain ⟨u2,us,rfl,a2,h5⟩:=h5.cons_inv
  obtain ⟨u3,us,rfl,a3,h5⟩:=h5.cons_inv
  obtain rfl:=h5.nil_inv
  obtain ⟨v1,vs,rfl,b1,k5⟩:=k5.cons_inv
  obtain ⟨v2,vs,rfl,b2,k5⟩:=k5.cons_inv
  obtain ⟨v3,vs,rfl,b3,k5⟩:=k5.cons_inv
  obtain rfl:=k5.nil_inv
  ·clear h2 h4 k2 k4 h3 k3
   simp only [List.toList_toArray,List.zip_cons_cons,List.zip_nil_right,List.zipIdx_cons,List.zipIdx_nil,List.forIn_cons,List.forIn_nil,bind_assoc,Bool.false_and]
   apply wpAny_bind
   refine qc hu a1 b1 ?_
   unfold dR at hR
   by_cases e1:p1=q1
   ·rw [if_pos e1] at hR
    rw [decide_eq_true e1]
    simp only [Bool.not_true,Bool.false_eq_true,if_false,pure_bind,bind_assoc]
    apply wpAny_bind
    refine qc hu a2 b2 ?_
    unfold dR at hR
    by_cases e2:p2=q2
    ·rw [if_pos e2] at hR
     rw [decide_eq_true e2]
     simp only [Bool.not_true,Bool.false_eq_true,if_false,pure_bind,bind_assoc]
     apply wpAny_bind
     refine qc hu a3 b3 ?_
     unfold dR at hR
     by_cases e3:p3=q3
     ·rw [if_pos e3] at hR
      rw [decide_eq_true e3]
      simp only [Bool.not_true,Bool.false_eq_true,if_false,pure_bind]
      exact wpAny_pure hR
     ·rw [if_neg e3] at hR
      rw [decide_eq_false e3]
      simp only [Bool.not_false,if_true,bind_assoc,pure_bind]
      apply wpAny_bind
      exact jZ hu a3 b3 (wpAny_pure hR)
    ·rw [if_neg e2] at hR
     rw [decide_eq_false e2]
     simp only [Bool.not_false,if_true,bind_assoc,pure_bind]
     apply wpAny_bind
     exact jZ hu a2 b2 (wpAny_pure hR)
   ·rw [if_neg e1] at hR
    rw [decide_eq_false e1]
    simp only [Bool.not_false,if_true,bind_assoc,pure_bind]
    apply wpAny_bind
    exact jZ hu a1 b1 (wpAny_pure hR)
theorem FZ {n:Nat} (hn:n=2∨n=3) (hu:A.units < cLine) {h:Heap} {t:Shared} (g:kY h t.heap):Ask P w A t (Ao n h) (tuples' false):=
 ⟨fun E x y p q R kx ky hR=>IG hn hu ((Bp kx).grow g) ((Bp ky).grow g) hR⟩
theorem Dh {n:Nat} (hn:n=2∨n=3) {vs:List Value} (h2:1≤vs.length) (hv:∀ v∈vs,∃ p,qY n s.heap v p) {Q:SortKind→Shared→Prop} (h:Q (tuples' false) s):wpAny (model P w) A (keyKind' vs.toArray) Q E s:=by
 rw [keyKind'_eq,List.mapM_toArray]
 simp only [bind_map_left]
 apply wpAny_bind
 refine mK (fun _ b=> ∃ u p,b=some u∧lQ s.heap u p) vs _ (fun v hm Q hQ=>?_) fun bs hb=>?_
 ·obtain ⟨ps,hl,a,o,its,m,rfl,k2,k3,k4,k5⟩:=hv v hm
  rw [sH]
  apply wpAny_bind
  refine wpAny_typeOf (T:= "tuple") ⟨o,k2,k3⟩ ?_
  have e:(Value.type "tuple" !=Value.type "tuple")=false:=by decide
  rw [e]
  simp only [Bool.false_eq_true,if_false,pure_bind]
  apply wpAny_bind;apply listItems_at k2 k4
  cases ps with
  | nil=>simp at hl;omega
  | cons p ps=>
    obtain ⟨u,us,rfl,a,_⟩:=k5.cons_inv
    exact wpAny_pure (hQ _ ⟨u,p,rfl,a⟩)
 ·have all:∀ (vs:List Value) (bs:List (Option Value)),Paired (fun _ b=> ∃ u p,b=some u∧lQ s.heap u p) vs bs→bs.length=vs.length∧(∀ b∈bs,∃ u p,b=some u∧lQ s.heap u p):=by
   intro vs
   induction vs with
   | nil=>intro bs q;cases q;exact ⟨rfl,fun _ z=>by cases z⟩
   | cons v vs ih=>
     intro bs q
     cases q with
     | cons q1 q2=>
       obtain ⟨l,m⟩:=ih _ q2
       refine ⟨by simp [l],fun b hb=>?_⟩
       rcases List.mem_cons.mp hb with rfl | hb
       ·exact q1
       ·exact m b hb
  obtain ⟨hl,hm⟩:=all vs bs hb
  have c:(bs.toArray.all fun b=>b.isSome)=true:=by
   simp only [List.all_toArray,List.all_eq_true]
   intro b hb
   obtain ⟨u,p,rfl,_⟩:=hm b hb
   rfl
  rw [if_pos c]
  apply wpAny_bind;apply wpAny_rule
  rw [oneTypeOnly'_eq]
  have ef:bs.toArray.filterMap id=(bs.filterMap id).toArray:=by simp
  rw [ef,List.mapM_toArray]
  simp only [bind_map_left,bind_assoc]
  apply wpAny_bind
  refine mK (fun _ b=>b=Value.type "tuple") _ _ (fun v hv' Q hQ=>?_) fun cs hc=>?_
  ·obtain ⟨b,hb1,hb2⟩:=List.mem_filterMap.mp hv'
   obtain ⟨u,p,rfl,a,o,t,u',m,rfl,k2,k3,k4⟩:=hm b hb1
   have hb2:some (Value.ref a)=some v:=hb2
   cases hb2
   exact wpAny_typeOf (T:= "tuple") ⟨o,k2,k3⟩ (hQ _ rfl)
  ·have len:1≤(bs.filterMap id).length:=by
    cases bs with
    | nil=>simp at hl;omega
    | cons b bs=>
      obtain ⟨u,p,rfl,_⟩:=hm b (List.mem_cons_self ..)
      simp
   have all2:∀ (us cs:List Value),Paired (fun _ b=>b=Value.type "tuple") us cs→cs=us.map fun _=>Value.type "tuple" :=by
    intro us
    induction us with
    | nil=>intro cs q;cases q;rfl
    | cons u us ih=>intro cs q;cases q with | cons q1 q2=>rw [q1,ih _ q2];rfl
   rw [all2 _ _ hc]
   generalize bs.filterMap id=us at len
   cases us with
   | nil=>simp at len
   | cons u us=>
     have e0:(List.map (fun _=>Value.type "tuple") (u :: us)).toArray[0]?=some (Value.type "tuple"):=by simp
     rw [e0]
     have e1:((List.map (fun _=>Value.type "tuple") (u :: us)).toArray.all fun x=>x == Value.type "tuple")=true:=by
      simp only [List.all_toArray,List.all_map,List.all_eq_true]
      intro _ _;rfl
     simp only [e1,if_true,pure_bind]
     exact wpAny_pure h
end
noncomputable def t9 (n:Nat) (h:Heap) (v:Value):List Pl:=Option.getD (α:=List Pl) ((Ao n h).keyOf v) []
theorem yC {n:Nat} {h:Heap} {v:Value} {p:List Pl} (a:qY n h v p):t9 n h v=p:=by
 unfold t9
 have e:(Ao n h).keyOf v=some p:=yz a
 exact congrArg (fun o=>Option.getD (α:=List Pl) o []) e
def j3 (n:Nat) (h:Heap):List Value→List (List Pl)→Prop:=Paired (qY n h)
theorem j3.keys {n:Nat} {h:Heap}:∀ {us:List Value} {ps:List (List Pl)},j3 n h us ps→us.map (t9 n h)=ps
 | _,_,.nil=>rfl
 | _,_,.cons a r=>by rw [List.map_cons,yC a,j3.keys r]
theorem j3.mem {n:Nat} {h:Heap}:∀ {us:List Value} {ps:List (List Pl)} {v:Value},j3 n h us ps→v∈us→∃ p,qY n h v p
 | _,_,v,.nil,m=>by cases m
 | _,_,v,.cons a r,m=>by
   rcases List.mem_cons.mp m with rfl | m
   ·exact ⟨_,a⟩
   ·exact j3.mem r m
theorem vG {n:Nat} (hn:n=2∨n=3) {P:Program} {w:World} {A:Around} {E:Value→Shared→Prop} {s:Shared} {l:Addr} {vs:List Value} {ps:List (List Pl)} {Q:Value→Shared→Prop} (hu:A.units+64 < cLine) (hl:s.heap.IsList l vs.toArray) (hv:j3 n s.heap vs ps) (h64:vs.length < 64)
 (h:∀ (out:List Value) (qs:List (List Pl)),(∀ v∈out,v∈vs)→qs=out.map (t9 n s.heap)→qs.Perm ps→qs.Pairwise (fun p q=>dR q p=false)→Q (.ref (s.heap.objs.size+1)) { s with heap:=sortedAll s.heap vs out.toArray }) :
 wpAny (model P w) A (call (.builtin "sorted") [.ref l]) Q E s:=by
 have hk:KeysOf (Ao n s.heap) (pairsOf vs):=fun p hp=>by
  rw [pairsOf_toList] at hp
  obtain ⟨q,a⟩:=hv.mem (c9 hp).2
  exact ⟨q,yz a⟩
 refine sF (κ:=Ao n s.heap) (kd:=tuples' false) hl hk (fun t E Q g h2 q=>Dh hn (by omega) (fun v m=>?_) q) (fun t g=>FZ hn (by show A.units+1+1 < cLine;omega) g) h64 fun y hp hs=>?_
 ·obtain ⟨p,a⟩:=hv.mem m
  exact ⟨p,a.grow g⟩
 ·have pl:y.toList.Perm (vs.zip vs):=by rw [← pairsOf_toList];exact Array.perm_iff_toList_perm.mp hp
  have same:∀ p∈y.toList,p.1=p.2∧p.1∈vs:=fun p m=>c9 (pl.mem_iff.mp m)
  have eo:y.map (·.2)=(y.toList.map (·.2)).toArray:=by rw [← Array.toList_map,Array.toArray_toList]
  rw [eo]
  refine h (y.toList.map (·.2)) _ (fun v m=>?_) rfl ?_ ?_
  ·obtain ⟨p,m2,rfl⟩:=List.mem_map.mp m
   rw [← (same p m2).1];exact (same p m2).2
  ·have q:=(pl.map (fun p=>p.2)).map (t9 n s.heap)
   have e:(vs.zip vs).map (fun p=>p.2)=vs:=List.map_snd_zip (Nat.le_refl _)
   rw [e,hv.keys] at q
   exact q
  ·rw [List.pairwise_iff_getElem]
   intro i j hi hj hij
   have li:i < y.size:=by simpa using hi
   have lj:j < y.size:=by simpa using hj
   have q:=hs i j (Nat.le_of_lt hij) (by rw [← hp.size_eq];exact lj)
   have key:∀ k (hk:k < y.size),KK (Ao n s.heap) y k=t9 n s.heap y[k].2:=fun k hk=>by
    unfold KK
    rw [getElem?_pos y k hk]
    show Option.getD (α:=List Pl) ((Ao n s.heap).keyOf y[k].1) []=_
    rw [(same y[k] (by simp)).1]
    rfl
   have q:(Ao n s.heap).blt (KK (Ao n s.heap) y j) (KK (Ao n s.heap) y i)=false:=q
   rw [key i li,key j lj] at q
   have q:dR (t9 n s.heap y[j].2) (t9 n s.heap y[i].2)=false:=q
   simpa using q
def tD (ps:List Pl):D:= .tup (ps.map Pl.d)
theorem Br {n:Nat} {P:Program} {w:World} {K:PySem.W.Frag} {H:Hp} {h:Heap} {ps:List Pl} {x:V} {u:Value} (ok:jN P w H h) (hl:ps.length=n) (d:Dat K H (tD ps) x) (r:RelV x u):qY n h u ps:=by
 obtain ⟨a,xs,rfl,ha,hx⟩:=bP.mp d
 obtain rfl:u=Value.ref a:=r
 obtain ⟨its,rv,⟨o,h1,h2,m,h3⟩,_⟩:=fG ok ha
 exact ⟨hl,a,o,its,m,rfl,h1,h2,h3,pX ok hx rv⟩
theorem sO {n:Nat} {P:Program} {w:World} {K:PySem.W.Frag} {H:Hp} {h:Heap} (ok:jN P w H h):∀ {ps:List (List Pl)} {xs:List V} {us:List Value},(∀ p∈ps,p.length=n)→aG K H (ps.map tD) xs→Vals xs us→j3 n h us ps
 | [],xs,us,_,d,r=>by rw [aP.mp d] at r;cases r;exact .nil
 | p :: ps,xs,us,hl,d,r=>by
   obtain ⟨v,vs,rfl,d1,d2⟩:=aH.mp d
   cases r with
   | cons r1 r2=>exact .cons (Br ok (hl p (List.mem_cons_self ..)) d1 r1) (sO ok (fun q hq=>hl q (List.mem_cons_of_mem _ hq)) d2 r2)
theorem qd {n:Nat} {K:PySem.W.Frag} {H:Hp} {h:Heap} {P:Program} {w:World} (ok:jN P w H h) {ps:List (List Pl)} {zs:List V} {vs:List Value} (hl:∀ p∈ps,p.length=n) (d:aG K H (ps.map tD) zs) (r:Vals zs vs):∀ (out:List Value),(∀ v∈out,v∈vs)→
 ∃ ws,Vals ws out∧aG K H ((out.map (t9 n h)).map tD) ws
 | [],_=>⟨[],.nil,aP.mpr rfl⟩
 | v :: out,m=>by
   obtain ⟨ws,h1,h2⟩:=qd ok hl d r out fun u hu=>m u (List.mem_cons_of_mem _ hu)
   have one:∀ {ps:List (List Pl)} {zs:List V} {vs:List Value},(∀ p∈ps,p.length=n)→aG K H (ps.map tD) zs→Vals zs vs→v∈vs→∃ (p:List Pl) (x:V),p.length=n∧RelV x v∧Dat K H (tD p) x:=by
    intro ps
    induction ps with
    | nil=>intro zs vs _ d r m;rw [aP.mp d] at r;cases r;cases m
    | cons p ps ih=>
      intro zs vs hl d r m
      obtain ⟨x,xs,rfl,d1,d2⟩:=aH.mp d
      cases r with
      | cons r1 r2=>
        rcases List.mem_cons.mp m with rfl | m
        ·exact ⟨p,x,hl p (List.mem_cons_self ..),r1,d1⟩
        ·exact ih (fun q hq=>hl q (List.mem_cons_of_mem _ hq)) d2 r2 m
   obtain ⟨p,x,lp,rx,dx⟩:=one hl d r (m v (List.mem_cons_self ..))
   refine ⟨x :: ws,.cons rx h1,?_⟩
   rw [List.map_cons,List.map_cons,yC (Br ok lp dx rx)]
   exact aH.mpr ⟨x,ws,rfl,dx,h2⟩
section
variable {X:Cx}
def Bs (n:Nat):List D→Mp→DK→Prop:=fun ds M Q=> ∃ (l:Addr) (ps:List (List Pl)),ds= [.ref l]∧M l=some (.lst (ps.map tD))∧(∀ p∈ps,p.length=n)∧ps.length < 64∧∀ (p:Addr) (qs:List (List Pl)),M p=none→qs.Perm ps→qs.Pairwise (fun p q=>dR q p=false)→Q (.ref p) (aC M p (.lst (qs.map tD)))
theorem nJ {n:Nat} (hn:n=2∨n=3) (hu:X.A.units+64 < cLine):Call3 X (.builtin "sorted") (Bs n):=by
 constructor
 intro pins s σ H M xs ds us Q I rm rs dx ⟨l,ps,e,hM,MI,h64,q⟩
 subst e
 obtain ⟨v,rfl,hv⟩:=jU dx
 obtain rfl:=aV.mp hv
 obtain ⟨u,rfl,r1⟩:=vals1 rs
 obtain rfl:u=Value.ref l:=r1
 obtain ⟨zs,hH,hz⟩:=rm.lst hM
 obtain ⟨its,rv,pl,hsz⟩:=I.list (jw.of (K:=X.K) hH)
 have hl:its.length=ps.length:=by rw [Vals.len rv,← hz.length,List.length_map]
 refine vG hn hu pl.isList (sO I.hok MI hz rv) (by omega) fun out qs hm eq hp hs=>?_
 obtain ⟨ws,w1,w2⟩:=qd I.hok MI hz rv out hm
 rw [← eq] at w2
 obtain ⟨m,hm'⟩:=sortedAll_at s.heap its out.toArray
 have fr:H (s.heap.objs.size+1)=none:=I.hok.fresh (Nat.le_succ _)
 have zw:ws.length≤sizeLine:=by
  rw [← w2.length,List.length_map,hp.length_eq,sizeLine_eq];omega
 refine ⟨.ref (s.heap.objs.size+1),upd H (s.heap.objs.size+1) (.lst ws),I.laid (t':=s.toks) (fun b o e=>sortedAll_old e) (Nat.le_succ _) ⟨zw,out,m,w1,hm'⟩,rfl,.ref _,aC M _ (.lst (qs.map tD)),Fr.new fr fun _ hb=>bC hb,aV.mpr rfl,rm.newL fr w2,q _ _ (rm.free fr) hp hs⟩
end
end L3
namespace L3
open PySem
def j4 (t:List Pl):Prop:= ∃ u v w,t= [u,v,w]∧bQ u v∧bQ u w∧0 < tw u v w
theorem j4.uniq {s t:List Pl} (hs:j4 s) (ht:j4 t) (h:s.Perm t):s=t:=by
 obtain ⟨u,v,w,rfl,b1,b2,p1⟩:=hs
 obtain ⟨a,b,c,rfl,c1,c2,p2⟩:=ht
 rcases Bb h with ⟨rfl,rfl,rfl⟩ | ⟨rfl,rfl,rfl⟩ | ⟨rfl,rfl,rfl⟩ | ⟨rfl,rfl,rfl⟩ | ⟨rfl,rfl,rfl⟩ | ⟨rfl,rfl,rfl⟩
 ·rfl
 ·rw [jV] at p2;omega
 ·exact absurd c1 (cH b1)
 ·exact absurd c1 (cH b2)
 ·exact absurd c2 (cH b1)
 ·exact absurd c2 (cH b2)
theorem yD {a b c:Pl} (h:tw a b c≠0):a≠b∧a≠c∧b≠c:=
 ⟨fun e=>by subst e;rw [pT] at h;exact h rfl,fun e=>by subst e;rw [pU] at h;exact h rfl,fun e=>by subst e;rw [vA] at h;exact h rfl⟩
def Bt (a b c:Pl):List Pl:=if bQ a b∧bQ a c then [a,b,c] else if bQ b c then [b,c,a] else [c,a,b]
theorem yE {a b c:Pl} (h:0 < tw a b c):j4 (Bt a b c)∧(Bt a b c).Perm [a,b,c]:=by
 obtain ⟨n1,n2,n3⟩:=yD (show tw a b c≠0 by omega)
 unfold Bt
 by_cases k:bQ a b∧bQ a c
 ·rw [if_pos k]
  exact ⟨⟨a,b,c,rfl,k.1,k.2,h⟩,.refl _⟩
 ·rw [if_neg k]
  by_cases k2:bQ b c
  ·rw [if_pos k2]
   refine ⟨⟨b,c,a,rfl,k2,?_,by rw [i6];exact h⟩,(List.perm_append_comm (l₁:=[b,c]) (l₂:=[a]))⟩
   rcases i8 n1 with z | z
   ·exact absurd ⟨z,c8 z k2⟩ k
   ·exact z
  ·rw [if_neg k2]
   have cb:bQ c b:=by rcases i8 n3 with z | z;exact absurd z k2;exact z
   have ca:bQ c a:=by
    rcases i8 n2 with z | z
    ·exact absurd ⟨c8 z cb,z⟩ k
    ·exact z
   exact ⟨⟨c,a,b,rfl,ca,cb,by rw [← i6 c a b];exact h⟩,(List.perm_append_comm (l₁:=[c]) (l₂:=[a,b]))⟩
def Cu (a b c:Pl):List Pl:=if 0 < tw a b c then Bt a b c else Bt a c b
theorem xg {a b c:Pl} (h:tw a b c≠0):j4 (Cu a b c)∧(Cu a b c).Perm [a,b,c]:=by
 unfold Cu
 by_cases k:0 < tw a b c
 ·rw [if_pos k];exact yE k
 ·rw [if_neg k]
  obtain ⟨h1,h2⟩:=yE (a:=a) (b:=c) (c:=b) (by rw [jV];omega)
  exact ⟨h1,h2.trans (.cons a (.swap b c []))⟩
theorem yF {u v w a b c:Pl} (h: [u,v,w].Perm [a,b,c]):tw u v w≠0↔tw a b c≠0:=by
 rcases Bb h with ⟨rfl,rfl,rfl⟩ | ⟨rfl,rfl,rfl⟩ | ⟨rfl,rfl,rfl⟩ | ⟨rfl,rfl,rfl⟩ | ⟨rfl,rfl,rfl⟩ | ⟨rfl,rfl,rfl⟩
 ·exact Iff.rfl
 ·rw [jV u v w];omega
 ·rw [tZ u v w];omega
 ·rw [i6 w u v]
 ·rw [← i6 u v w]
 ·rw [tZ v w u,i6 u v w];omega
theorem vH {t:List Pl} {a b c:Pl} (ht:j4 t) (h:t.Perm [a,b,c]):tw a b c≠0∧t=Cu a b c:=by
 have hn:tw a b c≠0:=by
  obtain ⟨u,v,w,rfl,_,_,p⟩:=ht
  exact (yF h).mp (by omega)
 obtain ⟨h1,h2⟩:=xg hn
 exact ⟨hn,ht.uniq h1 (h.trans h2.symm)⟩
theorem xh {a b c u v w:Pl} (hn:tw a b c≠0) (hp: [u,v,w].Perm [a,b,c]) (hs: [u,v,w].Pairwise (fun p q=> ¬ bQ q p)) :
 Cu a b c=if 0 < tw u v w then [u,v,w] else [u,w,v]:=by
 have hn2:tw u v w≠0:=(yF hp).mpr hn
 obtain ⟨n1,n2,n3⟩:=yD hn2
 have b1:bQ u v:=by rcases i8 n1 with z | z;exact z;exact absurd z ((List.pairwise_cons.mp hs).1 v (by simp))
 have b2:bQ u w:=by rcases i8 n2 with z | z;exact z;exact absurd z ((List.pairwise_cons.mp hs).1 w (by simp))
 by_cases k:0 < tw u v w
 ·rw [if_pos k]
  exact (vH ⟨u,v,w,rfl,b1,b2,k⟩ hp).2.symm
 ·rw [if_neg k]
  exact (vH ⟨u,w,v,rfl,b2,b1,by rw [jV];omega⟩ ((List.Perm.cons u (.swap v w [])).trans hp)).2.symm
def one (ok:List Pl→Bool) (a b c:Pl):List (List Pl):=if tw a b c≠0∧ok (Cu a b c)=true then [Cu a b c] else []
def c2:Nat→Nat | 0=>0 | m+1=>c2 m+m
def c3:Nat→Nat | 0=>0 | k+1=>c3 k+c2 k
end L3
namespace L3
open PySem PySem.Spec PyProof.Rows L2
theorem Ga {u v w:Pl} (k:cX (.int (tw u v w).sign) (.int 1)=true):0 < tw u v w:=by
 rw [bU] at k
 exact Int.sign_eq_one_iff_pos.mp (eq_of_beq k)
theorem Di {u v w:Pl} (k:¬ cX (.int (tw u v w).sign) (.int 1)=true):¬ 0 < tw u v w:=fun z=>by
 apply k
 rw [bU,Int.sign_eq_one_of_pos z]
 rfl
theorem ic {ts:List (List Pl)} {i:Nat} {x:D} (h:(ts.map tD)[i]?=some x):∃ t,ts[i]?=some t∧x=tD t:=by
 rw [List.getElem?_map] at h
 cases e:ts[i]? with
 | none=>rw [e] at h;cases h
 | some p=>rw [e] at h;exact ⟨p,rfl,(Option.some.inj h).symm⟩
theorem bZ {ts:List (List Pl)} {f:List Pl→Bool} {i:Nat} {t:List Pl} (h:ts[i]?=some t):(ts.take (i+1)).filter f=(ts.take i).filter f ++ (if f t=true then [t] else []):=by
 rw [List.take_succ,h,List.filter_append]
 congr 1
 show List.filter f [t]=_
 rw [List.filter_cons]
 rfl
theorem j5:∀ {as bs:List (List Pl)},as.Perm bs→as.Pairwise (fun a b=>dR b a=false)→bs.Pairwise (fun a b=>dR b a=false)→as=bs
 | [],bs,h,_,_=>by rw [List.nil_perm.mp h]
 | a :: as,[],h,_,_=>by simp at h
 | a :: as,b :: bs,h,h1,h2=>by
   obtain ⟨p1,p2⟩:=List.pairwise_cons.mp h1
   obtain ⟨q1,q2⟩:=List.pairwise_cons.mp h2
   have e:a=b:=by
    have ma:a∈b :: bs:=h.mem_iff.mp (List.mem_cons_self ..)
    have mb:b∈a :: as:=h.mem_iff.mpr (List.mem_cons_self ..)
    rcases List.mem_cons.mp ma with e | ma
    ·exact e
    rcases List.mem_cons.mp mb with e | mb
    ·exact e.symm
    rcases mR a b with c | c | c
    ·rw [q1 a ma] at c;cases c
    ·exact c
    ·rw [p1 b mb] at c;cases c
   subst e
   rw [j5 ((List.perm_cons a).mp h) p2 q2]
theorem dG (fs:List (List Pl)):(fs.map tD).all (plain 9)=true:=by
 rw [List.all_eq_true]
 intro d hd
 obtain ⟨t,_,rfl⟩:=List.mem_map.mp hd
 show (t.map Pl.d).all (plain 8)=true
 rw [List.all_eq_true]
 intro d hd
 obtain ⟨p,_,rfl⟩:=List.mem_map.mp hd
 rfl
end L3
namespace L3
open PySem PySem.Spec PyProof.Rows L2 Att
end L3
namespace PySem
open PySem.Calls PySem.W
theorem xj:typeLookup (.type "list_reverseiterator") "__len__" =pure none:=by rw [typeLookup_type,builtinLookup_eq_fast];kernel_rfl
theorem Bu:typeLookup (.type "list_reverseiterator") "__length_hint__" =pure (some (.builtin "list_reverseiterator.__length_hint__")):=by rw [typeLookup_type,builtinLookup_eq_fast];kernel_rfl
theorem Dj:isSubtype (.type "list_reverseiterator") (.type "list_reverseiterator")=pure true:=by rw [isSubtype_type];kernel_rfl
section
variable {prog:Program} {w:World} {A:Around} {s:Shared} {R:Result→Shared→Prop} {E:Value→Shared→Prop}
variable {I:Addr} {fp wr:List Addr} {G:Array GenState→Array GenState→Prop} {n:Nat} {P:Nat→Value→Prop} {St:Nat→Shared→Prop}
theorem Bv {Q:Bool→Shared→Prop} (hT:s.TypeIs (.ref I) "list_reverseiterator") (h:Q false s):wpAny (model prog w) A (Builtin.List.listLengthHint (.ref I)) Q E s:=by
 unfold Builtin.List.listLengthHint
 refine wpAny_bind (wpAny_specialOf hT xj ?_)
 show wpAny _ A (specialOf (Value.ref I) (Str.ofString "__length_hint__") >>= _) _ _ _
 refine wpAny_bind (wpAny_specialOf hT Bu ?_)
 have hs:splitId "list_reverseiterator.__length_hint__" =some ("list_reverseiterator","__length_hint__"):=by decide +kernel
 simp only [hs]
 refine wpAny_bind (wpAny_isInstance (T:= "list_reverseiterator") (b:=true) hT Dj ?_)
 simp only [Bool.not_true,Bool.false_eq_true,if_false]
 exact wpAny_pure h
theorem nK (W:WalksS prog w A.in1 I fp wr G n P St) (hT:∀ i s,St i s→s.TypeIs (.ref I) "list_reverseiterator") (S:Addr) (res:Value) (c₀:Nat) (hst:St 0 s) (hSf:S∉fp) (hI:I∈fp)
 (hS:s.heap.get? S=some { cls:= .type "list",data:= .seq #[] c₀ })
 (hR:∀ s' acc' c',Moved (S :: wr) G s s'→s'.heap.get? S=some { cls:= .type "list",dict:=none,data:= .seq acc' c',slots:= #[] }→ItemsOf P acc' n→R (.ok (.ret res)) s') (hn:n≤sizeLine) :
 wpAny (model prog w) A.in1 (Builtin.List.listExtendWith (.ref S) (.ref I) res)
  (fun fin s'=>match fin with | .done f=>R (.ok f) s' | .again c'=>c'.quiet=true∧codeAny (model prog w) A c' R s') (fun e s'=>R (.error e) s') s:=by
 have hSI:S≠I:=fun e=>hSf (e▸hI)
 unfold Builtin.List.listExtendWith
 refine wpAny_bind (wpAny_typeOf (hT 0 _ hst) ?_)
 have h1:Builtin.List.listSameRef (.ref S) (.ref I)=false:=by simp [Builtin.List.listSameRef,hSI]
 have h2:(Value.type "list_reverseiterator" == Value.type "list")=false:=by decide
 have h3:(Value.type "list_reverseiterator" == Value.type "tuple")=false:=by decide
 simp only [h1,h2,h3,Bool.or_false,Bool.false_eq_true,if_false]
 refine wpAny_bind (W.self 0 _ _ _ hst ?_)
 refine wpAny_bind (wpAny_holding (Bv (hT 0 _ hst) ?_))
 show wpAny _ A.in1 (again (.builtin "list.extend.loop" ⟨[.ref S,.ref I,res],[]⟩)) _ _ _
 exact wpAny_pure ⟨plainId_quiet F.plain_extend_loop _,codeAny_extend_loopS W hn _ hSf _ n 0 _ _ _ rfl (Nat.zero_le _) hst hS (ItemsOf.nil P) fun s' acc' c' hm hS' hacc=>hR s' acc' c' hm hS' hacc⟩
theorem kZ (W:WalksS prog w A.in1 I fp wr G n P St) (hT:∀ i s,St i s→s.TypeIs (.ref I) "list_reverseiterator") (S:Addr) (hst:St 0 s) (hSf:S∉fp) (hI:I∈fp)
 (hS:s.heap.get? S=some { cls:= .type "list",data:= .seq #[] })
 (hR:∀ s' acc' c',Moved (S :: wr) G s s'→s'.heap.get? S=some { cls:= .type "list",dict:=none,data:= .seq acc' c',slots:= #[] }→ItemsOf P acc' n→R (.ok (.ret .none)) s') (hn:n≤sizeLine) :
 wpAny (model prog w) A.in1 (Builtin.«list.__init__» ⟨[.ref S,.ref I],[]⟩)
  (fun fin s'=>match fin with | .done f=>R (.ok f) s' | .again c'=>c'.quiet=true∧codeAny (model prog w) A c' R s') (fun e s'=>R (.error e) s') s:=by
 show wpAny _ A.in1 (do let old ← Builtin.List.listItems (.ref S);Builtin.List.listUpdate (.ref S) (fun _=> #[]);letGo old.toList.reverse;Builtin.List.listExtendWith (.ref S) (.ref I) .none) _ _ s
 refine wpAny_bind ?_
 unfold Builtin.List.listItems
 refine wpAny_bind (wpAny_seqItems hS rfl (wpAny_pure ?_))
 show wpAny _ A.in1 (updateSeq S (fun _=> #[]) >>= fun _=>letGo (#[]:Array Value).toList.reverse >>= fun _=>Builtin.List.listExtendWith (.ref S) (.ref I) .none) _ _ s
 refine wpAny_bind (wpAny_updateSeq hS rfl ?_)
 have GW:=Heap.get?_update_self (Obj.mapSeq (fun _=>(#[]:Array Value))) hS rfl
 have Dk:∀ b o,b≠S→s.heap.get? b=some o→(s.heap.update S (Obj.mapSeq (fun _=>(#[]:Array Value)))).get? b=some o:=
  fun b o hb e=>(Heap.get?_update_other _ _ (Ne.symm hb)).trans e
 refine wpAny_bind (wpAny_letGo ?_)
 refine nK W hT S .none _ (W.frame 0 s _ s.toks hst (Nat.le_refl _) fun b hb o e=>Dk b o (fun h=>hSf (h▸hb)) e) hSf hI GW (fun s' acc' c' hm hS' hacc=>?_) hn
 exact hR s' acc' c' (Moved.trans W.gtrans ((Moved.refl W.grefl).then_heap (Nat.le_refl _) fun b o hb e=>Dk b o (fun h=>hb (h▸List.mem_cons_self)) e) hm) hS' hacc
theorem qZ {Q:Value→Shared→Prop} (W:WalksS prog w A.in1.in1 I fp wr G n P St) (hT:∀ i s,St i s→s.TypeIs (.ref I) "list_reverseiterator") (hst:St 0 s) (hfp:∀ b∈fp,b < s.heap.objs.size) (hI:I∈fp)
 (hQ:∀ s' acc' c',Moved (s.heap.objs.size :: wr) G { s with heap:=s.heap.push { cls:= .type "list",data:= .seq #[] } } s'→
  s'.heap.get? s.heap.objs.size=some { cls:= .type "list",dict:=none,data:= .seq acc' c',slots:= #[] }→ItemsOf P acc' n→Q (.ref s.heap.objs.size) s') (hn:n≤sizeLine) :
 wpAny (model prog w) A (call (.type "list") [.ref I]) Q E s:=by
 have hSf:s.heap.objs.size∉fp:=fun hm=>Nat.lt_irrefl _ (hfp _ hm)
 refine callType_codes (Q₁:=fun obj s₁=>obj= .ref s.heap.objs.size∧s₁= { s with heap:=s.heap.push { cls:= .type "list",data:= .seq #[] } }) F.called_list (F.typeCall_list_1 _) F.entry_list_init
  (code_list_new _ ⟨rfl,rfl⟩) fun obj s₁ h₁=>?_
 obtain ⟨rfl,rfl⟩:=h₁
 have hS:(s.heap.push { cls:= .type "list",data:= .seq #[] }).get? s.heap.objs.size=some { cls:= .type "list",data:= .seq #[] }:=Heap.get?_push_size _ rfl
 refine ⟨⟨_,hS,rfl⟩,F.args_list_init_2 _ _,kZ W hT _ (W.frame 0 s _ s.toks hst (Nat.le_refl _) fun b _ o e=>Heap.get?_push_of_some _ e) hSf hI hS (fun s' acc' c' hm hS' hacc=>?_) hn⟩
 exact ⟨rfl,hQ s' acc' c' hm hS' hacc⟩
end
end PySem
namespace L3
open PySem PySem.Spec PyProof.Rows L2
section
variable {X:Cx} {pos:Pos}
def Lj (to:c6):c6:=fun ρ M Q=>to ρ M fun d M1=> ∃ l xs y,d= .ref l∧M1 l=some (.lst (xs ++ [y]))∧Q y (aC M1 l (.lst xs))
theorem aG.snoc {K:PySem.W.Frag} {H:Hp}:∀ {ds:List D} {y:D} {xs:List V},aG K H (ds ++ [y]) xs→∃ zs v,xs=zs ++ [v]∧aG K H ds zs∧Dat K H y v
 | [],y,xs,h=>by
   obtain ⟨v,rfl,hv⟩:=jU h
   exact ⟨[],v,rfl,aP.mpr rfl,hv⟩
 | d :: ds,y,xs,h=>by
   obtain ⟨v,vs,rfl,h1,h2⟩:=aH.mp h
   obtain ⟨zs,u,rfl,h3,h4⟩:=aG.snoc h2
   exact ⟨v :: zs,u,rfl,aH.mpr ⟨v,zs,rfl,h1,h3⟩,h4⟩
theorem II {o:Expr} {to:c6} {apos:Pos} (ho:cN X o to) (Ij:PE X (.Call (.Attribute o "pop" apos) [] [] pos) (HA X.K "list" HC (dn X.K to))):cN X (.Call (.Attribute o "pop" apos) [] [] pos) (Lj to):=
 up Ij fun σ H ρ M Q r q=>eB r q fun v H' d M' f dv r' ⟨l,xs,y,e1,hM,q2⟩=>by
  subst e1
  obtain rfl:=aV.mp dv
  obtain ⟨ys,ha,hy⟩:=r'.mem.lst hM
  obtain ⟨zs,u,rfl,h1,h2⟩:=aG.snoc hy
  refine ⟨.inl ⟨rfl,_,jw.of ha⟩,l,zs ++ [u],u,rfl,rfl,ha,by simp,?_⟩
  rw [List.dropLast_concat]
  exact ⟨y,aC M' l (.lst xs),f.trans (Fr.write (K:=X.K) hM),Dat.mono (Ext.jR ha) _ _ h2,r'.mem.jR ha h1,q2⟩
theorem vI {K:PySem.W.Frag} {H:Hp}:∀ {ds:List D} {xs:List V},aG K H ds xs→aG K H ds.reverse xs.reverse
 | [],xs,h=>by rw [aP.mp h];exact aP.mpr rfl
 | d :: ds,xs,h=>by
   obtain ⟨v,vs,rfl,h1,h2⟩:=aH.mp h
   rw [List.reverse_cons,List.reverse_cons]
   exact (vI h2).append (aG.one h1)
theorem vJ:∀ {xs:List V} {us:List Value},Vals xs us→Vals xs.reverse us.reverse
 | _,_,.nil=> .nil
 | _,_,.cons r rr=>by
   rw [List.reverse_cons,List.reverse_cons]
   exact (vJ rr).append (.cons r .nil)
theorem qe:bootBuiltins "reversed" =some (.type "reversed"):=by decide +kernel
def IJ (te:c6):c6:=fun ρ M Q=>te ρ M fun d M1=> ∃ xs,Bj M1 d xs∧∀ p,M1 p=none→Q (.ref p) (aC M1 p (.lst xs.reverse))
theorem zI {e:Expr} {te:c6} {p1 p2 pos2:Pos} (hc:X.calm=true) (FJ:Gl X "list") (hml:X.mg "list" =none) (hgr:Gl X "reversed") (hmr:X.mg "reversed" =none) (he:cN X e te)
 (s1:starEach [e] X.env= [(false,eval e X.env)]:=by rfl)
 (s2:starEach [.Call (.Name "reversed" p2) [e] [] pos2] X.env= [(false,eval (.Call (.Name "reversed" p2) [e] [] pos2) X.env)]:=by rfl) :
 cN X (.Call (.Name "list" p1) [.Call (.Name "reversed" p2) [e] [] pos2] [] pos) (IJ te):=by
 constructor
 intro pins s σ H ρ M Q I r h
 refine wpAny_Call_Name_kw (jO I FJ hml bL ?_ (by decide) (by decide))
 refine PyProof.Rows.callWith_type1 (Q:=EP X pins σ (Post X.K M H Q)) ?_ (by rw [s2];rfl) (by rfl)
 rw [s2]
 show wpAny _ _ (spliced ((false,eval (.Call (.Name "reversed" p2) [e] [] pos2) X.env) :: backTo pos [])) _ _ s
 refine Calls.spliced_cons ?_
 refine wpAny_Call_Name_kw (jO I hgr hmr qe ?_ (by decide) (by decide))
 refine PyProof.Rows.callWith_type1 ?_ (by rw [s1];rfl) (by rfl)
 rw [s1]
 show wpAny _ _ (spliced ((false,eval e X.env) :: backTo pos2 [])) _ _ s
 refine Calls.spliced_cons (cZ (he.run pins s σ H ρ M _ I r h) fun v s1 ⟨x,H1,I1,rv,d,M1,f1,dd,nj,xs,hL,q⟩=>Calls.spliced_nil ?_)
 obtain ⟨a,zs,rfl,hz,hd⟩:=hL.sq nj dd
 obtain rfl:v=Value.ref a:=rv
 obtain ⟨its,Jz,pl,hsz⟩:=I1.list hz
 have la:a < s1.heap.objs.size:=by obtain ⟨o,e,_⟩:=pl.isList;exact Heap.lt_size e
 refine PySem.call_reversed_list pl.isList ?_
 refine Calls.spliced_nil ?_
 have Ei:(s1.heap.push (PySem.revObj a ((its.toArray.size:Int) - 1))).objs.size=s1.heap.objs.size+1:=Heap.size_push ..
 have Qm:zs.length=its.length:=Jz.length
 refine qZ (PySem.Walks.listRev (A:=X.A.in1.in1) (show X.A.in1.in1.handled=none from I.ok.hd hc) s1.heap.objs.size a (Nat.ne_of_lt la) its.toArray).toS (fun i s st=>st.2.1.typeIs) ?_ ?_ (by simp) (fun s' acc' c' mv hS' hacc=>?_) (by rw [List.size_toArray];omega)
 ·refine ⟨Nat.zero_le _,⟨_,Heap.get?_push_size _ rfl,rfl,?_⟩,?_⟩
  ·simp [PySem.revObj]
  ·obtain ⟨o,e,c,dd⟩:=pl.isList
   exact ⟨o,Heap.get?_push_of_some _ e,c,dd⟩
 ·intro b hb
  show b < (s1.heap.push (PySem.revObj a ((its.toArray.size:Int) - 1))).objs.size
  rw [Ei]
  simp only [List.mem_cons,List.not_mem_nil,or_false] at hb
  rcases hb with rfl | rfl
  ·exact Nat.lt_succ_self _
  ·exact Nat.lt_succ_of_lt la
 ·have hS':s'.heap.get? (s1.heap.objs.size+1)=some { cls:= .type "list",dict:=none,data:= .seq acc' c',slots:= #[] }:=by rw [← Ei];exact hS'
  have Lk:acc'=its.reverse.toArray:=by
   apply Array.ext'
   rw [List.toList_toArray]
   apply List.ext_getElem?
   intro j
   have Qn:acc'.size=its.length:=by
    have:=hacc.1
    rw [List.size_toArray] at this
    exact this
   by_cases hj:j < its.length
   ·have g1:acc'[j]?=some (acc'[j]'(by omega)):=Array.getElem?_eq_getElem (by omega)
    have g2:=hacc.2 j _ g1
    have g2:its[its.length - 1 - j]?=some (acc'[j]'(by omega)):=by simpa using g2
    rw [List.getElem?_reverse hj,g2]
    rw [Array.getElem?_toList,g1]
   ·rw [List.getElem?_eq_none (by simp;omega),List.getElem?_eq_none (by simp;omega)]
  subst Lk
  have kp:∀ b o,s1.heap.get? b=some o→s'.heap.get? b=some o:=fun b o e=>by
   have lb:=Heap.lt_size e
   refine mv.heap b o ?_ (Heap.get?_push_of_some _ (Heap.get?_push_of_some _ e))
   intro hb
   simp only [List.mem_cons,List.not_mem_nil,or_false] at hb
   rcases hb with z | z
   ·have z:b=(s1.heap.push (PySem.revObj a ((its.toArray.size:Int) - 1))).objs.size:=z
    rw [Ei] at z
    rw [z] at lb
    exact absurd lb (Nat.not_lt.mpr (Nat.le_succ _))
   ·rw [z] at lb
    exact Nat.lt_irrefl _ lb
  have fr:H1 (s1.heap.objs.size+1)=none:=I1.hok.fresh (Nat.le_succ _)
  have es:s'= { s1 with heap:=s'.heap,toks:=s'.toks }:=by
   have g:=mv.gens
   have d:=mv.drawn
   have o:=mv.os
   cases s'
   cases s1
   simp only at g d o ⊢
   subst g d o
   rfl
  have I2:Inv X pins σ (upd H1 (s1.heap.objs.size+1) (.lst zs.reverse)) { s1 with heap:=s'.heap,toks:=s'.toks }:=
   I1.laid (t':=s'.toks) kp (Nat.le_succ _) ⟨by rw [List.length_reverse];exact hsz,its.reverse,c',vJ Jz,hS'⟩
  rw [es]
  have ev:(Value.ref (s1.heap.push (PySem.revObj a ((its.toArray.size:Int) - 1))).objs.size)= .ref (s1.heap.objs.size+1):=by rw [Ei]
  refine ⟨.ref (s1.heap.objs.size+1),_,I2,ev,.ref _,aC M1 _ (.lst xs.reverse),f1.trans (Fr.new fr fun _ hb=>bC hb),aV.mpr rfl,nj.newL fr (vI hd),q _ (nj.free fr)⟩
end
end L3
namespace L3
open PySem PySem.Spec PyProof.Rows L2
section
variable {X:Cx} {pos:Pos}
end
structure MJ (K:PySem.W.Frag) (J:It) (inv:Hp→Prop) (ds:List L3.D):Prop where
 go:∀ i H,i < ds.length→inv H→J.go i H
 CH:∀ i H x H',i < ds.length→inv H→J.CH i H x H'→(∀ b o,H b=some o→H' b=some o)∧∃ d,ds[i]?=some d∧Dat K H' d x
 stop:∀ H,inv H→J.stop ds.length H
end L3
namespace L2
open PySem PySem.Spec PyProof.Rows
section
variable {X:Cx} {pins:List (Addr ×Obj)} {σ:St} {H:Hp} {s:Shared} {h':Heap}
theorem Inv.Dm {t':Nat} {fp:List Addr} (I:Inv X pins σ H s) (k:∀ b o,b∉fp→s.heap.get? b=some o→h'.get? b=some o) (hf:∀ b∈fp,jF X pins H b):Inv X pins σ H { s with heap:=h',toks:=t' }:=by
 have G3:∀ b u,H b=some u→b∉fp:=fun b u e z=>by rw [(hf b z).1] at e;cases e
 refine I.step (g':=s.gens) (d':=s.drawn) (ch:=fp) (fun b hb=>?_) (fun b o _ _ hc e _=>k b o hc e) (fun b o _ _ hc e _=>⟨o.slots,k b o hc e⟩) (fun _ _ _ _ n=>n)
  (fun b o hc e=>⟨o,k b o hc e⟩) (fun _ _ e=>e) (fun _ _ _ e=>e) (fun b ps e=>⟨#[],by rw [e];simp⟩) (fun m hm=>?_) (fun b u e=>?_) I.bare
 ·obtain ⟨f0,f1,f2,f3,f4,f5⟩:=hf b hb
  exact ⟨f3,f1,f4,f5⟩
 ·obtain ⟨o,es,ep,ho,r⟩:=hm
  exact ⟨o,es,ep,k _ o (fun z=>(hf _ z).2.1 rfl) ho,r⟩
 ·refine (I.hok b u e).stay (fun c v hc q=>k c v ?_ q) (fun _ q=>q) fun _ _ q=>q
  rcases hc with z | z
  ·rw [z];exact G3 b u e
  ·exact G3 c _ z
end
section
variable {X:Cx}
theorem zJ:bootBuiltins "zip" =some (.type "zip"):=by decide +kernel
end
end L2
namespace L3
open PySem PySem.Spec PyProof.Rows L2
def pairD (x y:D):D:= .tup [x,y]
section
variable {X:Cx} {pos:Pos} {body:List Stmt} {g:Ct} {tb:kX}
end
end L3
namespace PySem
open PySem.Calls PySem.W
abbrev ie (h:Heap) (z TI TO T:Addr) (f:Bool):Prop:=
 h.get? z=some { cls:= .type "zip",dict:=none,data:= .fields #[rawInt T,.bool f,.bool false,.ref TI,.ref TO],slots:= #[] }
section
variable {prog:Program} {w:World} {A:Around} {E:Value→Shared→Prop} {s:Shared}
theorem vK {M:Model} {a:Addr} {Q:Option Obj→Shared→Prop} (h:Q (s.heap.get? a) s):wpAny M A (loadIfAlive a) Q E s:=
 fun _ _ _=>h
theorem mS {z TI TO T:Addr} {f:Bool} {oT:Obj} {Q:Bool→Shared→Prop} (hz:ie s.heap z TI TO T f) (hT:s.heap.get? T=some oT)
 (hQ:∀ h',ie h' z TI TO T true→h'.objs.size=s.heap.objs.size→(∀ c o,c≠z→s.heap.get? c=some o→h'.get? c=some o)→Q false { s with heap:=h' }) :
 wpAny (model prog w) A (Builtin.SmallTypes.ownedTupleIsFree (.ref z)) Q E s:=by
 unfold Builtin.SmallTypes.ownedTupleIsFree
 refine wpAny_bind (wpAny_field hz rfl (x:=rawInt T) rfl ?_)
 show wpAny _ _ (loadIfAlive T >>= _) _ _ _
 refine wpAny_bind (vK ?_)
 rw [hT]
 show wpAny _ _ (field (.ref z) 1 >>= _) _ _ _
 refine wpAny_bind (wpAny_field hz rfl (x:= .bool f) rfl ?_)
 cases f with
 | true=>exact wpAny_pure (hQ s.heap hz rfl fun _ _ _ e=>e)
 | false=>
   show wpAny _ _ (setField (.ref z) 1 (.bool true) >>= _) _ _ _
   refine wpAny_bind (wpAny_setField_rec hz (by simp) fun h₁ JA hs₁=>wpAny_pure (hQ h₁ JA hs₁.1 fun c o c1 e=>hs₁.extBut _ _ c1 e))
theorem q8 {z TI TO T i1 i2 l1 l2:Addr} {f:Bool} {k1 k2:Nat} {xs ys:Array Value} {x y:Value} {oT:Obj} {Q:Value→Shared→Prop} (D:ZipApart z TI TO i1 i2 l1 l2)
 (hz:ie s.heap z TI TO T f) (hT:s.heap.get? T=some oT) (hTI:IsPair s.heap TI (.ref i1) (.ref i2))
 (h1:s.heap.IsListIter i1 l1 k1) (h2:s.heap.IsListIter i2 l2 k2) (hl1:s.heap.IsList l1 xs) (hl2:s.heap.IsList l2 ys) (hx:xs[k1]?=some x) (hy:ys[k2]?=some y)
 (hQ:∀ h',ie h' z TI TO T true→h'.IsListIter i1 l1 (k1+1)→h'.IsListIter i2 l2 (k2+1)→IsPair h' s.heap.objs.size x y→h'.objs.size=s.heap.objs.size+1→
  (∀ c o,c≠z→c≠i1→c≠i2→s.heap.get? c=some o→h'.get? c=some o)→Q (.ref s.heap.objs.size) { s with heap:=h' }) :
 wpAny (model prog w) A (Builtin.«zip.__next__» ⟨[.ref z],[]⟩) (fun fin s'=> ∃ v,fin= .done (.ret v)∧Q v s') E s:=by
 show wpAny _ _ (field (.ref z) 2 >>= _) _ _ _
 refine wpAny_bind (wpAny_field hz rfl (x:= .bool false) rfl ?_)
 show wpAny _ _ (field (.ref z) 3 >>= _) _ _ _
 refine wpAny_bind (wpAny_field hz rfl (x:= .ref TI) rfl ?_)
 refine wpAny_bind (wpAny_seqItems hTI rfl ?_)
 show wpAny _ _ (Builtin.SmallTypes.ownedTupleIsFree (.ref z) >>= _) _ _ _
 refine wpAny_bind (mS hz hT fun h₁ JA hn₁ hk₁=>?_)
 simp only [Bool.false_eq_true,if_false]
 have e1:h₁.IsListIter i1 l1 k1:=h1.at fun o e=>hk₁ i1 o D.i1z e
 have e2:h₁.IsListIter i2 l2 k2:=h2.at fun o e=>hk₁ i2 o D.i2z e
 have m1:h₁.IsList l1 xs:=by obtain ⟨o,e,r⟩:=hl1;exact ⟨o,hk₁ _ _ D.l1z e,r⟩
 have m2:h₁.IsList l2 ys:=by obtain ⟨o,e,r⟩:=hl2;exact ⟨o,hk₁ _ _ D.l2z e,r⟩
 refine wpAny_bind ?_
 rw [← Array.forIn_toList]
 simp only [List.forIn_cons,List.forIn_nil]
 refine wpAny_bind (wpAny_bind (wpAny_holding ?_))
 show wpAny _ _ (Builtin.SmallTypes.nextOf (.ref i1) >>= _) _ _ _
 refine wpAny_bind (wpAny_nextOf_list_item e1 m1 hx fun h₂ g1 hs₂=>wpAny_pure (wpAny_pure ?_))
 refine wpAny_bind (wpAny_bind (wpAny_holding ?_))
 show wpAny _ _ (Builtin.SmallTypes.nextOf (.ref i2) >>= _) _ _ _
 refine wpAny_bind (wpAny_nextOf_list_item (e2.extBut hs₂.extBut D.i12.symm) (m2.extBut hs₂.extBut D.l2i1) hy fun h₃ g2 GX=>wpAny_pure (wpAny_pure (wpAny_pure ?_)))
 show wpAny _ _ (newTuple [x,y] >>= _) _ _ _
 refine wpAny_bind (wpAny_newTuple ?_)
 have hsz:h₃.objs.size=s.heap.objs.size:=by rw [GX.1,hs₂.1,hn₁]
 have kp:∀ c o,c≠z→c≠i1→c≠i2→s.heap.get? c=some o→h₃.get? c=some o:=fun c o c1 c2 c3 e=>GX.extBut _ _ c3 (hs₂.extBut _ _ c2 (hk₁ c o c1 e))
 have z3:ie h₃ z TI TO T true:=GX.extBut _ _ D.i2z.symm (hs₂.extBut _ _ D.i1z.symm JA)
 have g3:h₃.IsListIter i1 l1 (k1+1):=g1.extBut GX.extBut D.i12
 have up:∀ c o,h₃.get? c=some o→(h₃.push { cls:= .type "tuple",data:= .seq #[x,y] }).get? c=some o:=fun c o e=>Heap.get?_push_of_some _ e
 refine wpAny_pure ⟨_,rfl,?_⟩
 show Q (.ref h₃.objs.size) _
 have hp:IsPair (h₃.push { cls:= .type "tuple",data:= .seq #[x,y] }) h₃.objs.size x y:=Heap.get?_push_size _ rfl
 have q:=hQ (h₃.push { cls:= .type "tuple",data:= .seq #[x,y] }) (up _ _ z3) (g3.at fun o e=>up _ o e) (g2.at fun o e=>up _ o e) (by rw [← hsz];exact hp) (by rw [Heap.size_push,hsz]) fun c o c1 c2 c3 e=>up c o (kp c o c1 c2 c3 e)
 rw [hsz]
 exact q
theorem ua {z TI TO T i1 i2 l1 l2:Addr} {f:Bool} {k1 k2:Nat} {xs ys:Array Value} {oT:Obj} {Q:Fin→Shared→Prop} (hh:A.handled=none) (D:ZipApart z TI TO i1 i2 l1 l2)
 (hz:ie s.heap z TI TO T f) (hT:s.heap.get? T=some oT) (hTI:IsPair s.heap TI (.ref i1) (.ref i2))
 (h1:s.heap.IsListIter i1 l1 k1) (h2:s.heap.IsListIter i2 l2 k2) (hl1:s.heap.IsList l1 xs) (hl2:s.heap.IsList l2 ys) (hend:xs[k1]?=none∨ys[k2]?=none)
 (hE:∀ h' e,(∀ c o,c≠z→c≠i1→c≠i2→s.heap.get? c=some o→h'.get? c=some o)→(∃ o,h'.get? e=some o∧o.cls= .type "StopIteration")→E (.ref e) { s with heap:=h' }) :
 wpAny (model prog w) A (Builtin.«zip.__next__» ⟨[.ref z],[]⟩) Q E s:=by
 show wpAny _ _ (field (.ref z) 2 >>= _) _ _ _
 refine wpAny_bind (wpAny_field hz rfl (x:= .bool false) rfl ?_)
 show wpAny _ _ (field (.ref z) 3 >>= _) _ _ _
 refine wpAny_bind (wpAny_field hz rfl (x:= .ref TI) rfl ?_)
 refine wpAny_bind (wpAny_seqItems hTI rfl ?_)
 show wpAny _ _ (Builtin.SmallTypes.ownedTupleIsFree (.ref z) >>= _) _ _ _
 refine wpAny_bind (mS hz hT fun h₁ JA hn₁ hk₁=>?_)
 simp only [Bool.false_eq_true,if_false]
 have e1:h₁.IsListIter i1 l1 k1:=h1.at fun o e=>hk₁ i1 o D.i1z e
 have e2:h₁.IsListIter i2 l2 k2:=h2.at fun o e=>hk₁ i2 o D.i2z e
 have m1:h₁.IsList l1 xs:=by obtain ⟨o,e,r⟩:=hl1;exact ⟨o,hk₁ _ _ D.l1z e,r⟩
 have m2:h₁.IsList l2 ys:=by obtain ⟨o,e,r⟩:=hl2;exact ⟨o,hk₁ _ _ D.l2z e,r⟩
 refine wpAny_bind ?_
 rw [← Array.forIn_toList]
 simp only [List.forIn_cons,List.forIn_nil]
 refine wpAny_bind (wpAny_bind (wpAny_holding ?_))
 show wpAny _ _ (Builtin.SmallTypes.nextOf (.ref i1) >>= _) _ _ _
 cases hx:xs[k1]? with
 | none=>exact wpAny_bind (wpAny_nextOf_list_end hh e1 m1 hx fun h₂ e hs₂ he=>hE h₂ e (fun c o c1 c2 c3 x=>hs₂ _ _ c2 (hk₁ c o c1 x)) he)
 | some x=>
   have hy:ys[k2]?=none:=by
    rcases hend with h | h
    ·rw [hx] at h;cases h
    ·exact h
   refine wpAny_bind (wpAny_nextOf_list_item e1 m1 hx fun h₂ g1 hs₂=>wpAny_pure (wpAny_pure ?_))
   refine wpAny_bind (wpAny_bind (wpAny_holding ?_))
   show wpAny _ _ (Builtin.SmallTypes.nextOf (.ref i2) >>= _) _ _ _
   exact wpAny_bind (wpAny_nextOf_list_end hh (e2.extBut hs₂.extBut D.i12.symm) (m2.extBut hs₂.extBut D.l2i1) hy fun h₃ e GX he=>hE h₃ e (fun c o c1 c2 c3 x=>GX _ _ c3 (hs₂.extBut _ _ c2 (hk₁ c o c1 x))) he)
theorem zK {z TI TO T i1 i2 l1 l2:Addr} {f:Bool} {k1 k2:Nat} {xs ys:Array Value} {x y:Value} {oT:Obj} {Q:Option Value→Shared→Prop} (D:ZipApart z TI TO i1 i2 l1 l2)
 (hz:ie s.heap z TI TO T f) (hT:s.heap.get? T=some oT) (hTI:IsPair s.heap TI (.ref i1) (.ref i2))
 (h1:s.heap.IsListIter i1 l1 k1) (h2:s.heap.IsListIter i2 l2 k2) (hl1:s.heap.IsList l1 xs) (hl2:s.heap.IsList l2 ys) (hx:xs[k1]?=some x) (hy:ys[k2]?=some y)
 (hQ:∀ h',ie h' z TI TO T true→h'.IsListIter i1 l1 (k1+1)→h'.IsListIter i2 l2 (k2+1)→IsPair h' s.heap.objs.size x y→h'.objs.size=s.heap.objs.size+1→
  (∀ c o,c≠z→c≠i1→c≠i2→s.heap.get? c=some o→h'.get? c=some o)→Q (some (.ref s.heap.objs.size)) { s with heap:=h' }) :
 wpAny (model prog w) A (pyNext (.ref z)) Q E s:=by
 have hTy:s.TypeIs (.ref z) "zip" :=⟨_,hz,rfl⟩
 unfold pyNext
 exact wpAny_bind (wpAny_attempt (wpAny_callSpecial?_slot (name:=Str.ofString "__next__") hTy F.slot_zip_next
  (wpAny_call_entry F.slot_zip_next hTy F.entry_zip_next
   (q8 D hz hT hTI h1 h2 hl1 hl2 hx hy fun h' a1 a2 a3 a4 a5 a6=>wpAny_pure (hQ h' a1 a2 a3 a4 a5 a6)) (F.args_zip_next_1 _))))
theorem Bw {z TI TO T i1 i2 l1 l2:Addr} {f:Bool} {k1 k2:Nat} {xs ys:Array Value} {oT:Obj} {Q:Option Value→Shared→Prop} (hh:A.handled=none) (D:ZipApart z TI TO i1 i2 l1 l2)
 (hz:ie s.heap z TI TO T f) (hT:s.heap.get? T=some oT) (hTI:IsPair s.heap TI (.ref i1) (.ref i2))
 (h1:s.heap.IsListIter i1 l1 k1) (h2:s.heap.IsListIter i2 l2 k2) (hl1:s.heap.IsList l1 xs) (hl2:s.heap.IsList l2 ys) (hend:xs[k1]?=none∨ys[k2]?=none)
 (hQ:∀ h',(∀ c o,c≠z→c≠i1→c≠i2→s.heap.get? c=some o→h'.get? c=some o)→Q none { s with heap:=h' }):wpAny (model prog w) A (pyNext (.ref z)) Q E s:=by
 have hTy:s.TypeIs (.ref z) "zip" :=⟨_,hz,rfl⟩
 unfold pyNext
 refine wpAny_bind (wpAny_attempt (wpAny_callSpecial?_slot (name:=Str.ofString "__next__") hTy F.slot_zip_next
  (wpAny_call_entry F.slot_zip_next hTy F.entry_zip_next (ua hh D hz hT hTI h1 h2 hl1 hl2 hend fun h' e hk he=>?_) (F.args_zip_next_1 _))))
 obtain ⟨o,ho,hc⟩:=he
 refine wpAny_bind (wpAny_isInstance (T:= "StopIteration") (b:=true) ⟨o,ho,hc⟩ isSubtype_stop ?_)
 exact wpAny_pure (hQ _ hk)
def IK (N0:Nat) (h:Heap) (z TI TO:Addr):Prop:=
 (IsZip h z TI TO .none∧∃ a b,IsPair h TO a b)∨∃ T f oT,ie h z TI TO T f∧h.get? T=some oT∧N0≤T
structure jA (N0:Nat) (xs ys:Array Value) (z TI TO i1 i2 l1 l2:Addr) (i:Nat) (h:Heap):Prop where
 st:IK N0 h z TI TO
 ti:IsPair h TI (.ref i1) (.ref i2)
 i1:h.IsListIter i1 l1 i
 i2:h.IsListIter i2 l2 i
 l1:h.IsList l1 xs
 l2:h.IsList l2 ys
theorem jA.next {N0:Nat} {z TI TO i1 i2 l1 l2:Addr} {i:Nat} {xs ys:Array Value} {x y:Value} {Q:Option Value→Shared→Prop} (D:ZipApart z TI TO i1 i2 l1 l2)
 (Z:jA N0 xs ys z TI TO i1 i2 l1 l2 i s.heap) (hN:N0≤s.heap.objs.size) (lt:z < N0∧TO < N0∧i1 < N0∧i2 < N0) (hx:xs[i]?=some x) (hy:ys[i]?=some y)
 (hQ:∀ h',jA N0 xs ys z TI TO i1 i2 l1 l2 (i+1) h'→IsPair h' s.heap.objs.size x y→h'.objs.size=s.heap.objs.size+1→
  (∀ c o,c≠z→c≠TO→c≠i1→c≠i2→s.heap.get? c=some o→h'.get? c=some o)→Q (some (.ref s.heap.objs.size)) { s with heap:=h' }) :
 wpAny (model prog w) A (pyNext (.ref z)) Q E s:=by
 obtain ⟨st,ti,a1,a2,m1,m2⟩:=Z
 have tl:∀ {h':Heap},(∀ c o,c≠z→c≠TO→c≠i1→c≠i2→s.heap.get? c=some o→h'.get? c=some o)→h'.IsList l1 xs∧h'.IsList l2 ys∧IsPair h' TI (.ref i1) (.ref i2):=fun k=>by
  refine ⟨?_,?_,k _ _ D.TIz D.TITO D.TIi1 D.TIi2 ti⟩
  ·obtain ⟨o,e,r⟩:=m1;exact ⟨o,k _ _ D.l1z D.l1TO D.l1i1 D.l1i2 e,r⟩
  ·obtain ⟨o,e,r⟩:=m2;exact ⟨o,k _ _ D.l2z D.l2TO D.l2i1 D.l2i2 e,r⟩
 rcases st with ⟨hz,a,b,hTO⟩ | ⟨T,f,oT,hz,hT,Ej⟩
 ·refine wpAny_pyNext_zip_item D hz ti hTO a1 a2 m1 m2 hx hy fun h' b1 b2 b3 b4 b5 b6 b7=>?_
  obtain ⟨t1,t2,t3⟩:=tl b7
  exact hQ h' ⟨.inr ⟨_,false,_,b1,b5,hN⟩,t3,b3,b4,t1,t2⟩ b5 b6 b7
 ·refine zK D hz hT ti a1 a2 m1 m2 hx hy fun h' b1 b3 b4 b5 b6 b7=>?_
  obtain ⟨t1,t2,t3⟩:=tl fun c o c1 c2 c3 c4 e=>b7 c o c1 c3 c4 e
  exact hQ h' ⟨.inr ⟨_,true,_,b1,b7 T _ (Nat.ne_of_gt (Nat.lt_of_lt_of_le lt.1 Ej)) (Nat.ne_of_gt (Nat.lt_of_lt_of_le lt.2.2.1 Ej)) (Nat.ne_of_gt (Nat.lt_of_lt_of_le lt.2.2.2 Ej)) hT,Ej⟩,t3,b3,b4,t1,t2⟩ b5 b6 fun c o c1 c2 c3 c4 e=>b7 c o c1 c3 c4 e
theorem jA.fin {N0:Nat} {z TI TO i1 i2 l1 l2:Addr} {i:Nat} {xs ys:Array Value} {Q:Option Value→Shared→Prop} (hh:A.handled=none) (D:ZipApart z TI TO i1 i2 l1 l2)
 (Z:jA N0 xs ys z TI TO i1 i2 l1 l2 i s.heap) (hend:xs[i]?=none∨ys[i]?=none)
 (hQ:∀ h',(∀ c o,c≠z→c≠TO→c≠i1→c≠i2→s.heap.get? c=some o→h'.get? c=some o)→Q none { s with heap:=h' }):wpAny (model prog w) A (pyNext (.ref z)) Q E s:=by
 obtain ⟨st,ti,a1,a2,m1,m2⟩:=Z
 rcases st with ⟨hz,a,b,hTO⟩ | ⟨T,f,oT,hz,hT,Ej⟩
 ·exact wpAny_pyNext_zip_end hh D hz ti hTO a1 a2 m1 m2 hend hQ
 ·exact Bw hh D hz hT ti a1 a2 m1 m2 hend fun h' k=>hQ h' fun c o c1 _ c3 c4 e=>k c o c1 c3 c4 e
theorem jA.keep {N0:Nat} {z TI TO i1 i2 l1 l2 S:Addr} {i:Nat} {xs ys:Array Value} {h h':Heap} (Z:jA N0 xs ys z TI TO i1 i2 l1 l2 i h) (hS:S < N0) (ne:S≠z∧S≠TI∧S≠TO∧S≠i1∧S≠i2∧S≠l1∧S≠l2)
 (k:∀ c o,c≠S→h.get? c=some o→h'.get? c=some o):jA N0 xs ys z TI TO i1 i2 l1 l2 i h':=by
 obtain ⟨st,ti,a1,a2,m1,m2⟩:=Z
 obtain ⟨n1,n2,n3,n4,n5,n6,n7⟩:=ne
 refine ⟨?_,k _ _ n2.symm ti,a1.at fun o e=>k _ o n4.symm e,a2.at fun o e=>k _ o n5.symm e,?_,?_⟩
 ·rcases st with ⟨hz,a,b,hTO⟩ | ⟨T,f,oT,hz,hT,Ej⟩
  ·exact .inl ⟨k _ _ n1.symm hz,a,b,k _ _ n3.symm hTO⟩
  ·exact .inr ⟨T,f,oT,k _ _ n1.symm hz,k _ _ (Nat.ne_of_gt (Nat.lt_of_lt_of_le hS Ej)) hT,Ej⟩
 ·obtain ⟨o,e,r⟩:=m1;exact ⟨o,k _ _ n6.symm e,r⟩
 ·obtain ⟨o,e,r⟩:=m2;exact ⟨o,k _ _ n7.symm e,r⟩
def dc (N0:Nat) (xs ys:Array Value) (h:Heap) (acc:Array Value) (i:Nat):Prop:=
 acc.size=i∧(∀ j x y,j < i→xs[j]?=some x→ys[j]?=some y→∃ p,acc[j]?=some (.ref p)∧IsPair h p x y∧N0≤p)∧acc.toList.Nodup
theorem dc.keep {N0:Nat} {xs ys:Array Value} {h h':Heap} {acc:Array Value} {i:Nat} (P:dc N0 xs ys h acc i) (k:∀ c o,N0≤c→h.get? c=some o→h'.get? c=some o):dc N0 xs ys h' acc i:=
 ⟨P.1,(fun j x y hj hx hy=>by obtain ⟨p,e1,e2,e3⟩:=P.2.1 j x y hj hx hy;exact ⟨p,e1,k p _ e3 e2,e3⟩),P.2.2⟩
theorem dc.push {N0:Nat} {xs ys:Array Value} {h:Heap} {acc:Array Value} {i:Nat} {x y:Value} {p:Addr} (P:dc N0 xs ys h acc i) (hx:xs[i]?=some x) (hy:ys[i]?=some y) (hp:IsPair h p x y) (hN:N0≤p) (hnew:Value.ref p∉acc.toList):dc N0 xs ys h (acc.push (.ref p)) (i+1):=by
 refine ⟨by rw [Array.size_push,P.1],fun j u v hj hu hv=>?_,by rw [Array.toList_push,List.nodup_append];exact ⟨P.2.2,by simp,fun a ha b hb e=>by rw [List.mem_singleton.mp hb] at e;rw [e] at ha;exact hnew ha⟩⟩
 by_cases e:j=i
 ·subst e
  rw [hx] at hu;rw [hy] at hv
  cases hu;cases hv
  refine ⟨p,?_,hp,hN⟩
  have:=P.1
  subst this
  exact Array.getElem?_push_size
 ·obtain ⟨q,e1,e2,e3⟩:=P.2.1 j u v (by omega) hu hv
  refine ⟨q,?_,e2,e3⟩
  rw [Array.getElem?_push,if_neg (by rw [P.1];exact e)]
  exact e1
variable {R:Result→Shared→Prop}
theorem Bx {N0:Nat} {z TI TO i1 i2 l1 l2 S:Addr} {xs ys:Array Value} (hh:A.in1.handled=none) (D:ZipApart z TI TO i1 i2 l1 l2) (lt:z < N0∧TO < N0∧i1 < N0∧i2 < N0) (Ek:S < N0) (ne:S≠z∧S≠TI∧S≠TO∧S≠i1∧S≠i2∧S≠l1∧S≠l2) (n:Nat) (hn:n=min xs.size ys.size) (hsz:n≤sizeLine) (res:Value) :
 ∀ (k i:Nat) (s:Shared) (acc:Array Value) (c:Nat),n - i=k→i≤n→N0≤s.heap.objs.size→jA N0 xs ys z TI TO i1 i2 l1 l2 i s.heap→s.heap.get? S=some { cls:= .type "list",dict:=none,data:= .seq acc c,slots:= #[] }→dc N0 xs ys s.heap acc i→
 (∀ h' acc' c',(∀ b o,b≠S→b≠z→b≠TO→b≠i1→b≠i2→s.heap.get? b=some o→h'.get? b=some o)→h'.get? S=some { cls:= .type "list",dict:=none,data:= .seq acc' c',slots:= #[] }→dc N0 xs ys h' acc' n→R (.ok (.ret res)) { s with heap:=h' })→
 codeAny (model prog w) A (.builtin "list.extend.loop" ⟨[.ref S,.ref z,res],[]⟩) R s:=by
 obtain ⟨n1,n2,n3,n4,n5,n6,n7⟩:=id ne
 intro k
 induction k with
 | zero=>
   intro i s acc c hk hi hN Z hS hP hR
   have hin:i=n:=by omega
   refine codeAny_builtin F.entry_extend_loop ?_
   rw [Around.under_plainId F.plain_extend_loop _]
   show wpAny _ A.in1 (pyNext (.ref z) >>= _) _ _ s
   have hend:xs[i]?=none∨ys[i]?=none:=by
    rcases Nat.le_total xs.size ys.size with q | q
    ·left;rw [Array.getElem?_eq_none];omega
    ·right;rw [Array.getElem?_eq_none];omega
   refine wpAny_bind (Z.fin hh D hend fun h' kp=>?_)
   subst hin
   refine wpAny_pure (hR h' acc c (fun b o b1 b2 b3 b4 b5 e=>kp b o b2 b3 b4 b5 e) (kp S _ n1 n3 n4 n5 hS) (hP.keep fun c o hc e=>kp c o ?_ ?_ ?_ ?_ e))
   ·exact Nat.ne_of_gt (Nat.lt_of_lt_of_le lt.1 hc)
   ·exact Nat.ne_of_gt (Nat.lt_of_lt_of_le lt.2.1 hc)
   ·exact Nat.ne_of_gt (Nat.lt_of_lt_of_le lt.2.2.1 hc)
   ·exact Nat.ne_of_gt (Nat.lt_of_lt_of_le lt.2.2.2 hc)
 | succ k ih=>
   intro i s acc c hk hi hN Z hS hP hR
   have hlt:i < n:=by omega
   have lx:i < xs.size:=by omega
   have ly:i < ys.size:=by omega
   refine codeAny_builtin F.entry_extend_loop ?_
   rw [Around.under_plainId F.plain_extend_loop _]
   show wpAny _ A.in1 (pyNext (.ref z) >>= _) _ _ s
   have hx:xs[i]?=some xs[i]:=Array.getElem?_eq_getElem lx
   have hy:ys[i]?=some ys[i]:=Array.getElem?_eq_getElem ly
   refine wpAny_bind (Z.next D hN lt hx hy fun h' Z' hp hz' kp=>?_)
   have hS':=kp S _ n1 n3 n4 n5 hS
   have Og:dc N0 xs ys h' acc i:=hP.keep fun c o hc e=>kp c o (Nat.ne_of_gt (Nat.lt_of_lt_of_le lt.1 hc)) (Nat.ne_of_gt (Nat.lt_of_lt_of_le lt.2.1 hc)) (Nat.ne_of_gt (Nat.lt_of_lt_of_le lt.2.2.1 hc)) (Nat.ne_of_gt (Nat.lt_of_lt_of_le lt.2.2.2 hc)) e
   have hnew:Value.ref s.heap.objs.size∉acc.toList:=fun hm=>by
    obtain ⟨j,hj,ej⟩:=List.mem_iff_getElem.mp hm
    have hj':j < acc.size:=by simpa using hj
    have hji:j < i:=by rw [← hP.1];exact hj'
    have gx:xs[j]?=some xs[j]:=Array.getElem?_eq_getElem (by omega)
    have gy:ys[j]?=some ys[j]:=Array.getElem?_eq_getElem (by omega)
    obtain ⟨q,e1,e2,e3⟩:=hP.2.1 j _ _ hji gx gy
    rw [Array.getElem?_eq_getElem hj'] at e1
    have e4:acc[j]=Value.ref s.heap.objs.size:=by rw [← ej];simp
    rw [e4] at e1
    have e5:s.heap.objs.size=q:=by injection Option.some.inj e1
    have:=Heap.lt_size e2
    rw [← e5] at this
    exact Nat.lt_irrefl _ this
   show wpAny _ A.in1 (updateSeq S (·.push (.ref s.heap.objs.size)) >>= _) _ _ _
   refine wpAny_bind ?_
   have up:∀ b o,b≠S→h'.get? b=some o→(h'.update S (Obj.mapSeq (·.push (.ref s.heap.objs.size)))).get? b=some o:=fun b o hb e=>(Heap.get?_update_other _ _ (Ne.symm hb)).trans e
   refine wpAny_updateSeq hS' rfl (wpAny_pure ⟨plainId_quiet F.plain_extend_loop _,ih (i+1) _ (acc.push (.ref s.heap.objs.size)) _ (by omega) hlt ?_ (Z'.keep Ek ne fun c o hc e=>up c o hc e) (Heap.get?_update_self _ hS' rfl)
    ((Og.push hx hy hp hN hnew).keep fun c o hc e=>up c o (Nat.ne_of_gt (Nat.lt_of_lt_of_le Ek hc)) e) fun h'' acc' c' Ll Lm Ln=>?_⟩) (by rw [hP.1];omega) (by show (acc.push _).size≤sizeLine+1;rw [Array.size_push,hP.1];omega)
   ·show N0≤(h'.update S _).objs.size
    have:(h'.update S (Obj.mapSeq (·.push (.ref s.heap.objs.size)))).objs.size=h'.objs.size:=(Heap.SameBut.update ..).1
    omega
   ·exact hR h'' acc' c' (fun b o b1 b2 b3 b4 b5 e=>Ll b o b1 b2 b3 b4 b5 (up b o b1 (kp b o b2 b3 b4 b5 e))) Lm Ln
theorem xm:typeLookup (.type "zip") "__len__" =pure none:=by rw [typeLookup_type,builtinLookup_eq_fast];kernel_rfl
theorem vL:typeLookup (.type "zip") "__length_hint__" =pure none:=by rw [typeLookup_type,builtinLookup_eq_fast];kernel_rfl
theorem xo {N0:Nat} {z TI TO i1 i2 l1 l2 S:Addr} {xs ys:Array Value} {c₀:Nat} (hh:A.in1.handled=none) (D:ZipApart z TI TO i1 i2 l1 l2) (lt:z < N0∧TO < N0∧i1 < N0∧i2 < N0) (Ek:S < N0) (ne:S≠z∧S≠TI∧S≠TO∧S≠i1∧S≠i2∧S≠l1∧S≠l2) (n:Nat) (hn:n=min xs.size ys.size) (hsz:n≤sizeLine) (res:Value)
 (hN:N0≤s.heap.objs.size) (Z:jA N0 xs ys z TI TO i1 i2 l1 l2 0 s.heap) (hz:IsZip s.heap z TI TO .none) (hS:s.heap.get? S=some { cls:= .type "list",data:= .seq #[] c₀ })
 (hR:∀ h' acc' c',(∀ b o,b≠S→b≠z→b≠TO→b≠i1→b≠i2→s.heap.get? b=some o→h'.get? b=some o)→h'.get? S=some { cls:= .type "list",dict:=none,data:= .seq acc' c',slots:= #[] }→dc N0 xs ys h' acc' n→R (.ok (.ret res)) { s with heap:=h' }) :
 wpAny (model prog w) A.in1 (Builtin.List.listExtendWith (.ref S) (.ref z) res)
  (fun fin s'=>match fin with | .done f=>R (.ok f) s' | .again c'=>c'.quiet=true∧codeAny (model prog w) A c' R s') (fun e s'=>R (.error e) s') s:=by
 have hTy:s.TypeIs (.ref z) "zip" :=⟨_,hz,rfl⟩
 unfold Builtin.List.listExtendWith
 refine wpAny_bind (wpAny_typeOf hTy ?_)
 have h1:Builtin.List.listSameRef (.ref S) (.ref z)=false:=by simp [Builtin.List.listSameRef,ne.1]
 have h2:(Value.type "zip" == Value.type "list")=false:=by decide
 have h3:(Value.type "zip" == Value.type "tuple")=false:=by decide
 simp only [h1,h2,h3,Bool.or_false,Bool.false_eq_true,if_false]
 refine wpAny_bind (wpAny_pyIter_zip hz ?_)
 refine wpAny_bind (wpAny_holding ?_)
 unfold Builtin.List.listLengthHint
 refine wpAny_bind (wpAny_specialOf hTy xm ?_)
 show wpAny _ A.in1 (specialOf (Value.ref z) (Str.ofString "__length_hint__") >>= _) _ _ _
 refine wpAny_bind (wpAny_specialOf hTy vL ?_)
 refine wpAny_pure ?_
 show wpAny _ A.in1 (rule "list.extend.makes-room" >>= fun _=>Builtin.List.listTouch (.ref S) >>= fun _=>
  again (.builtin "list.extend.loop" ⟨[.ref S,.ref z,res],[]⟩)) _ _ _
 refine wpAny_bind (wpAny_rule ?_)
 refine wpAny_bind ?_
 show wpAny _ A.in1 (updateSeq S (·.push .none) >>= fun _=>updateSeq S (·.pop)) _ _ _
 refine wpAny_bind (wpAny_updateSeq hS rfl ?_)
 have GW:=Heap.get?_update_self (Obj.mapSeq (·.push Value.none)) hS rfl
 refine wpAny_updateSeq (hz:=by seq_fits) GW rfl ?_
 have Oh:=Heap.get?_update_self (Obj.mapSeq (·.pop)) GW rfl
 have Dk:∀ b o,b≠S→s.heap.get? b=some o→((s.heap.update S (Obj.mapSeq (·.push Value.none))).update S (Obj.mapSeq (·.pop))).get? b=some o:=
  fun b o hb e=>(Heap.get?_update_other _ _ (Ne.symm hb)).trans ((Heap.get?_update_other _ _ (Ne.symm hb)).trans e)
 have Lo:((s.heap.update S (Obj.mapSeq (·.push Value.none))).update S (Obj.mapSeq (·.pop))).objs.size=s.heap.objs.size:=by
  rw [(Heap.SameBut.update ..).1,(Heap.SameBut.update ..).1]
 refine wpAny_pure ⟨plainId_quiet F.plain_extend_loop _,Bx hh D lt Ek ne n hn hsz res n 0 _ _ _ rfl (Nat.zero_le _) (Nat.le_trans hN (Nat.le_of_eq Lo.symm)) (Z.keep Ek ne fun c o hc e=>Dk c o hc e) Oh ⟨rfl,(fun j x y hj=>absurd hj (Nat.not_lt_zero _)),List.nodup_nil⟩ fun h' acc' c' kp hS' hP=>?_⟩
 exact hR h' acc' c' (fun b o b1 b2 b3 b4 b5 e=>kp b o b1 b2 b3 b4 b5 (Dk b o b1 e)) hS' hP
theorem rf {N0:Nat} {z TI TO i1 i2 l1 l2 S:Addr} {xs ys:Array Value} (hh:A.in1.handled=none) (D:ZipApart z TI TO i1 i2 l1 l2) (lt:z < N0∧TO < N0∧i1 < N0∧i2 < N0) (Ek:S < N0) (ne:S≠z∧S≠TI∧S≠TO∧S≠i1∧S≠i2∧S≠l1∧S≠l2) (n:Nat) (hn:n=min xs.size ys.size) (hsz:n≤sizeLine)
 (hN:N0≤s.heap.objs.size) (Z:jA N0 xs ys z TI TO i1 i2 l1 l2 0 s.heap) (hz:IsZip s.heap z TI TO .none) (hS:s.heap.get? S=some { cls:= .type "list",data:= .seq #[] })
 (hR:∀ h' acc' c',(∀ b o,b≠S→b≠z→b≠TO→b≠i1→b≠i2→s.heap.get? b=some o→h'.get? b=some o)→h'.get? S=some { cls:= .type "list",dict:=none,data:= .seq acc' c',slots:= #[] }→dc N0 xs ys h' acc' n→R (.ok (.ret .none)) { s with heap:=h' }) :
 wpAny (model prog w) A.in1 (Builtin.«list.__init__» ⟨[.ref S,.ref z],[]⟩)
  (fun fin s'=>match fin with | .done f=>R (.ok f) s' | .again c'=>c'.quiet=true∧codeAny (model prog w) A c' R s') (fun e s'=>R (.error e) s') s:=by
 show wpAny _ A.in1 (do let old ← Builtin.List.listItems (.ref S);Builtin.List.listUpdate (.ref S) (fun _=> #[]);letGo old.toList.reverse;Builtin.List.listExtendWith (.ref S) (.ref z) .none) _ _ s
 refine wpAny_bind ?_
 unfold Builtin.List.listItems
 refine wpAny_bind (wpAny_seqItems hS rfl (wpAny_pure ?_))
 show wpAny _ A.in1 (updateSeq S (fun _=> #[]) >>= fun _=>letGo (#[]:Array Value).toList.reverse >>= fun _=>Builtin.List.listExtendWith (.ref S) (.ref z) .none) _ _ s
 refine wpAny_bind (wpAny_updateSeq hS rfl ?_)
 have GW:=Heap.get?_update_self (Obj.mapSeq (fun _=>(#[]:Array Value))) hS rfl
 have Dk:∀ b o,b≠S→s.heap.get? b=some o→(s.heap.update S (Obj.mapSeq (fun _=>(#[]:Array Value)))).get? b=some o:=
  fun b o hb e=>(Heap.get?_update_other _ _ (Ne.symm hb)).trans e
 have Lo:(s.heap.update S (Obj.mapSeq (fun _=>(#[]:Array Value)))).objs.size=s.heap.objs.size:=(Heap.SameBut.update ..).1
 refine wpAny_bind (wpAny_letGo ?_)
 refine xo hh D lt Ek ne n hn hsz .none (Nat.le_trans hN (Nat.le_of_eq Lo.symm)) (Z.keep Ek ne fun c o hc e=>Dk c o hc e) (Dk _ _ ne.1.symm hz) GW fun h' acc' c' kp hS' hP=>?_
 exact hR h' acc' c' (fun b o b1 b2 b3 b4 b5 e=>kp b o b1 b2 b3 b4 b5 (Dk b o b1 e)) hS' hP
theorem ri {z TI TO i1 i2 l1 l2:Addr} {xs ys:Array Value} {Q:Value→Shared→Prop} (hh:A.in1.in1.handled=none) (D:ZipApart z TI TO i1 i2 l1 l2)
 (lt:z < s.heap.objs.size∧TI < s.heap.objs.size∧TO < s.heap.objs.size∧i1 < s.heap.objs.size∧i2 < s.heap.objs.size∧l1 < s.heap.objs.size∧l2 < s.heap.objs.size) (n:Nat) (hn:n=min xs.size ys.size) (hsz:n≤sizeLine)
 (hz:IsZip s.heap z TI TO .none) (hTI:IsPair s.heap TI (.ref i1) (.ref i2)) {a b:Value} (hTO:IsPair s.heap TO a b) (h1:s.heap.IsListIter i1 l1 0) (h2:s.heap.IsListIter i2 l2 0) (hl1:s.heap.IsList l1 xs) (hl2:s.heap.IsList l2 ys)
 (hQ:∀ h' acc' c',(∀ b o,b≠z→b≠TO→b≠i1→b≠i2→s.heap.get? b=some o→h'.get? b=some o)→h'.get? s.heap.objs.size=some { cls:= .type "list",dict:=none,data:= .seq acc' c',slots:= #[] }→dc (s.heap.objs.size+1) xs ys h' acc' n→Q (.ref s.heap.objs.size) { s with heap:=h' }) :
 wpAny (model prog w) A (call (.type "list") [.ref z]) Q E s:=by
 obtain ⟨q1,q2,q3,q4,q5,q6,q7⟩:=lt
 refine callType_codes (Q₁:=fun obj s₁=>obj= .ref s.heap.objs.size∧s₁= { s with heap:=s.heap.push { cls:= .type "list",data:= .seq #[] } }) F.called_list (F.typeCall_list_1 _) F.entry_list_init
  (code_list_new _ ⟨rfl,rfl⟩) fun obj s₁ h₁=>?_
 obtain ⟨rfl,rfl⟩:=h₁
 have hS:(s.heap.push { cls:= .type "list",data:= .seq #[] }).get? s.heap.objs.size=some { cls:= .type "list",data:= .seq #[] }:=Heap.get?_push_size _ rfl
 have up:∀ c o,s.heap.get? c=some o→(s.heap.push { cls:= .type "list",data:= .seq #[] }).get? c=some o:=fun c o e=>Heap.get?_push_of_some _ e
 have Z:jA (s.heap.objs.size+1) xs ys z TI TO i1 i2 l1 l2 0 (s.heap.push { cls:= .type "list",data:= .seq #[] }):=
  ⟨.inl ⟨up _ _ hz,a,b,up _ _ hTO⟩,up _ _ hTI,h1.at fun o e=>up _ o e,h2.at fun o e=>up _ o e,(by obtain ⟨o,e,r⟩:=hl1;exact ⟨o,up _ _ e,r⟩),(by obtain ⟨o,e,r⟩:=hl2;exact ⟨o,up _ _ e,r⟩)⟩
 refine ⟨⟨_,hS,rfl⟩,F.args_list_init_2 _ _,rf (N0:=s.heap.objs.size+1) hh D ⟨Nat.lt_succ_of_lt q1,Nat.lt_succ_of_lt q3,Nat.lt_succ_of_lt q4,Nat.lt_succ_of_lt q5⟩ (Nat.lt_succ_self _) ⟨Nat.ne_of_gt q1,Nat.ne_of_gt q2,Nat.ne_of_gt q3,Nat.ne_of_gt q4,Nat.ne_of_gt q5,Nat.ne_of_gt q6,Nat.ne_of_gt q7⟩ n hn hsz
  (by show s.heap.objs.size+1≤(Heap.push _ _).objs.size;rw [Heap.size_push];exact Nat.le_refl _) Z (up _ _ hz) hS fun h' acc' c' kp hS' hP=>?_⟩
 exact ⟨rfl,hQ h' acc' c' (fun b o b2 b3 b4 b5 e=>kp b o (Nat.ne_of_lt (Heap.lt_size e)) b2 b3 b4 b5 (up b o e)) hS' hP⟩
end
end PySem
namespace L2
open PySem PySem.Spec PyProof.Rows
section
variable {X:Cx} {pins:List (Addr ×Obj)} {σ:St} {H:Hp} {s:Shared}
theorem Inv.named {a:Addr} {o:HO} (I:Inv X pins σ H s) (f:jF X pins H a) (new:dj X.prog X.w (upd H a o) s.heap a o):Inv X pins σ (upd H a o) s:=by
 obtain ⟨f0,f1,f2,f3,f4,f5⟩:=f
 have nn:∀ b u,H b=some u→b≠a:=fun b u e z=>by rw [z,f0] at e;cases e
 have hok:jN X.prog X.w (upd H a o) s.heap:=fun b u e=>by
  by_cases hb:b=a
  ·subst hb;rw [dW] at e;cases e;exact new
  ·rw [aY hb] at e
   exact (I.hok b u e).stay (fun c v _ q=>q) (fun c q=>by rw [aY (nn _ _ q)];exact q) fun c xs q=>by rw [aY (nn _ _ q)];exact q
 exact I.step (h':=s.heap) (g':=s.gens) (d':=s.drawn) (t':=s.toks) (ch:=[a]) (fun b hb=>by rw [List.mem_singleton.mp hb];exact ⟨f3,f1,f4,f5⟩) (fun b o _ _ _ e _=>e) (fun b o _ _ _ e _=>⟨o.slots,e⟩) (fun b o hc e n=>by rw [aY (by simpa using hc)];exact n)
  (fun b o _ e=>⟨o,e⟩) (fun b xs e=>by rw [aY (nn _ _ e)];exact e) (fun b o u e=>by rw [aY (nn _ _ e)];exact e) (fun b ps e=>⟨#[],by rw [aY (nn _ _ e),e];simp⟩) (fun m hm=>hm) hok I.bare
end
end L2
namespace L3
open PySem PySem.Spec PyProof.Rows L2
section
variable {X:Cx} {pins:List (Addr ×Obj)} {σ:St} {s:Shared}
theorem qf:∀ (L:List (Addr ×V ×V)) {H:Hp},Inv X pins σ H s→(L.map (·.1)).Nodup→(∀ q∈L,jF X pins H q.1∧∃ u v,RelV q.2.1 u∧RelV q.2.2 v∧IsPair s.heap q.1 u v)→
 ∃ H',Inv X pins σ H' s∧(∀ b o,H b=some o→H' b=some o)∧(∀ b,b∉L.map (·.1)→H' b=H b)∧∀ q∈L,H' q.1=some (.tup [q.2.1,q.2.2])
 | [],H,I,_,_=>⟨H,I,fun _ _ e=>e,fun _ _=>rfl,fun q hq=>by cases hq⟩
 | (p,x,y) :: L,H,I,nd,h=>by
   obtain ⟨f,u,v,ru,rv,hp⟩:=h (p,x,y) (by simp)
   rw [List.map_cons,List.nodup_cons] at nd
   have I1:Inv X pins σ (upd H p (.tup [x,y])) s:=I.named f ⟨by rw [sizeLine_eq];show 2≤16777216;decide,[u,v],.cons ru (.cons rv .nil),⟨_,hp,rfl,_,rfl⟩⟩
   obtain ⟨H',I',k1,k2,k3⟩:=qf L I1 nd.2 fun q hq=>by
    obtain ⟨⟨f0,fr⟩,r⟩:=h q (List.mem_cons_of_mem _ hq)
    refine ⟨⟨?_,fr⟩,r⟩
    rw [aY (fun z=>nd.1 (List.mem_map.mpr ⟨q,hq,z⟩))]
    exact f0
   refine ⟨H',I',fun b o e=>k1 b o (by rw [aY (bV e f.1)];exact e),fun b hb=>?_,fun q hq=>?_⟩
   ·rw [List.map_cons,List.mem_cons,not_or] at hb
    rw [k2 b hb.2,aY hb.1]
   ·rcases List.mem_cons.mp hq with e | e
    ·rw [e];exact k1 p _ dW
    ·exact k3 q e
theorem sP:∀ (ps:List Addr),Vals (ps.map V.ref) (ps.map Value.ref)
 | []=> .nil
 | p :: ps=> .cons rfl (sP ps)
theorem oE {K:PySem.W.Frag} {H:Hp}:∀ {ds:List D} {xs:List V},ds.length=xs.length→(∀ (i:Nat) (d:D),ds[i]?=some d→∃ v,xs[i]?=some v∧Dat K H d v)→aG K H ds xs
 | [],[],_,_=>aP.mpr rfl
 | d :: ds,x :: xs,hl,h=>by
   obtain ⟨v,e,hv⟩:=h 0 d rfl
   cases e
   exact aH.mpr ⟨x,xs,rfl,hv,oE (by simpa using hl) fun i d e=>h (i+1) d e⟩
 | [],_ :: _,hl,_=>by cases hl
 | _ :: _,[],hl,_=>by cases hl
end
section
variable {X:Cx} {pos:Pos}
def IL (t:qQ):c6:=fun ρ M Q=>t ρ M fun vs M1=> ∃ a b xs ys,vs= [.ref a,.ref b]∧M1 a=some (.lst xs)∧M1 b=some (.lst ys)∧∀ p,M1 p=none→Q (.ref p) (aC M1 p (.lst (List.zipWith pairD xs ys)))
theorem zL {e1 e2:Expr} {t:qQ} {p1 p2 pos2:Pos} (hc:X.calm=true) (FJ:Gl X "list") (hml:X.mg "list" =none) (Oi:Gl X "zip") (Oj:X.mg "zip" =none) (ha:wV X [e1,e2] t)
 (st1:starEach [e1,e2] X.env=(false,eval e1 X.env) :: starEach [e2] X.env:=by rfl) (hpl:(backTo pos2 (starEach [e2] X.env)).any (·.1)=false:=by rfl)
 (s2:starEach [.Call (.Name "zip" p2) [e1,e2] [] pos2] X.env= [(false,eval (.Call (.Name "zip" p2) [e1,e2] [] pos2) X.env)]:=by rfl) :
 cN X (.Call (.Name "list" p1) [.Call (.Name "zip" p2) [e1,e2] [] pos2] [] pos) (IL t):=by
 constructor
 intro pins s σ H ρ M Q I r h
 refine wpAny_Call_Name_kw (jO I FJ hml bL ?_ (by decide) (by decide))
 refine PyProof.Rows.callWith_type1 (Q:=EP X pins σ (Post X.K M H Q)) ?_ (by rw [s2];rfl) (by rfl)
 rw [s2]
 show wpAny _ _ (spliced ((false,eval (.Call (.Name "zip" p2) [e1,e2] [] pos2) X.env) :: backTo pos [])) _ _ s
 refine Calls.spliced_cons ?_
 refine wpAny_Call_Name_kw (jO I Oi Oj zJ ?_ (by decide) (by decide))
 refine PyProof.Rows.callWith_type1 (cZ (ha.run pos2 pins s σ H ρ M _ I r h) fun us s1 hq=>?_) st1 hpl
 obtain ⟨vs,H1,I1,r1,ds,M1,f1,dv,nj,a,b,xs,ys,e,Ol,Om,q⟩:=hq
 subst e
 obtain ⟨v,u,rfl,hv,hu⟩:=vv dv
 obtain rfl:=aV.mp hv
 obtain rfl:=aV.mp hu
 obtain ⟨u1,u2,rfl,ra,rb⟩:=vals2 r1
 obtain rfl:u1=Value.ref a:=ra
 obtain rfl:u2=Value.ref b:=rb
 obtain ⟨zs,Oo,dz⟩:=nj.lst Ol
 obtain ⟨ws,Oq,dw⟩:=nj.lst Om
 obtain ⟨its,rv,pl,hz1⟩:=I1.list (jw.of Oo)
 obtain ⟨JB,rw',Lp,hz2⟩:=I1.list (jw.of Oq)
 have la:a < s1.heap.objs.size:=by obtain ⟨o,e,_⟩:=pl.isList;exact Heap.lt_size e
 have lb:b < s1.heap.objs.size:=by obtain ⟨o,e,_⟩:=Lp.isList;exact Heap.lt_size e
 refine call_zip_2 pl.isList Lp.isList fun h' hz hTI hTO h1 h2 hsz kp=>Calls.spliced_nil ?_
 have na:∀ k,a≠s1.heap.objs.size+k:=fun k=>Nat.ne_of_lt (Nat.lt_of_lt_of_le la (Nat.le_add_right _ _))
 have nb:∀ k,b≠s1.heap.objs.size+k:=fun k=>Nat.ne_of_lt (Nat.lt_of_lt_of_le lb (Nat.le_add_right _ _))
 have nn:∀ j k:Nat,j≠k→s1.heap.objs.size+j≠s1.heap.objs.size+k:=fun j k h e=>h (Nat.add_left_cancel e)
 have D:ZipApart (s1.heap.objs.size+4) (s1.heap.objs.size+2) (s1.heap.objs.size+3) s1.heap.objs.size (s1.heap.objs.size+1) a b:=
  ⟨nn 2 4 (by decide),nn 3 4 (by decide),nn 0 4 (by decide),nn 1 4 (by decide),nn 2 3 (by decide),nn 2 0 (by decide),nn 2 1 (by decide),nn 3 0 (by decide),nn 3 1 (by decide),nn 0 1 (by decide),na 4,na 3,na 0,na 1,nb 4,nb 3,nb 0,nb 1⟩
 have lz:=rv.length
 have lw:=rw'.length
 refine ri (s:={ s1 with heap:=h' }) (show _ from I.ok.hd hc) D (by show _ < h'.objs.size∧_;rw [hsz];exact ⟨Nat.add_lt_add_left (by decide) _,Nat.add_lt_add_left (by decide) _,Nat.add_lt_add_left (by decide) _,Nat.lt_add_of_pos_right (by decide),Nat.add_lt_add_left (by decide) _,Nat.lt_of_lt_of_le la (Nat.le_add_right _ _),Nat.lt_of_lt_of_le lb (Nat.le_add_right _ _)⟩) (min its.toArray.size JB.toArray.size) rfl (by simp only [List.size_toArray];omega) hz hTI hTO h1 h2
  (by obtain ⟨o,e,r⟩:=pl.isList;exact ⟨o,kp _ _ e,r⟩) (by obtain ⟨o,e,r⟩:=Lp.isList;exact ⟨o,kp _ _ e,r⟩) fun h'' acc c FP hS hP=>?_
 have hS:h''.get? (s1.heap.objs.size+5)=some { cls:= .type "list",dict:=none,data:= .seq acc c,slots:= #[] }:=by rw [← hsz];exact hS
 have hP:dc (s1.heap.objs.size+6) its.toArray JB.toArray h'' acc (min its.toArray.size JB.toArray.size):=by
  have e:s1.heap.objs.size+6=h'.objs.size+1:=by rw [hsz]
  rw [e];exact hP
 have en:min its.toArray.size JB.toArray.size=min zs.length ws.length:=by simp only [List.size_toArray];omega
 rw [en] at hP
 have I2:Inv X pins σ H1 { s1 with heap:=h',toks:=s1.toks }:=I1.kept (t':=s1.toks) kp
 have fz:∀ {H':Hp} {b:Addr},s1.heap.objs.size≤b→H' b=none→jF X pins H' b:=fun hb hn=>I1.Ay hb hn
 have I3:Inv X pins σ H1 { s1 with heap:=h'',toks:=s1.toks }:=Inv.Dm (s:={ s1 with heap:=h',toks:=s1.toks }) (h':=h'') (t':=s1.toks) (fp:=[s1.heap.objs.size+4,s1.heap.objs.size+3,s1.heap.objs.size,s1.heap.objs.size+1]) I2
  (fun b o hb e=>by
   have nb:b≠s1.heap.objs.size+4∧b≠s1.heap.objs.size+3∧b≠s1.heap.objs.size∧b≠s1.heap.objs.size+1:=by simpa using hb
   exact FP b o nb.1 nb.2.1 nb.2.2.1 nb.2.2.2 e)
  (fun b hb=>by
   have hle:s1.heap.objs.size≤b:=by
    simp only [List.mem_cons,List.not_mem_nil,or_false] at hb
    rcases hb with rfl | rfl | rfl | rfl
    ·exact Nat.le_add_right _ _
    ·exact Nat.le_add_right _ _
    ·exact Nat.le_refl _
    ·exact Nat.le_add_right _ _
   exact fz hle (I1.hok.fresh hle))
 have key:∀ j,j < min zs.length ws.length→∃ x y u v p,zs[j]?=some x∧ws[j]?=some y∧RelV x u∧RelV y v∧acc[j]?=some (.ref p)∧IsPair h'' p u v∧s1.heap.objs.size+6≤p:=fun j hj=>by
  have gx:zs[j]?=some (zs[j]'(by omega)):=List.getElem?_eq_getElem (by omega)
  have gy:ws[j]?=some (ws[j]'(by omega)):=List.getElem?_eq_getElem (by omega)
  obtain ⟨u,hu,ru⟩:=rv.get gx
  obtain ⟨v,hv,Jz⟩:=rw'.get gy
  obtain ⟨p,a1,a2,a3⟩:=hP.2.1 j u v hj (by simpa using hu) (by simpa using hv)
  exact ⟨_,_,u,v,p,gx,gy,ru,Jz,a1,a2,a3⟩
 generalize hm:min zs.length ws.length=m at *
 let pj:Nat→Addr:=fun j=>match acc[j]? with | some (.ref p)=>p | _=>0
 have Lq:∀ j,j < m→∃ x y u v,zs[j]?=some x∧ws[j]?=some y∧RelV x u∧RelV y v∧acc[j]?=some (.ref (pj j))∧IsPair h'' (pj j) u v∧s1.heap.objs.size+6≤pj j:=fun j hj=>by
  obtain ⟨x,y,u,v,p,a1,a2,a3,a4,a5,a6,a7⟩:=key j hj
  have e:pj j=p:=by show (match acc[j]? with | some (.ref p)=>p | _=>0)=p;rw [a5]
  rw [e]
  exact ⟨x,y,u,v,a1,a2,a3,a4,a5,a6,a7⟩
 have El:acc.toList=((List.range m).map pj).map Value.ref:=by
  apply List.ext_getElem?
  intro j
  by_cases hj:j < m
  ·obtain ⟨x,y,u,v,a1,a2,a3,a4,a5,a6,a7⟩:=Lq j hj
   rw [Array.getElem?_toList,a5]
   simp [hj]
  ·rw [List.getElem?_eq_none (by simp [hP.1];omega),List.getElem?_eq_none (by simp;omega)]
 have Ot:((List.range m).map pj).Nodup:=by
  have q:=hP.2.2
  rw [El] at q
  exact (List.pairwise_map.mp q).imp fun hne e=>hne (congrArg _ e)
 obtain ⟨H',I4,k1,k2,k3⟩:=qf ((List.range m).map fun j=>(pj j,(zs[j]?).getD .bE,(ws[j]?).getD .bE)) I3 (by rw [List.map_map];exact Ot) (fun q hq=>by
  obtain ⟨j,hj,rfl⟩:=List.mem_map.mp hq
  obtain ⟨x,y,u,v,a1,a2,a3,a4,a5,a6,a7⟩:=Lq j (List.mem_range.mp hj)
  have hle:s1.heap.objs.size≤pj j:=Nat.le_trans (Nat.le_add_right _ _) a7
  refine ⟨fz hle (I1.hok.fresh hle),u,v,?_,?_,a6⟩
  ·show RelV ((zs[j]?).getD .bE) u;rw [a1];exact a3
  ·show RelV ((ws[j]?).getD .bE) v;rw [a2];exact a4)
 have Lr:H' (s1.heap.objs.size+5)=none:=by
  rw [k2 _ (fun hz=>?_)]
  ·exact I1.hok.fresh (Nat.le_add_right _ _)
  ·rw [List.map_map] at hz
   obtain ⟨j,hj,e⟩:=List.mem_map.mp hz
   obtain ⟨x,y,u,v,a1,a2,a3,a4,a5,a6,a7⟩:=Lq j (List.mem_range.mp hj)
   have e:pj j=s1.heap.objs.size+5:=e
   rw [e] at a7
   exact absurd a7 (by omega)
 have hlen:((List.range m).map pj).length≤sizeLine:=by
  rw [List.length_map,List.length_range]
  omega
 have I5:Inv X pins σ (upd H' (s1.heap.objs.size+5) (.lst (((List.range m).map pj).map V.ref))) { s1 with heap:=h'',toks:=s1.toks }:=
  I4.named (fz (Nat.le_add_right _ _) Lr) ⟨by rw [List.length_map];exact hlen,((List.range m).map pj).map Value.ref,c,sP _,by rw [← El];exact hS⟩
 have ev:(Value.ref ({ s1 with heap:=h' }:Shared).heap.objs.size)= .ref (s1.heap.objs.size+5):=by show Value.ref h'.objs.size=_;rw [hsz]
 have Ls:Ext H1 H':=Ext.keep k1
 refine ⟨.ref (s1.heap.objs.size+5),_,I5,ev,.ref _,aC M1 _ (.lst (List.zipWith pairD xs ys)),?_,aV.mpr rfl,(nj.keep k1).newL Lr ?_,q _ ?_⟩
 ·refine f1.trans (Fr.trans (fun b o n e=>⟨k1 b o e,n⟩) (Fr.new Lr fun _ hb=>bC hb))
 ·refine oE (by rw [List.length_zipWith,List.length_map,List.length_map,List.length_range,← hm,dz.length,dw.length]) fun i d hd=>?_
  rw [List.getElem?_zipWith] at hd
  cases hx:xs[i]? with
  | none=>rw [hx] at hd;cases hd
  | some dx=>
    cases hy:ys[i]? with
    | none=>rw [hx,hy] at hd;cases hd
    | some dy=>
      rw [hx,hy] at hd
      have hd:pairD dx dy=d:=Option.some.inj hd
      obtain ⟨x,gx,qx⟩:=dz.get hx
      obtain ⟨y,gy,qy⟩:=dw.get hy
      have hi:i < m:=by
       have i1:=(List.getElem?_eq_some_iff.mp gx).1
       have i2:=(List.getElem?_eq_some_iff.mp gy).1
       omega
      have q3:=k3 (pj i,(zs[i]?).getD .bE,(ws[i]?).getD .bE) (List.mem_map.mpr ⟨i,List.mem_range.mpr hi,rfl⟩)
      rw [gx,gy] at q3
      refine ⟨.ref (pj i),by simp [hi],?_⟩
      rw [← hd]
      exact bP.mpr ⟨pj i,[x,y],rfl,q3,aG.mono Ls _ _ (aH.mpr ⟨x,[y],rfl,qx,aG.one qy⟩)⟩
 ·exact nj.free (I1.hok.fresh (Nat.le_add_right _ _))
end
end L3
namespace L3
open PySem
def iO:List Pl→Pl→List Pl
 | b :: a :: r,p=>if tw a b p < 0 then iO (a :: r) p else b :: a :: r
 | [a],_=>[a]
 | [],_=>[]
def aR (st:List Pl) (p:Pl):List Pl:=p :: iO st p
structure Way where
 al:Int
 be:Int
def Way.f (w:Way) (p:Pl):Int:=w.al*p.x+w.be*p.y
theorem gD (al be ux uy vx vy px py:Int):(al*vx+be*vy)*(ux*py - uy*px)=(al*ux+be*uy)*(vx*py - vy*px)+(al*px+be*py)*(ux*vy - uy*vx):=by grind
theorem nL {a b:Int} (ha:0 < a) (h:0≤a*b):0≤b:=by
 apply Classical.byContradiction
 intro z
 have:a*b < 0:=Int.mul_neg_of_pos_of_neg ha (by omega)
 omega
theorem Dn {a b:Int} (ha:0 < a) (h:0 < a*b):0 < b:=by
 apply Classical.byContradiction
 intro z
 have:a*b≤0:=Int.mul_nonpos_of_nonneg_of_nonpos (by omega) (by omega)
 omega
section
variable {w:Way}
theorem Dp {z a b p:Pl} (h1:w.f z < w.f a) (h2:w.f a < w.f b) (h3:w.f b < w.f p) (t1:0≤tw z a b) (t2:0≤tw a b p):0≤tw z a p:=by
 have key:=gD w.al w.be (a.x - z.x) (a.y - z.y) (b.x - a.x) (b.y - a.y) (p.x - a.x) (p.y - a.y)
 unfold Way.f at h1 h2 h3
 have e1:tw z a b=(a.x - z.x)*(b.y - a.y) - (a.y - z.y)*(b.x - a.x):=by unfold tw;grind
 have e2:tw a b p=(b.x - a.x)*(p.y - a.y) - (b.y - a.y)*(p.x - a.x):=by unfold tw;grind
 have e3:tw z a p=(a.x - z.x)*(p.y - a.y) - (a.y - z.y)*(p.x - a.x):=by unfold tw;grind
 rw [← e1,← e2,← e3] at key
 have fU:0 < w.al*(a.x - z.x)+w.be*(a.y - z.y):=by rw [Int.mul_sub,Int.mul_sub];omega
 have fV:0 < w.al*(b.x - a.x)+w.be*(b.y - a.y):=by rw [Int.mul_sub,Int.mul_sub];omega
 have fP:0 < w.al*(p.x - a.x)+w.be*(p.y - a.y):=by rw [Int.mul_sub,Int.mul_sub];omega
 refine nL fV ?_
 rw [key]
 have m1:=Int.mul_nonneg (Int.le_of_lt fU) t2
 have m2:=Int.mul_nonneg (Int.le_of_lt fP) t1
 omega
theorem By {a c p q:Pl} (h1:w.f a < w.f c) (h2:w.f c < w.f p) (h3:w.f q≤w.f c) (t1:0≤tw a c q) (t2:0≤tw a c p):0≤tw c p q:=by
 have key:=gD w.al w.be (p.x - c.x) (p.y - c.y) (c.x - a.x) (c.y - a.y) (q.x - c.x) (q.y - c.y)
 unfold Way.f at h1 h2 h3
 have e1:tw a c q=(c.x - a.x)*(q.y - c.y) - (c.y - a.y)*(q.x - c.x):=by unfold tw;grind
 have e2:tw a c p= -((p.x - c.x)*(c.y - a.y) - (p.y - c.y)*(c.x - a.x)):=by unfold tw;grind
 have e3:tw c p q=(p.x - c.x)*(q.y - c.y) - (p.y - c.y)*(q.x - c.x):=by unfold tw;grind
 have Lu:(p.x - c.x)*(c.y - a.y) - (p.y - c.y)*(c.x - a.x)= -tw a c p:=by omega
 rw [← e1,Lu,← e3] at key
 have fU:0 < w.al*(c.x - a.x)+w.be*(c.y - a.y):=by rw [Int.mul_sub,Int.mul_sub];omega
 have fP:0 < w.al*(p.x - c.x)+w.be*(p.y - c.y):=by rw [Int.mul_sub,Int.mul_sub];omega
 have fQ:w.al*(q.x - c.x)+w.be*(q.y - c.y)≤0:=by rw [Int.mul_sub,Int.mul_sub];omega
 refine nL fU ?_
 rw [key]
 have m1:=Int.mul_nonneg (Int.le_of_lt fP) t1
 have m2:0≤(w.al*(q.x - c.x)+w.be*(q.y - c.y))* -tw a c p:=Int.mul_nonneg_of_nonpos_of_nonpos fQ (by omega)
 omega
theorem BA {c d p q:Pl} (h1:w.f c < w.f d) (h2:w.f c < w.f p) (h3:w.f c < w.f q) (t1:0≤tw c d q) (t2:tw c d p < 0):0 < tw c p q:=by
 have key:=gD w.al w.be (p.x - c.x) (p.y - c.y) (d.x - c.x) (d.y - c.y) (q.x - c.x) (q.y - c.y)
 unfold Way.f at h1 h2 h3
 have e1:tw c d q=(d.x - c.x)*(q.y - c.y) - (d.y - c.y)*(q.x - c.x):=by unfold tw;grind
 have Lu:(p.x - c.x)*(d.y - c.y) - (p.y - c.y)*(d.x - c.x)= -tw c d p:=by unfold tw;grind
 have e3:tw c p q=(p.x - c.x)*(q.y - c.y) - (p.y - c.y)*(q.x - c.x):=by unfold tw;grind
 rw [← e1,Lu,← e3] at key
 have fU:0 < w.al*(d.x - c.x)+w.be*(d.y - c.y):=by rw [Int.mul_sub,Int.mul_sub];omega
 have fP:0 < w.al*(p.x - c.x)+w.be*(p.y - c.y):=by rw [Int.mul_sub,Int.mul_sub];omega
 have fQ:0 < w.al*(q.x - c.x)+w.be*(q.y - c.y):=by rw [Int.mul_sub,Int.mul_sub];omega
 refine Dn fU ?_
 rw [key]
 have m1:=Int.mul_nonneg (Int.le_of_lt fP) t1
 have m2:0 < (w.al*(q.x - c.x)+w.be*(q.y - c.y))* -tw c d p:=Int.mul_pos fQ (by omega)
 omega
def uc (w:Way) (S:List Pl) (a b:Pl):Prop:= ∀ q∈S,0≤tw a b q∧(tw a b q=0→¬ (w.f a < w.f q∧w.f q < w.f b))
def k9 (w:Way) (S:List Pl):List Pl→Prop
 | b :: a :: r=>w.f a < w.f b∧uc w S a b∧k9 w S (a :: r)
 | _=>True
def yG (p:Pl):List Pl→Prop
 | b :: a :: r=>0≤tw a b p∧yG p (a :: r)
 | _=>True
structure Ch (w:Way) (S st:List Pl):Prop where
 qg:∀ q∈st,q∈S
 Dq:k9 w S st
 top:∀ q∈S,∃ t,st.head?=some t∧w.f q≤w.f t
 bot:∀ q∈S,∃ t,st.getLast?=some t∧w.f t≤w.f q
 inj:∀ q∈S,∀ r∈S,w.f q=w.f r→q=r
theorem vM {S:List Pl} {p:Pl}:∀ (r:List Pl) (b a:Pl),k9 w S (b :: a :: r)→(∀ q∈b :: a :: r,q∈S)→w.f b < w.f p→0≤tw a b p→yG p (b :: a :: r)
 | [],b,a,_,_,_,t=>⟨t,trivial⟩
 | z :: r,b,a,e,m,h,t=>by
   obtain ⟨e1,e2,e3⟩:=e
   obtain ⟨e4,e5,e6⟩:=id e3
   have t2:0≤tw z a p:=Dp e4 e1 h (e5 b (m b (by simp))).1 t
   exact ⟨t,vM r a z e3 (fun q hq=>m q (List.mem_cons_of_mem _ hq)) (by omega) t2⟩
structure Gb (w:Way) (S st:List Pl) (p c:Pl) (r:List Pl):Prop where
 eq:iO st p=c :: r
 Dq:k9 w S (c :: r)
 qg:∀ q∈c :: r,q∈S
 Lv:yG p (c :: r)
 lst:(c :: r).getLast?=st.getLast?
 MK:(∀ q∈S,w.f q≤w.f c)∨∃ d,w.f c < w.f d∧(∀ q∈S,0≤tw c d q)∧tw c d p < 0
theorem BB {S:List Pl} {p:Pl} (hp:∀ q∈S,w.f q < w.f p):∀ (st:List Pl) (c:Pl) (r:List Pl),st=c :: r→k9 w S st→(∀ q∈st,q∈S)→((∀ q∈S,w.f q≤w.f c)∨∃ d,w.f c < w.f d∧(∀ q∈S,0≤tw c d q)∧tw c d p < 0)→
 ∃ c' r',Gb w S st p c' r'
 | _,c,[],rfl,e,m,f=>⟨c,[],rfl,trivial,m,trivial,rfl,f⟩
 | _,b,a :: r,rfl,e,m,f=>by
   obtain ⟨e1,e2,e3⟩:=id e
   by_cases k:tw a b p < 0
   ·obtain ⟨c',r',P⟩:=BB hp (a :: r) a r rfl e3 (fun q hq=>m q (List.mem_cons_of_mem _ hq)) (.inr ⟨b,e1,fun q hq=>(e2 q hq).1,k⟩)
    refine ⟨c',r',?_,P.Dq,P.qg,P.Lv,?_,P.MK⟩
    ·show (if tw a b p < 0 then iO (a :: r) p else b :: a :: r)=_
     rw [if_pos k];exact P.eq
    ·rw [P.lst];rfl
   ·refine ⟨b,a :: r,?_,e,m,vM r b a e m (hp b (m b (by simp))) (by omega),rfl,f⟩
    show (if tw a b p < 0 then iO (a :: r) p else b :: a :: r)=_
    rw [if_neg k]
theorem qh {S:List Pl} {p:Pl}:∀ (st:List Pl),k9 w S st→yG p st→(∀ q∈st,w.f q < w.f p)→k9 w (S ++ [p]) st
 | [],_,_,_=>trivial
 | [_],_,_,_=>trivial
 | b :: a :: r,e,l,h=>by
   obtain ⟨e1,e2,e3⟩:=e
   refine ⟨e1,fun q hq=>?_,qh (a :: r) e3 l.2 fun q hq=>h q (List.mem_cons_of_mem _ hq)⟩
   rcases List.mem_append.mp hq with hq | hq
   ·exact e2 q hq
   ·rw [List.mem_singleton.mp hq]
    exact ⟨l.1,fun _ z=>by have:=h b (by simp);omega⟩
theorem Ch.push {S st:List Pl} {p:Pl} (C:Ch w S st) (hne:S≠[]) (hp:∀ q∈S,w.f q < w.f p):Ch w (S ++ [p]) (aR st p):=by
 obtain ⟨s0,hs0⟩:=List.exists_mem_of_ne_nil S hne
 obtain ⟨b,hb,_⟩:=C.top s0 hs0
 obtain ⟨r,rfl⟩:∃ r,st=b :: r:=by
  cases st with
  | nil=>cases hb
  | cons x r=>exact ⟨r,by rw [Option.some.inj hb]⟩
 obtain ⟨c,r',P⟩:=BB hp (b :: r) b r rfl C.Dq C.qg (.inl fun q hq=>by
  obtain ⟨t,e,h⟩:=C.top q hq
  rw [← Option.some.inj e] at h
  exact h)
 have cS:c∈S:=P.qg c (by simp)
 have hcp:w.f c < w.f p:=hp c cS
 have Lw:uc w (S ++ [p]) c p:=fun q hq=>by
  rcases List.mem_append.mp hq with hq | hq
  ·by_cases k:w.f q≤w.f c
   ·refine ⟨?_,fun _ z=>by omega⟩
    cases r' with
    | nil=>
      obtain ⟨t,e,h⟩:=C.bot q hq
      rw [← P.lst] at e
      have e:c=t:=by simpa using e
      subst e
      have:=C.inj q hq c cS (by omega)
      subst this
      rw [pU]
      exact Int.le_refl _
    | cons a r''=>
      obtain ⟨e1,e2,e3⟩:=P.Dq
      exact By e1 hcp k (e2 q hq).1 P.Lv.1
   ·rcases P.MK with f | ⟨d,d1,d2,d3⟩
    ·exact absurd (f q hq) k
    ·have:=BA d1 hcp (by omega) (d2 q hq) d3
     exact ⟨by omega,fun z=>by omega⟩
  ·rw [List.mem_singleton.mp hq,vA]
   exact ⟨Int.le_refl _,fun _ z=>by omega⟩
 refine ⟨fun q hq=>?_,?_,fun q hq=>⟨p,rfl,?_⟩,fun q hq=>?_,fun q hq r hr e=>?_⟩
 ·unfold aR at hq
  rw [P.eq] at hq
  rcases List.mem_cons.mp hq with rfl | hq
  ·simp
  ·exact List.mem_append_left _ (P.qg q hq)
 ·unfold aR
  rw [P.eq]
  exact ⟨hcp,Lw,qh _ P.Dq P.Lv fun q hq=>hp q (P.qg q hq)⟩
 ·rcases List.mem_append.mp hq with hq | hq
  ·have:=hp q hq;omega
  ·rw [List.mem_singleton.mp hq];exact Int.le_refl _
 ·unfold aR
  rw [P.eq,List.getLast?_cons_cons,P.lst]
  rcases List.mem_append.mp hq with hq | hq
  ·exact C.bot q hq
  ·rw [List.mem_singleton.mp hq]
   obtain ⟨t,e,h⟩:=C.bot s0 hs0
   have:=hp s0 hs0
   exact ⟨t,e,by omega⟩
 ·rcases List.mem_append.mp hq with hq | hq <;> rcases List.mem_append.mp hr with hr | hr
  ·exact C.inj q hq r hr e
  ·rw [List.mem_singleton.mp hr] at e;have:=hp q hq;omega
  ·rw [List.mem_singleton.mp hq] at e;have:=hp r hr;omega
  ·rw [List.mem_singleton.mp hq,List.mem_singleton.mp hr]
theorem Ch.one (p:Pl):Ch w [p] (aR [] p):=by
 refine ⟨fun q hq=>hq,trivial,fun q hq=>⟨p,rfl,?_⟩,fun q hq=>⟨p,rfl,?_⟩,fun q hq r hr _=>?_⟩
 ·rw [List.mem_singleton.mp hq];exact Int.le_refl _
 ·rw [List.mem_singleton.mp hq];exact Int.le_refl _
 ·rw [List.mem_singleton.mp hq,List.mem_singleton.mp hr]
theorem Ch.all:∀ (line S st:List Pl),S≠[]→Ch w S st→(S ++ line).Pairwise (fun p q=>w.f p < w.f q)→Ch w (S ++ line) (line.foldl aR st)
 | [],S,st,_,C,_=>by rw [List.append_nil];exact C
 | p :: line,S,st,hne,C,hs=>by
   have e:S ++ p :: line=(S ++ [p]) ++ line:=by simp
   rw [e] at hs ⊢
   have hp:∀ q∈S,w.f q < w.f p:=fun q hq=>by
    have:=(List.pairwise_append.mp (List.pairwise_append.mp hs).1).2.2 q hq p (by simp)
    exact this
   rw [List.foldl_cons]
   exact Ch.all line (S ++ [p]) (aR st p) (by simp) (C.push hne hp) hs
theorem j6 {line:List Pl} (hne:line≠[]) (hs:line.Pairwise (fun p q=>w.f p < w.f q)):Ch w line (line.foldl aR []):=by
 cases line with
 | nil=>exact absurd rfl hne
 | cons p line=>exact Ch.all line [p] (aR [] p) (by simp) (Ch.one p) hs
def ud (st:List Pl) (a b:Pl):Prop:= ∃ i:Nat,st[i+1]?=some a∧st[i]?=some b
theorem ue {S:List Pl}:∀ {st:List Pl} {a b:Pl},k9 w S st→ud st a b→w.f a < w.f b∧uc w S a b
 | [],a,b,_,⟨i,h,_⟩=>by simp at h
 | [_],a,b,_,⟨i,h,_⟩=>by simp at h
 | y :: x :: r,a,b,e,⟨i,h1,h2⟩=>by
   obtain ⟨e1,e2,e3⟩:=e
   cases i with
   | zero=>
     have z1:x=a:=by simpa using h1
     have z2:y=b:=by simpa using h2
     subst z1 z2
     exact ⟨e1,e2⟩
   | succ i=>exact ue e3 ⟨i,by simpa using h1,by simpa using h2⟩
theorem sQ {S:List Pl}:∀ {st:List Pl} {t a:Pl},k9 w S st→st.head?=some t→w.f a < w.f t→(∃ z,st.getLast?=some z∧w.f z≤w.f a)→∃ c d,ud st c d∧w.f c≤w.f a∧w.f a < w.f d
 | [],t,a,_,h,_,_=>by cases h
 | [y],t,a,_,h,h1,⟨z,hz,h2⟩=>by
   have z1:y=t:=by simpa using h
   have z2:y=z:=by simpa using hz
   subst z1 z2
   omega
 | y :: x :: r,t,a,e,h,h1,hz=>by
   have z1:y=t:=by simpa using h
   subst z1
   obtain ⟨e1,e2,e3⟩:=e
   by_cases k:w.f x≤w.f a
   ·exact ⟨x,y,⟨0,rfl,rfl⟩,k,h1⟩
   ·obtain ⟨c,d,⟨i,g1,g2⟩,g3,g4⟩:=sQ (t:=x) (a:=a) e3 rfl (by omega) (by
     obtain ⟨z,hz,h2⟩:=hz
     exact ⟨z,by simpa using hz,h2⟩)
    exact ⟨c,d,⟨i+1,by simpa using g1,by simpa using g2⟩,g3,g4⟩
theorem zM {a b c d:Pl} (h1:w.f c < w.f a) (h2:w.f a < w.f d) (h3:w.f a < w.f b) (t1:0≤tw a b c) (t2:0≤tw a b d):tw c d a≤0:=by
 have key:=gD w.al w.be (c.x - a.x) (c.y - a.y) (b.x - a.x) (b.y - a.y) (d.x - a.x) (d.y - a.y)
 unfold Way.f at h1 h2 h3
 have e1:(c.x - a.x)*(b.y - a.y) - (c.y - a.y)*(b.x - a.x)= -tw a b c:=by unfold tw;grind
 have e2:tw a b d=(b.x - a.x)*(d.y - a.y) - (b.y - a.y)*(d.x - a.x):=by unfold tw;grind
 have e3:tw c d a=(c.x - a.x)*(d.y - a.y) - (c.y - a.y)*(d.x - a.x):=by unfold tw;grind
 rw [e1,← e2,← e3] at key
 have fV:0 < w.al*(b.x - a.x)+w.be*(b.y - a.y):=by rw [Int.mul_sub,Int.mul_sub];omega
 have fC:w.al*(c.x - a.x)+w.be*(c.y - a.y) < 0:=by rw [Int.mul_sub,Int.mul_sub];omega
 have fD:0 < w.al*(d.x - a.x)+w.be*(d.y - a.y):=by rw [Int.mul_sub,Int.mul_sub];omega
 have m1:(w.al*(c.x - a.x)+w.be*(c.y - a.y))*tw a b d≤0:=Int.mul_nonpos_of_nonpos_of_nonneg (by omega) t2
 have m2:(w.al*(d.x - a.x)+w.be*(d.y - a.y))* -tw a b c≤0:=Int.mul_nonpos_of_nonneg_of_nonpos (by omega) (by omega)
 apply Classical.byContradiction
 intro z
 have:0 < (w.al*(b.x - a.x)+w.be*(b.y - a.y))*tw c d a:=Int.mul_pos fV (by omega)
 omega
theorem gE {S st:List Pl} (C:Ch w S st) {a b:Pl}:ud st a b↔a∈S∧b∈S∧w.f a < w.f b∧uc w S a b:=by
 constructor
 ·intro h
  obtain ⟨h1,h2⟩:=ue C.Dq h
  obtain ⟨i,g1,g2⟩:=h
  exact ⟨C.qg a (List.mem_of_getElem? g1),C.qg b (List.mem_of_getElem? g2),h1,h2⟩
 ·rintro ⟨ha,hb,hab,he⟩
  obtain ⟨t,ht,Qo⟩:=C.top b hb
  obtain ⟨c,d,hcd,h1,h2⟩:=sQ C.Dq ht (show w.f a < w.f t by omega) (C.bot a ha)
  obtain ⟨e1,e2⟩:=ue C.Dq hcd
  have hc:c∈S:=by obtain ⟨i,g1,g2⟩:=hcd;exact C.qg c (List.mem_of_getElem? g1)
  have hd:d∈S:=by obtain ⟨i,g1,g2⟩:=hcd;exact C.qg d (List.mem_of_getElem? g2)
  have ea:c=a:=by
   apply Classical.byContradiction
   intro z
   have hlt:w.f c < w.f a:=by
    rcases Int.lt_or_eq_of_le h1 with y | y
    ·exact y
    ·exact absurd (C.inj c hc a ha y) z
   have t1:=zM hlt h2 hab (he c hc).1 (he d hd).1
   have t2:=(e2 a ha).1
   exact (e2 a ha).2 (by omega) ⟨hlt,h2⟩
  subst ea
  have t1:=(he d hd).1
  have t2:=(e2 b hb).1
  have t3:tw c d b= -tw c b d:=by rw [jV]
  have t0:tw c b d=0:=by omega
  have ed:d=b:=by
   rcases Int.lt_trichotomy (w.f d) (w.f b) with y | y | y
   ·exact absurd ⟨h2,y⟩ ((he d hd).2 t0)
   ·exact C.inj d hd b hb y
   ·exact absurd ⟨hab,y⟩ ((e2 b hb).2 (by omega))
  subst ed
  exact hcd
def ao:Way:=⟨2 ^ 142,1⟩
def oR:Way:=⟨-2 ^ 142, -1⟩
theorem j7 {p q:Pl} (hp:p.y.natAbs < 2 ^ 140) (hq:q.y.natAbs < 2 ^ 140):bQ p q↔ao.f p < ao.f q:=by
 unfold bQ Way.f ao
 dsimp only
 have e:(2:Int) ^ 142=5575186299632655785383929568162090376495104:=by decide
 have e2:(2:Nat) ^ 140=1393796574908163946345982392040522594123776:=by decide
 rw [e2] at hp hq
 rw [e]
 omega
theorem gn (p:Pl):oR.f p= -ao.f p:=by
 unfold Way.f oR ao
 dsimp only
 have e:(2:Int) ^ 142=5575186299632655785383929568162090376495104:=by decide
 rw [e]
 omega
end
end L3
namespace L3
open PySem PySem.Spec PyProof.Rows L2
theorem dP:bootBuiltins "str" =some (.type "str"):=by decide +kernel
theorem Dr {P:Program} {w:World} {K:PySem.W.Frag} {mg:Str→Option Value} {base:Heap} {k:Nat} {f:Addr} {fd:FuncData} {ps:List Str}:cg P w K mg base fE k f fd ps (pP K fun _ _ _=>False):=
 ⟨fun _ _ _ _ ⟨_,_,_,_,_,h,_⟩=>h.elim,fun _ _ _ _ _ _ _ _ _ _ _ _ _ ⟨_,_,_,_,_,h,_⟩=>h.elim⟩
theorem zN (b:Pl) (r:List Pl):mq ((b :: r).reverse.map Pl.d) (-1)=some b.d:=by
 rw [List.reverse_cons,List.map_append]
 exact AJ _ _
theorem zO (b a:Pl) (r:List Pl):mq ((b :: a :: r).reverse.map Pl.d) (-2)=some a.d:=by
 have hl:((b :: a :: r).reverse.map Pl.d).length=r.length+2:=by simp
 have e:Am (r.length+2) (-2)=some r.length:=by
  unfold Am
  rw [if_neg (by decide),if_pos (by omega)]
  congr 1
  omega
 unfold mq
 rw [hl,e]
 show ((b :: a :: r).reverse.map Pl.d)[r.length]?=some a.d
 rw [List.reverse_cons,List.reverse_cons,List.append_assoc,List.map_append,List.getElem?_append_right (by simp)]
 simp
theorem vN:∀ (st:List Pl) (p:Pl),(iO st p).length≤st.length
 | [],_=>Nat.le_refl _
 | [_],_=>Nat.le_refl _
 | b :: a :: r,p=>by
   show (if tw a b p < 0 then iO (a :: r) p else b :: a :: r).length≤_
   have:=vN (a :: r) p
   split
   ·simp only [List.length_cons] at this ⊢;omega
   ·exact Nat.le_refl _
theorem vO:∀ (st:List Pl) (p:Pl),∀ q∈iO st p,q∈st
 | [],_,_,h=>h
 | [_],_,_,h=>h
 | b :: a :: r,p,q,h=>by
   have h:q∈(if tw a b p < 0 then iO (a :: r) p else b :: a :: r):=h
   by_cases k:tw a b p < 0
   ·rw [if_pos k] at h
    exact List.mem_cons_of_mem _ (vO (a :: r) p q h)
   ·rw [if_neg k] at h
    exact h
theorem BC {a b p:Pl} {r:List Pl} (h:tw a b p < 0):iO (b :: a :: r) p=iO (a :: r) p:=by
 show (if tw a b p < 0 then iO (a :: r) p else b :: a :: r)=_
 rw [if_pos h]
theorem BD {a b p:Pl} {r:List Pl} (h:¬ tw a b p < 0):iO (b :: a :: r) p=b :: a :: r:=by
 show (if tw a b p < 0 then iO (a :: r) p else b :: a :: r)=_
 rw [if_neg h]
theorem eK (ps:List Pl):(ps.foldl aR []).length≤ps.length:=by
 have key:∀ (ps st:List Pl),(ps.foldl aR st).length≤st.length+ps.length:=by
  intro ps
  induction ps with
  | nil=>intro st;simp
  | cons p ps ih=>
    intro st
    have h1:=ih (aR st p)
    have h2:(aR st p).length≤st.length+1:=by
     show (iO st p).length+1≤_
     have:=vN st p
     omega
    simp only [List.foldl_cons,List.length_cons]
    omega
 simpa using key ps []
theorem nM (ps:List Pl):∀ q∈ps.foldl aR [],q∈ps:=by
 have key:∀ (ps st:List Pl),∀ q∈ps.foldl aR st,q∈st∨q∈ps:=by
  intro ps
  induction ps with
  | nil=>intro st q h;exact .inl h
  | cons p ps ih=>
    intro st q h
    rcases ih (aR st p) q h with h | h
    ·rcases List.mem_cons.mp h with h | h
     ·exact .inr (by rw [h];exact List.mem_cons_self ..)
     ·exact .inl (vO st p q h)
    ·exact .inr (List.mem_cons_of_mem _ h)
 intro q h
 rcases key ps [] q h with h | h
 ·cases h
 ·exact h
theorem xq {ps:List Pl} {i:Nat} {p:Pl} (h:ps[i]?=some p):(ps.take (i+1)).foldl aR []=aR ((ps.take i).foldl aR []) p:=by
 rw [List.take_succ,h,List.foldl_append]
 rfl
theorem Le.put {M M':Mp} {p:Addr} {o:MO} (h:Le M M'):Le (aC M p o) (aC M' p o):=fun c u e=>by
 by_cases hc:c=p
 ·subst hc
  rw [ai] at e ⊢;exact e
 ·rw [bC hc] at e ⊢
  exact h c u e
theorem Le.free {M M':Mp} {p:Addr} (h:Le M M') (e:M' p=none):M p=none:=by
 cases k:M p with
 | none=>rfl
 | some o=>rw [h p o k] at e;cases e
theorem vP (ps:List Pl):cutD (ps.map Pl.d) none (some (-1))=ps.dropLast.map Pl.d:=by
 unfold cutD
 have e:HT.oh (ps.map Pl.d).length (ps.map Pl.d).length (some (-1))=ps.length - 1:=by
  unfold HT.oh
  dsimp only
  rw [if_pos (by decide),List.length_map]
  omega
 have e0:HT.oh (ps.map Pl.d).length 0 none=0:=rfl
 rw [e,e0,List.drop_zero,Nat.sub_zero,List.dropLast_eq_take,List.map_take]
theorem BE {n:Nat} {z:Int} (h:Sm n z) (hn:n≤1000):Att.yy z:=by
 have:=mF h
 show Builtin.Int.intBits z≤1048576
 omega
def Flat (ps:List Pl):Prop:= ∀ p∈ps,∀ q∈ps,∀ r∈ps,tw p q r=0
def hz (qs:List Pl):Pl:=qs.headD ⟨0,0⟩
def lz (qs:List Pl):Pl:=qs.getLastD ⟨0,0⟩
theorem Gd {dx dy ux uy vx vy:Int} (h:dx≠0∨dy≠0) (h1:dx*uy - dy*ux=0) (h2:dx*vy - dy*vx=0):ux*vy - uy*vx=0:=by
 rcases h with h | h
 ·have:dx*(ux*vy - uy*vx)=0:=by grind
  exact (Int.mul_eq_zero.mp this).resolve_left h
 ·have:dy*(ux*vy - uy*vx)=0:=by grind
  exact (Int.mul_eq_zero.mp this).resolve_left h
theorem BF {a z p q r:Pl} (h:a≠z) (h1:tw a z p=0) (h2:tw a z q=0) (h3:tw a z r=0):tw p q r=0:=by
 have hd:z.x - a.x≠0∨z.y - a.y≠0:=by
  by_cases k:z.x - a.x=0
  ·right
   intro k2
   apply h
   cases a;cases z
   simp only at k k2
   rw [Pl.mk.injEq]
   omega
  ·exact .inl k
 unfold tw at h1 h2 h3 ⊢
 exact Gd hd (ux:=q.x - p.x) (uy:=q.y - p.y) (vx:=r.x - p.x) (vy:=r.y - p.y) (by grind) (by grind)
def sR:Nat→D→Bool
 | 0,_=>false
 | _+1,.int _=>true
 | _+1,.bE=>true
 | _+1,.str _=>true
 | n+1,.tup ds=>decide (ds.length≤1000) && ds.all (sR n)
 | _+1,_=>false
def Ou (M:Mp) (n:Nat) (d e:D):Prop:=(d=e∧sR n d=true)∨∃ (f g:Addr) (xs:List D),d= .ref f∧e= .ref g∧M f=some (.lst xs)∧M g=some (.lst xs)∧xs.all (sR (n - 1))=true∧xs.length≤1000
def yH (n:Nat):pB:=fun ds M Q=> ∃ d e:D,ds= [d,e]∧Ou M n d e∧Q (.bl true) M
def cj (qs:List Pl):List Pl:=if qs.length < 2 then qs else (qs.foldl aR []).reverse.dropLast ++ (qs.reverse.foldl aR []).reverse.dropLast
def cQ (b:List Pl):List (List Pl):=if b.length < 2 then [] else List.zipWith (fun p q=>[p,q]) b (b.drop 1 ++ b.take 1)
theorem vQ {α:Type} (g:α→D) (xs:List α) (n:Nat) (h:n≤xs.length):cutD (xs.map g) none (some (n:Int))=(xs.take n).map g:=by
 unfold cutD
 rw [HT.ye,HT.vo]
 rw [List.length_map,Nat.min_eq_left h,List.map_take,List.drop_zero,Nat.sub_zero]
theorem sS:∀ (as bs:List Pl),(List.zipWith (fun p q=>[p,q]) as bs).map (fun ps:List Pl=>D.tup (ps.map Pl.d))=List.zipWith pairD (as.map Pl.d) (bs.map Pl.d)
 | [],_=>by simp
 | _ :: _,[]=>by simp
 | a :: as,b :: bs=>by
   show D.tup [a.d,b.d] :: (List.zipWith (fun p q=>[p,q]) as bs).map (fun ps:List Pl=>D.tup (ps.map Pl.d))=pairD a.d b.d :: List.zipWith pairD (as.map Pl.d) (bs.map Pl.d)
   rw [sS as bs]
   rfl
end L3
namespace L3
open PySem PySem.Spec PyProof.Rows L2
section
variable {P:Program} {w:World} {A:Around} {E:Value→Shared→Prop} {s:Shared}
theorem BG (a:Value):argsOk "min" ⟨[a],[]⟩:=by unfold argsOk;kernel_rfl
theorem min_list {l:Addr} {vs:List Value} {bt:Nat→Nat→Bool} {Q:Value→Shared→Prop} (pl:s.heap.IsList l vs.toArray) (hn:0 < vs.length) (hh:A.handled=none)
 (hc:∀ (i j:Nat) (vi vj:Value) (t:Shared) (Q:Value→Shared→Prop) (E:Value→Shared→Prop),kY s.heap t.heap→vs[i]?=some vi→vs[j]?=some vj→Q (.bool (bt i j)) t→wpAny (model P w) A.in1 (richCompare .Lt vi vj) Q E t)
 (h:∀ v h' tk,vs[argBest bt (vs.length - 1)]?=some v→kY s.heap h'→Q v { s with heap:=h',toks:=tk }):wpAny (model P w) A (call (.builtin "min") [.ref l]) Q E s:=by
 have nm:(toString "min" ++ toString ".loop" :String)= "min.loop" :=by decide
 have ll:l < s.heap.objs.size:=by obtain ⟨o,e,_⟩:=pl;exact Heap.lt_size e
 refine call_function_tree F.kind_min F.plain_min F.entry_min (BG _) ?_
 show wpAny (model P w) A.in1 (Builtin.Builtins.bindParams "min" ["key","default"] 0 ⟨[],[]⟩ >>= _) _ _ s
 refine wpAny_bind (wpAny_of_eq (show Builtin.Builtins.bindParams "min" ["key","default"] 0 ⟨[],[]⟩=pure [none,none] from rfl) ?_)
 show wpAny (model P w) A.in1 (pyIter (.ref l) >>= _) _ _ s
 refine wpAny_bind (wpAny_pyIter_list pl ?_)
 have Ei:(s.heap.push { cls:= .type "list_iterator",data:= .fields #[.ref l,.int 0 0] }).objs.size=s.heap.objs.size+1:=Heap.size_push ..
 apply wpAny_bind
 refine wpAny_newObj_type ?_
 rw [nm]
 refine wpAny_pure ⟨plainId_quiet F.plain_min_loop _,zF (h0:=s.heap) (Walks.list (A:=A.in1) hh s.heap.objs.size l (Nat.ne_of_lt ll) vs.toArray) (bt:=bt) (fun i j vi vj t Q E g1 p1 p2 q=>hc i j vi vj t Q E g1 (by simpa using p1) (by simpa using p2) q) ?_ (fun b o q=>?_) (by simpa using hn) (fun b o q=>Heap.get?_push_of_some _ (Heap.get?_push_of_some _ q)) ⟨⟨_,Heap.get?_push_of_some _ (Heap.get?_push_size _ rfl),rfl,rfl⟩,?_⟩ (Heap.get?_push_size _ rfl) fun v h' tk p kp=>?_⟩
 ·intro q
  rw [Ei] at q
  rcases List.mem_cons.mp q with q | q
  ·exact absurd q (Nat.succ_ne_self _)
  ·have q:=List.mem_singleton.mp q
   rw [← q] at ll
   exact absurd ll (Nat.not_lt.mpr (Nat.le_succ _))
 ·have lb:=Heap.lt_size q
  rw [Ei]
  refine ⟨fun z=>?_,fun z=>?_⟩
  ·have z:=List.mem_singleton.mp z
   rw [z] at lb
   exact absurd lb (Nat.lt_irrefl _)
  ·rw [z] at lb
   exact absurd lb (Nat.not_lt.mpr (Nat.le_succ _))
 ·obtain ⟨o,e,c,d⟩:=pl
  exact ⟨o,Heap.get?_push_of_some _ (Heap.get?_push_of_some _ e),c,d⟩
 ·refine h v h' tk (by simpa using p) fun b o q=>?_
  have lb:=Heap.lt_size q
  refine kp b o (fun z=>?_) (fun z=>?_) (Heap.get?_push_of_some _ (Heap.get?_push_of_some _ q))
  ·have z:=List.mem_singleton.mp z
   rw [z] at lb
   exact absurd lb (Nat.lt_irrefl _)
  ·rw [z,Ei] at lb
   exact absurd lb (Nat.not_lt.mpr (Nat.le_succ _))
end
theorem mT {bt:Nat→Nat→Bool} (ir:∀ i,bt i i=false) (tr:∀ i j k,bt i j=true→bt j k=true→bt i k=true):∀ n k,k≤n→bt k (argBest bt n)=false
 | 0,k,h=>by
   obtain rfl:k=0:=by omega
   exact ir 0
 | n+1,k,h=>by
   have ih:=mT ir tr n
   unfold argBest
   split
   ·rename_i c
    by_cases e:k=n+1
    ·rw [e];exact ir _
    ·cases z:bt k (n+1) with
     | false=>rfl
     | true=>rw [← ih k (by omega)];exact (tr _ _ _ z c).symm
   ·rename_i c
    by_cases e:k=n+1
    ·rw [e];exact Bool.eq_false_iff.mpr c
    ·exact ih k (by omega)
section
variable {X:Cx} {pos:Pos}
def IM:List D→Mp→DK→Prop:=fun ds M Q=> ∃ (l:Addr) (ns:List Int),ds= [.ref l]∧M l=some (.lst (ns.map D.int))∧ns≠[]∧∀ m∈ns,(∀ z∈ns,m≤z)→Q (.int m) M
theorem BH (hc:X.calm=true):Call3 X (.builtin "min") IM:=by
 constructor
 intro pins s σ H M xs ds us Q I rm rs dx ⟨l,ns,e,hM,hne,q⟩
 subst e
 obtain ⟨v,rfl,hv⟩:=jU dx
 obtain rfl:=aV.mp hv
 obtain ⟨u,rfl,r1⟩:=vals1 rs
 obtain rfl:u=Value.ref l:=r1
 obtain ⟨zs,hH,hz⟩:=rm.lst hM
 obtain ⟨its,rv,pl,hsz⟩:=I.list (jw.of (K:=X.K) hH)
 obtain rfl:=jb hz
 have hlen:its.length=ns.length:=by rw [Vals.len rv,List.length_map]
 have hpos:0 < ns.length:=List.length_pos_iff.mpr hne
 have at':∀ (i:Nat) (v:Value),its[i]?=some v→i < ns.length∧∃ t,v= .int (ns.getD i 0) t:=fun i v hv=>by
  have hi:i < its.length:=(List.getElem?_eq_some_iff.mp hv).1
  have hx:(ns.map V.int)[i]?=some (.int (ns.getD i 0)):=by
   rw [List.getElem?_map,List.getD_eq_getElem?_getD,List.getElem?_eq_getElem (by omega)]
   rfl
  obtain ⟨u,hu,ru⟩:=rv.get hx
  rw [hu] at hv
  cases hv
  exact ⟨by omega,ru⟩
 refine min_list pl.isList (by omega) (I.ok.hd hc) (bt:=fun i j=>decide (ns.getD i 0 < ns.getD j 0)) (fun i j vi vj t Q E g e1 e2 q=>?_) fun v h' tk e g=>?_
 ·obtain ⟨_,t1,rfl⟩:=at' i vi e1
  obtain ⟨_,t2,rfl⟩:=at' j vj e2
  exact (PyProof.Rows.lt_int q:wpAny (model X.prog X.w) X.A.in1 (compareOp .Lt (.int _ t1) (.int _ t2)) Q E t)
 ·obtain ⟨hb,t,rfl⟩:=at' _ v e
  refine ⟨.int _,H,I.kept g,⟨t,rfl⟩,aM rm (aJ.mpr rfl) (q _ ?_ fun z hz=>?_)⟩
  ·rw [List.getD_eq_getElem?_getD,List.getElem?_eq_getElem hb]
   exact List.getElem_mem hb
  ·obtain ⟨k,hk⟩:=List.mem_iff_getElem?.mp hz
   have hk1:k < ns.length:=(List.getElem?_eq_some_iff.mp hk).1
   have:=mT (bt:=fun i j=>decide (ns.getD i 0 < ns.getD j 0)) (fun i=>decide_eq_false (Int.lt_irrefl _)) (fun i j k a b=>decide_eq_true (Int.lt_trans (of_decide_eq_true a) (of_decide_eq_true b))) (its.length - 1) k (by omega)
   have:=of_decide_eq_false this
   have ek:ns.getD k 0=z:=by rw [List.getD_eq_getElem?_getD,hk];rfl
   rw [ek] at this
   omega
end
end L3
namespace L3
open PySem PySem.Spec PyProof.Rows L2
section
open PySem.SeqAt
open PySem.AutoSeq1 (wpAny_loadPart')
open PySem.MeetsSeq PySem.MeetsSeq2 PySem.MeetsSeq3
end
section
variable {X:Cx} {pos:Pos}
def Lx (to te:c6):c6:=fun ρ M Q=>to ρ M fun d M1=>(∃ l xs,d= .ref l∧M1 l=some (.lst xs))∧te ρ M1 fun e M2=> ∃ (l b:Addr) (xs zs:List D),d= .ref l∧e= .ref b∧M2 l=some (.lst xs)∧M2 b=some (.lst zs)∧xs.length+zs.length≤sizeLine∧Q .bE (aC M2 l (.lst (xs ++ zs)))
theorem Em {o e:Expr} {to te:c6} {apos pos:Pos} (ho:cN X o to) (he:cN X e te) (Ij:PE X (.Call (.Attribute o "extend" apos) [e] [] pos) (Ko X.K "list" yj (dn X.K to) (AE (dn X.K te) Fb))):cN X (.Call (.Attribute o "extend" apos) [e] [] pos) (Lx to te):=
 up Ij fun σ H ρ M Q r q=>eB r q fun v H' d M' f dv r' ⟨⟨l,xs,e1,hM⟩,q⟩=>by
  subst e1
  obtain rfl:=aV.mp dv
  obtain ⟨ys,ha,hy⟩:=r'.mem.lst hM
  refine ⟨.inl ⟨rfl,_,jw.of ha⟩,eB r' q fun u H2 d2 M2 f2 du r2 ⟨l',b,xs',zs,e2,e3,Ik,hB,hlt,q2⟩=>?_⟩
  injection e2 with e2
  subst e2 e3
  obtain rfl:=aV.mp du
  obtain ⟨ws,hb,hw⟩:=r2.mem.lst Ik
  obtain ⟨vs,hc,hv⟩:=r2.mem.lst hB
  exact ⟨l,b,ws,vs,rfl,rfl,hb,hc,by rw [← hw.length,← hv.length];exact hlt,.bE,_,(f.trans f2).trans (Fr.write (K:=X.K) Ik),cM.mpr rfl,r2.mem.jR hb (hw.append hv),q2⟩
end
end L3
namespace L3
open PySem PySem.Spec PyProof.Rows L2
section
variable {P:Program} {w:World} {A:Around} {E:Value→Shared→Prop} {s:Shared}
end
section
variable {X:Cx} {pos:Pos}
end
section
open PySem.SeqAt
open PySem.AutoSeq1 (wpAny_loadPart')
open PySem.MeetsSeq PySem.MeetsSeq2 PySem.MeetsSeq3
end
end L3
namespace L3
open PySem PySem.Spec PyProof.Rows L2
section
variable {P:Program} {w:World} {A:Around} {E:Value→Shared→Prop} {s:Shared}
end
end L3
namespace L3
open PySem PySem.Spec PyProof.Rows L2
section
variable {X:Cx} {pos:Pos}
structure ML (X:Cx) (r:D→Mp→DK→Prop):Prop where
 run:∀ (pins:List (Addr ×Obj)) (s:Shared) (σ:St) (H:Hp) (M:Mp) (x:V) (d:D) (u:Value) (Q:DK),Inv X pins σ H s→cy X.K H M→RelV x u→Dat X.K H d x→r d M Q→wpAny (model X.prog X.w) X.A (call (.builtin "min") [u] [(Str.ofString "default",.none)]) (EP X pins σ (Post X.K M H Q)) X.xe s
end
end L3
namespace L3
open PySem PySem.Spec PyProof.Rows L2
section
variable {P:Program} {w:World} {A:Around} {E:Value→Shared→Prop} {s:Shared}
variable {κ:KeyKind} {kd:SortKind}
end
section
variable {X:Cx}
end
end L3
namespace L3
def Nx:List Pl→Pl→Pl→Prop
 | x :: y :: r,a,b=>(x=a∧y=b)∨Nx (y :: r) a b
 | _,_,_=>False
theorem xr (h:Pl) (r:List Pl) (a b:Pl):∀ X:List Pl,Nx (X ++ h :: r) a b↔Nx (X ++ [h]) a b∨Nx (h :: r) a b
 | []=>by
   show Nx (h :: r) a b↔Nx [h] a b∨Nx (h :: r) a b
   have:¬ Nx [h] a b:=fun z=>z
   exact ⟨.inr,fun z=>z.elim (fun y=>absurd y this) id⟩
 | [x]=>by
   show (x=a∧h=b)∨Nx (h :: r) a b↔((x=a∧h=b)∨Nx [h] a b)∨Nx (h :: r) a b
   have:¬ Nx [h] a b:=fun z=>z
   constructor
   ·rintro (z | z)
    ·exact .inl (.inl z)
    ·exact .inr z
   ·rintro ((z | z) | z)
    ·exact .inl z
    ·exact absurd z this
    ·exact .inr z
 | x :: y :: X=>by
   have ih:=xr h r a b (y :: X)
   show (x=a∧y=b)∨Nx (y :: X ++ h :: r) a b↔((x=a∧y=b)∨Nx (y :: X ++ [h]) a b)∨Nx (h :: r) a b
   rw [ih,or_assoc]
theorem kR:∀ (st:List Pl) (a b:Pl),ud st a b↔Nx st.reverse a b
 | [],a,b=>⟨fun ⟨i,h,_⟩=>by simp at h,fun z=>z.elim⟩
 | [y],a,b=>⟨fun ⟨i,h,_⟩=>by simp at h,fun z=>z.elim⟩
 | y :: x :: r,a,b=>by
   have ih:=kR (x :: r) a b
   have e:(y :: x :: r).reverse=r.reverse ++ x :: [y]:=by simp
   have e2:(x :: r).reverse=r.reverse ++ [x]:=by simp
   rw [e,xr,← e2,← ih]
   have:Nx [x,y] a b↔(x=a∧y=b):=⟨fun z=>z.elim id (fun y=>y.elim),.inl⟩
   rw [this]
   constructor
   ·rintro ⟨i,h1,h2⟩
    cases i with
    | zero=>exact .inr ⟨by simpa using h1,by simpa using h2⟩
    | succ i=>exact .inl ⟨i,by simpa using h1,by simpa using h2⟩
   ·rintro (⟨i,h1,h2⟩ | ⟨h1,h2⟩)
    ·exact ⟨i+1,by simpa using h1,by simpa using h2⟩
    ·exact ⟨0,by simp [h1],by simp [h2]⟩
theorem vR (a b:Pl):∀ (x:Pl) (r:List Pl) (z:Pl),[a,b]∈List.zipWith (fun p q=>[p,q]) (x :: r) (r ++ [z])↔Nx (x :: r ++ [z]) a b
 | x,[],z=>by
   show [a,b]∈[[x,z]]↔(x=a∧z=b)∨Nx [z] a b
   have:¬ Nx [z] a b:=fun z=>z
   simp [this]
   exact ⟨fun ⟨h1,h2⟩=>⟨h1.symm,h2.symm⟩,fun ⟨h1,h2⟩=>⟨h1.symm,h2.symm⟩⟩
 | x,y :: r,z=>by
   have ih:=vR a b y r z
   show [a,b]∈[x,y] :: List.zipWith (fun p q=>[p,q]) (y :: r) (r ++ [z])↔(x=a∧y=b)∨Nx (y :: r ++ [z]) a b
   rw [List.mem_cons,ih]
   simp
   constructor
   ·rintro (⟨h1,h2⟩ | h)
    ·exact .inl ⟨h1.symm,h2.symm⟩
    ·exact .inr h
   ·rintro (⟨h1,h2⟩ | h)
    ·exact .inl ⟨h1.symm,h2.symm⟩
    ·exact .inr h
theorem sU:∀ (as bs:List Pl),∀ t∈List.zipWith (fun p q=>[p,q]) as bs,∃ a b,t= [a,b]
 | [],_,t,h=>by simp at h
 | _ :: _,[],t,h=>by simp at h
 | a :: as,b :: bs,t,h=>by
   rcases List.mem_cons.mp h with h | h
   ·exact ⟨a,b,h⟩
   ·exact sU as bs t h
theorem Ch.ends {w:Way} {S st:List Pl} (C:Ch w S st) {lo hi:Pl} (hl:lo∈S) (hh:hi∈S) (h1:∀ q∈S,w.f lo≤w.f q) (h2:∀ q∈S,w.f q≤w.f hi):st.head?=some hi∧st.getLast?=some lo:=by
 obtain ⟨t,e1,e2⟩:=C.top hi hh
 obtain ⟨u,e3,e4⟩:=C.bot lo hl
 have mt:t∈S:=C.qg t (List.mem_of_mem_head? e1)
 have mu:u∈S:=C.qg u (List.mem_of_getLast? e3)
 have a1:=h2 t mt
 have a2:=h1 u mu
 rw [e1,e3,C.inj t mt hi hh (by omega),C.inj u mu lo hl (by omega)]
 exact ⟨rfl,rfl⟩
theorem fY {l:List Pl} {x:Pl} (h:l.getLast?=some x):l=l.dropLast ++ [x]:=by
 have hne:l≠[]:=fun z=>by rw [z] at h;simp at h
 rw [List.getLast?_eq_some_getLast hne] at h
 have:=List.dropLast_concat_getLast hne
 rw [Option.some.inj h] at this
 exact this.symm
theorem BI {T H:List Pl} {lo hi a b:Pl} (t1:T.head?=some lo) (t2:T.getLast?=some hi) (h1:H.head?=some hi) (h2:H.getLast?=some lo) (hne:lo≠hi) :
 [a,b]∈List.zipWith (fun p q=>[p,q]) (T.dropLast ++ H.dropLast) ((T.dropLast ++ H.dropLast).drop 1 ++ (T.dropLast ++ H.dropLast).take 1)↔Nx T a b∨Nx H a b:=by
 have eT:=fY t2
 have eH:=fY h2
 obtain ⟨X,hX⟩:∃ X,T.dropLast=lo :: X:=by
  cases e:T.dropLast with
  | nil=>
    rw [e] at eT
    rw [eT] at t1
    exact absurd (Option.some.inj t1).symm hne
  | cons x X=>
    rw [e] at eT
    rw [eT] at t1
    exact ⟨X,by rw [Option.some.inj t1]⟩
 obtain ⟨Y,hY⟩:∃ Y,H=hi :: Y:=by
  cases e:H with
  | nil=>rw [e] at h1;cases h1
  | cons x X=>rw [e] at h1;exact ⟨X,by rw [Option.some.inj h1]⟩
 rw [hX]
 show [a,b]∈List.zipWith (fun p q=>[p,q]) (lo :: (X ++ H.dropLast)) ((X ++ H.dropLast) ++ [lo])↔_
 rw [vR]
 have e1:lo :: (X ++ H.dropLast) ++ [lo]=(lo :: X) ++ (H.dropLast ++ [lo]):=by simp
 rw [e1,← eH]
 conv=>lhs;rw [hY,xr,← hY]
 rw [← hX,← eT]
def Ly (a b:Pl) (ps:List Pl):Prop:= ∀ p∈ps,0≤tw a b p∧(tw a b p=0→¬ (bQ (lo a b) p∧bQ p (hi a b)))
theorem fm:∀ {qs:List Pl},qs.Pairwise (fun p q=>bQ p q)→∀ {x y:Pl},qs.head?=some x→qs.getLast?=some y→∀ q∈qs,(q=x∨bQ x q)∧(q=y∨bQ q y)
 | [],_,_,_,h,_,_,_=>by cases h
 | [z],_,x,y,h1,h2,q,hq=>by
   have e1:z=x:=by simpa using h1
   have e2:z=y:=by simpa using h2
   rw [List.mem_singleton.mp hq]
   exact ⟨.inl e1,.inl e2⟩
 | z :: u :: r,hs,x,y,h1,h2,q,hq=>by
   have e1:z=x:=by simpa using h1
   have h2':(u :: r).getLast?=some y:=by simpa using h2
   have ih:=fm (List.pairwise_cons.mp hs).2 (x:=u) rfl h2'
   have hz:=(List.pairwise_cons.mp hs).1
   rcases List.mem_cons.mp hq with e | hq
   ·subst e
    refine ⟨.inl e1,.inr ?_⟩
    have hy:y∈u :: r:=List.mem_of_getLast? h2'
    exact hz y hy
   ·exact ⟨.inr (e1▸hz q hq),(ih q hq).2⟩
theorem qi {st:List Pl} {x y:Pl} (h1:st.head?=some x) (h2:st.getLast?=some y) (h:x≠y):2≤st.length:=by
 match st,h1,h2 with
 | [],h1,_=>cases h1
 | [z],h1,h2=>
   have e1:z=x:=by simpa using h1
   have e2:z=y:=by simpa using h2
   exact absurd (e1.symm.trans e2) h
 | _ :: _ :: _,_,_=>simp
theorem zP {qs:List Pl} (hs:qs.Pairwise (fun p q=>bQ p q)) (hok:∀ q∈qs,q.y.natAbs < 2 ^ 140) (h2:2≤qs.length) :
 2≤((qs.foldl aR []).reverse.dropLast ++ (qs.reverse.foldl aR []).reverse.dropLast).length∧∀ a b:Pl,[a,b]∈List.zipWith (fun p q=>[p,q]) ((qs.foldl aR []).reverse.dropLast ++ (qs.reverse.foldl aR []).reverse.dropLast) (((qs.foldl aR []).reverse.dropLast ++ (qs.reverse.foldl aR []).reverse.dropLast).drop 1 ++ ((qs.foldl aR []).reverse.dropLast ++ (qs.reverse.foldl aR []).reverse.dropLast).take 1)↔a∈qs∧b∈qs∧a≠b∧Ly a b qs:=by
 have hne:qs≠[]:=fun z=>by rw [z] at h2;simp at h2
 obtain ⟨x,hx⟩:∃ x,qs.head?=some x:=by
  cases e:qs with
  | nil=>exact absurd e hne
  | cons x r=>exact ⟨x,rfl⟩
 obtain ⟨y,hy⟩:∃ y,qs.getLast?=some y:=⟨_,List.getLast?_eq_some_getLast hne⟩
 have mx:x∈qs:=List.mem_of_mem_head? hx
 have my:y∈qs:=List.mem_of_getLast? hy
 have hend:=fm hs hx hy
 have be:∀ p∈qs,∀ q∈qs,(bQ p q↔ao.f p < ao.f q):=fun p hp q hq=>j7 (hok p hp) (hok q hq)
 have bw:∀ p∈qs,∀ q∈qs,(bQ p q↔oR.f q < oR.f p):=fun p hp q hq=>by
  rw [be p hp q hq,gn,gn]
  omega
 have xy:x≠y:=by
  intro e
  cases e1:qs with
  | nil=>exact absurd e1 hne
  | cons u r=>
    cases r with
    | nil=>rw [e1] at h2;simp at h2
    | cons v r=>
      rw [e1] at hx hy hs
      have eu:u=x:=by simpa using hx
      have Lz:y∈v :: r:=List.mem_of_getLast? (by simpa using hy)
      have:=(List.pairwise_cons.mp hs).1 y Lz
      rw [eu,e] at this
      exact cP _ this
 have C1:Ch ao qs (qs.foldl aR []):=j6 hne (hs.imp_of_mem fun hp hq h=>(be _ hp _ hq).mp h)
 have C2:Ch oR qs.reverse (qs.reverse.foldl aR []):=j6 (by simpa using hne) (List.pairwise_reverse.mpr (hs.imp_of_mem fun hp hq h=>(bw _ hp _ hq).mp h))
 have key:∀ p∈qs,∀ q∈qs,(p=q∨bQ p q)→ao.f p≤ao.f q∧oR.f q≤oR.f p:=fun p hp q hq k=>by
  rcases k with rfl | k
  ·exact ⟨Int.le_refl _,Int.le_refl _⟩
  ·have a1:=(be p hp q hq).mp k
   have a2:=(bw p hp q hq).mp k
   omega
 obtain ⟨p1,p2⟩:=C1.ends mx my (fun q hq=>(key x mx q hq ((hend q hq).1.imp Eq.symm id)).1) (fun q hq=>(key q hq y my (hend q hq).2).1)
 obtain ⟨r1,r2⟩:=C2.ends (lo:=y) (hi:=x) (by simpa using my) (by simpa using mx) (fun q hq=>by have hq:=List.mem_reverse.mp hq;exact (key q hq y my (hend q hq).2).2) (fun q hq=>by have hq:=List.mem_reverse.mp hq;exact (key x mx q hq ((hend q hq).1.imp Eq.symm id)).2)
 refine ⟨?_,fun a b=>?_⟩
 ·have l1:=qi p1 p2 (Ne.symm xy)
  have l2:=qi r1 r2 xy
  rw [List.length_append,List.length_dropLast,List.length_dropLast,List.length_reverse,List.length_reverse]
  omega
 rw [BI (lo:=x) (hi:=y) (by rw [List.head?_reverse];exact p2) (by rw [List.getLast?_reverse];exact p1) (by rw [List.head?_reverse];exact r2) (by rw [List.getLast?_reverse];exact r1) xy,← kR,← kR,gE C1,gE C2]
 constructor
 ·rintro (⟨ha,hb,hab,he⟩ | ⟨ha,hb,hab,he⟩)
  ·have xu:=(be a ha b hb).mpr hab
   refine ⟨ha,hb,wZ xu,fun p hp=>⟨(he p hp).1,fun z=>?_⟩⟩
   unfold lo hi
   rw [if_neg (cH xu),if_pos xu,be a ha p hp,be p hp b hb]
   exact (he p hp).2 z
  ·have ha:=List.mem_reverse.mp ha
   have hb:=List.mem_reverse.mp hb
   have xu:=(bw b hb a ha).mpr hab
   refine ⟨ha,hb,(wZ xu).symm,fun p hp=>?_⟩
   have IP:=he p (List.mem_reverse.mpr hp)
   refine ⟨IP.1,fun z=>?_⟩
   unfold lo hi
   rw [if_pos xu,if_neg (cH xu),bw b hb p hp,bw p hp a ha]
   exact fun k=>IP.2 z ⟨k.2,k.1⟩
 ·rintro ⟨ha,hb,hab,he⟩
  rcases i7 a b with k | k | k
  ·refine .inl ⟨ha,hb,(be a ha b hb).mp k,fun p hp=>⟨(he p hp).1,fun z=>?_⟩⟩
   have:=(he p hp).2 z
   unfold lo hi at this
   rw [if_neg (cH k),if_pos k,be a ha p hp,be p hp b hb] at this
   exact this
  ·exact absurd k hab
  ·refine .inr ⟨List.mem_reverse.mpr ha,List.mem_reverse.mpr hb,(bw b hb a ha).mp k,fun p hp=>?_⟩
   have hp:=List.mem_reverse.mp hp
   refine ⟨(he p hp).1,fun z=>?_⟩
   have:=(he p hp).2 z
   unfold lo hi at this
   rw [if_pos k,if_neg (cH k),bw b hb p hp,bw p hp a ha] at this
   exact fun y=>this ⟨y.2,y.1⟩
end L3
namespace L3
theorem uf:∀ (l:List Pl),l≠[]→∃ m∈l,∀ z∈l,¬ bQ z m
 | [],e=>absurd rfl e
 | [p],_=>⟨p,by simp,fun z hz=>by rw [List.mem_singleton.mp hz];exact cP _⟩
 | p :: q :: l,_=>by
   obtain ⟨m,hm,k⟩:=uf (q :: l) (by simp)
   by_cases c:bQ p m
   ·exact ⟨p,by simp,fun z hz=>by
     rcases List.mem_cons.mp hz with rfl | hz
     ·exact cP _
     ·exact fun y=>k z hz (c8 y c)⟩
   ·exact ⟨m,List.mem_cons_of_mem _ hm,fun z hz=>by
     rcases List.mem_cons.mp hz with rfl | hz
     ·exact c
     ·exact k z hz⟩
theorem yI:∀ (l:List Pl),l≠[]→∃ m∈l,∀ z∈l,¬ bQ m z
 | [],e=>absurd rfl e
 | [p],_=>⟨p,by simp,fun z hz=>by rw [List.mem_singleton.mp hz];exact cP _⟩
 | p :: q :: l,_=>by
   obtain ⟨m,hm,k⟩:=yI (q :: l) (by simp)
   by_cases c:bQ m p
   ·exact ⟨p,by simp,fun z hz=>by
     rcases List.mem_cons.mp hz with rfl | hz
     ·exact cP _
     ·exact fun y=>k z hz (c8 c y)⟩
   ·exact ⟨m,List.mem_cons_of_mem _ hm,fun z hz=>by
     rcases List.mem_cons.mp hz with rfl | hz
     ·exact c
     ·exact k z hz⟩
theorem qj {ps:List Pl} (h:ps.length < 2):Flat ps:=by
 match ps,h with
 | [],_=>exact fun p hp=>by cases hp
 | [x],_=>
   intro p hp q hq r hr
   rw [List.mem_singleton.mp hp,List.mem_singleton.mp hq,List.mem_singleton.mp hr]
   exact pT x x
theorem zQ {qs:List Pl} (hs:qs.Pairwise (fun a b=> ¬ bQ b a)) (nd:qs.Nodup):qs.Pairwise (fun p q=>bQ p q):=by
 refine (hs.and nd).imp fun {a b} h=>?_
 rcases i7 a b with k | k | k
 ·exact k
 ·exact absurd k h.2
 ·exact absurd k h.1
end L3
namespace L3
open PySem L2
def Tr (t:List Pl):Prop:= ∃ a b c:Pl,t= [a,b,c]∧a.Ok 140∧b.Ok 140∧c.Ok 140
def IQ:List Pl→Prop
 | [a,b,c]=>(¬ bQ b a∧¬ bQ c a)∧0 < tw a b c
 | _=>False
def dm:List Pl→List (List Pl)
 | [a,b,c]=>[[a,b],[b,c],[c,a]]
 | _=>[]
def cD (ts:List (List Pl)):List (List Pl):=ts.flatMap dm
def Fs {α:Type} (ts:List α) (P:α→Prop):Option α→Prop
 | none=> ∀ t∈ts,¬ P t
 | some t=> ∃ i:Nat,ts[i]?=some t∧P t∧∀ (j:Nat) (u:α),j < i→ts[j]?=some u→¬ P u
def oT:Option (List Pl)→D
 | none=> .bE
 | some t=>tD t
def oP:Option Pl→D
 | none=> .bE
 | some p=>p.d
def IS (W:List Pl→Prop):Option (List Pl)→Prop
 | none=> ∀ w,¬ W w
 | some m=>W m∧∀ z,W z→dR z m=false
def IT (W:Pl→Prop):Option Pl→Prop
 | none=> ∀ w,¬ W w
 | some m=>W m∧∀ z,W z→¬ bQ z m
theorem zR {ts:List (List Pl)} {i:Nat} {t:List Pl} (h:ts[i]?=some t):cD (ts.take (i+1))=cD (ts.take i) ++ dm t:=by
 unfold cD
 rw [List.take_succ,h,List.flatMap_append]
 simp
theorem BJ (t:List Pl):(dm t).length≤3:=by
 unfold dm
 split <;> simp
theorem vS:∀ (ts:List (List Pl)),(cD ts).length≤3*ts.length
 | []=>by simp [cD]
 | t :: ts=>by
   have h1:=vS ts
   have h2:=BJ t
   show (dm t ++ cD ts).length≤_
   rw [List.length_append,List.length_cons]
   omega
theorem BK (s t:List Pl):cX (tD s) (tD t)=decide (s=t):=by
 unfold tD
 rw [gQ]
 induction s generalizing t with
 | nil=>
   cases t with
   | nil=>rfl
   | cons q t=>simp [gB]
 | cons p s ih=>
   cases t with
   | nil=>simp [gB]
   | cons q t=>
     rw [List.map_cons,List.map_cons,eF,cO,ih,Bool.eq_iff_iff]
     simp
theorem Ds (t:List Pl) (ts:List (List Pl)):inD (tD t) (ts.map tD)=decide (t∈ts):=by
 rw [Bool.eq_iff_iff,decide_eq_true_iff]
 unfold inD
 rw [List.any_eq_true]
 constructor
 ·rintro ⟨d,hd,e⟩
  obtain ⟨u,hu,rfl⟩:=List.mem_map.mp hd
  rw [BK,decide_eq_true_iff] at e
  rw [← e]
  exact hu
 ·intro h
  exact ⟨tD t,List.mem_map.mpr ⟨t,h,rfl⟩,by rw [BK];simp⟩
def Ov (ws:List (List Pl)) (w:List Pl):Prop:=w∈ws∧1 < ws.count w
def LA (ws bs:List (List Pl)) (w:List Pl):Prop:=(w∈ws∧w.reverse∉ws∧w∉bs)∨(w∈bs∧w∉ws)
def Ow (ps:List Pl) (ts:List (List Pl)) (p:Pl):Prop:=p∈ps∧∀ t∈ts,p∉t
def Ge (t:List Pl) (d:Pl):Prop:=match t with
 | [a,b,c]=>Mr a b c d
 | _=>False
theorem zS (w:List Pl):plain 9 (tD w)=true:=List.all_eq_true.mp (dG [w]) _ (by simp)
def Ox (ts:List (List Pl)) (ps:List Pl):Option (List Pl ×Pl)→Prop
 | none=> ∀ t∈ts,∀ d∈ps,¬ Ge t d
 | some (t,d)=>Fs ts (fun t=> ∃ d∈ps,Ge t d) (some t)∧IT (fun d=>d∈ps∧Ge t d) (some d)
inductive Flt where
 | Eo (t:List Pl) | flat (t:List Pl) | BL (w:List Pl) | bare (w:List Pl) | BN (p:Pl) | BO (t:List Pl) (d:Pl)
def fD:Option Flt→D
 | none=> .bE
 | some (.Eo t)=> .tup [.str (Str.ofString "alien"),tD t]
 | some (.flat t)=> .tup [.str (Str.ofString "flat"),tD t]
 | some (.BL w)=> .tup [.str (Str.ofString "double"),tD w]
 | some (.bare w)=> .tup [.str (Str.ofString "bare"),tD w]
 | some (.BN p)=> .tup [.str (Str.ofString "lonely"),p.d]
 | some (.BO t d)=> .tup [.str (Str.ofString "spoilt"),tD t,d.d]
def LB (ps:List Pl) (ts bs:List (List Pl)) (r:Option Flt):Prop:=
 ∃ (d b:Option (List Pl)) (l:Option Pl),IS (Ov (cD ts)) d∧(d=none→IS (LA (cD ts) bs) b)∧(d=none→b=none→IT (Ow ps ts) l)∧
   r=match d,b,l with
    | some w,_,_=>some (.BL w)
    | none,some w,_=>some (.bare w)
    | none,none,some p=>some (.BN p)
    | none,none,none=>none
def Dt (ps:List Pl) (ts bs:List (List Pl)) (r:Option Flt):Prop:=
 ∃ (al fl:Option (List Pl)),Fs ts (fun t=> ∃ q∈t,q∉ps) al∧(al=none→Fs ts (fun t=> ¬ IQ t) fl)∧
   match al,fl with
   | some t,_=>r=some (.Eo t)
   | none,some t=>r=some (.flat t)
   | none,none=>(Flat ps→r=none)∧(¬ Flat ps→∃ (cf:Option Flt) (sp:Option (List Pl ×Pl)),LB ps ts bs cf∧(cf=none→Ox ts ps sp)∧r=match cf,sp with
     | some f,_=>some f
     | none,some (t,d)=>some (.BO t d)
     | none,none=>none)
def oF (ps t:List Pl):Prop:=j4 t∧∀ q∈t,q∈ps
theorem oF.tr {ps t:List Pl} (h:oF ps t) (ho:∀ q∈ps,q.Ok 140):Tr t:=by
 obtain ⟨⟨u,v,w,rfl,_⟩,h2⟩:=h
 exact ⟨u,v,w,rfl,ho u (h2 u (by simp)),ho v (h2 v (by simp)),ho w (h2 w (by simp))⟩
end L3
namespace L3
def prs:List Pl→List (List Pl)
 | x :: y :: r=>[x,y] :: prs (y :: r)
 | _=>[]
theorem yJ (h:Pl) (r:List Pl):∀ X:List Pl,prs (X ++ h :: r)=prs (X ++ [h]) ++ prs (h :: r)
 | []=>rfl
 | [x]=>rfl
 | x :: y :: X=>by
   have ih:=yJ h r (y :: X)
   show [x,y] :: prs (y :: X ++ h :: r)= [x,y] :: prs (y :: X ++ [h]) ++ prs (h :: r)
   rw [ih]
   rfl
theorem yK:∀ (x:Pl) (r:List Pl) (z:Pl),List.zipWith (fun p q=>[p,q]) (x :: r) (r ++ [z])=prs (x :: r ++ [z])
 | x,[],z=>rfl
 | x,y :: r,z=>by
   show [x,y] :: List.zipWith (fun p q=>[p,q]) (y :: r) (r ++ [z])= [x,y] :: prs (y :: r ++ [z])
   rw [yK y r z]
theorem ug:∀ (l:List Pl) (w:List Pl),w∈prs l→∃ a b,w= [a,b]∧Nx l a b
 | [],_,h=>by cases h
 | [_],_,h=>by cases h
 | x :: y :: r,w,h=>by
   rcases List.mem_cons.mp h with h | h
   ·exact ⟨x,y,h,.inl ⟨rfl,rfl⟩⟩
   ·obtain ⟨a,b,e,k⟩:=ug (y :: r) w h
    exact ⟨a,b,e,.inr k⟩
theorem BP:∀ (l:List Pl) (a b:Pl),Nx l a b→[a,b]∈prs l
 | [],_,_,h=>h.elim
 | [_],_,_,h=>h.elim
 | x :: y :: r,a,b,h=>by
   rcases h with ⟨rfl,rfl⟩ | h
   ·exact List.mem_cons_self ..
   ·exact List.mem_cons_of_mem _ (BP (y :: r) a b h)
theorem zT {T H:List Pl} {lo hi:Pl} (t1:T.head?=some lo) (t2:T.getLast?=some hi) (h1:H.head?=some hi) (h2:H.getLast?=some lo) (hne:lo≠hi) :
 List.zipWith (fun p q=>[p,q]) (T.dropLast ++ H.dropLast) ((T.dropLast ++ H.dropLast).drop 1 ++ (T.dropLast ++ H.dropLast).take 1)=prs T ++ prs H:=by
 have eT:=fY t2
 have eH:=fY h2
 obtain ⟨X,hX⟩:∃ X,T.dropLast=lo :: X:=by
  cases e:T.dropLast with
  | nil=>
    rw [e] at eT
    rw [eT] at t1
    exact absurd (Option.some.inj t1).symm hne
  | cons x X=>
    rw [e] at eT
    rw [eT] at t1
    exact ⟨X,by rw [Option.some.inj t1]⟩
 obtain ⟨Y,hY⟩:∃ Y,H=hi :: Y:=by
  cases e:H with
  | nil=>rw [e] at h1;cases h1
  | cons x X=>rw [e] at h1;exact ⟨X,by rw [Option.some.inj h1]⟩
 rw [hX]
 show List.zipWith (fun p q=>[p,q]) (lo :: (X ++ H.dropLast)) ((X ++ H.dropLast) ++ [lo])=_
 rw [yK]
 have e1:lo :: (X ++ H.dropLast) ++ [lo]=(lo :: X) ++ (H.dropLast ++ [lo]):=by simp
 rw [e1,← eH]
 conv=>lhs;rw [hY,yJ,← hY]
 rw [← hX,← eT]
theorem Ep {z:Pl}:∀ {l:List Pl},l.getLast?=some z→2≤l.length→∃ e,Nx l e z
 | [],_,h=>by simp at h
 | [_],_,h=>by simp at h
 | [x,y],e,_=>⟨x,.inl ⟨rfl,by simpa using e⟩⟩
 | x :: y :: u :: r,e,_=>by
   obtain ⟨e',k⟩:=Ep (l:=y :: u :: r) (by simpa using e) (by simp)
   exact ⟨e',.inr k⟩
theorem qk {w:Way} {S:List Pl}:∀ {st:List Pl},k9 w S st→st.Pairwise (fun b a=>w.f a < w.f b)
 | [],_=> .nil
 | [_],_=>by simp
 | y :: x :: r,e=>by
   obtain ⟨e1,_,e3⟩:=e
   have ih:=qk e3
   refine List.pairwise_cons.mpr ⟨fun z hz=>?_,ih⟩
   rcases List.mem_cons.mp hz with rfl | hz
   ·exact e1
   ·have:=(List.pairwise_cons.mp ih).1 z hz
    omega
theorem Ch.nodup {w:Way} {S st:List Pl} (C:Ch w S st):st.Nodup:=(qk C.Dq).imp fun h e=>by rw [e] at h;omega
theorem sV {l m:List Pl} (nd:l.Nodup) (sub:∀ x∈l,x∈m):l.length≤m.length:=by
 induction l generalizing m with
 | nil=>simp
 | cons a l ih=>
   obtain ⟨h1,h2⟩:=List.nodup_cons.mp nd
   have ma:=sub a (List.mem_cons_self ..)
   have:=ih (m:=m.erase a) h2 fun x hx=>(List.mem_erase_of_ne (show x≠a from fun e=>h1 (e▸hx))).mpr (sub x (List.mem_cons_of_mem _ hx))
   rw [List.length_erase_of_mem ma] at this
   have:0 < m.length:=List.length_pos_of_mem ma
   rw [List.length_cons]
   omega
theorem xw {w:Way} {x b e p:Pl} (h1:w.f x < w.f b) (h2:w.f x < w.f e) (h3:w.f x < w.f p) (h:0≤tw x b e) (s1:tw x b p < 0) (s2:tw e x p < 0):False:=by
 have key:=gD w.al w.be (b.x - x.x) (b.y - x.y) (e.x - x.x) (e.y - x.y) (p.x - x.x) (p.y - x.y)
 have s2':0 < (e.x - x.x)*(p.y - x.y) - (e.y - x.y)*(p.x - x.x):=by
  unfold tw at s2
  grind
 unfold Way.f at h1 h2 h3
 unfold tw at h s1
 have k1:0 < w.al*(b.x - x.x)+w.be*(b.y - x.y):=by grind
 have k2:0 < w.al*(e.x - x.x)+w.be*(e.y - x.y):=by grind
 have k3:0 < w.al*(p.x - x.x)+w.be*(p.y - x.y):=by grind
 have r1:=Int.mul_pos k1 s2'
 have r2:0≤(w.al*(p.x - x.x)+w.be*(p.y - x.y))*((b.x - x.x)*(e.y - x.y) - (b.y - x.y)*(e.x - x.x)):=Int.mul_nonneg (by omega) h
 have r3:(w.al*(e.x - x.x)+w.be*(e.y - x.y))*((b.x - x.x)*(p.y - x.y) - (b.y - x.y)*(p.x - x.x)) < 0:=Int.mul_neg_of_pos_of_neg k2 s1
 omega
def zh (p:Pl):List Pl→Bool
 | [a,b]=>decide (tw a b p < 0)
 | _=>false
end L3
namespace L3
def lX (bd:List Pl) (k:Nat):Option Pl:=if k=0 then bd.getLast? else bd[k - 1]?
theorem uh {bd:List Pl} {k:Nat} {a b:Pl} (hb:bd[k]?=some b) (ha:lX bd k=some a): [a,b]∈List.zipWith (fun p q=>[p,q]) bd (bd.drop 1 ++ bd.take 1):=by
 have lk:k < bd.length:=(List.getElem?_eq_some_iff.mp hb).1
 unfold lX at ha
 rw [List.mem_iff_getElem?]
 by_cases c:k=0
 ·subst c
  rw [if_pos rfl,List.getLast?_eq_getElem?] at ha
  refine ⟨bd.length - 1,?_⟩
  have e2:(bd.drop 1 ++ bd.take 1)[bd.length - 1]?=some b:=by
   rw [List.getElem?_append_right (by rw [List.length_drop];omega),List.length_drop,Nat.sub_self,List.getElem?_take_of_lt (by omega)]
   exact hb
  rw [List.getElem?_zipWith,ha,e2]
 ·rw [if_neg c] at ha
  refine ⟨k - 1,?_⟩
  have e2:(bd.drop 1 ++ bd.take 1)[k - 1]?=some b:=by
   rw [List.getElem?_append_left (by rw [List.length_drop];omega),List.getElem?_drop,show 1+(k - 1)=k by omega]
   exact hb
  rw [List.getElem?_zipWith,ha,e2]
theorem vU:∀ {as bs:List Pl},as.Perm bs→as.Pairwise (fun a b=> ¬ bQ b a)→bs.Pairwise (fun a b=> ¬ bQ b a)→as=bs
 | [],bs,h,_,_=>by rw [List.nil_perm.mp h]
 | a :: as,[],h,_,_=>by simp at h
 | a :: as,b :: bs,h,h1,h2=>by
   obtain ⟨p1,p2⟩:=List.pairwise_cons.mp h1
   obtain ⟨q1,q2⟩:=List.pairwise_cons.mp h2
   have e:a=b:=by
    rcases i7 a b with k | k | k
    ·rcases List.mem_cons.mp (h.mem_iff.mp (List.mem_cons_self (a:=a) (l:=as))) with z | z
     ·exact z
     ·exact absurd k (q1 a z)
    ·exact k
    ·rcases List.mem_cons.mp (h.mem_iff.mpr (List.mem_cons_self (a:=b) (l:=bs))) with z | z
     ·exact z.symm
     ·exact absurd k (p1 b z)
   subst e
   rw [vU (List.Perm.cons_inv h) p2 q2]
end L3
namespace L3
def dD (Q:List Pl):Prop:=Q.Pairwise (fun p q=>bQ p q)∧∀ q∈Q,q.y.natAbs < 2 ^ 140
def aZ (Q:List Pl) (a b:Pl):Prop:=a∈Q∧b∈Q∧a≠b∧Ly a b Q
def SL (Q:List Pl):List (List Pl):=cQ (cj Q)
theorem ql {Q:List Pl} (h:Q.length < 2):SL Q= []:=by
 unfold SL cj
 rw [if_pos h]
 unfold cQ
 rw [if_pos h]
theorem yL {Q:List Pl} (s:dD Q) (h:2≤Q.length):2≤(cj Q).length∧SL Q=List.zipWith (fun p q=>[p,q]) (cj Q) ((cj Q).drop 1 ++ (cj Q).take 1)∧∀ a b,[a,b]∈SL Q↔aZ Q a b:=by
 obtain ⟨lb,char⟩:=zP s.1 s.2 h
 have eo:cj Q=(Q.foldl aR []).reverse.dropLast ++ (Q.reverse.foldl aR []).reverse.dropLast:=by unfold cj;rw [if_neg (by omega)]
 rw [← eo] at lb char
 have e:SL Q=List.zipWith (fun p q=>[p,q]) (cj Q) ((cj Q).drop 1 ++ (cj Q).take 1):=by
  unfold SL cQ
  rw [if_neg (by omega)]
 exact ⟨lb,e,fun a b=>by rw [e];exact char a b⟩
theorem mU {Q:List Pl} {a b:Pl} (h:aZ Q a b):2≤Q.length:=sV (l:=[a,b]) (by simp [h.2.2.1]) (fun x hx=>by
 simp only [List.mem_cons,List.not_mem_nil,or_false] at hx
 rcases hx with rfl | rfl
 ·exact h.1
 ·exact h.2.1)
theorem dX {Q:List Pl} (s:dD Q) {a b:Pl}: [a,b]∈SL Q↔aZ Q a b:=by
 by_cases h:2≤Q.length
 ·exact (yL s h).2.2 a b
 ·rw [ql (by omega)]
  exact ⟨(fun z=>by cases z),fun z=>absurd (mU z) h⟩
theorem lY {Q w:List Pl} (h:w∈SL Q):∃ a b,w= [a,b]:=by
 unfold SL cQ at h
 split at h
 ·cases h
 ·exact sU _ _ _ h
theorem Du {Q:List Pl} (s:dD Q) {a b:Pl} (h:aZ Q a b):∃ c,aZ Q c a:=by
 obtain ⟨lb,e,char⟩:=yL s (mU h)
 have m:=(char a b).mpr h
 rw [e] at m
 obtain ⟨i,hi⟩:=List.mem_iff_getElem?.mp m
 rw [List.getElem?_zipWith] at hi
 have ha:(cj Q)[i]?=some a:=by
  cases e1:(cj Q)[i]? with
  | none=>rw [e1] at hi;simp at hi
  | some u=>
    rw [e1] at hi
    cases e2:((cj Q).drop 1 ++ (cj Q).take 1)[i]? with
    | none=>rw [e2] at hi;simp at hi
    | some v=>rw [e2] at hi;simp at hi;rw [hi.1]
 have li:=(List.getElem?_eq_some_iff.mp ha).1
 obtain ⟨c,hc⟩:∃ c,lX (cj Q) i=some c:=by
  unfold lX
  split
  ·exact ⟨_,List.getLast?_eq_some_getLast (fun z=>by rw [z] at lb;simp at lb)⟩
  ·exact ⟨_,List.getElem?_eq_getElem (by omega)⟩
 have:=uh ha hc
 rw [← e] at this
 exact ⟨c,(char c a).mp this⟩
theorem vV {Q:List Pl} (s:dD Q) {a b:Pl} (h:aZ Q a b):∃ c,aZ Q b c:=by
 obtain ⟨lb,e,char⟩:=yL s (mU h)
 have m:=(char a b).mpr h
 rw [e] at m
 have hb:b∈cj Q:=by
  obtain ⟨i,hi⟩:=List.mem_iff_getElem?.mp m
  rw [List.getElem?_zipWith] at hi
  cases e1:(cj Q)[i]? with
  | none=>rw [e1] at hi;simp at hi
  | some u=>
    rw [e1] at hi
    cases e2:((cj Q).drop 1 ++ (cj Q).take 1)[i]? with
    | none=>rw [e2] at hi;simp at hi
    | some v=>
      rw [e2] at hi
      simp at hi
      have mv:=List.mem_of_getElem? e2
      rw [hi.2] at mv
      rcases List.mem_append.mp mv with z | z
      ·exact List.mem_of_mem_drop z
      ·exact List.mem_of_mem_take z
 obtain ⟨j,hj⟩:=List.mem_iff_getElem?.mp hb
 have lj:=(List.getElem?_eq_some_iff.mp hj).1
 by_cases c:j+1 < (cj Q).length
 ·have:=uh (k:=j+1) (List.getElem?_eq_getElem c) (show lX (cj Q) (j+1)=some b by unfold lX;rw [if_neg (by omega)];exact hj)
  rw [← e] at this
  exact ⟨_,(char _ _).mp this⟩
 ·have:=uh (bd:=cj Q) (k:=0) (a:=b) (List.getElem?_eq_getElem (by omega)) (by unfold lX;rw [if_pos rfl,List.getLast?_eq_getElem?,show (cj Q).length - 1=j by omega];exact hj)
  rw [← e] at this
  exact ⟨_,(char _ _).mp this⟩
theorem nN:∀ {l:List Pl},l.Nodup→(prs l).Nodup
 | [],_=> .nil
 | [_],_=> .nil
 | x :: y :: r,h=>by
   obtain ⟨h1,h2⟩:=List.nodup_cons.mp h
   refine List.nodup_cons.mpr ⟨fun z=>?_,nN h2⟩
   obtain ⟨a,b,e,k⟩:=ug _ _ z
   have:x=a:=by injection e
   rw [this] at h1
   have key:∀ (l:List Pl) (a b:Pl),Nx l a b→a∈l:=fun l=>by
    induction l with
    | nil=>intro a b k;exact k.elim
    | cons u l ih=>
      intro a b k
      cases l with
      | nil=>exact k.elim
      | cons v l=>
        rcases k with ⟨rfl,_⟩ | k
        ·simp
        ·exact List.mem_cons_of_mem _ (ih a b k)
   exact h1 (key _ _ _ k)
theorem sW {Q:List Pl} (s:dD Q) (h2:2≤Q.length):(SL Q).Nodup∧∀ y,Q.getLast?=some y→∃ e,aZ Q e y:=by
 obtain ⟨hs,hok⟩:=s
 have hne:Q≠[]:=fun z=>by rw [z] at h2;simp at h2
 obtain ⟨x,hx⟩:∃ x,Q.head?=some x:=by
  cases e:Q with
  | nil=>exact absurd e hne
  | cons x r=>exact ⟨x,rfl⟩
 obtain ⟨y,hy⟩:∃ y,Q.getLast?=some y:=⟨_,List.getLast?_eq_some_getLast hne⟩
 have mx:x∈Q:=List.mem_of_mem_head? hx
 have my:y∈Q:=List.mem_of_getLast? hy
 have hend:=fm hs hx hy
 have be:∀ p∈Q,∀ q∈Q,(bQ p q↔ao.f p < ao.f q):=fun p hp q hq=>j7 (hok p hp) (hok q hq)
 have bw:∀ p∈Q,∀ q∈Q,(bQ p q↔oR.f q < oR.f p):=fun p hp q hq=>by
  rw [be p hp q hq,gn,gn]
  omega
 have xy:x≠y:=by
  intro e
  cases e1:Q with
  | nil=>exact absurd e1 hne
  | cons u r=>
    cases r with
    | nil=>rw [e1] at h2;simp at h2
    | cons v r=>
      rw [e1] at hx hy hs
      have eu:u=x:=by simpa using hx
      have Lz:y∈v :: r:=List.mem_of_getLast? (by simpa using hy)
      have:=(List.pairwise_cons.mp hs).1 y Lz
      rw [eu,e] at this
      exact cP _ this
 have C1:Ch ao Q (Q.foldl aR []):=j6 hne (hs.imp_of_mem fun hp hq h=>(be _ hp _ hq).mp h)
 have C2:Ch oR Q.reverse (Q.reverse.foldl aR []):=j6 (by simpa using hne) (List.pairwise_reverse.mpr (hs.imp_of_mem fun hp hq h=>(bw _ hp _ hq).mp h))
 have key:∀ p∈Q,∀ q∈Q,(p=q∨bQ p q)→ao.f p≤ao.f q∧oR.f q≤oR.f p:=fun p hp q hq k=>by
  rcases k with rfl | k
  ·exact ⟨Int.le_refl _,Int.le_refl _⟩
  ·have a1:=(be p hp q hq).mp k
   have a2:=(bw p hp q hq).mp k
   omega
 obtain ⟨p1,p2⟩:=C1.ends mx my (fun q hq=>(key x mx q hq ((hend q hq).1.imp Eq.symm id)).1) (fun q hq=>(key q hq y my (hend q hq).2).1)
 obtain ⟨r1,r2⟩:=C2.ends (lo:=y) (hi:=x) (by simpa using my) (by simpa using mx) (fun q hq=>by have hq:=List.mem_reverse.mp hq;exact (key q hq y my (hend q hq).2).2) (fun q hq=>by have hq:=List.mem_reverse.mp hq;exact (key x mx q hq ((hend q hq).1.imp Eq.symm id)).2)
 have e0:=zT (lo:=x) (hi:=y) (T:=(Q.foldl aR []).reverse) (H:=(Q.reverse.foldl aR []).reverse) (by rw [List.head?_reverse];exact p2) (by rw [List.getLast?_reverse];exact p1) (by rw [List.head?_reverse];exact r2) (by rw [List.getLast?_reverse];exact r1) xy
 obtain ⟨lb,e,char⟩:=yL ⟨hs,hok⟩ h2
 have eo:cj Q=(Q.foldl aR []).reverse.dropLast ++ (Q.reverse.foldl aR []).reverse.dropLast:=by unfold cj;rw [if_neg (by omega)]
 have es:SL Q=prs (Q.foldl aR []).reverse ++ prs (Q.reverse.foldl aR []).reverse:=by
  rw [e,eo]
  exact e0
 have Oz:∀ a b,Nx (Q.foldl aR []).reverse a b→ao.f a < ao.f b:=fun a b k=>((gE C1).mp ((kR _ a b).mpr k)).2.2.1
 have OA:∀ a b,Nx (Q.reverse.foldl aR []).reverse a b→ao.f b < ao.f a:=fun a b k=>by
  have h3:=((gE C2).mp ((kR _ a b).mpr k)).2.2.1
  rw [gn,gn] at h3
  omega
 have n1:=C1.nodup
 have n2:=C2.nodup
 constructor
 ·rw [es]
  refine List.nodup_append.mpr ⟨nN ((List.reverse_perm _).nodup_iff.mpr n1),nN ((List.reverse_perm _).nodup_iff.mpr n2),fun v hv u hu z=>?_⟩
  subst z
  obtain ⟨a,b,rfl,k1⟩:=ug _ _ hv
  obtain ⟨c,d,e2,k2⟩:=ug _ _ hu
  injection e2 with e3 e2
  injection e2 with e4 _
  rw [← e3,← e4] at k2
  have:=Oz a b k1
  have:=OA a b k2
  omega
 ·intro y' hy'
  rw [hy] at hy'
  cases hy'
  obtain ⟨e1,k⟩:=Ep (l:=(Q.foldl aR []).reverse) (z:=y) (by rw [List.getLast?_reverse];exact p1) (by rw [List.length_reverse];exact qi p1 p2 (Ne.symm xy))
  exact ⟨e1,(char e1 y).mp (by rw [es];exact List.mem_append_left _ (BP _ _ _ k))⟩
theorem mV {Q:List Pl} (s:dD Q):(SL Q).Nodup:=by
 by_cases h:2≤Q.length
 ·exact (sW s h).1
 ·rw [ql (by omega)]
  exact .nil
theorem nO (w:Way) (u v p o:Pl):(w.f v - w.f o)*tw o u p=(w.f u - w.f o)*tw o v p+(w.f p - w.f o)*tw o u v:=by
 unfold Way.f tw
 grind
theorem mW (a b c:Pl):tw b c a=tw a b c:=by unfold tw;grind
theorem xx (a b c:Pl):tw c a b=tw a b c:=by unfold tw;grind
theorem cT (a b c:Pl):tw b a c= - tw a b c:=by unfold tw;grind
theorem oG (a b c:Pl):tw a c b= - tw a b c:=by unfold tw;grind
section
variable {Q:List Pl} {p:Pl}
def Gf (Q:List Pl) (p:Pl):Prop:=(∀ q∈Q,bQ q p)∧p.y.natAbs < 2 ^ 140
theorem dD.f (s:dD Q) {a b:Pl} (ha:a∈Q) (hb:b∈Q):bQ a b↔ao.f a < ao.f b:=j7 (s.2 a ha) (s.2 b hb)
theorem dD.inj (s:dD Q) {a b:Pl} (ha:a∈Q) (hb:b∈Q) (e:ao.f a=ao.f b):a=b:=by
 rcases i7 a b with k | k | k
 ·have:=(s.f ha hb).mp k;omega
 ·exact k
 ·have:=(s.f hb ha).mp k;omega
theorem Gf.f (s:dD Q) (h:Gf Q p) {a:Pl} (ha:a∈Q):ao.f a < ao.f p:=(j7 (s.2 a ha) h.2).mp (h.1 a ha)
theorem dg (s:dD Q) {a b q:Pl} (h:aZ Q a b) (hq:q∈Q) (z:tw a b q=0):¬ ((ao.f a < ao.f q∧ao.f q < ao.f b)∨(ao.f b < ao.f q∧ao.f q < ao.f a)):=by
 obtain ⟨ha,hb,ne,r⟩:=h
 have r2:=(r q hq).2 z
 unfold lo hi at r2
 rintro (⟨k1,k2⟩ | ⟨k1,k2⟩)
 ·have ab:bQ a b:=(s.f ha hb).mpr (by omega)
  rw [if_neg (cH ab),if_pos ab] at r2
  exact r2 ⟨(s.f ha hq).mpr k1,(s.f hq hb).mpr k2⟩
 ·have ba:bQ b a:=(s.f hb ha).mpr (by omega)
  rw [if_pos ba,if_neg (cH ba)] at r2
  exact r2 ⟨(s.f hb hq).mpr k1,(s.f hq ha).mpr k2⟩
theorem qm (s:dD Q) {a b:Pl} (ha:a∈Q) (hb:b∈Q) (h:∀ q∈Q,0≤tw a b q∧(tw a b q=0→¬ ((ao.f a < ao.f q∧ao.f q < ao.f b)∨(ao.f b < ao.f q∧ao.f q < ao.f a)))):Ly a b Q:=fun q hq=>⟨(h q hq).1,fun z k=>(h q hq).2 z (by
 unfold lo hi at k
 by_cases c:bQ b a
 ·rw [if_pos c,if_neg (cH c)] at k
  exact .inr ⟨(s.f hb hq).mp k.1,(s.f hq ha).mp k.2⟩
 ·rw [if_neg c] at k
  by_cases d:bQ a b
  ·rw [if_pos d] at k
   exact .inl ⟨(s.f ha hq).mp k.1,(s.f hq hb).mp k.2⟩
  ·rw [if_neg d] at k
   have:=(s.f ha hq).mp k.1
   have:=(s.f hq ha).mp k.2
   omega)⟩
theorem sX (s:dD Q) {a b:Pl} (ha:a∈Q) (hb:b∈Q) (ne:a≠b):ao.f a≠ao.f b:=fun z=>ne (s.inj ha hb z)
theorem sY (s:dD Q) {a b c:Pl} (h1:aZ Q a b) (h2:aZ Q a c) (s1:tw a b p < 0) (s2:tw a c p < 0):b=c:=by
 have z1:=(h1.2.2.2 c h2.2.1).1
 have z2:=(h2.2.2.2 b h1.2.1).1
 have z3:=oG a b c
 have z:tw a b c=0:=by omega
 have z':tw a c b=0:=by omega
 apply Classical.byContradiction
 intro ne
 have f1:=sX s h1.1 h1.2.1 h1.2.2.1
 have f2:=sX s h2.1 h2.2.1 h2.2.2.1
 have f3:=sX s h1.2.1 h2.2.1 ne
 have b1:=dg s h1 h2.2.1 z
 have b2:=dg s h2 h1.2.1 z'
 have key:=nO ao b c p a
 rw [z,Int.mul_zero,Int.add_zero] at key
 rcases Int.lt_or_lt_of_ne f1 with k | k
 ·rcases Int.lt_or_lt_of_ne f2 with l | l
  ·omega
  ·have e1:0 < (ao.f c - ao.f a)*tw a b p:=Int.mul_pos_of_neg_of_neg (by omega) s1
   have e2:(ao.f b - ao.f a)*tw a c p < 0:=Int.mul_neg_of_pos_of_neg (by omega) s2
   omega
 ·rcases Int.lt_or_lt_of_ne f2 with l | l
  ·have e1:(ao.f c - ao.f a)*tw a b p < 0:=Int.mul_neg_of_pos_of_neg (by omega) s1
   have e2:0 < (ao.f b - ao.f a)*tw a c p:=Int.mul_pos_of_neg_of_neg (by omega) s2
   omega
  ·omega
theorem vW (s:dD Q) {a b c:Pl} (h1:aZ Q b a) (h2:aZ Q c a) (s1:tw b a p < 0) (s2:tw c a p < 0):b=c:=by
 have z1:=(h1.2.2.2 c h2.1).1
 have z2:=(h2.2.2.2 b h1.1).1
 have z3:tw c a b= - tw b a c:=by unfold tw;grind
 have z:tw b a c=0:=by omega
 have z':tw c a b=0:=by omega
 apply Classical.byContradiction
 intro ne
 have f1:=sX s h1.1 h1.2.1 h1.2.2.1
 have f2:=sX s h2.1 h2.2.1 h2.2.2.1
 have f3:=sX s h1.1 h2.1 ne
 have b1:=dg s h1 h2.1 z
 have b2:=dg s h2 h1.1 z'
 have key:=nO ao b c p a
 have y1:tw a b p= - tw b a p:=cT b a p
 have y2:tw a c p= - tw c a p:=cT c a p
 have y3:tw a b c=0:=by have:=cT b a c;omega
 rw [y3,Int.mul_zero,Int.add_zero] at key
 have s1:0 < tw a b p:=by omega
 have s2:0 < tw a c p:=by omega
 rcases Int.lt_or_lt_of_ne f1 with k | k
 ·rcases Int.lt_or_lt_of_ne f2 with l | l
  ·omega
  ·have e1:0 < (ao.f c - ao.f a)*tw a b p:=Int.mul_pos (by omega) s1
   have e2:(ao.f b - ao.f a)*tw a c p < 0:=Int.mul_neg_of_neg_of_pos (by omega) s2
   omega
 ·rcases Int.lt_or_lt_of_ne f2 with l | l
  ·have e1:(ao.f c - ao.f a)*tw a b p < 0:=Int.mul_neg_of_neg_of_pos (by omega) s1
   have e2:0 < (ao.f b - ao.f a)*tw a c p:=Int.mul_pos (by omega) s2
   omega
  ·omega
theorem IU (c a b p q:Pl):tw c a p*tw a b q - tw a b p*tw c a q=tw c a b*tw a p q:=by unfold tw;grind
theorem IV (a b c p q:Pl):tw a b q*tw b c p - tw a b p*tw b c q=tw a b c*tw p b q:=by unfold tw;grind
theorem gS {a b:Pl} (ne:a≠b) (h:∀ q∈Q,tw a b q=0):Flat Q:=fun u hu v hv w hw=>BF ne (h u hu) (h v hv) (h w hw)
theorem zU (nf:¬ Flat Q) {a b c:Pl} (h1:aZ Q a b) (h2:aZ Q c a) (s1:tw a b p < 0) (s2:0≤tw c a p):∀ q∈Q,0≤tw a p q:=fun q hq=>by
 have z1:=(h1.2.2.2 q hq).1
 have z2:=(h2.2.2.2 q hq).1
 have z3:=(h2.2.2.2 b h1.2.1).1
 have key:=IU c a b p q
 have e1:0≤tw c a p*tw a b q:=Int.mul_nonneg s2 z1
 have e2:tw a b p*tw c a q≤0:=Int.mul_nonpos_of_nonpos_of_nonneg (by omega) z2
 rcases Int.lt_or_eq_of_le z3 with k | k
 ·exact nL k (by omega)
 ·exfalso
  refine nf (gS h2.2.2.1 fun r hr=>?_)
  have key:=IU c a b p r
  rw [← k,Int.zero_mul] at key
  have y1:=(h1.2.2.2 r hr).1
  have y2:=(h2.2.2.2 r hr).1
  have e1:0≤tw c a p*tw a b r:=Int.mul_nonneg s2 y1
  have e2:tw a b p*tw c a r≤0:=Int.mul_nonpos_of_nonpos_of_nonneg (by omega) y2
  have e3:tw a b p*tw c a r=0:=by omega
  rcases Int.mul_eq_zero.mp e3 with z | z
  ·omega
  ·exact z
theorem Dv (nf:¬ Flat Q) {a b c:Pl} (h1:aZ Q a b) (h2:aZ Q b c) (s1:tw a b p < 0) (s2:0≤tw b c p):∀ q∈Q,0≤tw p b q:=fun q hq=>by
 have z1:=(h1.2.2.2 q hq).1
 have z2:=(h2.2.2.2 q hq).1
 have z3:=(h1.2.2.2 c h2.2.1).1
 have key:=IV a b c p q
 have e1:0≤tw a b q*tw b c p:=Int.mul_nonneg z1 s2
 have e2:tw a b p*tw b c q≤0:=Int.mul_nonpos_of_nonpos_of_nonneg (by omega) z2
 rcases Int.lt_or_eq_of_le z3 with k | k
 ·exact nL k (by omega)
 ·exfalso
  refine nf (gS h2.2.2.1 fun r hr=>?_)
  have key:=IV a b c p r
  rw [← k,Int.zero_mul] at key
  have y1:=(h1.2.2.2 r hr).1
  have y2:=(h2.2.2.2 r hr).1
  have e1:0≤tw a b r*tw b c p:=Int.mul_nonneg y1 s2
  have e2:tw a b p*tw b c r≤0:=Int.mul_nonpos_of_nonpos_of_nonneg (by omega) y2
  have e3:tw a b p*tw b c r=0:=by omega
  rcases Int.mul_eq_zero.mp e3 with z | z
  ·omega
  ·exact z
theorem nP (s:dD Q) (fl:Flat Q) {a b:Pl} (ha:a∈Q) (hb:b∈Q) (ne:a≠b) (h:∀ q∈Q,¬ ((ao.f a < ao.f q∧ao.f q < ao.f b)∨(ao.f b < ao.f q∧ao.f q < ao.f a))):aZ Q a b:=
 ⟨ha,hb,ne,qm s ha hb fun q hq=>⟨by rw [fl a ha b hb q hq];omega,fun _=>h q hq⟩⟩
theorem yM (s:dD Q) {a q:Pl} (ha:a∈Q) (hq:q∈Q) (ne:q≠a):∃ c∈Q,c≠a∧(ao.f c < ao.f a↔ao.f q < ao.f a)∧∀ z∈Q,¬ ((ao.f a < ao.f z∧ao.f z < ao.f c)∨(ao.f c < ao.f z∧ao.f z < ao.f a)):=by
 have fq:=sX s hq ha ne
 rcases Int.lt_or_lt_of_ne fq with k | k
 ·obtain ⟨c,hc,mx⟩:=yI (Q.filter fun z=>decide (bQ z a)) (List.ne_nil_of_mem (List.mem_filter.mpr ⟨hq,decide_eq_true ((s.f hq ha).mpr k)⟩))
  obtain ⟨hc,ca⟩:=List.mem_filter.mp hc
  have ca:=(s.f hc ha).mp (of_decide_eq_true ca)
  refine ⟨c,hc,fun z=>by rw [z] at ca;omega,⟨fun _=>k,fun _=>ca⟩,fun z hz=>?_⟩
  rintro (⟨k1,k2⟩ | ⟨k1,k2⟩)
  ·omega
  ·exact mx z (List.mem_filter.mpr ⟨hz,decide_eq_true ((s.f hz ha).mpr k2)⟩) ((s.f hc hz).mpr k1)
 ·obtain ⟨c,hc,mn⟩:=uf (Q.filter fun z=>decide (bQ a z)) (List.ne_nil_of_mem (List.mem_filter.mpr ⟨hq,decide_eq_true ((s.f ha hq).mpr k)⟩))
  obtain ⟨hc,ca⟩:=List.mem_filter.mp hc
  have ca:=(s.f ha hc).mp (of_decide_eq_true ca)
  refine ⟨c,hc,fun z=>by rw [z] at ca;omega,⟨fun _=>by omega,fun _=>by omega⟩,fun z hz=>?_⟩
  rintro (⟨k1,k2⟩ | ⟨k1,k2⟩)
  ·exact mn z (List.mem_filter.mpr ⟨hz,decide_eq_true ((s.f ha hz).mpr k1)⟩) ((s.f hz hc).mpr k2)
  ·omega
theorem MN {x y A B:Int} (h:x*A=y*B) (hA:A < 0) (hB:0 < B):(0 < x→y < 0)∧(x < 0→0 < y)∧(x=0→y=0):=by
 refine ⟨fun k=>?_,fun k=>?_,fun k=>?_⟩
 ·have:=Int.mul_neg_of_pos_of_neg k hA
  apply Classical.byContradiction
  intro z
  have:=Int.mul_nonneg (a:=y) (b:=B) (by omega) (by omega)
  omega
 ·have:=Int.mul_pos_of_neg_of_neg k hA
  apply Classical.byContradiction
  intro z
  have:=Int.mul_nonpos_of_nonpos_of_nonneg (a:=y) (b:=B) (by omega) (by omega)
  omega
 ·rw [k,Int.zero_mul] at h
  rcases Int.mul_eq_zero.mp h.symm with z | z
  ·exact z
  ·omega
theorem LC {x y A B:Int} (h:x*A=y*B) (hA:A < 0) (hxy:(0 < x∧y < 0)∨(x < 0∧0 < y)):0 < B:=by
 apply Classical.byContradiction
 intro z
 rcases hxy with ⟨k,l⟩ | ⟨k,l⟩
 ·have:=Int.mul_neg_of_pos_of_neg k hA
  have:=Int.mul_nonneg_of_nonpos_of_nonpos (a:=y) (b:=B) (by omega) (by omega)
  omega
 ·have:=Int.mul_pos_of_neg_of_neg k hA
  have:=Int.mul_nonpos_of_nonneg_of_nonpos (a:=y) (b:=B) (by omega) (by omega)
  omega
theorem xD (s:dD Q) (fl:Flat Q) {a b:Pl} (h1:aZ Q a b) (s1:tw a b p < 0) (no:∀ c,aZ Q c a→0≤tw c a p):∀ q∈Q,0≤tw a p q:=fun q hq=>by
 apply Classical.byContradiction
 intro k
 have z0:=fl a h1.1 b h1.2.1 q hq
 have key:=nO ao b q p a
 rw [z0,Int.mul_zero,Int.add_zero] at key
 have e1:tw a q p= - tw a p q:=oG a p q
 have o1:=MN key s1 (by omega)
 have nq:q≠a:=fun z=>by rw [z] at k;have:=pU a p;omega
 obtain ⟨c,hc,nc,sg,LD⟩:=yM s h1.1 hq nq
 have f1:=sX s h1.2.1 h1.1 (Ne.symm h1.2.2.1)
 have f2:=sX s hq h1.1 nq
 have f3:=sX s hc h1.1 nc
 have sd:aZ Q c a:=nP s fl hc h1.1 nc fun z hz w=>LD z hz (by omega)
 have Dw:=nO ao b c p a
 rw [fl a h1.1 b h1.2.1 c hc,Int.mul_zero,Int.add_zero] at Dw
 have:=LC Dw s1 (by omega)
 have:=no c sd
 have:=cT a c p
 omega
theorem BQ (s:dD Q) (fl:Flat Q) {a b:Pl} (h1:aZ Q a b) (s1:tw a b p < 0) (no:∀ c,aZ Q b c→0≤tw b c p):∀ q∈Q,0≤tw p b q:=fun q hq=>by
 apply Classical.byContradiction
 intro k
 have z0:=fl b h1.2.1 a h1.1 q hq
 have key:=nO ao a q p b
 rw [z0,Int.mul_zero,Int.add_zero] at key
 have e1:tw b q p=tw p b q:=mW p b q
 have e2:=cT a b p
 have key:(ao.f a - ao.f b)*tw b q p=(ao.f q - ao.f b)*tw b a p:=key.symm
 have o1:=MN key (by omega) (by omega)
 have nq:q≠b:=fun z=>by rw [z] at k;have:=pT p b;have:tw p b b=0:=by unfold tw;grind
                        omega
 obtain ⟨c,hc,nc,sg,LD⟩:=yM s h1.2.1 hq nq
 have f1:=sX s h1.1 h1.2.1 h1.2.2.1
 have f2:=sX s hq h1.2.1 nq
 have f3:=sX s hc h1.2.1 nc
 have sd:aZ Q b c:=nP s fl h1.2.1 hc (Ne.symm nc) fun z hz w=>LD z hz (by omega)
 have Dw:=nO ao a c p b
 rw [fl b h1.2.1 a h1.1 c hc,Int.mul_zero,Int.add_zero] at Dw
 have nn:=no c sd
 have pos:0 < tw b a p:=by omega
 rcases Int.lt_or_lt_of_ne f3 with l | l
 ·have e3:(ao.f c - ao.f b)*tw b a p < 0:=Int.mul_neg_of_neg_of_pos (by omega) pos
  have e4:0≤(ao.f a - ao.f b)*tw b c p:=Int.mul_nonneg (by omega) nn
  omega
 ·have e3:0 < (ao.f c - ao.f b)*tw b a p:=Int.mul_pos (by omega) pos
  have e4:(ao.f a - ao.f b)*tw b c p≤0:=Int.mul_nonpos_of_nonpos_of_nonneg (by omega) nn
  omega
theorem zV (s:dD Q) (bh:Gf Q p) {a b q:Pl} (h1:aZ Q a b) (s1:tw a b p < 0) (hq:q∈Q) (z:tw a p q=0):¬ ao.f a < ao.f q:=fun k=>by
 have key:=nO ao b q p a
 have e1:tw a q p=0:=by have:=oG a p q;omega
 rw [e1,Int.mul_zero,Int.zero_add] at key
 have:=(h1.2.2.2 q hq).1
 have fp:=bh.f s h1.1
 have e2:(ao.f q - ao.f a)*tw a b p < 0:=Int.mul_neg_of_pos_of_neg (by omega) s1
 have e3:0≤(ao.f p - ao.f a)*tw a b q:=Int.mul_nonneg (by omega) this
 omega
theorem Dy (s:dD Q) (bh:Gf Q p) {a b q:Pl} (h1:aZ Q a b) (s1:tw a b p < 0) (hq:q∈Q) (z:tw p b q=0):¬ ao.f b < ao.f q:=fun k=>by
 have key:=nO ao a q p b
 have e1:tw b q p=0:=by have:=mW p b q;omega
 rw [e1,Int.mul_zero,Int.zero_add] at key
 have:=(h1.2.2.2 q hq).1
 have y1:=cT a b p
 have y2:=cT a b q
 have fp:=bh.f s h1.2.1
 have e2:0 < (ao.f q - ao.f b)*tw b a p:=Int.mul_pos (by omega) (by omega)
 have e3:(ao.f p - ao.f b)*tw b a q≤0:=Int.mul_nonpos_of_nonneg_of_nonpos (by omega) (by omega)
 omega
theorem dD.old (s:dD (Q ++ [p])):dD Q:=⟨(List.pairwise_append.mp s.1).1,fun q hq=>s.2 q (List.mem_append_left _ hq)⟩
theorem dD.xE (s:dD (Q ++ [p])):Gf Q p:=⟨fun q hq=>(List.pairwise_append.mp s.1).2.2 q hq p (by simp),s.2 p (by simp)⟩
theorem dD.out (s:dD (Q ++ [p])):p∉Q:=fun h=>cP _ (s.xE.1 p h)
theorem eO {q:Pl} (h:q∈Q ++ [p]):q∈Q∨q=p:=by
 rcases List.mem_append.mp h with h | h
 ·exact .inl h
 ·exact .inr (List.mem_singleton.mp h)
theorem iP (s:dD (Q ++ [p])) {a b:Pl} (ha:a∈Q) (hb:b∈Q):aZ (Q ++ [p]) a b↔aZ Q a b∧0≤tw a b p:=by
 constructor
 ·rintro ⟨_,_,ne,r⟩
  exact ⟨⟨ha,hb,ne,fun q hq=>r q (List.mem_append_left _ hq)⟩,(r p (by simp)).1⟩
 ·rintro ⟨⟨_,_,ne,r⟩,h⟩
  refine ⟨List.mem_append_left _ ha,List.mem_append_left _ hb,ne,qm s (List.mem_append_left _ ha) (List.mem_append_left _ hb) fun q hq=>?_⟩
  rcases eO hq with hq | rfl
  ·exact ⟨(r q hq).1,fun z=>dg s.old ⟨ha,hb,ne,r⟩ hq z⟩
  ·refine ⟨h,fun _ k=>?_⟩
   have:=s.xE.f s.old ha
   have:=s.xE.f s.old hb
   omega
theorem qo (s:dD (Q ++ [p])) {a b:Pl} (h1:aZ Q a b) (s1:tw a b p < 0) (no:∀ c,aZ Q c a→0≤tw c a p):aZ (Q ++ [p]) a p:=by
 have all:∀ q∈Q,0≤tw a p q:=by
  by_cases fl:Flat Q
  ·exact xD s.old fl h1 s1 no
  ·obtain ⟨c,hc⟩:=Du s.old h1
   exact zU fl h1 hc s1 (no c hc)
 have ma:a∈Q ++ [p]:=List.mem_append_left _ h1.1
 have mp:p∈Q ++ [p]:=by simp
 refine ⟨ma,mp,fun z=>s.out (z▸h1.1),qm s ma mp fun q hq=>?_⟩
 have fa:=s.xE.f s.old h1.1
 rcases eO hq with hq | rfl
 ·refine ⟨all q hq,fun z k=>?_⟩
  have:=zV s.old s.xE h1 s1 hq z
  have:=s.xE.f s.old hq
  omega
 ·refine ⟨by have:tw a q q=0:=by unfold tw;grind
             omega,fun _ k=>by omega⟩
theorem vX (s:dD (Q ++ [p])) {a b:Pl} (h1:aZ Q a b) (s1:tw a b p < 0) (no:∀ c,aZ Q b c→0≤tw b c p):aZ (Q ++ [p]) p b:=by
 have all:∀ q∈Q,0≤tw p b q:=by
  by_cases fl:Flat Q
  ·exact BQ s.old fl h1 s1 no
  ·obtain ⟨c,hc⟩:=vV s.old h1
   exact Dv fl h1 hc s1 (no c hc)
 have mb:b∈Q ++ [p]:=List.mem_append_left _ h1.2.1
 have mp:p∈Q ++ [p]:=by simp
 refine ⟨mp,mb,fun z=>s.out (z▸h1.2.1),qm s mp mb fun q hq=>?_⟩
 have fb:=s.xE.f s.old h1.2.1
 rcases eO hq with hq | rfl
 ·refine ⟨all q hq,fun z k=>?_⟩
  have:=Dy s.old s.xE h1 s1 hq z
  have:=s.xE.f s.old hq
  omega
 ·refine ⟨by have:tw q b q=0:=by unfold tw;grind
             omega,fun _ k=>by omega⟩
theorem BR (s:dD (Q ++ [p])) {u v:Pl} (h1:aZ (Q ++ [p]) u p) (h2:aZ (Q ++ [p]) v p):u=v:=by
 apply Classical.byContradiction
 intro ne
 have z1:=(h1.2.2.2 v h2.1).1
 have z2:=(h2.2.2.2 u h1.1).1
 have z3:tw v p u= - tw u p v:=by unfold tw;grind
 have f:=sX s h1.1 h2.1 ne
 have hu:=(eO h1.1).resolve_right h1.2.2.1
 have hv:=(eO h2.1).resolve_right h2.2.2.1
 have fu:=s.xE.f s.old hu
 have fv:=s.xE.f s.old hv
 have b1:=dg s h1 h2.1 (by omega)
 have b2:=dg s h2 h1.1 (by omega)
 omega
theorem Er (s:dD (Q ++ [p])) {u v:Pl} (h1:aZ (Q ++ [p]) p u) (h2:aZ (Q ++ [p]) p v):u=v:=by
 apply Classical.byContradiction
 intro ne
 have z1:=(h1.2.2.2 v h2.2.1).1
 have z2:=(h2.2.2.2 u h1.2.1).1
 have z3:tw p v u= - tw p u v:=oG p u v
 have f:=sX s h1.2.1 h2.2.1 ne
 have hu:=(eO h1.2.1).resolve_right (Ne.symm h1.2.2.1)
 have hv:=(eO h2.2.1).resolve_right (Ne.symm h2.2.2.1)
 have fu:=s.xE.f s.old hu
 have fv:=s.xE.f s.old hv
 have b1:=dg s h1 h2.2.1 (by omega)
 have b2:=dg s h2 h1.2.1 (by omega)
 omega
theorem BS {Q:List Pl} (h:Q.length≤2):Flat Q:=by
 match Q,h with
 | [],_=>exact fun p hp=>by cases hp
 | [x],_=>exact qj (by simp)
 | [x,y],_=>
   have key:∀ a∈[x,y],a=x∨a=y:=fun a ha=>by simpa using ha
   intro a ha b hb c hc
   rcases key a ha with rfl | rfl <;> rcases key b hb with rfl | rfl <;> rcases key c hc with rfl | rfl <;> (unfold tw;grind)
theorem zW (s:dD (Q ++ [p])) (nf:¬ Flat (Q ++ [p])):∃ a b,aZ Q a b∧tw a b p < 0:=by
 apply Classical.byContradiction
 intro none
 have un:∀ a b,aZ Q a b→0≤tw a b p:=fun a b h=>Classical.byContradiction fun z=>none ⟨a,b,h,by omega⟩
 have l2:2≤Q.length:=Classical.byContradiction fun z=>nf (BS (by rw [List.length_append];simp;omega))
 have hne:Q≠[]:=fun z=>by rw [z] at l2;simp at l2
 have hy:=List.getLast?_eq_some_getLast hne
 obtain ⟨e,he⟩:=(sW s.old l2).2 _ hy
 have last:∀ q∈Q,q=Q.getLast hne∨bQ q (Q.getLast hne):=fun q hq=>(fm s.old.1 (List.head?_eq_some_head hne) hy q hq).2
 generalize Q.getLast hne=y at he last
 obtain ⟨b,hb⟩:=vV s.old he
 have my:y∈Q:=hb.1
 have fe:ao.f e < ao.f y:=(s.old.f he.1 my).mp ((last e he.1).resolve_left he.2.2.1)
 have fb:ao.f b < ao.f y:=(s.old.f hb.2.1 my).mp ((last b hb.2.1).resolve_left (Ne.symm hb.2.2.1))
 have fp:=s.xE.f s.old my
 have u1:=un e y he
 have u2:=un y b hb
 have u3:=(he.2.2.2 b hb.2.1).1
 have g1:∀ q,tw y e q= - tw e y q:=fun q=>cT e y q
 have key:=nO ao e b p y
 have k1:=g1 p
 have k2:=g1 b
 have e1:0≤(ao.f b - ao.f y)*tw y e p:=Int.mul_nonneg_of_nonpos_of_nonpos (by omega) (by omega)
 have e2:(ao.f e - ao.f y)*tw y b p≤0:=Int.mul_nonpos_of_nonpos_of_nonneg (by omega) u2
 have e3:(ao.f p - ao.f y)*tw y e b≤0:=Int.mul_nonpos_of_nonneg_of_nonpos (by omega) (by omega)
 have z1:(ao.f b - ao.f y)*tw y e p=0:=by omega
 have z2:(ao.f p - ao.f y)*tw y e b=0:=by omega
 have y1:tw y e p=0:=(Int.mul_eq_zero.mp z1).resolve_left (by omega)
 have y2:tw y e b=0:=(Int.mul_eq_zero.mp z2).resolve_left (by omega)
 refine nf (gS (a:=y) (b:=e) (Ne.symm he.2.2.1) fun q hq=>?_)
 rcases eO hq with hq | rfl
 ·have key:=nO ao e b q y
  rw [y2,Int.mul_zero,Int.add_zero] at key
  have h1:=(he.2.2.2 q hq).1
  have h2:=(hb.2.2.2 q hq).1
  have h3:=g1 q
  have e4:0≤(ao.f b - ao.f y)*tw y e q:=Int.mul_nonneg_of_nonpos_of_nonpos (by omega) (by omega)
  have e5:(ao.f e - ao.f y)*tw y b q≤0:=Int.mul_nonpos_of_nonpos_of_nonneg (by omega) h2
  exact (Int.mul_eq_zero.mp (show (ao.f b - ao.f y)*tw y e q=0 by omega)).resolve_left (by omega)
 ·exact y1
def cL (Q:List Pl) (p:Pl):List (List Pl):=(SL Q).filter (zh p)
theorem bK (s:dD Q) {a b:Pl}: [a,b]∈cL Q p↔aZ Q a b∧tw a b p < 0:=by
 unfold cL
 rw [List.mem_filter,dX s]
 exact ⟨fun h=>⟨h.1,of_decide_eq_true h.2⟩,fun h=>⟨h.1,decide_eq_true h.2⟩⟩
theorem cA {w:List Pl} (h:w∈cL Q p):∃ a b,w= [a,b]:=lY (List.mem_filter.mp h).1
theorem lZ (s:dD Q):(cL Q p).Nodup:=(mV s).filter _
def oS (w:List Pl):Pl:=w.headD ⟨0,0⟩
def qp (w:List Pl):Pl:=w.getLastD ⟨0,0⟩
theorem kT {α β:Type} {f:α→β}:∀ {l:List α},l.Nodup→(∀ x∈l,∀ y∈l,f x=f y→x=y)→(l.map f).Nodup
 | [],_,_=> .nil
 | a :: l,nd,h=>by
   obtain ⟨h1,h2⟩:=List.nodup_cons.mp nd
   rw [List.map_cons]
   refine List.nodup_cons.mpr ⟨fun z=>?_,kT h2 fun x hx y hy=>h x (List.mem_cons_of_mem _ hx) y (List.mem_cons_of_mem _ hy)⟩
   obtain ⟨b,hb,e⟩:=List.mem_map.mp z
   rw [h b (List.mem_cons_of_mem _ hb) a (by simp) e] at hb
   exact h1 hb
theorem um (s:dD Q):((cL Q p).map oS).Nodup:=kT (lZ s) fun x hx y hy e=>by
 obtain ⟨a,b,rfl⟩:=cA hx
 obtain ⟨c,d,rfl⟩:=cA hy
 have e:a=c:=e
 subst e
 obtain ⟨h1,h2⟩:=(bK s).mp hx
 obtain ⟨h3,h4⟩:=(bK s).mp hy
 rw [sY s h1 h3 h2 h4]
theorem xF (s:dD Q):((cL Q p).map qp).Nodup:=kT (lZ s) fun x hx y hy e=>by
 obtain ⟨a,b,rfl⟩:=cA hx
 obtain ⟨c,d,rfl⟩:=cA hy
 have e:b=d:=e
 subst e
 obtain ⟨h1,h2⟩:=(bK s).mp hx
 obtain ⟨h3,h4⟩:=(bK s).mp hy
 rw [vW s h1 h3 h2 h4]
theorem vY {A B:List Pl} (na:A.Nodup) (l:A.length=B.length) (h:∀ x∈A,x∈B):∀ x∈B,x∈A:=fun x hx=>by
 apply Classical.byContradiction
 intro n
 have:=sV (l:=x :: A) (m:=B) (List.nodup_cons.mpr ⟨n,na⟩) (fun y hy=>by
  rcases List.mem_cons.mp hy with rfl | hy
  ·exact hx
  ·exact h y hy)
 rw [List.length_cons] at this
 omega
theorem yN (s:dD Q) (bh:Gf Q p) {a0 b0:Pl} (h0: [a0,b0]∈cL Q p) (h1:∀ x∈(cL Q p).map oS,x∈(cL Q p).map qp) (h2:∀ x∈(cL Q p).map qp,x∈(cL Q p).map oS):False:=by
 obtain ⟨m,hm,mn⟩:=uf ((cL Q p).map oS) (List.ne_nil_of_mem (List.mem_map.mpr ⟨_,h0,rfl⟩))
 obtain ⟨w,hw,e1⟩:=List.mem_map.mp hm
 obtain ⟨v,hv,e2⟩:=List.mem_map.mp (h1 m hm)
 obtain ⟨a,b,rfl⟩:=cA hw
 obtain ⟨c,d,rfl⟩:=cA hv
 have e1:a=m:=e1
 have e2:d=m:=e2
 subst e1
 subst e2
 obtain ⟨k1,k2⟩:=(bK s).mp hw
 obtain ⟨k3,k4⟩:=(bK s).mp hv
 have fb:ao.f d < ao.f b:=by
  have nb:=mn b (h2 b (List.mem_map.mpr ⟨_,hw,rfl⟩))
  have ne:=sX s k1.1 k1.2.1 k1.2.2.1
  have:¬ ao.f b < ao.f d:=fun z=>nb ((s.f k1.2.1 k1.1).mpr z)
  omega
 have fc:ao.f d < ao.f c:=by
  have nb:=mn c (List.mem_map.mpr ⟨_,hv,rfl⟩)
  have ne:=sX s k3.1 k3.2.1 k3.2.2.1
  have:¬ ao.f c < ao.f d:=fun z=>nb ((s.f k3.1 k3.2.1).mpr z)
  omega
 exact xw fb fc (bh.f s k1.1) (k1.2.2.2 c k3.1).1 k2 k4
theorem BU (s:dD Q) (bh:Gf Q p) {a0 b0:Pl} (h0: [a0,b0]∈cL Q p):(∃ a b,(aZ Q a b∧tw a b p < 0)∧∀ c,aZ Q c a→0≤tw c a p)∧∃ a b,(aZ Q a b∧tw a b p < 0)∧∀ c,aZ Q b c→0≤tw b c p:=by
 have lens:((cL Q p).map oS).length=((cL Q p).map qp).length:=by rw [List.length_map,List.length_map]
 constructor
 ·apply Classical.byContradiction
  intro no
  have sub:∀ x∈(cL Q p).map oS,x∈(cL Q p).map qp:=fun x hx=>by
   obtain ⟨w,hw,rfl⟩:=List.mem_map.mp hx
   obtain ⟨a,b,rfl⟩:=cA hw
   apply Classical.byContradiction
   intro n
   refine no ⟨a,b,(bK s).mp hw,fun c hc=>Classical.byContradiction fun z=>n ?_⟩
   exact List.mem_map.mpr ⟨[c,a],(bK s).mpr ⟨hc,by omega⟩,rfl⟩
  exact yN s bh h0 sub (vY (um s) lens sub)
 ·apply Classical.byContradiction
  intro no
  have sub:∀ x∈(cL Q p).map qp,x∈(cL Q p).map oS:=fun x hx=>by
   obtain ⟨w,hw,rfl⟩:=List.mem_map.mp hx
   obtain ⟨a,b,rfl⟩:=cA hw
   apply Classical.byContradiction
   intro n
   refine no ⟨a,b,(bK s).mp hw,fun c hc=>Classical.byContradiction fun z=>n ?_⟩
   exact List.mem_map.mpr ⟨[b,c],(bK s).mpr ⟨hc,by omega⟩,rfl⟩
  exact yN s bh h0 (vY (xF s) lens.symm sub) sub
def OB (p:Pl) (w:List Pl):List (List Pl):=[[qp w,oS w],[oS w,p],[p,qp w]]
def newD (Q:List Pl) (p:Pl):List (List Pl):=(cL Q p).flatMap (OB p)
theorem eZ (s:dD Q) {w:List Pl}:w∈newD Q p↔∃ a b,(aZ Q a b∧tw a b p < 0)∧(w= [b,a]∨w= [a,p]∨w= [p,b]):=by
 unfold newD
 rw [List.mem_flatMap]
 constructor
 ·rintro ⟨v,hv,hw⟩
  obtain ⟨a,b,rfl⟩:=cA hv
  refine ⟨a,b,(bK s).mp hv,?_⟩
  have hw:w∈[[b,a],[a,p],[p,b]]:=hw
  simpa using hw
 ·rintro ⟨a,b,h,hw⟩
  refine ⟨[a,b],(bK s).mpr h,?_⟩
  show w∈[[b,a],[a,p],[p,b]]
  simpa using hw
theorem aW {a b c d:Pl} (h: [a,b]= [c,d]):a=c∧b=d:=by
 injection h with h1 h
 injection h with h2 _
 exact ⟨h1,h2⟩
theorem zX (s:dD (Q ++ [p])):(newD Q p).Nodup:=by
 have so:=s.old
 have np:∀ {x y},aZ Q x y→x≠p∧y≠p:=fun h=>⟨fun z=>s.out (z▸h.1),fun z=>s.out (z▸h.2.1)⟩
 unfold newD
 refine List.pairwise_flatMap.mpr ⟨fun w hw=>?_,?_⟩
 ·obtain ⟨a,b,rfl⟩:=cA hw
  obtain ⟨h1,_⟩:=(bK so).mp hw
  obtain ⟨n1,n2⟩:=np h1
  show ([[b,a],[a,p],[p,b]]:List (List Pl)).Nodup
  simp only [List.nodup_cons,List.mem_cons,List.not_mem_nil,or_false,not_or,not_false_eq_true,List.nodup_nil,and_true]
  refine ⟨⟨fun z=>n1 (aW z).2,fun z=>n2 (aW z).1⟩,fun z=>n1 (aW z).1⟩
 ·refine (lZ so).imp_of_mem fun {w v} hw hv ne x hx y hy e=>?_
  subst e
  obtain ⟨a,b,rfl⟩:=cA hw
  obtain ⟨c,d,rfl⟩:=cA hv
  obtain ⟨h1,h2⟩:=(bK so).mp hw
  obtain ⟨h3,h4⟩:=(bK so).mp hv
  obtain ⟨n1,n2⟩:=np h1
  obtain ⟨n3,n4⟩:=np h3
  have hx:x∈[[b,a],[a,p],[p,b]]:=hx
  have hy:x∈[[d,c],[c,p],[p,d]]:=hy
  simp only [List.mem_cons,List.not_mem_nil,or_false] at hx hy
  rcases hx with rfl | rfl | rfl
  ·rcases hy with e | e | e
   ·obtain ⟨rfl,rfl⟩:=aW e
    exact ne rfl
   ·exact n1 (aW e).2
   ·exact n2 (aW e).1
  ·rcases hy with e | e | e
   ·exact n3 (aW e).2.symm
   ·have e:=(aW e).1
    subst e
    rw [sY so h1 h3 h2 h4] at ne
    exact ne rfl
   ·exact n1 (aW e).1
  ·rcases hy with e | e | e
   ·exact n4 (aW e).1.symm
   ·exact n3 (aW e).1.symm
   ·have e:=(aW e).2
    subst e
    rw [vW so h1 h3 h2 h4] at ne
    exact ne rfl
structure uo (Q:List Pl) (D:List (List Pl)):Prop where
 nd:D.Nodup
 qg:∀ w∈D,∃ a b,w= [a,b]∧a∈Q∧b∈Q
 bare:∀ a b,[a,b]∈D→[b,a]∉D→aZ Q a b
 l5:∀ a b,aZ Q a b→[b,a]∉D
 has:∀ a b,aZ Q a b→aZ Q b a∨[a,b]∈D
theorem uo.nil {Q:List Pl} (h:Q.length < 2):uo Q [] where
 nd:= .nil
 qg:=fun w hw=>by cases hw
 bare:=fun a b hw=>by cases hw
 l5:=fun a b hw=>by simp
 has:=fun a b hw=>absurd (mU hw) (by omega)
theorem sZ {a b:Pl} (h1:aZ Q a b) (h2:aZ Q b a):Flat Q:=gS h1.2.2.1 fun q hq=>by
 have z1:=(h1.2.2.2 q hq).1
 have z2:=(h2.2.2.2 q hq).1
 have:=cT a b q
 omega
theorem zY (s:dD Q) (fl:Flat Q) {a b:Pl} (h:aZ Q a b):aZ Q b a:=nP s fl h.2.1 h.1 (Ne.symm h.2.2.1) fun q hq k=>dg s h hq (fl a h.1 b h.2.1 q hq) (by omega)
theorem uo.step {D D':List (List Pl)} (s:dD (Q ++ [p])) (c:uo Q D) (e:D'.Perm (D ++ newD Q p)):uo (Q ++ [p]) D':=by
 have so:=s.old
 have np:∀ {x y},aZ Q x y→x≠p∧y≠p:=fun h=>⟨fun z=>s.out (z▸h.1),fun z=>s.out (z▸h.2.1)⟩
 have mem:∀ w,w∈D'↔w∈D∨w∈newD Q p:=fun w=>by rw [e.mem_iff,List.mem_append]
 have pD:∀ a b,[a,b]∈D→a∈Q∧b∈Q:=fun a b h=>by
  obtain ⟨u,v,e,h1,h2⟩:=c.qg _ h
  obtain ⟨rfl,rfl⟩:=aW e
  exact ⟨h1,h2⟩
 refine ⟨?_,?_,?_,?_,?_⟩
 ·refine e.nodup_iff.mpr (List.nodup_append.mpr ⟨c.nd,zX s,fun w hw v hv z=>?_⟩)
  subst z
  obtain ⟨a,b,⟨h1,h2⟩,h3⟩:=(eZ so).mp hv
  rcases h3 with rfl | rfl | rfl
  ·exact c.l5 a b h1 hw
  ·exact s.out (pD _ _ hw).2
  ·exact s.out (pD _ _ hw).1
 ·intro w hw
  rcases (mem w).mp hw with h | h
  ·obtain ⟨a,b,e,h1,h2⟩:=c.qg w h
   exact ⟨a,b,e,List.mem_append_left _ h1,List.mem_append_left _ h2⟩
  ·obtain ⟨a,b,⟨h1,h2⟩,h3⟩:=(eZ so).mp h
   have ma:a∈Q ++ [p]:=List.mem_append_left _ h1.1
   have mb:b∈Q ++ [p]:=List.mem_append_left _ h1.2.1
   have mp:p∈Q ++ [p]:=by simp
   rcases h3 with rfl | rfl | rfl
   ·exact ⟨_,_,rfl,mb,ma⟩
   ·exact ⟨_,_,rfl,ma,mp⟩
   ·exact ⟨_,_,rfl,mp,mb⟩
 ·intro u v hw hb
  have MP: [v,u]∉D:=fun z=>hb ((mem _).mpr (.inl z))
  have LF: [v,u]∉newD Q p:=fun z=>hb ((mem _).mpr (.inr z))
  rcases (mem _).mp hw with h | h
  ·have sd:=c.bare u v h MP
   refine (iP s sd.1 sd.2.1).mpr ⟨sd,Classical.byContradiction fun z=>LF ?_⟩
   exact (eZ so).mpr ⟨u,v,⟨sd,by omega⟩,.inl rfl⟩
  ·obtain ⟨a,b,⟨h1,h2⟩,h3⟩:=(eZ so).mp h
   rcases h3 with h3 | h3 | h3
   ·obtain ⟨rfl,rfl⟩:=aW h3
    rcases c.has v u h1 with k | k
    ·exact (iP s k.1 k.2.1).mpr ⟨k,by have:=cT v u p;omega⟩
    ·exact absurd k MP
   ·obtain ⟨rfl,rfl⟩:=aW h3
    refine qo s h1 h2 fun c hc=>Classical.byContradiction fun z=>LF ?_
    exact (eZ so).mpr ⟨c,u,⟨hc,by omega⟩,.inr (.inr rfl)⟩
   ·obtain ⟨rfl,rfl⟩:=aW h3
    refine vX s h1 h2 fun c hc=>Classical.byContradiction fun z=>LF ?_
    exact (eZ so).mpr ⟨v,c,⟨hc,by omega⟩,.inr (.inl rfl)⟩
 ·intro u v sd hw
  rcases (mem _).mp hw with h | h
  ·obtain ⟨mv,mu⟩:=pD _ _ h
   exact c.l5 u v ((iP s mu mv).mp sd).1 h
  ·obtain ⟨a,b,⟨h1,h2⟩,h3⟩:=(eZ so).mp h
   rcases h3 with h3 | h3 | h3
   ·obtain ⟨rfl,rfl⟩:=aW h3
    have:=((iP s h1.1 h1.2.1).mp sd).2
    omega
   ·obtain ⟨rfl,rfl⟩:=aW h3
    have:=(sd.2.2.2 b (List.mem_append_left _ h1.2.1)).1
    have:=xx v b u
    omega
   ·obtain ⟨rfl,rfl⟩:=aW h3
    have:=(sd.2.2.2 a (List.mem_append_left _ h1.1)).1
    have:=mW a u v
    omega
 ·intro u v sd
  by_cases fl:Flat (Q ++ [p])
  ·exact .inl (zY s fl sd)
  ·right
   obtain ⟨a0,b0,h0,s0⟩:=zW s fl
   obtain ⟨⟨a1,b1,k1,OC⟩,a2,b2,k2,OD⟩:=BU so s.xE ((bK so).mpr ⟨h0,s0⟩)
   rcases eO sd.1 with mu | rfl
   ·rcases eO sd.2.1 with mv | rfl
    ·obtain ⟨LG,ge⟩:=(iP s mu mv).mp sd
     rcases c.has u v LG with k | k
     ·have fq:=sZ LG k
      have nz:tw u v p≠0:=fun z=>fl (gS LG.2.2.1 fun q hq=>by
       rcases eO hq with hq | rfl
       ·exact fq u mu v mv q hq
       ·exact z)
      exact (mem _).mpr (.inr ((eZ so).mpr ⟨v,u,⟨k,by have:=cT u v p;omega⟩,.inl rfl⟩))
     ·exact (mem _).mpr (.inl k)
    ·have:=BR s sd (qo s k1.1 k1.2 OC)
     subst this
     exact (mem _).mpr (.inr ((eZ so).mpr ⟨u,b1,k1,.inr (.inl rfl)⟩))
   ·have:=Er s sd (vX s k2.1 k2.2 OD)
    subst this
    exact (mem _).mpr (.inr ((eZ so).mpr ⟨a2,v,k2,.inr (.inr rfl)⟩))
end
end L3
namespace L3
theorem nQ {v w x y:Pl} (h: [v,w].Perm [x,y]):(v=x∧w=y)∨(v=y∧w=x):=by
 have m:v∈[x,y]:=h.mem_iff.mp (by simp)
 simp only [List.mem_cons,List.not_mem_nil,or_false] at m
 rcases m with rfl | rfl
 ·have:=List.Perm.cons_inv h
  exact .inl ⟨rfl,by simpa using this⟩
 ·have:=List.Perm.cons_inv (h.trans (List.Perm.swap v x []))
  exact .inr ⟨rfl,by simpa using this⟩
theorem Dz {a b p:Pl} (h:tw a b p < 0):(dm (Cu a b p)).Perm [[b,a],[a,p],[p,b]]:=by
 obtain ⟨⟨u,v,w,e,_,_,pos⟩,pm⟩:=xg (a:=a) (b:=b) (c:=p) (by omega)
 rw [e] at pm ⊢
 have m:u∈[a,b,p]:=pm.mem_iff.mp (by simp)
 simp only [List.mem_cons,List.not_mem_nil,or_false] at m
 rcases m with rfl | rfl | rfl
 ·rcases nQ (List.Perm.cons_inv pm) with ⟨rfl,rfl⟩ | ⟨rfl,rfl⟩
  ·omega
  ·show ([[u,v],[v,w],[w,u]]:List (List Pl)).Perm [[w,u],[u,v],[v,w]]
   exact List.perm_append_comm (l₁:=[[u,v],[v,w]]) (l₂:=[[w,u]])
 ·rcases nQ (List.Perm.cons_inv (pm.trans (List.Perm.swap u a [p]))) with ⟨rfl,rfl⟩ | ⟨rfl,rfl⟩
  ·exact .refl _
  ·have:=mW w u v
   omega
 ·rcases nQ (List.Perm.cons_inv (pm.trans (List.perm_append_comm (l₁:=[a,b]) (l₂:=[u])))) with ⟨rfl,rfl⟩ | ⟨rfl,rfl⟩
  ·have:=xx v w u
   omega
  ·show ([[u,v],[v,w],[w,u]]:List (List Pl)).Perm [[v,w],[w,u],[u,v]]
   exact List.perm_append_comm (l₁:=[[u,v]]) (l₂:=[[v,w],[w,u]])
def BV (p:Pl) (w:List Pl):List Pl:=Cu (oS w) (qp w) p
def vc (qs:List Pl) (k:Nat):Pl:=qs.getD k ⟨0,0⟩
def oU (qs:List Pl):Nat→List (List Pl)
 | 0=>[]
 | k+1=>oU qs k ++ (cL (qs.take k) (vc qs k)).map (BV (vc qs k))
theorem BW (xs ys:List (List Pl)):cD (xs ++ ys)=cD xs ++ cD ys:=List.flatMap_append
theorem tE {α β:Type} {f g:α→List β}:∀ {l:List α},(∀ x∈l,(f x).Perm (g x))→(l.flatMap f).Perm (l.flatMap g)
 | [],_=> .refl _
 | a :: l,h=>by
   rw [List.flatMap_cons,List.flatMap_cons]
   exact (h a (by simp)).append (tE fun x hx=>h x (List.mem_cons_of_mem _ hx))
theorem BX {Q:List Pl} {p:Pl} (s:dD Q):(cD ((cL Q p).map (BV p))).Perm (newD Q p):=by
 unfold cD newD
 rw [List.flatMap_map]
 refine tE fun w hw=>?_
 obtain ⟨a,b,rfl⟩:=cA hw
 exact Dz ((bK s).mp hw).2
theorem tF {qs:List Pl} {k:Nat} (h:k < qs.length):qs.take (k+1)=qs.take k ++ [vc qs k]:=by
 rw [List.take_succ,List.getElem?_eq_getElem h]
 unfold vc
 rw [List.getD_eq_getElem?_getD,List.getElem?_eq_getElem h]
 rfl
theorem dD.take {qs:List Pl} (s:dD qs) (k:Nat):dD (qs.take k):=⟨s.1.sublist (List.take_sublist _ _),fun q hq=>s.2 q (List.mem_of_mem_take hq)⟩
theorem yP {qs:List Pl} (s:dD qs):∀ k,k≤qs.length→uo (qs.take k) (cD (oU qs k))
 | 0,_=>uo.nil (by simp)
 | k+1,h=>by
   have st:=s.take (k+1)
   rw [tF (by omega)] at st ⊢
   refine uo.step st (yP s k (by omega)) ?_
   show (cD (oU qs k ++ _)).Perm _
   rw [BW]
   exact (List.Perm.refl _).append (BX st.old)
theorem sub_len {α:Type} [DecidableEq α] {l m:List α} (nd:l.Nodup) (sub:∀ x∈l,x∈m):l.length≤m.length:=by
 induction l generalizing m with
 | nil=>simp
 | cons a l ih=>
   obtain ⟨h1,h2⟩:=List.nodup_cons.mp nd
   have ma:=sub a (List.mem_cons_self ..)
   have:=ih (m:=m.erase a) h2 fun x hx=>(List.mem_erase_of_ne (show x≠a from fun e=>h1 (e▸hx))).mpr (sub x (List.mem_cons_of_mem _ hx))
   rw [List.length_erase_of_mem ma] at this
   have:0 < m.length:=List.length_pos_of_mem ma
   rw [List.length_cons]
   omega
theorem split_len {α:Type} (f:α→Bool):∀ l:List α,l.length=(l.filter f).length+(l.filter (fun v=>!f v)).length
 | []=>rfl
 | a :: l=>by
   have ih:=split_len f l
   rw [List.filter_cons,List.filter_cons,List.length_cons]
   cases f a with
   | true=>simp;omega
   | false=>simp;omega
theorem DA {Q:List Pl} {p:Pl} (s:dD (Q ++ [p])):(SL (Q ++ [p])).length+(cL Q p).length≤(SL Q).length+2:=by
 have so:=s.old
 obtain ⟨I,lI,hI⟩:∃ I:List (List Pl),I.length≤1∧∀ u,aZ (Q ++ [p]) u p→[u,p]∈I:=by
  by_cases h:∃ u,aZ (Q ++ [p]) u p
  ·obtain ⟨u,hu⟩:=h
   exact ⟨[[u,p]],by simp,fun v hv=>by rw [BR s hv hu];simp⟩
  ·exact ⟨[],by simp,fun v hv=>absurd ⟨v,hv⟩ h⟩
 obtain ⟨O,lO,hO⟩:∃ O:List (List Pl),O.length≤1∧∀ u,aZ (Q ++ [p]) p u→[p,u]∈O:=by
  by_cases h:∃ u,aZ (Q ++ [p]) p u
  ·obtain ⟨u,hu⟩:=h
   exact ⟨[[p,u]],by simp,fun v hv=>by rw [Er s hv hu];simp⟩
  ·exact ⟨[],by simp,fun v hv=>absurd ⟨v,hv⟩ h⟩
 have sp:=split_len (zh p) (SL Q)
 have:=sub_len (l:=SL (Q ++ [p])) (m:=(SL Q).filter (fun v=>!zh p v) ++ (I ++ O)) (mV s) (fun w hw=>by
  obtain ⟨a,b,rfl⟩:=lY hw
  have sd:=(dX s).mp hw
  rcases eO sd.1 with ma | rfl
  ·rcases eO sd.2.1 with mb | rfl
   ·obtain ⟨h1,h2⟩:=(iP s ma mb).mp sd
    refine List.mem_append_left _ (List.mem_filter.mpr ⟨(dX so).mpr h1,?_⟩)
    show (!decide (tw a b p < 0))=true
    rw [decide_eq_false (by omega)]
    rfl
   ·exact List.mem_append_right _ (List.mem_append_left _ (hI a sd))
  ·exact List.mem_append_right _ (List.mem_append_right _ (hO b sd)))
 rw [List.length_append,List.length_append] at this
 unfold cL
 omega
theorem pC {qs:List Pl} (s:dD qs):∀ k,k≤qs.length→(oU qs k).length+(SL (qs.take k)).length≤2*k
 | 0,_=>by rw [ql (by simp)];simp [oU]
 | k+1,h=>by
   have st:=s.take (k+1)
   have ih:=pC s k (by omega)
   rw [tF (by omega)] at st ⊢
   have:=DA st
   show (oU qs k ++ _).length+_≤_
   rw [List.length_append,List.length_map]
   omega
theorem uq {qs:List Pl} (s:dD qs):∀ k,k≤qs.length→∀ t∈oU qs k,oF qs t
 | 0,_,t,ht=>by cases ht
 | k+1,h,t,ht=>by
   rcases List.mem_append.mp ht with ht | ht
   ·exact uq s k (by omega) t ht
   ·obtain ⟨w,hw,rfl⟩:=List.mem_map.mp ht
    obtain ⟨a,b,rfl⟩:=cA hw
    obtain ⟨h1,h2⟩:=(bK (s.take k)).mp hw
    obtain ⟨h3,h4⟩:=xg (a:=a) (b:=b) (c:=vc qs k) (by omega)
    refine ⟨h3,fun q hq=>?_⟩
    have:=h4.mem_iff.mp hq
    simp only [List.mem_cons,List.not_mem_nil,or_false] at this
    rcases this with rfl | rfl | rfl
    ·exact List.mem_of_mem_take h1.1
    ·exact List.mem_of_mem_take h1.2.1
    ·unfold vc
     rw [List.getD_eq_getElem?_getD,List.getElem?_eq_getElem (by omega)]
     exact List.getElem_mem _
theorem uo.perm {Q:List Pl} {D D':List (List Pl)} (c:uo Q D) (e:D'.Perm D):uo Q D' where
 nd:=e.nodup_iff.mpr c.nd
 qg:=fun w hw=>c.qg w (e.mem_iff.mp hw)
 bare:=fun a b h1 h2=>c.bare a b (e.mem_iff.mp h1) fun z=>h2 (e.mem_iff.mpr z)
 l5:=fun a b h1 h2=>c.l5 a b h1 (e.mem_iff.mp h2)
 has:=fun a b h=>(c.has a b h).imp id fun z=>e.mem_iff.mpr z
end L3
namespace PySem.SetTable
def LH:Nat→SetTable→Probe→Probe
 | 0,_,p=>p
 | k+1,t,p=>LH k t (t.advance p)
def Gg (mask:Nat):Prop:=mask=7∨mask=31∨mask=127∨mask=511
def Good (t:SetTable) (n:Nat):Prop:=t.place.size=n∧t.dummies= #[]∧Gg t.mask∧n*5 < t.mask*3
def live (mask:Nat) (owner:Array (Option Nat)):List (Nat ×Nat):=(List.range (mask+1)).filterMap fun j=>(owner.getD j none).map (j,·)
def Own (mask:Nat) (owner:Array (Option Nat)) (k:Nat):Prop:=owner.size=mask+1∧(live mask owner).length=k∧∀ (j v:Nat),owner[j]?=some (some v)→v < k
end PySem.SetTable
namespace PySem
open SetTable
structure e9 (prog:Program) (w:World) (κ:Type) where
 is:Heap→κ→Addr→Prop
 hash:κ→Int
 draws:κ→Nat
 room:Around→Prop
 typ:∀ {s:Shared} {k:κ} {a:Addr},is s.heap k a→s.TypeIs (.ref a) "tuple"
 keeps:∀ {h h':Heap} {k:κ} {a:Addr},is h k a→(∀ b o,h.get? b=some o→o.cls= .type "tuple"→h'.get? b=some o)→is h' k a
 pyHash:∀ {A:Around} {E:Value→Shared→Prop} {s:Shared} {k:κ} {a:Addr} {Q:Int→Shared→Prop},room A→is s.heap k a→Q (hash k) { s with toks:=s.toks+draws k }→wpAny (model prog w) A (pyHash (.ref a)) Q E s
 other:∀ {A:Around} {E:Value→Shared→Prop} {s:Shared} {k l:κ} {a b:Addr} {Q:Bool→Shared→Prop},room A→is s.heap k a→is s.heap l b→k≠l→Q false s→wpAny (model prog w) A (eqBool (.ref a) (.ref b)) Q E s
 quiet:∀ {A:Around} {E:Value→Shared→Prop} {s:Shared} {k:κ} {a:Addr} {Q:Bool→Shared→Prop},is s.heap k a→Q true s→wpAny (model prog w) A (eqIsQuiet 8 (.ref a)) Q E s
 yQ:∀ {A:Around} {E:Value→Shared→Prop} {s:Shared} {k:κ} {a:Addr} {Q:Bool→Shared→Prop},is s.heap k a→Q false s→wpAny (model prog w) A (ofAClassStatement 8 (.ref a)) Q E s
 Es:∀ {A:Around} {E:Value→Shared→Prop} {s:Shared} {k:κ} {a:Addr} {Q:Bool→Shared→Prop},is s.heap k a→Q true s→wpAny (model prog w) A (hashByValue 8 (.ref a)) Q E s
section
variable {prog:Program} {w:World} {κ:Type} {T:e9 prog w κ} {A:Around} {E:Value→Shared→Prop} {s:Shared}
end
end PySem
namespace PySem
open SetTable
section
variable {prog:Program} {w:World} {κ:Type} {T:e9 prog w κ} {A:Around} {R:Result→Shared→Prop} {I:Addr} {fp wr:List Addr} {G:Array GenState→Array GenState→Prop} {n:Nat} {P:Nat→Value→Prop} {St:Nat→Shared→Prop}
end
section
variable {prog:Program} {w:World} {κ:Type} {T:e9 prog w κ} {A:Around} {E:Value→Shared→Prop} {s:Shared}
end
end PySem
namespace PySem
open SetTable
section
variable {prog:Program} {w:World} {A:Around} {E:Value→Shared→Prop} {s:Shared}
end
end PySem
namespace L3
open PySem PySem.Spec PyProof.Rows L2
section
variable {X:Cx} {pos:Pos}
end
end L3
namespace PySem
open SetTable
section
variable (prog:Program) (w:World)
inductive uu (h:Heap):List (List Int)→List Value→Prop
 | nil:uu h [] []
 | cons {k:List Int} {b:Addr} {ks:List (List Int)} {vs:List Value}:IsTupleKey (intKind prog w) h k b→uu h ks vs→uu h (k :: ks) (.ref b :: vs)
end
section
variable {prog:Program} {w:World}
variable {A:Around} {E:Value→Shared→Prop} {s:Shared}
end
end PySem
namespace L3
open PySem PySem.Spec PyProof.Rows L2
section
variable {X:Cx} {pos:Pos}
end
end L3
namespace PySem.SetTable
def IW (xs:Array Nat):Prop:= ∀ (i j a b:Nat),i < j→xs[i]?=some a→xs[j]?=some b→a < b
def OE (t:SetTable) (j:Nat):Prop:= ∃ i:Nat,t.place[i]?=some j
def Way (t:SetTable) (OF:Nat→Prop) (h:Int) (j:Nat):Prop:= ∃ K,K < 10*turns t.mask∧(LH K t (t.probeStart h)).j=j∧∀ m,m < K→OF (LH m t (t.probeStart h)).j
structure Reach (t:SetTable) (es:Array (Int ×Value)):Prop where
 rise:IW t.place
 at_:∀ (i:Nat) (e:Int ×Value),es[i]?=some e→∃ j,t.place[i]?=some j∧Way t (OE t) e.1 j
def LI (owner:Array (Option Nat)) (x:Nat):Prop:= ∃ v,owner[x]?=some (some v)
structure Laid (t:SetTable) (owner:Array (Option Nat)) (done:List Int):Prop where
 own:Own t.mask owner done.length
 way:∀ (j v:Nat),owner[j]?=some (some v)→∃ h,done[v]?=some h∧Way t (LI owner) h j
 all:∀ v,v < done.length→∃ j:Nat,owner[j]?=some (some v)
end PySem.SetTable
namespace PySem
open SetTable
structure JC {prog:Program} {w:World} {κ:Type} (T:e9 prog w κ):Prop where
 same:∀ {A:Around} {E:Value→Shared→Prop} {s:Shared} {k:κ} {a b:Addr} {Q:Bool→Shared→Prop},T.room A→T.is s.heap k a→T.is s.heap k b→Q true s→wpAny (model prog w) A (eqBool (.ref a) (.ref b)) Q E s
section
variable {prog:Program} {w:World} {κ:Type} {T:e9 prog w κ} {A:Around} {E:Value→Shared→Prop} {s:Shared}
end
end PySem
namespace PySem
open SetTable
section
variable {prog:Program} {w:World} {κ:Type} {T:e9 prog w κ} {A:Around} {R:Result→Shared→Prop} {I:Addr} {fp wr:List Addr} {G:Array GenState→Array GenState→Prop} {n:Nat} {P:Nat→Value→Prop} {St:Nat→Shared→Prop}
end
section
variable {prog:Program} {w:World} {κ:Type} {T:e9 prog w κ} {A:Around} {E:Value→Shared→Prop} {s:Shared}
end
end PySem
namespace PySem
open SetTable
namespace F
end F
structure OG (w:World) (h:Heap) (S:Addr) (es:Array (Int ×Value)) (ep:Nat) (t:SetTable):Prop where
 at':∃ o,h.get? S=some o∧o.ExactSet∧o.data= .set es ep t
 good:t.Good es.size
 rise:IW t.place
 led:t.led=!(w.params.followText "set-order")
 plain:t.plain=true
section
variable {prog:Program} {w:World} {A:Around} {E:Value→Shared→Prop} {s:Shared} {I S:Addr} {es:Array (Int ×Value)} {ep slot i:Nat} {t:SetTable}
end
end PySem
namespace PySem
open SetTable
section
variable {prog:Program} {w:World} {A:Around} {E:Value→Shared→Prop} {s:Shared} {S:Addr} {es:Array (Int ×Value)} {ep:Nat} {t:SetTable}
end
end PySem
namespace PySem
open SetTable
def e9.only {prog:Program} {w:World} {κ:Type} (T:e9 prog w κ) (p:Addr→Prop):e9 prog w κ where
 is:=fun h k b=>T.is h k b∧p b
 hash:=T.hash
 draws:=T.draws
 room:=T.room
 typ:=fun x=>T.typ x.1
 keeps:=fun x k=>⟨T.keeps x.1 k,x.2⟩
 pyHash:=fun hu hk h=>T.pyHash hu hk.1 h
 other:=fun hu hx hy ne h=>T.other hu hx.1 hy.1 ne h
 quiet:=fun hk h=>T.quiet hk.1 h
 yQ:=fun hk h=>T.yQ hk.1 h
 Es:=fun hk h=>T.Es hk.1 h
end PySem
namespace L3
open PySem PySem.Spec PyProof.Rows L2
end L3
namespace L3
open PySem PySem.Spec PyProof.Rows L2
section
variable {X:Cx} {pos:Pos}
end
end L3
namespace L3
open PySem PySem.Spec PyProof.Rows L2
section
variable {X:Cx}
end
end L3
namespace HT
open PySem PyProof.Rows
open PySem.SeqAt
open PySem.AutoSeq1 (wpAny_loadPart')
open PySem.MeetsSeq PySem.MeetsSeq2 PySem.MeetsSeq3
end HT
namespace L3
open PySem PySem.Spec PyProof.Rows L2
section
variable {X:Cx}
end
end L3
namespace L3
structure Pt where
 X:Int
 Y:Int
 N:Int
def hw (a b:Pl) (x:Pt):Int:=(b.x - a.x)*(x.Y - x.N*a.y) - (b.y - a.y)*(x.X - x.N*a.x)
def jH (w:Way) (a:Pl) (x:Pt):Int:=x.N*w.f a - (w.al*x.X+w.be*x.Y)
theorem gT (a b:Pl) (x:Pt):hw b a x= -hw a b x:=by unfold hw;grind
theorem Gh (a b c:Pl) (x:Pt):hw a b x+hw b c x+hw c a x=x.N*tw a b c:=by unfold hw tw;grind
theorem BY (w:Way) (a b c:Pl) (x:Pt):hw b c x*jH w a x+hw c a x*jH w b x+hw a b x*jH w c x=0:=by unfold hw jH Way.f;grind
def Et (w:Way) (x:Pt) (a b:Pl):Int:=if jH w a x≤0∧0 < jH w b x∧0 < hw a b x then 1 else 0
def wn (w:Way) (x:Pt) (a b:Pl):Int:=Et w x a b - Et w x b a
theorem yR (w:Way) (x:Pt) (a b:Pl):wn w x b a= -wn w x a b:=by unfold wn;omega
theorem l6 (A α:Int) (h:A≠0):(0 < A→0 < α→0 < A*α)∧(0 < A→α≤0→A*α≤0)∧(A < 0→0 < α→A*α < 0)∧(A < 0→α≤0→0≤A*α)∧(A*α=0→α=0):=
 ⟨fun a b=>Int.mul_pos a b,fun a b=>Int.mul_nonpos_of_nonneg_of_nonpos (by omega) b,fun a b=>Int.mul_neg_of_neg_of_pos a b,fun a b=>Int.mul_nonneg_of_nonpos_of_nonpos (by omega) b,fun e=>(Int.mul_eq_zero.mp e).resolve_left h⟩
theorem six {A B C α β γ S:Int} (hA:A≠0) (hB:B≠0) (hC:C≠0) (hS:0 < S) (s:A+B+C=S) (e:A*α+B*β+C*γ=0) (d:¬ (α=0∧β=0∧γ=0)) :
 ((if α≤0∧0 < β∧0 < C then 1 else 0) - (if β≤0∧0 < α∧C < 0 then 1 else 0))+((if β≤0∧0 < γ∧0 < A then 1 else 0) - (if γ≤0∧0 < β∧A < 0 then 1 else 0))+((if γ≤0∧0 < α∧0 < B then 1 else 0) - (if α≤0∧0 < γ∧B < 0 then 1 else 0))=if 0 < C∧0 < A∧0 < B then (1:Int) else 0:=by
 obtain ⟨a1,a2,a3,a4,a5⟩:=l6 A α hA
 obtain ⟨b1,b2,b3,b4,b5⟩:=l6 B β hB
 obtain ⟨c1,c2,c3,c4,c5⟩:=l6 C γ hC
 generalize A*α=P at *
 generalize B*β=Q at *
 generalize C*γ=R at *
 rcases Int.lt_or_gt_of_ne hA with xA | xA <;> rcases Int.lt_or_gt_of_ne hB with xB | xB <;> rcases Int.lt_or_gt_of_ne hC with xC | xC <;>
  by_cases yα:α≤0 <;> by_cases yβ:β≤0 <;> by_cases yγ:γ≤0 <;>
  first
  | (exfalso;omega)
  | (simp only [show ¬ (0 < α)↔α≤0 by omega,show ¬ (0 < β)↔β≤0 by omega,show ¬ (0 < γ)↔γ≤0 by omega, *]
     have nα:(0 < α)↔¬ α≤0:=by omega
     have nβ:(0 < β)↔¬ β≤0:=by omega
     have nγ:(0 < γ)↔¬ γ≤0:=by omega
     have nA:(0 < A)↔¬ A < 0:=by omega
     have nB:(0 < B)↔¬ B < 0:=by omega
     have nC:(0 < C)↔¬ C < 0:=by omega
     simp [nα,nβ,nγ,nA,nB,nC, *] <;> omega)
theorem Gi {w:Way} {x:Pt} {a b c:Pl} (hN:0 < x.N) (t:0 < tw a b c) (f:w.f a≠w.f b) (h1:hw a b x≠0) (h2:hw b c x≠0) (h3:hw c a x≠0) :
 wn w x a b+wn w x b c+wn w x c a=if 0 < hw a b x∧0 < hw b c x∧0 < hw c a x then 1 else 0:=by
 have s:hw b c x+hw c a x+hw a b x=x.N*tw a b c:=by rw [← Gh a b c x];omega
 have k:=six (α:=jH w a x) (β:=jH w b x) (γ:=jH w c x) h2 h3 h1 (Int.mul_pos hN t) s (BY w a b c x) (fun ⟨z1,z2,_⟩=>f (by
  have:x.N*w.f a=x.N*w.f b:=by unfold jH at z1 z2;omega
  exact Int.eq_of_mul_eq_mul_left (by omega) this))
 have f1:=gT a b x
 have f2:=gT b c x
 have f3:=gT c a x
 have e1:(0 < hw b a x)=(hw a b x < 0):=by rw [f1];exact propext ⟨fun _=>by omega,fun _=>by omega⟩
 have e2:(0 < hw c b x)=(hw b c x < 0):=by rw [f2];exact propext ⟨fun _=>by omega,fun _=>by omega⟩
 have e3:(0 < hw a c x)=(hw c a x < 0):=by rw [f3];exact propext ⟨fun _=>by omega,fun _=>by omega⟩
 unfold wn Et
 simp only [e1,e2,e3]
 exact k
end L3
namespace L3
def sz (g:List Pl→Int):List (List Pl)→Int
 | []=>0
 | d :: r=>g d+sz g r
theorem BZ (g:List Pl→Int):∀ a b:List (List Pl),sz g (a ++ b)=sz g a+sz g b
 | [],b=>by simp [sz]
 | d :: r,b=>by show g d+sz g (r ++ b)=g d+sz g r+sz g b;rw [BZ g r b];omega
theorem yS (g:List Pl→Int) {a b:List (List Pl)} (h:a.Perm b):sz g a=sz g b:=by
 induction h with
 | nil=>rfl
 | cons x _ ih=>show g x+_=g x+_;rw [ih]
 | swap x y l=>show g y+(g x+sz g l)=g x+(g y+sz g l);omega
 | trans _ _ i j=>rw [i,j]
theorem B0 {g:List Pl→Int} {f:List Pl→List Pl}:∀ {l:List (List Pl)},(∀ d∈l,g (f d)= -g d)→sz g (l.map f)= -sz g l
 | [],_=>rfl
 | d :: r,h=>by
   show g (f d)+sz g (r.map f)= -(g d+sz g r)
   rw [B0 fun x hx=>h x (List.mem_cons_of_mem _ hx),h d (by simp)]
   omega
theorem yT (g:List Pl→Int) (f:List Pl→Bool):∀ l:List (List Pl),sz g l=sz g (l.filter f)+sz g (l.filter fun v=>!f v)
 | []=>rfl
 | d :: r=>by
   have ih:=yT g f r
   cases q:f d
   ·rw [List.filter_cons_of_neg (by simp [q]),List.filter_cons_of_pos (by simp [q])]
    show g d+sz g r=_+(g d+sz g _)
    omega
   ·rw [List.filter_cons_of_pos (by simp [q]),List.filter_cons_of_neg (by simp [q])]
    show g d+sz g r=g d+sz g _+_
    omega
def wL (w:Way) (x:Pt):List Pl→Int
 | [a,b]=>wn w x a b
 | _=>0
def bk:List Pl→List Pl
 | [a,b]=>[b,a]
 | l=>l
theorem Gj:∀ {u v:List Pl},bk u=bk v→u=v:=by
 have key:∀ u,bk (bk u)=u:=fun u=>by
  match u with
  | []=>rfl
  | [_]=>rfl
  | [_,_]=>rfl
  | _ :: _ :: _ :: _=>rfl
 intro u v h
 rw [← key u,h,key v]
theorem nR {α:Type} [DecidableEq α] {a b:List α} (na:a.Nodup) (nb:b.Nodup) (h:∀ x,x∈a↔x∈b):a.Perm b:=(List.perm_ext_iff_of_nodup na nb).mpr h
theorem DB {D:List (List Pl)} (nd:D.Nodup) (two:∀ d∈D,∃ a b,d= [a,b]) {g:List Pl→Int} (hg:∀ a b,g [b,a]= -g [a,b]):sz g D=sz g (D.filter fun d=>!decide (bk d∈D)):=by
 rw [yT g (fun d=>decide (bk d∈D)) D]
 have z:sz g (D.filter fun d=>decide (bk d∈D))=0:=by
  have n1:(D.filter fun d=>decide (bk d∈D)).Nodup:=nd.filter _
  have n2:((D.filter fun d=>decide (bk d∈D)).map bk).Nodup:=kT n1 fun u _ v _ e=>Gj e
  have p:=nR n1 n2 fun d=>by
   rw [List.mem_filter,List.mem_map]
   constructor
   ·rintro ⟨h1,h2⟩
    obtain ⟨a,b,rfl⟩:=two d h1
    exact ⟨[b,a],List.mem_filter.mpr ⟨of_decide_eq_true h2,decide_eq_true h1⟩,rfl⟩
   ·rintro ⟨e,he,rfl⟩
    obtain ⟨h1,h2⟩:=List.mem_filter.mp he
    obtain ⟨a,b,rfl⟩:=two e h1
    exact ⟨of_decide_eq_true h2,decide_eq_true h1⟩
  have e1:=yS g p
  rw [B0 (f:=bk) fun d hd=>by
   obtain ⟨a,b,rfl⟩:=two d (List.mem_filter.mp hd).1
   exact hg a b] at e1
  omega
 rw [z]
 omega
theorem uo.IX {Q:List Pl} {D:List (List Pl)} (s:dD Q) (nf:¬ Flat Q) (c:uo Q D):(D.filter fun d=>!decide (bk d∈D)).Perm (SL Q):=by
 refine nR (c.nd.filter _) (mV s) fun d=>?_
 rw [List.mem_filter]
 constructor
 ·rintro ⟨h1,h2⟩
  obtain ⟨a,b,rfl,_,_⟩:=c.qg d h1
  refine (dX s).mpr (c.bare a b h1 fun z=>?_)
  rw [Bool.not_eq_true'] at h2
  exact of_decide_eq_false h2 z
 ·intro h
  obtain ⟨a,b,rfl⟩:=lY h
  have h:=(dX s).mp h
  refine ⟨(c.has a b h).resolve_left fun z=>nf (sZ h z),?_⟩
  rw [Bool.not_eq_true']
  exact decide_eq_false (c.l5 a b h)
theorem B3 {Q:List Pl} {D:List (List Pl)} (s:dD Q) (nf:¬ Flat Q) (c:uo Q D) {g:List Pl→Int} (hg:∀ a b,g [b,a]= -g [a,b]):sz g D=sz g (SL Q):=by
 rw [DB c.nd (fun d hd=>let ⟨a,b,e,_⟩:=c.qg d hd;⟨a,b,e⟩) hg]
 exact yS g (c.IX s nf)
theorem yU {Q:List Pl} (s:dD Q) {a b c d:Pl} (h1:aZ Q a b) (h2:aZ Q c d) (ab:ao.f a < ao.f b) (cb:ao.f c < ao.f b) (cd:ao.f c < ao.f d) (ac:ao.f a≤ao.f c):a=c∧b=d:=by
 have q1:=(h1.2.2.2 c h2.1).1
 have q2:=(h1.2.2.2 d h2.2.1).1
 have q3:=(h2.2.2.2 a h1.1).1
 have q4:=(h2.2.2.2 b h1.2.1).1
 have e1:=nO ao d b a c
 have r1:tw c b a= -tw a b c:=by unfold tw;grind
 rw [r1] at e1
 have m1:0≤(ao.f b - ao.f c)*tw c d a:=Int.mul_nonneg (by omega) q3
 have m2:(ao.f d - ao.f c)* -tw a b c≤0:=Int.mul_nonpos_of_nonneg_of_nonpos (by omega) (by omega)
 have m3:(ao.f a - ao.f c)*tw c d b≤0:=Int.mul_nonpos_of_nonpos_of_nonneg (by omega) q4
 have z1:(ao.f d - ao.f c)* -tw a b c=0:=by omega
 have z2:tw a b c=0:=by
  rcases Int.mul_eq_zero.mp z1 with z | z <;> omega
 have OH:ao.f a=ao.f c:=by
  have:=dg s h1 h2.1 z2
  omega
 obtain rfl:a=c:=s.inj h1.1 h2.1 OH
 refine ⟨rfl,?_⟩
 have r2:=oG a b d
 have z3:tw a b d=0:=by omega
 have b1:=dg s h1 h2.2.1 z3
 have b2:=dg s h2 h1.2.1 (by omega)
 exact s.inj h1.2.1 h2.2.1 (by omega)
theorem Gk {Q:List Pl} (s:dD Q) {x:Pt} {a b c d:Pl} (h1:aZ Q a b) (h2:aZ Q c d) (k1:jH ao a x≤0) (k2:0 < jH ao b x) (k3:jH ao c x≤0) (k4:0 < jH ao d x) (hN:0 < x.N):a=c∧b=d:=by
 have lt:∀ {u v:Pl},jH ao u x≤0→0 < jH ao v x→ao.f u < ao.f v:=fun {u v} i j=>by
  unfold jH at i j
  have:x.N*ao.f u < x.N*ao.f v:=by omega
  exact Int.lt_of_mul_lt_mul_left this (by omega)
 rcases Int.le_total (ao.f a) (ao.f c) with z | z
 ·exact yU s h1 h2 (lt k1 k2) (lt k3 k2) (lt k3 k4) z
 ·obtain ⟨e1,e2⟩:=yU s h2 h1 (lt k3 k4) (lt k1 k4) (lt k1 k2) z
  exact ⟨e1.symm,e2.symm⟩
theorem tG {g:List Pl→Int}:∀ {l:List (List Pl)},l.Nodup→(∀ d∈l,g d≤1)→(∀ d∈l,∀ e∈l,0 < g d→0 < g e→d=e)→sz g l≤1
 | [],_,_,_=>by simp [sz]
 | d :: r,n,h1,h2=>by
   obtain ⟨n1,n2⟩:=List.nodup_cons.mp n
   show g d+sz g r≤1
   by_cases z:0 < g d
   ·have k:∀ {l:List (List Pl)},(∀ e∈l,g e≤0)→sz g l≤0:=fun {l} hl=>by
     induction l with
     | nil=>simp [sz]
     | cons e l ih=>
       have:=ih fun x hx=>hl x (List.mem_cons_of_mem _ hx)
       have:=hl e (by simp)
       show g e+sz g l≤0
       omega
    have:=k (l:=r) fun e he=>by
     apply Classical.byContradiction
     intro y
     have:=h2 d (by simp) e (List.mem_cons_of_mem _ he) z (by omega)
     exact n1 (this▸he)
    have:=h1 d (by simp)
    omega
   ·have:=tG n2 (fun e he=>h1 e (List.mem_cons_of_mem _ he)) (fun e he u hu=>h2 e (List.mem_cons_of_mem _ he) u (List.mem_cons_of_mem _ hu))
    omega
theorem B4 (w:Way) (x:Pt) (a b:Pl):wn w x a b≤1∧(0 < wn w x a b→jH w a x≤0∧0 < jH w b x):=by
 unfold wn Et
 split <;> rename_i h1 <;> split <;> rename_i h2
 ·exact ⟨by omega,fun _=>⟨h1.1,h1.2.1⟩⟩
 ·exact ⟨by omega,fun _=>⟨h1.1,h1.2.1⟩⟩
 ·exact ⟨by omega,fun z=>by omega⟩
 ·exact ⟨by omega,fun z=>by omega⟩
theorem DC {Q:List Pl} (s:dD Q) {x:Pt} (hN:0 < x.N):sz (wL ao x) (SL Q)≤1:=by
 refine tG (mV s) (fun d hd=>?_) fun d hd e he k1 k2=>?_
 ·obtain ⟨a,b,rfl⟩:=lY hd
  exact (B4 ao x a b).1
 ·obtain ⟨a,b,rfl⟩:=lY hd
  obtain ⟨u,v,rfl⟩:=lY he
  obtain ⟨i1,i2⟩:=(B4 ao x a b).2 k1
  obtain ⟨j1,j2⟩:=(B4 ao x u v).2 k2
  obtain ⟨rfl,rfl⟩:=Gk s ((dX s).mp hd) ((dX s).mp he) i1 i2 j1 j2 hN
  rfl
def ins (x:Pt):List Pl→Int
 | [a,b,c]=>if 0 < hw a b x∧0 < hw b c x∧0 < hw c a x then 1 else 0
 | _=>0
def Gen (Q:List Pl) (x:Pt):Prop:=0 < x.N∧∀ a∈Q,∀ b∈Q,a≠b→hw a b x≠0
theorem oF.parts {Q t:List Pl} (h:oF Q t):∃ a b c,t= [a,b,c]∧0 < tw a b c∧a∈Q∧b∈Q∧c∈Q∧a≠b∧b≠c∧c≠a:=by
 obtain ⟨⟨a,b,c,rfl,l1,l2,p⟩,h2⟩:=h
 refine ⟨a,b,c,rfl,p,h2 a (by simp),h2 b (by simp),h2 c (by simp),fun z=>?_,fun z=>?_,fun z=>?_⟩
 ·rw [z] at p;unfold tw at p;exact absurd p (by grind)
 ·rw [z] at p;unfold tw at p;exact absurd p (by grind)
 ·rw [z] at p;unfold tw at p;exact absurd p (by grind)
theorem DE {Q t:List Pl} {x:Pt} (s:dD Q) (g:Gen Q x) (h:oF Q t):sz (wL ao x) (dm t)=ins x t:=by
 obtain ⟨a,b,c,rfl,p,ha,hb,hc,n1,n2,n3⟩:=h.parts
 show wn ao x a b+(wn ao x b c+(wn ao x c a+0))=if 0 < hw a b x∧0 < hw b c x∧0 < hw c a x then 1 else 0
 have:=Gi (w:=ao) g.1 p (sX s ha hb n1) (g.2 a ha b hb n1) (g.2 b hb c hc n2) (g.2 c hc a ha n3)
 rw [← this]
 omega
theorem uv {Q:List Pl} {x:Pt} (s:dD Q) (g:Gen Q x):∀ {ts:List (List Pl)},(∀ t∈ts,oF Q t)→sz (wL ao x) (cD ts)=sz (ins x) ts
 | [],_=>rfl
 | t :: r,h=>by
   have e:cD (t :: r)=dm t ++ cD r:=by unfold cD;rw [List.flatMap_cons]
   rw [e,BZ,DE s g (h t (by simp)),uv s g fun u hu=>h u (List.mem_cons_of_mem _ hu)]
   rfl
structure dM (Q:List Pl) (ts:List (List Pl)):Prop where
 vd:dD Q
 JD:uo Q (cD ts)
 qR:∀ t∈ts,oF Q t
theorem dM.Gm {Q:List Pl} {ts:List (List Pl)} (c:dM Q ts) (nf:¬ Flat Q) {x:Pt} (g:Gen Q x):sz (ins x) ts≤1:=by
 rw [← uv c.vd g c.qR,B3 c.vd nf c.JD fun a b=>yR ao x a b]
 exact DC c.vd g.1
theorem B5 {g:List Pl→Int} (h0:∀ t,0≤g t) {t u:List Pl} (ne:t≠u):∀ {ts:List (List Pl)},t∈ts→u∈ts→g t+g u≤sz g ts
 | v :: r,ht,hu=>by
   show _≤g v+sz g r
   have one:∀ {l:List (List Pl)} {z:List Pl},z∈l→g z≤sz g l:=fun {l z} hz=>by
    induction l with
    | nil=>cases hz
    | cons e l ih=>
      have n:0≤sz g l:=by
       clear ih hz
       induction l with
       | nil=>simp [sz]
       | cons a l ih=>have:=h0 a;show 0≤g a+sz g l;omega
      show g z≤g e+sz g l
      rcases List.mem_cons.mp hz with rfl | m
      ·omega
      ·have:=ih m;have:=h0 e;omega
   rcases List.mem_cons.mp ht with e1 | k1
   ·rcases List.mem_cons.mp hu with e2 | k2
    ·exact absurd (e1.trans e2.symm) ne
    ·have:=one k2;rw [e1];omega
   ·rcases List.mem_cons.mp hu with e2 | k2
    ·have:=one k1;rw [e2];omega
    ·have:=B5 h0 ne k1 k2;have:=h0 v;omega
theorem Gn (x:Pt) (t:List Pl):0≤ins x t:=by
 unfold ins
 split
 ·split <;> omega
 ·omega
theorem dM.one {Q:List Pl} {ts:List (List Pl)} (c:dM Q ts) (nf:¬ Flat Q) {x:Pt} (g:Gen Q x) {t u:List Pl} (ht:t∈ts) (hu:u∈ts) (it:ins x t=1) (iu:ins x u=1):t=u:=by
 apply Classical.byContradiction
 intro ne
 have:=B5 (Gn x) ne ht hu
 have:=c.Gm nf g
 omega
end L3
namespace L3
def wH (p q c d:Pl):Int:=(q.x - p.x)*(d.x - c.x)+(q.y - p.y)*(d.y - c.y)
theorem B6 (g:Pl→Pl→Nat) (Q:List Pl):∃ B:Nat,∀ p∈Q,∀ q∈Q,g p q≤B:=by
 have one:∀ (h:Pl→Nat) (R:List Pl),∃ B:Nat,∀ p∈R,h p≤B:=fun h R=>by
  induction R with
  | nil=>exact ⟨0,fun p hp=>by cases hp⟩
  | cons a R ih=>
    obtain ⟨B,hB⟩:=ih
    refine ⟨B+h a,fun p hp=>?_⟩
    rcases List.mem_cons.mp hp with rfl | m
    ·omega
    ·have:=hB p m;omega
 have two:∀ (R:List Pl),∃ B:Nat,∀ p∈R,∀ q∈Q,g p q≤B:=fun R=>by
  induction R with
  | nil=>exact ⟨0,fun p hp=>by cases hp⟩
  | cons a R ih=>
    obtain ⟨B,hB⟩:=ih
    obtain ⟨C,hC⟩:=one (g a) Q
    refine ⟨B+C,fun p hp q hq=>?_⟩
    rcases List.mem_cons.mp hp with rfl | m
    ·have:=hC q hq;omega
    ·have:=hB p m q hq;omega
 exact two Q
theorem IY {B t u v:Int} (h0:0≤B) (hu: -B≤u∧u≤B) (hv: -B≤v∧v≤B) (h:0 < t∨(t=0∧(0 < u∨(u=0∧0 < v)))):0 < (B+1)*(B+1)*t+(B+1)*u+v:=by
 rcases h with h | ⟨rfl,h | ⟨rfl,h⟩⟩
 ·have m1:0≤(B+1)*(B+1)*(t - 1):=Int.mul_nonneg (Int.mul_nonneg (by omega) (by omega)) (by omega)
  have m2:0≤(B+1)*(u+B):=Int.mul_nonneg (by omega) (by omega)
  have e1:(B+1)*(B+1)*(t - 1)=(B+1)*(B+1)*t - (B+1)*(B+1):=by rw [Int.mul_sub,Int.mul_one]
  have e2:(B+1)*(u+B)=(B+1)*u+(B+1)*B:=Int.mul_add _ _ _
  have e3:(B+1)*(B+1)=(B+1)*B+(B+1):=by rw [Int.mul_add,Int.mul_one]
  omega
 ·have m2:0≤(B+1)*(u - 1):=Int.mul_nonneg (by omega) (by omega)
  have e2:(B+1)*(u - 1)=(B+1)*u - (B+1):=by rw [Int.mul_sub,Int.mul_one]
  rw [Int.mul_zero]
  omega
 ·rw [Int.mul_zero,Int.mul_zero]
  omega
theorem kU {p q c d:Pl} (n1:p≠q) (n2:c≠d) (h:tw p q d - tw p q c=0):wH p q c d≠0:=fun z=>by
 have e:(tw p q d - tw p q c)*(tw p q d - tw p q c)+wH p q c d*wH p q c d=((q.x - p.x)*(q.x - p.x)+(q.y - p.y)*(q.y - p.y))*((d.x - c.x)*(d.x - c.x)+(d.y - c.y)*(d.y - c.y)):=by unfold tw wH;grind
 rw [h,z] at e
 have pos:∀ u v:Pl,u≠v→0 < (v.x - u.x)*(v.x - u.x)+(v.y - u.y)*(v.y - u.y):=fun u v n=>by
  have s1:0≤(v.x - u.x)*(v.x - u.x):=by
   rcases Int.le_total 0 (v.x - u.x) with k | k
   ·exact Int.mul_nonneg k k
   ·exact Int.mul_nonneg_of_nonpos_of_nonpos k k
  have s2:0≤(v.y - u.y)*(v.y - u.y):=by
   rcases Int.le_total 0 (v.y - u.y) with k | k
   ·exact Int.mul_nonneg k k
   ·exact Int.mul_nonneg_of_nonpos_of_nonpos k k
  apply Classical.byContradiction
  intro k
  have z1:(v.x - u.x)*(v.x - u.x)=0:=by omega
  have z2:(v.y - u.y)*(v.y - u.y)=0:=by omega
  have z1:v.x - u.x=0:=(Int.mul_eq_zero.mp z1).elim id id
  have z2:v.y - u.y=0:=(Int.mul_eq_zero.mp z2).elim id id
  exact n (by cases u;cases v;simp only [Pl.mk.injEq];dsimp only at z1 z2;omega)
 have:=Int.mul_pos (pos p q n1) (pos c d n2)
 omega
theorem LJ {Q:List Pl} {c d:Pl} (ne:c≠d):∃ x:Pt,Gen Q x∧∀ p∈Q,∀ q∈Q,(0 < tw p q c∨(tw p q c=0∧(0 < tw p q d∨(tw p q d=0∧0 < wH p q c d))))→0 < hw p q x:=by
 obtain ⟨B,hB⟩:=B6 (fun p q=>(tw p q d - tw p q c).natAbs+(wH p q c d).natAbs) Q
 refine ⟨⟨((B:Int)+1)*(B+1)*c.x+(B+1)*(d.x - c.x) - (d.y - c.y),((B:Int)+1)*(B+1)*c.y+(B+1)*(d.y - c.y)+(d.x - c.x),((B:Int)+1)*(B+1)⟩,?_⟩
 have e:∀ p q,hw p q ⟨((B:Int)+1)*(B+1)*c.x+(B+1)*(d.x - c.x) - (d.y - c.y),((B:Int)+1)*(B+1)*c.y+(B+1)*(d.y - c.y)+(d.x - c.x),((B:Int)+1)*(B+1)⟩=((B:Int)+1)*(B+1)*tw p q c+(B+1)*(tw p q d - tw p q c)+wH p q c d:=fun p q=>by unfold hw tw wH;grind
 have key:∀ p∈Q,∀ q∈Q,(0 < tw p q c∨(tw p q c=0∧(0 < tw p q d∨(tw p q d=0∧0 < wH p q c d))))→0 < hw p q ⟨((B:Int)+1)*(B+1)*c.x+(B+1)*(d.x - c.x) - (d.y - c.y),((B:Int)+1)*(B+1)*c.y+(B+1)*(d.y - c.y)+(d.x - c.x),((B:Int)+1)*(B+1)⟩:=fun p hp q hq h=>by
  rw [e]
  have b:=hB p hp q hq
  exact IY (by omega) (by omega) (by omega) (h.imp id fun ⟨z,h⟩=>⟨z,h.imp (fun _=>by omega) fun ⟨z',h⟩=>⟨by omega,h⟩⟩)
 refine ⟨⟨Int.mul_pos (by omega) (by omega),fun p hp q hq n z=>?_⟩,key⟩
 have fl:∀ r,tw q p r= -tw p q r:=fun r=>cT p q r
 have fd:wH q p c d= -wH p q c d:=by unfold wH;grind
 have fh:=gT p q ⟨((B:Int)+1)*(B+1)*c.x+(B+1)*(d.x - c.x) - (d.y - c.y),((B:Int)+1)*(B+1)*c.y+(B+1)*(d.y - c.y)+(d.x - c.x),((B:Int)+1)*(B+1)⟩
 have k1:=key p hp q hq
 have k2:=key q hq p hp
 rw [fl,fl,fd] at k2
 by_cases c0:tw p q c=0
 ·by_cases d0:tw p q d=0
  ·have:=kU n ne (by omega)
   rcases Int.lt_or_gt_of_ne this with y | y
   ·have:=k2 (by omega);omega
   ·have:=k1 (by omega);omega
  ·rcases Int.lt_or_gt_of_ne d0 with y | y
   ·have:=k2 (by omega);omega
   ·have:=k1 (by omega);omega
 ·rcases Int.lt_or_gt_of_ne c0 with y | y
  ·have:=k2 (by omega);omega
  ·have:=k1 (by omega);omega
def oV (t:List Pl) (a b c:Pl):Prop:=t= [a,b,c]∨t= [b,c,a]∨t= [c,a,b]
theorem oV.dir {t:List Pl} {a b c:Pl} (r:oV t a b c):(dm t).Perm [[a,b],[b,c],[c,a]]:=by
 rcases r with rfl | rfl | rfl
 ·exact .refl _
 ·show [[b,c],[c,a],[a,b]].Perm _
  exact (List.perm_append_comm (l₁:=[[b,c],[c,a]]) (l₂:=[[a,b]]))
 ·show [[c,a],[a,b],[b,c]].Perm _
  exact (List.perm_append_comm (l₁:=[[c,a]]) (l₂:=[[a,b],[b,c]]))
theorem oV.ins {t:List Pl} {a b c:Pl} (r:oV t a b c) {x:Pt} (h1:0 < hw a b x) (h2:0 < hw b c x) (h3:0 < hw c a x):ins x t=1:=by
 rcases r with rfl | rfl | rfl
 ·exact if_pos ⟨h1,h2,h3⟩
 ·exact if_pos ⟨h2,h3,h1⟩
 ·exact if_pos ⟨h3,h1,h2⟩
theorem oV.mem {t:List Pl} {a b c:Pl} (r:oV t a b c) (q:Pl):q∈t↔q=a∨q=b∨q=c:=by
 rcases r with rfl | rfl | rfl <;> simp only [List.mem_cons,List.not_mem_nil,or_false]
 ·exact ⟨fun h=>by rcases h with h | h | h <;> simp [h],fun h=>by rcases h with h | h | h <;> simp [h]⟩
 ·exact ⟨fun h=>by rcases h with h | h | h <;> simp [h],fun h=>by rcases h with h | h | h <;> simp [h]⟩
theorem oV.tw {Q t:List Pl} {a b c:Pl} (r:oV t a b c) (h:oF Q t):0 < tw a b c∧a∈Q∧b∈Q∧c∈Q:=by
 obtain ⟨u,v,w,rfl,p,hu,hv,hw,_⟩:=h.parts
 have e1:=mW u v w
 have e2:=xx u v w
 rcases r with e | e | e <;> injection e with x1 e <;> injection e with x2 e <;> injection e with x3 e <;> subst x1 x2 x3
 ·exact ⟨p,hu,hv,hw⟩
 ·exact ⟨by omega,hw,hu,hv⟩
 ·exact ⟨by omega,hv,hw,hu⟩
theorem Gp {Q t:List Pl} {a b:Pl} (h:oF Q t) (m: [a,b]∈dm t):∃ c,oV t a b c:=by
 obtain ⟨u,v,w,rfl,_⟩:=h.parts
 have m: [a,b]= [u,v]∨[a,b]= [v,w]∨[a,b]= [w,u]:=by simpa [dm] using m
 rcases m with e | e | e <;> obtain ⟨rfl,rfl⟩:=aW e
 ·exact ⟨w,.inl rfl⟩
 ·exact ⟨u,.inr (.inr rfl)⟩
 ·exact ⟨v,.inr (.inl rfl)⟩
theorem vZ {ts:List (List Pl)} {w:List Pl}:w∈cD ts↔∃ t∈ts,w∈dm t:=List.mem_flatMap
section
variable {Q:List Pl} {ts:List (List Pl)} {a b c d:Pl} {t1 t2:List Pl}
theorem qt (p1:0 < tw a b c) (p2:0 < tw b a d) (cv:tw c d a*tw c d b < 0):0 < tw c d b∧tw c d a < 0:=by
 have e:tw c d b - tw c d a=tw a b c+tw b a d:=by unfold tw;grind
 by_cases z:0 < tw c d b
 ·refine ⟨z,?_⟩
  apply Classical.byContradiction
  intro k
  have:=Int.mul_nonneg (a:=tw c d a) (b:=tw c d b) (by omega) (by omega)
  omega
 ·have:=Int.mul_nonneg_of_nonpos_of_nonpos (a:=tw c d a) (b:=tw c d b) (by omega) (by omega)
  omega
theorem aK (a b:Pl):tw a b a=0∧tw a b b=0∧tw a a b=0:=by unfold tw;grind
theorem dM.new_one (k:dM Q ts) (nf:¬ Flat Q) (h1:t1∈ts) (r1:oV t1 a b c) (p2:0 < tw b a d) (hd:d∈Q) (cv:tw c d a*tw c d b < 0): [c,d]∉cD ts:=fun m=>by
 obtain ⟨t,ht,m⟩:=vZ.mp m
 obtain ⟨e,re⟩:=Gp (k.qR t ht) m
 obtain ⟨p1,ha,hb,hc⟩:=r1.tw (k.qR t1 h1)
 obtain ⟨p3,_,_,he⟩:=re.tw (k.qR t ht)
 obtain ⟨s1,s2⟩:=qt p1 p2 cv
 have ne:c≠d:=fun z=>by rw [z,(aK d b).2.2] at s1;omega
 obtain ⟨x,g,hx⟩:=LJ (Q:=Q) ne
 have i1:ins x t=1:=by
  refine re.ins (hx c hc d hd (.inr ⟨(aK c d).1,.inr ⟨(aK c d).2.1,?_⟩⟩)) (hx d hd e he (.inl (by have:=mW c d e;omega))) (hx e he c hc (.inr ⟨(aK e c).2.1,.inl (by have:=xx c d e;omega)⟩))
  have n:=kU (p:=c) (q:=d) (c:=c) (d:=d) ne ne (by rw [(aK c d).1,(aK c d).2.1];omega)
  have:0≤wH c d c d:=by
   unfold wH
   have q:∀ z:Int,0≤z*z:=fun z=>by
    rcases Int.le_total 0 z with k | k
    ·exact Int.mul_nonneg k k
    ·exact Int.mul_nonneg_of_nonpos_of_nonpos k k
   have:=q (d.x - c.x)
   have:=q (d.y - c.y)
   omega
  omega
 have i2:ins x t1=1:=by
  refine r1.ins (hx a ha b hb (.inl p1)) (hx b hb c hc (.inr ⟨(aK b c).2.1,.inl ?_⟩)) (hx c hc a ha (.inr ⟨(aK c a).1,.inl ?_⟩))
  ·have:=mW b c d;omega
  ·have:=oG c d a;omega
 have ee:=k.one nf g ht h1 i1 i2
 subst ee
 have hd':d∈t:=(re.mem d).mpr (.inr (.inl rfl))
 rcases (r1.mem d).mp hd' with z | z | z
 ·rw [z,(aK b a).2.1] at p2;omega
 ·rw [z,(aK b a).1] at p2;omega
 ·exact ne z.symm
theorem dM.DF (k:dM Q ts) (nf:¬ Flat Q) (h1:t1∈ts) (r1:oV t1 a b c) (h2:t2∈ts) (r2:oV t2 b a d) (cv:tw c d a*tw c d b < 0): [c,d]∉cD ts∧[d,c]∉cD ts:=by
 obtain ⟨p1,ha,hb,hc⟩:=r1.tw (k.qR t1 h1)
 obtain ⟨p2,_,_,hd⟩:=r2.tw (k.qR t2 h2)
 refine ⟨k.new_one nf h1 r1 p2 hd cv,k.new_one nf h2 r2 p1 hc ?_⟩
 rw [cT c d b,cT c d a,Int.neg_mul_neg,Int.mul_comm]
 exact cv
theorem uo.swap {D D' E:List (List Pl)} (k:uo Q D) (p:D.Perm ([a,b] :: [b,a] :: E)) (p':D'.Perm ([c,d] :: [d,c] :: E)) (n1: [c,d]∉D) (n2: [d,c]∉D) (ne:c≠d) (hc:c∈Q) (hd:d∈Q)
 (s1:¬ aZ Q a b) (s2:¬ aZ Q b a) (s3:¬ aZ Q c d) (s4:¬ aZ Q d c):uo Q D':=by
 have m:∀ w,w∈D↔w= [a,b]∨w= [b,a]∨w∈E:=fun w=>by rw [p.mem_iff];simp only [List.mem_cons]
 have m':∀ w,w∈D'↔w= [c,d]∨w= [d,c]∨w∈E:=fun w=>by rw [p'.mem_iff];simp only [List.mem_cons]
 have nd:=p.nodup_iff.mp k.nd
 obtain ⟨e1,nd⟩:=List.nodup_cons.mp nd
 obtain ⟨e2,nd⟩:=List.nodup_cons.mp nd
 refine ⟨?_,?_,?_,?_,?_⟩
 ·refine p'.nodup_iff.mpr (List.nodup_cons.mpr ⟨fun z=>?_,List.nodup_cons.mpr ⟨fun z=>n2 ((m _).mpr (.inr (.inr z))),nd⟩⟩)
  rcases List.mem_cons.mp z with z | z
  ·exact ne (aW z).1
  ·exact n1 ((m _).mpr (.inr (.inr z)))
 ·intro w hw
  rcases (m' w).mp hw with rfl | rfl | z
  ·exact ⟨c,d,rfl,hc,hd⟩
  ·exact ⟨d,c,rfl,hd,hc⟩
  ·exact k.qg w ((m w).mpr (.inr (.inr z)))
 ·intro u v h1 h2
  have hE: [u,v]∈E:=by
   rcases (m' _).mp h1 with z | z | z
   ·obtain ⟨rfl,rfl⟩:=aW z
    exact absurd ((m' _).mpr (.inr (.inl rfl))) h2
   ·obtain ⟨rfl,rfl⟩:=aW z
    exact absurd ((m' _).mpr (.inl rfl)) h2
   ·exact z
  refine k.bare u v ((m _).mpr (.inr (.inr hE))) fun z=>?_
  rcases (m _).mp z with z | z | z
  ·obtain ⟨rfl,rfl⟩:=aW z
   exact e2 hE
  ·obtain ⟨rfl,rfl⟩:=aW z
   exact e1 (List.mem_cons_of_mem _ hE)
  ·exact h2 ((m' _).mpr (.inr (.inr z)))
 ·intro u v h z
  rcases (m' _).mp z with z | z | z
  ·obtain ⟨rfl,rfl⟩:=aW z
   exact s4 h
  ·obtain ⟨rfl,rfl⟩:=aW z
   exact s3 h
  ·exact k.l5 u v h ((m _).mpr (.inr (.inr z)))
 ·intro u v h
  refine (k.has u v h).imp id fun z=>?_
  rcases (m _).mp z with z | z | z
  ·obtain ⟨rfl,rfl⟩:=aW z
   exact absurd h s1
  ·obtain ⟨rfl,rfl⟩:=aW z
   exact absurd h s2
  ·exact (m' _).mpr (.inr (.inr z))
theorem dM.nodup (k:dM Q ts):ts.Nodup:=by
 have nd:=k.JD.nd
 have qR:=k.qR
 clear k
 induction ts with
 | nil=>exact .nil
 | cons t r ih=>
   have e:cD (t :: r)=dm t ++ cD r:=by unfold cD;rw [List.flatMap_cons]
   rw [e] at nd
   obtain ⟨_,n2,n3⟩:=List.nodup_append.mp nd
   refine List.nodup_cons.mpr ⟨fun z=>?_,ih n2 fun u hu=>qR u (List.mem_cons_of_mem _ hu)⟩
   obtain ⟨u,v,w,e,_⟩:=(qR t (by simp)).parts
   have m: [u,v]∈dm t:=by rw [e];simp [dm]
   exact n3 _ m _ (vZ.mpr ⟨t,z,m⟩) rfl
theorem dM.flip (k:dM Q ts) (nf:¬ Flat Q) {rest ts':List (List Pl)} {u1 u2:List Pl} (p:ts.Perm (t1 :: t2 :: rest)) (r1:oV t1 a b c) (r2:oV t2 b a d) (cv:tw c d a*tw c d b < 0)
 (p':ts'.Perm (u1 :: u2 :: rest)) (v1:oV u1 a d c) (v2:oV u2 b c d) (l1:j4 u1) (l2:j4 u2):dM Q ts':=by
 have h1:t1∈ts:=p.mem_iff.mpr (by simp)
 have h2:t2∈ts:=p.mem_iff.mpr (by simp)
 obtain ⟨p1,ha,hb,hc⟩:=r1.tw (k.qR t1 h1)
 obtain ⟨p2,_,_,hd⟩:=r2.tw (k.qR t2 h2)
 obtain ⟨s1,s2⟩:=qt p1 p2 cv
 obtain ⟨n1,n2⟩:=k.DF nf h1 r1 h2 r2 cv
 have ne:c≠d:=fun z=>by rw [z,(aK d b).2.2] at s1;omega
 refine ⟨k.vd,?_,fun t ht=>?_⟩
 ·have e1:(cD ts).Perm ([a,b] :: [b,a] :: ([b,c] :: [c,a] :: [a,d] :: [d,b] :: cD rest)):=by
   have q1:(cD ts).Perm (dm t1 ++ (dm t2 ++ cD rest)):=by
    have:=p.flatMap_right (f:=dm)
    unfold cD
    simpa only [List.flatMap_cons] using this
   refine q1.trans (((r1.dir.append_right _).trans ((r2.dir.append_right _).append_left _)).trans ?_)
   exact .cons _ (List.perm_middle (l₁:=[[b,c],[c,a]]))
  have e2:(cD ts').Perm ([c,d] :: [d,c] :: ([b,c] :: [c,a] :: [a,d] :: [d,b] :: cD rest)):=by
   have q1:(cD ts').Perm (dm u1 ++ (dm u2 ++ cD rest)):=by
    have:=p'.flatMap_right (f:=dm)
    unfold cD
    simpa only [List.flatMap_cons] using this
   refine q1.trans (((v1.dir.append_right _).trans ((v2.dir.append_right _).append_left _)).trans ?_)
   show ([a,d] :: [d,c] :: [c,a] :: [b,c] :: [c,d] :: [d,b] :: cD rest).Perm _
   refine (List.perm_middle (l₁:=[[a,d],[d,c],[c,a],[b,c]])).trans (.cons _ ?_)
   refine (List.Perm.swap _ _ _).trans (.cons _ ?_)
   exact (List.reverse_perm [[b,c],[c,a],[a,d]]).append_right _
  refine k.JD.swap e1 e2 n1 n2 ne hc hd (fun h=>?_) (fun h=>?_) (fun h=>?_) (fun h=>?_)
  ·have:=(h.2.2.2 d hd).1;have:=cT a b d;omega
  ·have:=(h.2.2.2 c hc).1;have:=cT a b c;omega
  ·have:=(h.2.2.2 a ha).1;omega
  ·have:=(h.2.2.2 b hb).1;have:=cT c d b;omega
 ·rcases List.mem_cons.mp (p'.mem_iff.mp ht) with rfl | ht
  ·exact ⟨l1,fun q hq=>by rcases (v1.mem q).mp hq with rfl | rfl | rfl <;> assumption⟩
  ·rcases List.mem_cons.mp ht with rfl | ht
   ·exact ⟨l2,fun q hq=>by rcases (v2.mem q).mp hq with rfl | rfl | rfl <;> assumption⟩
   ·exact k.qR t (p.mem_iff.mpr (List.mem_cons_of_mem _ (List.mem_cons_of_mem _ ht)))
end
end L3
namespace L3
def cr:List Pl→Int
 | [a,b]=>a.x*b.y - a.y*b.x
 | _=>0
def OI (bd:List Pl) (k:Nat):Pl:=if k=0 then bd.getLastD ⟨0,0⟩ else vc bd (k - 1)
def qg (bd:List Pl):Nat→Int
 | 0=>0
 | k+1=>qg bd k+cr [OI bd k,vc bd k]
end L3
namespace L3
theorem v5 {P:Pl→Prop}:∀ {l:List Pl} {x y:Pl},l.head?=some x→l.getLast?=some y→P x→¬ P y→∃ a b,Nx l a b∧P a∧¬ P b
 | [],_,_,h,_,_,_=>by cases h
 | [z],x,y,h1,h2,p,q=>by
   have e1:z=x:=by simpa using h1
   have e2:z=y:=by simpa using h2
   rw [← e1] at p
   rw [← e2] at q
   exact absurd p q
 | z :: u :: r,x,y,h1,h2,p,q=>by
   have e1:z=x:=by simpa using h1
   have h2':(u :: r).getLast?=some y:=by simpa using h2
   rw [← e1] at p
   by_cases k:P u
   ·obtain ⟨a,b,n,pa,pb⟩:=v5 (l:=u :: r) rfl h2' k q
    exact ⟨a,b,.inr n,pa,pb⟩
   ·exact ⟨z,u,.inl ⟨rfl,rfl⟩,p,k⟩
theorem xG {Q:List Pl} (s:dD Q) (h2:2≤Q.length):∃ (T:List Pl) (x y:Pl),T.head?=some x∧T.getLast?=some y∧(∀ q∈Q,ao.f x≤ao.f q∧ao.f q≤ao.f y)∧∀ a b,Nx T a b→aZ Q a b:=by
 obtain ⟨hs,hok⟩:=id s
 have hne:Q≠[]:=fun z=>by rw [z] at h2;simp at h2
 obtain ⟨x,hx⟩:∃ x,Q.head?=some x:=by
  cases e:Q with
  | nil=>exact absurd e hne
  | cons x r=>exact ⟨x,rfl⟩
 obtain ⟨y,hy⟩:∃ y,Q.getLast?=some y:=⟨_,List.getLast?_eq_some_getLast hne⟩
 have mx:x∈Q:=List.mem_of_mem_head? hx
 have my:y∈Q:=List.mem_of_getLast? hy
 have hend:=fm hs hx hy
 have be:∀ p∈Q,∀ q∈Q,(bQ p q↔ao.f p < ao.f q):=fun p hp q hq=>j7 (hok p hp) (hok q hq)
 have C1:Ch ao Q (Q.foldl aR []):=j6 hne (hs.imp_of_mem fun hp hq h=>(be _ hp _ hq).mp h)
 have key:∀ p∈Q,∀ q∈Q,(p=q∨bQ p q)→ao.f p≤ao.f q:=fun p hp q hq k=>by
  rcases k with rfl | k
  ·exact Int.le_refl _
  ·have a1:=(be p hp q hq).mp k
   omega
 have lo:∀ q∈Q,ao.f x≤ao.f q:=fun q hq=>key x mx q hq ((hend q hq).1.imp Eq.symm id)
 have hi:∀ q∈Q,ao.f q≤ao.f y:=fun q hq=>key q hq y my (hend q hq).2
 obtain ⟨p1,p2⟩:=C1.ends mx my lo hi
 refine ⟨(Q.foldl aR []).reverse,x,y,by rw [List.head?_reverse];exact p2,by rw [List.getLast?_reverse];exact p1,fun q hq=>⟨lo q hq,hi q hq⟩,fun a b k=>?_⟩
 obtain ⟨c1,c2,c3,c4⟩:=(gE C1).mp ((kR _ a b).mpr k)
 refine ⟨c1,c2,fun z=>by rw [z] at c3;omega,qm s c1 c2 fun q hq=>?_⟩
 obtain ⟨k1,k2⟩:=c4 q hq
 refine ⟨k1,fun z h=>?_⟩
 have:=k2 z
 omega
theorem LK (a b p q r:Pl) (x:Pt):hw a b x*tw p q r=hw q r x*tw a b p+hw r p x*tw a b q+hw p q x*tw a b r:=by unfold hw tw;grind
theorem DG {Q:List Pl} (s:dD Q) (h2:2≤Q.length) {x:Pt} (g:Gen Q x) {p q r:Pl} (hp:p∈Q) (hq:q∈Q) (hr:r∈Q) (t:0 < tw p q r) (i1:0 < hw p q x) (i2:0 < hw q r x) (i3:0 < hw r p x):1≤sz (wL ao x) (SL Q):=by
 have left:∀ a b,aZ Q a b→0 < hw a b x:=fun a b h=>by
  have e:=LK a b p q r x
  have m1:=Int.mul_nonneg (Int.le_of_lt i2) (h.2.2.2 p hp).1
  have m2:=Int.mul_nonneg (Int.le_of_lt i3) (h.2.2.2 q hq).1
  have m3:=Int.mul_nonneg (Int.le_of_lt i1) (h.2.2.2 r hr).1
  have n:=g.2 a h.1 b h.2.1 h.2.2.1
  apply Classical.byContradiction
  intro z
  have:=Int.mul_neg_of_neg_of_pos (a:=hw a b x) (b:=tw p q r) (by omega) t
  omega
 have flat:∀ a b,aZ Q a b→Et ao x b a=0:=fun a b h=>by
  unfold Et
  rw [if_neg]
  rintro ⟨_,_,k⟩
  have:=left a b h
  rw [gT] at k
  omega
 obtain ⟨T,lo,hi,e1,e2,e3,e4⟩:=xG s h2
 have fN:∀ u v:Pl,ao.f u≤ao.f v→jH ao u x≤jH ao v x:=fun u v h=>by
  unfold jH
  have:=Int.mul_le_mul_of_nonneg_left h (Int.le_of_lt g.1)
  omega
 have k:=BY ao p q r x
 have P1:jH ao lo x≤0:=by
  apply Classical.byContradiction
  intro z
  have a1:=fN lo p (e3 p hp).1
  have a2:=fN lo q (e3 q hq).1
  have a3:=fN lo r (e3 r hr).1
  have m1:=Int.mul_pos i2 (show 0 < jH ao p x by omega)
  have m2:=Int.mul_pos i3 (show 0 < jH ao q x by omega)
  have m3:=Int.mul_pos i1 (show 0 < jH ao r x by omega)
  omega
 have P2:¬ jH ao hi x≤0:=by
  intro z
  have a1:=fN p hi (e3 p hp).2
  have a2:=fN q hi (e3 q hq).2
  have a3:=fN r hi (e3 r hr).2
  have m1:=Int.mul_nonpos_of_nonneg_of_nonpos (Int.le_of_lt i2) (show jH ao p x≤0 by omega)
  have m2:=Int.mul_nonpos_of_nonneg_of_nonpos (Int.le_of_lt i3) (show jH ao q x≤0 by omega)
  have m3:=Int.mul_nonpos_of_nonneg_of_nonpos (Int.le_of_lt i1) (show jH ao r x≤0 by omega)
  have z1:jH ao p x=0:=(Int.mul_eq_zero.mp (show hw q r x*jH ao p x=0 by omega)).resolve_left (by omega)
  have z2:jH ao q x=0:=(Int.mul_eq_zero.mp (show hw r p x*jH ao q x=0 by omega)).resolve_left (by omega)
  have ne:p≠q:=fun e=>by rw [e,(aK q r).2.2] at t;omega
  have g1:=g.1
  refine sX s hp hq ne (Int.eq_of_mul_eq_mul_left (a:=x.N) (by omega) ?_)
  unfold jH at z1 z2
  omega
 obtain ⟨a,b,n,pa,pb⟩:=v5 (P:=fun v=>jH ao v x≤0) e1 e2 P1 P2
 have LL:=e4 a b n
 have one:wL ao x [a,b]=1:=by
  show wn ao x a b=1
  unfold wn
  rw [flat a b LL]
  unfold Et
  rw [if_pos ⟨pa,by omega,left a b LL⟩]
  rfl
 have nn:∀ d∈SL Q,0≤wL ao x d:=fun d hd=>by
  obtain ⟨u,v,rfl⟩:=lY hd
  show 0≤wn ao x u v
  unfold wn
  rw [flat u v ((dX s).mp hd)]
  unfold Et
  split <;> omega
 have key:∀ {l:List (List Pl)},(∀ d∈l,0≤wL ao x d)→(0≤sz (wL ao x) l∧∀ d∈l,wL ao x d≤sz (wL ao x) l):=fun {l} hl=>by
  induction l with
  | nil=>exact ⟨by simp [sz],fun d hd=>by cases hd⟩
  | cons e l ih=>
    obtain ⟨h1,h2⟩:=ih fun d hd=>hl d (List.mem_cons_of_mem _ hd)
    have h0:=hl e (by simp)
    refine ⟨by show 0≤wL ao x e+sz (wL ao x) l;omega,fun d hd=>?_⟩
    show _≤wL ao x e+sz (wL ao x) l
    rcases List.mem_cons.mp hd with rfl | hd
    ·omega
    ·have:=h2 d hd;omega
 have:=(key nn).2 [a,b] ((dX s).mpr LL)
 omega
theorem dM.some {Q:List Pl} {ts:List (List Pl)} (c:dM Q ts) (nf:¬ Flat Q) {x:Pt} (g:Gen Q x) {p q r:Pl} (hp:p∈Q) (hq:q∈Q) (hr:r∈Q) (t:0 < tw p q r) (i1:0 < hw p q x) (i2:0 < hw q r x) (i3:0 < hw r p x):∃ u∈ts,ins x u=1:=by
 have h2:2≤Q.length:=by
  apply Classical.byContradiction
  intro z
  exact nf (qj (by omega))
 have k:=DG c.vd h2 g hp hq hr t i1 i2 i3
 rw [← B3 c.vd nf c.JD fun a b=>yR ao x a b,uv c.vd g c.qR] at k
 apply Classical.byContradiction
 intro no
 have z:∀ {l:List (List Pl)},(∀ u∈l,ins x u≠1)→sz (ins x) l≤0:=fun {l} hl=>by
  induction l with
  | nil=>simp [sz]
  | cons e l ih=>
    have h1:=ih fun d hd=>hl d (List.mem_cons_of_mem _ hd)
    have h0:=hl e (by simp)
    have:ins x e=0∨ins x e=1:=by
     unfold ins
     split
     ·split
      ·exact .inr rfl
      ·exact .inl rfl
     ·exact .inl rfl
    show ins x e+sz (ins x) l≤0
    omega
 have:=z fun u hu e=>no ⟨u,hu,e⟩
 omega
def eS (p q:Pl) (v:Pl):Int:=(q.x - p.x)*v.y - (q.y - p.y)*v.x
def qu (p q:Pl) (v:Pl):Int:=(q.x - p.x)*v.x+(q.y - p.y)*v.y
def Lex (X:Pt) (v p q:Pl):Prop:=0 < hw p q X∨(hw p q X=0∧(0 < eS p q v∨(eS p q v=0∧0 < qu p q v)))
theorem yV {p q v:Pl} (n:p≠q) (nv:v≠⟨0,0⟩) (h:eS p q v=0):qu p q v≠0:=fun z=>by
 refine kU (p:=p) (q:=q) (c:=⟨0,0⟩) (d:=v) n (Ne.symm nv) ?_ ?_
 ·unfold tw
  unfold eS at h
  dsimp only
  grind
 ·unfold wH
  unfold qu at z
  dsimp only
  grind
theorem beside {Q:List Pl} {X:Pt} (hN:0 < X.N) {v:Pl} (nv:v≠⟨0,0⟩):∃ x:Pt,Gen Q x∧∀ p∈Q,∀ q∈Q,Lex X v p q→0 < hw p q x:=by
 obtain ⟨B,hB⟩:=B6 (fun p q=>(eS p q v).natAbs+(qu p q v).natAbs) Q
 refine ⟨⟨((B:Int)+1)*(B+1)*X.X+(B+1)*v.x - v.y,((B:Int)+1)*(B+1)*X.Y+(B+1)*v.y+v.x,((B:Int)+1)*(B+1)*X.N⟩,?_⟩
 have e:∀ p q,hw p q ⟨((B:Int)+1)*(B+1)*X.X+(B+1)*v.x - v.y,((B:Int)+1)*(B+1)*X.Y+(B+1)*v.y+v.x,((B:Int)+1)*(B+1)*X.N⟩=((B:Int)+1)*(B+1)*hw p q X+(B+1)*eS p q v+qu p q v:=fun p q=>by unfold hw eS qu;grind
 have OJ:0 < ((B:Int)+1)*(B+1)*X.N:=Int.mul_pos (Int.mul_pos (by omega) (by omega)) hN
 have key:∀ p∈Q,∀ q∈Q,Lex X v p q→0 < ((B:Int)+1)*(B+1)*hw p q X+(B+1)*eS p q v+qu p q v:=fun p hp q hq h=>by
  have b:=hB p hp q hq
  exact IY (by omega) (by omega) (by omega) h
 refine ⟨⟨OJ,fun p hp q hq n z=>?_⟩,fun p hp q hq h=>by rw [e];exact key p hp q hq h⟩
 rw [e] at z
 have f1:=gT p q X
 have f2:eS q p v= -eS p q v:=by unfold eS;grind
 have f3:qu q p v= -qu p q v:=by unfold qu;grind
 have k1:=key p hp q hq
 have k2:=key q hq p hp
 have e2:((B:Int)+1)*(B+1)*hw q p X+(B+1)*eS q p v+qu q p v= -(((B:Int)+1)*(B+1)*hw p q X+(B+1)*eS p q v+qu p q v):=by rw [f1,f2,f3];grind
 rw [e2] at k2
 unfold Lex at k1 k2
 by_cases c0:hw p q X=0
 ·by_cases d0:eS p q v=0
  ·have:=yV n nv d0
   rcases Int.lt_or_gt_of_ne this with y | y
   ·have:=k2 (.inr ⟨by omega,.inr ⟨by omega,by omega⟩⟩);omega
   ·have:=k1 (.inr ⟨c0,.inr ⟨d0,y⟩⟩);omega
  ·rcases Int.lt_or_gt_of_ne d0 with y | y
   ·have:=k2 (.inr ⟨by omega,.inl (by omega)⟩);omega
   ·have:=k1 (.inr ⟨c0,.inl y⟩);omega
 ·rcases Int.lt_or_gt_of_ne c0 with y | y
  ·have:=k2 (.inl (by omega));omega
  ·have:=k1 (.inl y);omega
def Wk (X:Pt) (a b c:Pl):Prop:=0≤hw a b X∧0≤hw b c X∧0≤hw c a X
theorem into {X:Pt} (hN:0 < X.N) {a b c:Pl} (t:0 < tw a b c) (h:Wk X a b c):∃ v:Pl,v≠⟨0,0⟩∧Lex X v a b∧Lex X v b c∧Lex X v c a:=by
 have pN:=Int.mul_pos hN t
 have e1:eS a b ⟨X.N*(a.x+b.x+c.x) - 3*X.X,X.N*(a.y+b.y+c.y) - 3*X.Y⟩=X.N*tw a b c - 3*hw a b X:=by unfold eS tw hw;grind
 have e2:eS b c ⟨X.N*(a.x+b.x+c.x) - 3*X.X,X.N*(a.y+b.y+c.y) - 3*X.Y⟩=X.N*tw a b c - 3*hw b c X:=by unfold eS tw hw;grind
 have e3:eS c a ⟨X.N*(a.x+b.x+c.x) - 3*X.X,X.N*(a.y+b.y+c.y) - 3*X.Y⟩=X.N*tw a b c - 3*hw c a X:=by unfold eS tw hw;grind
 generalize (⟨X.N*(a.x+b.x+c.x) - 3*X.X,X.N*(a.y+b.y+c.y) - 3*X.Y⟩:Pl)=v at e1 e2 e3
 obtain ⟨h1,h2,h3⟩:=h
 by_cases z:v= ⟨0,0⟩
 ·have y1:eS a b v=0:=by rw [z];unfold eS;grind
  have y2:eS b c v=0:=by rw [z];unfold eS;grind
  have y3:eS c a v=0:=by rw [z];unfold eS;grind
  exact ⟨⟨1,0⟩,by simp,.inl (by omega),.inl (by omega),.inl (by omega)⟩
 ·have one:∀ p q,0≤hw p q X→eS p q v=X.N*tw a b c - 3*hw p q X→Lex X v p q:=fun p q k e=>by
   by_cases y:hw p q X=0
   ·exact .inr ⟨y,.inl (by omega)⟩
   ·exact .inl (by omega)
  exact ⟨v,z,one a b h1 e1,one b c h2 e2,one c a h3 e3⟩
section
variable {Q:List Pl} {ts:List (List Pl)} {X:Pt}
theorem dM.same (k:dM Q ts) (nf:¬ Flat Q) (hN:0 < X.N) {t u:List Pl} (ht:t∈ts) (hu:u∈ts) {a b c a' b' c':Pl} (r:oV t a b c) (r':oV u a' b' c') {v:Pl} (nv:v≠⟨0,0⟩)
 (h1:Lex X v a b) (h2:Lex X v b c) (h3:Lex X v c a) (g1:Lex X v a' b') (g2:Lex X v b' c') (g3:Lex X v c' a'):t=u:=by
 obtain ⟨_,ha,hb,hc⟩:=r.tw (k.qR t ht)
 obtain ⟨_,ha',hb',hc'⟩:=r'.tw (k.qR u hu)
 obtain ⟨x,g,hx⟩:=beside (Q:=Q) hN nv
 exact k.one nf g ht hu (r.ins (hx _ ha _ hb h1) (hx _ hb _ hc h2) (hx _ hc _ ha h3)) (r'.ins (hx _ ha' _ hb' g1) (hx _ hb' _ hc' g2) (hx _ hc' _ ha' g3))
theorem dM.alone (k:dM Q ts) (nf:¬ Flat Q) (hN:0 < X.N) {t u:List Pl} (ht:t∈ts) (hu:u∈ts) {a b c a' b' c':Pl} (r:oV t a b c) (r':oV u a' b' c') (h1:0 < hw a b X) (h2:0 < hw b c X) (h3:0 < hw c a X) (h:Wk X a' b' c'):t=u:=by
 obtain ⟨p,_⟩:=r'.tw (k.qR u hu)
 obtain ⟨v,nv,g1,g2,g3⟩:=into hN p h
 exact k.same nf hN ht hu r r' nv (.inl h1) (.inl h2) (.inl h3) g1 g2 g3
def Gq (X:Pt) (t:List Pl) (a b:Pl):Prop:= ∃ c,oV t a b c∧hw a b X=0∧0 < hw b c X∧0 < hw c a X
theorem nS {a b c:Pl} (t:0 < tw a b c) (h1:hw a b X=0) (h2:hw b c X=0):X.X=X.N*b.x∧X.Y=X.N*b.y:=by
 have e1:tw a b c*(X.X - X.N*b.x)=hw a b X*(c.x - b.x)+hw b c X*(a.x - b.x):=by unfold tw hw;grind
 have e2:tw a b c*(X.Y - X.N*b.y)=hw a b X*(c.y - b.y)+hw b c X*(a.y - b.y):=by unfold tw hw;grind
 rw [h1,h2,Int.zero_mul,Int.zero_mul] at e1 e2
 have z1:=(Int.mul_eq_zero.mp (e1.trans (by omega))).resolve_left (by omega)
 have z2:=(Int.mul_eq_zero.mp (e2.trans (by omega))).resolve_left (by omega)
 omega
theorem DH {t:List Pl} (h:oF Q t) (no:∀ p∈Q,¬ (X.X=X.N*p.x∧X.Y=X.N*p.y)) {a b c:Pl} (r:oV t a b c) (w:Wk X a b c) (ns:¬ (0 < hw a b X∧0 < hw b c X∧0 < hw c a X)):∃ a b,Gq X t a b:=by
 obtain ⟨p,ha,hb,hc⟩:=r.tw h
 obtain ⟨w1,w2,w3⟩:=w
 have n1:¬ (hw a b X=0∧hw b c X=0):=fun z=>no b hb (nS p z.1 z.2)
 have n2:¬ (hw b c X=0∧hw c a X=0):=fun z=>no c hc (nS (a:=b) (b:=c) (c:=a) (by have:=mW a b c;omega) z.1 z.2)
 have n3:¬ (hw c a X=0∧hw a b X=0):=fun z=>no a ha (nS (a:=c) (b:=a) (c:=b) (by have:=xx a b c;omega) z.1 z.2)
 have r2:oV t b c a:=by rcases r with r | r | r;exact .inr (.inr r);exact .inl r;exact .inr (.inl r)
 have r3:oV t c a b:=by rcases r with r | r | r;exact .inr (.inl r);exact .inr (.inr r);exact .inl r
 by_cases z1:hw a b X=0
 ·exact ⟨a,b,c,r,z1,by omega,by omega⟩
 ·by_cases z2:hw b c X=0
  ·exact ⟨b,c,a,r2,z2,by omega,by omega⟩
  ·exact ⟨c,a,b,r3,by omega,by omega,by omega⟩
def dN (a b:Pl):Pl:=⟨b.x - a.x,b.y - a.y⟩
theorem dM.meet (k:dM Q ts) (nf:¬ Flat Q) (hN:0 < X.N) {t u:List Pl} (ht:t∈ts) (hu:u∈ts) {a b a' b':Pl} (h:Gq X t a b) (h':Gq X u a' b') (d:¬ (eS a b (dN a' b')=0∧qu a b (dN a' b') < 0)):t=u:=by
 obtain ⟨c,r,z,p1,p2⟩:=h
 obtain ⟨c',r',z',OL,OM⟩:=h'
 obtain ⟨pt,ha,hb,hc⟩:=r.tw (k.qR t ht)
 obtain ⟨pu,ha',hb',hc'⟩:=r'.tw (k.qR u hu)
 have nab:a≠b:=fun e=>by rw [e,(aK b c).2.2] at pt;omega
 have LM:a'≠b':=fun e=>by rw [e,(aK b' c').2.2] at pu;omega
 have fin:∀ v:Pl,0 < eS a b v→0 < eS a' b' v→t=u:=fun v k1 k2=>
  k.same nf hN ht hu r r' (v:=v) (fun e=>by rw [e] at k1;unfold eS at k1;dsimp only at k1;omega) (.inr ⟨z,.inl k1⟩) (.inl p1) (.inl p2) (.inr ⟨z',.inl k2⟩) (.inl OL) (.inl OM)
 have sq:∀ i:Int,i≠0→0 < i*i:=fun i hi=>by
  rcases Int.lt_or_gt_of_ne hi with y | y
  ·exact Int.mul_pos_of_neg_of_neg y y
  ·exact Int.mul_pos y y
 by_cases cz:eS a b (dN a' b')=0
 ·have nv:dN a' b'≠⟨0,0⟩:=fun e=>LM (by
   unfold dN at e
   injection e with e1 e2
   cases a';cases b'
   simp only [Pl.mk.injEq]
   dsimp only at e1 e2
   omega)
  have dn:=yV nab nv cz
  have dp:0 < qu a b (dN a' b'):=by
   rcases Int.lt_or_gt_of_ne dn with y | y
   ·exact absurd ⟨cz,y⟩ d
   ·exact y
  refine fin ⟨-(b.y - a.y),b.x - a.x⟩ ?_ ?_
  ·have e:eS a b ⟨-(b.y - a.y),b.x - a.x⟩=(b.x - a.x)*(b.x - a.x)+(b.y - a.y)*(b.y - a.y):=by unfold eS;grind
   rw [e]
   have:=kU (p:=a) (q:=b) (c:=a) (d:=b) nab nab (by rw [(aK a b).1,(aK a b).2.1];omega)
   unfold wH at this
   have q1:0≤(b.x - a.x)*(b.x - a.x):=by by_cases y:b.x - a.x=0;rw [y];simp;exact Int.le_of_lt (sq _ y)
   have q2:0≤(b.y - a.y)*(b.y - a.y):=by by_cases y:b.y - a.y=0;rw [y];simp;exact Int.le_of_lt (sq _ y)
   omega
  ·have e:eS a' b' ⟨-(b.y - a.y),b.x - a.x⟩=qu a b (dN a' b'):=by unfold eS qu dN;grind
   rw [e];exact dp
 ·have s2:=sq _ cz
  refine fin ⟨eS a b (dN a' b')*((b'.x - a'.x) - (b.x - a.x)),eS a b (dN a' b')*((b'.y - a'.y) - (b.y - a.y))⟩ ?_ ?_
  ·have e:eS a b ⟨eS a b (dN a' b')*((b'.x - a'.x) - (b.x - a.x)),eS a b (dN a' b')*((b'.y - a'.y) - (b.y - a.y))⟩=eS a b (dN a' b')*eS a b (dN a' b'):=by unfold eS dN;grind
   rw [e];exact s2
  ·have e:eS a' b' ⟨eS a b (dN a' b')*((b'.x - a'.x) - (b.x - a.x)),eS a b (dN a' b')*((b'.y - a'.y) - (b.y - a.y))⟩=eS a b (dN a' b')*eS a b (dN a' b'):=by unfold eS dN;grind
   rw [e];exact s2
theorem dM.two (k:dM Q ts) (nf:¬ Flat Q) (hN:0 < X.N) {t u w:List Pl} (ht:t∈ts) (hu:u∈ts) (ve:w∈ts) {a b a' b' p q:Pl} (h:Gq X t a b) (h':Gq X u a' b') (h'':Gq X w p q):t=u∨t=w∨u=w:=by
 by_cases d1:eS a b (dN a' b')=0∧qu a b (dN a' b') < 0
 ·by_cases d2:eS a b (dN p q)=0∧qu a b (dN p q) < 0
  ·refine .inr (.inr (k.meet nf hN hu ve h' h'' fun d3=>?_))
   have e:qu a b (dN a' b')*qu a b (dN p q)+eS a b (dN a' b')*eS a b (dN p q)=((b.x - a.x)*(b.x - a.x)+(b.y - a.y)*(b.y - a.y))*qu a' b' (dN p q):=by unfold qu eS dN;grind
   rw [d1.1,Int.zero_mul,Int.add_zero] at e
   have m:=Int.mul_pos_of_neg_of_neg d1.2 d2.2
   have qq:∀ i:Int,0≤i*i:=fun i=>by
    rcases Int.le_total 0 i with y | y
    ·exact Int.mul_nonneg y y
    ·exact Int.mul_nonneg_of_nonpos_of_nonpos y y
   have q1:=qq (b.x - a.x)
   have q2:=qq (b.y - a.y)
   have:=Int.mul_nonpos_of_nonneg_of_nonpos (a:=(b.x - a.x)*(b.x - a.x)+(b.y - a.y)*(b.y - a.y)) (b:=qu a' b' (dN p q)) (by omega) (by omega)
   omega
  ·exact .inr (.inl (k.meet nf hN ht ve h h'' d2))
 ·exact .inl (k.meet nf hN ht hu h h' d1)
theorem dM.holds (k:dM Q ts) (nf:¬ Flat Q) (hN:0 < X.N) {p q r:Pl} (hp:p∈Q) (hq:q∈Q) (hr:r∈Q) (t:0 < tw p q r) (h:Wk X p q r):∃ u∈ts,∃ a b c,u= [a,b,c]∧Wk X a b c:=by
 obtain ⟨v,nv,g1,g2,g3⟩:=into hN t h
 obtain ⟨x,g,hx⟩:=beside (Q:=Q) hN nv
 obtain ⟨u,hu,i⟩:=k.some nf g hp hq hr t (hx _ hp _ hq g1) (hx _ hq _ hr g2) (hx _ hr _ hp g3)
 obtain ⟨a,b,c,rfl,_,ha,hb,hc,_⟩:=(k.qR u hu).parts
 have i:(if 0 < hw a b x∧0 < hw b c x∧0 < hw c a x then (1:Int) else 0)=1:=i
 have i3:0 < hw a b x∧0 < hw b c x∧0 < hw c a x:=by
  apply Classical.byContradiction
  intro z
  rw [if_neg z] at i
  omega
 have nn:∀ a∈Q,∀ b∈Q,0 < hw a b x→0≤hw a b X:=fun a ha b hb i=>by
  apply Classical.byContradiction
  intro z
  have:=hx b hb a ha (.inl (by rw [gT];omega))
  rw [gT] at this
  omega
 exact ⟨_,hu,a,b,c,rfl,nn a ha b hb i3.1,nn b hb c hc i3.2.1,nn c hc a ha i3.2.2⟩
end
end L3
namespace L3
def Seg (u v p:Pl):Prop:=tw u v p=0∧∀ q,(0 < tw u v q→0≤tw v q p∧0≤tw q u p)∧(0 < tw v u q→0≤tw u q p∧0≤tw q v p)
theorem Gr {u v p:Pl} (h1:ao.f u≤ao.f p) (h2:ao.f p≤ao.f v) (h3:ao.f u < ao.f v) (z:tw u v p=0):Seg u v p:=by
 refine ⟨z,fun q=>?_⟩
 have e1:=nO ao q u p v
 have e2:=nO ao q v p u
 have r1:=mW u v q
 have r2:=oG u v q
 have r3:=cT u v p
 have r4:=cT q u p
 have r5:=cT q v p
 have r6:=cT u v q
 rw [show tw v u p=0 by omega,Int.mul_zero,r1] at e1
 rw [z,Int.mul_zero,show tw u q v= -tw u v q by omega] at e2
 have d:0 < ao.f v - ao.f u:=by omega
 have up:∀ A B C:Int,(ao.f v - ao.f u)*A=B*C→0≤B→0≤C→0≤A:=fun A B C e b c=>nL d (by rw [e];exact Int.mul_nonneg b c)
 have E1:(ao.f v - ao.f u)*tw v q p=(ao.f v - ao.f p)*tw u v q:=by grind
 have E2:(ao.f v - ao.f u)*tw q u p=(ao.f p - ao.f u)*tw u v q:=by grind
 have E3:(ao.f v - ao.f u)*tw u q p=(ao.f p - ao.f u)*tw v u q:=by grind
 have E4:(ao.f v - ao.f u)*tw q v p=(ao.f v - ao.f p)*tw v u q:=by grind
 exact ⟨fun k=>⟨up _ _ _ E1 (by omega) (by omega),up _ _ _ E2 (by omega) (by omega)⟩,fun k=>⟨up _ _ _ E3 (by omega) (by omega),up _ _ _ E4 (by omega) (by omega)⟩⟩
theorem qv {u v:Pl}:Seg u v u:=by
 refine ⟨(aK u v).1,fun q=>⟨fun k=>⟨?_,?_⟩,fun k=>⟨?_,?_⟩⟩⟩
 ·have:=mW u v q;omega
 ·rw [(aK q u).2.1];omega
 ·rw [(aK u q).1];omega
 ·have:=mW v u q;have:=mW u q v;omega
theorem yW {l:List Pl} (f:Pl→Int) (h:l≠[]):∃ u∈l,∀ p∈l,f u≤f p:=by
 induction l with
 | nil=>exact absurd rfl h
 | cons a r ih=>
   by_cases e:r= []
   ·exact ⟨a,by simp,fun p hp=>by rw [e] at hp;rw [List.mem_singleton.mp hp];exact Int.le_refl _⟩
   ·obtain ⟨u,hu,k⟩:=ih e
    by_cases c:f a≤f u
    ·refine ⟨a,by simp,fun p hp=>?_⟩
     rcases List.mem_cons.mp hp with rfl | hp
     ·exact Int.le_refl _
     ·have:=k p hp;omega
    ·refine ⟨u,List.mem_cons_of_mem _ hu,fun p hp=>?_⟩
     rcases List.mem_cons.mp hp with rfl | hp
     ·omega
     ·exact k p hp
section
variable {Q:List Pl} {X:Pt}
theorem LN {p1 p2 p3:Pl} {s1 s2 s3:Int} (hX:X.X*(s1+s2+s3)=X.N*(s1*p1.x+s2*p2.x+s3*p3.x)) (hY:X.Y*(s1+s2+s3)=X.N*(s1*p1.y+s2*p2.y+s3*p3.y)) (a b:Pl) :
 hw a b X*(s1+s2+s3)=X.N*(s1*tw a b p1+s2*tw a b p2+s3*tw a b p3):=by
 have e:hw a b X*(s1+s2+s3)=(b.x - a.x)*(X.Y*(s1+s2+s3)) - (b.y - a.y)*(X.X*(s1+s2+s3))+X.N*(s1+s2+s3)*((b.y - a.y)*a.x - (b.x - a.x)*a.y):=by unfold hw;grind
 rw [e,hX,hY]
 unfold tw
 grind
theorem zZ (s:dD Q) (nf:¬ Flat Q) (hN:0 < X.N) {p1 p2 p3:Pl} (m1:p1∈Q) (m2:p2∈Q) (m3:p3∈Q) {s1 s2 s3:Int} (h1:0≤s1) (h2:0≤s2) (h3:0≤s3) (hS:0 < s1+s2+s3)
 (hX:X.X*(s1+s2+s3)=X.N*(s1*p1.x+s2*p2.x+s3*p3.x)) (hY:X.Y*(s1+s2+s3)=X.N*(s1*p1.y+s2*p2.y+s3*p3.y)) :
 ∃ p∈Q,∃ q∈Q,∃ r∈Q,0 < tw p q r∧Wk X p q r:=by
 have nn:∀ a b,0≤tw a b p1→0≤tw a b p2→0≤tw a b p3→0≤hw a b X:=fun a b k1 k2 k3=>by
  have e:=LN hX hY a b
  refine nL hS ?_
  rw [Int.mul_comm,e]
  refine Int.mul_nonneg (by omega) ?_
  have:=Int.mul_nonneg h1 k1
  have:=Int.mul_nonneg h2 k2
  have:=Int.mul_nonneg h3 k3
  omega
 have r1:=mW p1 p2 p3
 have r2:=xx p1 p2 p3
 have r3:=oG p1 p2 p3
 rcases Int.lt_trichotomy (tw p1 p2 p3) 0 with z | z | z
 ·have q1:=mW p1 p3 p2
  have q2:=xx p1 p3 p2
  refine ⟨p1,m1,p3,m3,p2,m2,by omega,nn _ _ ?_ ?_ ?_,nn _ _ ?_ ?_ ?_,nn _ _ ?_ ?_ ?_⟩
  ·rw [(aK p1 p3).1];omega
  ·omega
  ·rw [(aK p1 p3).2.1];omega
  ·omega
  ·rw [(aK p3 p2).2.1];omega
  ·rw [(aK p3 p2).1];omega
  ·rw [(aK p2 p1).2.1];omega
  ·rw [(aK p2 p1).1];omega
  ·omega
 ·
  have fin:∀ u∈Q,∀ v∈Q,u≠v→Seg u v p1→Seg u v p2→Seg u v p3→∃ p∈Q,∃ q∈Q,∃ r∈Q,0 < tw p q r∧Wk X p q r:=fun u hu v hv ne g1 g2 g3=>by
   obtain ⟨q,hq,nz⟩:∃ q∈Q,tw u v q≠0:=by
    apply Classical.byContradiction
    intro no
    exact nf (gS ne fun q hq=>Classical.byContradiction fun y=>no ⟨q,hq,y⟩)
   have f0:=cT u v q
   have z1:=g1.1
   have z2:=g2.1
   have z3:=g3.1
   rcases Int.lt_or_gt_of_ne nz with y | y
   ·have f1:=cT u v p1
    have f2:=cT u v p2
    have f3:=cT u v p3
    have k:0 < tw v u q:=by omega
    obtain ⟨a1,b1⟩:=(g1.2 q).2 k
    obtain ⟨a2,b2⟩:=(g2.2 q).2 k
    obtain ⟨a3,b3⟩:=(g3.2 q).2 k
    exact ⟨v,hv,u,hu,q,hq,k,nn _ _ (by omega) (by omega) (by omega),nn _ _ a1 a2 a3,nn _ _ b1 b2 b3⟩
   ·obtain ⟨a1,b1⟩:=(g1.2 q).1 y
    obtain ⟨a2,b2⟩:=(g2.2 q).1 y
    obtain ⟨a3,b3⟩:=(g3.2 q).1 y
    exact ⟨u,hu,v,hv,q,hq,y,nn _ _ (by omega) (by omega) (by omega),nn _ _ a1 a2 a3,nn _ _ b1 b2 b3⟩
  have Gs:∀ p∈[p1,p2,p3],p∈Q:=fun p hp=>by
   simp only [List.mem_cons,List.not_mem_nil,or_false] at hp
   rcases hp with rfl | rfl | rfl <;> assumption
  obtain ⟨u,hu,ku⟩:=yW (l:=[p1,p2,p3]) ao.f (by simp)
  obtain ⟨v,hv,kv⟩:=yW (l:=[p1,p2,p3]) (fun p=> -ao.f p) (by simp)
  have kv:∀ p∈[p1,p2,p3],ao.f p≤ao.f v:=fun p hp=>by have:=kv p hp;omega
  by_cases e:u=v
  ·have same:∀ p∈[p1,p2,p3],p=u:=fun p hp=>s.inj (Gs p hp) (Gs u hu) (by have:=ku p hp;have:=kv p hp;rw [← e] at this;omega)
   obtain ⟨w,ve,nw⟩:∃ w∈Q,w≠u:=by
    apply Classical.byContradiction
    intro no
    have all:∀ w∈Q,w=u:=fun w ve=>Classical.byContradiction fun y=>no ⟨w,ve,y⟩
    exact nf fun a ha b hb c hc=>by rw [all a ha,all b hb,all c hc];exact (aK u u).1
   have e1:=same p1 (by simp)
   have e2:=same p2 (by simp)
   have e3:=same p3 (by simp)
   refine fin u (Gs u hu) w ve (Ne.symm nw) ?_ ?_ ?_
   ·rw [e1];exact qv
   ·rw [e2];exact qv
   ·rw [e3];exact qv
  ·have lt:ao.f u < ao.f v:=by
    have:=ku v hv
    have:=sX s (Gs u hu) (Gs v hv) e
    omega
   have col:∀ p∈[p1,p2,p3],tw u v p=0:=fun p hp=>by
    have fl:Flat [p1,p2,p3]:=by
     by_cases Gu:p1=p2
     ·by_cases LO:p2=p3
      ·intro a ha b hb c hc
       have al:∀ w∈[p1,p2,p3],w=p3:=fun w ve=>by
        simp only [List.mem_cons,List.not_mem_nil,or_false] at ve
        rcases ve with rfl | rfl | rfl
        ·exact Gu.trans LO
        ·exact LO
        ·rfl
       rw [al a ha,al b hb,al c hc]
       exact (aK p3 p3).1
      ·refine gS (a:=p2) (b:=p3) LO fun q hq=>?_
       simp only [List.mem_cons,List.not_mem_nil,or_false] at hq
       rcases hq with rfl | rfl | rfl
       ·rw [Gu];exact (aK _ _).1
       ·exact (aK _ _).1
       ·exact (aK _ _).2.1
     ·refine gS (a:=p1) (b:=p2) Gu fun q hq=>?_
      simp only [List.mem_cons,List.not_mem_nil,or_false] at hq
      rcases hq with rfl | rfl | rfl
      ·exact (aK _ _).1
      ·exact (aK _ _).2.1
      ·exact z
    exact fl u hu v hv p hp
   have sg:∀ p∈[p1,p2,p3],Seg u v p:=fun p hp=>Gr (ku p hp) (kv p hp) lt (col p hp)
   exact fin u (Gs u hu) v (Gs v hv) e (sg p1 (by simp)) (sg p2 (by simp)) (sg p3 (by simp))
 ·refine ⟨p1,m1,p2,m2,p3,m3,z,nn _ _ ?_ ?_ ?_,nn _ _ ?_ ?_ ?_,nn _ _ ?_ ?_ ?_⟩
  ·rw [(aK p1 p2).1];omega
  ·rw [(aK p1 p2).2.1];omega
  ·omega
  ·omega
  ·rw [(aK p2 p3).1];omega
  ·rw [(aK p2 p3).2.1];omega
  ·rw [(aK p3 p1).2.1];omega
  ·omega
  ·rw [(aK p3 p1).1];omega
end
end L3
namespace L3
theorem len_one {α:Type} {l:List α} {t:α} (nd:l.Nodup) (ht:t∈l) (h:∀ u∈l,u=t):l.length=1:=by
 match l,nd,ht,h with
 | [],_,ht,_=>cases ht
 | [a],_,_,_=>rfl
 | a :: b :: r,nd,_,h=>
   have e1:=h a (by simp)
   have e2:=h b (by simp)
   have n:=(List.nodup_cons.mp nd).1
   rw [e1,e2] at n
   exact absurd (by simp) n
theorem DI {α:Type} {l:List α} (nd:l.Nodup) (h:∀ a∈l,∀ b∈l,∀ c∈l,a=b∨a=c∨b=c):l.length≤2:=by
 match l,nd,h with
 | [],_,_=>exact Nat.zero_le _
 | [a],_,_=>exact Nat.le_succ _
 | [a,b],_,_=>exact Nat.le_refl _
 | a :: b :: c :: r,nd,h=>
   obtain ⟨n1,nd⟩:=List.nodup_cons.mp nd
   obtain ⟨n2,_⟩:=List.nodup_cons.mp nd
   rcases h a (by simp) b (by simp) c (by simp) with e | e | e
   ·rw [e] at n1;exact absurd (by simp) n1
   ·rw [e] at n1;exact absurd (by simp) n1
   ·rw [e] at n2;exact absurd (by simp) n2
section
variable {Q:List Pl} {us:List (List Pl)} {X:Pt} {w:List Pl→Bool}
theorem tH (k:dM Q us) (nf:¬ Flat Q) (hN:0 < X.N) (ve:∀ a b c,w [a,b,c]=true↔Wk X a b c) {a b c:Pl} (ht: [a,b,c]∈us) (s1:0 < hw a b X) (s2:0 < hw b c X) (s3:0 < hw c a X):(us.filter w).length=1:=by
 refine len_one (t:=[a,b,c]) (k.nodup.filter _) (List.mem_filter.mpr ⟨ht,(ve _ _ _).mpr ⟨by omega,by omega,by omega⟩⟩) fun u hu=>?_
 obtain ⟨hu,h2⟩:=List.mem_filter.mp hu
 obtain ⟨a',b',c',rfl,_⟩:=(k.qR u hu).parts
 exact (k.alone nf hN ht hu (.inl rfl) (.inl rfl) s1 s2 s3 ((ve _ _ _).mp h2)).symm
theorem B7 (k:dM Q us) (nf:¬ Flat Q) (hN:0 < X.N) (ve:∀ a b c,w [a,b,c]=true↔Wk X a b c) {p q r:Pl} (hp:p∈Q) (hq:q∈Q) (hr:r∈Q) (t:0 < tw p q r) (h:Wk X p q r):0 < (us.filter w).length:=by
 obtain ⟨u,hu,a,b,c,rfl,hk⟩:=k.holds nf hN hp hq hr t h
 exact List.length_pos_of_mem (List.mem_filter.mpr ⟨hu,(ve _ _ _).mpr hk⟩)
theorem DJ (k:dM Q us) (nf:¬ Flat Q) (hN:0 < X.N) (ve:∀ a b c,w [a,b,c]=true↔Wk X a b c) (no:∀ p∈Q,¬ (X.X=X.N*p.x∧X.Y=X.N*p.y)) (ns:∀ a b c,[a,b,c]∈us→¬ (0 < hw a b X∧0 < hw b c X∧0 < hw c a X)):(us.filter w).length≤2:=by
 have ed:∀ t∈us.filter w,t∈us∧∃ a b,Gq X t a b:=fun t ht=>by
  obtain ⟨hu,h2⟩:=List.mem_filter.mp ht
  refine ⟨hu,?_⟩
  have hT:=k.qR t hu
  obtain ⟨a,b,c,rfl,_⟩:=hT.parts
  exact DH hT no (.inl rfl) ((ve _ _ _).mp h2) (ns _ _ _ hu)
 refine DI (k.nodup.filter _) fun a ha b hb c hc=>?_
 obtain ⟨m1,_,_,e1⟩:=ed a ha
 obtain ⟨m2,_,_,e2⟩:=ed b hb
 obtain ⟨m3,_,_,e3⟩:=ed c hc
 exact k.two nf hN m1 m2 m3 e1 e2 e3
end
theorem tK {a b p:Int} (hb:0 < b) (h:Int.gcd a b=1) (e:a=b*p):b=1∧a=p:=by
 have d:b ∣ (Int.gcd a b:Int):=Int.dvd_coe_gcd (by rw [e];exact Int.dvd_mul_right _ _) (Int.dvd_refl _)
 rw [h] at d
 have:b=1:=by
  obtain ⟨k,hk⟩:=d
  have:b≤1:=Int.le_of_dvd (by decide) ⟨k,hk⟩
  omega
 subst this
 exact ⟨rfl,by omega⟩
theorem Aa {l:List Pl} (nd:l.Nodup) {w:Pl→Bool} (h:∀ p∈l,∀ q∈l,w p=true→w q=true→p=q) (n:(l.filter w).length≠1):∀ p∈l,w p=false:=fun p hp=>by
 cases e:w p with
 | false=>rfl
 | true=>
   refine absurd (len_one (t:=p) (nd.filter _) (List.mem_filter.mpr ⟨hp,e⟩) fun u hu=>?_) n
   obtain ⟨hu,h2⟩:=List.mem_filter.mp hu
   exact h u hu p hp h2 e
end L3
namespace HD
open PySem PySem.W L2
theorem IZ:dA=kP:=funext fun s=>by cases s <;> rfl
theorem Ja:dB=fW:=funext fun s=>by cases s <;> rfl
theorem Jb:dS=av:=funext fun s=>by cases s <;> rfl
def wI (h:Heap):List Addr→Frag
 | []=>[]
 | a :: r=>match h.get? a with
   | some o=>(a,o) :: wI h r
   | none=>wI h r
theorem xH (h:Heap):∀ as:List Addr,(wI h as).In h
 | [],_,_,e=>nomatch e
 | b :: r,a,o,e=>by
   unfold wI at e
   cases q:h.get? b with
   | none=>rw [q] at e;exact xH h r a o e
   | some x=>
     rw [q] at e
     replace e:List.lookup a ((b,x) :: wI h r)=some o:=e
     rw [List.lookup_cons] at e
     cases z:a == b with
     | true=>
       rw [z] at e
       obtain rfl:a=b:=eq_of_beq z
       cases e;exact q
     | false=>rw [z] at e;exact xH h r a o e
theorem qw {h:Heap} {a:Addr} {o:Obj} (e:h.get? a=some o):∀ {as:List Addr},a∈as→(wI h as).lookup a=some o
 | b :: r,m=>by
   unfold wI
   by_cases z:a=b
   ·subst z
    rw [e]
    show List.lookup a ((a,o) :: wI h r)=some o
    rw [List.lookup_cons,beq_self_eq_true]
   ·have m':a∈r:=by
     rcases List.mem_cons.mp m with y | y
     ·exact absurd y z
     ·exact y
    cases q:h.get? b with
    | none=>exact qw e m'
    | some x=>
      show List.lookup a ((b,x) :: wI h r)=some o
      rw [List.lookup_cons,beq_eq_false_iff_ne.mpr z]
      exact qw e m'
theorem DL {K:Frag} {o:Obj} (e:K.lookup mainGlobals=some o) (n:Str):nsIn K mainGlobals n=nsIn [(mainGlobals,o)] mainGlobals n:=by
 unfold nsIn
 rw [e]
 rfl
def adr (h:Heap) (n:Str):List Addr:=match fnAt h n with
 | some (f,fd)=>f :: (match fd.code with | .ref c=>[c] | _=>[])
 | none=>[]
def LP (h:Heap) (fs:List (Str ×Stmt)):List Addr:=mainGlobals :: fs.flatMap fun p=>adr h p.1
def MQ (K:Frag) (p:Str ×Stmt):Prop:= ∃ f fd,nsIn K mainGlobals p.1=some (some (.ref f))∧jx K p.1 p.1 p.2 f fd
def Dt (K:Frag):List (Str ×Stmt)→Prop
 | []=>True
 | p :: r=>MQ K p∧Dt K r
def AllB (K:Frag):List Str→Prop
 | []=>True
 | b :: r=>nsIn K mainGlobals b=some none∧AllB K r
def YP (fs:List (Str ×Stmt)) (bs:List Str) (h:Heap):Prop:= ∃ K:Frag,K.In h∧Dt K fs∧AllB K bs
theorem keeps {fs:List (Str ×Stmt)} {bs:List Str} {h h':Heap} (y:YP fs bs h) (k:∀ b o,h.get? b=some o→h'.get? b=some o):YP fs bs h':=
 let ⟨K,i,a,b⟩:=y
 ⟨K,i.keeps k,a,b⟩
theorem B8 {h:Heap} {as:List Addr} {n:Str} {r:Option Value} (m:mainGlobals∈as) (e:GK h n=some r):nsIn (wI h as) mainGlobals n=some r:=by
 unfold GK at e
 cases q:h.get? mainGlobals with
 | none=>rw [q] at e;cases e
 | some o=>rw [q] at e;rw [DL (qw q m)];exact e
theorem DM {h:Heap} {n:Str} {f:Addr} {fd:FuncData} (e:fnAt h n=some (f,fd)):GK h n=some (some (.ref f))∧∃ oc od sl,h.get? f=some ⟨oc,od,.func fd,sl⟩:=by
 unfold fnAt at e
 split at e
 ·rename_i g hg
  split at e
  ·rename_i oc od fd' sl hq
   cases e
   exact ⟨hg,oc,od,sl,hq⟩
  ·cases e
 ·cases e
theorem v7 {h:Heap} {v:Value} {q:Str} {as:List Addr} (e:jI h v=some q) (m:∀ c,v= .ref c→c∈as):codeIn (wI h as) v q=true:=by
 unfold jI at e
 split at e
 ·rename_i c
  split at e
  ·rename_i oc od vs sl hc
   split at e
   ·rename_i a q' tk r hv
    cases e
    unfold codeIn
    dsimp only
    rw [qw hc (m c rfl)]
    dsimp only
    rw [hv]
    dsimp only
    exact beq_self_eq_true _
   ·cases e
  ·cases e
 ·cases e
theorem Gv {h:Heap} {p:Str ×Stmt} {as:List Addr} (m0:mainGlobals∈as) (m:∀ a∈adr h p.1,a∈as)
 (e:(fnAt h p.1).map (fun x=>(blank x.2,jI h x.2.code))=some (fnOf p.1 p.1 (kP p.2) (fW p.2) (av p.2) .none .none .none .none none .none .none,some p.1)):MQ (wI h as) p:=by
 obtain ⟨⟨f,fd⟩,hf,hq⟩:=Option.map_eq_some_iff.mp e
 obtain ⟨h1,oc,od,sl,h2⟩:=DM hf
 obtain ⟨e1,e2⟩:=Prod.mk.inj hq
 have hadr:adr h p.1=f :: (match fd.code with | .ref c=>[c] | _=>[]):=by unfold adr;rw [hf]
 have LQ:f∈as:=m f (by rw [hadr];exact .head _)
 have lk:=qw h2 LQ
 have hc:codeIn (wI h as) fd.code p.1=true:=v7 e2 fun c hc=>m c (by rw [hadr,hc];exact .tail _ (.head _))
 have hfd:fd=fnOf p.1 p.1 (kP p.2) (fW p.2) (av p.2) .none fd.kwdefaults fd.doc fd.pyModule fd.annotations fd.code fd.closureTuple:=by
  cases fd
  unfold blank at e1
  simp only [FuncData.mk.injEq] at e1
  obtain ⟨a1,a2,a3,a4,a5,a6,a7,a8,a9⟩:=e1
  simp only [FuncData.mk.injEq]
  exact ⟨a1,a2,a3,a4,a5,a6,a7,a8,trivial,trivial,trivial,trivial,trivial,trivial,by simpa using a9⟩
 refine ⟨f,fd,B8 m0 h1,⟨oc,od,fd.kwdefaults,fd.doc,fd.pyModule,fd.annotations,fd.code,fd.closureTuple,sl,hfd,lk,hc⟩,?_⟩
 unfold keepIn
 dsimp only
 rw [lk]
theorem yX {h:Heap} {as:List Addr} (m0:mainGlobals∈as):∀ {fs:List (Str ×Stmt)},(∀ a∈fs.flatMap (fun p=>adr h p.1),a∈as)→
 fs.map (fun p=>(fnAt h p.1).map fun x=>(blank x.2,jI h x.2.code))=fs.map (fun p=>some (fnOf p.1 p.1 (kP p.2) (fW p.2) (av p.2) .none .none .none .none none .none .none,some p.1))→Dt (wI h as) fs
 | [],_,_=>trivial
 | p :: r,m,e=>by
   rw [List.map_cons,List.map_cons] at e
   obtain ⟨e1,e2⟩:=List.cons.inj e
   rw [List.flatMap_cons] at m
   exact ⟨Gv m0 (fun a ha=>m a (List.mem_append.mpr (.inl ha))) e1,yX m0 (fun a ha=>m a (List.mem_append.mpr (.inr ha))) e2⟩
theorem allB_of {h:Heap} {as:List Addr} (m0:mainGlobals∈as):∀ {bs:List Str},bs.map (fun b=>GK h b)=bs.map (fun _=>some none)→AllB (wI h as) bs
 | [],_=>trivial
 | b :: r,e=>by
   rw [List.map_cons,List.map_cons] at e
   obtain ⟨e1,e2⟩:=List.cons.inj e
   exact ⟨B8 m0 e1,allB_of m0 e2⟩
theorem Gw {fs:List (Str ×Stmt)} {bs:List Str} {s:Shared} (e:zh fs bs s=good fs bs):YP fs bs s.heap:=
 let ⟨e1,e2⟩:=Prod.mk.inj (by rw [good,IZ,Ja,Jb] at e;exact e)
 ⟨wI s.heap (LP s.heap fs),xH _ _,yX (.head _) (fun _ ha=> .tail _ ha) e1,allB_of (.head _) e2⟩
theorem B9 {l:OpenLaw} {n k:Nat} {q:Program} {loose:List Str} {XP:(Str→Option Value)→Heap→Prop} {YP:World→Heap→Prop} {d:DefRec} {CX:AF} {sp:Frag→Sp} {x:Str}
 (hn:l.most=some n) (hn2:n≤sizeLine) (hdf:d.params.defaults= []) (hr:gZ k callerA)
 (F:∀ (w:World) (mg:Str→Option Value) (fa:Addr) (h:Heap),YP w h→h.Ns mainGlobals mg→mg d.name=some (.ref fa)→
  ∃ (K:Frag) (fd:FuncData),K.In h∧(∀ (s:Shared) (u:Value),BindsTo s fd ⟨[u],[]⟩ [(x,u)])∧
    ∀ base:Heap,K.In base→base.Ns mainGlobals mg→cg l.prog w K mg base CX k fa fd [x] (sp K))
 (D3:∀ (K:Frag) (H:Hp) (a:Addr) (ns:List Int),ns.length≤n→(∀ z∈ns,Att.yy z)→CT H→jw K H a (ns.map V.int)→sp K [.ref a] H (fun v _=>v= .bl true) fun _ _ _=>False)
 (Ks:∀ (H:Hp) (s:Shared) (e:Value) (s':Shared),CX [] H s (fun _ _ _=>False) e s'→False) :
 WalkO q loose XP YP l.row.toRowW d [] (fun f vs=>PySem.call f vs):=by
 refine Att.t8 hn hdf fun w s₀ s₁ mg mb fa o pm cd doc a vs ns G Y ho hd hcd hmg hobj hints hlen hbig hg=>?_
 obtain ⟨K,fd,KX,hb,hF⟩:=F w mg fa _ Y G.T.g hmg
 exact AM (CX:=CX) (sp:=sp K) KX G.T.g G.T.b G.T.builtins G.T.nolimit hg hobj hints (Nat.le_trans hlen hn2) hr hF hb (fun H hO hS=>D3 K H a ns hlen hbig hO hS) fun H e s'=>Ks H s₁ e s'
end HD
namespace Pf
open PySem L2 L3
set_option genInjectivity false in
set_option genSizeOf false in
structure Ad where
 j8:Addr
 jc:FuncData
 ig:Addr
 gF:FuncData
 jd:Addr
 iw:FuncData
 je:Addr
 iy:FuncData
 jf:Addr
 iz:FuncData
 iA:Addr
 gG:FuncData
 l7:Addr
 j9:FuncData
 kc:Addr
 jg:FuncData
 jh:Addr
 iB:FuncData
 gH:Addr
 fH:FuncData
 ji:Addr
 iC:FuncData
 qz:Addr
 nT:FuncData
 eU:Addr
 dY:FuncData
 xJ:Addr
 uw:FuncData
 nU:Addr
 l8:FuncData
 kg:Addr
 jj:FuncData
 Gx:Addr
 Ca:FuncData
 gI:Addr
 fJ:FuncData
 jk:Addr
 iD:FuncData
 iE:Addr
 gJ:FuncData
 uz:Addr
 qA:FuncData
 xK:Addr
 uA:FuncData
 gK:Addr
 fK:FuncData
 nV:Addr
 l9:FuncData
 fL:Addr
 eV:FuncData
 iF:Addr
 gM:FuncData
 uB:Addr
 qB:FuncData
 cB:Addr
 b8:FuncData
 kh:Addr
 jl:FuncData
 jm:Addr
 iG:FuncData
 Cb:Addr
 xM:FuncData
structure Txt (K:PySem.W.Frag) (mg:Str→Option Value) (t:Ad):Prop where
 bf:jx K "_law_cell" "_law_cell" jJ t.j8 t.jc
 bB:mg "_law_cell" =some (.ref t.j8)
 ff:jx K "_law_ringed" "_law_ringed" gW t.ig t.gF
 lg:mg "_law_ringed" =some (.ref t.ig)
 jn:jx K "_law_lined" "_law_lined" iS t.jd t.iw
 uC:mg "_law_lined" =some (.ref t.jd)
 jo:jx K "_law_great" "_law_great" iT t.je t.iy
 uD:mg "_law_great" =some (.ref t.je)
 jq:jx K "_law_place" "_law_place" iU t.jf t.iz
 uE:mg "_law_place" =some (.ref t.jf)
 iH:jx K "_law_places" "_law_places" gX t.iA t.gG
 rj:mg "_law_places" =some (.ref t.iA)
 jr:jx K "_law_far" "_law_far" lH t.l7 t.j9
 qC:mg "_law_far" =some (.ref t.l7)
 dQ:jx K "_law_laid" "_law_laid" jK t.kc t.jg
 gU:mg "_law_laid" =some (.ref t.kc)
 fZ:jx K "_law_twice" "_law_twice" iV t.jh t.iB
 mX:mg "_law_twice" =some (.ref t.jh)
 gO:jx K "_law_flipped" "_law_flipped" dU t.gH t.fH
 qD:mg "_law_flipped" =some (.ref t.gH)
 jt:jx K "_law_cover" "_law_cover" iW t.ji t.iC
 uF:mg "_law_cover" =some (.ref t.ji)
 mY:jx K "rounds" "rounds" pG t.qz t.nT
 v8:mg "rounds" =some (.ref t.qz)
 eW:jx K "directed_sides" "directed_sides" cF t.eU t.dY
 nW:mg "directed_sides" =some (.ref t.eU)
 uG:jx K "sign" "sign" wJ t.xJ t.uw
 Cc:mg "sign" =some (.ref t.xJ)
 nX:jx K "side_of" "side_of" nk t.nU t.l8
 Ab:mg "side_of" =some (.ref t.nU)
 ki:jx K "has_point" "has_point" jL t.kg t.jj
 v9:mg "has_point" =some (.ref t.kg)
 DN:jx K "at" "at" Cw t.Gx t.Ca
 Jc:mg "at" =some (.ref t.Gx)
 dZ:jx K "_law_measure" "_law_measure" gq t.gI t.fJ
 kj:mg "_law_measure" =some (.ref t.gI)
 ju:jx K "_law_point" "_law_point" iX t.jk t.iD
 uH:mg "_law_point" =some (.ref t.jk)
 iI:jx K "_law_shared" "_law_shared" bO t.iE t.gJ
 rq:mg "_law_shared" =some (.ref t.iE)
 uI:jx K "twice" "twice" tP t.uz t.qA
 DO:mg "twice" =some (.ref t.uz)
 qE:jx K "turn" "turn" wK t.xK t.uA
 xN:mg "turn" =some (.ref t.xK)
 eg:jx K "without_bays" "without_bays" gu t.gK t.fK
 ko:mg "without_bays" =some (.ref t.gK)
 nY:jx K "outline" "outline" nt t.nV t.l9
 Ac:mg "outline" =some (.ref t.nV)
 fM:jx K "outline_sides" "outline_sides" fF t.fL t.eV
 oW:mg "outline_sides" =some (.ref t.fL)
 fj:jx K "triangle_of" "triangle_of" gY t.iF t.gM
 lA:mg "triangle_of" =some (.ref t.iF)
 uJ:jx K "swept" "swept" kM t.uB t.qB
 DP:mg "swept" =some (.ref t.uB)
 bG:jx K "_law_alike" "_law_alike" iY t.cB t.b8
 dh:mg "_law_alike" =some (.ref t.cB)
 kq:jx K "_law_hand" "_law_hand" jM t.kh t.jl
 wc:mg "_law_hand" =some (.ref t.kh)
 gb:jx K "_law_hands" "_law_hands" fT t.jm t.iG
 mZ:mg "_law_hands" =some (.ref t.jm)
 Eu:jx K "law" "law" rR t.Cb t.xM
 MR:mg "law" =some (.ref t.Cb)
 bR:mg "len" =none
 bY:mg "range" =none
 xP:mg "min" =none
 gp:mg "sorted" =none
 Cd:mg "abs" =none
 uK:mg "sum" =none
 di:mg "list" =none
 we:mg "reversed" =none
 Gy:mg "zip" =none
 ay:mg "isinstance" =none
 kr:mg "int" =none
 kB:mg "str" =none
 fB:mg "tuple" =none
 pF:mg "bool" =none
theorem m5:aO ["_law_script","_law_k","_law_number"] ["_law_script","_law_k"] (av jJ):=⟨rfl,rfl,rfl,by decide +kernel,rfl,by decide +kernel,by decide +kernel⟩
theorem bS:aO ["_law_cell_here","_law_far_here","_law_x","_law_y","_law_spot","_law_across","_law_up","_law_k"] ["_law_cell_here","_law_far_here","_law_x","_law_y"] (av gW):=⟨rfl,rfl,rfl,by decide +kernel,rfl,by decide +kernel,by decide +kernel⟩
theorem fk:aO ["_law_cell_here","_law_frame","_law_spanned","_law_x","_law_y"] ["_law_cell_here","_law_frame"] (av iS):=⟨rfl,rfl,rfl,by decide +kernel,rfl,by decide +kernel,by decide +kernel⟩
theorem iJ:aO ["_law_cell_here","_law_x","_law_y"] ["_law_cell_here"] (av iT):=⟨rfl,rfl,rfl,by decide +kernel,rfl,by decide +kernel,by decide +kernel⟩
theorem rz:aO ["_law_kind","_law_cell_here","_law_frame","_law_k"] ["_law_kind","_law_cell_here","_law_frame","_law_k"] (av iU):=⟨rfl,rfl,rfl,by decide +kernel,rfl,by decide +kernel,by decide +kernel⟩
theorem cI:aO ["_law_script","_law_most","_law_head","_law_frame","_law_places_here","_law_k","_law_p"] ["_law_script","_law_most"] (av gX):=⟨rfl,rfl,rfl,by decide +kernel,rfl,by decide +kernel,by decide +kernel⟩
theorem kC:aO ["_law_cover_here","_law_a","_law_b","_law_t","_law_k"] ["_law_cover_here","_law_a","_law_b"] (av lH):=⟨rfl,rfl,rfl,by decide +kernel,rfl,by decide +kernel,by decide +kernel⟩
theorem uL:aO ["_law_a","_law_b","_law_c"] ["_law_a","_law_b","_law_c"] (av jK):=⟨rfl,rfl,rfl,by decide +kernel,rfl,by decide +kernel,by decide +kernel⟩
theorem rA:aO ["_law_a","_law_b","_law_c"] ["_law_a","_law_b","_law_c"] (av iV):=⟨rfl,rfl,rfl,by decide +kernel,rfl,by decide +kernel,by decide +kernel⟩
theorem dI:aO ["_law_cover_here","_law_a","_law_b","_law_c","_law_d","_law_gone"] ["_law_cover_here","_law_a","_law_b"] (av dU):=⟨rfl,rfl,rfl,by decide +kernel,rfl,by decide +kernel,by decide +kernel⟩
theorem dH:aO ["_law_script","_law_start","_law_cover_here","_law_k","_law_number","_law_t"] ["_law_script","_law_start","_law_cover_here"] (av iW):=⟨rfl,rfl,rfl,by decide +kernel,rfl,by decide +kernel,by decide +kernel⟩
theorem Ae:aO ["t"] ["t"] (av pG):=⟨rfl,rfl,rfl,by decide +kernel,rfl,by decide +kernel,by decide +kernel⟩
theorem er:aO ["cover","ways","t"] ["cover"] (av cF):=⟨rfl,rfl,rfl,by decide +kernel,rfl,by decide +kernel,by decide +kernel⟩
theorem DQ:aO ["number"] ["number"] (av wJ):=⟨rfl,rfl,rfl,by decide +kernel,rfl,by decide +kernel,by decide +kernel⟩
theorem gP:aO ["a","b","X","x_bottom","y_bottom","right","up"] ["a","b","X"] (av nk):=⟨rfl,rfl,rfl,by decide +kernel,rfl,by decide +kernel,by decide +kernel⟩
theorem m6:aO ["t","X","way"] ["t","X"] (av jL):=⟨rfl,rfl,rfl,by decide +kernel,rfl,by decide +kernel,by decide +kernel⟩
theorem Jd:aO ["cover","X"] ["cover","X"] (av Cw):=⟨rfl,rfl,rfl,by decide +kernel,rfl,by decide +kernel,by decide +kernel⟩
theorem fO:aO ["_law_top","_law_bottom","_law_left"] ["_law_top","_law_bottom"] (av gq):=⟨rfl,rfl,rfl,by decide +kernel,rfl,by decide +kernel,by decide +kernel⟩
theorem iK:aO ["_law_x","_law_y","_law_w","_law_one","_law_other"] ["_law_x","_law_y","_law_w"] (av iX):=⟨rfl,rfl,rfl,by decide +kernel,rfl,by decide +kernel,by decide +kernel⟩
theorem bH:aO ["_law_script","_law_places_here","_law_some","_law_shares","_law_x","_law_y"] ["_law_script","_law_places_here"] (av bO):=⟨rfl,rfl,rfl,by decide +kernel,rfl,by decide +kernel,by decide +kernel⟩
theorem Ce:aO ["a","b","c"] ["a","b","c"] (av tP):=⟨rfl,rfl,rfl,by decide +kernel,rfl,by decide +kernel,by decide +kernel⟩
theorem DR:aO ["a","b","c"] ["a","b","c"] (av wK):=⟨rfl,rfl,rfl,by decide +kernel,rfl,by decide +kernel,by decide +kernel⟩
theorem fR:aO ["line","chain","p"] ["line"] (av gu):=⟨rfl,rfl,rfl,by decide +kernel,rfl,by decide +kernel,by decide +kernel⟩
theorem jv:aO ["places","line","there","home"] ["places"] (av nt):=⟨rfl,rfl,rfl,by decide +kernel,rfl,by decide +kernel,by decide +kernel⟩
theorem iQ:aO ["places","border"] ["places"] (av fF):=⟨rfl,rfl,rfl,by decide +kernel,rfl,by decide +kernel,by decide +kernel⟩
theorem kE:aO ["a","b","c","three"] ["a","b","c"] (av gY):=⟨rfl,rfl,rfl,by decide +kernel,rfl,by decide +kernel,by decide +kernel⟩
theorem iR:aO ["places","line","cover","k","p","seen"] ["places"] (av kM):=⟨rfl,rfl,rfl,by decide +kernel,rfl,by decide +kernel,by decide +kernel⟩
theorem b9:aO ["_law_found","_law_due","_law_k"] ["_law_found","_law_due"] (av iY):=⟨rfl,rfl,rfl,by decide +kernel,rfl,by decide +kernel,by decide +kernel⟩
theorem m7:aO ["_law_a","_law_b","_law_kx","_law_across"] ["_law_a","_law_b","_law_kx"] (av jM):=⟨rfl,rfl,rfl,by decide +kernel,rfl,by decide +kernel,by decide +kernel⟩
theorem rB:aO ["_law_t","_law_kx"] ["_law_t","_law_kx"] (av fT):=⟨rfl,rfl,rfl,by decide +kernel,rfl,by decide +kernel,by decide +kernel⟩
theorem kF:aO ["_law_script","_law_places_here","_law_cover_here","_law_kx","_law_handed","_law_found","_law_due"] ["_law_script"] (av rR):=⟨rfl,rfl,rfl,by decide +kernel,rfl,by decide +kernel,by decide +kernel⟩
section
variable {P:Program} {w:World} {K:PySem.W.Frag} {mg:Str→Option Value} {base:Heap} {t:Ad}
theorem bq (T:Txt K mg t):Binds K t.jc ["_law_script","_law_k"] []:=T.bf.binds fun _ _ _ _ _ _ us hl=>match us,hl with | [_,_],_=>rfl
def qF (ns:List Int) (k:Int):Int:=
 if k < (ns.length:Int) then ns.getD k.toNat 0
 else if ns= [] then k*k*48271 % 2147483647
 else (ns.getD (k % (ns.length:Int)).toNat 0 % 2147483629+k*k*69623)*48271 % 2147483647*((ns.getD (k % (ns.length:Int)).toNat 0 % 2147483629+k*k*69623)*48271 % 2147483647) % 2147483629
theorem Cf {ns:List Int} {k:Int} (h0:0≤k) (h:k < (ns.length:Int)):mq (ns.map L3.D.int) k=some (.int (ns.getD k.toNat 0))∧ns.getD k.toNat 0∈ns:=by
 obtain ⟨j,rfl⟩:∃ j:Nat,k=(j:Int):=⟨k.toNat,by omega⟩
 have hj:j < ns.length:=by omega
 have e:ns.getD (j:Int).toNat 0=ns[j]:=by rw [Int.toNat_natCast,List.getD_eq_getElem?_getD,List.getElem?_eq_getElem hj];rfl
 rw [e]
 exact ⟨bI (by rw [List.getElem?_map,List.getElem?_eq_getElem hj];rfl),List.getElem_mem hj⟩
def wg:sA:=fun ds Q=> ∃ (ns:List Int) (k:Int),ds= [.tV (ns.map L3.D.int),.int k]∧(∀ z∈ns,Att.yy z)∧ns.length≤63∧0≤k∧k≤1000∧∀ z:Int,Att.yy z→z=qF ns k→Q (.int z)
theorem br (T:Txt K mg t):cg P w K mg base fE 1 t.j8 t.jc ["_law_script","_law_k"] (qW K wg):=by
 refine wG T.bf m5 (fun ds Q h=>by (first | (obtain ⟨_,rfl,_⟩:=h;rfl) | (obtain ⟨_,_,rfl,_⟩:=h;rfl) | (obtain ⟨_,_,_,rfl,_⟩:=h;rfl) | (obtain ⟨_,_,_,_,rfl,_⟩:=h;rfl) | (obtain ⟨_,_,_,_,_,rfl,_⟩:=h;rfl) | (obtain ⟨_,_,_,_,_,_,rfl,_⟩:=h;rfl) | (obtain ⟨_,_,_,_,_,_,_,rfl,_⟩:=h;rfl))) (fun cdv A outer s H hr=>?_)
 have hu:=hr.units
 refine ⟨_,(au (bX (aI (oj hu) (af 1) (aF cJ (by rfl) T.bR aN (aa (af 0) aj)) (aA _)) (aB (aD (aE (af 0) (af 1)))) aU)
  (au (bX (aI (Bk hu) (af 0) (cW aj) (aA _)) (aB (aD (ak aT (ak ia (ak ia (af 1) (af 1)) ah) ah))) aU)
  (au (aS (i:=2) m5.nd rfl (Or.inl rfl) (ak aT (ak ia (ak dF (ak aT (aE (af 0) (ak aT (af 1) (aF cJ (by rfl) T.bR aN (aa (af 0) aj)))) ah) (ak ia (ak ia (af 1) (af 1)) ah)) ah) ah))
  (aB (aD (ak aT (ak ia (af 2) (af 2)) ah)))))),fun ds Q h=>?_⟩
 obtain ⟨ns,k,rfl,hb,hlen,hk,hk2,h⟩:=h
 have sk:Sm 11 k:=by
  show k.natAbs < 2 ^ 11
  omega
 unfold qF at h
 walk_at "rd"
 refine ⟨_,_,rfl,.inr (.inl rfl),?_⟩
 walk_at "rd"
 refine bD (fun c=>?_) (fun c=>?_)
 ·have c:k < ((ns.map L3.D.int).length:Int):=of_decide_eq_true c
  rw [List.length_map] at c
  obtain ⟨hz,mz⟩:=Cf hk c
  walk_at "rd"
  exact ⟨_,k,.int _,.inr (.inl rfl),rfl,hz,h _ (hb _ mz) (by rw [if_pos c])⟩
 ·have c0:¬ k < (ns.length:Int):=fun z=>c (decide_eq_true (by rw [List.length_map];exact z))
  walk_at "rd"
  intro p hp
  refine ⟨_,_,.inl rfl,.of ai,w9 ns,rfl,?_⟩
  walk_at "rd"
  refine bD (fun c=>?_) (fun c=>?_)
  ·have e0:ns= []:=by
    rw [mQ] at c
    cases ns with
    | nil=>rfl
    | cons a r=>cases c
   walk_at "rd"
   exact h _ (BE (n:=31) (by walk_at "smle") (by decide)) (by rw [if_neg c0,if_pos e0])
  ·have hne:ns≠[]:=fun z=>c (by rw [z];rfl)
   have hpos:0 < ns.length:=List.length_pos_iff.mpr hne
   walk_at "rd"
   refine ⟨_,_,rfl,.inr (.inl rfl),?_⟩
   walk_at "rd"
   refine ⟨by rw [List.length_map];omega,?_⟩
   rw [List.length_map]
   obtain ⟨hz,_⟩:=Cf (ns:=ns) (k:=k % (ns.length:Int)) (Int.emod_nonneg _ (by omega)) (Int.emod_lt_of_pos _ (by omega))
   rw [if_neg c0,if_neg hne] at h
   generalize ns.getD (k % (ns.length:Int)).toNat 0=z at hz h
   refine ⟨_,_,.int z,.inr (.inl rfl),rfl,hz,?_⟩
   walk_at "rd"
   exact h _ (BE (n:=31) (by walk_at "smle") (by decide)) rfl
theorem kG (T:Txt K mg t):Binds K t.gF ["_law_cell_here","_law_far_here","_law_x","_law_y"] []:=T.ff.binds fun _ _ _ _ _ _ us hl=>match us,hl with | [_,_,_,_],_=>rfl
def rC:sA:=fun ds Q=> ∃ c f x y:Int,ds= [.int c,.int f,.int x,.int y]∧Sm 40 f∧Sm 70 x∧Sm 70 y∧∀ p:Pl,p.Ok 136→Q p.d
theorem kH (T:Txt K mg t):cg P w K mg base fE 1 t.ig t.gF ["_law_cell_here","_law_far_here","_law_x","_law_y"] (qW K rC):=by
 refine wG T.ff bS (fun ds Q h=>by (first | (obtain ⟨_,rfl,_⟩:=h;rfl) | (obtain ⟨_,_,rfl,_⟩:=h;rfl) | (obtain ⟨_,_,_,rfl,_⟩:=h;rfl) | (obtain ⟨_,_,_,_,rfl,_⟩:=h;rfl) | (obtain ⟨_,_,_,_,_,rfl,_⟩:=h;rfl) | (obtain ⟨_,_,_,_,_,_,rfl,_⟩:=h;rfl) | (obtain ⟨_,_,_,_,_,_,_,rfl,_⟩:=h;rfl))) (fun cdv A outer s H hr=>?_)
 have hu:=hr.units
 refine ⟨_,(au (aS (i:=4) bS.nd rfl (Or.inl rfl) (ak aT (af 0) ah))
  (au (aS (i:=5) bS.nd rfl (Or.inl rfl) (aE (cW (aa ah (aa ah (aa ah aj)))) (ak aT (af 4) ah)))
  (au (aS (i:=6) bS.nd rfl (Or.inl rfl) (aE (cW (aa ah (aa ah (aa ah aj)))) (ak aT (af 4) ah)))
  (au (iZ PassesOwn.never rfl (by rfl) T.bY (aa (ak cG (af 4) ah) aj) (dJ (i:=7) bS.nd rfl (Or.inl rfl)) (aB (Ie (i:=5) (j:=6) rfl bS.nd rfl rfl (by decide) rfl rfl (aa (iM (af 6)) (aa (af 5) aj)))))
  (au (bX (aI (cV hu) (af 4) ah (aA _)) (au (aS (i:=5) bS.nd rfl (Or.inl rfl) ah)
  (aB (aS (i:=6) bS.nd rfl (Or.inl rfl) ah))) aU)
  (aB (aD (cE (aa (ak dF (af 2) (ak cR (af 1) (af 5))) (aa (ak dF (af 3) (ak cR (af 1) (af 6))) aj)))))))))),fun ds Q h=>?_⟩
 obtain ⟨c,f,x,y,rfl,sf,sx,sy,h⟩:=h
 walk_at "rd"
 intro p hp
 walk_at "rd"
 obtain ⟨z1,m1,e1⟩:=lS (ns:=[5,4,3]) (k:=c % 13 % 3) (Int.emod_nonneg _ (by decide)) (Int.emod_lt_of_pos _ (by decide))
 have s1:Sm 3 z1:=lV (ns:=[5,4,3]) (by decide) m1
 refine ⟨_,_,_,.inr (.inr ⟨p,rfl,ai⟩),rfl,e1,?_⟩
 walk_at "rd"
 intro q hq
 walk_at "rd"
 obtain ⟨z2,m2,e2⟩:=lS (ns:=[0,3,4]) (k:=c % 13 % 3) (Int.emod_nonneg _ (by decide)) (Int.emod_lt_of_pos _ (by decide))
 have s2:Sm 3 z2:=lV (ns:=[0,3,4]) (by decide) m2
 refine ⟨_,_,_,.inr (.inr ⟨q,rfl,ai⟩),rfl,e2,?_⟩
 walk_at "rd"
 have Qp:c % 13 < 13:=Int.emod_lt_of_pos _ (by decide)
 have ON:0≤c % 13:=Int.emod_nonneg _ (by decide)
 refine ⟨by dsimp only;omega,by dsimp only;omega,?_⟩
 refine bu (fun i ρ M'=> ∃ (u v:Int) (y1:Option L3.D),ρ= [some (.int c),some (.int f),some (.int x),some (.int y),some (.int (c % 13)),some (.int u),some (.int v),y1]∧Sm 3 u∧Sm 3 v) _ ?_ ?_ ⟨_,_,_,rfl,s1,s2⟩
 ·rintro i d ρ M' N hx ⟨u,v,y1,rfl,su,sv⟩ hN
  obtain ⟨hi,rfl⟩:=bg hx
  refine ⟨trivial,?_⟩
  walk_at "rd"
  exact hN _ _ ⟨_,_,_,rfl,sv.neg,su⟩
 ·rintro ρ M' ⟨u,v,y1,rfl,su,sv⟩
  refine ⟨trivial,?_⟩
  walk_at "rd"
  refine bD (fun _=>?_) (fun _=>?_)
  ·walk_at "rd"
   exact h ⟨_,_⟩ ⟨by walk_at "smle",by walk_at "smle"⟩
  ·walk_at "rd"
   exact h ⟨_,_⟩ ⟨by walk_at "smle",by walk_at "smle"⟩
theorem rD (T:Txt K mg t):Binds K t.iw ["_law_cell_here","_law_frame"] []:=T.jn.binds fun _ _ _ _ _ _ us hl=>match us,hl with | [_,_],_=>rfl
def uM:sA:=fun ds Q=> ∃ c f:Int,ds= [.int c,.int f]∧∀ p:Pl,p.Ok 136→Q p.d
theorem rE (T:Txt K mg t):cg P w K mg base fE 1 t.jd t.iw ["_law_cell_here","_law_frame"] (qW K uM):=by
 refine wG T.jn fk (fun ds Q h=>by (first | (obtain ⟨_,rfl,_⟩:=h;rfl) | (obtain ⟨_,_,rfl,_⟩:=h;rfl) | (obtain ⟨_,_,_,rfl,_⟩:=h;rfl) | (obtain ⟨_,_,_,_,rfl,_⟩:=h;rfl) | (obtain ⟨_,_,_,_,_,rfl,_⟩:=h;rfl) | (obtain ⟨_,_,_,_,_,_,rfl,_⟩:=h;rfl) | (obtain ⟨_,_,_,_,_,_,_,rfl,_⟩:=h;rfl))) (fun cdv A outer s H hr=>?_)
 have hu:=hr.units
 refine ⟨_,(au (aS (i:=2) fk.nd rfl (Or.inl rfl) (ak cR (ak bT (ak aT (ak cG (af 0) ah) ah) ah) (aE (cW (aa ah (aa (ak gA ah ah) aj))) (ak aT (ak cG (af 1) ah) ah))))
  (au (aS (i:=3) fk.nd rfl (Or.inl rfl) (ak dF (ak cR (af 2) (aE (cW (aa ah (aa ah (aa ah (aa ah aj))))) (ak aT (af 1) ah))) (ak aT (ak cG (af 1) ah) ah)))
  (au (aS (i:=4) fk.nd rfl (Or.inl rfl) (ak bT (ak cR (af 2) (aE (cW (aa ah (aa ah (aa ah (aa (iM ah) aj))))) (ak aT (af 1) ah))) ah))
  (au (bX (ni.pt (sj (aI (cV hu) (ak aT (ak cG (af 1) ah) ah) ah (aA _)) (nE (aI (cV hu) (ak aT (af 0) ah) ah (aA _))))) (aB (aD (cE (aa (ak dF (af 3) (ak aT (ak cG (af 0) ah) ah)) (aa (ak dF (ak dF (af 4) ah) (ak aT (ak cG (af 0) ah) ah)) aj))))) aU)
  (aB (aD (cE (aa (af 3) (aa (af 4) aj))))))))),fun ds Q h=>?_⟩
 obtain ⟨c,f,rfl,h⟩:=h
 walk_at "rd"
 intro p hp
 walk_at "rd"
 obtain ⟨z0,m0,e0⟩:=lS (ns:=[1,10 ^ 30]) (k:=f / 4 % 2) (Int.emod_nonneg _ (by decide)) (Int.emod_lt_of_pos _ (by decide))
 have s0:Sm 100 z0:=lV (ns:=[1,10 ^ 30]) (by decide) m0
 refine ⟨_,_,_,.inr (.inr ⟨p,rfl,ai⟩),rfl,e0,?_⟩
 walk_at "rd"
 intro q hq
 walk_at "rd"
 obtain ⟨z1,m1,e1⟩:=lS (ns:=[1,0,1,3]) (k:=f % 4) (Int.emod_nonneg _ (by decide)) (Int.emod_lt_of_pos _ (by decide))
 have s1:Sm 3 z1:=lV (ns:=[1,0,1,3]) (by decide) m1
 refine ⟨_,_,_,.inr (.inr ⟨q,rfl,ai⟩),rfl,e1,?_⟩
 walk_at "rd"
 intro r hr
 walk_at "rd"
 obtain ⟨z2,m2,e2⟩:=lS (ns:=[0,1,2, -2]) (k:=f % 4) (Int.emod_nonneg _ (by decide)) (Int.emod_lt_of_pos _ (by decide))
 have s2:Sm 3 z2:=lV (ns:=[0,1,2, -2]) (by decide) m2
 refine ⟨_,_,_,.inr (.inr ⟨r,rfl,ai⟩),rfl,e2,?_⟩
 walk_at "rd"
 have fin:∀ x y,Sm 136 x→Sm 136 y→Q (.tup [.int x,.int y]):=fun x y a b=>h ⟨x,y⟩ ⟨a,b⟩
 refine bD (fun _=>?_) (fun _=>?_)
 ·walk_at "rd"
  refine bD (fun _=>?_) (fun _=>?_)
  ·walk_at "rd"
   exact fin _ _ (by walk_at "smle") (by walk_at "smle")
  ·walk_at "rd"
   exact fin _ _ (by walk_at "smle") (by walk_at "smle")
 ·walk_at "rd"
  exact fin _ _ (by walk_at "smle") (by walk_at "smle")
theorem rF (T:Txt K mg t):Binds K t.iy ["_law_cell_here"] []:=T.jo.binds fun _ _ _ _ _ _ us hl=>match us,hl with | [_],_=>rfl
def uN:sA:=fun ds Q=> ∃ c:Int,ds= [.int c]∧Att.yy c∧∀ p:Pl,p.Ok 136→Q p.d
theorem rG (T:Txt K mg t):cg P w K mg base fE 1 t.je t.iy ["_law_cell_here"] (qW K uN):=by
 refine wG T.jo iJ (fun ds Q h=>by (first | (obtain ⟨_,rfl,_⟩:=h;rfl) | (obtain ⟨_,_,rfl,_⟩:=h;rfl) | (obtain ⟨_,_,_,rfl,_⟩:=h;rfl) | (obtain ⟨_,_,_,_,rfl,_⟩:=h;rfl) | (obtain ⟨_,_,_,_,_,rfl,_⟩:=h;rfl) | (obtain ⟨_,_,_,_,_,_,rfl,_⟩:=h;rfl) | (obtain ⟨_,_,_,_,_,_,_,rfl,_⟩:=h;rfl))) (fun cdv A outer s H hr=>?_)
 have hu:=hr.units
 refine ⟨_,(au (aS (i:=1) iJ.nd rfl (Or.inl rfl) (ak aT (ak ia (af 0) ah) (ak gA ah ah)))
  (au (aS (i:=2) iJ.nd rfl (Or.inl rfl) (ak aT (ak ia (af 0) ah) (ak dF (ak gA ah ah) ah)))
  (aB (aD (cE (aa (ak bT (af 1) (ak ia ah (ak gA ah ah))) (aa (ak bT (af 2) (ak ia ah (ak gA ah ah))) aj))))))),fun ds Q h=>?_⟩
 obtain ⟨c,rfl,bc,h⟩:=h
 walk_at "rd"
 refine ⟨Or.inr (Or.inr ⟨bc,200,by decide +kernel,by decide⟩),?_⟩
 walk_at "rd"
 refine ⟨Or.inr (Or.inr ⟨bc,200,by decide +kernel,by decide⟩),?_⟩
 walk_at "rd"
 exact h ⟨_,_⟩ ⟨by walk_at "smle",by walk_at "smle"⟩
theorem rH (T:Txt K mg t):Binds K t.iz ["_law_kind","_law_cell_here","_law_frame","_law_k"] []:=T.jq.binds fun _ _ _ _ _ _ us hl=>match us,hl with | [_,_,_,_],_=>rfl
def uO:sA:=fun ds Q=> ∃ k c f i:Int,ds= [.int k,.int c,.int f,.int i]∧Att.yy c∧∀ p:Pl,p.Ok 136→Q p.d
theorem rJ (T:Txt K mg t):cg P w K mg base fE 2 t.jf t.iz ["_law_kind","_law_cell_here","_law_frame","_law_k"] (qW K uO):=by
 refine wG T.jq rz (fun ds Q h=>by (first | (obtain ⟨_,rfl,_⟩:=h;rfl) | (obtain ⟨_,_,rfl,_⟩:=h;rfl) | (obtain ⟨_,_,_,rfl,_⟩:=h;rfl) | (obtain ⟨_,_,_,_,rfl,_⟩:=h;rfl) | (obtain ⟨_,_,_,_,_,rfl,_⟩:=h;rfl) | (obtain ⟨_,_,_,_,_,_,rfl,_⟩:=h;rfl) | (obtain ⟨_,_,_,_,_,_,_,rfl,_⟩:=h;rfl))) (fun cdv A outer s H hr=>?_)
 have hu:=hr.units
 refine ⟨_,(au (bX (aI (cV hu) (af 0) ah (aA _)) (aB (aD (cE (aa (ak dF (ak gA ah ah) (ak aT (af 1) ah)) (aa (ak bT (ak aT (ak cG (af 1) ah) ah) (ak cR ah (ak gA ah ah))) aj))))) aU)
  (au (bX (aI (cV hu) (af 0) ah (aA _)) (aB (aD (aL (kH T) (hr.mono (by decide)) (by rfl) T.lg T.ff.kp (kG T) (aa (af 1) (aa (ak dF ah (ak aT (af 2) (ak gA ah ah))) (aa (ak bT (ak aT (ak cG (af 2) ah) ah) ah) (aa (iM (ak aT (ak cG (af 2) ah) (ak gA ah ah))) aj))))))) aU)
  (au (bX (aI (cV hu) (af 0) ah (aA _)) (aB (aD (aL (rE T) (hr.mono (by decide)) (by rfl) T.uC T.jn.kp (rD T) (aa (af 1) (aa (af 2) aj))))) aU)
  (au (bX (aI (cV hu) (af 0) ah (aA _)) (aB (aD (aL (rG T) (hr.mono (by decide)) (by rfl) T.uD T.jo.kp (rF T) (aa (af 1) aj)))) aU)
  (au (bX (aI (cV hu) (af 0) ah (aA _)) (aB (aD (cE (aa (ak bT (ak aT (af 1) ah) ah) (aa (ak bT (ak aT (ak cG (af 1) ah) ah) ah) aj))))) aU)
  (au (bX (ni.pt (sj (aI (cV hu) (af 0) ah (aA _)) (nE (aI (cV hu) (ak aT (af 3) ah) ah (aA _))))) (aB (aD (aL (kH T) (hr.mono (by decide)) (by rfl) T.lg T.ff.kp (kG T) (aa (af 1) (aa ah (aa ah (aa (iM ah) aj))))))) aU)
  (au (bX (aI (cV hu) (af 0) ah (aA _)) (aB (aD (cE (aa (ak bT (ak aT (af 1) ah) ah) (aa (ak bT (ak aT (ak cG (af 1) ah) ah) ah) aj))))) aU)
  (au (bX (aI (cV hu) (af 0) ah (aA _)) (aB (aD (cE (aa (ak dF (ak aT (af 1) ah) (aE (cW (aa ah (aa (ak gA ah ah) aj))) (ak aT (ak cG (af 1) ah) ah))) (aa (ak aT (ak cG (af 1) ah) ah) aj))))) aU)
  (aB (aD (cE (aa (ak aT (af 1) ah) (aa (ak aT (ak cG (af 1) ah) ah) aj))))))))))))),fun ds Q h=>?_⟩
 obtain ⟨k,c,f,i,rfl,bc,h⟩:=h
 have fin:∀ x y,Sm 136 x→Sm 136 y→Q (.tup [.int x,.int y]):=fun x y a b=>h ⟨x,y⟩ ⟨a,b⟩
 walk_at "rd"
 refine bD (fun _=>?_) (fun _=>?_)
 ·walk_at "rd"
  exact fin _ _ (by walk_at "smle") (by walk_at "smle")
 walk_at "rd"
 refine bD (fun _=>?_) (fun _=>?_)
 ·walk_at "rd"
  have n1:Sm 40 (1+f % 10 ^ 9):=by walk_at "smle"
  have n2:Sm 70 (f / 7 % 2001 - 1000):=by walk_at "smle"
  have n3:Sm 70 (-(f / 11 % 10 ^ 20)):=by walk_at "smle"
  exact ⟨n1,n2,n3,fun p hp=>h p hp⟩
 walk_at "rd"
 refine bD (fun _=>?_) (fun _=>?_)
 ·walk_at "rd"
  exact fun p hp=>h p hp
 walk_at "rd"
 refine bD (fun _=>?_) (fun _=>?_)
 ·walk_at "rd"
  exact ⟨bc,fun p hp=>h p hp⟩
 walk_at "rd"
 refine bD (fun _=>?_) (fun _=>?_)
 ·walk_at "rd"
  exact fin _ _ (by walk_at "smle") (by walk_at "smle")
 walk_at "rd"
 refine bD (fun _=>?_) (fun _=>?_)
 ·walk_at "rd"
  refine bD (fun _=>?_) (fun _=>?_)
  ·walk_at "rd"
   exact fun p hp=>h p hp
  walk_at "rd"
  refine bD (fun _=>?_) (fun _=>?_)
  ·walk_at "rd"
   exact fin _ _ (by walk_at "smle") (by walk_at "smle")
  walk_at "rd"
  refine bD (fun _=>?_) (fun _=>?_)
  ·walk_at "rd"
   intro p hp
   walk_at "rd"
   obtain ⟨z1,m1,e1⟩:=lS (ns:=[0,10 ^ 38]) (k:=c / 9 % 2) (Int.emod_nonneg _ (by decide)) (Int.emod_lt_of_pos _ (by decide))
   have s1:Sm 128 z1:=lV (ns:=[0,10 ^ 38]) (by decide) m1
   refine ⟨_,_,_,.inr (.inr ⟨p,rfl,ai⟩),rfl,e1,?_⟩
   walk_at "rd"
   exact fin _ _ (by walk_at "smle") (by walk_at "smle")
  walk_at "rd"
  exact fin _ _ (by walk_at "smle") (by walk_at "smle")
 ·walk_at "rd"
  refine bD (fun _=>?_) (fun _=>?_)
  ·walk_at "rd"
   exact fin _ _ (by walk_at "smle") (by walk_at "smle")
  walk_at "rd"
  refine bD (fun _=>?_) (fun _=>?_)
  ·walk_at "rd"
   intro p hp
   walk_at "rd"
   obtain ⟨z1,m1,e1⟩:=lS (ns:=[0,10 ^ 38]) (k:=c / 9 % 2) (Int.emod_nonneg _ (by decide)) (Int.emod_lt_of_pos _ (by decide))
   have s1:Sm 128 z1:=lV (ns:=[0,10 ^ 38]) (by decide) m1
   refine ⟨_,_,_,.inr (.inr ⟨p,rfl,ai⟩),rfl,e1,?_⟩
   walk_at "rd"
   exact fin _ _ (by walk_at "smle") (by walk_at "smle")
  walk_at "rd"
  exact fin _ _ (by walk_at "smle") (by walk_at "smle")
theorem qG (T:Txt K mg t):Binds K t.gG ["_law_script","_law_most"] []:=T.iH.binds fun _ _ _ _ _ _ us hl=>match us,hl with | [_,_],_=>rfl
def rK:pB:=fun ds M Q=> ∃ (ns:List Int) (m:Int),ds= [.tV (ns.map L3.D.int),.int m]∧(∀ z∈ns,Att.yy z)∧ns.length≤63∧0≤m∧m≤40∧∀ (p:Addr) (ps:List Pl),M p=none→ps.Nodup→(∀ q∈ps,q.Ok 136)→(ps.length:Int)≤m→Q (.ref p) (aC M p (.lst (ps.map Pl.d)))
theorem qH (T:Txt K mg t):cg P w K mg base fE 3 t.iA t.gG ["_law_script","_law_most"] (pP K rK):=by
 refine u9 T.iH cI (fun ds M Q h=>by (first | (obtain ⟨_,rfl,_⟩:=h;rfl) | (obtain ⟨_,_,rfl,_⟩:=h;rfl) | (obtain ⟨_,_,_,rfl,_⟩:=h;rfl) | (obtain ⟨_,_,_,_,rfl,_⟩:=h;rfl) | (obtain ⟨_,_,_,_,_,rfl,_⟩:=h;rfl) | (obtain ⟨_,_,_,_,_,_,rfl,_⟩:=h;rfl) | (obtain ⟨_,_,_,_,_,_,_,rfl,_⟩:=h;rfl))) (fun cdv A outer s H hr=>?_)
 have hu:=hr.units
 refine ⟨_,(au (aS (i:=2) cI.nd rfl (Or.inl rfl) (aL (br T) (hr.mono (by decide)) (by rfl) T.bB T.bf.kp (bq T) (aa (af 0) (aa ah aj))))
  (au (aS (i:=3) cI.nd rfl (Or.inl rfl) (aL (br T) (hr.mono (by decide)) (by rfl) T.bB T.bf.kp (bq T) (aa (af 0) (aa ah aj))))
  (au (aS (i:=4) cI.nd rfl (Or.inl rfl) (cW aj))
  (au (iZ PassesOwn.never rfl (by rfl) T.bY (aa (aF (FA rfl) (by rfl) T.xP nI (aa (af 1) (aa (ak aT (ak cG (af 2) ah) (ak dF (af 1) ah)) aj))) aj) (dJ (i:=5) cI.nd rfl (Or.inl rfl)) (au (aS (i:=6) cI.nd rfl (Or.inl rfl) (aL (rJ T) (hr.mono (by decide)) (by rfl) T.uE T.jq.kp (rH T) (aa (ak aT (af 2) ah) (aa (aL (br T) (hr.mono (by decide)) (by rfl) T.bB T.bf.kp (bq T) (aa (af 0) (aa (ak dF (af 5) ah) aj))) (aa (af 3) (aa (af 5) aj))))))
  (aB (bX (aI (yq hu) (af 6) (af 4) (by with_unfolding_all rfl)) (aB (nH (A3 (af 4) (af 6) (vq PySem.F.plainAttrs_list PySem.F.slot_list_append PySem.F.type_list_append kO (cN.dn (af 4)) (kN (cN.dn (af 6)) nu))))) aU))))
  (aB (aD (af 4))))))),fun ds M Q h=>?_⟩
 obtain ⟨ns,m,rfl,hb,hlen,hm0,hm1,h⟩:=h
 walk_at "rd"
 refine ⟨hb,hlen,by decide,by decide,fun hd _ _=>?_⟩
 walk_at "rd"
 refine ⟨hb,hlen,by decide,by decide,fun fr _ _=>?_⟩
 walk_at "rd"
 intro p hp
 walk_at "rd"
 have e0:0≤hd / 8 % (m+3):=Int.emod_nonneg _ (by omega)
 refine ⟨by dsimp only;omega,by dsimp only;omega,?_⟩
 refine bu (fun i ρ M'=> ∃ (ps:List Pl) (y1 y2:Option L3.D),ρ= [some (.tV (ns.map L3.D.int)),some (.int m),some (.int hd),some (.int fr),some (.ref p),y1,y2]∧ps.length≤i∧ps.Nodup∧(∀ q∈ps,q.Ok 136)∧M'=aC M p (.lst (ps.map Pl.d))) _ ?_ ?_ ⟨[],_,_,rfl,Nat.le_refl _,List.nodup_nil,(fun q hq=>by cases hq),rfl⟩
 ·rintro i x ρ M' N hx ⟨ps,y1,y2,rfl,hl,nd,ho,rfl⟩ hN
  obtain ⟨hi,rfl⟩:=bg hx
  have hi:i < 41:=by dsimp only at hi;omega
  refine ⟨trivial,?_⟩
  walk_at "rd"
  refine ⟨hb,hlen,by dsimp only;omega,by dsimp only;omega,fun z1 bz _=>?_⟩
  walk_at "rd"
  refine ⟨bz,fun q hq=>?_⟩
  walk_at "rd"
  refine ⟨_,.inr ⟨p,rfl,ai⟩,rfl,sJ ps,?_⟩
  walk_at "rd"
  rw [if_pos rfl,Df]
  refine bD (fun k=>?_) (fun k=>?_)
  ·have k:q∉ps:=fun z=>by rw [decide_eq_true z] at k;cases k
   walk_at "rd"
   refine ⟨⟨p,_,rfl,ai⟩,?_⟩
   walk_at "rd"
   refine ⟨p,_,rfl,ai,?_,?_⟩
   ·rw [List.length_map]
    have:(1000:Nat) < sizeLine:=by decide
    omega
   ·rw [mD]
    refine hN _ _ ⟨ps ++ [q],_,_,rfl,by simp;omega,?_,?_,by simp⟩
    ·rw [List.nodup_append]
     exact ⟨nd,by simp,fun a ha b hb e=>by rw [List.mem_singleton.mp hb] at e;subst e;exact k ha⟩
    ·intro z hz
     rcases List.mem_append.mp hz with hz | hz
     ·exact ho z hz
     ·rw [List.mem_singleton.mp hz];exact hq
  ·exact hN _ _ ⟨ps,_,_,rfl,by omega,nd,ho,rfl⟩
 ·rintro ρ M' ⟨ps,y1,y2,rfl,hl,nd,ho,rfl⟩
  refine ⟨trivial,?_⟩
  walk_at "rd"
  refine aQ.mk ⟨_,Le.refl _,h p ps hp nd ho ?_⟩
  simp at hl
  omega
theorem oH (T:Txt K mg t):Binds K t.j9 ["_law_cover_here","_law_a","_law_b"] []:=T.jr.binds fun _ _ _ _ _ _ us hl=>match us,hl with | [_,_,_],_=>rfl
def Je (ts:List (List Pl)) (a b:Pl):Option Pl→Prop
 | none=>True
 | some c=> ∃ t∈ts,t= [c,a,b]∨t= [b,c,a]∨t= [a,b,c]
def xQ:pB:=fun ds M Q=> ∃ (l:Addr) (a b:Pl),ds= [.ref l,a.d,b.d]∧∃ ts:List (List Pl),M l=some (.lst (ts.map tD))∧(∀ t∈ts,Tr t)∧∀ r:Option Pl,Je ts a b r→Q (oP r) M
theorem oJ (T:Txt K mg t):cg P w K mg base fE 1 t.l7 t.j9 ["_law_cover_here","_law_a","_law_b"] (pP K xQ):=by
 refine u9 T.jr kC (fun ds M Q h=>by (first | (obtain ⟨_,rfl,_⟩:=h;rfl) | (obtain ⟨_,_,rfl,_⟩:=h;rfl) | (obtain ⟨_,_,_,rfl,_⟩:=h;rfl) | (obtain ⟨_,_,_,_,rfl,_⟩:=h;rfl) | (obtain ⟨_,_,_,_,_,rfl,_⟩:=h;rfl) | (obtain ⟨_,_,_,_,_,_,rfl,_⟩:=h;rfl) | (obtain ⟨_,_,_,_,_,_,_,rfl,_⟩:=h;rfl))) (fun cdv A outer s H hr=>?_)
 have hu:=hr.units
 refine ⟨_,(au (tY PassesOwn.never rfl (af 0) (dJ (i:=3) kC.nd rfl (Or.inl rfl)) (aB (iZ PassesOwn.never rfl (by rfl) T.bY (aa ah aj) (dJ (i:=4) kC.nd rfl (Or.inl rfl)) (aB (bX (ni.pt (sj (aI (cV hu) (aE (af 3) (ak bT (af 4) ah)) (af 1) (aA _)) (nE (aI (cV hu) (aE (af 3) (ak bT (af 4) ah)) (af 2) (aA _))))) (aB (aD (aE (af 3) (af 4)))) aU)))))
  (aB (aD gv))),fun ds M Q h=>?_⟩
 obtain ⟨l,a,b,rfl,ts,hM,hts,h⟩:=h
 walk_at "rd"
 refine ⟨l,_,rfl,hM,?_⟩
 refine bu (fun i ρ M'=>M'=M∧∃ y1 y2:Option L3.D,ρ= [some (.ref l),some a.d,some b.d,y1,y2]) _ ?_ ?_ ⟨rfl,_,_,rfl⟩
 ·rintro i x ρ M' N hx ⟨rfl,y1,y2,rfl⟩ hN
  obtain ⟨t,ht,rfl⟩:=ic hx
  have mt:=List.mem_of_getElem? ht
  obtain ⟨u,v,w',rfl,_⟩:=hts t mt
  refine ⟨hM,?_⟩
  walk_at "rd"
  rw [cO]
  refine bD (fun k1=>?_) (fun k1=>?_)
  ·walk_at "rd"
   rw [cO]
   refine bD (fun k2=>?_) (fun k2=>?_)
   ·have k1:=of_decide_eq_true k1
    have k2:=of_decide_eq_true k2
    subst k1 k2
    walk_at "rd"
    exact aQ.mk ⟨_,Le.refl _,h (some u) ⟨_,mt,.inl rfl⟩⟩
   ·walk_at "rd"
    rw [cO]
    refine bD (fun k1=>?_) (fun k1=>?_)
    ·walk_at "rd"
     rw [cO]
     refine bD (fun k2=>?_) (fun k2=>?_)
     ·have k1:=of_decide_eq_true k1
      have k2:=of_decide_eq_true k2
      subst k1 k2
      walk_at "rd"
      exact aQ.mk ⟨_,Le.refl _,h (some v) ⟨_,mt,.inr (.inl rfl)⟩⟩
     ·walk_at "rd"
      rw [cO]
      refine bD (fun k1=>?_) (fun k1=>?_)
      ·walk_at "rd"
       rw [cO]
       refine bD (fun k2=>?_) (fun k2=>?_)
       ·have k1:=of_decide_eq_true k1
        have k2:=of_decide_eq_true k2
        subst k1 k2
        walk_at "rd"
        exact aQ.mk ⟨_,Le.refl _,h (some w') ⟨_,mt,.inr (.inr rfl)⟩⟩
       ·walk_at "rd"
        exact hN _ _ ⟨rfl,_,_,rfl⟩
      ·walk_at "rd"
       exact hN _ _ ⟨rfl,_,_,rfl⟩
    ·walk_at "rd"
     rw [cO]
     refine bD (fun k1=>?_) (fun k1=>?_)
     ·walk_at "rd"
      rw [cO]
      refine bD (fun k2=>?_) (fun k2=>?_)
      ·have k1:=of_decide_eq_true k1
       have k2:=of_decide_eq_true k2
       subst k1 k2
       walk_at "rd"
       exact aQ.mk ⟨_,Le.refl _,h (some w') ⟨_,mt,.inr (.inr rfl)⟩⟩
      ·walk_at "rd"
       exact hN _ _ ⟨rfl,_,_,rfl⟩
     ·walk_at "rd"
      exact hN _ _ ⟨rfl,_,_,rfl⟩
  ·walk_at "rd"
   rw [cO]
   refine bD (fun k1=>?_) (fun k1=>?_)
   ·walk_at "rd"
    rw [cO]
    refine bD (fun k2=>?_) (fun k2=>?_)
    ·have k1:=of_decide_eq_true k1
     have k2:=of_decide_eq_true k2
     subst k1 k2
     walk_at "rd"
     exact aQ.mk ⟨_,Le.refl _,h (some v) ⟨_,mt,.inr (.inl rfl)⟩⟩
    ·walk_at "rd"
     rw [cO]
     refine bD (fun k1=>?_) (fun k1=>?_)
     ·walk_at "rd"
      rw [cO]
      refine bD (fun k2=>?_) (fun k2=>?_)
      ·have k1:=of_decide_eq_true k1
       have k2:=of_decide_eq_true k2
       subst k1 k2
       walk_at "rd"
       exact aQ.mk ⟨_,Le.refl _,h (some w') ⟨_,mt,.inr (.inr rfl)⟩⟩
      ·walk_at "rd"
       exact hN _ _ ⟨rfl,_,_,rfl⟩
     ·walk_at "rd"
      exact hN _ _ ⟨rfl,_,_,rfl⟩
   ·walk_at "rd"
    rw [cO]
    refine bD (fun k1=>?_) (fun k1=>?_)
    ·walk_at "rd"
     rw [cO]
     refine bD (fun k2=>?_) (fun k2=>?_)
     ·have k1:=of_decide_eq_true k1
      have k2:=of_decide_eq_true k2
      subst k1 k2
      walk_at "rd"
      exact aQ.mk ⟨_,Le.refl _,h (some w') ⟨_,mt,.inr (.inr rfl)⟩⟩
     ·walk_at "rd"
      exact hN _ _ ⟨rfl,_,_,rfl⟩
    ·walk_at "rd"
     exact hN _ _ ⟨rfl,_,_,rfl⟩
 ·rintro ρ M' ⟨rfl,y1,y2,rfl⟩
  refine ⟨hM,?_⟩
  walk_at "rd"
  exact aQ.mk ⟨_,Le.refl _,h none trivial⟩
theorem gc (T:Txt K mg t):Binds K t.jg ["_law_a","_law_b","_law_c"] []:=T.dQ.binds fun _ _ _ _ _ _ us hl=>match us,hl with | [_,_,_],_=>rfl
def laid (a b c:Pl):List Pl:=if bQ b a∧bQ b c then [b,c,a] else if bQ c a∧bQ c b then [c,a,b] else [a,b,c]
def wj:sA:=fun ds Q=> ∃ a b c:Pl,ds= [a.d,b.d,c.d]∧Q (tD (laid a b c))
theorem gf (T:Txt K mg t):cg P w K mg base fE 1 t.kc t.jg ["_law_a","_law_b","_law_c"] (qW K wj):=by
 refine wG T.dQ uL (fun ds Q h=>by (first | (obtain ⟨_,rfl,_⟩:=h;rfl) | (obtain ⟨_,_,rfl,_⟩:=h;rfl) | (obtain ⟨_,_,_,rfl,_⟩:=h;rfl) | (obtain ⟨_,_,_,_,rfl,_⟩:=h;rfl) | (obtain ⟨_,_,_,_,_,rfl,_⟩:=h;rfl) | (obtain ⟨_,_,_,_,_,_,rfl,_⟩:=h;rfl) | (obtain ⟨_,_,_,_,_,_,_,rfl,_⟩:=h;rfl))) (fun cdv A outer s H hr=>?_)
 have hu:=hr.units
 refine ⟨_,(au (bX (ni.pt (sj (aI (oj hu) (af 1) (af 0) (aA _)) (nE (aI (oj hu) (af 1) (af 2) (aA _))))) (aB (aD (cE (aa (af 1) (aa (af 2) (aa (af 0) aj)))))) aU)
  (au (bX (ni.pt (sj (aI (oj hu) (af 2) (af 0) (aA _)) (nE (aI (oj hu) (af 2) (af 1) (aA _))))) (aB (aD (cE (aa (af 2) (aa (af 0) (aa (af 1) aj)))))) aU)
  (aB (aD (cE (aa (af 0) (aa (af 1) (aa (af 2) aj)))))))),fun ds Q h=>?_⟩
 obtain ⟨a,b,c,rfl,h⟩:=h
 unfold laid at h
 walk_at "rd"
 rw [ja]
 refine bD (fun k1=>?_) (fun k1=>?_)
 ·walk_at "rd"
  rw [ja]
  refine bD (fun k2=>?_) (fun k2=>?_)
  ·rw [if_pos ⟨of_decide_eq_true k1,of_decide_eq_true k2⟩] at h
   walk_at "rd"
   exact h
  ·rw [if_neg (fun z=>k2 (decide_eq_true z.2))] at h
   walk_at "rd"
   rw [ja]
   refine bD (fun k3=>?_) (fun k3=>?_)
   ·walk_at "rd"
    rw [ja]
    refine bD (fun k4=>?_) (fun k4=>?_)
    ·rw [if_pos ⟨of_decide_eq_true k3,of_decide_eq_true k4⟩] at h
     walk_at "rd"
     exact h
    ·rw [if_neg (fun z=>k4 (decide_eq_true z.2))] at h
     walk_at "rd"
     exact h
   ·rw [if_neg (fun z=>k3 (decide_eq_true z.1))] at h
    walk_at "rd"
    exact h
 ·rw [if_neg (fun z=>k1 (decide_eq_true z.1))] at h
  walk_at "rd"
  rw [ja]
  refine bD (fun k3=>?_) (fun k3=>?_)
  ·walk_at "rd"
   rw [ja]
   refine bD (fun k4=>?_) (fun k4=>?_)
   ·rw [if_pos ⟨of_decide_eq_true k3,of_decide_eq_true k4⟩] at h
    walk_at "rd"
    exact h
   ·rw [if_neg (fun z=>k4 (decide_eq_true z.2))] at h
    walk_at "rd"
    exact h
  ·rw [if_neg (fun z=>k3 (decide_eq_true z.1))] at h
   walk_at "rd"
   exact h
theorem lB (T:Txt K mg t):Binds K t.iB ["_law_a","_law_b","_law_c"] []:=T.fZ.binds fun _ _ _ _ _ _ us hl=>match us,hl with | [_,_,_],_=>rfl
def uP:sA:=fun ds Q=> ∃ a b c:Pl,ds= [a.d,b.d,c.d]∧a.Ok 140∧b.Ok 140∧c.Ok 140∧Q (.int (tw a b c))
theorem lC (T:Txt K mg t):cg P w K mg base fE 1 t.jh t.iB ["_law_a","_law_b","_law_c"] (qW K uP):=by
 refine wG T.fZ rA (fun ds Q h=>by (first | (obtain ⟨_,rfl,_⟩:=h;rfl) | (obtain ⟨_,_,rfl,_⟩:=h;rfl) | (obtain ⟨_,_,_,rfl,_⟩:=h;rfl) | (obtain ⟨_,_,_,_,rfl,_⟩:=h;rfl) | (obtain ⟨_,_,_,_,_,rfl,_⟩:=h;rfl) | (obtain ⟨_,_,_,_,_,_,rfl,_⟩:=h;rfl) | (obtain ⟨_,_,_,_,_,_,_,rfl,_⟩:=h;rfl))) (fun cdv A outer s H hr=>?_)
 have hu:=hr.units
 refine ⟨_,(aB (aD (ak bT (ak cR (ak bT (aE (af 1) ah) (aE (af 0) ah)) (ak bT (aE (af 2) ah) (aE (af 0) ah))) (ak cR (ak bT (aE (af 1) ah) (aE (af 0) ah)) (ak bT (aE (af 2) ah) (aE (af 0) ah)))))),fun ds Q h=>?_⟩
 obtain ⟨a,b,c,rfl,⟨a1,a2⟩,⟨b1,b2⟩,⟨c1,c2⟩,h⟩:=h
 unfold tw at h
 walk_at "rd"
 exact h
theorem oX (T:Txt K mg t):Binds K t.fH ["_law_cover_here","_law_a","_law_b"] []:=T.gO.binds fun _ _ _ _ _ _ us hl=>match us,hl with | [_,_,_],_=>rfl
theorem gi {a b c:Pl} (h:0 < tw a b c):j4 (laid a b c)∧(laid a b c).Perm [a,b,c]:=by
 obtain ⟨n1,n2,n3⟩:=yD (show tw a b c≠0 by omega)
 unfold laid
 by_cases k:bQ b a∧bQ b c
 ·rw [if_pos k]
  exact ⟨⟨b,c,a,rfl,k.2,k.1,by rw [i6];exact h⟩,(List.perm_append_comm (l₁:=[b,c]) (l₂:=[a]))⟩
 ·rw [if_neg k]
  by_cases k2:bQ c a∧bQ c b
  ·rw [if_pos k2]
   exact ⟨⟨c,a,b,rfl,k2.1,k2.2,by rw [← i6 c a b];exact h⟩,(List.perm_append_comm (l₁:=[c]) (l₂:=[a,b]))⟩
  ·rw [if_neg k2]
   have ab:bQ a b:=by
    rcases i8 n1 with z | z
    ·exact z
    ·rcases i8 n3 with y | y
     ·exact absurd ⟨z,y⟩ k
     ·exact absurd ⟨c8 y z,y⟩ k2
   have ac:bQ a c:=by
    rcases i8 n2 with z | z
    ·exact z
    ·exact absurd ⟨z,c8 z ab⟩ k2
   exact ⟨⟨a,b,c,rfl,ab,ac,h⟩,.refl _⟩
theorem uQ {a b c:Pl} (h:j4 [a,b,c]):0 < tw a b c:=by
 obtain ⟨u,v,w,e,_,_,p⟩:=h
 injection e with e1 e
 injection e with e2 e
 injection e with e3 e
 rw [e1,e2,e3]
 exact p
theorem wk {ps:List Pl} {ts:List (List Pl)} {a b c:Pl} (h:Je ts a b (some c)) (hT:∀ t∈ts,oF ps t):0 < tw a b c∧laid a b c∈ts∧a∈ps∧b∈ps∧c∈ps:=by
 obtain ⟨t,ht,e⟩:=h
 obtain ⟨h1,h2⟩:=hT t ht
 have r1:=i6 a b c
 have r2:=i6 b c a
 rcases e with rfl | rfl | rfl
 ·have p:0 < tw a b c:=by have:=uQ h1;omega
  obtain ⟨k1,k2⟩:=gi p
  refine ⟨p,?_,h2 a (by simp),h2 b (by simp),h2 c (by simp)⟩
  rw [k1.uniq h1 (k2.trans (List.perm_append_comm (l₁:=[a,b]) (l₂:=[c])))]
  exact ht
 ·have p:0 < tw a b c:=by have:=uQ h1;omega
  obtain ⟨k1,k2⟩:=gi p
  refine ⟨p,?_,h2 a (by simp),h2 b (by simp),h2 c (by simp)⟩
  rw [k1.uniq h1 (k2.trans (List.perm_append_comm (l₁:=[a]) (l₂:=[b,c])))]
  exact ht
 ·have p:0 < tw a b c:=uQ h1
  obtain ⟨k1,k2⟩:=gi p
  refine ⟨p,?_,h2 a (by simp),h2 b (by simp),h2 c (by simp)⟩
  rw [k1.uniq h1 k2]
  exact ht
theorem wm {a b c d:Pl} (h1:0 < tw a b c) (h2:0 < tw b a d):laid a b c≠laid b a d:=fun e=>by
 obtain ⟨_,k1⟩:=gi h1
 obtain ⟨_,k2⟩:=gi h2
 rw [e] at k1
 have k:=k1.symm.trans k2
 have m:c∈[b,a,d]:=k.mem_iff.mp (by simp)
 obtain ⟨_,n2,n3⟩:=yD (show tw a b c≠0 by omega)
 simp only [List.mem_cons,List.not_mem_nil,or_false] at m
 rcases m with m | m | m
 ·exact n3 m.symm
 ·exact n2 m.symm
 ·rw [m] at h1
  have:=tZ a b d
  omega
theorem wo {a b c d:Pl} (h1:0 < tw a b c) (h2:0 < tw b a d) (h:tw c d a*tw c d b < 0):0 < tw a d c∧0 < tw b c d:=by
 have e1:tw a d c= - tw c d a:=by unfold tw;grind
 have e2:tw b c d=tw c d b:=by unfold tw;grind
 have e3:tw c d b - tw c d a=tw a b c+tw b a d:=by unfold tw;grind
 rw [e1,e2]
 generalize tw c d a=A at *
 generalize tw c d b=B at *
 rcases Int.lt_trichotomy A 0 with z | z | z
 ·refine ⟨by omega,?_⟩
  apply Classical.byContradiction
  intro w
  have:=Int.mul_nonneg_of_nonpos_of_nonpos (a:=A) (b:=B) (by omega) (by omega)
  omega
 ·rw [z,Int.zero_mul] at h;omega
 ·have:=Int.mul_nonneg (a:=A) (b:=B) (by omega) (by omega)
  omega
theorem nj {f:List Pl→Bool} {g:List Pl}:∀ {ts:List (List Pl)},g∈ts→f g=false→(ts.filter f).length+1≤ts.length
 | [],h,_=>by cases h
 | t :: ts,h,hf=>by
   rw [List.filter_cons,List.length_cons]
   have l:=List.length_filter_le f ts
   by_cases e:t=g
   ·rw [e,if_neg (by rw [hf];simp)]
    omega
   ·rcases List.mem_cons.mp h with h | h
    ·exact absurd h.symm e
    ·have:=nj h hf
     split
     ·rw [List.length_cons];omega
     ·omega
theorem Ea {f:List Pl→Bool} {g1 g2:List Pl} (n:g1≠g2) (f1:f g1=false) (f2:f g2=false):∀ {ts:List (List Pl)},g1∈ts→g2∈ts→(ts.filter f).length+2≤ts.length
 | [],h,_=>by cases h
 | t :: ts,h1,h2=>by
   rw [List.filter_cons,List.length_cons]
   by_cases e:t=g1
   ·rw [e,if_neg (by rw [f1];simp)]
    rcases List.mem_cons.mp h2 with h | h
    ·rw [e] at h;exact absurd h.symm n
    ·have:=nj h f2;omega
   ·by_cases e2:t=g2
    ·rw [e2,if_neg (by rw [f2];simp)]
     rcases List.mem_cons.mp h1 with h | h
     ·exact absurd h.symm e
     ·have:=nj h f1;omega
    ·rcases List.mem_cons.mp h1 with h | h
     ·exact absurd h.symm e
     ·rcases List.mem_cons.mp h2 with h' | h'
      ·exact absurd h'.symm e2
      ·have:=Ea n f1 f2 h h'
       split
       ·rw [List.length_cons];omega
       ·omega
theorem m8 (a b c:Pl):oV (laid a b c) a b c:=by
 unfold laid
 split
 ·exact .inr (.inl rfl)
 ·split
  ·exact .inr (.inr rfl)
  ·exact .inl rfl
/-- as it was,or a side turned over -/
def wz (ts us:List (List Pl)):Prop:=us=ts∨∃ a b c d:Pl,0 < tw a b c∧0 < tw b a d∧laid a b c∈ts∧laid b a d∈ts∧tw c d a*tw c d b < 0∧us.Perm (ts.filter (fun t=>decide (t∉[laid a b c,laid b a d])) ++ [laid a d c,laid b c d])
theorem Af {ts:List (List Pl)} {t1 t2:List Pl} (nd:ts.Nodup) (n:t1≠t2) (h1:t1∈ts) (h2:t2∈ts):ts.Perm (t1 :: t2 :: ts.filter (fun t=>decide (t∉[t1,t2]))):=by
 refine nR nd (List.nodup_cons.mpr ⟨fun z=>?_,List.nodup_cons.mpr ⟨fun z=>?_,nd.filter _⟩⟩) fun t=>?_
 ·rcases List.mem_cons.mp z with z | z
  ·exact n z
  ·exact of_decide_eq_true (List.mem_filter.mp z).2 (by simp)
 ·exact of_decide_eq_true (List.mem_filter.mp z).2 (by simp)
 ·rw [List.mem_cons,List.mem_cons,List.mem_filter]
  constructor
  ·intro h
   by_cases e1:t=t1
   ·exact .inl e1
   ·by_cases e2:t=t2
    ·exact .inr (.inl e2)
    ·exact .inr (.inr ⟨h,decide_eq_true (by simp [e1,e2])⟩)
  ·rintro (rfl | rfl | h)
   ·exact h1
   ·exact h2
   ·exact h.1
theorem wA {Q:List Pl} {ts us:List (List Pl)} (k:dM Q ts) (nf:¬ Flat Q) (h:wz ts us):dM Q us∧us.length=ts.length:=by
 rcases h with rfl | ⟨a,b,c,d,p1,p2,m1,m2,cv,hp⟩
 ·exact ⟨k,rfl⟩
 ·have Gu:=wm p1 p2
  obtain ⟨q1,q2⟩:=wo p1 p2 cv
  have e:=Af k.nodup Gu m1 m2
  have IP:us.Perm (laid a d c :: laid b c d :: ts.filter (fun t=>decide (t∉[laid a b c,laid b a d]))):=hp.trans (List.perm_append_comm (l₂:=[laid a d c,laid b c d]))
  refine ⟨k.flip nf e (m8 a b c) (m8 b a d) cv IP (m8 a d c) (m8 b c d) (gi q1).1 (gi q2).1,?_⟩
  rw [IP.length_eq,e.length_eq]
  rfl
def qI:pB:=fun ds M Q=> ∃ (l:Addr) (a b:Pl),ds= [.ref l,a.d,b.d]∧∃ (ps:List Pl) (ts:List (List Pl)),M l=some (.lst (ts.map tD))∧(∀ t∈ts,oF ps t)∧ts.length≤20∧(∀ q∈ps,q.Ok 140)∧∀ (p:Addr) (us:List (List Pl)) (M':Mp),Le M M'→M' p=some (.lst (us.map tD))→(∀ t∈us,oF ps t)→us.length≤20→wz ts us→(us=ts∨us.Pairwise (fun p q=>dR q p=false))→Q (.ref p) M'
theorem oY (T:Txt K mg t):cg P w K mg base fE 2 t.gH t.fH ["_law_cover_here","_law_a","_law_b"] (pP K qI):=by
 refine u9 T.gO dI (fun ds M Q h=>by (first | (obtain ⟨_,rfl,_⟩:=h;rfl) | (obtain ⟨_,_,rfl,_⟩:=h;rfl) | (obtain ⟨_,_,_,rfl,_⟩:=h;rfl) | (obtain ⟨_,_,_,_,rfl,_⟩:=h;rfl) | (obtain ⟨_,_,_,_,_,rfl,_⟩:=h;rfl) | (obtain ⟨_,_,_,_,_,_,rfl,_⟩:=h;rfl) | (obtain ⟨_,_,_,_,_,_,_,rfl,_⟩:=h;rfl))) (fun cdv A outer s H hr=>?_)
 have hu:=hr.units
 refine ⟨_,(au (aS (i:=3) dI.nd rfl (Or.inl rfl) (bW (oJ T) (hr.mono (by decide)) (by rfl) T.qC T.jr.kp (oH T) (aa (af 0) (aa (af 1) (aa (af 2) aj)))))
  (au (aS (i:=4) dI.nd rfl (Or.inl rfl) (bW (oJ T) (hr.mono (by decide)) (by rfl) T.qC T.jr.kp (oH T) (aa (af 0) (aa (af 2) (aa (af 1) aj)))))
  (au (bX (ni.pt (nF (aI gR (af 3) gv (aA _)) (nF (aI gR (af 4) gv (aA _)) (jy (aI HP (ak cR (aL (lC T) (hr.mono (by decide)) (by rfl) T.mX T.fZ.kp (lB T) (aa (af 3) (aa (af 4) (aa (af 1) aj)))) (aL (lC T) (hr.mono (by decide)) (by rfl) T.mX T.fZ.kp (lB T) (aa (af 3) (aa (af 4) (aa (af 2) aj))))) ah (aA _)))))) (aB (aD (af 0))) aU)
  (au (aS (i:=5) dI.nd rfl (Or.inr rfl) (cW (aa (aL (gf T) (hr.mono (by decide)) (by rfl) T.gU T.dQ.kp (gc T) (aa (af 1) (aa (af 2) (aa (af 3) aj)))) (aa (aL (gf T) (hr.mono (by decide)) (by rfl) T.gU T.dQ.kp (gc T) (aa (af 2) (aa (af 1) (aa (af 4) aj)))) aj))))
  (aB (aD (aF (nJ (n:=3) (.inr rfl) hu) (by rfl) T.gp c7 (aa (ak Bh (lR (k8 (ys:=["_law_gone"]) (fs:=[5]) rfl (by show bJ (av dU) ["_law_cover_here","_law_a","_law_b","_law_c","_law_d","_law_gone"] _ _ _ _=true;decide +kernel) (af 0) (fun cl C s0 H0 ex=>sM (aI (yq hu) (af 0) (af 1) (by with_unfolding_all rfl))) (fun cl C s0 H0 ex=>(af 0)))) (cW (aa (aL (gf T) (hr.mono (by decide)) (by rfl) T.gU T.dQ.kp (gc T) (aa (af 1) (aa (af 4) (aa (af 3) aj)))) (aa (aL (gf T) (hr.mono (by decide)) (by rfl) T.gU T.dQ.kp (gc T) (aa (af 2) (aa (af 3) (aa (af 4) aj)))) aj)))) aj)))))))),fun ds M Q h=>?_⟩
 obtain ⟨l,a,b,rfl,ps,ts,hM,hT,lt,ho,h⟩:=h
 have sl:(1000:Nat) < sizeLine:=by decide
 have Ew:∀ t∈ts,Tr t:=fun t ht=>(hT t ht).tr ho
 have same:aQ (∃ M0,Le M0 M∧Q (.ref l) M0):=aQ.mk ⟨M,Le.refl _,h l ts M (Le.refl _) hM hT lt (.inl rfl) (.inl rfl)⟩
 walk_at "rd"
 refine ⟨ts,hM,Ew,fun r1 hr1=>?_⟩
 walk_at "rd"
 refine ⟨ts,hM,Ew,fun r2 hr2=>?_⟩
 cases r1 with
 | none=>
   walk_at "rd"
   exact same
 | some c=>
   cases r2 with
   | none=>
     walk_at "rd"
     exact same
   | some d=>
     obtain ⟨p1,m1,ma,mb,mc⟩:=wk hr1 hT
     obtain ⟨p2,m2,_,_,md⟩:=wk hr2 hT
     have t1:=Ed (ho c mc) (ho d md) (ho a ma)
     have t2:=Ed (ho c mc) (ho d md) (ho b mb)
     walk_at "rd"
     refine ⟨ho c mc,ho d md,ho a ma,?_⟩
     walk_at "rd"
     refine ⟨ho c mc,ho d md,ho b mb,?_⟩
     walk_at "rd"
     refine bD (fun k=>?_) (fun k=>?_)
     ·walk_at "rd"
      exact same
     have k:tw c d a*tw c d b < 0:=by
      apply Classical.byContradiction
      intro z
      exact k (decide_eq_true (Int.not_lt.mp z))
     obtain ⟨q1,q2⟩:=wo p1 p2 k
     have Gu:=wm p1 p2
     obtain ⟨i1,j1⟩:=gi q1
     obtain ⟨i2,j2⟩:=gi q2
     have in1:oF ps (laid a d c):=⟨i1,fun q hq=>by
      have:=j1.mem_iff.mp hq
      simp only [List.mem_cons,List.not_mem_nil,or_false] at this
      rcases this with rfl | rfl | rfl <;> assumption⟩
     have OO:oF ps (laid b c d):=⟨i2,fun q hq=>by
      have:=j2.mem_iff.mp hq
      simp only [List.mem_cons,List.not_mem_nil,or_false] at this
      rcases this with rfl | rfl | rfl <;> assumption⟩
     walk_at "rd"
     intro g hg
     have eG: [tD (laid a b c),tD (laid b a d)]= [laid a b c,laid b a d].map tD:=rfl
     have eN: [tD (laid a d c),tD (laid b c d)]= [laid a d c,laid b c d].map tD:=rfl
     have hfe:∀ f:List Pl→Bool,(∀ t,f t=decide (t∉[laid a b c,laid b a d]))→(ts.filter f).length+2≤ts.length:=fun f hf=>Ea Gu (by rw [hf];simp) (by rw [hf];simp) m1 m2
     have hfe:=hfe (fun t=>decide (t∉[laid a b c,laid b a d])) fun t=>rfl
     have JE:∀ us:List (List Pl),us.Perm (ts.filter (fun t=>decide (t∉[laid a b c,laid b a d])) ++ [laid a d c,laid b c d])→wz ts us:=fun us hp=> .inr ⟨a,b,c,d,p1,p2,m1,m2,k,hp⟩
     try rw [eG]
     generalize [laid a b c,laid b a d]=gs at hfe JE ⊢
     have hM:=az (u:=MO.lst (gs.map tD)) hM hg
     have le:=Le.new (o:=MO.lst (gs.map tD)) hg
     have hG:aC M g (.lst (gs.map tD)) g=some (.lst (gs.map tD)):=ai
     generalize aC M g (.lst (gs.map tD))=M1 at hM hG le ⊢
     walk_at "rd"
     refine ⟨l,_,rfl,hM,by rw [List.length_map];omega,aQ.mk (bM (fun j acc M5=>M5=M1∧acc=((ts.take j).filter (fun t=>decide (t∉gs))).map tD) _ ?_ ?_ ⟨rfl,rfl⟩)⟩
     ·rintro j v acc M5 N2 gj ⟨rfl,rfl⟩ jG
      obtain ⟨t',ht,rfl⟩:=ic gj
      refine ⟨hM,?_⟩
      walk_at "rd"
      refine ⟨_,.inr ⟨g,rfl,hG⟩,zS t',dG gs,?_⟩
      walk_at "rd"
      rw [Ds,if_pos rfl]
      refine bD (fun k=>?_) (fun k=>?_)
      ·have k:t'∉gs:=fun z=>by rw [decide_eq_true z] at k;cases k
       walk_at "rd"
       refine jG _ _ ⟨rfl,?_⟩
       rw [bZ ht,if_pos (decide_eq_true k),List.map_append]
       rfl
      ·have k:t'∈gs:=Classical.byContradiction fun z=>k (by rw [decide_eq_false z];rfl)
       refine jG _ _ ⟨rfl,?_⟩
       rw [bZ ht,if_neg (fun z=>of_decide_eq_true (p:=t'∉gs) z k),List.append_nil]
     ·rintro acc M5 ⟨rfl,rfl⟩
      refine ⟨hM,fun f hf=>?_⟩
      rw [List.length_map,List.take_length]
      have hT2:∀ t∈ts.filter (fun t=>decide (t∉gs)),oF ps t:=fun t ht=>hT t (List.mem_filter.mp ht).1
      generalize ts.filter (fun t=>decide (t∉gs))=fs at hfe hT2 JE ⊢
      have le:=le.trans (Le.new (o:=MO.lst (fs.map tD)) hf)
      have hF:aC M5 f (.lst (fs.map tD)) f=some (.lst (fs.map tD)):=ai
      generalize aC M5 f (.lst (fs.map tD))=M6 at hF le ⊢
      walk_at "rd"
      intro e he
      have lf:([laid a d c,laid b c d]:List (List Pl)).length=2:=rfl
      have JF:∀ t∈[laid a d c,laid b c d],oF ps t:=fun t ht=>by
       simp only [List.mem_cons,List.not_mem_nil,or_false] at ht
       rcases ht with rfl | rfl
       ·exact in1
       ·exact OO
      try rw [eN]
      clear eN eG
      generalize [laid a d c,laid b c d]=ns at *
      have hF:=az (u:=MO.lst (ns.map tD)) hF he
      have le:=le.trans (Le.new (o:=MO.lst (ns.map tD)) he)
      have hE:aC M6 e (.lst (ns.map tD)) e=some (.lst (ns.map tD)):=ai
      generalize aC M6 e (.lst (ns.map tD))=M7 at hF hE le ⊢
      refine ⟨f,e,_,_,rfl,rfl,hF,hE,by rw [List.length_map,List.length_map];omega,fun u yY=>?_⟩
      rw [← List.map_append]
      have LR:∀ t∈fs ++ ns,oF ps t:=fun t ht=>by
       rcases List.mem_append.mp ht with ht | ht
       ·exact hT2 t ht
       ·exact JF t ht
      have l4:(fs ++ ns).length≤20:=by rw [List.length_append];omega
      generalize fs ++ ns=rs at LR l4 JE ⊢
      have le:=le.trans (Le.new (o:=MO.lst (rs.map tD)) yY)
      have hU:aC M7 u (.lst (rs.map tD)) u=some (.lst (rs.map tD)):=ai
      generalize aC M7 u (.lst (rs.map tD))=M8 at hU le ⊢
      walk_at "rd"
      refine ⟨u,rs,rfl,hU,fun t ht=>?_,by omega,fun x vs hx cC hso=>?_⟩
      ·obtain ⟨⟨u,v,w,e,_⟩,_⟩:=LR t ht
       rw [e]
       rfl
      exact aQ.mk ⟨_,Le.refl _,h x vs _ (le.trans (Le.new hx)) ai (fun t ht=>LR t (cC.mem_iff.mp ht)) (by rw [cC.length_eq];exact l4) (JE vs cC) (.inr hso)⟩
theorem rL (T:Txt K mg t):Binds K t.iC ["_law_script","_law_start","_law_cover_here"] []:=T.jt.binds fun _ _ _ _ _ _ us hl=>match us,hl with | [_,_,_],_=>rfl
theorem MS (x y w:Pl) {i:Int} (h0:0≤i) (h3:i < 3):∃ p:Pl,mq [x.d,y.d,w.d] i=some p.d:=by
 have:i=0∨i=1∨i=2:=by omega
 rcases this with rfl | rfl | rfl
 ·exact ⟨x,rfl⟩
 ·exact ⟨y,rfl⟩
 ·exact ⟨w,rfl⟩
def uR:pB:=fun ds M Q=> ∃ (ns:List Int) (k:Int) (l:Addr),ds= [.tV (ns.map L3.D.int),.int k,.ref l]∧(∀ z∈ns,Att.yy z)∧ns.length≤63∧0≤k∧k≤900∧∃ (ps:List Pl) (ts:List (List Pl)),M l=some (.lst (ts.map tD))∧(∀ t∈ts,oF ps t)∧ts.length≤20∧(∀ q∈ps,q.Ok 140)∧∃ I:List (List Pl)→Prop,I ts∧(∀ us vs,I us→wz us vs→(vs=us∨vs.Pairwise (fun p q=>dR q p=false))→I vs)∧∀ (p:Addr) (us:List (List Pl)) (M':Mp),Le M M'→M' p=some (.lst (us.map tD))→(∀ t∈us,oF ps t)→us.length≤20→I us→Q (.ref p) M'
theorem rM (T:Txt K mg t):cg P w K mg base fE 3 t.ji t.iC ["_law_script","_law_start","_law_cover_here"] (pP K uR):=by
 refine u9 T.jt dH (fun ds M Q h=>by (first | (obtain ⟨_,rfl,_⟩:=h;rfl) | (obtain ⟨_,_,rfl,_⟩:=h;rfl) | (obtain ⟨_,_,_,rfl,_⟩:=h;rfl) | (obtain ⟨_,_,_,_,rfl,_⟩:=h;rfl) | (obtain ⟨_,_,_,_,_,rfl,_⟩:=h;rfl) | (obtain ⟨_,_,_,_,_,_,rfl,_⟩:=h;rfl) | (obtain ⟨_,_,_,_,_,_,_,rfl,_⟩:=h;rfl))) (fun cdv A outer s H hr=>?_)
 have hu:=hr.units
 refine ⟨_,(au (iZ PassesOwn.never rfl (by rfl) T.bY (aa ah aj) (dJ (i:=3) dH.nd rfl (Or.inl rfl)) (au (aS (i:=4) dH.nd rfl (Or.inl rfl) (aL (br T) (hr.mono (by decide)) (by rfl) T.bB T.bf.kp (bq T) (aa (af 0) (aa (ak dF (af 1) (af 3)) aj))))
  (aB (bX (aI (t7 hu) (af 2) (cW aj) (aA _)) (au (aS (i:=5) dH.nd rfl (Or.inl rfl) (aE (af 2) (ak aT (ak cG (af 4) ah) (aF cJ (by rfl) T.bR aN (aa (af 2) aj)))))
  (aB (aS (i:=2) dH.nd rfl (Or.inl rfl) (bW (oY T) (hr.mono (by decide)) (by rfl) T.qD T.gO.kp (oX T) (aa (af 2) (aa (aE (af 5) (ak aT (af 4) ah)) (aa (aE (af 5) (ak aT (ak dF (af 4) ah) ah)) aj))))))) aU))))
  (aB (aD (af 2)))),fun ds M Q h=>?_⟩
 obtain ⟨ns,k,l,rfl,hb,hlen,k0,k1,ps,ts,hM,hT,lt,ho,I,hI,hS,h⟩:=h
 generalize h6:(6:Int)=n6
 walk_at "rd"
 refine ⟨by omega,by omega,?_⟩
 refine bu (fun i ρ M'=> ∃ (q:Addr) (us:List (List Pl)) (y1 y2 y3:Option L3.D),ρ= [some (.tV (ns.map L3.D.int)),some (.int k),some (.ref q),y1,y2,y3]∧Le M M'∧M' q=some (.lst (us.map tD))∧(∀ t∈us,oF ps t)∧us.length≤20∧I us) _ ?_ ?_ ⟨l,ts,_,_,_,rfl,Le.refl _,hM,hT,lt,hI⟩
 ·rintro i v ρ M' N uS ⟨q,us,y1,y2,y3,rfl,le,hU,hT,lt,hI⟩ hN
  obtain ⟨hi,rfl⟩:=bg uS
  have hi:i < 6:=by omega
  refine ⟨trivial,?_⟩
  walk_at "rd"
  refine ⟨hb,hlen,by dsimp only;omega,by dsimp only;omega,fun z bz _=>?_⟩
  walk_at "rd"
  intro e he
  refine ⟨_,_,.of (az hU he),.of ai,dG _,rfl,?_⟩
  rw [mQ]
  have le:=le.trans (Le.new (o:=MO.lst []) he)
  have hU:=az (u:=MO.lst []) hU he
  generalize aC M' e (.lst [])=M1 at hU le ⊢
  cases es:us with
  | nil=>
    subst es
    walk_at "rd"
    exact hN _ _ ⟨q,[],_,_,_,rfl,le,hU,hT,lt,hI⟩
  | cons u0 ur=>
    rw [← es]
    have en:(us.map tD).isEmpty=false:=by rw [es];rfl
    have lu:0 < us.length:=by rw [es];simp
    rw [en]
    walk_at "rd"
    refine ⟨_,_,rfl,.inr (.inr ⟨q,rfl,hU⟩),?_⟩
    rw [List.length_map]
    walk_at "rd"
    have j0:0≤z / 3 % (us.length:Int):=Int.emod_nonneg _ (by omega)
    have j1:z / 3 % (us.length:Int) < (us.length:Int):=Int.emod_lt_of_pos _ (by omega)
    obtain ⟨j,hj⟩:∃ j:Nat,z / 3 % (us.length:Int)=(j:Int):=⟨(z / 3 % (us.length:Int)).toNat,by omega⟩
    have lj:j < us.length:=by omega
    obtain ⟨t',ht⟩:∃ t',us[j]?=some t':=⟨us[j],List.getElem?_eq_getElem lj⟩
    obtain ⟨⟨x,y,v,et,_⟩,_⟩:=hT t' (List.mem_of_getElem? ht)
    subst et
    refine ⟨_,_,_,.inr (.inr ⟨q,rfl,hU⟩),rfl,(show mq (us.map tD) (z / 3 % (us.length:Int))=some (tD [x,y,v]) from by rw [hj];exact bI (by rw [List.getElem?_map,ht];rfl)),?_⟩
    obtain ⟨a,ha⟩:=MS x y v (i:=z % 3) (by omega) (by omega)
    obtain ⟨b,hb'⟩:=MS x y v (i:=(z+1) % 3) (by omega) (by omega)
    walk_at "rd"
    refine ⟨_,_,_,Or.inl rfl,rfl,ha,?_⟩
    walk_at "rd"
    refine ⟨_,_,_,Or.inl rfl,rfl,hb',?_⟩
    walk_at "rd"
    refine ⟨ps,us,hU,hT,lt,ho,fun p' us' M2 xR hU' OP lt' OQ hso'=>?_⟩
    walk_at "rd"
    exact hN _ _ ⟨p',us',_,_,_,rfl,le.trans xR,hU',OP,lt',hS _ _ hI OQ hso'⟩
 ·rintro ρ M' ⟨q,us,y1,y2,y3,rfl,le,hU,hT,lt,hI⟩
  refine ⟨trivial,?_⟩
  walk_at "rd"
  exact aQ.mk ⟨_,Le.refl _,h q us M' le hU hT lt hI⟩
theorem tL (T:Txt K mg t):Binds K t.nT ["t"] []:=T.mY.binds fun _ _ _ _ _ _ us hl=>match us,hl with | [_],_=>rfl
def Cg:pB:=fun ds M Q=> ∃ a b c:Pl,ds= [tD [a,b,c]]∧∀ p,M p=none→Q (.ref p) (aC M p (.lst ([[a,b,c],[b,c,a],[c,a,b]].map tD)))
theorem tM (T:Txt K mg t):cg P w K mg base fE 1 t.qz t.nT ["t"] (pP K Cg):=by
 refine u9 T.mY Ae (fun ds M Q h=>by (first | (obtain ⟨_,rfl,_⟩:=h;rfl) | (obtain ⟨_,_,rfl,_⟩:=h;rfl) | (obtain ⟨_,_,_,rfl,_⟩:=h;rfl) | (obtain ⟨_,_,_,_,rfl,_⟩:=h;rfl) | (obtain ⟨_,_,_,_,_,rfl,_⟩:=h;rfl) | (obtain ⟨_,_,_,_,_,_,rfl,_⟩:=h;rfl) | (obtain ⟨_,_,_,_,_,_,_,rfl,_⟩:=h;rfl))) (fun cdv A outer s H hr=>?_)
 have hu:=hr.units
 refine ⟨_,(aB (aD (cW (aa (cE (aa (aE (af 0) ah) (aa (aE (af 0) ah) (aa (aE (af 0) ah) aj)))) (aa (cE (aa (aE (af 0) ah) (aa (aE (af 0) ah) (aa (aE (af 0) ah) aj)))) (aa (cE (aa (aE (af 0) ah) (aa (aE (af 0) ah) (aa (aE (af 0) ah) aj)))) aj)))))),fun ds M Q h=>?_⟩
 obtain ⟨a,b,c,rfl,h⟩:=h
 walk_at "rd"
 intro p hp
 exact aQ.mk ⟨_,Le.refl _,h p hp⟩
theorem m9 (T:Txt K mg t):Binds K t.dY ["cover"] []:=T.eW.binds fun _ _ _ _ _ _ us hl=>match us,hl with | [_],_=>rfl
def nZ:pB:=fun ds M Q=> ∃ l:Addr,ds= [.ref l]∧∃ ts:List (List Pl),M l=some (.lst (ts.map tD))∧(∀ t∈ts,Tr t)∧ts.length≤200∧∀ p,M p=none→Q (.ref p) (aC M p (.lst ((cD ts).map tD)))
theorem ng (T:Txt K mg t):cg P w K mg base fE 2 t.eU t.dY ["cover"] (pP K nZ):=by
 refine u9 T.eW er (fun ds M Q h=>by (first | (obtain ⟨_,rfl,_⟩:=h;rfl) | (obtain ⟨_,_,rfl,_⟩:=h;rfl) | (obtain ⟨_,_,_,rfl,_⟩:=h;rfl) | (obtain ⟨_,_,_,_,rfl,_⟩:=h;rfl) | (obtain ⟨_,_,_,_,_,rfl,_⟩:=h;rfl) | (obtain ⟨_,_,_,_,_,_,rfl,_⟩:=h;rfl) | (obtain ⟨_,_,_,_,_,_,_,rfl,_⟩:=h;rfl))) (fun cdv A outer s H hr=>?_)
 have hu:=hr.units
 refine ⟨_,(au (aS (i:=1) er.nd rfl (Or.inl rfl) (cW aj))
  (au (tY PassesOwn.never rfl (af 0) (dJ (i:=2) er.nd rfl (Or.inl rfl)) (aB (nH (Em (af 1) (lR (k8 (ys:=[]) (fs:=[]) rfl (by show bJ (av cF) ["cover","ways","t"] _ _ _ _=true;decide +kernel) (bW (tM T) (hr.mono (by decide)) (by rfl) T.v8 T.mY.kp (tL T) (aa (af 2) aj)) (fun cl C s0 H0 ex=>jX) (fun cl C s0 H0 ex=>(cE (aa (aE (af 0) ah) (aa (aE (af 0) ah) aj)))))) (vq PySem.F.plainAttrs_list PySem.F.slot_list_extend PySem.F.type_list_extend rZ (cN.dn (af 1)) (kN (cN.dn (lR (k8 (ys:=[]) (fs:=[]) rfl (by show bJ (av cF) ["cover","ways","t"] _ _ _ _=true;decide +kernel) (bW (tM T) (hr.mono (by decide)) (by rfl) T.v8 T.mY.kp (tL T) (aa (af 2) aj)) (fun cl C s0 H0 ex=>jX) (fun cl C s0 H0 ex=>(cE (aa (aE (af 0) ah) (aa (aE (af 0) ah) aj))))))) nu))))))
  (aB (aD (af 1))))),fun ds M Q h=>?_⟩
 obtain ⟨l,rfl,ts,hM,hts,Qq,h⟩:=h
 have sl:(1000:Nat) < sizeLine:=by decide
 walk_at "rd"
 intro p hp
 have OR:l≠p:=fun z=>by rw [← z,hM] at hp;cases hp
 walk_at "rd"
 refine ⟨l,_,rfl,az hM hp,?_⟩
 refine bu (fun i ρ M'=>(∃ y:Option L3.D,ρ= [some (.ref l),some (.ref p),y])∧M' l=some (.lst (ts.map tD))∧M' p=some (.lst ((cD (ts.take i)).map tD))∧Le M M') _ ?_ ?_ ⟨⟨_,rfl⟩,az hM hp,ai,Le.new hp⟩
 ·rintro i x ρ M' N hx ⟨⟨y,rfl⟩,hM,hP,le⟩ hN
  obtain ⟨t,ht,rfl⟩:=ic hx
  obtain ⟨a,b,c,rfl,oa,ob,oc⟩:=hts t (List.mem_of_getElem? ht)
  refine ⟨hM,?_⟩
  walk_at "rd"
  refine ⟨⟨p,_,rfl,hP⟩,?_⟩
  refine ⟨_,rfl,?_⟩
  refine ⟨a,b,c,rfl,fun q hq=>?_⟩
  have hM:=az (u:=MO.lst ([[a,b,c],[b,c,a],[c,a,b]].map tD)) hM hq
  have hP:=az (u:=MO.lst ([[a,b,c],[b,c,a],[c,a,b]].map tD)) hP hq
  have le:=le.trans (Le.new (o:=MO.lst ([[a,b,c],[b,c,a],[c,a,b]].map tD)) hq)
  have hQ:aC M' q (.lst ([[a,b,c],[b,c,a],[c,a,b]].map tD)) q=some (.lst ([[a,b,c],[b,c,a],[c,a,b]].map tD)):=ai
  generalize aC M' q (.lst ([[a,b,c],[b,c,a],[c,a,b]].map tD))=M2 at hM hP hQ le ⊢
  refine ⟨q,_,rfl,hQ,by show 3 < sizeLine;omega,aQ.mk (bM (fun j acc M4=>M4=M2∧acc=(([[a,b],[b,c],[c,a]].take j)).map tD) _ ?_ ?_ ⟨rfl,rfl⟩)⟩
  ·rintro j d acc M4 N2 gj ⟨rfl,rfl⟩ jG
   obtain ⟨u,yY,rfl⟩:=ic gj
   have hj:j < 3:=(List.getElem?_eq_some_iff.mp yY).1
   have hj:j=0∨j=1∨j=2:=by omega
   refine ⟨hQ,?_⟩
   rcases hj with rfl | rfl | rfl
   ·cases yY
    walk_at "rd"
    exact jG _ _ ⟨rfl,rfl⟩
   ·cases yY
    walk_at "rd"
    exact jG _ _ ⟨rfl,rfl⟩
   ·cases yY
    walk_at "rd"
    exact jG _ _ ⟨rfl,rfl⟩
  ·rintro acc M4 ⟨rfl,hacc⟩
   have hacc:acc= [[a,b],[b,c],[c,a]].map tD:=hacc
   subst hacc
   refine ⟨hQ,fun u yY=>?_⟩
   have ld:=vS (ts.take i)
   rw [List.length_take] at ld
   have Qt:u≠p:=fun z=>by rw [z,hP] at yY;cases yY
   refine ⟨p,u,_,_,rfl,rfl,az hP yY,ai,by rw [List.length_map];show _+3≤sizeLine;omega,?_⟩
   refine hN _ _ ⟨⟨_,rfl⟩,?_,?_,fun x o e=>?_⟩
   ·rw [bC OR]
    exact az hM yY
   ·rw [ai,zR ht,List.map_append]
    rfl
   ·rw [bC (fun z=>by rw [z,hp] at e;cases e)]
    exact az (le _ _ e) yY
 ·rintro ρ M' ⟨⟨y,rfl⟩,hM,hP,le⟩
  refine ⟨hM,?_⟩
  walk_at "rd"
  rw [List.length_map,List.take_length] at hP
  refine aQ.mk ⟨aC M p (.lst ((cD ts).map tD)),fun b o e=>?_,h p hp⟩
  by_cases hb:b=p
  ·subst hb
   rw [ai] at e
   rw [hP]
   exact e
  ·rw [bC hb] at e
   exact le _ _ e
theorem yZ (T:Txt K mg t):Binds K t.uw ["number"] []:=T.uG.binds fun _ _ _ _ _ _ us hl=>match us,hl with | [_],_=>rfl
def Gz:sA:=fun ds Q=> ∃ i:Int,ds= [.int i]∧Q (.int i.sign)
theorem y9 (T:Txt K mg t):cg P w K mg base fE 1 t.xJ t.uw ["number"] (qW K Gz):=by
 refine wG T.uG DQ (fun ds Q h=>by (first | (obtain ⟨_,rfl,_⟩:=h;rfl) | (obtain ⟨_,_,rfl,_⟩:=h;rfl) | (obtain ⟨_,_,_,rfl,_⟩:=h;rfl) | (obtain ⟨_,_,_,_,rfl,_⟩:=h;rfl) | (obtain ⟨_,_,_,_,_,rfl,_⟩:=h;rfl) | (obtain ⟨_,_,_,_,_,_,rfl,_⟩:=h;rfl) | (obtain ⟨_,_,_,_,_,_,_,rfl,_⟩:=h;rfl))) (fun cdv A outer s H hr=>?_)
 have hu:=hr.units
 refine ⟨_,(au (bX (aI AS (af 0) ah (aA _)) (aB (aD ah)) aU)
  (au (bX (aI (oj hu) (af 0) ah (aA _)) (aB (aD (iM ah))) aU)
  (aB (aD ah)))),fun ds Q h=>?_⟩
 obtain ⟨i,rfl,h⟩:=h
 walk_at "rd"
 refine bD (fun c=>?_) (fun c=>?_)
 ·have c:0 < i:=of_decide_eq_true c
  rw [Int.sign_eq_one_of_pos c] at h
  exact h
 ·have c:¬ 0 < i:=fun z=>c (decide_eq_true z)
  walk_at "rd"
  refine bD (fun e=>?_) (fun e=>?_)
  ·have e:i < 0:=of_decide_eq_true e
   rw [Int.sign_eq_neg_one_of_neg e] at h
   walk_at "rd"
   exact h
  ·have e:¬ i < 0:=fun z=>e (decide_eq_true z)
   have z:i=0:=by omega
   subst z
   exact h
theorem xS (T:Txt K mg t):Binds K t.l8 ["a","b","X"] []:=T.nX.binds fun _ _ _ _ _ _ us hl=>match us,hl with | [_,_,_],_=>rfl
def Ag:sA:=fun ds Q=> ∃ a b f g:Pl,ds= [a.d,b.d,.tup [f.d,g.d]]∧a.Ok 140∧b.Ok 140∧f.Ok 1100∧g.Ok 1100∧Q (.int (i9 a b f g).sign)
theorem xT (T:Txt K mg t):cg P w K mg base fE 2 t.nU t.l8 ["a","b","X"] (qW K Ag):=by
 refine wG T.nX gP (fun ds Q h=>by (first | (obtain ⟨_,rfl,_⟩:=h;rfl) | (obtain ⟨_,_,rfl,_⟩:=h;rfl) | (obtain ⟨_,_,_,rfl,_⟩:=h;rfl) | (obtain ⟨_,_,_,_,rfl,_⟩:=h;rfl) | (obtain ⟨_,_,_,_,_,rfl,_⟩:=h;rfl) | (obtain ⟨_,_,_,_,_,_,rfl,_⟩:=h;rfl) | (obtain ⟨_,_,_,_,_,_,_,rfl,_⟩:=h;rfl))) (fun cdv A outer s H hr=>?_)
 have hu:=hr.units
 refine ⟨_,(au (aS (i:=3) gP.nd rfl (Or.inl rfl) (aE (aE (af 2) ah) ah))
  (au (aS (i:=4) gP.nd rfl (Or.inl rfl) (aE (aE (af 2) ah) ah))
  (au (aS (i:=5) gP.nd rfl (Or.inl rfl) (ak cR (ak bT (aE (aE (af 2) ah) ah) (ak cR (aE (af 0) ah) (af 3))) (af 4)))
  (au (aS (i:=6) gP.nd rfl (Or.inl rfl) (ak cR (ak bT (aE (aE (af 2) ah) ah) (ak cR (aE (af 0) ah) (af 4))) (af 3)))
  (aB (aD (aL (y9 T) (hr.mono (by decide)) (by rfl) T.Cc T.uG.kp (yZ T) (aa (ak bT (ak cR (ak bT (aE (af 1) ah) (aE (af 0) ah)) (af 6)) (ak cR (ak bT (aE (af 1) ah) (aE (af 0) ah)) (af 5))) aj)))))))),fun ds Q h=>?_⟩
 obtain ⟨a,b,f,g,rfl,⟨a1,a2⟩,⟨b1,b2⟩,⟨f1,f2⟩,⟨g1,g2⟩,h⟩:=h
 unfold i9 at h
 walk_at "rd"
 exact h
theorem uT (T:Txt K mg t):Binds K t.jj ["t","X"] []:=T.ki.binds fun _ _ _ _ _ _ us hl=>match us,hl with | [_,_],_=>rfl
def hs (f g:Pl) (t:List Pl):Bool:=(dm t).all fun w=>decide (0≤i9 (oS w) (qp w) f g)
theorem tN (z:Int):(z.sign= -1)↔z < 0:=by
 rcases Int.lt_trichotomy z 0 with k | k | k
 ·rw [Int.sign_eq_neg_one_of_neg k];omega
 ·subst k;decide
 ·rw [Int.sign_eq_one_of_pos k];omega
def wB:pB:=fun ds M Q=> ∃ (t:List Pl) (f g:Pl),ds= [tD t,.tup [f.d,g.d]]∧Tr t∧f.Ok 1100∧g.Ok 1100∧Q (.bl (hs f g t)) M
theorem uU (T:Txt K mg t):cg P w K mg base fE 3 t.kg t.jj ["t","X"] (pP K wB):=by
 refine u9 T.ki m6 (fun ds M Q h=>by (first | (obtain ⟨_,rfl,_⟩:=h;rfl) | (obtain ⟨_,_,rfl,_⟩:=h;rfl) | (obtain ⟨_,_,_,rfl,_⟩:=h;rfl) | (obtain ⟨_,_,_,_,rfl,_⟩:=h;rfl) | (obtain ⟨_,_,_,_,_,rfl,_⟩:=h;rfl) | (obtain ⟨_,_,_,_,_,_,rfl,_⟩:=h;rfl) | (obtain ⟨_,_,_,_,_,_,_,rfl,_⟩:=h;rfl))) (fun cdv A outer s H hr=>?_)
 have hu:=hr.units
 refine ⟨_,(au (tY PassesOwn.never rfl (bW (ng T) (hr.mono (by decide)) (by rfl) T.nW T.eW.kp (m9 T) (aa (cW (aa (af 0) aj)) aj)) (dJ (i:=2) m6.nd rfl (Or.inl rfl)) (aB (bX (aI (cV hu) (aL (xT T) (hr.mono (by decide)) (by rfl) T.Ab T.nX.kp (xS T) (aa (aE (af 2) ah) (aa (aE (af 2) ah) (aa (af 1) aj)))) (iM ah) (aA _)) (aB (aD g9)) aU)))
  (aB (aD g9))),fun ds M Q h=>?_⟩
 obtain ⟨t,f,g,rfl,ht,hf,hg,h⟩:=h
 have sl:(1000:Nat) < sizeLine:=by decide
 walk_at "rd"
 intro p hp
 have hP:aC M p (.lst ([t].map tD)) p=some (.lst ([t].map tD)):=ai
 have le:=Le.new (o:=MO.lst ([t].map tD)) hp
 show _
 have eL:MO.lst [tD t]=MO.lst ([t].map tD):=rfl
 rw [eL]
 generalize aC M p (.lst ([t].map tD))=M1 at hP le ⊢
 walk_at "rd"
 refine ⟨[t],hP,fun u hu=>by rw [List.mem_singleton.mp hu];exact ht,by simp,fun q hq=>?_⟩
 have ed:cD [t]=dm t:=by simp [cD]
 rw [ed]
 have hQ:aC M1 q (.lst ((dm t).map tD)) q=some (.lst ((dm t).map tD)):=ai
 have le:=le.trans (Le.new (o:=MO.lst ((dm t).map tD)) hq)
 generalize aC M1 q (.lst ((dm t).map tD))=M2 at hQ le ⊢
 refine ⟨q,_,rfl,hQ,?_⟩
 refine bu (fun i ρ M'=>M'=M2∧(∃ y:Option L3.D,ρ= [some (tD t),some (.tup [f.d,g.d]),y])∧∀ w∈(dm t).take i,0≤i9 (oS w) (qp w) f g) _ ?_ ?_ ⟨rfl,⟨_,rfl⟩,fun w hw=>by cases hw⟩
 ·rintro i x ρ M' N hx ⟨rfl,⟨y,rfl⟩,hall⟩ hN
  obtain ⟨w,hw,rfl⟩:=ic hx
  have mw:=List.mem_of_getElem? hw
  obtain ⟨a,b,c,rfl,oa,ob,oc⟩:=ht
  have cs:∃ u v:Pl,w= [u,v]∧u.Ok 140∧v.Ok 140:=by
   have mw:w= [a,b]∨w= [b,c]∨w= [c,a]:=by simpa [dm] using mw
   rcases mw with rfl | rfl | rfl
   ·exact ⟨a,b,rfl,oa,ob⟩
   ·exact ⟨b,c,rfl,ob,oc⟩
   ·exact ⟨c,a,rfl,oc,oa⟩
  obtain ⟨u,v,rfl,ou,ov⟩:=cs
  refine ⟨hQ,?_⟩
  walk_at "rd"
  refine ⟨ou,ov,hf,hg,?_⟩
  walk_at "rd"
  rw [bU]
  refine bD (fun k=>?_) (fun k=>?_)
  ·have k:(i9 u v f g).sign= -1:=eq_of_beq k
   have k:=(tN _).mp k
   walk_at "rd"
   have e:hs f g [a,b,c]=false:=by
    unfold hs
    rw [List.all_eq_false]
    exact ⟨[u,v],mw,by rw [decide_eq_true_eq];show ¬ 0≤i9 u v f g;omega⟩
   rw [e] at h
   exact aQ.mk ⟨_,le,h⟩
  ·have k:¬ (i9 u v f g).sign= -1:=fun z=>k (by rw [z];rfl)
   refine hN _ _ ⟨rfl,⟨_,rfl⟩,fun w MT=>?_⟩
   rw [List.take_succ,hw] at MT
   rcases List.mem_append.mp MT with z | z
   ·exact hall w z
   ·rw [List.mem_singleton.mp z]
    show 0≤i9 u v f g
    have k2:¬ i9 u v f g < 0:=fun z=>k ((tN _).mpr z)
    omega
 ·rintro ρ M' ⟨rfl,⟨y,rfl⟩,hall⟩
  refine ⟨hQ,?_⟩
  rw [List.length_map,List.take_length] at hall
  walk_at "rd"
  have e:hs f g t=true:=by
   unfold hs
   rw [List.all_eq_true]
   exact fun w hw=>decide_eq_true (hall w hw)
  rw [e] at h
  exact aQ.mk ⟨_,le,h⟩
theorem Ex (T:Txt K mg t):Binds K t.Ca ["cover","X"] []:=T.DN.binds fun _ _ _ _ _ _ us hl=>match us,hl with | [_,_],_=>rfl
def LS:pB:=fun ds M Q=> ∃ (l:Addr) (f g:Pl),ds= [.ref l,.tup [f.d,g.d]]∧∃ ts:List (List Pl),M l=some (.lst (ts.map tD))∧(∀ t∈ts,Tr t)∧ts.length≤20∧f.Ok 1100∧g.Ok 1100∧∀ (p:Addr) (rs:List (List Pl)),M p=none→rs.Perm (ts.filter (hs f g))→rs.Pairwise (fun p q=>dR q p=false)→Q (.ref p) (aC M p (.lst (rs.map tD)))
theorem Ey (T:Txt K mg t):cg P w K mg base fE 4 t.Gx t.Ca ["cover","X"] (pP K LS):=by
 refine u9 T.DN Jd (fun ds M Q h=>by (first | (obtain ⟨_,rfl,_⟩:=h;rfl) | (obtain ⟨_,_,rfl,_⟩:=h;rfl) | (obtain ⟨_,_,_,rfl,_⟩:=h;rfl) | (obtain ⟨_,_,_,_,rfl,_⟩:=h;rfl) | (obtain ⟨_,_,_,_,_,rfl,_⟩:=h;rfl) | (obtain ⟨_,_,_,_,_,_,rfl,_⟩:=h;rfl) | (obtain ⟨_,_,_,_,_,_,_,rfl,_⟩:=h;rfl))) (fun cdv A outer s H hr=>?_)
 have hu:=hr.units
 refine ⟨_,(aB (aD (aF (nJ (n:=3) (.inr rfl) hu) (by rfl) T.gp c7 (aa (lR (k8 (ys:=["X"]) (fs:=[1]) rfl (by show bJ (av Cw) ["cover","X"] _ _ _ _=true;decide +kernel) (af 0) (fun cl C s0 H0 ex=>sM (gw (bW (uU T) (hr.mono (by decide)) (by rfl) T.v9 T.ki.kp (uT T) (aa (af 0) (aa (af 1) aj))))) (fun cl C s0 H0 ex=>(af 0)))) aj)))),fun ds M Q h=>?_⟩
 obtain ⟨l,f,g,rfl,ts,hM,hT,lt,hf,hg,h⟩:=h
 have sl:(1000:Nat) < sizeLine:=by decide
 walk_at "rd"
 refine ⟨l,_,rfl,hM,by rw [List.length_map];omega,aQ.mk (bM (fun j acc M5=>M5=M∧acc=((ts.take j).filter (hs f g)).map tD) _ ?_ ?_ ⟨rfl,rfl⟩)⟩
 ·rintro j x acc M5 N2 gj ⟨rfl,rfl⟩ jG
  obtain ⟨t,ht,rfl⟩:=ic gj
  refine ⟨hM,?_⟩
  walk_at "rd"
  refine ⟨hT t (List.mem_of_getElem? ht),hf,hg,?_⟩
  walk_at "rd"
  cases e:hs f g t with
  | true=>
    walk_at "rd"
    refine jG _ _ ⟨rfl,?_⟩
    rw [bZ ht,if_pos e,List.map_append]
    rfl
  | false=>
    refine jG _ _ ⟨rfl,?_⟩
    rw [bZ ht,if_neg (by rw [e];simp),List.append_nil]
 ·rintro acc M5 ⟨rfl,rfl⟩
  refine ⟨hM,fun p hp=>?_⟩
  rw [List.length_map,List.take_length]
  have lf:=List.length_filter_le (hs f g) ts
  walk_at "rd"
  refine ⟨p,_,rfl,ai,fun t ht=>?_,by omega,fun q rs hq cC hso=>?_⟩
  ·obtain ⟨a,b,c,rfl,_⟩:=hT t (List.mem_filter.mp ht).1
   rfl
  ·exact aQ.mk ⟨_,(Le.new hp).put,h q rs ((Le.new hp).free hq) cC hso⟩
theorem jB (T:Txt K mg t):Binds K t.fJ ["_law_top","_law_bottom"] []:=T.dZ.binds fun _ _ _ _ _ _ us hl=>match us,hl with | [_,_],_=>rfl
def qJ:sA:=fun ds Q=> ∃ a b:Int,ds= [.int a,.int b]∧Q (.int (Int.gcd a b:Nat))
theorem jC (T:Txt K mg t):cg P w K mg base fE 1 t.gI t.fJ ["_law_top","_law_bottom"] (qW K qJ):=by
 refine wG T.dZ fO (fun ds Q h=>by (first | (obtain ⟨_,rfl,_⟩:=h;rfl) | (obtain ⟨_,_,rfl,_⟩:=h;rfl) | (obtain ⟨_,_,_,rfl,_⟩:=h;rfl) | (obtain ⟨_,_,_,_,rfl,_⟩:=h;rfl) | (obtain ⟨_,_,_,_,_,rfl,_⟩:=h;rfl) | (obtain ⟨_,_,_,_,_,_,rfl,_⟩:=h;rfl) | (obtain ⟨_,_,_,_,_,_,_,rfl,_⟩:=h;rfl))) (fun cdv A outer s H hr=>?_)
 have hu:=hr.units
 refine ⟨_,(au (aS (i:=2) fO.nd rfl (Or.inl rfl) (cW (aa (aF Eb (by rfl) T.Cd sD (aa (af 0) aj)) (aa (aF Eb (by rfl) T.Cd sD (aa (af 1) aj)) aj))))
  (au (yt PassesOwn.never (aI AS (aE (af 2) ah) ah (aA _)) (aB (aS (i:=2) fO.nd rfl (Or.inl rfl) (cW (aa (aE (af 2) ah) (aa (ak aT (aE (af 2) ah) (aE (af 2) ah)) aj))))))
  (aB (aD (aE (af 2) ah))))),fun ds Q h=>?_⟩
 obtain ⟨a,b,rfl,h⟩:=h
 walk_at "rd"
 intro l0 OS
 walk_at "rd"
 refine ⟨fun m ρ M=> ∃ (x:Nat) (l:Addr),ρ= [some (.int a),some (.int b),some (.ref l)]∧M l=some (.lst [.int (x:Int),.int (m:Int)])∧Nat.gcd x m=Int.gcd a b,⟨b.natAbs,a.natAbs,l0,rfl,ai,rfl⟩,?_⟩
 rintro m ρ M ⟨x,l,rfl,hM,hg⟩
 walk_at "rd"
 refine ⟨_,_,_,.inr (.inr ⟨l,rfl,hM⟩),rfl,bI (j:=1) rfl,?_⟩
 walk_at "rd"
 refine bD (fun c=>?_) (fun c=>?_)
 ·have c:0 < (m:Int):=of_decide_eq_true c
  walk_at "rd"
  refine ⟨_,_,_,.inr (.inr ⟨l,rfl,hM⟩),rfl,bI (j:=1) rfl,?_⟩
  walk_at "rd"
  refine ⟨_,_,_,.inr (.inr ⟨l,rfl,hM⟩),rfl,bI (j:=0) rfl,?_⟩
  walk_at "rd"
  refine ⟨_,_,_,.inr (.inr ⟨l,rfl,hM⟩),rfl,bI (j:=1) rfl,?_⟩
  walk_at "rd"
  intro p hp
  walk_at "rd"
  have e:(x:Int) % (m:Int)=((x % m:Nat):Int):=by omega
  refine aQ.mk ⟨x % m,Nat.mod_lt _ (by omega),m,p,rfl,by rw [← e];exact ai,?_⟩
  rw [← hg,Nat.gcd_comm m (x % m)]
  exact (Nat.gcd_rec m x).symm.trans (Nat.gcd_comm m x)
 ·have c:¬ 0 < (m:Int):=fun z=>c (decide_eq_true z)
  obtain rfl:m=0:=by omega
  walk_at "rd"
  refine ⟨_,_,_,.inr (.inr ⟨l,rfl,hM⟩),rfl,bI (j:=0) rfl,?_⟩
  rw [Nat.gcd_zero_right] at hg
  rw [hg]
  exact h
theorem rN (T:Txt K mg t):Binds K t.iD ["_law_x","_law_y","_law_w"] []:=T.ju.binds fun _ _ _ _ _ _ us hl=>match us,hl with | [_,_,_],_=>rfl
theorem wC {x w:Int} (h:0 < (Int.gcd x w:Int)):(⟨x.fdiv (Int.gcd x w:Int),w.fdiv (Int.gcd x w:Int)⟩:Pl)=low x w:=by
 unfold low
 rw [Int.fdiv_eq_ediv_of_nonneg _ (by omega),Int.fdiv_eq_ediv_of_nonneg _ (by omega)]
def uV:sA:=fun ds Q=> ∃ x y w:Int,ds= [.int x,.int y,.int w]∧0 < w∧Sm 1100 w∧Q (.tup [(low x w).d,(low y w).d])
theorem rO (T:Txt K mg t):cg P w K mg base fE 2 t.jk t.iD ["_law_x","_law_y","_law_w"] (qW K uV):=by
 refine wG T.ju iK (fun ds Q h=>by (first | (obtain ⟨_,rfl,_⟩:=h;rfl) | (obtain ⟨_,_,rfl,_⟩:=h;rfl) | (obtain ⟨_,_,_,rfl,_⟩:=h;rfl) | (obtain ⟨_,_,_,_,rfl,_⟩:=h;rfl) | (obtain ⟨_,_,_,_,_,rfl,_⟩:=h;rfl) | (obtain ⟨_,_,_,_,_,_,rfl,_⟩:=h;rfl) | (obtain ⟨_,_,_,_,_,_,_,rfl,_⟩:=h;rfl))) (fun cdv A outer s H hr=>?_)
 have hu:=hr.units
 refine ⟨_,(au (aS (i:=3) iK.nd rfl (Or.inl rfl) (aL (jC T) (hr.mono (by decide)) (by rfl) T.kj T.dZ.kp (jB T) (aa (af 0) (aa (af 2) aj))))
  (au (aS (i:=4) iK.nd rfl (Or.inl rfl) (aL (jC T) (hr.mono (by decide)) (by rfl) T.kj T.dZ.kp (jB T) (aa (af 1) (aa (af 2) aj))))
  (aB (aD (cE (aa (cE (aa (ak pq (af 0) (af 3)) (aa (ak pq (af 2) (af 3)) aj))) (aa (cE (aa (ak pq (af 1) (af 4)) (aa (ak pq (af 2) (af 4)) aj))) aj))))))),fun ds Q h=>?_⟩
 obtain ⟨x,y,w,rfl,hw,sw,h⟩:=h
 have g1:0 < Int.gcd x w:=Int.gcd_pos_of_ne_zero_right x (show w≠0 by omega)
 have g2:0 < Int.gcd y w:=Int.gcd_pos_of_ne_zero_right y (show w≠0 by omega)
 have k1:(Int.gcd x w:Nat)≤w.natAbs:=Nat.le_of_dvd (by omega) (Int.gcd_dvd_natAbs_right x w)
 have k2:(Int.gcd y w:Nat)≤w.natAbs:=Nat.le_of_dvd (by omega) (Int.gcd_dvd_natAbs_right y w)
 have d1:∀ i:Int,wX i ((Int.gcd x w:Nat):Int):=fun i=>⟨by omega,1100,sw.pR (by omega),by omega⟩
 have d2:∀ i:Int,wX i ((Int.gcd y w:Nat):Int):=fun i=>⟨by omega,1100,sw.pR (by omega),by omega⟩
 rw [← wC (by omega),← wC (by omega)] at h
 walk_at "rd"
 refine ⟨d1 _,?_⟩
 walk_at "rd"
 refine ⟨d1 _,?_⟩
 walk_at "rd"
 refine ⟨d2 _,?_⟩
 walk_at "rd"
 refine ⟨d2 _,?_⟩
 walk_at "rd"
 exact h
theorem qK (T:Txt K mg t):Binds K t.gJ ["_law_script","_law_places_here"] []:=T.iI.binds fun _ _ _ _ _ _ us hl=>match us,hl with | [_,_],_=>rfl
/-- a point by LU of three places -/
structure MU (ps:List Pl) (out:Prop) (f g:Pl):Prop where
 fy:0 < f.y
 gy:0 < g.y
 fo:f.Ok 1100
 go:g.Ok 1100
 fg:Int.gcd f.x f.y=1
 gg:Int.gcd g.x g.y=1
 OT:¬ out→∃ p1∈ps,∃ p2∈ps,∃ p3∈ps,∃ s1 s2 s3:Int,0≤s1∧0≤s2∧0≤s3∧0 < s1+s2+s3∧f.x*(s1+s2+s3)=(s1*p1.x+s2*p2.x+s3*p3.x)*f.y∧g.x*(s1+s2+s3)=(s1*p1.y+s2*p2.y+s3*p3.y)*g.y
theorem Ah {bd:List Pl} {i:Nat} (h:i < bd.length):L3.vc bd i∈bd:=by
 unfold L3.vc
 rw [List.getD_eq_getElem?_getD,List.getElem?_eq_getElem h]
 exact List.getElem_mem h
theorem Ci {bd:List Pl} {i:Nat} (h:i < bd.length):mq (bd.map Pl.d) (i:Int)=some (L3.vc bd i).d:=by
 refine bI ?_
 rw [List.getElem?_map,List.getElem?_eq_getElem h]
 unfold L3.vc
 rw [List.getD_eq_getElem?_getD,List.getElem?_eq_getElem h]
 rfl
def JG (ns:List Int) (l so:Addr) (M5:Mp) (p1 p2 p3:Pl) (R:Int→Int→Int→Prop) (ρ:En) (M':Mp):Prop:= ∃ (sh:Addr) (s1 s2 s3:Int),ρ= [some (.tV (ns.map L3.D.int)),some (.ref l),some (.ref so),some (.ref sh),none,none]∧Le M5 M'∧M' so=some (.lst ([p1,p2,p3].map Pl.d))∧M' sh=some (.lst ([s1,s2,s3].map L3.D.int))∧L3.Sm 840 s1∧L3.Sm 840 s2∧L3.Sm 840 s3∧R s1 s2 s3
def rP:pB:=fun ds M Q=> ∃ (ns:List Int) (l:Addr),ds= [.tV (ns.map L3.D.int),.ref l]∧(∀ z∈ns,Att.yy z)∧ns.length≤63∧∃ ps:List Pl,M l=some (.lst (ps.map Pl.d))∧ps≠[]∧ps.length≤20∧(∀ q∈ps,q.Ok 136)∧∀ f g:Pl,MU ps (qF ns 26 / 2 % 4=3) f g→Q (.tup [f.d,g.d]) M
theorem qL (T:Txt K mg t):cg P w K mg base fE 3 t.iE t.gJ ["_law_script","_law_places_here"] (pP K rP):=by
 refine u9 T.iI bH (fun ds M Q h=>by (first | (obtain ⟨_,rfl,_⟩:=h;rfl) | (obtain ⟨_,_,rfl,_⟩:=h;rfl) | (obtain ⟨_,_,_,rfl,_⟩:=h;rfl) | (obtain ⟨_,_,_,_,rfl,_⟩:=h;rfl) | (obtain ⟨_,_,_,_,_,rfl,_⟩:=h;rfl) | (obtain ⟨_,_,_,_,_,_,rfl,_⟩:=h;rfl) | (obtain ⟨_,_,_,_,_,_,_,rfl,_⟩:=h;rfl))) (fun cdv A outer s H hr=>?_)
 have hu:=hr.units
 refine ⟨_,(au (aS (i:=2) bH.nd rfl (Or.inr rfl) (lR (p9 (ys:=["_law_places_here","_law_script"]) (fs:=[1,0]) rfl (by show bJ (av bO) ["_law_script","_law_places_here","_law_some","_law_shares","_law_x","_law_y"] _ _ _ _=true;decide +kernel) (by rfl) T.bY (aa ah aj) (fun cl C s0 H0 ex=>jX) (fun cl C s0 H0 ex=>(aE (af 1) (ak aT (aL (br T) (hr.mono (by decide)) (by rfl) T.bB T.bf.kp (bq T) (aa (af 2) (aa (ak dF ah (af 0)) aj))) (aF cJ (by rfl) T.bR aN (aa (af 1) aj))))))))
  (au (aS (i:=3) bH.nd rfl (Or.inr rfl) (lR (p9 (ys:=["_law_script"]) (fs:=[0]) rfl (by show bJ (av bO) ["_law_script","_law_places_here","_law_some","_law_shares","_law_x","_law_y"] _ _ _ _=true;decide +kernel) (by rfl) T.bY (aa ah aj) (fun cl C s0 H0 ex=>jX) (fun cl C s0 H0 ex=>(ak aT (aL (br T) (hr.mono (by decide)) (by rfl) T.bB T.bf.kp (bq T) (aa (af 1) (aa (ak dF ah (af 0)) aj))) ah)))))
  (au (vD (aI (cV hu) (ak aT (aL (br T) (hr.mono (by decide)) (by rfl) T.bB T.bf.kp (bq T) (aa (af 0) (aa ah aj))) ah) ah (aA _)) (aB (aS (i:=3) bH.nd rfl (Or.inr rfl) (lR (p9 (ys:=["_law_script"]) (fs:=[0]) rfl (by show bJ (av bO) ["_law_script","_law_places_here","_law_some","_law_shares","_law_x","_law_y"] _ _ _ _=true;decide +kernel) (by rfl) T.bY (aa ah aj) (fun cl C s0 H0 ex=>jX) (fun cl C s0 H0 ex=>(ak aT (aL (br T) (hr.mono (by decide)) (by rfl) T.bB T.bf.kp (bq T) (aa (af 1) (aa (ak dF ah (af 0)) aj))) (ak dF (ak gA ah ah) ah))))))))
  (au (vD (aI (cV hu) (ak aT (ak cG (aL (br T) (hr.mono (by decide)) (by rfl) T.bB T.bf.kp (bq T) (aa (af 0) (aa ah aj))) ah) ah) ah (aA _)) (aB (aS (i:=3) bH.nd rfl (Or.inr rfl) (lR (p9 (ys:=["_law_script"]) (fs:=[0]) rfl (by show bJ (av bO) ["_law_script","_law_places_here","_law_some","_law_shares","_law_x","_law_y"] _ _ _ _=true;decide +kernel) (by rfl) T.bY (aa ah aj) (fun cl C s0 H0 ex=>jX) (fun cl C s0 H0 ex=>(ak aT (ak gA (ak aT (aL (br T) (hr.mono (by decide)) (by rfl) T.bB T.bf.kp (bq T) (aa (af 1) (aa (ak dF ah (af 0)) aj))) (ak gA ah ah)) ah) (ak dF (ak gA (ak gA ah ah) ah) ah))))))))
  (au (vD (aI (cV hu) (aF (yx rfl) (by rfl) T.uK kQ (aa (af 3) aj)) ah (aA _)) (aB (aS (i:=3) bH.nd rfl (Or.inr rfl) (cW (aa ah (aa ah (aa ah aj)))))))
  (au (vD (aI (cV hu) (ak aT (ak cG (aL (br T) (hr.mono (by decide)) (by rfl) T.bB T.bf.kp (bq T) (aa (af 0) (aa ah aj))) ah) ah) ah (aA _)) (aB (aS (i:=3) bH.nd rfl (Or.inr rfl) (cW (aa ah (aa (iM ah) (aa ah aj)))))))
  (au (aS (i:=4) bH.nd rfl (Or.inl rfl) (aF (yx rfl) (by rfl) T.uK kQ (aa (lR (p9 (ys:=["_law_shares","_law_some"]) (fs:=[3,2]) rfl (by show bJ (av bO) ["_law_script","_law_places_here","_law_some","_law_shares","_law_x","_law_y"] _ _ _ _=true;decide +kernel) (by rfl) T.bY (aa ah aj) (fun cl C s0 H0 ex=>jX) (fun cl C s0 H0 ex=>(ak cR (aE (af 1) (af 0)) (aE (aE (af 2) (af 0)) ah))))) aj)))
  (au (aS (i:=5) bH.nd rfl (Or.inl rfl) (aF (yx rfl) (by rfl) T.uK kQ (aa (lR (p9 (ys:=["_law_shares","_law_some"]) (fs:=[3,2]) rfl (by show bJ (av bO) ["_law_script","_law_places_here","_law_some","_law_shares","_law_x","_law_y"] _ _ _ _=true;decide +kernel) (by rfl) T.bY (aa ah aj) (fun cl C s0 H0 ex=>jX) (fun cl C s0 H0 ex=>(ak cR (aE (af 1) (af 0)) (aE (aE (af 2) (af 0)) ah))))) aj)))
  (aB (aD (aL (rO T) (hr.mono (by decide)) (by rfl) T.uH T.ju.kp (rN T) (aa (af 4) (aa (af 5) (aa (aF (yx rfl) (by rfl) T.uK kQ (aa (af 3) aj)) aj)))))))))))))),fun ds M Q h=>?_⟩
 obtain ⟨ns,l,rfl,hb,hlen,ps,hM,hne,Qu,ho,h⟩:=h
 have sl:(1000:Nat) < sizeLine:=by decide
 generalize h3:(3:Int)=n3
 walk_at "rd"
 refine ⟨by omega,by omega,by omega,aQ.mk (bM (fun j acc M5=>M5=M∧∃ qs:List Pl,qs.length=j∧(∀ q∈qs,q∈ps)∧acc=qs.map Pl.d) _ ?_ ?_ ⟨rfl,[],rfl,by simp,rfl⟩)⟩
 ·rintro j x acc M5 N2 gj ⟨rfl,qs,lq,hq,rfl⟩ jG
  obtain ⟨hj,rfl⟩:=bg gj
  have hj:j < 3:=by omega
  have lp:0 < ps.length:=List.length_pos_iff.mpr hne
  refine ⟨trivial,?_⟩
  walk_at "rd"
  refine ⟨hb,hlen,by dsimp only;omega,by dsimp only;omega,fun z _ _=>?_⟩
  walk_at "rd"
  refine ⟨_,_,rfl,.inr (.inr ⟨l,rfl,hM⟩),?_⟩
  rw [List.length_map]
  walk_at "rd"
  have j0:0≤z % (ps.length:Int):=Int.emod_nonneg _ (by omega)
  have j1:z % (ps.length:Int) < (ps.length:Int):=Int.emod_lt_of_pos _ (by omega)
  obtain ⟨m,hm⟩:∃ m:Nat,z % (ps.length:Int)=(m:Int):=⟨(z % (ps.length:Int)).toNat,by omega⟩
  have lm:m < ps.length:=by omega
  refine ⟨_,_,_,.inr (.inr ⟨l,rfl,hM⟩),rfl,(show mq (ps.map Pl.d) (z % (ps.length:Int))=some (vc ps m).d by rw [hm];exact Ci lm),?_⟩
  refine jG _ _ ⟨rfl,qs ++ [vc ps m],by rw [List.length_append,lq];rfl,fun q hq2=>?_,by rw [List.map_append];rfl⟩
  rcases List.mem_append.mp hq2 with y | y
  ·exact hq q y
  ·rw [List.mem_singleton.mp y];exact Ah lm
 rintro acc M5 ⟨rfl,qs,lq,hq,rfl⟩
 refine ⟨trivial,fun so hso=>?_⟩
 rw [List.length_map,List.length_range,← h3] at lq
 match qs,lq,hq with
 | [p1,p2,p3],_,hq=>
 have m1:=hq p1 (by simp)
 have m2:=hq p2 (by simp)
 have m3:=hq p3 (by simp)
 have le:=Le.new (o:=MO.lst ([p1,p2,p3].map Pl.d)) hso
 have hS:aC M5 so (.lst ([p1,p2,p3].map Pl.d)) so=some (.lst ([p1,p2,p3].map Pl.d)):=ai
 generalize aC M5 so (.lst ([p1,p2,p3].map Pl.d))=M1 at le hS ⊢
 walk_at "rd"
 refine ⟨by omega,by omega,by omega,aQ.mk (bM (fun j acc M7=>M7=M1∧∃ vs:List Int,vs.length=j∧(∀ v∈vs,0≤v∧L3.Sm 840 v)∧acc=vs.map L3.D.int) _ ?_ ?_ ⟨rfl,[],rfl,by simp,rfl⟩)⟩
 ·rintro j x acc M7 N2 gj ⟨rfl,vs,lv,hv,rfl⟩ jG
  obtain ⟨hj,rfl⟩:=bg gj
  have hj:j < 3:=by omega
  refine ⟨trivial,?_⟩
  walk_at "rd"
  refine ⟨hb,hlen,by dsimp only;omega,by dsimp only;omega,fun z _ _=>?_⟩
  walk_at "rd"
  refine jG _ _ ⟨rfl,vs ++ [z % n3],by rw [List.length_append,lv];rfl,fun v hv2=>?_,by rw [List.map_append];rfl⟩
  rcases List.mem_append.mp hv2 with y | y
  ·exact hv v y
  ·rw [List.mem_singleton.mp y]
   exact ⟨Int.emod_nonneg _ (by omega),by rw [← h3];walk_at "smle"⟩
 rintro acc M7 ⟨rfl,vs,lv,hv,rfl⟩
 refine ⟨trivial,fun sh hsh=>?_⟩
 rw [List.length_map,List.length_range,← h3] at lv
 match vs,lv,hv with
 | [s1,s2,s3],_,hv=>
 have v1:=hv s1 (by simp)
 have v2:=hv s2 (by simp)
 have v3:=hv s3 (by simp)
 refine ⟨JG ns l so M5 p1 p2 p3 (fun s1 s2 s3=>0≤s1∧0≤s2∧0≤s3),?_,?_⟩
 ·walk_at "rd"
  refine ⟨hb,hlen,by decide,by decide,fun z _ _=>?_⟩
  walk_at "rd"
  rw [bU]
  refine bD (fun _=>?_) (fun _=>?_)
  ·walk_at "rd"
   generalize MV:aC M7 sh (.lst ([s1,s2,s3].map L3.D.int))=MM
   have OU:Le M5 MM:=by rw [← MV];exact le.trans (Le.new hsh)
   have OV:MM so=some (.lst ([p1,p2,p3].map Pl.d)):=by rw [← MV];exact az hS hsh
   refine ⟨by omega,by omega,by omega,aQ.mk (bM (fun j acc M9=>M9=MM∧∃ vs:List Int,vs.length=j∧(∀ v∈vs,0≤v∧L3.Sm 840 v)∧acc=vs.map L3.D.int) _ ?_ ?_ ⟨rfl,[],rfl,by simp,rfl⟩)⟩
   ·rintro j x acc M9 N2 gj ⟨rfl,vs,lv,hv,rfl⟩ jG
    obtain ⟨hj,rfl⟩:=bg gj
    have hj:j < 3:=by omega
    refine ⟨trivial,?_⟩
    walk_at "rd"
    refine ⟨hb,hlen,by dsimp only;omega,by dsimp only;omega,fun z _ _=>?_⟩
    walk_at "rd"
    refine jG _ _ ⟨rfl,vs ++ [z % (10 ^ (9:Int).toNat+1)],by rw [List.length_append,lv];rfl,fun v hv2=>?_,by rw [List.map_append];rfl⟩
    rcases List.mem_append.mp hv2 with y | y
    ·exact hv v y
    ·rw [List.mem_singleton.mp y]
     exact ⟨Int.emod_nonneg _ (by decide +kernel),by walk_at "smle"⟩
   rintro acc M9 ⟨rfl,vs,lv,hv,rfl⟩
   refine ⟨trivial,fun LV Cj=>?_⟩
   rw [List.length_map,List.length_range,← h3] at lv
   match vs,lv,hv with
   | [s1,s2,s3],_,hv=>
   have v1:=hv s1 (by simp)
   have v2:=hv s2 (by simp)
   have v3:=hv s3 (by simp)
   exact aQ.mk ⟨LV,s1,s2,s3,rfl,OU.trans (Le.new Cj),az OV Cj,ai,v1.2,v2.2,v3.2,v1.1,v2.1,v3.1⟩
  ·exact aQ.mk ⟨sh,s1,s2,s3,rfl,le.trans (Le.new hsh),az hS hsh,ai,v1.2,v2.2,v3.2,v1.1,v2.1,v3.1⟩
 clear v1 v2 v3 hv hsh hS le
 rintro ρ M8 ⟨sh,s1,s2,s3,rfl,le,hS,hH,b1,b2,b3,z1,z2,z3⟩
 refine ⟨JG ns l so M5 p1 p2 p3 (fun s1 s2 s3=>0≤s1∧0≤s2∧0≤s3),?_,?_⟩
 ·walk_at "rd"
  refine ⟨hb,hlen,by decide,by decide,fun z _ _=>?_⟩
  walk_at "rd"
  rw [bU]
  refine bD (fun _=>?_) (fun _=>?_)
  ·walk_at "rd"
   refine ⟨by omega,by omega,by omega,aQ.mk (bM (fun j acc M9=>M9=M8∧∃ vs:List Int,vs.length=j∧(∀ v∈vs,0≤v∧L3.Sm 840 v)∧acc=vs.map L3.D.int) _ ?_ ?_ ⟨rfl,[],rfl,by simp,rfl⟩)⟩
   ·rintro j x acc M9 N2 gj ⟨rfl,vs,lv,hv,rfl⟩ jG
    obtain ⟨hj,rfl⟩:=bg gj
    have hj:j < 3:=by omega
    refine ⟨trivial,?_⟩
    walk_at "rd"
    refine ⟨hb,hlen,by dsimp only;omega,by dsimp only;omega,fun z _ _=>?_⟩
    walk_at "rd"
    refine ⟨⟨by decide,by decide,(show L3.Sm 400 (z % 10 ^ (28:Int).toNat) by walk_at "smle")⟩,?_⟩
    walk_at "rd"
    refine jG _ _ ⟨rfl,vs ++ [(z % 10 ^ (28:Int).toNat) ^ (9:Int).toNat % ((10 ^ (50:Int).toNat) ^ (5:Int).toNat+1)],by rw [List.length_append,lv];rfl,fun v hv2=>?_,by rw [List.map_append];rfl⟩
    rcases List.mem_append.mp hv2 with y | y
    ·exact hv v y
    ·rw [List.mem_singleton.mp y]
     exact ⟨Int.emod_nonneg _ (by decide +kernel),by walk_at "smle"⟩
   rintro acc M9 ⟨rfl,vs,lv,hv,rfl⟩
   refine ⟨trivial,fun LV Cj=>?_⟩
   rw [List.length_map,List.length_range,← h3] at lv
   match vs,lv,hv with
   | [s1,s2,s3],_,hv=>
   have v1:=hv s1 (by simp)
   have v2:=hv s2 (by simp)
   have v3:=hv s3 (by simp)
   exact aQ.mk ⟨LV,s1,s2,s3,rfl,le.trans (Le.new Cj),az hS Cj,ai,v1.2,v2.2,v3.2,v1.1,v2.1,v3.1⟩
  ·exact aQ.mk ⟨sh,s1,s2,s3,rfl,le,hS,hH,b1,b2,b3,z1,z2,z3⟩
 clear b1 b2 b3 z1 z2 z3 hH hS le
 rintro ρ M8 ⟨sh,s1,s2,s3,rfl,le,hS,hH,b1,b2,b3,z1,z2,z3⟩
 refine ⟨JG ns l so M5 p1 p2 p3 (fun s1 s2 s3=>(0≤s1∧0≤s2∧0≤s3)∧0 < s1+s2+s3),?_,?_⟩
 ·walk_at "rd"
  refine ⟨sh,[s1,s2,s3],rfl,hH,?_⟩
  have es: [s1,s2,s3].sum=s1+s2+s3:=by simp only [List.sum_cons,List.sum_nil];omega
  rw [es]
  walk_at "rd"
  rw [bU]
  refine bD (fun k=>?_) (fun k=>?_)
  ·walk_at "rd"
   intro e he
   exact aQ.mk ⟨e,1,0,0,rfl,le.trans (Le.new he),az hS he,ai,by decide,by decide,by decide,by decide,by decide⟩
  ·have k:s1+s2+s3≠0:=fun z=>k (by rw [z];rfl)
   exact aQ.mk ⟨sh,s1,s2,s3,rfl,le,hS,hH,b1,b2,b3,⟨z1,z2,z3⟩,by omega⟩
 clear b1 b2 b3 z1 z2 z3 hH hS le
 rintro ρ M8 ⟨sh,s1,s2,s3,rfl,le,hS,hH,b1,b2,b3,⟨z1,z2,z3⟩,zs⟩
 refine ⟨JG ns l so M5 p1 p2 p3 (fun s1 s2 s3=>(¬ qF ns 26 / 2 % 4=3→0≤s1∧0≤s2∧0≤s3)∧0 < s1+s2+s3),?_,?_⟩
 ·walk_at "rd"
  refine ⟨hb,hlen,by decide,by decide,fun z _ hz=>?_⟩
  walk_at "rd"
  rw [bU]
  refine bD (fun k=>?_) (fun k=>?_)
  ·have k:z / 2 % 4=n3:=eq_of_beq k
   walk_at "rd"
   intro e he
   exact aQ.mk ⟨e,2, -1,0,rfl,le.trans (Le.new he),az hS he,ai,by decide,by decide,by decide,fun y=>absurd (show qF ns 26 / 2 % 4=3 by rw [← hz,k,h3]) y,by decide⟩
  ·exact aQ.mk ⟨sh,s1,s2,s3,rfl,le,hS,hH,b1,b2,b3,fun _=>⟨z1,z2,z3⟩,zs⟩
 clear b1 b2 b3 z1 z2 z3 hH hS le zs
 rintro ρ M8 ⟨sh,s1,s2,s3,rfl,le,hS,hH,b1,b2,b3,zz,zs⟩
 have o1:=ho p1 m1
 have o2:=ho p2 m2
 have o3:=ho p3 m3
 walk_at "rd"
 refine ⟨by omega,by omega,by omega,aQ.mk (bM (fun j acc M9=>M9=M8∧acc=([s1*p1.x,s2*p2.x,s3*p3.x].take j).map L3.D.int) _ ?_ ?_ ⟨rfl,rfl⟩)⟩
 ·rintro j x acc M9 N2 gj ⟨rfl,rfl⟩ jG
  obtain ⟨hj,rfl⟩:=bg gj
  have hj:j < 3:=by omega
  obtain ⟨s,p,e1,e2,e3,bs,op⟩:∃ (s:Int) (p:Pl),mq ([s1,s2,s3].map L3.D.int) (j:Int)=some (.int s)∧mq ([p1,p2,p3].map Pl.d) (j:Int)=some p.d∧[s1*p1.x,s2*p2.x,s3*p3.x][j]?=some (s*p.x)∧L3.Sm 840 s∧p.Ok 136:=by
   have:j=0∨j=1∨j=2:=by omega
   rcases this with rfl | rfl | rfl
   ·exact ⟨s1,p1,rfl,rfl,rfl,b1,o1⟩
   ·exact ⟨s2,p2,rfl,rfl,rfl,b2,o2⟩
   ·exact ⟨s3,p3,rfl,rfl,rfl,b3,o3⟩
  obtain ⟨OW,OX⟩:=op
  refine ⟨trivial,?_⟩
  walk_at "rd"
  refine ⟨_,_,_,.inr (.inr ⟨sh,rfl,hH⟩),rfl,e1,?_⟩
  walk_at "rd"
  refine ⟨_,_,_,.inr (.inr ⟨so,rfl,hS⟩),rfl,e2,?_⟩
  walk_at "rd"
  refine jG _ _ ⟨rfl,?_⟩
  rw [List.take_succ,e3,List.map_append]
  rfl
 rintro acc M9 ⟨rfl,rfl⟩
 refine ⟨trivial,fun x1 LW=>?_⟩
 rw [List.length_map,List.length_range,← h3]
 have e3:∀ a b c:Int,[a,b,c].sum=a+b+c:=fun a b c=>by simp only [List.sum_cons,List.sum_nil];omega
 have et:∀ a b c:Int,[a,b,c].take (3:Int).toNat= [a,b,c]:=fun a b c=>rfl
 rw [et]
 have le:=le.trans (Le.new (o:=MO.lst ([s1*p1.x,s2*p2.x,s3*p3.x].map L3.D.int)) LW)
 have hS:=az (u:=MO.lst ([s1*p1.x,s2*p2.x,s3*p3.x].map L3.D.int)) hS LW
 have hH:=az (u:=MO.lst ([s1*p1.x,s2*p2.x,s3*p3.x].map L3.D.int)) hH LW
 have hA:aC M9 x1 (.lst ([s1*p1.x,s2*p2.x,s3*p3.x].map L3.D.int)) x1=some (.lst ([s1*p1.x,s2*p2.x,s3*p3.x].map L3.D.int)):=ai
 generalize aC M9 x1 (.lst ([s1*p1.x,s2*p2.x,s3*p3.x].map L3.D.int))=Eg at le hS hH hA ⊢
 walk_at "rd"
 refine ⟨x1,_,rfl,hA,?_⟩
 rw [e3]
 walk_at "rd"
 refine aQ.mk (bM (fun j acc Ez=>Ez=Eg∧acc=([s1*p1.y,s2*p2.y,s3*p3.y].take j).map L3.D.int) _ ?_ ?_ ⟨rfl,rfl⟩)
 ·rintro j x acc Ez N2 gj ⟨rfl,rfl⟩ jG
  obtain ⟨hj,rfl⟩:=bg gj
  have hj:j < 3:=by omega
  obtain ⟨s,p,e1,e2,e3,bs,op⟩:∃ (s:Int) (p:Pl),mq ([s1,s2,s3].map L3.D.int) (j:Int)=some (.int s)∧mq ([p1,p2,p3].map Pl.d) (j:Int)=some p.d∧[s1*p1.y,s2*p2.y,s3*p3.y][j]?=some (s*p.y)∧L3.Sm 840 s∧p.Ok 136:=by
   have:j=0∨j=1∨j=2:=by omega
   rcases this with rfl | rfl | rfl
   ·exact ⟨s1,p1,rfl,rfl,rfl,b1,o1⟩
   ·exact ⟨s2,p2,rfl,rfl,rfl,b2,o2⟩
   ·exact ⟨s3,p3,rfl,rfl,rfl,b3,o3⟩
  obtain ⟨OW,OX⟩:=op
  refine ⟨trivial,?_⟩
  walk_at "rd"
  refine ⟨_,_,_,.inr (.inr ⟨sh,rfl,hH⟩),rfl,e1,?_⟩
  walk_at "rd"
  refine ⟨_,_,_,.inr (.inr ⟨so,rfl,hS⟩),rfl,e2,?_⟩
  walk_at "rd"
  refine jG _ _ ⟨rfl,?_⟩
  rw [List.take_succ,e3,List.map_append]
  rfl
 rintro acc Ez ⟨rfl,hacc⟩
 have hacc:acc= [s1*p1.y,s2*p2.y,s3*p3.y].map L3.D.int:=hacc
 subst hacc
 refine ⟨trivial,fun x2 gj=>?_⟩
 have le:=le.trans (Le.new (o:=MO.lst ([s1*p1.y,s2*p2.y,s3*p3.y].map L3.D.int)) gj)
 have hH:=az (u:=MO.lst ([s1*p1.y,s2*p2.y,s3*p3.y].map L3.D.int)) hH gj
 have hA:aC Ez x2 (.lst ([s1*p1.y,s2*p2.y,s3*p3.y].map L3.D.int)) x2=some (.lst ([s1*p1.y,s2*p2.y,s3*p3.y].map L3.D.int)):=ai
 generalize aC Ez x2 (.lst ([s1*p1.y,s2*p2.y,s3*p3.y].map L3.D.int))=MW at le hH hA ⊢
 walk_at "rd"
 refine ⟨x2,_,rfl,hA,?_⟩
 rw [e3]
 walk_at "rd"
 refine ⟨sh,_,rfl,hH,?_⟩
 rw [e3]
 walk_at "rd"
 obtain ⟨Qv,Qw⟩:=o1
 obtain ⟨Qx,Qy⟩:=o2
 obtain ⟨Qz,QA⟩:=o3
 have sw:L3.Sm 1100 (s1+s2+s3):=by walk_at "smle"
 have sx:L3.Sm 1100 (s1*p1.x+s2*p2.x+s3*p3.x):=by walk_at "smle"
 have sy:L3.Sm 1100 (s1*p1.y+s2*p2.y+s3*p3.y):=by walk_at "smle"
 obtain ⟨f0,f1,f2,_⟩:=pS (a:=s1*p1.x+s2*p2.x+s3*p3.x) zs
 obtain ⟨g0,g1,g2,_⟩:=pS (a:=s1*p1.y+s2*p2.y+s3*p3.y) zs
 refine ⟨sw,?_⟩
 exact aQ.mk ⟨M5,le,h _ _ ⟨f0,g0,A4 zs sx sw,A4 zs sy sw,f2,g2,fun no=>⟨p1,m1,p2,m2,p3,m3,s1,s2,s3,(zz no).1,(zz no).2.1,(zz no).2.2,zs,f1,g1⟩⟩⟩
theorem Ck (T:Txt K mg t):Binds K t.qA ["a","b","c"] []:=T.uI.binds fun _ _ _ _ _ _ us hl=>match us,hl with | [_,_,_],_=>rfl
def DS:sA:=fun ds Q=> ∃ a b c:Pl,ds= [a.d,b.d,c.d]∧a.Ok 140∧b.Ok 140∧c.Ok 140∧Q (.int (tw a b c))
theorem Cm (T:Txt K mg t):cg P w K mg base fE 1 t.uz t.qA ["a","b","c"] (qW K DS):=by
 refine wG T.uI Ce (fun ds Q h=>by (first | (obtain ⟨_,rfl,_⟩:=h;rfl) | (obtain ⟨_,_,rfl,_⟩:=h;rfl) | (obtain ⟨_,_,_,rfl,_⟩:=h;rfl) | (obtain ⟨_,_,_,_,rfl,_⟩:=h;rfl) | (obtain ⟨_,_,_,_,_,rfl,_⟩:=h;rfl) | (obtain ⟨_,_,_,_,_,_,rfl,_⟩:=h;rfl) | (obtain ⟨_,_,_,_,_,_,_,rfl,_⟩:=h;rfl))) (fun cdv A outer s H hr=>?_)
 have hu:=hr.units
 refine ⟨_,(aB (aD (ak bT (ak cR (ak bT (aE (af 1) ah) (aE (af 0) ah)) (ak bT (aE (af 2) ah) (aE (af 0) ah))) (ak cR (ak bT (aE (af 1) ah) (aE (af 0) ah)) (ak bT (aE (af 2) ah) (aE (af 0) ah)))))),fun ds Q h=>?_⟩
 obtain ⟨a,b,c,rfl,⟨a1,a2⟩,⟨b1,b2⟩,⟨c1,c2⟩,h⟩:=h
 unfold tw at h
 walk_at "rd"
 exact h
theorem uW (T:Txt K mg t):Binds K t.uA ["a","b","c"] []:=T.qE.binds fun _ _ _ _ _ _ us hl=>match us,hl with | [_,_,_],_=>rfl
def GA:sA:=fun ds Q=> ∃ a b c:Pl,ds= [a.d,b.d,c.d]∧a.Ok 140∧b.Ok 140∧c.Ok 140∧Q (.int (tw a b c).sign)
theorem uX (T:Txt K mg t):cg P w K mg base fE 2 t.xK t.uA ["a","b","c"] (qW K GA):=by
 refine wG T.qE DR (fun ds Q h=>by (first | (obtain ⟨_,rfl,_⟩:=h;rfl) | (obtain ⟨_,_,rfl,_⟩:=h;rfl) | (obtain ⟨_,_,_,rfl,_⟩:=h;rfl) | (obtain ⟨_,_,_,_,rfl,_⟩:=h;rfl) | (obtain ⟨_,_,_,_,_,rfl,_⟩:=h;rfl) | (obtain ⟨_,_,_,_,_,_,rfl,_⟩:=h;rfl) | (obtain ⟨_,_,_,_,_,_,_,rfl,_⟩:=h;rfl))) (fun cdv A outer s H hr=>?_)
 have hu:=hr.units
 refine ⟨_,(aB (aD (aL (y9 T) (hr.mono (by decide)) (by rfl) T.Cc T.uG.kp (yZ T) (aa (aL (Cm T) (hr.mono (by decide)) (by rfl) T.DO T.uI.kp (Ck T) (aa (af 0) (aa (af 1) (aa (af 2) aj)))) aj)))),fun ds Q h=>?_⟩
 obtain ⟨a,b,c,rfl,ha,hb,hc,h⟩:=h
 walk_at "rd"
 refine ⟨ha,hb,hc,?_⟩
 walk_at "rd"
 exact h
theorem jD (T:Txt K mg t):Binds K t.fK ["line"] []:=T.eg.binds fun _ _ _ _ _ _ us hl=>match us,hl with | [_],_=>rfl
def qM:pB:=fun ds M Q=> ∃ (l:Addr) (ps:List Pl),ds= [.ref l]∧M l=some (.lst (ps.map Pl.d))∧ps.length≤1000∧(∀ q∈ps,q.Ok 140)∧∀ p,M p=none→Q (.ref p) (aC M p (.lst ((ps.foldl aR []).reverse.map Pl.d)))
theorem jE (T:Txt K mg t):cg P w K mg base fE 3 t.gK t.fK ["line"] (pP K qM):=by
 refine u9 T.eg fR (fun ds M Q h=>by (first | (obtain ⟨_,rfl,_⟩:=h;rfl) | (obtain ⟨_,_,rfl,_⟩:=h;rfl) | (obtain ⟨_,_,_,rfl,_⟩:=h;rfl) | (obtain ⟨_,_,_,_,rfl,_⟩:=h;rfl) | (obtain ⟨_,_,_,_,_,rfl,_⟩:=h;rfl) | (obtain ⟨_,_,_,_,_,_,rfl,_⟩:=h;rfl) | (obtain ⟨_,_,_,_,_,_,_,rfl,_⟩:=h;rfl))) (fun cdv A outer s H hr=>?_)
 have hu:=hr.units
 refine ⟨_,(au (aS (i:=1) fR.nd rfl (Or.inl rfl) (cW aj))
  (au (tY PassesOwn.never rfl (af 0) (dJ (i:=2) fR.nd rfl (Or.inl rfl)) (au (yt PassesOwn.never (ni.pt (sj (aI AS (aF cJ (by rfl) T.bR aN (aa (af 1) aj)) ah (aA _)) (nE (aI (cV hu) (aL (uX T) (hr.mono (by decide)) (by rfl) T.xN T.qE.kp (uW T) (aa (aE (af 1) (iM ah)) (aa (aE (af 1) (iM ah)) (aa (af 2) aj)))) (iM ah) (aA _))))) (aB (nH (II (af 1) (Fj PySem.F.plainAttrs_list PySem.F.slot_list_pop PySem.F.type_list_pop Fo (cN.dn (af 1)))))))
  (aB (nH (A3 (af 1) (af 2) (vq PySem.F.plainAttrs_list PySem.F.slot_list_append PySem.F.type_list_append kO (cN.dn (af 1)) (kN (cN.dn (af 2)) nu)))))))
  (aB (aD (af 1))))),fun ds M Q h=>?_⟩
 obtain ⟨l,ps,rfl,hM,hlen,ho,h⟩:=h
 walk_at "rd"
 intro p hp
 have hl:∀ o,aC M p o l=some (.lst (ps.map Pl.d)):=fun o=>az hM hp
 walk_at "rd"
 refine ⟨l,_,rfl,hl _,?_⟩
 refine bu (fun i ρ M'=>M'=aC M p (.lst (((ps.take i).foldl aR []).reverse.map Pl.d))∧∃ y:Option L3.D,ρ= [some (.ref l),some (.ref p),y]) _ ?_ ?_ ⟨rfl,_,rfl⟩
 ·rintro i x ρ M' N hx ⟨rfl,y,rfl⟩ hN
  obtain ⟨d,hd,rfl⟩:=FU hx
  have od:=ho d (List.mem_of_getElem? hd)
  have OY:∀ q∈(ps.take i).foldl aR [],q.Ok 140:=fun q hq=>ho q (List.mem_of_mem_take (nM _ q hq))
  have lst:=eK (ps.take i)
  have eN:=xq hd
  have lt:(ps.take i).length≤1000:=by rw [List.length_take];omega
  generalize hst:(ps.take i).foldl aR []=st at *
  refine ⟨hl _,?_⟩
  walk_at "rd"
  refine ⟨fun m ρ M'=> ∃ st':List Pl,M'=aC M p (.lst (st'.reverse.map Pl.d))∧ρ= [some (.ref l),some (.ref p),some d.d]∧m=st'.length∧iO st' d=iO st d∧(∀ q∈st',q.Ok 140)∧st'.length≤1000,⟨_,st,rfl,rfl,rfl,rfl,OY,by omega⟩,?_⟩
  rintro m ρ M' ⟨st',rfl,rfl,rfl,ep,os,ls⟩
  walk_at "rd"
  refine ⟨_,_,rfl,.inr (.inr ⟨p,rfl,ai⟩),?_⟩
  walk_at "rd"
  rw [List.length_map,List.length_reverse]
  refine bD (fun c=>?_) (fun c=>?_)
  ·have c:(1:Int) < (st'.length:Int):=of_decide_eq_true c
   obtain ⟨b,a,r,rfl⟩:∃ b a r,st'=b :: a :: r:=by
    match st',c with
    | b :: a :: r,_=>exact ⟨b,a,r,rfl⟩
    | [x],c=>exact absurd c (by show ¬ (1:Int) < 1;decide)
    | [],c=>exact absurd c (by decide)
   walk_at "rd"
   refine ⟨_,_,a.d,.inr (.inr ⟨p,rfl,ai⟩),rfl,zO b a r,?_⟩
   walk_at "rd"
   refine ⟨_,_,b.d,.inr (.inr ⟨p,rfl,ai⟩),rfl,zN b _,?_⟩
   walk_at "rd"
   refine ⟨os a (by simp),os b (by simp),od,?_⟩
   walk_at "rd"
   rw [bU]
   refine bD (fun k=>?_) (fun k=>?_)
   ·have k:=eq_of_beq k
    have k:tw a b d < 0:=Int.sign_eq_neg_one_iff_neg.mp k
    walk_at "rd"
    refine ⟨p,_,b.d,rfl,by rw [List.reverse_cons,List.map_append];exact ai,?_⟩
    rw [mD]
    exact aQ.mk ⟨_,Nat.lt_succ_self _,a :: r,rfl,rfl,rfl,by rw [← ep,BC k],fun q hq=>os q (List.mem_cons_of_mem _ hq),by simp only [List.length_cons] at ls ⊢;omega⟩
   ·have k:¬ tw a b d < 0:=fun z=>k (by rw [Int.sign_eq_neg_one_of_neg z];rfl)
    have ez:=BD (r:=r) k
    generalize b :: a :: r=st' at *
    walk_at "rd"
    refine ⟨⟨p,_,rfl,ai⟩,?_⟩
    walk_at "rd"
    refine ⟨p,_,rfl,ai,?_,?_⟩
    ·rw [List.length_map,List.length_reverse]
     have:(1000:Nat) < sizeLine:=by decide
     omega
    ·rw [mD]
     refine hN _ _ ⟨?_,_,rfl⟩
     have e:aR st d=d :: st':=by
      show d :: iO st d=_
      rw [← ep,ez]
     rw [eN,e,List.reverse_cons,List.map_append]
     rfl
  ·have c:¬ (1:Int) < (st'.length:Int):=fun z=>c (decide_eq_true z)
   have ez:iO st' d=st':=by
    match st',c with
    | [],_=>rfl
    | [_],_=>rfl
    | b :: a :: r,c=>exact absurd (show (1:Int) < ((b :: a :: r).length:Int) by simp only [List.length_cons];omega) c
   walk_at "rd"
   refine ⟨⟨p,_,rfl,ai⟩,?_⟩
   walk_at "rd"
   refine ⟨p,_,rfl,ai,?_,?_⟩
   ·rw [List.length_map,List.length_reverse]
    have:(1000:Nat) < sizeLine:=by decide
    omega
   ·rw [mD]
    refine hN _ _ ⟨?_,_,rfl⟩
    have e:aR st d=d :: st':=by
     show d :: iO st d=_
     rw [← ep,ez]
    rw [eN,e,List.reverse_cons,List.map_append]
    rfl
 ·rintro ρ M' ⟨rfl,y,rfl⟩
  refine ⟨hl _,?_⟩
  walk_at "rd"
  refine aQ.mk ⟨_,Le.refl _,?_⟩
  rw [List.length_map,List.take_length]
  exact h p hp
theorem xU (T:Txt K mg t):Binds K t.l9 ["places"] []:=T.nY.binds fun _ _ _ _ _ _ us hl=>match us,hl with | [_],_=>rfl
def Ai:pB:=fun ds M Q=> ∃ (l:Addr) (ps:List Pl),ds= [.ref l]∧M l=some (.lst (ps.map Pl.d))∧ps.length < 64∧(∀ q∈ps,q.Ok 140)∧∀ (p:Addr) (qs:List Pl),M p=none→qs.Perm ps→qs.Pairwise (fun p q=> ¬ bQ q p)→Q (.ref p) (aC M p (.lst ((cj qs).map Pl.d)))
theorem xV (T:Txt K mg t):cg P w K mg base fE 4 t.nV t.l9 ["places"] (pP K Ai):=by
 refine u9 T.nY jv (fun ds M Q h=>by (first | (obtain ⟨_,rfl,_⟩:=h;rfl) | (obtain ⟨_,_,rfl,_⟩:=h;rfl) | (obtain ⟨_,_,_,rfl,_⟩:=h;rfl) | (obtain ⟨_,_,_,_,rfl,_⟩:=h;rfl) | (obtain ⟨_,_,_,_,_,rfl,_⟩:=h;rfl) | (obtain ⟨_,_,_,_,_,_,rfl,_⟩:=h;rfl) | (obtain ⟨_,_,_,_,_,_,_,rfl,_⟩:=h;rfl))) (fun cdv A outer s H hr=>?_)
 have hu:=hr.units
 refine ⟨_,(au (aS (i:=1) jv.nd rfl (Or.inl rfl) (aF pY (by rfl) T.gp c7 (aa (af 0) aj)))
  (au (bX (aI (oj hu) (aF cJ (by rfl) T.bR aN (aa (af 1) aj)) ah (aA _)) (aB (aD (af 1))) aU)
  (au (aS (i:=2) jv.nd rfl (Or.inl rfl) (bW (jE T) (hr.mono (by decide)) (by rfl) T.ko T.eg.kp (jD T) (aa (af 1) aj)))
  (au (aS (i:=3) jv.nd rfl (Or.inl rfl) (bW (jE T) (hr.mono (by decide)) (by rfl) T.ko T.eg.kp (jD T) (aa (zI (by rfl) (by rfl) T.di (by rfl) T.we (af 1)) aj)))
  (aB (aD (ak Bh (jY (af 2) Bg (qa (iM ah))) (jY (af 3) Bg (qa (iM ah)))))))))),fun ds M Q h=>?_⟩
 obtain ⟨l,ps,rfl,hM,h64,ho,h⟩:=h
 walk_at "rd"
 refine ⟨l,ps,rfl,hM,h64,fun p qs hp cC nh=>?_⟩
 have oq:∀ q∈qs,q.Ok 140:=fun q hq=>ho q (cC.mem_iff.mp hq)
 have lq:qs.length < 64:=by rw [cC.length_eq];exact h64
 walk_at "rd"
 refine ⟨_,_,rfl,.inr (.inr ⟨p,rfl,ai⟩),?_⟩
 walk_at "rd"
 rw [List.length_map]
 refine bD (fun c=>?_) (fun c=>?_)
 ·have c:(qs.length:Int) < 2:=of_decide_eq_true c
  have e:cj qs=qs:=by unfold cj;rw [if_pos (by omega)]
  have q:=h p qs hp cC nh
  rw [e] at q
  walk_at "rd"
  exact aQ.mk ⟨_,Le.refl _,q⟩
 ·have c:¬ (qs.length:Int) < 2:=fun z=>c (decide_eq_true z)
  have h':∀ r,M r=none→Q (.ref r) (aC M r (.lst ((cj qs).map Pl.d))):=fun r hr=>h r qs hr cC nh
  walk_at "rd"
  refine ⟨p,qs,rfl,ai,by omega,oq,fun p1 hp1=>?_⟩
  walk_at "rd"
  have e:cj qs=(qs.foldl aR []).reverse.dropLast ++ (qs.reverse.foldl aR []).reverse.dropLast:=by unfold cj;rw [if_neg (by omega)]
  rw [e] at h'
  have lt:(qs.foldl aR []).reverse.length≤64:=by
   have:=eK qs
   rw [List.length_reverse];omega
  have lh:(qs.reverse.foldl aR []).reverse.length≤64:=by
   have:=eK qs.reverse
   rw [List.length_reverse] at this ⊢;omega
  generalize (qs.foldl aR []).reverse=th at *
  have hQ:aC (aC M p (.lst (qs.map Pl.d))) p1 (.lst (th.map Pl.d)) p=some (.lst (qs.map Pl.d)):=az ai hp1
  have hT:aC (aC M p (.lst (qs.map Pl.d))) p1 (.lst (th.map Pl.d)) p1=some (.lst (th.map Pl.d)):=ai
  have le:=(Le.new (o:= .lst (qs.map Pl.d)) hp).trans (Le.new (o:= .lst (th.map Pl.d)) hp1)
  generalize aC (aC M p (.lst (qs.map Pl.d))) p1 (.lst (th.map Pl.d))=M2 at hQ hT le ⊢
  refine ⟨_,.of hQ,fun p2 hp2=>?_⟩
  rw [← List.map_reverse]
  have hT2:=az (u:=MO.lst (qs.reverse.map Pl.d)) hT hp2
  have xR:=le.trans (Le.new (o:= .lst (qs.reverse.map Pl.d)) hp2)
  have hR:aC M2 p2 (.lst (qs.reverse.map Pl.d)) p2=some (.lst (qs.reverse.map Pl.d)):=ai
  generalize aC M2 p2 (.lst (qs.reverse.map Pl.d))=M3 at hT2 xR hR ⊢
  refine ⟨p2,qs.reverse,rfl,hR,by rw [List.length_reverse];omega,fun q hq=>oq q (List.mem_reverse.mp hq),fun p3 hp3=>?_⟩
  have QB:th.length≤64:=by omega
  generalize (qs.reverse.foldl aR []).reverse=hm at *
  have JF:=az (u:=MO.lst (hm.map Pl.d)) hT2 hp3
  have GY:=xR.trans (Le.new (o:= .lst (hm.map Pl.d)) hp3)
  have hH:aC M3 p3 (.lst (hm.map Pl.d)) p3=some (.lst (hm.map Pl.d)):=ai
  generalize aC M3 p3 (.lst (hm.map Pl.d))=M4 at JF GY hH ⊢
  walk_at "rd"
  refine ⟨_,.of JF,fun p4 GB=>?_⟩
  rw [vP]
  have MX:=az (u:=MO.lst (th.dropLast.map Pl.d)) hH GB
  have MY:=GY.trans (Le.new (o:= .lst (th.dropLast.map Pl.d)) GB)
  have hA:aC M4 p4 (.lst (th.dropLast.map Pl.d)) p4=some (.lst (th.dropLast.map Pl.d)):=ai
  generalize aC M4 p4 (.lst (th.dropLast.map Pl.d))=M5 at MX MY hA ⊢
  walk_at "rd"
  refine ⟨_,.of MX,fun p5 JH=>?_⟩
  rw [vP]
  have MZ:=az (u:=MO.lst (hm.dropLast.map Pl.d)) hA JH
  have LX:=MY.trans (Le.new (o:= .lst (hm.dropLast.map Pl.d)) JH)
  have hB:aC M5 p5 (.lst (hm.dropLast.map Pl.d)) p5=some (.lst (hm.dropLast.map Pl.d)):=ai
  generalize aC M5 p5 (.lst (hm.dropLast.map Pl.d))=M6 at MZ LX hB ⊢
  refine ⟨p4,p5,_,_,rfl,rfl,MZ,hB,?_,fun p6 OZ=>?_⟩
  ·rw [List.length_map,List.length_map,List.length_dropLast,List.length_dropLast]
   have:(1000:Nat) < sizeLine:=by decide
   omega
  ·rw [← List.map_append]
   exact aQ.mk ⟨_,LX.put,h' p6 (LX.free OZ)⟩
theorem n8 (T:Txt K mg t):Binds K t.eV ["places"] []:=T.fM.binds fun _ _ _ _ _ _ us hl=>match us,hl with | [_],_=>rfl
def oZ:pB:=fun ds M Q=> ∃ (l:Addr) (ps:List Pl),ds= [.ref l]∧M l=some (.lst (ps.map Pl.d))∧ps.length < 64∧(∀ q∈ps,q.Ok 140)∧∀ (p:Addr) (qs:List Pl),M p=none→qs.Perm ps→qs.Pairwise (fun p q=> ¬ bQ q p)→Q (.ref p) (aC M p (.lst ((cQ (cj qs)).map tD)))
theorem n9 (T:Txt K mg t):cg P w K mg base fE 5 t.fL t.eV ["places"] (pP K oZ):=by
 refine u9 T.fM iQ (fun ds M Q h=>by (first | (obtain ⟨_,rfl,_⟩:=h;rfl) | (obtain ⟨_,_,rfl,_⟩:=h;rfl) | (obtain ⟨_,_,_,rfl,_⟩:=h;rfl) | (obtain ⟨_,_,_,_,rfl,_⟩:=h;rfl) | (obtain ⟨_,_,_,_,_,rfl,_⟩:=h;rfl) | (obtain ⟨_,_,_,_,_,_,rfl,_⟩:=h;rfl) | (obtain ⟨_,_,_,_,_,_,_,rfl,_⟩:=h;rfl))) (fun cdv A outer s H hr=>?_)
 have hu:=hr.units
 refine ⟨_,(au (aS (i:=1) iQ.nd rfl (Or.inl rfl) (bW (xV T) (hr.mono (by decide)) (by rfl) T.Ac T.nY.kp (xU T) (aa (af 0) aj)))
  (au (bX (aI (oj hu) (aF cJ (by rfl) T.bR aN (aa (af 1) aj)) ah (aA _)) (aB (aD (cW aj))) aU)
  (aB (aD (zL (by rfl) (by rfl) T.di (by rfl) T.Gy (aa (af 1) (aa (ak Bh (jY (af 1) (qa ah) Bg) (jY (af 1) Bg (qa ah))) aj))))))),fun ds M Q h=>?_⟩
 obtain ⟨l,ps,rfl,hM,h64,ho,h⟩:=h
 walk_at "rd"
 refine ⟨l,ps,rfl,hM,h64,ho,fun p qs hp cC nh=>?_⟩
 have h':∀ r,M r=none→Q (.ref r) (aC M r (.lst ((cQ (cj qs)).map tD))):=fun r hr=>h r qs hr cC nh
 have lo:(cj qs).length≤200:=by
  have l1:=eK qs
  have l2:=eK qs.reverse
  have l3:=cC.length_eq
  rw [List.length_reverse] at l2
  unfold cj
  split
  ·omega
  ·rw [List.length_append,List.length_dropLast,List.length_dropLast,List.length_reverse,List.length_reverse]
   omega
 generalize cj qs=bd at *
 walk_at "rd"
 refine ⟨_,_,rfl,.inr (.inr ⟨p,rfl,ai⟩),?_⟩
 walk_at "rd"
 rw [List.length_map]
 refine bD (fun c=>?_) (fun c=>?_)
 ·have c:(bd.length:Int) < 2:=of_decide_eq_true c
  walk_at "rd"
  intro r hr
  have q:=h' r ((Le.new hp).free hr)
  unfold cQ at q
  rw [if_pos (by omega)] at q
  exact aQ.mk ⟨_,(Le.new hp).put,q⟩
 ·have c:¬ (bd.length:Int) < 2:=fun z=>c (decide_eq_true z)
  walk_at "rd"
  have le:=Le.new (o:= .lst (bd.map Pl.d)) hp
  have hB:aC M p (.lst (bd.map Pl.d)) p=some (.lst (bd.map Pl.d)):=ai
  generalize aC M p (.lst (bd.map Pl.d))=M1 at hB le ⊢
  refine ⟨_,.of hB,fun p1 hp1=>?_⟩
  have O0:cutD (bd.map Pl.d) (some 1) none=(bd.drop 1).map Pl.d:=Bm Pl.d bd 1 (by omega)
  have O1:cutD (bd.map Pl.d) none (some 1)=(bd.take 1).map Pl.d:=vQ Pl.d bd 1 (by omega)
  rw [O0]
  have LY:=az (u:=MO.lst ((bd.drop 1).map Pl.d)) hB hp1
  have Na:=le.trans (Le.new (o:= .lst ((bd.drop 1).map Pl.d)) hp1)
  have hA:aC M1 p1 (.lst ((bd.drop 1).map Pl.d)) p1=some (.lst ((bd.drop 1).map Pl.d)):=ai
  generalize aC M1 p1 (.lst ((bd.drop 1).map Pl.d))=M2 at LY Na hA ⊢
  walk_at "rd"
  refine ⟨_,.of LY,fun p2 hp2=>?_⟩
  rw [O1]
  have hB2:=az (u:=MO.lst ((bd.take 1).map Pl.d)) LY hp2
  have Nb:=az (u:=MO.lst ((bd.take 1).map Pl.d)) hA hp2
  have xR:=Na.trans (Le.new (o:= .lst ((bd.take 1).map Pl.d)) hp2)
  have hC:aC M2 p2 (.lst ((bd.take 1).map Pl.d)) p2=some (.lst ((bd.take 1).map Pl.d)):=ai
  generalize aC M2 p2 (.lst ((bd.take 1).map Pl.d))=M3 at hB2 Nb xR hC ⊢
  refine ⟨p1,p2,_,_,rfl,rfl,Nb,hC,?_,fun p3 hp3=>?_⟩
  ·rw [List.length_map,List.length_map,List.length_drop,List.length_take]
   have:(1000:Nat) < sizeLine:=by decide
   omega
  rw [← List.map_append]
  have Nc:=az (u:=MO.lst ((bd.drop 1 ++ bd.take 1).map Pl.d)) hB2 hp3
  have GY:=xR.trans (Le.new (o:= .lst ((bd.drop 1 ++ bd.take 1).map Pl.d)) hp3)
  have hE:aC M3 p3 (.lst ((bd.drop 1 ++ bd.take 1).map Pl.d)) p3=some (.lst ((bd.drop 1 ++ bd.take 1).map Pl.d)):=ai
  generalize aC M3 p3 (.lst ((bd.drop 1 ++ bd.take 1).map Pl.d))=M4 at Nc GY hE ⊢
  refine ⟨p,p3,_,_,rfl,Nc,hE,fun p4 GB=>?_⟩
  have q:=h' p4 (GY.free GB)
  unfold cQ at q
  rw [if_neg (by omega)] at q
  have ez:=sS bd (bd.drop 1 ++ bd.take 1)
  rw [show ((List.zipWith (fun p q=>[p,q]) bd (bd.drop 1 ++ bd.take 1)).map tD)=_ from ez] at q
  exact aQ.mk ⟨_,GY.put,q⟩
theorem kI (T:Txt K mg t):Binds K t.gM ["a","b","c"] []:=T.fj.binds fun _ _ _ _ _ _ us hl=>match us,hl with | [_,_,_],_=>rfl
def rQ:sA:=fun ds Q=> ∃ a b c:Pl,ds= [a.d,b.d,c.d]∧a.Ok 140∧b.Ok 140∧c.Ok 140∧tw a b c≠0∧Q (tD (Cu a b c))
theorem kJ (T:Txt K mg t):cg P w K mg base fE 3 t.iF t.gM ["a","b","c"] (qW K rQ):=by
 refine wG T.fj kE (fun ds Q h=>by (first | (obtain ⟨_,rfl,_⟩:=h;rfl) | (obtain ⟨_,_,rfl,_⟩:=h;rfl) | (obtain ⟨_,_,_,rfl,_⟩:=h;rfl) | (obtain ⟨_,_,_,_,rfl,_⟩:=h;rfl) | (obtain ⟨_,_,_,_,_,rfl,_⟩:=h;rfl) | (obtain ⟨_,_,_,_,_,_,rfl,_⟩:=h;rfl) | (obtain ⟨_,_,_,_,_,_,_,rfl,_⟩:=h;rfl))) (fun cdv A outer s H hr=>?_)
 have hu:=hr.units
 refine ⟨_,(au (aS (i:=3) kE.nd rfl (Or.inl rfl) (aF pY (by rfl) T.gp c7 (aa (cW (aa (af 0) (aa (af 1) (aa (af 2) aj)))) aj)))
  (au (bX (aI (cV hu) (aL (uX T) (hr.mono (by decide)) (by rfl) T.xN T.qE.kp (uW T) (aa (aE (af 3) ah) (aa (aE (af 3) ah) (aa (aE (af 3) ah) aj)))) ah (aA _)) (aB (aD (cE (aa (aE (af 3) ah) (aa (aE (af 3) ah) (aa (aE (af 3) ah) aj)))))) aU)
  (aB (aD (cE (aa (aE (af 3) ah) (aa (aE (af 3) ah) (aa (aE (af 3) ah) aj)))))))),fun ds Q h=>?_⟩
 obtain ⟨a,b,c,rfl,ha,hb,hc,hn,h⟩:=h
 walk_at "rd"
 intro l hl
 refine ⟨l,[a,b,c],rfl,ai,by show 3 < 64;decide,fun p qs hp cC nh=>?_⟩
 obtain ⟨u,v,w,rfl⟩:=pZ cC.length_eq
 obtain ⟨ou,ov,ow⟩:=Bc cC ha hb hc
 rw [xh hn cC nh] at h
 walk_at "rd"
 refine ⟨_,_,_,.inr (.inr ⟨p,rfl,ai⟩),rfl,rfl,?_⟩
 walk_at "rd"
 refine ⟨_,_,_,.inr (.inr ⟨p,rfl,ai⟩),rfl,rfl,?_⟩
 walk_at "rd"
 refine ⟨_,_,_,.inr (.inr ⟨p,rfl,ai⟩),rfl,rfl,?_⟩
 walk_at "rd"
 refine ⟨ou,ov,ow,?_⟩
 walk_at "rd"
 refine bD (fun k=>?_) (fun k=>?_)
 ·rw [if_pos (Ga k)] at h
  walk_at "rd"
  refine ⟨_,_,_,.inr (.inr ⟨p,rfl,ai⟩),rfl,rfl,?_⟩
  walk_at "rd"
  refine ⟨_,_,_,.inr (.inr ⟨p,rfl,ai⟩),rfl,rfl,?_⟩
  walk_at "rd"
  refine ⟨_,_,_,.inr (.inr ⟨p,rfl,ai⟩),rfl,rfl,?_⟩
  walk_at "rd"
  exact h
 ·rw [if_neg (Di k)] at h
  walk_at "rd"
  refine ⟨_,_,_,.inr (.inr ⟨p,rfl,ai⟩),rfl,rfl,?_⟩
  walk_at "rd"
  refine ⟨_,_,_,.inr (.inr ⟨p,rfl,ai⟩),rfl,rfl,?_⟩
  walk_at "rd"
  refine ⟨_,_,_,.inr (.inr ⟨p,rfl,ai⟩),rfl,rfl,?_⟩
  walk_at "rd"
  exact h
theorem Cn (T:Txt K mg t):Binds K t.qB ["places"] []:=T.uJ.binds fun _ _ _ _ _ _ us hl=>match us,hl with | [_],_=>rfl
theorem za {w:List Pl}:∀ {as bs:List Pl},w∈List.zipWith (fun p q=>[p,q]) as bs→∃ a∈as,∃ b∈bs,w= [a,b]
 | [],_,h=>by simp at h
 | a :: as,[],h=>by simp at h
 | a :: as,b :: bs,h=>by
   rw [List.zipWith_cons_cons] at h
   rcases List.mem_cons.mp h with h | h
   ·exact ⟨a,by simp,b,by simp,h⟩
   ·obtain ⟨x,hx,y,hy,e⟩:=za h
    exact ⟨x,List.mem_cons_of_mem _ hx,y,List.mem_cons_of_mem _ hy,e⟩
theorem wD {qs:List Pl} {q:Pl} (h:q∈cj qs):q∈qs:=by
 unfold cj at h
 split at h
 ·exact h
 ·rcases List.mem_append.mp h with h | h
  ·exact nM qs q (List.mem_reverse.mp (List.dropLast_subset _ h))
  ·exact List.mem_reverse.mp (nM _ q (List.mem_reverse.mp (List.dropLast_subset _ h)))
theorem Aj {qs w:List Pl} (h:w∈cQ (cj qs)):∃ a b,w= [a,b]∧a∈qs∧b∈qs:=by
 unfold cQ at h
 split at h
 ·cases h
 ·obtain ⟨a,ha,b,hb,e⟩:=za h
  refine ⟨a,b,e,wD ha,wD ?_⟩
  rcases List.mem_append.mp hb with hb | hb
  ·exact List.mem_of_mem_drop hb
  ·exact List.mem_of_mem_take hb
theorem xW (qs:List Pl):(cQ (cj qs)).length≤2*qs.length:=by
 have l1:=eK qs
 have l2:=eK qs.reverse
 rw [List.length_reverse] at l2
 have:(cj qs).length≤2*qs.length:=by
  unfold cj
  split
  ·omega
  ·rw [List.length_append,List.length_dropLast,List.length_dropLast,List.length_reverse,List.length_reverse]
   omega
 unfold cQ
 split
 ·exact Nat.zero_le _
 ·rw [List.length_zipWith]
  omega
theorem Ak {α:Type} {f:α→List Pl} {xs:List α} {i:Nat} {x:α} (h:xs[i]?=some x):(xs.take (i+1)).map f=(xs.take i).map f ++ [f x]:=by
 rw [List.take_succ,h,List.map_append]
 rfl
def DT:pB:=fun ds M Q=> ∃ l:Addr,ds= [.ref l]∧∃ ps:List Pl,M l=some (.lst (ps.map Pl.d))∧ps.Nodup∧ps.length≤16∧(∀ q∈ps,q.Ok 140)∧∀ (p:Addr) (qs:List Pl) (ts:List (List Pl)),M p=none→qs.Perm ps→dD qs→ts.Perm (oU qs qs.length)→ts.Pairwise (fun a b=>dR b a=false)→Q (.ref p) (aC M p (.lst (ts.map tD)))
theorem Co (T:Txt K mg t):cg P w K mg base fE 6 t.uB t.qB ["places"] (pP K DT):=by
 refine u9 T.uJ iR (fun ds M Q h=>by (first | (obtain ⟨_,rfl,_⟩:=h;rfl) | (obtain ⟨_,_,rfl,_⟩:=h;rfl) | (obtain ⟨_,_,_,rfl,_⟩:=h;rfl) | (obtain ⟨_,_,_,_,rfl,_⟩:=h;rfl) | (obtain ⟨_,_,_,_,_,rfl,_⟩:=h;rfl) | (obtain ⟨_,_,_,_,_,_,rfl,_⟩:=h;rfl) | (obtain ⟨_,_,_,_,_,_,_,rfl,_⟩:=h;rfl))) (fun cdv A outer s H hr=>?_)
 have hu:=hr.units
 refine ⟨_,(au (aS (i:=1) iR.nd rfl (Or.inl rfl) (aF pY (by rfl) T.gp c7 (aa (af 0) aj)))
  (au (aS (i:=2) iR.nd rfl (Or.inl rfl) (cW aj))
  (au (iZ PassesOwn.never rfl (by rfl) T.bY (aa (aF cJ (by rfl) T.bR aN (aa (af 1) aj)) aj) (dJ (i:=3) iR.nd rfl (Or.inl rfl)) (au (aS (i:=4) iR.nd rfl (Or.inr rfl) (aE (af 1) (af 3)))
  (au (IA (j:=5) (k8 (ys:=["p"]) (fs:=[4]) rfl (by show bJ (av kM) ["places","line","cover","k","p","seen"] _ _ _ _=true;decide +kernel) (bW (n9 T) (hr.mono (by decide)) (by rfl) T.oW T.fM.kp (n8 T) (aa (jY (af 1) Bg (qa (af 3))) aj)) (fun cl C s0 H0 ex=>sM (aI (cV hu) (aL (uX T) (hr.mono (by decide)) (by rfl) T.xN T.qE.kp (uW T) (aa (aE (af 0) ah) (aa (aE (af 0) ah) (aa (af 1) aj)))) (iM ah) (aA _))) (fun cl C s0 H0 ex=>(af 0))) iR.nd rfl (Or.inl rfl))
  (aB (nH (Em (af 2) (lR (k8 (ys:=["p"]) (fs:=[4]) rfl (by show bJ (av kM) ["places","line","cover","k","p","seen"] _ _ _ _=true;decide +kernel) (af 5) (fun cl C s0 H0 ex=>jX) (fun cl C s0 H0 ex=>(aL (kJ T) (hr.mono (by decide)) (by rfl) T.lA T.fj.kp (kI T) (aa (aE (af 0) ah) (aa (aE (af 0) ah) (aa (af 1) aj))))))) (vq PySem.F.plainAttrs_list PySem.F.slot_list_extend PySem.F.type_list_extend rZ (cN.dn (af 2)) (kN (cN.dn (lR (k8 (ys:=["p"]) (fs:=[4]) rfl (by show bJ (av kM) ["places","line","cover","k","p","seen"] _ _ _ _=true;decide +kernel) (af 5) (fun cl C s0 H0 ex=>jX) (fun cl C s0 H0 ex=>(aL (kJ T) (hr.mono (by decide)) (by rfl) T.lA T.fj.kp (kI T) (aa (aE (af 0) ah) (aa (aE (af 0) ah) (aa (af 1) aj)))))))) nu))))))))
  (aB (aD (aF (nJ (n:=3) (.inr rfl) hu) (by rfl) T.gp c7 (aa (af 2) aj))))))),fun ds M Q h=>?_⟩
 obtain ⟨l,rfl,ps,hM,nd,O2,ho,h⟩:=h
 have sl:(1000:Nat) < sizeLine:=by decide
 walk_at "rd"
 refine ⟨l,ps,rfl,hM,by omega,fun a qs ha cC nh=>?_⟩
 have O3:qs.Nodup:=cC.nodup_iff.mpr nd
 have strict:=zQ nh O3
 have oq:∀ q∈qs,q.Ok 140:=fun q hq=>ho q (cC.mem_iff.mp hq)
 have lq:qs.length≤16:=by rw [cC.length_eq];exact O2
 have vd:dD qs:=⟨strict,fun q hq=>(oq q hq).2⟩
 have hA:aC M a (.lst (qs.map Pl.d)) a=some (.lst (qs.map Pl.d)):=ai
 have le:=Le.new (o:=MO.lst (qs.map Pl.d)) ha
 generalize aC M a (.lst (qs.map Pl.d))=M1 at hA le ⊢
 walk_at "rd"
 intro b hb
 have nb:M b=none:=le.free hb
 have nab:a≠b:=fun z=>by rw [← z,hA] at hb;cases hb
 have hA:=az (u:=MO.lst []) hA hb
 have le:=le.trans (Le.new (o:=MO.lst []) hb)
 have hB:aC M1 b (.lst []) b=some (.lst []):=ai
 generalize aC M1 b (.lst [])=M2 at hA hB le ⊢
 walk_at "rd"
 refine ⟨_,_,rfl,.inr (.inr ⟨a,rfl,hA⟩),?_⟩
 rw [List.length_map]
 walk_at "rd"
 refine ⟨by omega,by omega,?_⟩
 refine bu (fun i ρ M'=> ∃ (y1 y2 y3:Option L3.D),ρ= [some (.ref l),some (.ref a),some (.ref b),y1,y2,y3]∧Le M M'∧M' a=some (.lst (qs.map Pl.d))∧M' b=some (.lst ((oU qs i).map tD))) _ ?_ ?_ ⟨_,_,_,rfl,le,hA,hB⟩
 ·rintro i v ρ M' N uS ⟨y1,y2,y3,rfl,le,hA,hB⟩ hN
  obtain ⟨hi,rfl⟩:=bg uS
  have hi:i < qs.length:=by omega
  obtain ⟨p,hp⟩:∃ p,qs[i]?=some p:=⟨qs[i],List.getElem?_eq_getElem hi⟩
  have mp:=List.mem_of_getElem? hp
  have ep:p=vc qs i:=by unfold vc;rw [List.getD_eq_getElem?_getD,hp];rfl
  have lc:=pC vd i (by omega)
  refine ⟨trivial,?_⟩
  walk_at "rd"
  refine ⟨_,_,_,.inr (.inr ⟨a,rfl,hA⟩),rfl,bI (by rw [List.getElem?_map,hp];rfl),?_⟩
  walk_at "rd"
  refine ⟨_,.of hA,fun c hc=>?_⟩
  have ec:cutD (qs.map Pl.d) none (some (i:Int))=(qs.take i).map Pl.d:=vQ Pl.d qs i (by omega)
  rw [ec]
  have hA:=az (u:=MO.lst ((qs.take i).map Pl.d)) hA hc
  have hB:=az (u:=MO.lst ((qs.take i).map Pl.d)) hB hc
  have le:=le.trans (Le.new (o:=MO.lst ((qs.take i).map Pl.d)) hc)
  have hC:aC M' c (.lst ((qs.take i).map Pl.d)) c=some (.lst ((qs.take i).map Pl.d)):=ai
  generalize aC M' c (.lst ((qs.take i).map Pl.d))=M3 at hA hB hC le ⊢
  walk_at "rd"
  refine ⟨c,qs.take i,rfl,hC,by rw [List.length_take];omega,fun q hq=>oq q (List.mem_of_mem_take hq),fun d us hd GC GD=>?_⟩
  obtain rfl:=vU GC GD (nh.sublist (List.take_sublist _ _))
  have hW:∀ w∈cQ (cj (qs.take i)),∃ x y,w= [x,y]∧x∈qs∧y∈qs:=fun w hw=>by
   obtain ⟨x,y,e,hx,hy⟩:=Aj hw
   exact ⟨x,y,e,List.mem_of_mem_take hx,List.mem_of_mem_take hy⟩
  have lw:=xW (qs.take i)
  rw [List.length_take] at lw
  have lw:(cQ (cj (qs.take i))).length≤32:=by omega
  obtain ⟨ws,Nd⟩:∃ ws,SL (qs.take i)=ws:=⟨_,rfl⟩
  rw [show cQ (cj (qs.take i))=ws from Nd] at hW lw ⊢
  have hA:=az (u:=MO.lst (ws.map tD)) hA hd
  have hB:=az (u:=MO.lst (ws.map tD)) hB hd
  have le:=le.trans (Le.new (o:=MO.lst (ws.map tD)) hd)
  have hD:aC M3 d (.lst (ws.map tD)) d=some (.lst (ws.map tD)):=ai
  generalize aC M3 d (.lst (ws.map tD))=M4 at hA hB hD le ⊢
  refine ⟨d,_,rfl,hD,by rw [List.length_map];omega,aQ.mk (bM (fun j acc M5=>M5=M4∧acc=((ws.take j).filter (zh p)).map tD) _ ?_ ?_ ⟨rfl,rfl⟩)⟩
  ·rintro j v acc M5 N2 gj ⟨rfl,rfl⟩ jG
   obtain ⟨w',hw,rfl⟩:=ic gj
   obtain ⟨x,y,rfl,mx,my⟩:=hW w' (List.mem_of_getElem? hw)
   refine ⟨hD,?_⟩
   refine ⟨_,rfl,?_⟩
   refine ⟨_,_,_,Or.inl rfl,rfl,rfl,?_⟩
   refine ⟨_,rfl,?_⟩
   refine ⟨_,_,_,Or.inl rfl,rfl,rfl,?_⟩
   walk_at "rd"
   refine ⟨oq x mx,oq y my,oq p mp,?_⟩
   walk_at "rd"
   rw [bU]
   refine bD (fun k=>?_) (fun k=>?_)
   ·have k:tw x y p < 0:=Int.sign_eq_neg_one_iff_neg.mp (eq_of_beq k)
    walk_at "rd"
    refine jG _ _ ⟨rfl,?_⟩
    rw [bZ hw,if_pos (show zh p [x,y]=true from decide_eq_true k),List.map_append]
    rfl
   ·have k:¬ tw x y p < 0:=fun z=>k (by rw [Int.sign_eq_neg_one_of_neg z];rfl)
    refine jG _ _ ⟨rfl,?_⟩
    rw [bZ hw,if_neg (fun z:zh p [x,y]=true=>k (of_decide_eq_true z)),List.append_nil]
  ·rintro acc M5 ⟨rfl,rfl⟩
   refine ⟨hD,fun f hf=>?_⟩
   rw [List.length_map,List.take_length]
   have hS:∀ w∈ws.filter (zh p),∃ x y,w= [x,y]∧x∈qs∧y∈qs∧tw x y p < 0:=fun w hw=>by
    obtain ⟨hw,sw⟩:=List.mem_filter.mp hw
    obtain ⟨x,y,rfl,mx,my⟩:=hW w hw
    exact ⟨x,y,rfl,mx,my,of_decide_eq_true sw⟩
   have ls:(ws.filter (zh p)).length≤32:=Nat.le_trans (List.length_filter_le _ _) lw
   obtain ⟨ss,Nf⟩:∃ ss,ws.filter (zh p)=ss:=⟨_,rfl⟩
   rw [Nf] at hS ls ⊢
   have hA:=az (u:=MO.lst (ss.map tD)) hA hf
   have hB:=az (u:=MO.lst (ss.map tD)) hB hf
   have le:=le.trans (Le.new (o:=MO.lst (ss.map tD)) hf)
   have hF:aC M5 f (.lst (ss.map tD)) f=some (.lst (ss.map tD)):=ai
   generalize aC M5 f (.lst (ss.map tD))=M6 at hA hB hF le ⊢
   walk_at "rd"
   refine ⟨⟨b,_,rfl,hB⟩,?_⟩
   walk_at "rd"
   refine ⟨f,_,rfl,hF,by rw [List.length_map];omega,aQ.mk (bM (fun j acc M5=>M5=M6∧acc=((ss.take j).map (BV p)).map tD) _ ?_ ?_ ⟨rfl,rfl⟩)⟩
   ·rintro j v acc M5 N2 gj ⟨rfl,rfl⟩ jG
    obtain ⟨w',hw,rfl⟩:=ic gj
    obtain ⟨x,y,rfl,mx,my,sx⟩:=hS w' (List.mem_of_getElem? hw)
    refine ⟨hF,?_⟩
    walk_at "rd"
    refine ⟨oq x mx,oq y my,oq p mp,by omega,?_⟩
    walk_at "rd"
    refine jG _ _ ⟨rfl,?_⟩
    rw [Ak hw,List.map_append]
    rfl
   ·rintro acc M5 ⟨rfl,rfl⟩
    refine ⟨hF,fun g hg=>?_⟩
    rw [List.length_map,List.take_length]
    have QC:b≠g:=fun z=>by rw [z,hg] at hB;cases hB
    refine ⟨b,g,_,_,rfl,rfl,az hB hg,ai,by rw [List.length_map,List.length_map,List.length_map];omega,?_⟩
    rw [← List.map_append]
    have en:oU qs (i+1)=oU qs i ++ ss.map (BV p):=by
     show oU qs i ++ (cL (qs.take i) (vc qs i)).map (BV (vc qs i))=_
     rw [← ep]
     unfold cL
     rw [Nd,Nf]
    rw [← en]
    refine hN _ _ ⟨_,_,_,rfl,fun x o e=>?_,?_,ai⟩
    ·rw [bC (fun z=>by rw [z,nb] at e;cases e)]
     exact az (le _ _ e) hg
    ·rw [bC nab]
     exact az hA hg
 ·rintro ρ M' ⟨y1,y2,y3,rfl,le,hA,hB⟩
  refine ⟨trivial,?_⟩
  rw [List.length_map,List.length_range,show ((qs.length:Int)).toNat=qs.length by omega] at hB
  have lc:=pC vd qs.length (Nat.le_refl _)
  walk_at "rd"
  refine ⟨b,_,rfl,hB,fun t ht=>?_,by omega,fun g rs hg GF GG=>?_⟩
  ·obtain ⟨⟨u,v,w,e,_⟩,_⟩:=uq vd qs.length (Nat.le_refl _) t ht
   rw [e]
   rfl
  exact aQ.mk ⟨_,le.put,h g qs rs (le.free hg) cC vd GF GG⟩
theorem cU (T:Txt K mg t):Binds K t.b8 ["_law_found","_law_due"] []:=T.bG.binds fun _ _ _ _ _ _ us hl=>match us,hl with | [_,_],_=>rfl
theorem o4 (T:Txt K mg t):cg P w K mg base fE 0 t.cB t.b8 ["_law_found","_law_due"] (pP K fun _ _ _=>False):=Dr
def qN:pB:=yH 1
theorem o5 (T:Txt K mg t):cg P w K mg base fE 1 t.cB t.b8 ["_law_found","_law_due"] (pP K qN):=by
 refine u9 T.bG b9 (fun ds M Q h=>by (first | (obtain ⟨_,rfl,_⟩:=h;rfl) | (obtain ⟨_,_,rfl,_⟩:=h;rfl) | (obtain ⟨_,_,_,rfl,_⟩:=h;rfl) | (obtain ⟨_,_,_,_,rfl,_⟩:=h;rfl) | (obtain ⟨_,_,_,_,_,rfl,_⟩:=h;rfl) | (obtain ⟨_,_,_,_,_,_,rfl,_⟩:=h;rfl) | (obtain ⟨_,_,_,_,_,_,_,rfl,_⟩:=h;rfl))) (fun cdv A outer s H hr=>?_)
 have hu:=hr.units
 refine ⟨_,(au (bX (ni.pt (nF (aI gR (af 1) gv (aA _)) (jy (gw (aF bN (by rfl) T.ay aq (aa (af 1) (aa (aX (by rfl) T.kB dP) aj))))))) (aB (aD (CY (aI gR (af 1) gv (aA _)) (fS gR (af 0) gv (aA _)) (jz (aF bN (by rfl) T.ay aq (aa (af 0) (aa (aX (by rfl) T.kB dP) aj))) (mE (fS (cV hu) (af 0) (af 1) (aA _))))))) aU)
  (au (bX (gw (aF bN (by rfl) T.ay aq (aa (af 1) (aa (aX (by rfl) T.kr dO) aj)))) (aB (aD (jz (aF bN (by rfl) T.ay aq (aa (af 0) (aa (aX (by rfl) T.kr dO) aj))) (jz (yo (aF bN (by rfl) T.ay aq (aa (af 0) (aa (aX (by rfl) T.pF i0) aj)))) (mE (fS (cV hu) (af 0) (af 1) (aA _))))))) aU)
  (au (bX (ni.pt (nF (aI (oQ hu) (aF bN (by rfl) T.ay aq (aa (af 0) (aa (aX (by rfl) T.fB cK) aj))) (aF bN (by rfl) T.ay aq (aa (af 1) (aa (aX (by rfl) T.fB cK) aj))) (aA _)) (jy (aI (oQ hu) (aF bN (by rfl) T.ay aq (aa (af 0) (aa (aX (by rfl) T.di bL) aj))) (aF bN (by rfl) T.ay aq (aa (af 1) (aa (aX (by rfl) T.di bL) aj))) (aA _))))) (aB (aD g9)) aU)
  (au (bX (aI (oQ hu) (aF cJ (by rfl) T.bR aN (aa (af 0) aj)) (aF cJ (by rfl) T.bR aN (aa (af 1) aj)) (aA _)) (aB (aD g9)) aU)
  (au (iZ PassesOwn.never rfl (by rfl) T.bY (aa (aF cJ (by rfl) T.bR aN (aa (af 1) aj)) aj) (dJ (i:=2) b9.nd rfl (Or.inl rfl)) (aB (bX (k_not (gw (bW (o4 T) (hr.mono (by decide)) (by rfl) T.dh T.bG.kp (cU T) (aa (aE (af 0) (af 2)) (aa (aE (af 1) (af 2)) aj))))) (aB (aD g9)) aU)))
  (aB (aD g9))))))),fun ds M Q h=>?_⟩
 obtain ⟨d,e,rfl,ha,h⟩:=h
 rcases ha with ⟨rfl,ha⟩ | ⟨f,g,xs,rfl,rfl,hf,hg,hx,hl⟩
 ·cases d with
  | int i=>
    walk_at "rd"
    refine ⟨_,_,_,false,rfl,.int _,by rfl,?_⟩
    walk_at "rd"
    refine ⟨_,_,_,false,rfl,.int _,by rfl,?_⟩
    walk_at "rd"
    have e:cX (.int i) (.int i)=true:=by rw [bU];simp
    rw [e]
    exact aQ.mk ⟨_,Le.refl _,h⟩
  | bE=>
    walk_at "rd"
    exact aQ.mk ⟨_,Le.refl _,h⟩
  | str x=>
    walk_at "rd"
    refine ⟨_,_,_,true,rfl,.str _,bF,?_⟩
    walk_at "rd"
    refine ⟨_,_,_,true,rfl,.str _,bF,?_⟩
    walk_at "rd"
    have e:cX (.str x) (.str x)=true:=iN 1 _ rfl
    rw [e]
    exact aQ.mk ⟨_,Le.refl _,h⟩
  | tup xs=>
    obtain ⟨hl,hx⟩:xs.length≤1000∧xs.all (sR 0)=true:=by
     have ha:(decide (xs.length≤1000) && xs.all (sR 0))=true:=ha
     rw [Bool.and_eq_true] at ha
     exact ⟨of_decide_eq_true ha.1,ha.2⟩
    walk_at "rd"
    refine ⟨_,_,_,false,rfl,.tup _,by rfl,?_⟩
    walk_at "rd"
    refine ⟨_,_,_,false,rfl,.tup _,by rfl,?_⟩
    walk_at "rd"
    refine ⟨_,_,_,false,rfl,.tup _,by rfl,?_⟩
    walk_at "rd"
    refine ⟨_,_,_,false,rfl,.tup _,by rfl,?_⟩
    walk_at "rd"
    rw [jW]
    refine bD (fun z=>absurd rfl (of_decide_eq_true z)) (fun _=>?_)
    walk_at "rd"
    refine ⟨by omega,by omega,?_⟩
    refine bu (fun i ρ M'=>M'=M∧∃ y:Option L3.D,ρ= [some (.tup xs),some (.tup xs),y]) _ ?_ ?_ ⟨rfl,_,rfl⟩
    ·rintro i x ρ M' Nx uS ⟨rfl,y,rfl⟩ hN
     obtain ⟨hi,rfl⟩:=bg uS
     have hi:i < xs.length:=by simpa using hi
     have gx:xs[i]?=some xs[i]:=List.getElem?_eq_getElem hi
     have gj:sR 0 xs[i]=true:=List.all_eq_true.mp hx _ (List.getElem_mem hi)
     refine ⟨trivial,?_⟩
     walk_at "rd"
     exact absurd gj (by show ¬ false=true;decide)
    ·rintro ρ M' ⟨rfl,y,rfl⟩
     refine ⟨trivial,?_⟩
     walk_at "rd"
     exact aQ.mk ⟨_,Le.refl _,h⟩
  | _=>cases ha
 ·walk_at "rd"
  refine ⟨_,_,_,false,rfl,.lst hg,by rfl,?_⟩
  walk_at "rd"
  refine ⟨_,_,_,false,rfl,.lst hg,by rfl,?_⟩
  walk_at "rd"
  refine ⟨_,_,_,false,rfl,.lst hf,by rfl,?_⟩
  walk_at "rd"
  refine ⟨_,_,_,false,rfl,.lst hg,by rfl,?_⟩
  walk_at "rd"
  refine ⟨_,_,_,true,rfl,.lst hf,bF,?_⟩
  walk_at "rd"
  refine ⟨_,_,_,true,rfl,.lst hg,bF,?_⟩
  walk_at "rd"
  refine ⟨_,_,rfl,.inr (.inr ⟨f,rfl,hf⟩),?_⟩
  walk_at "rd"
  refine ⟨_,_,rfl,.inr (.inr ⟨g,rfl,hg⟩),?_⟩
  walk_at "rd"
  rw [jW]
  refine bD (fun z=>absurd rfl (of_decide_eq_true z)) (fun _=>?_)
  walk_at "rd"
  refine ⟨_,_,rfl,.inr (.inr ⟨g,rfl,hg⟩),?_⟩
  refine ⟨_,rfl,by omega,by omega,?_⟩
  refine bu (fun i ρ M'=>M'=M∧∃ y:Option L3.D,ρ= [some (.ref f),some (.ref g),y]) _ ?_ ?_ ⟨rfl,_,rfl⟩
  ·rintro i x ρ M' Nx uS ⟨rfl,y,rfl⟩ hN
   obtain ⟨hi,rfl⟩:=bg uS
   have hi:i < xs.length:=by simpa using hi
   have gx:xs[i]?=some xs[i]:=List.getElem?_eq_getElem hi
   have gj:sR 0 xs[i]=true:=List.all_eq_true.mp hx _ (List.getElem_mem hi)
   refine ⟨trivial,?_⟩
   walk_at "rd"
   exact absurd gj (by show ¬ false=true;decide)
  ·rintro ρ M' ⟨rfl,y,rfl⟩
   refine ⟨trivial,?_⟩
   walk_at "rd"
   exact aQ.mk ⟨_,Le.refl _,h⟩
def qO:pB:=yH 2
theorem o6 (T:Txt K mg t):cg P w K mg base fE 2 t.cB t.b8 ["_law_found","_law_due"] (pP K qO):=by
 refine u9 T.bG b9 (fun ds M Q h=>by (first | (obtain ⟨_,rfl,_⟩:=h;rfl) | (obtain ⟨_,_,rfl,_⟩:=h;rfl) | (obtain ⟨_,_,_,rfl,_⟩:=h;rfl) | (obtain ⟨_,_,_,_,rfl,_⟩:=h;rfl) | (obtain ⟨_,_,_,_,_,rfl,_⟩:=h;rfl) | (obtain ⟨_,_,_,_,_,_,rfl,_⟩:=h;rfl) | (obtain ⟨_,_,_,_,_,_,_,rfl,_⟩:=h;rfl))) (fun cdv A outer s H hr=>?_)
 have hu:=hr.units
 refine ⟨_,(au (bX (ni.pt (nF (aI gR (af 1) gv (aA _)) (jy (gw (aF bN (by rfl) T.ay aq (aa (af 1) (aa (aX (by rfl) T.kB dP) aj))))))) (aB (aD (CY (aI gR (af 1) gv (aA _)) (fS gR (af 0) gv (aA _)) (jz (aF bN (by rfl) T.ay aq (aa (af 0) (aa (aX (by rfl) T.kB dP) aj))) (mE (fS (cV hu) (af 0) (af 1) (aA _))))))) aU)
  (au (bX (gw (aF bN (by rfl) T.ay aq (aa (af 1) (aa (aX (by rfl) T.kr dO) aj)))) (aB (aD (jz (aF bN (by rfl) T.ay aq (aa (af 0) (aa (aX (by rfl) T.kr dO) aj))) (jz (yo (aF bN (by rfl) T.ay aq (aa (af 0) (aa (aX (by rfl) T.pF i0) aj)))) (mE (fS (cV hu) (af 0) (af 1) (aA _))))))) aU)
  (au (bX (ni.pt (nF (aI (oQ hu) (aF bN (by rfl) T.ay aq (aa (af 0) (aa (aX (by rfl) T.fB cK) aj))) (aF bN (by rfl) T.ay aq (aa (af 1) (aa (aX (by rfl) T.fB cK) aj))) (aA _)) (jy (aI (oQ hu) (aF bN (by rfl) T.ay aq (aa (af 0) (aa (aX (by rfl) T.di bL) aj))) (aF bN (by rfl) T.ay aq (aa (af 1) (aa (aX (by rfl) T.di bL) aj))) (aA _))))) (aB (aD g9)) aU)
  (au (bX (aI (oQ hu) (aF cJ (by rfl) T.bR aN (aa (af 0) aj)) (aF cJ (by rfl) T.bR aN (aa (af 1) aj)) (aA _)) (aB (aD g9)) aU)
  (au (iZ PassesOwn.never rfl (by rfl) T.bY (aa (aF cJ (by rfl) T.bR aN (aa (af 1) aj)) aj) (dJ (i:=2) b9.nd rfl (Or.inl rfl)) (aB (bX (k_not (gw (bW (o5 T) (hr.mono (by decide)) (by rfl) T.dh T.bG.kp (cU T) (aa (aE (af 0) (af 2)) (aa (aE (af 1) (af 2)) aj))))) (aB (aD g9)) aU)))
  (aB (aD g9))))))),fun ds M Q h=>?_⟩
 obtain ⟨d,e,rfl,ha,h⟩:=h
 rcases ha with ⟨rfl,ha⟩ | ⟨f,g,xs,rfl,rfl,hf,hg,hx,hl⟩
 ·cases d with
  | int i=>
    walk_at "rd"
    refine ⟨_,_,_,false,rfl,.int _,by rfl,?_⟩
    walk_at "rd"
    refine ⟨_,_,_,false,rfl,.int _,by rfl,?_⟩
    walk_at "rd"
    have e:cX (.int i) (.int i)=true:=by rw [bU];simp
    rw [e]
    exact aQ.mk ⟨_,Le.refl _,h⟩
  | bE=>
    walk_at "rd"
    exact aQ.mk ⟨_,Le.refl _,h⟩
  | str x=>
    walk_at "rd"
    refine ⟨_,_,_,true,rfl,.str _,bF,?_⟩
    walk_at "rd"
    refine ⟨_,_,_,true,rfl,.str _,bF,?_⟩
    walk_at "rd"
    have e:cX (.str x) (.str x)=true:=iN 1 _ rfl
    rw [e]
    exact aQ.mk ⟨_,Le.refl _,h⟩
  | tup xs=>
    obtain ⟨hl,hx⟩:xs.length≤1000∧xs.all (sR 1)=true:=by
     have ha:(decide (xs.length≤1000) && xs.all (sR 1))=true:=ha
     rw [Bool.and_eq_true] at ha
     exact ⟨of_decide_eq_true ha.1,ha.2⟩
    walk_at "rd"
    refine ⟨_,_,_,false,rfl,.tup _,by rfl,?_⟩
    walk_at "rd"
    refine ⟨_,_,_,false,rfl,.tup _,by rfl,?_⟩
    walk_at "rd"
    refine ⟨_,_,_,false,rfl,.tup _,by rfl,?_⟩
    walk_at "rd"
    refine ⟨_,_,_,false,rfl,.tup _,by rfl,?_⟩
    walk_at "rd"
    rw [jW]
    refine bD (fun z=>absurd rfl (of_decide_eq_true z)) (fun _=>?_)
    walk_at "rd"
    refine ⟨by omega,by omega,?_⟩
    refine bu (fun i ρ M'=>M'=M∧∃ y:Option L3.D,ρ= [some (.tup xs),some (.tup xs),y]) _ ?_ ?_ ⟨rfl,_,rfl⟩
    ·rintro i x ρ M' Nx uS ⟨rfl,y,rfl⟩ hN
     obtain ⟨hi,rfl⟩:=bg uS
     have hi:i < xs.length:=by simpa using hi
     have gx:xs[i]?=some xs[i]:=List.getElem?_eq_getElem hi
     have gj:sR 1 xs[i]=true:=List.all_eq_true.mp hx _ (List.getElem_mem hi)
     refine ⟨trivial,?_⟩
     walk_at "rd"
     refine ⟨_,_,xs[i],.inl rfl,rfl,bI gx,?_⟩
     walk_at "rd"
     refine ⟨_,_,xs[i],.inl rfl,rfl,bI gx,?_⟩
     walk_at "rd"
     refine ⟨.inl ⟨rfl,gj⟩,?_⟩
     walk_at "rd"
     exact hN _ _ ⟨rfl,_,rfl⟩
    ·rintro ρ M' ⟨rfl,y,rfl⟩
     refine ⟨trivial,?_⟩
     walk_at "rd"
     exact aQ.mk ⟨_,Le.refl _,h⟩
  | _=>cases ha
 ·walk_at "rd"
  refine ⟨_,_,_,false,rfl,.lst hg,by rfl,?_⟩
  walk_at "rd"
  refine ⟨_,_,_,false,rfl,.lst hg,by rfl,?_⟩
  walk_at "rd"
  refine ⟨_,_,_,false,rfl,.lst hf,by rfl,?_⟩
  walk_at "rd"
  refine ⟨_,_,_,false,rfl,.lst hg,by rfl,?_⟩
  walk_at "rd"
  refine ⟨_,_,_,true,rfl,.lst hf,bF,?_⟩
  walk_at "rd"
  refine ⟨_,_,_,true,rfl,.lst hg,bF,?_⟩
  walk_at "rd"
  refine ⟨_,_,rfl,.inr (.inr ⟨f,rfl,hf⟩),?_⟩
  walk_at "rd"
  refine ⟨_,_,rfl,.inr (.inr ⟨g,rfl,hg⟩),?_⟩
  walk_at "rd"
  rw [jW]
  refine bD (fun z=>absurd rfl (of_decide_eq_true z)) (fun _=>?_)
  walk_at "rd"
  refine ⟨_,_,rfl,.inr (.inr ⟨g,rfl,hg⟩),?_⟩
  refine ⟨_,rfl,by omega,by omega,?_⟩
  refine bu (fun i ρ M'=>M'=M∧∃ y:Option L3.D,ρ= [some (.ref f),some (.ref g),y]) _ ?_ ?_ ⟨rfl,_,rfl⟩
  ·rintro i x ρ M' Nx uS ⟨rfl,y,rfl⟩ hN
   obtain ⟨hi,rfl⟩:=bg uS
   have hi:i < xs.length:=by simpa using hi
   have gx:xs[i]?=some xs[i]:=List.getElem?_eq_getElem hi
   have gj:sR 1 xs[i]=true:=List.all_eq_true.mp hx _ (List.getElem_mem hi)
   refine ⟨trivial,?_⟩
   walk_at "rd"
   refine ⟨_,_,xs[i],.inr (.inr ⟨f,rfl,hf⟩),rfl,bI gx,?_⟩
   walk_at "rd"
   refine ⟨_,_,xs[i],.inr (.inr ⟨g,rfl,hg⟩),rfl,bI gx,?_⟩
   walk_at "rd"
   refine ⟨.inl ⟨rfl,gj⟩,?_⟩
   walk_at "rd"
   exact hN _ _ ⟨rfl,_,rfl⟩
  ·rintro ρ M' ⟨rfl,y,rfl⟩
   refine ⟨trivial,?_⟩
   walk_at "rd"
   exact aQ.mk ⟨_,Le.refl _,h⟩
def qP:pB:=yH 3
theorem o7 (T:Txt K mg t):cg P w K mg base fE 3 t.cB t.b8 ["_law_found","_law_due"] (pP K qP):=by
 refine u9 T.bG b9 (fun ds M Q h=>by (first | (obtain ⟨_,rfl,_⟩:=h;rfl) | (obtain ⟨_,_,rfl,_⟩:=h;rfl) | (obtain ⟨_,_,_,rfl,_⟩:=h;rfl) | (obtain ⟨_,_,_,_,rfl,_⟩:=h;rfl) | (obtain ⟨_,_,_,_,_,rfl,_⟩:=h;rfl) | (obtain ⟨_,_,_,_,_,_,rfl,_⟩:=h;rfl) | (obtain ⟨_,_,_,_,_,_,_,rfl,_⟩:=h;rfl))) (fun cdv A outer s H hr=>?_)
 have hu:=hr.units
 refine ⟨_,(au (bX (ni.pt (nF (aI gR (af 1) gv (aA _)) (jy (gw (aF bN (by rfl) T.ay aq (aa (af 1) (aa (aX (by rfl) T.kB dP) aj))))))) (aB (aD (CY (aI gR (af 1) gv (aA _)) (fS gR (af 0) gv (aA _)) (jz (aF bN (by rfl) T.ay aq (aa (af 0) (aa (aX (by rfl) T.kB dP) aj))) (mE (fS (cV hu) (af 0) (af 1) (aA _))))))) aU)
  (au (bX (gw (aF bN (by rfl) T.ay aq (aa (af 1) (aa (aX (by rfl) T.kr dO) aj)))) (aB (aD (jz (aF bN (by rfl) T.ay aq (aa (af 0) (aa (aX (by rfl) T.kr dO) aj))) (jz (yo (aF bN (by rfl) T.ay aq (aa (af 0) (aa (aX (by rfl) T.pF i0) aj)))) (mE (fS (cV hu) (af 0) (af 1) (aA _))))))) aU)
  (au (bX (ni.pt (nF (aI (oQ hu) (aF bN (by rfl) T.ay aq (aa (af 0) (aa (aX (by rfl) T.fB cK) aj))) (aF bN (by rfl) T.ay aq (aa (af 1) (aa (aX (by rfl) T.fB cK) aj))) (aA _)) (jy (aI (oQ hu) (aF bN (by rfl) T.ay aq (aa (af 0) (aa (aX (by rfl) T.di bL) aj))) (aF bN (by rfl) T.ay aq (aa (af 1) (aa (aX (by rfl) T.di bL) aj))) (aA _))))) (aB (aD g9)) aU)
  (au (bX (aI (oQ hu) (aF cJ (by rfl) T.bR aN (aa (af 0) aj)) (aF cJ (by rfl) T.bR aN (aa (af 1) aj)) (aA _)) (aB (aD g9)) aU)
  (au (iZ PassesOwn.never rfl (by rfl) T.bY (aa (aF cJ (by rfl) T.bR aN (aa (af 1) aj)) aj) (dJ (i:=2) b9.nd rfl (Or.inl rfl)) (aB (bX (k_not (gw (bW (o6 T) (hr.mono (by decide)) (by rfl) T.dh T.bG.kp (cU T) (aa (aE (af 0) (af 2)) (aa (aE (af 1) (af 2)) aj))))) (aB (aD g9)) aU)))
  (aB (aD g9))))))),fun ds M Q h=>?_⟩
 obtain ⟨d,e,rfl,ha,h⟩:=h
 rcases ha with ⟨rfl,ha⟩ | ⟨f,g,xs,rfl,rfl,hf,hg,hx,hl⟩
 ·cases d with
  | int i=>
    walk_at "rd"
    refine ⟨_,_,_,false,rfl,.int _,by rfl,?_⟩
    walk_at "rd"
    refine ⟨_,_,_,false,rfl,.int _,by rfl,?_⟩
    walk_at "rd"
    have e:cX (.int i) (.int i)=true:=by rw [bU];simp
    rw [e]
    exact aQ.mk ⟨_,Le.refl _,h⟩
  | bE=>
    walk_at "rd"
    exact aQ.mk ⟨_,Le.refl _,h⟩
  | str x=>
    walk_at "rd"
    refine ⟨_,_,_,true,rfl,.str _,bF,?_⟩
    walk_at "rd"
    refine ⟨_,_,_,true,rfl,.str _,bF,?_⟩
    walk_at "rd"
    have e:cX (.str x) (.str x)=true:=iN 1 _ rfl
    rw [e]
    exact aQ.mk ⟨_,Le.refl _,h⟩
  | tup xs=>
    obtain ⟨hl,hx⟩:xs.length≤1000∧xs.all (sR 2)=true:=by
     have ha:(decide (xs.length≤1000) && xs.all (sR 2))=true:=ha
     rw [Bool.and_eq_true] at ha
     exact ⟨of_decide_eq_true ha.1,ha.2⟩
    walk_at "rd"
    refine ⟨_,_,_,false,rfl,.tup _,by rfl,?_⟩
    walk_at "rd"
    refine ⟨_,_,_,false,rfl,.tup _,by rfl,?_⟩
    walk_at "rd"
    refine ⟨_,_,_,false,rfl,.tup _,by rfl,?_⟩
    walk_at "rd"
    refine ⟨_,_,_,false,rfl,.tup _,by rfl,?_⟩
    walk_at "rd"
    rw [jW]
    refine bD (fun z=>absurd rfl (of_decide_eq_true z)) (fun _=>?_)
    walk_at "rd"
    refine ⟨by omega,by omega,?_⟩
    refine bu (fun i ρ M'=>M'=M∧∃ y:Option L3.D,ρ= [some (.tup xs),some (.tup xs),y]) _ ?_ ?_ ⟨rfl,_,rfl⟩
    ·rintro i x ρ M' Nx uS ⟨rfl,y,rfl⟩ hN
     obtain ⟨hi,rfl⟩:=bg uS
     have hi:i < xs.length:=by simpa using hi
     have gx:xs[i]?=some xs[i]:=List.getElem?_eq_getElem hi
     have gj:sR 2 xs[i]=true:=List.all_eq_true.mp hx _ (List.getElem_mem hi)
     refine ⟨trivial,?_⟩
     walk_at "rd"
     refine ⟨_,_,xs[i],.inl rfl,rfl,bI gx,?_⟩
     walk_at "rd"
     refine ⟨_,_,xs[i],.inl rfl,rfl,bI gx,?_⟩
     walk_at "rd"
     refine ⟨.inl ⟨rfl,gj⟩,?_⟩
     walk_at "rd"
     exact hN _ _ ⟨rfl,_,rfl⟩
    ·rintro ρ M' ⟨rfl,y,rfl⟩
     refine ⟨trivial,?_⟩
     walk_at "rd"
     exact aQ.mk ⟨_,Le.refl _,h⟩
  | _=>cases ha
 ·walk_at "rd"
  refine ⟨_,_,_,false,rfl,.lst hg,by rfl,?_⟩
  walk_at "rd"
  refine ⟨_,_,_,false,rfl,.lst hg,by rfl,?_⟩
  walk_at "rd"
  refine ⟨_,_,_,false,rfl,.lst hf,by rfl,?_⟩
  walk_at "rd"
  refine ⟨_,_,_,false,rfl,.lst hg,by rfl,?_⟩
  walk_at "rd"
  refine ⟨_,_,_,true,rfl,.lst hf,bF,?_⟩
  walk_at "rd"
  refine ⟨_,_,_,true,rfl,.lst hg,bF,?_⟩
  walk_at "rd"
  refine ⟨_,_,rfl,.inr (.inr ⟨f,rfl,hf⟩),?_⟩
  walk_at "rd"
  refine ⟨_,_,rfl,.inr (.inr ⟨g,rfl,hg⟩),?_⟩
  walk_at "rd"
  rw [jW]
  refine bD (fun z=>absurd rfl (of_decide_eq_true z)) (fun _=>?_)
  walk_at "rd"
  refine ⟨_,_,rfl,.inr (.inr ⟨g,rfl,hg⟩),?_⟩
  refine ⟨_,rfl,by omega,by omega,?_⟩
  refine bu (fun i ρ M'=>M'=M∧∃ y:Option L3.D,ρ= [some (.ref f),some (.ref g),y]) _ ?_ ?_ ⟨rfl,_,rfl⟩
  ·rintro i x ρ M' Nx uS ⟨rfl,y,rfl⟩ hN
   obtain ⟨hi,rfl⟩:=bg uS
   have hi:i < xs.length:=by simpa using hi
   have gx:xs[i]?=some xs[i]:=List.getElem?_eq_getElem hi
   have gj:sR 2 xs[i]=true:=List.all_eq_true.mp hx _ (List.getElem_mem hi)
   refine ⟨trivial,?_⟩
   walk_at "rd"
   refine ⟨_,_,xs[i],.inr (.inr ⟨f,rfl,hf⟩),rfl,bI gx,?_⟩
   walk_at "rd"
   refine ⟨_,_,xs[i],.inr (.inr ⟨g,rfl,hg⟩),rfl,bI gx,?_⟩
   walk_at "rd"
   refine ⟨.inl ⟨rfl,gj⟩,?_⟩
   walk_at "rd"
   exact hN _ _ ⟨rfl,_,rfl⟩
  ·rintro ρ M' ⟨rfl,y,rfl⟩
   refine ⟨trivial,?_⟩
   walk_at "rd"
   exact aQ.mk ⟨_,Le.refl _,h⟩
def kK:pB:=yH 4
theorem o8 (T:Txt K mg t):cg P w K mg base fE 4 t.cB t.b8 ["_law_found","_law_due"] (pP K kK):=by
 refine u9 T.bG b9 (fun ds M Q h=>by (first | (obtain ⟨_,rfl,_⟩:=h;rfl) | (obtain ⟨_,_,rfl,_⟩:=h;rfl) | (obtain ⟨_,_,_,rfl,_⟩:=h;rfl) | (obtain ⟨_,_,_,_,rfl,_⟩:=h;rfl) | (obtain ⟨_,_,_,_,_,rfl,_⟩:=h;rfl) | (obtain ⟨_,_,_,_,_,_,rfl,_⟩:=h;rfl) | (obtain ⟨_,_,_,_,_,_,_,rfl,_⟩:=h;rfl))) (fun cdv A outer s H hr=>?_)
 have hu:=hr.units
 refine ⟨_,(au (bX (ni.pt (nF (aI gR (af 1) gv (aA _)) (jy (gw (aF bN (by rfl) T.ay aq (aa (af 1) (aa (aX (by rfl) T.kB dP) aj))))))) (aB (aD (CY (aI gR (af 1) gv (aA _)) (fS gR (af 0) gv (aA _)) (jz (aF bN (by rfl) T.ay aq (aa (af 0) (aa (aX (by rfl) T.kB dP) aj))) (mE (fS (cV hu) (af 0) (af 1) (aA _))))))) aU)
  (au (bX (gw (aF bN (by rfl) T.ay aq (aa (af 1) (aa (aX (by rfl) T.kr dO) aj)))) (aB (aD (jz (aF bN (by rfl) T.ay aq (aa (af 0) (aa (aX (by rfl) T.kr dO) aj))) (jz (yo (aF bN (by rfl) T.ay aq (aa (af 0) (aa (aX (by rfl) T.pF i0) aj)))) (mE (fS (cV hu) (af 0) (af 1) (aA _))))))) aU)
  (au (bX (ni.pt (nF (aI (oQ hu) (aF bN (by rfl) T.ay aq (aa (af 0) (aa (aX (by rfl) T.fB cK) aj))) (aF bN (by rfl) T.ay aq (aa (af 1) (aa (aX (by rfl) T.fB cK) aj))) (aA _)) (jy (aI (oQ hu) (aF bN (by rfl) T.ay aq (aa (af 0) (aa (aX (by rfl) T.di bL) aj))) (aF bN (by rfl) T.ay aq (aa (af 1) (aa (aX (by rfl) T.di bL) aj))) (aA _))))) (aB (aD g9)) aU)
  (au (bX (aI (oQ hu) (aF cJ (by rfl) T.bR aN (aa (af 0) aj)) (aF cJ (by rfl) T.bR aN (aa (af 1) aj)) (aA _)) (aB (aD g9)) aU)
  (au (iZ PassesOwn.never rfl (by rfl) T.bY (aa (aF cJ (by rfl) T.bR aN (aa (af 1) aj)) aj) (dJ (i:=2) b9.nd rfl (Or.inl rfl)) (aB (bX (k_not (gw (bW (o7 T) (hr.mono (by decide)) (by rfl) T.dh T.bG.kp (cU T) (aa (aE (af 0) (af 2)) (aa (aE (af 1) (af 2)) aj))))) (aB (aD g9)) aU)))
  (aB (aD g9))))))),fun ds M Q h=>?_⟩
 obtain ⟨d,e,rfl,ha,h⟩:=h
 rcases ha with ⟨rfl,ha⟩ | ⟨f,g,xs,rfl,rfl,hf,hg,hx,hl⟩
 ·cases d with
  | int i=>
    walk_at "rd"
    refine ⟨_,_,_,false,rfl,.int _,by rfl,?_⟩
    walk_at "rd"
    refine ⟨_,_,_,false,rfl,.int _,by rfl,?_⟩
    walk_at "rd"
    have e:cX (.int i) (.int i)=true:=by rw [bU];simp
    rw [e]
    exact aQ.mk ⟨_,Le.refl _,h⟩
  | bE=>
    walk_at "rd"
    exact aQ.mk ⟨_,Le.refl _,h⟩
  | str x=>
    walk_at "rd"
    refine ⟨_,_,_,true,rfl,.str _,bF,?_⟩
    walk_at "rd"
    refine ⟨_,_,_,true,rfl,.str _,bF,?_⟩
    walk_at "rd"
    have e:cX (.str x) (.str x)=true:=iN 1 _ rfl
    rw [e]
    exact aQ.mk ⟨_,Le.refl _,h⟩
  | tup xs=>
    obtain ⟨hl,hx⟩:xs.length≤1000∧xs.all (sR 3)=true:=by
     have ha:(decide (xs.length≤1000) && xs.all (sR 3))=true:=ha
     rw [Bool.and_eq_true] at ha
     exact ⟨of_decide_eq_true ha.1,ha.2⟩
    walk_at "rd"
    refine ⟨_,_,_,false,rfl,.tup _,by rfl,?_⟩
    walk_at "rd"
    refine ⟨_,_,_,false,rfl,.tup _,by rfl,?_⟩
    walk_at "rd"
    refine ⟨_,_,_,false,rfl,.tup _,by rfl,?_⟩
    walk_at "rd"
    refine ⟨_,_,_,false,rfl,.tup _,by rfl,?_⟩
    walk_at "rd"
    rw [jW]
    refine bD (fun z=>absurd rfl (of_decide_eq_true z)) (fun _=>?_)
    walk_at "rd"
    refine ⟨by omega,by omega,?_⟩
    refine bu (fun i ρ M'=>M'=M∧∃ y:Option L3.D,ρ= [some (.tup xs),some (.tup xs),y]) _ ?_ ?_ ⟨rfl,_,rfl⟩
    ·rintro i x ρ M' Nx uS ⟨rfl,y,rfl⟩ hN
     obtain ⟨hi,rfl⟩:=bg uS
     have hi:i < xs.length:=by simpa using hi
     have gx:xs[i]?=some xs[i]:=List.getElem?_eq_getElem hi
     have gj:sR 3 xs[i]=true:=List.all_eq_true.mp hx _ (List.getElem_mem hi)
     refine ⟨trivial,?_⟩
     walk_at "rd"
     refine ⟨_,_,xs[i],.inl rfl,rfl,bI gx,?_⟩
     walk_at "rd"
     refine ⟨_,_,xs[i],.inl rfl,rfl,bI gx,?_⟩
     walk_at "rd"
     refine ⟨.inl ⟨rfl,gj⟩,?_⟩
     walk_at "rd"
     exact hN _ _ ⟨rfl,_,rfl⟩
    ·rintro ρ M' ⟨rfl,y,rfl⟩
     refine ⟨trivial,?_⟩
     walk_at "rd"
     exact aQ.mk ⟨_,Le.refl _,h⟩
  | _=>cases ha
 ·walk_at "rd"
  refine ⟨_,_,_,false,rfl,.lst hg,by rfl,?_⟩
  walk_at "rd"
  refine ⟨_,_,_,false,rfl,.lst hg,by rfl,?_⟩
  walk_at "rd"
  refine ⟨_,_,_,false,rfl,.lst hf,by rfl,?_⟩
  walk_at "rd"
  refine ⟨_,_,_,false,rfl,.lst hg,by rfl,?_⟩
  walk_at "rd"
  refine ⟨_,_,_,true,rfl,.lst hf,bF,?_⟩
  walk_at "rd"
  refine ⟨_,_,_,true,rfl,.lst hg,bF,?_⟩
  walk_at "rd"
  refine ⟨_,_,rfl,.inr (.inr ⟨f,rfl,hf⟩),?_⟩
  walk_at "rd"
  refine ⟨_,_,rfl,.inr (.inr ⟨g,rfl,hg⟩),?_⟩
  walk_at "rd"
  rw [jW]
  refine bD (fun z=>absurd rfl (of_decide_eq_true z)) (fun _=>?_)
  walk_at "rd"
  refine ⟨_,_,rfl,.inr (.inr ⟨g,rfl,hg⟩),?_⟩
  refine ⟨_,rfl,by omega,by omega,?_⟩
  refine bu (fun i ρ M'=>M'=M∧∃ y:Option L3.D,ρ= [some (.ref f),some (.ref g),y]) _ ?_ ?_ ⟨rfl,_,rfl⟩
  ·rintro i x ρ M' Nx uS ⟨rfl,y,rfl⟩ hN
   obtain ⟨hi,rfl⟩:=bg uS
   have hi:i < xs.length:=by simpa using hi
   have gx:xs[i]?=some xs[i]:=List.getElem?_eq_getElem hi
   have gj:sR 3 xs[i]=true:=List.all_eq_true.mp hx _ (List.getElem_mem hi)
   refine ⟨trivial,?_⟩
   walk_at "rd"
   refine ⟨_,_,xs[i],.inr (.inr ⟨f,rfl,hf⟩),rfl,bI gx,?_⟩
   walk_at "rd"
   refine ⟨_,_,xs[i],.inr (.inr ⟨g,rfl,hg⟩),rfl,bI gx,?_⟩
   walk_at "rd"
   refine ⟨.inl ⟨rfl,gj⟩,?_⟩
   walk_at "rd"
   exact hN _ _ ⟨rfl,_,rfl⟩
  ·rintro ρ M' ⟨rfl,y,rfl⟩
   refine ⟨trivial,?_⟩
   walk_at "rd"
   exact aQ.mk ⟨_,Le.refl _,h⟩
def uY:pB:=kK
theorem lE (T:Txt K mg t):cg P w K mg base fE 4 t.cB t.b8 ["_law_found","_law_due"] (pP K uY):=o8 T
theorem uZ (T:Txt K mg t):Binds K t.jl ["_law_a","_law_b","_law_kx"] []:=T.kq.binds fun _ _ _ _ _ _ us hl=>match us,hl with | [_,_,_],_=>rfl
def wF:sA:=fun ds Q=> ∃ a b f g:Pl,ds= [a.d,b.d,.tup [f.d,g.d]]∧a.Ok 140∧b.Ok 140∧f.Ok 1100∧g.Ok 1100∧Q (.int (i9 a b f g))
theorem u5 (T:Txt K mg t):cg P w K mg base fE 1 t.kh t.jl ["_law_a","_law_b","_law_kx"] (qW K wF):=by
 refine wG T.kq m7 (fun ds Q h=>by (first | (obtain ⟨_,rfl,_⟩:=h;rfl) | (obtain ⟨_,_,rfl,_⟩:=h;rfl) | (obtain ⟨_,_,_,rfl,_⟩:=h;rfl) | (obtain ⟨_,_,_,_,rfl,_⟩:=h;rfl) | (obtain ⟨_,_,_,_,_,rfl,_⟩:=h;rfl) | (obtain ⟨_,_,_,_,_,_,rfl,_⟩:=h;rfl) | (obtain ⟨_,_,_,_,_,_,_,rfl,_⟩:=h;rfl))) (fun cdv A outer s H hr=>?_)
 have hu:=hr.units
 refine ⟨_,(au (aS (i:=3) m7.nd rfl (Or.inl rfl) (ak cR (ak cR (ak bT (aE (af 1) ah) (aE (af 0) ah)) (ak bT (aE (aE (af 2) ah) ah) (ak cR (aE (af 0) ah) (aE (aE (af 2) ah) ah)))) (aE (aE (af 2) ah) ah)))
  (aB (aD (ak bT (af 3) (ak cR (ak cR (ak bT (aE (af 1) ah) (aE (af 0) ah)) (ak bT (aE (aE (af 2) ah) ah) (ak cR (aE (af 0) ah) (aE (aE (af 2) ah) ah)))) (aE (aE (af 2) ah) ah)))))),fun ds Q h=>?_⟩
 obtain ⟨a,b,f,g,rfl,⟨a1,a2⟩,⟨b1,b2⟩,⟨f1,f2⟩,⟨g1,g2⟩,h⟩:=h
 have e:i9 a b f g=(b.x - a.x)*(g.x - a.y*g.y)*f.y - (b.y - a.y)*(f.x - a.x*f.y)*g.y:=by unfold i9;rw [Int.mul_assoc,Int.mul_assoc]
 rw [e] at h
 walk_at "rd"
 exact h
theorem lF (T:Txt K mg t):Binds K t.iG ["_law_t","_law_kx"] []:=T.gb.binds fun _ _ _ _ _ _ us hl=>match us,hl with | [_,_],_=>rfl
def u6:pB:=fun ds M Q=> ∃ (a b c f g:Pl),ds= [tD [a,b,c],.tup [f.d,g.d]]∧a.Ok 140∧b.Ok 140∧c.Ok 140∧f.Ok 1100∧g.Ok 1100∧∀ p:Addr,M p=none→Q (.ref p) (aC M p (.lst ([i9 c a f g,i9 a b f g,i9 b c f g].map L3.D.int)))
theorem lG (T:Txt K mg t):cg P w K mg base fE 2 t.jm t.iG ["_law_t","_law_kx"] (pP K u6):=by
 refine u9 T.gb rB (fun ds M Q h=>by (first | (obtain ⟨_,rfl,_⟩:=h;rfl) | (obtain ⟨_,_,rfl,_⟩:=h;rfl) | (obtain ⟨_,_,_,rfl,_⟩:=h;rfl) | (obtain ⟨_,_,_,_,rfl,_⟩:=h;rfl) | (obtain ⟨_,_,_,_,_,rfl,_⟩:=h;rfl) | (obtain ⟨_,_,_,_,_,_,rfl,_⟩:=h;rfl) | (obtain ⟨_,_,_,_,_,_,_,rfl,_⟩:=h;rfl))) (fun cdv A outer s H hr=>?_)
 have hu:=hr.units
 refine ⟨_,(aB (aD (lR (p9 (ys:=["_law_kx","_law_t"]) (fs:=[1,0]) rfl (by show bJ (av fT) ["_law_t","_law_kx"] _ _ _ _=true;decide +kernel) (by rfl) T.bY (aa ah aj) (fun cl C s0 H0 ex=>jX) (fun cl C s0 H0 ex=>(aL (u5 T) (hr.mono (by decide)) (by rfl) T.wc T.kq.kp (uZ T) (aa (aE (af 2) (ak bT (af 0) ah)) (aa (aE (af 2) (af 0)) (aa (af 1) aj))))))))),fun ds M Q h=>?_⟩
 obtain ⟨a,b,c,f,g,rfl,oa,ob,oc,hf,hg,h⟩:=h
 have sl:(1000:Nat) < sizeLine:=by decide
 generalize h3:(3:Int)=n3
 walk_at "rd"
 refine ⟨by omega,by omega,by omega,aQ.mk (bM (fun j acc M5=>M5=M∧acc=([i9 c a f g,i9 a b f g,i9 b c f g].take j).map L3.D.int) _ ?_ ?_ ⟨rfl,rfl⟩)⟩
 ·rintro j x acc M5 N2 gj ⟨rfl,rfl⟩ jG
  obtain ⟨hj,rfl⟩:=bg gj
  have hj:j < 3:=by omega
  obtain ⟨u,v,e1,e2,e3,ou,ov⟩:∃ u v:Pl,mq [a.d,b.d,c.d] ((j:Int) - 1)=some u.d∧mq [a.d,b.d,c.d] (j:Int)=some v.d∧[i9 c a f g,i9 a b f g,i9 b c f g][j]?=some (i9 u v f g)∧u.Ok 140∧v.Ok 140:=by
   have:j=0∨j=1∨j=2:=by omega
   rcases this with rfl | rfl | rfl
   ·exact ⟨c,a,rfl,rfl,rfl,oc,oa⟩
   ·exact ⟨a,b,rfl,rfl,rfl,oa,ob⟩
   ·exact ⟨b,c,rfl,rfl,rfl,ob,oc⟩
  refine ⟨trivial,?_⟩
  walk_at "rd"
  refine ⟨_,_,_,Or.inl rfl,rfl,e1,?_⟩
  walk_at "rd"
  refine ⟨_,_,_,Or.inl rfl,rfl,e2,?_⟩
  walk_at "rd"
  refine ⟨ou,ov,hf,hg,?_⟩
  refine jG _ _ ⟨rfl,?_⟩
  rw [List.take_succ,e3,List.map_append]
  rfl
 ·rintro acc M5 ⟨rfl,rfl⟩
  refine ⟨trivial,fun p hp=>?_⟩
  rw [List.length_map,List.length_range,← h3]
  exact aQ.mk ⟨_,Le.refl _,h p hp⟩
theorem LZ (T:Txt K mg t):Binds K t.xM ["_law_script"] []:=T.Eu.binds fun _ _ _ _ _ _ us hl=>match us,hl with | [_],_=>rfl
abbrev Cp:=Bo
/-- JI point L0 a pair of GZ tells -/
def GS (f g:Pl):Pt:=⟨f.x*g.y,g.x*f.y,f.y*g.y⟩
theorem kL (a b f g:Pl):i9 a b f g=hw a b (GS f g):=by unfold i9 hw GS;grind
theorem tO (f g a b c:Pl):hs f g [a,b,c]=true↔Wk (GS f g) a b c:=by
 unfold hs Wk
 rw [List.all_eq_true]
 constructor
 ·intro h
  have h1:=of_decide_eq_true (h [a,b] (by simp [dm]))
  have h2:=of_decide_eq_true (h [b,c] (by simp [dm]))
  have h3:=of_decide_eq_true (h [c,a] (by simp [dm]))
  rw [kL] at h1 h2 h3
  exact ⟨h1,h2,h3⟩
 ·rintro ⟨h1,h2,h3⟩ w hw
  have hw:w= [a,b]∨w= [b,c]∨w= [c,a]:=by simpa [dm] using hw
  rw [decide_eq_true_eq,kL]
  rcases hw with rfl | rfl | rfl
  ·exact h1
  ·exact h2
  ·exact h3
/-- JI least of JI three Ng -/
theorem Jf {a b c m:Int} (h:m∈[a,b,c]) (k:∀ z∈[a,b,c],m≤z):(0≤m↔0≤a∧0≤b∧0≤c)∧(0 < m↔0 < a∧0 < b∧0 < c):=by
 have k1:=k a (by simp)
 have k2:=k b (by simp)
 have k3:=k c (by simp)
 simp only [List.mem_cons,List.not_mem_nil,or_false] at h
 omega
theorem zb {ps:List Pl} {ts:List (List Pl)} (h:∀ t∈ts,oF ps t):(ts.map tD).all (sR 3)=true:=by
 rw [List.all_map,List.all_eq_true]
 intro t ht
 obtain ⟨⟨u,v,w,e,_⟩,_⟩:=h t ht
 rw [e]
 rfl
/-- Jg within -/
def zc (f g:Pl):List Pl→Bool
 | [a,b,c]=>decide (0 < i9 c a f g∧0 < i9 a b f g∧0 < i9 b c f g)
 | _=>false
theorem eq1 {n:Nat} {k:Int} (h:(n:Int)=k):L3.cX (.int (n:Int)) (.int k)=true:=by rw [bU,h];simp
theorem ne1 {n:Nat} {k:Int} (h:¬ (n:Int)=k):L3.cX (.int (n:Int)) (.int k)=false:=by rw [bU];simpa using h
/-- JI place L0 JI point is -/
def xX (f g p:Pl):Bool:=decide (f= ⟨p.x,1⟩∧g= ⟨p.y,1⟩)
theorem GH (f g p:Pl):L3.cX (.tup [.tup [.int p.x,.int 1],.tup [.int p.y,.int 1]]) (.tup [f.d,g.d])=xX f g p:=by
 have e1:=cO ⟨p.x,1⟩ f
 have e2:=cO ⟨p.y,1⟩ g
 have e1:L3.cX (.tup [.int p.x,.int 1]) f.d=decide ((⟨p.x,1⟩:Pl)=f):=e1
 have e2:L3.cX (.tup [.int p.y,.int 1]) g.d=decide ((⟨p.y,1⟩:Pl)=g):=e2
 rw [gQ,eF,eF,pM,e1,e2,Bool.eq_iff_iff]
 unfold xX
 simp only [Bool.and_true,Bool.and_eq_true,decide_eq_true_eq]
 exact ⟨fun h=>⟨h.1.symm,h.2.symm⟩,fun h=>⟨h.1.symm,h.2.symm⟩⟩
def zd (qs:List Pl) (us:List (List Pl)):Prop:=(¬ Flat qs→dM qs us)∧(Flat qs→us= [])∧us.Pairwise (fun p q=>dR q p=false)
theorem xY {qs:List Pl} {us vs:List (List Pl)} (h:zd qs us) (r:wz us vs) (so:vs=us∨vs.Pairwise (fun p q=>dR q p=false)):zd qs vs:=by
 refine ⟨fun nf=>(wA (h.1 nf) nf r).1,fun fl=>?_,?_⟩
 ·have e:=h.2.1 fl
  subst e
  rcases r with r | ⟨_,_,_,_,_,_,m,_⟩
  ·exact r
  ·cases m
 ·rcases so with rfl | so
  ·exact h.2.2
  ·exact so
theorem GI (T:Txt K mg t):cg P w K mg base fE 7 t.Cb t.xM ["_law_script"] (qW K Cp):=by
 refine wG T.Eu kF (fun ds Q h=>by (first | (obtain ⟨_,rfl,_⟩:=h;rfl) | (obtain ⟨_,_,rfl,_⟩:=h;rfl) | (obtain ⟨_,_,_,rfl,_⟩:=h;rfl) | (obtain ⟨_,_,_,_,rfl,_⟩:=h;rfl) | (obtain ⟨_,_,_,_,_,rfl,_⟩:=h;rfl) | (obtain ⟨_,_,_,_,_,_,rfl,_⟩:=h;rfl) | (obtain ⟨_,_,_,_,_,_,_,rfl,_⟩:=h;rfl))) (fun cdv A outer s H hr=>?_)
 have hu:=hr.units
 refine ⟨_,(au (aS (i:=1) kF.nd rfl (Or.inl rfl) (bW (qH T) (hr.mono (by decide)) (by rfl) T.rj T.iH.kp (qG T) (aa (af 0) (aa ah aj))))
  (au (aS (i:=2) kF.nd rfl (Or.inl rfl) (bW (rM T) (hr.mono (by decide)) (by rfl) T.uF T.jt.kp (rL T) (aa (af 0) (aa ah (aa (AY w6 (by rfl) T.di bL (aa (bW (Co T) (hr.mono (by decide)) (by rfl) T.DP T.uJ.kp (Cn T) (aa (AY w6 (by rfl) T.di bL (aa (af 1) aj)) aj)) aj)) aj)))))
  (au (aS (i:=3) kF.nd rfl (Or.inr rfl) (cE (aa (cE (aa (ak bT (ak aT (aL (br T) (hr.mono (by decide)) (by rfl) T.bB T.bf.kp (bq T) (aa (af 0) (aa ah aj))) ah) ah) (aa ah aj))) (aa (cE (aa ah (aa ah aj))) aj))))
  (au (vD (aI (t7 hu) (af 1) (cW aj) (aA _)) (aB (aS (i:=3) kF.nd rfl (Or.inr rfl) (bW (qL T) (hr.mono (by decide)) (by rfl) T.rq T.iI.kp (qK T) (aa (af 0) (aa (af 1) aj))))))
  (au (aS (i:=4) kF.nd rfl (Or.inl rfl) (AY w6 (by rfl) T.di bL (aa (af 2) aj)))
  (au (aS (i:=5) kF.nd rfl (Or.inl rfl) (bW (Ey T) (hr.mono (by decide)) (by rfl) T.Jc T.DN.kp (Ex T) (aa (af 4) (aa (af 3) aj))))
  (au (IA (j:=6) (k8 (ys:=["_law_kx"]) (fs:=[3]) rfl (by show bJ (av rR) ["_law_script","_law_places_here","_law_cover_here","_law_kx","_law_handed","_law_found","_law_due"] _ _ _ _=true;decide +kernel) (af 2) (fun cl C s0 H0 ex=>sM (aI HP (aF (BH rfl) (by rfl) T.xP nI (aa (bW (lG T) (hr.mono (by decide)) (by rfl) T.mZ T.gb.kp (lF T) (aa (af 0) (aa (af 1) aj))) aj)) ah (aA _))) (fun cl C s0 H0 ex=>(af 0))) kF.nd rfl (Or.inl rfl))
  (au (bX (ni.pt (nF (aI (t7 hu) (af 4) (af 2) (aA _)) (jy (k_not (gw (bW (lE T) (hr.mono (by decide)) (by rfl) T.dh T.bG.kp (cU T) (aa (af 5) (aa (af 6) aj)))))))) (aB (aD g9)) aU)
  (au (nH (A3 (af 5) ah (vq PySem.F.plainAttrs_list PySem.F.slot_list_append PySem.F.type_list_append kO (cN.dn (af 5)) (kN (cN.dn ah) nu))))
  (au (bX (ni.pt (nF (aI (t7 hu) (af 4) (af 2) (aA _)) (jy (k_not (gw (bW (lE T) (hr.mono (by decide)) (by rfl) T.dh T.bG.kp (cU T) (aa (bW (Ey T) (hr.mono (by decide)) (by rfl) T.Jc T.DN.kp (Ex T) (aa (af 4) (aa (af 3) aj))) (aa (af 6) aj)))))))) (aB (aD g9)) aU)
  (au (bX (ni.pt (nF (aI (Bk hu) (af 2) (cW aj) (aA _)) (jy (aI (cV hu) (ak aT (ak cG (aL (br T) (hr.mono (by decide)) (by rfl) T.bB T.bf.kp (bq T) (aa (af 0) (aa ah aj))) ah) ah) ah (aA _))))) (aB (aD g9)) aU)
  (au (bX (aI (cV hu) (aF cJ (by rfl) T.bR aN (aa (lR (k8 (ys:=["_law_kx"]) (fs:=[3]) rfl (by show bJ (av rR) ["_law_script","_law_places_here","_law_cover_here","_law_kx","_law_handed","_law_found","_law_due"] _ _ _ _=true;decide +kernel) (af 6) (fun cl C s0 H0 ex=>sM (aI AS (aF (BH rfl) (by rfl) T.xP nI (aa (bW (lG T) (hr.mono (by decide)) (by rfl) T.mZ T.gb.kp (lF T) (aa (af 0) (aa (af 1) aj))) aj)) ah (aA _))) (fun cl C s0 H0 ex=>(af 0)))) aj)) ah (aA _)) (aB (aD (fS (cV hu) (aF cJ (by rfl) T.bR aN (aa (af 6) aj)) ah (aA _)))) aU)
  (au (bX (aI (cV hu) (aF cJ (by rfl) T.bR aN (aa (lR (k8 (ys:=["_law_kx"]) (fs:=[3]) rfl (by show bJ (av rR) ["_law_script","_law_places_here","_law_cover_here","_law_kx","_law_handed","_law_found","_law_due"] _ _ _ _=true;decide +kernel) (af 1) (fun cl C s0 H0 ex=>sM (aI (cV hu) (cE (aa (cE (aa (aE (af 0) ah) (aa ah aj))) (aa (cE (aa (aE (af 0) ah) (aa ah aj))) aj))) (af 1) (aA _))) (fun cl C s0 H0 ex=>(af 0)))) aj)) ah (aA _)) (aB (aD (fS AS (aF cJ (by rfl) T.bR aN (aa (af 6) aj)) ah (aA _)))) aU)
  (aB (aD (KC (fS (cV hu) (aF cJ (by rfl) T.bR aN (aa (af 6) aj)) ah (aA _)) (mE (fS (cV hu) (aF cJ (by rfl) T.bR aN (aa (af 6) aj)) ah (aA _))))))))))))))))))),fun ds Q h=>?_⟩
 obtain ⟨ns,rfl,hl,hb,h⟩:=h
 have sl:(1000:Nat) < sizeLine:=by decide
 walk_at "rd"
 refine ⟨hb,hl,by decide,by decide,fun l ps OS nd ho hlen=>?_⟩
 have GJ:∀ q∈ps,q.Ok 140:=fun q hq=>⟨(ho q hq).1.le (by decide),(ho q hq).2.le (by decide)⟩
 have O4:ps.length≤16:=by omega
 have h64:ps.length < 64:=by omega
 have hM:aC HE l (.lst (ps.map Pl.d)) l=some (.lst (ps.map Pl.d)):=ai
 generalize aC HE l (.lst (ps.map Pl.d))=M0 at hM ⊢
 walk_at "rd"
 refine ⟨_,_,rfl,.of hM,fun l2 hl2=>?_⟩
 have hL:aC M0 l2 (.lst (ps.map Pl.d)) l2=some (.lst (ps.map Pl.d)):=ai
 have hM:=az (u:=MO.lst (ps.map Pl.d)) hM hl2
 generalize aC M0 l2 (.lst (ps.map Pl.d))=M1 at hM hL ⊢
 walk_at "rd"
 refine ⟨ps,hL,nd,O4,GJ,fun f qs ts hf cC vd L1 hst=>?_⟩
 have hF:aC M1 f (.lst (ts.map tD)) f=some (.lst (ts.map tD)):=ai
 have hM:=az (u:=MO.lst (ts.map tD)) hM hf
 generalize aC M1 f (.lst (ts.map tD))=M2 at hM hF ⊢
 have JJ:∀ t∈ts,oF qs t:=fun t ht=>uq vd qs.length (Nat.le_refl _) t (L1.mem_iff.mp ht)
 have hTI:∀ t∈ts,oF ps t:=fun t ht=>⟨(JJ t ht).1,fun q hq=>cC.mem_iff.mp ((JJ t ht).2 q hq)⟩
 have lT:ts.length≤20:=by
  have:=pC vd qs.length (Nat.le_refl _)
  have e1:=L1.length_eq
  have e2:=cC.length_eq
  omega
 have I0:zd qs ts:=⟨fun _=>⟨vd,uo.perm (by have:=yP vd qs.length (Nat.le_refl _);rw [List.take_length] at this;exact this) (List.Perm.flatMap_right _ L1),JJ⟩,fun fl=>by
  cases e:ts with
  | nil=>rfl
  | cons t0 tr=>
    obtain ⟨u,v,w,et,pos,yY,hv',ve,_⟩:=(JJ t0 (by rw [e];simp)).parts
    have:=fl u yY v hv' w ve
    omega,hst⟩
 walk_at "rd"
 refine ⟨_,_,rfl,.of hF,fun c2 hc2=>?_⟩
 have L4:aC M2 c2 (.lst (ts.map tD)) c2=some (.lst (ts.map tD)):=ai
 have hM:=az (u:=MO.lst (ts.map tD)) hM hc2
 generalize aC M2 c2 (.lst (ts.map tD))=M3 at hM L4 ⊢
 walk_at "rd"
 refine ⟨hb,hl,by decide,by decide,ps,ts,L4,hTI,lT,GJ,zd qs,I0,fun us vs=>xY,fun c3 us M4 le hU hTU lU hI=>?_⟩
 have hM:=le _ _ hM
 have Ew:∀ t∈us,Tr t:=fun t ht=>(hTU t ht).tr GJ
 clear L4 hF hL I0 le
 walk_at "rd"
 refine ⟨hb,hl,by decide,by decide,fun Nh _ _=>?_⟩
 walk_at "rd"
 refine ⟨fun ρ M'=> ∃ f g:Pl,ρ= [some (.tV (ns.map L3.D.int)),some (.ref l),some (.ref c3),some (.tup [f.d,g.d]),none,none,none]∧M' l=some (.lst (ps.map Pl.d))∧M' c3=some (.lst (us.map tD))∧0 < f.y∧0 < g.y∧f.Ok 1100∧g.Ok 1100∧(ps≠[]→MU ps (qF ns 26 / 2 % 4=3) f g),?_,?_⟩
 ·walk_at "rd"
  intro e he
  refine ⟨_,_,.of (az hM he),.of ai,sJ _,rfl,?_⟩
  rw [mQ]
  have hU:=az (u:=MO.lst []) hU he
  have hM:=az (u:=MO.lst []) hM he
  generalize aC M4 e (.lst [])=M5 at hU hM ⊢
  by_cases es:ps= []
  ·have en:(ps.map Pl.d).isEmpty=true:=by rw [es];rfl
   rw [en]
   walk_at "rd"
   exact aQ.mk ⟨⟨Nh % 7 - 3,1⟩,⟨1,2⟩,rfl,hM,hU,(show (0:Int) < 1 by decide),(show (0:Int) < 2 by decide),⟨(show L3.Sm 1100 (Nh % 7 - 3) by walk_at "smle"),(show L3.Sm 1100 1 by walk_at "smle")⟩,⟨(show L3.Sm 1100 1 by walk_at "smle"),(show L3.Sm 1100 2 by walk_at "smle")⟩,fun k=>absurd es k⟩
  ·have en:(ps.map Pl.d).isEmpty=false:=by
    cases e2:ps with
    | nil=>exact absurd e2 es
    | cons q0 qr=>rfl
   rw [en]
   walk_at "rd"
   refine ⟨hb,hl,ps,hM,es,by omega,ho,fun f g hsh=>?_⟩
   walk_at "rd"
   exact aQ.mk ⟨f,g,rfl,hM,hU,hsh.fy,hsh.gy,hsh.fo,hsh.go,fun _=>hsh⟩
 rintro ρ M5 ⟨f,g,rfl,hM,hU,fy,gy,fo,go,hsh⟩
 walk_at "rd"
 refine ⟨_,_,rfl,.of hU,fun l4 Ni=>?_⟩
 have hH:aC M5 l4 (.lst (us.map tD)) l4=some (.lst (us.map tD)):=ai
 have hM:=az (u:=MO.lst (us.map tD)) hM Ni
 have hU:=az (u:=MO.lst (us.map tD)) hU Ni
 generalize aC M5 l4 (.lst (us.map tD))=M6 at hM hU hH ⊢
 walk_at "rd"
 refine ⟨us,hH,Ew,lU,fo,go,fun p1 rs hp1 O5 hso=>?_⟩
 have n1:l≠p1:=fun z=>by rw [z,hp1] at hM;cases hM
 have n2:c3≠p1:=fun z=>by rw [z,hp1] at hU;cases hU
 have n3:l4≠p1:=fun z=>by rw [z,hp1] at hH;cases hH
 have Nj:(us.filter (hs f g)).Pairwise (fun p q=>dR q p=false):=hI.2.2.filter _
 obtain rfl:=j5 O5 hso Nj
 have lD:(us.filter (hs f g)).length≤20:=Nat.le_trans (List.length_filter_le _ _) lU
 have hR:aC M6 p1 (.lst ((us.filter (hs f g)).map tD)) p1=some (.lst ((us.filter (hs f g)).map tD)):=ai
 have hM:=az (u:=MO.lst ((us.filter (hs f g)).map tD)) hM hp1
 have hU:=az (u:=MO.lst ((us.filter (hs f g)).map tD)) hU hp1
 have hH:=az (u:=MO.lst ((us.filter (hs f g)).map tD)) hH hp1
 generalize aC M6 p1 (.lst ((us.filter (hs f g)).map tD))=M7 at hM hU hH hR ⊢
 walk_at "rd"
 refine ⟨c3,_,rfl,hU,by rw [List.length_map];omega,aQ.mk (bM (fun j acc M'=>Le M7 M'∧acc=((us.take j).filter (hs f g)).map tD) _ ?_ ?_ ⟨Le.refl _,rfl⟩)⟩
 ·rintro j x acc M' N2 gj ⟨le,rfl⟩ jG
  obtain ⟨t,ht,rfl⟩:=ic gj
  refine ⟨le _ _ hU,?_⟩
  walk_at "rd"
  obtain ⟨a,b,c,rfl,oa,ob,oc⟩:=Ew t (List.mem_of_getElem? ht)
  refine ⟨a,b,c,f,g,rfl,oa,ob,oc,fo,go,fun h1 L5=>?_⟩
  walk_at "rd"
  refine ⟨h1,_,rfl,ai,by simp,fun m hm1 hm2=>?_⟩
  have em:decide (0≤m)=hs f g [a,b,c]:=by
   rw [Bool.eq_iff_iff,decide_eq_true_eq,tO]
   have:=(Jf hm1 hm2).1
   unfold Wk
   rw [← kL,← kL,← kL]
   omega
  have xR:Le M7 (aC M' h1 (MO.lst (List.map D.int [i9 c a f g,i9 a b f g,i9 b c f g]))):=le.trans (Le.new L5)
  generalize aC M' h1 (MO.lst (List.map D.int [i9 c a f g,i9 a b f g,i9 b c f g]))=O6 at xR ⊢
  walk_at "rd"
  rw [show ((fun i j:Int=>decide (j≤i)) m 0)=hs f g [a,b,c] from em]
  cases e:hs f g [a,b,c] with
  | true=>
    walk_at "rd"
    refine jG _ _ ⟨xR,?_⟩
    rw [bZ ht,if_pos e,List.map_append]
    rfl
  | false=>
    walk_at "rd"
    refine jG _ _ ⟨xR,?_⟩
    rw [bZ ht,if_neg (by rw [e];simp),List.append_nil]
 rintro acc M' ⟨le,rfl⟩
 refine ⟨le _ _ hU,fun p2 hp2=>?_⟩
 rw [List.length_map,List.take_length]
 have hM:=le _ _ hM
 have hU:=le _ _ hU
 have hH:=le _ _ hH
 have hR:=le _ _ hR
 have n4:p2≠p1:=fun z=>by rw [z,hR] at hp2;cases hp2
 have hD:aC M' p2 (.lst ((us.filter (hs f g)).map tD)) p2=some (.lst ((us.filter (hs f g)).map tD)):=ai
 have hM:=az (u:=MO.lst ((us.filter (hs f g)).map tD)) hM hp2
 have hU:=az (u:=MO.lst ((us.filter (hs f g)).map tD)) hU hp2
 have hH:=az (u:=MO.lst ((us.filter (hs f g)).map tD)) hH hp2
 have hR:=az (u:=MO.lst ((us.filter (hs f g)).map tD)) hR hp2
 generalize aC M' p2 (.lst ((us.filter (hs f g)).map tD))=M8 at hM hU hH hR hD ⊢
 have Nk:∀ t∈us.filter (hs f g),oF ps t:=fun t ht=>hTU t (List.mem_filter.mp ht).1
 walk_at "rd"
 refine ⟨_,_,.of hH,.of hU,dG us,dG us,?_⟩
 rw [sN (dG us)]
 walk_at "rd"
 refine ⟨.inr ⟨p1,p2,_,rfl,rfl,hR,hD,zb Nk,by rw [List.length_map];omega⟩,?_⟩
 walk_at "rd"
 refine ⟨⟨p1,_,rfl,hR⟩,?_⟩
 walk_at "rd"
 refine ⟨p1,_,rfl,hR,by rw [List.length_map];omega,?_⟩
 have hM:=(bC (M:=M8) (o:=MO.lst ((us.filter (hs f g)).map tD ++ [D.int 0])) n1).trans hM
 have hU:=(bC (M:=M8) (o:=MO.lst ((us.filter (hs f g)).map tD ++ [D.int 0])) n2).trans hU
 have hH:=(bC (M:=M8) (o:=MO.lst ((us.filter (hs f g)).map tD ++ [D.int 0])) n3).trans hH
 have hD:=(bC (M:=M8) (o:=MO.lst ((us.filter (hs f g)).map tD ++ [D.int 0])) n4).trans hD
 generalize aC M8 p1 (MO.lst ((us.filter (hs f g)).map tD ++ [D.int 0]))=M9 at hM hU hH hD ⊢
 walk_at "rd"
 refine ⟨_,_,.of hH,.of hU,dG us,dG us,?_⟩
 rw [sN (dG us)]
 walk_at "rd"
 refine ⟨us,hH,Ew,lU,fo,go,fun p3 rs hp3 L6 L7=>?_⟩
 obtain rfl:=j5 L6 L7 Nj
 have hR:aC M9 p3 (.lst ((us.filter (hs f g)).map tD)) p3=some (.lst ((us.filter (hs f g)).map tD)):=ai
 have hM:=az (u:=MO.lst ((us.filter (hs f g)).map tD)) hM hp3
 have hU:=az (u:=MO.lst ((us.filter (hs f g)).map tD)) hU hp3
 have hD:=az (u:=MO.lst ((us.filter (hs f g)).map tD)) hD hp3
 generalize aC M9 p3 (.lst ((us.filter (hs f g)).map tD))=Eg at hM hU hD hR ⊢
 walk_at "rd"
 refine ⟨.inr ⟨p3,p2,_,rfl,rfl,hR,hD,zb Nk,by rw [List.length_map];omega⟩,?_⟩
 walk_at "rd"
 intro e he
 have hM:=az (u:=MO.lst []) hM he
 have hD:=az (u:=MO.lst []) hD he
 refine ⟨_,_,.of (az hU he),.of ai,dG _,rfl,?_⟩
 rw [mQ]
 generalize aC Eg e (.lst [])=Ez at hM hD ⊢
 by_cases es:us= []
 ·have en:(us.map tD).isEmpty=true:=by rw [es];rfl
  rw [en]
  walk_at "rd"
  exact h
 have en:(us.map tD).isEmpty=false:=by
  cases e2:us with
  | nil=>exact absurd e2 es
  | cons q0 qr=>rfl
 rw [en]
 walk_at "rd"
 refine ⟨hb,hl,by decide,by decide,fun Nl O7 Jh=>?_⟩
 walk_at "rd"
 by_cases k3:qF ns 26 / 2 % 4=3
 ·rw [show L3.cX (D.int ((fun i j:Int=>i % j) ((fun i j:Int=>i / j) Nl 2) 4)) (D.int 3)=true by rw [bU,Jh];simpa using k3]
  walk_at "rd"
  exact h
 rw [show L3.cX (D.int ((fun i j:Int=>i % j) ((fun i j:Int=>i / j) Nl 2) 4)) (D.int 3)=false by rw [bU,Jh];simpa using k3]
 have nf:¬ Flat qs:=fun z=>es (hI.2.1 z)
 have hC:=hI.1 nf
 have L8:ps≠[]:=fun z=>by
  cases e2:us with
  | nil=>exact es e2
  | cons t0 tr=>
    obtain ⟨a,b,c,_,_,ha,_⟩:=(hTU t0 (by rw [e2];simp)).parts
    rw [z] at ha
    cases ha
 have sh:=hsh L8
 have hN:0 < (GS f g).N:=Int.mul_pos fy gy
 obtain ⟨b1,m1,b2,m2,b3,m3,s1,s2,s3,g1,g2,g3,gs,eX,eY⟩:=sh.OT k3
 obtain ⟨u1,hu1,u2,O8,u3,O9,tu,wu⟩:=zZ (X:=GS f g) vd nf hN (cC.mem_iff.mpr m1) (cC.mem_iff.mpr m2) (cC.mem_iff.mpr m3) g1 g2 g3 gs (by
  show f.x*g.y*(s1+s2+s3)=f.y*g.y*(s1*b1.x+s2*b2.x+s3*b3.x)
  have:f.x*g.y*(s1+s2+s3)=(f.x*(s1+s2+s3))*g.y:=by grind
  rw [this,eX]
  grind) (by
  show g.x*f.y*(s1+s2+s3)=f.y*g.y*(s1*b1.y+s2*b2.y+s3*b3.y)
  have:g.x*f.y*(s1+s2+s3)=(g.x*(s1+s2+s3))*f.y:=by grind
  rw [this,eY]
  grind)
 have pos:=B7 hC nf hN (tO f g) hu1 O8 O9 tu wu
 walk_at "rd"
 refine ⟨p2,_,rfl,hD,by rw [List.length_map];omega,aQ.mk (bM (fun j acc M'=>Le Ez M'∧acc=(((us.filter (hs f g)).take j).filter (zc f g)).map tD) _ ?_ ?_ ⟨Le.refl _,rfl⟩)⟩
 ·rintro j x acc M' N2 gj ⟨le,rfl⟩ jG
  obtain ⟨t,ht,rfl⟩:=ic gj
  refine ⟨le _ _ hD,?_⟩
  walk_at "rd"
  obtain ⟨a,b,c,rfl,oa,ob,oc⟩:=Ew t (List.mem_filter.mp (List.mem_of_getElem? ht)).1
  refine ⟨a,b,c,f,g,rfl,oa,ob,oc,fo,go,fun h1 L5=>?_⟩
  walk_at "rd"
  refine ⟨h1,_,rfl,ai,by simp,fun m hm1 hm2=>?_⟩
  have em:decide (0 < m)=zc f g [a,b,c]:=by
   unfold zc
   rw [Bool.eq_iff_iff,decide_eq_true_eq,decide_eq_true_eq]
   exact (Jf hm1 hm2).2
  have xR:Le Ez (aC M' h1 (MO.lst (List.map D.int [i9 c a f g,i9 a b f g,i9 b c f g]))):=le.trans (Le.new L5)
  generalize aC M' h1 (MO.lst (List.map D.int [i9 c a f g,i9 a b f g,i9 b c f g]))=O6 at xR ⊢
  walk_at "rd"
  rw [show ((fun i j:Int=>decide (j < i)) m 0)=zc f g [a,b,c] from em]
  cases e:zc f g [a,b,c] with
  | true=>
    walk_at "rd"
    refine jG _ _ ⟨xR,?_⟩
    rw [bZ ht,if_pos e,List.map_append]
    rfl
  | false=>
    walk_at "rd"
    refine jG _ _ ⟨xR,?_⟩
    rw [bZ ht,if_neg (by rw [e];simp),List.append_nil]
 rintro acc M' ⟨le,rfl⟩
 refine ⟨le _ _ hD,fun p4 GB=>?_⟩
 rw [List.length_map,List.take_length]
 have hM:=le _ _ hM
 have hD:=le _ _ hD
 have hE:aC M' p4 (.lst (((us.filter (hs f g)).filter (zc f g)).map tD)) p4=some (.lst (((us.filter (hs f g)).filter (zc f g)).map tD)):=ai
 have hM:=az (u:=MO.lst (((us.filter (hs f g)).filter (zc f g)).map tD)) hM GB
 have hD:=az (u:=MO.lst (((us.filter (hs f g)).filter (zc f g)).map tD)) hD GB
 generalize aC M' p4 (.lst (((us.filter (hs f g)).filter (zc f g)).map tD))=MW at hM hD hE ⊢
 walk_at "rd"
 refine ⟨_,_,rfl,.inr (.inr ⟨p4,rfl,hE⟩),?_⟩
 rw [List.length_map]
 walk_at "rd"
 by_cases k1:((us.filter (hs f g)).filter (zc f g)).length=1
 ·rw [eq1 (by omega)]
  have one:(us.filter (hs f g)).length=1:=by
   obtain ⟨t,ht⟩:=List.exists_mem_of_length_pos (l:=(us.filter (hs f g)).filter (zc f g)) (by omega)
   obtain ⟨ht,Mb⟩:=List.mem_filter.mp ht
   obtain ⟨ht,_⟩:=List.mem_filter.mp ht
   obtain ⟨a,b,c,rfl,_⟩:=Ew t ht
   have st:=of_decide_eq_true Mb
   rw [kL,kL,kL] at st
   exact tH hC nf hN (tO f g) ht st.2.1 st.2.2 st.1
  walk_at "rd"
  refine ⟨_,_,rfl,.inr (.inr ⟨p2,rfl,hD⟩),?_⟩
  rw [List.length_map]
  walk_at "rd"
  rw [eq1 (by omega)]
  exact h
 rw [ne1 (by omega)]
 walk_at "rd"
 refine ⟨l,_,rfl,hM,by rw [List.length_map];omega,aQ.mk (bM (fun j acc M'=>M'=MW∧acc=((ps.take j).filter (xX f g)).map Pl.d) _ ?_ ?_ ⟨rfl,rfl⟩)⟩
 ·rintro j x acc M' N2 gj ⟨rfl,rfl⟩ jG
  rw [List.getElem?_map] at gj
  obtain ⟨p,hp,rfl⟩:=Option.map_eq_some_iff.mp gj
  refine ⟨hM,?_⟩
  walk_at "rd"
  have ft:(ps.take (j+1)).filter (xX f g)=(ps.take j).filter (xX f g) ++ (if xX f g p=true then [p] else []):=by
   rw [List.take_succ,hp,List.filter_append]
   congr 1
   show List.filter (xX f g) [p]=_
   cases e:xX f g p <;> simp [List.filter,e]
  rw [GH]
  cases e:xX f g p with
  | true=>
    walk_at "rd"
    refine jG _ _ ⟨rfl,?_⟩
    rw [ft,if_pos e,List.map_append]
    rfl
  | false=>
    walk_at "rd"
    refine jG _ _ ⟨rfl,?_⟩
    rw [ft,if_neg (by rw [e];simp),List.append_nil]
 rintro acc M' ⟨rfl,rfl⟩
 refine ⟨hM,fun p5 JH=>?_⟩
 rw [List.length_map,List.take_length]
 have hG:aC M' p5 (.lst ((ps.filter (xX f g)).map Pl.d)) p5=some (.lst ((ps.filter (xX f g)).map Pl.d)):=ai
 have hD:=az (u:=MO.lst ((ps.filter (xX f g)).map Pl.d)) hD JH
 generalize aC M' p5 (.lst ((ps.filter (xX f g)).map Pl.d))=QD at hD hG ⊢
 walk_at "rd"
 refine ⟨_,_,rfl,.inr (.inr ⟨p5,rfl,hG⟩),?_⟩
 rw [List.length_map]
 walk_at "rd"
 by_cases k2:(ps.filter (xX f g)).length=1
 ·rw [eq1 (by omega)]
  walk_at "rd"
  refine ⟨_,_,rfl,.inr (.inr ⟨p2,rfl,hD⟩),?_⟩
  rw [List.length_map]
  walk_at "rd"
  rw [show ((fun i j:Int=>decide (j < i)) ((us.filter (hs f g)).length:Int) 0)=true from decide_eq_true (by omega)]
  exact h
 rw [ne1 (by omega)]
 have Pa:=Aa nd (w:=xX f g) (fun p _ q _ h1 h2=>by
  have e1:=of_decide_eq_true h1
  have e2:=of_decide_eq_true h2
  have x1:=e1.1.symm.trans e2.1
  have x2:=e1.2.symm.trans e2.2
  cases p
  cases q
  simp only [Pl.mk.injEq,and_true] at x1 x2
  rw [x1,x2]) k2
 have two:=DJ hC nf hN (tO f g) (fun p hp ⟨q1,q2⟩=>by
  have q1:f.x*g.y=f.y*g.y*p.x:=q1
  have q2:g.x*f.y=f.y*g.y*p.y:=q2
  have r1:f.x=f.y*p.x:=Int.eq_of_mul_eq_mul_right (Int.ne_of_gt gy) (by rw [q1];grind)
  have r2:g.x=g.y*p.y:=Int.eq_of_mul_eq_mul_right (Int.ne_of_gt fy) (by rw [q2];grind)
  obtain ⟨y1,y2⟩:=tK fy sh.fg r1
  obtain ⟨y3,y4⟩:=tK gy sh.gg r2
  have:=Pa p (cC.mem_iff.mp hp)
  have n2:=of_decide_eq_false this
  apply n2
  cases f
  cases g
  simp only at y1 y2 y3 y4
  rw [y1,y2,y3,y4]
  exact ⟨rfl,rfl⟩) (fun a b c ht st=>by
  have one:=tH hC nf hN (tO f g) ht st.1 st.2.1 st.2.2
  have m1: [a,b,c]∈us.filter (hs f g):=List.mem_filter.mpr ⟨ht,(tO f g a b c).mpr ⟨by omega,by omega,by omega⟩⟩
  have m2: [a,b,c]∈(us.filter (hs f g)).filter (zc f g):=List.mem_filter.mpr ⟨m1,decide_eq_true (by rw [kL,kL,kL];exact ⟨st.2.2,st.1,st.2.1⟩)⟩
  have l1:=List.length_filter_le (zc f g) (us.filter (hs f g))
  have l2:=List.length_pos_of_mem m2
  omega)
 walk_at "rd"
 refine ⟨_,_,rfl,.inr (.inr ⟨p2,rfl,hD⟩),?_⟩
 rw [List.length_map]
 walk_at "rd"
 by_cases o1:(us.filter (hs f g)).length=1
 ·rw [eq1 (by omega)]
  walk_at "rd"
  exact h
 rw [ne1 (by omega)]
 walk_at "rd"
 refine ⟨_,_,rfl,.inr (.inr ⟨p2,rfl,hD⟩),?_⟩
 rw [List.length_map]
 walk_at "rd"
 rw [eq1 (by omega)]
 exact h
end
theorem all_mk {P:Program} {w:World} {h:Heap} {mg:Str→Option Value} {fa:Addr} (Y:HD.YP fs bs h) (G:h.Ns mainGlobals mg) (LQ:mg "law" =some (.ref fa)):∃ (K:PySem.W.Frag) (fd:FuncData),K.In h∧(∀ (s:Shared) (v:Value),BindsTo s fd ⟨[v],[]⟩ [("_law_script",v)])∧∀ base:Heap,K.In base→base.Ns mainGlobals mg→cg P w K mg base fE 7 fa fd ["_law_script"] (qW K Cp):=by
 obtain ⟨K,X,H,B⟩:=Y
 unfold fs at H
 unfold bs at B
 obtain ⟨⟨f0,d0,a0,F0⟩,H⟩:=H
 obtain ⟨⟨f1,d1,a1,F1⟩,H⟩:=H
 obtain ⟨⟨f2,d2,a2,F2⟩,H⟩:=H
 obtain ⟨⟨f3,d3,a3,F3⟩,H⟩:=H
 obtain ⟨⟨f4,d4,a4,F4⟩,H⟩:=H
 obtain ⟨⟨f5,d5,a5,F5⟩,H⟩:=H
 obtain ⟨⟨f6,d6,a6,F6⟩,H⟩:=H
 obtain ⟨⟨f7,d7,a7,F7⟩,H⟩:=H
 obtain ⟨⟨f8,d8,a8,F8⟩,H⟩:=H
 obtain ⟨⟨f9,d9,a9,F9⟩,H⟩:=H
 obtain ⟨⟨QE,QF,Pb,Pc⟩,H⟩:=H
 obtain ⟨⟨QG,QH,Pd,Pe⟩,H⟩:=H
 obtain ⟨⟨C3,QI,Pg,Ph⟩,H⟩:=H
 obtain ⟨⟨QJ,QK,Pj,Pk⟩,H⟩:=H
 obtain ⟨⟨QL,QM,Pn,Po⟩,H⟩:=H
 obtain ⟨⟨QN,QO,Pp,Pq⟩,H⟩:=H
 obtain ⟨⟨QS,QT,Pu,Pw⟩,H⟩:=H
 obtain ⟨⟨QU,QV,Px,Py⟩,H⟩:=H
 obtain ⟨⟨QW,QX,Pz,PB⟩,H⟩:=H
 obtain ⟨⟨QY,QZ,PC,PD⟩,H⟩:=H
 obtain ⟨⟨Q2,Q3,PF,PJ⟩,H⟩:=H
 obtain ⟨⟨Q4,Q5,PK,PL⟩,H⟩:=H
 obtain ⟨⟨Q6,Q7,PM,PN⟩,H⟩:=H
 obtain ⟨⟨Q8,Q9,PR,PU⟩,H⟩:=H
 obtain ⟨⟨Ra,Rb,PV,PX⟩,H⟩:=H
 obtain ⟨⟨Rc,Rf,PY,PZ⟩,H⟩:=H
 obtain ⟨⟨Rg,Rh,P0,P4⟩,H⟩:=H
 obtain ⟨⟨Ri,Rj,P5,P6⟩,H⟩:=H
 obtain ⟨⟨Rk,Rl,P7,P8⟩,H⟩:=H
 obtain ⟨⟨Rm,Rn,P9,Qa⟩,H⟩:=H
 obtain ⟨⟨Ro,Rp,Nm,Nn⟩,H⟩:=H
 obtain ⟨z0,B⟩:=B
 obtain ⟨z1,B⟩:=B
 obtain ⟨z2,B⟩:=B
 obtain ⟨z3,B⟩:=B
 obtain ⟨z4,B⟩:=B
 obtain ⟨z5,B⟩:=B
 obtain ⟨z6,B⟩:=B
 obtain ⟨z7,B⟩:=B
 obtain ⟨z8,B⟩:=B
 obtain ⟨z9,B⟩:=B
 obtain ⟨Qc,B⟩:=B
 obtain ⟨Qd,B⟩:=B
 obtain ⟨Qe,B⟩:=B
 obtain ⟨Qf,B⟩:=B
 have e:=LQ.symm.trans (PySem.W.mg_of X G Nm)
 cases e
 have T:Txt K mg ⟨_,_,_,_,_,_,_,_,_,_,_,_,_,_,_,_,_,_,_,_,_,_,_,_,_,_,_,_,_,_,_,_,_,_,_,_,_,_,_,_,_,_,_,_,_,_,_,_,_,_,_,_,_,_,_,_,_,_,_,_,_,_⟩:=⟨F0,PySem.W.mg_of X G a0,F1,PySem.W.mg_of X G a1,F2,PySem.W.mg_of X G a2,F3,PySem.W.mg_of X G a3,F4,PySem.W.mg_of X G a4,F5,PySem.W.mg_of X G a5,F6,PySem.W.mg_of X G a6,F7,PySem.W.mg_of X G a7,F8,PySem.W.mg_of X G a8,F9,PySem.W.mg_of X G a9,Pc,PySem.W.mg_of X G Pb,Pe,PySem.W.mg_of X G Pd,Ph,PySem.W.mg_of X G Pg,Pk,PySem.W.mg_of X G Pj,Po,PySem.W.mg_of X G Pn,Pq,PySem.W.mg_of X G Pp,Pw,PySem.W.mg_of X G Pu,Py,PySem.W.mg_of X G Px,PB,PySem.W.mg_of X G Pz,PD,PySem.W.mg_of X G PC,PJ,PySem.W.mg_of X G PF,PL,PySem.W.mg_of X G PK,PN,PySem.W.mg_of X G PM,PU,PySem.W.mg_of X G PR,PX,PySem.W.mg_of X G PV,PZ,PySem.W.mg_of X G PY,P4,PySem.W.mg_of X G P0,P6,PySem.W.mg_of X G P5,P8,PySem.W.mg_of X G P7,Qa,PySem.W.mg_of X G P9,Nn,PySem.W.mg_of X G Nm,PySem.W.mg_none_of X G z0,PySem.W.mg_none_of X G z1,PySem.W.mg_none_of X G z2,PySem.W.mg_none_of X G z3,PySem.W.mg_none_of X G z4,PySem.W.mg_none_of X G z5,PySem.W.mg_none_of X G z6,PySem.W.mg_none_of X G z7,PySem.W.mg_none_of X G z8,PySem.W.mg_none_of X G z9,PySem.W.mg_none_of X G Qc,PySem.W.mg_none_of X G Qd,PySem.W.mg_none_of X G Qe,PySem.W.mg_none_of X G Qf⟩
 refine ⟨K,_,X,fun s v=>?_,fun base _ _=>GI T⟩
 obtain ⟨_,_,_,_,_,_,_,_,_,rfl,_,_⟩:=Nn.ex
 exact .of_eq rfl
end Pf
open PySem PySem.W PyProof.Rows
set_option maxRecDepth 100000 in
set_option maxHeartbeats 0 in
theorem PySem.Challenge.cw_nearland_k24_points_in_covers_holds : PySem.Challenge.rw_nearland_k24_points_in_covers.Holds := by
 refine holds_law Pf.said fun said=>?_
 refine holds_open (q:=Pf.view) (loose:=Pf.loose) (Xt:=fun s=>xlAt Pf.view [] s && recOk (RowW.records (OpenRow.toRowW PySem.Challenge.rw_nearland_k24_points_in_covers.row)) s) (XP:=XL Pf.view []) (Yf:=HD.zh Pf.fs Pf.bs) (Ya:=fun _=>HD.good Pf.fs Pf.bs) (YP:=fun _ h=>HD.YP Pf.fs Pf.bs h) (N:=2746) Pf.left (fun _ _ e=>HD.Gw e) (fun _ _ _ y k=>HD.keeps y k) (fun s e=>xl_of s (Bool.and_eq_true_iff.mp e).1) XL.keeps (by rfl) (by rfl) (by rfl) (fun s e=>recFacts_of (Bool.and_eq_true_iff.mp e).2) (by rfl) said (by decide +kernel) ⟨rfl,rfl,rfl,rfl,rfl,by decide +kernel⟩ (by w_witness2) ?hc
 refine HD.B9 (l:=PySem.Challenge.rw_nearland_k24_points_in_covers) (n:=63) (k:=7) (x:= "_law_script") (CX:=L2.fE) (sp:=fun K=>L3.qW K Pf.Cp) rfl (by decide) rfl ⟨rfl,by decide,by decide⟩ (fun w mg fa h Y G hmg=>Pf.all_mk Y G hmg) (fun K H a ns hl hb hO hS=>L3.Dg hl hb hO hS) (fun _ _ _ _ z=>z)
